import PyProof.Rows.All
import Wide.All
import OpenK.AllK
import Wide.FinOn
import Lean
import PyProof.EqAt
import PyProof.EqKinds
import PyProof.TupleCall
import KE.KIsAll
import KE.KMinKey
import KE.KTupSum
import KE.KxSplit
import KE.KxAffix
import KE.KIntText
import PyProof.NeKinds
import PyProof.Rows.EqBoolInt
import KE.KSortTup
import KE.KDictLaws
import KE.KNestM
import KE.KDictSum
import PyProof.Conv_int_bool
import PySem.Challenge.RW_rowdam_k46_two_orders
noncomputable section
set_option Elab.async false
set_option linter.all false
set_option compiler.extract_closed false
set_option bootstrap.genMatcherCode false
set_option genSizeOf false
set_option maxRecDepth 100000
set_option hygiene false
local macro_rules | `(tactic| k_go)=> `(tactic| (rintro st H Q ⟨P0,H0,P,Os,env,M,r,M',k,e,q⟩))
local macro_rules | `(tactic| by_in)=> `(tactic| (rcases cA e with⟨d,M1,e1,e⟩ |⟨c,n,e1,rfl⟩))
local macro_rules | `(tactic| cb_eq)=> `(tactic| (refine bM hr fun hu=>?_))
local macro_rules | `(tactic| f_tup)=> `(tactic| (rintro D st H ⟨P0,H0,P,Os,env,M,out,M',k,e,q⟩))
local macro_rules | `(tactic| k_one)=> `(tactic| (rename_i z M3 eg;cases e4;refine xcL (fat I1 fun _ _ _ z=>z) (aU (ha pos pins s1 σ H1 (fun vs H2=>∃P2,LtE P1 H1 P2 H2/\Hk X.K X.mg P2 H2 M2/\cM X.K P2 H2 .val ds vs) I1 ⟨P0,H0,P1,Os,env,M1,_,_,k1,e2,fun P2 vs H2 l2 h2 i2=>⟨P2,l2,h2,i2⟩⟩) fun us s2 h2=>?_) he hpl;obtain⟨vs,H2,I2,rvs,P2,l2,h2,i2⟩:=h2;have l2t:=l2.lt h1;refine⟨fat I2 l2t.frz,?_⟩;have fc2:nM X.K X.mg P2 H2 (P1.io kk) i' caps:=fc.up l2t.fz fun _ _ q=>aC.lt l2t q;refine xdE (xcf (a X.A X.stack s2 H2 us vs Q E0 (P1.io kk) caps P2 M2 ds z _ hr I2.env0 rvs (by rw[i2.len];exact hn _ _ _ _ e2) h2 fc2 i2.iss eg fun P3 v H3 l3 h3 i3=>q P3 v H3 (l1.trans (l2.trans l3)) h3 (cL.of h3 i3)) fun r s' hq=>?_)))
local macro_rules | `(tactic| kj_on)=> `(tactic| (exact⟨P0,H0,P,Os,env,M,_,_,k,e1,q⟩))
local macro_rules | `(tactic| l_out)=> `(tactic| (intro pins s σ H x y v u Q I rx ry h))
local macro_rules | `(tactic| o_new)=> `(tactic| (have st:=Ug s.heap a vs;obtain⟨e1,z1⟩:∃e1,(s.heap.update a (Obj.mapSeq fun _=>(#[]:Array Value))).get? a=some (seqObj "list" #[] e1):=⟨_,xc9 ho fun _=> #[]⟩;have z2:(gW s.heap a vs).get? a=some (seqObj "list" #[] e1):=xac _ (xac _ z1);rw[list_sort_plain];refine xaa (listItems_at ho rfl (xaa (xdu ho rfl (xaa (seqEpoch_at z1 rfl (xaa (wpAny_newTuple (xaa (xdv (xby ?_) (xbz _))) hz)))) (by simpa using hz) (xbz _))));show wpAny (model prog w) A _ P E {s with heap:=gW s.heap a vs};dsimp only))
local macro_rules | `(tactic| sr_in)=> `(tactic| (intro pins s σ H Q I h))
local macro_rules | `(tactic| w_why)=> `(tactic| (intro X hP hw hK hc i pins s σ H E I hf st hg;subst hP hw hK))
local macro_rules | `(tactic| fen_go)=> `(tactic| (rw[mD,xad (by simp only[xaw,xaI];decide)];simp only[xaR,xaN]))
local macro_rules | `(tactic| k_acc1)=> `(tactic| (refine aX k e1 fun P1 v1 H1 l1 h1 i1=>?_))
local macro_rules | `(tactic| k_obj1)=> `(tactic| (obtain⟨f0,f1,f2,f3,f4,f5⟩:=hf it (by simp)))
local macro_rules | `(tactic| k_same)=> `(tactic| (rename_i c n M1 ef;cases e;exact⟨P0,H0,P,Os,env,M,_,_,k,ef,q⟩))
local macro_rules | `(tactic| kas_ty)=> `(tactic| (rcases gw e with⟨d,M1,e1,e⟩ |⟨c,n,e1,rfl⟩))
local macro_rules | `(tactic| kfm_eq)=> `(tactic| (obtain⟨t,rfl⟩:=rx))
local macro_rules | `(tactic| kfm_hd)=> `(tactic| (rename_i env M2 eb;cases e;exact⟨Pl,H,Pl,_,_,M,_,_,st0,eb,fun P' Os' H' st' _ k'=>q P' .non H' k'.base k'.hk rfl⟩))
local macro_rules | `(tactic| kim_at)=> `(tactic| (obtain⟨v,ws,rfl,p,rfl⟩:=i))
local macro_rules | `(tactic| kit_at)=> `(tactic| (rw[xaj]at e;obtain⟨z,ez,e⟩:=e;cases e))
local macro_rules | `(tactic| kj_one)=> `(tactic| (intro pins s σ H xs us Q I r h))
local macro_rules | `(tactic| kjx_on)=> `(tactic| (split at e))
local macro_rules | `(tactic| kpa_ne)=> `(tactic| (obtain⟨jl,rfl⟩:j<P1.n/\v1=.ref (P1.io j):=i1))
local macro_rules | `(tactic| kri_at)=> `(tactic| (rename_i d' M2 eb;cases e;exact⟨Pl,H,Pl,_,_,M,_,_,st0,eb,fun P' v H' l h i=>q P' v H' l h i⟩))
local macro_rules | `(tactic| krn_ne)=> `(tactic| (split at h))
local macro_rules | `(tactic| kt_chr)=> `(tactic| (obtain⟨bm,ob,b1,b2,_,b4,b5,b6,b7,b8⟩:=hb;have kp:∀(o:Obj) (b:Addr) (u:Obj),s.heap.get? b=some u->(s.heap.push o).get? b=some u:=fun o b u e=>xac o e;unfold makeTail;rw[hcl,hge];refine xaa (xak ?_);simp only[ie,xbx,xbX];refine xaa (xdp ?_)))
local macro_rules | `(tactic| kt_str)=> `(tactic| (rcases mU e with⟨ds,M1,e1,e⟩ |⟨c,n,e1,rfl⟩))
local macro_rules | `(tactic| o_args)=> `(tactic| (subst e;obtain⟨o,e,c,d⟩:=st;exact⟨o,e,fun v z=>by rw[d]at z;cases z⟩))
local macro_rules | `(tactic| o_inst)=> `(tactic| (rename_i d M2 eg;cases e;exact⟨P0,H0,P,Os,env,M,_,_,k,e1,fun P1 vs H1 l1 h1 i1=>himp _ _ _ _ ⟨by rw[i1.len];exact hn _ _ _ _ e1,P1,M1,ds,d,_,h1,i1.iss,eg,fun P2 v H2 l2 h2 i2=>q P2 v H2 (l1.trans l2) h2 (cL.of h2 i2)⟩⟩))
local macro_rules | `(tactic| o_norm)=> `(tactic| (obtain⟨u,rfl,rx⟩:=vals1 r;cases rx))
local macro_rules | `(tactic| tb_any)=> `(tactic| (rename_i M4 eq;refine fL kk eq ⟨false,rfl,fun P4 H4 l4 h4=>?_⟩;dsimp only;rw[xae (by decide)];exact⟨P4,M4,acc,l3.trans l4,h4,l4.bm D bD,l4.nc eD nD,l4.keep D _ eD (.inr nD),aC.lt (l4.lt h3) is,hz,ec⟩))
local macro_rules | `(tactic| tb_src)=> `(tactic| (exact aX k e1 q))
local macro_rules | `(tactic| w_head)=> `(tactic| (l_out;obtain⟨i,j,rfl,rfl,q⟩:=h;kfm_eq;obtain⟨t',rfl⟩:=ry))
local macro_rules | `(tactic| w_lens)=> `(tactic| (rw[show its.toArray.any (gM x)=its.any (gM x) by simp,zQ r fs];exact q))
local macro_rules | `(tactic| w_size)=> `(tactic| (rintro st H R ⟨P0,H0,P,Os,env,M,r,M',k,e,q⟩))
set_option hygiene true
def xaa:=@PySem.wpAny_bind
def xab:=@List.getElem?_eq_getElem
def xac:=@PySem.Heap.get?_push_of_some
def xad:=@if_pos
def xae:=@if_neg
def xaf:=@Nat.le_refl
def xag:=@List.length_append
def xah:=@List.getElem?_eq_some_iff
def xai:=@List.size_toArray
def xaj:=@Option.map_eq_some_iff
def xak:=@PySem.wpAny_pure
def xal:=@Nat.lt_of_lt_of_le
def xam:=@List.getElem?_map
def xan:=@List.length_map
def xao:=@List.append_assoc
def xap:=@List.getElem?_append_right
def xaq:=@PySem.Heap.lt_size
def xar:=@Nat.le_trans
def xas:=@List.append_nil
def xat:=@List.mem_cons_of_mem
theorem xau:type_of%@Array.length_toList:=by intros;rfl
def xav:=@List.getD_eq_getElem?_getD
theorem xaw:type_of%@List.length_cons:=by intros;rfl
def xax:=@PySem.Heap.get?_push_size
def xay:=@Bool.false_ne_true
def xaz:=@List.length_set
def xaA:=@Option.some.inj
def xaB:=@List.length_replicate
def xaC:=@List.getElem?_append_left
def xaD:=@Bool.and_eq_true
def xaE:=@Nat.ne_of_lt
def xaF:=@List.mem_of_getElem?
def xaG:=@List.mem_append_right
def xaH:=@decide_eq_false
theorem xaI:type_of%@List.length_nil:=by intros;rfl
theorem xaJ:type_of%@List.length_singleton:=by intros;rfl
theorem xaK:type_of%@Int.toNat_natCast:=by intros;rfl
def xaL:=@Array.getElem_mem
def xaM:=@List.mem_singleton
theorem xaN:type_of%@List.set_cons_zero:=by intros;rfl
def xaO:=@List.mem_cons
def xaP:=@List.map_cons
def xaQ:=@List.getElem?_replicate
theorem xaR:type_of%@List.set_cons_succ:=by intros;rfl
def xaS:=@decide_false
def xaT:=@List.mem_cons_self
def xaU:=@PySem.wpAny_mono
def xaV:=@List.drop_eq_getElem_cons
def xaW:=@List.getElem?_set_self
def xaX:=@decide_eq_true
def xaY:=@List.getElem_mem
def xaZ:=@PySem.wpAny_newObj_type
def xa0:=@List.getElem?_set_ne
def xa2:=@Nat.lt_or_ge
def xa3:=@PySem.W.kia_one
def xa4:=@Array.getElem?_toList
def xa5:=@List.mem_map
def xa6:=@List.flatMap_cons
def xa7:=@List.pairwise_append
def xa8:=@PySem.sizeLine_eq
def xa9:=@PySem.Heap.get?_update_other
def xba:=@Int.emod_lt_of_pos
def xbb:=@Nat.le_of_lt
def xbc:=@PySem.mem_of_lookup
def xbd:=@List.getElem?_set
theorem xbe:type_of%@List.nil_append:=by intros;rfl
def xbf:=@PySem.Obj.data_mapFields
def xbg:=@Nat.le_of_lt_succ
def xbh:=@Nat.lt_irrefl
def xbi:=@Nat.le_antisymm
def xbj:=@Int.emod_nonneg
def xbk:=@Array.mem_toList_iff
def xbl:=@Nat.lt_succ_self
def xbm:=@List.length_take
def xbn:=@Array.toList_push
def xbo:=@beq_eq_false_iff_ne
theorem xbp:type_of%@List.filterMap_cons:=by intros;rfl
def xbq:=@Array.toList_append
def xbr:=@List.map_append
theorem xbs:type_of%@List.extract_eq_take_drop:=by intros;rfl
def xbt:=@List.getElem?_eq_none
def xbu:=@List.set_append_right
theorem xbv:type_of%@Option.getD_some:=by intros;rfl
def xbw:=@List.all_eq_true
def xbx:=@Bool.false_eq_true
def xby:=@PySem.wpAny_holding
def xbz:=@Nat.zero_le
def xbA:=@PySem.wpAny_field
def xbB:=@if_true
def xbC:=@List.length_range
def xbD:=@Bool.eq_iff_iff
def xbE:=@PySem.PassesOwn.never
theorem xbF:type_of%@List.replicate_succ:=by intros;rfl
def xbG:=@List.getElem_of_mem
def xbH:=@Nat.sub_self
def xbI:=@List.take_of_length_le
def xbJ:=@Array.getElem?_eq_some_iff
def xbK:=@Nat.le_of_not_lt
def xbL:=@beq_self_eq_true
def xbM:=@List.filter_cons
def xbN:=@Ne.symm
def xbO:=@List.mem_append
def xbP:=@beq_iff_eq
def xbQ:=@List.nodup_cons
def xbR:=@Array.toList_extract
def xbS:=@PySem.F.plainAttrs_list
theorem xbT:type_of%@List.getElem?_cons_succ:=by intros;rfl
def xbU:=@List.getElem?_range
def xbV:=@List.reverse_append
def xbW:=@List.mem_map_of_mem
def xbX:=@if_false
theorem xbY:type_of%@List.lookup_cons:=by intros;rfl
def xbZ:=@PySem.boot_len
def xb0:=@PySem.W.mg_of
def xb1:=@Nat.le_succ
def xb2:=@List.mem_filterMap
def xb3:=@PySem.wpAny_Call_Name_kw
def xb4:=@PySem.W.callWith_K
theorem xb5:type_of%@Option.map_some:=by intros;rfl
def xb6:=@PySem.wpAny_passesOwn
def xb7:=@PySem.W.methodCall_KW
def xb8:=@PySem.Heap.get?_update_self
theorem xb9:type_of%@List.all_cons:=by intros;rfl
def xca:=@PySem.wpAny_truthy_bool
theorem xcb:type_of%@List.flatten_cons:=by intros;rfl
def xcc:=@List.mem_or_eq_of_mem_set
def xcd:=@List.mem_range
def xce:=@List.Perm.refl
def xcf:=@PySem.codeAny_mono
def xcg:=@PySem.wpAny_call_entry
def xch:=@List.drop_length
def xci:=@List.eq_of_mem_replicate
def xcj:=@PySem.W.plainGet_of
def xck:=@PyProof.Rows.slot_tuple_getitem
def xcl:=@PySem.wpAny_getItem_str_slice
def xcm:=@PySem.wpAny_standAt
theorem xcn:type_of%@List.sum_cons:=by intros;rfl
def xco:=@Nat.lt_of_le_of_lt
def xcp:=@List.filter_append
def xcq:=@List.drop_eq_nil_of_le
def xcr:=@decide_true
def xcs:=@decide_eq_true_eq
def xct:=@PySem.Heap.size_push
def xcu:=@PySem.wpAny_setField
def xcv:=@PySem.Obj.isFreed_of_fields
def xcw:=@List.drop_zero
def xcx:=@PySem.builtinLookup_eq_fast
def xcy:=@List.Perm.append_left
def xcz:=@List.perm_append_comm
def xcA:=@List.take_append_drop
theorem xcB:type_of%@List.take_zero:=by intros;rfl
def xcC:=@PyProof.Rows.callWith_type1
def xcD:=@List.length_drop
def xcE:=@Array.toList_reverse
def xcF:=@PySem.F.excBase_ValueError
def xcG:=@PySem.wpAny_of_eq
def xcH:=@PySem.Heap.SameBut.update
def xcI:=@List.of_mem_zip
def xcJ:=@List.pairwise_iff_getElem
def xcK:=@List.getElem?_take_of_lt
def xcL:=@PySem.W.callWith_F
def xcM:=@Array.size_extract
def xcN:=@Int.zero_add
def xcO:=@PySem.wpAny_callSpecial?_slot
def xcP:=@of_decide_eq_true
def xcQ:=@PySem.W.cellsFrom_some
def xcR:=@List.Perm.append_right
def xcS:=@PySem.wpAny_execs_cons
def xcT:=@PySem.codeAny_call_function
def xcU:=@List.set_getElem_self
def xcV:=@List.eraseIdxIfInBounds_toArray
def xcW:=@Array.toList_eraseIdxIfInBounds
def xcX:=@List.mem_filter
def xcY:=@PySem.Heap.get?_none_of_le
def xcZ:=@List.mem_append_left
def xc1:=@Nat.le_of_eq
def xc2:=@PySem.SeqAt.EqAt.same
theorem xc3:type_of%@List.foldl_cons:=by intros;rfl
def xc4:=@PySem.call_meets
def xc5:=@PySem.wpAny_specialOf
def xc6:=@PySem.post_val_or_str
def xc7:=@Nat.not_lt_zero
def xc8:=@List.cons.injEq
def xc9:=@PyProof.Rows.get?_update_seq
theorem xda:type_of%@List.find?_cons:=by intros;rfl
def xdb:=@PySem.typeLookup_type
def xdc:=@Bool.and_eq_true_iff
def xdd:=@List.Perm.of_eq
def xde:=@PySem.isSubtype_type
def xdf:=@Array.getElem?_setIfInBounds
def xdh:=@List.lt_irrefl
def xdi:=@PyProof.Rows.mirror_perm
def xdj:=@PySem.SeqAt.EqAt.int_str
def xdk:=@PySem.SeqAt.EqAt.str_int
def xdl:=@PyProof.Rows.slot_tuple_getitem
def xdm:=@PySem.SeqAt.EqAt.int_int
def xdn:=@PySem.SeqAt.EqAt.str_str
theorem xdo:type_of%@List.zip_cons_cons:=by intros;rfl
def xdp:=@PySem.wpAny_newTextTuple
def xdq:=@Array.getD_eq_getD_getElem?
def xdr:=@PySem.Calls.Name_function_global
def xds:=@PySem.wpAny_newFunctionEnv_cells
theorem xdt:type_of%@List.any_cons:=by intros;rfl
def xdu:=@PyProof.Rows.listUpdate_at
def xdv:=@PySem.wpAny_newList
def xdw:=@PySem.wpAny_attempt
def xdx:=@Array.toList_setIfInBounds
def xdy:=@Nat.add_assoc
def xdz:=@PySem.W.kitx_list
def xdA:=@PySem.W.kitx_dict
def xdB:=@Nat.le_succ_of_le
def xdC:=@List.pairwise_map
def xdD:=@List.ext_getElem?
def xdE:=@PySem.wpAny_call
def xdF:=@PySem.Calls.call_function_entry
def xdG:=@Array.getElem?_eq_getElem
def xdH:=@Nat.ne_of_gt
def xdI:=@PySem.F.args_tuple_add_2
def xdJ:=@PySem.Txt.slice_le
def xdK:=@PySem.wpAny_comprehension_free
def xdL:=@PySem.F.slot_list_append
def xdM:=@PySem.F.type_list_append
def xdN:=@Array.toList_inj
def xdO:=@PySem.AutoSeq1.wpAny_loadPart'
def xdP:=@Nat.zero_add
def xdQ:=@Array.size_setIfInBounds
def xdR:=@List.Perm.eq_of_pairwise
def xdS:=@List.flatMap_nil
theorem xdT:type_of%@List.cons_append:=by intros;rfl
def xdU:=@PySem.F.entry_tuple_add
def xdV:=@PySem.wpAny_execs_nil
def xdW:=@PySem.F.slot_tuple_add
def xdX:=@PySem.seqIndex_of
def xdY:=@List.drop_of_length_le
def xdZ:=@List.mem_iff_getElem?
def xd0:=@PySem.F.slot_list_pop
def xd1:=@PySem.F.type_list_pop
def xd2:=@List.dropLast_eq_take
def xd3:=@List.drop_drop
def xd4:=@List.countP_mono_left
def xd5:=@Classical.choose_spec
def xd6:=@List.filterMap_append
def xd7:=@List.eq_replicate_iff
def xd8:=@Nat.not_le
def xd9:=@List.reverse_reverse
def xea:=@eq_false
def xeb:=@Bool.and_self
def xec:=@List.map_eq_nil_iff
def xed:=@Int.toNat_of_nonneg
def xee:=@Nat.add_le_add_left
def xef:=@PySem.W.codeHd_of_K
def xeg:=@List.length_pos_iff
def xeh:=@List.flatMap_append
def xei:=@Array.append_assoc
def xej:=@Array.find?_toList
def xek:=@PySem.W.kitx_tuple
def xel:=@PySem.W.codeRec_of
def xem:=@Or.imp
def xen:=@List.map_map
def xeo:=@List.getElem?_drop
def xep:=@List.map_set
theorem xeq:type_of%@List.filterMap_nil:=by intros;rfl
def xer:=@List.take_sublist
def xes:=@Option.some.injEq
def xet:=@bne_self_eq_false
def xeu:=@List.getElem_drop
def xev:=@List.getElem_take
def xew:=@Classical.not_not
def xex:=@Int.le_refl
def xey:=@Nat.not_lt
abbrev Fgx:=PySem.W.Frag
abbrev Mgx:=PySem.Str->Option PySem.Value
abbrev Pnx:=List (PySem.Addr×PySem.Obj)
local macro_rules | `(tactic| x_go)=> `(tactic| decide +kernel)
namespace HQ
open PySem PySem.W PySem.Calls PyProof.Rows
noncomputable def RX {α:Type} (t:BT):(BT->α)->α:= @BT.rec (fun _=>(BT->α)->α) (fun k=>k .nil) (fun v _ _ a b k=>a fun l=>b fun r=>k (.node v l r)) t
theorem Jq {α:Type}:∀(t:BT) (k:BT->α),RX t k=k t
 |.nil,_=>rfl
 |.node _ l r,_=>(Jq l _).trans (Jq r _)
noncomputable def nZ {α:Type} (n:Nat) (k:Nat->α):α:= @Nat.rec (fun _=>α) (k 0) (fun n _=>k (Nat.succ n)) n
theorem RZ {α:Type}(n:Nat)(k:Nat->α):nZ n k=k n:=by cases n<;>rfl
def frs {α:Type}(s:SharedT)(k:SharedT->α):α:= @SharedT.rec (fun _=>α) (fun T n l g d i o=>RX T fun T=>nZ n fun n=>nZ i fun i=>k ⟨T,n,l,g,d,i,o⟩) s
def Z4 {α:Type}(s:SharedT)(k:SharedT->α):frs s k=k s:=(Jq _ _).trans ((RZ _ _).trans (RZ _ _))
abbrev qd:Code->Sem Fin:=Fast.tw11892475500146522536 Fast.tw14364793385576792824
noncomputable def Oo (p:Program) (w:World):SharedT->Thread->Option (SharedT×Thread)
  |⟨T,n,l,g,d,i,o⟩,⟨c,cd,q,fs⟩=>match c with
    |.load .. |.update .. |.alloc .. |.loadIfAlive .. =>Fast.tw10156331382660048174 qd p w ⟨T,n,l,g,d,i,o⟩ ⟨c,cd,q,fs⟩
    |c=>match Fast.tw8437177126325714943 qd p w ⟨{},g,d,i,o⟩ ⟨c,cd,q,fs⟩ with
      |.go ⟨_,g,d,i,o⟩ t=>some (⟨T,n,l,g,d,i,o⟩,t)
      |.halt _ _=>none
def zeS {p:Program}{w:World}(s:SharedT)(t:Thread):Oo p w s t=stepT (denote treeTable) p w s t:=by
 obtain⟨T,n,l,g,d,i,o⟩:=s;obtain⟨c,cd,q,fs⟩:=t;rw[show denote treeTable=qd by unfold qd;rw[<-Fast.te11892475500146522536, <-Fast.te14364793385576792824]];cases c<;>(unfold Oo;dsimp only;first |rw[<-Fast.te10156331382660048174] |(unfold stepT;dsimp only;rw[<-Fast.te8437177126325714943];cases step qd p w _ _<;>rfl))
abbrev OS:=Option SharedT
noncomputable def bd (p:Program) (w:World) (n:Nat) (ih:SharedT->Thread->OS) (s:SharedT) (t:Thread):OS:=
 @Bool.rec (fun _=>OS) (@Bool.rec (fun _=>OS) none (@Option.rec _ (fun _=>OS) none (fun r=> @Prod.rec _ _ (fun _=>OS) (fun s t=> @Bool.rec (fun _=>OS) (ih s t) (frs s fun s=>ih s t) (Nat.beq (n % 64) 0)) r) (Oo p w s t)) (Fast.tw6613529449190102663 11 (some (.ref 6)) t)) (some s) (through t)
noncomputable def go (p:Program) (w:World) (n:Nat):SharedT->Thread->OS:= @Nat.rec (fun _=>SharedT->Thread->OS) (fun _ _=>none) (bd p w) n
theorem wY {p:Program}{w:World}:∀{n:Nat} {s s':SharedT} {t:Thread},go p w n s t=some s'->topRun treeTable p w 11 (some (.ref 6)) n s.abs t=some s'.abs
  |0,_,_,_,h=>by cases h
  |n + 1,s,s',t,h=>by
    rw[show go p w (n + 1) s t=bd p w n (go p w n) s t from rfl]at h;unfold bd at h;rw[zeS, <-Fast.te6613529449190102663]at h;unfold topRun
    cases ht:through t with
    |true=>rw[ht]at h;cases h;rfl
    |false=>
      rw[ht]at h
      cases hk:stepOk 11 (some (.ref 6)) t with
      |false=>rw[hk]at h;cases h
      |true=>
        rw[hk]at h
        cases hs:stepT (denote treeTable) p w s t with
        |none=>rw[hs]at h;cases h
        |some r=>
          obtain⟨s₂,t₂⟩:=r;rw[hs]at h;dsimp only at h ⊢;rw[stepT_spec hs];rw[Z4]at h;exact wY (by revert h;cases Nat.beq (n % 64) 0<;>exact id)
noncomputable def mkT:List Obj->Nat->BT->BT
 | [],_,t=>t
 |o::l,i,t=>mkT l (i + 1) (t.ins i o)
noncomputable def bS (w:World) (o:OsState):SharedT:=⟨mkT (boot_heap w.params).objs.toList 0 .nil,11,{},⟨[]⟩,boot_drawn,boot_toks,o⟩
theorem Yx (w:World)(o:OsState):(bS w o).abs=⟨boot_heap w.params,⟨[]⟩,boot_drawn,boot_toks,o⟩:=by kernel_rfl
theorem Yy (P:Params):((boot_heap P).isNs mainGlobals && (Array.mk []:Array GenState).size==0,(boot_heap P).objs.size,(boot_heap P).nsMap mainGlobals "__annotations__")=(true,11,some (.ref 6)):=by kernel_rfl
noncomputable def lst {α:Type} (T:BT) (n:Nat):List Obj->(List Obj->α)->α:=
 @Nat.rec (fun _=>List Obj->(List Obj->α)->α) (fun a k=>k a) (fun i ih a k=> @Option.rec Obj (fun _=>α) (ih (default::a) k) (fun o=> @Obj.rec (fun _=>α) (fun c d t l=>ih (⟨c,d,t,l⟩::a) k) o) (T.get i)) n
theorem Ua {α:Type}(T:BT):∀(n:Nat) (a:List Obj) (k:List Obj->α),lst T n a k=k (T.list n ++ a)
  |0,_,_=>rfl
  |n + 1,a,k=>by
    rw[show T.list (n + 1)=T.list n ++ [(T.get n).getD default] by unfold BT.list;rw[List.range_succ,xbr];rfl,xao];unfold lst;dsimp only;cases T.get n<;>exact Ua T n _ k
noncomputable def Qa {α:Type} (s:SharedT) (k:Shared->α):α:= @SharedT.rec (fun _=>α) (fun T n l g d i o=>lst T n [] fun a=>k ⟨⟨⟨a⟩,l⟩,g,d,i,o⟩) s
def Qc {α:Type}(s:SharedT)(k:Shared->α):Qa s k=k s.abs:=(Ua _ _ _ _).trans (by rw[xas];rfl)
section
variable {p q:Program}{lo:List Str}{Xt:Shared->Bool}{α:Type}{Yf:Shared->α}{Ya:World->α}{N:Nat}{g0:Bool}{B C:Prop}
abbrev Pre (_:LeftO p q lo Xt Yf Ya N g0/\B->C):Prop:=(opening p=plainProg p.main.scope.names/\∀s,fenceModules? p s=some s)/\Nat.ble 600 N=true
abbrev See {β:Type}(p:Program)(N:Nat)(v:World->World)(f:World->Shared->β)(y:World->β):Prop:=∀w o,(go p (v w) N (bS (v w) o) (topStub p)).map (fun s=>Qa s (f (v w)))=some (y (v w))
abbrev mJ (v:World->World)(_:LeftO p q lo Xt Yf Ya N g0/\B->C):Prop:=
 See p N v (fun w s=>(staticsOk (importedModules p.main.body) (boot_heap w.params) s.heap && namesBound p s.heap && gensDone s && laidKept (boot_heap w.params) s.heap,Yf s)) fun w=>(true,Ya w)
abbrev mK (v:World->World)(_:LeftO p q lo Xt Yf Ya N g0/\B->C):Prop:=See p N v (fun _ s=>Fast.tw4187177175401517315 q lo (importedModules p.main.body) Xt g0 s) fun _=>openGood q lo
def left {v:World->World}{H:LeftO p q lo Xt Yf Ya N g0/\B->C}(e:Pre H)(a:mJ v H)(b:mK v H)(w:World):
  (openEnds treeTable p (v w) N).map (fun s=>(openSeen q lo (importedModules p.main.body) Xt g0 s,Yf s))=some (openGood q lo,Ya (v w)):=by
 obtain⟨⟨h,gs,d,k,o⟩,e1,e2⟩:=xaj.mp (boot_open e.1.1 e.2 e.1.2 (v w));obtain⟨rfl,rfl,rfl,rfl⟩:h=boot_heap (v w).params/\gs=⟨[]⟩/\d=boot_drawn/\k=boot_toks:=by simpa using e2
 obtain⟨s,hs,hv⟩:=xaj.mp (a w o);have hb:=b w o;rw[hs,xb5,Qc, <-Fast.te4187177175401517315]at hb;rw[Qc]at hv;obtain⟨l1,l3⟩:=Prod.mk.inj hv;obtain⟨z1,z2,z3⟩:_/\_/\_:=by simpa only[Prod.mk.injEq] using Yy (v w).params
 have hr:=wY hs;rw[Yx]at hr;have t:topFrom treeTable p (v w) N ⟨boot_heap (v w).params,⟨[]⟩,boot_drawn,boot_toks,o⟩=some s.abs:=by
  unfold topFrom;dsimp only;rw[z1,z2,z3,hr];dsimp only[Option.bind_some];rw[l1]
 unfold openEnds;rw[e1,Option.bind_some,t];exact congrArg some (Prod.ext (xaA hb) l3)
def two (row:String){H:LeftO p q lo Xt Yf Ya N g0/\B->C}(e:Pre H)(a:mJ (·.withFollow row false) H)(b:mK (·.withFollow row false) H)(c:mJ (·.withFollow row true) H)(d:mK (·.withFollow row true) H)(hB:B):C:=
 H ⟨fun w=>by
  have x:=left e a b w;have y:=left e c d w;have z:=World.withFollow_self w row;cases h:w.params.followText row<;>rw[h]at z<;>simp only[z]at x y<;>assumption,hB⟩
end
end HQ
section
local macro_rules
  | `(tactic| refine $f:term $as:term*)=>do
    let mut bs:= #[]
    let mut hit:=false
    for a in as do
      if a.raw.isOfKind ``Lean.Parser.Term.syntheticHole && a.raw[1].getId== `hl then
        hit:=true
        bs:=bs.push (<- `((And.left ?hx)))
      else if a.raw.isOfKind ``Lean.Parser.Term.syntheticHole && a.raw[1].getId== `hc then
        bs:=bs.push (<- `((And.right ?hx)))
      else bs:=bs.push a
    if hit then `(tactic| refine $f $bs*) else Lean.Macro.throwUnsupported
set_option maxHeartbeats 0 in
def PySem.W.Fast.tw7349796091910327026:=PySem.Challenge.pw_rowdam_k46_two_orders
theorem PySem.W.Fast.te7349796091910327026:PySem.Challenge.pw_rowdam_k46_two_orders=PySem.W.Fast.tw7349796091910327026:=rfl
set_option maxHeartbeats 0 in
open_top My.hdAll for PySem.Challenge.rw_rowdam_k46_two_orders
theorem My.he:HQ.Pre My.hdAll:=⟨⟨by kernel_rfl,fun _=>by kernel_rfl⟩,by kernel_rfl⟩
theorem My.hBf:HQ.mK (·.withFollow "special-get-raises" false) My.hdAll:=fun _ _=>by kernel_rfl
theorem My.hBt:HQ.mK (·.withFollow "special-get-raises" true) My.hdAll:=fun _ _=>by kernel_rfl
theorem My.hAf:HQ.mJ (·.withFollow "special-get-raises" false) My.hdAll:=fun _ _=>by kernel_rfl
theorem My.hAt:HQ.mJ (·.withFollow "special-get-raises" true) My.hdAll:=fun _ _=>by kernel_rfl
end
namespace L2
open PySem PySem.Spec PyProof.Rows
abbrev Key:=Sum Int Str
noncomputable def yS:Key->Value->Bool
 |.inl k,v=>Value.isInt k v
 |.inr x,v=>Value.isStrOf x v
def J8 (w:World):Key->Int
 |.inl k=>hashInt k
 |.inr x=>hashStr w x
def rM:∀{k:Key} {v:Value},yS k v=true->(∃i t,k=Sum.inl i/\v=Value.int i t)\/(∃x t,k=Sum.inr x/\v=Value.str x t)
  |.inl i,v,h=>by
    obtain⟨t,e⟩:=Value.isInt_shape (k:=i) (v:=v) h;exact .inl ⟨i,t,rfl,e⟩
  |.inr x,v,h=>by
    obtain⟨t,e⟩:=Value.isStrOf_shape (x:=x) (v:=v) h;exact .inr ⟨x,t,rfl,e⟩
def zbF (i:Int)(t:Tok):yS (.inl i) (.int i t)=true:=by simp[yS,Value.isInt]
def zbv (x:Str)(t:Tok):yS (.inr x) (.str x t)=true:=by simp[yS,Value.isStrOf]
def ze1 (a b:Int):decide ((Sum.inl a:Key)=Sum.inl b)=(a==b):=by
 by_cases e:a=b
 ·subst e;simp
 ·have h:¬ (Sum.inl a:Key)=Sum.inl b:=fun q=>e (Sum.inl.inj q);rw[xaH h];exact(xbo.mpr e).symm
def zfi (a b:Str):decide ((Sum.inr a:Key)=Sum.inr b)=decide (a=b):=by
 by_cases e:a=b
 ·subst e;simp
 ·have h:¬ (Sum.inr a:Key)=Sum.inr b:=fun q=>e (Sum.inr.inj q);rw[xaH h,xaH e]
def zdV (a:Int)(b:Str):decide ((Sum.inl a:Key)=Sum.inr b)=false:=xaH (fun q=>nomatch q)
def zen (a:Str)(b:Int):decide ((Sum.inr a:Key)=Sum.inl b)=false:=xaH (fun q=>nomatch q)
noncomputable def pA (prog:Program) (w:World):PySem.KeyKind prog w Key where
 is:=yS
 hash:=J8 w
 inj:=fun v a b ha hb=>by
  rcases rM ha with⟨i,t,rfl,rfl⟩ |⟨x,t,rfl,rfl⟩
  ·rcases rM hb with⟨j,u,rfl,e⟩ |⟨y,u,rfl,e⟩
   ·injection e with e1 _;rw[e1]
   ·exact nomatch e
  ·rcases rM hb with⟨j,u,rfl,e⟩ |⟨y,u,rfl,e⟩
   ·exact nomatch e
   ·injection e with e1 _;rw[e1]
 byValue:=fun k v h=>by
  rcases rM h with⟨i,t,rfl,rfl⟩ |⟨x,t,rfl,rfl⟩<;>rfl
 pyHash:=fun hv h=>by
  rcases rM hv with⟨i,t,rfl,rfl⟩ |⟨x,t,rfl,rfl⟩
  ·exact wpAny_pyHash_int h
  ·exact wpAny_pyHash_str h
 eqBool:=fun hu hv h=>by
  rcases rM hu with⟨i,t,rfl,rfl⟩ |⟨x,t,rfl,rfl⟩
  ·rcases rM hv with⟨j,u,rfl,rfl⟩ |⟨y,u,rfl,rfl⟩
   ·rw[ze1]at h;exact wpAny_eqBool_int h
   ·rw[zdV]at h;exact xdj i t y u _ _ _ _ h
  ·rcases rM hv with⟨j,u,rfl,rfl⟩ |⟨y,u,rfl,rfl⟩
   ·rw[zen]at h;exact xdk x t j u _ _ _ _ h
   ·rw[zfi]at h;exact wpAny_eqBool_str h
 «strs» :=fun k x t v h=>by
  rcases rM h with⟨i,u,rfl,e⟩ |⟨y,u,rfl,e⟩
  ·exact nomatch e
  ·injection e with e1 _
   subst e1;cases v<;>rfl
def zaW (prog:Program)(w:World)(i:Int)(t:Tok):(pA prog w).is (.inl i) (.int i t)=true:=zbF i t
def Kq (prog:Program)(w:World)(x:Str)(t:Tok):(pA prog w).is (.inr x) (.str x t)=true:=zbv x t
inductive V where
 |non |bl (b:Bool) |int (i:Int) |str (x:Str) |byt (b:Array UInt8) |flt (b:UInt64) |ref (a:Addr) |ty (n:String)
 deriving DecidableEq
noncomputable def RelV:V->Value->Prop
 |.non,u=>u=Value.none
 |.bl b,u=>u=Value.bool b
 |.int i,u=>∃t,u=Value.int i t
 |.str x,u=>∃t,u=Value.str x t
 |.byt b,u=>∃t,u=Value.bytes b t
 |.flt b,u=>∃t,u=Value.float b t
 |.ref a,u=>u=Value.ref a
 |.ty n,u=>u=Value.type n
abbrev Vals:List V->List Value->Prop:=Paired RelV
theorem Vals.length (r:Vals xs us):xs.length=us.length:=Paired.length r
theorem Vals.get:∀{xs:List V} {us:List Value} {i:Nat} {x:V},Vals xs us->xs[i]? =some x->∃u,us[i]? =some u/\RelV x u
  |_,_,_,_,.nil,e=>by simp at e
  |_,_,0,_,.cons r _,e=>by simp at e;subst e;exact⟨_,rfl,r⟩
  |_,_,i + 1,x,.cons _ t,e=>by
    obtain⟨u,h1,h2⟩:=Vals.get (i:=i) (x:=x) t (by simpa using e);exact⟨u,by simpa using h1,h2⟩
theorem Vals.set (r:RelV x u):∀{xs:List V} {us:List Value} (i:Nat),Vals xs us->Vals (xs.set i x) (us.set i u)
 |_,_,_,.nil=>.nil
 |_,_,0,.cons _ t=>.cons r t
 |_,_,i + 1,.cons q t=>.cons q (Vals.set r i t)
theorem Vals.append:∀{xs ys:List V} {us ws:List Value},Vals xs us->Vals ys ws->Vals (xs ++ ys) (us ++ ws)
 |_,_,_,_,.nil,s=>s
 |_,_,_,_,.cons r t,s=>.cons r (Vals.append t s)
theorem Vals.take:∀{xs:List V} {us:List Value} (n:Nat),Vals xs us->Vals (xs.take n) (us.take n)
 |_,_,0,_=>.nil
 |_,_,_ + 1,.nil=>.nil
 |_,_,n + 1,.cons r t=>.cons r (Vals.take n t)
theorem Vals.drop:∀{xs:List V} {us:List Value} (n:Nat),Vals xs us->Vals (xs.drop n) (us.drop n)
 |_,_,0,r=>r
 |_,_,_ + 1,.nil=>.nil
 |_,_,n + 1,.cons _ t=>Vals.drop n t
noncomputable def eE:Option V->Option Value->Prop
 |some v,some u=>RelV v u
 |none,none=>True
 |_,_=>False
def KV {κ:Type}:List (κ×V)->List (κ×Value)->Prop:=Paired fun(p:κ×V) (q:κ×Value)=>p.1=q.1/\RelV p.2 q.2
def kV:Key->V
 |.inl i=>.int i
 |.inr x=>.str x
inductive HO where
  |lst (xs:List V)
  |tup (xs:List V)
  |dK (kvs:List (Key×V)) |dT (kvs:List (List Key×V))
  |set (S:Int->Bool) (n:Nat)
  |ins (C dx:Addr) (fs:List (Str×V))
  |own (x:Addr)
  |xd (fs:List (Str×V))
  |met (f x:Addr)
  |rng (lo hi:Int)
  |frz (o:Obj) (u:HO)
  |tbl (ps:Array Value)
  |ext (φ:Heap->Prop)
abbrev Hp:=Addr->Option HO
noncomputable def upd (H:Hp) (a:Addr) (o:HO):Hp:=fun b=>if b=a then some o else H b
def cu:upd H a o a=some o:=by unfold upd;rw[xad rfl]
def aZ (h:b≠a):upd H a o b=H b:=by unfold upd;rw[xae h]
def lR {H:Hp}{a b:Addr}{o:HO}(h:H a=some o)(h':H b=none):a≠b:=by
 intro e;subst e;rw[h]at h';cases h'
section
variable (P:Program)(w:World)
noncomputable def dJ (H:Hp) (h:Heap) (a:Addr):HO->Prop
 |.lst xs=>xs.length<=sizeLine/\∃(its:List Value) (n:Nat),Vals xs its/\h.get? a=some {cls:=.type "list",data:=.seq its.toArray n}
 |.tup xs=>xs.length<=sizeLine/\∃its:List Value,Vals xs its/\IsTup h a its.toArray
 |.dK kvs=>kvs.length<=sizeLine/\(a==sysModules)=false/\∃vs,KV kvs vs/\h.DictOf (pA P w) a vs
 |.dT kvs=>kvs.length<=sizeLine/\(a==sysModules)=false/\∃xs:List (List Key×Addr×Value),
   Paired (fun(p:List Key×V) (q:List Key×Addr×Value)=>p.1=q.1/\H q.2.1=some (.tup (p.1.map kV))/\RelV p.2 q.2.2) kvs xs/\
   ∃o es ep,h.get? a=some o/\o.ExactDict/\o.data=.dict es ep/\es.toList=xs.map (entryOfKey (tupleKind (pA P w)))/\(xs.map (·.1)).Nodup
 |.set S n=>h.SetOf (intKind P w) a S n
 |.ins C dx fs=>H dx=some (.own a)/\fs.length<=1000/\dx≠a/\h.get? a=some (PySem.W.instObj C dx)/\
   ∃mA,h.Ns1 dx mA/\(∀f,eE (fs.lookup f) (mA f))/\PySem.Within mA (fs.map (·.1))
 |.own _=>∃o,h.get? a=some o
 |.xd fs=>∃mA,h.Ns1 a mA/\∀f,eE (fs.lookup f) (mA f)
 |.rng lo hi=>∃t u v,h.get? a=some {cls:=.type "range",data:=.fields #[.int lo t,.int hi u,.int 1 v]}
 |.frz o u=>h.get? a=some o/\dJ H h a u
 |.tbl ps=>h.get? a=some {cls:=.none,data:=.fields ps}
 |.met f x=>h.get? a=some (PySem.W.methodObj (.ref f) (.ref x))
 |.ext φ=>φ h/\(∃o,h.get? a=some o)/\∀h1 h2:Heap,φ h1->(∀o,h1.get? a=some o->h2.get? a=some o)->φ h2
def cJ (H:Hp)(h:Heap):Prop:=∀a o,H a=some o->dJ P w H h a o
end
section
variable {P:Program}{w:World}{H H':Hp}{h h':Heap}{a:Addr}{o:HO}
theorem dJ.lt (x:dJ P w H h a o):a<h.objs.size:=by
 cases o with
 |lst xs=>obtain⟨_,_,_,_,e⟩:=x;exact xaq e
 |tup xs=>obtain⟨_,_,_,p⟩:=x;exact p.lt
 |dK kvs=>obtain⟨_,_,_,_,o,_,_,e,_⟩:=x;exact xaq e
 |dT kvs=>obtain⟨_,_,_,_,o,_,_,e,_⟩:=x;exact xaq e
 |set S n=>obtain⟨o,_,_,_,e,_⟩:=x;exact xaq e
 |ins C dx fs=>obtain⟨_,_,_,e,_⟩:=x;exact xaq e
 |own y=>obtain⟨_,e⟩:=x;exact xaq e
 |xd fs=>obtain⟨_,⟨_,_,_,e,_⟩,_⟩:=x;exact xaq e
 |rng lo hi=>obtain⟨_,_,_,e⟩:=x;exact xaq e
 |frz ob u=>obtain⟨e,_⟩:=x;exact xaq e
 |tbl ps=>exact xaq (show h.get? a=some _ from x)
 |met f y=>exact xaq (show h.get? a=some _ from x)
 |ext φ=>obtain⟨_,⟨_,e⟩,_⟩:=x;exact xaq e
theorem Paired.mapP:∀{l₁:List α} {l₂:List β},Paired F l₁ l₂->(∀a b,F a b->G a b)->Paired G l₁ l₂
 |_,_,.nil,_=>.nil
 |_,_,.cons r t,f=>.cons (f _ _ r) (Paired.mapP t f)
def dJ.stay (x:dJ P w H h a o)(k:∀b u,(b=a\/H b=some (.own a))->h.get? b=some u->h'.get? b=some u)
    (ho:∀b,H b=some (.own a)->H' b=some (.own a)) (ht:∀b xs,H b=some (.tup xs)->H' b=some (.tup xs)):dJ P w H' h' a o:=by
  induction o with
  |lst xs=>obtain⟨z,its,n,r,e⟩:=x;exact⟨z,its,n,r,k _ _ (.inl rfl) e⟩
  |tup xs=>obtain⟨z,its,r,ob,e,c⟩:=x;exact⟨z,its,r,ob,k _ _ (.inl rfl) e,c⟩
  |dK kvs=>obtain⟨z,y,vs,r,ob,es,ep,e,c⟩:=x;exact⟨z,y,vs,r,ob,es,ep,k _ _ (.inl rfl) e,c⟩
  |dT kvs=>
    obtain⟨z,y,xs,r,ob,es,ep,e,c⟩:=x;exact⟨z,y,xs,Paired.mapP r fun p q z=>⟨z.1,ht _ _ z.2.1,z.2.2⟩,ob,es,ep,k _ _ (.inl rfl) e,c⟩
  |set S n=>obtain⟨ob,es,ep,t,e,c⟩:=x;exact⟨ob,es,ep,t,k _ _ (.inl rfl) e,c⟩
  |ins C dx fs=>
    obtain⟨d,z,ne,e,mA,⟨od,es,ep,e2,c⟩,r⟩:=x;exact⟨ho _ d,z,ne,k _ _ (.inl rfl) e,mA,⟨od,es,ep,k _ _ (.inr d) e2,c⟩,r⟩
  |own y=>obtain⟨ob,e⟩:=x;exact⟨ob,k _ _ (.inl rfl) e⟩
  |xd fs=>obtain⟨mA,⟨od,es,ep,e,c⟩,r⟩:=x;exact⟨mA,⟨od,es,ep,k _ _ (.inl rfl) e,c⟩,r⟩
  |rng lo hi=>obtain⟨t,u,v,e⟩:=x;exact⟨t,u,v,k _ _ (.inl rfl) e⟩
  |frz ob u ih=>obtain⟨e,q⟩:=x;exact⟨k _ _ (.inl rfl) e,ih q⟩
  |tbl ps=>
    have e:h.get? a=some {cls:=.none,data:=.fields ps}:=x;show h'.get? a=some {cls:=.none,data:=.fields ps};exact k a _ (.inl rfl) e
  |met f y=>
    have e:h.get? a=some (PySem.W.methodObj (.ref f) (.ref y)):=x;show h'.get? a=some (PySem.W.methodObj (.ref f) (.ref y));exact k a _ (.inl rfl) e
  |ext φ=>obtain⟨p,⟨o,e⟩,st⟩:=x;exact⟨st _ _ p fun o q=>k _ _ (.inl rfl) q,⟨o,k _ _ (.inl rfl) e⟩,st⟩
theorem cJ.lt (x:cJ P w H h)(e:H a=some o):a<h.objs.size:=(x a o e).lt
def cJ.fresh (x:cJ P w H h)(e:h.objs.size<=a):H a=none:=by
 cases q:H a with
 |none=>rfl
 |some u=>exact absurd (xal (x.lt q) e) (xbh _)
def cJ.kept (x:cJ P w H h)(k:∀b u,h.get? b=some u->h'.get? b=some u):cJ P w H h':=fun a o e=>
 (x a o e).stay (fun b u _ q=>k b u q) (fun _ q=>q) fun _ _ q=>q
def cJ.laid (x:cJ P w H h)(k:∀b u,h.get? b=some u->h'.get? b=some u)(hp:h.objs.size<=a)(new:dJ P w (upd H a o) h' a o):cJ P w (upd H a o) h':=fun b u e=>by
 have hn:=x.fresh hp
 by_cases hb:b=a
 ·subst hb;rw[cu]at e;cases e;exact new
 ·rw[aZ hb]at e;exact(x b u e).stay (fun c v _ q=>k c v q) (fun c q=>by rw[aZ (lR q hn)];exact q) fun c xs q=>by rw[aZ (lR q hn)];exact q
end
def Rd (H:Hp)(a:Addr)(u:HO):Prop:=H a=some u\/∃o,H a=some (.frz o u)
def Rd.ok (r:Rd H a u)(x:cJ P w H h):dJ P w H h a u:=by
 rcases r with r |⟨o,r⟩
 ·exact x a u r
 ·obtain⟨_,q⟩:=x a _ r;exact q
noncomputable def Du:Option HO->Prop
 |some (.lst _)=>True
 |some (.dK _)=>True
 |some (.dT _)=>True
 |some (.set _ _)=>True
 |some (.ins _ _ _)=>True
 |some (.ext _)=>True
 |_=>False
section
variable {P:Program}{w:World}{H:Hp}{h h':Heap}{x e:Addr}{o':HO}
theorem cJ.write (ok:cJ P w H h)(mu:Du (H x))(he:e=x\/H e=some (.own x))(k:∀b u,b≠e->h.get? b=some u->h'.get? b=some u)(heo:∃u,h'.get? e=some u)
  (new:dJ P w (upd H x o') h' x o'):cJ P w (upd H x o') h':=fun b u q=>by
 have nown:∀c y,H c=some (.own y)->c≠x:=fun c y r z=>by subst z;rw[r]at mu;exact mu
 have ntup:∀c xs,H c=some (.tup xs)->c≠x:=fun c xs r z=>by subst z;rw[r]at mu;exact mu
 by_cases hb:b=x
 ·subst hb;rw[cu]at q;cases q;exact new
 ·rw[aZ hb]at q
  by_cases hbe:b=e
  ·have q':H b=some (.own x):=by
    rcases he with z |z
    ·exact absurd (hbe.trans z) hb
    ·rw[hbe];exact z
   rw[q]at q';cases q';obtain⟨v,hv⟩:=heo;exact⟨v,by rw[hbe];exact hv⟩
  ·refine(ok b u q).stay (fun c v hc r=>k c v ?_ r) (fun c r=>by rw[aZ (nown c b r)];exact r) fun c xs r=>by rw[aZ (ntup c xs r)];exact r
   rcases hc with rfl |hc
   ·exact hbe
   ·rintro rfl;rcases he with z |z
    ·exact nown c b hc z
    ·rw[hc]at z;cases z;exact hb rfl
end
structure Un (fs ex:List Addr)(H H':Hp)(h h':Heap):Prop where
 keep:∀b o,h.get? b=some o->H b=none->b∉fs->b∉ex->h'.get? b=some o
 slot:∀b o,h.get? b=some o->H b=none->b∈fs->b∉ex->∃sl,h'.get? b=some {o with slots:=sl}
 free:∀b o,h.get? b=some o->H b=none->b∉ex->H' b=none
 there:∀b o,h.get? b=some o->b∉ex->∃o',h'.get? b=some o'
 tups:∀b xs,H b=some (.tup xs)->H' b=some (.tup xs)
 frzs:∀b o u,H b=some (.frz o u)->H' b=some (.frz o u)
 tbls:∀b ps,H b=some (.tbl ps)->∃more,H' b=some (.tbl (ps ++ more))
section
variable {fs fs' ex ex':List Addr}{H H1 H2:Hp}{h h1 h2 h':Heap}{a x e:Addr}{o:HO}
def Un.any (u:Un fs ex H H1 h h1)(q:h.get? b=some ob)(n:H b=none)(hx:b∉ex):∃sl,h1.get? b=some {ob with slots:=sl}:=by
 by_cases hb:b∈fs
 ·exact u.slot b ob q n hb hx
 ·exact⟨ob.slots,u.keep b ob q n hb hx⟩
def Un.trans (a:Un fs ex H H1 h h1)(b:Un fs ex H1 H2 h1 h2):Un fs ex H H2 h h2 where
 keep:=fun c ob q n hc hx=>b.keep c ob (a.keep c ob q n hc hx) (a.free c ob q n hx) hc hx
 slot:=fun c ob q n hc hx=>by
  obtain⟨sl,e1⟩:=a.slot c ob q n hc hx;obtain⟨sl',e2⟩:=b.slot c _ e1 (a.free c ob q n hx) hc hx;exact⟨sl',e2⟩
 free:=fun c ob q n hx=>by
  obtain⟨o',e1⟩:=a.there c ob q hx;exact b.free c o' e1 (a.free c ob q n hx) hx
 there:=fun c ob q hx=>by
  obtain⟨o',e1⟩:=a.there c ob q hx;exact b.there c o' e1 hx
 tups:=fun c xs q=>b.tups c xs (a.tups c xs q)
 frzs:=fun c ob xs q=>b.frzs c ob xs (a.frzs c ob xs q)
 tbls:=fun c ps q=>by
  obtain⟨m1,e1⟩:=a.tbls c ps q;obtain⟨m2,e2⟩:=b.tbls c _ e1;exact⟨m1 ++ m2,by rw[e2,xei]⟩
def Un.kept (k:∀b u,h.get? b=some u->h'.get? b=some u):Un fs ex H H h h':=
 ⟨fun b ob q _ _ _=>k b ob q,fun b ob q _ _ _=>⟨ob.slots,k b ob q⟩,fun _ _ _ n _=>n,fun b ob q _=>⟨ob,k b ob q⟩,fun _ _ q=>q,fun _ _ _ q=>q,fun _ ps q=>⟨#[],by rw[q];simp⟩⟩
def Un.refl:Un fs ex H H h h:=Un.kept fun _ _ q=>q
def Un.laid (k:∀b u,h.get? b=some u->h'.get? b=some u)(hp:h.objs.size<=a)(hn:H a=none):Un fs ex H (upd H a o) h h' where
 keep:=fun b u q _ _ _=>k b u q
 slot:=fun b u q _ _ _=>⟨u.slots,k b u q⟩
 free:=fun b u q n _=>by rw[aZ (xaE (xal (xaq q) hp))];exact n
 there:=fun b u q _=>⟨u,k b u q⟩
 tups:=fun b xs q=>by rw[aZ (lR q hn)];exact q
 frzs:=fun b u xs q=>by rw[aZ (lR q hn)];exact q
 tbls:=fun b ps q=>⟨#[],by rw[aZ (lR q hn),q];simp⟩
def Un.write (mu:Du (H x))(he:e=x\/H e=some (.own x))(k:∀b u,b≠e->h.get? b=some u->h'.get? b=some u)(heo:∃u,h'.get? e=some u):Un fs ex H (upd H x o) h h':=by
 have hx:∀b,H b=none->b≠x:=fun b n z=>by subst z;rw[n]at mu;exact mu
 have hb:∀b,H b=none->b≠e:=fun b n z=>by
  subst z;rcases he with r |r
  ·exact hx b n r
  ·rw[n]at r;cases r
 have hm:∀b u,H b=some u->¬ Du (some u)->b≠x:=fun b u q nm z=>by subst z;rw[q]at mu;exact nm mu
 refine ⟨fun b u q n _ _=>k b u (hb b n) q,fun b u q n _ _=>⟨u.slots,k b u (hb b n) q⟩,fun b u q n _=>by rw[aZ (hx b n)];exact n,fun b u q _=>?_,
  fun b xs q=>by rw[aZ (hm b _ q fun z=>z)];exact q,fun b u xs q=>by rw[aZ (hm b _ q fun z=>z)];exact q,fun b ps q=>⟨#[],by rw[aZ (hm b _ q fun z=>z),q];simp⟩⟩
 by_cases hbe:b=e
 ·subst hbe;exact heo
 ·exact⟨u,k b u hbe q⟩
def Un.mono (u:Un fs ex H H1 h h1)(hs:∀b∈fs,b∈fs')(hx:∀b∈ex,b∈ex'):Un fs' ex' H H1 h h1:=
 ⟨fun b ob q n hb he=>u.keep b ob q n (fun z=>hb (hs b z)) fun z=>he (hx b z),fun _ _ q n _ he=>u.any q n fun z=>he (hx _ z),fun b ob q n he=>u.free b ob q n fun z=>he (hx b z),fun b ob q he=>u.there b ob q fun z=>he (hx b z),u.tups,u.frzs,u.tbls⟩
end
noncomputable def GF (h:Heap) (H:Hp):List Addr:=(List.range h.objs.size).filter fun a=>(H a).isSome
def eN (h:Heap)(H:Hp):Heap:=PySem.W.hideAll h (GF h H)
def zbH (h:Heap)(H:Hp):(eN h H).objs.size=h.objs.size:=PySem.W.hideAll_size _ _
def zcy (e:h.get? b=some o)(n:H b=none):(eN h H).get? b=some o:=
 PySem.W.hideAll_get _ e fun hm=>by
  have q:(H b).isSome=true:=(xcX.mp hm).2;rw[n]at q;simp at q
def zdp (e:(eN h H).get? b=some o):h.get? b=some o/\H b=none:=by
  have e':h.get? b=some o:=PySem.W.of_hideAll (GF h H) e;refine⟨e',?_⟩
  cases q:H b with
  |none=>rfl
  |some x=>
    have hm:b∈GF h H:=xcX.mpr ⟨xcd.mpr (xaq e'),by simp[q]⟩;have z:(eN h H).get? b=none:=PySem.W.hideAll_none (GF h H) hm;rw[z]at e;cases e
structure Mod (K:Fgx)(mg:Mgx)(base:Heap):Prop where
 kin:K.In base
 glob:base.Ns mainGlobals mg
 blt:∃mb,base.Ns builtinsNs mb/\∀x:Str,x≠"__name__"->mb x=bootBuiltins x
 nolimit:base.NoLimit
structure Cx where
 prog:Program
 w:World
 K:Fgx
 mg:Mgx
 base:Heap
 A:Around
 N:List Str
 s₀:Shared
 H₀:Hp
 env:Env
 outer:List Env
 stack:List Env
 ex:List Addr
 fn:Str->Bool
 calm:Bool
 pn:Pnx
 xe:Value->Shared->Prop
def frs (l:List Env):List Addr:=l.filterMap (·.frame)
abbrev Cx.fs (X:Cx):List Addr:=frs X.outer
def yD (sc:Scope)(x:Str):Prop:=sc.names.lookup x=some .local\/sc.names.lookup x=some .cell\/sc.names.lookup x=some .free
def Loc (sc:Scope)(x:Str):Prop:=sc.names.lookup x=some .local\/sc.names.lookup x=some .cell
def Look (env:Env)(h:Heap)(m:Mgx)(x:Str)(u:Value):Prop:=
 (env.kindOf x=some .local/\m x=some u)\/((env.kindOf x=some .cell\/env.kindOf x=some .free)/\∃c,env.cells.lookup x=some c/\h.IsCell c (some u))
structure Cx.Ok (X:Cx):Prop where
 mod:Mod X.K X.mg X.base
 kind:X.env.scope.kind=.function
 glob:X.env.globals=mainGlobals
 blt:X.env.builtins=builtinsNs
 above:X.s₀.heap.objs.size<=X.env.locals
 inj:∀x y c,X.env.cells.lookup x=some c->X.env.cells.lookup y=some c->x=y
 has:∀x,(X.env.kindOf x=some .cell\/X.env.kindOf x=some .free)->∃c,X.env.cells.lookup x=some c
 cab:∀x c,X.fn x=true->X.env.cells.lookup x=some c->X.s₀.heap.objs.size<=c
 hd:X.calm=true->X.A.handled=none
 frames:X.A.frames=some X.stack
 stk:X.stack=X.outer\/(X.stack=X.env::X.outer/\X.env.frame=some X.env.locals)
 exf:∀b∈X.ex,b≠X.env.locals/\∀x c,X.env.cells.lookup x=some c->c≠b
 bs:∀b o,X.base.get? b=some o->X.s₀.heap.get? b=some o/\X.H₀ b=none
 bsz:X.base.objs.size<=X.s₀.heap.objs.size
 noex:∀b o,X.base.get? b=some o->b∉X.ex
 exfs:∀b∈X.ex,b∉X.fs
 funs:X.s₀.heap.FunFrames X.base X.outer
 frf:∀b∈X.fs,X.H₀ b=none
structure Inv (X:Cx)(pins:Pnx)(σ:List (Option V))(H:Hp)(s:Shared):Prop where
 ok:X.Ok
 os:s.os=X.s₀.os
 bare:AllBare s.gens
 base:Un X.fs X.ex X.H₀ H X.s₀.heap s.heap
 loc:∃m,s.heap.Ns X.env.locals m/\∀(i:Nat) (x:Str) (v:V),X.N[i]? =some x->σ[i]? =some (some v)->yD X.env.scope x->∃u,RelV v u/\Look X.env s.heap m x u
 cell:∀x c,X.env.cells.lookup x=some c->∃v,s.heap.IsCell c v
 free:H X.env.locals=none
 freeC:∀x c,X.env.cells.lookup x=some c->H c=none\/(X.fn x=false/\∃o u,H c=some (.frz o u))
 pin:∀p∈X.pn ++ pins,s.heap.get? p.1=some p.2/\H p.1=none/\p.1≠X.env.locals/\p.1∉X.fs/\∀v,p.2.data≠ .cell v
 hok:cJ X.prog X.w H s.heap
 len:σ.length=X.N.length
section
variable {X:Cx}{pins:Pnx}{σ:List (Option V)}{H H':Hp}{s:Shared}{h':Heap}
def Cx.Ok.nofr (ok:X.Ok)(e:X.base.get? b=some o):b∉X.fs:=fun hb=>by
 have:=(ok.funs.mem hb).1;rw[e]at this;cases this
theorem Inv.bs (I:Inv X pins σ H s):∀b o,X.base.get? b=some o->s.heap.get? b=some o/\H b=none:=fun b o e=>
 ⟨I.base.keep b o (I.ok.bs b o e).1 (I.ok.bs b o e).2 (I.ok.nofr e) (I.ok.noex b o e),I.base.free b o (I.ok.bs b o e).1 (I.ok.bs b o e).2 (I.ok.noex b o e)⟩
def Inv.bk (I:Inv X pins σ H s):∀b o,X.base.get? b=some o->s.heap.get? b=some o:=fun b o e=>(I.bs b o e).1
theorem Inv.mod (I:Inv X pins σ H s):Mod X.K X.mg X.base:=I.ok.mod
def Inv.kIn (I:Inv X pins σ H s):X.K.In s.heap:=I.ok.mod.kin.keeps I.bk
def Inv.fr (I:Inv X pins σ H s):∃m,Fr X.base X.env.locals s.heap m:=
 let ⟨m,hn,_⟩:=I.loc
 ⟨m,hn,I.bk,xar I.ok.bsz I.ok.above⟩
theorem Inv.lt (I:Inv X pins σ H s):X.env.locals<s.heap.objs.size:=let ⟨_,hn,_⟩:=I.loc;hn.lt
def Inv.sz (I:Inv X pins σ H s):X.s₀.heap.objs.size<=s.heap.objs.size:=xar I.ok.above (xbb I.lt)
def Inv.nofs (I:Inv X pins σ H s)(h:s.heap.objs.size<=a):a∉X.fs:=fun hb=>by
 obtain⟨_,o,ho,_⟩:=I.ok.funs.mem hb;exact absurd (xal (xaq ho) (xar I.sz h)) (xbh _)
def Inv.cne (I:Inv X pins σ H s):∀x c,X.env.cells.lookup x=some c->c≠X.env.locals:=fun x c e z=>by
 obtain⟨v,o,ho,hd⟩:=I.cell x c e;obtain⟨m,⟨o',es,ep,ho',hd',_⟩,_⟩:=I.loc;rw[z,ho']at ho;cases ho;rw[hd']at hd;cases hd
theorem Inv.funs (I:Inv X pins σ H s):s.heap.FunFrames X.base X.outer:=by
  have all:∀(l:List Env),(∀b∈frs l,b∈X.fs)->X.s₀.heap.FunFrames X.base l->s.heap.FunFrames X.base l:=by
    intro l
    induction l with
    |nil=>intro _ _;trivial
    |cons env r ih=>
      intro hs hl;obtain⟨hk,⟨L,o,hf,hn,ho,hd⟩,hr⟩:=hl;have hL:L∈X.fs:=hs L (by unfold frs;rw[xbp,hf];exact xaT);obtain⟨sl,e⟩:=I.base.slot L o ho (I.ok.frf L hL) hL fun z=>I.ok.exfs L z hL;exact⟨hk,⟨L,_,hf,hn,e,hd⟩,ih (fun b hb=>hs b (by unfold frs;rw[xbp,hf];exact xat _ hb)) hr⟩
  exact all X.outer (fun _ hb=>hb) I.ok.funs
theorem Inv.stack (I:Inv X pins σ H s):s.heap.FunFrames X.base X.stack:=by
 rcases I.ok.stk with e |⟨e,hf⟩
 ·rw[e];exact I.funs
 ·rw[e];obtain⟨m,hn,_⟩:=I.loc;refine .cons (by rw[I.ok.kind];decide) hf hn ?_ I.funs;exact xcY (xar I.ok.bsz I.ok.above)
def Inv.stkSub (I:Inv X pins σ H s):∀b∈frs X.stack,b∈X.env.locals::X.fs:=fun b hb=>by
 rcases I.ok.stk with e |⟨e,hf⟩
 ·rw[e]at hb;exact xat _ hb
 ·rw[e]at hb;unfold frs at hb;rw[xbp,hf]at hb;exact hb
def Inv.stkFree (I:Inv X pins σ H s):∀b∈frs X.stack,H b=none:=fun b hb=>by
 rcases xaO.mp (I.stkSub b hb) with e |hb
 ·rw[e];exact I.free
 ·obtain⟨_,o,ho,_⟩:=I.ok.funs.mem hb;exact I.base.free b o ho (I.ok.frf b hb) fun z=>I.ok.exfs b z hb
def Inv.step {g':Array GenState}{t':Nat}{d':Drawn}{ch:List Addr}(I:Inv X pins σ H s)
  (hch:∀b∈ch,(b∈X.ex\/X.s₀.heap.objs.size<=b)/\b≠X.env.locals/\(∀x c,X.env.cells.lookup x=some c->c≠b)/\∀p∈X.pn ++ pins,p.1≠b)
  (keep:∀b o,b≠X.env.locals->b∉X.fs->b∉ch->s.heap.get? b=some o->H b=none->h'.get? b=some o)
  (slot:∀b o,b≠X.env.locals->b∈X.fs->b∉ch->s.heap.get? b=some o->H b=none->∃sl,h'.get? b=some {o with slots:=sl}) (free:∀b o,b∉ch->s.heap.get? b=some o->H b=none->H' b=none)
  (there:∀b o,b∉ch->s.heap.get? b=some o->∃o',h'.get? b=some o')
  (tups:∀b xs,H b=some (.tup xs)->H' b=some (.tup xs)) (frzs:∀b o u,H b=some (.frz o u)->H' b=some (.frz o u)) (tbls:∀b ps,H b=some (.tbl ps)->∃more,H' b=some (.tbl (ps ++ more)))
  (ns:∀m,s.heap.Ns X.env.locals m->h'.Ns X.env.locals m) (hok:cJ X.prog X.w H' h') (hg:AllBare g'):
  Inv X pins σ H' {s with heap:=h',gens:=g',drawn:=d',toks:=t'}:=by
 have neL:∀b o,X.s₀.heap.get? b=some o->b≠X.env.locals:=fun b o e=>xaE (xal (xaq e) I.ok.above);have neC:∀b o,X.s₀.heap.get? b=some o->b∉X.ex->b∉ch:=fun b o e hx hb=>by
  rcases(hch b hb).1 with z |z
  ·exact hx z
  ·exact absurd (xal (xaq e) z) (xbh _)
 have cellK:∀x c,X.env.cells.lookup x=some c->∀v,s.heap.IsCell c v->h'.IsCell c v:=fun x c e v ⟨o,ho,hd⟩=>by
  have nch:c∉ch:=fun z=>(hch c z).2.2.1 x c e rfl;rcases I.freeC x c e with fc |⟨_,o',u',fc⟩
  ·by_cases hc:c∈X.fs
   ·obtain⟨sl,q⟩:=slot c o (I.cne x c e) hc nch ho fc;exact⟨_,q,hd⟩
   ·exact⟨o,keep c o (I.cne x c e) hc nch ho fc,hd⟩
  ·obtain⟨e1,_⟩:=I.hok c _ fc;obtain⟨e2,_⟩:=hok c _ (frzs c _ _ fc);rw[ho]at e1;cases e1;exact⟨o,e2,hd⟩
 refine⟨I.ok,I.os,hg,⟨fun b o e n hb hx=>?_,fun b o e n hb hx=>?_,fun b o e n hx=>?_,fun b o e hx=>?_,fun b xs e=>tups b xs (I.base.tups b xs e),fun b o xs e=>frzs b o xs (I.base.frzs b o xs e),fun b ps e=>?_⟩,?_,fun x c e=>?_,?_,fun x c e=>?_,fun p hp=>?_,hok,I.len⟩
 ·exact keep b o (neL b o e) hb (neC b o e hx) (I.base.keep b o e n hb hx) (I.base.free b o e n hx)
 ·obtain⟨sl,e1⟩:=I.base.slot b o e n hb hx;obtain⟨sl',e2⟩:=slot b _ (neL b o e) hb (neC b o e hx) e1 (I.base.free b o e n hx);exact⟨sl',e2⟩
 ·obtain⟨o',e1⟩:=I.base.there b o e hx;exact free b o' (neC b o e hx) e1 (I.base.free b o e n hx)
 ·obtain⟨o',e1⟩:=I.base.there b o e hx;exact there b o' (neC b o e hx) e1
 ·obtain⟨m1,e1⟩:=I.base.tbls b ps e;obtain⟨m2,e2⟩:=tbls b _ e1;exact⟨m1 ++ m2,by rw[e2,xei]⟩
 ·obtain⟨m,hn,hl⟩:=I.loc;refine⟨m,ns m hn,fun i x v e1 e2 e3=>?_⟩;obtain⟨u,r,l⟩:=hl i x v e1 e2 e3;refine⟨u,r,?_⟩;rcases l with l |⟨k,c,e,z⟩
  ·exact .inl l
  ·exact .inr ⟨k,c,e,cellK x c e _ z⟩
 ·obtain⟨v,z⟩:=I.cell x c e;exact⟨v,cellK x c e v z⟩
 ·obtain⟨m,⟨o,_,_,ho,_⟩,_⟩:=I.loc;exact free _ o (fun z=>(hch _ z).2.1 rfl) ho I.free
 ·obtain⟨v,o,ho,hd⟩:=I.cell x c e;rcases I.freeC x c e with fc |⟨fn,o',u',fc⟩
  ·exact .inl (free c o (fun z=>(hch c z).2.2.1 x c e rfl) ho fc)
  ·exact .inr ⟨fn,o',u',frzs c _ _ fc⟩
 ·obtain⟨e,n,ne,nf,d⟩:=I.pin p hp;have nch:p.1∉ch:=fun z=>(hch p.1 z).2.2.2 p hp rfl;exact⟨keep p.1 p.2 ne nf nch e n,free p.1 p.2 nch e n,ne,nf,d⟩
def Inv.un {t':Nat}(I:Inv X pins σ H s)(u:Un X.fs [] H H' s.heap h')(hok:cJ X.prog X.w H' h'):Inv X pins σ H' {s with heap:=h',toks:=t'}:=by
 obtain ⟨m, ⟨o, es, ep, ho, r⟩, _⟩ := id I.loc;obtain ⟨sl, hL⟩ := u.any ho I.free (by simp);exact I.step (g' := s.gens) (d' := s.drawn) (ch := []) (fun _ z => nomatch z) (fun b o _ hb _ e n => u.keep b o e n hb (by simp)) (fun b o _ hb _ e n => u.slot b o e n hb (by simp)) (fun b o _ e n => u.free b o e n (by simp)) (fun b o _ e => u.there b o e (by simp)) u.tups u.frzs u.tbls (fun m' hm=>by
  obtain⟨o',es',ep',ho',r'⟩:=hm;rw[ho]at ho';cases ho';exact⟨_,es',ep',hL,r'⟩) hok I.bare
def Inv.call {g':Array GenState}{t':Nat}{d':Drawn}{ch:List Addr}(I:Inv X pins σ H s)(u:Un (frs X.stack) ch H H' s.heap h')(hok:cJ X.prog X.w H' h')(hg:AllBare g')
  (hch:∀b∈ch,(b∈X.ex\/X.s₀.heap.objs.size<=b)/\b≠X.env.locals/\(∀x c,X.env.cells.lookup x=some c->c≠b)/\∀p∈X.pn ++ pins,p.1≠b):
  Inv X pins σ H' {s with heap:=h',gens:=g',drawn:=d',toks:=t'}:=by
 obtain ⟨m, ⟨o, es, ep, ho, r⟩, _⟩ := id I.loc;obtain ⟨sl, hL⟩ := u.any ho I.free fun z => (hch _ z).2.1 rfl;exact I.step (ch := ch) hch (fun b o hL hb hc e n => u.keep b o e n (fun z => (xaO.mp (I.stkSub b z)).elim hL hb) hc) (fun b o _ _ hc e n => u.any e n hc) (fun b o hc e n => u.free b o e n hc) (fun b o hc e => u.there b o e hc) u.tups u.frzs u.tbls (fun m' hm=>by
  obtain⟨o',es',ep',ho',r'⟩:=hm;rw[ho]at ho';cases ho';exact⟨_,es',ep',hL,r'⟩) hok hg
def Inv.turned {t':Nat}{it:Addr}(I:Inv X pins σ H s)(k:∀b o,b≠it->s.heap.get? b=some o->h'.get? b=some o)(hn:H it=none)(hL:it≠X.env.locals)
  (h1:it∈X.ex\/X.s₀.heap.objs.size<=it) (h2:∀x c,X.env.cells.lookup x=some c->c≠it) (h3:∀p∈X.pn ++ pins,p.1≠it):Inv X pins σ H {s with heap:=h',toks:=t'}:=by
 have nit:∀b u,H b=some u->b≠it:=fun b u e z=>by rw[z,hn]at e;cases e
 refine I.step (g':=s.gens) (d':=s.drawn) (ch:=[it]) (fun b hb=>?_) (fun b o _ _ hc e _=>k b o (fun z=>hc (by simp[z])) e) (fun b o _ _ hc e _=>⟨o.slots,k b o (fun z=>hc (by simp[z])) e⟩) (fun _ _ _ _ n=>n)
  (fun b o hc e=>⟨o,k b o (fun z=>hc (by simp[z])) e⟩) (fun _ _ e=>e) (fun _ _ _ e=>e) (fun b ps e=>⟨#[],by rw[e];simp⟩) (fun m hm=>?_) (fun b u e=>?_) I.bare
 ·have e:b=it:=by simpa using hb
  subst e;exact⟨h1,hL,h2,h3⟩
 ·obtain⟨o,es,ep,ho,r⟩:=hm;exact⟨o,es,ep,k _ o (xbN hL) ho,r⟩
 ·refine(I.hok b u e).stay (fun c v hc q=>k c v ?_ q) (fun _ q=>q) fun _ _ q=>q;rcases hc with z |z
  ·rw[z];exact nit b u e
  ·exact nit c _ z
def Inv.tok (I:Inv X pins σ H s)(t:Nat):Inv X pins σ H {s with toks:=t}:=I.un (h':=s.heap) (t':=t) Un.refl I.hok
theorem Inv.kept (I:Inv X pins σ H s)(k:∀b u,s.heap.get? b=some u->h'.get? b=some u):Inv X pins σ H {s with heap:=h',toks:=t'}:=I.un (Un.kept k) (I.hok.kept k)
theorem Inv.laid (I:Inv X pins σ H s)(k:∀b u,s.heap.get? b=some u->h'.get? b=some u)(hp:s.heap.objs.size<=a)(new:dJ X.prog X.w (upd H a o) h' a o):
  Inv X pins σ (upd H a o) {s with heap:=h',toks:=t'}:=I.un (Un.laid k hp (I.hok.fresh hp)) (I.hok.laid k hp new)
theorem Inv.write (I:Inv X pins σ H s)(mu:Du (H x))(he:e=x\/H e=some (.own x))(k:∀b u,b≠e->s.heap.get? b=some u->h'.get? b=some u)(heo:∃u,h'.get? e=some u)
  (new:dJ X.prog X.w (upd H x o) h' x o):Inv X pins σ (upd H x o) {s with heap:=h',toks:=t'}:=I.un (Un.write mu he k heo) (I.hok.write mu he k heo new)
def Inv.pins_of (I:Inv X pins σ H s)(h:∀p∈pins',s.heap.get? p.1=some p.2/\H p.1=none/\p.1≠X.env.locals/\p.1∉X.fs/\∀v,p.2.data≠ .cell v):Inv X pins' σ H s:=
 ⟨I.ok,I.os,I.bare,I.base,I.loc,I.cell,I.free,I.freeC,fun p hp=>(xbO.mp hp).elim (fun z=>I.pin p (xcZ _ z)) (h p),I.hok,I.len⟩
def Um {N:List Str}(hN:N.Nodup){i j:Nat}{x:Str}(a:N[i]? =some x)(b:N[j]? =some x):i=j:=by
 obtain⟨h1,e1⟩:=xah.mp a;obtain⟨h2,e2⟩:=xah.mp b;exact(List.getElem_inj hN).mp (e1.trans e2.symm)
def zbM {M:Model}{A:Around}{E:Value->Shared->Prop}{i:Nat}{x:Str}{v:V}{u:Value}{Q:Unit->Shared->Prop}(I:Inv X pins σ H s)(hN:X.N.Nodup)(hi:X.N[i]? =some x)(hx:Loc X.env.scope x)(r:RelV v u)
    (h:∀s',Inv X pins (σ.set i (some v)) H s'->(∃a,Heap.SameBut a s.heap s'.heap/\(a=X.env.locals\/X.env.cells.lookup x=some a))->Q () s') (hf:X.fn x=true\/X.env.scope.names.lookup x=some .local:=by first |exact .inl rfl |exact .inr rfl |assumption):wpAny M A (storeName X.env x u) Q E s:=by
  obtain⟨m,hn,hl⟩:=id I.loc;have hcls:(X.env.scope.kind==.class || (X.env.scope.kind==.module && X.env.locals !=X.env.globals))=false:=by rw[I.ok.kind];rfl
  have hiσ:i<σ.length:=by rw[I.len];exact(xah.mp hi).1
  have cne:=I.cne;have tracked:∀{a:Addr} {h':Heap},(∃o,s.heap.get? a=some o/\H a=none)->Heap.SameBut a s.heap h'->cJ X.prog X.w H h':=fun {a h'} ha hs b ob e=>by
    obtain⟨_,_,hfree⟩:=ha;refine(I.hok b ob e).stay (fun c w' hc q=>(hs.2 c ?_).trans q) (fun _ q=>q) fun _ _ q=>q;rintro rfl;rcases hc with rfl |hc
    · rw[hfree]at e;cases e
    · rw[hfree]at hc;cases hc
  rcases hx with hk |hk
  · refine wpAny_storeName_local hk hn (fun h' hn' hs=>?_) hcls;obtain⟨oL,_,_,hoL,_⟩:=id hn;refine h _ ⟨I.ok,I.os,I.bare,⟨fun b o e n hb hx=>?_,fun b o e n hb hx=>?_,I.base.free,fun b o e hx=>?_,I.base.tups,I.base.frzs,I.base.tbls⟩,⟨_,hn',fun j y v' e1 e2 e3=>?_⟩,fun y c e=>?_,I.free,I.freeC,fun p hp=>?_,tracked ⟨oL,hoL,I.free⟩ hs,by simpa using I.len⟩ ⟨_,hs,.inl rfl⟩
    · exact(hs.2 b (xaE (xal (xaq e) I.ok.above))).trans (I.base.keep b o e n hb hx)
    · obtain⟨sl,e1⟩:=I.base.slot b o e n hb hx;exact⟨sl,(hs.2 b (xaE (xal (xaq e) I.ok.above))).trans e1⟩
    · obtain⟨o',e1⟩:=I.base.there b o e hx;exact⟨o',(hs.2 b (xaE (xal (xaq e) I.ok.above))).trans e1⟩
    · by_cases hj:j=i
      · subst hj;rw[hi]at e1;cases e1;rw[xaW hiσ]at e2;cases e2;exact⟨u,r,.inl ⟨hk,by simp⟩⟩
      · rw[xa0 (xbN hj)]at e2;obtain⟨u',r',q⟩:=hl j y v' e1 e2 e3;refine⟨u',r',?_⟩;rcases q with⟨k,e⟩ |⟨k,c,e,z⟩
        · refine .inl ⟨k,?_⟩;have:y≠x:=fun e=>hj (Um hN e1 (e ▸ hi))
          simp[this,e]
        · exact .inr ⟨k,c,e,z.sameBut hs (cne y c e)⟩
    · obtain⟨w',z⟩:=I.cell y c e;exact⟨w',z.sameBut hs (cne y c e)⟩
    · obtain⟨e,n,ne,nf,d⟩:=I.pin p hp;exact⟨(hs.2 p.1 ne).trans e,n,ne,nf,d⟩
  · have hfn:X.fn x=true:=by
      rcases hf with z |z
      · exact z
      · rw[z]at hk;cases hk
    obtain⟨c,hc⟩:=I.ok.has x (.inl hk);obtain⟨w',z⟩:=I.cell x c hc;refine wpAny_storeName_cell I.ok.kind hk hc z (fun h' hc' hs=>?_);obtain⟨oc,hoc,hocd⟩:=id z;refine h {s with heap:=h'} ⟨I.ok,I.os,I.bare,⟨fun b o e n hb hx=>?_,fun b o e n hb hx=>?_,I.base.free,fun b o e hx=>?_,I.base.tups,I.base.frzs,I.base.tbls⟩,⟨m,hn.sameBut hs (xbN (cne x c hc)),fun j y v' e1 e2 e3=>?_⟩,fun y c' e=>?_,I.free,I.freeC,fun p hp=>?_,tracked ⟨oc,hoc,(I.freeC x c hc).resolve_right fun z=>by rw[z.1]at hfn;cases hfn⟩ hs,by simpa using I.len⟩ ⟨c,hs,.inr hc⟩
    · exact(hs.2 b (xaE (xal (xaq e) (I.ok.cab x c hfn hc)))).trans (I.base.keep b o e n hb hx)
    · obtain⟨sl,e1⟩:=I.base.slot b o e n hb hx;exact⟨sl,(hs.2 b (xaE (xal (xaq e) (I.ok.cab x c hfn hc)))).trans e1⟩
    · obtain⟨o',e1⟩:=I.base.there b o e hx;exact⟨o',(hs.2 b (xaE (xal (xaq e) (I.ok.cab x c hfn hc)))).trans e1⟩
    · by_cases hj:j=i
      · subst hj;rw[hi]at e1;cases e1;rw[xaW hiσ]at e2;cases e2;exact⟨u,r,.inr ⟨.inl hk,c,hc,hc'⟩⟩
      · rw[xa0 (xbN hj)]at e2;obtain⟨u',r',q⟩:=hl j y v' e1 e2 e3;refine⟨u',r',?_⟩;rcases q with q |⟨k,c',e,z'⟩
        · exact .inl q
        · refine .inr ⟨k,c',e,z'.sameBut hs ?_⟩;rintro rfl;exact hj (Um hN e1 (I.ok.inj _ _ _ e hc ▸ hi))
    · by_cases hcc:c'=c
      · subst hcc;exact⟨_,hc'⟩
      · obtain⟨w2,z2⟩:=I.cell y c' e;exact⟨w2,z2.sameBut hs hcc⟩
    · obtain⟨e,n,ne,nf,d⟩:=I.pin p hp;refine⟨(hs.2 p.1 ?_).trans e,n,ne,nf,d⟩;intro q;rw[q,hoc]at e;have q':oc=p.2:=xaA e;exact d w' (by rw[<-q'];exact hocd)
def Gz (I:Inv X pins σ H s)(hN:X.N.Nodup)(hi:X.N[i]? =some x)(hx:Loc X.env.scope x)(r:RelV v u)
  (h:∀s',Inv X pins (σ.set i (some v)) H s'->Q () s') (hf:X.fn x=true\/X.env.scope.names.lookup x=some .local:=by first |exact .inl rfl |exact .inr rfl |assumption):wpAny M A (storeName X.env x u) Q E s:=
 zbM I hN hi hx r (fun s' I' _=>h s' I') hf
def Inv.call' (I:Inv X pins σ H s)(ho:s'.os=s.os)(u:Un (frs X.stack) ch H H' s.heap s'.heap)(hok:cJ X.prog X.w H' s'.heap)(hg:AllBare s'.gens)
  (hch:∀b∈ch,(b∈X.ex\/X.s₀.heap.objs.size<=b)/\b≠X.env.locals/\(∀x c,X.env.cells.lookup x=some c->c≠b)/\∀p∈X.pn ++ pins,p.1≠b):Inv X pins σ H' s':=by
 obtain⟨h',g',d',t',o'⟩:=s';have e:o'=s.os:=ho;subst e;exact I.call (g':=g') (t':=t') (d':=d') u hok hg hch
end
abbrev XK:=Value->Option Addr->Hp->Prop
abbrev St:=List (Option V)
abbrev VK:=V->Hp->Prop
abbrev TE:=St->Hp->VK->Prop
abbrev TT:=St->Hp->(Bool->Hp->Prop)->Prop
abbrev TA:=St->Hp->(List V->Hp->Prop)->Prop
structure Ends where
 nx:St->Hp->Prop
 rt:VK
 bk:St->Hp->Prop:=fun _ _=>False
 ct:St->Hp->Prop:=fun _ _=>False
abbrev TS:=Ends->St->Hp->Prop
def EP (X:Cx)(pins:Pnx)(σ:St)(Q:VK)(u:Value)(s':Shared):Prop:=∃v H',Inv X pins σ H' s'/\RelV v u/\Q v H'
def TP (X:Cx)(pins:Pnx)(σ:St)(Q:Bool->Hp->Prop)(b:Bool)(s':Shared):Prop:=∃H',Inv X pins σ H' s'/\Q b H'
def AP (X:Cx)(pins:Pnx)(σ:St)(Q:List V->Hp->Prop)(us:List Value)(s':Shared):Prop:=∃vs H',Inv X pins σ H' s'/\Vals vs us/\Q vs H'
def SP (X:Cx)(pins:Pnx)(D:Ends)(f:Flow)(s':Shared):Prop:=
 match f with
 |.next=>∃σ' H',Inv X pins σ' H' s'/\D.nx σ' H'
 |.brk=>∃σ' H',Inv X pins σ' H' s'/\D.bk σ' H'
 |.cont=>∃σ' H',Inv X pins σ' H' s'/\D.ct σ' H'
 |.ret u=>∃v σ' H',Inv X pins σ' H' s'/\RelV v u/\D.rt v H'
def PE (X:Cx)(e:Expr)(t:TE):Prop:=
 ∀(pins:Pnx) (s:Shared) (σ:St) (H:Hp) (Q:VK),Inv X pins σ H s->t σ H Q->wpAny (model X.prog X.w) X.A (eval e X.env) (EP X pins σ Q) X.xe s
def PT (X:Cx)(e:Expr)(t:TT):Prop:=
 ∀(pins:Pnx) (s:Shared) (σ:St) (H:Hp) (Q:Bool->Hp->Prop),Inv X pins σ H s->t σ H Q->wpAny (model X.prog X.w) X.A (isTrue e X.env (eval e X.env)) (TP X pins σ Q) X.xe s
def PW (X:Cx)(e:Expr)(t:TT):Prop:=
 ∀(whole:Sem Value) (pins:Pnx) (s:Shared) (σ:St) (H:Hp) (Q:Bool->Hp->Prop),Inv X pins σ H s->t σ H Q->wpAny (model X.prog X.w) X.A (isTrue e X.env whole) (TP X pins σ Q) X.xe s
def PW.pt (h:PW X e t):PT X e t:=h _
def PA (X:Cx)(es:List Expr)(t:TA):Prop:=
 ∀(pos:Pos) (pins:Pnx) (s:Shared) (σ:St) (H:Hp) (Q:List V->Hp->Prop),Inv X pins σ H s->t σ H Q->wpAny (model X.prog X.w) X.A (spliced (backTo pos (starEach es X.env))) (AP X pins σ Q) X.xe s
def PS (X:Cx)(st:Stmt)(t:TS):Prop:=
 ∀(pins:Pnx) (s:Shared) (σ:St) (H:Hp) (D:Ends),Inv X pins σ H s->t D σ H->wpAny (model X.prog X.w) X.A (exec st X.env) (SP X pins D) X.xe s
def gJ (X:Cx)(st:List Stmt)(t:TS):Prop:=
 ∀(pins:Pnx) (s:Shared) (σ:St) (H:Hp) (D:Ends),Inv X pins σ H s->t D σ H->wpAny (model X.prog X.w) X.A (execs st X.env) (SP X pins D) X.xe s
def aU (h:wpAny M A t Q E s)(hQ:∀a s,Q a s->Q' a s):wpAny M A t Q' E s:=xaU h hQ fun _ _ x=>x
section
variable {X:Cx}
def O7 (i:Nat):TE:=fun σ H Q=>∃v,σ[i]? =some (some v)/\Q v H
def tC (v:V):TE:=fun _ H Q=>Q v H
def Fq (hN:X.N[i]? =some x)(hv:yD X.env.scope x)(hd:(x==("__debug__":Str))=false:=by decide)(hcd:(x==("__classdict__":Str))=false:=by decide):PE X (.Name x pos) (O7 i):=by
 sr_in;obtain⟨v,e,h⟩:=h;obtain⟨m,hn,hl⟩:=I.loc;obtain⟨u,r,l⟩:=hl i x v hN e hv;have fin:EP X pins σ Q u s:=⟨v,H,I,r,h⟩;rcases l with⟨hk,hm⟩ |⟨hk,c,hc,hcell⟩
 ·exact wpAny_Name (wpAny_loadName_local I.ok.kind hk hn hm fin) hd
 ·rcases hk with hk |hk
  ·exact wpAny_Name (wpAny_loadName_cell I.ok.kind hk hc hcell fin) hd
  ·exact wpAny_Name (wpAny_loadName_free I.ok.kind hk hc hcell fin hcd) hd
def zdz {i j pos}:PE X (.Constant (.int i) j pos) (tC (.int i)):=fun _ _ _ H _ I h=>wpAny_Constant_int ⟨.int i,H,I.tok _,⟨_,rfl⟩,h⟩
def zgh {b j pos}:PE X (.Constant (.bool b) j pos) (tC (.bl b)):=fun _ _ _ H _ I h=>Constant_bool ⟨.bl b,H,I,rfl,h⟩
def Lb {j pos}:PE X (.Constant .none j pos) (tC .non):=fun _ _ _ H _ I h=>Constant_none ⟨.non,H,I,rfl,h⟩
def ze7 {x j pos}:PE X (.Constant (.str x) j pos) (tC (.str x)):=fun _ _ _ H _ I h=>Calls.Constant_str ⟨.str x,H,I.tok _,⟨_,rfl⟩,h⟩
def Gl (X:Cx)(x:Str):Prop:=X.env.kindOf x=some .globalImplicit
def tZ (I:Inv X pins σ H s)(hg:Gl X x)(hm:X.mg x=some u)(h:Q u s)
  (hd:(x==("__debug__":Str))=false:=by decide):wpAny (model X.prog X.w) X.A (eval (.Name x pos) X.env) Q E s:=
 xdr I.ok.kind hg (Calls.loadGlobal_global (by rw[I.ok.glob];exact I.mod.glob.keeps I.bk) hm h) hd
def Bd (I:Inv X pins σ H s)(hg:Gl X x)(hm:X.mg x=none)(hv:bootBuiltins x=some u)(h:Q u s)
  (hn:x≠"__name__":=by decide) (hd:(x==("__debug__":Str))=false:=by decide):wpAny (model X.prog X.w) X.A (eval (.Name x pos) X.env) Q E s:=by
 obtain⟨mb,h1,h2⟩:=I.mod.blt;exact xdr I.ok.kind hg (Calls.loadGlobal_builtin (by rw[I.ok.glob];exact I.mod.glob.keeps I.bk) hm (by rw[I.ok.blt];exact h1.keeps I.bk) ((h2 x hn).trans hv) h) hd
def rZ (hg:Gl X x)(hm:X.mg x=some u)(r:RelV v u)(hd:(x==("__debug__":Str))=false:=by decide):PE X (.Name x pos) (tC v):=
 fun _ _ _ H _ I h=>tZ I hg hm ⟨v,H,I,r,h⟩ hd
def zcL (hg:Gl X x)(hm:X.mg x=none)(hv:bootBuiltins x=some u)(r:RelV v u)(hn:x≠"__name__":=by decide)(hd:(x==("__debug__":Str))=false:=by decide):PE X (.Name x pos) (tC v):=
 fun _ _ _ H _ I h=>Bd I hg hm hv ⟨v,H,I,r,h⟩ hn hd
variable {a b:Expr}{ta tb:TE}{pos:Pos}
def PC (X:Cx)(op:CmpOp)(a b:Expr)(t:TE):Prop:=
 ∀(pins:Pnx) (s:Shared) (σ:St) (H:Hp) (Q:VK),Inv X pins σ H s->t σ H Q->
  wpAny (model X.prog X.w) X.A (eval a X.env) (fun v s₁=>wpAny (model X.prog X.w) X.A (eval b X.env) (fun u s₂=>wpAny (model X.prog X.w) X.A (compareOp op v u) (EP X pins σ Q) X.xe s₂) X.xe s₁) X.xe s
def tB (t:TE):TT:=fun σ H Q=>t σ H fun x H1=>∃c,x=.bl c/\Q c H1
def zdP (h:PC X op a b t)(h1:behindInMarks op b=false:=by first |exact nobehind _ (by decide) (by decide) |rfl):PT X (.Compare a [op] [b] pos) (tB t):=by
 intro pins s σ H Q I hw;refine wpAny_isTrue_Compare1 (aU (h pins s σ H _ I hw) fun v s1 h1=>aU h1 fun u s2 h2=>aU h2 fun c s3 ⟨x,H1,I1,r1,q1⟩=>?_) h1;obtain⟨d,rfl,q⟩:=q1;cases r1;exact xca ⟨H1,I1,q⟩
variable {tA tB':TT}{rest:List Expr}
noncomputable def Oq (t u:TT):TT:=fun σ H Q=>t σ H fun c H1=>if c=true then u σ H1 Q else Q false H1
noncomputable def tOr (t u:TT):TT:=fun σ H Q=>t σ H fun c H1=>if c=true then Q true H1 else u σ H1 Q
def O2 (t:TT):TT:=fun σ H Q=>t σ H fun c H1=>Q (!c) H1
def zcI (ha:PT X a tA):PW X (.BoolOp .And [a] pos) tA:=by
 intro wh pins s σ H Q I h;refine isTrue_and (aU (ha pins s σ H Q I h) fun c s1 e=>?_)
 cases c with
 |true=>exact isTrue_and_nil e
 |false=>exact e
def zfe (ha:PT X a tA):PW X (.BoolOp .Or [a] pos) tA:=by
 intro wh pins s σ H Q I h;refine isTrue_or (aU (ha pins s σ H Q I h) fun c s1 e=>?_)
 cases c with
 |false=>exact isTrue_or_nil e
 |true=>exact e
def zd9 (ha:PT X a tA)(hb:PW X (.BoolOp .And (b::rest) pos) tB'):PW X (.BoolOp .And (a::b::rest) pos) (Oq tA tB'):=by
 intro wh pins s σ H Q I h;refine isTrue_and (aU (ha pins s σ H _ I h) fun c s1 ⟨H1,I1,q1⟩=>?_)
 cases c with
 |true=>exact hb wh pins s1 σ H1 Q I1 q1
 |false=>exact⟨H1,I1,q1⟩
def zgM (ha:PT X a tA)(hb:PW X (.BoolOp .Or (b::rest) pos) tB'):PW X (.BoolOp .Or (a::b::rest) pos) (tOr tA tB'):=by
 intro wh pins s σ H Q I h;refine isTrue_or (aU (ha pins s σ H _ I h) fun c s1 ⟨H1,I1,q1⟩=>?_)
 cases c with
 |true=>exact⟨H1,I1,q1⟩
 |false=>exact hb wh pins s1 σ H1 Q I1 q1
def zeB (ha:PT X a tA):PT X (.UnaryOp .Not a pos) (O2 tA):=by
 sr_in;exact isTrue_not (ha pins s σ H (fun c H1=>Q (!c) H1) I h)
noncomputable def zgB (ta tb:TE):TE:=fun σ H Q=>ta σ H fun x H1=>∃c,x=.bl c/\if c=true then tb σ H1 Q else Q (.bl false) H1
noncomputable def O3 (ta tb:TE):TE:=fun σ H Q=>ta σ H fun x H1=>∃c,x=.bl c/\if c=true then Q (.bl true) H1 else tb σ H1 Q
def zeq {op}(h:PE X a t):PE X (.BoolOp op [a] pos) t:=fun pins s σ H Q I hw=>BoolOp_one (h pins s σ H Q I hw)
def zes (ha:PE X a ta)(hb:PE X (.BoolOp .And (b::rest) pos) tb):PE X (.BoolOp .And (a::b::rest) pos) (zgB ta tb):=by
 sr_in;refine BoolOp_and (aU (ha pins s σ H _ I h) fun v s1 ⟨x,H1,I1,r1,q1⟩=>?_);obtain⟨c,rfl,q1⟩:=q1;cases r1;refine xca ?_
 cases c with
 |true=>exact hb pins s1 σ H1 Q I1 q1
 |false=>exact⟨.bl false,H1,I1,rfl,q1⟩
def zfO (ha:PE X a ta)(hb:PE X (.BoolOp .Or (b::rest) pos) tb):PE X (.BoolOp .Or (a::b::rest) pos) (O3 ta tb):=by
 sr_in;refine BoolOp_or (aU (ha pins s σ H _ I h) fun v s1 ⟨x,H1,I1,r1,q1⟩=>?_);obtain⟨c,rfl,q1⟩:=q1;cases r1;refine xca ?_
 cases c with
 |false=>exact hb pins s1 σ H1 Q I1 q1
 |true=>exact⟨.bl true,H1,I1,rfl,q1⟩
noncomputable def tIf (t:TT) (ta tb:TE):TE:=fun σ H Q=>t σ H fun c H1=>if c=true then ta σ H1 Q else tb σ H1 Q
def zco (hc:PT X c tA)(ha:PE X a ta)(hb:PE X b tb):PE X (.IfExp c a b pos) (tIf tA ta tb):=by
 sr_in;refine wpAny_IfExp (aU (hc pins s σ H _ I h) fun d s1 ⟨H1,I1,q1⟩=>?_)
 cases d with
 |true=>exact ha pins s1 σ H1 Q I1 q1
 |false=>exact hb pins s1 σ H1 Q I1 q1
end
def b_ (K:Fgx)(H:Hp)(a:Addr)(xs:List V):Prop:=
 Rd H a (.lst xs)\/
  ∃(o:Obj) (its:Array Value) (n:Nat),K.lookup a=some o/\o.cls=.type "list"/\o.dict=none/\o.data=.seq its n/\its.size<=sizeLine/\Vals xs its.toList
def cI (K:Fgx)(H:Hp)(a:Addr)(xs:List V):Prop:=
 Rd H a (.tup xs)\/
  ∃(o:Obj) (its:Array Value) (n:Nat),K.lookup a=some o/\o.cls=.type "tuple"/\o.data=.seq its n/\its.size<=sizeLine/\Vals xs its.toList
noncomputable def Hs:Value->Option V
 |.none=>some .non
 |.bool b=>some (.bl b)
 |.int i _=>some (.int i)
 |.str x _=>some (.str x)
 |.bytes b _=>some (.byt b)
 |.float b _=>some (.flt b)
 |.ref a=>some (.ref a)
 |.type n=>some (.ty n)
 |_=>none
theorem RelV.abs (r:RelV x u):Hs u=some x:=by
 cases x with
 |non=>cases r;rfl
 |bl _=>cases r;rfl
 |int _=>obtain⟨t,rfl⟩:=r;rfl
 |str _=>obtain⟨t,rfl⟩:=r;rfl
 |byt _=>obtain⟨t,rfl⟩:=r;rfl
 |flt _=>obtain⟨t,rfl⟩:=r;rfl
 |ref _=>cases r;rfl
 |ty _=>cases r;rfl
def RelV.inj (r:RelV x u)(q:RelV y u):x=y:=xaA (r.abs.symm.trans q.abs)
theorem Vals.inj:∀{xs ys:List V} {us:List Value},Vals xs us->Vals ys us->xs=ys
 |_,_,_,.nil,.nil=>rfl
 |_,_,_,.cons r t,.cons r' t'=>by rw[r.inj r',Vals.inj t t']
section
variable {X:Cx}{pins:Pnx}{σ:St}{H:Hp}{s:Shared}{a:Addr}{xs ys:List V}
def Inv.list (I:Inv X pins σ H s)(h:b_ X.K H a xs):∃its:List Value,Vals xs its/\PlainL s.heap a its.toArray/\xs.length<=sizeLine:=by
 rcases h with h |⟨o,its,n,hk,hc,hd,hs,hz,r⟩
 ·obtain⟨z,its,n,r,e⟩:=h.ok I.hok;exact⟨its,r,⟨_,n,e,rfl,rfl,rfl⟩,z⟩
 ·refine⟨its.toList,r,⟨o,n,I.kIn a o hk,hc,hd,by simpa using hs⟩,?_⟩;have e:=r.length;simp only[xau]at e;lia
def Inv.tuple (I:Inv X pins σ H s)(h:cI X.K H a xs):∃its:List Value,Vals xs its/\IsTup s.heap a its.toArray/\xs.length<=sizeLine:=by
 rcases h with h |⟨o,its,n,hk,hc,hs,hz,r⟩
 ·obtain⟨z,its,r,p⟩:=h.ok I.hok;exact⟨its,r,p,z⟩
 ·refine⟨its.toList,r,⟨o,I.kIn a o hk,hc,n,by simpa using hs⟩,?_⟩;have e:=r.length;simp only[xau]at e;lia
def Inv.list_inj (I:Inv X pins σ H s)(h:b_ X.K H a xs)(h':b_ X.K H a ys):xs=ys:=by
 obtain⟨its,r,⟨o,n,e,_,_,d⟩,_⟩:=I.list h;obtain⟨its',r',⟨o',n',e',_,_,d'⟩,_⟩:=I.list h';rw[e]at e';cases e';rw[d]at d'
 injection d' with d1 _
 have:its=its':=by simpa using congrArg Array.toList d1
 subst this;exact r.inj r'
def Inv.tuple_inj (I:Inv X pins σ H s)(h:cI X.K H a xs)(h':cI X.K H a ys):xs=ys:=by
 obtain⟨its,r,⟨o,e,_,n,d⟩,_⟩:=I.tuple h;obtain⟨its',r',⟨o',e',_,n',d'⟩,_⟩:=I.tuple h';rw[e]at e';cases e';rw[d]at d'
 injection d' with d1 _
 have:its=its':=by simpa using congrArg Array.toList d1
 subst this;exact r.inj r'
end
abbrev Cx.wish (X:Cx)(E:Value->Shared->Prop):Cx:={X with xe:=E}
abbrev Cx.nox (X:Cx):Cx:=X.wish fun _ _=>False
theorem Cx.Ok.wish {X:Cx}(ok:X.Ok)(E:Value->Shared->Prop):(X.wish E).Ok:=
 ⟨ok.mod,ok.kind,ok.glob,ok.blt,ok.above,ok.inj,ok.has,ok.cab,ok.hd,ok.frames,ok.stk,ok.exf,ok.bs,ok.bsz,ok.noex,ok.exfs,ok.funs,ok.frf⟩
def Cx.Ok.unwish {X:Cx}{E:Value->Shared->Prop}(ok:(X.wish E).Ok):X.Ok:=
 ⟨ok.mod,ok.kind,ok.glob,ok.blt,ok.above,ok.inj,ok.has,ok.cab,ok.hd,ok.frames,ok.stk,ok.exf,ok.bs,ok.bsz,ok.noex,ok.exfs,ok.funs,ok.frf⟩
section
variable {X:Cx}{pins:Pnx}{σ:St}{H:Hp}{s:Shared}{E:Value->Shared->Prop}
theorem Inv.wish (I:Inv X pins σ H s)(E:Value->Shared->Prop):Inv (X.wish E) pins σ H s:=⟨I.ok.wish E,I.os,I.bare,I.base,I.loc,I.cell,I.free,I.freeC,I.pin,I.hok,I.len⟩
theorem Inv.unwish (I:Inv (X.wish E) pins σ H s):Inv X pins σ H s:=⟨I.ok.unwish,I.os,I.bare,I.base,I.loc,I.cell,I.free,I.freeC,I.pin,I.hok,I.len⟩
theorem SP.unwish (h:SP (X.wish E) pins D f s'):SP X pins D f s':=by
 cases f with
 |next=>obtain⟨σ',H',I,q⟩:=h;exact⟨σ',H',I.unwish,q⟩
 |brk=>obtain⟨σ',H',I,q⟩:=h;exact⟨σ',H',I.unwish,q⟩
 |cont=>obtain⟨σ',H',I,q⟩:=h;exact⟨σ',H',I.unwish,q⟩
 |ret u=>obtain⟨v,σ',H',I,r,q⟩:=h;exact⟨v,σ',H',I.unwish,r,q⟩
theorem gJ.nox {st:List Stmt}{t:TS}(h:gJ X.nox st t):gJ X st t:=fun pins s σ H D I hw=>
 xaU (h pins s σ H D (I.wish _) hw) (fun _ _ q=>q.unwish) fun _ _ z=>False.elim z
end
section
variable {X:Cx}{st:Stmt}{rest:List Stmt}{t u:TS}{e:Expr}{te:TE}{pos:Pos}
def zg8:TS:=fun D σ H=>D.nx σ H
def Df (t u:TS):TS:=fun D σ H=>t {D with nx:=u D} σ H
def zc9:gJ X [] zg8:=fun _ _ σ H _ I h=>xdV ⟨σ,H,I,h⟩
def zcz (h1:PS X st t)(h2:gJ X rest u):gJ X (st::rest) (Df t u):=by
  intro pins s σ H D I h;refine xcS (aU (h1 pins s σ H {D with nx:=u D} I h) fun f s1 q=>?_)
  cases f with
  |next=>
    obtain⟨σ',H',I',q⟩:=q;exact h2 pins s1 σ' H' D I' q
  |ret v=>exact q
  |brk=>exact q
  |cont=>exact q
def Inv.quiet (I:Inv X pins σ H s):interactive X.env=false:=by simp[interactive,I.ok.kind]
def zf4 (te:TE):TS:=fun D σ H=>te σ H fun _ H1=>D.nx σ H1
def Fw (he:PE X e te)(hs:swapsWith e none pos.line X.env=pure false:=by rfl):PS X (.Expr e pos) (zf4 te):=by
 intro pins s σ H D I h;exact wpAny_Expr_any (aU (he pins s σ H _ I h) fun v s1 ⟨x,H1,I1,r1,q1⟩=>⟨σ,H1,I1,q1⟩) I.quiet hs
def O4 (te:TE):TS:=fun D σ H=>te σ H D.rt
def zex (he:PE X e te):PS X (.Return (some e) pos) (O4 te):=by
 intro pins s σ H D I h;exact wpAny_Return_some (aU (he pins s σ H _ I h) fun v s1 ⟨x,H1,I1,r1,q1⟩=>⟨x,σ,H1,I1,r1,q1⟩)
noncomputable def Oz (c:TT) (t u:TS):TS:=fun D σ H=>c σ H fun b H1=>if b=true then t D σ H1 else u D σ H1
def zfC (hc:PT X c tc)(ha:gJ X a t)(hb:gJ X b u):PS X (.If c a b pos) (Oz tc t u):=by
 intro pins s σ H D I h;refine wpAny_If (aU (hc pins s σ H _ I h) fun d s1 ⟨H1,I1,q1⟩=>?_)
 cases d with
 |true=>exact ha pins s1 σ H1 D I1 q1
 |false=>exact hb pins s1 σ H1 D I1 q1
end
abbrev TG:=V->St->Hp->(St->Hp->Prop)->Prop
abbrev zO:=List V->St->Hp->(St->Hp->Prop)->Prop
def PG (X:Cx)(target:Expr)(t:TG):Prop:=
 ∀(pins:Pnx) (s:Shared) (σ:St) (H:Hp) (v:V) (u:Value) (Q:St->Hp->Prop),Inv X pins σ H s->RelV v u->t v σ H Q->
  wpAny (model X.prog X.w) X.A (assign target X.env u) (fun _ s'=>∃σ' H',Inv X pins σ' H' s'/\Q σ' H') X.xe s
def zM (X:Cx)(ts:List Expr)(t:zO):Prop:=
 ∀(pins:Pnx) (s:Shared) (σ:St) (H:Hp) (vs:List V) (us:List Value) (Q:St->Hp->Prop),Inv X pins σ H s->Vals vs us->t vs σ H Q->
  wpAny (model X.prog X.w) X.A (assignInOrder ((assignEach ts X.env).map (·.2)) us) (fun _ s'=>∃σ' H',Inv X pins σ' H' s'/\Q σ' H') X.xe s
abbrev zP:=V->V->V->Hp->(Hp->Prop)->Prop
def zN (X:Cx)(t:zP):Prop:=
 ∀(pins:Pnx) (s:Shared) (σ:St) (H:Hp) (o i v:V) (ov iv u:Value) (Q:Hp->Prop),Inv X pins σ H s->RelV o ov->RelV i iv->RelV v u->t o i v H Q->
  wpAny (model X.prog X.w) X.A (setItem ov iv u) (fun _ s'=>∃H',Inv X pins σ H' s'/\Q H') X.xe s
section
variable {X:Cx}{pos:Pos}
def Ac (i:Nat):TG:=fun v σ H Q=>Q (σ.set i (some v)) H
def Ft (hN:X.N.Nodup)(hi:X.N[i]? =some x)(hx:Loc X.env.scope x)(hf:X.fn x=true\/X.env.scope.names.lookup x=some .local:=by first |exact .inl rfl |exact .inr rfl |assumption):PG X (.Name x pos) (Ac i):=by
 intro pins s σ H v u Q I r h;exact wpAny_assign_Name (Gz I hN hi hx r (fun s' I'=>⟨_,H,I',h⟩) hf)
def Jt:zO:=fun vs σ H Q=>vs=[]/\Q σ H
noncomputable def Z7 (t:TG) (u:zO):zO:=fun vs σ H Q=>∃v r,vs=v::r/\t v σ H fun σ' H'=>u r σ' H' Q
def zdo:zM X [] Jt:=by
 intro pins s σ H vs us Q I r h;obtain⟨e,h⟩:=h;subst e;cases r;exact assignInOrder_nil ⟨σ,H,I,h⟩
def zb1 (h1:PG X e t)(h2:zM X es u)
    (hs:(assignEach (e::es) X.env).map (·.2)=assign e X.env::(assignEach es X.env).map (·.2):=by rfl):zM X (e::es) (Z7 t u):=by
  intro pins s σ H vs us Q I r h;obtain⟨v,vr,e1,h⟩:=h;subst e1
  cases r with
  |cons r rr=>
    rw[hs];refine assignInOrder_cons (aU (h1 pins s σ H _ _ _ I r h) fun _ s1 ⟨σ1,H1,I1,q1⟩=>?_);exact h2 pins s1 σ1 H1 _ _ Q I1 rr q1
noncomputable def Jv (K:Fgx) (n:Nat) (t:zO):TG:=fun v σ H Q=>∃a xs,v=.ref a/\cI K H a xs/\xs.length=n/\t xs σ H Q
def zdF (hc:X.calm=true)(h:zM X es t)
  (hn:(assignEach es X.env).length=n:=by rfl) (hst:(assignEach es X.env).findIdx? (·.1)=none:=by rfl):PG X (.Tuple es k pos) (Jv X.K n t):=by
 intro pins s σ H v u Q I r hw;obtain⟨a,xs,e1,hq,hl,hw⟩:=hw;subst e1;cases r;obtain⟨its,rv,ht,hz⟩:=I.tuple hq;refine assign_Tuple_tuple (I.ok.hd hc) ht (by simp[hn, <-hl,rv.length]) hst fun h' hx=>?_;have I1:Inv X pins σ H {s with heap:=h'}:=I.kept (t':=s.toks) fun b o e=>hx b o (xaE (xaq e)) e;exact h pins _ σ H xs _ Q I1 (by simpa using rv) hw
noncomputable def Ju (to ti:TE) (t:zP):TG:=fun v σ H Q=>to σ H fun o H1=>ti σ H1 fun i H2=>t o i v H2 fun H3=>Q σ H3
def zd3 (ho:PE X o to)(hi:PE X i ti)(hs:zN X t)
  (ha : ∀ v, assign (.Subscript o i pos) X.env v = (do
   let ov <-holding [v] (eval o X.env)
   let iv <-holding [v,ov] (eval i X.env)
   standAt pos
   holding [v,ov,iv] (setItem ov iv v)
   release [v,ov,iv] []):=by intro _;rfl):PG X (.Subscript o i pos) (Ju to ti t):=by
 intro pins s σ H v u Q I r h;rw[ha];refine xaa (xby (aU (ho pins s σ H _ I h) fun ov s1 ⟨x,H1,I1,r1,q1⟩=>?_));refine xaa (xby (aU (hi pins s1 σ H1 _ I1 q1) fun iv s2 ⟨y,H2,I2,r2,q2⟩=>?_));refine xaa (xcm (xaa (xby (aU (hs pins s2 σ H2 x y v ov iv u _ I2 r1 r2 r q2) fun _ s3 ⟨H3,I3,q3⟩=>?_))));exact wpAny_release ⟨σ,H3,I3,q3⟩
noncomputable def C_ (te:TE) (g:TG):TS:=fun D σ H=>te σ H fun x H1=>g x σ H1 D.nx
def zei (he:PE X e te)(hg:PG X tg g)(hs:swapsWithSole [tg] e pos.line X.env=pure false:=by rfl)(hw:swappedStores [tg] e X.env=pure none:=by rfl)
  (h1:(assignEach [tg] X.env).map (·.2)=[assign tg X.env]:=by rfl):PS X (.Assign [tg] e pos) (C_ te g):=by
 intro pins s σ H D I h;refine wpAny_Assign_stores (aU (he pins s σ H _ I h) fun v s1 ⟨x,H1,I1,r1,q1⟩=>?_) hs hw;rw[h1];exact aU (hg pins s1 σ H1 x v _ I1 r1 q1) fun _ s2 q=>q
def U3 (hN:X.N.Nodup)(hi:X.N[i]? =some x)(hx:Loc X.env.scope x)(he:PE X e te)(hs:swapsWith e (some (.Name x pos')) pos.line X.env=pure false:=by rfl)(hf:X.fn x=true\/X.env.scope.names.lookup x=some .local:=by first |exact .inl rfl |exact .inr rfl |assumption):
  PS X (.Assign [.Name x pos'] e pos) (C_ te (Ac i)):=by
 intro pins s σ H D I h;refine wpAny_Assign_Name (aU (he pins s σ H _ I h) fun v s1 ⟨y,H1,I1,r1,q1⟩=>?_) hs;exact Gz I1 hN hi hx r1 (fun s2 I2=>⟨_,H1,I2,q1⟩) hf
end
section
variable {X:Cx}{pos:Pos}
noncomputable def zem (c:TT) (tb:TS):TS:=fun D σ H=>∃W:Nat->St->Hp->Prop,(∃m,W m σ H)/\∀m σ H,W m σ H->
 c σ H fun b H1=>if b=true then ∃N:St->Hp->Prop,(∀σ' H',N σ' H'->∃m',m'<m/\W m' σ' H')/\tb {D with nx:=N,ct:=N,bk:=D.nx} σ H1 else D.nx σ H1
def zce (hp:PassesOwn (model X.prog X.w) X.A X.env X.xe)(hc:PT X c tc)(hb:gJ X body tb):PS X (.While c body [] pos) (zem tc tb):=by
  intro pins s σ H D I h;obtain⟨W,⟨m0,w0⟩,turn⟩:=h;refine wpAny_While (codeAny_whileLoop (fun n s'=>∃σ' H',Inv X pins σ' H' s'/\W n σ' H') ?_ m0 ⟨σ,H,I,w0⟩);rintro n s1 ⟨σ1,H1,I1,w1⟩;refine xb6 hp (aU (hc pins s1 σ1 H1 _ I1 (turn n σ1 H1 w1)) fun b s2 ⟨H2,I2,q2⟩=>?_)
  cases b with
  |true=>
    obtain⟨N,hN,q2⟩:=q2;rw[xad rfl];refine xb6 hp (aU (hb pins s2 σ1 H2 _ I2 q2) fun f s3 q3=>?_)
    cases f with
    |next=>
      obtain⟨σ3,H3,I3,n3⟩:=q3;obtain⟨m',hm,w3⟩:=hN σ3 H3 n3;exact⟨m',hm,σ3,H3,I3,w3⟩
    |cont=>
      obtain⟨σ3,H3,I3,n3⟩:=q3;obtain⟨m',hm,w3⟩:=hN σ3 H3 n3;exact⟨m',hm,σ3,H3,I3,w3⟩
    |brk=>exact q3
    |ret v=>exact q3
  |false=>
    rw[xae xay];exact xdV ⟨σ1,H2,I2,q2⟩
end
structure It where
 go:Nat->Hp->Prop
 yld:Nat->Hp->V->Hp->Prop
 stop:Nat->Hp->Prop
def d9 (X:Cx)(pins:Pnx)(H:Hp)(b:Addr):Prop:=
 H b=none/\b≠X.env.locals/\b∉X.fs/\(b∈X.ex\/X.s₀.heap.objs.size<=b)/\(∀x c,X.env.cells.lookup x=some c->c≠b)/\∀p∈X.pn ++ pins,p.1≠b
def Inv.fpOk (I:Inv X pins σ H s)(hb:s.heap.objs.size<=b)(hn:H' b=none):d9 X pins H' b:=by
 refine⟨hn,xdH (xal I.lt hb),I.nofs hb,.inr (xar I.sz hb),fun x c e z=>?_,fun p hp z=>?_⟩
 ·obtain⟨v,q⟩:=I.cell x c e;exact absurd (xal q.lt (by rw[z];exact hb)) (xbh _)
 ·exact absurd (xal (xaq (I.pin p hp).1) (by rw[z];exact hb)) (xbh _)
structure Turn (P:Program)(w:World)(K:Fgx)(tg:Expr)(J:It)(fp:List Addr)(it:Addr)(tn:Nat->Heap->Prop):Prop where
 mem:it∈fp
 obj:∀i h,tn i h->∀b∈fp,∃o,h.get? b=some o/\∀v,o.data≠ .cell v
 keep:∀i h h',tn i h->(∀b∈fp,∀o,h.get? b=some o->h'.get? b=some o)->tn i h'
 item:∀(X:Cx),X.prog=P->X.w=w->X.K=K->X.calm=true->∀(i:Nat) (pins:Pnx) (s:Shared) (σ:St) (H:Hp) (E:Value->Shared->Prop),Inv X pins σ H s->(∀b∈fp,d9 X pins H b)->tn i s.heap->J.go i H->
  wpAny (model P w) X.A (pyNext (.ref it)) (fun r s1=>∃u,r=some u/\
   wpAny (model P w) X.A (letOwnedTupleGo tg (.ref it) u) (fun _ s2=>∃x H',Inv X pins σ H' s2/\RelV x u/\J.yld i H x H'/\tn (i + 1) s2.heap/\∀b∈fp,H' b=none) E s1) E s
 done:∀(X:Cx),X.prog=P->X.w=w->X.K=K->X.calm=true->∀(i:Nat) (pins:Pnx) (s:Shared) (σ:St) (H:Hp) (E:Value->Shared->Prop),Inv X pins σ H s->(∀b∈fp,d9 X pins H b)->tn i s.heap->J.stop i H->
  wpAny (model P w) X.A (pyNext (.ref it)) (fun r s1=>r=none/\Inv X pins σ H s1) E s
 self:∀(A:Around) (i:Nat) (s:Shared) (Q:Value->Shared->Prop) (E:Value->Shared->Prop),tn i s.heap->Q (.ref it) s->wpAny (model P w) A (pyIter (.ref it)) Q E s
abbrev TI:=St->Hp->(It->Hp->Prop)->Prop
def PIE (X:Cx)(pins:Pnx)(σ:St)(tg:Expr)(R:It->Hp->Prop)(itv:Value)(s2:Shared):Prop:=
 ∃(it:Addr) (fp:List Addr) (tn:Nat->Heap->Prop) (J:It) (H':Hp),itv=.ref it/\Inv X pins σ H' s2/\Turn X.prog X.w X.K tg J fp it tn/\tn 0 s2.heap/\(∀b∈fp,d9 X pins H' b)/\R J H'
def PI (X:Cx)(tg iter:Expr)(wi:TI):Prop:=
 ∀(pins:Pnx) (s:Shared) (σ:St) (H:Hp) (R:It->Hp->Prop),Inv X pins σ H s->wi σ H R->
  wpAny (model X.prog X.w) X.A (eval iter X.env) (fun v s1=>wpAny (model X.prog X.w) X.A (pyIter v) (PIE X pins σ tg R) X.xe s1) X.xe s
def wY {M:Model}{A:Around}{E:Value->Shared->Prop}{s:Shared}{tg:Expr}{it:Addr}{u:Value}{o:Obj}{n:String}{vs:Array Value}{Q:Unit->Shared->Prop}(ho:s.heap.get? it=some o)(hc:o.cls=.type n)(hd:o.data=.fields vs)
    (hn:["enumerate","zip","dict_itemiterator","dict_reverseitemiterator","odict_iterator","itertools.zip_longest","itertools.pairwise"].contains n=false) (hQ:Q () s):wpAny M A (letOwnedTupleGo tg (.ref it) u) Q E s:=by
  unfold letOwnedTupleGo;cases tg<;>first
    |exact xak hQ
    | (cases u<;>first
        |exact xak hQ
        | (refine xaa (wpAny_load ho ?_)
           rw[hc,hd];show wpAny M A (if (["enumerate","zip","dict_itemiterator","dict_reverseitemiterator","odict_iterator","itertools.zip_longest","itertools.pairwise"].contains n && vs[0]? ==some (rawInt _))=true then _ else _) Q E s
           rw[xae (by intro h;rw[hn,Bool.false_and]at h;cases h)];exact xak hQ))
noncomputable def dY (K:Fgx) (a:Addr):It:=
 ⟨fun i H=>∃xs x,b_ K H a xs/\xs[i]? =some x,fun i H x H'=>H'=H/\∀xs,b_ K H a xs->xs[i]? =some x,fun i H=>∃xs,b_ K H a xs/\xs.length<=i⟩
noncomputable def Pz (K:Fgx) (a:Addr):It:=
 ⟨fun i H=>∃xs x,cI K H a xs/\xs[i]? =some x,fun i H x H'=>H'=H/\∀xs,cI K H a xs->xs[i]? =some x,fun i H=>∃xs,cI K H a xs/\xs.length<=i⟩
noncomputable def Ds (lo:Int) (n:Nat):It:=⟨fun i _=>i<n,fun i H x H'=>H'=H/\x=.int (lo + i),fun i _=>n<=i⟩
def zbL {P:Program}{w:World}{K:Fgx}{tg:Expr}(a it:Addr):Turn P w K tg (dY K a) [it] it (fun i h=>h.IsListIter it a i) where
 mem:=by simp
 obj:=fun i h st b hb=>by
  have e:b=it:=by simpa using hb
  o_args
 keep:=fun i h h' st k=>st.at fun o e=>k it (by simp) o e
 item:=by
  w_why;obtain⟨xs,x,hq,hx⟩:=hg;obtain⟨its,rv,p,hz⟩:=I.list hq;obtain⟨u,hu,ru⟩:=rv.get hx;k_obj1;refine wpAny_pyNext_list_item st p.isList (x:=u) (by simpa using hu) fun h' st' sb=>?_;have I1:Inv X pins σ H {s with heap:=h'}:=I.turned (t':=s.toks) (fun b o hb e=>(sb.2 b hb).trans e) f0 f1 f3 f4 f5;obtain⟨o,e,c,d⟩:=id st';exact⟨u,rfl,wY (s:={s with heap:=h'}) e c d (by decide) ⟨x,H,I1,ru,⟨rfl,fun ys hy=>by rw[I.list_inj hy hq];exact hx⟩,st',fun b hb=>(hf b hb).1⟩⟩
 done:=by
  w_why;obtain⟨xs,hq,hx⟩:=hg;obtain⟨its,rv,p,hz⟩:=I.list hq;k_obj1;have hl:=rv.length;exact wpAny_pyNext_list_end (I.ok.hd hc) st p.isList (by simp;lia) fun h' eb=>⟨rfl,I.turned (t':=s.toks) (fun b o hb e=>eb b o hb e) f0 f1 f3 f4 f5⟩
 self:=fun _ _ _ _ _ st h=>wpAny_pyIter_listiter st h
def zbk {P:Program}{w:World}{K:Fgx}{tg:Expr}(a it:Addr):Turn P w K tg (Pz K a) [it] it (fun i h=>h.IsTupleIter it a i) where
 mem:=by simp
 obj:=fun i h st b hb=>by
  have e:b=it:=by simpa using hb
  o_args
 keep:=fun i h h' st k=>st.at fun o e=>k it (by simp) o e
 item:=by
  w_why;obtain⟨xs,x,hq,hx⟩:=hg;obtain⟨its,rv,p,hz⟩:=I.tuple hq;obtain⟨u,hu,ru⟩:=rv.get hx;k_obj1;refine wpAny_pyNext_tuple_item st (show s.heap.IsTuple a its.toArray from p) (x:=u) (by simpa using hu) fun h' st' sb=>?_;have I1:Inv X pins σ H {s with heap:=h'}:=I.turned (t':=s.toks) (fun b o hb e=>(sb.2 b hb).trans e) f0 f1 f3 f4 f5;obtain⟨o,e,c,d⟩:=id st';exact⟨u,rfl,wY (s:={s with heap:=h'}) e c d (by decide) ⟨x,H,I1,ru,⟨rfl,fun ys hy=>by rw[I.tuple_inj hy hq];exact hx⟩,st',fun b hb=>(hf b hb).1⟩⟩
 done:=by
  w_why;obtain⟨xs,hq,hx⟩:=hg;obtain⟨its,rv,p,hz⟩:=I.tuple hq;k_obj1;have hl:=rv.length;exact wpAny_pyNext_tuple_end (I.ok.hd hc) st (show s.heap.IsTuple a its.toArray from p) (by simp;lia) fun h' eb=>⟨rfl,I.turned (t':=s.toks) (fun b o hb e=>eb b o hb e) f0 f1 f3 f4 f5⟩
 self:=fun _ _ _ _ _ st h=>wpAny_pyIter_tupleiter st h
def zbj {P:Program}{w:World}{K:Fgx}{tg:Expr}(it:Addr)(lo:Int)(n:Nat):Turn P w K tg (Ds lo n) [it] it (fun i h=>IsRangeIter h it (lo + (i:Nat) * 1) ((n:Int) - (i:Nat)) 1) where
 mem:=by simp
 obj:=fun i h st b hb=>by
  have e:b=it:=by simpa using hb
  subst e;exact ⟨_,st,fun v z=>by
   have z':Data.fields _=Data.cell v:=z;cases z'⟩
 keep:=fun i h h' st k=>k it (by simp) _ st
 item:=by
  w_why;k_obj1;have W:=Walks.range (prog:=X.prog) (w:=X.w) (I.ok.hd hc) it lo 1 n;refine W.item i s _ _ hg st fun v h' tk hv st' kk=>?_;obtain⟨t,rfl⟩:=hv;have I1:Inv X pins σ H {s with heap:=h',toks:=tk}:=I.turned (fun b o hb e=>kk b o (by simpa using hb) e) f0 f1 f3 f4 f5;refine⟨_,rfl,wY (s:={s with heap:=h',toks:=tk}) (n:="range_iterator") st' rfl rfl (by decide) ⟨.int (lo + i),H,I1,⟨t,?_⟩,⟨rfl,rfl⟩,st',fun b hb=>(hf b hb).1⟩⟩;rw[Int.mul_one]
 done:=by
  w_why;k_obj1;exact wpAny_pyNext_range_end (I.ok.hd hc) st (by have:n<=i:=hg;lia) fun h' eb=>⟨rfl,I.turned (t':=s.toks) (fun b o hb e=>eb b o hb e) f0 f1 f3 f4 f5⟩
 self:=fun _ _ _ _ _ st h=>wpAny_pyIter_rangeiter st h
section
variable {X:Cx}{tg:Expr}
noncomputable def Sh (K:Fgx) (tl:TE):TI:=fun σ H R=>tl σ H fun x H1=>∃a,x=.ref a/\(∃xs,b_ K H1 a xs)/\R (dY K a) H1
noncomputable def JK (K:Fgx) (tl:TE):TI:=fun σ H R=>tl σ H fun x H1=>∃a,x=.ref a/\(∃xs,cI K H1 a xs)/\R (Pz K a) H1
def UL {l:Expr}{tl:TE}(hl:PE X l tl):PI X tg l (Sh X.K tl):=by
 intro pins s σ H R I h;refine aU (hl pins s σ H _ I h) fun v s1 ⟨x,H1,I1,r1,q1⟩=>?_;obtain⟨a,e,⟨xs,hq⟩,q⟩:=q1;subst e;cases r1;obtain⟨its,rv,p,hz⟩:=I1.list hq;refine wpAny_pyIter_list p.isList ?_;refine⟨s1.heap.objs.size,[s1.heap.objs.size],_,_,H1,rfl,I1.kept (t':=s1.toks) fun b o e=>xac _ e,zbL a _,⟨_,xax _ rfl,rfl,rfl⟩,fun b hb=>?_,q⟩;have e:b=s1.heap.objs.size:=by simpa using hb
 subst e;exact I1.fpOk (xaf _) (I1.hok.fresh (xaf _))
def zdS {l:Expr}{tl:TE}(hl:PE X l tl):PI X tg l (JK X.K tl):=by
 intro pins s σ H R I h;refine aU (hl pins s σ H _ I h) fun v s1 ⟨x,H1,I1,r1,q1⟩=>?_;obtain⟨a,e,⟨xs,hq⟩,q⟩:=q1;subst e;cases r1;obtain⟨its,rv,p,hz⟩:=I1.tuple hq;refine wpAny_pyIter_tuple (show s1.heap.IsTuple a its.toArray from p) ?_;refine⟨s1.heap.objs.size,[s1.heap.objs.size],_,_,H1,rfl,I1.kept (t':=s1.toks) fun b o e=>xac _ e,zbk a _,⟨_,xax _ rfl,rfl,rfl⟩,fun b hb=>?_,q⟩;have e:b=s1.heap.objs.size:=by simpa using hb
 subst e;exact I1.fpOk (xaf _) (I1.hok.fresh (xaf _))
def zb6 {pins:Pnx}{σ:St}{H:Hp}{s:Shared}{R:It->Hp->Prop}{E:Value->Shared->Prop}{lo hi:Int}{t u v:Tok}{tk:Nat}(I:Inv X pins σ H s)(h1: -(2 ^ 62)<=lo)(h2:lo<2 ^ 62)(h3: -(2 ^ 62)<=hi)(h4:hi<2 ^ 62)
  (q:R (Ds lo (hi - lo).toNat) H):wpAny (model X.prog X.w) X.A (pyIter (.ref s.heap.objs.size)) (PIE X pins σ tg R) E {s with heap:=s.heap.push {cls:=.type "range",data:=.fields #[.int lo t,.int hi u,.int 1 v]},toks:=tk}:=by
 refine wpAny_pyIter_range (IsRange.new ..) (small_one h1 h2 h3 h4) ?_;have I1 : Inv X pins σ H { s with heap := s.heap.push { cls := .type "range", data := .fields #[.int lo t, .int hi u, .int 1 v] }, toks := tk } := I.kept fun b o e => xac _ e;refine ⟨(s.heap.push {cls:=.type "range",data:=.fields #[.int lo t,.int hi u,.int 1 v]}).objs.size,[(s.heap.push {cls:=.type "range",data:=.fields #[.int lo t,.int hi u,.int 1 v]}).objs.size],_,_,H,rfl,
  I1.kept (t':=tk) fun b o e=>xac _ e,zbj _ lo (hi - lo).toNat,?_,fun b hb=>?_,q⟩
 ·have e1:lo + ((0:Nat):Int) * 1=lo:=by simp
  have e2:(((hi - lo).toNat:Nat):Int) - ((0:Nat):Int)=Builtin.Range.rangeSize lo hi 1:=by rw[rangeSize_one];split<;>lia
  show IsRangeIter _ _ (lo + ((0:Nat):Int) * 1) ((((hi - lo).toNat:Nat):Int) - ((0:Nat):Int)) 1;rw[e1,e2];exact xax _ rfl
 ·have e:b=(s.heap.push {cls:=.type "range",data:=.fields #[.int lo t,.int hi u,.int 1 v]}).objs.size:=by simpa using hb
  subst e;exact I1.fpOk (xaf _) (I1.hok.fresh (xaf _))
noncomputable def gP (ta:TA):TI:=fun σ H R=>ta σ H fun vs H1=>∃j:Int,vs=[.int j]/\ -(2 ^ 62)<=j/\j<2 ^ 62/\R (Ds 0 j.toNat) H1
def zbx {a:Expr}{ta:TA}{p pos:Pos}(hg:Gl X "range")(hm:X.mg "range"=none)(ha:PA X [a] ta)(hs:starEach [a] X.env=[(false,eval a X.env)]:=by rfl):PI X tg (.Call (.Name "range" p) [a] [] pos) (gP ta):=by
  intro pins s σ H R I h;refine Call_ (Bd I hg hm boot_range (xcC (aU (ha pos pins s σ H _ I h) fun us s1 ⟨vs,H1,I1,r1,q1⟩=>?_) hs rfl));obtain⟨j,e,q1,q2,q⟩:=q1;subst e
  cases r1 with
  |cons r rr=>
    cases rr;obtain⟨t,rfl⟩:=r;exact call_range_1 (zb6 I1 (by lia) (by lia) q1 q2 (by simpa using q))
noncomputable def Ox (wi:TI) (g:TG) (tb:TS):TS:=fun D σ H=>wi σ H fun J H1=>∃W:Nat->Nat->St->Hp->Prop,(∃m,W 0 m σ H1)/\∀i m σ H,W i m σ H->
 (J.stop i H/\D.nx σ H)\/(J.go i H/\∃N:St->Hp->Prop,(∀σ' H',N σ' H'->∃m',m'<m/\W (i + 1) m' σ' H')/\∀x H',J.yld i H x H'->g x σ H' fun σ2 H2=>tb {D with nx:=N,ct:=N,bk:=D.nx} σ2 H2)
noncomputable def BX (fp:List Addr) (h:Heap):Pnx:=fp.filterMap fun b=>(h.get? b).map fun o=>(b,o)
def Fb (hb:b∈fp)(e:h.get? b=some o):(b,o)∈BX fp h:=xb2.mpr ⟨b,hb,by rw[e];rfl⟩
def zbs (hp:p∈BX fp h):p.1∈fp/\h.get? p.1=some p.2:=by
  obtain⟨b,hb,e⟩:=xb2.mp hp
  cases q:h.get? b with
  |none=>rw[q]at e;cases e
  |some o=>
    rw[q]at e;have e':(b,o)=p:=xaA e;subst e';exact⟨hb,q⟩
def Inv.pinned (I:Inv X pins σ H s)(hf:∀b∈fp,d9 X pins H b)(ho:∀b∈fp,∃o,s.heap.get? b=some o/\∀v,o.data≠ .cell v):Inv X (pins ++ BX fp s.heap) σ H s:=
 I.pins_of fun p hp=>(xbO.mp hp).elim (fun z=>I.pin p (xaG _ z)) fun z=>by
  obtain⟨hb,e⟩:=zbs z;obtain⟨f0,f1,f2,_⟩:=hf p.1 hb;obtain⟨o,e',d⟩:=ho p.1 hb;rw[e]at e';cases e';exact⟨e,f0,f1,f2,d⟩
def Inv.unpinned (I:Inv X (pins ++ pl) σ H s):Inv X pins σ H s:=I.pins_of fun p hp=>I.pin p (xaG _ (xcZ _ hp))
def U0 (hp:PassesOwn (model X.prog X.w) X.A X.env X.xe)(hc:X.calm=true)(hi:PI X tg iter wi)(hg:PG X tg g)(hb:gJ X body tb)
  (hs:∀x,foldedSetIterable iter X.env x=pure x:=by intro _;rfl):PS X (.For tg iter body [] pos) (Ox wi g tb):=by
 intro pins s σ H D I h;refine wpAny_For (aU (hi pins s σ H _ I h) fun v s1 h1=>aU h1 fun itv s2 h2=>?_) hs;obtain⟨it,fp,tn,J,H2,e,I2,T,st2,f2,W,⟨m0,w0⟩,turn⟩:=h2;subst e
 -- what stays true of the iterator's objects through the loop
 have stat:∀{H':Hp},(∀b∈fp,H' b=none)->∀b∈fp,d9 X pins H' b:=fun hn b hb=>⟨hn b hb,(f2 b hb).2⟩;refine codeAny_forLoop_any (fun n s'=>∃i σ' H',Inv X pins σ' H' s'/\tn i s'.heap/\(∀b∈fp,H' b=none)/\W i n σ' H') ?_ m0 ⟨0,σ,H2,I2,st2,fun b hb=>(f2 b hb).1,w0⟩;rintro n s3 ⟨i,σ3,H3,I3,st3,fr3,w3⟩;rcases turn i n σ3 H3 w3 with⟨stop,qn⟩ |⟨go,N,hN,step⟩
 ·refine xb6 hp (aU (T.done X rfl rfl rfl hc i pins s3 σ3 H3 X.xe I3 (stat fr3) st3 stop) fun r s4 ⟨hr,I4⟩=>?_);subst hr;exact xdV ⟨σ3,H3,I4,qn⟩
 ·refine xb6 hp (aU (T.item X rfl rfl rfl hc i pins s3 σ3 H3 X.xe I3 (stat fr3) st3 go) fun r s4 ⟨u,hr,h4⟩=>?_);subst hr;refine xb6 hp (aU h4 fun _ s5 ⟨x,H5,I5,r5,y5,st5,fr5⟩=>?_);have I5':=I5.pinned (stat fr5) (T.obj _ _ st5);refine xb6 hp (aU (hg _ s5 σ3 H5 x u _ I5' r5 (step x H5 y5)) fun _ s6 ⟨σ6,H6,I6,q6⟩=>?_);refine xb6 hp (aU (hb _ s6 σ6 H6 _ I6 q6) fun f s7 q7=>?_);have again:∀{σ7:St} {H7:Hp},Inv X (pins ++ BX fp s5.heap) σ7 H7 s7->N σ7 H7->∃m,m<n/\∃i σ' H',Inv X pins σ' H' s7/\tn i s7.heap/\(∀b∈fp,H' b=none)/\W i m σ' H':=fun {σ7 H7} I7 n7=>by
   obtain⟨m',hm,w7⟩:=hN σ7 H7 n7;refine⟨m',hm,i + 1,σ7,H7,I7.unpinned,T.keep _ _ _ st5 fun b hb o e=>(I7.pin (b,o) (xaG _ (xaG _ (Fb hb e)))).1,fun b hb=>?_,w7⟩;obtain⟨o,e,d⟩:=T.obj _ _ st5 b hb;exact(I7.pin (b,o) (xaG _ (xaG _ (Fb hb e)))).2.1
  cases f with
  |next=>obtain⟨σ7,H7,I7,n7⟩:=q7;exact again I7 n7
  |cont=>obtain⟨σ7,H7,I7,n7⟩:=q7;exact again I7 n7
  |brk=>obtain⟨σ7,H7,I7,q7⟩:=q7;exact⟨σ7,H7,I7.unpinned,q7⟩
  |ret v=>obtain⟨x7,σ7,H7,I7,r7,q7⟩:=q7;exact⟨x7,σ7,H7,I7.unpinned,r7,q7⟩
end
abbrev R2:=V->V->Hp->VK->Prop
def bV (X:Cx)(f:Value->Value->Sem Value)(r:R2):Prop:=
 ∀(pins:Pnx) (s:Shared) (σ:St) (H:Hp) (x y:V) (v u:Value) (Q:VK),Inv X pins σ H s->RelV x v->RelV y u->r x y H Q->
  wpAny (model X.prog X.w) X.A (f v u) (EP X pins σ Q) X.xe s
def Dv (X:Cx)(f:Value->Sem Value)(r:V->Hp->VK->Prop):Prop:=
 ∀(pins:Pnx) (s:Shared) (σ:St) (H:Hp) (x:V) (v:Value) (Q:VK),Inv X pins σ H s->RelV x v->r x H Q->
  wpAny (model X.prog X.w) X.A (f v) (EP X pins σ Q) X.xe s
def dB (X:Cx)(f:Value)(r:List V->Hp->VK->Prop):Prop:=
 ∀(pins:Pnx) (s:Shared) (σ:St) (H:Hp) (xs:List V) (us:List Value) (Q:VK),Inv X pins σ H s->Vals xs us->r xs H Q->
  wpAny (model X.prog X.w) X.A (call f us) (EP X pins σ Q) X.xe s
def Hq (X:Cx)(r:V->Hp->(Bool->Hp->Prop)->Prop):Prop:=
 ∀(pins:Pnx) (s:Shared) (σ:St) (H:Hp) (x:V) (v:Value) (Q:Bool->Hp->Prop),Inv X pins σ H s->RelV x v->r x H Q->
  wpAny (model X.prog X.w) X.A (truthy v) (TP X pins σ Q) X.xe s
noncomputable def Dd (r:R2) (ta tb:TE):TE:=fun σ H Q=>ta σ H fun x H1=>tb σ H1 fun y H2=>r x y H2 Q
noncomputable def Xo (r:V->Hp->VK->Prop) (ta:TE):TE:=fun σ H Q=>ta σ H fun x H1=>r x H1 Q
noncomputable def rI (C:Int->Int->Prop) (g:Int->Int->V):R2:=fun x y H Q=>∃i j,x=.int i/\y=.int j/\C i j/\Q (g i j) H
noncomputable def k_ (g:Int->Int->V):R2:=fun x y H Q=>∃i j,x=.int i/\y=.int j/\Q (g i j) H
def rU (g:Int->V):V->Hp->VK->Prop:=fun x H Q=>∃i,x=.int i/\Q (g i) H
section
variable {X:Cx}{a b c:Expr}{ta tb tc:TE}{pos:Pos}
def wD (ha:PE X a ta)(hb:PE X b tb){pins:Pnx}{s:Shared}{σ:St}{H:Hp}{R:V->V->Hp->Prop}(I:Inv X pins σ H s)
  (h:ta σ H fun x H1=>tb σ H1 fun y H2=>R x y H2) {Q:Value->Shared->Prop} {f:Value->Value->Sem Value}
  (hf:∀v u s2 x y H2,Inv X pins σ H2 s2->RelV x v->RelV y u->R x y H2->wpAny (model X.prog X.w) X.A (f v u) Q X.xe s2):
  wpAny (model X.prog X.w) X.A (eval a X.env) (fun v s₁=>wpAny (model X.prog X.w) X.A (eval b X.env) (fun u s₂=>wpAny (model X.prog X.w) X.A (f v u) Q X.xe s₂) X.xe s₁) X.xe s:=by
 refine aU (ha pins s σ H _ I h) fun v s1 ⟨x,H1,I1,r1,q1⟩=>?_;refine aU (hb pins s1 σ H1 _ I1 q1) fun u s2 ⟨y,H2,I2,r2,q2⟩=>?_;exact hf v u s2 x y H2 I2 r1 r2 q2
def UG {op:Operator}{r:R2}(ho:bV X (binaryOp op) r)(ha:PE X a ta)(hb:PE X b tb):PE X (.BinOp a op b pos) (Dd r ta tb):=by
 sr_in;exact wpAny_BinOp (wD ha hb I h fun v u s2 x y H2 I2 rx ry q=>ho pins s2 σ H2 x y v u Q I2 rx ry q)
def zgV (ho:Dv X (unaryOp op) r)(ha:PE X a ta):PE X (.UnaryOp op a pos) (Xo r ta):=by
 sr_in;exact UnaryOp_ (aU (ha pins s σ H _ I h) fun v s1 ⟨x,H1,I1,r1,q1⟩=>ho pins s1 σ H1 x v Q I1 r1 q1)
def Fo {f:Value->Value->Sem Value}{C:Int->Int->Prop}{g:Int->Int->Int}
  (rule:∀(i j:Int) (t u:Tok) (s:Shared) (Q:Value->Shared->Prop) (E:Value->Shared->Prop),C i j->Q (.int (g i j) s.toks) {s with toks:=s.toks + 1}->wpAny (model X.prog X.w) X.A (f (.int i t) (.int j u)) Q E s):
  bV X f (rI C fun i j=>.int (g i j)):=by
 l_out;obtain⟨i,j,rfl,rfl,hc,q⟩:=h;kfm_eq;obtain⟨t',rfl⟩:=ry;exact rule i j t t' s _ _ hc ⟨.int (g i j),H,I.tok _,⟨_,rfl⟩,q⟩
def BJ {f:Value->Value->Sem Value}{g:Int->Int->Int}
  (rule:∀(i j:Int) (t u:Tok) (s:Shared) (Q:Value->Shared->Prop) (E:Value->Shared->Prop),Q (.int (g i j) s.toks) {s with toks:=s.toks + 1}->wpAny (model X.prog X.w) X.A (f (.int i t) (.int j u)) Q E s):
  bV X f (k_ fun i j=>.int (g i j)):=by
 w_head;exact rule i j t t' s _ _ ⟨.int (g i j),H,I.tok _,⟨_,rfl⟩,q⟩
def rR {f:Value->Value->Sem Value}{g:Int->Int->Bool}
  (rule:∀(i j:Int) (t u:Tok) (s:Shared) (Q:Value->Shared->Prop) (E:Value->Shared->Prop),Q (.bool (g i j)) s->wpAny (model X.prog X.w) X.A (f (.int i t) (.int j u)) Q E s):
  bV X f (k_ fun i j=>.bl (g i j)):=by
 w_head;exact rule i j t t' s _ _ ⟨.bl (g i j),H,I,rfl,q⟩
def zG (i j:Int):Prop:=0<j/\j<1073741824
def wj (i j:Int):Prop:=0<=j/\j<=1000000/\i.natAbs<2 ^ 64
def pN (i j:Int):Prop:=(-(2 ^ 64)<i/\i<2 ^ 64)\/(-(2 ^ 64)<j/\j<2 ^ 64)
def pN.ok (h:pN i j):IntMulOk i j:=by
 rcases h with⟨h1,h2⟩ |⟨h1,h2⟩
 ·exact .of_left (intBits_le_64 h1 h2)
 ·exact .of_right (intBits_le_64 h1 h2)
def zdY:bV X (binaryOp .Add) (k_ fun i j=>.int (i + j)):=BJ fun _ _ _ _ _ _ _ q=>add_int q
def BK:bV X (binaryOp .Sub) (k_ fun i j=>.int (i - j)):=BJ fun _ _ _ _ _ _ _ q=>sub_int q
def rW:bV X (binaryOp .FloorDiv) (rI zG fun i j=>.int (i / j)):=Fo fun i j _ _ _ _ _ hc q=>by
 have h1:(0:Int)<j:=hc.1;have h2:j<1073741824:=hc.2;exact floordiv_int (by lia) (by rw[Int.fdiv_eq_ediv_of_nonneg i (by lia)];exact q) (.inl (PyProof.noPylong_small (by lia)))
def g_:bV X (binaryOp .Mod) (rI (fun _ j=>0<j) fun i j=>.int (i % j)):=Fo fun i j _ _ _ _ _ hc q=>by
 have h1:(0:Int)<j:=hc;exact mod_int' (by lia) (by rw[Int.fmod_eq_emod_of_nonneg i (by lia)];exact q)
def K9:bV X (binaryOp .Pow) (rI wj fun i j=>.int (i ^ j.toNat)):=Fo fun _ _ _ _ _ _ _ hc q=>pow_int_small hc.1 hc.2.1 hc.2.2 q
def unI {f:Value->Sem Value}{g:Int->Int}
  (rule:∀(i:Int) (t:Tok) (s:Shared) (Q:Value->Shared->Prop) (E:Value->Shared->Prop),Q (.int (g i) s.toks) {s with toks:=s.toks + 1}->wpAny (model X.prog X.w) X.A (f (.int i t)) Q E s):
  Dv X f (rU fun i=>.int (g i)):=by
 intro pins s σ H x v Q I rx h;obtain⟨i,rfl,q⟩:=h;kfm_eq;exact rule i t s _ _ ⟨.int (g i),H,I.tok _,⟨_,rfl⟩,q⟩
def zey:Dv X (unaryOp .USub) (rU fun i=>.int (-i)):=unI fun _ _ _ _ _ q=>neg_int q
end
noncomputable def sS:V->V->Bool
 |.non,.non=>true |.non,.int _=>true |.int _,.non=>true |.non,.bl _=>true |.bl _,.non=>true |.non,.str _=>true |.str _,.non=>true
 |.int _,.int _=>true |.bl _,.bl _=>true |.str _,.str _=>true |.byt _,.byt _=>true
 |.int _,.str _=>true |.str _,.int _=>true |.bl _,.str _=>true |.str _,.bl _=>true
 |_,_=>false
def rEq:R2:=fun x y H Q=>sS x y=true/\Q (.bl (decide (x=y))) H
def rNe:R2:=fun x y H Q=>sS x y=true/\Q (.bl (!decide (x=y))) H
def Rb:decide (V.int i=V.int j)=(i==j):=by
 rw[xbD]
 simp
def Eh:decide (V.bl i=V.bl j)=(i==j):=by
 rw[xbD]
 simp
def Rf:decide (V.str i=V.str j)=(i==j):=by
 rw[xbD]
 simp
def Ra:decide (V.byt i=V.byt j)=(i.toList==j.toList):=by
 rw[xbD];cases i;cases j
 simp
section
variable {X:Cx}{a b c:Expr}{ta tb tc:TE}{pos:Pos}
def bG (I:Inv X pins σ H s)(q:Q (.bl k) H)(e:k=k'):EP X pins σ Q (.bool k') s:=by
 subst e;exact⟨.bl k,H,I,rfl,q⟩
def zg3:bV X (compareOp .Eq) rEq:=by
  l_out;obtain⟨hs,q⟩:=h
  cases x with
  |non=>
    cases rx
    cases y with
    |non=>cases ry;exact PySem.EqNone.eq_none_none (bG I q (by simp))
    |bl j=>cases ry;exact PySem.EqNone.eq_none_bool (bG I q (by simp))
    |int j=>obtain⟨t',rfl⟩:=ry;exact PySem.EqNone.eq_none_int (bG I q (by simp))
    |str j=>obtain⟨t',rfl⟩:=ry;exact PySem.EqNone.eq_none_str (bG I q (by simp))
    |_=>exact absurd (show false=true from hs) xay
  |bl i=>
    cases rx
    cases y with
    |non=>cases ry;exact PySem.EqNone.eq_bool_none (bG I q (by simp))
    |bl j=>cases ry;exact eq_bool (bG I q Eh)
    |str j=>obtain⟨t',rfl⟩:=ry;exact PySem.EqMixed.eq_bool_str (bG I q (by simp))
    |_=>exact absurd (show false=true from hs) xay
  |int i=>
    kfm_eq
    cases y with
    |non=>cases ry;exact PySem.EqNone.eq_int_none (bG I q (by simp))
    |int j=>obtain⟨t',rfl⟩:=ry;exact eq_int (bG I q Rb)
    |str j=>obtain⟨t',rfl⟩:=ry;exact PySem.EqMixed.eq_int_str (bG I q (by simp))
    |_=>exact absurd (show false=true from hs) xay
  |str i=>
    kfm_eq
    cases y with
    |non=>cases ry;exact PySem.EqNone.eq_str_none (bG I q (by simp))
    |bl j=>cases ry;exact PySem.EqMixed.eq_str_bool (bG I q (by simp))
    |int j=>obtain⟨t',rfl⟩:=ry;exact PySem.EqMixed.eq_str_int (bG I q (by simp))
    |str j=>obtain⟨t',rfl⟩:=ry;exact eq_str (bG I q Rf)
    |_=>exact absurd (show false=true from hs) xay
  |byt i=>
    kfm_eq
    cases y with
    |byt j=>obtain⟨t',rfl⟩:=ry;exact PySem.W.eq_bytes (bG I q Ra)
    |_=>exact absurd (show false=true from hs) xay
  |_=>cases y<;>exact absurd (show false=true from hs) xay
def zfK:bV X (compareOp .NotEq) rNe:=by
  l_out;obtain⟨hs,q⟩:=h
  cases x with
  |non=>
    cases rx
    cases y with
    |non=>cases ry;exact PySem.EqNone.ne_none_none (bG I q (by simp))
    |bl j=>cases ry;exact PySem.EqNone.ne_none_bool (bG I q (by simp))
    |int j=>obtain⟨t',rfl⟩:=ry;exact PySem.EqNone.ne_none_int (bG I q (by simp))
    |str j=>obtain⟨t',rfl⟩:=ry;exact PySem.EqNone.ne_none_str (bG I q (by simp))
    |_=>exact absurd (show false=true from hs) xay
  |bl i=>
    cases rx
    cases y with
    |non=>cases ry;exact PySem.EqNone.ne_bool_none (bG I q (by simp))
    |bl j=>cases ry;exact ne_bool (bG I q (congrArg not Eh))
    |str j=>obtain⟨t',rfl⟩:=ry;exact PySem.EqMixed.ne_bool_str (bG I q (by simp))
    |_=>exact absurd (show false=true from hs) xay
  |int i=>
    kfm_eq
    cases y with
    |non=>cases ry;exact PySem.EqNone.ne_int_none (bG I q (by simp))
    |int j=>obtain⟨t',rfl⟩:=ry;exact ne_int (bG I q (congrArg not Rb))
    |str j=>obtain⟨t',rfl⟩:=ry;exact PySem.EqMixed.ne_int_str (bG I q (by simp))
    |_=>exact absurd (show false=true from hs) xay
  |str i=>
    kfm_eq
    cases y with
    |non=>cases ry;exact PySem.EqNone.ne_str_none (bG I q (by simp))
    |bl j=>cases ry;exact PySem.EqMixed.ne_str_bool (bG I q (by simp))
    |int j=>obtain⟨t',rfl⟩:=ry;exact PySem.EqMixed.ne_str_int (bG I q (by simp))
    |str j=>obtain⟨t',rfl⟩:=ry;exact ne_str (bG I q (congrArg not Rf))
    |_=>exact absurd (show false=true from hs) xay
  |byt i=>
    kfm_eq
    cases y with
    |byt j=>obtain⟨t',rfl⟩:=ry;exact PySem.W.ne_bytes (bG I q (congrArg not Ra))
    |_=>exact absurd (show false=true from hs) xay
  |_=>cases y<;>exact absurd (show false=true from hs) xay
def zgQ:bV X (compareOp .Lt) (k_ fun i j=>.bl (decide (i<j))):=rR fun _ _ _ _ _ _ _ q=>lt_int q
def zf6:bV X (compareOp .LtE) (k_ fun i j=>.bl (decide (i<=j))):=rR fun _ _ _ _ _ _ _ q=>le_int q
def zgK:bV X (compareOp .Gt) (k_ fun i j=>.bl (decide (j<i))):=rR fun _ _ _ _ _ _ _ q=>gt_int q
def zhb:bV X (compareOp .GtE) (k_ fun i j=>.bl (decide (j<=i))):=rR fun _ _ _ _ _ _ _ q=>ge_int q
def zbG:bV X (compareOp .In) (fun x y H Q=>∃i j,x=.str i/\y=.str j/\Q (.bl (!(Builtin.Str.occurrences j i 0 j.length 1).isEmpty)) H):=by
 w_head;exact in_str (bG I q rfl)
def zft:bV X (compareOp .Is) (fun x y H Q=>y=.non/\Q (.bl (decide (x=.non))) H):=by
 l_out;obtain⟨rfl,q⟩:=h;cases ry;refine is_none_gen (bG I q ?_);cases x<;>first
  |(cases rx;rfl)
  |(obtain⟨t,rfl⟩:=rx;rfl)
def zcZ:bV X (compareOp .IsNot) (fun x y H Q=>y=.non/\Q (.bl (!decide (x=.non))) H):=by
 l_out;obtain⟨rfl,q⟩:=h;cases ry;refine isnot_none_gen (bG I q ?_);cases x<;>first
  |(cases rx;rfl)
  |(obtain⟨t,rfl⟩:=rx;rfl)
def zaQ:bV X (compareOp .NotIn) (fun x y H Q=>∃i j,x=.str i/\y=.str j/\Q (.bl (!(!(Builtin.Str.occurrences j i 0 j.length 1).isEmpty))) H):=by
 w_head;exact notIn_str (bG I q rfl)
def bV.or (h:bV X f r)(h':bV X f r'):bV X f (fun x y H Q=>r x y H Q\/r' x y H Q):=by
 intro pins s σ H x y v u Q I rx ry q;rcases q with q |q
 ·exact h pins s σ H x y v u Q I rx ry q
 ·exact h' pins s σ H x y v u Q I rx ry q
def zc0 {op:CmpOp}{r:R2}(ho:bV X (compareOp op) r)(ha:PE X a ta)(hb:PE X b tb)(hm:behindInMarks op b=false):PE X (.Compare a [op] [b] pos) (Dd r ta tb):=by
 sr_in;exact wpAny_Compare1 (wD ha hb I h fun v u s2 x y H2 I2 rx ry q=>ho pins s2 σ H2 x y v u Q I2 rx ry q) hm
noncomputable def Xn (t:TE):TT:=fun σ H Q=>t σ H fun x H'=>∃k,x=.bl k/\Q k H'
def zdi (ho:bV X (compareOp op) r)(ha:PE X a ta)(hb:PE X b tb)(hm:behindInMarks op b=false):PT X (.Compare a [op] [b] pos) (Xn (Dd r ta tb)):=by
 sr_in;refine wpAny_isTrue_Compare1 (aU (ha pins s σ H _ I h) fun v s1 ⟨x,H1,I1,r1,q1⟩=>aU (hb pins s1 σ H1 _ I1 q1) fun u s2 ⟨y,H2,I2,r2,q2⟩=>
  aU (ho pins s2 σ H2 x y v u _ I2 r1 r2 q2) fun c s3 ⟨z,H3,I3,r3,k,e,q3⟩=>?_) hm
 subst e;cases r3;exact xca ⟨H3,I3,q3⟩
def pP (K:Fgx)(x:V)(H:Hp)(k:Bool):Prop:=
 match x with
 |.non=>k=false
 |.bl b=>k=b
 |.int i=>k=(i !=0)
 |.str y=>y.length<=sizeLine/\k=((y.length:Int) !=0)
 |.byt y=>y.size<=sizeLine/\k=((y.size:Int) !=0)
 |.ref p=>(∃xs,b_ K H p xs/\k= !xs.isEmpty)\/(∃xs,cI K H p xs/\k= !xs.isEmpty)\/∃kvs,H p=some (.dK kvs)/\k= !kvs.isEmpty
 |_=>False
theorem zbi (r:KV kvs vs):(!vs.isEmpty)= !kvs.isEmpty:=by
 cases r<;>rfl
def S5 (r:Vals xs its):(!its.toArray.isEmpty)= !xs.isEmpty:=by
 cases r<;>simp
def rN:(sizeLine:Nat)<2 ^ 63:=by rw[xa8];decide
def Xw:Hq X (fun x H Q=>∃k,pP X.K x H k/\Q k H):=by
  intro pins s σ H x v Q I rx h;obtain⟨k,e,q⟩:=h;have hl:=rN;have hs:sizeLine=16777216:=xa8
  cases x with
  |non=>
    cases rx;have e':k=false:=e;subst e';exact truthy_none ⟨H,I,q⟩
  |bl b=>
    cases rx;have e':k=b:=e;subst e';exact xca ⟨H,I,q⟩
  |int i=>
    kfm_eq;have e':k=(i !=0):=e;subst e';exact PySem.P.truthy_int ⟨H,I,q⟩
  |str y=>
    kfm_eq;obtain⟨hy,e'⟩:y.length<=sizeLine/\k=((y.length:Int) !=0):=e;subst e';exact PySem.P.truthy_str (by lia) ⟨H,I.tok _,q⟩
  |byt y=>
    kfm_eq;obtain⟨hy,e'⟩:y.size<=sizeLine/\k=((y.size:Int) !=0):=e;subst e';exact PySem.W.truthy_bytes (by lia) ⟨H,I.tok _,q⟩
  |ref p=>
    cases rx;have e':(∃xs,b_ X.K H p xs/\k= !xs.isEmpty)\/(∃xs,cI X.K H p xs/\k= !xs.isEmpty)\/∃kvs,H p=some (.dK kvs)/\k= !kvs.isEmpty:=e;rcases e' with⟨xs,hx,e'⟩ |⟨xs,hx,e'⟩ |⟨kvs,hx,e'⟩
    · subst e';obtain⟨its,r,pl,hz⟩:=I.list hx;have hlen:=r.length;exact wpAny_truthy_list pl.isList (by simp only[xai];lia) ⟨H,I.tok _,by rw[S5 r];exact q⟩
    · subst e';obtain⟨its,r,pl,hz⟩:=I.tuple hx;have hlen:=r.length;exact truthy_tuple pl (by simp only[xai];lia) ⟨H,I.tok _,by rw[S5 r];exact q⟩
    · subst e';obtain⟨hz,hS,vs,r,m⟩:kvs.length<=sizeLine/\(p==sysModules)=false/\∃vs,KV kvs vs/\s.heap.DictOf (pA X.prog X.w) p vs:=I.hok p _ hx;have hlen:kvs.length=vs.length:=Paired.length r;exact wpAny_truthy_dict hS m (by lia) ⟨H,I.tok _,by rw[zbi r];exact q⟩
  |_=>exact(show False from e).elim
def zbW (ha:PE X a ta)(he:∀whole,isTrue a X.env whole=(do let v <-whole;standAt a.pos;holding [v] (truthy v))):
  PT X a (fun σ H Q=>ta σ H fun x H'=>∃k,pP X.K x H' k/\Q k H'):=by
 sr_in;exact isTrue_plain (aU (ha pins s σ H _ I h) fun v s1 ⟨x,H1,I1,r1,q1⟩=>Xw pins s1 σ H1 x v Q I1 r1 q1) (he _)
def zbc:bV X (binaryOp .Add) (fun x y H Q=>∃i j,x=.str i/\y=.str j/\i.length + j.length<=sizeLine/\Q (.str (i ++ j)) H):=by
 l_out;obtain⟨i,j,rfl,rfl,hz,q⟩:=h;kfm_eq;obtain⟨t',rfl⟩:=ry;exact add_str (fun t' tk=>⟨.str (i ++ j),H,I.tok _,⟨_,rfl⟩,q⟩) hz
def vals1 (r:Vals [x] us):∃u,us=[u]/\RelV x u:=by
 cases r with
 |cons r1 r2=>cases r2;exact⟨_,rfl,r1⟩
def vals2 (r:Vals [x,y] us):∃u w',us=[u,w']/\RelV x u/\RelV y w':=by
  cases r with
  |cons r1 r2=>
    cases r2 with
    |cons r3 r4=>cases r4;exact⟨_,_,rfl,r1,r3⟩
def YJ:dB X (.builtin "abs") (fun xs H Q=>∃i,xs=[.int i]/\Q (.int (if i<0 then -i else i)) H):=by
 kj_one;obtain⟨i,rfl,q⟩:=h;obtain⟨u,rfl,t,rfl⟩:=vals1 r;exact call_abs_int fun u tk=>⟨.int (if i<0 then -i else i),H,I.tok _,⟨_,rfl⟩,q⟩
def Ea (hc:X.calm=true):dB X (.builtin "max") (fun xs H Q=>∃i j,xs=[.int i,.int j]/\Q (.int (if j > i then j else i)) H):=by
 kj_one;obtain⟨i,j,rfl,q⟩:=h;obtain⟨u,w',rfl,⟨t,rfl⟩,⟨t',rfl⟩⟩:=vals2 r;refine max_two_ints (I.ok.hd hc) fun h' tk k=>⟨_,H,I.kept k,?_,q⟩
 by_cases hj:j > i
 ·rw[xad hj,xad hj];exact⟨_,rfl⟩
 ·rw[xae hj,xae hj];exact⟨_,rfl⟩
def Qx (hc:X.calm=true):dB X (.builtin "min") (fun xs H Q=>∃i j,xs=[.int i,.int j]/\Q (.int (if j<i then j else i)) H):=by
 kj_one;obtain⟨i,j,rfl,q⟩:=h;obtain⟨u,w',rfl,⟨t,rfl⟩,⟨t',rfl⟩⟩:=vals2 r;refine min_two_ints (I.ok.hd hc) fun h' tk k=>⟨_,H,I.kept k,?_,q⟩
 by_cases hj:j<i
 ·rw[xad hj,xad hj];exact⟨_,rfl⟩
 ·rw[xae hj,xae hj];exact⟨_,rfl⟩
def Y0:dB X (.type "str") (fun xs H Q=>∃i,xs=[.int i]/\i.natAbs.log2<1920/\Q (.str (toString i)) H):=by
 kj_one;obtain⟨i,rfl,hz,q⟩:=h;obtain⟨u,rfl,t,rfl⟩:=vals1 r;exact PySem.P.str_of_int hz ⟨.str _,H,I.tok _,⟨_,rfl⟩,q⟩
end
structure ObjM (h:Heap)(x dx C:Addr)(mA:Mgx):Prop where
 obj:h.get? x=some (PySem.W.instObj C dx)
 ns:h.Ns1 dx mA
 ne:dx≠x
def zbV {h:Heap}{dx:Addr}{mA:Mgx}(n:h.Ns1 dx mA):∃od,h.get? dx=some od/\∀name,PySem.W.lookIn name od=some (mA name):=by
 obtain⟨o,es,ep,ho,hd,hk,_,hm⟩:=n;refine⟨o,ho,fun name=>?_⟩;have e:=hm name;unfold nsFind findBy at e;rw[<-xej]at e;unfold PySem.W.lookIn;rw[hd];dsimp only
 split
 ·rename_i y q;rw[q]at e;exact congrArg some e
 ·rename_i q;rw[q]at e;have a:es.toList.any (·.refKey)=false:=by
   rw[List.any_eq_false];intro y hy;obtain⟨z,t,hkey⟩:=hk y (xbk.mp hy)
   simp[DictEntry.refKey,hkey]
  have a':¬ es.toList.any (·.refKey)=true:=by rw[a];exact xay
  rw[xae a'];exact congrArg some e
def ObjM.look (I:ObjM h x dx C mA):∃od,PySem.W.InstAt h x (PySem.W.instObj C dx) C (some od)/\∀name,PySem.W.lookIn name od=some (mA name):=
 let ⟨od,ho,hl⟩:=zbV I.ns
 ⟨od,⟨I.obj,rfl,rfl,ho⟩,hl⟩
section
variable {prog:Program}{w:World}{A:Around}{E:Value->Shared->Prop}{s:Shared}{K:Fgx}{x dx C f:Addr}{mA:Mgx}{name:Str}{v:Value}
def get_map (X:K.In s.heap)(I:ObjM s.heap x dx C mA)(hg:PySem.W.plainGet K C name=true)(hh:PySem.W.hasDictIn K C=true)
  (ha:PySem.W.findIn K (.ref C) name=some none) (hv:mA name=some v) (hv':PySem.W.handedIn v=true) (h:Q v {s with toks:=s.toks + 1}):
  wpAny (model prog w) A (getAttr (.ref x) name expr) Q E s:=by
 obtain⟨od,J,hl⟩:=I.look;exact PySem.W.get_value X J (xcj hg).1 (PySem.W.findObj_own hh ha rfl (by rw[hl,hv])) hv' h
def Z_ (X:K.In s.heap)(I:ObjM s.heap x dx C mA)(hg:PySem.W.plainGet K C name=true)
  (hf:PySem.W.findIn K (.ref C) name=some (some (.ref f))) (ht:PySem.W.isFn K (.ref f)=true) (hv:mA name=none) (h:Q (.ref f,[.ref x]) s):
  wpAny (model prog w) A (getMethod (.ref x) name pl) Q E s:=by
 obtain⟨od,J,hl⟩:=I.look;exact PySem.W.method_fn X J (xcj hg).1 (xcj hg).2 hf (xbP.mp ht) (by show(PySem.W.lookIn name od).map (·.isSome)=some false;rw[hl,hv];rfl) h
def Gk {ns:List Str}{Q:Unit->Shared->Prop}(X:K.In s.heap)(I:ObjM s.heap x dx C mA)
  (hs:PySem.W.findIn K (.ref C) "__setattr__"=some (some (.builtin "object.__setattr__"))) (hp:PySem.W.plainOver K C=true) (ht:PySem.W.takerIn K C name=some none) (hh:PySem.W.hasDictIn K C=true)
  (hw:PySem.Within mA ns) (hsz:ns.length<=sizeLine)
  (h:∀h',ObjM h' x dx C (fun y=>if y=name then some v else mA y)->Heap.SameBut dx s.heap h'->Q () {s with heap:=h',toks:=s.toks + 2}):
  wpAny (model prog w) A (setAttr (.ref x) name v) Q E s:=by
 obtain⟨od,J,hl⟩:=I.look;refine PySem.W.set_plain X J hs (PySem.W.osa_open (s:={s with toks:=s.toks + 1}) (r:=none) X J hp ht fun b=>?_);obtain⟨cd,hc,hd'⟩:=PySem.W.any_some hh;have hx:s.heap.get? x=some ⟨.ref C,some dx,.plain, #[]⟩:=I.obj;refine xaa (xak (xaa (xaa (wpAny_loadPart hx (xaa (PySem.W.Looks.here (s:={s with toks:=s.toks + 1}) (PySem.W.looks_clsIn X hc) ?_))))));rw[hd'];refine xak (a:=some dx) (xaa (xak (xaa ?_)));refine wpAny_nsSet1 (s:={s with toks:=s.toks + 1}) I.ns fun h' hn2 hs2=>?_;obtain⟨oD,esD,epD,hoD,hdD,hcD⟩:=hn2.count (PySem.Within.cons name v hw);refine xaa (wpAny_lookBehind hoD (by rw[hdD];exact pastItsLine_dict (xar hcD (by rw[xaw];lia))) ?_);exact xak (h _ ⟨(hs2.2 _ (xbN I.ne)).trans I.obj,hn2,I.ne⟩ hs2)
def zcv (X:K.In s.heap)(hm:PySem.W.makesIn K C=true)
  (hi:PySem.W.findIn K (.ref C) "__init__"=some (some (.ref f))) (hf:PySem.W.typeIn K (.ref f)=some (.type "function"))
  (h:codeAny (model prog w) (A.under (.builtin "type.__call__" ⟨.ref C::vs,kw⟩)) (.call (.ref f) ⟨.ref (s.heap.objs.size + 1)::vs,kw⟩) (PySem.W.InitBack (s.heap.objs.size + 1) R)
   {s with heap:=(s.heap.push PySem.W.emptyDict).push (PySem.W.instObj C s.heap.objs.size)}):
  codeAny (model prog w) A (.call (.ref C) ⟨vs,kw⟩) R s:=by
 obtain⟨hh,g,d,t,os⟩:=s;exact PySem.W.make_core (PySem.W.makes_of X hm) (PySem.W.looks_findIn X hi) (fun self=>PySem.W.bind_fn X self hf) (.inl rfl) h
end
noncomputable def bI (f:Str) (v:V):List (Str×V)->List (Str×V)
 | []=>[(f,v)]
 |(g,x)::r=>if g=f then(g,v)::r else(g,x)::bI f v r
theorem T9 (f g:Str)(v:V):∀fs:List (Str×V),(bI f v fs).lookup g=if g=f then some v else fs.lookup g
  | []=>by
    show List.lookup g [(f,v)]=_
    by_cases h:g=f
    · have hb:(g==f)=true:=xbP.mpr h;simp only[List.lookup,hb,xad h]
    · have hb:(g==f)=false:=xbo.mpr h;simp only[List.lookup,hb,xae h]
  |(k,x)::r=>by
    have ih:=T9 f g v r;rw[show bI f v ((k,x)::r)=(if k=f then(k,v)::r else(k,x)::bI f v r) from rfl]
    by_cases hk:k=f
    · rw[xad hk]
      by_cases h:g=k
      · have hb:(g==k)=true:=xbP.mpr h;simp only[List.lookup,hb,xad (h.trans hk)]
      · have hb:(g==k)=false:=xbo.mpr h;simp only[List.lookup,hb,xae (fun e:g=f=>h (e.trans hk.symm))]
    · rw[xae hk]
      by_cases h:g=k
      · have hb:(g==k)=true:=xbP.mpr h;simp only[List.lookup,hb,xae (fun e:g=f=>hk (h.symm.trans e))]
      · have hb:(g==k)=false:=xbo.mpr h;simp only[List.lookup,hb];exact ih
theorem J9 (f:Str)(v:V):∀fs:List (Str×V),f∈(bI f v fs).map (·.1)/\∀g,g∈fs.map (·.1)->g∈(bI f v fs).map (·.1)
  | []=>⟨by simp[bI],fun g h=>by simp at h⟩
  |(k,x)::r=>by
    obtain⟨i1,i2⟩:=J9 f v r;rw[show bI f v ((k,x)::r)=(if k=f then(k,v)::r else(k,x)::bI f v r) from rfl]
    by_cases hk:k=f
    · rw[xad hk];subst hk;exact⟨by simp,fun g h=>by simpa using h⟩
    · rw[xae hk];refine⟨?_,fun g h=>?_⟩
      · rw[xaP];exact xat _ i1
      · rw[xaP]at h ⊢;rcases xaO.mp h with e |e
        · exact xaO.mpr (.inl e)
        · exact xat _ (i2 g e)
theorem T4 (f:Str)(v:V):∀fs:List (Str×V),(bI f v fs).length<=fs.length + 1
  | []=>by simp[bI]
  |(k,x)::r=>by
    have ih:=T4 f v r;rw[show bI f v ((k,x)::r)=(if k=f then(k,v)::r else(k,x)::bI f v r) from rfl]
    by_cases hk:k=f
    · rw[xad hk,xaw,xaw];lia
    · rw[xae hk,xaw,xaw];lia
def eE.some_of (r:eE (some v) o):∃u,o=some u/\RelV v u:=by
 cases o with
 |none=>exact(show False from r).elim
 |some u=>exact⟨u,rfl,r⟩
def eE.none_of (r:eE none o):o=none:=by
 cases o with
 |none=>rfl
 |some u=>exact(show False from r).elim
theorem zbE (r:RelV v u):PySem.W.handedIn u=true:=by
 cases v with
 |non=>cases (show u=Value.none from r);rfl
 |bl b=>cases (show u=Value.bool b from r);rfl
 |int i=>obtain⟨t,e⟩:=(show ∃t,u=Value.int i t from r);cases e;rfl
 |str x=>obtain⟨t,e⟩:=(show ∃t,u=Value.str x t from r);cases e;rfl
 |byt b=>obtain⟨t,e⟩:=(show ∃t,u=Value.bytes b t from r);cases e;rfl
 |flt b=>obtain⟨t,e⟩:=(show ∃t,u=Value.float b t from r);cases e;rfl
 |ref a=>cases (show u=Value.ref a from r);rfl
 |ty n=>cases (show u=Value.type n from r);rfl
section
variable {P:Program}{w:World}{H H':Hp}{h h':Heap}{a C dx:Addr}{fs fs':List (Str×V)}
def Av (hok:cJ P w H h)(e:H a=some (.ins C dx fs)):∃mA,ObjM h a dx C mA/\(∀f,eE (fs.lookup f) (mA f))/\PySem.Within mA (fs.map (·.1))/\fs.length<=1000/\H dx=some (.own a):=by
 obtain⟨d,z,ne,ob,mA,n,r,q⟩:=(show dJ P w H h a (.ins C dx fs) from hok a _ e);exact⟨mA,⟨ob,n,ne⟩,r,q,z,d⟩
end
structure Cls (K:Fgx)(C:Addr):Prop where
 pg:PySem.W.plainGet K C Str.empty=true
 hd:PySem.W.hasDictIn K C=true
 po:PySem.W.plainOver K C=true
 sa:PySem.W.findIn K (.ref C) "__setattr__"=some (some (.builtin "object.__setattr__"))
def Cls.get {K:Fgx}{C:Addr}(c:Cls K C)(f:Str):PySem.W.plainGet K C f=true:=c.pg
def gq (K:Fgx)(C:Addr)(f:Str):Prop:=PySem.W.findIn K (.ref C) f=some none
theorem gq.taker {K:Fgx}{C:Addr}{f:Str}(n:gq K C f):PySem.W.takerIn K C f=some none:=by
 unfold PySem.W.takerIn;rw[show PySem.W.findIn K (.ref C) f=some none from n];rfl
structure Con (K:Fgx)(C:Addr)(f:Str)(v:V)(u:Value):Prop where
 at_:PySem.W.findIn K (.ref C) f=some (some u)
 rel:RelV v u
 get:PySem.W.specialIn K u "__get__"=some none
 cp:PySem.W.copiedNames.contains f=false
structure Meth (K:Fgx)(C:Addr)(m:Str)(f:Addr):Prop where
 at_:PySem.W.findIn K (.ref C) m=some (some (.ref f))
 fn:PySem.W.isFn K (.ref f)=true
 kp:PySem.W.keepIn K (.ref f)=true
section
variable {X:Cx}{pins:Pnx}{σ:St}{H:Hp}{s:Shared}{a C dx:Addr}{fs:List (Str×V)}{f:Str}{v:V}{A:Around}{E:Value->Shared->Prop}
def R5 (I:Inv X pins σ H s)(e:H a=some (.ins C dx fs))(c:Cls X.K C)(n:gq X.K C f)(l:fs.lookup f=some v)
  (h:∀u s',Inv X pins σ H s'->RelV v u->Q u s'):wpAny (model X.prog X.w) A (getAttr (.ref a) f b) Q E s:=by
 obtain⟨mA,O,r,_,_,_⟩:=Av I.hok e;obtain⟨u,hu,ru⟩:=eE.some_of (v:=v) (o:=mA f) (by rw[<-l];exact r f);exact get_map I.kIn O (c.get f) c.hd n hu (zbE ru) (h u _ (I.tok _) ru)
def R6 (I:Inv X pins σ H s)(e:H a=some (.ins C dx fs))(c:Cls X.K C)(k:Meth X.K C m g)(l:fs.lookup m=none)
  (h:Q (.ref g,[.ref a]) s):wpAny (model X.prog X.w) A (getMethod (.ref a) m pl) Q E s:=by
 obtain⟨mA,O,r,_,_,_⟩:=Av I.hok e;have hn:mA m=none:=eE.none_of (by rw[<-l];exact r m);exact Z_ I.kIn O (c.get m) k.at_ k.fn hn h
def zbn (I:Inv X pins σ H s)(e:H a=some (.ins C dx fs))(c:Cls X.K C)(n:gq X.K C f)(hl:fs.length<1000)(ry:RelV y u)
  (h:∀s',Inv X pins σ (upd H a (.ins C dx (bI f y fs))) s'->Q () s'):wpAny (model X.prog X.w) A (setAttr (.ref a) f u) Q E s:=by
 obtain⟨mA,O,r,wi,_,ho⟩:=Av I.hok e;have hz:(fs.map (·.1)).length<=sizeLine:=by rw[xan,xa8];lia
 refine Gk I.kIn O c.sa c.po n.taker c.hd wi hz fun h' O' sb=>h _ ?_;have hd:∃o,h'.get? dx=some o:=let ⟨o,_,_,e',_⟩:=O'.ns;⟨o,e'⟩
 refine I.write (x:=a) (e:=dx) (by rw[e];exact True.intro) (.inr ho) (fun b q hb z=>(sb.2 b hb).trans z) hd ?_;refine⟨by rw[aZ O.ne];exact ho,?_,O.ne,O'.obj,_,O'.ns,fun g=>?_,fun g hg=>?_⟩
 ·have:=T4 f y fs;lia
 ·show eE ((bI f y fs).lookup g) (if g=f then some u else mA g)
  rw[T9]
  by_cases q:g=f
  ·rw[xad q,xad q];exact ry
  ·rw[xae q,xae q];exact r g
 ·by_cases q:g=f
  ·rw[q];exact(J9 f y fs).1
  ·refine(J9 f y fs).2 g (wi g fun z=>hg ?_);show(if g=f then some u else mA g)=none
   rw[xae q];exact z
def Inv.made (I:Inv X pins σ H s):Inv X pins σ (upd (upd H s.heap.objs.size (.own (s.heap.objs.size + 1))) (s.heap.objs.size + 1) (.ins C s.heap.objs.size []))
  {s with heap:=(s.heap.push PySem.W.emptyDict).push (PySem.W.instObj C s.heap.objs.size)}:=by
 have e1:(s.heap.push PySem.W.emptyDict).get? s.heap.objs.size=some PySem.W.emptyDict:=xax s.heap rfl;have e2:((s.heap.push PySem.W.emptyDict).push (PySem.W.instObj C s.heap.objs.size)).get? (s.heap.objs.size + 1)=some (PySem.W.instObj C s.heap.objs.size):=by
  have:=xax (s.heap.push PySem.W.emptyDict) (o:=PySem.W.instObj C s.heap.objs.size) rfl
  rwa [xct]at this
 have e3:(s.heap.push PySem.W.emptyDict).Ns s.heap.objs.size (fun _=>none):=⟨PySem.W.emptyDict, #[],_,e1,rfl,(fun e he=>absurd he (by simp)),fun _=>rfl⟩;have I1:=I.laid (a:=s.heap.objs.size) (o:=.own (s.heap.objs.size + 1)) (h':=s.heap.push PySem.W.emptyDict) (t':=s.toks) (fun b u q=>xac _ q) (xaf _) ⟨_,e1⟩;refine I1.laid (a:=s.heap.objs.size + 1) (o:=.ins C s.heap.objs.size []) (t':=s.toks) (fun b u q=>xac _ q) (xc1 (xct _ _)) ?_;have ne:s.heap.objs.size≠s.heap.objs.size + 1:=xaE (xbl _);refine⟨by rw[aZ ne,cu],xbz _,ne,e2,fun _=>none,(Heap.Ns1.of_empty e3).at fun o q=>xac _ q,fun _=>True.intro,fun y hy=>absurd rfl hy⟩
def Yw (hb:attributeBase e f env (eval e env)=eval e env)
  (h:wpAny (model prog w) A (eval e env) (fun o s₁=>wpAny (model prog w) A (getAttr o f true) Q E s₁) E s):wpAny (model prog w) A (eval (.Attribute e f pos) env) Q E s:=
 Attribute_any_ h (by rw[arm_eval_Attribute,hb])
end
noncomputable def Ow (K:Fgx) (ta:TE) (f:Str):TE:=fun σ H Q=>ta σ H fun x H1=>∃a C dx fs v,x=.ref a/\H1 a=some (.ins C dx fs)/\Cls K C/\gq K C f/\fs.lookup f=some v/\Q v H1
noncomputable def Mq (K:Fgx) (ta tv:TE) (f:Str):TS:=fun D σ H=>tv σ H fun y H1=>ta σ H1 fun x H2=>∃a C dx fs,x=.ref a/\H2 a=some (.ins C dx fs)/\Cls K C/\gq K C f/\fs.length<1000/\
 D.nx σ (upd H2 a (.ins C dx (bI f y fs)))
section
variable {X:Cx}{o e value:Expr}{f:Str}{pos pos' tpos:Pos}{ta tv:TE}
def zer (he:PE X e ta)(hb:attributeBase e f X.env (eval e X.env)=eval e X.env):PE X (.Attribute e f pos) (Ow X.K ta f):=by
 sr_in;refine Yw hb (aU (he pins s σ H _ I h) fun u s1 ⟨x,H1,I1,rx,a,C,dx,fs,v,ex,ea,c,n,l,q⟩=>?_);subst ex;obtain rfl:u=Value.ref a:=rx;exact R5 I1 ea c n l fun u' s2 I2 ru=>⟨v,H1,I2,ru,q⟩
def zdB (ha:PE X o ta)(hv:PE X value tv)(hs:swapsWith value (some (.Attribute o f pos')) pos.line X.env=pure false):PS X (.Assign [.Attribute o f pos'] value pos) (Mq X.K ta tv f):=by
 intro pins s σ H D I h;refine plainObj_wpAny_Assign_Attribute (aU (hv pins s σ H _ I h) fun u s1 ⟨y,H1,I1,ry,q⟩=>aU (ha pins s1 σ H1 _ I1 q) fun ov s2 ⟨x,H2,I2,rx,a,C,dx,fs,ex,ea,c,n,l,q2⟩=>?_) hs;subst ex;obtain rfl:ov=Value.ref a:=rx;exact zbn I2 ea c n l ry fun s3 I3=>⟨σ,_,I3,q2⟩
noncomputable def xP:V->V->Hp->VK->Prop:=fun x y H Q=>∃i j,x=.int i/\y=.int j/\Q (.int (i + j)) H
end
section
variable {X:Cx}{pins:Pnx}{σ:St}{H:Hp}{s:Shared}{A:Around}{E:Value->Shared->Prop}{Q:Value->Shared->Prop}{c:Value}{b:Bool}
inductive TyOf (K:Fgx)(H:Hp):V->Value->Prop where
 |non:TyOf K H .non (.type "NoneType")
 |bl (x:Bool):TyOf K H (.bl x) (.type "bool")
 |int (i:Int):TyOf K H (.int i) (.type "int")
 |str (x:Str):TyOf K H (.str x) (.type "str")
 |flt (x:UInt64):TyOf K H (.flt x) (.type "float")
 |lst {a:Addr} {xs:List V} (e:H a=some (.lst xs)):TyOf K H (.ref a) (.type "list")
 |frz {a:Addr} {o:Obj} {xs:List V} (e:H a=some (.frz o (.lst xs))):TyOf K H (.ref a) (.type "list")
 |tup {a:Addr} {xs:List V} (e:H a=some (.tup xs)):TyOf K H (.ref a) (.type "tuple")
 |dK {a:Addr} {kvs:List (Key×V)} (e:H a=some (.dK kvs)):TyOf K H (.ref a) (.type "dict")
 |dT {a:Addr} {kvs:List (List Key×V)} (e:H a=some (.dT kvs)):TyOf K H (.ref a) (.type "dict")
 |ins {a C dx:Addr} {fs:List (Str×V)} (e:H a=some (.ins C dx fs)) (cl:Cls K C) (ha:PySem.W.findIn K (.ref C) "__class__"=some (some (.builtin "object.__class__")))
   (hn:PySem.W.specialIn K (.builtin "object.__class__") "__get__"=some (some (.builtin "getset_descriptor.__get__"))) (htk:PySem.W.takesIn K (.builtin "object.__class__")=some true)
   (hm:PySem.W.mroIn K C (.type "object")=some true):TyOf K H (.ref a) (.ref C)
def Ep (I:Inv X pins σ H s)(rx:RelV x u)(ty:TyOf X.K H x t)(e:PySem.W.kitOne X.K t c=some b)(h:∀tk,Q (.bool b) {s with toks:=tk}):
    wpAny (model X.prog X.w) A (call (.builtin "isinstance") [u,c]) Q E s:=by
  cases ty with
  |non=>cases (show u=Value.none from rx);exact xa3 PySem.W.kitx_none I.kIn True.intro e (fun z=>nomatch z) h
  |bl y=>cases (show u=Value.bool y from rx);exact xa3 PySem.W.kitx_bool I.kIn True.intro e (fun z=>nomatch z) h
  |int i=>obtain⟨t,q⟩:=(show ∃t,u=Value.int i t from rx);cases q;exact xa3 PySem.W.kitx_int I.kIn True.intro e (fun z=>nomatch z) h
  |str y=>obtain⟨t,q⟩:=(show ∃t,u=Value.str y t from rx);cases q;exact xa3 PySem.W.kitx_str I.kIn True.intro e (fun z=>nomatch z) h
  |flt y=>obtain⟨t,q⟩:=(show ∃t,u=Value.float y t from rx);cases q;exact xa3 PySem.W.kitx_float I.kIn True.intro e (fun z=>nomatch z) h
  | @lst a xs ea=>
    cases (show u=Value.ref a from rx);obtain⟨_,_,n,_,h1⟩:=(show dJ X.prog X.w H s.heap a (.lst xs) from I.hok a _ ea);exact xa3 xdz I.kIn ⟨_,h1,rfl⟩ e (fun z=>nomatch z) h
  | @frz a ob xs ea=>
    cases (show u=Value.ref a from rx);obtain⟨_,_,_,n,_,h1⟩:=(show dJ X.prog X.w H s.heap a (.frz ob (.lst xs)) from I.hok a _ ea);exact xa3 xdz I.kIn ⟨_,h1,rfl⟩ e (fun z=>nomatch z) h
  | @tup a xs ea=>
    cases (show u=Value.ref a from rx);obtain⟨_,_,_,p⟩:=(show dJ X.prog X.w H s.heap a (.tup xs) from I.hok a _ ea);obtain⟨o,h1,h2,_⟩:=p;exact xa3 xek I.kIn ⟨o,h1,h2⟩ e (fun z=>nomatch z) h
  | @dK a kvs ea=>
    cases (show u=Value.ref a from rx);obtain⟨_,_,vs,_,p⟩:=(show dJ X.prog X.w H s.heap a (.dK kvs) from I.hok a _ ea);obtain⟨o,es,ep,h1,h2,_⟩:=p;exact xa3 xdA I.kIn ⟨o,h1,h2.1⟩ e (fun z=>nomatch z) h
  | @dT a kvs ea=>
    cases (show u=Value.ref a from rx);obtain⟨_,_,xs,_,o,es,ep,h1,h2,_⟩:=(show dJ X.prog X.w H s.heap a (.dT kvs) from I.hok a _ ea);exact xa3 xdA I.kIn ⟨o,h1,h2.1⟩ e (fun z=>nomatch z) h
  | @ins a C dx fs ea cl ha hn htk hm=>
    cases (show u=Value.ref a from rx);obtain⟨mA,O,_⟩:=Av I.hok ea;obtain⟨od,J,_⟩:=O.look;exact xa3 (PySem.W.kitx_own (cl.get _) cl.hd ha hn htk hm) I.kIn J e (fun z=>nomatch z) h
end
structure Room (k:Nat)(A:Around):Prop where
 hd:A.handled=none
 dp:A.depth + 3 * k + 5<recursionLimit
 un:A.units + 16 * k + 200<cLine
def Room.mono (r:Room k A)(h:j<=k):Room j A:=⟨r.hd,by have:=r.dp;lia,by have:=r.un;lia⟩
theorem Room.deeper (r:Room (k + 1) A)(env:Env):Room k (A.deeper env):=
 ⟨r.hd,by have:=r.dp;show A.depth + 1 + 3 * k + 5<_;lia,by have:=r.un;show A.units + 3 + 16 * k + 200<_;lia⟩
def zbd {A:Around}{C:Addr}{us:List Value}{kw:List (Str×Value)}:(A.under (.builtin "type.__call__" ⟨.ref C::us,kw⟩)).depth=A.depth + 1:=by
 first |rfl |simp[Around.under,Code.weight,Code.isCreation,Code.isGuard,Code.isCaller,Code.frames,Code.isFrame,guardIds]
def zbb {A:Around}{C:Addr}{us:List Value}{kw:List (Str×Value)}:(A.under (.builtin "type.__call__" ⟨.ref C::us,kw⟩)).units=A.units + 1:=by
 first |rfl |simp[Around.under,Code.cUnits,Code.frames,Code.isFrame]
def Room.make (r:Room (k + 1) A)(C:Addr)(us:List Value)(kw:List (Str×Value)):Room k (A.under (.builtin "type.__call__" ⟨.ref C::us,kw⟩)):=
 ⟨r.hd,by have:=r.dp;rw[zbd];lia,by have:=r.un;rw[zbb];lia⟩
theorem Room.depth (r:Room k A):A.depth<recursionLimit:=by have:=r.dp;lia
theorem Room.units (r:Room k A):A.units + 64<cLine:=by have:=r.un;lia
def Dc:TA:=fun _ H Q=>Q [] H
noncomputable def zgZ (ta:TE) (tr:TA):TA:=fun σ H Q=>ta σ H fun x H1=>tr σ H1 fun xs H2=>Q (x::xs) H2
section
variable {X:Cx}{e:Expr}{es:List Expr}{te:TE}{t:TA}{pos:Pos}
def rY:PA X [] Dc:=fun _ _ _ _ H Q I h=>Calls.spliced_nil ⟨[],H,I,.nil,h⟩
def pF (ha:PE X e te)(hr:PA X es t)(hs:starEach (e::es) X.env=(false,eval e X.env)::starEach es X.env:=by rfl):PA X (e::es) (zgZ te t):=by
 intro pos pins s σ H Q I h;rw[hs];show wpAny _ _ (spliced ((false,eval e X.env)::backTo pos (starEach es X.env))) _ _ s;refine Calls.spliced_cons (aU (ha pins s σ H _ I h) fun u s1 ⟨x,H1,I1,r1,q1⟩=>?_);exact aU (hr pos pins s1 σ H1 _ I1 q1) fun us s2 ⟨xs,H2,I2,r2,q2⟩=>⟨x::xs,H2,I2,.cons r1 r2,q2⟩
noncomputable def O6 (t:TA):TE:=fun σ H Q=>t σ H fun xs H1=>xs.length<=sizeLine/\∀p,H1 p=none->Q (.ref p) (upd H1 p (.tup xs))
noncomputable def OD (t:TA):TE:=fun σ H Q=>t σ H fun xs H1=>xs.length<=sizeLine/\∀p,H1 p=none->Q (.ref p) (upd H1 p (.lst xs))
def zdW {x1}(h:PA X es t):PE X (.Tuple es x1 pos) (O6 t):=by
 intro pins s σ H Q I hq;refine wpAny_Tuple_spliced (aU (h pos pins s σ H _ I hq) fun us s1 ⟨xs,H1,I1,r,z,q⟩=>⟨by rw[<-r.length];exact z,?_⟩);have hf:H1 s1.heap.objs.size=none:=I1.hok.fresh (xaf _);refine⟨.ref s1.heap.objs.size,upd H1 s1.heap.objs.size (.tup xs),I1.laid (t':=s1.toks) (fun b u e=>xac _ e) (xaf _) ?_,rfl,q _ hf⟩;exact⟨z,us,r,⟨_,xax _ rfl,rfl,_,rfl⟩⟩
def zdC (h:PA X es t):PE X (.List es pos) (OD t):=by
 intro pins s σ H Q I hq;refine wpAny_List_spliced (aU (h pos pins s σ H _ I hq) fun us s1 ⟨xs,H1,I1,r,z,q⟩=>⟨by rw[<-r.length];exact z,?_⟩);have hf:H1 s1.heap.objs.size=none:=I1.hok.fresh (xaf _);refine⟨.ref s1.heap.objs.size,upd H1 s1.heap.objs.size (.lst xs),I1.laid (t':=s1.toks) (fun b u e=>xac _ e) (xaf _) ?_,rfl,q _ hf⟩;exact⟨z,us,0,r,xax _ rfl⟩
end
abbrev Sp:=List V->Hp->VK->XK->Prop
abbrev fQ:=List Env->Hp->Shared->XK->Value->Shared->Prop
structure Env0 (P:Program)(w:World)(K:Fgx)(mg:Mgx)(base:Heap)(A:Around)(outer:List Env)(s:Shared)(H:Hp):Prop where
 frames:A.frames=some outer
 mod:Mod K mg base
 bs:∀b o,base.get? b=some o->s.heap.get? b=some o/\H b=none
 bsz:base.objs.size<=s.heap.objs.size
 funs:s.heap.FunFrames base outer
 frf:∀b∈frs outer,H b=none
 hok:cJ P w H s.heap
 bare:AllBare s.gens
def CE (outer:List Env)(P:Program)(w:World)(H:Hp)(s:Shared)(Q:VK)(u:Value)(s':Shared):Prop:=
 ∃v H',s'.os=s.os/\AllBare s'.gens/\Un (frs outer) [] H H' s.heap s'.heap/\cJ P w H' s'.heap/\RelV v u/\Q v H'
def CR (CX:fQ)(outer:List Env)(P:Program)(w:World)(H:Hp)(s:Shared)(Q:VK)(E:XK)(r:Result)(s':Shared):Prop:=
 match r with
 |.ok (.ret u)=>CE outer P w H s Q u s'
 |.ok _=>False
 |.error e=>CX outer H s E e s'
structure FnOk (P:Program)(w:World)(K:Fgx)(mg:Mgx)(base:Heap)(CX:fQ)(k:Nat)(f:Addr)(fd:FuncData)(ps:List Str)(sp:Sp):Prop where
 len:∀vs H Q E,sp vs H Q E->vs.length=ps.length
 run:∀(A:Around) (outer:List Env) (s:Shared) (H:Hp) (args:Args) (us:List Value) (vs:List V) (Q:VK) (E:XK),Room k A->Env0 P w K mg base A outer s H->BindsTo s fd args (ps.zip us)->Vals vs us->sp vs H Q E->
  codeAny (model P w) A (.call (.ref f) args) (CR CX outer P w H s Q E) s
theorem FnOk.mono {P:Program}{w:World}{K:Fgx}{mg:Mgx}{base:Heap}{CX:fQ}{j k:Nat}{f:Addr}{fd:FuncData}{ps:List Str}{sp:Sp}(F:FnOk P w K mg base CX j f fd ps sp)(h:j<=k):
  FnOk P w K mg base CX k f fd ps sp:=⟨F.len,fun A outer s H args us vs Q E hr=>F.run A outer s H args us vs Q E (hr.mono h)⟩
def Env0.make {P:Program}{w:World}{K:Fgx}{mg:Mgx}{base:Heap}{A:Around}{outer:List Env}{s:Shared}{H:Hp}(e:Env0 P w K mg base A outer s H)(C:Addr)(us:List Value)(kw:List (Str×Value)):
  Env0 P w K mg base (A.under (.builtin "type.__call__" ⟨.ref C::us,kw⟩)) outer s H:=⟨by first |exact e.frames |(simpa [Around.under,Code.envs,Code.isFrame,pushEnvs] using e.frames),e.mod,e.bs,e.bsz,e.funs,e.frf,e.hok,e.bare⟩
section
variable {X:Cx}{pins:Pnx}{σ:St}{H:Hp}{s s':Shared}
def Inv.env0 (I:Inv X pins σ H s):Env0 X.prog X.w X.K X.mg X.base X.A X.stack s H:=
 ⟨I.ok.frames,I.ok.mod,I.bs,xar I.ok.bsz I.sz,I.stack,I.stkFree,I.hok,I.bare⟩
def Inv.after (I:Inv X pins σ H s)(h:CE X.stack X.prog X.w H s Q u s'):EP X pins σ Q u s':=by
 obtain⟨v,H',os,bare,un,hok,r,q⟩:=h;obtain⟨hh,g,d,t,os'⟩:=s';obtain rfl:os'=s.os:=os;exact⟨v,H',I.call (h':=hh) (g':=g) (d':=d) (t':=t) (ch:=[]) un hok bare (fun b z=>absurd z (by simp)),r,q⟩
end
noncomputable def Xk (sp:Sp) (dvs:List V) (E:XK) (t:TA):TE:=fun σ H Q=>t σ H fun vs H1=>sp (vs ++ dvs) H1 Q E
noncomputable def Xm (C:Addr) (m:Str) (sp:Sp) (dvs:List V) (E:XK) (ta:TE) (t:TA):TE:=fun σ H Q=>ta σ H fun x H1=>∃a dx fs,x=.ref a/\H1 a=some (.ins C dx fs)/\fs.lookup m=none/\
 t σ H1 fun vs H2=>sp (x::(vs ++ dvs)) H2 Q E
noncomputable def zgr (C:Addr) (sp:Sp) (dvs:List V) (E:XK) (t:TA):TE:=fun σ H Q=>t σ H fun vs H1=>∀x dx,H1 x=none->H1 dx=none->dx≠x->
 sp (.ref x::(vs ++ dvs)) (upd (upd H1 dx (.own x)) x (.ins C dx [])) (fun v H2=>v=.non/\Q (.ref x) H2) E
def Binds (K:Fgx)(fd:FuncData)(ps:List Str)(ds:List Value):Prop:=
 ∀(s:Shared) (us:List Value),K.In s.heap->(us ++ ds).length=ps.length->BindsTo s fd ⟨us,[]⟩ (ps.zip (us ++ ds))
def Binds.all {K:Fgx}{fd:FuncData}{ps:List Str}(h:∀us:List Value,us.length=ps.length->bindArgs fd ⟨us,[]⟩=pure (ps.zip us)):Binds K fd ps []:=fun s us _ hl=>by
 rw[xas]at hl ⊢;exact .of_eq (h us hl)
def Passes (CX:fQ)(X:Cx)(E:XK):Prop:=∀(pins:Pnx) (σ:St) (H:Hp) (s:Shared) (e:Value) (s':Shared),Inv X pins σ H s->CX X.stack H s E e s'->X.xe e s'
section
variable {X:Cx}{CX:fQ}{k:Nat}{f C:Addr}{fd:FuncData}{ps:List Str}{sp:Sp}{dvs:List V}{ds:List Value}{E:XK}{x m:Str}{p pos apos:Pos}{e o:Expr}{es:List Expr}{ta:TE}{t:TA}
def FT (F:FnOk X.prog X.w X.K X.mg X.base CX k f fd ps sp)(hr:Room k X.A)(hb:Binds X.K fd ps ds)(hd:Vals dvs ds)(hx:Passes CX X E)
    (I:Inv X pins σ H s) (r:Vals vs us) (h:sp (vs ++ dvs) H Q E):wpAny (model X.prog X.w) X.A (call (.ref f) us) (EP X pins σ Q) X.xe s:=by
  have r2:Vals (vs ++ dvs) (us ++ ds):=r.append hd;have hl:(us ++ ds).length=ps.length:=by rw[<-r2.length];exact F.len _ _ _ _ h
  refine xdE (xcf (F.run X.A X.stack s H ⟨us,[]⟩ (us ++ ds) (vs ++ dvs) Q E hr I.env0 (hb s us I.kIn hl) r2 h) fun r s' hq=>?_)
  cases r with
  |error e=>exact hx pins σ H s e s' I hq
  |ok fl=>
    cases fl with
    |ret u=>exact I.after hq
    |next=>exact False.elim hq
    |brk=>exact False.elim hq
    |cont=>exact False.elim hq
def zdb (F:FnOk X.prog X.w X.K X.mg X.base CX k f fd ps sp)(hr:Room k X.A)(hg:Gl X x)(hm:X.mg x=some (.ref f))(hk:PySem.W.keepIn X.K (.ref f)=true)(hb:Binds X.K fd ps ds)(hd:Vals dvs ds)(hx:Passes CX X E)
  (ha:PA X (e::es) t) (hdb:(x==("__debug__":Str))=false:=by decide) (he:starEach (e::es) X.env=(false,eval e X.env)::starEach es X.env:=by rfl) (hpl:(backTo pos (starEach es X.env)).any (·.1)=false:=by rfl):
  PE X (.Call (.Name x p) (e::es) [] pos) (Xk sp dvs E t):=by
 sr_in;refine xb3 (tZ I hg hm ?_ hdb);refine xb4 (h₀:=X.base) I.ok.mod.kin hk (aU (ha pos pins s σ H _ I h) fun us s1 ⟨vs,H1,I1,r,q⟩=>⟨I1.kIn,?_⟩) he hpl;exact FT F hr hb hd hx I1 r q
def zcH (he:PE X o ta)(c:Cls X.K C)(hm:Meth X.K C m f)(F:FnOk X.prog X.w X.K X.mg X.base CX k f fd ps sp)(hr:Room k X.A)(hb:Binds X.K fd ps ds)(hd:Vals dvs ds)(hx:Passes CX X E)(ha:PA X (e::es) t)
  (hst:starEach (e::es) X.env=(false,eval e X.env)::starEach es X.env:=by rfl) (hpl:(backTo pos (starEach es X.env)).any (·.1)=false:=by rfl)
  (ht : eval (.Call (.Attribute o m apos) (e :: es) [] pos) X.env = (do
   let ov <-eval o X.env
   standAt apos.atName
   let (f,first) <-holding [ov] (getMethod ov m pl)
   callWith pos f first (backTo pos (starEach (e::es) X.env)) (backToKw pos (keywordEach [] X.env))):=by rfl):
  PE X (.Call (.Attribute o m apos) (e::es) [] pos) (Xm C m sp dvs E ta t):=by
 sr_in;refine xb7 (pl:=pl) (aU (he pins s σ H _ I h) fun u s1 ⟨x,H1,I1,rx,a,dx,fs,ex,ea,l,q⟩=>?_) ht;subst ex;obtain rfl:u=Value.ref a:=rx;refine R6 I1 ea c hm l ?_;refine xb4 (first:=[.ref a]) (h₀:=X.base) I.ok.mod.kin hm.kp (aU (ha pos pins s1 σ H1 _ I1 q) fun us s2 ⟨vs,H2,I2,r,q2⟩=>⟨I2.kIn,?_⟩) hst hpl
 exact FT (us:=.ref a::us) (vs:=.ref a::vs) F hr hb hd hx I2 (.cons rfl r) q2
def zb0 (he:PE X o ta)(c:Cls X.K C)(hm:Meth X.K C m f)(F:FnOk X.prog X.w X.K X.mg X.base CX k f fd ps sp)(hr:Room k X.A)(hb:Binds X.K fd ps ds)(hd:Vals dvs ds)(hx:Passes CX X E)
  (ht : eval (.Call (.Attribute o m apos) [] [] pos) X.env = (do
   let ov <-eval o X.env
   standAt apos.atName
   let (f,first) <-holding [ov] (getMethod ov m pl)
   callWith pos f first (backTo pos (starEach [] X.env)) (backToKw pos (keywordEach [] X.env))):=by rfl):
  PE X (.Call (.Attribute o m apos) [] [] pos) (Xm C m sp dvs E ta Dc):=by
 sr_in;refine xb7 (pl:=pl) (aU (he pins s σ H _ I h) fun u s1 ⟨x,H1,I1,rx,a,dx,fs,ex,ea,l,q⟩=>?_) ht;subst ex;obtain rfl:u=Value.ref a:=rx;refine R6 I1 ea c hm l ?_;exact PySem.W.callWith_K0 (first:=[.ref a]) I1.kIn hm.kp (FT (us:=[.ref a]) (vs:=[.ref a]) F hr hb hd hx I1 (.cons rfl .nil) q)
structure Mk (K:Fgx)(C f:Addr):Prop where
 makes:PySem.W.makesIn K C=true
 init:PySem.W.findIn K (.ref C) "__init__"=some (some (.ref f))
 fn:PySem.W.isFn K (.ref f)=true
 kp:PySem.W.keepIn K (.ref C)=true
def zcb (M:Mk X.K C f)(F:FnOk X.prog X.w X.K X.mg X.base CX k f fd ps sp)(hr:Room (k + 1) X.A)(hb:Binds X.K fd ps ds)(hd:Vals dvs ds)
    (hx:Passes CX X E) (I:Inv X pins σ H s) (r:Vals vs us)
    (h:∀x dx,H x=none->H dx=none->dx≠x->sp (.ref x::(vs ++ dvs)) (upd (upd H dx (.own x)) x (.ins C dx [])) (fun v H2=>v=.non/\Q (.ref x) H2) E):
    wpAny (model X.prog X.w) X.A (call (.ref C) us) (EP X pins σ Q) X.xe s:=by
  have hq:=h (s.heap.objs.size + 1) s.heap.objs.size (I.hok.fresh (xb1 _)) (I.hok.fresh (xaf _)) (xaE (xbl _));have I2:=Inv.made (C:=C) I;have r2:Vals (V.ref (s.heap.objs.size + 1)::(vs ++ dvs)) (Value.ref (s.heap.objs.size + 1)::(us ++ ds)):=.cons rfl (r.append hd);have hl:(Value.ref (s.heap.objs.size + 1)::us ++ ds).length=ps.length:=by
    have e:=r2.length;rw[F.len _ _ _ _ hq]at e;exact e.symm
  refine xdE (zcv (f := f) I.kIn M.makes M.init (xbP.mp M.fn) (xcf (F.run _ X.stack _ _ ⟨Value.ref (s.heap.objs.size + 1)::us,[]⟩ (Value.ref (s.heap.objs.size + 1)::(us ++ ds)) _ _ E (hr.make C us [])
    (I2.env0.make C us []) (hb _ (Value.ref (s.heap.objs.size + 1)::us) I2.kIn hl) r2 hq) fun r s' hq'=>?_))
  cases r with
  |error e=>exact hx pins σ _ _ e s' I2 hq'
  |ok fl=>
    cases fl with
    |ret u=>
      obtain⟨v,H',I3,rv,ev,q3⟩:=I2.after hq';subst ev;exact⟨rv,⟨V.ref (s.heap.objs.size + 1),H',I3,rfl,q3⟩⟩
    |next=>exact False.elim hq'
    |brk=>exact False.elim hq'
    |cont=>exact False.elim hq'
def zdl (M:Mk X.K C f)(F:FnOk X.prog X.w X.K X.mg X.base CX k f fd ps sp)(hr:Room (k + 1) X.A)(hg:Gl X x)(hm:X.mg x=some (.ref C))(hb:Binds X.K fd ps ds)(hd:Vals dvs ds)(hx:Passes CX X E)
  (ha:PA X (e::es) t) (hdb:(x==("__debug__":Str))=false:=by decide) (he:starEach (e::es) X.env=(false,eval e X.env)::starEach es X.env:=by rfl) (hpl:(backTo pos (starEach es X.env)).any (·.1)=false:=by rfl):
  PE X (.Call (.Name x p) (e::es) [] pos) (zgr C sp dvs E t):=by
 sr_in;refine xb3 (tZ I hg hm ?_ hdb);refine xb4 (h₀:=X.base) I.ok.mod.kin M.kp (aU (ha pos pins s σ H _ I h) fun us s1 ⟨vs,H1,I1,r,q⟩=>⟨I1.kIn,?_⟩) he hpl;exact zcb M F hr hb hd hx I1 r q
end
section
variable {X:Cx}{CX:fQ}{k:Nat}{f C:Addr}{fd:FuncData}{ps ks:List Str}{sp:Sp}{E:XK}{x m:Str}{p pos apos kpos:Pos}{e o:Expr}{es:List Expr}{kws:List Keyword}{te ta:TE}{t tk:TA}{nm:Option Str}
structure KBinds (K:Fgx)(fd:FuncData)(ps ks:List Str)(g:List Value->List Value->List Value)(gV:List V->List V->List V):Prop where
 to:∀(s:Shared) (us ws:List Value),K.In s.heap->(g us ws).length=ps.length->BindsTo s fd ⟨us,ks.zip ws⟩ (ps.zip (g us ws))
 rel:∀{vs:List V} {us:List Value} {zs:List V} {ws:List Value},Vals vs us->Vals zs ws->Vals (gV vs zs) (g us ws)
variable {g:List Value->List Value->List Value}{gV:List V->List V->List V}
end
structure FnScope (N P:List Str)(sc:Scope):Prop where
 kind:sc.kind=.function
 co:sc.isCoroutine=false
 gen:sc.isGenerator=false
 nd:N.Nodup
 pre:N.take P.length=P
 par:∀x∈P,sc.names.lookup x=some .local\/sc.names.lookup x=some .cell
 nofree:∀y∈sc.names,y.2≠ .free
theorem Qp {kindOf:Str->Option NameKind}{x:Str}:∀{binds:List (Str×Value)} {m:Mgx},(∀v,(x,v)∉binds)->bindL kindOf binds m x=m x
  | [],_,_=>rfl
  |(n,v)::r,m,h=>by
    unfold bindL;rw[Qp fun w hw=>h w (xat _ hw)]
    split
    · have:x≠n:=by rintro rfl;exact h v xaT
      simp[this]
    · rfl
theorem Qn {kindOf:Str->Option NameKind}{x:Str}:∀{binds:List (Str×Value)} {m:Mgx},(∀v,(x,v)∉binds)->bindC kindOf binds m x=m x
  | [],_,_=>rfl
  |(n,v)::r,m,h=>by
    unfold bindC;rw[Qn fun w hw=>h w (xat _ hw)]
    split
    · rfl
    · have:x≠n:=by rintro rfl;exact h v xaT
      simp[this]
theorem Qo {kindOf:Str->Option NameKind}{x:Str}{v:Value}:∀{P:List Str} {vs:List Value} {i:Nat} {m:Mgx},P.Nodup->P[i]? =some x->vs[i]? =some v->kindOf x=some .local->
    bindL kindOf (P.zip vs) m x=some v
  | [],_,_,_,_,h,_,_=>by simp at h
  |_::_,[],_,_,_,_,h,_=>by simp at h
  |p::P,w::vs,0,m,nd,h1,h2,hk=>by
    simp at h1 h2;subst h1;subst h2
    show bindL kindOf ((p,w)::P.zip vs) m p=_;unfold bindL;rw[Qp fun v hv=>(xbQ.mp nd).1 (xcI hv).1,xad hk]
    simp
  |p::P,w::vs,i + 1,m,nd,h1,h2,hk=>by
    show bindL kindOf ((p,w)::P.zip vs) m x=_;unfold bindL;exact Qo (i:=i) (xbQ.mp nd).2 (by simpa using h1) (by simpa using h2) hk
theorem Qm {kindOf:Str->Option NameKind}{x:Str}{v:Value}:∀{P:List Str} {vs:List Value} {i:Nat} {m:Mgx},P.Nodup->P[i]? =some x->vs[i]? =some v->kindOf x≠some .local->
    bindC kindOf (P.zip vs) m x=some v
  | [],_,_,_,_,h,_,_=>by simp at h
  |_::_,[],_,_,_,_,h,_=>by simp at h
  |p::P,w::vs,0,m,nd,h1,h2,hk=>by
    simp at h1 h2;subst h1;subst h2
    show bindC kindOf ((p,w)::P.zip vs) m p=_;unfold bindC;rw[Qn fun v hv=>(xbQ.mp nd).1 (xcI hv).1,xae hk]
    simp
  |p::P,w::vs,i + 1,m,nd,h1,h2,hk=>by
    show bindC kindOf ((p,w)::P.zip vs) m x=_;unfold bindC;exact Qm (i:=i) (xbQ.mp nd).2 (by simpa using h1) (by simpa using h2) hk
noncomputable def start (N:List Str) (vs:List V):St:=vs.map some ++ List.replicate (N.length - vs.length) none
noncomputable def cU (CX:fQ) (P:Program) (w:World) (K:Fgx) (mg:Mgx) (base:Heap) (N:List Str) (qual:Str) (scope:Scope) (f:Addr) (cd:Value) (A:Around) (outer:List Env) (s:Shared) (H:Hp) (E:XK):Cx where
 prog:=P
 w:=w
 K:=K
 mg:=mg
 base:=base
 A:=A.deeper (envOfC qual scope s.heap.objs.size f cd)
 N:=N
 s₀:=s
 H₀:=H
 env:=envOfC qual scope s.heap.objs.size f cd
 outer:=outer
 stack:=envOfC qual scope s.heap.objs.size f cd::outer
 ex:=[]
 calm:=true
 fn:=fun _=>true
 pn:=[]
 xe:=fun e s'=>wpAny (model P w) (A.deeper (envOfC qual scope s.heap.objs.size f cd)) (leaving (envOfC qual scope s.heap.objs.size f cd) e) (fun _ s''=>CX outer H s E e s'') (fun e' s''=>CX outer H s E e' s'') s'
def I_ {sc:Scope}{n:Nat}{x:Str}(h:sc.names.lookup x=some .cell):∃c,(cellsFrom n sc.names []).lookup x=some c:=by
 have q:=xcQ sc.names n [] (.inl h);exact Option.isSome_iff_exists.mp q
def SM {CX:fQ}{P:Program}{w:World}{K:Fgx}{mg:Mgx}{base:Heap}{N ps:List Str}{qual:Str}{scope:Scope}{f:Addr}{cd:Value}{A:Around}{outer:List Env}{s s1:Shared}{H:Hp}{E:XK}{us:List Value}{vs:List V}
  (S:FnScope N ps scope) (hd:A.handled=none) (e0:Env0 P w K mg base A outer s H) (hl:vs.length=ps.length) (r:Vals vs us)
  (x:InCallC s s.heap.objs.size (bindL (envOfC qual scope s.heap.objs.size f cd).kindOf (ps.zip us) fun _=>none) (cellsFrom (s.heap.objs.size + 1) scope.names []) (bindC (envOfC qual scope s.heap.objs.size f cd).kindOf (ps.zip us) fun _=>none) s1):
  Inv (cU CX P w K mg base N qual scope f cd A outer s H E) [] (start N vs) H s1:=by
 have hpl:ps.length<=N.length:=by have:=congrArg List.length S.pre;rw[xbm]at this;lia
 obtain ⟨h1, tk, rfl, hk⟩ := x.done;have noA : ∀ b : Addr, b ∉ (cU CX P w K mg base N qual scope f cd A outer s H E).ex := fun b z => absurd (show b ∈ ([] : List Addr) from z) (by simp);refine ⟨⟨e0.mod,S.kind,rfl,rfl,xaf _,fun y z c h1 h2=>?_,fun y hy=>?_,fun y c _ h=>?_,fun _=>hd,Around.frames_deeper e0.frames,.inr ⟨rfl,rfl⟩,fun b z=>absurd z (noA b),e0.bs,e0.bsz,fun b _ _=>noA b,fun b z=>absurd z (noA b),e0.funs,e0.frf⟩,
  rfl,e0.bare,Un.kept hk,⟨_,x.toInCall.ns,fun i y v h1 h2 h3=>?_⟩,fun y c h=>⟨_,x.cell y c h⟩,e0.hok.fresh (xaf _),fun y c h=>?_,fun p hp=>absurd (show p∈([]:Pnx) from hp) (by simp),e0.hok.kept hk,?_⟩
 ·exact name_of_addr x.apart (xbc h1) (xbc h2)
 ·have hy:scope.names.lookup y=some .cell\/scope.names.lookup y=some .free:=hy;rcases hy with hy |hy
  ·exact I_ hy
  ·exact absurd rfl (S.nofree _ (xbc hy))
 ·exact xbb (x.above y c (xbc h))
 ·have hi:i<vs.length:=by
   unfold start at h2
   by_cases hi:i<vs.length
   ·exact hi
   ·rw[xap (by simpa using hi)]at h2;rw[xaQ]at h2;split at h2<;>cases h2
  have ha:vs[i]? =some v:=by
   unfold start at h2;rw[xaC (by simpa using hi),xam]at h2
   cases e:vs[i]? with
   |none=>rw[e]at h2;cases h2
   |some a=>rw[e]at h2;cases h2;rfl
  obtain⟨u,hu,rv⟩:=r.get ha;have hp:ps[i]? =some y:=by
   rw[<-S.pre,xcK (by lia)];exact h1
  have ndP:ps.Nodup:=by rw[<-S.pre];exact S.nd.sublist (xer _ _)
  refine⟨u,rv,?_⟩;rcases S.par y (xaF hp) with k |k
  ·exact .inl ⟨k,Qo ndP hp hu k⟩
  ·obtain⟨c,e⟩:=I_ (n:=s.heap.objs.size + 1) k;refine .inr ⟨.inl k,c,e,?_⟩;have q:=x.cell y c e;rw[Qm ndP hp hu (by show scope.names.lookup y≠_;rw[k];decide)]at q;exact q
 ·exact .inl (e0.hok.fresh (xbb (x.above y c (xbc h))))
 ·unfold start;show _=N.length;rw[xag,xan,xaB];lia
def RV {CX:fQ}{P:Program}{w:World}{K:Fgx}{mg:Mgx}{base:Heap}{k:Nat}{f:Addr}{name qual:Str}{params:Arguments}{body:List Stmt}{scope:Scope}{dV kV doc pm cdv ct oc:Value}{an od:Option Addr}
    {osl:Array (Option Value)} {N ps:List Str} {sp:Sp} (lk:K.lookup f=some ⟨oc,od,.func (PySem.W.fnOf name qual params body scope dV kV doc pm an cdv ct),osl⟩) (hcd:PySem.W.codeIn K cdv qual=true) (S:FnScope N ps scope)
    (len:∀vs H Q E,sp vs H Q E->vs.length=ps.length)
    (hbody:∀(A:Around) (outer:List Env) (s:Shared) (H:Hp) (vs:List V) (Q:VK) (E:XK),Room k (A.deeper (envOfC qual scope s.heap.objs.size f cdv))->sp vs H Q E->
      ∃t,gJ (cU CX P w K mg base N qual scope f cdv A outer s H E) body t/\t {nx:=fun _ H'=>Q .non H',rt:=Q} (start N vs) H):
    FnOk P w K mg base CX (k + 1) f (PySem.W.fnOf name qual params body scope dV kV doc pm an cdv ct) ps sp:=by
  refine⟨len,fun A outer s H args us vs Q E hr e0 hb r hsp=>?_⟩;have hl:=len _ _ _ _ hsp;have KX:K.In s.heap:=e0.mod.kin.keeps fun b o e=>(e0.bs b o e).1;have lim:s.heap.NoLimit:=e0.mod.nolimit.keeps fun b o e=>(e0.bs b o e).1;have hkind:∀y∈ps.zip us,scope.names.lookup y.1=some .local\/(scope.names.lookup y.1=some .cell/\((cellsFrom (s.heap.objs.size + 1) scope.names []).lookup y.1).isSome=true):=fun⟨n,v⟩ hy=>by
    rcases S.par n (xcI hy).1 with q |q
    · exact .inl q
    · exact .inr ⟨q,xcQ _ _ _ (.inl q)⟩
  refine xcT hr.depth (KX _ _ lk) rfl S.co S.gen rfl (xel KX hcd) (hb _ _ _ _ ?_);refine xds S.kind hkind fun env he s1 x=>?_;subst he;refine⟨lim.keeps x.toInCall.keep,codeAny_func ?_⟩;obtain⟨t,ht,hq⟩:=hbody A outer s H vs Q E (hr.deeper _) hsp;have I:Inv (cU CX P w K mg base N qual scope f cdv A outer s H E) [] (start N vs) H s1:=SM S hr.hd e0 hl r x;refine xaU (ht [] s1 (start N vs) H _ I hq) (fun fl s' hs=>?_) fun e s' hs=>hs;have fin:∀{σ':St} {H':Hp} {v:V} {u:Value},Inv (cU CX P w K mg base N qual scope f cdv A outer s H E) [] σ' H' s'->RelV v u->Q v H'->CE outer P w H s Q u s':=
    fun {σ' H' v u} J rv q=>⟨v,H',J.os,J.bare,J.base,J.hok,rv,q⟩
  cases fl with
  |ret u=>
    obtain⟨v,σ',H',J,rv,q⟩:=hs;exact fin J rv q
  |next=>
    obtain⟨σ',H',J,q⟩:=hs;exact fin (v:=V.non) (u:=Value.none) J rfl q
  |brk=>
    obtain⟨_,_,_,q⟩:=hs;exact False.elim q
  |cont=>
    obtain⟨_,_,_,q⟩:=hs;exact False.elim q
section
variable {X:Cx}{x:Str}{p pos:Pos}{e:Expr}{es:List Expr}{t:TA}{id T:String}{r:List V->Hp->VK->Prop}
noncomputable def Ou (r:List V->Hp->VK->Prop) (t:TA):TE:=fun σ H Q=>t σ H fun vs H1=>r vs H1 Q
def La (hc:dB X (.builtin id) r)(hg:Gl X x)(hm:X.mg x=none)(hv:bootBuiltins x=some (.builtin id))(ha:PA X (e::es) t)(hn:x≠"__name__":=by decide)(hdb:(x==("__debug__":Str))=false:=by decide)
  (he:starEach (e::es) X.env=(false,eval e X.env)::starEach es X.env:=by rfl) (hpl:(backTo pos (starEach es X.env)).any (·.1)=false:=by rfl):PE X (.Call (.Name x p) (e::es) [] pos) (Ou r t):=by
 sr_in;refine xb3 (Bd I hg hm hv ?_ hn hdb);exact PyProof.Rows.callWith_builtin1 (aU (ha pos pins s σ H _ I h) fun us s1 ⟨vs,H1,I1,r1,q1⟩=>hc pins s1 σ H1 vs us Q I1 r1 q1) he hpl
def Uy (hc:dB X (.type T) r)(hg:Gl X x)(hm:X.mg x=none)(hv:bootBuiltins x=some (.type T))(ha:PA X (e::es) t)(hn:x≠"__name__":=by decide)(hdb:(x==("__debug__":Str))=false:=by decide)
  (he:starEach (e::es) X.env=(false,eval e X.env)::starEach es X.env:=by rfl) (hpl:(backTo pos (starEach es X.env)).any (·.1)=false:=by rfl):PE X (.Call (.Name x p) (e::es) [] pos) (Ou r t):=by
 sr_in;refine xb3 (Bd I hg hm hv ?_ hn hdb);exact xcC (aU (ha pos pins s σ H _ I h) fun us s1 ⟨vs,H1,I1,r1,q1⟩=>hc pins s1 σ H1 vs us Q I1 r1 q1) he hpl
end
end L2
namespace HT
open PySem PyProof.Rows
section
open PySem.SeqAt
open PySem.AutoSeq1 (wpAny_loadPart')
open PySem.MeetsSeq PySem.MeetsSeq2 PySem.MeetsSeq3
end
section
variable {prog:Program}{w:World}{A:Around}{E:Value->Shared->Prop}{s:Shared}
def Y6 (ht:IsTup s.heap t vs.toArray)(hb:IsTup s.heap b ws.toArray)(hv:vs≠ [])
  (h1:ws=[]->Q (.ref t) s) (h2:ws≠ []->Q (.ref s.heap.objs.size) {s with heap:=s.heap.push {cls:=.type "tuple",data:=.seq (vs ++ ws).toArray}})
  (hsz:vs.length + ws.length<=sizeLine):wpAny (model prog w) A (binaryOp .Add (.ref t) (.ref b)) Q E s:=by
 obtain⟨⟨cls,dd,data,sl⟩,ho,hc,n,hd⟩:=id ht;obtain⟨⟨cls2,dd2,data2,sl2⟩,ho2,hc2,n2,hd2⟩:=id hb;simp only at hc hd hc2 hd2;subst hc hd hc2 hd2;have e:vs.toArray ++ ws.toArray=(vs ++ ws).toArray:=by simp
 by_cases hw:ws=[]
 ·exact concat_meets ⟨_,ho,rfl⟩ ⟨_,ho2,rfl⟩ noFill_tuple_add seq_tuple_add xdW xdU (xdI _ _)
   (tuple_addW1 t b vs.toArray ws.toArray n n2 dd dd2 sl sl2 (by simpa using hv) (by simp[hw])) ⟨ho,ho2,h1 hw⟩
 ·refine concat_meets ⟨_,ho,rfl⟩ ⟨_,ho2,rfl⟩ noFill_tuple_add seq_tuple_add xdW xdU (xdI _ _)
   (tuple_addW2 t b vs.toArray ws.toArray n n2 dd dd2 sl sl2 (by simpa using hv) (by simpa using hw) (by rw[xai,xai];exact hsz)) ⟨ho,ho2,?_⟩
  rw[e];exact h2 hw
noncomputable def bF (n d:Nat):Option Int->Nat
 |none=>d
 |some v=>if v<0 then(v + (n:Int)).toNat else min v.toNat n
theorem zbZ (n d:Nat):bF n d none=d:=rfl
def Mr (n d k:Nat):bF n d (some (k:Int))=min k n:=by
 show(if (k:Int)<0 then((k:Int) + (n:Int)).toNat else min (k:Int).toNat n)=min k n
 rw[xae (by lia),xaK]
def zet (n d:Nat)(hd:d<=n)(o:Option Int):bF n d o<=n:=by
  cases o with
  |none=>exact hd
  |some v=>
    show(if v<0 then(v + (n:Int)).toNat else min v.toNat n)<=n
    by_cases hv:v<0
    · rw[xad hv];lia
    · rw[xae hv];exact Nat.min_le_right _ _
def QL (v:Int)(n d:Nat):(if v<0 then max (v + (n:Int)) 0 else min v (n:Int))=((bF n d (some v):Nat):Int):=by
 show(if v<0 then max (v + (n:Int)) 0 else min v (n:Int))=(((if v<0 then(v + (n:Int)).toNat else min v.toNat n):Nat):Int)
 by_cases hv:v<0
 ·simp only[xad hv];lia
 ·simp only[xae hv];lia
def Yo (lo hi:Option Int)(n:Nat):Builtin.Slice.sliceAdjust lo hi 1 (n:Int)=(((bF n 0 lo:Nat):Int),((bF n n hi:Nat):Int)):=by
 have h1:¬ ((1:Int)<0):=by lia
 unfold Builtin.Slice.sliceAdjust;simp only[h1,xbX];refine Prod.ext ?_ ?_
 ·cases lo with
  |none=>rfl
  |some v=>exact QL v n 0
 ·cases hi with
  |none=>rfl
  |some v=>exact QL v n n
def zbe (i j:Nat):Builtin.Slice.slicePlaces (i:Int) (j:Int) 1=j - i:=by
 unfold Builtin.Slice.slicePlaces;have h1:(1:Int) > 0:=by lia
 simp only[h1,xbB,Int.ediv_one]
 split<;>lia
def Xb (p:IsPart v o)(h:Q o s):wpAny (model prog w) A (Builtin.Slice.slicePartIndex v) Q E s:=by
 cases p with
 |none=>exact slicePart_none h
 |int i t=>exact slicePart_int h
def zaE {sl:Addr}{vl vu:Value}{lo hi:Option Int}{n:Nat}{Q:Int×Int×Nat->Shared->Prop}(hs:s.heap.IsSliceOf sl vl vu .none)(pl:IsPart vl lo)(pu:IsPart vu hi)
  (h:Q (((bF n 0 lo:Nat):Int),1,bF n n hi - bF n 0 lo) s):wpAny (model prog w) A (Builtin.Slice.sliceApplied (.ref sl) (pure (n:Int))) Q E s:=by
 obtain⟨os,hos,hcs,hds⟩:=id hs;unfold Builtin.Slice.sliceApplied Builtin.Slice.sliceFields;refine xaa (xaa (xbA hos hds (x:=vl) rfl (xaa (xbA hos hds (x:=vu) rfl (xaa (xbA hos hds (x:=.none) rfl (xak ?_)))))));refine xaa (slicePart_none ?_);show wpAny _ _ (if ((1:Int)==0)=true then _ else _) _ _ s
 rw[xae (by decide)];refine xaa (Xb pl (xaa (Xb pu (xaa (xak ?_)))));show wpAny _ _ (match Builtin.Slice.sliceAdjust lo hi 1 (n:Int) with |(lo,hi)=>pure (lo,(1:Int),Builtin.Slice.slicePlaces lo hi 1)) _ _ s
 rw[Yo lo hi n];show wpAny _ _ (pure (((bF n 0 lo:Nat):Int),(1:Int),Builtin.Slice.slicePlaces ((bF n 0 lo:Nat):Int) ((bF n n hi:Nat):Int) 1)) _ _ s;rw[zbe];exact xak h
def zca (xs:Array Value)(i k:Nat):((List.range k).filterMap fun(m:Nat)=>xs[((i:Int) + (m:Int) * 1).toNat]?).toArray=((xs.toList.drop i).take k).toArray:=by
 have e:(fun(m:Nat)=>xs[((i:Int) + (m:Int) * 1).toNat]?)=fun m=>xs[i + m]? :=by
  funext m;have:((i:Int) + (m:Int) * 1).toNat=i + m:=by lia
  rw[this]
 rw[e];have:=pick_run xs i k;rw[List.filterMap_map]at this;have e2:((fun x=>xs[x]?) ∘ fun x=>i + x)=fun m=>xs[i + m]? :=rfl;rw[e2]at this;rw[this]
def Z9 {t sl:Addr}{items:Array Value}{vl vu:Value}{lo hi:Option Int}{Q:Value->Shared->Prop}(ht:IsTup s.heap t items)(hs:s.heap.IsSliceOf sl vl vu .none)(pl:IsPart vl lo)(pu:IsPart vu hi)
  (hw:¬ (bF items.size 0 lo=0/\bF items.size items.size hi=items.size))
  (h:Q (.ref s.heap.objs.size) {s with heap:=s.heap.push {cls:=.type "tuple",data:=.seq ((items.toList.drop (bF items.size 0 lo)).take (bF items.size items.size hi - bF items.size 0 lo)).toArray}})
  (hsz:items.size<=sizeLine):wpAny (model prog w) A (getItem (.ref t) (.ref sl)) Q E s:=by
 have htake:sizeOk (.seq ((items.toList.drop (bF items.size 0 lo)).take (bF items.size items.size hi - bF items.size 0 lo)).toArray):=by
  show((items.toList.drop (bF items.size 0 lo)).take (bF items.size items.size hi - bF items.size 0 lo)).toArray.size<=sizeLine;rw[xai,xbm,xcD,xau];lia
 have hj:bF items.size items.size hi<=items.size:=zet _ _ (xaf _) hi;obtain⟨os,hos,hcs,hds⟩:=id hs;have hTs:s.TypeIs (.ref sl) "slice":=⟨os,hos,hcs⟩;unfold getItem
 try with_reducible refine xby ?_
 first |refine xaa (xak ?_) |skip
 refine xaa (wpAny_sequenceKey ht.typeIs (by decide) ?_);refine xaa (xcO (name:=Str.ofString "__getitem__") ht.typeIs xck
  (xcg xck ht.typeIs entry_tuple_getitem ?_ (args_tuple_getitem _ _)))
 show wpAny _ _ (Builtin.Tuple.tupleItemsOf (.ref t) >>=_) _ _ s;refine xaa (tupleItemsOf_ ht ?_);refine xaa (wpAny_typeOf hTs ?_);rw[xad (by decide)];refine xaa (zaE hs pl pu ?_);have hno:¬ ((((bF items.size 0 lo:Nat):Int)==0 && (1:Int)==1 && (bF items.size items.size hi - bF items.size 0 lo)==items.size)=true):=by
  intro q;rw[xaD,xaD]at q;have q1:((bF items.size 0 lo:Nat):Int)=0:=eq_of_beq q.1.1;have q2:bF items.size items.size hi - bF items.size 0 lo=items.size:=eq_of_beq q.2;exact hw ⟨by lia,by lia⟩
 show wpAny _ _ (if (((bF items.size 0 lo:Nat):Int)==0 && (1:Int)==1 && (bF items.size items.size hi - bF items.size 0 lo)==items.size)=true then _ else _) _ _ s
 rw[xae hno,zca]
 first
  |exact xaa (m:=Builtin.Tuple.tupleExact _) (xaZ (xak ⟨_,rfl,xak h⟩) htake)
  |exact xaa (m:=Builtin.Tuple.tupleExact _) (xaZ (xaa (xak (xak ⟨_,rfl,xak h⟩))) htake)
  |exact xaa (xaa (m:=Builtin.Tuple.tupleExact _) (xaZ (xak (xak ⟨_,rfl,xak h⟩)) htake))
  |exact xaa (xaa (m:=Builtin.Tuple.tupleExact _) (xaZ (xak ⟨_,rfl,xak h⟩) htake))
end
end HT
namespace L2
open PySem PySem.Spec PyProof.Rows
abbrev TO:=St->Hp->(Option Int->Hp->Prop)->Prop
def PO (X:Cx)(e:Option Expr)(t:TO):Prop:=
 ∀(pins:Pnx) (s:Shared) (σ:St) (H:Hp) (Q:Option Int->Hp->Prop),Inv X pins σ H s->t σ H Q->
  wpAny (model X.prog X.w) X.A (evalPart e X.env) (fun u s'=>∃o H',Inv X pins σ H' s'/\IsPart u o/\Q o H') X.xe s
def zdn:TO:=fun _ H Q=>Q none H
noncomputable def zgv (t:TE):TO:=fun σ H Q=>t σ H fun x H1=>∃i,x=.int i/\Q (some i) H1
section
variable {X:Cx}{e:Expr}{te:TE}{lo hi:Option Expr}{tl th:TO}{pos p2:Pos}
def zdc:PO X none zdn:=by
 sr_in;rw[evalPart_none];exact xak ⟨none,H,I,.none,h⟩
def zcX (h:PE X e te):PO X (some e) (zgv te):=by
 intro pins s σ H Q I hw;rw[evalPart_some];refine aU (h pins s σ H _ I hw) fun u s1 ⟨x,H1,I1,r1,q1⟩=>?_;obtain⟨i,rfl,q⟩:=q1;obtain⟨t,rfl⟩:=r1;exact⟨some i,H1,I1,.int i t,q⟩
def tK (X:Cx)(r:V->Option Int->Option Int->Hp->VK->Prop):Prop:=
 ∀(pins:Pnx) (s:Shared) (σ:St) (H:Hp) (x:V) (v vl vu:Value) (lo hi:Option Int) (sl:Addr) (Q:VK),Inv X pins σ H s->RelV x v->s.heap.IsSliceOf sl vl vu .none->IsPart vl lo->IsPart vu hi->r x lo hi H Q->
  ∃T id,typeLookup (.type T) "__getitem__"=pure (some (.builtin id))/\s.TypeIs v T/\wpAny (model X.prog X.w) X.A (getItem v (.ref sl)) (EP X pins σ Q) X.xe s
def tK.or (h:tK X r)(h':tK X r'):tK X (fun x lo hi H Q=>r x lo hi H Q\/r' x lo hi H Q):=by
 intro pins s σ H x v vl vu lo hi sl Q I rx hs pl pu q;rcases q with q |q
 ·exact h pins s σ H x v vl vu lo hi sl Q I rx hs pl pu q
 ·exact h' pins s σ H x v vl vu lo hi sl Q I rx hs pl pu q
noncomputable def tSl (r:V->Option Int->Option Int->Hp->VK->Prop) (te:TE) (tl th:TO):TE:=fun σ H Q=>te σ H fun x H1=>tl σ H1 fun l H2=>th σ H2 fun u H3=>r x l u H3 Q
def UJ (hr:tK X r)(he:PE X e te)(hl:PO X lo tl)(hu:PO X hi th):PE X (.Subscript e (.Slice lo hi none p2) pos) (tSl r te tl th):=by
 sr_in;refine Subscript_ (aU (he pins s σ H _ I h) fun v s1 ⟨x,H1,I1,r1,q1⟩=>?_);refine wpAny_Slice (aU (hl pins s1 σ H1 _ I1 q1) fun vl s2 ⟨l,H2,I2,pl,q2⟩=>aU (hu pins s2 σ H2 _ I2 q2) fun vu s3 ⟨u,H3,I3,pu,q3⟩=>?_);rw[evalPart_none];refine xak ?_;have I4:Inv X pins σ H3 {s3 with heap:=s3.heap.push {cls:=.type "slice",data:=.fields #[vl,vu,.none]}}:=I3.kept (t':=s3.toks) fun b ob q=>xac _ q;obtain⟨T,id,hT,ht,hg⟩:=hr pins {s3 with heap:=s3.heap.push {cls:=.type "slice",data:=.fields #[vl,vu,.none]}} σ H3 x v vl vu l u s3.heap.objs.size Q I4 r1 (Heap.IsSliceOf.new ..) pl pu q3;show wpAny (model X.prog X.w) X.A (subscriptTail e (.Slice lo hi none p2) v (.ref s3.heap.objs.size)) (EP X pins σ Q) X.xe {s3 with heap:=s3.heap.push {cls:=.type "slice",data:=.fields #[vl,vu,.none]}};exact tail_any (ops:=[.ref s3.heap.objs.size,v]) ht hT hg (by with_unfolding_all rfl)
noncomputable def fX (xs:List V) (lo hi:Option Int):List V:=(xs.drop (HT.bF xs.length 0 lo)).take (HT.bF xs.length xs.length hi - HT.bF xs.length 0 lo)
def Q9 (xs:List V)(lo hi:Option Int):(fX xs lo hi).length<=xs.length:=by
 unfold fX;rw[xbm,xcD];lia
def Lz (K:Fgx):V->Option Int->Option Int->Hp->VK->Prop:=fun x lo hi H Q=>∃a xs,x=.ref a/\cI K H a xs/\
 ¬ (HT.bF xs.length 0 lo=0/\HT.bF xs.length xs.length hi=xs.length)/\∀p,H p=none->Q (.ref p) (upd H p (.tup (fX xs lo hi)))
def zee:tK X (Lz X.K):=by
 intro pins s σ H x v vl vu lo hi sl Q I rx hs pl pu h;obtain⟨a,xs,rfl,hx,hw,q⟩:=h;cases rx;obtain⟨its,r,ht,hz⟩:=I.tuple hx;have hlen:its.toArray.size=xs.length:=by rw[xai];exact r.length.symm
 refine⟨"tuple",_,xck.lookup,ht.typeIs,?_⟩;refine HT.Z9 ht hs pl pu (by rw[hlen];exact hw) ?_ (by rw[hlen];exact hz);rw[hlen];refine⟨.ref s.heap.objs.size,_,I.laid (t':=s.toks) (o:=.tup (fX xs lo hi)) (fun b ob q=>xac _ q) (xaf _) ?_,rfl,q _ (I.hok.fresh (xaf _))⟩;exact⟨xar (Q9 xs lo hi) hz,_,(r.drop (HT.bF xs.length 0 lo)).take (HT.bF xs.length xs.length hi - HT.bF xs.length 0 lo),IsTup.new _ _⟩
noncomputable def Vc (K:Fgx):R2:=fun x y H Q=>∃a b xs ys,x=.ref a/\y=.ref b/\cI K H a xs/\cI K H b ys/\xs≠ []/\xs.length + ys.length<=sizeLine/\
 (ys=[]->Q (.ref a) H)/\(ys≠ []->∀p,H p=none->Q (.ref p) (upd H p (.tup (xs ++ ys))))
def Vals.nil_iff (r:Vals xs us):us=[] ↔ xs=[]:=by
 cases r with
 |nil=>simp
 |cons _ _=>simp
def zcF:bV X (binaryOp .Add) (Vc X.K):=by
 l_out;obtain⟨a,b,xs,ys,rfl,rfl,ha,hb,hx,hz,q1,q2⟩:=h;cases rx;cases ry;obtain⟨its,r1,p1,_⟩:=I.tuple ha;obtain⟨its2,r2,p2,_⟩:=I.tuple hb;refine HT.Y6 p1 p2 (fun z=>hx (r1.nil_iff.mp z)) (fun z=>⟨.ref a,H,I,rfl,q1 (r2.nil_iff.mp z)⟩) (fun z=>?_) (by rw[<-r1.length, <-r2.length];exact hz);refine⟨.ref s.heap.objs.size,_,I.laid (t':=s.toks) (o:=.tup (xs ++ ys)) (fun b ob q=>xac _ q) (xaf _) ?_,rfl,q2 (fun w=>z (r2.nil_iff.mpr w)) _ (I.hok.fresh (xaf _))⟩;exact⟨by rw[xag];exact hz,_,r1.append r2,IsTup.new _ _⟩
end
noncomputable def gQ (n:Nat) (i:Int):Option Nat:=if 0<=i then(if i<n then some i.toNat else none) else if -(n:Int)<=i then some (i + n).toNat else none
noncomputable def cN {α:Type} (xs:List α) (i:Int):Option α:=(gQ xs.length i).bind fun j=>xs[j]?
def Tj (h:gQ n i=some j):seqIndex? i n=some j/\j<n/\ -(n:Int)<=i/\i<n:=by
 unfold gQ at h
 by_cases h0:0<=i
 ·rw[xad h0]at h
  by_cases h1:i<n
  ·rw[xad h1]at h;have e:i.toNat=j:=xaA h;exact⟨by rw[xdX h0 h1,e],by lia,by lia,h1⟩
  ·rw[xae h1]at h;cases h
 ·rw[xae h0]at h
  by_cases h1: -(n:Int)<=i
  ·rw[xad h1]at h;have e:(i + n).toNat=j:=xaA h;exact⟨by rw[seqIndex_neg (by lia) h1,e],by lia,h1,by lia⟩
  ·rw[xae h1]at h;cases h
def Ht (h:cN xs i=some v):∃j,seqIndex? i xs.length=some j/\xs[j]? =some v/\j<xs.length/\ -(xs.length:Int)<=i/\i<xs.length:=by
  unfold cN at h
  cases e:gQ xs.length i with
  |none=>rw[e]at h;cases h
  |some j=>
    rw[e]at h;obtain⟨h1,h2,h3,h4⟩:=Tj e;exact⟨j,h1,h,h2,h3,h4⟩
def tL {α:Type}{xs:List α}{j:Nat}{v:α}(h:xs[j]? =some v):cN xs (j:Int)=some v:=by
 have hj:j<xs.length:=(xah.mp h).1;have e:gQ xs.length (j:Int)=some j:=by
  unfold gQ;rw[xad (by lia),xad (by lia)];simp
 unfold cN;rw[e];exact h
def Hf (b:Expr):Prop:=∀o i,subscripted b false o i=operate [o,i] (getItem o i)
def nQ (X:Cx)(r:R2):Prop:=
 ∀(value slice:Expr) (pins:Pnx) (s:Shared) (σ:St) (H:Hp) (x y:V) (v u:Value) (Q:VK),Inv X pins σ H s->RelV x v->RelV y u->r x y H Q->
  subscripted slice false v u=operate [v,u] (getItem v u)->wpAny (model X.prog X.w) X.A (subscriptTail value slice v u) (EP X pins σ Q) X.xe s
def zK (X:Cx)(id:String)(r:V->List V->Hp->VK->Prop):Prop:=
 ∀(pins:Pnx) (s:Shared) (σ:St) (H:Hp) (x:V) (xs:List V) (v:Value) (us:List Value) (Q:VK),Inv X pins σ H s->RelV x v->Vals xs us->r x xs H Q->
  wpAny (model X.prog X.w) X.A (call (.builtin id) (v::us)) (EP X pins σ Q) X.xe s
section
variable {X:Cx}{a b:Expr}{ta tb:TE}{pos:Pos}
def nQ.or (h:nQ X r)(h':nQ X r'):nQ X (fun x y H Q=>r x y H Q\/r' x y H Q):=by
 intro value slice pins s σ H x y v u Q I rx ry q hs;rcases q with q |q
 ·exact h value slice pins s σ H x y v u Q I rx ry q hs
 ·exact h' value slice pins s σ H x y v u Q I rx ry q hs
def zgH (hr:nQ X r)(ha:PE X a ta)(hb:PE X b tb)(hs:Hf b):PE X (.Subscript a b pos) (Dd r ta tb):=by
 sr_in;exact Subscript_ (wD ha hb I h fun v u s2 x y H2 I2 rx ry q=>hr a b pins s2 σ H2 x y v u Q I2 rx ry q (hs _ _))
noncomputable def xQ (K:Fgx):R2:=fun x y H Q=>∃p xs i v,x=.ref p/\y=.int i/\b_ K H p xs/\cN xs i=some v/\Q v H
noncomputable def xT (K:Fgx):R2:=fun x y H Q=>∃p xs i v,x=.ref p/\y=.int i/\cI K H p xs/\cN xs i=some v/\Q v H
noncomputable def xR:R2:=fun x y H Q=>∃z i c,x=.str z/\y=.int i/\z.length<=sizeLine/\cN z.cps.toList i=some c/\Q (.str ⟨#[c]⟩) H
def zcE:nQ X (xQ X.K):=by
 intro value slice pins s σ H x y v u Q I rx ry h hs;obtain⟨p,xs,i,z,rfl,rfl,hq,he,q⟩:=h;cases rx;obtain⟨t,rfl⟩:=ry;obtain⟨its,r,pl,hz⟩:=I.list hq;obtain⟨j,h1,h2,h3,h4,h5⟩:=Ht he;obtain⟨w,ew,rw'⟩:=r.get h2;have hl:=r.length;have hn:=rN;have fin:EP X pins σ Q w s:=⟨z,H,I,rw',q⟩
 by_cases h0:0<=i
 ·have hj:i.toNat=j:=by
   rw[xdX h0 h5]at h1;exact xaA h1
  exact item_listR pl.isList h0 (by lia) (by rw[hj];simpa using ew) fin hs
 ·have hj:(i + (its.toArray.size:Int)).toNat=j:=by
   rw[seqIndex_neg (by lia) h4]at h1;rw[xai, <-hl];exact xaA h1
  exact subscriptTail_builtinR (x:=w) pl.isList.typeIs slot_list_getitem.lookup
   (wpAny_getItem_list_neg (Q:=fun r s'=>r=w/\EP X pins σ Q r s') pl.isList (by lia) (by rw[xai]<;>lia) (by lia) (by rw[hj];simpa using ew) ⟨rfl,fin⟩) hs
def ze4:nQ X (xT X.K):=by
 intro value slice pins s σ H x y v u Q I rx ry h hs;obtain⟨p,xs,i,z,rfl,rfl,hq,he,q⟩:=h;cases rx;obtain⟨t,rfl⟩:=ry;obtain⟨its,r,pl,hz⟩:=I.tuple hq;obtain⟨j,h1,h2,h3,h4,h5⟩:=Ht he;obtain⟨w,ew,rw'⟩:=r.get h2;have hl:=r.length;have hn:=rN;have fin:EP X pins σ Q w s:=⟨z,H,I,rw',q⟩;exact subscriptTail_builtinR (x:=w) pl.typeIs xdl.lookup
  (getItem_tuple (j:=j) (Q:=fun r s'=>r=w/\EP X pins σ Q r s') pl (by lia) (by lia) (by rw[xai, <-hl];exact h1) (by simpa using ew) ⟨rfl,fin⟩) hs
def zeW:nQ X xR:=by
 intro value slice pins s σ H x y v u Q I rx ry h hs;obtain⟨z,i,c,rfl,rfl,hz,he,q⟩:=h;kfm_eq;obtain⟨t',rfl⟩:=ry;obtain⟨j,h1,h2,h3,h4,h5⟩:=Ht he;have hl:z.cps.toList.length=z.length:=by simp[Str.length]
 rw [hl] at h1 h4 h5;have hn := rN;exact tail_any (typeIs_str s z t) slot_str_getitem.lookup (getItem_str (c := c) (by
  have e1:decide (i< -(2 ^ 63:Int))=false:=xaH (by lia);have e2:decide (i >=2 ^ 63)=false:=xaH (by lia);rw[e1,e2,Bool.or_false]) (by rw[h1];simpa using h2) ⟨.str ⟨#[c]⟩,H,I.tok _,⟨_,rfl⟩,q⟩) hs
noncomputable def Lq (K:Fgx):R2:=fun x y H Q=>xQ K x y H Q\/xT K x y H Q\/xR x y H Q
def zbm (its:List Value)(n j:Nat)(u:Value):Obj.mapSeq (·.setIfInBounds j u) {cls:=.type "list",data:=.seq its.toArray n}={cls:=.type "list",data:=.seq (its.set j u).toArray n}:=by
 simp[Obj.mapSeq]
theorem Inv.lst (I:Inv X pins σ H s)(h:H p=some (.lst xs)):
  ∃(its:List Value) (n:Nat),Vals xs its/\s.heap.get? p=some {cls:=.type "list",data:=.seq its.toArray n}/\xs.length<=sizeLine:=by
 obtain⟨z,its,n,r,e⟩:=I.hok p _ h;exact⟨its,n,r,e,z⟩
def Inv.lstUpd {pins:Pnx}{σ:St}{H:Hp}{s:Shared}{p:Addr}{xs ys:List V}{its its':List Value}{n n':Nat}{f:Obj->Obj}(I:Inv X pins σ H s)(h:H p=some (.lst xs))
  (ho:s.heap.get? p=some {cls:=.type "list",data:=.seq its.toArray n}) (hf:f {cls:=.type "list",data:=.seq its.toArray n}={cls:=.type "list",data:=.seq its'.toArray n'}) (r:Vals ys its') (hz:ys.length<=sizeLine) (t:Nat):
  Inv X pins σ (upd H p (.lst ys)) {s with heap:=s.heap.update p f,toks:=t}:=by
 have e:(s.heap.update p f).get? p=some {cls:=.type "list",data:=.seq its'.toArray n'}:=by
  rw[xb8 f ho (by rw[hf]<;>rfl),hf]
 refine I.write (x:=p) (e:=p) (by rw[h];trivial) (.inl rfl) (fun b u hb q=>(xa9 _ _ (xbN hb)).trans q) ⟨_,e⟩ ?_;exact⟨hz,its',n',r,e⟩
def zgP:V->V->V->Hp->(Hp->Prop)->Prop:=fun o i v H Q=>∃p xs k j,o=.ref p/\i=.int k/\H p=some (.lst xs)/\gQ xs.length k=some j/\Q (upd H p (.lst (xs.set j v)))
def set_list:zN X zgP:=by
 intro pins s σ H o i v ov iv u Q I ro ri rv h;obtain⟨p,xs,k,j,rfl,rfl,hp,hj,q⟩:=h;cases ro;obtain⟨t,rfl⟩:=ri;obtain⟨its,n,r,ho,hz⟩:=I.lst hp;obtain⟨h1,h2,h3,h4⟩:=Tj hj;have hl:=r.length;have hn:=rN;have I':Inv X pins σ (upd H p (.lst (xs.set j v))) {s with heap:=s.heap.update p (Obj.mapSeq (·.setIfInBounds j u))}:=
  I.lstUpd hp ho (zbm its n j u) (r.set rv j) (by rw[xaz];exact hz) s.toks
 by_cases h0:0<=k
 ·have hk:k.toNat=j:=by
   rw[xdX h0 h4]at h1;exact xaA h1
  exact PySem.W.ki_setAt ho h0 (by lia) (by rw[xai, <-hl];exact h4) (by rw[hk];exact⟨_,I',q⟩)
 ·have hk:(k + (its.toArray.size:Int)).toNat=j:=by
   rw[seqIndex_neg (by lia) h3]at h1;rw[xai, <-hl];exact xaA h1
  exact PySem.W.ki_setBack ho (by lia) (by rw[xai, <-hl];exact h3) (by lia) (by rw[hk];exact⟨_,I',q⟩)
def zaV (lo hi:Option Int)(n:Nat):(sliceBounds lo hi none n).1=((HT.bF n 0 lo:Nat):Int)/\(sliceBounds lo hi none n).2.1=((HT.bF n n hi:Nat):Int)/\(sliceBounds lo hi none n).2.2=1:=by
  refine⟨?_,?_,rfl⟩
  · cases lo with
    |none=>simp[sliceBounds,HT.bF]
    |some i=>
      simp only[sliceBounds,HT.bF,Option.getD_none,show(1:Int) > 0 by decide,xbB]
      by_cases h:i<0
      · simp only[h,xbB]<;>lia
      · simp only[h,xbX]<;>lia
  · cases hi with
    |none=>simp[sliceBounds,HT.bF]
    |some i=>
      simp only[sliceBounds,HT.bF,Option.getD_none,show(1:Int) > 0 by decide,xbB]
      by_cases h:i<0
      · simp only[h,xbB]<;>lia
      · simp only[h,xbX]<;>lia
theorem zaK (its:List Value)(lo hi:Option Int):slicePick its.toArray lo hi none=((its.drop (HT.bF its.length 0 lo)).take (HT.bF its.length its.length hi - HT.bF its.length 0 lo)).toArray:=by
 obtain⟨h1,h2,h3⟩:=zaV lo hi its.toArray.size;unfold slicePick;rw[h1,h2,h3];simp only[sliceRange_one,pick_run,xai]<;>rfl
def Lx (K:Fgx):V->Option Int->Option Int->Hp->VK->Prop:=fun x lo hi H Q=>∃a xs,x=.ref a/\b_ K H a xs/\∀p,H p=none->Q (.ref p) (upd H p (.lst (fX xs lo hi)))
def zc4:tK X (Lx X.K):=by
 intro pins s σ H x v vl vu lo hi sl Q I rx hs pl pu h;obtain⟨a,xs,rfl,hx,q⟩:=h;cases rx;obtain⟨its,r,ht,hz⟩:=I.list hx;have hlen:=r.length;refine⟨"list",_,slot_list_getitem.lookup,ht.isList.typeIs,?_⟩;refine wpAny_getItem_list_slice ht.isList hs pl pu .none (by simp) ?_ (by rw[xai]<;>lia)
 rw[zaK, <-hlen];refine⟨.ref s.heap.objs.size,_,I.laid (t':=s.toks) (o:=.lst (fX xs lo hi)) (fun b ob q=>xac _ q) (xaf _) ?_,rfl,q _ (I.hok.fresh (xaf _))⟩;exact⟨xar (Q9 xs lo hi) hz,_,0,(r.drop (HT.bF xs.length 0 lo)).take (HT.bF xs.length xs.length hi - HT.bF xs.length 0 lo),xax _ rfl⟩
noncomputable def nW:V->Bool
 |.non=>true
 |.bl _=>true
 |.int _=>true
 |.str _=>true
 |_=>false
noncomputable def p7:V->V->Bool
 |.non,.non=>true
 |.bl a,.bl b=>a==b
 |.bl a,.int b=>(if a then 1 else 0)==b
 |.int a,.bl b=>a==(if b then 1 else 0)
 |.int a,.int b=>a==b
 |.str a,.str b=>a==b
 |_,_=>false
def Zr (ry:RelV y u)(rx:RelV x v)(fy:nW y=true)(fx:nW x=true):SeqAt.EqAt A s u v (p7 y x):=by
  cases y with
  |non=>
    cases ry
    cases x with
    |non=>cases rx;exact xc2 _
    |bl b=>cases rx;exact SeqAt.EqAt.none_bool b
    |int b=>obtain⟨t,rfl⟩:=rx;exact SeqAt.EqAt.none_int b t
    |str b=>obtain⟨t,rfl⟩:=rx;exact SeqAt.EqAt.none_str b t
    |_=>exact absurd (show false=true from fx) xay
  |bl a=>
    cases ry
    cases x with
    |non=>cases rx;exact SeqAt.EqAt.bool_none a
    |bl b=>cases rx;exact SeqAt.EqAt.bool_bool a b
    |int b=>obtain⟨t,rfl⟩:=rx;exact SeqAt.EqAt.bool_int a b t
    |str b=>obtain⟨t,rfl⟩:=rx;exact SeqAt.EqAt.bool_str a b t
    |_=>exact absurd (show false=true from fx) xay
  |int a=>
    obtain⟨t',rfl⟩:=ry
    cases x with
    |non=>cases rx;exact SeqAt.EqAt.int_none a t'
    |bl b=>cases rx;exact SeqAt.EqAt.int_bool a t' b
    |int b=>obtain⟨t,rfl⟩:=rx;exact xdm a t' b t
    |str b=>obtain⟨t,rfl⟩:=rx;exact xdj a t' b t
    |_=>exact absurd (show false=true from fx) xay
  |str a=>
    obtain⟨t',rfl⟩:=ry
    cases x with
    |non=>cases rx;exact SeqAt.EqAt.str_none a t'
    |bl b=>cases rx;exact SeqAt.EqAt.str_bool a t' b
    |int b=>obtain⟨t,rfl⟩:=rx;exact xdk a t' b t
    |str b=>obtain⟨t,rfl⟩:=rx;exact xdn a t' b t
    |_=>exact absurd (show false=true from fx) xay
  |_=>exact absurd (show false=true from fy) xay
noncomputable def gM (x:V) (u:Value):Bool:=match u with
 |.none=>p7 .non x
 |.bool b=>p7 (.bl b) x
 |.int i _=>p7 (.int i) x
 |.str z _=>p7 (.str z) x
 |_=>false
def Rw (r:RelV y u)(f:nW y=true):gM x u=p7 y x:=by
 cases y with
 |non=>cases r;rfl
 |bl b=>cases r;rfl
 |int i=>obtain⟨t,rfl⟩:=r;rfl
 |str z=>obtain⟨t,rfl⟩:=r;rfl
 |_=>exact absurd (show false=true from f) xay
theorem zQ:∀{xs:List V} {us:List Value},Vals xs us->xs.all nW=true->us.any (gM x)=xs.any fun y=>p7 y x
  |_,_,.nil,_=>rfl
  |y::xs,u::us,.cons r t,f=>by
    rw[xb9,xaD]at f;rw[xdt,xdt,Rw r f.1,zQ t f.2]
theorem Bl (rx:RelV x v)(fx:nW x=true):∀{xs:List V} {us:List Value},Vals xs us->xs.all nW=true->∀u∈us,SeqAt.EqAt A s u v (gM x u)
  |_,_,.nil,_=>fun u hu=>by cases hu
  |y::xs,u::us,.cons r t,f=>fun u' hu=>by
    rw[xb9,xaD]at f;rcases xaO.mp hu with rfl |hu
    · rw[Rw r f.1];exact Zr r rx f.1 fx
    · exact Bl rx fx t f.2 u' hu
def inV (x:V)(xs:List V):Bool:=xs.any fun y=>p7 y x
noncomputable def FN (K:Fgx) (neg:Bool):R2:=fun x y H Q=>∃p xs,y=.ref p/\(b_ K H p xs\/cI K H p xs)/\nW x=true/\xs.all nW=true/\Q (.bl (if neg then !inV x xs else inV x xs)) H
def zbD:bV X (compareOp .In) (FN X.K false):=by
 l_out;obtain⟨p,xs,rfl,hq,fx,fs,q⟩:=h;cases ry;rcases hq with hq |hq
 ·obtain⟨its,r,pl,hz⟩:=I.list hq;refine SeqAt.in_listAt (gM x) pl.isList (fun w hw=>Bl rx fx r fs w (by simpa using hw)) ⟨.bl _,H,I,rfl,?_⟩;w_lens
 ·obtain⟨its,r,pl,hz⟩:=I.tuple hq;refine SeqAt.in_tupleAt (gM x) pl (fun w hw=>Bl rx fx r fs w (by simpa using hw)) ⟨.bl _,H,I,rfl,?_⟩;w_lens
def zaT:bV X (compareOp .NotIn) (FN X.K true):=by
 l_out;obtain⟨p,xs,rfl,hq,fx,fs,q⟩:=h;cases ry;rcases hq with hq |hq
 ·obtain⟨its,r,pl,hz⟩:=I.list hq;refine SeqAt.notIn_listAt (gM x) pl.isList (fun w hw=>Bl rx fx r fs w (by simpa using hw)) ⟨.bl _,H,I,rfl,?_⟩;w_lens
 ·obtain⟨its,r,pl,hz⟩:=I.tuple hq;refine SeqAt.notIn_tupleAt (gM x) pl (fun w hw=>Bl rx fx r fs w (by simpa using hw)) ⟨.bl _,H,I,rfl,?_⟩;w_lens
def YS:dB X (.builtin "len") (fun xs H Q=>∃p ys,xs=[.ref p]/\(b_ X.K H p ys\/cI X.K H p ys)/\Q (.int ys.length) H):=by
 kj_one;obtain⟨p,ys,rfl,hq,q⟩:=h;o_norm;have hn:=rN;rcases hq with hq |hq
 ·obtain⟨its,r',pl,hz⟩:=I.list hq;have hlen:=r'.length;exact Calls.call_len_list pl.isList (by simp only[xai]<;>lia) ⟨.int ys.length,H,I.tok _,⟨s.toks + 1,by rw[xai,hlen]⟩,q⟩
 ·obtain⟨its,r',pl,hz⟩:=I.tuple hq;have hlen:=r'.length;exact len_tuple pl (by simp only[xai]<;>lia) ⟨.int ys.length,H,I.tok _,⟨s.toks + 1,by rw[xai,hlen]⟩,q⟩
def YT:dB X (.builtin "len") (fun xs H Q=>∃z,xs=[.str z]/\z.length<=sizeLine/\Q (.int z.length) H):=by
 kj_one;obtain⟨z,rfl,hz,q⟩:=h;obtain⟨u,rfl,t,rfl⟩:=vals1 r;have hn:=rN;exact len_str (by lia) ⟨.int z.length,H,I.tok _,⟨_,rfl⟩,q⟩
def dB.or (h:dB X f r)(h':dB X f r'):dB X f (fun xs H Q=>r xs H Q\/r' xs H Q):=by
 intro pins s σ H xs us Q I rs q;rcases q with q |q
 ·exact h pins s σ H xs us Q I rs q
 ·exact h' pins s σ H xs us Q I rs q
def YW:dB X (.type "list") (fun xs H Q=>∃p ys,xs=[.ref p]/\(b_ X.K H p ys\/cI X.K H p ys)/\∀l,H l=none->Q (.ref l) (upd H l (.lst ys))):=by
 kj_one;obtain⟨p,ys,rfl,hq,q⟩:=h;o_norm;have fin:∀(its:List Value),Vals ys its->ys.length<=sizeLine->∀(h':Heap) (c':Nat),(∀b o',s.heap.get? b=some o'->h'.get? b=some o')->
   h'.get? s.heap.objs.size=some {cls:=.type "list",dict:=none,data:=.seq its.toArray c',slots:= #[]}->EP X pins σ Q (.ref s.heap.objs.size) {s with heap:=h'}:=fun its r' hz h' c' kp e=>
  ⟨.ref s.heap.objs.size,_,I.laid (t':=s.toks) kp (xaf _) (show dJ X.prog X.w _ h' _ (.lst ys) from⟨hz,its,c',r',e⟩),rfl,q _ (I.hok.fresh (xaf _))⟩
 rcases hq with hq |hq
 ·obtain⟨its,r',pl,hz⟩:=I.list hq;have hlen:=r'.length;obtain⟨o,ho,hc,n,hd⟩:=pl.isList;exact call_list_seq p (.inl rfl) ho hc hd (fun h' c' kp e=>fin its r' hz h' c' kp e) (by simp only[xai]<;>lia)
 ·obtain⟨its,r',pl,hz⟩:=I.tuple hq;have hlen:=r'.length;obtain⟨o,ho,hc,n,hd⟩:=pl;exact call_list_seq p (.inr rfl) ho hc hd (fun h' c' kp e=>fin its r' hz h' c' kp e) (by simp only[xai]<;>lia)
def Y5:dB X (.type "tuple") (fun xs H Q=>∃p ys,xs=[.ref p]/\((b_ X.K H p ys/\∀l,H l=none->Q (.ref l) (upd H l (.tup ys)))\/(cI X.K H p ys/\Q (.ref p) H))):=by
 kj_one;obtain⟨p,ys,rfl,h⟩:=h;o_norm;rcases h with⟨hq,q⟩ |⟨hq,q⟩
 ·obtain⟨its,r',pl,hz⟩:=I.list hq;have hlen:=r'.length;refine call_tuple_list pl.isList (fun h' kp=>?_) (by simp only[xai]<;>lia)
  have I1:Inv X pins σ H {s with heap:=h'}:=I.kept (t':=s.toks) kp;have I2:Inv X pins σ (upd H h'.objs.size (.tup ys)) {s with heap:=h'.push {cls:=.type "tuple",data:=.seq its.toArray}}:=
   I1.laid (t':=s.toks) (fun b o e=>xac _ e) (xaf _) (show dJ X.prog X.w _ _ _ (.tup ys) from⟨hz,its,r',IsTup.new _ _⟩)
  exact⟨.ref h'.objs.size,_,I2,rfl,q _ (I1.hok.fresh (xaf _))⟩
 ·obtain⟨its,r',pl,hz⟩:=I.tuple hq;exact call_tuple_same pl ⟨.ref p,H,I,rfl,q⟩
def Pb (K:Fgx)(T:String)(x:V)(H:Hp):Prop:=match x with
 |.str _=>T="str"
 |.int _=>T="int"
 |.ref p=>(T="list"/\∃xs,b_ K H p xs)\/(T="tuple"/\∃o,K.lookup p=some o/\o.cls=.type "tuple"/\o.dict=none)\/
   (T="dict"/\((∃kvs,H p=some (.dK kvs))\/∃kvs,H p=some (.dT kvs)))\/(T="set"/\∃S n,H p=some (.set S n))
 |_=>False
def XD (I:Inv X pins σ H s)(r:RelV x v)(ty:Pb X.K T x H):
    s.TypeIs v T/\∀a,v=.ref a->∃ob,s.heap.get? a=some ob/\ob.dict=none:=by
  cases x with
  |str z=>
    obtain⟨t,rfl⟩:=r;cases (show T="str" from ty);exact⟨typeIs_str s z t,fun _ e=>nomatch e⟩
  |int i=>
    obtain⟨t,rfl⟩:=r;cases (show T="int" from ty);exact⟨typeIs_int s i t,fun _ e=>nomatch e⟩
  |ref p=>
    cases r;rcases ty with⟨rfl,xs,hq⟩ |⟨rfl,o,hk,hc,hd⟩ |⟨rfl,hk⟩ |⟨rfl,S,n,hk⟩
    · obtain⟨its,_,pl,_⟩:=I.list hq;refine⟨pl.isList.typeIs,fun a e=>?_⟩;cases e;obtain⟨o,n,e,c,hd,_⟩:=pl;exact⟨o,e,hd⟩
    · refine⟨⟨o,I.kIn p o hk,hc⟩,fun a e=>?_⟩;cases e;exact⟨o,I.kIn _ o hk,hd⟩
    · have z:∃o,s.heap.get? p=some o/\o.ExactDict:=by
        rcases hk with⟨kvs,hk⟩ |⟨kvs,hk⟩
        · obtain⟨_,_,_,_,o,_,_,e,ex,_⟩:=I.hok p _ hk;exact⟨o,e,ex⟩
        · obtain⟨_,_,_,_,o,_,_,e,ex,_⟩:=I.hok p _ hk;exact⟨o,e,ex⟩
      obtain⟨o,e,ex⟩:=z;refine⟨⟨o,e,ex.1⟩,fun a e2=>?_⟩;cases e2;exact⟨o,e,ex.2.1⟩
    · obtain⟨o,_,_,_,e,ex,_⟩:=I.hok p _ hk;refine⟨⟨o,e,ex.1⟩,fun a e2=>?_⟩;cases e2;exact⟨o,e,ex.2.1⟩
  |_=>exact False.elim ty
noncomputable def Ot (K:Fgx) (T:String) (r:V->List V->Hp->VK->Prop) (to:TE):TE:=fun σ H Q=>to σ H fun x H1=>Pb K T x H1/\r x [] H1 Q
noncomputable def tBM (K:Fgx) (T:String) (r:V->List V->Hp->VK->Prop) (to:TE) (t:TA):TE:=fun σ H Q=>to σ H fun x H1=>Pb K T x H1/\t σ H1 fun xs H2=>r x xs H2 Q
variable {o e:Expr}{es:List Expr}{to:TE}{t:TA}{name:Str}{apos cpos:Pos}{T id:String}{r:V->List V->Hp->VK->Prop}
def zeM (pa:PlainAttrs T)(slot:Slot T name id)(hty:typeOf (.builtin id)=pure (.type "method_descriptor"))(hm:zK X id r)(ho:PE X o to)
  (hbase:attributeBase o name X.env (eval o X.env)=eval o X.env:=by rfl) (hline:(apos.endLine==cpos.line)=true:=by rfl):PE X (.Call (.Attribute o name apos) [] [] cpos) (Ot X.K T r to):=by
 sr_in;refine wpAny_Call_method0_late hbase hline (aU (ho pins s σ H _ I h) fun v s1 ⟨x,H1,I1,r1,ty,q1⟩=>?_);obtain⟨h1,h2⟩:=XD I1 r1 ty;exact⟨T,id,pa,slot,hty,h1,h2,Calls.callWith_builtin rfl (PySem.evalArgs_none (hm pins s1 σ H1 x [] v [] Q I1 r1 .nil q1))⟩
def BR (pa:PlainAttrs T)(slot:Slot T name id)(hty:typeOf (.builtin id)=pure (.type "method_descriptor"))(hm:zK X id r)(ho:PE X o to)(ha:PA X (e::es) t)
  (hbase:attributeBase o name X.env (eval o X.env)=eval o X.env:=by rfl)
  (hfew : ((backTo cpos (starEach (e::es) X.env)).all (fun x=> !x.1) && (backToKw cpos (keywordEach [] X.env)).all (fun x=>x.1.isSome)
   && decide ((e::es).length + ([]:List Keyword).length + (if ([]:List Keyword).isEmpty then 0 else 1)<30))=true:=by rfl)
  (hline:(apos.endLine==cpos.line)=true:=by rfl) (hs:starEach (e::es) X.env=(false,eval e X.env)::starEach es X.env:=by rfl) (hplain:(backTo cpos (starEach es X.env)).any (·.1)=false:=by rfl):
  PE X (.Call (.Attribute o name apos) (e::es) [] cpos) (tBM X.K T r to t):=by
 sr_in;refine wpAny_Call_method_late hbase hfew hline rfl (aU (ho pins s σ H _ I h) fun v s1 ⟨x,H1,I1,r1,ty,q1⟩=>?_);obtain⟨h1,h2⟩:=XD I1 r1 ty;refine⟨T,id,pa,slot,hty,h1,h2,?_⟩;have hA:=ha cpos pins s1 σ H1 _ I1 q1;rw[hs]at hA ⊢;refine Calls.callWith_builtin (by show(false || (backTo cpos (starEach es X.env)).any (·.1))=false;rw[hplain]<;>rfl) (Calls.evalArgs_plain ?_)
 exact aU hA fun us s2 ⟨vs,H2,I2,r2,q2⟩=>hm pins s2 σ H2 x vs v us Q I2 r1 r2 q2
end
def Dt (X:Cx)(id:String)(r:V->List V->Hp->VK->Prop):Prop:=
 ∀(pins:Pnx) (s:Shared) (σ:St) (H:Hp) (x:V) (xs:List V) (v:Value) (us:List Value) (Q:VK),Inv X pins σ H s->RelV x v->Vals xs us->r x xs H Q->
  wpAny (model X.prog X.w) X.A (call (.builtin id) (v::us)) (EP X pins σ Q) X.xe s
def Vals.one:∀{x:V} {us:List Value},Vals [x] us->∃u,us=[u]/\RelV x u
 |_,_,.cons r .nil=>⟨_,rfl,r⟩
theorem Vals.zero:∀{us:List Value},Vals [] us->us=[]
 |_,.nil=>rfl
theorem Vals.dropLast (h:Vals xs us):Vals xs.dropLast us.dropLast:=by
  induction h with
  |nil=>exact .nil
  |cons r t ih=>
    cases t with
    |nil=>exact .nil
    |cons q t'=>exact .cons r ih
theorem Vals.eraseIdx:∀{xs:List V} {us:List Value} (i:Nat),Vals xs us->Vals (xs.eraseIdx i) (us.eraseIdx i)
 |_,_,_,.nil=>.nil
 |_,_,0,.cons _ t=>t
 |_,_,i + 1,.cons r t=>.cons r (Vals.eraseIdx i t)
theorem Vals.rep (h:Vals xs us):∀k:Nat,Vals (List.replicate k xs).flatten (List.replicate k us).flatten
  |0=>.nil
  |k + 1=>by
    rw[xbF,xbF,xcb,xcb];exact Vals.append h (Vals.rep h k)
theorem Zt (l:List α):l.eraseIdx (l.length - 1)=l.dropLast:=by
  induction l with
  |nil=>rfl
  |cons a r ih=>
    cases r with
    |nil=>rfl
    |cons b r=>
      have e:(a::b::r).length - 1=((b::r).length - 1) + 1:=by
        have h1:(a::b::r).length=r.length + 2:=rfl;have h2:(b::r).length=r.length + 1:=rfl;lia
      rw[e,List.eraseIdx_cons_succ,ih]
      all_goals rfl
theorem TY:∀(l:List α) (i:Nat),(l.eraseIdx i).length<=l.length
 | [],_=>xaf _
 |_::_,0=>xb1 _
 |_::r,i + 1=>Nat.succ_le_succ (TY r i)
theorem foldl_rep (its:List Value):∀(k:Nat) (acc:List Value),
    List.foldl (fun x1 x2=>x1 ++ x2) acc.toArray (List.replicate k its.toArray)=(acc ++ (List.replicate k its).flatten).toArray
  |0,acc=>by simp
  |k + 1,acc=>by
    have e:acc.toArray ++ its.toArray=(acc ++ its).toArray:=by simp
    have e2:(acc ++ its) ++ (List.replicate k its).flatten=acc ++ (List.replicate (k + 1) its).flatten:=by
      rw[xbF,xcb,xao]
    rw[<-e2, <-foldl_rep its k (acc ++ its), <-e,xbF,xc3]
section
variable {X:Cx}{pins:Pnx}{σ:St}{H:Hp}{s:Shared}{l b:Addr}{xs ys zs:List V}
def Inv.lset {its its':List Value}{n:Nat}{f:Array Value->Array Value}{t':Nat}(I:Inv X pins σ H s)(hH:H l=some (.lst xs))
  (e:s.heap.get? l=some {cls:=.type "list",data:=.seq its.toArray n}) (hf:f its.toArray=its'.toArray) (hv:Vals ys its') (hz:ys.length<=sizeLine):
  Inv X pins σ (upd H l (.lst ys)) {s with heap:=s.heap.update l (Obj.mapSeq f),toks:=t'}:=by
 have q:=PySem.IsL.update e f;rw[hf]at q;refine I.write (x:=l) (e:=l) (by rw[hH];exact trivial) (.inl rfl) (fun b' u hb hu=>(xa9 s.heap (Obj.mapSeq f) (xbN hb)).trans hu) ⟨_,q⟩ ?_;exact⟨hz,its',_,hv,q⟩
def Inv.lnew (I:Inv X pins σ H s)(hv:Vals ys its)(hz:ys.length<=sizeLine):
  Inv X pins σ (upd H s.heap.objs.size (.lst ys)) {s with heap:=s.heap.push {cls:=.type "list",data:=.seq its.toArray},toks:=t'}:=
 I.laid (fun _ _ q=>xac _ q) (xaf _) ⟨hz,its,0,hv,xax _ rfl⟩
theorem Inv.fresh (I:Inv X pins σ H s):H s.heap.objs.size=none:=I.hok.fresh (xaf _)
def Inv.lstM (I:Inv X pins σ H s)(hH:H l=some (.lst xs)):xs.length<=sizeLine/\∃(its:List Value) (n:Nat),Vals xs its/\xs.length=its.length/\s.heap.get? l=some {cls:=.type "list",data:=.seq its.toArray n}:=by
 obtain⟨z,its,n,r,e⟩:=I.hok l _ hH;exact⟨z,its,n,r,r.length,e⟩
def zb2 (h:n<=sizeLine):Builtin.List.listTooLong n=false:=by
 unfold Builtin.List.listTooLong;exact xaH (by lia)
end
section
variable {X:Cx}
def zcY:V->List V->Hp->VK->Prop:=fun x vs H Q=>∃l xs y,x=.ref l/\vs=[y]/\H l=some (.lst xs)/\xs.length<sizeLine/\Q .non (upd H l (.lst (xs ++ [y])))
def Ku:Dt X "list.append" zcY:=by
 intro pins s σ H x vs v us Q I rx rv h;obtain⟨l,xs,y,rfl,rfl,hH,hz,q⟩:=h;cases rx;obtain⟨u,rfl,ru⟩:=rv.one;obtain⟨z,its,n,r,hl,e⟩:=I.lstM hH;refine xc4 F.slot_list_append ⟨_,e,rfl⟩ F.entry_list_append (F.args_list_append_2 _ _) (PySem.list_append l its.toArray n u (by rw[xai];lia)) ⟨e,?_⟩;refine⟨.non,_,I.lset (its':=its ++ [u]) hH e (by simp) (r.append (.cons ru .nil)) ?_,rfl,q⟩;rw[xag,xaJ];lia
def Lr:V->List V->Hp->VK->Prop:=fun x vs H Q=>∃l xs y,x=.ref l/\vs=[]/\H l=some (.lst xs)/\xs[xs.length - 1]? =some y/\Q y (upd H l (.lst xs.dropLast))
def zeU:Dt X "list.pop" Lr:=by
 intro pins s σ H x vs v us Q I rx rv h;obtain⟨l,xs,y,rfl,rfl,hH,hy,q⟩:=h;cases rx;have hus:=rv.zero;subst hus;obtain⟨z,its,n,r,hl,e⟩:=I.lstM hH;obtain⟨u,hu,ru⟩:=r.get hy;have hy':its.toArray[its.toArray.size - 1]? =some u:=by
  show its.toArray[its.length - 1]? =some u;rw[<-xa4, <-hl];exact hu
 refine xc4 F.slot_list_pop ⟨_,e,rfl⟩ F.entry_list_pop (F.args_list_pop_1 _) (MeetsSeq.list_pop_last l its.toArray n u hy' (by rw[xai];lia)) ⟨e,?_⟩;refine⟨y,_,I.lset (its':=its.dropLast) hH e ?_ r.dropLast ?_,ru,q⟩
 ·show its.toArray.eraseIdxIfInBounds (its.toArray.size - 1)=its.dropLast.toArray;rw[xai,xcV,Zt]
 ·rw[List.length_dropLast];lia
def zef:V->List V->Hp->VK->Prop:=fun x vs H Q=>∃l xs i k y,x=.ref l/\vs=[.int i]/\H l=some (.lst xs)/\ -(2 ^ 63)<=i/\i<2 ^ 63/\seqIndex? i xs.length=some k/\xs[k]? =some y/\Q y (upd H l (.lst (xs.eraseIdx k)))
def zcg:Dt X "list.pop" zef:=by
 intro pins s σ H x vs v us Q I rx rv h;obtain⟨l,xs,i,k,y,rfl,rfl,hH,h1,h2,hk,hy,q⟩:=h;cases rx;obtain⟨u,rfl,ru⟩:=rv.one;obtain⟨t,rfl⟩:=ru;obtain⟨z,its,n,r,hl,e⟩:=I.lstM hH;obtain⟨w,hw,rw'⟩:=r.get hy;refine xc4 F.slot_list_pop ⟨_,e,rfl⟩ F.entry_list_pop (F.args_list_pop_2 _ _)
  (MeetsSeq.list_pop_at l its.toArray n i t k w (fitsIndex_both h1 h2) (by rw[xai, <-hl];exact hk) (by rw[<-xa4];exact hw) (by rw[xai];lia)) ⟨e,?_⟩
 refine⟨y,_,I.lset (its':=its.eraseIdx k) hH e ?_ (r.eraseIdx k) ?_,rw',q⟩
 ·show its.toArray.eraseIdxIfInBounds k=(its.eraseIdx k).toArray;rw[xcV]
 ·have:=TY xs k;lia
noncomputable def Ls:R2:=fun x y H Q=>∃l k xs,x=.ref l/\y=.int k/\H l=some (.lst xs)/\ -(2 ^ 63)<=k/\k<2 ^ 63/\xs.length * k.toNat<=sizeLine/\
 ∀p,H p=none->Q (.ref p) (upd H p (.lst (List.replicate k.toNat xs).flatten))
def len_rep (xs:List α)(k:Nat):(List.replicate k xs).flatten.length=k * xs.length:=by
 induction k with
 |zero=>simp
 |succ k ih=>rw[xbF,xcb,xag,ih,Nat.succ_mul,Nat.add_comm]
def zdN:bV X (binaryOp .Mult) Ls:=by
  l_out;obtain⟨l,k,xs,rfl,rfl,hH,h1,h2,hz,q⟩:=h;cases rx;obtain⟨t,rfl⟩:=ry;obtain⟨z,its,n,r,hl,e⟩:=I.lstM hH;have hlen:its.toArray.size * k.toNat<=sizeLine:=by rw[xai, <-hl];exact hz
  have hcap:¬ its.toArray.size * k.toNat > (2 ^ 63 - 1) / 8:=by
    have:(sizeLine:Nat)<=(2 ^ 63 - 1) / 8:=by decide
    lia
  have hfit:¬ (!Builtin.List.listFitsIndex k)=true:=by
    rw[fitsIndex_both h1 h2];exact xay
  have hlong:¬ Builtin.List.listTooLong (its.toArray.size * k.toNat)=true:=by
    rw[zb2 hlen];exact xay
  have hnew:List.foldl (fun x1 x2=>x1 ++ x2) #[] (List.replicate (if its.toArray.isEmpty=true then 0 else k.toNat) its.toArray)=(List.replicate k.toNat its).flatten.toArray:=by
    have f0:∀m:Nat,List.foldl (fun x1 x2=>x1 ++ x2) #[] (List.replicate m its.toArray)=(List.replicate m its).flatten.toArray:=fun m=>by
      have:=foldl_rep its m [];rw[xbe]at this;exact this
    rw[f0]
    cases its with
    |nil=>simp
    |cons a r'=>rw[xae (by simp)]
  refine wpAny_binaryOp_repeat_ref (T:="list") (U:="int") (by decide) ⟨_,e,rfl⟩ (fun s'=>typeIs_int s' k t) noFill_list_mul F.fills_int_mul F.slot_int_rmul repeat_list F.slot_int_index.lookup
    (xc4 F.slot_int_rmul (typeIs_int s k t) F.entry_int_rmul (F.args_int_rmul_2 _ _) (int___rmul___int_list k t l its.toArray n)
      ⟨e,rfl,⟨_,e,rfl⟩,xc4 F.slot_list_mul ⟨_,e,rfl⟩ F.entry_list_mul (F.args_list_mul_2 _ _) (AutoListH.list___mul___list_int_3 l its.toArray n k t hfit hcap hlong) ⟨e,?_⟩⟩)
  rw[hnew];exact⟨.ref _,_,I.lnew (t':=s.toks) (r.rep k.toNat) (by rw[len_rep,Nat.mul_comm];exact hz),rfl,q _ I.fresh⟩
end
end L2
namespace Att
open PySem PySem.W PySem.Calls PyProof.Rows
def zaH:∀(ns:List Int) (vs:List Value),WellAll P h vs (ns.map WData.int)->IntsAre vs ns:=by
  intro ns
  induction ns with
  |nil=>
    intro vs w;rw[List.map_nil]at w;cases w;exact .nil
  |cons n ns ih=>
    intro vs w;rw[xaP]at w
    cases w with
    |cons a b=>
      cases a;exact .cons _ _ (ih _ b)
def zbq {l:OpenLaw}{n:Nat}(hn:l.most=some n){P:Params}{h:Heap}{args:List WData}{vals:List Value}
    (hpre:l.row.toRowW.claim.pre args=true) (hwl:WellAll P h vals args):
    ∃a vs ns,vals=[Value.ref a]/\args=[WData.list (ns.map WData.int)]/\h.get? a=some {cls:=.type "list",data:=.seq vs.toArray}/\IntsAre vs ns/\ns.length<=n:=by
  have hsh:WShape.hasAll [] args [.list .int]=true:=(pre_splitW hpre).1;have hc:l.pre.holds [] {args:=args}=true:=(pre_splitW hpre).2;obtain⟨d,r,rfl,h1,h2⟩:=hasAllW_cons hsh;obtain rfl:=hasAllW_nil h2;obtain⟨xs,rfl,h3⟩:=hasW_list h1;obtain⟨ns,rfl⟩:=items_int h3;have hlen:ns.length<=n:=by
    unfold OpenLaw.pre at hc;have h4:(WTm.not (.lt (.lit (.int (n:Int))) (.len (.arg 0)))).holds [] {args:=[.list (ns.map .int)]}=true:=by
      have h4:=(holds_andW hc).1;rw[hn]at h4;exact h4
    have h5:=condW_of h4 (w_not (w_lt w_lit (w_len_list (w_arg rfl))));rw[xan]at h5;refine xbK fun q=>?_;have q':(n:Int)<((ns.length:Nat):Int):=by lia
    first
      |(rw[xaX q']at h5;exact absurd h5 (by decide))
      |(simp at h5;lia)
  cases hwl with
  |cons w1 w2=>
    cases w2
    cases w1 with
    |list ho hall=>exact⟨_,_,ns,rfl,rfl,ho,zaH ns _ hall,hlen⟩
theorem zbR (l:OpenLaw)(args:List WData):l.row.toRowW.claim.post args (.bool true) args=true:=
 postW_of (r:=l.row.toRowW) (X:=(true==true))
  (show WShape.has [] (.bool true) .bool=true by first |rfl |decide |simp[WShape.has,WShape.arms,WShape.armsAll])
  (show(WTm.eq .res (.lit (.bool true))).value [] {args:=args,res:=some (.bool true),after:=args}=some (.bool (true==true)) from w_eq_bool (w_res rfl) w_lit) rfl
def Yv {l:OpenLaw}{n:Nat}{q:Program}{loose:List Str}{XP:(Mgx)->Heap->Prop}{YP:World->Heap->Prop}{d:DefRec}
  (hn:l.most=some n) (hdf:d.params.defaults=[])
  (call:∀(w:World) (s₀ s₁:Shared) (mg mb:Mgx) (fa:Addr) (o:Obj) (pm cd doc:Value) (a:Addr) (vs:List Value) (ns:List Int),
   Ground q loose [] XP w s₀ mg mb s₁.heap->YP w s₁.heap->
   s₁.heap.get? fa=some o->o.data=.func (docDef d.name d.params d.body d.scope pm cd doc)->s₁.heap.CodeRec cd d.name->mg d.name=some (.ref fa)->
   s₁.heap.get? a=some {cls:=.type "list",data:=.seq vs.toArray}->IntsAre vs ns->ns.length<=n->s₁.gens= #[]->
   codeAny (model l.prog w) callerA (.call (.ref fa) ⟨[.ref a],[]⟩) (fun r s'=>r=.ok (.ret (.bool true))/\OldK s₁.heap s'.heap/\s'.os=s₁.os/\AllBare s'.gens) s₁):
  WalkO q loose XP YP l.row.toRowW d [] (fun f vs=>PySem.call f vs):=by
 intro w s₀ s₁ mg mb G Y fa o pm cd doc dV kV ho hd hcd hD hmg hg args vals as hpre hlay hrd hwl hlo;obtain rfl:dV=.none:=Dflts.none hD hdf;obtain rfl:kV=.none:=Dflts.noKw hD;obtain⟨a,vs,ns,rfl,rfl,hobj,hints,hlen⟩:=zbq hn hpre hwl;refine enter_call (xcf (call w s₀ s₁ mg mb fa o pm cd doc a vs ns G Y ho (fd_plain hd) hcd hmg hobj hints hlen hg) fun r s' hq=>?_);obtain⟨rfl,h2,h3,h4⟩:=hq;exact⟨.inl ⟨.bool true,.bool true,[],rfl,fun _=>rfl,.bool true,zbR l _,fun _=>⟨List.Pairwise.nil,fun _ hm=>(nomatch hm)⟩⟩,h2,h3,h4⟩
end Att
namespace L2
open PySem PySem.Spec PyProof.Rows
theorem XS:∀{vs:List Value} {ns:List Int},IntsAre vs ns->Vals (ns.map V.int) vs
 |_,_,.nil=>.nil
 |_,_,.cons n t h=>.cons ⟨t,rfl⟩ (XS h)
noncomputable def dh (s:Stmt):Arguments:=match s with
 |.FunctionDef _ a _ _ _ _ _ _ _ _=>a
 |_=>{posonlyargs:=[],args:=[],vararg:=none,kwonlyargs:=[],kw_defaults:=[],kwarg:=none,defaults:=[]}
noncomputable def cB (s:Stmt):List Stmt:=match s with
 |.FunctionDef _ _ b _ _ _ _ _ _ _=>b
 |_=>[]
noncomputable def aL (s:Stmt):Scope:=match s with
 |.FunctionDef _ _ _ _ _ _ sc _ _ _=>sc
 |_=>{kind:=.function,names:=[],isGenerator:=false,isCoroutine:=false}
abbrev fP:fQ:=fun _ _ _ _ _ _=>False
abbrev E0:XK:=fun _ _ _=>False
def BL:Passes fP X E0:=fun _ _ _ _ _ _ _ h=>h.elim
structure Fun (K:Fgx)(x qual:Str)(st:Stmt)(f:Addr)(fd:FuncData):Prop where
 ex:∃(oc:Value) (od:Option Addr) (kV doc pm:Value) (an:Option Addr) (cdv ct:Value) (osl:Array (Option Value)),
  fd=PySem.W.fnOf x qual (dh st) (cB st) (aL st) .none kV doc pm an cdv ct/\K.lookup f=some ⟨oc,od,.func fd,osl⟩/\PySem.W.codeIn K cdv qual=true
 kp:PySem.W.keepIn K (.ref f)=true
section
variable {P:Program}{w:World}{K:Fgx}{mg:Mgx}{base:Heap}
def Fun.binds {x qual:Str}{st:Stmt}{f:Addr}{fd:FuncData}{ps:List Str}(F:Fun K x qual st f fd)
  (h:∀(kV doc pm:Value) (an:Option Addr) (cdv ct:Value) (us:List Value),us.length=ps.length->bindArgs (PySem.W.fnOf x qual (dh st) (cB st) (aL st) .none kV doc pm an cdv ct) ⟨us,[]⟩=pure (ps.zip us)):Binds K fd ps []:=by
 obtain⟨oc,od,kV,doc,pm,an,cdv,ct,osl,rfl,lk,hcd⟩:=F.ex;exact .all (h kV doc pm an cdv ct)
def Em {x qual:Str}{st:Stmt}{f:Addr}{oc:Value}{od an:Option Addr}{osl:Array (Option Value)}{kV doc pm cdv ct:Value}(l:K.lookup f=some ⟨oc,od,.func (PySem.W.fnOf x qual (dh st) (cB st) (aL st) .none kV doc pm an cdv ct),osl⟩)
  (c:PySem.W.codeIn K cdv qual=true) (k:PySem.W.keepIn K (.ref f)=true):Fun K x qual st f (PySem.W.fnOf x qual (dh st) (cB st) (aL st) .none kV doc pm an cdv ct):=⟨⟨oc,od,kV,doc,pm,an,cdv,ct,osl,rfl,l,c⟩,k⟩
end
def Same (H H':Hp):Prop:=∀b o,H b=some o->H' b=some o
def Same.refl (H:Hp):Same H H:=fun _ _ h=>h
def Same.trans (a:Same H H1)(b:Same H1 H2):Same H H2:=fun c o h=>b c o (a c o h)
def Same.free (e:Same H H')(h:H' l=Option.none):H l=Option.none:=by
  cases q:H l with
  |none=>rfl
  |some o=>
    rw[e l o q]at h;cases h
end L2
set_option maxHeartbeats 0
namespace L2
open PySem PySem.Spec PyProof.Rows
section
variable {κ:Type}[DecidableEq κ]
noncomputable def Dl (kvs:List (κ×V)) (k:κ):Option V:=(kvs.find? fun kv=>decide (kv.1=k)).map (·.2)
noncomputable def putK (kvs:List (κ×V)) (k:κ) (v:V):List (κ×V):=
 if (kvs.any fun kv=>decide (kv.1=k))=true then kvs.map (fun kv=>if kv.1=k then(kv.1,v) else kv) else kvs ++ [(k,v)]
end
def Tp (r:RelV (kV k) u):(pA P w).is k u=true:=by
 cases k with
 |inl i=>obtain⟨t,e⟩:=(show ∃t,u=Value.int i t from r);subst e;exact zaW P w i t
 |inr x=>obtain⟨t,e⟩:=(show ∃t,u=Value.str x t from r);subst e;exact Kq P w x t
abbrev KT (H:Hp):List (List Key×V)->List (List Key×Addr×Value)->Prop:=Paired fun p q=>p.1=q.1/\H q.2.1=some (.tup (p.1.map kV))/\RelV p.2 q.2.2
def Yc (H:Hp)(a:Addr)(y:V)(r:Option V):Prop:=
 (∃kvs k,Rd H a (.dK kvs)/\y=kV k/\r=Dl kvs k)\/∃kvs k b,Rd H a (.dT kvs)/\y=.ref b/\H b=some (.tup (k.map kV))/\r=Dl kvs k
def Yd (H:Hp)(a:Addr)(y v:V)(H':Hp):Prop:=
 (∃kvs k,H a=some (.dK kvs)/\y=kV k/\kvs.length<sizeLine/\H'=upd H a (.dK (putK kvs k v)))\/
 ∃kvs k b,H a=some (.dT kvs)/\y=.ref b/\H b=some (.tup (k.map kV))/\kvs.length<sizeLine/\H'=upd H a (.dT (putK kvs k v))
def zL (i:Expr):Prop:=∀ov iv,subscripted i false ov iv=operate [ov,iv] (getItem ov iv)
def zds {prog:Program}{w:World}{A:Around}{E:Value->Shared->Prop}{s:Shared}{env:Env}{value slice:Expr}{pos:Pos}{T id:String}{Q:Value->Shared->Prop}
  (hl:typeLookup (.type T) "__getitem__"=pure (some (.builtin id))) (hs:zL slice)
  (h:wpAny (model prog w) A (eval value env) (fun o s₁=>wpAny (model prog w) A (eval slice env) (fun i s₂=>s₂.TypeIs o T/\wpAny (model prog w) A (getItem o i) Q E s₂) E s₁) E s):
  wpAny (model prog w) A (eval (.Subscript value slice pos) env) Q E s:=by
 refine Subscript_ (xaU h (fun o s₁ h₁=>xaU h₁ (fun i s₂ h₂=>?_) fun _ _ x=>x) fun _ _ x=>x);obtain⟨hT,h₂⟩:=h₂;unfold subscriptTail;refine xaa ?_;rw[getitemInPython_of_ne hT.not_modules];refine xaa (xc5 hT hl ?_);have fin:wpAny (model prog w) A (subscripted slice false o i) (fun r s₃=>wpAny (model prog w) A (letTemporaryGo value o r >>=fun _=>pure r) Q E s₃) E s₂:=by
  rw[hs o i];exact wpAny_operating (xaU h₂ (fun r s₃ h₃=>xaa (wpAny_letTemporaryGo (xak h₃))) fun _ _ x=>x)
 first
  |exact xak (xaa fin)
  |exact xaa (xak (xaa fin))
  |exact xaa fin
noncomputable def zhc (kvs more:List (Key×V)):List (Key×V):=more.foldl (fun acc kv=>putK acc kv.1 kv.2) kvs
structure M1 (X:Cx)(o:Expr)(m:Str)(apos:Pos)(e:Expr)(cpos:Pos):Prop where
 base:attributeBase o m X.env (eval o X.env)=eval o X.env
 few : ((backTo cpos (starEach [e] X.env)).all (fun x=> !x.1) && (backToKw cpos (keywordEach [] X.env)).all (fun x=>x.1.isSome)
  && decide (([e]:List Expr).length + ([]:List Keyword).length + (if ([]:List Keyword).isEmpty then 0 else 1)<30))=true
 line:(apos.endLine==cpos.line)=true
 trees:backTo cpos (starEach [e] X.env)=[(false,eval e X.env)]
structure M2 (X:Cx)(o:Expr)(m:Str)(apos:Pos)(e f:Expr)(cpos:Pos):Prop where
 base:attributeBase o m X.env (eval o X.env)=eval o X.env
 few : ((backTo cpos (starEach [e,f] X.env)).all (fun x=> !x.1) && (backToKw cpos (keywordEach [] X.env)).all (fun x=>x.1.isSome)
  && decide (([e,f]:List Expr).length + ([]:List Keyword).length + (if ([]:List Keyword).isEmpty then 0 else 1)<30))=true
 line:(apos.endLine==cpos.line)=true
 trees:backTo cpos (starEach [e,f] X.env)=[(false,eval e X.env),(false,eval f X.env)]
end L2
namespace Att
open PySem PySem.W PySem.Calls PyProof.Rows
end Att
namespace L2
open PySem PySem.Spec PyProof.Rows
noncomputable def Its (z:Str):It:=⟨fun i _=>i<z.cps.size,fun i H x H'=>H'=H/\∃c,z.cps[i]? =some c/\x=.str ⟨#[c]⟩,fun i _=>i=z.cps.size⟩
def zeD (hQ:Q () s):wpAny M A (letOwnedTupleGo tg (.ref it) (.str x t)) Q E s:=by
 unfold letOwnedTupleGo;cases tg<;>exact xak hQ
def XC {P:Program}{w:World}{K:Fgx}{tg:Expr}{ty:String}{z:Str}{t:Tok}{it:Addr}
  (W:∀A:Around,A.handled=none->Walks P w A it [it] [it] z.cps.size (SignAt z) (fun i h=>h.IsStrIter it ty z t i))
  (hself:∀(A:Around) (i:Nat) (s:Shared) (Q:Value->Shared->Prop) (E:Value->Shared->Prop),s.heap.IsStrIter it ty z t i->Q (.ref it) s->wpAny (model P w) A (pyIter (.ref it)) Q E s):
  Turn P w K tg (Its z) [it] it (fun i h=>h.IsStrIter it ty z t i) where
 mem:=by simp
 obj:=fun i h st b hb=>by
  have e:b=it:=by simpa using hb
  o_args
 keep:=fun i h h' st k=>by
  obtain⟨o,e,c,d⟩:=st;exact⟨o,k it (by simp) o e,c,d⟩
 item:=by
  w_why;k_obj1;refine(W X.A (I.ok.hd hc)).item i s _ _ hg st fun v h' tk hv st' kk=>?_;obtain⟨c,u,hcc,rfl⟩:=hv;have I1:Inv X pins σ H {s with heap:=h',toks:=tk}:=I.turned (fun b o hb e=>kk b o (by simpa using hb) e) f0 f1 f3 f4 f5;exact⟨_,rfl,zeD ⟨.str ⟨#[c]⟩,H,I1,⟨_,rfl⟩,⟨rfl,c,hcc,rfl⟩,st',fun b hb=>(hf b hb).1⟩⟩
 done:=by
  w_why;have hg':i=z.cps.size:=hg;subst hg';k_obj1;exact(W X.A (I.ok.hd hc)).done s _ _ st fun h' tk kk=>⟨rfl,I.turned (fun b o hb e=>kk b o (by simpa using hb) e) f0 f1 f3 f4 f5⟩
 self:=fun A i s Q E st q=>hself A i s Q E st q
section
variable {X:Cx}{tg:Expr}
noncomputable def JH (tl:TE):TI:=fun σ H R=>tl σ H fun x H1=>∃z,x=.str z/\R (Its z) H1
def zfb {l:Expr}{tl:TE}(hl:PE X l tl):PI X tg l (JH tl):=by
 intro pins s σ H R I h;refine aU (hl pins s σ H _ I h) fun v s1 ⟨x,H1,I1,r1,q1⟩=>?_;obtain⟨z,e,q⟩:=q1;subst e;obtain⟨t,e⟩:=r1;subst e;have fp:∀b∈ [s1.heap.objs.size],d9 X pins H1 b:=fun b hb=>by
  have e:b=s1.heap.objs.size:=by simpa using hb
  subst e;exact I1.fpOk (xaf _) (I1.hok.fresh (xaf _))
 cases ha:z.cps.all (· <128)
 ·refine wpAny_pyIter_wide ha ?_;exact ⟨s1.heap.objs.size,[s1.heap.objs.size],_,_,H1,rfl,I1.kept (t':=s1.toks) fun b o e=>xac _ e,
   XC (ty:="str_iterator") (z:=z) (t:=t) (fun A hA=>Walks.strWide hA _ z t) (fun _ _ _ _ _ st q=>wpAny_pyIter_striter_wide st q),⟨_,xax _ rfl,rfl,rfl⟩,fp,q⟩
 ·refine wpAny_pyIter_ascii ha ?_;exact ⟨s1.heap.objs.size,[s1.heap.objs.size],_,_,H1,rfl,I1.kept (t':=s1.toks) fun b o e=>xac _ e,
   XC (ty:="str_ascii_iterator") (z:=z) (t:=t) (fun A hA=>Walks.strAscii hA _ z t) (fun _ _ _ _ _ st q=>wpAny_pyIter_striter_ascii st q),⟨_,xax _ rfl,rfl,rfl⟩,fp,q⟩
end
section
variable {X:Cx}
def Ly:V->Option Int->Option Int->Hp->VK->Prop:=fun x lo hi H Q=>∃z,x=.str z/\z.length<=sizeLine/\Q (.str (Txt.slice z lo hi)) H
def zfA:tK X Ly:=by
 intro pins s σ H x v vl vu lo hi sl Q I rx hs pl pu h;obtain⟨z,rfl,hz,q⟩:=h;kfm_eq;refine⟨"str",_,F.slot_str_getitem.lookup,typeIs_str _ _ _,?_⟩;obtain⟨o,ho,hc,hd⟩:=hs;cases pl<;>cases pu
 ·exact xcl (l:=none) (u:=none) (st:=none) ⟨o,ho,hc,hd⟩ rfl (xc6 ⟨xar (xdJ z none none) hz,fun t' k=>⟨.str _,H,I.tok _,⟨_,rfl⟩,q⟩⟩)
 ·rename_i j uj;exact xcl (l:=none) (u:=some (j,uj)) (st:=none) ⟨o,ho,hc,hd⟩ rfl (xc6 ⟨xar (xdJ z none (some j)) hz,fun t' k=>⟨.str _,H,I.tok _,⟨_,rfl⟩,q⟩⟩)
 ·rename_i i ui;exact xcl (l:=some (i,ui)) (u:=none) (st:=none) ⟨o,ho,hc,hd⟩ rfl (xc6 ⟨xar (xdJ z (some i) none) hz,fun t' k=>⟨.str _,H,I.tok _,⟨_,rfl⟩,q⟩⟩)
 ·rename_i i ui j uj;exact xcl (l:=some (i,ui)) (u:=some (j,uj)) (st:=none) ⟨o,ho,hc,hd⟩ rfl (xc6 ⟨xar (xdJ z (some i) (some j)) hz,fun t' k=>⟨.str _,H,I.tok _,⟨_,rfl⟩,q⟩⟩)
def zdR:bV X (compareOp .Is) (fun x y H Q=>∃b,y=.bl b/\Q (.bl (decide (x=.bl b))) H):=by
 l_out;obtain⟨b,rfl,q⟩:=h;cases ry
 cases x with
 |bl c=>cases rx;exact xak (bG I q (by cases b<;>cases c<;>rfl))
 |non=>cases rx;exact xak (bG I q (by simp))
 |int _=>obtain⟨t,rfl⟩:=rx;exact xak (bG I q (by simp))
 |str _=>obtain⟨t,rfl⟩:=rx;exact xak (bG I q (by simp))
 |byt _=>obtain⟨t,rfl⟩:=rx;exact xak (bG I q (by simp))
 |flt _=>obtain⟨t,rfl⟩:=rx;exact xak (bG I q (by simp))
 |ref _=>cases rx;exact xak (bG I q (by simp))
 |ty _=>cases rx;exact xak (bG I q (by simp))
def zbt:bV X (compareOp .IsNot) (fun x y H Q=>∃b,y=.bl b/\Q (.bl (!decide (x=.bl b))) H):=by
 l_out;obtain⟨b,rfl,q⟩:=h;cases ry
 cases x with
 |bl c=>cases rx;exact xak (bG I q (by cases b<;>cases c<;>rfl))
 |non=>cases rx;exact xak (bG I q (by simp))
 |int _=>obtain⟨t,rfl⟩:=rx;exact xak (bG I q (by simp))
 |str _=>obtain⟨t,rfl⟩:=rx;exact xak (bG I q (by simp))
 |byt _=>obtain⟨t,rfl⟩:=rx;exact xak (bG I q (by simp))
 |flt _=>obtain⟨t,rfl⟩:=rx;exact xak (bG I q (by simp))
 |ref _=>cases rx;exact xak (bG I q (by simp))
 |ty _=>cases rx;exact xak (bG I q (by simp))
def range_any (bs:List Bool):(List.range bs.length).any (fun i=>(bs[i]?).getD false)=bs.any id:=by
 rw[xbD,List.any_eq_true,List.any_eq_true]
 constructor
 ·rintro⟨i,hi,h⟩;have hi':=xcd.mp hi;rw[xab hi']at h;exact⟨_,xaY hi',h⟩
 ·rintro⟨b,hb,h⟩;obtain⟨i,hi,e⟩:=List.mem_iff_getElem.mp hb;refine⟨i,xcd.mpr hi,?_⟩;rw[xab hi,e];exact h
def YB {bs:List Bool}{its:List Value}(r:Vals (bs.map V.bl) its){i:Nat}{v:Value}(h:its.toArray[i]? =some v):v=.bool ((bs[i]?).getD false):=by
 have h':its[i]? =some v:=by simpa using h
 have hl:=r.length;rw[xan]at hl;have hi:i<bs.length:=by
  have:=(xah.mp h').1;lia
 have hx:(bs.map V.bl)[i]? =some (V.bl bs[i]):=by rw[xam,xab hi];rfl
 obtain⟨u,hu,ru⟩:=r.get hx;rw[h']at hu;cases hu;rw[xab hi];exact ru
def YK (hc:X.calm=true):dB X (.builtin "any") (fun xs H Q=>∃(p:Addr) (bs:List Bool),xs=[.ref p]/\b_ X.K H p (bs.map V.bl)/\Q (.bl (bs.any id)) H):=by
 kj_one;obtain⟨p,bs,rfl,hq,q⟩:=h;obtain⟨u,rfl,ru⟩:=vals1 r;cases ru;obtain⟨its,rv,pl,hz⟩:=I.list hq;have hp:p<s.heap.objs.size:=by obtain⟨o,ho,_⟩:=pl.isList;exact xaq ho
 have hn:its.toArray.size=bs.length:=by rw[xai, <-rv.length,xan]
 refine call_any_walk (wpAny_pyIter_list pl.isList ⟨s.heap.objs.size,_,_,its.toArray.size,_,_,fun i=>(bs[i]?).getD false,rfl,Walks.list (A:=X.A.in1) (show X.A.in1.handled=none from I.ok.hd hc) _ p (xaE hp) its.toArray,
  ⟨⟨_,xax _ rfl,rfl,rfl⟩,pl.isList.at fun o e=>xac _ e⟩,fun i v s' Q' E' hv hQ=>?_,fun h' tk kk=>?_⟩)
 ·rw[YB rv hv];exact xca hQ
 ·rw[hn,range_any];refine⟨.bl _,H,I.kept fun b o e=>kk b o ?_ (xac _ e),rfl,q⟩;intro z;have z':b=s.heap.objs.size:=by simpa using z
  exact xbh _ (z' ▸ xaq e)
end
section
variable {X:Cx}{pins:Pnx}{σ:St}{H:Hp}{s:Shared}
noncomputable def Bq (base h:Heap) (L:Addr):Pnx:=(List.range h.objs.size).filterMap fun b=>if b=L then none else if (base.get? b).isSome then none else(h.get? b).map fun o=>(b,o)
def Ue (hL:b≠L)(hb:base.get? b=none)(e:h.get? b=some o):(b,o)∈Bq base h L:=by
 unfold Bq;rw[xb2];refine⟨b,xcd.mpr (xaq e),?_⟩;rw[xae hL,hb,e]
 simp
def zaJ (hp:p∈Bq base h L):h.get? p.1=some p.2/\p.1≠L/\base.get? p.1=none:=by
  unfold Bq at hp;rw[xb2]at hp;obtain⟨b,_,e⟩:=hp
  by_cases hL:b=L
  · rw[xad hL]at e;cases e
  · rw[xae hL]at e
    cases hb:base.get? b with
    |some u=>rw[hb]at e;simp at e
    |none=>
      rw[hb]at e
      cases hh:h.get? b with
      |none=>rw[hh]at e;simp at e
      |some u=>
        rw[hh]at e
        simp at e
        subst e;exact⟨hh,hL,hb⟩
def Inv.but (I:Inv X pins σ H s)(k:∀b o,b≠X.env.locals->s.heap.get? b=some o->h'.get? b=some o)(ns:∀m,s.heap.Ns X.env.locals m->h'.Ns X.env.locals m):Inv X pins σ H {s with heap:=h',toks:=tk}:=by
 have hok : cJ X.prog X.w H h' := fun a o e => (I.hok a o e).stay (fun b u hb q => k b u (fun z=>by
  subst z;have hn:=I.free;rcases hb with hb |hb
  ·rw[<-hb]at e;rw[hn]at e;cases e
  ·rw[hn]at hb;cases hb) q) (fun _ q=>q) fun _ _ q=>q
 exact I.step (g' := s.gens) (d' := s.drawn) (ch := []) (fun _ z => nomatch z) (fun b o hL _ _ e _ => k b o hL e) (fun b o hL _ _ e _ => ⟨o.slots, k b o hL e⟩) (fun b o _ _ n => n) (fun b o _ e=>by
  by_cases hL:b=X.env.locals
  ·subst hL;obtain⟨m,hn,_⟩:=I.loc;obtain⟨o',_,_,e',_⟩:=ns m hn;exact⟨o',e'⟩
  ·exact⟨o,k b o hL e⟩) (fun _ _ q=>q) (fun _ _ _ q=>q) (fun _ ps q=>⟨#[],by simpa using q⟩) ns hok I.bare
def Inv.via (I:Inv X pins σ H s):∃m news,Fr X.base X.env.locals s.heap m/\News X.base X.env.locals s.heap news/\
    (∀b o,b≠X.env.locals->X.base.get? b=none->s.heap.get? b=some o->(b,o)∈news)/\
    ∀(h':Heap) (tk:Nat),Fr X.base X.env.locals h' m->News X.base X.env.locals h' news->(∀b o,b≠X.env.locals->s.heap.get? b=some o->h'.get? b=some o)/\Inv X pins σ H {s with heap:=h',toks:=tk}:=by
  obtain⟨m,F⟩:=I.fr;refine⟨m,Bq X.base s.heap X.env.locals,F,fun p hp=>zaJ hp,fun b o hL hb e=>Ue hL hb e,fun h' tk F' N'=>?_⟩;have k:∀b o,b≠X.env.locals->s.heap.get? b=some o->h'.get? b=some o:=fun b o hL e=>by
    cases hb:X.base.get? b with
    |some u=>
      have e1:=I.bk b u hb;rw[e]at e1;cases e1;exact F'.keep b o hb
    |none=>exact(N' (b,o) (Ue hL hb e)).1
  refine⟨k,I.but k fun m' hm=>?_⟩;have:m'=m:=by
    obtain⟨o,es,ep,e,d,_,f⟩:=hm;obtain⟨o',es',ep',e',d',_,f'⟩:=F.ns;rw[e]at e';cases e';rw[d]at d';cases d';funext x;rw[<-f x, <-f' x]
  subst this;exact F'.ns
def Sx:∀{us:List Value},Vals (ns.map V.int) us->IntsAre us ns:=by
  induction ns with
  |nil=>intro us h;cases us with
    |nil=>exact .nil
    |cons u us=>cases h
  |cons n ns ih=>intro us h;cases us with
    |nil=>cases h
    |cons u us=>
      cases h with
      |cons a b=>
        obtain⟨t,rfl⟩:=a;exact .cons _ _ (ih b)
def Y4:X.calm=true->dB X (.builtin "sum") (fun xs H Q=>∃(p:Addr) (is:List Int),xs=[.ref p]/\b_ X.K H p (is.map V.int)/\Q (.int is.sum) H):=by
 intro hc pins s σ H xs us Q I r h;obtain⟨p,is,rfl,hq,q⟩:=h;o_norm;obtain⟨its,rv,pl,hz⟩:=I.list hq;obtain⟨m,news,F,N,_,back⟩:=I.via;refine LSm.sum_ints F N (I.ok.hd hc) pl.isList (Sx rv) fun h' tk t' F' N'=>?_;exact⟨.int is.sum,H,(back h' tk F' N').2,⟨t',rfl⟩,q⟩
end
section
variable {X:Cx}{pins:Pnx}{σ:St}{H:Hp}{s:Shared}
def Ve:V->List V->Hp->VK->Prop:=fun x vs H Q=>∃z y,x=.str z/\vs=[.str y]/\Q (.bl (Txt.startswith z y)) H
def zbT:zK X "str.startswith" Ve:=by
 intro pins s σ H x vs v us Q I rx rv h;obtain⟨z,y,rfl,rfl,q⟩:=h;kfm_eq;obtain⟨u,rfl,t',rfl⟩:=rv.one;exact SC.startswith ⟨.bl _,H,I,rfl,q⟩
def Vd:V->List V->Hp->VK->Prop:=fun x vs H Q=>∃z y,x=.str z/\vs=[.str y]/\z.length<=sizeLine/\Q (.str (Txt.lstripChars z y)) H
def zbz:zK X "str.lstrip" Vd:=by
 intro pins s σ H x vs v us Q I rx rv h;obtain⟨z,y,rfl,rfl,hz,q⟩:=h;kfm_eq;obtain⟨u,rfl,t',rfl⟩:=rv.one;exact SC.lstripChars (fun t' k=>⟨.str _,H,I.tok _,⟨_,rfl⟩,q⟩) hz
def IV:dB X (.type "int") (fun xs H Q=>∃z n,xs=[.str z]/\intText? z=some n/\z.length<=640/\Q (.int n) H):=by
 kj_one;obtain⟨z,n,rfl,h1,h2,q⟩:=h;obtain⟨u,rfl,t,rfl⟩:=vals1 r;exact W.KIN.call_text h1 h2 ⟨.int n,H,I.tok _,⟨_,rfl⟩,q⟩
end
noncomputable def textV:V->Option Str
 |.str z=>if z.length<=sizeLine then some z else none
 |.int i=>if i.natAbs.log2<1920 then some (toString i) else none
 |_=>none
abbrev TJ:=Str->St->Hp->VK->Prop
def PJ (X:Cx)(vs:List Expr)(t:TJ):Prop:=∀(pins:Pnx) (s:Shared) (σ:St) (H:Hp) (out:Str) (Q:VK),Inv X pins σ H s->t out σ H Q->wpAny (model X.prog X.w) X.A (joinParts out (evalEach vs X.env)) (EP X pins σ Q) X.xe s
def JZ:TJ:=fun out _ H Q=>out.length<=sizeLine/\Q (.str out) H
noncomputable def zfJ (te:TE) (tj:TJ):TJ:=fun out σ H Q=>te σ H fun v H1=>∃y,textV v=some y/\(out ++ y).length<=sizeLine/\tj (out ++ y) σ H1 Q
section
variable {X:Cx}{vs:List Expr}{te:TE}{tj:TJ}
def zeR:PJ X [] JZ:=fun pins s σ H out Q I h=>joinParts_nil ⟨.str out,H,I.tok _,⟨_,rfl⟩,h.2⟩ h.1
def zfp (hv:PJ X vs tj)(hz:z.length<=sizeLine):PJ X (.Constant (.str z) k pos::vs) (fun out σ H Q=>(out ++ z).length<=sizeLine/\tj (out ++ z) σ H Q):=fun pins s σ H out Q I h=>by
 refine joinParts_cons (Calls.Constant_str ?_);exact⟨h.1,hv pins _ σ H _ Q (I.tok _) h.2⟩
def zeP (he:PE X e te)(hv:PJ X vs tj):PJ X (.FormattedValue e (-1) none pos::vs) (zfJ te tj):=fun pins s σ H out Q I h=>by
 refine joinParts_cons (FormattedValue_plain (aU (he pins s σ H _ I h) fun u s1 ⟨x,H1,I1,r1,y,ey,hl,q⟩=>?_));cases x<;>simp only[textV,reduceCtorEq]at ey
 case int i=>
  split at ey
  ·rename_i hd;cases ey;obtain⟨t,rfl⟩:=r1;exact formatField_int_small hd ⟨hl,hv pins _ σ H1 _ Q (I1.tok _) q⟩
  ·cases ey
 case str z=>
  split at ey
  ·rename_i hz;cases ey;obtain⟨t,rfl⟩:=r1;exact formatField_str (fun t' tk=>⟨hl,hv pins _ σ H1 _ Q (I1.tok _) q⟩) hz
  ·cases ey
def zfj (h:PJ X (v::w::vs) tj):PE X (.JoinedStr (v::w::vs) pos) (fun σ H Q=>tj Str.empty σ H Q):=fun pins s σ H Q I q=>JoinedStr_many (h pins s σ H _ Q I q)
end
theorem RW (g:α->β->β):∀(l:List α) (b:β),(∀x∈l,∀b,f x b=pure (.yield (g x b)))->(forIn l b f:Sem β)=pure (l.foldl (fun b x=>g x b) b)
  | [],b,_=>rfl
  |x::l,b,h=>by
    rw[List.forIn_cons,h x xaT b];simp only[pure_bind,xc3];exact RW g l (g x b) fun y hy=>h y (xat _ hy)
noncomputable def nR (cells:List (Str×Addr)) (cs:List (Str×Addr)) (x:Str×NameKind):List (Str×Addr):=if x.2=.free then(x.1,(cells.lookup x.1).getD 0)::cs else cs
noncomputable def dM (cells:List (Str×Addr)) (names:List (Str×NameKind)):List (Str×Addr):=names.foldl (nR cells) []
theorem QS (h:∀y∈scope.names,y.2=.free->∃c,env.cells.lookup y.1=some c):closureFor scope env=pure (dM env.cells scope.names):=by
 simp only [closureFor];rw [RW (fun x cs => nR env.cells cs x) scope.names [] (fun x hx c=>by
  obtain⟨n,kind⟩:=x
  by_cases hk:kind=.free
  ·obtain⟨a,ha⟩:=h _ hx hk;subst hk;have ha':env.cells.lookup n=some a:=ha
   simp[cellOf,ha',nR]
  ·have hk':(kind==NameKind.free)=false:=by simpa using hk
   simp[hk',hk,nR])]
 rfl
theorem QM:∀(names:List (Str×NameKind)) (acc:List (Str×Addr)),(∀y∈names,y.2=.free->∃c,cells.lookup y.1=some c)->
    (∀x c,acc.lookup x=some c->cells.lookup x=some c)->∀x c,(names.foldl (nR cells) acc).lookup x=some c->cells.lookup x=some c
  | [],_,_,h,x,c,e=>h x c e
  |(n,k)::r,acc,hc,h,x,c,e=>by
    rw[xc3]at e;refine QM r _ (fun y hy=>hc y (xat _ hy)) ?_ x c e;intro y d hd;unfold nR at hd
    by_cases hk:k=.free
    · obtain⟨a,ha⟩:=hc (n,k) xaT hk;have ha':cells.lookup n=some a:=ha;simp only[hk,xbB,ha',xbv,xbY]at hd
      cases hyn:y==n with
      |true=>
        rw[hyn]at hd;have e2:=eq_of_beq hyn;subst e2;exact ha'.trans hd
      |false=>
        rw[hyn]at hd;exact h y d hd
    · simp only[hk,xbX]at hd;exact h y d hd
theorem Ja:∀(names:List (Str×NameKind)) (acc:List (Str×Addr)) (x:Str),((x,NameKind.free)∈names\/∃c,acc.lookup x=some c)->∃c,(names.foldl (nR cells) acc).lookup x=some c
  | [],acc,x,h=>by
    rcases h with h |h
    · exact absurd h (by simp)
    · exact h
  |(n,k)::r,acc,x,h=>by
    rw[xc3];refine Ja r _ x ?_;have keep:(∃c,acc.lookup x=some c)->∃c,(nR cells acc (n,k)).lookup x=some c:=fun⟨c,hc⟩=>by
      unfold nR
      by_cases hk:k=.free
      · simp only[hk,xbB,xbY]
        cases hxn:x==n with
        |true=>exact⟨_,rfl⟩
        |false=>exact⟨c,hc⟩
      · simp only[hk,xbX];exact⟨c,hc⟩
    rcases h with h |h
    · rcases xaO.mp h with h |h
      · cases h;refine .inr ?_;unfold nR;simp only[xbB,xbY,xbL];exact⟨_,rfl⟩
      · exact .inl h
    · exact .inr (keep h)
noncomputable def gb (psc:Scope) (names:List (Str×NameKind)):List (Str×NameKind):=names.map fun(n,k)=>if (k==.free && psc.kind==.function && psc.names.lookup n==some .cell) then(n,.cell) else(n,k)
theorem Cg {psc:Scope}:∀{names:List (Str×NameKind)} {x:Str} {k':NameKind},(gb psc names).lookup x=some k'->(k'=.cell\/k'=.free)->(∀y∈names,y.2≠ .cell)->(x,NameKind.free)∈names
  | [],_,_,h,_,_=>by simp[gb]at h
  |(n,k)::r,x,k',h,hk,hn=>by
    have ih:= @Cg psc r x k';have h':List.lookup x ((if (k==NameKind.free && psc.kind==.function && psc.names.lookup n==some .cell)=true then(n,NameKind.cell) else(n,k))::gb psc r)=some k':=h
    cases hx:x==n with
    |true=>
      have e:=eq_of_beq hx;subst e
      by_cases hc:(k==NameKind.free && psc.kind==.function && psc.names.lookup x==some .cell)=true
      · have hkf:k=.free:=by
          cases k<;>first |rfl |(exfalso;simp at hc)
        rw[hkf];exact xaT
      · rw[xae hc]at h';simp only[xbY,xbL]at h';have e2:k=k':=xaA h';subst e2;rcases hk with hk |hk
        · exact absurd hk (hn (x,k) xaT)
        · rw[hk];exact xaT
    |false=>
      refine xat _ (ih ?_ hk fun y hy=>hn y (xat _ hy))
      by_cases hc:(k==NameKind.free && psc.kind==.function && psc.names.lookup n==some .cell)=true
      · rw[xad hc]at h';simp only[xbY,hx]at h';exact h'
      · rw[xae hc]at h';simp only[xbY,hx]at h';exact h'
noncomputable def eZ (cs:List (Str×Nat)) (σ:St):St:=cs.map fun p=>(σ[p.2]?).join
abbrev cP (X:Cx)(Nc:List Str)(scope:Scope)(cl:List (Str×Addr))(C:Addr)(s₀:Shared)(H₀:Hp)(ex:List Addr)(pn:Pnx):Cx:=
 {X with N:=Nc,s₀:=s₀,H₀:=H₀,env:=compEnvC scope cl C X.env,outer:=X.stack,ex:=ex,fn:=fun _=>false,pn:=pn,xe:=fun _ _=>False}
noncomputable def Ec (N:List Str) (psc:Scope) (xs:List Str) (cs:List (Str×Nat)) (scope:Scope):Bool:=
 scope.kind==.function && xs.all (fun x=>scope.names.lookup x==some .local) && decide ((xs ++ cs.map (·.1)).Nodup) &&
 scope.names.all (fun y=>y.2 !=.cell && (y.2 !=.local || scope.names.lookup y.1==some .local) && (y.2 !=.free || (psc.names.lookup y.1==some .cell || psc.names.lookup y.1==some .free))) &&
 cs.all (fun p=>N[p.2]? ==some p.1 && (psc.names.lookup p.1==some .cell || psc.names.lookup p.1==some .free) && ((gb psc scope.names).lookup p.1==some .cell || (gb psc scope.names).lookup p.1==some .free))
structure CompOkT (N:List Str)(psc:Scope)(xs:List Str)(cs:List (Str×Nat))(scope:Scope):Prop where
 kind:scope.kind=.function
 own:∀x∈xs,scope.names.lookup x=some .local
 nd:(xs ++ cs.map (·.1)).Nodup
 cell:∀y∈scope.names,y.2≠ .cell
 names:∀y∈scope.names,y.2=.local->scope.names.lookup y.1=some .local
 has:∀y∈scope.names,y.2=.free->psc.names.lookup y.1=some .cell\/psc.names.lookup y.1=some .free
 cap:∀p∈cs,N[p.2]? =some p.1/\(psc.names.lookup p.1=some .cell\/psc.names.lookup p.1=some .free)/\((gb psc scope.names).lookup p.1=some .cell\/(gb psc scope.names).lookup p.1=some .free)
def CompOkT.of {N:List Str}{psc:Scope}{xs:List Str}{cs:List (Str×Nat)}{scope:Scope}(h:Ec N psc xs cs scope=true):CompOkT N psc xs cs scope:=by
 unfold Ec at h;simp only[xaD,Bool.or_eq_true,xbw,xbP,xcs,bne_iff_ne,ne_eq]at h;obtain⟨⟨⟨⟨h1,h2⟩,h3⟩,h4⟩,h5⟩:=h;refine⟨h1,h2,h3,fun y hy=>(h4 y hy).1.1,fun y hy e=>?_,fun y hy e=>?_,fun p hp=>⟨(h5 p hp).1.1,(h5 p hp).1.2,(h5 p hp).2⟩⟩
 ·rcases(h4 y hy).1.2 with z |z
  ·exact absurd e z
  ·exact z
 ·rcases(h4 y hy).2 with z |z
  ·exact absurd e z
  ·exact z
abbrev yH (N:List Str)(psc:Scope)(x:Str)(cs:List (Str×Nat))(scope:Scope):Bool:=Ec N psc [x] cs scope
def gH (X:Cx)(ifs:List Expr)(t:TT):Prop:=
 ∀(pins:Pnx) (s:Shared) (σ:St) (H:Hp) (Q:Bool->Hp->Prop),Inv X pins σ H s->t σ H Q->
  wpAny (model X.prog X.w) X.A (forIn ifs true fun c r=>if r=true then do let ok <-isTrue c X.env (eval c X.env);pure (ForInStep.yield ok) else pure (ForInStep.yield r)) (TP X pins σ Q) X.xe s
def O8:TT:=fun _ H Q=>Q true H
def zbC:gH X [] O8:=fun _ _ _ H _ I h=>wpAny_tests_nil ⟨H,I,h⟩
def zb7 (h:PT X c t):gH X [c] t:=fun pins s σ H Q I hw=>wpAny_tests_one (h pins s σ H Q I hw)
def zE (wi:TI)(tq:TT)(te:TE)(cs:List (Str×Nat)):St->Hp->(Addr->Hp->Prop)->Prop:=fun σ H R=>wi σ H fun J H1=>∀D,H1 D=none->
  ∃W:Nat->Nat->List V->Hp->Prop,(∃m,W 0 m [] (upd H1 D (.lst [])))/\∀i m ys H2,W i m ys H2->H2 D=some (.lst ys)/\
    ((J.stop i H2 /\ R D H2) \/ (J.go i H2/\ys.length<sizeLine/\∃N:List V->Hp->Prop,(∀ys' H',N ys' H'->∃m',m'<m/\W (i + 1) m' ys' H')/\∀v H3,J.yld i H2 v H3->tq (some v::eZ cs σ) H3 fun b H4=>
      if b=true then te (some v::eZ cs σ) H4 fun y H5=>H5 D=some (.lst ys)/\N (ys ++ [y]) (upd H5 D (.lst (ys ++ [y]))) else N ys H4))
section
variable {prog:Program}{w:World}{A:Around}{R:Result->Shared->Prop}{s:Shared}
def Za (I:Nat->Shared->Prop)
    (turn : ∀ n s, I n s -> wpAny (model prog w) A (pyNext it) (fun r s₁=>match r with
      |none=>R (.ok .next) s₁
      | some v => wpAny (model prog w) A (letOwnedTupleGo target it v) (fun _ s₁' => wpAny (model prog w) A (assign target env v) (fun _ s₂=>
          wpAny (model prog w) A (forIn ifs true fun c r => if r = true then do let ok <- isTrue c env (eval c env); pure (ForInStep.yield ok) else pure (ForInStep.yield r)) (fun ok s₃=>
            if ok = true then wpAny (model prog w) A (eval elt env) (fun x s₄=>
              wpAny (model prog w) A (call (.builtin "list.append") [acc,x]) (fun _ s₅=>∃m,m<n/\I m s₅) (fun _ _=>False) s₄) (fun _ _=>False) s₃
            else ∃m,m<n/\I m s₃) (fun _ _=>False) s₂) (fun _ _=>False) s₁') (fun _ _=>False) s₁) (fun _ _=>False) s)
    (n:Nat) (h:I n s):
    codeAny (model prog w) A (.compLoop (.ListComp elt [⟨target,iter,ifs,0⟩] scope pos) 0 it acc env) R s:=by
  refine codeAny_loop rfl I (fun n s hI=>?_) n h;show wpAny _ A ((compTurn (.ListComp elt [⟨target,iter,ifs,0⟩] scope pos) 0 it acc env).onRaise (fun x=>do noteFrame x env;theTreesLotGoes x)) _ _ s
  refine wpAny_noted ?_;rw[compTurn_list];refine xaa (xcm (xaa (xaU (turn n s hI) (fun r s₁ h₁=>?_) fun _ _ h'=>h'.elim)))
  cases r with
  |none=>exact xak h₁
  |some v=>
    refine xaa (xaU h₁ (fun _ s₁' h₁'=>?_) fun _ _ h'=>h'.elim);refine xaa (xaU h₁' (fun _ s₂ h₂=>xaa (xaU h₂ (fun ok s₃ h₃=>?_) fun _ _ h'=>h'.elim)) fun _ _ h'=>h'.elim)
    cases ok with
    |false=>exact xak ⟨rfl,h₃⟩
    |true=>
      exact xaa (xaa (xaU h₃ (fun x s₄ h₄=>xaa (xaU h₄ (fun _ s₅ h₅=>xak (xak ⟨rfl,h₅⟩)) fun _ _ h'=>h'.elim)) fun _ _ h'=>h'.elim))
end
def Py (J:It)(tG:TG)(tq:TT)(te:TE)(n:Nat)(cs:List (Str×Nat))(σ:St)(H1:Hp)(R:Addr->Hp->Prop):Prop:=∀D,H1 D=none->
  ∃W:Nat->Nat->List V->Hp->Prop,(∃m,W 0 m [] (upd H1 D (.lst [])))/\∀i m ys H2,W i m ys H2->H2 D=some (.lst ys)/\
    ((J.stop i H2 /\ R D H2) \/ (J.go i H2/\ys.length<sizeLine/\∃N:List V->Hp->Prop,(∀ys' H',N ys' H'->∃m',m'<m/\W (i + 1) m' ys' H')/\∀v H3,J.yld i H2 v H3->∀vl:List (Option V),vl.length=n->
      tG v (vl ++ eZ cs σ) H3 fun σ' H4=>∃vl',vl'.length=n/\σ'=vl' ++ eZ cs σ/\tq σ' H4 fun b H5=>
      if b=true then te σ' H5 fun y H6=>H6 D=some (.lst ys)/\N (ys ++ [y]) (upd H6 D (.lst (ys ++ [y]))) else N ys H5))
def GD (wi:TI)(tG:TG)(tq:TT)(te:TE)(n:Nat)(cs:List (Str×Nat)):St->Hp->(Addr->Hp->Prop)->Prop:=fun σ H R=>wi σ H fun J H1=>Py J tG tq te n cs σ H1 R
section
variable {X:Cx}{elt iter tg:Expr}{ifs:List Expr}{xs:List Str}{scope:Scope}{pos:Pos}{wi:TI}{tG:TG}{tq:TT}{te:TE}{cs:List (Str×Nat)}
def Q5 (hc:X.calm=true)(hi:PI X tg iter wi)
    (hg:∀(cl:List (Str×Addr)) (C:Addr) (s₀:Shared) (H₀:Hp) (ex:List Addr) (pn:Pnx),PG (cP X (xs ++ cs.map (·.1)) scope cl C s₀ H₀ ex pn) tg tG)
    (hq:∀(cl:List (Str×Addr)) (C:Addr) (s₀:Shared) (H₀:Hp) (ex:List Addr) (pn:Pnx),gH (cP X (xs ++ cs.map (·.1)) scope cl C s₀ H₀ ex pn) ifs tq)
    (he:∀(cl:List (Str×Addr)) (C:Addr) (s₀:Shared) (H₀:Hp) (ex:List Addr) (pn:Pnx),PE (cP X (xs ++ cs.map (·.1)) scope cl C s₀ H₀ ex pn) elt te)
    (ok:CompOkT X.N X.env.scope xs cs scope) {pins:Pnx} {s:Shared} {σ:St} {H:Hp} {R:Addr->Hp->Prop} (I:Inv X pins σ H s) (h:GD wi tG tq te xs.length cs σ H R)
    {RR:Value->Addr->Result->Shared->Prop}
    (hRR:∀(D C:Addr) (oC:Obj) (H':Hp) (s':Shared),Inv X (pins ++ [(C,oC)]) σ H' s'->(∀h':Heap,h'.get? C=some oC->∃m,h'.Ns C m)->d9 X pins H' C->R D H'->RR (.ref D) C (.ok .next) s'):
    wpAny (model X.prog X.w) X.A (eval iter X.env) (fun xv s₁ => wpAny (model X.prog X.w) X.A (pyIter xv) (fun itv s₂ => wpAny (model X.prog X.w) X.A (newList []) (fun acc s₃=>
      wpAny (model X.prog X.w) X.A (newFunctionEnv scope X.env.globals (dM X.env.cells scope.names) [] X.env.qual none .none (some X.env)) (fun cenv s₄=>
        codeAny (model X.prog X.w) X.A (.compStart (.ListComp elt [⟨tg,iter,ifs,0⟩] scope pos) 0 itv acc {cenv with scope:=relabel scope X.env}) (RR acc cenv.locals) s₄) X.xe s₃) X.xe s₂) X.xe s₁) X.xe s:=by
  refine aU (hi pins s σ H _ I h) fun v s1 h1=>aU h1 fun itv s2 h2=>?_;obtain⟨it,fp,tn,J,H2,e,I2,T,st2,f2,h2⟩:=h2;subst e;have hhas:∀y∈scope.names,y.2=.free->∃c,X.env.cells.lookup y.1=some c:=fun y hy hk=>I2.ok.has y.1 (ok.has y hy hk);refine xaZ (wpAny_newFunctionEnv ok.cell (by intro y hy;simp at hy) (fun h₁ hns₁ hsb₁=>?_) ok.kind);dsimp only at hns₁ hsb₁ ⊢;generalize hHH:s2.heap.push {cls:=.type "list",dict:=none,data:=.seq ([]:List Value).toArray}=HH at hns₁ hsb₁ ⊢;have hC:HH.objs.size=s2.heap.objs.size + 1:=by rw[<-hHH,xct]
  have hDC:s2.heap.objs.size≠HH.objs.size:=by rw[hC];exact xaE (xbl _)
  have hCle:s2.heap.objs.size<=HH.objs.size:=by rw[hC];exact xb1 _
  have below:∀b,b<s2.heap.objs.size->b≠HH.objs.size:=fun b hb=>by rw[hC];exact xaE (Nat.lt_succ_of_lt hb)
  have old:∀b o,s2.heap.get? b=some o->h₁.get? b=some o:=fun b o e=>hsb₁.extBut b o (below b (xaq e)) (xac _ (hHH ▸ xac _ e));have hacc:h₁.get? s2.heap.objs.size=some {cls:=.type "list",dict:=none,data:=.seq ([]:List Value).toArray}:=hsb₁.extBut _ _ hDC (xac _ (hHH ▸ xax _ rfl));have nD:H2 s2.heap.objs.size=none:=I2.hok.fresh (xaf _);have nC:H2 HH.objs.size=none:=I2.hok.fresh hCle;obtain⟨W,⟨m0,w0⟩,turn⟩:=h2 s2.heap.objs.size nD
  -- the block's context
  have fpC:∀b∈fp,b≠HH.objs.size:=fun b hb=>by
    obtain⟨o,ho,_⟩:=T.obj 0 _ st2 b hb;exact below b (xaq ho)
  have fpD:∀b∈fp,b≠s2.heap.objs.size:=fun b hb=>by
    obtain⟨o,ho,_⟩:=T.obj 0 _ st2 b hb;exact xaE (xaq ho)
  have pinC:∀p∈X.pn ++ pins,p.1≠HH.objs.size:=fun p hp=>below _ (xaq (I2.pin p hp).1);have clIn:∀y c,(dM X.env.cells scope.names).lookup y=some c->X.env.cells.lookup y=some c:=QM scope.names [] hhas (fun y c e=>by cases e);have kindRel:∀y,(relabel scope X.env).names.lookup y=(gb X.env.scope scope.names).lookup y:=fun _=>rfl;have okC:(cP X (xs ++ cs.map (·.1)) scope (dM X.env.cells scope.names) HH.objs.size s2 H2 fp (X.pn ++ pins)).Ok:=
    { mod:=I2.ok.mod
      kind:=ok.kind
      glob:=I2.ok.glob
      blt:=I2.ok.blt
      above:=hCle
      inj:=fun y z c e1 e2=>I2.ok.inj y z c (clIn y c e1) (clIn z c e2)
      has:=fun y hk=>by
        have hm:(y,NameKind.free)∈scope.names:=by
          rcases hk with hk |hk
          · exact Cg (psc:=X.env.scope) (k':=.cell) hk (.inl rfl) ok.cell
          · exact Cg (psc:=X.env.scope) (k':=.free) hk (.inr rfl) ok.cell
        exact Ja scope.names [] y (.inl hm)
      cab:=fun y c hf _=>by cases hf
      hd:=I2.ok.hd
      frames:=I2.ok.frames
      stk:=.inl rfl
      exf:=fun b hb=>⟨fpC b hb,fun y c e z=>(f2 b hb).2.2.2.2.1 y c (clIn y c e) z⟩
      bs:=fun b o e=>I2.bs b o e
      bsz:=xar I2.ok.bsz I2.sz
      noex:=fun b o e hb=>by
        rcases(f2 b hb).2.2.2.1 with z |z
        · exact I2.ok.noex b o e z
        · exact absurd (xal (xaq e) (xar I2.ok.bsz z)) (xbh _)
      exfs:=fun b hb z=>by
        rcases xaO.mp (I2.stkSub b z) with q |q
        · exact(f2 b hb).2.1 q
        · exact(f2 b hb).2.2.1 q
      funs:=I2.stack
      frf:=I2.stkFree}
  have IC:Inv (cP X (xs ++ cs.map (·.1)) scope (dM X.env.cells scope.names) HH.objs.size s2 H2 fp (X.pn ++ pins)) [] (List.replicate xs.length none ++ eZ cs σ) (upd H2 s2.heap.objs.size (.lst [])) {s2 with heap:=h₁,toks:=s2.toks + ([]:List (Str×Value)).length}:=
    { ok:=okC
      os:=rfl
      bare:=I2.bare
      base:=Un.laid old (xaf _) nD
      loc:=by
        refine⟨_,hns₁,fun i y u e1 e2 _=>?_⟩;rcases xa2 i xs.length with hi |hi
        · exfalso
          rw[xaC (by rw[xaB];exact hi),xaQ,xad hi]at e2;cases e2
        · have e1':(cs.map (·.1))[i - xs.length]? =some y:=by rw[<-xap hi];exact e1
          have e2':(eZ cs σ)[i - xs.length]? =some (some u):=by
            rw[xap (by rw[xaB];exact hi),xaB]at e2;exact e2
          rw[xam]at e1';unfold eZ at e2';rw[xam]at e2'
          cases ep:cs[i - xs.length]? with
          |none=>rw[ep]at e1';cases e1'
          |some p=>
            rw[ep]at e1' e2';have e1'':p.1=y:=xaA e1';have e2'':(σ[p.2]?).join=some u:=xaA e2';have e3:σ[p.2]? =some (some u):=by
              cases q:σ[p.2]? with
              |none=>rw[q]at e2'';cases e2''
              |some z=>rw[q]at e2'';exact congrArg some e2''
            subst e1'';obtain⟨hN,hkp,hkc⟩:=ok.cap p (xaF ep);obtain⟨mP,_,hl⟩:=I2.loc;obtain⟨u',ru,lk⟩:=hl p.2 p.1 u hN e3 (.inr hkp);refine⟨u',ru,.inr ⟨hkc,?_⟩⟩;rcases lk with⟨k0,_⟩ |⟨_,c,hcell,his⟩
            · exfalso
              have k0':X.env.scope.names.lookup p.1=some .local:=k0;rcases hkp with z |z<;>(rw[k0']at z;cases z)
            · have hm:(p.1,NameKind.free)∈scope.names:=by
                rcases hkc with z |z
                · exact Cg z (.inl rfl) ok.cell
                · exact Cg z (.inr rfl) ok.cell
              obtain⟨c',hc'⟩:=Ja (cells:=X.env.cells) scope.names [] p.1 (.inl hm);have e5:c'=c:=xaA ((clIn p.1 c' hc').symm.trans hcell);exact⟨c',hc',by rw[e5];exact his.keeps old⟩
      cell:=fun y c e=>by
        obtain⟨v',q⟩:=I2.cell y c (clIn y c e);exact⟨v',q.keeps old⟩
      free:=by
        show upd H2 s2.heap.objs.size (.lst []) HH.objs.size=none;rw[aZ hDC.symm];exact nC
      freeC:=fun y c e=>by
        have hcl:c<s2.heap.objs.size:=by
          obtain⟨_,q⟩:=I2.cell y c (clIn y c e);exact q.lt
        rw[aZ (xaE hcl)];exact(I2.freeC y c (clIn y c e)).imp id fun z=>⟨rfl,z.2⟩
      pin:=fun p hp=>by
        have hp':p∈X.pn ++ pins:=by
          rcases xbO.mp hp with z |z
          · exact z
          · cases z
        obtain⟨e1,e2,e3,e4,e5⟩:=I2.pin p hp';refine⟨old _ _ e1,?_,pinC p hp',fun z=>?_,e5⟩
        · rw[aZ (xaE (xaq e1))];exact e2
        · rcases xaO.mp (I2.stkSub p.1 z) with q |q
          · exact e3 q
          · exact e4 q
      hok:=I2.hok.laid old (xaf _) ⟨xbz _,[],0,.nil,hacc⟩
      len:=by simp[eZ]}
  have stC:tn 0 h₁:=T.keep 0 _ _ st2 fun b _ o e=>old b o e;have frC:∀b∈fp,upd H2 s2.heap.objs.size (HO.lst []) b=none:=fun b hb=>by
    rw[aZ (fpD b hb)];exact(f2 b hb).1
  -- what stays true of the iterator's objects in the block
  have stat:∀{H':Hp},(∀b∈fp,H' b=none)->∀b∈fp,d9 (cP X (xs ++ cs.map (·.1)) scope (dM X.env.cells scope.names) HH.objs.size s2 H2 fp (X.pn ++ pins)) [] H' b:=fun {H'} hn b hb=>
    ⟨hn b hb, fpC b hb, okC.exfs b hb, .inl hb, fun y c e => (okC.exf b hb).2 y c e, fun p hp => (f2 b hb).2.2.2.2.2 p (by
      rcases xbO.mp hp with z |z
      · exact z
      · cases z)⟩
  have loop:∀s₃:Shared,s₃={s2 with heap:=h₁,toks:=s2.toks + ([]:List (Str×Value)).length}->
      codeAny (model X.prog X.w) X.A (.compLoop (.ListComp elt [⟨tg,iter,ifs,0⟩] scope pos) 0 (.ref it) (.ref s2.heap.objs.size) (compEnvC scope (dM X.env.cells scope.names) HH.objs.size X.env)) (RR (.ref s2.heap.objs.size) HH.objs.size) s₃:=by
    rintro s₃ rfl;refine Za (fun n s'=>∃(i:Nat) (vl:List (Option V)) (ys:List V) (H':Hp),vl.length=xs.length/\Inv (cP X (xs ++ cs.map (·.1)) scope (dM X.env.cells scope.names) HH.objs.size s2 H2 fp (X.pn ++ pins)) [] (vl ++ eZ cs σ) H' s'/\tn i s'.heap/\(∀b∈fp,H' b=none)/\W i n ys H')
      ?_ m0 ⟨0,_,[],_,xaB,IC,stC,frC,w0⟩
    rintro n s3 ⟨i,v3,ys,H3,hv3,I3,st3,fr3,w3⟩;obtain⟨hD3,tr⟩:=turn i n ys H3 w3;rcases tr with⟨stop,qn⟩ |⟨go,hsz,N,hN,step⟩
    · refine aU (T.done (cP X (xs ++ cs.map (·.1)) scope (dM X.env.cells scope.names) HH.objs.size s2 H2 fp (X.pn ++ pins)) rfl rfl rfl hc i [] s3 _ H3 _ I3 (stat fr3) st3 stop) fun r s4 ⟨hr,I4⟩=>?_;subst hr;show RR (.ref s2.heap.objs.size) HH.objs.size (.ok .next) s4
      have IP:Inv X pins σ H3 s4:=I2.call' (ch:=fp) I4.os I4.base I4.hok I4.bare fun b hb=>⟨(f2 b hb).2.2.2.1,(f2 b hb).2.1,(f2 b hb).2.2.2.2.1,(f2 b hb).2.2.2.2.2⟩;obtain⟨m4,⟨oC,es,ep,hoC,hdC,hk1,hk2⟩,_⟩:=I4.loc;have nC3:H3 HH.objs.size=none:=I4.free;have fC:d9 X pins H3 HH.objs.size:=I2.fpOk hCle nC3;refine hRR _ _ oC H3 s4 (IP.pins_of fun p hp=>?_) (fun h' e=>⟨m4,oC,es,ep,e,hdC,hk1,hk2⟩) fC qn;rcases xbO.mp hp with z |z
      · exact IP.pin p (xaG _ z)
      · have e:p=(HH.objs.size,oC):=by simpa using z
        subst e;exact ⟨hoC,nC3,fC.2.1,fC.2.2.1,fun v z=>by
          have z':oC.data=.cell v:=z;rw[hdC]at z';cases z'⟩
    · refine aU (T.item (cP X (xs ++ cs.map (·.1)) scope (dM X.env.cells scope.names) HH.objs.size s2 H2 fp (X.pn ++ pins)) rfl rfl rfl hc i [] s3 _ H3 _ I3 (stat fr3) st3 go) fun r s4 ⟨u,hr,h4⟩=>?_;subst hr;refine aU h4 fun _ s5 ⟨y,H5,I5,r5,y5,st5,fr5⟩=>?_;have I5':=I5.pinned (stat fr5) (T.obj _ _ st5);refine aU (hg (dM X.env.cells scope.names) HH.objs.size s2 H2 fp (X.pn ++ pins) _ s5 _ H5 y u _ I5' r5 (step y H5 y5 v3 hv3)) fun _ s6 ⟨σ6,H6,I6,vl6,hl6,e6,q6⟩=>?_;subst e6;refine aU (hq _ _ _ _ _ _ _ s6 _ H6 _ I6 q6) fun b s7 ⟨H7,I7,q7⟩=>?_;have again:∀{v':List (Option V)} {H8:Hp} {s8:Shared} {ys':List V} {m':Nat},v'.length=xs.length->Inv (cP X (xs ++ cs.map (·.1)) scope (dM X.env.cells scope.names) HH.objs.size s2 H2 fp (X.pn ++ pins)) ([] ++ BX fp s5.heap) (v' ++ eZ cs σ) H8 s8->W (i + 1) m' ys' H8->
          ∃(i:Nat) (vl:List (Option V)) (ys:List V) (H':Hp),vl.length=xs.length/\Inv (cP X (xs ++ cs.map (·.1)) scope (dM X.env.cells scope.names) HH.objs.size s2 H2 fp (X.pn ++ pins)) [] (vl ++ eZ cs σ) H' s8/\tn i s8.heap/\(∀b∈fp,H' b=none)/\W i m' ys H':=fun {v' H8 s8 ys' m'} hl8 I8 w8=>by
        refine⟨i + 1,v',ys',H8,hl8,I8.unpinned,T.keep _ _ _ st5 fun b hb o e=>(I8.pin (b,o) (xaG _ (xaG _ (Fb hb e)))).1,fun b hb=>?_,w8⟩;obtain⟨o,e,d⟩:=T.obj _ _ st5 b hb;exact(I8.pin (b,o) (xaG _ (xaG _ (Fb hb e)))).2.1
      cases b with
      |false=>
        rw[xae xay]at q7;rw[xae xay];obtain⟨m',hm,w8⟩:=hN _ _ q7;exact⟨m',hm,again hl6 I7 w8⟩
      |true=>
        rw[xad rfl]at q7;rw[xad rfl];refine aU (he _ _ _ _ _ _ _ s7 _ H7 _ I7 q7) fun z s8 ⟨zv,H8,I8,r8,hD8,n8⟩=>?_;obtain⟨m',hm,w8⟩:=hN _ _ n8;refine aU (Ku (X:=cP X (xs ++ cs.map (·.1)) scope (dM X.env.cells scope.names) HH.objs.size s2 H2 fp (X.pn ++ pins)) _ s8 _ H8 (.ref s2.heap.objs.size) [zv] (.ref s2.heap.objs.size) [z] (fun _ H9=>H9=upd H8 s2.heap.objs.size (.lst (ys ++ [zv]))) I8 rfl (.cons r8 .nil) ⟨_,ys,zv,rfl,rfl,hD8,hsz,rfl⟩) fun _ s9 ⟨_,H9,I9,_,e9⟩=>?_;subst e9;exact⟨m',hm,again hl6 I9 w8⟩
  exact codeAny_compStart_list (loop _ rfl) (T.self _ 0 _ _ _ stC (loop _ rfl))
noncomputable def Xl (wi:TI) (tG:TG) (tq:TT) (te:TE) (n:Nat) (cs:List (Str×Nat)):TE:=fun σ H Q=>GD wi tG tq te n cs σ H fun D H'=>Q (.ref D) H'
theorem zcu (xs:List Str)(cs:List (Str×Nat))(hc:X.calm=true)(hi:PI X tg iter wi)
  (hg:∀(cl:List (Str×Addr)) (C:Addr) (s₀:Shared) (H₀:Hp) (ex:List Addr) (pn:Pnx),PG (cP X (xs ++ cs.map (·.1)) scope cl C s₀ H₀ ex pn) tg tG)
  (hq:∀(cl:List (Str×Addr)) (C:Addr) (s₀:Shared) (H₀:Hp) (ex:List Addr) (pn:Pnx),gH (cP X (xs ++ cs.map (·.1)) scope cl C s₀ H₀ ex pn) ifs tq)
  (he:∀(cl:List (Str×Addr)) (C:Addr) (s₀:Shared) (H₀:Hp) (ex:List Addr) (pn:Pnx),PE (cP X (xs ++ cs.map (·.1)) scope cl C s₀ H₀ ex pn) elt te)
  (ok:Ec X.N X.env.scope xs cs scope=true:=by kernel_rfl) (hs:∀x,foldedSetIterable iter X.env x=pure x:=by intro _;rfl):
  PE X (.ListComp elt [⟨tg,iter,ifs,0⟩] scope pos) (Xl wi tG tq te xs.length cs):=by
 sr_in;have ok':=CompOkT.of ok;rw[eval_ListComp];refine xdK (use:=none) rfl hs (QS fun y hy hk=>I.ok.has y.1 (ok'.has y hy hk)) ok'.kind ok'.names ?_;refine Q5 (RR:=fun acc C=>compPost (model X.prog X.w) X.A X.xe none (EP X pins σ Q) acc C) hc hi hg hq he ok' I h ?_;intro D C oC H' s' I' hns fC q;refine⟨_,(hns _ (I'.pin (C,oC) (xaG _ (xaG _ (by simp)))).1).choose_spec,fun h' hs'=>?_⟩;have I1:Inv X pins σ H' s':=I'.unpinned;exact⟨.ref D,H',I1.turned (t':=s'.toks) (fun b o hb e=>(hs'.2 b hb).trans e) fC.1 fC.2.1 fC.2.2.2.1 fC.2.2.2.2.1 fC.2.2.2.2.2,rfl,q⟩
end
section
variable {X:Cx}{elt iter:Expr}{ifs:List Expr}{x:Str}{px:Pos}{scope:Scope}{pos:Pos}{wi:TI}{tq:TT}{te:TE}{cs:List (Str×Nat)}
def QZ:GD wi (Ac 0) tq te 1 cs=zE wi tq te cs:=by
 funext σ H R;have key:∀(v:V) (H3:Hp) (F:St->Hp->Prop),(∀vl:List (Option V),vl.length=1->Ac 0 v (vl ++ eZ cs σ) H3 fun σ' H4=>∃vl',vl'.length=1/\σ'=vl' ++ eZ cs σ/\F σ' H4) ↔ F (some v::eZ cs σ) H3:=fun v H3 F=>
  ⟨fun h=>(h [none] rfl).choose_spec.2.2,fun h vl e=>by
   match vl,e with
   | [_],_=>exact⟨[some v],rfl,rfl,h⟩⟩
 simp only[GD,Py,zE,key]
noncomputable def zgT (wi:TI) (tq:TT) (te:TE) (cs:List (Str×Nat)):TE:=fun σ H Q=>zE wi tq te cs σ H fun D H'=>Q (.ref D) H'
theorem Uz (x:Str)(cs:List (Str×Nat))(hc:X.calm=true)(hi:PI X (.Name x px) iter wi)
  (hq:∀(cl:List (Str×Addr)) (C:Addr) (s₀:Shared) (H₀:Hp) (ex:List Addr) (pn:Pnx),gH (cP X (x::cs.map (·.1)) scope cl C s₀ H₀ ex pn) ifs tq)
  (he:∀(cl:List (Str×Addr)) (C:Addr) (s₀:Shared) (H₀:Hp) (ex:List Addr) (pn:Pnx),PE (cP X (x::cs.map (·.1)) scope cl C s₀ H₀ ex pn) elt te)
  (ok:yH X.N X.env.scope x cs scope=true:=by kernel_rfl) (hs:∀x,foldedSetIterable iter X.env x=pure x:=by intro _;rfl):
  PE X (.ListComp elt [⟨.Name x px,iter,ifs,0⟩] scope pos) (zgT wi tq te cs):=by
 have ox:=lookup_relabel_local (env:=X.env) ((CompOkT.of ok).own x (by simp));have h:=zcu (pos:=pos) [x] cs hc hi (fun _ _ _ _ _ _=>Ft (i:=0) (CompOkT.of ok).nd rfl (.inl ox) (.inr ox)) hq he ok hs;unfold Xl at h;rw[xaJ,QZ]at h;exact h
noncomputable def zg7 (k:Nat) (wi:TI) (tq:TT) (te:TE) (cs:List (Str×Nat)):TS:=fun D σ H=>zE wi tq te cs σ H fun l H'=>D.nx (σ.set k (some (.ref l))) H'
theorem zdj (x:Str)(cs:List (Str×Nat))(hN:X.N.Nodup)(hk:X.N[k]? =some y)(hy:Loc X.env.scope y)(hc:X.calm=true)(hi:PI X (.Name x px) iter wi)
  (hq:∀(cl:List (Str×Addr)) (C:Addr) (s₀:Shared) (H₀:Hp) (ex:List Addr) (pn:Pnx),gH (cP X (x::cs.map (·.1)) scope cl C s₀ H₀ ex pn) ifs tq)
  (he:∀(cl:List (Str×Addr)) (C:Addr) (s₀:Shared) (H₀:Hp) (ex:List Addr) (pn:Pnx),PE (cP X (x::cs.map (·.1)) scope cl C s₀ H₀ ex pn) elt te)
  (ok:yH X.N X.env.scope x cs scope=true:=by kernel_rfl) (hs:∀x,foldedSetIterable iter X.env x=pure x:=by intro _;rfl)
  (hsw:swapsWith (.ListComp elt [⟨.Name x px,iter,ifs,0⟩] scope pos) (some (.Name y py)) spos.line X.env=pure true:=by rfl)
  (hf:X.fn y=true\/X.env.scope.names.lookup y=some .local:=by first |exact .inl rfl |exact .inr rfl |assumption):
  PS X (.Assign [.Name y py] (.ListComp elt [⟨.Name x px,iter,ifs,0⟩] scope pos) spos) (zg7 k wi tq te cs):=by
 intro pins s σ H D I h;have ok':=CompOkT.of ok;have ox:=lookup_relabel_local (env:=X.env) (ok'.own x (by simp));rw[exec_Assign_Name_used _ _ _ _ hsw];refine xaa (xcm (xaa ?_));show wpAny _ X.A (do let _ <-comprehension (.ListComp elt [⟨.Name x px,iter,ifs,0⟩] scope pos) scope X.env _ (newList []) false (eval iter X.env) (some (assign (.Name y py) X.env))) _ _ s
 refine xaa (xaU (xdK (use:=some (assign (.Name y py) X.env)) (Q:=fun _ s'=>SP X pins D .next s') rfl hs (QS fun y hy hk=>I.ok.has y.1 (ok'.has y hy hk)) ok'.kind ok'.names
  (Q5 (xs:=[x]) (RR:=fun acc C=>compPost (model X.prog X.w) X.A X.xe (some (assign (.Name y py) X.env)) (fun _ s'=>SP X pins D .next s') acc C) hc hi (fun _ _ _ _ _ _=>Ft (i:=0) ok'.nd rfl (.inl ox) (.inr ox)) hq he ok' I (by rw[xaJ,QZ];exact h) ?_)) (fun _ s' hq=>xak (xak hq)) fun _ _ e=>e)
 intro l C oC H' s' I' hns fC q;show wpAny _ X.A (assign (.Name y py) X.env (.ref l)) _ _ _;refine wpAny_assign_Name (Gz (v:=.ref l) I' hN hk hy rfl (fun s'' I''=>?_) hf);refine⟨_,(hns _ (I''.pin (C,oC) (xaG _ (xaG _ (by simp)))).1).choose_spec,fun h' hs'=>?_⟩;have I1:Inv X pins _ H' s'':=I''.unpinned;exact⟨_,H',I1.turned (t':=s''.toks) (fun b o hb e=>(hs'.2 b hb).trans e) fC.1 fC.2.1 fC.2.2.2.1 fC.2.2.2.2.1 fC.2.2.2.2.2,q⟩
end
def zhf (J:It)(tq:TT)(te:TE)(cs:List (Str×Nat))(σ:St)(H1:Hp)(R:Addr->Hp->Prop):Prop:=∀D,H1 D=none->
  ∃W:Nat->Nat->List V->Hp->Prop,(∃m,W 0 m [] (upd H1 D (.lst [])))/\∀i m ys H2,W i m ys H2->H2 D=some (.lst ys)/\
    ((J.stop i H2 /\ R D H2) \/ (J.go i H2/\ys.length<sizeLine/\∃N:List V->Hp->Prop,(∀ys' H',N ys' H'->∃m',m'<m/\W (i + 1) m' ys' H')/\∀v H3,J.yld i H2 v H3->tq (some v::eZ cs σ) H3 fun b H4=>
      if b=true then te (some v::eZ cs σ) H4 fun y H5=>H5 D=some (.lst ys)/\N (ys ++ [y]) (upd H5 D (.lst (ys ++ [y]))) else N ys H4))
def vg (hD:H D=none):Same H (upd H D o):=fun b ob e=>by
 rw[aZ (lR e hD)];exact e
structure Noted (fs:List Addr)(z:Addr)(h h':Heap)(e:Addr)(oe:Obj)(T:Addr)(fl:Value):Prop where
 keep:∀b o,b∉fs->b≠e->b≠z->h.get? b=some o->h'.get? b=some o
 slot:∀b o,b∈fs->b≠e->b≠z->h.get? b=some o->∃sl,h'.get? b=some {o with slots:=sl}
 exc:h'.get? e=some (oe.mapFields (·.setIfInBounds 1 (.ref T)))
 new:h.objs.size<=T
 tb:∃oT ts,h'.get? T=some oT/\oT.data=.fields ts/\ts[3]? =some fl
section
variable {M:Model}{A:Around}{E:Value->Shared->Prop}{s:Shared}{base:Heap}{env:Env}{outer:List Env}{L e z:Addr}{oe:Obj}{vs:Array Value}{Q:Unit->Shared->Prop}
def Uo (a1:A.frames=some (env::outer))(a2:s.heap.FunFrames base (env::outer))(a3:env.frame=some L)
  (a4:s.heap.get? e=some oe) (a5:oe.data=.fields vs) (a6:1<vs.size)
  (k:∀h' T,Noted (frs (env::outer)) e s.heap h' e oe T (rawInt L)->Q () {s with heap:=h'}):
  wpAny M A (do
   let a <-frameOf env
   let pl <-entryPlaceOf L hadNext
   let b <-EntryCells.newEntry head a .none (rawInt L) .none pl
   setField (.ref e) 1 b) Q E s:=by
 have ne:e∉frs (env::outer):=fun m=>by
  obtain⟨_,o,e1,e2⟩:=a2.mem m;rw[a4]at e1;cases e1;exact e2 vs a5
 refine xaa (wpAny_frameOf_fun a1 a2 a3 fun h1 S=>?_);refine xaa (wpAny_entryPlaceOf fun pl hpl=>?_);unfold EntryCells.newEntry newFields;refine xaa (xaZ ?_ (hpl.sizeOk5 _ _ _ _ _));have b1:h1.get? e=some oe:=(S.2.1 e ne).trans a4;have b2:=xac (h:=h1) {cls:=.type "traceback",dict:=none,data:=.fields ([head,.ref L,.none,rawInt L,.none] ++ (if pl.isEmpty then List.replicate 6 Value.none else pl)).toArray} b1
 refine xcu b2 a5 a6 (k _ h1.objs.size ?_);have n1:h1.objs.size≠e:=xdH (xaq b1);have frd:=xcv (xbf a5 (·.setIfInBounds 1 (Value.ref h1.objs.size)));refine⟨fun b o nb nbe _ hb=>?_,fun b o _ nbe _ hb=>?_,xb8 _ b2 frd,xc1 S.1.symm,?_⟩
 ·rw[xa9 _ _ (xbN nbe)];exact xac _ ((S.2.1 b nb).trans hb)
 ·obtain⟨sl,q⟩:=S.2.2 b o hb;refine⟨sl,?_⟩;rw[xa9 _ _ (xbN nbe)];exact xac _ q
 ·refine⟨_,_,(xa9 _ _ (xbN n1)).trans (xax h1 rfl),rfl,?_⟩;rcases hpl with rfl |⟨_,_,_,_,_,_,_,rfl⟩<;>simp
def ZM (b1:s.heap.get? e=some oe)(b2:oe.data=.fields vs)(b3:vs[1]? =some (.ref T))(b4:s.heap.get? T=some oT)(b5:oT.data=.fields ts)(b6:3<ts.size)
  (k:Q () {s with heap:=s.heap.update T (Obj.mapFields (·.setIfInBounds 3 .none))}):wpAny M A (setFlight (.ref e) none) Q E s:=by
 unfold setFlight;refine xaa (xbA b1 b2 b3 ?_);rw[xad (by simp)];exact xcu b4 b5 b6 k
def zbJ (N:Noted fs z h h1 e oe T fl)(a4:h.get? e=some oe)(a5:oe.data=.fields vs):Noted fs z h (h1.update T (Obj.mapFields (·.setIfInBounds 3 .none))) e oe T .none:=by
 obtain⟨oT,ts,t1,t2,t3⟩:=N.tb;have ne:∀b o,h.get? b=some o->b≠T:=fun b o q=>xaE (xal (xaq q) N.new);refine⟨fun b o n1 n2 n3 hb=>?_,fun b o n1 n2 n3 hb=>?_,?_,N.new,?_⟩
 ·rw[xa9 _ _ (xbN (ne b o hb))];exact N.keep b o n1 n2 n3 hb
 ·obtain⟨sl,q⟩:=N.slot b o n1 n2 n3 hb;exact⟨sl,by rw[xa9 _ _ (xbN (ne b o hb))];exact q⟩
 ·rw[xa9 _ _ (xbN (ne e oe a4))];exact N.exc
 ·have z3:3<ts.size:=(xbJ.mp t3).1;exact⟨_,_,xb8 _ t1 (xcv (xbf t2 _)),xbf t2 _,by simp[z3]⟩
def Ur (N:Noted fs z h s.heap e oe T fl)(a4:h.get? e=some oe)(a5:oe.data=.fields vs)(a6:1<vs.size)
  (k:∀h',Noted fs z h h' e oe T .none->Q () {s with heap:=h'}):wpAny M A (setFlight (.ref e) none) Q E s:=by
 obtain⟨oT,ts,t1,t2,t3⟩:=N.tb;refine ZM N.exc (xbf a5 _) (by simp[a6]) t1 t2 (xbJ.mp t3).1 (k _ (zbJ N a4 a5))
def za0 (a1:A.frames=some (env::outer))(a2:s.heap.FunFrames base (env::outer))(a3:env.frame=some L)
  (a4:s.heap.get? e=some oe) (a5:oe.data=.fields vs) (a6:vs[1]? =some .none) (k:∀h' T,Noted (frs (env::outer)) e s.heap h' e oe T .none->Q () {s with heap:=h'}):wpAny M A (leaving env (.ref e)) Q E s:=by
 have z1:=(xbJ.mp a6).1;unfold leaving noteFrame;simp only[a3];refine xaa (xaa (xbA a4 a5 a6 ?_));rw[xae (by decide)];exact Uo a1 a2 a3 a4 a5 z1 fun h' T N=>Ur (s:={s with heap:=h'}) N a4 a5 z1 fun h2 N2=>k h2 T N2
def zbw (a1:A.frames=some (env::outer))(a2:s.heap.FunFrames base (env::outer))(a3:env.frame=some L)
  (a4:s.heap.get? e=some oe) (a5:oe.data=.fields vs) (a6:vs[1]? =some (.ref T0)) (b1:T0≠e) (b2:s.heap.get? T0=some oT) (b3:oT.data=.fields ts) (b4:ts[3]? =some .none)
  (k:∀h' T,Noted (frs (env::outer)) T0 s.heap h' e oe T (rawInt L)->Q () {s with heap:=h'}):wpAny M A (noteFrame (.ref e) env) Q E s:=by
 have z1:=(xbJ.mp a6).1;unfold noteFrame;simp only[a3];refine xaa (xbA a4 a5 a6 ?_);rw[xad (by simp)];refine xaa (xbA b2 b3 b4 ?_);rw[xae (by simp[rawInt])];refine xaa (xcu b2 b3 (xbJ.mp b4).1 ?_);have oth:∀b,b≠T0->(s.heap.update T0 (Obj.mapFields (·.setIfInBounds 3 Value.none))).get? b=s.heap.get? b:=fun b hb=>xa9 _ _ (xbN hb);have fr:∀b o,s.heap.get? b=some o->(∀us,o.data≠ .fields us)->b≠T0:=fun b o hb n r=>by
  rw[r,b2]at hb;cases hb;exact n ts b3
 refine Uo (s:={s with heap:=s.heap.update T0 (Obj.mapFields (·.setIfInBounds 3 Value.none))}) a1 (a2.of_keeps fun b o hb n=>⟨o,(oth b (fr b o hb n)).trans hb,rfl⟩) a3 ((oth e (xbN b1)).trans a4) a5 z1 fun h' T N=>k h' T ?_;exact⟨fun b o n1 n2 n3 hb=>N.keep b o n1 n2 n2 ((oth b n3).trans hb),fun b o n1 n2 n3 hb=>N.slot b o n1 n2 n2 ((oth b n3).trans hb),N.exc,by rw[<-Heap.size_after_update s.heap T0 (Obj.mapFields (·.setIfInBounds 3 Value.none))];exact N.new,N.tb⟩
end
section
variable {prog:Program}{w:World}{A:Around}{E:Value->Shared->Prop}{h:Heap}{g:Array GenState}{d:Drawn}{t:Nat}{os:OsState}
variable {nm q:Str}{C N:Addr}{bs bm bmB:List Value}{hdct:Bool}{sn:List Str}{sub:List Value}{ab:Bool}{col:Option Bool}{dd:Option Addr}{k0 k1 k2 k3 k5:Option Value}{B newId initId:String}
def zbf (hh:A.handled=none)
  (k : wpAny (model prog w) A x (fun v s₁=>∃e oe vs,v=.ref e/\(∃C nm q N bs bm hdct sn sub ab col dd k0 k1 k2 k3 k5 newId,s₁.heap.get? C=some (excClassObj nm q C N bs bm hdct sn sub ab col dd k0 k1 k2 k3 k5 newId)/\bm.contains (.type "BaseException")=true/\oe.cls=.ref C)/\
   s₁.heap.get? e=some oe/\oe.data=.fields vs/\vs[1]? =some .none/\E (.ref e) s₁) E s):
  wpAny (model prog w) A (raiseStmt env (some x) none) Q E s:=by
 unfold raiseStmt;refine xaa (xaU k (fun v s₁ h₁=>?_) fun _ _ x=>x);obtain⟨e,oe,vs,rfl,⟨C,nm,q,N,bs,bm,hdct,sn,sub,ab,col,dd,k0,k1,k2,k3,k5,newId,hC,hb,hc⟩,he,hd,h1,hE⟩:=h₁;have hcB:(Value.ref C::bm).contains (.type "BaseException")=true:=by rw[List.contains_cons,hb,Bool.or_true]
 obtain⟨oc,od,odt,osl⟩:=oe;dsimp only at hc hd;subst hc hd;obtain⟨hp,g,d,tk,os⟩:=s₁
 repeat (first |with_reducible refine wpAny_loadPart_at he ?_ |with_reducible refine wpAny_loadPart_at hC ?_ |(with_reducible refine wpAny_isSubtype_exc hC ?_;rw[hcB]) |with_reducible refine xbA he rfl h1 ?_ |wp_step)
 exact wpAny_raiseNew_none hh hE
end
abbrev Pu:List Value:=[.type "ValueError",.type "Exception",.type "BaseException",.type "object"]
def Pr:List Value->Bool
 |.ref _::r=>Pr r
 |l=>l==Pu
noncomputable def dX (K:Fgx) (C:Addr):Bool:=match K.lookup C with
  | some ⟨.type "type", _, .cls cd, sl⟩ => (match cd.mro,sl.toList with
    |.ref c::bm,[_,_,_,_,some (.builtin n),_]=>c==C && (n=="ValueError.__new__" && (!cd.hasDel && (PySem.W.tailIn K Pu bm && (PySem.W.nsOkIn K cd.ns && (cd.hasDict && Pr bm)))))
    |_,_=>false)
  |_=>false
structure XCls (h:Heap)(C:Addr)(nm qn:Str)(N:Addr)(bs bm:List Value)(sn:List Str)(sub:List Value)(ab:Bool)(col:Option Bool)(dd:Option Addr)(k0 k1 k2 k3 k5:Option Value):Prop where
 obj:h.get? C=some (excClassObj nm qn C N bs bm true sn sub ab col dd k0 k1 k2 k3 k5 "ValueError.__new__")
 tail:OwnTail h Pu bm
 ns:h.Ns N (h.nsMap N)
 over:Pr bm=true
def X3 {K:Fgx}{h:Heap}{C:Addr}(X:K.In h)(q:dX K C=true):∃nm qn N bs bm sn sub ab col dd k0 k1 k2 k3 k5,
  XCls h C nm qn N bs bm sn sub ab col dd k0 k1 k2 k3 k5/\K.lookup C=some (excClassObj nm qn C N bs bm true sn sub ab col dd k0 k1 k2 k3 k5 "ValueError.__new__"):=by
 unfold dX at q;split at q
 ·rename_i dd cd sl ho;split at q
  ·rename_i c bm k0 k1 k2 k3 n k5 hm hs;simp only[xaD,xbP,Bool.not_eq_true']at q;obtain⟨q1,q2,q3,q4,q5,q6,q7⟩:=q;obtain⟨nm,bs,mro,ns,qn,hd,sn,sub,ab,col,del⟩:=cd;obtain⟨sl⟩:=sl;dsimp only at hm hs q3 q5 q6;subst q1 q2 hm q3 q6 hs;exact⟨nm,qn,ns,bs,bm,sn,sub,ab,col,dd,k0,k1,k2,k3,k5,⟨X _ _ ho,PySem.W.tail_of_in X q4,.of_isNs (PySem.W.isNs_of_in X q5),q7⟩,ho⟩
  ·cases q
 ·cases q
noncomputable def Dp (K:Fgx) (C:Addr):Bool:=match K.lookup C with
 |some ⟨_,_,.cls cd,_⟩=>PySem.W.nsIn K cd.ns "__init__"==some none
 |_=>false
noncomputable def GR (K:Fgx) (C:Addr):Bool:=PySem.W.findIn K (.ref C) "__getattribute__"==some (some (.builtin "BaseException.__getattribute__")) &&
 (PySem.W.findIn K (.ref C) "__getattr__"==some none && PySem.W.mroIn K C (.type "BaseException")==some true)
noncomputable def xo (a C:Addr) (dx:Option Addr) (b:Bool):HO:=.ext fun h=>∃oe vs t,h.get? a=some oe/\oe.cls=.ref C/\oe.dict=dx/\oe.data=.fields vs/\vs.size=6/\vs[0]? =some (.ref t)/\(b=true->vs[1]? =some .none)
def X5 (x:∃oe vs t,h.get? a=some oe/\oe.cls=.ref C/\oe.dict=dx/\oe.data=.fields vs/\vs.size=6/\vs[0]? =some (.ref t)/\(b=true->vs[1]? =some .none)):
  dJ P w H h a (xo a C dx b):=by
 obtain⟨oe,vs,t,e,r⟩:=x;exact⟨⟨oe,vs,t,e,r⟩,⟨oe,e⟩,fun h1 h2 ⟨oe,vs,t,e,r⟩ k=>⟨oe,vs,t,k _ e,r⟩⟩
def GZ (h:Heap)(a T:Addr):Prop:=∃oe vs oT ts,h.get? a=some oe/\oe.data=.fields vs/\vs[1]? =some (.ref T)/\T≠a/\h.get? T=some oT/\oT.data=.fields ts/\ts[3]? =some .none
section
variable {P:Program}{w:World}{H:Hp}{h h':Heap}{fs ch:List Addr}{z a C T:Addr}{oe:Obj}{fl:Value}{dx:Option Addr}{b:Bool}{vs:Array Value}
def Uq (N:Noted fs z h h' a oe T .none)(e1:h.get? a=some oe)(e2:oe.data=.fields vs)(e3:vs.size=6):GZ h' a T:=by
 obtain⟨oT,ts,t1,t2,t3⟩:=N.tb;refine⟨_,_,oT,ts,N.exc,xbf e2 _,by simp[e3],fun q=>?_,t1,t2,t3⟩;have z:=xal (xaq e1) N.new;rw[q]at z;exact absurd z (xbh _)
def zb8 (N:Noted fs z h h' a oe T fl)(x:∃vs t,oe.cls=.ref C/\oe.dict=dx/\oe.data=.fields vs/\vs.size=6/\vs[0]? =some (.ref t)):∃oe vs t,h'.get? a=some oe/\oe.cls=.ref C/\oe.dict=dx/\oe.data=.fields vs/\vs.size=6/\vs[0]? =some (.ref t)/\(false=true->vs[1]? =some .none):=by
 obtain⟨vs,t,c1,c2,c3,c4,c5⟩:=x;refine⟨_,_,t,N.exc,(Obj.cls_mapFields _ _).trans c1,?_,xbf c3 _,by simp[c4],?_,fun q=>by cases q⟩
 ·obtain⟨_,_,od,_⟩:=oe;dsimp only at c3;subst c3;exact c2
 ·rw[Array.getElem?_setIfInBounds_ne (by decide)];exact c5
def XH (N:Noted fs z h h' a oe T fl)(ha:H a=some (xo a C dx b))(hz:z=a\/z∈ch):Un fs ch H (upd H a (xo a C dx false)) h h':=by
 have n1:∀c,H c=none->c≠a:=fun c n q=>by rw[q,ha]at n;cases n
 have n2:∀c,c≠a->c∉ch->c≠z:=fun c n m q=>by
  rcases hz with r |r
  ·exact n (q.trans r)
  ·exact m (q ▸ r)
 have n3:∀c u,H c=some u->(∀φ,u≠ .ext φ)->c≠a:=fun c u q m r=>by
  rw[r,ha]at q;exact m _ (xaA q).symm
 refine ⟨fun c o q n hc hx=>N.keep c o hc (n1 c n) (n2 c (n1 c n) hx) q,fun c o q n hc hx=>N.slot c o hc (n1 c n) (n2 c (n1 c n) hx) q,fun c o q n hx=>by rw[aZ (n1 c n)];exact n,fun c o q hx=>?_,
  fun c xs q=>by rw[aZ (n3 c _ q (by intro _ z;cases z))];exact q,fun c o u q=>by rw[aZ (n3 c _ q (by intro _ z;cases z))];exact q,fun c ps q=>⟨#[],by rw[aZ (n3 c _ q (by intro _ z;cases z)),q];simp⟩⟩
 by_cases ca:c=a
 ·rw[ca];exact⟨_,N.exc⟩
 ·by_cases cf:c∈fs
  ·obtain⟨sl,r⟩:=N.slot c o cf ca (n2 c ca hx) q;exact⟨_,r⟩
  ·exact⟨o,N.keep c o cf ca (n2 c ca hx) q⟩
def R9 (ok:cJ P w H h)(N:Noted fs z h h' a oe T fl)(ha:H a=some (xo a C dx b))(hz:z=a\/H z=none)(hf:∀c∈fs,H c=none)
  (x:∃vs t,oe.cls=.ref C/\oe.dict=dx/\oe.data=.fields vs/\vs.size=6/\vs[0]? =some (.ref t)):cJ P w (upd H a (xo a C dx false)) h':=fun c u q=>by
 have n3:∀c u,H c=some u->(∀φ,u≠ .ext φ)->c≠a:=fun c u q m r=>by
  rw[r,ha]at q;exact m _ (xaA q).symm
 by_cases hc:c=a
 ·subst hc;rw[cu]at q;cases q;exact X5 (zb8 N x)
 ·rw [aZ hc] at q;have kp : ∀ d u v, H d = some u -> d ≠ a -> h.get? d = some v -> h'.get? d = some v := fun d u v q nd r => N.keep d v (fun m => by rw [hf d m] at q; cases q) nd (fun e=>by
   rcases hz with g |g
   ·exact nd (e.trans g)
   ·rw[e,g]at q;cases q) r
  refine(ok c u q).stay (fun d v hd r=>?_) (fun d r=>by rw[aZ (n3 d _ r (by intro _ z;cases z))];exact r) fun d xs r=>by rw[aZ (n3 d _ r (by intro _ z;cases z))];exact r
  rcases hd with rfl |hd
  ·exact kp d u v q hc r
  ·exact kp d _ v hd (n3 d _ hd (by intro _ z;cases z)) r
def Un.less (u:Un (L::fs) ch H H' h h')(n:h.get? L=none):Un fs ch H H' h h':=by
 have m:∀c o,h.get? c=some o->c≠L:=fun c o q e=>by rw[e,n]at q;cases q
 exact⟨fun c o q k hc hx=>u.keep c o q k (fun z=>(xaO.mp z).elim (m c o q) hc) hx,fun c o q k hc hx=>u.slot c o q k (xat _ hc) hx,u.free,u.there,u.tups,u.frzs,u.tbls⟩
end
noncomputable def lC (P:Program) (w:World):fQ:=fun outer H s E e s'=>∃a C dx H' T,e=.ref a/\s'.os=s.os/\AllBare s'.gens/\Un (frs outer) [] H H' s.heap s'.heap/\cJ P w H' s'.heap/\H' a=some (xo a C dx false)/\H' T=none/\s.heap.objs.size<=T/\GZ s'.heap a T/\E (.ref C) dx H'
section
variable {X:Cx}{pins:Pnx}{σ:St}{H:Hp}{s:Shared}
def zcj {P:Program}{w:World}{K:Fgx}{mg:Mgx}{base:Heap}{N:List Str}{qual:Str}{scope:Scope}{f:Addr}{cd:Value}{A:Around}{outer:List PySem.Env}{E:XK}{H1:Hp}{s1:Shared}{a C:Addr}{dx:Option Addr}
  (I:Inv (cU (lC P w) P w K mg base N qual scope f cd A outer s H E) pins σ H1 s1) (ha:H1 a=some (xo a C dx true)) (hE:E (.ref C) dx (upd H1 a (xo a C dx false))):(cU (lC P w) P w K mg base N qual scope f cd A outer s H E).xe (.ref a) s1:=by
 obtain⟨oe,vs,t,e1,e2,e3,e4,e5,e6,e7⟩:=(I.hok a _ ha).1;have fr:=I.ok.frames;have st:=I.stack;refine za0 fr st rfl e1 e4 (e7 rfl) fun h' T Nn=>?_;have hL:s.heap.get? (envOfC qual scope s.heap.objs.size f cd).locals=none:=xcY I.ok.above;have u1:Un (s.heap.objs.size::frs outer) [] H H1 s.heap s1.heap:=Un.mono (fs':=s.heap.objs.size::frs outer) (ex':=[]) I.base (fun b hb=>xat _ hb) fun b hb=>hb;have u2:Un (s.heap.objs.size::frs outer) [] H1 (upd H1 a (xo a C dx false)) s1.heap h':=XH Nn ha (.inl rfl);have hT:H1 T=none:=I.hok.fresh Nn.new;have nT:T≠a:=fun q=>by rw[q,ha]at hT;cases hT
 refine⟨a,C,dx,_,T,rfl,I.os,I.bare,(u1.trans u2).less hL,R9 I.hok Nn ha (.inl rfl) (fun c hc=>I.stkFree c hc) ⟨vs,t,e2,e3,e4,e5,e6⟩,cu,by rw[aZ nT];exact hT,xar I.sz Nn.new,Uq Nn e1 e4 e5,hE⟩
end
def dJ.some_of (x:dJ P w H h a o):∃u,h.get? a=some u:=by
 cases o with
 |lst xs=>obtain⟨_,_,_,_,e⟩:=x;exact⟨_,e⟩
 |tup xs=>obtain⟨_,_,_,u,e,_⟩:=x;exact⟨u,e⟩
 |dK kvs=>obtain⟨_,_,_,_,u,_,_,e,_⟩:=x;exact⟨u,e⟩
 |dT kvs=>obtain⟨_,_,_,_,u,_,_,e,_⟩:=x;exact⟨u,e⟩
 |set S n=>obtain⟨u,_,_,_,e,_⟩:=x;exact⟨u,e⟩
 |ins C dx fs=>obtain⟨_,_,_,e,_⟩:=x;exact⟨_,e⟩
 |own y=>exact x
 |xd fs=>obtain⟨_,⟨u,_,_,e,_⟩,_⟩:=x;exact⟨u,e⟩
 |rng lo hi=>obtain⟨_,_,_,e⟩:=x;exact⟨_,e⟩
 |frz ob u=>obtain⟨e,_⟩:=x;exact⟨_,e⟩
 |tbl ps=>exact⟨_,x⟩
 |met f y=>exact⟨_,x⟩
 |ext φ=>exact x.2.1
theorem zfc (e:H a=some o):upd H a o=H:=by
 funext b;unfold upd
 split
 ·subst_vars;exact e.symm
 ·rfl
def X4 (ok:cJ P w H h)(e:H a=some (xo a C dx b)):
  ∃oe vs t,h.get? a=some oe/\oe.cls=.ref C/\oe.dict=dx/\oe.data=.fields vs/\vs.size=6/\vs[0]? =some (.ref t)/\(b=true->vs[1]? =some .none):=(ok a _ e).1
section
variable {X:Cx}{pins:Pnx}{σ:St}{H:Hp}{s:Shared}
def Inv.laidN (I:Inv X pins σ H s)(k:∀b u,s.heap.get? b=some u->h'.get? b=some u)(n:s.heap.get? a=none)(new:dJ X.prog X.w (upd H a o) h' a o):
    H a=none/\Inv X pins σ (upd H a o) {s with heap:=h',toks:=t'}:=by
  have hn:H a=none:=by
    cases q:H a with
    |none=>rfl
    |some u=>
      obtain⟨v,e⟩:=(I.hok a u q).some_of;rw[n]at e;cases e
  refine ⟨hn, I.un ⟨fun b u q _ _ _=>k b u q,fun b u q _ _ _=>⟨u.slots,k b u q⟩,fun b u q m _=>?_,fun b u q _=>⟨u,k b u q⟩,fun b xs q=>by rw[aZ (lR q hn)];exact q,fun b u xs q=>by rw[aZ (lR q hn)];exact q,
    fun b ps q=>⟨#[],by rw[aZ (lR q hn),q];simp⟩⟩ fun b u q=>?_⟩
  · rw[aZ (fun z=>by rw[z,n]at q;cases q)];exact m
  · by_cases hb:b=a
    · subst hb;rw[cu]at q;cases q;exact new
    · rw[aZ hb]at q;exact(I.hok b u q).stay (fun c v _ r=>k c v r) (fun c r=>by rw[aZ (lR r hn)];exact r) fun c xs r=>by rw[aZ (lR r hn)];exact r
def zcc {e:Expr}{te:TE}{pos:Pos}{W:Addr->Addr->Option Addr->Hp->Prop}(he:PE X e te)(hc:X.calm=true)
  (hx:∀pins σ H s a C dx,Inv X pins σ H s->H a=some (xo a C dx true)->W a C dx H->X.xe (.ref a) s):
  PS X (.Raise (some e) none pos) (fun _ σ H=>te σ H fun v H1=>∃a C dx,v=.ref a/\H1 a=some (xo a C dx true)/\dX X.K C=true/\W a C dx H1):=by
 intro pins s σ H D I h;rw[arm_exec_Raise];refine xaa (xcm (zbf (I.ok.hd hc) (xaa (aU (he pins s σ H _ I h) fun u s1 ⟨v,H1,I1,rv,a,C,dx,ev,ea,q1,w⟩=>xaa (xcm (xak ?_))))));subst ev;cases rv;obtain⟨nm,qn,N,bs,bm,sn,sub,ab,col,dd,k0,k1,k2,k3,k5,Y,lk⟩:=X3 I1.kIn q1;obtain⟨oe,vs,t,e1,e2,e3,e4,e5,e6,e7⟩:=X4 I1.hok ea;exact⟨a,oe,vs,rfl,⟨C,nm,qn,N,bs,bm,_,sn,sub,ab,col,dd,k0,k1,k2,k3,k5,_,Y.obj,Y.tail.hasType xcF.hasBase,e2⟩,e1,e4,e7 rfl,hx pins σ H1 s1 a C dx I1 ea w⟩
noncomputable def GX (K : Fgx) (C : Addr) : Bool := GR K C && (PySem.W.hasDictIn K C && (PySem.W.findIn K (.ref C) "__class__"==some (some (.builtin "object.__class__")) &&
 (PySem.W.specialIn K (.builtin "object.__class__") "__get__"==some (some (.builtin "getset_descriptor.__get__")) && (PySem.W.takesIn K (.builtin "object.__class__")==some true && PySem.W.mroIn K C (.type "object")==some true))))
end
section
variable {X:Cx}{pins:Pnx}{σ:St}{H:Hp}{s:Shared}
structure Caught (X:Cx)(pins:Pnx)(σ:St)(H:Hp)(s:Shared)(a C:Addr)(dx:Option Addr)(T:Addr):Prop where
 inv:Inv X pins σ H s
 obj:H a=some (xo a C dx false)
 fl:GZ s.heap a T
 hT:H T=none
 t1:X.s₀.heap.objs.size<=T
 t2:T≠X.env.locals
 t3:∀x c,X.env.cells.lookup x=some c->c≠T
 t4:∀p∈X.pn ++ pins,p.1≠T
def QG (I:Inv X pins σ H s)(h:s.heap.objs.size<=T):X.s₀.heap.objs.size<=T/\T≠X.env.locals/\(∀x c,X.env.cells.lookup x=some c->c≠T)/\∀p∈X.pn ++ pins,p.1≠T:=by
 refine⟨xar I.sz h,xdH (xal I.lt h),fun x c e=>?_,fun p hp=>?_⟩
 ·obtain⟨v,o,ho,_⟩:=I.cell x c e;exact xaE (xal (xaq ho) h)
 ·exact xaE (xal (xaq (I.pin p hp).1) h)
def Y7 (I:Inv X pins σ H s)(h:lC X.prog X.w X.stack H s E e s'):∃a C dx H' T,e=.ref a/\Caught X pins σ H' s' a C dx T/\E (.ref C) dx H':=by
 obtain⟨a,C,dx,H',T,rfl,os,bare,un,hok,ha,hT,hz,fl,hE⟩:=h;have I2:=I.call' os un hok bare (fun b z=>nomatch z)
 obtain⟨z1,z2,z3,z4⟩:=QG I hz;exact⟨a,C,dx,H',T,rfl,⟨I2,ha,fl,hT,z1,z2,z3,z4⟩,hE⟩
variable {a C T:Addr}{dx:Option Addr}{Q:Unit->Shared->Prop}{E:Value->Shared->Prop}{M:Model}
def Caught.note (c:Caught X pins σ H s a C dx T)(hs:X.stack=X.env::X.outer)(hf:X.env.frame=some X.env.locals)(k:∀s' T',Caught X pins σ H s' a C dx T'->Q () s'):
  wpAny M X.A (noteFrame (.ref a) X.env) (fun _ s2=>wpAny M X.A (setFlight (.ref a) none) Q E s2) E s:=by
 obtain ⟨oe, vs, t, e1, e2, e3, e4, e5, e6, _⟩ := X4 c.inv.hok c.obj;obtain ⟨oe', vs', oT, ts, f1, f2, f3, f4, f5, f6, f7⟩ := c.fl;rw [e1] at f1;cases f1;rw [e4] at f2;cases f2;have fr := c.inv.ok.frames;have st := c.inv.stack;rw [hs] at fr st;refine zbw fr st hf e1 e4 f3 f4 f5 f6 f7 fun h' T' N => Ur (s := { s with heap := h' }) N e1 e4 (by lia) fun h2 N2 => k _ T' ?_;have hx : ∃ vs t, oe.cls = .ref C /\ oe.dict = dx /\ oe.data = .fields vs /\ vs.size = 6 /\ vs[0]? = some (.ref t) := ⟨vs, t, e2, e3, e4, e5, e6⟩;rw [<- hs] at N2;have u := XH (ch := [T]) N2 c.obj (.inr (xaM.mpr rfl));have hk := R9 c.inv.hok N2 c.obj (.inr c.hT) (fun b hb => c.inv.stkFree b hb) hx;rw [zfc c.obj] at u hk;have I2 : Inv X pins σ H { s with heap := h2 } := c.inv.call' (s' := { s with heap := h2 }) rfl u hk c.inv.bare (fun b hb=>by
  rw[xaM.mp hb];exact⟨.inr c.t1,c.t2,c.t3,c.t4⟩)
 obtain⟨z1,z2,z3,z4⟩:=QG c.inv N2.new;exact⟨I2,c.obj,Uq N2 e1 e4 e5,c.inv.hok.fresh N2.new,z1,z2,z3,z4⟩
end
abbrev Cx.pin (X:Cx)(pins:Pnx)(E:Value->Shared->Prop):Cx:={X with pn:=X.pn ++ pins,xe:=E}
abbrev Cx.suite (X:Cx)(e:Value):Cx:={X with A:=X.A.mark (some e),calm:=false,xe:=fun _ _=>False}
def zcB {X:Cx}{CX:fQ}{k:Nat}{f:Addr}{fd:FuncData}{ps:List Str}{sp:Sp}{dvs:List V}{ds:List Value}{x:Str}{p pos:Pos}{e:Expr}{es:List Expr}{t:TA}{Ex:St->XK}(F:FnOk X.prog X.w X.K X.mg X.base CX k f fd ps sp)(hr:Room k X.A)(hg:Gl X x)
    (hm:X.mg x=some (.ref f)) (hk:PySem.W.keepIn X.K (.ref f)=true) (hb:Binds X.K fd ps ds) (hd:Vals dvs ds) (hx:∀pins σ H s e s',Inv X pins σ H s->CX X.stack H s (Ex σ) e s'->X.xe e s') (ha:PA X (e::es) t)
    (hdb:(x==("__debug__":Str))=false) (he:starEach (e::es) X.env=(false,eval e X.env)::starEach es X.env) (hpl:(backTo pos (starEach es X.env)).any (·.1)=false):
    PE X (.Call (.Name x p) (e::es) [] pos) (fun σ H Q=>t σ H fun vs H1=>sp (vs ++ dvs) H1 Q (Ex σ)):=by
  sr_in;refine xb3 (tZ I hg hm ?_ hdb);refine xb4 (h₀:=X.base) I.ok.mod.kin hk (aU (ha pos pins s σ H _ I h) fun us s1 ⟨vs,H1,I1,r,q⟩=>⟨I1.kIn,?_⟩) he hpl;have r2:Vals (vs ++ dvs) (us ++ ds):=r.append hd;have hl:(us ++ ds).length=ps.length:=by rw[<-r2.length];exact F.len _ _ _ _ q
  refine xdE (xcf (F.run X.A X.stack s1 H1 ⟨us,[]⟩ (us ++ ds) (vs ++ dvs) Q (Ex σ) hr I1.env0 (hb s1 us I1.kIn hl) r2 q) fun rr s' hq=>?_)
  cases rr with
  |error e=>exact hx pins σ H1 s1 e s' I1 hq
  |ok fl=>
    cases fl with
    |ret u=>exact I1.after hq
    |next=>exact False.elim hq
    |brk=>exact False.elim hq
    |cont=>exact False.elim hq
def ns_none_of {K:Fgx}{h:Heap}{N:Addr}{mg:Mgx}{n:Str}(X:K.In h)(G:h.Ns N mg)(e:PySem.W.nsIn K N n=some none):mg n=none:=by
 obtain⟨o,es,ep,ho,hd,_,hf⟩:=G;unfold PySem.W.nsIn at e;kjx_on
 ·rename_i q;have z:=X _ _ q;rw[ho]at z;cases z;cases hd;kjx_on
  ·cases e
  ·rename_i he;rw[<-hf];unfold nsFind findBy;rw[<-xej,he];rfl
 ·cases e
section
variable {X:Cx}
def Xr (C:Addr)(Q:VK)(vs:List V)(H:Hp):Prop:=vs.length=1/\∀a,H a=none->Q (.ref a) (upd H a (xo a C none true))
noncomputable def zfx (C:Addr) (te:TE):TE:=fun σ H Q=>te σ H fun v H1=>Xr C Q [v] H1
def zcr {C:Addr}{x:Str}{p pos:Pos}{e:Expr}{te:TE}(q1:dX X.K C=true)(q2:Dp X.K C=true)(kp:PySem.W.keepIn X.K (.ref C)=true)(hg:Gl X x)(hm:X.mg x=some (.ref C))(he:PE X e te)(hdb:(x==("__debug__":Str))=false)
  (hs:starEach [e] X.env=[(false,eval e X.env)]):PE X (.Call (.Name x p) [e] [] pos) (zfx C te):=by
 sr_in;refine xb3 (tZ I hg hm ?_ hdb);refine xb4 (h₀:=X.base) I.ok.mod.kin kp (aU (pF he rY hs pos pins s σ H (Xr C Q) I h) fun us s1 ⟨vs,H1,I1,r,q⟩=>⟨I1.kIn,?_⟩) hs rfl;obtain⟨nm,qn,N,bs,bm,sn,sub,ab,col,dd,k0,k1,k2,k3,k5,Y,lk⟩:=X3 I1.kIn q1;unfold Dp at q2;rw[lk]at q2;simp only[xbP]at q2;have c3:=ns_none_of I1.kIn Y.ns q2;have hl:us.length=1:=by
  rw[<-r.length,q.1]
 obtain⟨hh,g,d,t,os⟩:=s1;refine wpAny_call_exc_subU xcF (by x_go) xcF Y.tail Y.obj Y.ns c3 (fun h' a M=>?_) (by show us.length<=sizeLine;rw[hl,xa8];decide);obtain⟨t0,m1,_,_⟩:=M.there;obtain⟨hn,I2⟩:=I1.laidN (a:=a) (o:=xo a C none true) (t':=t) M.keeps M.new (X5 ⟨_,_,t0,m1,rfl,rfl,rfl,rfl,rfl,fun _=>rfl⟩);exact⟨V.ref a,_,I2,rfl,q.2 a hn⟩
end
end L2
namespace E3
open PySem PySem.Spec PyProof.Rows L2
inductive D where
 |non |bl (b:Bool) |int (i:Int) |str (s:Str) |tup (xs:List D) |lst (xs:List D) |ref (n:Nat)
structure FnT where
 st:Stmt
 x:Str
 q:Str
 pos:Pos
 fr:List Str
 dd:List Int:=[]
inductive Cl where
  |lst (ds:List D) |obj (c:Str) (fs:List (Str×D)) |dct (kvs:List (L2.Key×D))
    |dcf (kvs:List (L2.Key×D))
    |dtc (kvs:List (List L2.Key×D)) |dtf (kvs:List (List L2.Key×D))
    |fn (i:FnT) (caps:List (Str×D)) |tbl (nm:Str) (i:FnT)
    |tpc (ds:List D)
abbrev Mm:=List Cl
inductive Slot where
 |un |val (d:D) |own (ds:List D) |exc (c:Str) (n:Int)
abbrev Env:=List Slot
mutual
def D.lf:D->Bool
 |.tup xs=>D.lfs xs
 |.lst _=>false
 |.ref _=>false
 |_=>true
def D.lfs:List D->Bool
 | []=>true
 |a::as=>D.lf a && D.lfs as
end
def KL (K:Fgx)(a:Addr)(vs:List V):Prop:=∃(o:Obj) (its:Array Value) (n:Nat),K.lookup a=some o/\o.cls=.type "list"/\o.dict=none/\o.data=.seq its n/\its.size<=sizeLine/\Vals vs its.toList
structure Pl where
 io:Nat->Addr
 n:Nat
 bd:Addr->Prop
def wu (K:Fgx)(P:Pl)(H:Hp)(a:Addr)(vs:List V):Prop:=(¬ P.bd a/\Rd H a (.lst vs))\/KL K a vs
def PN (K:Fgx)(P:Pl)(H:Hp)(a:Addr)(vs:List V):Prop:=((∀k,k<P.n->P.io k≠a)/\Rd H a (.lst vs))\/KL K a vs
mutual
def Is (K:Fgx)(P:Pl)(H:Hp):D->V->Prop
 |.non,v=>v=.non
 |.bl b,v=>v=.bl b
 |.int i,v=>v=.int i
 |.str s,v=>v=.str s
 |.tup ds,v=>∃a vs,v=.ref a/\cI K H a vs/\aC K P H ds vs
 |.lst ds,v=>∃a vs,v=.ref a/\wu K P H a vs/\aC K P H ds vs
 |.ref k,v=>k<P.n/\v=.ref (P.io k)
def aC (K:Fgx)(P:Pl)(H:Hp):List D->List V->Prop
 | [],vs=>vs=[]
 |d::ds,vs=>∃v r,vs=v::r/\Is K P H d v/\aC K P H ds r
end
def Fx (o:HO):Prop:=(∃xs,o=.tup xs)\/(∃u w,o=.frz u w)\/(∃g,o=.ext g)\/∃fs,o=.xd fs
structure Lt (P:Pl)(H:Hp)(P':Pl)(H':Hp):Prop where
 n:P.n<=P'.n
 io:∀k,k<P.n->P'.io k=P.io k
 bd:∀a,P'.bd a->P.bd a\/H a=none
 keep:∀a o,H a=some o->(Fx o\/¬ P.bd a)->H' a=some o
 sure:∀a,H' a=none->H a=none
section
variable {K:Fgx}{P P' P'':Pl}{H H' H'':Hp}
def Lt.refl (P:Pl)(H:Hp):Lt P H P H:=⟨xaf _,fun _ _=>rfl,fun _ z=>.inl z,fun _ _ e _=>e,fun _ z=>z⟩
theorem Lt.frz (l:Lt P H P' H'):∀b o u,H b=some (.frz o u)->H' b=some (.frz o u):=fun b o u e=>l.keep b _ e (.inl (.inr (.inl ⟨_,_,rfl⟩)))
def Lt.fz (l:Lt P H P' H'):∀b o c,H b=some (.frz o (.own c))->H' b=some (.frz o (.own c)):=fun b o c e=>l.frz b o _ e
def Lt.not (l:Lt P H P' H')(e:H a=some o)(n:¬ P.bd a):¬ P'.bd a:=fun z=>(l.bd a z).elim n fun z=>by rw[e]at z;cases z
theorem Lt.trans (l:Lt P H P' H')(m:Lt P' H' P'' H''):Lt P H P'' H'' where
 n:=xar l.n m.n
 io:=fun k h=>(m.io k (xal h l.n)).trans (l.io k h)
 bd:=fun a z=>(m.bd a z).elim (l.bd a) fun z=>.inr (l.sure a z)
 keep:=fun a o e h=>m.keep a o (l.keep a o e h) (h.imp id fun n=>l.not e n)
 sure:=fun a z=>l.sure a (m.sure a z)
def Lt.rd (l:Lt P H P' H')(n:¬ P.bd a)(h:Rd H a (.lst xs)):Rd H' a (.lst xs):=by
 rcases h with h |⟨o,h⟩
 ·exact .inl (l.keep _ _ h (.inr n))
 ·exact .inr ⟨o,l.keep _ _ h (.inr n)⟩
def Vm (h:Rd H a o):∃o',H a=some o':=h.elim (fun h=>⟨_,h⟩) fun⟨_,h⟩=>⟨_,h⟩
def Lt.rda (l:Lt P H P' H')(h:wu K P H a xs):wu K P' H' a xs:=h.imp (fun⟨n,h⟩=>⟨by obtain⟨o,e⟩:=Vm h;exact l.not e n,l.rd n h⟩) id
def Lt.tup (l:Lt P H P' H')(h:cI K H a xs):cI K H' a xs:=by
 rcases h with(h |⟨o,h⟩) |h
 ·exact .inl (.inl (l.keep _ _ h (.inl (.inl ⟨_,rfl⟩))))
 ·exact .inl (.inr ⟨o,l.keep _ _ h (.inl (.inr (.inl ⟨_,_,rfl⟩)))⟩)
 ·exact .inr h
mutual
theorem Is.mv (n:P.n<=P'.n)(io:∀k,k<P.n->P'.io k=P.io k)(t:∀a vs,cI K H a vs->cI K H' a vs)(r:∀a vs,wu K P H a vs->wu K P' H' a vs):∀{d:D} {v:V},Is K P H d v->Is K P' H' d v
  |.non,_,h=>h
  |.bl _,_,h=>h
  |.int _,_,h=>h
  |.str _,_,h=>h
  |.tup ds,_,h=>by
    obtain⟨a,vs,e,s,q⟩:=h;exact⟨a,vs,e,t _ _ s,aC.mv n io t r q⟩
  |.lst ds,_,h=>by
    obtain⟨a,vs,e,s,q⟩:=h;exact⟨a,vs,e,r _ _ s,aC.mv n io t r q⟩
  |.ref k,_,h=>⟨xal h.1 n,by rw[io k h.1];exact h.2⟩
theorem aC.mv (n:P.n<=P'.n)(io:∀k,k<P.n->P'.io k=P.io k)(t:∀a vs,cI K H a vs->cI K H' a vs)(r:∀a vs,wu K P H a vs->wu K P' H' a vs):∀{ds:List D} {vs:List V},aC K P H ds vs->aC K P' H' ds vs
  | [],_,h=>h
  |_::_,_,h=>by
    obtain⟨v,w,e,p,q⟩:=h;exact⟨v,w,e,Is.mv n io t r p,aC.mv n io t r q⟩
end
def Is.lt (l:Lt P H P' H'){d:D}{v:V}(h:Is K P H d v):Is K P' H' d v:=Is.mv l.n l.io (fun _ _=>l.tup) (fun _ _=>l.rda) h
def aC.lt (l:Lt P H P' H'){ds:List D}{vs:List V}(h:aC K P H ds vs):aC K P' H' ds vs:=aC.mv l.n l.io (fun _ _=>l.tup) (fun _ _=>l.rda) h
def aC.rd (s:∀b xs,Rd H b (.tup xs)->Rd H' b (.tup xs))(t:∀b xs,Rd H b (.lst xs)->Rd H' b (.lst xs)){ds:List D}{vs:List V}(h:aC K P H ds vs):aC K P H' ds vs:=
 aC.mv (xaf _) (fun _ _=>rfl) (fun _ _=>xem (s _ _) id) (fun _ _=>xem (fun z=>⟨z.1,t _ _ z.2⟩) id) h
noncomputable def Pl.less (P:Pl) (B:Addr->Prop):Pl:={P with bd:=fun a=>P.bd a/\B a}
theorem Is.less (h:Is K P H d v):Is K (P.less B) H d v:=Is.mv (P:=P) (P':=P.less B) (xaf _) (fun _ _=>rfl) (fun _ _ z=>z) (fun _ _ s=>s.imp (fun⟨n,h⟩=>⟨fun z=>n z.1,h⟩) id) h
theorem aC.less (h:aC K P H ds vs):aC K (P.less B) H ds vs:=aC.mv (P:=P) (P':=P.less B) (xaf _) (fun _ _=>rfl) (fun _ _ z=>z) (fun _ _ s=>s.imp (fun⟨n,h⟩=>⟨fun z=>n z.1,h⟩) id) h
mutual
theorem Is.free (P':Pl):∀{d:D} {v:V},d.lf=true->Is K P H d v->Is K P' H d v
  |.non,_,_,h=>h
  |.bl _,_,_,h=>h
  |.int _,_,_,h=>h
  |.str _,_,_,h=>h
  |.tup ds,_,l,h=>by
    obtain⟨a,vs,e,s,r⟩:=h;exact⟨a,vs,e,s,aC.free P' (by simpa only[D.lf] using l) r⟩
  |.lst _,_,l,_=>by simp[D.lf]at l
  |.ref _,_,l,_=>by simp[D.lf]at l
theorem aC.free (P':Pl):∀{ds:List D} {vs:List V},D.lfs ds=true->aC K P H ds vs->aC K P' H ds vs
  | [],_,_,h=>h
  |_::_,_,l,h=>by
    obtain⟨v,r,e,p,q⟩:=h;simp only[D.lfs,xaD]at l;exact⟨v,r,e,Is.free P' l.1 p,aC.free P' l.2 q⟩
end
theorem aC.len:∀{ds:List D} {vs:List V},aC K P H ds vs->vs.length=ds.length
  | [],_,h=>by rw[show _=[] from h];rfl
  |d::ds,_,h=>by
    obtain⟨v,r,e,_,q⟩:=h;subst e
    simp[aC.len q]
theorem aC.get:∀{ds:List D} {vs:List V} {i:Nat} {d:D},aC K P H ds vs->ds[i]? =some d->∃v,vs[i]? =some v/\Is K P H d v
  | [],_,_,_,_,e=>by simp at e
  |d::ds,_,0,_,h,e=>by
    obtain⟨v,r,e',p,_⟩:=h
    simp at e
    subst e e';exact⟨v,rfl,p⟩
  |d::ds,_,i + 1,_,h,e=>by
    obtain⟨v,r,e',_,q⟩:=h;subst e'
    simpa using aC.get (i:=i) q (by simpa using e)
theorem aC.append:∀{ds es:List D} {vs ws:List V},aC K P H ds vs->aC K P H es ws->aC K P H (ds ++ es) (vs ++ ws)
  | [],_,_,_,h,q=>by rw[show _=[] from h];exact q
  |d::ds,_,_,_,h,q=>by
    obtain⟨v,r,e,p,h⟩:=h;subst e;exact⟨v,r ++ _,rfl,p,aC.append h q⟩
theorem aC.take:∀{ds:List D} {vs:List V} (n:Nat),aC K P H ds vs->aC K P H (ds.take n) (vs.take n)
  |_,_,0,_=>rfl
  | [],_,n + 1,h=>by rw[show _=[] from h];rfl
  |d::ds,_,n + 1,h=>by
    obtain⟨v,r,e,p,h⟩:=h;subst e;exact⟨v,_,rfl,p,aC.take n h⟩
theorem aC.drop:∀{ds:List D} {vs:List V} (n:Nat),aC K P H ds vs->aC K P H (ds.drop n) (vs.drop n)
  |_,_,0,h=>h
  | [],_,n + 1,h=>by rw[show _=[] from h];rfl
  |d::ds,_,n + 1,h=>by
    obtain⟨v,r,e,p,h⟩:=h;subst e;exact aC.drop n h
def aC.one (h:Is K P H d v):aC K P H [d] [v]:=⟨v,[],rfl,h,rfl⟩
theorem aC.set:∀{ds:List D} {vs:List V} {d:D} {v:V} (n:Nat),aC K P H ds vs->Is K P H d v->aC K P H (ds.set n d) (vs.set n v)
  | [],_,_,_,_,h,_=>by rw[show _=[] from h];rfl
  |d::ds,_,_,_,0,h,p=>by
    obtain⟨v,r,e,_,h⟩:=h;subst e;exact⟨_,r,rfl,p,h⟩
  |d::ds,_,_,_,n + 1,h,p=>by
    obtain⟨v,r,e,q,h⟩:=h;subst e;exact⟨v,_,rfl,q,aC.set n h p⟩
end
noncomputable def lX (H:Hp):List (Str×Addr)->List V->Prop
 | [],vs=>vs=[]
 |p::r,vs=>∃v ws u o,vs=v::ws/\RelV v u/\H p.2=some (.frz o (.own p.2))/\o.data=.cell (some u)/\lX H r ws
theorem lX.up {H H':Hp}(s:∀b o u,H b=some (.frz o (.own u))->H' b=some (.frz o (.own u))):∀{cl:List (Str×Addr)} {vs:List V},lX H cl vs->lX H' cl vs
  | [],_,h=>h
  |_::_,_,h=>by
    obtain⟨v,ws,u,o,e,r,q,d,h⟩:=h;exact⟨v,ws,u,o,e,r,s _ _ _ q,d,h.up s⟩
def fV (H:Hp)(c:Addr)(q:Str):Prop:=∃(o:Obj) (fs:Array Value) (t:Tok),H c=some (.frz o (.own c))/\o.data=.fields fs/\fs[1]? =some (.str q t)
def fV.up {H H':Hp}{c:Addr}{q:Str}(s:∀b o u,H b=some (.frz o (.own u))->H' b=some (.frz o (.own u)))(h:fV H c q):fV H' c q:=by
 obtain⟨o,fs,t,e,r⟩:=h;exact⟨o,fs,t,s _ _ _ e,r⟩
def fj (H:Hp)(dd:List Int)(dV:Value):Prop:=(dd=[]/\dV=.none)\/(dd≠ []/\∃(td:Addr) (o:Obj) (its:Array Value) (n:Nat),dV=.ref td/\H td=some (.frz o (.own td))/\o.data=.seq its n/\Vals (dd.map V.int) its.toList)
def fj.up {H H':Hp}{dd:List Int}{dV:Value}(s:∀b o u,H b=some (.frz o (.own u))->H' b=some (.frz o (.own u)))(h:fj H dd dV):fj H' dd dV:=
 h.imp id fun⟨e,td,o,its,n,e1,e2,r⟩=>⟨e,td,o,its,n,e1,s _ _ _ e2,r⟩
noncomputable def nY (mg:Mgx) (i:FnT) (cl:List (Str×Addr)) (dV doc ctv:Value) (c:Addr):Obj:={cls:=.type "function",data:=.func (PySem.W.fnX i.x i.q (dh i.st) (cB i.st) (aL i.st) cl dV .none doc ((mg "__name__").getD .none) none (.ref c) ctv)}
def nM (K:Fgx)(mg:Mgx)(P:Pl)(H:Hp)(a:Addr)(i:FnT)(caps:List (Str×D)):Prop:=
 ∃(cl:List (Str×Addr)) (dV doc ctv:Value) (c:Addr) (vs:List V),H a=some (.frz (nY mg i cl dV doc ctv c) (.own a))/\(fV H c i.q/\fj H i.dd dV)/\(cl.map (·.1)=caps.map (·.1)/\caps.map (·.1)=i.fr)/\aC K P H (caps.map (·.2)) vs/\lX H cl vs/\∀x y a,cl.lookup x=some a->cl.lookup y=some a->x=y
theorem nM.up {K:Fgx}{mg:Mgx}{P P':Pl}{H H':Hp}{a:Addr}{i:FnT}{caps:List (Str×D)}(h:nM K mg P H a i caps)(s:∀b o u,H b=some (.frz o (.own u))->H' b=some (.frz o (.own u)))(q:∀ds vs,aC K P H ds vs->aC K P' H' ds vs):nM K mg P' H' a i caps:=by
 obtain⟨cl,dV,doc,ctv,c,vs,e1,e2,e3,e4,e5,e6⟩:=h;exact⟨cl,dV,doc,ctv,c,vs,s _ _ _ e1,⟨e2.1.up s,e2.2.up s⟩,e3,q _ _ e4,e5.up s,e6⟩
def Ho (K:Fgx)(H:Hp)(a:Addr)(nm:Str)(i:FnT):Prop:=
 ∃(c:Addr) (ps:Array Value),PySem.W.tabIn K nm=some (c,a)/\H a=some (.tbl ps)/\(ps= #[]\/∃c',ps= #[rawInt i.pos.line,rawInt i.pos.col,.ref c']/\fV H c' i.q)
noncomputable def pO (K:Fgx) (mg:Mgx) (P:Pl) (H:Hp) (a:Addr):Cl->Prop
 |.lst ds=>∃vs,H a=some (.lst vs)/\aC K P H ds vs
 |.obj c fs=>∃C dx gs,mg c=some (.ref C)/\H a=some (.ins C dx gs)/\gs.map (·.1)=fs.map (·.1)/\aC K P H (fs.map (·.2)) (gs.map (·.2))
 |.dct kvs=>∃vs:List (L2.Key×V),H a=some (.dK vs)/\vs.map (·.1)=kvs.map (·.1)/\aC K P H (kvs.map (·.2)) (vs.map (·.2))
 |.dcf kvs=>∃(vs:List (L2.Key×V)) (ob:Obj) (es:Array DictEntry) (ep:Nat),H a=some (.frz ob (.dK vs))/\ob.data=.dict es ep/\vs.map (·.1)=kvs.map (·.1)/\aC K P H (kvs.map (·.2)) (vs.map (·.2))
 |.dtc kvs=>∃vs:List (List L2.Key×V),H a=some (.dT vs)/\vs.map (·.1)=kvs.map (·.1)/\aC K P H (kvs.map (·.2)) (vs.map (·.2))
 |.dtf kvs=>∃(vs:List (List L2.Key×V)) (ob:Obj) (es:Array DictEntry) (ep:Nat),H a=some (.frz ob (.dT vs))/\ob.data=.dict es ep/\vs.map (·.1)=kvs.map (·.1)/\aC K P H (kvs.map (·.2)) (vs.map (·.2))
 |.fn i caps=>nM K mg P H a i caps
 |.tbl nm i=>Ho K H a nm i
 |.tpc ds=>∃vs,H a=some (.tup vs)/\aC K P H ds vs
noncomputable def Cl.fix:Cl->Bool
 |.dcf _=>true
 |.dtf _=>true
 |.fn _ _=>true
 |.tpc _=>true
 |_=>false
theorem pO.up {K:Fgx}{mg:Mgx}{P P':Pl}{H H':Hp}{a:Addr}{c:Cl}(h:pO K mg P H a c)(e:∀o,H a=some o->(∀g,o≠ .ext g)->H' a=some o)(s:∀b o u,H b=some (.frz o (.own u))->H' b=some (.frz o (.own u)))(q:∀ds vs,aC K P H ds vs->aC K P' H' ds vs):pO K mg P' H' a c:=by
  cases c with
  |lst ds=>
    obtain⟨vs,e1,r⟩:=h;exact⟨vs,e _ e1 (fun _ z=>nomatch z),q _ _ r⟩
  |obj c fs=>
    obtain⟨C,dx,gs,e1,e2,e3,r⟩:=h;exact⟨C,dx,gs,e1,e _ e2 (fun _ z=>nomatch z),e3,q _ _ r⟩
  |dct kvs=>
    obtain⟨vs,e1,e2,r⟩:=h;exact⟨vs,e _ e1 (fun _ z=>nomatch z),e2,q _ _ r⟩
  |dtc kvs=>
    obtain⟨vs,e1,e2,r⟩:=h;exact⟨vs,e _ e1 (fun _ z=>nomatch z),e2,q _ _ r⟩
  |dcf kvs=>
    obtain⟨vs,ob,es,ep,e1,eD,e2,r⟩:=h;exact⟨vs,ob,es,ep,e _ e1 (fun _ z=>nomatch z),eD,e2,q _ _ r⟩
  |dtf kvs=>
    obtain⟨vs,ob,es,ep,e1,eD,e2,r⟩:=h;exact⟨vs,ob,es,ep,e _ e1 (fun _ z=>nomatch z),eD,e2,q _ _ r⟩
  |fn i caps=>exact nM.up h s q
  |tbl nm i=>
    obtain⟨c,ps,e1,e2,e3⟩:=h;exact⟨c,ps,e1,e _ e2 (fun _ z=>nomatch z),e3.imp id fun⟨c',z,r⟩=>⟨c',z,r.up s⟩⟩
  |tpc ds=>
    obtain⟨vs,e1,r⟩:=h;exact⟨vs,e _ e1 (fun _ z=>nomatch z),q _ _ r⟩
structure Hk (K:Fgx)(mg:Mgx)(P:Pl)(H:Hp)(M:Mm):Prop where
 n:P.n=M.length
 cell:∀(k:Nat) c,M[k]? =some c->pO K mg P H (P.io k) c
 inj:∀j k,j<P.n->k<P.n->P.io j=P.io k->j=k
 bd:∀k,k<P.n->P.bd (P.io k)
 here:∀a,P.bd a->H a≠none
structure LtE (P:Pl)(H:Hp)(P':Pl)(H':Hp):Prop where
 n:P.n<=P'.n
 io:∀k,k<P.n->P'.io k=P.io k
 bd:∀a,P'.bd a->P.bd a\/H a=none
 bm:∀a,P.bd a->P'.bd a
 keep:∀a o,H a=some o->(Fx o\/∀k,k<P.n->P.io k≠a)->H' a=some o
 sure:∀a,H' a=none->H a=none
 nw:∀k,P.n<=k->k<P'.n->H (P'.io k)=none
section
variable {K:Fgx}{mg:Mgx}{P P' P'':Pl}{H H' H'':Hp}{M M':Mm}
def LtE.refl (P:Pl)(H:Hp):LtE P H P H:=⟨xaf _,fun _ _=>rfl,fun _ z=>.inl z,fun _ z=>z,fun _ _ e _=>e,fun _ z=>z,fun k h1 h2=>absurd h1 (xd8.mpr h2)⟩
def LtE.same (s:Same H H'):LtE P H P H':=⟨xaf _,fun _ _=>rfl,fun _ z=>.inl z,fun _ z=>z,fun a o e _=>s a o e,fun a z=>s.free z,fun k h1 h2=>absurd h1 (xd8.mpr h2)⟩
def Hk.cellAt (h:Hk K mg P H M)(hc:M[k]? =some c)(nd:c.fix=false:=by rfl):∃o,H (P.io k)=some o/\¬ Fx o:=by
  have:=h.cell k c hc
  cases c with
  |lst ds=>
    obtain⟨vs,e,_⟩:=this;exact⟨_,e,fun z=>by rcases z with⟨_,z⟩ |⟨_,_,z⟩ |⟨_,z⟩ |⟨_,z⟩<;>cases z⟩
  |obj c fs=>
    obtain⟨C,dx,gs,_,e,_⟩:=this;exact⟨_,e,fun z=>by rcases z with⟨_,z⟩ |⟨_,_,z⟩ |⟨_,z⟩ |⟨_,z⟩<;>cases z⟩
  |dct kvs=>
    obtain⟨vs,e,_⟩:=this;exact⟨_,e,fun z=>by rcases z with⟨_,z⟩ |⟨_,_,z⟩ |⟨_,z⟩ |⟨_,z⟩<;>cases z⟩
  |dtc kvs=>
    obtain⟨vs,e,_⟩:=this;exact⟨_,e,fun z=>by rcases z with⟨_,z⟩ |⟨_,_,z⟩ |⟨_,z⟩ |⟨_,z⟩<;>cases z⟩
  |dcf kvs=>cases nd
  |dtf kvs=>cases nd
  |fn i caps=>cases nd
  |tpc ds=>cases nd
  |tbl nm i=>
    obtain⟨c,ps,_,e,_⟩:=this;exact⟨_,e,fun z=>by rcases z with⟨_,z⟩ |⟨_,_,z⟩ |⟨_,z⟩ |⟨_,z⟩<;>cases z⟩
def LtE.lt (l:LtE P H P' H')(h:Hk K mg P H M):Lt P H P' H' where
 n:=l.n
 io:=l.io
 bd:=l.bd
 sure:=l.sure
 keep:=fun a o e z=>l.keep a o e (z.imp id fun z k hk q=>z (q ▸ h.bd k hk))
theorem LtE.trans (l:LtE P H P' H')(m:LtE P' H' P'' H''):LtE P H P'' H'' where
 n:=xar l.n m.n
 io:=fun k h=>(m.io k (xal h l.n)).trans (l.io k h)
 bd:=fun a z=>(m.bd a z).elim (l.bd a) fun z=>.inr (l.sure a z)
 bm:=fun a z=>m.bm a (l.bm a z)
 keep:=fun a o e h=>m.keep a o (l.keep a o e h) <| h.imp id fun h k hk q=>by
  rcases xa2 k P.n with z |z
  ·rw[l.io k z]at q;exact h k z q
  ·rw[<-q,l.nw k z hk]at e;cases e
 sure:=fun a z=>l.sure a (m.sure a z)
 nw:=fun k h1 h2=>by
  rcases xa2 k P'.n with z |z
  ·rw[m.io k z];exact l.nw k h1 z
  ·exact l.sure _ (m.nw k z h2)
end
inductive Cp where
 |eq |ne |lt |le |gt |ge |isin |notin |same |other
mutual
def D.eq:D->D->Bool
 |.non,.non=>true
 |.bl a,.bl b=>a==b
 |.bl a,.int b=>(if a then 1 else 0)==b
 |.int a,.bl b=>a==(if b then 1 else 0)
 |.int a,.int b=>a==b
 |.str a,.str b=>a==b
 |.tup a,.tup b=>D.eqs a b
 |.lst a,.lst b=>D.eqs a b
 |.ref a,.ref b=>a==b
 |_,_=>false
def D.eqs:List D->List D->Bool
 | [],[]=>true
 |a::as,b::bs=>D.eq a b && D.eqs as bs
 |_,_=>false
end
mutual
def D.dep:D->Nat
 |.tup xs=>D.deps xs + 1
 |.lst xs=>D.deps xs + 1
 |.ref _=>101
 |_=>0
def D.deps:List D->Nat
 | []=>0
 |a::as=>max (D.dep a) (D.deps as)
end
noncomputable def D.flat:D->Bool
 |.tup _=>false
 |.lst _=>false
 |.ref _=>false
 |_=>true
noncomputable def Ss (i j:Str):Bool:= !(Builtin.Str.occurrences j i 0 j.length 1).isEmpty
def fB (a b:D):Bool:=a.flat==b.flat && decide (b.dep<=50)
noncomputable def tM (a b:D):Option Bool:=if fB a b=true/\a.dep<=50 then some (D.eq a b) else none
noncomputable def tQ (a b:D):Option Bool:=if fB a b=true/\a.dep<=50 then some (!D.eq a b) else none
noncomputable def dU (f:Int->Int->Bool) (a b:D):Option Bool:=match a with
 |.int i=>(match b with |.int j=>some (f i j) |_=>none)
 |_=>none
noncomputable def tO (a b:D):Option Bool:=match b with
 |.str j=>(match a with |.str i=>some (Ss i j) |_=>none)
 |.lst xs=>if (a.flat && xs.all D.flat)=true then some (xs.any fun y=>D.eq y a) else none
 |.tup xs=>if (a.flat && xs.all D.flat)=true then some (xs.any fun y=>D.eq y a) else none
 |_=>none
noncomputable def fW (a b:D):Option Bool:=match b with
 |.str j=>(match a with |.str i=>some (!Ss i j) |_=>none)
 |.lst xs=>if (a.flat && xs.all D.flat)=true then some (!xs.any fun y=>D.eq y a) else none
 |.tup xs=>if (a.flat && xs.all D.flat)=true then some (!xs.any fun y=>D.eq y a) else none
 |_=>none
noncomputable def tU (a b:D):Option Bool:=match b with
 |.bl b=>(match a with |.bl a=>some (a==b) |_=>some false)
 |.non=>(match a with |.non=>some true |_=>some false)
 |_=>none
noncomputable def tR (a b:D):Option Bool:=match b with
 |.bl b=>(match a with |.bl a=>some (!(a==b)) |_=>some true)
 |.non=>(match a with |.non=>some false |_=>some true)
 |_=>none
noncomputable def c7 (c:Cp) (a b:D):Option Bool:=match c with
 |.eq=>tM a b
 |.ne=>tQ a b
 |.lt=>dU (fun i j=>decide (i<j)) a b
 |.le=>dU (fun i j=>decide (i<=j)) a b
 |.gt=>dU (fun i j=>decide (j<i)) a b
 |.ge=>dU (fun i j=>decide (j<=i)) a b
 |.isin=>tO a b
 |.notin=>fW a b
 |.same=>tU a b
 |.other=>tR a b
noncomputable def dD (K:Fgx) (P:Pl) (H:Hp):D->V->Prop
 |.lst ds,v=>∃a vs,v=.ref a/\PN K P H a vs/\aC K P H ds vs
 |d,v=>Is K P H d v
section
variable {X:Cx}{pins:Pnx}{σ:L2.St}{H:Hp}{s:Shared}
def zgI {K:Fgx}{P:Pl}{a:Addr}{xs:List V}(h:PN K P H a xs):b_ K H a xs:=h.imp (·.2) id
noncomputable def cg (K:Fgx) (P:Pl) (H:Hp):D->V->Prop
 |.lst ds,v=>∃a vs,v=.ref a/\b_ K H a vs/\aC K P H ds vs
 |d,v=>Is K P H d v
def dD.w {K:Fgx}{P:Pl}{d:D}{v:V}(h:dD K P H d v):cg K P H d v:=by
 cases d<;>first |exact h |(obtain⟨a,vs,e,r,q⟩:=h;exact⟨a,vs,e,zgI r,q⟩)
def Is.w {K:Fgx}{P:Pl}{d:D}{v:V}(h:Is K P H d v):cg K P H d v:=by
 cases d<;>first |exact h |(obtain⟨a,vs,e,r,q⟩:=h;exact⟨a,vs,e,r.imp (·.2) id,q⟩)
def sql (I:Inv X pins σ H s)(h:b_ X.K H l xs):xs.length<=sizeLine/\∃its:List Value,Vals xs its/\s.heap.IsList l its.toArray:=by
 obtain⟨its,r,p,z⟩:=I.list h;exact⟨z,its,r,p.isList⟩
mutual
theorem Is.inj (I:Inv X pins σ H s):∀(d e:D) (v:V),cg X.K A H d v->cg X.K B H e v->d.dep<=100->e.dep<=100->d=e
  |.ref _,e,v,h,h',hd,he=>by simp[D.dep]at hd
  |.non,e,v,h,h',hd,he=>by
    have hv:v=.non:=h;subst hv;cases e<;>first |(simp[D.dep]at he;done) |(simp[cg,Is]at h'<;>rfl)
  |.bl b,e,v,h,h',hd,he=>by
    have hv:v=.bl b:=h;subst hv;cases e<;>first |(simp[D.dep]at he;done) |(simp[cg,Is]at h'<;>simp[h'])
  |.int b,e,v,h,h',hd,he=>by
    have hv:v=.int b:=h;subst hv;cases e<;>first |(simp[D.dep]at he;done) |(simp[cg,Is]at h'<;>simp[h'])
  |.str b,e,v,h,h',hd,he=>by
    have hv:v=.str b:=h;subst hv;cases e<;>first |(simp[D.dep]at he;done) |(simp[cg,Is]at h'<;>simp[h'])
  |.tup ds,e,v,h,h',hd,he=>by
    simp only[D.dep]at hd;simp only[cg,Is]at h;obtain⟨a,vs,rfl,t,r⟩:=h
    cases e with
    |tup es=>
      simp only[cg,Is]at h';obtain⟨b,ws,e1,t',r'⟩:=h';cases e1;have e2:=I.tuple_inj t t';subst e2;simp only[D.dep]at he;rw[aC.inj I ds es vs r r' (by lia) (by lia)]
    |lst es=>
      obtain⟨b,ws,e1,t',r'⟩:=h';cases e1;obtain⟨_,its,_,o2,e2,c2,_⟩:=sql I t';obtain⟨its2,_,⟨o,e3,c3,_⟩,_⟩:=I.tuple t;rw[e2]at e3;cases e3;rw[c2]at c3;exact absurd c3 (by simp)
    |ref _=>simp[D.dep]at he
    |_=>simp[cg,Is]at h'
  |.lst ds,e,v,h,h',hd,he=>by
    simp only[D.dep]at hd;obtain⟨a,vs,rfl,t,r⟩:=h
    cases e with
    |lst es=>
      obtain⟨b,ws,e1,t',r'⟩:=h';cases e1;have e2:=I.list_inj (t) (t');subst e2;simp only[D.dep]at he;rw[aC.inj I ds es vs r r' (by lia) (by lia)]
    |tup es=>
      simp only[cg,Is]at h';obtain⟨b,ws,e1,t',r'⟩:=h';cases e1;obtain⟨_,its,_,o2,e2,c2,_⟩:=sql I t;obtain⟨its2,_,⟨o,e3,c3,_⟩,_⟩:=I.tuple t';rw[e2]at e3;cases e3;rw[c2]at c3;exact absurd c3 (by simp)
    |ref _=>simp[D.dep]at he
    |_=>simp[cg,Is]at h'
theorem aC.inj (I:Inv X pins σ H s):∀(ds es:List D) (vs:List V),aC X.K A H ds vs->aC X.K B H es vs->D.deps ds<=100->D.deps es<=100->ds=es
  | [],es,vs,h,h',hd,he=>by
    have hv:vs=[]:=h;subst hv
    cases es with
    |nil=>rfl
    |cons=>simp[aC]at h'
  |d::ds,es,vs,h,h',hd,he=>by
    simp only[D.deps]at hd;obtain⟨v,r,rfl,p,q⟩:=h
    cases es with
    |nil=>simp[aC]at h'
    |cons e es=>
      obtain⟨v',r',e1,p',q'⟩:=h';cases e1;simp only[D.deps]at he;rw[Is.inj I d e v p.w p'.w (by lia) (by lia),aC.inj I ds es r q q' (by lia) (by lia)]
end
mutual
theorem D.eq_refl:∀d:D,D.eq d d=true
 |.non=>rfl
 |.bl b=>by simp[D.eq]
 |.int b=>by simp[D.eq]
 |.str b=>by simp[D.eq]
 |.tup ds=>by simp only[D.eq];exact D.eqs_refl ds
 |.lst ds=>by simp only[D.eq];exact D.eqs_refl ds
 |.ref n=>by simp[D.eq]
theorem D.eqs_refl:∀d:List D,D.eqs d d=true
 | []=>rfl
 |d::ds=>by simp only[D.eqs,D.eq_refl d,D.eqs_refl ds,xeb]
end
theorem D.eqs_len:∀(ds es:List D),ds.length≠es.length->D.eqs ds es=false
  | [],[],h=>absurd rfl h
  | [],_::_,_=>rfl
  |_::_,[],_=>rfl
  |d::ds,e::es,h=>by
    simp only[D.eqs,D.eqs_len ds es (by simpa using h),Bool.and_false]
theorem D.eqs_all:∀(ds es:List D),ds.length=es.length->D.eqs ds es=(List.range ds.length).all fun j=>D.eq (ds.getD j .non) (es.getD j .non)
  | [],[],_=>rfl
  |d::ds,e::es,h=>by
    rw[D.eqs,D.eqs_all ds es (by simpa using h),xaw,List.range_succ_eq_map,xb9,List.all_map];rfl
def Vl {Ar:Around}{s:Shared}{a b:Addr}{its its':List Value}{ds es:List D}(l1:its.toArray.size=ds.length)(l2:its'.toArray.size=es.length)(p:s.heap.IsTuple a its.toArray)(p':s.heap.IsTuple b its'.toArray)(hu:Ar.units<cLine)
  (ea:∀(j:Nat) (j1:j<its.toArray.size) (j2:j<its'.toArray.size),SeqAt.EqAt Ar.in1 s its.toArray[j] its'.toArray[j] (D.eq (ds.getD j .non) (es.getD j .non))):
  SeqAt.RcAt Ar s (.ref a) (.ref b) (D.eq (.tup ds) (.tup es))/\SeqAt.RcNeAt Ar s (.ref a) (.ref b) (!D.eq (.tup ds) (.tup es)):=by
 have key:=SeqAt.RcAt.tuples (A:=Ar) (s:=s) (e:=fun j=>D.eq (ds.getD j .non) (es.getD j .non)) p p' hu ea;have kn:=SeqAt.RcNeAt.tuples (A:=Ar) (s:=s) (e:=fun j=>D.eq (ds.getD j .non) (es.getD j .non)) p p' hu ea;rw[l1,l2]at key kn;rw[show D.eq (.tup ds) (.tup es)=D.eqs ds es from rfl]
 by_cases hl:ds.length=es.length
 ·rw[D.eqs_all ds es hl];rw[hl,Nat.min_self,xbL,Bool.and_true]at key kn;rw[hl];exact⟨key,kn⟩
 ·rw[D.eqs_len ds es hl];rw[xbo.mpr hl,Bool.and_false]at key kn;exact⟨key,kn⟩
def Vk {Ar:Around}{s:Shared}{a b:Addr}{its its':List Value}{ds es:List D}(l1:its.toArray.size=ds.length)(l2:its'.toArray.size=es.length)(p:s.heap.IsList a its.toArray)(p':s.heap.IsList b its'.toArray)(hu:Ar.units<cLine)
  (ea:∀(j:Nat) (j1:j<its.toArray.size) (j2:j<its'.toArray.size),SeqAt.EqAt Ar.in1 s its.toArray[j] its'.toArray[j] (D.eq (ds.getD j .non) (es.getD j .non))):
  SeqAt.RcAt Ar s (.ref a) (.ref b) (D.eq (.lst ds) (.lst es))/\SeqAt.RcNeAt Ar s (.ref a) (.ref b) (!D.eq (.lst ds) (.lst es)):=by
 rw[show D.eq (.lst ds) (.lst es)=D.eqs ds es from rfl]
 by_cases hl:ds.length=es.length
 ·have key:=SeqAt.RcAt.lists (A:=Ar) (s:=s) (e:=fun j=>D.eq (ds.getD j .non) (es.getD j .non)) p p' (by rw[l1,l2,hl]) hu ea;have kn:=SeqAt.RcNeAt.lists (A:=Ar) (s:=s) (e:=fun j=>D.eq (ds.getD j .non) (es.getD j .non)) p p' (by rw[l1,l2,hl]) hu ea;rw[D.eqs_all ds es hl];rw[l1]at key kn;exact⟨key,kn⟩
 ·rw[D.eqs_len ds es hl];exact⟨SeqAt.RcAt.lists_lengths p p' (by rw[l1,l2];simpa using hl) hu,SeqAt.RcNeAt.lists_lengths p p' (by rw[l1,l2];simpa using hl) hu⟩
mutual
theorem Ji (I:Inv X pins σ H s):∀(d e:D) (v w:V) (u u':Value),cg X.K A H d v->cg X.K B H e w->RelV v u->RelV w u'->Ar.units + d.dep<cLine->d.dep<=100->e.dep<=100->SeqAt.EqAt Ar s u u' (D.eq d e)
  |.ref _,e,v,w,u,u',h1,h2,r1,r2,hu,hd,he=>by simp[D.dep]at hd
  |.non,e,v,w,u,u',h1,h2,r1,r2,hu,hd,he=>by
    have hv:v=.non:=h1;subst hv;cases r1;have hu':Ar.units<cLine:=by lia
    cases e with
    |ref _=>simp[D.dep]at he
    |non=>have hw:w=.non:=h2;subst hw;cases r2;exact xc2 _
    |bl b=>have hw:w=.bl b:=h2;subst hw;cases r2;exact SeqAt.EqAt.none_bool _
    |int b=>have hw:w=.int b:=h2;subst hw;obtain⟨t,rfl⟩:=r2;exact SeqAt.EqAt.none_int _ _
    |str b=>have hw:w=.str b:=h2;subst hw;obtain⟨t,rfl⟩:=r2;exact SeqAt.EqAt.none_str _ _
    |tup es=>obtain⟨a,vs,rfl,t,_⟩:=h2;cases r2;obtain⟨its,_,p,_⟩:=I.tuple t;exact SeqAt.EqAt.none_tuple p hu'
    |lst es=>obtain⟨a,vs,rfl,t,_⟩:=h2;cases r2;obtain⟨_,its,_,p⟩:=sql I t;exact SeqAt.EqAt.none_list p hu'
  |.bl x,e,v,w,u,u',h1,h2,r1,r2,hu,hd,he=>by
    have hv:v=.bl x:=h1;subst hv;cases r1;have hu':Ar.units<cLine:=by lia
    cases e with
    |ref _=>simp[D.dep]at he
    |non=>have hw:w=.non:=h2;subst hw;cases r2;exact SeqAt.EqAt.bool_none _
    |bl b=>have hw:w=.bl b:=h2;subst hw;cases r2;exact SeqAt.EqAt.bool_bool _ _
    |int b=>have hw:w=.int b:=h2;subst hw;obtain⟨t,rfl⟩:=r2;exact SeqAt.EqAt.bool_int _ _ _
    |str b=>have hw:w=.str b:=h2;subst hw;obtain⟨t,rfl⟩:=r2;exact SeqAt.EqAt.bool_str _ _ _
    |tup es=>obtain⟨a,vs,rfl,t,_⟩:=h2;cases r2;obtain⟨its,_,p,_⟩:=I.tuple t;exact SeqAt.EqAt.bool_tuple _ p hu'
    |lst es=>obtain⟨a,vs,rfl,t,_⟩:=h2;cases r2;obtain⟨_,its,_,p⟩:=sql I t;exact SeqAt.EqAt.bool_list _ p hu'
  |.int x,e,v,w,u,u',h1,h2,r1,r2,hu,hd,he=>by
    have hv:v=.int x:=h1;subst hv;obtain⟨t0,rfl⟩:=r1;have hu':Ar.units<cLine:=by lia
    cases e with
    |ref _=>simp[D.dep]at he
    |non=>have hw:w=.non:=h2;subst hw;cases r2;exact SeqAt.EqAt.int_none _ _
    |bl b=>have hw:w=.bl b:=h2;subst hw;cases r2;exact SeqAt.EqAt.int_bool _ _ _
    |int b=>have hw:w=.int b:=h2;subst hw;obtain⟨t,rfl⟩:=r2;exact xdm _ _ _ _
    |str b=>have hw:w=.str b:=h2;subst hw;obtain⟨t,rfl⟩:=r2;exact xdj _ _ _ _
    |tup es=>obtain⟨a,vs,rfl,t,_⟩:=h2;cases r2;obtain⟨its,_,p,_⟩:=I.tuple t;exact SeqAt.EqAt.int_tuple _ _ p hu'
    |lst es=>obtain⟨a,vs,rfl,t,_⟩:=h2;cases r2;obtain⟨_,its,_,p⟩:=sql I t;exact SeqAt.EqAt.int_list _ _ p hu'
  |.str x,e,v,w,u,u',h1,h2,r1,r2,hu,hd,he=>by
    have hv:v=.str x:=h1;subst hv;obtain⟨t0,rfl⟩:=r1;have hu':Ar.units<cLine:=by lia
    cases e with
    |ref _=>simp[D.dep]at he
    |non=>have hw:w=.non:=h2;subst hw;cases r2;exact SeqAt.EqAt.str_none _ _
    |bl b=>have hw:w=.bl b:=h2;subst hw;cases r2;exact SeqAt.EqAt.str_bool _ _ _
    |int b=>have hw:w=.int b:=h2;subst hw;obtain⟨t,rfl⟩:=r2;exact xdk _ _ _ _
    |str b=>have hw:w=.str b:=h2;subst hw;obtain⟨t,rfl⟩:=r2;exact xdn _ _ _ _
    |tup es=>obtain⟨a,vs,rfl,t,_⟩:=h2;cases r2;obtain⟨its,_,p,_⟩:=I.tuple t;exact SeqAt.EqAt.str_tuple _ _ p hu'
    |lst es=>obtain⟨a,vs,rfl,t,_⟩:=h2;cases r2;obtain⟨_,its,_,p⟩:=sql I t;exact SeqAt.EqAt.str_list _ _ p hu'
  |.tup ds,e,v,w,u,u',h1,h2,r1,r2,hu,hd,he=>by
    have h1':=h1;have hd':=hd;simp only[D.dep]at hu hd;have hu':Ar.units<cLine:=by lia
    obtain⟨a,vs,rfl,t,q⟩:=h1;cases r1;obtain⟨its,rv,p,hz⟩:=I.tuple t
    cases e with
    |ref _=>simp[D.dep]at he
    |non=>have hw:w=.non:=h2;subst hw;cases r2;exact SeqAt.EqAt.tuple_none p hu'
    |bl b=>have hw:w=.bl b:=h2;subst hw;cases r2;exact SeqAt.EqAt.tuple_bool _ p hu'
    |int b=>have hw:w=.int b:=h2;subst hw;obtain⟨t,rfl⟩:=r2;exact SeqAt.EqAt.tuple_int _ _ p hu'
    |str b=>have hw:w=.str b:=h2;subst hw;obtain⟨t,rfl⟩:=r2;exact SeqAt.EqAt.tuple_str _ _ p hu'
    |tup es=>
      have h2':=h2;have he':=he;simp only[D.dep]at he;obtain⟨b,ws,rfl,t',q'⟩:=h2;cases r2
      by_cases hab:a=b
      · subst hab;rw[Is.inj I _ _ _ h1' h2' hd' he',D.eq_refl];exact xc2 _
      · obtain⟨its',rv',p',hz'⟩:=I.tuple t';refine SeqAt.EqAt.of_refs hab ?_;exact(Vl (by rw[xai, <-rv.length,q.len]) (by rw[xai, <-rv'.length,q'.len]) p p' hu' fun j j1 j2=>by simpa using z8 I ds es vs ws its its' q q' rv rv' (Ar:=Ar.in1) (by show Ar.units + 1 + _<_;lia) (by lia) (by lia) j (by simpa using j1) (by simpa using j2)).1
    |lst es=>obtain⟨b,ws,rfl,t',_⟩:=h2;cases r2;obtain⟨_,its',_,p'⟩:=sql I t';exact SeqAt.EqAt.tuple_list p p' hu'
  |.lst ds,e,v,w,u,u',h1,h2,r1,r2,hu,hd,he=>by
    have h1':=h1;have hd':=hd;simp only[D.dep]at hu hd;have hu':Ar.units<cLine:=by lia
    obtain⟨a,vs,rfl,t,q⟩:=h1;cases r1;obtain⟨hz,its,rv,p⟩:=sql I t
    cases e with
    |ref _=>simp[D.dep]at he
    |non=>have hw:w=.non:=h2;subst hw;cases r2;exact SeqAt.EqAt.list_none p hu'
    |bl b=>have hw:w=.bl b:=h2;subst hw;cases r2;exact SeqAt.EqAt.list_bool _ p hu'
    |int b=>have hw:w=.int b:=h2;subst hw;obtain⟨t,rfl⟩:=r2;exact SeqAt.EqAt.list_int _ _ p hu'
    |str b=>have hw:w=.str b:=h2;subst hw;obtain⟨t,rfl⟩:=r2;exact SeqAt.EqAt.list_str _ _ p hu'
    |tup es=>obtain⟨b,ws,rfl,t',_⟩:=h2;cases r2;obtain⟨its',_,p',_⟩:=I.tuple t';exact SeqAt.EqAt.list_tuple p p' hu'
    |lst es=>
      have h2':=h2;have he':=he;simp only[D.dep]at he;obtain⟨b,ws,rfl,t',q'⟩:=h2;cases r2
      by_cases hab:a=b
      · subst hab;rw[Is.inj I _ _ _ h1' h2' hd' he',D.eq_refl];exact xc2 _
      · obtain⟨hz',its',rv',p'⟩:=sql I t';refine SeqAt.EqAt.of_refs hab ?_;exact(Vk (by rw[xai, <-rv.length,q.len]) (by rw[xai, <-rv'.length,q'.len]) p p' hu' fun j j1 j2=>by simpa using z8 I ds es vs ws its its' q q' rv rv' (Ar:=Ar.in1) (by show Ar.units + 1 + _<_;lia) (by lia) (by lia) j (by simpa using j1) (by simpa using j2)).1
theorem z8 (I:Inv X pins σ H s):∀(ds es:List D) (vs ws:List V) (its its':List Value),aC X.K A H ds vs->aC X.K B H es ws->Vals vs its->Vals ws its'->Ar.units + D.deps ds<cLine->D.deps ds<=100->D.deps es<=100->
    ∀(j:Nat) (h1:j<its.length) (h2:j<its'.length),SeqAt.EqAt Ar s its[j] its'[j] (D.eq (ds.getD j .non) (es.getD j .non))
  | [],es,vs,ws,its,its',h,h',r,r',hu,hd,he,j,j1,j2=>by
    have hv:vs=[]:=h;subst hv;cases r;exact absurd j1 (xc7 _)
  |d::ds,[],vs,ws,its,its',h,h',r,r',hu,hd,he,j,j1,j2=>by
    have hv:ws=[]:=h';subst hv;cases r';exact absurd j2 (xc7 _)
  |d::ds,e::es,vs,ws,its,its',h,h',r,r',hu,hd,he,j,j1,j2=>by
    obtain⟨v,vr,rfl,p,q⟩:=h;obtain⟨w,wr,rfl,p',q'⟩:=h';simp only[D.deps]at hu hd he
    cases r with
    |cons r1 r2=>
      cases r' with
      |cons r1' r2'=>
        cases j with
        |zero=>exact Ji I d e v w _ _ p.w p'.w r1 r1' (by lia) (by lia) (by lia)
        |succ j=>exact z8 I ds es vr wr _ _ q q' r2 r2' (by lia) (by lia) (by lia) j (by simpa using j1) (by simpa using j2)
end
def WK {d e:D}{A B:Pl}{K:Fgx}{v w:V}(fd:d.flat=true)(fe:e.flat=true)(h1:cg K A H d v)(h2:cg K B H e w):
  (sS v w=true/\D.eq d e=decide (v=w))\/(∃a i,v=.bl a/\w=.int i/\D.eq d e=((if a then 1 else 0)==i))\/∃a i,v=.int i/\w=.bl a/\D.eq d e=(i==(if a then 1 else 0)):=by
 cases d<;>cases e<;>simp only[D.flat,xbx]at fd fe<;>simp only[cg,Is]at h1 h2<;>subst h1 h2<;>simp[sS,D.eq]
 all_goals first |rfl |(rw[xbD];simp)
noncomputable def sE (K:Fgx) (neg:Bool):R2:=fun x y H Q=>∃(A B:Pl) (d e:D),cg K A H d x/\cg K B H e y/\fB d e=true/\d.dep<=50/\Q (.bl (if neg then !D.eq d e else D.eq d e)) H
def Vj (I:Inv X pins σ H s){A B:Pl}{d e:D}{x y:V}{v u:Value}(hu:X.A.units + 60<cLine)(h1:cg X.K A H d x)(h2:cg X.K B H e y)(rx:RelV x v)(ry:RelV y u)(fd:d.flat=false)(fe:e.flat=false)(hd:d.dep<=50)(he:e.dep<=50):
    SeqAt.RcAt X.A s v u (D.eq d e)/\SeqAt.RcNeAt X.A s v u (!D.eq d e):=by
  have hu':X.A.units<cLine:=by lia
  cases d with
  |tup ds=>
    obtain⟨a,vs,rfl,t,p⟩:=h1;cases rx;obtain⟨its,rv,pt,hz⟩:=I.tuple t;simp only[D.dep]at hd
    cases e with
    |tup es=>
      obtain⟨b,ws,rfl,t',p'⟩:=h2;cases ry;obtain⟨its',rv',pt',hz'⟩:=I.tuple t';exact Vl (by rw[xai, <-rv.length,p.len]) (by rw[xai, <-rv'.length,p'.len]) pt pt' hu' fun j j1 j2=>by simpa using z8 I ds es vs ws its its' p p' rv rv' (Ar:=X.A.in1) (by show X.A.units + 1 + _<_;lia) (by lia) (by simp only[D.dep]at he;lia) j (by simpa using j1) (by simpa using j2)
    |lst es=>
      obtain⟨b,ws,rfl,t',p'⟩:=h2;cases ry;obtain⟨_,its',rv',e'⟩:=sql I t';exact⟨SeqAt.RcAt.tuple_list pt e' hu',SeqAt.RcNeAt.tuple_list pt e' hu'⟩
    |ref _=>simp[D.dep]at he
    |_=>cases fe
  |lst ds=>
    obtain⟨a,vs,rfl,t,p⟩:=h1;cases rx;obtain⟨hz,its,rv,pt⟩:=sql I t;simp only[D.dep]at hd
    cases e with
    |tup es=>
      obtain⟨b,ws,rfl,t',p'⟩:=h2;cases ry;obtain⟨its',rv',pt',hz'⟩:=I.tuple t';exact⟨SeqAt.RcAt.list_tuple pt pt' hu',SeqAt.RcNeAt.list_tuple pt pt' hu'⟩
    |lst es=>
      obtain⟨b,ws,rfl,t',p'⟩:=h2;cases ry;obtain⟨_,its',rv',pt'⟩:=sql I t';exact Vk (by rw[xai, <-rv.length,p.len]) (by rw[xai, <-rv'.length,p'.len]) pt pt' hu' fun j j1 j2=>by simpa using z8 I ds es vs ws its its' p p' rv rv' (Ar:=X.A.in1) (by show X.A.units + 1 + _<_;lia) (by lia) (by simp only[D.dep]at he;lia) j (by simpa using j1) (by simpa using j2)
    |ref _=>simp[D.dep]at he
    |_=>cases fe
  |ref _=>simp[D.dep]at hd
  |_=>cases fd
def zeI (hu:X.A.units + 60<cLine):bV X (compareOp .Eq) (sE X.K false):=by
  l_out;obtain⟨A,B,d,e,h1,h2,hk,hd,q⟩:=h;have q:Q (.bl (D.eq d e)) H:=q;simp only[fB,xaD,xcs,xbP]at hk
  cases fd:d.flat with
  |true=>
    rcases WK fd (hk.1.symm.trans fd) h1 h2 with⟨sc,eq⟩ |⟨a,i,rfl,rfl,eq⟩ |⟨a,i,rfl,rfl,eq⟩
    · exact zg3 pins s σ H x y v u Q I rx ry ⟨sc,by rw[<-eq];exact q⟩
    · cases rx;obtain⟨t,rfl⟩:=ry;exact EqBoolInt.eq_bool_int ⟨.bl _,H,I,rfl,by rw[<-eq];exact q⟩
    · cases ry;kfm_eq;exact EqBoolInt.eq_int_bool ⟨.bl _,H,I,rfl,by rw[<-eq];exact q⟩
  |false=>exact EqBoolInt.of_rc (Vj I hu h1 h2 rx ry fd (hk.1.symm.trans fd) hd hk.2).1 ⟨.bl _,H,I,rfl,q⟩
def zfm (hu:X.A.units + 60<cLine):bV X (compareOp .NotEq) (sE X.K true):=by
  l_out;obtain⟨A,B,d,e,h1,h2,hk,hd,q⟩:=h;have q:Q (.bl (!D.eq d e)) H:=q;simp only[fB,xaD,xcs,xbP]at hk
  cases fd:d.flat with
  |true=>
    rcases WK fd (hk.1.symm.trans fd) h1 h2 with⟨sc,eq⟩ |⟨a,i,rfl,rfl,eq⟩ |⟨a,i,rfl,rfl,eq⟩
    · exact zfK pins s σ H x y v u Q I rx ry ⟨sc,by rw[<-eq];exact q⟩
    · cases rx;obtain⟨t,rfl⟩:=ry;exact EqBoolInt.ne_bool_int ⟨.bl _,H,I,rfl,by rw[<-eq];exact q⟩
    · cases ry;kfm_eq;exact EqBoolInt.ne_int_bool ⟨.bl _,H,I,rfl,by rw[<-eq];exact q⟩
  |false=>exact EqBoolInt.of_rcne (Vj I hu h1 h2 rx ry fd (hk.1.symm.trans fd) hd hk.2).2 ⟨.bl _,H,I,rfl,q⟩
noncomputable def Jd:Cp->CmpOp
 |.eq=>.Eq
 |.ne=>.NotEq
 |.lt=>.Lt
 |.le=>.LtE
 |.gt=>.Gt
 |.ge=>.GtE
 |.isin=>.In
 |.notin=>.NotIn
 |.same=>.Is
 |.other=>.IsNot
noncomputable def Ln (K:Fgx):Cp->R2
 |.eq=>sE K false
 |.ne=>sE K true
 |.lt=>k_ fun i j=>.bl (decide (i<j))
 |.le=>k_ fun i j=>.bl (decide (i<=j))
 |.gt=>k_ fun i j=>.bl (decide (j<i))
 |.ge=>k_ fun i j=>.bl (decide (j<=i))
 |.isin=>fun x y H Q=>(∃i j,x=.str i/\y=.str j/\Q (.bl (!(Builtin.Str.occurrences j i 0 j.length 1).isEmpty)) H)\/FN K false x y H Q
 |.notin=>fun x y H Q=>(∃i j,x=.str i/\y=.str j/\Q (.bl (!(!(Builtin.Str.occurrences j i 0 j.length 1).isEmpty))) H)\/FN K true x y H Q
 |.same=>fun x y H Q=>(y=.non/\Q (.bl (decide (x=.non))) H)\/(∃b,y=.bl b/\Q (.bl (decide (x=.bl b))) H)
 |.other=>fun x y H Q=>(y=.non/\Q (.bl (!decide (x=.non))) H)\/(∃b,y=.bl b/\Q (.bl (!decide (x=.bl b))) H)
def wI (hu:X.A.units + 60<cLine):∀c:Cp,bV X (compareOp (Jd c)) (Ln X.K c)
 |.eq=>zeI hu
 |.ne=>zfm hu
 |.lt=>zgQ
 |.le=>zf6
 |.gt=>zgK
 |.ge=>zhb
 |.isin=>zbG.or zbD
 |.notin=>zaQ.or zaT
 |.same=>zft.or zdR
 |.other=>zcZ.or zbt
theorem z9 {K:Fgx}{A:Pl}{d:D}{v:V}(f:d.flat=true)(h:Is K A H d v):nW v=true:=by
 cases d<;>simp only[D.flat,xbx]at f<;>simp only[Is]at h<;>subst h<;>rfl
theorem Jj {K:Fgx}{A B:Pl}{d e:D}{v w:V}(f:d.flat=true)(g:e.flat=true)(h:Is K A H d v)(h':Is K B H e w):p7 v w=D.eq d e:=by
 cases d<;>cases e<;>simp only[D.flat,xbx]at f g<;>simp only[Is]at h h'<;>subst h h'<;>rfl
theorem z_ {K:Fgx}{A:Pl}:∀{ds:List D} {vs:List V},ds.all D.flat=true->aC K A H ds vs->vs.all nW=true
  | [],_,_,h=>by rw[show _=[] from h];rfl
  |d::ds,_,f,h=>by
    obtain⟨v,r,rfl,p,q⟩:=h;rw[xb9,xaD]at f;rw[xb9,z9 f.1 p,z_ f.2 q];rfl
theorem mZ {K:Fgx}{A B:Pl}{e:D}{w:V}(g:e.flat=true)(h':Is K B H e w):∀{ds:List D} {vs:List V},ds.all D.flat=true->aC K A H ds vs->inV w vs=ds.any fun y=>D.eq y e
  | [],_,_,h=>by rw[show _=[] from h];rfl
  |d::ds,_,f,h=>by
    obtain⟨v,r,rfl,p,q⟩:=h;rw[xb9,xaD]at f;have:=mZ g h' f.2 q;unfold inV at this ⊢;rw[xdt,xdt,this,Jj f.1 g p h']
def Y_ {K:Fgx}{A B:Pl}{c:Cp}{d e:D}{v w:V}{b:Bool}{Q:VK}(h:c7 c d e=some b)(h1:cg K A H d v)(h2:cg K B H e w)(q:Q (.bl b) H):Ln K c v w H Q:=by
  cases c
  case eq=>
    simp only[c7,tM,tQ]at h;krn_ne
    · rename_i hc;cases h;exact⟨A,B,d,e,h1,h2,hc.1,hc.2,q⟩
    · cases h
  case ne=>
    simp only[c7,tM,tQ]at h;krn_ne
    · rename_i hc;cases h;exact⟨A,B,d,e,h1,h2,hc.1,hc.2,q⟩
    · cases h
  case isin=>
    cases e with
    |str j=>
      cases d<;>simp only[c7,dU,tO,fW,tU,tR,reduceCtorEq]at h
      simp only[cg,Is]at h1 h2;subst h1 h2;cases h;exact .inl ⟨_,_,rfl,rfl,q⟩
    |lst xs=>
      have h':(if (d.flat && xs.all D.flat)=true then some (xs.any fun y=>D.eq y d) else none)=some b:=by cases d<;>exact h
      split at h'
      · rename_i hc;rw[xaD]at hc;cases h';obtain⟨a,vs,rfl,t,p⟩:=h2;have h1':Is K A H d v:=by cases d<;>first |exact h1 |cases hc.1
        refine .inr ⟨a,vs,rfl,.inl (t),z9 hc.1 h1',z_ hc.2 p,?_⟩;rw[mZ hc.1 h1' hc.2 p];exact q
      · cases h'
    |tup xs=>
      have h':(if (d.flat && xs.all D.flat)=true then some (xs.any fun y=>D.eq y d) else none)=some b:=by cases d<;>exact h
      split at h'
      · rename_i hc;rw[xaD]at hc;cases h';obtain⟨a,vs,rfl,t,p⟩:=h2;have h1':Is K A H d v:=by cases d<;>first |exact h1 |cases hc.1
        refine .inr ⟨a,vs,rfl,.inr t,z9 hc.1 h1',z_ hc.2 p,?_⟩;rw[mZ hc.1 h1' hc.2 p];exact q
      · cases h'
    |_=>cases d<;>simp only[c7,dU,tO,fW,tU,tR,reduceCtorEq]at h
  case notin=>
    cases e with
    |str j=>
      cases d<;>simp only[c7,dU,tO,fW,tU,tR,reduceCtorEq]at h
      simp only[cg,Is]at h1 h2;subst h1 h2;cases h;exact .inl ⟨_,_,rfl,rfl,q⟩
    |lst xs=>
      have h':(if (d.flat && xs.all D.flat)=true then some (!xs.any fun y=>D.eq y d) else none)=some b:=by cases d<;>exact h
      split at h'
      · rename_i hc;rw[xaD]at hc;cases h';obtain⟨a,vs,rfl,t,p⟩:=h2;have h1':Is K A H d v:=by cases d<;>first |exact h1 |cases hc.1
        refine .inr ⟨a,vs,rfl,.inl (t),z9 hc.1 h1',z_ hc.2 p,?_⟩;rw[mZ hc.1 h1' hc.2 p];exact q
      · cases h'
    |tup xs=>
      have h':(if (d.flat && xs.all D.flat)=true then some (!xs.any fun y=>D.eq y d) else none)=some b:=by cases d<;>exact h
      split at h'
      · rename_i hc;rw[xaD]at hc;cases h';obtain⟨a,vs,rfl,t,p⟩:=h2;have h1':Is K A H d v:=by cases d<;>first |exact h1 |cases hc.1
        refine .inr ⟨a,vs,rfl,.inr t,z9 hc.1 h1',z_ hc.2 p,?_⟩;rw[mZ hc.1 h1' hc.2 p];exact q
      · cases h'
    |_=>cases d<;>simp only[c7,dU,tO,fW,tU,tR,reduceCtorEq]at h
  case same=>
    cases d<;>cases e<;>simp only[c7,dU,tO,fW,tU,tR,reduceCtorEq]at h<;>cases h<;>simp only[cg,Is]at h1 h2
    all_goals first
      |(subst h1 h2;first |exact .inr ⟨_,rfl,by rw[Eh];exact q⟩ |exact .inl ⟨rfl,by simpa using q⟩ |exact .inr ⟨_,rfl,by simpa using q⟩)
      |(obtain⟨a,vs,rfl,_⟩:=h1;subst h2;first |exact .inl ⟨rfl,by simpa using q⟩ |exact .inr ⟨_,rfl,by simpa using q⟩)
  case other=>
    cases d<;>cases e<;>simp only[c7,dU,tO,fW,tU,tR,reduceCtorEq]at h<;>cases h<;>simp only[cg,Is]at h1 h2
    all_goals first
      |(subst h1 h2;first |exact .inr ⟨_,rfl,by rw[Eh];exact q⟩ |exact .inl ⟨rfl,by simpa using q⟩ |exact .inr ⟨_,rfl,by simpa using q⟩)
      |(obtain⟨a,vs,rfl,_⟩:=h1;subst h2;first |exact .inl ⟨rfl,by simpa using q⟩ |exact .inr ⟨_,rfl,by simpa using q⟩)
  all_goals
    cases d<;>cases e<;>simp only[c7,dU,tO,fW,tU,tR,reduceCtorEq]at h
    simp only[cg,Is]at h1 h2;subst h1 h2;cases h;exact⟨_,_,rfl,rfl,q⟩
end
inductive Mode where
 |val |bor
def Dw (mg:Mgx)(H:Hp)(c:Str)(n:Int)(v:V):Prop:=∃a C dx,v=.ref a/\mg c=some (.ref C)/\H a=some (xo a C dx false)/\
 match dx with
 |none=>n=0
 |some d=>∃fs,H d=some (.xd fs)/\fs.lookup ("at":Str)=some (.int (n - 1))/\n≠0
def Dw.lt (l:Lt P H P' H')(h:Dw mg H c n v):Dw mg H' c n v:=by
  obtain⟨a,C,dx,e,m,ea,q⟩:=h;refine⟨a,C,dx,e,m,l.keep _ _ ea (.inl (.inr (.inr (.inl ⟨_,rfl⟩)))),?_⟩
  cases dx with
  |none=>exact q
  |some d=>
    obtain⟨fs,ed,el⟩:=q;exact⟨fs,l.keep _ _ ed (.inl (.inr (.inr (.inr ⟨_,rfl⟩)))),el⟩
noncomputable def P_ (K:Fgx) (mg:Mgx) (P:Pl) (H:Hp) (o:Option Addr) (sv:Option V):Slot->Prop
 |.un=>True
 |.val d=>∃v,sv=some v/\Is K P H d v
 |.own ds=>∃a vs,o=some a/\sv=some (.ref a)/\H a=some (.lst vs)/\aC K P H ds vs
 |.exc c n=>∃v,sv=some v/\Dw mg H c n v
structure Ok (K:Fgx)(mg:Mgx)(P0:Pl)(H0:Hp)(P:Pl)(O:List (Option Addr))(H:Hp)(M:Mm)(st:L2.St)(env:Env):Prop where
 hk:Hk K mg P H M
 base:LtE P0 H0 P H
 b0:∀a,P0.bd a->H0 a≠none
 slot:∀(i:Nat) s,env[i]? =some s->P_ K mg P H (O[i]?).join (st[i]?).join s
 own:∀a,some a∈O->P.bd a/\(∀k,k<P.n->P.io k≠a)/\H0 a=none
 inj:∀(i j:Nat) a,O[i]? =some (some a)->O[j]? =some (some a)->i=j
 olen:O.length=env.length
 slen:st.length=env.length
def cL (K:Fgx)(P:Pl)(H:Hp)(m:Mode)(d:D)(v:V):Prop:=match m with
 |.val=>Is K P H d v
 |.bor=>dD K P H d v
inductive Res where
 |v (d:D) |x (c:Str) (n:Int)
abbrev O:=Option (Res×Mm)
abbrev E:=Env->Mm->O
noncomputable def bnd (o:O) (k:D->Mm->O):O:=match o with
 |some (.v d,M)=>k d M
 |some (.x c n,M)=>some (.x c n,M)
 |none=>none
def cA (h:bnd o k=some (r,M')):(∃d M,o=some (.v d,M)/\k d M=some (r,M'))\/∃c n,o=some (.x c n,M')/\r=.x c n:=by
 unfold bnd at h;krn_ne
 ·exact .inl ⟨_,_,rfl,h⟩
 ·cases h;exact .inr ⟨_,_,rfl,rfl⟩
 ·cases h
abbrev XW:=Pl->Hp->Mm->Str->Int->Prop
section
variable {K:Fgx}{mg:Mgx}{P0 P P':Pl}{H0 H H':Hp}{M M':Mm}{Os:List (Option Addr)}{st:L2.St}{env:Env}{d:D}{v:V}{m:Mode}
def Is.b (h:Hk K mg P H M)(i:Is K P H d v):dD K P H d v:=by
  cases d with
  |lst ds=>
    obtain⟨a,vs,e,r,q⟩:=i;exact⟨a,vs,e,r.imp (fun⟨n,r⟩=>⟨fun k hk z=>n (z ▸ h.bd k hk),r⟩) id,q⟩
  |_=>exact i
def cL.of (h:Hk K mg P H M)(i:Is K P H d v):cL K P H m d v:=by
 cases m with
 |val=>exact i
 |bor=>exact i.b h
theorem cL.b (h:Hk K mg P H M)(i:cL K P H m d v):dD K P H d v:=by
 cases m with
 |val=>exact Is.b h i
 |bor=>exact i
def LtE.nc (l:LtE P H P' H')(e:H a=some o)(n:∀k,k<P.n->P.io k≠a):∀k,k<P'.n->P'.io k≠a:=fun k hk z=>by
 rcases xa2 k P.n with q |q
 ·rw[l.io k q]at z;exact n k q z
 ·rw[<-z,l.nw k q hk]at e;cases e
theorem dD.lt (l:LtE P H P' H')(h:Hk K mg P H M)(i:dD K P H d v):dD K P' H' d v:=by
  cases d with
  |lst ds=>
    obtain⟨a,vs,e,r,q⟩:=i;refine⟨a,vs,e,r.imp (fun⟨n,r⟩=>?_) id,aC.lt (l.lt h) q⟩;obtain⟨o,eo⟩:=Vm r;refine⟨l.nc eo n,?_⟩;rcases r with r |⟨o',r⟩
    · exact .inl (l.keep _ _ r (.inr n))
    · exact .inr ⟨o',l.keep _ _ r (.inr n)⟩
  |_=>exact Is.lt (l.lt h) i
def Ok.next (k:Ok K mg P0 H0 P Os H M st env)(l:LtE P H P' H')(h:Hk K mg P' H' M'):Ok K mg P0 H0 P' Os H' M' st env where
  hk:=h
  base:=k.base.trans l
  b0:=k.b0
  slot:=fun i s e=>by
    have q:=k.slot i s e
    cases s with
    |un=>exact True.intro
    |val d=>
      obtain⟨v,e1,q⟩:=q;exact⟨v,e1,Is.lt (l.lt k.hk) q⟩
    |own ds=>
      obtain ⟨a, vs, e1, e2, e3, q⟩ := q;have ho := k.own a (by
        cases hx:Os[i]? with
        |none=>rw[hx]at e1;cases e1
        |some o=>rw[hx]at e1;cases o with
          |none=>cases e1
          |some b=>cases e1;exact xaF hx)
      exact⟨a,vs,e1,e2,l.keep _ _ e3 (.inr ho.2.1),aC.lt (l.lt k.hk) q⟩
    |exc c n=>
      obtain⟨v,e1,q⟩:=q;exact⟨v,e1,q.lt (l.lt k.hk)⟩
  own:=fun a z=>by
    have ho:=k.own a z;refine⟨l.bm a ho.1,?_,ho.2.2⟩;obtain⟨o,eo⟩:∃o,H a=some o:=by
      cases e:H a with
      |none=>exact absurd e (k.hk.here a ho.1)
      |some o=>exact⟨o,rfl⟩
    exact l.nc eo ho.2.1
  inj:=k.inj
  olen:=k.olen
  slen:=k.slen
theorem Hk.same (h:Hk K mg P H M)(s:Same H H'):Hk K mg P H' M:=by
 have l:Lt P H P H':=(LtE.same s).lt h;refine⟨h.n,fun k c e=>?_,h.inj,h.bd,fun a z q=>h.here a z (s.free q)⟩;exact(h.cell k c e).up (fun _ e _=>s _ _ e) l.fz fun _ _ q=>aC.lt l q
end
noncomputable def RQ (K:Fgx) (mg:Mgx) (Wx:XW) (m:Mode) (P0:Pl) (H0:Hp) (P:Pl) (H:Hp) (M':Mm) (Q:VK):Res->Prop
 |.v d=>∀P' v H',LtE P H P' H'->Hk K mg P' H' M'->cL K P' H' m d v->Q v H'
 |.x c n=>Wx P0 H0 M' c n
def cD (h:PE X e t)(i:∀st H Q,t' st H Q->t st H Q):PE X e t':=fun pins s σ H Q I z=>h pins s σ H Q I (i _ _ _ z)
noncomputable def tE (K:Fgx) (mg:Mgx) (Wx:XW) (m:Mode) (f:E):TE:=fun st H Q=>∃P0 H0 P Os env M r M',Ok K mg P0 H0 P Os H M st env/\f env M=some (r,M')/\RQ K mg Wx m P0 H0 P H M' Q r
structure Fit (X:Cx)(Wx:XW):Prop where
 calm:X.calm=true
 room:X.A.units + 60<cLine
section
variable {X:Cx}{Wx:XW}{m:Mode}
def SE (X:Cx)(Wx:XW)(m:Mode)(e:Expr)(f:E):Prop:=PE X e (tE X.K X.mg Wx m f)
def SE.bor (h : SE X Wx .val e f) : SE X Wx m e f := cD h fun st H Q ⟨P0, H0, P, Os, env, M, r, M', k, e, q⟩ => ⟨P0,H0,P,Os,env,M,r,M',k,e,by
 cases r with
 |v d=>exact fun P' v H' l h i=>q P' v H' l h (cL.of h i)
 |x c n=>exact q⟩
def aX {f:E}{K:Fgx}{mg:Mgx}{P0 P:Pl}{H0 H:Hp}{Os:List (Option Addr)}{M M':Mm}{st:L2.St}{env:Env}{r:Res}{Q:VK}(k:Ok K mg P0 H0 P Os H M st env)(e:f env M=some (r,M'))
  (q:RQ K mg Wx m P0 H0 P H M' Q r):tE K mg Wx m f st H Q:=⟨P0,H0,P,Os,env,M,r,M',k,e,q⟩
noncomputable def aj (i:Nat):E:=fun env M=>match env[i]? with
 |some (.val d)=>some (.v d,M)
 |_=>none
def ak (d:D):E:=fun _ M=>some (.v d,M)
theorem tY {α:Type}{l:List (Option α)}{i:Nat}{a:α}(h:(l[i]?).join=some a):l[i]? =some (some a):=by
  cases e:l[i]? with
  |none=>rw[e]at h;cases h
  |some o=>rw[e]at h;cases o with
    |none=>cases h
    |some b=>cases h;rfl
def W4 {i:Nat}{x:Str}{pos:Pos}(hN:X.N[i]? =some x)(hv:yD X.env.scope x)(hd:(x==("__debug__":Str))=false:=by x_go)(hcd:(x==("__classdict__":Str))=false:=by x_go):SE X Wx .val (.Name x pos) (aj i):=by
 refine cD (Fq hN hv hd hcd) ?_;k_go;unfold aj at e;kjx_on
 ·rename_i d hs;cases e;obtain⟨v,e1,i1⟩:=k.slot i _ hs;exact⟨v,tY e1,q P v H (LtE.refl P H) k.hk i1⟩
 ·cases e
def CJ (h:PE X e (tC v))(hd:∀P H,Is X.K P H d v):SE X Wx .val e (ak d):=by
 refine cD h ?_;k_go;cases e;exact q P v H (LtE.refl P H) k.hk (hd P H)
noncomputable def vw (M:Mm) (d:D):D:=match d with
  | .ref k => (match M[k]? with
    |some (.lst ds)=>.lst ds
    |_=>.ref k)
  |d=>d
theorem dD.vw {K:Fgx}{mg:Mgx}{P:Pl}{H:Hp}{M:Mm}{d:D}{v:V}(h:Hk K mg P H M)(i:dD K P H d v):cg K P H (vw M d) v:=by
  cases d with
  |ref k=>
    unfold E3.vw;dsimp only
    split
    · rename_i ds e;obtain⟨i1,i2⟩:k<P.n/\v=.ref (P.io k):=i;obtain⟨vs,e1,q⟩:=h.cell k _ e;exact⟨_,vs,i2,.inl (.inl e1),q⟩
    · exact i
  |lst ds=>exact i.w
  |_=>exact i
noncomputable def s1 (o:D->Option D) (f:E):E:=fun env M=>bnd (f env M) fun d M1=>(o (vw M1 d)).map fun z=>(.v z,M1)
noncomputable def s2 (o:D->D->Option D) (f g:E):E:=fun env M=>bnd (f env M) fun d M1=>bnd (g env M1) fun e M2=>(o (vw M2 d) (vw M2 e)).map fun z=>(.v z,M2)
def kO (K:Fgx)(r:R2)(o:D->D->Option D):Prop:=∀(P:Pl) (H:Hp) (d e z:D) (v w:V) (Q:VK),o d e=some z->cg K P H d v->cg K P H e w->(∀p,H p=none->¬ P.bd p)->(∀u H',Same H H'->Is K P H' z u->Q u H')->r v w H Q
def Hg (K:Fgx)(r:V->Hp->VK->Prop)(o:D->Option D):Prop:=∀(P:Pl) (H:Hp) (d z:D) (v:V) (Q:VK),o d=some z->cg K P H d v->(∀p,H p=none->¬ P.bd p)->(∀u H',Same H H'->Is K P H' z u->Q u H')->r v H Q
def Hk.new {K:Fgx}{mg:Mgx}{P:Pl}{H:Hp}{M:Mm}(h:Hk K mg P H M):∀p,H p=none->¬ P.bd p:=fun p hp z=>h.here p z hp
def GC {f g:E}{o:D->D->Option D}{r:R2}{st:L2.St}{H:Hp}{Q:VK}(po:kO X.K r o)(h:tE X.K X.mg Wx m (s2 o f g) st H Q):Dd r (tE X.K X.mg Wx .bor f) (tE X.K X.mg Wx .bor g) st H Q:=by
 obtain⟨P0,H0,P,Os,env,M,rr,M',k,e,q⟩:=h;unfold s2 at e;by_in
 ·k_acc1;have k1:=k.next l1 h1
  rcases cA e with⟨d2,M2,e2,e⟩ |⟨c,n,e2,rfl⟩
  ·refine aX k1 e2 fun P2 v2 H2 l2 h2 i2=>?_;kit_at;exact po P2 H2 _ _ z v1 v2 Q ez (dD.vw h2 (dD.lt l2 h1 i1)) (dD.vw h2 i2) h2.new fun u H' s i=>q P2 u H' (l1.trans (l2.trans (LtE.same s))) (h2.same s) (cL.of (h2.same s) i)
  ·exact aX k1 e2 q
 ·tb_src
def zg9 {f:E}{o:D->Option D}{r:V->Hp->VK->Prop}{st:L2.St}{H:Hp}{Q:VK}(po:Hg X.K r o)(h:tE X.K X.mg Wx m (s1 o f) st H Q):Xo r (tE X.K X.mg Wx .bor f) st H Q:=by
 obtain⟨P0,H0,P,Os,env,M,rr,M',k,e,q⟩:=h;unfold s1 at e;by_in
 ·k_acc1;kit_at;exact po P1 H1 _ z v1 Q ez (dD.vw h1 i1) h1.new fun u H' s i=>q P1 u H' (l1.trans (LtE.same s)) (h1.same s) (cL.of (h1.same s) i)
 ·tb_src
def bK (ho:bV X (binaryOp op) r)(po:kO X.K r o)(ha:SE X Wx .bor a f)(hb:SE X Wx .bor b g):SE X Wx m (.BinOp a op b pos) (s2 o f g):=
 cD (UG ho ha hb) fun _ _ _ h=>GC po h
def WT (ho:bV X (compareOp op) r)(po:kO X.K r o)(ha:SE X Wx .bor a f)(hb:SE X Wx .bor b g)(hm:behindInMarks op b=false:=by rfl):SE X Wx m (.Compare a [op] [b] pos) (s2 o f g):=
 cD (zc0 ho ha hb hm) fun _ _ _ h=>GC po h
def zgz (ho:nQ X r)(po:kO X.K r o)(ha:SE X Wx .bor a f)(hb:SE X Wx .bor b g)(hs:Hf b:=by exact fun _ _=>rfl):SE X Wx m (.Subscript a b pos) (s2 o f g):=
 cD (zgH ho ha hb hs) fun _ _ _ h=>GC po h
noncomputable def TQ (K:Fgx) (mg:Mgx) (Wx:XW) (P0:Pl) (H0:Hp) (P:Pl) (H:Hp) (M':Mm) (Q:Bool->Hp->Prop):Res->Prop
 |.v d=>∃b,d=.bl b/\∀P' H',LtE P H P' H'->Hk K mg P' H' M'->Q b H'
 |.x c n=>Wx P0 H0 M' c n
noncomputable def pK (K:Fgx) (mg:Mgx) (Wx:XW) (f:E):TT:=fun st H Q=>∃P0 H0 P Os env M r M',Ok K mg P0 H0 P Os H M st env/\f env M=some (r,M')/\TQ K mg Wx P0 H0 P H M' Q r
def ST (X:Cx)(Wx:XW)(e:Expr)(f:E):Prop:=PT X e (pK X.K X.mg Wx f)
def Fy (h:PT X e t)(i:∀st H Q,t' st H Q->t st H Q):PT X e t':=fun pins s σ H Q I z=>h pins s σ H Q I (i _ _ _ z)
def fL {f:E}{K:Fgx}{mg:Mgx}{P0 P:Pl}{H0 H:Hp}{Os:List (Option Addr)}{M M':Mm}{st:L2.St}{env:Env}{r:Res}{Q:Bool->Hp->Prop}(k:Ok K mg P0 H0 P Os H M st env)(e:f env M=some (r,M'))
  (q:TQ K mg Wx P0 H0 P H M' Q r):pK K mg Wx f st H Q:=⟨P0,H0,P,Os,env,M,r,M',k,e,q⟩
def Xx {f:E}{st:L2.St}{H:Hp}{Q:Bool->Hp->Prop}(h:pK X.K X.mg Wx f st H Q):Xn (tE X.K X.mg Wx .val f) st H Q:=by
  obtain⟨P0,H0,P,Os,env,M,r,M',k,e,q⟩:=h;refine aX k e ?_
  cases r with
  |v d=>
    obtain⟨b,rfl,q⟩:=q;exact fun P' v H' l h i=>⟨b,i,q P' H' l h⟩
  |x c n=>exact q
def CW (ho:bV X (compareOp op) r)(po:kO X.K r o)(ha:SE X Wx .bor a f)(hb:SE X Wx .bor b g)(hm:behindInMarks op b=false:=by rfl):ST X Wx (.Compare a [op] [b] pos) (s2 o f g):=
 Fy (zdi ho ha hb hm) fun _ _ _ h=>GC po (Xx h)
noncomputable def gn:D->Option Bool
 |.non=>some false
 |.bl b=>some b
 |.int i=>some (i !=0)
 |.str s=>if s.length<=sizeLine then some ((s.length:Int) !=0) else none
 |.lst ds=>some (!ds.isEmpty)
 |.tup ds=>some (!ds.isEmpty)
 |.ref _=>none
def eY (f:E):E:=s1 (fun d=>(gn d).map .bl) f
noncomputable def j5 (f:E):E:=fun env M=>bnd (f env M) fun d M1=>match d with
 |.bl b=>some (.v (.bl (!b)),M1)
 |_=>none
noncomputable def dH (f g:E):E:=fun env M=>bnd (f env M) fun d M1=>match d with
 |.bl b=>if b=true then g env M1 else some (.v (.bl false),M1)
 |_=>none
noncomputable def lg (f g:E):E:=fun env M=>bnd (f env M) fun d M1=>match d with
 |.bl b=>if b=true then some (.v (.bl true),M1) else g env M1
 |_=>none
noncomputable def m_ (c f g:E):E:=fun env M=>bnd (c env M) fun d M1=>match d with
 |.bl b=>if b=true then f env M1 else g env M1
 |_=>none
def SW (X:Cx)(Wx:XW)(e:Expr)(f:E):Prop:=PW X e (pK X.K X.mg Wx f)
def U6 (h:PW X e t)(i:∀st H Q,t' st H Q->t st H Q):PW X e t':=fun wh pins s σ H Q I z=>h wh pins s σ H Q I (i _ _ _ z)
def Gy (ha:ST X Wx a f):ST X Wx (.UnaryOp .Not a pos) (j5 f):=by
 refine Fy (zeB ha) ?_;k_go;unfold j5 at e;by_in
 ·cases d<;>simp only[reduceCtorEq]at e
  cases e;obtain⟨b,e2,q⟩:=q;cases e2;exact fL k e1 ⟨_,rfl,q⟩
 ·exact fL k e1 q
def zdq (ha:ST X Wx a f):SW X Wx (.BoolOp .And [a] pos) f:=zcI ha
def zB (ha:ST X Wx a f):SW X Wx (.BoolOp .Or [a] pos) f:=zfe ha
def zek (ha:ST X Wx a f)(hb:SW X Wx (.BoolOp .And (b::rest) pos) g):SW X Wx (.BoolOp .And (a::b::rest) pos) (dH f g):=by
  refine U6 (zd9 ha hb) ?_;k_go;unfold dH at e;by_in
  · cases d<;>simp only[reduceCtorEq]at e
    rename_i b;refine fL k e1 ⟨b,rfl,fun P1 H1 l1 h1=>?_⟩
    cases b with
    |true=>
      rw[xad rfl]at e ⊢;refine fL (k.next l1 h1) e ?_
      cases r with
      |v d=>obtain⟨b,e2,q⟩:=q;exact⟨b,e2,fun P' H' l h=>q P' H' (l1.trans l) h⟩
      |x c n=>exact q
    |false=>
      rw[xae (by decide)]at e ⊢;cases e;obtain⟨b,e2,q⟩:=q;cases e2;exact q P1 H1 l1 h1
  · exact fL k e1 q
def zA (ha:ST X Wx a f)(hb:SW X Wx (.BoolOp .Or (b::rest) pos) g):SW X Wx (.BoolOp .Or (a::b::rest) pos) (lg f g):=by
  refine U6 (zgM ha hb) ?_;k_go;unfold lg at e;by_in
  · cases d<;>simp only[reduceCtorEq]at e
    rename_i b;refine fL k e1 ⟨b,rfl,fun P1 H1 l1 h1=>?_⟩
    cases b with
    |false=>
      rw[xae (by decide)]at e ⊢;refine fL (k.next l1 h1) e ?_
      cases r with
      |v d=>obtain⟨b,e2,q⟩:=q;exact⟨b,e2,fun P' H' l h=>q P' H' (l1.trans l) h⟩
      |x c n=>exact q
    |true=>
      rw[xad rfl]at e ⊢;cases e;obtain⟨b,e2,q⟩:=q;cases e2;exact q P1 H1 l1 h1
  · exact fL k e1 q
def SW.st (h:SW X Wx e f):ST X Wx e f:=h.pt
end
section
variable {X:Cx}{Wx:XW}{m:Mode}
def RQ.imp {K:Fgx}{mg:Mgx}{P0 P P1:Pl}{H0 H H1:Hp}{M':Mm}{Q:VK}{r:Res}(l:LtE P H P1 H1)(q:RQ K mg Wx m P0 H0 P H M' Q r):RQ K mg Wx m P0 H0 P1 H1 M' Q r:=by
 cases r with
 |v d=>exact fun P' v H' l' h i=>q P' v H' (l.trans l') h i
 |x c n=>exact q
def vh (ha:SE X Wx m a f):SE X Wx m (.BoolOp op [a] pos) f:=zeq ha
def zm (ha:SE X Wx .val a f)(hb:SE X Wx m (.BoolOp .And (b::rest) pos) g):SE X Wx m (.BoolOp .And (a::b::rest) pos) (dH f g):=by
  refine cD (zes ha hb) ?_;k_go;unfold dH at e;by_in
  · cases d<;>simp only[reduceCtorEq]at e
    rename_i b;refine aX k e1 fun P1 v1 H1 l1 h1 i1=>⟨b,i1,?_⟩
    cases b with
    |true=>
      rw[xad rfl]at e ⊢;exact aX (k.next l1 h1) e (RQ.imp l1 q)
    |false=>
      rw[xae (by decide)]at e ⊢;cases e;exact q P1 _ H1 l1 h1 (cL.of h1 (show Is _ _ _ (.bl false) _ from rfl))
  · tb_src
def N_ (ha:SE X Wx .val a f)(hb:SE X Wx m (.BoolOp .Or (b::rest) pos) g):SE X Wx m (.BoolOp .Or (a::b::rest) pos) (lg f g):=by
  refine cD (zfO ha hb) ?_;k_go;unfold lg at e;by_in
  · cases d<;>simp only[reduceCtorEq]at e
    rename_i b;refine aX k e1 fun P1 v1 H1 l1 h1 i1=>⟨b,i1,?_⟩
    cases b with
    |false=>
      rw[xae (by decide)]at e ⊢;exact aX (k.next l1 h1) e (RQ.imp l1 q)
    |true=>
      rw[xad rfl]at e ⊢;cases e;exact q P1 _ H1 l1 h1 (cL.of h1 (show Is _ _ _ (.bl true) _ from rfl))
  · tb_src
def WX (hc:ST X Wx c t)(ha:SE X Wx m a f)(hb:SE X Wx m b g):SE X Wx m (.IfExp c a b pos) (m_ t f g):=by
  refine cD (zco hc ha hb) ?_;k_go;unfold m_ at e;by_in
  · cases d<;>simp only[reduceCtorEq]at e
    rename_i b;refine fL k e1 ⟨b,rfl,fun P1 H1 l1 h1=>?_⟩
    cases b with
    |true=>
      rw[xad rfl]at e ⊢;exact aX (k.next l1 h1) e (RQ.imp l1 q)
    |false=>
      rw[xae (by decide)]at e ⊢;exact aX (k.next l1 h1) e (RQ.imp l1 q)
  · exact fL k e1 q
def Xv {K:Fgx}{P:Pl}{H:Hp}{d:D}{v:V}{b:Bool}(h:gn d=some b)(i:cg K P H d v):pP K v H b:=by
  cases d with
  |non=>have e:v=.non:=i;subst e;cases h;rfl
  |bl c=>have e:v=.bl c:=i;subst e;cases h;rfl
  |int c=>have e:v=.int c:=i;subst e;cases h;rfl
  |str c=>
    have e:v=.str c:=i;subst e;simp only[gn]at h;krn_ne
    · rename_i hl;cases h;exact⟨hl,rfl⟩
    · cases h
  |lst ds=>
    obtain⟨a,vs,rfl,r,q⟩:=i;cases h;refine .inl ⟨vs,r,?_⟩
    cases ds with
    |nil=>rw[show vs=[] from q];rfl
    |cons d ds=>obtain⟨w,r',rfl,_⟩:=q;rfl
  |tup ds=>
    obtain⟨a,vs,rfl,r,q⟩:=i;cases h;refine .inr (.inl ⟨vs,r,?_⟩)
    cases ds with
    |nil=>rw[show vs=[] from q];rfl
    |cons d ds=>obtain⟨w,r',rfl,_⟩:=q;rfl
  |ref k=>cases h
def yr (ha:SE X Wx .bor a f)(he:∀whole,isTrue a X.env whole=(do let v <-whole;standAt a.pos;holding [v] (truthy v)):=by exact fun _=>rfl):ST X Wx a (eY f):=by
 refine Fy (zbW ha he) ?_;k_go;unfold eY s1 at e;by_in
 ·kit_at;rw[xaj]at ez;obtain⟨b,eb,rfl⟩:=ez;obtain⟨b',e2,q⟩:=q;cases e2;exact aX k e1 fun P1 v1 H1 l1 h1 i1=>⟨b,Xv eb (dD.vw h1 i1),q P1 H1 l1 h1⟩
 ·tb_src
def zcJ (ha:PE X a ta):PE X (.UnaryOp .Not a pos) (fun σ H Q=>ta σ H fun x H1=>∃k,pP X.K x H1 k/\Q (.bl (!k)) H1):=by
 sr_in;refine UnaryOp_ (aU (ha pins s σ H _ I h) fun v s1 ⟨x, H1, I1, r1, k, tv, q⟩ => ?_);exact not_of (aU (Xw pins s1 σ H1 x v (fun b H'=>b=k/\H'=H1) I1 r1 ⟨k,tv,rfl,rfl⟩) fun b s2 ⟨H2,I2,e1,e2⟩=>by
  subst e1 e2;exact⟨.bl (!b),H2,I2,rfl,q⟩)
def Gb (f:E):E:=s1 (fun d=>(gn d).map fun b=>.bl (!b)) f
def zdL (ha:SE X Wx .bor a f):SE X Wx m (.UnaryOp .Not a pos) (Gb f):=by
 refine cD (zcJ ha) ?_;k_go;unfold Gb s1 at e;by_in
 ·kit_at;rw[xaj]at ez;obtain⟨b,eb,rfl⟩:=ez;exact aX k e1 fun P1 v1 H1 l1 h1 i1=>⟨b,Xv eb (dD.vw h1 i1),q P1 _ H1 l1 h1 (cL.of h1 (show Is _ _ _ (.bl _) _ from rfl))⟩
 ·tb_src
inductive ResA where
 |v (ds:List D) |x (c:Str) (n:Int)
abbrev EA:=Env->Mm->Option (ResA×Mm)
def ao:EA:=fun _ M=>some (.v [],M)
noncomputable def au (f:E) (fs:EA):EA:=fun env M=>match f env M with
  | some (.v d, M1) => (match fs env M1 with
    |some (.v ds,M2)=>some (.v (d::ds),M2)
    |some (.x c n,M2)=>some (.x c n,M2)
    |none=>none)
  |some (.x c n,M1)=>some (.x c n,M1)
  |none=>none
noncomputable def cO (o:Option (ResA×Mm)) (k:List D->Mm->O):O:=match o with
 |some (.v ds,M)=>k ds M
 |some (.x c n,M)=>some (.x c n,M)
 |none=>none
def mU (h:cO o k=some (r,M')):(∃ds M,o=some (.v ds,M)/\k ds M=some (r,M'))\/∃c n,o=some (.x c n,M')/\r=.x c n:=by
 unfold cO at h;krn_ne
 ·exact .inl ⟨_,_,rfl,h⟩
 ·cases h;exact .inr ⟨_,_,rfl,rfl⟩
 ·cases h
noncomputable def cM (K:Fgx) (P:Pl) (H:Hp) (m:Mode):List D->List V->Prop
 | [],vs=>vs=[]
 |d::ds,vs=>∃v ws,vs=v::ws/\cL K P H m d v/\cM K P H m ds ws
theorem cM.iss {K:Fgx}{P:Pl}{H:Hp}:∀{ds:List D} {vs:List V},cM K P H .val ds vs->aC K P H ds vs
  | [],_,h=>h
  |_::_,_,h=>by
    obtain⟨v,ws,e,p,q⟩:=h;exact⟨v,ws,e,p,cM.iss q⟩
noncomputable def AQ (K:Fgx) (mg:Mgx) (Wx:XW) (m:Mode) (P0:Pl) (H0:Hp) (P:Pl) (H:Hp) (M':Mm) (Q:List V->Hp->Prop):ResA->Prop
 |.v ds=>∀P' vs H',LtE P H P' H'->Hk K mg P' H' M'->cM K P' H' m ds vs->Q vs H'
 |.x c n=>Wx P0 H0 M' c n
noncomputable def Xj (K:Fgx) (mg:Mgx) (Wx:XW) (m:Mode) (fs:EA):TA:=fun st H Q=>∃P0 H0 P Os env M r M',Ok K mg P0 H0 P Os H M st env/\fs env M=some (r,M')/\AQ K mg Wx m P0 H0 P H M' Q r
def SA (X:Cx)(Wx:XW)(m:Mode)(es:List Expr)(fs:EA):Prop:=PA X es (Xj X.K X.mg Wx m fs)
def Ux (h:PA X es t)(w:∀σ H Q,t' σ H Q->t σ H Q):PA X es t':=fun pos pins s σ H Q I hw=>h pos pins s σ H Q I (w σ H Q hw)
theorem aK:SA X Wx m [] ao:=by
 refine Ux rY ?_;k_go;cases e;exact q P [] H (LtE.refl P H) k.hk rfl
def aD (ha:SE X Wx m e f)(hr:SA X Wx m es fs)(hs:starEach (e::es) X.env=(false,eval e X.env)::starEach es X.env:=by rfl):SA X Wx m (e::es) (au f fs):=by
 refine Ux (pF ha hr hs) ?_;k_go;unfold au at e;kjx_on
 ·rename_i d M1 e1;k_acc1;kjx_on
  ·rename_i ds M2 e2;cases e;refine⟨P0,H0,P1,Os,env,M1,_,_,k.next l1 h1,e2,fun P2 vs H2 l2 h2 i2=>q P2 _ H2 (l1.trans l2) h2 ⟨v1,vs,rfl,?_,i2⟩⟩
   cases m with
   |val=>exact Is.lt (l2.lt h1) i1
   |bor=>exact dD.lt l2 h1 i1
  ·rename_i c n M2 e2;cases e;exact⟨P0,H0,P1,Os,env,M1,_,_,k.next l1 h1,e2,q⟩
  ·cases e
 ·rename_i c n M1 e1;cases e;tb_src
 ·cases e
noncomputable def sN (o:List D->Option D) (fs:EA):E:=fun env M=>cO (fs env M) fun ds M1=>(o (ds.map (vw M1))).map fun z=>(.v z,M1)
noncomputable def pL (K:Fgx) (P:Pl) (H:Hp):List D->List V->Prop
 | [],vs=>vs=[]
 |d::ds,vs=>∃v ws,vs=v::ws/\cg K P H d v/\pL K P H ds ws
theorem cM.w {K:Fgx}{mg:Mgx}{P:Pl}{H:Hp}{M:Mm}(h:Hk K mg P H M):∀{ds:List D} {vs:List V},cM K P H m ds vs->pL K P H (ds.map (vw M)) vs
  | [],_,q=>q
  |d::ds,_,q=>by
    obtain⟨v,ws,e,p,q⟩:=q;exact⟨v,ws,e,dD.vw h (p.b h),cM.w h q⟩
def lF (K:Fgx)(r:List V->Hp->VK->Prop)(o:List D->Option D):Prop:=∀(P:Pl) (H:Hp) (ds:List D) (z:D) (vs:List V) (Q:VK),o ds=some z->pL K P H ds vs->(∀p,H p=none->¬ P.bd p)->(∀u H',Same H H'->Is K P H' z u->Q u H')->r vs H Q
def WR (h:∀t,PA X (e::es) t->PE X ex (Ou r t))(po:lF X.K r o)(ha:SA X Wx .bor (e::es) fs):SE X Wx m ex (sN o fs):=by
 refine cD (h _ ha) ?_;k_go;unfold sN at e;kt_str
 ·kit_at;exact⟨P0,H0,P,Os,env,M,_,_,k,e1,fun P1 vs H1 l1 h1 i1=>po P1 H1 _ z vs Q ez (cM.w h1 i1) h1.new fun u H' s i=>q P1 u H' (l1.trans (LtE.same s)) (h1.same s) (cL.of (h1.same s) i)⟩
 ·kj_on
noncomputable def bf (fs:EA):E:=fun env M=>cO (fs env M) fun ds M1=>if ds.length<=sizeLine then some (.v (.tup ds),M1) else none
def dI {es:List Expr}{x1:Nat}{pos:Pos}{fs:EA}(ha:SA X Wx .val es fs):SE X Wx m (.Tuple es x1 pos) (bf fs):=by
 refine cD (zdW ha) ?_;k_go;unfold bf at e;kt_str
 ·kjx_on
  ·rename_i hl;cases e;refine⟨P0,H0,P,Os,env,M,_,_,k,e1,fun P1 vs H1 l1 h1 i1=>⟨by rw[i1.iss.len];exact hl,fun p hp=>?_⟩⟩;have s:=vg (o:=.tup vs) hp;exact q P1 _ _ (l1.trans (LtE.same s)) (h1.same s) (cL.of (h1.same s) ⟨p,vs,rfl,.inl (.inl cu),aC.lt ((LtE.same s).lt h1) i1.iss⟩)
  ·cases e
 ·kj_on
noncomputable def NQ (K:Fgx) (mg:Mgx) (Wx:XW) (P0:Pl) (H0:Hp) (P:Pl) (H:Hp) (M':Mm) (Q:VK):Res->Prop
 |.v d=>∃ds,d=.lst ds/\∀P' a vs H',LtE P H P' H'->Hk K mg P' H' M'->H a=none->P'.bd a->(∀k,k<P'.n->P'.io k≠a)->H' a=some (.lst vs)->aC K P' H' ds vs->Q (.ref a) H'
 |.x c n=>Wx P0 H0 M' c n
noncomputable def tN (K:Fgx) (mg:Mgx) (Wx:XW) (f:E):TE:=fun st H Q=>∃P0 H0 P Os env M r M',Ok K mg P0 H0 P Os H M st env/\f env M=some (r,M')/\NQ K mg Wx P0 H0 P H M' Q r
def SN (X:Cx)(Wx:XW)(e:Expr)(f:E):Prop:=PE X e (tN X.K X.mg Wx f)
def Pl.bar (P:Pl)(p:Addr):Pl:={P with bd:=fun a=>P.bd a\/a=p}
def yG {K:Fgx}{mg:Mgx}{P:Pl}{H:Hp}{M:Mm}{p:Addr}{vs:List V}(h:Hk K mg P H M)(hp:H p=none):LtE P H (P.bar p) (upd H p (.lst vs))/\Hk K mg (P.bar p) (upd H p (.lst vs)) M/\∀k,k<P.n->P.io k≠p:=by
 have s:=vg (o:=.lst vs) hp;have nc:∀k,k<P.n->P.io k≠p:=fun k hk z=>h.here _ (h.bd k hk) (z ▸ hp);have l:LtE P H (P.bar p) (upd H p (.lst vs)):=⟨xaf _,fun _ _=>rfl,fun a z=>xem (fun q=>q) (fun(q:a=p)=>by rw[q];exact hp) z,fun a z=>.inl z,fun a o e _=>s a o e,fun a z=>s.free z,fun k h1 h2=>absurd h1 (xd8.mpr h2)⟩;have lt:=l.lt h;refine⟨l,⟨h.n,fun k c e=>?_,h.inj,fun k hk=>.inl (h.bd k hk),fun a z q=>?_⟩,nc⟩
 ·exact(h.cell k c e).up (fun _ e _=>s _ _ e) lt.fz fun _ _ q=>aC.lt lt q
 ·rcases z with z |z
  ·exact h.here a z (s.free q)
  ·subst z;rw[cu]at q;cases q
def SN.se (h:SN X Wx e f)(hf:∀env M r M',f env M=some (.v r,M')->∃ds,r=.lst ds):SE X Wx .val e f:=by
  refine cD h ?_;k_go;refine⟨P0,H0,P,Os,env,M,r,M',k,e,?_⟩
  cases r with
  |x c n=>exact q
  |v d=>
    obtain⟨ds,rfl⟩:=hf _ _ _ _ e;refine⟨ds,rfl,fun P' a vs H' l h ha ba nc ea is=>q (P'.less (· ≠a)) _ H' ?_ ?_ ⟨a,vs,rfl,.inl ⟨fun z=>z.2 rfl,.inl ea⟩,aC.less is⟩⟩
    · exact⟨l.n,l.io,fun b z=>l.bd b z.1,fun b z=>⟨l.bm b z,fun q=>k.hk.here b z (q ▸ ha)⟩,l.keep,l.sure,l.nw⟩
    · refine⟨h.n,fun j c e=>?_,h.inj,fun j hj=>⟨h.bd j hj,nc j hj⟩,fun b z=>h.here b z.1⟩;exact(h.cell j c e).up (fun _ z _=>z) (fun _ _ _ z=>z) fun _ _ q=>aC.less q
noncomputable def aR (fs:EA):E:=fun env M=>cO (fs env M) fun ds M1=>if ds.length<=sizeLine then some (.v (.lst ds),M1) else none
def cZ {es:List Expr}{pos:Pos}{fs:EA}(ha:SA X Wx .val es fs):SN X Wx (.List es pos) (aR fs):=by
 refine cD (zdC ha) ?_;k_go;unfold aR at e;kt_str
 ·kjx_on
  ·rename_i hl;cases e;obtain⟨ds',e',q⟩:=q;cases e';refine⟨P0,H0,P,Os,env,M,_,_,k,e1,fun P1 vs H1 l1 h1 i1=>⟨by rw[i1.iss.len];exact hl,fun p hp=>?_⟩⟩;obtain⟨l2,h2,nc⟩:=yG (vs:=vs) h1 hp;exact q (P1.bar p) p vs _ (l1.trans l2) h2 (l1.sure p hp) (.inr rfl) nc cu (aC.lt (l2.lt h1) i1.iss)
  ·cases e
 ·kj_on
def lst_is:∀env M r M',aR fs env M=some (.v r,M')->∃ds,r=.lst ds:=fun env M r M' e=>by
 unfold aR at e;rcases mU e with⟨ds,M1,e1,e⟩ |⟨c,n,e1,e⟩
 ·kjx_on
  ·cases e;exact⟨_,rfl⟩
  ·cases e
 ·cases e
end
inductive Out where
 |nx (env:Env) |bk (env:Env) |ct (env:Env) |rt (d:D) |ex (c:Str) (n:Int)
abbrev OS:=Option (Out×Mm)
abbrev S:=Env->Mm->OS
noncomputable def Post (K:Fgx) (mg:Mgx) (Wx:XW) (P0:Pl) (H0:Hp) (P:Pl) (H:Hp) (M':Mm) (D:Ends):Out->Prop
 |.nx env=>∀P' Os' H' st',Lt P H P' H'->Ok K mg P0 H0 P' Os' H' M' st' env->D.nx st' H'
 |.bk env=>∀P' Os' H' st',Lt P H P' H'->Ok K mg P0 H0 P' Os' H' M' st' env->D.bk st' H'
 |.ct env=>∀P' Os' H' st',Lt P H P' H'->Ok K mg P0 H0 P' Os' H' M' st' env->D.ct st' H'
 |.rt d=>∀P' v H',LtE P0 H0 P' H'->Hk K mg P' H' M'->Is K P' H' d v->D.rt v H'
 |.ex c n=>Wx P0 H0 M' c n
noncomputable def tS (K:Fgx) (mg:Mgx) (Wx:XW) (f:S):TS:=fun D st H=>∃P0 H0 P Os env M out M',Ok K mg P0 H0 P Os H M st env/\f env M=some (out,M')/\Post K mg Wx P0 H0 P H M' D out
def SS (X:Cx)(Wx:XW)(s:Stmt)(f:S):Prop:=PS X s (tS X.K X.mg Wx f)
def SB (X:Cx)(Wx:XW)(s:List Stmt)(f:S):Prop:=gJ X s (tS X.K X.mg Wx f)
noncomputable def bR (o:O) (k:D->Mm->OS):OS:=match o with
 |some (.v d,M)=>k d M
 |some (.x c n,M)=>some (.ex c n,M)
 |none=>none
def gw (h:bR o k=some (r,M')):(∃d M,o=some (.v d,M)/\k d M=some (r,M'))\/∃c n,o=some (.x c n,M')/\r=.ex c n:=by
 unfold bR at h;krn_ne
 ·exact .inl ⟨_,_,rfl,h⟩
 ·cases h;exact .inr ⟨_,_,rfl,rfl⟩
 ·cases h
section
variable {K:Fgx}{mg:Mgx}{Wx:XW}{P0 P P' P1:Pl}{H0 H H' H1:Hp}{M M':Mm}{Os:List (Option Addr)}{st:L2.St}{env:Env}{d:D}{v:V}{i:Nat}
def CN (l:List (Option α))(i j:Nat)(x:Option α)(hi:i<l.length):((l.set i x)[j]?).join=if i=j then x else(l[j]?).join:=by
 rw[xbd]
 by_cases h:i=j
 ·subst h;rw[xad rfl,xad hi,xad rfl];rfl
 ·rw[xae h,xae h]
def Ok.asg (k:Ok K mg P0 H0 P Os H M st env)(hi:i<env.length)(h:Is K P H d v):Ok K mg P0 H0 P (Os.set i none) H M (st.set i (some v)) (env.set i (.val d)) where
 hk:=k.hk
 base:=k.base
 b0:=k.b0
 slot:=fun j s e=>by
  rw[CN _ _ _ _ (by rw[k.olen];exact hi),CN _ _ _ _ (by rw[k.slen];exact hi)];rw[xbd]at e;kjx_on
  ·rename_i ij;subst ij;cases e;rw[xad rfl,xad rfl];exact⟨v,rfl,h⟩
  ·rename_i ij;rw[xae ij,xae ij];exact k.slot j s e
 own := fun a h => k.own a (by
  rcases xcc h with h |h
  ·exact h
  ·cases h)
 inj:=fun j l a e1 e2=>by
  rw[xbd]at e1 e2;split at e1
  ·split at e1<;>cases e1
  ·split at e2
   ·split at e2<;>cases e2
   ·exact k.inj j l a e1 e2
 olen:=by rw[xaz,xaz,k.olen]
 slen:=by rw[xaz,xaz,k.slen]
theorem Ok.here (k:Ok K mg P0 H0 P Os H M st env)(h:some a∈Os):H a≠none:=k.hk.here a (k.own a h).1
def Ok.mine (k0:Ok K mg P0 H0 P Os H M st env)(l:LtE P H P' H')(hk:Hk K mg P' H' M')(hi:i<env.length)(ha:H a=none)(ba:P'.bd a)(nc:∀j,j<P'.n->P'.io j≠a)(e:H' a=some (.lst vs))(h:aC K P' H' ds vs):
  Ok K mg P0 H0 P' (Os.set i (some a)) H' M' (st.set i (some (.ref a))) (env.set i (.own ds)):=by
 have k:=k0.next l hk
 have nO:∀j,Os[j]? ≠some (some a):=fun j z=>k0.here (xaF z) ha;exact {
  hk:=k.hk
  base:=k.base
  b0:=k.b0
  slot:=fun j s e'=>by
   rw[CN _ _ _ _ (by rw[k.olen];exact hi),CN _ _ _ _ (by rw[k.slen];exact hi)];rw[xbd]at e';split at e'
   ·rename_i ij;subst ij;cases e';rw[xad rfl,xad rfl];exact⟨a,vs,rfl,rfl,e,h⟩
   ·rename_i ij;rw[xae ij,xae ij];exact k.slot j s e'
  own:=fun b hb=>by
   rcases xcc hb with hb |hb
   ·exact k.own b hb
   ·cases hb;exact⟨ba,nc,k0.base.sure a ha⟩
  inj:=fun j l b e1 e2=>by
   rw[xbd]at e1 e2;split at e1
   ·split at e1
    ·cases e1;split at e2
     ·rename_i z1 _ z2;exact z1.symm.trans z2
     ·exact absurd e2 (nO l)
    ·cases e1
   ·split at e2
    ·split at e2
     ·cases e2;exact absurd e1 (nO j)
     ·cases e2
    ·exact k.inj j l b e1 e2
  olen:=by rw[xaz,xaz,k.olen]
  slen:=by rw[xaz,xaz,k.slen]}
def uc (b : P.bd a) (e : H a = some o) (nf : ¬ Fx o) : Lt P H P (upd H a o') := ⟨xaf _,fun _ _=>rfl,fun _ z=>.inl z,fun c u ec z=>by
  by_cases h:c=a
  ·subst h;rw[e]at ec;cases ec;exact(z.elim nf fun n=>n b).elim
  ·rw[aZ h];exact ec,fun c z=>by
  by_cases h:c=a
  ·subst h;rw[cu]at z;cases z
  ·rw[aZ h]at z;exact z⟩
def Br:¬ Fx (.lst vs):=fun z=>by rcases z with⟨_,z⟩ |⟨_,_,z⟩ |⟨_,z⟩ |⟨_,z⟩<;>cases z
def zeT:¬ Fx (.ins C dx gs):=fun z=>by rcases z with⟨_,z⟩ |⟨_,_,z⟩ |⟨_,z⟩ |⟨_,z⟩<;>cases z
theorem pO.lt (l:Lt P H P' H')(e:∀o,H a=some o->H' a=some o)(h:pO K mg P H a c):pO K mg P' H' a c:=by
 exact h.up (fun _ z _=>e _ z) l.fz fun _ _ q=>aC.lt l q
def Ok.chg (k:Ok K mg P0 H0 P Os H M st env)(hi:env[i]? =some (.own ds))(ho:Os[i]? =some (some a))(e:H a=some (.lst vs))(h:aC K P H ds' vs'):
    Lt P H P (upd H a (.lst vs'))/\Ok K mg P0 H0 P Os (upd H a (.lst vs')) M st (env.set i (.own ds')):=by
  obtain⟨b1,b2,b3⟩:=k.own a (xaF ho);have l:Lt P H P (upd H a (.lst vs')):=uc b1 e Br;have ilt:i<env.length:=(xah.mp hi).1;refine⟨l,?_⟩;exact {
    hk:=⟨k.hk.n,fun j c ej=>(k.hk.cell j c ej).lt l fun o eo=>by rw[aZ (b2 j (by rw[k.hk.n];exact(xah.mp ej).1))];exact eo,k.hk.inj,k.hk.bd,fun c z q=>k.hk.here c z (l.sure c q)⟩
    base := ⟨k.base.n,k.base.io,k.base.bd,k.base.bm,fun c o ec n=>by
      have:=k.base.keep c o ec n;rw[aZ (fun z=>by subst z;rw[b3]at ec;cases ec)];exact this,fun c z=>k.base.sure c (l.sure c z),k.base.nw⟩
    b0:=k.b0
    slot:=fun j s ej=>by
      rw[xbd]at ej;split at ej
      · rename_i ij;subst ij;cases ej;obtain⟨a',vs0,e1,e2,e3,q⟩:=k.slot i _ hi;rw[ho]at e1;cases e1;exact⟨a,vs',by rw[ho];rfl,e2,cu,aC.lt l h⟩
      · rename_i ij;have q:=k.slot j s ej
        cases s with
        |un=>exact True.intro
        |val d=>obtain⟨v,e1,q⟩:=q;exact⟨v,e1,Is.lt l q⟩
        |own es=>
          obtain⟨a',ws,e1,e2,e3,q⟩:=q;refine⟨a',ws,e1,e2,?_,aC.lt l q⟩;rw[aZ (fun z=>ij (k.inj i j a ho (by rw[<-z];exact tY e1)))];exact e3
        |exc c n=>obtain⟨v,e1,q⟩:=q;exact⟨v,e1,q.lt l⟩
    own:=k.own
    inj:=k.inj
    olen:=by rw[xaz,k.olen]
    slen:=by rw[xaz,k.slen]}
theorem Hk.set (h:Hk K mg P H M)(e:M[j]? =some c)(w:pO K mg P (upd H (P.io j) o') (P.io j) c')(nd:c.fix=false:=by rfl):Lt P H P (upd H (P.io j) o')/\LtE P H P (upd H (P.io j) o')/\Hk K mg P (upd H (P.io j) o') (M.set j c'):=by
 have jl:j<P.n:=by rw[h.n];exact(xah.mp e).1
 obtain ⟨o, eo, nf⟩ := h.cellAt e nd;have l : Lt P H P (upd H (P.io j) o') := uc (h.bd j jl) eo nf;refine ⟨l, ⟨xaf _,fun _ _=>rfl,fun _ z=>.inl z,fun _ z=>z,fun a u ea n=>by
  have ne:a≠P.io j:=by
   rintro rfl;rw[eo]at ea;cases ea;exact n.elim nf fun nc=>nc j jl rfl
  rw[aZ ne];exact ea,l.sure,fun k h1 h2=>absurd h1 (xd8.mpr h2)⟩,⟨by rw[xaz,h.n],fun k b ek=>?_,h.inj,h.bd,fun a z q=>h.here a z (l.sure a q)⟩⟩
 rw[xbd]at ek;split at ek
 ·rename_i jk;subst jk;rw[xad (by rw[<-h.n];exact jl)]at ek;cases ek;exact w
 ·rename_i jk;have kl:k<P.n:=by rw[h.n];exact(xah.mp ek).1
  exact(h.cell k b ek).lt l fun u eu=>by rw[aZ (fun z=>jk (h.inj j k jl kl z.symm))];exact eu
def Ok.frz (k:Ok K mg P0 H0 P Os H M st env)(hi:env[i]? =some (.own ds)):∃P' Os',Lt P H P' H/\Ok K mg P0 H0 P' Os' H M st (env.set i (.val (.lst ds))):=by
 obtain⟨a,vs,e1,e2,e3,q⟩:=k.slot i _ hi;have ho:=tY e1;obtain⟨b1,b2,b3⟩:=k.own a (xaF ho);have ilt:i<env.length:=(xah.mp hi).1;have nO:∀b,some b∈Os.set i none->some b∈Os/\b≠a:=fun b z=>by
  obtain⟨j,hj⟩:=xdZ.mp z;rw[xbd]at hj;split at hj
  ·split at hj<;>cases hj
  ·rename_i ij;exact⟨xaF hj,fun z=>by subst z;exact ij (k.inj i j b ho hj)⟩
 have l : Lt P H (P.less (· ≠ a)) H := ⟨xaf _, fun _ _ => rfl, fun c z => .inl z.1, fun _ _ e _ => e, fun _ z => z⟩;refine ⟨P.less (· ≠a),Os.set i none,l,{
  hk:=⟨k.hk.n,fun j c ej=>(k.hk.cell j c ej).lt l fun _ z=>z,k.hk.inj,fun j hj=>⟨k.hk.bd j hj,b2 j hj⟩,fun c z=>k.hk.here c z.1⟩
  base:=⟨k.base.n,k.base.io,fun c z=>k.base.bd c z.1,fun c z=>⟨k.base.bm c z,fun q=>k.b0 c z (q ▸ b3)⟩,k.base.keep,k.base.sure,k.base.nw⟩
  b0:=k.b0
  slot:=fun j s ej=>?_
  own:=fun c z=>?_
  inj:=fun j l b z1 z2=>?_
  olen:=by rw[xaz,xaz,k.olen]
  slen:=by rw[xaz,k.slen]}⟩
 ·rw[CN _ _ _ _ (by rw[k.olen];exact ilt)];rw[xbd]at ej;split at ej
  ·rename_i ij;subst ij;cases ej;exact⟨.ref a,e2,a,vs,rfl,.inl ⟨fun z=>z.2 rfl,.inl e3⟩,aC.less q⟩
  ·rename_i ij;rw[xae ij];have q:=k.slot j s ej
   cases s with
   |un=>exact True.intro
   |val d=>obtain⟨v,e1,q⟩:=q;exact⟨v,e1,Is.less q⟩
   |own es=>obtain⟨a',ws,e1,e2,e3,q⟩:=q;exact⟨a',ws,e1,e2,e3,aC.less q⟩
   |exc c n=>obtain⟨v,e1,q⟩:=q;exact⟨v,e1,q.lt l⟩
 ·obtain⟨z1,z2⟩:=nO c z;obtain⟨c1,c2,c3⟩:=k.own c z1;exact⟨⟨c1,z2⟩,c2,c3⟩
 ·rw[xbd]at z1 z2;split at z1
  ·split at z1<;>cases z1
  ·split at z2
   ·split at z2<;>cases z2
   ·exact k.inj j l b z1 z2
end
section
variable {X:Cx}{Wx:XW}{pos:Pos}
def gF (h:PS X s t)(w:∀D σ H,t' D σ H->t D σ H):PS X s t':=fun pins s σ H D I hw=>h pins s σ H D I (w D σ H hw)
def Ld (h:gJ X s t)(w:∀D σ H,t' D σ H->t D σ H):gJ X s t':=fun pins s σ H D I hw=>h pins s σ H D I (w D σ H hw)
def aA:S:=fun env M=>some (.nx env,M)
noncomputable def aq (f g:S):S:=fun env M=>match f env M with
 |some (.nx e,M1)=>g e M1
 |o=>o
def aJ:SB X Wx [] aA:=by
 refine Ld zc9 ?_;f_tup;cases e;exact q P Os H st (Lt.refl P H) k
def Post.lt {K:Fgx}{mg:Mgx}{P0 P P1:Pl}{H0 H H1:Hp}{M':Mm}{D:Ends}{o:Out}(l:Lt P H P1 H1)(q:Post K mg Wx P0 H0 P H M' D o):Post K mg Wx P0 H0 P1 H1 M' D o:=by
 cases o with
 |nx env=>exact fun P' Os' H' st' l' k=>q P' Os' H' st' (l.trans l') k
 |bk env=>exact fun P' Os' H' st' l' k=>q P' Os' H' st' (l.trans l') k
 |ct env=>exact fun P' Os' H' st' l' k=>q P' Os' H' st' (l.trans l') k
 |rt d=>exact q
 |ex c n=>exact q
def aF (h1:SS X Wx s f)(h2:SB X Wx ss g):SB X Wx (s::ss) (aq f g):=by
  refine Ld (zcz h1 h2) ?_;f_tup;unfold aq at e;kjx_on
  · rename_i e1 M1 ef;refine⟨P0,H0,P,Os,env,M,_,_,k,ef,fun P1 Os1 H1 st1 l1 k1=>?_⟩;exact⟨P0,H0,P1,Os1,e1,M1,_,_,k1,e,q.lt l1⟩
  · rename_i o ho
    cases ef:f env M with
    |none=>rw[ef]at e;cases e
    |some om=>
      obtain⟨o1,M1⟩:=om;rw[ef]at e;cases e;refine⟨P0,H0,P,Os,env,M,_,_,k,ef,?_⟩
      cases out with
      |nx env'=>exact(ho _ _ ef).elim
      |bk env'=>exact q
      |ct env'=>exact q
      |rt d=>exact q
      |ex c n=>exact q
noncomputable def aO (i:Nat) (f:E):S:=fun env M=>bR (f env M) fun d M1=>if i<env.length then some (.nx (env.set i (.val d)),M1) else none
def bZ (hN:X.N.Nodup)(hi:X.N[i]? =some x)(hx:Loc X.env.scope x)(he:SE X Wx .val e f)(hs:swapsWith e (some (.Name x pos')) pos.line X.env=pure false:=by rfl)
  (hf:X.fn x=true\/X.env.scope.names.lookup x=some .local:=by first |exact .inl rfl |exact .inr rfl):SS X Wx (.Assign [.Name x pos'] e pos) (aO i f):=by
 refine gF (U3 hN hi hx he hs hf) ?_;f_tup;unfold aO at e;kas_ty
 ·kjx_on
  ·rename_i hl;cases e;exact⟨P0,H0,P,Os,env,M,_,_,k,e1,fun P1 v1 H1 l1 h1 i1=>q _ _ _ _ (l1.lt k.hk) ((k.next l1 h1).asg hl i1)⟩
  ·cases e
 ·kj_on
noncomputable def xY (i:Nat) (f:E):S:=fun env M=>bR (f env M) fun d M1=>match d with
 |.lst ds=>if i<env.length then some (.nx (env.set i (.own ds)),M1) else none
 |_=>none
def Gw (hN:X.N.Nodup)(hi:X.N[i]? =some x)(hx:Loc X.env.scope x)(he:SN X Wx e f)(hs:swapsWith e (some (.Name x pos')) pos.line X.env=pure false:=by rfl)
  (hf:X.fn x=true\/X.env.scope.names.lookup x=some .local:=by first |exact .inl rfl |exact .inr rfl):SS X Wx (.Assign [.Name x pos'] e pos) (xY i f):=by
 refine gF (U3 hN hi hx he hs hf) ?_;f_tup;unfold xY at e;kas_ty
 ·cases d<;>simp only[reduceCtorEq]at e
  rename_i ds;kjx_on
  ·rename_i hl;cases e;exact⟨P0,H0,P,Os,env,M,_,_,k,e1,ds,rfl,fun P1 a vs H1 l1 h1 ha ba nc ea is=>q _ _ _ _ (l1.lt k.hk) (k.mine l1 h1 hl ha ba nc ea is)⟩
  ·cases e
 ·kj_on
def aH (f:E):S:=fun env M=>bR (f env M) fun d M1=>some (.rt d,M1)
def aY (he:SE X Wx .val e f):SS X Wx (.Return (some e) pos) (aH f):=by
 refine gF (zex he) ?_;f_tup;unfold aH at e;kas_ty
 ·cases e;exact⟨P0,H0,P,Os,env,M,_,_,k,e1,fun P1 v1 H1 l1 h1 i1=>q P1 v1 H1 (k.base.trans l1) h1 i1⟩
 ·kj_on
noncomputable def zf (f:E):S:=fun env M=>bR (f env M) fun _ M1=>some (.nx env,M1)
def Oe (he:SE X Wx .bor e f)(hs:swapsWith e none pos.line X.env=pure false:=by rfl):SS X Wx (.Expr e pos) (zf f):=by
 refine gF (Fw he hs) ?_;f_tup;unfold zf at e;kas_ty
 ·cases e;exact⟨P0,H0,P,Os,env,M,_,_,k,e1,fun P1 v1 H1 l1 h1 i1=>q _ _ _ _ (l1.lt k.hk) (k.next l1 h1)⟩
 ·kj_on
noncomputable def bH (c:E) (f g:S):S:=fun env M=>bR (c env M) fun d M1=>match d with
 |.bl b=>if b=true then f env M1 else g env M1
 |_=>none
def bO (hc:ST X Wx c t)(ha:SB X Wx a f)(hb:SB X Wx b g):SS X Wx (.If c a b pos) (bH t f g):=by
  refine gF (zfC hc ha hb) ?_;f_tup;unfold bH at e;kas_ty
  · cases d<;>simp only[reduceCtorEq]at e
    rename_i b;refine fL k e1 ⟨b,rfl,fun P1 H1 l1 h1=>?_⟩
    cases b with
    |true=>
      rw[xad rfl]at e ⊢;exact⟨P0,H0,P1,Os,env,M1,_,_,k.next l1 h1,e,q.lt (l1.lt k.hk)⟩
    |false=>
      rw[xae (by decide)]at e ⊢;exact⟨P0,H0,P1,Os,env,M1,_,_,k.next l1 h1,e,q.lt (l1.lt k.hk)⟩
  · exact fL k e1 q
noncomputable def i_ (i:Nat):S:=fun env M=>match env[i]? with
 |some (.own ds)=>some (.nx (env.set i (.val (.lst ds))),M)
 |_=>none
def Gi (h:SB X Wx ss g):SB X Wx ss (aq (i_ i) g):=by
 refine Ld h ?_;f_tup;unfold aq i_ at e;kjx_on
 ·rename_i e1 M1 ef;split at ef
  ·rename_i ds es;cases ef;obtain⟨P1,Os1,l1,k1⟩:=k.frz es;exact⟨P0,H0,P1,Os1,_,_,_,_,k1,e,q.lt l1⟩
  ·cases ef
 ·rename_i ho;kjx_on
  ·rename_i es;exact(ho _ _ (by rw[es])).elim
  ·cases e
noncomputable def sH (i:Nat) (f:E):S:=fun env M=>match env[i]? with
 |some (.own ds)=>bR (f env M) fun d M1=>if ds.length<sizeLine then some (.nx (env.set i (.own (ds ++ [d]))),M1) else none
 |_=>none
def zeV (hN:X.N[i]? =some x)(hv:yD X.env.scope x)(he:SE X Wx .val e f)(hd:(x==("__debug__":Str))=false:=by x_go)(hcd:(x==("__classdict__":Str))=false:=by x_go)
  (hfew:((backTo q (starEach [e] X.env)).all (fun x=> !x.1) && (backToKw q (keywordEach [] X.env)).all (fun x=>x.1.isSome) && decide ([e].length + ([]:List Keyword).length + (if ([]:List Keyword).isEmpty then 0 else 1)<30))=true:=by rfl)
  (hline:(p.endLine==q.line)=true:=by rfl) (hs:starEach [e] X.env=(false,eval e X.env)::starEach [] X.env:=by rfl) (hw:swapsWith (.Call (.Attribute (.Name x p0) "append" p) [e] [] q) none pos.line X.env=pure false:=by rfl):
  SS X Wx (.Expr (.Call (.Attribute (.Name x p0) "append" p) [e] [] q) pos) (sH i f):=by
 refine gF (Fw (BR xbS xdL xdM Ku (Fq hN hv hd hcd) (pF he rY hs) rfl hfew hline hs rfl) hw) ?_;f_tup;unfold sH at e;kjx_on
 ·rename_i ds es;obtain⟨a,vs,o1,o2,o3,o4⟩:=k.slot i _ es;refine⟨.ref a,tY o2,.inl ⟨rfl,vs,.inl (.inl o3)⟩,?_⟩;kas_ty
  ·kjx_on
   ·rename_i hz;cases e;k_acc1;have k1:=k.next l1 h1
    obtain⟨a',vs',o1',o2',o3',o4'⟩:=k1.slot i _ es;have ea:a'=a:=by
     have z:=o2'.symm.trans o2;cases z;rfl
    subst ea;refine⟨a',vs',v1,rfl,rfl,o3',by rw[o4'.len];exact hz,?_⟩;obtain⟨l2,k2⟩:=k1.chg es (tY o1') o3' (aC.append o4' (aC.one i1));exact q _ _ _ _ ((l1.lt k.hk).trans l2) k2
   ·cases e
  ·tb_src
 ·cases e
def Wk (K:Fgx)(P1:Pl)(H1:Hp)(J:It)(ds:List D):Prop:=∀P H,Lt P1 H1 P H->(∀k,k<ds.length->J.go k H)/\(∀k,ds.length<=k->k<=ds.length->J.stop k H)/\∀k x H',J.yld k H x H'->k<ds.length->H'=H/\∃d,ds[k]? =some d/\Is K P H d x
noncomputable def IQ (K:Fgx) (mg:Mgx) (Wx:XW) (P0:Pl) (H0:Hp) (P:Pl) (H:Hp) (M':Mm) (R:It->Hp->Prop):ResA->Prop
 |.v ds=>∀P' H' J,LtE P H P' H'->Hk K mg P' H' M'->Wk K P' H' J ds->R J H'
 |.x c n=>Wx P0 H0 M' c n
noncomputable def tI (K:Fgx) (mg:Mgx) (Wx:XW) (fs:EA):TI:=fun st H R=>∃P0 H0 P Os env M r M',Ok K mg P0 H0 P Os H M st env/\fs env M=some (r,M')/\IQ K mg Wx P0 H0 P H M' R r
def SI (X:Cx)(Wx:XW)(tg iter:Expr)(fs:EA):Prop:=PI X tg iter (tI X.K X.mg Wx fs)
def BW (h:PI X tg iter t)(w:∀σ H R,t' σ H R->t σ H R):PI X tg iter t':=fun pins s σ H R I hw=>h pins s σ H R I (w σ H R hw)
noncomputable def loopS (i:Nat) (body:S):List D->Env->Mm->OS
  | [],env,M=>some (.nx env,M)
  | d :: ds, env, M => if i < env.length then (match body (env.set i (.val d)) M with
    |some (.nx e,M1)=>loopS i body ds e M1
    |some (.ct e,M1)=>loopS i body ds e M1
    |some (.bk e,M1)=>some (.nx e,M1)
    |some (.rt d,M1)=>some (.rt d,M1)
    |some (.ex c n,M1)=>some (.ex c n,M1)
    |none=>none) else none
noncomputable def cR (i:Nat) (fs:EA) (body:S):S:=fun env M=>match fs env M with
 |some (.v ds,M1)=>loopS i body ds env M1
 |some (.x c n,M1)=>some (.ex c n,M1)
 |none=>none
def zbN {K:Fgx}{mg:Mgx}{P0 P1:Pl}{H0 H1:Hp}{Os:List (Option Addr)}{M M':Mm}{st:L2.St}{env:Env}{i:Nat}{b:S}{J:It}{ds:List D}{out:Out}{D:Ends}(k:Ok K mg P0 H0 P1 Os H1 M st env)(wk:Wk K P1 H1 J ds)
  (h:loopS i b ds env M=some (out,M')) (q:Post K mg Wx P0 H0 P1 H1 M' D out):
  ∃W:Nat->Nat->L2.St->Hp->Prop,(∃m,W 0 m st H1)/\∀j m σ H,W j m σ H->
   (J.stop j H/\D.nx σ H)\/(J.go j H/\∃Nn:L2.St->Hp->Prop,(∀σ' H',Nn σ' H'->∃m',m'<m/\W (j + 1) m' σ' H')/\∀x H',J.yld j H x H'->Ac i x σ H' fun σ2 H2=>tS K mg Wx b {D with nx:=Nn,ct:=Nn,bk:=D.nx} σ2 H2):=by
 refine⟨fun j m σ H=>m=ds.length - j/\j<=ds.length/\∃P Os' M1 env',Lt P1 H1 P H/\Ok K mg P0 H0 P Os' H M1 σ env'/\loopS i b (ds.drop j) env' M1=some (out,M'),⟨ds.length,by simp,xbz _,P1,Os,M,env,Lt.refl _ _,k,h⟩,?_⟩;rintro j m σ H ⟨rfl,hj,P,Os',M1,env',lt,k',h'⟩;obtain⟨w1,w2,w3⟩:=wk P H lt
 by_cases hlt:j<ds.length
 ·refine .inr ⟨w1 j hlt,fun σ' H'=>∃P Os' M1 env',Lt P1 H1 P H'/\Ok K mg P0 H0 P Os' H' M1 σ' env'/\loopS i b (ds.drop (j + 1)) env' M1=some (out,M'),fun σ' H' z=>⟨ds.length - (j + 1),by lia,rfl,hlt,z⟩,fun x H' y=>?_⟩;obtain⟨e3,d,ed,iv⟩:=w3 j x H' y hlt;subst e3;have ed':ds.drop j=d::ds.drop (j + 1):=by
   rw[xaV hlt];rw[xab hlt]at ed;rw[xaA ed]
  rw[ed']at h';simp only[loopS]at h';split at h'
  ·rename_i hi;have k2:=k'.asg hi iv;split at h'
   ·rename_i e M2 eb;exact⟨P0,H0,P,_,_,M1,_,_,k2,eb,fun P' Os2 H2 st2 l2 k3=>⟨P',Os2,_,e,lt.trans l2,k3,h'⟩⟩
   ·rename_i e M2 eb;exact⟨P0,H0,P,_,_,M1,_,_,k2,eb,fun P' Os2 H2 st2 l2 k3=>⟨P',Os2,_,e,lt.trans l2,k3,h'⟩⟩
   ·rename_i e M2 eb;cases h';exact⟨P0,H0,P,_,_,M1,_,_,k2,eb,fun P' Os2 H2 st2 l2 k3=>q P' Os2 H2 st2 (lt.trans l2) k3⟩
   ·rename_i e M2 eb;cases h';exact⟨P0,H0,P,_,_,M1,_,_,k2,eb,q⟩
   ·rename_i c n M2 eb;cases h';exact⟨P0,H0,P,_,_,M1,_,_,k2,eb,q⟩
   ·cases h'
  ·cases h'
 ·have ej:j=ds.length:=by lia
  subst ej;rw[xch]at h';cases h';exact .inl ⟨w2 _ (xaf _) (xaf _),q P Os' H σ lt k'⟩
def sV (hp:PassesOwn (model X.prog X.w) X.A X.env X.xe)(hc:X.calm=true)(hN:X.N.Nodup)(hi:X.N[i]? =some x)(hx:Loc X.env.scope x)(hI:SI X Wx (.Name x p) iter fs)(hb:SB X Wx body b)
  (hf:X.fn x=true\/X.env.scope.names.lookup x=some .local:=by first |exact .inl rfl |exact .inr rfl) (hs:∀x,foldedSetIterable iter X.env x=pure x:=by intro _;rfl):SS X Wx (.For (.Name x p) iter body [] pos) (cR i fs b):=by
 refine gF (U0 hp hc hI (Ft hN hi hx hf) hb hs) ?_;f_tup;unfold cR at e;kjx_on
 ·rename_i ds M1 ef;exact⟨P0,H0,P,Os,env,M,_,_,k,ef,fun P1 H1 J l1 h1 wk=>zbN (k.next l1 h1) wk e (q.lt (l1.lt k.hk))⟩
 ·k_same
 ·cases e
noncomputable def cF (f:E):EA:=fun env M=>match f env M with
 |some (.v (.lst ds),M1)=>some (.v ds,M1)
 |some (.x c n,M1)=>some (.x c n,M1)
 |_=>none
def nq (h:SE X Wx .val e f):SI X Wx tg e (cF f):=by
 refine BW (UL h) ?_;w_size;unfold cF at e;kjx_on
 ·rename_i ds M1 ef;cases e;refine⟨P0,H0,P,Os,env,M,_,_,k,ef,fun P1 v1 H1 l1 h1 i1=>?_⟩;obtain⟨a,vs,rfl,ra,is⟩:=i1;refine⟨a,rfl,⟨vs,ra.imp (·.2) id⟩,q P1 H1 _ l1 h1 fun P2 H2 l2=>?_⟩;have ra2:=l2.rda ra;have is2:=aC.lt l2 is;have sq:b_ X.K H2 a vs:=ra2.imp (·.2) id;refine⟨fun j hj=>?_,fun j h1 h2=>⟨vs,sq,by rw[is2.len];exact h1⟩,fun j x H' y hj=>⟨y.1,?_⟩⟩
  ·obtain⟨v,ev,_⟩:=aC.get is2 (xab hj);exact⟨vs,v,sq,ev⟩
  ·obtain⟨v,ev,iv⟩:=aC.get is2 (xab hj);have:=y.2 vs sq;rw[ev]at this;cases this;exact⟨_,xab hj,iv⟩
 ·k_same
 ·cases e
end
abbrev G:=List D->Mm->O
noncomputable def nu (K:Fgx) (mg:Mgx) (n:Nat) (g:G):Sp:=fun vs H Q _=>vs.length=n/\∃P M ds d M',Hk K mg P H M/\aC K P H ds vs/\g ds M=some (.v d,M')/\∀P' v H',LtE P H P' H'->Hk K mg P' H' M'->Is K P' H' d v->Q v H'
noncomputable def cC (o:OS):O:=match o with
 |some (.rt d,M)=>some (.v d,M)
 |some (.nx _,M)=>some (.v .non,M)
 |some (.ex c n,M)=>some (.x c n,M)
 |_=>none
noncomputable def bA (n:Nat) (b:S):G:=fun ds M=>cC (b (ds.map .val ++ List.replicate (n - ds.length) .un) M)
def Om {K:Fgx}{mg:Mgx}{P:Pl}{H:Hp}{M:Mm}{N:List Str}{ds:List D}{vs:List V}(hk:Hk K mg P H M)(hl:vs.length<=N.length)(h:aC K P H ds vs):
  Ok K mg P H P (List.replicate N.length none) H M (L2.start N vs) (ds.map .val ++ List.replicate (N.length - ds.length) .un):=by
 have hd:=h.len;refine⟨hk,LtE.refl P H,hk.here,fun i s e=>?_,fun a z=>?_,fun i j a e1 _=>?_,by simp;lia,by simp[L2.start];lia⟩
 ·have e0:((List.replicate N.length (none:Option Addr))[i]?).join=none:=by
   rw[xaQ]
   split<;>rfl
  rw[e0]
  by_cases hi:i<ds.length
  ·rw[xaC (by simpa using hi),xam,xab hi]at e;simp only[xb5,xes]at e;subst e;obtain⟨v,ev,p⟩:=h.get (xab hi);refine⟨v,?_,p⟩;unfold L2.start;rw[xaC (by rw[xan];lia),xam,ev];rfl
  ·rw[xap (by simpa using hi),xaQ]at e;kjx_on
   ·cases e;exact True.intro
   ·cases e
 ·exact absurd (xci z) (by simp)
 ·rw[xaQ]at e1;split at e1<;>cases e1
structure FunD (K:Fgx)(x qual:Str)(st:Stmt)(f:Addr)(fd:FuncData):Prop where
 ex:∃(oc:Value) (od:Option Addr) (dV kV doc pm:Value) (an:Option Addr) (cdv ct:Value) (osl:Array (Option Value)),
  fd=PySem.W.fnOf x qual (dh st) (cB st) (aL st) dV kV doc pm an cdv ct/\K.lookup f=some ⟨oc,od,.func fd,osl⟩/\PySem.W.codeIn K cdv qual=true
 kp:PySem.W.keepIn K (.ref f)=true
def Ab {K:Fgx}{x qual:Str}{st:Stmt}{f:Addr}{oc:Value}{od an:Option Addr}{osl:Array (Option Value)}{dV kV doc pm cdv ct:Value}(l:K.lookup f=some ⟨oc,od,.func (PySem.W.fnOf x qual (dh st) (cB st) (aL st) dV kV doc pm an cdv ct),osl⟩)
  (c:PySem.W.codeIn K cdv qual=true) (k:PySem.W.keepIn K (.ref f)=true):FunD K x qual st f (PySem.W.fnOf x qual (dh st) (cB st) (aL st) dV kV doc pm an cdv ct):=⟨⟨oc,od,dV,kV,doc,pm,an,cdv,ct,osl,rfl,l,c⟩,k⟩
section
variable {P:Program}{w:World}{K:Fgx}{mg:Mgx}{base:Heap}{k:Nat}{x qual:Str}{st:Stmt}{f:Addr}{fd:FuncData}{N ps:List Str}{b:S}
def W0:XW:=fun _ _ _ _ _=>False
abbrev pY (P:Program)(w:World)(K:Fgx)(mg:Mgx)(base:Heap)(N:List Str)(qual:Str)(st:Stmt)(f:Addr)(cdv:Value)(A:Around)(outer:List PySem.Env)(s:Shared)(H:Hp)(E:XK):Cx:=(cU fP P w K mg base N qual (aL st) f cdv A outer s H E).nox
def yJ (F:FunD K x qual st f fd)(S:FnScope N ps (aL st))(hp:ps.length<=N.length)
  (hb:∀cdv A outer s H E,Room k (A.deeper (envOfC qual (aL st) s.heap.objs.size f cdv))->SB (pY P w K mg base N qual st f cdv A outer s H E) W0 (cB st) b):FnOk P w K mg base fP (k + 1) f fd ps (nu K mg ps.length (bA N.length b)):=by
 obtain⟨oc,od,dV,kV,doc,pm,an,cdv,ct,osl,rfl,lk,hcd⟩:=F.ex;refine RV lk hcd S (fun vs H Q E h=>h.1) fun A outer s H vs Q E hr h=>?_;obtain⟨hl,Pl,M,ds,d,M',hk,is,e,q⟩:=h;refine⟨_,gJ.nox (hb cdv A outer s H E hr),?_⟩;unfold bA cC at e;have st0:=Om (N:=N) hk (by lia) is;kjx_on
 ·kri_at
 ·kfm_hd
 ·rename_i c n M2 eb;cases e
 ·cases e
def bB (P:Program)(w:World)(K:Fgx)(mg:Mgx)(base:Heap)(k:Nat)(f:Str)(n:Nat)(g:G):Prop:=
 ∃fa fd ps ds dvs sp,mg f=some (.ref fa)/\PySem.W.keepIn K (.ref fa)=true/\FnOk P w K mg base fP k fa fd ps sp/\Binds K fd ps ds/\Vals dvs ds/\∀vs H Q E,nu K mg n g vs H Q E->sp (vs ++ dvs) H Q E
def ZQ (F:FunD K x qual st f fd)(S:FnScope N ps (aL st))(hp:ps.length<=N.length)(hm:mg x=some (.ref f))(hd:Binds K fd ps [])
  (hb:∀cdv A outer s H E,Room k (A.deeper (envOfC qual (aL st) s.heap.objs.size f cdv))->SB (pY P w K mg base N qual st f cdv A outer s H E) W0 (cB st) b):bB P w K mg base (k + 1) x ps.length (bA N.length b):=
 ⟨f,fd,ps,[],[],_,hm,F.kp,yJ F S hp hb,hd,.nil,fun vs H Q E h=>by rw[xas];exact h⟩
theorem bB.mono (a:bB P w K mg base j x n g)(h:j<=k):bB P w K mg base k x n g:=by
 obtain⟨fa,fd,ps,ds,dvs,sp,h1,h2,h3,h4⟩:=a;exact⟨fa,fd,ps,ds,dvs,sp,h1,h2,h3.mono h,h4⟩
end
section
variable {X:Cx}{Wx:XW}{m:Mode}
noncomputable def bQ (g:G) (fs:EA):E:=fun env M=>cO (fs env M) fun ds M1=>match g ds M1 with
 |some (.v d,M2)=>some (.v d,M2)
 |_=>none
theorem cM.len {K:Fgx}{P:Pl}{H:Hp}:∀{ds:List D} {vs:List V},cM K P H m ds vs->vs.length=ds.length
  | [],_,h=>by rw[show _=[] from h];rfl
  |d::ds,_,h=>by
    obtain⟨v,r,e,_,q⟩:=h;subst e
    simp[cM.len q]
def nJ (n:Nat)(fs:EA):Prop:=∀env M ds M',fs env M=some (.v ds,M')->ds.length=n
theorem cnt_nil:nJ 0 ao:=fun env M ds M' e=>by cases e;rfl
def cnt_cons (h:nJ n fs):nJ (n + 1) (au f fs):=fun env M ds M' e=>by
 unfold au at e;kjx_on
 ·kjx_on
  ·rename_i ef;cases e;rw[xaw,h _ _ _ _ ef]
  ·cases e
  ·cases e
 ·cases e
 ·cases e
def cT {k n:Nat}{f:Str}{g:G}{e:Expr}{es:List Expr}{fs:EA}{p pos:Pos}(a:bB X.prog X.w X.K X.mg X.base k f n g)(hr:Room k X.A)(hg:Gl X f)(ha:SA X Wx .val (e::es) fs)(hn:nJ n fs)(hdb:(f==("__debug__":Str))=false:=by x_go)
  (he:starEach (e::es) X.env=(false,eval e X.env)::starEach es X.env:=by rfl) (hpl:(backTo pos (starEach es X.env)).any (·.1)=false:=by rfl):SE X Wx m (.Call (.Name f p) (e::es) [] pos) (bQ g fs):=by
 obtain⟨fa,fd,ps,ds,dvs,sp,hm,hk,F,hb,hv,himp⟩:=a;refine cD (zdb F hr hg hm hk hb hv BL ha hdb he hpl) ?_;k_go;unfold bQ at e;kt_str
 ·kjx_on
  ·o_inst
  ·cases e
 ·kj_on
end
def zH (i j:Int):Prop:=pN i j\/(i.natAbs.log2<10000/\j.natAbs.log2<10000)
def Qq (h:i.natAbs.log2<10000):Builtin.Int.intBits i<=10001:=by
 unfold Builtin.Int.intBits
 split<;>lia
theorem zH.ok (h:zH i j):IntMulOk i j:=by
 rcases h with h |⟨h1,h2⟩
 ·exact h.ok
 ·exact mulOk_of_bits (Qq h1) (Qq h2) (by decide)
def Fp:bV X (binaryOp .Mult) (rI zH fun i j=>.int (i * j)):=Fo fun _ _ _ _ _ _ _ hc q=>mul_int q hc.ok
section
variable {X:Cx}{pins:Pnx}{σ:L2.St}{H:Hp}{s:Shared}{K:Fgx}
noncomputable def Vb (K:Fgx):R2:=fun x y H Q=>∃l b xs zs,x=.ref l/\y=.ref b/\b_ K H l xs/\b_ K H b zs/\xs.length + zs.length<=sizeLine/\∀p,H p=none->Q (.ref p) (upd H p (.lst (xs ++ zs)))
def zdu:bV X (binaryOp .Add) (Vb X.K):=by
 l_out;obtain⟨l,b,xs,zs,rfl,rfl,hH,hB,hz,q⟩:=h;cases rx;cases ry;obtain⟨z,its,r,⟨cls,dd,data,sl⟩,ho,hc,n,hd⟩:=sql I hH;obtain⟨z2,its2,r2,⟨cls2,dd2,data2,sl2⟩,ho2,hc2,n2,hd2⟩:=sql I hB;simp only at hc hd hc2 hd2;subst hc hd hc2 hd2;have hl:=r.length;have hl2:=r2.length;refine concat_meets ⟨_,ho,rfl⟩ ⟨_,ho2,rfl⟩ noFill_list_add seq_list_add F.slot_list_add F.entry_list_add (F.args_list_add_2 _ _) (list_addW l b its.toArray its2.toArray n n2 dd dd2 sl sl2 (by rw[xai,xai];lia)) ⟨ho,ho2,?_⟩;have ea:its.toArray ++ its2.toArray=(its ++ its2).toArray:=by simp
 rw[ea];exact⟨.ref _,_,I.lnew (t':=s.toks) (r.append r2) (by rw[xag];lia),rfl,q _ I.fresh⟩
def Uk {P:Pl}{H:Hp}{ds:List D}{vs:List V}{Q:VK}(hn:∀p,H p=none->¬ P.bd p)(h:aC K P H ds vs)(q:∀u H',Same H H'->Is K P H' (.lst ds) u->Q u H'):∀p,H p=none->Q (.ref p) (upd H p (.lst vs)):=fun p hp=>by
 have s:=vg (o:=.lst vs) hp;exact q _ _ s ⟨p,vs,rfl,.inl ⟨hn p hp,.inl cu⟩,aC.lt ⟨xaf _,fun _ _=>rfl,fun _ z=>.inl z,fun a o e _=>s a o e,fun a z=>s.free z⟩ h⟩
def KY {P:Pl}{H:Hp}{ds:List D}{vs:List V}{Q:VK}(h:aC K P H ds vs)(q:∀u H',Same H H'->Is K P H' (.tup ds) u->Q u H'):∀p,H p=none->Q (.ref p) (upd H p (.tup vs)):=fun p hp=>by
 have s:=vg (o:=.tup vs) hp;exact q _ _ s ⟨p,vs,rfl,.inl (.inl cu),aC.lt ⟨xaf _,fun _ _=>rfl,fun _ z=>.inl z,fun a o e _=>s a o e,fun a z=>s.free z⟩ h⟩
noncomputable def cQ:D->D->Option D
 |.int i,.int j=>some (.int (i + j))
 |.str i,.str j=>if i.length + j.length<=sizeLine then some (.str (i ++ j)) else none
 |.lst xs,.lst ys=>if xs.length + ys.length<=sizeLine then some (.lst (xs ++ ys)) else none
 |_,_=>none
noncomputable def xP (K:Fgx):R2:=fun x y H Q=>k_ (fun i j=>.int (i + j)) x y H Q\/(∃i j,x=.str i/\y=.str j/\i.length + j.length<=sizeLine/\Q (.str (i ++ j)) H)\/Vb K x y H Q
def pD:bV X (binaryOp .Add) (xP X.K):=zdY.or (zbc.or zdu)
def pG:kO K (xP K) cQ:=fun P H d e z v w Q h h1 h2 hn q=>by
 unfold cQ at h;krn_ne
 ·cases h;cases h1;cases h2;exact .inl ⟨_,_,rfl,rfl,q _ H (Same.refl H) rfl⟩
 ·krn_ne
  ·rename_i hl;cases h;cases h1;cases h2;exact .inr (.inl ⟨_,_,rfl,rfl,hl,q _ H (Same.refl H) rfl⟩)
  ·cases h
 ·krn_ne
  ·rename_i hl;cases h;obtain⟨a,vs,rfl,r1,s1⟩:=h1;obtain⟨b,ws,rfl,r2,s2⟩:=h2;exact .inr (.inr ⟨a,b,vs,ws,rfl,rfl,r1,r2,by rw[s1.len,s2.len];exact hl,Uk hn (s1.append s2) q⟩)
  ·cases h
 ·cases h
noncomputable def oI (g:Int->Int->Option D):D->D->Option D
 |.int i,.int j=>g i j
 |_,_=>none
def Bu (h:oI g d e=some z)(h1:cg K P H d v)(h2:cg K P H e w):∃i j,v=.int i/\w=.int j/\g i j=some z:=by
 unfold oI at h;krn_ne
 ·cases h1;cases h2;exact⟨_,_,rfl,rfl,h⟩
 ·cases h
def fH:=oI fun i j=>some (.int (i - j))
def Ca:kO K (k_ fun i j=>.int (i - j)) fH:=fun P H d e z v w Q h h1 h2 _ q=>by
 obtain⟨i,j,rfl,rfl,h⟩:=Bu h h1 h2;cases h;exact⟨i,j,rfl,rfl,q _ H (Same.refl H) rfl⟩
noncomputable def gZ:=oI fun i j=>if i.natAbs<18446744073709551616\/j.natAbs<18446744073709551616\/(i.natAbs.log2<10000/\j.natAbs.log2<10000) then some (.int (i * j)) else none
def FJ:kO K (rI zH fun i j=>.int (i * j)) gZ:=fun P H d e z v w Q h h1 h2 _ q=>by
 obtain⟨i,j,rfl,rfl,h⟩:=Bu h h1 h2;krn_ne
 ·rename_i hg;cases h;exact⟨i,j,rfl,rfl,by unfold zH pN;rw[show(2:Int) ^ 64=18446744073709551616 from rfl];exact hg.elim (fun z=>.inl (.inl ⟨by lia,by lia⟩)) (fun z=>z.elim (fun z=>.inl (.inr ⟨by lia,by lia⟩)) .inr),q _ H (Same.refl H) rfl⟩
 ·cases h
noncomputable def gY:=oI fun i j=>if 0<j/\j.natAbs<1073741824 then some (.int (i / j)) else none
def sy:kO K (rI zG fun i j=>.int (i / j)) gY:=fun P H d e z v w Q h h1 h2 _ q=>by
 obtain⟨i,j,rfl,rfl,h⟩:=Bu h h1 h2;krn_ne
 ·rename_i hg;cases h;exact⟨i,j,rfl,rfl,⟨hg.1,by lia⟩,q _ H (Same.refl H) rfl⟩
 ·cases h
def oMod:=oI fun i j=>if 0<j then some (.int (i % j)) else none
def h_:kO K (rI (fun _ j=>0<j) fun i j=>.int (i % j)) oMod:=fun P H d e z v w Q h h1 h2 _ q=>by
 obtain⟨i,j,rfl,rfl,h⟩:=Bu h h1 h2;krn_ne
 ·rename_i hg;cases h;exact⟨i,j,rfl,rfl,hg,q _ H (Same.refl H) rfl⟩
 ·cases h
noncomputable def g8:=oI fun i j=>if 0<=j/\j.natAbs<=1000000/\i.natAbs<18446744073709551616 then some (.int (i ^ j.toNat)) else none
def Lf:kO K (rI wj fun i j=>.int (i ^ j.toNat)) g8:=fun P H d e z v w Q h h1 h2 _ q=>by
 obtain⟨i,j,rfl,rfl,h⟩:=Bu h h1 h2;krn_ne
 ·rename_i hg;cases h;exact⟨i,j,rfl,rfl,by unfold wj;rw[show(2:Nat) ^ 64=18446744073709551616 from rfl];exact⟨hg.1,by lia,hg.2.2⟩,q _ H (Same.refl H) rfl⟩
 ·cases h
def aG (c:Cp)(a b:D):Option D:=(c7 c a b).map .bl
def xK:kO K (Ln K c) (aG c):=fun P H d e z v w Q h h1 h2 _ q=>by
 unfold aG at h;rw[xaj]at h;obtain⟨b,h,rfl⟩:=h;exact Y_ h h1 h2 (q _ H (Same.refl H) rfl)
noncomputable def aM:D->D->Option D
 |.lst ds,.int i=>cN ds i
 |.tup ds,.int i=>cN ds i
 |.str z,.int i=>if z.length<=sizeLine then(cN z.cps.toList i).map fun c=>.str ⟨#[c]⟩ else none
 |_,_=>none
noncomputable def Lq (K:Fgx):R2:=fun x y H Q=>xQ K x y H Q\/xT K x y H Q\/xR x y H Q
def zeX:nQ X (Lq X.K):=zcE.or (ze4.or zeW)
def Qd (h:cN ds i=some d)(q:aC K P H ds vs):∃u,cN vs i=some u/\Is K P H d u:=by
 unfold cN at h ⊢;rw[q.len]
 cases e:gQ ds.length i with
 |none=>rw[e]at h;cases h
 |some j=>rw[e]at h;exact q.get h
def zgc:kO K (Lq K) aM:=fun P H d e z v w Q h h1 h2 _ q=>by
 unfold aM at h;krn_ne
 ·obtain⟨a,vs,rfl,r,s⟩:=h1;cases h2;obtain⟨u,e,p⟩:=Qd h s;exact .inl ⟨a,vs,_,u,rfl,rfl,r,e,q _ H (Same.refl H) p⟩
 ·obtain⟨a,vs,rfl,r,s⟩:=h1;cases h2;obtain⟨u,e,p⟩:=Qd h s;exact .inr (.inl ⟨a,vs,_,u,rfl,rfl,r,e,q _ H (Same.refl H) p⟩)
 ·krn_ne
  ·rename_i hl;rw[xaj]at h;obtain⟨c,h,e⟩:=h;cases e;cases h1;cases h2;exact .inr (.inr ⟨_,_,c,rfl,rfl,hl,h,q _ H (Same.refl H) rfl⟩)
  ·cases h
 ·cases h
noncomputable def bW:List D->Option D
 | [.lst ds]=>some (.int ds.length)
 | [.tup ds]=>some (.int ds.length)
 | [.str z]=>if z.length<=sizeLine then some (.int z.length) else none
 |_=>none
def Cd (K:Fgx):List V->Hp->VK->Prop:=fun xs H Q=>(∃p ys,xs=[.ref p]/\(b_ K H p ys\/cI K H p ys)/\Q (.int ys.length) H)\/∃z,xs=[.str z]/\z.length<=sizeLine/\Q (.int z.length) H
def tV:dB X (.builtin "len") (Cd X.K):=YS.or YT
def u6:lF K (Cd K) bW:=fun P H ds z vs Q h i _ q=>by
 unfold bW at h;krn_ne
 ·kim_at;cases h;obtain⟨a,us,rfl,r,s⟩:=p;exact .inl ⟨a,us,rfl,.inl r,q _ H (Same.refl H) (by rw[s.len];rfl)⟩
 ·kim_at;cases h;obtain⟨a,us,rfl,r,s⟩:=p;exact .inl ⟨a,us,rfl,.inr r,q _ H (Same.refl H) (by rw[s.len];rfl)⟩
 ·krn_ne
  ·rename_i hl;kim_at;cases h;cases p;exact .inr ⟨_,rfl,hl,q _ H (Same.refl H) rfl⟩
  ·cases h
 ·cases h
noncomputable def mO:List D->Option D
 | [.int i,.int j]=>some (.int (if j<i then j else i))
 |_=>none
noncomputable def gK:List D->Option D
 | [.int i,.int j]=>some (.int (if j > i then j else i))
 |_=>none
def U4:lF K (fun xs H Q=>∃i j,xs=[.int i,.int j]/\Q (.int (if j<i then j else i)) H) mO:=fun P H ds z vs Q h i _ q=>by
 unfold mO at h;krn_ne
 ·obtain⟨v,ws,rfl,p,v',ws',rfl,p',rfl⟩:=i;cases h;cases p;cases p';exact⟨_,_,rfl,q _ H (Same.refl H) rfl⟩
 ·cases h
def Fz:lF K (fun xs H Q=>∃i j,xs=[.int i,.int j]/\Q (.int (if j > i then j else i)) H) gK:=fun P H ds z vs Q h i _ q=>by
 unfold gK at h;krn_ne
 ·obtain⟨v,ws,rfl,p,v',ws',rfl,p',rfl⟩:=i;cases h;cases p;cases p';exact⟨_,_,rfl,q _ H (Same.refl H) rfl⟩
 ·cases h
end
section
variable {X:Cx}{Wx:XW}{m:Mode}
noncomputable def Dk:D->String
 |.non=>"NoneType"
 |.bl _=>"bool"
 |.int _=>"int"
 |.str _=>"str"
 |.tup _=>"tuple"
 |.lst _=>"list"
 |.ref _=>""
def YM:dB X (.builtin "isinstance") (fun xs H Q=>∃(x:V) (T:String) (d:D) (P:Pl) (b:Bool),xs=[x,.ty T]/\cg X.K P H d x/\Dk d≠""/\PySem.W.kitOne X.K (.type (Dk d)) (.type T)=some b/\Q (.bl b) H):=by
  kj_one;obtain⟨x,T,d,A,b,rfl,i,ne,e,q⟩:=h;obtain⟨u,w',rfl,rx,rT⟩:=vals2 r;cases rT;have fin:∀tk,EP X pins σ Q (.bool b) {s with toks:=tk}:=fun tk=>⟨.bl b,H,I.tok _,rfl,q⟩
  cases d with
  |non=>have hv:x=.non:=i;subst hv;exact Ep I rx (TyOf.non) e fin
  |bl y=>have hv:x=.bl y:=i;subst hv;exact Ep I rx (TyOf.bl y) e fin
  |int y=>have hv:x=.int y:=i;subst hv;exact Ep I rx (TyOf.int y) e fin
  |str y=>have hv:x=.str y:=i;subst hv;exact Ep I rx (TyOf.str y) e fin
  |ref n=>exact absurd rfl ne
  |tup ds=>
    obtain⟨a,vs,rfl,t,_⟩:=i;cases rx;obtain⟨its,_,p,_⟩:=I.tuple t;obtain⟨o,h1,h2,_⟩:=p;exact xa3 xek I.kIn ⟨o,h1,h2⟩ e (fun z=>nomatch z) fin
  |lst ds=>
    obtain⟨a,vs,rfl,t,_⟩:=i;cases rx;obtain⟨_,its,_,o,h1,h2,_⟩:=sql I t;exact xa3 xdz I.kIn ⟨o,h1,h2⟩ e (fun z=>nomatch z) fin
theorem zcm {K:Fgx}{P:Pl}{H:Hp}{lo:Int}{n:Nat}:Wk K P H (Ds lo n) ((List.range n).map fun(k:Nat)=>.int (lo + k)):=fun P' H' l=>by
 rw[xan,xbC];refine⟨fun k hk=>hk,fun k h1 _=>h1,fun k x H2 y hk=>⟨y.1,.int (lo + k),?_,y.2⟩⟩;rw[xam,xbU hk];rfl
noncomputable def gP (fs:EA):EA:=fun env M=>match fs env M with
 |some (.v [.int j],M1)=>if -1000000000<=j/\j<=1000000000 then some (.v ((List.range j.toNat).map fun(k:Nat)=>.int (0 + k)),M1) else none
 |some (.x c n,M1)=>some (.x c n,M1)
 |_=>none
def CQ (hg:Gl X "range")(hm:X.mg "range"=none)(ha:SA X Wx .val [a] fs)(hs:starEach [a] X.env=[(false,eval a X.env)]:=by rfl):SI X Wx tg (.Call (.Name "range" p) [a] [] pos) (gP fs):=by
 refine BW (zbx hg hm ha hs) ?_;w_size;unfold gP at e;kjx_on
 ·rename_i j M1 ef;kjx_on
  ·rename_i hj;cases e;refine⟨P0,H0,P,Os,env,M,_,_,k,ef,fun P1 vs H1 l1 h1 i1=>?_⟩;obtain⟨v,ws,rfl,p,rfl⟩:=i1;exact⟨j,by rw[show v=.int j from p],by lia,by lia,q P1 H1 _ l1 h1 zcm⟩
  ·cases e
 ·k_same
 ·cases e
def m8:Env->Mm->Option (Option Int×Mm):=fun _ M=>some (none,M)
noncomputable def gD (f:E):Env->Mm->Option (Option Int×Mm):=fun env M=>match f env M with
 |some (.v (.int i),M1)=>some (some i,M1)
 |_=>none
noncomputable def tP (K:Fgx) (mg:Mgx) (f:Env->Mm->Option (Option Int×Mm)):TO:=fun st H Q=>∃P0 H0 P Os env M i M',Ok K mg P0 H0 P Os H M st env/\f env M=some (i,M')/\∀P' H',LtE P H P' H'->Hk K mg P' H' M'->Q i H'
def yC (X:Cx)(e:Option Expr)(f:Env->Mm->Option (Option Int×Mm)):Prop:=PO X e (tP X.K X.mg f)
def UW (h:PO X e t)(w:∀σ H Q,t' σ H Q->t σ H Q):PO X e t':=fun pins s σ H Q I hw=>h pins s σ H Q I (w σ H Q hw)
def Gu:yC X none m8:=by
 refine UW zdc ?_;rintro st H Q ⟨P0,H0,P,Os,env,M,i,M',k,e,q⟩;cases e;exact q P H (LtE.refl P H) k.hk
def zu (h:SE X Wx .val e f):yC X (some e) (gD f):=by
 refine UW (zcX h) ?_;rintro st H Q ⟨P0,H0,P,Os,env,M,i,M',k,e,q⟩;unfold gD at e;kjx_on
 ·rename_i j M1 ef;cases e;exact⟨P0,H0,P,Os,env,M,_,_,k,ef,fun P1 v H1 l1 h1 i1=>⟨j,i1,q P1 H1 l1 h1⟩⟩
 ·cases e
noncomputable def bT {α:Type} (xs:List α) (lo hi:Option Int):List α:=(xs.drop (HT.bF xs.length 0 lo)).take (HT.bF xs.length xs.length hi - HT.bF xs.length 0 lo)
def Q_ {K:Fgx}{P:Pl}{H:Hp}{ds:List D}{vs:List V}{lo hi:Option Int}(q:aC K P H ds vs):aC K P H (bT ds lo hi) (fX vs lo hi):=by
 unfold bT fX;rw[q.len];exact(q.drop _).take _
noncomputable def CT (d:D) (lo hi:Option Int):Option D:=match d with
 |.lst ds=>some (.lst (bT ds lo hi))
 |.str z=>if z.length<=sizeLine then some (.str (Txt.slice z lo hi)) else none
 |_=>none
noncomputable def zj (f:E) (l h:Env->Mm->Option (Option Int×Mm)):E:=fun env M=>bnd (f env M) fun d M1=>match l env M1 with
  | some (lo, M2) => (match h env M2 with
    |some (hi,M3)=>(CT (vw M3 d) lo hi).map fun z=>(.v z,M3)
    |none=>none)
  |none=>none
def W3 {e:Expr}{lo hi:Option Expr}{p2 pos:Pos}{f:E}{l h:Env->Mm->Option (Option Int×Mm)}(he:SE X Wx .bor e f)(hl:yC X lo l)(hh:yC X hi h):SE X Wx m (.Subscript e (.Slice lo hi none p2) pos) (zj f l h):=by
 refine cD (UJ (zc4.or zfA) he hl hh) ?_;k_go;unfold zj at e;by_in
 ·kjx_on
  ·rename_i lo' M2 el;kjx_on
   ·rename_i hi' M3 eh;kit_at;refine aX k e1 fun P1 v1 H1 l1 h1 i1=>⟨P0,H0,P1,Os,env,M1,_,_,k.next l1 h1,el,fun P2 H2 l2 h2=>⟨P0,H0,P2,Os,env,M2,_,_,(k.next l1 h1).next l2 h2,eh,fun P3 H3 l3 h3=>?_⟩⟩
    have i3:=dD.vw h3 (dD.lt l3 h2 (dD.lt l2 h1 i1));have fin:∀u H',Same H3 H'->Is X.K P3 H' z u->Q u H':=fun u H' s i=>q P3 u H' (l1.trans (l2.trans (l3.trans (LtE.same s)))) (h3.same s) (cL.of (h3.same s) i);generalize vw M' d=d' at i3 ez;unfold CT at ez;split at ez
    ·cases ez;obtain⟨a,vs,rfl,r,s⟩:=i3;exact .inl ⟨a,vs,rfl,r,Uk h3.new (Q_ s) fin⟩
    ·split at ez
     ·rename_i hz;cases ez;cases i3;exact .inr ⟨_,rfl,hz,fin _ _ (Same.refl _) rfl⟩
     ·cases ez
    ·cases ez
   ·cases e
  ·cases e
 ·tb_src
noncomputable def eU (f:E):E:=fun env M=>bnd (f env M) fun d M1=>match d with
 |.lst ds=>some (.v (.ref M1.length),M1 ++ [.lst ds])
 |_=>none
def pJ (h:SN X Wx e f):SE X Wx m e (eU f):=by
  refine cD h ?_;k_go;unfold eU at e;by_in
  · cases d<;>simp only[reduceCtorEq]at e
    rename_i ds;cases e;refine⟨P0,H0,P,Os,env,M,_,_,k,e1,ds,rfl,fun P1 a vs H1 l1 h1 ha ba nc ea is=>?_⟩;have hn:P1.n=M1.length:=h1.n
    let P2:Pl:={io:=fun j=>if j=P1.n then a else P1.io j,n:=P1.n + 1,bd:=P1.bd}
    have io : ∀ j, j < P1.n -> P2.io j = P1.io j := fun j hj => xae (by lia);have ioN : P2.io P1.n = a := xad rfl;have l2 : Lt P1 H1 P2 H1 := ⟨xb1 _, io, fun _ z => .inl z, fun _ _ e _ => e, fun _ z => z⟩;have le : LtE P H P2 H1 := ⟨xdB l1.n,fun j hj=>(io j (xal hj l1.n)).trans (l1.io j hj),l1.bd,l1.bm,l1.keep,l1.sure,fun j h2 h3=>by
      rcases xa2 j P1.n with z |z
      · rw[io j z];exact l1.nw j h2 z
      · have:j=P1.n:=xbi (xbg h3) z;rw[this,ioN];exact ha⟩
    have hk2:Hk X.K X.mg P2 H1 (M1 ++ [.lst ds]):=by
      refine⟨by rw[xag, <-hn];rfl,fun j c ej=>?_,fun i j hi hj e=>?_,fun j hj=>?_,h1.here⟩
      · rcases xa2 j P1.n with z |z
        · rw[xaC (by rw[<-hn];exact z)]at ej;rw[io j z];exact(h1.cell j c ej).lt l2 fun _ z=>z
        · have jl:=(xah.mp ej).1;rw[xag,xaJ, <-hn]at jl;have:j=P1.n:=by lia
          subst this;rw[xap (by rw[hn];exact xaf _),hn,xbH]at ej;cases ej;rw[ioN];exact⟨vs,ea,aC.lt l2 is⟩
      · rcases xa2 i P1.n with z |z
        · rcases xa2 j P1.n with y |y
          · rw[io i z,io j y]at e;exact h1.inj i j z y e
          · have:j=P1.n:=xbi (xbg hj) y;rw[io i z,this,ioN]at e;exact absurd e (nc i z)
        · have iN:i=P1.n:=xbi (xbg hi) z;rcases xa2 j P1.n with y |y
          · rw[iN,ioN,io j y]at e;exact absurd e.symm (nc j y)
          · rw[iN];exact xbi y (xbg hj)
      · rcases xa2 j P1.n with z |z
        · rw[io j z];exact h1.bd j z
        · have:j=P1.n:=xbi (xbg hj) z;rw[this,ioN];exact ba
    exact q P2 _ H1 le hk2 (cL.of hk2 (show Is _ _ _ (.ref _) _ from⟨by show _<P1.n + 1;rw[hn];exact xbl _,by rw[<-hn,ioN]⟩))
  · kj_on
noncomputable def cW (f g:E):S:=fun env M=>bR (f env M) fun d M1=>match d with
  | .ref j => (match M1[j]? with
    | some (.lst _) => bR (g env M1) fun y M2 => (match M2[j]? with
      |some (.lst ds)=>if ds.length<sizeLine then some (.nx env,M2.set j (.lst (ds ++ [y]))) else none
      |_=>none)
    |_=>none)
  |_=>none
def vq (ho:SE X Wx .val o f)(he:SE X Wx .val e g)(hbase:attributeBase o "append" X.env (eval o X.env)=eval o X.env:=by rfl)
  (hfew:((backTo q (starEach [e] X.env)).all (fun x=> !x.1) && (backToKw q (keywordEach [] X.env)).all (fun x=>x.1.isSome) && decide ([e].length + ([]:List Keyword).length + (if ([]:List Keyword).isEmpty then 0 else 1)<30))=true:=by rfl)
  (hline:(p.endLine==q.line)=true:=by rfl) (hs:starEach [e] X.env=(false,eval e X.env)::starEach [] X.env:=by rfl) (hw:swapsWith (.Call (.Attribute o "append" p) [e] [] q) none pos.line X.env=pure false:=by rfl):
  SS X Wx (.Expr (.Call (.Attribute o "append" p) [e] [] q) pos) (cW f g):=by
 refine gF (Fw (BR xbS xdL xdM Ku ho (pF he rY hs) hbase hfew hline hs rfl) hw) ?_;f_tup;unfold cW at e;kas_ty
 ·cases d<;>simp only[reduceCtorEq]at e
  rename_i j;kjx_on
  rotate_left
  ·cases e
  rename_i ds0 em0;refine⟨P0,H0,P,Os,env,M,_,_,k,e1,fun P1 v1 H1 l1 h1 i1=>?_⟩;have k1:=k.next l1 h1
  kpa_ne;obtain⟨vs0,ev0,_⟩:=h1.cell j _ em0;refine⟨.inl ⟨rfl,vs0,.inl (.inl ev0)⟩,?_⟩;rcases gw e with⟨y,M2,e2,e⟩ |⟨c,n,e2,rfl⟩
  ·kjx_on
   ·rename_i ds em;kjx_on
    ·rename_i hz;cases e;refine aX k1 e2 fun P2 v2 H2 l2 h2 i2=>?_;obtain⟨vs,ev,is⟩:=h2.cell j _ em;rw[l2.io j jl]at ev;have i3:=Is.lt (Lt.refl P2 H2) i2;refine⟨P1.io j,vs,v2,rfl,rfl,ev,by rw[is.len];exact hz,?_⟩;have eio:P2.io j=P1.io j:=l2.io j jl;have jl2:j<P2.n:=xal jl l2.n;obtain⟨o0,eo0,nf0⟩:=h2.cellAt em;have lc:Lt P2 H2 P2 (upd H2 (P2.io j) (.lst (vs ++ [v2]))):=uc (h2.bd j jl2) eo0 nf0;obtain⟨l3,l3e,h3⟩:=h2.set (c':=.lst (ds ++ [y])) (o':=.lst (vs ++ [v2])) em ⟨vs ++ [v2],cu,aC.append (aC.lt lc is) (aC.one (Is.lt lc i2))⟩;rw[eio]at l3 l3e h3;exact q _ _ _ _ ((l1.lt k.hk).trans ((l2.lt h1).trans l3)) ((k1.next l2 h2).next l3e h3)
    ·cases e
   ·cases e
  ·exact aX k1 e2 q
 ·kj_on
end
section
variable {X:Cx}{Wx:XW}{m:Mode}{pos:Pos}
noncomputable def rP:D->Option D
 |.int i=>some (.int (-i))
 |_=>none
def zdE {K:Fgx}:Hg K (rU fun i=>.int (-i)) rP:=fun P H d z v Q h i _ q=>by
 unfold rP at h;krn_ne
 ·cases h;cases i;exact⟨_,rfl,q _ H (Same.refl H) rfl⟩
 ·cases h
def zg5 (ho:Dv X (unaryOp op) r)(po:Hg X.K r o)(ha:SE X Wx .bor a f):SE X Wx m (.UnaryOp op a pos) (s1 o f):=
 cD (zgV ho ha) fun _ _ _ h=>zg9 po h
noncomputable def u_ (f:E):E:=fun env M=>bnd (f env M) fun d M1=>match vw M1 d with
 |.lst ds=>some (.v (.lst ds),M1)
 |.tup ds=>some (.v (.lst ds),M1)
 |_=>none
def Oc (hg:Gl X "list")(hm:X.mg "list"=none)(he:SE X Wx .bor e f)(hs:starEach [e] X.env=(false,eval e X.env)::starEach [] X.env:=by rfl):SN X Wx (.Call (.Name "list" p) [e] [] pos) (u_ f):=by
 refine cD (Uy YW hg hm boot_list (pF he rY hs) (by x_go) (by x_go) hs rfl) ?_;k_go;unfold u_ at e;by_in
 ·refine aX k e1 ?_;have key:∀ds,r=.v (.lst ds)->M'=M1->(∀P1 v1 H1,cg X.K P1 H1 (vw M1 d) v1->∃a vs,v1=.ref a/\(b_ X.K H1 a vs\/cI X.K H1 a vs)/\aC X.K P1 H1 ds vs)->∀P1 v1 H1,LtE P H P1 H1->Hk X.K X.mg P1 H1 M1->cL X.K P1 H1 .bor d v1->
    ∃p ys,[v1]=[V.ref p]/\(b_ X.K H1 p ys\/cI X.K H1 p ys)/\∀l,H1 l=none->Q (.ref l) (upd H1 l (.lst ys)):=by
   rintro ds rfl rfl hv P1 v1 H1 l1 h1 i1;obtain⟨ds',e',q⟩:=q;cases e';obtain⟨a,vs,rfl,sq,is⟩:=hv P1 v1 H1 (dD.vw h1 i1);refine⟨a,vs,rfl,sq,fun p hp=>?_⟩;obtain⟨l2,h2,nc⟩:=yG (vs:=vs) h1 hp;exact q (P1.bar p) p vs _ (l1.trans l2) h2 (l1.sure p hp) (.inr rfl) nc cu (aC.lt (l2.lt h1) is)
  kjx_on
  ·rename_i ds ev;cases e;exact key ds rfl rfl fun P1 v1 H1 i=>by
    rw[ev]at i;obtain⟨a,vs,e,s,is⟩:=i;exact⟨a,vs,e,.inl s,is⟩
  ·rename_i ds ev;cases e;exact key ds rfl rfl fun P1 v1 H1 i=>by
    rw[ev]at i;obtain⟨a,vs,e,s,is⟩:=i;exact⟨a,vs,e,.inr s,is⟩
  ·cases e
 ·tb_src
def T7:∀env M r M',u_ f env M=some (.v r,M')->∃ds,r=.lst ds:=fun env M r M' e=>by
 unfold u_ at e;rcases cA e with⟨ds,M1,e1,e⟩ |⟨c,n,e1,e⟩
 ·kjx_on
  ·cases e;exact⟨_,rfl⟩
  ·cases e;exact⟨_,rfl⟩
  ·cases e
 ·cases e
end
noncomputable def Gs (K:Fgx) (g:G):Sp:=fun vs H Q E=>∀mg,nu K mg 1 g vs H Q E
def ZX {P:Program}{w:World}{K:Fgx}{mg:Mgx}{base:Heap}{k:Nat}{f:Addr}{fd:FuncData}{ps:List Str}{g:G}(F:FnOk P w K mg base fP k f fd ps (nu K mg 1 g)):FnOk P w K mg base fP k f fd ps (Gs K g):=
 ⟨fun vs H Q E h=>F.len vs H Q E (h mg),fun A outer s H args us vs Q E hr he hb hv hs=>F.run A outer s H args us vs Q E hr he hb hv (hs mg)⟩
theorem S7 {K:Fgx}{P:Pl}{H:Hp}:∀ns:List Int,aC K P H (ns.map D.int) (ns.map V.int)
 | []=>rfl
 |n::ns=>⟨.int n,_,rfl,rfl,S7 ns⟩
section
variable {X:Cx}{Wx:XW}{m:Mode}{e:Expr}
def gk (h:PE X e (tC (.int i))):SE X Wx m e (ak (.int i)):=(CJ (d:=.int i) h fun _ _=>rfl).bor
def CK (h:PE X e (tC (.str z))):SE X Wx m e (ak (.str z)):=(CJ (d:=.str z) h fun _ _=>rfl).bor
def N7 (h:PE X e (tC (.bl b))):SE X Wx m e (ak (.bl b)):=(CJ (d:=.bl b) h fun _ _=>rfl).bor
def yd (h:PE X e (tC .non)):SE X Wx m e (ak .non):=(CJ (d:=.non) h fun _ _=>rfl).bor
def yg (hN:X.N[i]? =some x)(hv:X.env.scope.names.lookup x=some .local)(hd:(x==("__debug__":Str))=false:=by x_go)(hcd:(x==("__classdict__":Str))=false:=by x_go):SE X Wx m (.Name x pos) (aj i):=(W4 hN (.inl hv) hd hcd).bor
def SN.sem (h:SN X Wx e f)(hf:∀env M r M',f env M=some (.v r,M')->∃ds,r=.lst ds):SE X Wx m e f:=(SN.se h hf).bor
end
noncomputable def putD (f:Str) (d:D):List (Str×D)->List (Str×D)
 | []=>[(f,d)]
 |(g,x)::r=>if g=f then(g,d)::r else(g,x)::putD f d r
section
variable {K:Fgx}{mg:Mgx}{P:Pl}{H:Hp}{M:Mm}
def mH (K:Fgx)(P:Pl)(H:Hp)(fs:List (Str×D))(gs:List (Str×V)):Prop:=gs.map (·.1)=fs.map (·.1)/\aC K P H (fs.map (·.2)) (gs.map (·.2))
theorem Jr:∀{fs:List (Str×D)} {gs:List (Str×V)},mH K P H fs gs->fs.lookup f=some d->∃v,gs.lookup f=some v/\Is K P H d v
  | [],_,_,e=>by cases e
  |(g,x)::fs,[],h,_=>by cases h.1
  |(g,x)::fs,(g',y)::gs,h,e=>by
    obtain⟨h1,v,r,e1,p,q⟩:=h;simp only[xaP,xc8]at h1 e1;obtain⟨rfl,h1⟩:=h1;obtain⟨rfl,rfl⟩:=e1;simp only[List.lookup]at e ⊢
    cases hg:f==g' with
    |true=>rw[hg]at e;cases e;exact⟨y,rfl,p⟩
    |false=>rw[hg]at e;exact Jr ⟨h1,q⟩ e
theorem Js:∀{fs:List (Str×D)} {gs:List (Str×V)},gs.map (·.1)=fs.map (·.1)->fs.lookup f=none->gs.lookup f=none
  | [],[],_,_=>rfl
  | [],_::_,h,_=>by cases h
  |_::_,[],h,_=>by cases h
  |(g,x)::fs,(g',y)::gs,h,e=>by
    simp only[xaP,xc8]at h;obtain⟨rfl,h⟩:=h;simp only[List.lookup]at e ⊢
    cases hg:f==g' with
    |true=>rw[hg]at e;cases e
    |false=>rw[hg]at e;exact Js h e
theorem R0 (i:Is K P H d v):∀{fs:List (Str×D)} {gs:List (Str×V)},mH K P H fs gs->mH K P H (putD f d fs) (bI f v gs)
  | [],[],_=>⟨rfl,v,[],rfl,i,rfl⟩
  | [],_::_,h=>by cases h.1
  |_::_,[],h=>by cases h.1
  |(g,x)::fs,(g',y)::gs,h=>by
    obtain⟨h1,v',r,e1,p,q⟩:=h;simp only[xaP,xc8]at h1 e1;obtain⟨rfl,h1⟩:=h1;obtain⟨rfl,rfl⟩:=e1;unfold putD bI
    split
    · exact⟨by simp[h1],v,_,rfl,i,q⟩
    · obtain⟨a,b⟩:=R0 i (fs:=fs) (gs:=gs) ⟨h1,q⟩;exact⟨by simp[a],y,_,rfl,p,b⟩
def Z6 (h:mH K P H fs gs):gs.length=fs.length:=by
 have:=congrArg List.length h.1
 simpa using this
end
structure ClsOk (K:Fgx)(mg:Mgx)(c:Str)(C:Addr):Prop where
 mg:mg c=some (.ref C)
 cl:Cls K C
section
variable {X:Cx}{Wx:XW}{m:Mode}{pos:Pos}
noncomputable def pB (M:Mm) (c:Str) (d:D):Option (Nat×List (Str×D)):=match d with
  | .ref k => (match M[k]? with
    |some (.obj c' fs)=>if c'=c then some (k,fs) else none
    |_=>none)
  |_=>none
def Bv (h:pB M c d=some (k,fs)):d=.ref k/\M[k]? =some (.obj c fs):=by
 unfold pB at h;krn_ne
 ·krn_ne
  ·krn_ne
   ·rename_i e1 e2;cases h;subst e2;exact⟨rfl,e1⟩
   ·cases h
  ·cases h
 ·cases h
noncomputable def bw (c f:Str) (o:E):E:=fun env M=>bnd (o env M) fun d M1=>match pB M1 c d with
 |some (_,fs)=>(fs.lookup f).map fun z=>(.v z,M1)
 |none=>none
def kh (hc:ClsOk X.K X.mg c C)(hn:gq X.K C f)(he:SE X Wx .val e o)(hb:attributeBase e f X.env (eval e X.env)=eval e X.env:=by rfl):SE X Wx m (.Attribute e f pos) (bw c f o):=by
 refine cD (zer he hb) ?_;k_go;unfold bw at e;by_in
 ·kjx_on
  ·rename_i j fs eo;kit_at;obtain⟨rfl,em⟩:=Bv eo;k_acc1;kpa_ne;obtain⟨C',dx,gs,ec,eh,en,is⟩:=h1.cell j _ em;have eC:C'=C:=by
    have:=ec.symm.trans hc.mg;cases this;rfl
   subst eC;obtain⟨v,ev,iv⟩:=Jr ⟨en,is⟩ ez;exact⟨_,C',dx,gs,v,rfl,eh,hc.cl,hn,ev,q P1 v H1 l1 h1 (cL.of h1 iv)⟩
  ·cases e
 ·tb_src
noncomputable def eV (c f:Str) (o v:E):S:=fun env M=>bR (v env M) fun y M1=>bR (o env M1) fun d M2=>match pB M2 c d with
 |some (k,fs)=>if fs.length<1000 then some (.nx env,M2.set k (.obj c (putD f y fs))) else none
 |none=>none
def zcG {K:Fgx}{mg:Mgx}{P:Pl}{H:Hp}{M:Mm}{j:Nat}{c f:Str}{fs:List (Str×D)}{y:D}{v:V}{C dx:Addr}{gs:List (Str×V)}(h:Hk K mg P H M)(em:M[j]? =some (.obj c fs))(ec:mg c=some (.ref C))(eh:H (P.io j)=some (.ins C dx gs))(fo:mH K P H fs gs)(iv:Is K P H y v):
  Lt P H P (upd H (P.io j) (.ins C dx (bI f v gs)))/\LtE P H P (upd H (P.io j) (.ins C dx (bI f v gs)))/\Hk K mg P (upd H (P.io j) (.ins C dx (bI f v gs))) (M.set j (.obj c (putD f y fs))):=by
 have jl:j<P.n:=by rw[h.n];exact(xah.mp em).1
 have lc:Lt P H P (upd H (P.io j) (.ins C dx (bI f v gs))):=uc (h.bd j jl) eh zeT;have fp:=R0 (f:=f) iv fo;exact h.set (c':=.obj c (putD f y fs)) (o':=.ins C dx (bI f v gs)) em ⟨C,dx,bI f v gs,ec,cu,fp.1,aC.lt lc fp.2⟩
def yq {c f:Str}{C:Addr}{o e:Expr}{fo fv:E}{pos':Pos}(hc:ClsOk X.K X.mg c C)(hn:gq X.K C f)(ho:SE X Wx .val o fo)(he:SE X Wx .val e fv)(hs:swapsWith e (some (.Attribute o f pos')) pos.line X.env=pure false:=by rfl):SS X Wx (.Assign [.Attribute o f pos'] e pos) (eV c f fo fv):=by
 refine gF (zdB ho he hs) ?_;f_tup;unfold eV at e;rcases gw e with⟨y,M1,e1,e⟩ |⟨c,n,e1,rfl⟩
 ·k_acc1;have k1:=k.next l1 h1
  rcases gw e with⟨d,M2,e2,e⟩ |⟨c,n,e2,rfl⟩
  ·kjx_on
   ·rename_i j fs eo;kjx_on
    ·rename_i hl;cases e;obtain⟨rfl,em⟩:=Bv eo;refine aX k1 e2 fun P2 v2 H2 l2 h2 i2=>?_;obtain⟨jl,rfl⟩:j<P2.n/\v2=.ref (P2.io j):=i2;obtain⟨C',dx,gs,ec,eh,en,is⟩:=h2.cell j _ em;have eC:C'=C:=by
      have:=ec.symm.trans hc.mg;cases this;rfl
     subst eC;obtain⟨l3,l3e,h3⟩:=zcG (f:=f) h2 em ec eh ⟨en,is⟩ (Is.lt (l2.lt h1) i1);exact⟨_,C',dx,gs,rfl,eh,hc.cl,hn,by rw[Z6 ⟨en,is⟩];exact hl,q _ _ _ _ ((l1.lt k.hk).trans ((l2.lt h1).trans l3)) ((k1.next l2 h2).next l3e h3)⟩
    ·cases e
   ·cases e
  ·exact aX k1 e2 q
 ·tb_src
def bJ (P:Program)(w:World)(K:Fgx)(mg:Mgx)(base:Heap)(k:Nat)(C:Addr)(m:Str)(n:Nat)(g:G):Prop:=
 ∃f fd ps,Meth K C m f/\FnOk P w K mg base fP k f fd ps (nu K mg n g)/\Binds K fd ps []
theorem bJ.mono {P:Program}{w:World}{K:Fgx}{mg:Mgx}{base:Heap}{j k:Nat}{C:Addr}{m:Str}{n:Nat}{g:G}(a:bJ P w K mg base j C m n g)(h:j<=k):bJ P w K mg base k C m n g:=by
 obtain⟨f,fd,ps,h1,h2,h3⟩:=a;exact⟨f,fd,ps,h1,h2.mono h,h3⟩
noncomputable def aP (c m:Str) (g:G) (o:E) (fs:EA):E:=fun env M=>bnd (o env M) fun d M1=>match pB M1 c d with
  | some (_, gs) => if gs.lookup m = none then cO (fs env M1) fun ds M2 => (match g (d::ds) M2 with
    |some (.v z,M3)=>some (.v z,M3)
    |_=>none) else none
  |none=>none
def lV (hc:ClsOk X.K X.mg c C)(a:bJ X.prog X.w X.K X.mg X.base k C me (n + 1) g)(hr:Room k X.A)(ho:SE X Wx .val o fo)(ha:SA X Wx .val (e::es) fs)(hn:nJ n fs)
    (hst:starEach (e::es) X.env=(false,eval e X.env)::starEach es X.env:=by rfl) (hpl:(backTo pos (starEach es X.env)).any (·.1)=false:=by rfl)
    (ht : eval (.Call (.Attribute o me apos) (e :: es) [] pos) X.env = (do
      let ov <-eval o X.env
      standAt apos.atName
      let (f,first) <-holding [ov] (getMethod ov me pl)
      callWith pos f first (backTo pos (starEach (e::es) X.env)) (backToKw pos (keywordEach [] X.env))):=by rfl):
    SE X Wx m (.Call (.Attribute o me apos) (e::es) [] pos) (aP c me g fo fs):=by
  obtain⟨f,fd,ps,hm,F,hb⟩:=a;refine cD (zcH ho hc.cl hm F hr hb .nil BL ha hst hpl ht) ?_;k_go;unfold aP at e;by_in
  · kjx_on
    · rename_i j gs eo;kjx_on
      · rename_i hl;obtain⟨rfl,em⟩:=Bv eo;k_acc1;have k1:=k.next l1 h1
        kpa_ne;obtain⟨C',dx,vs,ec,eh,en,is⟩:=h1.cell j _ em;have eC:C'=C:=by
          have:=ec.symm.trans hc.mg;cases this;rfl
        subst eC;refine⟨_,dx,vs,rfl,eh,Js en hl,?_⟩;rcases mU e with⟨ds,M2,e2,e⟩ |⟨c,n,e2,rfl⟩
        · kjx_on
          · rename_i z M3 eg;cases e;refine⟨P0,H0,P1,Os,env,M1,_,_,k1,e2,fun P2 us H2 l2 h2 i2=>?_⟩;dsimp only;rw[xas];exact⟨by rw[xaw,i2.len,hn _ _ _ _ e2],P2,M2,.ref j::ds,z,_,h2,⟨_,_,rfl,⟨xal jl l2.n,by rw[l2.io j jl]⟩,i2.iss⟩,eg,fun P3 v H3 l3 h3 i3=>q P3 v H3 (l1.trans (l2.trans l3)) h3 (cL.of h3 i3)⟩
          · cases e
        · exact⟨P0,H0,P1,Os,env,M1,_,_,k1,e2,q⟩
      · cases e
    · cases e
  · tb_src
def lA (hc:ClsOk X.K X.mg c C)(a:bJ X.prog X.w X.K X.mg X.base k C me 1 g)(hr:Room k X.A)(ho:SE X Wx .val o fo)
    (ht : eval (.Call (.Attribute o me apos) [] [] pos) X.env = (do
      let ov <-eval o X.env
      standAt apos.atName
      let (f,first) <-holding [ov] (getMethod ov me pl)
      callWith pos f first (backTo pos (starEach [] X.env)) (backToKw pos (keywordEach [] X.env))):=by rfl):
    SE X Wx m (.Call (.Attribute o me apos) [] [] pos) (aP c me g fo ao):=by
  obtain⟨f,fd,ps,hm,F,hb⟩:=a;refine cD (zb0 ho hc.cl hm F hr hb .nil BL ht) ?_;k_go;unfold aP at e;by_in
  · kjx_on
    · rename_i j gs eo;kjx_on
      · rename_i hl;obtain⟨rfl,em⟩:=Bv eo;k_acc1;kpa_ne;obtain⟨C',dx,vs,ec,eh,en,is⟩:=h1.cell j _ em;have eC:C'=C:=by
          have:=ec.symm.trans hc.mg;cases this;rfl
        subst eC;refine⟨_,dx,vs,rfl,eh,Js en hl,?_⟩;simp only[cO,ao]at e;kjx_on
        · rename_i z M3 eg;cases e;exact⟨rfl,P1,M1,[.ref j],z,_,h1,⟨_,_,rfl,⟨jl,rfl⟩,rfl⟩,eg,fun P3 v H3 l3 h3 i3=>q P3 v H3 (l1.trans l3) h3 (cL.of h3 i3)⟩
        · cases e
      · cases e
    · cases e
  · tb_src
end
section
variable {X:Cx}{Wx:XW}{m:Mode}{pos:Pos}
def QK {K:Fgx}{mg:Mgx}{P:Pl}{H H':Hp}{M:Mm}{a:Addr}{c:Cl}(h:Hk K mg P H M)(s:Same H H')(ha:H a=none)(ea:H' a≠none)(hc:∀P',P'.n=P.n + 1->P'.io P.n=a->LtE P H P' H'->pO K mg P' H' a c):∃P',P'.n=P.n + 1/\P'.io P.n=a/\LtE P H P' H'/\Hk K mg P' H' (M ++ [c]):=by
 let P2:Pl:={io:=fun j=>if j=P.n then a else P.io j,n:=P.n + 1,bd:=fun b=>P.bd b\/b=a}
 have io : ∀ j, j < P.n -> P2.io j = P.io j := fun j hj => xae (by lia);have ioN : P2.io P.n = a := xad rfl;have nc : ∀ j, j < P.n -> P.io j ≠ a := fun j hj z => h.here _ (h.bd j hj) (z ▸ ha);have l : LtE P H P2 H' := ⟨xb1 _,io,fun b z=>xem (fun q=>q) (fun(q:b=a)=>by rw[q];exact ha) z,fun _ z=>.inl z,fun b o e _=>s b o e,fun b z=>s.free z,fun j h2 h3=>by
  have:j=P.n:=xbi (xbg h3) h2;rw[this,ioN];exact ha⟩
 refine⟨P2,rfl,ioN,l,⟨by rw[xag, <-h.n];rfl,fun j d ej=>?_,fun i j hi hj e=>?_,fun j hj=>?_,fun b z=>?_⟩⟩
 ·rcases xa2 j P.n with z |z
  ·rw[xaC (by rw[<-h.n];exact z)]at ej;rw[io j z];exact(h.cell j d ej).lt (l.lt h) fun o eo=>s _ _ eo
  ·have jl:=(xah.mp ej).1;rw[xag,xaJ, <-h.n]at jl;have:j=P.n:=by lia
   subst this;rw[xap (by rw[h.n];exact xaf _),h.n,xbH]at ej;cases ej;rw[ioN];exact hc P2 rfl ioN l
 ·rcases xa2 i P.n with z |z
  ·rcases xa2 j P.n with y |y
   ·rw[io i z,io j y]at e;exact h.inj i j z y e
   ·have:j=P.n:=xbi (xbg hj) y;rw[io i z,this,ioN]at e;exact absurd e (nc i z)
  ·have iN:i=P.n:=xbi (xbg hi) z;rcases xa2 j P.n with y |y
   ·rw[iN,ioN,io j y]at e;exact absurd e.symm (nc j y)
   ·rw[iN];exact xbi y (xbg hj)
 ·rcases xa2 j P.n with z |z
  ·rw[io j z];exact .inl (h.bd j z)
  ·have:j=P.n:=xbi (xbg hj) z;rw[this,ioN];exact .inr rfl
 ·rcases z with z |z
  ·exact fun q=>h.here b z (s.free q)
  ·rw[z];exact ea
def kJ (P:Program)(w:World)(K:Fgx)(mg:Mgx)(base:Heap)(k:Nat)(C:Addr)(n:Nat)(g:G):Prop:=
 ∃f fd ps,Mk K C f/\FnOk P w K mg base fP k f fd ps (nu K mg n g)/\Binds K fd ps []
noncomputable def ni (c:Str) (g:G) (fs:EA):E:=fun env M=>cO (fs env M) fun ds M1=>match g (.ref M1.length::ds) (M1 ++ [.obj c []]) with
 |some (.v .non,M2)=>some (.v (.ref M1.length),M2)
 |_=>none
def N8 {c:Str}{C:Addr}{k n:Nat}{g:G}{e:Expr}{es:List Expr}{fs:EA}{p:Pos}(hc:ClsOk X.K X.mg c C)(a:kJ X.prog X.w X.K X.mg X.base k C (n + 1) g)(hr:Room (k + 1) X.A)(hg:Gl X c)(ha:SA X Wx .val (e::es) fs)(hn:nJ n fs)(hdb:(c==("__debug__":Str))=false:=by x_go)
  (he:starEach (e::es) X.env=(false,eval e X.env)::starEach es X.env:=by rfl) (hpl:(backTo pos (starEach es X.env)).any (·.1)=false:=by rfl):SE X Wx m (.Call (.Name c p) (e::es) [] pos) (ni c g fs):=by
 obtain⟨f,fd,ps,mk,F,hb⟩:=a;refine cD (zdl mk F hr hg hc.mg hb .nil BL ha hdb he hpl) ?_;k_go;unfold ni at e;kt_str
 ·kjx_on
  ·rename_i M2 eg;cases e;refine⟨P0,H0,P,Os,env,M,_,_,k,e1,fun P1 vs H1 l1 h1 i1=>fun x dx hx hdx ne=>?_⟩;have s2:Same H1 (upd (upd H1 dx (.own x)) x (.ins C dx [])):=fun b o eb=>by
    rw[aZ (lR eb hx),aZ (lR eb hdx)];exact eb
   obtain⟨P2,n2,io2,l2,h2⟩:=QK (c:=.obj c []) h1 s2 hx (by rw[cu];exact fun z=>nomatch z) fun P' _ _ _=>⟨C,dx,[],hc.mg,cu,rfl,rfl⟩
   have el:P1.n=M1.length:=h1.n;have iref:Is X.K P2 (upd (upd H1 dx (.own x)) x (.ins C dx [])) (.ref M1.length) (.ref x):=⟨by rw[n2,el];exact xbl _,by rw[<-el,io2]⟩;refine⟨by rw[xas,xaw,i1.len,hn _ _ _ _ e1],P2,M1 ++ [.obj c []],.ref M1.length::ds,.non,_,h2,⟨_,_,rfl,iref,by rw[xas];exact aC.lt (l2.lt h1) i1.iss⟩,eg,fun P3 v H3 l3 h3 i3=>⟨i3,?_⟩⟩;refine q P3 _ H3 (l1.trans (l2.trans l3)) h3 (cL.of h3 (Is.lt (l3.lt h2) iref))
  ·cases e
 ·kj_on
end
end E3
namespace E3
open PySem PySem.Spec PyProof.Rows L2 PySem.W
def kW (a:Addr)(h h':Heap):Prop:=∀b o,b≠a->h.get? b=some o->h'.get? b=some o
def Grows (h h':Heap):Prop:=∀b o,h.get? b=some o->h'.get? b=some o
noncomputable def gW (h:Heap) (a:Addr) (vs:List Value):Heap:=((h.update a (Obj.mapSeq fun _=> #[])).push (seqObj "tuple" vs.toArray 0)).push (seqObj "list" #[] 0)
def kW.upd (h:Heap)(a:Addr)(f:Obj->Obj):kW a h (h.update a f):=fun b o nb e=>by rw[(xcH h a f).2 b nb];exact e
theorem kW.push (s:kW a h h')(o:Obj):kW a h (h'.push o):=fun b u nb e=>xac _ (s b u nb e)
def Ug (h:Heap)(a:Addr)(vs:List Value):kW a h (gW h a vs):=((kW.upd h a _).push _).push _
def Zh (h:Heap)(vs:List Value):((h.push (seqObj "list" #[] 0)).update h.objs.size (Obj.mapSeq (· ++ vs.toArray))).objs.size=h.objs.size + 1:=(Heap.size_update ..).trans (size_push' h _)
noncomputable def bY:List D->List D->Option Bool
 | [],[]=>some false
 |.int i::ps,.int j::qs=>if i=j then bY ps qs else some (decide (i<j))
 |.str a::ps,.str b::qs=>if a=b then bY ps qs else some (decide (a.cps.toList<b.cps.toList))
 |_,_=>none
section
variable {prog:Program}{w:World}{A:Around}{s:Shared}{K:Fgx}{P:Pl}{H:Hp}
theorem T5 (hq:Q b s):∀(xs ys:List D) (vs ws:List V) (us zs:List Value) (n:Nat),aC K P H xs vs->aC K P H ys ws->Vals vs us->Vals ws zs->bY xs ys=some b->(us.length=zs.length->fin=false)->KatLex prog w A true fin Q (us.zip zs) n s
  | [],ys,vs,ws,us,zs,n,i1,i2,r1,r2,e,hf=>by
    cases ys with
    |cons y ys=>cases e
    |nil=>
      rw[show vs=[] from i1]at r1;rw[show ws=[] from i2]at r2;cases r1;cases r2;cases e;rw[hf rfl];exact hq
  |x::xs,[],vs,ws,us,zs,n,i1,i2,r1,r2,e,hf=>by cases x<;>cases e
  |x::xs,y::ys,vs,ws,us,zs,n,i1,i2,r1,r2,e,hf=>by
    obtain⟨v,vr,rfl,p,i1⟩:=i1;obtain⟨u,wr,rfl,p',i2⟩:=i2
    cases r1 with
    |cons a1 r1=>
      cases r2 with
      |cons a2 r2=>
        have rest:bY xs ys=some b->∀n,KatLex prog w A true fin Q (List.zip _ _) n s:=fun e n=>T5 hq xs ys _ _ _ _ n i1 i2 r1 r2 e fun z=>hf (by simp[z]);rw[xdo];cases x<;>cases y<;>simp only[bY,reduceCtorEq]at e
        · rename_i i j;cases p;cases p';obtain⟨t1,rfl⟩:=a1;obtain⟨t2,rfl⟩:=a2;refine kat_cons (xdm _ _ _ _ prog w _ _ ?_);kjx_on
          · rename_i hij;subst hij;rw[show(i==i)=true from xbL i];exact kat_yes (rest e _)
          · rename_i hij;cases e;rw[show(i==j)=false from xbo.mpr hij];refine kat_no ?_
            cases n with
            |zero=>exact oneLt_int hq
            |succ n=>exact kat_one _ _ (lt_int (show PySem.W.BoolBack Q (.bool _) s from hq))
        · rename_i a c;cases p;cases p';obtain⟨t1,rfl⟩:=a1;obtain⟨t2,rfl⟩:=a2;refine kat_cons (xdn _ _ _ _ prog w _ _ ?_);kjx_on
          · rename_i hij;subst hij;rw[show(a==a)=true from xbL a];exact kat_yes (rest e _)
          · rename_i hij;cases e;rw[show(a==c)=false from xbo.mpr hij];refine kat_no ?_
            cases n with
            |zero=>exact oneLt_str hq
            |succ n=>exact kat_one _ _ (lt_str (show PySem.W.BoolBack Q (.bool _) s from hq))
end
noncomputable def tupI:D->Bool
 |.tup (.int _::_)=>true
 |_=>false
section
variable {X:Cx}{pins:Pnx}{σ:L2.St}{H:Hp}{s:Shared}
def GJ (I:Inv X pins σ H s)(g:Grows s.heap h')(i:Is X.K P H (.tup xs) v)(r:RelV v u):∃a o its n ws,u=.ref a/\h'.get? a=some o/\o.cls=.type "tuple"/\o.data=.seq its n/\aC X.K P H xs ws/\Vals ws its.toList:=by
 obtain⟨a,ws,rfl,t,is⟩:=i;cases r;obtain⟨its,rv,⟨o,e1,e2,n,e3⟩,_⟩:=I.tuple t;exact⟨a,o,its.toArray,n,ws,rfl,g _ _ e1,e2,e3,is,by simpa using rv⟩
theorem Xy (I:Inv X pins σ H s)(g:Grows s.heap h'):∀(ds:List D) (vs:List V) (us:List Value),ds.all tupI=true->aC X.K P H ds vs->Vals vs us->∃fs,KatTups h' us fs/\fs.length=us.length/\∀f∈fs,∃i t,f=Value.int i t
  | [],vs,us,_,i,r=>by
    rw[show vs=[] from i]at r;cases r;exact⟨[],KatTups.nil,rfl,fun f h=>nomatch h⟩
  |d::ds,vs,us,hd,i,r=>by
    obtain⟨v,vr,rfl,p,i⟩:=i;rw[xb9,xaD]at hd
    cases r with
    |cons a1 r=>
      obtain⟨fs,k,kl,kf⟩:=Xy I g ds _ _ hd.2 i r
      cases d with
      |tup xs=>
        cases xs with
        |nil=>cases (show false=true from hd.1)
        |cons x xs=>
          cases x with
          |int z=>
            obtain⟨a,o,its,n,ws,rfl,e1,e2,e3,is,rv⟩:=GJ I g p a1;obtain⟨w,wr,rfl,pw,is⟩:=is;cases pw;obtain⟨its⟩:=its
            cases rv with
            |cons b1 rv=>
              obtain⟨t,rfl⟩:=b1;refine⟨.int z t::fs,KatTups.cons e1 e2 e3 rfl k,by simp[kl],fun f hf=>?_⟩;rcases xaO.mp hf with rfl |hf
              · exact⟨z,t,rfl⟩
              · exact kf f hf
          |_=>cases (show false=true from hd.1)
      |_=>cases (show false=true from hd.1)
def zcd (r:Vals vs us)(i:Nat):RelV (vs.getD i .non) (us.getD i Value.none):=by
  induction r generalizing i with
  |nil=>exact rfl
  |cons a r ih=>cases i with
    |zero=>simpa using a
    |succ i=>simpa using ih i
end
section
variable {prog:Program}{w:World}{A:Around}{E:Value->Shared->Prop}{s:Shared}
def zcq {a:Addr}{n:Nat}{vs:List Value}{P:PySem.Fin->Shared->Prop}(ho:s.heap.get? a=some (seqObj "list" vs.toArray n))(h2:vs.length<2)
  (q:∀(h':Heap) c,kW a s.heap h'->h'.get? a=some (seqObj "list" vs.toArray c)->P (.done (.ret .none)) {s with heap:=h'}):
  wpAny (model prog w) A (Builtin.«list.sort» ⟨[.ref a],[]⟩) P E s:=by
 have hz:vs.length<=sizeLine:=by rw[xa8];lia
 o_new;have two:vs.toArray.size<2:=by simpa using h2
 rw[xad two,xad two];generalize gW s.heap a vs=h1 at st z2 ⊢;refine xaa (xak (xaa (m:=(pure ():StateT SortSt Sem Unit).run _) (xak ?_)));dsimp only;have out:(arrOf (SortSt.mk' general' (vs.toArray.zip vs.toArray) #[] 7 none)).map (·.2)=vs.toArray:=by
  show(vs.toArray.zip vs.toArray).map (·.2)=vs.toArray;apply xdN.mp;simp only[Array.toList_map,Array.toList_zip];exact List.map_snd_zip (xaf _)
 rw[out];obtain⟨c2,z3⟩:∃c2,(h1.update a (Obj.mapSeq fun _=>vs.toArray)).get? a=some (seqObj "list" vs.toArray c2):=⟨_,xc9 z2 fun _=>vs.toArray⟩;refine xaa (seqEpoch_at z2 rfl (xaa (xdu z2 rfl ?_ (xbz _) (by rw[xai];exact xdB hz))));simp only[xet,xbx,xbX];exact xak (q _ c2 (fun b o nb e=>kW.upd h1 a _ b o nb (st b o nb e)) z3)
def Coll (prog:Program)(w:World)(A:Around)(s:Shared)(r:Value)(vs:List Value):Prop:=∀(E':Value->Shared->Prop) (R:List Value->Shared->Prop),(∀h' tk,Grows s.heap h'->s.heap.objs.size<=h'.objs.size->R vs {s with heap:=h',toks:=tk})->wpAny (model prog w) A.in1 (collect r) R E' s
def QT {l:Addr}{vs:List Value}(hl:s.heap.IsList l vs.toArray)(hz:vs.length<=sizeLine):Coll prog w A s (.ref l) vs:=fun E' R h=>
 collect_list hl (h _ s.toks (fun b o e=>by rw[Heap.get?_update_ne _ _ _ _ (xaE (xaq e))];exact xac _ e) (by rw[Zh];exact xb1 _)) hz
def zbl {r:Value}{vs:List Value}{Q:Value->Shared->Prop}(hl:Coll prog w A s r vs)(h2:vs.length<2)
  (q:∀(h':Heap) tk c a,Grows s.heap h'->s.heap.objs.size<=a->h'.get? a=some (seqObj "list" vs.toArray c)->Q (.ref a) {s with heap:=h',toks:=tk}):
  wpAny (model prog w) A (call (.builtin "sorted") [r]) Q E s:=by
 have hz:vs.length<=sizeLine:=by rw[xa8];lia
 refine xdF kind_sorted plain_sorted entry_sorted (args_sorted1 _) ?_;unfold Builtin.«sorted»;refine xaa (m:=checkCount "sorted" 1 1 _) (xak (xaa (hl _ _ fun h1 tk g z=>xaa (xdv ?_ hz))));have at0:(h1.push (seqObj "list" vs.toArray 0)).get? h1.objs.size=some (seqObj "list" vs.toArray 0):=xax _ rfl;refine xaa (xby (xcg slot_list_sort ⟨_,at0,rfl⟩ entry_list_sort (zcq (s:={s with heap:=h1.push (seqObj "list" vs.toArray 0),toks:=tk}) at0 h2 fun h' c st e=>?_) (args_list_sort _)));exact⟨_,rfl,xak ⟨_,rfl,q h' tk c _ (fun b o e=>st b o (xaE (xaq (g b o e))) (xac _ (g b o e))) z e⟩⟩
end
section
variable {X:Cx}{Wx:XW}
def Lp (K:Fgx):List V->Hp->VK->Prop:=fun xs H Q=>∃(a:Addr) (vs:List V),xs=[.ref a]/\b_ K H a vs/\vs.length<2/\∀l,H l=none->Q (.ref l) (upd H l (.lst vs))
def YL:dB X (.builtin "sorted") (Lp X.K):=by
 kj_one;obtain⟨a,vs,rfl,hl,h2,q⟩:=h;o_norm;obtain⟨its,rv,pl,hz⟩:=I.list hl;refine zbl (QT pl.isList (by rw[<-rv.length];exact hz)) (by rw[<-rv.length];exact h2) fun h' tk c D g hD eD=>?_;exact⟨.ref D,_,I.laid (t':=tk) (o:=.lst vs) g hD ⟨hz,its,c,rv,eD⟩,rfl,q D (I.hok.fresh hD)⟩
theorem boot_sorted:bootBuiltins "sorted"=some (.builtin "sorted"):=by kernel_rfl
end
def Low (n:Nat)(p:Array Nat):Prop:=p.size=n/\∀x∈p.toList,x<n
section
variable {n:Nat}{lt:Nat->Nat->Option Bool}(hn:0<n)(tot:∀i j,i<n->j<n->∃b,lt i j=some b)
include hn tot
end
end E3
namespace E3
open PySem L2
section
variable {env:Env}{M M1:Mm}{f g h c:E}{d e:D}{i j:Int}{n k:Nat}{z:Str}{b:Bool}{ds es:List D}{s t:S}{x:Str}
def nj (g:S):OS->OS
 |some (.nx e,M1)=>g e M1
 |o=>o
theorem za:aq s t env M=nj t (s env M):=rfl
theorem L_ {e:Env}:nj t (some (.nx e,M))=t e M:=rfl
theorem Mf:nj t (some (.rt d,M))=some (.rt d,M):=rfl
theorem zfD:aA env M=some (.nx env,M):=rfl
noncomputable def Dm (M:Mm):Option Slot->O
 |some (.val d)=>some (.v d,M)
 |_=>none
theorem xO:aj k env M=Dm M env[k]? :=rfl
theorem xU:Dm M (some (.val d))=some (.v d,M):=rfl
theorem U7:ak d env M=some (.v d,M):=rfl
def mapR (M:Mm)(o:Option D):O:=o.map fun z=>(.v z,M)
theorem Vg:mapR M (some d)=some (.v d,M):=rfl
def rQ (o:D->Option D)(r:O):O:=bnd r fun d M=>mapR M (o (vw M d))
theorem q_1 {o:D->Option D}:s1 o f env M=rQ o (f env M):=rfl
theorem r_1 {o:D->Option D}:rQ o (some (.v d,M))=mapR M (o (vw M d)):=rfl
noncomputable def yu (o:D->D->Option D) (d:D) (r:O):O:=bnd r fun e M=>mapR M (o (vw M d) (vw M e))
noncomputable def Dj (o:D->D->Option D) (k:Mm->O) (r:O):O:=bnd r fun d M=>yu o d (k M)
theorem q_2 {o:D->D->Option D}:s2 o f g env M=Dj o (g env) (f env M):=rfl
theorem r_2 {o:D->D->Option D}{q:Mm->O}:Dj o q (some (.v d,M))=yu o d (q M):=rfl
theorem LK {o:D->D->Option D}:yu o d (some (.v e,M))=mapR M (o (vw M d) (vw M e)):=rfl
theorem zfM:vw M (.int i)=.int i:=rfl
theorem zgl:vw M (.str z)=.str z:=rfl
theorem Px:vw M (.bl b)=.bl b:=rfl
theorem zgk:vw M .non=.non:=rfl
theorem zgW:vw M (.tup ds)=.tup ds:=rfl
theorem zfZ:vw M (.lst ds)=.lst ds:=rfl
def gG (h:M[k]? =some (.lst ds)):vw M (.ref k)=.lst ds:=by unfold vw;simp only[h]
theorem zf5:eY f env M=rQ (fun d=>(gn d).map .bl) (f env M):=rfl
theorem zfq:Gb f env M=rQ (fun d=>(gn d).map fun b=>.bl (!b)) (f env M):=rfl
noncomputable def Bt (r:O):O:=bnd r fun d M=>match d with
 |.bl b=>some (.v (.bl (!b)),M)
 |_=>none
theorem zgf:j5 f env M=Bt (f env M):=rfl
theorem zgS:Bt (some (.v (.bl b),M))=some (.v (.bl (!b)),M):=rfl
noncomputable def rH (k1 k2:Mm->O) (r:O):O:=bnd r fun d M=>match d with
 |.bl b=>if b=true then k1 M else k2 M
 |_=>none
theorem zfR:dH f g env M=rH (g env) (fun M=>some (.v (.bl false),M)) (f env M):=rfl
theorem Lj:lg f g env M=rH (fun M=>some (.v (.bl true),M)) (g env) (f env M):=rfl
theorem zfI:m_ c f g env M=rH (f env) (g env) (c env M):=rfl
theorem zf8 {k1 k2:Mm->O}:rH k1 k2 (some (.v (.bl b),M))=if b=true then k1 M else k2 M:=rfl
noncomputable def wH (d:D):Option (ResA×Mm)->Option (ResA×Mm)
 |some (.v ds,M2)=>some (.v (d::ds),M2)
 |some (.x c n,M2)=>some (.x c n,M2)
 |none=>none
noncomputable def Q6 (k:Mm->Option (ResA×Mm)):O->Option (ResA×Mm)
 |some (.v d,M1)=>wH d (k M1)
 |some (.x c n,M1)=>some (.x c n,M1)
 |none=>none
theorem zgG:ao env M=some (.v [],M):=rfl
theorem zfy {fs:EA}:au f fs env M=Q6 (fs env) (f env M):=rfl
theorem zdM {q:Mm->Option (ResA×Mm)}:Q6 q (some (.v d,M))=wH d (q M):=rfl
theorem zdX:wH d (some (.v ds,M))=some (.v (d::ds),M):=rfl
noncomputable def zV (o:List D->Option D) (r:Option (ResA×Mm)):O:=cO r fun ds M=>mapR M (o (ds.map (vw M)))
theorem q_n {o:List D->Option D}{fs:EA}:sN o fs env M=zV o (fs env M):=rfl
theorem r_n {o:List D->Option D}:zV o (some (.v ds,M))=mapR M (o (ds.map (vw M))):=rfl
noncomputable def pQ (k:List D->Mm->O):Option (ResA×Mm)->O
 |some (.v ds,M)=>k ds M
 |some (.x c n,M)=>some (.x c n,M)
 |none=>none
theorem zdG {q:List D->Mm->O}:pQ q (some (.v ds,M))=q ds M:=rfl
theorem zgN {fs:EA}:bf fs env M=pQ (fun ds M1=>if ds.length<=sizeLine then some (.v (.tup ds),M1) else none) (fs env M):=rfl
theorem zgY {fs:EA}:aR fs env M=pQ (fun ds M1=>if ds.length<=sizeLine then some (.v (.lst ds),M1) else none) (fs env M):=rfl
def Qw:O->O
 |some (.v d,M)=>some (.v d,M)
 |_=>none
theorem zdh:Qw (some (.v d,M))=some (.v d,M):=rfl
theorem zfz {u:G}{fs:EA}:bQ u fs env M=pQ (fun ds M1=>Qw (u ds M1)) (fs env M):=rfl
noncomputable def eG (k:D->Mm->O):O->O
 |some (.v d,M)=>k d M
 |some (.x c n,M)=>some (.x c n,M)
 |none=>none
theorem Vf {q:D->Mm->O}:eG q (some (.v d,M))=q d M:=rfl
noncomputable def QJ (M:Mm):D->O
 |.lst ds=>some (.v (.ref M.length),M ++ [.lst ds])
 |_=>none
theorem zdr:QJ M (.lst ds)=some (.v (.ref M.length),M ++ [.lst ds]):=rfl
theorem zdy:eU f env M=eG (fun d M1=>QJ M1 d) (f env M):=rfl
noncomputable def T6 (M:Mm):D->O
 |.lst ds=>some (.v (.lst ds),M)
 |.tup ds=>some (.v (.lst ds),M)
 |_=>none
theorem zdg:T6 M (.lst ds)=some (.v (.lst ds),M):=rfl
theorem zd0:u_ f env M=eG (fun d M1=>T6 M1 (vw M1 d)) (f env M):=rfl
noncomputable def Ob (d:D) (lo:Option Int):Option (Option Int×Mm)->O
 |some (hi,M3)=>mapR M3 (CT (vw M3 d) lo hi)
 |none=>none
noncomputable def Xa (d:D) (k:Mm->Option (Option Int×Mm)):Option (Option Int×Mm)->O
 |some (lo,M2)=>Ob d lo (k M2)
 |none=>none
theorem Lk {l u:Env->Mm->Option (Option Int×Mm)}:zj f l u env M=eG (fun d M1=>Xa d (u env) (l env M1)) (f env M):=rfl
theorem zfX {lo:Option Int}{q:Mm->Option (Option Int×Mm)}:Xa d q (some (lo,M))=Ob d lo (q M):=rfl
theorem zf0 {lo hi:Option Int}:Ob d lo (some (hi,M))=mapR M (CT (vw M d) lo hi):=rfl
theorem U_:m8 env M=some (none,M):=rfl
noncomputable def BP:O->Option (Option Int×Mm)
 |some (.v (.int i),M)=>some (some i,M)
 |_=>none
theorem U9:gD f env M=BP (f env M):=rfl
theorem Vh:BP (some (.v (.int i),M))=some (some i,M):=rfl
noncomputable def dR (k:D->Mm->OS):O->OS
 |some (.v d,M)=>k d M
 |some (.x c n,M)=>some (.ex c n,M)
 |none=>none
theorem zfa {q:D->Mm->OS}:dR q (some (.v d,M))=q d M:=rfl
theorem zgd:aO k f env M=dR (fun d M1=>if k<env.length then some (.nx (env.set k (.val d)),M1) else none) (f env M):=rfl
noncomputable def Uh (k:Nat) (env:Env) (M:Mm):D->OS
 |.lst ds=>if k<env.length then some (.nx (env.set k (.own ds)),M) else none
 |_=>none
theorem ze6:Uh k env M (.lst ds)=if k<env.length then some (.nx (env.set k (.own ds)),M) else none:=rfl
theorem zfd:xY k f env M=dR (fun d M1=>Uh k env M1 d) (f env M):=rfl
theorem zgm:aH f env M=dR (fun d M1=>some (.rt d,M1)) (f env M):=rfl
theorem zeY:zf f env M=dR (fun _ M1=>some (.nx env,M1)) (f env M):=rfl
noncomputable def Sq (s t:Mm->OS) (M:Mm):D->OS
 |.bl b=>if b=true then s M else t M
 |_=>none
theorem LQ {q r:Mm->OS}:Sq q r M (.bl b)=if b=true then q M else r M:=rfl
theorem Lh:bH c s t env M=dR (fun d M1=>Sq (s env) (t env) M1 d) (c env M):=rfl
noncomputable def Aa (k:Nat) (env:Env) (M:Mm):Option Slot->OS
 |some (.own ds)=>some (.nx (env.set k (.val (.lst ds))),M)
 |_=>none
theorem zf2:i_ k env M=Aa k env M env[k]? :=rfl
theorem zgJ:Aa k env M (some (.own ds))=some (.nx (env.set k (.val (.lst ds))),M):=rfl
noncomputable def zT (k:Nat) (env:Env) (o:O):Option Slot->OS
 |some (.own ds)=>dR (fun d M1=>if ds.length<sizeLine then some (.nx (env.set k (.own (ds ++ [d]))),M1) else none) o
 |_=>none
theorem zfL:sH k f env M=zT k env (f env M) env[k]? :=rfl
theorem zgx {o:O}:zT k env o (some (.own ds))=dR (fun d M1=>if ds.length<sizeLine then some (.nx (env.set k (.own (ds ++ [d]))),M1) else none) o:=rfl
def Hr {ds0:List D}{M2:Mm}(h1:f env M=some (.v (.ref k),M1))(h2:M1[k]? =some (.lst ds0))(h3:g env M1=some (.v d,M2))(h4:M2[k]? =some (.lst ds))(hl:ds.length<sizeLine):cW f g env M=some (.nx env,M2.set k (.lst (ds ++ [d]))):=by
 simp only[cW,bR,h1,h2,h3,h4,hl,xbB]
noncomputable def forR (k:Nat) (t:S) (env:Env):Option (ResA×Mm)->OS
 |some (.v ds,M1)=>loopS k t ds env M1
 |some (.x c n,M1)=>some (.ex c n,M1)
 |none=>none
theorem zge {fs:EA}:cR k fs t env M=forR k t env (fs env M):=rfl
theorem zgX:forR k t env (some (.v ds,M))=loopS k t ds env M:=rfl
noncomputable def Bg:O->Option (ResA×Mm)
 |some (.v (.lst ds),M1)=>some (.v ds,M1)
 |some (.x c n,M1)=>some (.x c n,M1)
 |_=>none
theorem zd5:cF f env M=Bg (f env M):=rfl
theorem zdQ:Bg (some (.v (.lst ds),M))=some (.v ds,M):=rfl
noncomputable def Vo:Option (ResA×Mm)->Option (ResA×Mm)
 |some (.v [.int j],M1)=>if -1000000000<=j/\j<=1000000000 then some (.v ((List.range j.toNat).map fun(k:Nat)=>.int (0 + k)),M1) else none
 |some (.x c n,M1)=>some (.x c n,M1)
 |_=>none
theorem zej {fs:EA}:gP fs env M=Vo (fs env M):=rfl
def Ma (h: -1000000000<=i/\i<=1000000000):Vo (some (.v [.int i],M))=some (.v ((List.range i.toNat).map fun(k:Nat)=>.int (0 + k)),M):=xad h
theorem xM {m:Nat}{t:S}:bA m t ds M=cC (t (ds.map .val ++ List.replicate (m - ds.length) .un) M):=rfl
theorem zfu:cC (some (.rt d,M))=some (.v d,M):=rfl
theorem zeG {e:Env}:cC (some (.nx e,M))=some (.v .non,M):=rfl
theorem zd1:cQ (.int i) (.int j)=some (.int (i + j)):=rfl
theorem zd7:cQ (.lst ds) (.lst es)=if ds.length + es.length<=sizeLine then some (.lst (ds ++ es)) else none:=rfl
theorem zg2:fH (.int i) (.int j)=some (.int (i - j)):=rfl
theorem zfF:gZ (.int i) (.int j)=if i.natAbs<18446744073709551616\/j.natAbs<18446744073709551616\/(i.natAbs.log2<10000/\j.natAbs.log2<10000) then some (.int (i * j)) else none:=rfl
theorem zez:gY (.int i) (.int j)=if 0<j/\j.natAbs<1073741824 then some (.int (i / j)) else none:=rfl
theorem zfQ:oMod (.int i) (.int j)=if 0<j then some (.int (i % j)) else none:=rfl
theorem zga:g8 (.int i) (.int j)=if 0<=j/\j.natAbs<=1000000/\i.natAbs<18446744073709551616 then some (.int (i ^ j.toNat)) else none:=rfl
theorem zg1:rP (.int i)=some (.int (-i)):=rfl
theorem K6:aG .lt (.int i) (.int j)=some (.bl (decide (i<j))):=rfl
theorem K5:aG .le (.int i) (.int j)=some (.bl (decide (i<=j))):=rfl
theorem K4:aG .gt (.int i) (.int j)=some (.bl (decide (j<i))):=rfl
theorem K3:aG .ge (.int i) (.int j)=some (.bl (decide (j<=i))):=rfl
def zfY:aG .eq (.int i) (.int j)=some (.bl (decide (i=j))):=by
 show(tM _ _).map D.bl=_
 simp[tM,fB,D.flat,D.dep,D.eq]
 rw[xbD];simp
theorem zgs (h:D.deps ds<=49):aG .ne (.lst ds) (.lst [])=some (.bl (!ds.isEmpty)):=by
 show(tQ _ _).map D.bl=_;unfold tQ;rw[xad ⟨by simp[fB,D.flat,D.dep,D.deps],by show D.deps ds + 1<=50;lia⟩];cases ds<;>rfl
theorem zgE (h:d.dep<=50):aG .eq d d=some (.bl true):=by
 show(tM d d).map D.bl=_;unfold tM;rw[xad ⟨by simp[fB,h],h⟩,D.eq_refl];rfl
theorem zgq (h:d.dep<=50):aG .ne d d=some (.bl false):=by
 show(tQ d d).map D.bl=_;unfold tQ;rw[xad ⟨by simp[fB,h],h⟩,D.eq_refl];rfl
theorem zfV:aM (.lst ds) (.int i)=cN ds i:=rfl
theorem zgg:aM (.tup ds) (.int i)=cN ds i:=rfl
theorem zfs:bW [.lst ds]=some (.int ds.length):=rfl
theorem zdT:bW [.tup ds]=some (.int ds.length):=rfl
theorem zgL:mO [.int i,.int j]=some (.int (if j<i then j else i)):=rfl
theorem zfE:gK [.int i,.int j]=some (.int (if j > i then j else i)):=rfl
theorem ze0:gn (.lst ds)=some (!ds.isEmpty):=rfl
theorem zeZ:gn (.bl b)=some b:=rfl
theorem zgU {lo hi:Option Int}:CT (.lst ds) lo hi=some (.lst (bT ds lo hi)):=rfl
end
noncomputable def Step (J:Env->Mm->Prop) (Q:OS->Prop):OS->Prop
 |some (.nx e,M)=>J e M
 |some (.ct e,M)=>J e M
 |some (.bk e,M)=>Q (some (.nx e,M))
 |some (.rt d,M)=>Q (some (.rt d,M))
 |some (.ex c n,M)=>Q (some (.ex c n,M))
 |none=>False
def Ke {i:Nat}{body:S}{ds:List D}{env:Env}{M:Mm}(Q:OS->Prop)(J:Nat->Env->Mm->Prop)(h0:J 0 env M)
    (hs:∀(k:Nat) d env M,ds[k]? =some d->J k env M->i<env.length/\Step (J (k + 1)) Q (body (env.set i (.val d)) M)) (hd:∀env M,J ds.length env M->Q (some (.nx env,M))):Q (loopS i body ds env M):=by
  have key:∀(m k:Nat) (env:Env) (M:Mm),m + k=ds.length->J k env M->Q (loopS i body (ds.drop k) env M):=by
    intro m
    induction m with
    |zero=>
      intro k env M hk hJ;have e:k=ds.length:=by lia
      subst e;rw[xch];exact hd env M hJ
    |succ m ih=>
      intro k env M hk hJ;have hlt:k<ds.length:=by lia
      obtain⟨hi,h1⟩:=hs k ds[k] env M (xab hlt) hJ;rw[xaV hlt];simp only[loopS,hi,xbB]
      cases e:body (env.set i (.val ds[k])) M with
      |none=>rw[e]at h1;exact h1.elim
      |some o=>
        rw[e]at h1;obtain⟨o,M'⟩:=o
        cases o with
        |nx e'=>exact ih (k + 1) e' M' (by lia) h1
        |ct e'=>exact ih (k + 1) e' M' (by lia) h1
        |bk e'=>exact h1
        |rt d=>exact h1
        |ex c n=>exact h1
  have:=key ds.length 0 env M (by lia) h0
  rwa [xcw]at this
end E3
namespace E3
open PySem PySem.Spec PyProof.Rows L2
noncomputable def XN (H:Hp) (n:Int):Option Addr->Prop
 |none=>n=0
 |some d=>∃fs,H d=some (.xd fs)/\fs.lookup ("at":Str)=some (.int (n - 1))/\n≠0
noncomputable def XQ (K:Fgx) (mg:Mgx) (P:Pl) (H:Hp) (M':Mm) (Q:VK) (E:XK):Res->Prop
 |.v d=>∀P' v H',LtE P H P' H'->Hk K mg P' H' M'->Is K P' H' d v->Q v H'
 |.x c n=>∀P' H' C dx,LtE P H P' H'->Hk K mg P' H' M'->mg c=some (.ref C)->XN H' n dx->E (.ref C) dx H'
noncomputable def CV (K:Fgx) (mg:Mgx) (n:Nat) (g:G):Sp:=fun vs H Q E=>vs.length=n/\∃P M ds r M',Hk K mg P H M/\aC K P H ds vs/\g ds M=some (r,M')/\XQ K mg P H M' Q E r
def aC.away {K:Fgx}{P:Pl}{H H':Hp}(s:∀b o,H b=some o->(∀g,o≠ .ext g)->H' b=some o){ds:List D}{vs:List V}(h:aC K P H ds vs):aC K P H' ds vs:=
 aC.rd (fun _ _=>xem (fun q=>s _ _ q fun _ z=>nomatch z) fun⟨o,q⟩=>⟨o,s _ _ q fun _ z=>nomatch z⟩) (fun _ _=>xem (fun q=>s _ _ q fun _ z=>nomatch z) fun⟨o,q⟩=>⟨o,s _ _ q fun _ z=>nomatch z⟩) h
theorem Hk.away {K:Fgx}{mg:Mgx}{P:Pl}{H H':Hp}{M:Mm}(h:Hk K mg P H M)(s:∀b o,H b=some o->(∀g,o≠ .ext g)->H' b=some o)(t:∀b,H' b=none->H b=none):Hk K mg P H' M:=by
 refine⟨h.n,fun k c e=>?_,h.inj,h.bd,fun a z q=>h.here a z (t a q)⟩;exact(h.cell k c e).up (fun o e n=>s _ _ e n) (fun b o u e=>s b _ e fun _ z=>nomatch z) fun _ _ q=>aC.away s q
structure XFit (X:Cx)(Wx:XW):Prop where
 xr:∀pins σ H s a C dx c n P0 H0 P M,Inv X pins σ H s->H a=some (xo a C dx true)->¬ P.bd a->H0 a=none->LtE P0 H0 P H->Hk X.K X.mg P H M->X.mg c=some (.ref C)->XN H n dx->Wx P0 H0 M c n->X.xe (.ref a) s
section
variable {X:Cx}{Wx:XW}{pos:Pos}
noncomputable def Cu (c:Str) (f:E):S:=fun env M=>bR (f env M) fun _ M1=>some (.ex c 0,M1)
def Oh (F:XFit X Wx)(hc:X.calm=true)(m:X.mg c=some (.ref C))(q1:dX X.K C=true)(q2:Dp X.K C=true)(kp:PySem.W.keepIn X.K (.ref C)=true)(hg:Gl X c)(he:SE X Wx .val e f)(hdb:(c==("__debug__":Str))=false:=by x_go)
  (hs:starEach [e] X.env=[(false,eval e X.env)]:=by rfl):SS X Wx (.Raise (some (.Call (.Name c p) [e] [] q)) none pos) (Cu c f):=by
 refine gF (zcc (W:=fun a C' dx H=>dx=none/\C'=C/\∃P0 H0 P M,¬ P.bd a/\H0 a=none/\LtE P0 H0 P H/\Hk X.K X.mg P H M/\Wx P0 H0 M c 0) (zcr q1 q2 kp hg m he hdb hs) hc fun pins σ H s a C' dx I ea ⟨e1,e2,P0,H0,P,M,b,n,l,h,w⟩=>?_) ?_
 ·subst e1 e2;exact F.xr pins σ H s a _ none c 0 P0 H0 P M I ea b n l h m rfl w
 ·f_tup;unfold Cu at e;kas_ty
  ·cases e;refine⟨P0,H0,P,Os,env,M,_,_,k,e1,fun P1 v H1 l1 h1 i1=>⟨rfl,fun a ha=>⟨a,C,none,rfl,cu,q1,rfl,rfl,P0,H0,P1,_,h1.new a ha,?_,?_,?_,q⟩⟩⟩
   ·exact k.base.sure a (l1.sure a ha)
   ·exact k.base.trans (l1.trans (LtE.same (vg ha)))
   ·exact h1.same (vg ha)
  ·kj_on
end
section
variable {P:Program}{w:World}{K:Fgx}{mg:Mgx}{base:Heap}{k:Nat}{x qual:Str}{st:Stmt}{f:Addr}{fd:FuncData}{N ps:List Str}{b:S}
abbrev nU (P:Program)(w:World)(K:Fgx)(mg:Mgx)(base:Heap)(N:List Str)(qual:Str)(st:Stmt)(f:Addr)(cdv:Value)(A:Around)(outer:List PySem.Env)(s:Shared)(H:Hp)(E:XK):Cx:=cU (lC P w) P w K mg base N qual (aL st) f cdv A outer s H E
end
section
variable {P:Program}{w:World}{K:Fgx}{mg:Mgx}{base:Heap}{k:Nat}{x qual:Str}{st:Stmt}{f:Addr}{fd:FuncData}{N ps:List Str}{b:S}
def Z2 (F:FnOk P w K mg base (lC P w) k f fd ps sp):FnOk P w K mg base fP k f fd ps (fun vs H Q _=>sp vs H Q E0):=
 ⟨fun vs H Q E h=>F.len vs H Q E0 h,fun A outer s H args us vs Q E hr he hb hv hs=>xcf (F.run A outer s H args us vs Q E0 hr he hb hv hs) fun r s' z=>by
  cases r with
  |error e=>obtain⟨_,_,_,_,_,_,_,_,_,_,_,_,_,_,z⟩:=z;exact z
  |ok fl=>cases fl<;>exact z⟩
def Z1 (F:FnOk P w K mg base (lC P w) k f fd ps (CV K mg n g)):FnOk P w K mg base fP k f fd ps (nu K mg n g):=by
 have F0:=Z2 F;refine⟨fun vs H Q E h=>F0.len vs H Q E ?_,fun A outer s H args us vs Q E hr he hb hv hs=>F0.run A outer s H args us vs Q E hr he hb hv ?_⟩
 ·obtain⟨hl,P,M,ds,d,M',hk,is,e,q⟩:=h;exact⟨hl,P,M,ds,.v d,M',hk,is,e,q⟩
 ·obtain⟨hl,P,M,ds,d,M',hk,is,e,q⟩:=hs;exact⟨hl,P,M,ds,.v d,M',hk,is,e,q⟩
def Yb (P:Program)(w:World)(K:Fgx)(mg:Mgx)(base:Heap)(k:Nat)(C:Addr)(m:Str)(n:Nat)(g:G):Prop:=
 ∃f fd ps,Meth K C m f/\FnOk P w K mg base (lC P w) k f fd ps (CV K mg n g)/\Binds K fd ps []
def X8 (P:Program)(w:World)(K:Fgx)(mg:Mgx)(base:Heap)(k:Nat)(C:Addr)(n:Nat)(g:G):Prop:=
 ∃f fd ps,Mk K C f/\FnOk P w K mg base (lC P w) k f fd ps (CV K mg n g)/\Binds K fd ps []
def lB (P:Program)(w:World)(K:Fgx)(mg:Mgx)(base:Heap)(k:Nat)(f:Str)(n:Nat)(g:G):Prop:=
 ∃fa fd ps,mg f=some (.ref fa)/\PySem.W.keepIn K (.ref fa)=true/\FnOk P w K mg base (lC P w) k fa fd ps (CV K mg n g)/\Binds K fd ps []
def lB.quiet (a:lB P w K mg base k x n g):bB P w K mg base k x n g:=by
 obtain⟨fa,fd,ps,h1,h2,h3,h4⟩:=a;exact⟨fa,fd,ps,[],[],_,h1,h2,Z1 h3,h4,.nil,fun vs H Q E h=>by rw[xas];exact h⟩
theorem lB.mono (a:lB P w K mg base j x n g)(h:j<=k):lB P w K mg base k x n g:=by
 obtain⟨f,fd,ps,h1,h2,h3,h4⟩:=a;exact⟨f,fd,ps,h1,h2,h3.mono h,h4⟩
end
end E3
namespace L2
open PySem PySem.Spec PyProof.Rows
section
variable {X:Cx}{CX:fQ}{k:Nat}{f C:Addr}{fd:FuncData}{ps:List Str}{sp:Sp}{x m:Str}{p pos apos:Pos}{e o:Expr}{es:List Expr}{ta:TE}{t:TA}{Ex:St->XK}
def Yl (CX:fQ)(X:Cx)(Ex:St->XK):Prop:=∀pins σ H s e s',Inv X pins σ H s->CX X.stack H s (Ex σ) e s'->X.xe e s'
end
end L2
namespace E3
open PySem PySem.Spec PyProof.Rows L2
section
variable {X:Cx}{Wx:XW}{pos:Pos}
def SX (X:Cx)(e:Expr)(f:E):Prop:=∀Ex:L2.St->XK,Yl (lC X.prog X.w) X Ex->PE X e fun st H Q=>∃P0 H0 P Os env M r M',Ok X.K X.mg P0 H0 P Os H M st env/\f env M=some (r,M')/\XQ X.K X.mg P H M' Q (Ex st) r
def XQ.lt {K:Fgx}{mg:Mgx}{P P1:Pl}{H H1:Hp}{M':Mm}{Q:VK}{E:XK}{r:Res}(l:LtE P H P1 H1)(q:XQ K mg P H M' Q E r):XQ K mg P1 H1 M' Q E r:=by
 cases r with
 |v d=>exact fun P' v H' l' h i=>q P' v H' (l.trans l') h i
 |x c n=>exact fun P' H' C dx l' h m xn=>q P' H' C dx (l.trans l') h m xn
noncomputable def FW (g:G) (fs:EA):E:=fun env M=>match fs env M with
 |some (.v ds,M1)=>g ds M1
 |_=>none
def zc2 (a:lB X.prog X.w X.K X.mg X.base k f n g)(hr:Room k X.A)(hg:Gl X f)(ha:SA X W0 .val (e::es) fs)(hn:nJ n fs)(hdb:(f==("__debug__":Str))=false:=by x_go)
  (he:starEach (e::es) X.env=(false,eval e X.env)::starEach es X.env:=by rfl) (hpl:(backTo pos (starEach es X.env)).any (·.1)=false:=by rfl):SX X (.Call (.Name f p) (e::es) [] pos) (FW g fs):=by
 obtain⟨fa,fd,ps,hm,hk,F,hb⟩:=a;intro Ex hx;refine cD (zcB F hr hg hm hk hb .nil hx ha hdb he hpl) ?_;k_go;unfold FW at e;kjx_on
 ·rename_i ds M1 e1;exact ⟨P0,H0,P,Os,env,M,_,_,k,e1,fun P1 vs H1 l1 h1 i1=>by
   dsimp only;rw[xas];exact⟨by rw[i1.len];exact hn _ _ _ _ e1,P1,M1,ds,r,_,h1,i1.iss,e,q.lt l1⟩⟩
 ·cases e
noncomputable def zhd (K:Fgx) (mg:Mgx) (E:XK) (P0:Pl) (H0:Hp) (P:Pl) (H:Hp) (M':Mm) (D:Ends):Out->Prop
 |.ex c n=>∀P' H' C dx,LtE P H P' H'->Hk K mg P' H' M'->mg c=some (.ref C)->XN H' n dx->E (.ref C) dx H'
 |.nx env=>Post K mg W0 P0 H0 P H M' D (.nx env)
 |.bk env=>Post K mg W0 P0 H0 P H M' D (.bk env)
 |.ct env=>Post K mg W0 P0 H0 P H M' D (.ct env)
 |.rt d=>Post K mg W0 P0 H0 P H M' D (.rt d)
end
end E3
namespace L2
open PySem PySem.Spec PyProof.Rows
end L2
namespace E3
open PySem PySem.Spec PyProof.Rows L2
section
variable {X:Cx}{Wx:XW}
noncomputable def En (f:E):EA:=fun env M=>match f env M with
 |some (.v (.tup ds),M1)=>some (.v ds,M1)
 |some (.x c n,M1)=>some (.x c n,M1)
 |_=>none
def zfG (h:SE X Wx .val e f):SI X Wx tg e (En f):=by
 refine BW (zdS h) ?_;w_size;unfold En at e;kjx_on
 ·rename_i ds M1 ef;cases e;refine⟨P0,H0,P,Os,env,M,_,_,k,ef,fun P1 v1 H1 l1 h1 i1=>?_⟩;obtain⟨a,vs,rfl,ra,is⟩:=i1;refine⟨a,rfl,⟨vs,ra⟩,q P1 H1 _ l1 h1 fun P2 H2 l2=>?_⟩;have sq:cI X.K H2 a vs:=l2.tup ra;have is2:=aC.lt l2 is;refine⟨fun j hj=>?_,fun j h1 h2=>⟨vs,sq,by rw[is2.len];exact h1⟩,fun j x H' y hj=>⟨y.1,?_⟩⟩
  ·obtain⟨v,ev,_⟩:=aC.get is2 (xab hj);exact⟨vs,v,sq,ev⟩
  ·obtain⟨v,ev,iv⟩:=aC.get is2 (xab hj);have:=y.2 vs sq;rw[ev]at this;cases this;exact⟨_,xab hj,iv⟩
 ·k_same
 ·cases e
end
def zdI {K:Fgx}{C:Addr}(h1:PySem.W.findIn K (.ref C) "__getattribute__"=some (some (.builtin "BaseException.__getattribute__")))(h2:PySem.W.findIn K (.ref C) "__getattr__"=some none)(h3:PySem.W.mroIn K C (.type "BaseException")=some true):GR K C=true:=by
 simp only[GR,h1,h2,h3,xbL,xeb]
def zfv {K:Fgx}{C:Addr}(h1:GR K C=true)(h2:PySem.W.hasDictIn K C=true)(h3:PySem.W.findIn K (.ref C) "__class__"=some (some (.builtin "object.__class__")))(h4:PySem.W.specialIn K (.builtin "object.__class__") "__get__"=some (some (.builtin "getset_descriptor.__get__")))
  (h5:PySem.W.takesIn K (.builtin "object.__class__")=some true) (h6:PySem.W.mroIn K C (.type "object")=some true):GX K C=true:=by
 simp only[GX,h1,h2,h3,h4,h5,h6,xbL,xeb]
end E3
namespace E3
open PySem L2
section
variable {env:Env}{M M1 M2:Mm}{f g o v:E}{d e x:D}{i:Int}{k:Nat}{ds:List D}{s t:S}{c me fl:Str}{fs:List (Str×D)}{gg:G}{fa:EA}
def K7 (h:M[k]? =some (.obj c fs)):pB M c (.ref k)=some (k,fs):=by unfold pB;simp only[h,xbB]
def yI (h1:o env M=some (.v (.ref k),M1))(h2:M1[k]? =some (.obj c fs))(h3:fs.lookup fl=some x):bw c fl o env M=some (.v x,M1):=by
 simp only[bw,bnd,h1,K7 h2,h3,xb5]
def wJ (h1:v env M=some (.v x,M1))(h2:o env M1=some (.v (.ref k),M2))(h3:M2[k]? =some (.obj c fs))(h4:fs.length<1000):eV c fl o v env M=some (.nx env,M2.set k (.obj c (putD fl x fs))):=by
 simp only[eV,bR,h1,h2,K7 h3,h4,xbB]
def dG (h1:o env M=some (.v (.ref k),M1))(h2:M1[k]? =some (.obj c fs))(h3:fs.lookup me=none)(h4:fa env M1=some (.v ds,M2))(h5:gg (.ref k::ds) M2=some (.v x,M3)):aP c me gg o fa env M=some (.v x,M3):=by
 simp only[aP,bnd,h1,K7 h2,h3,xbB,cO,h4,h5]
def Ko (h4:fa env M=some (.v ds,M1))(h5:gg (.ref M1.length::ds) (M1 ++ [.obj c []])=some (.v .non,M3)):ni c gg fa env M=some (.v (.ref M1.length),M3):=by
 simp only[ni,cO,h4,h5]
noncomputable def Xu:O->Option (ResA×Mm)
 |some (.v (.tup ds),M1)=>some (.v ds,M1)
 |some (.x c n,M1)=>some (.x c n,M1)
 |_=>none
theorem zgD:En f env M=Xu (f env M):=rfl
theorem zfN:Xu (some (.v (.tup ds),M))=some (.v ds,M):=rfl
end
theorem kJ.mono (a:kJ P w K mg base j C n g)(h:j<=k):kJ P w K mg base k C n g:=by
 obtain⟨f,fd,ps,h1,h2,h3⟩:=a;exact⟨f,fd,ps,h1,h2.mono h,h3⟩
end E3
namespace E3
open PySem PySem.Spec PyProof.Rows L2
def cY (hN:X.N[i]? =some x)(hv:yD X.env.scope x)(hd:(x==("__debug__":Str))=false:=by x_go)(hcd:(x==("__classdict__":Str))=false:=by x_go):SE X Wx m (.Name x pos) (aj i):=(W4 hN hv hd hcd).bor
noncomputable def cj (cs:List (Str×Nat)) (env:Env):Env:=cs.map fun p=>(env[p.2]?).getD .un
noncomputable def lJ (cs:List (Str×Nat)) (Os:List (Option Addr)):List (Option Addr):=cs.map fun p=>(Os[p.2]?).join
section
variable {K:Fgx}{mg:Mgx}{P0 P:Pl}{H0 H:Hp}{M:Mm}{Os:List (Option Addr)}{st:L2.St}{env:Env}{d:D}{v:V}
def IW {cs:List (Str×Nat)}{i:Nat}{a:Addr}(h:(lJ cs Os)[i]? =some (some a)):∃p,cs[i]? =some p/\Os[p.2]? =some (some a):=by
 unfold lJ at h;rw[xam,xaj]at h;obtain⟨p,e,h⟩:=h;exact⟨p,e,tY h⟩
def Ok.cap {cs:List (Str×Nat)}(k:Ok K mg P0 H0 P Os H M st env)(nd:(cs.map (·.2)).Nodup)(h:Is K P H d v):Ok K mg P0 H0 P (none::lJ cs Os) H M (some v::eZ cs st) (.val d::cj cs env) where
  hk:=k.hk
  base:=k.base
  b0:=k.b0
  slot:=fun i s e=>by
    cases i with
    |zero=>cases e;exact⟨v,rfl,h⟩
    |succ i=>
      rw[xbT]at e ⊢;rw[xbT];unfold cj at e;rw[xam,xaj]at e;obtain⟨p,ep,e⟩:=e;have eo:((lJ cs Os)[i]?).join=(Os[p.2]?).join:=by unfold lJ;rw[xam,ep];rfl
      have es:((eZ cs st)[i]?).join=(st[p.2]?).join:=by unfold eZ;rw[xam,ep];rfl
      rw[eo,es]
      cases e':env[p.2]? with
      |none=>rw[e']at e;cases e;exact True.intro
      |some s'=>rw[e']at e;cases e;exact k.slot _ _ e'
  own:=fun a h=>by
    rw[xaO]at h;rcases h with h |h
    · cases h
    · obtain⟨i,hi⟩:=xdZ.mp h;obtain⟨p,_,e⟩:=IW hi;exact k.own a (xaF e)
  inj:=fun i j a e1 e2=>by
    cases i with
    |zero=>cases e1
    |succ i=>
      cases j with
      |zero=>cases e2
      |succ j=>
        rw[xbT]at e1 e2;obtain⟨p,h1,h2⟩:=IW e1;obtain⟨q,h3,h4⟩:=IW e2;have e:=k.inj _ _ a h2 h4;congr 1;have hi:(cs.map (·.2))[i]? =some p.2:=by rw[xam,h1];rfl
        have hj:(cs.map (·.2))[j]? =some p.2:=by rw[xam,h3,e];rfl
        have il:=(xah.mp hi).1;exact(List.getElem?_inj il nd).mp (hi.trans hj.symm)
  olen:=by simp[lJ,cj]
  slen:=by simp[eZ,cj]
end
section
variable {X:Cx}{Wx:XW}{m:Mode}{pos:Pos}
noncomputable def dw (q e:E) (env:Env):List D->List D->Mm->Option (List D×Mm)
  | [],acc,M=>some (acc,M)
  |d::ds,acc,M=>match q (.val d::env) M with
    | some (.v (.bl true), M1) => (match e (.val d::env) M1 with
      |some (.v y,M2)=>if acc.length + 1<sizeLine then dw q e env ds (acc ++ [y]) M2 else none
      |_=>none)
    |some (.v (.bl false),M1)=>dw q e env ds acc M1
    |_=>none
noncomputable def fJ (cs:List (Str×Nat)) (fs:EA) (q e:E):E:=fun env M=>match fs env M with
  | some (.v ds, M1) => (match dw q e (cj cs env) ds [] M1 with
    |some (ys,M2)=>some (.v (.lst ys),M2)
    |none=>none)
  |some (.x c n,M1)=>some (.x c n,M1)
  |none=>none
def pX:∀env M r M',fJ cs fs q e env M=some (.v r,M')->∃ds,r=.lst ds:=fun env M r M' h=>by
 unfold fJ at h;krn_ne
 ·krn_ne
  ·cases h;exact⟨_,rfl⟩
  ·cases h
 ·cases h
 ·cases h
def R7 {K:Fgx}{mg:Mgx}{P1 P:Pl}{H1 H:Hp}{M:Mm}{D:Addr}{vs vs':List V}(l:LtE P1 H1 P H)(h:Hk K mg P H M)(hD:H1 D=none)(bD:P.bd D)(nc:∀k,k<P.n->P.io k≠D)(e:H D=some (.lst vs)):
  Lt P H P (upd H D (.lst vs'))/\LtE P1 H1 P (upd H D (.lst vs'))/\Hk K mg P (upd H D (.lst vs')) M:=by
 have lc:Lt P H P (upd H D (.lst vs')):=uc bD e Br;refine⟨lc,⟨l.n,l.io,l.bd,l.bm,fun c o ec n=>?_,fun c z=>l.sure c (lc.sure c z),l.nw⟩,⟨h.n,fun j c ej=>(h.cell j c ej).lt lc fun o eo=>?_,h.inj,h.bd,fun c z q=>h.here c z (lc.sure c q)⟩⟩
 ·rw[aZ (fun z=>by subst z;rw[hD]at ec;cases ec)];exact l.keep c o ec n
 ·rw[aZ (nc j (by rw[h.n];exact(xah.mp ej).1))];exact eo
noncomputable def NR (K:Fgx) (mg:Mgx) (Wx:XW) (P0:Pl) (H0:Hp) (P:Pl) (H:Hp) (M':Mm) (R:Addr->Hp->Prop):Res->Prop
 |.v d=>∃ds,d=.lst ds/\∀P' a vs H',LtE P H P' H'->Hk K mg P' H' M'->H a=none->P'.bd a->(∀k,k<P'.n->P'.io k≠a)->H' a=some (.lst vs)->aC K P' H' ds vs->R a H'
 |.x c n=>Wx P0 H0 M' c n
def Jc {K:Fgx}{mg:Mgx}{cs:List (Str×Nat)}{fs:EA}{q e:E}{P0 P:Pl}{H0 H:Hp}{Os:List (Option Addr)}{M M':Mm}{st:L2.St}{env:Env}{r:Res}{R:Addr->Hp->Prop}(nd:(cs.map (·.2)).Nodup)
    (k:Ok K mg P0 H0 P Os H M st env) (h:fJ cs fs q e env M=some (r,M')) (w:NR K mg Wx P0 H0 P H M' R r):zE (tI K mg Wx fs) (pK K mg W0 q) (tE K mg W0 .val e) cs st H R:=by
  unfold fJ at h;krn_ne
  · rename_i ds M1 ef;krn_ne
    rotate_left
    · cases h
    rename_i ys M2 ec;cases h;obtain ⟨ds', e', w⟩ := w;cases e';refine ⟨P0, H0, P, Os, env, M, _, _, k, ef, fun P1 H1 J l1 h1 wk D hD => ?_⟩;obtain ⟨l2, h2, nc⟩ := yG (vs := []) h1 hD;refine ⟨fun i m vs H2=>m=ds.length - i/\i<=ds.length/\∃P2 M3 acc,LtE P1 H1 P2 H2/\Hk K mg P2 H2 M3/\P2.bd D/\(∀k,k<P2.n->P2.io k≠D)/\H2 D=some (.lst vs)/\aC K P2 H2 acc vs/\acc.length<sizeLine/\dw q e (cj cs env) (ds.drop i) acc M3=some (ys,M'),
      ⟨ds.length,by simp,xbz _,P1.bar D,M1,[],l2,h2,.inr rfl,nc,cu,rfl,by x_go,by rw[xcw];exact ec⟩,?_⟩
    rintro i m vs H2 ⟨rfl,hi,P2,M3,acc,l3,h3,bD,nD,eD,is,hz,ec⟩;refine⟨eD,?_⟩;obtain⟨w1,w2,w3⟩:=wk P2 H2 (l3.lt h1)
    by_cases hlt:i<ds.length
    · refine .inr ⟨w1 i hlt,by rw[is.len];exact hz,fun vs' H'=>∃P2 M3 acc,LtE P1 H1 P2 H'/\Hk K mg P2 H' M3/\P2.bd D/\(∀k,k<P2.n->P2.io k≠D)/\H' D=some (.lst vs')/\aC K P2 H' acc vs'/\acc.length<sizeLine/\dw q e (cj cs env) (ds.drop (i + 1)) acc M3=some (ys,M'),
        fun vs' H' z=>⟨ds.length - (i + 1),Nat.sub_lt_sub_left hlt (xbl i),rfl,hlt,z⟩,fun x H' y=>?_⟩
      obtain⟨e3,d,ed,iv⟩:=w3 i x H' y hlt;subst e3;have ed':ds.drop i=d::ds.drop (i + 1):=by
        rw[xaV hlt];rw[xab hlt]at ed;rw[xaA ed]
      rw[ed']at ec;have kk:=((k.next l1 h1).next l3 h3).cap (cs:=cs) nd iv
      simp only[dw]at ec;split at ec
      · rename_i M4 eq;refine fL kk eq ⟨true,rfl,fun P4 H4 l4 h4=>?_⟩;dsimp only;rw[xad rfl];split at ec
        · rename_i y' M5 ee;split at ec
          · rename_i hz';refine aX (kk.next l4 h4) ee fun P5 v5 H5 l5 h5 i5=>?_
            have l45:=l4.trans l5;have eD5:H5 D=some (.lst vs):=l45.keep D _ eD (.inr nD);have nD5:∀k,k<P5.n->P5.io k≠D:=l45.nc eD nD;obtain⟨g1,g2,g3⟩:=R7 (vs':=vs ++ [v5]) (l3.trans l45) h5 hD (l45.bm D bD) nD5 eD5;refine⟨eD5,P5,M5,acc ++ [y'],g2,g3,l45.bm D bD,nD5,cu,aC.append (aC.lt ((l45.lt h3).trans g1) is) (aC.one (Is.lt g1 i5)),by rw[xag];exact hz',ec⟩
          · cases ec
        · cases ec
      · tb_any
      · cases ec
    · have ei:i=ds.length:=by lia
      subst ei;rw[xch]at ec;cases ec;exact .inl ⟨w2 _ (xaf _) (xaf _),w P2 D vs H2 (l1.trans l3) h3 (l1.sure D hD) bD nD eD is⟩
  · rename_i c n M1 ef;cases h;exact⟨P0,H0,P,Os,env,M,_,_,k,ef,w⟩
  · cases h
def SQ (X:Cx)(ifs:List Expr)(q:E):Prop:=gH X ifs (pK X.K X.mg W0 q)
def vp:SQ X [] (ak (.bl true)):=fun pins s σ H Q I h=>by
 obtain⟨P0,H0,P,Os,env,M,r,M',k,e,q⟩:=h;cases e;obtain⟨b,e2,q⟩:=q;cases e2;exact zbC pins s σ H Q I (q P H (LtE.refl P H) k.hk)
def Gv (h:ST X W0 c q):SQ X [c] q:=zb7 h
section
variable {elt iter:Expr}{ifs:List Expr}{scope:Scope}{fs:EA}{q e:E}
theorem vo (x:Str)(cs:List (Str×Nat))(hc:X.calm=true)(nd:(cs.map (·.2)).Nodup)(hi:SI X Wx (.Name x px) iter fs)
  (hq:∀(cl:List (Str×Addr)) (C:Addr) (s₀:Shared) (H₀:Hp) (ex:List Addr) (pn:Pnx),SQ (cP X (x::cs.map (·.1)) scope cl C s₀ H₀ ex pn) ifs q)
  (he:∀(cl:List (Str×Addr)) (C:Addr) (s₀:Shared) (H₀:Hp) (ex:List Addr) (pn:Pnx),SE (cP X (x::cs.map (·.1)) scope cl C s₀ H₀ ex pn) W0 .val elt e)
  (ok:yH X.N X.env.scope x cs scope=true:=by kernel_rfl) (hs:∀x,foldedSetIterable iter X.env x=pure x:=by intro _;rfl):
  SN X Wx (.ListComp elt [⟨.Name x px,iter,ifs,0⟩] scope pos) (fJ cs fs q e):=by
 refine cD (Uz (tq:=pK X.K X.mg W0 q) (te:=tE X.K X.mg W0 .val e) x cs hc hi hq he ok hs) ?_;rintro st H Q ⟨P0,H0,P,Os,env,M,r,M',k,e,w⟩;refine Jc nd k e ?_
 cases r with
 |v d=>exact w
 |x c n=>exact w
def Z5 {K:Fgx}{mg:Mgx}{P P':Pl}{H H':Hp}{M M':Mm}{a:Addr}{vs:List V}{ds:List D}(k:Hk K mg P H M)(l:LtE P H P' H')(h:Hk K mg P' H' M')(ha:H a=none)(nc:∀j,j<P'.n->P'.io j≠a)(ea:H' a=some (.lst vs))(is:aC K P' H' ds vs):
  LtE P H (P'.less (· ≠a)) H'/\Hk K mg (P'.less (· ≠a)) H' M'/\Is K (P'.less (· ≠a)) H' (.lst ds) (.ref a):=by
 have l2 : Lt P' H' (P'.less (· ≠ a)) H' := ⟨xaf _, fun _ _ => rfl, fun c z => .inl z.1, fun _ _ e _ => e, fun _ z => z⟩;exact ⟨⟨l.n,l.io,fun b z=>l.bd b z.1,fun b z=>⟨l.bm b z,fun q=>k.here b z (q ▸ ha)⟩,l.keep,l.sure,l.nw⟩,
  ⟨h.n,fun j c e=>(h.cell j c e).lt l2 fun _ z=>z,h.inj,fun j hj=>⟨h.bd j hj,nc j hj⟩,fun b z=>h.here b z.1⟩,
  a,vs,rfl,.inl ⟨fun z=>z.2 rfl,.inl ea⟩,aC.less is⟩
theorem Xe (x:Str)(cs:List (Str×Nat))(hN:X.N.Nodup)(hk:X.N[i]? =some y)(hy:Loc X.env.scope y)(hc:X.calm=true)(nd:(cs.map (·.2)).Nodup)(hi:SI X Wx (.Name x px) iter fs)
  (hq:∀(cl:List (Str×Addr)) (C:Addr) (s₀:Shared) (H₀:Hp) (ex:List Addr) (pn:Pnx),SQ (cP X (x::cs.map (·.1)) scope cl C s₀ H₀ ex pn) ifs q)
  (he:∀(cl:List (Str×Addr)) (C:Addr) (s₀:Shared) (H₀:Hp) (ex:List Addr) (pn:Pnx),SE (cP X (x::cs.map (·.1)) scope cl C s₀ H₀ ex pn) W0 .val elt e)
  (ok:yH X.N X.env.scope x cs scope=true:=by kernel_rfl) (hs:∀x,foldedSetIterable iter X.env x=pure x:=by intro _;rfl)
  (hsw:swapsWith (.ListComp elt [⟨.Name x px,iter,ifs,0⟩] scope pos) (some (.Name y py)) spos.line X.env=pure true:=by rfl)
  (hf:X.fn y=true\/X.env.scope.names.lookup y=some .local:=by first |exact .inl rfl |exact .inr rfl):
  SS X Wx (.Assign [.Name y py] (.ListComp elt [⟨.Name x px,iter,ifs,0⟩] scope pos) spos) (aO i (fJ cs fs q e)):=by
 refine gF (zdj (tq:=pK X.K X.mg W0 q) (te:=tE X.K X.mg W0 .val e) x cs hN hk hy hc hi hq he ok hs hsw hf) ?_;rintro D st H ⟨P0,H0,P,Os,env,M,out,M',k,ee,w⟩;unfold aO at ee;rcases gw ee with⟨d,M1,e1,ee⟩ |⟨c,n,e1,rfl⟩
 ·obtain⟨ds,rfl⟩:=pX _ _ _ _ e1;split at ee
  ·rename_i hl;cases ee;refine Jc nd k e1 ⟨ds,rfl,fun P1 a vs H1 l1 h1 ha ba nc ea is=>?_⟩;obtain⟨l2,h2,i2⟩:=Z5 k.hk l1 h1 ha nc ea is;exact w _ _ _ _ (l2.lt k.hk) ((k.next l2 h2).asg hl i2)
  ·cases ee
 ·exact Jc nd k e1 w
end
end
theorem aC.erase {K:Fgx}{P:Pl}{H:Hp}:∀{ds:List D} {vs:List V} (n:Nat),aC K P H ds vs->aC K P H (ds.eraseIdx n) (vs.eraseIdx n)
  | [],_,_,h=>by rw[show _=[] from h];rfl
  |d::ds,_,0,h=>by
    obtain⟨v,r,e,p,h⟩:=h;subst e;exact h
  |d::ds,_,n + 1,h=>by
    obtain⟨v,r,e,p,h⟩:=h;subst e;exact⟨v,_,rfl,p,aC.erase n h⟩
section
variable {X:Cx}{Wx:XW}{m:Mode}{pos:Pos}
noncomputable def su (i : Int) (ds : List D) : Option (D × List D) := if i.natAbs < 9223372036854775808 then (match seqIndex? i ds.length with
 |some k=>(ds[k]?).map fun z=>(z,ds.eraseIdx k)
 |none=>none) else none
noncomputable def xZ (f g:E):E:=fun env M=>bnd (f env M) fun d M1=>match d with
  | .ref j => (match M1[j]? with
    | some (.lst _) => bnd (g env M1) fun y M2 => (match M2[j]?,y with
      | some (.lst ds), .int i => (match su i ds with
        |some (z,es)=>some (.v z,M2.set j (.lst es))
        |none=>none)
      |_,_=>none)
    |_=>none)
  |_=>none
def zcx (ho:SE X Wx .val o f)(he:SE X Wx .val e g)(hbase:attributeBase o "pop" X.env (eval o X.env)=eval o X.env:=by rfl)
  (hfew:((backTo pos (starEach [e] X.env)).all (fun x=> !x.1) && (backToKw pos (keywordEach [] X.env)).all (fun x=>x.1.isSome) && decide ([e].length + ([]:List Keyword).length + (if ([]:List Keyword).isEmpty then 0 else 1)<30))=true:=by rfl)
  (hline:(p.endLine==pos.line)=true:=by rfl) (hs:starEach [e] X.env=(false,eval e X.env)::starEach [] X.env:=by rfl):
  SE X Wx m (.Call (.Attribute o "pop" p) [e] [] pos) (xZ f g):=by
 refine cD (BR xbS xd0 xd1 zcg ho (pF he rY hs) hbase hfew hline hs rfl) ?_;k_go;unfold xZ at e;by_in
 ·cases d<;>simp only[reduceCtorEq]at e
  rename_i j;kjx_on
  rotate_left
  ·cases e
  rename_i ds0 em0;k_acc1;have k1:=k.next l1 h1
  kpa_ne;obtain⟨vs0,ev0,_⟩:=h1.cell j _ em0;refine⟨.inl ⟨rfl,vs0,.inl (.inl ev0)⟩,?_⟩;rcases cA e with⟨y,M2,e2,e⟩ |⟨c,n,e2,rfl⟩
  ·kjx_on
   ·rename_i ds i em;kjx_on
    ·rename_i z es ep;cases e;refine aX k1 e2 fun P2 v2 H2 l2 h2 i2=>?_;have ev2:v2=.int i:=i2;subst ev2;obtain⟨vs,ev,is⟩:=h2.cell j _ em;unfold su at ep;split at ep
     rotate_left
     ·cases ep
     rename_i hb;split at ep
     rotate_left
     ·cases ep
     rename_i t et;rw[xaj]at ep;obtain⟨z',ez,ep⟩:=ep;cases ep;obtain⟨v,evt,iv⟩:=is.get ez;have jl2:j<P2.n:=xal jl l2.n;have eio:P2.io j=P1.io j:=l2.io j jl;have lc:Lt P2 H2 P2 (upd H2 (P2.io j) (.lst (vs.eraseIdx t))):=uc (h2.bd j jl2) ev Br;obtain⟨l3,l3e,h3⟩:=h2.set (c':=.lst (ds.eraseIdx t)) (o':=.lst (vs.eraseIdx t)) em ⟨_,cu,aC.erase t (aC.lt lc is)⟩;rw[eio]at l3 l3e h3 ev;refine⟨P1.io j,vs,i,t,v,rfl,rfl,ev,by lia,by lia,by rw[is.len];exact et,evt,?_⟩;exact q P2 v _ (l1.trans (l2.trans l3e)) h3 (cL.of h3 (Is.lt l3 iv))
    ·cases e
   ·cases e
  ·exact aX k1 e2 q
 ·tb_src
noncomputable def cX (f:E):E:=fun env M=>bnd (f env M) fun d M1=>match d with
  | .ref j => (match M1[j]? with
    | some (.lst ds) => (match ds[ds.length - 1]? with
      |some z=>some (.v z,M1.set j (.lst ds.dropLast))
      |none=>none)
    |_=>none)
  |_=>none
theorem aC.dropLast {K:Fgx}{P:Pl}{H:Hp}{ds:List D}{vs:List V}(h:aC K P H ds vs):aC K P H ds.dropLast vs.dropLast:=by
 rw[xd2,xd2,h.len];exact h.take _
def Gj (ho:SE X Wx .val o f)(hbase:attributeBase o "pop" X.env (eval o X.env)=eval o X.env:=by rfl)(hline:(p.endLine==pos.line)=true:=by rfl):
  SE X Wx m (.Call (.Attribute o "pop" p) [] [] pos) (cX f):=by
 refine cD (zeM xbS xd0 xd1 zeU ho hbase hline) ?_;k_go;unfold cX at e;by_in
 ·cases d<;>simp only[reduceCtorEq]at e
  rename_i j;kjx_on
  rotate_left
  ·cases e
  rename_i ds em;kjx_on
  rotate_left
  ·cases e
  rename_i z ez;cases e;k_acc1;kpa_ne;obtain⟨vs,ev,is⟩:=h1.cell j _ em;obtain⟨v,evt,iv⟩:=is.get ez;have lc:Lt P1 H1 P1 (upd H1 (P1.io j) (.lst vs.dropLast)):=uc (h1.bd j jl) ev Br;obtain⟨l3,l3e,h3⟩:=h1.set (c':=.lst ds.dropLast) (o':=.lst vs.dropLast) em ⟨_,cu,(aC.lt lc is).dropLast⟩;refine⟨.inl ⟨rfl,vs,.inl (.inl ev)⟩,P1.io j,vs,v,rfl,rfl,ev,by rw[is.len];exact evt,?_⟩;exact q P1 v _ (l1.trans l3e) h3 (cL.of h3 (Is.lt l3 iv))
 ·tb_src
end
section
variable {X:Cx}{Wx:XW}{m:Mode}{pos:Pos}
inductive ResP where
 |v (ps:List (D×D)) |x (c:Str) (n:Int)
noncomputable def fU (M:Mm) (d:D):String:=match d with
  | .ref k => (match M[k]? with
    |some (.lst _)=>"list"
    |some (.dct _)=>"dict"
    |_=>"")
  |d=>Dk d
noncomputable def sO (tb:String->String->Option Bool) (T:String) (f:E):E:=fun env M=>bnd (f env M) fun d M1=>if fU M1 d="" then none else(tb (fU M1 d) T).map fun b=>(.v (.bl b),M1)
theorem YQ:dB X (.builtin "isinstance") (fun xs H Q=>∃(x:V) (T:String) (d:D) (P:Pl) (M:Mm) (b:Bool),xs=[x,.ty T]/\Hk X.K X.mg P H M/\dD X.K P H d x/\fU M d≠""/\PySem.W.kitOne X.K (.type (fU M d)) (.type T)=some b/\Q (.bl b) H):=by
  kj_one;obtain⟨x,T,d,P,M,b,rfl,hk,i,ne,e,q⟩:=h;have old:fU M d=Dk (vw M d)->wpAny (model X.prog X.w) X.A (call (.builtin "isinstance") us) (EP X pins σ Q) X.xe s:=fun et=>by
    rw[et]at ne e;exact YM pins s σ H _ us Q I r ⟨x,T,vw M d,P,b,rfl,dD.vw hk i,ne,e,q⟩
  cases d with
  |ref k=>
    cases em:M[k]? with
    |none=>simp[fU,em]at ne
    |some c=>
      cases c with
      |lst ds=>exact old (by simp[fU,vw,em,Dk])
      |obj c fs=>simp[fU,em]at ne
      |dcf kvs=>simp[fU,em]at ne
      |dtf kvs=>simp[fU,em]at ne
      |fn i caps=>simp[fU,em]at ne
      |tpc ds=>simp[fU,em]at ne
      |tbl nm i=>simp[fU,em]at ne
      |dct kvs=>
        obtain⟨u,w',rfl,rx,rT⟩:=vals2 r;cases rT;obtain⟨kl,rfl⟩:k<P.n/\x=.ref (P.io k):=i;cases rx;obtain⟨vs,ev,_⟩:=hk.cell k _ em;obtain⟨_,_,vs',_,o,es,ep,h1,h2,_⟩:=I.hok _ _ ev;simp only[fU,em]at e;exact xa3 xdA I.kIn ⟨o,h1,h2.1⟩ e (fun z=>nomatch z) fun tk=>⟨.bl b,H,I.tok _,rfl,q⟩
      |dtc kvs=>simp[fU,em]at ne
  |non=>exact old rfl
  |bl _=>exact old rfl
  |int _=>exact old rfl
  |str _=>exact old rfl
  |tup _=>exact old rfl
  |lst _=>exact old rfl
def zcK (ht:∀t b,tb t T=some b->PySem.W.kitOne X.K (.type t) (.type T)=some b)(he:SE X Wx .bor e f)(hg:Gl X "isinstance")(hm:X.mg "isinstance"=none)(hg':Gl X (Str.ofString T))(hm':X.mg (Str.ofString T)=none)(hT:bootBuiltins (Str.ofString T)=some (.type T))
  (n1:Str.ofString T≠"__name__":=by x_go) (n2:(Str.ofString T==("__debug__":Str))=false:=by x_go) (hs:starEach [e,.Name (Str.ofString T) p'] X.env=(false,eval e X.env)::starEach [.Name (Str.ofString T) p'] X.env:=by rfl):
  SE X Wx m (.Call (.Name "isinstance" p) [e,.Name (Str.ofString T) p'] [] pos) (sO tb T f):=by
 have pT:PE X (.Name (Str.ofString T) p') (tC (.ty T)):=zcL hg' hm' hT rfl n1 n2;refine cD (La YQ hg hm boot_isinstance (pF he (pF pT rY) hs) (by x_go) (by x_go) hs rfl) ?_;k_go;unfold sO at e;by_in
 ·kjx_on
  ·cases e
  ·rename_i hne;rw[xaj]at e;obtain⟨b,eb,e⟩:=e;cases e;exact aX k e1 fun P1 v1 H1 l1 h1 i1=>⟨v1,T,d,P1,_,b,rfl,h1,i1,hne,ht _ _ eb,q P1 _ H1 l1 h1 (cL.of h1 (show Is _ _ _ (.bl b) _ from rfl))⟩
 ·tb_src
end
section
variable {X:Cx}{Wx:XW}{m:Mode}{pos:Pos}
noncomputable def Pa:D->Option Str
 |.str z=>if z.length<=sizeLine then some z else none
 |.int i=>if i.natAbs.log2<1920 then some (toString i) else none
 |_=>none
abbrev EJ:=Str->Env->Mm->O
noncomputable def rK:EJ:=fun out _ M=>if out.length<=sizeLine then some (.v (.str out),M) else none
noncomputable def rJ (z:Str) (ps:EJ):EJ:=fun out env M=>if (out ++ z).length<=sizeLine then ps (out ++ z) env M else none
noncomputable def w6 (f:E) (ps:EJ):EJ:=fun out env M=>bnd (f env M) fun d M1=>match Pa d with
 |some y=>if (out ++ y).length<=sizeLine then ps (out ++ y) env M1 else none
 |none=>none
noncomputable def tJ (K:Fgx) (mg:Mgx) (Wx:XW) (ps:EJ):TJ:=fun out st H Q=>tE K mg Wx .val (ps out) st H Q
def SJ (X:Cx)(Wx:XW)(vs:List Expr)(ps:EJ):Prop:=PJ X vs (tJ X.K X.mg Wx ps)
def Fv (h:PJ X vs t)(w:∀out σ H Q,t' out σ H Q->t out σ H Q):PJ X vs t':=fun pins s σ H out Q I hw=>h pins s σ H out Q I (w out σ H Q hw)
def W_:SJ X Wx [] rK:=by
 refine Fv zeR ?_;rintro out st H Q ⟨P0,H0,P,Os,env,M,r,M',k,e,q⟩;unfold rK at e;kjx_on
 ·rename_i hl;cases e;exact⟨hl,q P _ H (LtE.refl P H) k.hk rfl⟩
 ·cases e
def W9 (h:SJ X Wx vs ps)(hz:z.length<=sizeLine:=by x_go):SJ X Wx (.Constant (.str z) n pos::vs) (rJ z ps):=by
 refine Fv (zfp h hz) ?_;rintro out st H Q ⟨P0,H0,P,Os,env,M,r,M',k,e,q⟩;unfold rJ at e;kjx_on
 ·rename_i hl;exact⟨hl,P0,H0,P,Os,env,M,r,M',k,e,q⟩
 ·cases e
def zcU {K:Fgx}{P:Pl}{H:Hp}{d:D}{v:V}{y:Str}(h:Pa d=some y)(i:Is K P H d v):textV v=some y:=by
 unfold Pa at h;krn_ne
 ·cases i;exact h
 ·cases i;exact h
 ·cases h
def zdD (he:SE X Wx .val e f)(h:SJ X Wx vs ps):SJ X Wx (.FormattedValue e (-1) none pos::vs) (w6 f ps):=by
 refine Fv (zeP he h) ?_;rintro out st H Q ⟨P0,H0,P,Os,env,M,r,M',k,e,q⟩;unfold w6 at e;by_in
 ·kjx_on
  ·rename_i y ey;kjx_on
   ·rename_i hl;exact aX k e1 fun P1 v1 H1 l1 h1 i1=>⟨y,zcU ey i1,hl,P0,H0,P1,Os,env,M1,r,M',k.next l1 h1,e,RQ.imp l1 q⟩
   ·cases e
  ·cases e
 ·tb_src
def sJ (ps:EJ):E:=ps Str.empty
def WW (h:SJ X Wx (v::w::vs) ps):SE X Wx m (.JoinedStr (v::w::vs) pos) (sJ ps):=by
 have h':SE X Wx .val (.JoinedStr (v::w::vs) pos) (sJ ps):=cD (zfj h) fun st H Q z=>z;exact h'.bor
noncomputable def rO (c:E) (b:S):Nat->Env->Mm->OS
  |0,_,_=>none
  |n + 1,env,M=>match c env M with
    | some (.v (.bl true), M1) => (match b env M1 with
      |some (.nx e,M2)=>rO c b n e M2
      |some (.ct e,M2)=>rO c b n e M2
      |some (.bk e,M2)=>some (.nx e,M2)
      |some (.rt d,M2)=>some (.rt d,M2)
      |some (.ex x k,M2)=>some (.ex x k,M2)
      |none=>none)
    |some (.v (.bl false),M1)=>some (.nx env,M1)
    |some (.x x k,M1)=>some (.ex x k,M1)
    |_=>none
def Cw (n:Nat)(c:E)(b:S):S:=fun env M=>rO c b n env M
def zci (n:Nat)(hp:PassesOwn (model X.prog X.w) X.A X.env X.xe)(hc:ST X Wx c t)(hb:SB X Wx body b):SS X Wx (.While c body [] pos) (Cw n t b):=by
  refine gF (zce hp hc hb) ?_;f_tup;refine⟨fun m σ H1=>∃P1 Os1 M1 env1,Lt P H P1 H1/\Ok X.K X.mg P0 H0 P1 Os1 H1 M1 σ env1/\rO t b m env1 M1=some (out,M'),⟨n,P,Os,M,env,Lt.refl _ _,k,e⟩,?_⟩;rintro m σ H1 ⟨P1,Os1,M1,env1,lt,k1,e1⟩
  cases m with
  |zero=>cases e1
  |succ m=>
    simp only[rO]at e1;split at e1
    · rename_i M2 ec;refine fL k1 ec ⟨true,rfl,fun P2 H2 l2 h2=>?_⟩;dsimp only;rw[xad rfl];have k2:=k1.next l2 h2
      have lt2:=lt.trans (l2.lt k1.hk);refine⟨fun σ' H'=>∃P1 Os1 M1 env1,Lt P H P1 H'/\Ok X.K X.mg P0 H0 P1 Os1 H' M1 σ' env1/\rO t b m env1 M1=some (out,M'),fun σ' H' z=>⟨m,xbl m,z⟩,?_⟩;split at e1
      · rename_i e' M3 eb;exact⟨P0,H0,P2,Os1,env1,M2,_,_,k2,eb,fun P' Os2 H2 st2 l2 k3=>⟨P',Os2,_,e',lt2.trans l2,k3,e1⟩⟩
      · rename_i e' M3 eb;exact⟨P0,H0,P2,Os1,env1,M2,_,_,k2,eb,fun P' Os2 H2 st2 l2 k3=>⟨P',Os2,_,e',lt2.trans l2,k3,e1⟩⟩
      · rename_i e' M3 eb;cases e1;exact⟨P0,H0,P2,Os1,env1,M2,_,_,k2,eb,fun P' Os2 H2 st2 l2 k3=>q P' Os2 H2 st2 (lt2.trans l2) k3⟩
      · rename_i d M3 eb;cases e1;exact⟨P0,H0,P2,Os1,env1,M2,_,_,k2,eb,q⟩
      · rename_i x k' M3 eb;cases e1;exact⟨P0,H0,P2,Os1,env1,M2,_,_,k2,eb,q⟩
      · cases e1
    · rename_i M2 ec;cases e1;refine fL k1 ec ⟨false,rfl,fun P2 H2 l2 h2=>?_⟩;dsimp only;rw[xae (by decide)];exact q P2 Os1 H2 σ (lt.trans (l2.lt k1.hk)) (k1.next l2 h2)
    · rename_i x k' M2 ec;cases e1;exact fL k1 ec q
    · cases e1
noncomputable def sU:List Nat->List D->Env->Option Env
 | [],[],env=>some env
 |i::is,d::ds,env=>if i<env.length then sU is ds (env.set i (.val d)) else none
 |_,_,_=>none
def SG (X:Cx)(ts:List Expr)(is:List Nat):Prop:=∃t,zM X ts t/\∀P0 H0 P Os st H M env env' ds vs Q,Ok X.K X.mg P0 H0 P Os H M st env->aC X.K P H ds vs->sU is ds env=some env'->(∀Os' st',Ok X.K X.mg P0 H0 P Os' H M st' env'->Q st' H)->t vs st H Q
def zdJ : SG X [] [] := ⟨_,zdo,fun P0 H0 P Os st H M env env' ds vs Q k is e q=>by
 cases ds with
 |nil=>cases e;exact⟨is,q _ _ k⟩
 |cons d ds=>cases e⟩
def W5 (hN:X.N.Nodup)(hi:X.N[i]? =some x)(hx:Loc X.env.scope x)(hr:SG X ts is)(hf:X.fn x=true\/X.env.scope.names.lookup x=some .local:=by first |exact .inl rfl |exact .inr rfl)
    (hs:(assignEach (.Name x p::ts) X.env).map (·.2)=assign (.Name x p) X.env::(assignEach ts X.env).map (·.2):=by rfl):SG X (.Name x p::ts) (i::is):=by
  obtain⟨t,h1,h2⟩:=hr;refine⟨_,zb1 (Ft hN hi hx hf) h1 hs,fun P0 H0 P Os st H M env env' ds vs Q k is e q=>?_⟩
  cases ds with
  |nil=>cases e
  |cons d ds=>
    obtain⟨v,r,rfl,iv,is⟩:=is;simp only[sU]at e;kjx_on
    · rename_i hl;exact⟨v,r,rfl,h2 _ _ _ _ _ _ _ _ _ _ _ _ (k.asg hl iv) is e q⟩
    · cases e
noncomputable def pR:List D->Option D
 | [.int i]=>some (.int (if i<0 then -i else i))
 |_=>none
def zfk {K:Fgx}:lF K (fun xs H Q=>∃i,xs=[.int i]/\Q (.int (if i<0 then -i else i)) H) pR:=fun P H ds z vs Q h i _ q=>by
 unfold pR at h;krn_ne
 ·kim_at;cases h;cases p;exact⟨_,rfl,q _ H (Same.refl H) rfl⟩
 ·cases h
noncomputable def setAt (M:Mm) (d y x:D):Option Mm:=match d with
  | .ref j => (match y with
    | .int i => (match M[j]? with
      | some (.lst ds) => (match gQ ds.length i with
        |some n=>some (M.set j (.lst (ds.set n x)))
        |none=>none)
      |_=>none)
    |_=>none)
  |_=>none
def zbU (h:setAt M d y x=some M'):∃j i ds n,d=.ref j/\y=.int i/\M[j]? =some (.lst ds)/\gQ ds.length i=some n/\M'=M.set j (.lst (ds.set n x)):=by
 unfold setAt at h;krn_ne
 ·krn_ne
  ·krn_ne
   ·rename_i em;krn_ne
    ·rename_i en;cases h;exact⟨_,_,_,_,rfl,rfl,em,en,rfl⟩
    ·cases h
   ·cases h
  ·cases h
 ·cases h
noncomputable def lu (f g v:E):S:=fun env M=>bR (v env M) fun x M1=>bR (f env M1) fun d M2=>bR (g env M2) fun y M3=>match setAt M3 d y x with
 |some M4=>some (.nx env,M4)
 |none=>none
def Oi (ho:SE X Wx .val o f)(hi:SE X Wx .val i g)(he:SE X Wx .val e v)
  (ha : ∀ v, assign (.Subscript o i pos') X.env v = (do
   let ov <-holding [v] (eval o X.env)
   let iv <-holding [v,ov] (eval i X.env)
   standAt pos'
   holding [v,ov,iv] (setItem ov iv v)
   release [v,ov,iv] []):=by intro _;rfl)
  (hs:swapsWithSole [.Subscript o i pos'] e pos.line X.env=pure false:=by rfl) (hw:swappedStores [.Subscript o i pos'] e X.env=pure none:=by rfl) (h1:(assignEach [.Subscript o i pos'] X.env).map (·.2)=[assign (.Subscript o i pos') X.env]:=by rfl):
  SS X Wx (.Assign [.Subscript o i pos'] e pos) (lu f g v):=by
 refine gF (zei he (zd3 ho hi set_list ha) hs hw h1) ?_;f_tup;unfold lu at e;rcases gw e with⟨x,M1,e1,e⟩ |⟨c,n,e1,rfl⟩
 ·k_acc1;have k1:=k.next l1 h1
  rcases gw e with⟨d,M2,e2,e⟩ |⟨c,n,e2,rfl⟩
  ·refine aX k1 e2 fun P2 v2 H2 l2 h2 i2=>?_;have k2:=k1.next l2 h2
   rcases gw e with⟨y,M3,e3,e⟩ |⟨c,n,e3,rfl⟩
   ·refine aX k2 e3 fun P3 v3 H3 l3 h3 i3=>?_;kjx_on
    ·rename_i M4 ea;cases e;obtain⟨j,i,ds,n,rfl,rfl,em,en,rfl⟩:=zbU ea;cases i3;obtain⟨jl,rfl⟩:j<P2.n/\v2=.ref (P2.io j):=i2;obtain⟨vs,ev,is⟩:=h3.cell j _ em;have jl3:j<P3.n:=xal jl l3.n;have eio:P3.io j=P2.io j:=l3.io j jl;have ix:=Is.lt ((l2.lt h1).trans (l3.lt h2)) i1;have lc:Lt P3 H3 P3 (upd H3 (P3.io j) (.lst (vs.set n v1))):=uc (h3.bd j jl3) ev Br;obtain⟨l4,l4e,h4⟩:=h3.set (c':=.lst (ds.set n x)) (o':=.lst (vs.set n v1)) em ⟨_,cu,aC.set n (aC.lt lc is) (Is.lt lc ix)⟩;rw[eio]at l4 l4e h4 ev;refine⟨_,vs,i,n,rfl,rfl,ev,by rw[is.len];exact en,?_⟩;exact q _ _ _ _ ((l1.lt k.hk).trans ((l2.lt h1).trans ((l3.lt h2).trans l4))) ((k2.next l3 h3).next l4e h4)
    ·cases e
   ·exact aX k2 e3 q
  ·exact aX k1 e2 q
 ·tb_src
end
end E3
namespace E3
open PySem L2
section
variable {env:Env}{M M1 M2:Mm}{f g o v:E}{d e x:D}{i:Int}{k:Nat}{ds es:List D}{s t:S}{z:Str}{fa:EA}{b:Bool}
noncomputable def Jb:Option (List D×Mm)->O
 |some (ys,M)=>some (.v (.lst ys),M)
 |none=>none
noncomputable def QX (q e:E) (env:Env):Option (ResA×Mm)->O
 |some (.v ds,M1)=>Jb (dw q e env ds [] M1)
 |some (.x c n,M1)=>some (.x c n,M1)
 |none=>none
theorem zeL {cs:List (Str×Nat)}{q e:E}:fJ cs fa q e env M=QX q e (cj cs env) (fa env M):=rfl
theorem zfn {q e:E}:QX q e env (some (.v ds,M))=Jb (dw q e env ds [] M):=rfl
theorem zcV:Jb (some (ds,M))=some (.v (.lst ds),M):=rfl
theorem Ed {q e : E} (F : D -> Option D) : ∀ (ds acc : List D), (∀d∈ds,match F d with
    |some y=>q (.val d::env) M=some (.v (.bl true),M)/\e (.val d::env) M=some (.v y,M)
    |none=>q (.val d::env) M=some (.v (.bl false),M))->acc.length + ds.length<sizeLine->dw q e env ds acc M=some (acc ++ ds.filterMap F,M)
  | [],acc,_,_=>by simp[dw]
  |d::ds,acc,h,hl=>by
    have hd:=h d (by simp);have hr:∀acc',acc'.length + ds.length<sizeLine->dw q e env ds acc' M=some (acc' ++ ds.filterMap F,M):=fun acc' hl'=>Ed F ds acc' (fun d' hd'=>h d' (by simp[hd'])) hl';rw[xaw]at hl
    cases hF:F d with
    |none=>
      rw[hF]at hd;simp only[dw,hd,xbp,hF];exact hr acc (by lia)
    |some y=>
      rw[hF]at hd;simp only[dw,hd.1,hd.2,xbp,hF];rw[xad (by lia),hr (acc ++ [y]) (by rw[xag,xaJ];lia)]
      simp
theorem comp_map {e:E}(F:D->D)(ds:List D)(h:∀d∈ds,e (.val d::env) M=some (.v (F d),M))(hl:ds.length<sizeLine):dw (ak (.bl true)) e env ds [] M=some (ds.map F,M):=by
 rw[Ed (fun d=>some (F d)) ds [] (fun d hd=>⟨rfl,h d hd⟩) (by simpa using hl),List.filterMap_eq_map'];rfl
def Zc {q e:E}(Q:Option (List D×Mm)->Prop)(J:Nat->List D->Mm->Prop){ds:List D}(h0:J 0 [] M)(hb:∀k acc M,J k acc M->acc.length<=k)(hl:ds.length<sizeLine)
    (hs:∀(k:Nat) d acc M,ds[k]? =some d->J k acc M->∃b M1,q (.val d::env) M=some (.v (.bl b),M1)/\if b=true then ∃y M2,e (.val d::env) M1=some (.v y,M2)/\J (k + 1) (acc ++ [y]) M2 else J (k + 1) acc M1)
    (hd:∀acc M,J ds.length acc M->Q (some (acc,M))):Q (dw q e env ds [] M):=by
  have key:∀(m k:Nat) (acc:List D) (M:Mm),m + k=ds.length->J k acc M->Q (dw q e env (ds.drop k) acc M):=by
    intro m
    induction m with
    |zero=>
      intro k acc M hk hJ;have e:k=ds.length:=by lia
      subst e;rw[xch];exact hd acc M hJ
    |succ m ih=>
      intro k acc M hk hJ;have hlt:k<ds.length:=by lia
      obtain⟨b,M1,h1,h2⟩:=hs k ds[k] acc M (xab hlt) hJ;have:=hb k acc M hJ;rw[xaV hlt]
      cases b with
      |false=>simp only[dw,h1];exact ih (k + 1) acc M1 (by lia) h2
      |true=>
        obtain⟨y,M2,h3,h4⟩:=h2;simp only[dw,h1,h3];rw[xad (by lia)];exact ih (k + 1) (acc ++ [y]) M2 (by lia) h4
  have:=key ds.length 0 [] M (by lia) h0
  rwa [xcw]at this
theorem zed:cj [] env=[]:=rfl
theorem ze9 {x:Str}{n:Nat}{cs:List (Str×Nat)}:cj ((x,n)::cs) env=(env[n]?).getD .un::cj cs env:=rfl
noncomputable def wZ (tb:String->String->Option Bool) (T:String) (M:Mm) (ty:String):O:=if ty="" then none else(tb ty T).map fun b=>(.v (.bl b),M)
noncomputable def Aw (tb:String->String->Option Bool) (T:String) (r:O):O:=bnd r fun d M=>wZ tb T M (fU M d)
theorem zgj {tb:String->String->Option Bool}{T:String}:sO tb T f env M=Aw tb T (f env M):=rfl
theorem zfT {tb:String->String->Option Bool}{T:String}:Aw tb T (some (.v d,M))=wZ tb T M (fU M d):=rfl
theorem zeC:fU M (.lst ds)="list":=rfl
theorem zfU {tb:String->String->Option Bool}{T:String}:wZ tb T M "list"=(tb "list" T).map fun b=>(.v (.bl b),M):=rfl
def zgR {ds0:List D}(h1:f env M=some (.v (.ref k),M1))(h2:M1[k]? =some (.lst ds0))(h3:g env M1=some (.v (.int 0),M2))(h4:M2[k]? =some (.lst (d::ds))):xZ f g env M=some (.v d,M2.set k (.lst ds)):=by
 have e:su 0 (d::ds)=some (d,ds):=by
  unfold su;rw[xad (by decide)];have:seqIndex? 0 (d::ds).length=some 0:=by simp[seqIndex?]
  rw[this];rfl
 simp only[xZ,bnd,h1,h2,h3,h4,e]
def zeh (h1:f env M=some (.v (.ref k),M1))(h2:M1[k]? =some (.lst (ds ++ [d]))):cX f env M=some (.v d,M1.set k (.lst ds)):=by
 have e:(ds ++ [d])[(ds ++ [d]).length - 1]? =some d:=by simp
 simp only[cX,bnd,h1,h2,e]
 simp
def zcw {c:E}{b:S}(Q:OS->Prop)(J:Nat->Env->Mm->Prop){n:Nat}(h0:∃m,m<n/\J m env M)
    (hs:∀m env M,J m env M->∃y M1,c env M=some (.v (.bl y),M1)/\if y=true then Step (fun e M=>∃m',m'<m/\J m' e M) Q (b env M1) else Q (some (.nx env,M1))):Q (Cw n c b env M):=by
  have key:∀(n m:Nat) (env:Env) (M:Mm),m<n->J m env M->Q (rO c b n env M):=by
    intro n
    induction n with
    |zero=>intro m env M h;exact absurd h (xc7 _)
    |succ n ih=>
      intro m env M hm hJ;obtain⟨y,M1,h1,h2⟩:=hs m env M hJ
      cases y with
      |false=>simp only[rO,h1];exact h2
      |true=>
        simp only[rO,h1];rw[xad rfl]at h2
        cases eb:b env M1 with
        |none=>rw[eb]at h2;exact h2.elim
        |some o=>
          rw[eb]at h2;obtain⟨o,M'⟩:=o
          cases o with
          |nx e'=>obtain⟨m',h3,h4⟩:=h2;exact ih m' e' M' (by lia) h4
          |ct e'=>obtain⟨m',h3,h4⟩:=h2;exact ih m' e' M' (by lia) h4
          |bk e'=>exact h2
          |rt d=>exact h2
          |ex c n=>exact h2
  obtain⟨m,h1,h2⟩:=h0;exact key n m env M h1 h2
def JN {M3:Mm}{j:Nat}(h0:v env M=some (.v x,M1))(h1:f env M1=some (.v (.ref k),M2))(h2:g env M2=some (.v (.int i),M3))(h3:M3[k]? =some (.lst ds))(h4:gQ ds.length i=some j):lu f g v env M=some (.nx env,M3.set k (.lst (ds.set j x))):=by
 simp only[lu,bR,setAt,h0,h1,h2,h3,h4]
theorem zf7:pR [.int i]=some (.int (if i<0 then -i else i)):=rfl
end
end E3
namespace L2
open PySem PySem.Spec PyProof.Rows
end L2
namespace E3
open PySem PySem.Spec PyProof.Rows L2
section
variable {es:List Expr}{env:PySem.Env}{pos:Pos}
theorem bU:starEach (.Constant c k pos::es) env=(false,eval (.Constant c k pos) env)::starEach es env:=by rfl
theorem aN:starEach (.Name x pos::es) env=(false,eval (.Name x pos) env)::starEach es env:=by rfl
theorem Gx:starEach (.BinOp a o b pos::es) env=(false,eval (.BinOp a o b pos) env)::starEach es env:=by rfl
theorem za6:starEach (.UnaryOp o a pos::es) env=(false,eval (.UnaryOp o a pos) env)::starEach es env:=by rfl
theorem kj:starEach (.Call f as ks pos::es) env=(false,eval (.Call f as ks pos) env)::starEach es env:=by rfl
theorem Oj:starEach (.Attribute a x pos::es) env=(false,eval (.Attribute a x pos) env)::starEach es env:=by rfl
theorem d8:starEach (.Subscript a b pos::es) env=(false,eval (.Subscript a b pos) env)::starEach es env:=by rfl
theorem sW:starEach (.Tuple as k pos::es) env=(false,eval (.Tuple as k pos) env)::starEach es env:=by rfl
theorem Xf:starEach (.List as pos::es) env=(false,eval (.List as pos) env)::starEach es env:=by rfl
theorem Xg:starEach (.ListComp a gs sc pos::es) env=(false,eval (.ListComp a gs sc pos) env)::starEach es env:=by rfl
end
end E3
namespace L2
open PySem PySem.Spec PyProof.Rows
def zbg {P:Program}{w:World}{K:Fgx}{mg:Mgx}{base:Heap}{N:List Str}{qual:Str}{scope:Scope}{f:Addr}{cd:Value}{A:Around}{outer:List PySem.Env}{E:XK}{s:Shared}{H H1:Hp}{s1:Shared}{pins:Pnx}{σ:St}{a C T:Addr}{dx:Option Addr}
  (c:Caught (cU (lC P w) P w K mg base N qual scope f cd A outer s H E) pins σ H1 s1 a C dx T) (hE:E (.ref C) dx H1):(cU (lC P w) P w K mg base N qual scope f cd A outer s H E).xe (.ref a) s1:=by
 show wpAny _ _ (leaving _ _) _ _ _;unfold leaving;refine xaa (Caught.note c rfl rfl fun s' T' c'=>?_);have I:=c'.inv;have hL:s.heap.get? (envOfC qual scope s.heap.objs.size f cd).locals=none:=xcY I.ok.above;have u1:Un (s.heap.objs.size::frs outer) [] H H1 s.heap s'.heap:=Un.mono (fs':=s.heap.objs.size::frs outer) (ex':=[]) I.base (fun b hb=>xat _ hb) fun b hb=>hb;exact⟨a,C,dx,H1,T',rfl,I.os,I.bare,u1.less hL,I.hok,c'.obj,c'.hT,c'.t1,c'.fl,hE⟩
end L2
namespace E3
open PySem PySem.Spec PyProof.Rows L2
structure XPass (X:Cx)(Wx:XW):Prop where
 xc:∀pins σ H s a C dx T c n P0 H0 P M,Caught X pins σ H s a C dx T->LtE P0 H0 P H->Hk X.K X.mg P H M->X.mg c=some (.ref C)->XN H n dx->Wx P0 H0 M c n->X.xe (.ref a) s
section
variable {X:Cx}{Wx:XW}{m:Mode}{pos:Pos}
def SX.se (F:XPass X Wx)(h:SX X e f):SE X Wx m e f:=by
  have h':SE X Wx .val e f:=by
    let Ex:L2.St->XK:=fun σ Cv dx H'=>∀pins s' a C T,Cv=.ref C->Caught X pins σ H' s' a C dx T->X.xe (.ref a) s'
    refine cD (h Ex fun pins σ H s e s' I z=>?_) ?_
    · obtain⟨a,C,dx,H',T,rfl,K1,hE⟩:=Y7 I z;exact hE pins s' a C T rfl K1
    · k_go;refine⟨P0,H0,P,Os,env,M,r,M',k,e,?_⟩
      cases r with
      |v d=>exact q
      |x c n=>
        intro P' H' C dx l hk hm xn pins s' a C' T eC ca;cases eC;exact F.xc pins st H' s' a C dx T c n P0 H0 P' M' ca (k.base.trans l) hk hm xn q
  exact h'.bor
end
section
variable {P:Program}{w:World}{K:Fgx}{mg:Mgx}{base:Heap}{k:Nat}{x qual:Str}{st:Stmt}{f:Addr}{fd:FuncData}{N ps:List Str}{b:S}
def ZW (F:FunD K x qual st f fd)(S:FnScope N ps (aL st))(hp:ps.length<=N.length)
    (hb:∀cdv A outer s H E Wx,Room k (A.deeper (envOfC qual (aL st) s.heap.objs.size f cdv))->XFit (nU P w K mg base N qual st f cdv A outer s H E) Wx->XPass (nU P w K mg base N qual st f cdv A outer s H E) Wx->SB (nU P w K mg base N qual st f cdv A outer s H E) Wx (cB st) b):FnOk P w K mg base (lC P w) (k + 1) f fd ps (CV K mg ps.length (bA N.length b)):=by
  obtain ⟨oc, od, dV, kV, doc, pm, an, cdv, ct, osl, rfl, lk, hcd⟩ := F.ex;refine RV lk hcd S (fun vs H Q E h => h.1) fun A outer s H vs Q E hr h => ?_;obtain ⟨hl, Pl, M, ds, r, M', hk, is, e, q⟩ := h;have XF : XFit (nU P w K mg base N qual st f cdv A outer s H E) (fun P0 H0 M1 c n => P0 = Pl /\ H0 = H /\ M1 = M' /\ r = .x c n) := ⟨fun pins σ H1 s1 a C dx c n P0 H0 P1 M1 I ea nb n0 l h m xn ⟨e1,e2,e3,e4⟩=>by
    subst e1 e2 e3 e4;have sure:∀b,upd H1 a (xo a C dx false) b=none->H1 b=none:=fun b z=>by
      by_cases hb:b=a
      · subst hb;rw[cu]at z;cases z
      · rw[aZ hb]at z;exact z
    have l1 : LtE P0 H0 P1 (upd H1 a (xo a C dx false)) := ⟨l.n,l.io,l.bd,l.bm,fun b o eb nb=>by
      rw[aZ (fun z=>by rw[z,n0]at eb;cases eb)];exact l.keep b o eb nb,fun b z=>l.sure b (sure b z),l.nw⟩
    have h1 := h.away (H' := upd H1 a (xo a C dx false)) (fun b o eb nx=>by
      rw[aZ (fun z=>by rw[z,ea]at eb;cases eb;exact nx _ rfl)];exact eb) sure
    refine zcj I ea (q P1 _ C dx l1 h1 m ?_)
    cases dx with
    |none=>exact xn
    |some d=>
      obtain⟨fs,ed,el⟩:=xn;exact⟨fs,by rw[aZ (fun z=>by rw[z,ea]at ed;cases ed)];exact ed,el⟩⟩
  have XP : XPass (nU P w K mg base N qual st f cdv A outer s H E) (fun P0 H0 M1 c n => P0 = Pl /\ H0 = H /\ M1 = M' /\ r = .x c n) := ⟨fun pins σ H1 s1 a C dx T c n P0 H0 P1 M1 ca l h m xn ⟨e1,e2,e3,e4⟩=>by
    subst e1 e2 e3 e4;exact zbg ca (q P1 _ C dx l h m xn)⟩
  refine⟨_,hb cdv A outer s H E _ hr XF XP,?_⟩;unfold bA cC at e;have st0:=Om (N:=N) hk (by lia) is;kjx_on
  · kri_at
  · kfm_hd
  · rename_i c n M2 eb;cases e;exact⟨Pl,H,Pl,_,_,M,_,_,st0,eb,⟨rfl,rfl,rfl,rfl⟩⟩
  · cases e
end
section
variable {K:Fgx}{P:Pl}{H:Hp}
noncomputable def tX:List D->Option (List Int)
 | []=>some []
 |.int i::ds=>(tX ds).map (i:: ·)
 |_::_=>none
theorem JT:∀{ds:List D} {is:List Int} {vs:List V},tX ds=some is->aC K P H ds vs->vs=is.map V.int
  | [],_,_,e,h=>by cases e;exact h
  |d::ds,is,vs,e,h=>by
    obtain⟨v,r,rfl,i,h⟩:=h
    cases d with
    |int n=>
      simp only[tX,xaj]at e;obtain⟨is',e',rfl⟩:=e;cases i;rw[JT e' h];rfl
    |_=>simp[tX]at e
theorem ints_map:∀(is:List Int),tX (is.map D.int)=some is
 | []=>rfl
 |i::is=>by simp[tX,ints_map is]
noncomputable def zY:List D->Option (List Bool)
 | []=>some []
 |.bl b::ds=>(zY ds).map (b:: ·)
 |_::_=>none
theorem Qs:∀{ds:List D} {bs:List Bool} {vs:List V},zY ds=some bs->aC K P H ds vs->vs=bs.map V.bl
  | [],_,_,e,h=>by cases e;exact h
  |d::ds,bs,vs,e,h=>by
    obtain⟨v,r,rfl,i,h⟩:=h
    cases d with
    |bl n=>
      simp only[zY,xaj]at e;obtain⟨bs',e',rfl⟩:=e;cases i;rw[Qs e' h];rfl
    |_=>simp[zY]at e
noncomputable def mQ:List D->Option D
 | [.int i]=>if i.natAbs.log2<1920 then some (.str (toString i)) else none
 |_=>none
def zdA:lF K (fun xs H Q=>∃i,xs=[.int i]/\i.natAbs.log2<1920/\Q (.str (toString i)) H) mQ:=fun P H ds z vs Q h i _ q=>by
 unfold mQ at h;krn_ne
 ·krn_ne
  ·rename_i hl;kim_at;cases h;cases p;exact⟨_,rfl,hl,q _ H (Same.refl H) rfl⟩
  ·cases h
 ·cases h
noncomputable def eF:List D->Option D
 | [.str z]=>if z.length<=640 then(intText? z).map .int else none
 |_=>none
def Le:lF K (fun xs H Q=>∃z n,xs=[.str z]/\intText? z=some n/\z.length<=640/\Q (.int n) H) eF:=fun P H ds z vs Q h i _ q=>by
 unfold eF at h;krn_ne
 ·krn_ne
  ·rename_i hl;rw[xaj]at h;obtain⟨n,en,rfl⟩:=h;kim_at;cases p;exact⟨_,n,rfl,en,hl,q _ H (Same.refl H) rfl⟩
  ·cases h
 ·cases h
noncomputable def mR:List D->Option D
 | [.lst ds]=>(tX ds).map fun is=>.int is.sum
 |_=>none
def zeO:lF K (fun xs H Q=>∃(p:Addr) (is:List Int),xs=[.ref p]/\b_ K H p (is.map V.int)/\Q (.int is.sum) H) mR:=fun P H ds z vs Q h i _ q=>by
 unfold mR at h;krn_ne
 ·rw[xaj]at h;obtain⟨is,ei,rfl⟩:=h;kim_at;obtain⟨a,us,rfl,r,s⟩:=p;rw[JT ei s]at r;exact⟨a,is,rfl,r,q _ H (Same.refl H) rfl⟩
 ·cases h
noncomputable def wA:List D->Option D
 | [.lst ds]=>(zY ds).map fun bs=>.bl (bs.any id)
 |_=>none
def zeH:lF K (fun xs H Q=>∃(p:Addr) (bs:List Bool),xs=[.ref p]/\b_ K H p (bs.map V.bl)/\Q (.bl (bs.any id)) H) wA:=fun P H ds z vs Q h i _ q=>by
 unfold wA at h;krn_ne
 ·rw[xaj]at h;obtain⟨is,ei,rfl⟩:=h;kim_at;obtain⟨a,us,rfl,r,s⟩:=p;rw[Qs ei s]at r;exact⟨a,is,rfl,r,q _ H (Same.refl H) rfl⟩
 ·cases h
noncomputable def wC:List D->Option D
 | [.lst ds]=>some (.tup ds)
 | [.tup ds]=>some (.tup ds)
 |_=>none
def zeg:lF K (fun xs H Q=>∃p ys,xs=[.ref p]/\((b_ K H p ys/\∀l,H l=none->Q (.ref l) (upd H l (.tup ys)))\/(cI K H p ys/\Q (.ref p) H))) wC:=fun P H ds z vs Q h i _ q=>by
 unfold wC at h;krn_ne
 ·kim_at;cases h;obtain⟨a,us,rfl,r,s⟩:=p;exact⟨a,us,rfl,.inl ⟨r,KY s q⟩⟩
 ·kim_at;cases h;obtain⟨a,us,rfl,r,s⟩:=p;exact⟨a,us,rfl,.inr ⟨r,q _ H (Same.refl H) ⟨a,us,rfl,r,s⟩⟩⟩
 ·cases h
end
section
variable {X:Cx}{Wx:XW}{m:Mode}{pos:Pos}
def Hi (K:Fgx)(r:V->List V->Hp->VK->Prop)(o:Str->List D->Option D):Prop:=∀(P:Pl) (H:Hp) (y:Str) (ds:List D) (z:D) (vs:List V) (Q:VK),o y ds=some z->pL K P H ds vs->(∀p,H p=none->¬ P.bd p)->(∀u H',Same H H'->Is K P H' z u->Q u H')->r (.str y) vs H Q
noncomputable def Ga (o:Str->List D->Option D) (f:E) (fs:EA):E:=fun env M=>bnd (f env M) fun d M1=>match d with
 |.str y=>cO (fs env M1) fun ds M2=>(o y (ds.map (vw M2))).map fun z=>(.v z,M2)
 |_=>none
def W2 {a e:Expr}{es:List Expr}{name:Str}{id:String}{r:V->List V->Hp->VK->Prop}{o:Str->List D->Option D}{f:E}{fs:EA}{p:Pos}(slot:PySem.Slot "str" name id)(hty:typeOf (.builtin id)=pure (.type "method_descriptor"))(hm:zK X id r)(po:Hi X.K r o)(ha:SE X Wx .val a f)(hs:SA X Wx .bor (e::es) fs)
  (hbase:attributeBase a name X.env (eval a X.env)=eval a X.env:=by rfl)
  (hfew:((backTo pos (starEach (e::es) X.env)).all (fun x=> !x.1) && (backToKw pos (keywordEach [] X.env)).all (fun x=>x.1.isSome) && decide ((e::es).length + ([]:List Keyword).length + (if ([]:List Keyword).isEmpty then 0 else 1)<30))=true:=by rfl)
  (hline:(p.endLine==pos.line)=true:=by rfl) (hst:starEach (e::es) X.env=(false,eval e X.env)::starEach es X.env:=by rfl) (hplain:(backTo pos (starEach es X.env)).any (·.1)=false:=by rfl):
  SE X Wx m (.Call (.Attribute a name p) (e::es) [] pos) (Ga o f fs):=by
 refine cD (BR PySem.F.plainAttrs_str slot hty hm ha hs hbase hfew hline hst hplain) ?_;k_go;unfold Ga at e;by_in
 ·cases d<;>simp only[reduceCtorEq]at e
  rename_i y;k_acc1;have k1:=k.next l1 h1
  cases i1;refine⟨rfl,?_⟩;rcases mU e with⟨ds,M2,e2,e⟩ |⟨c,n,e2,rfl⟩
  ·kit_at;exact⟨P0,H0,P1,Os,env,M1,_,_,k1,e2,fun P2 vs H2 l2 h2 i2=>po P2 H2 y _ z vs Q ez (cM.w h2 i2) h2.new fun u H' s i=>q P2 u H' (l1.trans (l2.trans (LtE.same s))) (h2.same s) (cL.of (h2.same s) i)⟩
  ·exact⟨P0,H0,P1,Os,env,M1,_,_,k1,e2,q⟩
 ·tb_src
noncomputable def O5 (z:Str):List D->Option D
 | [.str y]=>some (.bl (Txt.startswith z y))
 |_=>none
def zbP {K:Fgx}:Hi K Ve O5:=fun P H y ds z vs Q h i _ q=>by
 unfold O5 at h;krn_ne
 ·cases h;kim_at;cases p;exact⟨_,_,rfl,rfl,q _ H (Same.refl H) rfl⟩
 ·cases h
noncomputable def OJ (z:Str):List D->Option D
 | [.str y]=>if z.length<=sizeLine then some (.str (Txt.lstripChars z y)) else none
 |_=>none
def zbu {K:Fgx}:Hi K Vd OJ:=fun P H y ds z vs Q h i _ q=>by
 unfold OJ at h;krn_ne
 ·krn_ne
  ·rename_i hl;cases h;kim_at;cases p;exact⟨_,_,rfl,rfl,hl,q _ H (Same.refl H) rfl⟩
  ·cases h
 ·cases h
end
def vd:S:=fun _ _=>none
def zde (h:PS X s fun _ _ _=>False):SS X Wx s vd:=gF h fun D st H ⟨_,_,_,_,_,_,_,_,_,e,_⟩=>by cases e
def zck:PS X s fun _ _ _=>False:=fun pins s σ H D I h=>h.elim
def zx:SS X Wx s vd:=zde zck
noncomputable def gU (tb:List (Str×D)) (z:Str):Option D:=(tb.find? fun p=>decide (p.1=z)).map (·.2)
inductive KRows (K:Fgx)(w:World):List (Str×D)->List DictEntry->List (Key×Value)->Prop
 |nil:KRows K w [] [] []
 |cons {z:Str} {d:D} {t:Tok} {u:Value} {v:V} {hs:Int} {tb:List (Str×D)} {es:List DictEntry} {vs:List (Key×Value)}:hs=hashStr w z->RelV v u->(∀P H,Is K P H d v)->KRows K w tb es vs->KRows K w ((z,d)::tb) (⟨hs,.str z t,u⟩::es) ((.inr z,u)::vs)
def KTab (K:Fgx)(w:World)(a:Addr)(tb:List (Str×D)):Prop:=∃o es ep vs,K.lookup a=some o/\o.ExactDict/\o.data=.dict es ep/\KRows K w tb es.toList vs/\(tb.map (·.1)).Nodup/\(a==sysModules)=false
section
variable {K:Fgx}{w:World}{prog:Program}
theorem Tz:∀{tb:List (Str×D)} {es:List DictEntry} {vs:List (Key×Value)},KRows K w tb es vs->(∀e∈es,∃k,(pA prog w).is k e.key=true/\e.hash=(pA prog w).hash k)/\Pairs (pA prog w) es vs/\vs.map (·.1)=tb.map fun p=>(.inr p.1:Key)
  |_,_,_,.nil=>⟨fun e h=>(by cases h),.nil,rfl⟩
  |_,_,_,.cons (z:=z) (t:=t) h1 h2 h3 r=>by
    obtain⟨a,b,c⟩:=Tz r;refine⟨fun e he=>?_,.cons (Kq prog w z t) rfl b,by rw[xaP,xaP,c]⟩;rw[xaO]at he;rcases he with rfl |he
    · exact⟨.inr z,Kq prog w z t,h1⟩
    · exact a e he
theorem J_:∀{tb:List (Str×D)} {es:List DictEntry} {vs:List (Key×Value)},KRows K w tb es vs->match gU tb z with
    |some d=>∃u v,valueAt vs (.inr z:Key)=some u/\RelV v u/\∀P H,Is K P H d v
    |none=>valueAt vs (.inr z:Key)=none
  |_,_,_,.nil=>rfl
  |_,_,_,.cons (z:=y) (d:=d) (u:=u) (v:=v) (tb:=tb) (vs:=vs) h1 h2 h3 r=>by
    by_cases e:y=z
    · subst e;have a:gU ((y,d)::tb) y=some d:=by simp[gU,xda]
      have b:valueAt ((.inr y,u)::vs) (.inr y:Key)=some u:=by simp[valueAt,xda]
      rw[a];exact⟨u,v,b,h2,h3⟩
    · have a:gU ((y,d)::tb) z=gU tb z:=by simp[gU,xda,e]
      have b:valueAt ((.inr y,u)::vs) (.inr z:Key)=valueAt vs (.inr z):=by simp[valueAt,xda,e]
      rw[a,b];exact J_ r
def KTab.dict (t:KTab K w a tb)(X:K.In h):∃es vs,KRows K w tb es vs/\h.DictOf (pA prog w) a vs/\(a==sysModules)=false:=by
 obtain⟨o,es,ep,vs,l,x,d,r,nd,ns⟩:=t;obtain⟨r1,r2,r3⟩:=Tz (prog:=prog) r;refine⟨es.toList,vs,r,⟨o,es,ep,X a o l,x,d,fun e he=>r1 e (by simpa using he),r2,?_⟩,ns⟩;rw[r3];have:(tb.map fun p=>(Sum.inr p.1:Key))=(tb.map (·.1)).map Sum.inr:=by rw[xen];rfl
 rw[this];exact xdC.mpr (List.Pairwise.imp (fun h q=>h (Sum.inr.inj q)) nd)
end
section
variable {X:Cx}{Wx:XW}{m:Mode}{pos:Pos}
noncomputable def dj (b:Bool) (tb:List (Str×D)) (f:E):E:=fun env M=>bnd (f env M) fun d M1=>match d with
 |.str z=>some (.v (.bl (if b then(gU tb z).isSome else !(gU tb z).isSome)),M1)
 |_=>none
noncomputable def xX (tb:List (Str×D)) (f:E):E:=fun env M=>bnd (f env M) fun d M1=>match d with
 |.str z=>(gU tb z).map fun y=>(.v y,M1)
 |_=>none
theorem za9 {z:Str}{K:Fgx}{w:World}{tb:List (Str×D)}{es:List DictEntry}{vs:List (Key×Value)}(r:KRows K w tb es vs):(valueAt vs (.inr z:Key)).isSome=(gU tb z).isSome:=by
 have g:=J_ (z:=z) r
 cases h:gU tb z with
 |none=>rw[h]at g;have g':valueAt vs (.inr z:Key)=none:=g;rw[g'];rfl
 |some d=>rw[h]at g;obtain⟨u,v,e,_⟩:=g;rw[e];rfl
def zfl {i:Expr}{ty:TE}{nm:Str}{p:Pos}{a:Addr}{tb:List (Str×D)}(hi:PE X i ty)(hg:Gl X nm)(hm:X.mg nm=some (.ref a))(t:KTab X.K X.w a tb)(hdb:(nm==("__debug__":Str))=false):
  PC X .In i (.Name nm p) (fun σ H Q=>ty σ H fun y H1=>∃z,y=.str z/\Q (.bl (gU tb z).isSome) H1):=by
 sr_in;refine aU (hi pins s σ H _ I h) fun iv s1 ⟨y,H1,I1,ry,z,ey,q⟩=>tZ I1 hg hm ?_ hdb;subst ey;obtain⟨es,vs,r,dd,ns⟩:=t.dict (prog:=X.prog) I1.kIn;refine wpAny_in_of (k:=(.inr z:Key)) (Tp (k:=.inr z) ry) ns dd.mapOf ?_;rw[za9 r];exact⟨.bl _,H1,I1.tok _,rfl,q⟩
def zff {b:Bool}{tb:List (Str×D)}{f:E}{st:L2.St}{H:Hp}{Q:VK}(w:tE X.K X.mg Wx m (dj b tb f) st H Q):tE X.K X.mg Wx .val f st H fun y H1=>∃z,y=.str z/\Q (.bl (if b then(gU tb z).isSome else !(gU tb z).isSome)) H1:=by
 obtain⟨P0,H0,P,Os,env,M,r,M',k,e,q⟩:=w;unfold dj at e;rcases cA e with⟨d,N1,e1,e⟩ |⟨c,n,e1,rfl⟩
 ·cases d<;>simp only[reduceCtorEq]at e
  rename_i z;cases e;exact aX k e1 fun P1 v1 H1 l1 h1 i1=>⟨z,i1,q P1 _ H1 l1 h1 (cL.of h1 (show Is _ _ _ (.bl _) _ from rfl))⟩
 ·tb_src
def Xh (hi:SE X Wx .val i f)(hg:Gl X nm)(hm:X.mg nm=some (.ref a))(t:KTab X.K X.w a tb)(hdb:(nm==("__debug__":Str))=false:=by x_go)(hb:behindInMarks .In (.Name nm p)=false:=by rfl):ST X Wx (.Compare i [.In] [.Name nm p] pos) (dj true tb f):=
 Fy (zdP (zfl hi hg hm t hdb) hb) fun _ _ _ w=>zff (b:=true) (Xx w)
def WY (hi:SE X Wx .val i f)(hg:Gl X nm)(hm:X.mg nm=some (.ref a))(t:KTab X.K X.w a tb)(hdb:(nm==("__debug__":Str))=false:=by x_go)(hs:zL i:=by exact fun _ _=>rfl):SE X Wx m (.Subscript (.Name nm p) i pos) (xX tb f):=by
 have h':PE X (.Subscript (.Name nm p) i pos) (fun σ H Q=>tE X.K X.mg Wx .val f σ H fun y H1=>∃z d,y=.str z/\gU tb z=some d/\∀v,(∀P H,Is X.K P H d v)->Q v H1):=by
  sr_in;refine zds PySem.F.slot_dict_getitem.lookup hs (tZ I hg hm ?_ hdb);refine aU (hi pins s σ H _ I h) fun iv s2 ⟨y,H2,I2,ry,z,d,ey,ed,q2⟩=>?_;subst ey;obtain⟨es,vs,r,dd,ns⟩:=t.dict (prog:=X.prog) I2.kIn;have g:=J_ (z:=z) r;rw[ed]at g;obtain⟨u,v,e1,e2,e3⟩:=g;exact⟨dd.typeIs,wpAny_getItem_of (k:=(.inr z:Key)) (Tp (k:=.inr z) ry) dd.mapOf e1 ⟨v,H2,I2.tok _,e2,q2 v e3⟩⟩
 refine cD h' ?_;k_go;unfold xX at e;rcases cA e with⟨d,N1,e1,e⟩ |⟨c,n,e1,rfl⟩
 ·cases d<;>simp only[reduceCtorEq]at e
  rename_i z;rw[xaj]at e;obtain⟨y,ey,e⟩:=e;cases e;exact aX k e1 fun P1 v1 H1 l1 h1 i1=>⟨z,y,i1,ey,fun v iv=>q P1 v H1 l1 h1 (cL.of h1 (iv P1 H1))⟩
 ·tb_src
end
section
variable {X:Cx}{Wx:XW}{pos:Pos}
noncomputable def JM (f:E):EA:=fun env M=>match f env M with
 |some (.v (.str z),M1)=>some (.v (z.cps.toList.map fun c=>.str ⟨#[c]⟩),M1)
 |some (.x c n,M1)=>some (.x c n,M1)
 |_=>none
def zgt (h:SE X Wx .val e f):SI X Wx tg e (JM f):=by
 refine BW (zfb h) ?_;w_size;unfold JM at e;kjx_on
 ·rename_i z M1 ef;cases e;refine⟨P0,H0,P,Os,env,M,_,_,k,ef,fun P1 v1 H1 l1 h1 i1=>⟨z,i1,q P1 H1 _ l1 h1 fun P2 H2 l2=>?_⟩⟩;have hl:(z.cps.toList.map fun c=>(D.str ⟨#[c]⟩)).length=z.cps.size:=by simp
  rw[hl];refine⟨fun j hj=>hj,fun j h1 h2=>xbi h2 h1,fun j x H' y hj=>⟨y.1,?_⟩⟩;obtain⟨c,ec,rfl⟩:=y.2;refine⟨.str ⟨#[c]⟩,?_,rfl⟩;rw[xam,xa4,ec];rfl
 ·k_same
 ·cases e
end
end E3
namespace L2
open PySem PySem.Spec PyProof.Rows
theorem Vs:Manifest.owners.lookup (String.ofList ['d','e','s','r','e','v','e','r'].reverse)=some Manifest.sig_reversed:=by kernel_rfl
theorem zc5:Slot "reversed" "__init__" "object.__init__":=
 .of (owner:="object") (n:="__init__") (by rw[xdb,xcx];kernel_rfl) (by x_go) (by x_go) (by x_go)
  (by first |exact .inl (by x_go) |exact .inr (by x_go)) (by rw[xde];kernel_rfl)
theorem Cq:Slot "reversed" "__next__" "reversed.__next__":=
 .of (owner:="reversed") (n:="__next__") (by rw[xdb,xcx];kernel_rfl) (by x_go) (by x_go) (by x_go)
  (by first |exact .inl (by x_go) |exact .inr (by x_go)) (by rw[xde];kernel_rfl)
theorem Vp:Slot "reversed" "__iter__" "reversed.__iter__":=
 .of (owner:="reversed") (n:="__iter__") (by rw[xdb,xcx];kernel_rfl) (by x_go) (by x_go) (by x_go)
  (by first |exact .inl (by x_go) |exact .inr (by x_go)) (by rw[xde];kernel_rfl)
theorem Vr:entryFor table "reversed.__next__"=some Builtin.«reversed.__next__» :=entryFor_of_tree (by kernel_rfl)
theorem Vq (a:Value):argsOk "reversed.__next__" ⟨[a],[]⟩:=by
 unfold argsOk;rw[signature?_of (id:="reversed.__next__") (n:=['_','_','t','x','e','n','_','_']) (o:=['d','e','s','r','e','v','e','r']) (by kernel_rfl) Vs];kernel_rfl
theorem zaM:entryFor table "reversed.__iter__"=some Builtin.«dict_keyiterator.__iter__» :=
 entryFor_alias (id':="dict_keyiterator.__iter__") (by kernel_rfl) (by first |rfl |decide +kernel |(unfold String.splitOn;simp +decide [String.splitOnAux])) (by x_go) (by kernel_rfl)
theorem zaO (a:Value):argsOk "reversed.__iter__" ⟨[a],[]⟩:=by
 unfold argsOk;rw[signature?_of (id:="reversed.__iter__") (n:=['_','_','r','e','t','i','_','_']) (o:=['d','e','s','r','e','v','e','r']) (by kernel_rfl) Vs];kernel_rfl
def zbA:TypeCalled "reversed" "reversed.__new__" "object.__init__":=
 ⟨by x_go,by x_go,⟨_,_,F.mro_reversed⟩,F.made_reversed,F.plain_reversed_new,F.sub_reversed_self,zc5⟩
theorem zcT:typeLookup (.type "tuple") "__reversed__"=pure none:=by rw[xdb,xcx];kernel_rfl
theorem zc7:isSubtype (.type "tuple") (.type "dict")=pure false:=by rw[xde];kernel_rfl
noncomputable def Vt (a:Addr) (i:Int):Obj:={cls:=.type "reversed",data:=.fields #[.ref a,rawInt i]}
def lD (h:Heap)(a t:Addr)(i:Int):Prop:=∃o,h.get? a=some o/\o.cls=.type "reversed"/\o.data=.fields #[.ref t,rawInt i]
def lD.typeIs {s:Shared}{a l:Addr}{i:Int}(x:lD s.heap a l i):s.TypeIs (.ref a) "reversed":=let ⟨o,ho,hc,_⟩:=x;⟨o,ho,hc⟩
def lD.at (x:lD h a l i)(e:∀o,h.get? a=some o->h'.get? a=some o):lD h' a l i:=let ⟨o,ho,r⟩:=x;⟨o,e _ ho,r⟩
theorem zfB (t : Addr) (items : Array Value) : Meets (Builtin.«reversed.__new__» ⟨[.type "reversed", .ref t], []⟩) (fun _ R s=>IsTup s.heap t items/\(items.size:Int)<2 ^ 63/\
    R (.ok (.ret (.ref s.heap.objs.size))) {s with heap:=s.heap.push (Vt t ((items.size:Int) - 1)),toks:=s.toks + 1 + 1}):=
  .of_wp fun prog w A R s ⟨ht,hf,h⟩=>by
    unfold Builtin.«reversed.__new__»;refine xaa (xcG (newClass_reversed _) ?_)
    try dsimp only
    refine xaa (xcG (a:=()) (by first |rfl |kernel_rfl) ?_)
    refine xaa (xcG (a:=()) (by first |rfl |kernel_rfl) ?_)
    try dsimp only
    refine xaa (xc5 ht.typeIs zcT ?_)
    try dsimp only
    refine xaa ?_;show wpAny _ _ (do
      if <-isInstance (.ref t) (.type "dict") then return false
      match <-specialOf (.ref t) "__getitem__" with
      |none=>return false
      |some (.builtin id)=>
        if ["tuple.__getitem__","str.__getitem__","bytes.__getitem__","bytearray.__getitem__","memoryview.__getitem__","numpy.ndarray.__getitem__","sqlite3.Row.__getitem__"].contains id then return true
        if id=="sqlite3.Blob.__getitem__" then return false
        unsupported "reversed.__new__:is-it-a-sequence"
      |some _=>return true:Sem Bool) _ _ s
    refine xaa (wpAny_isInstance ht.typeIs zc7 ?_);rw[xae (by decide)];refine xaa (xc5 ht.typeIs xdl.lookup ?_)
    try dsimp only
    rw[xad (by x_go)];refine xak ?_;rw[xae (by decide)];refine xaa (len_tuple ht hf ?_);refine xaa (m:=asInt? _) (xcG (a:=some (items.size:Int)) (by first |rfl |kernel_rfl) ?_)
    try dsimp only
    unfold Builtin.SmallTypes.newRecord
    try dsimp only
    refine xaa (xaZ ?_ (by size_fits));exact xak ⟨_,rfl,h⟩
section
variable {prog:Program}{w:World}{A:Around}{E:Value->Shared->Prop}{s:Shared}
def YX (ht:IsTup s.heap t items)(hf:(items.size:Int)<2 ^ 63)
  (h:Q (.ref s.heap.objs.size) {s with heap:=s.heap.push (Vt t ((items.size:Int) - 1)),toks:=s.toks + 1 + 1}):wpAny (model prog w) A (call (.type "reversed") [.ref t]) Q E s:=
 callType_new zbA (by decide) (F.typeCall_reversed_1 _) (F.newCall_reversed_1 _) (fun obj=>F.args_object_init_2 obj _) F.entry_reversed_new (zfB t items) ⟨ht,hf,⟨_,xax _ rfl,rfl⟩,h⟩
def Tc {it l:Addr}{i:Int}{Q:Value->Shared->Prop}(hit:lD s.heap it l i)(h:Q (.ref it) s):wpAny (model prog w) A (pyIter (.ref it)) Q E s:=by
 refine wpAny_pyIter_slot hit.typeIs Vp (xcg Vp hit.typeIs zaM ?_ (zaO _));show wpAny _ _ (ret (.ref it)) _ _ s;exact xak ⟨_,rfl,"reversed",_,hit.typeIs,Cq.lookup,h⟩
def zct {it l:Addr}{i:Nat}{items:Array Value}{x:Value}{Q:Option Value->Shared->Prop}(hit:lD s.heap it l (i:Int))(hl:IsTup s.heap l items)(hx:items[i]? =some x)(hf:(items.size:Int)<2 ^ 63)
  (hQ:∀h',lD h' it l ((i:Int) - 1)->Heap.SameBut it s.heap h'->Q (some x) {s with heap:=h',toks:=s.toks + 1}):wpAny (model prog w) A (pyNext (.ref it)) Q E s:=by
 obtain⟨o,ho,hc,hd⟩:=id hit;have hi:i<items.size:=by
  rcases xa2 i items.size with z |z
  ·exact z
  ·rw[Array.getElem?_eq_none z]at hx;cases hx
 unfold pyNext;refine xaa (xdw (xcO (name:=Str.ofString "__next__") hit.typeIs Cq
  (xcg Cq hit.typeIs Vr ?_ (Vq _))))
 unfold Builtin.«reversed.__next__»;refine xaa (xcG (a:=(Value.ref it,[])) rfl ?_)
 try dsimp only
 refine xaa (xbA ho hd (x:=.ref l) rfl ?_);refine xaa (xbA ho hd (x:=rawInt (i:Int)) rfl ?_);show wpAny _ _ (if (i:Int)<0 then _ else _) _ _ s
 rw[xae (by lia)];refine xaa (xc5 hl.typeIs xdl.lookup ?_);rw[xae (by simp)];refine xaa (wpAny_mkInt ?_);refine xaa (xdw (getItem_tuple (k:=(i:Int)) (j:=i) (s:={s with toks:=s.toks + 1}) hl (by lia) (by lia) ?_ hx ?_))
 ·exact xdX (by lia) (by lia)
 show wpAny _ _ (field (Value.ref it) 1 >>= _) _ _ _;refine xaa (xbA (s := { s with toks := s.toks + 1 }) ho hd (x := rawInt (i : Int)) rfl ?_);show wpAny _ _ (setField (Value.ref it) 1 (rawInt ((i : Int) - 1)) >>= _) _ _ _;refine xaa (xcu (s := { s with toks := s.toks + 1 }) ho hd (by simp) ?_);refine xak ⟨x, rfl, xak (hQ _ ?_ (xcH ..))⟩;exact ⟨_,xb8 _ ho (xcv (xbf hd _)),(Obj.cls_mapFields ..).trans hc,by
  rw[xbf hd];simp⟩
def Zq {it l:Addr}{Q:Option Value->Shared->Prop}(hh:A.handled=none)(hit:lD s.heap it l (-1))
  (hQ:∀h',Heap.ExtBut it s.heap h'->Q none {s with heap:=h'}):wpAny (model prog w) A (pyNext (.ref it)) Q E s:=by
 obtain ⟨o, ho, hc, hd⟩ := id hit;unfold pyNext;refine xaa (xdw (xcO (name:=Str.ofString "__next__") hit.typeIs Cq
  (xcg Cq hit.typeIs Vr ?_ (Vq _))))
 unfold Builtin.«reversed.__next__»;refine xaa (xcG (a:=(Value.ref it,[])) rfl ?_)
 try dsimp only
 refine xaa (xbA ho hd (x:=.ref l) rfl ?_);refine xaa (xbA ho hd (x:=rawInt (-1)) rfl ?_);show wpAny _ _ (if (-1:Int)<0 then _ else _) _ _ s
 rw[xad (by decide)];refine xaa (wpAny_rule ?_);refine xaa ?_;show wpAny _ _ (setField (.ref it) 1 (rawInt (-1)) >>=fun _=>setField (.ref it) 0 .none) _ _ s;refine xaa (xcu ho hd (by simp) ?_);refine xcu (xb8 _ ho (xcv (xbf hd _))) (xbf hd _) (by simp) ?_;refine xaa ?_;show wpAny _ _ (newExc (.type "StopIteration") [] >>=_) _ _ _;refine xaa ?_;simp only[newExc,newTuple];refine xaa (xaZ ?_ (by size_fits));refine xaa (m:=firstArgMember _ _) (xcG (a:=Value.none) (by first |rfl |(simp only[firstArgMember];rfl)) ?_)
 refine xaZ ?_ (by size_fits);simp only[raiseNew];refine xaa (wpAny_handled ?_)
 first |rw[show A.in1.handled=none from hh] |rw[hh]
 refine xaa (xak (wpAny_throw ?_));refine xaa (wpAny_isInstance (T:="StopIteration") (b:=true) ⟨_,xax _ rfl,rfl⟩ isSubtype_stop ?_);exact xak (hQ _ ((((xcH _ _ _).extBut).trans ((xcH _ _ _).extBut)).push _ |>.push _))
end
noncomputable def PB (K:Fgx) (a:Addr) (n:Nat):It:=
 ⟨fun i H=>i<n/\∃xs,cI K H a xs/\xs.length=n,fun i H x H'=>H'=H/\∀xs,cI K H a xs->xs[n - 1 - i]? =some x,fun i _=>i=n⟩
def zcn {P:Program}{w:World}{K:Fgx}{tg:Expr}(a it:Addr)(n:Nat):Turn P w K tg (PB K a n) [it] it (fun i h=>lD h it a ((n:Int) - 1 - (i:Int))) where
 mem:=by simp
 obj:=fun i h st b hb=>by
  have e:b=it:=by simpa using hb
  o_args
 keep:=fun i h h' st k=>st.at fun o e=>k it (by simp) o e
 item:=by
  w_why;obtain⟨hi,xs,hq,hlen⟩:=hg;obtain⟨its,rv,p,hz⟩:=I.tuple hq;have hx:xs[n - 1 - i]? =some (xs[n - 1 - i]'(by lia)):=xab (by lia);obtain⟨u,hu,ru⟩:=rv.get hx;k_obj1;have e:(n:Int) - 1 - (i:Int)=((n - 1 - i:Nat):Int):=by lia
  have st0:lD s.heap it a ((n - 1 - i:Nat):Int):=by rw[<-e];exact st
  have hn:=rN;have hl:=rv.length;refine zct st0 p (x:=u) (by simpa using hu) (by simp only[xai];lia) fun h' st' sb=>?_;have e2:((n - 1 - i:Nat):Int) - 1=(n:Int) - 1 - ((i + 1:Nat):Int):=by lia
  rw[e2]at st';have I1:Inv X pins σ H {s with heap:=h',toks:=s.toks + 1}:=I.turned (t':=s.toks + 1) (fun b o hb e=>(sb.2 b hb).trans e) f0 f1 f3 f4 f5;obtain⟨o,eo,c,d⟩:=id st';exact⟨u,rfl,wY (s:={s with heap:=h',toks:=s.toks + 1}) eo c d (by decide) ⟨_,H,I1,ru,⟨rfl,fun ys hy=>by rw[I.tuple_inj hy hq];exact hx⟩,st',fun b hb=>(hf b hb).1⟩⟩
 done:=by
  w_why;have hg':i=n:=hg;subst hg';k_obj1;have e:(i:Int) - 1 - (i:Int)= -1:=by lia
  have st0:lD s.heap it a (-1):=by rw[<-e];exact st
  exact Zq (I.ok.hd hc) st0 fun h' eb=>⟨rfl,I.turned (t':=s.toks) (fun b o hb e=>eb b o hb e) f0 f1 f3 f4 f5⟩
 self:=fun _ _ _ _ _ st h=>Tc st h
section
variable {X:Cx}{tg:Expr}
noncomputable def zg4 (K:Fgx) (ta:TA):TI:=fun σ H R=>ta σ H fun vs H1=>∃a xs,vs=[.ref a]/\cI K H1 a xs/\R (PB K a xs.length) H1
def zeQ (hg:Gl X "reversed")(hm:X.mg "reversed"=none)(ha:PA X [a] ta)(hs:starEach [a] X.env=[(false,eval a X.env)]:=by rfl):PI X tg (.Call (.Name "reversed" p) [a] [] pos) (zg4 X.K ta):=by
 intro pins s σ H R I h;refine Call_ (Bd I hg hm boot_reversed (xcC (aU (ha pos pins s σ H _ I h) fun us s1 ⟨vs,H1,I1,r1,q1⟩=>?_) hs rfl));obtain⟨b,xs,e,hq,q⟩:=q1;subst e;obtain⟨u,e,ru⟩:=vals1 r1;subst e;cases ru;obtain⟨its,rv,pl,hz⟩:=I1.tuple hq;have hlen:its.toArray.size=xs.length:=by rw[xai];exact rv.length.symm
 have hn:=rN;refine YX pl (by rw[hlen];lia) ?_;rw[hlen];refine Tc (l:=b) (i:=(xs.length:Int) - 1) ⟨_,xax _ rfl,rfl,rfl⟩ ?_;refine⟨s1.heap.objs.size,[s1.heap.objs.size],_,_,H1,rfl,I1.kept (t':=s1.toks + 1 + 1) fun b o e=>xac _ e,zcn b _ xs.length,?_,fun c hc=>?_,q⟩
 ·have e:(xs.length:Int) - 1 - ((0:Nat):Int)=(xs.length:Int) - 1:=by lia
  show lD _ _ b ((xs.length:Int) - 1 - ((0:Nat):Int));rw[e];exact⟨_,xax _ rfl,rfl,rfl⟩
 ·have e:c=s1.heap.objs.size:=by simpa using hc
  subst e;exact I1.fpOk (xaf _) (I1.hok.fresh (xaf _))
end
end L2
namespace E3
open PySem PySem.Spec PyProof.Rows L2
section
variable {X:Cx}{Wx:XW}{m:Mode}{pos:Pos}
noncomputable def w5 (f:E) (ps:EJ):EJ:=fun out env M=>bnd (f env M) fun d M1=>match d with
 |.str z=>if (reprText z).length<=sizeLine/\(out ++ reprText z).length<=sizeLine then ps (out ++ reprText z) env M1 else none
 |_=>none
def zfg (he:PE X e te)(hv:PJ X vs tj):PJ X (.FormattedValue e 114 none pos::vs) (fun out σ H Q=>te σ H fun v H1=>∃z,v=.str z/\(reprText z).length<=sizeLine/\(out ++ reprText z).length<=sizeLine/\tj (out ++ reprText z) σ H1 Q):=fun pins s σ H out Q I h=>by
 refine joinParts_cons (wpAny_FormattedValue_repr (aU (he pins s σ H _ I h) fun u s1 ⟨x,H1,I1,r1,z,ez,hz,hl,q⟩=>?_));subst ez;obtain⟨t,rfl⟩:=r1;refine pyReprObj_str ?_ hz;exact formatField_str (fun t' tk=>⟨hl,hv pins _ σ H1 _ Q (I1.tok _) q⟩) hz
def zdO (he:SE X Wx .val e f)(h:SJ X Wx vs ps):SJ X Wx (.FormattedValue e 114 none pos::vs) (w5 f ps):=by
 refine Fv (zfg he h) ?_;rintro out st H Q ⟨P0,H0,P,Os,env,M,r,M',k,e,q⟩;unfold w5 at e;by_in
 ·cases d<;>simp only[reduceCtorEq]at e
  rename_i z;kjx_on
  ·rename_i hl;exact aX k e1 fun P1 v1 H1 l1 h1 i1=>⟨z,i1,hl.1,hl.2,P0,H0,P1,Os,env,M1,r,M',k.next l1 h1,e,RQ.imp l1 q⟩
  ·cases e
 ·tb_src
def zfH (hg:Gl X nm)(hm:X.mg nm=some (.ref a))(hd:∀P H,Is X.K P H d (.ref a))(hdb:(nm==("__debug__":Str))=false:=by x_go):SE X Wx m (.Name nm p) (ak d):=
 (CJ (rZ hg hm (v:=.ref a) rfl hdb) hd).bor
def S6 {K:Fgx}{a:Addr}{o:Obj}{its:Array Value}{n:Nat}{ds:List D}{vs:List V}(l:K.lookup a=some o)(c:o.cls=.type "tuple")(e:o.data=.seq its n)(z:its.size<=sizeLine)(r:Vals vs its.toList)(i:∀P H,aC K P H ds vs):∀P H,Is K P H (.tup ds) (.ref a):=
 fun P H=>⟨a,vs,rfl,.inr ⟨o,its,n,l,c,e,z,r⟩,i P H⟩
def X_ (P:Program)(w:World)(K:Fgx)(mg:Mgx)(base:Heap)(k:Nat)(C:Addr)(m:Str)(n:Nat)(g:G):Prop:=
 ∃f fd ps ds dvs sp,Meth K C m f/\FnOk P w K mg base fP k f fd ps sp/\Binds K fd ps ds/\Vals dvs ds/\∀vs H Q E,nu K mg n g vs H Q E->sp (vs ++ dvs) H Q E
structure OwnIs (K:Fgx)(C:Addr):Prop where
 ca:PySem.W.findIn K (.ref C) "__class__"=some (some (.builtin "object.__class__"))
 gt:PySem.W.specialIn K (.builtin "object.__class__") "__get__"=some (some (.builtin "getset_descriptor.__get__"))
 tk:PySem.W.takesIn K (.builtin "object.__class__")=some true
 mr:PySem.W.mroIn K C (.type "object")=some true
 me:PySem.W.kitOne K (.ref C) (.ref C)=some true
noncomputable def fZ (fs:EA):EA:=fun env M=>match fs env M with
 |some (.v [.tup ds],M1)=>some (.v ds.reverse,M1)
 |some (.x c n,M1)=>some (.x c n,M1)
 |_=>none
def W8 (hg:Gl X "reversed")(hm:X.mg "reversed"=none)(ha:SA X Wx .val [a] fs)(hs:starEach [a] X.env=[(false,eval a X.env)]:=by rfl):SI X Wx tg (.Call (.Name "reversed" p) [a] [] pos) (fZ fs):=by
 refine BW (zeQ hg hm ha hs) ?_;w_size;unfold fZ at e;kjx_on
 ·rename_i ds M1 ef;cases e;refine⟨P0,H0,P,Os,env,M,_,_,k,ef,fun P1 vs H1 l1 h1 i1=>?_⟩;obtain⟨v,ws,rfl,i1,rfl⟩:=i1;obtain⟨a,us,rfl,ra,is⟩:=i1;refine⟨a,us,rfl,ra,q P1 H1 _ l1 h1 fun P2 H2 l2=>?_⟩;have ra2:=l2.tup ra;have is2:=aC.lt l2 is;have hn:us.length=ds.length:=is2.len;rw[List.length_reverse];refine⟨fun j hj=>⟨by lia,us,ra2,rfl⟩,fun j h1 h2=>by show j=us.length;lia,fun j x H' y hj=>⟨y.1,?_⟩⟩;have hj':ds.length - 1 - j<ds.length:=by lia
  obtain⟨v,ev,iv⟩:=aC.get is2 (xab hj');have:=y.2 us ra2;rw[hn,ev]at this;cases this;exact⟨_,by rw[List.getElem?_reverse hj,xab hj'],iv⟩
 ·k_same
 ·cases e
end
end E3
namespace E3
open PySem L2
noncomputable def dg (n:Nat):List Nat:=(Nat.toDigits 10 n).map Char.toNat
def Rj (n:Nat):NumText.AllDigits (dg n):=fun c hc=>by
 obtain⟨d,hd,rfl⟩:=xa5.mp hc;have h:=Nat.isDigit_of_mem_toDigits (by decide) (by decide) hd;simp only[Char.isDigit,xaD,xcs]at h;exact⟨h.1,h.2⟩
def Rn (n:Nat):dg n≠ []:=fun e=>Nat.toDigits_ne_nil (xec.mp e)
def Rm (h1:1<=k)(h:n<10 ^ k):(dg n).length<=k:=by
 rw[dg,xan];exact toDigits_len_pow (by decide) h1 h
noncomputable def dN (i:Int):Str:=Str.ofString (toString i)
def Gm (h:0<=i):(dN i).cps.toList=dg i.toNat:=by
 have:=W.KIN.signs_num i.toNat;rw[xed h]at this;exact this
def W7 (h:i<0):(dN i).cps.toList=45::dg i.natAbs:=by
 obtain⟨m,rfl⟩:∃m,i=Int.negSucc m:=by
  cases i with
  |ofNat n=>exact absurd h (by simp)
  |negSucc m=>exact⟨m,rfl⟩
 unfold dN dg;rw[PyProof.Rows.signs_ofString];show List.map Char.toNat ("-" ++ toString (m + 1)).toList=_;rw[String.toList_append,xbr,Nat.toString_eq_ofList_toDigits]
 simp
def W6 (h1:1<=k)(h:i.natAbs<10 ^ k):(dN i).length<=k + 1:=by
 show(dN i).cps.size<=k + 1;rw[<-xau]
 by_cases h0:0<=i
 ·rw[Gm h0];have:=Rm (n:=i.toNat) h1 (by rw[<-Int.natAbs_of_nonneg h0]at *;simpa using h);lia
 ·rw[W7 (by lia),xaw];have:=Rm h1 h;lia
def zcS (h:i.natAbs<10 ^ 600):intText? (dN i)=some i:=by
 have hl:=W6 (by decide) h
 by_cases h0:0<=i
 ·rw[intText_digits (by rw[Gm h0];exact Rj _) (by rw[Gm h0];exact Rn _) (by lia),Gm h0];have:=W.KIN.val_back i.toNat;unfold dg;rw[this,xed h0]
 ·rw[intText_neg (W7 (by lia)) (Rj _) (Rn _) (by lia)];have:=W.KIN.val_back i.natAbs;unfold dg;rw[this];congr 1;lia
noncomputable def cd (s:Str):List Nat:=s.cps.toList
def zdm (h:n<340282366920938463463374607431768211456):n.log2<1920:=by
 by_cases h0:n=0
 ·rw[h0];decide
 ·have:=(Nat.log2_lt h0 (k:=128)).mpr h;lia
section
variable {env:Env}{M M1:Mm}{f g h c:E}{d e:D}{i j:Int}{n k:Nat}{z:Str}{b:Bool}{ds es:List D}{s t:S}{x:Str}{fa:EA}{u:G}
def Kg (q:List D->O):Option Cl->O
 |some (.lst ds)=>q ds
 |_=>none
theorem zgO {q:List D->O}:Kg q (some (.lst ds))=q ds:=rfl
noncomputable def B_ (M:Mm) (k:Nat) (ds:List D):Option D->O
 |some z=>some (.v z,M.set k (.lst ds.dropLast))
 |none=>none
noncomputable def BZ (M:Mm):D->O
 |.ref k=>Kg (fun ds=>B_ M k ds ds[ds.length - 1]?) M[k]?
 |_=>none
theorem zeA:BZ M (.ref k)=Kg (fun ds=>B_ M k ds ds[ds.length - 1]?) M[k]? :=rfl
theorem zf9:cX f env M=eG (fun d M1=>BZ M1 d) (f env M):=rfl
noncomputable def Bf (q:List D->OS):Option Cl->OS
 |some (.lst ds)=>q ds
 |_=>none
theorem zfS {q:List D->OS}:Bf q (some (.lst ds))=q ds:=rfl
noncomputable def zR (env:Env) (g:Mm->O) (M:Mm):D->OS
 |.ref k=>Bf (fun _=>dR (fun y M2=>Bf (fun ds=>if ds.length<sizeLine then some (.nx env,M2.set k (.lst (ds ++ [y]))) else none) M2[k]?) (g M)) M[k]?
 |_=>none
theorem zd4 {q:Mm->O}:zR env q M (.ref k)=Bf (fun _=>dR (fun y M2=>Bf (fun ds=>if ds.length<sizeLine then some (.nx env,M2.set k (.lst (ds ++ [y]))) else none) M2[k]?) (q M)) M[k]? :=rfl
theorem zdK:cW f g env M=dR (fun d M1=>zR env (g env) M1 d) (f env M):=rfl
def zdZ (h:M[k]? =some (.lst ds)):vw M (.ref k)=.lst ds:=by unfold vw;simp only[h]
noncomputable def zW (q:List D->Mm->O):Option (ResA×Mm)->O
 |some (.v ds,M)=>q ds M
 |_=>none
theorem zdH {q:List D->Mm->O}:zW q (some (.v ds,M))=q ds M:=rfl
theorem zdf:FW u fa env M=zW (fun ds M1=>u ds M1) (fa env M):=rfl
theorem Fi:mQ [.int i]=if i.natAbs.log2<1920 then some (.str (toString i)) else none:=rfl
theorem Fg:eF [.str z]=if z.length<=640 then(intText? z).map .int else none:=rfl
def zg0 {y:Str}:aG .eq (.str z) (.str y)=some (.bl (decide (z=y))):=by
 unfold aG c7 tM;rw[xad (by constructor<;>first |rfl |simp[D.dep])]
 have:(z==y)=decide (z=y):=by rw[xbD];simp
 simp[D.eq,this]
def zf1 {y:Str}:aG .ne (.str z) (.str y)=some (.bl (!decide (z=y))):=by
 unfold aG c7 tQ;rw[xad (by constructor<;>first |rfl |simp[D.dep])]
 have:(z==y)=decide (z=y):=by rw[xbD];simp
 simp[D.eq,this]
noncomputable def Xi (k:Nat) (t:S) (ds:List D):OS->OS
 |some (.nx e,M1)=>loopS k t ds e M1
 |some (.ct e,M1)=>loopS k t ds e M1
 |some (.bk e,M1)=>some (.nx e,M1)
 |some (.rt d,M1)=>some (.rt d,M1)
 |some (.ex c n,M1)=>some (.ex c n,M1)
 |none=>none
theorem U8:loopS k t [] env M=some (.nx env,M):=rfl
theorem mD:loopS k t (d::ds) env M=if k<env.length then Xi k t ds (t (env.set k (.val d)) M) else none:=rfl
theorem sG {e':Env}:Xi k t ds (some (.nx e',M))=loopS k t ds e' M:=rfl
def Yu {α:Type}{xs:List α}{i:Int}(d:α)(h0:0<=i)(h1:i<xs.length):cN xs i=some (xs.getD i.toNat d):=by
 obtain⟨k,rfl⟩:∃k:Nat,i=k:=⟨i.toNat,by lia⟩;have hk:k<xs.length:=by lia
 exact tL (by simp[hk])
theorem at0 {α:Type}{a:α}{xs:List α}:cN (a::xs) 0=some a:=tL (j:=0) rfl
theorem at1 {α:Type}{a b:α}{xs:List α}:cN (a::b::xs) 1=some b:=tL (j:=1) rfl
theorem at2 {α:Type}{a b c:α}{xs:List α}:cN (a::b::c::xs) 2=some c:=tL (j:=2) rfl
theorem Yt {α:Type}{a b c d:α}{xs:List α}:cN (a::b::c::d::xs) 3=some d:=tL (j:=3) rfl
def rz {M:Mm}{cl:Cl}:(M ++ [cl])[M.length]? =some cl:=List.getElem?_concat_length ..
def s_end {M:Mm}{cl cl':Cl}:(M ++ [cl]).set M.length cl'=M ++ [cl']:=by simp
def w_end {M:Mm}:vw (M ++ [.lst ds]) (.ref M.length)=.lst ds:=zdZ rz
def Zk {α β:Type}(f:α->β)(xs:List α)(lo hi:Option Int):bT (xs.map f) lo hi=(bT xs lo hi).map f:=by
 unfold bT;rw[xan, <-List.map_drop, <-List.map_take]
def Zj {α:Type}(xs:List α){i:Int}(h:0<=i):bT xs (some i) none=xs.drop i.toNat:=by
 obtain⟨k,rfl⟩:∃k:Nat,i=k:=⟨i.toNat,by lia⟩;unfold bT;rw[HT.zbZ,HT.Mr];rw[xbI (by rw[xcD];lia),xaK]
 by_cases hk:k<=xs.length
 ·rw[Nat.min_eq_left hk]
 ·rw[Nat.min_eq_right (by lia),xch,xdY (by lia)]
end
end E3
namespace L2
open PySem PySem.Spec PyProof.Rows
end L2
namespace E3
open PySem PySem.Spec PyProof.Rows L2
end E3
namespace L2
open PySem PySem.Spec PyProof.Rows
end L2
namespace E3
open PySem PySem.Spec PyProof.Rows L2
end E3
namespace L2
open PySem PySem.Spec PyProof.Rows
end L2
namespace E3
open PySem PySem.Spec PyProof.Rows L2
section
variable {X:Cx}{Wx:XW}{pos:Pos}
noncomputable def yt (is:List Nat) (d:D) (env:Env):Option Env:=match d with
 |.tup es=>if es.length=is.length then sU is es env else none
 |_=>none
noncomputable def lQ (is:List Nat) (body:S):List D->Env->Mm->OS
  | [],env,M=>some (.nx env,M)
  |d::ds,env,M=>match yt is d env with
    | some env1 => (match body env1 M with
      |some (.nx e,M1)=>lQ is body ds e M1
      |some (.ct e,M1)=>lQ is body ds e M1
      |some (.bk e,M1)=>some (.nx e,M1)
      |some (.rt d,M1)=>some (.rt d,M1)
      |some (.ex c n,M1)=>some (.ex c n,M1)
      |none=>none)
    |none=>none
noncomputable def Cr (is:List Nat) (fs:EA) (body:S):S:=fun env M=>match fs env M with
 |some (.v ds,M1)=>lQ is body ds env M1
 |some (.x c n,M1)=>some (.ex c n,M1)
 |none=>none
def zcN (hp:PassesOwn (model X.prog X.w) X.A X.env X.xe)(hc:X.calm=true)(hG:SG X ts is)(hI:SI X Wx (.Tuple ts n tp) iter fs)(hb:SB X Wx body b)
    (hn:(assignEach ts X.env).length=is.length:=by rfl) (hst:(assignEach ts X.env).findIdx? (·.1)=none:=by rfl)
    (hfs:∀x,foldedSetIterable iter X.env x=pure x:=by intro _;rfl):SS X Wx (.For (.Tuple ts n tp) iter body [] pos) (Cr is fs b):=by
  obtain⟨t,hpg,ht⟩:=hG;refine gF (U0 hp hc hI (zdF (n:=is.length) hc hpg hn hst) hb hfs) ?_;f_tup;unfold Cr at e;kjx_on
  · rename_i ds M1 ef;refine⟨P0,H0,P,Os,env,M,_,_,k,ef,fun P1 H1 J l1 h1 wk=>?_⟩;have k1:=k.next l1 h1
    have q1:=q.lt (l1.lt k.hk);refine⟨fun j m σ H=>m=ds.length - j/\j<=ds.length/\∃P Os' M2 env',Lt P1 H1 P H/\Ok X.K X.mg P0 H0 P Os' H M2 σ env'/\lQ is b (ds.drop j) env' M2=some (out,M'),⟨ds.length,by simp,xbz _,P1,Os,M1,env,Lt.refl _ _,k1,e⟩,?_⟩;rintro j m σ H2 ⟨rfl,hj,P2,Os',M2,env',lt,k',h'⟩;obtain⟨w1,w2,w3⟩:=wk P2 H2 lt
    by_cases hlt:j<ds.length
    · refine .inr ⟨w1 j hlt,fun σ' H'=>∃P Os' M2 env',Lt P1 H1 P H'/\Ok X.K X.mg P0 H0 P Os' H' M2 σ' env'/\lQ is b (ds.drop (j + 1)) env' M2=some (out,M'),fun σ' H' z=>⟨ds.length - (j + 1),by lia,rfl,hlt,z⟩,fun x H3 y=>?_⟩;obtain⟨e3,d,ed,iv⟩:=w3 j x H3 y hlt;subst e3;have ed':ds.drop j=d::ds.drop (j + 1):=by
        rw[xaV hlt];rw[xab hlt]at ed;rw[xaA ed]
      rw[ed']at h';simp only[lQ]at h';split at h'
      · rename_i env1 ee;unfold yt at ee;split at ee
        · rename_i es;split at ee
          · rename_i hl;obtain⟨a,vs,rfl,sq,is'⟩:=iv;refine⟨a,vs,rfl,sq,by rw[is'.len];exact hl,ht _ _ _ _ _ _ _ _ _ _ _ _ k' is' ee fun Os2 st2 k4=>?_⟩;split at h'
            · rename_i e4 M4 eb;exact⟨P0,H0,P2,_,_,M2,_,_,k4,eb,fun P' Os2 H2 st2 l2 k5=>⟨P',Os2,_,e4,lt.trans l2,k5,h'⟩⟩
            · rename_i e4 M4 eb;exact⟨P0,H0,P2,_,_,M2,_,_,k4,eb,fun P' Os2 H2 st2 l2 k5=>⟨P',Os2,_,e4,lt.trans l2,k5,h'⟩⟩
            · rename_i e4 M4 eb;cases h';exact⟨P0,H0,P2,_,_,M2,_,_,k4,eb,fun P' Os2 H2 st2 l2 k5=>q1 P' Os2 H2 st2 (lt.trans l2) k5⟩
            · rename_i d4 M4 eb;cases h';exact⟨P0,H0,P2,_,_,M2,_,_,k4,eb,q1⟩
            · rename_i c4 n4 M4 eb;cases h';exact⟨P0,H0,P2,_,_,M2,_,_,k4,eb,q1⟩
            · cases h'
          · cases ee
        · cases ee
      · cases h'
    · have ej:j=ds.length:=by lia
      subst ej;rw[xch]at h';cases h';exact .inl ⟨w2 _ (xaf _) (xaf _),q1 P2 Os' H2 σ lt k'⟩
  · k_same
  · cases e
end
section
variable {X:Cx}{Wx:XW}{m:Mode}{pos:Pos}{K:Fgx}
noncomputable def KZ:D->D->Option D
 |.tup xs,.tup ys=>if xs.isEmpty=false/\xs.length + ys.length<=sizeLine then some (.tup (xs ++ ys)) else none
 |_,_=>none
def zc8:kO K (Vc K) KZ:=fun P H d e z v w Q h h1 h2 hn q=>by
 unfold KZ at h;krn_ne
 ·rename_i xs ys;krn_ne
  ·rename_i hl;cases h;obtain⟨a,vs,rfl,r1,s1⟩:=h1;obtain⟨b,ws,rfl,r2,s2⟩:=h2;have n1:vs≠ []:=fun z=>by
    have:=s1.len;rw[z]at this;have h0:=hl.1
    cases xs with
    |nil=>cases h0
    |cons _ _=>cases this
   refine⟨a,b,vs,ws,rfl,rfl,r1,r2,n1,by rw[s1.len,s2.len];exact hl.2,fun z=>?_,fun _=>KY (s1.append s2) q⟩;have e2:=s2.len;rw[z]at e2;have:ys=[]:=List.length_eq_zero_iff.mp e2.symm;subst this;rw[xas]at q;exact q _ H (Same.refl H) ⟨a,vs,rfl,r1,s1⟩
  ·cases h
 ·cases h
noncomputable def zp (d:D) (lo hi:Option Int):Option D:=match d with
 |.tup ds=>if HT.bF ds.length 0 lo=0/\HT.bF ds.length ds.length hi=ds.length then none else some (.tup (bT ds lo hi))
 |_=>none
noncomputable def eX (f:E) (l h:Env->Mm->Option (Option Int×Mm)):E:=fun env M=>bnd (f env M) fun d M1=>match l env M1 with
  | some (lo, M2) => (match h env M2 with
    |some (hi,M3)=>(zp d lo hi).map fun z=>(.v z,M3)
    |none=>none)
  |none=>none
def Oa {e:Expr}{lo hi:Option Expr}{p2:Pos}{f:E}{l h:Env->Mm->Option (Option Int×Mm)}(he:SE X Wx .val e f)(hl:yC X lo l)(hh:yC X hi h):SE X Wx m (.Subscript e (.Slice lo hi none p2) pos) (eX f l h):=by
 refine cD (UJ zee he hl hh) ?_;k_go;unfold eX at e;by_in
 ·kjx_on
  ·rename_i lo' M2 el;kjx_on
   ·rename_i hi' M3 eh;kit_at;refine⟨P0,H0,P,Os,env,M,_,_,k,e1,fun P1 v1 H1 l1 h1 i1=>⟨P0,H0,P1,Os,env,M1,_,_,k.next l1 h1,el,fun P2 H2 l2 h2=>⟨P0,H0,P2,Os,env,M2,_,_,(k.next l1 h1).next l2 h2,eh,fun P3 H3 l3 h3=>?_⟩⟩⟩
    have i3:=Is.lt (l3.lt h2) (Is.lt (l2.lt h1) i1);have fin:∀u H',Same H3 H'->Is X.K P3 H' z u->Q u H':=fun u H' s i=>q P3 u H' (l1.trans (l2.trans (l3.trans (LtE.same s)))) (h3.same s) (cL.of (h3.same s) i);unfold zp at ez;split at ez
    ·split at ez
     ·cases ez
     ·rename_i hw;cases ez;obtain⟨a,vs,rfl,r,s⟩:=i3;exact⟨a,vs,rfl,r,by rw[s.len];exact hw,KY (Q_ s) fin⟩
    ·cases ez
   ·cases e
  ·cases e
 ·kj_on
theorem aC.rep {P:Pl}{H:Hp}{ds:List D}{vs:List V}(h:aC K P H ds vs):∀n:Nat,aC K P H (List.replicate n ds).flatten (List.replicate n vs).flatten
  |0=>rfl
  |n + 1=>by
    rw[xbF,xbF,xcb,xcb];exact h.append (aC.rep h n)
noncomputable def j_ (f g:E):E:=fun env M=>bnd (f env M) fun d M1=>match d with
  |.lst ds=>bnd (g env M1) fun e M2=>match e with
    |.int i=>if i.natAbs<=100000/\ds.length<=100 then some (.v (.lst (List.replicate i.toNat ds).flatten),M2) else none
    |_=>none
  |_=>none
end
section
variable {env:Env}{M:Mm}{f g:E}{d:D}{i:Int}{ds es:List D}{fa:EA}{x:Str}{k:Nat}
noncomputable def yh (d:D) (lo:Option Int):Option (Option Int×Mm)->O
 |some (hi,M3)=>mapR M3 (zp d lo hi)
 |none=>none
noncomputable def yj (d:D) (k:Mm->Option (Option Int×Mm)):Option (Option Int×Mm)->O
 |some (lo,M2)=>yh d lo (k M2)
 |none=>none
theorem Va {l u:Env->Mm->Option (Option Int×Mm)}:eX f l u env M=eG (fun d M1=>yj d (u env) (l env M1)) (f env M):=rfl
theorem ze5 {lo:Option Int}{q:Mm->Option (Option Int×Mm)}:yj d q (some (lo,M))=yh d lo (q M):=rfl
theorem Vi {lo hi:Option Int}:yh d lo (some (hi,M))=mapR M (zp d lo hi):=rfl
noncomputable def xV (k:Mm->O) (M:Mm):D->O
  | .lst ds => eG (fun e M2=>match e with
    |.int i=>if i.natAbs<=100000/\ds.length<=100 then some (.v (.lst (List.replicate i.toNat ds).flatten),M2) else none
    |_=>none) (k M)
  |_=>none
theorem zeE:j_ f g env M=eG (fun d M1=>xV (g env) M1 d) (f env M):=rfl
def ze8 {q:Mm->O}(h:q M=some (.v (.int i),M))(hi:i.natAbs<=100000/\ds.length<=100):xV q M (.lst ds)=some (.v (.lst (List.replicate i.toNat ds).flatten),M):=by
 unfold xV;rw[h];exact xad hi
end
end E3
namespace L2
open PySem PySem.Spec PyProof.Rows
def Zu (l b:Addr)(as bs:Array Value)(n n2:Nat)(dd2:Option Addr)(sl2:Array (Option Value))(h0:¬(!as.isEmpty && Builtin.List.listTooLong (as.size + bs.size))=true)(h1:as.size<=sizeLine)(h2:as.size + bs.size<=sizeLine + 1):
  Meets (Builtin.«list.extend» ⟨[.ref l,.ref b],[]⟩) (fun _ R s=>s.heap.get? l=some {cls:=.type "list",data:=.seq as n}/\s.heap.get? b=some ⟨.type "list",dd2,.seq bs n2,sl2⟩/\R (.ok (.ret Value.none)) {s with heap:=s.heap.update l (Obj.mapSeq fun x=>x ++ bs)}):=
 .of_wp fun prog w A R s h=>by
  obtain⟨hp,g,d,tk,os⟩:=s;obtain⟨hl,hb,h⟩:=h;have f1:=AutoSeq1.idx_int;have f2:=AutoSeq1.sub_tuple_tuple;have f3:=AutoSeq1.sub_list_list;have f4:=AutoSeq1.sub_tuple_list;have f5:=AutoSeq1.sub_list_tuple;have hz:(as ++ bs).size<=sizeLine + 1:=by rw[Array.size_append];lia
  wp_walk using (wpAny_updateSeq hl rfl (hz:=h1) (_hz':=hz)),xdO hl,xdO hb
  exact⟨_,rfl,h⟩
section
variable {X:Cx}
def zgp (K:Fgx):V->List V->Hp->VK->Prop:=fun x vs H Q=>∃l b xs zs,x=.ref l/\vs=[.ref b]/\H l=some (.lst xs)/\b_ K H b zs/\xs.length + zs.length<=sizeLine/\Q .non (upd H l (.lst (xs ++ zs)))
def zda:Dt X "list.extend" (zgp X.K):=by
 intro pins s σ H x vs v us Q I rx rv h;obtain⟨l,b,xs,zs,rfl,rfl,hH,hB,hz,q⟩:=h;cases rx;obtain⟨u,rfl,ru⟩:=rv.one;cases ru;obtain⟨z,its,n,r,hl,e⟩:=I.lstM hH;obtain⟨z2,its2,r2,⟨cls2,dd2,data2,sl2⟩,ho2,hc2,n2,hd2⟩:=E3.sql I hB;simp only at hc2 hd2;subst hc2 hd2;have hl2:=r2.length;have hsz:its.toArray.size + its2.toArray.size<=sizeLine:=by rw[xai,xai];lia
 refine xc4 F.slot_list_extend ⟨_,e,rfl⟩ F.entry_list_extend (F.args_list_extend_2 _ _) (Zu l b its.toArray its2.toArray n n2 dd2 sl2 (extend_door hsz) (by rw[xai];lia) (by lia)) ⟨e,ho2,?_⟩;refine⟨.non,_,I.lset (its':=its ++ its2) hH e (by simp) (r.append r2) ?_,rfl,q⟩;rw[xag];lia
end
end L2
namespace E3
open PySem PySem.Spec PyProof.Rows L2
section
variable {X:Cx}{Wx:XW}{pos:Pos}
noncomputable def gh (i:Nat) (f:E):S:=fun env M=>match env[i]? with
  |some (.own ds)=>bR (f env M) fun d M1=>match d with
    |.lst es=>if ds.length + es.length<=sizeLine then some (.nx (env.set i (.own (ds ++ es))),M1) else none
    |_=>none
  |_=>none
def Og {i:Nat}{x:Str}{e:Expr}{f:E}{p0 p q:Pos}(hN:X.N[i]? =some x)(hv:yD X.env.scope x)(he:SE X Wx .val e f)(hd:(x==("__debug__":Str))=false:=by x_go)(hcd:(x==("__classdict__":Str))=false:=by x_go)
    (hfew:((backTo q (starEach [e] X.env)).all (fun x=> !x.1) && (backToKw q (keywordEach [] X.env)).all (fun x=>x.1.isSome) && decide ([e].length + ([]:List Keyword).length + (if ([]:List Keyword).isEmpty then 0 else 1)<30))=true:=by rfl)
    (hline:(p.endLine==q.line)=true:=by rfl) (hs:starEach [e] X.env=(false,eval e X.env)::starEach [] X.env:=by rfl) (hw:swapsWith (.Call (.Attribute (.Name x p0) "extend" p) [e] [] q) none pos.line X.env=pure false:=by rfl):
    SS X Wx (.Expr (.Call (.Attribute (.Name x p0) "extend" p) [e] [] q) pos) (gh i f):=by
  refine gF (Fw (BR xbS PySem.F.slot_list_extend PySem.F.type_list_extend zda (Fq hN hv hd hcd) (pF he rY hs) rfl hfew hline hs rfl) hw) ?_;f_tup;unfold gh at e;kjx_on
  · rename_i ds es;obtain⟨a,vs,o1,o2,o3,o4⟩:=k.slot i _ es;refine⟨.ref a,tY o2,.inl ⟨rfl,vs,.inl (.inl o3)⟩,?_⟩;kas_ty
    · kjx_on
      · rename_i zs;kjx_on
        · rename_i hz;cases e;k_acc1;have k1:=k.next l1 h1
          obtain⟨a',vs',o1',o2',o3',o4'⟩:=k1.slot i _ es;have ea:a'=a:=by
            have z:=o2'.symm.trans o2;cases z;rfl
          subst ea;obtain⟨b,ws,rfl,r,is⟩:=i1;refine⟨a',b,vs',ws,rfl,rfl,o3',r.imp (fun z=>z.2) id,by rw[o4'.len,is.len];exact hz,?_⟩;obtain⟨l2,k2⟩:=k1.chg es (tY o1') o3' (aC.append o4' is);exact q _ _ _ _ ((l1.lt k.hk).trans l2) k2
        · cases e
      · cases e
    · tb_src
  · cases e
end
end E3
namespace E3
end E3
namespace E3
open PySem PySem.Spec PyProof.Rows L2
mutual
def D.nr:D->Bool
 |.tup xs=>D.nrs xs
 |.lst xs=>D.nrs xs
 |.ref _=>false
 |_=>true
def D.nrs:List D->Bool
 | []=>true
 |a::as=>D.nr a && D.nrs as
end
noncomputable def Pf:Pl:=⟨fun _=>0,0,fun _=>False⟩
section
variable {K:Fgx}{mg:Mgx}{P P':Pl}{H H':Hp}{M:Mm}
mutual
theorem Is.fre:∀{d:D} {v:V},D.nr d=true->Is K P H d v->Is K Pf H d v
 |.non,_,_,h=>h
 |.bl _,_,_,h=>h
 |.int _,_,_,h=>h
 |.str _,_,_,h=>h
 |.tup _,_,n,h=>by obtain⟨a,vs,e,s,q⟩:=h;exact⟨a,vs,e,s,aC.fre n q⟩
 |.lst _,_,n,h=>by obtain⟨a,vs,e,s,q⟩:=h;exact⟨a,vs,e,s.imp (fun z=>⟨fun z=>z,z.2⟩) id,aC.fre n q⟩
 |.ref _,_,n,_=>by cases n
theorem aC.fre:∀{ds:List D} {vs:List V},D.nrs ds=true->aC K P H ds vs->aC K Pf H ds vs
  | [],_,_,h=>h
  |_::_,_,n,h=>by
    obtain⟨v,r,e,p,q⟩:=h;have n:=xdc.mp n;exact⟨v,r,e,Is.fre n.1 p,aC.fre n.2 q⟩
end
mutual
theorem Is.lf_any:∀{d:D} {v:V},D.lf d=true->Is K P H d v->Is K P' H d v
 |.non,_,_,h=>h
 |.bl _,_,_,h=>h
 |.int _,_,_,h=>h
 |.str _,_,_,h=>h
 |.tup _,_,n,h=>by obtain⟨a,vs,e,s,q⟩:=h;exact⟨a,vs,e,s,aC.lf_any n q⟩
 |.lst _,_,n,_=>by cases n
 |.ref _,_,n,_=>by cases n
theorem aC.lf_any:∀{ds:List D} {vs:List V},D.lfs ds=true->aC K P H ds vs->aC K P' H ds vs
  | [],_,_,h=>h
  |_::_,_,n,h=>by
    obtain⟨v,r,e,p,q⟩:=h;have n:=xdc.mp n;exact⟨v,r,e,Is.lf_any n.1 p,aC.lf_any n.2 q⟩
end
end
section
variable {X:Cx}{Wx:XW}{m:Mode}{pos:Pos}
def bM (hr:Room k X.A)(h:X.A.units + 60<cLine->SB X Wx ss b):SB X Wx ss b:=h (xco (xee (by decide) _) hr.units)
def fK {e:Expr}{es:List Expr}{x:Str}{id:String}{r:List V->Hp->VK->Prop}{o:List D->Option D}{fs:EA}{p:Pos}(hc:dB X (.builtin id) r)(hg:Gl X x)(hm:X.mg x=none)(hv:bootBuiltins x=some (.builtin id))(po:lF X.K r o)(ha:SA X Wx .bor (e::es) fs)
  (hn:x≠"__name__":=by x_go) (hdb:(x==("__debug__":Str))=false:=by x_go) (he:starEach (e::es) X.env=(false,eval e X.env)::starEach es X.env:=by rfl) (hpl:(backTo pos (starEach es X.env)).any (·.1)=false:=by rfl):SE X Wx m (.Call (.Name x p) (e::es) [] pos) (sN o fs):=
 WR (fun _ ha=>La hc hg hm hv ha hn hdb he hpl) po ha
def CG (hc:dB X (.type T) r)(hg:Gl X x)(hm:X.mg x=none)(hv:bootBuiltins x=some (.type T))(po:lF X.K r o)(ha:SA X Wx .bor (e::es) fs)
  (hn:x≠"__name__":=by x_go) (hdb:(x==("__debug__":Str))=false:=by x_go) (he:starEach (e::es) X.env=(false,eval e X.env)::starEach es X.env:=by rfl) (hpl:(backTo pos (starEach es X.env)).any (·.1)=false:=by rfl):SE X Wx m (.Call (.Name x p) (e::es) [] pos) (sN o fs):=
 WR (fun _ ha=>Uy hc hg hm hv ha hn hdb he hpl) po ha
end
section
variable (P:Program)(w:World)(K:Fgx)(mg:Mgx)(base:Heap)(k:Nat)(f:Addr)(N:List Str)(q:Str)(st:Stmt)(b:S)
abbrev RT:Prop:=∀(cdv:Value) (A:Around) (outer:List PySem.Env) (s:Shared) (H:Hp) (E:XK),Room k (A.deeper (envOfC q (aL st) s.heap.objs.size f cdv))->SB (pY P w K mg base N q st f cdv A outer s H E) W0 (cB st) b
abbrev Hl:Prop:=∀(cdv:Value) (A:Around) (outer:List PySem.Env) (s:Shared) (H:Hp) (E:XK) (Wx:XW),Room k (A.deeper (envOfC q (aL st) s.heap.objs.size f cdv))->XFit (nU P w K mg base N q st f cdv A outer s H E) Wx->XPass (nU P w K mg base N q st f cdv A outer s H E) Wx->SB (nU P w K mg base N q st f cdv A outer s H E) Wx (cB st) b
end
def bN (h1:sc.kind=.function:=by rfl)(h2:sc.isCoroutine=false:=by rfl)(h3:sc.isGenerator=false:=by rfl)(h4:N.Nodup:=by x_go)(h5:N.take P.length=P:=by rfl)
  (h6:∀x∈P,sc.names.lookup x=some .local\/sc.names.lookup x=some .cell:=by x_go) (h7:∀y∈sc.names,y.2≠ .free:=by x_go):FnScope N P sc:=⟨h1,h2,h3,h4,h5,h6,h7⟩
abbrev LV (st:Stmt)(x:Str):Prop:=(aL st).names.lookup x=some .local
abbrev LC (st:Stmt)(x:Str):Prop:=(aL st).names.lookup x=some .cell
structure DefAt (K:Fgx)(mg:Mgx)(x:Str)(st:Stmt)(ps:List Str)(f:Addr)(fd:FuncData):Prop where
 mg:mg x=some (.ref f)
 F:FunD K x x st f fd
 b:Binds K fd ps []
def DefAt.ok {P:Program}{w:World}{K:Fgx}{mg:Mgx}{base:Heap}{k:Nat}{x:Str}{st:Stmt}{f:Addr}{fd:FuncData}{N ps:List Str}{b:S}(D:DefAt K mg x st ps f fd)(S:FnScope N ps (aL st))(hr:RT P w K mg base k f N x st b)(hp:ps.length<=N.length:=by decide):bB P w K mg base (k + 1) x ps.length (bA N.length b):=ZQ D.F S hp D.mg D.b hr
def cH (K:Fgx)(x:Str)(st:Stmt):Prop:=∃(f:Addr) (oc kV dc pm cd ct:Value) (od an:Option Addr) (sl:Array (Option Value)),PySem.W.nsIn K mainGlobals x=some (some (.ref f))/\K.lookup f=some ⟨oc,od,.func (PySem.W.fnOf x x (dh st) (cB st) (aL st) .none kV dc pm an cd ct),sl⟩/\PySem.W.codeIn K cd x=true/\PySem.W.keepIn K (.ref f)=true
def cH.mk {K:Fgx}{x:Str}{st:Stmt}{f:Addr}{oc kV dc pm cd ct:Value}{od an:Option Addr}{sl:Array (Option Value)}(a:PySem.W.nsIn K mainGlobals x=some (some (.ref f)))(l:K.lookup f=some ⟨oc,od,.func (PySem.W.fnOf x x (dh st) (cB st) (aL st) .none kV dc pm an cd ct),sl⟩)(c:PySem.W.codeIn K cd x=true)(k:PySem.W.keepIn K (.ref f)=true):cH K x st:=⟨f,oc,kV,dc,pm,cd,ct,od,an,sl,a,l,c,k⟩
def cH.at {K:Fgx}{h:Heap}{mg:Mgx}{x:Str}{st:Stmt}{ps:List Str}(F:cH K x st)(X:K.In h)(G:h.Ns mainGlobals mg)
  (hb:∀(kV doc pm:Value) (an:Option Addr) (cdv ct:Value) (us:List Value),us.length=ps.length->bindArgs (PySem.W.fnOf x x (dh st) (cB st) (aL st) .none kV doc pm an cdv ct) ⟨us,[]⟩=pure (ps.zip us)):∃f fd,DefAt K mg x st ps f fd:=by
 obtain⟨f,oc,kV,dc,pm,cd,ct,od,an,sl,a,l,c,k⟩:=F;exact⟨f,_,PySem.W.mg_of X G a,Ab l c k,(Em (st:=st) l c k).binds hb⟩
end E3
namespace L2
open PySem PySem.Spec PyProof.Rows
abbrev TH:=Ends->Addr->Addr->Option Addr->St->Hp->Prop
def HB (X:Cx)(hs:List ExceptHandler)(t:TH):Prop:=∀(pins:Pnx) (s:Shared) (σ:St) (H:Hp) (a C:Addr) (dx:Option Addr) (T:Addr) (D:Ends),
 Caught X pins σ H s a C dx T->dX X.K C=true->X.A.handled=none->t D C a dx σ H->wpAny (model X.prog X.w) X.A (handleBy (.ref a) X.env hs) (SP X pins D) X.xe s
end L2
namespace E3
open PySem PySem.Spec PyProof.Rows L2
abbrev HE:=Str->Int->Env->Mm->OS
section
variable {X:Cx}{Wx:XW}{m:Mode}{pos:Pos}
noncomputable def tH (X:Cx) (hh:HE):TH:=fun D C a dx st H=>∃P0 H0 P Os env M c n out M',Ok X.K X.mg P0 H0 P Os H M st env/\X.mg c=some (.ref C)/\P_ X.K X.mg P H none (some (.ref a)) (.exc c n)/\hh c n env M=some (out,M')/\Post X.K X.mg W0 P0 H0 P H M' D out
def G9 (out:Out):Prop:=(∃e,out=.nx e)\/∃d,out=.rt d
structure SH (X:Cx)(hs:List ExceptHandler)(hh:HE):Prop where
 hb:HB X hs (tH X hh)
 ok:∀c n env M out M',hh c n env M=some (out,M')->(∃C,X.mg c=some (.ref C)/\dX X.K C=true)/\G9 out
variable {suite:List Stmt}{b0:Stmt}{cn n:Str}{np hp:Pos}{c:Addr}{i:Nat}{h:S}{hs:List ExceptHandler}{r:HE}{cat:Str->Option Bool}
end
end E3
namespace L2
open PySem PySem.Spec PyProof.Rows
section
variable {X:Cx}{e:Expr}{es:List Expr}{te:TE}{t:TA}{pos:Pos}
open Builtin Builtin.Str in
open Builtin Builtin.Str in
open Builtin Builtin.Str in
end
end L2
namespace E3
open PySem PySem.Spec PyProof.Rows L2
section
variable {X:Cx}{Wx:XW}{m:Mode}
theorem Sv {P:Program}{w:World}{K:Fgx}{mg:Mgx}{base:Heap}{N:List Str}{q:Str}{st:Stmt}{f:Addr}{cdv:Value}{A:Around}{outer:List PySem.Env}{s:Shared}{H:Hp}{E:XK}{i:Nat}{x:Str}{pos:Pos}(hN:N[i]? =some x:=by rfl)(hv:LV st x:=by kernel_rfl)(hd:(x==("__debug__":Str))=false:=by x_go)(hcd:(x==("__classdict__":Str))=false:=by x_go):SE (pY P w K mg base N q st f cdv A outer s H E) Wx m (.Name x pos) (aj i):=yg hN hv hd hcd
theorem Lv {P:Program}{w:World}{K:Fgx}{mg:Mgx}{base:Heap}{N:List Str}{q:Str}{st:Stmt}{f:Addr}{cdv:Value}{A:Around}{outer:List PySem.Env}{s:Shared}{H:Hp}{E:XK}{x:Str}(hv:LV st x:=by kernel_rfl):Loc (pY P w K mg base N q st f cdv A outer s H E).env.scope x:=.inl hv
theorem Sw {P:Program}{w:World}{K:Fgx}{mg:Mgx}{base:Heap}{N:List Str}{q:Str}{st:Stmt}{f:Addr}{cdv:Value}{A:Around}{outer:List PySem.Env}{s:Shared}{H:Hp}{E:XK}{i:Nat}{x:Str}{pos:Pos}(hN:N[i]? =some x:=by rfl)(hv:LV st x:=by kernel_rfl)(hd:(x==("__debug__":Str))=false:=by x_go)(hcd:(x==("__classdict__":Str))=false:=by x_go):SE (nU P w K mg base N q st f cdv A outer s H E) Wx m (.Name x pos) (aj i):=yg hN hv hd hcd
theorem Lw {P:Program}{w:World}{K:Fgx}{mg:Mgx}{base:Heap}{N:List Str}{q:Str}{st:Stmt}{f:Addr}{cdv:Value}{A:Around}{outer:List PySem.Env}{s:Shared}{H:Hp}{E:XK}{x:Str}(hv:LV st x:=by kernel_rfl):Loc (nU P w K mg base N q st f cdv A outer s H E).env.scope x:=.inl hv
theorem Su {i:Nat}{x:Str}{pos:Pos}(hN:X.N[i]? =some x:=by rfl)(hv:X.env.scope.names.lookup x=some .local:=by kernel_rfl)(hd:(x==("__debug__":Str))=false:=by x_go)(hcd:(x==("__classdict__":Str))=false:=by x_go):SE X Wx m (.Name x pos) (aj i):=yg hN hv hd hcd
theorem Lu {a b:Prop}(h:a:=by kernel_rfl):a\/b:=.inl h
def Ei {i:Int}{j pos}:SE X Wx m (.Constant (.int i) j pos) (ak (.int i)):=gk zdz
def Es {z:Str}{j pos}:SE X Wx m (.Constant (.str z) j pos) (ak (.str z)):=CK ze7
def Eb {b:Bool}{j pos}:SE X Wx m (.Constant (.bool b) j pos) (ak (.bl b)):=N7 zgh
def Ek {a b:Expr}{pos:Pos}{f g:E}(ha:SE X Wx .bor a f)(hb:SE X Wx .bor b g)(hs:Hf b:=by exact fun _ _=>rfl):SE X Wx m (.Subscript a b pos) (s2 aM f g):=zgz zeX zgc ha hb hs
def Cm {a b:Expr}{op:CmpOp}{c:Cp}{pos:Pos}{f g:E}(hu:X.A.units + 60<cLine)(ha:SE X Wx .bor a f)(hb:SE X Wx .bor b g)(ho:op=Jd c:=by rfl)(hm:behindInMarks op b=false:=by rfl):SE X Wx m (.Compare a [op] [b] pos) (s2 (aG c) f g):=by subst ho;exact WT (wI hu c) xK ha hb hm
def Ct {a b:Expr}{op:CmpOp}{c:Cp}{pos:Pos}{f g:E}(hu:X.A.units + 60<cLine)(ha:SE X Wx .bor a f)(hb:SE X Wx .bor b g)(ho:op=Jd c:=by rfl)(hm:behindInMarks op b=false:=by rfl):ST X Wx (.Compare a [op] [b] pos) (s2 (aG c) f g):=by subst ho;exact CW (wI hu c) xK ha hb hm
end
section
variable {P:Program}{w:World}{K:Fgx}{h base:Heap}{mg:Mgx}{k:Nat}{x:Str}{st:Stmt}{N ps:List Str}{b:S}
abbrev HB (x:Str)(st:Stmt)(ps:List Str):Prop:=∀(kV doc pm:Value) (an:Option Addr) (cdv ct:Value) (us:List Value),us.length=ps.length->bindArgs (PySem.W.fnOf x x (dh st) (cB st) (aL st) .none kV doc pm an cdv ct) ⟨us,[]⟩=pure (ps.zip us)
def G3 {a0:Str}(h:∀{kV doc pm:Value} {an:Option Addr} {cdv ct u0:Value},bindArgs (PySem.W.fnOf x x (dh st) (cB st) (aL st) .none kV doc pm an cdv ct) ⟨[u0],[]⟩=pure [(a0,u0)]):HB x st [a0]:=fun _ _ _ _ _ _ us hl=>match us,hl with | [_],_=>h
def G4 {a0 a1:Str}(h:∀{kV doc pm:Value} {an:Option Addr} {cdv ct u0 u1:Value},bindArgs (PySem.W.fnOf x x (dh st) (cB st) (aL st) .none kV doc pm an cdv ct) ⟨[u0,u1],[]⟩=pure [(a0,u0),(a1,u1)]):HB x st [a0,a1]:=fun _ _ _ _ _ _ us hl=>match us,hl with | [_,_],_=>h
def G5 {a0 a1 a2:Str}(h:∀{kV doc pm:Value} {an:Option Addr} {cdv ct u0 u1 u2:Value},bindArgs (PySem.W.fnOf x x (dh st) (cB st) (aL st) .none kV doc pm an cdv ct) ⟨[u0,u1,u2],[]⟩=pure [(a0,u0),(a1,u1),(a2,u2)]):HB x st [a0,a1,a2]:=fun _ _ _ _ _ _ us hl=>match us,hl with | [_,_,_],_=>h
def G6 {a0 a1 a2 a3:Str}(h:∀{kV doc pm:Value} {an:Option Addr} {cdv ct u0 u1 u2 u3:Value},bindArgs (PySem.W.fnOf x x (dh st) (cB st) (aL st) .none kV doc pm an cdv ct) ⟨[u0,u1,u2,u3],[]⟩=pure [(a0,u0),(a1,u1),(a2,u2),(a3,u3)]):HB x st [a0,a1,a2,a3]:=fun _ _ _ _ _ _ us hl=>match us,hl with | [_,_,_,_],_=>h
theorem cH.ok (F:cH K x st)(X:K.In h)(G:h.Ns mainGlobals mg)(S:FnScope N ps (aL st))(hr:∀f,RT P w K mg base k f N x st b)
  (hb:HB x st ps:=by first |exact G3 rfl |exact G4 rfl |exact G5 rfl |exact G6 rfl |exact HB5 rfl) (hp:ps.length<=N.length:=by decide):bB P w K mg base (k + 1) x ps.length (bA N.length b):=by
 obtain⟨f,d,D⟩:=F.at X G hb;exact D.ok S (hr f) hp
def cH.okX (F:cH K x st)(X:K.In h)(G:h.Ns mainGlobals mg)(S:FnScope N ps (aL st))(hr:∀f,Hl P w K mg base k f N x st b)
  (hb:HB x st ps:=by first |exact G3 rfl |exact G4 rfl |exact G5 rfl |exact G6 rfl |exact HB5 rfl) (hp:ps.length<=N.length:=by decide):lB P w K mg base (k + 1) x ps.length (bA N.length b):=by
 obtain⟨f,d,D⟩:=F.at X G hb;exact⟨_,_,_,D.mg,D.F.kp,ZW D.F S hp (hr f),D.b⟩
def bB.up {j n:Nat}{g:G}(a:bB P w K mg base j x n g)(h:j<=k:=by decide):bB P w K mg base k x n g:=a.mono h
def lB.up {j n:Nat}{g:G}(a:lB P w K mg base j x n g)(h:j<=k:=by decide):lB P w K mg base k x n g:=a.mono h
def kJ.up {j n:Nat}{C:Addr}{g:G}(a:kJ P w K mg base j C n g)(h:j<=k:=by decide):kJ P w K mg base k C n g:=a.mono h
def bJ.up {j n:Nat}{C:Addr}{m:Str}{g:G}(a:bJ P w K mg base j C m n g)(h:j<=k:=by decide):bJ P w K mg base k C m n g:=a.mono h
def o_ {K:Fgx}{t:Addr}{d m s j0 j1 j2}{a b:Str}{i:Int}(l:K.lookup t=some ⟨.type "tuple",d,.seq #[.str a j0,.str b j1,.int i j2] m,s⟩):∀P H,Is K P H (.tup [.str a,.str b,.int i]) (.ref t):=S6 (vs:=[.str a,.str b,.int i]) l rfl rfl (by show 3<=sizeLine;decide) (.cons ⟨_,rfl⟩ (.cons ⟨_,rfl⟩ (.cons ⟨_,rfl⟩ .nil))) (fun _ _=>⟨_,_,rfl,rfl,⟨_,_,rfl,rfl,⟨_,_,rfl,rfl,rfl⟩⟩⟩)
end
end E3
namespace L2
open PySem PySem.Spec PyProof.Rows
end L2
namespace E3
open PySem PySem.Spec PyProof.Rows L2
end E3
namespace L2
open PySem PySem.Spec PyProof.Rows
end L2
namespace E3
open PySem PySem.Spec PyProof.Rows L2
end E3
namespace L2
open PySem PySem.Spec PyProof.Rows
end L2
namespace E3
open PySem PySem.Spec PyProof.Rows L2
section
variable {X:Cx}{Wx:XW}{m:Mode}{pos:Pos}
noncomputable def lY (j:Nat) (q e:E) (env:Env):Nat->Nat->List D->Mm->Option (List D×Mm)
  |0,_,_,_=>none
  |n + 1,t,acc,M=>match M[j]? with
    | some (.lst ds) => (match ds[t]? with
      |none=>some (acc,M)
      | some d => (match q (.val d::env) M with
        | some (.v (.bl true), M2) => (match e (.val d::env) M2 with
          |some (.v y,M3)=>if acc.length + 1<sizeLine then lY j q e env n (t + 1) (acc ++ [y]) M3 else none
          |_=>none)
        |some (.v (.bl false),M2)=>lY j q e env n (t + 1) acc M2
        |_=>none))
    |_=>none
noncomputable def sI (n:Nat) (cs:List (Str×Nat)) (f q e:E):E:=fun env M=>bnd (f env M) fun d M1=>match d with
  | .ref j => (match lY j q e (cj cs env) n 0 [] M1 with
    |some (ys,M2)=>some (.v (.lst ys),M2)
    |none=>none)
  |_=>none
def Zb {K:Fgx}{mg:Mgx}{n:Nat}{cs:List (Str×Nat)}{f q e:E}{P0 P:Pl}{H0 H:Hp}{Os:List (Option Addr)}{M M':Mm}{st:L2.St}{env:Env}{r:Res}{R:Addr->Hp->Prop}(nd:(cs.map (·.2)).Nodup)
    (k:Ok K mg P0 H0 P Os H M st env) (ee:sI n cs f q e env M=some (r,M')) (w:NR K mg Wx P0 H0 P H M' R r):zE (Sh K (tE K mg Wx .val f)) (pK K mg W0 q) (tE K mg W0 .val e) cs st H R:=by
  unfold sI at ee;rcases cA ee with⟨d,M1,e1,ee⟩ |⟨c,n,e1,rfl⟩
  · split at ee
    · rename_i j;split at ee
      · rename_i ys M2 ec;cases ee;obtain⟨ds',e',w⟩:=w;cases e';refine⟨P0,H0,P,Os,env,M,_,_,k,e1,fun P1 v1 H1 l1 h1 i1=>?_⟩;kpa_ne;have hl:∃vs,b_ K H1 (P1.io j) vs:=by
          cases n with
          |zero=>cases ec
          |succ n=>
            simp only[lY]at ec;split at ec
            · rename_i ds em;obtain⟨vs,ev,is⟩:=h1.cell j _ em;exact⟨vs,.inl (.inl ev)⟩
            · cases ec
        refine ⟨P1.io j, rfl, hl, fun D hD => ?_⟩;obtain ⟨l2, h2, nc⟩ := yG (vs := []) h1 hD;refine ⟨fun i m vs H2=>∃P2 M3 acc,LtE P1 H1 P2 H2/\Hk K mg P2 H2 M3/\P2.bd D/\(∀k,k<P2.n->P2.io k≠D)/\H2 D=some (.lst vs)/\aC K P2 H2 acc vs/\acc.length<sizeLine/\lY j q e (cj cs env) m i acc M3=some (ys,M'),
          ⟨n,P1.bar D,M1,[],l2,h2,.inr rfl,nc,cu,rfl,by x_go,ec⟩,?_⟩
        rintro i m vs H2 ⟨P2,M3,acc,l3,h3,bD,nD,eD,is,hz,ec⟩;refine⟨eD,?_⟩
        cases m with
        |zero=>cases ec
        |succ m=>
          simp only[lY]at ec;split at ec
          · rename_i ds em;obtain⟨us,ev,iu⟩:=h3.cell j _ em;rw[l3.io j jl]at ev;have sq:b_ K H2 (P1.io j) us:=.inl (.inl ev);split at ec
            · rename_i et;cases ec;exact .inl ⟨⟨us,sq,by rw[iu.len];exact List.getElem?_eq_none_iff.mp et⟩,w P2 D vs H2 (l1.trans l3) h3 (l1.sure D hD) bD nD eD is⟩
            · rename_i d et;obtain ⟨v, evt, iv⟩ := iu.get et;refine .inr ⟨⟨us,v,sq,evt⟩,by rw[is.len];exact hz,fun vs' H'=>∃P2 M3 acc,LtE P1 H1 P2 H'/\Hk K mg P2 H' M3/\P2.bd D/\(∀k,k<P2.n->P2.io k≠D)/\H' D=some (.lst vs')/\aC K P2 H' acc vs'/\acc.length<sizeLine/\lY j q e (cj cs env) m (i + 1) acc M3=some (ys,M'),
                fun vs' H' z=>⟨m,xbl _,z⟩,fun x' H' y=>?_⟩
              obtain⟨rfl,hy⟩:=y;have ex':v=x':=xaA (evt.symm.trans (hy us sq));subst ex';have kk:=((k.next l1 h1).next l3 h3).cap (cs:=cs) nd iv
              split at ec
              · rename_i M4 eq;refine fL kk eq ⟨true,rfl,fun P4 H4 l4 h4=>?_⟩;dsimp only;rw[xad rfl];have k4:=kk.next l4 h4
                have eD4:H4 D=some (.lst vs):=l4.keep D _ eD (.inr nD);have nD4:∀k,k<P4.n->P4.io k≠D:=l4.nc eD nD;have bD4:=l4.bm D bD;have is4:=aC.lt (l4.lt h3) is;split at ec
                · rename_i y' M5 ey;split at ec
                  · rename_i hz';refine aX k4 ey fun P5 v5 H5 l5 h5 i5=>?_;have eD5:H5 D=some (.lst vs):=l5.keep D _ eD4 (.inr nD4);have nD5:∀k,k<P5.n->P5.io k≠D:=l5.nc eD4 nD4;obtain⟨g1,g2,g3⟩:=R7 (vs':=vs ++ [v5]) (l3.trans (l4.trans l5)) h5 hD (l5.bm D bD4) nD5 eD5;exact⟨eD5,P5,M5,acc ++ [y'],g2,g3,l5.bm D bD4,nD5,cu,aC.append (aC.lt ((l5.lt h4).trans g1) is4) (aC.one (Is.lt g1 i5)),by rw[xag];exact hz',ec⟩
                  · cases ec
                · cases ec
              · tb_any
              · cases ec
          · cases ec
      · cases ee
    · cases ee
  · exact⟨P0,H0,P,Os,env,M,_,_,k,e1,w⟩
theorem Xd (n:Nat)(x:Str)(cs:List (Str×Nat)){px:Pos}{iter elt:Expr}{ifs:List Expr}{scope:Scope}{f q e:E}(hc:X.calm=true)(nd:(cs.map (·.2)).Nodup)(hi:SE X Wx .val iter f)
  (hq:∀(cl:List (Str×Addr)) (C:Addr) (s₀:Shared) (H₀:Hp) (ex:List Addr) (pn:Pnx),SQ (cP X (x::cs.map (·.1)) scope cl C s₀ H₀ ex pn) ifs q)
  (he:∀(cl:List (Str×Addr)) (C:Addr) (s₀:Shared) (H₀:Hp) (ex:List Addr) (pn:Pnx),SE (cP X (x::cs.map (·.1)) scope cl C s₀ H₀ ex pn) W0 .val elt e)
  (ok:yH X.N X.env.scope x cs scope=true:=by kernel_rfl) (hs:∀x,foldedSetIterable iter X.env x=pure x:=by intro _;rfl):
  SN X Wx (.ListComp elt [⟨.Name x px,iter,ifs,0⟩] scope pos) (sI n cs f q e):=by
 refine cD (Uz (tq:=pK X.K X.mg W0 q) (te:=tE X.K X.mg W0 .val e) x cs hc (UL hi) hq he ok hs) ?_;rintro st H Q ⟨P0,H0,P,Os,env,M,r,M',k,ee,w⟩;refine Zb nd k ee ?_
 cases r with
 |v d=>exact w
 |x c n=>exact w
noncomputable def pW (j:Nat) (e:E) (env:Env):Nat->Nat->List D->Mm->Option (List D×Mm)
  |0,_,_,_=>none
  |n + 1,t,acc,M=>match M[j]? with
    | some (.lst ds) => (match ds[t]? with
      |none=>some (acc,M)
      | some d => (match e (.val d::env) M with
        |some (.v y,M2)=>if acc.length + 1<sizeLine then pW j e env n (t + 1) (acc ++ [y]) M2 else none
        |_=>none))
    |_=>none
noncomputable def lU (n:Nat) (cs:List (Str×Nat)) (f e:E):E:=fun env M=>bnd (f env M) fun d M1=>match d with
  | .ref j => (match pW j e (cj cs env) n 0 [] M1 with
    |some (ys,M2)=>some (.v (.lst ys),M2)
    |none=>none)
  |_=>none
def QW {n:Nat}{cs:List (Str×Nat)}{f e:E}:∀env M r M',lU n cs f e env M=some (.v r,M')->∃ds,r=.lst ds:=fun env M r M' h=>by
 unfold lU at h;rcases cA h with⟨d,M1,e1,h⟩ |⟨c,n,e1,h⟩
 ·krn_ne
  ·krn_ne
   ·cases h;exact⟨_,rfl⟩
   ·cases h
  ·cases h
 ·cases h
theorem QV {j:Nat}{e:E}{env:Env}:∀(n t:Nat) (acc:List D) (M:Mm),pW j e env n t acc M=lY j (ak (.bl true)) e env n t acc M
  |0,_,_,_=>rfl
  |n + 1,t,acc,M=>by
    simp only[pW,lY,ak,QV n]
def zbI {n:Nat}{cs:List (Str×Nat)}{f e:E}:lU n cs f e=sI n cs f (ak (.bl true)) e:=by
 funext env M;simp only[lU,sI,QV]
theorem Xc (n:Nat)(x:Str)(cs:List (Str×Nat)){px:Pos}{iter elt:Expr}{scope:Scope}{f e:E}(hc:X.calm=true)(nd:(cs.map (·.2)).Nodup)(hi:SE X Wx .val iter f)
  (he:∀(cl:List (Str×Addr)) (C:Addr) (s₀:Shared) (H₀:Hp) (ex:List Addr) (pn:Pnx),SE (cP X (x::cs.map (·.1)) scope cl C s₀ H₀ ex pn) W0 .val elt e)
  (ok:yH X.N X.env.scope x cs scope=true:=by kernel_rfl) (hs:∀x,foldedSetIterable iter X.env x=pure x:=by intro _;rfl):
  SN X Wx (.ListComp elt [⟨.Name x px,iter,[],0⟩] scope pos) (lU n cs f e):=by
 rw[zbI];exact Xd n x cs hc nd hi (fun _ _ _ _ _ _=>vp) he ok hs
end
end E3
namespace E3
open PySem L2
section
variable {env:Env}{M M1 M2 M3 M4:Mm}{f g h v:E}{d e x y:D}{i:Int}{n k:Nat}{ds es:List D}{kvs:List (Key×D)}{key:Key}
theorem Q0 {j:Nat}{e:E}(F:D->D)(hM:M[j]? =some (.lst ds))(he:∀d∈ds,e (.val d::env) M=some (.v (F d),M)):∀(n t:Nat) (acc:List D),ds.length - t<n->t<=ds.length->acc.length + (ds.length - t)<sizeLine->pW j e env n t acc M=some (acc ++ (ds.drop t).map F,M)
  |0,t,acc,h,_,_=>absurd h (xc7 _)
  |n + 1,t,acc,h,ht,hl=>by
    by_cases q:t<ds.length
    · simp only[pW,hM,xab q,he _ (xaY q)];rw[xad (by lia),Q0 F hM he n (t + 1) (acc ++ [F ds[t]]) (by lia) q (by rw[xag,xaJ];lia),xaV q,xaP,xao];rfl
    · simp only[pW,hM,xbt (xbK q)];rw[xdY (xbK q)]
      simp
def YH {cs:List (Str×Nat)}{j:Nat}{e:E}(F:D->D)(h1:f env M=some (.v (.ref j),M1))(hM:M1[j]? =some (.lst ds))(he:∀d∈ds,e (.val d::cj cs env) M1=some (.v (F d),M1))(hn:ds.length<n)(hl:ds.length<sizeLine):
  lU n cs f e env M=some (.v (.lst (ds.map F)),M1):=by
 simp only[lU,bnd,h1,Q0 F hM he n 0 [] (by lia) (xbz _) (by simpa using hl),xcw,xbe]
end
end E3
namespace L2
open PySem PySem.Spec PyProof.Rows
end L2
namespace E3
open PySem PySem.Spec PyProof.Rows L2
end E3
namespace E3
open PySem PySem.Spec PyProof.Rows L2 PySem.W
section
variable {n:Nat}{lt:Nat->Nat->Option Bool}{le:Nat->Nat->Prop}
def Pm (n:Nat)(p:Array Nat):Prop:=p.Perm (List.range n).toArray
def Up (le:Nat->Nat->Prop)(p:Array Nat)(m:Nat):Prop:=∀i j,i<=j->j<m->le (p.getD i 0) (p.getD j 0)
def Dn (le:Nat->Nat->Prop)(p:Array Nat)(m:Nat):Prop:=∀i j,i<=j->j<m->le (p.getD j 0) (p.getD i 0)
def Al (le:Nat->Nat->Prop)(p:Array Nat)(m q:Nat):Prop:=∀i j,m - (q + 1)<=i->i<m->m - (q + 1)<=j->j<m->le (p.getD i 0) (p.getD j 0)
variable (hn:0<n)(rf:∀i,le i i)(tr:∀i j k,le i j->le j k->le i k)(H:∀i j,i<n->j<n->∃b,lt i j=some b/\(b=true->le i j)/\(b=false->le j i))
include rf tr
include hn H
end
end E3
namespace L2
open PySem PySem.Spec PyProof.Rows
section
variable {X:Cx}
def Qy:X.calm=true->dB X (.builtin "min") (fun xs H Q=>∃(p:Addr) (is:List Int),xs=[.ref p]/\0<is.length/\b_ X.K H p (is.map V.int)/\∀m,m∈is->(∀a∈is,m<=a)->Q (.int m) H):=by
 intro hc pins s σ H xs us Q I r h;obtain⟨p,is,rfl,hne,hq,q⟩:=h;o_norm;obtain⟨its,rv,pl,hz⟩:=I.list hq;have hi:=Sx rv;have hn:=hi.numsOf;have hlen:=rv.length;rw[xan]at hlen;obtain⟨zs,hzs⟩:=hi.allInts.items;have hl:=pl.isList;have e1:numsOf its.toArray.toList=is:=hn;rw[hzs]at hl e1;have hs:0<zs.size:=by
  have:its.toArray.size=zs.size:=by rw[hzs];simp[intItems]
  rw[xai]at this;lia
 rw[nums_intItems]at e1;refine min_intList (I.ok.hd hc) hl hs fun v h' tk hv hk=>?_;obtain⟨t,rfl⟩:=intItems_at hv;obtain⟨h1,h2⟩:=argBest_lt (numAt zs) (zs.size - 1);refine⟨.int _,H,I.kept hk,⟨t,rfl⟩,q _ ?_ fun a ha=>?_⟩
 ·rw[<-e1,numAt_eq];exact getD_mem (by rw[xan,xau];lia)
 ·rw[<-e1]at ha;obtain⟨j,hj,rfl⟩:=mem_getD ha;rw[xan,xau]at hj;rw[<-numAt_eq];exact h2 j (by lia)
end
end L2
namespace E3
open PySem PySem.Spec PyProof.Rows L2
noncomputable def aV:List Int->Int
 | []=>0
 | [a]=>a
 |a::b::r=>min a (aV (b::r))
theorem Iv {m:Int}:∀(l:List Int),l≠ []->(∀a∈l,m<=a)->m<=aV l
  | [],z,_=>absurd rfl z
  | [c],_,g=>g c (by simp)
  |c::d::l,_,g=>by
    have h1:=g c (by simp);have h2:=Iv (d::l) (by simp) fun a ha=>g a (xat _ ha);unfold aV;lia
theorem Qt:∀{is:List Int} {m:Int},m∈is->(∀a∈is,m<=a)->aV is=m
  | [],_,h,_=>by cases h
  | [a],m,h,_=>by rw[xaM]at h;exact h.symm
  |a::b::r,m,h,g=>by
    have ha:=g a (xaT ..);have hb:=Iv (b::r) (by simp) fun a ha=>g a (xat _ ha);unfold aV;rcases xaO.mp h with rfl |h
    · lia
    · have:=Qt h fun a ha=>g a (xat _ ha);lia
noncomputable def wB:List D->Option D
  | [.lst ds]=>match tX ds with
    |some is=>if 0<is.length then some (.int (aV is)) else none
    |none=>none
  |_=>none
def U5 {K:Fgx}:lF K (fun xs H Q=>∃(p:Addr) (is:List Int),xs=[.ref p]/\0<is.length/\b_ K H p (is.map V.int)/\∀m,m∈is->(∀a∈is,m<=a)->Q (.int m) H) wB:=fun P H ds z vs Q h i _ q=>by
 unfold wB at h;krn_ne
 ·krn_ne
  ·rename_i is ei;krn_ne
   ·rename_i hl;cases h;kim_at;obtain⟨a,us,rfl,r,s⟩:=p;have eu:=JT ei s;subst eu;exact⟨a,is,rfl,hl,r,fun m h1 h2=>by rw[<-Qt h1 h2];exact q _ H (Same.refl H) rfl⟩
   ·cases h
  ·cases h
 ·cases h
section
variable {X:Cx}{Wx:XW}{m:Mode}{pos:Pos}{K:Fgx}
def Od {a b:Expr}{f g:E}(hl:SN X Wx a f)(hr:SE X Wx .val b g):SN X Wx (.BinOp a .Mult b pos) (j_ f g):=by
  refine cD (UG zdN hl hr) ?_;k_go;unfold j_ at e;by_in
  · kjx_on
    · rename_i ds;refine⟨P0,H0,P,Os,env,M,_,_,k,e1,ds,rfl,fun P1 a vs H1 l1 h1 ha ba nc ea is=>?_⟩;rcases cA e with⟨d2,M2,e2,e⟩ |⟨c,n,e2,rfl⟩
      · kjx_on
        · rename_i i;kjx_on
          · rename_i hi;cases e;obtain⟨ds',e',q⟩:=q;cases e';refine⟨P0,H0,P1,Os,env,M1,_,_,k.next l1 h1,e2,fun P2 v2 H2 l2 h2 i2=>?_⟩
            have ev:v2=.int i:=i2;subst ev;have e3:=l2.keep a _ ea (.inr nc);have is2:=aC.lt (l2.lt h1) is;have ln:vs.length=ds.length:=is.len;refine⟨a,i,vs,rfl,rfl,e3,by lia,by lia,?_,fun p hp=>?_⟩
            · rw[xa8,ln];have:ds.length * i.toNat<=100 * 100000:=Nat.mul_le_mul hi.2 (by lia);lia
            · obtain⟨l3,h3,nc3⟩:=yG (vs:=(List.replicate i.toNat vs).flatten) h2 hp;exact q (P2.bar p) p _ _ (l1.trans (l2.trans l3)) h3 ((l1.trans l2).sure p hp) (.inr rfl) nc3 cu (aC.lt (l3.lt h2) (is2.rep _))
          · cases e
        · cases e
      · exact⟨P0,H0,P1,Os,env,M1,_,_,k.next l1 h1,e2,q⟩
    · cases e
  · kj_on
end
section
variable {X:Cx}{Wx:XW}
def XP (X:Cx)(D:Ends)(f:Flow)(s':Shared):Prop:=match f with
 |.ret u=>∃v H',s'.os=X.s₀.os/\AllBare s'.gens/\Un X.fs [] X.H₀ H' X.s₀.heap s'.heap/\cJ X.prog X.w H' s'.heap/\RelV v u/\D.rt v H'
 |.brk=>∃σ' H',D.bk σ' H'
 |.cont=>∃σ' H',D.ct σ' H'
 |.next=>False
def PX (X:Cx)(b:List Stmt)(t:TS):Prop:=∀(s:Shared) (σ:L2.St) (H:Hp) (D:Ends),Inv X [] σ H s->t D σ H->wpAny (model X.prog X.w) X.A (execs b X.env) (XP X D) X.xe s
def zcM {st:Stmt}{rest:List Stmt}{t u:TS}(hx:X.ex=[])(h1:PS X st t)(h2:PX X rest u):PX X (st::rest) (Df t u):=by
  intro s σ H D I h;refine xcS (aU (h1 [] s σ H {D with nx:=u D} I h) fun f s1 q=>?_)
  cases f with
  |next=>
    obtain⟨σ',H',I',q⟩:=q;exact h2 s1 σ' H' D I' q
  |ret v=>
    obtain⟨v,σ',H',J,r,q⟩:=q;exact⟨v,H',J.os,J.bare,hx ▸ J.base,J.hok,r,q⟩
  |brk=>
    obtain⟨σ',H',_,q⟩:=q;exact⟨σ',H',q⟩
  |cont=>
    obtain⟨σ',H',_,q⟩:=q;exact⟨σ',H',q⟩
def tu (X:Cx)(Wx:XW)(b:List Stmt)(f:S):Prop:=PX X b (tS X.K X.mg Wx f)
def N6 {s:Stmt}{ss:List Stmt}{f g:S}(hx:X.ex=[])(h1:SS X Wx s f)(h2:tu X Wx ss g):tu X Wx (s::ss) (aq f g):=by
  intro s0 σ0 Hh D I hh;refine zcM hx h1 h2 s0 σ0 Hh D I ?_;obtain⟨P0,H0,P,Os,env,M,out,M',k,e,q⟩:=hh;unfold aq at e;kjx_on
  · rename_i e1 M1 ef;refine⟨P0,H0,P,Os,env,M,_,_,k,ef,fun P1 Os1 H1 st1 l1 k1=>?_⟩;exact⟨P0,H0,P1,Os1,e1,M1,_,_,k1,e,q.lt l1⟩
  · rename_i o ho
    cases ef:f env M with
    |none=>rw[ef]at e;cases e
    |some om=>
      obtain⟨o1,M1⟩:=om;rw[ef]at e;cases e;refine⟨P0,H0,P,Os,env,M,_,_,k,ef,?_⟩
      cases out with
      |nx env'=>exact(ho _ _ ef).elim
      |bk env'=>exact q
      |ct env'=>exact q
      |rt d=>exact q
      |ex c n=>exact q
end
section
variable {X:Cx}{σ:L2.St}{H H1:Hp}{s:Shared}{Pt:Addr}{ps:Array Value}
def Sy {h2:Heap}{tk:Nat}(I:Inv X [] σ H s)(hP:H Pt=some (.tbl ps))(kp:∀b o,b≠Pt->s.heap.get? b=some o->h2.get? b=some o)(hH:∀b,b<s.heap.objs.size->b≠Pt->H1 b=H b)
    (hPt:∃more,H1 Pt=some (.tbl (ps ++ more))/\h2.get? Pt=some {cls:=.none,data:=.fields (ps ++ more)}) (hnew:∀a o,s.heap.objs.size<=a->H1 a=some o->∃ob,o=.frz ob (.own a)/\h2.get? a=some ob):Inv X [] σ H1 {s with heap:=h2,toks:=tk}:=by
  have lt:∀{b:Addr} {u:HO},H b=some u->b<s.heap.objs.size:=fun e=>(I.hok _ _ e).lt;have nP:∀{b:Addr},H b=none->b≠Pt:=fun e z=>by rw[z,hP]at e;cases e
  have nT:∀{b:Addr} {u:HO},H b=some u->(∀p,u≠ .tbl p)->b≠Pt:=fun e n z=>by rw[z,hP]at e;cases e;exact n _ rfl
  obtain⟨more,e1,e2⟩:=hPt;have hok:cJ X.prog X.w H1 h2:=fun a o e=>by
    by_cases hs:s.heap.objs.size<=a
    · obtain⟨ob,rfl,g⟩:=hnew a o hs e;exact⟨g,ob,g⟩
    · have hs:=Nat.lt_of_not_le hs
      by_cases ha:a=Pt
      · subst ha;rw[e1]at e;cases e;exact e2
      · rw[hH a hs ha]at e;refine(I.hok a o e).stay (fun b u hb g=>kp b u ?_ g) (fun b g=>?_) fun b xs g=>?_
        · rcases hb with rfl |hb
          · exact ha
          · exact nT hb fun _ z=>nomatch z
        · rw[hH b (lt g) (nT g fun _ z=>nomatch z)];exact g
        · rw[hH b (lt g) (nT g fun _ z=>nomatch z)];exact g
  refine I.step (g':=s.gens) (d':=s.drawn) (t':=tk) (ch:=[]) (fun _ z=>nomatch z) (fun b o _ _ _ g n=>kp b o (nP n) g) (fun b o _ _ _ g n=>⟨o.slots,kp b o (nP n) g⟩) (fun b o _ g n=>by rw[hH b (xaq g) (nP n)];exact n) (fun b o _ g=>?_)
    (fun b xs g=>by rw[hH b (lt g) (nT g fun _ z=>nomatch z)];exact g) (fun b o u g=>by rw[hH b (lt g) (nT g fun _ z=>nomatch z)];exact g) (fun b p g=>?_) (fun m hm=>?_) hok I.bare
  · by_cases hb:b=Pt
    · subst hb;exact⟨_,e2⟩
    · exact⟨o,kp b o hb g⟩
  · by_cases hb:b=Pt
    · subst hb;rw[hP]at g;cases g;exact⟨more,e1⟩
    · exact⟨#[],by rw[hH b (lt g) hb,g];simp⟩
  · obtain⟨o,es,ep,g,r⟩:=hm;exact⟨o,es,ep,kp _ _ (nP I.free) g,r⟩
noncomputable def sY (H:Hp) (h:Heap) (cs:List Addr):Hp:=fun b=>if b∈cs then(h.get? b).map fun o=>HO.frz o (.own b) else H b
theorem za1 {cs:List Addr}(I:Inv X [] σ H s)(hx:X.ex=[])(hc:∀c∈cs,H c=none/\X.s₀.heap.objs.size<=c/\∃o,s.heap.get? c=some o):
  Un X.fs [] X.H₀ (sY H s.heap cs) X.s₀.heap s.heap/\cJ X.prog X.w (sY H s.heap cs) s.heap/\Same H (sY H s.heap cs)/\∀c∈cs,∀o,s.heap.get? c=some o->sY H s.heap cs c=some (.frz o (.own c)):=by
 have out:∀{b:Addr} {u:HO},H b=some u->sY H s.heap cs b=H b:=fun {b u} e=>xae fun z=>by rw[(hc b z).1]at e;cases e
 have old:∀{b:Addr} {o:Obj},X.s₀.heap.get? b=some o->b∉cs:=fun {b o} e z=>absurd (xal (xaq e) (hc b z).2.1) (xbh _);have B:=I.base;rw[hx]at B;refine⟨⟨B.keep,B.slot,fun b o e n h=>?_,B.there,fun b xs e=>?_,fun b o u e=>?_,fun b p e=>?_⟩,fun a o e=>?_,fun b o e=>?_,fun c z o e=>?_⟩
 ·unfold sY;rw[xae (old e)];exact B.free b o e n h
 ·rw[out (B.tups b xs e)];exact B.tups b xs e
 ·rw[out (B.frzs b o u e)];exact B.frzs b o u e
 ·obtain⟨m,g⟩:=B.tbls b p e;exact⟨m,by rw[out g];exact g⟩
 ·unfold sY at e;kjx_on
  ·rename_i ha;obtain⟨ob,g⟩:=(hc a ha).2.2;rw[g]at e;cases e;exact⟨g,ob,g⟩
  ·exact(I.hok a o e).stay (fun _ _ _ g=>g) (fun b g=>by rw[out g];exact g) fun b xs g=>by rw[out g];exact g
 ·rw[out e];exact e
 ·unfold sY;rw[xad z,e];rfl
end
def lW (mg:Mgx)(base:Heap):Prop:=∃bm o,mg "__builtins__"=some (.ref bm)/\bm≠builtinsNs/\bm≠mainGlobals/\base.get? bm=some o/\o.cls=.type "module"/\o.dict=some builtinsNs/\o.data=.plain
noncomputable def lH (env:Env):List (Str×Nat)->Option (List (Str×D))
  | []=>some []
  |p::r=>match env[p.2]? with
    |some (.val d)=>(lH env r).map ((p.1,d):: ·)
    |_=>none
open Classical in
noncomputable def gj (kt:Nat) (nm:Str) (i:FnT) (caps:List (Str×Nat)):S:=fun env M=>match M[kt]? with
 |some (.tbl nm' i')=>if nm'=nm/\i'=i then(lH env caps).map fun cs=>(.rt (.ref M.length),M ++ [.fn i cs]) else none
 |_=>none
structure MkOk (X:Cx)(nm:Str)(i:FnT)(caps:List (Str×Nat))(cl:List (Str×Addr))(c Pt:Addr)(j:Nat):Prop where
 ex:X.ex=[]
 fn:∀x,X.fn x=true
 st:∃params body scope,i.st=.FunctionDef i.x params body [] none [] scope none i.x i.pos/\((params.defaults=[]/\i.dd=[])\/∃n a p,params.defaults=[.Constant (.int n) a p]/\i.dd=[n]/\cl≠ [])/\params.kw_defaults=[]/\params.kwonlyargs=[]/\annTrees params none X.env=[]
 q:qualnameIn X.env i.x i.x=i.q
 code:X.env.code=.ref c
 tab:PySem.W.tabIn X.K nm=some (c,Pt)
 hd:PySem.W.codeHdIn X.K c Pt=true
 bm:lW X.mg X.base
 clo:closureFor (aL i.st) X.env=pure cl
 nam:cl.map (·.1)=caps.map (·.1)
 nZ:caps.map (·.1)=i.fr
 cel:∀p∈cl,X.env.cells.lookup p.1=some p.2
 cap:∀p∈caps,X.N[p.2]? =some p.1/\X.env.scope.names.lookup p.1=some .cell/\p.2≠j
 nd:X.N.Nodup
 jx:X.N[j]? =some i.x
 jl:X.env.scope.names.lookup i.x=some .local
 db:(i.x==("__debug__":Str))=false
 cd:(i.x==("__classdict__":Str))=false
theorem Qz {X:Cx}{H Hh:Hp}{s:Shared}{K:Fgx}{mg:Mgx}{P0 P:Pl}{H0:Hp}{Os:List (Option Addr)}{M:Mm}{st:L2.St}{env:Env}{j:Nat}{v0:V}{H2:Hp}
    (I:Inv X [] (st.set j (some v0)) Hh s) (k:Ok K mg P0 H0 P Os H M st env):
    ∀{caps:List (Str×Nat)} {cl:List (Str×Addr)} {cs:List (Str×D)},lH env caps=some cs->cl.map (·.1)=caps.map (·.1)->(∀p∈cl,X.env.cells.lookup p.1=some p.2)->(∀p∈caps,X.N[p.2]? =some p.1/\X.env.scope.names.lookup p.1=some .cell/\p.2≠j)->
    (∀p∈cl,∀o,s.heap.get? p.2=some o->H2 p.2=some (.frz o (.own p.2)))->cs.map (·.1)=caps.map (·.1)/\∃vs,aC K P H (cs.map (·.2)) vs/\lX H2 cl vs
  | [],[],cs,e,_,_,_,_=>by
    cases e;exact⟨rfl,[],rfl,rfl⟩
  | [],_::_,_,_,n,_,_,_=>by cases n
  |_::_,[],_,_,n,_,_,_=>by cases n
  |p::caps,q::cl,cs,e,n,hc,hp,h2=>by
    rw[xaP,xaP,xc8]at n;unfold lH at e;kjx_on
    · rename_i d ed;rw[xaj]at e;obtain⟨cs',e',rfl⟩:=e;obtain⟨n2,vs,i2,c2⟩:=Qz I k e' n.2 (fun z hz=>hc z (xat _ hz)) (fun z hz=>hp z (xat _ hz)) fun z hz=>h2 z (xat _ hz);obtain⟨hN,hk,hj⟩:=hp p (by simp);obtain⟨v,ev,iv⟩:=k.slot p.2 _ ed;have ev':(st.set j (some v0))[p.2]? =some (some v):=by
        rw[xa0 (xbN hj)]
        cases q:st[p.2]? with
        |none=>rw[q]at ev;cases ev
        |some w=>rw[q]at ev;exact congrArg some ev
      obtain⟨m,_,hl⟩:=I.loc;obtain⟨u,ru,lk⟩:=hl p.2 p.1 v hN ev' (.inr (.inl hk));refine⟨by simp[n2],v::vs,⟨v,vs,rfl,iv,i2⟩,?_⟩;rcases lk with⟨k0,_⟩ |⟨_,c,hcell,o,ho,hd⟩
      · have k0':X.env.scope.names.lookup p.1=some .local:=k0;rw[hk]at k0';cases k0'
      · have eq:q.2=c:=by
          have:=hc q (by simp);rw[n.1,hcell]at this;cases this;rfl
        exact⟨v,vs,u,o,rfl,ru,h2 q (by simp) o (by rw[eq];exact ho),hd,c2⟩
    · cases e
def set_same {α:Type}{l:List α}{k:Nat}{x:α}(h:l[k]? =some x):l.set k x=l:=by
 obtain⟨hl,rfl⟩:=xah.mp h;exact xcU hl
def Uj {X:Cx}{Wx:XW}{nm:Str}{i:FnT}{caps:List (Str×Nat)}{cl:List (Str×Addr)}{c Pt:Addr}{j:Nat}{p1 p2:Pos}{s:Shared}{σ:L2.St}{H:Hp}{D:Ends}{P0 P:Pl}{H0:Hp}{Os:List (Option Addr)}{env:Env}{M:Mm}{cs:List (Str×E3.D)}(m:MkOk X nm i caps cl c Pt j)
  (I:Inv X [] σ H s) (k:Ok X.K X.mg P0 H0 P Os H M σ env) (ec:lH env caps=some cs) (q:Post X.K X.mg Wx P0 H0 P H (M ++ [.fn i cs]) D (.rt (.ref M.length)))
  (h2:Heap) (tk:Nat) (f c':Addr) (dV doc ctv:Value) (Hb:Hp) (I1:Inv X [] σ (upd Hb f (.frz (nY X.mg i cl dV doc ctv c') (.own f))) {s with heap:=h2,toks:=tk}) (lb:LtE P H P Hb) (hkb:Hk X.K X.mg P Hb M) (hf:Hb f=none) (hcod:fV Hb c' i.q) (hdf:fj Hb i.dd dV):
  wpAny (model X.prog X.w) X.A (storeName X.env i.x (.ref f)) (fun _ s''=>wpAny (model X.prog X.w) X.A (execs [.Return (some (.Name i.x p1)) p2] X.env) (XP X D) X.xe s'') X.xe {s with heap:=h2,toks:=tk}:=by
 refine Gz I1 m.nd m.jx (.inl m.jl) (show RelV (.ref f) (.ref f) from rfl) (fun s2 I2=>?_) (.inr m.jl);have jσ:j<σ.length:=by rw[I.len];exact(xah.mp m.jx).1
 refine xcS (wpAny_Return_some (aU (Fq m.jx (.inl m.jl) m.db m.cd [] s2 _ _ (fun v H'=>v=.ref f/\H'=upd Hb f (.frz (nY X.mg i cl dV doc ctv c') (.own f))) I2 ⟨.ref f,xaW jσ,rfl,rfl⟩) fun u s3 h3=>?_));obtain⟨v,H3,I3,rv,ev,eH⟩:=h3;subst ev eH;obtain rfl:u=Value.ref f:=rv;have hcl:∀a∈cl.map (·.2),upd Hb f (.frz (nY X.mg i cl dV doc ctv c') (.own f)) a=none/\X.s₀.heap.objs.size<=a/\∃o,s3.heap.get? a=some o:=by
  intro a ha;obtain⟨p,hp,rfl⟩:=xa5.mp ha;have e1:=m.cel p hp;obtain⟨v,o,ho,_⟩:=I3.cell p.1 p.2 e1;exact⟨(I3.freeC p.1 p.2 e1).resolve_right fun z=>(by have z1:=z.1;rw[m.fn]at z1;cases z1),I3.ok.cab p.1 p.2 (m.fn _) e1,o,ho⟩
 obtain⟨un,hok,same,atc⟩:=za1 I3 m.ex hcl;obtain⟨n2,vs,iv,cv⟩:=Qz I3 k ec m.nam m.cel m.cap fun p hp o ho=>atc p.2 (xa5.mpr ⟨p,hp,rfl⟩) o ho;have sb:Same Hb (sY (upd Hb f (.frz (nY X.mg i cl dV doc ctv c') (.own f))) s3.heap (cl.map (·.2))):=Same.trans (vg hf) same;obtain⟨P2,pn,pio,l2,hk2⟩:=QK (c:=.fn i cs) hkb sb hf (by rw[same f _ cu];exact fun z=>nomatch z) fun P' _ _ l=>⟨cl,dV,doc,ctv,c',vs,same f _ cu,⟨hcod.up (fun b o u e=>sb b _ e),hdf.up (fun b o u e=>sb b _ e)⟩,⟨m.nam.trans n2.symm,n2.trans m.nZ⟩,aC.lt (l.lt hkb) (aC.lt (lb.lt k.hk) iv),cv,fun x y a e1 e2=>I.ok.inj x y a (m.cel (x,a) (xbc e1)) (m.cel (y,a) (xbc e2))⟩
 exact⟨.ref f,_,I3.os,I3.bare,un,hok,rfl,q P2 (.ref f) _ (k.base.trans (lb.trans l2)) hk2 ⟨by rw[pn,k.hk.n];exact xbl _,by rw[<-k.hk.n,pio]⟩⟩
section
variable {M:Model}{A:Around}{E:Value->Shared->Prop}{s:Shared}{name qual:Str}{params:Arguments}{body:List Stmt}{scope:Scope}{env:PySem.Env}{c Pt:Addr}{ps:Array Value}{pos:Pos}{ln:Nat}{mg:Mgx}{cl:List (Str×Addr)}{dV:Value}{Q:Value->Shared->Prop}
def zbX (hcl:closureFor scope env=pure cl)(hne:cl≠ [])(hge:env.globals=mainGlobals)(hg:s.heap.Ns mainGlobals mg)(hcode:env.code=.ref c)(C:PySem.W.CodeHd s.heap c Pt)(hP:s.heap.get? Pt=some (PySem.W.tabObj ps))(ht:TriplesOk ps.toList)(hnf:codeAmong pos ps.toList=none)(hgP:mainGlobals≠Pt)(hb:s.heap.BuiltinsAt mg Pt)
  (h:∀c' ctv doc h' tk,Heap.ExtBut Pt s.heap h'->s.heap.objs.size<=c'->c'<h'.objs.size->h'.CodeRec (.ref c') qual->h'.get? Pt=some (PySem.W.tabObj (ps ++ #[rawInt pos.line,rawInt pos.col,.ref c']))->
   Q (.ref h'.objs.size) {s with heap:=h'.push {cls:=.type "function",data:=.func (PySem.W.fnX name qual params body scope cl dV .none doc ((mg "__name__").getD .none) none (.ref c') ctv)},toks:=tk}):wpAny M A (makeTail name qual params (.stmts body) scope env dV .none none pos ln) Q E s:=by
 have ie:cl.isEmpty=false:=by cases cl with |nil=>exact absurd rfl hne |cons a r=>rfl
 kt_chr;refine xaa (wpAny_functionCodeX hcode ((C.keeps fun b o e=>xac _ e).code (xac _ hP) ht) ((C.keeps fun b o e=>xac _ e).tab (xac _ hP)) hnf fun c' h' tk hx hge' hlt _ hrec htb _=>?_);have hx':Heap.ExtBut Pt s.heap h':=fun b o n e=>hx b o n (kp _ b o e);have sz:s.heap.objs.size<=c':=xar (by rw[xct];exact xb1 _) hge';have hg':=(hg.push _).extBut hx hgP;refine xaa (wpAny_builtinsFor hg' b1 b2 (hx' _ _ b4 b5) b6 b7 b8 (xaa (wpAny_nsGet hg' ?_)))
 cases hdoc:docOf body with
 |none=>exact xaa (xak (xaZ (h c' _ .none h' tk hx' sz hlt hrec htb.2) (by size_fits)))
 |some t=>exact xaa (wpAny_mkText (xaZ (h c' _ _ h' _ hx' sz hlt hrec htb.2) (by size_fits)))
def zb3 {cv:Value}(hcl:closureFor scope env=pure cl)(hne:cl≠ [])(hge:env.globals=mainGlobals)(hg:s.heap.Ns mainGlobals mg)(hcode:env.code=.ref c)(C:PySem.W.CodeHd s.heap c Pt)(hP:s.heap.get? Pt=some (PySem.W.tabObj ps))(ht:TriplesOk ps.toList)(hf:codeAmong pos ps.toList=some cv)(hb:s.heap.BuiltinsAt mg Pt)
  (h:∀(ctv doc:Value) (h':Heap) (tk:Nat),(∀b o,s.heap.get? b=some o->h'.get? b=some o)->s.heap.objs.size<=h'.objs.size->
   Q (.ref h'.objs.size) {s with heap:=h'.push {cls:=.type "function",data:=.func (PySem.W.fnX name qual params body scope cl dV .none doc ((mg "__name__").getD .none) none cv ctv)},toks:=tk}):wpAny M A (makeTail name qual params (.stmts body) scope env dV .none none pos ln) Q E s:=by
 have ie:cl.isEmpty=false:=by cases cl with |nil=>exact absurd rfl hne |cons a r=>rfl
 kt_chr;refine xaa (wpAny_functionCode_hit hcode ((C.keeps fun b o e=>xac _ e).code (xac _ hP) ht) hf ?_);refine xaa (wpAny_builtinsFor (hg.push _) b1 b2 (xac _ b5) b6 b7 b8 (xaa (wpAny_nsGet (hg.push _) ?_)));have sz:∀o:Obj,s.heap.objs.size<=(s.heap.push o).objs.size:=fun o=>by rw[xct];exact xb1 _
 cases hdoc:docOf body with
 |none=>exact xaa (xak (xaZ (h _ .none _ s.toks (fun b o e=>xac _ e) (sz _)) (by size_fits)))
 |some t=>exact xaa (wpAny_mkText (xaZ (h _ _ _ _ (fun b o e=>xac _ e) (sz _)) (by size_fits)))
def def_dflt {Q:Flow->Shared->Prop}{n:Int}{a:Nat}{p:Pos}(hd:params.defaults=[.Constant (.int n) a p])(hk:params.kw_defaults=[])(hko:params.kwonlyargs=[])(ha:annTrees params none env=[])
  (h:wpAny M A (makeTail name (qualnameIn env name name) params (.stmts body) scope env (.ref s.heap.objs.size) .none none pos pos.line) (fun v s'=>wpAny M A (storeName env name v) (fun _ s''=>Q .next s'') E s') E {s with heap:=s.heap.push {cls:=.type "tuple",data:=.seq #[.int n s.toks]},toks:=s.toks + 1}):
  wpAny M A (exec (.FunctionDef name params body [] none [] scope none name pos) env) Q E s:=by
 rw[exec_def];refine xaa (xcm (xaa (xby ?_)));rw[defaultsOf_eq,hd,hk,ha];refine xaa (wpAny_evalAll_cons (wpAny_Constant_int (wpAny_evalAll_nil ?_)));refine xaa (xby (xak ?_));refine xby (xaa (xak ?_));rw[makeFunction_eq,hko];refine xaa (xdp ?_);exact xaU h (fun v s' h'=>xaa (xcm (xaa (wpAny_bindName (xaU h' (fun _ _ h''=>xak h'') fun _ _ x=>x))))) fun _ _ x=>x
end
def Vv {X:Cx}{Wx:XW}{kt:Nat}{nm:Str}{i:FnT}{caps:List (Str×Nat)}{cl:List (Str×Addr)}{c Pt:Addr}{j:Nat}{p1 p2:Pos}(m:MkOk X nm i caps cl c Pt j):tu X Wx [i.st,.Return (some (.Name i.x p1)) p2] (gj kt nm i caps):=by
  intro s σ H D I hh;obtain⟨P0,H0,P,Os,env,M,out,M',k,e,q⟩:=hh;unfold gj at e;kjx_on
  · rename_i nm' i' hM;kjx_on
    · rename_i hni;obtain⟨rfl,rfl⟩:=hni;rw[xaj]at e;obtain⟨cs,ec,e⟩:=e;cases e;obtain⟨c0,ps,ht,hPt0,hps⟩:Ho X.K H (P.io kt) nm' i':=k.hk.cell kt _ hM;obtain⟨rfl,rfl⟩:c=c0/\Pt=P.io kt:=by
        have z:=m.tab.symm.trans ht;cases z;exact⟨rfl,rfl⟩
      have KX:=I.kIn;have C:=xef KX m.hd;have hP:s.heap.get? (P.io kt)=some (PySem.W.tabObj ps):=I.hok _ _ hPt0;have hg:s.heap.Ns mainGlobals X.mg:=I.ok.mod.glob.keeps I.bk;have tr:∀{b:Addr} {o:Obj},X.base.get? b=some o->b≠P.io kt:=fun g z=>by
        have:=(I.bs _ _ g).2;rw[z,hPt0]at this;cases this
      have hgP:mainGlobals≠P.io kt:=by
        obtain⟨o,_,_,g,_⟩:=I.ok.mod.glob;exact tr g
      obtain⟨bm,ob,b1,b2,b3,b4,b5,b6,b7⟩:=m.bm;have hbm:s.heap.BuiltinsAt X.mg (P.io kt):=⟨bm,ob,b1,b2,b3,tr b4,I.bk _ _ b4,b5,b6,b7⟩;obtain⟨params,body,scope,hst,dd,d2,d3,d4⟩:=m.st;have efo:∀dV doc ctv c',({cls:=.type "function",data:=.func (PySem.W.fnX i'.x i'.q params body scope cl dV .none doc ((X.mg "__name__").getD .none) none (.ref c') ctv)}:Obj)=nY X.mg i' cl dV doc ctv c':=fun dV doc ctv c'=>by
        unfold nY;rw[hst];rfl
      have hcl':closureFor scope X.env=pure cl:=by
        have:=m.clo;rw[hst]at this;exact this
      -- a state behind the making:what is new is tracked
      have lay:∀(hn:Hp) (h':Heap) (tk:Nat) (c':Addr) (dV doc ctv:Value) (ps':Array Value) (oc:Obj) (fs:Array Value) (t:Tok) (hd:fj hn i'.dd dV),(∀b,b<s.heap.objs.size->hn b=H b)->(∀b u,s.heap.objs.size<=b->hn b=some u->b<h'.objs.size/\b≠c'/\∃ob,u=.frz ob (.own b)/\h'.get? b=some ob)->
          (∀b o,b≠P.io kt->s.heap.get? b=some o->h'.get? b=some o)->s.heap.objs.size<=c'->c'<h'.objs.size->h'.get? c'=some oc->oc.data=.fields fs->fs[1]? =some (.str i'.q t)->h'.get? (P.io kt)=some (PySem.W.tabObj #[rawInt i'.pos.line,rawInt i'.pos.col,.ref c'])->ps= #[]->
          wpAny (model X.prog X.w) X.A (storeName X.env i'.x (.ref h'.objs.size)) (fun _ s''=>wpAny (model X.prog X.w) X.A (execs [.Return (some (.Name i'.x p1)) p2] X.env) (XP X D) X.xe s'') X.xe {s with heap:=h'.push (nY X.mg i' cl dV doc ctv c'),toks:=tk}:=by
        intro hn h' tk c' dV doc ctv ps' oc fs t hd hold hnew kp hge hlt hoc hdat hv htb hps0;subst hps0;have ltH:∀{b:Addr} {u:HO},H b=some u->b<s.heap.objs.size:=fun e=>(I.hok _ _ e).lt;have sN:Same H hn:=fun b u e=>by rw[hold b (ltH e)];exact e
        have hPn:hn (P.io kt)=some (.tbl #[]):=sN _ _ hPt0;have hc0:hn c'=none:=by
          cases z:hn c' with
          |none=>rfl
          |some u=>exact absurd rfl (hnew c' u hge z).2.1
        have neP:c'≠P.io kt:=fun z=>by rw[z,hPn]at hc0;cases hc0
        have fge:s.heap.objs.size<=h'.objs.size:=xar hge (xbb hlt);have hf0:hn h'.objs.size=none:=by
          cases z:hn h'.objs.size with
          |none=>rfl
          |some u=>exact absurd (hnew _ u fge z).1 (xbh _)
        have nfP:h'.objs.size≠P.io kt:=fun z=>by rw[z,hPn]at hf0;cases hf0
        have nfc:h'.objs.size≠c':=xdH hlt;have sa:Same H (upd hn c' (.frz oc (.own c'))):=Same.trans sN (vg hc0);have hka:=k.hk.same sa;have frz1:∀b o u,hn b=some (.frz o u)->upd (upd hn c' (.frz oc (.own c'))) (P.io kt) (.tbl #[rawInt i'.pos.line,rawInt i'.pos.col,.ref c']) b=some (.frz o u):=fun b o u e=>by
          rw[aZ (fun z=>by rw[z,hPn]at e;cases e),aZ (fun z=>by rw[z,hc0]at e;cases e)];exact e
        have cod:fV (upd (upd hn c' (.frz oc (.own c'))) (P.io kt) (.tbl #[rawInt i'.pos.line,rawInt i'.pos.col,.ref c'])) c' i'.q:=⟨oc,fs,t,by rw[aZ neP];exact cu,hdat,hv⟩;obtain⟨_,lE,hkb⟩:=hka.set (c':=.tbl nm' i') (o':=.tbl #[rawInt i'.pos.line,rawInt i'.pos.col,.ref c']) hM ⟨c,_,m.tab,cu,.inr ⟨c',rfl,cod⟩⟩;rw[set_same hM]at hkb;refine Uj m I k ec q _ tk h'.objs.size c' dV doc ctv _ (Sy (tk:=tk) I hPt0 (fun b o hb g=>xac _ (kp b o hb g)) (fun b hb hbp=>?_) ⟨#[rawInt i'.pos.line,rawInt i'.pos.col,.ref c'],?_,?_⟩ fun a o ha ea=>?_) ((LtE.same sa).trans lE) hkb (by rw[aZ nfP,aZ nfc];exact hf0) cod (hd.up (fun b o u=>frz1 b o _))
        · rw[aZ (xaE (xal hb fge)),aZ hbp,aZ (xaE (xal hb hge))];exact hold b hb
        · rw[aZ nfP.symm,cu]
          simp
        · refine xac _ ?_;rw[htb]
          simp[PySem.W.tabObj]
        · by_cases h1:a=h'.objs.size
          · subst h1;rw[cu]at ea;cases ea;exact⟨_,rfl,xax _ rfl⟩
          · rw[aZ h1]at ea
            by_cases h2:a=P.io kt
            · exact absurd (xal (ltH hPt0) (h2 ▸ ha)) (xbh _)
            · rw[aZ h2]at ea
              by_cases h3:a=c'
              · subst h3;rw[cu]at ea;cases ea;exact⟨_,rfl,xac _ hoc⟩
              · rw[aZ h3]at ea;obtain⟨_,_,ob,e1,e2⟩:=hnew a o ha ea;exact⟨ob,e1,xac _ e2⟩
      have lay2:∀(hn:Hp) (h':Heap) (tk:Nat) (c':Addr) (dV doc ctv:Value) (hd:fj hn i'.dd dV),fV H c' i'.q->(∀b,b<s.heap.objs.size->hn b=H b)->(∀b u,s.heap.objs.size<=b->hn b=some u->b<h'.objs.size/\∃ob,u=.frz ob (.own b)/\h'.get? b=some ob)->
          (∀b o,s.heap.get? b=some o->h'.get? b=some o)->s.heap.objs.size<=h'.objs.size->
          wpAny (model X.prog X.w) X.A (storeName X.env i'.x (.ref h'.objs.size)) (fun _ s''=>wpAny (model X.prog X.w) X.A (execs [.Return (some (.Name i'.x p1)) p2] X.env) (XP X D) X.xe s'') X.xe {s with heap:=h'.push (nY X.mg i' cl dV doc ctv c'),toks:=tk}:=by
        intro hn h' tk c' dV doc ctv hd hcod hold hnew kp fge;have ltH:∀{b:Addr} {u:HO},H b=some u->b<s.heap.objs.size:=fun e=>(I.hok _ _ e).lt;have sN:Same H hn:=fun b u e=>by rw[hold b (ltH e)];exact e
        have hf0:hn h'.objs.size=none:=by
          cases z:hn h'.objs.size with
          |none=>rfl
          |some u=>exact absurd (hnew _ u fge z).1 (xbh _)
        have nfP:h'.objs.size≠P.io kt:=fun z=>by rw[z,sN _ _ hPt0]at hf0;cases hf0
        refine Uj m I k ec q _ tk h'.objs.size c' dV doc ctv hn (Sy (tk:=tk) I hPt0 (fun b o _ g=>xac _ (kp b o g)) (fun b hb hbp=>?_) ⟨#[],?_,?_⟩ fun a o ha ea=>?_) (LtE.same sN) (k.hk.same sN) hf0 (hcod.up fun b o u e=>sN b _ e) hd
        · rw[aZ (xaE (xal hb fge))];exact hold b hb
        · rw[aZ nfP.symm,sN _ _ hPt0]
          simp
        · refine xac _ ?_;rw[kp _ _ hP]
          simp[PySem.W.tabObj]
        · by_cases h1:a=h'.objs.size
          · subst h1;rw[cu]at ea;cases ea;exact⟨_,rfl,xax _ rfl⟩
          · rw[aZ h1]at ea;obtain⟨_,ob,e1,e2⟩:=hnew a o ha ea;exact⟨ob,e1,xac _ e2⟩
      have nH:∀{b:Addr} {u:HO},s.heap.objs.size<=b->H b=some u->False:=fun hb e=>absurd (xal (I.hok _ _ e).lt hb) (xbh _);refine xcS ?_;rw[hst];rcases dd with⟨d1,e1⟩ |⟨n,a,p,d1,e1,ne⟩
      · refine PySem.W.nestDef_K d1 d2 d4 ?_;rw[m.q];rcases hps with rfl |⟨c',rfl,hcod⟩
        · refine PySem.W.makeFunction_K hcl' I.ok.glob hg m.code C hP trivial rfl hgP hbm fun c' ctv doc h' tk hx hge hlt hrec htb=>?_;obtain⟨c2,oc,fs,t,e2,hoc,hdat,hv⟩:=hrec;cases e2;have key:=lay H h' tk c' .none doc ctv #[] oc fs t (.inl ⟨e1,rfl⟩) (fun _ _=>rfl) (fun b u hb e=>(nH hb e).elim) hx hge hlt hoc hdat hv (by rw[htb];simp) rfl;rw[<-efo]at key;exact key
        · refine PySem.W.makeFunction_hit hcl' I.ok.glob hg m.code C hP (by simp[TriplesOk,rawInt]) (show codeAmong i'.pos _=some (.ref c') by simp[codeAmong,rawInt]) hbm fun ctv doc h' tk hkp hsz=>?_;have key:=lay2 H h' tk c' .none doc ctv (.inl ⟨e1,rfl⟩) hcod (fun _ _=>rfl) (fun b u hb e=>(nH hb e).elim) hkp hsz;rw[<-efo]at key;exact key
      · refine def_dflt d1 d2 d3 d4 ?_;rw[m.q];have pk:∀(o:Obj) (b:Addr) (u:Obj),s.heap.get? b=some u->(s.heap.push o).get? b=some u:=fun o b u e=>xac o e;have psz:(s.heap.push {cls:=.type "tuple",data:=.seq #[.int n s.toks]}).objs.size=s.heap.objs.size + 1:=xct ..;have td:(s.heap.push {cls:=.type "tuple",data:=.seq #[.int n s.toks]}).get? s.heap.objs.size=some {cls:=.type "tuple",data:=.seq #[.int n s.toks]}:=xax _ rfl;have tP:s.heap.objs.size≠P.io kt:=fun z=>nH (xc1 z) hPt0;have hbm2:(s.heap.push {cls:=.type "tuple",data:=.seq #[.int n s.toks]}).BuiltinsAt X.mg (P.io kt):=⟨bm,ob,b1,b2,b3,tr b4,pk _ _ _ (I.bk _ _ b4),b5,b6,b7⟩;have hdf:fj (upd H s.heap.objs.size (.frz {cls:=.type "tuple",data:=.seq #[.int n s.toks]} (.own s.heap.objs.size))) i'.dd (.ref s.heap.objs.size):=.inr ⟨by rw[e1];exact fun z=>(nomatch z),s.heap.objs.size,_,_,_,rfl,cu,rfl,by rw[e1];exact .cons ⟨_,rfl⟩ .nil⟩
        have hold:∀b,b<s.heap.objs.size->upd H s.heap.objs.size (.frz {cls:=.type "tuple",data:=.seq #[.int n s.toks]} (.own s.heap.objs.size)) b=H b:=fun b hb=>aZ (xaE hb);have hnw:∀b u,s.heap.objs.size<=b->upd H s.heap.objs.size (.frz {cls:=.type "tuple",data:=.seq #[.int n s.toks]} (.own s.heap.objs.size)) b=some u->b=s.heap.objs.size/\u=.frz {cls:=.type "tuple",data:=.seq #[.int n s.toks]} (.own b):=fun b u hb e=>by
          by_cases z:b=s.heap.objs.size
          · subst z;rw[cu]at e;cases e;exact⟨rfl,rfl⟩
          · rw[aZ z]at e;exact(nH hb e).elim
        rcases hps with rfl |⟨c',rfl,hcod⟩
        · refine zbX (mg:=X.mg) (c:=c) (Pt:=P.io kt) (ps:= #[]) hcl' ne I.ok.glob (hg.push _) m.code (C.keeps (pk _)) (pk _ _ _ hP) trivial rfl hgP hbm2 fun c' ctv doc h' tk hx hge hlt hrec htb=>?_;obtain⟨c2,oc,fs,t,e2,hoc,hdat,hv⟩:=hrec;cases e2;have hge':s.heap.objs.size + 1<=c':=by rw[<-psz];exact hge
          have key := lay _ h' tk c' _ doc ctv #[] oc fs t hdf hold (fun b u hb e=>by
            obtain⟨rfl,rfl⟩:=hnw b u hb e;exact⟨xal (xbl _) (xar hge' (xbb hlt)),xaE hge',_,rfl,hx _ _ tP td⟩) (fun b o hb g=>hx b o hb (pk _ b o g)) (xar (xb1 _) hge') hlt hoc hdat hv (by rw[htb];simp) rfl
          rw[<-efo]at key;exact key
        · refine zb3 (mg:=X.mg) (c:=c) (Pt:=P.io kt) hcl' ne I.ok.glob (hg.push _) m.code (C.keeps (pk _)) (pk _ _ _ hP) (by simp[TriplesOk,rawInt]) (show codeAmong i'.pos _=some (.ref c') by simp[codeAmong,rawInt]) hbm2 fun ctv doc h' tk hkp hsz=>?_;have hsz':s.heap.objs.size + 1<=h'.objs.size:=by rw[<-psz];exact hsz
          have key := lay2 _ h' tk c' _ doc ctv hdf hcod hold (fun b u hb e=>by
            obtain⟨rfl,rfl⟩:=hnw b u hb e;exact⟨hsz',_,rfl,hkp _ _ td⟩) (fun b o g=>hkp b o (pk _ b o g)) (xar (xb1 _) hsz')
          rw[<-efo]at key;exact key
    · cases e
  · cases e
end E3
namespace E3
open PySem PySem.Spec PyProof.Rows L2
section
variable {P:Program}{w:World}{K:Fgx}{mg:Mgx}{base:Heap}{k:Nat}{x qual:Str}{st:Stmt}{f:Addr}{fd:FuncData}{N ps:List Str}{b:S}
def zd2 {X:Cx}{st:List Stmt}{t:TS}(h:PX X.nox st t):PX X st t:=fun s σ H D I hw=>xaU (h s σ H D (I.wish _) hw) (fun _ _ q=>q) fun _ _ z=>False.elim z
def ZV {c Pt:Addr}(F:FunD K x qual st f fd)(S:FnScope N ps (aL st))(hp:ps.length<=N.length)(hm:mg x=some (.ref f))(ht:PySem.W.tabIn K x=some (c,Pt))
    (hb:∀A outer s H E,Room k (A.deeper (envOfC qual (aL st) s.heap.objs.size f (.ref c)))->tu (pY P w K mg base N qual st f (.ref c) A outer s H E) W0 (cB st) b):FnOk P w K mg base fP (k + 1) f fd ps (nu K mg ps.length (bA N.length b)):=by
  obtain⟨oc,od,dV,kV,doc,pm,an,cdv,ct,osl,rfl,lk,hcd⟩:=F.ex;refine⟨fun vs H Q E h=>h.1,fun A outer s H args us vs Q E hr e0 hbd r hsp=>?_⟩;have hl:vs.length=ps.length:=hsp.1;have KX:K.In s.heap:=e0.mod.kin.keeps fun b o e=>(e0.bs b o e).1;obtain rfl:cdv=.ref c:=PySem.W.law_code e0.mod.kin e0.mod.glob ht hm (e0.mod.kin _ _ lk) rfl;have lim:s.heap.NoLimit:=e0.mod.nolimit.keeps fun b o e=>(e0.bs b o e).1;have hkind:∀y∈ps.zip us,(aL st).names.lookup y.1=some .local\/((aL st).names.lookup y.1=some .cell/\((cellsFrom (s.heap.objs.size + 1) (aL st).names []).lookup y.1).isSome=true):=fun⟨n,v⟩ hy=>by
    rcases S.par n (xcI hy).1 with q |q
    · exact .inl q
    · exact .inr ⟨q,xcQ _ _ _ (.inl q)⟩
  refine xcT hr.depth (KX _ _ lk) rfl S.co S.gen rfl (xel KX hcd) (hbd _ _ _ _ ?_);refine xds S.kind hkind fun env he s1 x=>?_;subst he;refine⟨lim.keeps x.toInCall.keep,codeAny_func ?_⟩;have I:Inv (cU fP P w K mg base N qual (aL st) f (.ref c) A outer s H E) [] (start N vs) H s1:=SM S hr.hd e0 hl r x;obtain⟨_,Pl,M,ds,d,M',hk,is,e,q⟩:=hsp;have st0:=Om (N:=N) hk (by lia) is;have hq:tS K mg W0 b {nx:=fun _ H'=>Q .non H',rt:=Q} (start N vs) H:=by
    unfold bA cC at e;kjx_on
    · kri_at
    · kfm_hd
    · rename_i c n M2 eb;cases e
    · cases e
  refine xaU (zd2 (hb A outer s H E (hr.deeper _)) s1 (start N vs) H _ I hq) (fun fl s' hs=>?_) fun e s' hs=>hs
  cases fl with
  |ret u=>
    obtain⟨v,H',h1,h2,h3,h4,h5,h6⟩:=hs;exact⟨v,H',h1,h2,h3,h4,h5,h6⟩
  |next=>exact False.elim hs
  |brk=>
    obtain⟨_,_,z⟩:=hs;exact False.elim z
  |cont=>
    obtain⟨_,_,z⟩:=hs;exact False.elim z
def ZR {c Pt:Addr}(F:FunD K x qual st f fd)(S:FnScope N ps (aL st))(hp:ps.length<=N.length)(hm:mg x=some (.ref f))(hd:Binds K fd ps [])(ht:PySem.W.tabIn K x=some (c,Pt))
  (hb:∀A outer s H E,Room k (A.deeper (envOfC qual (aL st) s.heap.objs.size f (.ref c)))->tu (pY P w K mg base N qual st f (.ref c) A outer s H E) W0 (cB st) b):bB P w K mg base (k + 1) x ps.length (bA N.length b):=
 ⟨f,fd,ps,[],[],_,hm,F.kp,ZV F S hp hm ht hb,hd,.nil,fun vs H Q E h=>by rw[xas];exact h⟩
end
structure FnScopeC (N ps fr:List Str)(sc:Scope):Prop where
 kind:sc.kind=.function
 co:sc.isCoroutine=false
 gen:sc.isGenerator=false
 nd:N.Nodup
 pre:N.take ps.length=ps
 suf:N.drop (N.length - fr.length)=fr
 len:ps.length + fr.length<=N.length
 par:∀x∈ps,sc.names.lookup x=some .local
 fre:∀x∈fr,sc.names.lookup x=some .free
 all:∀y∈sc.names,y.2=.free->y.1∈fr
 noc:∀y∈sc.names,y.2≠ .cell
noncomputable def wg (N:List Str) (vs cvs:List V):L2.St:=vs.map some ++ (List.replicate (N.length - vs.length - cvs.length) none ++ cvs.map some)
noncomputable def pZ (np n:Nat) (ds:List D):Env:=(ds.take np).map .val ++ (List.replicate (n - ds.length) .un ++ (ds.drop np).map .val)
def mX (np n:Nat)(b:S):G:=fun ds M=>cC (b (pZ np n ds) M)
noncomputable def Ef (P:Program) (w:World) (K:Fgx) (mg:Mgx) (base:Heap) (N:List Str) (i:FnT) (f:Addr) (cd:Value) (cl:List (Str×Addr)) (A:Around) (outer:List PySem.Env) (s:Shared) (H:Hp):Cx where
 prog:=P
 w:=w
 K:=K
 mg:=mg
 base:=base
 A:=A.deeper (PySem.W.envX i.q (aL i.st) s.heap.objs.size f cd cl)
 N:=N
 s₀:=s
 H₀:=H
 env:=PySem.W.envX i.q (aL i.st) s.heap.objs.size f cd cl
 outer:=outer
 stack:=PySem.W.envX i.q (aL i.st) s.heap.objs.size f cd cl::outer
 ex:=[]
 calm:=true
 fn:=fun _=>false
 pn:=[]
 xe:=fun _ _=>False
theorem lX.get {H:Hp}:∀{cl:List (Str×Addr)} {vs:List V} {j:Nat} {p:Str×Addr},lX H cl vs->cl[j]? =some p->∃v u o,vs[j]? =some v/\RelV v u/\H p.2=some (.frz o (.own p.2))/\o.data=.cell (some u)
  | [],_,_,_,_,e=>by simp at e
  |q::cl,_,0,p,h,e=>by
    obtain⟨v,ws,u,o,e1,r,g,d,_⟩:=h
    simp at e
    subst e e1;exact⟨v,u,o,rfl,r,g,d⟩
  |q::cl,_,j + 1,p,h,e=>by
    obtain⟨v,ws,u,o,e1,_,_,_,h⟩:=h;subst e1;exact lX.get (j:=j) h (by simpa using e)
theorem lX.len {H:Hp}:∀{cl:List (Str×Addr)} {vs:List V},lX H cl vs->vs.length=cl.length
  | [],_,h=>by rw[show _=[] from h];rfl
  |q::cl,_,h=>by
    obtain⟨v,ws,u,o,e1,_,_,_,h⟩:=h;subst e1
    simp[h.len]
theorem Ez {β:Type}:∀{l:List (Str×β)} {y:Str} {u:β},(l.map (·.1)).Nodup->(y,u)∈l->l.lookup y=some u
  | [],_,_,_,h=>nomatch h
  |(z,v)::l,y,u,nd,h=>by
    have nd':=xbQ.mp nd;rw[xbY];rcases xaO.mp h with hm |hm
    · obtain⟨rfl,rfl⟩:=Prod.mk.inj hm;rw[xbL]
    · have:(y==z)=false:=by
        rw[xbo];exact fun z'=>nd'.1 (xa5.mpr ⟨_,hm,z'⟩)
      rw[this];exact Ez nd'.2 hm
theorem X6 {α β:Type}:∀{l:List α} {m:List β},l.length=m.length->(l.zip m).map (·.1)=l
  | [],[],_=>rfl
  | [],_::_,h=>by simp at h
  |_::_,[],h=>by simp at h
  |a::l,b::m,h=>by
    rw[xdo,xaP,X6 (by simpa using h)]
theorem zip_get {α β:Type}:∀{l:List α} {m:List β} {i:Nat} {a:α} {b:β},l[i]? =some a->m[i]? =some b->(a,b)∈l.zip m
  | [],_,_,_,_,h,_=>by simp at h
  |_::_,[],_,_,_,_,h=>by simp at h
  |a::l,b::m,0,_,_,h1,h2=>by
    simp at h1 h2
    subst h1 h2
    simp
  |a::l,b::m,i + 1,_,_,h1,h2=>by
    rw[xdo];exact xat _ (zip_get (i:=i) (by simpa using h1) (by simpa using h2))
section
variable {P:Program}{w:World}{K:Fgx}{mg:Mgx}{base:Heap}{k:Nat}{i:FnT}{N ps:List Str}{b:S}
def zba {fr:List Str}{f:Addr}{cd:Value}{cl:List (Str×Addr)}{A:Around}{outer:List PySem.Env}{s:Shared}{H:Hp}{us:List Value}{vs cvs:List V}{h':Heap}{tk:Nat}(S:FnScopeC N ps fr (aL i.st))(hd:A.handled=none)(e0:Env0 P w K mg base A outer s H)
    (hl:vs.length=ps.length) (r:Vals vs us) (hfr:cl.map (·.1)=fr) (hc:lX H cl cvs) (hi:∀x y a,cl.lookup x=some a->cl.lookup y=some a->x=y)
    (hns:h'.Ns s.heap.objs.size (fun x=>(ps.zip us).reverse.lookup x)) (hk:∀b o,s.heap.get? b=some o->h'.get? b=some o):
    Inv (Ef P w K mg base N i f cd cl A outer s H) [] (wg N vs cvs) H {s with heap:=h',toks:=tk}:=by
  have noA:∀b:Addr,b∉(Ef P w K mg base N i f cd cl A outer s H).ex:=fun b z=>absurd (show b∈([]:List Addr) from z) (by simp);have ndf:(cl.map (·.1)).Nodup:=by rw[hfr, <-S.suf];exact S.nd.sublist (List.drop_sublist _ _)
  have cll:cvs.length=fr.length:=by rw[hc.len, <-hfr,xan]
  have S_len:=S.len;have cellAt:∀y c,cl.lookup y=some c->∃u o,H c=some (.frz o (.own c))/\o.data=.cell (some u)/\h'.get? c=some o:=fun y c e=>by
    obtain⟨j,hj⟩:=List.getElem?_of_mem (xbc e);obtain⟨v,u,o,_,_,g,d⟩:=hc.get hj;exact⟨u,o,g,d,hk _ _ (e0.hok _ _ g).1⟩
  have ulen:us.length=ps.length:=by rw[<-r.length];exact hl
  have ndP:ps.Nodup:=by rw[<-S.pre];exact S.nd.sublist (xer _ _)
  refine ⟨⟨e0.mod,S.kind,rfl,rfl,xaf _,hi,fun y hy=>?_,(fun y c z=>nomatch z),fun _=>hd,Around.frames_deeper e0.frames,.inr ⟨rfl,rfl⟩,fun b z=>absurd z (noA b),e0.bs,e0.bsz,fun b _ _=>noA b,fun b z=>absurd z (noA b),e0.funs,e0.frf⟩,
    rfl,e0.bare,Un.kept hk,⟨_,hns,fun n y v h1 h2 h3=>?_⟩,fun y c h=>?_,e0.hok.fresh (xaf _),fun y c h=>?_,fun p hp=>absurd (show p∈([]:Pnx) from hp) (by simp),e0.hok.kept hk,?_⟩
  · have hy:(aL i.st).names.lookup y=some .cell\/(aL i.st).names.lookup y=some .free:=hy;rcases hy with hy |hy
    · exact absurd rfl (S.noc _ (xbc hy))
    · have:y∈cl.map (·.1):=by rw[hfr];exact S.all _ (xbc hy) rfl
      obtain⟨p,hp,rfl⟩:=xa5.mp this;exact⟨p.2,Ez ndf hp⟩
  · unfold wg at h2
    by_cases hn:n<vs.length
    · rw[xaC (by simpa using hn),xam]at h2;have ha:vs[n]? =some v:=by
        cases e:vs[n]? with
        |none=>rw[e]at h2;cases h2
        |some a=>rw[e]at h2;cases h2;rfl
      obtain⟨u,hu,rv⟩:=r.get ha;have hp:ps[n]? =some y:=by rw[<-S.pre,xcK (by lia)];exact h1
      refine⟨u,rv,.inl ⟨S.par y (xaF hp),?_⟩⟩;refine Ez ?_ (List.mem_reverse.mpr (zip_get hp hu));rw[List.map_reverse,X6 ulen.symm];exact(List.reverse_perm _).nodup_iff.mpr ndP
    · rw[xap (by simpa using hn),xan]at h2
      by_cases hn2:n - vs.length<N.length - vs.length - cvs.length
      · rw[xaC (by simpa using hn2),xaQ,xad hn2]at h2;cases h2
      · rw[xap (by simpa using hn2),xaB,xam]at h2;have ha:cvs[n - vs.length - (N.length - vs.length - cvs.length)]? =some v:=by
          cases e:cvs[n - vs.length - (N.length - vs.length - cvs.length)]? with
          |none=>rw[e]at h2;cases h2
          |some a=>rw[e]at h2;cases h2;rfl
        have hf:fr[n - vs.length - (N.length - vs.length - cvs.length)]? =some y:=by
          have:(N.drop (N.length - fr.length))[n - vs.length - (N.length - vs.length - cvs.length)]? =some y:=by
            rw[xeo, <-h1];congr 1;lia
          rw[S.suf]at this;exact this
        rw[<-hfr,xam,xaj]at hf;obtain⟨p,hp,rfl⟩:=hf;obtain⟨v',u,o,ev,ru,g,d⟩:=hc.get hp;rw[ha]at ev;cases ev;refine⟨u,ru,.inr ⟨.inr (S.fre _ (by rw[<-hfr];exact xa5.mpr ⟨p,xaF hp,rfl⟩)),p.2,Ez ndf (xaF hp),o,hk _ _ (e0.hok _ _ g).1,d⟩⟩
  · obtain⟨u,o,_,d,g⟩:=cellAt y c h;exact⟨some u,o,g,d⟩
  · obtain⟨u,o,g,_,_⟩:=cellAt y c h;exact .inr ⟨rfl,o,_,g⟩
  · unfold wg;show _=N.length;rw[xag,xag,xan,xaB,xan];lia
def zbB {Pl:Pl}{H:Hp}{M:Mm}{ds cds:List D}{vs cvs:List V}(hk:Hk K mg Pl H M)(hl:vs.length + cvs.length<=N.length)(h:aC K Pl H ds vs)(hc:aC K Pl H cds cvs):
  Ok K mg Pl H Pl (List.replicate N.length none) H M (wg N vs cvs) (pZ ds.length N.length (ds ++ cds)):=by
 have hd:=h.len;have hd2:=hc.len;have ee:pZ ds.length N.length (ds ++ cds)=ds.map .val ++ (List.replicate (N.length - vs.length - cvs.length) .un ++ cds.map .val):=by
  unfold pZ;rw[List.take_left,List.drop_left,xag,hd,hd2,Nat.sub_sub]
 rw[ee];refine⟨hk,LtE.refl Pl H,hk.here,fun n s e=>?_,fun a z=>?_,fun n j a e1 _=>?_,by simp;lia,by simp[wg];lia⟩
 ·have e0:((List.replicate N.length (none:Option Addr))[n]?).join=none:=by
   rw[xaQ]
   split<;>rfl
  rw[e0];unfold wg
  by_cases hi:n<ds.length
  ·rw[xaC (by simpa using hi),xam,xab hi]at e;simp only[xb5,xes]at e;subst e;obtain⟨v,ev,p⟩:=h.get (xab hi);refine⟨v,?_,p⟩;rw[xaC (by rw[xan];lia),xam,ev];rfl
  ·rw[xap (by simpa using hi),xan]at e
   by_cases h2:n - ds.length<N.length - vs.length - cvs.length
   ·rw[xaC (by simpa using h2),xaQ,xad h2]at e;cases e;exact True.intro
   ·rw[xap (by simpa using h2),xaB,xam,xaj]at e;obtain⟨d,ed,rfl⟩:=e;obtain⟨v,ev,p⟩:=hc.get ed;rw[<-hd]at ev;refine⟨v,?_,p⟩;rw[xap (by rw[xan];lia),xan,xap (by rw[xaB];lia),xaB,xam,ev];rfl
 ·exact absurd (xci z) (by simp)
 ·rw[xaQ]at e1;split at e1<;>cases e1
def kI (P:Program)(w:World)(K:Fgx)(mg:Mgx)(base:Heap)(k:Nat)(i:FnT)(n:Nat)(g:G):Prop:=
 ∀(A:Around) (outer:List PySem.Env) (s:Shared) (H:Hp) (us:List Value) (vs:List V) (Q:VK) (E:XK) (f:Addr) (caps:List (Str×D)) (Pl:Pl) (M:Mm) (ds:List D) (d:D) (M':Mm),Room k A->Env0 P w K mg base A outer s H->Vals vs us->vs.length=n->
  Hk K mg Pl H M->nM K mg Pl H f i caps->aC K Pl H ds vs->g (ds ++ caps.map (·.2)) M=some (.v d,M')->(∀P' v H',LtE Pl H P' H'->Hk K mg P' H' M'->Is K P' H' d v->Q v H')->codeAny (model P w) A (.call (.ref f) ⟨us,[]⟩) (CR fP outer P w H s Q E) s
theorem kI.mono {j:Nat}{n:Nat}{g:G}(a:kI P w K mg base j i n g)(h:j<=k):kI P w K mg base k i n g:=fun A outer s H us vs Q E f caps Pl M ds d M' hr=>a A outer s H us vs Q E f caps Pl M ds d M' (hr.mono h)
def sZ (i:FnT)(ps:List Str)(n:Nat)(dn:List Int):Prop:=n + dn.length=ps.length/\∀(H:Hp) (s:Shared) (mgv:Value) (cl:List (Str×Addr)) (dV doc ctv cd:Value) (us:List Value),us.length=n->fj H i.dd dV->(∀a o u,H a=some (.frz o u)->s.heap.get? a=some o)->
 ∃us',Vals (dn.map V.int) us'/\BindsTo s (PySem.W.fnX i.x i.q (dh i.st) (cB i.st) (aL i.st) cl dV .none doc mgv none cd ctv) ⟨us,[]⟩ (ps.zip (us ++ us'))
theorem S8 {K:Fgx}{P:Pl}{H:Hp}:∀dn:List Int,aC K P H (dn.map D.int) (dn.map V.int)
 | []=>rfl
 |_::r=>⟨_,_,rfl,rfl,S8 r⟩
theorem S9 {K:Fgx}{P:Pl}{H:Hp}:∀{ds es:List D} {vs ws:List V},aC K P H ds vs->aC K P H es ws->aC K P H (ds ++ es) (vs ++ ws)
  | [],_,_,_,h,g=>by
    obtain rfl:=h;exact g
  |_::_,_,_,_,⟨v,r,e,h,t⟩,g=>by
    subst e;exact⟨v,_,rfl,h,S9 t g⟩
def ZS {n:Nat}{dn:List Int}{g:G}(S:FnScopeC N ps i.fr (aL i.st))(hbn:sZ i ps n dn)(hg:∀ds cs M,ds.length=n->g (ds ++ cs) M=mX ps.length N.length b ((ds ++ dn.map .int) ++ cs) M)
    (hb:∀f cd cl A outer s H,Room k (A.deeper (PySem.W.envX i.q (aL i.st) s.heap.objs.size f cd cl))->SB (Ef P w K mg base N i f cd cl A outer s H) W0 (cB i.st) b):kI P w K mg base (k + 1) i n g:=by
  intro A outer s H us0 vs0 Q E f caps Pl M ds0 d M' hr e0 r0 hn0 hk fc is0 e q;obtain⟨cl,dV,doc,ctv,c,cvs,e1,⟨e2,edf⟩,⟨e3,hfr'⟩,e4,e5,e6⟩:=fc;obtain⟨oc,fs,t,c1,c2,c3⟩:=e2;have ho:s.heap.get? f=some (nY mg i cl dV doc ctv c):=(e0.hok f _ e1).1;have hcr:s.heap.CodeRec (.ref c) i.q:=⟨c,oc,fs,t,rfl,(e0.hok c _ c1).1,c2,c3⟩;have lim:s.heap.NoLimit:=e0.mod.nolimit.keeps fun b o e=>(e0.bs b o e).1;obtain⟨us',rd,hbt⟩:=hbn.2 H s ((mg "__name__").getD .none) cl dV doc ctv (.ref c) us0 (by rw[<-r0.length];exact hn0) edf fun a o u z=>(e0.hok a _ z).1;rw[hg _ _ _ (by rw[<-hn0];exact is0.len.symm)]at e;have r:Vals (vs0 ++ dn.map V.int) (us0 ++ us'):=r0.append rd;have hn:(vs0 ++ dn.map V.int).length=ps.length:=by rw[xag,xan,hn0];exact hbn.1
  have is:aC K Pl H (ds0 ++ dn.map D.int) (vs0 ++ dn.map V.int):=S9 is0 (S8 dn);clear is0 r0 rd hn0 hg;generalize us0 ++ us'=us at r hbt;generalize vs0 ++ dn.map V.int=vs at r hn is;generalize ds0 ++ dn.map D.int=ds at is e;have ulen:us.length=ps.length:=by rw[<-r.length];exact hn
  have kept:∀h':Heap,Heap.SameBut s.heap.objs.size (s.heap.push {cls:=.type "frame",data:=.dict #[]}) h'->∀b o,s.heap.get? b=some o->h'.get? b=some o:=fun h' hs b o g=>by
    rw[hs.2 b (xaE (xaq g))];exact xac _ g
  refine xcT hr.depth ho rfl S.co S.gen rfl hcr (hbt _ _ _ _ ?_);refine wpAny_newFunctionEnv S.noc (fun y hy=>S.par _ (xcI hy).1) (fun h' hns hsame=>⟨lim.keeps (kept h' hsame),codeAny_func ?_⟩) S.kind;have cll:cvs.length=i.fr.length:=by rw[e5.len, <-hfr', <-e3,xan]
  have S_len:=S.len;have dl:=is.len;have I:=zba (P:=P) (w:=w) (base:=base) (f:=f) (cd:=.ref c) (A:=A) (outer:=outer) (tk:=s.toks + (ps.zip us).length) S hr.hd e0 hn r (e3.trans hfr') e5 e6 hns (kept h' hsame);have st0:=zbB (N:=N) (ds:=ds) (cds:=caps.map (·.2)) hk (by lia) is e4;rw[show ds.length=ps.length by lia]at st0;have hq:tS K mg W0 b {nx:=fun _ H'=>Q .non H',rt:=Q} (wg N vs cvs) H:=by
    unfold mX cC at e;kjx_on
    · kri_at
    · kfm_hd
    · rename_i c n M2 eb;cases e
    · cases e
  refine xaU (hb f (.ref c) cl A outer s H (hr.deeper _) [] _ (wg N vs cvs) H _ I hq) (fun fl s' hs=>?_) fun e s' hs=>False.elim hs
  cases fl with
  |ret u=>
    obtain⟨v,σ',H',J,rv,z⟩:=hs;exact⟨v,H',J.os,J.bare,J.base,J.hok,rv,z⟩
  |next=>
    obtain⟨σ',H',J,z⟩:=hs;exact⟨.non,H',J.os,J.bare,J.base,J.hok,rfl,z⟩
  |brk=>
    obtain⟨_,_,_,z⟩:=hs;exact False.elim z
  |cont=>
    obtain⟨_,_,_,z⟩:=hs;exact False.elim z
end
open Classical in
noncomputable def iB (i:FnT) (g:G) (f:E) (fs:EA):E:=fun env M=>bnd (f env M) fun d M1=>match d with
  | .ref k => (match M1[k]? with
    | some (.fn i' caps) => if i' = i then cO (fs env M1) fun ds M2 => (match g (ds ++ caps.map (·.2)) M2 with
      |some (.v z,M3)=>some (.v z,M3)
      |_=>none) else none
    |_=>none)
  |_=>none
section
variable {X:Cx}{Wx:XW}{m:Mode}{pos:Pos}
def zb9 {k n:Nat}{hd:Expr}{i:FnT}{g:G}{e:Expr}{es:List Expr}{f:E}{fs:EA}(a:kI X.prog X.w X.K X.mg X.base k i n g)(hr:Room k X.A)(hf:SE X Wx .val hd f)(ha:SA X Wx .val (e::es) fs)(hn:nJ n fs)
    (he:starEach (e::es) X.env=(false,eval e X.env)::starEach es X.env:=by rfl) (hpl:(backTo pos (starEach es X.env)).any (·.1)=false:=by rfl) (hce:eval (.Call hd (e::es) [] pos) X.env=(eval hd X.env >>=fun v=>callWith pos v [] (backTo pos (starEach (e::es) X.env)) (backToKw pos (keywordEach [] X.env))):=by rfl):SE X Wx m (.Call hd (e::es) [] pos) (iB i g f fs):=by
  intro pins s σ H Q I hh;rw[hce];obtain⟨P0,H0,P,Os,env,M,r,M',k,e,q⟩:=hh;unfold iB at e;rcases cA e with⟨d,M1,e1,e3⟩ |⟨c,n,e1,rfl⟩
  · clear e;split at e3
    · rename_i kk;split at e3
      · rename_i i' caps em;split at e3
        · rename_i hi;subst hi;refine xaa (aU (hf pins s σ H (fun v H1=>∃P1,LtE P H P1 H1/\Hk X.K X.mg P1 H1 M1/\Is X.K P1 H1 (.ref kk) v) I ⟨P0,H0,P,Os,env,M,_,_,k,e1,fun P1 v H1 l h i=>⟨P1,l,h,i⟩⟩) fun u s1 h1=>?_);obtain⟨v,H1,I1,rv,P1,l1,h1,kl,rfl⟩:=h1;obtain rfl:u=Value.ref (P1.io kk):=rv;have fc:nM X.K X.mg P1 H1 (P1.io kk) i' caps:=h1.cell kk _ em;have fat:∀{s2:Shared} {H2:Hp},Inv X pins σ H2 s2->(∀b o u,H1 b=some (.frz o u)->H2 b=some (.frz o u))->PySem.W.FnAt (P1.io kk) s2.heap:=fun {s2 H2} J sm=>by
            obtain⟨cl,dV,doc,ctv,c,cvs,g1,_⟩:=fc;exact⟨_,_,_,_,(J.hok _ _ (sm _ _ _ g1)).1⟩
          have k1:=k.next l1 h1
          rcases mU e3 with⟨ds,M2,e2,e4⟩ |⟨c,n',e2,rfl⟩
          · split at e4
            · k_one
              cases r with
              |error e=>exact False.elim hq
              |ok fl=>
                cases fl with
                |ret u=>exact I2.after hq
                |next=>exact False.elim hq
                |brk=>exact False.elim hq
                |cont=>exact False.elim hq
            · cases e4
          · refine xcL (fat I1 fun _ _ _ z=>z) (aU (ha pos pins s1 σ H1 (fun _ _=>False) I1 ⟨P0,H0,P1,Os,env,M1,_,_,k1,e2,q⟩) fun us s2 h2=>?_) he hpl;obtain⟨_,_,_,_,z⟩:=h2;exact z.elim
        · cases e3
      · cases e3
    · cases e3
  · refine xaa (aU (hf pins s σ H (fun _ _=>False) I ⟨P0,H0,P,Os,env,M,_,_,k,e1,q⟩) fun u s1 h1=>?_);obtain⟨_,_,_,_,z⟩:=h1;exact z.elim
end
end E3
namespace E3
open PySem PySem.Spec PyProof.Rows L2
noncomputable def bC (K:Fgx) (nm:Str):Addr:=((PySem.W.tabIn K nm).getD (0,0)).2
noncomputable def tabsOk (K : Fgx) (T : List (Str × FnT)) (ts : List Addr) : Bool := (T.all fun p=>match PySem.W.tabIn K p.1 with
 |some (c,P)=>PySem.W.codeHdIn K c P && (K.lookup P).isNone && ts.contains P
 |none=>false) && decide ((T.map fun p=>bC K p.1).Nodup)
def Xq {K:Fgx}{T:List (Str×FnT)}{ts:List Addr}(h:tabsOk K T ts=true):(∀p∈T,∃c,PySem.W.tabIn K p.1=some (c,bC K p.1)/\PySem.W.codeHdIn K c (bC K p.1)=true/\K.lookup (bC K p.1)=none/\bC K p.1∈ts)/\(T.map fun p=>bC K p.1).Nodup:=by
  unfold tabsOk at h;rw[xaD,xbw]at h;refine⟨fun p hp=>?_,xcP h.2⟩;have:=h.1 p hp;unfold bC
  cases e:PySem.W.tabIn K p.1 with
  |none=>rw[e]at this;cases this
  |some q=>
    obtain⟨c,P⟩:=q;rw[e]at this;simp only[xaD,Option.isNone_iff_eq_none,List.contains_iff_mem]at this;exact⟨c,rfl,this.1.1,this.1.2,this.2⟩
def f9 (T:List (Str×FnT)):Mm:=T.map fun p=>Cl.tbl p.1 p.2
def G_ (K:Fgx)(T:List (Str×FnT))(H:Hp):Prop:=∀p∈T,H (bC K p.1)=some (.tbl #[])
def zbp {P:Program}{w:World}{K:Fgx}{mg mb:Mgx}{CX:fQ}{k:Nat}{fa a:Addr}{fd:FuncData}{x:Str}{sp:Sp}{s₁:Shared}{vs:List Value}{ns:List Int}{T:List (Str×FnT)}{ts:List Addr}
    (hT:tabsOk K T ts=true) (hts:∀P∈ts,s₁.heap.get? P=some (PySem.W.tabObj #[])) (hbm:lW mg s₁.heap)
    (KX:K.In s₁.heap) (hns:s₁.heap.Ns mainGlobals mg) (hb:s₁.heap.Ns builtinsNs mb) (hbb:∀x:Str,x≠"__name__"->mb x=bootBuiltins x) (hlim:s₁.heap.NoLimit) (hg:s₁.gens= #[])
    (ha:s₁.heap.get? a=some {cls:=.type "list",data:=.seq vs.toArray}) (hi:IntsAre vs ns) (hl:ns.length<=sizeLine) (hr:Room k callerA)
    (F:∀base:Heap,K.In base->base.Ns mainGlobals mg->lW mg base->FnOk P w K mg base CX k fa fd [x] sp) (hbind:∀(s:Shared) (u:Value),BindsTo s fd ⟨[u],[]⟩ [(x,u)])
    (hsp:∀H:Hp,G_ K T H->b_ K H a (ns.map V.int)->sp [.ref a] H (fun v _=>v=.bl true) fun _ _ _=>False)
    (hCX:∀H e s',CX [] H s₁ (fun _ _ _=>False) e s'->False):
    codeAny (model P w) callerA (.call (.ref fa) ⟨[.ref a],[]⟩) (fun r s'=>r=.ok (.ret (.bool true))/\OldK s₁.heap s'.heap/\s'.os=s₁.os/\AllBare s'.gens) s₁:=by
  have rv:=XS hi;have lenV:=hi.length;obtain⟨tb,tnd⟩:=Xq hT;have inT:∀{b:Addr},(b∈T.map fun p=>bC K p.1)->(∃c,PySem.W.codeHdIn K c b=true)/\K.lookup b=none/\s₁.heap.get? b=some (PySem.W.tabObj #[]):=fun {b} h=>by
    obtain⟨p,hp,rfl⟩:=xa5.mp h;obtain⟨c,_,e2,e3,e4⟩:=tb p hp;exact⟨⟨c,e2⟩,e3,hts _ e4⟩
  have naT:(a∈T.map fun p=>bC K p.1)->False:=fun h=>by
    have:=(inT h).2.2;rw[ha]at this;cases this
  have core:∀H:Hp,(∀b,H b=none\/(∃o xs,H b=some (.frz o (.lst xs))/\b=a)\/((b∈T.map fun p=>bC K p.1)/\H b=some (.tbl #[])))->G_ K T H->b_ K H a (ns.map V.int)->cJ P w H s₁.heap->(H a≠none->K.lookup a=none)->
      codeAny (model P w) callerA (.call (.ref fa) ⟨[.ref a],[]⟩) (fun r s'=>r=.ok (.ret (.bool true))/\OldK s₁.heap s'.heap/\s'.os=s₁.os/\AllBare s'.gens) s₁:=by
    intro H hO hTT hS hok hK;have base_of:∀{b:Addr} {o:Obj},s₁.heap.get? b=some o->H b=none->(eN s₁.heap H).get? b=some o:=fun e n=>zcy e n;have noA:∀{b:Addr} {o:Obj} {es:Array DictEntry} {ep:Nat},s₁.heap.get? b=some o->o.data=.dict es ep->H b=none:=fun {b o es ep} e d=>by
      rcases hO b with z |⟨_,_,_,z⟩ |⟨z,_⟩
      · exact z
      · subst z;rw[ha]at e;cases e;have d':Data.seq vs.toArray _=Data.dict es ep:=d;cases d'
      · rw[(inT z).2.2]at e;cases e;have d':Data.fields _=Data.dict es ep:=d;cases d'
    have nsK : ∀ {b : Addr} {m : Mgx}, s₁.heap.Ns b m -> (eN s₁.heap H).Ns b m := fun {b m} ⟨o, es, ep, e, d, r⟩ => ⟨o, es, ep, base_of e (noA e d), d, r⟩;have hKb : K.In (eN s₁.heap H) := fun b o e => base_of (KX b o e) (by
      rcases hO b with z |⟨o',xs,q,z⟩ |⟨z,_⟩
      · exact z
      · subst z;rw[hK (by rw[q];exact fun z=>nomatch z)]at e
        cases e
      · rw[(inT z).2.1]at e;cases e)
    have hB:lW mg (eN s₁.heap H):=by
      obtain⟨bm,ob,b1,b2,b3,b4,b5,b6,b7⟩:=hbm;refine⟨bm,ob,b1,b2,b3,base_of b4 ?_,b5,b6,b7⟩;rcases hO bm with z |⟨_,_,_,z⟩ |⟨z,_⟩
      · exact z
      · subst z;rw[ha]at b4;cases b4;cases b7
      · rw[(inT z).2.2]at b4;cases b4;cases b7
    have hM:Mod K mg (eN s₁.heap H):=⟨hKb,nsK hns,⟨mb,nsK hb,hbb⟩,let ⟨mc,h1,h2⟩:=hlim;⟨mc,nsK h1,h2⟩⟩
    have e0:Env0 P w K mg (eN s₁.heap H) callerA [] s₁ H:=⟨rfl,hM,fun b o e=>zdp e,xc1 (zbH _ _),trivial,fun b hb=>absurd (show b∈([]:List Addr) from hb) (by simp),hok,.of_eq hg⟩;refine xcf ((F _ hKb (nsK hns) hB).run callerA [] s₁ H ⟨[.ref a],[]⟩ [.ref a] [.ref a] _ _ hr e0 (hbind s₁ (.ref a)) (.cons rfl .nil) (hsp H hTT hS)) fun r s' h=>?_
    cases r with
    |error e=>exact(hCX H e s' h).elim
    |ok fl=>
      cases fl with
      |next=>exact False.elim h
      |brk=>exact False.elim h
      |cont=>exact False.elim h
      |ret u=>
        obtain⟨v,H',os,bare,un,hok',r',q⟩:=h;have q':v=.bl true:=q;subst q';obtain rfl:u=Value.bool true:=r';refine⟨rfl,⟨fun b o e=>?_,fun b o e=>un.there b o e (by simp)⟩,os,bare⟩;rcases hO b with z |⟨ob,xs,z,_⟩ |⟨hm,z⟩
        · exact .inl (un.keep b o e z (by intro y;exact absurd (show b∈([]:List Addr) from y) (by simp)) (by simp))
        · have z2:=un.frzs b ob _ z;obtain⟨e1,_⟩:=hok b _ z;obtain⟨e2,_⟩:=hok' b _ z2;rw[e]at e1;cases e1;exact .inl e2
        · obtain⟨⟨c,hc⟩,_,hg⟩:=inT hm;obtain⟨more,z2⟩:=un.tbls b _ z;have g2:s'.heap.get? b=some {cls:=.none,data:=.fields (#[] ++ more)}:=hok' b _ z2;rw[hg]at e;cases e;exact .inr (.inl ⟨((xef KX hc).tab hg).isCodeTable,rfl, #[],more,rfl,g2⟩)
  cases hk:K.lookup a with
  |some o=>
    have e:=KX a o hk;rw[ha]at e;cases e;refine core (fun b=>if (b∈T.map fun p=>bC K p.1) then some (.tbl #[]) else none) (fun b=>?_) (fun p hp=>xad (xa5.mpr ⟨p,hp,rfl⟩)) (.inr ⟨_,vs.toArray,_,hk,rfl,rfl,rfl,by rw[xai,lenV];exact hl,by simpa using rv⟩) (fun b u z=>?_) fun z=>absurd (xae naT) z
    · by_cases hb:(b∈T.map fun p=>bC K p.1)
      · exact .inr (.inr ⟨hb,xad hb⟩)
      · exact .inl (xae hb)
    · by_cases hb:(b∈T.map fun p=>bC K p.1)
      · have z':=(xad hb).symm.trans z;cases z';exact(inT hb).2.2
      · have z':=(xae hb).symm.trans z;cases z'
  |none=>
    refine core (fun b=>if b=a then some (.frz {cls:=.type "list",data:=.seq vs.toArray} (.lst (ns.map V.int))) else if (b∈T.map fun p=>bC K p.1) then some (.tbl #[]) else none) (fun b=>?_) (fun p hp=>?_) (.inl (.inr ⟨{cls:=.type "list",data:=.seq vs.toArray},xad rfl⟩)) (fun b u z=>?_) fun _=>hk
    · by_cases hb:b=a
      · exact .inr (.inl ⟨_,_,xad hb,hb⟩)
      · by_cases ht:(b∈T.map fun p=>bC K p.1)
        · exact .inr (.inr ⟨ht,(xae hb).trans (xad ht)⟩)
        · exact .inl ((xae hb).trans (xae ht))
    · have hm:(bC K p.1∈T.map fun p=>bC K p.1):=xa5.mpr ⟨p,hp,rfl⟩;have hne:bC K p.1≠a:=fun z=>naT (by rw[<-z];exact hm);exact(xae hne).trans (xad hm)
    · by_cases hb:b=a
      · have z':=(xad hb).symm.trans z;cases z';subst hb;exact⟨ha,by rw[xan];exact hl,vs,_,rv,ha⟩
      · have z1:=(xae hb).symm.trans z
        by_cases ht:(b∈T.map fun p=>bC K p.1)
        · have z':=(xad ht).symm.trans z1;cases z';exact(inT ht).2.2
        · have z':=(xae ht).symm.trans z1;cases z'
theorem Ul {α:Type}:∀{l:List α} {i j:Nat} {x:α},l.Nodup->l[i]? =some x->l[j]? =some x->i=j
  | [],_,_,_,_,h,_=>by simp at h
  |a::l,0,0,_,_,_,_=>rfl
  |a::l,0,j + 1,x,nd,h1,h2=>by
    simp at h1
    subst h1;exact absurd (xaF (by simpa using h2)) (xbQ.mp nd).1
  |a::l,i + 1,0,x,nd,h1,h2=>by
    simp at h2
    subst h2;exact absurd (xaF (by simpa using h1)) (xbQ.mp nd).1
  |a::l,i + 1,j + 1,x,nd,h1,h2=>congrArg (· + 1) (Ul (xbQ.mp nd).2 (by simpa using h1) (by simpa using h2))
def zdd {K:Fgx}{g:G}{H:Hp}{a:Addr}{ns:List Int}{T:List (Str×FnT)}{ts:List Addr}(hT:tabsOk K T ts=true)(hg:∃M,g [.lst (ns.map D.int)] (f9 T)=some (.v (.bl true),M))(hO:G_ K T H)(hS:b_ K H a (ns.map V.int)):Gs K g [.ref a] H (fun v _=>v=.bl true) fun _ _ _=>False:=by
 intro mg;obtain⟨M,e⟩:=hg;obtain⟨tb,tnd⟩:=Xq hT;have at_:∀{k:Nat} {p:Str×FnT},T[k]? =some p->(T[k]?.map fun p=>bC K p.1).getD 0=bC K p.1:=fun h=>by rw[h];rfl
 refine⟨rfl,⟨fun k=>(T[k]?.map fun p=>bC K p.1).getD 0,T.length,fun b=>∃p∈T,bC K p.1=b⟩,f9 T,[.lst (ns.map D.int)],.bl true,M,⟨by simp[f9],fun k c e=>?_,fun j k h1 h2 z=>?_,fun k h=>?_,fun b z=>?_⟩,⟨.ref a,[],rfl,⟨a,ns.map V.int,rfl,?_,S7 ns⟩,rfl⟩,e,fun P' v H' _ _ i=>i⟩
 ·unfold f9 at e;rw[xam,xaj]at e;obtain⟨p,hp,rfl⟩:=e;have hm:=xaF hp;obtain⟨c,e1,_⟩:=tb p hm;show Ho K H ((T[k]?.map fun p=>bC K p.1).getD 0) p.1 p.2;rw[at_ hp];exact⟨c, #[],e1,hO p hm,.inl rfl⟩
 ·have g1:T[j]? =some T[j]:=xab h1;have g2:T[k]? =some T[k]:=xab h2;have z':(T[j]?.map fun p=>bC K p.1).getD 0=(T[k]?.map fun p=>bC K p.1).getD 0:=z;rw[at_ g1,at_ g2]at z';exact Ul tnd (x:=bC K T[k].1) (by rw[xam,g1];exact congrArg some z') (by rw[xam,g2];rfl)
 ·have g1:T[k]? =some T[k]:=xab h;refine⟨T[k],xaY h,?_⟩;show _=(T[k]?.map fun p=>bC K p.1).getD 0;rw[at_ g1]
 ·obtain⟨p,hp,rfl⟩:=z;rw[hO p hp];exact fun z=>nomatch z
 ·rcases hS with h |h
  ·refine .inl ⟨fun⟨p,hp,z⟩=>?_,h⟩;have:=hO p hp;rw[z]at this;rcases h with h |⟨o,h⟩<;>rw[this]at h<;>cases h
  ·exact .inr h
def zb4 {l:PySem.W.OpenLaw}{k:Nat}{q:Program}{loose:List Str}{XP:(Mgx)->Heap->Prop}{YP:World->Heap->Prop}{d:DefRec}{K:Params->Fgx}{x:Str}{g:G}{T:List (Str×FnT)}
  (hn:l.most=some 63) (hdf:d.params.defaults=[]) (hr:Room k callerA) (hY:∀(w:World) (h:Heap),YP w h->(K w.params).In h) (hZ:∀(w:World) (h:Heap),YP w h->∃ts,tabsOk (K w.params) T ts=true/\∀P∈ts,h.get? P=some (PySem.W.tabObj #[]))
  (F:∀(w:World) (mg:Mgx) (fa:Addr) (h:Heap),(K w.params).In h->h.Ns mainGlobals mg->mg d.name=some (.ref fa)->
   ∃fd:FuncData,(∀(s:Shared) (u:Value),BindsTo s fd ⟨[u],[]⟩ [(x,u)])/\
    ∀base:Heap,(K w.params).In base->base.Ns mainGlobals mg->lW mg base->FnOk l.prog w (K w.params) mg base fP k fa fd [x] (Gs (K w.params) g))
  (hg:∀ns:List Int,ns.length<=63->∃M,g [.lst (ns.map D.int)] (f9 T)=some (.v (.bl true),M)):PySem.W.WalkO q loose XP YP l.row.toRowW d [] (fun f vs=>PySem.call f vs):=by
 refine Att.Yv hn hdf fun w s₀ s₁ mg mb fa o pm cd doc a vs ns G Y ho hd hcd hmg hobj hints hlen hgn=>?_;have KX:=hY w _ Y;obtain⟨ts,hT,hts⟩:=hZ w _ Y;obtain⟨fd,hb,hF⟩:=F w mg fa _ KX G.T.g hmg;have hbm:lW mg s₁.heap:=by
  obtain⟨bm,ob,b1,b2,b3,b4,b5,b6⟩:=G.T.bmain;refine⟨bm,ob,b1,b2,fun z=>?_,b3,b4,b5,b6⟩;obtain⟨o,es,ep,e,d,_⟩:=G.T.g;rw[z,e]at b3;cases b3;rw[d]at b6;cases b6
 exact zbp hT hts hbm KX G.T.g G.T.b G.T.builtins G.T.nolimit hgn hobj hints (xar hlen (by decide)) hr hF hb (fun H hO hS=>zdd hT (hg ns hlen) hO hS) fun H e s' z=>z
def inDef (s:Stmt)(j:Nat):Stmt:=(cB s).getD j s
noncomputable def Rg (s:Stmt):Pos:=match s with
 |.FunctionDef _ _ _ _ _ _ _ _ _ p=>p
 |_=>⟨0,0,0,0⟩
noncomputable def dM (caps:List (Str×Nat)) (env:PySem.Env):List (Str×Addr):=caps.map fun p=>(p.1,(env.cells.lookup p.1).getD 0)
abbrev LF (st:Stmt)(x:Str):Prop:=(aL st).names.lookup x=some .free
section
variable {X:Cx}{Wx:XW}
def Vu {k:Nat}{ss:List Stmt}{b:S}(hr:Room k X.A)(h:X.A.units + 60<cLine->tu X Wx ss b):tu X Wx ss b:=h (xco (xee (by decide) _) hr.units)
end
section
variable (P:Program)(w:World)(K:Fgx)(mg:Mgx)(base:Heap)(k:Nat)(f:Addr)(N:List Str)(q:Str)(st:Stmt)(b:S)(c:Addr)(i:FnT)
abbrev Hj:Prop:=∀(A:Around) (outer:List PySem.Env) (s:Shared) (H:Hp) (E:XK),Room k (A.deeper (envOfC q (aL st) s.heap.objs.size f (.ref c)))->tu (pY P w K mg base N q st f (.ref c) A outer s H E) W0 (cB st) b
abbrev yx:Prop:=∀(f:Addr) (cd:Value) (cl:List (Str×Addr)) (A:Around) (outer:List PySem.Env) (s:Shared) (H:Hp),Room k (A.deeper (PySem.W.envX i.q (aL i.st) s.heap.objs.size f cd cl))->SB (Ef P w K mg base N i f cd cl A outer s H) W0 (cB i.st) b
end
section
variable {P:Program}{w:World}{K:Fgx}{mg:Mgx}{h base:Heap}{k:Nat}{f:Addr}{N ps:List Str}{x q:Str}{st:Stmt}{b:S}{c Pt:Addr}{i:FnT}
def mkZ {CX:fQ}{A:Around}{outer:List PySem.Env}{s:Shared}{H:Hp}{E:XK}{nm:Str}{caps:List (Str×Nat)}{j:Nat}{X:Cx}(hX:X=cU CX P w K mg base N q (aL st) f (.ref c) A outer s H E\/X=(cU CX P w K mg base N q (aL st) f (.ref c) A outer s H E).nox)(tab:PySem.W.tabIn K nm=some (c,Pt))(hd:PySem.W.codeHdIn K c Pt=true)(bm:lW mg base)(nd:N.Nodup)
  (hst:∃params body scope,i.st=.FunctionDef i.x params body [] none [] scope none i.x i.pos/\((params.defaults=[]/\i.dd=[])\/∃n a p,params.defaults=[.Constant (.int n) a p]/\i.dd=[n]/\caps≠ [])/\params.kw_defaults=[]/\params.kwonlyargs=[]/\annTrees params none (envOfC q (aL st) s.heap.objs.size f (.ref c))=[])
  (hq:qualnameIn (envOfC q (aL st) s.heap.objs.size f (.ref c)) i.x i.x=i.q)
  (clo:closureFor (aL i.st) (envOfC q (aL st) s.heap.objs.size f (.ref c))=pure (dM caps (envOfC q (aL st) s.heap.objs.size f (.ref c))))
  (nZ:caps.map (·.1)=i.fr) (cap:∀p∈caps,N[p.2]? =some p.1/\LC st p.1/\p.2≠j) (jx:N[j]? =some i.x) (jl:LV st i.x)
  (db:(i.x==("__debug__":Str))=false) (cd:(i.x==("__classdict__":Str))=false):
  MkOk X nm i caps (dM caps (envOfC q (aL st) s.heap.objs.size f (.ref c))) c Pt j:=by
 have cel:∀p∈dM caps (envOfC q (aL st) s.heap.objs.size f (.ref c)),(envOfC q (aL st) s.heap.objs.size f (.ref c)).cells.lookup p.1=some p.2:=fun p hp=>by
  obtain⟨r,hr,rfl⟩:=xa5.mp hp;obtain⟨a,e⟩:=I_ (n:=s.heap.objs.size + 1) (cap r hr).2.1;have e':(envOfC q (aL st) s.heap.objs.size f (.ref c)).cells.lookup r.1=some a:=e;show _=some ((_:Option Addr).getD 0);rw[e'];rfl
 have hst':∃params body scope,i.st=.FunctionDef i.x params body [] none [] scope none i.x i.pos/\((params.defaults=[]/\i.dd=[])\/∃n a p,params.defaults=[.Constant (.int n) a p]/\i.dd=[n]/\dM caps (envOfC q (aL st) s.heap.objs.size f (.ref c))≠ [])/\params.kw_defaults=[]/\params.kwonlyargs=[]/\annTrees params none (envOfC q (aL st) s.heap.objs.size f (.ref c))=[]:=by
  obtain⟨p,b,sc,e1,e2,r⟩:=hst;refine⟨p,b,sc,e1,e2.imp id fun⟨n,a,p,z1,z2,z3⟩=>⟨n,a,p,z1,z2,fun z=>z3 ?_⟩,r⟩;unfold dM at z;exact xec.mp z
 rcases hX with rfl |rfl
 ·exact⟨rfl,fun _=>rfl,hst',hq,rfl,tab,hd,bm,clo,by simp[dM],nZ,cel,cap,nd,jx,jl,db,cd⟩
 ·exact⟨rfl,fun _=>rfl,hst',hq,rfl,tab,hd,bm,clo,by simp[dM],nZ,cel,cap,nd,jx,jl,db,cd⟩
theorem Ui {A:Around}{outer:List PySem.Env}{s:Shared}{H:Hp}{E:XK}{nm:Str}{caps:List (Str×Nat)}{j:Nat}(tab:PySem.W.tabIn K nm=some (c,Pt))(hd:PySem.W.codeHdIn K c Pt=true)(bm:lW mg base)(nd:N.Nodup)
  (hst:∃params body scope,i.st=.FunctionDef i.x params body [] none [] scope none i.x i.pos/\((params.defaults=[]/\i.dd=[])\/∃n a p,params.defaults=[.Constant (.int n) a p]/\i.dd=[n]/\caps≠ [])/\params.kw_defaults=[]/\params.kwonlyargs=[]/\annTrees params none (envOfC q (aL st) s.heap.objs.size f (.ref c))=[]:=by first |exact⟨_,_,_,rfl,.inl ⟨rfl,rfl⟩,rfl,rfl,rfl⟩ |exact⟨_,_,_,rfl,.inr ⟨_,_,_,rfl,rfl,fun z=>nomatch z⟩,rfl,rfl,rfl⟩)
  (hq:qualnameIn (envOfC q (aL st) s.heap.objs.size f (.ref c)) i.x i.x=i.q:=by kernel_rfl)
  (clo:closureFor (aL i.st) (envOfC q (aL st) s.heap.objs.size f (.ref c))=pure (dM caps (envOfC q (aL st) s.heap.objs.size f (.ref c))):=by kernel_rfl)
  (nZ:caps.map (·.1)=i.fr:=by rfl) (cap:∀p∈caps,N[p.2]? =some p.1/\LC st p.1/\p.2≠j:=by x_go) (jx:N[j]? =some i.x:=by rfl) (jl:LV st i.x:=by kernel_rfl)
  (db:(i.x==("__debug__":Str))=false:=by x_go) (cd:(i.x==("__classdict__":Str))=false:=by x_go):
  MkOk (pY P w K mg base N q st f (.ref c) A outer s H E) nm i caps (dM caps (envOfC q (aL st) s.heap.objs.size f (.ref c))) c Pt j:=mkZ (.inr rfl) tab hd bm nd hst hq clo nZ cap jx jl db cd
def cH.okM (F:cH K x st)(X:K.In h)(G:h.Ns mainGlobals mg)(S:FnScope N ps (aL st))(ht:PySem.W.tabIn K x=some (c,Pt))(hr:∀f,Hj P w K mg base k f N x st b c)
  (hb:HB x st ps:=by first |exact G3 rfl |exact G4 rfl |exact G5 rfl |exact G6 rfl |exact HB5 rfl) (hp:ps.length<=N.length:=by decide):bB P w K mg base (k + 1) x ps.length (bA N.length b):=by
 obtain⟨f,d,D⟩:=F.at X G hb;exact ZR D.F S hp D.mg D.b ht (hr f)
def WL {N ps fr:List Str}{sc:Scope}(h1:sc.kind=.function:=by rfl)(h2:sc.isCoroutine=false:=by rfl)(h3:sc.isGenerator=false:=by rfl)(h4:N.Nodup:=by x_go)(h5:N.take ps.length=ps:=by rfl)(h6:N.drop (N.length - fr.length)=fr:=by rfl)(h7:ps.length + fr.length<=N.length:=by decide)
  (h8:∀x∈ps,sc.names.lookup x=some .local:=by x_go) (h9:∀x∈fr,sc.names.lookup x=some .free:=by x_go) (h10:∀y∈sc.names,y.2=.free->y.1∈fr:=by x_go) (h11:∀y∈sc.names,y.2≠ .cell:=by x_go):FnScopeC N ps fr sc:=⟨h1,h2,h3,h4,h5,h6,h7,h8,h9,h10,h11⟩
def sZ.of {n:Nat}{dn:List Int}(hl:n + dn.length=ps.length)(hd:i.dd=[])(h:dn=[]/\∀(s:Shared) (mgv:Value) (cl:List (Str×Addr)) (doc ctv cd:Value) (us:List Value),us.length=ps.length->BindsTo s (PySem.W.fnX i.x i.q (dh i.st) (cB i.st) (aL i.st) cl .none .none doc mgv none cd ctv) ⟨us,[]⟩ (ps.zip us)):sZ i ps n dn:=
 ⟨hl,fun H s mgv cl dV doc ctv cd us hu hD hH=>by
  obtain⟨rfl,h⟩:=h;rcases hD with⟨_,rfl⟩ |⟨z,_⟩
  ·exact⟨[],.nil,by rw[xas];exact h s mgv cl doc ctv cd us (by rw[hu, <-hl];rfl)⟩
  ·exact absurd hd z⟩
def sZ.dfl {n:Nat}{dn:List Int}{z:Int}(hl:n + dn.length=ps.length)(hd:i.dd=[z])
    (h:∀(s:Shared) (mgv:Value) (cl:List (Str×Addr)) (td:Addr) (doc ctv cd:Value) (us:List Value) (o:Obj) (m t:Nat),us.length=n->s.heap.get? td=some o->o.data=.seq #[.int z t] m->∃us',Vals (dn.map V.int) us'/\BindsTo s (PySem.W.fnX i.x i.q (dh i.st) (cB i.st) (aL i.st) cl (.ref td) .none doc mgv none cd ctv) ⟨us,[]⟩ (ps.zip (us ++ us'))):sZ i ps n dn:=
  ⟨hl,fun H s mgv cl dV doc ctv cd us hu hD hH=>by
    rcases hD with⟨e,_⟩ |⟨_,td,o,its,m,rfl,g,ed,r⟩
    · rw[hd]at e;cases e
    · rw[hd]at r;obtain⟨t,rfl⟩:∃t,its= #[.int z t]:=by
        rcases its with⟨l⟩;have r:Vals [V.int z] l:=r
        cases r with
        |cons a b=>
          cases b;obtain⟨t,rfl⟩:=a;exact⟨t,rfl⟩
      exact h s mgv cl td doc ctv cd us o m t hu (hH td o _ g) ed⟩
def G7 {a0 a1:Str}(hd:i.dd=[])(h:∀{mgv:Value} {cl:List (Str×Addr)} {doc ctv cd u0 u1:Value},bindArgs (PySem.W.fnX i.x i.q (dh i.st) (cB i.st) (aL i.st) cl .none .none doc mgv none cd ctv) ⟨[u0,u1],[]⟩=pure [(a0,u0),(a1,u1)]):sZ i [a0,a1] 2 []:=
 .of rfl hd ⟨rfl,fun _ _ _ _ _ _ us hl=>match us,hl with | [_,_],_=>.of_eq h⟩
def G8 {a0 a1 a2:Str}{z:Int}(hd:i.dd=[z])(h:∀{s:Shared} {mgv:Value} {cl:List (Str×Addr)} {td:Addr} {doc ctv cd u0 u1 u2:Value} {o:Obj} {m t:Nat},s.heap.get? td=some o->o.data=.seq #[.int z t] m->BindsTo s (PySem.W.fnX i.x i.q (dh i.st) (cB i.st) (aL i.st) cl (.ref td) .none doc mgv none cd ctv) ⟨[u0,u1,u2],[]⟩ [(a0,u0),(a1,u1),(a2,u2)]):sZ i [a0,a1,a2] 3 []:=
 .dfl rfl hd fun _ _ _ _ _ _ _ us _ _ _ hl g e=>match us,hl with | [_,_,_],_=>⟨[],.nil,h g e⟩
def yx.ok (S:FnScopeC N ps i.fr (aL i.st))(hb:yx P w K mg base k N b i)(hp:sZ i ps ps.length []:=by first |exact HBC1 rfl rfl |exact G7 rfl rfl |exact G8 rfl fun h₁ h₂=>BindsTo.of_defaults rfl h₁ h₂ rfl rfl):kI P w K mg base (k + 1) i ps.length (mX ps.length N.length b):=ZS S hp (fun ds cs M _=>by rw[List.map_nil,xas]) hb
def kI.up {j n:Nat}{g:G}(a:kI P w K mg base j i n g)(h:j<=k:=by decide):kI P w K mg base k i n g:=a.mono h
end
noncomputable def sX (K:Fgx) (x:Str):Bool:=match PySem.W.tabIn K x with
 |some (c,P)=>PySem.W.codeHdIn K c P
 |none=>false
def Xp {K:Fgx}{x:Str}(h:sX K x=true):∃c P,PySem.W.tabIn K x=some (c,P)/\PySem.W.codeHdIn K c P=true:=by
 unfold sX at h;krn_ne
 ·exact⟨_,_,by assumption,h⟩
 ·cases h
section
variable {env:Env}{M:Mm}{kt n np:Nat}{nm:Str}{i:FnT}{caps:List (Str×Nat)}{cs:List (Str×D)}{b:S}{ds:List D}
def Bk (h1:M[kt]? =some (.tbl nm i))(h2:lH env caps=some cs):gj kt nm i caps env M=some (.rt (.ref M.length),M ++ [.fn i cs]):=by
 unfold gj;simp only[h1,and_self,xbB,h2,xb5]
def Iz {g:G}{f:E}{fs:EA}{M1 M2 M3:Mm}{k:Nat}{fc:List (Str×D)}{z:D}(h1:f env M=some (.v (.ref k),M1))(h2:M1[k]? =some (.fn i fc))(h3:fs env M1=some (.v ds,M2))(h4:g (ds ++ fc.map (·.2)) M2=some (.v z,M3)):iB i g f fs env M=some (.v z,M3):=by
 unfold iB bnd;simp only[h1,h2,xbB,cO,h3,h4]
end
end E3
namespace L2
open PySem PySem.Spec PyProof.Rows
end L2
namespace E3
open PySem PySem.Spec PyProof.Rows L2
end E3
namespace L2
open PySem PySem.Spec PyProof.Rows
end L2
namespace E3
open PySem PySem.Spec PyProof.Rows L2
mutual
def D.plain:D->Bool
 |.ref _=>false
 |.tup ds=>D.plains ds
 |.lst ds=>D.plains ds
 |_=>true
def D.plains:List D->Bool
 | []=>true
 |d::ds=>D.plain d && D.plains ds
end
section
variable {K:Fgx}{P:Pl}{H:Hp}{io:Nat->Addr}
mutual
theorem zcp:∀{d:D} {v:V},D.plain d=true->Is K P H d v->Is K ⟨io,0,fun _=>False⟩ H d v
 |.non,_,_,h |.bl _,_,_,h |.int _,_,_,h |.str _,_,_,h=>h
 |.ref _,_,p,_=>by simp[D.plain]at p
 |.tup ds,_,p,⟨a,vs,e,t,q⟩=>⟨a,vs,e,t,JX (by simpa [D.plain] using p) q⟩
 |.lst ds,_,p,⟨a,vs,e,t,q⟩=>⟨a,vs,e,t.imp (fun z=>⟨fun y=>y,z.2⟩) id,JX (by simpa [D.plain] using p) q⟩
theorem JX:∀{ds:List D} {vs:List V},D.plains ds=true->aC K P H ds vs->aC K ⟨io,0,fun _=>False⟩ H ds vs
  | [],_,_,h=>h
  |d::ds,_,p,⟨v,r,e,h,t⟩=>by
    simp only[D.plains,xaD]at p;exact⟨v,r,e,zcp p.1 h,JX p.2 t⟩
end
end
end E3
namespace TS
open PySem PyProof.Rows PySem.W
variable {prog:Program}{w:World}{A:Around}{E:Value->Shared->Prop}{R:Shared->Prop}{α β:Type}
def Ok (prog:Program)(w:World)(A:Around)(E:Value->Shared->Prop)(R:Shared->Prop)(m:StateT SortSt Sem α)(st:SortSt)(P:α->SortSt->Prop):Prop:=
 ∀s,R s->kasC (model prog w) A E m (fun a st' s'=>R s'/\P a st') st s
section
variable {st:SortSt}{P Q:α->SortSt->Prop}
def aW {a:α}(h:P a st):Ok prog w A E R (pure a) st P:=fun s r=>kasC_pure ⟨r,h⟩
def Ok.mono {m:StateT SortSt Sem α}(h:Ok prog w A E R m st P)(q:∀a st',P a st'->Q a st'):Ok prog w A E R m st Q:=
 fun s r=>xaU (h s r) (fun _ _ z=>⟨z.1,q _ _ z.2⟩) fun _ _ e=>e
def aQ {m:StateT SortSt Sem β}{f:β->StateT SortSt Sem α}(h:Ok prog w A E R m st fun b st'=>Ok prog w A E R (f b) st' P):Ok prog w A E R (m >>=f) st P:=
 fun s r=>kasC_bind (xaU (h s r) (fun _ s' z=>z.2 s' z.1) fun _ _ e=>e)
def pC {P:SortSt->SortSt->Prop}(h:P st st):Ok prog w A E R get st P:=fun s r=>kasC_get ⟨r,h⟩
def yX {P:PUnit->SortSt->Prop}{f:SortSt->SortSt}(h:P ⟨⟩ (f st)):Ok prog w A E R (modify f) st P:=fun s r=>kasC_modify ⟨r,h⟩
def zeu {P:PUnit->SortSt->Prop}{st':SortSt}(h:P ⟨⟩ st'):Ok prog w A E R (set st') st P:=fun s r=>by
 unfold kasC;rw[StateT.run_set];exact xak ⟨r,h⟩
def yZ {P:Unit->SortSt->Prop}{x:String}(h:P () st):Ok prog w A E R (liftM (rule x)) st P:=fun s r=>kasC_lift (wpAny_rule ⟨r,h⟩)
end
theorem Ut {f:Nat->β->StateT SortSt Sem (ForInStep β)}(I:Nat->β->SortSt->Prop){P:β->SortSt->Prop}:∀(n a:Nat) (b:β) (st:SortSt),I a b st->
    (∀i b st,a<=i->i<a + n->I i b st->Ok prog w A E R (f i b) st fun r st'=>match r with |.done b'=>P b' st' |.yield b'=>I (i + 1) b' st')->(∀b st,I (a + n) b st->P b st)->Ok prog w A E R (forIn (List.range' a n) b f) st P
  |0,a,b,st,h,_,q=>fun s r=>kasC_nil ⟨r,q b st h⟩
  |n + 1,a,b,st,h,hs,q=>fun s r=>by
    rw[List.range'_succ];refine kasC_cons (xaU (hs a b st (xaf _) (by lia) h s r) (fun z s' k=>?_) fun _ _ e=>e);obtain⟨z,st'⟩:=z
    cases z with
    |done b'=>exact k
    |yield b'=>exact Ut I n (a + 1) b' st' k.2 (fun i b st h1 h2=>hs i b st (by lia) (by lia)) (fun b st h=>q b st (by rw[show a + (n + 1)=a + 1 + n by lia];exact h)) s' k.1
def gC {a n:Nat}{b:β}{st:SortSt}{f:Nat->β->StateT SortSt Sem (ForInStep β)}{P:β->SortSt->Prop}(I:Nat->β->SortSt->Prop)(h:I a b st)
  (hs:∀i b st,a<=i->i<n->I i b st->Ok prog w A E R (f i b) st fun r st'=>match r with |.done b'=>P b' st' |.yield b'=>I (i + 1) b' st') (q:∀b st,I (max a n) b st->P b st):Ok prog w A E R (forIn [a:n] b f) st P:=
 fun s r=>kasC_range (Ut I (n - a) a b st h (fun i b st h1 h2=>hs i b st h1 (by lia)) (fun b st h=>q b st (by rw[show max a n=a + (n - a) by lia];exact h)) s r)
abbrev Rk:=Keyed->Nat
structure Bs (κ:SortKind)(a₀:Array Keyed)(st:SortSt):Prop where
 kd:kindOf st=κ
 nf:failedOf st=none
 pm:(arrOf st).Perm a₀
def nG (prog:Program)(w:World)(A:Around)(R:Shared->Prop)(κ:SortKind)(a₀:Array Keyed)(rk:Rk):Prop:=
 ∀x y,x∈a₀->y∈a₀->∀s,R s->wpAny (model prog w) A (keyLt' κ x.1 y.1) (fun c s'=>R s'/\c=decide (rk x<rk y)) (fun _ _=>False) s
variable {κ:SortKind}{a₀:Array Keyed}{rk:Rk}
def Bx {st:SortSt}{x y:Keyed}{P:Option Bool->SortSt->Prop}(C:nG prog w A R κ a₀ rk)(B:Bs κ a₀ st)(hx:x∈a₀)(hy:y∈a₀)(h:P (some (decide (rk x<rk y))) st):Ok prog w A E R (lt' x y) st P:=by
 rw[lt'_eq];refine aQ (pC fun s r=>?_);rw[B.kd];refine kasC_bind (kasC_lift (xdw (xaU (C x y hx hy s r) (fun c s' z=>?_) fun _ _ hF=>hF.elim)));obtain⟨r',rfl⟩:=z;exact kasC_pure ⟨r',h⟩
def dW {st:SortSt}{a:Array Keyed}{i:Nat}{P:Keyed->SortSt->Prop}(hi:i<a.size)(h:P a[i] st):Ok prog w A E R (elem' a i) st P:=by
 rw[elem'_eq,xdG hi];exact aW h
noncomputable def vv (rk:Rk) (a:Array Keyed) (i:Nat):Nat:=rk (a.getD i (Value.none,Value.none))
def dO {a:Array Keyed}{i:Nat}(h:i<a.size):vv rk a i=rk a[i]:=by unfold vv;simp[Array.getD,h]
def yw {a b:Array Keyed}{i j:Nat}(h:a[i]? =b[j]?):vv rk a i=vv rk b j:=by
 unfold vv;rw[xdq,xdq,h]
def Bw {st:SortSt}{i j:Nat}{P:Option Bool->SortSt->Prop}(C:nG prog w A R κ a₀ rk)(B:Bs κ a₀ st)(hi:i<(arrOf st).size)(hj:j<(arrOf st).size)(h:P (some (decide (vv rk (arrOf st) i<vv rk (arrOf st) j))) st):Ok prog w A E R (ltAt' i j) st P:=by
 rw[ltAt'_eq];refine aQ (pC ?_);refine aQ (dW hi (aQ (dW hj ?_)));rw[dO hi,dO hj]at h;exact Bx C B (B.pm.mem_iff.mp (xaL hi)) (B.pm.mem_iff.mp (xaL hj)) h
def Up (v:Nat->Nat)(i j:Nat):Prop:=∀k l,i<=k->k<=l->l<j->v k<=v l
def Dn (v:Nat->Nat)(i j:Nat):Prop:=∀k l,i<=k->k<=l->l<j->v l<=v k
def Up.one {v:Nat->Nat}{i:Nat}:Up v i (i + 1):=fun k l h1 h2 h3=>by rw[show k=l by lia];exact xaf _
def Dn.one {v:Nat->Nat}{i:Nat}:Dn v i (i + 1):=fun k l h1 h2 h3=>by rw[show k=l by lia];exact xaf _
def Up.snoc {v:Nat->Nat}{i j:Nat}(h:Up v i j)(hij:i<j)(e:v (j - 1)<=v j):Up v i (j + 1):=fun k l h1 h2 h3=>by
 by_cases hl:l=j
 ·subst hl
  by_cases hk:k=l
  ·subst hk;exact xaf _
  ·exact xar (h k (l - 1) h1 (by lia) (by lia)) e
 ·exact h k l h1 h2 (by lia)
def Dn.snoc {v:Nat->Nat}{i j:Nat}(h:Dn v i j)(hij:i<j)(e:v j<=v (j - 1)):Dn v i (j + 1):=fun k l h1 h2 h3=>by
 by_cases hl:l=j
 ·subst hl
  by_cases hk:k=l
  ·subst hk;exact xaf _
  ·exact xar e (h k (l - 1) h1 (by lia) (by lia))
 ·exact h k l h1 h2 (by lia)
def Bs.arr {st:SortSt}(B:Bs κ a₀ st){x:Array Keyed}(h:x.Perm (arrOf st)):Bs κ a₀ (setArr st x):=⟨B.kd,B.nf,h.trans B.pm⟩
theorem Bs.size {st:SortSt}(B:Bs κ a₀ st):(arrOf st).size=a₀.size:=B.pm.size_eq
def GK {a:Array Keyed}{i j:Nat}(hj:j<=a.size)(k:Nat):vv rk (mirror a i j ((j - i) / 2)) k=if i<=k/\k<j then vv rk a (i + j - 1 - k) else vv rk a k:=by
 have h:=getElem?_mirror_all (xs:=a) (i:=i) hj k;krn_ne
 ·rename_i c;rw[xad c];exact yw h
 ·rename_i c;rw[xae c];exact yw h
def Fj {st:SortSt}{i j:Nat}{P:Unit->SortSt->Prop}(h:P () (setArr st (mirror (arrOf st) i j ((j - i) / 2)))):Ok prog w A E R (reverseSlice' i j) st P:=by
 rw[reverseSlice'_eq];exact yX h
variable {prog:Program}{w:World}{A:Around}{E:Value->Shared->Prop}{R:Shared->Prop}{α β:Type}{κ:SortKind}{a₀:Array Keyed}{rk:Rk}
structure Fr (rk:Rk)(lo:Nat)(st st':SortSt):Prop where
 v:∀k,k<lo->vv rk (arrOf st') k=vv rk (arrOf st) k
 p:pendingOf st'=pendingOf st
def Fr.rfl {lo:Nat}{st:SortSt}:Fr rk lo st st:=⟨fun _ _=>by trivial,by trivial⟩
theorem Fr.trans {lo:Nat}{s1 s2 s3:SortSt}(a:Fr rk lo s1 s2)(b:Fr rk lo s2 s3):Fr rk lo s1 s3:=⟨fun k h=>(b.v k h).trans (a.v k h),b.p.trans a.p⟩
def Fr.rev {lo i j:Nat}{st:SortSt}(hi:lo<=i)(hj:j<=(arrOf st).size):Fr rk lo st (setArr st (mirror (arrOf st) i j ((j - i) / 2))):=
 ⟨fun k h=>(GK hj k).trans (xae (by lia)),by trivial⟩
def Mj {a:Array Keyed}{i j:Nat}(hj:j<=a.size)(h:∀k,i<=k->k<j->vv rk a k=vv rk a (j - 1))(k:Nat):vv rk (mirror a i j ((j - i) / 2)) k=vv rk a k:=by
 rw[GK hj]
 split
 ·rename_i c;rw[h k c.1 c.2,h _ (by lia) (by lia)]
 ·exact Eq.refl _
section
variable {st:SortSt}{lo nrem:Nat}(C:nG prog w A R κ a₀ rk)
include C
def Us (hz:lo + nrem<=a₀.size){n:Nat}(h1:1<=n)(hn:n<=nrem)(B:Bs κ a₀ st)(u:Up (vv rk (arrOf st)) lo (lo + n)){P:Option (Option Nat)×Nat->SortSt->Prop}
  (q:∀m,n<=m->m<=nrem->Up (vv rk (arrOf st)) lo (lo + m)->(m=nrem\/vv rk (arrOf st) (lo + m)<vv rk (arrOf st) (lo + m - 1))->P (none,m) st):
  Ok prog w A E R (forIn [n:nrem] ((none,n):Option (Option Nat)×Nat) fun _ s=>do
   let x <-ltAt' (lo + s.2) (lo + s.2 - 1)
   match x with
   |some c=>if c=true then pure (.done (none,s.2)) else pure (.yield (none,s.2 + 1))
   |_=>pure (.done (some none,s.2))) st P:=by
 refine gC (fun i c st'=>st'=st/\c=(none,i)/\Up (vv rk (arrOf st)) lo (lo + i)) ⟨rfl,rfl,u⟩ ?_ ?_
 ·rintro i c st' h1 h2 ⟨rfl,rfl,u⟩;have sz:=B.size;refine aQ (Bw C B (by lia) (by lia) ?_);dsimp only
  by_cases hc:vv rk (arrOf st') (lo + i)<vv rk (arrOf st') (lo + i - 1)
  ·rw[xad (by simpa using hc)];exact aW (q i h1 (by lia) u (.inr hc))
  ·rw[xae (by simpa using hc)];exact aW ⟨rfl,rfl,u.snoc (by lia) (xbK hc)⟩
 ·rintro c st' ⟨rfl,rfl,u⟩;rw[show max n nrem=nrem by lia]at u ⊢;exact q nrem hn (xaf _) u (.inl rfl)
theorem zcl (hz:lo + nrem<=a₀.size)(h1:1<=nrem)(B:Bs κ a₀ st){P:Option Nat->SortSt->Prop}
  (q:∀m st',1<=m->m<=nrem->Bs κ a₀ st'->Up (vv rk (arrOf st')) lo (lo + m)->Fr rk lo st st'->P (some m) st'):Ok prog w A E R (countRun' lo nrem) st P:=by
 have sz:=B.size;rw[countRun'_eq];refine aQ (Us C hz (xaf 1) h1 B Up.one fun m m1 m2 u hor=>?_);dsimp only
 by_cases hm:m=nrem
 ·rw[xad (by simpa using hm)];exact aW (q m st m1 m2 B u Fr.rfl)
 rw[xae (by simpa using hm)];have hlt:=hor.resolve_left hm;generalize hT:(bind (liftM (rule _)) _:StateT SortSt Sem (Option Nat))=T;have tail:∀st',Bs κ a₀ st'->Dn (vv rk (arrOf st')) lo (lo + m + 1)->Fr rk lo st st'->Ok prog w A E R T st' P:=by
  subst hT;intro st' B' d' f';refine aQ (yZ (aQ (Ok.mono (P:=fun c s2=>∃i e,c=(none,i,e)/\1<=i/\i<=nrem/\Bs κ a₀ s2/\Dn (vv rk (arrOf s2)) lo (lo + i)/\Fr rk lo st s2/\e + 1<=i/\∀k,lo + i - (e + 1)<=k->k<lo + i->vv rk (arrOf s2) k=vv rk (arrOf s2) (lo + i - 1))
   (gC (fun i c s2=>∃e,c=(none,i,e)/\Bs κ a₀ s2/\Dn (vv rk (arrOf s2)) lo (lo + i)/\Fr rk lo st s2/\e + 1<=i/\∀k,lo + i - (e + 1)<=k->k<lo + i->vv rk (arrOf s2) k=vv rk (arrOf s2) (lo + i - 1)) ?_ ?_ ?_) ?_)))
  ·refine⟨0,rfl,B',d',f',by lia,fun k h1 h2=>?_⟩;rw[show k=lo + (m + 1) - 1 by lia]
  ·rintro i c s2 g1 g2 ⟨e,rfl,B2,d2,f2,he,ha⟩;have sz2:=B2.size;dsimp only;refine aQ (Bw C B2 (by lia) (by lia) ?_);dsimp only
   by_cases hc:vv rk (arrOf s2) (lo + i)<vv rk (arrOf s2) (lo + i - 1)
   ·rw[xad (by simpa using hc)];have dd:Dn (vv rk (arrOf s2)) lo (lo + i + 1):=d2.snoc (by lia) (xbb hc)
    split
    ·have ev:=Mj (rk:=rk) (a:=arrOf s2) (i:=lo + i - (e + 1)) (j:=lo + i) (by lia) ha;refine aQ (Fj (aW ⟨0,rfl,B2.arr (xdi _ _ _ _),?_,f2.trans (Fr.rev (by lia) (by lia)),by lia,fun k h1 h2=>?_⟩))
     ·intro k l k1 k2 k3;show vv rk (mirror _ _ _ _) l<=vv rk (mirror _ _ _ _) k;rw[ev,ev];exact dd k l k1 k2 (by lia)
     ·rw[show k=lo + (i + 1) - 1 by lia]
    ·exact aW ⟨0,rfl,B2,dd,f2,by lia,fun k h1 h2=>by rw[show k=lo + (i + 1) - 1 by lia]⟩
   ·rw[xae (by simpa using hc)];refine aQ (Bw C B2 (by lia) (by lia) ?_);dsimp only
    by_cases hd:vv rk (arrOf s2) (lo + i - 1)<vv rk (arrOf s2) (lo + i)
    ·rw[xad (by simpa using hd)];exact aW ⟨i,e,rfl,by lia,by lia,B2,d2,f2,he,ha⟩
    ·rw[xae (by simpa using hd)];have eq:vv rk (arrOf s2) (lo + i)=vv rk (arrOf s2) (lo + i - 1):=by lia
     refine aW ⟨e + 1,rfl,B2,d2.snoc (by lia) (by lia),f2,by lia,fun k h1 h2=>?_⟩;rw[show lo + (i + 1) - 1=lo + i by lia]
     by_cases hk:k=lo + i
     ·rw[hk]
     ·rw[eq];exact ha k (by lia) (by lia)
  ·rintro c s2 ⟨e,rfl,B2,d2,f2,he,ha⟩;rw[show max (m + 1) nrem=nrem by lia]at d2 he ha ⊢;exact⟨nrem,e,rfl,by lia,by lia,B2,d2,f2,he,ha⟩
  ·rintro c s2 ⟨i,e,rfl,i1,i2,B2,d2,f2,he,ha⟩;have sz2:=B2.size;dsimp only;generalize hL:(bind (reverseSlice' lo (lo + i)) _:StateT SortSt Sem (Option Nat))=L;have go:∀s3,Bs κ a₀ s3->Dn (vv rk (arrOf s3)) lo (lo + i)->Fr rk lo st s3->Ok prog w A E R L s3 P:=fun s3 B3 d3 f3=>by
    subst hL;have sz3:=B3.size;refine aQ (Fj (aQ (Us C hz i1 i2 (B3.arr (xdi _ _ _ _)) ?_ fun m m1 m2 u _=>?_)))
    ·intro k l k1 k2 k3;show vv rk (mirror _ _ _ _) k<=vv rk (mirror _ _ _ _) l;rw[GK (by lia),GK (by lia),xad (by lia),xad (by lia)];exact d3 _ _ (by lia) (by lia) (by lia)
    ·exact aW (q m _ (by lia) m2 (B3.arr (xdi _ _ _ _)) u (f3.trans (Fr.rev (xaf _) (by lia))))
   split
   ·have ev:=Mj (rk:=rk) (a:=arrOf s2) (i:=lo + i - (e + 1)) (j:=lo + i) (by lia) ha;refine aQ (Fj (go _ (B2.arr (xdi _ _ _ _)) ?_ (f2.trans (Fr.rev (by lia) (by lia)))));intro k l k1 k2 k3;show vv rk (mirror _ _ _ _) l<=vv rk (mirror _ _ _ _) k;rw[ev,ev];exact d2 k l k1 k2 k3
   ·exact go s2 B2 d2 f2
 by_cases hg:m > 1
 ·rw[xad hg];refine aQ (Bw C B (by lia) (by lia) ?_);dsimp only
  by_cases hr:vv rk (arrOf st) lo<vv rk (arrOf st) (lo + m - 1)
  ·rw[xad (by simpa using hr)];exact aW (q m st m1 m2 B u Fr.rfl)
  ·rw[xae (by simpa using hr)];have al:∀k,lo<=k->k<lo + m->vv rk (arrOf st) k=vv rk (arrOf st) (lo + m - 1):=fun k k1 k2=>by
    have z1:=u lo k (xaf _) k1 k2;have z2:=u k (lo + m - 1) k1 (by lia) (by lia);lia
   have ev:=Mj (rk:=rk) (a:=arrOf st) (i:=lo) (j:=lo + m) (by lia) al;refine aQ (Fj (tail _ (B.arr (xdi _ _ _ _)) ?_ (Fr.rev (xaf _) (by lia))));have dn:Dn (vv rk (arrOf st)) lo (lo + m + 1):=Dn.snoc (fun k l k1 k2 k3=>by rw[al k k1 (by lia),al l (by lia) k3];exact xaf _) (by lia) (xbb hlt);intro k l k1 k2 k3;show vv rk (mirror _ _ _ _) l<=vv rk (mirror _ _ _ _) k;rw[ev,ev];exact dn k l k1 k2 k3
 ·rw[xae hg];have e1:m=1:=by lia
  subst e1;exact tail st B (Dn.one.snoc (by lia) (xbb hlt)) Fr.rfl
end
variable {prog:Program}{w:World}{A:Around}{E:Value->Shared->Prop}{R:Shared->Prop}{α β:Type}{κ:SortKind}{a₀:Array Keyed}{rk:Rk}
def zeN {a:Array Keyed}{src d:Nat}(hs:src<a.size)(hd:d<=src)(k:Nat):vv rk (bubble a src d) k=if k=src - d then vv rk a src else if src - d<k/\k<=src then vv rk a (k - 1) else vv rk a k:=by
 have h:=getElem?_bubble hs d hd k;krn_ne
 ·rename_i c;rw[xad c];exact yw h
 ·rename_i c;rw[xae c];krn_ne
  ·rename_i c;rw[xad c];exact yw h
  ·rename_i c;rw[xae c];exact yw h
def ze3 {st:SortSt}{lo n ok:Nat}(C:nG prog w A R κ a₀ rk)(hz:lo + n<=a₀.size)(hk:1<=ok)(hn:ok<=n)(B:Bs κ a₀ st)(u:Up (vv rk (arrOf st)) lo (lo + ok)){P:Bool->SortSt->Prop}
  (q:∀st',Bs κ a₀ st'->Up (vv rk (arrOf st')) lo (lo + n)->Fr rk lo st st'->P true st'):Ok prog w A E R (binarySort' lo n ok) st P:=by
 rw[binarySort'_eq,show max ok 1=ok by lia];refine aQ (gC (fun i c s2=>c=(none,())/\Bs κ a₀ s2/\Up (vv rk (arrOf s2)) lo (lo + i)/\Fr rk lo st s2) ⟨rfl,B,u,Fr.rfl⟩ ?_ ?_)
 ·rintro k c s2 k1 k2 ⟨rfl, B2, u2, f2⟩;have sz := B2.size;dsimp only;refine aQ (Ok.mono (P:=fun c s3=>s3=s2/\∃l,c=(none,l,l)/\l<=k/\(∀i,i<l->vv rk (arrOf s2) (lo + i)<=vv rk (arrOf s2) (lo + k))/\∀i,l<=i->i<k->vv rk (arrOf s2) (lo + k)<=vv rk (arrOf s2) (lo + i))
   (gC (fun i c s3=>s3=s2/\∃l r,c=(none,l,r)/\l<=r/\r<=k/\r - l<=k - i/\(∀i,i<l->vv rk (arrOf s2) (lo + i)<=vv rk (arrOf s2) (lo + k))/\∀i,r<=i->i<k->vv rk (arrOf s2) (lo + k)<=vv rk (arrOf s2) (lo + i)) ?_ ?_ ?_) ?_)
  ·exact⟨rfl,0,k,rfl,by lia,by lia,by lia,fun i hi=>by lia,fun i h1 h2=>by lia⟩
  ·rintro i c s3 i1 i2 ⟨rfl,l,r,rfl,lr,rk',hm,hl,hr⟩;dsimp only
   by_cases hge:l >=r
   ·rw[xad hge];obtain rfl:l=r:=by lia
    exact aW ⟨rfl,l,rfl,rk',hl,hr⟩
   ·rw[xae hge];refine aQ (Bw C B2 (by lia) (by lia) ?_);dsimp only
    by_cases hc:vv rk (arrOf s3) (lo + k)<vv rk (arrOf s3) (lo + (l + r) / 2)
    ·rw[xad (by simpa using hc)];refine aW ⟨rfl,l,(l + r) / 2,rfl,by lia,by lia,by lia,hl,fun j j1 j2=>?_⟩;exact xar (xbb hc) (u2 _ _ (by lia) (by lia) (by lia))
    ·rw[xae (by simpa using hc)];refine aW ⟨rfl,(l + r) / 2 + 1,r,rfl,by lia,by lia,by lia,fun j j1=>?_,hr⟩;exact xar (u2 _ _ (by lia) (by lia) (by lia)) (xbK hc)
  ·rintro c s3 ⟨rfl,l,r,rfl,lr,rk',hm,hl,hr⟩;obtain rfl:l=r:=by lia
   exact⟨rfl,l,rfl,rk',hl,hr⟩
  ·rintro c s3 ⟨rfl,l,rfl,lk,hl,hr⟩;dsimp only;rw[moveDown'_eq];have eb:∀j,vv rk (bubble (arrOf s3) (lo + k) (lo + k - (lo + l))) j=_:=zeN (by lia) (by lia);refine aQ (yX (aW ⟨rfl,B2.arr (bubble_perm _ _ _),fun i j i1 i2 i3=>?_,f2.trans ⟨fun j hj=>?_,rfl⟩⟩))
   ·show vv rk (bubble _ _ _) i<=vv rk (bubble _ _ _) j;rw[eb,eb];have hl':=fun i=>hl (i - lo);have hr':=fun i=>hr (i - lo)
    repeat' split
    ·exact xaf _
    ·have:=hr (j - 1 - lo) (by lia) (by lia);rw[show lo + (j - 1 - lo)=j - 1 by lia]at this;exact this
    ·lia
    ·lia
    ·exact u2 _ _ (by lia) (by lia) (by lia)
    ·lia
    ·have:=hl (i - lo) (by lia);rw[show lo + (i - lo)=i by lia]at this;exact this
    ·exact u2 _ _ (by lia) (by lia) (by lia)
    ·exact u2 _ _ (by lia) (by lia) (by lia)
   ·show vv rk (bubble _ _ _) j=_;rw[eb,xae (by lia),xae (by lia)]
 ·rintro c s2 ⟨rfl,B2,u2,f2⟩;rw[show max ok n=n by lia]at u2;exact aW (q s2 B2 u2 f2)
variable {prog:Program}{w:World}{A:Around}{E:Value->Shared->Prop}{R:Shared->Prop}{α β:Type}{κ:SortKind}{a₀:Array Keyed}{rk:Rk}
noncomputable def gal:Bool->Keyed->Array Keyed->Nat->Nat->Nat->StateT SortSt Sem (Option Nat):=sortPriv% PySem.Builtin.gallop
theorem Z8 (b : Bool) (x : Keyed) (a : Array Keyed) (o n h : Nat) : gal b x a o n h = (do
 let f (i:Nat):StateT SortSt Sem (Option Bool):=do
  let y <-elem' a (o + i)
  if b then lt' y x else return (<-lt' x y).map (!·)
 let mut p:=0
 let mut q:=1
 let mut l:=0
 let mut u:=0
 let some c <-f h |return none
 if c then
  let m:=n - h
  for _ in [0:n] do
   if q >=m then break
   let some d <-f (h + q) |return none
   if !d then break
   p:=q
   q:=2 * q + 1
  l:=h + p + 1
  u:=h + min q m
 else
  let m:=h + 1
  for _ in [0:n] do
   if q >=m then break
   let some d <-f (h - q) |return none
   if d then break
   p:=q
   q:=2 * q + 1
  l:=h + 1 - min q m
  u:=h - p
 for _ in [0:n] do
  if l >=u then break
  let m:=l + (u - l) / 2
  let some d <-f m |return none
  if d then l:=m + 1 else u:=m
 return some u):=rfl
def thr (rk:Rk)(b:Bool)(x:Keyed):Nat:=if b then rk x else rk x + 1
def yW {st:SortSt}{b:Bool}{x:Keyed}{a:Array Keyed}{o n h:Nat}(C:nG prog w A R κ a₀ rk)(B:Bs κ a₀ st)(hx:x∈a₀)(ha:∀y∈a,y∈a₀)(hz:o + n<=a.size)(hh:h<n)(u:Up (vv rk a) o (o + n)){P:Option Nat->SortSt->Prop}
    (q:∀k,k<=n->(∀i,i<k->vv rk a (o + i)<thr rk b x)->(∀i,k<=i->i<n->thr rk b x<=vv rk a (o + i))->P (some k) st):Ok prog w A E R (gal b x a o n h) st P:=by
  rw[Z8]
  extract_lets f p0 q0 jp m1 m2
  have hf:∀{P:Option Bool->SortSt->Prop} i,i<n->P (some (decide (vv rk a (o + i)<thr rk b x))) st->Ok prog w A E R (f i) st P:=by
    intro P i hi hP;refine aQ (dW (by lia) ?_);have hv:vv rk a (o + i)=rk a[o + i]:=dO (by lia);have hm:=ha _ (xaL (i:=o + i) (by lia));unfold thr at hP;rw[hv]at hP
    cases b with
    |true=>exact Bx C B hm hx hP
    |false=>
      refine aQ (Bx C B hx hm (aW ?_));have e:(!decide (rk x<rk a[o + i]))=decide (rk a[o + i]<rk x + 1):=by
        by_cases z:rk x<rk a[o + i]
        · rw[xaX z,xaH (by lia)];rfl
        · rw[xaH z,xaX (by lia)];rfl
      rw[xb5,e];exact hP
  generalize thr rk b x=t at hf q;have up:∀i j,i<=j->j<n->vv rk a (o + i)<=vv rk a (o + j):=fun i j h1 h2=>u _ _ (by lia) (by lia) (by lia);generalize hv:(fun i=>vv rk a (o + i))=v at *
  replace hf:∀{P:Option Bool->SortSt->Prop} i,i<n->P (some (decide (v i<t))) st->Ok prog w A E R (f i) st P:=by subst hv;exact hf
  replace q:∀k,k<=n->(∀i,i<k->v i<t)->(∀i,k<=i->i<n->t<=v i)->P (some k) st:=by subst hv;exact q
  replace up:∀i j,i<=j->j<n->v i<=v j:=by subst hv;exact up
  clear_value f
  have last:∀p r l k,l<=k->k<=n->(∀i,i<l->v i<t)->(∀i,k<=i->i<n->t<=v i)->Ok prog w A E R (jp () p r l k) st P:=by
    intro p r l k h1 h2 h3 h4;dsimp only [jp];refine aQ (Ok.mono (P:=fun c s3=>s3=st/\∃l,c=(none,l,l)/\l<=n/\(∀i,i<l->v i<t)/\∀i,l<=i->i<n->t<=v i)
      (gC (fun i c s3=>s3=st/\∃l k,c=(none,l,k)/\l<=k/\k<=n/\k - l<=n - i/\(∀i,i<l->v i<t)/\∀i,k<=i->i<n->t<=v i) ⟨rfl,l,k,rfl,h1,h2,by lia,h3,h4⟩ ?_ ?_) ?_)
    · rintro i c s3 i1 i2 ⟨rfl,l,k,rfl,g1,g2,gm,g3,g4⟩;dsimp only
      by_cases hge:l >=k
      · rw[xad hge];obtain rfl:l=k:=by lia
        exact aW ⟨rfl,l,rfl,g2,g3,g4⟩
      · rw[xae hge];refine aQ (hf _ (by lia) ?_);dsimp only
        by_cases hc:v (l + (k - l) / 2)<t
        · rw[xad (by simpa using hc)];exact aW ⟨rfl,_,k,rfl,by lia,g2,by lia,fun j hj=>xco (up j _ (by lia) (by lia)) hc,g4⟩
        · rw[xae (by simpa using hc)];exact aW ⟨rfl,l,_,rfl,by lia,by lia,by lia,g3,fun j j1 j2=>xar (xbK hc) (up _ j j1 j2)⟩
    · rintro c s3 ⟨rfl,l,k,rfl,g1,g2,gm,g3,g4⟩;obtain rfl:l=k:=by lia
      exact⟨rfl,l,rfl,g2,g3,g4⟩
    · rintro c s3 ⟨rfl,l,rfl,g2,g3,g4⟩;exact aW (q l g2 g3 g4)
  clear_value jp
  refine aQ (hf h hh ?_);dsimp only
  by_cases hc:v h<t
  · rw [xad (by simpa using hc)];refine aQ (Ok.mono (P:=fun c s3=>s3=st/\∃p r,c=(none,p,r)/\v (h + p)<t/\h + p<n/\p<r/\(r >=m1\/t<=v (h + r)))
      (gC (fun i c s3=>s3=st/\∃p r,c=(none,p,r)/\v (h + p)<t/\h + p<n/\p<r/\i + 1<=r) ⟨rfl,0,1,rfl,hc,hh,by lia,by lia⟩ ?_ ?_) ?_)
    · rintro i c s3 i1 i2 ⟨rfl,p,r,rfl,g1,g2,g3,g4⟩;dsimp only
      by_cases hge:r >=m1
      · rw[xad hge];exact aW ⟨rfl,p,r,rfl,g1,g2,g3,.inl hge⟩
      · rw[xae hge];have hr:h + r<n:=by simp only[m1]at hge;lia
        refine aQ (hf _ hr ?_);dsimp only
        by_cases hd:v (h + r)<t
        · rw[xae (by simpa using hd)];exact aW ⟨rfl,r,2 * r + 1,rfl,hd,hr,by lia,by lia⟩
        · rw[xad (by simpa using hd)];exact aW ⟨rfl,p,r,rfl,g1,g2,g3,.inr (by lia)⟩
    · rintro c s3 ⟨rfl,p,r,rfl,g1,g2,g3,g4⟩;exact⟨rfl,p,r,rfl,g1,g2,g3,.inl (by simp only[m1];lia)⟩
    · rintro c s3 ⟨rfl,p,r,rfl,g1,g2,g3,g4⟩;dsimp only[m1]at g4 ⊢;refine last _ _ _ _ (by lia) (by lia) (fun j hj=>xco (up j (h + p) (by lia) g2) g1) fun j j1 j2=>?_;rcases g4 with g4 |g4
      · lia
      · exact xar g4 (up _ j (by lia) j2)
  · rw [xae (by simpa using hc)];refine aQ (Ok.mono (P:=fun c s3=>s3=st/\∃p r,c=(none,p,r)/\t<=v (h - p)/\p<=h/\p<r/\(r >=m2\/v (h - r)<t))
      (gC (fun i c s3=>s3=st/\∃p r,c=(none,p,r)/\t<=v (h - p)/\p<=h/\p<r/\i + 1<=r) ⟨rfl,0,1,rfl,by simpa using hc,by lia,by lia,by lia⟩ ?_ ?_) ?_)
    · rintro i c s3 i1 i2 ⟨rfl,p,r,rfl,g1,g2,g3,g4⟩;dsimp only
      by_cases hge:r >=m2
      · rw[xad hge];exact aW ⟨rfl,p,r,rfl,g1,g2,g3,.inl hge⟩
      · rw[xae hge];have hr:r<=h:=by simp only[m2]at hge;lia
        refine aQ (hf _ (by lia) ?_);dsimp only
        by_cases hd:v (h - r)<t
        · rw[xad (by simpa using hd)];exact aW ⟨rfl,p,r,rfl,g1,g2,g3,.inr hd⟩
        · rw[xae (by simpa using hd)];exact aW ⟨rfl,r,2 * r + 1,rfl,by lia,hr,by lia,by lia⟩
    · rintro c s3 ⟨rfl,p,r,rfl,g1,g2,g3,g4⟩;exact⟨rfl,p,r,rfl,g1,g2,g3,.inl (by simp only[m2];lia)⟩
    · rintro c s3 ⟨rfl,p,r,rfl,g1,g2,g3,g4⟩;dsimp only[m2]at g4 ⊢;refine last _ _ _ _ (by lia) (by lia) (fun j hj=>?_) fun j j1 j2=>xar g1 (up _ j j1 j2);rcases g4 with g4 |g4
      · lia
      · exact xco (up j (h - r) (by lia) (by lia)) g4
variable {prog:Program}{w:World}{A:Around}{E:Value->Shared->Prop}{R:Shared->Prop}{α β:Type}{κ:SortKind}{a₀:Array Keyed}{rk:Rk}
abbrev Sd (rk:Rk)(l:List Keyed):Prop:=l.Pairwise fun x y=>rk x<=rk y
structure Mg (rk:Rk)(T O X Y:List Keyed):Prop where
 x:Sd rk (O ++ X)
 y:Sd rk (O ++ Y)
 p:(O ++ (X ++ Y)).Perm T
def Mg.swap {T O X Y:List Keyed}(m:Mg rk T O X Y):Mg rk T O Y X:=⟨m.y,m.x,(xcy O xcz).trans m.p⟩
def Mg.go {T O X X' Y:List Keyed}(m:Mg rk T O (X ++ X') Y)(h:∀a∈X,∀b∈Y,rk a<=rk b):Mg rk T (O ++ X) X' Y:=by
 refine⟨by rw[xao];exact m.x,?_,by simpa only[xao] using m.p⟩;have h1:=xa7.mp m.x;have h2:=xa7.mp m.y;have h3:=xa7.mp h1.2.1;rw[xao];refine xa7.mpr ⟨h1.1,xa7.mpr ⟨h3.1,h2.2.1,h⟩,fun a ha b hb=>?_⟩;rcases xbO.mp hb with hb |hb
 ·exact h1.2.2 a ha b (xcZ _ hb)
 ·exact h2.2.2 a ha b hb
def Mg.fin {T O X:List Keyed}(m:Mg rk T O X []):Sd rk (O ++ X)/\(O ++ X).Perm T:=⟨m.x,by simpa using m.p⟩
structure Mh (rk:Rk)(T O X Y:List Keyed):Prop where
 x:Sd rk (X ++ O)
 y:Sd rk (Y ++ O)
 p:(X ++ Y ++ O).Perm T
def Mh.swap {T O X Y:List Keyed}(m:Mh rk T O X Y):Mh rk T O Y X:=⟨m.y,m.x,(xcR O xcz).trans m.p⟩
def Mh.go {T O X X' Y:List Keyed}(m:Mh rk T O (X' ++ X) Y)(h:∀a∈X,∀b∈Y,rk b<=rk a):Mh rk T (X ++ O) X' Y:=by
 have h1:=xa7.mp m.x;have h2:=xa7.mp m.y;have h3:=xa7.mp h1.1;refine⟨by rw[<-xao];exact m.x,?_,?_⟩
 ·refine xa7.mpr ⟨h2.1,xa7.mpr ⟨h3.2.1,h1.2.1,fun a ha b hb=>h1.2.2 a (xaG _ ha) b hb⟩,fun a ha b hb=>?_⟩;rcases xbO.mp hb with hb |hb
  ·exact h b hb a ha
  ·exact h2.2.2 a ha b hb
 ·refine List.Perm.trans ?_ m.p;simp only[xao];refine xcy X' ?_;rw[<-xao, <-xao];exact xcR O xcz
noncomputable def Bj:Array Keyed->Array Keyed->StateT SortSt Sem (Array Keyed):=sortPriv% PySem.Builtin.mergeLo
noncomputable def Bh:Array Keyed->Array Keyed->StateT SortSt Sem (Array Keyed):=sortPriv% PySem.Builtin.mergeHi
noncomputable def setG (g:Nat):StateT SortSt Sem Unit:=modify fun s=>SortSt.mk' (kindOf s) (arrOf s) (pendingOf s) g (failedOf s)
theorem zfw (a b : Array Keyed) : Bj a b = (do
 rule "list.sort.merge-lo"
 let t:=a.size + b.size
 let fin (o:Array Keyed) (i j:Nat):=o ++ a.extract i a.size ++ b.extract j b.size
 let lst (o:Array Keyed) (i j:Nat):=o ++ b.extract j b.size ++ a.extract i a.size
 let mut o:Array Keyed:= #[<-elem' b 0]
 let mut i:=0
 let mut j:=1
 if j==b.size then return fin o i j
 if i + 1==a.size then return lst o i j
 let mut g:=gallopOf (<-get)
 for _ in [0:t] do
  let mut m:=0
  let mut n:=0
  for _ in [0:t] do
   let some c <-lt' (<-elem' b j) (<-elem' a i) |return fin o i j
   if c then
    o:=o.push (<-elem' b j);j:=j + 1;n:=n + 1;m:=0
    if j==b.size then return fin o i j
    if n >=g then break
   else
    o:=o.push (<-elem' a i);i:=i + 1;m:=m + 1;n:=0
    if i + 1==a.size then return lst o i j
    if m >=g then break
  rule "list.sort.gallop"
  g:=g + 1
  for _ in [0:t] do
   if g > 1 then g:=g - 1
   setG g
   let some k <-gal false (<-elem' b j) a i (a.size - i) 0 |return fin o i j
   m:=k
   if k > 0 then
    o:=o ++ a.extract i (i + k);i:=i + k
    if i + 1==a.size then return lst o i j
    if i==a.size then return fin o i j
   o:=o.push (<-elem' b j);j:=j + 1
   if j==b.size then return fin o i j
   let some k <-gal true (<-elem' a i) b j (b.size - j) 0 |return fin o i j
   n:=k
   if k > 0 then
    o:=o ++ b.extract j (j + k);j:=j + k
    if j==b.size then return fin o i j
   o:=o.push (<-elem' a i);i:=i + 1
   if i + 1==a.size then return lst o i j
   if m<7 && n<7 then break
  g:=g + 1
  setG g
 unsupported "internal:list.sort.merge-bound"):=rfl
variable {prog:Program}{w:World}{A:Around}{E:Value->Shared->Prop}{R:Shared->Prop}{α β:Type}{κ:SortKind}{a₀:Array Keyed}{rk:Rk}
def Sg (st st':SortSt):Prop:=∃g,st'=SortSt.mk' (kindOf st) (arrOf st) (pendingOf st) g (failedOf st)
def Sg.rfl {st:SortSt}:Sg st st:=⟨gallopOf st,by trivial⟩
def Fl {st:SortSt}{g:Nat}{P:Unit->SortSt->Prop}(h:∀st',Sg st st'->P () st'):Ok prog w A E R (setG g) st P:=yX (h _ ⟨g,by trivial⟩)
def Sg.trans {s1 s2 s3:SortSt}(a:Sg s1 s2)(b:Sg s2 s3):Sg s1 s3:=by
 obtain⟨g,rfl⟩:=a;obtain⟨g',rfl⟩:=b;exact⟨g',by trivial⟩
def Sg.bs {st st':SortSt}(a:Sg st st')(B:Bs κ a₀ st):Bs κ a₀ st':=by
 obtain⟨g,rfl⟩:=a;exact⟨B.kd,B.nf,B.pm⟩
def Rx {a:Array Keyed}{i:Nat}:(a.extract i a.size).toList=a.toList.drop i:=by
 rw[xbR,xbs,xbI (by simp)]
def Rz {a:Array Keyed}{i k:Nat}:(a.extract i (i + k)).toList=(a.toList.drop i).take k:=by
 rw[xbR,xbs,Nat.add_sub_cancel_left]
theorem Je {a:Array Keyed}{i:Nat}(h:i<a.size):a.toList.drop i=a[i]::a.toList.drop (i + 1):=by
 rw[xaV (by simpa using h)];rfl
def pI {a:Array Keyed}(s:Sd rk a.toList){i j:Nat}(h:i<=j)(hj:j<a.size):rk (a[i]'(by lia))<=rk a[j]:=by
 by_cases e:i=j
 ·subst e;exact xaf _
 ·exact xcJ.mp s i j (by simpa using (by lia:i<a.size)) (by simpa using hj) (by lia)
def E_ {a:Array Keyed}{i:Nat}{x:Keyed}(h:x∈a.toList.drop i):∃k,i<=k/\∃hk:k<a.size,x=a[k]:=by
 obtain⟨k,hk,e⟩:=xbG h;rw[xeu]at e;simp only[xcD,xau]at hk;exact⟨i + k,by lia,by lia,e.symm⟩
def Kp {a:Array Keyed}{i n:Nat}{x:Keyed}(h:x∈(a.toList.drop i).take n):∃k,i<=k/\k<i + n/\∃hk:k<a.size,x=a[k]:=by
 obtain⟨k,hk,e⟩:=xbG h;rw[xev,xeu]at e;simp only[xbm,xcD,xau]at hk;exact⟨i + k,by lia,by lia,by lia,e.symm⟩
def Pn {a:Array Keyed}(s:Sd rk a.toList){i:Nat}:Up (vv rk a) i a.size:=fun k l h1 h2 h3=>by
 rw[dO (by lia),dO h3];exact pI s h2 h3
def zeb {st:SortSt}{a b:Array Keyed}(C:nG prog w A R κ a₀ rk)(B:Bs κ a₀ st)(ha:∀y∈a,y∈a₀)(hb:∀y∈b,y∈a₀)(sa:Sd rk a.toList)(sb:Sd rk b.toList)(na:0<a.size)(nb:0<b.size)
    (f:∀x∈a,rk b[0]<=rk x) (l:∀y∈b,rk y<=rk a[a.size - 1]) {P:Array Keyed->SortSt->Prop} (q:∀r st',Sd rk r.toList->r.toList.Perm (a.toList ++ b.toList)->Sg st st'->P r st'):Ok prog w A E R (Bj a b) st P:=by
  rw[zfw]
  extract_lets t fin lst i0 j0
  generalize hT:a.toList ++ b.toList=T at q;have fn:∀o i j,Mg rk T o.toList (a.toList.drop i) (b.toList.drop j)->(i=a.size\/j=b.size)->∀st',Sg st st'->P (fin o i j) st':=fun o i j m h st' g=>by
    have e:(fin o i j).toList=o.toList ++ a.toList.drop i ++ b.toList.drop j:=by simp only[fin,xbq,Rx]
    rcases h with rfl |rfl
    · rw[xcq (i:=a.size) (by simp)]at m e;rw[xas]at e;exact q _ _ (by rw[e];exact m.swap.fin.1) (by rw[e];exact m.swap.fin.2) g
    · rw[xcq (i:=b.size) (by simp)]at m e;rw[xas]at e;exact q _ _ (by rw[e];exact m.fin.1) (by rw[e];exact m.fin.2) g
  have ls:∀o i j,Mg rk T o.toList (a.toList.drop i) (b.toList.drop j)->i + 1=a.size->∀st',Sg st st'->P (lst o i j) st':=fun o i j m h st' g=>by
    have e:(lst o i j).toList=o.toList ++ b.toList.drop j ++ a.toList.drop i:=by simp only[lst,xbq,Rx]
    have d:a.toList.drop i=[a[a.size - 1]]:=by
      rw[Je (by lia),xcq (by simp;lia)];simp only[show a.size - 1=i by lia]
    have m2 : Mg rk T (o.toList ++ b.toList.drop j) (a.toList.drop i) [] := (Mg.go (X':=[]) (by rw[xas];exact m.swap) fun y hy x hx=>by
      rw[d,xaM]at hx;subst hx;exact l y (xbk.mp (List.mem_of_mem_drop hy))).swap
    exact q _ _ (by rw[e];exact m2.fin.1) (by rw[e];exact m2.fin.2) g
  clear_value fin lst
  -- a step of b,a step of a
  have stB:∀o i j (hj:j<b.size),Mg rk T o (a.toList.drop i) (b.toList.drop j)->(∀k (hk:k<a.size),i<=k->rk b[j]<=rk a[k])->Mg rk T (o ++ [b[j]]) (a.toList.drop i) (b.toList.drop (j + 1)):=fun o i j hj m h=>
    (Mg.go (X:=[b[j]]) (by have:=m.swap;rw[Je hj]at this;exact this) fun x hx y hy=>by
      rw[xaM]at hx;subst hx;obtain⟨k,k1,k2,rfl⟩:=E_ hy;exact h k k2 k1).swap
  have stA:∀o i j (hi:i<a.size),Mg rk T o (a.toList.drop i) (b.toList.drop j)->(∀k (hk:k<b.size),j<=k->rk a[i]<=rk b[k])->Mg rk T (o ++ [a[i]]) (a.toList.drop (i + 1)) (b.toList.drop j):=fun o i j hi m h=>
    Mg.go (X:=[a[i]]) (by rw[Je hi]at m;exact m) fun x hx y hy=>by
      rw[xaM]at hx;subst hx;obtain⟨k,k1,k2,rfl⟩:=E_ hy;exact h k k2 k1
  have m0:Mg rk T [b[0]] (a.toList.drop 0) (b.toList.drop 1):=stB [] 0 0 nb ⟨by simpa using sa,by simpa using sb,by simp[hT]⟩ fun k hk _=>f _ (xaL hk);refine aQ (yZ (aQ (dW nb ?_)))
  extract_lets o0
  dsimp -zeta -zetaHave only[i0,j0,o0]
  by_cases h1:1=b.size
  · rw[xad (by simpa using h1)];exact aW (fn _ _ _ m0 (.inr h1) _ Sg.rfl)
  rw[xae (by simpa using h1)]
  by_cases h2:0 + 1=a.size
  · rw[xad (by simpa using h2)];exact aW (ls _ _ _ m0 h2 _ Sg.rfl)
  rw[xae (by simpa using h2)];clear i0 j0 o0;refine aQ (pC ?_)
  let Gd:Array Keyed->Prop:=fun r=>∀st',Sg st st'->P r st'
  let J:Array Keyed->Nat->Nat->Prop:=fun o i j=>i + 1<a.size/\j<b.size/\Mg rk T o.toList (a.toList.drop i) (b.toList.drop j)
  refine aQ (Ok.mono (P:=fun c s2=>Sg st s2/\∃r o i j g,c=(some r,o,i,j,g)/\Gd r)
    (gC (fun x c s2=>Sg st s2/\∃o i j g,c=(none,o,i,j,g)/\J o i j/\x<i + j) ⟨Sg.rfl,_,0,1,_,rfl,⟨by lia,by lia,m0⟩,by lia⟩ ?_ ?_) ?_)
  · rintro x c s2 x1 x2 ⟨g2,o,i,j,g,rfl,hJ,hx⟩
    extract_lets o' i' j' g' m' n'
    refine aQ (Ok.mono (P:=fun c s3=>Sg st s3/\∃o i j m n,(J o i j/\x + 1<i + j/\c=(none,o,i,j,m,n))\/∃r,c=(some r,o,i,j,m,n)/\Gd r)
      (gC (fun y c s3=>Sg st s3/\∃o i j m n,c=(none,o,i,j,m,n)/\J o i j/\x + y<i + j) ⟨g2,o,i,j,0,0,rfl,hJ,by lia⟩ ?_ ?_) ?_)
    · rintro y c s3 y1 y2 ⟨g3,o,i,j,m,n,rfl,⟨J1,J2,J3⟩,hy⟩
      clear_value o' i' j' g' m' n'
      dsimp only;refine aQ (dW J2 (aQ (dW (by lia) (aQ (Bx C (g3.bs B) (hb _ (xaL _)) (ha _ (xaL _)) ?_)))));dsimp only
      by_cases hc:rk b[j]<rk a[i]
      · rw[xad (by simpa using hc)];have m2:=stB _ i j J2 J3 fun k hk ik=>xar (xbb hc) (pI sa ik hk);rw[<-xbn]at m2;refine aQ (dW J2 ?_)
        by_cases e:j + 1=b.size
        · rw[xad (by simpa using e)];exact aW ⟨g3,_,_,_,_,_,.inr ⟨_,rfl,fn _ _ _ m2 (.inr e)⟩⟩
        · rw[xae (by simpa using e)]
          split
          · exact aW ⟨g3,_,_,_,_,_,.inl ⟨⟨J1,by lia,m2⟩,by lia,rfl⟩⟩
          · exact aW ⟨g3,_,_,_,_,_,rfl,⟨J1,by lia,m2⟩,by lia⟩
      · rw[xae (by simpa using hc)];have m2:=stA _ i j (by lia) J3 fun k hk ik=>xar (xbK hc) (pI sb ik hk);rw[<-xbn]at m2;refine aQ (dW (by lia) ?_)
        by_cases e:i + 1 + 1=a.size
        · rw[xad (by simpa using e)];exact aW ⟨g3,_,_,_,_,_,.inr ⟨_,rfl,ls _ _ _ m2 e⟩⟩
        · rw[xae (by simpa using e)]
          split
          · exact aW ⟨g3,_,_,_,_,_,.inl ⟨⟨by lia,J2,m2⟩,by lia,rfl⟩⟩
          · exact aW ⟨g3,_,_,_,_,_,rfl,⟨by lia,J2,m2⟩,by lia⟩
    · rintro c s3 ⟨g3,o,i,j,m,n,rfl,hJ,hy⟩;exact⟨g3,o,i,j,m,n,.inl ⟨hJ,by lia,rfl⟩⟩
    · rintro c s3 ⟨g3,o,i,j,m,n,⟨hJ,hy,rfl⟩ |⟨r,rfl,hr⟩⟩
      · refine aQ (yZ (aQ (Ok.mono (P:=fun c s4=>Sg st s4/\∃o i j g m n,(J o i j/\x + 1<i + j/\c=(none,o,i,j,g,m,n))\/∃r,c=(some r,o,i,j,g,m,n)/\Gd r)
          (gC (fun y c s4=>Sg st s4/\∃o i j g m n,c=(none,o,i,j,g,m,n)/\J o i j/\x + 1<i + j) ⟨g3,o,i,j,_,m,n,rfl,hJ,hy⟩ ?_ ?_) ?_)))
        · clear hJ hy o i j m n
          clear_value o' i' j' g' m' n'
          rintro y c s4 y1 y2 ⟨g4,o,i,j,g,m,n,rfl,⟨J1,J2,J3⟩,hy⟩
          extract_lets z0 oo z1 ii z2 jj z3 gg z4 mm nn j1 jp g1
          have eo:oo=o:=rfl;have ei:ii=i:=rfl;have ej:jj=j:=rfl
          clear_value z0 z1 z2 z3 z4 oo ii jj gg mm nn
          clear z0 z1 z2 z3 z4;subst eo ei ej
          suffices hjp:∀g',Ok prog w A E R (jp () g') s4 _ by split<;>exact hjp _
          intro g';refine aQ (Fl fun s5 g5=>aQ (dW J2 ?_))
          replace g5:=g4.trans g5
          refine aQ (yW C (g5.bs B) (hb _ (xaL _)) ha (by lia) (by lia) (by rw[show ii + (a.size - ii)=a.size by lia];exact Pn sa) fun k k1 k2 k3=>?_);have t0:thr rk false b[jj]=rk b[jj] + 1:=rfl;rw[t0]at k2 k3
          dsimp -zeta -zetaHave only
          extract_lets mk jp2 o2 i2
          suffices hjp2:∀o i,i + 1<a.size->ii<=i->(∀k (hk:k<a.size),i<=k->rk b[jj]<=rk a[k])->Mg rk T o.toList (a.toList.drop i) (b.toList.drop jj)->Ok prog w A E R (jp2 () o i) s5 _ by
            have hk3:∀k' (hk:k'<a.size),ii + k<=k'->rk b[jj]<=rk a[k']:=fun k' hk h=>by
              have:=k3 (k' - ii) (by lia) (by lia);rw[show ii + (k' - ii)=k' by lia,dO hk]at this;lia
            by_cases hk:k > 0
            · rw[xad hk];have m2:Mg rk T o2.toList (a.toList.drop i2) (b.toList.drop jj):=by
                have e:o2.toList=oo.toList ++ (a.toList.drop ii).take k:=by simp only[o2,xbq,Rz]
                rw[e];refine Mg.go (X':=a.toList.drop i2) (by simp only[i2];rw[<-xd3,xcA];exact J3) fun u hu v hv=>?_;obtain⟨p,p1,p2,p3,rfl⟩:=Kp hu;obtain⟨p',p1',p2',rfl⟩:=E_ hv;have z1:=k2 (p - ii) (by lia);rw[show ii + (p - ii)=p by lia,dO p3]at z1;have z2:=pI sb p1' p2';lia
              have ei2:i2=ii + k:=rfl
              clear_value o2 i2
              by_cases e1:i2 + 1=a.size
              · rw[xad (by simpa using e1)];exact aW ⟨g5,_,_,_,_,_,_,.inr ⟨_,rfl,ls _ _ _ m2 e1⟩⟩
              rw[xae (by simpa using e1)]
              by_cases e2:i2=a.size
              · rw[xad (by simpa using e2)];exact aW ⟨g5,_,_,_,_,_,_,.inr ⟨_,rfl,fn _ _ _ m2 (.inl e2)⟩⟩
              rw[xae (by simpa using e2)];exact hjp2 _ _ (by lia) (by lia) (fun k' hk' h=>hk3 k' hk' (by lia)) m2
            · rw[xae hk];exact hjp2 _ _ J1 (xaf _) (fun k' hk' h=>hk3 k' hk' (by lia)) J3
          intro o i i1 i3 hlow m2;refine aQ (dW J2 ?_);have m3:=stB _ i jj J2 m2 hlow;rw[<-xbn]at m3
          extract_lets o3 i4
          have ej1:j1=jj + 1:=rfl
          change Mg rk T o3.toList (a.toList.drop i) (b.toList.drop j1) at m3
          clear_value o3 j1
          by_cases e3:j1=b.size
          · rw[xad (by simpa using e3)];exact aW ⟨g5,_,_,_,_,_,_,.inr ⟨_,rfl,fn _ _ _ m3 (.inr e3)⟩⟩
          rw[xae (by simpa using e3)];refine aQ (dW (by lia) (aQ (yW C (g5.bs B) (ha _ (xaL _)) hb (by lia) (by lia) (by rw[show j1 + (b.size - j1)=b.size by lia];exact Pn sb) fun k' k1' k2' k3'=>?_)));have t1:thr rk true a[i]=rk a[i]:=rfl;rw[t1]at k2' k3'
          dsimp -zeta -zetaHave only
          extract_lets nk jp3 o4 j4
          suffices hjp3:∀o j,j1<=j->j<b.size->(∀k (hk:k<b.size),j<=k->rk a[i]<=rk b[k])->Mg rk T o.toList (a.toList.drop i) (b.toList.drop j)->Ok prog w A E R (jp3 () o j) s5 _ by
            have hk3:∀k (hk:k<b.size),j1 + k'<=k->rk a[i]<=rk b[k]:=fun k hk h=>by
              have:=k3' (k - j1) (by lia) (by lia);rw[show j1 + (k - j1)=k by lia,dO hk]at this;lia
            by_cases hk:k' > 0
            · rw[xad hk];have m4:Mg rk T o4.toList (a.toList.drop i) (b.toList.drop j4):=by
                have e:o4.toList=o3.toList ++ (b.toList.drop j1).take k':=by simp only[o4,xbq,Rz]
                rw[e];refine(Mg.go (X':=b.toList.drop j4) (by simp only[j4];rw[<-xd3,xcA];exact m3.swap) fun u hu v hv=>?_).swap;obtain⟨p,p1,p2,p3,rfl⟩:=Kp hu;obtain⟨p',p1',p2',rfl⟩:=E_ hv;have z1:=k2' (p - j1) (by lia);rw[show j1 + (p - j1)=p by lia,dO p3]at z1;have z2:=pI sa p1' p2';lia
              have ej4:j4=j1 + k':=rfl
              clear_value o4 j4
              by_cases e1:j4=b.size
              · rw[xad (by simpa using e1)];exact aW ⟨g5,_,_,_,_,_,_,.inr ⟨_,rfl,fn _ _ _ m4 (.inr e1)⟩⟩
              rw[xae (by simpa using e1)];exact hjp3 _ _ (by lia) (by lia) (fun k hk' h=>hk3 k hk' (by lia)) m4
            · rw[xae hk];exact hjp3 _ _ (xaf _) (by lia) (fun k hk' h=>hk3 k hk' (by lia)) m3
          intro o j jl jb hlow2 m5;refine aQ (dW (by lia) ?_);have m6:=stA _ i j (by lia) m5 hlow2;rw[<-xbn]at m6
          extract_lets o5
          have ei4:i4=i + 1:=rfl
          change Mg rk T o5.toList (a.toList.drop i4) (b.toList.drop j) at m6
          clear_value o5 i4
          by_cases e4:i4 + 1=a.size
          · rw[xad (by simpa using e4)];exact aW ⟨g5,_,_,_,_,_,_,.inr ⟨_,rfl,ls _ _ _ m6 e4⟩⟩
          rw[xae (by simpa using e4)]
          split
          · exact aW ⟨g5,_,_,_,_,_,_,.inl ⟨⟨by lia,jb,m6⟩,by lia,rfl⟩⟩
          · exact aW ⟨g5,_,_,_,_,_,_,rfl,⟨by lia,jb,m6⟩,by lia⟩
        · rintro c s4 ⟨g4,o,i,j,g,m,n,rfl,hJ,hy⟩;exact⟨g4,o,i,j,g,m,n,.inl ⟨hJ,hy,rfl⟩⟩
        · rintro c s4 ⟨g4,o,i,j,g,m,n,⟨hJ,hy,rfl⟩ |⟨r,rfl,hr⟩⟩
          · exact aQ (Fl fun s5 g5=>aW ⟨g4.trans g5,o,i,j,_,rfl,hJ,hy⟩)
          · exact aW ⟨g4,r,_,_,_,_,rfl,hr⟩
      · exact aW ⟨g3,r,_,_,_,_,rfl,hr⟩
  · rintro c s2 ⟨g2,o,i,j,g,rfl,hJ,hx⟩;have:=hJ.1;have:=hJ.2.1;lia
  · rintro c s2 ⟨g2,r,o,i,j,g,rfl,hr⟩;exact aW (hr s2 g2)
variable {prog:Program}{w:World}{A:Around}{E:Value->Shared->Prop}{R:Shared->Prop}{α β:Type}{κ:SortKind}{a₀:Array Keyed}{rk:Rk}
theorem zd6 (a b : Array Keyed) : Bh a b = (do
 rule "list.sort.merge-hi"
 let t:=a.size + b.size
 let fin (o:Array Keyed) (i j:Nat):=a.extract 0 i ++ b.extract 0 j ++ o.reverse
 let lst (o:Array Keyed) (i j:Nat):=b.extract 0 j ++ a.extract 0 i ++ o.reverse
 let mut i:=a.size - 1
 let mut j:=b.size
 let mut o:Array Keyed:= #[<-elem' a i]
 if i==0 then return fin o i j
 if j==1 then return lst o i j
 let mut g:=gallopOf (<-get)
 for _ in [0:t] do
  let mut m:=0
  let mut n:=0
  for _ in [0:t] do
   let some c <-lt' (<-elem' b (j - 1)) (<-elem' a (i - 1)) |return fin o i j
   if c then
    i:=i - 1;o:=o.push (<-elem' a i);m:=m + 1;n:=0
    if i==0 then return fin o i j
    if m >=g then break
   else
    j:=j - 1;o:=o.push (<-elem' b j);n:=n + 1;m:=0
    if j==1 then return lst o i j
    if n >=g then break
  rule "list.sort.gallop"
  g:=g + 1
  for _ in [0:t] do
   if g > 1 then g:=g - 1
   setG g
   let some p <-gal false (<-elem' b (j - 1)) a 0 i (i - 1) |return fin o i j
   let k:=i - p
   m:=k
   if k > 0 then
    o:=o ++ (a.extract p i).reverse;i:=p
    if i==0 then return fin o i j
   j:=j - 1;o:=o.push (<-elem' b j)
   if j==1 then return lst o i j
   let some p <-gal true (<-elem' a (i - 1)) b 0 j (j - 1) |return fin o i j
   let k:=j - p
   n:=k
   if k > 0 then
    o:=o ++ (b.extract p j).reverse;j:=p
    if j==1 then return lst o i j
    if j==0 then return fin o i j
   i:=i - 1;o:=o.push (<-elem' a i)
   if i==0 then return fin o i j
   if m<7 && n<7 then break
  g:=g + 1
  setG g
 unsupported "internal:list.sort.merge-bound"):=rfl
def Ry {a:Array Keyed}{i:Nat}:(a.extract 0 i).toList=a.toList.take i:=by
 rw[xbR,xbs,xcw,Nat.sub_zero]
def Jk {a:Array Keyed}{p i:Nat}(h:p<=i):a.toList.take i=a.toList.take p ++ (a.extract p i).toList:=by
 rw[xbR,xbs];have e:p + (i - p)=i:=by lia
 rw[<-List.take_add,e]
theorem O_ {a:Array Keyed}{i:Nat}(h:i<a.size):a.toList.take (i + 1)=a.toList.take i ++ [a[i]]:=by
 rw[List.take_add_one,xab (by simpa using h)];rfl
def Fd {a:Array Keyed}{i:Nat}{x:Keyed}(h:x∈a.toList.take i):∃k,k<i/\∃hk:k<a.size,x=a[k]:=by
 obtain⟨k,hk,e⟩:=xbG h;rw[xev]at e;simp only[xbm,xau]at hk;exact⟨k,by lia,by lia,e.symm⟩
def mem_mid {a:Array Keyed}{p i:Nat}{x:Keyed}(h:x∈(a.extract p i).toList):∃k,p<=k/\k<i/\∃hk:k<a.size,x=a[k]:=by
 rw[xbR,xbs]at h;obtain⟨k,k1,k2,k3,e⟩:=Kp h;exact⟨k,k1,by lia,k3,e⟩
def XR {a:Array Keyed}(s:Sd rk a.toList){i:Nat}(h:i<=a.size):Up (vv rk a) 0 (0 + i):=fun k l h1 h2 h3=>by
 rw[dO (by lia),dO (by lia)];exact pI s h2 (by lia)
def zel {st:SortSt}{a b:Array Keyed}(C:nG prog w A R κ a₀ rk)(B:Bs κ a₀ st)(ha:∀y∈a,y∈a₀)(hb:∀y∈b,y∈a₀)(sa:Sd rk a.toList)(sb:Sd rk b.toList)(na:0<a.size)(nb:0<b.size)
    (f:∀x∈a,rk b[0]<=rk x) (l:∀y∈b,rk y<=rk a[a.size - 1]) {P:Array Keyed->SortSt->Prop} (q:∀r st',Sd rk r.toList->r.toList.Perm (a.toList ++ b.toList)->Sg st st'->P r st'):Ok prog w A E R (Bh a b) st P:=by
  rw[zd6]
  extract_lets t fin lst i0 j0
  generalize hT:a.toList ++ b.toList=T at q;have fn:∀o i j,Mh rk T o.toList.reverse (a.toList.take i) (b.toList.take j)->(i=0\/j=0)->∀st',Sg st st'->P (fin o i j) st':=fun o i j m h st' g=>by
    have e:(fin o i j).toList=a.toList.take i ++ b.toList.take j ++ o.toList.reverse:=by simp only[fin,xbq,Ry,xcE]
    have p:(fin o i j).toList.Perm T:=by rw[e];exact m.p
    refine q _ _ ?_ p g;rcases h with rfl |rfl
    · rw[e,xcB,xbe];exact m.y
    · rw[e,xcB,xas];exact m.x
  have ls:∀o i j,Mh rk T o.toList.reverse (a.toList.take i) (b.toList.take j)->j=1->∀st',Sg st st'->P (lst o i j) st':=fun o i j m h st' g=>by
    have e:(lst o i j).toList=b.toList.take j ++ (a.toList.take i ++ o.toList.reverse):=by simp only[lst,xbq,Ry,xcE,xao]
    have m2:Mh rk T (a.toList.take i ++ o.toList.reverse) [] (b.toList.take j):=Mh.go (X':=[]) (by rw[xbe];exact m) fun x hx y hy=>by
      subst h;rw[show(1:Nat)=0 + 1 from rfl,O_ nb]at hy;rw[xcB,xbe,xaM]at hy;subst hy;exact f x (xbk.mp (List.mem_of_mem_take hx))
    refine q _ _ (by rw[e];exact m2.y) ?_ g;rw[e];have:=m2.p
    rwa [xbe]at this
  clear_value fin lst
  have stA:∀o i j (hi:i<a.size),Mh rk T o (a.toList.take (i + 1)) (b.toList.take j)->(∀k (hk:k<b.size),k<j->rk b[k]<=rk a[i])->Mh rk T (a[i]::o) (a.toList.take i) (b.toList.take j):=fun o i j hi m h=>
    Mh.go (X:=[a[i]]) (by rw[O_ hi]at m;exact m) fun x hx y hy=>by
      rw[xaM]at hx;subst hx;obtain⟨k,k1,k2,rfl⟩:=Fd hy;exact h k k2 k1
  have stB:∀o i j (hj:j<b.size),Mh rk T o (a.toList.take i) (b.toList.take (j + 1))->(∀k (hk:k<a.size),k<i->rk a[k]<=rk b[j])->Mh rk T (b[j]::o) (a.toList.take i) (b.toList.take j):=fun o i j hj m h=>
    (Mh.go (X:=[b[j]]) (by have:=m.swap;rw[O_ hj]at this;exact this) fun x hx y hy=>by
      rw[xaM]at hx;subst hx;obtain⟨k,k1,k2,rfl⟩:=Fd hy;exact h k k2 k1).swap
  have m0 : Mh rk T [a[a.size - 1]] (a.toList.take (a.size - 1)) (b.toList.take b.size) := stA [] (a.size - 1) b.size (by lia) (by
    rw[show a.size - 1 + 1=a.size by lia,xbI (by simp),xbI (by simp)];exact⟨by simpa using sa,by simpa using sb,by simp[hT]⟩) fun k hk _=>l _ (xaL hk)
  refine aQ (yZ (aQ (dW (show i0<a.size by simp only[i0];lia) ?_)))
  extract_lets o0
  dsimp -zeta -zetaHave only[i0,j0,o0]
  by_cases h1:a.size - 1=0
  · rw[xad (by simpa using h1)];exact aW (fn #[a[a.size - 1]] _ _ m0 (.inl h1) _ Sg.rfl)
  rw[xae (by simpa using h1)]
  by_cases h2:b.size=1
  · rw[xad (by simpa using h2)];exact aW (ls #[a[a.size - 1]] _ _ m0 h2 _ Sg.rfl)
  rw[xae (by simpa using h2)];refine aQ (pC ?_)
  let Gd:Array Keyed->Prop:=fun r=>∀st',Sg st st'->P r st'
  let J:Array Keyed->Nat->Nat->Prop:=fun o i j=>0<i/\i<a.size/\1<j/\j<=b.size/\Mh rk T o.toList.reverse (a.toList.take i) (b.toList.take j)
  refine aQ (Ok.mono (P:=fun c s2=>Sg st s2/\∃r o i j g,c=(some r,i,j,o,g)/\Gd r)
    (gC (fun x c s2=>Sg st s2/\∃o i j g,c=(none,i,j,o,g)/\J o i j/\x + i + j<t) ⟨Sg.rfl,_,_,_,_,rfl,⟨by lia,by lia,by lia,by lia,m0⟩,by simp only[t];lia⟩ ?_ ?_) ?_)
  · rintro x c s2 x1 x2 ⟨g2,o,i,j,g,rfl,hJ,hx⟩
    extract_lets i' j' o' g' m' n'
    refine aQ (Ok.mono (P:=fun c s3=>Sg st s3/\∃o i j m n,(J o i j/\x + 1 + i + j<t/\c=(none,i,j,o,m,n))\/∃r,c=(some r,i,j,o,m,n)/\Gd r)
      (gC (fun y c s3=>Sg st s3/\∃o i j m n,c=(none,i,j,o,m,n)/\J o i j/\x + y + i + j<t) ⟨g2,o,i,j,0,0,rfl,hJ,by lia⟩ ?_ ?_) ?_)
    · rintro y c s3 y1 y2 ⟨g3,o,i,j,m,n,rfl,⟨J1,J2,J3,J4,J5⟩,hy⟩
      clear_value o' i' j' g' m' n'
      dsimp only;refine aQ (dW (show j - 1<b.size by lia) (aQ (dW (show i - 1<a.size by lia) (aQ (Bx C (g3.bs B) (hb _ (xaL _)) (ha _ (xaL _)) ?_)))));dsimp only
      by_cases hc:rk b[j - 1]<rk a[i - 1]
      · rw[xad (by simpa using hc)];have m2:=stA _ (i - 1) j (by lia) (by rw[show i - 1 + 1=i by lia];exact J5) fun k hk ik=>xar (pI sb (show k<=j - 1 by lia) (by lia)) (xbb hc);refine aQ (dW (show i - 1<a.size by lia) ?_);have m3:Mh rk T (o.push a[i - 1]).toList.reverse (a.toList.take (i - 1)) (b.toList.take j):=by rw[xbn,xbV];exact m2
        by_cases e:i - 1=0
        · rw[xad (by simpa using e)];exact aW ⟨g3,_,_,_,_,_,.inr ⟨_,rfl,fn _ _ _ m3 (.inl e)⟩⟩
        · rw[xae (by simpa using e)]
          split
          · exact aW ⟨g3,_,_,_,_,_,.inl ⟨⟨by lia,by lia,J3,J4,m3⟩,by lia,rfl⟩⟩
          · exact aW ⟨g3,_,_,_,_,_,rfl,⟨by lia,by lia,J3,J4,m3⟩,by lia⟩
      · rw[xae (by simpa using hc)];have m2:=stB _ i (j - 1) (by lia) (by rw[show j - 1 + 1=j by lia];exact J5) fun k hk ik=>xar (pI sa (show k<=i - 1 by lia) (by lia)) (xbK hc);refine aQ (dW (show j - 1<b.size by lia) ?_);have m3:Mh rk T (o.push b[j - 1]).toList.reverse (a.toList.take i) (b.toList.take (j - 1)):=by rw[xbn,xbV];exact m2
        by_cases e:j - 1=1
        · rw[xad (by simpa using e)];exact aW ⟨g3,_,_,_,_,_,.inr ⟨_,rfl,ls _ _ _ m3 e⟩⟩
        · rw[xae (by simpa using e)]
          split
          · exact aW ⟨g3,_,_,_,_,_,.inl ⟨⟨J1,J2,by lia,by lia,m3⟩,by lia,rfl⟩⟩
          · exact aW ⟨g3,_,_,_,_,_,rfl,⟨J1,J2,by lia,by lia,m3⟩,by lia⟩
    · rintro c s3 ⟨g3,o,i,j,m,n,rfl,hJ,hy⟩;exact⟨g3,o,i,j,m,n,.inl ⟨hJ,by simp only[t]at hy ⊢;lia,rfl⟩⟩
    · rintro c s3 ⟨g3,o,i,j,m,n,⟨hJ,hy,rfl⟩ |⟨r,rfl,hr⟩⟩
      · refine aQ (yZ (aQ (Ok.mono (P:=fun c s4=>Sg st s4/\∃o i j g m n,(J o i j/\x + 1 + i + j<t/\c=(none,i,j,o,g,m,n))\/∃r,c=(some r,i,j,o,g,m,n)/\Gd r)
          (gC (fun y c s4=>Sg st s4/\∃o i j g m n,c=(none,i,j,o,g,m,n)/\J o i j/\x + 1 + i + j<t) ⟨g3,o,i,j,_,m,n,rfl,hJ,hy⟩ ?_ ?_) ?_)))
        · clear hJ hy o i j m n
          clear_value o' i' j' g' m' n'
          rintro y c s4 y1 y2 ⟨g4,o,i,j,g,m,n,rfl,⟨J1,J2,J3,J4,J5⟩,hy⟩
          extract_lets z0 ii z1 jj z2 oo z3 gg z4 mm nn j1 jp g1
          have eo:oo=o:=rfl;have ei:ii=i:=rfl;have ej:jj=j:=rfl
          clear_value z0 z1 z2 z3 z4 oo ii jj gg mm nn
          clear z0 z1 z2 z3 z4;subst eo ei ej
          suffices hjp:∀g',Ok prog w A E R (jp () g') s4 _ by split<;>exact hjp _
          intro g';refine aQ (Fl fun s5 g5=>aQ (dW (show jj - 1<b.size by lia) ?_))
          replace g5:=g4.trans g5
          refine aQ (yW C (g5.bs B) (hb _ (xaL _)) ha (by lia) (by lia) (XR sa (by lia)) fun p k1 k2 k3=>?_);have t0:thr rk false b[jj - 1]=rk b[jj - 1] + 1:=rfl;rw[t0]at k2 k3;simp only[xdP]at k2 k3
          dsimp -zeta -zetaHave only
          extract_lets kk mk jp2 o2 i2
          suffices hjp2:∀i o,0<i->i<=ii->(∀k (hk:k<a.size),k<i->rk a[k]<=rk b[jj - 1])->Mh rk T o.toList.reverse (a.toList.take i) (b.toList.take jj)->Ok prog w A E R (jp2 () i o) s5 _ by
            have hk2:∀k (hk:k<a.size),k<p->rk a[k]<=rk b[jj - 1]:=fun k hk h=>by
              have:=k2 k h;rw[dO hk]at this;lia
            by_cases hk:kk > 0
            · rw[xad hk];have m2:Mh rk T o2.toList.reverse (a.toList.take i2) (b.toList.take jj):=by
                have e:o2.toList.reverse=(a.extract p ii).toList ++ oo.toList.reverse:=by simp only[o2,xbq,xcE,xbV,xd9]
                rw[e];refine Mh.go (X':=a.toList.take i2) (by simp only[i2];rw[<-Jk k1];exact J5) fun u hu v hv=>?_;obtain⟨q1,p1,p2,p3,rfl⟩:=mem_mid hu;obtain⟨q2,p1',p2',rfl⟩:=Fd hv;have z1:=k3 q1 p1 p2;rw[dO p3]at z1;have z2:=pI sb (show q2<=jj - 1 by lia) (by lia);lia
              have ei2:i2=p:=rfl
              clear_value o2 i2
              subst ei2
              by_cases e1:i2=0
              · rw[xad (by simpa using e1)];exact aW ⟨g5,_,_,_,_,_,_,.inr ⟨_,rfl,fn _ _ _ m2 (.inl e1)⟩⟩
              rw[xae (by simpa using e1)];exact hjp2 _ _ (by lia) (by lia) hk2 m2
            · rw[xae hk];have ep:p=ii:=by simp only[kk]at hk;lia
              subst ep;exact hjp2 _ _ J1 (xaf _) hk2 J5
          intro i o i1 i3 hlow m2;have ej1:j1=jj - 1:=rfl;refine aQ (dW (show j1<b.size by lia) ?_);have m3:=stB _ i j1 (by lia) (by rw[show j1 + 1=jj by lia];exact m2) hlow
          extract_lets o3 i4
          replace m3:Mh rk T o3.toList.reverse (a.toList.take i) (b.toList.take j1):=by simp only[o3];rw[xbn,xbV];exact m3
          clear_value o3 j1
          by_cases e3:j1=1
          · rw[xad (by simpa using e3)];exact aW ⟨g5,_,_,_,_,_,_,.inr ⟨_,rfl,ls _ _ _ m3 e3⟩⟩
          rw[xae (by simpa using e3)];refine aQ (dW (show i - 1<a.size by lia) (aQ (yW C (g5.bs B) (ha _ (xaL _)) hb (by lia) (by lia) (XR sb (by lia)) fun p' k1' k2' k3'=>?_)));have t1:thr rk true a[i - 1]=rk a[i - 1]:=rfl;rw[t1]at k2' k3';simp only[xdP]at k2' k3'
          dsimp -zeta -zetaHave only
          extract_lets k4 nk jp3 o4 j4
          suffices hjp3:∀j o,j<=j1->1<j->(∀k (hk:k<b.size),k<j->rk b[k]<=rk a[i - 1])->Mh rk T o.toList.reverse (a.toList.take i) (b.toList.take j)->Ok prog w A E R (jp3 () j o) s5 _ by
            have hk2:∀k (hk:k<b.size),k<p'->rk b[k]<=rk a[i - 1]:=fun k hk h=>by
              have:=k2' k h;rw[dO hk]at this;lia
            by_cases hk:k4 > 0
            · rw[xad hk];have m4:Mh rk T o4.toList.reverse (a.toList.take i) (b.toList.take j4):=by
                have e:o4.toList.reverse=(b.extract p' j1).toList ++ o3.toList.reverse:=by simp only[o4,xbq,xcE,xbV,xd9]
                rw[e];refine(Mh.go (X':=b.toList.take j4) (by simp only[j4];rw[<-Jk k1'];exact m3.swap) fun u hu v hv=>?_).swap;obtain⟨q1,p1,p2,p3,rfl⟩:=mem_mid hu;obtain⟨q2,p1',p2',rfl⟩:=Fd hv;have z1:=k3' q1 p1 p2;rw[dO p3]at z1;have z2:=pI sa (show q2<=i - 1 by lia) (by lia);lia
              have ej4:j4=p':=rfl
              clear_value o4 j4
              subst ej4
              by_cases e1:j4=1
              · rw[xad (by simpa using e1)];exact aW ⟨g5,_,_,_,_,_,_,.inr ⟨_,rfl,ls _ _ _ m4 e1⟩⟩
              rw[xae (by simpa using e1)]
              by_cases e2:j4=0
              · rw[xad (by simpa using e2)];exact aW ⟨g5,_,_,_,_,_,_,.inr ⟨_,rfl,fn _ _ _ m4 (.inr e2)⟩⟩
              rw[xae (by simpa using e2)];exact hjp3 _ _ (by lia) (by lia) hk2 m4
            · rw[xae hk];have ep:p'=j1:=by simp only[k4]at hk;lia
              exact hjp3 _ _ (xaf _) (by lia) (fun k hk h=>hk2 k hk (by lia)) m3
          intro j o jl jb hlow2 m5;have ei4:i4=i - 1:=rfl;refine aQ (dW (show i4<a.size by lia) ?_);have m6:=stA _ i4 j (by lia) (by rw[show i4 + 1=i by lia];exact m5) hlow2
          extract_lets o5
          replace m6:Mh rk T o5.toList.reverse (a.toList.take i4) (b.toList.take j):=by simp only[o5];rw[xbn,xbV];exact m6
          clear_value o5 i4
          by_cases e4:i4=0
          · rw[xad (by simpa using e4)];exact aW ⟨g5,_,_,_,_,_,_,.inr ⟨_,rfl,fn _ _ _ m6 (.inl e4)⟩⟩
          rw[xae (by simpa using e4)]
          split
          · exact aW ⟨g5,_,_,_,_,_,_,.inl ⟨⟨by lia,by lia,jb,by lia,m6⟩,by lia,rfl⟩⟩
          · exact aW ⟨g5,_,_,_,_,_,_,rfl,⟨by lia,by lia,jb,by lia,m6⟩,by lia⟩
        · rintro c s4 ⟨g4,o,i,j,g,m,n,rfl,hJ,hy⟩;exact⟨g4,o,i,j,g,m,n,.inl ⟨hJ,hy,rfl⟩⟩
        · rintro c s4 ⟨g4,o,i,j,g,m,n,⟨hJ,hy,rfl⟩ |⟨r,rfl,hr⟩⟩
          · exact aQ (Fl fun s5 g5=>aW ⟨g4.trans g5,o,i,j,_,rfl,hJ,hy⟩)
          · exact aW ⟨g4,r,_,_,_,_,rfl,hr⟩
      · exact aW ⟨g3,r,_,_,_,_,rfl,hr⟩
  · rintro c s2 ⟨g2,o,i,j,g,rfl,hJ,hx⟩;have:=hJ.1;simp only[t]at hx;lia
  · rintro c s2 ⟨g2,r,o,i,j,g,rfl,hr⟩;exact aW (hr s2 g2)
variable {prog:Program}{w:World}{A:Around}{E:Value->Shared->Prop}{R:Shared->Prop}{α β:Type}{κ:SortKind}{a₀:Array Keyed}{rk:Rk}
noncomputable def lay (o:Nat) (m a:Array Keyed):Array Keyed:=m.toList.zipIdx.foldl (fun a (p,j)=>a.setIfInBounds (o + j) p) a
theorem zfh (i : Nat) : mergeAt' i = (do
 let s <-get
 let (some (o,n,w),some (p,m,_)):=((pendingOf s)[i]?,(pendingOf s)[i + 1]?) |unsupported "internal:list.sort.pending"
 set (setPending s (((pendingOf s).setIfInBounds i (o,n + m,w)).eraseIdxIfInBounds (i + 1)))
 let some k <-gal false (<-elem' (arrOf s) p) (arrOf s) o n 0 |return false
 let (o,n):=(o + k,n - k)
 if n==0 then return true
 let some m <-gal true (<-elem' (arrOf s) (o + n - 1)) (arrOf s) p m (m - 1) |return false
 if m==0 then return true
 let x:=(arrOf s).extract o p
 let y:=(arrOf s).extract p (p + m)
 let r <-if n<=m then Bj x y else Bh x y
 modify fun s=>setArr s (lay o r (arrOf s))
 return (failedOf (<-get)).isNone):=rfl
theorem TV (o:Nat):∀(l:List Keyed) (d:Nat) (a:Array Keyed),o + d + l.length<=a.size->
    ((l.zipIdx d).foldl (fun a (p,j)=>a.setIfInBounds (o + j) p) a).size=a.size/\∀k,((l.zipIdx d).foldl (fun a (p,j)=>a.setIfInBounds (o + j) p) a)[k]? =if o + d<=k/\k<o + d + l.length then l[k - (o + d)]? else a[k]?
  | [],d,a,h=>⟨rfl,fun k=>by rw[xae (by simp only[xaI];lia)];rfl⟩
  |x::l,d,a,h=>by
    rw[xaw]at h;obtain⟨h1,h2⟩:=TV o l (d + 1) (a.setIfInBounds (o + d) x) (by rw[xdQ];lia);rw[xdQ]at h1;refine⟨h1,fun k=>(h2 k).trans ?_⟩;rw[xaw]
    by_cases c:k=o + d
    · subst c;rw[xae (by lia),xad (by lia),xbH,xdf,xad rfl,xad (by lia)];rfl
    · by_cases c2:o + (d + 1)<=k/\k<o + (d + 1) + l.length
      · rw[xad c2,xad (by lia),show k - (o + d)=k - (o + (d + 1)) + 1 by lia,xbT]
      · rw[xae c2,xae (by lia),xdf,xae (by lia)]
def TF {o:Nat}{m a:Array Keyed}(h:o + m.size<=a.size)(k:Nat):(lay o m a)[k]? =if o<=k/\k<o + m.size then m[k - o]? else a[k]? :=by
 have:=(TV o m.toList 0 a (by simpa using h)).2 k;simp only[Nat.add_zero,xau,xa4]at this;exact this
def zb5 {o:Nat}{m a:Array Keyed}(h:o + m.size<=a.size)(p:m.toList.Perm (a.extract o (o + m.size)).toList):(lay o m a).Perm a:=by
 have e1:(lay o m a).toList=a.toList.take o ++ (m.toList ++ a.toList.drop (o + m.size)):=by
  refine xdD fun k=>?_;rw[xa4,TF h]
  by_cases c:k<o
  ·rw[xae (by lia),xaC (by simp;lia),xcK c,xa4]
  ·rw[xap (by simp;lia),xbm,xau,show min o a.size=o by lia]
   by_cases c2:k<o + m.size
   ·rw[xad (by lia),xaC (by simp;lia),xa4]
   ·rw[xae (by lia),xap (by simp;lia),xau,xeo,xa4];congr 1;lia
 have e2:a.toList=a.toList.take o ++ ((a.extract o (o + m.size)).toList ++ a.toList.drop (o + m.size)):=by
  rw[<-xao, <-Jk (by lia),xcA]
 refine Array.perm_iff_toList_perm.mpr ?_;rw[e1];refine List.Perm.trans ?_ (xdd e2.symm);exact xcy _ (xcR _ p)
def WM {a:Array Keyed}{i j:Nat}(h:Up (vv rk a) i j)(hj:j<=a.size):Sd rk (a.extract i j).toList:=by
 refine xcJ.mpr fun p q hp hq pq=>?_;simp only[xau,xcM]at hp hq;have e:∀q (hq:q<(a.extract i j).toList.length),rk (a.extract i j).toList[q]=vv rk a (i + q):=fun q hq=>by
  simp only[xau,xcM]at hq;rw[dO (by lia)]
  simp
 rw[e,e];exact h _ _ (by lia) (by lia) (by lia)
def Bm {a:Array Keyed}{p i:Nat}{x:Keyed}(h:x∈a.extract p i):∃k,p<=k/\k<i/\k<a.size/\rk x=vv rk a k/\x∈a:=by
 obtain⟨k,k1,k2,k3,rfl⟩:=mem_mid (xbk.mpr h);exact⟨k,k1,k2,k3,(dO k3).symm,xaL k3⟩
def Up.join {v:Nat->Nat}{i j k:Nat}(a:Up v i j)(b:Up v j k)(h:∀p q,i<=p->p<j->j<=q->q<k->v p<=v q):Up v i k:=fun p q h1 h2 h3=>by
 by_cases c:q<j
 ·exact a p q h1 h2 c
 ·by_cases d:p<j
  ·exact h p q h1 d (by lia) h3
  ·exact b p q (by lia) h2 h3
def zdU {st:SortSt}{i o n x p m y:Nat}(C:nG prog w A R κ a₀ rk)(B:Bs κ a₀ st)(e1:(pendingOf st)[i]? =some (o,n,x))(e2:(pendingOf st)[i + 1]? =some (p,m,y))(hp:p=o + n)(n1:1<=n)(m1:1<=m)(hz:p + m<=a₀.size)
    (u1:Up (vv rk (arrOf st)) o p) (u2:Up (vv rk (arrOf st)) p (p + m)) {P:Bool->SortSt->Prop}
    (q:∀st',Bs κ a₀ st'->pendingOf st'=((pendingOf st).setIfInBounds i (o,n + m,x)).eraseIdxIfInBounds (i + 1)->Up (vv rk (arrOf st')) o (p + m)->(∀k,k<o\/p + m<=k->vv rk (arrOf st') k=vv rk (arrOf st) k)->P true st'):Ok prog w A E R (mergeAt' i) st P:=by
  have sz:=B.size;have hm:∀y∈arrOf st,y∈a₀:=fun y hy=>B.pm.mem_iff.mp hy;rw[zfh];refine aQ (pC ?_);rw[e1,e2];dsimp only;refine aQ (zeu ?_);have B2:Bs κ a₀ (setPending st (((pendingOf st).setIfInBounds i (o,n + m,x)).eraseIdxIfInBounds (i + 1))):=⟨B.kd,B.nf,B.pm⟩;refine aQ (dW (show p<(arrOf st).size by lia) (aQ (yW C B2 (hm _ (xaL _)) hm (by lia) (by lia) (by rw[<-hp];exact u1) fun k k1 k2 k3=>?_)));dsimp only;have tp:thr rk false (arrOf st)[p]=vv rk (arrOf st) p + 1:=by rw[dO (by lia)];rfl
  rw[tp]at k2 k3
  by_cases c1:n - k=0
  · rw[xad (by simpa using c1)];refine aW (q _ B2 rfl (u1.join u2 fun p' q' h1 h2 h3 h4=>?_) fun _ _=>rfl);have:=k2 (p' - o) (by lia);rw[show o + (p' - o)=p' by lia]at this;exact xar (by lia) (u2 p q' (xaf _) h3 h4)
  rw[xae (by simpa using c1)];refine aQ (dW (show o + k + (n - k) - 1<(arrOf st).size by lia) (aQ (yW C B2 (hm _ (xaL _)) hm (by lia) (by lia) u2 fun d d1 d2 d3=>?_)));dsimp only;have tq:thr rk true (arrOf st)[o + k + (n - k) - 1]=vv rk (arrOf st) (p - 1):=by rw[dO (show p - 1<_ by lia)];show rk _=rk _;simp only[show o + k + (n - k) - 1=p - 1 by lia]
  rw[tq]at d2 d3
  by_cases c2:d=0
  · rw[xad (by simpa using c2)];refine aW (q _ B2 rfl (u1.join u2 fun p' q' h1 h2 h3 h4=>?_) fun _ _=>rfl);have:=d3 (q' - p) (by lia) (by lia);rw[show p + (q' - p)=q' by lia]at this;exact xar (u1 p' (p - 1) h1 (by lia) (by lia)) this
  rw[xae (by simpa using c2)];have szx:((arrOf st).extract (o + k) p).size=n - k:=by rw[xcM];lia
  have szy:((arrOf st).extract p (p + d)).size=d:=by rw[xcM];lia
  have hk3:∀j,o + k<=j->j<p->vv rk (arrOf st) p<vv rk (arrOf st) j:=fun j h1 h2=>by
    have:=k3 (j - o) (by lia) (by lia);rw[show o + (j - o)=j by lia]at this;lia
  have hd2:∀j,p<=j->j<p + d->vv rk (arrOf st) j<vv rk (arrOf st) (p - 1):=fun j h1 h2=>by
    have:=d2 (j - p) (by lia)
    rwa [show p + (j - p)=j by lia]at this
  have gx:∀(h:0<((arrOf st).extract p (p + d)).size),rk ((arrOf st).extract p (p + d))[0]=vv rk (arrOf st) p:=fun h=>by rw[dO (by lia)];simp
  have gy:∀(h:((arrOf st).extract (o + k) p).size - 1<((arrOf st).extract (o + k) p).size),rk ((arrOf st).extract (o + k) p)[((arrOf st).extract (o + k) p).size - 1]=vv rk (arrOf st) (p - 1):=fun h=>by
    rw[dO (by lia),Array.getElem_extract];simp only[szx,show o + k + (n - k - 1)=p - 1 by lia]
  have mrg:∀(f:Array Keyed->Array Keyed->StateT SortSt Sem (Array Keyed)),(f=Bj\/f=Bh)->∀{P:Array Keyed->SortSt->Prop},(∀r st',Sd rk r.toList->r.toList.Perm (((arrOf st).extract (o + k) p).toList ++ ((arrOf st).extract p (p + d)).toList)->Sg (setPending st (((pendingOf st).setIfInBounds i (o,n + m,x)).eraseIdxIfInBounds (i + 1))) st'->P r st')->
      Ok prog w A E R (f ((arrOf st).extract (o + k) p) ((arrOf st).extract p (p + d))) (setPending st (((pendingOf st).setIfInBounds i (o,n + m,x)).eraseIdxIfInBounds (i + 1))) P:=by
    have h1:∀y∈(arrOf st).extract (o + k) p,y∈a₀:=fun y hy=>hm _ (Bm (rk:=rk) hy).choose_spec.2.2.2.2;have h2:∀y∈(arrOf st).extract p (p + d),y∈a₀:=fun y hy=>hm _ (Bm (rk:=rk) hy).choose_spec.2.2.2.2;have h3:Sd rk ((arrOf st).extract (o + k) p).toList:=WM (fun a b z1 z2 z3=>u1 a b (by lia) z2 z3) (by lia);have h4:Sd rk ((arrOf st).extract p (p + d)).toList:=WM (fun a b z1 z2 z3=>u2 a b z1 z2 (by lia)) (by lia);have h5:∀z∈(arrOf st).extract (o + k) p,rk (((arrOf st).extract p (p + d))[0]'(by lia))<=rk z:=fun z hz=>by
      obtain⟨j,j1,j2,j3,j4,_⟩:=Bm (rk:=rk) hz;rw[j4,gx];exact xbb (hk3 j j1 j2)
    have h6:∀z∈(arrOf st).extract p (p + d),rk z<=rk (((arrOf st).extract (o + k) p)[((arrOf st).extract (o + k) p).size - 1]'(by lia)):=fun z hz=>by
      obtain⟨j,j1,j2,j3,j4,_⟩:=Bm (rk:=rk) hz;rw[j4,gy];exact xbb (hd2 j j1 j2)
    rintro f (rfl |rfl) P hP
    · exact zeb C B2 h1 h2 h3 h4 (by lia) (by lia) h5 h6 hP
    · exact zel C B2 h1 h2 h3 h4 (by lia) (by lia) h5 h6 hP
  have rest:∀r st',Sd rk r.toList->r.toList.Perm (((arrOf st).extract (o + k) p).toList ++ ((arrOf st).extract p (p + d)).toList)->Sg (setPending st (((pendingOf st).setIfInBounds i (o,n + m,x)).eraseIdxIfInBounds (i + 1))) st'->
      Ok prog w A E R (do modify fun s=>setArr s (lay (o + k) r (arrOf s));let s <-get;pure (failedOf s).isNone) st' P:=by
    rintro r st' sr pr ⟨g,rfl⟩;have lr:r.size=n - k + d:=by
      have:=pr.length_eq
      rwa [xag,xau,xau,xau,szx,szy]at this
    have ee:((arrOf st).extract (o + k) p).toList ++ ((arrOf st).extract p (p + d)).toList=((arrOf st).extract (o + k) (o + k + r.size)).toList:=by
      rw[show o + k + r.size=p + d by lia];simp only[xbR,xbs];rw[show p + d - p=d by lia,show p + d - (o + k)=(p - (o + k)) + d by lia,List.take_add,xd3,show o + k + (p - (o + k))=p by lia]
    rw[ee]at pr;have la:o + k + r.size<=(arrOf st).size:=by lia
    have lv:∀j,vv rk (lay (o + k) r (arrOf st)) j=if o + k<=j/\j<o + k + r.size then vv rk r (j - (o + k)) else vv rk (arrOf st) j:=fun j=>by
      have h:=TF (m:=r) (a:=arrOf st) la j;krn_ne
      · rename_i c;rw[xad c];exact yw h
      · rename_i c;rw[xae c];exact yw h
    have bd:∀j,j<r.size->vv rk (arrOf st) p<=vv rk r j/\vv rk r j<=vv rk (arrOf st) (p - 1):=fun j hj=>by
      have hmem:r[j]∈((arrOf st).extract (o + k) (o + k + r.size)).toList:=pr.mem_iff.mp (xbk.mpr (xaL hj));obtain⟨j',j1,j2,j3,j4,_⟩:=Bm (rk:=rk) (xbk.mp hmem);rw[dO hj,j4]
      by_cases c:j'<p
      · exact⟨xbb (hk3 j' j1 c),u1 _ _ (by lia) (by lia) (by lia)⟩
      · exact⟨u2 _ _ (xaf _) (by lia) (by lia),xbb (hd2 j' (by lia) (by lia))⟩
    have ur:Up (vv rk r) 0 r.size:=Pn sr;refine aQ (yX (aQ (pC (aW ?_))));show P (failedOf st).isNone _;rw[B.nf];refine q _ ⟨B.kd,rfl,(zb5 la pr).trans B.pm⟩ rfl ?_ ?_
    · intro a b h1 h2 h3;show vv rk (lay _ _ _) a<=vv rk (lay _ _ _) b;rw[lv,lv];have lo:∀a,o<=a->a<o + k->vv rk (arrOf st) a<=vv rk (arrOf st) p:=fun a h1 h2=>by
        have:=k2 (a - o) (by lia);rw[show o + (a - o)=a by lia]at this;lia
      have hi:∀b,p + d<=b->b<p + m->vv rk (arrOf st) (p - 1)<=vv rk (arrOf st) b:=fun b h1 h2=>by
        have:=d3 (b - p) (by lia) (by lia)
        rwa [show p + (b - p)=b by lia]at this
      have mid:=hk3 (p - 1) (by lia) (by lia)
      split
      · split
        · exact ur _ _ (by lia) (by lia) (by lia)
        · exact xar (bd _ (by lia)).2 (hi b (by lia) (by lia))
      · split
        · exact xar (lo a h1 (by lia)) (bd _ (by lia)).1
        · by_cases c:a<o + k
          · by_cases c':b<o + k
            · exact u1 a b h1 h2 (by lia)
            · exact xar (lo a h1 c) (xar (xbb mid) (hi b (by lia) (by lia)))
          · exact u2 a b (by lia) h2 (by lia)
    · intro j hj;show vv rk (lay _ _ _) j=_;rw[lv,xae (by lia)]
  split
  · exact aQ (mrg Bj (.inl rfl) rest)
  · exact aQ (mrg Bh (.inr rfl) rest)
variable {prog:Program}{w:World}{A:Around}{E:Value->Shared->Prop}{R:Shared->Prop}{α β:Type}{κ:SortKind}{a₀:Array Keyed}{rk:Rk}
noncomputable def Rs (v:Nat->Nat):List (Nat×Nat×Nat)->Nat->Nat->Prop
 | [],i,j=>i=j
 |(o,n,_)::l,i,j=>o=i/\1<=n/\Up v i (i + n)/\Rs v l (i + n) j
theorem Rs.le {v:Nat->Nat}:∀{l:List (Nat×Nat×Nat)} {i j:Nat},Rs v l i j->i + l.length<=j
  | [],i,j,h=>xc1 h
  |(o,n,_)::l,i,j,h=>by
    have:=Rs.le h.2.2.2;have:=h.2.1;rw[xaw];lia
theorem Rs.app {v:Nat->Nat}:∀{l:List (Nat×Nat×Nat)} {l':List (Nat×Nat×Nat)} {i j:Nat},Rs v (l ++ l') i j->∃k,Rs v l i k/\Rs v l' k j
  | [],l',i,j,h=>⟨i,rfl,h⟩
  |(o,n,_)::l,l',i,j,h=>by
    obtain⟨k,a,b⟩:=Rs.app (l:=l) h.2.2.2;exact⟨k,⟨h.1,h.2.1,h.2.2.1,a⟩,b⟩
theorem Rs.join {v:Nat->Nat}:∀{l:List (Nat×Nat×Nat)} {l':List (Nat×Nat×Nat)} {i j k:Nat},Rs v l i k->Rs v l' k j->Rs v (l ++ l') i j
 | [],l',i,j,k,a,b=>by cases (show i=k from a);exact b
 |(o,n,_)::l,l',i,j,k,a,b=>⟨a.1,a.2.1,a.2.2.1,Rs.join a.2.2.2 b⟩
theorem Rs.same {v v':Nat->Nat}:∀{l:List (Nat×Nat×Nat)} {i j:Nat},Rs v l i j->(∀k,i<=k->k<j->v' k=v k)->Rs v' l i j
  | [],i,j,h,e=>h
  |(o,n,_)::l,i,j,h,e=>by
    have:=h.2.2.2.le;refine⟨h.1,h.2.1,fun a b h1 h2 h3=>?_,Rs.same h.2.2.2 fun k k1 k2=>e k (by lia) k2⟩;rw[e a h1 (by lia),e b (by lia) (by lia)];exact h.2.2.1 a b h1 h2 h3
def Rs.up {v:Nat->Nat}{l:List (Nat×Nat×Nat)}{i j:Nat}(h:Rs v l i j)(h1:l.length<=1):Up v i j:=by
 match l,h,h1 with
 | [],h,_=>cases (show i=j from h);exact fun a b h1 h2 h3=>by lia
 | [(o,n,_)],h,_=>cases (show i + n=j from h.2.2.2);exact h.2.2.1
theorem Rs.power {v:Nat->Nat}{w:Nat}:∀{l:List (Nat×Nat×Nat)} {i j:Nat} (k:Nat),Rs v l i j->Rs v (l.modify k fun z=>(z.1,z.2.1,w)) i j
 | [],i,j,k,h=>by rw[List.modify_nil];exact h
 |(o,n,_)::l,i,j,0,h=>by rw[List.modify_zero_cons];exact h
 |(o,n,_)::l,i,j,k + 1,h=>by rw[List.modify_succ_cons];exact⟨h.1,h.2.1,h.2.2.1,Rs.power k h.2.2.2⟩
structure Sr (κ:SortKind)(a₀:Array Keyed)(rk:Rk)(lo:Nat)(st:SortSt):Prop where
 b:Bs κ a₀ st
 r:Rs (vv rk (arrOf st)) (pendingOf st).toList 0 lo
def Uu {st:SortSt}{lo i:Nat}(C:nG prog w A R κ a₀ rk)(S:Sr κ a₀ rk lo st)(hl:lo<=a₀.size)(hi:i + 1<(pendingOf st).size){P:Bool->SortSt->Prop}
  (q:∀st',Sr κ a₀ rk lo st'->(pendingOf st').size + 1=(pendingOf st).size->(∀k,lo<=k->vv rk (arrOf st') k=vv rk (arrOf st) k)->P true st'):Ok prog w A E R (mergeAt' i) st P:=by
 have ht:=S.r;have e0:(pendingOf st).toList=(pendingOf st).toList.take i ++ (pendingOf st).toList.drop i:=(xcA ..).symm;rw[xaV (by simp;lia),xaV (by simp;lia)]at e0;rcases h1:(pendingOf st).toList[i]'(by simp;lia) with⟨o,n,x⟩;rcases h2:(pendingOf st).toList[i + 1]'(by simp;lia) with⟨p,m,y⟩;rw[h1,h2]at e0;have g1:(pendingOf st)[i]? =some (o,n,x):=by rw[<-xa4,xab (by simp;lia),h1]
 have g2:(pendingOf st)[i + 1]? =some (p,m,y):=by rw[<-xa4,xab (by simp;lia),h2]
 generalize hL:(pendingOf st).toList.take i=L at e0;generalize hM:(pendingOf st).toList.drop (i + 1 + 1)=M at e0;have lL:L.length=i:=by rw[<-hL,xbm,xau];lia
 rw[e0]at ht;obtain⟨k,r1,r2⟩:=ht.app;obtain⟨rfl,n1,u1,rfl,m1,u2,r3⟩:=r2;have l3:=r3.le;refine zdU C S.b g1 g2 rfl n1 m1 (by lia) u1 u2 fun st' B' hp' u' f'=>q st' ⟨B',?_⟩ ?_ fun j hj=>f' j (.inr (by lia))
 ·rw[hp'];rw[xcW,xdx,e0,xbu _ _ (by lia),lL,xbH,xaN,List.eraseIdx_append_of_length_le (by lia),lL,show i + 1 - i=1 by lia];refine(r1.same fun j _ j2=>f' j (.inl j2)).join ?_;refine⟨rfl,by lia,by rw[<-xdy];exact u',?_⟩;rw[<-xdy];exact r3.same fun j j1 _=>f' j (.inr j1)
 ·rw[hp', <-xau, <-xau,xcW,List.length_eraseIdx_of_lt (by simpa using hi),xdx,xaz,xau];lia
def zdk {a:Array Keyed}(C:nG prog w A R κ a rk){P:Unit->SortSt->Prop}(q:∀st',(arrOf st').Perm a->failedOf st'=none->Up (vv rk (arrOf st')) 0 a.size->P () st'):
    Ok prog w A E R sortRuns' (SortSt.mk' κ a #[] 7 none) P:=by
  rw[sortRuns'_eq];refine aQ (pC ?_);show Ok prog w A E R _ _ _
  extract_lets size minrun lo0
  have es:size=a.size:=rfl
  clear_value size minrun
  subst es;refine aQ (Ok.mono (P:=fun c st=>c=(none,a.size)/\Sr κ a rk a.size st) (gC (fun x c st=>∃lo,c=(none,lo)/\lo<=a.size/\(lo=a.size\/x<=lo)/\Sr κ a rk lo st) ⟨0,rfl,by lia,by lia,⟨rfl,rfl,Array.Perm.refl _⟩,rfl⟩ ?_ ?_) ?_)
  · rintro x c st x1 x2 ⟨lo,rfl,hl,hx,S⟩
    extract_lets lo' jp
    have el:lo'=lo:=rfl
    clear_value lo'
    subst el
    by_cases c1:lo' >=a.size
    · rw[xad c1];obtain rfl:lo'=a.size:=by lia
      exact aW ⟨rfl,S⟩
    rw[xae c1]
    suffices hjp:∀n st,1<=n->lo' + n<=a.size->Sr κ a rk lo' st->Up (vv rk (arrOf st)) lo' (lo' + n)->Ok prog w A E R (jp () n) st _ by
      refine aQ (zcl C (show lo' + (a.size - lo')<=a.size by lia) (by lia) S.b fun m st' m1 m2 B' u' f'=>?_);have S':Sr κ a rk lo' st':=⟨B',by rw[f'.p];exact S.r.same fun k _ k2=>f'.v k k2⟩;show Ok prog w A E R (if m<minrun then _ else jp () m) _ _
      by_cases c3:m<minrun
      · rw[xad c3];refine aQ (yZ (aQ (ze3 C (show lo' + min (a.size - lo') minrun<=a.size by lia) m1 (by lia) B' u' fun st2 B2 u2 f2=>?_)));rw[xae (by simp)];exact hjp _ _ (by lia) (by lia) ⟨B2,by rw[f2.p];exact S'.r.same fun k _ k2=>f2.v k k2⟩ u2
      · rw[xae c3];exact hjp m st' m1 (by lia) S' u'
    intro n st n1 n2 S u;have push:∀st:SortSt,Sr κ a rk lo' st->Up (vv rk (arrOf st)) lo' (lo' + n)->Sr κ a rk (lo' + n) (setPending st ((pendingOf st).push (lo',n,0))):=fun st S u=>by
      refine⟨⟨S.b.kd,S.b.nf,S.b.pm⟩,?_⟩;show Rs _ ((pendingOf st).push (lo',n,0)).toList 0 _;rw[xbn];exact S.r.join ⟨rfl,n1,u,rfl⟩
    refine aQ (pC ?_)
    extract_lets l1 jp2
    suffices hjp2:∀st,Sr κ a rk lo' st->Up (vv rk (arrOf st)) lo' (lo' + n)->Ok prog w A E R (jp2 ()) st _ by
      split
      · rename_i s1 n1' w1 _
        extract_lets pw
        refine aQ (Ok.mono (P:=fun c st=>c=(none,())/\Sr κ a rk lo' st/\Up (vv rk (arrOf st)) lo' (lo' + n)) (gC (fun _ c st=>c=(none,())/\Sr κ a rk lo' st/\Up (vv rk (arrOf st)) lo' (lo' + n)) ⟨rfl,S,u⟩ ?_ fun _ _ h=>h) ?_)
        · rintro y c st y1 y2 ⟨rfl,S,u⟩;refine aQ (pC ?_)
          extract_lets pp
          by_cases c2:pp.size > 1
          · have e2:(if pp.size > 1 then pp[pp.size - 2]? else none)=some pp[pp.size - 2]:=by rw[xad c2,xdG]
            rw[e2]
            split
            · split
              · exact aW ⟨rfl,S,u⟩
              · refine aQ (Uu C S hl (show pp.size - 2 + 1<pp.size by lia) fun st' S' _ f'=>?_);rw[xae (by simp)];refine aW ⟨rfl,S',fun i j h1 h2 h3=>?_⟩;rw[f' i h1,f' j (by lia)];exact u i j h1 h2 h3
            · exact aW ⟨rfl,S,u⟩
          · rw[xae c2];exact aW ⟨rfl,S,u⟩
        · rintro c st ⟨rfl,S,u⟩;refine aQ (yX (hjp2 _ ⟨⟨S.b.kd,S.b.nf,S.b.pm⟩,?_⟩ u));show Rs _ ((pendingOf st).modify _ _).toList 0 _;rw[Array.toList_modify, <-xau];exact S.r.power _
      · exact hjp2 st S u
    exact fun st S u=>aQ (yX (aW ⟨lo' + n,rfl,n2,by lia,push st S u⟩))
  · rintro c st ⟨lo,rfl,hl,hx,S⟩;have e:lo=a.size:=by lia
    subst e;exact⟨rfl,S⟩
  · rintro c st ⟨rfl,S⟩;dsimp only;have h0:=S.r.le;rw[xau]at h0;refine aQ (Ok.mono (P:=fun c st=>c=(none,())/\Sr κ a rk a.size st/\(pendingOf st).size<=1) (gC (fun x c st=>c=(none,())/\Sr κ a rk a.size st/\((pendingOf st).size<=1\/x + (pendingOf st).size<=a.size)) ⟨rfl,S,by lia⟩ ?_ ?_) ?_)
    · rintro x c st x1 x2 ⟨rfl,S,hx⟩;refine aQ (pC ?_)
      by_cases c1:(pendingOf st).size<=1
      · rw[xad c1];exact aW ⟨rfl,S,c1⟩
      rw[xae c1];refine aQ (Uu C S (xaf _) (by(repeat' split)<;>lia) fun st' S' hs _=>?_)
      rw[xae (by simp)];exact aW ⟨rfl,S',.inr (by lia)⟩
    · rintro c st ⟨rfl,S,hx⟩;refine⟨rfl,S,?_⟩;have:=S.r.le;rw[xau]at this;lia
    · rintro c st ⟨rfl,S,h1⟩;exact aW (q st S.b.pm S.b.nf (S.r.up (by simpa using h1)))
end TS
namespace E3
open PySem PySem.Spec PyProof.Rows L2 PySem.W
def Zg {a b:Str}(h:a.cps.toList=b.cps.toList):a=b:=PySem.Str.ext' (xdN.mp h)
noncomputable def lo:D->D->Prop
 |.int i,.int j=>i<j
 |.str a,.str b=>a.cps.toList<b.cps.toList
 |_,_=>False
noncomputable def fl:D->Bool
 |.int _=>true
 |.str _=>true
 |_=>false
def Ey {a:D}(h:lo a a):False:=by
 cases a<;>first |exact h |exact absurd h (Int.lt_irrefl _) |exact xdh _ h
def T8 {a b c:D}(h:lo a b)(g:lo b c):lo a c:=by
 cases a<;>cases b<;>(try exact h.elim)<;>cases c<;>(try exact g.elim)
 ·exact Int.lt_trans h g
 ·exact List.lt_trans h g
def xH {a b:D}{x y:List D}{c:Bool}(h:bY (a::x) (b::y)=some c):(a=b/\fl a=true/\bY x y=some c)\/(lo a b/\c=true)\/(lo b a/\c=false):=by
 cases a<;>cases b<;>(try cases h)
 ·rename_i i j;simp only[bY]at h
  by_cases e:i=j
  ·rw[xad e]at h;exact .inl ⟨by rw[e],rfl,h⟩
  ·rw[xae e]at h
   by_cases g:i<j
   ·rw[xaX g]at h;exact .inr (.inl ⟨g,(xaA h).symm⟩)
   ·rw[xaH g]at h;exact .inr (.inr ⟨show j<i by lia,(xaA h).symm⟩)
 ·rename_i i j;simp only[bY]at h
  by_cases e:i=j
  ·rw[xad e]at h;exact .inl ⟨by rw[e],rfl,h⟩
  ·rw[xae e]at h
   by_cases g:i.cps.toList<j.cps.toList
   ·rw[xaX g]at h;exact .inr (.inl ⟨g,(xaA h).symm⟩)
   ·rw[xaH g]at h;refine .inr (.inr ⟨?_,(xaA h).symm⟩);show j.cps.toList<i.cps.toList
    by_cases k:j.cps.toList<i.cps.toList
    ·exact k
    ·exact absurd (Zg (List.le_antisymm (List.not_lt.mp k) (List.not_lt.mp g))) e
def EY {a b:D}{x y:List D}(h:lo a b):bY (a::x) (b::y)=some true:=by
 cases a<;>cases b<;>(try exact h.elim)
 ·rename_i i j;have h:i<j:=h;simp only[bY];rw[xae (by lia),xaX h]
 ·rename_i i j;have h:i.cps.toList<j.cps.toList:=h;simp only[bY];rw[xae (fun e=>xdh _ (e ▸ h)),xaX h]
def Kl {a b:D}{x y:List D}(h:lo b a):bY (a::x) (b::y)=some false:=by
 cases a<;>cases b<;>(try exact h.elim)
 ·rename_i i j;have h:j<i:=h;simp only[bY];rw[xae (by lia),xaH (by lia)]
 ·rename_i i j;have h:j.cps.toList<i.cps.toList:=h;simp only[bY];rw[xae (fun e=>xdh _ (e ▸ h)),xaH fun g=>xdh _ (List.lt_trans h g)]
def lt_eq {a:D}{x y:List D}(h:fl a=true):bY (a::x) (a::y)=bY x y:=by
 cases a<;>(try cases h)<;>simp only[bY,xbB]
def Km {x:D}{xs:List D}{c:Bool}:bY (x::xs) []=some c->False:=by cases x<;>exact fun h=>nomatch h
def Ud {x:D}{xs:List D}{c:Bool}:bY [] (x::xs)=some c->False:=fun h=>nomatch h
theorem Uc:∀{x:List D} {b:Bool},bY x x=some b->b=false
  | [],b,h=>(xaA h).symm
  |a::x,b,h=>by
    rcases xH h with⟨_,_,h⟩ |⟨h,_⟩ |⟨h,_⟩
    · exact Uc h
    · exact(Ey h).elim
    · exact(Ey h).elim
theorem Kh:∀{x y z:List D} {b:Bool},bY x y=some b->bY y z=some b->bY x z=some b
  | [],[],z,b,_,g=>g
  | [],_::_,_,_,h,_=>(Ud h).elim
  |_::_,[],_,_,h,_=>(Km h).elim
  |_::_,_::_,[],_,_,g=>(Km g).elim
  |a::x,c::y,d::z,b,h,g=>by
    rcases xH h with⟨rfl,f,h'⟩ |⟨h',rfl⟩ |⟨h',rfl⟩
    · rcases xH g with⟨rfl,_,g'⟩ |⟨g',rfl⟩ |⟨g',rfl⟩
      · rw[lt_eq f];exact Kh h' g'
      · exact EY g'
      · exact Kl g'
    · rcases xH g with⟨rfl,_,_⟩ |⟨g',_⟩ |⟨_,e⟩
      · exact EY h'
      · exact EY (T8 h' g')
      · cases e
    · rcases xH g with⟨rfl,_,_⟩ |⟨_,e⟩ |⟨g',_⟩
      · exact Kl h'
      · cases e
      · exact Kl (T8 g' h')
theorem Ub:∀{x y:List D},bY x y=some false->bY y x=some false->x=y
  | [],[],_,_=>rfl
  | [],_::_,h,_=>(Ud h).elim
  |_::_,[],h,_=>(Km h).elim
  |a::x,c::y,h,g=>by
    rcases xH h with⟨rfl,f,h⟩ |⟨_,e⟩ |⟨h,_⟩
    · rw[lt_eq f]at g;rw[Ub h g]
    · cases e
    · rw[EY h]at g;cases g
noncomputable def Cj (T:List (List D)) (x:List D):Nat:=T.countP fun y=>bY y x==some true
theorem Q7 {α:Type}{p q:α->Bool}:∀{l:List α} {x:α},(∀z∈l,p z=true->q z=true)->x∈l->q x=true->p x=false->l.countP p<l.countP q
  |y::l,x,h,hx,h1,h2=>by
    rw[List.countP_cons,List.countP_cons];have mo:l.countP p<=l.countP q:=xd4 fun z hz=>h z (xat _ hz);rcases xaO.mp hx with rfl |hx
    · rw[h1,h2];simp only[xbB,xbx,xbX];lia
    · have ih:=Q7 (fun z hz=>h z (xat _ hz)) hx h1 h2;have:=h y xaT
      by_cases e:p y=true
      · rw[e,this e];lia
      · rw[xae e];lia
def Mp {T:List (List D)}(cm:∀x∈T,∀y∈T,∃b,bY x y=some b){x y:List D}(hx:x∈T)(hy:y∈T){b:Bool}(h:bY x y=some b):b=decide (Cj T x<Cj T y):=by
  cases b with
  |true=>
    refine(xaX (Q7 (x:=x) (fun z _ hz=>?_) hx (by rw[h];rfl) ?_)).symm
    · rw[Kh (eq_of_beq hz) h];rfl
    · obtain⟨c,e⟩:=cm x hx x hx;rw[e,Uc e];rfl
  |false=>
    refine(xaH (xey.mpr (xd4 fun z hz h1=>?_))).symm;obtain⟨c,e⟩:=cm z hz x hx
    cases c with
    |true=>rw[e];rfl
    |false=>
      have:=Kh e h;rw[eq_of_beq h1]at this;cases this
noncomputable def fD:Value->D
 |.int z _=>.int z
 |.str x _=>.str x
 |_=>.non
noncomputable def tD (h:Heap):Value->List D
  | .ref a => (match h.get? a with
    | some o => (match o.data with
      |.seq its _=>its.toList.map fD
      |_=>[])
    |none=>[])
  |_=>[]
section
variable {prog:Program}{w:World}{A:Around}{E:Value->Shared->Prop}{s:Shared}
def zbK {a:Addr}{n:Nat}{vs:List Value}{κ:SortKind}{rv:Value->Nat}{P:PySem.Fin->Shared->Prop}(ho:s.heap.get? a=some (seqObj "list" vs.toArray n))(h2:2<=vs.length)(hz:vs.length<=sizeLine)
  (hk:∀(h':Heap) (Q':SortKind->Shared->Prop),kW a s.heap h'->Q' κ {s with heap:=h'}->wpAny (model prog w) A (keyKind' vs.toArray) Q' (fun _ _=>False) {s with heap:=h'})
  (hc:∀(h':Heap),kW a s.heap h'->∀u∈vs,∀u'∈vs,∀tk C,(∀tk,C (decide (rv u<rv u')) {s with heap:=h',toks:=tk})->wpAny (model prog w) A (keyLt' κ u u') C (fun _ _=>False) {s with heap:=h',toks:=tk})
  (q:∀(h':Heap) tk c (us:List Value),us.Perm vs->us.Pairwise (fun u u'=>rv u<=rv u')->kW a s.heap h'->h'.get? a=some (seqObj "list" us.toArray c)->P (.done (.ret .none)) {s with heap:=h',toks:=tk}):
  wpAny (model prog w) A (Builtin.«list.sort» ⟨[.ref a],[]⟩) P E s:=by
 o_new;have two:¬ vs.toArray.size<2:=by simpa using h2
 rw[xae two,xae two];generalize gW s.heap a vs=h1 at st z2 ⊢;have kind:=hk h1 (fun κ' s'=>κ'=κ/\s'={s with heap:=h1}) st ⟨rfl,rfl⟩;refine xaa (xaU kind (fun κ' s0 z=>?_) fun _ _ x=>x.elim);obtain⟨rfl,rfl⟩:=z;have mz:∀x∈vs.toArray.zip vs.toArray,x.1=x.2/\x.1∈vs:=fun x hx=>by
  have hx:x∈vs.zip vs:=by simpa using xbk.mpr hx
  obtain⟨i,hi,e⟩:=xbG hx;rw[List.getElem_zip]at e;subst e;exact⟨rfl,xaY _⟩
 have run := TS.zdk (prog := prog) (w := w) (A := A) (E := E) (R := fun s' => ∃ tk, s' = { s with heap := h1, toks := tk }) (κ := κ') (a := vs.toArray.zip vs.toArray) (rk := fun x => rv x.1) (fun x y hx hy s' r=>by
  obtain⟨tk,rfl⟩:=r;exact hc h1 st _ (mz x hx).2 _ (mz y hy).2 tk _ fun tk'=>⟨⟨tk',rfl⟩,rfl⟩) (P:=fun _ st'=>(arrOf st').Perm (vs.toArray.zip vs.toArray)/\failedOf st'=none/\TS.Up (TS.vv (fun x=>rv x.1) (arrOf st')) 0 (vs.toArray.zip vs.toArray).size) (fun st' a b c=>⟨a,b,c⟩) {s with heap:=h1} ⟨s.toks,rfl⟩
 refine xaa (xaU run ?_ fun _ _ e=>e);rintro⟨⟨⟩,st'⟩ s' ⟨⟨tk,rfl⟩,hp,hf,hu⟩;dsimp only;have hp2:((arrOf st').toList.map (·.2)).Perm vs:=by
  have e:((vs.toArray.zip vs.toArray).toList.map (·.2))=vs:=by rw[Array.toList_zip];exact List.map_snd_zip (xaf _)
  exact((Array.Perm.toList hp).map _).trans (xdd e)
 have dg:∀x∈(arrOf st').toList,x.1=x.2:=fun x hx=>(mz x (hp.mem_iff.mp (xbk.mp hx))).1;have sz:(vs.toArray.zip vs.toArray).size=(arrOf st').size:=hp.size_eq.symm;have hs2:((arrOf st').toList.map (·.2)).Pairwise fun u u'=>rv u<=rv u':=by
  rw[xdC,xcJ];intro i j hi hj hij;rw[xau]at hi hj;have:=hu i j (xbz _) (by lia) (by lia);rw[TS.dO hi,TS.dO hj]at this;rw[<-dg _ (xaY _), <-dg _ (xaY _)];exact this
 have ea:(arrOf st').map (·.2)=((arrOf st').toList.map (·.2)).toArray:=by
  apply xdN.mp;rw[Array.toList_map]
 rw[ea];generalize (arrOf st').toList.map (·.2)=us at hp2 hs2;have hl:=hp2.length_eq;obtain⟨c2,z3⟩:∃c2,(h1.update a (Obj.mapSeq fun _=>us.toArray)).get? a=some (seqObj "list" us.toArray c2):=⟨_,xc9 z2 fun _=>us.toArray⟩;refine xaa (seqEpoch_at z2 rfl (xaa (xdu z2 rfl ?_ (xbz _) (by rw[xai,hl];exact xdB hz))));rw[hf];simp only[xet,xbx,xbX];exact xak (q _ tk c2 us hp2 hs2 (fun b o nb e=>kW.upd h1 a _ b o nb (st b o nb e)) z3)
def za4 {r:Value}{vs:List Value}{κ:SortKind}{rv:Value->Nat}{Q:Value->Shared->Prop}(hl:Coll prog w A s r vs)(h2:2<=vs.length)(hz:vs.length<=sizeLine)
  (hk:∀(h':Heap) tk (Q':SortKind->Shared->Prop),Grows s.heap h'->Q' κ {s with heap:=h',toks:=tk}->wpAny (model prog w) A.in1.in1 (keyKind' vs.toArray) Q' (fun _ _=>False) {s with heap:=h',toks:=tk})
  (hc:∀(h':Heap),Grows s.heap h'->∀u∈vs,∀u'∈vs,∀tk C,(∀tk,C (decide (rv u<rv u')) {s with heap:=h',toks:=tk})->wpAny (model prog w) A.in1.in1 (keyLt' κ u u') C (fun _ _=>False) {s with heap:=h',toks:=tk})
  (q:∀(h':Heap) tk c a (us:List Value),us.Perm vs->us.Pairwise (fun u u'=>rv u<=rv u')->Grows s.heap h'->s.heap.objs.size<=a->h'.get? a=some (seqObj "list" us.toArray c)->Q (.ref a) {s with heap:=h',toks:=tk}):
  wpAny (model prog w) A (call (.builtin "sorted") [r]) Q E s:=by
 refine xdF kind_sorted plain_sorted entry_sorted (args_sorted1 _) ?_;unfold Builtin.«sorted»;refine xaa (m:=checkCount "sorted" 1 1 _) (xak (xaa (hl _ _ fun h1 t1 g z=>xaa (xdv ?_ hz))));have at0:(h1.push (seqObj "list" vs.toArray 0)).get? h1.objs.size=some (seqObj "list" vs.toArray 0):=xax _ rfl;have up:∀h',kW h1.objs.size (h1.push (seqObj "list" vs.toArray 0)) h'->Grows s.heap h':=fun h' st b o e=>st b o (xaE (xaq (g b o e))) (xac _ (g b o e));refine xaa (xby (xcg slot_list_sort ⟨_,at0,rfl⟩ entry_list_sort (zbK (s:={s with heap:=h1.push (seqObj "list" vs.toArray 0),toks:=t1}) at0 h2 hz (fun h' Q' st=>hk h' t1 Q' (up h' st)) (fun h' st=>hc h' (up h' st)) fun h' tk c us hp hs st e=>?_) (args_list_sort _)));exact⟨_,rfl,xak ⟨_,rfl,q h' tk c _ us hp hs (up h' st) z e⟩⟩
end
noncomputable def tupS:D->Bool
 |.tup (.str _::_)=>true
 |_=>false
noncomputable def t_:D->D->Prop
 |.tup x,.tup y=>bY y x=some false
 |_,_=>False
def mC (ds:List D):Prop:=(ds.all tupI=true\/ds.all tupS=true)/\∀xs ys,.tup xs∈ds->.tup ys∈ds->∃b,bY xs ys=some b
def TX {a b:D}(h:t_ a b)(g:t_ b a):a=b:=by
 cases a<;>(try exact h.elim)<;>cases b<;>(try exact h.elim)
 rw[Ub g h]
theorem mC.tup {ds:List D}(h:mC ds):∀d∈ds,∃xs,d=.tup xs:=fun d hd=>by
 rcases h.1 with h |h<;>have:=xbw.mp h d hd<;>cases d<;>first |exact⟨_,rfl⟩ |(cases this)
def mC.perm {ds es:List D}(h:mC ds)(p:es.Perm ds):mC es:=by
 refine⟨h.1.imp (fun z=>xbw.mpr fun d hd=>xbw.mp z d (p.mem_iff.mp hd)) (fun z=>xbw.mpr fun d hd=>xbw.mp z d (p.mem_iff.mp hd)),fun xs ys hx hy=>h.2 xs ys (p.mem_iff.mp hx) (p.mem_iff.mp hy)⟩
theorem RL:∀{x:List D} {b:Bool},bY x x=some b->∀d∈x,fl d=true
  | [],_,_=>fun d hd=>nomatch hd
  |a::x,b,h=>by
    rcases xH h with⟨_,f,h'⟩ |⟨h',_⟩ |⟨h',_⟩
    · intro d hd;rcases xaO.mp hd with rfl |hd
      · exact f
      · exact RL h' d hd
    · exact(Ey h').elim
    · exact(Ey h').elim
section
variable {X:Cx}{Wx:XW}{pins:Pnx}{σ:L2.St}{H:Hp}{s:Shared}
theorem RB {K:Fgx}{P:Pl}{H:Hp}:∀{xs:List D} {vs:List V} {us:List Value},(∀d∈xs,fl d=true)->aC K P H xs vs->Vals vs us->us.map fD=xs
  | [],vs,us,_,i,r=>by
    rw[show vs=[] from i]at r;cases r;rfl
  |d::xs,vs,us,hf,i,r=>by
    obtain⟨v,vr,rfl,p,i⟩:=i
    cases r with
    |cons a r=>
      have f:=hf d xaT;rw[xaP,RB (fun e he=>hf e (xat _ he)) i r];congr 1;cases d<;>(try cases f)
      · cases p;obtain⟨t,rfl⟩:=a;rfl
      · cases p;obtain⟨t,rfl⟩:=a;rfl
def zgb {P:Pl}(I:Inv X pins σ H s){h':Heap}(g:Grows s.heap h'){xs:List D}{v:V}{u:Value}(i:Is X.K P H (.tup xs) v)(r:RelV v u){b:Bool}(hb:bY xs xs=some b):tD h' u=xs:=by
 obtain⟨a,o,its,n,ws,rfl,e1,e2,e3,is,rv⟩:=GJ I g i r;unfold tD;dsimp only;rw[e1];dsimp only;rw[e3];exact RB (RL hb) is rv
theorem Ov {P:Pl}(I:Inv X pins σ H s){h':Heap}(g:Grows s.heap h'):∀{ds:List D} {vs:List V} {us:List Value},(∀d∈ds,∃xs b,d=.tup xs/\bY xs xs=some b)->aC X.K P H ds vs->Vals vs us->ds=us.map fun u=>.tup (tD h' u)
  | [],vs,us,_,i,r=>by
    rw[show vs=[] from i]at r;cases r;rfl
  |d::ds,vs,us,hf,i,r=>by
    obtain⟨v,vr,rfl,p,i⟩:=i
    cases r with
    |cons a r=>
      obtain⟨xs,b,rfl,hb⟩:=hf d xaT;rw[xaP, <-Ov I g (fun e he=>hf e (xat _ he)) i r,zgb I g p a hb]
def zbQ {K:Fgx}{P:Pl}{H:Hp}{us us':List Value}(p:us'.Perm us):∀{ds:List D} {vs:List V},aC K P H ds vs->Vals vs us->∃ds' vs',ds'.Perm ds/\aC K P H ds' vs'/\Vals vs' us':=by
  induction p with
  |nil=>exact fun {ds vs} i r=>⟨ds,vs,xce _,i,r⟩
  |cons x p ih=>
    intro ds vs i r
    cases r with
    |cons a r=>
      cases ds with
      |nil=>cases i
      |cons d ds=>
        obtain⟨v,vr,e,p,i⟩:=i;cases e;obtain⟨ds',vs',p',i',r'⟩:=ih i r;exact⟨d::ds',_::vs',p'.cons d,⟨_,_,rfl,p,i'⟩,.cons a r'⟩
  |swap x y l=>
    intro ds vs i r
    cases r with
    |cons a r=>
      cases r with
      |cons b r=>
        cases ds with
        |nil=>cases i
        |cons d ds=>
          obtain⟨v,vr,e,p,i⟩:=i;cases e
          cases ds with
          |nil=>cases i
          |cons d2 ds=>
            obtain⟨v2,vr2,e,p2,i⟩:=i;cases e;exact⟨d2::d::ds,_,List.Perm.swap _ _ _,⟨_,_,rfl,p2,_,_,rfl,p,i⟩,.cons b (.cons a r)⟩
  |trans p1 p2 ih1 ih2=>
    intro ds vs i r;obtain⟨ds',vs',p',i',r'⟩:=ih2 i r;obtain⟨ds2,vs2,p3,i3,r3⟩:=ih1 i' r';exact⟨ds2,vs2,p3.trans p',i3,r3⟩
theorem Xz {P:Pl}(I:Inv X pins σ H s){h':Heap}(g:Grows s.heap h'):∀(ds:List D) (vs:List V) (us:List Value),ds.all tupS=true->aC X.K P H ds vs->Vals vs us->∃fs,KatTups h' us fs/\fs.length=us.length/\∀f∈fs,∃i t,f=Value.str i t
  | [],vs,us,_,i,r=>by
    rw[show vs=[] from i]at r;cases r;exact⟨[],KatTups.nil,rfl,fun f h=>nomatch h⟩
  |d::ds,vs,us,hd,i,r=>by
    obtain⟨v,vr,rfl,p,i⟩:=i;rw[xb9,xaD]at hd
    cases r with
    |cons a1 r=>
      obtain⟨fs,k,kl,kf⟩:=Xz I g ds _ _ hd.2 i r
      cases d with
      |tup xs=>
        cases xs with
        |nil=>cases (show false=true from hd.1)
        |cons x xs=>
          cases x with
          |str z=>
            obtain⟨a,o,its,n,ws,rfl,e1,e2,e3,is,rv⟩:=GJ I g p a1;obtain⟨w,wr,rfl,pw,is⟩:=is;cases pw;obtain⟨its⟩:=its
            cases rv with
            |cons b1 rv=>
              obtain⟨t,rfl⟩:=b1;refine⟨.str z t::fs,KatTups.cons e1 e2 e3 rfl k,by simp[kl],fun f hf=>?_⟩;rcases xaO.mp hf with rfl |hf
              · exact⟨z,t,rfl⟩
              · exact kf f hf
          |_=>cases (show false=true from hd.1)
      |_=>cases (show false=true from hd.1)
def zgw (K:Fgx):List V->Hp->VK->Prop:=fun xs H Q=>∃(P:Pl) (a:Addr) (vs:List V) (ds:List D),xs=[.ref a]/\b_ K H a vs/\aC K P H ds vs/\2<=ds.length/\mC ds/\
 ∀l es vs',es.Perm ds->es.Pairwise t_->aC K P H es vs'->H l=none->Q (.ref l) (upd H l (.lst vs'))
def zbY {P:Pl}{vs:List V}{ds:List D}{its:List Value}{r:Value}{Q:VK}(I:Inv X pins σ H s)(cl:Coll X.prog X.w X.A s r its)(rv:Vals vs its)(hz:vs.length<=sizeLine)(is:aC X.K P H ds vs)(h2:2<=ds.length)(ok:mC ds)
  (q:∀l es vs',es.Perm ds->es.Pairwise t_->aC X.K P H es vs'->H l=none->Q (.ref l) (upd H l (.lst vs'))):wpAny (model X.prog X.w) X.A (call (.builtin "sorted") [r]) (EP X pins σ Q) X.xe s:=by
 have l1:its.length=ds.length:=by rw[<-rv.length,is.len]
 have fla:∀d∈ds,∃xs b,d=.tup xs/\bY xs xs=some b:=fun d hd=>by
  obtain⟨xs,rfl⟩:=ok.tup d hd;obtain⟨b,hb⟩:=ok.2 xs xs hd hd;exact⟨xs,b,rfl,hb⟩
 have g0:Grows s.heap s.heap:=fun _ _ e=>e;have e0:=Ov I g0 fla is rv;generalize hT:its.map (tD s.heap)=T;have inT:∀{u},u∈its->tD s.heap u∈T:=fun hu=>by rw[<-hT];exact xbW hu
 have ofT:∀x∈T,D.tup x∈ds:=fun x hx=>by
  rw[<-hT]at hx;obtain⟨u,hu,rfl⟩:=xa5.mp hx;rw[e0];exact xbW (f:=fun u=>D.tup (tD s.heap u)) hu
 have cm:∀x∈T,∀y∈T,∃b,bY x y=some b:=fun x hx y hy=>ok.2 x y (ofT x hx) (ofT y hy);have item:∀{h':Heap},Grows s.heap h'->∀u∈its,∃a o t n w,u=.ref a/\h'.get? a=some o/\o.data=.seq t n/\aC X.K P H (tD s.heap u) w/\Vals w t.toList:=fun {h'} g u hu=>by
  obtain⟨i,hi,rfl⟩:=xbG hu;have ed:ds[i]? =some (.tup (tD s.heap its[i])):=by rw[e0,xam,xab hi];rfl
  obtain⟨v,ev,iv⟩:=is.get ed;have rr:RelV v its[i]:=by
   have:=zcd rv i;rw[xav,xav,ev,xab hi]at this;exact this
  obtain⟨a1,o1,t1,n1,w1,e1,f1,f2,f3,f4,f5⟩:=GJ I g iv rr;exact⟨a1,o1,t1,n1,w1,e1,f1,f3,f4,f5⟩
 refine za4 (κ:=tuples' true) (rv:=fun u=>Cj T (tD s.heap u)) cl (by lia) (by rw[<-rv.length];exact hz) (fun h' tk Q' g hq=>?_) (fun h' g u hu u' hu' tk C hC=>?_) fun h' tk c D' us hp hs g hD eD=>?_
 ·rcases ok.1 with ht |ht
  ·obtain ⟨fs, k, kl, kf⟩ := Xy I g ds vs its ht is rv;exact kat_kind (T := .type "int") k (by lia) (fun f hf=>by
    obtain⟨i,t,rfl⟩:=kf f hf;intro A Q E s _ q;exact xak q) (by x_go) hq
  ·obtain ⟨fs, k, kl, kf⟩ := Xz I g ds vs its ht is rv;exact kat_kind (T := .type "str") k (by lia) (fun f hf=>by
    obtain⟨i,t,rfl⟩:=kf f hf;intro A Q E s _ q;exact xak q) (by x_go) hq
 ·obtain⟨b,hb⟩:=cm _ (inT hu) _ (inT hu');have eb:=Mp cm (inT hu) (inT hu') hb;obtain⟨a1,o1,t1,n1,w1,e1,f1,f3,f4,f5⟩:=item g u hu;obtain⟨a2,o2,t2,n2,w2,e2,g1,g3,g4,g5⟩:=item g u' hu';generalize tD s.heap u=x at hb eb f4 hC;generalize tD s.heap u'=y at hb eb g4 hC;rw[e1,e2];refine kat_lt (s:={s with heap:=h',toks:=tk}) f1 f3 g1 g3 (T5 (b:=b) (by rw[eb];exact hC tk) x y w1 w2 _ _ 0 f4 g4 f5 g5 hb fun z=>?_);simp only[xau]at z
  simp[z]
 ·obtain⟨es,vs',p',i',r'⟩:=zbQ hp is rv;have ok':=ok.perm p';have e1:=Ov I g0 (fun d hd=>fla d (p'.mem_iff.mp hd)) i' r';have hsd:es.Pairwise t_:=by
   rw[e1,xdC];refine hs.imp_of_mem fun {u u'} hu hu' hle=>?_;have m1:=inT (hp.mem_iff.mp hu);have m2:=inT (hp.mem_iff.mp hu');obtain⟨b,hb⟩:=cm _ m2 _ m1;have eb:=Mp cm m2 m1 hb;rw[xaH (xey.mpr hle)]at eb;rw[eb]at hb;exact hb
  have hlen:vs'.length<=sizeLine:=by
   rw[i'.len,p'.length_eq, <-is.len];exact hz
  exact⟨.ref D',_,I.laid (o:=.lst vs') g hD ⟨hlen,_,c,r',eD⟩,rfl,q D' es vs' p' hsd i' (I.hok.fresh hD)⟩
def YZ:dB X (.builtin "sorted") (zgw X.K):=by
 kj_one;obtain⟨P,a,vs,ds,rfl,hl,is,h2,ok,q⟩:=h;o_norm;obtain⟨its,rv,pl,hz⟩:=I.list hl;exact zbY I (QT pl.isList (by rw[<-rv.length];exact hz)) rv hz is h2 ok q
noncomputable def mG (ds:List D):Option (List D):=if ds.length<2 then some ds else @dite _ (mC ds/\∃es:List D,es.Perm ds/\es.Pairwise t_) (Classical.propDecidable _) (fun h=>some (Classical.choose h.2)) fun _=>none
noncomputable def pH (f:E):E:=fun env M=>bnd (f env M) fun d M1=>match vw M1 d with
 |.lst ds=>(mG ds).map fun es=>(.v (.lst es),M1)
 |_=>none
def Gn {e:Expr}{f:E}{p pos:Pos}(hg:Gl X "sorted")(hm:X.mg "sorted"=none)(he:SE X Wx .bor e f)(hs:starEach [e] X.env=(false,eval e X.env)::starEach [] X.env:=by rfl):SN X Wx (.Call (.Name "sorted" p) [e] [] pos) (pH f):=by
 refine cD (La (YL.or YZ) hg hm boot_sorted (pF he rY hs) (by x_go) (by x_go) hs rfl) ?_;k_go;unfold pH at e;by_in
 ·k_acc1;have iw:=dD.vw h1 i1;kjx_on
  ·rename_i ds ev;rw[xaj]at e;obtain⟨es,ez,e⟩:=e;cases e;obtain⟨ds',e',q⟩:=q;cases e';rw[ev]at iw;obtain⟨a,vs,rfl,sq,is⟩:=iw;have fin:∀ws,aC X.K P1 H1 es ws->∀l,H1 l=none->Q (.ref l) (upd H1 l (.lst ws)):=fun ws iws l hl=>by
    obtain⟨l2,h2,nc⟩:=yG (vs:=ws) h1 hl;exact q (P1.bar l) l ws _ (l1.trans l2) h2 (l1.sure l hl) (.inr rfl) nc cu (aC.lt (l2.lt h1) iws)
   unfold mG at ez;split at ez
   ·rename_i hlt;cases ez;exact .inl ⟨a,vs,rfl,sq,by rw[is.len];exact hlt,fin vs is⟩
   ·split at ez
    ·rename_i h2 h3;have sp:=xd5 h3.2;rw[xaA ez]at sp;refine .inr ⟨P1,a,vs,ds,rfl,sq,is,by lia,h3.1,fun l es' vs' p' s' i' hl=>?_⟩;have ee:es'=es:=xdR (fun a b _ _=>TX) s' sp.2 (p'.trans sp.1.symm);subst ee;exact fin vs' i' l hl
    ·cases ez
  ·cases e
 ·tb_src
def Gp {ds:List D}(h:mC ds):∃es,mG ds=some es/\es.Perm ds/\es.Pairwise t_:=by
  unfold mG
  split
  · rename_i h2;refine⟨ds,rfl,xce _,?_⟩
    match ds,h2 with
    | [],_=>exact .nil
    | [d],_=>exact List.pairwise_singleton _ _
  · let un:D->List D:=fun d=>match d with |.tup x=>x |_=>[]
    have hun:∀d∈ds,d=.tup (un d):=fun d hd=>by
      obtain⟨xs,rfl⟩:=h.tup d hd;rfl
    have cm:∀x∈ds.map un,∀y∈ds.map un,∃b,bY x y=some b:=fun x hx y hy=>by
      obtain⟨d,hd,rfl⟩:=xa5.mp hx;obtain⟨e,he,rfl⟩:=xa5.mp hy;exact h.2 _ _ (hun d hd ▸ hd) (hun e he ▸ he)
    let le:D->D->Bool:=fun a b=>decide (Cj (ds.map un) (un a)<=Cj (ds.map un) (un b))
    have hp := List.mergeSort_perm ds le;have hs := List.pairwise_mergeSort (le := le) (fun a b c h1 h2 => xaX (xar (xcP h1) (xcP h2))) (fun a b=>by
      simp only[le,Bool.or_eq_true,xcs];exact Nat.le_total _ _) ds
    have ex : ∃ es : List D, es.Perm ds /\ es.Pairwise t_ := ⟨_,hp,hs.imp_of_mem fun {a b} ha hb hle=>by
      have m1:=hp.mem_iff.mp ha;have m2:=hp.mem_iff.mp hb;obtain⟨c,hc⟩:=cm _ (xbW m2) _ (xbW m1);have ec:=Mp cm (xbW m2) (xbW m1) hc;rw[xaH (xey.mpr (xcP hle))]at ec;rw[ec]at hc;rw[hun a m1,hun b m2];exact hc⟩
    rw[dif_pos ⟨h,ex⟩];exact⟨_,rfl,xd5 ex⟩
def zcs {ds es:List D}(h:mC ds)(p:es.Perm ds):mG es=mG ds:=by
 obtain⟨a,ea,pa,sa⟩:=Gp h;obtain⟨b,eb,pb,sb⟩:=Gp (h.perm p);rw[ea,eb,xdR (fun a b _ _=>TX) sb sa (pb.trans (p.trans pa.symm))]
def Gq {f:E}:∀env M r M',pH f env M=some (.v r,M')->∃ds,r=.lst ds:=fun env M r M' e=>by
 unfold pH at e;rcases cA e with⟨ds,M1,e1,e⟩ |⟨c,n,e1,e⟩
 ·kjx_on
  ·rw[xaj]at e;obtain⟨es,_,e⟩:=e;cases e;exact⟨_,rfl⟩
  ·cases e
 ·cases e
end
end E3
namespace L2
open PySem PySem.Spec PyProof.Rows
end L2
namespace E3
open PySem PySem.Spec PyProof.Rows L2 PySem.W
structure DefAtD (K:Fgx)(mg:Mgx)(x:Str)(st:Stmt)(ps:List Str)(dd:List D)(f:Addr)(fd:FuncData):Prop where
 mg:mg x=some (.ref f)
 F:FunD K x x st f fd
 b:Binds K fd ps []
 bd:∃(dv:List V) (du:List Value),Binds K fd ps du/\Vals dv du/\(∀P H,aC K P H dd dv)/\dv.length=dd.length
section
variable {M:Mm}{env:Env}{f:E}{fs:EA}{ds es:List D}
noncomputable def yp (M:Mm):D->O
 |.lst ds=>mapR M ((mG ds).map .lst)
 |_=>none
theorem zec:pH f env M=eG (fun d M1=>yp M1 (vw M1 d)) (f env M):=by
  unfold pH eG bnd
  cases f env M with
  |none=>rfl
  |some p=>obtain⟨r,M'⟩:=p;cases r with
    |x c n=>rfl
    |v d=>
      dsimp only;unfold yp;cases vw M' d<;>try rfl
      dsimp only;cases mG _<;>rfl
theorem FQ (h:mG ds=some es):yp M (.lst ds)=some (.v (.lst es),M):=by show mapR M ((mG ds).map D.lst)=_;rw[h];rfl
end
end E3
namespace L2
open PySem PySem.Spec PyProof.Rows
noncomputable def lG (K : Fgx) (C f : Addr) (me : Str) : Bool := PySem.W.specialIn K (.ref C) "__getattribute__" == some (some (.builtin "type.__getattribute__")) && (match PySem.W.typeIn K (.ref C) with
  | some mc => PySem.W.readsIn K C mc && (match PySem.W.findCls K (.ref C) mc me with
    |some (.val (.ref g))=>g==f
    |_=>false)
  |none=>false) && PySem.W.handedIn (.ref f) && PySem.W.keepIn K (.ref f)
section
variable {X:Cx}{Wx:XK}{x me:Str}{C f:Addr}{CX:Prop}{k:Nat}{fd:FuncData}{ps:List Str}{ds:List Value}{dvs:List V}{e:Expr}{es:List Expr}{t:TA}{np apos pos:Pos}{pl:Sem Bool}
def YG {A:Around}{E:Value->Shared->Prop}{s:Shared}{K:Fgx}{prog:Program}{w:World}{Q:Value×List Value->Shared->Prop}(hb:lG K C f me=true)(kx:K.In s.heap)(h:Q (.ref f,[]) {s with toks:=s.toks + 1}):wpAny (model prog w) A (getMethod (.ref C) me pl) Q E s:=by
 unfold lG at hb;simp only[xaD]at hb;obtain⟨⟨⟨h1,h2⟩,h3⟩,_⟩:=hb;split at h2
 ·rename_i mc _;obtain⟨h4,h5⟩:=xdc.mp h2;split at h5
  ·rename_i g eg;have:=xbP.mp h5;subst this;exact PySem.W.method_cls kx (xbP.mp h1) (PySem.W.cls_value kx h4 eg h3 h)
  ·cases h5
 ·cases h2
end
end L2
namespace E3
open PySem PySem.Spec PyProof.Rows L2
def nF (P:Program)(w:World)(K:Fgx)(mg:Mgx)(base:Heap)(k:Nat)(c me:Str)(n:Nat)(g:G):Prop:=
 ∃C fa fd ps ds dvs sp,mg c=some (.ref C)/\lG K C fa me=true/\FnOk P w K mg base fP k fa fd ps sp/\Binds K fd ps ds/\Vals dvs ds/\∀vs H Q E,nu K mg n g vs H Q E->sp (vs ++ dvs) H Q E
theorem nF.mono {P:Program}{w:World}{K:Fgx}{mg:Mgx}{base:Heap}{c me:Str}{k j n:Nat}{g:G}(a:nF P w K mg base j c me n g)(h:j<=k):nF P w K mg base k c me n g:=by
 obtain⟨C,fa,fd,ps,ds,dvs,sp,h1,h2,h3,h4⟩:=a;exact⟨C,fa,fd,ps,ds,dvs,sp,h1,h2,h3.mono h,h4⟩
def nF.up {P:Program}{w:World}{K:Fgx}{mg:Mgx}{base:Heap}{c me:Str}{k j n:Nat}{g:G}(a:nF P w K mg base j c me n g)(h:j<=k:=by decide):nF P w K mg base k c me n g:=a.mono h
section
variable {X:Cx}{Wx:XW}{m:Mode}
def zc3 {k n:Nat}{c me:Str}{g:G}{e:Expr}{es:List Expr}{fs:EA}{np apos pos:Pos}{pl:Sem Bool}(a:nF X.prog X.w X.K X.mg X.base k c me n g)(hr:Room k X.A)(hg:Gl X c)(ha:SA X Wx .val (e::es) fs)(hn:nJ n fs)(hdb:(c==("__debug__":Str))=false:=by x_go)
  (he:starEach (e::es) X.env=(false,eval e X.env)::starEach es X.env:=by rfl) (hpl:(backTo pos (starEach es X.env)).any (·.1)=false:=by rfl)
  (ht : eval (.Call (.Attribute (.Name c np) me apos) (e :: es) [] pos) X.env = (do
   let ov <-eval (.Name c np) X.env
   standAt apos.atName
   let (f,first) <-holding [ov] (getMethod ov me pl)
   callWith pos f first (backTo pos (starEach (e::es) X.env)) (backToKw pos (keywordEach [] X.env))):=by rfl):SE X Wx m (.Call (.Attribute (.Name c np) me apos) (e::es) [] pos) (bQ g fs):=by
 obtain⟨C,fa,fd,ps,ds,dvs,sp,hm,hbs,F,hb,hv,himp⟩:=a;have hk:PySem.W.keepIn X.K (.ref fa)=true:=by
  unfold lG at hbs;simp only[xaD]at hbs;exact hbs.2
 have pb:PE X (.Call (.Attribute (.Name c np) me apos) (e::es) [] pos) (Xk sp dvs E0 (Xj X.K X.mg Wx .val fs)):=by
  sr_in;refine xb7 (pl:=pl) (tZ I hg hm (YG hbs I.kIn ?_) hdb) ht;have I1:=I.tok (s.toks + 1);refine xb4 (first:=[]) (h₀:=X.base) I.ok.mod.kin hk (aU (ha pos pins _ σ H _ I1 h) fun us s1 ⟨vs,H1,I1,r,q⟩=>⟨I1.kIn,?_⟩) he hpl
  exact FT F hr hb hv BL I1 r q
 refine cD pb ?_;k_go;unfold bQ at e;kt_str
 ·kjx_on
  ·o_inst
  ·cases e
 ·kj_on
def zbr {pins:Pnx}{σ:L2.St}{H:Hp}{s:Shared}{a C dx:Addr}{gs:List (Str×V)}{f:Str}{v:V}{A:Around}{E:Value->Shared->Prop}{pl:Sem Bool}{Q:Value×List Value->Shared->Prop}(I:Inv X pins σ H s)(e:H a=some (.ins C dx gs))(c:Cls X.K C)(n:gq X.K C f)(l:gs.lookup f=some v)
  (h:∀u s',Inv X pins σ H s'->RelV v u->Q (u,[]) s'):wpAny (model X.prog X.w) A (getMethod (.ref a) f pl) Q E s:=by
 obtain⟨mA,O,r,_,_,_⟩:=Av I.hok e;obtain⟨od,J,hl⟩:=O.look;exact PySem.W.method_usual (r:=none) I.kIn J (xcj (c.get f)).1 (xcj (c.get f)).2 n rfl (R5 I e c n l h)
def WQ {k n:Nat}{c fl:Str}{C:Addr}{o:Expr}{fo:E}{i:FnT}{g:G}{e:Expr}{es:List Expr}{fs:EA}{apos pos:Pos}{pl:Sem Bool}(hc:ClsOk X.K X.mg c C)(hna:gq X.K C fl)(a:kI X.prog X.w X.K X.mg X.base k i n g)(hr:Room k X.A)(ho:SE X Wx .val o fo)(ha:SA X Wx .val (e::es) fs)(hn:nJ n fs)
    (he:starEach (e::es) X.env=(false,eval e X.env)::starEach es X.env:=by rfl) (hpl:(backTo pos (starEach es X.env)).any (·.1)=false:=by rfl)
    (ht : eval (.Call (.Attribute o fl apos) (e :: es) [] pos) X.env = (do
      let ov <-eval o X.env
      standAt apos.atName
      let (f,first) <-holding [ov] (getMethod ov fl pl)
      callWith pos f first (backTo pos (starEach (e::es) X.env)) (backToKw pos (keywordEach [] X.env))):=by rfl):SE X Wx m (.Call (.Attribute o fl apos) (e::es) [] pos) (iB i g (bw c fl fo) fs):=by
  intro pins s σ H Q I hh;obtain⟨P0,H0,P,Os,env,M,r,M',k,e,q⟩:=hh;unfold iB at e;rcases cA e with⟨d,M1,e1,e3⟩ |⟨c',n',e1,rfl⟩
  · clear e;unfold bw at e1;rcases cA e1 with⟨d0,M0,e0,e1⟩ |⟨c',n',e0,e1⟩
    · split at e1
      · rename_i j gs eo;rw[xaj]at e1;obtain⟨z,ez,e1⟩:=e1;cases e1;obtain⟨rfl,em0⟩:=Bv eo;split at e3
        · rename_i kk;split at e3
          · rename_i i' caps em;split at e3
            · rename_i hi;subst hi;refine xb7 (pl:=pl) (aU (ho pins s σ H (fun v H1=>∃P1,LtE P H P1 H1/\Hk X.K X.mg P1 H1 M1/\Is X.K P1 H1 (.ref j) v) I ⟨P0,H0,P,Os,env,M,_,_,k,e0,fun P1 v H1 l h i=>⟨P1,l,h,i⟩⟩) fun u s1 h1=>?_) ht;obtain⟨v,H1,I1,rv,P1,l1,h1,jl,rfl⟩:=h1;obtain rfl:u=Value.ref (P1.io j):=rv;obtain⟨C',dx,vs0,ec,eh,en,is⟩:=h1.cell j _ em0;have eC:C'=C:=by
                have:=ec.symm.trans hc.mg;cases this;rfl
              subst eC;obtain⟨v,ev,iv⟩:=Jr ⟨en,is⟩ ez;obtain⟨kl,rfl⟩:kk<P1.n/\v=.ref (P1.io kk):=iv;refine zbr I1 eh hc.cl hna ev fun u s1 I1 ru=>?_;obtain rfl:u=Value.ref (P1.io kk):=ru;have fc:nM X.K X.mg P1 H1 (P1.io kk) i' caps:=h1.cell kk _ em;have fat:∀{s2:Shared} {H2:Hp},Inv X pins σ H2 s2->(∀b o u,H1 b=some (.frz o u)->H2 b=some (.frz o u))->PySem.W.FnAt (P1.io kk) s2.heap:=fun {s2 H2} J sm=>by
                obtain⟨cl,dV,doc,ctv,c,cvs,g1,_⟩:=fc;exact⟨_,_,_,_,(J.hok _ _ (sm _ _ _ g1)).1⟩
              have k1:=k.next l1 h1
              rcases mU e3 with⟨ds,M2,e2,e4⟩ |⟨c,n',e2,rfl⟩
              · split at e4
                · k_one
                  cases r with
                  |error e=>exact False.elim hq
                  |ok fl=>
                    cases fl with
                    |ret u=>exact I2.after hq
                    |next=>exact False.elim hq
                    |brk=>exact False.elim hq
                    |cont=>exact False.elim hq
                · cases e4
              · refine xcL (fat I1 fun _ _ _ z=>z) (aU (ha pos pins s1 σ H1 (fun _ _=>False) I1 ⟨P0,H0,P1,Os,env,M1,_,_,k1,e2,q⟩) fun us s2 h2=>?_) he hpl;obtain⟨_,_,_,_,z⟩:=h2;exact z.elim
            · cases e3
          · cases e3
        · cases e3
      · cases e1
    · cases e1
  · unfold bw at e1;rcases cA e1 with⟨d0,M0,e0,e1⟩ |⟨c',n',e0,e1⟩
    · split at e1
      · rw[xaj]at e1;obtain⟨z,ez,e1⟩:=e1;cases e1
      · cases e1
    · cases e1;refine xb7 (pl:=pl) (aU (ho pins s σ H (fun _ _=>False) I ⟨P0,H0,P,Os,env,M,_,_,k,e0,q⟩) fun u s1 h1=>?_) ht;obtain⟨_,_,_,_,z⟩:=h1;exact z.elim
end
structure BasAt (K:Fgx)(C:Addr)(q:Str)(st:Stmt)(ps:List Str)(f:Addr)(fd:FuncData):Prop where
 bs:lG K C f "__init__"=true
 F:FunD K "__init__" q st f fd
 b:Binds K fd ps []
def BasAt.ok {P:Program}{w:World}{K:Fgx}{mg:Mgx}{base:Heap}{k:Nat}{c:Str}{C:Addr}{q:Str}{st:Stmt}{f:Addr}{fd:FuncData}{N ps:List Str}{b:S}(D:BasAt K C q st ps f fd)(hm:mg c=some (.ref C))(S:FnScope N ps (aL st))(hr:RT P w K mg base k f N q st b)(hp:ps.length<=N.length:=by decide):nF P w K mg base (k + 1) c "__init__" ps.length (bA N.length b):=
 ⟨C,f,fd,ps,[],[],_,hm,D.bs,yJ D.F S hp hr,D.b,.nil,fun vs H Q E h=>by rw[xas];exact h⟩
section
variable {X:Cx}{Wx:XW}{m:Mode}{pos:Pos}
noncomputable def bL (f g:E):E:=fun env M=>match f env M with
 |some x=>some x
 |none=>g env M
def alt_1 {f g:E}{env:Env}{M:Mm}{x:Res×Mm}(h:f env M=some x):bL f g env M=some x:=by unfold bL;rw[h]
def alt_2 {f g:E}{env:Env}{M:Mm}(h:f env M=none):bL f g env M=g env M:=by unfold bL;rw[h]
def Cz {e:Expr}{f g:E}(h1:SE X Wx m e f)(h2:SE X Wx m e g):SE X Wx m e (bL f g):=by
  rintro pins s σ H Q I ⟨P0,H0,P,Os,env,M,r,M',k,e,q⟩
  cases ef:f env M with
  |some x=>
    rw[alt_1 ef]at e;cases e;exact h1 pins s σ H Q I (aX k ef q)
  |none=>
    rw[alt_2 ef]at e;exact h2 pins s σ H Q I (aX k e q)
def xJ {c c' me:Str}{g:G}{o:E}{fs:EA}{env:Env}{M M1:Mm}{k:Nat}{gs:List (Str×D)}(ho:o env M=some (.v (.ref k),M1))(hk:M1[k]? =some (.obj c' gs))(hc:c'≠c):aP c me g o fs env M=none:=by
 unfold aP;rw [ho];show (match pB M1 c (.ref k) with
  |some (_,gs)=>_
  |none=>none)=none
 have:pB M1 c (.ref k)=none:=by
  unfold pB;dsimp only;rw[hk];exact xae hc
 rw[this]
structure OwnTo (K:Fgx)(C B:Addr):Prop where
 ca:PySem.W.findIn K (.ref C) "__class__"=some (some (.builtin "object.__class__"))
 gt:PySem.W.specialIn K (.builtin "object.__class__") "__get__"=some (some (.builtin "getset_descriptor.__get__"))
 tk:PySem.W.takesIn K (.builtin "object.__class__")=some true
 mr:PySem.W.mroIn K C (.type "object")=some true
 me:PySem.W.kitOne K (.ref C) (.ref B)=some true
end
end E3
namespace L2
open PySem PySem.Spec PyProof.Rows
end L2
namespace E3
open PySem PySem.Spec PyProof.Rows L2
end E3
namespace L2
open PySem PySem.Spec PyProof.Rows
end L2
namespace E3
open PySem PySem.Spec PyProof.Rows L2
end E3
namespace L2
open PySem PySem.Spec PyProof.Rows
end L2
namespace E3
open PySem PySem.Spec PyProof.Rows L2
section
variable {P:Program}{w:World}{K:Fgx}{base:Heap}{mg:Mgx}{k:Nat}{C:Addr}{x q:Str}{st:Stmt}{N ps:List Str}{b:S}
inductive MAt (K:Fgx)(C:Addr)(x q:Str)(st:Stmt):Prop
 |mk {f:Addr} {oc kV dc pm cd ct:Value} {od an:Option Addr} {sl:Array (Option Value)} (a:PySem.W.findIn K (.ref C) x=some (some (.ref f))) (l:K.lookup f=some ⟨oc,od,.func (PySem.W.fnOf x q (dh st) (cB st) (aL st) .none kV dc pm an cd ct),sl⟩) (c:PySem.W.codeIn K cd q=true) (k:PySem.W.keepIn K (.ref f)=true) (n:PySem.W.isFn K (.ref f)=true):MAt K C x q st
abbrev Dq (K:Fgx)(C:Addr)(q:Str)(st:Stmt):Prop:=MAt K C "__init__" q st/\PySem.W.makesIn K C=true/\PySem.W.keepIn K (.ref C)=true
abbrev HM (x q:Str)(st:Stmt)(ps:List Str):Prop:=∀(kV doc pm:Value) (an:Option Addr) (cdv ct:Value) (us:List Value),us.length=ps.length->bindArgs (PySem.W.fnOf x q (dh st) (cB st) (aL st) .none kV doc pm an cdv ct) ⟨us,[]⟩=pure (ps.zip us)
def MAt.at (F:MAt K C x q st)(hb:HM x q st ps):∃f fd,Meth K C x f/\PySem.W.findIn K (.ref C) x=some (some (.ref f))/\PySem.W.isFn K (.ref f)=true/\FunD K x q st f fd/\Binds K fd ps []:=by
 obtain⟨a,l,c,k,n⟩:=F;exact⟨_,_,⟨a,n,k⟩,a,n,Ab l c k,(Em (st:=st) l c k).binds hb⟩
def MAt.ok (F:MAt K C x q st)(S:FnScope N ps (aL st))(hr:∀f,RT P w K mg base k f N q st b)
  (hb:HM x q st ps:=by first |exact fun _ _ _ _ _ _ us hl=>(match us,hl with | [_],_=>rfl) |exact fun _ _ _ _ _ _ us hl=>(match us,hl with | [_,_],_=>rfl) |exact fun _ _ _ _ _ _ us hl=>(match us,hl with | [_,_,_],_=>rfl) |exact fun _ _ _ _ _ _ us hl=>(match us,hl with | [_,_,_,_],_=>rfl))
  (hp:ps.length<=N.length:=by decide):bJ P w K mg base (k + 1) C x ps.length (bA N.length b):=by
 obtain⟨f,fd,M,_,_,D,B⟩:=F.at hb;exact⟨_,_,_,M,yJ D S hp (hr f),B⟩
def JQ (F:Dq K C q st)(S:FnScope N ps (aL st))(hr:∀f,RT P w K mg base k f N q st b)
  (hb:HM "__init__" q st ps:=by first |exact fun _ _ _ _ _ _ us hl=>(match us,hl with | [_],_=>rfl) |exact fun _ _ _ _ _ _ us hl=>(match us,hl with | [_,_],_=>rfl) |exact fun _ _ _ _ _ _ us hl=>(match us,hl with | [_,_,_],_=>rfl))
  (hp:ps.length<=N.length:=by decide):kJ P w K mg base (k + 1) C ps.length (bA N.length b):=by
 obtain⟨f,fd,_,a,n,D,B⟩:=F.1.at hb;exact⟨_,_,_,⟨F.2.1,a,n,F.2.2⟩,yJ D S hp (hr f),B⟩
end
end E3
namespace My
open PySem PySem.Spec PyProof.Rows L2 E3
noncomputable def kE:List (Str×D):=[("+",(.tup [(.str "number"),(.str "number"),(.int 2)])),("-",(.tup [(.str "number"),(.str "number"),(.int 2)])),("*",(.tup [(.str "number"),(.str "number"),(.int 2)])),("least",(.tup [(.str "number"),(.str "number"),(.int 2)])),("most",(.tup [(.str "number"),(.str "number"),(.int 2)])),("<",(.tup [(.str "truth"),(.str "number"),(.int 2)])),("=",(.tup [(.str "truth"),(.str "number"),(.int 2)])),("not",(.tup [(.str "truth"),(.str "truth"),(.int 1)])),("and",(.tup [(.str "truth"),(.str "truth"),(.int 2)])),("or",(.tup [(.str "truth"),(.str "truth"),(.int 2)]))]
noncomputable def top (i:Nat):Stmt:=PySem.Challenge.pw_rowdam_k46_two_orders.main.body.getD i (.Pass ⟨0,0,0,0⟩)
noncomputable def wF:List Str:=["any","len","min","max","range","reversed","int","str","sum","list","isinstance","sorted","tuple","abs"]
noncomputable def dZ (s:Stmt) (j:Nat):Stmt:=match s with
 |.ClassDef _ _ _ body _ _ _ _ _ _ _=>body.getD j s
 |_=>s
structure Ad where
 Expr:Addr
 JoinStation:Addr
 PourStation:Addr
 Station:Addr
 DamError:Addr
 NoExpr:Addr
structure Txt (K:Fgx)(mg:Mgx)(C:Ad)(w:World):Prop where
 blt:∀b∈wF,mg b=none
 cl_Expr:ClsOk K mg "Expr" C.Expr
 cl_JoinStation:ClsOk K mg "JoinStation" C.JoinStation
 cl_PourStation:ClsOk K mg "PourStation" C.PourStation
 cl_Station:ClsOk K mg "Station" C.Station
 na_JoinStation_kept:gq K C.JoinStation "kept"
 na_PourStation_marks:gq K C.PourStation "marks"
 na_JoinStation_marks:gq K C.JoinStation "marks"
 na_JoinStation_pair:gq K C.JoinStation "pair"
 na_Expr_parts:gq K C.Expr "parts"
 na_JoinStation_span:gq K C.JoinStation "span"
 xm_DamError:mg "DamError"=some (.ref C.DamError)
 xc_DamError:dX K C.DamError=true
 xm_NoExpr:mg "NoExpr"=some (.ref C.NoExpr)
 xc_NoExpr:dX K C.NoExpr=true
 tb_change_of:∃c P,PySem.W.tabIn K "change_of"=some (c,P)/\PySem.W.codeHdIn K c P=true
 tb_pairer_of:∃c P,PySem.W.tabIn K "pairer_of"=some (c,P)/\PySem.W.codeHdIn K c P=true
 xn_NoExpr:Dp K C.NoExpr=true
 xk_NoExpr:PySem.W.keepIn K (.ref C.NoExpr)=true
 xs_NoExpr:GX K C.NoExpr=true
 k_ALL_LETTERS:∃a,mg "ALL_LETTERS"=some (.ref a)/\∀P H,Is K P H (.tup [(.str "t"),(.str "v"),(.str "w")]) (.ref a)
 k_NEEDS:∃a,mg "NEEDS"=some (.ref a)/\KTab K w a kE
 k_FIGURES:∃t,mg "FIGURES"=some (.str "0123456789" t)
 k_MOST_FIGURES:∃t,mg "MOST_FIGURES"=some (.int 20 t)
 k_MOST_VALUE:∃t,mg "MOST_VALUE"=some (.int 1000000000000000000000000000000000000000000000000000000000000 t)
 k_LAST:∃t,mg "LAST"=some (.int 1000000000000000 t)
 k_LETTERS:∃t,mg "LETTERS"=some (.str "abcdefghijklmnopqrstuvwxyz" t)
 k_COND_LETTERS:∃t,mg "COND_LETTERS"=some (.str "tv" t)
structure MetAt (K:Fgx)(C:Addr)(x q:Str)(st:Stmt)(ps:List Str)(f:Addr)(fd:FuncData):Prop where
 M:Meth K C x f
 F:FunD K x q st f fd
 b:Binds K fd ps []
structure IniAt (K:Fgx)(C:Addr)(q:Str)(st:Stmt)(ps:List Str)(f:Addr)(fd:FuncData):Prop where
 M:Mk K C f
 F:FunD K "__init__" q st f fd
 b:Binds K fd ps []
structure MetAtD (K:Fgx)(C:Addr)(x q:Str)(st:Stmt)(ps:List Str)(dd:List D)(f:Addr)(fd:FuncData):Prop where
 M:Meth K C x f
 F:FunD K x q st f fd
 b:Binds K fd ps []
 bd:∃(dv:List V) (du:List Value),Binds K fd ps du/\Vals dv du/\(∀P H,aC K P H dd dv)/\dv.length=dd.length
noncomputable def JW (t:String):Option Bool:=if t="int" then some false else if t="bool" then some false else if t="str" then some false else if t="list" then some true else if t="tuple" then some false else if t="NoneType" then some false else if t="dict" then some false else none
theorem zaZ {K:Fgx}:∀t b,JW t=some b->PySem.W.kitOne K (.type t) (.type "list")=some b:=by
 intro t b h;unfold JW at h;krn_ne
 ·rename_i e;subst e;cases h;kernel_rfl
 krn_ne
 ·rename_i e;subst e;cases h;kernel_rfl
 krn_ne
 ·rename_i e;subst e;cases h;kernel_rfl
 krn_ne
 ·rename_i e;subst e;cases h;kernel_rfl
 krn_ne
 ·rename_i e;subst e;cases h;kernel_rfl
 krn_ne
 ·rename_i e;subst e;cases h;kernel_rfl
 krn_ne
 ·rename_i e;subst e;cases h;kernel_rfl
 cases h
def eO (t T:String):Option Bool:=if T="list" then JW t else none
def zdw:eO "int" "list"=some false:=by x_go
def zc6:eO "bool" "list"=some false:=by x_go
def zdx:eO "str" "list"=some false:=by x_go
def za3:eO "list" "list"=some true:=by x_go
def zcC:eO "tuple" "list"=some false:=by x_go
def zby:eO "NoneType" "list"=some false:=by x_go
def zcO:eO "dict" "list"=some false:=by x_go
def zcR {K:Fgx}:∀t T b,eO t T=some b->PySem.W.kitOne K (.type t) (.type T)=some b:=by
 intro t T b h;unfold eO at h;krn_ne
 ·rename_i e;subst e;exact zaZ t b h
 cases h
abbrev Nu:Stmt:=top 7
def Wl:FnScope ["text"] ["text"] (aL Nu):=bN
def Zo:E:=(s2 (aG .notin) (aj 0) (ak (.str "0123456789")))
noncomputable def Qh:S:=(aq (bH (lg (s2 (aG .eq) (aj 0) (ak (.str ""))) (eY (sN wA (au (fJ [] (JM (aj 0)) (ak (.bl true)) Zo) ao)))) (aq (aH (ak (.bl false))) aA) aA) (aq (aH (lg (s2 (aG .eq) (aj 0) (ak (.str "0"))) (s2 (aG .ne) (s2 aM (aj 0) (ak (.int 0))) (ak (.str "0"))))) aA))
def Jx:G:=bA 1 Qh
abbrev Ny:Stmt:=top 8
def Wq:FnScope ["text","figures"] ["text"] (aL Ny):=bN
noncomputable def Qk:S:=(aq (aO 1 (m_ (eY (Ga O5 (aj 0) (au (ak (.str "-")) ao))) (zj (aj 0) (gD (ak (.int 1))) m8) (aj 0))) (aq (aH (dH (s2 (aG .ne) (aj 0) (ak (.str "-0"))) (bQ Jx (au (aj 1) ao)))) aA))
def Jz:G:=bA 2 Qk
abbrev Nx:Stmt:=top 9
def Wo:FnScope ["text"] ["text"] (aL Nx):=bN
noncomputable def Qj:S:=(aq (aH (dH (bQ Jz (au (aj 0) ao)) (s2 (aG .le) (sN bW (au (Ga OJ (aj 0) (au (ak (.str "-")) ao)) ao)) (ak (.int 20))))) aA)
def Jy:G:=bA 1 Qj
abbrev Nt:Stmt:=top 19
def Wj:FnScope ["number"] ["number"] (aL Nt):=bN
noncomputable def Il:S:=(aq (aH (sN gK (au (s1 rP (ak (.int 1000000000000000000000000000000000000000000000000000000000000))) (au (sN mO (au (ak (.int 1000000000000000000000000000000000000000000000000000000000000)) (au (aj 0) ao))) ao)))) aA)
def Ak:G:=bA 1 Il
abbrev Nv:Stmt:=top 20
def Wn:FnScope ["word","letters"] ["word","letters"] (aL Nv):=bN
noncomputable def Qi:S:=(aq (aH (lg (bQ Jy (au (aj 0) ao)) (dH (s2 (aG .isin) (aj 0) (ak (.tup [(.str "t"),(.str "v"),(.str "w")]))) (s2 (aG .isin) (aj 0) (aj 1))))) aA)
def Am:G:=bA 2 Qi
abbrev N5:Stmt:=top 21
def WD:FnScope ["word","kinds","needed","place"] ["word","kinds"] (aL N5):=bN
noncomputable def Bc:S:=(aq (bH (lg (j5 (eY (aj 1))) (s2 (aG .ne) (cX (aj 1)) (s2 aM (aj 2) (ak (.int 1))))) (aq (Cu "NoExpr" (sJ (w6 (aj 0) (rJ " needs other words behind it" rK)))) aA) aA) aA)
noncomputable def Iu:S:=(aq (aO 2 (xX kE (aj 0))) (aq (cR 3 (gP (au (s2 aM (aj 2) (ak (.int 2))) ao)) Bc) aA))
def yR:G:=bA 4 Iu
abbrev Nq:Stmt:=top 22
def Wh:FnScope ["words","letters","wanted","kinds","word"] ["words","letters","wanted"] (aL Nq):=bN
noncomputable def xq:S:=(aq (bH (dj true kE (aj 4)) (aq (zf (FW yR (au (aj 4) (au (aj 3) ao)))) (aq (cW (aj 3) (s2 aM (xX kE (aj 4)) (ak (.int 0)))) aA)) (aq (bH (eY (bQ Am (au (aj 4) (au (aj 1) ao)))) (aq (cW (aj 3) (ak (.str "number"))) aA) (aq (Cu "NoExpr" (sJ (w5 (aj 4) (rJ " may not stand here" rK)))) aA)) aA)) aA)
noncomputable def Ik:S:=(aq (aO 3 (eU (aR ao))) (aq (cR 4 (fZ (au (aj 0) ao)) xq) (aq (bH (s2 (aG .ne) (aj 3) (aR (au (aj 2) ao))) (aq (Cu "NoExpr" (ak (.str "too many words, or too few"))) aA) aA) aA)))
def Aj:G:=bA 5 Ik
abbrev Nr:Stmt:=top 23
def Wi:FnScope ["word","left","right"] ["word","left","right"] (aL Nr):=bN
noncomputable def Qg:S:=(aq (bH (s2 (aG .eq) (aj 0) (ak (.str "+"))) (aq (aH (s2 cQ (aj 1) (aj 2))) aA) aA) (aq (bH (s2 (aG .eq) (aj 0) (ak (.str "-"))) (aq (aH (s2 fH (aj 1) (aj 2))) aA) aA) (aq (bH (s2 (aG .eq) (aj 0) (ak (.str "*"))) (aq (aH (s2 gZ (aj 1) (aj 2))) aA) aA) (aq (bH (s2 (aG .eq) (aj 0) (ak (.str "least"))) (aq (aH (sN mO (au (aj 1) (au (aj 2) ao)))) aA) aA) (aq (bH (s2 (aG .eq) (aj 0) (ak (.str "most"))) (aq (aH (sN gK (au (aj 1) (au (aj 2) ao)))) aA) aA) (aq (bH (s2 (aG .eq) (aj 0) (ak (.str "<"))) (aq (aH (s2 (aG .lt) (aj 1) (aj 2))) aA) aA) (aq (bH (s2 (aG .eq) (aj 0) (ak (.str "="))) (aq (aH (s2 (aG .eq) (aj 1) (aj 2))) aA) aA) (aq (bH (s2 (aG .eq) (aj 0) (ak (.str "and"))) (aq (aH (dH (aj 1) (aj 2))) aA) aA) (aq (aH (lg (aj 1) (aj 2))) aA)))))))))
def yQ:G:=bA 3 Qg
abbrev NK:Stmt:=top 24
def Wt:FnScope ["word","time","value","other"] ["word","time","value","other"] (aL NK):=bN
noncomputable def Ql:S:=(aq (bH (s2 (aG .eq) (aj 0) (ak (.str "t"))) (aq (aH (aj 1)) aA) aA) (aq (bH (s2 (aG .eq) (aj 0) (ak (.str "v"))) (aq (aH (aj 2)) aA) aA) (aq (bH (s2 (aG .eq) (aj 0) (ak (.str "w"))) (aq (aH (aj 3)) aA) aA) (aq (aH (sN eF (au (aj 0) ao))) aA))))
def Ao:G:=bA 4 Ql
abbrev NT:Stmt:=top 25
def Wy:FnScope ["words","time","value","other","results","word","left","right"] ["words","time","value","other"] (aL NT):=bN
noncomputable def xu:S:=(aq (bH (s2 (aG .eq) (aj 5) (ak (.str "not"))) (aq (cW (aj 4) (Gb (cX (aj 4)))) aA) (aq (bH (dj true kE (aj 5)) (aq (aO 6 (cX (aj 4))) (aq (aO 7 (cX (aj 4))) (aq (cW (aj 4) (bQ yQ (au (aj 5) (au (aj 6) (au (aj 7) ao))))) aA))) (aq (cW (aj 4) (bQ Ao (au (aj 5) (au (aj 1) (au (aj 2) (au (aj 3) ao)))))) aA)) aA)) aA)
noncomputable def Ir:S:=(aq (aO 4 (eU (aR ao))) (aq (cR 5 (fZ (au (aj 0) ao)) xu) (aq (aH (s2 aM (aj 4) (ak (.int 0)))) aA)))
def wX:G:=bA 8 Ir
abbrev Ms:Stmt:=dZ (top 26) 0
def Vw:FnScope ["self","words"] ["self","words"] (aL Ms):=bN
noncomputable def Hu:S:=(aq (eV "Expr" "parts" (aj 0) (sN wC (au (aj 1) ao))) aA)
def Ae:G:=bA 2 Hu
abbrev NP:Stmt:=top 28
def Ww:FnScope ["words","letters"] ["words","letters"] (aL NP):=bN
noncomputable def Ip:S:=(aq (zf (bQ Aj (au (aj 0) (au (aj 1) (au (ak (.str "number")) ao))))) (aq (aH (ni "Expr" Ae (au (aj 0) ao))) aA))
def Aq:G:=bA 2 Ip
abbrev yc:Stmt:=dZ (top 26) 1
def Vx:FnScope ["self","time","value","other"] ["self","time","value","other"] (aL yc):=bN
noncomputable def Dz:S:=(aq (aH (bQ wX (au (bw "Expr" "parts" (aj 0)) (au (aj 1) (au (aj 2) (au (aj 3) ao)))))) aA)
def yK:G:=bA 4 Dz
abbrev Np:Stmt:=inDef (top 31) 1
noncomputable def lN:FnT:=⟨Np,"change","change_of.<locals>.change",Rg Np,["expr"],[0]⟩
def Wg:FnScopeC ["time","value","other","expr"] ["time","value","other"] lN.fr (aL lN.st):=WL
theorem zaf:LF Np "expr":=by kernel_rfl
noncomputable def DQ:S:=(aq (aH (bQ Ak (au (aP "Expr" "value" yK (aj 3) (au (aj 0) (au (aj 1) (au (aj 2) ao)))) ao))) aA)
def yP:G:=mX 3 4 DQ
abbrev Gg:Stmt:=top 31
def Wf:FnScope ["words","letters","expr","change"] ["words","letters"] (aL Gg):=bN
theorem zaC:LC Gg "expr":=by kernel_rfl
noncomputable def Ij:S:=(aq (aO 2 (bQ Aq (au (aj 0) (au (aj 1) ao)))) (gj 0 "change_of" lN [("expr",2)]))
def Ai:G:=bA 4 Ij
abbrev Gh:Stmt:=inDef (top 38) 2
noncomputable def gB:FnT:=⟨Gh,"pair","pairer_of.<locals>.pair",Rg Gh,["span","change"],[]⟩
def Wv:FnScopeC ["one","other","later","span","change"] ["one","other"] gB.fr (aL gB.st):=WL
theorem zap:LF Gh "span":=by kernel_rfl
theorem zac:LF Gh "change":=by kernel_rfl
noncomputable def DW:S:=(aq (bH (lg (s2 (aG .ne) (s2 aM (aj 0) (ak (.int 1))) (s2 aM (aj 1) (ak (.int 1)))) (s2 (aG .gt) (sN pR (au (s2 fH (s2 aM (aj 0) (ak (.int 0))) (s2 aM (aj 1) (ak (.int 0)))) ao)) (aj 3))) (aq (aH (aR ao)) aA) aA) (aq (aO 2 (sN gK (au (s2 aM (aj 0) (ak (.int 0))) (au (s2 aM (aj 1) (ak (.int 0))) ao)))) (aq (aH (aR (au (bf (au (aj 2) (au (s2 aM (aj 0) (ak (.int 1))) (au (iB lN yP (aj 4) (au (aj 2) (au (s2 aM (aj 0) (ak (.int 2))) (au (s2 aM (aj 1) (ak (.int 2))) ao)))) ao)))) ao))) aA)))
def rD:G:=mX 2 5 DW
abbrev Cy:Stmt:=top 38
def Wu:FnScope ["row","span","change","pair"] ["row"] (aL Cy):=bN
theorem zaF:LC Cy "span":=by kernel_rfl
theorem zay:LC Cy "change":=by kernel_rfl
noncomputable def Io:S:=(aq (aO 1 (sN eF (au (s2 aM (s2 aM (aj 0) (ak (.int 3))) (ak (.int 0))) ao))) (aq (aO 2 (bQ Ai (au (eX (s2 aM (aj 0) (ak (.int 3))) (gD (ak (.int 1))) m8) (au (ak (.str "tvw")) ao)))) (gj 1 "pairer_of" gB [("span",1),("change",2)])))
def wW:G:=bA 4 Io
abbrev Nz:Stmt:=top 40
def Wr:FnScope ["thing"] ["thing"] (aL Nz):=bN
noncomputable def Im:S:=(aq (aH (bf (au (ak (.str "thing")) (au (s2 aM (aj 0) (ak (.int 0))) (au (s2 aM (aj 0) (ak (.int 1))) (au (s2 aM (aj 0) (ak (.int 2))) ao)))))) aA)
def mj:G:=bA 1 Im
abbrev MN:Stmt:=dZ (top 41) 0
def VR:FnScope ["self","row"] ["self","row"] (aL MN):=bN
noncomputable def HN:S:=(aq (eV "PourStation" "marks" (aj 0) (eU (j_ (aR (au (ak (.int 0)) ao)) (sN bW (au (s2 aM (aj 1) (ak (.int 2))) ao))))) aA)
def wQ:G:=bA 2 HN
abbrev vf:Stmt:=dZ (top 41) 0
def Vy:FnScope ["self","row"] ["self","row"] (aL vf):=bN
noncomputable def DG:S:=(aq (eV "JoinStation" "marks" (aj 0) (eU (j_ (aR (au (ak (.int 0)) ao)) (sN bW (au (s2 aM (aj 1) (ak (.int 2))) ao))))) aA)
def wK:G:=bA 2 DG
abbrev Mt:Stmt:=dZ (top 47) 0
def Vz:FnScope ["self","row"] ["self","row"] (aL Mt):=bN
noncomputable def Hv:S:=(aq (zf (bQ wK (au (aj 0) (au (aj 1) ao)))) (aq (eV "JoinStation" "span" (aj 0) (sN eF (au (s2 aM (s2 aM (aj 1) (ak (.int 3))) (ak (.int 0))) ao))) (aq (eV "JoinStation" "pair" (aj 0) (bQ wW (au (aj 1) ao))) (aq (eV "JoinStation" "kept" (aj 0) (bf (au (eU (aR ao)) (au (eU (aR ao)) ao)))) aA))))
def wL:G:=bA 2 Hv
abbrev NZ:Stmt:=top 56
def Wz:FnScope ["row"] ["row"] (aL NZ):=bN
noncomputable def DX:S:=(aq (bH (s2 (aG .eq) (s2 aM (aj 0) (ak (.int 0))) (ak (.str "keep"))) (aq vd aA) aA) (aq (bH (s2 (aG .eq) (s2 aM (aj 0) (ak (.int 0))) (ak (.str "turn"))) (aq vd aA) aA) (aq (bH (s2 (aG .eq) (s2 aM (aj 0) (ak (.int 0))) (ak (.str "share"))) (aq vd aA) aA) (aq (bH (s2 (aG .eq) (s2 aM (aj 0) (ak (.int 0))) (ak (.str "pour"))) (aq (aH (ni "PourStation" wQ (au (aj 0) ao))) aA) aA) (aq (bH (s2 (aG .isin) (s2 aM (aj 0) (ak (.int 0))) (bf (au (ak (.str "fixed")) (au (ak (.str "slide")) ao)))) (aq vd aA) aA) (aq (bH (s2 (aG .eq) (s2 aM (aj 0) (ak (.int 0))) (ak (.str "gap"))) (aq vd aA) aA) (aq (bH (s2 (aG .eq) (s2 aM (aj 0) (ak (.int 0))) (ak (.str "join"))) (aq (aH (ni "JoinStation" wL (au (aj 0) ao))) aA) aA) (aq vd aA))))))))
def rG:G:=bA 1 DX
abbrev Ng:Stmt:=top 58
def V8:FnScope ["_law_script","_law_k"] ["_law_script","_law_k"] (aL Ng):=bN
noncomputable def H_:S:=(aq (bH (s2 (aG .lt) (aj 1) (sN bW (au (aj 0) ao))) (aq (aH (s2 aM (aj 0) (aj 1))) aA) aA) (aq (aH (ak (.int 0))) aA))
def lZ:G:=bA 2 H_
abbrev Nk:Stmt:=top 59
def Wb:FnScope ["_law_script","_law_cell","_law_span"] ["_law_script"] (aL Nk):=bN
noncomputable def Ig:S:=(aq (aO 1 (bQ lZ (au (aj 0) (au (ak (.int 0)) ao)))) (aq (bH (s2 (aG .eq) (s2 oMod (aj 1) (ak (.int 3))) (ak (.int 0))) (aq (aH (bf (au (ak (.str "pour")) (au (ak (.str "p")) (au (bf (au (ak (.str "a")) (au (ak (.str "b")) (au (ak (.str "c")) ao)))) (au (bf ao) ao)))))) aA) aA) (aq (bH (s2 (aG .eq) (s2 oMod (aj 1) (ak (.int 3))) (ak (.int 1))) (aq (aH (bf (au (ak (.str "pour")) (au (ak (.str "p")) (au (bf (au (ak (.str "a")) (au (ak (.str "b")) ao))) (au (bf ao) ao)))))) aA) aA) (aq (aO 2 (s2 oMod (s2 gY (aj 1) (ak (.int 6))) (s2 aM (aR (au (ak (.int 9)) (au (ak (.int 61)) ao))) (s2 oMod (s2 gY (aj 1) (ak (.int 3))) (ak (.int 2)))))) (aq (aH (bf (au (ak (.str "join")) (au (ak (.str "p")) (au (bf (au (ak (.str "a")) (au (ak (.str "b")) ao))) (au (bf (au (sN mQ (au (aj 2) ao)) (au (ak (.str "-")) (au (ak (.str "v")) (au (ak (.str "w")) ao))))) ao)))))) aA)))))
def yO:G:=bA 3 Ig
abbrev Nh:Stmt:=top 60
def V9:FnScope ["_law_cell","_law_mark","_law_base","_law_time","_law_key"] ["_law_cell","_law_mark","_law_base"] (aL Nh):=bN
noncomputable def Ia:S:=(aq (aO 3 (sN gK (au (aj 1) (au (s2 cQ (aj 2) (s2 oMod (s2 gY (aj 0) (ak (.int 15))) (ak (.int 21)))) ao)))) (aq (bH (s2 (aG .gt) (aj 1) (aj 2)) (aq (aO 3 (s2 cQ (aj 1) (s2 oMod (s2 gY (aj 0) (ak (.int 15))) (ak (.int 21))))) aA) aA) (aq (bH (s2 (aG .eq) (s2 oMod (s2 gY (aj 0) (ak (.int 3))) (ak (.int 5))) (ak (.int 0))) (aq (aH (bf (au (ak (.str "mark")) (au (aj 3) ao)))) aA) aA) (aq (aO 4 (s2 aM (aR (au (ak (.str "a")) (au (ak (.str "b")) (au (ak (.str "zebra")) (au (ak (.str "a")) ao))))) (s2 fH (s2 oMod (s2 gY (aj 0) (ak (.int 3))) (ak (.int 5))) (ak (.int 1))))) (aq (aH (bf (au (ak (.str "thing")) (au (aj 3) (au (aj 4) (au (s2 fH (s2 oMod (s2 gY (aj 0) (ak (.int 29))) (s2 cQ (s2 gZ (ak (.int 2)) (s2 g8 (ak (.int 10)) (ak (.int 60)))) (ak (.int 1)))) (s2 g8 (ak (.int 10)) (ak (.int 60)))) ao)))))) aA)))))
def yL:G:=bA 5 Ia
abbrev Ni:Stmt:=top 61
def V_:FnScope ["_law_script","_law_ways","_law_base","_law_found","_law_marks","_law_cell","_law_way","_law_item_here"] ["_law_script","_law_ways"] (aL Ni):=bN
noncomputable def yU:S:=(aq (cW (s2 aM (aj 3) (aj 6)) (bf (au (ak (.str "mark")) (au (ak (.int 1000000000000000)) ao)))) aA)
noncomputable def yV:S:=(aq (aO 6 (s2 oMod (aj 5) (aj 1))) (aq (aO 7 (bQ yL (au (aj 5) (au (s2 aM (aj 4) (aj 6)) (au (aj 2) ao))))) (aq (bH (s2 (aG .eq) (s2 aM (aj 7) (ak (.int 0))) (ak (.str "mark"))) (aq (lu (aj 4) (aj 6) (s2 aM (aj 7) (ak (.int 1)))) aA) aA) (aq (cW (s2 aM (aj 3) (aj 6)) (aj 7)) aA))))
def Jg:E:=(eU (aR ao))
noncomputable def Ib:S:=(aq (aO 2 (s2 oMod (bQ lZ (au (aj 0) (au (ak (.int 1)) ao))) (s2 g8 (ak (.int 10)) (ak (.int 11))))) (aq (bH (s2 (aG .eq) (s2 oMod (bQ lZ (au (aj 0) (au (ak (.int 1)) ao))) (ak (.int 2))) (ak (.int 0))) (aq (aO 2 (ak (.int 0))) aA) aA) (aq (aO 3 (fJ [] (gP (au (aj 1) ao)) (ak (.bl true)) Jg)) (aq (aO 4 (eU (j_ (aR (au (ak (.int 0)) ao)) (aj 1)))) (aq (cR 5 (cF (zj (aj 0) (gD (ak (.int 2))) (gD (ak (.int 40))))) yV) (aq (cR 6 (gP (au (aj 1) ao)) yU) (aq (aH (aj 3)) aA)))))))
def yM:G:=bA 8 Ib
abbrev Gf:Stmt:=top 62
def Wd:FnScope ["_law_items_here","_law_cell","_law_left","_law_order","_law_number","_law_some","_law_way"] ["_law_items_here","_law_cell"] (aL Gf):=bN
theorem zaI:LC Gf "_law_left":=by kernel_rfl
def El:E:=(sN bW (au (aj 0) ao))
def D_:E:=(s2 (aG .ne) (s2 aM (aj 1) (aj 0)) (aR ao))
def Rr:E:=(aj 0)
noncomputable def Dg:E:=(s2 (aG .gt) (sN mR (au (fJ [] (cF (aj 2)) (ak (.bl true)) El) ao)) (ak (.int 0)))
noncomputable def Ba:S:=(aq (aO 4 (s2 oMod (s2 cQ (s2 cQ (s2 gZ (aj 4) (aj 4)) (s2 gZ (ak (.int 48271)) (aj 4))) (ak (.int 7))) (ak (.int 2147483647)))) (aq (aO 5 (fJ [("_law_left",2)] (gP (au (sN bW (au (aj 2) ao)) ao)) D_ Rr)) (aq (aO 6 (s2 aM (aj 5) (s2 oMod (s2 gY (aj 4) (ak (.int 3))) (sN bW (au (aj 5) ao))))) (aq (sH 3 (bf (au (aj 6) (au (xZ (s2 aM (aj 2) (aj 6)) (ak (.int 0))) ao)))) aA))))
def Jh:E:=(eU (u_ (aj 0)))
noncomputable def Ii:S:=(aq (aO 2 (fJ [] (cF (aj 0)) (ak (.bl true)) Jh)) (aq (xY 3 (aR ao)) (aq (aO 4 (s2 oMod (aj 1) (ak (.int 2147483647)))) (aq (Cw 1000 Dg Ba) (aq (i_ 3) (aq (aH (aj 3)) aA))))))
def Ah:G:=bA 7 Ii
abbrev M7:Stmt:=dZ (top 41) 1
def V2:FnScope ["self"] ["self"] (aL M7):=bN
noncomputable def HS:S:=(aq (aH (sN wB (au (bw "PourStation" "marks" (aj 0)) ao))) aA)
def gO:G:=bA 1 HS
abbrev M6:Stmt:=dZ (top 41) 6
def V1:FnScope ["self","low"] ["self","low"] (aL M6):=bN
def Qf:S:=(aq (aH (aR ao)) aA)
def Ag:G:=bA 2 Qf
abbrev Nf:Stmt:=dZ (top 41) 4
def V7:FnScope ["self","low"] ["self","low"] (aL Nf):=bN
def Rq:E:=(bQ mj (au (aj 0) ao))
noncomputable def HY:S:=(aq (aH (s2 cQ (fJ [] (cF (aP "PourStation" "close_at" Ag (aj 0) (au (aj 1) ao))) (ak (.bl true)) Rq) (aR (au (bf (au (ak (.str "mark")) (au (aj 1) ao))) ao)))) aA)
def wU:G:=bA 2 HY
abbrev M_:Stmt:=dZ (top 41) 3
def V5:FnScope ["self","way","mark","before","low"] ["self","way","mark"] (aL M_):=bN
noncomputable def DP:S:=(aq (bH (s2 (aG .le) (aj 2) (s2 aM (bw "PourStation" "marks" (aj 0)) (aj 1))) (aq (aH (aR ao)) aA) aA) (aq (aO 3 (aP "PourStation" "low" gO (aj 0) ao)) (aq (lu (bw "PourStation" "marks" (aj 0)) (aj 1) (aj 2)) (aq (aO 4 (aP "PourStation" "low" gO (aj 0) ao)) (aq (bH (s2 (aG .eq) (aj 4) (aj 3)) (aq (aH (aR ao)) aA) aA) (aq (aH (aP "PourStation" "tell_low" wU (aj 0) (au (aj 4) ao))) aA))))))
def rm:G:=bA 5 DP
abbrev Nb:Stmt:=dZ (top 41) 5
def V6:FnScope ["self","way","thing"] ["self","way","thing"] (aL Nb):=bN
noncomputable def HX:S:=(aq (aH (aR (au (bQ mj (au (aj 2) ao)) ao))) aA)
def wR:G:=bA 3 HX
abbrev M9:Stmt:=dZ (top 41) 2
def V4:FnScope ["self","way","item"] ["self","way","item"] (aL M9):=bN
noncomputable def DN:S:=(aq (bH (s2 (aG .eq) (s2 aM (aj 2) (ak (.int 0))) (ak (.str "mark"))) (aq (aH (aP "PourStation" "take_mark" rm (aj 0) (au (aj 1) (au (s2 aM (aj 2) (ak (.int 1))) ao)))) aA) aA) (aq (aH (aP "PourStation" "take_thing" wR (aj 0) (au (aj 1) (au (eX (aj 2) (gD (ak (.int 1))) m8) ao)))) aA))
def kZ:G:=bA 3 DN
abbrev MJ:Stmt:=dZ (top 47) 1
def VN:FnScope ["self","way","thing","told","other"] ["self","way","thing"] (aL MJ):=bN
def Jf:E:=(bQ mj (au (aj 0) ao))
noncomputable def Ew:S:=(aq (gh 3 (m_ (s2 (aG .eq) (aj 1) (ak (.int 0))) (iB gB rD (bw "JoinStation" "pair" (aj 0)) (au (aj 2) (au (aj 4) ao))) (iB gB rD (bw "JoinStation" "pair" (aj 0)) (au (aj 4) (au (aj 2) ao))))) aA)
noncomputable def HF:S:=(aq (cW (s2 aM (bw "JoinStation" "kept" (aj 0)) (aj 1)) (aj 2)) (aq (xY 3 (aR ao)) (aq (cR 4 (cF (pH (s2 aM (bw "JoinStation" "kept" (aj 0)) (s2 fH (ak (.int 1)) (aj 1))))) Ew) (aq (i_ 3) (aq (aH (fJ [] (cF (aj 3)) (ak (.bl true)) Jf)) aA)))))
def tW:G:=bA 5 HF
abbrev Mw:Stmt:=dZ (top 41) 1
def VG:FnScope ["self"] ["self"] (aL Mw):=bN
noncomputable def Hz:S:=(aq (aH (sN wB (au (bw "JoinStation" "marks" (aj 0)) ao))) aA)
def gA:G:=bA 1 Hz
abbrev Mv:Stmt:=dZ (top 47) 3
def VF:FnScope ["self","low","kept"] ["self","low","kept"] (aL Mv):=bN
noncomputable def z6:E:=(s2 (aG .ge) (s2 cQ (s2 aM (aj 0) (ak (.int 0))) (bw "JoinStation" "span" (aj 2))) (aj 1))
def Ej:E:=(aj 0)
noncomputable def Hy:S:=(aq (aH (eU (sI 1000 [("low",1),("self",0)] (aj 2) z6 Ej))) aA)
def lK:G:=bA 3 Hy
abbrev Mu:Stmt:=dZ (top 47) 2
def VD:FnScope ["self","low"] ["self","low"] (aL Mu):=bN
noncomputable def Hx:S:=(aq (eV "JoinStation" "kept" (aj 0) (bf (au (aP "JoinStation" "left_at" lK (aj 0) (au (aj 1) (au (s2 aM (bw "JoinStation" "kept" (aj 0)) (ak (.int 0))) ao))) (au (aP "JoinStation" "left_at" lK (aj 0) (au (aj 1) (au (s2 aM (bw "JoinStation" "kept" (aj 0)) (ak (.int 1))) ao))) ao)))) (aq (aH (aR ao)) aA))
def wN:G:=bA 2 Hx
abbrev MK:Stmt:=dZ (top 41) 4
def VP:FnScope ["self","low"] ["self","low"] (aL MK):=bN
def Rp:E:=(bQ mj (au (aj 0) ao))
noncomputable def HJ:S:=(aq (aH (s2 cQ (fJ [] (cF (aP "JoinStation" "close_at" wN (aj 0) (au (aj 1) ao))) (ak (.bl true)) Rp) (aR (au (bf (au (ak (.str "mark")) (au (aj 1) ao))) ao)))) aA)
def wO:G:=bA 2 HJ
abbrev MF:Stmt:=dZ (top 41) 3
def VL:FnScope ["self","way","mark","before","low"] ["self","way","mark"] (aL MF):=bN
noncomputable def zX:S:=(aq (bH (s2 (aG .le) (aj 2) (s2 aM (bw "JoinStation" "marks" (aj 0)) (aj 1))) (aq (aH (aR ao)) aA) aA) (aq (aO 3 (aP "JoinStation" "low" gA (aj 0) ao)) (aq (lu (bw "JoinStation" "marks" (aj 0)) (aj 1) (aj 2)) (aq (aO 4 (aP "JoinStation" "low" gA (aj 0) ao)) (aq (bH (s2 (aG .eq) (aj 4) (aj 3)) (aq (aH (aR ao)) aA) aA) (aq (aH (aP "JoinStation" "tell_low" wO (aj 0) (au (aj 4) ao))) aA))))))
def n_:G:=bA 5 zX
abbrev Mz:Stmt:=dZ (top 41) 2
def VJ:FnScope ["self","way","item"] ["self","way","item"] (aL Mz):=bN
noncomputable def DK:S:=(aq (bH (s2 (aG .eq) (s2 aM (aj 2) (ak (.int 0))) (ak (.str "mark"))) (aq (aH (aP "JoinStation" "take_mark" n_ (aj 0) (au (aj 1) (au (s2 aM (aj 2) (ak (.int 1))) ao)))) aA) aA) (aq (aH (aP "JoinStation" "take_thing" tW (aj 0) (au (aj 1) (au (eX (aj 2) (gD (ak (.int 1))) m8) ao)))) aA))
def lM:G:=bA 3 DK
abbrev Nm:Stmt:=top 63
def Wc:FnScope ["_law_station","_law_order","_law_told_here","_law_way","_law_item_here","_law_found"] ["_law_station","_law_order"] (aL Nm):=bN
noncomputable def mq:S:=(aq (aO 5 (bL (aP "PourStation" "take_in" kZ (aj 0) (au (aj 3) (au (aj 4) ao))) (aP "JoinStation" "take_in" lM (aj 0) (au (aj 3) (au (aj 4) ao))))) (aq (bH (j5 (eY (sO eO "list" (aj 5)))) (aq (aH (ak .non)) aA) aA) (aq (gh 2 (aj 5)) aA)))
noncomputable def Ih:S:=(aq (xY 2 (aR ao)) (aq (Cr [3,4] (cF (aj 1)) mq) (aq (i_ 2) (aq (aH (aj 2)) aA))))
def wV:G:=bA 6 Ih
abbrev Nj:Stmt:=top 64
def Wa:FnScope ["_law_told_here","_law_mark","_law_item_here"] ["_law_told_here"] (aL Nj):=bN
noncomputable def xg:S:=(aq (bH (lg (dH (s2 (aG .eq) (s2 aM (aj 2) (ak (.int 0))) (ak (.str "mark"))) (s2 (aG .le) (s2 aM (aj 2) (ak (.int 1))) (aj 1))) (s2 (aG .lt) (s2 aM (aj 2) (ak (.int 1))) (aj 1))) (aq (aH (ak (.bl false))) aA) aA) (aq (bH (s2 (aG .eq) (s2 aM (aj 2) (ak (.int 0))) (ak (.str "mark"))) (aq (aO 1 (s2 aM (aj 2) (ak (.int 1)))) aA) aA) aA))
noncomputable def Ie:S:=(aq (aO 1 (ak (.int 0))) (aq (cR 2 (cF (aj 0)) xg) (aq (aH (s2 (aG .eq) (aj 1) (ak (.int 1000000000000000)))) aA)))
def yN:G:=bA 3 Ie
abbrev MP:Stmt:=dZ (top 41) 7
def V0:FnScope ["self"] ["self"] (aL MP):=bN
def Qe:S:=(aq (aH (aR ao)) aA)
def Af:G:=bA 1 Qe
abbrev M8:Stmt:=dZ (top 41) 9
def V3:FnScope ["self"] ["self"] (aL M8):=bN
noncomputable def HW:S:=(aq (aH (bf (au (u_ (bw "PourStation" "marks" (aj 0))) (au (aP "PourStation" "all_kept" Af (aj 0) ao) ao)))) aA)
def q_:G:=bA 1 HW
abbrev Ge:Stmt:=dZ (top 47) 4
def VB:FnScope ["self","kept","way"] ["self"] (aL Ge):=bN
theorem zab:LC Ge "way":=by kernel_rfl
noncomputable def Ro:E:=(s2 KZ (bf (au (aj 1) ao)) (aj 0))
noncomputable def Eu:S:=(aq (gh 1 (lU 1000 [("way",2)] (s2 aM (bw "JoinStation" "kept" (aj 0)) (aj 2)) Ro)) aA)
noncomputable def Hw:S:=(aq (xY 1 (aR ao)) (aq (cR 2 (En (bf (au (ak (.int 0)) (au (ak (.int 1)) ao)))) Eu) (aq (i_ 1) (aq (aH (pH (aj 1))) aA))))
def wM:G:=bA 3 Hw
abbrev Mx:Stmt:=dZ (top 41) 9
def VH:FnScope ["self"] ["self"] (aL Mx):=bN
noncomputable def HD:S:=(aq (aH (bf (au (u_ (bw "JoinStation" "marks" (aj 0))) (au (aP "JoinStation" "all_kept" wM (aj 0) ao) ao)))) aA)
def p8:G:=bA 1 HD
abbrev mF:Stmt:=top 65
def Ws:FnScope ["_law_script","_law_row_here","_law_ways","_law_items_here","_law_straight","_law_way","_law_one","_law_other","_law_first","_law_second","_law_things"] ["_law_script"] (aL mF):=bN
theorem zbo:LC mF "_law_way":=by kernel_rfl
noncomputable def Fe:S:=(aq (aH (dH (s2 (aG .eq) (bL (aP "PourStation" "state" q_ (aj 6) ao) (aP "JoinStation" "state" p8 (aj 6) ao)) (bL (aP "PourStation" "state" q_ (aj 7) ao) (aP "JoinStation" "state" p8 (aj 7) ao))) (dH (s2 (aG .eq) (bL (aP "PourStation" "low" gO (aj 6) ao) (aP "JoinStation" "low" gA (aj 6) ao)) (ak (.int 1000000000000000))) (s2 (aG .eq) (bL (aP "PourStation" "low" gO (aj 7) ao) (aP "JoinStation" "low" gA (aj 7) ao)) (ak (.int 1000000000000000)))))) aA)
noncomputable def Qu:E:=(s2 (aG .eq) (s2 aM (aj 0) (ak (.int 0))) (ak (.str "thing")))
def Rt:E:=(aj 0)
noncomputable def Ky:S:=(aq (bH (s2 (aG .ne) (aj 10) (pH (fJ [] (cF (aj 9)) Qu Rt))) (aq (aH (ak (.bl false))) aA) aA) Fe)
noncomputable def Qv:E:=(s2 (aG .eq) (s2 aM (aj 0) (ak (.int 0))) (ak (.str "thing")))
def Ru:E:=(aj 0)
noncomputable def Kw:S:=(aq (aO 10 (pH (fJ [] (cF (aj 8)) Qv Ru))) Ky)
noncomputable def Kv:S:=(aq (bH (lg (j5 (eY (bQ yN (au (aj 8) ao)))) (j5 (eY (bQ yN (au (aj 9) ao))))) (aq (aH (ak (.bl false))) aA) aA) Kw)
noncomputable def KR:S:=(aq (bH (lg (s2 (aG .same) (aj 8) (ak .non)) (s2 (aG .same) (aj 9) (ak .non))) (aq (aH (ak (.bl false))) aA) aA) Kv)
noncomputable def KQ:S:=(aq (aO 9 (bQ wV (au (aj 7) (au (bQ Ah (au (aj 3) (au (s2 gY (bQ lZ (au (aj 0) (au (ak (.int 1)) ao))) (ak (.int 2))) ao))) ao)))) KR)
noncomputable def KN:S:=(aq (aO 8 (bQ wV (au (aj 6) (au (aj 4) ao)))) KQ)
noncomputable def KJ:S:=(aq (aO 7 (bQ rG (au (aj 1) ao))) KN)
noncomputable def KH:S:=(aq (aO 6 (bQ rG (au (aj 1) ao))) KJ)
def Rv:E:=(bf (au (aj 1) (au (aj 0) ao)))
noncomputable def Bb:S:=(aq (aO 4 (s2 cQ (aj 4) (lU 1000 [("_law_way",5)] (s2 aM (aj 3) (aj 5)) Rv))) aA)
def KD:S:=(aq (cR 5 (gP (au (aj 2) ao)) Bb) KH)
def KC:S:=(aq (aO 4 (aR ao)) KD)
noncomputable def Kz:S:=(aq (aO 3 (bQ yM (au (aj 0) (au (aj 2) ao)))) KC)
noncomputable def Bp:S:=(aq (aO 2 (sN bW (au (s2 aM (aj 1) (ak (.int 2))) ao))) Kz)
def DR:S:=(aq (aO 1 (bQ yO (au (aj 0) ao))) Bp)
def R3:G:=bA 11 DR
section
variable {P:Program}{w:World}{K:Fgx}{mg:Mgx}{C:Ad}{base:Heap}{k k0:Nat}{f:Addr}
theorem zaR (T:Txt K mg C w):RT P w K mg base k f ["text"] "is_figures" Nu Qh:=fun cdv A outer s H E hr=>by
 cb_eq;have nd:=(Wl).nd;have B_any:=T.blt "any" (by x_go);obtain⟨t_FIGURES,m_FIGURES⟩:=T.k_FIGURES;refine aF (bO (SW.st (zA (Ct hu Sv Es) (zB (yr (fK (YK rfl) rfl B_any boot_any zeH (aD (SN.sem (vo "sign" [] rfl (by x_go) (zgt Sv) (fun _ _ _ _ _ _=>vp) (fun _ _ _ _ _ _=>(WT (wI (X:=cP _ _ _ _ _ _ _ _ _) hu .notin) xK (cY rfl (.inl (by kernel_rfl))) (CK (rZ (v:=(.str "0123456789")) rfl m_FIGURES ⟨t_FIGURES,rfl⟩))))) pX) aK Xg)))))) (aF (aY Eb) aJ) aJ) ?_;exact aF (aY (N_ (Cm hu Sv Es) (vh (Cm hu (Ek Sv Ei) Es)))) aJ
def zaw (T:Txt K mg C w)(a_is_figures:bB P w K mg base k "is_figures" 1 Jx):RT P w K mg base k f ["text","figures"] "is_signed_figures" Ny Qk:=fun cdv A outer s H E hr=>by
 cb_eq;have nd:=(Wq).nd;refine aF (bZ (i:=1) nd rfl Lv (WX (yr (W2 PySem.F.slot_str_startswith PySem.F.type_str_startswith zbT zbP Sv (aD Es aK bU))) (W3 Sv (zu (Wx:=W0) Ei) Gu) Sv)) ?_;exact aF (aY (zm (Cm hu Sv Es) (vh (cT a_is_figures hr rfl (aD Sv aK aN) (cnt_cons cnt_nil))))) aJ
def zaY (T:Txt K mg C w)(a_is_signed_figures:bB P w K mg base k "is_signed_figures" 1 Jz):RT P w K mg base k f ["text"] "is_number" Nx Qj:=fun cdv A outer s H E hr=>by
 cb_eq;have nd:=(Wo).nd;have B_len:=T.blt "len" (by x_go);obtain⟨t_MOST_FIGURES,m_MOST_FIGURES⟩:=T.k_MOST_FIGURES;exact aF (aY (zm (cT a_is_signed_figures hr rfl (aD Sv aK aN) (cnt_cons cnt_nil)) (vh (Cm hu (fK tV rfl B_len xbZ u6 (aD (W2 PySem.F.slot_str_lstrip PySem.F.type_str_lstrip zbz zbu Sv (aD Es aK bU)) aK kj)) (gk (rZ (v:=(.int 20)) rfl m_MOST_FIGURES ⟨t_MOST_FIGURES,rfl⟩)))))) aJ
def zea (T:Txt K mg C w):RT P w K mg base k f ["number"] "held" Nt Il:=fun cdv A outer s H E hr=>by
 cb_eq;have nd:=(Wj).nd;have B_max:=T.blt "max" (by x_go);have B_min:=T.blt "min" (by x_go);obtain⟨t_MOST_VALUE,m_MOST_VALUE⟩:=T.k_MOST_VALUE;exact aF (aY (fK (Ea rfl) rfl B_max boot_max Fz (aD (zg5 zey zdE (gk (rZ (v:=(.int 1000000000000000000000000000000000000000000000000000000000000)) rfl m_MOST_VALUE ⟨t_MOST_VALUE,rfl⟩))) (aD (fK (Qx rfl) rfl B_min boot_min U4 (aD (gk (rZ (v:=(.int 1000000000000000000000000000000000000000000000000000000000000)) rfl m_MOST_VALUE ⟨t_MOST_VALUE,rfl⟩)) (aD Sv aK aN) aN)) aK kj) za6))) aJ
def zbO (T:Txt K mg C w)(a_is_number:bB P w K mg base k "is_number" 1 Jy):RT P w K mg base k f ["word","letters"] "is_leaf" Nv Qi:=fun cdv A outer s H E hr=>by
 cb_eq;have nd:=(Wn).nd;obtain⟨t_ALL_LETTERS,m_ALL_LETTERS⟩:=T.k_ALL_LETTERS;exact aF (aY (N_ (cT a_is_number hr rfl (aD Sv aK aN) (cnt_cons cnt_nil)) (vh (zm (Cm hu Sv (zfH rfl m_ALL_LETTERS.1 m_ALL_LETTERS.2)) (vh (Cm hu Sv Sv)))))) aJ
def zaL (T:Txt K mg C w):Hl P w K mg base k f ["word","kinds","needed","place"] "take_needed" N5 Iu:=fun cdv A outer s H E Wx hr XF XP=>by
 cb_eq;have nd:=(WD).nd;have B_range:=T.blt "range" (by x_go);obtain⟨t_NEEDS,m_NEEDS⟩:=T.k_NEEDS;refine aF (bZ (i:=2) nd rfl Lw (WY Sw rfl m_NEEDS.1 m_NEEDS.2)) ?_;exact aF (sV PassesOwn.leaving rfl nd rfl Lw (CQ rfl B_range (aD (Ek Sw Ei) aK d8)) (aF (bO (SW.st (zA (Gy (yr Sw)) (zB (Ct hu (Gj Sw) (Ek Sw Ei))))) (aF (Oh XF rfl T.xm_NoExpr T.xc_NoExpr T.xn_NoExpr T.xk_NoExpr rfl (WW (zdD Sw (W9 W_)))) aJ) aJ) aJ)) aJ
def zaN (T:Txt K mg C w)(a_is_leaf:bB P w K mg base k "is_leaf" 2 Am)(x_take_needed:lB P w K mg base k "take_needed" 2 yR):Hl P w K mg base k f ["words","letters","wanted","kinds","word"] "check_words" Nq Ik:=fun cdv A outer s H E Wx hr XF XP=>by
 cb_eq;have nd:=(Wh).nd;have B_reversed:=T.blt "reversed" (by x_go);obtain⟨t_NEEDS,m_NEEDS⟩:=T.k_NEEDS;refine aF (bZ (i:=3) nd rfl Lw (pJ (cZ aK))) ?_;refine aF (sV PassesOwn.leaving rfl nd rfl Lw (W8 rfl B_reversed (aD Sw aK aN)) (aF (bO (Xh Sw rfl m_NEEDS.1 m_NEEDS.2) (aF (Oe (SX.se XP (zc2 x_take_needed hr rfl (aD Sw (aD Sw aK aN) aN) (cnt_cons (cnt_cons cnt_nil))))) (aF (vq Sw (Ek (WY Sw rfl m_NEEDS.1 m_NEEDS.2) Ei)) aJ)) (aF (bO (yr (cT a_is_leaf hr rfl (aD Sw (aD Sw aK aN) aN) (cnt_cons (cnt_cons cnt_nil)))) (aF (vq Sw Es) aJ) (aF (Oh XF rfl T.xm_NoExpr T.xc_NoExpr T.xn_NoExpr T.xk_NoExpr rfl (WW (zdO Sw (W9 W_)))) aJ)) aJ)) aJ)) ?_;exact aF (bO (Ct hu Sw (SN.sem (cZ (aD Sw aK aN)) lst_is)) (aF (Oh XF rfl T.xm_NoExpr T.xc_NoExpr T.xn_NoExpr T.xk_NoExpr rfl Es) aJ) aJ) aJ
def za7 (T:Txt K mg C w):RT P w K mg base k f ["word","left","right"] "combined" Nr Qg:=fun cdv A outer s H E hr=>by
 cb_eq;have nd:=(Wi).nd;have B_max:=T.blt "max" (by x_go);have B_min:=T.blt "min" (by x_go);refine aF (bO (Ct hu Sv Es) (aF (aY (bK pD pG Sv Sv)) aJ) aJ) ?_;refine aF (bO (Ct hu Sv Es) (aF (aY (bK BK Ca Sv Sv)) aJ) aJ) ?_;refine aF (bO (Ct hu Sv Es) (aF (aY (bK Fp FJ Sv Sv)) aJ) aJ) ?_;refine aF (bO (Ct hu Sv Es) (aF (aY (fK (Qx rfl) rfl B_min boot_min U4 (aD Sv (aD Sv aK aN) aN))) aJ) aJ) ?_;refine aF (bO (Ct hu Sv Es) (aF (aY (fK (Ea rfl) rfl B_max boot_max Fz (aD Sv (aD Sv aK aN) aN))) aJ) aJ) ?_;refine aF (bO (Ct hu Sv Es) (aF (aY (Cm hu Sv Sv)) aJ) aJ) ?_;refine aF (bO (Ct hu Sv Es) (aF (aY (Cm hu Sv Sv)) aJ) aJ) ?_;refine aF (bO (Ct hu Sv Es) (aF (aY (zm Sv (vh Sv))) aJ) aJ) ?_;exact aF (aY (N_ Sv (vh Sv))) aJ
def zaS (T:Txt K mg C w):RT P w K mg base k f ["word","time","value","other"] "leaf_value" NK Ql:=fun cdv A outer s H E hr=>by
 cb_eq;have nd:=(Wt).nd;have B_int:=T.blt "int" (by x_go);refine aF (bO (Ct hu Sv Es) (aF (aY Sv) aJ) aJ) ?_;refine aF (bO (Ct hu Sv Es) (aF (aY Sv) aJ) aJ) ?_;refine aF (bO (Ct hu Sv Es) (aF (aY Sv) aJ) aJ) ?_;exact aF (aY (CG IV rfl B_int boot_int Le (aD Sv aK aN))) aJ
def za8 (T:Txt K mg C w)(a_combined:bB P w K mg base k "combined" 3 yQ)(a_leaf_value:bB P w K mg base k "leaf_value" 4 Ao):RT P w K mg base k f ["words","time","value","other","results","word","left","right"] "reckoned" NT Ir:=fun cdv A outer s H E hr=>by
 cb_eq;have nd:=(Wy).nd;have B_reversed:=T.blt "reversed" (by x_go);obtain⟨t_NEEDS,m_NEEDS⟩:=T.k_NEEDS;refine aF (bZ (i:=4) nd rfl Lv (pJ (cZ aK))) ?_;refine aF (sV xbE rfl nd rfl Lv (W8 rfl B_reversed (aD Sv aK aN)) (aF (bO (Ct hu Sv Es) (aF (vq Sv (zdL (Gj Sv))) aJ) (aF (bO (Xh Sv rfl m_NEEDS.1 m_NEEDS.2) (aF (bZ (i:=6) nd rfl Lv (Gj Sv)) (aF (bZ (i:=7) nd rfl Lv (Gj Sv)) (aF (vq Sv (cT a_combined hr rfl (aD Sv (aD Sv (aD Sv aK aN) aN) aN) (cnt_cons (cnt_cons (cnt_cons cnt_nil))))) aJ))) (aF (vq Sv (cT a_leaf_value hr rfl (aD Sv (aD Sv (aD Sv (aD Sv aK aN) aN) aN) aN) (cnt_cons (cnt_cons (cnt_cons (cnt_cons cnt_nil)))))) aJ)) aJ)) aJ)) ?_;exact aF (aY (Ek Sv Ei)) aJ
def zaG (T:Txt K mg C w):RT P w K mg base k f ["self","words"] "Expr.__init__" Ms Hu:=fun cdv A outer s H E hr=>by
 cb_eq;have nd:=(Vw).nd;have B_tuple:=T.blt "tuple" (by x_go);exact aF (yq T.cl_Expr T.na_Expr_parts Sv (CG Y5 rfl B_tuple boot_tuple zeg (aD Sv aK aN))) aJ
def za5 (T:Txt K mg C w)(hk0:k0 + 1=k)(a_check_words:bB P w K mg base k "check_words" 3 Aj)(a_Expr___init__:kJ P w K mg base k0 C.Expr 2 Ae):RT P w K mg base k f ["words","letters"] "read_expr" NP Ip:=fun cdv A outer s H E hr=>by
 cb_eq;have hr1:=hr;rw[<-hk0]at hr1;have nd:=(Ww).nd;refine aF (Oe (cT a_check_words hr rfl (aD Sv (aD Sv (aD Es aK bU) aN) aN) (cnt_cons (cnt_cons (cnt_cons cnt_nil))))) ?_;exact aF (aY (N8 T.cl_Expr a_Expr___init__ hr1 rfl (aD Sv aK aN) (cnt_cons cnt_nil))) aJ
def zaP (T:Txt K mg C w)(a_reckoned:bB P w K mg base k "reckoned" 4 wX):RT P w K mg base k f ["self","time","value","other"] "Expr.value" yc Dz:=fun cdv A outer s H E hr=>by
 cb_eq;have nd:=(Vx).nd;exact aF (aY (cT a_reckoned hr rfl (aD (kh T.cl_Expr T.na_Expr_parts Sv) (aD Sv (aD Sv (aD Sv aK aN) aN) aN) Oj) (cnt_cons (cnt_cons (cnt_cons (cnt_cons cnt_nil)))))) aJ
def zau (T:Txt K mg C w)(a_held:bB P w K mg base k "held" 1 Ak)(a_Expr_value:bJ P w K mg base k C.Expr "value" 4 yK):yx P w K mg base k ["time","value","other","expr"] DQ lN:=fun f cd cl A outer s H hr=>by
 cb_eq;have nd:=(Wg).nd;exact aF (aY (cT a_held hr rfl (aD (lV T.cl_Expr a_Expr_value hr (cY rfl (.inr (.inr zaf))) (aD Su (aD Su (aD Su aK aN) aN) aN) (cnt_cons (cnt_cons (cnt_cons cnt_nil)))) aK kj) (cnt_cons cnt_nil))) aJ
def za2 (T:Txt K mg C w){c Pt:Addr}(ht:PySem.W.tabIn K "change_of"=some (c,Pt))(hc:PySem.W.codeHdIn K c Pt=true)(hB:lW mg base)(a_read_expr:bB P w K mg base k "read_expr" 2 Aq):Hj P w K mg base k f ["words","letters","expr","change"] "change_of" Gg Ij c:=fun A outer s H E hr=>by
 refine Vu hr fun hu=>?_;have nd:=(Wf).nd;refine N6 rfl ?_ ?_
 ·exact(bZ (i:=2) nd rfl (.inr zaC) (cT a_read_expr hr rfl (aD Sv (aD Sv aK aN) aN) (cnt_cons (cnt_cons cnt_nil))))
 exact Vv (Ui (j:=3) ht hc hB nd)
def zaB (T:Txt K mg C w)(a_change_of__change:kI P w K mg base k lN 3 yP):yx P w K mg base k ["one","other","later","span","change"] DW gB:=fun f cd cl A outer s H hr=>by
 cb_eq;have nd:=(Wv).nd;have B_abs:=T.blt "abs" (by x_go);have B_max:=T.blt "max" (by x_go);refine aF (bO (SW.st (zA (Ct hu (Ek Su Ei) (Ek Su Ei)) (zB (Ct hu (fK YJ rfl B_abs boot_abs zfk (aD (bK BK Ca (Ek Su Ei) (Ek Su Ei)) aK Gx)) (cY rfl (.inr (.inr zap))))))) (aF (aY (SN.sem (cZ aK) lst_is)) aJ) aJ) ?_;refine aF (bZ (i:=2) nd rfl Lu (fK (Ea rfl) rfl B_max boot_max Fz (aD (Ek Su Ei) (aD (Ek Su Ei) aK d8) d8))) ?_;exact aF (aY (SN.sem (cZ (aD (dI (aD Su (aD (Ek Su Ei) (aD (zb9 a_change_of__change hr (cY rfl (.inr (.inr zac))) (aD Su (aD (Ek Su Ei) (aD (Ek Su Ei) aK d8) d8) aN) (cnt_cons (cnt_cons (cnt_cons cnt_nil)))) aK kj) d8) aN)) aK sW)) lst_is)) aJ
def zaX (T:Txt K mg C w){c Pt:Addr}(ht:PySem.W.tabIn K "pairer_of"=some (c,Pt))(hc:PySem.W.codeHdIn K c Pt=true)(hB:lW mg base)(a_change_of:bB P w K mg base k "change_of" 2 Ai):Hj P w K mg base k f ["row","span","change","pair"] "pairer_of" Cy Io c:=fun A outer s H E hr=>by
 refine Vu hr fun hu=>?_;have nd:=(Wu).nd;have B_int:=T.blt "int" (by x_go);refine N6 rfl ?_ ?_
 ·exact(bZ (i:=1) nd rfl (.inr zaF) (CG IV rfl B_int boot_int Le (aD (Ek (Ek Sv Ei) Ei) aK d8)))
 refine N6 rfl ?_ ?_
 ·exact(bZ (i:=2) nd rfl (.inr zay) (cT a_change_of hr rfl (aD (Oa (Ek Sv Ei) (zu (Wx:=W0) Ei) Gu) (aD Es aK bU) d8) (cnt_cons (cnt_cons cnt_nil))))
 exact Vv (Ui (j:=3) ht hc hB nd)
def zbS (T:Txt K mg C w):RT P w K mg base k f ["thing"] "item_of" Nz Im:=fun cdv A outer s H E hr=>by
 cb_eq;have nd:=(Wr).nd;exact aF (aY (dI (aD Es (aD (Ek Sv Ei) (aD (Ek Sv Ei) (aD (Ek Sv Ei) aK d8) d8) d8) bU))) aJ
def zal (T:Txt K mg C w):RT P w K mg base k f ["self","row"] "Station.__init__" MN HN:=fun cdv A outer s H E hr=>by
 cb_eq;have nd:=(VR).nd;have B_len:=T.blt "len" (by x_go);exact aF (yq T.cl_PourStation T.na_PourStation_marks Sv (pJ (Od (cZ (aD Ei aK bU)) (fK tV rfl B_len xbZ u6 (aD (Ek Sv Ei) aK d8))))) aJ
def zaa (T:Txt K mg C w):RT P w K mg base k f ["self","row"] "Station.__init__" vf DG:=fun cdv A outer s H E hr=>by
 cb_eq;have nd:=(Vy).nd;have B_len:=T.blt "len" (by x_go);exact aF (yq T.cl_JoinStation T.na_JoinStation_marks Sv (pJ (Od (cZ (aD Ei aK bU)) (fK tV rfl B_len xbZ u6 (aD (Ek Sv Ei) aK d8))))) aJ
def zaq (T:Txt K mg C w)(a_pairer_of:bB P w K mg base k "pairer_of" 1 wW)(a_JoinStation_Station___init__:nF P w K mg base k "Station" "__init__" 2 wK):RT P w K mg base k f ["self","row"] "JoinStation.__init__" Mt Hv:=fun cdv A outer s H E hr=>by
 cb_eq;have nd:=(Vz).nd;have B_int:=T.blt "int" (by x_go);refine aF (Oe (zc3 a_JoinStation_Station___init__ hr rfl (aD Sv (aD Sv aK aN) aN) (cnt_cons (cnt_cons cnt_nil)))) ?_;refine aF (yq T.cl_JoinStation T.na_JoinStation_span Sv (CG IV rfl B_int boot_int Le (aD (Ek (Ek Sv Ei) Ei) aK d8))) ?_;refine aF (yq T.cl_JoinStation T.na_JoinStation_pair Sv (cT a_pairer_of hr rfl (aD Sv aK aN) (cnt_cons cnt_nil))) ?_;exact aF (yq T.cl_JoinStation T.na_JoinStation_kept Sv (dI (aD (pJ (cZ aK)) (aD (pJ (cZ aK)) aK Xf) Xf))) aJ
def zaU (T:Txt K mg C w)(hk0:k0 + 1=k)(a_PourStation___init__:kJ P w K mg base k0 C.PourStation 2 wQ)(a_JoinStation___init__:kJ P w K mg base k0 C.JoinStation 2 wL):RT P w K mg base k f ["row"] "station_of" NZ DX:=fun cdv A outer s H E hr=>by
 cb_eq;have hr1:=hr;rw[<-hk0]at hr1;have nd:=(Wz).nd;refine aF (bO (Ct hu (Ek Sv Ei) Es) (aF zx aJ) aJ) ?_;refine aF (bO (Ct hu (Ek Sv Ei) Es) (aF zx aJ) aJ) ?_;refine aF (bO (Ct hu (Ek Sv Ei) Es) (aF zx aJ) aJ) ?_;refine aF (bO (Ct hu (Ek Sv Ei) Es) (aF (aY (N8 T.cl_PourStation a_PourStation___init__ hr1 rfl (aD Sv aK aN) (cnt_cons cnt_nil))) aJ) aJ) ?_;refine aF (bO (Ct hu (Ek Sv Ei) (dI (aD Es (aD Es aK bU) bU))) (aF zx aJ) aJ) ?_;refine aF (bO (Ct hu (Ek Sv Ei) Es) (aF zx aJ) aJ) ?_;refine aF (bO (Ct hu (Ek Sv Ei) Es) (aF (aY (N8 T.cl_JoinStation a_JoinStation___init__ hr1 rfl (aD Sv aK aN) (cnt_cons cnt_nil))) aJ) aJ) ?_;refine aF ?_ ?_
 ·exact zx
 exact aJ
def zbh (T:Txt K mg C w):RT P w K mg base k f ["_law_script","_law_k"] "_law_cell_at" Ng H_:=fun cdv A outer s H E hr=>by
 cb_eq;have nd:=(V8).nd;have B_len:=T.blt "len" (by x_go);refine aF (bO (Ct hu Sv (fK tV rfl B_len xbZ u6 (aD Sv aK aN))) (aF (aY (Ek Sv Sv)) aJ) aJ) ?_;exact aF (aY Ei) aJ
def zd8 (T:Txt K mg C w)(a__cell_at:bB P w K mg base k "_law_cell_at" 2 lZ):RT P w K mg base k f ["_law_script","_law_cell","_law_span"] "_law_row" Nk Ig:=fun cdv A outer s H E hr=>by
 cb_eq;have nd:=(Wb).nd;have B_str:=T.blt "str" (by x_go);refine aF (bZ (i:=1) nd rfl Lv (cT a__cell_at hr rfl (aD Sv (aD Ei aK bU) aN) (cnt_cons (cnt_cons cnt_nil)))) ?_;refine aF (bO (Ct hu (bK g_ h_ Sv Ei) Ei) (aF (aY (dI (aD Es (aD Es (aD (dI (aD Es (aD Es (aD Es aK bU) bU) bU)) (aD (dI aK) aK sW) sW) bU) bU))) aJ) aJ) ?_;refine aF (bO (Ct hu (bK g_ h_ Sv Ei) Ei) (aF (aY (dI (aD Es (aD Es (aD (dI (aD Es (aD Es aK bU) bU)) (aD (dI aK) aK sW) sW) bU) bU))) aJ) aJ) ?_;refine aF (bZ (i:=2) nd rfl Lv (bK g_ h_ (bK rW sy Sv Ei) (Ek (SN.sem (cZ (aD Ei (aD Ei aK bU) bU)) lst_is) (bK g_ h_ (bK rW sy Sv Ei) Ei)))) ?_;exact aF (aY (dI (aD Es (aD Es (aD (dI (aD Es (aD Es aK bU) bU)) (aD (dI (aD (CG Y0 rfl B_str boot_str zdA (aD Sv aK aN)) (aD Es (aD Es (aD Es aK bU) bU) bU) kj)) aK sW) sW) bU) bU))) aJ
def zdv (T:Txt K mg C w):RT P w K mg base k f ["_law_cell","_law_mark","_law_base","_law_time","_law_key"] "_law_item" Nh Ia:=fun cdv A outer s H E hr=>by
 cb_eq;have nd:=(V9).nd;have B_max:=T.blt "max" (by x_go);refine aF (bZ (i:=3) nd rfl Lv (fK (Ea rfl) rfl B_max boot_max Fz (aD Sv (aD (bK pD pG Sv (bK g_ h_ (bK rW sy Sv Ei) Ei)) aK Gx) aN))) ?_;refine aF (bO (Ct hu Sv Sv) (aF (bZ (i:=3) nd rfl Lv (bK pD pG Sv (bK g_ h_ (bK rW sy Sv Ei) Ei))) aJ) aJ) ?_;refine aF (bO (Ct hu (bK g_ h_ (bK rW sy Sv Ei) Ei) Ei) (aF (aY (dI (aD Es (aD Sv aK aN) bU))) aJ) aJ) ?_;refine aF (bZ (i:=4) nd rfl Lv (Ek (SN.sem (cZ (aD Es (aD Es (aD Es (aD Es aK bU) bU) bU) bU)) lst_is) (bK BK Ca (bK g_ h_ (bK rW sy Sv Ei) Ei) Ei))) ?_;exact aF (aY (dI (aD Es (aD Sv (aD Sv (aD (bK BK Ca (bK g_ h_ (bK rW sy Sv Ei) (bK pD pG (bK Fp FJ Ei (bK K9 Lf Ei Ei)) Ei)) (bK K9 Lf Ei Ei)) aK Gx) aN) aN) bU))) aJ
def zcf (T:Txt K mg C w)(a__cell_at:bB P w K mg base k "_law_cell_at" 2 lZ)(a__item:bB P w K mg base k "_law_item" 3 yL):RT P w K mg base k f ["_law_script","_law_ways","_law_base","_law_found","_law_marks","_law_cell","_law_way","_law_item_here"] "_law_items" Ni Ib:=fun cdv A outer s H E hr=>by
 cb_eq;have nd:=(V_).nd;have B_range:=T.blt "range" (by x_go);obtain⟨t_LAST,m_LAST⟩:=T.k_LAST;refine aF (bZ (i:=2) nd rfl Lv (bK g_ h_ (cT a__cell_at hr rfl (aD Sv (aD Ei aK bU) aN) (cnt_cons (cnt_cons cnt_nil))) (bK K9 Lf Ei Ei))) ?_;refine aF (bO (Ct hu (bK g_ h_ (cT a__cell_at hr rfl (aD Sv (aD Ei aK bU) aN) (cnt_cons (cnt_cons cnt_nil))) Ei) Ei) (aF (bZ (i:=2) nd rfl Lv Ei) aJ) aJ) ?_;refine aF (Xe "_law_way" [] (i:=3) nd rfl Lv rfl (by x_go) (CQ rfl B_range (aD Sv aK aN)) (fun _ _ _ _ _ _=>vp) (fun _ _ _ _ _ _=>(pJ (cZ aK)))) ?_;refine aF (bZ (i:=4) nd rfl Lv (pJ (Od (cZ (aD Ei aK bU)) Sv))) ?_;refine aF (sV xbE rfl nd rfl Lv (nq (W3 Sv (zu (Wx:=W0) Ei) (zu (Wx:=W0) Ei))) (aF (bZ (i:=6) nd rfl Lv (bK g_ h_ Sv Sv)) (aF (bZ (i:=7) nd rfl Lv (cT a__item hr rfl (aD Sv (aD (Ek Sv Sv) (aD Sv aK aN) d8) aN) (cnt_cons (cnt_cons (cnt_cons cnt_nil))))) (aF (bO (Ct hu (Ek Sv Ei) Es) (aF (Oi Sv Sv (Ek Sv Ei)) aJ) aJ) (aF (vq (Ek Sv Sv) Sv) aJ))))) ?_;refine aF (sV xbE rfl nd rfl Lv (CQ rfl B_range (aD Sv aK aN)) (aF (vq (Ek Sv Sv) (dI (aD Es (aD (gk (rZ (v:=(.int 1000000000000000)) rfl m_LAST ⟨t_LAST,rfl⟩)) aK aN) bU))) aJ)) ?_;exact aF (aY Sv) aJ
theorem zch (T:Txt K mg C w):RT P w K mg base k f ["_law_items_here","_law_cell","_law_left","_law_order","_law_number","_law_some","_law_way"] "_law_woven" Gf Ii:=fun cdv A outer s H E hr=>by
 cb_eq;have nd:=(Wd).nd;have B_len:=T.blt "len" (by x_go);have B_list:=T.blt "list" (by x_go);have B_range:=T.blt "range" (by x_go);have B_sum:=T.blt "sum" (by x_go);refine aF (bZ (i:=2) nd rfl (.inr zaI) (SN.sem (vo "_law_row_here" [] rfl (by x_go) (nq Sv) (fun _ _ _ _ _ _=>vp) (fun _ _ _ _ _ _=>(pJ (Oc rfl B_list (cY rfl (.inl (by kernel_rfl))))))) pX)) ?_;refine aF (Gw (i:=3) nd rfl Lv (cZ aK)) ?_;refine aF (bZ (i:=4) nd rfl Lv (bK g_ h_ Sv Ei)) ?_;refine aF (zci 1000 xbE (Ct hu (fK (Y4 rfl) rfl B_sum boot_sum zeO (aD (SN.sem (vo "_law_row_here" [] rfl (by x_go) (nq (cY rfl (.inr Lu))) (fun _ _ _ _ _ _=>vp) (fun _ _ _ _ _ _=>(fK tV rfl B_len xbZ u6 (aD (cY rfl (.inl (by kernel_rfl))) aK aN)))) pX) aK Xg)) Ei) (aF (bZ (i:=4) nd rfl Lv (bK g_ h_ (bK pD pG (bK pD pG (bK Fp FJ Sv Sv) (bK Fp FJ Ei Sv)) Ei) Ei)) (aF (Xe "_law_way" [("_law_left",2)] (i:=5) nd rfl Lv rfl (by x_go) (CQ rfl B_range (aD (fK tV rfl B_len xbZ u6 (aD (cY rfl (.inr Lu)) aK aN)) aK kj)) (fun _ _ _ _ _ _=>(Gv (CW (wI (X:=cP _ _ _ _ _ _ _ _ _) hu .ne) xK (Ek (cY rfl (.inr (.inl (by kernel_rfl)))) (cY rfl (.inl (by kernel_rfl)))) (SN.sem (cZ aK) lst_is)))) (fun _ _ _ _ _ _=>(cY rfl (.inl (by kernel_rfl))))) (aF (bZ (i:=6) nd rfl Lv (Ek Sv (bK g_ h_ (bK rW sy Sv Ei) (fK tV rfl B_len xbZ u6 (aD Sv aK aN))))) (aF (zeV rfl Lu (dI (aD Sv (aD (zcx (Ek (cY rfl (.inr Lu)) Sv) Ei) aK kj) aN))) aJ))))) ?_;refine Gi ?_;exact aF (aY Sv) aJ
def zaA (T:Txt K mg C w):RT P w K mg base k f ["self"] "Station.low" M7 HS:=fun cdv A outer s H E hr=>by
 cb_eq;have nd:=(V2).nd;have B_min:=T.blt "min" (by x_go);exact aF (aY (fK (Qy rfl) rfl B_min boot_min U5 (aD (kh T.cl_PourStation T.na_PourStation_marks Sv) aK Oj))) aJ
def zam (T:Txt K mg C w):RT P w K mg base k f ["self","low"] "Station.close_at" M6 Qf:=fun cdv A outer s H E hr=>by
 cb_eq;have nd:=(V1).nd;exact aF (aY (SN.sem (cZ aK) lst_is)) aJ
theorem zao (T:Txt K mg C w)(a_item_of:bB P w K mg base k "item_of" 1 mj)(a_PourStation_close_at:bJ P w K mg base k C.PourStation "close_at" 2 Ag):RT P w K mg base k f ["self","low"] "Station.tell_low" Nf HY:=fun cdv A outer s H E hr=>by
 cb_eq;have nd:=(V7).nd;exact aF (aY (bK pD pG (SN.sem (vo "thing" [] rfl (by x_go) (nq (lV T.cl_PourStation a_PourStation_close_at hr Sv (aD Sv aK aN) (cnt_cons cnt_nil))) (fun _ _ _ _ _ _=>vp) (fun _ _ _ _ _ _=>(cT a_item_of hr rfl (aD (cY rfl (.inl (by kernel_rfl))) aK aN) (cnt_cons cnt_nil)))) pX) (SN.sem (cZ (aD (dI (aD Es (aD Sv aK aN) bU)) aK sW)) lst_is))) aJ
def zag (T:Txt K mg C w)(a_PourStation_low:bJ P w K mg base k C.PourStation "low" 1 gO)(a_PourStation_tell_low:bJ P w K mg base k C.PourStation "tell_low" 2 wU):RT P w K mg base k f ["self","way","mark","before","low"] "Station.take_mark" M_ DP:=fun cdv A outer s H E hr=>by
 cb_eq;have nd:=(V5).nd;refine aF (bO (Ct hu Sv (Ek (kh T.cl_PourStation T.na_PourStation_marks Sv) Sv)) (aF (aY (SN.sem (cZ aK) lst_is)) aJ) aJ) ?_;refine aF (bZ (i:=3) nd rfl Lv (lA T.cl_PourStation a_PourStation_low hr Sv)) ?_;refine aF (Oi (kh T.cl_PourStation T.na_PourStation_marks Sv) Sv Sv) ?_;refine aF (bZ (i:=4) nd rfl Lv (lA T.cl_PourStation a_PourStation_low hr Sv)) ?_;refine aF (bO (Ct hu Sv Sv) (aF (aY (SN.sem (cZ aK) lst_is)) aJ) aJ) ?_;exact aF (aY (lV T.cl_PourStation a_PourStation_tell_low hr Sv (aD Sv aK aN) (cnt_cons cnt_nil))) aJ
def zad (T:Txt K mg C w)(a_item_of:bB P w K mg base k "item_of" 1 mj):RT P w K mg base k f ["self","way","thing"] "Station.take_thing" Nb HX:=fun cdv A outer s H E hr=>by
 cb_eq;have nd:=(V6).nd;exact aF (aY (SN.sem (cZ (aD (cT a_item_of hr rfl (aD Sv aK aN) (cnt_cons cnt_nil)) aK kj)) lst_is)) aJ
def zas (T:Txt K mg C w)(a_PourStation_take_mark:bJ P w K mg base k C.PourStation "take_mark" 3 rm)(a_PourStation_take_thing:bJ P w K mg base k C.PourStation "take_thing" 3 wR):RT P w K mg base k f ["self","way","item"] "Station.take_in" M9 DN:=fun cdv A outer s H E hr=>by
 cb_eq;have nd:=(V4).nd;refine aF (bO (Ct hu (Ek Sv Ei) Es) (aF (aY (lV T.cl_PourStation a_PourStation_take_mark hr Sv (aD Sv (aD (Ek Sv Ei) aK d8) aN) (cnt_cons (cnt_cons cnt_nil)))) aJ) aJ) ?_;exact aF (aY (lV T.cl_PourStation a_PourStation_take_thing hr Sv (aD Sv (aD (Oa Sv (zu (Wx:=W0) Ei) Gu) aK d8) aN) (cnt_cons (cnt_cons cnt_nil)))) aJ
theorem zae (T:Txt K mg C w)(a_item_of:bB P w K mg base k "item_of" 1 mj)(a_pairer_of__pair:kI P w K mg base k gB 2 rD):RT P w K mg base k f ["self","way","thing","told","other"] "JoinStation.take_thing" MJ HF:=fun cdv A outer s H E hr=>by
 cb_eq;have nd:=(VN).nd;have B_sorted:=T.blt "sorted" (by x_go);refine aF (vq (Ek (kh T.cl_JoinStation T.na_JoinStation_kept Sv) Sv) Sv) ?_;refine aF (Gw (i:=3) nd rfl Lv (cZ aK)) ?_;refine aF (sV xbE rfl nd rfl Lv (nq (SN.sem (Gn rfl B_sorted (Ek (kh T.cl_JoinStation T.na_JoinStation_kept Sv) (bK BK Ca Ei Sv))) Gq)) (aF (Og rfl Lu (WX (Ct hu Sv Ei) (WQ T.cl_JoinStation T.na_JoinStation_pair a_pairer_of__pair hr Sv (aD Sv (aD Sv aK aN) aN) (cnt_cons (cnt_cons cnt_nil))) (WQ T.cl_JoinStation T.na_JoinStation_pair a_pairer_of__pair hr Sv (aD Sv (aD Sv aK aN) aN) (cnt_cons (cnt_cons cnt_nil))))) aJ)) ?_;refine Gi ?_;exact aF (aY (SN.sem (vo "pair" [] rfl (by x_go) (nq Sv) (fun _ _ _ _ _ _=>vp) (fun _ _ _ _ _ _=>(cT a_item_of hr rfl (aD (cY rfl (.inl (by kernel_rfl))) aK aN) (cnt_cons cnt_nil)))) pX)) aJ
def zaz (T:Txt K mg C w):RT P w K mg base k f ["self"] "Station.low" Mw Hz:=fun cdv A outer s H E hr=>by
 cb_eq;have nd:=(VG).nd;have B_min:=T.blt "min" (by x_go);exact aF (aY (fK (Qy rfl) rfl B_min boot_min U5 (aD (kh T.cl_JoinStation T.na_JoinStation_marks Sv) aK Oj))) aJ
theorem zat (T:Txt K mg C w):RT P w K mg base k f ["self","low","kept"] "JoinStation.left_at" Mv Hy:=fun cdv A outer s H E hr=>by
 cb_eq;have nd:=(VF).nd;exact aF (aY (pJ (Xd 1000 "thing" [("low",1),("self",0)] rfl (by x_go) Sv (fun _ _ _ _ _ _=>(Gv (CW (wI (X:=cP _ _ _ _ _ _ _ _ _) hu .ge) xK (bK pD pG (Ek (cY rfl (.inl (by kernel_rfl))) Ei) (kh T.cl_JoinStation T.na_JoinStation_span (cY rfl (.inr (.inl (by kernel_rfl)))))) (cY rfl (.inr (.inl (by kernel_rfl))))))) (fun _ _ _ _ _ _=>(cY rfl (.inl (by kernel_rfl))))))) aJ
def zak (T:Txt K mg C w)(a_JoinStation_left_at:bJ P w K mg base k C.JoinStation "left_at" 3 lK):RT P w K mg base k f ["self","low"] "JoinStation.close_at" Mu Hx:=fun cdv A outer s H E hr=>by
 cb_eq;have nd:=(VD).nd;refine aF (yq T.cl_JoinStation T.na_JoinStation_kept Sv (dI (aD (lV T.cl_JoinStation a_JoinStation_left_at hr Sv (aD Sv (aD (Ek (kh T.cl_JoinStation T.na_JoinStation_kept Sv) Ei) aK d8) aN) (cnt_cons (cnt_cons cnt_nil))) (aD (lV T.cl_JoinStation a_JoinStation_left_at hr Sv (aD Sv (aD (Ek (kh T.cl_JoinStation T.na_JoinStation_kept Sv) Ei) aK d8) aN) (cnt_cons (cnt_cons cnt_nil))) aK kj) kj))) ?_;exact aF (aY (SN.sem (cZ aK) lst_is)) aJ
theorem zai (T:Txt K mg C w)(a_item_of:bB P w K mg base k "item_of" 1 mj)(a_JoinStation_close_at:bJ P w K mg base k C.JoinStation "close_at" 2 wN):RT P w K mg base k f ["self","low"] "Station.tell_low" MK HJ:=fun cdv A outer s H E hr=>by
 cb_eq;have nd:=(VP).nd;exact aF (aY (bK pD pG (SN.sem (vo "thing" [] rfl (by x_go) (nq (lV T.cl_JoinStation a_JoinStation_close_at hr Sv (aD Sv aK aN) (cnt_cons cnt_nil))) (fun _ _ _ _ _ _=>vp) (fun _ _ _ _ _ _=>(cT a_item_of hr rfl (aD (cY rfl (.inl (by kernel_rfl))) aK aN) (cnt_cons cnt_nil)))) pX) (SN.sem (cZ (aD (dI (aD Es (aD Sv aK aN) bU)) aK sW)) lst_is))) aJ
def zah (T:Txt K mg C w)(a_JoinStation_low:bJ P w K mg base k C.JoinStation "low" 1 gA)(a_JoinStation_tell_low:bJ P w K mg base k C.JoinStation "tell_low" 2 wO):RT P w K mg base k f ["self","way","mark","before","low"] "Station.take_mark" MF zX:=fun cdv A outer s H E hr=>by
 cb_eq;have nd:=(VL).nd;refine aF (bO (Ct hu Sv (Ek (kh T.cl_JoinStation T.na_JoinStation_marks Sv) Sv)) (aF (aY (SN.sem (cZ aK) lst_is)) aJ) aJ) ?_;refine aF (bZ (i:=3) nd rfl Lv (lA T.cl_JoinStation a_JoinStation_low hr Sv)) ?_;refine aF (Oi (kh T.cl_JoinStation T.na_JoinStation_marks Sv) Sv Sv) ?_;refine aF (bZ (i:=4) nd rfl Lv (lA T.cl_JoinStation a_JoinStation_low hr Sv)) ?_;refine aF (bO (Ct hu Sv Sv) (aF (aY (SN.sem (cZ aK) lst_is)) aJ) aJ) ?_;exact aF (aY (lV T.cl_JoinStation a_JoinStation_tell_low hr Sv (aD Sv aK aN) (cnt_cons cnt_nil))) aJ
def zar (T:Txt K mg C w)(a_JoinStation_take_thing:bJ P w K mg base k C.JoinStation "take_thing" 3 tW)(a_JoinStation_take_mark:bJ P w K mg base k C.JoinStation "take_mark" 3 n_):RT P w K mg base k f ["self","way","item"] "Station.take_in" Mz DK:=fun cdv A outer s H E hr=>by
 cb_eq;have nd:=(VJ).nd;refine aF (bO (Ct hu (Ek Sv Ei) Es) (aF (aY (lV T.cl_JoinStation a_JoinStation_take_mark hr Sv (aD Sv (aD (Ek Sv Ei) aK d8) aN) (cnt_cons (cnt_cons cnt_nil)))) aJ) aJ) ?_;exact aF (aY (lV T.cl_JoinStation a_JoinStation_take_thing hr Sv (aD Sv (aD (Oa Sv (zu (Wx:=W0) Ei) Gu) aK d8) aN) (cnt_cons (cnt_cons cnt_nil)))) aJ
def zcP (T:Txt K mg C w)(a_PourStation_take_in:bJ P w K mg base k C.PourStation "take_in" 3 kZ)(a_JoinStation_take_in:bJ P w K mg base k C.JoinStation "take_in" 3 lM):RT P w K mg base k f ["_law_station","_law_order","_law_told_here","_law_way","_law_item_here","_law_found"] "_law_told" Nm Ih:=fun cdv A outer s H E hr=>by
 cb_eq;have nd:=(Wc).nd;have B_isinstance:=T.blt "isinstance" (by x_go);have B_list:=T.blt "list" (by x_go);refine aF (Gw (i:=2) nd rfl Lv (cZ aK)) ?_;refine aF (zcN xbE rfl (W5 (i:=3) nd rfl Lv (W5 (i:=4) nd rfl Lv zdJ)) (nq Sv) (aF (bZ (i:=5) nd rfl Lv (Cz (lV T.cl_PourStation a_PourStation_take_in hr Sv (aD Sv (aD Sv aK aN) aN) (cnt_cons (cnt_cons cnt_nil))) (lV T.cl_JoinStation a_JoinStation_take_in hr Sv (aD Sv (aD Sv aK aN) aN) (cnt_cons (cnt_cons cnt_nil))))) (aF (bO (Gy (yr (zcK (T:="list") (fun t b h=>zcR t "list" b h) Sv rfl B_isinstance rfl B_list boot_list))) (aF (aY (yd Lb)) aJ) aJ) (aF (Og rfl Lu Sv) aJ)))) ?_;refine Gi ?_;exact aF (aY Sv) aJ
def zaD (T:Txt K mg C w):RT P w K mg base k f ["_law_told_here","_law_mark","_law_item_here"] "_law_keeps_promise" Nj Ie:=fun cdv A outer s H E hr=>by
 cb_eq;have nd:=(Wa).nd;obtain⟨t_LAST,m_LAST⟩:=T.k_LAST;refine aF (bZ (i:=1) nd rfl Lv Ei) ?_;refine aF (sV xbE rfl nd rfl Lv (nq Sv) (aF (bO (SW.st (zA (SW.st (zek (Ct hu (Ek Sv Ei) Es) (zdq (Ct hu (Ek Sv Ei) Sv)))) (zB (Ct hu (Ek Sv Ei) Sv)))) (aF (aY Eb) aJ) aJ) (aF (bO (Ct hu (Ek Sv Ei) Es) (aF (bZ (i:=1) nd rfl Lv (Ek Sv Ei)) aJ) aJ) aJ))) ?_;exact aF (aY (Cm hu Sv (gk (rZ (v:=(.int 1000000000000000)) rfl m_LAST ⟨t_LAST,rfl⟩)))) aJ
def zan (T:Txt K mg C w):RT P w K mg base k f ["self"] "Station.all_kept" MP Qe:=fun cdv A outer s H E hr=>by
 cb_eq;have nd:=(V0).nd;exact aF (aY (SN.sem (cZ aK) lst_is)) aJ
def zax (T:Txt K mg C w)(a_PourStation_all_kept:bJ P w K mg base k C.PourStation "all_kept" 1 Af):RT P w K mg base k f ["self"] "Station.state" M8 HW:=fun cdv A outer s H E hr=>by
 cb_eq;have nd:=(V3).nd;have B_list:=T.blt "list" (by x_go);exact aF (aY (dI (aD (SN.sem (Oc rfl B_list (kh T.cl_PourStation T.na_PourStation_marks Sv)) T7) (aD (lA T.cl_PourStation a_PourStation_all_kept hr Sv) aK kj) kj))) aJ
theorem zaj (T:Txt K mg C w):RT P w K mg base k f ["self","kept","way"] "JoinStation.all_kept" Ge Hw:=fun cdv A outer s H E hr=>by
 cb_eq;have nd:=(VB).nd;have B_sorted:=T.blt "sorted" (by x_go);refine aF (Gw (i:=1) nd rfl Lv (cZ aK)) ?_;refine aF (sV xbE rfl nd rfl (.inr zab) (zfG (dI (aD Ei (aD Ei aK bU) bU))) (aF (Og rfl Lu (SN.sem (Xc 1000 "thing" [("way",2)] rfl (by x_go) (Ek (kh T.cl_JoinStation T.na_JoinStation_kept Sv) (cY rfl (.inr Lu))) (fun _ _ _ _ _ _=>(bK zcF zc8 (dI (aD (cY rfl (.inr (.inl (by kernel_rfl)))) aK aN)) (cY rfl (.inl (by kernel_rfl)))))) QW)) aJ)) ?_;refine Gi ?_;exact aF (aY (SN.sem (Gn rfl B_sorted Sv) Gq)) aJ
def zav (T:Txt K mg C w)(a_JoinStation_all_kept:bJ P w K mg base k C.JoinStation "all_kept" 1 wM):RT P w K mg base k f ["self"] "Station.state" Mx HD:=fun cdv A outer s H E hr=>by
 cb_eq;have nd:=(VH).nd;have B_list:=T.blt "list" (by x_go);exact aF (aY (dI (aD (SN.sem (Oc rfl B_list (kh T.cl_JoinStation T.na_JoinStation_marks Sv)) T7) (aD (lA T.cl_JoinStation a_JoinStation_all_kept hr Sv) aK kj) kj))) aJ
theorem zgA (T:Txt K mg C w)(a_station_of:bB P w K mg base k "station_of" 1 rG)(a__cell_at:bB P w K mg base k "_law_cell_at" 2 lZ)(a__row:bB P w K mg base k "_law_row" 1 yO)(a__items:bB P w K mg base k "_law_items" 2 yM)(a__woven:bB P w K mg base k "_law_woven" 2 Ah)(a__told:bB P w K mg base k "_law_told" 2 wV)(a__keeps_promise:bB P w K mg base k "_law_keeps_promise" 1 yN)(a_PourStation_low:bJ P w K mg base k C.PourStation "low" 1 gO)(a_PourStation_state:bJ P w K mg base k C.PourStation "state" 1 q_)(a_JoinStation_low:bJ P w K mg base k C.JoinStation "low" 1 gA)(a_JoinStation_state:bJ P w K mg base k C.JoinStation "state" 1 p8):RT P w K mg base k f ["_law_script","_law_row_here","_law_ways","_law_items_here","_law_straight","_law_way","_law_one","_law_other","_law_first","_law_second","_law_things"] "law" mF DR:=fun cdv A outer s H E hr=>by
 cb_eq;have nd:=(Ws).nd;have B_len:=T.blt "len" (by x_go);have B_range:=T.blt "range" (by x_go);have B_sorted:=T.blt "sorted" (by x_go);obtain⟨t_LAST,m_LAST⟩:=T.k_LAST;refine aF (bZ (i:=1) nd rfl Lv (cT a__row hr rfl (aD Sv aK aN) (cnt_cons cnt_nil))) ?_;refine aF (bZ (i:=2) nd rfl Lv (fK tV rfl B_len xbZ u6 (aD (Ek Sv Ei) aK d8))) ?_;refine aF (bZ (i:=3) nd rfl Lv (cT a__items hr rfl (aD Sv (aD Sv aK aN) aN) (cnt_cons (cnt_cons cnt_nil)))) ?_;refine aF (bZ (i:=4) nd rfl Lv (SN.sem (cZ aK) lst_is)) ?_;refine aF (sV xbE rfl nd rfl (.inr zbo) (CQ rfl B_range (aD Sv aK aN)) (aF (bZ (i:=4) nd rfl Lv (bK pD pG Sv (SN.sem (Xc 1000 "_law_item_here" [("_law_way",5)] rfl (by x_go) (Ek Sv (cY rfl (.inr Lu))) (fun _ _ _ _ _ _=>(dI (aD (cY rfl (.inr (.inl (by kernel_rfl)))) (aD (cY rfl (.inl (by kernel_rfl))) aK aN) aN)))) QW))) aJ)) ?_;refine aF (bZ (i:=6) nd rfl Lv (cT a_station_of hr rfl (aD Sv aK aN) (cnt_cons cnt_nil))) ?_;refine aF (bZ (i:=7) nd rfl Lv (cT a_station_of hr rfl (aD Sv aK aN) (cnt_cons cnt_nil))) ?_;refine aF (bZ (i:=8) nd rfl Lv (cT a__told hr rfl (aD Sv (aD Sv aK aN) aN) (cnt_cons (cnt_cons cnt_nil)))) ?_;refine aF (bZ (i:=9) nd rfl Lv (cT a__told hr rfl (aD Sv (aD (cT a__woven hr rfl (aD Sv (aD (bK rW sy (cT a__cell_at hr rfl (aD Sv (aD Ei aK bU) aN) (cnt_cons (cnt_cons cnt_nil))) Ei) aK Gx) aN) (cnt_cons (cnt_cons cnt_nil))) aK kj) aN) (cnt_cons (cnt_cons cnt_nil)))) ?_;refine aF (bO (SW.st (zA (Ct hu Sv (yd Lb)) (zB (Ct hu Sv (yd Lb))))) (aF (aY Eb) aJ) aJ) ?_;refine aF (bO (SW.st (zA (Gy (yr (cT a__keeps_promise hr rfl (aD Sv aK aN) (cnt_cons cnt_nil)))) (zB (Gy (yr (cT a__keeps_promise hr rfl (aD Sv aK aN) (cnt_cons cnt_nil))))))) (aF (aY Eb) aJ) aJ) ?_;refine aF (bZ (i:=10) nd rfl Lv (SN.sem (Gn rfl B_sorted (SN.sem (vo "_law_item_here" [] rfl (by x_go) (nq Sv) (fun _ _ _ _ _ _=>(Gv (CW (wI (X:=cP _ _ _ _ _ _ _ _ _) hu .eq) xK (Ek (cY rfl (.inl (by kernel_rfl))) Ei) Es))) (fun _ _ _ _ _ _=>(cY rfl (.inl (by kernel_rfl))))) pX)) Gq)) ?_;refine aF (bO (Ct hu Sv (SN.sem (Gn rfl B_sorted (SN.sem (vo "_law_item_here" [] rfl (by x_go) (nq Sv) (fun _ _ _ _ _ _=>(Gv (CW (wI (X:=cP _ _ _ _ _ _ _ _ _) hu .eq) xK (Ek (cY rfl (.inl (by kernel_rfl))) Ei) Es))) (fun _ _ _ _ _ _=>(cY rfl (.inl (by kernel_rfl))))) pX)) Gq)) (aF (aY Eb) aJ) aJ) ?_;exact aF (aY (zm (Cm hu (Cz (lA T.cl_PourStation a_PourStation_state hr Sv) (lA T.cl_JoinStation a_JoinStation_state hr Sv)) (Cz (lA T.cl_PourStation a_PourStation_state hr Sv) (lA T.cl_JoinStation a_JoinStation_state hr Sv))) (zm (Cm hu (Cz (lA T.cl_PourStation a_PourStation_low hr Sv) (lA T.cl_JoinStation a_JoinStation_low hr Sv)) (gk (rZ (v:=(.int 1000000000000000)) rfl m_LAST ⟨t_LAST,rfl⟩))) (vh (Cm hu (Cz (lA T.cl_PourStation a_PourStation_low hr Sv) (lA T.cl_JoinStation a_JoinStation_low hr Sv)) (gk (rZ (v:=(.int 1000000000000000)) rfl m_LAST ⟨t_LAST,rfl⟩))))))) aJ
end
noncomputable def tabs:List (Str×FnT):=[("change_of",lN),("pairer_of",gB)]
noncomputable def xG:Nat:=12
def gR:G:=R3
abbrev wNs:String:="za L_ Mf zfD xO xU U7 Vg q_1 r_1 q_2 r_2 LK zfM zgl Px zgk zgW zfZ zf5 zfq zgf zgS zfR Lj zfI zf8 zgG zfy zdM zdX q_n r_n zdG zgN zgY zdh zfz Vf zdr zdy zdg zd0 Lk zfX zf0 U_ U9 Vh zfa zgd ze6 zfd zgm zeY LQ Lh zf2 zgJ zfL zgx zge zgX zd5 zdQ zej xM zfu zeG zd1 zd7 zg2 zez zfQ zga zg1 K6 K5 K4 K3 zfY zfV zgg zfs zdT zgL zfE ze0 zeZ zgU sizeLine_eq Option.map_some Option.map_none List.getElem?_cons_zero List.getElem?_cons_succ List.set_cons_zero List.set_cons_succ List.map_cons List.map_nil List.length_cons List.length_nil List.length_map List.replicate List.cons_append List.nil_append List.append_nil reduceCtorEq if_true if_false reduceIte Bool.not_true Bool.not_false Nat.reduceSub Nat.reduceAdd Nat.reduceLeDiff Nat.reduceLT Int.reduceLT Int.reduceLE Int.reduceAdd Int.reduceSub Int.reduceMul Int.reduceNeg Int.reduceAbs Int.reduceEq Int.reducePow Int.reduceMod Int.reduceDiv Int.reduceToNat Nat.zero_le and_true true_and and_self or_true true_or Bool.false_eq_true decide_eq_true_eq decide_true decide_false Bool.not_eq_true' decide_eq_false_iff_not not_false_eq_true eq_self zeL zfn zcV zed ze9 Option.getD_some zgj zfT zeC zfU zgD zfN zfF zf7 List.isEmpty_cons List.isEmpty_nil Bool.true_eq_false Bool.and_self Bool.and_true Bool.true_and Bool.and_false Bool.false_and zgO zeA zf9 zfS zd4 zdK zdH zdf Fi Fg zg0 zf1 Bool.true_or Bool.false_or Bool.or_true Bool.or_false at0 at1 at2 Yt rz w_end U8 mD sG zec"
local macro_rules | `(tactic| z_go)=>do
 let l <-(wNs.splitOn " ").toArray.mapM fun n=> `(Lean.Parser.Tactic.simpLemma| $(Lean.mkIdent n.toName):term)
 `(tactic| try simp only[$l,*])
variable {M:Mm}
noncomputable def pq:List Str:=["-","v","w"]
abbrev u5 (v o:Int):Int:=v - o
abbrev kc (ks:List Str):E3.Cl:=.lst (ks.map D.str)
def fY {N E:Mm}{k:Nat}{c:E3.Cl}(h:N[k]? =some c):(N ++ E)[k]? =some c:=by rw[xaC (xah.mp h).1];exact h
def K_ {ds:List D}{d:D}{f:E}{env:E3.Env}(h:f env (M ++ [.lst (ds ++ [d])])=some (.v (.ref M.length),M ++ [.lst (ds ++ [d])])):cX f env (M ++ [.lst (ds ++ [d])])=some (.v d,M ++ [.lst ds]):=by
 rw[zeh (M1:=M ++ [.lst (ds ++ [d])]) h rz,s_end]
def Dy {ds:List D}{d:D}{f g:E}{env:E3.Env}(h:f env (M ++ [.lst ds])=some (.v (.ref M.length),M ++ [.lst ds]))(hg:g env (M ++ [.lst ds])=some (.v d,M ++ [.lst ds]))(hl:ds.length<900):cW f g env (M ++ [.lst ds])=some (.nx env,M ++ [.lst (ds ++ [d])]):=by
 rw[Hr (M1:=M ++ [.lst ds]) (M2:=M ++ [.lst ds]) h rz hg rz (by rw[xa8];lia),s_end]
section
variable {t v o:Int}{a0 a6 a7:Slot}
def Ce {x:Str}{d:D}{ds:List D}(c1:s2 (aG .eq) (aj 5) (ak (.str "not")) [a0,.val (.int t),.val (.int v),.val (.int o),.val (.ref M.length),.val (.str x),a6,a7] (M ++ [.lst ds])=some (.v (.bl false),M ++ [.lst ds]))(c2:dj true kE (aj 5) [a0,.val (.int t),.val (.int v),.val (.int o),.val (.ref M.length),.val (.str x),a6,a7] (M ++ [.lst ds])=some (.v (.bl false),M ++ [.lst ds]))(c3:bQ Ao (au (aj 5) (au (aj 1) (au (aj 2) (au (aj 3) ao)))) [a0,.val (.int t),.val (.int v),.val (.int o),.val (.ref M.length),.val (.str x),a6,a7] (M ++ [.lst ds])=some (.v d,M ++ [.lst ds]))(hl:ds.length<900):
  xu [a0,.val (.int t),.val (.int v),.val (.int o),.val (.ref M.length),.val (.str x),a6,a7] (M ++ [.lst ds])=some (.nx [a0,.val (.int t),.val (.int v),.val (.int o),.val (.ref M.length),.val (.str x),a6,a7],M ++ [.lst (ds ++ [d])]):=by
 have ap:=Dy (f:=aj 4) (env:=[a0,.val (.int t),.val (.int v),.val (.int o),.val (.ref M.length),.val (.str x),a6,a7]) rfl c3 hl;unfold xu;generalize cW (aj 4) (bQ Ao _)=F3 at ap ⊢;generalize dj true kE (aj 5)=F2 at c2 ⊢;generalize s2 (aG .eq) (aj 5) (ak (.str "not"))=F1 at c1 ⊢;z_go;rw[c1];z_go;rw[c2];z_go;rw[ap];z_go
theorem LR:xu [a0,.val (.int t),.val (.int v),.val (.int o),.val (.ref M.length),.val (.str "-"),a6,a7] (M ++ [.lst [.int o,.int v]])=some (.nx [a0,.val (.int t),.val (.int v),.val (.int o),.val (.ref M.length),.val (.str "-"),.val (.int v),.val (.int o)],M ++ [.lst [.int (v - o)]]):=by
 have c1:s2 (aG .eq) (aj 5) (ak (.str "not")) [a0,.val (.int t),.val (.int v),.val (.int o),.val (.ref M.length),.val (.str "-"),a6,a7] (M ++ [.lst [.int o,.int v]])=some (.v (.bl false),M ++ [.lst [.int o,.int v]]):=by kernel_rfl
 have c2:dj true kE (aj 5) [a0,.val (.int t),.val (.int v),.val (.int o),.val (.ref M.length),.val (.str "-"),a6,a7] (M ++ [.lst [.int o,.int v]])=some (.v (.bl true),M ++ [.lst [.int o,.int v]]):=by kernel_rfl
 have p1:cX (aj 4) [a0,.val (.int t),.val (.int v),.val (.int o),.val (.ref M.length),.val (.str "-"),a6,a7] (M ++ [.lst [.int o,.int v]])=some (.v (.int v),M ++ [.lst [.int o]]):=K_ (ds:=[.int o]) rfl;have p2:cX (aj 4) [a0,.val (.int t),.val (.int v),.val (.int o),.val (.ref M.length),.val (.str "-"),.val (.int v),a7] (M ++ [.lst [.int o]])=some (.v (.int o),M ++ [.lst []]):=K_ (ds:=[]) rfl;have c3:bQ yQ (au (aj 5) (au (aj 6) (au (aj 7) ao))) [a0,.val (.int t),.val (.int v),.val (.int o),.val (.ref M.length),.val (.str "-"),.val (.int v),.val (.int o)] (M ++ [.lst []])=some (.v (.int (v - o)),M ++ [.lst []]):=by kernel_rfl
 have ap:cW (aj 4) (bQ yQ (au (aj 5) (au (aj 6) (au (aj 7) ao)))) [a0,.val (.int t),.val (.int v),.val (.int o),.val (.ref M.length),.val (.str "-"),.val (.int v),.val (.int o)] (M ++ [.lst []])=some (.nx [a0,.val (.int t),.val (.int v),.val (.int o),.val (.ref M.length),.val (.str "-"),.val (.int v),.val (.int o)],M ++ [.lst [.int (v - o)]]):=Dy rfl c3 (by decide);unfold xu;generalize cW (aj 4) (bQ yQ _)=F3 at ap ⊢;generalize cW _ _=F5;generalize cW _ _=F6;generalize cX (aj 4)=F4 at p1 p2 ⊢;generalize dj true kE (aj 5)=F2 at c2 ⊢;generalize s2 (aG .eq) (aj 5) (ak (.str "not"))=F1 at c1 ⊢;z_go;rw[c1];z_go;rw[c2];z_go;rw[p1];z_go;rw[p2];z_go;rw[ap];z_go
end
theorem Ml {t v w:Int}(N:Mm):wX [.tup (pq.map D.str),.int t,.int v,.int w] N=some (.v (.int (u5 v w)),N ++ [.lst [.int (u5 v w)]]):=by
 have e1:=Ce (M:=N) (t:=t) (v:=v) (o:=w) (a0:=.val (.tup (pq.map D.str))) (a6:=.un) (a7:=.un) (x:="w") (d:=.int w) (ds:=[]) (by kernel_rfl) (by kernel_rfl) (by kernel_rfl) (by decide);have e2:=Ce (M:=N) (t:=t) (v:=v) (o:=w) (a0:=.val (.tup (pq.map D.str))) (a6:=.un) (a7:=.un) (x:="v") (d:=.int v) (ds:=[.int w]) (by kernel_rfl) (by kernel_rfl) (by kernel_rfl) (by show 1<900;decide);have e3:=LR (M:=N) (t:=t) (v:=v) (o:=w) (a0:=.val (.tup (pq.map D.str))) (a6:=.un) (a7:=.un);have lp:loopS 5 xu [.str "w",.str "v",.str "-"] [.val (.tup (pq.map D.str)),.val (.int t),.val (.int v),.val (.int w),.val (.ref N.length),.un,.un,.un] (N ++ [.lst []])=some (.nx [.val (.tup (pq.map D.str)),.val (.int t),.val (.int v),.val (.int w),.val (.ref N.length),.val (.str "-"),.val (.int v),.val (.int w)],N ++ [.lst [.int (v - w)]]):=by
  fen_go;rw[e1];simp only[sG];fen_go;rw[show([]:List D) ++ [.int w]=[.int w] from rfl,e2];simp only[sG];fen_go;rw[show [D.int w] ++ [.int v]=[.int w,.int v] from rfl,e3];rfl
 have wv:vw (N ++ [.lst [.int (v - w)]]) (.ref N.length)=.lst [.int (v - w)]:=gG rz;have it:fZ (au (aj 0) ao) [.val (.tup (pq.map D.str)),.val (.int t),.val (.int v),.val (.int w),.val (.ref N.length),.un,.un,.un] (N ++ [.lst []])=some (.v [.str "w",.str "v",.str "-"],N ++ [.lst []]):=by kernel_rfl
 unfold wX Ir u5;generalize xu=B at lp ⊢;generalize fZ _=IT at it ⊢;generalize [D.str "w",.str "v",.str "-"]=WS at lp it;generalize D.tup (pq.map D.str)=P at *;z_go;rw[it];z_go;rw[lp];z_go
noncomputable def fO (ws:List Str):E3.Cl:=.obj "Expr" [("parts",.tup (ws.map D.str))]
section
variable {a0:Slot}
def Ay {x:Str}{ds:List D}(c2:dj true kE (aj 4) [a0,.val (.str "tvw"),.val (.str "number"),.val (.ref M.length),.val (.str x)] (M ++ [.lst ds])=some (.v (.bl false),M ++ [.lst ds]))(c3:bQ Am (au (aj 4) (au (aj 1) ao)) [a0,.val (.str "tvw"),.val (.str "number"),.val (.ref M.length),.val (.str x)] (M ++ [.lst ds])=some (.v (.bl true),M ++ [.lst ds]))(hl:ds.length<900):
  xq [a0,.val (.str "tvw"),.val (.str "number"),.val (.ref M.length),.val (.str x)] (M ++ [.lst ds])=some (.nx [a0,.val (.str "tvw"),.val (.str "number"),.val (.ref M.length),.val (.str x)],M ++ [.lst (ds ++ [.str "number"])]):=by
 have ap:=Dy (f:=aj 3) (g:=ak (.str "number")) (env:=[a0,.val (.str "tvw"),.val (.str "number"),.val (.ref M.length),.val (.str x)]) rfl rfl hl;unfold xq;generalize cW (aj 3) (ak _)=F3 at ap ⊢;generalize dj true kE (aj 4)=F2 at c2 ⊢;generalize bQ Am _=F1 at c3 ⊢;z_go;rw[c2];z_go;rw[c3];z_go;rw[ap];z_go
def tk1 {i:Int}{ds:List D}{q:D}(hq:s2 aM (aj 2) (ak (.int 1)) [.val (.str "-"),.val (.ref M.length),.val q,.val (.int i)] (M ++ [.lst ds])=some (.v (.str "number"),M ++ [.lst ds])):Bc [.val (.str "-"),.val (.ref M.length),.val q,.val (.int i)] (M ++ [.lst (ds ++ [.str "number"])])=some (.nx [.val (.str "-"),.val (.ref M.length),.val q,.val (.int i)],M ++ [.lst ds]):=by
 have p1:=K_ (M:=M) (ds:=ds) (d:=.str "number") (f:=aj 1) (env:=[.val (.str "-"),.val (.ref M.length),.val q,.val (.int i)]) rfl;have wv:vw (M ++ [.lst (ds ++ [.str "number"])]) (.ref M.length)=.lst (ds ++ [.str "number"]):=gG rz;unfold Bc;generalize cX (aj 1)=F1 at p1 ⊢;generalize s2 aM (aj 2) (ak (.int 1))=F2 at hq ⊢;have ne:(ds ++ [D.str "number"]).isEmpty=false:=by cases ds<;>rfl
 z_go;rw[ne];z_go;rw[p1];z_go;rw[hq];z_go
theorem zha:yR [.str "-",.ref M.length] (M ++ [.lst [.str "number",.str "number"]])=some (.v .non,M ++ [.lst []]):=by
 have e1:=tk1 (M:=M) (i:=0) (ds:=[.str "number"]) (q:=.tup [.str "number",.str "number",.int 2]) rfl;have e2:=tk1 (M:=M) (i:=1) (ds:=[]) (q:=.tup [.str "number",.str "number",.int 2]) rfl;have lp:loopS 3 Bc [.int 0,.int 1] [.val (.str "-"),.val (.ref M.length),.val (.tup [.str "number",.str "number",.int 2]),.un] (M ++ [.lst [.str "number",.str "number"]])=some (.nx [.val (.str "-"),.val (.ref M.length),.val (.tup [.str "number",.str "number",.int 2]),.val (.int 1)],M ++ [.lst []]):=by
  fen_go;rw[show [D.str "number",.str "number"]=[.str "number"] ++ [.str "number"] from rfl,e1];simp only[sG];fen_go;rw[show [D.str "number"]=[] ++ [D.str "number"] from rfl,e2];rfl
 have g1:xX kE (aj 0) [.val (.str "-"),.val (.ref M.length),.un,.un] (M ++ [.lst [.str "number",.str "number"]])=some (.v (.tup [.str "number",.str "number",.int 2]),M ++ [.lst [.str "number",.str "number"]]):=by kernel_rfl
 have it:E3.gP (au (s2 aM (aj 2) (ak (.int 2))) ao) [.val (.str "-"),.val (.ref M.length),.val (.tup [.str "number",.str "number",.int 2]),.un] (M ++ [.lst [.str "number",.str "number"]])=some (.v [.int 0,.int 1],M ++ [.lst [.str "number",.str "number"]]):=by kernel_rfl
 unfold yR Iu;generalize Bc=B at lp ⊢;generalize xX _ _=F1 at g1 ⊢;generalize E3.gP _=F2 at it ⊢;generalize [D.int 0,.int 1]=WS at lp it;generalize [D.str "number",.str "number"]=ds at *;z_go;rw[g1];z_go;rw[it];z_go;rw[lp];z_go
theorem J6:xq [a0,.val (.str "tvw"),.val (.str "number"),.val (.ref M.length),.val (.str "-")] (M ++ [.lst [.str "number",.str "number"]])=some (.nx [a0,.val (.str "tvw"),.val (.str "number"),.val (.ref M.length),.val (.str "-")],M ++ [.lst [.str "number"]]):=by
 have c2:dj true kE (aj 4) [a0,.val (.str "tvw"),.val (.str "number"),.val (.ref M.length),.val (.str "-")] (M ++ [.lst [.str "number",.str "number"]])=some (.v (.bl true),M ++ [.lst [.str "number",.str "number"]]):=by kernel_rfl
 have tk:=zha (M:=M);have ap:cW (aj 3) (s2 aM (xX kE (aj 4)) (ak (.int 0))) [a0,.val (.str "tvw"),.val (.str "number"),.val (.ref M.length),.val (.str "-")] (M ++ [.lst []])=some (.nx [a0,.val (.str "tvw"),.val (.str "number"),.val (.ref M.length),.val (.str "-")],M ++ [.lst [.str "number"]]):=Dy (ds:=[]) rfl (by kernel_rfl) (by decide);unfold xq;generalize cW (aj 3) (s2 aM _ _)=F3 at ap ⊢;generalize cW _ _=F5;generalize dj true kE (aj 4)=F2 at c2 ⊢;generalize yR=GT at tk ⊢;generalize [D.str "number",.str "number"]=ds at *;z_go;rw[c2];z_go;rw[tk];z_go;rw[ap];z_go
theorem Y9:Aj [.tup (pq.map D.str),.str "tvw",.str "number"] M=some (.v .non,M ++ [.lst [.str "number"]]):=by
 have e1:=Ay (M:=M) (a0:=.val (.tup (pq.map D.str))) (x:="w") (ds:=[]) (by kernel_rfl) (by kernel_rfl) (by decide);have e2:=Ay (M:=M) (a0:=.val (.tup (pq.map D.str))) (x:="v") (ds:=[.str "number"]) (by kernel_rfl) (by kernel_rfl) (by show 1<900;decide);have e3:=J6 (M:=M) (a0:=.val (.tup (pq.map D.str)));have lp:loopS 4 xq [.str "w",.str "v",.str "-"] [.val (.tup (pq.map D.str)),.val (.str "tvw"),.val (.str "number"),.val (.ref M.length),.un] (M ++ [.lst []])=some (.nx [.val (.tup (pq.map D.str)),.val (.str "tvw"),.val (.str "number"),.val (.ref M.length),.val (.str "-")],M ++ [.lst [.str "number"]]):=by
  fen_go;rw[e1];simp only[sG];fen_go;rw[show([]:List D) ++ [.str "number"]=[.str "number"] from rfl,e2];simp only[sG];fen_go;rw[show [D.str "number"] ++ [.str "number"]=[.str "number",.str "number"] from rfl,e3];rfl
 have wv:vw (M ++ [.lst [.str "number"]]) (.ref M.length)=.lst [.str "number"]:=gG rz;have it:fZ (au (aj 0) ao) [.val (.tup (pq.map D.str)),.val (.str "tvw"),.val (.str "number"),.val (.ref M.length),.un] (M ++ [.lst []])=some (.v [.str "w",.str "v",.str "-"],M ++ [.lst []]):=by kernel_rfl
 have ne:aG .ne (.lst [.str "number"]) (.lst [.str "number"])=some (.bl false):=by kernel_rfl
 unfold Aj Ik;generalize xq=B at lp ⊢;generalize fZ _=IT at it ⊢;generalize [D.str "w",.str "v",.str "-"]=WS at lp it;generalize D.tup (pq.map D.str)=P at *;z_go;rw[it];z_go;rw[lp];z_go;rw[ne];z_go
end
def zg6 {ws:List Str}:Ae [.ref M.length,.tup (ws.map D.str)] (M ++ [.obj "Expr" []])=some (.v .non,M ++ [.obj "Expr" [("parts",.tup (ws.map D.str))]]):=by
 unfold Ae Hu;z_go;rw[wJ (k:=M.length) (fs:=[]) (M1:=M ++ [.obj "Expr" []]) (M2:=M ++ [.obj "Expr" []]) (x:=.tup (ws.map D.str)) ?_ ?_ rz (by decide),s_end]
 ·rfl
 ·z_go;rfl
 ·z_go
theorem rdE:Aq [.tup (pq.map D.str),.str "tvw"] M=some (.v (.ref (M ++ [kc ["number"]]).length),M ++ [kc ["number"]] ++ [fO pq]):=by
 have e:=Y9 (M:=M);unfold Aq Ip;z_go;rw[e];z_go;rw[Ko (ds:=[.tup (pq.map D.str)]) (M1:=M ++ [kc ["number"]]) (by z_go;rfl) zg6];rfl
def JB {ws:List Str}{k:Nat}{t v o d:D}(hM:M[k]? =some (fO ws))(hr:∀M:Mm,wX [.tup (ws.map D.str),t,v,o] M=some (.v d,M ++ [.lst [d]])):yK [.ref k,t,v,o] M=some (.v d,M ++ [.lst [d]]):=by
 unfold yK Dz;z_go;rw[yI (k:=k) (M1:=M) (by z_go) hM rfl];z_go;rw[hr];z_go
def kY (k:Nat):E3.Cl:=.fn lN [("expr",.ref k)]
noncomputable def pU (s:Int) (f:Nat):E3.Cl:=.fn gB [("span",.int s),("change",.ref f)]
def TT (M:Mm):Prop:=M[0]? =some (.tbl "change_of" lN)/\M[1]? =some (.tbl "pairer_of" gB)
def TT.app {E:Mm}(h:TT M):TT (M ++ E):=⟨fY h.1,fY h.2⟩
noncomputable def hold (i:Int):Int:=if (if i<1000000000000000000000000000000000000000000000000000000000000 then i else 1000000000000000000000000000000000000000000000000000000000000) > -1000000000000000000000000000000000000000000000000000000000000 then if i<1000000000000000000000000000000000000000000000000000000000000 then i else 1000000000000000000000000000000000000000000000000000000000000 else -1000000000000000000000000000000000000000000000000000000000000
def zgn {i:Int}:Ak [.int i] M=some (.v (.int (hold i)),M):=by
 unfold hold Ak Il;z_go
theorem IK {k:Nat}{ws:List Str}{t v o:D}{i:Int}(hM:M[k]? =some (fO ws))(hr:∀M:Mm,wX [.tup (ws.map D.str),t,v,o] M=some (.v (.int i),M ++ [.lst [.int i]])):yP [t,v,o,.ref k] M=some (.v (.int (hold i)),M ++ [.lst [.int i]]):=by
 have a1:aP "Expr" "value" yK (aj 3) (au (aj 0) (au (aj 1) (au (aj 2) ao))) [.val t,.val v,.val o,.val (.ref k)] M=some (.v (.int i),M ++ [.lst [.int i]]):=dG (M1:=M) (M2:=M) (k:=k) (ds:=[t,v,o]) rfl hM (by kernel_rfl) rfl (JB hM hr);show cC (DQ [.val t,.val v,.val o,.val (.ref k)] M)=_;unfold DQ;z_go;rw[a1];z_go;rw[zgn];z_go
noncomputable def tm:D->Int
 |.tup (.int t::_)=>t
 |_=>0
noncomputable def ky:D->Str
 |.tup (_::.str z::_)=>z
 |_=>""
noncomputable def vl:D->Int
 |.tup (_::_::.int v::_)=>v
 |_=>0
def Tg (d:D):Prop:=d=.tup [.int (tm d),.str (ky d),.int (vl d)]
def Asc (ds:List D):Prop:=ds.Pairwise fun a b=>tm a<=tm b
def Tk (d:D):Prop:=∃(t:Int) (z:Str) (v:Int),d=.tup [.int t,.str z,.int v]
theorem zhe {d:D}(h:Tk d):Tg d:=by
 obtain⟨t,z,v,rfl⟩:=h;rfl
variable {M:Mm}
noncomputable def mx (a b:Int):Int:=if b > a then b else a
noncomputable def ab (i:Int):Int:=if i<0 then -i else i
noncomputable def m9 (s:Int) (d e:D):List D:=if ky d=ky e/\ab (tm d - tm e)<=s then [.tup [.int (mx (tm d) (tm e)),.str (ky d),.int (hold (u5 (vl d) (vl e)))]] else []
def mx_b {a b:Int}(h1:a.natAbs<=1000000000000)(h2:b.natAbs<=1000000000000):(mx a b).natAbs<=1000000000000:=by
 unfold mx
 split<;>assumption
def z7 {s t t' v v':Int}{z z':Str}{f k:Nat}(hF:M[f]? =some (kY k))(hM:M[k]? =some (fO pq))(h1:t.natAbs<=1000000000000)(h2:v.natAbs<=1000000000000000000000000000000000000000000000000000000000000)(h1':t'.natAbs<=1000000000000)(h2':v'.natAbs<=1000000000000000000000000000000000000000000000000000000000000):
  ∃E,rD [.tup [.int t,.str z,.int v],.tup [.int t',.str z',.int v'],.int s,.ref f] M=some (.v (.lst (m9 s (.tup [.int t,.str z,.int v]) (.tup [.int t',.str z',.int v']))),M ++ E):=by
 have cf:∀s2:Slot,s2=.val (.int (mx t t'))->iB lN yP (aj 4) (au (aj 2) (au (E3.s2 aM (aj 0) (ak (.int 2))) (au (E3.s2 aM (aj 1) (ak (.int 2))) ao))) [.val (.tup [.int t,.str z,.int v]),.val (.tup [.int t',.str z',.int v']),s2,.val (.int s),.val (.ref f)] M=some (.v (.int (hold (u5 v v'))),M ++ [.lst [.int (u5 v v')]]):=fun s2 e=>by
  subst e;exact Iz (M1:=M) (M2:=M) (k:=f) (ds:=[.int (mx t t'),.int v,.int v']) rfl hF rfl (IK hM Ml)
 have es:m9 s (.tup [.int t,.str z,.int v]) (.tup [.int t',.str z',.int v'])=if z=z'/\ab (t - t')<=s then [.tup [.int (mx t t'),.str z,.int (hold (u5 v v'))]] else []:=rfl
 rw[es];show ∃E,cC (DW [.val (.tup [.int t,.str z,.int v]),.val (.tup [.int t',.str z',.int v']),.un,.val (.int s),.val (.ref f)] M)=_;unfold DW;generalize iB lN yP (aj 4) (au (aj 2) (au (E3.s2 aM (aj 0) (ak (.int 2))) (au (E3.s2 aM (aj 1) (ak (.int 2))) ao)))=F at cf ⊢
 by_cases hc:z=z'/\ab (t - t')<=s
 ·rw[xad hc];obtain⟨rfl,ha⟩:=hc;have ha':¬ (if t - t'<0 then -(t - t') else t - t') > s:=by unfold ab at ha;lia
  have cf':=cf _ rfl;unfold mx at cf' ⊢;refine⟨[.lst [.int (u5 v v')]],?_⟩;z_go;rw[xae (show ¬ s<(if t - t'<0 then -(t - t') else t - t') from ha')]
  z_go;rw[cf'];z_go
 ·rw[xae hc];refine⟨[],?_⟩;rw[xas];z_go
  by_cases hz:z=z'
  ·have hs:s<(if t - t'<0 then -(t - t') else t - t'):=by
    have:¬ ab (t - t')<=s:=fun h=>hc ⟨hz,h⟩;unfold ab at this;lia
   rw[xae (fun h=>h hz),xaX hs];z_go
  ·rw[xad hz];z_go
variable {M:Mm}
def Fr (r h B:Nat)(M M':Mm):Prop:=M.length<=M'.length/\∀k c,k<B->(k<r\/r + h<=k)->M[k]? =some c->M'[k]? =some c
def Fr.refl {r h B:Nat}:Fr r h B M M:=⟨xaf _,fun _ _ _ _ h=>h⟩
def Fr.trans {r h B:Nat}{M' M'':Mm}(f:Fr r h B M M')(g:Fr r h B M' M''):Fr r h B M M'':=⟨xar f.1 g.1,fun k c h1 h2 h=>g.2 k c h1 h2 (f.2 k c h1 h2 h)⟩
def Fr.app {r h B:Nat}{E:Mm}:Fr r h B M (M ++ E):=⟨by rw[xag];lia,fun _ _ _ _ h=>fY h⟩
theorem Fr.set {r h B k:Nat}{c:E3.Cl}(e:(r<=k/\k<r + h)\/B<=k):Fr r h B M (M.set k c):=⟨by rw[xaz];lia,fun i c' h1 h2 z=>by rw[xa0 (by lia)];exact z⟩
noncomputable def OB (r:Nat) (s:Int) (a b:Nat):E3.Cl:=.obj "JoinStation" [("marks",.ref (r + 1)),("span",.int s),("pair",.ref (r + 5)),("kept",.tup [.ref a,.ref b])]
structure J (r B:Nat)(s m0 m1:Int)(a b:Nat)(K0 K1:List D)(M:Mm):Prop where
 o:M[r]? =some (OB r s a b)
 mm:M[r + 1]? =some (.lst [.int m0,.int m1])
 x:M[r + 3]? =some (fO pq)
 h:M[r + 4]? =some (kY (r + 3))
 p:M[r + 5]? =some (pU s (r + 4))
 ka:M[a]? =some (.lst K0)
 kb:M[b]? =some (.lst K1)
 ne:a≠b
 ha:a=r + 6\/B<=a
 hb:b=r + 7\/B<=b
 hB:r + 8<=B
section
variable {r B:Nat}{s m0 m1:Int}{a b:Nat}{K0 K1 T:List D}{E:Mm}
def J.app (j:J r B s m0 m1 a b K0 K1 M):J r B s m0 m1 a b K0 K1 (M ++ E):=⟨fY j.o,fY j.mm,fY j.x,fY j.h,fY j.p,fY j.ka,fY j.kb,j.ne,j.ha,j.hb,j.hB⟩
def dz {k j:Nat}{c c':E3.Cl}(h:M[k]? =some c)(n:j≠k):(M.set j c')[k]? =some c:=by rw[xa0 n];exact h
def CP {j:Nat}{c c':E3.Cl}(h:M[j]? =some c):(M.set j c')[j]? =some c':=xaW (xah.mp h).1
def J.setA {K:List D}(j:J r B s m0 m1 a b K0 K1 M):J r B s m0 m1 a b K K1 (M.set a (.lst K)):=by
 have:=j.ha;have:=j.hB;exact⟨dz j.o (by lia),dz j.mm (by lia),dz j.x (by lia),dz j.h (by lia),dz j.p (by lia),CP j.ka,dz j.kb j.ne,j.ne,j.ha,j.hb,j.hB⟩
def J.setB {K:List D}(j:J r B s m0 m1 a b K0 K1 M):J r B s m0 m1 a b K0 K (M.set b (.lst K)):=by
 have:=j.hb;have:=j.hB;exact⟨dz j.o (by lia),dz j.mm (by lia),dz j.x (by lia),dz j.h (by lia),dz j.p (by lia),dz j.ka (xbN j.ne),CP j.kb,j.ne,j.ha,j.hb,j.hB⟩
def J.setM {n0 n1:Int}(j:J r B s m0 m1 a b K0 K1 M):J r B s n0 n1 a b K0 K1 (M.set (r + 1) (.lst [.int n0,.int n1])):=by
 have:=j.ha;have:=j.hB;have:=j.hb;exact⟨dz j.o (by lia),CP j.mm,dz j.x (by lia),dz j.h (by lia),dz j.p (by lia),dz j.ka (by lia),dz j.kb (by lia),j.ne,j.ha,j.hb,j.hB⟩
def J.kp {K K':List D}(j:J r B s m0 m1 a b K0 K1 M)(hl:B<=M.length):J r B s m0 m1 M.length (M.length + 1) K K' ((M ++ [E3.Cl.lst K] ++ [E3.Cl.lst K']).set r (OB r s M.length (M.length + 1))):=by
 have e0:(M ++ [E3.Cl.lst K] ++ [E3.Cl.lst K'])[M.length]? =some (.lst K):=by rw[xao,xap (xaf _),xbH];rfl
 have e1:(M ++ [E3.Cl.lst K] ++ [E3.Cl.lst K'])[M.length + 1]? =some (.lst K'):=by rw[xao,xap (by lia),show M.length + 1 - M.length=1 by lia];rfl
 have:=j.hB;have j':=(j.app (E:=[E3.Cl.lst K])).app (E:=[E3.Cl.lst K']);exact⟨CP j'.o,dz j'.mm (by lia),dz j'.x (by lia),dz j'.h (by lia),dz j'.p (by lia),dz e0 (by lia),dz e1 (by lia),by lia,.inr hl,.inr (by lia),j.hB⟩
theorem lkm:List.lookup ("marks":Str) [(("marks":Str),D.ref (r + 1)),("span",.int s),("pair",.ref (r + 5)),("kept",.tup [.ref a,.ref b])]=some (.ref (r + 1)):=by kernel_rfl
theorem lks:List.lookup ("span":Str) [(("marks":Str),D.ref (r + 1)),("span",.int s),("pair",.ref (r + 5)),("kept",.tup [.ref a,.ref b])]=some (.int s):=by kernel_rfl
theorem lkp:List.lookup ("pair":Str) [(("marks":Str),D.ref (r + 1)),("span",.int s),("pair",.ref (r + 5)),("kept",.tup [.ref a,.ref b])]=some (.ref (r + 5)):=by kernel_rfl
theorem lkk:List.lookup ("kept":Str) [(("marks":Str),D.ref (r + 1)),("span",.int s),("pair",.ref (r + 5)),("kept",.tup [.ref a,.ref b])]=some (.tup [.ref a,.ref b]):=by kernel_rfl
def lO {x:Str}(h:(x=="marks" || x=="span" || x=="pair" || x=="kept")=false):List.lookup x [(("marks":Str),D.ref (r + 1)),("span",.int s),("pair",.ref (r + 5)),("kept",.tup [.ref a,.ref b])]=none:=by
 simp only[Bool.or_eq_false_iff]at h;simp only[List.lookup,h.1.1.1,h.1.1.2,h.1.2,h.2]
def mW {k:Nat}{env:E3.Env}(j:J r B s m0 m1 a b K0 K1 M)(he:env[k]? =some (.val (.ref r))):bw "JoinStation" "marks" (aj k) env M=some (.v (.ref (r + 1)),M):=yI (k:=r) (by simp only[xO,he,xU]) j.o lkm
def Jo {k:Nat}{env:E3.Env}(j:J r B s m0 m1 a b K0 K1 M)(he:env[k]? =some (.val (.ref r))):bw "JoinStation" "span" (aj k) env M=some (.v (.int s),M):=yI (k:=r) (by simp only[xO,he,xU]) j.o lks
def Jm {k:Nat}{env:E3.Env}(j:J r B s m0 m1 a b K0 K1 M)(he:env[k]? =some (.val (.ref r))):bw "JoinStation" "pair" (aj k) env M=some (.v (.ref (r + 5)),M):=yI (k:=r) (by simp only[xO,he,xU]) j.o lkp
def mV {k:Nat}{env:E3.Env}(j:J r B s m0 m1 a b K0 K1 M)(he:env[k]? =some (.val (.ref r))):bw "JoinStation" "kept" (aj k) env M=some (.v (.tup [.ref a,.ref b]),M):=yI (k:=r) (by simp only[xO,he,xU]) j.o lkk
noncomputable def mn (x y:Int):Int:=min x y
theorem bl2 {x y:Int}:wB [.lst [.int x,.int y]]=some (.int (mn x y)):=rfl
def Jl (j:J r B s m0 m1 a b K0 K1 M):gA [.ref r] M=some (.v (.int (mn m0 m1)),M):=by
 have f:=mW (k:=0) (env:=[.val (.ref r)]) j rfl;have w:vw M (.ref (r + 1))=.lst [.int m0,.int m1]:=gG j.mm;unfold gA Hz;generalize bw "JoinStation" "marks" (aj 0)=F at f ⊢;z_go;rw[f];z_go;rw[w,bl2];z_go
noncomputable def kl (s low:Int) (K:List D):List D:=K.filter fun d=>decide (tm d + s >=low)
theorem Li {env:E3.Env}{low:Int}(j:J r B s m0 m1 a b K0 K1 M)(he:env=[.val (.int low),.val (.ref r)]){c:Nat}{K:List D}(hc:M[c]? =some (.lst K))(hK:∀d∈K,Tk d):∀(n t:Nat) (acc:List D),t<=K.length->K.length<t + n->acc.length + (K.length - t)<1000->
    lY c z6 Ej env n t acc M=some (acc ++ kl s low (K.drop t),M)
  |0,t,acc,h0,h,_=>by lia
  |n + 1,t,acc,h0,h,hl=>by
    simp only[lY,hc]
    by_cases ht:t<K.length
    · rw[xab ht,xaV ht];obtain⟨t',z,v,e⟩:=hK _ (xaY ht);rw[e];have f:=Jo (k:=2) (env:=[.val (.tup [.int t',.str z,.int v]),.val (.int low),.val (.ref r)]) j rfl;have q1:z6 (.val (.tup [.int t',.str z,.int v])::env) M=some (.v (.bl (decide (t' + s >=low))),M):=by
        subst he;unfold z6;generalize bw "JoinStation" "span" (aj 2)=F at f ⊢;z_go;rw[f];z_go
      have q2:Ej (.val (.tup [.int t',.str z,.int v])::env) M=some (.v (.tup [.int t',.str z,.int v]),M):=rfl;dsimp only;rw[q1]
      by_cases hd:t' + s >=low
      · rw[xaX hd];dsimp only;rw[q2];dsimp only;rw[xad (by rw[xa8];lia),Li j he hc hK n (t + 1) _ (by lia) (by lia) (by rw[xag,xaJ];lia),xao];congr 3;show _=List.filter _ _;rw[xbM,xad (show decide (tm (.tup [.int t',.str z,.int v]) + s >=low)=true from xaX hd)];rfl
      · rw[xaH hd];dsimp only;rw[Li j he hc hK n (t + 1) _ (by lia) (by lia) (by lia)];congr 3;show _=List.filter _ _;rw[xbM,xae (show ¬ decide (tm (.tup [.int t',.str z,.int v]) + s >=low)=true by rw[show decide (tm (.tup [.int t',.str z,.int v]) + s >=low)=false from xaH hd];decide)];rfl
    · rw[xbt (by lia),xcq (by lia)];simp only[kl,List.filter_nil,xas]
def RG {low:Int}{c:Nat}{K:List D}(j:J r B s m0 m1 a b K0 K1 M)(hc:M[c]? =some (.lst K))(hK:∀d∈K,Tk d)(hl:K.length<=100):lK [.ref r,.int low,.ref c] M=some (.v (.ref M.length),M ++ [E3.Cl.lst (kl s low K)]):=by
 have q:=Li (env:=[.val (.int low),.val (.ref r)]) (low:=low) j rfl hc hK 1000 0 [] (by lia) (by lia) (by simp only[xaI];lia);rw[xcw,xbe]at q;have e:sI 1000 [("low",1),("self",0)] (aj 2) z6 Ej [.val (.ref r),.val (.int low),.val (.ref c)] M=some (.v (.lst (kl s low K)),M):=by
  unfold sI;rw[show aj 2 [Slot.val (.ref r),.val (.int low),.val (.ref c)] M=some (.v (.ref c),M) from rfl];show(match lY c _ _ (cj [("low",1),("self",0)] [.val (.ref r),.val (.int low),.val (.ref c)]) 1000 0 [] M with |some (ys,M2)=>_ |none=>_)=_
  rw[show cj [(("low":Str),1),("self",0)] [Slot.val (.ref r),.val (.int low),.val (.ref c)]=[.val (.int low),.val (.ref r)] from rfl,q]
 unfold lK Hy;generalize sI 1000 _ _ _ _=F at e ⊢;z_go;rw[e];z_go
def Zw {low:Int}(j:J r B s m0 m1 a b K0 K1 M)(hl:B<=M.length)(h0:∀d∈K0,Tk d)(h1:∀d∈K1,Tk d)(l0:K0.length<=100)(l1:K1.length<=100):
  wN [.ref r,.int low] M=some (.v (.lst []),(M ++ [E3.Cl.lst (kl s low K0)] ++ [E3.Cl.lst (kl s low K1)]).set r (OB r s M.length (M.length + 1))):=by
 have j1:=j.app (E:=[E3.Cl.lst (kl s low K0)]);have j2:=j1.app (E:=[E3.Cl.lst (kl s low K1)]);have e0:aP "JoinStation" "left_at" lK (aj 0) (au (aj 1) (au (s2 aM (bw "JoinStation" "kept" (aj 0)) (ak (.int 0))) ao)) [.val (.ref r),.val (.int low)] M=some (.v (.ref M.length),M ++ [E3.Cl.lst (kl s low K0)]):=
  dG (k := r) (ds := [.int low, .ref a]) rfl j.o (lO (by x_go)) (by
   have f:=mV (k:=0) (env:=[.val (.ref r),.val (.int low)]) j rfl;generalize bw "JoinStation" "kept" (aj 0)=F at f ⊢;z_go;rw[f];z_go) (RG j j.ka h0 l0)
 have e1:aP "JoinStation" "left_at" lK (aj 0) (au (aj 1) (au (s2 aM (bw "JoinStation" "kept" (aj 0)) (ak (.int 1))) ao)) [.val (.ref r),.val (.int low)] (M ++ [E3.Cl.lst (kl s low K0)])=some (.v (.ref (M.length + 1)),M ++ [E3.Cl.lst (kl s low K0)] ++ [E3.Cl.lst (kl s low K1)]):=by
  have := dG (k := r) (ds := [.int low, .ref b]) (c := "JoinStation") (me := "left_at") (gg := lK) (o := aj 0) (env := [Slot.val (.ref r), .val (.int low)]) (fa := au (aj 1) (au (s2 aM (bw "JoinStation" "kept" (aj 0)) (ak (.int 1))) ao)) rfl j1.o (lO (by x_go)) (by
   have f:=mV (k:=0) (env:=[.val (.ref r),.val (.int low)]) j1 rfl;generalize bw "JoinStation" "kept" (aj 0)=F at f ⊢;z_go;rw[f];z_go) (RG (low:=low) j1 j1.kb h1 l1)
  rw[xag]at this;exact this
 have es:eV "JoinStation" "kept" (aj 0) (bf (au (aP "JoinStation" "left_at" lK (aj 0) (au (aj 1) (au (s2 aM (bw "JoinStation" "kept" (aj 0)) (ak (.int 0))) ao))) (au (aP "JoinStation" "left_at" lK (aj 0) (au (aj 1) (au (s2 aM (bw "JoinStation" "kept" (aj 0)) (ak (.int 1))) ao))) ao))) [.val (.ref r),.val (.int low)] M=some (.nx [.val (.ref r),.val (.int low)],(M ++ [E3.Cl.lst (kl s low K0)] ++ [E3.Cl.lst (kl s low K1)]).set r (OB r s M.length (M.length + 1))):=by
  rw [wJ (k := r) (x := .tup [.ref M.length, .ref (M.length + 1)]) (M1 := M ++ [E3.Cl.lst (kl s low K0)] ++ [E3.Cl.lst (kl s low K1)]) (M2 := M ++ [E3.Cl.lst (kl s low K0)] ++ [E3.Cl.lst (kl s low K1)]) (by
   generalize aP "JoinStation" "left_at" lK (aj 0) (au (aj 1) (au (s2 aM (bw "JoinStation" "kept" (aj 0)) (ak (.int 0))) ao))=F0 at e0 ⊢;generalize aP "JoinStation" "left_at" lK (aj 0) (au (aj 1) (au (s2 aM (bw "JoinStation" "kept" (aj 0)) (ak (.int 1))) ao))=F1 at e1 ⊢;z_go;rw[e0];z_go;rw[e1];z_go) rfl j2.o (by show 4<1000;decide)]
  rfl
 unfold wN Hx;generalize eV "JoinStation" "kept" _ _=F at es ⊢;z_go;rw[es];z_go
def ZG {low:Int}(j:J r B s m0 m1 a b K0 K1 M)(hl:B<=M.length)(h0:∀d∈K0,Tk d)(h1:∀d∈K1,Tk d)(l0:K0.length<=100)(l1:K1.length<=100):
  wO [.ref r,.int low] M=some (.v (.lst [.tup [.str "mark",.int low]]),(M ++ [E3.Cl.lst (kl s low K0)] ++ [E3.Cl.lst (kl s low K1)]).set r (OB r s M.length (M.length + 1))):=by
 have m:aP "JoinStation" "close_at" wN (aj 0) (au (aj 1) ao) [.val (.ref r),.val (.int low)] M=some (.v (.lst []),(M ++ [E3.Cl.lst (kl s low K0)] ++ [E3.Cl.lst (kl s low K1)]).set r (OB r s M.length (M.length + 1))):=
  dG (k:=r) (ds:=[.int low]) rfl j.o (lO (by x_go)) (by z_go) (Zw j hl h0 h1 l0 l1)
 unfold wO HJ;generalize aP "JoinStation" "close_at" wN (aj 0) (au (aj 1) ao)=F at m ⊢;generalize List.set (M ++ [E3.Cl.lst (kl s low K0)] ++ [E3.Cl.lst (kl s low K1)]) r (OB r s M.length (M.length + 1))=M2 at m ⊢;z_go;rw[m];z_go;rw[show dw (ak (.bl true)) Rp [] [] [] M2=some ([],M2) from rfl];z_go
noncomputable def mw (w m0 m1:Int):Int:=if w=0 then m0 else m1
def Zz {w t v n0 n1:Int}{k:Nat}(j:J r B s m0 m1 a b K0 K1 M)(ix:cN [D.int m0,.int m1] w=some (.int v))(ixn:gQ 2 w=some k)(hs:[D.int m0,.int m1].set k (.int t)=[.int n0,.int n1])(hn:t=v->n0=m0/\n1=m1)(ht:v<=t)(hl:B<=M.length)(h0:∀d∈K0,Tk d)(h1:∀d∈K1,Tk d)(l0:K0.length<=100)(l1:K1.length<=100)(hmn:mn m0 m1<=mn n0 n1):
  ∃a' b' K0' K1' M',n_ [.ref r,.int w,.int t] M=some (.v (.lst (if mn n0 n1 > mn m0 m1 then [.tup [.str "mark",.int (mn n0 n1)]] else [])),M')/\J r B s n0 n1 a' b' K0' K1' M'/\B<=M'.length/\
   Fr r 8 B M M'/\((K0'=K0/\K1'=K1/\mn n0 n1=mn m0 m1)\/(K0'=kl s (mn n0 n1) K0/\K1'=kl s (mn n0 n1) K1)):=by
 by_cases hv:t=v
 ·obtain⟨rfl,rfl⟩:=hn hv;subst hv;refine⟨a,b,K0,K1,M,?_,j,hl,Fr.refl,.inl ⟨rfl,rfl,rfl⟩⟩;have f:=mW (k:=0) (env:=[.val (.ref r),.val (.int w),.val (.int t),.un,.un]) j rfl;have wv:vw M (.ref (r + 1))=.lst [.int n0,.int n1]:=gG j.mm;unfold n_ zX;rw[xae (by lia)];generalize bw "JoinStation" "marks" (aj 0)=F at f ⊢;z_go;rw[f];z_go;rw[wv];z_go;rw[ix];z_go;rw[xad (xex _)];z_go
 ·have j1:J r B s n0 n1 a b K0 K1 (M.set (r + 1) (.lst [.int n0,.int n1])):=j.setM;have f:=mW (k:=0) (env:=[.val (.ref r),.val (.int w),.val (.int t),.un,.un]) j rfl;have wv:vw M (.ref (r + 1))=.lst [.int m0,.int m1]:=gG j.mm;have b1:aP "JoinStation" "low" gA (aj 0) ao [.val (.ref r),.val (.int w),.val (.int t),.un,.un] M=some (.v (.int (mn m0 m1)),M):=dG (k:=r) (ds:=[]) rfl j.o (lO (by x_go)) rfl (Jl j);have b2:aP "JoinStation" "low" gA (aj 0) ao [.val (.ref r),.val (.int w),.val (.int t),.val (.int (mn m0 m1)),.un] (M.set (r + 1) (.lst [.int n0,.int n1]))=some (.v (.int (mn n0 n1)),M.set (r + 1) (.lst [.int n0,.int n1])):=dG (k:=r) (ds:=[]) rfl j1.o (lO (by x_go)) rfl (Jl j1);have si:lu (bw "JoinStation" "marks" (aj 0)) (aj 1) (aj 2) [.val (.ref r),.val (.int w),.val (.int t),.val (.int (mn m0 m1)),.un] M=some (.nx [.val (.ref r),.val (.int w),.val (.int t),.val (.int (mn m0 m1)),.un],M.set (r + 1) (.lst [.int n0,.int n1])):=by
   rw[JN (k:=r + 1) (i:=w) (x:=.int t) (M1:=M) (M2:=M) (M3:=M) (ds:=[.int m0,.int m1]) (j:=k) rfl (mW (k:=0) j rfl) rfl j.mm ixn,hs]
  have ll:(M.set (r + 1) (E3.Cl.lst [.int n0,.int n1])).length=M.length:=xaz;have lw:Fr r 8 B M (M.set (r + 1) (.lst [.int n0,.int n1])):=Fr.set (.inl (by lia))
  by_cases he:mn n0 n1=mn m0 m1
  ·refine⟨a,b,K0,K1,M.set (r + 1) (.lst [.int n0,.int n1]),?_,j1,by lia,lw,.inl ⟨rfl,rfl,he⟩⟩;rw[xae (by lia)];unfold n_ zX;generalize M.set (r + 1) (E3.Cl.lst [.int n0,.int n1])=M1 at b2 si ⊢;generalize lu (bw "JoinStation" "marks" (aj 0)) (aj 1) (aj 2)=F3 at si ⊢;generalize bw "JoinStation" "marks" (aj 0)=F at f ⊢;generalize aP "JoinStation" "low" gA (aj 0) ao=F2 at b1 b2 ⊢;z_go;rw[f];z_go;rw[wv];z_go;rw[ix];z_go;rw[xae (by lia)];z_go;rw[b1];z_go;rw[si];z_go;rw[b2];z_go;rw[xad he];z_go
  ·have b3:aP "JoinStation" "tell_low" wO (aj 0) (au (aj 4) ao) [.val (.ref r),.val (.int w),.val (.int t),.val (.int (mn m0 m1)),.val (.int (mn n0 n1))] (M.set (r + 1) (.lst [.int n0,.int n1]))=_:=dG (k:=r) (ds:=[.int (mn n0 n1)]) rfl j1.o (lO (by x_go)) (by z_go) (ZG j1 (by lia) h0 h1 l0 l1);refine⟨_,_,_,_,_,?_,j1.kp (K:=kl s (mn n0 n1) K0) (K':=kl s (mn n0 n1) K1) (by lia),by rw[xaz,xag,xag];lia,(((lw.trans Fr.app).trans Fr.app).trans (Fr.set (.inl (by lia)))),.inr ⟨rfl,rfl⟩⟩;rw[xad (by lia)];unfold n_ zX;generalize List.set (List.set M (r + 1) (E3.Cl.lst [.int n0,.int n1]) ++ [E3.Cl.lst (kl s (mn n0 n1) K0)] ++ [E3.Cl.lst (kl s (mn n0 n1) K1)]) r _=M2 at b3 ⊢;generalize M.set (r + 1) (E3.Cl.lst [.int n0,.int n1])=M1 at b2 b3 si ⊢;generalize lu (bw "JoinStation" "marks" (aj 0)) (aj 1) (aj 2)=F3 at si ⊢;generalize bw "JoinStation" "marks" (aj 0)=F at f ⊢;generalize aP "JoinStation" "low" gA (aj 0) ao=F2 at b1 b2 ⊢;generalize aP "JoinStation" "tell_low" wO (aj 0) (au (aj 4) ao)=F4 at b3 ⊢;z_go;rw[f];z_go;rw[wv];z_go;rw[ix];z_go;rw[xae (by lia)];z_go;rw[b1];z_go;rw[si];z_go;rw[b2];z_go;rw[xae he];z_go;rw[b3];z_go
end
variable {M:Mm}
def GQ {env:E3.Env}{k:Nat}{f:E3.E}{ds es:List D}{M1:Mm}(h:env[k]? =some (.own ds))(h1:f env M=some (.v (.lst es),M1))(hl:ds.length + es.length<=1000000):gh k f env M=some (.nx (env.set k (.own (ds ++ es))),M1):=by
 simp only[gh,h,bR,h1];rw[xad (by rw[xa8];lia)]
def zcW {s:Int}{d e:D}:(m9 s d e).length<=1:=by
 unfold m9
 split<;>simp
def Th (d:D):Prop:=∃(t:Int) (z:Str) (v:Int),d=.tup [.int t,.str z,.int v]/\t.natAbs<=1000000000000/\v.natAbs<=1000000000000000000000000000000000000000000000000000000000000
def Th.tk {d:D}(h:Th d):Tk d:=by
 obtain⟨t,z,v,rfl,_⟩:=h;exact⟨t,z,v,rfl⟩
def d7 (w s:Int)(d e:D):List D:=if w=0 then m9 s d e else m9 s e d
noncomputable def cG (d:D):D:=.tup [.str "thing",.int (tm d),.str (ky d),.int (vl d)]
section
variable {r B:Nat}{s m0 m1:Int}{a b:Nat}{K0 K1 T:List D}{E:Mm}
def Lg {w:Int}{d e:D}:(d7 w s d e).length<=1:=by unfold d7;split<;>exact zcW
def zgo {w:Int}{d e:D}:∀x∈d7 w s d e,Tk x:=by
 unfold d7 m9;intro x hx;split at hx
 ·split at hx
  ·exact⟨_,_,_,xaM.mp hx⟩
  ·cases hx
 ·split at hx
  ·exact⟨_,_,_,xaM.mp hx⟩
  ·cases hx
def zep {w:Int}{d e:D}{acc:List D}(j:J r B s m0 m1 a b K0 K1 M)(hw:w=0\/w=1)(hd:Th d)(he:Th e)(hl:acc.length<=1000):∃E,Ew [.val (.ref r),.val (.int w),.val d,.own acc,.val e] M=some (.nx [.val (.ref r),.val (.int w),.val d,.own (acc ++ d7 w s d e),.val e],M ++ E):=by
 obtain⟨t,z,v,rfl,t1,v1⟩:=hd;obtain⟨t',z',v',rfl,t2,v2⟩:=he;have f:=Jm (k:=0) (env:=[.val (.ref r),.val (.int w),.val (.tup [.int t,.str z,.int v]),.own acc,.val (.tup [.int t',.str z',.int v'])]) j rfl;obtain⟨E1,g1⟩:=z7 (z:=z) (z':=z') (s:=s) j.h j.x t1 v1 t2 v2;obtain⟨E2,g2⟩:=z7 (z:=z') (z':=z) (s:=s) j.h j.x t2 v2 t1 v1;have c1:iB gB rD (bw "JoinStation" "pair" (aj 0)) (au (aj 2) (au (aj 4) ao)) [.val (.ref r),.val (.int w),.val (.tup [.int t,.str z,.int v]),.own acc,.val (.tup [.int t',.str z',.int v'])] M=_:=Iz (M1:=M) (M2:=M) (k:=r + 5) (ds:=[.tup [.int t,.str z,.int v],.tup [.int t',.str z',.int v']]) f j.p rfl g1;have c2:iB gB rD (bw "JoinStation" "pair" (aj 0)) (au (aj 4) (au (aj 2) ao)) [.val (.ref r),.val (.int w),.val (.tup [.int t,.str z,.int v]),.own acc,.val (.tup [.int t',.str z',.int v'])] M=_:=Iz (M1:=M) (M2:=M) (k:=r + 5) (ds:=[.tup [.int t',.str z',.int v'],.tup [.int t,.str z,.int v]]) f j.p rfl g2;unfold Ew;generalize iB gB rD (bw "JoinStation" "pair" (aj 0)) (au (aj 2) (au (aj 4) ao))=F1 at c1 ⊢;generalize iB gB rD (bw "JoinStation" "pair" (aj 0)) (au (aj 4) (au (aj 2) ao))=F2 at c2 ⊢;have pl:=Lg (s:=s) (w:=w) (d:=.tup [.int t,.str z,.int v]) (e:=.tup [.int t',.str z',.int v']);rcases hw with rfl |rfl
 ·refine ⟨E1, ?_⟩;rw [za, GQ (ds := acc) (es := d7 0 s (.tup [.int t, .str z, .int v]) (.tup [.int t', .str z', .int v'])) (M1 := M ++ E1) rfl (by
   z_go;rw[c1];rfl) (by lia)]
  z_go
 ·refine ⟨E2, ?_⟩;rw [za, GQ (ds := acc) (es := d7 1 s (.tup [.int t, .str z, .int v]) (.tup [.int t', .str z', .int v'])) (M1 := M ++ E2) rfl (by
   z_go;rw[c2];rfl) (by lia)]
  z_go
theorem Uw {w:Int}{d:D}(hw:w=0\/w=1)(hd:Th d):∀(es acc:List D) (s4:Slot) (M:Mm),J r B s m0 m1 a b K0 K1 M->(∀e∈es,Th e)->acc.length + es.length<=1000->
    ∃E s4',loopS 4 Ew es [.val (.ref r),.val (.int w),.val d,.own acc,s4] M=some (.nx [.val (.ref r),.val (.int w),.val d,.own (acc ++ es.flatMap (d7 w s d)),s4'],M ++ E)
  | [],acc,s4,M,_,_,_=>⟨[],s4,by simp only[U8,xdS,xas]⟩
  |e::es,acc,s4,M,j,he,hl=>by
    rw[xaw]at hl;obtain⟨E1,e1⟩:=zep (acc:=acc) j hw hd (he e xaT) (by lia);have pl:=Lg (s:=s) (w:=w) (d:=d) (e:=e);obtain⟨E2,s',e2⟩:=Uw hw hd es (acc ++ d7 w s d e) (.val e) (M ++ E1) j.app (fun x hx=>he x (xat _ hx)) (by rw[xag];lia);refine⟨E1 ++ E2,s',?_⟩;fen_go;rw[e1];simp only[sG];rw[e2,xa6,xao,xao]
theorem S_ {d:D}(h:Tk d):mj [d] M=some (.v (cG d),M):=by
 obtain⟨t,z,v,rfl⟩:=h;unfold mj Im;z_go;rfl
def ZP {w:Int}{d:D}{es:List D}:∀x∈es.flatMap (d7 w s d),Tk x:=fun x hx=>by
 obtain⟨e,_,h⟩:=List.mem_flatMap.mp hx;exact zgo x h
theorem Jp {w:Int}{d:D}:∀es:List D,(es.flatMap (d7 w s d)).length<=es.length
  | []=>xaf _
  |e::es=>by
    have:=Jp (w:=w) (d:=d) es;have:=Lg (s:=s) (w:=w) (d:=d) (e:=e);rw[xa6,xag,xaw];lia
def ZJ {w:Int}{d:D}{c c':Nat}{K O es:List D}(hw:w=0\/w=1)(hd:Th d)(j:J r B s m0 m1 a b K0 K1 M)(j':∃X Y,J r B s m0 m1 a b X Y (M.set c (.lst (K ++ [d]))))(hc:cN [D.ref a,.ref b] w=some (.ref c))(hc':cN [D.ref a,.ref b] (1 - w)=some (.ref c'))(mc:M[c]? =some (.lst K))(mo:M[c']? =some (.lst O))(ne:c≠c')
  (hs:mG O=some es) (he:∀e∈es,Th e) (lk:K.length<=100) (le:es.length<=100):∃E,tW [.ref r,.int w,d] M=some (.v (.lst ((es.flatMap (d7 w s d)).map cG)),M.set c (.lst (K ++ [d])) ++ E):=by
 obtain ⟨X, Y, j'⟩ := j';have f1 := mV (k := 0) (env := [.val (.ref r), .val (.int w), .val d, .un, .un]) j rfl;have f2 := mV (k := 0) (env := [.val (.ref r), .val (.int w), .val d, .own [], .un]) j' rfl;have w2 : vw (M.set c (.lst (K ++ [d]))) (.ref c') = .lst O := gG (dz mo ne);obtain ⟨E, s4, el⟩ := Uw hw hd es [] .un _ j' he (by simp only [xaI]; lia);have fl := Jp (s := s) (w := w) (d := d) es;refine ⟨E, ?_⟩;have cm := comp_map (M := M.set c (.lst (K ++ [d])) ++ E) (env := []) (e := Jf) cG (es.flatMap (d7 w s d)) (fun x hx=>by
  unfold Jf;z_go;rw[S_ (ZP x hx)];z_go) (by rw[xa8];lia)
 have ap:cW (s2 aM (bw "JoinStation" "kept" (aj 0)) (aj 1)) (aj 2) [.val (.ref r),.val (.int w),.val d,.un,.un] M=some (.nx [.val (.ref r),.val (.int w),.val d,.un,.un],M.set c (.lst (K ++ [d]))):=by
  generalize bw "JoinStation" "kept" (aj 0)=F at f1 ⊢;z_go;rw[f1];z_go;rw[hc];z_go;rw[mc];z_go;rw[xad (by lia)]
 unfold tW HF;generalize cW (s2 aM (bw "JoinStation" "kept" (aj 0)) (aj 1)) (aj 2)=FA at ap ⊢;generalize bw "JoinStation" "kept" (aj 0)=F at f2 ⊢;generalize M.set c (E3.Cl.lst (K ++ [d]))=M1 at *;z_go;rw[ap];z_go;rw[f2];z_go;rw[hc'];z_go;rw[w2,FQ hs];z_go;rw[el];z_go;rw[cm];z_go
def Zv (j:J r B s m0 m1 a b [] [] M):wM [.ref r] M=some (.v (.lst []),M):=by
 have e0:∀(w:Int) (c:Nat),cN [D.ref a,.ref b] w=some (.ref c)->M[c]? =some (.lst [])->Eu [.val (.ref r),.own [],.val (.int w)] M=some (.nx [.val (.ref r),.own [],.val (.int w)],M):=fun w c hi hc=>by
  have f:=mV (k:=0) (env:=[.val (.ref r),.own [],.val (.int w)]) j rfl;have e:lU 1000 [("way",2)] (s2 aM (bw "JoinStation" "kept" (aj 0)) (aj 2)) Ro [.val (.ref r),.own [],.val (.int w)] M=some (.v (.lst []),M):=by
   have g:s2 aM (bw "JoinStation" "kept" (aj 0)) (aj 2) [.val (.ref r),.own [],.val (.int w)] M=some (.v (.ref c),M):=by
    generalize bw "JoinStation" "kept" (aj 0)=F at f ⊢;z_go;rw[f];z_go;rw[hi];z_go
   unfold lU;rw[g];show(match pW c _ (cj [("way",2)] [.val (.ref r),.own [],.val (.int w)]) 1000 0 [] M with |some (ys,M2)=>_ |none=>_)=_
   simp only[pW,hc,List.getElem?_nil]
  unfold Eu;rw[za,GQ (ds:=[]) (M1:=M) rfl e (by decide)];z_go
 have e1:=e0 0 a rfl j.ka;have e2:=e0 1 b rfl j.kb;unfold wM Hw;generalize Eu=L at e1 e2 ⊢;z_go;rw[e1];z_go;rw[e2];z_go;rw[FQ (es:=[]) (by unfold mG;rfl)];z_go
def ZD (j:J r B s m0 m1 a b [] [] M):p8 [.ref r] M=some (.v (.tup [.lst [.int m0,.int m1],.lst []]),M):=by
 have f:=mW (k:=0) (env:=[.val (.ref r)]) j rfl;have wv:vw M (.ref (r + 1))=.lst [.int m0,.int m1]:=gG j.mm;have m:aP "JoinStation" "all_kept" wM (aj 0) ao [.val (.ref r)] M=some (.v (.lst []),M):=dG (k:=r) (ds:=[]) rfl j.o (lO (by x_go)) rfl (Zv j);unfold p8 HD;generalize bw "JoinStation" "marks" (aj 0)=F at f ⊢;generalize aP "JoinStation" "all_kept" wM (aj 0) ao=F2 at m ⊢;z_go;rw[f];z_go;rw[wv];z_go;rw[m];z_go
theorem zf3 {t v:Int}{z:Str}:zp (.tup [.str "thing",.int t,.str z,.int v]) (some 1) none=some (.tup [.int t,.str z,.int v]):=rfl
def zF:((Str.ofString "thing":Str)=Str.ofString "mark")=False:=xea (by x_go)
def zc1 {w t:Int}{d:D}{M':Mm}(o:M[r]? =some (OB r s a b))(h:n_ [.ref r,.int w,.int t] M=some (.v d,M')):lM [.ref r,.int w,.tup [.str "mark",.int t]] M=some (.v d,M'):=by
 have m:aP "JoinStation" "take_mark" n_ (aj 0) (au (aj 1) (au (s2 aM (aj 2) (ak (.int 1))) ao)) [.val (.ref r),.val (.int w),.val (.tup [.str "mark",.int t])] M=some (.v d,M'):=dG (k:=r) (ds:=[.int w,.int t]) rfl o (lO (by x_go)) (by z_go) h;unfold lM DK;generalize aP "JoinStation" "take_mark" n_ _ _=F at m ⊢;z_go;rw[m];z_go
def zcA {w t v:Int}{z:Str}{d:D}{M':Mm}(o:M[r]? =some (OB r s a b))(h:tW [.ref r,.int w,.tup [.int t,.str z,.int v]] M=some (.v d,M')):lM [.ref r,.int w,.tup [.str "thing",.int t,.str z,.int v]] M=some (.v d,M'):=by
 have m:aP "JoinStation" "take_thing" tW (aj 0) (au (aj 1) (au (eX (aj 2) (gD (ak (.int 1))) m8) ao)) [.val (.ref r),.val (.int w),.val (.tup [.str "thing",.int t,.str z,.int v])] M=some (.v d,M'):=dG (k:=r) (ds:=[.int w,.tup [.int t,.str z,.int v]]) rfl o (lO (by x_go)) (by z_go;simp only[Va,xO,xU,Vf,U9,U7,Vh,ze5,U_,Vi,zf3,Vg,List.getElem?_cons_zero,xbT];z_go) h;unfold lM DK;generalize aP "JoinStation" "take_thing" tW _ _=F at m ⊢;z_go;simp only[zF];z_go;rw[m];z_go
end
variable {M:Mm}
section
variable {is:List Int}{r B:Nat}{w t:Int}
structure Po (r:Nat)(is:List Int)(M:Mm):Prop where
 o:M[r]? =some (.obj "PourStation" [("marks",.ref (r + 1))])
 mm:M[r + 1]? =some (.lst (is.map .int))
def m7 {x:Str}(h:(x=="marks")=false):List.lookup x [(("marks":Str),D.ref (r + 1))]=none:=by simp only[List.lookup,h]
theorem Kc:List.lookup ("marks":Str) [(("marks":Str),D.ref (r + 1))]=some (.ref (r + 1)):=by kernel_rfl
def mY {k:Nat}{env:E3.Env}(j:Po r is M)(he:env[k]? =some (.val (.ref r))):bw "PourStation" "marks" (aj k) env M=some (.v (.ref (r + 1)),M):=yI (k:=r) (by simp only[xO,he,xU]) j.o Kc
def Po.setM {is':List Int}(j:Po r is M):Po r is' (M.set (r + 1) (.lst (is'.map .int))):=⟨dz j.o (by lia),CP j.mm⟩
def Yz (hn:is≠ []):wB [.lst (is.map .int)]=some (.int (aV is)):=by
 have hp:0<is.length:=xeg.mpr hn;simp only[wB,E3.ints_map,hp,xbB]
def Kf (j:Po r is M)(hn:is≠ []):gO [.ref r] M=some (.v (.int (aV is)),M):=by
 have f:=mY (k:=0) (env:=[.val (.ref r)]) j rfl;have w:vw M (.ref (r + 1))=.lst (is.map .int):=gG j.mm;unfold gO HS;generalize bw "PourStation" "marks" (aj 0)=F at f ⊢;z_go;rw[f];z_go;rw[w,Yz hn];z_go
def Ol (j:Po r is M):q_ [.ref r] M=some (.v (.tup [.lst (is.map .int),.lst []]),M):=by
 have f:=mY (k:=0) (env:=[.val (.ref r)]) j rfl;have w:vw M (.ref (r + 1))=.lst (is.map .int):=gG j.mm;have m:aP "PourStation" "all_kept" Af (aj 0) ao [.val (.ref r)] M=some (.v (.lst []),M):=dG (k:=r) (ds:=[]) rfl j.o (m7 (by x_go)) rfl rfl;unfold q_ HW;generalize bw "PourStation" "marks" (aj 0)=F at f ⊢;generalize aP "PourStation" "all_kept" Af (aj 0) ao=F2 at m ⊢;z_go;rw[f];z_go;rw[w];z_go;rw[m];z_go
def zeo {low:Int}(h:M[r]? =some (.obj "PourStation" [("marks",.ref (r + 1))])):wU [.ref r,.int low] M=some (.v (.lst [.tup [.str "mark",.int low]]),M):=by
 have m:aP "PourStation" "close_at" Ag (aj 0) (au (aj 1) ao) [.val (.ref r),.val (.int low)] M=some (.v (.lst []),M):=dG (k:=r) (ds:=[.int low]) rfl h (m7 (by x_go)) rfl rfl;unfold wU HY;generalize aP "PourStation" "close_at" Ag (aj 0) (au (aj 1) ao)=F at m ⊢;z_go;rw[m];z_go;rw[show dw (ak (.bl true)) Rq [] [] [] M=some ([],M) from rfl];z_go
theorem DY:∀{l:List Int} {a:Int},a∈l->aV l<=a
  | [],_,h=>nomatch h
  | [c],a,h=>by rw[xaM.mp h];exact xex _
  |c::d::l,a,h=>by
    unfold aV;rcases xaO.mp h with rfl |h
    · lia
    · have:=DY h;lia
noncomputable def up (is:List Int) (w t:Int):List Int:=is.set w.toNat (if t > is.getD w.toNat 0 then t else is.getD w.toNat 0)
def Pj:(up is w t).length=is.length:=xaz
def XM (h1:w.toNat<is.length)(h:t<=is.getD w.toNat 0):up is w t=is:=by
 unfold up;rw[xae (by lia)];rw[xav,xab h1,xbv];exact xcU h1
def XJ (h1:w.toNat<is.length):aV is<=aV (up is w t):=by
 refine Iv _ (fun e=>?_) fun a ha=>?_
 ·have:=congrArg List.length e;rw[Pj,xaI]at this;lia
 ·unfold up at ha;rcases xcc ha with h |h
  ·exact DY h
  ·have m:is.getD w.toNat 0∈is:=by
    rw[xav,xab h1,xbv];exact xaY h1
   have:=DY m;rw[h]
   split<;>lia
noncomputable def due (is:List Int) (w t:Int):List D:=if aV (up is w t) > aV is then [.tup [.str "mark",.int (aV (up is w t))]] else []
def Tn (h0:0<=w)(h1:w.toNat<is.length):cN (is.map D.int) w=some (.int (is.getD w.toNat 0)):=by
 obtain⟨j,rfl⟩:∃j:Nat,w=j:=⟨w.toNat,by lia⟩;refine tL ?_;rw[xaK]at h1 ⊢;rw[xam,xab h1]
 simp[List.getD,h1]
def Ax (h0:0<=w)(h1:w.toNat<is.length):gQ (is.map D.int).length w=some w.toNat:=by
 unfold gQ;rw[xan,xad h0,xad (by lia)]
def Gk {x:Int}{n:Nat}:(is.map D.int).set n (.int x)=(is.set n x).map D.int:=by rw[xep]
def zeK (j:Po r is M)(hn:is≠ [])(h0:0<=w)(h1:w.toNat<is.length)(ht:is.getD w.toNat 0<=t):∃M',rm [.ref r,.int w,.int t] M=some (.v (.lst (due is w t)),M')/\Po r (up is w t) M'/\Fr r 2 B M M':=by
 have ia:=Tn h0 h1;have un:up is w t≠ []:=fun e=>by
  have:=congrArg List.length e;rw[Pj,xaI]at this;lia
 by_cases h:t<=is.getD w.toNat 0
 ·have f:=mY (k:=0) (env:=[.val (.ref r),.val (.int w),.val (.int t),.un,.un]) j rfl;have wv:vw M (.ref (r + 1))=.lst (is.map .int):=gG j.mm;have ed:due is w t=[]:=by unfold due;rw[XM h1 h,xae (by lia)]
  refine⟨M,?_,by rw[XM h1 h];exact j,Fr.refl⟩;unfold rm DP;rw[ed];generalize bw "PourStation" "marks" (aj 0)=F at f ⊢;z_go;rw[f];z_go;rw[wv];z_go;rw[ia];z_go;simp only[h,xcr];z_go
 ·have eu:up is w t=is.set w.toNat t:=by unfold up;rw[xad (by lia)]
  have j1:Po r (up is w t) (M.set (r + 1) (.lst ((up is w t).map .int))):=j.setM;have f:=mY (k:=0) (env:=[.val (.ref r),.val (.int w),.val (.int t),.un,.un]) j rfl;have wv:vw M (.ref (r + 1))=.lst (is.map .int):=gG j.mm;have b1:aP "PourStation" "low" gO (aj 0) ao [.val (.ref r),.val (.int w),.val (.int t),.un,.un] M=some (.v (.int (aV is)),M):=dG (k:=r) (ds:=[]) rfl j.o (m7 (by x_go)) rfl (Kf j hn);have b2:aP "PourStation" "low" gO (aj 0) ao [.val (.ref r),.val (.int w),.val (.int t),.val (.int (aV is)),.un] (M.set (r + 1) (.lst ((up is w t).map .int)))=some (.v (.int (aV (up is w t))),M.set (r + 1) (.lst ((up is w t).map .int))):=dG (k:=r) (ds:=[]) rfl j1.o (m7 (by x_go)) rfl (Kf j1 un);have si:lu (bw "PourStation" "marks" (aj 0)) (aj 1) (aj 2) [.val (.ref r),.val (.int w),.val (.int t),.val (.int (aV is)),.un] M=some (.nx [.val (.ref r),.val (.int w),.val (.int t),.val (.int (aV is)),.un],M.set (r + 1) (.lst ((up is w t).map .int))):=by
   rw[JN (k:=r + 1) (i:=w) (x:=.int t) (M1:=M) (M2:=M) (M3:=M) (ds:=is.map .int) (j:=w.toNat) rfl (mY (k:=0) j rfl) rfl j.mm (Ax h0 h1),Gk,eu]
  have b3:aP "PourStation" "tell_low" wU (aj 0) (au (aj 4) ao) [.val (.ref r),.val (.int w),.val (.int t),.val (.int (aV is)),.val (.int (aV (up is w t)))] (M.set (r + 1) (.lst ((up is w t).map .int)))=some (.v (.lst [.tup [.str "mark",.int (aV (up is w t))]]),M.set (r + 1) (.lst ((up is w t).map .int))):=dG (k:=r) (ds:=[.int (aV (up is w t))]) rfl j1.o (m7 (by x_go)) rfl (zeo j1.o);refine⟨_,?_,j1,Fr.set (.inl (by lia))⟩;have le:=XJ (t:=t) h1;unfold rm DP due;generalize M.set (r + 1) (E3.Cl.lst ((up is w t).map .int))=M1 at b2 b3 si ⊢;generalize lu (bw "PourStation" "marks" (aj 0)) (aj 1) (aj 2)=F3 at si ⊢;generalize bw "PourStation" "marks" (aj 0)=F at f ⊢;generalize aP "PourStation" "low" gO (aj 0) ao=F2 at b1 b2 ⊢;generalize aP "PourStation" "tell_low" wU (aj 0) (au (aj 4) ao)=F4 at b3 ⊢;z_go;rw[f];z_go;rw[wv];z_go;rw[ia];z_go;simp only[h,xaS];z_go;rw[b1];z_go;rw[si];z_go;rw[b2];z_go
  by_cases hb:aV (up is w t)=aV is
  ·simp only[hb,xcr];z_go;rw[xae (by lia)]
  ·simp only[hb,xaS];z_go;rw[b3];z_go;rw[xad (by lia)]
def zgi {d:D}{M':Mm}(j:Po r is M)(h:rm [.ref r,.int w,.int t] M=some (.v d,M')):kZ [.ref r,.int w,.tup [.str "mark",.int t]] M=some (.v d,M'):=by
 have m:aP "PourStation" "take_mark" rm (aj 0) (au (aj 1) (au (s2 aM (aj 2) (ak (.int 1))) ao)) [.val (.ref r),.val (.int w),.val (.tup [.str "mark",.int t])] M=some (.v d,M'):=dG (k:=r) (ds:=[.int w,.int t]) rfl j.o (m7 (by x_go)) rfl h;unfold kZ DN;generalize aP "PourStation" "take_mark" rm _ _=F at m ⊢;z_go;rw[m];z_go
def zgy {d:D}(j:Po r is M)(hd:Tk d):kZ [.ref r,.int w,cG d] M=some (.v (.lst [cG d]),M):=by
 obtain⟨t,z,v,rfl⟩:=hd;have it:=S_ (M:=M) (d:=.tup [.int t,.str z,.int v]) ⟨t,z,v,rfl⟩;have h:wR [.ref r,.int w,.tup [.int t,.str z,.int v]] M=some (.v (.lst [cG (.tup [.int t,.str z,.int v])]),M):=by
  unfold wR HX;generalize mj=G at it ⊢;z_go;rw[it];z_go
 have m:aP "PourStation" "take_thing" wR (aj 0) (au (aj 1) (au (eX (aj 2) (gD (ak (.int 1))) m8) ao)) [.val (.ref r),.val (.int w),.val (.tup [.str "thing",.int t,.str z,.int v])] M=some (.v (.lst [cG (.tup [.int t,.str z,.int v])]),M):=dG (k:=r) (ds:=[.int w,.tup [.int t,.str z,.int v]]) rfl j.o (m7 (by x_go)) rfl h;show kZ [.ref r,.int w,.tup [.str "thing",.int t,.str z,.int v]] M=_;unfold kZ DN;generalize aP "PourStation" "take_thing" wR _ _=F at m ⊢;z_go;simp only[zF];z_go;rw[m];z_go
end
variable {M:Mm}
theorem len1 {A:Mm}{c:E3.Cl}:(A ++ [c]).length=A.length + 1:=by rw[xag];rfl
theorem Y8 (T:TT M):
  Ai [.tup (pq.map D.str),.str "tvw"] M=some (.v (.ref (M.length + 2)),M ++ [kc ["number"]] ++ [fO pq] ++ [kY (M.length + 1)]):=by
 have mk:=Bk (M:=M ++ [kc ["number"]] ++ [fO pq]) (env:=[.val (.tup (pq.map D.str)),.val (.str "tvw"),.val (.ref (M ++ [kc ["number"]]).length),.un]) (caps:=[("expr",2)]) (cs:=[("expr",.ref (M ++ [kc ["number"]]).length)]) (fY (fY T.1)) rfl;have e1:(M ++ [kc ["number"]]).length=M.length + 1:=len1;have e2:(M ++ [kc ["number"]] ++ [fO pq]).length=M.length + 2:=by rw[len1,len1]
 unfold Ai Ij;generalize gj 0 "change_of" lN [("expr",2)]=F at mk ⊢;z_go;rw[rdE];z_go;rw[mk,e1,e2];rfl
theorem zeF {x0 x1 x2:D}{s:Int}(T:TT M)(si:eF [.str (dN s)]=some (.int s)):
  wW [.tup [x0,x1,x2,.tup (.str (dN s)::pq.map D.str)]] M=some (.v (.ref (M.length + 3)),M ++ [kc ["number"]] ++ [fO pq] ++ [kY (M.length + 1)] ++ [pU s (M.length + 2)]):=by
 have e1:=Y8 T;have T3:TT (M ++ [kc ["number"]] ++ [fO pq] ++ [kY (M.length + 1)]):=T.app.app.app;have l3:(M ++ [kc ["number"]] ++ [fO pq] ++ [kY (M.length + 1)]).length=M.length + 3:=by rw[len1,len1,len1]
 generalize M ++ [kc ["number"]] ++ [fO pq] ++ [kY (M.length + 1)]=N at e1 T3 l3 ⊢;have mk:=Bk (M:=N) (env:=[.val (.tup [x0,x1,x2,.tup (.str (dN s)::pq.map D.str)]),.val (.int s),.val (.ref (M.length + 2)),.un]) (caps:=[("span",1),("change",2)]) (cs:=[("span",.int s),("change",.ref (M.length + 2))]) T3.2 rfl;have sl:eX (s2 aM (aj 0) (ak (.int 3))) (gD (ak (.int 1))) m8 [.val (.tup [x0,x1,x2,.tup (.str (dN s)::pq.map D.str)]),.val (.int s),.un,.un] M=some (.v (.tup (pq.map D.str)),M):=by
  have c:bT (D.str (dN s)::pq.map D.str) (some 1) none=pq.map D.str:=by rw[Zj _ (by decide)];rfl
  rw[Va];z_go;simp only[yj,gD,m8];z_go;rw[Vi,show zp (.tup (D.str (dN s)::pq.map D.str)) (some 1) none=some (.tup (bT (D.str (dN s)::pq.map D.str) (some 1) none)) from rfl,c];rfl
 unfold wW Io;generalize eX (s2 aM (aj 0) (ak (.int 3))) (gD (ak (.int 1))) m8=SL at sl ⊢;generalize gj 1 "pairer_of" gB [("span",1),("change",2)]=F at mk ⊢;z_go;rw[<-Fg,si];z_go;rw[sl];z_go;rw[e1];z_go;rw[mk,l3];rfl
variable {M:Mm}
noncomputable def zs (n:Nat):List Int:=List.replicate n 0
abbrev zD (n:Nat):List D:=(zs n).map D.int
def rep0 {env:E3.Env}{g:E}{n:Nat}(h:g env M=some (.v (.int n),M))(h1:n<=8):j_ (aR (au (ak (.int 0)) ao)) g env M=some (.v (.lst (zD n)),M):=by
 rw[zeE];z_go;rw[ze8 (i:=(n:Int)) h ⟨by lia,by simp⟩];congr 3;unfold zD zs
 simp
theorem wz {o:E3.Cl}{R:Mm}:(M ++ (o::R))[M.length]? =some o:=by rw[xap (xaf _),xbH];rfl
def api {R:Mm}{i:Nat}:(M ++ R)[M.length + i]? =R[i]? :=by rw[xap (by lia),show M.length + i - M.length=i by lia]
theorem zU {o o':E3.Cl}{R:Mm}:(M ++ (o::R)).set M.length o'=M ++ (o'::R):=by rw[xbu _ _ (xaf _),xbH];rfl
theorem YF {fr:List D}{x0 x1 x3:D}(h1:fr.length<=8):wQ [.ref M.length,.tup [x0,x1,.tup fr,x3]] (M ++ [.obj "PourStation" []])=some (.v .non,M ++ [.obj "PourStation" [("marks",.ref (M.length + 1))],.lst (zD fr.length)]):=by
 have rp:=rep0 (M:=M ++ [.obj "PourStation" []]) (env:=[.val (.ref M.length),.val (.tup [x0,x1,.tup fr,x3])]) (g:=sN bW (au (s2 aM (aj 1) (ak (.int 2))) ao)) (n:=fr.length) (by z_go) h1;have fc:eU (j_ (aR (au (ak (.int 0)) ao)) (sN bW (au (s2 aM (aj 1) (ak (.int 2))) ao))) [.val (.ref M.length),.val (.tup [x0,x1,.tup fr,x3])] (M ++ [.obj "PourStation" []])=some (.v (.ref (M.length + 1)),M ++ [.obj "PourStation" [],.lst (zD fr.length)]):=by
  generalize j_ (aR (au (ak (.int 0)) ao)) (sN bW (au (s2 aM (aj 1) (ak (.int 2))) ao))=F2 at rp ⊢;z_go;rw[rp];z_go;rw[len1,xao];rfl
 unfold wQ HN;generalize eU (j_ (aR (au (ak (.int 0)) ao)) (sN bW (au (s2 aM (aj 1) (ak (.int 2))) ao)))=F at fc ⊢;rw[xM,za];show cC (nj aA (eV "PourStation" "marks" (aj 0) F [.val (.ref M.length),.val (.tup [x0,x1,.tup fr,x3])] (M ++ [.obj "PourStation" []])))=_;rw[wJ (k:=M.length) (x:=.ref (M.length + 1)) (M1:=M ++ [.obj "PourStation" [],.lst (zD fr.length)]) (M2:=M ++ [.obj "PourStation" [],.lst (zD fr.length)]) (fs:=[]) fc rfl wz (by decide),zU];rfl
theorem YD {fr:List D}{x0 x1 x3:D}(h1:fr.length<=8):wK [.ref M.length,.tup [x0,x1,.tup fr,x3]] (M ++ [.obj "JoinStation" []])=some (.v .non,M ++ [.obj "JoinStation" [("marks",.ref (M.length + 1))],.lst (zD fr.length)]):=by
 have rp:=rep0 (M:=M ++ [.obj "JoinStation" []]) (env:=[.val (.ref M.length),.val (.tup [x0,x1,.tup fr,x3])]) (g:=sN bW (au (s2 aM (aj 1) (ak (.int 2))) ao)) (n:=fr.length) (by z_go) h1;have fc:eU (j_ (aR (au (ak (.int 0)) ao)) (sN bW (au (s2 aM (aj 1) (ak (.int 2))) ao))) [.val (.ref M.length),.val (.tup [x0,x1,.tup fr,x3])] (M ++ [.obj "JoinStation" []])=some (.v (.ref (M.length + 1)),M ++ [.obj "JoinStation" [],.lst (zD fr.length)]):=by
  generalize j_ (aR (au (ak (.int 0)) ao)) (sN bW (au (s2 aM (aj 1) (ak (.int 2))) ao))=F2 at rp ⊢;z_go;rw[rp];z_go;rw[len1,xao];rfl
 unfold wK DG;generalize eU (j_ (aR (au (ak (.int 0)) ao)) (sN bW (au (s2 aM (aj 1) (ak (.int 2))) ao)))=F at fc ⊢;rw[xM,za];show cC (nj aA (eV "JoinStation" "marks" (aj 0) F [.val (.ref M.length),.val (.tup [x0,x1,.tup fr,x3])] (M ++ [.obj "JoinStation" []])))=_;rw[wJ (k:=M.length) (x:=.ref (M.length + 1)) (M1:=M ++ [.obj "JoinStation" [],.lst (zD fr.length)]) (M2:=M ++ [.obj "JoinStation" [],.lst (zD fr.length)]) (fs:=[]) fc rfl wz (by decide),zU];rfl
noncomputable def PL (r n:Nat):Mm:=[.obj "PourStation" [("marks",.ref (r + 1))],.lst (zD n)]
def Ks {fr:List D}{x3:D}(h1:fr.length<=8):rG [.tup [.str "pour",.str "p",.tup fr,x3]] M=some (.v (.ref M.length),M ++ PL M.length fr.length):=by
 have mk:ni "PourStation" wQ (au (aj 0) ao) [.val (.tup [.str "pour",.str "p",.tup fr,x3])] M=some (.v (.ref M.length),M ++ PL M.length fr.length):=Ko (M1:=M) rfl (YF h1);have k1:(Str.ofString "pour"=Str.ofString "keep")=False:=xea (by x_go);have k2:(Str.ofString "pour"=Str.ofString "turn")=False:=xea (by x_go);have k3:(Str.ofString "pour"=Str.ofString "share")=False:=xea (by x_go);unfold rG DX;generalize ni "PourStation" wQ (au (aj 0) ao)=F at mk ⊢;z_go;simp only[k1,k2,k3,xaS];z_go
 try simp only[k1,k2,k3,xaS]
 z_go
 try simp only[k1,k2,k3,xaS]
 z_go;rw[mk];z_go
def Yk {n:Nat}:Po M.length (zs n) (M ++ PL M.length n):=⟨wz,api⟩
noncomputable def JL (r:Nat) (s:Int):Mm:=[OB r s (r + 6) (r + 7),.lst [.int 0,.int 0],kc ["number"],fO pq,kY (r + 3),pU s (r + 4),.lst [],.lst []]
def Yg {B:Nat}{s:Int}(hB:M.length + 8<=B):J M.length B s 0 0 (M.length + 6) (M.length + 7) [] [] (M ++ JL M.length s):=⟨wz,api,api,api,api,api,api,by lia,.inl rfl,.inl rfl,hB⟩
variable {M:Mm}
def JR {s:Int}{x0 x1:D}(T:TT M)(si:eF [.str (dN s)]=some (.int s)):wL [.ref M.length,.tup [x0,x1,.tup [.str "a",.str "b"],.tup (.str (dN s)::pq.map D.str)]] (M ++ [.obj "JoinStation" []])=some (.v .non,M ++ JL M.length s):=by
 obtain⟨row,hrow⟩:∃row,row=D.tup [x0,x1,.tup [.str "a",.str "b"],.tup (.str (dN s)::pq.map D.str)]:=⟨_,rfl⟩;have b0:wK [.ref M.length,row] (M ++ [.obj "JoinStation" []])=some (.v .non,M ++ [.obj "JoinStation" [("marks",.ref (M.length + 1))],.lst [.int 0,.int 0]]):=by rw[hrow];exact YD (fr:=[.str "a",.str "b"]) (by decide)
 have b1:eV "JoinStation" "span" (aj 0) (sN eF (au (s2 aM (s2 aM (aj 1) (ak (.int 3))) (ak (.int 0))) ao)) [.val (.ref M.length),.val row] (M ++ [.obj "JoinStation" [("marks",.ref (M.length + 1))],.lst [.int 0,.int 0]])=some (.nx [.val (.ref M.length),.val row],M ++ [.obj "JoinStation" [("marks",.ref (M.length + 1)),("span",.int s)],.lst [.int 0,.int 0]]):=by
  rw [wJ (k := M.length) (x := .int s) (M1 := M ++ [.obj "JoinStation" [("marks", .ref (M.length + 1))], .lst [.int 0, .int 0]]) (M2 := M ++ [.obj "JoinStation" [("marks", .ref (M.length + 1))], .lst [.int 0, .int 0]]) (fs := [("marks", .ref (M.length + 1))]) (by
   rw[hrow];z_go;rw[<-Fg,si];z_go) rfl wz (by show 1<1000;decide),zU]
  rfl
 have l2:(M ++ [E3.Cl.obj "JoinStation" [("marks",.ref (M.length + 1)),("span",.int s)],.lst [.int 0,.int 0]]).length=M.length + 2:=by rw[xag];rfl
 have pk:=zeF (M:=M ++ [.obj "JoinStation" [("marks",.ref (M.length + 1)),("span",.int s)],.lst [.int 0,.int 0]]) (x0:=x0) (x1:=x1) (x2:=.tup [.str "a",.str "b"]) (s:=s) T.app si;rw[<-hrow,l2]at pk;simp only[xao,xdT,xbe,xdy,Nat.reduceAdd]at pk;have b2:eV "JoinStation" "pair" (aj 0) (bQ wW (au (aj 1) ao)) [.val (.ref M.length),.val row] (M ++ [.obj "JoinStation" [("marks",.ref (M.length + 1)),("span",.int s)],.lst [.int 0,.int 0]])=some (.nx [.val (.ref M.length),.val row],M ++ [.obj "JoinStation" [("marks",.ref (M.length + 1)),("span",.int s),("pair",.ref (M.length + 5))],.lst [.int 0,.int 0],kc ["number"],fO pq,kY (M.length + 3),pU s (M.length + 4)]):=by
  rw [wJ (k := M.length) (x := .ref (M.length + 5)) (fs := [("marks", .ref (M.length + 1)), ("span", .int s)]) (M1 := M ++ [.obj "JoinStation" [("marks", .ref (M.length + 1)), ("span", .int s)], .lst [.int 0, .int 0], kc ["number"], fO pq, kY (M.length + 3), pU s (M.length + 4)]) (M2 := M ++ [.obj "JoinStation" [("marks", .ref (M.length + 1)), ("span", .int s)], .lst [.int 0, .int 0], kc ["number"], fO pq, kY (M.length + 3), pU s (M.length + 4)]) (by
   generalize wW=G at pk ⊢;z_go;rw[pk];z_go) rfl wz (by show 2<1000;decide),zU]
  rfl
 have b3:eV "JoinStation" "kept" (aj 0) (bf (au (eU (aR ao)) (au (eU (aR ao)) ao))) [.val (.ref M.length),.val row] (M ++ [.obj "JoinStation" [("marks",.ref (M.length + 1)),("span",.int s),("pair",.ref (M.length + 5))],.lst [.int 0,.int 0],kc ["number"],fO pq,kY (M.length + 3),pU s (M.length + 4)])=some (.nx [.val (.ref M.length),.val row],M ++ JL M.length s):=by
  rw [wJ (k := M.length) (x := .tup [.ref (M.length + 6), .ref (M.length + 7)]) (fs := [("marks", .ref (M.length + 1)), ("span", .int s), ("pair", .ref (M.length + 5))]) (M1 := M ++ [.obj "JoinStation" [("marks", .ref (M.length + 1)), ("span", .int s), ("pair", .ref (M.length + 5))], .lst [.int 0, .int 0], kc ["number"], fO pq, kY (M.length + 3), pU s (M.length + 4), .lst [], .lst []]) (M2 := M ++ [.obj "JoinStation" [("marks", .ref (M.length + 1)), ("span", .int s), ("pair", .ref (M.length + 5))], .lst [.int 0, .int 0], kc ["number"], fO pq, kY (M.length + 3), pU s (M.length + 4), .lst [], .lst []]) (by
   z_go;simp only[xag,xaw,xaI,xdy,Nat.reduceAdd,xao,xdT,xbe]) rfl wz (by show 3<1000;decide),zU]
  rfl
 rw[<-hrow];unfold wL Hv;generalize eV "JoinStation" "span" (aj 0) _=F1 at b1 ⊢;generalize eV "JoinStation" "pair" (aj 0) _=F2 at b2 ⊢;generalize eV "JoinStation" "kept" (aj 0) _=F3 at b3 ⊢;generalize wK=G at b0 ⊢;clear hrow;z_go;rw[b0];z_go;rw[b1];z_go;rw[b2];z_go;rw[b3];z_go
theorem Kr {s:Int}(T:TT M)(si:eF [.str (dN s)]=some (.int s)):rG [.tup [.str "join",.str "p",.tup [.str "a",.str "b"],.tup (.str (dN s)::pq.map D.str)]] M=some (.v (.ref M.length),M ++ JL M.length s):=by
 have mk:ni "JoinStation" wL (au (aj 0) ao) [.val (.tup [.str "join",.str "p",.tup [.str "a",.str "b"],.tup (.str (dN s)::pq.map D.str)])] M=some (.v (.ref M.length),M ++ JL M.length s):=Ko (M1:=M) (ds:=[.tup [.str "join",.str "p",.tup [.str "a",.str "b"],.tup (.str (dN s)::pq.map D.str)]]) rfl (JR T si);unfold rG DX;generalize ni "JoinStation" wL _=F at mk ⊢;generalize M ++ JL M.length s=M2 at mk ⊢;generalize D.tup (.str (dN s)::pq.map D.str)=R at mk ⊢;have n1:(Str.ofString "join"≠Str.ofString "keep")/\(Str.ofString "join"≠Str.ofString "turn")/\(Str.ofString "join"≠Str.ofString "share")/\(Str.ofString "join"≠Str.ofString "pour")/\(Str.ofString "join"≠Str.ofString "gap"):=by x_go
 have n6:aG .isin (.str "join") (.tup [.str "fixed",.str "slide"])=some (.bl false):=by kernel_rfl
 z_go
 try simp only[n1,xaS]
 z_go
 try simp only[n1,xaS]
 z_go
 try simp only[n1,xaS]
 z_go
 try simp only[n1,xaS]
 z_go;rw[n6];z_go
 try simp only[n1,xaS]
 z_go;rw[mk];z_go
noncomputable def dF:Int:=1000000000000000
abbrev cV (t:Int):D:=.tup [.str "mark",.int t]
noncomputable def vW:Int->List D->Prop
 |m,[]=>m=dF
 |m,x::r=>(∃t,x=cV t/\m<=t/\vW t r)\/(∃d,x=cG d/\Th d/\m<=tm d/\vW m r)
inductive dY:List (List D)->List (Nat×D)->Prop
 |nil {ls:List (List D)} (h:∀l∈ls,l=[]):dY ls []
 |step {ls:List (List D)} {w:Nat} {x:D} {l:List D} {os:List (Nat×D)} (h:ls[w]? =some (x::l)) (r:dY (ls.set w l) os):dY ls ((w,x)::os)
noncomputable def bx:Nat->List (List D)->List (Nat×D)
 |_,[]=>[]
 |i,l::ls=>l.map (Prod.mk i) ++ bx (i + 1) ls
theorem QF {x:D}{l:List D}:∀(ls:List (List D)) (i w:Nat),ls[w]? =some (x::l)->(bx i ls).Perm ((i + w,x)::bx i (ls.set w l))
  | [],_,w,h=>by cases w<;>cases h
  |l'::ls,i,0,h=>by
    have:l'=x::l:=xaA h;subst this;exact xce _
  |l'::ls,i,w + 1,h=>by
    have ih:=QF ls (i + 1) w h;rw[show i + 1 + w=i + (w + 1) by lia]at ih;show(l'.map (Prod.mk i) ++ bx (i + 1) ls).Perm ((i + (w + 1),x)::(l'.map (Prod.mk i) ++ bx (i + 1) (ls.set w l)));exact(ih.append_left _).trans List.perm_middle
theorem QD:∀(ls:List (List D)) (i:Nat),(∀l∈ls,l=[])->bx i ls=[]
  | [],_,_=>rfl
  |l::ls,i,h=>by
    have e:l=[]:=h l (by simp);subst e;exact QD ls (i + 1) fun l hl=>h l (by simp[hl])
def Te {ls:List (List D)}{os:List (Nat×D)}(h:dY ls os):os.Perm (bx 0 ls):=by
  induction h with
  |nil h=>rw[QD _ _ h]
  |step h _ ih=>
    have c:=QF _ 0 _ h;rw[xdP]at c;exact(ih.cons _).trans c.symm
theorem Tf {w:Nat}{os:List (Nat×D)}:∀(l:List D) (ls:List (List D)),ls[w]? =some l->dY (ls.set w []) os->dY ls (l.map (Prod.mk w) ++ os)
  | [],ls,h,r=>by
    have hw:=(xah.mp h).1;have e:ls.set w []=ls:=by
      refine xdD fun i=>?_
      by_cases hi:w=i
      · subst hi;rw[xaW hw,h]
      · rw[xa0 hi]
    rw[e]at r;exact r
  |x::l,ls,h,r=>by
    have hw:=(xah.mp h).1;exact dY.step h (Tf l (ls.set w l) (xaW hw) (by rw[List.set_set];exact r))
noncomputable def kp:Int->List D->Option Int
 |m,[]=>some m
 |m,.tup [.str z,.int t]::r=>if z≠Str.ofString "mark"\/t<=m then none else kp t r
 |m,.tup [.str z,.int t,.str _,.int _]::r=>if z≠Str.ofString "thing"\/t<m then none else kp m r
 |_,_=>none
def Tv {b:List D}{m m':Int}{a:List D}(h:kp m a=some m'):kp m (a ++ b)=kp m' b:=by
  induction a generalizing m with
  |nil=>cases h;rfl
  |cons x a ih=>
    unfold kp at h;krn_ne
    · rename_i e;cases e
    · rename_i e;cases e;krn_ne
      · cases h
      · rename_i hn;show(if _\/_ then none else kp _ (a ++ b))=_
        rw[xae hn];exact ih h
    · rename_i e;cases e;krn_ne
      · cases h
      · rename_i hn;show(if _\/_ then none else kp _ (a ++ b))=_
        rw[xae hn];exact ih h
    · cases h
theorem Tw {m:Int}:∀(a:List D),(∀x∈a,∃e,x=cG e/\m<=tm e)->kp m a=some m
  | [],_=>rfl
  |x::a,h=>by
    obtain⟨e,rfl,he⟩:=h x (by simp);show(if Str.ofString "thing"≠Str.ofString "thing"\/tm e<m then none else kp m a)=_
    rw[xae (fun h=>h.elim (fun z=>z rfl) (by lia))];exact Tw a fun y hy=>h y (by simp[hy])
noncomputable def fG:D->Bool
 |.tup (.str z::_)=>decide (z=Str.ofString "thing")
 |_=>false
def JV {d:D}:fG (cG d)=true:=by
 show decide (Str.ofString "thing"=Str.ofString "thing")=true
 decide +kernel
def Eo {t:Int}:fG (cV t)=false:=by
 show decide (Str.ofString "mark"=Str.ofString "thing")=false
 decide +kernel
theorem RK:∀(a:List D),(∀x∈a,∃e,x=cG e)->a.filter fG=a
  | [],_=>rfl
  |x::a,h=>by
    obtain⟨e,rfl⟩:=h x (by simp);rw[xbM,xad JV,RK a fun y hy=>h y (by simp[hy])]
theorem A_ {m':Int}:∀{a:List D} {m:Int},kp m a=some m'->∀x∈a,(∃t,x=cV t)\/(∃t y v,x=.tup [.str "thing",.int t,.str y,.int v])
  | [],m,_,x,hx=>nomatch hx
  |y::a,m,h,x,hx=>by
    unfold kp at h;krn_ne
    · rename_i e;cases e
    · rename_i e;cases e;krn_ne
      · cases h
      · rename_i hn;rcases xaO.mp hx with rfl |hx
        · have e2:=xew.mp fun z=>hn (.inl z);subst e2;exact .inl ⟨_,rfl⟩
        · exact A_ h x hx
    · rename_i e;cases e;krn_ne
      · cases h
      · rename_i hn;rcases xaO.mp hx with rfl |hx
        · have e2:=xew.mp fun z=>hn (.inl z);subst e2;exact .inr ⟨_,_,_,rfl⟩
        · exact A_ h x hx
    · cases h
theorem Td:∀(ls:List (List D)) (k:Nat),dY (List.replicate k [] ++ ls) (bx k ls)
  | [],k=>dY.nil fun l hl=>by rw[xas]at hl;exact xci hl
  |l::ls,k=>by
    have h:(List.replicate k [] ++ l::ls)[k]? =some l:=by rw[xap (by rw[xaB];lia),xaB,xbH];rfl
    refine Tf l _ h ?_;have e:(List.replicate k [] ++ l::ls).set k []=List.replicate (k + 1) [] ++ ls:=by
      rw[xbu _ _ (by rw[xaB];lia),xaB,xbH,List.replicate_succ',xao];rfl
    rw[e];exact Td ls (k + 1)
def Ti (ls:List (List D)):dY ls (bx 0 ls):=Td ls 0
theorem sum_set {l l':List D}:∀(ls:List (List D)) (w:Nat),ls[w]? =some l->((ls.set w l').map List.length).sum + l.length=(ls.map List.length).sum + l'.length
  | [],w,h=>by cases w<;>cases h
  |a::ls,0,h=>by
    cases h;simp only[xaN,xaP,xcn];lia
  |a::ls,w + 1,h=>by
    have ih:=sum_set (l':=l') ls w h;simp only[xaR,xaP,xcn];lia
theorem Pq:∀{l:List D} {m:Int},vW m l->D.deps l<=1
  | [],_,_=>by decide
  |x::l,m,h=>by
    rcases h with⟨t,rfl,_,h⟩ |⟨d,rfl,_,_,h⟩
    · have:=Pq h;show max (max 0 (max 0 0) + 1) _<=1;lia
    · have:=Pq h;show max (max 0 (max 0 (max 0 (max 0 0))) + 1) _<=1;lia
variable {M:Mm}
section
variable {r hh B n:Nat}{S:List Int->List (Nat×D)->Mm->Prop}{al:List (Nat×D)->List D}
def HM (r hh B n:Nat)(S:List Int->List (Nat×D)->Mm->Prop):Prop:=∀(is:List Int) (pre:List (Nat×D)) (M:Mm) (w:Nat) (t:Int),S is pre M->is.length=n->w<n->is.getD w 0<=t->pre.length<=60->
 ∃M',(∀a1 a2 a5,(bL (aP "PourStation" "take_in" kZ (aj 0) (au (aj 3) (au (aj 4) ao))) (aP "JoinStation" "take_in" lM (aj 0) (au (aj 3) (au (aj 4) ao)))) [.val (.ref r),a1,a2,.val (.int w),.val (cV t),a5] M=some (.v (.lst (due is w t)),M'))/\S (up is w t) (pre ++ [(w,cV t)]) M'/\Fr r hh B M M'
def HT (r hh B n:Nat)(S:List Int->List (Nat×D)->Mm->Prop)(al:List (Nat×D)->List D):Prop:=∀(is:List Int) (pre:List (Nat×D)) (M:Mm) (w:Nat) (d:D),S is pre M->is.length=n->w<n->Th d->is.getD w 0<=tm d->pre.length<=60->
 ∃M' new,(∀a1 a2 a5,(bL (aP "PourStation" "take_in" kZ (aj 0) (au (aj 3) (au (aj 4) ao))) (aP "JoinStation" "take_in" lM (aj 0) (au (aj 3) (au (aj 4) ao)))) [.val (.ref r),a1,a2,.val (.int w),.val (cG d),a5] M=some (.v (.lst new),M'))/\S is (pre ++ [(w,cG d)]) M'/\(∀x∈new,∃e,x=cG e/\aV is<=tm e)/\(al pre ++ new).Perm (al (pre ++ [(w,cG d)]))/\new.length<=60/\Fr r hh B M M'
noncomputable def enc (p:Nat×D):D:=.tup [.int p.1,p.2]
def Dh {w:Int}{x:D}{acc new:List D}{a1 s5:Slot}{M':Mm}(e:(bL (aP "PourStation" "take_in" kZ (aj 0) (au (aj 3) (au (aj 4) ao))) (aP "JoinStation" "take_in" lM (aj 0) (au (aj 3) (au (aj 4) ao)))) [.val (.ref r),a1,.own acc,.val (.int w),.val x,s5] M=some (.v (.lst new),M'))(hl:acc.length + new.length<=1000000):
  mq [.val (.ref r),a1,.own acc,.val (.int w),.val x,s5] M=some (.nx [.val (.ref r),a1,.own (acc ++ new),.val (.int w),.val x,.val (.lst new)],M'):=by
 have ex:=GQ (M:=M') (env:=[.val (.ref r),a1,.own acc,.val (.int w),.val x,.val (.lst new)]) (k:=2) (f:=aj 5) (ds:=acc) (es:=new) (M1:=M') rfl rfl hl;unfold mq;generalize (bL (aP "PourStation" "take_in" kZ (aj 0) (au (aj 3) (au (aj 4) ao))) (aP "JoinStation" "take_in" lM (aj 0) (au (aj 3) (au (aj 4) ao))))=F at e ⊢;generalize gh 2 (aj 5)=F2 at ex ⊢;z_go;rw[e];z_go;rw[za3];z_go;rw[ex];z_go
def T_ {w:Int}{x:D}{ds acc new:List D}{a1 s3 s4 s5:Slot}{M':Mm}(e:∀s5,mq [.val (.ref r),a1,.own acc,.val (.int w),.val x,s5] M=some (.nx [.val (.ref r),a1,.own (acc ++ new),.val (.int w),.val x,.val (.lst new)],M')):
  lQ [3,4] mq (.tup [.int w,x]::ds) [.val (.ref r),a1,.own acc,s3,s4,s5] M=lQ [3,4] mq ds [.val (.ref r),a1,.own (acc ++ new),.val (.int w),.val x,.val (.lst new)] M':=by
 have ht:yt [3,4] (.tup [.int w,x]) [.val (.ref r),a1,.own acc,s3,s4,s5]=some [.val (.ref r),a1,.own acc,.val (.int w),.val x,s5]:=rfl;simp only[lQ,ht,e]
def R4 {is:List Int}{w i:Nat}{t:Int}(hw:w<is.length):(is.set w t).getD i 0=if w=i then t else is.getD i 0:=by
 rw[xav,xbd]
 by_cases h:w=i
 ·rw[xad h,xad h,xad (by lia)];rfl
 ·rw[xae h,xae h,xav]
def Pk {is:List Int}{w:Nat}{t:Int}(h:is.getD w 0<=t):up is (w:Int) t=is.set w t:=by
 unfold up;rw[xaK]
 split
 ·rfl
 ·congr 1;lia
def zeJ {is:List Int}{w t:Int}(hw:w.toNat<is.length):kp (aV is) (due is w t)=some (aV (up is w t)):=by
 have:=XJ (t:=t) hw;unfold due
 split
 ·show(if Str.ofString "mark"≠Str.ofString "mark"\/aV (up is w t)<=aV is then none else some (aV (up is w t)))=_
  rw[xae (fun h=>h.elim (fun z=>z rfl) (by lia))]
 ·show some (aV is)=_;congr 1;lia
def Zn {is:List Int}{w t:Int}:(due is w t).length<=1:=by
 unfold due
 split<;>simp
theorem Zm {is:List Int}{w t:Int}:(due is w t).filter fG=[]:=by
 unfold due
 split
 ·rw[xbM,xae (by rw[Eo];decide)];rfl
 ·rfl
def run (hm:HM r hh B n S)(ht:HT r hh B n S al)(ha:∀pre w t,al (pre ++ [(w,cV t)])=al pre){a1:Slot}{ls:List (List D)}{os:List (Nat×D)}(h:dY ls os):
    ∀(is:List Int) (pre:List (Nat×D)) (acc:List D) (M:Mm) (s3 s4 s5:Slot),ls.length=n->is.length=n->(∀w l,ls[w]? =some l->vW (is.getD w 0) l)->S is pre M->kp 0 acc=some (aV is)->(acc.filter fG).Perm (al pre)->pre.length + os.length<=60->acc.length<=60 * pre.length->
    ∃is' acc' M' s3' s4' s5',lQ [3,4] mq (os.map enc) [.val (.ref r),a1,.own acc,s3,s4,s5] M=some (.nx [.val (.ref r),a1,.own acc',s3',s4',s5'],M')/\is'.length=n/\(∀i∈is',i=dF)/\S is' (pre ++ os) M'/\kp 0 acc'=some (aV is')/\(acc'.filter fG).Perm (al (pre ++ os))/\acc'.length<=3600/\Fr r hh B M M':=by
  induction h with
  | @nil ls h=>
    intro is pre acc M s3 s4 s5 ll il hv hS hk hp hb hl;refine⟨is,acc,M,s3,s4,s5,rfl,il,fun i hi=>?_,by rw[xas];exact hS,hk,by rw[xas];exact hp,by simp only[xaI]at hb;lia,Fr.refl⟩;obtain⟨w,hw,rfl⟩:=xbG hi;have e:ls[w]? =some []:=by
      rw[xab (by lia),h _ (xaY _)]
    have:=hv w [] e;rw[xav,xab hw]at this;exact this
  | @step ls w x l os h _ ih=>
    intro is pre acc M s3 s4 s5 ll il hv hS hk hp hb hl;rw[xaw]at hb;have hw:w<ls.length:=(xah.mp h).1;rcases hv w _ h with⟨t,rfl,mt,vt⟩ |⟨d,rfl,hd,mt,vt⟩
    · obtain ⟨M1, e, hS1, f1⟩ := hm is pre M w t hS il (by lia) mt (by lia);have dl := Zn (is := is) (w := w) (t := t);have uw := Pk mt;obtain ⟨is', acc', M', s3', s4', s5', e', il', ia, hS', hk', hp', hl', f'⟩ := ih (up is w t) (pre ++ [(w, cV t)]) (acc ++ due is w t) M1 (.val (.int w)) (.val (cV t)) (.val (.lst (due is w t))) (by rw [xaz]; exact ll) (by rw [Pj]; exact il) (fun i l' hi=>by
          rw[uw,R4 (by lia)]
          by_cases hwi:w=i
          · subst hwi;rw[xaW hw]at hi;cases hi;rw[xad rfl];exact vt
          · rw[xa0 hwi]at hi;rw[xae hwi];exact hv i l' hi) hS1 (by rw[Tv hk];exact zeJ (by rw[xaK];lia)) (by rw[xcp,Zm,xas,ha];exact hp) (by rw[xag,xaJ];lia) (by rw[xag,xag,xaJ];lia)
      refine⟨is',acc',M',s3',s4',s5',?_,il',ia,by rw[xao]at hS';exact hS',hk',by rw[xao]at hp';exact hp',hl',f1.trans f'⟩;rw[xaP];show lQ [3,4] mq (.tup [.int (w:Int),cV t]::os.map enc) _ _=_;rw[T_ (fun s5=>Dh (e _ _ s5) (by lia))];exact e'
    · obtain ⟨M1, new, e, hS1, hx, pm, nl, f1⟩ := ht is pre M w d hS il (by lia) hd mt (by lia);obtain ⟨is', acc', M', s3', s4', s5', e', il', ia, hS', hk', hp', hl', f'⟩ := ih is (pre ++ [(w, cG d)]) (acc ++ new) M1 (.val (.int w)) (.val (cG d)) (.val (.lst new)) (by rw [xaz]; exact ll) il (fun i l' hi=>by
          by_cases hwi:w=i
          · subst hwi;rw[xaW hw]at hi;cases hi;exact vt
          · rw[xa0 hwi]at hi;exact hv i l' hi) hS1 (by rw[Tv hk];exact Tw new hx) (by rw[xcp,RK new fun x hx'=>by obtain⟨e,z,_⟩:=hx x hx';exact⟨e,z⟩];exact(hp.append_right _).trans pm) (by rw[xag,xaJ];lia) (by rw[xag,xag,xaJ];lia)
      refine⟨is',acc',M',s3',s4',s5',?_,il',ia,by rw[xao]at hS';exact hS',hk',by rw[xao]at hp';exact hp',hl',f1.trans f'⟩;rw[xaP];show lQ [3,4] mq (.tup [.int (w:Int),cG d]::os.map enc) _ _=_;rw[T_ (fun s5=>Dh (e _ _ s5) (by lia))];exact e'
end
variable {M:Mm}
def v0 {env:E3.Env}{r:Nat}(h:env[0]? =some (.val (.ref r))):aj 0 env M=some (.v (.ref r),M):=by unfold aj;rw[h]
def Iw:("PourStation":Str)≠"JoinStation"/\("JoinStation":Str)≠"PourStation":=by x_go
def yF (pre:List (Nat×D)):List D:=(pre.map Prod.snd).filter fG
def Ys (pre:List (Nat×D))(w:Nat)(t:Int):yF (pre ++ [(w,cV t)])=yF pre:=by
 unfold yF;rw[xbr,xcp];show _ ++ [cV t].filter fG=_;rw[xbM,xae (by rw[Eo];decide)];exact xas _
def YC {is:List Int}{w:Nat}(h:w<is.length):aV is<=is.getD w 0:=by
 refine DY ?_;rw[xav,xab h,xbv];exact xaY h
def JD {r B n:Nat}(n0:0<n):HM r 2 B n (fun is _ M=>Po r is M):=by
 intro is pre M w t j il hw mt _;obtain⟨M',e,j',f⟩:=zeK (B:=B) (w:=(w:Int)) (t:=t) j (fun e=>by rw[e]at il;simp at il;lia) (by lia) (by rw[xaK];lia) (by rw[xaK];exact mt);exact⟨M',fun a1 a2 a5=>alt_1 (dG (k:=r) (v0 rfl) j.o (m7 (by x_go)) rfl (zgi j e)),j',f⟩
def JG {r B n:Nat}:HT r 2 B n (fun is _ M=>Po r is M) yF:=by
 intro is pre M w d j il hw hd mt _;refine⟨M,[cG d],fun a1 a2 a5=>alt_1 (dG (k:=r) (v0 rfl) j.o (m7 (by x_go)) rfl (zgy j hd.tk)),j,fun x hx=>⟨d,xaM.mp hx,Int.le_trans (YC (by lia)) mt⟩,?_,by simp,Fr.refl⟩;unfold yF;rw[xbr,xcp];show List.Perm _ (_ ++ [cG d].filter fG);rw[xbM,xad JV];exact xce _
def Di {t t' v v':Int}{z z':Str}:∃b,bY [.int t,.str z,.int v] [.int t',.str z',.int v']=some b:=by
 simp only[bY]
 repeat' split
 all_goals exact⟨_,rfl⟩
theorem RM {α β:Type}{f:α->List β}{P:α->Bool}:∀{l:List α},(∀x∈l,P x=false->f x=[])->(l.filter P).flatMap f=l.flatMap f
  | [],_=>rfl
  |x::l,h=>by
    have ih:=RM (l:=l) fun y hy=>h y (xat _ hy)
    cases e:P x with
    |true=>rw[List.filter_cons_of_pos e,xa6,xa6,ih]
    |false=>rw[List.filter_cons_of_neg (by rw[e];decide),xa6,h x (xaT ..) e,ih,xbe]
def zfr {w s low:Int}{d e:D}(h:low<=tm d)(g:tm e + s<low):d7 w s d e=[]:=by
 unfold d7 m9 ab
 split
 ·refine xae fun x=>?_;have:=x.2;split at this<;>lia
 ·refine xae fun x=>?_;have:=x.2;split at this<;>lia
def ok3 {ds:List D}(hT:∀d∈ds,Tk d):mC ds:=by
 refine⟨.inl (xbw.mpr fun d hd=>?_),fun xs ys hx hy=>?_⟩
 ·obtain⟨t,z,v,rfl⟩:=hT d hd;rfl
 ·obtain⟨t,z,v,e⟩:=hT _ hx;obtain⟨t',z',v',e'⟩:=hT _ hy;rw[D.tup.inj e,D.tup.inj e'];exact Di
noncomputable def un:D->Option D
 |.tup [.str _,.int t,.str z,.int v]=>some (.tup [.int t,.str z,.int v])
 |_=>none
theorem Ph {t:Int}:un (cV t)=none:=rfl
theorem Pg {d:D}(h:Tk d):un (cG d)=some d:=by
 obtain⟨t,z,v,rfl⟩:=h;rfl
noncomputable def wy (w:Nat) (pre:List (Nat×D)):List D:=pre.filterMap fun p=>if p.1=w then un p.2 else none
def GP {w:Nat}{pre:List (Nat×D)}:(wy w pre).length<=pre.length:=List.length_filterMap_le ..
def nA {w w':Nat}{t:Int}{pre:List (Nat×D)}:wy w (pre ++ [(w',cV t)])=wy w pre:=by
 unfold wy;rw[xd6];simp only[xbp,xeq,Ph,ite_self,xas]
def fM {w w':Nat}{d:D}{pre:List (Nat×D)}(h:Tk d):wy w (pre ++ [(w',cG d)])=wy w pre ++ (if w'=w then [d] else []):=by
 unfold wy;rw[xd6];congr 1;simp only[xbp,xeq,Pg h]
 by_cases e:w'=w
 ·simp only[e,xbB]
 ·simp only[e,xbX]
theorem Tq {s a b:Int}{K:List D}(h:a<=b):kl s b (kl s a K)=kl s b K:=by
 unfold kl;rw[List.filter_filter];refine List.filter_congr fun x _=>?_
 by_cases hx:tm x + s >=b
 ·rw[xaX hx,xaX (show tm x + s >=a by lia)];rfl
 ·rw[xaH hx];rfl
def Et {s a:Int}{K:List D}{P:D->Prop}(h:∀d∈K,P d):∀d∈kl s a K,P d:=fun d hd=>h d (xcX.mp hd).1
def Er {s a:Int}{K:List D}:(kl s a K).length<=K.length:=List.length_filter_le ..
theorem Tt {s a:Int}{K:List D}{d:D}(h:a<=tm d)(s0:0<=s):kl s a (K ++ [d])=kl s a K ++ [d]:=by
 unfold kl;rw[xcp,xbM,xad (xaX (show tm d + s >=a by lia))];rfl
noncomputable def mL (s:Int) (pre:List (Nat×D)):List D:=((wy 0 pre).flatMap fun x=>(wy 1 pre).flatMap fun y=>m9 s x y).map cG
def Yr {s:Int}(pre:List (Nat×D))(w:Nat)(t:Int):mL s (pre ++ [(w,cV t)])=mL s pre:=by
 unfold mL;rw[nA,nA]
theorem RP {α β:Type}{f g:α->List β}:∀(l:List α),(l.flatMap fun x=>f x ++ g x).Perm (l.flatMap f ++ l.flatMap g)
  | []=>xce _
  |x::l=>by
    rw[xa6,xa6,xa6];have ih:=RP (f:=f) (g:=g) l;refine((ih.append_left _)).trans ?_;rw[xao,xao];refine xcy _ ?_;rw[<-xao, <-xao];exact xcz.append_right _
theorem Yp {s:Int}{pre:List (Nat×D)}{d:D}(h:Tk d):(mL s (pre ++ [(0,cG d)]))=mL s pre ++ ((wy 1 pre).flatMap (d7 0 s d)).map cG:=by
 unfold mL;rw[fM h,fM h,xad rfl,xae (by decide),xas,xeh,xbr];congr 2;rw[xa6,xdS,xas];rfl
theorem Yq {s:Int}{pre:List (Nat×D)}{d:D}(h:Tk d):(mL s (pre ++ [(1,cG d)])).Perm (mL s pre ++ ((wy 0 pre).flatMap (d7 1 s d)).map cG):=by
 unfold mL;rw[fM h,fM h,xad rfl,xae (by decide),xas, <-xbr];refine List.Perm.map _ ?_;have:=RP (f:=fun x=>(wy 1 pre).flatMap fun y=>m9 s x y) (g:=d7 1 s d) (wy 0 pre);refine List.Perm.trans (xdd ?_) this;congr 1;funext x;rw[xeh,xa6,xdS,xas];rfl
variable {M:Mm}
section
variable {r B:Nat}{s:Int}
def SJ (r B:Nat)(s:Int)(is:List Int)(pre:List (Nat×D))(M:Mm):Prop:=∃(m0 m1:Int) (a b:Nat),is=[m0,m1]/\J r B s m0 m1 a b (kl s (mn m0 m1) (wy 0 pre)) (kl s (mn m0 m1) (wy 1 pre)) M/\B<=M.length/\∀w,∀d∈wy w pre,Th d
def R8 {m0 m1 n0 n1 v t:Int}{a b w k:Nat}{pre:List (Nat×D)}(j:J r B s m0 m1 a b (kl s (mn m0 m1) (wy 0 pre)) (kl s (mn m0 m1) (wy 1 pre)) M)(hB:B<=M.length)(hT:∀w,∀d∈wy w pre,Th d)(pl:pre.length<=60)
  (ix:cN [D.int m0,.int m1] (w:Int)=some (.int v)) (ixn:gQ 2 (w:Int)=some k) (hs:[D.int m0,.int m1].set k (.int t)=[.int n0,.int n1]) (hn:t=v->n0=m0/\n1=m1) (ht:v<=t) (hmn:mn m0 m1<=mn n0 n1) (hu:up [m0,m1] (w:Int) t=[n0,n1]):
  ∃M',(∀a1 a2 a5,(bL (aP "PourStation" "take_in" kZ (aj 0) (au (aj 3) (au (aj 4) ao))) (aP "JoinStation" "take_in" lM (aj 0) (au (aj 3) (au (aj 4) ao)))) [.val (.ref r),a1,a2,.val (.int w),.val (cV t),a5] M=some (.v (.lst (due [m0,m1] w t)),M'))/\SJ r B s (up [m0,m1] w t) (pre ++ [(w,cV t)]) M'/\Fr r 8 B M M':=by
 have l0:=Er (s:=s) (a:=mn m0 m1) (K:=wy 0 pre);have l1:=Er (s:=s) (a:=mn m0 m1) (K:=wy 1 pre);have y0:=GP (w:=0) (pre:=pre);have y1:=GP (w:=1) (pre:=pre);obtain⟨a',b',K0',K1',M',e,j',hB',f,cs⟩:=Zz j ix ixn hs hn ht hB (Et fun d hd=>(hT 0 d hd).tk) (Et fun d hd=>(hT 1 d hd).tk) (by lia) (by lia) hmn;have ed:due [m0,m1] (w:Int) t=if mn n0 n1 > mn m0 m1 then [.tup [.str "mark",.int (mn n0 n1)]] else []:=by
  unfold due;rw[hu];rfl
 refine⟨M',fun a1 a2 a5=>?_,?_,f⟩
 ·rw[ed];exact(alt_2 (xJ (k:=r) (v0 rfl) j.o Iw.2)).trans (dG (k:=r) (v0 rfl) j.o (lO (by x_go)) rfl (zc1 j.o e))
 ·rw[hu];refine⟨n0,n1,a',b',rfl,?_,hB',fun i d hd=>hT i d (by rw[nA]at hd;exact hd)⟩;rw[nA,nA];rcases cs with⟨rfl,rfl,em⟩ |⟨rfl,rfl⟩
  ·rw[em];exact j'
  ·rw[Tq hmn,Tq hmn]at j';exact j'
def JC:HM r 8 B 2 (SJ r B s):=by
 intro is pre M w t hS il hw mt pl;obtain⟨m0,m1,a,b,rfl,j,hB,hT⟩:=hS;have:w=0\/w=1:=by lia
 rcases this with rfl |rfl
 ·have mt:m0<=t:=mt;exact R8 (k:=0) (n0:=t) (n1:=m1) (v:=m0) j hB hT pl rfl rfl rfl (fun e=>⟨e,rfl⟩) mt (by unfold mn;lia) (Pk (is:=[m0,m1]) (w:=0) mt)
 ·have mt:m1<=t:=mt;exact R8 (k:=1) (n0:=m0) (n1:=t) (v:=m1) j hB hT pl rfl rfl rfl (fun e=>⟨rfl,e⟩) mt (by unfold mn;lia) (Pk (is:=[m0,m1]) (w:=1) mt)
def zfP {w:Int}{d e x:D}(h:x∈d7 w s d e):tm d<=tm x:=by
 unfold d7 m9 at h;krn_ne
 ·krn_ne
  ·rw[xaM.mp h];show tm d<=mx (tm d) (tm e);unfold mx
   split<;>lia
  ·cases h
 ·krn_ne
  ·rw[xaM.mp h];show tm d<=mx (tm e) (tm d);unfold mx
   split<;>lia
  ·cases h
def R_ {m0 m1:Int}{a b c c' w w':Nat}{pre:List (Nat×D)}{d:D}(s0:0<=s)(hw:w=0\/w=1)(j:J r B s m0 m1 a b (kl s (mn m0 m1) (wy 0 pre)) (kl s (mn m0 m1) (wy 1 pre)) M)(hT:∀w,∀d∈wy w pre,Th d)(pl:pre.length<=60)(hd:Th d)(hm:mn m0 m1<=tm d)
  (j':∃X Y,J r B s m0 m1 a b X Y (M.set c (.lst (kl s (mn m0 m1) (wy w pre) ++ [d])))) (hc:cN [D.ref a,.ref b] (w:Int)=some (.ref c)) (hc':cN [D.ref a,.ref b] (1 - (w:Int))=some (.ref c')) (mc:M[c]? =some (.lst (kl s (mn m0 m1) (wy w pre)))) (mo:M[c']? =some (.lst (kl s (mn m0 m1) (wy w' pre)))) (ne:c≠c'):
  ∃E new,(∀a1 a2 a5,(bL (aP "PourStation" "take_in" kZ (aj 0) (au (aj 3) (au (aj 4) ao))) (aP "JoinStation" "take_in" lM (aj 0) (au (aj 3) (au (aj 4) ao)))) [.val (.ref r),a1,a2,.val (.int w),.val (cG d),a5] M=some (.v (.lst new),M.set c (.lst (kl s (mn m0 m1) (wy w pre) ++ [d])) ++ E))/\(∀x∈new,∃e,x=cG e/\mn m0 m1<=tm e)/\new.Perm (((wy w' pre).flatMap (d7 w s d)).map cG)/\new.length<=60:=by
 have l0:=Er (s:=s) (a:=mn m0 m1) (K:=wy w pre);have l1:=Er (s:=s) (a:=mn m0 m1) (K:=wy w' pre);have y0:=GP (w:=w) (pre:=pre);have y1:=GP (w:=w') (pre:=pre);obtain⟨es,e1,e2,_⟩:=Gp (ok3 (ds:=kl s (mn m0 m1) (wy w' pre)) (Et fun d hd=>(hT w' d hd).tk));have el:=e2.length_eq;have fl:=Jp (s:=s) (w:=(w:Int)) (d:=d) es;obtain⟨E,g⟩:=ZJ (w:=(w:Int)) (d:=d) (c:=c) (c':=c') (K:=kl s (mn m0 m1) (wy w pre)) (O:=kl s (mn m0 m1) (wy w' pre)) (es:=es) (by lia) hd j j' hc hc' mc mo ne e1 (fun e he=>Et (hT w') e (e2.mem_iff.mp he)) (by lia) (by lia);refine⟨E,(es.flatMap (d7 (w:Int) s d)).map cG,fun a1 a2 a5=>?_,fun x hx=>?_,?_,by rw[xan];lia⟩
 ·refine(alt_2 (xJ (k:=r) (v0 rfl) j.o Iw.2)).trans (dG (k:=r) (v0 rfl) j.o (lO (by x_go)) rfl ?_);obtain⟨t,z,v,rfl,_⟩:=hd;exact zcA j.o g
 ·obtain⟨e,he,rfl⟩:=xa5.mp hx;obtain⟨y,_,hy⟩:=List.mem_flatMap.mp he;exact⟨e,rfl,Int.le_trans hm (zfP hy)⟩
 ·refine List.Perm.map _ ((e2.flatMap_right _).trans (xdd ?_));exact RM fun x _ hx=>zfr hm (Int.not_le.mp (of_decide_eq_false hx))
def JF (s0:0<=s):HT r 8 B 2 (SJ r B s) (mL s):=by
 intro is pre M w d hS il hw hd mt pl;obtain⟨m0,m1,a,b,rfl,j,hB,hT⟩:=hS;have ha:=j.ha;have hb:=j.hb;have:w=0\/w=1:=by lia
 have tk:=hd.tk;have hall:∀w' i,∀x∈wy i (pre ++ [(w',cG d)]),Th x:=fun w' i x hx=>by
  rw[fM tk]at hx;rcases xbO.mp hx with h |h
  ·exact hT i x h
  ·krn_ne
   ·rw[xaM.mp h];exact hd
   ·cases h
 rcases this with rfl |rfl
 ·have mt:m0<=tm d:=mt;have hm:mn m0 m1<=tm d:=by unfold mn;lia
  obtain⟨E,new,e,hx,pm,nl⟩:=R_ (w:=0) (w':=1) s0 (.inl rfl) j hT pl hd hm ⟨_,_,j.setA⟩ rfl rfl j.ka j.kb j.ne;refine⟨_,new,e,⟨m0,m1,a,b,rfl,?_,by rw[xag,xaz];lia,hall 0⟩,hx,?_,nl,(Fr.set (by lia)).trans Fr.app⟩
  ·rw[fM tk,fM tk,xad rfl,xae (by decide),xas,Tt hm s0];exact j.setA.app
  ·rw[Yp tk];exact pm.append_left _
 ·have mt:m1<=tm d:=mt;have hm:mn m0 m1<=tm d:=by unfold mn;lia
  obtain⟨E,new,e,hx,pm,nl⟩:=R_ (w:=1) (w':=0) s0 (.inr rfl) j hT pl hd hm ⟨_,_,j.setB⟩ rfl rfl j.kb j.ka (xbN j.ne);refine⟨_,new,e,⟨m0,m1,a,b,rfl,?_,by rw[xag,xaz];lia,hall 1⟩,hx,?_,nl,(Fr.set (by lia)).trans Fr.app⟩
  ·rw[fM tk,fM tk,xad rfl,xae (by decide),xas,Tt hm s0];exact j.setB.app
  ·exact(pm.append_left _).trans (Yq tk).symm
end
variable {M:Mm}
def Jw {ns:List Int}{k:Int}(hk:0<=k):lZ [.lst (ns.map .int),.int k] M=some (.v (.int (ns.getD k.toNat 0)),M):=by
 unfold lZ H_;z_go
 by_cases h:k<(ns.length:Int)
 ·simp only[h,xcr];z_go;have e:cN (ns.map D.int) k=some (.int (ns.getD k.toNat 0)):=by
   obtain⟨j,rfl⟩:∃j:Nat,k=j:=⟨k.toNat,by lia⟩;refine tL ?_;have:j<ns.length:=by lia
   rw[xam,xab this]
   simp[List.getD,this]
  rw[e];z_go
 ·simp only[h,xaS];z_go
  simp[List.getD,xbt (show ns.length<=k.toNat by lia)]
noncomputable def Ck (s:Int):D:=.tup [.str "join",.str "p",.tup [.str "a",.str "b"],.tup (.str (dN s)::pq.map D.str)]
noncomputable def xW (fr:List D):D:=.tup [.str "pour",.str "p",.tup fr,.tup []]
def ZC {ns:List Int}:∃R:D,yO [.lst (ns.map D.int)] M=some (.v R,M)/\(R=xW [.str "a",.str "b",.str "c"]\/R=xW [.str "a",.str "b"]\/∃s,0<=s/\s<=60/\R=Ck s):=by
 have c0:=Jw (M:=M) (ns:=ns) (k:=0) (by decide);generalize ns.getD (0:Int).toNat 0=c at c0;unfold yO Ig;generalize lZ=G at c0 ⊢;z_go;rw[c0];z_go
 by_cases h0:c % 3=0
 ·simp only[h0,xcr];z_go;exact⟨_,rfl,.inl rfl⟩
 simp only[h0,xaS];z_go
 by_cases h1:c % 3=1
 ·simp only[h1,xcr];z_go;exact⟨_,rfl,.inr (.inl rfl)⟩
 simp only[h1,xaS];z_go;have p0:=xbj (c / 3) (show(2:Int)≠0 by decide);have p1:=xba (c / 3) (show(0:Int)<2 by decide);have hp:c / 3 % 2=0\/c / 3 % 2=1:=by lia
 have fin:∀s:Int,0<=s->s<=60->mQ [.int s]=some (.str (dN s)):=fun s s0 s1=>by
  rw[Fi,xad (zdm (by lia))];rfl
 rcases hp with e |e
 ·have s0:=xbj (c / 6) (show(9:Int)≠0 by decide);have s1:=xba (c / 6) (show(0:Int)<9 by decide);rw[e];z_go;generalize c / 6 % 9=s at s0 s1;rw[<-Fi,fin s s0 (by lia)];z_go;exact⟨_,rfl,.inr (.inr ⟨s,s0,by lia,rfl⟩)⟩
 ·have s0:=xbj (c / 6) (show(61:Int)≠0 by decide);have s1:=xba (c / 6) (show(0:Int)<61 by decide);rw[e];z_go;generalize c / 6 % 61=s at s0 s1;rw[<-Fi,fin s s0 (by lia)];z_go;exact⟨_,rfl,.inr (.inr ⟨s,s0,by lia,rfl⟩)⟩
def Dr (m m':Int)(x:D):Prop:=(x=cV m'/\m<=m')\/(m'=m/\∃d,x=cG d/\Th d/\m<=tm d)
def Zx {c m b:Int}(m0:0<=m)(b0:0<=b)(m1:m<=900000000000)(b1:b<=100000000000):∃x m',Dr m m' x/\m'<=(if m > b then m else b) + 20/\yL [.int c,.int m,.int b] M=some (.v x,M):=by
 have p0:=xbj (c / 15) (show(21:Int)≠0 by decide);have p1:=xba (c / 15) (show(0:Int)<21 by decide);have k0:=xbj (c / 3) (show(5:Int)≠0 by decide);have k1:=xba (c / 3) (show(0:Int)<5 by decide);have v0:=xbj (c / 29) (show(2000000000000000000000000000000000000000000000000000000000001:Int)≠0 by decide);have v1:=xba (c / 29) (show(0:Int)<2000000000000000000000000000000000000000000000000000000000001 by decide);have tail:∀t:Int,m<=t->t<=(if m > b then m else b) + 20->∃x m',Dr m m' x/\m'<=(if m > b then m else b) + 20/\cC ((aq (bH (s2 (aG .eq) (s2 oMod (s2 gY (aj 0) (ak (.int 3))) (ak (.int 5))) (ak (.int 0))) (aq (aH (bf (au (ak (.str "mark")) (au (aj 3) ao)))) aA) aA) (aq (aO 4 (s2 aM (aR (au (ak (.str "a")) (au (ak (.str "b")) (au (ak (.str "zebra")) (au (ak (.str "a")) ao))))) (s2 fH (s2 oMod (s2 gY (aj 0) (ak (.int 3))) (ak (.int 5))) (ak (.int 1))))) (aq (aH (bf (au (ak (.str "thing")) (au (aj 3) (au (aj 4) (au (s2 fH (s2 oMod (s2 gY (aj 0) (ak (.int 29))) (s2 cQ (s2 gZ (ak (.int 2)) (s2 g8 (ak (.int 10)) (ak (.int 60)))) (ak (.int 1)))) (s2 g8 (ak (.int 10)) (ak (.int 60)))) ao)))))) aA))) [.val (.int c),.val (.int m),.val (.int b),.val (.int t),.un] M)=some (.v x,M):=fun t h1 h2=>by
  have tb:t.natAbs<=1000000000000:=by
   split at h2<;>lia
  by_cases hk:c / 3 % 5=0
  ·refine⟨cV t,t,.inl ⟨rfl,h1⟩,h2,?_⟩;z_go;simp only[hk,xcr];z_go
  ·have hz:∃z:Str,cN [D.str "a",.str "b",.str "zebra",.str "a"] (c / 3 % 5 - 1)=some (.str z):=by
    have:c / 3 % 5 - 1=0\/c / 3 % 5 - 1=1\/c / 3 % 5 - 1=2\/c / 3 % 5 - 1=3:=by lia
    rcases this with e |e |e |e<;>rw[e]<;>exact⟨_,rfl⟩
   obtain⟨z,hz⟩:=hz;refine⟨.tup [.str "thing",.int t,.str z,.int (c / 29 % 2000000000000000000000000000000000000000000000000000000000001 - 1000000000000000000000000000000000000000000000000000000000000)],m,.inr ⟨rfl,.tup [.int t,.str z,.int (c / 29 % 2000000000000000000000000000000000000000000000000000000000001 - 1000000000000000000000000000000000000000000000000000000000000)],rfl,⟨t,z,_,rfl,tb,by lia⟩,h1⟩,by split<;>lia,?_⟩
   z_go;simp only[hk,xaS];z_go;rw[hz];z_go
 unfold yL Ia;generalize aq (bH (s2 (aG .eq) (s2 oMod (s2 gY (aj 0) (ak (.int 3))) (ak (.int 5))) (ak (.int 0))) _ _) _=T at tail ⊢;z_go
 by_cases hm:m > b
 ·simp only[hm,xcr];simp only[hm,xbB]at tail;z_go;exact tail (m + c / 15 % 21) (by lia) (by lia)
 ·simp only[hm,xaS];simp only[hm,xbX]at tail;z_go;refine tail _ ?_ ?_
  ·split<;>lia
  ·split<;>lia
variable {M:Mm}
def Z0:Mm:=f9 tabs
noncomputable def Mi (ls:List (List D)) (is:List Int):Mm:=Z0 ++ (ls.map E3.Cl.lst ++ [.lst (is.map .int)])
section
variable {ls:List (List D)}{is:List Int}{n w:Nat}
theorem zJ {l:List D}(h:ls[w]? =some l):(Mi ls is)[2 + w]? =some (.lst l):=by
 unfold Mi;rw[xap (by show 2<=_;lia),show 2 + w - Z0.length=w by show 2 + w - 2=w;lia,xaC (by rw[xan];exact(xah.mp h).1),xam,h];rfl
theorem Yi (hl:ls.length=n):(Mi ls is)[2 + n]? =some (.lst (is.map .int)):=by
 unfold Mi;rw[xap (by show 2<=_;lia),show 2 + n - Z0.length=n by show 2 + n - 2=n;lia,xap (by rw[xan];lia),xan,hl,xbH];rfl
def PK {l:List D}(h:w<ls.length):(Mi ls is).set (2 + w) (.lst l)=Mi (ls.set w l) is:=by
 unfold Mi;rw[xbu _ _ (by show 2<=_;lia),show 2 + w - Z0.length=w by show 2 + w - 2=w;lia,List.set_append_left _ _ (by rw[xan];exact h),xep]
theorem Yj {is':List Int}(hl:ls.length=n):(Mi ls is).set (2 + n) (.lst (is'.map .int))=Mi ls is':=by
 unfold Mi;rw[xbu _ _ (by show 2<=_;lia),show 2 + n - Z0.length=n by show 2 + n - 2=n;lia,xbu _ _ (by rw[xan];lia),xan,hl,xbH];rfl
noncomputable def rf (b n:Nat):List D:=(List.range n).map fun k=>.ref (b + k)
theorem Ci {b:Nat}(h:w<n):cN (rf b n) (w:Int)=some (.ref (b + w)):=by
 refine tL ?_;unfold rf;rw[xam,xbU h];rfl
def O9 {c base:Int}{a0 s6 s7:Slot}(n0:0<n)(hl:ls.length=n)(il:is.length=n)(b0:0<=base)(b1:base<=100000000000)(hi:∀i∈is,0<=i/\i<=900000000000)(hk:∀l∈ls,l.length<=100):∃(w:Nat) (l:List D) (x:D) (m':Int) (s6' s7':Slot),w<n/\ls[w]? =some l/\Dr (is.getD w 0) m' x/\m'<=(if is.getD w 0 > base then is.getD w 0 else base) + 20/\
  yV [a0,.val (.int n),.val (.int base),.val (.lst (rf 2 n)),.val (.ref (2 + n)),.val (.int c),s6,s7] (Mi ls is)=some (.nx [a0,.val (.int n),.val (.int base),.val (.lst (rf 2 n)),.val (.ref (2 + n)),.val (.int c),s6',s7'],Mi (ls.set w (l ++ [x])) (is.set w m')):=by
 have p0:=xbj c (show(n:Int)≠0 by lia);have p1:=xba c (show(0:Int)<n by lia);obtain⟨w,hw⟩:∃w:Nat,c % (n:Int)=w:=⟨(c % (n:Int)).toNat,by lia⟩;have wn:w<n:=by lia
 obtain⟨l,el⟩:∃l,ls[w]? =some l:=⟨_,xab (by lia)⟩;have gi:0<=is.getD w 0/\is.getD w 0<=900000000000:=by
  refine hi _ ?_;rw[xav,xab (by lia),xbv];exact xaY _
 obtain⟨x,m',hx,hm',e⟩:=Zx (M:=Mi ls is) (c:=c) gi.1 b0 gi.2 b1;have ll:l.length<=100:=hk l (xaF el);have wl:=Yi (is:=is) hl;have wv:vw (Mi ls is) (.ref (2 + n))=.lst (is.map .int):=gG wl;have ia:=Tn (is:=is) (w:=(w:Int)) (by lia) (by rw[xaK];lia);rw[xaK]at ia;have ra:=Ci (b:=2) wn;have ap:∀(is':List Int),cW (s2 aM (aj 3) (aj 6)) (aj 7) [a0,.val (.int n),.val (.int base),.val (.lst (rf 2 n)),.val (.ref (2 + n)),.val (.int c),.val (.int w),.val x] (Mi ls is')=some (.nx [a0,.val (.int n),.val (.int base),.val (.lst (rf 2 n)),.val (.ref (2 + n)),.val (.int c),.val (.int w),.val x],Mi (ls.set w (l ++ [x])) is'):=fun is'=>by
  rw [Hr (k := 2 + w) (ds0 := l) (ds := l) (d := x) (M1 := Mi ls is') (M2 := Mi ls is') (by
   z_go;rw[ra];z_go) (zJ el) rfl (zJ el) (by rw[xa8];lia),PK (by lia)]
 refine⟨w,l,x,m',.val (.int w),.val x,wn,el,hx,hm',?_⟩;unfold yV;generalize yL=G at e ⊢;generalize cW (s2 aM (aj 3) (aj 6)) (aj 7)=FA at ap ⊢;have si:∀t:Int,x=cV t->lu (aj 4) (aj 6) (s2 aM (aj 7) (ak (.int 1))) [a0,.val (.int n),.val (.int base),.val (.lst (rf 2 n)),.val (.ref (2 + n)),.val (.int c),.val (.int w),.val x] (Mi ls is)=some (.nx [a0,.val (.int n),.val (.int base),.val (.lst (rf 2 n)),.val (.ref (2 + n)),.val (.int c),.val (.int w),.val x],Mi ls (is.set w t)):=fun t et=>by
  subst et;rw[JN (k:=2 + n) (i:=(w:Int)) (x:=.int t) (M1:=Mi ls is) (M2:=Mi ls is) (M3:=Mi ls is) (ds:=is.map .int) (j:=w) rfl rfl rfl wl (by have:=Ax (is:=is) (w:=(w:Int)) (by lia) (by rw[xaK];lia);rw[xaK]at this;exact this),Gk,Yj hl]
 generalize lu (aj 4) (aj 6) (s2 aM (aj 7) (ak (.int 1)))=FS at si ⊢;z_go;rw[xad (show(0:Int)<n by lia)];z_go;rw[hw,wv];z_go;rw[ia];z_go;rw[e];z_go;rcases hx with⟨rfl,_⟩ |⟨rfl,d,rfl,_,_⟩
 ·have si:=si m' rfl;z_go;rw[si];z_go;rw[ap];z_go
 ·have es:is.set w (is.getD w 0)=is:=by
   rw[xav,xab (by lia),xbv];exact xcU (by lia)
  rw[es];have ap:=ap is;unfold cG at ap ⊢;z_go;simp only[zF,xaS];z_go;rw[ap];z_go
end
variable {M:Mm}
section
variable {n:Nat}
theorem Bo {l:List D}:∀{ls:List (List D)},l∈ls->l.length<=(ls.map List.length).sum
  | [],h=>nomatch h
  |a::ls,h=>by
    rw[xaP,xcn];rcases xaO.mp h with rfl |h
    · lia
    · have:=Bo h;lia
def Zi (ns:List Int):(bT ns (some 2) (some 40)).length<=38:=by
 show(bT ns (some ((2:Nat):Int)) (some ((40:Nat):Int))).length<=38;unfold bT;rw[HT.Mr,HT.Mr,xbm];lia
def IJ (n j:Nat)(ls:List (List D))(is:List Int):Prop:=ls.length=n/\is.length=n/\(ls.map List.length).sum=j/\(∀i∈is,0<=i/\i<=100000000000 + 20 * (j:Int))/\∀(w:Nat) (l:List D),ls[w]? =some l->∀tl,vW (is.getD w 0) tl->vW 0 (l ++ tl)
def Ye {j w:Nat}{ls:List (List D)}{is:List Int}{l:List D}{x:D}{m' base:Int}(h:IJ n j ls is)(b1:base<=100000000000)(wn:w<n)(el:ls[w]? =some l)(hx:Dr (is.getD w 0) m' x)(hm:m'<=(if is.getD w 0 > base then is.getD w 0 else base) + 20):IJ n (j + 1) (ls.set w (l ++ [x])) (is.set w m'):=by
 obtain⟨h1,h2,h3,h4,h5⟩:=h;have gi:0<=is.getD w 0/\is.getD w 0<=100000000000 + 20 * (j:Int):=by
  refine h4 _ ?_;rw[xav,xab (by lia),xbv];exact xaY _
 have le:is.getD w 0<=m':=by
  rcases hx with⟨_,h⟩ |⟨rfl,_⟩
  ·exact h
  ·exact xex _
 refine⟨by rw[xaz];exact h1,by rw[xaz];exact h2,?_,fun i hi=>?_,fun i l' hl' tl hv=>?_⟩
 ·have:=sum_set (l':=l ++ [x]) ls w el;rw[xag,xaJ]at this;lia
 ·rcases xcc hi with h |rfl
  ·have:=h4 i h;lia
  ·split at hm<;>lia
 ·rw[R4 (by lia)]at hv
  by_cases hw:w=i
  ·subst hw;rw[xaW (by lia)]at hl';cases hl';rw[xad rfl]at hv;rw[xao];refine h5 w l el _ ?_;rcases hx with⟨rfl,h⟩ |⟨rfl,d,rfl,hd,h⟩
   ·exact .inl ⟨m',rfl,h,hv⟩
   ·exact .inr ⟨d,rfl,hd,h,hv⟩
  ·rw[xa0 hw]at hl';rw[xae hw]at hv;exact h5 i l' hl' tl hv
def ze2 {ls:List (List D)}{is:List Int}{w:Nat}{l:List D}{a0 a1 a2 a4 a5 a7:Slot}(wn:w<n)(hl:ls.length=n)(el:ls[w]? =some l)(ll:l.length<=100):
  yU [a0,a1,a2,.val (.lst (rf 2 n)),a4,a5,.val (.int (0 + (w:Int))),a7] (Mi ls is)=some (.nx [a0,a1,a2,.val (.lst (rf 2 n)),a4,a5,.val (.int (0 + (w:Int))),a7],Mi (ls.set w (l ++ [cV dF])) is):=by
 have ra:=Ci (b:=2) wn;rw[xcN];have ap:cW (s2 aM (aj 3) (aj 6)) (bf (au (ak (.str "mark")) (au (ak (.int 1000000000000000)) ao))) [a0,a1,a2,.val (.lst (rf 2 n)),a4,a5,.val (.int (w:Int)),a7] (Mi ls is)=some (.nx [a0,a1,a2,.val (.lst (rf 2 n)),a4,a5,.val (.int (w:Int)),a7],Mi (ls.set w (l ++ [cV dF])) is):=by
  rw [Hr (k := 2 + w) (ds0 := l) (ds := l) (d := cV dF) (M1 := Mi ls is) (M2 := Mi ls is) (by
   z_go;rw[ra];z_go) (zJ el) rfl (zJ el) (by rw[xa8];lia),PK (by lia)]
 unfold yU;generalize cW _ _=F at ap ⊢;z_go;rw[ap];z_go
theorem Zy {ns:List Int}(hn:n=2\/n=3):∃ls is,ls.length=n/\(∀(w:Nat) (l:List D),ls[w]? =some l->vW 0 l)/\(ls.map List.length).sum<=41/\yM [.lst (ns.map D.int),.int n] Z0=some (.v (.lst (rf 2 n)),Mi ls is):=by
  have c1:=Jw (M:=Z0) (ns:=ns) (k:=1) (by decide);generalize ns.getD (1:Int).toNat 0=c at c1;have q0:=xbj c (show(100000000000:Int)≠0 by decide);have q1:=xba c (show(0:Int)<100000000000 by decide);have cl:=Zi ns;have cm:∀base:Int,fJ [] (gP (au (aj 1) ao)) (ak (.bl true)) Jg [.val (.lst (ns.map D.int)),.val (.int n),.val (.int base),.un,.un,.un,.un,.un] Z0=some (.v (.lst (rf 2 n)),Z0 ++ List.replicate n (.lst [])):=fun base=>by
    rcases hn with rfl |rfl<;>kernel_rfl
  have z0:∀base:Int,eU (j_ (aR (au (ak (.int 0)) ao)) (aj 1)) [.val (.lst (ns.map D.int)),.val (.int n),.val (.int base),.val (.lst (rf 2 n)),.un,.un,.un,.un] (Z0 ++ List.replicate n (.lst []))=some (.v (.ref (2 + n)),Mi (List.replicate n []) (zs n)):=fun base=>by
    have rp:=rep0 (M:=Z0 ++ List.replicate n (.lst [])) (env:=[.val (.lst (ns.map D.int)),.val (.int n),.val (.int base),.val (.lst (rf 2 n)),.un,.un,.un,.un]) (g:=aj 1) (n:=n) rfl (by lia);generalize j_ (aR (au (ak (.int 0)) ao)) (aj 1)=F at rp ⊢;z_go;rw[rp];z_go;rcases hn with rfl |rfl<;>rfl
  have rest:∀base:Int,0<=base->base<=100000000000->∃ls is,ls.length=n/\(∀(w:Nat) (l:List D),ls[w]? =some l->vW 0 l)/\(ls.map List.length).sum<=41/\cC ((aq (cR 5 (cF (zj (aj 0) (gD (ak (.int 2))) (gD (ak (.int 40))))) yV) (aq (cR 6 (gP (au (aj 1) ao)) yU) (aq (aH (aj 3)) aA))) [.val (.lst (ns.map D.int)),.val (.int n),.val (.int base),.val (.lst (rf 2 n)),.val (.ref (2 + n)),.un,.un,.un] (Mi (List.replicate n []) (zs n)))=some (.v (.lst (rf 2 n)),Mi ls is):=fun base b0 b1=>by
    have lp:∃ls is s5 s6 s7,IJ n (bT ns (some 2) (some 40)).length ls is/\loopS 5 yV ((bT ns (some 2) (some 40)).map D.int) [.val (.lst (ns.map D.int)),.val (.int n),.val (.int base),.val (.lst (rf 2 n)),.val (.ref (2 + n)),.un,.un,.un] (Mi (List.replicate n []) (zs n))=some (.nx [.val (.lst (ns.map D.int)),.val (.int n),.val (.int base),.val (.lst (rf 2 n)),.val (.ref (2 + n)),s5,s6,s7],Mi ls is):=by
      refine Ke (fun o=>∃ls is s5 s6 s7,IJ n (bT ns (some 2) (some 40)).length ls is/\o=some (.nx [.val (.lst (ns.map D.int)),.val (.int n),.val (.int base),.val (.lst (rf 2 n)),.val (.ref (2 + n)),s5,s6,s7],Mi ls is)) (fun j env N=>∃ls is s5 s6 s7,IJ n j ls is/\N=Mi ls is/\env=[.val (.lst (ns.map D.int)),.val (.int n),.val (.int base),.val (.lst (rf 2 n)),.val (.ref (2 + n)),s5,s6,s7]) ⟨_,_,.un,.un,.un,⟨xaB,xaB,?_,fun i hi=>?_,fun w l hl tl hv=>?_⟩,rfl,rfl⟩ ?_ ?_
      · rw[List.map_replicate,xaI];exact List.sum_replicate_nat.trans (Nat.mul_zero _)
      · rw[xci hi];lia
      · have wl:=(xah.mp hl).1;rw[xaB]at wl;rw[xaQ,xad wl]at hl;cases hl;have e:(zs n).getD w 0=0:=by
          unfold zs;rw[xav,xaQ,xad wl];rfl
        have hv:vW ((zs n).getD w 0) tl:=hv;rw[e]at hv;exact hv
      · rintro j d env N hd ⟨ls,is,s5,s6,s7,hI,rfl,rfl⟩;rw[xam,xaj]at hd;obtain⟨c,hc,rfl⟩:=hd;have kl:=(xah.mp hc).1;refine⟨by simp,?_⟩;simp only[xaR,xaN];obtain⟨w,l,x,m',s6',s7',wn,el,hx,hm,e⟩:=O9 (n:=n) (c:=c) (base:=base) (a0:=.val (.lst (ns.map D.int))) (s6:=s6) (s7:=s7) (by lia) hI.1 hI.2.1 b0 b1 (fun i hi=>by have:=hI.2.2.2.1 i hi;lia) (fun l hl=>by have:=Bo hl;have:=hI.2.2.1;lia);rw[e];exact⟨_,_,_,_,_,Ye hI b1 wn el hx hm,rfl,rfl⟩
      · rintro env N ⟨ls,is,s5,s6,s7,hI,rfl,rfl⟩;rw[xan]at hI;exact⟨ls,is,s5,s6,s7,hI,rfl⟩
    obtain⟨ls,is,s5,s6,s7,⟨h1,h2,h3,h4,h5⟩,e1⟩:=lp;have lq:∃ls' s6' s7',ls'.length=n/\(ls'.map List.length).sum=(bT ns (some 2) (some 40)).length + n/\(∀(w:Nat) (l:List D),ls'[w]? =some l->vW 0 l)/\loopS 6 yU ((List.range n).map fun(k:Nat)=>D.int (0 + (k:Int))) [.val (.lst (ns.map D.int)),.val (.int n),.val (.int base),.val (.lst (rf 2 n)),.val (.ref (2 + n)),s5,s6,s7] (Mi ls is)=some (.nx [.val (.lst (ns.map D.int)),.val (.int n),.val (.int base),.val (.lst (rf 2 n)),.val (.ref (2 + n)),s5,s6',s7'],Mi ls' is):=by
      refine Ke (fun o=>∃ls' s6' s7',ls'.length=n/\(ls'.map List.length).sum=(bT ns (some 2) (some 40)).length + n/\(∀(w:Nat) (l:List D),ls'[w]? =some l->vW 0 l)/\o=some (.nx [.val (.lst (ns.map D.int)),.val (.int n),.val (.int base),.val (.lst (rf 2 n)),.val (.ref (2 + n)),s5,s6',s7'],Mi ls' is)) (fun k env N=>∃ls' s6',ls'.length=n/\(ls'.map List.length).sum=(bT ns (some 2) (some 40)).length + k/\(∀(w:Nat) (l:List D),ls'[w]? =some l->(w<k->vW 0 l)/\(¬ w<k->∀tl,vW (is.getD w 0) tl->vW 0 (l ++ tl)))/\N=Mi ls' is/\env=[.val (.lst (ns.map D.int)),.val (.int n),.val (.int base),.val (.lst (rf 2 n)),.val (.ref (2 + n)),s5,s6',s7]) ⟨ls,s6,h1,h3,fun w l hl=>⟨fun h=>absurd h (by lia),fun _=>h5 w l hl⟩,rfl,rfl⟩ ?_ ?_
      · rintro k d env N hd ⟨ls',s6',l1,l2,l3,rfl,rfl⟩;rw[xam]at hd;have hk:k<n:=by
          rcases xa2 k n with h |h
          · exact h
          · rw[xbt (by rw[xbC];exact h)]at hd;cases hd
        rw[xbU hk]at hd;cases hd;refine⟨by simp,?_⟩;simp only[xaR,xaN];obtain⟨l,el⟩:∃l,ls'[k]? =some l:=⟨_,xab (by lia)⟩;rw[ze2 hk l1 el (by have:=Bo (xaF el);lia)];refine⟨_,_,by rw[xaz];exact l1,?_,fun w l' hl'=>?_,rfl,rfl⟩
        · have:=sum_set (l':=l ++ [cV dF]) ls' k el;rw[xag,xaJ]at this;lia
        · by_cases hw:k=w
          · subst hw;rw [xaW (by lia)] at hl';cases hl';refine ⟨fun _ => (l3 k l el).2 (by lia) [cV dF] (.inl ⟨dF, rfl, ?_, rfl⟩), fun h => absurd h (by lia)⟩;have := h4 (is.getD k 0) (by
              rw[xav,xab (by lia),xbv];exact xaY _)
            unfold dF;lia
          · rw[xa0 hw]at hl';exact⟨fun h=>(l3 w l' hl').1 (by lia),fun h=>(l3 w l' hl').2 (by lia)⟩
      · rintro env N ⟨ls',s6',l1,l2,l3,rfl,rfl⟩;rw[xan,xbC]at l2 l3;exact⟨ls',s6',s7,l1,l2,fun w l hl=>(l3 w l hl).1 (by have:=(xah.mp hl).1;lia),rfl⟩
    obtain⟨ls',s6',s7',l1,l2,l3,e2⟩:=lq;refine⟨ls',is,l1,l3,by lia,?_⟩;generalize yV=L2 at e1 ⊢;generalize yU=L1 at e2 ⊢;generalize Mi (List.replicate n []) (zs n)=N0 at e1 ⊢;generalize Mi ls is=N1 at e1 e2 ⊢;generalize Mi ls' is=N2 at e2 ⊢;generalize hR:rf 2 n=R at e1 e2 ⊢;z_go;rw[Zk,e1];z_go;rw[Ma (by lia),xaK];z_go;rw[e2];z_go
  unfold yM Ib;generalize lZ=G at c1 ⊢;generalize aq (cR 5 _ _) _=T at rest ⊢;generalize fJ [] (gP (au (aj 1) ao)) (ak (.bl true)) Jg=FC at cm ⊢;generalize eU _=FZ at z0 ⊢;generalize Z0 ++ List.replicate n (E3.Cl.lst [])=N1 at cm z0 ⊢;generalize Mi (List.replicate n []) (zs n)=N0 at z0 rest ⊢;generalize hR:rf 2 n=R at cm z0 rest ⊢;z_go;rw[c1];z_go;rw[c1];z_go
  by_cases h2:c % 2=0
  · simp only[h2,xcr];z_go;rw[cm];z_go;rw[z0];z_go;exact rest 0 (by lia) (by lia)
  · simp only[h2,xaS];z_go;rw[cm];z_go;rw[z0];z_go;exact rest _ q0 (by lia)
end
variable {M:Mm}
section
variable {n:Nat}{left:List (List D)}
def Wm (M:Mm)(left:List (List D)):Mm:=M ++ left.map E3.Cl.lst
theorem yE {w:Nat}{l:List D}(h:left[w]? =some l):(Wm M left)[M.length + w]? =some (.lst l):=by
 unfold Wm;rw[api,xam,h];rfl
def Yn {w:Nat}{l:List D}:(Wm M left).set (M.length + w) (.lst l)=Wm M (left.set w l):=by
 unfold Wm;rw[xbu _ _ (by lia),show M.length + w - M.length=w by lia,xep]
theorem zcQ {b k:Nat}:rf b (k + 1)=rf b k ++ [.ref (b + k)]:=by
 unfold rf;rw[List.range_succ,xbr];rfl
def zc {b:Nat}:(rf b n).length=n:=by
 unfold rf;rw[xan,xbC]
def Vn {b k:Nat}{d:D}(h:(rf b n)[k]? =some d):k<n/\d=.ref (b + k):=by
 have hk:=(xah.mp h).1;rw[zc]at hk;unfold rf at h;rw[xam,xbU hk]at h;cases h;exact⟨hk,rfl⟩
def Zd {ls:List (List D)}(hl:ls.length=n)(n1:n<=8)(hM:∀(w:Nat) (l:List D),ls[w]? =some l->M[2 + w]? =some (.lst l)):dw (ak (.bl true)) Jh [] (rf 2 n) [] M=some (rf M.length n,Wm M ls):=by
 refine Zc (fun o=>o=some (rf M.length n,Wm M ls)) (fun k acc N=>acc=rf M.length k/\N=Wm M (ls.take k)) ⟨rfl,by unfold Wm;rw[xcB];exact(xas _).symm⟩ (fun k acc N h=>by rw[h.1,zc];exact xaf _) (by rw[zc,xa8];lia) ?_ ?_
 ·rintro k d acc N hd ⟨rfl,rfl⟩;obtain⟨hk,rfl⟩:=Vn hd;obtain⟨l,el⟩:∃l,ls[k]? =some l:=⟨_,xab (by lia)⟩;have w:vw (Wm M (ls.take k)) (.ref (2 + k))=.lst l:=gG (fY (hM k l el));refine⟨true,_,rfl,?_⟩;rw[xad rfl];refine⟨.ref (Wm M (ls.take k)).length,Wm M (ls.take k) ++ [.lst l],?_,?_,?_⟩
  ·unfold Jh;generalize Wm M (ls.take k)=N at w ⊢;z_go;rw[w];z_go
  ·rw[zcQ];unfold Wm;rw[xag,xan,xbm,show min k ls.length=k by lia]
  ·have hk':k<ls.length:=by lia
   rw[List.take_succ,el];unfold Wm;rw[xbr,xao];rfl
 ·rintro acc N ⟨rfl,rfl⟩;rw[zc,xbI (by lia)]
def Ze (hl:left.length=n)(n1:n<=8):dw (ak (.bl true)) El [] (rf M.length n) [] (Wm M left)=some ((left.map List.length).map fun(k:Nat)=>D.int (k:Int),Wm M left):=by
 rw[comp_map (fun d=>match d with |.ref k=>(match (Wm M left)[k]? with |some (.lst l)=>.int (l.length:Int) |_=>.non) |_=>.non) _ (fun d hd=>?_) (by rw[zc,xa8];lia)]
 ·congr 2;refine xdD fun i=>?_;rw[xam,xam,xam];unfold rf;rw[xam]
  by_cases hi:i<n
  ·obtain⟨l,el⟩:∃l,left[i]? =some l:=⟨_,xab (by lia)⟩;rw[xbU hi,el];show some (match (Wm M left)[M.length + i]? with |some (.lst l)=>D.int (l.length:Int) |_=>.non)=_
   rw[yE el];rfl
  ·rw[xbt (by rw[xbC];lia),xbt (by lia)];rfl
 ·obtain⟨i,hi,rfl⟩:=xbG hd;have hd':=xab hi;obtain⟨hk,e⟩:=Vn hd';rw[e];obtain⟨l,el⟩:∃l,left[i]? =some l:=⟨_,xab (by lia)⟩;have w:vw (Wm M left) (.ref (M.length + i))=.lst l:=gG (yE el);show El [.val (.ref (M.length + i))] (Wm M left)=some (.v (match (Wm M left)[M.length + i]? with |some (.lst l)=>D.int (l.length:Int) |_=>.non),Wm M left)
  rw[yE el];dsimp only;unfold El;generalize Wm M left=N at w ⊢;z_go;rw[w];z_go
theorem CZ:∀ks:List Nat,((ks.map fun(k:Nat)=>(k:Int)).sum)=((ks.sum:Nat):Int)
  | []=>rfl
  |k::ks=>by
    rw[xaP,xcn,xcn,CZ ks];lia
noncomputable def vm (left:List (List D)) (d:D):Option D:=match d with
 |.int i=>if (left.getD i.toNat []).isEmpty then none else some (.int i)
 |_=>none
def Zf (hl:left.length=n)(n1:n<=8)(hd:∀(w:Nat) (l:List D),left[w]? =some l->D.deps l<=1):dw D_ Rr [.val (.lst (rf M.length n))] ((List.range n).map fun(k:Nat)=>D.int (0 + (k:Int))) [] (Wm M left)=some (((List.range n).map fun(k:Nat)=>D.int (0 + (k:Int))).filterMap (vm left),Wm M left):=by
  rw[Ed (vm left) _ [] (fun d hd'=>?_) (by rw[xan,xbC,xa8];simp only[xaI];lia),xbe];obtain⟨k,hk,rfl⟩:=xa5.mp hd';rw[xcd]at hk;obtain⟨l,el⟩:∃l,left[k]? =some l:=⟨_,xab (by lia)⟩;have w:vw (Wm M left) (.ref (M.length + k))=.lst l:=gG (yE el);have ra:=Ci (b:=M.length) hk;have dp:=hd k l el;have gl:left.getD k []=l:=by rw[xav,el];rfl
  have e1:D_ [.val (.int (0 + (k:Int))),.val (.lst (rf M.length n))] (Wm M left)=some (.v (.bl (!l.isEmpty)),Wm M left):=by
    rw[xcN];unfold D_;generalize Wm M left=N at w ⊢;generalize rf M.length n=R at ra ⊢;z_go;rw[ra];z_go;rw[w,zgs (by lia)];z_go
  have es:vm left (.int (0 + (k:Int)))=if l.isEmpty then none else some (.int (0 + (k:Int))):=by
    show(if (left.getD (0 + (k:Int)).toNat []).isEmpty then none else some (D.int (0 + (k:Int))))=_
    rw[xcN,xaK,gl]
  cases l with
  |nil=>
    have es:vm left (.int (0 + (k:Int)))=none:=es;rw[es];exact e1
  |cons x l=>
    have es:vm left (.int (0 + (k:Int)))=some (.int (0 + (k:Int))):=es;rw[es];exact⟨e1,rfl⟩
def zew (hl:left.length=n){d:D}(h:d∈((List.range n).map fun(k:Nat)=>D.int (0 + (k:Int))).filterMap (vm left)):∃(w:Nat) (x:D) (l:List D),w<n/\d=.int (w:Int)/\left[w]? =some (x::l):=by
  obtain⟨y,hy,e⟩:=xb2.mp h;obtain⟨k,hk,rfl⟩:=xa5.mp hy;rw[xcd]at hk;obtain⟨l,el⟩:∃l,left[k]? =some l:=⟨_,xab (by lia)⟩;have e:(if (left.getD (0 + (k:Int)).toNat []).isEmpty then none else some (D.int (0 + (k:Int))))=some d:=e
  rw[xcN,xaK,show left.getD k []=l by rw[xav,el];rfl]at e
  cases l with
  |nil=>cases e
  |cons x l=>
    cases e;exact⟨k,x,l,hk,rfl,el⟩
theorem zgF (hl:left.length=n)(hp:0<(left.map List.length).sum):((List.range n).map fun(k:Nat)=>D.int (0 + (k:Int))).filterMap (vm left)≠ []:=by
  have:∃(w:Nat) (x:D) (l:List D),left[w]? =some (x::l):=by
    clear hl
    induction left with
    |nil=>simp at hp
    |cons a left ih=>
      cases a with
      |cons x l=>exact⟨0,x,l,rfl⟩
      |nil=>
        rw[xaP,xcn,xaI,xdP]at hp;obtain⟨w,x,l,e⟩:=ih hp;exact⟨w + 1,x,l,e⟩
  obtain⟨w,x,l,e⟩:=this;have hw:=(xah.mp e).1;refine List.ne_nil_of_mem (a:=D.int (0 + (w:Int))) (xb2.mpr ⟨.int (0 + (w:Int)),xa5.mpr ⟨w,xcd.mpr (by lia),rfl⟩,?_⟩);show(if (left.getD (0 + (w:Int)).toNat []).isEmpty then none else some (D.int (0 + (w:Int))))=_
  rw[xcN,xaK,show left.getD w []=x::l by rw[xav,e];rfl];rfl
end
variable {M:Mm}
section
variable {n:Nat}{left:List (List D)}
def zgu {a0 a1 a3 a4 a5 a6:Slot}(hl:left.length=n)(n1:n<=8):Dg [a0,a1,.val (.lst (rf M.length n)),a3,a4,a5,a6] (Wm M left)=some (.v (.bl (decide (((left.map List.length).sum:Nat) > 0))),Wm M left):=by
 have cp:=Ze (M:=M) hl n1;have bs:mR [.lst ((left.map List.length).map fun(k:Nat)=>D.int (k:Int))]=some (.int (((left.map List.length).sum:Nat):Int)):=by
  generalize left.map List.length=ks;rw[show(ks.map fun(k:Nat)=>D.int (k:Int))=(ks.map fun(k:Nat)=>(k:Int)).map D.int by rw[xen];rfl];simp only[mR,E3.ints_map,xb5,CZ]
 unfold Dg;generalize rf M.length n=R at cp ⊢;generalize Wm M left=N at cp ⊢;generalize (left.map List.length).map (fun(k:Nat)=>D.int (k:Int))=Y at cp bs;z_go;rw[cp];z_go;rw[bs];z_go;exact congrArg (fun b=>some (Res.v (D.bl b),N)) (decide_eq_decide.mpr (by lia))
def zgC {c num:Int}{os:List (Nat×D)}{a0 s5 s6:Slot}(hl:left.length=n)(n1:n<=8)(hd:∀(w:Nat) (l:List D),left[w]? =some l->D.deps l<=1)(hp:0<(left.map List.length).sum)(q0:0<=num)(q1:num<2147483647)(ol:os.length<=100):
  ∃(w:Nat) (x:D) (l:List D) (num':Int) (s5' s6':Slot),left[w]? =some (x::l)/\0<=num'/\num'<2147483647/\Ba [a0,.val (.int c),.val (.lst (rf M.length n)),.own (os.map enc),.val (.int num),s5,s6] (Wm M left)=some (.nx [a0,.val (.int c),.val (.lst (rf M.length n)),.own ((os ++ [(w,x)]).map enc),.val (.int num'),s5',s6'],Wm M (left.set w l)):=by
 have cs := Zf (M := M) hl n1 hd;have se := zgF hl hp;have mem := fun d => zew (left := left) hl (d := d);generalize ((List.range n).map fun (k : Nat) => D.int (0 + (k : Int))).filterMap (vm left) = sm at cs se mem;have r0 := xbj (num * num + 48271 * num + 7) (show (2147483647 : Int) ≠ 0 by decide);have r1 := xba (num * num + 48271 * num + 7) (show (0 : Int) < 2147483647 by decide);generalize hn : (num * num + 48271 * num + 7) % 2147483647 = num' at r0 r1;have sl : 0 < sm.length := xeg.mpr se;have i0 := xbj (num' / 3) (show (sm.length : Int) ≠ 0 by lia);have i1 := xba (num' / 3) (show (0 : Int) < (sm.length : Int) by lia);have ix := Yu D.non i0 i1;generalize hi : num' / 3 % (sm.length : Int) = i at i0 i1 ix;obtain ⟨w, x, l, wn, ew, el⟩ := mem (sm.getD i.toNat .non) (by
  rw[xav,xab (by lia),xbv];exact xaY _)
 rw[ew]at ix;have ra:=Ci (b:=M.length) wn;have rl:(rf M.length n).length=n:=zc;refine⟨w,x,l,num',.val (.lst sm),.val (.int (w:Int)),el,r0,r1,?_⟩;have pop:xZ (s2 aM (aj 2) (aj 6)) (ak (.int 0)) [a0,.val (.int c),.val (.lst (rf M.length n)),.own (os.map enc),.val (.int num'),.val (.lst sm),.val (.int (w:Int))] (Wm M left)=some (.v x,Wm M (left.set w l)):=by
  rw [zgR (k := M.length + w) (ds0 := x :: l) (ds := l) (d := x) (M1 := Wm M left) (M2 := Wm M left) (by
   z_go;rw[ra];z_go) (yE el) rfl (yE el),Yn]
 have oe:(os ++ [(w,x)]).map enc=os.map enc ++ [.tup [.int (w:Int),x]]:=by rw[xbr];rfl
 rw[oe];have ol':(os.map enc).length<=100:=by rw[xan];exact ol
 unfold Ba;generalize xZ (s2 aM (aj 2) (aj 6)) (ak (.int 0))=FP at pop ⊢;generalize rf M.length n=R at *;generalize Wm M left=N at *;generalize Wm M (left.set w l)=N' at *;generalize os.map enc=O at *;z_go;rw[xad (.inl (by lia))];z_go;rw[hn];z_go;rw[rl,Ma (by lia),xaK];z_go;rw[cs];z_go;rw[xad (show(0:Int)<(sm.length:Int) by lia)];z_go;rw[hi,ix];z_go;rw[pop];z_go;rw[xad (by lia)];z_go
end
variable {M:Mm}
section
variable {n:Nat}
def ZL {ls:List (List D)}{c:Int}(hl:ls.length=n)(n1:n<=8)(hM:∀(w:Nat) (l:List D),ls[w]? =some l->M[2 + w]? =some (.lst l))(hd:∀(w:Nat) (l:List D),ls[w]? =some l->D.deps l<=1)(tot:(ls.map List.length).sum<=60):
  ∃os E,dY ls os/\os.length<=60/\Ah [.lst (rf 2 n),.int c] M=some (.v (.lst (os.map enc)),M ++ E):=by
 have p0:=xbj c (show(2147483647:Int)≠0 by decide);have p1:=xba c (show(0:Int)<2147483647 by decide);have cp:=Zd hl n1 hM;have wh:∃os E s4 s5 s6,dY ls os/\os.length<=60/\Cw 1000 Dg Ba [.val (.lst (rf 2 n)),.val (.int c),.val (.lst (rf M.length n)),.own [],.val (.int (c % 2147483647)),.un,.un] (Wm M ls)=some (.nx [.val (.lst (rf 2 n)),.val (.int c),.val (.lst (rf M.length n)),.own (os.map enc),s4,s5,s6],M ++ E):=by
  refine zcw (fun o=>∃os E s4 s5 s6,dY ls os/\os.length<=60/\o=some (.nx [.val (.lst (rf 2 n)),.val (.int c),.val (.lst (rf M.length n)),.own (os.map enc),s4,s5,s6],M ++ E)) (fun m env N=>∃left os num s5 s6,m=(left.map List.length).sum/\left.length=n/\N=Wm M left/\env=[.val (.lst (rf 2 n)),.val (.int c),.val (.lst (rf M.length n)),.own (os.map enc),.val (.int num),s5,s6]/\0<=num/\num<2147483647/\(∀tl,dY left tl->dY ls (os ++ tl))/\os.length + m<=60/\∀(w:Nat) (l:List D),left[w]? =some l->D.deps l<=1) ⟨_,by lia,ls,[],_,.un,.un,rfl,hl,rfl,rfl,p0,p1,fun tl h=>h,by simp only[xaI];lia,hd⟩ ?_;rintro m env N ⟨left,os,num,s5,s6,rfl,l1,rfl,rfl,q0,q1,hi,ho,hdl⟩;refine⟨_,_,zgu l1 n1,?_⟩
  by_cases hp:(left.map List.length).sum > 0
  ·rw[xaX hp,xad rfl];obtain⟨w,x,l,num',s5',s6',el,r0,r1,e⟩:=zgC (M:=M) (c:=c) (os:=os) (a0:=.val (.lst (rf 2 n))) (s5:=s5) (s6:=s6) l1 n1 hdl hp q0 q1 (by lia);rw[e];have sm:=sum_set (l':=l) left w el;rw[xaw]at sm;refine⟨_,by lia,left.set w l,os ++ [(w,x)],num',s5',s6',rfl,by rw[xaz];exact l1,rfl,rfl,r0,r1,fun tl h=>?_,by rw[xag,xaJ];lia,fun w' l' hl'=>?_⟩
   ·rw[xao];exact hi _ (dY.step el h)
   ·by_cases hw:w=w'
    ·subst hw;rw[xaW (xah.mp el).1]at hl';cases hl';have:max x.dep (D.deps l)<=1:=hdl w _ el;lia
    ·rw[xa0 hw]at hl';exact hdl w' l' hl'
  ·rw[xaH hp,xae (by decide)];refine⟨os,left.map E3.Cl.lst,_,s5,s6,?_,by lia,rfl⟩;have:=hi [] (dY.nil fun l hl'=>List.eq_nil_of_length_eq_zero (by have:=Bo hl';lia));rw[xas]at this;exact this
 obtain⟨os,E,s4,s5,s6,h1,h2,e⟩:=wh;refine⟨os,E,h1,h2,?_⟩;unfold Ah Ii;generalize Cw 1000 Dg Ba=F at e ⊢;generalize Wm M ls=N at cp e ⊢;generalize rf M.length n=R at cp e ⊢;generalize rf 2 n=R2 at cp e ⊢;z_go;rw[cp];z_go;rw[e];z_go
def ZK {r:Nat}{ds acc:List D}{s3 s4 s5:Slot}{M':Mm}(e:lQ [3,4] mq ds [.val (.ref r),.val (.lst ds),.own [],.un,.un,.un] M=some (.nx [.val (.ref r),.val (.lst ds),.own acc,s3,s4,s5],M')):wV [.ref r,.lst ds] M=some (.v (.lst acc),M'):=by
 have fu:Cr [3,4] (cF (aj 1)) mq [.val (.ref r),.val (.lst ds),.own [],.un,.un,.un] M=some (.nx [.val (.ref r),.val (.lst ds),.own acc,s3,s4,s5],M'):=e;unfold wV Ih;generalize Cr [3,4] (cF (aj 1)) mq=F at fu ⊢;z_go;rw[fu];z_go
theorem J0 {L:D}{m':Int}:∀(acc:List D) (m:Int) (s2:Slot),kp m acc=some m'->∃s2',loopS 2 xg acc [.val L,.val (.int m),s2] M=some (.nx [.val L,.val (.int m'),s2'],M)
  | [],m,s2,h=>by
    cases h;exact⟨s2,rfl⟩
  |x::acc,m,s2,h=>by
    rcases A_ h x (by simp) with⟨t,rfl⟩ |⟨t,y,v,rfl⟩
    · have h:(if Str.ofString "mark"≠Str.ofString "mark"\/t<=m then none else kp t acc)=some m':=h
      krn_ne
      · cases h
      · rename_i hn;have ht:¬ t<=m:=fun z=>hn (.inr z);have ht2:¬ t<m:=by lia
        obtain⟨s2',e⟩:=J0 (L:=L) acc t (.val (cV t)) h;refine⟨s2',?_⟩;rw[mD,xad (by simp)];simp only[xaN,xaR];have tr:xg [.val L,.val (.int m),.val (cV t)] M=some (.nx [.val L,.val (.int t),.val (cV t)],M):=by
          unfold xg;z_go;simp only[ht,ht2,xaS];z_go
        rw[tr,sG];exact e
    · have h:(if Str.ofString "thing"≠Str.ofString "thing"\/t<m then none else kp m acc)=some m':=h
      krn_ne
      · cases h
      · rename_i hn;have ht2:¬ t<m:=fun z=>hn (.inr z);obtain⟨s2',e⟩:=J0 (L:=L) acc m (.val (.tup [.str "thing",.int t,.str y,.int v])) h;refine⟨s2',?_⟩;rw[mD,xad (by simp)];simp only[xaN,xaR];have tr:xg [.val L,.val (.int m),.val (.tup [.str "thing",.int t,.str y,.int v])] M=some (.nx [.val L,.val (.int m),.val (.tup [.str "thing",.int t,.str y,.int v])],M):=by
          unfold xg;z_go;simp only[zF,ht2,xaS];z_go
          try simp only[zF,ht2,xaS,xbX]
          z_go
          try simp only[zF,ht2,xaS,xbX]
          z_go
        rw[tr,sG];exact e
def RD {acc:List D}(h:kp 0 acc=some dF):yN [.lst acc] M=some (.v (.bl true),M):=by
 obtain⟨s2,e⟩:=J0 (M:=M) (L:=.lst acc) acc 0 .un h;unfold yN Ie;generalize xg=L at e ⊢;z_go;rw[e];unfold dF;z_go
end
variable {M:Mm}
section
variable {n hh:Nat}{L:Nat->Mm}{S:Nat->Nat->List Int->List (Nat×D)->Mm->Prop}{al:List (Nat×D)->List D}{row:D}
structure Kd (row:D)(n hh:Nat)(L:Nat->Mm)(S:Nat->Nat->List Int->List (Nat×D)->Mm->Prop)(al:List (Nat×D)->List D):Prop where
 mk':∀M,TT M->rG [row] M=some (.v (.ref M.length),M ++ L M.length)
 ini:∀r B M,(∀i c,(L r)[i]? =some c->M[r + i]? =some c)->r + hh<=B->B<=M.length->S r B (zs n) [] M
 hm:∀r B,HM r hh B n (S r B)
 ht:∀r B,HT r hh B n (S r B) al
 am:∀pre w t,al (pre ++ [(w,cV t)])=al pre
 fin:∀r B is os M,S r B is os M->is.length=n->(∀i∈is,i=dF)->∀(k:Nat) (env:E3.Env),env[k]? =some (.val (.ref r))->(bL (aP "PourStation" "state" q_ (aj k) ao) (aP "JoinStation" "state" p8 (aj k) ao)) env M=some (.v (.tup [.lst (is.map .int),.lst []]),M)/\(bL (aP "PourStation" "low" gO (aj k) ao) (aP "JoinStation" "low" gA (aj k) ao)) env M=some (.v (.int dF),M)
 kee:∀r B r' B' is os M M',S r B is os M->Fr r' hh B' M M'->r + hh<=r'->r' + hh<=B->M.length<=B'->S r B is os M'
 pm:∀os os',os.Perm os'->(al os).Perm (al os')
 ll:∀r,(L r).length=hh
 nil:al []=[]
theorem QB:∀(a b:List (List D)) (i:Nat),bx i (a ++ b)=bx i a ++ bx (i + a.length) b
  | [],b,i=>rfl
  |l::a,b,i=>by
    rw[xdT];show l.map (Prod.mk i) ++ bx (i + 1) (a ++ b)=l.map (Prod.mk i) ++ bx (i + 1) a ++ bx (i + (a.length + 1)) b;rw[QB a b (i + 1),xao,show i + 1 + a.length=i + (a.length + 1) by lia]
theorem QC:∀(ls:List (List D)) (i:Nat),(bx i ls).length=(ls.map List.length).sum
  | [],_=>rfl
  |l::ls,i=>by
    show(l.map (Prod.mk i) ++ bx (i + 1) ls).length=_;rw[xag,xan,QC ls (i + 1),xaP,xcn]
def ZF {ls:List (List D)}{a0 a1 a2 a6 a7 a8 a9 a10:Slot}(hl:ls.length=n)(n1:n<=8)(hM:∀(w:Nat) (l:List D),ls[w]? =some l->M[2 + w]? =some (.lst l))(tot:(ls.map List.length).sum<=60):
  ∃s5,loopS 5 Bb ((List.range n).map fun(k:Nat)=>D.int (0 + (k:Int))) [a0,a1,a2,.val (.lst (rf 2 n)),.val (.lst []),.un,a6,a7,a8,a9,a10] M=some (.nx [a0,a1,a2,.val (.lst (rf 2 n)),.val (.lst ((bx 0 ls).map enc)),s5,a6,a7,a8,a9,a10],M):=by
 refine Ke (fun o=>∃s5,o=some (.nx [a0,a1,a2,.val (.lst (rf 2 n)),.val (.lst ((bx 0 ls).map enc)),s5,a6,a7,a8,a9,a10],M)) (fun k env N=>N=M/\(bx 0 (ls.take k)).length<=60 * k/\∃s5,env=[a0,a1,a2,.val (.lst (rf 2 n)),.val (.lst ((bx 0 (ls.take k)).map enc)),s5,a6,a7,a8,a9,a10]) ⟨rfl,by rw[xcB];exact xaf _,.un,by rw[xcB];rfl⟩ ?_ ?_
 ·rintro k d env N hd ⟨rfl,cl,s5,rfl⟩;rw[xam]at hd;have hk:k<n:=by
   rcases xa2 k n with h |h
   ·exact h
   ·rw[xbt (by rw[xbC];exact h)]at hd;cases hd
  rw[xbU hk]at hd;cases hd;refine⟨by simp,?_⟩;simp only[xaR,xaN];obtain⟨l,el⟩:∃l,ls[k]? =some l:=⟨_,xab (by lia)⟩;have lm:=Bo (xaF el);have ra:=Ci (b:=2) hk;have hc:=hM k l el;have te:bx 0 (ls.take (k + 1))=bx 0 (ls.take k) ++ l.map (Prod.mk k):=by
   rw[List.take_succ,el,QB,xbm,show 0 + min k ls.length=k by lia];show _ ++ (l.map (Prod.mk k) ++ [])=_;rw[xas]
  have tm:(l.map (Prod.mk k)).map enc=l.map fun x=>.tup [.int (k:Int),x]:=by rw[xen];rfl
  have cc : ∀ s4, lU 1000 [("_law_way", 5)] (s2 aM (aj 3) (aj 5)) Rv [a0, a1, a2, .val (.lst (rf 2 n)), s4, .val (.int (k : Int)), a6, a7, a8, a9, a10] N = some (.v (.lst (l.map fun x => .tup [.int (k : Int), x])), N) := fun s4 => YH (M1 := N) (j := 2 + k) (fun x => .tup [.int (k : Int), x]) (by
   z_go;rw[ra];z_go) hc (fun d _=>rfl) (by lia) (by rw[xa8];lia)
  have e:Bb [a0,a1,a2,.val (.lst (rf 2 n)),.val (.lst ((bx 0 (ls.take k)).map enc)),.val (.int (0 + (k:Int))),a6,a7,a8,a9,a10] N=some (.nx [a0,a1,a2,.val (.lst (rf 2 n)),.val (.lst ((bx 0 (ls.take (k + 1))).map enc)),.val (.int (0 + (k:Int))),a6,a7,a8,a9,a10],N):=by
   rw[te,xbr,tm,xcN];have al:((bx 0 (ls.take k)).map enc).length + (l.map fun x=>D.tup [.int (k:Int),x]).length<=1000000:=by
    rw[xan,xan];lia
   unfold Bb;generalize lU 1000 _ _ _=F at cc ⊢;generalize (bx 0 (ls.take k)).map enc=A at *;generalize (l.map fun x=>D.tup [.int (k:Int),x])=B at *;z_go;rw[cc];z_go
   try rw[xad (by lia)]
   z_go
  rw[e];refine⟨rfl,?_,_,rfl⟩;rw[te,xag,xan];lia
 ·rintro env N ⟨rfl,cl,s5,rfl⟩;rw[xan,xbC,xbI (by lia)];exact⟨s5,rfl⟩
theorem zZ:∀n:Nat,aV (zs n)=0
  |0=>rfl
  |1=>rfl
  |n + 2=>by
    have ih:=zZ (n + 1);show min 0 (aV (zs (n + 1)))=0;rw[ih];rfl
theorem wG:∀is:List Int,is≠ []->(∀i∈is,i=dF)->aV is=dF
  | [],h,_=>absurd rfl h
  | [a],_,h=>h a (by simp)
  |a::b::r,_,h=>by
    have ih:=wG (b::r) (by simp) fun i hi=>h i (by simp[hi]);show min a (aV (b::r))=dF;rw[ih,h a (by simp)];exact Int.min_self _
def Uv (K:Kd row n hh L S al)(n0:0<n){r B:Nat}{ls:List (List D)}{os:List (Nat×D)}(h:dY ls os)(hl:ls.length=n)(hv:∀(w:Nat) (l:List D),ls[w]? =some l->vW 0 l)(ol:os.length<=60)(hS:S r B (zs n) [] M):
  ∃is acc M',wV [.ref r,.lst (os.map enc)] M=some (.v (.lst acc),M')/\is.length=n/\(∀i∈is,i=dF)/\S r B is os M'/\kp 0 acc=some dF/\(acc.filter fG).Perm (al os)/\acc.length<=3600/\Fr r hh B M M':=by
 have zl:(zs n).length=n:=xaB;have z0:∀w,(zs n).getD w 0=0:=fun w=>by
  unfold zs;rw[xav,xaQ]
  split<;>rfl
 have a0:al []=[]:=by
  exact K.nil
 obtain⟨is,acc,M',s3,s4,s5,e,il,ia,hS',hk,hp,al',f⟩:=run (a1:=.val (.lst (os.map enc))) (K.hm r B) (K.ht r B) K.am h (zs n) [] [] M .un .un .un hl zl (fun w l hw=>by rw[z0];exact hv w l hw) hS (by rw[zZ];rfl) (by rw[a0];exact xce _) (by simp only[xaI];lia) (xaf _);rw[wG is (fun e=>by rw[e]at il;simp at il;lia) ia]at hk;exact⟨is,acc,M',ZK e,il,ia,hS',hk,hp,al',f⟩
end
variable {M:Mm}
section
variable {n hh:Nat}{L:Nat->Mm}{S:Nat->Nat->List Int->List (Nat×D)->Mm->Prop}{al:List (Nat×D)->List D}{row:D}
def zfW {t t' v v':Int}{z z':Str}:∃b,bY [.str (Str.ofString "thing"),.int t,.str z,.int v] [.str (Str.ofString "thing"),.int t',.str z',.int v']=some b:=by
 rw[bY,xad rfl];exact Di
def RJ {acc:List D}{m:Int}(h:kp 0 acc=some m):∀x∈acc.filter fG,∃t y v,x=.tup [.str "thing",.int t,.str y,.int v]:=fun x hx=>by
 obtain⟨h1,h2⟩:=xcX.mp hx;rcases A_ h x h1 with⟨t,rfl⟩ |h
 ·rw[Eo]at h2;cases h2
 ·exact h
def K8 {ds:List D}(h:∀x∈ds,∃t y v,x=.tup [.str "thing",.int t,.str y,.int v]):mC ds:=by
 refine⟨.inr (xbw.mpr fun d hd=>?_),fun xs ys hx hy=>?_⟩
 ·obtain⟨t,y,v,rfl⟩:=h d hd;rfl
 ·obtain⟨t,y,v,e1⟩:=h _ hx;obtain⟨t',y',v',e2⟩:=h _ hy;rw[D.tup.inj e1,D.tup.inj e2];exact zfW
theorem Rh:∀{ds:List D},(∀x∈ds,∃t y v,x=.tup [.str "thing",.int t,.str y,.int v])->D.deps ds<=1
  | [],_=>by decide
  |d::ds,h=>by
    have:=Rh (ds:=ds) fun x hx=>h x (by simp[hx]);obtain⟨t,y,v,rfl⟩:=h d (by simp);show max (max 0 (max 0 (max 0 (max 0 0))) + 1) _<=1;lia
def Q8 {c:E3.E}{acc:List D}{m:Int}(hc:c=(s2 (aG .eq) (s2 aM (aj 0) (ak (.int 0))) (ak (.str "thing"))))(h:kp 0 acc=some m)(hl:acc.length<=3600):dw c (aj 0) [] acc [] M=some (acc.filter fG,M):=by
  have wm:(Str.ofString "mark"=Str.ofString "thing")=False:=xea (by x_go);rw[Ed (fun x=>if fG x then some x else none) acc [] (fun x hx=>?_) (by rw[xa8];simp only[xaI];lia),xbe]
  · congr 2;clear h hl
    induction acc with
    |nil=>rfl
    |cons a acc ih=>
      rw[xbp,xbM];cases fG a
      · exact ih
      · exact congrArg (a:: ·) ih
  · subst hc;rcases A_ h x hx with⟨t,rfl⟩ |⟨t,y,v,rfl⟩
    · rw[Eo];show s2 (aG .eq) (s2 aM (aj 0) (ak (.int 0))) (ak (.str "thing")) [.val (cV t)] M=some (.v (.bl false),M);z_go;simp only[wm,xaS]
    · have e:fG (.tup [.str "thing",.int t,.str y,.int v])=true:=JV (d:=.tup [.int t,.str y,.int v]);rw[e];refine⟨?_,rfl⟩;z_go
theorem Ri:∀{is:List Int},D.deps (is.map D.int)<=1
  | []=>by decide
  |c::is=>by
    have:=Ri (is:=is);show max 0 _<=1;lia
def Yh {ls:List (List D)}{is:List Int}(hl:ls.length=n):(Mi ls is).length=2 + n + 1:=by
 unfold Mi;rw[xag,xag,xan,hl];show 2 + (n + 1)=_;lia
def Ym {ls:List (List D)}{is:List Int}:TT (Mi ls is):=TT.app (M:=Z0) ⟨rfl,rfl⟩
def Ka (K:Kd row n hh L S al)(hn:n=2\/n=3){x0 x1 x3:D}{fr:List D}(hr:row=.tup [x0,x1,.tup fr,x3])(hf:fr.length=n)(ns:List Int):
  ∃M,cC (Bp [.val (.lst (ns.map D.int)),.val row,.un,.un,.un,.un,.un,.un,.un,.un,.un] Z0)=some (.v (.bl true),M):=by
 have n0:0<n:=by lia
 have n1:n<=8:=by lia
 obtain⟨ls,is,l1,l2,l3,ei⟩:=Zy (n:=n) (ns:=ns) hn;have hM:=fun(w:Nat) (l:List D) (h:ls[w]? =some l)=>zJ (is:=is) h;obtain⟨s5,es⟩:=ZF (M:=Mi ls is) (a0:=.val (.lst (ns.map D.int))) (a1:=.val row) (a2:=.val (.int n)) (a6:=.un) (a7:=.un) (a8:=.un) (a9:=.un) (a10:=.un) l1 n1 hM (by lia);have ml:=Yh (is:=is) l1;have T1:=Ym (ls:=ls) (is:=is);generalize Mi ls is=M1 at ei hM es ml T1;have m1:=K.mk' M1 T1;have m2:=K.mk' (M1 ++ L M1.length) T1.app;have k1:=K.ll M1.length;have k2:=K.ll (M1 ++ L M1.length).length;have e2:(M1 ++ L M1.length).length=M1.length + hh:=by rw[xag,k1]
 have e3:(M1 ++ L M1.length ++ L (M1 ++ L M1.length).length).length=M1.length + hh + hh:=by rw[xag,k2,e2]
 have c1:∀i c,(L M1.length)[i]? =some c->(M1 ++ L M1.length ++ L (M1 ++ L M1.length).length)[M1.length + i]? =some c:=fun i c h=>fY (by rw[api];exact h);have c2:∀i c,(L (M1.length + hh))[i]? =some c->(M1 ++ L M1.length ++ L (M1 ++ L M1.length).length)[M1.length + hh + i]? =some c:=fun i c h=>by
  rw[<-e2]at h ⊢;rw[api];exact h
 have hM2:∀(w:Nat) (l:List D),ls[w]? =some l->(M1 ++ L M1.length ++ L (M1 ++ L M1.length).length)[2 + w]? =some (.lst l):=fun w l h=>fY (fY (hM w l h));rw[e2]at m2;rw[e2]at e3 c1 c2 hM2;generalize hM2':M1 ++ L M1.length ++ L (M1.length + hh)=M2 at m2 e3 c1 c2 hM2;have S1:=K.ini M1.length M2.length M2 c1 (by lia) (xaf _);obtain⟨is1,acc1,M3,t1,il1,ia1,S1',kp1,pm1,al1,f1⟩:=Uv K n0 (Ti ls) l1 l2 (by rw[QC];lia) S1;have hM3:∀(w:Nat) (l:List D),ls[w]? =some l->M3[2 + w]? =some (.lst l):=fun w l h=>f1.2 _ _ (by have:=(xah.mp h).1;lia) (by have:=(xah.mp h).1;lia) (hM2 w l h);have cc1:=Jw (M:=M3) (ns:=ns) (k:=1) (by decide);generalize ns.getD (1:Int).toNat 0=v1 at cc1;obtain⟨os2,E,i2,ol2,ew⟩:=ZL (M:=M3) (c:=v1 / 2) l1 n1 hM3 (fun w l h=>Pq (l2 w l h)) (by lia);have S2:=K.ini (M1.length + hh) (M3 ++ E).length (M3 ++ E) (fun i c h=>fY (f1.2 _ _ (by have:=(xah.mp h).1;rw[K.ll]at this;lia) (by lia) (c2 i c h))) (by rw[xag];have:=f1.1;lia) (xaf _);obtain⟨is2,acc2,M5,t2,il2,ia2,S2',kp2,pm2,al2,f2⟩:=Uv K n0 i2 l1 l2 ol2 S2;have S1'':=K.kee M1.length M2.length (M1.length + hh) (M3 ++ E).length is1 _ M3 M5 S1' (Fr.app.trans f2) (xaf _) (by lia) (by rw[xag];lia);have fin1:=K.fin _ _ _ _ _ S1'' il1 ia1;have fin2:=K.fin _ _ _ _ _ S2' il2 ia2;have ei2:is1=is2:=by
  rw[xd7.mpr ⟨il1,ia1⟩,xd7.mpr ⟨il2,ia2⟩]
 subst ei2;have pp:(acc2.filter fG).Perm (acc1.filter fG):=pm2.trans ((K.pm _ _ ((Te i2).trans (Te (Ti ls)).symm)).trans pm1.symm);have ok1:=K8 (RJ kp1);obtain⟨gs,g1,g2,_⟩:=Gp ok1;have g3:=(zcs ok1 pp).trans g1;have gd:D.deps gs<=1:=Rh fun x hx=>RJ kp1 x (g2.mem_iff.mp hx);have th1:dw Qv Ru [] acc1 [] M5=some (acc1.filter fG,M5):=Q8 rfl kp1 al1;have th2:dw Qu Rt [] acc2 [] M5=some (acc2.filter fG,M5):=Q8 rfl kp2 al2;have kk1:=RD (M:=M5) kp1;have kk2:=RD (M:=M5) kp2;have dl:=Ri (is:=is1);have e13:cC (Fe [.val (.lst (ns.map D.int)),.val row,.val (.int n),.val (.lst (rf 2 n)),.val (.lst ((bx 0 ls).map enc)),s5,.val (.ref M1.length),.val (.ref (M1.length + hh)),.val (.lst acc1),.val (.lst acc2),.val (.lst gs)] M5)=some (.v (.bl true),M5):=by
  have a1:=fin1 6 [.val (.lst (ns.map D.int)),.val row,.val (.int n),.val (.lst (rf 2 n)),.val (.lst ((bx 0 ls).map enc)),s5,.val (.ref M1.length),.val (.ref (M1.length + hh)),.val (.lst acc1),.val (.lst acc2),.val (.lst gs)] rfl;have a2:=fin2 7 [.val (.lst (ns.map D.int)),.val row,.val (.int n),.val (.lst (rf 2 n)),.val (.lst ((bx 0 ls).map enc)),s5,.val (.ref M1.length),.val (.ref (M1.length + hh)),.val (.lst acc1),.val (.lst acc2),.val (.lst gs)] rfl;obtain⟨a1,b1⟩:=a1;obtain⟨a2,b2⟩:=a2;unfold dF at b1 b2;unfold Fe;generalize (bL (aP "PourStation" "state" q_ (aj 6) ao) (aP "JoinStation" "state" p8 (aj 6) ao))=F1 at a1 ⊢;generalize (bL (aP "PourStation" "state" q_ (aj 7) ao) (aP "JoinStation" "state" p8 (aj 7) ao))=F2 at a2 ⊢;generalize (bL (aP "PourStation" "low" gO (aj 6) ao) (aP "JoinStation" "low" gA (aj 6) ao))=F3 at b1 ⊢;generalize (bL (aP "PourStation" "low" gO (aj 7) ao) (aP "JoinStation" "low" gA (aj 7) ao))=F4 at b2 ⊢;z_go;rw[a1];z_go;rw[a2];z_go;rw[zgE (by show max (D.deps (is1.map .int) + 1) (max 1 0) + 1<=50;lia)];z_go;rw[b1];z_go;rw[b2];z_go
 refine⟨M5,?_⟩;clear S1 S2 S1' S1'' S2' fin1 fin2 f1 f2 pm1 pm2 pp K hM hM2 hM3 l2 l3 i2 c1 c2;unfold Bp;generalize hn2:Kz=nx2;rw[hr];z_go;rw[hf, <-hn2, <-hr];clear hr;unfold Kz;generalize hn3:KC=nx3;generalize yM=G2 at ei ⊢;generalize rf 2 n=R at *;z_go;rw[ei];z_go;rw[<-hn3];unfold KC;generalize hn4:KD=nx4;z_go;rw[<-hn4];unfold KD;generalize hn5:KH=nx5;generalize Bb=LL at es ⊢;generalize (bx 0 ls).map enc=O1 at *;z_go;rw[Ma (by lia),xaK];z_go;rw[es];z_go;rw[<-hn5];unfold KH;generalize hn6:KJ=nx6;z_go;rw[m1];z_go;rw[<-hn6];unfold KJ;generalize hn7:KN=nx7;generalize M1 ++ L M1.length=M1' at m2 ⊢;z_go;rw[m2];z_go;rw[<-hn7];unfold KN;generalize hn8:KQ=nx8;z_go;rw[t1];z_go;rw[<-hn8];unfold KQ;generalize hn9:KR=nx9;z_go;rw[cc1];z_go;rw[ew];z_go;rw[t2];z_go;rw[<-hn9];unfold KR;generalize hn10:Kv=nx10;have sn:∀ds:List D,aG .same (.lst ds) .non=some (.bl false):=fun _=>rfl;z_go;rw[sn];z_go;rw[sn];z_go;rw[<-hn10];unfold Kv;generalize hn11:Kw=nx11;z_go;rw[kk1];z_go;rw[kk2];z_go;rw[<-hn11];unfold Kw;generalize hn12:Ky=nx12;z_go;rw[th1];z_go;rw[FQ g1];z_go;rw[<-hn12];unfold Ky;generalize Fe=nx13 at e13 ⊢;z_go;rw[th2];z_go;rw[FQ g3];z_go;rw[zgq (by show D.deps gs + 1<=50;lia)];z_go;exact e13
end
variable {M:Mm}
def vk {env:E3.Env}{k r:Nat}(h:env[k]? =some (.val (.ref r))):aj k env M=some (.v (.ref r),M):=by unfold aj;rw[h]
def X7 {n:Nat}{is:List Int}(h:is.length=n)(n0:0<n):is≠ []:=fun e=>by
 rw[e]at h
 simp at h
 lia
theorem Az {fr:List D}(n0:0<fr.length)(n1:fr.length<=8):Kd (xW fr) fr.length 2 (fun r=>PL r fr.length) (fun r _ is _ M=>Po r is M) yF where
 mk':=fun M _=>Ks n1
 ini:=fun r B M h _ _=>⟨h 0 _ rfl,h 1 _ rfl⟩
 hm:=fun r B=>JD n0
 ht:=fun r B=>JG
 am:=Ys
 fin:=fun r B is os M j il ia k env he=>⟨alt_1 (dG (k:=r) (vk he) j.o (m7 (by x_go)) rfl (Ol j)),alt_1 (dG (k:=r) (vk he) j.o (m7 (by x_go)) rfl (by rw[Kf j (X7 il n0),wG is (X7 il n0) ia]))⟩
 kee:=fun r B r' B' is os M M' j f h1 _ h3=>by
  have a:=(xah.mp j.o).1;have b:=(xah.mp j.mm).1;exact⟨f.2 _ _ (by lia) (.inl (by lia)) j.o,f.2 _ _ (by lia) (.inl (by lia)) j.mm⟩
 pm:=fun os os' p=>(p.map _).filter _
 ll:=fun _=>rfl
 nil:=rfl
theorem RN {α β:Type}{f g:α->List β}:∀(l:List α),(∀x∈l,(f x).Perm (g x))->(l.flatMap f).Perm (l.flatMap g)
  | [],_=>xce _
  |x::l,h=>by
    rw[xa6,xa6];exact(h x (by simp)).append (RN l fun y hy=>h y (by simp[hy]))
def J.keep {r B:Nat}{s m0 m1:Int}{a b:Nat}{K0 K1:List D}{r' B':Nat}{M':Mm}(j:J r B s m0 m1 a b K0 K1 M)(f:Fr r' 8 B' M M')(h1:r + 8<=r')(h2:r' + 8<=B)(h3:M.length<=B'):J r B s m0 m1 a b K0 K1 M':=by
 have ha:=j.ha;have hb:=j.hb;have k:∀{i:Nat} {c:E3.Cl},M[i]? =some c->(i<r'\/r' + 8<=i)->M'[i]? =some c:=fun h g=>f.2 _ _ (by have:=(xah.mp h).1;lia) g h;exact⟨k j.o (by lia),k j.mm (by lia),k j.x (by lia),k j.h (by lia),k j.p (by lia),k j.ka (by lia),k j.kb (by lia),j.ne,j.ha,j.hb,j.hB⟩
def Tr {s:Int}{X:List D}(s1:s<=60)(h:∀d∈X,Th d):kl s dF X=[]:=by
 unfold kl;refine List.filter_eq_nil_iff.mpr fun d hd=>?_;obtain⟨t,z,v,rfl,h1,_⟩:=h d hd;show ¬ decide (t + s >=dF)=true;rw[xaH (by unfold dF;lia)]
 decide
theorem J7 {s:Int}(s0:0<=s)(s1:s<=60):Kd (Ck s) 2 8 (fun r=>JL r s) (fun r B=>SJ r B s) (mL s) where
 mk' := fun M T => Kr T (by
  have hl:(dN s).length<=4:=W6 (i:=s) (k:=3) (by decide) (by lia);rw[Fg,xad (by lia),zcS (xal (show s.natAbs<101 by lia) (by x_go))];rfl)
 ini:=fun r B M h hB hl=>⟨0,0,r + 6,r + 7,rfl,⟨h 0 _ rfl,h 1 _ rfl,h 3 _ rfl,h 4 _ rfl,h 5 _ rfl,h 6 _ rfl,h 7 _ rfl,by lia,.inl rfl,.inl rfl,hB⟩,hl,fun w d hd=>nomatch hd⟩
 hm:=fun r B=>JC
 ht:=fun r B=>JF s0
 am:=Yr
 fin:=fun r B is os M hS il ia k env he=>by
  obtain⟨m0,m1,a,b,rfl,j,hB,hT⟩:=hS;have e0:=ia m0 (by simp);have e1:=ia m1 (by simp);subst e0 e1;have em:mn dF dF=dF:=Int.min_self _;rw[em,Tr s1 (hT 0),Tr s1 (hT 1)]at j;have no:∀(me:Str) (g:G),aP "PourStation" me g (aj k) ao env M=none:=fun me g=>xJ (k:=r) (vk he) j.o Iw.2;exact⟨(alt_2 (no _ _)).trans (dG (k:=r) (vk he) j.o (lO (by x_go)) rfl (ZD j)),(alt_2 (no _ _)).trans (dG (k:=r) (vk he) j.o (lO (by x_go)) rfl (by rw[Jl j,em]))⟩
 kee:=fun r B r' B' is os M M' hS f h1 h2 h3=>by
  obtain⟨m0,m1,a,b,rfl,j,hB,hT⟩:=hS;exact⟨m0,m1,a,b,rfl,j.keep f h1 h2 h3,xar hB f.1,hT⟩
 pm:=fun os os' p=>by
  have p0:(wy 0 os).Perm (wy 0 os'):=p.filterMap _;have p1:(wy 1 os).Perm (wy 1 os'):=p.filterMap _;exact((p0.flatMap_right _).trans (RN _ fun x _=>p1.flatMap_right _)).map _
 ll:=fun _=>rfl
 nil:=rfl
def zcD:∀ns:List Int,ns.length<=63->∃M,gR [.lst (ns.map D.int)] (f9 tabs)=some (.v (.bl true),M):=by
 intro ns _;obtain⟨R,er,hR⟩:=ZC (M:=Z0) (ns:=ns);have go:(∃M,cC (Bp [.val (.lst (ns.map D.int)),.val R,.un,.un,.un,.un,.un,.un,.un,.un,.un] Z0)=some (.v (.bl true),M))->∃M,gR [.lst (ns.map D.int)] (f9 tabs)=some (.v (.bl true),M):=fun⟨M,e⟩=>by
  refine⟨M,?_⟩;show gR [.lst (ns.map D.int)] Z0=_;unfold gR R3 DR;generalize Bp=nx1 at e ⊢;generalize yO=G at er ⊢;z_go;rw[er];z_go;exact e
 rcases hR with rfl |rfl |⟨s,s0,s1,rfl⟩
 ·exact go (Ka (Az (fr:=[.str "a",.str "b",.str "c"]) (by decide) (by decide)) (.inr rfl) rfl rfl ns)
 ·exact go (Ka (Az (fr:=[.str "a",.str "b"]) (by decide) (by decide)) (.inl rfl) rfl rfl ns)
 ·exact go (Ka (J7 s0 s1) (.inl rfl) rfl rfl ns)
structure FS (K:Fgx)(C:Ad):Prop where
 F0:cH K "is_figures" Nu
 F1:cH K "is_signed_figures" Ny
 F2:cH K "is_number" Nx
 F3:cH K "held" Nt
 F4:cH K "is_leaf" Nv
 F5:cH K "take_needed" N5
 F6:cH K "check_words" Nq
 F7:cH K "combined" Nr
 F8:cH K "leaf_value" NK
 F9:cH K "reckoned" NT
 F10:cH K "read_expr" NP
 F11:cH K "change_of" Gg
 F12:cH K "pairer_of" Cy
 F13:cH K "item_of" Nz
 F14:cH K "station_of" NZ
 F15:cH K "_law_cell_at" Ng
 F16:cH K "_law_row" Nk
 F17:cH K "_law_item" Nh
 F18:cH K "_law_items" Ni
 F19:cH K "_law_woven" Gf
 F20:cH K "_law_told" Nm
 F21:cH K "_law_keeps_promise" Nj
 F23:Dq K C.Expr "Expr.__init__" Ms
 F25:Dq K C.PourStation "Station.__init__" MN
 F26:MAt K C.PourStation "low" "Station.low" M7
 F27:MAt K C.PourStation "take_in" "Station.take_in" M9
 F28:MAt K C.PourStation "take_mark" "Station.take_mark" M_
 F29:MAt K C.PourStation "tell_low" "Station.tell_low" Nf
 F30:MAt K C.PourStation "take_thing" "Station.take_thing" Nb
 F31:MAt K C.PourStation "close_at" "Station.close_at" M6
 F32:MAt K C.PourStation "all_kept" "Station.all_kept" MP
 F33:MAt K C.PourStation "state" "Station.state" M8
 F34:Dq K C.JoinStation "JoinStation.__init__" Mt
 F35:MAt K C.JoinStation "take_thing" "JoinStation.take_thing" MJ
 F36:MAt K C.JoinStation "close_at" "JoinStation.close_at" Mu
 F37:MAt K C.JoinStation "left_at" "JoinStation.left_at" Mv
 F38:MAt K C.JoinStation "all_kept" "JoinStation.all_kept" Ge
 F39:MAt K C.JoinStation "low" "Station.low" Mw
 F40:MAt K C.JoinStation "take_in" "Station.take_in" Mz
 F41:MAt K C.JoinStation "take_mark" "Station.take_mark" MF
 F42:MAt K C.JoinStation "tell_low" "Station.tell_low" MK
 F43:MAt K C.JoinStation "state" "Station.state" Mx
def zfo {l:PySem.W.OpenLaw}{w:World}{K:Fgx}{mg:Mgx}{C:Ad}{h base:Heap}{f22 f24 f44:Addr}{d22 d24 d44:FuncData}(X:K.In h)(G:h.Ns mainGlobals mg)(T:Txt K mg C w)(hB:lW mg base)
  (FF:FS K C)
  (D22:DefAt K mg "law" mF ["_law_script"] f22 d22)
  (D24:MetAtD K C.Expr "value" "Expr.value" yc ["self","time","value","other"] [(.int 0)] f24 d24)
  (D44:BasAt K C.Station "Station.__init__" vf ["self","row"] f44 d44)
  :FnOk l.prog w K mg base fP xG f22 d22 ["_law_script"] (nu K mg 1 gR):=by
 have A0:bB l.prog w K mg base 1 "is_figures" 1 Jx:=(FF.F0.ok X G Wl (fun _=>zaR (k:=0) T) :);have A1:bB l.prog w K mg base 2 "is_signed_figures" 1 Jz:=(FF.F1.ok X G Wq (fun _=>zaw (k:=1) T A0.up) :);have A2:bB l.prog w K mg base 3 "is_number" 1 Jy:=(FF.F2.ok X G Wo (fun _=>zaY (k:=2) T A1.up) :);have A3:bB l.prog w K mg base 1 "held" 1 Ak:=(FF.F3.ok X G Wj (fun _=>zea (k:=0) T) :);have A4:bB l.prog w K mg base 4 "is_leaf" 2 Am:=(FF.F4.ok X G Wn (fun _=>zbO (k:=3) T A2.up) :);have B5:lB l.prog w K mg base 1 "take_needed" 2 yR:=(FF.F5.okX X G WD (fun _=>zaL (k:=0) T) :);have A5:=B5.quiet;have B6:lB l.prog w K mg base 5 "check_words" 3 Aj:=(FF.F6.okX X G Wh (fun _=>zaN (k:=4) T A4.up B5.up) :);have A6:=B6.quiet;have A7:bB l.prog w K mg base 1 "combined" 3 yQ:=(FF.F7.ok X G Wi (fun _=>za7 (k:=0) T) :);have A8:bB l.prog w K mg base 1 "leaf_value" 4 Ao:=(FF.F8.ok X G Wt (fun _=>zaS (k:=0) T) :);have A9:bB l.prog w K mg base 2 "reckoned" 4 wX:=(FF.F9.ok X G Wy (fun _=>za8 (k:=1) T A7.up A8.up) :);have A23:kJ l.prog w K mg base 1 C.Expr 2 Ae:=(JQ FF.F23 Vw (fun _=>zaG (k:=0) T) :);have A10:bB l.prog w K mg base 6 "read_expr" 2 Aq:=(FF.F10.ok X G Ww (fun _=>za5 (k:=5) (k0:=4) T rfl A6.up A23.up) :);have A24:bJ l.prog w K mg base 3 C.Expr "value" 4 yK:=⟨_,_,_,D24.M,yJ (b:=Dz) D24.F Vx (by decide) (zaP (k:=2) T A9.up),D24.b⟩;have A45:kI l.prog w K mg base 4 lN 3 yP:=(yx.ok Wg (zau (k:=3) T A3.up A24.up) :);obtain⟨c11,P11,ht11,hc11⟩:=T.tb_change_of;have A11:bB l.prog w K mg base 7 "change_of" 2 Ai:=(FF.F11.okM X G Wf ht11 (fun _=>za2 (k:=6) T ht11 hc11 hB A10.up) :);have A46:kI l.prog w K mg base 5 gB 2 rD:=(yx.ok Wv (zaB (k:=4) T A45.up) :);obtain⟨c12,P12,ht12,hc12⟩:=T.tb_pairer_of;have A12:bB l.prog w K mg base 8 "pairer_of" 1 wW:=(FF.F12.okM X G Wu ht12 (fun _=>zaX (k:=7) T ht12 hc12 hB A11.up) :);have A13:bB l.prog w K mg base 1 "item_of" 1 mj:=(FF.F13.ok X G Wr (fun _=>zbS (k:=0) T) :);have A25:kJ l.prog w K mg base 1 C.PourStation 2 wQ:=(JQ FF.F25 VR (fun _=>zal (k:=0) T) :);have A44:nF l.prog w K mg base 1 "Station" "__init__" 2 wK:=(D44.ok (b:=DG) T.cl_Station.mg Vy (zaa (k:=0) T) :);have A34:kJ l.prog w K mg base 9 C.JoinStation 2 wL:=(JQ FF.F34 Vz (fun _=>zaq (k:=8) T A12.up A44.up) :);have A14:bB l.prog w K mg base 11 "station_of" 1 rG:=(FF.F14.ok X G Wz (fun _=>zaU (k:=10) (k0:=9) T rfl A25.up A34.up) :);have A15:bB l.prog w K mg base 1 "_law_cell_at" 2 lZ:=(FF.F15.ok X G V8 (fun _=>zbh (k:=0) T) :);have A16:bB l.prog w K mg base 2 "_law_row" 1 yO:=(FF.F16.ok X G Wb (fun _=>zd8 (k:=1) T A15.up) :);have A17:bB l.prog w K mg base 1 "_law_item" 3 yL:=(FF.F17.ok X G V9 (fun _=>zdv (k:=0) T) :);have A18:bB l.prog w K mg base 2 "_law_items" 2 yM:=(FF.F18.ok X G V_ (fun _=>zcf (k:=1) T A15.up A17.up) :);have A19:bB l.prog w K mg base 1 "_law_woven" 2 Ah:=(FF.F19.ok X G Wd (fun _=>zch (k:=0) T) :);have A26:bJ l.prog w K mg base 1 C.PourStation "low" 1 gO:=(FF.F26.ok V2 (fun _=>zaA (k:=0) T) :);have A31:bJ l.prog w K mg base 1 C.PourStation "close_at" 2 Ag:=(FF.F31.ok V1 (fun _=>zam (k:=0) T) :);have A29:bJ l.prog w K mg base 2 C.PourStation "tell_low" 2 wU:=(FF.F29.ok V7 (fun _=>zao (k:=1) T A13.up A31.up) :);have A28:bJ l.prog w K mg base 3 C.PourStation "take_mark" 3 rm:=(FF.F28.ok V5 (fun _=>zag (k:=2) T A26.up A29.up) :);have A30:bJ l.prog w K mg base 2 C.PourStation "take_thing" 3 wR:=(FF.F30.ok V6 (fun _=>zad (k:=1) T A13.up) :);have A27:bJ l.prog w K mg base 4 C.PourStation "take_in" 3 kZ:=(FF.F27.ok V4 (fun _=>zas (k:=3) T A28.up A30.up) :);have A35:bJ l.prog w K mg base 6 C.JoinStation "take_thing" 3 tW:=(FF.F35.ok VN (fun _=>zae (k:=5) T A13.up A46.up) :);have A39:bJ l.prog w K mg base 1 C.JoinStation "low" 1 gA:=(FF.F39.ok VG (fun _=>zaz (k:=0) T) :);have A37:bJ l.prog w K mg base 1 C.JoinStation "left_at" 3 lK:=(FF.F37.ok VF (fun _=>zat (k:=0) T) :);have A36:bJ l.prog w K mg base 2 C.JoinStation "close_at" 2 wN:=(FF.F36.ok VD (fun _=>zak (k:=1) T A37.up) :);have A42:bJ l.prog w K mg base 3 C.JoinStation "tell_low" 2 wO:=(FF.F42.ok VP (fun _=>zai (k:=2) T A13.up A36.up) :);have A41:bJ l.prog w K mg base 4 C.JoinStation "take_mark" 3 n_:=(FF.F41.ok VL (fun _=>zah (k:=3) T A39.up A42.up) :);have A40:bJ l.prog w K mg base 7 C.JoinStation "take_in" 3 lM:=(FF.F40.ok VJ (fun _=>zar (k:=6) T A35.up A41.up) :);have A20:bB l.prog w K mg base 8 "_law_told" 2 wV:=(FF.F20.ok X G Wc (fun _=>zcP (k:=7) T A27.up A40.up) :);have A21:bB l.prog w K mg base 1 "_law_keeps_promise" 1 yN:=(FF.F21.ok X G Wa (fun _=>zaD (k:=0) T) :);have A32:bJ l.prog w K mg base 1 C.PourStation "all_kept" 1 Af:=(FF.F32.ok V0 (fun _=>zan (k:=0) T) :);have A33:bJ l.prog w K mg base 2 C.PourStation "state" 1 q_:=(FF.F33.ok V3 (fun _=>zax (k:=1) T A32.up) :);have A38:bJ l.prog w K mg base 1 C.JoinStation "all_kept" 1 wM:=(FF.F38.ok VB (fun _=>zaj (k:=0) T) :);have A43:bJ l.prog w K mg base 2 C.JoinStation "state" 1 p8:=(FF.F43.ok VH (fun _=>zav (k:=1) T A38.up) :);exact yJ (b:=DR) D22.F Ws (by decide) (zgA (k:=11) T A14.up A15.up A16.up A18.up A19.up A20.up A21.up A26.up A33.up A39.up A43.up)
def all_mk {l:W.OpenLaw}{w:World}{K:W.Frag}{h:Heap}{mg:Mgx}{fa:Addr}(X:K.In h)(G:h.Ns mainGlobals mg)(hfa:mg "law"=some (.ref fa))
  (j6:W.nsIn K mainGlobals "Expr"=some (some (.ref j7)))
  (j8:W.nsIn K mainGlobals "JoinStation"=some (some (.ref j9)))
  (jc:W.nsIn K mainGlobals "PourStation"=some (some (.ref jd)))
  (je:W.nsIn K mainGlobals "Station"=some (some (.ref jf)))
  (jg:W.nsIn K mainGlobals "DamError"=some (some (.ref jh)))
  (ji:W.nsIn K mainGlobals "NoExpr"=some (some (.ref jm)))
  (jo:W.plainGet K j7 Str.empty=true) (jq:W.hasDictIn K j7=true) (jr:W.plainOver K j7=true) (jt:W.findIn K (.ref j7) "__setattr__"=some (some (.builtin "object.__setattr__")))
  (ju:W.plainGet K j9 Str.empty=true) (jw:W.hasDictIn K j9=true) (jy:W.plainOver K j9=true) (jz:W.findIn K (.ref j9) "__setattr__"=some (some (.builtin "object.__setattr__")))
  (jA:W.plainGet K jd Str.empty=true) (jB:W.hasDictIn K jd=true) (jC:W.plainOver K jd=true) (jD:W.findIn K (.ref jd) "__setattr__"=some (some (.builtin "object.__setattr__")))
  (jE:W.plainGet K jf Str.empty=true) (jF:W.hasDictIn K jf=true) (jG:W.plainOver K jf=true) (jH:W.findIn K (.ref jf) "__setattr__"=some (some (.builtin "object.__setattr__")))
  (jJ:W.findIn K (.ref j9) "kept"=some none)
  (jK:W.findIn K (.ref jd) "marks"=some none)
  (jL:W.findIn K (.ref j9) "marks"=some none)
  (jM:W.findIn K (.ref j9) "pair"=some none)
  (jN:W.findIn K (.ref j7) "parts"=some none)
  (jO:W.findIn K (.ref j9) "span"=some none)
  (jP:dX K jh=true)
  (jQ:dX K jm=true)
  (jR:sX K "change_of"=true)
  (jT:sX K "pairer_of"=true)
  (jU:Dp K jm=true) (jV:W.keepIn K (.ref jm)=true) (jW:GX K jm=true)
  (a22:W.nsIn K mainGlobals "law"=some (some (.ref f22))) (l22:K.lookup f22=some ⟨oc22,od22,.func (W.fnOf "law" "law" (dh mF) (cB mF) (aL mF) .none kV22 dc22 pm22 an22 cd22 ct22),sl22⟩) (c22:W.codeIn K cd22 "law"=true) (k22:W.keepIn K (.ref f22)=true)
  (a24:W.findIn K (.ref j7) "value"=some (some (.ref f24))) (l24:K.lookup f24=some ⟨oc24,od24,.func (W.fnOf "value" "Expr.value" (dh yc) (cB yc) (aL yc) (.ref tt24) kV24 dc24 pm24 an24 cd24 ct24),sl24⟩) (c24:W.codeIn K cd24 "Expr.value"=true) (k24:W.keepIn K (.ref f24)=true)
  (q24:K.lookup tt24=some ⟨ot24,td24,.seq #[(Value.int 0 tk24_0)] tn24,ts24⟩)
  (n24:W.isFn K (.ref f24)=true)
  (a44:W.findIn K (.ref jf) "__init__"=some (some (.ref f44))) (l44:K.lookup f44=some ⟨oc44,od44,.func (W.fnOf "__init__" "Station.__init__" (dh vf) (cB vf) (aL vf) .none kV44 dc44 pm44 an44 cd44 ct44),sl44⟩) (c44:W.codeIn K cd44 "Station.__init__"=true) (k44:W.keepIn K (.ref f44)=true)
  (jX:lG K jf f44 "__init__"=true)
  (FF:FS K ⟨j7,j9,jd,jf,jh,jm⟩)
  (jY:∀x∈wF,W.nsIn K mainGlobals x=some none)
  (jZ:W.nsIn K mainGlobals "ALL_LETTERS"=some (some (.ref qb))) (qe:K.lookup qb=some ⟨.type "tuple",qg,.seq #[.str "t" qj,.str "v" ql,.str "w" qm] qp,qt⟩)
  (qu:W.nsIn K mainGlobals "NEEDS"=some (some (.ref qw)))
  (qx:K.lookup qw=some ⟨.type "dict",none,.dict #[⟨qy,.str "+" qz,.ref qC⟩,⟨qD,.str "-" qF,.ref qG⟩,⟨qH,.str "*" qI,.ref qJ⟩,⟨qK,.str "least" qL,.ref qM⟩,⟨qN,.str "most" qO,.ref qP⟩,⟨qQ,.str "<" qR,.ref qT⟩,⟨qU,.str "=" qW,.ref qX⟩,⟨qY,.str "not" qZ,.ref o7⟩,⟨o8,.str "and" o9,.ref oh⟩,⟨ou,.str "or" oA,.ref oE⟩] oF, #[]⟩) (oG:(qw==sysModules)=false)
  (oH:qy=hashStr w "+")
  (oJ:K.lookup qC=some ⟨.type "tuple",oK,.seq #[.str "number" oM,.str "number" oN,.int 2 oO] oR,oU⟩)
  (oV:qD=hashStr w "-")
  (oW:K.lookup qG=some ⟨.type "tuple",oX,.seq #[.str "number" oY,.str "number" oZ,.int 2 iy] iz,iC⟩)
  (iD:qH=hashStr w "*")
  (iG:K.lookup qJ=some ⟨.type "tuple",iH,.seq #[.str "number" iI,.str "number" iJ,.int 2 iK] iM,iQ⟩)
  (iR:qK=hashStr w "least")
  (iT:K.lookup qM=some ⟨.type "tuple",iU,.seq #[.str "number" iV,.str "number" iW,.int 2 iY] iZ,u9⟩)
  (ud:qN=hashStr w "most")
  (uf:K.lookup qP=some ⟨.type "tuple",ug,.seq #[.str "number" uh,.str "number" uo,.int 2 uq] ux,uy⟩)
  (uz:qQ=hashStr w "<")
  (uD:K.lookup qT=some ⟨.type "tuple",uE,.seq #[.str "truth" uF,.str "number" uG,.int 2 uH] uI,uJ⟩)
  (uK:qU=hashStr w "=")
  (uL:K.lookup qX=some ⟨.type "tuple",uM,.seq #[.str "truth" uN,.str "number" uO,.int 2 uP] uQ,uR⟩)
  (uT:qY=hashStr w "not")
  (uU:K.lookup o7=some ⟨.type "tuple",uV,.seq #[.str "truth" uW,.str "truth" uX,.int 1 uY] uZ,v7⟩)
  (v8:o8=hashStr w "and")
  (v9:K.lookup oh=some ⟨.type "tuple",vA,.seq #[.str "truth" vB,.str "truth" vC,.int 2 vD] vG,vH⟩)
  (vI:ou=hashStr w "or")
  (vJ:K.lookup oE=some ⟨.type "tuple",vK,.seq #[.str "truth" vL,.str "truth" vM,.int 2 vN] vO,vP⟩)
  (vQ:W.nsIn K mainGlobals "FIGURES"=some (some (.str "0123456789" vR)))
  (vU:W.nsIn K mainGlobals "MOST_FIGURES"=some (some (.int 20 vV)))
  (vX:W.nsIn K mainGlobals "MOST_VALUE"=some (some (.int 1000000000000000000000000000000000000000000000000000000000000 vY)))
  (vZ:W.nsIn K mainGlobals "LAST"=some (some (.int 1000000000000000 rA)))
  (rB:W.nsIn K mainGlobals "LETTERS"=some (some (.str "abcdefghijklmnopqrstuvwxyz" rC)))
  (rE:W.nsIn K mainGlobals "COND_LETTERS"=some (some (.str "tv" rF)))
  :∃fd:FuncData,(∀(s:Shared) (v:Value),BindsTo s fd ⟨[v],[]⟩ [("_law_script",v)])/\∀base:Heap,K.In base->base.Ns mainGlobals mg->lW mg base->FnOk l.prog w K mg base fP xG fa fd ["_law_script"] (Gs K gR):=by
 have e:=hfa.symm.trans (xb0 X G a22);cases e;have T:Txt (w:=w) K mg ⟨j7,j9,jd,jf,jh,jm⟩:=⟨fun x hx=>W.mg_none_of X G (jY x hx),⟨xb0 X G j6,jo,jq,jr,jt⟩,⟨xb0 X G j8,ju,jw,jy,jz⟩,⟨xb0 X G jc,jA,jB,jC,jD⟩,⟨xb0 X G je,jE,jF,jG,jH⟩,jJ,jK,jL,jM,jN,jO,xb0 X G jg,jP,xb0 X G ji,jQ,Xp jR,Xp jT,jU,jV,jW,⟨_,xb0 X G jZ,S6 (vs:=[(.str "t"),(.str "v"),(.str "w")]) (its:= #[.str "t" _,.str "v" _,.str "w" _]) (o:=⟨.type "tuple",_,.seq #[.str "t" _,.str "v" _,.str "w" _] _,_⟩) qe rfl rfl (by show 3<=sizeLine;decide) (.cons ⟨_,rfl⟩ (.cons ⟨_,rfl⟩ (.cons ⟨_,rfl⟩ (.nil)))) (fun _ _=>⟨_,_,rfl,rfl,⟨_,_,rfl,rfl,⟨_,_,rfl,rfl,rfl⟩⟩⟩)⟩,⟨_,xb0 X G qu,_,_,_,_,qx,⟨rfl,rfl,rfl⟩,rfl,.cons (v:=.ref qC) oH rfl (o_ oJ) (.cons (v:=.ref qG) oV rfl (o_ oW) (.cons (v:=.ref qJ) iD rfl (o_ iG) (.cons (v:=.ref qM) iR rfl (o_ iT) (.cons (v:=.ref qP) ud rfl (o_ uf) (.cons (v:=.ref qT) uz rfl (o_ uD) (.cons (v:=.ref qX) uK rfl (o_ uL) (.cons (v:=.ref o7) uT rfl (o_ uU) (.cons (v:=.ref oh) v8 rfl (o_ v9) (.cons (v:=.ref oE) vI rfl (o_ vJ) (.nil)))))))))),by x_go,oG⟩,⟨_,xb0 X G vQ⟩,⟨_,xb0 X G vU⟩,⟨_,xb0 X G vX⟩,⟨_,xb0 X G vZ⟩,⟨_,xb0 X G rB⟩,⟨_,xb0 X G rE⟩⟩;have D22:DefAt K mg "law" mF ["_law_script"] _ _:=⟨xb0 X G a22,Ab l22 c22 k22,(Em (st:=mF) l22 c22 k22).binds (ps:=["_law_script"]) fun _ _ _ _ _ _ us hl=>match us,hl with | [_],_=>rfl⟩
 have D24:MetAtD K j7 "value" "Expr.value" yc ["self","time","value","other"] [(.int 0)] _ _:=⟨⟨a24,n24,k24⟩,Ab l24 c24 k24,fun s us hK hl=>by(rcases us with _ |⟨_,_ |⟨_,_ |⟨_,_ |⟨_,_ |⟨_,us⟩⟩⟩⟩⟩<;>first |exact W.binds_K hK rfl q24 rfl rfl rfl |(exfalso;simp at hl;done)),[V.int 0],[(Value.int 0 tk24_0)],fun s us hK hl=>by(rcases us with _ |⟨_,_ |⟨_,_ |⟨_,_ |⟨_,us⟩⟩⟩⟩<;>first |exact W.binds_K hK rfl q24 rfl rfl rfl |(exfalso;simp at hl;done)),.cons ⟨_,rfl⟩ (.nil),fun _ _=>⟨_,_,rfl,rfl,rfl⟩,rfl⟩
 have D44:BasAt K jf "Station.__init__" vf ["self","row"] _ _:=⟨jX,Ab l44 c44 k44,(Em (st:=vf) l44 c44 k44).binds (ps:=["self","row"]) fun _ _ _ _ _ _ us hl=>match us,hl with | [_,_],_=>rfl⟩
 refine⟨W.fnOf "law" "law" (dh mF) (cB mF) (aL mF) .none kV22 dc22 pm22 an22 cd22 ct22,fun s v=>.of_eq rfl,fun base _ _ hB=>ZX ?_⟩;exact zfo X G T hB FF D22 D24 D44
end My
open PySem PySem.W PyProof.Rows
set_option maxRecDepth 100000 in
set_option maxHeartbeats 0 in
theorem PySem.Challenge.cw_rowdam_k46_two_orders_holds : PySem.Challenge.rw_rowdam_k46_two_orders.Holds := by
 w_on;refine HQ.two "special-get-raises" My.he My.hAf My.hBf My.hAt My.hBt ?_
 k_fill
 refine E3.zb4 (T:=My.tabs) (l:=PySem.Challenge.rw_rowdam_k46_two_orders) (k:=My.xG) (g:=My.gR) (x:="_law_script") rfl rfl ⟨rfl,by decide,by decide⟩ (fun w h Y=>by first |exact PySem.W.kIn_of Y |exact PySem.W.km_in_of Y) (fun w h Y=>by refine⟨_,?_,PySem.W.km_tabs_of Y⟩;kernel_rfl) ?F My.zcD
 case F=>
  intro w mg fa h KX G hmg
  refine' My.all_mk KX G hmg ?j6 ?j8 ?jc ?je ?jg ?ji ?jo ?jq ?jr ?jt ?ju ?jw ?jy ?jz ?jA ?jB ?jC ?jD ?jE ?jF ?jG ?jH ?jJ ?jK ?jL ?jM ?jN ?jO ?jP ?jQ ?jR ?jT ?jU ?jV ?jW ?a22 ?l22 ?c22 ?k22 ?q24 ?a24 ?l24 ?c24 ?k24 ?n24 ?a44 ?l44 ?c44 ?k44 ?jX ?FF ?jY ?jZ ?qe ?qu ?qx ?oG ?oH ?oJ ?oV ?oW ?iD ?iG ?iR ?iT ?ud ?uf ?uz ?uD ?uK ?uL ?uT ?uU ?v8 ?v9 ?vI ?vJ ?vQ ?vU ?vX ?vZ ?rB ?rE
  (case j6 |j8 |jc |je |jg |ji |jo |jq |jr |jt |ju |jw |jy |jz |jA |jB |jC |jD |jE |jF |jG |jH |jJ |jK |jL |jM |jN |jO=>k_is);(case jP |jQ |jR |jT |jU=>kernel_rfl);(case jV=>k_is);(case jW=>refine E3.zfv (E3.zdI ?_ ?_ ?_) ?_ ?_ ?_ ?_ ?_<;>k_is);(case a22 |l22 |c22 |k22 |q24 |a24 |l24 |c24 |k24=>k_is);(case n24=>kernel_rfl);(case a44 |l44 |c44 |k44=>k_is);(case jX=>kernel_rfl);(case jY=>simp only[My.wF,xaO,List.not_mem_nil,or_false,forall_eq_or_imp,forall_eq];and_intros<;>k_is);(case jZ |qe |qu |qx=>k_is);(case oG=>first |decide +kernel |kernel_rfl);(case oH=>rfl);(case oJ=>k_is);(case oV=>rfl);(case oW=>k_is);(case iD=>rfl);(case iG=>k_is);(case iR=>rfl);(case iT=>k_is);(case ud=>rfl);(case uf=>k_is);(case uz=>rfl);(case uD=>k_is);(case uK=>rfl);(case uL=>k_is);(case uT=>rfl);(case uU=>k_is);(case v8=>rfl);(case v9=>k_is);(case vI=>rfl);(case vJ |vQ |vU |vX |vZ |rB |rE=>k_is);constructor;all_goals ((first |refine' E3.cH.mk ?a ?l ?c ?k |refine' E3.MAt.mk ?a ?l ?c ?k ?n |refine'⟨E3.MAt.mk ?a ?l ?c ?k ?n,?w,?y⟩);(case a=>k_is);(case l=>k_is);(case c=>k_is);(case k=>k_is);try (case n=>kernel_rfl);try (case w=>kernel_rfl);try (case y=>k_is))
