import PyProof.Rows.All
import Wide.All
import OpenK.AllK
import Wide.FinOn
import Lean
import PyProof.EqAt
import PyProof.EqKinds
import PyProof.TupleCall
import KE.KIsAll
import KE.KMinKey
import KE.KTupSum
import KE.KxSplit
import KE.KxAffix
import KE.KIntText
import PyProof.NeKinds
import PyProof.Rows.EqBoolInt
import KE.KSortTup
import PyProof.Conv_int_bool
import PySem.Challenge.RW_rowdam_k14_works_read
noncomputable section
set_option Elab.async false
set_option linter.all false
set_option maxRecDepth 100000
abbrev Fgx:=PySem.W.Frag
abbrev Mgx:=PySem.Str->Option PySem.Value
abbrev Pnx:=List (PySem.Addr×PySem.Obj)
local macro_rules | `(tactic| x_go)=> `(tactic| decide +kernel)
namespace HQ
open PySem PySem.W PySem.Calls PyProof.Rows
def frc {α:Type}(t:BT):(BT->α)->α:= @BT.rec (fun _=>(BT->α)->α) (fun k=>k .nil) (fun v _ _ a b k=>a fun l=>b fun r=>k (.node v l r)) t
theorem zlC {α:Type}:∀(t:BT) (k:BT->α),frc t k=k t
 |.nil,_=>rfl
 |.node _ l r,_=>(zlC l _).trans (zlC r _)
def frn {α:Type}(n:Nat)(k:Nat->α):α:= @Nat.rec (fun _=>α) (k 0) (fun n _=>k (Nat.succ n)) n
theorem zoE {α:Type}(n:Nat)(k:Nat->α):frn n k=k n:=by cases n<;>rfl
def frs {α:Type}(s:SharedT)(k:SharedT->α):α:= @SharedT.rec (fun _=>α) (fun T n l g d i o=>frc T fun T=>frn n fun n=>frn i fun i=>k ⟨T,n,l,g,d,i,o⟩) s
theorem zsB {α:Type}(s:SharedT)(k:SharedT->α):frs s k=k s:=(zlC _ _).trans ((zoE _ _).trans (zoE _ _))
abbrev qd:Code->Sem Fin:=Fast.tw11892475500146522536 Fast.tw14364793385576792824
def stq (p:Program)(w:World):SharedT->Thread->Option (SharedT×Thread)
  |⟨T,n,l,g,d,i,o⟩,⟨c,cd,q,fs⟩=>match c with
    |.load .. |.update .. |.alloc .. |.loadIfAlive .. =>Fast.tw10156331382660048174 qd p w ⟨T,n,l,g,d,i,o⟩ ⟨c,cd,q,fs⟩
    |c=>match Fast.tw8437177126325714943 qd p w ⟨{},g,d,i,o⟩ ⟨c,cd,q,fs⟩ with
      |.go ⟨_,g,d,i,o⟩ t=>some (⟨T,n,l,g,d,i,o⟩,t)
      |.halt _ _=>none
theorem zrR {p:Program}{w:World}(s:SharedT)(t:Thread):stq p w s t=stepT (denote treeTable) p w s t:=by
 obtain⟨T,n,l,g,d,i,o⟩:=s;obtain⟨c,cd,q,fs⟩:=t;rw[show denote treeTable=qd by unfold qd;rw[<-Fast.te11892475500146522536, <-Fast.te14364793385576792824]];cases c<;>(unfold stq;dsimp only;first |rw[<-Fast.te10156331382660048174] |(unfold stepT;dsimp only;rw[<-Fast.te8437177126325714943];cases step qd p w _ _<;>rfl))
abbrev OS:=Option SharedT
def bd (p:Program)(w:World)(n:Nat)(ih:SharedT->Thread->OS)(s:SharedT)(t:Thread):OS:=
 @Bool.rec (fun _=>OS) (@Bool.rec (fun _=>OS) none (@Option.rec _ (fun _=>OS) none (fun r=> @Prod.rec _ _ (fun _=>OS) (fun s t=> @Bool.rec (fun _=>OS) (ih s t) (frs s fun s=>ih s t) (Nat.beq (n % 64) 0)) r) (stq p w s t)) (Fast.tw6613529449190102663 11 (some (.ref 6)) t)) (some s) (through t)
def go (p:Program)(w:World)(n:Nat):SharedT->Thread->OS:= @Nat.rec (fun _=>SharedT->Thread->OS) (fun _ _=>none) (bd p w) n
theorem zjx {p:Program}{w:World}:∀{n:Nat} {s s':SharedT} {t:Thread},go p w n s t=some s'->topRun treeTable p w 11 (some (.ref 6)) n s.abs t=some s'.abs
  |0,_,_,_,h=>by cases h
  |n + 1,s,s',t,h=>by
    rw[show go p w (n + 1) s t=bd p w n (go p w n) s t from rfl]at h;unfold bd at h;rw[zrR, <-Fast.te6613529449190102663]at h;unfold topRun
    cases ht:through t with
    |true=>rw[ht]at h;cases h;rfl
    |false=>
      rw[ht]at h
      cases hk:stepOk 11 (some (.ref 6)) t with
      |false=>rw[hk]at h;cases h
      |true=>
        rw[hk]at h
        cases hs:stepT (denote treeTable) p w s t with
        |none=>rw[hs]at h;cases h
        |some r=>
          obtain⟨s₂,t₂⟩:=r;rw[hs]at h;dsimp only at h ⊢;rw[stepT_spec hs];rw[zsB]at h;exact zjx (by revert h;cases Nat.beq (n % 64) 0<;>exact id)
def mkT:List Obj->Nat->BT->BT
 | [],_,t=>t
 |o::l,i,t=>mkT l (i + 1) (t.ins i o)
def bS (w:World)(o:OsState):SharedT:=⟨mkT (boot_heap w.params).objs.toList 0 .nil,11,{},⟨[]⟩,boot_drawn,boot_toks,o⟩
theorem zrO (w:World)(o:OsState):(bS w o).abs=⟨boot_heap w.params,⟨[]⟩,boot_drawn,boot_toks,o⟩:=by kernel_rfl
theorem ztw (P:Params):((boot_heap P).isNs mainGlobals && (Array.mk []:Array GenState).size==0,(boot_heap P).objs.size,(boot_heap P).nsMap mainGlobals "__annotations__")=(true,11,some (.ref 6)):=by kernel_rfl
def lst {α:Type}(T:BT)(n:Nat):List Obj->(List Obj->α)->α:=
 @Nat.rec (fun _=>List Obj->(List Obj->α)->α) (fun a k=>k a) (fun i ih a k=> @Option.rec Obj (fun _=>α) (ih (default::a) k) (fun o=> @Obj.rec (fun _=>α) (fun c d t l=>ih (⟨c,d,t,l⟩::a) k) o) (T.get i)) n
theorem zom {α:Type}(T:BT):∀(n:Nat) (a:List Obj) (k:List Obj->α),lst T n a k=k (T.list n ++ a)
  |0,_,_=>rfl
  |n + 1,a,k=>by
    rw[show T.list (n + 1)=T.list n ++ [(T.get n).getD default] by unfold BT.list;rw[List.range_succ,List.map_append];rfl,List.append_assoc];unfold lst;dsimp only;cases T.get n<;>exact zom T n _ k
def abq {α:Type}(s:SharedT)(k:Shared->α):α:= @SharedT.rec (fun _=>α) (fun T n l g d i o=>lst T n [] fun a=>k ⟨⟨⟨a⟩,l⟩,g,d,i,o⟩) s
theorem zoc {α:Type}(s:SharedT)(k:Shared->α):abq s k=k s.abs:=(zom _ _ _ _).trans (by rw[List.append_nil];rfl)
section
variable {p q:Program}{lo:List Str}{Xt:Shared->Bool}{α:Type}{Yf:Shared->α}{Ya:World->α}{N:Nat}{g0:Bool}{B C:Prop}
abbrev Pre (_:LeftO p q lo Xt Yf Ya N g0/\B->C):Prop:=(opening p=plainProg p.main.scope.names/\∀s,fenceModules? p s=some s)/\Nat.ble 600 N=true
abbrev See {β:Type}(p:Program)(N:Nat)(v:World->World)(f:World->Shared->β)(y:World->β):Prop:=∀w o,(go p (v w) N (bS (v w) o) (topStub p)).map (fun s=>abq s (f (v w)))=some (y (v w))
abbrev RunA (v:World->World)(_:LeftO p q lo Xt Yf Ya N g0/\B->C):Prop:=
 See p N v (fun w s=>(staticsOk (importedModules p.main.body) (boot_heap w.params) s.heap && namesBound p s.heap && gensDone s && laidKept (boot_heap w.params) s.heap,Yf s)) fun w=>(true,Ya w)
abbrev RunB (v:World->World)(_:LeftO p q lo Xt Yf Ya N g0/\B->C):Prop:=See p N v (fun _ s=>Fast.tw4187177175401517315 q lo (importedModules p.main.body) Xt g0 s) fun _=>openGood q lo
theorem left {v:World->World}{H:LeftO p q lo Xt Yf Ya N g0/\B->C}(e:Pre H)(a:RunA v H)(b:RunB v H)(w:World):
  (openEnds treeTable p (v w) N).map (fun s=>(openSeen q lo (importedModules p.main.body) Xt g0 s,Yf s))=some (openGood q lo,Ya (v w)):=by
 obtain⟨⟨h,gs,d,k,o⟩,e1,e2⟩:=Option.map_eq_some_iff.mp (boot_open e.1.1 e.2 e.1.2 (v w));obtain⟨rfl,rfl,rfl,rfl⟩:h=boot_heap (v w).params/\gs=⟨[]⟩/\d=boot_drawn/\k=boot_toks:=by simpa using e2
 obtain⟨s,hs,hv⟩:=Option.map_eq_some_iff.mp (a w o);have hb:=b w o;rw[hs,Option.map_some,zoc, <-Fast.te4187177175401517315]at hb;rw[zoc]at hv;obtain⟨l1,l3⟩:=Prod.mk.inj hv;obtain⟨z1,z2,z3⟩:_/\_/\_:=by simpa only[Prod.mk.injEq] using ztw (v w).params
 have hr:=zjx hs;rw[zrO]at hr;have t:topFrom treeTable p (v w) N ⟨boot_heap (v w).params,⟨[]⟩,boot_drawn,boot_toks,o⟩=some s.abs:=by
  unfold topFrom;dsimp only;rw[z1,z2,z3,hr];dsimp only[Option.bind_some];rw[l1]
 unfold openEnds;rw[e1,Option.bind_some,t];exact congrArg some (Prod.ext (Option.some.inj hb) l3)
theorem two (row:String){H:LeftO p q lo Xt Yf Ya N g0/\B->C}(e:Pre H)(a:RunA (·.withFollow row false) H)(b:RunB (·.withFollow row false) H)(c:RunA (·.withFollow row true) H)(d:RunB (·.withFollow row true) H)(hB:B):C:=
 H ⟨fun w=>by
  have x:=left e a b w;have y:=left e c d w;have z:=World.withFollow_self w row;cases h:w.params.followText row<;>rw[h]at z<;>simp only[z]at x y<;>assumption,hB⟩
end
end HQ
section
local macro_rules
  | `(tactic| refine $f:term $as:term*)=>do
    let mut bs:= #[]
    let mut hit:=false
    for a in as do
      if a.raw.isOfKind ``Lean.Parser.Term.syntheticHole && a.raw[1].getId== `hl then
        hit:=true
        bs:=bs.push (<- `((And.left ?hx)))
      else if a.raw.isOfKind ``Lean.Parser.Term.syntheticHole && a.raw[1].getId== `hc then
        bs:=bs.push (<- `((And.right ?hx)))
      else bs:=bs.push a
    if hit then `(tactic| refine $f $bs*) else Lean.Macro.throwUnsupported
set_option maxHeartbeats 0 in
open_top My.hdAll for PySem.Challenge.rw_rowdam_k14_works_read
theorem My.he:HQ.Pre My.hdAll:=⟨⟨by kernel_rfl,fun _=>by kernel_rfl⟩,by kernel_rfl⟩
theorem My.hBf:HQ.RunB (·.withFollow "special-get-raises" false) My.hdAll:=fun _ _=>by kernel_rfl
theorem My.hBt:HQ.RunB (·.withFollow "special-get-raises" true) My.hdAll:=fun _ _=>by kernel_rfl
theorem My.hAf:HQ.RunA (·.withFollow "special-get-raises" false) My.hdAll:=fun _ _=>by kernel_rfl
theorem My.hAt:HQ.RunA (·.withFollow "special-get-raises" true) My.hdAll:=fun _ _=>by kernel_rfl
end
namespace L2
open PySem PySem.Spec PyProof.Rows
abbrev Key:=Sum Int Str
def zld:Key->Value->Bool
 |.inl k,v=>Value.isInt k v
 |.inr x,v=>Value.isStrOf x v
def keyH (w:World):Key->Int
 |.inl k=>hashInt k
 |.inr x=>hashStr w x
theorem zbu:∀{k:Key} {v:Value},zld k v=true->(∃i t,k=Sum.inl i/\v=Value.int i t)\/(∃x t,k=Sum.inr x/\v=Value.str x t)
  |.inl i,v,h=>by
    obtain⟨t,e⟩:=Value.isInt_shape (k:=i) (v:=v) h;exact .inl ⟨i,t,rfl,e⟩
  |.inr x,v,h=>by
    obtain⟨t,e⟩:=Value.isStrOf_shape (x:=x) (v:=v) h;exact .inr ⟨x,t,rfl,e⟩
theorem zmt (i:Int)(t:Tok):zld (.inl i) (.int i t)=true:=by simp[zld,Value.isInt]
theorem zms (x:Str)(t:Tok):zld (.inr x) (.str x t)=true:=by simp[zld,Value.isStrOf]
theorem zsn (a b:Int):decide ((Sum.inl a:Key)=Sum.inl b)=(a==b):=by
 by_cases e:a=b
 ·subst e;simp
 ·have h:¬ (Sum.inl a:Key)=Sum.inl b:=fun q=>e (Sum.inl.inj q);rw[decide_eq_false h];exact(beq_eq_false_iff_ne.mpr e).symm
theorem zq5 (a b:Str):decide ((Sum.inr a:Key)=Sum.inr b)=decide (a=b):=by
 by_cases e:a=b
 ·subst e;simp
 ·have h:¬ (Sum.inr a:Key)=Sum.inr b:=fun q=>e (Sum.inr.inj q);rw[decide_eq_false h,decide_eq_false e]
theorem zr1 (a:Int)(b:Str):decide ((Sum.inl a:Key)=Sum.inr b)=false:=decide_eq_false (fun q=>nomatch q)
theorem zte (a:Str)(b:Int):decide ((Sum.inr a:Key)=Sum.inl b)=false:=decide_eq_false (fun q=>nomatch q)
def zbk (prog:Program)(w:World):PySem.KeyKind prog w Key where
 is:=zld
 hash:=keyH w
 inj:=fun v a b ha hb=>by
  rcases zbu ha with⟨i,t,rfl,rfl⟩ |⟨x,t,rfl,rfl⟩
  ·rcases zbu hb with⟨j,u,rfl,e⟩ |⟨y,u,rfl,e⟩
   ·injection e with e1 _;rw[e1]
   ·exact nomatch e
  ·rcases zbu hb with⟨j,u,rfl,e⟩ |⟨y,u,rfl,e⟩
   ·exact nomatch e
   ·injection e with e1 _;rw[e1]
 byValue:=fun k v h=>by
  rcases zbu h with⟨i,t,rfl,rfl⟩ |⟨x,t,rfl,rfl⟩<;>rfl
 pyHash:=fun hv h=>by
  rcases zbu hv with⟨i,t,rfl,rfl⟩ |⟨x,t,rfl,rfl⟩
  ·exact wpAny_pyHash_int h
  ·exact wpAny_pyHash_str h
 eqBool:=fun hu hv h=>by
  rcases zbu hu with⟨i,t,rfl,rfl⟩ |⟨x,t,rfl,rfl⟩
  ·rcases zbu hv with⟨j,u,rfl,rfl⟩ |⟨y,u,rfl,rfl⟩
   ·rw[zsn]at h;exact wpAny_eqBool_int h
   ·rw[zr1]at h;exact SeqAt.EqAt.int_str i t y u _ _ _ _ h
  ·rcases zbu hv with⟨j,u,rfl,rfl⟩ |⟨y,u,rfl,rfl⟩
   ·rw[zte]at h;exact SeqAt.EqAt.str_int x t j u _ _ _ _ h
   ·rw[zq5]at h;exact wpAny_eqBool_str h
 «strs» :=fun k x t v h=>by
  rcases zbu h with⟨i,u,rfl,e⟩ |⟨y,u,rfl,e⟩
  ·exact nomatch e
  ·injection e with e1 _
   subst e1;cases v<;>rfl
theorem zj1 (prog:Program)(w:World)(i:Int)(t:Tok):(zbk prog w).is (.inl i) (.int i t)=true:=zmt i t
theorem ze3 (prog:Program)(w:World)(x:Str)(t:Tok):(zbk prog w).is (.inr x) (.str x t)=true:=zms x t
inductive V where
 |non |bl (b:Bool) |int (i:Int) |str (x:Str) |byt (b:Array UInt8) |flt (b:UInt64) |ref (a:Addr) |ty (n:String)
 deriving DecidableEq
def RelV:V->Value->Prop
 |.non,u=>u=Value.none
 |.bl b,u=>u=Value.bool b
 |.int i,u=>∃t,u=Value.int i t
 |.str x,u=>∃t,u=Value.str x t
 |.byt b,u=>∃t,u=Value.bytes b t
 |.flt b,u=>∃t,u=Value.float b t
 |.ref a,u=>u=Value.ref a
 |.ty n,u=>u=Value.type n
abbrev Vals:List V->List Value->Prop:=Paired RelV
theorem Vals.length (r:Vals xs us):xs.length=us.length:=Paired.length r
theorem Vals.get:∀{xs:List V} {us:List Value} {i:Nat} {x:V},Vals xs us->xs[i]? =some x->∃u,us[i]? =some u/\RelV x u
  |_,_,_,_,.nil,e=>by simp at e
  |_,_,0,_,.cons r _,e=>by simp at e;subst e;exact⟨_,rfl,r⟩
  |_,_,i + 1,x,.cons _ t,e=>by
    obtain⟨u,h1,h2⟩:=Vals.get (i:=i) (x:=x) t (by simpa using e);exact⟨u,by simpa using h1,h2⟩
theorem Vals.set (r:RelV x u):∀{xs:List V} {us:List Value} (i:Nat),Vals xs us->Vals (xs.set i x) (us.set i u)
 |_,_,_,.nil=>.nil
 |_,_,0,.cons _ t=>.cons r t
 |_,_,i + 1,.cons q t=>.cons q (Vals.set r i t)
theorem Vals.append:∀{xs ys:List V} {us ws:List Value},Vals xs us->Vals ys ws->Vals (xs ++ ys) (us ++ ws)
 |_,_,_,_,.nil,s=>s
 |_,_,_,_,.cons r t,s=>.cons r (Vals.append t s)
theorem Vals.take:∀{xs:List V} {us:List Value} (n:Nat),Vals xs us->Vals (xs.take n) (us.take n)
 |_,_,0,_=>.nil
 |_,_,_ + 1,.nil=>.nil
 |_,_,n + 1,.cons r t=>.cons r (Vals.take n t)
theorem Vals.drop:∀{xs:List V} {us:List Value} (n:Nat),Vals xs us->Vals (xs.drop n) (us.drop n)
 |_,_,0,r=>r
 |_,_,_ + 1,.nil=>.nil
 |_,_,n + 1,.cons _ t=>Vals.drop n t
def RelO:Option V->Option Value->Prop
 |some v,some u=>RelV v u
 |none,none=>True
 |_,_=>False
def KV {κ:Type}:List (κ×V)->List (κ×Value)->Prop:=Paired fun(p:κ×V) (q:κ×Value)=>p.1=q.1/\RelV p.2 q.2
def kV:Key->V
 |.inl i=>.int i
 |.inr x=>.str x
inductive HO where
  |lst (xs:List V)
  |tup (xs:List V)
  |dK (kvs:List (Key×V)) |dT (kvs:List (List Key×V))
  |set (S:Int->Bool) (n:Nat)
  |ins (C dx:Addr) (fs:List (Str×V))
  |own (x:Addr)
  |xd (fs:List (Str×V))
  |met (f x:Addr)
  |rng (lo hi:Int)
  |frz (o:Obj) (u:HO)
  |tbl (ps:Array Value)
  |ext (φ:Heap->Prop)
abbrev Hp:=Addr->Option HO
def upd (H:Hp)(a:Addr)(o:HO):Hp:=fun b=>if b=a then some o else H b
theorem zar:upd H a o a=some o:=by unfold upd;rw[if_pos rfl]
theorem zak (h:b≠a):upd H a o b=H b:=by unfold upd;rw[if_neg h]
theorem zpN:upd (upd H a o) a u=upd H a u:=by
 funext b;unfold upd;split<;>rfl
theorem zwc {H:Hp}{a b:Addr}{o u:HO}(h:H a=some o)(h':H b=some u)(d:o≠u):a≠b:=by
 intro e;subst e;rw[h]at h';exact d (Option.some.inj h')
theorem zap {H:Hp}{a b:Addr}{o:HO}(h:H a=some o)(h':H b=none):a≠b:=by
 intro e;subst e;rw[h]at h';cases h'
section
variable (P:Program)(w:World)
def zbC (H:Hp)(h:Heap)(a:Addr):HO->Prop
 |.lst xs=>xs.length<=sizeLine/\∃(its:List Value) (n:Nat),Vals xs its/\h.get? a=some {cls:=.type "list",data:=.seq its.toArray n}
 |.tup xs=>xs.length<=sizeLine/\∃its:List Value,Vals xs its/\IsTup h a its.toArray
 |.dK kvs=>kvs.length<=sizeLine/\(a==sysModules)=false/\∃vs,KV kvs vs/\h.DictOf (zbk P w) a vs
 |.dT kvs=>kvs.length<=sizeLine/\(a==sysModules)=false/\∃xs:List (List Key×Addr×Value),
   Paired (fun(p:List Key×V) (q:List Key×Addr×Value)=>p.1=q.1/\H q.2.1=some (.tup (p.1.map kV))/\RelV p.2 q.2.2) kvs xs/\
   ∃o es ep,h.get? a=some o/\o.ExactDict/\o.data=.dict es ep/\es.toList=xs.map (entryOfKey (tupleKind (zbk P w)))/\(xs.map (·.1)).Nodup
 |.set S n=>h.SetOf (intKind P w) a S n
 |.ins C dx fs=>H dx=some (.own a)/\fs.length<=1000/\dx≠a/\h.get? a=some (PySem.W.instObj C dx)/\
   ∃mA,h.Ns1 dx mA/\(∀f,RelO (fs.lookup f) (mA f))/\PySem.Within mA (fs.map (·.1))
 |.own _=>∃o,h.get? a=some o
 |.xd fs=>∃mA,h.Ns1 a mA/\∀f,RelO (fs.lookup f) (mA f)
 |.rng lo hi=>∃t u v,h.get? a=some {cls:=.type "range",data:=.fields #[.int lo t,.int hi u,.int 1 v]}
 |.frz o u=>h.get? a=some o/\zbC H h a u
 |.tbl ps=>h.get? a=some {cls:=.none,data:=.fields ps}
 |.met f x=>h.get? a=some (PySem.W.methodObj (.ref f) (.ref x))
 |.ext φ=>φ h/\(∃o,h.get? a=some o)/\∀h1 h2:Heap,φ h1->(∀o,h1.get? a=some o->h2.get? a=some o)->φ h2
def HOk (H:Hp)(h:Heap):Prop:=∀a o,H a=some o->zbC P w H h a o
end
section
variable {P:Program}{w:World}{H H':Hp}{h h':Heap}{a:Addr}{o:HO}
theorem zbC.lt (x:zbC P w H h a o):a<h.objs.size:=by
 cases o with
 |lst xs=>obtain⟨_,_,_,_,e⟩:=x;exact Heap.lt_size e
 |tup xs=>obtain⟨_,_,_,p⟩:=x;exact p.lt
 |dK kvs=>obtain⟨_,_,_,_,o,_,_,e,_⟩:=x;exact Heap.lt_size e
 |dT kvs=>obtain⟨_,_,_,_,o,_,_,e,_⟩:=x;exact Heap.lt_size e
 |set S n=>obtain⟨o,_,_,_,e,_⟩:=x;exact Heap.lt_size e
 |ins C dx fs=>obtain⟨_,_,_,e,_⟩:=x;exact Heap.lt_size e
 |own y=>obtain⟨_,e⟩:=x;exact Heap.lt_size e
 |xd fs=>obtain⟨_,⟨_,_,_,e,_⟩,_⟩:=x;exact Heap.lt_size e
 |rng lo hi=>obtain⟨_,_,_,e⟩:=x;exact Heap.lt_size e
 |frz ob u=>obtain⟨e,_⟩:=x;exact Heap.lt_size e
 |tbl ps=>exact Heap.lt_size (show h.get? a=some _ from x)
 |met f y=>exact Heap.lt_size (show h.get? a=some _ from x)
 |ext φ=>obtain⟨_,⟨_,e⟩,_⟩:=x;exact Heap.lt_size e
theorem Paired.mapP:∀{l₁:List α} {l₂:List β},Paired F l₁ l₂->(∀a b,F a b->G a b)->Paired G l₁ l₂
 |_,_,.nil,_=>.nil
 |_,_,.cons r t,f=>.cons (f _ _ r) (Paired.mapP t f)
theorem zbC.stay (x:zbC P w H h a o)(k:∀b u,(b=a\/H b=some (.own a))->h.get? b=some u->h'.get? b=some u)
    (ho:∀b,H b=some (.own a)->H' b=some (.own a)) (ht:∀b xs,H b=some (.tup xs)->H' b=some (.tup xs)):zbC P w H' h' a o:=by
  induction o with
  |lst xs=>obtain⟨z,its,n,r,e⟩:=x;exact⟨z,its,n,r,k _ _ (.inl rfl) e⟩
  |tup xs=>obtain⟨z,its,r,ob,e,c⟩:=x;exact⟨z,its,r,ob,k _ _ (.inl rfl) e,c⟩
  |dK kvs=>obtain⟨z,y,vs,r,ob,es,ep,e,c⟩:=x;exact⟨z,y,vs,r,ob,es,ep,k _ _ (.inl rfl) e,c⟩
  |dT kvs=>
    obtain⟨z,y,xs,r,ob,es,ep,e,c⟩:=x;exact⟨z,y,xs,Paired.mapP r fun p q z=>⟨z.1,ht _ _ z.2.1,z.2.2⟩,ob,es,ep,k _ _ (.inl rfl) e,c⟩
  |set S n=>obtain⟨ob,es,ep,t,e,c⟩:=x;exact⟨ob,es,ep,t,k _ _ (.inl rfl) e,c⟩
  |ins C dx fs=>
    obtain⟨d,z,ne,e,mA,⟨od,es,ep,e2,c⟩,r⟩:=x;exact⟨ho _ d,z,ne,k _ _ (.inl rfl) e,mA,⟨od,es,ep,k _ _ (.inr d) e2,c⟩,r⟩
  |own y=>obtain⟨ob,e⟩:=x;exact⟨ob,k _ _ (.inl rfl) e⟩
  |xd fs=>obtain⟨mA,⟨od,es,ep,e,c⟩,r⟩:=x;exact⟨mA,⟨od,es,ep,k _ _ (.inl rfl) e,c⟩,r⟩
  |rng lo hi=>obtain⟨t,u,v,e⟩:=x;exact⟨t,u,v,k _ _ (.inl rfl) e⟩
  |frz ob u ih=>obtain⟨e,q⟩:=x;exact⟨k _ _ (.inl rfl) e,ih q⟩
  |tbl ps=>
    have e:h.get? a=some {cls:=.none,data:=.fields ps}:=x;show h'.get? a=some {cls:=.none,data:=.fields ps};exact k a _ (.inl rfl) e
  |met f y=>
    have e:h.get? a=some (PySem.W.methodObj (.ref f) (.ref y)):=x;show h'.get? a=some (PySem.W.methodObj (.ref f) (.ref y));exact k a _ (.inl rfl) e
  |ext φ=>obtain⟨p,⟨o,e⟩,st⟩:=x;exact⟨st _ _ p fun o q=>k _ _ (.inl rfl) q,⟨o,k _ _ (.inl rfl) e⟩,st⟩
theorem HOk.lt (x:HOk P w H h)(e:H a=some o):a<h.objs.size:=(x a o e).lt
theorem HOk.fresh (x:HOk P w H h)(e:h.objs.size<=a):H a=none:=by
 cases q:H a with
 |none=>rfl
 |some u=>exact absurd (Nat.lt_of_lt_of_le (x.lt q) e) (Nat.lt_irrefl _)
theorem HOk.kept (x:HOk P w H h)(k:∀b u,h.get? b=some u->h'.get? b=some u):HOk P w H h':=fun a o e=>
 (x a o e).stay (fun b u _ q=>k b u q) (fun _ q=>q) fun _ _ q=>q
theorem HOk.laid (x:HOk P w H h)(k:∀b u,h.get? b=some u->h'.get? b=some u)(hp:h.objs.size<=a)(new:zbC P w (upd H a o) h' a o):HOk P w (upd H a o) h':=fun b u e=>by
 have hn:=x.fresh hp
 by_cases hb:b=a
 ·subst hb;rw[zar]at e;cases e;exact new
 ·rw[zak hb]at e;exact(x b u e).stay (fun c v _ q=>k c v q) (fun c q=>by rw[zak (zap q hn)];exact q) fun c xs q=>by rw[zak (zap q hn)];exact q
end
def Rd (H:Hp)(a:Addr)(u:HO):Prop:=H a=some u\/∃o,H a=some (.frz o u)
theorem Rd.ok (r:Rd H a u)(x:HOk P w H h):zbC P w H h a u:=by
 rcases r with r |⟨o,r⟩
 ·exact x a u r
 ·obtain⟨_,q⟩:=x a _ r;exact q
def Mut:Option HO->Prop
 |some (.lst _)=>True
 |some (.dK _)=>True
 |some (.dT _)=>True
 |some (.set _ _)=>True
 |some (.ins _ _ _)=>True
 |some (.ext _)=>True
 |_=>False
section
variable {P:Program}{w:World}{H:Hp}{h h':Heap}{x e:Addr}{o':HO}
theorem HOk.write (ok:HOk P w H h)(mu:Mut (H x))(he:e=x\/H e=some (.own x))(k:∀b u,b≠e->h.get? b=some u->h'.get? b=some u)(heo:∃u,h'.get? e=some u)
  (new:zbC P w (upd H x o') h' x o'):HOk P w (upd H x o') h':=fun b u q=>by
 have nown:∀c y,H c=some (.own y)->c≠x:=fun c y r z=>by subst z;rw[r]at mu;exact mu
 have ntup:∀c xs,H c=some (.tup xs)->c≠x:=fun c xs r z=>by subst z;rw[r]at mu;exact mu
 by_cases hb:b=x
 ·subst hb;rw[zar]at q;cases q;exact new
 ·rw[zak hb]at q
  by_cases hbe:b=e
  ·have q':H b=some (.own x):=by
    rcases he with z |z
    ·exact absurd (hbe.trans z) hb
    ·rw[hbe];exact z
   rw[q]at q';cases q';obtain⟨v,hv⟩:=heo;exact⟨v,by rw[hbe];exact hv⟩
  ·refine(ok b u q).stay (fun c v hc r=>k c v ?_ r) (fun c r=>by rw[zak (nown c b r)];exact r) fun c xs r=>by rw[zak (ntup c xs r)];exact r
   rcases hc with rfl |hc
   ·exact hbe
   ·rintro rfl;rcases he with z |z
    ·exact nown c b hc z
    ·rw[hc]at z;cases z;exact hb rfl
end
structure Un (fs ex:List Addr)(H H':Hp)(h h':Heap):Prop where
 keep:∀b o,h.get? b=some o->H b=none->b∉fs->b∉ex->h'.get? b=some o
 slot:∀b o,h.get? b=some o->H b=none->b∈fs->b∉ex->∃sl,h'.get? b=some {o with slots:=sl}
 free:∀b o,h.get? b=some o->H b=none->b∉ex->H' b=none
 there:∀b o,h.get? b=some o->b∉ex->∃o',h'.get? b=some o'
 tups:∀b xs,H b=some (.tup xs)->H' b=some (.tup xs)
 frzs:∀b o u,H b=some (.frz o u)->H' b=some (.frz o u)
 tbls:∀b ps,H b=some (.tbl ps)->∃more,H' b=some (.tbl (ps ++ more))
section
variable {fs fs' ex ex':List Addr}{H H1 H2:Hp}{h h1 h2 h':Heap}{a x e:Addr}{o:HO}
theorem Un.any (u:Un fs ex H H1 h h1)(q:h.get? b=some ob)(n:H b=none)(hx:b∉ex):∃sl,h1.get? b=some {ob with slots:=sl}:=by
 by_cases hb:b∈fs
 ·exact u.slot b ob q n hb hx
 ·exact⟨ob.slots,u.keep b ob q n hb hx⟩
theorem Un.trans (a:Un fs ex H H1 h h1)(b:Un fs ex H1 H2 h1 h2):Un fs ex H H2 h h2 where
 keep:=fun c ob q n hc hx=>b.keep c ob (a.keep c ob q n hc hx) (a.free c ob q n hx) hc hx
 slot:=fun c ob q n hc hx=>by
  obtain⟨sl,e1⟩:=a.slot c ob q n hc hx;obtain⟨sl',e2⟩:=b.slot c _ e1 (a.free c ob q n hx) hc hx;exact⟨sl',e2⟩
 free:=fun c ob q n hx=>by
  obtain⟨o',e1⟩:=a.there c ob q hx;exact b.free c o' e1 (a.free c ob q n hx) hx
 there:=fun c ob q hx=>by
  obtain⟨o',e1⟩:=a.there c ob q hx;exact b.there c o' e1 hx
 tups:=fun c xs q=>b.tups c xs (a.tups c xs q)
 frzs:=fun c ob xs q=>b.frzs c ob xs (a.frzs c ob xs q)
 tbls:=fun c ps q=>by
  obtain⟨m1,e1⟩:=a.tbls c ps q;obtain⟨m2,e2⟩:=b.tbls c _ e1;exact⟨m1 ++ m2,by rw[e2,Array.append_assoc]⟩
theorem Un.kept (k:∀b u,h.get? b=some u->h'.get? b=some u):Un fs ex H H h h':=
 ⟨fun b ob q _ _ _=>k b ob q,fun b ob q _ _ _=>⟨ob.slots,k b ob q⟩,fun _ _ _ n _=>n,fun b ob q _=>⟨ob,k b ob q⟩,fun _ _ q=>q,fun _ _ _ q=>q,fun _ ps q=>⟨#[],by rw[q];simp⟩⟩
theorem Un.refl:Un fs ex H H h h:=Un.kept fun _ _ q=>q
theorem Un.laid (k:∀b u,h.get? b=some u->h'.get? b=some u)(hp:h.objs.size<=a)(hn:H a=none):Un fs ex H (upd H a o) h h' where
 keep:=fun b u q _ _ _=>k b u q
 slot:=fun b u q _ _ _=>⟨u.slots,k b u q⟩
 free:=fun b u q n _=>by rw[zak (Nat.ne_of_lt (Nat.lt_of_lt_of_le (Heap.lt_size q) hp))];exact n
 there:=fun b u q _=>⟨u,k b u q⟩
 tups:=fun b xs q=>by rw[zak (zap q hn)];exact q
 frzs:=fun b u xs q=>by rw[zak (zap q hn)];exact q
 tbls:=fun b ps q=>⟨#[],by rw[zak (zap q hn),q];simp⟩
theorem Un.write (mu:Mut (H x))(he:e=x\/H e=some (.own x))(k:∀b u,b≠e->h.get? b=some u->h'.get? b=some u)(heo:∃u,h'.get? e=some u):Un fs ex H (upd H x o) h h':=by
 have hx:∀b,H b=none->b≠x:=fun b n z=>by subst z;rw[n]at mu;exact mu
 have hb:∀b,H b=none->b≠e:=fun b n z=>by
  subst z;rcases he with r |r
  ·exact hx b n r
  ·rw[n]at r;cases r
 have hm:∀b u,H b=some u->¬ Mut (some u)->b≠x:=fun b u q nm z=>by subst z;rw[q]at mu;exact nm mu
 refine ⟨fun b u q n _ _=>k b u (hb b n) q,fun b u q n _ _=>⟨u.slots,k b u (hb b n) q⟩,fun b u q n _=>by rw[zak (hx b n)];exact n,fun b u q _=>?_,
  fun b xs q=>by rw[zak (hm b _ q fun z=>z)];exact q,fun b u xs q=>by rw[zak (hm b _ q fun z=>z)];exact q,fun b ps q=>⟨#[],by rw[zak (hm b _ q fun z=>z),q];simp⟩⟩
 by_cases hbe:b=e
 ·subst hbe;exact heo
 ·exact⟨u,k b u hbe q⟩
theorem Un.mono (u:Un fs ex H H1 h h1)(hs:∀b∈fs,b∈fs')(hx:∀b∈ex,b∈ex'):Un fs' ex' H H1 h h1:=
 ⟨fun b ob q n hb he=>u.keep b ob q n (fun z=>hb (hs b z)) fun z=>he (hx b z),fun _ _ q n _ he=>u.any q n fun z=>he (hx _ z),fun b ob q n he=>u.free b ob q n fun z=>he (hx b z),fun b ob q he=>u.there b ob q fun z=>he (hx b z),u.tups,u.frzs,u.tbls⟩
end
def trk (h:Heap)(H:Hp):List Addr:=(List.range h.objs.size).filter fun a=>(H a).isSome
def hidT (h:Heap)(H:Hp):Heap:=PySem.W.hideAll h (trk h H)
theorem zlH (h:Heap)(H:Hp):(hidT h H).objs.size=h.objs.size:=PySem.W.hideAll_size _ _
theorem znY (e:h.get? b=some o)(n:H b=none):(hidT h H).get? b=some o:=
 PySem.W.hideAll_get _ e fun hm=>by
  have q:(H b).isSome=true:=(List.mem_filter.mp hm).2;rw[n]at q;simp at q
theorem zqw (e:(hidT h H).get? b=some o):h.get? b=some o/\H b=none:=by
  have e':h.get? b=some o:=PySem.W.of_hideAll (trk h H) e;refine⟨e',?_⟩
  cases q:H b with
  |none=>rfl
  |some x=>
    have hm:b∈trk h H:=List.mem_filter.mpr ⟨List.mem_range.mpr (Heap.lt_size e'),by simp[q]⟩;have z:(hidT h H).get? b=none:=PySem.W.hideAll_none (trk h H) hm;rw[z]at e;cases e
structure Mod (K:Fgx)(mg:Mgx)(base:Heap):Prop where
 kin:K.In base
 glob:base.Ns mainGlobals mg
 blt:∃mb,base.Ns builtinsNs mb/\∀x:Str,x≠"__name__"->mb x=bootBuiltins x
 nolimit:base.NoLimit
structure Cx where
 prog:Program
 w:World
 K:Fgx
 mg:Mgx
 base:Heap
 A:Around
 N:List Str
 s₀:Shared
 H₀:Hp
 env:Env
 outer:List Env
 stack:List Env
 ex:List Addr
 fn:Str->Bool
 calm:Bool
 pn:Pnx
 xe:Value->Shared->Prop
def frs (l:List Env):List Addr:=l.filterMap (·.frame)
abbrev Cx.fs (X:Cx):List Addr:=frs X.outer
def Vis (sc:Scope)(x:Str):Prop:=sc.names.lookup x=some .local\/sc.names.lookup x=some .cell\/sc.names.lookup x=some .free
def Loc (sc:Scope)(x:Str):Prop:=sc.names.lookup x=some .local\/sc.names.lookup x=some .cell
def Look (env:Env)(h:Heap)(m:Mgx)(x:Str)(u:Value):Prop:=
 (env.kindOf x=some .local/\m x=some u)\/((env.kindOf x=some .cell\/env.kindOf x=some .free)/\∃c,env.cells.lookup x=some c/\h.IsCell c (some u))
structure Cx.Ok (X:Cx):Prop where
 mod:Mod X.K X.mg X.base
 kind:X.env.scope.kind=.function
 glob:X.env.globals=mainGlobals
 blt:X.env.builtins=builtinsNs
 above:X.s₀.heap.objs.size<=X.env.locals
 inj:∀x y c,X.env.cells.lookup x=some c->X.env.cells.lookup y=some c->x=y
 has:∀x,(X.env.kindOf x=some .cell\/X.env.kindOf x=some .free)->∃c,X.env.cells.lookup x=some c
 cab:∀x c,X.fn x=true->X.env.cells.lookup x=some c->X.s₀.heap.objs.size<=c
 hd:X.calm=true->X.A.handled=none
 frames:X.A.frames=some X.stack
 stk:X.stack=X.outer\/(X.stack=X.env::X.outer/\X.env.frame=some X.env.locals)
 exf:∀b∈X.ex,b≠X.env.locals/\∀x c,X.env.cells.lookup x=some c->c≠b
 bs:∀b o,X.base.get? b=some o->X.s₀.heap.get? b=some o/\X.H₀ b=none
 bsz:X.base.objs.size<=X.s₀.heap.objs.size
 noex:∀b o,X.base.get? b=some o->b∉X.ex
 exfs:∀b∈X.ex,b∉X.fs
 funs:X.s₀.heap.FunFrames X.base X.outer
 frf:∀b∈X.fs,X.H₀ b=none
structure Inv (X:Cx)(pins:Pnx)(σ:List (Option V))(H:Hp)(s:Shared):Prop where
 ok:X.Ok
 os:s.os=X.s₀.os
 bare:AllBare s.gens
 base:Un X.fs X.ex X.H₀ H X.s₀.heap s.heap
 loc:∃m,s.heap.Ns X.env.locals m/\∀(i:Nat) (x:Str) (v:V),X.N[i]? =some x->σ[i]? =some (some v)->Vis X.env.scope x->∃u,RelV v u/\Look X.env s.heap m x u
 cell:∀x c,X.env.cells.lookup x=some c->∃v,s.heap.IsCell c v
 free:H X.env.locals=none
 freeC:∀x c,X.env.cells.lookup x=some c->H c=none
 pin:∀p∈X.pn ++ pins,s.heap.get? p.1=some p.2/\H p.1=none/\p.1≠X.env.locals/\p.1∉X.fs/\∀v,p.2.data≠ .cell v
 hok:HOk X.prog X.w H s.heap
 len:σ.length=X.N.length
section
variable {X:Cx}{pins:Pnx}{σ:List (Option V)}{H H':Hp}{s:Shared}{h':Heap}
theorem Cx.Ok.nofr (ok:X.Ok)(e:X.base.get? b=some o):b∉X.fs:=fun hb=>by
 have:=(ok.funs.mem hb).1;rw[e]at this;cases this
theorem Inv.bs (I:Inv X pins σ H s):∀b o,X.base.get? b=some o->s.heap.get? b=some o/\H b=none:=fun b o e=>
 ⟨I.base.keep b o (I.ok.bs b o e).1 (I.ok.bs b o e).2 (I.ok.nofr e) (I.ok.noex b o e),I.base.free b o (I.ok.bs b o e).1 (I.ok.bs b o e).2 (I.ok.noex b o e)⟩
theorem Inv.bk (I:Inv X pins σ H s):∀b o,X.base.get? b=some o->s.heap.get? b=some o:=fun b o e=>(I.bs b o e).1
theorem Inv.mod (I:Inv X pins σ H s):Mod X.K X.mg X.base:=I.ok.mod
theorem Inv.kIn (I:Inv X pins σ H s):X.K.In s.heap:=I.ok.mod.kin.keeps I.bk
theorem Inv.fr (I:Inv X pins σ H s):∃m,Fr X.base X.env.locals s.heap m:=
 let ⟨m,hn,_⟩:=I.loc
 ⟨m,hn,I.bk,Nat.le_trans I.ok.bsz I.ok.above⟩
theorem Inv.lt (I:Inv X pins σ H s):X.env.locals<s.heap.objs.size:=let ⟨_,hn,_⟩:=I.loc;hn.lt
theorem Inv.sz (I:Inv X pins σ H s):X.s₀.heap.objs.size<=s.heap.objs.size:=Nat.le_trans I.ok.above (Nat.le_of_lt I.lt)
theorem Inv.nofs (I:Inv X pins σ H s)(h:s.heap.objs.size<=a):a∉X.fs:=fun hb=>by
 obtain⟨_,o,ho,_⟩:=I.ok.funs.mem hb;exact absurd (Nat.lt_of_lt_of_le (Heap.lt_size ho) (Nat.le_trans I.sz h)) (Nat.lt_irrefl _)
theorem Inv.cne (I:Inv X pins σ H s):∀x c,X.env.cells.lookup x=some c->c≠X.env.locals:=fun x c e z=>by
 obtain⟨v,o,ho,hd⟩:=I.cell x c e;obtain⟨m,⟨o',es,ep,ho',hd',_⟩,_⟩:=I.loc;rw[z,ho']at ho;cases ho;rw[hd']at hd;cases hd
theorem Inv.funs (I:Inv X pins σ H s):s.heap.FunFrames X.base X.outer:=by
  have all:∀(l:List Env),(∀b∈frs l,b∈X.fs)->X.s₀.heap.FunFrames X.base l->s.heap.FunFrames X.base l:=by
    intro l
    induction l with
    |nil=>intro _ _;trivial
    |cons env r ih=>
      intro hs hl;obtain⟨hk,⟨L,o,hf,hn,ho,hd⟩,hr⟩:=hl;have hL:L∈X.fs:=hs L (by unfold frs;rw[List.filterMap_cons,hf];exact List.mem_cons_self);obtain⟨sl,e⟩:=I.base.slot L o ho (I.ok.frf L hL) hL fun z=>I.ok.exfs L z hL;exact⟨hk,⟨L,_,hf,hn,e,hd⟩,ih (fun b hb=>hs b (by unfold frs;rw[List.filterMap_cons,hf];exact List.mem_cons_of_mem _ hb)) hr⟩
  exact all X.outer (fun _ hb=>hb) I.ok.funs
theorem Inv.stack (I:Inv X pins σ H s):s.heap.FunFrames X.base X.stack:=by
 rcases I.ok.stk with e |⟨e,hf⟩
 ·rw[e];exact I.funs
 ·rw[e];obtain⟨m,hn,_⟩:=I.loc;refine .cons (by rw[I.ok.kind];decide) hf hn ?_ I.funs;exact Heap.get?_none_of_le (Nat.le_trans I.ok.bsz I.ok.above)
theorem Inv.stkSub (I:Inv X pins σ H s):∀b∈frs X.stack,b∈X.env.locals::X.fs:=fun b hb=>by
 rcases I.ok.stk with e |⟨e,hf⟩
 ·rw[e]at hb;exact List.mem_cons_of_mem _ hb
 ·rw[e]at hb;unfold frs at hb;rw[List.filterMap_cons,hf]at hb;exact hb
theorem Inv.stkFree (I:Inv X pins σ H s):∀b∈frs X.stack,H b=none:=fun b hb=>by
 rcases List.mem_cons.mp (I.stkSub b hb) with e |hb
 ·rw[e];exact I.free
 ·obtain⟨_,o,ho,_⟩:=I.ok.funs.mem hb;exact I.base.free b o ho (I.ok.frf b hb) fun z=>I.ok.exfs b z hb
theorem Inv.step {g':Array GenState}{t':Nat}{d':Drawn}{ch:List Addr}(I:Inv X pins σ H s)
  (hch:∀b∈ch,(b∈X.ex\/X.s₀.heap.objs.size<=b)/\b≠X.env.locals/\(∀x c,X.env.cells.lookup x=some c->c≠b)/\∀p∈X.pn ++ pins,p.1≠b)
  (keep:∀b o,b≠X.env.locals->b∉X.fs->b∉ch->s.heap.get? b=some o->H b=none->h'.get? b=some o)
  (slot:∀b o,b≠X.env.locals->b∈X.fs->b∉ch->s.heap.get? b=some o->H b=none->∃sl,h'.get? b=some {o with slots:=sl}) (free:∀b o,b∉ch->s.heap.get? b=some o->H b=none->H' b=none)
  (there:∀b o,b∉ch->s.heap.get? b=some o->∃o',h'.get? b=some o')
  (tups:∀b xs,H b=some (.tup xs)->H' b=some (.tup xs)) (frzs:∀b o u,H b=some (.frz o u)->H' b=some (.frz o u)) (tbls:∀b ps,H b=some (.tbl ps)->∃more,H' b=some (.tbl (ps ++ more)))
  (ns:∀m,s.heap.Ns X.env.locals m->h'.Ns X.env.locals m) (hok:HOk X.prog X.w H' h') (hg:AllBare g'):
  Inv X pins σ H' {s with heap:=h',gens:=g',drawn:=d',toks:=t'}:=by
 have neL:∀b o,X.s₀.heap.get? b=some o->b≠X.env.locals:=fun b o e=>Nat.ne_of_lt (Nat.lt_of_lt_of_le (Heap.lt_size e) I.ok.above);have neC:∀b o,X.s₀.heap.get? b=some o->b∉X.ex->b∉ch:=fun b o e hx hb=>by
  rcases(hch b hb).1 with z |z
  ·exact hx z
  ·exact absurd (Nat.lt_of_lt_of_le (Heap.lt_size e) z) (Nat.lt_irrefl _)
 have cellK:∀x c,X.env.cells.lookup x=some c->∀v,s.heap.IsCell c v->h'.IsCell c v:=fun x c e v ⟨o,ho,hd⟩=>by
  have nch:c∉ch:=fun z=>(hch c z).2.2.1 x c e rfl
  by_cases hc:c∈X.fs
  ·obtain⟨sl,q⟩:=slot c o (I.cne x c e) hc nch ho (I.freeC x c e);exact⟨_,q,hd⟩
  ·exact⟨o,keep c o (I.cne x c e) hc nch ho (I.freeC x c e),hd⟩
 refine⟨I.ok,I.os,hg,⟨fun b o e n hb hx=>?_,fun b o e n hb hx=>?_,fun b o e n hx=>?_,fun b o e hx=>?_,fun b xs e=>tups b xs (I.base.tups b xs e),fun b o xs e=>frzs b o xs (I.base.frzs b o xs e),fun b ps e=>?_⟩,?_,fun x c e=>?_,?_,fun x c e=>?_,fun p hp=>?_,hok,I.len⟩
 ·exact keep b o (neL b o e) hb (neC b o e hx) (I.base.keep b o e n hb hx) (I.base.free b o e n hx)
 ·obtain⟨sl,e1⟩:=I.base.slot b o e n hb hx;obtain⟨sl',e2⟩:=slot b _ (neL b o e) hb (neC b o e hx) e1 (I.base.free b o e n hx);exact⟨sl',e2⟩
 ·obtain⟨o',e1⟩:=I.base.there b o e hx;exact free b o' (neC b o e hx) e1 (I.base.free b o e n hx)
 ·obtain⟨o',e1⟩:=I.base.there b o e hx;exact there b o' (neC b o e hx) e1
 ·obtain⟨m1,e1⟩:=I.base.tbls b ps e;obtain⟨m2,e2⟩:=tbls b _ e1;exact⟨m1 ++ m2,by rw[e2,Array.append_assoc]⟩
 ·obtain⟨m,hn,hl⟩:=I.loc;refine⟨m,ns m hn,fun i x v e1 e2 e3=>?_⟩;obtain⟨u,r,l⟩:=hl i x v e1 e2 e3;refine⟨u,r,?_⟩;rcases l with l |⟨k,c,e,z⟩
  ·exact .inl l
  ·exact .inr ⟨k,c,e,cellK x c e _ z⟩
 ·obtain⟨v,z⟩:=I.cell x c e;exact⟨v,cellK x c e v z⟩
 ·obtain⟨m,⟨o,_,_,ho,_⟩,_⟩:=I.loc;exact free _ o (fun z=>(hch _ z).2.1 rfl) ho I.free
 ·obtain⟨v,o,ho,hd⟩:=I.cell x c e;exact free c o (fun z=>(hch c z).2.2.1 x c e rfl) ho (I.freeC x c e)
 ·obtain⟨e,n,ne,nf,d⟩:=I.pin p hp;have nch:p.1∉ch:=fun z=>(hch p.1 z).2.2.2 p hp rfl;exact⟨keep p.1 p.2 ne nf nch e n,free p.1 p.2 nch e n,ne,nf,d⟩
theorem Inv.un {t':Nat}(I:Inv X pins σ H s)(u:Un X.fs [] H H' s.heap h')(hok:HOk X.prog X.w H' h'):Inv X pins σ H' {s with heap:=h',toks:=t'}:=by
 obtain ⟨m, ⟨o, es, ep, ho, r⟩, _⟩ := id I.loc;obtain ⟨sl, hL⟩ := u.any ho I.free (by simp);exact I.step (g' := s.gens) (d' := s.drawn) (ch := []) (fun _ z => nomatch z) (fun b o _ hb _ e n => u.keep b o e n hb (by simp)) (fun b o _ hb _ e n => u.slot b o e n hb (by simp)) (fun b o _ e n => u.free b o e n (by simp)) (fun b o _ e => u.there b o e (by simp)) u.tups u.frzs u.tbls (fun m' hm=>by
  obtain⟨o',es',ep',ho',r'⟩:=hm;rw[ho]at ho';cases ho';exact⟨_,es',ep',hL,r'⟩) hok I.bare
theorem Inv.call {g':Array GenState}{t':Nat}{d':Drawn}{ch:List Addr}(I:Inv X pins σ H s)(u:Un (frs X.stack) ch H H' s.heap h')(hok:HOk X.prog X.w H' h')(hg:AllBare g')
  (hch:∀b∈ch,(b∈X.ex\/X.s₀.heap.objs.size<=b)/\b≠X.env.locals/\(∀x c,X.env.cells.lookup x=some c->c≠b)/\∀p∈X.pn ++ pins,p.1≠b):
  Inv X pins σ H' {s with heap:=h',gens:=g',drawn:=d',toks:=t'}:=by
 obtain ⟨m, ⟨o, es, ep, ho, r⟩, _⟩ := id I.loc;obtain ⟨sl, hL⟩ := u.any ho I.free fun z => (hch _ z).2.1 rfl;exact I.step (ch := ch) hch (fun b o hL hb hc e n => u.keep b o e n (fun z => (List.mem_cons.mp (I.stkSub b z)).elim hL hb) hc) (fun b o _ _ hc e n => u.any e n hc) (fun b o hc e n => u.free b o e n hc) (fun b o hc e => u.there b o e hc) u.tups u.frzs u.tbls (fun m' hm=>by
  obtain⟨o',es',ep',ho',r'⟩:=hm;rw[ho]at ho';cases ho';exact⟨_,es',ep',hL,r'⟩) hok hg
theorem Inv.turned {t':Nat}{it:Addr}(I:Inv X pins σ H s)(k:∀b o,b≠it->s.heap.get? b=some o->h'.get? b=some o)(hn:H it=none)(hL:it≠X.env.locals)
  (h1:it∈X.ex\/X.s₀.heap.objs.size<=it) (h2:∀x c,X.env.cells.lookup x=some c->c≠it) (h3:∀p∈X.pn ++ pins,p.1≠it):Inv X pins σ H {s with heap:=h',toks:=t'}:=by
 have nit:∀b u,H b=some u->b≠it:=fun b u e z=>by rw[z,hn]at e;cases e
 refine I.step (g':=s.gens) (d':=s.drawn) (ch:=[it]) (fun b hb=>?_) (fun b o _ _ hc e _=>k b o (fun z=>hc (by simp[z])) e) (fun b o _ _ hc e _=>⟨o.slots,k b o (fun z=>hc (by simp[z])) e⟩) (fun _ _ _ _ n=>n)
  (fun b o hc e=>⟨o,k b o (fun z=>hc (by simp[z])) e⟩) (fun _ _ e=>e) (fun _ _ _ e=>e) (fun b ps e=>⟨#[],by rw[e];simp⟩) (fun m hm=>?_) (fun b u e=>?_) I.bare
 ·have e:b=it:=by simpa using hb
  subst e;exact⟨h1,hL,h2,h3⟩
 ·obtain⟨o,es,ep,ho,r⟩:=hm;exact⟨o,es,ep,k _ o (Ne.symm hL) ho,r⟩
 ·refine(I.hok b u e).stay (fun c v hc q=>k c v ?_ q) (fun _ q=>q) fun _ _ q=>q;rcases hc with z |z
  ·rw[z];exact nit b u e
  ·exact nit c _ z
theorem Inv.tok (I:Inv X pins σ H s)(t:Nat):Inv X pins σ H {s with toks:=t}:=I.un (h':=s.heap) (t':=t) Un.refl I.hok
theorem Inv.kept (I:Inv X pins σ H s)(k:∀b u,s.heap.get? b=some u->h'.get? b=some u):Inv X pins σ H {s with heap:=h',toks:=t'}:=I.un (Un.kept k) (I.hok.kept k)
theorem Inv.laid (I:Inv X pins σ H s)(k:∀b u,s.heap.get? b=some u->h'.get? b=some u)(hp:s.heap.objs.size<=a)(new:zbC X.prog X.w (upd H a o) h' a o):
  Inv X pins σ (upd H a o) {s with heap:=h',toks:=t'}:=I.un (Un.laid k hp (I.hok.fresh hp)) (I.hok.laid k hp new)
theorem Inv.write (I:Inv X pins σ H s)(mu:Mut (H x))(he:e=x\/H e=some (.own x))(k:∀b u,b≠e->s.heap.get? b=some u->h'.get? b=some u)(heo:∃u,h'.get? e=some u)
  (new:zbC X.prog X.w (upd H x o) h' x o):Inv X pins σ (upd H x o) {s with heap:=h',toks:=t'}:=I.un (Un.write mu he k heo) (I.hok.write mu he k heo new)
theorem Inv.pins_of (I:Inv X pins σ H s)(h:∀p∈pins',s.heap.get? p.1=some p.2/\H p.1=none/\p.1≠X.env.locals/\p.1∉X.fs/\∀v,p.2.data≠ .cell v):Inv X pins' σ H s:=
 ⟨I.ok,I.os,I.bare,I.base,I.loc,I.cell,I.free,I.freeC,fun p hp=>(List.mem_append.mp hp).elim (fun z=>I.pin p (List.mem_append_left _ z)) (h p),I.hok,I.len⟩
theorem zkc {N:List Str}(hN:N.Nodup){i j:Nat}{x:Str}(a:N[i]? =some x)(b:N[j]? =some x):i=j:=by
 obtain⟨h1,e1⟩:=List.getElem?_eq_some_iff.mp a;obtain⟨h2,e2⟩:=List.getElem?_eq_some_iff.mp b;exact(List.getElem_inj hN).mp (e1.trans e2.symm)
theorem zml {M:Model}{A:Around}{E:Value->Shared->Prop}{i:Nat}{x:Str}{v:V}{u:Value}{Q:Unit->Shared->Prop}(I:Inv X pins σ H s)(hN:X.N.Nodup)(hi:X.N[i]? =some x)(hx:Loc X.env.scope x)(r:RelV v u)
    (h:∀s',Inv X pins (σ.set i (some v)) H s'->(∃a,Heap.SameBut a s.heap s'.heap/\(a=X.env.locals\/X.env.cells.lookup x=some a))->Q () s') (hf:X.fn x=true\/X.env.scope.names.lookup x=some .local:=by first |exact .inl rfl |exact .inr rfl |assumption):wpAny M A (storeName X.env x u) Q E s:=by
  obtain⟨m,hn,hl⟩:=id I.loc;have hcls:(X.env.scope.kind==.class || (X.env.scope.kind==.module && X.env.locals !=X.env.globals))=false:=by rw[I.ok.kind];rfl
  have hiσ:i<σ.length:=by rw[I.len];exact(List.getElem?_eq_some_iff.mp hi).1
  have cne:=I.cne;have tracked:∀{a:Addr} {h':Heap},(∃o,s.heap.get? a=some o/\H a=none)->Heap.SameBut a s.heap h'->HOk X.prog X.w H h':=fun {a h'} ha hs b ob e=>by
    obtain⟨_,_,hfree⟩:=ha;refine(I.hok b ob e).stay (fun c w' hc q=>(hs.2 c ?_).trans q) (fun _ q=>q) fun _ _ q=>q;rintro rfl;rcases hc with rfl |hc
    · rw[hfree]at e;cases e
    · rw[hfree]at hc;cases hc
  rcases hx with hk |hk
  · refine wpAny_storeName_local hk hn (fun h' hn' hs=>?_) hcls;obtain⟨oL,_,_,hoL,_⟩:=id hn;refine h _ ⟨I.ok,I.os,I.bare,⟨fun b o e n hb hx=>?_,fun b o e n hb hx=>?_,I.base.free,fun b o e hx=>?_,I.base.tups,I.base.frzs,I.base.tbls⟩,⟨_,hn',fun j y v' e1 e2 e3=>?_⟩,fun y c e=>?_,I.free,I.freeC,fun p hp=>?_,tracked ⟨oL,hoL,I.free⟩ hs,by simpa using I.len⟩ ⟨_,hs,.inl rfl⟩
    · exact(hs.2 b (Nat.ne_of_lt (Nat.lt_of_lt_of_le (Heap.lt_size e) I.ok.above))).trans (I.base.keep b o e n hb hx)
    · obtain⟨sl,e1⟩:=I.base.slot b o e n hb hx;exact⟨sl,(hs.2 b (Nat.ne_of_lt (Nat.lt_of_lt_of_le (Heap.lt_size e) I.ok.above))).trans e1⟩
    · obtain⟨o',e1⟩:=I.base.there b o e hx;exact⟨o',(hs.2 b (Nat.ne_of_lt (Nat.lt_of_lt_of_le (Heap.lt_size e) I.ok.above))).trans e1⟩
    · by_cases hj:j=i
      · subst hj;rw[hi]at e1;cases e1;rw[List.getElem?_set_self hiσ]at e2;cases e2;exact⟨u,r,.inl ⟨hk,by simp⟩⟩
      · rw[List.getElem?_set_ne (Ne.symm hj)]at e2;obtain⟨u',r',q⟩:=hl j y v' e1 e2 e3;refine⟨u',r',?_⟩;rcases q with⟨k,e⟩ |⟨k,c,e,z⟩
        · refine .inl ⟨k,?_⟩;have:y≠x:=fun e=>hj (zkc hN e1 (e ▸ hi))
          simp[this,e]
        · exact .inr ⟨k,c,e,z.sameBut hs (cne y c e)⟩
    · obtain⟨w',z⟩:=I.cell y c e;exact⟨w',z.sameBut hs (cne y c e)⟩
    · obtain⟨e,n,ne,nf,d⟩:=I.pin p hp;exact⟨(hs.2 p.1 ne).trans e,n,ne,nf,d⟩
  · have hfn:X.fn x=true:=by
      rcases hf with z |z
      · exact z
      · rw[z]at hk;cases hk
    obtain⟨c,hc⟩:=I.ok.has x (.inl hk);obtain⟨w',z⟩:=I.cell x c hc;refine wpAny_storeName_cell I.ok.kind hk hc z (fun h' hc' hs=>?_);obtain⟨oc,hoc,hocd⟩:=id z;refine h {s with heap:=h'} ⟨I.ok,I.os,I.bare,⟨fun b o e n hb hx=>?_,fun b o e n hb hx=>?_,I.base.free,fun b o e hx=>?_,I.base.tups,I.base.frzs,I.base.tbls⟩,⟨m,hn.sameBut hs (Ne.symm (cne x c hc)),fun j y v' e1 e2 e3=>?_⟩,fun y c' e=>?_,I.free,I.freeC,fun p hp=>?_,tracked ⟨oc,hoc,I.freeC x c hc⟩ hs,by simpa using I.len⟩ ⟨c,hs,.inr hc⟩
    · exact(hs.2 b (Nat.ne_of_lt (Nat.lt_of_lt_of_le (Heap.lt_size e) (I.ok.cab x c hfn hc)))).trans (I.base.keep b o e n hb hx)
    · obtain⟨sl,e1⟩:=I.base.slot b o e n hb hx;exact⟨sl,(hs.2 b (Nat.ne_of_lt (Nat.lt_of_lt_of_le (Heap.lt_size e) (I.ok.cab x c hfn hc)))).trans e1⟩
    · obtain⟨o',e1⟩:=I.base.there b o e hx;exact⟨o',(hs.2 b (Nat.ne_of_lt (Nat.lt_of_lt_of_le (Heap.lt_size e) (I.ok.cab x c hfn hc)))).trans e1⟩
    · by_cases hj:j=i
      · subst hj;rw[hi]at e1;cases e1;rw[List.getElem?_set_self hiσ]at e2;cases e2;exact⟨u,r,.inr ⟨.inl hk,c,hc,hc'⟩⟩
      · rw[List.getElem?_set_ne (Ne.symm hj)]at e2;obtain⟨u',r',q⟩:=hl j y v' e1 e2 e3;refine⟨u',r',?_⟩;rcases q with q |⟨k,c',e,z'⟩
        · exact .inl q
        · refine .inr ⟨k,c',e,z'.sameBut hs ?_⟩;rintro rfl;exact hj (zkc hN e1 (I.ok.inj _ _ _ e hc ▸ hi))
    · by_cases hcc:c'=c
      · subst hcc;exact⟨_,hc'⟩
      · obtain⟨w2,z2⟩:=I.cell y c' e;exact⟨w2,z2.sameBut hs hcc⟩
    · obtain⟨e,n,ne,nf,d⟩:=I.pin p hp;refine⟨(hs.2 p.1 ?_).trans e,n,ne,nf,d⟩;intro q;rw[q,hoc]at e;have q':oc=p.2:=Option.some.inj e;exact d w' (by rw[<-q'];exact hocd)
theorem zgk (I:Inv X pins σ H s)(hN:X.N.Nodup)(hi:X.N[i]? =some x)(hx:Loc X.env.scope x)(r:RelV v u)
  (h:∀s',Inv X pins (σ.set i (some v)) H s'->Q () s') (hf:X.fn x=true\/X.env.scope.names.lookup x=some .local:=by first |exact .inl rfl |exact .inr rfl |assumption):wpAny M A (storeName X.env x u) Q E s:=
 zml I hN hi hx r (fun s' I' _=>h s' I') hf
theorem Inv.call' (I:Inv X pins σ H s)(ho:s'.os=s.os)(u:Un (frs X.stack) ch H H' s.heap s'.heap)(hok:HOk X.prog X.w H' s'.heap)(hg:AllBare s'.gens)
  (hch:∀b∈ch,(b∈X.ex\/X.s₀.heap.objs.size<=b)/\b≠X.env.locals/\(∀x c,X.env.cells.lookup x=some c->c≠b)/\∀p∈X.pn ++ pins,p.1≠b):Inv X pins σ H' s':=by
 obtain⟨h',g',d',t',o'⟩:=s';have e:o'=s.os:=ho;subst e;exact I.call (g':=g') (t':=t') (d':=d') u hok hg hch
end
abbrev XK:=Value->Option Addr->Hp->Prop
abbrev St:=List (Option V)
abbrev VK:=V->Hp->Prop
abbrev TE:=St->Hp->VK->Prop
abbrev TT:=St->Hp->(Bool->Hp->Prop)->Prop
abbrev TA:=St->Hp->(List V->Hp->Prop)->Prop
structure Ends where
 nx:St->Hp->Prop
 rt:VK
 bk:St->Hp->Prop:=fun _ _=>False
 ct:St->Hp->Prop:=fun _ _=>False
abbrev TS:=Ends->St->Hp->Prop
def EP (X:Cx)(pins:Pnx)(σ:St)(Q:VK)(u:Value)(s':Shared):Prop:=∃v H',Inv X pins σ H' s'/\RelV v u/\Q v H'
def TP (X:Cx)(pins:Pnx)(σ:St)(Q:Bool->Hp->Prop)(b:Bool)(s':Shared):Prop:=∃H',Inv X pins σ H' s'/\Q b H'
def AP (X:Cx)(pins:Pnx)(σ:St)(Q:List V->Hp->Prop)(us:List Value)(s':Shared):Prop:=∃vs H',Inv X pins σ H' s'/\Vals vs us/\Q vs H'
def SP (X:Cx)(pins:Pnx)(D:Ends)(f:Flow)(s':Shared):Prop:=
 match f with
 |.next=>∃σ' H',Inv X pins σ' H' s'/\D.nx σ' H'
 |.brk=>∃σ' H',Inv X pins σ' H' s'/\D.bk σ' H'
 |.cont=>∃σ' H',Inv X pins σ' H' s'/\D.ct σ' H'
 |.ret u=>∃v σ' H',Inv X pins σ' H' s'/\RelV v u/\D.rt v H'
def PE (X:Cx)(e:Expr)(t:TE):Prop:=
 ∀(pins:Pnx) (s:Shared) (σ:St) (H:Hp) (Q:VK),Inv X pins σ H s->t σ H Q->wpAny (model X.prog X.w) X.A (eval e X.env) (EP X pins σ Q) X.xe s
def PT (X:Cx)(e:Expr)(t:TT):Prop:=
 ∀(pins:Pnx) (s:Shared) (σ:St) (H:Hp) (Q:Bool->Hp->Prop),Inv X pins σ H s->t σ H Q->wpAny (model X.prog X.w) X.A (isTrue e X.env (eval e X.env)) (TP X pins σ Q) X.xe s
def PW (X:Cx)(e:Expr)(t:TT):Prop:=
 ∀(whole:Sem Value) (pins:Pnx) (s:Shared) (σ:St) (H:Hp) (Q:Bool->Hp->Prop),Inv X pins σ H s->t σ H Q->wpAny (model X.prog X.w) X.A (isTrue e X.env whole) (TP X pins σ Q) X.xe s
theorem PW.pt (h:PW X e t):PT X e t:=h _
def PA (X:Cx)(es:List Expr)(t:TA):Prop:=
 ∀(pos:Pos) (pins:Pnx) (s:Shared) (σ:St) (H:Hp) (Q:List V->Hp->Prop),Inv X pins σ H s->t σ H Q->wpAny (model X.prog X.w) X.A (spliced (backTo pos (starEach es X.env))) (AP X pins σ Q) X.xe s
def PS (X:Cx)(st:Stmt)(t:TS):Prop:=
 ∀(pins:Pnx) (s:Shared) (σ:St) (H:Hp) (D:Ends),Inv X pins σ H s->t D σ H->wpAny (model X.prog X.w) X.A (exec st X.env) (SP X pins D) X.xe s
def PSs (X:Cx)(st:List Stmt)(t:TS):Prop:=
 ∀(pins:Pnx) (s:Shared) (σ:St) (H:Hp) (D:Ends),Inv X pins σ H s->t D σ H->wpAny (model X.prog X.w) X.A (execs st X.env) (SP X pins D) X.xe s
theorem thn (h:wpAny M A t Q E s)(hQ:∀a s,Q a s->Q' a s):wpAny M A t Q' E s:=wpAny_mono h hQ fun _ _ x=>x
section
variable {X:Cx}
def tVar (i:Nat):TE:=fun σ H Q=>∃v,σ[i]? =some (some v)/\Q v H
def tC (v:V):TE:=fun _ H Q=>Q v H
theorem ziT (hN:X.N[i]? =some x)(hv:Vis X.env.scope x)(hd:(x==("__debug__":Str))=false:=by decide)(hcd:(x==("__classdict__":Str))=false:=by decide):PE X (.Name x pos) (tVar i):=by
 intro pins s σ H Q I h;obtain⟨v,e,h⟩:=h;obtain⟨m,hn,hl⟩:=I.loc;obtain⟨u,r,l⟩:=hl i x v hN e hv;have fin:EP X pins σ Q u s:=⟨v,H,I,r,h⟩;rcases l with⟨hk,hm⟩ |⟨hk,c,hc,hcell⟩
 ·exact wpAny_Name (wpAny_loadName_local I.ok.kind hk hn hm fin) hd
 ·rcases hk with hk |hk
  ·exact wpAny_Name (wpAny_loadName_cell I.ok.kind hk hc hcell fin) hd
  ·exact wpAny_Name (wpAny_loadName_free I.ok.kind hk hc hcell fin hcd) hd
theorem zac {i j pos}:PE X (.Constant (.int i) j pos) (tC (.int i)):=fun _ _ _ H _ I h=>wpAny_Constant_int ⟨.int i,H,I.tok _,⟨_,rfl⟩,h⟩
theorem zfr {b j pos}:PE X (.Constant (.bool b) j pos) (tC (.bl b)):=fun _ _ _ H _ I h=>Constant_bool ⟨.bl b,H,I,rfl,h⟩
theorem zam {x j pos}:PE X (.Constant (.str x) j pos) (tC (.str x)):=fun _ _ _ H _ I h=>Calls.Constant_str ⟨.str x,H,I.tok _,⟨_,rfl⟩,h⟩
def Gl (X:Cx)(x:Str):Prop:=X.env.kindOf x=some .globalImplicit
theorem zda (I:Inv X pins σ H s)(hg:Gl X x)(hm:X.mg x=some u)(h:Q u s)
  (hd:(x==("__debug__":Str))=false:=by decide):wpAny (model X.prog X.w) X.A (eval (.Name x pos) X.env) Q E s:=
 Calls.Name_function_global I.ok.kind hg (Calls.loadGlobal_global (by rw[I.ok.glob];exact I.mod.glob.keeps I.bk) hm h) hd
theorem zhw (I:Inv X pins σ H s)(hg:Gl X x)(hm:X.mg x=none)(hv:bootBuiltins x=some u)(h:Q u s)
  (hn:x≠"__name__":=by decide) (hd:(x==("__debug__":Str))=false:=by decide):wpAny (model X.prog X.w) X.A (eval (.Name x pos) X.env) Q E s:=by
 obtain⟨mb,h1,h2⟩:=I.mod.blt;exact Calls.Name_function_global I.ok.kind hg (Calls.loadGlobal_builtin (by rw[I.ok.glob];exact I.mod.glob.keeps I.bk) hm (by rw[I.ok.blt];exact h1.keeps I.bk) ((h2 x hn).trans hv) h) hd
theorem zcD (hg:Gl X x)(hm:X.mg x=some u)(r:RelV v u)(hd:(x==("__debug__":Str))=false:=by decide):PE X (.Name x pos) (tC v):=
 fun _ _ _ H _ I h=>zda I hg hm ⟨v,H,I,r,h⟩ hd
theorem zqN (hg:Gl X x)(hm:X.mg x=none)(hv:bootBuiltins x=some u)(r:RelV v u)(hn:x≠"__name__":=by decide)(hd:(x==("__debug__":Str))=false:=by decide):PE X (.Name x pos) (tC v):=
 fun _ _ _ H _ I h=>zhw I hg hm hv ⟨v,H,I,r,h⟩ hn hd
variable {a b:Expr}{ta tb:TE}{pos:Pos}
def PC (X:Cx)(op:CmpOp)(a b:Expr)(t:TE):Prop:=
 ∀(pins:Pnx) (s:Shared) (σ:St) (H:Hp) (Q:VK),Inv X pins σ H s->t σ H Q->
  wpAny (model X.prog X.w) X.A (eval a X.env) (fun v s₁=>wpAny (model X.prog X.w) X.A (eval b X.env) (fun u s₂=>wpAny (model X.prog X.w) X.A (compareOp op v u) (EP X pins σ Q) X.xe s₂) X.xe s₁) X.xe s
def tB (t:TE):TT:=fun σ H Q=>t σ H fun x H1=>∃c,x=.bl c/\Q c H1
theorem zlU (h:PC X op a b t)(h1:behindInMarks op b=false:=by first |exact nobehind _ (by decide) (by decide) |rfl):PT X (.Compare a [op] [b] pos) (tB t):=by
 intro pins s σ H Q I hw;refine wpAny_isTrue_Compare1 (thn (h pins s σ H _ I hw) fun v s1 h1=>thn h1 fun u s2 h2=>thn h2 fun c s3 ⟨x,H1,I1,r1,q1⟩=>?_) h1;obtain⟨d,rfl,q⟩:=q1;cases r1;exact wpAny_truthy_bool ⟨H1,I1,q⟩
variable {tA tB':TT}{rest:List Expr}
def tAnd (t u:TT):TT:=fun σ H Q=>t σ H fun c H1=>if c=true then u σ H1 Q else Q false H1
def tOr (t u:TT):TT:=fun σ H Q=>t σ H fun c H1=>if c=true then Q true H1 else u σ H1 Q
def tNot (t:TT):TT:=fun σ H Q=>t σ H fun c H1=>Q (!c) H1
theorem zps (ha:PT X a tA):PW X (.BoolOp .And [a] pos) tA:=by
 intro wh pins s σ H Q I h;refine isTrue_and (thn (ha pins s σ H Q I h) fun c s1 e=>?_)
 cases c with
 |true=>exact isTrue_and_nil e
 |false=>exact e
theorem zru (ha:PT X a tA):PW X (.BoolOp .Or [a] pos) tA:=by
 intro wh pins s σ H Q I h;refine isTrue_or (thn (ha pins s σ H Q I h) fun c s1 e=>?_)
 cases c with
 |false=>exact isTrue_or_nil e
 |true=>exact e
theorem zsH (ha:PT X a tA)(hb:PW X (.BoolOp .And (b::rest) pos) tB'):PW X (.BoolOp .And (a::b::rest) pos) (tAnd tA tB'):=by
 intro wh pins s σ H Q I h;refine isTrue_and (thn (ha pins s σ H _ I h) fun c s1 ⟨H1,I1,q1⟩=>?_)
 cases c with
 |true=>exact hb wh pins s1 σ H1 Q I1 q1
 |false=>exact⟨H1,I1,q1⟩
theorem zvy (ha:PT X a tA)(hb:PW X (.BoolOp .Or (b::rest) pos) tB'):PW X (.BoolOp .Or (a::b::rest) pos) (tOr tA tB'):=by
 intro wh pins s σ H Q I h;refine isTrue_or (thn (ha pins s σ H _ I h) fun c s1 ⟨H1,I1,q1⟩=>?_)
 cases c with
 |true=>exact⟨H1,I1,q1⟩
 |false=>exact hb wh pins s1 σ H1 Q I1 q1
theorem zrd (ha:PT X a tA):PT X (.UnaryOp .Not a pos) (tNot tA):=by
 intro pins s σ H Q I h;exact isTrue_not (ha pins s σ H (fun c H1=>Q (!c) H1) I h)
def zuL (ta tb:TE):TE:=fun σ H Q=>ta σ H fun x H1=>∃c,x=.bl c/\if c=true then tb σ H1 Q else Q (.bl false) H1
def tOrV (ta tb:TE):TE:=fun σ H Q=>ta σ H fun x H1=>∃c,x=.bl c/\if c=true then Q (.bl true) H1 else tb σ H1 Q
theorem ztg {op}(h:PE X a t):PE X (.BoolOp op [a] pos) t:=fun pins s σ H Q I hw=>BoolOp_one (h pins s σ H Q I hw)
theorem zrk (ha:PE X a ta)(hb:PE X (.BoolOp .And (b::rest) pos) tb):PE X (.BoolOp .And (a::b::rest) pos) (zuL ta tb):=by
 intro pins s σ H Q I h;refine BoolOp_and (thn (ha pins s σ H _ I h) fun v s1 ⟨x,H1,I1,r1,q1⟩=>?_);obtain⟨c,rfl,q1⟩:=q1;cases r1;refine wpAny_truthy_bool ?_
 cases c with
 |true=>exact hb pins s1 σ H1 Q I1 q1
 |false=>exact⟨.bl false,H1,I1,rfl,q1⟩
theorem zuz (ha:PE X a ta)(hb:PE X (.BoolOp .Or (b::rest) pos) tb):PE X (.BoolOp .Or (a::b::rest) pos) (tOrV ta tb):=by
 intro pins s σ H Q I h;refine BoolOp_or (thn (ha pins s σ H _ I h) fun v s1 ⟨x,H1,I1,r1,q1⟩=>?_);obtain⟨c,rfl,q1⟩:=q1;cases r1;refine wpAny_truthy_bool ?_
 cases c with
 |false=>exact hb pins s1 σ H1 Q I1 q1
 |true=>exact⟨.bl true,H1,I1,rfl,q1⟩
def tIf (t:TT)(ta tb:TE):TE:=fun σ H Q=>t σ H fun c H1=>if c=true then ta σ H1 Q else tb σ H1 Q
theorem znK (hc:PT X c tA)(ha:PE X a ta)(hb:PE X b tb):PE X (.IfExp c a b pos) (tIf tA ta tb):=by
 intro pins s σ H Q I h;refine wpAny_IfExp (thn (hc pins s σ H _ I h) fun d s1 ⟨H1,I1,q1⟩=>?_)
 cases d with
 |true=>exact ha pins s1 σ H1 Q I1 q1
 |false=>exact hb pins s1 σ H1 Q I1 q1
end
def SqL (K:Fgx)(H:Hp)(a:Addr)(xs:List V):Prop:=
 Rd H a (.lst xs)\/
  ∃(o:Obj) (its:Array Value) (n:Nat),K.lookup a=some o/\o.cls=.type "list"/\o.dict=none/\o.data=.seq its n/\its.size<=sizeLine/\Vals xs its.toList
def SqT (K:Fgx)(H:Hp)(a:Addr)(xs:List V):Prop:=
 Rd H a (.tup xs)\/
  ∃(o:Obj) (its:Array Value) (n:Nat),K.lookup a=some o/\o.cls=.type "tuple"/\o.data=.seq its n/\its.size<=sizeLine/\Vals xs its.toList
def absV:Value->Option V
 |.none=>some .non
 |.bool b=>some (.bl b)
 |.int i _=>some (.int i)
 |.str x _=>some (.str x)
 |.bytes b _=>some (.byt b)
 |.float b _=>some (.flt b)
 |.ref a=>some (.ref a)
 |.type n=>some (.ty n)
 |_=>none
theorem RelV.abs (r:RelV x u):absV u=some x:=by
 cases x with
 |non=>cases r;rfl
 |bl _=>cases r;rfl
 |int _=>obtain⟨t,rfl⟩:=r;rfl
 |str _=>obtain⟨t,rfl⟩:=r;rfl
 |byt _=>obtain⟨t,rfl⟩:=r;rfl
 |flt _=>obtain⟨t,rfl⟩:=r;rfl
 |ref _=>cases r;rfl
 |ty _=>cases r;rfl
theorem RelV.inj (r:RelV x u)(q:RelV y u):x=y:=Option.some.inj (r.abs.symm.trans q.abs)
theorem Vals.inj:∀{xs ys:List V} {us:List Value},Vals xs us->Vals ys us->xs=ys
 |_,_,_,.nil,.nil=>rfl
 |_,_,_,.cons r t,.cons r' t'=>by rw[r.inj r',Vals.inj t t']
section
variable {X:Cx}{pins:Pnx}{σ:St}{H:Hp}{s:Shared}{a:Addr}{xs ys:List V}
theorem Inv.list (I:Inv X pins σ H s)(h:SqL X.K H a xs):∃its:List Value,Vals xs its/\PlainL s.heap a its.toArray/\xs.length<=sizeLine:=by
 rcases h with h |⟨o,its,n,hk,hc,hd,hs,hz,r⟩
 ·obtain⟨z,its,n,r,e⟩:=h.ok I.hok;exact⟨its,r,⟨_,n,e,rfl,rfl,rfl⟩,z⟩
 ·refine⟨its.toList,r,⟨o,n,I.kIn a o hk,hc,hd,by simpa using hs⟩,?_⟩;have e:=r.length;simp only[Array.length_toList]at e;omega
theorem Inv.tuple (I:Inv X pins σ H s)(h:SqT X.K H a xs):∃its:List Value,Vals xs its/\IsTup s.heap a its.toArray/\xs.length<=sizeLine:=by
 rcases h with h |⟨o,its,n,hk,hc,hs,hz,r⟩
 ·obtain⟨z,its,r,p⟩:=h.ok I.hok;exact⟨its,r,p,z⟩
 ·refine⟨its.toList,r,⟨o,I.kIn a o hk,hc,n,by simpa using hs⟩,?_⟩;have e:=r.length;simp only[Array.length_toList]at e;omega
theorem Inv.list_inj (I:Inv X pins σ H s)(h:SqL X.K H a xs)(h':SqL X.K H a ys):xs=ys:=by
 obtain⟨its,r,⟨o,n,e,_,_,d⟩,_⟩:=I.list h;obtain⟨its',r',⟨o',n',e',_,_,d'⟩,_⟩:=I.list h';rw[e]at e';cases e';rw[d]at d'
 injection d' with d1 _
 have:its=its':=by simpa using congrArg Array.toList d1
 subst this;exact r.inj r'
theorem Inv.tuple_inj (I:Inv X pins σ H s)(h:SqT X.K H a xs)(h':SqT X.K H a ys):xs=ys:=by
 obtain⟨its,r,⟨o,e,_,n,d⟩,_⟩:=I.tuple h;obtain⟨its',r',⟨o',e',_,n',d'⟩,_⟩:=I.tuple h';rw[e]at e';cases e';rw[d]at d'
 injection d' with d1 _
 have:its=its':=by simpa using congrArg Array.toList d1
 subst this;exact r.inj r'
end
abbrev Cx.wish (X:Cx)(E:Value->Shared->Prop):Cx:={X with xe:=E}
abbrev Cx.nox (X:Cx):Cx:=X.wish fun _ _=>False
theorem Cx.Ok.wish {X:Cx}(ok:X.Ok)(E:Value->Shared->Prop):(X.wish E).Ok:=
 ⟨ok.mod,ok.kind,ok.glob,ok.blt,ok.above,ok.inj,ok.has,ok.cab,ok.hd,ok.frames,ok.stk,ok.exf,ok.bs,ok.bsz,ok.noex,ok.exfs,ok.funs,ok.frf⟩
theorem Cx.Ok.unwish {X:Cx}{E:Value->Shared->Prop}(ok:(X.wish E).Ok):X.Ok:=
 ⟨ok.mod,ok.kind,ok.glob,ok.blt,ok.above,ok.inj,ok.has,ok.cab,ok.hd,ok.frames,ok.stk,ok.exf,ok.bs,ok.bsz,ok.noex,ok.exfs,ok.funs,ok.frf⟩
section
variable {X:Cx}{pins:Pnx}{σ:St}{H:Hp}{s:Shared}{E:Value->Shared->Prop}
theorem Inv.wish (I:Inv X pins σ H s)(E:Value->Shared->Prop):Inv (X.wish E) pins σ H s:=⟨I.ok.wish E,I.os,I.bare,I.base,I.loc,I.cell,I.free,I.freeC,I.pin,I.hok,I.len⟩
theorem Inv.unwish (I:Inv (X.wish E) pins σ H s):Inv X pins σ H s:=⟨I.ok.unwish,I.os,I.bare,I.base,I.loc,I.cell,I.free,I.freeC,I.pin,I.hok,I.len⟩
theorem SP.unwish (h:SP (X.wish E) pins D f s'):SP X pins D f s':=by
 cases f with
 |next=>obtain⟨σ',H',I,q⟩:=h;exact⟨σ',H',I.unwish,q⟩
 |brk=>obtain⟨σ',H',I,q⟩:=h;exact⟨σ',H',I.unwish,q⟩
 |cont=>obtain⟨σ',H',I,q⟩:=h;exact⟨σ',H',I.unwish,q⟩
 |ret u=>obtain⟨v,σ',H',I,r,q⟩:=h;exact⟨v,σ',H',I.unwish,r,q⟩
theorem PSs.nox {st:List Stmt}{t:TS}(h:PSs X.nox st t):PSs X st t:=fun pins s σ H D I hw=>
 wpAny_mono (h pins s σ H D (I.wish _) hw) (fun _ _ q=>q.unwish) fun _ _ z=>False.elim z
end
section
variable {X:Cx}{st:Stmt}{rest:List Stmt}{t u:TS}{e:Expr}{te:TE}{pos:Pos}
def zua:TS:=fun D σ H=>D.nx σ H
def tSeq (t u:TS):TS:=fun D σ H=>t {D with nx:=u D} σ H
theorem zjZ:PSs X [] zua:=fun _ _ σ H _ I h=>wpAny_execs_nil ⟨σ,H,I,h⟩
theorem zfu (h1:PS X st t)(h2:PSs X rest u):PSs X (st::rest) (tSeq t u):=by
  intro pins s σ H D I h;refine wpAny_execs_cons (thn (h1 pins s σ H {D with nx:=u D} I h) fun f s1 q=>?_)
  cases f with
  |next=>
    obtain⟨σ',H',I',q⟩:=q;exact h2 pins s1 σ' H' D I' q
  |ret v=>exact q
  |brk=>exact q
  |cont=>exact q
theorem zpg (h1:PS X st t):PSs X [st] t:=by
 intro pins s σ H D I h;refine wpAny_execs_cons (thn (h1 pins s σ H D I h) fun f s1 q=>?_)
 cases f with
 |next=>exact wpAny_execs_nil q
 |ret v=>exact q
 |brk=>exact q
 |cont=>exact q
theorem Inv.quiet (I:Inv X pins σ H s):interactive X.env=false:=by simp[interactive,I.ok.kind]
def zvh (te:TE):TS:=fun D σ H=>te σ H fun _ H1=>D.nx σ H1
theorem zfG (he:PE X e te)(hs:swapsWith e none pos.line X.env=pure false:=by rfl):PS X (.Expr e pos) (zvh te):=by
 intro pins s σ H D I h;exact wpAny_Expr_any (thn (he pins s σ H _ I h) fun v s1 ⟨x,H1,I1,r1,q1⟩=>⟨σ,H1,I1,q1⟩) I.quiet hs
def tRet (te:TE):TS:=fun D σ H=>te σ H D.rt
theorem zsj (he:PE X e te):PS X (.Return (some e) pos) (tRet te):=by
 intro pins s σ H D I h;exact wpAny_Return_some (thn (he pins s σ H _ I h) fun v s1 ⟨x,H1,I1,r1,q1⟩=>⟨x,σ,H1,I1,r1,q1⟩)
def tIfS (c:TT)(t u:TS):TS:=fun D σ H=>c σ H fun b H1=>if b=true then t D σ H1 else u D σ H1
theorem zu9 (hc:PT X c tc)(ha:PSs X a t)(hb:PSs X b u):PS X (.If c a b pos) (tIfS tc t u):=by
 intro pins s σ H D I h;refine wpAny_If (thn (hc pins s σ H _ I h) fun d s1 ⟨H1,I1,q1⟩=>?_)
 cases d with
 |true=>exact ha pins s1 σ H1 D I1 q1
 |false=>exact hb pins s1 σ H1 D I1 q1
end
abbrev TG:=V->St->Hp->(St->Hp->Prop)->Prop
abbrev TGs:=List V->St->Hp->(St->Hp->Prop)->Prop
def PG (X:Cx)(target:Expr)(t:TG):Prop:=
 ∀(pins:Pnx) (s:Shared) (σ:St) (H:Hp) (v:V) (u:Value) (Q:St->Hp->Prop),Inv X pins σ H s->RelV v u->t v σ H Q->
  wpAny (model X.prog X.w) X.A (assign target X.env u) (fun _ s'=>∃σ' H',Inv X pins σ' H' s'/\Q σ' H') X.xe s
def PGs (X:Cx)(ts:List Expr)(t:TGs):Prop:=
 ∀(pins:Pnx) (s:Shared) (σ:St) (H:Hp) (vs:List V) (us:List Value) (Q:St->Hp->Prop),Inv X pins σ H s->Vals vs us->t vs σ H Q->
  wpAny (model X.prog X.w) X.A (assignInOrder ((assignEach ts X.env).map (·.2)) us) (fun _ s'=>∃σ' H',Inv X pins σ' H' s'/\Q σ' H') X.xe s
abbrev TSet:=V->V->V->Hp->(Hp->Prop)->Prop
def PSet (X:Cx)(t:TSet):Prop:=
 ∀(pins:Pnx) (s:Shared) (σ:St) (H:Hp) (o i v:V) (ov iv u:Value) (Q:Hp->Prop),Inv X pins σ H s->RelV o ov->RelV i iv->RelV v u->t o i v H Q->
  wpAny (model X.prog X.w) X.A (setItem ov iv u) (fun _ s'=>∃H',Inv X pins σ H' s'/\Q H') X.xe s
section
variable {X:Cx}{pos:Pos}
def zqd (i:Nat):TG:=fun v σ H Q=>Q (σ.set i (some v)) H
theorem zl6 (hN:X.N.Nodup)(hi:X.N[i]? =some x)(hx:Loc X.env.scope x)(hf:X.fn x=true\/X.env.scope.names.lookup x=some .local:=by first |exact .inl rfl |exact .inr rfl |assumption):PG X (.Name x pos) (zqd i):=by
 intro pins s σ H v u Q I r h;exact wpAny_assign_Name (zgk I hN hi hx r (fun s' I'=>⟨_,H,I',h⟩) hf)
def gNil:TGs:=fun vs σ H Q=>vs=[]/\Q σ H
def zuX (t:TG)(u:TGs):TGs:=fun vs σ H Q=>∃v r,vs=v::r/\t v σ H fun σ' H'=>u r σ' H' Q
theorem zpi:PGs X [] gNil:=by
 intro pins s σ H vs us Q I r h;obtain⟨e,h⟩:=h;subst e;cases r;exact assignInOrder_nil ⟨σ,H,I,h⟩
theorem znm (h1:PG X e t)(h2:PGs X es u)
    (hs:(assignEach (e::es) X.env).map (·.2)=assign e X.env::(assignEach es X.env).map (·.2):=by rfl):PGs X (e::es) (zuX t u):=by
  intro pins s σ H vs us Q I r h;obtain⟨v,vr,e1,h⟩:=h;subst e1
  cases r with
  |cons r rr=>
    rw[hs];refine assignInOrder_cons (thn (h1 pins s σ H _ _ _ I r h) fun _ s1 ⟨σ1,H1,I1,q1⟩=>?_);exact h2 pins s1 σ1 H1 _ _ Q I1 rr q1
def gTup (K:Fgx)(n:Nat)(t:TGs):TG:=fun v σ H Q=>∃a xs,v=.ref a/\SqT K H a xs/\xs.length=n/\t xs σ H Q
theorem zrw (hc:X.calm=true)(h:PGs X es t)
  (hn:(assignEach es X.env).length=n:=by rfl) (hst:(assignEach es X.env).findIdx? (·.1)=none:=by rfl):PG X (.Tuple es k pos) (gTup X.K n t):=by
 intro pins s σ H v u Q I r hw;obtain⟨a,xs,e1,hq,hl,hw⟩:=hw;subst e1;cases r;obtain⟨its,rv,ht,hz⟩:=I.tuple hq;refine assign_Tuple_tuple (I.ok.hd hc) ht (by simp[hn, <-hl,rv.length]) hst fun h' hx=>?_;have I1:Inv X pins σ H {s with heap:=h'}:=I.kept (t':=s.toks) fun b o e=>hx b o (Nat.ne_of_lt (Heap.lt_size e)) e;exact h pins _ σ H xs _ Q I1 (by simpa using rv) hw
def gSub (to ti:TE)(t:TSet):TG:=fun v σ H Q=>to σ H fun o H1=>ti σ H1 fun i H2=>t o i v H2 fun H3=>Q σ H3
theorem zsD (ho:PE X o to)(hi:PE X i ti)(hs:PSet X t)
  (ha : ∀ v, assign (.Subscript o i pos) X.env v = (do
   let ov <-holding [v] (eval o X.env)
   let iv <-holding [v,ov] (eval i X.env)
   standAt pos
   holding [v,ov,iv] (setItem ov iv v)
   release [v,ov,iv] []):=by intro _;rfl):PG X (.Subscript o i pos) (gSub to ti t):=by
 intro pins s σ H v u Q I r h;rw[ha];refine wpAny_bind (wpAny_holding (thn (ho pins s σ H _ I h) fun ov s1 ⟨x,H1,I1,r1,q1⟩=>?_));refine wpAny_bind (wpAny_holding (thn (hi pins s1 σ H1 _ I1 q1) fun iv s2 ⟨y,H2,I2,r2,q2⟩=>?_));refine wpAny_bind (wpAny_standAt (wpAny_bind (wpAny_holding (thn (hs pins s2 σ H2 x y v ov iv u _ I2 r1 r2 r q2) fun _ s3 ⟨H3,I3,q3⟩=>?_))));exact wpAny_release ⟨σ,H3,I3,q3⟩
def tAsg (te:TE)(g:TG):TS:=fun D σ H=>te σ H fun x H1=>g x σ H1 D.nx
theorem zrl (he:PE X e te)(hg:PG X tg g)(hs:swapsWithSole [tg] e pos.line X.env=pure false:=by rfl)(hw:swappedStores [tg] e X.env=pure none:=by rfl)
  (h1:(assignEach [tg] X.env).map (·.2)=[assign tg X.env]:=by rfl):PS X (.Assign [tg] e pos) (tAsg te g):=by
 intro pins s σ H D I h;refine wpAny_Assign_stores (thn (he pins s σ H _ I h) fun v s1 ⟨x,H1,I1,r1,q1⟩=>?_) hs hw;rw[h1];exact thn (hg pins s1 σ H1 x v _ I1 r1 q1) fun _ s2 q=>q
theorem zoe (hN:X.N.Nodup)(hi:X.N[i]? =some x)(hx:Loc X.env.scope x)(he:PE X e te)(hs:swapsWith e (some (.Name x pos')) pos.line X.env=pure false:=by rfl)(hf:X.fn x=true\/X.env.scope.names.lookup x=some .local:=by first |exact .inl rfl |exact .inr rfl |assumption):
  PS X (.Assign [.Name x pos'] e pos) (tAsg te (zqd i)):=by
 intro pins s σ H D I h;refine wpAny_Assign_Name (thn (he pins s σ H _ I h) fun v s1 ⟨y,H1,I1,r1,q1⟩=>?_) hs;exact zgk I1 hN hi hx r1 (fun s2 I2=>⟨_,H1,I2,q1⟩) hf
end
section
variable {X:Cx}{pos:Pos}
def zoB (c:TT)(tb:TS):TS:=fun D σ H=>∃W:Nat->St->Hp->Prop,(∃m,W m σ H)/\∀m σ H,W m σ H->
 c σ H fun b H1=>if b=true then ∃N:St->Hp->Prop,(∀σ' H',N σ' H'->∃m',m'<m/\W m' σ' H')/\tb {D with nx:=N,ct:=N,bk:=D.nx} σ H1 else D.nx σ H1
theorem znE (hp:PassesOwn (model X.prog X.w) X.A X.env X.xe)(hc:PT X c tc)(hb:PSs X body tb):PS X (.While c body [] pos) (zoB tc tb):=by
  intro pins s σ H D I h;obtain⟨W,⟨m0,w0⟩,turn⟩:=h;refine wpAny_While (codeAny_whileLoop (fun n s'=>∃σ' H',Inv X pins σ' H' s'/\W n σ' H') ?_ m0 ⟨σ,H,I,w0⟩);rintro n s1 ⟨σ1,H1,I1,w1⟩;refine wpAny_passesOwn hp (thn (hc pins s1 σ1 H1 _ I1 (turn n σ1 H1 w1)) fun b s2 ⟨H2,I2,q2⟩=>?_)
  cases b with
  |true=>
    obtain⟨N,hN,q2⟩:=q2;rw[if_pos rfl];refine wpAny_passesOwn hp (thn (hb pins s2 σ1 H2 _ I2 q2) fun f s3 q3=>?_)
    cases f with
    |next=>
      obtain⟨σ3,H3,I3,n3⟩:=q3;obtain⟨m',hm,w3⟩:=hN σ3 H3 n3;exact⟨m',hm,σ3,H3,I3,w3⟩
    |cont=>
      obtain⟨σ3,H3,I3,n3⟩:=q3;obtain⟨m',hm,w3⟩:=hN σ3 H3 n3;exact⟨m',hm,σ3,H3,I3,w3⟩
    |brk=>exact q3
    |ret v=>exact q3
  |false=>
    rw[if_neg Bool.false_ne_true];exact wpAny_execs_nil ⟨σ1,H2,I2,q2⟩
end
structure It where
 go:Nat->Hp->Prop
 yld:Nat->Hp->V->Hp->Prop
 stop:Nat->Hp->Prop
def FpOk (X:Cx)(pins:Pnx)(H:Hp)(b:Addr):Prop:=
 H b=none/\b≠X.env.locals/\b∉X.fs/\(b∈X.ex\/X.s₀.heap.objs.size<=b)/\(∀x c,X.env.cells.lookup x=some c->c≠b)/\∀p∈X.pn ++ pins,p.1≠b
theorem Inv.fpOk (I:Inv X pins σ H s)(hb:s.heap.objs.size<=b)(hn:H' b=none):FpOk X pins H' b:=by
 refine⟨hn,Nat.ne_of_gt (Nat.lt_of_lt_of_le I.lt hb),I.nofs hb,.inr (Nat.le_trans I.sz hb),fun x c e z=>?_,fun p hp z=>?_⟩
 ·obtain⟨v,q⟩:=I.cell x c e;exact absurd (Nat.lt_of_lt_of_le q.lt (by rw[z];exact hb)) (Nat.lt_irrefl _)
 ·exact absurd (Nat.lt_of_lt_of_le (Heap.lt_size (I.pin p hp).1) (by rw[z];exact hb)) (Nat.lt_irrefl _)
structure Turn (P:Program)(w:World)(K:Fgx)(tg:Expr)(J:It)(fp:List Addr)(it:Addr)(tn:Nat->Heap->Prop):Prop where
 mem:it∈fp
 obj:∀i h,tn i h->∀b∈fp,∃o,h.get? b=some o/\∀v,o.data≠ .cell v
 keep:∀i h h',tn i h->(∀b∈fp,∀o,h.get? b=some o->h'.get? b=some o)->tn i h'
 item:∀(X:Cx),X.prog=P->X.w=w->X.K=K->X.calm=true->∀(i:Nat) (pins:Pnx) (s:Shared) (σ:St) (H:Hp) (E:Value->Shared->Prop),Inv X pins σ H s->(∀b∈fp,FpOk X pins H b)->tn i s.heap->J.go i H->
  wpAny (model P w) X.A (pyNext (.ref it)) (fun r s1=>∃u,r=some u/\
   wpAny (model P w) X.A (letOwnedTupleGo tg (.ref it) u) (fun _ s2=>∃x H',Inv X pins σ H' s2/\RelV x u/\J.yld i H x H'/\tn (i + 1) s2.heap/\∀b∈fp,H' b=none) E s1) E s
 done:∀(X:Cx),X.prog=P->X.w=w->X.K=K->X.calm=true->∀(i:Nat) (pins:Pnx) (s:Shared) (σ:St) (H:Hp) (E:Value->Shared->Prop),Inv X pins σ H s->(∀b∈fp,FpOk X pins H b)->tn i s.heap->J.stop i H->
  wpAny (model P w) X.A (pyNext (.ref it)) (fun r s1=>r=none/\Inv X pins σ H s1) E s
 self:∀(A:Around) (i:Nat) (s:Shared) (Q:Value->Shared->Prop) (E:Value->Shared->Prop),tn i s.heap->Q (.ref it) s->wpAny (model P w) A (pyIter (.ref it)) Q E s
abbrev TI:=St->Hp->(It->Hp->Prop)->Prop
def PIE (X:Cx)(pins:Pnx)(σ:St)(tg:Expr)(R:It->Hp->Prop)(itv:Value)(s2:Shared):Prop:=
 ∃(it:Addr) (fp:List Addr) (tn:Nat->Heap->Prop) (J:It) (H':Hp),itv=.ref it/\Inv X pins σ H' s2/\Turn X.prog X.w X.K tg J fp it tn/\tn 0 s2.heap/\(∀b∈fp,FpOk X pins H' b)/\R J H'
def PI (X:Cx)(tg iter:Expr)(wi:TI):Prop:=
 ∀(pins:Pnx) (s:Shared) (σ:St) (H:Hp) (R:It->Hp->Prop),Inv X pins σ H s->wi σ H R->
  wpAny (model X.prog X.w) X.A (eval iter X.env) (fun v s1=>wpAny (model X.prog X.w) X.A (pyIter v) (PIE X pins σ tg R) X.xe s1) X.xe s
theorem zjx {M:Model}{A:Around}{E:Value->Shared->Prop}{s:Shared}{tg:Expr}{it:Addr}{u:Value}{o:Obj}{n:String}{vs:Array Value}{Q:Unit->Shared->Prop}(ho:s.heap.get? it=some o)(hc:o.cls=.type n)(hd:o.data=.fields vs)
    (hn:["enumerate","zip","dict_itemiterator","dict_reverseitemiterator","odict_iterator","itertools.zip_longest","itertools.pairwise"].contains n=false) (hQ:Q () s):wpAny M A (letOwnedTupleGo tg (.ref it) u) Q E s:=by
  unfold letOwnedTupleGo;cases tg<;>first
    |exact wpAny_pure hQ
    | (cases u<;>first
        |exact wpAny_pure hQ
        | (refine wpAny_bind (wpAny_load ho ?_)
           rw[hc,hd];show wpAny M A (if (["enumerate","zip","dict_itemiterator","dict_reverseitemiterator","odict_iterator","itertools.zip_longest","itertools.pairwise"].contains n && vs[0]? ==some (rawInt _))=true then _ else _) Q E s
           rw[if_neg (by intro h;rw[hn,Bool.false_and]at h;cases h)];exact wpAny_pure hQ))
def Itl (K:Fgx)(a:Addr):It:=
 ⟨fun i H=>∃xs x,SqL K H a xs/\xs[i]? =some x,fun i H x H'=>H'=H/\∀xs,SqL K H a xs->xs[i]? =some x,fun i H=>∃xs,SqL K H a xs/\xs.length<=i⟩
def Itt (K:Fgx)(a:Addr):It:=
 ⟨fun i H=>∃xs x,SqT K H a xs/\xs[i]? =some x,fun i H x H'=>H'=H/\∀xs,SqT K H a xs->xs[i]? =some x,fun i H=>∃xs,SqT K H a xs/\xs.length<=i⟩
def Itr (lo:Int)(n:Nat):It:=⟨fun i _=>i<n,fun i H x H'=>H'=H/\x=.int (lo + i),fun i _=>n<=i⟩
theorem zlR {P:Program}{w:World}{K:Fgx}{tg:Expr}(a it:Addr):Turn P w K tg (Itl K a) [it] it (fun i h=>h.IsListIter it a i) where
 mem:=by simp
 obj:=fun i h st b hb=>by
  have e:b=it:=by simpa using hb
  subst e;obtain⟨o,e,c,d⟩:=st;exact⟨o,e,fun v z=>by rw[d]at z;cases z⟩
 keep:=fun i h h' st k=>st.at fun o e=>k it (by simp) o e
 item:=by
  intro X hP hw hK hc i pins s σ H E I hf st hg;subst hP hw hK;obtain⟨xs,x,hq,hx⟩:=hg;obtain⟨its,rv,p,hz⟩:=I.list hq;obtain⟨u,hu,ru⟩:=rv.get hx;obtain⟨f0,f1,f2,f3,f4,f5⟩:=hf it (by simp);refine wpAny_pyNext_list_item st p.isList (x:=u) (by simpa using hu) fun h' st' sb=>?_;have I1:Inv X pins σ H {s with heap:=h'}:=I.turned (t':=s.toks) (fun b o hb e=>(sb.2 b hb).trans e) f0 f1 f3 f4 f5;obtain⟨o,e,c,d⟩:=id st';exact⟨u,rfl,zjx (s:={s with heap:=h'}) e c d (by decide) ⟨x,H,I1,ru,⟨rfl,fun ys hy=>by rw[I.list_inj hy hq];exact hx⟩,st',fun b hb=>(hf b hb).1⟩⟩
 done:=by
  intro X hP hw hK hc i pins s σ H E I hf st hg;subst hP hw hK;obtain⟨xs,hq,hx⟩:=hg;obtain⟨its,rv,p,hz⟩:=I.list hq;obtain⟨f0,f1,f2,f3,f4,f5⟩:=hf it (by simp);have hl:=rv.length;exact wpAny_pyNext_list_end (I.ok.hd hc) st p.isList (by simp;omega) fun h' eb=>⟨rfl,I.turned (t':=s.toks) (fun b o hb e=>eb b o hb e) f0 f1 f3 f4 f5⟩
 self:=fun _ _ _ _ _ st h=>wpAny_pyIter_listiter st h
theorem zk2 {P:Program}{w:World}{K:Fgx}{tg:Expr}(a it:Addr):Turn P w K tg (Itt K a) [it] it (fun i h=>h.IsTupleIter it a i) where
 mem:=by simp
 obj:=fun i h st b hb=>by
  have e:b=it:=by simpa using hb
  subst e;obtain⟨o,e,c,d⟩:=st;exact⟨o,e,fun v z=>by rw[d]at z;cases z⟩
 keep:=fun i h h' st k=>st.at fun o e=>k it (by simp) o e
 item:=by
  intro X hP hw hK hc i pins s σ H E I hf st hg;subst hP hw hK;obtain⟨xs,x,hq,hx⟩:=hg;obtain⟨its,rv,p,hz⟩:=I.tuple hq;obtain⟨u,hu,ru⟩:=rv.get hx;obtain⟨f0,f1,f2,f3,f4,f5⟩:=hf it (by simp);refine wpAny_pyNext_tuple_item st (show s.heap.IsTuple a its.toArray from p) (x:=u) (by simpa using hu) fun h' st' sb=>?_;have I1:Inv X pins σ H {s with heap:=h'}:=I.turned (t':=s.toks) (fun b o hb e=>(sb.2 b hb).trans e) f0 f1 f3 f4 f5;obtain⟨o,e,c,d⟩:=id st';exact⟨u,rfl,zjx (s:={s with heap:=h'}) e c d (by decide) ⟨x,H,I1,ru,⟨rfl,fun ys hy=>by rw[I.tuple_inj hy hq];exact hx⟩,st',fun b hb=>(hf b hb).1⟩⟩
 done:=by
  intro X hP hw hK hc i pins s σ H E I hf st hg;subst hP hw hK;obtain⟨xs,hq,hx⟩:=hg;obtain⟨its,rv,p,hz⟩:=I.tuple hq;obtain⟨f0,f1,f2,f3,f4,f5⟩:=hf it (by simp);have hl:=rv.length;exact wpAny_pyNext_tuple_end (I.ok.hd hc) st (show s.heap.IsTuple a its.toArray from p) (by simp;omega) fun h' eb=>⟨rfl,I.turned (t':=s.toks) (fun b o hb e=>eb b o hb e) f0 f1 f3 f4 f5⟩
 self:=fun _ _ _ _ _ st h=>wpAny_pyIter_tupleiter st h
theorem zlg {P:Program}{w:World}{K:Fgx}{tg:Expr}(it:Addr)(lo:Int)(n:Nat):Turn P w K tg (Itr lo n) [it] it (fun i h=>IsRangeIter h it (lo + (i:Nat) * 1) ((n:Int) - (i:Nat)) 1) where
 mem:=by simp
 obj:=fun i h st b hb=>by
  have e:b=it:=by simpa using hb
  subst e;exact ⟨_,st,fun v z=>by
   have z':Data.fields _=Data.cell v:=z;cases z'⟩
 keep:=fun i h h' st k=>k it (by simp) _ st
 item:=by
  intro X hP hw hK hc i pins s σ H E I hf st hg;subst hP hw hK;obtain⟨f0,f1,f2,f3,f4,f5⟩:=hf it (by simp);have W:=Walks.range (prog:=X.prog) (w:=X.w) (I.ok.hd hc) it lo 1 n;refine W.item i s _ _ hg st fun v h' tk hv st' kk=>?_;obtain⟨t,rfl⟩:=hv;have I1:Inv X pins σ H {s with heap:=h',toks:=tk}:=I.turned (fun b o hb e=>kk b o (by simpa using hb) e) f0 f1 f3 f4 f5;refine⟨_,rfl,zjx (s:={s with heap:=h',toks:=tk}) (n:="range_iterator") st' rfl rfl (by decide) ⟨.int (lo + i),H,I1,⟨t,?_⟩,⟨rfl,rfl⟩,st',fun b hb=>(hf b hb).1⟩⟩;rw[Int.mul_one]
 done:=by
  intro X hP hw hK hc i pins s σ H E I hf st hg;subst hP hw hK;obtain⟨f0,f1,f2,f3,f4,f5⟩:=hf it (by simp);exact wpAny_pyNext_range_end (I.ok.hd hc) st (by have:n<=i:=hg;omega) fun h' eb=>⟨rfl,I.turned (t':=s.toks) (fun b o hb e=>eb b o hb e) f0 f1 f3 f4 f5⟩
 self:=fun _ _ _ _ _ st h=>wpAny_pyIter_rangeiter st h
section
variable {X:Cx}{tg:Expr}
def zuf (K:Fgx)(tl:TE):TI:=fun σ H R=>tl σ H fun x H1=>∃a,x=.ref a/\(∃xs,SqL K H1 a xs)/\R (Itl K a) H1
def iTup (K:Fgx)(tl:TE):TI:=fun σ H R=>tl σ H fun x H1=>∃a,x=.ref a/\(∃xs,SqT K H1 a xs)/\R (Itt K a) H1
theorem zqe {l:Expr}{tl:TE}(hl:PE X l tl):PI X tg l (zuf X.K tl):=by
 intro pins s σ H R I h;refine thn (hl pins s σ H _ I h) fun v s1 ⟨x,H1,I1,r1,q1⟩=>?_;obtain⟨a,e,⟨xs,hq⟩,q⟩:=q1;subst e;cases r1;obtain⟨its,rv,p,hz⟩:=I1.list hq;refine wpAny_pyIter_list p.isList ?_;refine⟨s1.heap.objs.size,[s1.heap.objs.size],_,_,H1,rfl,I1.kept (t':=s1.toks) fun b o e=>Heap.get?_push_of_some _ e,zlR a _,⟨_,Heap.get?_push_size _ rfl,rfl,rfl⟩,fun b hb=>?_,q⟩;have e:b=s1.heap.objs.size:=by simpa using hb
 subst e;exact I1.fpOk (Nat.le_refl _) (I1.hok.fresh (Nat.le_refl _))
theorem zto {l:Expr}{tl:TE}(hl:PE X l tl):PI X tg l (iTup X.K tl):=by
 intro pins s σ H R I h;refine thn (hl pins s σ H _ I h) fun v s1 ⟨x,H1,I1,r1,q1⟩=>?_;obtain⟨a,e,⟨xs,hq⟩,q⟩:=q1;subst e;cases r1;obtain⟨its,rv,p,hz⟩:=I1.tuple hq;refine wpAny_pyIter_tuple (show s1.heap.IsTuple a its.toArray from p) ?_;refine⟨s1.heap.objs.size,[s1.heap.objs.size],_,_,H1,rfl,I1.kept (t':=s1.toks) fun b o e=>Heap.get?_push_of_some _ e,zk2 a _,⟨_,Heap.get?_push_size _ rfl,rfl,rfl⟩,fun b hb=>?_,q⟩;have e:b=s1.heap.objs.size:=by simpa using hb
 subst e;exact I1.fpOk (Nat.le_refl _) (I1.hok.fresh (Nat.le_refl _))
theorem znH {pins:Pnx}{σ:St}{H:Hp}{s:Shared}{R:It->Hp->Prop}{E:Value->Shared->Prop}{lo hi:Int}{t u v:Tok}{tk:Nat}(I:Inv X pins σ H s)(h1: -(2 ^ 62)<=lo)(h2:lo<2 ^ 62)(h3: -(2 ^ 62)<=hi)(h4:hi<2 ^ 62)
  (q:R (Itr lo (hi - lo).toNat) H):wpAny (model X.prog X.w) X.A (pyIter (.ref s.heap.objs.size)) (PIE X pins σ tg R) E {s with heap:=s.heap.push {cls:=.type "range",data:=.fields #[.int lo t,.int hi u,.int 1 v]},toks:=tk}:=by
 refine wpAny_pyIter_range (IsRange.new ..) (small_one h1 h2 h3 h4) ?_;have I1 : Inv X pins σ H { s with heap := s.heap.push { cls := .type "range", data := .fields #[.int lo t, .int hi u, .int 1 v] }, toks := tk } := I.kept fun b o e => Heap.get?_push_of_some _ e;refine ⟨(s.heap.push {cls:=.type "range",data:=.fields #[.int lo t,.int hi u,.int 1 v]}).objs.size,[(s.heap.push {cls:=.type "range",data:=.fields #[.int lo t,.int hi u,.int 1 v]}).objs.size],_,_,H,rfl,
  I1.kept (t':=tk) fun b o e=>Heap.get?_push_of_some _ e,zlg _ lo (hi - lo).toNat,?_,fun b hb=>?_,q⟩
 ·have e1:lo + ((0:Nat):Int) * 1=lo:=by simp
  have e2:(((hi - lo).toNat:Nat):Int) - ((0:Nat):Int)=Builtin.Range.rangeSize lo hi 1:=by rw[rangeSize_one];split<;>omega
  show IsRangeIter _ _ (lo + ((0:Nat):Int) * 1) ((((hi - lo).toNat:Nat):Int) - ((0:Nat):Int)) 1;rw[e1,e2];exact Heap.get?_push_size _ rfl
 ·have e:b=(s.heap.push {cls:=.type "range",data:=.fields #[.int lo t,.int hi u,.int 1 v]}).objs.size:=by simpa using hb
  subst e;exact I1.fpOk (Nat.le_refl _) (I1.hok.fresh (Nat.le_refl _))
def zhh (ta:TA):TI:=fun σ H R=>ta σ H fun vs H1=>∃j:Int,vs=[.int j]/\ -(2 ^ 62)<=j/\j<2 ^ 62/\R (Itr 0 j.toNat) H1
theorem zmv {a:Expr}{ta:TA}{p pos:Pos}(hg:Gl X "range")(hm:X.mg "range"=none)(ha:PA X [a] ta)(hs:starEach [a] X.env=[(false,eval a X.env)]:=by rfl):PI X tg (.Call (.Name "range" p) [a] [] pos) (zhh ta):=by
  intro pins s σ H R I h;refine Call_ (zhw I hg hm boot_range (PyProof.Rows.callWith_type1 (thn (ha pos pins s σ H _ I h) fun us s1 ⟨vs,H1,I1,r1,q1⟩=>?_) hs rfl));obtain⟨j,e,q1,q2,q⟩:=q1;subst e
  cases r1 with
  |cons r rr=>
    cases rr;obtain⟨t,rfl⟩:=r;exact call_range_1 (znH I1 (by omega) (by omega) q1 q2 (by simpa using q))
def tFor (wi:TI)(g:TG)(tb:TS):TS:=fun D σ H=>wi σ H fun J H1=>∃W:Nat->Nat->St->Hp->Prop,(∃m,W 0 m σ H1)/\∀i m σ H,W i m σ H->
 (J.stop i H/\D.nx σ H)\/(J.go i H/\∃N:St->Hp->Prop,(∀σ' H',N σ' H'->∃m',m'<m/\W (i + 1) m' σ' H')/\∀x H',J.yld i H x H'->g x σ H' fun σ2 H2=>tb {D with nx:=N,ct:=N,bk:=D.nx} σ2 H2)
def ziV (fp:List Addr)(h:Heap):Pnx:=fp.filterMap fun b=>(h.get? b).map fun o=>(b,o)
theorem zeB (hb:b∈fp)(e:h.get? b=some o):(b,o)∈ziV fp h:=List.mem_filterMap.mpr ⟨b,hb,by rw[e];rfl⟩
theorem zmO (hp:p∈ziV fp h):p.1∈fp/\h.get? p.1=some p.2:=by
  obtain⟨b,hb,e⟩:=List.mem_filterMap.mp hp
  cases q:h.get? b with
  |none=>rw[q]at e;cases e
  |some o=>
    rw[q]at e;have e':(b,o)=p:=Option.some.inj e;subst e';exact⟨hb,q⟩
theorem Inv.pinned (I:Inv X pins σ H s)(hf:∀b∈fp,FpOk X pins H b)(ho:∀b∈fp,∃o,s.heap.get? b=some o/\∀v,o.data≠ .cell v):Inv X (pins ++ ziV fp s.heap) σ H s:=
 I.pins_of fun p hp=>(List.mem_append.mp hp).elim (fun z=>I.pin p (List.mem_append_right _ z)) fun z=>by
  obtain⟨hb,e⟩:=zmO z;obtain⟨f0,f1,f2,_⟩:=hf p.1 hb;obtain⟨o,e',d⟩:=ho p.1 hb;rw[e]at e';cases e';exact⟨e,f0,f1,f2,d⟩
theorem Inv.unpinned (I:Inv X (pins ++ pl) σ H s):Inv X pins σ H s:=I.pins_of fun p hp=>I.pin p (List.mem_append_right _ (List.mem_append_left _ hp))
theorem zoz (hp:PassesOwn (model X.prog X.w) X.A X.env X.xe)(hc:X.calm=true)(hi:PI X tg iter wi)(hg:PG X tg g)(hb:PSs X body tb)
  (hs:∀x,foldedSetIterable iter X.env x=pure x:=by intro _;rfl):PS X (.For tg iter body [] pos) (tFor wi g tb):=by
 intro pins s σ H D I h;refine wpAny_For (thn (hi pins s σ H _ I h) fun v s1 h1=>thn h1 fun itv s2 h2=>?_) hs;obtain⟨it,fp,tn,J,H2,e,I2,T,st2,f2,W,⟨m0,w0⟩,turn⟩:=h2;subst e
 -- what stays true of the iterator's objects through the loop
 have stat:∀{H':Hp},(∀b∈fp,H' b=none)->∀b∈fp,FpOk X pins H' b:=fun hn b hb=>⟨hn b hb,(f2 b hb).2⟩;refine codeAny_forLoop_any (fun n s'=>∃i σ' H',Inv X pins σ' H' s'/\tn i s'.heap/\(∀b∈fp,H' b=none)/\W i n σ' H') ?_ m0 ⟨0,σ,H2,I2,st2,fun b hb=>(f2 b hb).1,w0⟩;rintro n s3 ⟨i,σ3,H3,I3,st3,fr3,w3⟩;rcases turn i n σ3 H3 w3 with⟨stop,qn⟩ |⟨go,N,hN,step⟩
 ·refine wpAny_passesOwn hp (thn (T.done X rfl rfl rfl hc i pins s3 σ3 H3 X.xe I3 (stat fr3) st3 stop) fun r s4 ⟨hr,I4⟩=>?_);subst hr;exact wpAny_execs_nil ⟨σ3,H3,I4,qn⟩
 ·refine wpAny_passesOwn hp (thn (T.item X rfl rfl rfl hc i pins s3 σ3 H3 X.xe I3 (stat fr3) st3 go) fun r s4 ⟨u,hr,h4⟩=>?_);subst hr;refine wpAny_passesOwn hp (thn h4 fun _ s5 ⟨x,H5,I5,r5,y5,st5,fr5⟩=>?_);have I5':=I5.pinned (stat fr5) (T.obj _ _ st5);refine wpAny_passesOwn hp (thn (hg _ s5 σ3 H5 x u _ I5' r5 (step x H5 y5)) fun _ s6 ⟨σ6,H6,I6,q6⟩=>?_);refine wpAny_passesOwn hp (thn (hb _ s6 σ6 H6 _ I6 q6) fun f s7 q7=>?_);have again:∀{σ7:St} {H7:Hp},Inv X (pins ++ ziV fp s5.heap) σ7 H7 s7->N σ7 H7->∃m,m<n/\∃i σ' H',Inv X pins σ' H' s7/\tn i s7.heap/\(∀b∈fp,H' b=none)/\W i m σ' H':=fun {σ7 H7} I7 n7=>by
   obtain⟨m',hm,w7⟩:=hN σ7 H7 n7;refine⟨m',hm,i + 1,σ7,H7,I7.unpinned,T.keep _ _ _ st5 fun b hb o e=>(I7.pin (b,o) (List.mem_append_right _ (List.mem_append_right _ (zeB hb e)))).1,fun b hb=>?_,w7⟩;obtain⟨o,e,d⟩:=T.obj _ _ st5 b hb;exact(I7.pin (b,o) (List.mem_append_right _ (List.mem_append_right _ (zeB hb e)))).2.1
  cases f with
  |next=>obtain⟨σ7,H7,I7,n7⟩:=q7;exact again I7 n7
  |cont=>obtain⟨σ7,H7,I7,n7⟩:=q7;exact again I7 n7
  |brk=>obtain⟨σ7,H7,I7,q7⟩:=q7;exact⟨σ7,H7,I7.unpinned,q7⟩
  |ret v=>obtain⟨x7,σ7,H7,I7,r7,q7⟩:=q7;exact⟨x7,σ7,H7,I7.unpinned,r7,q7⟩
end
theorem zig {c:TT}{tb:TS}{D:Ends}{σ:St}{H:Hp}(Pv:St->Hp->Prop)(μ:St->Hp->Nat)(h0:Pv σ H)
  (hs:∀σ H,Pv σ H->c σ H fun b H1=>if b=true then tb {D with nx:=fun σ' H'=>Pv σ' H'/\μ σ' H'<μ σ H,ct:=fun σ' H'=>Pv σ' H'/\μ σ' H'<μ σ H,bk:=D.nx} σ H1 else D.nx σ H1)
  (mono:∀σ H Q Q',(∀b H1,Q b H1->Q' b H1)->c σ H Q->c σ H Q'):zoB c tb D σ H:=by
 refine⟨fun m σ H=>m=μ σ H/\Pv σ H,⟨_,rfl,h0⟩,?_⟩;rintro m σ H ⟨rfl,p⟩;refine mono σ H _ _ (fun b H1 q=>?_) (hs σ H p)
 cases b with
 |true=>exact⟨_,fun σ' H' ⟨p',l⟩=>⟨_,l,rfl,p'⟩,q⟩
 |false=>exact q
abbrev R2:=V->V->Hp->VK->Prop
def OpR (X:Cx)(f:Value->Value->Sem Value)(r:R2):Prop:=
 ∀(pins:Pnx) (s:Shared) (σ:St) (H:Hp) (x y:V) (v u:Value) (Q:VK),Inv X pins σ H s->RelV x v->RelV y u->r x y H Q->
  wpAny (model X.prog X.w) X.A (f v u) (EP X pins σ Q) X.xe s
def zdM (X:Cx)(f:Value)(r:List V->Hp->VK->Prop):Prop:=
 ∀(pins:Pnx) (s:Shared) (σ:St) (H:Hp) (xs:List V) (us:List Value) (Q:VK),Inv X pins σ H s->Vals xs us->r xs H Q->
  wpAny (model X.prog X.w) X.A (call f us) (EP X pins σ Q) X.xe s
def TruR (X:Cx)(r:V->Hp->(Bool->Hp->Prop)->Prop):Prop:=
 ∀(pins:Pnx) (s:Shared) (σ:St) (H:Hp) (x:V) (v:Value) (Q:Bool->Hp->Prop),Inv X pins σ H s->RelV x v->r x H Q->
  wpAny (model X.prog X.w) X.A (truthy v) (TP X pins σ Q) X.xe s
def tOp (r:R2)(ta tb:TE):TE:=fun σ H Q=>ta σ H fun x H1=>tb σ H1 fun y H2=>r x y H2 Q
def rI (C:Int->Int->Prop)(g:Int->Int->V):R2:=fun x y H Q=>∃i j,x=.int i/\y=.int j/\C i j/\Q (g i j) H
def rI0 (g:Int->Int->V):R2:=fun x y H Q=>∃i j,x=.int i/\y=.int j/\Q (g i j) H
section
variable {X:Cx}{a b c:Expr}{ta tb tc:TE}{pos:Pos}
theorem binT (ha:PE X a ta)(hb:PE X b tb){pins:Pnx}{s:Shared}{σ:St}{H:Hp}{R:V->V->Hp->Prop}(I:Inv X pins σ H s)
  (h:ta σ H fun x H1=>tb σ H1 fun y H2=>R x y H2) {Q:Value->Shared->Prop} {f:Value->Value->Sem Value}
  (hf:∀v u s2 x y H2,Inv X pins σ H2 s2->RelV x v->RelV y u->R x y H2->wpAny (model X.prog X.w) X.A (f v u) Q X.xe s2):
  wpAny (model X.prog X.w) X.A (eval a X.env) (fun v s₁=>wpAny (model X.prog X.w) X.A (eval b X.env) (fun u s₂=>wpAny (model X.prog X.w) X.A (f v u) Q X.xe s₂) X.xe s₁) X.xe s:=by
 refine thn (ha pins s σ H _ I h) fun v s1 ⟨x,H1,I1,r1,q1⟩=>?_;refine thn (hb pins s1 σ H1 _ I1 q1) fun u s2 ⟨y,H2,I2,r2,q2⟩=>?_;exact hf v u s2 x y H2 I2 r1 r2 q2
theorem ztL {op:Operator}{r:R2}(ho:OpR X (binaryOp op) r)(ha:PE X a ta)(hb:PE X b tb):PE X (.BinOp a op b pos) (tOp r ta tb):=by
 intro pins s σ H Q I h;exact wpAny_BinOp (binT ha hb I h fun v u s2 x y H2 I2 rx ry q=>ho pins s2 σ H2 x y v u Q I2 rx ry q)
theorem opI {f:Value->Value->Sem Value}{C:Int->Int->Prop}{g:Int->Int->Int}
  (rule:∀(i j:Int) (t u:Tok) (s:Shared) (Q:Value->Shared->Prop) (E:Value->Shared->Prop),C i j->Q (.int (g i j) s.toks) {s with toks:=s.toks + 1}->wpAny (model X.prog X.w) X.A (f (.int i t) (.int j u)) Q E s):
  OpR X f (rI C fun i j=>.int (g i j)):=by
 intro pins s σ H x y v u Q I rx ry h;obtain⟨i,j,rfl,rfl,hc,q⟩:=h;obtain⟨t,rfl⟩:=rx;obtain⟨t',rfl⟩:=ry;exact rule i j t t' s _ _ hc ⟨.int (g i j),H,I.tok _,⟨_,rfl⟩,q⟩
theorem opI0 {f:Value->Value->Sem Value}{g:Int->Int->Int}
  (rule:∀(i j:Int) (t u:Tok) (s:Shared) (Q:Value->Shared->Prop) (E:Value->Shared->Prop),Q (.int (g i j) s.toks) {s with toks:=s.toks + 1}->wpAny (model X.prog X.w) X.A (f (.int i t) (.int j u)) Q E s):
  OpR X f (rI0 fun i j=>.int (g i j)):=by
 intro pins s σ H x y v u Q I rx ry h;obtain⟨i,j,rfl,rfl,q⟩:=h;obtain⟨t,rfl⟩:=rx;obtain⟨t',rfl⟩:=ry;exact rule i j t t' s _ _ ⟨.int (g i j),H,I.tok _,⟨_,rfl⟩,q⟩
theorem opB0 {f:Value->Value->Sem Value}{g:Int->Int->Bool}
  (rule:∀(i j:Int) (t u:Tok) (s:Shared) (Q:Value->Shared->Prop) (E:Value->Shared->Prop),Q (.bool (g i j)) s->wpAny (model X.prog X.w) X.A (f (.int i t) (.int j u)) Q E s):
  OpR X f (rI0 fun i j=>.bl (g i j)):=by
 intro pins s σ H x y v u Q I rx ry h;obtain⟨i,j,rfl,rfl,q⟩:=h;obtain⟨t,rfl⟩:=rx;obtain⟨t',rfl⟩:=ry;exact rule i j t t' s _ _ ⟨.bl (g i j),H,I,rfl,q⟩
def CDiv (i j:Int):Prop:=0<j/\j<1073741824
def CPow (i j:Int):Prop:=0<=j/\j<=1000000/\i.natAbs<2 ^ 64
def CMul (i j:Int):Prop:=(-(2 ^ 64)<i/\i<2 ^ 64)\/(-(2 ^ 64)<j/\j<2 ^ 64)
theorem CMul.ok (h:CMul i j):IntMulOk i j:=by
 rcases h with⟨h1,h2⟩ |⟨h1,h2⟩
 ·exact .of_left (intBits_le_64 h1 h2)
 ·exact .of_right (intBits_le_64 h1 h2)
theorem ztd:OpR X (binaryOp .Add) (rI0 fun i j=>.int (i + j)):=opI0 fun _ _ _ _ _ _ _ q=>add_int q
theorem zgS:OpR X (binaryOp .Sub) (rI0 fun i j=>.int (i - j)):=opI0 fun _ _ _ _ _ _ _ q=>sub_int q
theorem zbJ:OpR X (binaryOp .FloorDiv) (rI CDiv fun i j=>.int (i / j)):=opI fun i j _ _ _ _ _ hc q=>by
 have h1:(0:Int)<j:=hc.1;have h2:j<1073741824:=hc.2;exact floordiv_int (by omega) (by rw[Int.fdiv_eq_ediv_of_nonneg i (by omega)];exact q) (.inl (PyProof.noPylong_small (by omega)))
theorem zaM:OpR X (binaryOp .Mod) (rI (fun _ j=>0<j) fun i j=>.int (i % j)):=opI fun i j _ _ _ _ _ hc q=>by
 have h1:(0:Int)<j:=hc;exact mod_int' (by omega) (by rw[Int.fmod_eq_emod_of_nonneg i (by omega)];exact q)
theorem zhF:OpR X (binaryOp .Pow) (rI CPow fun i j=>.int (i ^ j.toNat)):=opI fun _ _ _ _ _ _ _ hc q=>pow_int_small hc.1 hc.2.1 hc.2.2 q
end
def scal:V->V->Bool
 |.non,.non=>true |.non,.int _=>true |.int _,.non=>true |.non,.bl _=>true |.bl _,.non=>true |.non,.str _=>true |.str _,.non=>true
 |.int _,.int _=>true |.bl _,.bl _=>true |.str _,.str _=>true |.byt _,.byt _=>true
 |.int _,.str _=>true |.str _,.int _=>true |.bl _,.str _=>true |.str _,.bl _=>true
 |_,_=>false
def rEq:R2:=fun x y H Q=>scal x y=true/\Q (.bl (decide (x=y))) H
def rNe:R2:=fun x y H Q=>scal x y=true/\Q (.bl (!decide (x=y))) H
theorem zl0:decide (V.int i=V.int j)=(i==j):=by
 rw[Bool.eq_iff_iff]
 simp
theorem zkA:decide (V.bl i=V.bl j)=(i==j):=by
 rw[Bool.eq_iff_iff]
 simp
theorem zm7:decide (V.str i=V.str j)=(i==j):=by
 rw[Bool.eq_iff_iff]
 simp
theorem zme:decide (V.byt i=V.byt j)=(i.toList==j.toList):=by
 rw[Bool.eq_iff_iff];cases i;cases j
 simp
section
variable {X:Cx}{a b c:Expr}{ta tb tc:TE}{pos:Pos}
theorem zay (I:Inv X pins σ H s)(q:Q (.bl k) H)(e:k=k'):EP X pins σ Q (.bool k') s:=by
 subst e;exact⟨.bl k,H,I,rfl,q⟩
theorem zuc:OpR X (compareOp .Eq) rEq:=by
  intro pins s σ H x y v u Q I rx ry h;obtain⟨hs,q⟩:=h
  cases x with
  |non=>
    cases rx
    cases y with
    |non=>cases ry;exact PySem.EqNone.eq_none_none (zay I q (by simp))
    |bl j=>cases ry;exact PySem.EqNone.eq_none_bool (zay I q (by simp))
    |int j=>obtain⟨t',rfl⟩:=ry;exact PySem.EqNone.eq_none_int (zay I q (by simp))
    |str j=>obtain⟨t',rfl⟩:=ry;exact PySem.EqNone.eq_none_str (zay I q (by simp))
    |_=>exact absurd (show false=true from hs) Bool.false_ne_true
  |bl i=>
    cases rx
    cases y with
    |non=>cases ry;exact PySem.EqNone.eq_bool_none (zay I q (by simp))
    |bl j=>cases ry;exact eq_bool (zay I q zkA)
    |str j=>obtain⟨t',rfl⟩:=ry;exact PySem.EqMixed.eq_bool_str (zay I q (by simp))
    |_=>exact absurd (show false=true from hs) Bool.false_ne_true
  |int i=>
    obtain⟨t,rfl⟩:=rx
    cases y with
    |non=>cases ry;exact PySem.EqNone.eq_int_none (zay I q (by simp))
    |int j=>obtain⟨t',rfl⟩:=ry;exact eq_int (zay I q zl0)
    |str j=>obtain⟨t',rfl⟩:=ry;exact PySem.EqMixed.eq_int_str (zay I q (by simp))
    |_=>exact absurd (show false=true from hs) Bool.false_ne_true
  |str i=>
    obtain⟨t,rfl⟩:=rx
    cases y with
    |non=>cases ry;exact PySem.EqNone.eq_str_none (zay I q (by simp))
    |bl j=>cases ry;exact PySem.EqMixed.eq_str_bool (zay I q (by simp))
    |int j=>obtain⟨t',rfl⟩:=ry;exact PySem.EqMixed.eq_str_int (zay I q (by simp))
    |str j=>obtain⟨t',rfl⟩:=ry;exact eq_str (zay I q zm7)
    |_=>exact absurd (show false=true from hs) Bool.false_ne_true
  |byt i=>
    obtain⟨t,rfl⟩:=rx
    cases y with
    |byt j=>obtain⟨t',rfl⟩:=ry;exact PySem.W.eq_bytes (zay I q zme)
    |_=>exact absurd (show false=true from hs) Bool.false_ne_true
  |_=>cases y<;>exact absurd (show false=true from hs) Bool.false_ne_true
theorem zwa:OpR X (compareOp .NotEq) rNe:=by
  intro pins s σ H x y v u Q I rx ry h;obtain⟨hs,q⟩:=h
  cases x with
  |non=>
    cases rx
    cases y with
    |non=>cases ry;exact PySem.EqNone.ne_none_none (zay I q (by simp))
    |bl j=>cases ry;exact PySem.EqNone.ne_none_bool (zay I q (by simp))
    |int j=>obtain⟨t',rfl⟩:=ry;exact PySem.EqNone.ne_none_int (zay I q (by simp))
    |str j=>obtain⟨t',rfl⟩:=ry;exact PySem.EqNone.ne_none_str (zay I q (by simp))
    |_=>exact absurd (show false=true from hs) Bool.false_ne_true
  |bl i=>
    cases rx
    cases y with
    |non=>cases ry;exact PySem.EqNone.ne_bool_none (zay I q (by simp))
    |bl j=>cases ry;exact ne_bool (zay I q (congrArg not zkA))
    |str j=>obtain⟨t',rfl⟩:=ry;exact PySem.EqMixed.ne_bool_str (zay I q (by simp))
    |_=>exact absurd (show false=true from hs) Bool.false_ne_true
  |int i=>
    obtain⟨t,rfl⟩:=rx
    cases y with
    |non=>cases ry;exact PySem.EqNone.ne_int_none (zay I q (by simp))
    |int j=>obtain⟨t',rfl⟩:=ry;exact ne_int (zay I q (congrArg not zl0))
    |str j=>obtain⟨t',rfl⟩:=ry;exact PySem.EqMixed.ne_int_str (zay I q (by simp))
    |_=>exact absurd (show false=true from hs) Bool.false_ne_true
  |str i=>
    obtain⟨t,rfl⟩:=rx
    cases y with
    |non=>cases ry;exact PySem.EqNone.ne_str_none (zay I q (by simp))
    |bl j=>cases ry;exact PySem.EqMixed.ne_str_bool (zay I q (by simp))
    |int j=>obtain⟨t',rfl⟩:=ry;exact PySem.EqMixed.ne_str_int (zay I q (by simp))
    |str j=>obtain⟨t',rfl⟩:=ry;exact ne_str (zay I q (congrArg not zm7))
    |_=>exact absurd (show false=true from hs) Bool.false_ne_true
  |byt i=>
    obtain⟨t,rfl⟩:=rx
    cases y with
    |byt j=>obtain⟨t',rfl⟩:=ry;exact PySem.W.ne_bytes (zay I q (congrArg not zme))
    |_=>exact absurd (show false=true from hs) Bool.false_ne_true
  |_=>cases y<;>exact absurd (show false=true from hs) Bool.false_ne_true
theorem zum:OpR X (compareOp .Lt) (rI0 fun i j=>.bl (decide (i<j))):=opB0 fun _ _ _ _ _ _ _ q=>lt_int q
theorem zuo:OpR X (compareOp .LtE) (rI0 fun i j=>.bl (decide (i<=j))):=opB0 fun _ _ _ _ _ _ _ q=>le_int q
theorem zt7:OpR X (compareOp .Gt) (rI0 fun i j=>.bl (decide (j<i))):=opB0 fun _ _ _ _ _ _ _ q=>gt_int q
theorem zv6:OpR X (compareOp .GtE) (rI0 fun i j=>.bl (decide (j<=i))):=opB0 fun _ _ _ _ _ _ _ q=>ge_int q
theorem zlp:OpR X (compareOp .In) (fun x y H Q=>∃i j,x=.str i/\y=.str j/\Q (.bl (!(Builtin.Str.occurrences j i 0 j.length 1).isEmpty)) H):=by
 intro pins s σ H x y v u Q I rx ry h;obtain⟨i,j,rfl,rfl,q⟩:=h;obtain⟨t,rfl⟩:=rx;obtain⟨t',rfl⟩:=ry;exact in_str (zay I q rfl)
theorem zsf:OpR X (compareOp .Is) (fun x y H Q=>y=.non/\Q (.bl (decide (x=.non))) H):=by
 intro pins s σ H x y v u Q I rx ry h;obtain⟨rfl,q⟩:=h;cases ry;refine is_none_gen (zay I q ?_);cases x<;>first
  |(cases rx;rfl)
  |(obtain⟨t,rfl⟩:=rx;rfl)
theorem zpz:OpR X (compareOp .IsNot) (fun x y H Q=>y=.non/\Q (.bl (!decide (x=.non))) H):=by
 intro pins s σ H x y v u Q I rx ry h;obtain⟨rfl,q⟩:=h;cases ry;refine isnot_none_gen (zay I q ?_);cases x<;>first
  |(cases rx;rfl)
  |(obtain⟨t,rfl⟩:=rx;rfl)
theorem ziM:OpR X (compareOp .NotIn) (fun x y H Q=>∃i j,x=.str i/\y=.str j/\Q (.bl (!(!(Builtin.Str.occurrences j i 0 j.length 1).isEmpty))) H):=by
 intro pins s σ H x y v u Q I rx ry h;obtain⟨i,j,rfl,rfl,q⟩:=h;obtain⟨t,rfl⟩:=rx;obtain⟨t',rfl⟩:=ry;exact notIn_str (zay I q rfl)
theorem OpR.or (h:OpR X f r)(h':OpR X f r'):OpR X f (fun x y H Q=>r x y H Q\/r' x y H Q):=by
 intro pins s σ H x y v u Q I rx ry q;rcases q with q |q
 ·exact h pins s σ H x y v u Q I rx ry q
 ·exact h' pins s σ H x y v u Q I rx ry q
theorem zp0 {op:CmpOp}{r:R2}(ho:OpR X (compareOp op) r)(ha:PE X a ta)(hb:PE X b tb)(hm:behindInMarks op b=false):PE X (.Compare a [op] [b] pos) (tOp r ta tb):=by
 intro pins s σ H Q I h;exact wpAny_Compare1 (binT ha hb I h fun v u s2 x y H2 I2 rx ry q=>ho pins s2 σ H2 x y v u Q I2 rx ry q) hm
def zqj (t:TE):TT:=fun σ H Q=>t σ H fun x H'=>∃k,x=.bl k/\Q k H'
theorem zpp (ho:OpR X (compareOp op) r)(ha:PE X a ta)(hb:PE X b tb)(hm:behindInMarks op b=false):PT X (.Compare a [op] [b] pos) (zqj (tOp r ta tb)):=by
 intro pins s σ H Q I h;refine wpAny_isTrue_Compare1 (thn (ha pins s σ H _ I h) fun v s1 ⟨x,H1,I1,r1,q1⟩=>thn (hb pins s1 σ H1 _ I1 q1) fun u s2 ⟨y,H2,I2,r2,q2⟩=>
  thn (ho pins s2 σ H2 x y v u _ I2 r1 r2 q2) fun c s3 ⟨z,H3,I3,r3,k,e,q3⟩=>?_) hm
 subst e;cases r3;exact wpAny_truthy_bool ⟨H3,I3,q3⟩
def zmR (r r':R2)(ta tb tc:TE):TE:=fun σ H Q=>ta σ H fun x H1=>tb σ H1 fun y H2=>r x y H2 fun z H3=>∃k,z=.bl k/\
 (if k=true then tc σ H3 fun w' H4=>r' y w' H4 Q else Q (.bl false) H3)
theorem zn6 (ho:OpR X (compareOp op) r)(ho':OpR X (compareOp op') r')(ha:PE X a ta)(hb:PE X b tb)(hc:PE X c tc)
  (hm:lastMarks [op,op'] [b,c]=false:=by with_unfolding_all rfl):PE X (.Compare a [op,op'] [b,c] pos) (zmR r r' ta tb tc):=by
 intro pins s σ H Q I h;refine Compare_chain (thn (ha pins s σ H _ I h) fun v s1 ⟨x, H1, I1, r1, q1⟩ => chain_link (thn (hb pins s1 σ H1 _ I1 q1) fun u s2 ⟨y,H2,I2,r2,q2⟩=>
  thn (ho pins s2 σ H2 x y v u _ I2 r1 r2 q2) fun d s3 ⟨z,H3,I3,r3,k,e,q3⟩=>?_)) hm
 subst e;cases r3;refine wpAny_truthy_bool ?_
 cases k with
 |false=>exact ite_ff ⟨.bl false,H3,I3,rfl,q3⟩
 |true=>exact ite_tt (chain_last (thn (hc pins s3 σ H3 _ I3 q3) fun w' s4 ⟨z',H4,I4,r4,q4⟩=>ho' pins s4 σ H4 y z' u w' Q I4 r2 r4 q4))
theorem znz (ho:OpR X (compareOp op) r)(ho':OpR X (compareOp op') r')(ha:PE X a ta)(hb:PE X b tb)(hc:PE X c tc)
    (hm:lastMarks [op,op'] [b,c]=false:=by with_unfolding_all rfl):PT X (.Compare a [op,op'] [b,c] pos) (zqj (zmR r r' ta tb tc)):=by
  intro pins s σ H Q I h;refine isTrue_chain (thn (ha pins s σ H _ I h) fun v s1 ⟨x, H1, I1, r1, q1⟩ => test_link (thn (hb pins s1 σ H1 _ I1 q1) fun u s2 ⟨y,H2,I2,r2,q2⟩=>
    thn (ho pins s2 σ H2 x y v u _ I2 r1 r2 q2) fun d s3 ⟨z,H3,I3,r3,k,e,q3⟩=>?_)) hm
  subst e;cases r3;refine wpAny_truthy_bool ?_
  cases k with
  |false=>
    obtain⟨k',e',q'⟩:=q3;cases e';exact ite_ff ⟨H3,I3,q'⟩
  |true=>
    refine ite_tt (test_last (thn (hc pins s3 σ H3 _ I3 q3) fun w' s4 ⟨z',H4,I4,r4,q4⟩=>thn (ho' pins s4 σ H4 y z' u w' _ I4 r2 r4 q4) fun d' s5 ⟨z2,H5,I5,r5,k2,e2,q5⟩=>?_));subst e2;cases r5;exact wpAny_truthy_bool ⟨H5,I5,q5⟩
def TruV (K:Fgx)(x:V)(H:Hp)(k:Bool):Prop:=
 match x with
 |.non=>k=false
 |.bl b=>k=b
 |.int i=>k=(i !=0)
 |.str y=>y.length<=sizeLine/\k=((y.length:Int) !=0)
 |.byt y=>y.size<=sizeLine/\k=((y.size:Int) !=0)
 |.ref p=>(∃xs,SqL K H p xs/\k= !xs.isEmpty)\/(∃xs,SqT K H p xs/\k= !xs.isEmpty)\/∃kvs,H p=some (.dK kvs)/\k= !kvs.isEmpty
 |_=>False
theorem zlh (r:KV kvs vs):(!vs.isEmpty)= !kvs.isEmpty:=by
 cases r<;>rfl
theorem zhz (r:Vals xs its):(!its.toArray.isEmpty)= !xs.isEmpty:=by
 cases r<;>simp
theorem zft:(sizeLine:Nat)<2 ^ 63:=by rw[sizeLine_eq];decide
theorem zso:TruR X (fun x H Q=>∃k,TruV X.K x H k/\Q k H):=by
  intro pins s σ H x v Q I rx h;obtain⟨k,e,q⟩:=h;have hl:=zft;have hs:sizeLine=16777216:=sizeLine_eq
  cases x with
  |non=>
    cases rx;have e':k=false:=e;subst e';exact truthy_none ⟨H,I,q⟩
  |bl b=>
    cases rx;have e':k=b:=e;subst e';exact wpAny_truthy_bool ⟨H,I,q⟩
  |int i=>
    obtain⟨t,rfl⟩:=rx;have e':k=(i !=0):=e;subst e';exact PySem.P.truthy_int ⟨H,I,q⟩
  |str y=>
    obtain⟨t,rfl⟩:=rx;obtain⟨hy,e'⟩:y.length<=sizeLine/\k=((y.length:Int) !=0):=e;subst e';exact PySem.P.truthy_str (by omega) ⟨H,I.tok _,q⟩
  |byt y=>
    obtain⟨t,rfl⟩:=rx;obtain⟨hy,e'⟩:y.size<=sizeLine/\k=((y.size:Int) !=0):=e;subst e';exact PySem.W.truthy_bytes (by omega) ⟨H,I.tok _,q⟩
  |ref p=>
    cases rx;have e':(∃xs,SqL X.K H p xs/\k= !xs.isEmpty)\/(∃xs,SqT X.K H p xs/\k= !xs.isEmpty)\/∃kvs,H p=some (.dK kvs)/\k= !kvs.isEmpty:=e;rcases e' with⟨xs,hx,e'⟩ |⟨xs,hx,e'⟩ |⟨kvs,hx,e'⟩
    · subst e';obtain⟨its,r,pl,hz⟩:=I.list hx;have hlen:=r.length;exact wpAny_truthy_list pl.isList (by simp only[List.size_toArray];omega) ⟨H,I.tok _,by rw[zhz r];exact q⟩
    · subst e';obtain⟨its,r,pl,hz⟩:=I.tuple hx;have hlen:=r.length;exact truthy_tuple pl (by simp only[List.size_toArray];omega) ⟨H,I.tok _,by rw[zhz r];exact q⟩
    · subst e';obtain⟨hz,hS,vs,r,m⟩:kvs.length<=sizeLine/\(p==sysModules)=false/\∃vs,KV kvs vs/\s.heap.DictOf (zbk X.prog X.w) p vs:=I.hok p _ hx;have hlen:kvs.length=vs.length:=Paired.length r;exact wpAny_truthy_dict hS m (by omega) ⟨H,I.tok _,by rw[zlh r];exact q⟩
  |_=>exact(show False from e).elim
theorem znQ (ha:PE X a ta)(he:∀whole,isTrue a X.env whole=(do let v <-whole;standAt a.pos;holding [v] (truthy v))):
  PT X a (fun σ H Q=>ta σ H fun x H'=>∃k,TruV X.K x H' k/\Q k H'):=by
 intro pins s σ H Q I h;exact isTrue_plain (thn (ha pins s σ H _ I h) fun v s1 ⟨x,H1,I1,r1,q1⟩=>zso pins s1 σ H1 x v Q I1 r1 q1) (he _)
theorem zkS:OpR X (binaryOp .Add) (fun x y H Q=>∃i j,x=.str i/\y=.str j/\i.length + j.length<=sizeLine/\Q (.str (i ++ j)) H):=by
 intro pins s σ H x y v u Q I rx ry h;obtain⟨i,j,rfl,rfl,hz,q⟩:=h;obtain⟨t,rfl⟩:=rx;obtain⟨t',rfl⟩:=ry;exact add_str (fun t' tk=>⟨.str (i ++ j),H,I.tok _,⟨_,rfl⟩,q⟩) hz
theorem vals1 (r:Vals [x] us):∃u,us=[u]/\RelV x u:=by
 cases r with
 |cons r1 r2=>cases r2;exact⟨_,rfl,r1⟩
theorem vals2 (r:Vals [x,y] us):∃u w',us=[u,w']/\RelV x u/\RelV y w':=by
  cases r with
  |cons r1 r2=>
    cases r2 with
    |cons r3 r4=>cases r4;exact⟨_,_,rfl,r1,r3⟩
theorem zlr (hc:X.calm=true):zdM X (.builtin "min") (fun xs H Q=>∃i j,xs=[.int i,.int j]/\Q (.int (if j<i then j else i)) H):=by
 intro pins s σ H xs us Q I r h;obtain⟨i,j,rfl,q⟩:=h;obtain⟨u,w',rfl,⟨t,rfl⟩,⟨t',rfl⟩⟩:=vals2 r;refine min_two_ints (I.ok.hd hc) fun h' tk k=>⟨_,H,I.kept k,?_,q⟩
 by_cases hj:j<i
 ·rw[if_pos hj,if_pos hj];exact⟨_,rfl⟩
 ·rw[if_neg hj,if_neg hj];exact⟨_,rfl⟩
theorem za4:zdM X (.type "str") (fun xs H Q=>∃i,xs=[.int i]/\i.natAbs.log2<1920/\Q (.str (toString i)) H):=by
 intro pins s σ H xs us Q I r h;obtain⟨i,rfl,hz,q⟩:=h;obtain⟨u,rfl,t,rfl⟩:=vals1 r;exact PySem.P.str_of_int hz ⟨.str _,H,I.tok _,⟨_,rfl⟩,q⟩
end
structure ObjM (h:Heap)(x dx C:Addr)(mA:Mgx):Prop where
 obj:h.get? x=some (PySem.W.instObj C dx)
 ns:h.Ns1 dx mA
 ne:dx≠x
theorem zls {h:Heap}{dx:Addr}{mA:Mgx}(n:h.Ns1 dx mA):∃od,h.get? dx=some od/\∀name,PySem.W.lookIn name od=some (mA name):=by
 obtain⟨o,es,ep,ho,hd,hk,_,hm⟩:=n;refine⟨o,ho,fun name=>?_⟩;have e:=hm name;unfold nsFind findBy at e;rw[<-Array.find?_toList]at e;unfold PySem.W.lookIn;rw[hd];dsimp only
 split
 ·rename_i y q;rw[q]at e;exact congrArg some e
 ·rename_i q;rw[q]at e;have a:es.toList.any (·.refKey)=false:=by
   rw[List.any_eq_false];intro y hy;obtain⟨z,t,hkey⟩:=hk y (Array.mem_toList_iff.mp hy)
   simp[DictEntry.refKey,hkey]
  have a':¬ es.toList.any (·.refKey)=true:=by rw[a];exact Bool.false_ne_true
  rw[if_neg a'];exact congrArg some e
theorem ObjM.look (I:ObjM h x dx C mA):∃od,PySem.W.InstAt h x (PySem.W.instObj C dx) C (some od)/\∀name,PySem.W.lookIn name od=some (mA name):=
 let ⟨od,ho,hl⟩:=zls I.ns
 ⟨od,⟨I.obj,rfl,rfl,ho⟩,hl⟩
section
variable {prog:Program}{w:World}{A:Around}{E:Value->Shared->Prop}{s:Shared}{K:Fgx}{x dx C f:Addr}{mA:Mgx}{name:Str}{v:Value}
theorem zpy (X:K.In s.heap)(I:ObjM s.heap x dx C mA)
  (hs:PySem.W.findIn K (.ref C) "__setattr__"=some (some (.builtin "object.__setattr__"))) (hp:PySem.W.plainOver K C=true) (ht:PySem.W.takerIn K C name=some none) (hh:PySem.W.hasDictIn K C=true)
  (hw:PySem.Within mA ns) (hsz:ns.length<=sizeLine)
  (h:∀h',ObjM h' x dx C (fun y=>if y=name then some v else mA y)->Heap.SameBut dx s.heap h'->Q () {s with heap:=h',toks:=s.toks + 2}):
  wpAny (model prog w) A (setAttr (.ref x) name v) Q E s:=by
 obtain⟨od,J,hl⟩:=I.look;refine PySem.W.set_plain X J hs (PySem.W.osa_open (s:={s with toks:=s.toks + 1}) (r:=none) X J hp ht fun b=>?_);obtain⟨cd,hc,hd'⟩:=PySem.W.any_some hh;have hx:s.heap.get? x=some ⟨.ref C,some dx,.plain, #[]⟩:=I.obj;refine wpAny_bind (wpAny_pure (wpAny_bind (wpAny_bind (wpAny_loadPart hx (wpAny_bind (PySem.W.Looks.here (s:={s with toks:=s.toks + 1}) (PySem.W.looks_clsIn X hc) ?_))))));rw[hd'];refine wpAny_pure (a:=some dx) (wpAny_bind (wpAny_pure (wpAny_bind ?_)));refine wpAny_nsSet1 (s:={s with toks:=s.toks + 1}) I.ns fun h' hn2 hs2=>?_;obtain⟨oD,esD,epD,hoD,hdD,hcD⟩:=hn2.count (PySem.Within.cons name v hw);refine wpAny_bind (wpAny_lookBehind hoD (by rw[hdD];exact pastItsLine_dict (Nat.le_trans hcD (by rw[List.length_cons];omega))) ?_);exact wpAny_pure (h _ ⟨(hs2.2 _ (Ne.symm I.ne)).trans I.obj,hn2,I.ne⟩ hs2)
theorem znP (X:K.In s.heap)(hm:PySem.W.makesIn K C=true)
  (hi:PySem.W.findIn K (.ref C) "__init__"=some (some (.ref f))) (hf:PySem.W.typeIn K (.ref f)=some (.type "function"))
  (h:codeAny (model prog w) (A.under (.builtin "type.__call__" ⟨.ref C::vs,kw⟩)) (.call (.ref f) ⟨.ref (s.heap.objs.size + 1)::vs,kw⟩) (PySem.W.InitBack (s.heap.objs.size + 1) R)
   {s with heap:=(s.heap.push PySem.W.emptyDict).push (PySem.W.instObj C s.heap.objs.size)}):
  codeAny (model prog w) A (.call (.ref C) ⟨vs,kw⟩) R s:=by
 obtain⟨hh,g,d,t,os⟩:=s;exact PySem.W.make_core (PySem.W.makes_of X hm) (PySem.W.looks_findIn X hi) (fun self=>PySem.W.bind_fn X self hf) (.inl rfl) h
end
def putF (f:Str)(v:V):List (Str×V)->List (Str×V)
 | []=>[(f,v)]
 |(g,x)::r=>if g=f then(g,v)::r else(g,x)::putF f v r
theorem zgy (f g:Str)(v:V):∀fs:List (Str×V),(putF f v fs).lookup g=if g=f then some v else fs.lookup g
  | []=>by
    show List.lookup g [(f,v)]=_
    by_cases h:g=f
    · have hb:(g==f)=true:=beq_iff_eq.mpr h;simp only[List.lookup,hb,if_pos h]
    · have hb:(g==f)=false:=beq_eq_false_iff_ne.mpr h;simp only[List.lookup,hb,if_neg h]
  |(k,x)::r=>by
    have ih:=zgy f g v r;rw[show putF f v ((k,x)::r)=(if k=f then(k,v)::r else(k,x)::putF f v r) from rfl]
    by_cases hk:k=f
    · rw[if_pos hk]
      by_cases h:g=k
      · have hb:(g==k)=true:=beq_iff_eq.mpr h;simp only[List.lookup,hb,if_pos (h.trans hk)]
      · have hb:(g==k)=false:=beq_eq_false_iff_ne.mpr h;simp only[List.lookup,hb,if_neg (fun e:g=f=>h (e.trans hk.symm))]
    · rw[if_neg hk]
      by_cases h:g=k
      · have hb:(g==k)=true:=beq_iff_eq.mpr h;simp only[List.lookup,hb,if_neg (fun e:g=f=>hk (h.symm.trans e))]
      · have hb:(g==k)=false:=beq_eq_false_iff_ne.mpr h;simp only[List.lookup,hb];exact ih
theorem zgw (f:Str)(v:V):∀fs:List (Str×V),f∈(putF f v fs).map (·.1)/\∀g,g∈fs.map (·.1)->g∈(putF f v fs).map (·.1)
  | []=>⟨by simp[putF],fun g h=>by simp at h⟩
  |(k,x)::r=>by
    obtain⟨i1,i2⟩:=zgw f v r;rw[show putF f v ((k,x)::r)=(if k=f then(k,v)::r else(k,x)::putF f v r) from rfl]
    by_cases hk:k=f
    · rw[if_pos hk];subst hk;exact⟨by simp,fun g h=>by simpa using h⟩
    · rw[if_neg hk];refine⟨?_,fun g h=>?_⟩
      · rw[List.map_cons];exact List.mem_cons_of_mem _ i1
      · rw[List.map_cons]at h ⊢;rcases List.mem_cons.mp h with e |e
        · exact List.mem_cons.mpr (.inl e)
        · exact List.mem_cons_of_mem _ (i2 g e)
theorem zgn (f:Str)(v:V):∀fs:List (Str×V),(putF f v fs).length<=fs.length + 1
  | []=>by simp[putF]
  |(k,x)::r=>by
    have ih:=zgn f v r;rw[show putF f v ((k,x)::r)=(if k=f then(k,v)::r else(k,x)::putF f v r) from rfl]
    by_cases hk:k=f
    · rw[if_pos hk,List.length_cons,List.length_cons];omega
    · rw[if_neg hk,List.length_cons,List.length_cons];omega
section
variable {P:Program}{w:World}{H H':Hp}{h h':Heap}{a C dx:Addr}{fs fs':List (Str×V)}
theorem zmr (hok:HOk P w H h)(e:H a=some (.ins C dx fs)):∃mA,ObjM h a dx C mA/\(∀f,RelO (fs.lookup f) (mA f))/\PySem.Within mA (fs.map (·.1))/\fs.length<=1000/\H dx=some (.own a):=by
 obtain⟨d,z,ne,ob,mA,n,r,q⟩:=(show zbC P w H h a (.ins C dx fs) from hok a _ e);exact⟨mA,⟨ob,n,ne⟩,r,q,z,d⟩
end
structure Cls (K:Fgx)(C:Addr):Prop where
 pg:PySem.W.plainGet K C Str.empty=true
 hd:PySem.W.hasDictIn K C=true
 po:PySem.W.plainOver K C=true
 sa:PySem.W.findIn K (.ref C) "__setattr__"=some (some (.builtin "object.__setattr__"))
theorem Cls.get {K:Fgx}{C:Addr}(c:Cls K C)(f:Str):PySem.W.plainGet K C f=true:=c.pg
def zgK (K:Fgx)(C:Addr)(f:Str):Prop:=PySem.W.findIn K (.ref C) f=some none
theorem zgK.taker {K:Fgx}{C:Addr}{f:Str}(n:zgK K C f):PySem.W.takerIn K C f=some none:=by
 unfold PySem.W.takerIn;rw[show PySem.W.findIn K (.ref C) f=some none from n];rfl
structure Con (K:Fgx)(C:Addr)(f:Str)(v:V)(u:Value):Prop where
 at_:PySem.W.findIn K (.ref C) f=some (some u)
 rel:RelV v u
 get:PySem.W.specialIn K u "__get__"=some none
 cp:PySem.W.copiedNames.contains f=false
structure Meth (K:Fgx)(C:Addr)(m:Str)(f:Addr):Prop where
 at_:PySem.W.findIn K (.ref C) m=some (some (.ref f))
 fn:PySem.W.isFn K (.ref f)=true
 kp:PySem.W.keepIn K (.ref f)=true
section
variable {X:Cx}{pins:Pnx}{σ:St}{H:Hp}{s:Shared}{a C dx:Addr}{fs:List (Str×V)}{f:Str}{v:V}{A:Around}{E:Value->Shared->Prop}
theorem zkT (I:Inv X pins σ H s)(e:H a=some (.ins C dx fs))(c:Cls X.K C)(n:zgK X.K C f)(hl:fs.length<1000)(ry:RelV y u)
  (h:∀s',Inv X pins σ (upd H a (.ins C dx (putF f y fs))) s'->Q () s'):wpAny (model X.prog X.w) A (setAttr (.ref a) f u) Q E s:=by
 obtain⟨mA,O,r,wi,_,ho⟩:=zmr I.hok e;have hz:(fs.map (·.1)).length<=sizeLine:=by rw[List.length_map,sizeLine_eq];omega
 refine zpy I.kIn O c.sa c.po n.taker c.hd wi hz fun h' O' sb=>h _ ?_;have hd:∃o,h'.get? dx=some o:=let ⟨o,_,_,e',_⟩:=O'.ns;⟨o,e'⟩
 refine I.write (x:=a) (e:=dx) (by rw[e];exact True.intro) (.inr ho) (fun b q hb z=>(sb.2 b hb).trans z) hd ?_;refine⟨by rw[zak O.ne];exact ho,?_,O.ne,O'.obj,_,O'.ns,fun g=>?_,fun g hg=>?_⟩
 ·have:=zgn f y fs;omega
 ·show RelO ((putF f y fs).lookup g) (if g=f then some u else mA g)
  rw[zgy]
  by_cases q:g=f
  ·rw[if_pos q,if_pos q];exact ry
  ·rw[if_neg q,if_neg q];exact r g
 ·by_cases q:g=f
  ·rw[q];exact(zgw f y fs).1
  ·refine(zgw f y fs).2 g (wi g fun z=>hg ?_);show(if g=f then some u else mA g)=none
   rw[if_neg q];exact z
theorem Inv.made (I:Inv X pins σ H s):Inv X pins σ (upd (upd H s.heap.objs.size (.own (s.heap.objs.size + 1))) (s.heap.objs.size + 1) (.ins C s.heap.objs.size []))
  {s with heap:=(s.heap.push PySem.W.emptyDict).push (PySem.W.instObj C s.heap.objs.size)}:=by
 have e1:(s.heap.push PySem.W.emptyDict).get? s.heap.objs.size=some PySem.W.emptyDict:=Heap.get?_push_size s.heap rfl;have e2:((s.heap.push PySem.W.emptyDict).push (PySem.W.instObj C s.heap.objs.size)).get? (s.heap.objs.size + 1)=some (PySem.W.instObj C s.heap.objs.size):=by
  have:=Heap.get?_push_size (s.heap.push PySem.W.emptyDict) (o:=PySem.W.instObj C s.heap.objs.size) rfl
  rwa [Heap.size_push]at this
 have e3:(s.heap.push PySem.W.emptyDict).Ns s.heap.objs.size (fun _=>none):=⟨PySem.W.emptyDict, #[],_,e1,rfl,(fun e he=>absurd he (by simp)),fun _=>rfl⟩;have I1:=I.laid (a:=s.heap.objs.size) (o:=.own (s.heap.objs.size + 1)) (h':=s.heap.push PySem.W.emptyDict) (t':=s.toks) (fun b u q=>Heap.get?_push_of_some _ q) (Nat.le_refl _) ⟨_,e1⟩;refine I1.laid (a:=s.heap.objs.size + 1) (o:=.ins C s.heap.objs.size []) (t':=s.toks) (fun b u q=>Heap.get?_push_of_some _ q) (Nat.le_of_eq (Heap.size_push _ _)) ?_;have ne:s.heap.objs.size≠s.heap.objs.size + 1:=Nat.ne_of_lt (Nat.lt_succ_self _);refine⟨by rw[zak ne,zar],Nat.zero_le _,ne,e2,fun _=>none,(Heap.Ns1.of_empty e3).at fun o q=>Heap.get?_push_of_some _ q,fun _=>True.intro,fun y hy=>absurd rfl hy⟩
end
def sFld (K:Fgx)(ta tv:TE)(f:Str):TS:=fun D σ H=>tv σ H fun y H1=>ta σ H1 fun x H2=>∃a C dx fs,x=.ref a/\H2 a=some (.ins C dx fs)/\Cls K C/\zgK K C f/\fs.length<1000/\
 D.nx σ (upd H2 a (.ins C dx (putF f y fs)))
section
variable {X:Cx}{o e value:Expr}{f:Str}{pos pos' tpos:Pos}{ta tv:TE}
theorem zt2 (ha:PE X o ta)(hv:PE X value tv)(hs:swapsWith value (some (.Attribute o f pos')) pos.line X.env=pure false):PS X (.Assign [.Attribute o f pos'] value pos) (sFld X.K ta tv f):=by
 intro pins s σ H D I h;refine plainObj_wpAny_Assign_Attribute (thn (hv pins s σ H _ I h) fun u s1 ⟨y,H1,I1,ry,q⟩=>thn (ha pins s1 σ H1 _ I1 q) fun ov s2 ⟨x,H2,I2,rx,a,C,dx,fs,ex,ea,c,n,l,q2⟩=>?_) hs;subst ex;obtain rfl:ov=Value.ref a:=rx;exact zkT I2 ea c n l ry fun s3 I3=>⟨σ,_,I3,q2⟩
def rAdd:V->V->Hp->VK->Prop:=fun x y H Q=>∃i j,x=.int i/\y=.int j/\Q (.int (i + j)) H
end
section
variable {X:Cx}{pins:Pnx}{σ:St}{H:Hp}{s:Shared}{A:Around}{E:Value->Shared->Prop}{Q:Value->Shared->Prop}{c:Value}{b:Bool}
inductive TyOf (K:Fgx)(H:Hp):V->Value->Prop where
 |non:TyOf K H .non (.type "NoneType")
 |bl (x:Bool):TyOf K H (.bl x) (.type "bool")
 |int (i:Int):TyOf K H (.int i) (.type "int")
 |str (x:Str):TyOf K H (.str x) (.type "str")
 |flt (x:UInt64):TyOf K H (.flt x) (.type "float")
 |lst {a:Addr} {xs:List V} (e:H a=some (.lst xs)):TyOf K H (.ref a) (.type "list")
 |frz {a:Addr} {o:Obj} {xs:List V} (e:H a=some (.frz o (.lst xs))):TyOf K H (.ref a) (.type "list")
 |tup {a:Addr} {xs:List V} (e:H a=some (.tup xs)):TyOf K H (.ref a) (.type "tuple")
 |dK {a:Addr} {kvs:List (Key×V)} (e:H a=some (.dK kvs)):TyOf K H (.ref a) (.type "dict")
 |dT {a:Addr} {kvs:List (List Key×V)} (e:H a=some (.dT kvs)):TyOf K H (.ref a) (.type "dict")
 |ins {a C dx:Addr} {fs:List (Str×V)} (e:H a=some (.ins C dx fs)) (cl:Cls K C) (ha:PySem.W.findIn K (.ref C) "__class__"=some (some (.builtin "object.__class__")))
   (hn:PySem.W.specialIn K (.builtin "object.__class__") "__get__"=some (some (.builtin "getset_descriptor.__get__"))) (htk:PySem.W.takesIn K (.builtin "object.__class__")=some true)
   (hm:PySem.W.mroIn K C (.type "object")=some true):TyOf K H (.ref a) (.ref C)
theorem zfe (I:Inv X pins σ H s)(rx:RelV x u)(ty:TyOf X.K H x t)(e:PySem.W.kitOne X.K t c=some b)(h:∀tk,Q (.bool b) {s with toks:=tk}):
    wpAny (model X.prog X.w) A (call (.builtin "isinstance") [u,c]) Q E s:=by
  cases ty with
  |non=>cases (show u=Value.none from rx);exact PySem.W.kia_one PySem.W.kitx_none I.kIn True.intro e (fun z=>nomatch z) h
  |bl y=>cases (show u=Value.bool y from rx);exact PySem.W.kia_one PySem.W.kitx_bool I.kIn True.intro e (fun z=>nomatch z) h
  |int i=>obtain⟨t,q⟩:=(show ∃t,u=Value.int i t from rx);cases q;exact PySem.W.kia_one PySem.W.kitx_int I.kIn True.intro e (fun z=>nomatch z) h
  |str y=>obtain⟨t,q⟩:=(show ∃t,u=Value.str y t from rx);cases q;exact PySem.W.kia_one PySem.W.kitx_str I.kIn True.intro e (fun z=>nomatch z) h
  |flt y=>obtain⟨t,q⟩:=(show ∃t,u=Value.float y t from rx);cases q;exact PySem.W.kia_one PySem.W.kitx_float I.kIn True.intro e (fun z=>nomatch z) h
  | @lst a xs ea=>
    cases (show u=Value.ref a from rx);obtain⟨_,_,n,_,h1⟩:=(show zbC X.prog X.w H s.heap a (.lst xs) from I.hok a _ ea);exact PySem.W.kia_one PySem.W.kitx_list I.kIn ⟨_,h1,rfl⟩ e (fun z=>nomatch z) h
  | @frz a ob xs ea=>
    cases (show u=Value.ref a from rx);obtain⟨_,_,_,n,_,h1⟩:=(show zbC X.prog X.w H s.heap a (.frz ob (.lst xs)) from I.hok a _ ea);exact PySem.W.kia_one PySem.W.kitx_list I.kIn ⟨_,h1,rfl⟩ e (fun z=>nomatch z) h
  | @tup a xs ea=>
    cases (show u=Value.ref a from rx);obtain⟨_,_,_,p⟩:=(show zbC X.prog X.w H s.heap a (.tup xs) from I.hok a _ ea);obtain⟨o,h1,h2,_⟩:=p;exact PySem.W.kia_one PySem.W.kitx_tuple I.kIn ⟨o,h1,h2⟩ e (fun z=>nomatch z) h
  | @dK a kvs ea=>
    cases (show u=Value.ref a from rx);obtain⟨_,_,vs,_,p⟩:=(show zbC X.prog X.w H s.heap a (.dK kvs) from I.hok a _ ea);obtain⟨o,es,ep,h1,h2,_⟩:=p;exact PySem.W.kia_one PySem.W.kitx_dict I.kIn ⟨o,h1,h2.1⟩ e (fun z=>nomatch z) h
  | @dT a kvs ea=>
    cases (show u=Value.ref a from rx);obtain⟨_,_,xs,_,o,es,ep,h1,h2,_⟩:=(show zbC X.prog X.w H s.heap a (.dT kvs) from I.hok a _ ea);exact PySem.W.kia_one PySem.W.kitx_dict I.kIn ⟨o,h1,h2.1⟩ e (fun z=>nomatch z) h
  | @ins a C dx fs ea cl ha hn htk hm=>
    cases (show u=Value.ref a from rx);obtain⟨mA,O,_⟩:=zmr I.hok ea;obtain⟨od,J,_⟩:=O.look;exact PySem.W.kia_one (PySem.W.kitx_own (cl.get _) cl.hd ha hn htk hm) I.kIn J e (fun z=>nomatch z) h
end
structure Room (k:Nat)(A:Around):Prop where
 hd:A.handled=none
 dp:A.depth + 3 * k + 5<recursionLimit
 un:A.units + 16 * k + 200<cLine
theorem Room.mono (r:Room k A)(h:j<=k):Room j A:=⟨r.hd,by have:=r.dp;omega,by have:=r.un;omega⟩
theorem Room.deeper (r:Room (k + 1) A)(env:Env):Room k (A.deeper env):=
 ⟨r.hd,by have:=r.dp;show A.depth + 1 + 3 * k + 5<_;omega,by have:=r.un;show A.units + 3 + 16 * k + 200<_;omega⟩
theorem zla {A:Around}{C:Addr}{us:List Value}{kw:List (Str×Value)}:(A.under (.builtin "type.__call__" ⟨.ref C::us,kw⟩)).depth=A.depth + 1:=by
 first |rfl |simp[Around.under,Code.weight,Code.isCreation,Code.isGuard,Code.isCaller,Code.frames,Code.isFrame,guardIds]
theorem zkY {A:Around}{C:Addr}{us:List Value}{kw:List (Str×Value)}:(A.under (.builtin "type.__call__" ⟨.ref C::us,kw⟩)).units=A.units + 1:=by
 first |rfl |simp[Around.under,Code.cUnits,Code.frames,Code.isFrame]
theorem Room.make (r:Room (k + 1) A)(C:Addr)(us:List Value)(kw:List (Str×Value)):Room k (A.under (.builtin "type.__call__" ⟨.ref C::us,kw⟩)):=
 ⟨r.hd,by have:=r.dp;rw[zla];omega,by have:=r.un;rw[zkY];omega⟩
theorem Room.depth (r:Room k A):A.depth<recursionLimit:=by have:=r.dp;omega
theorem Room.units (r:Room k A):A.units + 64<cLine:=by have:=r.un;omega
def tNil:TA:=fun _ H Q=>Q [] H
def zwk (ta:TE)(tr:TA):TA:=fun σ H Q=>ta σ H fun x H1=>tr σ H1 fun xs H2=>Q (x::xs) H2
section
variable {X:Cx}{e:Expr}{es:List Expr}{te:TE}{t:TA}{pos:Pos}
theorem zfX:PA X [] tNil:=fun _ _ _ _ H Q I h=>Calls.spliced_nil ⟨[],H,I,.nil,h⟩
theorem zdy (ha:PE X e te)(hr:PA X es t)(hs:starEach (e::es) X.env=(false,eval e X.env)::starEach es X.env:=by rfl):PA X (e::es) (zwk te t):=by
 intro pos pins s σ H Q I h;rw[hs];show wpAny _ _ (spliced ((false,eval e X.env)::backTo pos (starEach es X.env))) _ _ s;refine Calls.spliced_cons (thn (ha pins s σ H _ I h) fun u s1 ⟨x,H1,I1,r1,q1⟩=>?_);exact thn (hr pos pins s1 σ H1 _ I1 q1) fun us s2 ⟨xs,H2,I2,r2,q2⟩=>⟨x::xs,H2,I2,.cons r1 r2,q2⟩
def tTup (t:TA):TE:=fun σ H Q=>t σ H fun xs H1=>xs.length<=sizeLine/\∀p,H1 p=none->Q (.ref p) (upd H1 p (.tup xs))
def tLst (t:TA):TE:=fun σ H Q=>t σ H fun xs H1=>xs.length<=sizeLine/\∀p,H1 p=none->Q (.ref p) (upd H1 p (.lst xs))
theorem zrh {x1}(h:PA X es t):PE X (.Tuple es x1 pos) (tTup t):=by
 intro pins s σ H Q I hq;refine wpAny_Tuple_spliced (thn (h pos pins s σ H _ I hq) fun us s1 ⟨xs,H1,I1,r,z,q⟩=>⟨by rw[<-r.length];exact z,?_⟩);have hf:H1 s1.heap.objs.size=none:=I1.hok.fresh (Nat.le_refl _);refine⟨.ref s1.heap.objs.size,upd H1 s1.heap.objs.size (.tup xs),I1.laid (t':=s1.toks) (fun b u e=>Heap.get?_push_of_some _ e) (Nat.le_refl _) ?_,rfl,q _ hf⟩;exact⟨z,us,r,⟨_,Heap.get?_push_size _ rfl,rfl,_,rfl⟩⟩
theorem zr0 (h:PA X es t):PE X (.List es pos) (tLst t):=by
 intro pins s σ H Q I hq;refine wpAny_List_spliced (thn (h pos pins s σ H _ I hq) fun us s1 ⟨xs,H1,I1,r,z,q⟩=>⟨by rw[<-r.length];exact z,?_⟩);have hf:H1 s1.heap.objs.size=none:=I1.hok.fresh (Nat.le_refl _);refine⟨.ref s1.heap.objs.size,upd H1 s1.heap.objs.size (.lst xs),I1.laid (t':=s1.toks) (fun b u e=>Heap.get?_push_of_some _ e) (Nat.le_refl _) ?_,rfl,q _ hf⟩;exact⟨z,us,0,r,Heap.get?_push_size _ rfl⟩
end
abbrev Sp:=List V->Hp->VK->XK->Prop
abbrev CXT:=List Env->Hp->Shared->XK->Value->Shared->Prop
structure Env0 (P:Program)(w:World)(K:Fgx)(mg:Mgx)(base:Heap)(A:Around)(outer:List Env)(s:Shared)(H:Hp):Prop where
 frames:A.frames=some outer
 mod:Mod K mg base
 bs:∀b o,base.get? b=some o->s.heap.get? b=some o/\H b=none
 bsz:base.objs.size<=s.heap.objs.size
 funs:s.heap.FunFrames base outer
 frf:∀b∈frs outer,H b=none
 hok:HOk P w H s.heap
 bare:AllBare s.gens
def CE (outer:List Env)(P:Program)(w:World)(H:Hp)(s:Shared)(Q:VK)(u:Value)(s':Shared):Prop:=
 ∃v H',s'.os=s.os/\AllBare s'.gens/\Un (frs outer) [] H H' s.heap s'.heap/\HOk P w H' s'.heap/\RelV v u/\Q v H'
def CR (CX:CXT)(outer:List Env)(P:Program)(w:World)(H:Hp)(s:Shared)(Q:VK)(E:XK)(r:Result)(s':Shared):Prop:=
 match r with
 |.ok (.ret u)=>CE outer P w H s Q u s'
 |.ok _=>False
 |.error e=>CX outer H s E e s'
structure FnOk (P:Program)(w:World)(K:Fgx)(mg:Mgx)(base:Heap)(CX:CXT)(k:Nat)(f:Addr)(fd:FuncData)(ps:List Str)(sp:Sp):Prop where
 len:∀vs H Q E,sp vs H Q E->vs.length=ps.length
 run:∀(A:Around) (outer:List Env) (s:Shared) (H:Hp) (args:Args) (us:List Value) (vs:List V) (Q:VK) (E:XK),Room k A->Env0 P w K mg base A outer s H->BindsTo s fd args (ps.zip us)->Vals vs us->sp vs H Q E->
  codeAny (model P w) A (.call (.ref f) args) (CR CX outer P w H s Q E) s
theorem FnOk.mono {P:Program}{w:World}{K:Fgx}{mg:Mgx}{base:Heap}{CX:CXT}{j k:Nat}{f:Addr}{fd:FuncData}{ps:List Str}{sp:Sp}(F:FnOk P w K mg base CX j f fd ps sp)(h:j<=k):
  FnOk P w K mg base CX k f fd ps sp:=⟨F.len,fun A outer s H args us vs Q E hr=>F.run A outer s H args us vs Q E (hr.mono h)⟩
theorem Env0.make {P:Program}{w:World}{K:Fgx}{mg:Mgx}{base:Heap}{A:Around}{outer:List Env}{s:Shared}{H:Hp}(e:Env0 P w K mg base A outer s H)(C:Addr)(us:List Value)(kw:List (Str×Value)):
  Env0 P w K mg base (A.under (.builtin "type.__call__" ⟨.ref C::us,kw⟩)) outer s H:=⟨by first |exact e.frames |(simpa [Around.under,Code.envs,Code.isFrame,pushEnvs] using e.frames),e.mod,e.bs,e.bsz,e.funs,e.frf,e.hok,e.bare⟩
section
variable {X:Cx}{pins:Pnx}{σ:St}{H:Hp}{s s':Shared}
theorem Inv.env0 (I:Inv X pins σ H s):Env0 X.prog X.w X.K X.mg X.base X.A X.stack s H:=
 ⟨I.ok.frames,I.ok.mod,I.bs,Nat.le_trans I.ok.bsz I.sz,I.stack,I.stkFree,I.hok,I.bare⟩
theorem Inv.after (I:Inv X pins σ H s)(h:CE X.stack X.prog X.w H s Q u s'):EP X pins σ Q u s':=by
 obtain⟨v,H',os,bare,un,hok,r,q⟩:=h;obtain⟨hh,g,d,t,os'⟩:=s';obtain rfl:os'=s.os:=os;exact⟨v,H',I.call (h':=hh) (g':=g) (d':=d) (t':=t) (ch:=[]) un hok bare (fun b z=>absurd z (by simp)),r,q⟩
end
def zv4 (sp:Sp)(dvs:List V)(E:XK)(t:TA):TE:=fun σ H Q=>t σ H fun vs H1=>sp (vs ++ dvs) H1 Q E
def zup (C:Addr)(sp:Sp)(dvs:List V)(E:XK)(t:TA):TE:=fun σ H Q=>t σ H fun vs H1=>∀x dx,H1 x=none->H1 dx=none->dx≠x->
 sp (.ref x::(vs ++ dvs)) (upd (upd H1 dx (.own x)) x (.ins C dx [])) (fun v H2=>v=.non/\Q (.ref x) H2) E
def Binds (K:Fgx)(fd:FuncData)(ps:List Str)(ds:List Value):Prop:=
 ∀(s:Shared) (us:List Value),K.In s.heap->(us ++ ds).length=ps.length->BindsTo s fd ⟨us,[]⟩ (ps.zip (us ++ ds))
theorem Binds.all {K:Fgx}{fd:FuncData}{ps:List Str}(h:∀us:List Value,us.length=ps.length->bindArgs fd ⟨us,[]⟩=pure (ps.zip us)):Binds K fd ps []:=fun s us _ hl=>by
 rw[List.append_nil]at hl ⊢;exact .of_eq (h us hl)
def Passes (CX:CXT)(X:Cx)(E:XK):Prop:=∀(pins:Pnx) (σ:St) (H:Hp) (s:Shared) (e:Value) (s':Shared),Inv X pins σ H s->CX X.stack H s E e s'->X.xe e s'
section
variable {X:Cx}{CX:CXT}{k:Nat}{f C:Addr}{fd:FuncData}{ps:List Str}{sp:Sp}{dvs:List V}{ds:List Value}{E:XK}{x m:Str}{p pos apos:Pos}{e o:Expr}{es:List Expr}{ta:TE}{t:TA}
theorem zrY (F:FnOk X.prog X.w X.K X.mg X.base CX k f fd ps sp)(hr:Room k X.A)(hb:Binds X.K fd ps ds)(hd:Vals dvs ds)(hx:Passes CX X E)
    (I:Inv X pins σ H s) (r:Vals vs us) (h:sp (vs ++ dvs) H Q E):wpAny (model X.prog X.w) X.A (call (.ref f) us) (EP X pins σ Q) X.xe s:=by
  have r2:Vals (vs ++ dvs) (us ++ ds):=r.append hd;have hl:(us ++ ds).length=ps.length:=by rw[<-r2.length];exact F.len _ _ _ _ h
  refine wpAny_call (codeAny_mono (F.run X.A X.stack s H ⟨us,[]⟩ (us ++ ds) (vs ++ dvs) Q E hr I.env0 (hb s us I.kIn hl) r2 h) fun r s' hq=>?_)
  cases r with
  |error e=>exact hx pins σ H s e s' I hq
  |ok fl=>
    cases fl with
    |ret u=>exact I.after hq
    |next=>exact False.elim hq
    |brk=>exact False.elim hq
    |cont=>exact False.elim hq
theorem zmI (F:FnOk X.prog X.w X.K X.mg X.base CX k f fd ps sp)(hr:Room k X.A)(hg:Gl X x)(hm:X.mg x=some (.ref f))(hk:PySem.W.keepIn X.K (.ref f)=true)(hb:Binds X.K fd ps ds)(hd:Vals dvs ds)(hx:Passes CX X E)
  (ha:PA X (e::es) t) (hdb:(x==("__debug__":Str))=false:=by decide) (he:starEach (e::es) X.env=(false,eval e X.env)::starEach es X.env:=by rfl) (hpl:(backTo pos (starEach es X.env)).any (·.1)=false:=by rfl):
  PE X (.Call (.Name x p) (e::es) [] pos) (zv4 sp dvs E t):=by
 intro pins s σ H Q I h;refine wpAny_Call_Name_kw (zda I hg hm ?_ hdb);refine PySem.W.callWith_K (h₀:=X.base) I.ok.mod.kin hk (thn (ha pos pins s σ H _ I h) fun us s1 ⟨vs,H1,I1,r,q⟩=>⟨I1.kIn,?_⟩) he hpl;exact zrY F hr hb hd hx I1 r q
structure Mk (K:Fgx)(C f:Addr):Prop where
 makes:PySem.W.makesIn K C=true
 init:PySem.W.findIn K (.ref C) "__init__"=some (some (.ref f))
 fn:PySem.W.isFn K (.ref f)=true
 kp:PySem.W.keepIn K (.ref C)=true
theorem znl (M:Mk X.K C f)(F:FnOk X.prog X.w X.K X.mg X.base CX k f fd ps sp)(hr:Room (k + 1) X.A)(hb:Binds X.K fd ps ds)(hd:Vals dvs ds)
    (hx:Passes CX X E) (I:Inv X pins σ H s) (r:Vals vs us)
    (h:∀x dx,H x=none->H dx=none->dx≠x->sp (.ref x::(vs ++ dvs)) (upd (upd H dx (.own x)) x (.ins C dx [])) (fun v H2=>v=.non/\Q (.ref x) H2) E):
    wpAny (model X.prog X.w) X.A (call (.ref C) us) (EP X pins σ Q) X.xe s:=by
  have hq:=h (s.heap.objs.size + 1) s.heap.objs.size (I.hok.fresh (Nat.le_succ _)) (I.hok.fresh (Nat.le_refl _)) (Nat.ne_of_lt (Nat.lt_succ_self _));have I2:=Inv.made (C:=C) I;have r2:Vals (V.ref (s.heap.objs.size + 1)::(vs ++ dvs)) (Value.ref (s.heap.objs.size + 1)::(us ++ ds)):=.cons rfl (r.append hd);have hl:(Value.ref (s.heap.objs.size + 1)::us ++ ds).length=ps.length:=by
    have e:=r2.length;rw[F.len _ _ _ _ hq]at e;exact e.symm
  refine wpAny_call (znP (f := f) I.kIn M.makes M.init (beq_iff_eq.mp M.fn) (codeAny_mono (F.run _ X.stack _ _ ⟨Value.ref (s.heap.objs.size + 1)::us,[]⟩ (Value.ref (s.heap.objs.size + 1)::(us ++ ds)) _ _ E (hr.make C us [])
    (I2.env0.make C us []) (hb _ (Value.ref (s.heap.objs.size + 1)::us) I2.kIn hl) r2 hq) fun r s' hq'=>?_))
  cases r with
  |error e=>exact hx pins σ _ _ e s' I2 hq'
  |ok fl=>
    cases fl with
    |ret u=>
      obtain⟨v,H',I3,rv,ev,q3⟩:=I2.after hq';subst ev;exact⟨rv,⟨V.ref (s.heap.objs.size + 1),H',I3,rfl,q3⟩⟩
    |next=>exact False.elim hq'
    |brk=>exact False.elim hq'
    |cont=>exact False.elim hq'
theorem zqh (M:Mk X.K C f)(F:FnOk X.prog X.w X.K X.mg X.base CX k f fd ps sp)(hr:Room (k + 1) X.A)(hg:Gl X x)(hm:X.mg x=some (.ref C))(hb:Binds X.K fd ps ds)(hd:Vals dvs ds)(hx:Passes CX X E)
  (ha:PA X (e::es) t) (hdb:(x==("__debug__":Str))=false:=by decide) (he:starEach (e::es) X.env=(false,eval e X.env)::starEach es X.env:=by rfl) (hpl:(backTo pos (starEach es X.env)).any (·.1)=false:=by rfl):
  PE X (.Call (.Name x p) (e::es) [] pos) (zup C sp dvs E t):=by
 intro pins s σ H Q I h;refine wpAny_Call_Name_kw (zda I hg hm ?_ hdb);refine PySem.W.callWith_K (h₀:=X.base) I.ok.mod.kin M.kp (thn (ha pos pins s σ H _ I h) fun us s1 ⟨vs,H1,I1,r,q⟩=>⟨I1.kIn,?_⟩) he hpl;exact znl M F hr hb hd hx I1 r q
end
section
variable {X:Cx}{CX:CXT}{k:Nat}{f C:Addr}{fd:FuncData}{ps ks:List Str}{sp:Sp}{E:XK}{x m:Str}{p pos apos kpos:Pos}{e o:Expr}{es:List Expr}{kws:List Keyword}{te ta:TE}{t tk:TA}{nm:Option Str}
structure KBinds (K:Fgx)(fd:FuncData)(ps ks:List Str)(g:List Value->List Value->List Value)(gV:List V->List V->List V):Prop where
 to:∀(s:Shared) (us ws:List Value),K.In s.heap->(g us ws).length=ps.length->BindsTo s fd ⟨us,ks.zip ws⟩ (ps.zip (g us ws))
 rel:∀{vs:List V} {us:List Value} {zs:List V} {ws:List Value},Vals vs us->Vals zs ws->Vals (gV vs zs) (g us ws)
variable {g:List Value->List Value->List Value}{gV:List V->List V->List V}
end
structure FnScope (N P:List Str)(sc:Scope):Prop where
 kind:sc.kind=.function
 co:sc.isCoroutine=false
 gen:sc.isGenerator=false
 nd:N.Nodup
 pre:N.take P.length=P
 par:∀x∈P,sc.names.lookup x=some .local\/sc.names.lookup x=some .cell
 nofree:∀y∈sc.names,y.2≠ .free
theorem zjj {kindOf:Str->Option NameKind}{x:Str}:∀{binds:List (Str×Value)} {m:Mgx},(∀v,(x,v)∉binds)->bindL kindOf binds m x=m x
  | [],_,_=>rfl
  |(n,v)::r,m,h=>by
    unfold bindL;rw[zjj fun w hw=>h w (List.mem_cons_of_mem _ hw)]
    split
    · have:x≠n:=by rintro rfl;exact h v List.mem_cons_self
      simp[this]
    · rfl
theorem zja {kindOf:Str->Option NameKind}{x:Str}:∀{binds:List (Str×Value)} {m:Mgx},(∀v,(x,v)∉binds)->bindC kindOf binds m x=m x
  | [],_,_=>rfl
  |(n,v)::r,m,h=>by
    unfold bindC;rw[zja fun w hw=>h w (List.mem_cons_of_mem _ hw)]
    split
    · rfl
    · have:x≠n:=by rintro rfl;exact h v List.mem_cons_self
      simp[this]
theorem zi1 {kindOf:Str->Option NameKind}{x:Str}{v:Value}:∀{P:List Str} {vs:List Value} {i:Nat} {m:Mgx},P.Nodup->P[i]? =some x->vs[i]? =some v->kindOf x=some .local->
    bindL kindOf (P.zip vs) m x=some v
  | [],_,_,_,_,h,_,_=>by simp at h
  |_::_,[],_,_,_,_,h,_=>by simp at h
  |p::P,w::vs,0,m,nd,h1,h2,hk=>by
    simp at h1 h2;subst h1;subst h2
    show bindL kindOf ((p,w)::P.zip vs) m p=_;unfold bindL;rw[zjj fun v hv=>(List.nodup_cons.mp nd).1 (List.of_mem_zip hv).1,if_pos hk]
    simp
  |p::P,w::vs,i + 1,m,nd,h1,h2,hk=>by
    show bindL kindOf ((p,w)::P.zip vs) m x=_;unfold bindL;exact zi1 (i:=i) (List.nodup_cons.mp nd).2 (by simpa using h1) (by simpa using h2) hk
theorem zjk {kindOf:Str->Option NameKind}{x:Str}{v:Value}:∀{P:List Str} {vs:List Value} {i:Nat} {m:Mgx},P.Nodup->P[i]? =some x->vs[i]? =some v->kindOf x≠some .local->
    bindC kindOf (P.zip vs) m x=some v
  | [],_,_,_,_,h,_,_=>by simp at h
  |_::_,[],_,_,_,_,h,_=>by simp at h
  |p::P,w::vs,0,m,nd,h1,h2,hk=>by
    simp at h1 h2;subst h1;subst h2
    show bindC kindOf ((p,w)::P.zip vs) m p=_;unfold bindC;rw[zja fun v hv=>(List.nodup_cons.mp nd).1 (List.of_mem_zip hv).1,if_neg hk]
    simp
  |p::P,w::vs,i + 1,m,nd,h1,h2,hk=>by
    show bindC kindOf ((p,w)::P.zip vs) m x=_;unfold bindC;exact zjk (i:=i) (List.nodup_cons.mp nd).2 (by simpa using h1) (by simpa using h2) hk
def start (N:List Str)(vs:List V):St:=vs.map some ++ List.replicate (N.length - vs.length) none
def cxOf (CX:CXT)(P:Program)(w:World)(K:Fgx)(mg:Mgx)(base:Heap)(N:List Str)(qual:Str)(scope:Scope)(f:Addr)(cd:Value)(A:Around)(outer:List Env)(s:Shared)(H:Hp)(E:XK):Cx where
 prog:=P
 w:=w
 K:=K
 mg:=mg
 base:=base
 A:=A.deeper (envOfC qual scope s.heap.objs.size f cd)
 N:=N
 s₀:=s
 H₀:=H
 env:=envOfC qual scope s.heap.objs.size f cd
 outer:=outer
 stack:=envOfC qual scope s.heap.objs.size f cd::outer
 ex:=[]
 calm:=true
 fn:=fun _=>true
 pn:=[]
 xe:=fun e s'=>wpAny (model P w) (A.deeper (envOfC qual scope s.heap.objs.size f cd)) (leaving (envOfC qual scope s.heap.objs.size f cd) e) (fun _ s''=>CX outer H s E e s'') (fun e' s''=>CX outer H s E e' s'') s'
theorem zkb {sc:Scope}{n:Nat}{x:Str}(h:sc.names.lookup x=some .cell):∃c,(cellsFrom n sc.names []).lookup x=some c:=by
 have q:=PySem.W.cellsFrom_some sc.names n [] (.inl h);exact Option.isSome_iff_exists.mp q
theorem zmA {CX:CXT}{P:Program}{w:World}{K:Fgx}{mg:Mgx}{base:Heap}{N ps:List Str}{qual:Str}{scope:Scope}{f:Addr}{cd:Value}{A:Around}{outer:List Env}{s s1:Shared}{H:Hp}{E:XK}{us:List Value}{vs:List V}
  (S:FnScope N ps scope) (hd:A.handled=none) (e0:Env0 P w K mg base A outer s H) (hl:vs.length=ps.length) (r:Vals vs us)
  (x:InCallC s s.heap.objs.size (bindL (envOfC qual scope s.heap.objs.size f cd).kindOf (ps.zip us) fun _=>none) (cellsFrom (s.heap.objs.size + 1) scope.names []) (bindC (envOfC qual scope s.heap.objs.size f cd).kindOf (ps.zip us) fun _=>none) s1):
  Inv (cxOf CX P w K mg base N qual scope f cd A outer s H E) [] (start N vs) H s1:=by
 have hpl:ps.length<=N.length:=by have:=congrArg List.length S.pre;rw[List.length_take]at this;omega
 obtain ⟨h1, tk, rfl, hk⟩ := x.done;have noA : ∀ b : Addr, b ∉ (cxOf CX P w K mg base N qual scope f cd A outer s H E).ex := fun b z => absurd (show b ∈ ([] : List Addr) from z) (by simp);refine ⟨⟨e0.mod,S.kind,rfl,rfl,Nat.le_refl _,fun y z c h1 h2=>?_,fun y hy=>?_,fun y c _ h=>?_,fun _=>hd,Around.frames_deeper e0.frames,.inr ⟨rfl,rfl⟩,fun b z=>absurd z (noA b),e0.bs,e0.bsz,fun b _ _=>noA b,fun b z=>absurd z (noA b),e0.funs,e0.frf⟩,
  rfl,e0.bare,Un.kept hk,⟨_,x.toInCall.ns,fun i y v h1 h2 h3=>?_⟩,fun y c h=>⟨_,x.cell y c h⟩,e0.hok.fresh (Nat.le_refl _),fun y c h=>?_,fun p hp=>absurd (show p∈([]:Pnx) from hp) (by simp),e0.hok.kept hk,?_⟩
 ·exact name_of_addr x.apart (PySem.mem_of_lookup h1) (PySem.mem_of_lookup h2)
 ·have hy:scope.names.lookup y=some .cell\/scope.names.lookup y=some .free:=hy;rcases hy with hy |hy
  ·exact zkb hy
  ·exact absurd rfl (S.nofree _ (PySem.mem_of_lookup hy))
 ·exact Nat.le_of_lt (x.above y c (PySem.mem_of_lookup h))
 ·have hi:i<vs.length:=by
   unfold start at h2
   by_cases hi:i<vs.length
   ·exact hi
   ·rw[List.getElem?_append_right (by simpa using hi)]at h2;rw[List.getElem?_replicate]at h2;split at h2<;>cases h2
  have ha:vs[i]? =some v:=by
   unfold start at h2;rw[List.getElem?_append_left (by simpa using hi),List.getElem?_map]at h2
   cases e:vs[i]? with
   |none=>rw[e]at h2;cases h2
   |some a=>rw[e]at h2;cases h2;rfl
  obtain⟨u,hu,rv⟩:=r.get ha;have hp:ps[i]? =some y:=by
   rw[<-S.pre,List.getElem?_take_of_lt (by omega)];exact h1
  have ndP:ps.Nodup:=by rw[<-S.pre];exact S.nd.sublist (List.take_sublist _ _)
  refine⟨u,rv,?_⟩;rcases S.par y (List.mem_of_getElem? hp) with k |k
  ·exact .inl ⟨k,zi1 ndP hp hu k⟩
  ·obtain⟨c,e⟩:=zkb (n:=s.heap.objs.size + 1) k;refine .inr ⟨.inl k,c,e,?_⟩;have q:=x.cell y c e;rw[zjk ndP hp hu (by show scope.names.lookup y≠_;rw[k];decide)]at q;exact q
 ·exact e0.hok.fresh (Nat.le_of_lt (x.above y c (PySem.mem_of_lookup h)))
 ·unfold start;show _=N.length;rw[List.length_append,List.length_map,List.length_replicate];omega
theorem zpe {CX:CXT}{P:Program}{w:World}{K:Fgx}{mg:Mgx}{base:Heap}{k:Nat}{f:Addr}{name qual:Str}{params:Arguments}{body:List Stmt}{scope:Scope}{dV kV doc pm cdv ct oc:Value}{an od:Option Addr}
    {osl:Array (Option Value)} {N ps:List Str} {sp:Sp} (lk:K.lookup f=some ⟨oc,od,.func (PySem.W.fnOf name qual params body scope dV kV doc pm an cdv ct),osl⟩) (hcd:PySem.W.codeIn K cdv qual=true) (S:FnScope N ps scope)
    (len:∀vs H Q E,sp vs H Q E->vs.length=ps.length)
    (hbody:∀(A:Around) (outer:List Env) (s:Shared) (H:Hp) (vs:List V) (Q:VK) (E:XK),Room k (A.deeper (envOfC qual scope s.heap.objs.size f cdv))->sp vs H Q E->
      ∃t,PSs (cxOf CX P w K mg base N qual scope f cdv A outer s H E) body t/\t {nx:=fun _ H'=>Q .non H',rt:=Q} (start N vs) H):
    FnOk P w K mg base CX (k + 1) f (PySem.W.fnOf name qual params body scope dV kV doc pm an cdv ct) ps sp:=by
  refine⟨len,fun A outer s H args us vs Q E hr e0 hb r hsp=>?_⟩;have hl:=len _ _ _ _ hsp;have KX:K.In s.heap:=e0.mod.kin.keeps fun b o e=>(e0.bs b o e).1;have lim:s.heap.NoLimit:=e0.mod.nolimit.keeps fun b o e=>(e0.bs b o e).1;have hkind:∀y∈ps.zip us,scope.names.lookup y.1=some .local\/(scope.names.lookup y.1=some .cell/\((cellsFrom (s.heap.objs.size + 1) scope.names []).lookup y.1).isSome=true):=fun⟨n,v⟩ hy=>by
    rcases S.par n (List.of_mem_zip hy).1 with q |q
    · exact .inl q
    · exact .inr ⟨q,PySem.W.cellsFrom_some _ _ _ (.inl q)⟩
  refine codeAny_call_function hr.depth (KX _ _ lk) rfl S.co S.gen rfl (PySem.W.codeRec_of KX hcd) (hb _ _ _ _ ?_);refine wpAny_newFunctionEnv_cells S.kind hkind fun env he s1 x=>?_;subst he;refine⟨lim.keeps x.toInCall.keep,codeAny_func ?_⟩;obtain⟨t,ht,hq⟩:=hbody A outer s H vs Q E (hr.deeper _) hsp;have I:Inv (cxOf CX P w K mg base N qual scope f cdv A outer s H E) [] (start N vs) H s1:=zmA S hr.hd e0 hl r x;refine wpAny_mono (ht [] s1 (start N vs) H _ I hq) (fun fl s' hs=>?_) fun e s' hs=>hs;have fin:∀{σ':St} {H':Hp} {v:V} {u:Value},Inv (cxOf CX P w K mg base N qual scope f cdv A outer s H E) [] σ' H' s'->RelV v u->Q v H'->CE outer P w H s Q u s':=
    fun {σ' H' v u} J rv q=>⟨v,H',J.os,J.bare,J.base,J.hok,rv,q⟩
  cases fl with
  |ret u=>
    obtain⟨v,σ',H',J,rv,q⟩:=hs;exact fin J rv q
  |next=>
    obtain⟨σ',H',J,q⟩:=hs;exact fin (v:=V.non) (u:=Value.none) J rfl q
  |brk=>
    obtain⟨_,_,_,q⟩:=hs;exact False.elim q
  |cont=>
    obtain⟨_,_,_,q⟩:=hs;exact False.elim q
section
variable {X:Cx}{x:Str}{p pos:Pos}{e:Expr}{es:List Expr}{t:TA}{id T:String}{r:List V->Hp->VK->Prop}
def tCB (r:List V->Hp->VK->Prop)(t:TA):TE:=fun σ H Q=>t σ H fun vs H1=>r vs H1 Q
theorem zkJ (hc:zdM X (.builtin id) r)(hg:Gl X x)(hm:X.mg x=none)(hv:bootBuiltins x=some (.builtin id))(ha:PA X (e::es) t)(hn:x≠"__name__":=by decide)(hdb:(x==("__debug__":Str))=false:=by decide)
  (he:starEach (e::es) X.env=(false,eval e X.env)::starEach es X.env:=by rfl) (hpl:(backTo pos (starEach es X.env)).any (·.1)=false:=by rfl):PE X (.Call (.Name x p) (e::es) [] pos) (tCB r t):=by
 intro pins s σ H Q I h;refine wpAny_Call_Name_kw (zhw I hg hm hv ?_ hn hdb);exact PyProof.Rows.callWith_builtin1 (thn (ha pos pins s σ H _ I h) fun us s1 ⟨vs,H1,I1,r1,q1⟩=>hc pins s1 σ H1 vs us Q I1 r1 q1) he hpl
theorem zjc (hc:zdM X (.type T) r)(hg:Gl X x)(hm:X.mg x=none)(hv:bootBuiltins x=some (.type T))(ha:PA X (e::es) t)(hn:x≠"__name__":=by decide)(hdb:(x==("__debug__":Str))=false:=by decide)
  (he:starEach (e::es) X.env=(false,eval e X.env)::starEach es X.env:=by rfl) (hpl:(backTo pos (starEach es X.env)).any (·.1)=false:=by rfl):PE X (.Call (.Name x p) (e::es) [] pos) (tCB r t):=by
 intro pins s σ H Q I h;refine wpAny_Call_Name_kw (zhw I hg hm hv ?_ hn hdb);exact PyProof.Rows.callWith_type1 (thn (ha pos pins s σ H _ I h) fun us s1 ⟨vs,H1,I1,r1,q1⟩=>hc pins s1 σ H1 vs us Q I1 r1 q1) he hpl
end
end L2
namespace HT
open PySem PyProof.Rows
section
open PySem.SeqAt
open PySem.AutoSeq1 (wpAny_loadPart')
open PySem.MeetsSeq PySem.MeetsSeq2 PySem.MeetsSeq3
end
section
variable {prog:Program}{w:World}{A:Around}{E:Value->Shared->Prop}{s:Shared}
theorem zpk (ht:IsTup s.heap t vs.toArray)(hb:IsTup s.heap b ws.toArray)(hv:vs≠ [])
  (h1:ws=[]->Q (.ref t) s) (h2:ws≠ []->Q (.ref s.heap.objs.size) {s with heap:=s.heap.push {cls:=.type "tuple",data:=.seq (vs ++ ws).toArray}})
  (hsz:vs.length + ws.length<=sizeLine):wpAny (model prog w) A (binaryOp .Add (.ref t) (.ref b)) Q E s:=by
 obtain⟨⟨cls,dd,data,sl⟩,ho,hc,n,hd⟩:=id ht;obtain⟨⟨cls2,dd2,data2,sl2⟩,ho2,hc2,n2,hd2⟩:=id hb;simp only at hc hd hc2 hd2;subst hc hd hc2 hd2;have e:vs.toArray ++ ws.toArray=(vs ++ ws).toArray:=by simp
 by_cases hw:ws=[]
 ·exact concat_meets ⟨_,ho,rfl⟩ ⟨_,ho2,rfl⟩ noFill_tuple_add seq_tuple_add PySem.F.slot_tuple_add PySem.F.entry_tuple_add (PySem.F.args_tuple_add_2 _ _)
   (tuple_addW1 t b vs.toArray ws.toArray n n2 dd dd2 sl sl2 (by simpa using hv) (by simp[hw])) ⟨ho,ho2,h1 hw⟩
 ·refine concat_meets ⟨_,ho,rfl⟩ ⟨_,ho2,rfl⟩ noFill_tuple_add seq_tuple_add PySem.F.slot_tuple_add PySem.F.entry_tuple_add (PySem.F.args_tuple_add_2 _ _)
   (tuple_addW2 t b vs.toArray ws.toArray n n2 dd dd2 sl sl2 (by simpa using hv) (by simpa using hw) (by rw[List.size_toArray,List.size_toArray];exact hsz)) ⟨ho,ho2,?_⟩
  rw[e];exact h2 hw
def sIx (n d:Nat):Option Int->Nat
 |none=>d
 |some v=>if v<0 then(v + (n:Int)).toNat else min v.toNat n
theorem zkD (n d:Nat):sIx n d none=d:=rfl
theorem zh1 (n d k:Nat):sIx n d (some (k:Int))=min k n:=by
 show(if (k:Int)<0 then((k:Int) + (n:Int)).toNat else min (k:Int).toNat n)=min k n
 rw[if_neg (by omega),Int.toNat_natCast]
theorem zt1 (n d:Nat)(hd:d<=n)(o:Option Int):sIx n d o<=n:=by
  cases o with
  |none=>exact hd
  |some v=>
    show(if v<0 then(v + (n:Int)).toNat else min v.toNat n)<=n
    by_cases hv:v<0
    · rw[if_pos hv];omega
    · rw[if_neg hv];exact Nat.min_le_right _ _
theorem zmT (v:Int)(n d:Nat):(if v<0 then max (v + (n:Int)) 0 else min v (n:Int))=((sIx n d (some v):Nat):Int):=by
 show(if v<0 then max (v + (n:Int)) 0 else min v (n:Int))=(((if v<0 then(v + (n:Int)).toNat else min v.toNat n):Nat):Int)
 by_cases hv:v<0
 ·simp only[if_pos hv];omega
 ·simp only[if_neg hv];omega
theorem zk9 (lo hi:Option Int)(n:Nat):Builtin.Slice.sliceAdjust lo hi 1 (n:Int)=(((sIx n 0 lo:Nat):Int),((sIx n n hi:Nat):Int)):=by
 have h1:¬ ((1:Int)<0):=by omega
 unfold Builtin.Slice.sliceAdjust;simp only[h1,if_false];refine Prod.ext ?_ ?_
 ·cases lo with
  |none=>rfl
  |some v=>exact zmT v n 0
 ·cases hi with
  |none=>rfl
  |some v=>exact zmT v n n
theorem zk4 (i j:Nat):Builtin.Slice.slicePlaces (i:Int) (j:Int) 1=j - i:=by
 unfold Builtin.Slice.slicePlaces;have h1:(1:Int) > 0:=by omega
 simp only[h1,if_true,Int.ediv_one]
 split<;>omega
theorem zhu (p:IsPart v o)(h:Q o s):wpAny (model prog w) A (Builtin.Slice.slicePartIndex v) Q E s:=by
 cases p with
 |none=>exact slicePart_none h
 |int i t=>exact slicePart_int h
theorem zga {sl:Addr}{vl vu:Value}{lo hi:Option Int}{n:Nat}{Q:Int×Int×Nat->Shared->Prop}(hs:s.heap.IsSliceOf sl vl vu .none)(pl:IsPart vl lo)(pu:IsPart vu hi)
  (h:Q (((sIx n 0 lo:Nat):Int),1,sIx n n hi - sIx n 0 lo) s):wpAny (model prog w) A (Builtin.Slice.sliceApplied (.ref sl) (pure (n:Int))) Q E s:=by
 obtain⟨os,hos,hcs,hds⟩:=id hs;unfold Builtin.Slice.sliceApplied Builtin.Slice.sliceFields;refine wpAny_bind (wpAny_bind (wpAny_field hos hds (x:=vl) rfl (wpAny_bind (wpAny_field hos hds (x:=vu) rfl (wpAny_bind (wpAny_field hos hds (x:=.none) rfl (wpAny_pure ?_)))))));refine wpAny_bind (slicePart_none ?_);show wpAny _ _ (if ((1:Int)==0)=true then _ else _) _ _ s
 rw[if_neg (by decide)];refine wpAny_bind (zhu pl (wpAny_bind (zhu pu (wpAny_bind (wpAny_pure ?_)))));show wpAny _ _ (match Builtin.Slice.sliceAdjust lo hi 1 (n:Int) with |(lo,hi)=>pure (lo,(1:Int),Builtin.Slice.slicePlaces lo hi 1)) _ _ s
 rw[zk9 lo hi n];show wpAny _ _ (pure (((sIx n 0 lo:Nat):Int),(1:Int),Builtin.Slice.slicePlaces ((sIx n 0 lo:Nat):Int) ((sIx n n hi:Nat):Int) 1)) _ _ s;rw[zk4];exact wpAny_pure h
theorem zny (xs:Array Value)(i k:Nat):((List.range k).filterMap fun(m:Nat)=>xs[((i:Int) + (m:Int) * 1).toNat]?).toArray=((xs.toList.drop i).take k).toArray:=by
 have e:(fun(m:Nat)=>xs[((i:Int) + (m:Int) * 1).toNat]?)=fun m=>xs[i + m]? :=by
  funext m;have:((i:Int) + (m:Int) * 1).toNat=i + m:=by omega
  rw[this]
 rw[e];have:=pick_run xs i k;rw[List.filterMap_map]at this;have e2:((fun x=>xs[x]?) ∘ fun x=>i + x)=fun m=>xs[i + m]? :=rfl;rw[e2]at this;rw[this]
theorem zfE {t sl:Addr}{items:Array Value}{vl vu:Value}{lo hi:Option Int}{Q:Value->Shared->Prop}(ht:IsTup s.heap t items)(hs:s.heap.IsSliceOf sl vl vu .none)(pl:IsPart vl lo)(pu:IsPart vu hi)
  (hw:¬ (sIx items.size 0 lo=0/\sIx items.size items.size hi=items.size))
  (h:Q (.ref s.heap.objs.size) {s with heap:=s.heap.push {cls:=.type "tuple",data:=.seq ((items.toList.drop (sIx items.size 0 lo)).take (sIx items.size items.size hi - sIx items.size 0 lo)).toArray}})
  (hsz:items.size<=sizeLine):wpAny (model prog w) A (getItem (.ref t) (.ref sl)) Q E s:=by
 have htake:sizeOk (.seq ((items.toList.drop (sIx items.size 0 lo)).take (sIx items.size items.size hi - sIx items.size 0 lo)).toArray):=by
  show((items.toList.drop (sIx items.size 0 lo)).take (sIx items.size items.size hi - sIx items.size 0 lo)).toArray.size<=sizeLine;rw[List.size_toArray,List.length_take,List.length_drop,Array.length_toList];omega
 have hj:sIx items.size items.size hi<=items.size:=zt1 _ _ (Nat.le_refl _) hi;obtain⟨os,hos,hcs,hds⟩:=id hs;have hTs:s.TypeIs (.ref sl) "slice":=⟨os,hos,hcs⟩;unfold getItem
 try with_reducible refine wpAny_holding ?_
 first |refine wpAny_bind (wpAny_pure ?_) |skip
 refine wpAny_bind (wpAny_sequenceKey ht.typeIs (by decide) ?_);refine wpAny_bind (wpAny_callSpecial?_slot (name:=Str.ofString "__getitem__") ht.typeIs PyProof.Rows.slot_tuple_getitem
  (wpAny_call_entry PyProof.Rows.slot_tuple_getitem ht.typeIs entry_tuple_getitem ?_ (args_tuple_getitem _ _)))
 show wpAny _ _ (Builtin.Tuple.tupleItemsOf (.ref t) >>=_) _ _ s;refine wpAny_bind (tupleItemsOf_ ht ?_);refine wpAny_bind (wpAny_typeOf hTs ?_);rw[if_pos (by decide)];refine wpAny_bind (zga hs pl pu ?_);have hno:¬ ((((sIx items.size 0 lo:Nat):Int)==0 && (1:Int)==1 && (sIx items.size items.size hi - sIx items.size 0 lo)==items.size)=true):=by
  intro q;rw[Bool.and_eq_true,Bool.and_eq_true]at q;have q1:((sIx items.size 0 lo:Nat):Int)=0:=eq_of_beq q.1.1;have q2:sIx items.size items.size hi - sIx items.size 0 lo=items.size:=eq_of_beq q.2;exact hw ⟨by omega,by omega⟩
 show wpAny _ _ (if (((sIx items.size 0 lo:Nat):Int)==0 && (1:Int)==1 && (sIx items.size items.size hi - sIx items.size 0 lo)==items.size)=true then _ else _) _ _ s
 rw[if_neg hno,zny]
 first
  |exact wpAny_bind (m:=Builtin.Tuple.tupleExact _) (wpAny_newObj_type (wpAny_pure ⟨_,rfl,wpAny_pure h⟩) htake)
  |exact wpAny_bind (m:=Builtin.Tuple.tupleExact _) (wpAny_newObj_type (wpAny_bind (wpAny_pure (wpAny_pure ⟨_,rfl,wpAny_pure h⟩))) htake)
  |exact wpAny_bind (wpAny_bind (m:=Builtin.Tuple.tupleExact _) (wpAny_newObj_type (wpAny_pure (wpAny_pure ⟨_,rfl,wpAny_pure h⟩)) htake))
  |exact wpAny_bind (wpAny_bind (m:=Builtin.Tuple.tupleExact _) (wpAny_newObj_type (wpAny_pure ⟨_,rfl,wpAny_pure h⟩) htake))
end
end HT
namespace L2
open PySem PySem.Spec PyProof.Rows
abbrev TO:=St->Hp->(Option Int->Hp->Prop)->Prop
def PO (X:Cx)(e:Option Expr)(t:TO):Prop:=
 ∀(pins:Pnx) (s:Shared) (σ:St) (H:Hp) (Q:Option Int->Hp->Prop),Inv X pins σ H s->t σ H Q->
  wpAny (model X.prog X.w) X.A (evalPart e X.env) (fun u s'=>∃o H',Inv X pins σ H' s'/\IsPart u o/\Q o H') X.xe s
def zqn:TO:=fun _ H Q=>Q none H
def zuj (t:TE):TO:=fun σ H Q=>t σ H fun x H1=>∃i,x=.int i/\Q (some i) H1
section
variable {X:Cx}{e:Expr}{te:TE}{lo hi:Option Expr}{tl th:TO}{pos p2:Pos}
theorem zqI:PO X none zqn:=by
 intro pins s σ H Q I h;rw[evalPart_none];exact wpAny_pure ⟨none,H,I,.none,h⟩
theorem zqD (h:PE X e te):PO X (some e) (zuj te):=by
 intro pins s σ H Q I hw;rw[evalPart_some];refine thn (h pins s σ H _ I hw) fun u s1 ⟨x,H1,I1,r1,q1⟩=>?_;obtain⟨i,rfl,q⟩:=q1;obtain⟨t,rfl⟩:=r1;exact⟨some i,H1,I1,.int i t,q⟩
def SlR (X:Cx)(r:V->Option Int->Option Int->Hp->VK->Prop):Prop:=
 ∀(pins:Pnx) (s:Shared) (σ:St) (H:Hp) (x:V) (v vl vu:Value) (lo hi:Option Int) (sl:Addr) (Q:VK),Inv X pins σ H s->RelV x v->s.heap.IsSliceOf sl vl vu .none->IsPart vl lo->IsPart vu hi->r x lo hi H Q->
  ∃T id,typeLookup (.type T) "__getitem__"=pure (some (.builtin id))/\s.TypeIs v T/\wpAny (model X.prog X.w) X.A (getItem v (.ref sl)) (EP X pins σ Q) X.xe s
theorem SlR.or (h:SlR X r)(h':SlR X r'):SlR X (fun x lo hi H Q=>r x lo hi H Q\/r' x lo hi H Q):=by
 intro pins s σ H x v vl vu lo hi sl Q I rx hs pl pu q;rcases q with q |q
 ·exact h pins s σ H x v vl vu lo hi sl Q I rx hs pl pu q
 ·exact h' pins s σ H x v vl vu lo hi sl Q I rx hs pl pu q
def tSl (r:V->Option Int->Option Int->Hp->VK->Prop)(te:TE)(tl th:TO):TE:=fun σ H Q=>te σ H fun x H1=>tl σ H1 fun l H2=>th σ H2 fun u H3=>r x l u H3 Q
theorem zkp (hr:SlR X r)(he:PE X e te)(hl:PO X lo tl)(hu:PO X hi th):PE X (.Subscript e (.Slice lo hi none p2) pos) (tSl r te tl th):=by
 intro pins s σ H Q I h;refine Subscript_ (thn (he pins s σ H _ I h) fun v s1 ⟨x,H1,I1,r1,q1⟩=>?_);refine wpAny_Slice (thn (hl pins s1 σ H1 _ I1 q1) fun vl s2 ⟨l,H2,I2,pl,q2⟩=>thn (hu pins s2 σ H2 _ I2 q2) fun vu s3 ⟨u,H3,I3,pu,q3⟩=>?_);rw[evalPart_none];refine wpAny_pure ?_;have I4:Inv X pins σ H3 {s3 with heap:=s3.heap.push {cls:=.type "slice",data:=.fields #[vl,vu,.none]}}:=I3.kept (t':=s3.toks) fun b ob q=>Heap.get?_push_of_some _ q;obtain⟨T,id,hT,ht,hg⟩:=hr pins {s3 with heap:=s3.heap.push {cls:=.type "slice",data:=.fields #[vl,vu,.none]}} σ H3 x v vl vu l u s3.heap.objs.size Q I4 r1 (Heap.IsSliceOf.new ..) pl pu q3;show wpAny (model X.prog X.w) X.A (subscriptTail e (.Slice lo hi none p2) v (.ref s3.heap.objs.size)) (EP X pins σ Q) X.xe {s3 with heap:=s3.heap.push {cls:=.type "slice",data:=.fields #[vl,vu,.none]}};exact tail_any (ops:=[.ref s3.heap.objs.size,v]) ht hT hg (by with_unfolding_all rfl)
def cutV (xs:List V)(lo hi:Option Int):List V:=(xs.drop (HT.sIx xs.length 0 lo)).take (HT.sIx xs.length xs.length hi - HT.sIx xs.length 0 lo)
theorem zg9 (xs:List V)(lo hi:Option Int):(cutV xs lo hi).length<=xs.length:=by
 unfold cutV;rw[List.length_take,List.length_drop];omega
def rSlT (K:Fgx):V->Option Int->Option Int->Hp->VK->Prop:=fun x lo hi H Q=>∃a xs,x=.ref a/\SqT K H a xs/\
 ¬ (HT.sIx xs.length 0 lo=0/\HT.sIx xs.length xs.length hi=xs.length)/\∀p,H p=none->Q (.ref p) (upd H p (.tup (cutV xs lo hi)))
theorem zsO:SlR X (rSlT X.K):=by
 intro pins s σ H x v vl vu lo hi sl Q I rx hs pl pu h;obtain⟨a,xs,rfl,hx,hw,q⟩:=h;cases rx;obtain⟨its,r,ht,hz⟩:=I.tuple hx;have hlen:its.toArray.size=xs.length:=by rw[List.size_toArray];exact r.length.symm
 refine⟨"tuple",_,PyProof.Rows.slot_tuple_getitem.lookup,ht.typeIs,?_⟩;refine HT.zfE ht hs pl pu (by rw[hlen];exact hw) ?_ (by rw[hlen];exact hz);rw[hlen];refine⟨.ref s.heap.objs.size,_,I.laid (t':=s.toks) (o:=.tup (cutV xs lo hi)) (fun b ob q=>Heap.get?_push_of_some _ q) (Nat.le_refl _) ?_,rfl,q _ (I.hok.fresh (Nat.le_refl _))⟩;exact⟨Nat.le_trans (zg9 xs lo hi) hz,_,(r.drop (HT.sIx xs.length 0 lo)).take (HT.sIx xs.length xs.length hi - HT.sIx xs.length 0 lo),IsTup.new _ _⟩
def ztE (K:Fgx):R2:=fun x y H Q=>∃a b xs ys,x=.ref a/\y=.ref b/\SqT K H a xs/\SqT K H b ys/\xs≠ []/\xs.length + ys.length<=sizeLine/\
 (ys=[]->Q (.ref a) H)/\(ys≠ []->∀p,H p=none->Q (.ref p) (upd H p (.tup (xs ++ ys))))
theorem Vals.nil_iff (r:Vals xs us):us=[] ↔ xs=[]:=by
 cases r with
 |nil=>simp
 |cons _ _=>simp
theorem zjY:OpR X (binaryOp .Add) (ztE X.K):=by
 intro pins s σ H x y v u Q I rx ry h;obtain⟨a,b,xs,ys,rfl,rfl,ha,hb,hx,hz,q1,q2⟩:=h;cases rx;cases ry;obtain⟨its,r1,p1,_⟩:=I.tuple ha;obtain⟨its2,r2,p2,_⟩:=I.tuple hb;refine HT.zpk p1 p2 (fun z=>hx (r1.nil_iff.mp z)) (fun z=>⟨.ref a,H,I,rfl,q1 (r2.nil_iff.mp z)⟩) (fun z=>?_) (by rw[<-r1.length, <-r2.length];exact hz);refine⟨.ref s.heap.objs.size,_,I.laid (t':=s.toks) (o:=.tup (xs ++ ys)) (fun b ob q=>Heap.get?_push_of_some _ q) (Nat.le_refl _) ?_,rfl,q2 (fun w=>z (r2.nil_iff.mpr w)) _ (I.hok.fresh (Nat.le_refl _))⟩;exact⟨by rw[List.length_append];exact hz,_,r1.append r2,IsTup.new _ _⟩
end
def ixN (n:Nat)(i:Int):Option Nat:=if 0<=i then(if i<n then some i.toNat else none) else if -(n:Int)<=i then some (i + n).toNat else none
def atI {α:Type}(xs:List α)(i:Int):Option α:=(ixN xs.length i).bind fun j=>xs[j]?
theorem zll (h:ixN n i=some j):seqIndex? i n=some j/\j<n/\ -(n:Int)<=i/\i<n:=by
 unfold ixN at h
 by_cases h0:0<=i
 ·rw[if_pos h0]at h
  by_cases h1:i<n
  ·rw[if_pos h1]at h;have e:i.toNat=j:=Option.some.inj h;exact⟨by rw[seqIndex_of h0 h1,e],by omega,by omega,h1⟩
  ·rw[if_neg h1]at h;cases h
 ·rw[if_neg h0]at h
  by_cases h1: -(n:Int)<=i
  ·rw[if_pos h1]at h;have e:(i + n).toNat=j:=Option.some.inj h;exact⟨by rw[seqIndex_neg (by omega) h1,e],by omega,h1,by omega⟩
  ·rw[if_neg h1]at h;cases h
theorem zjR (h:atI xs i=some v):∃j,seqIndex? i xs.length=some j/\xs[j]? =some v/\j<xs.length/\ -(xs.length:Int)<=i/\i<xs.length:=by
  unfold atI at h
  cases e:ixN xs.length i with
  |none=>rw[e]at h;cases h
  |some j=>
    rw[e]at h;obtain⟨h1,h2,h3,h4⟩:=zll e;exact⟨j,h1,h,h2,h3,h4⟩
theorem zcA {α:Type}{xs:List α}{j:Nat}{v:α}(h:xs[j]? =some v):atI xs (j:Int)=some v:=by
 have hj:j<xs.length:=(List.getElem?_eq_some_iff.mp h).1;have e:ixN xs.length (j:Int)=some j:=by
  unfold ixN;rw[if_pos (by omega),if_pos (by omega)];simp
 unfold atI;rw[e];exact h
def zmF (b:Expr):Prop:=∀o i,subscripted b false o i=operate [o,i] (getItem o i)
def IxR (X:Cx)(r:R2):Prop:=
 ∀(value slice:Expr) (pins:Pnx) (s:Shared) (σ:St) (H:Hp) (x y:V) (v u:Value) (Q:VK),Inv X pins σ H s->RelV x v->RelV y u->r x y H Q->
  subscripted slice false v u=operate [v,u] (getItem v u)->wpAny (model X.prog X.w) X.A (subscriptTail value slice v u) (EP X pins σ Q) X.xe s
def MtR (X:Cx)(id:String)(r:V->List V->Hp->VK->Prop):Prop:=
 ∀(pins:Pnx) (s:Shared) (σ:St) (H:Hp) (x:V) (xs:List V) (v:Value) (us:List Value) (Q:VK),Inv X pins σ H s->RelV x v->Vals xs us->r x xs H Q->
  wpAny (model X.prog X.w) X.A (call (.builtin id) (v::us)) (EP X pins σ Q) X.xe s
section
variable {X:Cx}{a b:Expr}{ta tb:TE}{pos:Pos}
theorem IxR.or (h:IxR X r)(h':IxR X r'):IxR X (fun x y H Q=>r x y H Q\/r' x y H Q):=by
 intro value slice pins s σ H x y v u Q I rx ry q hs;rcases q with q |q
 ·exact h value slice pins s σ H x y v u Q I rx ry q hs
 ·exact h' value slice pins s σ H x y v u Q I rx ry q hs
theorem zu4 (hr:IxR X r)(ha:PE X a ta)(hb:PE X b tb)(hs:zmF b):PE X (.Subscript a b pos) (tOp r ta tb):=by
 intro pins s σ H Q I h;exact Subscript_ (binT ha hb I h fun v u s2 x y H2 I2 rx ry q=>hr a b pins s2 σ H2 x y v u Q I2 rx ry q (hs _ _))
def rIxL (K:Fgx):R2:=fun x y H Q=>∃p xs i v,x=.ref p/\y=.int i/\SqL K H p xs/\atI xs i=some v/\Q v H
def rIxT (K:Fgx):R2:=fun x y H Q=>∃p xs i v,x=.ref p/\y=.int i/\SqT K H p xs/\atI xs i=some v/\Q v H
def rIxS:R2:=fun x y H Q=>∃z i c,x=.str z/\y=.int i/\z.length<=sizeLine/\atI z.cps.toList i=some c/\Q (.str ⟨#[c]⟩) H
theorem zpQ:IxR X (rIxL X.K):=by
 intro value slice pins s σ H x y v u Q I rx ry h hs;obtain⟨p,xs,i,z,rfl,rfl,hq,he,q⟩:=h;cases rx;obtain⟨t,rfl⟩:=ry;obtain⟨its,r,pl,hz⟩:=I.list hq;obtain⟨j,h1,h2,h3,h4,h5⟩:=zjR he;obtain⟨w,ew,rw'⟩:=r.get h2;have hl:=r.length;have hn:=zft;have fin:EP X pins σ Q w s:=⟨z,H,I,rw',q⟩
 by_cases h0:0<=i
 ·have hj:i.toNat=j:=by
   rw[seqIndex_of h0 h5]at h1;exact Option.some.inj h1
  exact item_listR pl.isList h0 (by omega) (by rw[hj];simpa using ew) fin hs
 ·have hj:(i + (its.toArray.size:Int)).toNat=j:=by
   rw[seqIndex_neg (by omega) h4]at h1;rw[List.size_toArray, <-hl];exact Option.some.inj h1
  exact subscriptTail_builtinR (x:=w) pl.isList.typeIs slot_list_getitem.lookup
   (wpAny_getItem_list_neg (Q:=fun r s'=>r=w/\EP X pins σ Q r s') pl.isList (by omega) (by rw[List.size_toArray]<;>omega) (by omega) (by rw[hj];simpa using ew) ⟨rfl,fin⟩) hs
theorem zrZ:IxR X (rIxT X.K):=by
 intro value slice pins s σ H x y v u Q I rx ry h hs;obtain⟨p,xs,i,z,rfl,rfl,hq,he,q⟩:=h;cases rx;obtain⟨t,rfl⟩:=ry;obtain⟨its,r,pl,hz⟩:=I.tuple hq;obtain⟨j,h1,h2,h3,h4,h5⟩:=zjR he;obtain⟨w,ew,rw'⟩:=r.get h2;have hl:=r.length;have hn:=zft;have fin:EP X pins σ Q w s:=⟨z,H,I,rw',q⟩;exact subscriptTail_builtinR (x:=w) pl.typeIs slot_tuple_getitem.lookup
  (getItem_tuple (j:=j) (Q:=fun r s'=>r=w/\EP X pins σ Q r s') pl (by omega) (by omega) (by rw[List.size_toArray, <-hl];exact h1) (by simpa using ew) ⟨rfl,fin⟩) hs
theorem zs4:IxR X rIxS:=by
 intro value slice pins s σ H x y v u Q I rx ry h hs;obtain⟨z,i,c,rfl,rfl,hz,he,q⟩:=h;obtain⟨t,rfl⟩:=rx;obtain⟨t',rfl⟩:=ry;obtain⟨j,h1,h2,h3,h4,h5⟩:=zjR he;have hl:z.cps.toList.length=z.length:=by simp[Str.length]
 rw [hl] at h1 h4 h5;have hn := zft;exact tail_any (typeIs_str s z t) slot_str_getitem.lookup (getItem_str (c := c) (by
  have e1:decide (i< -(2 ^ 63:Int))=false:=decide_eq_false (by omega);have e2:decide (i >=2 ^ 63)=false:=decide_eq_false (by omega);rw[e1,e2,Bool.or_false]) (by rw[h1];simpa using h2) ⟨.str ⟨#[c]⟩,H,I.tok _,⟨_,rfl⟩,q⟩) hs
def rIx (K:Fgx):R2:=fun x y H Q=>rIxL K x y H Q\/rIxT K x y H Q\/rIxS x y H Q
theorem zk3 (its:List Value)(n j:Nat)(u:Value):Obj.mapSeq (·.setIfInBounds j u) {cls:=.type "list",data:=.seq its.toArray n}={cls:=.type "list",data:=.seq (its.set j u).toArray n}:=by
 simp[Obj.mapSeq]
theorem Inv.lst (I:Inv X pins σ H s)(h:H p=some (.lst xs)):
  ∃(its:List Value) (n:Nat),Vals xs its/\s.heap.get? p=some {cls:=.type "list",data:=.seq its.toArray n}/\xs.length<=sizeLine:=by
 obtain⟨z,its,n,r,e⟩:=I.hok p _ h;exact⟨its,n,r,e,z⟩
theorem Inv.lstUpd {pins:Pnx}{σ:St}{H:Hp}{s:Shared}{p:Addr}{xs ys:List V}{its its':List Value}{n n':Nat}{f:Obj->Obj}(I:Inv X pins σ H s)(h:H p=some (.lst xs))
  (ho:s.heap.get? p=some {cls:=.type "list",data:=.seq its.toArray n}) (hf:f {cls:=.type "list",data:=.seq its.toArray n}={cls:=.type "list",data:=.seq its'.toArray n'}) (r:Vals ys its') (hz:ys.length<=sizeLine) (t:Nat):
  Inv X pins σ (upd H p (.lst ys)) {s with heap:=s.heap.update p f,toks:=t}:=by
 have e:(s.heap.update p f).get? p=some {cls:=.type "list",data:=.seq its'.toArray n'}:=by
  rw[Heap.get?_update_self f ho (by rw[hf]<;>rfl),hf]
 refine I.write (x:=p) (e:=p) (by rw[h];trivial) (.inl rfl) (fun b u hb q=>(Heap.get?_update_other _ _ (Ne.symm hb)).trans q) ⟨_,e⟩ ?_;exact⟨hz,its',n',r,e⟩
def zvK:V->V->V->Hp->(Hp->Prop)->Prop:=fun o i v H Q=>∃p xs k j,o=.ref p/\i=.int k/\H p=some (.lst xs)/\ixN xs.length k=some j/\Q (upd H p (.lst (xs.set j v)))
theorem set_list:PSet X zvK:=by
 intro pins s σ H o i v ov iv u Q I ro ri rv h;obtain⟨p,xs,k,j,rfl,rfl,hp,hj,q⟩:=h;cases ro;obtain⟨t,rfl⟩:=ri;obtain⟨its,n,r,ho,hz⟩:=I.lst hp;obtain⟨h1,h2,h3,h4⟩:=zll hj;have hl:=r.length;have hn:=zft;have I':Inv X pins σ (upd H p (.lst (xs.set j v))) {s with heap:=s.heap.update p (Obj.mapSeq (·.setIfInBounds j u))}:=
  I.lstUpd hp ho (zk3 its n j u) (r.set rv j) (by rw[List.length_set];exact hz) s.toks
 by_cases h0:0<=k
 ·have hk:k.toNat=j:=by
   rw[seqIndex_of h0 h4]at h1;exact Option.some.inj h1
  exact PySem.W.ki_setAt ho h0 (by omega) (by rw[List.size_toArray, <-hl];exact h4) (by rw[hk];exact⟨_,I',q⟩)
 ·have hk:(k + (its.toArray.size:Int)).toNat=j:=by
   rw[seqIndex_neg (by omega) h3]at h1;rw[List.size_toArray, <-hl];exact Option.some.inj h1
  exact PySem.W.ki_setBack ho (by omega) (by rw[List.size_toArray, <-hl];exact h3) (by omega) (by rw[hk];exact⟨_,I',q⟩)
theorem zjn (lo hi:Option Int)(n:Nat):(sliceBounds lo hi none n).1=((HT.sIx n 0 lo:Nat):Int)/\(sliceBounds lo hi none n).2.1=((HT.sIx n n hi:Nat):Int)/\(sliceBounds lo hi none n).2.2=1:=by
  refine⟨?_,?_,rfl⟩
  · cases lo with
    |none=>simp[sliceBounds,HT.sIx]
    |some i=>
      simp only[sliceBounds,HT.sIx,Option.getD_none,show(1:Int) > 0 by decide,if_true]
      by_cases h:i<0
      · simp only[h,if_true]<;>omega
      · simp only[h,if_false]<;>omega
  · cases hi with
    |none=>simp[sliceBounds,HT.sIx]
    |some i=>
      simp only[sliceBounds,HT.sIx,Option.getD_none,show(1:Int) > 0 by decide,if_true]
      by_cases h:i<0
      · simp only[h,if_true]<;>omega
      · simp only[h,if_false]<;>omega
theorem zh6 (its:List Value)(lo hi:Option Int):slicePick its.toArray lo hi none=((its.drop (HT.sIx its.length 0 lo)).take (HT.sIx its.length its.length hi - HT.sIx its.length 0 lo)).toArray:=by
 obtain⟨h1,h2,h3⟩:=zjn lo hi its.toArray.size;unfold slicePick;rw[h1,h2,h3];simp only[sliceRange_one,pick_run,List.size_toArray]<;>rfl
def rSlL (K:Fgx):V->Option Int->Option Int->Hp->VK->Prop:=fun x lo hi H Q=>∃a xs,x=.ref a/\SqL K H a xs/\∀p,H p=none->Q (.ref p) (upd H p (.lst (cutV xs lo hi)))
theorem zp6:SlR X (rSlL X.K):=by
 intro pins s σ H x v vl vu lo hi sl Q I rx hs pl pu h;obtain⟨a,xs,rfl,hx,q⟩:=h;cases rx;obtain⟨its,r,ht,hz⟩:=I.list hx;have hlen:=r.length;refine⟨"list",_,slot_list_getitem.lookup,ht.isList.typeIs,?_⟩;refine wpAny_getItem_list_slice ht.isList hs pl pu .none (by simp) ?_ (by rw[List.size_toArray]<;>omega)
 rw[zh6, <-hlen];refine⟨.ref s.heap.objs.size,_,I.laid (t':=s.toks) (o:=.lst (cutV xs lo hi)) (fun b ob q=>Heap.get?_push_of_some _ q) (Nat.le_refl _) ?_,rfl,q _ (I.hok.fresh (Nat.le_refl _))⟩;exact⟨Nat.le_trans (zg9 xs lo hi) hz,_,0,(r.drop (HT.sIx xs.length 0 lo)).take (HT.sIx xs.length xs.length hi - HT.sIx xs.length 0 lo),Heap.get?_push_size _ rfl⟩
def zhg:V->Bool
 |.non=>true
 |.bl _=>true
 |.int _=>true
 |.str _=>true
 |_=>false
def eqV:V->V->Bool
 |.non,.non=>true
 |.bl a,.bl b=>a==b
 |.bl a,.int b=>(if a then 1 else 0)==b
 |.int a,.bl b=>a==(if b then 1 else 0)
 |.int a,.int b=>a==b
 |.str a,.str b=>a==b
 |_,_=>false
theorem zrK (ry:RelV y u)(rx:RelV x v)(fy:zhg y=true)(fx:zhg x=true):SeqAt.EqAt A s u v (eqV y x):=by
  cases y with
  |non=>
    cases ry
    cases x with
    |non=>cases rx;exact SeqAt.EqAt.same _
    |bl b=>cases rx;exact SeqAt.EqAt.none_bool b
    |int b=>obtain⟨t,rfl⟩:=rx;exact SeqAt.EqAt.none_int b t
    |str b=>obtain⟨t,rfl⟩:=rx;exact SeqAt.EqAt.none_str b t
    |_=>exact absurd (show false=true from fx) Bool.false_ne_true
  |bl a=>
    cases ry
    cases x with
    |non=>cases rx;exact SeqAt.EqAt.bool_none a
    |bl b=>cases rx;exact SeqAt.EqAt.bool_bool a b
    |int b=>obtain⟨t,rfl⟩:=rx;exact SeqAt.EqAt.bool_int a b t
    |str b=>obtain⟨t,rfl⟩:=rx;exact SeqAt.EqAt.bool_str a b t
    |_=>exact absurd (show false=true from fx) Bool.false_ne_true
  |int a=>
    obtain⟨t',rfl⟩:=ry
    cases x with
    |non=>cases rx;exact SeqAt.EqAt.int_none a t'
    |bl b=>cases rx;exact SeqAt.EqAt.int_bool a t' b
    |int b=>obtain⟨t,rfl⟩:=rx;exact SeqAt.EqAt.int_int a t' b t
    |str b=>obtain⟨t,rfl⟩:=rx;exact SeqAt.EqAt.int_str a t' b t
    |_=>exact absurd (show false=true from fx) Bool.false_ne_true
  |str a=>
    obtain⟨t',rfl⟩:=ry
    cases x with
    |non=>cases rx;exact SeqAt.EqAt.str_none a t'
    |bl b=>cases rx;exact SeqAt.EqAt.str_bool a t' b
    |int b=>obtain⟨t,rfl⟩:=rx;exact SeqAt.EqAt.str_int a t' b t
    |str b=>obtain⟨t,rfl⟩:=rx;exact SeqAt.EqAt.str_str a t' b t
    |_=>exact absurd (show false=true from fx) Bool.false_ne_true
  |_=>exact absurd (show false=true from fy) Bool.false_ne_true
def eqU (x:V)(u:Value):Bool:=match u with
 |.none=>eqV .non x
 |.bool b=>eqV (.bl b) x
 |.int i _=>eqV (.int i) x
 |.str z _=>eqV (.str z) x
 |_=>false
theorem zoX (r:RelV y u)(f:zhg y=true):eqU x u=eqV y x:=by
 cases y with
 |non=>cases r;rfl
 |bl b=>cases r;rfl
 |int i=>obtain⟨t,rfl⟩:=r;rfl
 |str z=>obtain⟨t,rfl⟩:=r;rfl
 |_=>exact absurd (show false=true from f) Bool.false_ne_true
theorem zgX:∀{xs:List V} {us:List Value},Vals xs us->xs.all zhg=true->us.any (eqU x)=xs.any fun y=>eqV y x
  |_,_,.nil,_=>rfl
  |y::xs,u::us,.cons r t,f=>by
    rw[List.all_cons,Bool.and_eq_true]at f;rw[List.any_cons,List.any_cons,zoX r f.1,zgX t f.2]
theorem zfp (rx:RelV x v)(fx:zhg x=true):∀{xs:List V} {us:List Value},Vals xs us->xs.all zhg=true->∀u∈us,SeqAt.EqAt A s u v (eqU x u)
  |_,_,.nil,_=>fun u hu=>by cases hu
  |y::xs,u::us,.cons r t,f=>fun u' hu=>by
    rw[List.all_cons,Bool.and_eq_true]at f;rcases List.mem_cons.mp hu with rfl |hu
    · rw[zoX r f.1];exact zrK r rx f.1 fx
    · exact zfp rx fx t f.2 u' hu
def inV (x:V)(xs:List V):Bool:=xs.any fun y=>eqV y x
def rIn (K:Fgx)(neg:Bool):R2:=fun x y H Q=>∃p xs,y=.ref p/\(SqL K H p xs\/SqT K H p xs)/\zhg x=true/\xs.all zhg=true/\Q (.bl (if neg then !inV x xs else inV x xs)) H
theorem zm2:OpR X (compareOp .In) (rIn X.K false):=by
 intro pins s σ H x y v u Q I rx ry h;obtain⟨p,xs,rfl,hq,fx,fs,q⟩:=h;cases ry;rcases hq with hq |hq
 ·obtain⟨its,r,pl,hz⟩:=I.list hq;refine SeqAt.in_listAt (eqU x) pl.isList (fun w hw=>zfp rx fx r fs w (by simpa using hw)) ⟨.bl _,H,I,rfl,?_⟩;rw[show its.toArray.any (eqU x)=its.any (eqU x) by simp,zgX r fs];exact q
 ·obtain⟨its,r,pl,hz⟩:=I.tuple hq;refine SeqAt.in_tupleAt (eqU x) pl (fun w hw=>zfp rx fx r fs w (by simpa using hw)) ⟨.bl _,H,I,rfl,?_⟩;rw[show its.toArray.any (eqU x)=its.any (eqU x) by simp,zgX r fs];exact q
theorem ziE:OpR X (compareOp .NotIn) (rIn X.K true):=by
 intro pins s σ H x y v u Q I rx ry h;obtain⟨p,xs,rfl,hq,fx,fs,q⟩:=h;cases ry;rcases hq with hq |hq
 ·obtain⟨its,r,pl,hz⟩:=I.list hq;refine SeqAt.notIn_listAt (eqU x) pl.isList (fun w hw=>zfp rx fx r fs w (by simpa using hw)) ⟨.bl _,H,I,rfl,?_⟩;rw[show its.toArray.any (eqU x)=its.any (eqU x) by simp,zgX r fs];exact q
 ·obtain⟨its,r,pl,hz⟩:=I.tuple hq;refine SeqAt.notIn_tupleAt (eqU x) pl (fun w hw=>zfp rx fx r fs w (by simpa using hw)) ⟨.bl _,H,I,rfl,?_⟩;rw[show its.toArray.any (eqU x)=its.any (eqU x) by simp,zgX r fs];exact q
theorem zi0:zdM X (.builtin "len") (fun xs H Q=>∃p ys,xs=[.ref p]/\(SqL X.K H p ys\/SqT X.K H p ys)/\Q (.int ys.length) H):=by
 intro pins s σ H xs us Q I r h;obtain⟨p,ys,rfl,hq,q⟩:=h;obtain⟨u,rfl,rx⟩:=vals1 r;cases rx;have hn:=zft;rcases hq with hq |hq
 ·obtain⟨its,r',pl,hz⟩:=I.list hq;have hlen:=r'.length;exact Calls.call_len_list pl.isList (by simp only[List.size_toArray]<;>omega) ⟨.int ys.length,H,I.tok _,⟨s.toks + 1,by rw[List.size_toArray,hlen]⟩,q⟩
 ·obtain⟨its,r',pl,hz⟩:=I.tuple hq;have hlen:=r'.length;exact len_tuple pl (by simp only[List.size_toArray]<;>omega) ⟨.int ys.length,H,I.tok _,⟨s.toks + 1,by rw[List.size_toArray,hlen]⟩,q⟩
theorem zjq:zdM X (.builtin "len") (fun xs H Q=>∃z,xs=[.str z]/\z.length<=sizeLine/\Q (.int z.length) H):=by
 intro pins s σ H xs us Q I r h;obtain⟨z,rfl,hz,q⟩:=h;obtain⟨u,rfl,t,rfl⟩:=vals1 r;have hn:=zft;exact len_str (by omega) ⟨.int z.length,H,I.tok _,⟨_,rfl⟩,q⟩
theorem zdM.or (h:zdM X f r)(h':zdM X f r'):zdM X f (fun xs H Q=>r xs H Q\/r' xs H Q):=by
 intro pins s σ H xs us Q I rs q;rcases q with q |q
 ·exact h pins s σ H xs us Q I rs q
 ·exact h' pins s σ H xs us Q I rs q
theorem ziz:zdM X (.type "list") (fun xs H Q=>∃p ys,xs=[.ref p]/\(SqL X.K H p ys\/SqT X.K H p ys)/\∀l,H l=none->Q (.ref l) (upd H l (.lst ys))):=by
 intro pins s σ H xs us Q I r h;obtain⟨p,ys,rfl,hq,q⟩:=h;obtain⟨u,rfl,rx⟩:=vals1 r;cases rx;have fin:∀(its:List Value),Vals ys its->ys.length<=sizeLine->∀(h':Heap) (c':Nat),(∀b o',s.heap.get? b=some o'->h'.get? b=some o')->
   h'.get? s.heap.objs.size=some {cls:=.type "list",dict:=none,data:=.seq its.toArray c',slots:= #[]}->EP X pins σ Q (.ref s.heap.objs.size) {s with heap:=h'}:=fun its r' hz h' c' kp e=>
  ⟨.ref s.heap.objs.size,_,I.laid (t':=s.toks) kp (Nat.le_refl _) (show zbC X.prog X.w _ h' _ (.lst ys) from⟨hz,its,c',r',e⟩),rfl,q _ (I.hok.fresh (Nat.le_refl _))⟩
 rcases hq with hq |hq
 ·obtain⟨its,r',pl,hz⟩:=I.list hq;have hlen:=r'.length;obtain⟨o,ho,hc,n,hd⟩:=pl.isList;exact call_list_seq p (.inl rfl) ho hc hd (fun h' c' kp e=>fin its r' hz h' c' kp e) (by simp only[List.size_toArray]<;>omega)
 ·obtain⟨its,r',pl,hz⟩:=I.tuple hq;have hlen:=r'.length;obtain⟨o,ho,hc,n,hd⟩:=pl;exact call_list_seq p (.inr rfl) ho hc hd (fun h' c' kp e=>fin its r' hz h' c' kp e) (by simp only[List.size_toArray]<;>omega)
theorem zbd:zdM X (.type "tuple") (fun xs H Q=>∃p ys,xs=[.ref p]/\((SqL X.K H p ys/\∀l,H l=none->Q (.ref l) (upd H l (.tup ys)))\/(SqT X.K H p ys/\Q (.ref p) H))):=by
 intro pins s σ H xs us Q I r h;obtain⟨p,ys,rfl,h⟩:=h;obtain⟨u,rfl,rx⟩:=vals1 r;cases rx;rcases h with⟨hq,q⟩ |⟨hq,q⟩
 ·obtain⟨its,r',pl,hz⟩:=I.list hq;have hlen:=r'.length;refine call_tuple_list pl.isList (fun h' kp=>?_) (by simp only[List.size_toArray]<;>omega)
  have I1:Inv X pins σ H {s with heap:=h'}:=I.kept (t':=s.toks) kp;have I2:Inv X pins σ (upd H h'.objs.size (.tup ys)) {s with heap:=h'.push {cls:=.type "tuple",data:=.seq its.toArray}}:=
   I1.laid (t':=s.toks) (fun b o e=>Heap.get?_push_of_some _ e) (Nat.le_refl _) (show zbC X.prog X.w _ _ _ (.tup ys) from⟨hz,its,r',IsTup.new _ _⟩)
  exact⟨.ref h'.objs.size,_,I2,rfl,q _ (I1.hok.fresh (Nat.le_refl _))⟩
 ·obtain⟨its,r',pl,hz⟩:=I.tuple hq;exact call_tuple_same pl ⟨.ref p,H,I,rfl,q⟩
def tyV (K:Fgx)(T:String)(x:V)(H:Hp):Prop:=match x with
 |.str _=>T="str"
 |.int _=>T="int"
 |.ref p=>(T="list"/\∃xs,SqL K H p xs)\/(T="tuple"/\∃o,K.lookup p=some o/\o.cls=.type "tuple"/\o.dict=none)\/
   (T="dict"/\((∃kvs,H p=some (.dK kvs))\/∃kvs,H p=some (.dT kvs)))\/(T="set"/\∃S n,H p=some (.set S n))
 |_=>False
theorem zoW (I:Inv X pins σ H s)(r:RelV x v)(ty:tyV X.K T x H):
    s.TypeIs v T/\∀a,v=.ref a->∃ob,s.heap.get? a=some ob/\ob.dict=none:=by
  cases x with
  |str z=>
    obtain⟨t,rfl⟩:=r;cases (show T="str" from ty);exact⟨typeIs_str s z t,fun _ e=>nomatch e⟩
  |int i=>
    obtain⟨t,rfl⟩:=r;cases (show T="int" from ty);exact⟨typeIs_int s i t,fun _ e=>nomatch e⟩
  |ref p=>
    cases r;rcases ty with⟨rfl,xs,hq⟩ |⟨rfl,o,hk,hc,hd⟩ |⟨rfl,hk⟩ |⟨rfl,S,n,hk⟩
    · obtain⟨its,_,pl,_⟩:=I.list hq;refine⟨pl.isList.typeIs,fun a e=>?_⟩;cases e;obtain⟨o,n,e,c,hd,_⟩:=pl;exact⟨o,e,hd⟩
    · refine⟨⟨o,I.kIn p o hk,hc⟩,fun a e=>?_⟩;cases e;exact⟨o,I.kIn _ o hk,hd⟩
    · have z:∃o,s.heap.get? p=some o/\o.ExactDict:=by
        rcases hk with⟨kvs,hk⟩ |⟨kvs,hk⟩
        · obtain⟨_,_,_,_,o,_,_,e,ex,_⟩:=I.hok p _ hk;exact⟨o,e,ex⟩
        · obtain⟨_,_,_,_,o,_,_,e,ex,_⟩:=I.hok p _ hk;exact⟨o,e,ex⟩
      obtain⟨o,e,ex⟩:=z;refine⟨⟨o,e,ex.1⟩,fun a e2=>?_⟩;cases e2;exact⟨o,e,ex.2.1⟩
    · obtain⟨o,_,_,_,e,ex,_⟩:=I.hok p _ hk;refine⟨⟨o,e,ex.1⟩,fun a e2=>?_⟩;cases e2;exact⟨o,e,ex.2.1⟩
  |_=>exact False.elim ty
def tBM0 (K:Fgx)(T:String)(r:V->List V->Hp->VK->Prop)(to:TE):TE:=fun σ H Q=>to σ H fun x H1=>tyV K T x H1/\r x [] H1 Q
def tBM (K:Fgx)(T:String)(r:V->List V->Hp->VK->Prop)(to:TE)(t:TA):TE:=fun σ H Q=>to σ H fun x H1=>tyV K T x H1/\t σ H1 fun xs H2=>r x xs H2 Q
variable {o e:Expr}{es:List Expr}{to:TE}{t:TA}{name:Str}{apos cpos:Pos}{T id:String}{r:V->List V->Hp->VK->Prop}
theorem zsV (pa:PlainAttrs T)(slot:Slot T name id)(hty:typeOf (.builtin id)=pure (.type "method_descriptor"))(hm:MtR X id r)(ho:PE X o to)
  (hbase:attributeBase o name X.env (eval o X.env)=eval o X.env:=by rfl) (hline:(apos.endLine==cpos.line)=true:=by rfl):PE X (.Call (.Attribute o name apos) [] [] cpos) (tBM0 X.K T r to):=by
 intro pins s σ H Q I h;refine wpAny_Call_method0_late hbase hline (thn (ho pins s σ H _ I h) fun v s1 ⟨x,H1,I1,r1,ty,q1⟩=>?_);obtain⟨h1,h2⟩:=zoW I1 r1 ty;exact⟨T,id,pa,slot,hty,h1,h2,Calls.callWith_builtin rfl (PySem.evalArgs_none (hm pins s1 σ H1 x [] v [] Q I1 r1 .nil q1))⟩
theorem zpZ (pa:PlainAttrs T)(slot:Slot T name id)(hty:typeOf (.builtin id)=pure (.type "method_descriptor"))(hm:MtR X id r)(ho:PE X o to)(ha:PA X (e::es) t)
  (hbase:attributeBase o name X.env (eval o X.env)=eval o X.env:=by rfl)
  (hfew : ((backTo cpos (starEach (e::es) X.env)).all (fun x=> !x.1) && (backToKw cpos (keywordEach [] X.env)).all (fun x=>x.1.isSome)
   && decide ((e::es).length + ([]:List Keyword).length + (if ([]:List Keyword).isEmpty then 0 else 1)<30))=true:=by rfl)
  (hline:(apos.endLine==cpos.line)=true:=by rfl) (hs:starEach (e::es) X.env=(false,eval e X.env)::starEach es X.env:=by rfl) (hplain:(backTo cpos (starEach es X.env)).any (·.1)=false:=by rfl):
  PE X (.Call (.Attribute o name apos) (e::es) [] cpos) (tBM X.K T r to t):=by
 intro pins s σ H Q I h;refine wpAny_Call_method_late hbase hfew hline rfl (thn (ho pins s σ H _ I h) fun v s1 ⟨x,H1,I1,r1,ty,q1⟩=>?_);obtain⟨h1,h2⟩:=zoW I1 r1 ty;refine⟨T,id,pa,slot,hty,h1,h2,?_⟩;have hA:=ha cpos pins s1 σ H1 _ I1 q1;rw[hs]at hA ⊢;refine Calls.callWith_builtin (by show(false || (backTo cpos (starEach es X.env)).any (·.1))=false;rw[hplain]<;>rfl) (Calls.evalArgs_plain ?_)
 exact thn hA fun us s2 ⟨vs,H2,I2,r2,q2⟩=>hm pins s2 σ H2 x vs v us Q I2 r1 r2 q2
end
def MtM (X:Cx)(id:String)(r:V->List V->Hp->VK->Prop):Prop:=
 ∀(pins:Pnx) (s:Shared) (σ:St) (H:Hp) (x:V) (xs:List V) (v:Value) (us:List Value) (Q:VK),Inv X pins σ H s->RelV x v->Vals xs us->r x xs H Q->
  wpAny (model X.prog X.w) X.A (call (.builtin id) (v::us)) (EP X pins σ Q) X.xe s
theorem Vals.one:∀{x:V} {us:List Value},Vals [x] us->∃u,us=[u]/\RelV x u
 |_,_,.cons r .nil=>⟨_,rfl,r⟩
theorem Vals.zero:∀{us:List Value},Vals [] us->us=[]
 |_,.nil=>rfl
theorem Vals.dropLast (h:Vals xs us):Vals xs.dropLast us.dropLast:=by
  induction h with
  |nil=>exact .nil
  |cons r t ih=>
    cases t with
    |nil=>exact .nil
    |cons q t'=>exact .cons r ih
theorem zk6 (l:List α):l.eraseIdx (l.length - 1)=l.dropLast:=by
  induction l with
  |nil=>rfl
  |cons a r ih=>
    cases r with
    |nil=>rfl
    |cons b r=>
      have e:(a::b::r).length - 1=((b::r).length - 1) + 1:=by
        have h1:(a::b::r).length=r.length + 2:=rfl;have h2:(b::r).length=r.length + 1:=rfl;omega
      rw[e,List.eraseIdx_cons_succ,ih]
      all_goals rfl
section
variable {X:Cx}{pins:Pnx}{σ:St}{H:Hp}{s:Shared}{l b:Addr}{xs ys zs:List V}
theorem Inv.lset {its its':List Value}{n:Nat}{f:Array Value->Array Value}{t':Nat}(I:Inv X pins σ H s)(hH:H l=some (.lst xs))
  (e:s.heap.get? l=some {cls:=.type "list",data:=.seq its.toArray n}) (hf:f its.toArray=its'.toArray) (hv:Vals ys its') (hz:ys.length<=sizeLine):
  Inv X pins σ (upd H l (.lst ys)) {s with heap:=s.heap.update l (Obj.mapSeq f),toks:=t'}:=by
 have q:=PySem.IsL.update e f;rw[hf]at q;refine I.write (x:=l) (e:=l) (by rw[hH];exact trivial) (.inl rfl) (fun b' u hb hu=>(Heap.get?_update_other s.heap (Obj.mapSeq f) (Ne.symm hb)).trans hu) ⟨_,q⟩ ?_;exact⟨hz,its',_,hv,q⟩
theorem Inv.lnew (I:Inv X pins σ H s)(hv:Vals ys its)(hz:ys.length<=sizeLine):
  Inv X pins σ (upd H s.heap.objs.size (.lst ys)) {s with heap:=s.heap.push {cls:=.type "list",data:=.seq its.toArray},toks:=t'}:=
 I.laid (fun _ _ q=>Heap.get?_push_of_some _ q) (Nat.le_refl _) ⟨hz,its,0,hv,Heap.get?_push_size _ rfl⟩
theorem Inv.fresh (I:Inv X pins σ H s):H s.heap.objs.size=none:=I.hok.fresh (Nat.le_refl _)
theorem Inv.lstM (I:Inv X pins σ H s)(hH:H l=some (.lst xs)):xs.length<=sizeLine/\∃(its:List Value) (n:Nat),Vals xs its/\xs.length=its.length/\s.heap.get? l=some {cls:=.type "list",data:=.seq its.toArray n}:=by
 obtain⟨z,its,n,r,e⟩:=I.hok l _ hH;exact⟨z,its,n,r,r.length,e⟩
end
section
variable {X:Cx}
def zpA:V->List V->Hp->VK->Prop:=fun x vs H Q=>∃l xs y,x=.ref l/\vs=[y]/\H l=some (.lst xs)/\xs.length<sizeLine/\Q .non (upd H l (.lst (xs ++ [y])))
theorem zgT:MtM X "list.append" zpA:=by
 intro pins s σ H x vs v us Q I rx rv h;obtain⟨l,xs,y,rfl,rfl,hH,hz,q⟩:=h;cases rx;obtain⟨u,rfl,ru⟩:=rv.one;obtain⟨z,its,n,r,hl,e⟩:=I.lstM hH;refine call_meets F.slot_list_append ⟨_,e,rfl⟩ F.entry_list_append (F.args_list_append_2 _ _) (PySem.list_append l its.toArray n u (by rw[List.size_toArray];omega)) ⟨e,?_⟩;refine⟨.non,_,I.lset (its':=its ++ [u]) hH e (by simp) (r.append (.cons ru .nil)) ?_,rfl,q⟩;rw[List.length_append,List.length_singleton];omega
def rPop:V->List V->Hp->VK->Prop:=fun x vs H Q=>∃l xs y,x=.ref l/\vs=[]/\H l=some (.lst xs)/\xs[xs.length - 1]? =some y/\Q y (upd H l (.lst xs.dropLast))
theorem zss:MtM X "list.pop" rPop:=by
 intro pins s σ H x vs v us Q I rx rv h;obtain⟨l,xs,y,rfl,rfl,hH,hy,q⟩:=h;cases rx;have hus:=rv.zero;subst hus;obtain⟨z,its,n,r,hl,e⟩:=I.lstM hH;obtain⟨u,hu,ru⟩:=r.get hy;have hy':its.toArray[its.toArray.size - 1]? =some u:=by
  show its.toArray[its.length - 1]? =some u;rw[<-Array.getElem?_toList, <-hl];exact hu
 refine call_meets F.slot_list_pop ⟨_,e,rfl⟩ F.entry_list_pop (F.args_list_pop_1 _) (MeetsSeq.list_pop_last l its.toArray n u hy' (by rw[List.size_toArray];omega)) ⟨e,?_⟩;refine⟨y,_,I.lset (its':=its.dropLast) hH e ?_ r.dropLast ?_,ru,q⟩
 ·show its.toArray.eraseIdxIfInBounds (its.toArray.size - 1)=its.dropLast.toArray;rw[List.size_toArray,List.eraseIdxIfInBounds_toArray,zk6]
 ·rw[List.length_dropLast];omega
end
end L2
namespace Att
open PySem PySem.W PySem.Calls PyProof.Rows
theorem zgt:∀(ns:List Int) (vs:List Value),WellAll P h vs (ns.map WData.int)->IntsAre vs ns:=by
  intro ns
  induction ns with
  |nil=>
    intro vs w;rw[List.map_nil]at w;cases w;exact .nil
  |cons n ns ih=>
    intro vs w;rw[List.map_cons]at w
    cases w with
    |cons a b=>
      cases a;exact .cons _ _ (ih _ b)
theorem zmC {l:OpenLaw}{n:Nat}(hn:l.most=some n){P:Params}{h:Heap}{args:List WData}{vals:List Value}
    (hpre:l.row.toRowW.claim.pre args=true) (hwl:WellAll P h vals args):
    ∃a vs ns,vals=[Value.ref a]/\args=[WData.list (ns.map WData.int)]/\h.get? a=some {cls:=.type "list",data:=.seq vs.toArray}/\IntsAre vs ns/\ns.length<=n:=by
  have hsh:WShape.hasAll [] args [.list .int]=true:=(pre_splitW hpre).1;have hc:l.pre.holds [] {args:=args}=true:=(pre_splitW hpre).2;obtain⟨d,r,rfl,h1,h2⟩:=hasAllW_cons hsh;obtain rfl:=hasAllW_nil h2;obtain⟨xs,rfl,h3⟩:=hasW_list h1;obtain⟨ns,rfl⟩:=items_int h3;have hlen:ns.length<=n:=by
    unfold OpenLaw.pre at hc;have h4:(WTm.not (.lt (.lit (.int (n:Int))) (.len (.arg 0)))).holds [] {args:=[.list (ns.map .int)]}=true:=by
      have h4:=(holds_andW hc).1;rw[hn]at h4;exact h4
    have h5:=condW_of h4 (w_not (w_lt w_lit (w_len_list (w_arg rfl))));rw[List.length_map]at h5;refine Nat.le_of_not_lt fun q=>?_;have q':(n:Int)<((ns.length:Nat):Int):=by omega
    first
      |(rw[decide_eq_true q']at h5;exact absurd h5 (by decide))
      |(simp at h5;omega)
  cases hwl with
  |cons w1 w2=>
    cases w2
    cases w1 with
    |list ho hall=>exact⟨_,_,ns,rfl,rfl,ho,zgt ns _ hall,hlen⟩
theorem zlz (l:OpenLaw)(args:List WData):l.row.toRowW.claim.post args (.bool true) args=true:=
 postW_of (r:=l.row.toRowW) (X:=(true==true))
  (show WShape.has [] (.bool true) .bool=true by first |rfl |decide |simp[WShape.has,WShape.arms,WShape.armsAll])
  (show(WTm.eq .res (.lit (.bool true))).value [] {args:=args,res:=some (.bool true),after:=args}=some (.bool (true==true)) from w_eq_bool (w_res rfl) w_lit) rfl
theorem zjN {l:OpenLaw}{n:Nat}{q:Program}{loose:List Str}{XP:(Mgx)->Heap->Prop}{YP:World->Heap->Prop}{d:DefRec}
  (hn:l.most=some n) (hdf:d.params.defaults=[])
  (call:∀(w:World) (s₀ s₁:Shared) (mg mb:Mgx) (fa:Addr) (o:Obj) (pm cd doc:Value) (a:Addr) (vs:List Value) (ns:List Int),
   Ground q loose [] XP w s₀ mg mb s₁.heap->YP w s₁.heap->
   s₁.heap.get? fa=some o->o.data=.func (docDef d.name d.params d.body d.scope pm cd doc)->s₁.heap.CodeRec cd d.name->mg d.name=some (.ref fa)->
   s₁.heap.get? a=some {cls:=.type "list",data:=.seq vs.toArray}->IntsAre vs ns->ns.length<=n->s₁.gens= #[]->
   codeAny (model l.prog w) callerA (.call (.ref fa) ⟨[.ref a],[]⟩) (fun r s'=>r=.ok (.ret (.bool true))/\OldK s₁.heap s'.heap/\s'.os=s₁.os/\AllBare s'.gens) s₁):
  WalkO q loose XP YP l.row.toRowW d [] (fun f vs=>PySem.call f vs):=by
 intro w s₀ s₁ mg mb G Y fa o pm cd doc dV kV ho hd hcd hD hmg hg args vals as hpre hlay hrd hwl hlo;obtain rfl:dV=.none:=Dflts.none hD hdf;obtain rfl:kV=.none:=Dflts.noKw hD;obtain⟨a,vs,ns,rfl,rfl,hobj,hints,hlen⟩:=zmC hn hpre hwl;refine enter_call (codeAny_mono (call w s₀ s₁ mg mb fa o pm cd doc a vs ns G Y ho (fd_plain hd) hcd hmg hobj hints hlen hg) fun r s' hq=>?_);obtain⟨rfl,h2,h3,h4⟩:=hq;exact⟨.inl ⟨.bool true,.bool true,[],rfl,fun _=>rfl,.bool true,zlz l _,fun _=>⟨List.Pairwise.nil,fun _ hm=>(nomatch hm)⟩⟩,h2,h3,h4⟩
end Att
namespace L2
open PySem PySem.Spec PyProof.Rows
theorem zjp:∀{vs:List Value} {ns:List Int},IntsAre vs ns->Vals (ns.map V.int) vs
 |_,_,.nil=>.nil
 |_,_,.cons n t h=>.cons ⟨t,rfl⟩ (zjp h)
def Only (H:Hp):Prop:=∀b,H b=none\/∃o xs,H b=some (.frz o (.lst xs))
theorem znR {P:Program}{w:World}{K:Fgx}{mg mb:Mgx}{CX:CXT}{k:Nat}{fa a:Addr}{fd:FuncData}{x:Str}{sp:Sp}{s₁:Shared}{vs:List Value}{ns:List Int}
    (KX:K.In s₁.heap) (hns:s₁.heap.Ns mainGlobals mg) (hb:s₁.heap.Ns builtinsNs mb) (hbb:∀x:Str,x≠"__name__"->mb x=bootBuiltins x) (hlim:s₁.heap.NoLimit) (hg:s₁.gens= #[])
    (ha:s₁.heap.get? a=some {cls:=.type "list",data:=.seq vs.toArray}) (hi:IntsAre vs ns) (hl:ns.length<=sizeLine) (hr:Room k callerA)
    (F:∀base:Heap,K.In base->base.Ns mainGlobals mg->FnOk P w K mg base CX k fa fd [x] sp) (hbind:∀(s:Shared) (u:Value),BindsTo s fd ⟨[u],[]⟩ [(x,u)])
    (hsp:∀H:Hp,Only H->SqL K H a (ns.map V.int)->sp [.ref a] H (fun v _=>v=.bl true) fun _ _ _=>False)
    (hCX:∀H e s',CX [] H s₁ (fun _ _ _=>False) e s'->False):
    codeAny (model P w) callerA (.call (.ref fa) ⟨[.ref a],[]⟩) (fun r s'=>r=.ok (.ret (.bool true))/\OldK s₁.heap s'.heap/\s'.os=s₁.os/\AllBare s'.gens) s₁:=by
  have rv:=zjp hi;have lenV:=hi.length
  -- from an abstract heap in which nothing but the script may be tracked
  have core:∀H:Hp,Only H->SqL K H a (ns.map V.int)->HOk P w H s₁.heap->(∀b,H b≠none->b=a)->(H a≠none->K.lookup a=none)->
      codeAny (model P w) callerA (.call (.ref fa) ⟨[.ref a],[]⟩) (fun r s'=>r=.ok (.ret (.bool true))/\OldK s₁.heap s'.heap/\s'.os=s₁.os/\AllBare s'.gens) s₁:=by
    intro H hO hS hok hA hK;have base_of:∀{b:Addr} {o:Obj},s₁.heap.get? b=some o->H b=none->(hidT s₁.heap H).get? b=some o:=fun e n=>znY e n;have noA:∀{b:Addr} {o:Obj} {es:Array DictEntry} {ep:Nat},s₁.heap.get? b=some o->o.data=.dict es ep->H b=none:=fun {b o es ep} e d=>by
      cases q:H b with
      |none=>rfl
      |some u=>
        have e':b=a:=hA b (by rw[q];simp);subst e';rw[ha]at e;cases e;have d':Data.seq vs.toArray _=Data.dict es ep:=d;cases d'
    have nsK : ∀ {b : Addr} {m : Mgx}, s₁.heap.Ns b m -> (hidT s₁.heap H).Ns b m := fun {b m} ⟨o, es, ep, e, d, r⟩ => ⟨o, es, ep, base_of e (noA e d), d, r⟩;have hKb : K.In (hidT s₁.heap H) := fun b o e => base_of (KX b o e) (by
      cases q:H b with
      |none=>rfl
      |some u=>
        have e':b=a:=hA b (by rw[q];simp);subst e';rw[hK (by rw[q];simp)]at e;cases e)
    have hM:Mod K mg (hidT s₁.heap H):=⟨hKb,nsK hns,⟨mb,nsK hb,hbb⟩,let ⟨mc,h1,h2⟩:=hlim;⟨mc,nsK h1,h2⟩⟩
    have e0:Env0 P w K mg (hidT s₁.heap H) callerA [] s₁ H:=⟨rfl,hM,fun b o e=>zqw e,Nat.le_of_eq (zlH _ _),trivial,fun b hb=>absurd (show b∈([]:List Addr) from hb) (by simp),hok,.of_eq hg⟩;refine codeAny_mono ((F _ hKb (nsK hns)).run callerA [] s₁ H ⟨[.ref a],[]⟩ [.ref a] [.ref a] _ _ hr e0 (hbind s₁ (.ref a)) (.cons rfl .nil) (hsp H hO hS)) fun r s' h=>?_
    cases r with
    |error e=>exact(hCX H e s' h).elim
    |ok fl=>
      cases fl with
      |next=>exact False.elim h
      |brk=>exact False.elim h
      |cont=>exact False.elim h
      |ret u=>
        obtain⟨v,H',os,bare,un,hok',r',q⟩:=h;have q':v=.bl true:=q;subst q';obtain rfl:u=Value.bool true:=r';refine⟨rfl,OldK.of_keep fun b o e=>?_,os,bare⟩
        cases q:H b with
        |none=>exact un.keep b o e q (by intro z;exact absurd (show b∈([]:List Addr) from z) (by simp)) (by simp)
        |some u=>
          rcases hO b with z |⟨ob,xs,z⟩
          · rw[q]at z;cases z
          · have z2:=un.frzs b ob _ z;obtain⟨e1,_⟩:=hok b _ z;obtain⟨e2,_⟩:=hok' b _ z2;rw[e]at e1;cases e1;exact e2
  cases hk:K.lookup a with
  |some o=>
    -- the script is one of the module's own objects
    have e:=KX a o hk;rw[ha]at e;cases e;refine core (fun _=>none) (fun _=>.inl rfl) (.inr ⟨_,vs.toArray,_,hk,rfl,rfl,rfl,by rw[List.size_toArray,lenV];exact hl,by simpa using rv⟩) (fun b u z=>by have z':(none:Option HO)=some u:=z;cases z') (fun b z=>absurd rfl z) fun z=>absurd rfl z
  |none=>
    refine core (fun b=>if b=a then some (.frz {cls:=.type "list",data:=.seq vs.toArray} (.lst (ns.map V.int))) else none) (fun b=>?_) (.inl (.inr ⟨{cls:=.type "list",data:=.seq vs.toArray},if_pos rfl⟩)) (fun b u z=>?_) (fun b z=>?_) fun _=>hk
    · by_cases hb:b=a
      · exact .inr ⟨_,_,if_pos hb⟩
      · exact .inl (if_neg hb)
    · by_cases hb:b=a
      · have z':=(if_pos hb).symm.trans z;cases z';subst hb;exact⟨ha,by rw[List.length_map];exact hl,vs,_,rv,ha⟩
      · have z':=(if_neg hb).symm.trans z;cases z'
    · by_cases hb:b=a
      · exact hb
      · exact absurd (if_neg hb) z
theorem zpm {l:PySem.W.OpenLaw}{n k:Nat}{q:Program}{loose:List Str}{XP:(Mgx)->Heap->Prop}{YP:World->Heap->Prop}{d:DefRec}{K:Params->Fgx}{CX:World->CXT}{sp:World->Sp}{x:Str}
  (hn:l.most=some n) (hn2:n<=sizeLine) (hdf:d.params.defaults=[]) (hr:Room k callerA)
  (hY:∀(w:World) (h:Heap),YP w h->(K w.params).In h)
  (F:∀(w:World) (mg:Mgx) (fa:Addr) (h:Heap),(K w.params).In h->h.Ns mainGlobals mg->mg d.name=some (.ref fa)->
   ∃fd:FuncData,(∀(s:Shared) (u:Value),BindsTo s fd ⟨[u],[]⟩ [(x,u)])/\
    ∀base:Heap,(K w.params).In base->base.Ns mainGlobals mg->FnOk l.prog w (K w.params) mg base (CX w) k fa fd [x] (sp w))
  (hsp:∀(w:World) (H:Hp) (a:Addr) (ns:List Int),ns.length<=n->Only H->SqL (K w.params) H a (ns.map V.int)->sp w [.ref a] H (fun v _=>v=.bl true) fun _ _ _=>False)
  (hCX:∀(w:World) (H:Hp) (s:Shared) (e:Value) (s':Shared),CX w [] H s (fun _ _ _=>False) e s'->False):
  PySem.W.WalkO q loose XP YP l.row.toRowW d [] (fun f vs=>PySem.call f vs):=by
 refine Att.zjN hn hdf fun w s₀ s₁ mg mb fa o pm cd doc a vs ns G Y ho hd hcd hmg hobj hints hlen hg=>?_;have KX:=hY w _ Y;obtain⟨fd,hb,hF⟩:=F w mg fa _ KX G.T.g hmg;exact znR KX G.T.g G.T.b G.T.builtins G.T.nolimit hg hobj hints (Nat.le_trans hlen hn2) hr hF hb (fun H hO hS=>hsp w H a ns hlen hO hS) fun H e s'=>hCX w H s₁ e s'
theorem znB {l:PySem.W.OpenLaw}{n k:Nat}{q:Program}{loose:List Str}{XP:(Mgx)->Heap->Prop}{YP:World->Heap->Prop}{d:DefRec}{K:Params->Fgx}{CX:CXT}{sp:Fgx->Sp}{x:Str}
  (hn:l.most=some n) (hn2:n<=sizeLine) (hdf:d.params.defaults=[]) (hr:Room k callerA)
  (hY:∀(w:World) (h:Heap),YP w h->(K w.params).In h)
  (F:∀(w:World) (mg:Mgx) (fa:Addr) (h:Heap),(K w.params).In h->h.Ns mainGlobals mg->mg d.name=some (.ref fa)->
   ∃fd:FuncData,(∀(s:Shared) (u:Value),BindsTo s fd ⟨[u],[]⟩ [(x,u)])/\
    ∀base:Heap,(K w.params).In base->base.Ns mainGlobals mg->FnOk l.prog w (K w.params) mg base CX k fa fd [x] (sp (K w.params)))
  (hsp:∀(K:Fgx) (H:Hp) (a:Addr) (ns:List Int),ns.length<=n->Only H->SqL K H a (ns.map V.int)->sp K [.ref a] H (fun v _=>v=.bl true) fun _ _ _=>False)
  (hCX:∀(H:Hp) (s:Shared) (e:Value) (s':Shared),CX [] H s (fun _ _ _=>False) e s'->False):
  PySem.W.WalkO q loose XP YP l.row.toRowW d [] (fun f vs=>PySem.call f vs):=
 zpm (K:=K) (CX:=fun _=>CX) (sp:=fun w=>sp (K w.params)) hn hn2 hdf hr hY F (fun w H a ns h1 h2 h3=>hsp (K w.params) H a ns h1 h2 h3) fun _ H s e s'=>hCX H s e s'
def zb5 (s:Stmt):Arguments:=match s with
 |.FunctionDef _ a _ _ _ _ _ _ _ _=>a
 |_=>{posonlyargs:=[],args:=[],vararg:=none,kwonlyargs:=[],kw_defaults:=[],kwarg:=none,defaults:=[]}
def za9 (s:Stmt):List Stmt:=match s with
 |.FunctionDef _ _ b _ _ _ _ _ _ _=>b
 |_=>[]
def zah (s:Stmt):Scope:=match s with
 |.FunctionDef _ _ _ _ _ _ sc _ _ _=>sc
 |_=>{kind:=.function,names:=[],isGenerator:=false,isCoroutine:=false}
abbrev CX0:CXT:=fun _ _ _ _ _ _=>False
abbrev E0:XK:=fun _ _ _=>False
theorem zqK:Passes CX0 X E0:=fun _ _ _ _ _ _ _ h=>h.elim
structure Fun (K:Fgx)(x qual:Str)(st:Stmt)(f:Addr)(fd:FuncData):Prop where
 ex:∃(oc:Value) (od:Option Addr) (kV doc pm:Value) (an:Option Addr) (cdv ct:Value) (osl:Array (Option Value)),
  fd=PySem.W.fnOf x qual (zb5 st) (za9 st) (zah st) .none kV doc pm an cdv ct/\K.lookup f=some ⟨oc,od,.func fd,osl⟩/\PySem.W.codeIn K cdv qual=true
 kp:PySem.W.keepIn K (.ref f)=true
section
variable {P:Program}{w:World}{K:Fgx}{mg:Mgx}{base:Heap}
theorem Fun.binds {x qual:Str}{st:Stmt}{f:Addr}{fd:FuncData}{ps:List Str}(F:Fun K x qual st f fd)
  (h:∀(kV doc pm:Value) (an:Option Addr) (cdv ct:Value) (us:List Value),us.length=ps.length->bindArgs (PySem.W.fnOf x qual (zb5 st) (za9 st) (zah st) .none kV doc pm an cdv ct) ⟨us,[]⟩=pure (ps.zip us)):Binds K fd ps []:=by
 obtain⟨oc,od,kV,doc,pm,an,cdv,ct,osl,rfl,lk,hcd⟩:=F.ex;exact .all (h kV doc pm an cdv ct)
theorem zhM {x qual:Str}{st:Stmt}{f:Addr}{oc:Value}{od an:Option Addr}{osl:Array (Option Value)}{kV doc pm cdv ct:Value}(l:K.lookup f=some ⟨oc,od,.func (PySem.W.fnOf x qual (zb5 st) (za9 st) (zah st) .none kV doc pm an cdv ct),osl⟩)
  (c:PySem.W.codeIn K cdv qual=true) (k:PySem.W.keepIn K (.ref f)=true):Fun K x qual st f (PySem.W.fnOf x qual (zb5 st) (za9 st) (zah st) .none kV doc pm an cdv ct):=⟨⟨oc,od,kV,doc,pm,an,cdv,ct,osl,rfl,l,c⟩,k⟩
end
def Same (H H':Hp):Prop:=∀b o,H b=some o->H' b=some o
theorem Same.refl (H:Hp):Same H H:=fun _ _ h=>h
theorem Same.free (e:Same H H')(h:H' l=Option.none):H l=Option.none:=by
  cases q:H l with
  |none=>rfl
  |some o=>
    rw[e l o q]at h;cases h
end L2
set_option maxHeartbeats 0
namespace L2
open PySem PySem.Spec PyProof.Rows
section
variable {κ:Type}[DecidableEq κ]
def valV (kvs:List (κ×V))(k:κ):Option V:=(kvs.find? fun kv=>decide (kv.1=k)).map (·.2)
def putK (kvs:List (κ×V))(k:κ)(v:V):List (κ×V):=
 if (kvs.any fun kv=>decide (kv.1=k))=true then kvs.map (fun kv=>if kv.1=k then(kv.1,v) else kv) else kvs ++ [(k,v)]
theorem zgj {p:κ×V}{r:List (κ×V)}{k:κ}(e:p.1=k):valV (p::r) k=some p.2:=by simp[valV,List.find?_cons,e]
theorem zgb {p:κ×V}{r:List (κ×V)}{k:κ}(e:¬ p.1=k):valV (p::r) k=valV r k:=by simp[valV,List.find?_cons,e]
theorem zkI (k:κ):∀kvs:List (κ×V),(kvs.any fun kv=>decide (kv.1=k))=(valV kvs k).isSome
  | []=>rfl
  |p::r=>by
    rw[List.any_cons]
    by_cases e:p.1=k
    · simp only[zgj e,decide_eq_true e,Bool.true_or,Option.isSome_some]
    · rw[zgb e,decide_eq_false e,Bool.false_or];exact zkI k r
theorem zgH (kvs:List (κ×V))(k:κ)(v:V):(putK kvs k v).length<=kvs.length + 1:=by
 unfold putK
 split
 ·rw[List.length_map];omega
 ·rw[List.length_append,List.length_cons,List.length_nil];omega
theorem RelO.isSome_eq (r:RelO o u):o.isSome=u.isSome:=by
  cases o with
  |none=>cases u with
    |none=>rfl
    |some _=>exact(show False from r).elim
  |some _=>cases u with
    |none=>exact(show False from r).elim
    |some _=>rfl
theorem RelO.getD (r:RelO o u)(rd:RelV d d'):RelV (o.getD d) (u.getD d'):=by
  cases o with
  |none=>cases u with
    |none=>exact rd
    |some _=>exact(show False from r).elim
  |some _=>cases u with
    |none=>exact(show False from r).elim
    |some _=>exact r
theorem KV.val {kvs:List (κ×V)}{vs:List (κ×Value)}(r:KV kvs vs)(k:κ):RelO (valV kvs k) (valueAt vs k):=by
  unfold KV at r
  induction r with
  |nil=>exact True.intro
  | @cons p q ps qs h t ih=>
    obtain⟨h1,h2⟩:=h
    by_cases e:p.1=k
    · have e':q.1=k:=h1.symm.trans e;have b:valueAt (q::qs) k=some q.2:=by simp[valueAt,List.find?_cons,e']
      rw[zgj e,b];exact h2
    · have e':¬ q.1=k:=fun z=>e (h1.trans z);have b:valueAt (q::qs) k=valueAt qs k:=by simp[valueAt,List.find?_cons,e']
      rw[zgb e,b];exact ih
theorem KV.any (r:KV kvs vs)(k:κ):(kvs.any fun kv=>decide (kv.1=k))=vs.any fun kv=>decide (kv.1=k):=by
 unfold KV at r
 induction r with
 |nil=>rfl
 |cons h t ih=>rw[List.any_cons,List.any_cons,ih,h.1]
theorem KV.repl (r:KV kvs vs)(k:κ)(ry:RelV y u):
    KV (kvs.map fun kv=>if kv.1=k then(kv.1,y) else kv) (vs.map fun kv=>if kv.1=k then(kv.1,u) else kv):=by
  unfold KV at r ⊢
  induction r with
  |nil=>exact .nil
  | @cons p q ps qs h t ih=>
    rw[List.map_cons,List.map_cons];refine .cons ?_ ih;obtain⟨h1,h2⟩:=h
    by_cases e:p.1=k
    · rw[if_pos e,if_pos (h1.symm.trans e)];exact⟨h1,ry⟩
    · rw[if_neg e,if_neg (fun z=>e (h1.trans z))];exact⟨h1,h2⟩
theorem KV.put (r:KV kvs vs)(k:κ)(ry:RelV y u):KV (putK kvs k y) (stored vs k u):=by
 unfold putK stored;rw[r.any k]
 by_cases e:(vs.any fun kv=>decide (kv.1=k))=true
 ·rw[if_pos e,if_pos e];exact r.repl k ry
 ·rw[if_neg e,if_neg e];exact Paired.snoc r ⟨rfl,ry⟩
theorem KV.length (r:KV kvs vs):kvs.length=vs.length:=Paired.length r
end
theorem zjS (r:RelV (kV k) u):(zbk P w).is k u=true:=by
 cases k with
 |inl i=>obtain⟨t,e⟩:=(show ∃t,u=Value.int i t from r);subst e;exact zj1 P w i t
 |inr x=>obtain⟨t,e⟩:=(show ∃t,u=Value.str x t from r);subst e;exact ze3 P w x t
theorem ziC:∀{ks:List Key} {us:List Value},Vals (ks.map kV) us->ItemsAre (zbk P w) ks us
  | [],_,r=>by rw[List.map_nil]at r;cases r;exact .nil
  |k::ks,_,r=>by
    rw[List.map_cons]at r
    cases r with
    |cons h t=>exact .cons (zjS h) (ziC t)
abbrev KT (H:Hp):List (List Key×V)->List (List Key×Addr×Value)->Prop:=Paired fun p q=>p.1=q.1/\H q.2.1=some (.tup (p.1.map kV))/\RelV p.2 q.2.2
theorem KT.val {H:Hp}{kvs:List (List Key×V)}{xs:List (List Key×Addr×Value)}(r:KT H kvs xs)(k:List Key):RelO (valV kvs k) ((atKey xs k).map (·.2)):=by
  induction r with
  |nil=>exact True.intro
  | @cons p q ps qs h t ih=>
    obtain⟨h1,_,h2⟩:=h
    by_cases e:p.1=k
    · have e':q.1=k:=h1.symm.trans e;have b:atKey (q::qs) k=some q.2:=by simp[atKey,List.find?_cons,e']
      rw[zgj e,b];exact h2
    · have e':¬ q.1=k:=fun z=>e (h1.trans z);have b:atKey (q::qs) k=atKey qs k:=by simp[atKey,List.find?_cons,e']
      rw[zgb e,b];exact ih
theorem KT.repl (r:KT H kvs xs)(k:List Key)(ry:RelV y u):
    KT H (kvs.map fun kv=>if kv.1=k then(kv.1,y) else kv) (xs.map (putAt k u)):=by
  induction r with
  |nil=>exact .nil
  | @cons p q ps qs h t ih=>
    rw[List.map_cons,List.map_cons];refine .cons ?_ ih;obtain⟨h1,h2,h3⟩:=h;unfold putAt
    by_cases e:p.1=k
    · rw[if_pos e,if_pos (h1.symm.trans e)];exact⟨h1,h2,ry⟩
    · rw[if_neg e,if_neg (fun z=>e (h1.trans z))];exact⟨h1,h2,h3⟩
theorem KT.put (r:KT H kvs xs)(k:List Key)(hb:H b=some (.tup (k.map kV)))(ry:RelV y u):
  KT H (putK kvs k y) (storedH xs k b u):=by
 have e:(kvs.any fun kv=>decide (kv.1=k))=(atKey xs k).isSome:=by
  rw[zkI,(r.val k).isSome_eq,Option.isSome_map]
 unfold putK storedH;rw[e]
 by_cases q:(atKey xs k).isSome=true
 ·rw[if_pos q,if_pos q];exact r.repl k ry
 ·rw[if_neg q,if_neg q];exact Paired.snoc r ⟨rfl,hb,ry⟩
theorem KT.keeps (r:KT H kvs xs)(ht:∀b ys,H b=some (.tup ys)->H' b=some (.tup ys)):KT H' kvs xs:=
 Paired.mapP r fun _ _ z=>⟨z.1,ht _ _ z.2.1,z.2.2⟩
section
variable {P:Program}{w:World}{H:Hp}{h:Heap}{a:Addr}
theorem zqW (ok:HOk P w H h)(e:Rd H a u):zbC P w H h a u:=e.ok ok
theorem znA (ok:HOk P w H h)(e:Rd H a (.dK kvs)):kvs.length<=sizeLine/\(a==sysModules)=false/\∃vs,KV kvs vs/\h.DictOf (zbk P w) a vs:=
 show zbC P w H h a (.dK kvs) from zqW ok e
theorem zu6 (ok:HOk P w H h)(e:H a=some (.dK kvs)):kvs.length<=sizeLine/\(a==sysModules)=false/\∃vs,KV kvs vs/\h.DictOf (zbk P w) a vs:=znA ok (.inl e)
theorem zka (ok:HOk P w H h)(e:H a=some (.tup (ks.map kV))):(tupleKind (zbk P w)).is h ks a:=by
 obtain⟨_,its,r,o,h1,h2,n,h3⟩:=(show zbC P w H h a (.tup (ks.map kV)) from ok a _ e);exact⟨o,its.toArray,n,h1,h2,h3,by simpa using ziC r⟩
theorem znv (ok:HOk P w H h)(e:Rd H a (.dT kvs)):kvs.length<=sizeLine/\(a==sysModules)=false/\
    ∃xs,KT H kvs xs/\h.DictOfH (tupleKind (zbk P w)) a xs:=by
  obtain⟨z,y,xs,r,o,es,ep,h1,h2,h3,h4,h5⟩:=(show zbC P w H h a (.dT kvs) from zqW ok e);refine⟨z,y,xs,r,o,es,ep,h1,h2,h3,h4,fun x hx=>?_,h5⟩;have all:∀{l:List (List Key×V)} {m:List (List Key×Addr×Value)},KT H l m->∀x∈m,(tupleKind (zbk P w)).is h x.1 x.2.1:=by
    intro l m q
    induction q with
    |nil=>intro x hx;exact nomatch hx
    | @cons p q ps qs hq t ih=>
      intro x hx;rcases List.mem_cons.mp hx with e |hx
      · subst e;exact zka ok (by rw[<-hq.1];exact hq.2.1)
      · exact ih x hx
  exact all r x hx
theorem zve (ok:HOk P w H h)(e:H a=some (.dT kvs)):kvs.length<=sizeLine/\(a==sysModules)=false/\
  ∃xs,KT H kvs xs/\h.DictOfH (tupleKind (zbk P w)) a xs:=znv ok (.inl e)
end
def DGet (H:Hp)(a:Addr)(y:V)(r:Option V):Prop:=
 (∃kvs k,Rd H a (.dK kvs)/\y=kV k/\r=valV kvs k)\/∃kvs k b,Rd H a (.dT kvs)/\y=.ref b/\H b=some (.tup (k.map kV))/\r=valV kvs k
def DPut (H:Hp)(a:Addr)(y v:V)(H':Hp):Prop:=
 (∃kvs k,H a=some (.dK kvs)/\y=kV k/\kvs.length<sizeLine/\H'=upd H a (.dK (putK kvs k v)))\/
 ∃kvs k b,H a=some (.dT kvs)/\y=.ref b/\H b=some (.tup (k.map kV))/\kvs.length<sizeLine/\H'=upd H a (.dT (putK kvs k v))
theorem DGet.k {H:Hp}{a:Addr}{kvs:List (Key×V)}{k:Key}(e:H a=some (.dK kvs)):DGet H a (kV k) (valV kvs k):=.inl ⟨kvs,k,.inl e,rfl,rfl⟩
theorem DPut.k {H:Hp}{a:Addr}{kvs:List (Key×V)}{k:Key}{v:V}(e:H a=some (.dK kvs))(hl:kvs.length<sizeLine):DPut H a (kV k) v (upd H a (.dK (putK kvs k v))):=.inl ⟨kvs,k,e,rfl,hl,rfl⟩
section
variable {X:Cx}{pins:Pnx}{σ:St}{H:Hp}{s:Shared}{a:Addr}{y v:V}{u r:Value}{o:Option V}{A:Around}{E:Value->Shared->Prop}
theorem Inv.big (I:Inv X pins σ H s):sysModules<s.heap.objs.size:=by
 have h:mainGlobals<s.heap.objs.size:=(I.mod.glob.keeps I.bk).lt;exact Nat.lt_trans (by decide) h
theorem d_in {Q:Value->Shared->Prop}(hu:A.units + 1<cLine)(I:Inv X pins σ H s)(g:DGet H a y o)(ry:RelV y u)(h:∀s',Inv X pins σ H s'->Q (.bool o.isSome) s'):
  wpAny (model X.prog X.w) A (compareOp .In u (.ref a)) Q E s:=by
 rcases g with⟨kvs,k,e,ey,l⟩ |⟨kvs,k,b,e,ey,eb,l⟩
 ·subst ey;obtain⟨z,hd,vs,rel,dd⟩:=znA I.hok e;refine wpAny_in_of (zjS ry) hd dd.mapOf ?_;rw[<-(rel.val k).isSome_eq, <-l];exact h _ (I.tok _)
 ·subst ey;cases (show u=Value.ref b from ry);obtain⟨z,hd,xs,rel,dd⟩:=znv I.hok e;refine wpAny_in_heap (tupleKind_room_in1 hu) (zka I.hok eb) hd dd ?_;have q:=(rel.val k).isSome_eq;rw[Option.isSome_map]at q;rw[<-q, <-l];exact h _ (I.tok _)
theorem zlN (I:Inv X pins σ H s)(mu:Mut (H a))(hs:Heap.SameBut a s.heap h')(he:∃q,h'.get? a=some q)(new:zbC X.prog X.w (upd H a ob) h' a ob):
  Inv X pins σ (upd H a ob) {s with heap:=h',toks:=t'}:=
 I.write (x:=a) (e:=a) mu (.inl rfl) (fun b q hb z=>(hs.2 b hb).trans z) he new
theorem zti (z:kvs.length<=sizeLine)(hd:(a==sysModules)=false)(rel:KV kvs vs)(dd:h'.DictOf (zbk P w) a vs):
  zbC P w H' h' a (.dK kvs):=⟨z,hd,vs,rel,dd⟩
theorem zlo (hu:A.units + 1<cLine)(I:Inv X pins σ H s)(g:DPut H a y v H')(ry:RelV y u)(rv:RelV v r)(h:∀s',Inv X pins σ H' s'->Q () s'):
  wpAny (model X.prog X.w) A (setItem (.ref a) u r) Q E s:=by
 rcases g with⟨kvs,k,e,ey,l,eH⟩ |⟨kvs,k,b,e,ey,eb,l,eH⟩
 ·subst ey eH;obtain⟨z,hd,vs,rel,dd⟩:=zu6 I.hok e;have hz:vs.length<=sizeLine:=by rw[<-rel.length];exact z
  have hl:(putK kvs k v).length<=sizeLine:=by have:=zgH kvs k v;omega
  refine wpAny_setItem_pairs (hsz:=hz) (zjS ry) dd fun h' dd' hs=>h _ ?_;have he:∃q,h'.get? a=some q:=let ⟨q,_,_,hq,_⟩:=dd';⟨q,hq⟩
  exact zlN I (by rw[e];exact True.intro) hs he (zti hl hd (rel.put k rv) dd')
 ·subst ey eH;cases (show u=Value.ref b from ry);obtain⟨z,hd,xs,rel,dd⟩:=zve I.hok e;have hz:xs.length<=sizeLine:=by rw[<-Paired.length rel];exact z
  have hl:(putK kvs k v).length<=sizeLine:=by have:=zgH kvs k v;omega
  refine wpAny_setItem_heap (hsz:=hz) (tupleKind_room_in1 hu) (zka I.hok eb) dd fun h' dd' hs=>h _ ?_;obtain⟨q,es,ep,hq,h2,h3,h4,_,h5⟩:=dd';refine zlN I (by rw[e];exact True.intro) hs ⟨q,hq⟩ ⟨hl,hd,_,(rel.put k eb rv).keeps fun c ys ec=>?_,q,es,ep,hq,h2,h3,h4,h5⟩;rw[zak (zwc ec e (fun z=>nomatch z))]
  exact ec
end
def NoSl (i:Expr):Prop:=∀ov iv,subscripted i false ov iv=operate [ov,iv] (getItem ov iv)
theorem zqk {prog:Program}{w:World}{A:Around}{E:Value->Shared->Prop}{s:Shared}{env:Env}{value slice:Expr}{pos:Pos}{T id:String}{Q:Value->Shared->Prop}
  (hl:typeLookup (.type T) "__getitem__"=pure (some (.builtin id))) (hs:NoSl slice)
  (h:wpAny (model prog w) A (eval value env) (fun o s₁=>wpAny (model prog w) A (eval slice env) (fun i s₂=>s₂.TypeIs o T/\wpAny (model prog w) A (getItem o i) Q E s₂) E s₁) E s):
  wpAny (model prog w) A (eval (.Subscript value slice pos) env) Q E s:=by
 refine Subscript_ (wpAny_mono h (fun o s₁ h₁=>wpAny_mono h₁ (fun i s₂ h₂=>?_) fun _ _ x=>x) fun _ _ x=>x);obtain⟨hT,h₂⟩:=h₂;unfold subscriptTail;refine wpAny_bind ?_;rw[getitemInPython_of_ne hT.not_modules];refine wpAny_bind (wpAny_specialOf hT hl ?_);have fin:wpAny (model prog w) A (subscripted slice false o i) (fun r s₃=>wpAny (model prog w) A (letTemporaryGo value o r >>=fun _=>pure r) Q E s₃) E s₂:=by
  rw[hs o i];exact wpAny_operating (wpAny_mono h₂ (fun r s₃ h₃=>wpAny_bind (wpAny_letTemporaryGo (wpAny_pure h₃))) fun _ _ x=>x)
 first
  |exact wpAny_pure (wpAny_bind fin)
  |exact wpAny_bind (wpAny_pure (wpAny_bind fin))
  |exact wpAny_bind fin
def tDIn (ty td:TE):TE:=fun σ H Q=>ty σ H fun y H1=>td σ H1 fun x H2=>∃a o,x=.ref a/\DGet H2 a y o/\Q (.bl o.isSome) H2
def zqA (ty td:TE):TE:=fun σ H Q=>ty σ H fun y H1=>td σ H1 fun x H2=>∃a o,x=.ref a/\DGet H2 a y o/\Q (.bl (!o.isSome)) H2
def zuP (td ty tv:TE):TS:=fun D σ H=>tv σ H fun v H1=>td σ H1 fun x H2=>ty σ H2 fun y H3=>∃a H4,x=.ref a/\DPut H3 a y v H4/\D.nx σ H4
section
variable {X:Cx}{o i e value:Expr}{pos pos' tpos:Pos}{td ty tv:TE}
theorem zq3 (hu:X.A.units + 1<cLine)(hi:PE X i ty)(ho:PE X o td):PC X .In i o (tDIn ty td):=by
 intro pins s σ H Q I h;refine thn (hi pins s σ H _ I h) fun iv s1 ⟨y,H1,I1,ry,q1⟩=>thn (ho pins s1 σ H1 _ I1 q1) fun u s2 ⟨x,H2,I2,rx,a,ov,ex,g,q2⟩=>?_;subst ex;obtain rfl:u=Value.ref a:=rx;exact d_in hu I2 g ry fun s3 I3=>⟨.bl ov.isSome,H2,I3,rfl,q2⟩
theorem zqu (hu:X.A.units + 1<cLine)(ho:PE X o td)(hi:PE X i ty)(hv:PE X value tv)(hs:swapsWith value (some (.Subscript o i pos')) pos.line X.env=pure false):
  PS X (.Assign [.Subscript o i pos'] value pos) (zuP td ty tv):=by
 intro pins s σ H D I h;refine wpAny_Assign_Subscript (thn (hv pins s σ H _ I h) fun r s1 ⟨v,H1,I1,rv,q1⟩=>thn (ho pins s1 σ H1 _ I1 q1) fun u s2 ⟨x,H2,I2,rx,q2⟩=>thn (hi pins s2 σ H2 _ I2 q2) fun iv s3 ⟨y,H3,I3,ry,a,H4,ex,g,q3⟩=>?_) hs;subst ex;obtain rfl:u=Value.ref a:=rx;exact zlo hu I3 g ry rv fun s4 I4=>⟨σ,H4,I4,q3⟩
end
theorem znw (h:Heap)(hb:sysModules<h.objs.size):zbC P w H (h.push {cls:=.type "dict",data:=.dict #[]}) h.objs.size (.dK []):=
 ⟨Nat.zero_le _,beq_eq_false_iff_ne.mpr (Ne.symm (Nat.ne_of_lt hb)),[],.nil,Heap.DictOf.new h⟩
def ztG:TE:=fun _ H Q=>∀p,H p=none->Q (.ref p) (upd H p (.dK []))
section
variable {X:Cx}{pos:Pos}
theorem znx:PE X (.Dict [] [] pos) ztG:=fun pins s σ H Q I h=>
 wpAny_Dict_empty ⟨.ref s.heap.objs.size,_,I.laid (a:=s.heap.objs.size) (o:=.dK []) (t':=s.toks) (fun _ _ q=>Heap.get?_push_of_some _ q) (Nat.le_refl _) (znw s.heap I.big),rfl,h _ (I.hok.fresh (Nat.le_refl _))⟩
end
structure M1 (X:Cx)(o:Expr)(m:Str)(apos:Pos)(e:Expr)(cpos:Pos):Prop where
 base:attributeBase o m X.env (eval o X.env)=eval o X.env
 few : ((backTo cpos (starEach [e] X.env)).all (fun x=> !x.1) && (backToKw cpos (keywordEach [] X.env)).all (fun x=>x.1.isSome)
  && decide (([e]:List Expr).length + ([]:List Keyword).length + (if ([]:List Keyword).isEmpty then 0 else 1)<30))=true
 line:(apos.endLine==cpos.line)=true
 trees:backTo cpos (starEach [e] X.env)=[(false,eval e X.env)]
structure M2 (X:Cx)(o:Expr)(m:Str)(apos:Pos)(e f:Expr)(cpos:Pos):Prop where
 base:attributeBase o m X.env (eval o X.env)=eval o X.env
 few : ((backTo cpos (starEach [e,f] X.env)).all (fun x=> !x.1) && (backToKw cpos (keywordEach [] X.env)).all (fun x=>x.1.isSome)
  && decide (([e,f]:List Expr).length + ([]:List Keyword).length + (if ([]:List Keyword).isEmpty then 0 else 1)<30))=true
 line:(apos.endLine==cpos.line)=true
 trees:backTo cpos (starEach [e,f] X.env)=[(false,eval e X.env),(false,eval f X.env)]
def IsD (H:Hp)(a:Addr):Prop:=(∃kvs,Rd H a (.dK kvs))\/∃kvs,Rd H a (.dT kvs)
theorem ztt (I:Inv X pins σ H s)(d:IsD H a):
  s.TypeIs (.ref a) "dict"/\(∀b,Value.ref a=.ref b->∃ob,s.heap.get? b=some ob/\ob.dict=none)/\(a==sysModules)=false:=by
 rcases d with⟨kvs,e⟩ |⟨kvs,e⟩
 ·obtain⟨_,hd,vs,_,dd⟩:=znA I.hok e;refine⟨dd.typeIs,fun b q=>?_,hd⟩;cases q;obtain⟨ob,_,_,h1,h2,_⟩:=dd;exact⟨ob,h1,h2.2.1⟩
 ·obtain⟨_,hd,xs,_,dd⟩:=znv I.hok e;refine⟨dd.typeIs,fun b q=>?_,hd⟩;cases q;obtain⟨ob,_,_,h1,h2,_⟩:=dd;exact⟨ob,h1,h2.2.1⟩
section
variable {X:Cx}{pins:Pnx}{σ:St}{H:Hp}{s:Shared}{a:Addr}{y d:V}{u r:Value}{o:Option V}{A:Around}{E:Value->Shared->Prop}
theorem ztb (hu:A.units + 1<cLine)(I:Inv X pins σ H s)(g:DGet H a y o)(ry:RelV y u)(rd:RelV d r)(h:∀w' s',Inv X pins σ H s'->RelV (o.getD d) w'->Q w' s'):
  wpAny (model X.prog X.w) A (call (.builtin "dict.get") [.ref a,u,r]) Q E s:=by
 rcases g with⟨kvs,k,e,ey,l⟩ |⟨kvs,k,b,e,ey,eb,l⟩
 ·subst ey;obtain⟨z,hd,vs,rel,dd⟩:=znA I.hok e;refine call_meetsIn PySem.F.slot_dict_get dd.typeIs PySem.F.entry_dict_get (PySem.F.args_dict_get_3 _ _ _) (meets_dict_get_default (zbk X.prog X.w) a (zjS ry) hd r) ⟨_,dd.mapOf,h _ _ (I.tok _) ?_⟩;rw[l];exact(rel.val k).getD rd
 ·subst ey;cases (show u=Value.ref b from ry);obtain⟨z,hd,xs,rel,dd⟩:=znv I.hok e;refine call_meetsIn PySem.F.slot_dict_get dd.typeIs PySem.F.entry_dict_get (PySem.F.args_dict_get_3 _ _ _) (meetsH_dict_get_default (tupleKind (zbk X.prog X.w)) a b hd r) ⟨tupleKind_room_in1 hu,k,xs,zka I.hok eb,dd,h _ _ (I.tok _) ?_⟩;rw[l];exact(rel.val k).getD rd
end
def zrc (td ty tx:TE):TE:=fun σ H Q=>td σ H fun x H1=>∃a,x=.ref a/\IsD H1 a/\ty σ H1 fun y H2=>tx σ H2 fun z H3=>∃o,DGet H3 a y o/\Q (o.getD z) H3
section
variable {X:Cx}{o e f:Expr}{apos cpos:Pos}{td ty tx:TE}
theorem znn (hu:X.A.units + 1<cLine)(ho:PE X o td)(he:PE X e ty)(hf:PE X f tx)(m:M2 X o "get" apos e f cpos):PE X (.Call (.Attribute o "get" apos) [e,f] [] cpos) (zrc td ty tx):=by
 intro pins s σ H Q I h;refine wpAny_Call_method m.base m.few m.line PySem.F.plainAttrs_dict PySem.F.slot_dict_get PySem.F.type_dict_get (thn (ho pins s σ H _ I h) fun u s1 ⟨x, H1, I1, rx, a, ex, d, q1⟩ => ?_);subst ex;obtain rfl : u = Value.ref a := rx;obtain ⟨t1, t2, _⟩ := ztt I1 d;refine ⟨t1, t2, ?_⟩;rw [m.trees];refine Calls.callWith_builtin rfl (Calls.evalArgs_plain (Calls.spliced_cons (thn (he pins s1 σ H1 _ I1 q1) fun iv s2 ⟨y,H2,I2,ry,q2⟩=>
  Calls.spliced_cons (thn (hf pins s2 σ H2 _ I2 q2) fun fv s3 ⟨z,H3,I3,rz,ov,g,q3⟩=>Calls.spliced_nil ?_))))
 exact ztb hu I3 g ry rz fun w' s4 I4 rw'=>⟨_,H3,I4,rw',q3⟩
end
end L2
namespace Att
open PySem PySem.W PySem.Calls PyProof.Rows
end Att
namespace L2
open PySem PySem.Spec PyProof.Rows
def Its (z:Str):It:=⟨fun i _=>i<z.cps.size,fun i H x H'=>H'=H/\∃c,z.cps[i]? =some c/\x=.str ⟨#[c]⟩,fun i _=>i=z.cps.size⟩
theorem zrV (hQ:Q () s):wpAny M A (letOwnedTupleGo tg (.ref it) (.str x t)) Q E s:=by
 unfold letOwnedTupleGo;cases tg<;>exact wpAny_pure hQ
theorem zkj {P:Program}{w:World}{K:Fgx}{tg:Expr}{ty:String}{z:Str}{t:Tok}{it:Addr}
  (W:∀A:Around,A.handled=none->Walks P w A it [it] [it] z.cps.size (SignAt z) (fun i h=>h.IsStrIter it ty z t i))
  (hself:∀(A:Around) (i:Nat) (s:Shared) (Q:Value->Shared->Prop) (E:Value->Shared->Prop),s.heap.IsStrIter it ty z t i->Q (.ref it) s->wpAny (model P w) A (pyIter (.ref it)) Q E s):
  Turn P w K tg (Its z) [it] it (fun i h=>h.IsStrIter it ty z t i) where
 mem:=by simp
 obj:=fun i h st b hb=>by
  have e:b=it:=by simpa using hb
  subst e;obtain⟨o,e,c,d⟩:=st;exact⟨o,e,fun v z=>by rw[d]at z;cases z⟩
 keep:=fun i h h' st k=>by
  obtain⟨o,e,c,d⟩:=st;exact⟨o,k it (by simp) o e,c,d⟩
 item:=by
  intro X hP hw hK hc i pins s σ H E I hf st hg;subst hP hw hK;obtain⟨f0,f1,f2,f3,f4,f5⟩:=hf it (by simp);refine(W X.A (I.ok.hd hc)).item i s _ _ hg st fun v h' tk hv st' kk=>?_;obtain⟨c,u,hcc,rfl⟩:=hv;have I1:Inv X pins σ H {s with heap:=h',toks:=tk}:=I.turned (fun b o hb e=>kk b o (by simpa using hb) e) f0 f1 f3 f4 f5;exact⟨_,rfl,zrV ⟨.str ⟨#[c]⟩,H,I1,⟨_,rfl⟩,⟨rfl,c,hcc,rfl⟩,st',fun b hb=>(hf b hb).1⟩⟩
 done:=by
  intro X hP hw hK hc i pins s σ H E I hf st hg;subst hP hw hK;have hg':i=z.cps.size:=hg;subst hg';obtain⟨f0,f1,f2,f3,f4,f5⟩:=hf it (by simp);exact(W X.A (I.ok.hd hc)).done s _ _ st fun h' tk kk=>⟨rfl,I.turned (fun b o hb e=>kk b o (by simpa using hb) e) f0 f1 f3 f4 f5⟩
 self:=fun A i s Q E st q=>hself A i s Q E st q
section
variable {X:Cx}{tg:Expr}
def iStr (tl:TE):TI:=fun σ H R=>tl σ H fun x H1=>∃z,x=.str z/\R (Its z) H1
theorem zq1 {l:Expr}{tl:TE}(hl:PE X l tl):PI X tg l (iStr tl):=by
 intro pins s σ H R I h;refine thn (hl pins s σ H _ I h) fun v s1 ⟨x,H1,I1,r1,q1⟩=>?_;obtain⟨z,e,q⟩:=q1;subst e;obtain⟨t,e⟩:=r1;subst e;have fp:∀b∈ [s1.heap.objs.size],FpOk X pins H1 b:=fun b hb=>by
  have e:b=s1.heap.objs.size:=by simpa using hb
  subst e;exact I1.fpOk (Nat.le_refl _) (I1.hok.fresh (Nat.le_refl _))
 cases ha:z.cps.all (· <128)
 ·refine wpAny_pyIter_wide ha ?_;exact ⟨s1.heap.objs.size,[s1.heap.objs.size],_,_,H1,rfl,I1.kept (t':=s1.toks) fun b o e=>Heap.get?_push_of_some _ e,
   zkj (ty:="str_iterator") (z:=z) (t:=t) (fun A hA=>Walks.strWide hA _ z t) (fun _ _ _ _ _ st q=>wpAny_pyIter_striter_wide st q),⟨_,Heap.get?_push_size _ rfl,rfl,rfl⟩,fp,q⟩
 ·refine wpAny_pyIter_ascii ha ?_;exact ⟨s1.heap.objs.size,[s1.heap.objs.size],_,_,H1,rfl,I1.kept (t':=s1.toks) fun b o e=>Heap.get?_push_of_some _ e,
   zkj (ty:="str_ascii_iterator") (z:=z) (t:=t) (fun A hA=>Walks.strAscii hA _ z t) (fun _ _ _ _ _ st q=>wpAny_pyIter_striter_ascii st q),⟨_,Heap.get?_push_size _ rfl,rfl,rfl⟩,fp,q⟩
end
theorem zhK:∀{us:List Value},Vals (ys.map V.str) us->StrsAre us ys:=by
  induction ys with
  |nil=>intro us r;rw[List.map_nil]at r;cases r;exact .nil
  |cons n ns ih=>
    intro us r;rw[List.map_cons]at r
    cases r with
    |cons r1 r2=>
      obtain⟨t,e⟩:=r1;subst e;exact .cons n t (ih r2)
section
variable {X:Cx}
def rJoin (K:Fgx):V->List V->Hp->VK->Prop:=fun x vs H Q=>∃z l ys,x=.str z/\vs=[.ref l]/\SqL K H l (ys.map V.str)/\z.length<=16/\(ys.map (·.length)).sum + ys.length<=1048576/\Q (.str (Txt.join z ys)) H
theorem zhY:MtR X "str.join" (rJoin X.K):=by
 intro pins s σ H x vs v us Q I rx rv h;obtain⟨z,l,ys,rfl,rfl,hq,h1,h2,q⟩:=h;obtain⟨t,rfl⟩:=rx;obtain⟨u,rfl,ru⟩:=rv.one;cases ru;obtain⟨its,r,pl,hz⟩:=I.list hq;exact join_listW pl.isList (by simpa using zhK r) h1 h2 fun t' k=>⟨.str _,H,I.tok _,⟨_,rfl⟩,q⟩
def rSlS:V->Option Int->Option Int->Hp->VK->Prop:=fun x lo hi H Q=>∃z,x=.str z/\z.length<=sizeLine/\Q (.str (Txt.slice z lo hi)) H
theorem zrE:SlR X rSlS:=by
 intro pins s σ H x v vl vu lo hi sl Q I rx hs pl pu h;obtain⟨z,rfl,hz,q⟩:=h;obtain⟨t,rfl⟩:=rx;refine⟨"str",_,F.slot_str_getitem.lookup,typeIs_str _ _ _,?_⟩;obtain⟨o,ho,hc,hd⟩:=hs;cases pl<;>cases pu
 ·exact wpAny_getItem_str_slice (l:=none) (u:=none) (st:=none) ⟨o,ho,hc,hd⟩ rfl (post_val_or_str ⟨Nat.le_trans (Txt.slice_le z none none) hz,fun t' k=>⟨.str _,H,I.tok _,⟨_,rfl⟩,q⟩⟩)
 ·rename_i j uj;exact wpAny_getItem_str_slice (l:=none) (u:=some (j,uj)) (st:=none) ⟨o,ho,hc,hd⟩ rfl (post_val_or_str ⟨Nat.le_trans (Txt.slice_le z none (some j)) hz,fun t' k=>⟨.str _,H,I.tok _,⟨_,rfl⟩,q⟩⟩)
 ·rename_i i ui;exact wpAny_getItem_str_slice (l:=some (i,ui)) (u:=none) (st:=none) ⟨o,ho,hc,hd⟩ rfl (post_val_or_str ⟨Nat.le_trans (Txt.slice_le z (some i) none) hz,fun t' k=>⟨.str _,H,I.tok _,⟨_,rfl⟩,q⟩⟩)
 ·rename_i i ui j uj;exact wpAny_getItem_str_slice (l:=some (i,ui)) (u:=some (j,uj)) (st:=none) ⟨o,ho,hc,hd⟩ rfl (post_val_or_str ⟨Nat.le_trans (Txt.slice_le z (some i) (some j)) hz,fun t' k=>⟨.str _,H,I.tok _,⟨_,rfl⟩,q⟩⟩)
theorem zt0:OpR X (compareOp .Is) (fun x y H Q=>∃b,y=.bl b/\Q (.bl (decide (x=.bl b))) H):=by
 intro pins s σ H x y v u Q I rx ry h;obtain⟨b,rfl,q⟩:=h;cases ry
 cases x with
 |bl c=>cases rx;exact wpAny_pure (zay I q (by cases b<;>cases c<;>rfl))
 |non=>cases rx;exact wpAny_pure (zay I q (by simp))
 |int _=>obtain⟨t,rfl⟩:=rx;exact wpAny_pure (zay I q (by simp))
 |str _=>obtain⟨t,rfl⟩:=rx;exact wpAny_pure (zay I q (by simp))
 |byt _=>obtain⟨t,rfl⟩:=rx;exact wpAny_pure (zay I q (by simp))
 |flt _=>obtain⟨t,rfl⟩:=rx;exact wpAny_pure (zay I q (by simp))
 |ref _=>cases rx;exact wpAny_pure (zay I q (by simp))
 |ty _=>cases rx;exact wpAny_pure (zay I q (by simp))
theorem zlk:OpR X (compareOp .IsNot) (fun x y H Q=>∃b,y=.bl b/\Q (.bl (!decide (x=.bl b))) H):=by
 intro pins s σ H x y v u Q I rx ry h;obtain⟨b,rfl,q⟩:=h;cases ry
 cases x with
 |bl c=>cases rx;exact wpAny_pure (zay I q (by cases b<;>cases c<;>rfl))
 |non=>cases rx;exact wpAny_pure (zay I q (by simp))
 |int _=>obtain⟨t,rfl⟩:=rx;exact wpAny_pure (zay I q (by simp))
 |str _=>obtain⟨t,rfl⟩:=rx;exact wpAny_pure (zay I q (by simp))
 |byt _=>obtain⟨t,rfl⟩:=rx;exact wpAny_pure (zay I q (by simp))
 |flt _=>obtain⟨t,rfl⟩:=rx;exact wpAny_pure (zay I q (by simp))
 |ref _=>cases rx;exact wpAny_pure (zay I q (by simp))
 |ty _=>cases rx;exact wpAny_pure (zay I q (by simp))
theorem range_all (bs:List Bool):(List.range bs.length).all (fun i=>(bs[i]?).getD false)=bs.all id:=by
 rw[Bool.eq_iff_iff,List.all_eq_true,List.all_eq_true]
 constructor
 ·intro h b hb;obtain⟨i,hi,e⟩:=List.mem_iff_getElem.mp hb;have:=h i (List.mem_range.mpr hi);rw[List.getElem?_eq_getElem hi,e]at this;exact this
 ·intro h i hi;have hi':=List.mem_range.mp hi;rw[List.getElem?_eq_getElem hi'];exact h _ (List.getElem_mem hi')
theorem range_any (bs:List Bool):(List.range bs.length).any (fun i=>(bs[i]?).getD false)=bs.any id:=by
 rw[Bool.eq_iff_iff,List.any_eq_true,List.any_eq_true]
 constructor
 ·rintro⟨i,hi,h⟩;have hi':=List.mem_range.mp hi;rw[List.getElem?_eq_getElem hi']at h;exact⟨_,List.getElem_mem hi',h⟩
 ·rintro⟨b,hb,h⟩;obtain⟨i,hi,e⟩:=List.mem_iff_getElem.mp hb;refine⟨i,List.mem_range.mpr hi,?_⟩;rw[List.getElem?_eq_getElem hi,e];exact h
theorem zlM {bs:List Bool}{its:List Value}(r:Vals (bs.map V.bl) its){i:Nat}{v:Value}(h:its.toArray[i]? =some v):v=.bool ((bs[i]?).getD false):=by
 have h':its[i]? =some v:=by simpa using h
 have hl:=r.length;rw[List.length_map]at hl;have hi:i<bs.length:=by
  have:=(List.getElem?_eq_some_iff.mp h').1;omega
 have hx:(bs.map V.bl)[i]? =some (V.bl bs[i]):=by rw[List.getElem?_map,List.getElem?_eq_getElem hi];rfl
 obtain⟨u,hu,ru⟩:=r.get hx;rw[h']at hu;cases hu;rw[List.getElem?_eq_getElem hi];exact ru
theorem zhN (hc:X.calm=true):zdM X (.builtin "all") (fun xs H Q=>∃(p:Addr) (bs:List Bool),xs=[.ref p]/\SqL X.K H p (bs.map V.bl)/\Q (.bl (bs.all id)) H):=by
 intro pins s σ H xs us Q I r h;obtain⟨p,bs,rfl,hq,q⟩:=h;obtain⟨u,rfl,ru⟩:=vals1 r;cases ru;obtain⟨its,rv,pl,hz⟩:=I.list hq;have hp:p<s.heap.objs.size:=by obtain⟨o,ho,_⟩:=pl.isList;exact Heap.lt_size ho
 have hn:its.toArray.size=bs.length:=by rw[List.size_toArray, <-rv.length,List.length_map]
 refine call_all_walk (wpAny_pyIter_list pl.isList ⟨s.heap.objs.size,_,_,its.toArray.size,_,_,fun i=>(bs[i]?).getD false,rfl,Walks.list (A:=X.A.in1) (show X.A.in1.handled=none from I.ok.hd hc) _ p (Nat.ne_of_lt hp) its.toArray,
  ⟨⟨_,Heap.get?_push_size _ rfl,rfl,rfl⟩,pl.isList.at fun o e=>Heap.get?_push_of_some _ e⟩,fun i v s' Q' E' hv hQ=>?_,fun h' tk kk=>?_⟩)
 ·rw[zlM rv hv];exact wpAny_truthy_bool hQ
 ·rw[hn,range_all];refine⟨.bl _,H,I.kept fun b o e=>kk b o ?_ (Heap.get?_push_of_some _ e),rfl,q⟩;intro z;have z':b=s.heap.objs.size:=by simpa using z
  exact Nat.lt_irrefl _ (z' ▸ Heap.lt_size e)
theorem zn2 (hc:X.calm=true):zdM X (.builtin "any") (fun xs H Q=>∃(p:Addr) (bs:List Bool),xs=[.ref p]/\SqL X.K H p (bs.map V.bl)/\Q (.bl (bs.any id)) H):=by
 intro pins s σ H xs us Q I r h;obtain⟨p,bs,rfl,hq,q⟩:=h;obtain⟨u,rfl,ru⟩:=vals1 r;cases ru;obtain⟨its,rv,pl,hz⟩:=I.list hq;have hp:p<s.heap.objs.size:=by obtain⟨o,ho,_⟩:=pl.isList;exact Heap.lt_size ho
 have hn:its.toArray.size=bs.length:=by rw[List.size_toArray, <-rv.length,List.length_map]
 refine call_any_walk (wpAny_pyIter_list pl.isList ⟨s.heap.objs.size,_,_,its.toArray.size,_,_,fun i=>(bs[i]?).getD false,rfl,Walks.list (A:=X.A.in1) (show X.A.in1.handled=none from I.ok.hd hc) _ p (Nat.ne_of_lt hp) its.toArray,
  ⟨⟨_,Heap.get?_push_size _ rfl,rfl,rfl⟩,pl.isList.at fun o e=>Heap.get?_push_of_some _ e⟩,fun i v s' Q' E' hv hQ=>?_,fun h' tk kk=>?_⟩)
 ·rw[zlM rv hv];exact wpAny_truthy_bool hQ
 ·rw[hn,range_any];refine⟨.bl _,H,I.kept fun b o e=>kk b o ?_ (Heap.get?_push_of_some _ e),rfl,q⟩;intro z;have z':b=s.heap.objs.size:=by simpa using z
  exact Nat.lt_irrefl _ (z' ▸ Heap.lt_size e)
end
section
variable {X:Cx}{pins:Pnx}{σ:St}{H:Hp}{s:Shared}
def zi6 (base h:Heap)(L:Addr):Pnx:=(List.range h.objs.size).filterMap fun b=>if b=L then none else if (base.get? b).isSome then none else(h.get? b).map fun o=>(b,o)
theorem zhs (hL:b≠L)(hb:base.get? b=none)(e:h.get? b=some o):(b,o)∈zi6 base h L:=by
 unfold zi6;rw[List.mem_filterMap];refine⟨b,List.mem_range.mpr (Heap.lt_size e),?_⟩;rw[if_neg hL,hb,e]
 simp
theorem zij (hp:p∈zi6 base h L):h.get? p.1=some p.2/\p.1≠L/\base.get? p.1=none:=by
  unfold zi6 at hp;rw[List.mem_filterMap]at hp;obtain⟨b,_,e⟩:=hp
  by_cases hL:b=L
  · rw[if_pos hL]at e;cases e
  · rw[if_neg hL]at e
    cases hb:base.get? b with
    |some u=>rw[hb]at e;simp at e
    |none=>
      rw[hb]at e
      cases hh:h.get? b with
      |none=>rw[hh]at e;simp at e
      |some u=>
        rw[hh]at e
        simp at e
        subst e;exact⟨hh,hL,hb⟩
theorem Inv.but (I:Inv X pins σ H s)(k:∀b o,b≠X.env.locals->s.heap.get? b=some o->h'.get? b=some o)(ns:∀m,s.heap.Ns X.env.locals m->h'.Ns X.env.locals m):Inv X pins σ H {s with heap:=h',toks:=tk}:=by
 have hok : HOk X.prog X.w H h' := fun a o e => (I.hok a o e).stay (fun b u hb q => k b u (fun z=>by
  subst z;have hn:=I.free;rcases hb with hb |hb
  ·rw[<-hb]at e;rw[hn]at e;cases e
  ·rw[hn]at hb;cases hb) q) (fun _ q=>q) fun _ _ q=>q
 exact I.step (g' := s.gens) (d' := s.drawn) (ch := []) (fun _ z => nomatch z) (fun b o hL _ _ e _ => k b o hL e) (fun b o hL _ _ e _ => ⟨o.slots, k b o hL e⟩) (fun b o _ _ n => n) (fun b o _ e=>by
  by_cases hL:b=X.env.locals
  ·subst hL;obtain⟨m,hn,_⟩:=I.loc;obtain⟨o',_,_,e',_⟩:=ns m hn;exact⟨o',e'⟩
  ·exact⟨o,k b o hL e⟩) (fun _ _ q=>q) (fun _ _ _ q=>q) (fun _ ps q=>⟨#[],by simpa using q⟩) ns hok I.bare
theorem Inv.via (I:Inv X pins σ H s):∃m news,Fr X.base X.env.locals s.heap m/\News X.base X.env.locals s.heap news/\
    (∀b o,b≠X.env.locals->X.base.get? b=none->s.heap.get? b=some o->(b,o)∈news)/\
    ∀(h':Heap) (tk:Nat),Fr X.base X.env.locals h' m->News X.base X.env.locals h' news->(∀b o,b≠X.env.locals->s.heap.get? b=some o->h'.get? b=some o)/\Inv X pins σ H {s with heap:=h',toks:=tk}:=by
  obtain⟨m,F⟩:=I.fr;refine⟨m,zi6 X.base s.heap X.env.locals,F,fun p hp=>zij hp,fun b o hL hb e=>zhs hL hb e,fun h' tk F' N'=>?_⟩;have k:∀b o,b≠X.env.locals->s.heap.get? b=some o->h'.get? b=some o:=fun b o hL e=>by
    cases hb:X.base.get? b with
    |some u=>
      have e1:=I.bk b u hb;rw[e]at e1;cases e1;exact F'.keep b o hb
    |none=>exact(N' (b,o) (zhs hL hb e)).1
  refine⟨k,I.but k fun m' hm=>?_⟩;have:m'=m:=by
    obtain⟨o,es,ep,e,d,_,f⟩:=hm;obtain⟨o',es',ep',e',d',_,f'⟩:=F.ns;rw[e]at e';cases e';rw[d]at d';cases d';funext x;rw[<-f x, <-f' x]
  subst this;exact F'.ns
end
section
variable {X:Cx}{pins:Pnx}{σ:St}{H:Hp}{s:Shared}
theorem Inv.butD (I:Inv X pins σ H s)(k:∀b o,b≠X.env.locals->s.heap.get? b=some o->h'.get? b=some o)(ns:∀m,s.heap.Ns X.env.locals m->h'.Ns X.env.locals m)(ha:s.heap.get? a=none)(hn:H a=none)
  (new:zbC X.prog X.w (upd H a o) h' a o):Inv X pins σ (upd H a o) {s with heap:=h',toks:=tk}:=by
 have hok:HOk X.prog X.w (upd H a o) h':=fun b u e=>by
  by_cases hb:b=a
  ·subst hb;rw[zar]at e;cases e;exact new
  ·rw[zak hb]at e;refine(I.hok b u e).stay (fun c v hc q=>k c v (fun z=>?_) q) (fun c q=>by rw[zak (zap q hn)];exact q) fun c xs q=>by rw[zak (zap q hn)];exact q
   subst z;have hf:=I.free;rcases hc with hc |hc
   ·rw[<-hc]at e;rw[hf]at e;cases e
   ·rw[hf]at hc;cases hc
 have neA:∀b o,s.heap.get? b=some o->b≠a:=fun b o e z=>by rw[z,ha]at e;cases e
 exact I.step (g' := s.gens) (d' := s.drawn) (ch := []) (fun _ z => nomatch z) (fun b o hL _ _ e _ => k b o hL e) (fun b o hL _ _ e _ => ⟨o.slots, k b o hL e⟩) (fun b o _ e n => by rw [zak (neA b o e)]; exact n) (fun b o _ e=>by
  by_cases hL:b=X.env.locals
  ·subst hL;obtain⟨m,hn,_⟩:=I.loc;obtain⟨o',_,_,e',_⟩:=ns m hn;exact⟨o',e'⟩
  ·exact⟨o,k b o hL e⟩) (fun b xs q=>by rw[zak (zap q hn)];exact q) (fun b u xs q=>by rw[zak (zap q hn)];exact q) (fun b ps q=>⟨#[],by rw[zak (zap q hn),q];simp⟩) ns hok I.bare
theorem ztj {h:Heap}{a:Addr}{m m':Mgx}(h1:h.Ns a m)(h2:h.Ns a m'):m'=m:=by
 obtain⟨o,es,ep,e,d,_,f⟩:=h2;obtain⟨o',es',ep',e',d',_,f'⟩:=h1;rw[e]at e';cases e';rw[d]at d';cases d';funext x;rw[<-f x, <-f' x]
theorem zbC.get (x:zbC P w H h a o):∃u,h.get? a=some u:=by
 cases o with
 |lst xs=>obtain⟨_,_,_,_,e⟩:=x;exact⟨_,e⟩
 |tup xs=>obtain⟨_,_,_,u,e,_⟩:=x;exact⟨_,e⟩
 |dK kvs=>obtain⟨_,_,_,_,o,_,_,e,_⟩:=x;exact⟨_,e⟩
 |dT kvs=>obtain⟨_,_,_,_,o,_,_,e,_⟩:=x;exact⟨_,e⟩
 |set S n=>obtain⟨o,_,_,_,e,_⟩:=x;exact⟨_,e⟩
 |ins C dx fs=>obtain⟨_,_,_,e,_⟩:=x;exact⟨_,e⟩
 |own y=>exact x
 |xd fs=>obtain⟨_,⟨_,_,_,e,_⟩,_⟩:=x;exact⟨_,e⟩
 |rng lo hi=>obtain⟨_,_,_,e⟩:=x;exact⟨_,e⟩
 |frz ob u=>obtain⟨e,_⟩:=x;exact⟨_,e⟩
 |tbl ps=>exact⟨_,x⟩
 |met f y=>exact⟨_,x⟩
 |ext φ=>obtain⟨_,e,_⟩:=x;exact e
theorem Inv.viaD (I:Inv X pins σ H s):∃m news,Fr X.base X.env.locals s.heap m/\News X.base X.env.locals s.heap news/\
    ∀(h':Heap) (tk:Nat) (D:Addr) (ob:Obj) (o:HO),Fr X.base X.env.locals h' m->News X.base X.env.locals h' ((D,ob)::news)->(∀p∈news,p.1<D)->(∀H',h'.get? D=some ob->zbC X.prog X.w H' h' D o)->H D=none/\Inv X pins σ (upd H D o) {s with heap:=h',toks:=tk}:=by
  obtain⟨m,news,F,N,all,back⟩:=I.via;refine⟨m,news,F,N,fun h' tk D ob o F' N' lt new=>?_⟩;obtain⟨eD,neL,nb⟩:=N' (D,ob) List.mem_cons_self;have N0:News X.base X.env.locals h' news:=fun p hp=>N' p (List.mem_cons_of_mem _ hp);obtain⟨k,I'⟩:=back h' tk F' N0;have ha:s.heap.get? D=none:=by
    cases e:s.heap.get? D with
    |none=>rfl
    |some u=>exact absurd (lt _ (all D u neL nb e)) (Nat.lt_irrefl _)
  have hn:H D=none:=by
    cases e:H D with
    |none=>rfl
    |some u=>
      obtain⟨v,z⟩:=(I.hok D u e).get;rw[ha]at z;cases z
  exact⟨hn,I.butD k (fun m' hm=>by rw[ztj F.ns hm];exact F'.ns) ha hn (new _ eD)⟩
theorem zl5:∀l:List (Str×Tok),Vals ((l.map (·.1)).map V.str) (strValues l)
 | []=>.nil
 |p::l=>.cons ⟨p.2,rfl⟩ (zl5 l)
def zn9:V->List V->Hp->VK->Prop:=fun x vs H Q=>∃z y,x=.str z/\vs=[.str y]/\(y.length==0)=false/\z.length + 2<=sizeLine/\∀l,H l=none->Q (.ref l) (upd H l (.lst ((Txt.split z y).map V.str)))
theorem zkz:MtR X "str.split" zn9:=by
 intro pins s σ H x vs v us Q I rx rv h;obtain⟨z,y,rfl,rfl,h1,h2,q⟩:=h;obtain⟨t,rfl⟩:=rx;obtain⟨u,rfl,t',rfl⟩:=rv.one;obtain⟨m,news,F,N,fin⟩:=I.viaD;refine W.KSpl.split1 F N h1 (fun D l h' k e1 _ F' N' lt=>?_) h2;have hl:((l.map (·.1)).map V.str).length<=sizeLine:=by
  rw[List.length_map,e1];exact Nat.le_trans (PyProof.Rows.split_le z y) h2
 obtain⟨hn,I'⟩:=fin h' k D _ (.lst ((l.map (·.1)).map V.str)) F' N' lt fun H' eD=>⟨hl,strValues l,0,zl5 l,eD⟩;rw[e1]at I';exact⟨.ref D,_,I',rfl,q D hn⟩
def zm6:V->List V->Hp->VK->Prop:=fun x vs H Q=>∃z y,x=.str z/\vs=[.str y]/\Q (.bl (Txt.startswith z y)) H
theorem zlE:MtR X "str.startswith" zm6:=by
 intro pins s σ H x vs v us Q I rx rv h;obtain⟨z,y,rfl,rfl,q⟩:=h;obtain⟨t,rfl⟩:=rx;obtain⟨u,rfl,t',rfl⟩:=rv.one;exact SC.startswith ⟨.bl _,H,I,rfl,q⟩
def zmo:V->List V->Hp->VK->Prop:=fun x vs H Q=>∃z y,x=.str z/\vs=[.str y]/\z.length<=sizeLine/\Q (.str (Txt.lstripChars z y)) H
theorem zl2:MtR X "str.lstrip" zmo:=by
 intro pins s σ H x vs v us Q I rx rv h;obtain⟨z,y,rfl,rfl,hz,q⟩:=h;obtain⟨t,rfl⟩:=rx;obtain⟨u,rfl,t',rfl⟩:=rv.one;exact SC.lstripChars (fun t' k=>⟨.str _,H,I.tok _,⟨_,rfl⟩,q⟩) hz
theorem zds:zdM X (.type "int") (fun xs H Q=>∃z n,xs=[.str z]/\intText? z=some n/\z.length<=640/\Q (.int n) H):=by
 intro pins s σ H xs us Q I r h;obtain⟨z,n,rfl,h1,h2,q⟩:=h;obtain⟨u,rfl,t,rfl⟩:=vals1 r;exact W.KIN.call_text h1 h2 ⟨.int n,H,I.tok _,⟨_,rfl⟩,q⟩
end
section
variable {X:Cx}{pins:Pnx}{σ:St}{H:Hp}{s:Shared}{h':Heap}
theorem Inv.turnedL {t':Nat}{fp:List Addr}(I:Inv X pins σ H s)(k:∀b o,b∉fp->s.heap.get? b=some o->h'.get? b=some o)(hf:∀b∈fp,FpOk X pins H b):Inv X pins σ H {s with heap:=h',toks:=t'}:=by
 refine I.step (g':=s.gens) (d':=s.drawn) (ch:=fp) (fun b hb=>⟨(hf b hb).2.2.2.1,(hf b hb).2.1,(hf b hb).2.2.2.2.1,(hf b hb).2.2.2.2.2⟩) (fun b o _ _ hc e _=>k b o hc e) (fun b o _ _ hc e _=>⟨o.slots,k b o hc e⟩) (fun _ _ _ _ n=>n)
  (fun b o hc e=>⟨o,k b o hc e⟩) (fun _ _ e=>e) (fun _ _ _ e=>e) (fun b ps e=>⟨#[],by rw[e];simp⟩) (fun m hm=>?_) (fun b u e=>?_) I.bare
 ·obtain⟨o,es,ep,ho,r⟩:=hm;exact⟨o,es,ep,k _ o (fun z=>(hf _ z).2.1 rfl) ho,r⟩
 ·refine(I.hok b u e).stay (fun c v hc q=>k c v (fun z=>?_) q) (fun _ q=>q) fun _ _ q=>q;have hn:=(hf c z).1;rcases hc with y |y
  ·rw[y,e]at hn;cases hn
  ·rw[y]at hn;cases hn
theorem Inv.turnLaid {t':Nat}{fp:List Addr}{T:Addr}{o:HO}(I:Inv X pins σ H s)(k:∀b u,b∉fp->s.heap.get? b=some u->h'.get? b=some u)(hf:∀b∈fp,FpOk X pins H b)(hp:s.heap.objs.size<=T)(new:zbC X.prog X.w (upd H T o) h' T o):
  Inv X pins σ (upd H T o) {s with heap:=h',toks:=t'}:=by
 have hn:H T=none:=I.hok.fresh hp;have neT:∀b u,s.heap.get? b=some u->b≠T:=fun b u e=>Nat.ne_of_lt (Nat.lt_of_lt_of_le (Heap.lt_size e) hp);refine I.step (g':=s.gens) (d':=s.drawn) (ch:=fp) (fun b hb=>⟨(hf b hb).2.2.2.1,(hf b hb).2.1,(hf b hb).2.2.2.2.1,(hf b hb).2.2.2.2.2⟩) (fun b o _ _ hc e _=>k b o hc e) (fun b o _ _ hc e _=>⟨o.slots,k b o hc e⟩) (fun b u _ e n=>by rw[zak (neT b u e)];exact n)
  (fun b o hc e=>⟨o,k b o hc e⟩) (fun b xs e=>by rw[zak (zap e hn)];exact e) (fun b u xs e=>by rw[zak (zap e hn)];exact e) (fun b ps e=>⟨#[],by rw[zak (zap e hn),e];simp⟩) (fun m hm=>?_) (fun b u e=>?_) I.bare
 ·obtain⟨o,es,ep,ho,r⟩:=hm;exact⟨o,es,ep,k _ o (fun z=>(hf _ z).2.1 rfl) ho,r⟩
 ·by_cases hb:b=T
  ·subst hb;rw[zar]at e;cases e;exact new
  ·rw[zak hb]at e;refine(I.hok b u e).stay (fun c v hc q=>k c v (fun z=>?_) q) (fun c q=>by rw[zak (zap q hn)];exact q) fun c xs q=>by rw[zak (zap q hn)];exact q
   have hn':=(hf c z).1;rcases hc with y |y
   ·rw[y,e]at hn';cases hn'
   ·rw[y]at hn';cases hn'
end
def Itel (K:Fgx)(a:Addr):It:=
 ⟨fun i H=>∃xs x,SqL K H a xs/\xs[i]? =some x,fun i H x H'=>∃p v,H p=none/\x=.ref p/\H'=upd H p (.tup [.int i,v])/\∀xs,SqL K H a xs->xs[i]? =some v,fun i H=>∃xs,SqL K H a xs/\xs.length=i⟩
theorem zlj {P:Program}{w:World}{K:Fgx}{es:List Expr}{k:Nat}{pos:Pos}(a e it:Addr)(ne:e≠it):Turn P w K (.Tuple es k pos) (Itel K a) [e,it] e (fun i h=>(∃old,IsEnum h e it i old)/\h.IsListIter it a i) where
 mem:=by simp
 obj:=fun i h st b hb=>by
  obtain⟨⟨old,z⟩,o,e1,e2,e3⟩:=st;rcases List.mem_cons.mp hb with rfl |hb
  ·exact⟨_,z,fun v y=>by cases y⟩
  ·rw[List.mem_singleton.mp hb];exact⟨o,e1,fun v y=>by rw[e3]at y;cases y⟩
 keep:=fun i h h' st k=>⟨let ⟨old,z⟩:=st.1;⟨old,k e (by simp) _ z⟩,st.2.at fun o z=>k it (by simp) o z⟩
 item:=by
  intro X hP hw hK hc i pins s σ H E I hf st hg;subst hP hw hK;obtain⟨xs,x,hq,hx⟩:=hg;obtain⟨its,rv,pl,hz⟩:=I.list hq;have p:=pl.isList;obtain⟨u,hu,ru⟩:=rv.get hx;have nea:a≠it:=fun z=>by
   obtain⟨o,e1,e2,_⟩:=st.2;obtain⟨o',e1',e2',_⟩:=id p;rw[z,e1]at e1';cases e1';rw[e2]at e2';exact absurd e2' (by simp)
  have nee:e∉ [it,a]:=fun z=>by
   rcases List.mem_cons.mp z with z |z
   ·exact ne z
   ·have z:=List.mem_singleton.mp z;obtain⟨⟨old,y⟩,_⟩:=st;obtain⟨o',e1',e2',_⟩:=id p;rw[<-z,y]at e1';cases e1';exact absurd e2' (by simp)
  have W:=WalksT.enumerateD (Draws.list (prog:=X.prog) (w:=X.w) (A:=X.A.in1) (I.ok.hd hc) it a nea its.toArray) e ne nee (by simp);have hi:i<its.toArray.size:=by
   have:=(List.getElem?_eq_some_iff.mp hu).1
   simpa using this
  refine W.item i s _ _ hi ⟨st.1,st.2,p⟩ fun T vals h' tk hv hT hI hm hk=>?_;obtain⟨t,y,hy,rfl⟩:=hv;have ey:y=u:=by
   have hy':its.toArray[i]? =some y:=hy;rw[show its.toArray[i]? =its[i]? by simp,hu]at hy';exact(Option.some.inj hy').symm
  subst ey;refine⟨_,rfl,W.go es k pos i T _ _ _ hm fun h2 st2 hk2=>?_⟩;have kk:∀b o,b∉ [e,it]->s.heap.get? b=some o->h2.get? b=some o:=fun b o hb z=>hk2 b o hb (hk b o hb z);have hT2:h2.IsTuple T #[.int i t,y]:=by
   obtain⟨o,e1,r⟩:=hI;exact⟨o,hk2 T o (W.apart i T _ hm) e1,r⟩
  have I2:Inv X pins σ (upd H T (.tup [.int i,x])) {s with heap:=h2,toks:=tk}:=I.turnLaid kk hf hT ⟨by show 2<=sizeLine;decide,[.int i t,y],.cons ⟨t,rfl⟩ (.cons ru .nil),hT2⟩;have nT:H T=none:=I.hok.fresh hT;refine⟨.ref T,_,I2,rfl,⟨T,x,nT,rfl,rfl,fun ys hys=>by rw[I.list_inj hys hq];exact hx⟩,⟨st2.1,st2.2.1⟩,fun b hb=>?_⟩;rw[zak (fun z=>?_)]
  ·exact(hf b hb).1
  ·rw[z]at hb;exact W.apart i T _ hm hb
 done:=by
  intro X hP hw hK hc i pins s σ H E I hf st hg;subst hP hw hK;obtain⟨xs,hq,hl⟩:=hg;obtain⟨its,rv,pl,hz⟩:=I.list hq;have p:=pl.isList;have nea:a≠it:=fun z=>by
   obtain⟨o,e1,e2,_⟩:=st.2;obtain⟨o',e1',e2',_⟩:=id p;rw[z,e1]at e1';cases e1';rw[e2]at e2';exact absurd e2' (by simp)
  have nee:e∉ [it,a]:=fun z=>by
   rcases List.mem_cons.mp z with z |z
   ·exact ne z
   ·have z:=List.mem_singleton.mp z;obtain⟨⟨old,y⟩,_⟩:=st;obtain⟨o',e1',e2',_⟩:=id p;rw[<-z,y]at e1';cases e1';exact absurd e2' (by simp)
  have W:=WalksT.enumerateD (Draws.list (prog:=X.prog) (w:=X.w) (A:=X.A.in1) (I.ok.hd hc) it a nea its.toArray) e ne nee (by simp);have hn:its.toArray.size=i:=by rw[List.size_toArray, <-rv.length,hl]
  refine W.done s _ _ (by rw[hn];exact⟨st.1,st.2,p⟩) fun h' tk hk=>⟨rfl,I.turnedL hk hf⟩
 self:=fun _ i s _ _ st h=>by
  obtain⟨⟨old,y⟩,_⟩:=st;exact wpAny_pyIter_enum y h
section
variable {X:Cx}{es:List Expr}{k:Nat}{tpos:Pos}
def ztY (K:Fgx)(ta:TA):TI:=fun σ H R=>ta σ H fun vs H1=>∃a xs,vs=[.ref a]/\SqL K H1 a xs/\R (Itel K a) H1
theorem znX {a:Expr}{ta:TA}{p pos:Pos}(hg:Gl X "enumerate")(hm:X.mg "enumerate"=none)(ha:PA X [a] ta)(hs:starEach [a] X.env=[(false,eval a X.env)]:=by rfl):PI X (.Tuple es k tpos) (.Call (.Name "enumerate" p) [a] [] pos) (ztY X.K ta):=by
 intro pins s σ H R I h;refine Call_ (zhw I hg hm boot_enumerate (PyProof.Rows.callWith_type1 (thn (ha pos pins s σ H _ I h) fun us s1 ⟨vs,H1,I1,r1,q1⟩=>?_) hs rfl));obtain⟨b,xs,e,hq,q⟩:=q1;subst e;obtain⟨u,e,ru⟩:=vals1 r1;subst e;cases ru;obtain⟨its,rv,pl,hz⟩:=I1.list hq;refine call_enumerate_list pl.isList fun h' e1 e2 _ kp=>?_;refine wpAny_pyIter_enum e1 ?_;refine⟨s1.heap.objs.size + 1,[s1.heap.objs.size + 1,s1.heap.objs.size],_,_,H1,rfl,I1.kept (t':=s1.toks) kp,zlj b _ _ (Nat.succ_ne_self _),⟨⟨_,e1⟩,e2⟩,fun c hc=>?_,q⟩;have hc':s1.heap.objs.size<=c:=by
  rcases List.mem_cons.mp hc with rfl |hc
  ·omega
  ·rw[List.mem_singleton.mp hc];exact Nat.le_refl _
 exact I1.fpOk hc' (I1.hok.fresh hc')
end
def textV:V->Option Str
 |.str z=>if z.length<=sizeLine then some z else none
 |.int i=>if i.natAbs.log2<1920 then some (toString i) else none
 |_=>none
abbrev TJ:=Str->St->Hp->VK->Prop
def PJ (X:Cx)(vs:List Expr)(t:TJ):Prop:=∀(pins:Pnx) (s:Shared) (σ:St) (H:Hp) (out:Str) (Q:VK),Inv X pins σ H s->t out σ H Q->wpAny (model X.prog X.w) X.A (joinParts out (evalEach vs X.env)) (EP X pins σ Q) X.xe s
def jNil:TJ:=fun out _ H Q=>out.length<=sizeLine/\Q (.str out) H
def zuk (te:TE)(tj:TJ):TJ:=fun out σ H Q=>te σ H fun v H1=>∃y,textV v=some y/\(out ++ y).length<=sizeLine/\tj (out ++ y) σ H1 Q
section
variable {X:Cx}{vs:List Expr}{te:TE}{tj:TJ}
theorem zlm:PJ X [] jNil:=fun pins s σ H out Q I h=>joinParts_nil ⟨.str out,H,I.tok _,⟨_,rfl⟩,h.2⟩ h.1
theorem zkl (hv:PJ X vs tj)(hz:z.length<=sizeLine):PJ X (.Constant (.str z) k pos::vs) (fun out σ H Q=>(out ++ z).length<=sizeLine/\tj (out ++ z) σ H Q):=fun pins s σ H out Q I h=>by
 refine joinParts_cons (Calls.Constant_str ?_);exact⟨h.1,hv pins _ σ H _ Q (I.tok _) h.2⟩
theorem zl9 (he:PE X e te)(hv:PJ X vs tj):PJ X (.FormattedValue e (-1) none pos::vs) (zuk te tj):=fun pins s σ H out Q I h=>by
 refine joinParts_cons (FormattedValue_plain (thn (he pins s σ H _ I h) fun u s1 ⟨x,H1,I1,r1,y,ey,hl,q⟩=>?_));cases x<;>simp only[textV,reduceCtorEq]at ey
 case int i=>
  split at ey
  ·rename_i hd;cases ey;obtain⟨t,rfl⟩:=r1;exact formatField_int_small hd ⟨hl,hv pins _ σ H1 _ Q (I1.tok _) q⟩
  ·cases ey
 case str z=>
  split at ey
  ·rename_i hz;cases ey;obtain⟨t,rfl⟩:=r1;exact formatField_str (fun t' tk=>⟨hl,hv pins _ σ H1 _ Q (I1.tok _) q⟩) hz
  ·cases ey
theorem zmK (h:PJ X (v::w::vs) tj):PE X (.JoinedStr (v::w::vs) pos) (fun σ H Q=>tj Str.empty σ H Q):=fun pins s σ H Q I q=>JoinedStr_many (h pins s σ H _ Q I q)
end
theorem zhC (g:α->β->β):∀(l:List α) (b:β),(∀x∈l,∀b,f x b=pure (.yield (g x b)))->(forIn l b f:Sem β)=pure (l.foldl (fun b x=>g x b) b)
  | [],b,_=>rfl
  |x::l,b,h=>by
    rw[List.forIn_cons,h x List.mem_cons_self b];simp only[pure_bind,List.foldl_cons];exact zhC g l (g x b) fun y hy=>h y (List.mem_cons_of_mem _ hy)
def zcG (cells:List (Str×Addr))(cs:List (Str×Addr))(x:Str×NameKind):List (Str×Addr):=if x.2=.free then(x.1,(cells.lookup x.1).getD 0)::cs else cs
def zdo (cells:List (Str×Addr))(names:List (Str×NameKind)):List (Str×Addr):=names.foldl (zcG cells) []
theorem zfB (h:∀y∈scope.names,y.2=.free->∃c,env.cells.lookup y.1=some c):closureFor scope env=pure (zdo env.cells scope.names):=by
 simp only [closureFor];rw [zhC (fun x cs => zcG env.cells cs x) scope.names [] (fun x hx c=>by
  obtain⟨n,kind⟩:=x
  by_cases hk:kind=.free
  ·obtain⟨a,ha⟩:=h _ hx hk;subst hk;have ha':env.cells.lookup n=some a:=ha
   simp[cellOf,ha',zcG]
  ·have hk':(kind==NameKind.free)=false:=by simpa using hk
   simp[hk',hk,zcG])]
 rfl
theorem zlZ:∀(names:List (Str×NameKind)) (acc:List (Str×Addr)),(∀y∈names,y.2=.free->∃c,cells.lookup y.1=some c)->
    (∀x c,acc.lookup x=some c->cells.lookup x=some c)->∀x c,(names.foldl (zcG cells) acc).lookup x=some c->cells.lookup x=some c
  | [],_,_,h,x,c,e=>h x c e
  |(n,k)::r,acc,hc,h,x,c,e=>by
    rw[List.foldl_cons]at e;refine zlZ r _ (fun y hy=>hc y (List.mem_cons_of_mem _ hy)) ?_ x c e;intro y d hd;unfold zcG at hd
    by_cases hk:k=.free
    · obtain⟨a,ha⟩:=hc (n,k) List.mem_cons_self hk;have ha':cells.lookup n=some a:=ha;simp only[hk,if_true,ha',Option.getD_some,List.lookup_cons]at hd
      cases hyn:y==n with
      |true=>
        rw[hyn]at hd;have e2:=eq_of_beq hyn;subst e2;exact ha'.trans hd
      |false=>
        rw[hyn]at hd;exact h y d hd
    · simp only[hk,if_false]at hd;exact h y d hd
theorem zhO:∀(names:List (Str×NameKind)) (acc:List (Str×Addr)) (x:Str),((x,NameKind.free)∈names\/∃c,acc.lookup x=some c)->∃c,(names.foldl (zcG cells) acc).lookup x=some c
  | [],acc,x,h=>by
    rcases h with h |h
    · exact absurd h (by simp)
    · exact h
  |(n,k)::r,acc,x,h=>by
    rw[List.foldl_cons];refine zhO r _ x ?_;have keep:(∃c,acc.lookup x=some c)->∃c,(zcG cells acc (n,k)).lookup x=some c:=fun⟨c,hc⟩=>by
      unfold zcG
      by_cases hk:k=.free
      · simp only[hk,if_true,List.lookup_cons]
        cases hxn:x==n with
        |true=>exact⟨_,rfl⟩
        |false=>exact⟨c,hc⟩
      · simp only[hk,if_false];exact⟨c,hc⟩
    rcases h with h |h
    · rcases List.mem_cons.mp h with h |h
      · cases h;refine .inr ?_;unfold zcG;simp only[if_true,List.lookup_cons,beq_self_eq_true];exact⟨_,rfl⟩
      · exact .inl h
    · exact .inr (keep h)
def relN (psc:Scope)(names:List (Str×NameKind)):List (Str×NameKind):=names.map fun(n,k)=>if (k==.free && psc.kind==.function && psc.names.lookup n==some .cell) then(n,.cell) else(n,k)
theorem zgA:∀{names:List (Str×NameKind)} {x:Str} {k':NameKind},(relN psc names).lookup x=some k'->(k'=.cell\/k'=.free)->(∀y∈names,y.2≠ .cell)->(x,NameKind.free)∈names
  | [],_,_,h,_,_=>by simp[relN]at h
  |(n,k)::r,x,k',h,hk,hn=>by
    have ih:= @zgA psc r x k';have h':List.lookup x ((if (k==NameKind.free && psc.kind==.function && psc.names.lookup n==some .cell)=true then(n,NameKind.cell) else(n,k))::relN psc r)=some k':=h
    cases hx:x==n with
    |true=>
      have e:=eq_of_beq hx;subst e
      by_cases hc:(k==NameKind.free && psc.kind==.function && psc.names.lookup x==some .cell)=true
      · have hkf:k=.free:=by
          cases k<;>first |rfl |(exfalso;simp at hc)
        rw[hkf];exact List.mem_cons_self
      · rw[if_neg hc]at h';simp only[List.lookup_cons,beq_self_eq_true]at h';have e2:k=k':=Option.some.inj h';subst e2;rcases hk with hk |hk
        · exact absurd hk (hn (x,k) List.mem_cons_self)
        · rw[hk];exact List.mem_cons_self
    |false=>
      refine List.mem_cons_of_mem _ (ih ?_ hk fun y hy=>hn y (List.mem_cons_of_mem _ hy))
      by_cases hc:(k==NameKind.free && psc.kind==.function && psc.names.lookup n==some .cell)=true
      · rw[if_pos hc]at h';simp only[List.lookup_cons,hx]at h';exact h'
      · rw[if_neg hc]at h';simp only[List.lookup_cons,hx]at h';exact h'
def zfO (cs:List (Str×Nat))(σ:St):St:=cs.map fun p=>(σ[p.2]?).join
abbrev zbB (X:Cx)(Nc:List Str)(scope:Scope)(cl:List (Str×Addr))(C:Addr)(s₀:Shared)(H₀:Hp)(ex:List Addr)(pn:Pnx):Cx:=
 {X with N:=Nc,s₀:=s₀,H₀:=H₀,env:=compEnvC scope cl C X.env,outer:=X.stack,ex:=ex,fn:=fun _=>false,pn:=pn,xe:=fun _ _=>False}
def zfF (N:List Str)(psc:Scope)(x:Str)(cs:List (Str×Nat))(scope:Scope):Bool:=
 scope.kind==.function && scope.names.lookup x==some .local && decide ((x::cs.map (·.1)).Nodup) &&
 scope.names.all (fun y=>y.2 !=.cell && (y.2 !=.local || scope.names.lookup y.1==some .local) && (y.2 !=.free || (psc.names.lookup y.1==some .cell || psc.names.lookup y.1==some .free))) &&
 cs.all (fun p=>N[p.2]? ==some p.1 && (psc.names.lookup p.1==some .cell || psc.names.lookup p.1==some .free) && ((relN psc scope.names).lookup p.1==some .cell || (relN psc scope.names).lookup p.1==some .free))
structure CompOk (N:List Str)(psc:Scope)(x:Str)(cs:List (Str×Nat))(scope:Scope):Prop where
 kind:scope.kind=.function
 own:scope.names.lookup x=some .local
 nd:(x::cs.map (·.1)).Nodup
 cell:∀y∈scope.names,y.2≠ .cell
 names:∀y∈scope.names,y.2=.local->scope.names.lookup y.1=some .local
 has:∀y∈scope.names,y.2=.free->psc.names.lookup y.1=some .cell\/psc.names.lookup y.1=some .free
 cap:∀p∈cs,N[p.2]? =some p.1/\(psc.names.lookup p.1=some .cell\/psc.names.lookup p.1=some .free)/\((relN psc scope.names).lookup p.1=some .cell\/(relN psc scope.names).lookup p.1=some .free)
theorem CompOk.of (h:zfF N psc x cs scope=true):CompOk N psc x cs scope:=by
 unfold zfF at h;simp only[Bool.and_eq_true,Bool.or_eq_true,List.all_eq_true,beq_iff_eq,decide_eq_true_eq,bne_iff_ne,ne_eq]at h;obtain⟨⟨⟨⟨h1,h2⟩,h3⟩,h4⟩,h5⟩:=h;refine⟨h1,h2,h3,fun y hy=>(h4 y hy).1.1,fun y hy e=>?_,fun y hy e=>?_,fun p hp=>⟨(h5 p hp).1.1,(h5 p hp).1.2,(h5 p hp).2⟩⟩
 ·rcases(h4 y hy).1.2 with z |z
  ·exact absurd e z
  ·exact z
 ·rcases(h4 y hy).2 with z |z
  ·exact absurd e z
  ·exact z
def PIfs (X:Cx)(ifs:List Expr)(t:TT):Prop:=
 ∀(pins:Pnx) (s:Shared) (σ:St) (H:Hp) (Q:Bool->Hp->Prop),Inv X pins σ H s->t σ H Q->
  wpAny (model X.prog X.w) X.A (forIn ifs true fun c r=>if r=true then do let ok <-isTrue c X.env (eval c X.env);pure (ForInStep.yield ok) else pure (ForInStep.yield r)) (TP X pins σ Q) X.xe s
def tYes:TT:=fun _ H Q=>Q true H
theorem zna:PIfs X [] tYes:=fun _ _ _ H _ I h=>wpAny_tests_nil ⟨H,I,h⟩
def zkg (wi:TI)(tq:TT)(te:TE)(cs:List (Str×Nat)):St->Hp->(Addr->Hp->Prop)->Prop:=fun σ H R=>wi σ H fun J H1=>∀D,H1 D=none->
  ∃W:Nat->Nat->List V->Hp->Prop,(∃m,W 0 m [] (upd H1 D (.lst [])))/\∀i m ys H2,W i m ys H2->H2 D=some (.lst ys)/\
    ((J.stop i H2 /\ R D H2) \/ (J.go i H2/\ys.length<sizeLine/\∃N:List V->Hp->Prop,(∀ys' H',N ys' H'->∃m',m'<m/\W (i + 1) m' ys' H')/\∀v H3,J.yld i H2 v H3->tq (some v::zfO cs σ) H3 fun b H4=>
      if b=true then te (some v::zfO cs σ) H4 fun y H5=>H5 D=some (.lst ys)/\N (ys ++ [y]) (upd H5 D (.lst (ys ++ [y]))) else N ys H4))
section
variable {prog:Program}{w:World}{A:Around}{R:Result->Shared->Prop}{s:Shared}
theorem ze7 (I:Nat->Shared->Prop)
    (turn : ∀ n s, I n s -> wpAny (model prog w) A (pyNext it) (fun r s₁=>match r with
      |none=>R (.ok .next) s₁
      | some v => wpAny (model prog w) A (letOwnedTupleGo target it v) (fun _ s₁' => wpAny (model prog w) A (assign target env v) (fun _ s₂=>
          wpAny (model prog w) A (forIn ifs true fun c r => if r = true then do let ok <- isTrue c env (eval c env); pure (ForInStep.yield ok) else pure (ForInStep.yield r)) (fun ok s₃=>
            if ok = true then wpAny (model prog w) A (eval elt env) (fun x s₄=>
              wpAny (model prog w) A (call (.builtin "list.append") [acc,x]) (fun _ s₅=>∃m,m<n/\I m s₅) (fun _ _=>False) s₄) (fun _ _=>False) s₃
            else ∃m,m<n/\I m s₃) (fun _ _=>False) s₂) (fun _ _=>False) s₁') (fun _ _=>False) s₁) (fun _ _=>False) s)
    (n:Nat) (h:I n s):
    codeAny (model prog w) A (.compLoop (.ListComp elt [⟨target,iter,ifs,0⟩] scope pos) 0 it acc env) R s:=by
  refine codeAny_loop rfl I (fun n s hI=>?_) n h;show wpAny _ A ((compTurn (.ListComp elt [⟨target,iter,ifs,0⟩] scope pos) 0 it acc env).onRaise (fun x=>do noteFrame x env;theTreesLotGoes x)) _ _ s
  refine wpAny_noted ?_;rw[compTurn_list];refine wpAny_bind (wpAny_standAt (wpAny_bind (wpAny_mono (turn n s hI) (fun r s₁ h₁=>?_) fun _ _ h'=>h'.elim)))
  cases r with
  |none=>exact wpAny_pure h₁
  |some v=>
    refine wpAny_bind (wpAny_mono h₁ (fun _ s₁' h₁'=>?_) fun _ _ h'=>h'.elim);refine wpAny_bind (wpAny_mono h₁' (fun _ s₂ h₂=>wpAny_bind (wpAny_mono h₂ (fun ok s₃ h₃=>?_) fun _ _ h'=>h'.elim)) fun _ _ h'=>h'.elim)
    cases ok with
    |false=>exact wpAny_pure ⟨rfl,h₃⟩
    |true=>
      exact wpAny_bind (wpAny_bind (wpAny_mono h₃ (fun x s₄ h₄=>wpAny_bind (wpAny_mono h₄ (fun _ s₅ h₅=>wpAny_pure (wpAny_pure ⟨rfl,h₅⟩)) fun _ _ h'=>h'.elim)) fun _ _ h'=>h'.elim))
end
section
variable {X:Cx}{elt iter:Expr}{ifs:List Expr}{x:Str}{px:Pos}{scope:Scope}{pos:Pos}{wi:TI}{tq:TT}{te:TE}{cs:List (Str×Nat)}
theorem ziB (hc:X.calm=true)(hi:PI X (.Name x px) iter wi)
    (hq:∀(cl:List (Str×Addr)) (C:Addr) (s₀:Shared) (H₀:Hp) (ex:List Addr) (pn:Pnx),PIfs (zbB X (x::cs.map (·.1)) scope cl C s₀ H₀ ex pn) ifs tq)
    (he:∀(cl:List (Str×Addr)) (C:Addr) (s₀:Shared) (H₀:Hp) (ex:List Addr) (pn:Pnx),PE (zbB X (x::cs.map (·.1)) scope cl C s₀ H₀ ex pn) elt te)
    (ok:CompOk X.N X.env.scope x cs scope) {pins:Pnx} {s:Shared} {σ:St} {H:Hp} {R:Addr->Hp->Prop} (I:Inv X pins σ H s) (h:zkg wi tq te cs σ H R)
    {RR:Value->Addr->Result->Shared->Prop}
    (hRR:∀(D C:Addr) (oC:Obj) (H':Hp) (s':Shared),Inv X (pins ++ [(C,oC)]) σ H' s'->(∀h':Heap,h'.get? C=some oC->∃m,h'.Ns C m)->FpOk X pins H' C->R D H'->RR (.ref D) C (.ok .next) s'):
    wpAny (model X.prog X.w) X.A (eval iter X.env) (fun xv s₁ => wpAny (model X.prog X.w) X.A (pyIter xv) (fun itv s₂ => wpAny (model X.prog X.w) X.A (newList []) (fun acc s₃=>
      wpAny (model X.prog X.w) X.A (newFunctionEnv scope X.env.globals (zdo X.env.cells scope.names) [] X.env.qual none .none (some X.env)) (fun cenv s₄=>
        codeAny (model X.prog X.w) X.A (.compStart (.ListComp elt [⟨.Name x px,iter,ifs,0⟩] scope pos) 0 itv acc {cenv with scope:=relabel scope X.env}) (RR acc cenv.locals) s₄) X.xe s₃) X.xe s₂) X.xe s₁) X.xe s:=by
  refine thn (hi pins s σ H _ I h) fun v s1 h1=>thn h1 fun itv s2 h2=>?_;obtain⟨it,fp,tn,J,H2,e,I2,T,st2,f2,h2⟩:=h2;subst e;have hhas:∀y∈scope.names,y.2=.free->∃c,X.env.cells.lookup y.1=some c:=fun y hy hk=>I2.ok.has y.1 (ok.has y hy hk);refine wpAny_newObj_type (wpAny_newFunctionEnv ok.cell (by intro y hy;simp at hy) (fun h₁ hns₁ hsb₁=>?_) ok.kind);dsimp only at hns₁ hsb₁ ⊢;generalize hHH:s2.heap.push {cls:=.type "list",dict:=none,data:=.seq ([]:List Value).toArray}=HH at hns₁ hsb₁ ⊢;have hC:HH.objs.size=s2.heap.objs.size + 1:=by rw[<-hHH,Heap.size_push]
  have hDC:s2.heap.objs.size≠HH.objs.size:=by rw[hC];exact Nat.ne_of_lt (Nat.lt_succ_self _)
  have hCle:s2.heap.objs.size<=HH.objs.size:=by rw[hC];exact Nat.le_succ _
  have below:∀b,b<s2.heap.objs.size->b≠HH.objs.size:=fun b hb=>by rw[hC];exact Nat.ne_of_lt (Nat.lt_succ_of_lt hb)
  have old:∀b o,s2.heap.get? b=some o->h₁.get? b=some o:=fun b o e=>hsb₁.extBut b o (below b (Heap.lt_size e)) (Heap.get?_push_of_some _ (hHH ▸ Heap.get?_push_of_some _ e));have hacc:h₁.get? s2.heap.objs.size=some {cls:=.type "list",dict:=none,data:=.seq ([]:List Value).toArray}:=hsb₁.extBut _ _ hDC (Heap.get?_push_of_some _ (hHH ▸ Heap.get?_push_size _ rfl));have nD:H2 s2.heap.objs.size=none:=I2.hok.fresh (Nat.le_refl _);have nC:H2 HH.objs.size=none:=I2.hok.fresh hCle;obtain⟨W,⟨m0,w0⟩,turn⟩:=h2 s2.heap.objs.size nD
  -- the block's context
  have fpC:∀b∈fp,b≠HH.objs.size:=fun b hb=>by
    obtain⟨o,ho,_⟩:=T.obj 0 _ st2 b hb;exact below b (Heap.lt_size ho)
  have fpD:∀b∈fp,b≠s2.heap.objs.size:=fun b hb=>by
    obtain⟨o,ho,_⟩:=T.obj 0 _ st2 b hb;exact Nat.ne_of_lt (Heap.lt_size ho)
  have pinC:∀p∈X.pn ++ pins,p.1≠HH.objs.size:=fun p hp=>below _ (Heap.lt_size (I2.pin p hp).1);have clIn:∀y c,(zdo X.env.cells scope.names).lookup y=some c->X.env.cells.lookup y=some c:=zlZ scope.names [] hhas (fun y c e=>by cases e);have kindRel:∀y,(relabel scope X.env).names.lookup y=(relN X.env.scope scope.names).lookup y:=fun _=>rfl;have okC:(zbB X (x::cs.map (·.1)) scope (zdo X.env.cells scope.names) HH.objs.size s2 H2 fp (X.pn ++ pins)).Ok:=
    { mod:=I2.ok.mod
      kind:=ok.kind
      glob:=I2.ok.glob
      blt:=I2.ok.blt
      above:=hCle
      inj:=fun y z c e1 e2=>I2.ok.inj y z c (clIn y c e1) (clIn z c e2)
      has:=fun y hk=>by
        have hm:(y,NameKind.free)∈scope.names:=by
          rcases hk with hk |hk
          · exact zgA (psc:=X.env.scope) (k':=.cell) hk (.inl rfl) ok.cell
          · exact zgA (psc:=X.env.scope) (k':=.free) hk (.inr rfl) ok.cell
        exact zhO scope.names [] y (.inl hm)
      cab:=fun y c hf _=>by cases hf
      hd:=I2.ok.hd
      frames:=I2.ok.frames
      stk:=.inl rfl
      exf:=fun b hb=>⟨fpC b hb,fun y c e z=>(f2 b hb).2.2.2.2.1 y c (clIn y c e) z⟩
      bs:=fun b o e=>I2.bs b o e
      bsz:=Nat.le_trans I2.ok.bsz I2.sz
      noex:=fun b o e hb=>by
        rcases(f2 b hb).2.2.2.1 with z |z
        · exact I2.ok.noex b o e z
        · exact absurd (Nat.lt_of_lt_of_le (Heap.lt_size e) (Nat.le_trans I2.ok.bsz z)) (Nat.lt_irrefl _)
      exfs:=fun b hb z=>by
        rcases List.mem_cons.mp (I2.stkSub b z) with q |q
        · exact(f2 b hb).2.1 q
        · exact(f2 b hb).2.2.1 q
      funs:=I2.stack
      frf:=I2.stkFree}
  have IC:Inv (zbB X (x::cs.map (·.1)) scope (zdo X.env.cells scope.names) HH.objs.size s2 H2 fp (X.pn ++ pins)) [] (none::zfO cs σ) (upd H2 s2.heap.objs.size (.lst [])) {s2 with heap:=h₁,toks:=s2.toks + ([]:List (Str×Value)).length}:=
    { ok:=okC
      os:=rfl
      bare:=I2.bare
      base:=Un.laid old (Nat.le_refl _) nD
      loc:=by
        refine⟨_,hns₁,fun i y u e1 e2 _=>?_⟩
        cases i with
        |zero=>
          have e2':(none:Option V)=some u:=Option.some.inj e2;cases e2'
        |succ i=>
          have e1':(cs.map (·.1))[i]? =some y:=e1;have e2':(zfO cs σ)[i]? =some (some u):=e2;rw[List.getElem?_map]at e1';unfold zfO at e2';rw[List.getElem?_map]at e2'
          cases ep:cs[i]? with
          |none=>rw[ep]at e1';cases e1'
          |some p=>
            rw[ep]at e1' e2';have e1'':p.1=y:=Option.some.inj e1';have e2'':(σ[p.2]?).join=some u:=Option.some.inj e2';have e3:σ[p.2]? =some (some u):=by
              cases q:σ[p.2]? with
              |none=>rw[q]at e2'';cases e2''
              |some z=>rw[q]at e2'';exact congrArg some e2''
            subst e1'';obtain⟨hN,hkp,hkc⟩:=ok.cap p (List.mem_of_getElem? ep);obtain⟨mP,_,hl⟩:=I2.loc;obtain⟨u',ru,lk⟩:=hl p.2 p.1 u hN e3 (.inr hkp);refine⟨u',ru,.inr ⟨hkc,?_⟩⟩;rcases lk with⟨k0,_⟩ |⟨_,c,hcell,his⟩
            · exfalso
              have k0':X.env.scope.names.lookup p.1=some .local:=k0;rcases hkp with z |z<;>(rw[k0']at z;cases z)
            · have hm:(p.1,NameKind.free)∈scope.names:=by
                rcases hkc with z |z
                · exact zgA z (.inl rfl) ok.cell
                · exact zgA z (.inr rfl) ok.cell
              obtain⟨c',hc'⟩:=zhO (cells:=X.env.cells) scope.names [] p.1 (.inl hm);have e5:c'=c:=Option.some.inj ((clIn p.1 c' hc').symm.trans hcell);exact⟨c',hc',by rw[e5];exact his.keeps old⟩
      cell:=fun y c e=>by
        obtain⟨v',q⟩:=I2.cell y c (clIn y c e);exact⟨v',q.keeps old⟩
      free:=by
        show upd H2 s2.heap.objs.size (.lst []) HH.objs.size=none;rw[zak hDC.symm];exact nC
      freeC:=fun y c e=>by
        have hcl:c<s2.heap.objs.size:=by
          obtain⟨_,q⟩:=I2.cell y c (clIn y c e);exact q.lt
        rw[zak (Nat.ne_of_lt hcl)];exact I2.freeC y c (clIn y c e)
      pin:=fun p hp=>by
        have hp':p∈X.pn ++ pins:=by
          rcases List.mem_append.mp hp with z |z
          · exact z
          · cases z
        obtain⟨e1,e2,e3,e4,e5⟩:=I2.pin p hp';refine⟨old _ _ e1,?_,pinC p hp',fun z=>?_,e5⟩
        · rw[zak (Nat.ne_of_lt (Heap.lt_size e1))];exact e2
        · rcases List.mem_cons.mp (I2.stkSub p.1 z) with q |q
          · exact e3 q
          · exact e4 q
      hok:=I2.hok.laid old (Nat.le_refl _) ⟨Nat.zero_le _,[],0,.nil,hacc⟩
      len:=by simp[zfO]}
  have stC:tn 0 h₁:=T.keep 0 _ _ st2 fun b _ o e=>old b o e;have frC:∀b∈fp,upd H2 s2.heap.objs.size (HO.lst []) b=none:=fun b hb=>by
    rw[zak (fpD b hb)];exact(f2 b hb).1
  -- what stays true of the iterator's objects in the block
  have stat:∀{H':Hp},(∀b∈fp,H' b=none)->∀b∈fp,FpOk (zbB X (x::cs.map (·.1)) scope (zdo X.env.cells scope.names) HH.objs.size s2 H2 fp (X.pn ++ pins)) [] H' b:=fun {H'} hn b hb=>
    ⟨hn b hb, fpC b hb, okC.exfs b hb, .inl hb, fun y c e => (okC.exf b hb).2 y c e, fun p hp => (f2 b hb).2.2.2.2.2 p (by
      rcases List.mem_append.mp hp with z |z
      · exact z
      · cases z)⟩
  have loop:∀s₃:Shared,s₃={s2 with heap:=h₁,toks:=s2.toks + ([]:List (Str×Value)).length}->
      codeAny (model X.prog X.w) X.A (.compLoop (.ListComp elt [⟨.Name x px,iter,ifs,0⟩] scope pos) 0 (.ref it) (.ref s2.heap.objs.size) (compEnvC scope (zdo X.env.cells scope.names) HH.objs.size X.env)) (RR (.ref s2.heap.objs.size) HH.objs.size) s₃:=by
    rintro s₃ rfl;refine ze7 (fun n s'=>∃(i:Nat) (v:Option V) (ys:List V) (H':Hp),Inv (zbB X (x::cs.map (·.1)) scope (zdo X.env.cells scope.names) HH.objs.size s2 H2 fp (X.pn ++ pins)) [] (v::zfO cs σ) H' s'/\tn i s'.heap/\(∀b∈fp,H' b=none)/\W i n ys H')
      ?_ m0 ⟨0,none,[],_,IC,stC,frC,w0⟩
    rintro n s3 ⟨i,v3,ys,H3,I3,st3,fr3,w3⟩;obtain⟨hD3,tr⟩:=turn i n ys H3 w3;rcases tr with⟨stop,qn⟩ |⟨go,hsz,N,hN,step⟩
    · refine thn (T.done (zbB X (x::cs.map (·.1)) scope (zdo X.env.cells scope.names) HH.objs.size s2 H2 fp (X.pn ++ pins)) rfl rfl rfl hc i [] s3 _ H3 _ I3 (stat fr3) st3 stop) fun r s4 ⟨hr,I4⟩=>?_;subst hr;show RR (.ref s2.heap.objs.size) HH.objs.size (.ok .next) s4
      have IP:Inv X pins σ H3 s4:=I2.call' (ch:=fp) I4.os I4.base I4.hok I4.bare fun b hb=>⟨(f2 b hb).2.2.2.1,(f2 b hb).2.1,(f2 b hb).2.2.2.2.1,(f2 b hb).2.2.2.2.2⟩;obtain⟨m4,⟨oC,es,ep,hoC,hdC,hk1,hk2⟩,_⟩:=I4.loc;have nC3:H3 HH.objs.size=none:=I4.free;have fC:FpOk X pins H3 HH.objs.size:=I2.fpOk hCle nC3;refine hRR _ _ oC H3 s4 (IP.pins_of fun p hp=>?_) (fun h' e=>⟨m4,oC,es,ep,e,hdC,hk1,hk2⟩) fC qn;rcases List.mem_append.mp hp with z |z
      · exact IP.pin p (List.mem_append_right _ z)
      · have e:p=(HH.objs.size,oC):=by simpa using z
        subst e;exact ⟨hoC,nC3,fC.2.1,fC.2.2.1,fun v z=>by
          have z':oC.data=.cell v:=z;rw[hdC]at z';cases z'⟩
    · refine thn (T.item (zbB X (x::cs.map (·.1)) scope (zdo X.env.cells scope.names) HH.objs.size s2 H2 fp (X.pn ++ pins)) rfl rfl rfl hc i [] s3 _ H3 _ I3 (stat fr3) st3 go) fun r s4 ⟨u,hr,h4⟩=>?_;subst hr;refine thn h4 fun _ s5 ⟨y,H5,I5,r5,y5,st5,fr5⟩=>?_;have I5':=I5.pinned (stat fr5) (T.obj _ _ st5);have hloc:Loc (zbB X (x::cs.map (·.1)) scope (zdo X.env.cells scope.names) HH.objs.size s2 H2 fp (X.pn ++ pins)).env.scope x:=.inl (lookup_relabel_local ok.own);refine wpAny_assign_Name (zgk (i:=0) I5' ok.nd rfl hloc r5 (fun s6 I6=>?_) (.inr (lookup_relabel_local ok.own)));refine thn (hq _ _ _ _ _ _ _ s6 _ H5 _ I6 (step y H5 y5)) fun b s7 ⟨H7,I7,q7⟩=>?_;have again:∀{v':Option V} {H8:Hp} {s8:Shared} {ys':List V} {m':Nat},Inv (zbB X (x::cs.map (·.1)) scope (zdo X.env.cells scope.names) HH.objs.size s2 H2 fp (X.pn ++ pins)) ([] ++ ziV fp s5.heap) (v'::zfO cs σ) H8 s8->W (i + 1) m' ys' H8->
          ∃(i:Nat) (v:Option V) (ys:List V) (H':Hp),Inv (zbB X (x::cs.map (·.1)) scope (zdo X.env.cells scope.names) HH.objs.size s2 H2 fp (X.pn ++ pins)) [] (v::zfO cs σ) H' s8/\tn i s8.heap/\(∀b∈fp,H' b=none)/\W i m' ys H':=fun {v' H8 s8 ys' m'} I8 w8=>by
        refine⟨i + 1,v',ys',H8,I8.unpinned,T.keep _ _ _ st5 fun b hb o e=>(I8.pin (b,o) (List.mem_append_right _ (List.mem_append_right _ (zeB hb e)))).1,fun b hb=>?_,w8⟩;obtain⟨o,e,d⟩:=T.obj _ _ st5 b hb;exact(I8.pin (b,o) (List.mem_append_right _ (List.mem_append_right _ (zeB hb e)))).2.1
      cases b with
      |false=>
        rw[if_neg Bool.false_ne_true]at q7;rw[if_neg Bool.false_ne_true];obtain⟨m',hm,w8⟩:=hN _ _ q7;exact⟨m',hm,again I7 w8⟩
      |true=>
        rw[if_pos rfl]at q7;rw[if_pos rfl];refine thn (he _ _ _ _ _ _ _ s7 _ H7 _ I7 q7) fun z s8 ⟨zv,H8,I8,r8,hD8,n8⟩=>?_;obtain⟨m',hm,w8⟩:=hN _ _ n8;refine thn (zgT (X:=zbB X (x::cs.map (·.1)) scope (zdo X.env.cells scope.names) HH.objs.size s2 H2 fp (X.pn ++ pins)) _ s8 _ H8 (.ref s2.heap.objs.size) [zv] (.ref s2.heap.objs.size) [z] (fun _ H9=>H9=upd H8 s2.heap.objs.size (.lst (ys ++ [zv]))) I8 rfl (.cons r8 .nil) ⟨_,ys,zv,rfl,rfl,hD8,hsz,rfl⟩) fun _ s9 ⟨_,H9,I9,_,e9⟩=>?_;subst e9;exact⟨m',hm,again I9 w8⟩
  exact codeAny_compStart_list (loop _ rfl) (T.self _ 0 _ _ _ stC (loop _ rfl))
def zvW (wi:TI)(tq:TT)(te:TE)(cs:List (Str×Nat)):TE:=fun σ H Q=>zkg wi tq te cs σ H fun D H'=>Q (.ref D) H'
theorem zqp (x:Str)(cs:List (Str×Nat))(hc:X.calm=true)(hi:PI X (.Name x px) iter wi)
  (hq:∀(cl:List (Str×Addr)) (C:Addr) (s₀:Shared) (H₀:Hp) (ex:List Addr) (pn:Pnx),PIfs (zbB X (x::cs.map (·.1)) scope cl C s₀ H₀ ex pn) ifs tq)
  (he:∀(cl:List (Str×Addr)) (C:Addr) (s₀:Shared) (H₀:Hp) (ex:List Addr) (pn:Pnx),PE (zbB X (x::cs.map (·.1)) scope cl C s₀ H₀ ex pn) elt te)
  (ok:zfF X.N X.env.scope x cs scope=true:=by kernel_rfl) (hs:∀x,foldedSetIterable iter X.env x=pure x:=by intro _;rfl):
  PE X (.ListComp elt [⟨.Name x px,iter,ifs,0⟩] scope pos) (zvW wi tq te cs):=by
 intro pins s σ H Q I h;have ok':=CompOk.of ok;rw[eval_ListComp];refine wpAny_comprehension_free (use:=none) rfl hs (zfB fun y hy hk=>I.ok.has y.1 (ok'.has y hy hk)) ok'.kind ok'.names ?_;refine ziB (RR:=fun acc C=>compPost (model X.prog X.w) X.A X.xe none (EP X pins σ Q) acc C) hc hi hq he ok' I h ?_;intro D C oC H' s' I' hns fC q;refine⟨_,(hns _ (I'.pin (C,oC) (List.mem_append_right _ (List.mem_append_right _ (by simp)))).1).choose_spec,fun h' hs'=>?_⟩;have I1:Inv X pins σ H' s':=I'.unpinned;exact⟨.ref D,H',I1.turned (t':=s'.toks) (fun b o hb e=>(hs'.2 b hb).trans e) fC.1 fC.2.1 fC.2.2.2.1 fC.2.2.2.2.1 fC.2.2.2.2.2,rfl,q⟩
def zwv (k:Nat)(wi:TI)(tq:TT)(te:TE)(cs:List (Str×Nat)):TS:=fun D σ H=>zkg wi tq te cs σ H fun l H'=>D.nx (σ.set k (some (.ref l))) H'
theorem zpw (x:Str)(cs:List (Str×Nat))(hN:X.N.Nodup)(hk:X.N[k]? =some y)(hy:Loc X.env.scope y)(hc:X.calm=true)(hi:PI X (.Name x px) iter wi)
  (hq:∀(cl:List (Str×Addr)) (C:Addr) (s₀:Shared) (H₀:Hp) (ex:List Addr) (pn:Pnx),PIfs (zbB X (x::cs.map (·.1)) scope cl C s₀ H₀ ex pn) ifs tq)
  (he:∀(cl:List (Str×Addr)) (C:Addr) (s₀:Shared) (H₀:Hp) (ex:List Addr) (pn:Pnx),PE (zbB X (x::cs.map (·.1)) scope cl C s₀ H₀ ex pn) elt te)
  (ok:zfF X.N X.env.scope x cs scope=true:=by kernel_rfl) (hs:∀x,foldedSetIterable iter X.env x=pure x:=by intro _;rfl)
  (hsw:swapsWith (.ListComp elt [⟨.Name x px,iter,ifs,0⟩] scope pos) (some (.Name y py)) spos.line X.env=pure true:=by rfl)
  (hf:X.fn y=true\/X.env.scope.names.lookup y=some .local:=by first |exact .inl rfl |exact .inr rfl |assumption):
  PS X (.Assign [.Name y py] (.ListComp elt [⟨.Name x px,iter,ifs,0⟩] scope pos) spos) (zwv k wi tq te cs):=by
 intro pins s σ H D I h;have ok':=CompOk.of ok;rw[exec_Assign_Name_used _ _ _ _ hsw];refine wpAny_bind (wpAny_standAt (wpAny_bind ?_));show wpAny _ X.A (do let _ <-comprehension (.ListComp elt [⟨.Name x px,iter,ifs,0⟩] scope pos) scope X.env _ (newList []) false (eval iter X.env) (some (assign (.Name y py) X.env))) _ _ s
 refine wpAny_bind (wpAny_mono (wpAny_comprehension_free (use:=some (assign (.Name y py) X.env)) (Q:=fun _ s'=>SP X pins D .next s') rfl hs (zfB fun y hy hk=>I.ok.has y.1 (ok'.has y hy hk)) ok'.kind ok'.names
  (ziB (RR:=fun acc C=>compPost (model X.prog X.w) X.A X.xe (some (assign (.Name y py) X.env)) (fun _ s'=>SP X pins D .next s') acc C) hc hi hq he ok' I h ?_)) (fun _ s' hq=>wpAny_pure (wpAny_pure hq)) fun _ _ e=>e)
 intro l C oC H' s' I' hns fC q;show wpAny _ X.A (assign (.Name y py) X.env (.ref l)) _ _ _;refine wpAny_assign_Name (zgk (v:=.ref l) I' hN hk hy rfl (fun s'' I''=>?_) hf);refine⟨_,(hns _ (I''.pin (C,oC) (List.mem_append_right _ (List.mem_append_right _ (by simp)))).1).choose_spec,fun h' hs'=>?_⟩;have I1:Inv X pins _ H' s'':=I''.unpinned;exact⟨_,H',I1.turned (t':=s''.toks) (fun b o hb e=>(hs'.2 b hb).trans e) fC.1 fC.2.1 fC.2.2.2.1 fC.2.2.2.2.1 fC.2.2.2.2.2,q⟩
end
theorem zcU (hD:H D=none):Same H (upd H D o):=fun b ob e=>by
 rw[zak (zap e hD)];exact e
structure Noted (fs:List Addr)(z:Addr)(h h':Heap)(e:Addr)(oe:Obj)(T:Addr)(fl:Value):Prop where
 keep:∀b o,b∉fs->b≠e->b≠z->h.get? b=some o->h'.get? b=some o
 slot:∀b o,b∈fs->b≠e->b≠z->h.get? b=some o->∃sl,h'.get? b=some {o with slots:=sl}
 exc:h'.get? e=some (oe.mapFields (·.setIfInBounds 1 (.ref T)))
 new:h.objs.size<=T
 tb:∃oT ts,h'.get? T=some oT/\oT.data=.fields ts/\ts[3]? =some fl
section
variable {M:Model}{A:Around}{E:Value->Shared->Prop}{s:Shared}{base:Heap}{env:Env}{outer:List Env}{L e z:Addr}{oe:Obj}{vs:Array Value}{Q:Unit->Shared->Prop}
theorem zjt (a1:A.frames=some (env::outer))(a2:s.heap.FunFrames base (env::outer))(a3:env.frame=some L)
  (a4:s.heap.get? e=some oe) (a5:oe.data=.fields vs) (a6:1<vs.size)
  (k:∀h' T,Noted (frs (env::outer)) e s.heap h' e oe T (rawInt L)->Q () {s with heap:=h'}):
  wpAny M A (do
   let a <-frameOf env
   let pl <-entryPlaceOf L hadNext
   let b <-EntryCells.newEntry head a .none (rawInt L) .none pl
   setField (.ref e) 1 b) Q E s:=by
 have ne:e∉frs (env::outer):=fun m=>by
  obtain⟨_,o,e1,e2⟩:=a2.mem m;rw[a4]at e1;cases e1;exact e2 vs a5
 refine wpAny_bind (wpAny_frameOf_fun a1 a2 a3 fun h1 S=>?_);refine wpAny_bind (wpAny_entryPlaceOf fun pl hpl=>?_);unfold EntryCells.newEntry newFields;refine wpAny_bind (wpAny_newObj_type ?_ (hpl.sizeOk5 _ _ _ _ _));have b1:h1.get? e=some oe:=(S.2.1 e ne).trans a4;have b2:=Heap.get?_push_of_some (h:=h1) {cls:=.type "traceback",dict:=none,data:=.fields ([head,.ref L,.none,rawInt L,.none] ++ (if pl.isEmpty then List.replicate 6 Value.none else pl)).toArray} b1
 refine wpAny_setField b2 a5 a6 (k _ h1.objs.size ?_);have n1:h1.objs.size≠e:=Nat.ne_of_gt (Heap.lt_size b1);have frd:=Obj.isFreed_of_fields (Obj.data_mapFields a5 (·.setIfInBounds 1 (Value.ref h1.objs.size)));refine⟨fun b o nb nbe _ hb=>?_,fun b o _ nbe _ hb=>?_,Heap.get?_update_self _ b2 frd,Nat.le_of_eq S.1.symm,?_⟩
 ·rw[Heap.get?_update_other _ _ (Ne.symm nbe)];exact Heap.get?_push_of_some _ ((S.2.1 b nb).trans hb)
 ·obtain⟨sl,q⟩:=S.2.2 b o hb;refine⟨sl,?_⟩;rw[Heap.get?_update_other _ _ (Ne.symm nbe)];exact Heap.get?_push_of_some _ q
 ·refine⟨_,_,(Heap.get?_update_other _ _ (Ne.symm n1)).trans (Heap.get?_push_size h1 rfl),rfl,?_⟩;rcases hpl with rfl |⟨_,_,_,_,_,_,_,rfl⟩<;>simp
theorem zhy (b1:s.heap.get? e=some oe)(b2:oe.data=.fields vs)(b3:vs[1]? =some (.ref T))(b4:s.heap.get? T=some oT)(b5:oT.data=.fields ts)(b6:3<ts.size)
  (k:Q () {s with heap:=s.heap.update T (Obj.mapFields (·.setIfInBounds 3 .none))}):wpAny M A (setFlight (.ref e) none) Q E s:=by
 unfold setFlight;refine wpAny_bind (wpAny_field b1 b2 b3 ?_);rw[if_pos (by simp)];exact wpAny_setField b4 b5 b6 k
theorem zlK (N:Noted fs z h h1 e oe T fl)(a4:h.get? e=some oe)(a5:oe.data=.fields vs):Noted fs z h (h1.update T (Obj.mapFields (·.setIfInBounds 3 .none))) e oe T .none:=by
 obtain⟨oT,ts,t1,t2,t3⟩:=N.tb;have ne:∀b o,h.get? b=some o->b≠T:=fun b o q=>Nat.ne_of_lt (Nat.lt_of_lt_of_le (Heap.lt_size q) N.new);refine⟨fun b o n1 n2 n3 hb=>?_,fun b o n1 n2 n3 hb=>?_,?_,N.new,?_⟩
 ·rw[Heap.get?_update_other _ _ (Ne.symm (ne b o hb))];exact N.keep b o n1 n2 n3 hb
 ·obtain⟨sl,q⟩:=N.slot b o n1 n2 n3 hb;exact⟨sl,by rw[Heap.get?_update_other _ _ (Ne.symm (ne b o hb))];exact q⟩
 ·rw[Heap.get?_update_other _ _ (Ne.symm (ne e oe a4))];exact N.exc
 ·have z3:3<ts.size:=(Array.getElem?_eq_some_iff.mp t3).1;exact⟨_,_,Heap.get?_update_self _ t1 (Obj.isFreed_of_fields (Obj.data_mapFields t2 _)),Obj.data_mapFields t2 _,by simp[z3]⟩
theorem zf4 (N:Noted fs z h s.heap e oe T fl)(a4:h.get? e=some oe)(a5:oe.data=.fields vs)(a6:1<vs.size)
  (k:∀h',Noted fs z h h' e oe T .none->Q () {s with heap:=h'}):wpAny M A (setFlight (.ref e) none) Q E s:=by
 obtain⟨oT,ts,t1,t2,t3⟩:=N.tb;refine zhy N.exc (Obj.data_mapFields a5 _) (by simp[a6]) t1 t2 (Array.getElem?_eq_some_iff.mp t3).1 (k _ (zlK N a4 a5))
theorem zjM (a1:A.frames=some (env::outer))(a2:s.heap.FunFrames base (env::outer))(a3:env.frame=some L)
  (a4:s.heap.get? e=some oe) (a5:oe.data=.fields vs) (a6:vs[1]? =some .none) (k:∀h' T,Noted (frs (env::outer)) e s.heap h' e oe T .none->Q () {s with heap:=h'}):wpAny M A (leaving env (.ref e)) Q E s:=by
 have z1:=(Array.getElem?_eq_some_iff.mp a6).1;unfold leaving noteFrame;simp only[a3];refine wpAny_bind (wpAny_bind (wpAny_field a4 a5 a6 ?_));rw[if_neg (by decide)];exact zjt a1 a2 a3 a4 a5 z1 fun h' T N=>zf4 (s:={s with heap:=h'}) N a4 a5 z1 fun h2 N2=>k h2 T N2
theorem zln (a1:A.frames=some (env::outer))(a2:s.heap.FunFrames base (env::outer))(a3:env.frame=some L)
  (a4:s.heap.get? e=some oe) (a5:oe.data=.fields vs) (a6:vs[1]? =some (.ref T0)) (b1:T0≠e) (b2:s.heap.get? T0=some oT) (b3:oT.data=.fields ts) (b4:ts[3]? =some .none)
  (k:∀h' T,Noted (frs (env::outer)) T0 s.heap h' e oe T (rawInt L)->Q () {s with heap:=h'}):wpAny M A (noteFrame (.ref e) env) Q E s:=by
 have z1:=(Array.getElem?_eq_some_iff.mp a6).1;unfold noteFrame;simp only[a3];refine wpAny_bind (wpAny_field a4 a5 a6 ?_);rw[if_pos (by simp)];refine wpAny_bind (wpAny_field b2 b3 b4 ?_);rw[if_neg (by simp[rawInt])];refine wpAny_bind (wpAny_setField b2 b3 (Array.getElem?_eq_some_iff.mp b4).1 ?_);have oth:∀b,b≠T0->(s.heap.update T0 (Obj.mapFields (·.setIfInBounds 3 Value.none))).get? b=s.heap.get? b:=fun b hb=>Heap.get?_update_other _ _ (Ne.symm hb);have fr:∀b o,s.heap.get? b=some o->(∀us,o.data≠ .fields us)->b≠T0:=fun b o hb n r=>by
  rw[r,b2]at hb;cases hb;exact n ts b3
 refine zjt (s:={s with heap:=s.heap.update T0 (Obj.mapFields (·.setIfInBounds 3 Value.none))}) a1 (a2.of_keeps fun b o hb n=>⟨o,(oth b (fr b o hb n)).trans hb,rfl⟩) a3 ((oth e (Ne.symm b1)).trans a4) a5 z1 fun h' T N=>k h' T ?_;exact⟨fun b o n1 n2 n3 hb=>N.keep b o n1 n2 n2 ((oth b n3).trans hb),fun b o n1 n2 n3 hb=>N.slot b o n1 n2 n2 ((oth b n3).trans hb),N.exc,by rw[<-Heap.size_after_update s.heap T0 (Obj.mapFields (·.setIfInBounds 3 Value.none))];exact N.new,N.tb⟩
end
section
variable {prog:Program}{w:World}{A:Around}{E:Value->Shared->Prop}{h:Heap}{g:Array GenState}{d:Drawn}{t:Nat}{os:OsState}
variable {nm q:Str}{C N:Addr}{bs bm bmB:List Value}{hdct:Bool}{sn:List Str}{sub:List Value}{ab:Bool}{col:Option Bool}{dd:Option Addr}{k0 k1 k2 k3 k5:Option Value}{B newId initId:String}
theorem zin (F:ExcBaseFacts B newId initId bmB)(T:OwnTail h bmB bm) 
  (c1:h.get? C=some (excClassObj nm q C N bs bm hdct sn sub ab col dd k0 k1 k2 k3 k5 newId)) (c2:h.Ns N mN) (c3:mN "__init__"=some (.ref fI)) (c4:h.get? fI=some oI) (c5:oI.cls=.type "function") (c6:rest.length<=sizeLine)
  (k:∀h' e,Heap.MadeExcOf h h' e (.ref C) rest->wpAny (model prog w) A (call (.ref fI) (.ref e::rest)) (fun r s'=>r=.none/\Q (.done (.ret (.ref e))) s') E ⟨h',g,d,t,os⟩):
  wpAny (model prog w) A (Builtin.«type.__call__» ⟨.ref C::rest,[]⟩) Q E ⟨h,g,d,t,os⟩:=by
 repeat (first |with_reducible refine wpAny_loadPart_at c1 ?_ |with_reducible refine wpAny_madeBy_exc c1 ?_ |wp_step)
 refine codeAny_call_builtin_code (Code.quiet_builtin _ F.quiet) (wpAny_check_new_subT F T c1 (codeAny_exc_new_subT F T c1 ?_ c6));show wpAny _ _ _ _ _ _;have up : ∀ b o, h.get? b = some o -> ((h.push {cls:=.type "tuple",data:=.seq rest.toArray}).push
   {cls:=.ref C,data:=.fields #[.ref h.objs.size,.none,.none,.none,.bool false,.none]}).get? b=some o:=fun b o hb=>
  Heap.get?_push_of_some _ (Heap.get?_push_of_some _ hb)
 have at1 : ((h.push {cls:=.type "tuple",data:=.seq rest.toArray}).push
   {cls:=.ref C,data:=.fields #[.ref h.objs.size,.none,.none,.none,.bool false,.none]}).get? (h.objs.size + 1)=some
   {cls:=.ref C,data:=.fields #[.ref h.objs.size,.none,.none,.none,.bool false,.none]}:=by heap_get
 have hcC:(Value.ref C::bm).contains (.ref C)=true:=by simp
 have c1':=up _ _ c1;have c4':=up _ _ c4;have T':=T.keeps up;have c2':=c2.keeps up;unfold isInstance
 repeat (first |with_reducible refine wpAny_loadPart_at at1 ?_ |(with_reducible refine wpAny_isSubtype_exc c1' ?_;rw[hcC]) |wp_step)
 show wpAny _ _ (typeLookup (.ref C) _) _ _ _;refine wpAny_typeLookup_tail c1' c2' T' F.mroIs F.init.lookup ?_;rw[c3];refine wpAny_holding (wpAny_bind ?_);unfold bindSpecial;refine wpAny_bind (wpAny_typeOf (T:="function") ⟨_,c4',c5⟩ ?_);rw[if_pos (by decide)];refine wpAny_pure (wpAny_bind (wpAny_mono (k _ (h.objs.size + 1) ⟨up,Heap.get?_none_of_le (Nat.le_succ _),h.objs.size,at1,Heap.get?_none_of_le (Nat.le_refl _),?_⟩) (fun r s' hr=>?_) fun _ _ x=>x))
 ·exact Heap.get?_push_of_some _ (Heap.get?_push_at rfl rfl)
 ·obtain⟨rfl,z⟩:=hr
  wp_walk
  exact z
theorem znW (F:ExcBaseFacts B newId initId bmB)(T:OwnTail h bmB bm) 
  (c1:h.get? C=some (excClassObj nm q C N bs bm hdct sn sub ab col dd k0 k1 k2 k3 k5 newId)) (c2:h.Ns N mN) (c3:mN "__init__"=some (.ref fI)) (c4:h.get? fI=some oI) (c5:oI.cls=.type "function") (c6:rest.length<=sizeLine)
  (k:∀h' e,Heap.MadeExcOf h h' e (.ref C) rest->wpAny (model prog w) (A.under (.builtin "type.__call__" ⟨.ref C::rest,[]⟩)) (call (.ref fI) (.ref e::rest)) (fun r s'=>r=.none/\Q (.ref e) s') E ⟨h',g,d,t,os⟩):
  wpAny (model prog w) A (call (.ref C) rest) Q E ⟨h,g,d,t,os⟩:=by
 have f1:=tc_lookup;have f2:=tc_bind (.ref C);have f3:(⟨h,g,d,t,os⟩:Shared).TypeIs (.ref C) "type":=⟨_,c1,rfl⟩;refine wpAny_call (codeAny_of_tree ?_);show wpAny _ _ (callAny (.ref C) _) _ _ _
 repeat (any_goals (first |assumption |with_reducible refine wpAny_loadPart_at c1 ?_ |wp_step))
 exact⟨rfl,codeAny_call_builtin_at (Code.quiet_builtin _ (by x_go)) entry_typeCall (wpAny_check_type_call_sub c1 (zin F T c1 c2 c3 c4 c5 c6 fun h' e m=>k h' e m))⟩
theorem zk7 (hh:A.handled=none)
  (k : wpAny (model prog w) A x (fun v s₁=>∃e oe vs,v=.ref e/\(∃C nm q N bs bm hdct sn sub ab col dd k0 k1 k2 k3 k5 newId,s₁.heap.get? C=some (excClassObj nm q C N bs bm hdct sn sub ab col dd k0 k1 k2 k3 k5 newId)/\bm.contains (.type "BaseException")=true/\oe.cls=.ref C)/\
   s₁.heap.get? e=some oe/\oe.data=.fields vs/\vs[1]? =some .none/\E (.ref e) s₁) E s):
  wpAny (model prog w) A (raiseStmt env (some x) none) Q E s:=by
 unfold raiseStmt;refine wpAny_bind (wpAny_mono k (fun v s₁ h₁=>?_) fun _ _ x=>x);obtain⟨e,oe,vs,rfl,⟨C,nm,q,N,bs,bm,hdct,sn,sub,ab,col,dd,k0,k1,k2,k3,k5,newId,hC,hb,hc⟩,he,hd,h1,hE⟩:=h₁;have hcB:(Value.ref C::bm).contains (.type "BaseException")=true:=by rw[List.contains_cons,hb,Bool.or_true]
 obtain⟨oc,od,odt,osl⟩:=oe;dsimp only at hc hd;subst hc hd;obtain⟨hp,g,d,tk,os⟩:=s₁
 repeat (first |with_reducible refine wpAny_loadPart_at he ?_ |with_reducible refine wpAny_loadPart_at hC ?_ |(with_reducible refine wpAny_isSubtype_exc hC ?_;rw[hcB]) |with_reducible refine wpAny_field he rfl h1 ?_ |wp_step)
 exact wpAny_raiseNew_none hh hE
end
section
variable {prog:Program}{w:World}{A:Around}{E:Value->Shared->Prop}{h:Heap}{g:Array GenState}{d:Drawn}{t:Nat}{os:OsState}
variable {nm q:Str}{C N:Addr}{bs bm bmB:List Value}{hdct:Bool}{sn:List Str}{sub:List Value}{ab:Bool}{col:Option Bool}{dd:Option Addr}{k0 k1 k2 k3 k5:Option Value}{B newId initId:String}
theorem ztO (F:ExcBaseFacts B newId initId bmB)(T:OwnTail h bmB bm) 
  (c1:h.get? C=some (excClassObj nm q C N bs bm hdct sn sub ab col dd k0 k1 k2 k3 k5 newId)) (e1:h.get? e=some oe) (e2:oe.cls=.ref C) (e3:oe.data=.fields vs) (e4:vs[0]? =some (.ref t0)) (hz:rest.length<=sizeLine)
  (k:Q .none ⟨(h.push {cls:=.type "tuple",data:=.seq rest.toArray}).update e (Obj.mapFields (·.setIfInBounds 0 (.ref h.objs.size))),g,d,t,os⟩):
  wpAny (model prog w) A (call (.builtin initId) (.ref e::rest)) Q E ⟨h,g,d,t,os⟩:=by
 refine wpAny_call (codeAny_call_builtin F.init.plain F.initEntry (wpAny_check_init_subT F T c1 e1 e2 ?_));unfold Builtin.«BaseException.__init__»;dsimp only;rw[if_neg (by simp)];unfold newTuple Builtin.BaseException.bexcPut;have z0:0<vs.size:=(Array.getElem?_eq_some_iff.mp e4).1;have e1':=Heap.get?_push_of_some (h:=h) {cls:=.type "tuple",data:=.seq rest.toArray} e1;refine wpAny_bind (wpAny_newObj_type (wpAny_bind (wpAny_bind (wpAny_field e1' e3 e4 (wpAny_bind (wpAny_setField e1' e3 z0 ?_))))) (by show rest.toArray.size<=sizeLine;rw[List.size_toArray];exact hz));exact wpAny_letGo (wpAny_pure k)
theorem zpb 
  (c1:h.get? C=some (excClassObj nm q C N bs bm hdct sn sub ab col dd k0 k1 k2 k3 k5 newId)) (c2:h.get? c=some (excClassObj nm' q' c N' bs' bm' hdct' sn' sub' ab' col' dd' j0 j1 j2 j3 j5 newId)) (e1:h.get? e=some oe) (e2:oe.cls=.ref C)
  (hb:bm'.contains (.type "BaseException")=true) (k:Q ((Value.ref C::bm).contains (.ref c)) ⟨h,g,d,t,os⟩):wpAny (model prog w) A (excMatches (.ref e) (.ref c)) Q E ⟨h,g,d,t,os⟩:=by
 have hcB:(Value.ref c::bm').contains (.type "BaseException")=true:=by rw[List.contains_cons,hb,Bool.or_true]
 have f:=tc_notTuple;unfold excMatches;generalize hr:(Value.ref C::bm).contains (.ref c)=r at k
 repeat (first |(with_reducible refine wpAny_loadPart_at e1 ?_;rw[e2]) |with_reducible refine wpAny_loadPart_at c2 ?_ |(with_reducible refine wpAny_isSubtype_exc c2 ?_;rw[hcB]) |(with_reducible refine wpAny_isSubtype_exc c1 ?_;rw[hr]) |wp_step)
 cases r<;>(wp_walk;exact k)
end
abbrev zhb:List Value:=[.type "ValueError",.type "Exception",.type "BaseException",.type "object"]
def zks:List Value->Bool
 |.ref _::r=>zks r
 |l=>l==zhb
theorem zf0:∀(l:List Value),zks l=true->∃as:List Addr,l=as.map Value.ref ++ zhb
  | [],e=>⟨[],beq_iff_eq.mp e⟩
  |v::r,e=>by
    cases v
    case ref c=>
      obtain⟨as,h⟩:=zf0 r e;exact⟨c::as,by rw[h];rfl⟩
    all_goals exact⟨[],beq_iff_eq.mp e⟩
theorem zi5 (self:Value):∀as:List Addr,refuseLoop self "__setattr__" (as.map Value.ref ++ zhb)=pure ()
 | []=>PySem.F.store_ValueError.passes self
 |c::as=>(refuseLoop_ref self "__setattr__" c _).trans (zi5 self as)
theorem zrt (as:List Addr):(as.map Value.ref ++ zhb).contains (.type "object")=true:=by
 induction as with
 |nil=>decide +kernel
 |cons c as ih=>rw[List.map_cons,List.cons_append,List.contains_cons,ih,Bool.or_true]
def xcIn (K:Fgx)(C:Addr):Bool:=match K.lookup C with
  | some ⟨.type "type", _, .cls cd, sl⟩ => (match cd.mro,sl.toList with
    |.ref c::bm,[_,_,_,_,some (.builtin n),_]=>c==C && (n=="ValueError.__new__" && (!cd.hasDel && (PySem.W.tailIn K zhb bm && (PySem.W.nsOkIn K cd.ns && (cd.hasDict && zks bm)))))
    |_,_=>false)
  |_=>false
structure XCls (h:Heap)(C:Addr)(nm qn:Str)(N:Addr)(bs bm:List Value)(sn:List Str)(sub:List Value)(ab:Bool)(col:Option Bool)(dd:Option Addr)(k0 k1 k2 k3 k5:Option Value):Prop where
 obj:h.get? C=some (excClassObj nm qn C N bs bm true sn sub ab col dd k0 k1 k2 k3 k5 "ValueError.__new__")
 tail:OwnTail h zhb bm
 ns:h.Ns N (h.nsMap N)
 over:zks bm=true
theorem zjU {K:Fgx}{h:Heap}{C:Addr}(X:K.In h)(q:xcIn K C=true):∃nm qn N bs bm sn sub ab col dd k0 k1 k2 k3 k5,
  XCls h C nm qn N bs bm sn sub ab col dd k0 k1 k2 k3 k5/\K.lookup C=some (excClassObj nm qn C N bs bm true sn sub ab col dd k0 k1 k2 k3 k5 "ValueError.__new__"):=by
 unfold xcIn at q;split at q
 ·rename_i dd cd sl ho;split at q
  ·rename_i c bm k0 k1 k2 k3 n k5 hm hs;simp only[Bool.and_eq_true,beq_iff_eq,Bool.not_eq_true']at q;obtain⟨q1,q2,q3,q4,q5,q6,q7⟩:=q;obtain⟨nm,bs,mro,ns,qn,hd,sn,sub,ab,col,del⟩:=cd;obtain⟨sl⟩:=sl;dsimp only at hm hs q3 q5 q6;subst q1 q2 hm q3 q6 hs;exact⟨nm,qn,ns,bs,bm,sn,sub,ab,col,dd,k0,k1,k2,k3,k5,⟨X _ _ ho,PySem.W.tail_of_in X q4,.of_isNs (PySem.W.isNs_of_in X q5),q7⟩,ho⟩
  ·cases q
 ·cases q
def zjO (K:Fgx)(C f:Addr):Bool:=match K.lookup C with
 |some ⟨_,_,.cls cd,_⟩=>PySem.W.nsIn K cd.ns "__init__"==some (some (.ref f)) && PySem.W.typeIn K (.ref f)==some (.type "function")
 |_=>false
def zlJ (K:Fgx)(C:Addr):Bool:=match K.lookup C with
 |some ⟨_,_,.cls cd,_⟩=>PySem.W.nsIn K cd.ns "__init__"==some none
 |_=>false
theorem zk0 {K:Fgx}{h:Heap}{N:Addr}{mg:Mgx}{n:Str}{v:Value}(X:K.In h)(G:h.Ns N mg)(e:PySem.W.nsIn K N n=some (some v)):mg n=some v:=by
 obtain⟨o,es,ep,ho,hd,_,hf⟩:=G;unfold PySem.W.nsIn at e;split at e
 ·rename_i q;have z:=X _ _ q;rw[ho]at z;cases z;cases hd;split at e
  ·rename_i en he;cases e;rw[<-hf];unfold nsFind findBy;rw[<-Array.find?_toList,he];rfl
  ·split at e<;>cases e
 ·cases e
def zkV (K:Fgx)(C:Addr):Bool:=PySem.W.findIn K (.ref C) "__getattribute__"==some (some (.builtin "BaseException.__getattribute__")) &&
 (PySem.W.findIn K (.ref C) "__getattr__"==some none && PySem.W.mroIn K C (.type "BaseException")==some true)
def zf9 (K:Fgx)(C:Addr)(name:Str):Bool:=
 PySem.W.findIn K (.ref C) "__setattr__" == some (some (.builtin "object.__setattr__")) && (PySem.W.takerIn K C name==some none &&
  (zkV K C && (PySem.W.hasDictIn K C && PySem.W.findIn K (.ref C) name==some none)))
section
variable {prog:Program}{w:World}{A:Around}{E:Value->Shared->Prop}{s:Shared}{K:Fgx}{x dx C:Addr}{ox:Obj}{vs:Array Value}{name:Str}{v:Value}
theorem zvS {Q:Unit->Shared->Prop}(X:K.In s.heap)(q0:xcIn K C=true)(q:zf9 K C name=true)(a1:s.heap.get? x=some ox)(a2:ox.cls=.ref C)(a3:ox.dict=none)(a4:ox.data=.fields vs)
    (k:∀h' tk,(∀b o,b≠x->s.heap.get? b=some o->h'.get? b=some o)->h'.get? x=some {ox with dict:=some s.heap.objs.size}->h'.Ns1 s.heap.objs.size (fun y=>if y=name then some v else none)->Q () {s with heap:=h',toks:=tk}):
    wpAny (model prog w) A (setAttr (.ref x) name v) Q E s:=by
  simp only[zf9,Bool.and_eq_true,beq_iff_eq]at q;obtain⟨g1,g2,_,g4,_⟩:=q;obtain⟨nm,qn,N,bs,bm,sn,sub,ab,col,dd,k0,k1,k2,k3,k5,Y,lk⟩:=zjU X q0;obtain⟨as,hbm⟩:=zf0 bm Y.over;have J:PySem.W.InstAt s.heap x ox C none:=⟨a1,a2,by unfold PySem.W.notCls;rw[a4],by rw[a3];trivial⟩;refine PySem.W.set_plain X J g1 ?_;have SF:=PySem.F.store_object;obtain⟨cd,hc,hd⟩:=PySem.W.any_some g4;have hcd:cd.mro=(C::as).map Value.ref ++ zhb:=by
    unfold PySem.W.clsIn at hc;rw[lk]at hc;cases hc;show Value.ref C::bm=_;rw[hbm];rfl
  have ne:cd.mro.isEmpty=false:=by rw[hcd];rfl
  have sub2:PySem.W.Looks (model prog w) s.heap (isInstance (.ref x) (.type "object")) true:=
    J.type.andThen (PySem.W.looks_mroIn X (by unfold PySem.W.mroIn;rw[hc,Option.bind_some,if_neg (by rw[ne];decide),hcd,zrt]))
  refine codeAny_call_builtin SF.slot.plain SF.entry (@PySem.W.check_slot (model prog w) _ _ {s with toks:=s.toks + 1} "object.__setattr__" "object" "__setattr__" (.ref x) [.str name s.toks,v] [] _ SF.kind SF.split sub2 (SF.args (.ref x) (.str name s.toks) v) ?_);obtain⟨attr,ha,hr⟩:=Option.bind_eq_some_iff.mp g2;have hm:PySem.W.Looks (model prog w) s.heap (mroOf (.ref C)) cd.mro:=(PySem.W.looks_clsIn X hc).andThen .now;have L3:PySem.W.Looks (model prog w) s.heap (Builtin.ObjectAttr.storeTaker? attr) none:=by
    cases attr with
    |none=>exact .now
    |some a=>
      obtain⟨b,hb,e⟩:=Option.map_eq_some_iff.mp hr;refine(PySem.W.looks_takesIn X hb).andThen ?_;cases b
      · exact .now
      · cases e
  rw[PySem.W.osa_eq,refuse_eq];refine wpAny_bind (wpAny_bind (PySem.W.Looks.here (s:={s with toks:=s.toks + 1}) J.type (wpAny_bind (PySem.W.Looks.here (s:={s with toks:=s.toks + 1}) hm ?_))));rw[hcd,zi5];refine wpAny_pure (wpAny_bind (PySem.W.Looks.here (s:={s with toks:=s.toks + 1}) J.type (wpAny_bind (PySem.W.Looks.here (s:={s with toks:=s.toks + 1}) (PySem.W.looks_findIn X ha) (wpAny_bind (PySem.W.Looks.here (s:={s with toks:=s.toks + 1}) L3 ?_))))));obtain⟨oc,odi,oda,osl⟩:=ox;dsimp only at a2 a3 a4;subst a2 a3 a4;refine wpAny_bind (wpAny_pure (wpAny_bind (wpAny_bind (wpAny_loadPart a1 (wpAny_bind (PySem.W.Looks.here (s:={s with toks:=s.toks + 1}) (PySem.W.looks_clsIn X hc) ?_))))));rw[hd];have hx1:(s.heap.push {cls:=.type "dict",data:=.dict #[]}).get? x=some _:=Heap.get?_push_of_some _ a1;have hxs:x≠s.heap.objs.size:=Nat.ne_of_lt (Heap.lt_size a1);refine wpAny_bind (wpAny_alloc' ?_);refine wpAny_bind (wpAny_update' hx1 ?_);refine wpAny_pure ?_;have hgd:((s.heap.push {cls:=.type "dict",data:=.dict #[]}).update x fun o=>{cls:=o.cls,dict:=some s.heap.objs.size,data:=o.data,slots:=o.slots}).get? s.heap.objs.size=some {cls:=.type "dict",data:=.dict #[]}:=
    (Heap.get?_update_ne _ _ _ _ hxs.symm).trans (Heap.get?_push_at rfl rfl)
  have hnd:((s.heap.push {cls:=.type "dict",data:=.dict #[]}).update x fun o=>{cls:=o.cls,dict:=some s.heap.objs.size,data:=o.data,slots:=o.slots}).Ns s.heap.objs.size (fun _=>none):=
    ⟨_, #[],_,hgd,rfl,fun e he=>absurd he (by simp),fun _=>rfl⟩
  show wpAny _ _ (Builtin.ObjectAttr.storeInDict s.heap.objs.size (.str name s.toks) name v) _ _ _;unfold Builtin.ObjectAttr.storeInDict Builtin.ObjectAttr.newKeyGuard;refine wpAny_bind (wpAny_pure (wpAny_bind (wpAny_nsSet1 (Heap.Ns1.of_empty hnd) fun h' hn' hs=>?_)));obtain⟨oD,esD,epD,hoD,hdD,hcD⟩:=hn'.count (Within.cons name v Within.nil);refine wpAny_bind (wpAny_lookBehind hoD (by rw[hdD];exact pastItsLine_dict (Nat.le_trans hcD (by rw[List.length_cons,List.length_nil,sizeLine_eq];omega))) ?_);refine wpAny_pure (k h' _ (fun b o nb hb=>?_) ?_ hn')
  · exact(hs.2 b (Nat.ne_of_lt (Heap.lt_size hb))).trans ((Heap.get?_update_ne _ _ _ _ nb).trans (Heap.get?_push_of_some _ hb))
  · exact(hs.2 x hxs).trans (Heap.get?_update_self _ hx1 rfl)
end
def xo (a C:Addr)(dx:Option Addr)(b:Bool):HO:=.ext fun h=>∃oe vs t,h.get? a=some oe/\oe.cls=.ref C/\oe.dict=dx/\oe.data=.fields vs/\vs.size=6/\vs[0]? =some (.ref t)/\(b=true->vs[1]? =some .none)
theorem zlW (x:∃oe vs t,h.get? a=some oe/\oe.cls=.ref C/\oe.dict=dx/\oe.data=.fields vs/\vs.size=6/\vs[0]? =some (.ref t)/\(b=true->vs[1]? =some .none)):
  zbC P w H h a (xo a C dx b):=by
 obtain⟨oe,vs,t,e,r⟩:=x;exact⟨⟨oe,vs,t,e,r⟩,⟨oe,e⟩,fun h1 h2 ⟨oe,vs,t,e,r⟩ k=>⟨oe,vs,t,k _ e,r⟩⟩
def zp5 (h:Heap)(a T:Addr):Prop:=∃oe vs oT ts,h.get? a=some oe/\oe.data=.fields vs/\vs[1]? =some (.ref T)/\T≠a/\h.get? T=some oT/\oT.data=.fields ts/\ts[3]? =some .none
section
variable {P:Program}{w:World}{H:Hp}{h h':Heap}{fs ch:List Addr}{z a C T:Addr}{oe:Obj}{fl:Value}{dx:Option Addr}{b:Bool}{vs:Array Value}
theorem zhc (N:Noted fs z h h' a oe T .none)(e1:h.get? a=some oe)(e2:oe.data=.fields vs)(e3:vs.size=6):zp5 h' a T:=by
 obtain⟨oT,ts,t1,t2,t3⟩:=N.tb;refine⟨_,_,oT,ts,N.exc,Obj.data_mapFields e2 _,by simp[e3],fun q=>?_,t1,t2,t3⟩;have z:=Nat.lt_of_lt_of_le (Heap.lt_size e1) N.new;rw[q]at z;exact absurd z (Nat.lt_irrefl _)
theorem znZ (N:Noted fs z h h' a oe T fl)(x:∃vs t,oe.cls=.ref C/\oe.dict=dx/\oe.data=.fields vs/\vs.size=6/\vs[0]? =some (.ref t)):∃oe vs t,h'.get? a=some oe/\oe.cls=.ref C/\oe.dict=dx/\oe.data=.fields vs/\vs.size=6/\vs[0]? =some (.ref t)/\(false=true->vs[1]? =some .none):=by
 obtain⟨vs,t,c1,c2,c3,c4,c5⟩:=x;refine⟨_,_,t,N.exc,(Obj.cls_mapFields _ _).trans c1,?_,Obj.data_mapFields c3 _,by simp[c4],?_,fun q=>by cases q⟩
 ·obtain⟨_,_,od,_⟩:=oe;dsimp only at c3;subst c3;exact c2
 ·rw[Array.getElem?_setIfInBounds_ne (by decide)];exact c5
theorem zkh (N:Noted fs z h h' a oe T fl)(ha:H a=some (xo a C dx b))(hz:z=a\/z∈ch):Un fs ch H (upd H a (xo a C dx false)) h h':=by
 have n1:∀c,H c=none->c≠a:=fun c n q=>by rw[q,ha]at n;cases n
 have n2:∀c,c≠a->c∉ch->c≠z:=fun c n m q=>by
  rcases hz with r |r
  ·exact n (q.trans r)
  ·exact m (q ▸ r)
 have n3:∀c u,H c=some u->(∀φ,u≠ .ext φ)->c≠a:=fun c u q m r=>by
  rw[r,ha]at q;exact m _ (Option.some.inj q).symm
 refine ⟨fun c o q n hc hx=>N.keep c o hc (n1 c n) (n2 c (n1 c n) hx) q,fun c o q n hc hx=>N.slot c o hc (n1 c n) (n2 c (n1 c n) hx) q,fun c o q n hx=>by rw[zak (n1 c n)];exact n,fun c o q hx=>?_,
  fun c xs q=>by rw[zak (n3 c _ q (by intro _ z;cases z))];exact q,fun c o u q=>by rw[zak (n3 c _ q (by intro _ z;cases z))];exact q,fun c ps q=>⟨#[],by rw[zak (n3 c _ q (by intro _ z;cases z)),q];simp⟩⟩
 by_cases ca:c=a
 ·rw[ca];exact⟨_,N.exc⟩
 ·by_cases cf:c∈fs
  ·obtain⟨sl,r⟩:=N.slot c o cf ca (n2 c ca hx) q;exact⟨_,r⟩
  ·exact⟨o,N.keep c o cf ca (n2 c ca hx) q⟩
theorem ziW (ok:HOk P w H h)(N:Noted fs z h h' a oe T fl)(ha:H a=some (xo a C dx b))(hz:z=a\/H z=none)(hf:∀c∈fs,H c=none)
  (x:∃vs t,oe.cls=.ref C/\oe.dict=dx/\oe.data=.fields vs/\vs.size=6/\vs[0]? =some (.ref t)):HOk P w (upd H a (xo a C dx false)) h':=fun c u q=>by
 have n3:∀c u,H c=some u->(∀φ,u≠ .ext φ)->c≠a:=fun c u q m r=>by
  rw[r,ha]at q;exact m _ (Option.some.inj q).symm
 by_cases hc:c=a
 ·subst hc;rw[zar]at q;cases q;exact zlW (znZ N x)
 ·rw [zak hc] at q;have kp : ∀ d u v, H d = some u -> d ≠ a -> h.get? d = some v -> h'.get? d = some v := fun d u v q nd r => N.keep d v (fun m => by rw [hf d m] at q; cases q) nd (fun e=>by
   rcases hz with g |g
   ·exact nd (e.trans g)
   ·rw[e,g]at q;cases q) r
  refine(ok c u q).stay (fun d v hd r=>?_) (fun d r=>by rw[zak (n3 d _ r (by intro _ z;cases z))];exact r) fun d xs r=>by rw[zak (n3 d _ r (by intro _ z;cases z))];exact r
  rcases hd with rfl |hd
  ·exact kp d u v q hc r
  ·exact kp d _ v hd (n3 d _ hd (by intro _ z;cases z)) r
theorem Un.less (u:Un (L::fs) ch H H' h h')(n:h.get? L=none):Un fs ch H H' h h':=by
 have m:∀c o,h.get? c=some o->c≠L:=fun c o q e=>by rw[e,n]at q;cases q
 exact⟨fun c o q k hc hx=>u.keep c o q k (fun z=>(List.mem_cons.mp z).elim (m c o q) hc) hx,fun c o q k hc hx=>u.slot c o q k (List.mem_cons_of_mem _ hc) hx,u.free,u.there,u.tups,u.frzs,u.tbls⟩
end
def CX1 (P:Program)(w:World):CXT:=fun outer H s E e s'=>∃a C dx H' T,e=.ref a/\s'.os=s.os/\AllBare s'.gens/\Un (frs outer) [] H H' s.heap s'.heap/\HOk P w H' s'.heap/\H' a=some (xo a C dx false)/\H' T=none/\s.heap.objs.size<=T/\zp5 s'.heap a T/\E (.ref C) dx H'
section
variable {X:Cx}{pins:Pnx}{σ:St}{H:Hp}{s:Shared}
theorem znV {P:Program}{w:World}{K:Fgx}{mg:Mgx}{base:Heap}{N:List Str}{qual:Str}{scope:Scope}{f:Addr}{cd:Value}{A:Around}{outer:List PySem.Env}{E:XK}{H1:Hp}{s1:Shared}{a C:Addr}{dx:Option Addr}
  (I:Inv (cxOf (CX1 P w) P w K mg base N qual scope f cd A outer s H E) pins σ H1 s1) (ha:H1 a=some (xo a C dx true)) (hE:E (.ref C) dx (upd H1 a (xo a C dx false))):(cxOf (CX1 P w) P w K mg base N qual scope f cd A outer s H E).xe (.ref a) s1:=by
 obtain⟨oe,vs,t,e1,e2,e3,e4,e5,e6,e7⟩:=(I.hok a _ ha).1;have fr:=I.ok.frames;have st:=I.stack;refine zjM fr st rfl e1 e4 (e7 rfl) fun h' T Nn=>?_;have hL:s.heap.get? (envOfC qual scope s.heap.objs.size f cd).locals=none:=Heap.get?_none_of_le I.ok.above;have u1:Un (s.heap.objs.size::frs outer) [] H H1 s.heap s1.heap:=Un.mono (fs':=s.heap.objs.size::frs outer) (ex':=[]) I.base (fun b hb=>List.mem_cons_of_mem _ hb) fun b hb=>hb;have u2:Un (s.heap.objs.size::frs outer) [] H1 (upd H1 a (xo a C dx false)) s1.heap h':=zkh Nn ha (.inl rfl);have hT:H1 T=none:=I.hok.fresh Nn.new;have nT:T≠a:=fun q=>by rw[q,ha]at hT;cases hT
 refine⟨a,C,dx,_,T,rfl,I.os,I.bare,(u1.trans u2).less hL,ziW I.hok Nn ha (.inl rfl) (fun c hc=>I.stkFree c hc) ⟨vs,t,e2,e3,e4,e5,e6⟩,zar,by rw[zak nT];exact hT,Nat.le_trans I.sz Nn.new,zhc Nn e1 e4 e5,hE⟩
end
theorem zbC.some_of (x:zbC P w H h a o):∃u,h.get? a=some u:=by
 cases o with
 |lst xs=>obtain⟨_,_,_,_,e⟩:=x;exact⟨_,e⟩
 |tup xs=>obtain⟨_,_,_,u,e,_⟩:=x;exact⟨u,e⟩
 |dK kvs=>obtain⟨_,_,_,_,u,_,_,e,_⟩:=x;exact⟨u,e⟩
 |dT kvs=>obtain⟨_,_,_,_,u,_,_,e,_⟩:=x;exact⟨u,e⟩
 |set S n=>obtain⟨u,_,_,_,e,_⟩:=x;exact⟨u,e⟩
 |ins C dx fs=>obtain⟨_,_,_,e,_⟩:=x;exact⟨_,e⟩
 |own y=>exact x
 |xd fs=>obtain⟨_,⟨u,_,_,e,_⟩,_⟩:=x;exact⟨u,e⟩
 |rng lo hi=>obtain⟨_,_,_,e⟩:=x;exact⟨_,e⟩
 |frz ob u=>obtain⟨e,_⟩:=x;exact⟨_,e⟩
 |tbl ps=>exact⟨_,x⟩
 |met f y=>exact⟨_,x⟩
 |ext φ=>exact x.2.1
theorem zol (e:H a=some o):upd H a o=H:=by
 funext b;unfold upd
 split
 ·subst_vars;exact e.symm
 ·rfl
theorem zjg (ok:HOk P w H h)(e:H a=some (xo a C dx b)):
  ∃oe vs t,h.get? a=some oe/\oe.cls=.ref C/\oe.dict=dx/\oe.data=.fields vs/\vs.size=6/\vs[0]? =some (.ref t)/\(b=true->vs[1]? =some .none):=(ok a _ e).1
section
variable {X:Cx}{pins:Pnx}{σ:St}{H:Hp}{s:Shared}
theorem Inv.laidN (I:Inv X pins σ H s)(k:∀b u,s.heap.get? b=some u->h'.get? b=some u)(n:s.heap.get? a=none)(new:zbC X.prog X.w (upd H a o) h' a o):
    H a=none/\Inv X pins σ (upd H a o) {s with heap:=h',toks:=t'}:=by
  have hn:H a=none:=by
    cases q:H a with
    |none=>rfl
    |some u=>
      obtain⟨v,e⟩:=(I.hok a u q).some_of;rw[n]at e;cases e
  refine ⟨hn, I.un ⟨fun b u q _ _ _=>k b u q,fun b u q _ _ _=>⟨u.slots,k b u q⟩,fun b u q m _=>?_,fun b u q _=>⟨u,k b u q⟩,fun b xs q=>by rw[zak (zap q hn)];exact q,fun b u xs q=>by rw[zak (zap q hn)];exact q,
    fun b ps q=>⟨#[],by rw[zak (zap q hn),q];simp⟩⟩ fun b u q=>?_⟩
  · rw[zak (fun z=>by rw[z,n]at q;cases q)];exact m
  · by_cases hb:b=a
    · subst hb;rw[zar]at q;cases q;exact new
    · rw[zak hb]at q;exact(I.hok b u q).stay (fun c v _ r=>k c v r) (fun c r=>by rw[zak (zap r hn)];exact r) fun c xs r=>by rw[zak (zap r hn)];exact r
def tOwn (C:Addr)(sp:Sp)(te:TE):TE:=fun σ H Q=>te σ H fun v H1=>∀a,H1 a=none->sp [.ref a,v] (upd H1 a (xo a C none true)) (fun r H2=>r=.non/\Q (.ref a) H2) E0
theorem zr5 (q1:xcIn X.K C=true)(q2:zjO X.K C f=true)(kp:PySem.W.keepIn X.K (.ref C)=true)
    (F:FnOk X.prog X.w X.K X.mg X.base CX0 k f fd ps sp) (hr:Room (k + 1) X.A) (hg:Gl X x) (hm:X.mg x=some (.ref C)) (hb:Binds X.K fd ps []) (hps:ps.length<=100) (he:PE X e te) (hdb:(x==("__debug__":Str))=false)
    (hs:starEach [e] X.env=[(false,eval e X.env)]):PE X (.Call (.Name x p) [e] [] pos) (tOwn C sp te):=by
  intro pins s σ H Q I h;refine wpAny_Call_Name_kw (zda I hg hm ?_ hdb);refine PySem.W.callWith_K (h₀:=X.base) I.ok.mod.kin kp (thn (zdy he zfX hs pos pins s σ H (fun vs H1=>∀a,H1 a=none->sp (.ref a::vs) (upd H1 a (xo a C none true)) (fun r H2=>r=.non/\Q (.ref a) H2) E0) I h) fun us s1 ⟨vs,H1,I1,r,q⟩=>⟨I1.kIn,?_⟩) hs rfl;obtain⟨nm,qn,N,bs,bm,sn,sub,ab,col,dd,k0,k1,k2,k3,k5,Y,lk⟩:=zjU I1.kIn q1;unfold zjO at q2;rw[lk]at q2;simp only[Bool.and_eq_true,beq_iff_eq]at q2;have c3:=zk0 I1.kIn Y.ns q2.1;obtain⟨oI,c4,c5⟩:∃oI,s1.heap.get? f=some oI/\oI.cls=.type "function":=by
    have z:(X.K.lookup f).map (·.cls)=some (.type "function"):=q2.2
    cases lf:X.K.lookup f with
    |none=>rw[lf]at z;cases z
    |some oI=>rw[lf]at z;exact⟨oI,I1.kIn _ _ lf,Option.some.inj z⟩
  have hl:=r.length;have ql:=F.len _ _ _ _ (q s1.heap.objs.size (I1.hok.fresh (Nat.le_refl _)));rw[List.length_cons]at ql;obtain⟨hh,g,d,t,os⟩:=s1;refine znW PySem.F.excBase_ValueError Y.tail Y.obj Y.ns c3 c4 c5 (by show us.length<=sizeLine;rw[<-hl,sizeLine_eq];omega) fun h' a M=>?_;obtain⟨t0,m1,_,_⟩:=M.there;obtain⟨hn,I2⟩:=I1.laidN (a:=a) (o:=xo a C none true) (t':=t) M.keeps M.new (zlW ⟨_,_,t0,m1,rfl,rfl,rfl,rfl,rfl,fun _=>rfl⟩);have r2:Vals (V.ref a::vs) (Value.ref a::us):=.cons rfl r;have hz:(Value.ref a::us ++ []).length=ps.length:=by
    rw[List.append_nil, <-r2.length];exact F.len _ _ _ _ (q a hn)
  have bd:=hb _ (Value.ref a::us) I2.kIn hz;rw[List.append_nil]at bd;refine wpAny_call (codeAny_mono (F.run _ X.stack _ _ ⟨Value.ref a::us,[]⟩ (Value.ref a::us) (V.ref a::vs) _ E0 (hr.make C us []) (I2.env0.make C us []) bd r2 (q a hn)) fun rr s' hq=>?_)
  cases rr with
  |error e=>exact False.elim hq
  |ok fl=>
    cases fl with
    |ret u=>
      obtain⟨v,H',I3,rv,ev,q3⟩:=I2.after hq;subst ev;exact⟨rv,⟨V.ref a,H',I3,rfl,q3⟩⟩
    |next=>exact False.elim hq
    |brk=>exact False.elim hq
    |cont=>exact False.elim hq
theorem zkB {e:Expr}{te:TE}{pos:Pos}{W:Addr->Addr->Option Addr->Hp->Prop}(he:PE X e te)(hc:X.calm=true)
  (hx:∀pins σ H s a C dx,Inv X pins σ H s->H a=some (xo a C dx true)->W a C dx H->X.xe (.ref a) s):
  PS X (.Raise (some e) none pos) (fun _ σ H=>te σ H fun v H1=>∃a C dx,v=.ref a/\H1 a=some (xo a C dx true)/\xcIn X.K C=true/\W a C dx H1):=by
 intro pins s σ H D I h;rw[arm_exec_Raise];refine wpAny_bind (wpAny_standAt (zk7 (I.ok.hd hc) (wpAny_bind (thn (he pins s σ H _ I h) fun u s1 ⟨v,H1,I1,rv,a,C,dx,ev,ea,q1,w⟩=>wpAny_bind (wpAny_standAt (wpAny_pure ?_))))));subst ev;cases rv;obtain⟨nm,qn,N,bs,bm,sn,sub,ab,col,dd,k0,k1,k2,k3,k5,Y,lk⟩:=zjU I1.kIn q1;obtain⟨oe,vs,t,e1,e2,e3,e4,e5,e6,e7⟩:=zjg I1.hok ea;exact⟨a,oe,vs,rfl,⟨C,nm,qn,N,bs,bm,_,sn,sub,ab,col,dd,k0,k1,k2,k3,k5,_,Y.obj,Y.tail.hasType PySem.F.excBase_ValueError.hasBase,e2⟩,e1,e4,e7 rfl,hx pins σ H1 s1 a C dx I1 ea w⟩
def zjT (K : Fgx) (D : Addr) : Bool := PySem.W.specialIn K (.ref D) "__getattribute__" == some (some (.builtin "type.__getattribute__")) && (PySem.W.readsIn K D (.type "type") &&
 (match PySem.W.findCls K (.ref D) (.type "type") "__init__" with
  |some (.val (.builtin i))=>i=="ValueError.__init__"
  |_=>false))
def tBi (K:Fgx)(t1 t2:TE):TE:=fun σ H Q=>t1 σ H fun x H1=>t2 σ H1 fun _ H2=>∃a C,x=.ref a/\H2 a=some (xo a C none true)/\xcIn K C=true/\Q .non H2
theorem ztF (q:zjT X.K D=true)(hg:Gl X x)(hm:X.mg x=some (.ref D))(h1:PE X e1 t1)(h2:PE X e2 t2)(hdb:(x==("__debug__":Str))=false)
    (s1:starEach [e1,e2] X.env=(false,eval e1 X.env)::starEach [e2] X.env) (s2:starEach [e2] X.env=[(false,eval e2 X.env)])
    (ht : eval (.Call (.Attribute (.Name x p) "__init__" ap) [e1, e2] [] pos) X.env = (do
      let ov <-eval (.Name x p) X.env
      standAt ap.atName
      let (f,first) <-holding [ov] (getMethod ov "__init__" pl)
      callWith pos f first (backTo pos (starEach [e1,e2] X.env)) (backToKw pos (keywordEach [] X.env)))):
    PE X (.Call (.Attribute (.Name x p) "__init__" ap) [e1,e2] [] pos) (tBi X.K t1 t2):=by
  intro pins s σ H Q I h;simp only[zjT,Bool.and_eq_true,beq_iff_eq]at q;obtain⟨q1,q2,q3⟩:=q;have q4:PySem.W.findCls X.K (.ref D) (.type "type") "__init__"=some (.val (.builtin "ValueError.__init__")):=by
    split at q3
    · rename_i i e;rw[e,beq_iff_eq.mp q3]
    · cases q3
  refine PySem.W.methodCall_KW (pl := pl) (zda I hg hm ?_ hdb) ht;refine PySem.W.method_cls I.kIn q1 (PySem.W.cls_value I.kIn q2 q4 rfl ?_);have I0 := I.tok (s.toks + 1);refine PyProof.Rows.callWith_builtin1 (thn (zdy h1 (zdy h2 zfX s2) s1 pos pins _ σ H (fun vs H2=>match vs with
    | [x,_]=>∃a C,x=.ref a/\H2 a=some (xo a C none true)/\xcIn X.K C=true/\Q .non H2
    |_=>False) I0 h) fun us s3 ⟨vs,H3,I3,r,z⟩=>?_) s1 (by rw[s2];rfl)
  rcases vs with _ |⟨x1,_ |⟨y1,_ |⟨z1,vs⟩⟩⟩<;>first |exact z.elim |skip
  obtain⟨a,C,rfl,ea,q5,hq⟩:=z
  cases r with
  |cons r1 r2=>
    cases r2 with
    |cons r3 r4=>
      cases r4;cases r1;rename_i u1 _;obtain ⟨nm, qn, N, bs, bm, sn, sub, ab, col, dd, k0, k1, k2, k3, k5, Y, lk⟩ := zjU I3.kIn q5;obtain ⟨oe, ws, t0, e1, e2, e3, e4, e5, e6, e7⟩ := zjg I3.hok ea;obtain ⟨hh, g, d, t, os⟩ := s3;refine ztO PySem.F.excBase_ValueError Y.tail Y.obj e1 e2 e4 e6 (by show 1 <= sizeLine; rw [sizeLine_eq]; decide) ?_;have e8 := Heap.get?_push_of_some (h := hh) { cls := .type "tuple", data := .seq [u1].toArray } e1;have e9 := Heap.get?_update_self (Obj.mapFields (·.setIfInBounds 0 (.ref hh.objs.size))) e8 (Obj.isFreed_of_fields (Obj.data_mapFields e4 _));have I4 := I3.write (x := a) (e := a) (o := xo a C none true) (t' := t) (by rw [ea]; exact True.intro) (.inl rfl) (fun b u nb hb => (Heap.get?_update_other _ _ (Ne.symm nb)).trans (Heap.get?_push_of_some _ hb)) ⟨_, e9⟩ (zlW ⟨_, _, hh.objs.size, e9, (Obj.cls_mapFields _ _).trans e2, (by
        obtain⟨_,_,od,_⟩:=oe;dsimp only at e4;subst e4;exact e3),Obj.data_mapFields e4 _,by simp[e5],by simp[e5],fun z=>by rw[Array.getElem?_setIfInBounds_ne (by decide)];exact e7 z⟩)
      rw[zol ea]at I4;exact⟨.non,H3,I4,rfl,hq⟩
def sXat (K:Fgx)(f:Str)(ta tv:TE):TS:=fun D σ H=>tv σ H fun y H1=>ta σ H1 fun x H2=>∃a C b,x=.ref a/\H2 a=some (xo a C none b)/\xcIn K C=true/\zf9 K C f=true/\
 ∀dx,H2 dx=none->dx≠a->D.nx σ (upd (upd H2 dx (.xd [(f,y)])) a (xo a C (some dx) b))
theorem zof (ha:PE X o ta)(hv:PE X value tv)(hs:swapsWith value (some (.Attribute o f pos')) pos.line X.env=pure false):PS X (.Assign [.Attribute o f pos'] value pos) (sXat X.K f ta tv):=by
  intro pins s σ H D I h;refine plainObj_wpAny_Assign_Attribute (thn (hv pins s σ H _ I h) fun u s1 ⟨y,H1,I1,ry,q⟩=>thn (ha pins s1 σ H1 _ I1 q) fun ov s2 ⟨x,H2,I2,rx,a,C,b,ex,ea,q1,q2,k⟩=>?_) hs;subst ex;obtain rfl:ov=Value.ref a:=rx;obtain⟨oe,vs,t,e1,e2,e3,e4,e5,e6,e7⟩:=zjg I2.hok ea;refine zvS I2.kIn q1 q2 e1 e2 e3 e4 fun h' tk kp hx hn=>?_;have hd:H2 s2.heap.objs.size=none:=I2.hok.fresh (Nat.le_refl _);have nd:s2.heap.objs.size≠a:=Nat.ne_of_gt (Heap.lt_size e1);refine⟨σ,_,?_,k _ hd nd⟩;have ext:∀c u,H2 c=some u->(∀φ,u≠ .ext φ)->c≠a:=fun c u q m r=>by
    rw[r,ea]at q;exact m _ (Option.some.inj q).symm
  have up:∀c u,c≠a->H2 c=some u->(upd (upd H2 s2.heap.objs.size (.xd [(f,y)])) a (xo a C (some s2.heap.objs.size) b)) c=some u:=fun c u n q=>by
    rw[zak n,zak (zap q hd)];exact q
  refine I2.un ⟨fun c o q n _ _=>kp c o (fun z=>by rw[z,ea]at n;cases n) q,fun c o q n _ _=>⟨o.slots,kp c o (fun z=>by rw[z,ea]at n;cases n) q⟩,fun c o q n _=>?_,fun c o q _=>?_,
    fun c xs q=>up c _ (ext c _ q (by intro _ z;cases z)) q,fun c o xs q=>up c _ (ext c _ q (by intro _ z;cases z)) q,fun c ps q=>⟨#[],by rw[up c _ (ext c _ q (by intro _ z;cases z)) q];simp⟩⟩ fun c u q=>?_
  · rw[zak (fun z=>by rw[z,ea]at n;cases n),zak (Nat.ne_of_lt (Heap.lt_size q))];exact n
  · by_cases ca:c=a
    · rw[ca];exact⟨_,hx⟩
    · exact⟨o,kp c o ca q⟩
  · by_cases ca:c=a
    · subst ca;rw[zar]at q;cases q;exact zlW ⟨_,vs,t,hx,e2,rfl,e4,e5,e6,e7⟩
    · rw[zak ca]at q
      by_cases cd:c=s2.heap.objs.size
      · rw[cd,zar]at q;cases q;rw[cd];refine⟨_,hn,fun g=>?_⟩
        by_cases gf:g=f
        · subst gf;simp only[List.lookup,beq_self_eq_true,if_true];exact ry
        · have gb:(g==f)=false:=beq_eq_false_iff_ne.mpr gf;simp only[List.lookup,gb,if_neg gf]
          trivial
      · rw [zak cd] at q;exact (I2.hok c u q).stay (fun d v hdv r => kp d v (by
          rcases hdv with rfl |z
          · exact ca
          · exact ext d _ z (by intro _ z;cases z)) r) (fun d r=>up d _ (ext d _ r (by intro _ z;cases z)) r) fun d xs r=>up d _ (ext d _ r (by intro _ z;cases z)) r
def zi4 (K : Fgx) (C : Addr) : Bool := zkV K C && (PySem.W.hasDictIn K C && (PySem.W.findIn K (.ref C) "__class__"==some (some (.builtin "object.__class__")) &&
 (PySem.W.specialIn K (.builtin "object.__class__") "__get__"==some (some (.builtin "getset_descriptor.__get__")) && (PySem.W.takesIn K (.builtin "object.__class__")==some true && PySem.W.mroIn K C (.type "object")==some true))))
end
section
variable {X:Cx}{pins:Pnx}{σ:St}{H:Hp}{s:Shared}
structure Caught (X:Cx)(pins:Pnx)(σ:St)(H:Hp)(s:Shared)(a C:Addr)(dx:Option Addr)(T:Addr):Prop where
 inv:Inv X pins σ H s
 obj:H a=some (xo a C dx false)
 fl:zp5 s.heap a T
 hT:H T=none
 t1:X.s₀.heap.objs.size<=T
 t2:T≠X.env.locals
 t3:∀x c,X.env.cells.lookup x=some c->c≠T
 t4:∀p∈X.pn ++ pins,p.1≠T
theorem zhH (I:Inv X pins σ H s)(h:s.heap.objs.size<=T):X.s₀.heap.objs.size<=T/\T≠X.env.locals/\(∀x c,X.env.cells.lookup x=some c->c≠T)/\∀p∈X.pn ++ pins,p.1≠T:=by
 refine⟨Nat.le_trans I.sz h,Nat.ne_of_gt (Nat.lt_of_lt_of_le I.lt h),fun x c e=>?_,fun p hp=>?_⟩
 ·obtain⟨v,o,ho,_⟩:=I.cell x c e;exact Nat.ne_of_lt (Nat.lt_of_lt_of_le (Heap.lt_size ho) h)
 ·exact Nat.ne_of_lt (Nat.lt_of_lt_of_le (Heap.lt_size (I.pin p hp).1) h)
theorem ziw (I:Inv X pins σ H s)(h:CX1 X.prog X.w X.stack H s E e s'):∃a C dx H' T,e=.ref a/\Caught X pins σ H' s' a C dx T/\E (.ref C) dx H':=by
 obtain⟨a,C,dx,H',T,rfl,os,bare,un,hok,ha,hT,hz,fl,hE⟩:=h;have I2:=I.call' os un hok bare (fun b z=>nomatch z)
 obtain⟨z1,z2,z3,z4⟩:=zhH I hz;exact⟨a,C,dx,H',T,rfl,⟨I2,ha,fl,hT,z1,z2,z3,z4⟩,hE⟩
variable {a C T:Addr}{dx:Option Addr}{Q:Unit->Shared->Prop}{E:Value->Shared->Prop}{M:Model}
theorem Caught.note (c:Caught X pins σ H s a C dx T)(hs:X.stack=X.env::X.outer)(hf:X.env.frame=some X.env.locals)(k:∀s' T',Caught X pins σ H s' a C dx T'->Q () s'):
  wpAny M X.A (noteFrame (.ref a) X.env) (fun _ s2=>wpAny M X.A (setFlight (.ref a) none) Q E s2) E s:=by
 obtain ⟨oe, vs, t, e1, e2, e3, e4, e5, e6, _⟩ := zjg c.inv.hok c.obj;obtain ⟨oe', vs', oT, ts, f1, f2, f3, f4, f5, f6, f7⟩ := c.fl;rw [e1] at f1;cases f1;rw [e4] at f2;cases f2;have fr := c.inv.ok.frames;have st := c.inv.stack;rw [hs] at fr st;refine zln fr st hf e1 e4 f3 f4 f5 f6 f7 fun h' T' N => zf4 (s := { s with heap := h' }) N e1 e4 (by omega) fun h2 N2 => k _ T' ?_;have hx : ∃ vs t, oe.cls = .ref C /\ oe.dict = dx /\ oe.data = .fields vs /\ vs.size = 6 /\ vs[0]? = some (.ref t) := ⟨vs, t, e2, e3, e4, e5, e6⟩;rw [<- hs] at N2;have u := zkh (ch := [T]) N2 c.obj (.inr (List.mem_singleton.mpr rfl));have hk := ziW c.inv.hok N2 c.obj (.inr c.hT) (fun b hb => c.inv.stkFree b hb) hx;rw [zol c.obj] at u hk;have I2 : Inv X pins σ H { s with heap := h2 } := c.inv.call' (s' := { s with heap := h2 }) rfl u hk c.inv.bare (fun b hb=>by
  rw[List.mem_singleton.mp hb];exact⟨.inr c.t1,c.t2,c.t3,c.t4⟩)
 obtain⟨z1,z2,z3,z4⟩:=zhH c.inv N2.new;exact⟨I2,c.obj,zhc N2 e1 e4 e5,c.inv.hok.fresh N2.new,z1,z2,z3,z4⟩
theorem Caught.off (c:Caught X pins σ H s a C dx T)(k:∀s',Caught X pins σ H s' a C dx T->Q () s'):wpAny M A (setFlight (.ref a) none) Q E s:=by
 obtain⟨oe,vs,oT,ts,f1,f2,f3,f4,f5,f6,f7⟩:=c.fl;have z3:3<ts.size:=(Array.getElem?_eq_some_iff.mp f7).1;refine zhy f1 f2 f3 f5 f6 z3 (k _ ?_);have kp:∀b o,b≠T->s.heap.get? b=some o->(s.heap.update T (Obj.mapFields (·.setIfInBounds 3 .none))).get? b=some o:=fun b o n e=>(Heap.get?_update_other _ _ (Ne.symm n)).trans e;have I2:=c.inv.turned (t':=s.toks) kp c.hT c.t2 (.inr c.t1) c.t3 c.t4;exact⟨I2,c.obj,⟨oe,vs,_,_,kp a oe (Ne.symm f4) f1,f2,f3,f4,Heap.get?_update_self _ f5 (Obj.isFreed_of_fields (Obj.data_mapFields f6 _)),Obj.data_mapFields f6 _,by simp[z3]⟩,c.hT,c.t1,c.t2,c.t3,c.t4⟩
end
abbrev Cx.pin (X:Cx)(pins:Pnx)(E:Value->Shared->Prop):Cx:={X with pn:=X.pn ++ pins,xe:=E}
abbrev Cx.suite (X:Cx)(e:Value):Cx:={X with A:=X.A.mark (some e),calm:=false,xe:=fun _ _=>False}
section
variable {X:Cx}{pins ps:Pnx}{σ:St}{H:Hp}{s:Shared}{E:Value->Shared->Prop}{e:Value}
theorem Inv.to_pin (I:Inv X pins σ H s)(E:Value->Shared->Prop):Inv (X.pin pins E) [] σ H s:=
  ⟨⟨I.ok.mod,I.ok.kind,I.ok.glob,I.ok.blt,I.ok.above,I.ok.inj,I.ok.has,I.ok.cab,I.ok.hd,I.ok.frames,I.ok.stk,I.ok.exf,I.ok.bs,I.ok.bsz,I.ok.noex,I.ok.exfs,I.ok.funs,I.ok.frf⟩,I.os,I.bare,I.base,I.loc,I.cell,I.free,I.freeC,
    fun p hp=>I.pin p (by simpa using hp),I.hok,I.len⟩
theorem Inv.of_pin (I:Inv (X.pin pins E) ps σ H s):Inv X pins σ H s:=
  ⟨⟨I.ok.mod,I.ok.kind,I.ok.glob,I.ok.blt,I.ok.above,I.ok.inj,I.ok.has,I.ok.cab,I.ok.hd,I.ok.frames,I.ok.stk,I.ok.exf,I.ok.bs,I.ok.bsz,I.ok.noex,I.ok.exfs,I.ok.funs,I.ok.frf⟩,I.os,I.bare,I.base,I.loc,I.cell,I.free,I.freeC,
    fun p hp=>I.pin p (List.mem_append_left _ hp),I.hok,I.len⟩
theorem Inv.to_suite (I:Inv X pins σ H s)(e:Value):Inv (X.suite e) pins σ H s:=
 ⟨⟨I.ok.mod,I.ok.kind,I.ok.glob,I.ok.blt,I.ok.above,I.ok.inj,I.ok.has,I.ok.cab,(fun z=>by cases z),I.ok.frames,I.ok.stk,I.ok.exf,I.ok.bs,I.ok.bsz,I.ok.noex,I.ok.exfs,I.ok.funs,I.ok.frf⟩,I.os,I.bare,I.base,I.loc,I.cell,I.free,I.freeC,I.pin,I.hok,I.len⟩
theorem Inv.of_suite (I:Inv (X.suite e) pins σ H s)(hd:X.A.handled=none):Inv X pins σ H s:=
 ⟨⟨I.ok.mod,I.ok.kind,I.ok.glob,I.ok.blt,I.ok.above,I.ok.inj,I.ok.has,I.ok.cab,fun _=>hd,I.ok.frames,I.ok.stk,I.ok.exf,I.ok.bs,I.ok.bsz,I.ok.noex,I.ok.exfs,I.ok.funs,I.ok.frf⟩,I.os,I.bare,I.base,I.loc,I.cell,I.free,I.freeC,I.pin,I.hok,I.len⟩
end
def zjP (K:Fgx)(C c:Addr):Bool:=match K.lookup C with
 |some ⟨_,_,.cls cd,_⟩=>cd.mro.contains (.ref c)
 |_=>false
theorem zn7 {X:Cx}{CX:CXT}{k:Nat}{f:Addr}{fd:FuncData}{ps:List Str}{sp:Sp}{dvs:List V}{ds:List Value}{x:Str}{p pos:Pos}{e:Expr}{es:List Expr}{t:TA}{Ex:St->XK}(F:FnOk X.prog X.w X.K X.mg X.base CX k f fd ps sp)(hr:Room k X.A)(hg:Gl X x)
    (hm:X.mg x=some (.ref f)) (hk:PySem.W.keepIn X.K (.ref f)=true) (hb:Binds X.K fd ps ds) (hd:Vals dvs ds) (hx:∀pins σ H s e s',Inv X pins σ H s->CX X.stack H s (Ex σ) e s'->X.xe e s') (ha:PA X (e::es) t)
    (hdb:(x==("__debug__":Str))=false) (he:starEach (e::es) X.env=(false,eval e X.env)::starEach es X.env) (hpl:(backTo pos (starEach es X.env)).any (·.1)=false):
    PE X (.Call (.Name x p) (e::es) [] pos) (fun σ H Q=>t σ H fun vs H1=>sp (vs ++ dvs) H1 Q (Ex σ)):=by
  intro pins s σ H Q I h;refine wpAny_Call_Name_kw (zda I hg hm ?_ hdb);refine PySem.W.callWith_K (h₀:=X.base) I.ok.mod.kin hk (thn (ha pos pins s σ H _ I h) fun us s1 ⟨vs,H1,I1,r,q⟩=>⟨I1.kIn,?_⟩) he hpl;have r2:Vals (vs ++ dvs) (us ++ ds):=r.append hd;have hl:(us ++ ds).length=ps.length:=by rw[<-r2.length];exact F.len _ _ _ _ q
  refine wpAny_call (codeAny_mono (F.run X.A X.stack s1 H1 ⟨us,[]⟩ (us ++ ds) (vs ++ dvs) Q (Ex σ) hr I1.env0 (hb s1 us I1.kIn hl) r2 q) fun rr s' hq=>?_)
  cases rr with
  |error e=>exact hx pins σ H1 s1 e s' I1 hq
  |ok fl=>
    cases fl with
    |ret u=>exact I1.after hq
    |next=>exact False.elim hq
    |brk=>exact False.elim hq
    |cont=>exact False.elim hq
theorem ns_none_of {K:Fgx}{h:Heap}{N:Addr}{mg:Mgx}{n:Str}(X:K.In h)(G:h.Ns N mg)(e:PySem.W.nsIn K N n=some none):mg n=none:=by
 obtain⟨o,es,ep,ho,hd,_,hf⟩:=G;unfold PySem.W.nsIn at e;split at e
 ·rename_i q;have z:=X _ _ q;rw[ho]at z;cases z;cases hd;split at e
  ·cases e
  ·rename_i he;rw[<-hf];unfold nsFind findBy;rw[<-Array.find?_toList,he];rfl
 ·cases e
section
variable {X:Cx}
def tpC (C:Addr)(Q:VK)(vs:List V)(H:Hp):Prop:=vs.length=1/\∀a,H a=none->Q (.ref a) (upd H a (xo a C none true))
def ztN (C:Addr)(te:TE):TE:=fun σ H Q=>te σ H fun v H1=>tpC C Q [v] H1
theorem znL {C:Addr}{x:Str}{p pos:Pos}{e:Expr}{te:TE}(q1:xcIn X.K C=true)(q2:zlJ X.K C=true)(kp:PySem.W.keepIn X.K (.ref C)=true)(hg:Gl X x)(hm:X.mg x=some (.ref C))(he:PE X e te)(hdb:(x==("__debug__":Str))=false)
  (hs:starEach [e] X.env=[(false,eval e X.env)]):PE X (.Call (.Name x p) [e] [] pos) (ztN C te):=by
 intro pins s σ H Q I h;refine wpAny_Call_Name_kw (zda I hg hm ?_ hdb);refine PySem.W.callWith_K (h₀:=X.base) I.ok.mod.kin kp (thn (zdy he zfX hs pos pins s σ H (tpC C Q) I h) fun us s1 ⟨vs,H1,I1,r,q⟩=>⟨I1.kIn,?_⟩) hs rfl;obtain⟨nm,qn,N,bs,bm,sn,sub,ab,col,dd,k0,k1,k2,k3,k5,Y,lk⟩:=zjU I1.kIn q1;unfold zlJ at q2;rw[lk]at q2;simp only[beq_iff_eq]at q2;have c3:=ns_none_of I1.kIn Y.ns q2;have hl:us.length=1:=by
  rw[<-r.length,q.1]
 obtain⟨hh,g,d,t,os⟩:=s1;refine wpAny_call_exc_subU PySem.F.excBase_ValueError (by x_go) PySem.F.excBase_ValueError Y.tail Y.obj Y.ns c3 (fun h' a M=>?_) (by show us.length<=sizeLine;rw[hl,sizeLine_eq];decide);obtain⟨t0,m1,_,_⟩:=M.there;obtain⟨hn,I2⟩:=I1.laidN (a:=a) (o:=xo a C none true) (t':=t) M.keeps M.new (zlW ⟨_,_,t0,m1,rfl,rfl,rfl,rfl,rfl,fun _=>rfl⟩);exact⟨V.ref a,_,I2,rfl,q.2 a hn⟩
end
end L2
namespace E3
open PySem PySem.Spec PyProof.Rows L2
inductive D where
 |non |bl (b:Bool) |int (i:Int) |str (s:Str) |tup (xs:List D) |lst (xs:List D) |ref (n:Nat)
inductive Cl where
 |lst (ds:List D) |obj (c:Str) (fs:List (Str×D)) |dct (kvs:List (L2.Key×D))
abbrev Mm:=List Cl
inductive Slot where
 |un |val (d:D) |own (ds:List D) |exc (c:Str) (n:Int)
abbrev Env:=List Slot
mutual
def D.lf:D->Bool
 |.tup xs=>D.lfs xs
 |.lst _=>false
 |.ref _=>false
 |_=>true
def D.lfs:List D->Bool
 | []=>true
 |a::as=>D.lf a && D.lfs as
end
def KL (K:Fgx)(a:Addr)(vs:List V):Prop:=∃(o:Obj) (its:Array Value) (n:Nat),K.lookup a=some o/\o.cls=.type "list"/\o.dict=none/\o.data=.seq its n/\its.size<=sizeLine/\Vals vs its.toList
structure Pl where
 io:Nat->Addr
 n:Nat
 bd:Addr->Prop
def RdA (K:Fgx)(P:Pl)(H:Hp)(a:Addr)(vs:List V):Prop:=(¬ P.bd a/\Rd H a (.lst vs))\/KL K a vs
def RdK (K:Fgx)(P:Pl)(H:Hp)(a:Addr)(vs:List V):Prop:=((∀k,k<P.n->P.io k≠a)/\Rd H a (.lst vs))\/KL K a vs
mutual
def Is (K:Fgx)(P:Pl)(H:Hp):D->V->Prop
 |.non,v=>v=.non
 |.bl b,v=>v=.bl b
 |.int i,v=>v=.int i
 |.str s,v=>v=.str s
 |.tup ds,v=>∃a vs,v=.ref a/\SqT K H a vs/\Iss K P H ds vs
 |.lst ds,v=>∃a vs,v=.ref a/\RdA K P H a vs/\Iss K P H ds vs
 |.ref k,v=>k<P.n/\v=.ref (P.io k)
def Iss (K:Fgx)(P:Pl)(H:Hp):List D->List V->Prop
 | [],vs=>vs=[]
 |d::ds,vs=>∃v r,vs=v::r/\Is K P H d v/\Iss K P H ds r
end
def Fx (o:HO):Prop:=(∃xs,o=.tup xs)\/(∃u w,o=.frz u w)\/(∃g,o=.ext g)\/∃fs,o=.xd fs
structure Lt (P:Pl)(H:Hp)(P':Pl)(H':Hp):Prop where
 n:P.n<=P'.n
 io:∀k,k<P.n->P'.io k=P.io k
 bd:∀a,P'.bd a->P.bd a\/H a=none
 keep:∀a o,H a=some o->(Fx o\/¬ P.bd a)->H' a=some o
 sure:∀a,H' a=none->H a=none
section
variable {K:Fgx}{P P' P'':Pl}{H H' H'':Hp}
theorem Lt.refl (P:Pl)(H:Hp):Lt P H P H:=⟨Nat.le_refl _,fun _ _=>rfl,fun _ z=>.inl z,fun _ _ e _=>e,fun _ z=>z⟩
theorem Lt.not (l:Lt P H P' H')(e:H a=some o)(n:¬ P.bd a):¬ P'.bd a:=fun z=>(l.bd a z).elim n fun z=>by rw[e]at z;cases z
theorem Lt.trans (l:Lt P H P' H')(m:Lt P' H' P'' H''):Lt P H P'' H'' where
 n:=Nat.le_trans l.n m.n
 io:=fun k h=>(m.io k (Nat.lt_of_lt_of_le h l.n)).trans (l.io k h)
 bd:=fun a z=>(m.bd a z).elim (l.bd a) fun z=>.inr (l.sure a z)
 keep:=fun a o e h=>m.keep a o (l.keep a o e h) (h.imp id fun n=>l.not e n)
 sure:=fun a z=>l.sure a (m.sure a z)
theorem Lt.rd (l:Lt P H P' H')(n:¬ P.bd a)(h:Rd H a (.lst xs)):Rd H' a (.lst xs):=by
 rcases h with h |⟨o,h⟩
 ·exact .inl (l.keep _ _ h (.inr n))
 ·exact .inr ⟨o,l.keep _ _ h (.inr n)⟩
theorem zlB (h:Rd H a o):∃o',H a=some o':=h.elim (fun h=>⟨_,h⟩) fun⟨_,h⟩=>⟨_,h⟩
theorem Lt.rda (l:Lt P H P' H')(h:RdA K P H a xs):RdA K P' H' a xs:=h.imp (fun⟨n,h⟩=>⟨by obtain⟨o,e⟩:=zlB h;exact l.not e n,l.rd n h⟩) id
theorem Lt.tup (l:Lt P H P' H')(h:SqT K H a xs):SqT K H' a xs:=by
 rcases h with(h |⟨o,h⟩) |h
 ·exact .inl (.inl (l.keep _ _ h (.inl (.inl ⟨_,rfl⟩))))
 ·exact .inl (.inr ⟨o,l.keep _ _ h (.inl (.inr (.inl ⟨_,_,rfl⟩)))⟩)
 ·exact .inr h
mutual
theorem Is.lt (l:Lt P H P' H'):∀{d:D} {v:V},Is K P H d v->Is K P' H' d v
  |.non,_,h=>h
  |.bl _,_,h=>h
  |.int _,_,h=>h
  |.str _,_,h=>h
  |.tup ds,_,h=>by
    obtain⟨a,vs,e,s,r⟩:=h;exact⟨a,vs,e,l.tup s,Iss.lt l r⟩
  |.lst ds,_,h=>by
    obtain⟨a,vs,e,s,r⟩:=h;exact⟨a,vs,e,l.rda s,Iss.lt l r⟩
  |.ref k,_,h=>⟨Nat.lt_of_lt_of_le h.1 l.n,by rw[l.io k h.1];exact h.2⟩
theorem Iss.lt (l:Lt P H P' H'):∀{ds:List D} {vs:List V},Iss K P H ds vs->Iss K P' H' ds vs
  | [],_,h=>h
  |_::_,_,h=>by
    obtain⟨v,r,e,p,q⟩:=h;exact⟨v,r,e,Is.lt l p,Iss.lt l q⟩
end
def Pl.less (P:Pl)(B:Addr->Prop):Pl:={P with bd:=fun a=>P.bd a/\B a}
mutual
theorem Is.less:∀{d:D} {v:V},Is K P H d v->Is K (P.less B) H d v
  |.non,_,h=>h
  |.bl _,_,h=>h
  |.int _,_,h=>h
  |.str _,_,h=>h
  |.tup ds,_,h=>by
    obtain⟨a,vs,e,s,r⟩:=h;exact⟨a,vs,e,s,Iss.less r⟩
  |.lst ds,_,h=>by
    obtain⟨a,vs,e,s,r⟩:=h;exact⟨a,vs,e,s.imp (fun⟨n,h⟩=>⟨fun z=>n z.1,h⟩) id,Iss.less r⟩
  |.ref k,_,h=>h
theorem Iss.less:∀{ds:List D} {vs:List V},Iss K P H ds vs->Iss K (P.less B) H ds vs
  | [],_,h=>h
  |_::_,_,h=>by
    obtain⟨v,r,e,p,q⟩:=h;exact⟨v,r,e,Is.less p,Iss.less q⟩
end
mutual
theorem Is.free (P':Pl):∀{d:D} {v:V},d.lf=true->Is K P H d v->Is K P' H d v
  |.non,_,_,h=>h
  |.bl _,_,_,h=>h
  |.int _,_,_,h=>h
  |.str _,_,_,h=>h
  |.tup ds,_,l,h=>by
    obtain⟨a,vs,e,s,r⟩:=h;exact⟨a,vs,e,s,Iss.free P' (by simpa only[D.lf] using l) r⟩
  |.lst _,_,l,_=>by simp[D.lf]at l
  |.ref _,_,l,_=>by simp[D.lf]at l
theorem Iss.free (P':Pl):∀{ds:List D} {vs:List V},D.lfs ds=true->Iss K P H ds vs->Iss K P' H ds vs
  | [],_,_,h=>h
  |_::_,_,l,h=>by
    obtain⟨v,r,e,p,q⟩:=h;simp only[D.lfs,Bool.and_eq_true]at l;exact⟨v,r,e,Is.free P' l.1 p,Iss.free P' l.2 q⟩
end
theorem Iss.len:∀{ds:List D} {vs:List V},Iss K P H ds vs->vs.length=ds.length
  | [],_,h=>by rw[show _=[] from h];rfl
  |d::ds,_,h=>by
    obtain⟨v,r,e,_,q⟩:=h;subst e
    simp[Iss.len q]
theorem Iss.get:∀{ds:List D} {vs:List V} {i:Nat} {d:D},Iss K P H ds vs->ds[i]? =some d->∃v,vs[i]? =some v/\Is K P H d v
  | [],_,_,_,_,e=>by simp at e
  |d::ds,_,0,_,h,e=>by
    obtain⟨v,r,e',p,_⟩:=h
    simp at e
    subst e e';exact⟨v,rfl,p⟩
  |d::ds,_,i + 1,_,h,e=>by
    obtain⟨v,r,e',_,q⟩:=h;subst e'
    simpa using Iss.get (i:=i) q (by simpa using e)
theorem Iss.append:∀{ds es:List D} {vs ws:List V},Iss K P H ds vs->Iss K P H es ws->Iss K P H (ds ++ es) (vs ++ ws)
  | [],_,_,_,h,q=>by rw[show _=[] from h];exact q
  |d::ds,_,_,_,h,q=>by
    obtain⟨v,r,e,p,h⟩:=h;subst e;exact⟨v,r ++ _,rfl,p,Iss.append h q⟩
theorem Iss.take:∀{ds:List D} {vs:List V} (n:Nat),Iss K P H ds vs->Iss K P H (ds.take n) (vs.take n)
  |_,_,0,_=>rfl
  | [],_,n + 1,h=>by rw[show _=[] from h];rfl
  |d::ds,_,n + 1,h=>by
    obtain⟨v,r,e,p,h⟩:=h;subst e;exact⟨v,_,rfl,p,Iss.take n h⟩
theorem Iss.drop:∀{ds:List D} {vs:List V} (n:Nat),Iss K P H ds vs->Iss K P H (ds.drop n) (vs.drop n)
  |_,_,0,h=>h
  | [],_,n + 1,h=>by rw[show _=[] from h];rfl
  |d::ds,_,n + 1,h=>by
    obtain⟨v,r,e,p,h⟩:=h;subst e;exact Iss.drop n h
theorem Iss.one (h:Is K P H d v):Iss K P H [d] [v]:=⟨v,[],rfl,h,rfl⟩
theorem Iss.set:∀{ds:List D} {vs:List V} {d:D} {v:V} (n:Nat),Iss K P H ds vs->Is K P H d v->Iss K P H (ds.set n d) (vs.set n v)
  | [],_,_,_,_,h,_=>by rw[show _=[] from h];rfl
  |d::ds,_,_,_,0,h,p=>by
    obtain⟨v,r,e,_,h⟩:=h;subst e;exact⟨_,r,rfl,p,h⟩
  |d::ds,_,_,_,n + 1,h,p=>by
    obtain⟨v,r,e,q,h⟩:=h;subst e;exact⟨v,_,rfl,q,Iss.set n h p⟩
end
def zgo (K:Fgx)(mg:Mgx)(P:Pl)(H:Hp)(a:Addr):Cl->Prop
 |.lst ds=>∃vs,H a=some (.lst vs)/\Iss K P H ds vs
 |.obj c fs=>∃C dx gs,mg c=some (.ref C)/\H a=some (.ins C dx gs)/\gs.map (·.1)=fs.map (·.1)/\Iss K P H (fs.map (·.2)) (gs.map (·.2))
 |.dct kvs=>∃vs:List (L2.Key×V),H a=some (.dK vs)/\vs.map (·.1)=kvs.map (·.1)/\Iss K P H (kvs.map (·.2)) (vs.map (·.2))
structure Hk (K:Fgx)(mg:Mgx)(P:Pl)(H:Hp)(M:Mm):Prop where
 n:P.n=M.length
 cell:∀(k:Nat) c,M[k]? =some c->zgo K mg P H (P.io k) c
 inj:∀j k,j<P.n->k<P.n->P.io j=P.io k->j=k
 bd:∀k,k<P.n->P.bd (P.io k)
 here:∀a,P.bd a->H a≠none
structure LtE (P:Pl)(H:Hp)(P':Pl)(H':Hp):Prop where
 n:P.n<=P'.n
 io:∀k,k<P.n->P'.io k=P.io k
 bd:∀a,P'.bd a->P.bd a\/H a=none
 bm:∀a,P.bd a->P'.bd a
 keep:∀a o,H a=some o->(∀k,k<P.n->P.io k≠a)->H' a=some o
 sure:∀a,H' a=none->H a=none
 nw:∀k,P.n<=k->k<P'.n->H (P'.io k)=none
section
variable {K:Fgx}{mg:Mgx}{P P' P'':Pl}{H H' H'':Hp}{M M':Mm}
theorem LtE.refl (P:Pl)(H:Hp):LtE P H P H:=⟨Nat.le_refl _,fun _ _=>rfl,fun _ z=>.inl z,fun _ z=>z,fun _ _ e _=>e,fun _ z=>z,fun k h1 h2=>absurd h1 (Nat.not_le.mpr h2)⟩
theorem LtE.same (s:Same H H'):LtE P H P H':=⟨Nat.le_refl _,fun _ _=>rfl,fun _ z=>.inl z,fun _ z=>z,fun a o e _=>s a o e,fun a z=>s.free z,fun k h1 h2=>absurd h1 (Nat.not_le.mpr h2)⟩
theorem Hk.cellAt (h:Hk K mg P H M)(hk:k<P.n):∃o,H (P.io k)=some o/\¬ Fx o:=by
  obtain⟨c,hc⟩:∃c,M[k]? =some c:=⟨_,List.getElem?_eq_getElem (by rw[<-h.n];exact hk)⟩;have:=h.cell k c hc
  cases c with
  |lst ds=>
    obtain⟨vs,e,_⟩:=this;exact⟨_,e,fun z=>by rcases z with⟨_,z⟩ |⟨_,_,z⟩ |⟨_,z⟩ |⟨_,z⟩<;>cases z⟩
  |obj c fs=>
    obtain⟨C,dx,gs,_,e,_⟩:=this;exact⟨_,e,fun z=>by rcases z with⟨_,z⟩ |⟨_,_,z⟩ |⟨_,z⟩ |⟨_,z⟩<;>cases z⟩
  |dct kvs=>
    obtain⟨vs,e,_⟩:=this;exact⟨_,e,fun z=>by rcases z with⟨_,z⟩ |⟨_,_,z⟩ |⟨_,z⟩ |⟨_,z⟩<;>cases z⟩
theorem LtE.lt (l:LtE P H P' H')(h:Hk K mg P H M):Lt P H P' H' where
 n:=l.n
 io:=l.io
 bd:=l.bd
 sure:=l.sure
 keep:=fun a o e z=>l.keep a o e fun k hk q=>by
  subst q;rcases z with z |z
  ·obtain⟨o',e',nf⟩:=h.cellAt hk;rw[e]at e';cases e';exact nf z
  ·exact z (h.bd k hk)
theorem LtE.trans (l:LtE P H P' H')(m:LtE P' H' P'' H''):LtE P H P'' H'' where
 n:=Nat.le_trans l.n m.n
 io:=fun k h=>(m.io k (Nat.lt_of_lt_of_le h l.n)).trans (l.io k h)
 bd:=fun a z=>(m.bd a z).elim (l.bd a) fun z=>.inr (l.sure a z)
 bm:=fun a z=>m.bm a (l.bm a z)
 keep:=fun a o e h=>m.keep a o (l.keep a o e h) fun k hk q=>by
  rcases Nat.lt_or_ge k P.n with z |z
  ·rw[l.io k z]at q;exact h k z q
  ·rw[<-q,l.nw k z hk]at e;cases e
 sure:=fun a z=>l.sure a (m.sure a z)
 nw:=fun k h1 h2=>by
  rcases Nat.lt_or_ge k P'.n with z |z
  ·rw[m.io k z];exact l.nw k h1 z
  ·exact l.sure _ (m.nw k z h2)
end
inductive Cp where
 |eq |ne |lt |le |gt |ge |isin |notin |same |other
mutual
def D.eq:D->D->Bool
 |.non,.non=>true
 |.bl a,.bl b=>a==b
 |.bl a,.int b=>(if a then 1 else 0)==b
 |.int a,.bl b=>a==(if b then 1 else 0)
 |.int a,.int b=>a==b
 |.str a,.str b=>a==b
 |.tup a,.tup b=>D.eqs a b
 |.lst a,.lst b=>D.eqs a b
 |.ref a,.ref b=>a==b
 |_,_=>false
def D.eqs:List D->List D->Bool
 | [],[]=>true
 |a::as,b::bs=>D.eq a b && D.eqs as bs
 |_,_=>false
end
mutual
def D.dep:D->Nat
 |.tup xs=>D.deps xs + 1
 |.lst xs=>D.deps xs + 1
 |.ref _=>101
 |_=>0
def D.deps:List D->Nat
 | []=>0
 |a::as=>max (D.dep a) (D.deps as)
end
def D.flat:D->Bool
 |.tup _=>false
 |.lst _=>false
 |.ref _=>false
 |_=>true
def zgU (i j:Str):Bool:= !(Builtin.Str.occurrences j i 0 j.length 1).isEmpty
def eqOk (a b:D):Bool:=a.flat==b.flat && decide (b.dep<=50)
def cEq (a b:D):Option Bool:=if eqOk a b=true/\a.dep<=50 then some (D.eq a b) else none
def cNe (a b:D):Option Bool:=if eqOk a b=true/\a.dep<=50 then some (!D.eq a b) else none
def cOrd (f:Int->Int->Bool)(a b:D):Option Bool:=match a with
 |.int i=>(match b with |.int j=>some (f i j) |_=>none)
 |_=>none
def cIn (a b:D):Option Bool:=match b with
 |.str j=>(match a with |.str i=>some (zgU i j) |_=>none)
 |.lst xs=>if (a.flat && xs.all D.flat)=true then some (xs.any fun y=>D.eq y a) else none
 |.tup xs=>if (a.flat && xs.all D.flat)=true then some (xs.any fun y=>D.eq y a) else none
 |_=>none
def cNin (a b:D):Option Bool:=match b with
 |.str j=>(match a with |.str i=>some (!zgU i j) |_=>none)
 |.lst xs=>if (a.flat && xs.all D.flat)=true then some (!xs.any fun y=>D.eq y a) else none
 |.tup xs=>if (a.flat && xs.all D.flat)=true then some (!xs.any fun y=>D.eq y a) else none
 |_=>none
def ziU (a b:D):Option Bool:=match b with
 |.bl b=>(match a with |.bl a=>some (a==b) |_=>some false)
 |.non=>(match a with |.non=>some true |_=>some false)
 |_=>none
def zfS (a b:D):Option Bool:=match b with
 |.bl b=>(match a with |.bl a=>some (!(a==b)) |_=>some true)
 |.non=>(match a with |.non=>some false |_=>some true)
 |_=>none
def cmpD (c:Cp)(a b:D):Option Bool:=match c with
 |.eq=>cEq a b
 |.ne=>cNe a b
 |.lt=>cOrd (fun i j=>decide (i<j)) a b
 |.le=>cOrd (fun i j=>decide (i<=j)) a b
 |.gt=>cOrd (fun i j=>decide (j<i)) a b
 |.ge=>cOrd (fun i j=>decide (j<=i)) a b
 |.isin=>cIn a b
 |.notin=>cNin a b
 |.same=>ziU a b
 |.other=>zfS a b
def IsB (K:Fgx)(P:Pl)(H:Hp):D->V->Prop
 |.lst ds,v=>∃a vs,v=.ref a/\RdK K P H a vs/\Iss K P H ds vs
 |d,v=>Is K P H d v
section
variable {X:Cx}{pins:Pnx}{σ:L2.St}{H:Hp}{s:Shared}
theorem zuy {K:Fgx}{P:Pl}{a:Addr}{xs:List V}(h:RdK K P H a xs):SqL K H a xs:=h.imp (·.2) id
def IsW (K:Fgx)(P:Pl)(H:Hp):D->V->Prop
 |.lst ds,v=>∃a vs,v=.ref a/\SqL K H a vs/\Iss K P H ds vs
 |d,v=>Is K P H d v
theorem IsB.w {K:Fgx}{P:Pl}{d:D}{v:V}(h:IsB K P H d v):IsW K P H d v:=by
 cases d<;>first |exact h |(obtain⟨a,vs,e,r,q⟩:=h;exact⟨a,vs,e,zuy r,q⟩)
theorem Is.w {K:Fgx}{P:Pl}{d:D}{v:V}(h:Is K P H d v):IsW K P H d v:=by
 cases d<;>first |exact h |(obtain⟨a,vs,e,r,q⟩:=h;exact⟨a,vs,e,r.imp (·.2) id,q⟩)
theorem sql (I:Inv X pins σ H s)(h:SqL X.K H l xs):xs.length<=sizeLine/\∃its:List Value,Vals xs its/\s.heap.IsList l its.toArray:=by
 obtain⟨its,r,p,z⟩:=I.list h;exact⟨z,its,r,p.isList⟩
mutual
theorem Is.inj (I:Inv X pins σ H s):∀(d e:D) (v:V),IsW X.K A H d v->IsW X.K B H e v->d.dep<=100->e.dep<=100->d=e
  |.ref _,e,v,h,h',hd,he=>by simp[D.dep]at hd
  |.non,e,v,h,h',hd,he=>by
    have hv:v=.non:=h;subst hv;cases e<;>first |(simp[D.dep]at he;done) |(simp[IsW,Is]at h'<;>rfl)
  |.bl b,e,v,h,h',hd,he=>by
    have hv:v=.bl b:=h;subst hv;cases e<;>first |(simp[D.dep]at he;done) |(simp[IsW,Is]at h'<;>simp[h'])
  |.int b,e,v,h,h',hd,he=>by
    have hv:v=.int b:=h;subst hv;cases e<;>first |(simp[D.dep]at he;done) |(simp[IsW,Is]at h'<;>simp[h'])
  |.str b,e,v,h,h',hd,he=>by
    have hv:v=.str b:=h;subst hv;cases e<;>first |(simp[D.dep]at he;done) |(simp[IsW,Is]at h'<;>simp[h'])
  |.tup ds,e,v,h,h',hd,he=>by
    simp only[D.dep]at hd;simp only[IsW,Is]at h;obtain⟨a,vs,rfl,t,r⟩:=h
    cases e with
    |tup es=>
      simp only[IsW,Is]at h';obtain⟨b,ws,e1,t',r'⟩:=h';cases e1;have e2:=I.tuple_inj t t';subst e2;simp only[D.dep]at he;rw[Iss.inj I ds es vs r r' (by omega) (by omega)]
    |lst es=>
      obtain⟨b,ws,e1,t',r'⟩:=h';cases e1;obtain⟨_,its,_,o2,e2,c2,_⟩:=sql I t';obtain⟨its2,_,⟨o,e3,c3,_⟩,_⟩:=I.tuple t;rw[e2]at e3;cases e3;rw[c2]at c3;exact absurd c3 (by simp)
    |ref _=>simp[D.dep]at he
    |_=>simp[IsW,Is]at h'
  |.lst ds,e,v,h,h',hd,he=>by
    simp only[D.dep]at hd;obtain⟨a,vs,rfl,t,r⟩:=h
    cases e with
    |lst es=>
      obtain⟨b,ws,e1,t',r'⟩:=h';cases e1;have e2:=I.list_inj (t) (t');subst e2;simp only[D.dep]at he;rw[Iss.inj I ds es vs r r' (by omega) (by omega)]
    |tup es=>
      simp only[IsW,Is]at h';obtain⟨b,ws,e1,t',r'⟩:=h';cases e1;obtain⟨_,its,_,o2,e2,c2,_⟩:=sql I t;obtain⟨its2,_,⟨o,e3,c3,_⟩,_⟩:=I.tuple t';rw[e2]at e3;cases e3;rw[c2]at c3;exact absurd c3 (by simp)
    |ref _=>simp[D.dep]at he
    |_=>simp[IsW,Is]at h'
theorem Iss.inj (I:Inv X pins σ H s):∀(ds es:List D) (vs:List V),Iss X.K A H ds vs->Iss X.K B H es vs->D.deps ds<=100->D.deps es<=100->ds=es
  | [],es,vs,h,h',hd,he=>by
    have hv:vs=[]:=h;subst hv
    cases es with
    |nil=>rfl
    |cons=>simp[Iss]at h'
  |d::ds,es,vs,h,h',hd,he=>by
    simp only[D.deps]at hd;obtain⟨v,r,rfl,p,q⟩:=h
    cases es with
    |nil=>simp[Iss]at h'
    |cons e es=>
      obtain⟨v',r',e1,p',q'⟩:=h';cases e1;simp only[D.deps]at he;rw[Is.inj I d e v p.w p'.w (by omega) (by omega),Iss.inj I ds es r q q' (by omega) (by omega)]
end
mutual
theorem D.eq_refl:∀d:D,D.eq d d=true
 |.non=>rfl
 |.bl b=>by simp[D.eq]
 |.int b=>by simp[D.eq]
 |.str b=>by simp[D.eq]
 |.tup ds=>by simp only[D.eq];exact D.eqs_refl ds
 |.lst ds=>by simp only[D.eq];exact D.eqs_refl ds
 |.ref n=>by simp[D.eq]
theorem D.eqs_refl:∀d:List D,D.eqs d d=true
 | []=>rfl
 |d::ds=>by simp only[D.eqs,D.eq_refl d,D.eqs_refl ds,Bool.and_self]
end
theorem D.eqs_len:∀(ds es:List D),ds.length≠es.length->D.eqs ds es=false
  | [],[],h=>absurd rfl h
  | [],_::_,_=>rfl
  |_::_,[],_=>rfl
  |d::ds,e::es,h=>by
    simp only[D.eqs,D.eqs_len ds es (by simpa using h),Bool.and_false]
theorem D.eqs_all:∀(ds es:List D),ds.length=es.length->D.eqs ds es=(List.range ds.length).all fun j=>D.eq (ds.getD j .non) (es.getD j .non)
  | [],[],_=>rfl
  |d::ds,e::es,h=>by
    rw[D.eqs,D.eqs_all ds es (by simpa using h),List.length_cons,List.range_succ_eq_map,List.all_cons,List.all_map];rfl
mutual
theorem eqAt (I:Inv X pins σ H s):∀(d e:D) (v w:V) (u u':Value),IsW X.K A H d v->IsW X.K B H e w->RelV v u->RelV w u'->Ar.units + d.dep<cLine->d.dep<=100->e.dep<=100->SeqAt.EqAt Ar s u u' (D.eq d e)
  |.ref _,e,v,w,u,u',h1,h2,r1,r2,hu,hd,he=>by simp[D.dep]at hd
  |.non,e,v,w,u,u',h1,h2,r1,r2,hu,hd,he=>by
    have hv:v=.non:=h1;subst hv;cases r1;have hu':Ar.units<cLine:=by omega
    cases e with
    |ref _=>simp[D.dep]at he
    |non=>have hw:w=.non:=h2;subst hw;cases r2;exact SeqAt.EqAt.same _
    |bl b=>have hw:w=.bl b:=h2;subst hw;cases r2;exact SeqAt.EqAt.none_bool _
    |int b=>have hw:w=.int b:=h2;subst hw;obtain⟨t,rfl⟩:=r2;exact SeqAt.EqAt.none_int _ _
    |str b=>have hw:w=.str b:=h2;subst hw;obtain⟨t,rfl⟩:=r2;exact SeqAt.EqAt.none_str _ _
    |tup es=>obtain⟨a,vs,rfl,t,_⟩:=h2;cases r2;obtain⟨its,_,p,_⟩:=I.tuple t;exact SeqAt.EqAt.none_tuple p hu'
    |lst es=>obtain⟨a,vs,rfl,t,_⟩:=h2;cases r2;obtain⟨_,its,_,p⟩:=sql I t;exact SeqAt.EqAt.none_list p hu'
  |.bl x,e,v,w,u,u',h1,h2,r1,r2,hu,hd,he=>by
    have hv:v=.bl x:=h1;subst hv;cases r1;have hu':Ar.units<cLine:=by omega
    cases e with
    |ref _=>simp[D.dep]at he
    |non=>have hw:w=.non:=h2;subst hw;cases r2;exact SeqAt.EqAt.bool_none _
    |bl b=>have hw:w=.bl b:=h2;subst hw;cases r2;exact SeqAt.EqAt.bool_bool _ _
    |int b=>have hw:w=.int b:=h2;subst hw;obtain⟨t,rfl⟩:=r2;exact SeqAt.EqAt.bool_int _ _ _
    |str b=>have hw:w=.str b:=h2;subst hw;obtain⟨t,rfl⟩:=r2;exact SeqAt.EqAt.bool_str _ _ _
    |tup es=>obtain⟨a,vs,rfl,t,_⟩:=h2;cases r2;obtain⟨its,_,p,_⟩:=I.tuple t;exact SeqAt.EqAt.bool_tuple _ p hu'
    |lst es=>obtain⟨a,vs,rfl,t,_⟩:=h2;cases r2;obtain⟨_,its,_,p⟩:=sql I t;exact SeqAt.EqAt.bool_list _ p hu'
  |.int x,e,v,w,u,u',h1,h2,r1,r2,hu,hd,he=>by
    have hv:v=.int x:=h1;subst hv;obtain⟨t0,rfl⟩:=r1;have hu':Ar.units<cLine:=by omega
    cases e with
    |ref _=>simp[D.dep]at he
    |non=>have hw:w=.non:=h2;subst hw;cases r2;exact SeqAt.EqAt.int_none _ _
    |bl b=>have hw:w=.bl b:=h2;subst hw;cases r2;exact SeqAt.EqAt.int_bool _ _ _
    |int b=>have hw:w=.int b:=h2;subst hw;obtain⟨t,rfl⟩:=r2;exact SeqAt.EqAt.int_int _ _ _ _
    |str b=>have hw:w=.str b:=h2;subst hw;obtain⟨t,rfl⟩:=r2;exact SeqAt.EqAt.int_str _ _ _ _
    |tup es=>obtain⟨a,vs,rfl,t,_⟩:=h2;cases r2;obtain⟨its,_,p,_⟩:=I.tuple t;exact SeqAt.EqAt.int_tuple _ _ p hu'
    |lst es=>obtain⟨a,vs,rfl,t,_⟩:=h2;cases r2;obtain⟨_,its,_,p⟩:=sql I t;exact SeqAt.EqAt.int_list _ _ p hu'
  |.str x,e,v,w,u,u',h1,h2,r1,r2,hu,hd,he=>by
    have hv:v=.str x:=h1;subst hv;obtain⟨t0,rfl⟩:=r1;have hu':Ar.units<cLine:=by omega
    cases e with
    |ref _=>simp[D.dep]at he
    |non=>have hw:w=.non:=h2;subst hw;cases r2;exact SeqAt.EqAt.str_none _ _
    |bl b=>have hw:w=.bl b:=h2;subst hw;cases r2;exact SeqAt.EqAt.str_bool _ _ _
    |int b=>have hw:w=.int b:=h2;subst hw;obtain⟨t,rfl⟩:=r2;exact SeqAt.EqAt.str_int _ _ _ _
    |str b=>have hw:w=.str b:=h2;subst hw;obtain⟨t,rfl⟩:=r2;exact SeqAt.EqAt.str_str _ _ _ _
    |tup es=>obtain⟨a,vs,rfl,t,_⟩:=h2;cases r2;obtain⟨its,_,p,_⟩:=I.tuple t;exact SeqAt.EqAt.str_tuple _ _ p hu'
    |lst es=>obtain⟨a,vs,rfl,t,_⟩:=h2;cases r2;obtain⟨_,its,_,p⟩:=sql I t;exact SeqAt.EqAt.str_list _ _ p hu'
  |.tup ds,e,v,w,u,u',h1,h2,r1,r2,hu,hd,he=>by
    have h1':=h1;have hd':=hd;simp only[D.dep]at hu hd;have hu':Ar.units<cLine:=by omega
    obtain⟨a,vs,rfl,t,q⟩:=h1;cases r1;obtain⟨its,rv,p,hz⟩:=I.tuple t
    cases e with
    |ref _=>simp[D.dep]at he
    |non=>have hw:w=.non:=h2;subst hw;cases r2;exact SeqAt.EqAt.tuple_none p hu'
    |bl b=>have hw:w=.bl b:=h2;subst hw;cases r2;exact SeqAt.EqAt.tuple_bool _ p hu'
    |int b=>have hw:w=.int b:=h2;subst hw;obtain⟨t,rfl⟩:=r2;exact SeqAt.EqAt.tuple_int _ _ p hu'
    |str b=>have hw:w=.str b:=h2;subst hw;obtain⟨t,rfl⟩:=r2;exact SeqAt.EqAt.tuple_str _ _ p hu'
    |tup es=>
      have h2':=h2;have he':=he;simp only[D.dep]at he;obtain⟨b,ws,rfl,t',q'⟩:=h2;cases r2
      by_cases hab:a=b
      · subst hab;rw[Is.inj I _ _ _ h1' h2' hd' he',D.eq_refl];exact SeqAt.EqAt.same _
      · obtain⟨its',rv',p',hz'⟩:=I.tuple t';refine SeqAt.EqAt.of_refs hab ?_;have l1:its.toArray.size=ds.length:=by rw[List.size_toArray, <-rv.length,q.len]
        have l2:its'.toArray.size=es.length:=by rw[List.size_toArray, <-rv'.length,q'.len]
        have key:=SeqAt.RcAt.tuples (A:=Ar) (s:=s) (e:=fun j=>D.eq (ds.getD j .non) (es.getD j .non)) p p' hu' fun j j1 j2=>by
          simpa using zjX I ds es vs ws its its' q q' rv rv' (Ar:=Ar.in1) (by show Ar.units + 1 + _<_;omega) (by omega) (by omega) j (by simpa using j1) (by simpa using j2)
        rw[l1,l2]at key
        by_cases hl:ds.length=es.length
        · rw[show D.eq (.tup ds) (.tup es)=D.eqs ds es from rfl,D.eqs_all ds es hl];rw[hl,Nat.min_self,beq_self_eq_true,Bool.and_true]at key;rw[hl];exact key
        · rw[show D.eq (.tup ds) (.tup es)=D.eqs ds es from rfl,D.eqs_len ds es hl];rw[beq_eq_false_iff_ne.mpr hl,Bool.and_false]at key;exact key
    |lst es=>obtain⟨b,ws,rfl,t',_⟩:=h2;cases r2;obtain⟨_,its',_,p'⟩:=sql I t';exact SeqAt.EqAt.tuple_list p p' hu'
  |.lst ds,e,v,w,u,u',h1,h2,r1,r2,hu,hd,he=>by
    have h1':=h1;have hd':=hd;simp only[D.dep]at hu hd;have hu':Ar.units<cLine:=by omega
    obtain⟨a,vs,rfl,t,q⟩:=h1;cases r1;obtain⟨hz,its,rv,p⟩:=sql I t
    cases e with
    |ref _=>simp[D.dep]at he
    |non=>have hw:w=.non:=h2;subst hw;cases r2;exact SeqAt.EqAt.list_none p hu'
    |bl b=>have hw:w=.bl b:=h2;subst hw;cases r2;exact SeqAt.EqAt.list_bool _ p hu'
    |int b=>have hw:w=.int b:=h2;subst hw;obtain⟨t,rfl⟩:=r2;exact SeqAt.EqAt.list_int _ _ p hu'
    |str b=>have hw:w=.str b:=h2;subst hw;obtain⟨t,rfl⟩:=r2;exact SeqAt.EqAt.list_str _ _ p hu'
    |tup es=>obtain⟨b,ws,rfl,t',_⟩:=h2;cases r2;obtain⟨its',_,p',_⟩:=I.tuple t';exact SeqAt.EqAt.list_tuple p p' hu'
    |lst es=>
      have h2':=h2;have he':=he;simp only[D.dep]at he;obtain⟨b,ws,rfl,t',q'⟩:=h2;cases r2
      by_cases hab:a=b
      · subst hab;rw[Is.inj I _ _ _ h1' h2' hd' he',D.eq_refl];exact SeqAt.EqAt.same _
      · obtain⟨hz',its',rv',p'⟩:=sql I t';refine SeqAt.EqAt.of_refs hab ?_;have l1:its.toArray.size=ds.length:=by rw[List.size_toArray, <-rv.length,q.len]
        have l2:its'.toArray.size=es.length:=by rw[List.size_toArray, <-rv'.length,q'.len]
        by_cases hl:ds.length=es.length
        · have key:=SeqAt.RcAt.lists (A:=Ar) (s:=s) (e:=fun j=>D.eq (ds.getD j .non) (es.getD j .non)) p p' (by rw[l1,l2,hl]) hu' fun j j1 j2=>by
            simpa using zjX I ds es vs ws its its' q q' rv rv' (Ar:=Ar.in1) (by show Ar.units + 1 + _<_;omega) (by omega) (by omega) j (by simpa using j1) (by simpa using j2)
          rw[show D.eq (.lst ds) (.lst es)=D.eqs ds es from rfl,D.eqs_all ds es hl];rw[l1]at key;exact key
        · rw[show D.eq (.lst ds) (.lst es)=D.eqs ds es from rfl,D.eqs_len ds es hl];exact SeqAt.RcAt.lists_lengths p p' (by rw[l1,l2];simpa using hl) hu'
theorem zjX (I:Inv X pins σ H s):∀(ds es:List D) (vs ws:List V) (its its':List Value),Iss X.K A H ds vs->Iss X.K B H es ws->Vals vs its->Vals ws its'->Ar.units + D.deps ds<cLine->D.deps ds<=100->D.deps es<=100->
    ∀(j:Nat) (h1:j<its.length) (h2:j<its'.length),SeqAt.EqAt Ar s its[j] its'[j] (D.eq (ds.getD j .non) (es.getD j .non))
  | [],es,vs,ws,its,its',h,h',r,r',hu,hd,he,j,j1,j2=>by
    have hv:vs=[]:=h;subst hv;cases r;exact absurd j1 (Nat.not_lt_zero _)
  |d::ds,[],vs,ws,its,its',h,h',r,r',hu,hd,he,j,j1,j2=>by
    have hv:ws=[]:=h';subst hv;cases r';exact absurd j2 (Nat.not_lt_zero _)
  |d::ds,e::es,vs,ws,its,its',h,h',r,r',hu,hd,he,j,j1,j2=>by
    obtain⟨v,vr,rfl,p,q⟩:=h;obtain⟨w,wr,rfl,p',q'⟩:=h';simp only[D.deps]at hu hd he
    cases r with
    |cons r1 r2=>
      cases r' with
      |cons r1' r2'=>
        cases j with
        |zero=>exact eqAt I d e v w _ _ p.w p'.w r1 r1' (by omega) (by omega) (by omega)
        |succ j=>exact zjX I ds es vr wr _ _ q q' r2 r2' (by omega) (by omega) (by omega) j (by simpa using j1) (by simpa using j2)
end
theorem zix {d e:D}{A B:Pl}{K:Fgx}{v w:V}(fd:d.flat=true)(fe:e.flat=true)(h1:IsW K A H d v)(h2:IsW K B H e w):
  (scal v w=true/\D.eq d e=decide (v=w))\/(∃a i,v=.bl a/\w=.int i/\D.eq d e=((if a then 1 else 0)==i))\/∃a i,v=.int i/\w=.bl a/\D.eq d e=(i==(if a then 1 else 0)):=by
 cases d<;>cases e<;>simp only[D.flat,Bool.false_eq_true]at fd fe<;>simp only[IsW,Is]at h1 h2<;>subst h1 h2<;>simp[scal,D.eq]
 all_goals first |rfl |(rw[Bool.eq_iff_iff];simp)
def rEqD (K:Fgx)(neg:Bool):R2:=fun x y H Q=>∃(A B:Pl) (d e:D),IsW K A H d x/\IsW K B H e y/\eqOk d e=true/\d.dep<=50/\Q (.bl (if neg then !D.eq d e else D.eq d e)) H
theorem zr3 (hu:X.A.units + 60<cLine):OpR X (compareOp .Eq) (rEqD X.K false):=by
  intro pins s σ H x y v u Q I rx ry h;obtain⟨A,B,d,e,h1,h2,hk,hd,q⟩:=h;have q:Q (.bl (D.eq d e)) H:=q;have fin:SeqAt.RcAt X.A s v u (D.eq d e)->wpAny (model X.prog X.w) X.A (compareOp .Eq v u) (EP X pins σ Q) X.xe s:=fun r=>EqBoolInt.of_rc r ⟨.bl _,H,I,rfl,q⟩;have hu':X.A.units<cLine:=by omega
  cases fd:d.flat with
  |true=>
    simp only[eqOk,Bool.and_eq_true,decide_eq_true_eq,beq_iff_eq]at hk;have fe:e.flat=true:=hk.1.symm.trans fd;rcases zix fd fe h1 h2 with⟨sc,eq⟩ |⟨a,i,rfl,rfl,eq⟩ |⟨a,i,rfl,rfl,eq⟩
    · exact zuc pins s σ H x y v u Q I rx ry ⟨sc,by rw[<-eq];exact q⟩
    · cases rx;obtain⟨t,rfl⟩:=ry;exact EqBoolInt.eq_bool_int ⟨.bl _,H,I,rfl,by rw[<-eq];exact q⟩
    · cases ry;obtain⟨t,rfl⟩:=rx;exact EqBoolInt.eq_int_bool ⟨.bl _,H,I,rfl,by rw[<-eq];exact q⟩
  |false=>
    simp only[eqOk,Bool.and_eq_true,decide_eq_true_eq,beq_iff_eq]at hk;have he:=hk.2;have fe:e.flat=false:=hk.1.symm.trans fd
    cases d with
    |tup ds=>
      obtain⟨a,vs,rfl,t,p⟩:=h1;cases rx;obtain⟨its,rv,pt,hz⟩:=I.tuple t;simp only[D.dep]at hd
      cases e with
      |tup es=>
        obtain⟨b,ws,rfl,t',p'⟩:=h2;cases ry;obtain⟨its',rv',pt',hz'⟩:=I.tuple t';have l1:its.toArray.size=ds.length:=by rw[List.size_toArray, <-rv.length,p.len]
        have l2:its'.toArray.size=es.length:=by rw[List.size_toArray, <-rv'.length,p'.len]
        have key:=SeqAt.RcAt.tuples (A:=X.A) (s:=s) (e:=fun j=>D.eq (ds.getD j .non) (es.getD j .non)) pt pt' hu' fun j j1 j2=>by
          simpa using zjX I ds es vs ws its its' p p' rv rv' (Ar:=X.A.in1) (by show X.A.units + 1 + _<_;omega) (by omega) (by simp only[D.dep]at he;omega) j (by simpa using j1) (by simpa using j2)
        rw[l1,l2]at key;refine fin ?_
        by_cases hl:ds.length=es.length
        · rw[show D.eq (.tup ds) (.tup es)=D.eqs ds es from rfl,D.eqs_all ds es hl];rw[hl,Nat.min_self,beq_self_eq_true,Bool.and_true]at key;rw[hl];exact key
        · rw[show D.eq (.tup ds) (.tup es)=D.eqs ds es from rfl,D.eqs_len ds es hl];rw[beq_eq_false_iff_ne.mpr hl,Bool.and_false]at key;exact key
      |lst es=>
        obtain⟨b,ws,rfl,t',p'⟩:=h2;cases ry;obtain⟨_,its',rv',e'⟩:=sql I t';exact fin (SeqAt.RcAt.tuple_list pt e' hu')
      |ref _=>simp[D.dep]at he
      |_=>cases fe
    |lst ds=>
      obtain⟨a,vs,rfl,t,p⟩:=h1;cases rx;obtain⟨hz,its,rv,pt⟩:=sql I t;simp only[D.dep]at hd
      cases e with
      |tup es=>
        obtain⟨b,ws,rfl,t',p'⟩:=h2;cases ry;obtain⟨its',rv',pt',hz'⟩:=I.tuple t';exact fin (SeqAt.RcAt.list_tuple pt pt' hu')
      |lst es=>
        obtain⟨b,ws,rfl,t',p'⟩:=h2;cases ry;obtain⟨_,its',rv',pt'⟩:=sql I t';have l1:its.toArray.size=ds.length:=by rw[List.size_toArray, <-rv.length,p.len]
        have l2:its'.toArray.size=es.length:=by rw[List.size_toArray, <-rv'.length,p'.len]
        refine fin ?_
        by_cases hl:ds.length=es.length
        · have key:=SeqAt.RcAt.lists (A:=X.A) (s:=s) (e:=fun j=>D.eq (ds.getD j .non) (es.getD j .non)) pt pt' (by rw[l1,l2,hl]) hu' fun j j1 j2=>by
            simpa using zjX I ds es vs ws its its' p p' rv rv' (Ar:=X.A.in1) (by show X.A.units + 1 + _<_;omega) (by omega) (by simp only[D.dep]at he;omega) j (by simpa using j1) (by simpa using j2)
          rw[show D.eq (.lst ds) (.lst es)=D.eqs ds es from rfl,D.eqs_all ds es hl];rw[l1]at key;exact key
        · rw[show D.eq (.lst ds) (.lst es)=D.eqs ds es from rfl,D.eqs_len ds es hl];exact SeqAt.RcAt.lists_lengths pt pt' (by rw[l1,l2];simpa using hl) hu'
      |ref _=>simp[D.dep]at he
      |_=>cases fe
    |ref _=>simp[D.dep]at hd
    |_=>cases fd
theorem ztH (hu:X.A.units + 60<cLine):OpR X (compareOp .NotEq) (rEqD X.K true):=by
  intro pins s σ H x y v u Q I rx ry h;obtain⟨A,B,d,e,h1,h2,hk,hd,q⟩:=h;have q:Q (.bl (!D.eq d e)) H:=q;have fin:SeqAt.RcNeAt X.A s v u (!D.eq d e)->wpAny (model X.prog X.w) X.A (compareOp .NotEq v u) (EP X pins σ Q) X.xe s:=fun r=>EqBoolInt.of_rcne r ⟨.bl _,H,I,rfl,q⟩;have hu':X.A.units<cLine:=by omega
  cases fd:d.flat with
  |true=>
    simp only[eqOk,Bool.and_eq_true,decide_eq_true_eq,beq_iff_eq]at hk;have fe:e.flat=true:=hk.1.symm.trans fd;rcases zix fd fe h1 h2 with⟨sc,eq⟩ |⟨a,i,rfl,rfl,eq⟩ |⟨a,i,rfl,rfl,eq⟩
    · exact zwa pins s σ H x y v u Q I rx ry ⟨sc,by rw[<-eq];exact q⟩
    · cases rx;obtain⟨t,rfl⟩:=ry;exact EqBoolInt.ne_bool_int ⟨.bl _,H,I,rfl,by rw[<-eq];exact q⟩
    · cases ry;obtain⟨t,rfl⟩:=rx;exact EqBoolInt.ne_int_bool ⟨.bl _,H,I,rfl,by rw[<-eq];exact q⟩
  |false=>
    simp only[eqOk,Bool.and_eq_true,decide_eq_true_eq,beq_iff_eq]at hk;have he:=hk.2;have fe:e.flat=false:=hk.1.symm.trans fd
    cases d with
    |tup ds=>
      obtain⟨a,vs,rfl,t,p⟩:=h1;cases rx;obtain⟨its,rv,pt,hz⟩:=I.tuple t;simp only[D.dep]at hd
      cases e with
      |tup es=>
        obtain⟨b,ws,rfl,t',p'⟩:=h2;cases ry;obtain⟨its',rv',pt',hz'⟩:=I.tuple t';have l1:its.toArray.size=ds.length:=by rw[List.size_toArray, <-rv.length,p.len]
        have l2:its'.toArray.size=es.length:=by rw[List.size_toArray, <-rv'.length,p'.len]
        have key:=SeqAt.RcNeAt.tuples (A:=X.A) (s:=s) (e:=fun j=>D.eq (ds.getD j .non) (es.getD j .non)) pt pt' hu' fun j j1 j2=>by
          simpa using zjX I ds es vs ws its its' p p' rv rv' (Ar:=X.A.in1) (by show X.A.units + 1 + _<_;omega) (by omega) (by simp only[D.dep]at he;omega) j (by simpa using j1) (by simpa using j2)
        rw[l1,l2]at key;refine fin ?_
        by_cases hl:ds.length=es.length
        · rw[show D.eq (.tup ds) (.tup es)=D.eqs ds es from rfl,D.eqs_all ds es hl];rw[hl,Nat.min_self,beq_self_eq_true,Bool.and_true]at key;rw[hl];exact key
        · rw[show D.eq (.tup ds) (.tup es)=D.eqs ds es from rfl,D.eqs_len ds es hl];rw[beq_eq_false_iff_ne.mpr hl,Bool.and_false]at key;exact key
      |lst es=>
        obtain⟨b,ws,rfl,t',p'⟩:=h2;cases ry;obtain⟨_,its',rv',e'⟩:=sql I t';exact fin (SeqAt.RcNeAt.tuple_list pt e' hu')
      |ref _=>simp[D.dep]at he
      |_=>cases fe
    |lst ds=>
      obtain⟨a,vs,rfl,t,p⟩:=h1;cases rx;obtain⟨hz,its,rv,pt⟩:=sql I t;simp only[D.dep]at hd
      cases e with
      |tup es=>
        obtain⟨b,ws,rfl,t',p'⟩:=h2;cases ry;obtain⟨its',rv',pt',hz'⟩:=I.tuple t';exact fin (SeqAt.RcNeAt.list_tuple pt pt' hu')
      |lst es=>
        obtain⟨b,ws,rfl,t',p'⟩:=h2;cases ry;obtain⟨_,its',rv',pt'⟩:=sql I t';have l1:its.toArray.size=ds.length:=by rw[List.size_toArray, <-rv.length,p.len]
        have l2:its'.toArray.size=es.length:=by rw[List.size_toArray, <-rv'.length,p'.len]
        refine fin ?_
        by_cases hl:ds.length=es.length
        · have key:=SeqAt.RcNeAt.lists (A:=X.A) (s:=s) (e:=fun j=>D.eq (ds.getD j .non) (es.getD j .non)) pt pt' (by rw[l1,l2,hl]) hu' fun j j1 j2=>by
            simpa using zjX I ds es vs ws its its' p p' rv rv' (Ar:=X.A.in1) (by show X.A.units + 1 + _<_;omega) (by omega) (by simp only[D.dep]at he;omega) j (by simpa using j1) (by simpa using j2)
          rw[show D.eq (.lst ds) (.lst es)=D.eqs ds es from rfl,D.eqs_all ds es hl];rw[l1]at key;exact key
        · rw[show D.eq (.lst ds) (.lst es)=D.eqs ds es from rfl,D.eqs_len ds es hl];exact SeqAt.RcNeAt.lists_lengths pt pt' (by rw[l1,l2];simpa using hl) hu'
      |ref _=>simp[D.dep]at he
      |_=>cases fe
    |ref _=>simp[D.dep]at hd
    |_=>cases fd
def cpP:Cp->CmpOp
 |.eq=>.Eq
 |.ne=>.NotEq
 |.lt=>.Lt
 |.le=>.LtE
 |.gt=>.Gt
 |.ge=>.GtE
 |.isin=>.In
 |.notin=>.NotIn
 |.same=>.Is
 |.other=>.IsNot
def rCp (K:Fgx):Cp->R2
 |.eq=>rEqD K false
 |.ne=>rEqD K true
 |.lt=>rI0 fun i j=>.bl (decide (i<j))
 |.le=>rI0 fun i j=>.bl (decide (i<=j))
 |.gt=>rI0 fun i j=>.bl (decide (j<i))
 |.ge=>rI0 fun i j=>.bl (decide (j<=i))
 |.isin=>fun x y H Q=>(∃i j,x=.str i/\y=.str j/\Q (.bl (!(Builtin.Str.occurrences j i 0 j.length 1).isEmpty)) H)\/rIn K false x y H Q
 |.notin=>fun x y H Q=>(∃i j,x=.str i/\y=.str j/\Q (.bl (!(!(Builtin.Str.occurrences j i 0 j.length 1).isEmpty))) H)\/rIn K true x y H Q
 |.same=>fun x y H Q=>(y=.non/\Q (.bl (decide (x=.non))) H)\/(∃b,y=.bl b/\Q (.bl (decide (x=.bl b))) H)
 |.other=>fun x y H Q=>(y=.non/\Q (.bl (!decide (x=.non))) H)\/(∃b,y=.bl b/\Q (.bl (!decide (x=.bl b))) H)
theorem zaA (hu:X.A.units + 60<cLine):∀c:Cp,OpR X (compareOp (cpP c)) (rCp X.K c)
 |.eq=>zr3 hu
 |.ne=>ztH hu
 |.lt=>zum
 |.le=>zuo
 |.gt=>zt7
 |.ge=>zv6
 |.isin=>zlp.or zm2
 |.notin=>ziM.or ziE
 |.same=>zsf.or zt0
 |.other=>zpz.or zlk
theorem zi7 {K:Fgx}{A:Pl}{d:D}{v:V}(f:d.flat=true)(h:Is K A H d v):zhg v=true:=by
 cases d<;>simp only[D.flat,Bool.false_eq_true]at f<;>simp only[Is]at h<;>subst h<;>rfl
theorem eq_V {K:Fgx}{A B:Pl}{d e:D}{v w:V}(f:d.flat=true)(g:e.flat=true)(h:Is K A H d v)(h':Is K B H e w):eqV v w=D.eq d e:=by
 cases d<;>cases e<;>simp only[D.flat,Bool.false_eq_true]at f g<;>simp only[Is]at h h'<;>subst h h'<;>rfl
theorem zgL {K:Fgx}{A:Pl}:∀{ds:List D} {vs:List V},ds.all D.flat=true->Iss K A H ds vs->vs.all zhg=true
  | [],_,_,h=>by rw[show _=[] from h];rfl
  |d::ds,_,f,h=>by
    obtain⟨v,r,rfl,p,q⟩:=h;rw[List.all_cons,Bool.and_eq_true]at f;rw[List.all_cons,zi7 f.1 p,zgL f.2 q];rfl
theorem in_V {K:Fgx}{A B:Pl}{e:D}{w:V}(g:e.flat=true)(h':Is K B H e w):∀{ds:List D} {vs:List V},ds.all D.flat=true->Iss K A H ds vs->inV w vs=ds.any fun y=>D.eq y e
  | [],_,_,h=>by rw[show _=[] from h];rfl
  |d::ds,_,f,h=>by
    obtain⟨v,r,rfl,p,q⟩:=h;rw[List.all_cons,Bool.and_eq_true]at f;have:=in_V g h' f.2 q;unfold inV at this ⊢;rw[List.any_cons,List.any_cons,this,eq_V f.1 g p h']
theorem zj9 {K:Fgx}{A B:Pl}{c:Cp}{d e:D}{v w:V}{b:Bool}{Q:VK}(h:cmpD c d e=some b)(h1:IsW K A H d v)(h2:IsW K B H e w)(q:Q (.bl b) H):rCp K c v w H Q:=by
  cases c
  case eq=>
    simp only[cmpD,cEq,cNe]at h;split at h
    · rename_i hc;cases h;exact⟨A,B,d,e,h1,h2,hc.1,hc.2,q⟩
    · cases h
  case ne=>
    simp only[cmpD,cEq,cNe]at h;split at h
    · rename_i hc;cases h;exact⟨A,B,d,e,h1,h2,hc.1,hc.2,q⟩
    · cases h
  case isin=>
    cases e with
    |str j=>
      cases d<;>simp only[cmpD,cOrd,cIn,cNin,ziU,zfS,reduceCtorEq]at h
      simp only[IsW,Is]at h1 h2;subst h1 h2;cases h;exact .inl ⟨_,_,rfl,rfl,q⟩
    |lst xs=>
      have h':(if (d.flat && xs.all D.flat)=true then some (xs.any fun y=>D.eq y d) else none)=some b:=by cases d<;>exact h
      split at h'
      · rename_i hc;rw[Bool.and_eq_true]at hc;cases h';obtain⟨a,vs,rfl,t,p⟩:=h2;have h1':Is K A H d v:=by cases d<;>first |exact h1 |cases hc.1
        refine .inr ⟨a,vs,rfl,.inl (t),zi7 hc.1 h1',zgL hc.2 p,?_⟩;rw[in_V hc.1 h1' hc.2 p];exact q
      · cases h'
    |tup xs=>
      have h':(if (d.flat && xs.all D.flat)=true then some (xs.any fun y=>D.eq y d) else none)=some b:=by cases d<;>exact h
      split at h'
      · rename_i hc;rw[Bool.and_eq_true]at hc;cases h';obtain⟨a,vs,rfl,t,p⟩:=h2;have h1':Is K A H d v:=by cases d<;>first |exact h1 |cases hc.1
        refine .inr ⟨a,vs,rfl,.inr t,zi7 hc.1 h1',zgL hc.2 p,?_⟩;rw[in_V hc.1 h1' hc.2 p];exact q
      · cases h'
    |_=>cases d<;>simp only[cmpD,cOrd,cIn,cNin,ziU,zfS,reduceCtorEq]at h
  case notin=>
    cases e with
    |str j=>
      cases d<;>simp only[cmpD,cOrd,cIn,cNin,ziU,zfS,reduceCtorEq]at h
      simp only[IsW,Is]at h1 h2;subst h1 h2;cases h;exact .inl ⟨_,_,rfl,rfl,q⟩
    |lst xs=>
      have h':(if (d.flat && xs.all D.flat)=true then some (!xs.any fun y=>D.eq y d) else none)=some b:=by cases d<;>exact h
      split at h'
      · rename_i hc;rw[Bool.and_eq_true]at hc;cases h';obtain⟨a,vs,rfl,t,p⟩:=h2;have h1':Is K A H d v:=by cases d<;>first |exact h1 |cases hc.1
        refine .inr ⟨a,vs,rfl,.inl (t),zi7 hc.1 h1',zgL hc.2 p,?_⟩;rw[in_V hc.1 h1' hc.2 p];exact q
      · cases h'
    |tup xs=>
      have h':(if (d.flat && xs.all D.flat)=true then some (!xs.any fun y=>D.eq y d) else none)=some b:=by cases d<;>exact h
      split at h'
      · rename_i hc;rw[Bool.and_eq_true]at hc;cases h';obtain⟨a,vs,rfl,t,p⟩:=h2;have h1':Is K A H d v:=by cases d<;>first |exact h1 |cases hc.1
        refine .inr ⟨a,vs,rfl,.inr t,zi7 hc.1 h1',zgL hc.2 p,?_⟩;rw[in_V hc.1 h1' hc.2 p];exact q
      · cases h'
    |_=>cases d<;>simp only[cmpD,cOrd,cIn,cNin,ziU,zfS,reduceCtorEq]at h
  case same=>
    cases d<;>cases e<;>simp only[cmpD,cOrd,cIn,cNin,ziU,zfS,reduceCtorEq]at h<;>cases h<;>simp only[IsW,Is]at h1 h2
    all_goals first
      |(subst h1 h2;first |exact .inr ⟨_,rfl,by rw[zkA];exact q⟩ |exact .inl ⟨rfl,by simpa using q⟩ |exact .inr ⟨_,rfl,by simpa using q⟩)
      |(obtain⟨a,vs,rfl,_⟩:=h1;subst h2;first |exact .inl ⟨rfl,by simpa using q⟩ |exact .inr ⟨_,rfl,by simpa using q⟩)
  case other=>
    cases d<;>cases e<;>simp only[cmpD,cOrd,cIn,cNin,ziU,zfS,reduceCtorEq]at h<;>cases h<;>simp only[IsW,Is]at h1 h2
    all_goals first
      |(subst h1 h2;first |exact .inr ⟨_,rfl,by rw[zkA];exact q⟩ |exact .inl ⟨rfl,by simpa using q⟩ |exact .inr ⟨_,rfl,by simpa using q⟩)
      |(obtain⟨a,vs,rfl,_⟩:=h1;subst h2;first |exact .inl ⟨rfl,by simpa using q⟩ |exact .inr ⟨_,rfl,by simpa using q⟩)
  all_goals
    cases d<;>cases e<;>simp only[cmpD,cOrd,cIn,cNin,ziU,zfS,reduceCtorEq]at h
    simp only[IsW,Is]at h1 h2;subst h1 h2;cases h;exact⟨_,_,rfl,rfl,q⟩
end
inductive Mode where
 |val |bor
def XOk (mg:Mgx)(H:Hp)(c:Str)(n:Int)(v:V):Prop:=∃a C dx,v=.ref a/\mg c=some (.ref C)/\H a=some (xo a C dx false)/\
 match dx with
 |none=>n=0
 |some d=>∃fs,H d=some (.xd fs)/\fs.lookup ("at":Str)=some (.int (n - 1))/\n≠0
theorem XOk.lt (l:Lt P H P' H')(h:XOk mg H c n v):XOk mg H' c n v:=by
  obtain⟨a,C,dx,e,m,ea,q⟩:=h;refine⟨a,C,dx,e,m,l.keep _ _ ea (.inl (.inr (.inr (.inl ⟨_,rfl⟩)))),?_⟩
  cases dx with
  |none=>exact q
  |some d=>
    obtain⟨fs,ed,el⟩:=q;exact⟨fs,l.keep _ _ ed (.inl (.inr (.inr (.inr ⟨_,rfl⟩)))),el⟩
def zoO (K:Fgx)(mg:Mgx)(P:Pl)(H:Hp)(o:Option Addr)(sv:Option V):Slot->Prop
 |.un=>True
 |.val d=>∃v,sv=some v/\Is K P H d v
 |.own ds=>∃a vs,o=some a/\sv=some (.ref a)/\H a=some (.lst vs)/\Iss K P H ds vs
 |.exc c n=>∃v,sv=some v/\XOk mg H c n v
structure Ok (K:Fgx)(mg:Mgx)(P0:Pl)(H0:Hp)(P:Pl)(O:List (Option Addr))(H:Hp)(M:Mm)(st:L2.St)(env:Env):Prop where
 hk:Hk K mg P H M
 base:LtE P0 H0 P H
 b0:∀a,P0.bd a->H0 a≠none
 slot:∀(i:Nat) s,env[i]? =some s->zoO K mg P H (O[i]?).join (st[i]?).join s
 own:∀a,some a∈O->P.bd a/\(∀k,k<P.n->P.io k≠a)/\H0 a=none
 inj:∀(i j:Nat) a,O[i]? =some (some a)->O[j]? =some (some a)->i=j
 olen:O.length=env.length
 slen:st.length=env.length
def IsM (K:Fgx)(P:Pl)(H:Hp)(m:Mode)(d:D)(v:V):Prop:=match m with
 |.val=>Is K P H d v
 |.bor=>IsB K P H d v
inductive Res where
 |v (d:D) |x (c:Str) (n:Int)
abbrev O:=Option (Res×Mm)
abbrev E:=Env->Mm->O
def bnd (o:O)(k:D->Mm->O):O:=match o with
 |some (.v d,M)=>k d M
 |some (.x c n,M)=>some (.x c n,M)
 |none=>none
theorem zaG (h:bnd o k=some (r,M')):(∃d M,o=some (.v d,M)/\k d M=some (r,M'))\/∃c n,o=some (.x c n,M')/\r=.x c n:=by
 unfold bnd at h;split at h
 ·exact .inl ⟨_,_,rfl,h⟩
 ·cases h;exact .inr ⟨_,_,rfl,rfl⟩
 ·cases h
abbrev XW:=Pl->Hp->Mm->Str->Int->Prop
section
variable {K:Fgx}{mg:Mgx}{P0 P P':Pl}{H0 H H':Hp}{M M':Mm}{Os:List (Option Addr)}{st:L2.St}{env:Env}{d:D}{v:V}{m:Mode}
theorem Is.b (h:Hk K mg P H M)(i:Is K P H d v):IsB K P H d v:=by
  cases d with
  |lst ds=>
    obtain⟨a,vs,e,r,q⟩:=i;exact⟨a,vs,e,r.imp (fun⟨n,r⟩=>⟨fun k hk z=>n (z ▸ h.bd k hk),r⟩) id,q⟩
  |_=>exact i
theorem IsM.of (h:Hk K mg P H M)(i:Is K P H d v):IsM K P H m d v:=by
 cases m with
 |val=>exact i
 |bor=>exact i.b h
theorem IsM.b (h:Hk K mg P H M)(i:IsM K P H m d v):IsB K P H d v:=by
 cases m with
 |val=>exact Is.b h i
 |bor=>exact i
theorem LtE.nc (l:LtE P H P' H')(e:H a=some o)(n:∀k,k<P.n->P.io k≠a):∀k,k<P'.n->P'.io k≠a:=fun k hk z=>by
 rcases Nat.lt_or_ge k P.n with q |q
 ·rw[l.io k q]at z;exact n k q z
 ·rw[<-z,l.nw k q hk]at e;cases e
theorem IsB.lt (l:LtE P H P' H')(h:Hk K mg P H M)(i:IsB K P H d v):IsB K P' H' d v:=by
  cases d with
  |lst ds=>
    obtain⟨a,vs,e,r,q⟩:=i;refine⟨a,vs,e,r.imp (fun⟨n,r⟩=>?_) id,Iss.lt (l.lt h) q⟩;obtain⟨o,eo⟩:=zlB r;refine⟨l.nc eo n,?_⟩;rcases r with r |⟨o',r⟩
    · exact .inl (l.keep _ _ r n)
    · exact .inr ⟨o',l.keep _ _ r n⟩
  |_=>exact Is.lt (l.lt h) i
theorem Ok.next (k:Ok K mg P0 H0 P Os H M st env)(l:LtE P H P' H')(h:Hk K mg P' H' M'):Ok K mg P0 H0 P' Os H' M' st env where
  hk:=h
  base:=k.base.trans l
  b0:=k.b0
  slot:=fun i s e=>by
    have q:=k.slot i s e
    cases s with
    |un=>exact True.intro
    |val d=>
      obtain⟨v,e1,q⟩:=q;exact⟨v,e1,Is.lt (l.lt k.hk) q⟩
    |own ds=>
      obtain ⟨a, vs, e1, e2, e3, q⟩ := q;have ho := k.own a (by
        cases hx:Os[i]? with
        |none=>rw[hx]at e1;cases e1
        |some o=>rw[hx]at e1;cases o with
          |none=>cases e1
          |some b=>cases e1;exact List.mem_of_getElem? hx)
      exact⟨a,vs,e1,e2,l.keep _ _ e3 ho.2.1,Iss.lt (l.lt k.hk) q⟩
    |exc c n=>
      obtain⟨v,e1,q⟩:=q;exact⟨v,e1,q.lt (l.lt k.hk)⟩
  own:=fun a z=>by
    have ho:=k.own a z;refine⟨l.bm a ho.1,?_,ho.2.2⟩;obtain⟨o,eo⟩:∃o,H a=some o:=by
      cases e:H a with
      |none=>exact absurd e (k.hk.here a ho.1)
      |some o=>exact⟨o,rfl⟩
    exact l.nc eo ho.2.1
  inj:=k.inj
  olen:=k.olen
  slen:=k.slen
theorem Hk.same (h:Hk K mg P H M)(s:Same H H'):Hk K mg P H' M:=by
  have l:Lt P H P H':=(LtE.same s).lt h;refine⟨h.n,fun k c e=>?_,h.inj,h.bd,fun a z q=>h.here a z (s.free q)⟩;have:=h.cell k c e
  cases c with
  |lst ds=>
    obtain⟨vs,e1,q⟩:=this;exact⟨vs,s _ _ e1,Iss.lt l q⟩
  |obj c fs=>
    obtain⟨C,dx,gs,e1,e2,e3,q⟩:=this;exact⟨C,dx,gs,e1,s _ _ e2,e3,Iss.lt l q⟩
  |dct kvs=>
    obtain⟨vs,e1,e2,q⟩:=this;exact⟨vs,s _ _ e1,e2,Iss.lt l q⟩
end
def RQ (K:Fgx)(mg:Mgx)(Wx:XW)(m:Mode)(P0:Pl)(H0:Hp)(P:Pl)(H:Hp)(M':Mm)(Q:VK):Res->Prop
 |.v d=>∀P' v H',LtE P H P' H'->Hk K mg P' H' M'->IsM K P' H' m d v->Q v H'
 |.x c n=>Wx P0 H0 M' c n
theorem za1 (h:PE X e t)(i:∀st H Q,t' st H Q->t st H Q):PE X e t':=fun pins s σ H Q I z=>h pins s σ H Q I (i _ _ _ z)
def tE (K:Fgx)(mg:Mgx)(Wx:XW)(m:Mode)(f:E):TE:=fun st H Q=>∃P0 H0 P Os env M r M',Ok K mg P0 H0 P Os H M st env/\f env M=some (r,M')/\RQ K mg Wx m P0 H0 P H M' Q r
structure Fit (X:Cx)(Wx:XW):Prop where
 calm:X.calm=true
 room:X.A.units + 60<cLine
section
variable {X:Cx}{Wx:XW}{m:Mode}
def SE (X:Cx)(Wx:XW)(m:Mode)(e:Expr)(f:E):Prop:=PE X e (tE X.K X.mg Wx m f)
theorem SE.bor (h : SE X Wx .val e f) : SE X Wx m e f := za1 h fun st H Q ⟨P0, H0, P, Os, env, M, r, M', k, e, q⟩ => ⟨P0,H0,P,Os,env,M,r,M',k,e,by
 cases r with
 |v d=>exact fun P' v H' l h i=>q P' v H' l h (IsM.of h i)
 |x c n=>exact q⟩
theorem zax {f:E}{K:Fgx}{mg:Mgx}{P0 P:Pl}{H0 H:Hp}{Os:List (Option Addr)}{M M':Mm}{st:L2.St}{env:Env}{r:Res}{Q:VK}(k:Ok K mg P0 H0 P Os H M st env)(e:f env M=some (r,M'))
  (q:RQ K mg Wx m P0 H0 P H M' Q r):tE K mg Wx m f st H Q:=⟨P0,H0,P,Os,env,M,r,M',k,e,q⟩
def sVar (i:Nat):E:=fun env M=>match env[i]? with
 |some (.val d)=>some (.v d,M)
 |_=>none
def zje (i:Nat):E:=fun env M=>match env[i]? with
 |some (.val d)=>some (.v d,M)
 |some (.own ds)=>some (.v (.lst ds),M)
 |_=>none
def sCon (d:D):E:=fun _ M=>some (.v d,M)
theorem zcH {α:Type}{l:List (Option α)}{i:Nat}{a:α}(h:(l[i]?).join=some a):l[i]? =some (some a):=by
  cases e:l[i]? with
  |none=>rw[e]at h;cases h
  |some o=>rw[e]at h;cases o with
    |none=>cases h
    |some b=>cases h;rfl
theorem zoi {i:Nat}{x:Str}{pos:Pos}(hN:X.N[i]? =some x)(hv:Vis X.env.scope x)(hd:(x==("__debug__":Str))=false:=by x_go)(hcd:(x==("__classdict__":Str))=false:=by x_go):SE X Wx .val (.Name x pos) (sVar i):=by
 refine za1 (ziT hN hv hd hcd) ?_;rintro st H Q ⟨P0,H0,P,Os,env,M,r,M',k,e,q⟩;unfold sVar at e;split at e
 ·rename_i d hs;cases e;obtain⟨v,e1,i1⟩:=k.slot i _ hs;exact⟨v,zcH e1,q P v H (LtE.refl P H) k.hk i1⟩
 ·cases e
theorem zpB {i:Nat}{x:Str}{pos:Pos}(hN:X.N[i]? =some x)(hv:Vis X.env.scope x)(hd:(x==("__debug__":Str))=false:=by x_go)(hcd:(x==("__classdict__":Str))=false:=by x_go):SE X Wx .bor (.Name x pos) (zje i):=by
 refine za1 (ziT hN hv hd hcd) ?_;rintro st H Q ⟨P0,H0,P,Os,env,M,r,M',k,e,q⟩;unfold zje at e;split at e
 ·rename_i d hs;cases e;obtain⟨v,e1,i1⟩:=k.slot i _ hs;exact⟨v,zcH e1,q P v H (LtE.refl P H) k.hk (IsM.of k.hk i1)⟩
 ·rename_i ds hs;cases e;obtain⟨a,vs,e1,e2,e3,i1⟩:=k.slot i _ hs;exact⟨.ref a,zcH e2,q P _ H (LtE.refl P H) k.hk ⟨a,vs,rfl,.inl ⟨(k.own a (List.mem_of_getElem? (zcH e1))).2.1,.inl e3⟩,i1⟩⟩
 ·cases e
theorem zki (h:PE X e (tC v))(hd:∀P H,Is X.K P H d v):SE X Wx .val e (sCon d):=by
 refine za1 h ?_;rintro st H Q ⟨P0,H0,P,Os,env,M,r,M',k,e,q⟩;cases e;exact q P v H (LtE.refl P H) k.hk (hd P H)
def vw (M:Mm)(d:D):D:=match d with
  | .ref k => (match M[k]? with
    |some (.lst ds)=>.lst ds
    |_=>.ref k)
  |d=>d
theorem IsB.vw {K:Fgx}{mg:Mgx}{P:Pl}{H:Hp}{M:Mm}{d:D}{v:V}(h:Hk K mg P H M)(i:IsB K P H d v):IsW K P H (vw M d) v:=by
  cases d with
  |ref k=>
    unfold E3.vw;dsimp only
    split
    · rename_i ds e;obtain⟨i1,i2⟩:k<P.n/\v=.ref (P.io k):=i;obtain⟨vs,e1,q⟩:=h.cell k _ e;exact⟨_,vs,i2,.inl (.inl e1),q⟩
    · exact i
  |lst ds=>exact i.w
  |_=>exact i
def s1 (o:D->Option D)(f:E):E:=fun env M=>bnd (f env M) fun d M1=>(o (vw M1 d)).map fun z=>(.v z,M1)
def s2 (o:D->D->Option D)(f g:E):E:=fun env M=>bnd (f env M) fun d M1=>bnd (g env M1) fun e M2=>(o (vw M2 d) (vw M2 e)).map fun z=>(.v z,M2)
def zfb (K:Fgx)(r:R2)(o:D->D->Option D):Prop:=∀(P:Pl) (H:Hp) (d e z:D) (v w:V) (Q:VK),o d e=some z->IsW K P H d v->IsW K P H e w->(∀p,H p=none->¬ P.bd p)->(∀u H',Same H H'->Is K P H' z u->Q u H')->r v w H Q
theorem Hk.new {K:Fgx}{mg:Mgx}{P:Pl}{H:Hp}{M:Mm}(h:Hk K mg P H M):∀p,H p=none->¬ P.bd p:=fun p hp z=>h.here p z hp
theorem znk {f g:E}{o:D->D->Option D}{r:R2}{st:L2.St}{H:Hp}{Q:VK}(po:zfb X.K r o)(h:tE X.K X.mg Wx m (s2 o f g) st H Q):tOp r (tE X.K X.mg Wx .bor f) (tE X.K X.mg Wx .bor g) st H Q:=by
 obtain⟨P0,H0,P,Os,env,M,rr,M',k,e,q⟩:=h;unfold s2 at e;rcases zaG e with⟨d,M1,e1,e⟩ |⟨c,n,e1,rfl⟩
 ·refine zax k e1 fun P1 v1 H1 l1 h1 i1=>?_;have k1:=k.next l1 h1
  rcases zaG e with⟨d2,M2,e2,e⟩ |⟨c,n,e2,rfl⟩
  ·refine zax k1 e2 fun P2 v2 H2 l2 h2 i2=>?_;rw[Option.map_eq_some_iff]at e;obtain⟨z,ez,e⟩:=e;cases e;exact po P2 H2 _ _ z v1 v2 Q ez (IsB.vw h2 (IsB.lt l2 h1 i1)) (IsB.vw h2 i2) h2.new fun u H' s i=>q P2 u H' (l1.trans (l2.trans (LtE.same s))) (h2.same s) (IsM.of (h2.same s) i)
  ·exact zax k1 e2 q
 ·exact zax k e1 q
theorem zal (ho:OpR X (binaryOp op) r)(po:zfb X.K r o)(ha:SE X Wx .bor a f)(hb:SE X Wx .bor b g):SE X Wx m (.BinOp a op b pos) (s2 o f g):=
 za1 (ztL ho ha hb) fun _ _ _ h=>znk po h
theorem zch (ho:OpR X (compareOp op) r)(po:zfb X.K r o)(ha:SE X Wx .bor a f)(hb:SE X Wx .bor b g)(hm:behindInMarks op b=false:=by rfl):SE X Wx m (.Compare a [op] [b] pos) (s2 o f g):=
 za1 (zp0 ho ha hb hm) fun _ _ _ h=>znk po h
theorem zav (ho:IxR X r)(po:zfb X.K r o)(ha:SE X Wx .bor a f)(hb:SE X Wx .bor b g)(hs:zmF b:=by exact fun _ _=>rfl):SE X Wx m (.Subscript a b pos) (s2 o f g):=
 za1 (zu4 ho ha hb hs) fun _ _ _ h=>znk po h
def TQ (K:Fgx)(mg:Mgx)(Wx:XW)(P0:Pl)(H0:Hp)(P:Pl)(H:Hp)(M':Mm)(Q:Bool->Hp->Prop):Res->Prop
 |.v d=>∃b,d=.bl b/\∀P' H',LtE P H P' H'->Hk K mg P' H' M'->Q b H'
 |.x c n=>Wx P0 H0 M' c n
def tTt (K:Fgx)(mg:Mgx)(Wx:XW)(f:E):TT:=fun st H Q=>∃P0 H0 P Os env M r M',Ok K mg P0 H0 P Os H M st env/\f env M=some (r,M')/\TQ K mg Wx P0 H0 P H M' Q r
def ST (X:Cx)(Wx:XW)(e:Expr)(f:E):Prop:=PT X e (tTt X.K X.mg Wx f)
theorem zgW (h:PT X e t)(i:∀st H Q,t' st H Q->t st H Q):PT X e t':=fun pins s σ H Q I z=>h pins s σ H Q I (i _ _ _ z)
theorem zcL {f:E}{K:Fgx}{mg:Mgx}{P0 P:Pl}{H0 H:Hp}{Os:List (Option Addr)}{M M':Mm}{st:L2.St}{env:Env}{r:Res}{Q:Bool->Hp->Prop}(k:Ok K mg P0 H0 P Os H M st env)(e:f env M=some (r,M'))
  (q:TQ K mg Wx P0 H0 P H M' Q r):tTt K mg Wx f st H Q:=⟨P0,H0,P,Os,env,M,r,M',k,e,q⟩
theorem zl1 {f:E}{st:L2.St}{H:Hp}{Q:Bool->Hp->Prop}(h:tTt X.K X.mg Wx f st H Q):zqj (tE X.K X.mg Wx .val f) st H Q:=by
  obtain⟨P0,H0,P,Os,env,M,r,M',k,e,q⟩:=h;refine zax k e ?_
  cases r with
  |v d=>
    obtain⟨b,rfl,q⟩:=q;exact fun P' v H' l h i=>⟨b,i,q P' H' l h⟩
  |x c n=>exact q
theorem zaz (ho:OpR X (compareOp op) r)(po:zfb X.K r o)(ha:SE X Wx .bor a f)(hb:SE X Wx .bor b g)(hm:behindInMarks op b=false:=by rfl):ST X Wx (.Compare a [op] [b] pos) (s2 o f g):=
 zgW (zpp ho ha hb hm) fun _ _ _ h=>znk po (zl1 h)
def truD:D->Option Bool
 |.non=>some false
 |.bl b=>some b
 |.int i=>some (i !=0)
 |.str s=>if s.length<=sizeLine then some ((s.length:Int) !=0) else none
 |.lst ds=>some (!ds.isEmpty)
 |.tup ds=>some (!ds.isEmpty)
 |.ref _=>none
def sTru (f:E):E:=s1 (fun d=>(truD d).map .bl) f
def sNot (f:E):E:=fun env M=>bnd (f env M) fun d M1=>match d with
 |.bl b=>some (.v (.bl (!b)),M1)
 |_=>none
def sAnd (f g:E):E:=fun env M=>bnd (f env M) fun d M1=>match d with
 |.bl b=>if b=true then g env M1 else some (.v (.bl false),M1)
 |_=>none
def sOr (f g:E):E:=fun env M=>bnd (f env M) fun d M1=>match d with
 |.bl b=>if b=true then some (.v (.bl true),M1) else g env M1
 |_=>none
def sIte (c f g:E):E:=fun env M=>bnd (c env M) fun d M1=>match d with
 |.bl b=>if b=true then f env M1 else g env M1
 |_=>none
def SW (X:Cx)(Wx:XW)(e:Expr)(f:E):Prop:=PW X e (tTt X.K X.mg Wx f)
theorem zoJ (h:PW X e t)(i:∀st H Q,t' st H Q->t st H Q):PW X e t':=fun wh pins s σ H Q I z=>h wh pins s σ H Q I (i _ _ _ z)
theorem zeP (ha:ST X Wx a f):ST X Wx (.UnaryOp .Not a pos) (sNot f):=by
 refine zgW (zrd ha) ?_;rintro st H Q ⟨P0,H0,P,Os,env,M,r,M',k,e,q⟩;unfold sNot at e;rcases zaG e with⟨d,M1,e1,e⟩ |⟨c,n,e1,rfl⟩
 ·cases d<;>simp only[reduceCtorEq]at e
  cases e;obtain⟨b,e2,q⟩:=q;cases e2;exact zcL k e1 ⟨_,rfl,q⟩
 ·exact zcL k e1 q
theorem zfN (ha:ST X Wx a f):SW X Wx (.BoolOp .And [a] pos) f:=zps ha
theorem zd5 (ha:ST X Wx a f):SW X Wx (.BoolOp .Or [a] pos) f:=zru ha
theorem zf2 (ha:ST X Wx a f)(hb:SW X Wx (.BoolOp .And (b::rest) pos) g):SW X Wx (.BoolOp .And (a::b::rest) pos) (sAnd f g):=by
  refine zoJ (zsH ha hb) ?_;rintro st H Q ⟨P0,H0,P,Os,env,M,r,M',k,e,q⟩;unfold sAnd at e;rcases zaG e with⟨d,M1,e1,e⟩ |⟨c,n,e1,rfl⟩
  · cases d<;>simp only[reduceCtorEq]at e
    rename_i b;refine zcL k e1 ⟨b,rfl,fun P1 H1 l1 h1=>?_⟩
    cases b with
    |true=>
      rw[if_pos rfl]at e ⊢;refine zcL (k.next l1 h1) e ?_
      cases r with
      |v d=>obtain⟨b,e2,q⟩:=q;exact⟨b,e2,fun P' H' l h=>q P' H' (l1.trans l) h⟩
      |x c n=>exact q
    |false=>
      rw[if_neg (by decide)]at e ⊢;cases e;obtain⟨b,e2,q⟩:=q;cases e2;exact q P1 H1 l1 h1
  · exact zcL k e1 q
theorem zf6 (ha:ST X Wx a f)(hb:SW X Wx (.BoolOp .Or (b::rest) pos) g):SW X Wx (.BoolOp .Or (a::b::rest) pos) (sOr f g):=by
  refine zoJ (zvy ha hb) ?_;rintro st H Q ⟨P0,H0,P,Os,env,M,r,M',k,e,q⟩;unfold sOr at e;rcases zaG e with⟨d,M1,e1,e⟩ |⟨c,n,e1,rfl⟩
  · cases d<;>simp only[reduceCtorEq]at e
    rename_i b;refine zcL k e1 ⟨b,rfl,fun P1 H1 l1 h1=>?_⟩
    cases b with
    |false=>
      rw[if_neg (by decide)]at e ⊢;refine zcL (k.next l1 h1) e ?_
      cases r with
      |v d=>obtain⟨b,e2,q⟩:=q;exact⟨b,e2,fun P' H' l h=>q P' H' (l1.trans l) h⟩
      |x c n=>exact q
    |true=>
      rw[if_pos rfl]at e ⊢;cases e;obtain⟨b,e2,q⟩:=q;cases e2;exact q P1 H1 l1 h1
  · exact zcL k e1 q
theorem SW.st (h:SW X Wx e f):ST X Wx e f:=h.pt
end
section
variable {X:Cx}{Wx:XW}{m:Mode}
theorem RQ.imp {K:Fgx}{mg:Mgx}{P0 P P1:Pl}{H0 H H1:Hp}{M':Mm}{Q:VK}{r:Res}(l:LtE P H P1 H1)(q:RQ K mg Wx m P0 H0 P H M' Q r):RQ K mg Wx m P0 H0 P1 H1 M' Q r:=by
 cases r with
 |v d=>exact fun P' v H' l' h i=>q P' v H' (l.trans l') h i
 |x c n=>exact q
theorem zej (ha:SE X Wx m a f):SE X Wx m (.BoolOp op [a] pos) f:=ztg ha
theorem zeU (ha:SE X Wx .val a f)(hb:SE X Wx m (.BoolOp .And (b::rest) pos) g):SE X Wx m (.BoolOp .And (a::b::rest) pos) (sAnd f g):=by
  refine za1 (zrk ha hb) ?_;rintro st H Q ⟨P0,H0,P,Os,env,M,r,M',k,e,q⟩;unfold sAnd at e;rcases zaG e with⟨d,M1,e1,e⟩ |⟨c,n,e1,rfl⟩
  · cases d<;>simp only[reduceCtorEq]at e
    rename_i b;refine zax k e1 fun P1 v1 H1 l1 h1 i1=>⟨b,i1,?_⟩
    cases b with
    |true=>
      rw[if_pos rfl]at e ⊢;exact zax (k.next l1 h1) e (RQ.imp l1 q)
    |false=>
      rw[if_neg (by decide)]at e ⊢;cases e;exact q P1 _ H1 l1 h1 (IsM.of h1 (show Is _ _ _ (.bl false) _ from rfl))
  · exact zax k e1 q
theorem zpq (ha:SE X Wx .val a f)(hb:SE X Wx m (.BoolOp .Or (b::rest) pos) g):SE X Wx m (.BoolOp .Or (a::b::rest) pos) (sOr f g):=by
  refine za1 (zuz ha hb) ?_;rintro st H Q ⟨P0,H0,P,Os,env,M,r,M',k,e,q⟩;unfold sOr at e;rcases zaG e with⟨d,M1,e1,e⟩ |⟨c,n,e1,rfl⟩
  · cases d<;>simp only[reduceCtorEq]at e
    rename_i b;refine zax k e1 fun P1 v1 H1 l1 h1 i1=>⟨b,i1,?_⟩
    cases b with
    |false=>
      rw[if_neg (by decide)]at e ⊢;exact zax (k.next l1 h1) e (RQ.imp l1 q)
    |true=>
      rw[if_pos rfl]at e ⊢;cases e;exact q P1 _ H1 l1 h1 (IsM.of h1 (show Is _ _ _ (.bl true) _ from rfl))
  · exact zax k e1 q
theorem zrb (hc:ST X Wx c t)(ha:SE X Wx m a f)(hb:SE X Wx m b g):SE X Wx m (.IfExp c a b pos) (sIte t f g):=by
  refine za1 (znK hc ha hb) ?_;rintro st H Q ⟨P0,H0,P,Os,env,M,r,M',k,e,q⟩;unfold sIte at e;rcases zaG e with⟨d,M1,e1,e⟩ |⟨c,n,e1,rfl⟩
  · cases d<;>simp only[reduceCtorEq]at e
    rename_i b;refine zcL k e1 ⟨b,rfl,fun P1 H1 l1 h1=>?_⟩
    cases b with
    |true=>
      rw[if_pos rfl]at e ⊢;exact zax (k.next l1 h1) e (RQ.imp l1 q)
    |false=>
      rw[if_neg (by decide)]at e ⊢;exact zax (k.next l1 h1) e (RQ.imp l1 q)
  · exact zcL k e1 q
theorem zu5 {K:Fgx}{P:Pl}{H:Hp}{d:D}{v:V}{b:Bool}(h:truD d=some b)(i:IsW K P H d v):TruV K v H b:=by
  cases d with
  |non=>have e:v=.non:=i;subst e;cases h;rfl
  |bl c=>have e:v=.bl c:=i;subst e;cases h;rfl
  |int c=>have e:v=.int c:=i;subst e;cases h;rfl
  |str c=>
    have e:v=.str c:=i;subst e;simp only[truD]at h;split at h
    · rename_i hl;cases h;exact⟨hl,rfl⟩
    · cases h
  |lst ds=>
    obtain⟨a,vs,rfl,r,q⟩:=i;cases h;refine .inl ⟨vs,r,?_⟩
    cases ds with
    |nil=>rw[show vs=[] from q];rfl
    |cons d ds=>obtain⟨w,r',rfl,_⟩:=q;rfl
  |tup ds=>
    obtain⟨a,vs,rfl,r,q⟩:=i;cases h;refine .inr (.inl ⟨vs,r,?_⟩)
    cases ds with
    |nil=>rw[show vs=[] from q];rfl
    |cons d ds=>obtain⟨w,r',rfl,_⟩:=q;rfl
  |ref k=>cases h
theorem zd0 (ha:SE X Wx .bor a f)(he:∀whole,isTrue a X.env whole=(do let v <-whole;standAt a.pos;holding [v] (truthy v)):=by exact fun _=>rfl):ST X Wx a (sTru f):=by
 refine zgW (znQ ha he) ?_;rintro st H Q ⟨P0,H0,P,Os,env,M,r,M',k,e,q⟩;unfold sTru s1 at e;rcases zaG e with⟨d,M1,e1,e⟩ |⟨c,n,e1,rfl⟩
 ·rw[Option.map_eq_some_iff]at e;obtain⟨z,ez,e⟩:=e;cases e;rw[Option.map_eq_some_iff]at ez;obtain⟨b,eb,rfl⟩:=ez;obtain⟨b',e2,q⟩:=q;cases e2;exact zax k e1 fun P1 v1 H1 l1 h1 i1=>⟨b,zu5 eb (IsB.vw h1 i1),q P1 H1 l1 h1⟩
 ·exact zax k e1 q
inductive ResA where
 |v (ds:List D) |x (c:Str) (n:Int)
abbrev EA:=Env->Mm->Option (ResA×Mm)
def sNil:EA:=fun _ M=>some (.v [],M)
def zad (f:E)(fs:EA):EA:=fun env M=>match f env M with
  | some (.v d, M1) => (match fs env M1 with
    |some (.v ds,M2)=>some (.v (d::ds),M2)
    |some (.x c n,M2)=>some (.x c n,M2)
    |none=>none)
  |some (.x c n,M1)=>some (.x c n,M1)
  |none=>none
def bndA (o:Option (ResA×Mm))(k:List D->Mm->O):O:=match o with
 |some (.v ds,M)=>k ds M
 |some (.x c n,M)=>some (.x c n,M)
 |none=>none
theorem zdu (h:bndA o k=some (r,M')):(∃ds M,o=some (.v ds,M)/\k ds M=some (r,M'))\/∃c n,o=some (.x c n,M')/\r=.x c n:=by
 unfold bndA at h;split at h
 ·exact .inl ⟨_,_,rfl,h⟩
 ·cases h;exact .inr ⟨_,_,rfl,rfl⟩
 ·cases h
def AllM (K:Fgx)(P:Pl)(H:Hp)(m:Mode):List D->List V->Prop
 | [],vs=>vs=[]
 |d::ds,vs=>∃v ws,vs=v::ws/\IsM K P H m d v/\AllM K P H m ds ws
theorem AllM.iss {K:Fgx}{P:Pl}{H:Hp}:∀{ds:List D} {vs:List V},AllM K P H .val ds vs->Iss K P H ds vs
  | [],_,h=>h
  |_::_,_,h=>by
    obtain⟨v,ws,e,p,q⟩:=h;exact⟨v,ws,e,p,AllM.iss q⟩
def AQ (K:Fgx)(mg:Mgx)(Wx:XW)(m:Mode)(P0:Pl)(H0:Hp)(P:Pl)(H:Hp)(M':Mm)(Q:List V->Hp->Prop):ResA->Prop
 |.v ds=>∀P' vs H',LtE P H P' H'->Hk K mg P' H' M'->AllM K P' H' m ds vs->Q vs H'
 |.x c n=>Wx P0 H0 M' c n
def tAs (K:Fgx)(mg:Mgx)(Wx:XW)(m:Mode)(fs:EA):TA:=fun st H Q=>∃P0 H0 P Os env M r M',Ok K mg P0 H0 P Os H M st env/\fs env M=some (r,M')/\AQ K mg Wx m P0 H0 P H M' Q r
def SA (X:Cx)(Wx:XW)(m:Mode)(es:List Expr)(fs:EA):Prop:=PA X es (tAs X.K X.mg Wx m fs)
theorem zon (h:PA X es t)(w:∀σ H Q,t' σ H Q->t σ H Q):PA X es t':=fun pos pins s σ H Q I hw=>h pos pins s σ H Q I (w σ H Q hw)
theorem zae:SA X Wx m [] sNil:=by
 refine zon zfX ?_;rintro st H Q ⟨P0,H0,P,Os,env,M,r,M',k,e,q⟩;cases e;exact q P [] H (LtE.refl P H) k.hk rfl
theorem zaa (ha:SE X Wx m e f)(hr:SA X Wx m es fs)(hs:starEach (e::es) X.env=(false,eval e X.env)::starEach es X.env:=by rfl):SA X Wx m (e::es) (zad f fs):=by
 refine zon (zdy ha hr hs) ?_;rintro st H Q ⟨P0,H0,P,Os,env,M,r,M',k,e,q⟩;unfold zad at e;split at e
 ·rename_i d M1 e1;refine zax k e1 fun P1 v1 H1 l1 h1 i1=>?_;split at e
  ·rename_i ds M2 e2;cases e;refine⟨P0,H0,P1,Os,env,M1,_,_,k.next l1 h1,e2,fun P2 vs H2 l2 h2 i2=>q P2 _ H2 (l1.trans l2) h2 ⟨v1,vs,rfl,?_,i2⟩⟩
   cases m with
   |val=>exact Is.lt (l2.lt h1) i1
   |bor=>exact IsB.lt l2 h1 i1
  ·rename_i c n M2 e2;cases e;exact⟨P0,H0,P1,Os,env,M1,_,_,k.next l1 h1,e2,q⟩
  ·cases e
 ·rename_i c n M1 e1;cases e;exact zax k e1 q
 ·cases e
def sN (o:List D->Option D)(fs:EA):E:=fun env M=>bndA (fs env M) fun ds M1=>(o (ds.map (vw M1))).map fun z=>(.v z,M1)
def AllW (K:Fgx)(P:Pl)(H:Hp):List D->List V->Prop
 | [],vs=>vs=[]
 |d::ds,vs=>∃v ws,vs=v::ws/\IsW K P H d v/\AllW K P H ds ws
theorem AllM.w {K:Fgx}{mg:Mgx}{P:Pl}{H:Hp}{M:Mm}(h:Hk K mg P H M):∀{ds:List D} {vs:List V},AllM K P H m ds vs->AllW K P H (ds.map (vw M)) vs
  | [],_,q=>q
  |d::ds,_,q=>by
    obtain⟨v,ws,e,p,q⟩:=q;exact⟨v,ws,e,IsB.vw h (p.b h),AllM.w h q⟩
def zhq (K:Fgx)(r:List V->Hp->VK->Prop)(o:List D->Option D):Prop:=∀(P:Pl) (H:Hp) (ds:List D) (z:D) (vs:List V) (Q:VK),o ds=some z->AllW K P H ds vs->(∀p,H p=none->¬ P.bd p)->(∀u H',Same H H'->Is K P H' z u->Q u H')->r vs H Q
theorem ztl (h:∀t,PA X (e::es) t->PE X ex (tCB r t))(po:zhq X.K r o)(ha:SA X Wx .bor (e::es) fs):SE X Wx m ex (sN o fs):=by
 refine za1 (h _ ha) ?_;rintro st H Q ⟨P0,H0,P,Os,env,M,r,M',k,e,q⟩;unfold sN at e;rcases zdu e with⟨ds,M1,e1,e⟩ |⟨c,n,e1,rfl⟩
 ·rw[Option.map_eq_some_iff]at e;obtain⟨z,ez,e⟩:=e;cases e;exact⟨P0,H0,P,Os,env,M,_,_,k,e1,fun P1 vs H1 l1 h1 i1=>po P1 H1 _ z vs Q ez (AllM.w h1 i1) h1.new fun u H' s i=>q P1 u H' (l1.trans (LtE.same s)) (h1.same s) (IsM.of (h1.same s) i)⟩
 ·exact⟨P0,H0,P,Os,env,M,_,_,k,e1,q⟩
def sTup (fs:EA):E:=fun env M=>bndA (fs env M) fun ds M1=>if ds.length<=sizeLine then some (.v (.tup ds),M1) else none
theorem zaL {es:List Expr}{x1:Nat}{pos:Pos}{fs:EA}(ha:SA X Wx .val es fs):SE X Wx m (.Tuple es x1 pos) (sTup fs):=by
 refine za1 (zrh ha) ?_;rintro st H Q ⟨P0,H0,P,Os,env,M,r,M',k,e,q⟩;unfold sTup at e;rcases zdu e with⟨ds,M1,e1,e⟩ |⟨c,n,e1,rfl⟩
 ·split at e
  ·rename_i hl;cases e;refine⟨P0,H0,P,Os,env,M,_,_,k,e1,fun P1 vs H1 l1 h1 i1=>⟨by rw[i1.iss.len];exact hl,fun p hp=>?_⟩⟩;have s:=zcU (o:=.tup vs) hp;exact q P1 _ _ (l1.trans (LtE.same s)) (h1.same s) (IsM.of (h1.same s) ⟨p,vs,rfl,.inl (.inl zar),Iss.lt ((LtE.same s).lt h1) i1.iss⟩)
  ·cases e
 ·exact⟨P0,H0,P,Os,env,M,_,_,k,e1,q⟩
def NQ (K:Fgx)(mg:Mgx)(Wx:XW)(P0:Pl)(H0:Hp)(P:Pl)(H:Hp)(M':Mm)(Q:VK):Res->Prop
 |.v d=>∃ds,d=.lst ds/\∀P' a vs H',LtE P H P' H'->Hk K mg P' H' M'->H a=none->P'.bd a->(∀k,k<P'.n->P'.io k≠a)->H' a=some (.lst vs)->Iss K P' H' ds vs->Q (.ref a) H'
 |.x c n=>Wx P0 H0 M' c n
def tN (K:Fgx)(mg:Mgx)(Wx:XW)(f:E):TE:=fun st H Q=>∃P0 H0 P Os env M r M',Ok K mg P0 H0 P Os H M st env/\f env M=some (r,M')/\NQ K mg Wx P0 H0 P H M' Q r
def SN (X:Cx)(Wx:XW)(e:Expr)(f:E):Prop:=PE X e (tN X.K X.mg Wx f)
def Pl.bar (P:Pl)(p:Addr):Pl:={P with bd:=fun a=>P.bd a\/a=p}
theorem ziv {K:Fgx}{mg:Mgx}{P:Pl}{H:Hp}{M:Mm}{p:Addr}{vs:List V}(h:Hk K mg P H M)(hp:H p=none):LtE P H (P.bar p) (upd H p (.lst vs))/\Hk K mg (P.bar p) (upd H p (.lst vs)) M/\∀k,k<P.n->P.io k≠p:=by
  have s:=zcU (o:=.lst vs) hp;have nc:∀k,k<P.n->P.io k≠p:=fun k hk z=>h.here _ (h.bd k hk) (z ▸ hp);have l:LtE P H (P.bar p) (upd H p (.lst vs)):=⟨Nat.le_refl _,fun _ _=>rfl,fun a z=>Or.imp (fun q=>q) (fun(q:a=p)=>by rw[q];exact hp) z,fun a z=>.inl z,fun a o e _=>s a o e,fun a z=>s.free z,fun k h1 h2=>absurd h1 (Nat.not_le.mpr h2)⟩;have lt:=l.lt h;refine⟨l,⟨h.n,fun k c e=>?_,h.inj,fun k hk=>.inl (h.bd k hk),fun a z q=>?_⟩,nc⟩
  · have:=h.cell k c e
    cases c with
    |lst ds=>
      obtain⟨vs,e1,q⟩:=this;exact⟨vs,s _ _ e1,Iss.lt lt q⟩
    |obj c fs=>
      obtain⟨C,dx,gs,e1,e2,e3,q⟩:=this;exact⟨C,dx,gs,e1,s _ _ e2,e3,Iss.lt lt q⟩
    |dct kvs=>
      obtain⟨vs,e1,e2,q⟩:=this;exact⟨vs,s _ _ e1,e2,Iss.lt lt q⟩
  · rcases z with z |z
    · exact h.here a z (s.free q)
    · subst z;rw[zar]at q;cases q
theorem SN.se (h:SN X Wx e f)(hf:∀env M r M',f env M=some (.v r,M')->∃ds,r=.lst ds):SE X Wx .val e f:=by
  refine za1 h ?_;rintro st H Q ⟨P0,H0,P,Os,env,M,r,M',k,e,q⟩;refine⟨P0,H0,P,Os,env,M,r,M',k,e,?_⟩
  cases r with
  |x c n=>exact q
  |v d=>
    obtain⟨ds,rfl⟩:=hf _ _ _ _ e;refine⟨ds,rfl,fun P' a vs H' l h ha ba nc ea is=>q (P'.less (· ≠a)) _ H' ?_ ?_ ⟨a,vs,rfl,.inl ⟨fun z=>z.2 rfl,.inl ea⟩,Iss.less is⟩⟩
    · exact⟨l.n,l.io,fun b z=>l.bd b z.1,fun b z=>⟨l.bm b z,fun q=>k.hk.here b z (q ▸ ha)⟩,l.keep,l.sure,l.nw⟩
    · refine⟨h.n,fun j c e=>?_,h.inj,fun j hj=>⟨h.bd j hj,nc j hj⟩,fun b z=>h.here b z.1⟩;have:=h.cell j c e
      cases c with
      |lst ds=>
        obtain⟨vs,e1,q⟩:=this;exact⟨vs,e1,Iss.less q⟩
      |obj c fs=>
        obtain⟨C,dx,gs,e1,e2,e3,q⟩:=this;exact⟨C,dx,gs,e1,e2,e3,Iss.less q⟩
      |dct kvs=>
        obtain⟨vs,e1,e2,q⟩:=this;exact⟨vs,e1,e2,Iss.less q⟩
def sLst (fs:EA):E:=fun env M=>bndA (fs env M) fun ds M1=>if ds.length<=sizeLine then some (.v (.lst ds),M1) else none
theorem zbA {es:List Expr}{pos:Pos}{fs:EA}(ha:SA X Wx .val es fs):SN X Wx (.List es pos) (sLst fs):=by
 refine za1 (zr0 ha) ?_;rintro st H Q ⟨P0,H0,P,Os,env,M,r,M',k,e,q⟩;unfold sLst at e;rcases zdu e with⟨ds,M1,e1,e⟩ |⟨c,n,e1,rfl⟩
 ·split at e
  ·rename_i hl;cases e;obtain⟨ds',e',q⟩:=q;cases e';refine⟨P0,H0,P,Os,env,M,_,_,k,e1,fun P1 vs H1 l1 h1 i1=>⟨by rw[i1.iss.len];exact hl,fun p hp=>?_⟩⟩;obtain⟨l2,h2,nc⟩:=ziv (vs:=vs) h1 hp;exact q (P1.bar p) p vs _ (l1.trans l2) h2 (l1.sure p hp) (.inr rfl) nc zar (Iss.lt (l2.lt h1) i1.iss)
  ·cases e
 ·exact⟨P0,H0,P,Os,env,M,_,_,k,e1,q⟩
theorem lst_is:∀env M r M',sLst fs env M=some (.v r,M')->∃ds,r=.lst ds:=fun env M r M' e=>by
 unfold sLst at e;rcases zdu e with⟨ds,M1,e1,e⟩ |⟨c,n,e1,e⟩
 ·split at e
  ·cases e;exact⟨_,rfl⟩
  ·cases e
 ·cases e
end
inductive Out where
 |nx (env:Env) |bk (env:Env) |ct (env:Env) |rt (d:D) |ex (c:Str) (n:Int)
abbrev OS:=Option (Out×Mm)
abbrev S:=Env->Mm->OS
def Post (K:Fgx)(mg:Mgx)(Wx:XW)(P0:Pl)(H0:Hp)(P:Pl)(H:Hp)(M':Mm)(D:Ends):Out->Prop
 |.nx env=>∀P' Os' H' st',Lt P H P' H'->Ok K mg P0 H0 P' Os' H' M' st' env->D.nx st' H'
 |.bk env=>∀P' Os' H' st',Lt P H P' H'->Ok K mg P0 H0 P' Os' H' M' st' env->D.bk st' H'
 |.ct env=>∀P' Os' H' st',Lt P H P' H'->Ok K mg P0 H0 P' Os' H' M' st' env->D.ct st' H'
 |.rt d=>∀P' v H',LtE P0 H0 P' H'->Hk K mg P' H' M'->Is K P' H' d v->D.rt v H'
 |.ex c n=>Wx P0 H0 M' c n
def tS (K:Fgx)(mg:Mgx)(Wx:XW)(f:S):TS:=fun D st H=>∃P0 H0 P Os env M out M',Ok K mg P0 H0 P Os H M st env/\f env M=some (out,M')/\Post K mg Wx P0 H0 P H M' D out
def SS (X:Cx)(Wx:XW)(s:Stmt)(f:S):Prop:=PS X s (tS X.K X.mg Wx f)
def SB (X:Cx)(Wx:XW)(s:List Stmt)(f:S):Prop:=PSs X s (tS X.K X.mg Wx f)
def bndS (o:O)(k:D->Mm->OS):OS:=match o with
 |some (.v d,M)=>k d M
 |some (.x c n,M)=>some (.ex c n,M)
 |none=>none
theorem za0 (h:bndS o k=some (r,M')):(∃d M,o=some (.v d,M)/\k d M=some (r,M'))\/∃c n,o=some (.x c n,M')/\r=.ex c n:=by
 unfold bndS at h;split at h
 ·exact .inl ⟨_,_,rfl,h⟩
 ·cases h;exact .inr ⟨_,_,rfl,rfl⟩
 ·cases h
section
variable {K:Fgx}{mg:Mgx}{Wx:XW}{P0 P P' P1:Pl}{H0 H H' H1:Hp}{M M':Mm}{Os:List (Option Addr)}{st:L2.St}{env:Env}{d:D}{v:V}{i:Nat}
theorem zex (l:List (Option α))(i j:Nat)(x:Option α)(hi:i<l.length):((l.set i x)[j]?).join=if i=j then x else(l[j]?).join:=by
 rw[List.getElem?_set]
 by_cases h:i=j
 ·subst h;rw[if_pos rfl,if_pos hi,if_pos rfl];rfl
 ·rw[if_neg h,if_neg h]
theorem Ok.asg (k:Ok K mg P0 H0 P Os H M st env)(hi:i<env.length)(h:Is K P H d v):Ok K mg P0 H0 P (Os.set i none) H M (st.set i (some v)) (env.set i (.val d)) where
 hk:=k.hk
 base:=k.base
 b0:=k.b0
 slot:=fun j s e=>by
  rw[zex _ _ _ _ (by rw[k.olen];exact hi),zex _ _ _ _ (by rw[k.slen];exact hi)];rw[List.getElem?_set]at e;split at e
  ·rename_i ij;subst ij;cases e;rw[if_pos rfl,if_pos rfl];exact⟨v,rfl,h⟩
  ·rename_i ij;rw[if_neg ij,if_neg ij];exact k.slot j s e
 own := fun a h => k.own a (by
  rcases List.mem_or_eq_of_mem_set h with h |h
  ·exact h
  ·cases h)
 inj:=fun j l a e1 e2=>by
  rw[List.getElem?_set]at e1 e2;split at e1
  ·split at e1<;>cases e1
  ·split at e2
   ·split at e2<;>cases e2
   ·exact k.inj j l a e1 e2
 olen:=by rw[List.length_set,List.length_set,k.olen]
 slen:=by rw[List.length_set,List.length_set,k.slen]
theorem Ok.here (k:Ok K mg P0 H0 P Os H M st env)(h:some a∈Os):H a≠none:=k.hk.here a (k.own a h).1
theorem Ok.mine (k0:Ok K mg P0 H0 P Os H M st env)(l:LtE P H P' H')(hk:Hk K mg P' H' M')(hi:i<env.length)(ha:H a=none)(ba:P'.bd a)(nc:∀j,j<P'.n->P'.io j≠a)(e:H' a=some (.lst vs))(h:Iss K P' H' ds vs):
  Ok K mg P0 H0 P' (Os.set i (some a)) H' M' (st.set i (some (.ref a))) (env.set i (.own ds)):=by
 have k:=k0.next l hk
 have nO:∀j,Os[j]? ≠some (some a):=fun j z=>k0.here (List.mem_of_getElem? z) ha;exact {
  hk:=k.hk
  base:=k.base
  b0:=k.b0
  slot:=fun j s e'=>by
   rw[zex _ _ _ _ (by rw[k.olen];exact hi),zex _ _ _ _ (by rw[k.slen];exact hi)];rw[List.getElem?_set]at e';split at e'
   ·rename_i ij;subst ij;cases e';rw[if_pos rfl,if_pos rfl];exact⟨a,vs,rfl,rfl,e,h⟩
   ·rename_i ij;rw[if_neg ij,if_neg ij];exact k.slot j s e'
  own:=fun b hb=>by
   rcases List.mem_or_eq_of_mem_set hb with hb |hb
   ·exact k.own b hb
   ·cases hb;exact⟨ba,nc,k0.base.sure a ha⟩
  inj:=fun j l b e1 e2=>by
   rw[List.getElem?_set]at e1 e2;split at e1
   ·split at e1
    ·cases e1;split at e2
     ·rename_i z1 _ z2;exact z1.symm.trans z2
     ·exact absurd e2 (nO l)
    ·cases e1
   ·split at e2
    ·split at e2
     ·cases e2;exact absurd e1 (nO j)
     ·cases e2
    ·exact k.inj j l b e1 e2
  olen:=by rw[List.length_set,List.length_set,k.olen]
  slen:=by rw[List.length_set,List.length_set,k.slen]}
theorem zfy (b : P.bd a) (e : H a = some o) (nf : ¬ Fx o) : Lt P H P (upd H a o') := ⟨Nat.le_refl _,fun _ _=>rfl,fun _ z=>.inl z,fun c u ec z=>by
  by_cases h:c=a
  ·subst h;rw[e]at ec;cases ec;exact(z.elim nf fun n=>n b).elim
  ·rw[zak h];exact ec,fun c z=>by
  by_cases h:c=a
  ·subst h;rw[zar]at z;cases z
  ·rw[zak h]at z;exact z⟩
theorem zkE:¬ Fx (.lst vs):=fun z=>by rcases z with⟨_,z⟩ |⟨_,_,z⟩ |⟨_,z⟩ |⟨_,z⟩<;>cases z
theorem zrB:¬ Fx (.ins C dx gs):=fun z=>by rcases z with⟨_,z⟩ |⟨_,_,z⟩ |⟨_,z⟩ |⟨_,z⟩<;>cases z
theorem zgo.lt (l:Lt P H P' H')(e:∀o,H a=some o->H' a=some o)(h:zgo K mg P H a c):zgo K mg P' H' a c:=by
  cases c with
  |lst ds=>
    obtain⟨vs,e1,q⟩:=h;exact⟨vs,e _ e1,Iss.lt l q⟩
  |obj c fs=>
    obtain⟨C,dx,gs,e1,e2,e3,q⟩:=h;exact⟨C,dx,gs,e1,e _ e2,e3,Iss.lt l q⟩
  |dct kvs=>
    obtain⟨vs,e1,e2,q⟩:=h;exact⟨vs,e _ e1,e2,Iss.lt l q⟩
theorem Ok.chg (k:Ok K mg P0 H0 P Os H M st env)(hi:env[i]? =some (.own ds))(ho:Os[i]? =some (some a))(e:H a=some (.lst vs))(h:Iss K P H ds' vs'):
    Lt P H P (upd H a (.lst vs'))/\Ok K mg P0 H0 P Os (upd H a (.lst vs')) M st (env.set i (.own ds')):=by
  obtain⟨b1,b2,b3⟩:=k.own a (List.mem_of_getElem? ho);have l:Lt P H P (upd H a (.lst vs')):=zfy b1 e zkE;have ilt:i<env.length:=(List.getElem?_eq_some_iff.mp hi).1;refine⟨l,?_⟩;exact {
    hk:=⟨k.hk.n,fun j c ej=>(k.hk.cell j c ej).lt l fun o eo=>by rw[zak (b2 j (by rw[k.hk.n];exact(List.getElem?_eq_some_iff.mp ej).1))];exact eo,k.hk.inj,k.hk.bd,fun c z q=>k.hk.here c z (l.sure c q)⟩
    base := ⟨k.base.n,k.base.io,k.base.bd,k.base.bm,fun c o ec n=>by
      have:=k.base.keep c o ec n;rw[zak (fun z=>by subst z;rw[b3]at ec;cases ec)];exact this,fun c z=>k.base.sure c (l.sure c z),k.base.nw⟩
    b0:=k.b0
    slot:=fun j s ej=>by
      rw[List.getElem?_set]at ej;split at ej
      · rename_i ij;subst ij;cases ej;obtain⟨a',vs0,e1,e2,e3,q⟩:=k.slot i _ hi;rw[ho]at e1;cases e1;exact⟨a,vs',by rw[ho];rfl,e2,zar,Iss.lt l h⟩
      · rename_i ij;have q:=k.slot j s ej
        cases s with
        |un=>exact True.intro
        |val d=>obtain⟨v,e1,q⟩:=q;exact⟨v,e1,Is.lt l q⟩
        |own es=>
          obtain⟨a',ws,e1,e2,e3,q⟩:=q;refine⟨a',ws,e1,e2,?_,Iss.lt l q⟩;rw[zak (fun z=>ij (k.inj i j a ho (by rw[<-z];exact zcH e1)))];exact e3
        |exc c n=>obtain⟨v,e1,q⟩:=q;exact⟨v,e1,q.lt l⟩
    own:=k.own
    inj:=k.inj
    olen:=by rw[List.length_set,k.olen]
    slen:=by rw[List.length_set,k.slen]}
theorem Hk.set (h:Hk K mg P H M)(e:M[j]? =some c)(w:zgo K mg P (upd H (P.io j) o') (P.io j) c'):Lt P H P (upd H (P.io j) o')/\LtE P H P (upd H (P.io j) o')/\Hk K mg P (upd H (P.io j) o') (M.set j c'):=by
 have jl:j<P.n:=by rw[h.n];exact(List.getElem?_eq_some_iff.mp e).1
 obtain⟨o,eo,nf⟩:=h.cellAt jl;have l:Lt P H P (upd H (P.io j) o'):=zfy (h.bd j jl) eo nf;refine⟨l,⟨Nat.le_refl _,fun _ _=>rfl,fun _ z=>.inl z,fun _ z=>z,fun a u ea n=>by rw[zak (fun z=>n j jl z.symm)];exact ea,l.sure,fun k h1 h2=>absurd h1 (Nat.not_le.mpr h2)⟩,⟨by rw[List.length_set,h.n],fun k b ek=>?_,h.inj,h.bd,fun a z q=>h.here a z (l.sure a q)⟩⟩;rw[List.getElem?_set]at ek;split at ek
 ·rename_i jk;subst jk;rw[if_pos (by rw[<-h.n];exact jl)]at ek;cases ek;exact w
 ·rename_i jk;have kl:k<P.n:=by rw[h.n];exact(List.getElem?_eq_some_iff.mp ek).1
  exact(h.cell k b ek).lt l fun u eu=>by rw[zak (fun z=>jk (h.inj j k jl kl z.symm))];exact eu
theorem Ok.frz (k:Ok K mg P0 H0 P Os H M st env)(hi:env[i]? =some (.own ds)):∃P' Os',Lt P H P' H/\Ok K mg P0 H0 P' Os' H M st (env.set i (.val (.lst ds))):=by
 obtain⟨a,vs,e1,e2,e3,q⟩:=k.slot i _ hi;have ho:=zcH e1;obtain⟨b1,b2,b3⟩:=k.own a (List.mem_of_getElem? ho);have ilt:i<env.length:=(List.getElem?_eq_some_iff.mp hi).1;have nO:∀b,some b∈Os.set i none->some b∈Os/\b≠a:=fun b z=>by
  obtain⟨j,hj⟩:=List.mem_iff_getElem?.mp z;rw[List.getElem?_set]at hj;split at hj
  ·split at hj<;>cases hj
  ·rename_i ij;exact⟨List.mem_of_getElem? hj,fun z=>by subst z;exact ij (k.inj i j b ho hj)⟩
 have l : Lt P H (P.less (· ≠ a)) H := ⟨Nat.le_refl _, fun _ _ => rfl, fun c z => .inl z.1, fun _ _ e _ => e, fun _ z => z⟩;refine ⟨P.less (· ≠a),Os.set i none,l,{
  hk:=⟨k.hk.n,fun j c ej=>(k.hk.cell j c ej).lt l fun _ z=>z,k.hk.inj,fun j hj=>⟨k.hk.bd j hj,b2 j hj⟩,fun c z=>k.hk.here c z.1⟩
  base:=⟨k.base.n,k.base.io,fun c z=>k.base.bd c z.1,fun c z=>⟨k.base.bm c z,fun q=>k.b0 c z (q ▸ b3)⟩,k.base.keep,k.base.sure,k.base.nw⟩
  b0:=k.b0
  slot:=fun j s ej=>?_
  own:=fun c z=>?_
  inj:=fun j l b z1 z2=>?_
  olen:=by rw[List.length_set,List.length_set,k.olen]
  slen:=by rw[List.length_set,k.slen]}⟩
 ·rw[zex _ _ _ _ (by rw[k.olen];exact ilt)];rw[List.getElem?_set]at ej;split at ej
  ·rename_i ij;subst ij;cases ej;exact⟨.ref a,e2,a,vs,rfl,.inl ⟨fun z=>z.2 rfl,.inl e3⟩,Iss.less q⟩
  ·rename_i ij;rw[if_neg ij];have q:=k.slot j s ej
   cases s with
   |un=>exact True.intro
   |val d=>obtain⟨v,e1,q⟩:=q;exact⟨v,e1,Is.less q⟩
   |own es=>obtain⟨a',ws,e1,e2,e3,q⟩:=q;exact⟨a',ws,e1,e2,e3,Iss.less q⟩
   |exc c n=>obtain⟨v,e1,q⟩:=q;exact⟨v,e1,q.lt l⟩
 ·obtain⟨z1,z2⟩:=nO c z;obtain⟨c1,c2,c3⟩:=k.own c z1;exact⟨⟨c1,z2⟩,c2,c3⟩
 ·rw[List.getElem?_set]at z1 z2;split at z1
  ·split at z1<;>cases z1
  ·split at z2
   ·split at z2<;>cases z2
   ·exact k.inj j l b z1 z2
end
section
variable {X:Cx}{Wx:XW}{pos:Pos}
theorem zcy (h:PS X s t)(w:∀D σ H,t' D σ H->t D σ H):PS X s t':=fun pins s σ H D I hw=>h pins s σ H D I (w D σ H hw)
theorem zhQ (h:PSs X s t)(w:∀D σ H,t' D σ H->t D σ H):PSs X s t':=fun pins s σ H D I hw=>h pins s σ H D I (w D σ H hw)
def sEnd:S:=fun env M=>some (.nx env,M)
def sSeq (f g:S):S:=fun env M=>match f env M with
 |some (.nx e,M1)=>g e M1
 |o=>o
theorem zag:SB X Wx [] sEnd:=by
 refine zhQ zjZ ?_;rintro D st H ⟨P0,H0,P,Os,env,M,out,M',k,e,q⟩;cases e;exact q P Os H st (Lt.refl P H) k
theorem Post.lt {K:Fgx}{mg:Mgx}{P0 P P1:Pl}{H0 H H1:Hp}{M':Mm}{D:Ends}{o:Out}(l:Lt P H P1 H1)(q:Post K mg Wx P0 H0 P H M' D o):Post K mg Wx P0 H0 P1 H1 M' D o:=by
 cases o with
 |nx env=>exact fun P' Os' H' st' l' k=>q P' Os' H' st' (l.trans l') k
 |bk env=>exact fun P' Os' H' st' l' k=>q P' Os' H' st' (l.trans l') k
 |ct env=>exact fun P' Os' H' st' l' k=>q P' Os' H' st' (l.trans l') k
 |rt d=>exact q
 |ex c n=>exact q
theorem zab (h1:SS X Wx s f)(h2:SB X Wx ss g):SB X Wx (s::ss) (sSeq f g):=by
  refine zhQ (zfu h1 h2) ?_;rintro D st H ⟨P0,H0,P,Os,env,M,out,M',k,e,q⟩;unfold sSeq at e;split at e
  · rename_i e1 M1 ef;refine⟨P0,H0,P,Os,env,M,_,_,k,ef,fun P1 Os1 H1 st1 l1 k1=>?_⟩;exact⟨P0,H0,P1,Os1,e1,M1,_,_,k1,e,q.lt l1⟩
  · rename_i o ho
    cases ef:f env M with
    |none=>rw[ef]at e;cases e
    |some om=>
      obtain⟨o1,M1⟩:=om;rw[ef]at e;cases e;refine⟨P0,H0,P,Os,env,M,_,_,k,ef,?_⟩
      cases out with
      |nx env'=>exact(ho _ _ ef).elim
      |bk env'=>exact q
      |ct env'=>exact q
      |rt d=>exact q
      |ex c n=>exact q
def sAsg (i:Nat)(f:E):S:=fun env M=>bndS (f env M) fun d M1=>if i<env.length then some (.nx (env.set i (.val d)),M1) else none
theorem zaD (hN:X.N.Nodup)(hi:X.N[i]? =some x)(hx:Loc X.env.scope x)(he:SE X Wx .val e f)(hs:swapsWith e (some (.Name x pos')) pos.line X.env=pure false:=by rfl)
  (hf:X.fn x=true\/X.env.scope.names.lookup x=some .local:=by first |exact .inl rfl |exact .inr rfl):SS X Wx (.Assign [.Name x pos'] e pos) (sAsg i f):=by
 refine zcy (zoe hN hi hx he hs hf) ?_;rintro D st H ⟨P0,H0,P,Os,env,M,out,M',k,e,q⟩;unfold sAsg at e;rcases za0 e with⟨d,M1,e1,e⟩ |⟨c,n,e1,rfl⟩
 ·split at e
  ·rename_i hl;cases e;exact⟨P0,H0,P,Os,env,M,_,_,k,e1,fun P1 v1 H1 l1 h1 i1=>q _ _ _ _ (l1.lt k.hk) ((k.next l1 h1).asg hl i1)⟩
  ·cases e
 ·exact⟨P0,H0,P,Os,env,M,_,_,k,e1,q⟩
def zh5 (i:Nat)(f:E):S:=fun env M=>bndS (f env M) fun d M1=>match d with
 |.lst ds=>if i<env.length then some (.nx (env.set i (.own ds)),M1) else none
 |_=>none
theorem zgu (hN:X.N.Nodup)(hi:X.N[i]? =some x)(hx:Loc X.env.scope x)(he:SN X Wx e f)(hs:swapsWith e (some (.Name x pos')) pos.line X.env=pure false:=by rfl)
  (hf:X.fn x=true\/X.env.scope.names.lookup x=some .local:=by first |exact .inl rfl |exact .inr rfl):SS X Wx (.Assign [.Name x pos'] e pos) (zh5 i f):=by
 refine zcy (zoe hN hi hx he hs hf) ?_;rintro D st H ⟨P0,H0,P,Os,env,M,out,M',k,e,q⟩;unfold zh5 at e;rcases za0 e with⟨d,M1,e1,e⟩ |⟨c,n,e1,rfl⟩
 ·cases d<;>simp only[reduceCtorEq]at e
  rename_i ds;split at e
  ·rename_i hl;cases e;exact⟨P0,H0,P,Os,env,M,_,_,k,e1,ds,rfl,fun P1 a vs H1 l1 h1 ha ba nc ea is=>q _ _ _ _ (l1.lt k.hk) (k.mine l1 h1 hl ha ba nc ea is)⟩
  ·cases e
 ·exact⟨P0,H0,P,Os,env,M,_,_,k,e1,q⟩
def sRet (f:E):S:=fun env M=>bndS (f env M) fun d M1=>some (.rt d,M1)
theorem zaq (he:SE X Wx .val e f):SS X Wx (.Return (some e) pos) (sRet f):=by
 refine zcy (zsj he) ?_;rintro D st H ⟨P0,H0,P,Os,env,M,out,M',k,e,q⟩;unfold sRet at e;rcases za0 e with⟨d,M1,e1,e⟩ |⟨c,n,e1,rfl⟩
 ·cases e;exact⟨P0,H0,P,Os,env,M,_,_,k,e1,fun P1 v1 H1 l1 h1 i1=>q P1 v1 H1 (k.base.trans l1) h1 i1⟩
 ·exact⟨P0,H0,P,Os,env,M,_,_,k,e1,q⟩
def zhf (f:E):S:=fun env M=>bndS (f env M) fun _ M1=>some (.nx env,M1)
theorem zjJ (he:SE X Wx .bor e f)(hs:swapsWith e none pos.line X.env=pure false:=by rfl):SS X Wx (.Expr e pos) (zhf f):=by
 refine zcy (zfG he hs) ?_;rintro D st H ⟨P0,H0,P,Os,env,M,out,M',k,e,q⟩;unfold zhf at e;rcases za0 e with⟨d,M1,e1,e⟩ |⟨c,n,e1,rfl⟩
 ·cases e;exact⟨P0,H0,P,Os,env,M,_,_,k,e1,fun P1 v1 H1 l1 h1 i1=>q _ _ _ _ (l1.lt k.hk) (k.next l1 h1)⟩
 ·exact⟨P0,H0,P,Os,env,M,_,_,k,e1,q⟩
def sIf (c:E)(f g:S):S:=fun env M=>bndS (c env M) fun d M1=>match d with
 |.bl b=>if b=true then f env M1 else g env M1
 |_=>none
theorem zbi (hc:ST X Wx c t)(ha:SB X Wx a f)(hb:SB X Wx b g):SS X Wx (.If c a b pos) (sIf t f g):=by
  refine zcy (zu9 hc ha hb) ?_;rintro D st H ⟨P0,H0,P,Os,env,M,out,M',k,e,q⟩;unfold sIf at e;rcases za0 e with⟨d,M1,e1,e⟩ |⟨c,n,e1,rfl⟩
  · cases d<;>simp only[reduceCtorEq]at e
    rename_i b;refine zcL k e1 ⟨b,rfl,fun P1 H1 l1 h1=>?_⟩
    cases b with
    |true=>
      rw[if_pos rfl]at e ⊢;exact⟨P0,H0,P1,Os,env,M1,_,_,k.next l1 h1,e,q.lt (l1.lt k.hk)⟩
    |false=>
      rw[if_neg (by decide)]at e ⊢;exact⟨P0,H0,P1,Os,env,M1,_,_,k.next l1 h1,e,q.lt (l1.lt k.hk)⟩
  · exact zcL k e1 q
def sFrz (i:Nat):S:=fun env M=>match env[i]? with
 |some (.own ds)=>some (.nx (env.set i (.val (.lst ds))),M)
 |_=>none
theorem zj7 (h:SB X Wx ss g):SB X Wx ss (sSeq (sFrz i) g):=by
 refine zhQ h ?_;rintro D st H ⟨P0,H0,P,Os,env,M,out,M',k,e,q⟩;unfold sSeq sFrz at e;split at e
 ·rename_i e1 M1 ef;split at ef
  ·rename_i ds es;cases ef;obtain⟨P1,Os1,l1,k1⟩:=k.frz es;exact⟨P0,H0,P1,Os1,_,_,_,_,k1,e,q.lt l1⟩
  ·cases ef
 ·rename_i ho;split at e
  ·rename_i es;exact(ho _ _ (by rw[es])).elim
  ·cases e
def sApp (i:Nat)(f:E):S:=fun env M=>match env[i]? with
 |some (.own ds)=>bndS (f env M) fun d M1=>if ds.length<sizeLine then some (.nx (env.set i (.own (ds ++ [d]))),M1) else none
 |_=>none
theorem zeW (hN:X.N[i]? =some x)(hv:Vis X.env.scope x)(he:SE X Wx .val e f)(hd:(x==("__debug__":Str))=false:=by x_go)(hcd:(x==("__classdict__":Str))=false:=by x_go)
  (hfew:((backTo q (starEach [e] X.env)).all (fun x=> !x.1) && (backToKw q (keywordEach [] X.env)).all (fun x=>x.1.isSome) && decide ([e].length + ([]:List Keyword).length + (if ([]:List Keyword).isEmpty then 0 else 1)<30))=true:=by rfl)
  (hline:(p.endLine==q.line)=true:=by rfl) (hs:starEach [e] X.env=(false,eval e X.env)::starEach [] X.env:=by rfl) (hw:swapsWith (.Call (.Attribute (.Name x p0) "append" p) [e] [] q) none pos.line X.env=pure false:=by rfl):
  SS X Wx (.Expr (.Call (.Attribute (.Name x p0) "append" p) [e] [] q) pos) (sApp i f):=by
 refine zcy (zfG (zpZ PySem.F.plainAttrs_list PySem.F.slot_list_append PySem.F.type_list_append zgT (ziT hN hv hd hcd) (zdy he zfX hs) rfl hfew hline hs rfl) hw) ?_;rintro D st H ⟨P0,H0,P,Os,env,M,out,M',k,e,q⟩;unfold sApp at e;split at e
 ·rename_i ds es;obtain⟨a,vs,o1,o2,o3,o4⟩:=k.slot i _ es;refine⟨.ref a,zcH o2,.inl ⟨rfl,vs,.inl (.inl o3)⟩,?_⟩;rcases za0 e with⟨d,M1,e1,e⟩ |⟨c,n,e1,rfl⟩
  ·split at e
   ·rename_i hz;cases e;refine zax k e1 fun P1 v1 H1 l1 h1 i1=>?_;have k1:=k.next l1 h1
    obtain⟨a',vs',o1',o2',o3',o4'⟩:=k1.slot i _ es;have ea:a'=a:=by
     have z:=o2'.symm.trans o2;cases z;rfl
    subst ea;refine⟨a',vs',v1,rfl,rfl,o3',by rw[o4'.len];exact hz,?_⟩;obtain⟨l2,k2⟩:=k1.chg es (zcH o1') o3' (Iss.append o4' (Iss.one i1));exact q _ _ _ _ ((l1.lt k.hk).trans l2) k2
   ·cases e
  ·exact zax k e1 q
 ·cases e
def Wk (K:Fgx)(P1:Pl)(H1:Hp)(J:It)(ds:List D):Prop:=∀P H,Lt P1 H1 P H->(∀k,k<ds.length->J.go k H)/\(∀k,ds.length<=k->k<=ds.length->J.stop k H)/\∀k x H',J.yld k H x H'->k<ds.length->H'=H/\∃d,ds[k]? =some d/\Is K P H d x
def IQ (K:Fgx)(mg:Mgx)(Wx:XW)(P0:Pl)(H0:Hp)(P:Pl)(H:Hp)(M':Mm)(R:It->Hp->Prop):ResA->Prop
 |.v ds=>∀P' H' J,LtE P H P' H'->Hk K mg P' H' M'->Wk K P' H' J ds->R J H'
 |.x c n=>Wx P0 H0 M' c n
def tI (K:Fgx)(mg:Mgx)(Wx:XW)(fs:EA):TI:=fun st H R=>∃P0 H0 P Os env M r M',Ok K mg P0 H0 P Os H M st env/\fs env M=some (r,M')/\IQ K mg Wx P0 H0 P H M' R r
def SI (X:Cx)(Wx:XW)(tg iter:Expr)(fs:EA):Prop:=PI X tg iter (tI X.K X.mg Wx fs)
theorem ziY (h:PI X tg iter t)(w:∀σ H R,t' σ H R->t σ H R):PI X tg iter t':=fun pins s σ H R I hw=>h pins s σ H R I (w σ H R hw)
def loopS (i:Nat)(body:S):List D->Env->Mm->OS
  | [],env,M=>some (.nx env,M)
  | d :: ds, env, M => if i < env.length then (match body (env.set i (.val d)) M with
    |some (.nx e,M1)=>loopS i body ds e M1
    |some (.ct e,M1)=>loopS i body ds e M1
    |some (.bk e,M1)=>some (.nx e,M1)
    |some (.rt d,M1)=>some (.rt d,M1)
    |some (.ex c n,M1)=>some (.ex c n,M1)
    |none=>none) else none
def sFor (i:Nat)(fs:EA)(body:S):S:=fun env M=>match fs env M with
 |some (.v ds,M1)=>loopS i body ds env M1
 |some (.x c n,M1)=>some (.ex c n,M1)
 |none=>none
theorem zmh {K:Fgx}{mg:Mgx}{P0 P1:Pl}{H0 H1:Hp}{Os:List (Option Addr)}{M M':Mm}{st:L2.St}{env:Env}{i:Nat}{b:S}{J:It}{ds:List D}{out:Out}{D:Ends}(k:Ok K mg P0 H0 P1 Os H1 M st env)(wk:Wk K P1 H1 J ds)
  (h:loopS i b ds env M=some (out,M')) (q:Post K mg Wx P0 H0 P1 H1 M' D out):
  ∃W:Nat->Nat->L2.St->Hp->Prop,(∃m,W 0 m st H1)/\∀j m σ H,W j m σ H->
   (J.stop j H/\D.nx σ H)\/(J.go j H/\∃Nn:L2.St->Hp->Prop,(∀σ' H',Nn σ' H'->∃m',m'<m/\W (j + 1) m' σ' H')/\∀x H',J.yld j H x H'->zqd i x σ H' fun σ2 H2=>tS K mg Wx b {D with nx:=Nn,ct:=Nn,bk:=D.nx} σ2 H2):=by
 refine⟨fun j m σ H=>m=ds.length - j/\j<=ds.length/\∃P Os' M1 env',Lt P1 H1 P H/\Ok K mg P0 H0 P Os' H M1 σ env'/\loopS i b (ds.drop j) env' M1=some (out,M'),⟨ds.length,by simp,Nat.zero_le _,P1,Os,M,env,Lt.refl _ _,k,h⟩,?_⟩;rintro j m σ H ⟨rfl,hj,P,Os',M1,env',lt,k',h'⟩;obtain⟨w1,w2,w3⟩:=wk P H lt
 by_cases hlt:j<ds.length
 ·refine .inr ⟨w1 j hlt,fun σ' H'=>∃P Os' M1 env',Lt P1 H1 P H'/\Ok K mg P0 H0 P Os' H' M1 σ' env'/\loopS i b (ds.drop (j + 1)) env' M1=some (out,M'),fun σ' H' z=>⟨ds.length - (j + 1),by omega,rfl,hlt,z⟩,fun x H' y=>?_⟩;obtain⟨e3,d,ed,iv⟩:=w3 j x H' y hlt;subst e3;have ed':ds.drop j=d::ds.drop (j + 1):=by
   rw[List.drop_eq_getElem_cons hlt];rw[List.getElem?_eq_getElem hlt]at ed;rw[Option.some.inj ed]
  rw[ed']at h';simp only[loopS]at h';split at h'
  ·rename_i hi;have k2:=k'.asg hi iv;split at h'
   ·rename_i e M2 eb;exact⟨P0,H0,P,_,_,M1,_,_,k2,eb,fun P' Os2 H2 st2 l2 k3=>⟨P',Os2,_,e,lt.trans l2,k3,h'⟩⟩
   ·rename_i e M2 eb;exact⟨P0,H0,P,_,_,M1,_,_,k2,eb,fun P' Os2 H2 st2 l2 k3=>⟨P',Os2,_,e,lt.trans l2,k3,h'⟩⟩
   ·rename_i e M2 eb;cases h';exact⟨P0,H0,P,_,_,M1,_,_,k2,eb,fun P' Os2 H2 st2 l2 k3=>q P' Os2 H2 st2 (lt.trans l2) k3⟩
   ·rename_i e M2 eb;cases h';exact⟨P0,H0,P,_,_,M1,_,_,k2,eb,q⟩
   ·rename_i c n M2 eb;cases h';exact⟨P0,H0,P,_,_,M1,_,_,k2,eb,q⟩
   ·cases h'
  ·cases h'
 ·have ej:j=ds.length:=by omega
  subst ej;rw[List.drop_length]at h';cases h';exact .inl ⟨w2 _ (Nat.le_refl _) (Nat.le_refl _),q P Os' H σ lt k'⟩
theorem zkF (hp:PassesOwn (model X.prog X.w) X.A X.env X.xe)(hc:X.calm=true)(hN:X.N.Nodup)(hi:X.N[i]? =some x)(hx:Loc X.env.scope x)(hI:SI X Wx (.Name x p) iter fs)(hb:SB X Wx body b)
  (hf:X.fn x=true\/X.env.scope.names.lookup x=some .local:=by first |exact .inl rfl |exact .inr rfl) (hs:∀x,foldedSetIterable iter X.env x=pure x:=by intro _;rfl):SS X Wx (.For (.Name x p) iter body [] pos) (sFor i fs b):=by
 refine zcy (zoz hp hc hI (zl6 hN hi hx hf) hb hs) ?_;rintro D st H ⟨P0,H0,P,Os,env,M,out,M',k,e,q⟩;unfold sFor at e;split at e
 ·rename_i ds M1 ef;exact⟨P0,H0,P,Os,env,M,_,_,k,ef,fun P1 H1 J l1 h1 wk=>zmh (k.next l1 h1) wk e (q.lt (l1.lt k.hk))⟩
 ·rename_i c n M1 ef;cases e;exact⟨P0,H0,P,Os,env,M,_,_,k,ef,q⟩
 ·cases e
def iLst (f:E):EA:=fun env M=>match f env M with
 |some (.v (.lst ds),M1)=>some (.v ds,M1)
 |some (.x c n,M1)=>some (.x c n,M1)
 |_=>none
theorem zmf (h:SE X Wx .val e f):SI X Wx tg e (iLst f):=by
 refine ziY (zqe h) ?_;rintro st H R ⟨P0,H0,P,Os,env,M,r,M',k,e,q⟩;unfold iLst at e;split at e
 ·rename_i ds M1 ef;cases e;refine⟨P0,H0,P,Os,env,M,_,_,k,ef,fun P1 v1 H1 l1 h1 i1=>?_⟩;obtain⟨a,vs,rfl,ra,is⟩:=i1;refine⟨a,rfl,⟨vs,ra.imp (·.2) id⟩,q P1 H1 _ l1 h1 fun P2 H2 l2=>?_⟩;have ra2:=l2.rda ra;have is2:=Iss.lt l2 is;have sq:SqL X.K H2 a vs:=ra2.imp (·.2) id;refine⟨fun j hj=>?_,fun j h1 h2=>⟨vs,sq,by rw[is2.len];exact h1⟩,fun j x H' y hj=>⟨y.1,?_⟩⟩
  ·obtain⟨v,ev,_⟩:=Iss.get is2 (List.getElem?_eq_getElem hj);exact⟨vs,v,sq,ev⟩
  ·obtain⟨v,ev,iv⟩:=Iss.get is2 (List.getElem?_eq_getElem hj);have:=y.2 vs sq;rw[ev]at this;cases this;exact⟨_,List.getElem?_eq_getElem hj,iv⟩
 ·rename_i c n M1 ef;cases e;exact⟨P0,H0,P,Os,env,M,_,_,k,ef,q⟩
 ·cases e
end
abbrev G:=List D->Mm->O
def spG (K:Fgx)(mg:Mgx)(n:Nat)(g:G):Sp:=fun vs H Q _=>vs.length=n/\∃P M ds d M',Hk K mg P H M/\Iss K P H ds vs/\g ds M=some (.v d,M')/\∀P' v H',LtE P H P' H'->Hk K mg P' H' M'->Is K P' H' d v->Q v H'
def endS (o:OS):O:=match o with
 |some (.rt d,M)=>some (.v d,M)
 |some (.nx _,M)=>some (.v .non,M)
 |some (.ex c n,M)=>some (.x c n,M)
 |_=>none
def fnG (n:Nat)(b:S):G:=fun ds M=>endS (b (ds.map .val ++ List.replicate (n - ds.length) .un) M)
theorem zkK {K:Fgx}{mg:Mgx}{P:Pl}{H:Hp}{M:Mm}{N:List Str}{ds:List D}{vs:List V}(hk:Hk K mg P H M)(hl:vs.length<=N.length)(h:Iss K P H ds vs):
  Ok K mg P H P (List.replicate N.length none) H M (L2.start N vs) (ds.map .val ++ List.replicate (N.length - ds.length) .un):=by
 have hd:=h.len;refine⟨hk,LtE.refl P H,hk.here,fun i s e=>?_,fun a z=>?_,fun i j a e1 _=>?_,by simp;omega,by simp[L2.start];omega⟩
 ·have e0:((List.replicate N.length (none:Option Addr))[i]?).join=none:=by
   rw[List.getElem?_replicate]
   split<;>rfl
  rw[e0]
  by_cases hi:i<ds.length
  ·rw[List.getElem?_append_left (by simpa using hi),List.getElem?_map,List.getElem?_eq_getElem hi]at e;simp only[Option.map_some,Option.some.injEq]at e;subst e;obtain⟨v,ev,p⟩:=h.get (List.getElem?_eq_getElem hi);refine⟨v,?_,p⟩;unfold L2.start;rw[List.getElem?_append_left (by rw[List.length_map];omega),List.getElem?_map,ev];rfl
  ·rw[List.getElem?_append_right (by simpa using hi),List.getElem?_replicate]at e;split at e
   ·cases e;exact True.intro
   ·cases e
 ·exact absurd (List.eq_of_mem_replicate z) (by simp)
 ·rw[List.getElem?_replicate]at e1;split at e1<;>cases e1
structure FunD (K:Fgx)(x qual:Str)(st:Stmt)(f:Addr)(fd:FuncData):Prop where
 ex:∃(oc:Value) (od:Option Addr) (dV kV doc pm:Value) (an:Option Addr) (cdv ct:Value) (osl:Array (Option Value)),
  fd=PySem.W.fnOf x qual (zb5 st) (za9 st) (zah st) dV kV doc pm an cdv ct/\K.lookup f=some ⟨oc,od,.func fd,osl⟩/\PySem.W.codeIn K cdv qual=true
 kp:PySem.W.keepIn K (.ref f)=true
theorem zfM {K:Fgx}{x qual:Str}{st:Stmt}{f:Addr}{oc:Value}{od an:Option Addr}{osl:Array (Option Value)}{dV kV doc pm cdv ct:Value}(l:K.lookup f=some ⟨oc,od,.func (PySem.W.fnOf x qual (zb5 st) (za9 st) (zah st) dV kV doc pm an cdv ct),osl⟩)
  (c:PySem.W.codeIn K cdv qual=true) (k:PySem.W.keepIn K (.ref f)=true):FunD K x qual st f (PySem.W.fnOf x qual (zb5 st) (za9 st) (zah st) dV kV doc pm an cdv ct):=⟨⟨oc,od,dV,kV,doc,pm,an,cdv,ct,osl,rfl,l,c⟩,k⟩
section
variable {P:Program}{w:World}{K:Fgx}{mg:Mgx}{base:Heap}{k:Nat}{x qual:Str}{st:Stmt}{f:Addr}{fd:FuncData}{N ps:List Str}{b:S}
def W0:XW:=fun _ _ _ _ _=>False
abbrev cx0 (P:Program)(w:World)(K:Fgx)(mg:Mgx)(base:Heap)(N:List Str)(qual:Str)(st:Stmt)(f:Addr)(cdv:Value)(A:Around)(outer:List PySem.Env)(s:Shared)(H:Hp)(E:XK):Cx:=(cxOf CX0 P w K mg base N qual (zah st) f cdv A outer s H E).nox
theorem zkv (F:FunD K x qual st f fd)(S:FnScope N ps (zah st))(hp:ps.length<=N.length)
  (hb:∀cdv A outer s H E,Room k (A.deeper (envOfC qual (zah st) s.heap.objs.size f cdv))->SB (cx0 P w K mg base N qual st f cdv A outer s H E) W0 (za9 st) b):FnOk P w K mg base CX0 (k + 1) f fd ps (spG K mg ps.length (fnG N.length b)):=by
 obtain⟨oc,od,dV,kV,doc,pm,an,cdv,ct,osl,rfl,lk,hcd⟩:=F.ex;refine zpe lk hcd S (fun vs H Q E h=>h.1) fun A outer s H vs Q E hr h=>?_;obtain⟨hl,Pl,M,ds,d,M',hk,is,e,q⟩:=h;refine⟨_,PSs.nox (hb cdv A outer s H E hr),?_⟩;unfold fnG endS at e;have st0:=zkK (N:=N) hk (by omega) is;split at e
 ·rename_i d' M2 eb;cases e;exact⟨Pl,H,Pl,_,_,M,_,_,st0,eb,fun P' v H' l h i=>q P' v H' l h i⟩
 ·rename_i env M2 eb;cases e;exact⟨Pl,H,Pl,_,_,M,_,_,st0,eb,fun P' Os' H' st' _ k'=>q P' .non H' k'.base k'.hk rfl⟩
 ·rename_i c n M2 eb;cases e
 ·cases e
def AtG (P:Program)(w:World)(K:Fgx)(mg:Mgx)(base:Heap)(k:Nat)(f:Str)(n:Nat)(g:G):Prop:=
 ∃fa fd ps ds dvs sp,mg f=some (.ref fa)/\PySem.W.keepIn K (.ref fa)=true/\FnOk P w K mg base CX0 k fa fd ps sp/\Binds K fd ps ds/\Vals dvs ds/\∀vs H Q E,spG K mg n g vs H Q E->sp (vs ++ dvs) H Q E
theorem zvE (F:FunD K x qual st f fd)(S:FnScope N ps (zah st))(hp:ps.length<=N.length)(hm:mg x=some (.ref f))(hd:Binds K fd ps [])
  (hb:∀cdv A outer s H E,Room k (A.deeper (envOfC qual (zah st) s.heap.objs.size f cdv))->SB (cx0 P w K mg base N qual st f cdv A outer s H E) W0 (za9 st) b):AtG P w K mg base (k + 1) x ps.length (fnG N.length b):=
 ⟨f,fd,ps,[],[],_,hm,F.kp,zkv F S hp hb,hd,.nil,fun vs H Q E h=>by rw[List.append_nil];exact h⟩
theorem AtG.mono (a:AtG P w K mg base j x n g)(h:j<=k):AtG P w K mg base k x n g:=by
 obtain⟨fa,fd,ps,ds,dvs,sp,h1,h2,h3,h4⟩:=a;exact⟨fa,fd,ps,ds,dvs,sp,h1,h2,h3.mono h,h4⟩
end
section
variable {X:Cx}{Wx:XW}{m:Mode}
def zba (g:G)(fs:EA):E:=fun env M=>bndA (fs env M) fun ds M1=>match g ds M1 with
 |some (.v d,M2)=>some (.v d,M2)
 |_=>none
theorem AllM.len {K:Fgx}{P:Pl}{H:Hp}:∀{ds:List D} {vs:List V},AllM K P H m ds vs->vs.length=ds.length
  | [],_,h=>by rw[show _=[] from h];rfl
  |d::ds,_,h=>by
    obtain⟨v,r,e,_,q⟩:=h;subst e
    simp[AllM.len q]
def Cnt (n:Nat)(fs:EA):Prop:=∀env M ds M',fs env M=some (.v ds,M')->ds.length=n
theorem cnt_nil:Cnt 0 sNil:=fun env M ds M' e=>by cases e;rfl
theorem cnt_cons (h:Cnt n fs):Cnt (n + 1) (zad f fs):=fun env M ds M' e=>by
 unfold zad at e;split at e
 ·split at e
  ·rename_i ef;cases e;rw[List.length_cons,h _ _ _ _ ef]
  ·cases e
  ·cases e
 ·cases e
 ·cases e
theorem zat {k n:Nat}{f:Str}{g:G}{e:Expr}{es:List Expr}{fs:EA}{p pos:Pos}(a:AtG X.prog X.w X.K X.mg X.base k f n g)(hr:Room k X.A)(hg:Gl X f)(ha:SA X Wx .val (e::es) fs)(hn:Cnt n fs)(hdb:(f==("__debug__":Str))=false:=by x_go)
  (he:starEach (e::es) X.env=(false,eval e X.env)::starEach es X.env:=by rfl) (hpl:(backTo pos (starEach es X.env)).any (·.1)=false:=by rfl):SE X Wx m (.Call (.Name f p) (e::es) [] pos) (zba g fs):=by
 obtain⟨fa,fd,ps,ds,dvs,sp,hm,hk,F,hb,hv,himp⟩:=a;refine za1 (zmI F hr hg hm hk hb hv zqK ha hdb he hpl) ?_;rintro st H Q ⟨P0,H0,P,Os,env,M,r,M',k,e,q⟩;unfold zba at e;rcases zdu e with⟨ds,M1,e1,e⟩ |⟨c,n,e1,rfl⟩
 ·split at e
  ·rename_i d M2 eg;cases e;exact⟨P0,H0,P,Os,env,M,_,_,k,e1,fun P1 vs H1 l1 h1 i1=>himp _ _ _ _ ⟨by rw[i1.len];exact hn _ _ _ _ e1,P1,M1,ds,d,_,h1,i1.iss,eg,fun P2 v H2 l2 h2 i2=>q P2 v H2 (l1.trans l2) h2 (IsM.of h2 i2)⟩⟩
  ·cases e
 ·exact⟨P0,H0,P,Os,env,M,_,_,k,e1,q⟩
end
def zmN (i j:Int):Prop:=CMul i j\/(i.natAbs.log2<10000/\j.natAbs.log2<10000)
theorem zkf (h:i.natAbs.log2<10000):Builtin.Int.intBits i<=10001:=by
 unfold Builtin.Int.intBits
 split<;>omega
theorem zmN.ok (h:zmN i j):IntMulOk i j:=by
 rcases h with h |⟨h1,h2⟩
 ·exact h.ok
 ·exact mulOk_of_bits (zkf h1) (zkf h2) (by decide)
theorem zbz:OpR X (binaryOp .Mult) (rI zmN fun i j=>.int (i * j)):=opI fun _ _ _ _ _ _ _ hc q=>mul_int q hc.ok
section
variable {X:Cx}{pins:Pnx}{σ:L2.St}{H:Hp}{s:Shared}{K:Fgx}
def zsF (K:Fgx):R2:=fun x y H Q=>∃l b xs zs,x=.ref l/\y=.ref b/\SqL K H l xs/\SqL K H b zs/\xs.length + zs.length<=sizeLine/\∀p,H p=none->Q (.ref p) (upd H p (.lst (xs ++ zs)))
theorem zmn:OpR X (binaryOp .Add) (zsF X.K):=by
 intro pins s σ H x y v u Q I rx ry h;obtain⟨l,b,xs,zs,rfl,rfl,hH,hB,hz,q⟩:=h;cases rx;cases ry;obtain⟨z,its,r,⟨cls,dd,data,sl⟩,ho,hc,n,hd⟩:=sql I hH;obtain⟨z2,its2,r2,⟨cls2,dd2,data2,sl2⟩,ho2,hc2,n2,hd2⟩:=sql I hB;simp only at hc hd hc2 hd2;subst hc hd hc2 hd2;have hl:=r.length;have hl2:=r2.length;refine concat_meets ⟨_,ho,rfl⟩ ⟨_,ho2,rfl⟩ noFill_list_add seq_list_add F.slot_list_add F.entry_list_add (F.args_list_add_2 _ _) (list_addW l b its.toArray its2.toArray n n2 dd dd2 sl sl2 (by rw[List.size_toArray,List.size_toArray];omega)) ⟨ho,ho2,?_⟩;have ea:its.toArray ++ its2.toArray=(its ++ its2).toArray:=by simp
 rw[ea];exact⟨.ref _,_,I.lnew (t':=s.toks) (r.append r2) (by rw[List.length_append];omega),rfl,q _ I.fresh⟩
theorem zmk {P:Pl}{H:Hp}{ds:List D}{vs:List V}{Q:VK}(hn:∀p,H p=none->¬ P.bd p)(h:Iss K P H ds vs)(q:∀u H',Same H H'->Is K P H' (.lst ds) u->Q u H'):∀p,H p=none->Q (.ref p) (upd H p (.lst vs)):=fun p hp=>by
 have s:=zcU (o:=.lst vs) hp;exact q _ _ s ⟨p,vs,rfl,.inl ⟨hn p hp,.inl zar⟩,Iss.lt ⟨Nat.le_refl _,fun _ _=>rfl,fun _ z=>.inl z,fun a o e _=>s a o e,fun a z=>s.free z⟩ h⟩
theorem zjE {P:Pl}{H:Hp}{ds:List D}{vs:List V}{Q:VK}(h:Iss K P H ds vs)(q:∀u H',Same H H'->Is K P H' (.tup ds) u->Q u H'):∀p,H p=none->Q (.ref p) (upd H p (.tup vs)):=fun p hp=>by
 have s:=zcU (o:=.tup vs) hp;exact q _ _ s ⟨p,vs,rfl,.inl (.inl zar),Iss.lt ⟨Nat.le_refl _,fun _ _=>rfl,fun _ z=>.inl z,fun a o e _=>s a o e,fun a z=>s.free z⟩ h⟩
def oAdd:D->D->Option D
 |.int i,.int j=>some (.int (i + j))
 |.str i,.str j=>if i.length + j.length<=sizeLine then some (.str (i ++ j)) else none
 |.lst xs,.lst ys=>if xs.length + ys.length<=sizeLine then some (.lst (xs ++ ys)) else none
 |_,_=>none
def rAdd (K:Fgx):R2:=fun x y H Q=>rI0 (fun i j=>.int (i + j)) x y H Q\/(∃i j,x=.str i/\y=.str j/\i.length + j.length<=sizeLine/\Q (.str (i ++ j)) H)\/zsF K x y H Q
theorem zaC:OpR X (binaryOp .Add) (rAdd X.K):=ztd.or (zkS.or zmn)
theorem zaZ:zfb K (rAdd K) oAdd:=fun P H d e z v w Q h h1 h2 hn q=>by
 unfold oAdd at h;split at h
 ·cases h;cases h1;cases h2;exact .inl ⟨_,_,rfl,rfl,q _ H (Same.refl H) rfl⟩
 ·split at h
  ·rename_i hl;cases h;cases h1;cases h2;exact .inr (.inl ⟨_,_,rfl,rfl,hl,q _ H (Same.refl H) rfl⟩)
  ·cases h
 ·split at h
  ·rename_i hl;cases h;obtain⟨a,vs,rfl,r1,s1⟩:=h1;obtain⟨b,ws,rfl,r2,s2⟩:=h2;exact .inr (.inr ⟨a,b,vs,ws,rfl,rfl,r1,r2,by rw[s1.len,s2.len];exact hl,zmk hn (s1.append s2) q⟩)
  ·cases h
 ·cases h
def oI (g:Int->Int->Option D):D->D->Option D
 |.int i,.int j=>g i j
 |_,_=>none
theorem zjv (h:oI g d e=some z)(h1:IsW K P H d v)(h2:IsW K P H e w):∃i j,v=.int i/\w=.int j/\g i j=some z:=by
 unfold oI at h;split at h
 ·cases h1;cases h2;exact⟨_,_,rfl,rfl,h⟩
 ·cases h
def oSub:=oI fun i j=>some (.int (i - j))
theorem zgs:zfb K (rI0 fun i j=>.int (i - j)) oSub:=fun P H d e z v w Q h h1 h2 _ q=>by
 obtain⟨i,j,rfl,rfl,h⟩:=zjv h h1 h2;cases h;exact⟨i,j,rfl,rfl,q _ H (Same.refl H) rfl⟩
def oMul:=oI fun i j=>if i.natAbs<18446744073709551616\/j.natAbs<18446744073709551616\/(i.natAbs.log2<10000/\j.natAbs.log2<10000) then some (.int (i * j)) else none
theorem zcw:zfb K (rI zmN fun i j=>.int (i * j)) oMul:=fun P H d e z v w Q h h1 h2 _ q=>by
 obtain⟨i,j,rfl,rfl,h⟩:=zjv h h1 h2;split at h
 ·rename_i hg;cases h;exact⟨i,j,rfl,rfl,by unfold zmN CMul;rw[show(2:Int) ^ 64=18446744073709551616 from rfl];exact hg.elim (fun z=>.inl (.inl ⟨by omega,by omega⟩)) (fun z=>z.elim (fun z=>.inl (.inr ⟨by omega,by omega⟩)) .inr),q _ H (Same.refl H) rfl⟩
 ·cases h
def zdW:=oI fun i j=>if 0<j/\j.natAbs<1073741824 then some (.int (i / j)) else none
theorem zbK:zfb K (rI CDiv fun i j=>.int (i / j)) zdW:=fun P H d e z v w Q h h1 h2 _ q=>by
 obtain⟨i,j,rfl,rfl,h⟩:=zjv h h1 h2;split at h
 ·rename_i hg;cases h;exact⟨i,j,rfl,rfl,⟨hg.1,by omega⟩,q _ H (Same.refl H) rfl⟩
 ·cases h
def oMod:=oI fun i j=>if 0<j then some (.int (i % j)) else none
theorem zaN:zfb K (rI (fun _ j=>0<j) fun i j=>.int (i % j)) oMod:=fun P H d e z v w Q h h1 h2 _ q=>by
 obtain⟨i,j,rfl,rfl,h⟩:=zjv h h1 h2;split at h
 ·rename_i hg;cases h;exact⟨i,j,rfl,rfl,hg,q _ H (Same.refl H) rfl⟩
 ·cases h
def oPow:=oI fun i j=>if 0<=j/\j.natAbs<=1000000/\i.natAbs<18446744073709551616 then some (.int (i ^ j.toNat)) else none
theorem zhv:zfb K (rI CPow fun i j=>.int (i ^ j.toNat)) oPow:=fun P H d e z v w Q h h1 h2 _ q=>by
 obtain⟨i,j,rfl,rfl,h⟩:=zjv h h1 h2;split at h
 ·rename_i hg;cases h;exact⟨i,j,rfl,rfl,by unfold CPow;rw[show(2:Nat) ^ 64=18446744073709551616 from rfl];exact⟨hg.1,by omega,hg.2.2⟩,q _ H (Same.refl H) rfl⟩
 ·cases h
def oCmp (c:Cp)(a b:D):Option D:=(cmpD c a b).map .bl
theorem zao:zfb K (rCp K c) (oCmp c):=fun P H d e z v w Q h h1 h2 _ q=>by
 unfold oCmp at h;rw[Option.map_eq_some_iff]at h;obtain⟨b,h,rfl⟩:=h;exact zj9 h h1 h2 (q _ H (Same.refl H) rfl)
def oIx:D->D->Option D
 |.lst ds,.int i=>atI ds i
 |.tup ds,.int i=>atI ds i
 |.str z,.int i=>if z.length<=sizeLine then(atI z.cps.toList i).map fun c=>.str ⟨#[c]⟩ else none
 |_,_=>none
def rIx (K:Fgx):R2:=fun x y H Q=>rIxL K x y H Q\/rIxT K x y H Q\/rIxS x y H Q
theorem zan:IxR X (rIx X.K):=zpQ.or (zrZ.or zs4)
theorem zlG (h:atI ds i=some d)(q:Iss K P H ds vs):∃u,atI vs i=some u/\Is K P H d u:=by
 unfold atI at h ⊢;rw[q.len]
 cases e:ixN ds.length i with
 |none=>rw[e]at h;cases h
 |some j=>rw[e]at h;exact q.get h
theorem zaw:zfb K (rIx K) oIx:=fun P H d e z v w Q h h1 h2 _ q=>by
 unfold oIx at h;split at h
 ·obtain⟨a,vs,rfl,r,s⟩:=h1;cases h2;obtain⟨u,e,p⟩:=zlG h s;exact .inl ⟨a,vs,_,u,rfl,rfl,r,e,q _ H (Same.refl H) p⟩
 ·obtain⟨a,vs,rfl,r,s⟩:=h1;cases h2;obtain⟨u,e,p⟩:=zlG h s;exact .inr (.inl ⟨a,vs,_,u,rfl,rfl,r,e,q _ H (Same.refl H) p⟩)
 ·split at h
  ·rename_i hl;rw[Option.map_eq_some_iff]at h;obtain⟨c,h,e⟩:=h;cases e;cases h1;cases h2;exact .inr (.inr ⟨_,_,c,rfl,rfl,hl,h,q _ H (Same.refl H) rfl⟩)
  ·cases h
 ·cases h
def bLen:List D->Option D
 | [.lst ds]=>some (.int ds.length)
 | [.tup ds]=>some (.int ds.length)
 | [.str z]=>if z.length<=sizeLine then some (.int z.length) else none
 |_=>none
def rLen (K:Fgx):List V->Hp->VK->Prop:=fun xs H Q=>(∃p ys,xs=[.ref p]/\(SqL K H p ys\/SqT K H p ys)/\Q (.int ys.length) H)\/∃z,xs=[.str z]/\z.length<=sizeLine/\Q (.int z.length) H
theorem zaO:zdM X (.builtin "len") (rLen X.K):=zi0.or zjq
theorem zcz:zhq K (rLen K) bLen:=fun P H ds z vs Q h i _ q=>by
 unfold bLen at h;split at h
 ·obtain⟨v,ws,rfl,p,rfl⟩:=i;cases h;obtain⟨a,us,rfl,r,s⟩:=p;exact .inl ⟨a,us,rfl,.inl r,q _ H (Same.refl H) (by rw[s.len];rfl)⟩
 ·obtain⟨v,ws,rfl,p,rfl⟩:=i;cases h;obtain⟨a,us,rfl,r,s⟩:=p;exact .inl ⟨a,us,rfl,.inr r,q _ H (Same.refl H) (by rw[s.len];rfl)⟩
 ·split at h
  ·rename_i hl;obtain⟨v,ws,rfl,p,rfl⟩:=i;cases h;cases p;exact .inr ⟨_,rfl,hl,q _ H (Same.refl H) rfl⟩
  ·cases h
 ·cases h
def bMin:List D->Option D
 | [.int i,.int j]=>some (.int (if j<i then j else i))
 |_=>none
theorem zrL:zhq K (fun xs H Q=>∃i j,xs=[.int i,.int j]/\Q (.int (if j<i then j else i)) H) bMin:=fun P H ds z vs Q h i _ q=>by
 unfold bMin at h;split at h
 ·obtain⟨v,ws,rfl,p,v',ws',rfl,p',rfl⟩:=i;cases h;cases p;cases p';exact⟨_,_,rfl,q _ H (Same.refl H) rfl⟩
 ·cases h
end
section
variable {X:Cx}{Wx:XW}{m:Mode}
def tyD:D->String
 |.non=>"NoneType"
 |.bl _=>"bool"
 |.int _=>"int"
 |.str _=>"str"
 |.tup _=>"tuple"
 |.lst _=>"list"
 |.ref _=>""
theorem zmW:zdM X (.builtin "isinstance") (fun xs H Q=>∃(x:V) (T:String) (d:D) (P:Pl) (b:Bool),xs=[x,.ty T]/\IsW X.K P H d x/\tyD d≠""/\PySem.W.kitOne X.K (.type (tyD d)) (.type T)=some b/\Q (.bl b) H):=by
  intro pins s σ H xs us Q I r h;obtain⟨x,T,d,A,b,rfl,i,ne,e,q⟩:=h;obtain⟨u,w',rfl,rx,rT⟩:=vals2 r;cases rT;have fin:∀tk,EP X pins σ Q (.bool b) {s with toks:=tk}:=fun tk=>⟨.bl b,H,I.tok _,rfl,q⟩
  cases d with
  |non=>have hv:x=.non:=i;subst hv;exact zfe I rx (TyOf.non) e fin
  |bl y=>have hv:x=.bl y:=i;subst hv;exact zfe I rx (TyOf.bl y) e fin
  |int y=>have hv:x=.int y:=i;subst hv;exact zfe I rx (TyOf.int y) e fin
  |str y=>have hv:x=.str y:=i;subst hv;exact zfe I rx (TyOf.str y) e fin
  |ref n=>exact absurd rfl ne
  |tup ds=>
    obtain⟨a,vs,rfl,t,_⟩:=i;cases rx;obtain⟨its,_,p,_⟩:=I.tuple t;obtain⟨o,h1,h2,_⟩:=p;exact PySem.W.kia_one PySem.W.kitx_tuple I.kIn ⟨o,h1,h2⟩ e (fun z=>nomatch z) fin
  |lst ds=>
    obtain⟨a,vs,rfl,t,_⟩:=i;cases rx;obtain⟨_,its,_,o,h1,h2,_⟩:=sql I t;exact PySem.W.kia_one PySem.W.kitx_list I.kIn ⟨o,h1,h2⟩ e (fun z=>nomatch z) fin
theorem zn1 {K:Fgx}{P:Pl}{H:Hp}{lo:Int}{n:Nat}:Wk K P H (Itr lo n) ((List.range n).map fun(k:Nat)=>.int (lo + k)):=fun P' H' l=>by
 rw[List.length_map,List.length_range];refine⟨fun k hk=>hk,fun k h1 _=>h1,fun k x H2 y hk=>⟨y.1,.int (lo + k),?_,y.2⟩⟩;rw[List.getElem?_map,List.getElem?_range hk];rfl
def zhh (fs:EA):EA:=fun env M=>match fs env M with
 |some (.v [.int j],M1)=>if -1000000000<=j/\j<=1000000000 then some (.v ((List.range j.toNat).map fun(k:Nat)=>.int (0 + k)),M1) else none
 |some (.x c n,M1)=>some (.x c n,M1)
 |_=>none
theorem zh7 (hg:Gl X "range")(hm:X.mg "range"=none)(ha:SA X Wx .val [a] fs)(hs:starEach [a] X.env=[(false,eval a X.env)]:=by rfl):SI X Wx tg (.Call (.Name "range" p) [a] [] pos) (zhh fs):=by
 refine ziY (zmv hg hm ha hs) ?_;rintro st H R ⟨P0,H0,P,Os,env,M,r,M',k,e,q⟩;unfold zhh at e;split at e
 ·rename_i j M1 ef;split at e
  ·rename_i hj;cases e;refine⟨P0,H0,P,Os,env,M,_,_,k,ef,fun P1 vs H1 l1 h1 i1=>?_⟩;obtain⟨v,ws,rfl,p,rfl⟩:=i1;exact⟨j,by rw[show v=.int j from p],by omega,by omega,q P1 H1 _ l1 h1 zn1⟩
  ·cases e
 ·rename_i c n M1 ef;cases e;exact⟨P0,H0,P,Os,env,M,_,_,k,ef,q⟩
 ·cases e
def pNo:Env->Mm->Option (Option Int×Mm):=fun _ M=>some (none,M)
def pAt (f:E):Env->Mm->Option (Option Int×Mm):=fun env M=>match f env M with
 |some (.v (.int i),M1)=>some (some i,M1)
 |_=>none
def tP (K:Fgx)(mg:Mgx)(f:Env->Mm->Option (Option Int×Mm)):TO:=fun st H Q=>∃P0 H0 P Os env M i M',Ok K mg P0 H0 P Os H M st env/\f env M=some (i,M')/\∀P' H',LtE P H P' H'->Hk K mg P' H' M'->Q i H'
def SP3 (X:Cx)(e:Option Expr)(f:Env->Mm->Option (Option Int×Mm)):Prop:=PO X e (tP X.K X.mg f)
theorem zov (h:PO X e t)(w:∀σ H Q,t' σ H Q->t σ H Q):PO X e t':=fun pins s σ H Q I hw=>h pins s σ H Q I (w σ H Q hw)
theorem zli:SP3 X none pNo:=by
 refine zov zqI ?_;rintro st H Q ⟨P0,H0,P,Os,env,M,i,M',k,e,q⟩;cases e;exact q P H (LtE.refl P H) k.hk
theorem zf7 (h:SE X Wx .val e f):SP3 X (some e) (pAt f):=by
 refine zov (zqD h) ?_;rintro st H Q ⟨P0,H0,P,Os,env,M,i,M',k,e,q⟩;unfold pAt at e;split at e
 ·rename_i j M1 ef;cases e;exact⟨P0,H0,P,Os,env,M,_,_,k,ef,fun P1 v H1 l1 h1 i1=>⟨j,i1,q P1 H1 l1 h1⟩⟩
 ·cases e
def cutL {α:Type}(xs:List α)(lo hi:Option Int):List α:=(xs.drop (HT.sIx xs.length 0 lo)).take (HT.sIx xs.length xs.length hi - HT.sIx xs.length 0 lo)
theorem zm3 {K:Fgx}{P:Pl}{H:Hp}{ds:List D}{vs:List V}{lo hi:Option Int}(q:Iss K P H ds vs):Iss K P H (cutL ds lo hi) (cutV vs lo hi):=by
 unfold cutL cutV;rw[q.len];exact(q.drop _).take _
def slD (d:D)(lo hi:Option Int):Option D:=match d with
 |.lst ds=>some (.lst (cutL ds lo hi))
 |.str z=>if z.length<=sizeLine then some (.str (Txt.slice z lo hi)) else none
 |_=>none
def sSl (f:E)(l h:Env->Mm->Option (Option Int×Mm)):E:=fun env M=>bnd (f env M) fun d M1=>match l env M1 with
  | some (lo, M2) => (match h env M2 with
    |some (hi,M3)=>(slD (vw M3 d) lo hi).map fun z=>(.v z,M3)
    |none=>none)
  |none=>none
theorem zi8 {e:Expr}{lo hi:Option Expr}{p2 pos:Pos}{f:E}{l h:Env->Mm->Option (Option Int×Mm)}(he:SE X Wx .bor e f)(hl:SP3 X lo l)(hh:SP3 X hi h):SE X Wx m (.Subscript e (.Slice lo hi none p2) pos) (sSl f l h):=by
 refine za1 (zkp (zp6.or zrE) he hl hh) ?_;rintro st H Q ⟨P0,H0,P,Os,env,M,r,M',k,e,q⟩;unfold sSl at e;rcases zaG e with⟨d,M1,e1,e⟩ |⟨c,n,e1,rfl⟩
 ·split at e
  ·rename_i lo' M2 el;split at e
   ·rename_i hi' M3 eh;rw[Option.map_eq_some_iff]at e;obtain⟨z,ez,e⟩:=e;cases e;refine zax k e1 fun P1 v1 H1 l1 h1 i1=>⟨P0,H0,P1,Os,env,M1,_,_,k.next l1 h1,el,fun P2 H2 l2 h2=>⟨P0,H0,P2,Os,env,M2,_,_,(k.next l1 h1).next l2 h2,eh,fun P3 H3 l3 h3=>?_⟩⟩
    have i3:=IsB.vw h3 (IsB.lt l3 h2 (IsB.lt l2 h1 i1));have fin:∀u H',Same H3 H'->Is X.K P3 H' z u->Q u H':=fun u H' s i=>q P3 u H' (l1.trans (l2.trans (l3.trans (LtE.same s)))) (h3.same s) (IsM.of (h3.same s) i);generalize vw M' d=d' at i3 ez;unfold slD at ez;split at ez
    ·cases ez;obtain⟨a,vs,rfl,r,s⟩:=i3;exact .inl ⟨a,vs,rfl,r,zmk h3.new (zm3 s) fin⟩
    ·split at ez
     ·rename_i hz;cases ez;cases i3;exact .inr ⟨_,rfl,hz,fin _ _ (Same.refl _) rfl⟩
     ·cases ez
    ·cases ez
   ·cases e
  ·cases e
 ·exact zax k e1 q
def zhe (f:E):E:=fun env M=>bnd (f env M) fun d M1=>match d with
 |.lst ds=>some (.v (.ref M1.length),M1 ++ [.lst ds])
 |_=>none
theorem zfR (h:SN X Wx e f):SE X Wx m e (zhe f):=by
  refine za1 h ?_;rintro st H Q ⟨P0,H0,P,Os,env,M,r,M',k,e,q⟩;unfold zhe at e;rcases zaG e with⟨d,M1,e1,e⟩ |⟨c,n,e1,rfl⟩
  · cases d<;>simp only[reduceCtorEq]at e
    rename_i ds;cases e;refine⟨P0,H0,P,Os,env,M,_,_,k,e1,ds,rfl,fun P1 a vs H1 l1 h1 ha ba nc ea is=>?_⟩;have hn:P1.n=M1.length:=h1.n
    let P2:Pl:={io:=fun j=>if j=P1.n then a else P1.io j,n:=P1.n + 1,bd:=P1.bd}
    have io : ∀ j, j < P1.n -> P2.io j = P1.io j := fun j hj => if_neg (by omega);have ioN : P2.io P1.n = a := if_pos rfl;have l2 : Lt P1 H1 P2 H1 := ⟨Nat.le_succ _, io, fun _ z => .inl z, fun _ _ e _ => e, fun _ z => z⟩;have le : LtE P H P2 H1 := ⟨Nat.le_succ_of_le l1.n,fun j hj=>(io j (Nat.lt_of_lt_of_le hj l1.n)).trans (l1.io j hj),l1.bd,l1.bm,l1.keep,l1.sure,fun j h2 h3=>by
      rcases Nat.lt_or_ge j P1.n with z |z
      · rw[io j z];exact l1.nw j h2 z
      · have:j=P1.n:=Nat.le_antisymm (Nat.le_of_lt_succ h3) z;rw[this,ioN];exact ha⟩
    have hk2:Hk X.K X.mg P2 H1 (M1 ++ [.lst ds]):=by
      refine⟨by rw[List.length_append, <-hn];rfl,fun j c ej=>?_,fun i j hi hj e=>?_,fun j hj=>?_,h1.here⟩
      · rcases Nat.lt_or_ge j P1.n with z |z
        · rw[List.getElem?_append_left (by rw[<-hn];exact z)]at ej;rw[io j z];exact(h1.cell j c ej).lt l2 fun _ z=>z
        · have jl:=(List.getElem?_eq_some_iff.mp ej).1;rw[List.length_append,List.length_singleton, <-hn]at jl;have:j=P1.n:=by omega
          subst this;rw[List.getElem?_append_right (by rw[hn];exact Nat.le_refl _),hn,Nat.sub_self]at ej;cases ej;rw[ioN];exact⟨vs,ea,Iss.lt l2 is⟩
      · rcases Nat.lt_or_ge i P1.n with z |z
        · rcases Nat.lt_or_ge j P1.n with y |y
          · rw[io i z,io j y]at e;exact h1.inj i j z y e
          · have:j=P1.n:=Nat.le_antisymm (Nat.le_of_lt_succ hj) y;rw[io i z,this,ioN]at e;exact absurd e (nc i z)
        · have iN:i=P1.n:=Nat.le_antisymm (Nat.le_of_lt_succ hi) z;rcases Nat.lt_or_ge j P1.n with y |y
          · rw[iN,ioN,io j y]at e;exact absurd e.symm (nc j y)
          · rw[iN];exact Nat.le_antisymm y (Nat.le_of_lt_succ hj)
      · rcases Nat.lt_or_ge j P1.n with z |z
        · rw[io j z];exact h1.bd j z
        · have:j=P1.n:=Nat.le_antisymm (Nat.le_of_lt_succ hj) z;rw[this,ioN];exact ba
    exact q P2 _ H1 le hk2 (IsM.of hk2 (show Is _ _ _ (.ref _) _ from⟨by show _<P1.n + 1;rw[hn];exact Nat.lt_succ_self _,by rw[<-hn,ioN]⟩))
  · exact⟨P0,H0,P,Os,env,M,_,_,k,e1,q⟩
def zil (f g:E):S:=fun env M=>bndS (f env M) fun d M1=>match d with
  | .ref j => (match M1[j]? with
    | some (.lst _) => bndS (g env M1) fun y M2 => (match M2[j]? with
      |some (.lst ds)=>if ds.length<sizeLine then some (.nx env,M2.set j (.lst (ds ++ [y]))) else none
      |_=>none)
    |_=>none)
  |_=>none
theorem zg5 (ho:SE X Wx .val o f)(he:SE X Wx .val e g)(hbase:attributeBase o "append" X.env (eval o X.env)=eval o X.env:=by rfl)
  (hfew:((backTo q (starEach [e] X.env)).all (fun x=> !x.1) && (backToKw q (keywordEach [] X.env)).all (fun x=>x.1.isSome) && decide ([e].length + ([]:List Keyword).length + (if ([]:List Keyword).isEmpty then 0 else 1)<30))=true:=by rfl)
  (hline:(p.endLine==q.line)=true:=by rfl) (hs:starEach [e] X.env=(false,eval e X.env)::starEach [] X.env:=by rfl) (hw:swapsWith (.Call (.Attribute o "append" p) [e] [] q) none pos.line X.env=pure false:=by rfl):
  SS X Wx (.Expr (.Call (.Attribute o "append" p) [e] [] q) pos) (zil f g):=by
 refine zcy (zfG (zpZ PySem.F.plainAttrs_list PySem.F.slot_list_append PySem.F.type_list_append zgT ho (zdy he zfX hs) hbase hfew hline hs rfl) hw) ?_;rintro D st H ⟨P0,H0,P,Os,env,M,out,M',k,e,q⟩;unfold zil at e;rcases za0 e with⟨d,M1,e1,e⟩ |⟨c,n,e1,rfl⟩
 ·cases d<;>simp only[reduceCtorEq]at e
  rename_i j;split at e
  rotate_left
  ·cases e
  rename_i ds0 em0;refine⟨P0,H0,P,Os,env,M,_,_,k,e1,fun P1 v1 H1 l1 h1 i1=>?_⟩;have k1:=k.next l1 h1
  obtain⟨jl,rfl⟩:j<P1.n/\v1=.ref (P1.io j):=i1;obtain⟨vs0,ev0,_⟩:=h1.cell j _ em0;refine⟨.inl ⟨rfl,vs0,.inl (.inl ev0)⟩,?_⟩;rcases za0 e with⟨y,M2,e2,e⟩ |⟨c,n,e2,rfl⟩
  ·split at e
   ·rename_i ds em;split at e
    ·rename_i hz;cases e;refine zax k1 e2 fun P2 v2 H2 l2 h2 i2=>?_;obtain⟨vs,ev,is⟩:=h2.cell j _ em;rw[l2.io j jl]at ev;have i3:=Is.lt (Lt.refl P2 H2) i2;refine⟨P1.io j,vs,v2,rfl,rfl,ev,by rw[is.len];exact hz,?_⟩;have eio:P2.io j=P1.io j:=l2.io j jl;have jl2:j<P2.n:=Nat.lt_of_lt_of_le jl l2.n;obtain⟨o0,eo0,nf0⟩:=h2.cellAt jl2;have lc:Lt P2 H2 P2 (upd H2 (P2.io j) (.lst (vs ++ [v2]))):=zfy (h2.bd j jl2) eo0 nf0;obtain⟨l3,l3e,h3⟩:=h2.set (c':=.lst (ds ++ [y])) (o':=.lst (vs ++ [v2])) em ⟨vs ++ [v2],zar,Iss.append (Iss.lt lc is) (Iss.one (Is.lt lc i2))⟩;rw[eio]at l3 l3e h3;exact q _ _ _ _ ((l1.lt k.hk).trans ((l2.lt h1).trans l3)) ((k1.next l2 h2).next l3e h3)
    ·cases e
   ·cases e
  ·exact zax k1 e2 q
 ·exact⟨P0,H0,P,Os,env,M,_,_,k,e1,q⟩
end
section
variable {X:Cx}{Wx:XW}{m:Mode}{pos:Pos}
def sChn (c c':Cp)(f g h:E):E:=fun env M=>bnd (f env M) fun x M1=>bnd (g env M1) fun y M2=>match cmpD c (vw M2 x) (vw M2 y) with
 |some true=>bnd (h env M2) fun z M3=>(cmpD c' (vw M3 y) (vw M3 z)).map fun b=>(.v (.bl b),M3)
 |some false=>some (.v (.bl false),M2)
 |none=>none
theorem zoM {c c':Cp}{f g h:E}{st:L2.St}{H:Hp}{Q:VK}(w:tE X.K X.mg Wx m (sChn c c' f g h) st H Q):zmR (rCp X.K c) (rCp X.K c') (tE X.K X.mg Wx .bor f) (tE X.K X.mg Wx .bor g) (tE X.K X.mg Wx .bor h) st H Q:=by
  obtain⟨P0,H0,P,Os,env,M,rr,M',k,e,q⟩:=w;unfold sChn at e;rcases zaG e with⟨x,M1,e1,e⟩ |⟨c,n,e1,rfl⟩
  · refine zax k e1 fun P1 v1 H1 l1 h1 i1=>?_;have k1:=k.next l1 h1
    rcases zaG e with⟨y,M2,e2,e⟩ |⟨c,n,e2,rfl⟩
    · refine zax k1 e2 fun P2 v2 H2 l2 h2 i2=>?_;have k2:=k1.next l2 h2
      have w1:=IsB.vw h2 (IsB.lt l2 h1 i1);have w2:=IsB.vw h2 i2;split at e
      · rename_i ec;refine zj9 ec w1 w2 ⟨true,rfl,?_⟩;rw[if_pos rfl];rcases zaG e with⟨z,M3,e3,e⟩ |⟨c,n,e3,rfl⟩
        · refine zax k2 e3 fun P3 v3 H3 l3 h3 i3=>?_;rw[Option.map_eq_some_iff]at e;obtain⟨b,eb,e⟩:=e;cases e;exact zj9 eb (IsB.vw h3 (IsB.lt l3 h2 i2)) (IsB.vw h3 i3) (q P3 _ H3 (l1.trans (l2.trans l3)) h3 (IsM.of h3 (show Is _ _ _ (.bl b) _ from rfl)))
        · exact zax k2 e3 q
      · rename_i ec;cases e;refine zj9 ec w1 w2 ⟨false,rfl,?_⟩;rw[if_neg (by decide)];exact q P2 _ H2 (l1.trans l2) h2 (IsM.of h2 (show Is _ _ _ (.bl false) _ from rfl))
      · cases e
    · exact zax k1 e2 q
  · exact zax k e1 q
theorem ztM (hu:X.A.units + 60<cLine)(ha:SE X Wx .bor a f)(hb:SE X Wx .bor b g)(hc:SE X Wx .bor c h)(hm:lastMarks [cpP c1,cpP c2] [b,c]=false:=by with_unfolding_all rfl):SE X Wx m (.Compare a [cpP c1,cpP c2] [b,c] pos) (sChn c1 c2 f g h):=
 za1 (zn6 (zaA hu c1) (zaA hu c2) ha hb hc hm) fun _ _ _ w=>zoM w
theorem zsL (hu:X.A.units + 60<cLine)(ha:SE X Wx .bor a f)(hb:SE X Wx .bor b g)(hc:SE X Wx .bor c h)(hm:lastMarks [cpP c1,cpP c2] [b,c]=false:=by with_unfolding_all rfl):ST X Wx (.Compare a [cpP c1,cpP c2] [b,c] pos) (sChn c1 c2 f g h):=
 zgW (znz (zaA hu c1) (zaA hu c2) ha hb hc hm) fun _ _ _ w=>zoM (zl1 w)
def zfZ (f:E):E:=fun env M=>bnd (f env M) fun d M1=>match vw M1 d with
 |.lst ds=>some (.v (.lst ds),M1)
 |.tup ds=>some (.v (.lst ds),M1)
 |_=>none
theorem zmL (hg:Gl X "list")(hm:X.mg "list"=none)(he:SE X Wx .bor e f)(hs:starEach [e] X.env=(false,eval e X.env)::starEach [] X.env:=by rfl):SN X Wx (.Call (.Name "list" p) [e] [] pos) (zfZ f):=by
 refine za1 (zjc ziz hg hm boot_list (zdy he zfX hs) (by x_go) (by x_go) hs rfl) ?_;rintro st H Q ⟨P0,H0,P,Os,env,M,r,M',k,e,q⟩;unfold zfZ at e;rcases zaG e with⟨d,M1,e1,e⟩ |⟨c,n,e1,rfl⟩
 ·refine zax k e1 ?_;have key:∀ds,r=.v (.lst ds)->M'=M1->(∀P1 v1 H1,IsW X.K P1 H1 (vw M1 d) v1->∃a vs,v1=.ref a/\(SqL X.K H1 a vs\/SqT X.K H1 a vs)/\Iss X.K P1 H1 ds vs)->∀P1 v1 H1,LtE P H P1 H1->Hk X.K X.mg P1 H1 M1->IsM X.K P1 H1 .bor d v1->
    ∃p ys,[v1]=[V.ref p]/\(SqL X.K H1 p ys\/SqT X.K H1 p ys)/\∀l,H1 l=none->Q (.ref l) (upd H1 l (.lst ys)):=by
   rintro ds rfl rfl hv P1 v1 H1 l1 h1 i1;obtain⟨ds',e',q⟩:=q;cases e';obtain⟨a,vs,rfl,sq,is⟩:=hv P1 v1 H1 (IsB.vw h1 i1);refine⟨a,vs,rfl,sq,fun p hp=>?_⟩;obtain⟨l2,h2,nc⟩:=ziv (vs:=vs) h1 hp;exact q (P1.bar p) p vs _ (l1.trans l2) h2 (l1.sure p hp) (.inr rfl) nc zar (Iss.lt (l2.lt h1) is)
  split at e
  ·rename_i ds ev;cases e;exact key ds rfl rfl fun P1 v1 H1 i=>by
    rw[ev]at i;obtain⟨a,vs,e,s,is⟩:=i;exact⟨a,vs,e,.inl s,is⟩
  ·rename_i ds ev;cases e;exact key ds rfl rfl fun P1 v1 H1 i=>by
    rw[ev]at i;obtain⟨a,vs,e,s,is⟩:=i;exact⟨a,vs,e,.inr s,is⟩
  ·cases e
 ·exact zax k e1 q
theorem zmG:∀env M r M',zfZ f env M=some (.v r,M')->∃ds,r=.lst ds:=fun env M r M' e=>by
 unfold zfZ at e;rcases zaG e with⟨ds,M1,e1,e⟩ |⟨c,n,e1,e⟩
 ·split at e
  ·cases e;exact⟨_,rfl⟩
  ·cases e;exact⟨_,rfl⟩
  ·cases e
 ·cases e
end
def spL (K:Fgx)(g:G):Sp:=fun vs H Q E=>∀mg,spG K mg 1 g vs H Q E
theorem zrz {P:Program}{w:World}{K:Fgx}{mg:Mgx}{base:Heap}{k:Nat}{f:Addr}{fd:FuncData}{ps:List Str}{g:G}(F:FnOk P w K mg base CX0 k f fd ps (spG K mg 1 g)):FnOk P w K mg base CX0 k f fd ps (spL K g):=
 ⟨fun vs H Q E h=>F.len vs H Q E (h mg),fun A outer s H args us vs Q E hr he hb hv hs=>F.run A outer s H args us vs Q E hr he hb hv (hs mg)⟩
theorem zkm {K:Fgx}{P:Pl}{H:Hp}:∀ns:List Int,Iss K P H (ns.map D.int) (ns.map V.int)
 | []=>rfl
 |n::ns=>⟨.int n,_,rfl,rfl,zkm ns⟩
theorem zq0 {K:Fgx}{g:G}{H:Hp}{a:Addr}{ns:List Int}(hg:∃M,g [.lst (ns.map D.int)] []=some (.v (.bl true),M))(hS:SqL K H a (ns.map V.int)):spL K g [.ref a] H (fun v _=>v=.bl true) fun _ _ _=>False:=by
 intro mg;obtain⟨M,e⟩:=hg;refine⟨rfl,⟨fun _=>0,0,fun _=>False⟩,[],[.lst (ns.map D.int)],.bl true,M,⟨rfl,fun k c e=>(by cases e),fun j k h=>absurd h (Nat.not_lt_zero _),fun k h=>absurd h (Nat.not_lt_zero _),fun a z=>z.elim⟩,⟨.ref a,[],rfl,⟨a,ns.map V.int,rfl,?_,zkm ns⟩,rfl⟩,e,fun P' v H' _ _ i=>i⟩;rcases hS with h |h
 ·exact .inl ⟨fun z=>z,h⟩
 ·exact .inr h
theorem zqH {l:PySem.W.OpenLaw}{k:Nat}{q:Program}{loose:List Str}{XP:(Mgx)->Heap->Prop}{YP:World->Heap->Prop}{d:DefRec}{K:Params->Fgx}{x:Str}{g:G}
  (hn:l.most=some 63) (hdf:d.params.defaults=[]) (hr:Room k callerA) (hY:∀(w:World) (h:Heap),YP w h->(K w.params).In h)
  (F:∀(w:World) (mg:Mgx) (fa:Addr) (h:Heap),(K w.params).In h->h.Ns mainGlobals mg->mg d.name=some (.ref fa)->
   ∃fd:FuncData,(∀(s:Shared) (u:Value),BindsTo s fd ⟨[u],[]⟩ [(x,u)])/\
    ∀base:Heap,(K w.params).In base->base.Ns mainGlobals mg->FnOk l.prog w (K w.params) mg base CX0 k fa fd [x] (spL (K w.params) g))
  (hg:∀ns:List Int,ns.length<=63->∃M,g [.lst (ns.map D.int)] []=some (.v (.bl true),M)):PySem.W.WalkO q loose XP YP l.row.toRowW d [] (fun f vs=>PySem.call f vs):=
 L2.znB (sp:=fun K=>spL K g) hn (by decide) hdf hr hY F (fun K H a ns hl _ hS=>zq0 (hg ns hl) hS) fun _ _ _ _ z=>z
section
variable {X:Cx}{Wx:XW}{m:Mode}{e:Expr}
theorem se_i (h:PE X e (tC (.int i))):SE X Wx m e (sCon (.int i)):=(zki (d:=.int i) h fun _ _=>rfl).bor
theorem se_s (h:PE X e (tC (.str z))):SE X Wx m e (sCon (.str z)):=(zki (d:=.str z) h fun _ _=>rfl).bor
theorem se_b (h:PE X e (tC (.bl b))):SE X Wx m e (sCon (.bl b)):=(zki (d:=.bl b) h fun _ _=>rfl).bor
theorem se_v (hN:X.N[i]? =some x)(hv:X.env.scope.names.lookup x=some .local)(hd:(x==("__debug__":Str))=false:=by x_go)(hcd:(x==("__classdict__":Str))=false:=by x_go):SE X Wx m (.Name x pos) (sVar i):=(zoi hN (.inl hv) hd hcd).bor
theorem zo8 (hN:X.N[i]? =some x)(hv:X.env.scope.names.lookup x=some .local)(hd:(x==("__debug__":Str))=false:=by x_go)(hcd:(x==("__classdict__":Str))=false:=by x_go):SE X Wx .bor (.Name x pos) (zje i):=zpB hN (.inl hv) hd hcd
theorem SN.sem (h:SN X Wx e f)(hf:∀env M r M',f env M=some (.v r,M')->∃ds,r=.lst ds):SE X Wx m e f:=(SN.se h hf).bor
end
def putD (f:Str)(d:D):List (Str×D)->List (Str×D)
 | []=>[(f,d)]
 |(g,x)::r=>if g=f then(g,d)::r else(g,x)::putD f d r
section
variable {K:Fgx}{mg:Mgx}{P:Pl}{H:Hp}{M:Mm}
def FsOk (K:Fgx)(P:Pl)(H:Hp)(fs:List (Str×D))(gs:List (Str×V)):Prop:=gs.map (·.1)=fs.map (·.1)/\Iss K P H (fs.map (·.2)) (gs.map (·.2))
theorem zoT (i:Is K P H d v):∀{fs:List (Str×D)} {gs:List (Str×V)},FsOk K P H fs gs->FsOk K P H (putD f d fs) (putF f v gs)
  | [],[],_=>⟨rfl,v,[],rfl,i,rfl⟩
  | [],_::_,h=>by cases h.1
  |_::_,[],h=>by cases h.1
  |(g,x)::fs,(g',y)::gs,h=>by
    obtain⟨h1,v',r,e1,p,q⟩:=h;simp only[List.map_cons,List.cons.injEq]at h1 e1;obtain⟨rfl,h1⟩:=h1;obtain⟨rfl,rfl⟩:=e1;unfold putD putF
    split
    · exact⟨by simp[h1],v,_,rfl,i,q⟩
    · obtain⟨a,b⟩:=zoT i (fs:=fs) (gs:=gs) ⟨h1,q⟩;exact⟨by simp[a],y,_,rfl,p,b⟩
theorem ztp (h:FsOk K P H fs gs):gs.length=fs.length:=by
 have:=congrArg List.length h.1
 simpa using this
end
structure ClsOk (K:Fgx)(mg:Mgx)(c:Str)(C:Addr):Prop where
 mg:mg c=some (.ref C)
 cl:Cls K C
section
variable {X:Cx}{Wx:XW}{m:Mode}{pos:Pos}
def zlx (M:Mm)(c:Str)(d:D):Option (Nat×List (Str×D)):=match d with
  | .ref k => (match M[k]? with
    |some (.obj c' fs)=>if c'=c then some (k,fs) else none
    |_=>none)
  |_=>none
theorem znb (h:zlx M c d=some (k,fs)):d=.ref k/\M[k]? =some (.obj c fs):=by
 unfold zlx at h;split at h
 ·split at h
  ·split at h
   ·rename_i e1 e2;cases h;subst e2;exact⟨rfl,e1⟩
   ·cases h
  ·cases h
 ·cases h
def zle (c f:Str)(o v:E):S:=fun env M=>bndS (v env M) fun y M1=>bndS (o env M1) fun d M2=>match zlx M2 c d with
 |some (k,fs)=>if fs.length<1000 then some (.nx env,M2.set k (.obj c (putD f y fs))) else none
 |none=>none
theorem zqs {K:Fgx}{mg:Mgx}{P:Pl}{H:Hp}{M:Mm}{j:Nat}{c f:Str}{fs:List (Str×D)}{y:D}{v:V}{C dx:Addr}{gs:List (Str×V)}(h:Hk K mg P H M)(em:M[j]? =some (.obj c fs))(ec:mg c=some (.ref C))(eh:H (P.io j)=some (.ins C dx gs))(fo:FsOk K P H fs gs)(iv:Is K P H y v):
  Lt P H P (upd H (P.io j) (.ins C dx (putF f v gs)))/\LtE P H P (upd H (P.io j) (.ins C dx (putF f v gs)))/\Hk K mg P (upd H (P.io j) (.ins C dx (putF f v gs))) (M.set j (.obj c (putD f y fs))):=by
 have jl:j<P.n:=by rw[h.n];exact(List.getElem?_eq_some_iff.mp em).1
 have lc:Lt P H P (upd H (P.io j) (.ins C dx (putF f v gs))):=zfy (h.bd j jl) eh zrB;have fp:=zoT (f:=f) iv fo;exact h.set (c':=.obj c (putD f y fs)) (o':=.ins C dx (putF f v gs)) em ⟨C,dx,putF f v gs,ec,zar,fp.1,Iss.lt lc fp.2⟩
theorem zmQ {c f:Str}{C:Addr}{o e:Expr}{fo fv:E}{pos':Pos}(hc:ClsOk X.K X.mg c C)(hn:zgK X.K C f)(ho:SE X Wx .val o fo)(he:SE X Wx .val e fv)(hs:swapsWith e (some (.Attribute o f pos')) pos.line X.env=pure false:=by rfl):SS X Wx (.Assign [.Attribute o f pos'] e pos) (zle c f fo fv):=by
 refine zcy (zt2 ho he hs) ?_;rintro D st H ⟨P0,H0,P,Os,env,M,out,M',k,e,q⟩;unfold zle at e;rcases za0 e with⟨y,M1,e1,e⟩ |⟨c,n,e1,rfl⟩
 ·refine zax k e1 fun P1 v1 H1 l1 h1 i1=>?_;have k1:=k.next l1 h1
  rcases za0 e with⟨d,M2,e2,e⟩ |⟨c,n,e2,rfl⟩
  ·split at e
   ·rename_i j fs eo;split at e
    ·rename_i hl;cases e;obtain⟨rfl,em⟩:=znb eo;refine zax k1 e2 fun P2 v2 H2 l2 h2 i2=>?_;obtain⟨jl,rfl⟩:j<P2.n/\v2=.ref (P2.io j):=i2;obtain⟨C',dx,gs,ec,eh,en,is⟩:=h2.cell j _ em;have eC:C'=C:=by
      have:=ec.symm.trans hc.mg;cases this;rfl
     subst eC;obtain⟨l3,l3e,h3⟩:=zqs (f:=f) h2 em ec eh ⟨en,is⟩ (Is.lt (l2.lt h1) i1);exact⟨_,C',dx,gs,rfl,eh,hc.cl,hn,by rw[ztp ⟨en,is⟩];exact hl,q _ _ _ _ ((l1.lt k.hk).trans ((l2.lt h1).trans l3)) ((k1.next l2 h2).next l3e h3)⟩
    ·cases e
   ·cases e
  ·exact zax k1 e2 q
 ·exact zax k e1 q
def AtM (P:Program)(w:World)(K:Fgx)(mg:Mgx)(base:Heap)(k:Nat)(C:Addr)(m:Str)(n:Nat)(g:G):Prop:=
 ∃f fd ps,Meth K C m f/\FnOk P w K mg base CX0 k f fd ps (spG K mg n g)/\Binds K fd ps []
end
section
variable {X:Cx}{Wx:XW}{m:Mode}{pos:Pos}
theorem zn4 {K:Fgx}{mg:Mgx}{P:Pl}{H H':Hp}{M:Mm}{a:Addr}{c:Cl}(h:Hk K mg P H M)(s:Same H H')(ha:H a=none)(ea:H' a≠none)(hc:∀P',P'.n=P.n + 1->P'.io P.n=a->zgo K mg P' H' a c):∃P',P'.n=P.n + 1/\P'.io P.n=a/\LtE P H P' H'/\Hk K mg P' H' (M ++ [c]):=by
 let P2:Pl:={io:=fun j=>if j=P.n then a else P.io j,n:=P.n + 1,bd:=fun b=>P.bd b\/b=a}
 have io : ∀ j, j < P.n -> P2.io j = P.io j := fun j hj => if_neg (by omega);have ioN : P2.io P.n = a := if_pos rfl;have nc : ∀ j, j < P.n -> P.io j ≠ a := fun j hj z => h.here _ (h.bd j hj) (z ▸ ha);have l : LtE P H P2 H' := ⟨Nat.le_succ _,io,fun b z=>Or.imp (fun q=>q) (fun(q:b=a)=>by rw[q];exact ha) z,fun _ z=>.inl z,fun b o e _=>s b o e,fun b z=>s.free z,fun j h2 h3=>by
  have:j=P.n:=Nat.le_antisymm (Nat.le_of_lt_succ h3) h2;rw[this,ioN];exact ha⟩
 refine⟨P2,rfl,ioN,l,⟨by rw[List.length_append, <-h.n];rfl,fun j d ej=>?_,fun i j hi hj e=>?_,fun j hj=>?_,fun b z=>?_⟩⟩
 ·rcases Nat.lt_or_ge j P.n with z |z
  ·rw[List.getElem?_append_left (by rw[<-h.n];exact z)]at ej;rw[io j z];exact(h.cell j d ej).lt (l.lt h) fun o eo=>s _ _ eo
  ·have jl:=(List.getElem?_eq_some_iff.mp ej).1;rw[List.length_append,List.length_singleton, <-h.n]at jl;have:j=P.n:=by omega
   subst this;rw[List.getElem?_append_right (by rw[h.n];exact Nat.le_refl _),h.n,Nat.sub_self]at ej;cases ej;rw[ioN];exact hc P2 rfl ioN
 ·rcases Nat.lt_or_ge i P.n with z |z
  ·rcases Nat.lt_or_ge j P.n with y |y
   ·rw[io i z,io j y]at e;exact h.inj i j z y e
   ·have:j=P.n:=Nat.le_antisymm (Nat.le_of_lt_succ hj) y;rw[io i z,this,ioN]at e;exact absurd e (nc i z)
  ·have iN:i=P.n:=Nat.le_antisymm (Nat.le_of_lt_succ hi) z;rcases Nat.lt_or_ge j P.n with y |y
   ·rw[iN,ioN,io j y]at e;exact absurd e.symm (nc j y)
   ·rw[iN];exact Nat.le_antisymm y (Nat.le_of_lt_succ hj)
 ·rcases Nat.lt_or_ge j P.n with z |z
  ·rw[io j z];exact .inl (h.bd j z)
  ·have:j=P.n:=Nat.le_antisymm (Nat.le_of_lt_succ hj) z;rw[this,ioN];exact .inr rfl
 ·rcases z with z |z
  ·exact fun q=>h.here b z (s.free q)
  ·rw[z];exact ea
def AtI (P:Program)(w:World)(K:Fgx)(mg:Mgx)(base:Heap)(k:Nat)(C:Addr)(n:Nat)(g:G):Prop:=
 ∃f fd ps,Mk K C f/\FnOk P w K mg base CX0 k f fd ps (spG K mg n g)/\Binds K fd ps []
def zkX (c:Str)(g:G)(fs:EA):E:=fun env M=>bndA (fs env M) fun ds M1=>match g (.ref M1.length::ds) (M1 ++ [.obj c []]) with
 |some (.v .non,M2)=>some (.v (.ref M1.length),M2)
 |_=>none
theorem zl3 {c:Str}{C:Addr}{k n:Nat}{g:G}{e:Expr}{es:List Expr}{fs:EA}{p:Pos}(hc:ClsOk X.K X.mg c C)(a:AtI X.prog X.w X.K X.mg X.base k C (n + 1) g)(hr:Room (k + 1) X.A)(hg:Gl X c)(ha:SA X Wx .val (e::es) fs)(hn:Cnt n fs)(hdb:(c==("__debug__":Str))=false:=by x_go)
  (he:starEach (e::es) X.env=(false,eval e X.env)::starEach es X.env:=by rfl) (hpl:(backTo pos (starEach es X.env)).any (·.1)=false:=by rfl):SE X Wx m (.Call (.Name c p) (e::es) [] pos) (zkX c g fs):=by
 obtain⟨f,fd,ps,mk,F,hb⟩:=a;refine za1 (zqh mk F hr hg hc.mg hb .nil zqK ha hdb he hpl) ?_;rintro st H Q ⟨P0,H0,P,Os,env,M,r,M',k,e,q⟩;unfold zkX at e;rcases zdu e with⟨ds,M1,e1,e⟩ |⟨c,n,e1,rfl⟩
 ·split at e
  ·rename_i M2 eg;cases e;refine⟨P0,H0,P,Os,env,M,_,_,k,e1,fun P1 vs H1 l1 h1 i1=>fun x dx hx hdx ne=>?_⟩;have s2:Same H1 (upd (upd H1 dx (.own x)) x (.ins C dx [])):=fun b o eb=>by
    rw[zak (zap eb hx),zak (zap eb hdx)];exact eb
   obtain⟨P2,n2,io2,l2,h2⟩:=zn4 (c:=.obj c []) h1 s2 hx (by rw[zar];exact fun z=>nomatch z) fun P' _ _=>⟨C,dx,[],hc.mg,zar,rfl,rfl⟩
   have el:P1.n=M1.length:=h1.n;have iref:Is X.K P2 (upd (upd H1 dx (.own x)) x (.ins C dx [])) (.ref M1.length) (.ref x):=⟨by rw[n2,el];exact Nat.lt_succ_self _,by rw[<-el,io2]⟩;refine⟨by rw[List.append_nil,List.length_cons,i1.len,hn _ _ _ _ e1],P2,M1 ++ [.obj c []],.ref M1.length::ds,.non,_,h2,⟨_,_,rfl,iref,by rw[List.append_nil];exact Iss.lt (l2.lt h1) i1.iss⟩,eg,fun P3 v H3 l3 h3 i3=>⟨i3,?_⟩⟩;refine q P3 _ H3 (l1.trans (l2.trans l3)) h3 (IsM.of h3 (Is.lt (l3.lt h2) iref))
  ·cases e
 ·exact⟨P0,H0,P,Os,env,M,_,_,k,e1,q⟩
end
end E3
namespace E3
open PySem PySem.Spec PyProof.Rows L2 PySem.W
def zwC (a:Addr)(h h':Heap):Prop:=∀b o,b≠a->h.get? b=some o->h'.get? b=some o
def Low (n:Nat)(p:Array Nat):Prop:=p.size=n/\∀x∈p.toList,x<n
section
variable {n:Nat}{lt:Nat->Nat->Option Bool}(hn:0<n)(tot:∀i j,i<n->j<n->∃b,lt i j=some b)
include hn tot
end
end E3
namespace E3
open PySem L2
section
variable {env:Env}{M M1:Mm}{f g h c:E}{d e:D}{i j:Int}{n k:Nat}{z:Str}{b:Bool}{ds es:List D}{s t:S}{x:Str}
def seqR (g:S):OS->OS
 |some (.nx e,M1)=>g e M1
 |o=>o
theorem zpa:sSeq s t env M=seqR t (s env M):=by
 unfold sSeq seqR
 cases s env M with
 |none=>rfl
 |some p=>obtain⟨o,M⟩:=p;cases o<;>rfl
theorem r_nx {e:Env}:seqR t (some (.nx e,M))=t e M:=rfl
theorem r_rt:seqR t (some (.rt d,M))=some (.rt d,M):=rfl
theorem r_bk {e:Env}:seqR t (some (.bk e,M))=some (.bk e,M):=rfl
theorem r_ct {e:Env}:seqR t (some (.ct e,M))=some (.ct e,M):=rfl
theorem r_ex {a:Int}:seqR t (some (.ex x a,M))=some (.ex x a,M):=rfl
theorem zvz:sEnd env M=some (.nx env,M):=rfl
def varR (M:Mm):Option Slot->O
 |some (.val d)=>some (.v d,M)
 |_=>none
def varB (M:Mm):Option Slot->O
 |some (.val d)=>some (.v d,M)
 |some (.own ds)=>some (.v (.lst ds),M)
 |_=>none
theorem q_v:sVar k env M=varR M env[k]? :=by
 unfold sVar varR;split<;>simp_all
theorem q_vb:zje k env M=varB M env[k]? :=by
 unfold zje varB;split<;>simp_all
theorem r_v:varR M (some (.val d))=some (.v d,M):=rfl
theorem r_vb:varB M (some (.val d))=some (.v d,M):=rfl
theorem r_vo:varB M (some (.own ds))=some (.v (.lst ds),M):=rfl
theorem zvJ:sCon d env M=some (.v d,M):=rfl
def mapR (M:Mm):Option D->O
 |some z=>some (.v z,M)
 |none=>none
theorem zvR:mapR M (some d)=some (.v d,M):=rfl
def oneR (o:D->Option D):O->O
 |some (.v d,M)=>mapR M (o (vw M d))
 |some (.x c n,M)=>some (.x c n,M)
 |none=>none
theorem q_1 {o:D->Option D}:s1 o f env M=oneR o (f env M):=by
  unfold s1 oneR bnd
  cases f env M with
  |none=>rfl
  |some p=>obtain⟨r,M'⟩:=p;cases r with
    |v d=>dsimp only;cases o (vw M' d)<;>rfl
    |x c n=>rfl
theorem r_1 {o:D->Option D}:oneR o (some (.v d,M))=mapR M (o (vw M d)):=rfl
def twoS (o:D->D->Option D)(d:D):O->O
 |some (.v e,M)=>mapR M (o (vw M d) (vw M e))
 |some (.x c n,M)=>some (.x c n,M)
 |none=>none
def twoK (o:D->D->Option D)(k:Mm->O):O->O
 |some (.v d,M)=>twoS o d (k M)
 |some (.x c n,M)=>some (.x c n,M)
 |none=>none
theorem q_2 {o:D->D->Option D}:s2 o f g env M=twoK o (g env) (f env M):=by
  unfold s2 twoK bnd
  cases f env M with
  |none=>rfl
  |some p=>obtain⟨r,M'⟩:=p;cases r with
    |x c n=>rfl
    |v d=>
      dsimp only;unfold twoS
      cases g env M' with
      |none=>rfl
      |some p=>obtain⟨r,M2⟩:=p;cases r with
        |x c n=>rfl
        |v e=>dsimp only;cases o (vw M2 d) (vw M2 e)<;>rfl
theorem r_2 {o:D->D->Option D}{q:Mm->O}:twoK o q (some (.v d,M))=twoS o d (q M):=rfl
theorem r_2s {o:D->D->Option D}:twoS o d (some (.v e,M))=mapR M (o (vw M d) (vw M e)):=rfl
theorem zvp:vw M (.int i)=.int i:=rfl
theorem zuB:vw M (.str z)=.str z:=rfl
theorem w_bl:vw M (.bl b)=.bl b:=rfl
theorem zwl:vw M .non=.non:=rfl
theorem zug:vw M (.tup ds)=.tup ds:=rfl
theorem zv5:vw M (.lst ds)=.lst ds:=rfl
theorem zud:sTru f env M=oneR (fun d=>(truD d).map .bl) (f env M):=q_1
def notR:O->O
 |some (.v (.bl b),M)=>some (.v (.bl (!b)),M)
 |some (.x c n,M)=>some (.x c n,M)
 |_=>none
theorem zuE:sNot f env M=notR (f env M):=by
  unfold sNot notR bnd
  cases f env M with
  |none=>rfl
  |some p=>obtain⟨r,M'⟩:=p;cases r with
    |x c n=>rfl
    |v d=>cases d<;>rfl
theorem zuO:notR (some (.v (.bl b),M))=some (.v (.bl (!b)),M):=rfl
def iteR (k1 k2:Mm->O):O->O
 |some (.v (.bl b),M)=>if b=true then k1 M else k2 M
 |some (.x c n,M)=>some (.x c n,M)
 |_=>none
theorem zvo:sAnd f g env M=iteR (g env) (fun M=>some (.v (.bl false),M)) (f env M):=by
  unfold sAnd iteR bnd
  cases f env M with
  |none=>rfl
  |some p=>obtain⟨r,M'⟩:=p;cases r with
    |x c n=>rfl
    |v d=>cases d<;>rfl
theorem q_or:sOr f g env M=iteR (fun M=>some (.v (.bl true),M)) (g env) (f env M):=by
  unfold sOr iteR bnd
  cases f env M with
  |none=>rfl
  |some p=>obtain⟨r,M'⟩:=p;cases r with
    |x c n=>rfl
    |v d=>cases d<;>rfl
theorem zuU:sIte c f g env M=iteR (f env) (g env) (c env M):=by
  unfold sIte iteR bnd
  cases c env M with
  |none=>rfl
  |some p=>obtain⟨r,M'⟩:=p;cases r with
    |x c n=>rfl
    |v d=>cases d<;>rfl
theorem zvH {k1 k2:Mm->O}:iteR k1 k2 (some (.v (.bl b),M))=if b=true then k1 M else k2 M:=rfl
def conA (d:D):Option (ResA×Mm)->Option (ResA×Mm)
 |some (.v ds,M2)=>some (.v (d::ds),M2)
 |some (.x c n,M2)=>some (.x c n,M2)
 |none=>none
def zn0 (k:Mm->Option (ResA×Mm)):O->Option (ResA×Mm)
 |some (.v d,M1)=>conA d (k M1)
 |some (.x c n,M1)=>some (.x c n,M1)
 |none=>none
theorem zvO:sNil env M=some (.v [],M):=rfl
theorem zr4 {fs:EA}:zad f fs env M=zn0 (fs env) (f env M):=by
  unfold zad zn0
  cases f env M with
  |none=>rfl
  |some p=>obtain⟨r,M'⟩:=p;cases r with
    |x c n=>rfl
    |v d=>
      dsimp only;unfold conA
      cases fs env M' with
      |none=>rfl
      |some p=>obtain⟨r,M2⟩:=p;cases r<;>rfl
theorem zta {q:Mm->Option (ResA×Mm)}:zn0 q (some (.v d,M))=conA d (q M):=rfl
theorem zqX:conA d (some (.v ds,M))=some (.v (d::ds),M):=rfl
def argR (o:List D->Option D):Option (ResA×Mm)->O
 |some (.v ds,M)=>mapR M (o (ds.map (vw M)))
 |some (.x c n,M)=>some (.x c n,M)
 |none=>none
theorem q_n {o:List D->Option D}{fs:EA}:sN o fs env M=argR o (fs env M):=by
  unfold sN argR bndA
  cases fs env M with
  |none=>rfl
  |some p=>obtain⟨r,M'⟩:=p;cases r with
    |x c n=>rfl
    |v d=>dsimp only;cases o (d.map (vw M'))<;>rfl
theorem r_n {o:List D->Option D}:argR o (some (.v ds,M))=mapR M (o (ds.map (vw M))):=rfl
def argK (k:List D->Mm->O):Option (ResA×Mm)->O
 |some (.v ds,M)=>k ds M
 |some (.x c n,M)=>some (.x c n,M)
 |none=>none
theorem zsx {q:List D->Mm->O}:argK q (some (.v ds,M))=q ds M:=rfl
theorem zvi {fs:EA}:sTup fs env M=argK (fun ds M1=>if ds.length<=sizeLine then some (.v (.tup ds),M1) else none) (fs env M):=rfl
theorem zvL {fs:EA}:sLst fs env M=argK (fun ds M1=>if ds.length<=sizeLine then some (.v (.lst ds),M1) else none) (fs env M):=rfl
def zpj:O->O
 |some (.v d,M)=>some (.v d,M)
 |_=>none
theorem zqP:zpj (some (.v d,M))=some (.v d,M):=rfl
theorem zty {u:G}{fs:EA}:zba u fs env M=argK (fun ds M1=>zpj (u ds M1)) (fs env M):=by
  unfold zba argK bndA
  cases fs env M with
  |none=>rfl
  |some p=>obtain⟨r,M'⟩:=p;cases r with
    |x c n=>rfl
    |v d=>
      dsimp only;unfold zpj
      cases u d M' with
      |none=>rfl
      |some p=>obtain⟨r,M2⟩:=p;cases r<;>rfl
def bndK (k:D->Mm->O):O->O
 |some (.v d,M)=>k d M
 |some (.x c n,M)=>some (.x c n,M)
 |none=>none
theorem zlP {q:D->Mm->O}:bndK q (some (.v d,M))=q d M:=rfl
def ztk (M:Mm):D->O
 |.lst ds=>some (.v (.ref M.length),M ++ [.lst ds])
 |_=>none
theorem zpW:ztk M (.lst ds)=some (.v (.ref M.length),M ++ [.lst ds]):=rfl
theorem zr7:zhe f env M=bndK (fun d M1=>ztk M1 d) (f env M):=by
  unfold zhe bndK bnd
  cases f env M with
  |none=>rfl
  |some p=>obtain⟨r,M'⟩:=p;cases r with
    |x c n=>rfl
    |v d=>cases d<;>rfl
def zpr (M:Mm):D->O
 |.lst ds=>some (.v (.lst ds),M)
 |.tup ds=>some (.v (.lst ds),M)
 |_=>none
theorem zp8:zpr M (.lst ds)=some (.v (.lst ds),M):=rfl
theorem zrr:zfZ f env M=bndK (fun d M1=>zpr M1 (vw M1 d)) (f env M):=by
  unfold zfZ bndK bnd
  cases f env M with
  |none=>rfl
  |some p=>obtain⟨r,M'⟩:=p;cases r with
    |x c n=>rfl
    |v d=>dsimp only;cases vw M' d<;>rfl
def slH (d:D)(lo:Option Int):Option (Option Int×Mm)->O
 |some (hi,M3)=>mapR M3 (slD (vw M3 d) lo hi)
 |none=>none
def slL (d:D)(k:Mm->Option (Option Int×Mm)):Option (Option Int×Mm)->O
 |some (lo,M2)=>slH d lo (k M2)
 |none=>none
theorem q_sl {l u:Env->Mm->Option (Option Int×Mm)}:sSl f l u env M=bndK (fun d M1=>slL d (u env) (l env M1)) (f env M):=by
  unfold sSl bndK bnd
  cases f env M with
  |none=>rfl
  |some p=>obtain⟨r,M'⟩:=p;cases r with
    |x c n=>rfl
    |v d=>
      dsimp only;unfold slL
      cases l env M' with
      |none=>rfl
      |some p=>
        obtain⟨lo,M2⟩:=p;dsimp only;unfold slH
        cases u env M2 with
        |none=>rfl
        |some p=>obtain⟨hi,M3⟩:=p;dsimp only;cases slD (vw M3 d) lo hi<;>rfl
theorem zvI {lo:Option Int}{q:Mm->Option (Option Int×Mm)}:slL d q (some (lo,M))=slH d lo (q M):=rfl
theorem zvk {lo hi:Option Int}:slH d lo (some (hi,M))=mapR M (slD (vw M d) lo hi):=rfl
theorem zub:pNo env M=some (none,M):=rfl
def patR:O->Option (Option Int×Mm)
 |some (.v (.int i),M)=>some (some i,M)
 |_=>none
theorem zue:pAt f env M=patR (f env M):=by
  unfold pAt patR
  cases f env M with
  |none=>rfl
  |some p=>obtain⟨r,M'⟩:=p;cases r with
    |x c n=>rfl
    |v d=>cases d<;>rfl
theorem zu0:patR (some (.v (.int i),M))=some (some i,M):=rfl
def bndT (k:D->Mm->OS):O->OS
 |some (.v d,M)=>k d M
 |some (.x c n,M)=>some (.ex c n,M)
 |none=>none
theorem zsq {q:D->Mm->OS}:bndT q (some (.v d,M))=q d M:=rfl
theorem zwu:sAsg k f env M=bndT (fun d M1=>if k<env.length then some (.nx (env.set k (.val d)),M1) else none) (f env M):=rfl
def zrm (k:Nat)(env:Env)(M:Mm):D->OS
 |.lst ds=>if k<env.length then some (.nx (env.set k (.own ds)),M) else none
 |_=>none
theorem zs5:zrm k env M (.lst ds)=if k<env.length then some (.nx (env.set k (.own ds)),M) else none:=rfl
theorem zra:zh5 k f env M=bndT (fun d M1=>zrm k env M1 d) (f env M):=by
  unfold zh5 bndT bndS
  cases f env M with
  |none=>rfl
  |some p=>obtain⟨r,M'⟩:=p;cases r with
    |x c n=>rfl
    |v d=>cases d<;>rfl
theorem zwg:sRet f env M=bndT (fun d M1=>some (.rt d,M1)) (f env M):=rfl
theorem zsw:zhf f env M=bndT (fun _ M1=>some (.nx env,M1)) (f env M):=rfl
def ifD (s t:Mm->OS)(M:Mm):D->OS
 |.bl b=>if b=true then s M else t M
 |_=>none
theorem r_if {q r:Mm->OS}:ifD q r M (.bl b)=if b=true then q M else r M:=rfl
theorem q_if:sIf c s t env M=bndT (fun d M1=>ifD (s env) (t env) M1 d) (c env M):=by
  unfold sIf bndT bndS
  cases c env M with
  |none=>rfl
  |some p=>obtain⟨r,M'⟩:=p;cases r with
    |x c n=>rfl
    |v d=>cases d<;>rfl
def frzR (k:Nat)(env:Env)(M:Mm):Option Slot->OS
 |some (.own ds)=>some (.nx (env.set k (.val (.lst ds))),M)
 |_=>none
theorem zt9:sFrz k env M=frzR k env M env[k]? :=by
 unfold sFrz frzR;split<;>simp_all
theorem zvg:frzR k env M (some (.own ds))=some (.nx (env.set k (.val (.lst ds))),M):=rfl
def appR (k:Nat)(env:Env)(o:O):Option Slot->OS
 |some (.own ds)=>bndT (fun d M1=>if ds.length<sizeLine then some (.nx (env.set k (.own (ds ++ [d]))),M1) else none) o
 |_=>none
theorem zt4:sApp k f env M=appR k env (f env M) env[k]? :=by
 unfold sApp appR
 cases env[k]? with
 |none=>rfl
 |some s=>cases s<;>rfl
theorem zu7 {o:O}:appR k env o (some (.own ds))=bndT (fun d M1=>if ds.length<sizeLine then some (.nx (env.set k (.own (ds ++ [d]))),M1) else none) o:=rfl
def forR (k:Nat)(t:S)(env:Env):Option (ResA×Mm)->OS
 |some (.v ds,M1)=>loopS k t ds env M1
 |some (.x c n,M1)=>some (.ex c n,M1)
 |none=>none
theorem zwn {fs:EA}:sFor k fs t env M=forR k t env (fs env M):=by
 unfold sFor forR
 cases fs env M with
 |none=>rfl
 |some p=>obtain⟨r,M'⟩:=p;cases r<;>rfl
theorem zvd:forR k t env (some (.v ds,M))=loopS k t ds env M:=rfl
def lstR:O->Option (ResA×Mm)
 |some (.v (.lst ds),M1)=>some (.v ds,M1)
 |some (.x c n,M1)=>some (.x c n,M1)
 |_=>none
theorem zrQ:iLst f env M=lstR (f env M):=by
  unfold iLst lstR
  cases f env M with
  |none=>rfl
  |some p=>obtain⟨r,M'⟩:=p;cases r with
    |x c n=>rfl
    |v d=>cases d<;>rfl
theorem zsX:lstR (some (.v (.lst ds),M))=some (.v ds,M):=rfl
def zpG:Option (ResA×Mm)->Option (ResA×Mm)
 |some (.v [.int j],M1)=>if -1000000000<=j/\j<=1000000000 then some (.v ((List.range j.toNat).map fun(k:Nat)=>.int (0 + k)),M1) else none
 |some (.x c n,M1)=>some (.x c n,M1)
 |_=>none
theorem zsd {fs:EA}:zhh fs env M=zpG (fs env M):=by
 unfold zhh zpG;rfl
theorem ziO (h: -1000000000<=i/\i<=1000000000):zpG (some (.v [.int i],M))=some (.v ((List.range i.toNat).map fun(k:Nat)=>.int (0 + k)),M):=if_pos h
theorem q_fn {m:Nat}{t:S}:fnG m t ds M=endS (t (ds.map .val ++ List.replicate (m - ds.length) .un) M):=rfl
theorem zq4:endS (some (.rt d,M))=some (.v d,M):=rfl
theorem ztI {e:Env}:endS (some (.nx e,M))=some (.v .non,M):=rfl
theorem zrf:oAdd (.int i) (.int j)=some (.int (i + j)):=rfl
theorem zqY:oAdd (.lst ds) (.lst es)=if ds.length + es.length<=sizeLine then some (.lst (ds ++ es)) else none:=rfl
theorem zu2:oSub (.int i) (.int j)=some (.int (i - j)):=rfl
theorem zt6:oMul (.int i) (.int j)=if i.natAbs<18446744073709551616\/j.natAbs<18446744073709551616\/(i.natAbs.log2<10000/\j.natAbs.log2<10000) then some (.int (i * j)) else none:=rfl
theorem zr9:zdW (.int i) (.int j)=if 0<j/\j.natAbs<1073741824 then some (.int (i / j)) else none:=rfl
theorem zvx:oMod (.int i) (.int j)=if 0<j then some (.int (i % j)) else none:=rfl
theorem zvb:oPow (.int i) (.int j)=if 0<=j/\j.natAbs<=1000000/\i.natAbs<18446744073709551616 then some (.int (i ^ j.toNat)) else none:=rfl
theorem o_lt:oCmp .lt (.int i) (.int j)=some (.bl (decide (i<j))):=rfl
theorem o_le:oCmp .le (.int i) (.int j)=some (.bl (decide (i<=j))):=rfl
theorem o_gt:oCmp .gt (.int i) (.int j)=some (.bl (decide (j<i))):=rfl
theorem o_ge:oCmp .ge (.int i) (.int j)=some (.bl (decide (j<=i))):=rfl
theorem zui:oCmp .eq (.int i) (.int j)=some (.bl (decide (i=j))):=by
 show(cEq _ _).map D.bl=_
 simp[cEq,eqOk,D.flat,D.dep,D.eq]
 rw[Bool.eq_iff_iff];simp
theorem zuN:oCmp .ne (.int i) (.int j)=some (.bl (!decide (i=j))):=by
 show(cNe _ _).map D.bl=_
 simp[cNe,eqOk,D.flat,D.dep,D.eq]
 rw[Bool.eq_iff_iff];simp
theorem zry (h:D.deps ds<=49):oCmp .eq (.lst ds) (.lst [])=some (.bl ds.isEmpty):=by
 show(cEq _ _).map D.bl=_;unfold cEq;rw[if_pos ⟨by simp[eqOk,D.flat,D.dep,D.deps],by show D.deps ds + 1<=50;omega⟩];cases ds<;>rfl
theorem zws (h:D.deps ds<=49):oCmp .ne (.lst ds) (.lst [])=some (.bl (!ds.isEmpty)):=by
 show(cNe _ _).map D.bl=_;unfold cNe;rw[if_pos ⟨by simp[eqOk,D.flat,D.dep,D.deps],by show D.deps ds + 1<=50;omega⟩];cases ds<;>rfl
theorem zrH (h:d.dep<=50):oCmp .eq d d=some (.bl true):=by
 show(cEq d d).map D.bl=_;unfold cEq;rw[if_pos ⟨by simp[eqOk,h],h⟩,D.eq_refl];rfl
theorem zsu (h:d.dep<=50):oCmp .ne d d=some (.bl false):=by
 show(cNe d d).map D.bl=_;unfold cNe;rw[if_pos ⟨by simp[eqOk,h],h⟩,D.eq_refl];rfl
theorem zvn:oIx (.lst ds) (.int i)=atI ds i:=rfl
theorem zvt:oIx (.tup ds) (.int i)=atI ds i:=rfl
theorem zrG:bLen [.lst ds]=some (.int ds.length):=rfl
theorem zq7:bLen [.tup ds]=some (.int ds.length):=rfl
theorem zwz:bMin [.int i,.int j]=some (.int (if j<i then j else i)):=rfl
theorem zrg:truD (.lst ds)=some (!ds.isEmpty):=rfl
theorem ztJ:truD (.bl b)=some b:=rfl
theorem zvj {lo hi:Option Int}:slD (.str z) lo hi=if z.length<=sizeLine then some (.str (Txt.slice z lo hi)) else none:=rfl
theorem zv2 {lo hi:Option Int}:slD (.lst ds) lo hi=some (.lst (cutL ds lo hi)):=rfl
end
def Step (J:Env->Mm->Prop)(Q:OS->Prop):OS->Prop
 |some (.nx e,M)=>J e M
 |some (.ct e,M)=>J e M
 |some (.bk e,M)=>Q (some (.nx e,M))
 |some (.rt d,M)=>Q (some (.rt d,M))
 |some (.ex c n,M)=>Q (some (.ex c n,M))
 |none=>False
theorem zjH {i:Nat}{body:S}{ds:List D}{env:Env}{M:Mm}(Q:OS->Prop)(J:Nat->Env->Mm->Prop)(h0:J 0 env M)
    (hs:∀(k:Nat) d env M,ds[k]? =some d->J k env M->i<env.length/\Step (J (k + 1)) Q (body (env.set i (.val d)) M)) (hd:∀env M,J ds.length env M->Q (some (.nx env,M))):Q (loopS i body ds env M):=by
  have key:∀(m k:Nat) (env:Env) (M:Mm),m + k=ds.length->J k env M->Q (loopS i body (ds.drop k) env M):=by
    intro m
    induction m with
    |zero=>
      intro k env M hk hJ;have e:k=ds.length:=by omega
      subst e;rw[List.drop_length];exact hd env M hJ
    |succ m ih=>
      intro k env M hk hJ;have hlt:k<ds.length:=by omega
      obtain⟨hi,h1⟩:=hs k ds[k] env M (List.getElem?_eq_getElem hlt) hJ;rw[List.drop_eq_getElem_cons hlt];simp only[loopS,hi,if_true]
      cases e:body (env.set i (.val ds[k])) M with
      |none=>rw[e]at h1;exact h1.elim
      |some o=>
        rw[e]at h1;obtain⟨o,M'⟩:=o
        cases o with
        |nx e'=>exact ih (k + 1) e' M' (by omega) h1
        |ct e'=>exact ih (k + 1) e' M' (by omega) h1
        |bk e'=>exact h1
        |rt d=>exact h1
        |ex c n=>exact h1
  have:=key ds.length 0 env M (by omega) h0
  rwa [List.drop_zero]at this
end E3
namespace E3
open PySem PySem.Spec PyProof.Rows L2
def XN (H:Hp)(n:Int):Option Addr->Prop
 |none=>n=0
 |some d=>∃fs,H d=some (.xd fs)/\fs.lookup ("at":Str)=some (.int (n - 1))/\n≠0
def XQ (K:Fgx)(mg:Mgx)(P:Pl)(H:Hp)(M':Mm)(Q:VK)(E:XK):Res->Prop
 |.v d=>∀P' v H',LtE P H P' H'->Hk K mg P' H' M'->Is K P' H' d v->Q v H'
 |.x c n=>∀P' H' C dx,LtE P H P' H'->Hk K mg P' H' M'->mg c=some (.ref C)->XN H' n dx->E (.ref C) dx H'
def spX (K:Fgx)(mg:Mgx)(n:Nat)(g:G):Sp:=fun vs H Q E=>vs.length=n/\∃P M ds r M',Hk K mg P H M/\Iss K P H ds vs/\g ds M=some (r,M')/\XQ K mg P H M' Q E r
mutual
theorem Is.away {K:Fgx}{P:Pl}{H H':Hp}(s:∀b o,H b=some o->(∀g,o≠ .ext g)->H' b=some o):∀{d:D} {v:V},Is K P H d v->Is K P H' d v
  |.non,_,h=>h
  |.bl _,_,h=>h
  |.int _,_,h=>h
  |.str _,_,h=>h
  |.tup ds,_,h=>by
    obtain⟨a,vs,e,q,r⟩:=h;refine⟨a,vs,e,?_,Iss.away s r⟩;rcases q with(q |⟨o,q⟩) |q
    · exact .inl (.inl (s _ _ q fun _ z=>nomatch z))
    · exact .inl (.inr ⟨o,s _ _ q fun _ z=>nomatch z⟩)
    · exact .inr q
  |.lst ds,_,h=>by
    obtain⟨a,vs,e,q,r⟩:=h;refine⟨a,vs,e,?_,Iss.away s r⟩;rcases q with⟨n,q |⟨o,q⟩⟩ |q
    · exact .inl ⟨n,.inl (s _ _ q fun _ z=>nomatch z)⟩
    · exact .inl ⟨n,.inr ⟨o,s _ _ q fun _ z=>nomatch z⟩⟩
    · exact .inr q
  |.ref k,_,h=>h
theorem Iss.away {K:Fgx}{P:Pl}{H H':Hp}(s:∀b o,H b=some o->(∀g,o≠ .ext g)->H' b=some o):∀{ds:List D} {vs:List V},Iss K P H ds vs->Iss K P H' ds vs
  | [],_,h=>h
  |_::_,_,h=>by
    obtain⟨v,r,e,p,q⟩:=h;exact⟨v,r,e,Is.away s p,Iss.away s q⟩
end
theorem Hk.away {K:Fgx}{mg:Mgx}{P:Pl}{H H':Hp}{M:Mm}(h:Hk K mg P H M)(s:∀b o,H b=some o->(∀g,o≠ .ext g)->H' b=some o)(t:∀b,H' b=none->H b=none):Hk K mg P H' M:=by
  refine⟨h.n,fun k c e=>?_,h.inj,h.bd,fun a z q=>h.here a z (t a q)⟩;have:=h.cell k c e
  cases c with
  |lst ds=>
    obtain⟨vs,e1,q⟩:=this;exact⟨vs,s _ _ e1 (fun _ z=>nomatch z),Iss.away s q⟩
  |obj c fs=>
    obtain⟨C,dx,gs,e1,e2,e3,q⟩:=this;exact⟨C,dx,gs,e1,s _ _ e2 (fun _ z=>nomatch z),e3,Iss.away s q⟩
  |dct kvs=>
    obtain⟨vs,e1,e2,q⟩:=this;exact⟨vs,s _ _ e1 (fun _ z=>nomatch z),e2,Iss.away s q⟩
structure XFit (X:Cx)(Wx:XW):Prop where
 xr:∀pins σ H s a C dx c n P0 H0 P M,Inv X pins σ H s->H a=some (xo a C dx true)->¬ P.bd a->H0 a=none->LtE P0 H0 P H->Hk X.K X.mg P H M->X.mg c=some (.ref C)->XN H n dx->Wx P0 H0 M c n->X.xe (.ref a) s
section
variable {X:Cx}{Wx:XW}{pos:Pos}
def zfj (c:Str)(f:E):S:=fun env M=>bndS (f env M) fun _ M1=>some (.ex c 0,M1)
theorem zid (F:XFit X Wx)(hc:X.calm=true)(m:X.mg c=some (.ref C))(q1:xcIn X.K C=true)(q2:zlJ X.K C=true)(kp:PySem.W.keepIn X.K (.ref C)=true)(hg:Gl X c)(he:SE X Wx .val e f)(hdb:(c==("__debug__":Str))=false:=by x_go)
  (hs:starEach [e] X.env=[(false,eval e X.env)]:=by rfl):SS X Wx (.Raise (some (.Call (.Name c p) [e] [] q)) none pos) (zfj c f):=by
 refine zcy (zkB (W:=fun a C' dx H=>dx=none/\C'=C/\∃P0 H0 P M,¬ P.bd a/\H0 a=none/\LtE P0 H0 P H/\Hk X.K X.mg P H M/\Wx P0 H0 M c 0) (znL q1 q2 kp hg m he hdb hs) hc fun pins σ H s a C' dx I ea ⟨e1,e2,P0,H0,P,M,b,n,l,h,w⟩=>?_) ?_
 ·subst e1 e2;exact F.xr pins σ H s a _ none c 0 P0 H0 P M I ea b n l h m rfl w
 ·rintro D st H ⟨P0,H0,P,Os,env,M,out,M',k,e,q⟩;unfold zfj at e;rcases za0 e with⟨d,M1,e1,e⟩ |⟨c,n,e1,rfl⟩
  ·cases e;refine⟨P0,H0,P,Os,env,M,_,_,k,e1,fun P1 v H1 l1 h1 i1=>⟨rfl,fun a ha=>⟨a,C,none,rfl,zar,q1,rfl,rfl,P0,H0,P1,_,h1.new a ha,?_,?_,?_,q⟩⟩⟩
   ·exact k.base.sure a (l1.sure a ha)
   ·exact k.base.trans (l1.trans (LtE.same (zcU ha)))
   ·exact h1.same (zcU ha)
  ·exact⟨P0,H0,P,Os,env,M,_,_,k,e1,q⟩
end
section
variable {P:Program}{w:World}{K:Fgx}{mg:Mgx}{base:Heap}{k:Nat}{x qual:Str}{st:Stmt}{f:Addr}{fd:FuncData}{N ps:List Str}{b:S}
abbrev cxX (P:Program)(w:World)(K:Fgx)(mg:Mgx)(base:Heap)(N:List Str)(qual:Str)(st:Stmt)(f:Addr)(cdv:Value)(A:Around)(outer:List PySem.Env)(s:Shared)(H:Hp)(E:XK):Cx:=cxOf (CX1 P w) P w K mg base N qual (zah st) f cdv A outer s H E
end
section
variable {P:Program}{w:World}{K:Fgx}{mg:Mgx}{base:Heap}{k:Nat}{x qual:Str}{st:Stmt}{f:Addr}{fd:FuncData}{N ps:List Str}{b:S}
theorem zlc (F:FnOk P w K mg base (CX1 P w) k f fd ps sp):FnOk P w K mg base CX0 k f fd ps (fun vs H Q _=>sp vs H Q E0):=
 ⟨fun vs H Q E h=>F.len vs H Q E0 h,fun A outer s H args us vs Q E hr he hb hv hs=>codeAny_mono (F.run A outer s H args us vs Q E0 hr he hb hv hs) fun r s' z=>by
  cases r with
  |error e=>obtain⟨_,_,_,_,_,_,_,_,_,_,_,_,_,_,z⟩:=z;exact z
  |ok fl=>cases fl<;>exact z⟩
theorem zk1 (F:FnOk P w K mg base (CX1 P w) k f fd ps (spX K mg n g)):FnOk P w K mg base CX0 k f fd ps (spG K mg n g):=by
 have F0:=zlc F;refine⟨fun vs H Q E h=>F0.len vs H Q E ?_,fun A outer s H args us vs Q E hr he hb hv hs=>F0.run A outer s H args us vs Q E hr he hb hv ?_⟩
 ·obtain⟨hl,P,M,ds,d,M',hk,is,e,q⟩:=h;exact⟨hl,P,M,ds,.v d,M',hk,is,e,q⟩
 ·obtain⟨hl,P,M,ds,d,M',hk,is,e,q⟩:=hs;exact⟨hl,P,M,ds,.v d,M',hk,is,e,q⟩
def AtMX (P:Program)(w:World)(K:Fgx)(mg:Mgx)(base:Heap)(k:Nat)(C:Addr)(m:Str)(n:Nat)(g:G):Prop:=
 ∃f fd ps,Meth K C m f/\FnOk P w K mg base (CX1 P w) k f fd ps (spX K mg n g)/\Binds K fd ps []
def AtIX (P:Program)(w:World)(K:Fgx)(mg:Mgx)(base:Heap)(k:Nat)(C:Addr)(n:Nat)(g:G):Prop:=
 ∃f fd ps,Mk K C f/\FnOk P w K mg base (CX1 P w) k f fd ps (spX K mg n g)/\Binds K fd ps []
def AtX (P:Program)(w:World)(K:Fgx)(mg:Mgx)(base:Heap)(k:Nat)(f:Str)(n:Nat)(g:G):Prop:=
 ∃fa fd ps,mg f=some (.ref fa)/\PySem.W.keepIn K (.ref fa)=true/\FnOk P w K mg base (CX1 P w) k fa fd ps (spX K mg n g)/\Binds K fd ps []
theorem AtX.quiet (a:AtX P w K mg base k x n g):AtG P w K mg base k x n g:=by
 obtain⟨fa,fd,ps,h1,h2,h3,h4⟩:=a;exact⟨fa,fd,ps,[],[],_,h1,h2,zk1 h3,h4,.nil,fun vs H Q E h=>by rw[List.append_nil];exact h⟩
theorem AtX.mono (a:AtX P w K mg base j x n g)(h:j<=k):AtX P w K mg base k x n g:=by
 obtain⟨f,fd,ps,h1,h2,h3,h4⟩:=a;exact⟨f,fd,ps,h1,h2,h3.mono h,h4⟩
end
end E3
namespace L2
open PySem PySem.Spec PyProof.Rows
section
variable {X:Cx}{CX:CXT}{k:Nat}{f C:Addr}{fd:FuncData}{ps:List Str}{sp:Sp}{x m:Str}{p pos apos:Pos}{e o:Expr}{es:List Expr}{ta:TE}{t:TA}{Ex:St->XK}
def zqg (CX:CXT)(X:Cx)(Ex:St->XK):Prop:=∀pins σ H s e s',Inv X pins σ H s->CX X.stack H s (Ex σ) e s'->X.xe e s'
end
end L2
namespace E3
open PySem PySem.Spec PyProof.Rows L2
section
variable {X:Cx}{Wx:XW}{pos:Pos}
def SX (X:Cx)(e:Expr)(f:E):Prop:=∀Ex:L2.St->XK,zqg (CX1 X.prog X.w) X Ex->PE X e fun st H Q=>∃P0 H0 P Os env M r M',Ok X.K X.mg P0 H0 P Os H M st env/\f env M=some (r,M')/\XQ X.K X.mg P H M' Q (Ex st) r
theorem XQ.lt {K:Fgx}{mg:Mgx}{P P1:Pl}{H H1:Hp}{M':Mm}{Q:VK}{E:XK}{r:Res}(l:LtE P H P1 H1)(q:XQ K mg P H M' Q E r):XQ K mg P1 H1 M' Q E r:=by
 cases r with
 |v d=>exact fun P' v H' l' h i=>q P' v H' (l.trans l') h i
 |x c n=>exact fun P' H' C dx l' h m xn=>q P' H' C dx (l.trans l') h m xn
def zfd (g:G)(fs:EA):E:=fun env M=>match fs env M with
 |some (.v ds,M1)=>g ds M1
 |_=>none
theorem zgC (a:AtX X.prog X.w X.K X.mg X.base k f n g)(hr:Room k X.A)(hg:Gl X f)(ha:SA X W0 .val (e::es) fs)(hn:Cnt n fs)(hdb:(f==("__debug__":Str))=false:=by x_go)
  (he:starEach (e::es) X.env=(false,eval e X.env)::starEach es X.env:=by rfl) (hpl:(backTo pos (starEach es X.env)).any (·.1)=false:=by rfl):SX X (.Call (.Name f p) (e::es) [] pos) (zfd g fs):=by
 obtain⟨fa,fd,ps,hm,hk,F,hb⟩:=a;intro Ex hx;refine za1 (zn7 F hr hg hm hk hb .nil hx ha hdb he hpl) ?_;rintro st H Q ⟨P0,H0,P,Os,env,M,r,M',k,e,q⟩;unfold zfd at e;split at e
 ·rename_i ds M1 e1;exact ⟨P0,H0,P,Os,env,M,_,_,k,e1,fun P1 vs H1 l1 h1 i1=>by
   dsimp only;rw[List.append_nil];exact⟨by rw[i1.len];exact hn _ _ _ _ e1,P1,M1,ds,r,_,h1,i1.iss,e,q.lt l1⟩⟩
 ·cases e
def zuY (K:Fgx)(mg:Mgx)(E:XK)(P0:Pl)(H0:Hp)(P:Pl)(H:Hp)(M':Mm)(D:Ends):Out->Prop
 |.ex c n=>∀P' H' C dx,LtE P H P' H'->Hk K mg P' H' M'->mg c=some (.ref C)->XN H' n dx->E (.ref C) dx H'
 |.nx env=>Post K mg W0 P0 H0 P H M' D (.nx env)
 |.bk env=>Post K mg W0 P0 H0 P H M' D (.bk env)
 |.ct env=>Post K mg W0 P0 H0 P H M' D (.ct env)
 |.rt d=>Post K mg W0 P0 H0 P H M' D (.rt d)
def tBX (K:Fgx)(mg:Mgx)(Ex:L2.St->XK)(b:S):TS:=fun D st H=>∃P0 H0 P Os env M out M',Ok K mg P0 H0 P Os H M st env/\b env M=some (out,M')/\zuY K mg (Ex st) P0 H0 P H M' D out
def SXs (X:Cx)(s:Stmt)(b:S):Prop:=∀Ex:L2.St->XK,zqg (CX1 X.prog X.w) X Ex->PS X s (tBX X.K X.mg Ex b)
def BX (X:Cx)(ss:List Stmt)(b:S):Prop:=∀Ex:L2.St->XK,zqg (CX1 X.prog X.w) X Ex->PSs X ss (tBX X.K X.mg Ex b)
theorem zo3 (h:SXs X s b):BX X [s] b:=fun Ex hx=>zpg (h Ex hx)
theorem zmE (h:SX X e f)(hs:swapsWith e none pos.line X.env=pure false:=by rfl):SXs X (.Expr e pos) (zhf f):=by
 intro Ex hx;refine zcy (zfG (h Ex hx) hs) ?_;rintro D st H ⟨P0,H0,P,Os,env,M,out,M',k,e,q⟩;unfold zhf at e;rcases za0 e with⟨d,M1,e1,e⟩ |⟨c,n,e1,rfl⟩
 ·cases e;exact⟨P0,H0,P,Os,env,M,_,_,k,e1,fun P1 v H1 l1 h1 i1=>q _ _ _ _ (l1.lt k.hk) (k.next l1 h1)⟩
 ·exact⟨P0,H0,P,Os,env,M,_,_,k,e1,q⟩
end
end E3
namespace L2
open PySem PySem.Spec PyProof.Rows
end L2
namespace E3
open PySem PySem.Spec PyProof.Rows L2
section
variable {X:Cx}{Wx:XW}
def iTp (f:E):EA:=fun env M=>match f env M with
 |some (.v (.tup ds),M1)=>some (.v ds,M1)
 |some (.x c n,M1)=>some (.x c n,M1)
 |_=>none
theorem zrq (h:SE X Wx .val e f):SI X Wx tg e (iTp f):=by
 refine ziY (zto h) ?_;rintro st H R ⟨P0,H0,P,Os,env,M,r,M',k,e,q⟩;unfold iTp at e;split at e
 ·rename_i ds M1 ef;cases e;refine⟨P0,H0,P,Os,env,M,_,_,k,ef,fun P1 v1 H1 l1 h1 i1=>?_⟩;obtain⟨a,vs,rfl,ra,is⟩:=i1;refine⟨a,rfl,⟨vs,ra⟩,q P1 H1 _ l1 h1 fun P2 H2 l2=>?_⟩;have sq:SqT X.K H2 a vs:=l2.tup ra;have is2:=Iss.lt l2 is;refine⟨fun j hj=>?_,fun j h1 h2=>⟨vs,sq,by rw[is2.len];exact h1⟩,fun j x H' y hj=>⟨y.1,?_⟩⟩
  ·obtain⟨v,ev,_⟩:=Iss.get is2 (List.getElem?_eq_getElem hj);exact⟨vs,v,sq,ev⟩
  ·obtain⟨v,ev,iv⟩:=Iss.get is2 (List.getElem?_eq_getElem hj);have:=y.2 vs sq;rw[ev]at this;cases this;exact⟨_,List.getElem?_eq_getElem hj,iv⟩
 ·rename_i c n M1 ef;cases e;exact⟨P0,H0,P,Os,env,M,_,_,k,ef,q⟩
 ·cases e
end
theorem ziG {K:Fgx}{C:Addr}(h1:PySem.W.findIn K (.ref C) "__getattribute__"=some (some (.builtin "BaseException.__getattribute__")))(h2:PySem.W.findIn K (.ref C) "__getattr__"=some none)(h3:PySem.W.mroIn K C (.type "BaseException")=some true):zkV K C=true:=by
 simp only[zkV,h1,h2,h3,beq_self_eq_true,Bool.and_self]
theorem zmg {K:Fgx}{C:Addr}(h1:zkV K C=true)(h2:PySem.W.hasDictIn K C=true)(h3:PySem.W.findIn K (.ref C) "__class__"=some (some (.builtin "object.__class__")))(h4:PySem.W.specialIn K (.builtin "object.__class__") "__get__"=some (some (.builtin "getset_descriptor.__get__")))
  (h5:PySem.W.takesIn K (.builtin "object.__class__")=some true) (h6:PySem.W.mroIn K C (.type "object")=some true):zi4 K C=true:=by
 simp only[zi4,h1,h2,h3,h4,h5,h6,beq_self_eq_true,Bool.and_self]
end E3
namespace E3
open PySem L2
section
variable {env:Env}{M M1 M2:Mm}{f g o v:E}{d e x:D}{i:Int}{k:Nat}{ds:List D}{s t:S}{c me fl:Str}{fs:List (Str×D)}{gg:G}{fa:EA}
theorem zrS (h:M[k]? =some (.obj c fs)):zlx M c (.ref k)=some (k,fs):=by unfold zlx;simp only[h,if_true]
theorem zsc (h1:v env M=some (.v x,M1))(h2:o env M1=some (.v (.ref k),M2))(h3:M2[k]? =some (.obj c fs))(h4:fs.length<1000):zle c fl o v env M=some (.nx env,M2.set k (.obj c (putD fl x fs))):=by
 simp only[zle,bndS,h1,h2,zrS h3,h4,if_true]
theorem zoI (h4:fa env M=some (.v ds,M1))(h5:gg (.ref M1.length::ds) (M1 ++ [.obj c []])=some (.v .non,M3)):zkX c gg fa env M=some (.v (.ref M1.length),M3):=by
 simp only[zkX,bndA,h4,h5]
theorem ztu {a:Int}:endS (some (.ex c a,M))=some (.x c a,M):=rfl
def tpR:O->Option (ResA×Mm)
 |some (.v (.tup ds),M1)=>some (.v ds,M1)
 |some (.x c n,M1)=>some (.x c n,M1)
 |_=>none
theorem zv8:iTp f env M=tpR (f env M):=by
  unfold iTp tpR
  cases f env M with
  |none=>rfl
  |some p=>obtain⟨r,M'⟩:=p;cases r with
    |x c n=>rfl
    |v d=>cases d<;>rfl
theorem zt8:tpR (some (.v (.tup ds),M))=some (.v ds,M):=rfl
end
theorem AtI.mono (a:AtI P w K mg base j C n g)(h:j<=k):AtI P w K mg base k C n g:=by
 obtain⟨f,fd,ps,h1,h2,h3⟩:=a;exact⟨f,fd,ps,h1,h2.mono h,h3⟩
end E3
namespace E3
open PySem PySem.Spec PyProof.Rows L2
theorem zel (hN:X.N[i]? =some x)(hv:Vis X.env.scope x)(hd:(x==("__debug__":Str))=false:=by x_go)(hcd:(x==("__classdict__":Str))=false:=by x_go):SE X Wx m (.Name x pos) (sVar i):=(zoi hN hv hd hcd).bor
def capE (cs:List (Str×Nat))(env:Env):Env:=cs.map fun p=>(env[p.2]?).getD .un
def capO (cs:List (Str×Nat))(Os:List (Option Addr)):List (Option Addr):=cs.map fun p=>(Os[p.2]?).join
section
variable {K:Fgx}{mg:Mgx}{P0 P:Pl}{H0 H:Hp}{M:Mm}{Os:List (Option Addr)}{st:L2.St}{env:Env}{d:D}{v:V}
theorem zh2 {cs:List (Str×Nat)}{i:Nat}{a:Addr}(h:(capO cs Os)[i]? =some (some a)):∃p,cs[i]? =some p/\Os[p.2]? =some (some a):=by
 unfold capO at h;rw[List.getElem?_map,Option.map_eq_some_iff]at h;obtain⟨p,e,h⟩:=h;exact⟨p,e,zcH h⟩
theorem Ok.cap {cs:List (Str×Nat)}(k:Ok K mg P0 H0 P Os H M st env)(nd:(cs.map (·.2)).Nodup)(h:Is K P H d v):Ok K mg P0 H0 P (none::capO cs Os) H M (some v::zfO cs st) (.val d::capE cs env) where
  hk:=k.hk
  base:=k.base
  b0:=k.b0
  slot:=fun i s e=>by
    cases i with
    |zero=>cases e;exact⟨v,rfl,h⟩
    |succ i=>
      rw[List.getElem?_cons_succ]at e ⊢;rw[List.getElem?_cons_succ];unfold capE at e;rw[List.getElem?_map,Option.map_eq_some_iff]at e;obtain⟨p,ep,e⟩:=e;have eo:((capO cs Os)[i]?).join=(Os[p.2]?).join:=by unfold capO;rw[List.getElem?_map,ep];rfl
      have es:((zfO cs st)[i]?).join=(st[p.2]?).join:=by unfold zfO;rw[List.getElem?_map,ep];rfl
      rw[eo,es]
      cases e':env[p.2]? with
      |none=>rw[e']at e;cases e;exact True.intro
      |some s'=>rw[e']at e;cases e;exact k.slot _ _ e'
  own:=fun a h=>by
    rw[List.mem_cons]at h;rcases h with h |h
    · cases h
    · obtain⟨i,hi⟩:=List.mem_iff_getElem?.mp h;obtain⟨p,_,e⟩:=zh2 hi;exact k.own a (List.mem_of_getElem? e)
  inj:=fun i j a e1 e2=>by
    cases i with
    |zero=>cases e1
    |succ i=>
      cases j with
      |zero=>cases e2
      |succ j=>
        rw[List.getElem?_cons_succ]at e1 e2;obtain⟨p,h1,h2⟩:=zh2 e1;obtain⟨q,h3,h4⟩:=zh2 e2;have e:=k.inj _ _ a h2 h4;congr 1;have hi:(cs.map (·.2))[i]? =some p.2:=by rw[List.getElem?_map,h1];rfl
        have hj:(cs.map (·.2))[j]? =some p.2:=by rw[List.getElem?_map,h3,e];rfl
        have il:=(List.getElem?_eq_some_iff.mp hi).1;exact(List.getElem?_inj il nd).mp (hi.trans hj.symm)
  olen:=by simp[capO,capE]
  slen:=by simp[zfO,capE]
end
section
variable {X:Cx}{Wx:XW}{m:Mode}{pos:Pos}
def zfa (q e:E)(env:Env):List D->List D->Mm->Option (List D×Mm)
  | [],acc,M=>some (acc,M)
  |d::ds,acc,M=>match q (.val d::env) M with
    | some (.v (.bl true), M1) => (match e (.val d::env) M1 with
      |some (.v y,M2)=>if acc.length + 1<sizeLine then zfa q e env ds (acc ++ [y]) M2 else none
      |_=>none)
    |some (.v (.bl false),M1)=>zfa q e env ds acc M1
    |_=>none
def zeO (cs:List (Str×Nat))(fs:EA)(q e:E):E:=fun env M=>match fs env M with
  | some (.v ds, M1) => (match zfa q e (capE cs env) ds [] M1 with
    |some (ys,M2)=>some (.v (.lst ys),M2)
    |none=>none)
  |some (.x c n,M1)=>some (.x c n,M1)
  |none=>none
theorem zef:∀env M r M',zeO cs fs q e env M=some (.v r,M')->∃ds,r=.lst ds:=fun env M r M' h=>by
 unfold zeO at h;split at h
 ·split at h
  ·cases h;exact⟨_,rfl⟩
  ·cases h
 ·cases h
 ·cases h
theorem zpd {K:Fgx}{mg:Mgx}{P1 P:Pl}{H1 H:Hp}{M:Mm}{D:Addr}{vs vs':List V}(l:LtE P1 H1 P H)(h:Hk K mg P H M)(hD:H1 D=none)(bD:P.bd D)(nc:∀k,k<P.n->P.io k≠D)(e:H D=some (.lst vs)):
  Lt P H P (upd H D (.lst vs'))/\LtE P1 H1 P (upd H D (.lst vs'))/\Hk K mg P (upd H D (.lst vs')) M:=by
 have lc:Lt P H P (upd H D (.lst vs')):=zfy bD e zkE;refine⟨lc,⟨l.n,l.io,l.bd,l.bm,fun c o ec n=>?_,fun c z=>l.sure c (lc.sure c z),l.nw⟩,⟨h.n,fun j c ej=>(h.cell j c ej).lt lc fun o eo=>?_,h.inj,h.bd,fun c z q=>h.here c z (lc.sure c q)⟩⟩
 ·rw[zak (fun z=>by subst z;rw[hD]at ec;cases ec)];exact l.keep c o ec n
 ·rw[zak (nc j (by rw[h.n];exact(List.getElem?_eq_some_iff.mp ej).1))];exact eo
def NR (K:Fgx)(mg:Mgx)(Wx:XW)(P0:Pl)(H0:Hp)(P:Pl)(H:Hp)(M':Mm)(R:Addr->Hp->Prop):Res->Prop
 |.v d=>∃ds,d=.lst ds/\∀P' a vs H',LtE P H P' H'->Hk K mg P' H' M'->H a=none->P'.bd a->(∀k,k<P'.n->P'.io k≠a)->H' a=some (.lst vs)->Iss K P' H' ds vs->R a H'
 |.x c n=>Wx P0 H0 M' c n
theorem zgD {K:Fgx}{mg:Mgx}{cs:List (Str×Nat)}{fs:EA}{q e:E}{P0 P:Pl}{H0 H:Hp}{Os:List (Option Addr)}{M M':Mm}{st:L2.St}{env:Env}{r:Res}{R:Addr->Hp->Prop}(nd:(cs.map (·.2)).Nodup)
    (k:Ok K mg P0 H0 P Os H M st env) (h:zeO cs fs q e env M=some (r,M')) (w:NR K mg Wx P0 H0 P H M' R r):zkg (tI K mg Wx fs) (tTt K mg W0 q) (tE K mg W0 .val e) cs st H R:=by
  unfold zeO at h;split at h
  · rename_i ds M1 ef;split at h
    rotate_left
    · cases h
    rename_i ys M2 ec;cases h;obtain ⟨ds', e', w⟩ := w;cases e';refine ⟨P0, H0, P, Os, env, M, _, _, k, ef, fun P1 H1 J l1 h1 wk D hD => ?_⟩;obtain ⟨l2, h2, nc⟩ := ziv (vs := []) h1 hD;refine ⟨fun i m vs H2=>m=ds.length - i/\i<=ds.length/\∃P2 M3 acc,LtE P1 H1 P2 H2/\Hk K mg P2 H2 M3/\P2.bd D/\(∀k,k<P2.n->P2.io k≠D)/\H2 D=some (.lst vs)/\Iss K P2 H2 acc vs/\acc.length<sizeLine/\zfa q e (capE cs env) (ds.drop i) acc M3=some (ys,M'),
      ⟨ds.length,by simp,Nat.zero_le _,P1.bar D,M1,[],l2,h2,.inr rfl,nc,zar,rfl,by x_go,by rw[List.drop_zero];exact ec⟩,?_⟩
    rintro i m vs H2 ⟨rfl,hi,P2,M3,acc,l3,h3,bD,nD,eD,is,hz,ec⟩;refine⟨eD,?_⟩;obtain⟨w1,w2,w3⟩:=wk P2 H2 (l3.lt h1)
    by_cases hlt:i<ds.length
    · refine .inr ⟨w1 i hlt,by rw[is.len];exact hz,fun vs' H'=>∃P2 M3 acc,LtE P1 H1 P2 H'/\Hk K mg P2 H' M3/\P2.bd D/\(∀k,k<P2.n->P2.io k≠D)/\H' D=some (.lst vs')/\Iss K P2 H' acc vs'/\acc.length<sizeLine/\zfa q e (capE cs env) (ds.drop (i + 1)) acc M3=some (ys,M'),
        fun vs' H' z=>⟨ds.length - (i + 1),by omega,rfl,hlt,z⟩,fun x H' y=>?_⟩
      obtain⟨e3,d,ed,iv⟩:=w3 i x H' y hlt;subst e3;have ed':ds.drop i=d::ds.drop (i + 1):=by
        rw[List.drop_eq_getElem_cons hlt];rw[List.getElem?_eq_getElem hlt]at ed;rw[Option.some.inj ed]
      rw[ed']at ec;have kk:=((k.next l1 h1).next l3 h3).cap (cs:=cs) nd iv
      simp only[zfa]at ec;split at ec
      · rename_i M4 eq;refine zcL kk eq ⟨true,rfl,fun P4 H4 l4 h4=>?_⟩;dsimp only;rw[if_pos rfl];split at ec
        · rename_i y' M5 ee;split at ec
          · rename_i hz';refine zax (kk.next l4 h4) ee fun P5 v5 H5 l5 h5 i5=>?_
            have l45:=l4.trans l5;have eD5:H5 D=some (.lst vs):=l45.keep D _ eD nD;have nD5:∀k,k<P5.n->P5.io k≠D:=l45.nc eD nD;obtain⟨g1,g2,g3⟩:=zpd (vs':=vs ++ [v5]) (l3.trans l45) h5 hD (l45.bm D bD) nD5 eD5;refine⟨eD5,P5,M5,acc ++ [y'],g2,g3,l45.bm D bD,nD5,zar,Iss.append (Iss.lt ((l45.lt h3).trans g1) is) (Iss.one (Is.lt g1 i5)),by rw[List.length_append];exact hz',ec⟩
          · cases ec
        · cases ec
      · rename_i M4 eq;refine zcL kk eq ⟨false,rfl,fun P4 H4 l4 h4=>?_⟩;dsimp only;rw[if_neg (by decide)];exact⟨P4,M4,acc,l3.trans l4,h4,l4.bm D bD,l4.nc eD nD,l4.keep D _ eD nD,Iss.lt (l4.lt h3) is,hz,ec⟩
      · cases ec
    · have ei:i=ds.length:=by omega
      subst ei;rw[List.drop_length]at ec;cases ec;exact .inl ⟨w2 _ (Nat.le_refl _) (Nat.le_refl _),w P2 D vs H2 (l1.trans l3) h3 (l1.sure D hD) bD nD eD is⟩
  · rename_i c n M1 ef;cases h;exact⟨P0,H0,P,Os,env,M,_,_,k,ef,w⟩
  · cases h
def SQ (X:Cx)(ifs:List Expr)(q:E):Prop:=PIfs X ifs (tTt X.K X.mg W0 q)
theorem zer:SQ X [] (sCon (.bl true)):=fun pins s σ H Q I h=>by
 obtain⟨P0,H0,P,Os,env,M,r,M',k,e,q⟩:=h;cases e;obtain⟨b,e2,q⟩:=q;cases e2;exact zna pins s σ H Q I (q P H (LtE.refl P H) k.hk)
section
variable {elt iter:Expr}{ifs:List Expr}{scope:Scope}{fs:EA}{q e:E}
theorem ze6 (x:Str)(cs:List (Str×Nat))(hc:X.calm=true)(nd:(cs.map (·.2)).Nodup)(hi:SI X Wx (.Name x px) iter fs)
  (hq:∀(cl:List (Str×Addr)) (C:Addr) (s₀:Shared) (H₀:Hp) (ex:List Addr) (pn:Pnx),SQ (zbB X (x::cs.map (·.1)) scope cl C s₀ H₀ ex pn) ifs q)
  (he:∀(cl:List (Str×Addr)) (C:Addr) (s₀:Shared) (H₀:Hp) (ex:List Addr) (pn:Pnx),SE (zbB X (x::cs.map (·.1)) scope cl C s₀ H₀ ex pn) W0 .val elt e)
  (ok:zfF X.N X.env.scope x cs scope=true:=by kernel_rfl) (hs:∀x,foldedSetIterable iter X.env x=pure x:=by intro _;rfl):
  SN X Wx (.ListComp elt [⟨.Name x px,iter,ifs,0⟩] scope pos) (zeO cs fs q e):=by
 refine za1 (zqp (tq:=tTt X.K X.mg W0 q) (te:=tE X.K X.mg W0 .val e) x cs hc hi hq he ok hs) ?_;rintro st H Q ⟨P0,H0,P,Os,env,M,r,M',k,e,w⟩;refine zgD nd k e ?_
 cases r with
 |v d=>exact w
 |x c n=>exact w
theorem zo7 {K:Fgx}{mg:Mgx}{P P':Pl}{H H':Hp}{M M':Mm}{a:Addr}{vs:List V}{ds:List D}(k:Hk K mg P H M)(l:LtE P H P' H')(h:Hk K mg P' H' M')(ha:H a=none)(nc:∀j,j<P'.n->P'.io j≠a)(ea:H' a=some (.lst vs))(is:Iss K P' H' ds vs):
  LtE P H (P'.less (· ≠a)) H'/\Hk K mg (P'.less (· ≠a)) H' M'/\Is K (P'.less (· ≠a)) H' (.lst ds) (.ref a):=by
 have l2 : Lt P' H' (P'.less (· ≠ a)) H' := ⟨Nat.le_refl _, fun _ _ => rfl, fun c z => .inl z.1, fun _ _ e _ => e, fun _ z => z⟩;exact ⟨⟨l.n,l.io,fun b z=>l.bd b z.1,fun b z=>⟨l.bm b z,fun q=>k.here b z (q ▸ ha)⟩,l.keep,l.sure,l.nw⟩,
  ⟨h.n,fun j c e=>(h.cell j c e).lt l2 fun _ z=>z,h.inj,fun j hj=>⟨h.bd j hj,nc j hj⟩,fun b z=>h.here b z.1⟩,
  a,vs,rfl,.inl ⟨fun z=>z.2 rfl,.inl ea⟩,Iss.less is⟩
theorem zpC (x:Str)(cs:List (Str×Nat))(hN:X.N.Nodup)(hk:X.N[i]? =some y)(hy:Loc X.env.scope y)(hc:X.calm=true)(nd:(cs.map (·.2)).Nodup)(hi:SI X Wx (.Name x px) iter fs)
  (hq:∀(cl:List (Str×Addr)) (C:Addr) (s₀:Shared) (H₀:Hp) (ex:List Addr) (pn:Pnx),SQ (zbB X (x::cs.map (·.1)) scope cl C s₀ H₀ ex pn) ifs q)
  (he:∀(cl:List (Str×Addr)) (C:Addr) (s₀:Shared) (H₀:Hp) (ex:List Addr) (pn:Pnx),SE (zbB X (x::cs.map (·.1)) scope cl C s₀ H₀ ex pn) W0 .val elt e)
  (ok:zfF X.N X.env.scope x cs scope=true:=by kernel_rfl) (hs:∀x,foldedSetIterable iter X.env x=pure x:=by intro _;rfl)
  (hsw:swapsWith (.ListComp elt [⟨.Name x px,iter,ifs,0⟩] scope pos) (some (.Name y py)) spos.line X.env=pure true:=by rfl)
  (hf:X.fn y=true\/X.env.scope.names.lookup y=some .local:=by first |exact .inl rfl |exact .inr rfl):
  SS X Wx (.Assign [.Name y py] (.ListComp elt [⟨.Name x px,iter,ifs,0⟩] scope pos) spos) (sAsg i (zeO cs fs q e)):=by
 refine zcy (zpw (tq:=tTt X.K X.mg W0 q) (te:=tE X.K X.mg W0 .val e) x cs hN hk hy hc hi hq he ok hs hsw hf) ?_;rintro D st H ⟨P0,H0,P,Os,env,M,out,M',k,ee,w⟩;unfold sAsg at ee;rcases za0 ee with⟨d,M1,e1,ee⟩ |⟨c,n,e1,rfl⟩
 ·obtain⟨ds,rfl⟩:=zef _ _ _ _ e1;split at ee
  ·rename_i hl;cases ee;refine zgD nd k e1 ⟨ds,rfl,fun P1 a vs H1 l1 h1 ha ba nc ea is=>?_⟩;obtain⟨l2,h2,i2⟩:=zo7 k.hk l1 h1 ha nc ea is;exact w _ _ _ _ (l2.lt k.hk) ((k.next l2 h2).asg hl i2)
  ·cases ee
 ·exact zgD nd k e1 w
end
end
section
variable {X:Cx}{Wx:XW}{m:Mode}{pos:Pos}
def sPop (f:E):E:=fun env M=>bnd (f env M) fun d M1=>match d with
  | .ref j => (match M1[j]? with
    | some (.lst ds) => (match ds[ds.length - 1]? with
      |some z=>some (.v z,M1.set j (.lst ds.dropLast))
      |none=>none)
    |_=>none)
  |_=>none
theorem Iss.dropLast {K:Fgx}{P:Pl}{H:Hp}{ds:List D}{vs:List V}(h:Iss K P H ds vs):Iss K P H ds.dropLast vs.dropLast:=by
 rw[List.dropLast_eq_take,List.dropLast_eq_take,h.len];exact h.take _
theorem zo2 (ho:SE X Wx .val o f)(hbase:attributeBase o "pop" X.env (eval o X.env)=eval o X.env:=by rfl)(hline:(p.endLine==pos.line)=true:=by rfl):
  SE X Wx m (.Call (.Attribute o "pop" p) [] [] pos) (sPop f):=by
 refine za1 (zsV PySem.F.plainAttrs_list PySem.F.slot_list_pop PySem.F.type_list_pop zss ho hbase hline) ?_;rintro st H Q ⟨P0,H0,P,Os,env,M,r,M',k,e,q⟩;unfold sPop at e;rcases zaG e with⟨d,M1,e1,e⟩ |⟨c,n,e1,rfl⟩
 ·cases d<;>simp only[reduceCtorEq]at e
  rename_i j;split at e
  rotate_left
  ·cases e
  rename_i ds em;split at e
  rotate_left
  ·cases e
  rename_i z ez;cases e;refine zax k e1 fun P1 v1 H1 l1 h1 i1=>?_;obtain⟨jl,rfl⟩:j<P1.n/\v1=.ref (P1.io j):=i1;obtain⟨vs,ev,is⟩:=h1.cell j _ em;obtain⟨v,evt,iv⟩:=is.get ez;have lc:Lt P1 H1 P1 (upd H1 (P1.io j) (.lst vs.dropLast)):=zfy (h1.bd j jl) ev zkE;obtain⟨l3,l3e,h3⟩:=h1.set (c':=.lst ds.dropLast) (o':=.lst vs.dropLast) em ⟨_,zar,(Iss.lt lc is).dropLast⟩;refine⟨.inl ⟨rfl,vs,.inl (.inl ev)⟩,P1.io j,vs,v,rfl,rfl,ev,by rw[is.len];exact evt,?_⟩;exact q P1 v _ (l1.trans l3e) h3 (IsM.of h3 (Is.lt l3 iv))
 ·exact zax k e1 q
end
def toKey:D->Option Key
 |.int i=>some (.inl i)
 |.str z=>some (.inr z)
 |_=>none
def valD (kvs:List (Key×D))(k:Key):Option D:=(kvs.find? fun kv=>decide (kv.1=k)).map (·.2)
def putT (kvs:List (Key×D))(k:Key)(v:D):List (Key×D):=
 if (kvs.any fun kv=>decide (kv.1=k))=true then kvs.map (fun kv=>if kv.1=k then(kv.1,v) else kv) else kvs ++ [(k,v)]
section
variable {K:Fgx}{mg:Mgx}{P:Pl}{H:Hp}{M:Mm}
def TbOk (K:Fgx)(P:Pl)(H:Hp)(kvs:List (Key×D))(vs:List (Key×V)):Prop:=vs.map (·.1)=kvs.map (·.1)/\Iss K P H (kvs.map (·.2)) (vs.map (·.2))
theorem key_is (h:toKey d=some k)(i:Is K P H d v):v=kV k:=by
 unfold toKey at h;split at h
 ·cases h;cases i;rfl
 ·cases h;cases i;rfl
 ·cases h
theorem zj2:TbOk K P H (p::kvs) (q::vs) ↔ q.1=p.1/\Is K P H p.2 q.2/\TbOk K P H kvs vs:=by
 constructor
 ·rintro⟨h1,v,r,e1,i,q⟩;simp only[List.map_cons,List.cons.injEq]at h1 e1;obtain⟨rfl,rfl⟩:=e1;exact⟨h1.1,i,h1.2,q⟩
 ·rintro⟨h1,i,h2,q⟩;exact⟨by simp[h1,h2],_,_,rfl,i,q⟩
theorem zmB:∀{kvs:List (Key×D)} {vs:List (Key×V)},TbOk K P H kvs vs->match valD kvs k with
    |some d=>∃v,valV vs k=some v/\Is K P H d v
    |none=>valV vs k=none
  | [],[],_=>rfl
  | [],_::_,h=>by cases h.1
  |_::_,[],h=>by cases h.1
  |p::kvs,q::vs,h=>by
    obtain⟨h1,i,h2⟩:=zj2.mp h
    by_cases e:p.1=k
    · have e':q.1=k:=h1.trans e;have a:valD (p::kvs) k=some p.2:=by simp[valD,List.find?_cons,e]
      rw[a];exact⟨q.2,zgj e',i⟩
    · have e':¬ q.1=k:=fun z=>e (h1.symm.trans z);have a:valD (p::kvs) k=valD kvs k:=by simp[valD,List.find?_cons,e]
      rw[a,zgb e'];exact zmB h2
theorem tb_any:∀{kvs:List (Key×D)} {vs:List (Key×V)},vs.map (·.1)=kvs.map (·.1)->(vs.any fun kv=>decide (kv.1=k))=(kvs.any fun kv=>decide (kv.1=k))
  | [],[],_=>rfl
  | [],_::_,h=>by cases h
  |_::_,[],h=>by cases h
  |p::kvs,q::vs,h=>by
    simp only[List.map_cons,List.cons.injEq]at h;rw[List.any_cons,List.any_cons,h.1,tb_any h.2]
theorem zoA (i:Is K P H d v):∀{kvs:List (Key×D)} {vs:List (Key×V)},TbOk K P H kvs vs->TbOk K P H (kvs.map fun kv=>if kv.1=k then(kv.1,d) else kv) (vs.map fun kv=>if kv.1=k then(kv.1,v) else kv)
  | [],[],h=>h
  | [],_::_,h=>by cases h.1
  |_::_,[],h=>by cases h.1
  |p::kvs,q::vs,h=>by
    obtain⟨h1,i1,h2⟩:=zj2.mp h;rw[List.map_cons,List.map_cons];refine zj2.mpr ⟨?_,?_,zoA i h2⟩
    · split<;>split<;>exact h1
    · rw[h1]
      split
      · exact i
      · exact i1
theorem zrN (i:Is K P H d v)(h:TbOk K P H kvs vs):TbOk K P H (putT kvs k d) (putK vs k v):=by
 unfold putT putK;rw[tb_any h.1]
 split
 ·exact zoA i h
 ·refine⟨by rw[List.map_append,List.map_append,h.1];rfl,?_⟩;rw[List.map_append,List.map_append];exact Iss.append h.2 (Iss.one i)
theorem ztf (h:TbOk K P H kvs vs):vs.length=kvs.length:=by
 have:=congrArg List.length h.1
 simpa using this
theorem ztB:¬ Fx (.dK vs):=fun z=>by rcases z with⟨_,z⟩ |⟨_,_,z⟩ |⟨_,z⟩ |⟨_,z⟩<;>cases z
end
section
variable {X:Cx}{Wx:XW}{m:Mode}{pos:Pos}
def zjz (M:Mm)(d:D):Option (Nat×List (Key×D)):=match d with
  | .ref k => (match M[k]? with
    |some (.dct kvs)=>some (k,kvs)
    |_=>none)
  |_=>none
theorem zi3 (h:zjz M d=some (k,kvs)):d=.ref k/\M[k]? =some (.dct kvs):=by
 unfold zjz at h;split at h
 ·split at h
  ·cases h;rename_i e;exact⟨rfl,e⟩
  ·cases h
 ·cases h
def dk (M:Mm)(d y:D):Option (Nat×List (Key×D)×Key):=match zjz M d with
 |some p=>(toKey y).map fun k=>(p.1,p.2,k)
 |none=>none
theorem zmq (h:dk M d y=some (j,kvs,k)):d=.ref j/\M[j]? =some (.dct kvs)/\toKey y=some k:=by
 unfold dk at h;split at h
 ·rename_i p ep;rw[Option.map_eq_some_iff]at h;obtain⟨k',ek,h⟩:=h;cases h;obtain⟨h1,h2⟩:=zi3 (k:=p.1) (kvs:=p.2) ep;exact⟨h1,h2,ek⟩
 ·cases h
def sDIn (b:Bool)(g f:E):E:=fun env M=>bnd (g env M) fun y M1=>bnd (f env M1) fun d M2=>match dk M2 d y with
 |some (_,kvs,k)=>some (.v (.bl (if b then(valD kvs k).isSome else !(valD kvs k).isSome)),M2)
 |none=>none
theorem ztv {b:Bool}{f g:E}{st:L2.St}{H:Hp}{Q:VK}(w:tE X.K X.mg Wx m (sDIn b g f) st H Q):(if b then tDIn (tE X.K X.mg Wx .val g) (tE X.K X.mg Wx .val f) st H Q else zqA (tE X.K X.mg Wx .val g) (tE X.K X.mg Wx .val f) st H Q):=by
  obtain⟨P0,H0,P,Os,env,M,r,M',k,e,q⟩:=w;have key:tE X.K X.mg Wx .val g st H fun y H1=>tE X.K X.mg Wx .val f st H1 fun x H2=>∃a o,x=.ref a/\DGet H2 a y o/\Q (.bl (if b then o.isSome else !o.isSome)) H2:=by
    unfold sDIn at e;rcases zaG e with⟨y,M1,e1,e⟩ |⟨c,n,e1,rfl⟩
    · refine zax k e1 fun P1 v1 H1 l1 h1 i1=>?_;have k1:=k.next l1 h1
      rcases zaG e with⟨d,M2,e2,e⟩ |⟨c,n,e2,rfl⟩
      · refine zax k1 e2 fun P2 v2 H2 l2 h2 i2=>?_;split at e
        · rename_i j kvs key ed;cases e;obtain⟨rfl,em,ek⟩:=zmq ed;obtain⟨jl,rfl⟩:j<P2.n/\v2=.ref (P2.io j):=i2;obtain⟨vs,ev,en,is⟩:=h2.cell j _ em;have g:=zmB (k:=key) (kvs:=kvs) (vs:=vs) ⟨en,is⟩;have eo:(valV vs key).isSome=(valD kvs key).isSome:=by
            cases hd:valD kvs key with
            |none=>rw[hd]at g;have g':valV vs key=none:=g;rw[g'];rfl
            |some d=>rw[hd]at g;obtain⟨v,gv,_⟩:=g;rw[gv];rfl
          refine⟨_,valV vs key,rfl,by rw[key_is ek i1];exact DGet.k ev,?_⟩;rw[eo];exact q P2 _ H2 (l1.trans l2) h2 (IsM.of h2 (show Is _ _ _ (.bl _) _ from rfl))
        · cases e
      · exact zax k1 e2 q
    · exact zax k e1 q
  cases b with
  |true=>exact key
  |false=>exact key
theorem zs9 (hu:X.A.units + 60<cLine)(hi:SE X Wx .val i g)(ho:SE X Wx .val o f)(hm:behindInMarks .In o=false:=by rfl):ST X Wx (.Compare i [.In] [o] pos) (sDIn true g f):=
 zgW (zlU (zq3 (Nat.lt_of_le_of_lt (Nat.add_le_add_left (by decide) _) hu) hi ho) hm) fun _ _ _ w=>ztv (b:=true) (zl1 w)
def zjo (f g v:E):S:=fun env M=>bndS (v env M) fun x M1=>bndS (f env M1) fun d M2=>bndS (g env M2) fun y M3=>match dk M3 d y with
 |some (j,kvs,k)=>if kvs.length<sizeLine then some (.nx env,M3.set j (.dct (putT kvs k x))) else none
 |none=>none
theorem zpJ (hu:X.A.units + 60<cLine)(ho:SE X Wx .val o f)(hi:SE X Wx .val i g)(he:SE X Wx .val e v)(hs:swapsWith e (some (.Subscript o i pos')) pos.line X.env=pure false:=by rfl):
  SS X Wx (.Assign [.Subscript o i pos'] e pos) (zjo f g v):=by
 refine zcy (zqu (Nat.lt_of_le_of_lt (Nat.add_le_add_left (by decide) _) hu) ho hi he hs) ?_;rintro D st H ⟨P0,H0,P,Os,env,M,out,M',k,e,q⟩;unfold zjo at e;rcases za0 e with⟨x,M1,e1,e⟩ |⟨c,n,e1,rfl⟩
 ·refine zax k e1 fun P1 v1 H1 l1 h1 i1=>?_;have k1:=k.next l1 h1
  rcases za0 e with⟨d,M2,e2,e⟩ |⟨c,n,e2,rfl⟩
  ·refine zax k1 e2 fun P2 v2 H2 l2 h2 i2=>?_;have k2:=k1.next l2 h2
   rcases za0 e with⟨y,M3,e3,e⟩ |⟨c,n,e3,rfl⟩
   ·refine zax k2 e3 fun P3 v3 H3 l3 h3 i3=>?_;split at e
    ·rename_i j kvs key ed;split at e
     ·rename_i hl;cases e;obtain⟨rfl,em,ek⟩:=zmq ed;obtain⟨jl,rfl⟩:j<P2.n/\v2=.ref (P2.io j):=i2;obtain⟨vs,ev,en,is⟩:=h3.cell j _ em;have jl3:j<P3.n:=Nat.lt_of_lt_of_le jl l3.n;have eio:P3.io j=P2.io j:=l3.io j jl;have ix:=Is.lt ((l2.lt h1).trans (l3.lt h2)) i1;have lc:Lt P3 H3 P3 (upd H3 (P3.io j) (.dK (putK vs key v1))):=zfy (h3.bd j jl3) ev ztB;have tp:=zrN (k:=key) ix ⟨en,is⟩;obtain⟨l4,l4e,h4⟩:=h3.set (c':=.dct (putT kvs key x)) (o':=.dK (putK vs key v1)) em ⟨_,zar,tp.1,Iss.lt lc tp.2⟩;rw[eio]at l4 l4e h4 ev;refine⟨_,_,rfl,by rw[key_is ek i3];exact DPut.k ev (by rw[ztf ⟨en,is⟩];exact hl),?_⟩;exact q _ _ _ _ ((l1.lt k.hk).trans ((l2.lt h1).trans ((l3.lt h2).trans l4))) ((k2.next l3 h3).next l4e h4)
     ·cases e
    ·cases e
   ·exact zax k2 e3 q
  ·exact zax k1 e2 q
 ·exact zax k e1 q
inductive ResP where
 |v (ps:List (D×D)) |x (c:Str) (n:Int)
abbrev EPs:=Env->Mm->Option (ResP×Mm)
def pNil:EPs:=fun _ M=>some (.v [],M)
def keysOf:List (D×D)->Option (List (Key×D))
  | []=>some []
  |p::ps=>match toKey p.1,keysOf ps with
    |some k,some r=>some ((k,p.2)::r)
    |_,_=>none
def zrA (kvs more:List (Key×D)):List (Key×D):=more.foldl (fun acc kv=>putT acc kv.1 kv.2) kvs
def sDct (ps:EPs):E:=fun env M=>match ps env M with
  | some (.v ds, M1) => (match keysOf ds with
    |some kvs=>if kvs.length<=15 then some (.v (.ref M1.length),M1 ++ [.dct (zrA [] kvs)]) else none
    |none=>none)
  |some (.x c n,M1)=>some (.x c n,M1)
  |none=>none
theorem zqi {K:Fgx}{mg:Mgx}{P:Pl}{H:Hp}{M:Mm}{p:Addr}{o:HO}(h:Hk K mg P H M)(hp:H p=none):LtE P H (P.bar p) (upd H p o)/\Hk K mg (P.bar p) (upd H p o) M/\∀k,k<P.n->P.io k≠p:=by
 have s:=zcU (o:=o) hp;have nc:∀k,k<P.n->P.io k≠p:=fun k hk z=>h.here _ (h.bd k hk) (z ▸ hp);have l:LtE P H (P.bar p) (upd H p o):=⟨Nat.le_refl _,fun _ _=>rfl,fun a z=>Or.imp (fun q=>q) (fun(q:a=p)=>by rw[q];exact hp) z,fun a z=>.inl z,fun a o e _=>s a o e,fun a z=>s.free z,fun k h1 h2=>absurd h1 (Nat.not_le.mpr h2)⟩;refine⟨l,⟨h.n,fun k c e=>(h.cell k c e).lt (l.lt h) fun u eu=>s _ _ eu,h.inj,fun k hk=>.inl (h.bd k hk),fun a z q=>?_⟩,nc⟩;rcases z with z |z
 ·exact h.here a z (s.free q)
 ·subst z;rw[zar]at q;cases q
theorem zm9 {K:Fgx}{mg:Mgx}{P0 P:Pl}{H0 H:Hp}{M:Mm}{a:Addr}{o o':HO}{c:Cl}(l:LtE P0 H0 P H)(h:Hk K mg P H M)(ha:H0 a=none)(ba:P.bd a)(nc:∀k,k<P.n->P.io k≠a)(ea:H a=some o)(nf:¬ Fx o)(hc:∀P',Lt P H P' (upd H a o')->zgo K mg P' (upd H a o') a c):
  ∃P',LtE P0 H0 P' (upd H a o')/\Hk K mg P' (upd H a o') (M ++ [c])/\Is K P' (upd H a o') (.ref M.length) (.ref a):=by
 have hn:P.n=M.length:=h.n
 let P2:Pl:={io:=fun j=>if j=P.n then a else P.io j,n:=P.n + 1,bd:=P.bd}
 have io:∀j,j<P.n->P2.io j=P.io j:=fun j hj=>if_neg (by omega);have ioN:P2.io P.n=a:=if_pos rfl;have lc:Lt P H P (upd H a o'):=zfy ba ea nf;have l2:Lt P H P2 (upd H a o'):=⟨Nat.le_succ _,io,fun _ z=>.inl z,lc.keep,lc.sure⟩;refine⟨P2,⟨Nat.le_succ_of_le l.n,fun j hj=>(io j (Nat.lt_of_lt_of_le hj l.n)).trans (l.io j hj),l.bd,l.bm,fun b u e z=>?_,fun b z=>l.sure b (lc.sure b z),fun j h2 h3=>?_⟩,⟨by rw[List.length_append, <-hn];rfl,fun j d ej=>?_,fun i j hi hj e=>?_,fun j hj=>?_,fun b z q=>h.here b z (lc.sure b q)⟩,?_⟩
 ·rw[zak (fun z=>by subst z;rw[ha]at e;cases e)];exact l.keep b u e z
 ·rcases Nat.lt_or_ge j P.n with z |z
  ·rw[io j z];exact l.nw j h2 z
  ·have:j=P.n:=Nat.le_antisymm (Nat.le_of_lt_succ h3) z;rw[this,ioN];exact ha
 ·rcases Nat.lt_or_ge j P.n with z |z
  ·rw[List.getElem?_append_left (by rw[<-hn];exact z)]at ej;rw[io j z];exact(h.cell j d ej).lt l2 fun u eu=>by rw[zak (nc j z)];exact eu
  ·have jl:=(List.getElem?_eq_some_iff.mp ej).1;rw[List.length_append,List.length_singleton, <-hn]at jl;have:j=P.n:=by omega
   subst this;rw[List.getElem?_append_right (by rw[hn];exact Nat.le_refl _),hn,Nat.sub_self]at ej;cases ej;rw[ioN];exact hc P2 l2
 ·rcases Nat.lt_or_ge i P.n with z |z
  ·rcases Nat.lt_or_ge j P.n with y |y
   ·rw[io i z,io j y]at e;exact h.inj i j z y e
   ·have:j=P.n:=Nat.le_antisymm (Nat.le_of_lt_succ hj) y;rw[io i z,this,ioN]at e;exact absurd e (nc i z)
  ·have iN:i=P.n:=Nat.le_antisymm (Nat.le_of_lt_succ hi) z;rcases Nat.lt_or_ge j P.n with y |y
   ·rw[iN,ioN,io j y]at e;exact absurd e.symm (nc j y)
   ·rw[iN];exact Nat.le_antisymm y (Nat.le_of_lt_succ hj)
 ·rcases Nat.lt_or_ge j P.n with z |z
  ·rw[io j z];exact h.bd j z
  ·have:j=P.n:=Nat.le_antisymm (Nat.le_of_lt_succ hj) z;rw[this,ioN];exact ba
 ·exact⟨by show _<P.n + 1;rw[hn];exact Nat.lt_succ_self _,by rw[<-hn,ioN]⟩
theorem zql:SE X Wx m (.Dict [] [] pos) (sDct pNil):=by
 refine za1 znx ?_;rintro st H Q ⟨P0,H0,P,Os,env,M,r,M',k,e,q⟩;cases e;intro p hp;obtain⟨l1,h1,nc⟩:=zqi (o:=.dK []) k.hk hp;obtain⟨P2,l2,h2,i2⟩:=zm9 (o':=.dK []) (c:=.dct []) l1 h1 hp (.inr rfl) nc zar ztB fun P' _=>⟨[],zar,rfl,rfl⟩;rw[zpN]at l2 h2 i2;exact q P2 _ _ l2 h2 (IsM.of h2 i2)
def tyM (M:Mm)(d:D):String:=match d with
  | .ref k => (match M[k]? with
    |some (.lst _)=>"list"
    |some (.dct _)=>"dict"
    |_=>"")
  |d=>tyD d
def sIsi (tb:String->String->Option Bool)(T:String)(f:E):E:=fun env M=>bnd (f env M) fun d M1=>if tyM M1 d="" then none else(tb (tyM M1 d) T).map fun b=>(.v (.bl b),M1)
theorem zmb:zdM X (.builtin "isinstance") (fun xs H Q=>∃(x:V) (T:String) (d:D) (P:Pl) (M:Mm) (b:Bool),xs=[x,.ty T]/\Hk X.K X.mg P H M/\IsB X.K P H d x/\tyM M d≠""/\PySem.W.kitOne X.K (.type (tyM M d)) (.type T)=some b/\Q (.bl b) H):=by
  intro pins s σ H xs us Q I r h;obtain⟨x,T,d,P,M,b,rfl,hk,i,ne,e,q⟩:=h;have old:tyM M d=tyD (vw M d)->wpAny (model X.prog X.w) X.A (call (.builtin "isinstance") us) (EP X pins σ Q) X.xe s:=fun et=>by
    rw[et]at ne e;exact zmW pins s σ H _ us Q I r ⟨x,T,vw M d,P,b,rfl,IsB.vw hk i,ne,e,q⟩
  cases d with
  |ref k=>
    cases em:M[k]? with
    |none=>simp[tyM,em]at ne
    |some c=>
      cases c with
      |lst ds=>exact old (by simp[tyM,vw,em,tyD])
      |obj c fs=>simp[tyM,em]at ne
      |dct kvs=>
        obtain⟨u,w',rfl,rx,rT⟩:=vals2 r;cases rT;obtain⟨kl,rfl⟩:k<P.n/\x=.ref (P.io k):=i;cases rx;obtain⟨vs,ev,_⟩:=hk.cell k _ em;obtain⟨_,_,vs',_,o,es,ep,h1,h2,_⟩:=I.hok _ _ ev;simp only[tyM,em]at e;exact PySem.W.kia_one PySem.W.kitx_dict I.kIn ⟨o,h1,h2.1⟩ e (fun z=>nomatch z) fun tk=>⟨.bl b,H,I.tok _,rfl,q⟩
  |non=>exact old rfl
  |bl _=>exact old rfl
  |int _=>exact old rfl
  |str _=>exact old rfl
  |tup _=>exact old rfl
  |lst _=>exact old rfl
theorem zqE (ht:∀t b,tb t T=some b->PySem.W.kitOne X.K (.type t) (.type T)=some b)(he:SE X Wx .bor e f)(hg:Gl X "isinstance")(hm:X.mg "isinstance"=none)(hg':Gl X (Str.ofString T))(hm':X.mg (Str.ofString T)=none)(hT:bootBuiltins (Str.ofString T)=some (.type T))
  (n1:Str.ofString T≠"__name__":=by x_go) (n2:(Str.ofString T==("__debug__":Str))=false:=by x_go) (hs:starEach [e,.Name (Str.ofString T) p'] X.env=(false,eval e X.env)::starEach [.Name (Str.ofString T) p'] X.env:=by rfl):
  SE X Wx m (.Call (.Name "isinstance" p) [e,.Name (Str.ofString T) p'] [] pos) (sIsi tb T f):=by
 have pT:PE X (.Name (Str.ofString T) p') (tC (.ty T)):=zqN hg' hm' hT rfl n1 n2;refine za1 (zkJ zmb hg hm boot_isinstance (zdy he (zdy pT zfX) hs) (by x_go) (by x_go) hs rfl) ?_;rintro st H Q ⟨P0,H0,P,Os,env,M,r,M',k,e,q⟩;unfold sIsi at e;rcases zaG e with⟨d,M1,e1,e⟩ |⟨c,n,e1,rfl⟩
 ·split at e
  ·cases e
  ·rename_i hne;rw[Option.map_eq_some_iff]at e;obtain⟨b,eb,e⟩:=e;cases e;exact zax k e1 fun P1 v1 H1 l1 h1 i1=>⟨v1,T,d,P1,_,b,rfl,h1,i1,hne,ht _ _ eb,q P1 _ H1 l1 h1 (IsM.of h1 (show Is _ _ _ (.bl b) _ from rfl))⟩
 ·exact zax k e1 q
end
section
variable {X:Cx}{Wx:XW}{m:Mode}{pos:Pos}
def zjW:D->Option Str
 |.str z=>if z.length<=sizeLine then some z else none
 |.int i=>if i.natAbs.log2<1920 then some (toString i) else none
 |_=>none
abbrev EJ:=Str->Env->Mm->O
def jEnd:EJ:=fun out _ M=>if out.length<=sizeLine then some (.v (.str out),M) else none
def jCon (z:Str)(ps:EJ):EJ:=fun out env M=>if (out ++ z).length<=sizeLine then ps (out ++ z) env M else none
def jVal (f:E)(ps:EJ):EJ:=fun out env M=>bnd (f env M) fun d M1=>match zjW d with
 |some y=>if (out ++ y).length<=sizeLine then ps (out ++ y) env M1 else none
 |none=>none
def tJ (K:Fgx)(mg:Mgx)(Wx:XW)(ps:EJ):TJ:=fun out st H Q=>tE K mg Wx .val (ps out) st H Q
def SJ (X:Cx)(Wx:XW)(vs:List Expr)(ps:EJ):Prop:=PJ X vs (tJ X.K X.mg Wx ps)
theorem zkM (h:PJ X vs t)(w:∀out σ H Q,t' out σ H Q->t out σ H Q):PJ X vs t':=fun pins s σ H out Q I hw=>h pins s σ H out Q I (w out σ H Q hw)
theorem zoU:SJ X Wx [] jEnd:=by
 refine zkM zlm ?_;rintro out st H Q ⟨P0,H0,P,Os,env,M,r,M',k,e,q⟩;unfold jEnd at e;split at e
 ·rename_i hl;cases e;exact⟨hl,q P _ H (LtE.refl P H) k.hk rfl⟩
 ·cases e
theorem zoj (h:SJ X Wx vs ps)(hz:z.length<=sizeLine:=by x_go):SJ X Wx (.Constant (.str z) n pos::vs) (jCon z ps):=by
 refine zkM (zkl h hz) ?_;rintro out st H Q ⟨P0,H0,P,Os,env,M,r,M',k,e,q⟩;unfold jCon at e;split at e
 ·rename_i hl;exact⟨hl,P0,H0,P,Os,env,M,r,M',k,e,q⟩
 ·cases e
theorem zph {K:Fgx}{P:Pl}{H:Hp}{d:D}{v:V}{y:Str}(h:zjW d=some y)(i:Is K P H d v):textV v=some y:=by
 unfold zjW at h;split at h
 ·cases i;exact h
 ·cases i;exact h
 ·cases h
theorem zsU (he:SE X Wx .val e f)(h:SJ X Wx vs ps):SJ X Wx (.FormattedValue e (-1) none pos::vs) (jVal f ps):=by
 refine zkM (zl9 he h) ?_;rintro out st H Q ⟨P0,H0,P,Os,env,M,r,M',k,e,q⟩;unfold jVal at e;rcases zaG e with⟨d,M1,e1,e⟩ |⟨c,n,e1,rfl⟩
 ·split at e
  ·rename_i y ey;split at e
   ·rename_i hl;exact zax k e1 fun P1 v1 H1 l1 h1 i1=>⟨y,zph ey i1,hl,P0,H0,P1,Os,env,M1,r,M',k.next l1 h1,e,RQ.imp l1 q⟩
   ·cases e
  ·cases e
 ·exact zax k e1 q
def sFst (ps:EJ):E:=ps Str.empty
theorem zo1 (h:SJ X Wx (v::w::vs) ps):SE X Wx m (.JoinedStr (v::w::vs) pos) (sFst ps):=by
 have h':SE X Wx .val (.JoinedStr (v::w::vs) pos) (sFst ps):=za1 (zmK h) fun st H Q z=>z;exact h'.bor
def zh4 (c:E)(b:S):Nat->Env->Mm->OS
  |0,_,_=>none
  |n + 1,env,M=>match c env M with
    | some (.v (.bl true), M1) => (match b env M1 with
      |some (.nx e,M2)=>zh4 c b n e M2
      |some (.ct e,M2)=>zh4 c b n e M2
      |some (.bk e,M2)=>some (.nx e,M2)
      |some (.rt d,M2)=>some (.rt d,M2)
      |some (.ex x k,M2)=>some (.ex x k,M2)
      |none=>none)
    |some (.v (.bl false),M1)=>some (.nx env,M1)
    |some (.x x k,M1)=>some (.ex x k,M1)
    |_=>none
def zhI (n:Nat)(c:E)(b:S):S:=fun env M=>zh4 c b n env M
theorem zkw (n:Nat)(hp:PassesOwn (model X.prog X.w) X.A X.env X.xe)(hc:ST X Wx c t)(hb:SB X Wx body b):SS X Wx (.While c body [] pos) (zhI n t b):=by
  refine zcy (znE hp hc hb) ?_;rintro D st H ⟨P0,H0,P,Os,env,M,out,M',k,e,q⟩;refine⟨fun m σ H1=>∃P1 Os1 M1 env1,Lt P H P1 H1/\Ok X.K X.mg P0 H0 P1 Os1 H1 M1 σ env1/\zh4 t b m env1 M1=some (out,M'),⟨n,P,Os,M,env,Lt.refl _ _,k,e⟩,?_⟩;rintro m σ H1 ⟨P1,Os1,M1,env1,lt,k1,e1⟩
  cases m with
  |zero=>cases e1
  |succ m=>
    simp only[zh4]at e1;split at e1
    · rename_i M2 ec;refine zcL k1 ec ⟨true,rfl,fun P2 H2 l2 h2=>?_⟩;dsimp only;rw[if_pos rfl];have k2:=k1.next l2 h2
      have lt2:=lt.trans (l2.lt k1.hk);refine⟨fun σ' H'=>∃P1 Os1 M1 env1,Lt P H P1 H'/\Ok X.K X.mg P0 H0 P1 Os1 H' M1 σ' env1/\zh4 t b m env1 M1=some (out,M'),fun σ' H' z=>⟨m,Nat.lt_succ_self m,z⟩,?_⟩;split at e1
      · rename_i e' M3 eb;exact⟨P0,H0,P2,Os1,env1,M2,_,_,k2,eb,fun P' Os2 H2 st2 l2 k3=>⟨P',Os2,_,e',lt2.trans l2,k3,e1⟩⟩
      · rename_i e' M3 eb;exact⟨P0,H0,P2,Os1,env1,M2,_,_,k2,eb,fun P' Os2 H2 st2 l2 k3=>⟨P',Os2,_,e',lt2.trans l2,k3,e1⟩⟩
      · rename_i e' M3 eb;cases e1;exact⟨P0,H0,P2,Os1,env1,M2,_,_,k2,eb,fun P' Os2 H2 st2 l2 k3=>q P' Os2 H2 st2 (lt2.trans l2) k3⟩
      · rename_i d M3 eb;cases e1;exact⟨P0,H0,P2,Os1,env1,M2,_,_,k2,eb,q⟩
      · rename_i x k' M3 eb;cases e1;exact⟨P0,H0,P2,Os1,env1,M2,_,_,k2,eb,q⟩
      · cases e1
    · rename_i M2 ec;cases e1;refine zcL k1 ec ⟨false,rfl,fun P2 H2 l2 h2=>?_⟩;dsimp only;rw[if_neg (by decide)];exact q P2 Os1 H2 σ (lt.trans (l2.lt k1.hk)) (k1.next l2 h2)
    · rename_i x k' M2 ec;cases e1;exact zcL k1 ec q
    · cases e1
def setE:List Nat->List D->Env->Option Env
 | [],[],env=>some env
 |i::is,d::ds,env=>if i<env.length then setE is ds (env.set i (.val d)) else none
 |_,_,_=>none
def SG (X:Cx)(ts:List Expr)(is:List Nat):Prop:=∃t,PGs X ts t/\∀P0 H0 P Os st H M env env' ds vs Q,Ok X.K X.mg P0 H0 P Os H M st env->Iss X.K P H ds vs->setE is ds env=some env'->(∀Os' st',Ok X.K X.mg P0 H0 P Os' H M st' env'->Q st' H)->t vs st H Q
theorem zsW : SG X [] [] := ⟨_,zpi,fun P0 H0 P Os st H M env env' ds vs Q k is e q=>by
 cases ds with
 |nil=>cases e;exact⟨is,q _ _ k⟩
 |cons d ds=>cases e⟩
theorem znc (hN:X.N.Nodup)(hi:X.N[i]? =some x)(hx:Loc X.env.scope x)(hr:SG X ts is)(hf:X.fn x=true\/X.env.scope.names.lookup x=some .local:=by first |exact .inl rfl |exact .inr rfl)
    (hs:(assignEach (.Name x p::ts) X.env).map (·.2)=assign (.Name x p) X.env::(assignEach ts X.env).map (·.2):=by rfl):SG X (.Name x p::ts) (i::is):=by
  obtain⟨t,h1,h2⟩:=hr;refine⟨_,znm (zl6 hN hi hx hf) h1 hs,fun P0 H0 P Os st H M env env' ds vs Q k is e q=>?_⟩
  cases ds with
  |nil=>cases e
  |cons d ds=>
    obtain⟨v,r,rfl,iv,is⟩:=is;simp only[setE]at e;split at e
    · rename_i hl;exact⟨v,r,rfl,h2 _ _ _ _ _ _ _ _ _ _ _ _ (k.asg hl iv) is e q⟩
    · cases e
def setAt (M:Mm)(d y x:D):Option Mm:=match d with
  | .ref j => (match y with
    | .int i => (match M[j]? with
      | some (.lst ds) => (match ixN ds.length i with
        |some n=>some (M.set j (.lst (ds.set n x)))
        |none=>none)
      |_=>none)
    |_=>none)
  |_=>none
theorem zmS (h:setAt M d y x=some M'):∃j i ds n,d=.ref j/\y=.int i/\M[j]? =some (.lst ds)/\ixN ds.length i=some n/\M'=M.set j (.lst (ds.set n x)):=by
 unfold setAt at h;split at h
 ·split at h
  ·split at h
   ·rename_i em;split at h
    ·rename_i en;cases h;exact⟨_,_,_,_,rfl,rfl,em,en,rfl⟩
    ·cases h
   ·cases h
  ·cases h
 ·cases h
def ziS (f g v:E):S:=fun env M=>bndS (v env M) fun x M1=>bndS (f env M1) fun d M2=>bndS (g env M2) fun y M3=>match setAt M3 d y x with
 |some M4=>some (.nx env,M4)
 |none=>none
theorem zni (ho:SE X Wx .val o f)(hi:SE X Wx .val i g)(he:SE X Wx .val e v)
  (ha : ∀ v, assign (.Subscript o i pos') X.env v = (do
   let ov <-holding [v] (eval o X.env)
   let iv <-holding [v,ov] (eval i X.env)
   standAt pos'
   holding [v,ov,iv] (setItem ov iv v)
   release [v,ov,iv] []):=by intro _;rfl)
  (hs:swapsWithSole [.Subscript o i pos'] e pos.line X.env=pure false:=by rfl) (hw:swappedStores [.Subscript o i pos'] e X.env=pure none:=by rfl) (h1:(assignEach [.Subscript o i pos'] X.env).map (·.2)=[assign (.Subscript o i pos') X.env]:=by rfl):
  SS X Wx (.Assign [.Subscript o i pos'] e pos) (ziS f g v):=by
 refine zcy (zrl he (zsD ho hi set_list ha) hs hw h1) ?_;rintro D st H ⟨P0,H0,P,Os,env,M,out,M',k,e,q⟩;unfold ziS at e;rcases za0 e with⟨x,M1,e1,e⟩ |⟨c,n,e1,rfl⟩
 ·refine zax k e1 fun P1 v1 H1 l1 h1 i1=>?_;have k1:=k.next l1 h1
  rcases za0 e with⟨d,M2,e2,e⟩ |⟨c,n,e2,rfl⟩
  ·refine zax k1 e2 fun P2 v2 H2 l2 h2 i2=>?_;have k2:=k1.next l2 h2
   rcases za0 e with⟨y,M3,e3,e⟩ |⟨c,n,e3,rfl⟩
   ·refine zax k2 e3 fun P3 v3 H3 l3 h3 i3=>?_;split at e
    ·rename_i M4 ea;cases e;obtain⟨j,i,ds,n,rfl,rfl,em,en,rfl⟩:=zmS ea;cases i3;obtain⟨jl,rfl⟩:j<P2.n/\v2=.ref (P2.io j):=i2;obtain⟨vs,ev,is⟩:=h3.cell j _ em;have jl3:j<P3.n:=Nat.lt_of_lt_of_le jl l3.n;have eio:P3.io j=P2.io j:=l3.io j jl;have ix:=Is.lt ((l2.lt h1).trans (l3.lt h2)) i1;have lc:Lt P3 H3 P3 (upd H3 (P3.io j) (.lst (vs.set n v1))):=zfy (h3.bd j jl3) ev zkE;obtain⟨l4,l4e,h4⟩:=h3.set (c':=.lst (ds.set n x)) (o':=.lst (vs.set n v1)) em ⟨_,zar,Iss.set n (Iss.lt lc is) (Is.lt lc ix)⟩;rw[eio]at l4 l4e h4 ev;refine⟨_,vs,i,n,rfl,rfl,ev,by rw[is.len];exact en,?_⟩;exact q _ _ _ _ ((l1.lt k.hk).trans ((l2.lt h1).trans ((l3.lt h2).trans l4))) ((k2.next l3 h3).next l4e h4)
    ·cases e
   ·exact zax k2 e3 q
  ·exact zax k1 e2 q
 ·exact zax k e1 q
end
end E3
namespace E3
open PySem L2
section
variable {env:Env}{M M1 M2:Mm}{f g o v:E}{d e x:D}{i:Int}{k:Nat}{ds es:List D}{s t:S}{z:Str}{fa:EA}{b:Bool}
def zng:Option (List D×Mm)->O
 |some (ys,M)=>some (.v (.lst ys),M)
 |none=>none
def zqc (q e:E)(env:Env):Option (ResA×Mm)->O
 |some (.v ds,M1)=>zng (zfa q e env ds [] M1)
 |some (.x c n,M1)=>some (.x c n,M1)
 |none=>none
theorem zth {cs:List (Str×Nat)}{q e:E}:zeO cs fa q e env M=zqc q e (capE cs env) (fa env M):=by
  unfold zeO zqc
  cases fa env M with
  |none=>rfl
  |some p=>
    obtain⟨r,M'⟩:=p
    cases r with
    |x c n=>rfl
    |v ds=>
      dsimp only;unfold zng;cases zfa q e (capE cs env) ds [] M'<;>rfl
theorem ztZ {q e:E}:zqc q e env (some (.v ds,M))=zng (zfa q e env ds [] M):=rfl
theorem zqz:zng (some (ds,M))=some (.v (.lst ds),M):=rfl
theorem ztr:capE [] env=[]:=rfl
theorem zs3 {x:Str}{n:Nat}{cs:List (Str×Nat)}:capE ((x,n)::cs) env=(env[n]?).getD .un::capE cs env:=rfl
def isiV (tb:String->String->Option Bool)(T:String)(M:Mm)(ty:String):O:=if ty="" then none else(tb ty T).map fun b=>(.v (.bl b),M)
def isiR (tb:String->String->Option Bool)(T:String):O->O
 |some (.v d,M)=>isiV tb T M (tyM M d)
 |some (.x c n,M)=>some (.x c n,M)
 |none=>none
theorem zuC {tb:String->String->Option Bool}{T:String}:sIsi tb T f env M=isiR tb T (f env M):=by
 unfold sIsi isiR bnd isiV
 cases f env M with
 |none=>rfl
 |some p=>obtain⟨r,M'⟩:=p;cases r<;>rfl
theorem zuD {tb:String->String->Option Bool}{T:String}:isiR tb T (some (.v d,M))=isiV tb T M (tyM M d):=rfl
theorem ty_int:tyM M (.int i)="int":=rfl
theorem ty_str:tyM M (.str z)="str":=rfl
theorem zuQ:tyM M (.bl b)="bool":=rfl
theorem zrv:tyM M .non="NoneType":=rfl
theorem ztK:tyM M (.tup ds)="tuple":=rfl
theorem ztn:tyM M (.lst ds)="list":=rfl
theorem zjD {tb:String->String->Option Bool}{T ty:String}(h:ty≠"":=by decide):isiV tb T M ty=(tb ty T).map fun b=>(.v (.bl b),M):=if_neg h
theorem zvA {tb:String->String->Option Bool}{T:String}:isiV tb T M "int"=(tb "int" T).map fun b=>(.v (.bl b),M):=zjD
theorem zvQ {tb:String->String->Option Bool}{T:String}:isiV tb T M "str"=(tb "str" T).map fun b=>(.v (.bl b),M):=zjD
theorem v_bl {tb:String->String->Option Bool}{T:String}:isiV tb T M "bool"=(tb "bool" T).map fun b=>(.v (.bl b),M):=zjD
theorem zu1 {tb:String->String->Option Bool}{T:String}:isiV tb T M "NoneType"=(tb "NoneType" T).map fun b=>(.v (.bl b),M):=zjD
theorem zu8 {tb:String->String->Option Bool}{T:String}:isiV tb T M "tuple"=(tb "tuple" T).map fun b=>(.v (.bl b),M):=zjD
theorem zv0 {tb:String->String->Option Bool}{T:String}:isiV tb T M "list"=(tb "list" T).map fun b=>(.v (.bl b),M):=zjD
theorem zuv {tb:String->String->Option Bool}{T:String}:isiV tb T M "dict"=(tb "dict" T).map fun b=>(.v (.bl b),M):=zjD
theorem zs6 {kvs:List (Key×D)}(h:M[k]? =some (.dct kvs)):zjz M (.ref k)=some (k,kvs):=by unfold zjz;simp only[h]
theorem zqB {kvs:List (Key×D)}{key:Key}(h:M[k]? =some (.dct kvs))(h4:toKey e=some key):dk M (.ref k) e=some (k,kvs,key):=by simp only[dk,zs6 h,h4,Option.map_some]
theorem zva {M3:Mm}{kvs:List (Key×D)}{key:Key}(h0:v env M=some (.v x,M1))(h1:f env M1=some (.v (.ref k),M2))(h2:g env M2=some (.v e,M3))(h3:M3[k]? =some (.dct kvs))(h4:toKey e=some key)(h5:kvs.length<sizeLine):zjo f g v env M=some (.nx env,M3.set k (.dct (putT kvs key x))):=by
 simp only[zjo,bndS,h0,h1,h2,zqB h3 h4,h5,if_true]
theorem d_in {kvs:List (Key×D)}{key:Key}{y:Bool}(h1:g env M=some (.v e,M1))(h2:f env M1=some (.v (.ref k),M2))(h3:M2[k]? =some (.dct kvs))(h4:toKey e=some key):sDIn y g f env M=some (.v (.bl (if y then(valD kvs key).isSome else !(valD kvs key).isSome)),M2):=by
 simp only[sDIn,bnd,h1,h2,zqB h3 h4]
theorem zig {c:E}{b:S}(Q:OS->Prop)(J:Nat->Env->Mm->Prop){n:Nat}(h0:∃m,m<n/\J m env M)
    (hs:∀m env M,J m env M->∃y M1,c env M=some (.v (.bl y),M1)/\if y=true then Step (fun e M=>∃m',m'<m/\J m' e M) Q (b env M1) else Q (some (.nx env,M1))):Q (zhI n c b env M):=by
  have key:∀(n m:Nat) (env:Env) (M:Mm),m<n->J m env M->Q (zh4 c b n env M):=by
    intro n
    induction n with
    |zero=>intro m env M h;exact absurd h (Nat.not_lt_zero _)
    |succ n ih=>
      intro m env M hm hJ;obtain⟨y,M1,h1,h2⟩:=hs m env M hJ
      cases y with
      |false=>simp only[zh4,h1];exact h2
      |true=>
        simp only[zh4,h1];rw[if_pos rfl]at h2
        cases eb:b env M1 with
        |none=>rw[eb]at h2;exact h2.elim
        |some o=>
          rw[eb]at h2;obtain⟨o,M'⟩:=o
          cases o with
          |nx e'=>obtain⟨m',h3,h4⟩:=h2;exact ih m' e' M' (by omega) h4
          |ct e'=>obtain⟨m',h3,h4⟩:=h2;exact ih m' e' M' (by omega) h4
          |bk e'=>exact h2
          |rt d=>exact h2
          |ex c n=>exact h2
  obtain⟨m,h1,h2⟩:=h0;exact key n m env M h1 h2
theorem zwq {M3:Mm}{j:Nat}(h0:v env M=some (.v x,M1))(h1:f env M1=some (.v (.ref k),M2))(h2:g env M2=some (.v (.int i),M3))(h3:M3[k]? =some (.lst ds))(h4:ixN ds.length i=some j):ziS f g v env M=some (.nx env,M3.set k (.lst (ds.set j x))):=by
 simp only[ziS,bndS,setAt,h0,h1,h2,h3,h4]
theorem zpu:setE [] [] env=some env:=rfl
theorem zpL {n:Nat}{is:List Nat}:setE (n::is) (d::ds) env=if n<env.length then setE is ds (env.set n (.val d)) else none:=rfl
end
end E3
namespace L2
open PySem PySem.Spec PyProof.Rows
theorem zpH {X:Cx}{body suite:List Stmt}{b0:Stmt}{cn:Str}{np hp pos:Pos}{c:Addr}{tb:Ends->TS}{th:TS}
    (hs:X.stack=X.env::X.outer) (hf:X.env.frame=some X.env.locals) (hc:X.calm=true) (hg:Gl X cn) (hm:X.mg cn=some (.ref c)) (q:xcIn X.K c=true) (hdb:(cn==("__debug__":Str))=false)
    (hb : ∀ (pins : Pnx) (D : Ends), PSs (X.pin pins fun e s'=>∃σ' H' a C dx T,e=.ref a/\Caught X pins σ' H' s' a C dx T/\xcIn X.K C=true/\zjP X.K C c=true/\
      th {D with bk:=fun _ _=>False,ct:=fun _ _=>False} σ' H') body (tb D))
    (hh:∀e,PSs (X.suite e) (b0::suite) th):
    PS X (.Try body [.ExceptHandler (some (.Name cn np)) none (b0::suite) hp] [] [] pos) (fun D σ H=>tb D D σ H):=by
  intro pins s σ H D I h;refine wpAny_Try_except (wpAny_mono (hb pins D [] s σ H D (I.to_pin _) h) (fun f s1 z=>?_) fun e s1 z=>?_)
  · cases f with
    |next=>obtain⟨σ',H',J,q⟩:=z;exact wpAny_execs_nil ⟨σ',H',J.of_pin,q⟩
    |brk=>obtain⟨σ',H',J,q⟩:=z;exact⟨σ',H',J.of_pin,q⟩
    |cont=>obtain⟨σ',H',J,q⟩:=z;exact⟨σ',H',J.of_pin,q⟩
    |ret u=>obtain⟨v,σ',H',J,r,q⟩:=z;exact⟨v,σ',H',J.of_pin,r,q⟩
  · obtain⟨σ',H',a,C,dx,T,rfl,K1,q1,q2,z⟩:=z;refine K1.note hs hf fun s2 T2 K2=>?_;have hd:=I.ok.hd hc;refine wpAny_handleBy_cons (codeAny_handlers_test ?_) (by intro z;cases z);refine zda (X:=X.suite (.ref a)) (K2.inv.to_suite _) hg hm ?_ hdb;obtain⟨nm,qn,N,bs,bm,sn,sub,ab,col,dd,k0,k1,k2,k3,k5,Y,lk⟩:=zjU K2.inv.kIn q1;obtain⟨nm',qn',N',bs',bm',sn',sub',ab',col',dd',j0,j1,j2,j3,j5,Y',lk'⟩:=zjU K2.inv.kIn q;obtain⟨oe,vs,t,e1,e2,e3,e4,e5,e6,_⟩:=zjg K2.inv.hok K2.obj;have hit:(Value.ref C::bm).contains (.ref c)=true:=by
      unfold zjP at q2;rw[lk]at q2;exact q2
    obtain⟨hh2,g,d,tk,os⟩:=s2;refine zpb Y.obj Y'.obj e1 e2 (Y'.tail.hasType PySem.F.excBase_ValueError.hasBase) ?_;rw[hit];refine codeAny_handlers_suite (K2.off fun s3 K3=>?_);refine wpAny_mono (hh (.ref a) pins s3 _ H' _ (K3.inv.to_suite _) z) (fun f s5 y=>?_) fun _ _ y=>False.elim y
    cases f with
    |next=>
      obtain⟨σ5,H5,I5,y⟩:=y;exact⟨σ5,H5,I5.of_suite hd,y⟩
    |brk=>obtain⟨_,_,_,y⟩:=y;exact False.elim y
    |cont=>obtain⟨_,_,_,y⟩:=y;exact False.elim y
    |ret u=>
      obtain⟨v,σ5,H5,I5,rv,y⟩:=y;exact⟨v,σ5,H5,I5.of_suite hd,rv,y⟩
end L2
namespace E3
open PySem PySem.Spec PyProof.Rows L2
section
variable {X:Cx}{Wx:XW}{m:Mode}{pos:Pos}
def zjd (cat:Str->Bool)(b h:S):S:=fun env M=>match b env M with
  | some (.ex c _, M1) => if cat c = true then (match h env M1 with
    |some (.nx env',M2)=>some (.nx env',M2)
    |some (.rt d,M2)=>some (.rt d,M2)
    |_=>none) else none
  |o=>o
theorem zmz 
  (hs:X.stack=X.env::X.outer) (hf:X.env.frame=some X.env.locals) (hc:X.calm=true) (hg:Gl X cn) (hm:X.mg cn=some (.ref c)) (q:xcIn X.K c=true)
  (hcat:∀c',cat c'=true->∃C,X.mg c'=some (.ref C)/\xcIn X.K C=true/\zjP X.K C c=true) (hb:∀pins E,BX (X.pin pins E) body b) (hh:∀e,SB (X.suite e) W0 (b0::suite) h) (hdb:(cn==("__debug__":Str))=false:=by x_go):
  SS X Wx (.Try body [.ExceptHandler (some (.Name cn np)) none (b0::suite) hp] [] [] pos) (zjd cat b h):=by
 let Ex:Ends->L2.St->XK:=fun D σ Cv dx H'=>∀a C,Cv=.ref C->H' a=some (xo a C dx false)->xcIn X.K C=true/\zjP X.K C c=true/\tS X.K X.mg W0 h {D with bk:=fun _ _=>False,ct:=fun _ _=>False} σ H'
 refine zcy (zpH (tb:=fun D=>tBX X.K X.mg (Ex D) b) (th:=tS X.K X.mg W0 h) hs hf hc hg hm q hdb (fun pins D=>hb pins _ (Ex D) fun pins' σ H s e s' I z=>?_) hh) ?_
 ·obtain⟨a,C,dx,H',T,rfl,K1,hE⟩:=ziw (X:=X) I.of_pin z;obtain⟨z1,z2,z3⟩:=hE a C rfl K1.obj;exact⟨σ,H',a,C,dx,T,rfl,K1,z1,z2,z3⟩
 ·rintro D st H ⟨P0,H0,P,Os,env,M,out,M',k,e,q⟩;unfold zjd at e;split at e
  ·rename_i c' n' M1 e1;split at e
   ·rename_i hct;obtain⟨C,hmC,x1,x2⟩:=hcat c' hct;refine⟨P0,H0,P,Os,env,M,_,_,k,e1,fun P1 H1 C1 dx l1 h1 m1 xn a C2 eC ea=>?_⟩;cases eC;cases hmC.symm.trans m1;have k1:=k.next l1 h1
    refine⟨x1,x2,?_⟩;split at e
    ·rename_i env' M2 e2;cases e;exact⟨P0,H0,P1,_,_,M1,_,_,k1,e2,fun P2 Os2 H2 st2 l2 k2=>q P2 _ H2 _ ((l1.lt k.hk).trans l2) k2⟩
    ·rename_i d M2 e2;cases e;exact⟨P0,H0,P1,_,_,M1,_,_,k1,e2,q⟩
    ·cases e
   ·cases e
  ·rename_i o hne;refine⟨P0,H0,P,Os,env,M,_,_,k,e,?_⟩
   cases out with
   |ex c n=>exact absurd e (hne c n M')
   |nx env=>exact q
   |bk env=>exact q
   |ct env=>exact q
   |rt d=>exact q
end
section
variable {env:Env}{M M1 M2:Mm}{s t:S}{d:D}{c:Str}{cat:Str->Bool}{a:Int}
theorem z_rt (h1:s env M=some (.ex c a,M1))(h2:cat c=true)(h4:t env M1=some (.rt d,M2)):zjd cat s t env M=some (.rt d,M2):=by
 simp only[zjd,h1,h2,if_true,h4]
theorem z_nx (h1:s env M=some (.nx env',M1)):zjd cat s t env M=some (.nx env',M1):=by
 simp only[zjd,h1]
end
section
variable {es:List Expr}{env:PySem.Env}{pos:Pos}
theorem zaf:starEach (.Constant c k pos::es) env=(false,eval (.Constant c k pos) env)::starEach es env:=by rfl
theorem zai:starEach (.Name x pos::es) env=(false,eval (.Name x pos) env)::starEach es env:=by rfl
theorem zaI:starEach (.BinOp a o b pos::es) env=(false,eval (.BinOp a o b pos) env)::starEach es env:=by rfl
theorem zbl:starEach (.Call f as ks pos::es) env=(false,eval (.Call f as ks pos) env)::starEach es env:=by rfl
theorem zaj:starEach (.Subscript a b pos::es) env=(false,eval (.Subscript a b pos) env)::starEach es env:=by rfl
theorem zaS:starEach (.Tuple as k pos::es) env=(false,eval (.Tuple as k pos) env)::starEach es env:=by rfl
theorem zcc:starEach (.ListComp a gs sc pos::es) env=(false,eval (.ListComp a gs sc pos) env)::starEach es env:=by rfl
end
end E3
namespace L2
open PySem PySem.Spec PyProof.Rows
theorem zkW {P:Program}{w:World}{K:Fgx}{mg:Mgx}{base:Heap}{N:List Str}{qual:Str}{scope:Scope}{f:Addr}{cd:Value}{A:Around}{outer:List PySem.Env}{E:XK}{s:Shared}{H H1:Hp}{s1:Shared}{pins:Pnx}{σ:St}{a C T:Addr}{dx:Option Addr}
  (c:Caught (cxOf (CX1 P w) P w K mg base N qual scope f cd A outer s H E) pins σ H1 s1 a C dx T) (hE:E (.ref C) dx H1):(cxOf (CX1 P w) P w K mg base N qual scope f cd A outer s H E).xe (.ref a) s1:=by
 show wpAny _ _ (leaving _ _) _ _ _;unfold leaving;refine wpAny_bind (Caught.note c rfl rfl fun s' T' c'=>?_);have I:=c'.inv;have hL:s.heap.get? (envOfC qual scope s.heap.objs.size f cd).locals=none:=Heap.get?_none_of_le I.ok.above;have u1:Un (s.heap.objs.size::frs outer) [] H H1 s.heap s'.heap:=Un.mono (fs':=s.heap.objs.size::frs outer) (ex':=[]) I.base (fun b hb=>List.mem_cons_of_mem _ hb) fun b hb=>hb;exact⟨a,C,dx,H1,T',rfl,I.os,I.bare,u1.less hL,I.hok,c'.obj,c'.hT,c'.t1,c'.fl,hE⟩
end L2
namespace E3
open PySem PySem.Spec PyProof.Rows L2
structure XPass (X:Cx)(Wx:XW):Prop where
 xc:∀pins σ H s a C dx T c n P0 H0 P M,Caught X pins σ H s a C dx T->LtE P0 H0 P H->Hk X.K X.mg P H M->X.mg c=some (.ref C)->XN H n dx->Wx P0 H0 M c n->X.xe (.ref a) s
section
variable {X:Cx}{Wx:XW}{m:Mode}{pos:Pos}
theorem SX.se (F:XPass X Wx)(h:SX X e f):SE X Wx m e f:=by
  have h':SE X Wx .val e f:=by
    let Ex:L2.St->XK:=fun σ Cv dx H'=>∀pins s' a C T,Cv=.ref C->Caught X pins σ H' s' a C dx T->X.xe (.ref a) s'
    refine za1 (h Ex fun pins σ H s e s' I z=>?_) ?_
    · obtain⟨a,C,dx,H',T,rfl,K1,hE⟩:=ziw I z;exact hE pins s' a C T rfl K1
    · rintro st H Q ⟨P0,H0,P,Os,env,M,r,M',k,e,q⟩;refine⟨P0,H0,P,Os,env,M,r,M',k,e,?_⟩
      cases r with
      |v d=>exact q
      |x c n=>
        intro P' H' C dx l hk hm xn pins s' a C' T eC ca;cases eC;exact F.xc pins st H' s' a C dx T c n P0 H0 P' M' ca (k.base.trans l) hk hm xn q
  exact h'.bor
end
section
variable {P:Program}{w:World}{K:Fgx}{mg:Mgx}{base:Heap}{k:Nat}{x qual:Str}{st:Stmt}{f:Addr}{fd:FuncData}{N ps:List Str}{b:S}
theorem zg0 (F:FunD K x qual st f fd)(S:FnScope N ps (zah st))(hp:ps.length<=N.length)
    (hb:∀cdv A outer s H E Wx,Room k (A.deeper (envOfC qual (zah st) s.heap.objs.size f cdv))->XFit (cxX P w K mg base N qual st f cdv A outer s H E) Wx->XPass (cxX P w K mg base N qual st f cdv A outer s H E) Wx->SB (cxX P w K mg base N qual st f cdv A outer s H E) Wx (za9 st) b):FnOk P w K mg base (CX1 P w) (k + 1) f fd ps (spX K mg ps.length (fnG N.length b)):=by
  obtain ⟨oc, od, dV, kV, doc, pm, an, cdv, ct, osl, rfl, lk, hcd⟩ := F.ex;refine zpe lk hcd S (fun vs H Q E h => h.1) fun A outer s H vs Q E hr h => ?_;obtain ⟨hl, Pl, M, ds, r, M', hk, is, e, q⟩ := h;have XF : XFit (cxX P w K mg base N qual st f cdv A outer s H E) (fun P0 H0 M1 c n => P0 = Pl /\ H0 = H /\ M1 = M' /\ r = .x c n) := ⟨fun pins σ H1 s1 a C dx c n P0 H0 P1 M1 I ea nb n0 l h m xn ⟨e1,e2,e3,e4⟩=>by
    subst e1 e2 e3 e4;have sure:∀b,upd H1 a (xo a C dx false) b=none->H1 b=none:=fun b z=>by
      by_cases hb:b=a
      · subst hb;rw[zar]at z;cases z
      · rw[zak hb]at z;exact z
    have l1 : LtE P0 H0 P1 (upd H1 a (xo a C dx false)) := ⟨l.n,l.io,l.bd,l.bm,fun b o eb nb=>by
      rw[zak (fun z=>by rw[z,n0]at eb;cases eb)];exact l.keep b o eb nb,fun b z=>l.sure b (sure b z),l.nw⟩
    have h1 := h.away (H' := upd H1 a (xo a C dx false)) (fun b o eb nx=>by
      rw[zak (fun z=>by rw[z,ea]at eb;cases eb;exact nx _ rfl)];exact eb) sure
    refine znV I ea (q P1 _ C dx l1 h1 m ?_)
    cases dx with
    |none=>exact xn
    |some d=>
      obtain⟨fs,ed,el⟩:=xn;exact⟨fs,by rw[zak (fun z=>by rw[z,ea]at ed;cases ed)];exact ed,el⟩⟩
  have XP : XPass (cxX P w K mg base N qual st f cdv A outer s H E) (fun P0 H0 M1 c n => P0 = Pl /\ H0 = H /\ M1 = M' /\ r = .x c n) := ⟨fun pins σ H1 s1 a C dx T c n P0 H0 P1 M1 ca l h m xn ⟨e1,e2,e3,e4⟩=>by
    subst e1 e2 e3 e4;exact zkW ca (q P1 _ C dx l h m xn)⟩
  refine⟨_,hb cdv A outer s H E _ hr XF XP,?_⟩;unfold fnG endS at e;have st0:=zkK (N:=N) hk (by omega) is;split at e
  · rename_i d' M2 eb;cases e;exact⟨Pl,H,Pl,_,_,M,_,_,st0,eb,fun P' v H' l h i=>q P' v H' l h i⟩
  · rename_i env M2 eb;cases e;exact⟨Pl,H,Pl,_,_,M,_,_,st0,eb,fun P' Os' H' st' _ k'=>q P' .non H' k'.base k'.hk rfl⟩
  · rename_i c n M2 eb;cases e;exact⟨Pl,H,Pl,_,_,M,_,_,st0,eb,⟨rfl,rfl,rfl,rfl⟩⟩
  · cases e
end
section
variable {K:Fgx}{P:Pl}{H:Hp}
def zho:List D->Option (List Bool)
 | []=>some []
 |.bl b::ds=>(zho ds).map (b:: ·)
 |_::_=>none
theorem zjG:∀{ds:List D} {bs:List Bool} {vs:List V},zho ds=some bs->Iss K P H ds vs->vs=bs.map V.bl
  | [],_,_,e,h=>by cases e;exact h
  |d::ds,bs,vs,e,h=>by
    obtain⟨v,r,rfl,i,h⟩:=h
    cases d with
    |bl n=>
      simp only[zho,Option.map_eq_some_iff]at e;obtain⟨bs',e',rfl⟩:=e;cases i;rw[zjG e' h];rfl
    |_=>simp[zho]at e
theorem zfh:∀(bs:List Bool),zho (bs.map D.bl)=some bs
 | []=>rfl
 |b::bs=>by simp[zho,zfh bs]
def zhp:List D->Option (List Str)
 | []=>some []
 |.str z::ds=>(zhp ds).map (z:: ·)
 |_::_=>none
theorem zj0:∀{ds:List D} {zs:List Str} {vs:List V},zhp ds=some zs->Iss K P H ds vs->vs=zs.map V.str
  | [],_,_,e,h=>by cases e;exact h
  |d::ds,zs,vs,e,h=>by
    obtain⟨v,r,rfl,i,h⟩:=h
    cases d with
    |str n=>
      simp only[zhp,Option.map_eq_some_iff]at e;obtain⟨zs',e',rfl⟩:=e;cases i;rw[zj0 e' h];rfl
    |_=>simp[zhp]at e
theorem strs_map:∀(zs:List Str),zhp (zs.map D.str)=some zs
 | []=>rfl
 |b::bs=>by simp[zhp,strs_map bs]
def bStr:List D->Option D
 | [.int i]=>if i.natAbs.log2<1920 then some (.str (toString i)) else none
 |_=>none
theorem zeS:zhq K (fun xs H Q=>∃i,xs=[.int i]/\i.natAbs.log2<1920/\Q (.str (toString i)) H) bStr:=fun P H ds z vs Q h i _ q=>by
 unfold bStr at h;split at h
 ·split at h
  ·rename_i hl;obtain⟨v,ws,rfl,p,rfl⟩:=i;cases h;cases p;exact⟨_,rfl,hl,q _ H (Same.refl H) rfl⟩
  ·cases h
 ·cases h
def bInt:List D->Option D
 | [.str z]=>if z.length<=640 then(intText? z).map .int else none
 |_=>none
theorem zkN:zhq K (fun xs H Q=>∃z n,xs=[.str z]/\intText? z=some n/\z.length<=640/\Q (.int n) H) bInt:=fun P H ds z vs Q h i _ q=>by
 unfold bInt at h;split at h
 ·split at h
  ·rename_i hl;rw[Option.map_eq_some_iff]at h;obtain⟨n,en,rfl⟩:=h;obtain⟨v,ws,rfl,p,rfl⟩:=i;cases p;exact⟨_,n,rfl,en,hl,q _ H (Same.refl H) rfl⟩
  ·cases h
 ·cases h
def bAny:List D->Option D
 | [.lst ds]=>(zho ds).map fun bs=>.bl (bs.any id)
 |_=>none
theorem zr6:zhq K (fun xs H Q=>∃(p:Addr) (bs:List Bool),xs=[.ref p]/\SqL K H p (bs.map V.bl)/\Q (.bl (bs.any id)) H) bAny:=fun P H ds z vs Q h i _ q=>by
 unfold bAny at h;split at h
 ·rw[Option.map_eq_some_iff]at h;obtain⟨is,ei,rfl⟩:=h;obtain⟨v,ws,rfl,p,rfl⟩:=i;obtain⟨a,us,rfl,r,s⟩:=p;rw[zjG ei s]at r;exact⟨a,is,rfl,r,q _ H (Same.refl H) rfl⟩
 ·cases h
def bAll:List D->Option D
 | [.lst ds]=>(zho ds).map fun bs=>.bl (bs.all id)
 |_=>none
theorem zlF:zhq K (fun xs H Q=>∃(p:Addr) (bs:List Bool),xs=[.ref p]/\SqL K H p (bs.map V.bl)/\Q (.bl (bs.all id)) H) bAll:=fun P H ds z vs Q h i _ q=>by
 unfold bAll at h;split at h
 ·rw[Option.map_eq_some_iff]at h;obtain⟨is,ei,rfl⟩:=h;obtain⟨v,ws,rfl,p,rfl⟩:=i;obtain⟨a,us,rfl,r,s⟩:=p;rw[zjG ei s]at r;exact⟨a,is,rfl,r,q _ H (Same.refl H) rfl⟩
 ·cases h
def bTup:List D->Option D
 | [.lst ds]=>some (.tup ds)
 | [.tup ds]=>some (.tup ds)
 |_=>none
theorem zfW:zhq K (fun xs H Q=>∃p ys,xs=[.ref p]/\((SqL K H p ys/\∀l,H l=none->Q (.ref l) (upd H l (.tup ys)))\/(SqT K H p ys/\Q (.ref p) H))) bTup:=fun P H ds z vs Q h i _ q=>by
 unfold bTup at h;split at h
 ·obtain⟨v,ws,rfl,p,rfl⟩:=i;cases h;obtain⟨a,us,rfl,r,s⟩:=p;exact⟨a,us,rfl,.inl ⟨r,zjE s q⟩⟩
 ·obtain⟨v,ws,rfl,p,rfl⟩:=i;cases h;obtain⟨a,us,rfl,r,s⟩:=p;exact⟨a,us,rfl,.inr ⟨r,q _ H (Same.refl H) ⟨a,us,rfl,r,s⟩⟩⟩
 ·cases h
end
section
variable {X:Cx}{Wx:XW}{m:Mode}{pos:Pos}
def zkZ (K:Fgx)(r:V->List V->Hp->VK->Prop)(o:Str->List D->Option D):Prop:=∀(P:Pl) (H:Hp) (y:Str) (ds:List D) (z:D) (vs:List V) (Q:VK),o y ds=some z->AllW K P H ds vs->(∀p,H p=none->¬ P.bd p)->(∀u H',Same H H'->Is K P H' z u->Q u H')->r (.str y) vs H Q
def sMt (o:Str->List D->Option D)(f:E)(fs:EA):E:=fun env M=>bnd (f env M) fun d M1=>match d with
 |.str y=>bndA (fs env M1) fun ds M2=>(o y (ds.map (vw M2))).map fun z=>(.v z,M2)
 |_=>none
theorem zik {a e:Expr}{es:List Expr}{name:Str}{id:String}{r:V->List V->Hp->VK->Prop}{o:Str->List D->Option D}{f:E}{fs:EA}{p:Pos}(slot:PySem.Slot "str" name id)(hty:typeOf (.builtin id)=pure (.type "method_descriptor"))(hm:MtR X id r)(po:zkZ X.K r o)(ha:SE X Wx .val a f)(hs:SA X Wx .bor (e::es) fs)
  (hbase:attributeBase a name X.env (eval a X.env)=eval a X.env:=by rfl)
  (hfew:((backTo pos (starEach (e::es) X.env)).all (fun x=> !x.1) && (backToKw pos (keywordEach [] X.env)).all (fun x=>x.1.isSome) && decide ((e::es).length + ([]:List Keyword).length + (if ([]:List Keyword).isEmpty then 0 else 1)<30))=true:=by rfl)
  (hline:(p.endLine==pos.line)=true:=by rfl) (hst:starEach (e::es) X.env=(false,eval e X.env)::starEach es X.env:=by rfl) (hplain:(backTo pos (starEach es X.env)).any (·.1)=false:=by rfl):
  SE X Wx m (.Call (.Attribute a name p) (e::es) [] pos) (sMt o f fs):=by
 refine za1 (zpZ PySem.F.plainAttrs_str slot hty hm ha hs hbase hfew hline hst hplain) ?_;rintro st H Q ⟨P0,H0,P,Os,env,M,r,M',k,e,q⟩;unfold sMt at e;rcases zaG e with⟨d,M1,e1,e⟩ |⟨c,n,e1,rfl⟩
 ·cases d<;>simp only[reduceCtorEq]at e
  rename_i y;refine zax k e1 fun P1 v1 H1 l1 h1 i1=>?_;have k1:=k.next l1 h1
  cases i1;refine⟨rfl,?_⟩;rcases zdu e with⟨ds,M2,e2,e⟩ |⟨c,n,e2,rfl⟩
  ·rw[Option.map_eq_some_iff]at e;obtain⟨z,ez,e⟩:=e;cases e;exact⟨P0,H0,P1,Os,env,M1,_,_,k1,e2,fun P2 vs H2 l2 h2 i2=>po P2 H2 y _ z vs Q ez (AllM.w h2 i2) h2.new fun u H' s i=>q P2 u H' (l1.trans (l2.trans (LtE.same s))) (h2.same s) (IsM.of (h2.same s) i)⟩
  ·exact⟨P0,H0,P1,Os,env,M1,_,_,k1,e2,q⟩
 ·exact zax k e1 q
def zhn (z:Str):List D->Option D
  | [.lst ds]=>match zhp ds with
    |some ys=>if z.length<=16/\(ys.map (·.length)).sum + ys.length<=1048576 then some (.str (Txt.join z ys)) else none
    |none=>none
  |_=>none
theorem zic {K:Fgx}:zkZ K (rJoin K) zhn:=fun P H y ds z vs Q h i _ q=>by
 unfold zhn at h;split at h
 ·split at h
  ·rename_i ys ey;split at h
   ·rename_i hl;cases h;obtain⟨v,ws,rfl,p,rfl⟩:=i;obtain⟨a,us,rfl,r,s⟩:=p;rw[zj0 ey s]at r;exact⟨y,a,ys,rfl,rfl,r,hl.1,hl.2,q _ H (Same.refl H) rfl⟩
   ·cases h
  ·cases h
 ·cases h
def zhW (z:Str):List D->Option D
 | [.str y]=>some (.bl (Txt.startswith z y))
 |_=>none
theorem zl4 {K:Fgx}:zkZ K zm6 zhW:=fun P H y ds z vs Q h i _ q=>by
 unfold zhW at h;split at h
 ·cases h;obtain⟨v,ws,rfl,p,rfl⟩:=i;cases p;exact⟨_,_,rfl,rfl,q _ H (Same.refl H) rfl⟩
 ·cases h
def zhZ (z:Str):List D->Option D
 | [.str y]=>if z.length<=sizeLine then some (.str (Txt.lstripChars z y)) else none
 |_=>none
theorem zmc {K:Fgx}:zkZ K zmo zhZ:=fun P H y ds z vs Q h i _ q=>by
 unfold zhZ at h;split at h
 ·split at h
  ·rename_i hl;cases h;obtain⟨v,ws,rfl,p,rfl⟩:=i;cases p;exact⟨_,_,rfl,rfl,hl,q _ H (Same.refl H) rfl⟩
  ·cases h
 ·cases h
def ziI (f g h:E):E:=fun env M=>bnd (f env M) fun d M1=>match zjz M1 d with
  | some _ => bnd (g env M1) fun y M2 => bnd (h env M2) fun x M3 => (match dk M3 d y with
    |some (_,kvs,k)=>some (.v ((valD kvs k).getD x),M3)
    |none=>none)
  |none=>none
theorem zno (hu:X.A.units + 60<cLine)(ho:SE X Wx .val o f)(he:SE X Wx .val e g)(he':SE X Wx .val e' h)(hm:L2.M2 X o "get" p e e' pos:=by exact⟨rfl,rfl,rfl,rfl⟩):SE X Wx m (.Call (.Attribute o "get" p) [e,e'] [] pos) (ziI f g h):=by
  refine za1 (znn (Nat.lt_of_le_of_lt (Nat.add_le_add_left (by decide) _) hu) ho he he' hm) ?_;rintro st H Q ⟨P0,H0,P,Os,env,M,r,M',k,ee,q⟩;unfold ziI at ee;rcases zaG ee with⟨d,N1,e1,ea⟩ |⟨c,n,e1,rfl⟩
  · refine zax k e1 fun P1 v1 H1 l1 h1 i1=>?_;have k1:=k.next l1 h1
    split at ea
    · rename_i pr ed;obtain⟨j,kvs0⟩:=pr;obtain⟨rfl,em0⟩:=zi3 ed;obtain⟨jl,rfl⟩:j<P1.n/\v1=.ref (P1.io j):=i1;obtain⟨vs0,ev0,_,_⟩:=h1.cell j _ em0;refine⟨_,rfl,.inl ⟨vs0,.inl ev0⟩,?_⟩;rcases zaG ea with⟨y,N2,e2,eb⟩ |⟨c,n,e2,rfl⟩
      · refine zax k1 e2 fun P2 v2 H2 l2 h2 i2=>?_;have k2:=k1.next l2 h2
        rcases zaG eb with⟨x,N3,e3,ec⟩ |⟨c,n,e3,rfl⟩
        · refine zax k2 e3 fun P3 v3 H3 l3 h3 i3=>?_;split at ec
          · rename_i j' kvs key ek;cases ec;obtain⟨ej,em,et⟩:=zmq ek;cases ej;obtain⟨vs,ev,en,is⟩:=h3.cell j _ em;have g:=zmB (k:=key) (kvs:=kvs) (vs:=vs) ⟨en,is⟩;rw[l3.io j (Nat.lt_of_lt_of_le jl l2.n),l2.io j jl]at ev;have i2':=Is.lt (l3.lt h2) i2;refine⟨valV vs key,by rw[key_is et i2'];exact DGet.k ev,?_⟩
            cases hd:valD kvs key with
            |none=>
              rw[hd]at g q;have g':valV vs key=none:=g;rw[g'];exact q P3 _ H3 (l1.trans (l2.trans l3)) h3 (IsM.of h3 i3)
            |some z=>
              rw[hd]at g q;obtain⟨v,gv,iv⟩:=g;rw[gv];exact q P3 _ H3 (l1.trans (l2.trans l3)) h3 (IsM.of h3 iv)
          · cases ec
        · exact zax k2 e3 q
      · exact zax k1 e2 q
    · cases ea
  · exact zax k e1 q
end
def zcJ (tb:List (Str×D))(z:Str):Option D:=(tb.find? fun p=>decide (p.1=z)).map (·.2)
inductive KRows (K:Fgx)(w:World):List (Str×D)->List DictEntry->List (Key×Value)->Prop
 |nil:KRows K w [] [] []
 |cons {z:Str} {d:D} {t:Tok} {u:Value} {v:V} {hs:Int} {tb:List (Str×D)} {es:List DictEntry} {vs:List (Key×Value)}:hs=hashStr w z->RelV v u->(∀P H,Is K P H d v)->KRows K w tb es vs->KRows K w ((z,d)::tb) (⟨hs,.str z t,u⟩::es) ((.inr z,u)::vs)
def KTab (K:Fgx)(w:World)(a:Addr)(tb:List (Str×D)):Prop:=∃o es ep vs,K.lookup a=some o/\o.ExactDict/\o.data=.dict es ep/\KRows K w tb es.toList vs/\(tb.map (·.1)).Nodup/\(a==sysModules)=false
section
variable {K:Fgx}{w:World}{prog:Program}
theorem zhG:∀{tb:List (Str×D)} {es:List DictEntry} {vs:List (Key×Value)},KRows K w tb es vs->(∀e∈es,∃k,(zbk prog w).is k e.key=true/\e.hash=(zbk prog w).hash k)/\Pairs (zbk prog w) es vs/\vs.map (·.1)=tb.map fun p=>(.inr p.1:Key)
  |_,_,_,.nil=>⟨fun e h=>(by cases h),.nil,rfl⟩
  |_,_,_,.cons (z:=z) (t:=t) h1 h2 h3 r=>by
    obtain⟨a,b,c⟩:=zhG r;refine⟨fun e he=>?_,.cons (ze3 prog w z t) rfl b,by rw[List.map_cons,List.map_cons,c]⟩;rw[List.mem_cons]at he;rcases he with rfl |he
    · exact⟨.inr z,ze3 prog w z t,h1⟩
    · exact a e he
theorem zgz:∀{tb:List (Str×D)} {es:List DictEntry} {vs:List (Key×Value)},KRows K w tb es vs->match zcJ tb z with
    |some d=>∃u v,valueAt vs (.inr z:Key)=some u/\RelV v u/\∀P H,Is K P H d v
    |none=>valueAt vs (.inr z:Key)=none
  |_,_,_,.nil=>rfl
  |_,_,_,.cons (z:=y) (d:=d) (u:=u) (v:=v) (tb:=tb) (vs:=vs) h1 h2 h3 r=>by
    by_cases e:y=z
    · subst e;have a:zcJ ((y,d)::tb) y=some d:=by simp[zcJ,List.find?_cons]
      have b:valueAt ((.inr y,u)::vs) (.inr y:Key)=some u:=by simp[valueAt,List.find?_cons]
      rw[a];exact⟨u,v,b,h2,h3⟩
    · have a:zcJ ((y,d)::tb) z=zcJ tb z:=by simp[zcJ,List.find?_cons,e]
      have b:valueAt ((.inr y,u)::vs) (.inr z:Key)=valueAt vs (.inr z):=by simp[valueAt,List.find?_cons,e]
      rw[a,b];exact zgz r
theorem KTab.dict (t:KTab K w a tb)(X:K.In h):∃es vs,KRows K w tb es vs/\h.DictOf (zbk prog w) a vs/\(a==sysModules)=false:=by
 obtain⟨o,es,ep,vs,l,x,d,r,nd,ns⟩:=t;obtain⟨r1,r2,r3⟩:=zhG (prog:=prog) r;refine⟨es.toList,vs,r,⟨o,es,ep,X a o l,x,d,fun e he=>r1 e (by simpa using he),r2,?_⟩,ns⟩;rw[r3];have:(tb.map fun p=>(Sum.inr p.1:Key))=(tb.map (·.1)).map Sum.inr:=by rw[List.map_map];rfl
 rw[this];exact List.pairwise_map.mpr (List.Pairwise.imp (fun h q=>h (Sum.inr.inj q)) nd)
end
section
variable {X:Cx}{Wx:XW}{m:Mode}{pos:Pos}
def sKIn (b:Bool)(tb:List (Str×D))(f:E):E:=fun env M=>bnd (f env M) fun d M1=>match d with
 |.str z=>some (.v (.bl (if b then(zcJ tb z).isSome else !(zcJ tb z).isSome)),M1)
 |_=>none
def zjs (tb:List (Str×D))(f:E):E:=fun env M=>bnd (f env M) fun d M1=>match d with
 |.str z=>(zcJ tb z).map fun y=>(.v y,M1)
 |_=>none
theorem zhE {z:Str}{K:Fgx}{w:World}{tb:List (Str×D)}{es:List DictEntry}{vs:List (Key×Value)}(r:KRows K w tb es vs):(valueAt vs (.inr z:Key)).isSome=(zcJ tb z).isSome:=by
 have g:=zgz (z:=z) r
 cases h:zcJ tb z with
 |none=>rw[h]at g;have g':valueAt vs (.inr z:Key)=none:=g;rw[g'];rfl
 |some d=>rw[h]at g;obtain⟨u,v,e,_⟩:=g;rw[e];rfl
theorem zsI {i:Expr}{ty:TE}{nm:Str}{p:Pos}{a:Addr}{tb:List (Str×D)}(hi:PE X i ty)(hg:Gl X nm)(hm:X.mg nm=some (.ref a))(t:KTab X.K X.w a tb)(hdb:(nm==("__debug__":Str))=false):
  PC X .In i (.Name nm p) (fun σ H Q=>ty σ H fun y H1=>∃z,y=.str z/\Q (.bl (zcJ tb z).isSome) H1):=by
 intro pins s σ H Q I h;refine thn (hi pins s σ H _ I h) fun iv s1 ⟨y,H1,I1,ry,z,ey,q⟩=>zda I1 hg hm ?_ hdb;subst ey;obtain⟨es,vs,r,dd,ns⟩:=t.dict (prog:=X.prog) I1.kIn;refine wpAny_in_of (k:=(.inr z:Key)) (zjS (k:=.inr z) ry) ns dd.mapOf ?_;rw[zhE r];exact⟨.bl _,H1,I1.tok _,rfl,q⟩
theorem zmZ {i:Expr}{ty:TE}{nm:Str}{p:Pos}{a:Addr}{tb:List (Str×D)}(hi:PE X i ty)(hg:Gl X nm)(hm:X.mg nm=some (.ref a))(t:KTab X.K X.w a tb)(hdb:(nm==("__debug__":Str))=false):
  PC X .NotIn i (.Name nm p) (fun σ H Q=>ty σ H fun y H1=>∃z,y=.str z/\Q (.bl (!(zcJ tb z).isSome)) H1):=by
 intro pins s σ H Q I h;refine thn (hi pins s σ H _ I h) fun iv s1 ⟨y,H1,I1,ry,z,ey,q⟩=>zda I1 hg hm ?_ hdb;subst ey;obtain⟨es,vs,r,dd,ns⟩:=t.dict (prog:=X.prog) I1.kIn;refine wpAny_notIn_of (k:=(.inr z:Key)) (zjS (k:=.inr z) ry) ns dd.mapOf ?_;rw[zhE r];exact⟨.bl _,H1,I1.tok _,rfl,q⟩
theorem zoL {b:Bool}{tb:List (Str×D)}{f:E}{st:L2.St}{H:Hp}{Q:VK}(w:tE X.K X.mg Wx m (sKIn b tb f) st H Q):tE X.K X.mg Wx .val f st H fun y H1=>∃z,y=.str z/\Q (.bl (if b then(zcJ tb z).isSome else !(zcJ tb z).isSome)) H1:=by
 obtain⟨P0,H0,P,Os,env,M,r,M',k,e,q⟩:=w;unfold sKIn at e;rcases zaG e with⟨d,N1,e1,e⟩ |⟨c,n,e1,rfl⟩
 ·cases d<;>simp only[reduceCtorEq]at e
  rename_i z;cases e;exact zax k e1 fun P1 v1 H1 l1 h1 i1=>⟨z,i1,q P1 _ H1 l1 h1 (IsM.of h1 (show Is _ _ _ (.bl _) _ from rfl))⟩
 ·exact zax k e1 q
theorem zsR (hi:SE X Wx .val i f)(hg:Gl X nm)(hm:X.mg nm=some (.ref a))(t:KTab X.K X.w a tb)(hdb:(nm==("__debug__":Str))=false:=by x_go)(hb:behindInMarks .In (.Name nm p)=false:=by rfl):ST X Wx (.Compare i [.In] [.Name nm p] pos) (sKIn true tb f):=
 zgW (zlU (zsI hi hg hm t hdb) hb) fun _ _ _ w=>zoL (b:=true) (zl1 w)
theorem zit (hi:SE X Wx .val i f)(hg:Gl X nm)(hm:X.mg nm=some (.ref a))(t:KTab X.K X.w a tb)(hdb:(nm==("__debug__":Str))=false:=by x_go)(hs:NoSl i:=by exact fun _ _=>rfl):SE X Wx m (.Subscript (.Name nm p) i pos) (zjs tb f):=by
 have h':PE X (.Subscript (.Name nm p) i pos) (fun σ H Q=>tE X.K X.mg Wx .val f σ H fun y H1=>∃z d,y=.str z/\zcJ tb z=some d/\∀v,(∀P H,Is X.K P H d v)->Q v H1):=by
  intro pins s σ H Q I h;refine zqk PySem.F.slot_dict_getitem.lookup hs (zda I hg hm ?_ hdb);refine thn (hi pins s σ H _ I h) fun iv s2 ⟨y,H2,I2,ry,z,d,ey,ed,q2⟩=>?_;subst ey;obtain⟨es,vs,r,dd,ns⟩:=t.dict (prog:=X.prog) I2.kIn;have g:=zgz (z:=z) r;rw[ed]at g;obtain⟨u,v,e1,e2,e3⟩:=g;exact⟨dd.typeIs,wpAny_getItem_of (k:=(.inr z:Key)) (zjS (k:=.inr z) ry) dd.mapOf e1 ⟨v,H2,I2.tok _,e2,q2 v e3⟩⟩
 refine za1 h' ?_;rintro st H Q ⟨P0,H0,P,Os,env,M,r,M',k,e,q⟩;unfold zjs at e;rcases zaG e with⟨d,N1,e1,e⟩ |⟨c,n,e1,rfl⟩
 ·cases d<;>simp only[reduceCtorEq]at e
  rename_i z;rw[Option.map_eq_some_iff]at e;obtain⟨y,ey,e⟩:=e;cases e;exact zax k e1 fun P1 v1 H1 l1 h1 i1=>⟨z,y,i1,ey,fun v iv=>q P1 v H1 l1 h1 (IsM.of h1 (iv P1 H1))⟩
 ·exact zax k e1 q
end
section
variable {X:Cx}{Wx:XW}{pos:Pos}
def iTx (f:E):EA:=fun env M=>match f env M with
 |some (.v (.str z),M1)=>some (.v (z.cps.toList.map fun c=>.str ⟨#[c]⟩),M1)
 |some (.x c n,M1)=>some (.x c n,M1)
 |_=>none
theorem zq6 (h:SE X Wx .val e f):SI X Wx tg e (iTx f):=by
 refine ziY (zq1 h) ?_;rintro st H R ⟨P0,H0,P,Os,env,M,r,M',k,e,q⟩;unfold iTx at e;split at e
 ·rename_i z M1 ef;cases e;refine⟨P0,H0,P,Os,env,M,_,_,k,ef,fun P1 v1 H1 l1 h1 i1=>⟨z,i1,q P1 H1 _ l1 h1 fun P2 H2 l2=>?_⟩⟩;have hl:(z.cps.toList.map fun c=>(D.str ⟨#[c]⟩)).length=z.cps.size:=by simp
  rw[hl];refine⟨fun j hj=>hj,fun j h1 h2=>Nat.le_antisymm h2 h1,fun j x H' y hj=>⟨y.1,?_⟩⟩;obtain⟨c,ec,rfl⟩:=y.2;refine⟨.str ⟨#[c]⟩,?_,rfl⟩;rw[List.getElem?_map,Array.getElem?_toList,ec];rfl
 ·rename_i c n M1 ef;cases e;exact⟨P0,H0,P,Os,env,M,_,_,k,ef,q⟩
 ·cases e
end
end E3
namespace L2
open PySem PySem.Spec PyProof.Rows
theorem zkt:Manifest.owners.lookup (String.ofList ['d','e','s','r','e','v','e','r'].reverse)=some Manifest.sig_reversed:=by kernel_rfl
theorem zqL:Slot "reversed" "__init__" "object.__init__":=
 .of (owner:="object") (n:="__init__") (by rw[typeLookup_type,builtinLookup_eq_fast];kernel_rfl) (by x_go) (by x_go) (by x_go)
  (by first |exact .inl (by x_go) |exact .inr (by x_go)) (by rw[isSubtype_type];kernel_rfl)
theorem zg8:Slot "reversed" "__next__" "reversed.__next__":=
 .of (owner:="reversed") (n:="__next__") (by rw[typeLookup_type,builtinLookup_eq_fast];kernel_rfl) (by x_go) (by x_go) (by x_go)
  (by first |exact .inl (by x_go) |exact .inr (by x_go)) (by rw[isSubtype_type];kernel_rfl)
theorem zm8:Slot "reversed" "__iter__" "reversed.__iter__":=
 .of (owner:="reversed") (n:="__iter__") (by rw[typeLookup_type,builtinLookup_eq_fast];kernel_rfl) (by x_go) (by x_go) (by x_go)
  (by first |exact .inl (by x_go) |exact .inr (by x_go)) (by rw[isSubtype_type];kernel_rfl)
theorem zfk:entryFor table "reversed.__next__"=some Builtin.«reversed.__next__» :=entryFor_of_tree (by kernel_rfl)
theorem zfT (a:Value):argsOk "reversed.__next__" ⟨[a],[]⟩:=by
 unfold argsOk;rw[signature?_of (id:="reversed.__next__") (n:=['_','_','t','x','e','n','_','_']) (o:=['d','e','s','r','e','v','e','r']) (by kernel_rfl) zkt];kernel_rfl
theorem zih:entryFor table "reversed.__iter__"=some Builtin.«dict_keyiterator.__iter__» :=
 entryFor_alias (id':="dict_keyiterator.__iter__") (by kernel_rfl) (by first |rfl |decide +kernel |(unfold String.splitOn;simp +decide [String.splitOnAux])) (by x_go) (by kernel_rfl)
theorem zjm (a:Value):argsOk "reversed.__iter__" ⟨[a],[]⟩:=by
 unfold argsOk;rw[signature?_of (id:="reversed.__iter__") (n:=['_','_','r','e','t','i','_','_']) (o:=['d','e','s','r','e','v','e','r']) (by kernel_rfl) zkt];kernel_rfl
theorem zlt:TypeCalled "reversed" "reversed.__new__" "object.__init__":=
 ⟨by x_go,by x_go,⟨_,_,F.mro_reversed⟩,F.made_reversed,F.plain_reversed_new,F.sub_reversed_self,zqL⟩
theorem zpl:typeLookup (.type "tuple") "__reversed__"=pure none:=by rw[typeLookup_type,builtinLookup_eq_fast];kernel_rfl
theorem zpP:isSubtype (.type "tuple") (.type "dict")=pure false:=by rw[isSubtype_type];kernel_rfl
def rvT (a:Addr)(i:Int):Obj:={cls:=.type "reversed",data:=.fields #[.ref a,rawInt i]}
def zfL (h:Heap)(a t:Addr)(i:Int):Prop:=∃o,h.get? a=some o/\o.cls=.type "reversed"/\o.data=.fields #[.ref t,rawInt i]
theorem zfL.typeIs {s:Shared}{a l:Addr}{i:Int}(x:zfL s.heap a l i):s.TypeIs (.ref a) "reversed":=let ⟨o,ho,hc,_⟩:=x;⟨o,ho,hc⟩
theorem zfL.at (x:zfL h a l i)(e:∀o,h.get? a=some o->h'.get? a=some o):zfL h' a l i:=let ⟨o,ho,r⟩:=x;⟨o,e _ ho,r⟩
theorem zsP (t : Addr) (items : Array Value) : Meets (Builtin.«reversed.__new__» ⟨[.type "reversed", .ref t], []⟩) (fun _ R s=>IsTup s.heap t items/\(items.size:Int)<2 ^ 63/\
    R (.ok (.ret (.ref s.heap.objs.size))) {s with heap:=s.heap.push (rvT t ((items.size:Int) - 1)),toks:=s.toks + 1 + 1}):=
  .of_wp fun prog w A R s ⟨ht,hf,h⟩=>by
    unfold Builtin.«reversed.__new__»;refine wpAny_bind (wpAny_of_eq (newClass_reversed _) ?_)
    try dsimp only
    refine wpAny_bind (wpAny_of_eq (a:=()) (by first |rfl |kernel_rfl) ?_)
    refine wpAny_bind (wpAny_of_eq (a:=()) (by first |rfl |kernel_rfl) ?_)
    try dsimp only
    refine wpAny_bind (wpAny_specialOf ht.typeIs zpl ?_)
    try dsimp only
    refine wpAny_bind ?_;show wpAny _ _ (do
      if <-isInstance (.ref t) (.type "dict") then return false
      match <-specialOf (.ref t) "__getitem__" with
      |none=>return false
      |some (.builtin id)=>
        if ["tuple.__getitem__","str.__getitem__","bytes.__getitem__","bytearray.__getitem__","memoryview.__getitem__","numpy.ndarray.__getitem__","sqlite3.Row.__getitem__"].contains id then return true
        if id=="sqlite3.Blob.__getitem__" then return false
        unsupported "reversed.__new__:is-it-a-sequence"
      |some _=>return true:Sem Bool) _ _ s
    refine wpAny_bind (wpAny_isInstance ht.typeIs zpP ?_);rw[if_neg (by decide)];refine wpAny_bind (wpAny_specialOf ht.typeIs slot_tuple_getitem.lookup ?_)
    try dsimp only
    rw[if_pos (by x_go)];refine wpAny_pure ?_;rw[if_neg (by decide)];refine wpAny_bind (len_tuple ht hf ?_);refine wpAny_bind (m:=asInt? _) (wpAny_of_eq (a:=some (items.size:Int)) (by first |rfl |kernel_rfl) ?_)
    try dsimp only
    unfold Builtin.SmallTypes.newRecord
    try dsimp only
    refine wpAny_bind (wpAny_newObj_type ?_ (by size_fits));exact wpAny_pure ⟨_,rfl,h⟩
section
variable {prog:Program}{w:World}{A:Around}{E:Value->Shared->Prop}{s:Shared}
theorem znO (ht:IsTup s.heap t items)(hf:(items.size:Int)<2 ^ 63)
  (h:Q (.ref s.heap.objs.size) {s with heap:=s.heap.push (rvT t ((items.size:Int) - 1)),toks:=s.toks + 1 + 1}):wpAny (model prog w) A (call (.type "reversed") [.ref t]) Q E s:=
 callType_new zlt (by decide) (F.typeCall_reversed_1 _) (F.newCall_reversed_1 _) (fun obj=>F.args_object_init_2 obj _) F.entry_reversed_new (zsP t items) ⟨ht,hf,⟨_,Heap.get?_push_size _ rfl,rfl⟩,h⟩
theorem zkG {it l:Addr}{i:Int}{Q:Value->Shared->Prop}(hit:zfL s.heap it l i)(h:Q (.ref it) s):wpAny (model prog w) A (pyIter (.ref it)) Q E s:=by
 refine wpAny_pyIter_slot hit.typeIs zm8 (wpAny_call_entry zm8 hit.typeIs zih ?_ (zjm _));show wpAny _ _ (ret (.ref it)) _ _ s;exact wpAny_pure ⟨_,rfl,"reversed",_,hit.typeIs,zg8.lookup,h⟩
theorem znC {it l:Addr}{i:Nat}{items:Array Value}{x:Value}{Q:Option Value->Shared->Prop}(hit:zfL s.heap it l (i:Int))(hl:IsTup s.heap l items)(hx:items[i]? =some x)(hf:(items.size:Int)<2 ^ 63)
  (hQ:∀h',zfL h' it l ((i:Int) - 1)->Heap.SameBut it s.heap h'->Q (some x) {s with heap:=h',toks:=s.toks + 1}):wpAny (model prog w) A (pyNext (.ref it)) Q E s:=by
 obtain⟨o,ho,hc,hd⟩:=id hit;have hi:i<items.size:=by
  rcases Nat.lt_or_ge i items.size with z |z
  ·exact z
  ·rw[Array.getElem?_eq_none z]at hx;cases hx
 unfold pyNext;refine wpAny_bind (wpAny_attempt (wpAny_callSpecial?_slot (name:=Str.ofString "__next__") hit.typeIs zg8
  (wpAny_call_entry zg8 hit.typeIs zfk ?_ (zfT _))))
 unfold Builtin.«reversed.__next__»;refine wpAny_bind (wpAny_of_eq (a:=(Value.ref it,[])) rfl ?_)
 try dsimp only
 refine wpAny_bind (wpAny_field ho hd (x:=.ref l) rfl ?_);refine wpAny_bind (wpAny_field ho hd (x:=rawInt (i:Int)) rfl ?_);show wpAny _ _ (if (i:Int)<0 then _ else _) _ _ s
 rw[if_neg (by omega)];refine wpAny_bind (wpAny_specialOf hl.typeIs slot_tuple_getitem.lookup ?_);rw[if_neg (by simp)];refine wpAny_bind (wpAny_mkInt ?_);refine wpAny_bind (wpAny_attempt (getItem_tuple (k:=(i:Int)) (j:=i) (s:={s with toks:=s.toks + 1}) hl (by omega) (by omega) ?_ hx ?_))
 ·exact seqIndex_of (by omega) (by omega)
 show wpAny _ _ (field (Value.ref it) 1 >>= _) _ _ _;refine wpAny_bind (wpAny_field (s := { s with toks := s.toks + 1 }) ho hd (x := rawInt (i : Int)) rfl ?_);show wpAny _ _ (setField (Value.ref it) 1 (rawInt ((i : Int) - 1)) >>= _) _ _ _;refine wpAny_bind (wpAny_setField (s := { s with toks := s.toks + 1 }) ho hd (by simp) ?_);refine wpAny_pure ⟨x, rfl, wpAny_pure (hQ _ ?_ (Heap.SameBut.update ..))⟩;exact ⟨_,Heap.get?_update_self _ ho (Obj.isFreed_of_fields (Obj.data_mapFields hd _)),(Obj.cls_mapFields ..).trans hc,by
  rw[Obj.data_mapFields hd];simp⟩
theorem zp3 {it l:Addr}{Q:Option Value->Shared->Prop}(hh:A.handled=none)(hit:zfL s.heap it l (-1))
  (hQ:∀h',Heap.ExtBut it s.heap h'->Q none {s with heap:=h'}):wpAny (model prog w) A (pyNext (.ref it)) Q E s:=by
 obtain ⟨o, ho, hc, hd⟩ := id hit;unfold pyNext;refine wpAny_bind (wpAny_attempt (wpAny_callSpecial?_slot (name:=Str.ofString "__next__") hit.typeIs zg8
  (wpAny_call_entry zg8 hit.typeIs zfk ?_ (zfT _))))
 unfold Builtin.«reversed.__next__»;refine wpAny_bind (wpAny_of_eq (a:=(Value.ref it,[])) rfl ?_)
 try dsimp only
 refine wpAny_bind (wpAny_field ho hd (x:=.ref l) rfl ?_);refine wpAny_bind (wpAny_field ho hd (x:=rawInt (-1)) rfl ?_);show wpAny _ _ (if (-1:Int)<0 then _ else _) _ _ s
 rw[if_pos (by decide)];refine wpAny_bind (wpAny_rule ?_);refine wpAny_bind ?_;show wpAny _ _ (setField (.ref it) 1 (rawInt (-1)) >>=fun _=>setField (.ref it) 0 .none) _ _ s;refine wpAny_bind (wpAny_setField ho hd (by simp) ?_);refine wpAny_setField (Heap.get?_update_self _ ho (Obj.isFreed_of_fields (Obj.data_mapFields hd _))) (Obj.data_mapFields hd _) (by simp) ?_;refine wpAny_bind ?_;show wpAny _ _ (newExc (.type "StopIteration") [] >>=_) _ _ _;refine wpAny_bind ?_;simp only[newExc,newTuple];refine wpAny_bind (wpAny_newObj_type ?_ (by size_fits));refine wpAny_bind (m:=firstArgMember _ _) (wpAny_of_eq (a:=Value.none) (by first |rfl |(simp only[firstArgMember];rfl)) ?_)
 refine wpAny_newObj_type ?_ (by size_fits);simp only[raiseNew];refine wpAny_bind (wpAny_handled ?_)
 first |rw[show A.in1.handled=none from hh] |rw[hh]
 refine wpAny_bind (wpAny_pure (wpAny_throw ?_));refine wpAny_bind (wpAny_isInstance (T:="StopIteration") (b:=true) ⟨_,Heap.get?_push_size _ rfl,rfl⟩ isSubtype_stop ?_);exact wpAny_pure (hQ _ ((((Heap.SameBut.update _ _ _).extBut).trans ((Heap.SameBut.update _ _ _).extBut)).push _ |>.push _))
end
def Itw (K:Fgx)(a:Addr)(n:Nat):It:=
 ⟨fun i H=>i<n/\∃xs,SqT K H a xs/\xs.length=n,fun i H x H'=>H'=H/\∀xs,SqT K H a xs->xs[n - 1 - i]? =some x,fun i _=>i=n⟩
theorem znU {P:Program}{w:World}{K:Fgx}{tg:Expr}(a it:Addr)(n:Nat):Turn P w K tg (Itw K a n) [it] it (fun i h=>zfL h it a ((n:Int) - 1 - (i:Int))) where
 mem:=by simp
 obj:=fun i h st b hb=>by
  have e:b=it:=by simpa using hb
  subst e;obtain⟨o,e,c,d⟩:=st;exact⟨o,e,fun v z=>by rw[d]at z;cases z⟩
 keep:=fun i h h' st k=>st.at fun o e=>k it (by simp) o e
 item:=by
  intro X hP hw hK hc i pins s σ H E I hf st hg;subst hP hw hK;obtain⟨hi,xs,hq,hlen⟩:=hg;obtain⟨its,rv,p,hz⟩:=I.tuple hq;have hx:xs[n - 1 - i]? =some (xs[n - 1 - i]'(by omega)):=List.getElem?_eq_getElem (by omega);obtain⟨u,hu,ru⟩:=rv.get hx;obtain⟨f0,f1,f2,f3,f4,f5⟩:=hf it (by simp);have e:(n:Int) - 1 - (i:Int)=((n - 1 - i:Nat):Int):=by omega
  have st0:zfL s.heap it a ((n - 1 - i:Nat):Int):=by rw[<-e];exact st
  have hn:=zft;have hl:=rv.length;refine znC st0 p (x:=u) (by simpa using hu) (by simp only[List.size_toArray];omega) fun h' st' sb=>?_;have e2:((n - 1 - i:Nat):Int) - 1=(n:Int) - 1 - ((i + 1:Nat):Int):=by omega
  rw[e2]at st';have I1:Inv X pins σ H {s with heap:=h',toks:=s.toks + 1}:=I.turned (t':=s.toks + 1) (fun b o hb e=>(sb.2 b hb).trans e) f0 f1 f3 f4 f5;obtain⟨o,eo,c,d⟩:=id st';exact⟨u,rfl,zjx (s:={s with heap:=h',toks:=s.toks + 1}) eo c d (by decide) ⟨_,H,I1,ru,⟨rfl,fun ys hy=>by rw[I.tuple_inj hy hq];exact hx⟩,st',fun b hb=>(hf b hb).1⟩⟩
 done:=by
  intro X hP hw hK hc i pins s σ H E I hf st hg;subst hP hw hK;have hg':i=n:=hg;subst hg';obtain⟨f0,f1,f2,f3,f4,f5⟩:=hf it (by simp);have e:(i:Int) - 1 - (i:Int)= -1:=by omega
  have st0:zfL s.heap it a (-1):=by rw[<-e];exact st
  exact zp3 (I.ok.hd hc) st0 fun h' eb=>⟨rfl,I.turned (t':=s.toks) (fun b o hb e=>eb b o hb e) f0 f1 f3 f4 f5⟩
 self:=fun _ _ _ _ _ st h=>zkG st h
section
variable {X:Cx}{tg:Expr}
def zvc (K:Fgx)(ta:TA):TI:=fun σ H R=>ta σ H fun vs H1=>∃a xs,vs=[.ref a]/\SqT K H1 a xs/\R (Itw K a xs.length) H1
theorem zrp (hg:Gl X "reversed")(hm:X.mg "reversed"=none)(ha:PA X [a] ta)(hs:starEach [a] X.env=[(false,eval a X.env)]:=by rfl):PI X tg (.Call (.Name "reversed" p) [a] [] pos) (zvc X.K ta):=by
 intro pins s σ H R I h;refine Call_ (zhw I hg hm boot_reversed (PyProof.Rows.callWith_type1 (thn (ha pos pins s σ H _ I h) fun us s1 ⟨vs,H1,I1,r1,q1⟩=>?_) hs rfl));obtain⟨b,xs,e,hq,q⟩:=q1;subst e;obtain⟨u,e,ru⟩:=vals1 r1;subst e;cases ru;obtain⟨its,rv,pl,hz⟩:=I1.tuple hq;have hlen:its.toArray.size=xs.length:=by rw[List.size_toArray];exact rv.length.symm
 have hn:=zft;refine znO pl (by rw[hlen];omega) ?_;rw[hlen];refine zkG (l:=b) (i:=(xs.length:Int) - 1) ⟨_,Heap.get?_push_size _ rfl,rfl,rfl⟩ ?_;refine⟨s1.heap.objs.size,[s1.heap.objs.size],_,_,H1,rfl,I1.kept (t':=s1.toks + 1 + 1) fun b o e=>Heap.get?_push_of_some _ e,znU b _ xs.length,?_,fun c hc=>?_,q⟩
 ·have e:(xs.length:Int) - 1 - ((0:Nat):Int)=(xs.length:Int) - 1:=by omega
  show zfL _ _ b ((xs.length:Int) - 1 - ((0:Nat):Int));rw[e];exact⟨_,Heap.get?_push_size _ rfl,rfl,rfl⟩
 ·have e:c=s1.heap.objs.size:=by simpa using hc
  subst e;exact I1.fpOk (Nat.le_refl _) (I1.hok.fresh (Nat.le_refl _))
end
end L2
namespace E3
open PySem PySem.Spec PyProof.Rows L2
section
variable {X:Cx}{Wx:XW}{m:Mode}{pos:Pos}
def oCat:D->D->Option D
 |.lst xs,.lst ys=>if xs.length + ys.length<=sizeLine then some (.lst (xs ++ ys)) else none
 |_,_=>none
theorem znI {K:Fgx}{P:Pl}{H:Hp}{d e z:D}{v w:V}(h:oCat d e=some z)(h1:IsW K P H d v)(h2:IsW K P H e w):∃ds a b vs ws,z=.lst ds/\v=.ref a/\w=.ref b/\SqL K H a vs/\SqL K H b ws/\vs.length + ws.length<=sizeLine/\Iss K P H ds (vs ++ ws):=by
 unfold oCat at h;split at h
 ·split at h
  ·rename_i hl;cases h;obtain⟨a,vs,rfl,r1,s1⟩:=h1;obtain⟨b,ws,rfl,r2,s2⟩:=h2;exact⟨_,a,b,vs,ws,rfl,rfl,rfl,r1,r2,by rw[s1.len,s2.len];exact hl,s1.append s2⟩
  ·cases h
 ·cases h
theorem znf {a b:Expr}{f g:E}(ha:SE X Wx .bor a f)(hb:SE X Wx .bor b g):SN X Wx (.BinOp a .Add b pos) (s2 oCat f g):=by
 refine za1 (ztL zmn ha hb) ?_;rintro st H Q ⟨P0,H0,P,Os,env,M,r,M',k,e,q⟩;unfold s2 at e;rcases zaG e with⟨d,M1,e1,e⟩ |⟨c,n,e1,rfl⟩
 ·refine zax k e1 fun P1 v1 H1 l1 h1 i1=>?_;have k1:=k.next l1 h1
  rcases zaG e with⟨d2,M2,e2,e⟩ |⟨c,n,e2,rfl⟩
  ·refine zax k1 e2 fun P2 v2 H2 l2 h2 i2=>?_;rw[Option.map_eq_some_iff]at e;obtain⟨z,ez,e⟩:=e;cases e;obtain⟨ds',e',q⟩:=q;obtain⟨ds,a,b,vs,ws,ed,ea,eb,r1,r2,hl,is⟩:=znI ez (IsB.vw h2 (IsB.lt l2 h1 i1)) (IsB.vw h2 i2);cases ed.symm.trans e';refine⟨a,b,vs,ws,ea,eb,r1,r2,hl,fun p hp=>?_⟩;obtain⟨l3,h3,nc⟩:=ziv (vs:=vs ++ ws) h2 hp;exact q (P2.bar p) p (vs ++ ws) _ (l1.trans (l2.trans l3)) h3 (l1.sure p (l2.sure p hp)) (.inr rfl) nc zar (Iss.lt (l3.lt h2) is)
  ·exact zax k1 e2 q
 ·exact zax k e1 q
def jRep (f:E)(ps:EJ):EJ:=fun out env M=>bnd (f env M) fun d M1=>match d with
 |.str z=>if (reprText z).length<=sizeLine/\(out ++ reprText z).length<=sizeLine then ps (out ++ reprText z) env M1 else none
 |_=>none
theorem ztA (he:PE X e te)(hv:PJ X vs tj):PJ X (.FormattedValue e 114 none pos::vs) (fun out σ H Q=>te σ H fun v H1=>∃z,v=.str z/\(reprText z).length<=sizeLine/\(out ++ reprText z).length<=sizeLine/\tj (out ++ reprText z) σ H1 Q):=fun pins s σ H out Q I h=>by
 refine joinParts_cons (wpAny_FormattedValue_repr (thn (he pins s σ H _ I h) fun u s1 ⟨x,H1,I1,r1,z,ez,hz,hl,q⟩=>?_));subst ez;obtain⟨t,rfl⟩:=r1;refine pyReprObj_str ?_ hz;exact formatField_str (fun t' tk=>⟨hl,hv pins _ σ H1 _ Q (I1.tok _) q⟩) hz
theorem zst (he:SE X Wx .val e f)(h:SJ X Wx vs ps):SJ X Wx (.FormattedValue e 114 none pos::vs) (jRep f ps):=by
 refine zkM (ztA he h) ?_;rintro out st H Q ⟨P0,H0,P,Os,env,M,r,M',k,e,q⟩;unfold jRep at e;rcases zaG e with⟨d,M1,e1,e⟩ |⟨c,n,e1,rfl⟩
 ·cases d<;>simp only[reduceCtorEq]at e
  rename_i z;split at e
  ·rename_i hl;exact zax k e1 fun P1 v1 H1 l1 h1 i1=>⟨z,i1,hl.1,hl.2,P0,H0,P1,Os,env,M1,r,M',k.next l1 h1,e,RQ.imp l1 q⟩
  ·cases e
 ·exact zax k e1 q
theorem zsm (hg:Gl X nm)(hm:X.mg nm=some (.ref a))(hd:∀P H,Is X.K P H d (.ref a))(hdb:(nm==("__debug__":Str))=false:=by x_go):SE X Wx m (.Name nm p) (sCon d):=
 (zki (zcD hg hm (v:=.ref a) rfl hdb) hd).bor
theorem zcN {K:Fgx}{a:Addr}{o:Obj}{its:Array Value}{n:Nat}{ds:List D}{vs:List V}(l:K.lookup a=some o)(c:o.cls=.type "tuple")(e:o.data=.seq its n)(z:its.size<=sizeLine)(r:Vals vs its.toList)(i:∀P H,Iss K P H ds vs):∀P H,Is K P H (.tup ds) (.ref a):=
 fun P H=>⟨a,vs,rfl,.inr ⟨o,its,n,l,c,e,z,r⟩,i P H⟩
def AtMD (P:Program)(w:World)(K:Fgx)(mg:Mgx)(base:Heap)(k:Nat)(C:Addr)(m:Str)(n:Nat)(g:G):Prop:=
 ∃f fd ps ds dvs sp,Meth K C m f/\FnOk P w K mg base CX0 k f fd ps sp/\Binds K fd ps ds/\Vals dvs ds/\∀vs H Q E,spG K mg n g vs H Q E->sp (vs ++ dvs) H Q E
structure OwnIs (K:Fgx)(C:Addr):Prop where
 ca:PySem.W.findIn K (.ref C) "__class__"=some (some (.builtin "object.__class__"))
 gt:PySem.W.specialIn K (.builtin "object.__class__") "__get__"=some (some (.builtin "getset_descriptor.__get__"))
 tk:PySem.W.takesIn K (.builtin "object.__class__")=some true
 mr:PySem.W.mroIn K C (.type "object")=some true
 me:PySem.W.kitOne K (.ref C) (.ref C)=some true
def iRvT (fs:EA):EA:=fun env M=>match fs env M with
 |some (.v [.tup ds],M1)=>some (.v ds.reverse,M1)
 |some (.x c n,M1)=>some (.x c n,M1)
 |_=>none
theorem zsJ (hg:Gl X "reversed")(hm:X.mg "reversed"=none)(ha:SA X Wx .val [a] fs)(hs:starEach [a] X.env=[(false,eval a X.env)]:=by rfl):SI X Wx tg (.Call (.Name "reversed" p) [a] [] pos) (iRvT fs):=by
 refine ziY (zrp hg hm ha hs) ?_;rintro st H R ⟨P0,H0,P,Os,env,M,r,M',k,e,q⟩;unfold iRvT at e;split at e
 ·rename_i ds M1 ef;cases e;refine⟨P0,H0,P,Os,env,M,_,_,k,ef,fun P1 vs H1 l1 h1 i1=>?_⟩;obtain⟨v,ws,rfl,i1,rfl⟩:=i1;obtain⟨a,us,rfl,ra,is⟩:=i1;refine⟨a,us,rfl,ra,q P1 H1 _ l1 h1 fun P2 H2 l2=>?_⟩;have ra2:=l2.tup ra;have is2:=Iss.lt l2 is;have hn:us.length=ds.length:=is2.len;rw[List.length_reverse];refine⟨fun j hj=>⟨by omega,us,ra2,rfl⟩,fun j h1 h2=>by show j=us.length;omega,fun j x H' y hj=>⟨y.1,?_⟩⟩;have hj':ds.length - 1 - j<ds.length:=by omega
  obtain⟨v,ev,iv⟩:=Iss.get is2 (List.getElem?_eq_getElem hj');have:=y.2 us ra2;rw[hn,ev]at this;cases this;exact⟨_,by rw[List.getElem?_reverse hj,List.getElem?_eq_getElem hj'],iv⟩
 ·rename_i c n M1 ef;cases e;exact⟨P0,H0,P,Os,env,M,_,_,k,ef,q⟩
 ·cases e
end
end E3
namespace E3
open PySem L2
def dg (n:Nat):List Nat:=(Nat.toDigits 10 n).map Char.toNat
theorem zhJ (n:Nat):NumText.AllDigits (dg n):=fun c hc=>by
 obtain⟨d,hd,rfl⟩:=List.mem_map.mp hc;have h:=Nat.isDigit_of_mem_toDigits (by decide) (by decide) hd;simp only[Char.isDigit,Bool.and_eq_true,decide_eq_true_eq]at h;exact⟨h.1,h.2⟩
theorem znM (n:Nat):dg n≠ []:=fun e=>Nat.toDigits_ne_nil (List.map_eq_nil_iff.mp e)
theorem ziy (h1:1<=k)(h:n<10 ^ k):(dg n).length<=k:=by
 rw[dg,List.length_map];exact toDigits_len_pow (by decide) h1 h
theorem zpY:dg 0=[48]:=by x_go
theorem zmu (n:Nat)(h:n≠0):∃c r,dg n=c::r/\49<=c:=by
  induction n using Nat.strongRecOn with
  |ind n ih=>
    unfold dg;rw[Nat.toDigits_eq_if (by decide)]
    by_cases hn:n<10
    · rw[if_pos hn];refine⟨(Nat.digitChar n).toNat,[],rfl,?_⟩;have:n=1\/n=2\/n=3\/n=4\/n=5\/n=6\/n=7\/n=8\/n=9:=by omega
      rcases this with h |h |h |h |h |h |h |h |h<;>subst h<;>decide
    · rw[if_neg hn];obtain⟨c,r,e,hc⟩:=ih (n / 10) (by omega) (by omega);unfold dg at e;exact⟨c,r ++ _,by rw[List.map_append,e];rfl,hc⟩
def shw (i:Int):Str:=Str.ofString (toString i)
theorem zeR (h:0<=i):(shw i).cps.toList=dg i.toNat:=by
 have:=W.KIN.signs_num i.toNat;rw[Int.toNat_of_nonneg h]at this;exact this
theorem zlu (h:i<0):(shw i).cps.toList=45::dg i.natAbs:=by
 obtain⟨m,rfl⟩:∃m,i=Int.negSucc m:=by
  cases i with
  |ofNat n=>exact absurd h (by simp)
  |negSucc m=>exact⟨m,rfl⟩
 unfold shw dg;rw[PyProof.Rows.signs_ofString];show List.map Char.toNat ("-" ++ toString (m + 1)).toList=_;rw[String.toList_append,List.map_append,Nat.toString_eq_ofList_toDigits]
 simp
theorem zjI (h1:1<=k)(h:i.natAbs<10 ^ k):(shw i).length<=k + 1:=by
 show(shw i).cps.size<=k + 1;rw[<-Array.length_toList]
 by_cases h0:0<=i
 ·rw[zeR h0];have:=ziy (n:=i.toNat) h1 (by rw[<-Int.natAbs_of_nonneg h0]at *;simpa using h);omega
 ·rw[zlu (by omega),List.length_cons];have:=ziy h1 h;omega
theorem zjy (h:i.natAbs<10 ^ 600):intText? (shw i)=some i:=by
 have hl:=zjI (by decide) h
 by_cases h0:0<=i
 ·rw[intText_digits (by rw[zeR h0];exact zhJ _) (by rw[zeR h0];exact znM _) (by omega),zeR h0];have:=W.KIN.val_back i.toNat;unfold dg;rw[this,Int.toNat_of_nonneg h0]
 ·rw[intText_neg (zlu (by omega)) (zhJ _) (znM _) (by omega)];have:=W.KIN.val_back i.natAbs;unfold dg;rw[this];congr 1;omega
def jn (c:Nat):List (List Nat)->List Nat
 | []=>[]
 | [p]=>p
 |p::q::r=>p ++ c::jn c (q::r)
theorem zo0:∀{p q r s:List Nat},c∉p->c∉q->p ++ c::r=q ++ c::s->p=q/\r=s
  | [],[],_,_,_,_,h=>⟨rfl,by simpa using h⟩
  | [],d::q,_,_,_,hq,h=>by
    simp only[List.nil_append,List.cons_append,List.cons.injEq]at h;exact absurd (h.1 ▸ List.mem_cons_self) hq
  |d::p,[],_,_,hp,_,h=>by
    simp only[List.nil_append,List.cons_append,List.cons.injEq]at h;exact absurd (h.1 ▸ List.mem_cons_self) hp
  |d::p,e::q,r,s,hp,hq,h=>by
    simp only[List.cons_append,List.cons.injEq]at h;obtain⟨a,b⟩:=zo0 (fun z=>hp (List.mem_cons_of_mem _ z)) (fun z=>hq (List.mem_cons_of_mem _ z)) h.2;exact⟨by rw[h.1,a],b⟩
theorem zoH:∀{ps qs:List (List Nat)},ps≠ []->qs≠ []->(∀p∈ps,c∉p)->(∀q∈qs,c∉q)->jn c ps=jn c qs->ps=qs
  | [],_,h,_,_,_,_=>absurd rfl h
  |_,[],_,h,_,_,_=>absurd rfl h
  | [p],[q],_,_,_,_,h=>by simp only[jn]at h;rw[h]
  | [p],q::q'::r,_,_,hp,_,h=>by
    simp only[jn]at h;exact absurd (h ▸ (by simp:c∈q ++ c::jn c (q'::r))) (hp p List.mem_cons_self)
  |p::p'::r,[q],_,_,_,hq,h=>by
    simp only[jn]at h;exact absurd (h ▸ (by simp:c∈p ++ c::jn c (p'::r))) (hq q List.mem_cons_self)
  |p::p'::r,q::q'::s,_,_,hp,hq,h=>by
    simp only[jn]at h;obtain⟨a,b⟩:=zo0 (hp p List.mem_cons_self) (hq q List.mem_cons_self) h;have:=zoH (by simp) (by simp) (fun x hx=>hp x (List.mem_cons_of_mem _ hx)) (fun x hx=>hq x (List.mem_cons_of_mem _ hx)) b;rw[a,this]
def cd (s:Str):List Nat:=s.cps.toList
theorem zox (h:cd a=cd b):a=b:=by
 obtain⟨x⟩:=a;obtain⟨y⟩:=b;have:x=y:=Array.toList_inj.mp h;rw[this]
theorem zht (a b:Str):cd (a ++ b)=cd a ++ cd b:=by
 unfold cd;rw[Str.cps_append,Array.toList_append]
theorem ziq (c:Nat):∀ps:List Str,cd (Str.join ⟨#[c]⟩ ps)=jn c (ps.map cd)
  | []=>rfl
  | [p]=>rfl
  |p::q::r=>by
    show cd (p ++ (⟨#[c]⟩:Str) ++ Str.join ⟨#[c]⟩ (q::r))=_;rw[zht,zht,ziq c (q::r)]
    simp[jn,cd]
theorem zkd (hn:ps≠ [])(hf:∀p∈ps,c∉cd p)(hx:cd x=jn c (ps.map cd)):Txt.split x ⟨#[c]⟩=ps:=by
 have h1:=StrLaws.join_split x ⟨#[c]⟩;have h2:cd x=jn c ((Txt.split x ⟨#[c]⟩).map cd):=by rw[<-ziq,h1]
 have h3:(Txt.split x ⟨#[c]⟩)≠ []:=fun e=>by
  have:=PyProof.Rows.split_pos x ⟨#[c]⟩;rw[e]at this
  simp at this
 have h4:=zoH (c:=c) (ps:=(Txt.split x ⟨#[c]⟩).map cd) (qs:=ps.map cd) (by simpa using h3) (by simpa using hn)
  (fun p hp=>by obtain⟨q,hq,rfl⟩:=List.mem_map.mp hp;exact StrLaws.split_free x c q hq) (fun p hp=>by obtain⟨q,hq,rfl⟩:=List.mem_map.mp hp;exact hf q hq) (h2.symm.trans hx)
 exact(List.map_inj_right (fun _ _=>zox)).mp h4
theorem znh (h:cd x=c::r):cd (Txt.slice x (some 1) none)=r:=by
 have hl:(cd x).length=r.length + 1:=by rw[h];rfl
 have:=PyProof.Rows.slice_closes_from (x:=x) (i:=1) ⟨by decide,by show(1:Int)<=((cd x).length:Int);omega⟩;have e:=eq_of_beq this;rw[e];show List.take (((cd x).length:Int) - 1).toNat (List.drop (1:Int).toNat (cd x))=r;rw[h]
 simp
theorem zmD (h:cd x=c::r):Txt.startswith x (Str.ofString "-")=decide (c=45):=by
 have hl:x.length=r.length + 1:=by
  show x.cps.size=_;rw[<-Array.length_toList];show(cd x).length=_;rw[h];rfl
 have e1:(Str.ofString "-").cps= #[45]:=by x_go
 have e2:(Str.ofString "-").length=1:=by x_go
 unfold Txt.startswith Builtin.Str.subAt;rw[e1,e2,hl];have e3:x.cps=(c::r).toArray:=by
  rw[<-h];simp[cd]
 rw[e3,decide_eq_true (by omega),Bool.true_and];have e4:((c::r).toArray).extract 0 (0 + 1)= #[c]:=by simp
 rw[e4];rw[Bool.eq_iff_iff]
 simp
theorem zlQ (hz:z=⟨#[c]⟩)(ps:List Str):cd (Txt.join z ps)=jn c (ps.map cd):=by
 subst hz;show cd (Builtin.Str.glued _ _)=_;rw[StrLaws.glued_eq_join,ziq]
theorem zb4 (x:Str):x.length=(cd x).length:=by
 show x.cps.size=x.cps.toList.length
 simp
theorem zs7 {i:Int}(h:i.natAbs<2 ^ 1900):i.natAbs.log2<1920:=by
 by_cases h0:i.natAbs=0
 ·rw[h0];decide
 ·have:=(Nat.log2_lt h0).mpr h;omega
theorem zpf:x=y ↔ cd x=cd y:=⟨fun h=>by rw[h],zox⟩
theorem eq_e:(x=Str.ofString "")=(cd x=[]):=propext (zpf.trans (by rw[show cd (Str.ofString "")=[] by x_go]))
theorem eq_0:(x=Str.ofString "0")=(cd x=[48]):=propext (zpf.trans (by rw[show cd (Str.ofString "0")=[48] by x_go]))
theorem zsZ:(x=Str.ofString "-0")=(cd x=[45,48]):=propext (zpf.trans (by rw[show cd (Str.ofString "-0")=[45,48] by x_go]))
theorem zo6 (c:Nat):cd ⟨#[c]⟩=[c]:=rfl
def dgc (c:Nat):Bool:=decide (48<=c) && decide (c<=57)
theorem zoC (c:Nat):zgU ⟨#[c]⟩ (Str.ofString "0123456789")=dgc c:=by
 unfold zgU dgc;rw[StrLaws.found_one,show(Str.ofString "0123456789").cps.toList=[48,49,50,51,52,53,54,55,56,57] by x_go,Bool.eq_iff_iff];simp only[List.mem_cons,List.not_mem_nil,or_false,decide_eq_true_eq,Bool.and_eq_true];omega
def figB (cs:List Nat):Bool:= !decide (cs=[]) && cs.all dgc && (decide (cs=[48]) || !decide (cs.head? =some 48))
theorem zqv (cs:List Nat):((cs.map fun c=> !dgc c).any id)= !cs.all dgc:=by
 induction cs with
 |nil=>rfl
 |cons c r ih=>simp only[List.map_cons,List.any_cons,List.all_cons,ih,id,Bool.not_and]
def fgs (cs:List Nat):List Nat:=if cs.head? =some 45 then cs.tail else cs
def good (cs:List Nat):Bool:= !decide (cs=[45,48]) && figB (fgs cs)
def vlc (cs:List Nat):Int:=if cs.head? =some 45 then -((NumText.digitsVal cs.tail:Nat):Int) else((NumText.digitsVal cs:Nat):Int)
theorem zvG (x:Str):Txt.startswith x (Str.ofString "-")=decide ((cd x).head? =some 45):=by
  cases h:cd x with
  |nil=>
    have:x=Str.ofString "":=by rw[eq_e];exact h
    rw[this]
    decide +kernel
  |cons c r=>
    rw[zmD h]
    simp
theorem zvv (h:cs.all dgc=true):NumText.AllDigits cs:=fun c hc=>by
 have:=List.all_eq_true.mp h c hc;unfold dgc at this
 simpa using this
theorem ziu (h:figB cs=true):cs≠ []/\NumText.AllDigits cs/\(cs=[48]\/cs.head? ≠some 48):=by
 unfold figB at h;simp only[Bool.and_eq_true,Bool.or_eq_true,Bool.not_eq_true',decide_eq_true_eq,decide_eq_false_iff_not]at h;exact⟨h.1.1,zvv h.1.2,h.2⟩
theorem znq (h:figB (fgs (cd x))=true)(hl:x.length<=600):intText? x=some (vlc (cd x)):=by
 obtain⟨h1,h2,h3⟩:=ziu h;unfold fgs at h1 h2;unfold vlc
 by_cases hh:(cd x).head? =some 45
 ·rw[if_pos hh]at h1 h2 ⊢;obtain⟨r,e⟩:∃r,cd x=45::r:=by
   cases hc:cd x with
   |nil=>rw[hc]at hh;cases hh
   |cons c r=>rw[hc]at hh;simp at hh;exact⟨r,by rw[hh]⟩
  rw[e,List.tail_cons]at h1 h2 ⊢;exact intText_neg e h2 h1 (by omega)
 ·rw[if_neg hh]at h1 h2 ⊢;exact intText_digits h2 h1 (by omega)
theorem zsv (x:Str):(Txt.lstripChars x (Str.ofString "-")).length=x.length - ((cd x).takeWhile fun c=>decide (c=45)).length:=by
 have hg:(fun c=>((Str.ofString "-").cps.contains c:Bool))=fun c=>decide (c=45):=by
  funext c;rw[show(Str.ofString "-").cps= #[45] by x_go]
  simp
 have hlo:stripLo (Str.ofString "-").cps.contains true x=((cd x).takeWhile fun c=>decide (c=45)).length:=by
  unfold stripLo;rw[if_pos rfl];show((cd x).takeWhile fun c=>((Str.ofString "-").cps.contains c:Bool)).length=_;rw[hg]
 have hle:=PyProof.Rows.takeWhile_len_le (fun c=>decide (c=45)) (cd x);unfold Txt.lstripChars Txt.stripBy
 split
 ·rename_i h;unfold stripSame at h;rw[Bool.and_eq_true,beq_iff_eq,hlo]at h;omega
 ·unfold stripped;rw[hlo];show(x.cps.extract _ (stripHi _ false x _)).size=_;unfold stripHi;rw[if_neg (by decide),Array.size_extract];show min x.cps.size x.cps.size - _=x.cps.size - _;omega
theorem zqQ (h:good (cd x)=true):(Txt.lstripChars x (Str.ofString "-")).length=(fgs (cd x)).length:=by
  unfold good at h;rw[Bool.and_eq_true]at h;obtain⟨h1,h2,h3⟩:=ziu h.2;rw[zsv,zb4];have no:∀cs:List Nat,NumText.AllDigits cs->(cs.takeWhile fun c=>decide (c=45))=[]:=fun cs hd=>by
    cases cs with
    |nil=>rfl
    |cons c r=>
      have:=hd c List.mem_cons_self;rw[List.takeWhile_cons,if_neg (by simp;omega)]
  unfold fgs at h1 h2 ⊢
  by_cases hh:(cd x).head? =some 45
  · rw[if_pos hh]at h1 h2 ⊢;obtain⟨r,e⟩:∃r,cd x=45::r:=by
      cases hc:cd x with
      |nil=>rw[hc]at hh;cases hh
      |cons c r=>rw[hc]at hh;simp at hh;exact⟨r,by rw[hh]⟩
    rw[e,List.tail_cons]at h1 h2 ⊢;rw[List.takeWhile_cons,if_pos (by simp),no _ h2]
    simp
  · rw[if_neg hh]at h1 h2 ⊢;rw[no _ h2]
    simp
theorem zma (h:n<340282366920938463463374607431768211456):n.log2<1920:=by
 by_cases h0:n=0
 ·rw[h0];decide
 ·have:=(Nat.log2_lt h0 (k:=128)).mpr h;omega
section
variable {env:Env}{M M1:Mm}{f g h c:E}{d e:D}{i j:Int}{n k:Nat}{z:Str}{b:Bool}{ds es:List D}{s t:S}{x:Str}{fa:EA}{u:G}
theorem zqS {q:D->Mm->OS}:bndT q (some (.x x i,M))=some (.ex x i,M):=rfl
theorem zqO {q:D->Mm->O}:bndK q (some (.x x i,M))=some (.x x i,M):=rfl
theorem zpU {q:List D->Mm->O}:argK q (some (.x x i,M))=some (.x x i,M):=rfl
theorem zpo {q:Mm->Option (ResA×Mm)}:zn0 q (some (.x x i,M))=some (.x x i,M):=rfl
theorem zpD:conA d (some (.x x i,M))=some (.x x i,M):=rfl
def lsC (q:List D->O):Option Cl->O
 |some (.lst ds)=>q ds
 |_=>none
theorem zut {q:List D->O}:lsC q (some (.lst ds))=q ds:=rfl
def popZ (M:Mm)(k:Nat)(ds:List D):Option D->O
 |some z=>some (.v z,M.set k (.lst ds.dropLast))
 |none=>none
theorem zoD:popZ M k ds (some d)=some (.v d,M.set k (.lst ds.dropLast)):=rfl
def popC (M:Mm):D->O
 |.ref k=>lsC (fun ds=>popZ M k ds ds[ds.length - 1]?) M[k]?
 |_=>none
theorem zrn:popC M (.ref k)=lsC (fun ds=>popZ M k ds ds[ds.length - 1]?) M[k]? :=rfl
theorem zv3:sPop f env M=bndK (fun d M1=>popC M1 d) (f env M):=by
  unfold sPop bndK bnd
  cases f env M with
  |none=>rfl
  |some p=>
    obtain⟨r,M'⟩:=p
    cases r with
    |x c n=>rfl
    |v d=>
      cases d<;>rfl
def lsS (q:List D->OS):Option Cl->OS
 |some (.lst ds)=>q ds
 |_=>none
theorem zwm {q:List D->OS}:lsS q (some (.lst ds))=q ds:=rfl
def appC (env:Env)(g:Mm->O)(M:Mm):D->OS
 |.ref k=>lsS (fun _=>bndT (fun y M2=>lsS (fun ds=>if ds.length<sizeLine then some (.nx env,M2.set k (.lst (ds ++ [y]))) else none) M2[k]?) (g M)) M[k]?
 |_=>none
theorem zsz {q:Mm->O}:appC env q M (.ref k)=lsS (fun _=>bndT (fun y M2=>lsS (fun ds=>if ds.length<sizeLine then some (.nx env,M2.set k (.lst (ds ++ [y]))) else none) M2[k]?) (q M)) M[k]? :=rfl
theorem zrJ:zil f g env M=bndT (fun d M1=>appC env (g env) M1 d) (f env M):=by
  unfold zil bndT bndS
  cases f env M with
  |none=>rfl
  |some p=>
    obtain⟨r,M'⟩:=p
    cases r with
    |x c n=>rfl
    |v d=>
      cases d<;>rfl
theorem zsh (h:M[k]? =some (.lst ds)):vw M (.ref k)=.lst ds:=by unfold vw;simp only[h]
def argX (q:List D->Mm->O):Option (ResA×Mm)->O
 |some (.v ds,M)=>q ds M
 |_=>none
theorem ztQ {q:List D->Mm->O}:argX q (some (.v ds,M))=q ds M:=rfl
theorem zpc:zfd u fa env M=argX (fun ds M1=>u ds M1) (fa env M):=by
 unfold zfd argX;rfl
theorem zjA:zfj x f env M=bndT (fun _ M1=>some (.ex x 0,M1)) (f env M):=rfl
def kinD (b:Bool)(tb:List (Str×D))(M:Mm):D->O
 |.str z=>some (.v (.bl (if b then(zcJ tb z).isSome else !(zcJ tb z).isSome)),M)
 |_=>none
theorem zvq {tb:List (Str×D)}:kinD b tb M (.str z)=some (.v (.bl (if b then(zcJ tb z).isSome else !(zcJ tb z).isSome)),M):=rfl
theorem zuq {tb:List (Str×D)}:sKIn b tb f env M=bndK (fun d M1=>kinD b tb M1 d) (f env M):=by
  unfold sKIn bndK bnd
  cases f env M with
  |none=>rfl
  |some p=>obtain⟨r,M'⟩:=p;cases r with
    |x c n=>rfl
    |v d=>cases d<;>rfl
def zsl (tb:List (Str×D))(M:Mm):D->O
 |.str z=>(zcJ tb z).map fun y=>(.v y,M)
 |_=>none
theorem ztV {tb:List (Str×D)}:zsl tb M (.str z)=(zcJ tb z).map fun y=>(.v y,M):=rfl
theorem zsC {tb:List (Str×D)}:zjs tb f env M=bndK (fun d M1=>zsl tb M1 d) (f env M):=by
  unfold zjs bndK bnd
  cases f env M with
  |none=>rfl
  |some p=>obtain⟨r,M'⟩:=p;cases r with
    |x c n=>rfl
    |v d=>cases d<;>rfl
def txR:O->Option (ResA×Mm)
 |some (.v (.str z),M1)=>some (.v (z.cps.toList.map fun c=>.str ⟨#[c]⟩),M1)
 |some (.x c n,M1)=>some (.x c n,M1)
 |_=>none
theorem zt3:iTx f env M=txR (f env M):=by
  unfold iTx txR
  cases f env M with
  |none=>rfl
  |some p=>obtain⟨r,M'⟩:=p;cases r with
    |x c n=>rfl
    |v d=>cases d<;>rfl
theorem zuI:txR (some (.v (.str z),M))=some (.v (z.cps.toList.map fun c=>.str ⟨#[c]⟩),M):=rfl
def rvtR:Option (ResA×Mm)->Option (ResA×Mm)
 |some (.v [.tup ds],M1)=>some (.v ds.reverse,M1)
 |some (.x c n,M1)=>some (.x c n,M1)
 |_=>none
theorem zsi:iRvT fa env M=rvtR (fa env M):=by unfold iRvT rvtR;rfl
theorem ztS:rvtR (some (.v [.tup ds],M))=some (.v ds.reverse,M):=rfl
def mtD (o:Str->List D->Option D)(q:Mm->Option (ResA×Mm))(M:Mm):D->O
 |.str y=>argR (o y) (q M)
 |_=>none
theorem r_mt {o:Str->List D->Option D}{q:Mm->Option (ResA×Mm)}:mtD o q M (.str z)=argR (o z) (q M):=rfl
theorem q_mt {o:Str->List D->Option D}:sMt o f fa env M=bndK (fun d M1=>mtD o (fa env) M1 d) (f env M):=by
  unfold sMt bndK bnd
  cases f env M with
  |none=>rfl
  |some p=>obtain⟨r,M'⟩:=p;cases r with
    |x c n=>rfl
    |v d=>
      cases d<;>try rfl
      dsimp only[mtD];unfold argR bndA
      cases fa env M' with
      |none=>rfl
      |some p=>obtain⟨r,M2⟩:=p;cases r with
        |x c n=>rfl
        |v ds=>dsimp only;cases o _ (ds.map (vw M2))<;>rfl
theorem t_st {y:Str}:zhW z [.str y]=some (.bl (Txt.startswith z y)):=rfl
theorem t_ls {y:Str}:zhZ z [.str y]=if z.length<=sizeLine then some (.str (Txt.lstripChars z y)) else none:=rfl
theorem zpE {ps:EJ}:sFst ps env M=ps Str.empty env M:=rfl
theorem zmi {out:Str}:jEnd out env M=if out.length<=sizeLine then some (.v (.str out),M) else none:=rfl
theorem zly {ps:EJ}{out:Str}:jCon z ps out env M=if (out ++ z).length<=sizeLine then ps (out ++ z) env M else none:=rfl
def jvR (ps:EJ)(out:Str)(env:Env)(M:Mm):Option Str->O
 |some y=>if (out ++ y).length<=sizeLine then ps (out ++ y) env M else none
 |none=>none
theorem r_jv {ps:EJ}{out y:Str}:jvR ps out env M (some y)=if (out ++ y).length<=sizeLine then ps (out ++ y) env M else none:=rfl
theorem zod {ps:EJ}{out:Str}:jVal f ps out env M=bndK (fun d M1=>jvR ps out env M1 (zjW d)) (f env M):=by
  unfold jVal bndK bnd
  cases f env M with
  |none=>rfl
  |some p=>obtain⟨r,M'⟩:=p;cases r with
    |x c n=>rfl
    |v d=>dsimp only;cases zjW d<;>rfl
theorem zsb:zjW (.str z)=if z.length<=sizeLine then some z else none:=rfl
theorem zvm:zjW (.int i)=if i.natAbs.log2<1920 then some (Str.ofString (toString i)) else none:=rfl
def jrD (ps:EJ)(out:Str)(env:Env)(M:Mm):D->O
 |.str z=>if (reprText z).length<=sizeLine/\(out ++ reprText z).length<=sizeLine then ps (out ++ reprText z) env M else none
 |_=>none
theorem r_jr {ps:EJ}{out:Str}:jrD ps out env M (.str z)=if (reprText z).length<=sizeLine/\(out ++ reprText z).length<=sizeLine then ps (out ++ reprText z) env M else none:=rfl
theorem zoh {ps:EJ}{out:Str}:jRep f ps out env M=bndK (fun d M1=>jrD ps out env M1 d) (f env M):=by
  unfold jRep bndK bnd
  cases f env M with
  |none=>rfl
  |some p=>obtain⟨r,M'⟩:=p;cases r with
    |x c n=>rfl
    |v d=>cases d<;>rfl
theorem zvC:oCat (.lst ds) (.lst es)=if ds.length + es.length<=sizeLine then some (.lst (ds ++ es)) else none:=rfl
theorem ztz {y:Str}:oAdd (.str z) (.str y)=if z.length + y.length<=sizeLine then some (.str (z ++ y)) else none:=rfl
theorem zwe:oIx (.str z) (.int i)=if z.length<=sizeLine then(atI z.cps.toList i).map fun c=>.str ⟨#[c]⟩ else none:=rfl
theorem zrs:bLen [.str z]=if z.length<=sizeLine then some (.int z.length) else none:=rfl
theorem zuR:bStr [.int i]=if i.natAbs.log2<1920 then some (.str (toString i)) else none:=rfl
theorem zt5:bInt [.str z]=if z.length<=640 then(intText? z).map .int else none:=rfl
theorem zuH:bAny [.lst ds]=(zho ds).map fun bs=>.bl (bs.any id):=rfl
theorem zq9:bTup [.lst ds]=some (.tup ds):=rfl
theorem zuh {y:Str}:oCmp .isin (.str z) (.str y)=some (.bl (zgU z y)):=rfl
theorem zrX {y:Str}:oCmp .notin (.str z) (.str y)=some (.bl (!zgU z y)):=rfl
theorem zwx {y:Str}:oCmp .eq (.str z) (.str y)=some (.bl (decide (z=y))):=by
 unfold oCmp cmpD cEq;rw[if_pos (by constructor<;>first |rfl |simp[D.dep])]
 have:(z==y)=decide (z=y):=by rw[Bool.eq_iff_iff];simp
 simp[D.eq,this]
theorem zvN {y:Str}:oCmp .ne (.str z) (.str y)=some (.bl (!decide (z=y))):=by
 unfold oCmp cmpD cNe;rw[if_pos (by constructor<;>first |rfl |simp[D.dep])]
 have:(z==y)=decide (z=y):=by rw[Bool.eq_iff_iff];simp
 simp[D.eq,this]
theorem zq2:oCmp .same .non .non=some (.bl true):=rfl
theorem zrj:oCmp .other (.int i) .non=some (.bl true):=rfl
theorem zsM:oCmp .other .non .non=some (.bl false):=rfl
theorem zdS {α:Type}{e:E}(A B:α->D):∀(as:List α) (acc:List D),(∀a∈as,e (.val (A a)::env) M=some (.v (B a),M))->acc.length + as.length<sizeLine->zfa (sCon (.bl true)) e env (as.map A) acc M=some (acc ++ as.map B,M)
  | [],acc,_,_=>by simp[zfa]
  |a::as,acc,h,hl=>by
    rw[List.length_cons]at hl;have hr:=zdS A B as (acc ++ [B a]) (fun a' ha'=>h a' (by simp[ha'])) (by rw[List.length_append,List.length_singleton];omega);rw[List.map_cons];unfold zfa;rw[show sCon (.bl true) (.val (A a)::env) M=some (.v (.bl true),M) from rfl];dsimp only;rw[h a List.mem_cons_self];dsimp only;rw[if_pos (by omega),hr]
    simp
def zjw (k:Nat)(t:S)(ds:List D):OS->OS
 |some (.nx e,M1)=>loopS k t ds e M1
 |some (.ct e,M1)=>loopS k t ds e M1
 |some (.bk e,M1)=>some (.nx e,M1)
 |some (.rt d,M1)=>some (.rt d,M1)
 |some (.ex c n,M1)=>some (.ex c n,M1)
 |none=>none
theorem zqm:loopS k t [] env M=some (.nx env,M):=rfl
theorem zpV:loopS k t (d::ds) env M=if k<env.length then zjw k t ds (t (env.set k (.val d)) M) else none:=by
 unfold loopS zjw;rfl
theorem zvP {e':Env}:zjw k t ds (some (.nx e',M))=loopS k t ds e' M:=rfl
theorem zv7 {e':Env}:zjw k t ds (some (.ct e',M))=loopS k t ds e' M:=rfl
theorem zvs {e':Env}:zjw k t ds (some (.bk e',M))=some (.nx e',M):=rfl
theorem zwf:zjw k t ds (some (.rt d,M))=some (.rt d,M):=rfl
theorem zu3:zjw k t ds (some (.ex x i,M))=some (.ex x i,M):=rfl
theorem at0 {α:Type}{a:α}{xs:List α}:atI (a::xs) 0=some a:=zcA (j:=0) rfl
theorem at1 {α:Type}{a b:α}{xs:List α}:atI (a::b::xs) 1=some b:=zcA (j:=1) rfl
theorem at2 {α:Type}{a b c:α}{xs:List α}:atI (a::b::c::xs) 2=some c:=zcA (j:=2) rfl
theorem at3 {α:Type}{a b c d:α}{xs:List α}:atI (a::b::c::d::xs) 3=some d:=zcA (j:=3) rfl
theorem znp {M:Mm}{cl:Cl}:(M ++ [cl])[M.length]? =some cl:=List.getElem?_concat_length ..
theorem s_end {M:Mm}{cl cl':Cl}:(M ++ [cl]).set M.length cl'=M ++ [cl']:=by simp
theorem w_end {M:Mm}:vw (M ++ [.lst ds]) (.ref M.length)=.lst ds:=zsh znp
theorem zh9 {α β:Type}(f:α->β)(xs:List α)(lo hi:Option Int):cutL (xs.map f) lo hi=(cutL xs lo hi).map f:=by
 unfold cutL;rw[List.length_map, <-List.map_drop, <-List.map_take]
theorem zkQ {α:Type}(xs:List α){i:Int}(h:0<=i):cutL xs (some i) none=xs.drop i.toNat:=by
 obtain⟨k,rfl⟩:∃k:Nat,i=k:=⟨i.toNat,by omega⟩;unfold cutL;rw[HT.zkD,HT.zh1];rw[List.take_of_length_le (by rw[List.length_drop];omega),Int.toNat_natCast]
 by_cases hk:k<=xs.length
 ·rw[Nat.min_eq_left hk]
 ·rw[Nat.min_eq_right (by omega),List.drop_length,List.drop_of_length_le (by omega)]
theorem zr8 {α:Type}(xs:List α){i:Int}(h:0<=i):cutL xs none (some i)=xs.take i.toNat:=by
 obtain⟨k,rfl⟩:∃k:Nat,i=k:=⟨i.toNat,by omega⟩;unfold cutL;rw[HT.zkD,HT.zh1,List.drop_zero,Nat.sub_zero,Int.toNat_natCast]
 by_cases hk:k<=xs.length
 ·rw[Nat.min_eq_left hk]
 ·rw[Nat.min_eq_right (by omega),List.take_length,List.take_of_length_le (by omega)]
theorem zis {α:Type}(xs:List α){i j:Int}(h:0<=i)(h':0<=j):cutL xs (some i) (some j)=(xs.drop i.toNat).take (j.toNat - i.toNat):=by
 obtain⟨k,rfl⟩:∃k:Nat,i=k:=⟨i.toNat,by omega⟩;obtain⟨l,rfl⟩:∃k:Nat,j=k:=⟨j.toNat,by omega⟩;unfold cutL;rw[HT.zh1,HT.zh1,Int.toNat_natCast,Int.toNat_natCast]
 by_cases hk:k<=xs.length
 ·rw[Nat.min_eq_left hk]
  by_cases hl:l<=xs.length
  ·rw[Nat.min_eq_left hl]
  ·rw[Nat.min_eq_right (by omega),List.take_of_length_le (by rw[List.length_drop];omega),List.take_of_length_le (by rw[List.length_drop];omega)]
 ·rw[show min k xs.length=xs.length from Nat.min_eq_right (by omega),List.drop_length,List.drop_of_length_le (by omega),List.take_nil,List.take_nil]
end
end E3
namespace L2
open PySem PySem.Spec PyProof.Rows
end L2
namespace E3
open PySem PySem.Spec PyProof.Rows L2
end E3
namespace L2
open PySem PySem.Spec PyProof.Rows
end L2
namespace E3
open PySem PySem.Spec PyProof.Rows L2
end E3
namespace L2
open PySem PySem.Spec PyProof.Rows
end L2
namespace E3
open PySem PySem.Spec PyProof.Rows L2
section
variable {X:Cx}{Wx:XW}{m:Mode}{pos:Pos}
open Classical in
end
section
variable {f g h:E}{env:Env}{M M1 M2 M3:Mm}{j k:Nat}{kvs kvs':List (Key×D)}{y:Bool}
theorem zrI (h1:f env M=some (.v (.ref k),M1))(h2:g env M1=some (.v e,M2))(h3:h env M2=some (.v x,M3))(e1:M1[k]? =some (.dct kvs'))(e3:M3[k]? =some (.dct kvs))(h4:toKey e=some key):ziI f g h env M=some (.v ((valD kvs key).getD x),M3):=by
 simp only[ziI,bnd,h1,h2,h3,zjz,e1,zqB e3 h4]
theorem zvZ:sDct pNil env M=some (.v (.ref M.length),M ++ [.dct []]):=rfl
end
end E3
namespace E3
open PySem PySem.Spec PyProof.Rows L2
section
variable {X:Cx}{Wx:XW}{pos:Pos}
def zhl (is:List Nat)(body:S):Nat->List D->Env->Mm->OS
  |_,[],env,M=>some (.nx env,M)
  |n,d::ds,env,M=>match setE is [.int n,d] env with
    | some env1 => (match body env1 M with
      |some (.nx e,M1)=>zhl is body (n + 1) ds e M1
      |some (.ct e,M1)=>zhl is body (n + 1) ds e M1
      |some (.bk e,M1)=>some (.nx e,M1)
      |some (.rt d,M1)=>some (.rt d,M1)
      |some (.ex c n,M1)=>some (.ex c n,M1)
      |none=>none)
    |none=>none
def zlO (is:List Nat)(fs:EA)(body:S):S:=fun env M=>match fs env M with
 |some (.v [.lst ds],M1)=>zhl is body 0 ds env M1
 |some (.x c n,M1)=>some (.ex c n,M1)
 |_=>none
theorem zpS (hp:PassesOwn (model X.prog X.w) X.A X.env X.xe)(hc:X.calm=true)(hG:SG X ts is)(hg:Gl X "enumerate")(hm:X.mg "enumerate"=none)(ha:SA X Wx .val [a] fs)(hb:SB X Wx body b)
    (h2:is.length=2:=by rfl) (hn:(assignEach ts X.env).length=2:=by rfl) (hst:(assignEach ts X.env).findIdx? (·.1)=none:=by rfl) (hs:starEach [a] X.env=[(false,eval a X.env)]:=by rfl)
    (hfs:∀x,foldedSetIterable (.Call (.Name "enumerate" p) [a] [] q) X.env x=pure x:=by intro _;rfl):
    SS X Wx (.For (.Tuple ts n tp) (.Call (.Name "enumerate" p) [a] [] q) body [] pos) (zlO is fs b):=by
  obtain⟨t,hpg,ht⟩:=hG;refine zcy (zoz hp hc (znX hg hm ha hs) (zrw (n:=2) hc hpg hn hst) hb hfs) ?_;rintro D st H ⟨P0,H0,P,Os,env,M,out,M',k,e,q⟩;unfold zlO at e;split at e
  · rename_i ds M1 ef;refine⟨P0,H0,P,Os,env,M,_,_,k,ef,fun P1 vs H1 l1 h1 i1=>?_⟩;obtain⟨v,ws,rfl,i1,rfl⟩:=i1;obtain⟨a,us,rfl,ra,is1⟩:=i1;refine⟨a,us,rfl,ra.imp (·.2) id,?_⟩;have k1:=k.next l1 h1
    have q1:=q.lt (l1.lt k.hk);refine⟨fun j m σ H=>m=ds.length - j/\j<=ds.length/\∃P Os' M2 env',Lt P1 H1 P H/\Ok X.K X.mg P0 H0 P Os' H M2 σ env'/\zhl is b j (ds.drop j) env' M2=some (out,M'),⟨ds.length,by simp,Nat.zero_le _,P1,Os,M1,env,Lt.refl _ _,k1,e⟩,?_⟩;rintro j m σ H2 ⟨rfl,hj,P2,Os',M2,env',lt,k',h'⟩;have ra2:=lt.rda ra;have is2:=Iss.lt lt is1;have sq:SqL X.K H2 a us:=ra2.imp (·.2) id
    by_cases hlt:j<ds.length
    · obtain⟨w,ew,iw⟩:=Iss.get is2 (List.getElem?_eq_getElem hlt);refine .inr ⟨⟨us,w,sq,ew⟩,fun σ' H'=>∃P Os' M2 env',Lt P1 H1 P H'/\Ok X.K X.mg P0 H0 P Os' H' M2 σ' env'/\zhl is b (j + 1) (ds.drop (j + 1)) env' M2=some (out,M'),fun σ' H' z=>⟨ds.length - (j + 1),by omega,rfl,hlt,z⟩,fun x H3 y=>?_⟩;obtain⟨pp,v,hpp,rfl,rfl,hv⟩:=y;have hv':=hv us sq;rw[ew]at hv';cases hv';rw[List.drop_eq_getElem_cons hlt]at h';simp only[zhl]at h';have sm:Same H2 (upd H2 pp (.tup [.int j,w])):=zcU hpp;have l3:LtE P2 H2 P2 (upd H2 pp (.tup [.int j,w])):=LtE.same sm;have h3:=k'.hk.same sm;have k3:=k'.next l3 h3
      have lt3:=lt.trans (l3.lt k'.hk);split at h'
      · rename_i env1 ee;have isx:Iss X.K P2 (upd H2 pp (.tup [.int j,w])) [.int j,ds[j]] [.int j,w]:=⟨V.int j,[w],rfl,rfl,w,[],rfl,Is.lt (l3.lt k'.hk) iw,rfl⟩;refine⟨pp,[.int j,w],rfl,.inl (.inl zar),rfl,ht _ _ _ _ _ _ _ _ _ _ _ _ k3 isx ee fun Os2 st2 k4=>?_⟩;split at h'
        · rename_i e4 M4 eb;exact⟨P0,H0,P2,_,_,M2,_,_,k4,eb,fun P' Os2 H2 st2 l2 k5=>⟨P',Os2,_,e4,lt3.trans l2,k5,h'⟩⟩
        · rename_i e4 M4 eb;exact⟨P0,H0,P2,_,_,M2,_,_,k4,eb,fun P' Os2 H2 st2 l2 k5=>⟨P',Os2,_,e4,lt3.trans l2,k5,h'⟩⟩
        · rename_i e4 M4 eb;cases h';exact⟨P0,H0,P2,_,_,M2,_,_,k4,eb,fun P' Os2 H2 st2 l2 k5=>q1 P' Os2 H2 st2 (lt3.trans l2) k5⟩
        · rename_i d4 M4 eb;cases h';exact⟨P0,H0,P2,_,_,M2,_,_,k4,eb,q1⟩
        · rename_i c4 n4 M4 eb;cases h';exact⟨P0,H0,P2,_,_,M2,_,_,k4,eb,q1⟩
        · cases h'
      · cases h'
    · have ej:j=ds.length:=by omega
      subst ej;rw[List.drop_length]at h';cases h';exact .inl ⟨⟨us,sq,is2.len⟩,q1 P2 Os' H2 σ lt k'⟩
  · rename_i c n M1 ef;cases e;exact⟨P0,H0,P,Os,env,M,_,_,k,ef,q⟩
  · cases e
theorem zm1 (hi:SE X Wx .val i f)(hg:Gl X nm)(hm:X.mg nm=some (.ref a))(t:KTab X.K X.w a tb)(hdb:(nm==("__debug__":Str))=false:=by x_go)(hb:behindInMarks .NotIn (.Name nm p)=false:=by rfl):ST X Wx (.Compare i [.NotIn] [.Name nm p] pos) (sKIn false tb f):=
 zgW (zlU (zmZ hi hg hm t hdb) hb) fun _ _ _ w=>zoL (b:=false) (zl1 w)
end
theorem zmm {K:Fgx}{P:Pl}{H:Hp}:∀l:List Str,Iss K P H (l.map .str) (l.map V.str)
 | []=>rfl
 |b::bs=>⟨V.str b,bs.map V.str,rfl,rfl,zmm bs⟩
def zhL (z:Str):List D->Option D
 | [.str y]=>if (y.length==0)=false/\z.length + 2<=sizeLine then some (.lst ((Txt.split z y).map .str)) else none
 |_=>none
theorem zke {K:Fgx}:zkZ K zn9 zhL:=fun P H y ds z vs Q h i nb q=>by
 unfold zhL at h;split at h
 ·split at h
  ·rename_i hl;cases h;obtain⟨v,ws,rfl,p,rfl⟩:=i;cases p;exact⟨_,_,rfl,rfl,hl.1,hl.2,fun l hl'=>q _ _ (zcU hl') ⟨l,_,rfl,.inl ⟨nb l hl',.inl zar⟩,zmm _⟩⟩
  ·cases h
 ·cases h
theorem zmJ:zhL z [.str y]=if (y.length==0)=false/\z.length + 2<=sizeLine then some (.lst ((Txt.split z y).map .str)) else none:=rfl
def zsk (K:Fgx):Sp:=fun vs H Q _=>∃a C n,vs=[.ref a,.int n]/\n.natAbs<1000000000000000000/\H a=some (xo a C none true)/\xcIn K C=true/\zf9 K C "at"=true/\
 ∀dx,H dx=none->dx≠a->Q .non (upd (upd H dx (.xd [("at",.int n)])) a (xo a C (some dx) true))
def iniB (sc:Scope)(dn:Str):List Stmt->Bool
  | [.Expr (.Call (.Attribute (.Name d _) m ap) [.Name s1 _,.JoinedStr vs _] [] cp) _,.Assign [.Attribute (.Name s2 _) f _] (.Name a2 _) _]=>(ap.endLine==cp.line) && decide (d=dn) && (decide (sc.names.lookup d=some .globalImplicit) && !(d==("__debug__":Str))) && decide (m="__init__") && decide (s1="self") && decide (s2="self") && decide (f="at") && decide (a2="at") &&
    decide (sc.names.lookup ("self" : Str) = some .local) && decide (sc.names.lookup ("at" : Str) = some .local) && (match vs with
      | [.Constant (.str z) _ _,.FormattedValue (.Name a1 _) c none _]=>decide (z.length<=100) && decide (a1="at") && decide (c= -1)
      | [.Constant (.str z) _ _,.FormattedValue (.Name a1 _) c none _,.Constant (.str y) _ _]=>decide (z.length<=100) && decide (y.length<=100) && decide (a1="at") && decide (c= -1)
      |_=>false)
  |_=>false
theorem FunD.ok {P:Program}{w:World}{K:Fgx}{mg:Mgx}{base:Heap}{x qual:Str}{st:Stmt}{f:Addr}{fd:FuncData}{N ps:List Str}{k:Nat}{sp:Sp}(F:FunD K x qual st f fd)(S:FnScope N ps (zah st))(len:∀vs H Q E,sp vs H Q E->vs.length=ps.length)
  (hbody:∀(cdv:Value) (A:Around) (outer:List PySem.Env) (s:Shared) (H:Hp) (vs:List V) (Q:VK) (E:XK),Room k (A.deeper (envOfC qual (zah st) s.heap.objs.size f cdv))->sp vs H Q E->
   ∃t,PSs (cxOf CX0 P w K mg base N qual (zah st) f cdv A outer s H E).nox (za9 st) t/\t {nx:=fun _ H'=>Q .non H',rt:=Q} (start N vs) H):FnOk P w K mg base CX0 (k + 1) f fd ps sp:=by
 obtain⟨oc,od,dV,kV,doc,pm,an,cdv,ct,osl,rfl,lk,hcd⟩:=F.ex;refine zpe lk hcd S len fun A outer s H vs Q E hr hsp=>?_;obtain⟨t,h,q⟩:=hbody cdv A outer s H vs Q E hr hsp;exact⟨t,h.nox,q⟩
theorem ziL (hb:attributeBase o name env (eval o env)=eval o env)(hline:(ap.endLine==pos.line)=true)
  (hform:methodCallForm ([e1,e2].length + ([]:List Keyword).length) (backTo pos (starEach [e1,e2] env)) (backToKw pos (keywordEach [] env))=true):
  eval (.Call (.Attribute o name ap) [e1, e2] [] pos) env = (do
   let ov <-eval o env
   standAt ap.atName
   let (f,first) <-holding [ov] (getMethod ov name (do return (<-importBound o env).getD true))
   callWith pos f first (backTo pos (starEach [e1,e2] env)) (backToKw pos (keywordEach [] env))):=by
 have hpos:methodCallPos true o env ap pos=pure pos:=by unfold methodCallPos;simp[hline]
 rw[arm_eval_Call,hb];unfold methodCall;rw[hform,hpos];rfl
theorem zgP (a b:Str):(a ++ b).length=a.length + b.length:=by
 show(a.cps ++ b.cps).size=_;rw[Array.size_append];rfl
theorem zqx (hn:n.natAbs<1000000000000000000):textV (.int n)=some (shw n)/\(shw n).length<=19:=by
 refine⟨?_,zjI (k:=18) (by decide) (by simpa using hn)⟩;show(if n.natAbs.log2<1920 then some (shw n) else none)=_
 rw[if_pos (zs7 (Nat.lt_of_lt_of_le hn (by x_go)))]
theorem zoK {P:Program}{w:World}{K:Fgx}{mg:Mgx}{base:Heap}{k:Nat}{x qual dn:Str}{st:Stmt}{f Dm:Addr}{fd:FuncData}(F:FunD K x qual st f fd)(S:FnScope ["self","at"] ["self","at"] (zah st))(hm:mg dn=some (.ref Dm))(q:zjT K Dm=true)
  (hc:iniB (zah st) dn (za9 st)=true):FnOk P w K mg base CX0 (k + 1) f fd ["self","at"] (zsk K):=by
 refine F.ok S (fun vs H Q E h=>by obtain⟨a,C,n,rfl,_⟩:=h;rfl) (fun cdv A outer s H vs Q E hr h=>?_);obtain⟨a,C,n,rfl,hn,ea,q1,q2,kk⟩:=h;obtain⟨ht,hlen⟩:=zqx hn;unfold iniB at hc;split at hc
 ·rename_i d p1 m p2 s1 p3 us p4 p5 p6 s2 p7 ff p8 a2 p9 p10 eb;simp only[Bool.and_eq_true,decide_eq_true_eq,Bool.not_eq_true']at hc;obtain⟨⟨⟨⟨⟨⟨⟨⟨⟨⟨g0,rfl⟩,g1,g2⟩,rfl⟩,rfl⟩,rfl⟩,rfl⟩,rfl⟩,g3⟩,g4⟩,g5⟩:=hc;rw[eb];generalize hX:(cxOf CX0 P w K mg base ["self","at"] qual (zah st) f cdv A outer s H E).nox=X;have e1:X.N=[("self":Str),("at":Str)]:=by rw[<-hX];rfl
  have e2:X.env.scope=zah st:=by rw[<-hX];rfl
  have e3:X.mg=mg:=by rw[<-hX];rfl
  have e4:X.K=K:=by rw[<-hX];rfl
  have pv0:∀p,PE X (.Name "self" p) (tVar 0):=fun p=>ziT (by rw[e1];rfl) (by rw[e2];exact .inl g3) (by x_go) (by x_go);have pv1:∀p,PE X (.Name "at" p) (tVar 1):=fun p=>ziT (by rw[e1];rfl) (by rw[e2];exact .inl g4) (by x_go) (by x_go);have gl:Gl X d:=by show X.env.scope.names.lookup _=_;rw[e2];exact g1
  split at g5
  ·rename_i z p11 p12 a1 p13 c p14;simp only[Bool.and_eq_true,decide_eq_true_eq]at g5;obtain⟨⟨z1,rfl⟩,rfl⟩:=g5;refine⟨_,zfu (zfG (ztF (by rw[e4];exact q) gl (by rw[e3];exact hm) (pv0 _) (zmK (zkl (zl9 (pv1 _) zlm) (by rw[sizeLine_eq];omega))) g2 rfl rfl (ziL rfl g0 rfl))) (zfu (zof (pv0 _) (pv1 _) rfl) zjZ),?_⟩;have l1:(Str.empty ++ z).length<=100:=by rw[zgP];show 0 + _<=_;omega
   have l2:(Str.empty ++ z ++ shw n).length<=119:=by rw[zgP];omega
   refine⟨.ref a,rfl,by rw[sizeLine_eq];omega,.int n,rfl,shw n,ht,by rw[sizeLine_eq];omega,by rw[sizeLine_eq];omega,a,C,rfl,ea,by rw[e4];exact q1,?_⟩;exact⟨.int n,rfl,.ref a,rfl,a,C,true,rfl,ea,by rw[e4];exact q1,by rw[e4];exact q2,fun dx hd nd=>kk dx hd nd⟩
  ·rename_i z p11 p12 a1 p13 c p14 y p15 p16;simp only[Bool.and_eq_true,decide_eq_true_eq]at g5;obtain⟨⟨⟨z1,z2⟩,rfl⟩,rfl⟩:=g5;refine⟨_,zfu (zfG (ztF (by rw[e4];exact q) gl (by rw[e3];exact hm) (pv0 _) (zmK (zkl (zl9 (pv1 _) (zkl zlm (by rw[sizeLine_eq];omega))) (by rw[sizeLine_eq];omega))) g2 rfl rfl (ziL rfl g0 rfl))) (zfu (zof (pv0 _) (pv1 _) rfl) zjZ),?_⟩;have l1:(Str.empty ++ z).length<=100:=by rw[zgP];show 0 + _<=_;omega
   have l2:(Str.empty ++ z ++ shw n).length<=119:=by rw[zgP];omega
   have l3:(Str.empty ++ z ++ shw n ++ y).length<=219:=by rw[zgP];omega
   refine⟨.ref a,rfl,by rw[sizeLine_eq];omega,.int n,rfl,shw n,ht,by rw[sizeLine_eq];omega,by rw[sizeLine_eq];omega,by rw[sizeLine_eq];omega,a,C,rfl,ea,by rw[e4];exact q1,?_⟩;exact⟨.int n,rfl,.ref a,rfl,a,C,true,rfl,ea,by rw[e4];exact q1,by rw[e4];exact q2,fun dx hd nd=>kk dx hd nd⟩
  ·cases g5
 ·cases hc
section
variable {X:Cx}{Wx:XW}{pos:Pos}
def zgI (c:Str)(f:E):S:=fun env M=>bndS (f env M) fun d M1=>match d with
 |.int n=>if n.natAbs<1000000000000000000/\0<=n then some (.ex c (n + 1),M1) else none   -- the number and one more:nought tells that there is none
 |_=>none
theorem zji (F:XFit X Wx)(hc:X.calm=true)(m:X.mg c=some (.ref C))(q1:xcIn X.K C=true)(q2:zjO X.K C fI=true)(q3:zf9 X.K C "at"=true)(kp:PySem.W.keepIn X.K (.ref C)=true)
  (FO:FnOk X.prog X.w X.K X.mg X.base CX0 k fI fd ["self","at"] (zsk X.K)) (hr:Room (k + 1) X.A) (hb:Binds X.K fd ["self","at"] []) (hg:Gl X c) (he:SE X Wx .val e f) (hdb:(c==("__debug__":Str))=false:=by x_go)
  (hs:starEach [e] X.env=[(false,eval e X.env)]:=by rfl):SS X Wx (.Raise (some (.Call (.Name c p) [e] [] q)) none pos) (zgI c f):=by
 refine zcy (zkB (W:=fun a C' dx H=>C'=C/\∃n P0 H0 P M,XN H n dx/\¬ P.bd a/\H0 a=none/\LtE P0 H0 P H/\Hk X.K X.mg P H M/\Wx P0 H0 M c n) (zr5 q1 q2 kp FO hr hg m hb (by decide) he hdb hs) hc fun pins σ H s a C' dx I ea ⟨e2,n,P0,H0,P,M,xn,b,nn,l,h,w⟩=>?_) ?_
 ·subst e2;exact F.xr pins σ H s a _ dx c n P0 H0 P M I ea b nn l h m xn w
 ·rintro D st H ⟨P0,H0,P,Os,env,M,out,M',k,e,q⟩;unfold zgI at e;rcases za0 e with⟨d,M1,e1,e⟩ |⟨c,n,e1,rfl⟩
  ·split at e
   ·rename_i n;split at e
    ·rename_i hn;cases e;refine⟨P0,H0,P,Os,env,M,_,_,k,e1,fun P1 v H1 l1 h1 i1=>fun a ha=>?_⟩;have ev:v=.int n:=i1;subst ev;refine⟨a,C,n,rfl,hn.1,zar,q1,q3,fun dx hd nd=>⟨rfl,a,C,some dx,rfl,zar,q1,rfl,n + 1,P0,H0,P1,_,⟨[("at",.int n)],by rw[zak nd,zar],by rw[Int.add_sub_cancel];rfl,by omega⟩,h1.new a ha,?_,?_,?_,q⟩⟩
     ·exact k.base.sure a (l1.sure a ha)
     ·have sm:Same H1 (upd (upd (upd H1 a (xo a C none true)) dx (.xd [("at",.int n)])) a (xo a C (some dx) true)):=fun b o eb=>by
       have n1:b≠a:=zap eb ha;rw[zak nd]at hd;rw[zak n1,zak (zap eb hd),zak n1];exact eb
      exact k.base.trans (l1.trans (LtE.same sm))
     ·have sm:Same H1 (upd (upd (upd H1 a (xo a C none true)) dx (.xd [("at",.int n)])) a (xo a C (some dx) true)):=fun b o eb=>by
       have n1:b≠a:=zap eb ha;rw[zak nd]at hd;rw[zak n1,zak (zap eb hd),zak n1];exact eb
      exact h1.same sm
    ·cases e
   ·cases e
  ·exact⟨P0,H0,P,Os,env,M,_,_,k,e1,q⟩
end
theorem zog {K:Fgx}{C:Addr}{name:Str}(h1:PySem.W.findIn K (.ref C) "__setattr__"=some (some (.builtin "object.__setattr__")))(h2:PySem.W.takerIn K C name=some none)(h3:zkV K C=true)(h4:PySem.W.hasDictIn K C=true)(h5:PySem.W.findIn K (.ref C) name=some none):zf9 K C name=true:=by
 simp only[zf9,h1,h2,h3,h4,h5,beq_self_eq_true,Bool.and_self]
theorem ztD {K:Fgx}{C:Addr}(h1:PySem.W.specialIn K (.ref C) "__getattribute__"=some (some (.builtin "type.__getattribute__")))(h2:PySem.W.readsIn K C (.type "type")=true)(h3:PySem.W.findCls K (.ref C) (.type "type") "__init__"=some (.val (.builtin "ValueError.__init__"))):zjT K C=true:=by
 simp only[zjT,h1,h2,h3,beq_self_eq_true,Bool.and_self]
section
variable {X:Cx}{Wx:XW}{m:Mode}{pos:Pos}{K:Fgx}
def zk8:D->D->Option D
 |.tup xs,.tup ys=>if xs.isEmpty=false/\xs.length + ys.length<=sizeLine then some (.tup (xs ++ ys)) else none
 |_,_=>none
theorem zj4:zfb K (ztE K) zk8:=fun P H d e z v w Q h h1 h2 hn q=>by
 unfold zk8 at h;split at h
 ·rename_i xs ys;split at h
  ·rename_i hl;cases h;obtain⟨a,vs,rfl,r1,s1⟩:=h1;obtain⟨b,ws,rfl,r2,s2⟩:=h2;have n1:vs≠ []:=fun z=>by
    have:=s1.len;rw[z]at this;have h0:=hl.1
    cases xs with
    |nil=>cases h0
    |cons _ _=>cases this
   refine⟨a,b,vs,ws,rfl,rfl,r1,r2,n1,by rw[s1.len,s2.len];exact hl.2,fun z=>?_,fun _=>zjE (s1.append s2) q⟩;have e2:=s2.len;rw[z]at e2;have:ys=[]:=List.length_eq_zero_iff.mp e2.symm;subst this;rw[List.append_nil]at q;exact q _ H (Same.refl H) ⟨a,vs,rfl,r1,s1⟩
  ·cases h
 ·cases h
def slT (d:D)(lo hi:Option Int):Option D:=match d with
 |.tup ds=>if HT.sIx ds.length 0 lo=0/\HT.sIx ds.length ds.length hi=ds.length then none else some (.tup (cutL ds lo hi))
 |_=>none
def sSlT (f:E)(l h:Env->Mm->Option (Option Int×Mm)):E:=fun env M=>bnd (f env M) fun d M1=>match l env M1 with
  | some (lo, M2) => (match h env M2 with
    |some (hi,M3)=>(slT d lo hi).map fun z=>(.v z,M3)
    |none=>none)
  |none=>none
theorem zsY {e:Expr}{lo hi:Option Expr}{p2:Pos}{f:E}{l h:Env->Mm->Option (Option Int×Mm)}(he:SE X Wx .val e f)(hl:SP3 X lo l)(hh:SP3 X hi h):SE X Wx m (.Subscript e (.Slice lo hi none p2) pos) (sSlT f l h):=by
 refine za1 (zkp zsO he hl hh) ?_;rintro st H Q ⟨P0,H0,P,Os,env,M,r,M',k,e,q⟩;unfold sSlT at e;rcases zaG e with⟨d,M1,e1,e⟩ |⟨c,n,e1,rfl⟩
 ·split at e
  ·rename_i lo' M2 el;split at e
   ·rename_i hi' M3 eh;rw[Option.map_eq_some_iff]at e;obtain⟨z,ez,e⟩:=e;cases e;refine⟨P0,H0,P,Os,env,M,_,_,k,e1,fun P1 v1 H1 l1 h1 i1=>⟨P0,H0,P1,Os,env,M1,_,_,k.next l1 h1,el,fun P2 H2 l2 h2=>⟨P0,H0,P2,Os,env,M2,_,_,(k.next l1 h1).next l2 h2,eh,fun P3 H3 l3 h3=>?_⟩⟩⟩
    have i3:=Is.lt (l3.lt h2) (Is.lt (l2.lt h1) i1);have fin:∀u H',Same H3 H'->Is X.K P3 H' z u->Q u H':=fun u H' s i=>q P3 u H' (l1.trans (l2.trans (l3.trans (LtE.same s)))) (h3.same s) (IsM.of (h3.same s) i);unfold slT at ez;split at ez
    ·split at ez
     ·cases ez
     ·rename_i hw;cases ez;obtain⟨a,vs,rfl,r,s⟩:=i3;exact⟨a,vs,rfl,r,by rw[s.len];exact hw,zjE (zm3 s) fin⟩
    ·cases ez
   ·cases e
  ·cases e
 ·exact⟨P0,H0,P,Os,env,M,_,_,k,e1,q⟩
end
section
variable {env:Env}{M:Mm}{f g:E}{d:D}{i:Int}{ds es:List D}{fa:EA}{x:Str}{k:Nat}
theorem ztT:zk8 (.tup ds) (.tup es)=if ds.isEmpty=false/\ds.length + es.length<=sizeLine then some (.tup (ds ++ es)) else none:=rfl
def slTH (d:D)(lo:Option Int):Option (Option Int×Mm)->O
 |some (hi,M3)=>mapR M3 (slT d lo hi)
 |none=>none
def slTL (d:D)(k:Mm->Option (Option Int×Mm)):Option (Option Int×Mm)->O
 |some (lo,M2)=>slTH d lo (k M2)
 |none=>none
theorem zww {l u:Env->Mm->Option (Option Int×Mm)}:sSlT f l u env M=bndK (fun d M1=>slTL d (u env) (l env M1)) (f env M):=by
  unfold sSlT;show bnd _ _=bndK _ _;unfold bnd bndK
  cases f env M with
  |none=>rfl
  |some r=>
    obtain⟨r,M1⟩:=r
    cases r with
    |x c n=>rfl
    |v d=>
      dsimp only
      cases l env M1 with
      |none=>rfl
      |some p=>
        obtain⟨lo,M2⟩:=p;dsimp only[slTL]
        cases u env M2 with
        |none=>rfl
        |some p=>
          obtain⟨hi,M3⟩:=p;dsimp only[slTH];cases slT d lo hi<;>rfl
theorem zri {lo:Option Int}{q:Mm->Option (Option Int×Mm)}:slTL d q (some (lo,M))=slTH d lo (q M):=rfl
theorem zse {lo hi:Option Int}:slTH d lo (some (hi,M))=mapR M (slT d lo hi):=rfl
def zrF (x:Str)(M:Mm):D->OS
 |.int n=>if n.natAbs<1000000000000000000/\0<=n then some (.ex x (n + 1),M) else none
 |_=>none
theorem znG:zgI x f env M=bndT (fun d M1=>zrF x M1 d) (f env M):=rfl
theorem zkP {n:Nat}(h:n<1000000):zrF x M (.int n)=some (.ex x ((n:Int) + 1),M):=if_pos ⟨by omega,by omega⟩
theorem zwo:bAll [.lst ds]=(zho ds).map fun bs=>.bl (bs.all id):=rfl
theorem zrD:bTup [.tup ds]=some (.tup ds):=rfl
end
end E3
namespace L2
open PySem PySem.Spec PyProof.Rows
end L2
namespace E3
open PySem PySem.Spec PyProof.Rows L2
section
variable {K:Fgx}{mg:Mgx}{P0 P:Pl}{H0 H:Hp}{Os:List (Option Addr)}{M:Mm}{st:L2.St}{env:Env}{i:Nat}
theorem Ok.cel {ds:List D}(k:Ok K mg P0 H0 P Os H M st env)(hi:env[i]? =some (.own ds)):∃P' Os',Lt P H P' H/\Ok K mg P0 H0 P' Os' H (M ++ [.lst ds]) st (env.set i (.val (.ref M.length))):=by
 obtain⟨a,vs,e1,e2,e3,q⟩:=k.slot i _ hi;have ho:=zcH e1;obtain⟨b1,b2,b3⟩:=k.own a (List.mem_of_getElem? ho);have ilt:i<env.length:=(List.getElem?_eq_some_iff.mp hi).1;have nO:∀b,some b∈Os.set i none->some b∈Os/\b≠a:=fun b z=>by
  obtain⟨j,hj⟩:=List.mem_iff_getElem?.mp z;rw[List.getElem?_set]at hj;split at hj
  ·split at hj<;>cases hj
  ·rename_i ij;exact⟨List.mem_of_getElem? hj,fun z=>by subst z;exact ij (k.inj i j b ho hj)⟩
 let P2:Pl:={io:=fun j=>if j=P.n then a else P.io j,n:=P.n + 1,bd:=P.bd}
 have io : ∀ j, j < P.n -> P2.io j = P.io j := fun j hj => if_neg (by omega);have ioN : P2.io P.n = a := if_pos rfl;have l : Lt P H P2 H := ⟨Nat.le_succ _, io, fun c z => .inl z, fun _ _ e _ => e, fun _ z => z⟩;have el : P.n = M.length := k.hk.n;refine ⟨P2,Os.set i none,l,{
  hk:=⟨by rw[List.length_append, <-el];rfl,fun j d ej=>?_,fun x y hx hy e=>?_,fun j hj=>?_,fun c z=>k.hk.here c z⟩
  base:=⟨Nat.le_succ_of_le k.base.n,fun j hj=>(io j (Nat.lt_of_lt_of_le hj k.base.n)).trans (k.base.io j hj),k.base.bd,k.base.bm,k.base.keep,k.base.sure,fun j h1 h2=>?_⟩
  b0:=k.b0
  slot:=fun j s ej=>?_
  own:=fun c z=>?_
  inj:=fun j l b z1 z2=>?_
  olen:=by rw[List.length_set,List.length_set,k.olen]
  slen:=by rw[List.length_set,k.slen]}⟩
 ·rcases Nat.lt_or_ge j P.n with z |z
  ·rw[List.getElem?_append_left (by rw[<-el];exact z)]at ej;rw[io j z];exact(k.hk.cell j d ej).lt l fun _ z=>z
  ·have jl:=(List.getElem?_eq_some_iff.mp ej).1;rw[List.length_append,List.length_singleton, <-el]at jl;have:j=P.n:=by omega
   subst this;rw[List.getElem?_append_right (by rw[el];exact Nat.le_refl _),el,Nat.sub_self]at ej;cases ej;rw[ioN];exact⟨vs,e3,Iss.lt l q⟩
 ·rcases Nat.lt_or_ge x P.n with z |z<;>rcases Nat.lt_or_ge y P.n with z' |z'
  ·rw[io x z,io y z']at e;exact k.hk.inj x y z z' e
  ·have:y=P.n:=Nat.le_antisymm (Nat.le_of_lt_succ hy) z';rw[io x z,this,ioN]at e;exact absurd e (b2 x z)
  ·have:x=P.n:=Nat.le_antisymm (Nat.le_of_lt_succ hx) z;rw[io y z',this,ioN]at e;exact absurd e.symm (b2 y z')
  ·have h1:x=P.n:=Nat.le_antisymm (Nat.le_of_lt_succ hx) z;have h2:y=P.n:=Nat.le_antisymm (Nat.le_of_lt_succ hy) z';rw[h1,h2]
 ·rcases Nat.lt_or_ge j P.n with z |z
  ·rw[io j z];exact k.hk.bd j z
  ·have:j=P.n:=Nat.le_antisymm (Nat.le_of_lt_succ hj) z;rw[this,ioN];exact b1
 ·rcases Nat.lt_or_ge j P.n with z |z
  ·rw[io j z];exact k.base.nw j h1 z
  ·have:j=P.n:=Nat.le_antisymm (Nat.le_of_lt_succ h2) z;rw[this,ioN];exact b3
 ·rw[zex _ _ _ _ (by rw[k.olen];exact ilt)];rw[List.getElem?_set]at ej;split at ej
  ·rename_i ij;subst ij;cases ej;exact⟨.ref a,e2,by show M.length<P.n + 1;omega,by rw[<-el,ioN]⟩
  ·rename_i ij;rw[if_neg ij];have q:=k.slot j s ej
   cases s with
   |un=>exact True.intro
   |val d=>obtain⟨v,e1,q⟩:=q;exact⟨v,e1,Is.lt l q⟩
   |own es=>obtain⟨a',ws,e1,e2,e3,q⟩:=q;exact⟨a',ws,e1,e2,e3,Iss.lt l q⟩
   |exc c n=>obtain⟨v,e1,q⟩:=q;exact⟨v,e1,q.lt l⟩
 ·obtain⟨z1,z2⟩:=nO c z;obtain⟨c1,c2,c3⟩:=k.own c z1;refine⟨c1,fun j hj=>?_,c3⟩;rcases Nat.lt_or_ge j P.n with z |z
  ·rw[io j z];exact c2 j z
  ·have:j=P.n:=Nat.le_antisymm (Nat.le_of_lt_succ hj) z;rw[this,ioN];exact fun q=>z2 q.symm
 ·rw[List.getElem?_set]at z1 z2;split at z1
  ·split at z1<;>cases z1
  ·split at z2
   ·split at z2<;>cases z2
   ·exact k.inj _ _ _ z1 z2
end
section
variable {X:Cx}{Wx:XW}
def sCel (i:Nat):S:=fun env M=>match env[i]? with
 |some (.own ds)=>some (.nx (env.set i (.val (.ref M.length))),M ++ [.lst ds])
 |_=>none
theorem zsE {ss:List Stmt}{i:Nat}{g:S}(h:SB X Wx ss g):SB X Wx ss (sSeq (sCel i) g):=by
 refine zhQ h ?_;rintro D st H ⟨P0,H0,P,Os,env,M,out,M',k,e,q⟩;unfold sSeq sCel at e;split at e
 ·rename_i e1 M1 ef;split at ef
  ·rename_i ds es;cases ef;obtain⟨P1,Os1,l1,k1⟩:=k.cel es;exact⟨P0,H0,P1,Os1,_,_,_,_,k1,e,q.lt l1⟩
  ·cases ef
 ·rename_i ho;split at e
  ·rename_i es;exact(ho _ _ (by rw[es])).elim
  ·cases e
end
end E3
namespace E3
def celR (k:Nat)(env:Env)(M:Mm):Option Slot->OS
 |some (.own ds)=>some (.nx (env.set k (.val (.ref M.length))),M ++ [.lst ds])
 |_=>none
theorem zvw {k:Nat}{env:Env}{M:Mm}:sCel k env M=celR k env M env[k]? :=by
 unfold sCel celR;split<;>simp_all
theorem zur {k:Nat}{env:Env}{M:Mm}{ds:List D}:celR k env M (some (.own ds))=some (.nx (env.set k (.val (.ref M.length))),M ++ [.lst ds]):=rfl
end E3
namespace E3
open PySem PySem.Spec PyProof.Rows L2
mutual
def D.nr:D->Bool
 |.tup xs=>D.nrs xs
 |.lst xs=>D.nrs xs
 |.ref _=>false
 |_=>true
def D.nrs:List D->Bool
 | []=>true
 |a::as=>D.nr a && D.nrs as
end
def Pf:Pl:=⟨fun _=>0,0,fun _=>False⟩
section
variable {K:Fgx}{mg:Mgx}{P P':Pl}{H H':Hp}{M:Mm}
mutual
theorem Is.fre:∀{d:D} {v:V},D.nr d=true->Is K P H d v->Is K Pf H d v
 |.non,_,_,h=>h
 |.bl _,_,_,h=>h
 |.int _,_,_,h=>h
 |.str _,_,_,h=>h
 |.tup _,_,n,h=>by obtain⟨a,vs,e,s,q⟩:=h;exact⟨a,vs,e,s,Iss.fre n q⟩
 |.lst _,_,n,h=>by obtain⟨a,vs,e,s,q⟩:=h;exact⟨a,vs,e,s.imp (fun z=>⟨fun z=>z,z.2⟩) id,Iss.fre n q⟩
 |.ref _,_,n,_=>by cases n
theorem Iss.fre:∀{ds:List D} {vs:List V},D.nrs ds=true->Iss K P H ds vs->Iss K Pf H ds vs
  | [],_,_,h=>h
  |_::_,_,n,h=>by
    obtain⟨v,r,e,p,q⟩:=h;have n:=Bool.and_eq_true_iff.mp n;exact⟨v,r,e,Is.fre n.1 p,Iss.fre n.2 q⟩
end
mutual
theorem Is.lf_any:∀{d:D} {v:V},D.lf d=true->Is K P H d v->Is K P' H d v
 |.non,_,_,h=>h
 |.bl _,_,_,h=>h
 |.int _,_,_,h=>h
 |.str _,_,_,h=>h
 |.tup _,_,n,h=>by obtain⟨a,vs,e,s,q⟩:=h;exact⟨a,vs,e,s,Iss.lf_any n q⟩
 |.lst _,_,n,_=>by cases n
 |.ref _,_,n,_=>by cases n
theorem Iss.lf_any:∀{ds:List D} {vs:List V},D.lfs ds=true->Iss K P H ds vs->Iss K P' H ds vs
  | [],_,_,h=>h
  |_::_,_,n,h=>by
    obtain⟨v,r,e,p,q⟩:=h;have n:=Bool.and_eq_true_iff.mp n;exact⟨v,r,e,Is.lf_any n.1 p,Iss.lf_any n.2 q⟩
end
theorem IsW.free {d:D}{v:V}(n:D.nr d=true)(h:IsW K P H d v):Is K Pf H d v:=by
 cases d with
 |lst ds=>obtain⟨a,vs,e,s,q⟩:=h;exact⟨a,vs,e,s.imp (fun z=>⟨fun z=>z,z⟩) id,Iss.fre n q⟩
 |non |bl |int |str |tup |ref=>exact Is.fre (P:=P) n h
theorem AllM.free (h:Hk K mg P H M):∀{ds:List D} {vs:List V},D.nrs (ds.map (vw M))=true->AllM K P H .bor ds vs->Iss K Pf H (ds.map (vw M)) vs
  | [],_,_,i=>i
  |_::_,_,n,i=>by
    obtain⟨v,ws,e,p,q⟩:=i;have n:=Bool.and_eq_true_iff.mp n;exact⟨v,ws,e,IsW.free n.1 (IsB.vw h p),AllM.free h n.2 q⟩
end
section
variable {X:Cx}{Wx:XW}{m:Mode}
def zgM (g:G)(fs:EA):E:=fun env M=>bndA (fs env M) fun ds M1=>match g (ds.map (vw M1)) [] with
 |some (.v d,_)=>if (D.lf d && D.nrs (ds.map (vw M1)))=true then some (.v d,M1) else none
 |_=>none
theorem zkr {k n:Nat}{f:Str}{g:G}{e:Expr}{es:List Expr}{fs:EA}{p pos:Pos}(a:AtG X.prog X.w X.K X.mg X.base k f n g)(hr:Room k X.A)(hg:Gl X f)(ha:SA X Wx .bor (e::es) fs)(hn:Cnt n fs)(hdb:(f==("__debug__":Str))=false:=by x_go)
  (he:starEach (e::es) X.env=(false,eval e X.env)::starEach es X.env:=by rfl) (hpl:(backTo pos (starEach es X.env)).any (·.1)=false:=by rfl):SE X Wx m (.Call (.Name f p) (e::es) [] pos) (zgM g fs):=by
 obtain⟨fa,fd,ps,ds,dvs,sp,hm,hk,F,hb,hv,himp⟩:=a;refine za1 (zmI F hr hg hm hk hb hv zqK ha hdb he hpl) ?_;rintro st H Q ⟨P0,H0,P,Os,env,M,r,M',k,e,q⟩;unfold zgM at e;rcases zdu e with⟨ds,M1,e1,e⟩ |⟨c,n,e1,rfl⟩
 ·split at e
  ·rename_i d M2 eg;split at e
   ·rename_i hd;have hd:=Bool.and_eq_true_iff.mp hd;cases e;refine⟨P0,H0,P,Os,env,M,_,_,k,e1,fun P1 vs H1 l1 h1 i1=>himp _ _ _ _ ⟨by rw[i1.len];exact hn _ _ _ _ e1,Pf,[],ds.map (vw M'),d,_,⟨rfl,(fun j c ej=>by simp at ej),(fun j k hj=>absurd hj (Nat.not_lt_zero _)),(fun j hj=>absurd hj (Nat.not_lt_zero _)),(fun a (z:False)=>z.elim)⟩,AllM.free h1 hd.2 i1,eg,fun P2 v H2 l2 h2 i2=>?_⟩⟩;have kp:∀a o,H1 a=some o->H2 a=some o:=fun a o ea=>l2.keep a o ea fun j hj=>absurd hj (Nat.not_lt_zero _);have lE:LtE P1 H1 P1 H2:=⟨Nat.le_refl _,fun _ _=>rfl,fun _ z=>.inl z,fun _ z=>z,fun a o ea _=>kp a o ea,l2.sure,fun j h1 h2=>absurd h1 (Nat.not_le.mpr h2)⟩;have lT:Lt P1 H1 P1 H2:=⟨Nat.le_refl _,fun _ _=>rfl,fun _ z=>.inl z,fun a o ea _=>kp a o ea,l2.sure⟩;have hk2:Hk X.K X.mg P1 H2 M':=⟨h1.n,fun j c ej=>(h1.cell j c ej).lt lT fun o eo=>kp _ o eo,h1.inj,h1.bd,fun a z q=>h1.here a z (l2.sure a q)⟩;exact q P1 v H2 (l1.trans lE) hk2 (IsM.of hk2 (Is.lf_any hd.1 i2))
   ·cases e
  ·cases e
 ·exact⟨P0,H0,P,Os,env,M,_,_,k,e1,q⟩
end
section
variable {X:Cx}
def zoF (K:Fgx):V->List V->Hp->VK->Prop:=fun x vs H Q=>∃z l ys,x=.str z/\vs=[.ref l]/\SqT K H l (ys.map V.str)/\z.length<=16/\(ys.map (·.length)).sum + ys.length<=1048576/\Q (.str (Txt.join z ys)) H
theorem zns:MtR X "str.join" (zoF X.K):=by
 intro pins s σ H x vs v us Q I rx rv h;obtain⟨z,l,ys,rfl,rfl,hq,h1,h2,q⟩:=h;obtain⟨t,rfl⟩:=rx;obtain⟨u,rfl,ru⟩:=rv.one;cases ru;obtain⟨its,r,pl,hz⟩:=I.tuple hq;exact join_tupleW (by exact pl) (by simpa using zhK r) h1 h2 fun t' k=>⟨.str _,H,I.tok _,⟨_,rfl⟩,q⟩
def ziD (z:Str):List D->Option D
  | [.tup ds]=>match zhp ds with
    |some ys=>if z.length<=16/\(ys.map (·.length)).sum + ys.length<=1048576 then some (.str (Txt.join z ys)) else none
    |none=>none
  |_=>none
theorem znS {K:Fgx}:zkZ K (zoF K) ziD:=fun P H y ds z vs Q h i _ q=>by
 unfold ziD at h;split at h
 ·split at h
  ·rename_i ys ey;split at h
   ·rename_i hl;cases h;obtain⟨v,ws,rfl,p,rfl⟩:=i;obtain⟨a,us,rfl,r,s⟩:=p;rw[zj0 ey s]at r;exact⟨y,a,ys,rfl,rfl,r,hl.1,hl.2,q _ H (Same.refl H) rfl⟩
   ·cases h
  ·cases h
 ·cases h
end
section
variable {X:Cx}{Wx:XW}{m:Mode}{pos:Pos}
theorem zbx (hr:Room k X.A)(h:X.A.units + 60<cLine->SB X Wx ss b):SB X Wx ss b:=h (Nat.lt_of_le_of_lt (Nat.add_le_add_left (by decide) _) hr.units)
theorem zbL {e:Expr}{es:List Expr}{x:Str}{id:String}{r:List V->Hp->VK->Prop}{o:List D->Option D}{fs:EA}{p:Pos}(hc:zdM X (.builtin id) r)(hg:Gl X x)(hm:X.mg x=none)(hv:bootBuiltins x=some (.builtin id))(po:zhq X.K r o)(ha:SA X Wx .bor (e::es) fs)
  (hn:x≠"__name__":=by x_go) (hdb:(x==("__debug__":Str))=false:=by x_go) (he:starEach (e::es) X.env=(false,eval e X.env)::starEach es X.env:=by rfl) (hpl:(backTo pos (starEach es X.env)).any (·.1)=false:=by rfl):SE X Wx m (.Call (.Name x p) (e::es) [] pos) (sN o fs):=
 ztl (fun _ ha=>zkJ hc hg hm hv ha hn hdb he hpl) po ha
theorem zb3 (hc:zdM X (.type T) r)(hg:Gl X x)(hm:X.mg x=none)(hv:bootBuiltins x=some (.type T))(po:zhq X.K r o)(ha:SA X Wx .bor (e::es) fs)
  (hn:x≠"__name__":=by x_go) (hdb:(x==("__debug__":Str))=false:=by x_go) (he:starEach (e::es) X.env=(false,eval e X.env)::starEach es X.env:=by rfl) (hpl:(backTo pos (starEach es X.env)).any (·.1)=false:=by rfl):SE X Wx m (.Call (.Name x p) (e::es) [] pos) (sN o fs):=
 ztl (fun _ ha=>zjc hc hg hm hv ha hn hdb he hpl) po ha
end
section
variable (P:Program)(w:World)(K:Fgx)(mg:Mgx)(base:Heap)(k:Nat)(f:Addr)(N:List Str)(q:Str)(st:Stmt)(b:S)
abbrev RT:Prop:=∀(cdv:Value) (A:Around) (outer:List PySem.Env) (s:Shared) (H:Hp) (E:XK),Room k (A.deeper (envOfC q (zah st) s.heap.objs.size f cdv))->SB (cx0 P w K mg base N q st f cdv A outer s H E) W0 (za9 st) b
abbrev RTX:Prop:=∀(cdv:Value) (A:Around) (outer:List PySem.Env) (s:Shared) (H:Hp) (E:XK) (Wx:XW),Room k (A.deeper (envOfC q (zah st) s.heap.objs.size f cdv))->XFit (cxX P w K mg base N q st f cdv A outer s H E) Wx->XPass (cxX P w K mg base N q st f cdv A outer s H E) Wx->SB (cxX P w K mg base N q st f cdv A outer s H E) Wx (za9 st) b
end
theorem zbw (h1:sc.kind=.function:=by rfl)(h2:sc.isCoroutine=false:=by rfl)(h3:sc.isGenerator=false:=by rfl)(h4:N.Nodup:=by x_go)(h5:N.take P.length=P:=by rfl)
  (h6:∀x∈P,sc.names.lookup x=some .local\/sc.names.lookup x=some .cell:=by x_go) (h7:∀y∈sc.names,y.2≠ .free:=by x_go):FnScope N P sc:=⟨h1,h2,h3,h4,h5,h6,h7⟩
abbrev LV (st:Stmt)(x:Str):Prop:=(zah st).names.lookup x=some .local
abbrev LC (st:Stmt)(x:Str):Prop:=(zah st).names.lookup x=some .cell
structure DefAt (K:Fgx)(mg:Mgx)(x:Str)(st:Stmt)(ps:List Str)(f:Addr)(fd:FuncData):Prop where
 mg:mg x=some (.ref f)
 F:FunD K x x st f fd
 b:Binds K fd ps []
theorem DefAt.ok {P:Program}{w:World}{K:Fgx}{mg:Mgx}{base:Heap}{k:Nat}{x:Str}{st:Stmt}{f:Addr}{fd:FuncData}{N ps:List Str}{b:S}(D:DefAt K mg x st ps f fd)(S:FnScope N ps (zah st))(hr:RT P w K mg base k f N x st b)(hp:ps.length<=N.length:=by decide):AtG P w K mg base (k + 1) x ps.length (fnG N.length b):=zvE D.F S hp D.mg D.b hr
def FAt (K:Fgx)(x:Str)(st:Stmt):Prop:=∃(f:Addr) (oc kV dc pm cd ct:Value) (od an:Option Addr) (sl:Array (Option Value)),PySem.W.nsIn K mainGlobals x=some (some (.ref f))/\K.lookup f=some ⟨oc,od,.func (PySem.W.fnOf x x (zb5 st) (za9 st) (zah st) .none kV dc pm an cd ct),sl⟩/\PySem.W.codeIn K cd x=true/\PySem.W.keepIn K (.ref f)=true
theorem FAt.mk {K:Fgx}{x:Str}{st:Stmt}{f:Addr}{oc kV dc pm cd ct:Value}{od an:Option Addr}{sl:Array (Option Value)}(a:PySem.W.nsIn K mainGlobals x=some (some (.ref f)))(l:K.lookup f=some ⟨oc,od,.func (PySem.W.fnOf x x (zb5 st) (za9 st) (zah st) .none kV dc pm an cd ct),sl⟩)(c:PySem.W.codeIn K cd x=true)(k:PySem.W.keepIn K (.ref f)=true):FAt K x st:=⟨f,oc,kV,dc,pm,cd,ct,od,an,sl,a,l,c,k⟩
theorem FAt.at {K:Fgx}{h:Heap}{mg:Mgx}{x:Str}{st:Stmt}{ps:List Str}(F:FAt K x st)(X:K.In h)(G:h.Ns mainGlobals mg)
  (hb:∀(kV doc pm:Value) (an:Option Addr) (cdv ct:Value) (us:List Value),us.length=ps.length->bindArgs (PySem.W.fnOf x x (zb5 st) (za9 st) (zah st) .none kV doc pm an cdv ct) ⟨us,[]⟩=pure (ps.zip us)):∃f fd,DefAt K mg x st ps f fd:=by
 obtain⟨f,oc,kV,dc,pm,cd,ct,od,an,sl,a,l,c,k⟩:=F;exact⟨f,_,PySem.W.mg_of X G a,zfM l c k,(zhM (st:=st) l c k).binds hb⟩
end E3
namespace L2
open PySem PySem.Spec PyProof.Rows
abbrev TH:=Ends->Addr->Addr->Option Addr->St->Hp->Prop
def HB (X:Cx)(hs:List ExceptHandler)(t:TH):Prop:=∀(pins:Pnx) (s:Shared) (σ:St) (H:Hp) (a C:Addr) (dx:Option Addr) (T:Addr) (D:Ends),
 Caught X pins σ H s a C dx T->xcIn X.K C=true->X.A.handled=none->t D C a dx σ H->wpAny (model X.prog X.w) X.A (handleBy (.ref a) X.env hs) (SP X pins D) X.xe s
end L2
namespace E3
open PySem PySem.Spec PyProof.Rows L2
abbrev HE:=Str->Int->Env->Mm->OS
section
variable {X:Cx}{Wx:XW}{m:Mode}{pos:Pos}
def tH (X:Cx)(hh:HE):TH:=fun D C a dx st H=>∃P0 H0 P Os env M c n out M',Ok X.K X.mg P0 H0 P Os H M st env/\X.mg c=some (.ref C)/\zoO X.K X.mg P H none (some (.ref a)) (.exc c n)/\hh c n env M=some (out,M')/\Post X.K X.mg W0 P0 H0 P H M' D out
def NxRt (out:Out):Prop:=(∃e,out=.nx e)\/∃d,out=.rt d
structure SH (X:Cx)(hs:List ExceptHandler)(hh:HE):Prop where
 hb:HB X hs (tH X hh)
 ok:∀c n env M out M',hh c n env M=some (out,M')->(∃C,X.mg c=some (.ref C)/\xcIn X.K C=true)/\NxRt out
variable {suite:List Stmt}{b0:Stmt}{cn n:Str}{np hp:Pos}{c:Addr}{i:Nat}{h:S}{hs:List ExceptHandler}{r:HE}{cat:Str->Option Bool}
end
end E3
namespace My
open PySem PySem.Spec PyProof.Rows L2 E3
def zdO:List (Str×D):=[("+",(.tup [(.str "number"),(.str "number"),(.int 2)])),("-",(.tup [(.str "number"),(.str "number"),(.int 2)])),("*",(.tup [(.str "number"),(.str "number"),(.int 2)])),("least",(.tup [(.str "number"),(.str "number"),(.int 2)])),("most",(.tup [(.str "number"),(.str "number"),(.int 2)])),("<",(.tup [(.str "truth"),(.str "number"),(.int 2)])),("=",(.tup [(.str "truth"),(.str "number"),(.int 2)])),("not",(.tup [(.str "truth"),(.str "truth"),(.int 1)])),("and",(.tup [(.str "truth"),(.str "truth"),(.int 2)])),("or",(.tup [(.str "truth"),(.str "truth"),(.int 2)]))]
def zdF:List (Str×D):=[("in",(.int 0)),("keep",(.int 1)),("turn",(.int 1)),("share",(.int 1)),("pour",(.int 8)),("fixed",(.int 1)),("slide",(.int 1)),("gap",(.int 1)),("join",(.int 2)),("out",(.int 1))]
def top (i:Nat):Stmt:=PySem.Challenge.pw_rowdam_k14_works_read.main.body.getD i (.Pass ⟨0,0,0,0⟩)
def blts:List Str:=["any","len","range","reversed","all","int","tuple","enumerate","str","min","list","isinstance"]
def znT (s:Stmt)(j:Nat):Stmt:=match s with
 |.ClassDef _ _ _ body _ _ _ _ _ _ _=>body.getD j s
 |_=>s
structure Ad where
 Cond:Addr
 Expr:Addr
 DamError:Addr
 NoExpr:Addr
 NoName:Addr
 NoText:Addr
abbrev zbV:Stmt:=znT (top 3) 0
theorem zhm:FnScope ["self","at"] ["self","at"] (zah zbV):=⟨rfl,rfl,rfl,by x_go,rfl,by x_go,by x_go⟩
abbrev zbZ:Stmt:=znT (top 4) 0
theorem zhk:FnScope ["self","at"] ["self","at"] (zah zbZ):=⟨rfl,rfl,rfl,by x_go,rfl,by x_go,by x_go⟩
structure Txt (K:Fgx)(mg:Mgx)(C:Ad)(w:World):Prop where
 blt:∀b∈blts,mg b=none
 cl_Cond:ClsOk K mg "Cond" C.Cond
 cl_Expr:ClsOk K mg "Expr" C.Expr
 na_Expr_parts:zgK K C.Expr "parts"
 na_Cond_parts:zgK K C.Cond "parts"
 xm_DamError:mg "DamError"=some (.ref C.DamError)
 xc_DamError:xcIn K C.DamError=true
 xm_NoExpr:mg "NoExpr"=some (.ref C.NoExpr)
 xc_NoExpr:xcIn K C.NoExpr=true
 xm_NoName:mg "NoName"=some (.ref C.NoName)
 xc_NoName:xcIn K C.NoName=true
 xm_NoText:mg "NoText"=some (.ref C.NoText)
 xc_NoText:xcIn K C.NoText=true
 xn_NoExpr:zlJ K C.NoExpr=true
 xk_NoExpr:PySem.W.keepIn K (.ref C.NoExpr)=true
 xs_NoExpr:zi4 K C.NoExpr=true
 xk_NoName:PySem.W.keepIn K (.ref C.NoName)=true
 xs_NoName:zi4 K C.NoName=true
 xk_NoText:PySem.W.keepIn K (.ref C.NoText)=true
 xs_NoText:zi4 K C.NoText=true
 qk_NoExpr_NoExpr:zjP K C.NoExpr C.NoExpr=true
 xb_DamError:zjT K C.DamError=true
 xa_NoName:zf9 K C.NoName "at"=true
 o_NoName:∃f fd,zjO K C.NoName f=true/\FunD K "__init__" "NoName.__init__" zbZ f fd/\Binds K fd ["self","at"] []
 xa_NoText:zf9 K C.NoText "at"=true
 o_NoText:∃f fd,zjO K C.NoText f=true/\FunD K "__init__" "NoText.__init__" zbV f fd/\Binds K fd ["self","at"] []
 k_ALL_LETTERS:∃a,mg "ALL_LETTERS"=some (.ref a)/\∀P H,Is K P H (.tup [(.str "t"),(.str "v"),(.str "w")]) (.ref a)
 k_FOLDS:∃a,mg "FOLDS"=some (.ref a)/\∀P H,Is K P H (.tup [(.str "sum"),(.str "count"),(.str "most"),(.str "least")]) (.ref a)
 k_NEEDS:∃a,mg "NEEDS"=some (.ref a)/\KTab K w a zdO
 k_FROMS:∃a,mg "FROMS"=some (.ref a)/\KTab K w a zdF
 k_FIGURES:∃t,mg "FIGURES"=some (.str "0123456789" t)
 k_MOST_FIGURES:∃t,mg "MOST_FIGURES"=some (.int 20 t)
 k_LETTERS:∃t,mg "LETTERS"=some (.str "abcdefghijklmnopqrstuvwxyz" t)
 k_COND_LETTERS:∃t,mg "COND_LETTERS"=some (.str "tv" t)
 k_MOST_SIGNS:∃t,mg "MOST_SIGNS"=some (.int 12 t)
 k_MOST_SHARES:∃t,mg "MOST_SHARES"=some (.int 8 t)
 k_MOST_SPREAD:∃t,mg "MOST_SPREAD"=some (.int 8 t)
 k_MOST_SPAN:∃t,mg "MOST_SPAN"=some (.int 1000000000000 t)
structure MetAt (K:Fgx)(C:Addr)(x q:Str)(st:Stmt)(ps:List Str)(f:Addr)(fd:FuncData):Prop where
 M:Meth K C x f
 F:FunD K x q st f fd
 b:Binds K fd ps []
structure IniAt (K:Fgx)(C:Addr)(q:Str)(st:Stmt)(ps:List Str)(f:Addr)(fd:FuncData):Prop where
 M:Mk K C f
 F:FunD K "__init__" q st f fd
 b:Binds K fd ps []
structure MetAtD (K:Fgx)(C:Addr)(x q:Str)(st:Stmt)(ps:List Str)(dd:List D)(f:Addr)(fd:FuncData):Prop where
 M:Meth K C x f
 F:FunD K x q st f fd
 b:Binds K fd ps []
 bd:∃(dv:List V) (du:List Value),Binds K fd ps du/\Vals dv du/\(∀P H,Iss K P H dd dv)/\dv.length=dd.length
def zoZ (c:Str):Bool:=if c="NoName" then true else if c="NoText" then true else false
theorem zrP {K:Fgx}{mg:Mgx}{C:Ad}{w:World}(T:Txt K mg C w):∀c D,zoZ c=true->mg c=some (.ref D)->zf9 K D "at"=true:=by
 intro c D h m;unfold zoZ at h;split at h
 ·rename_i e;subst e;cases (T.xm_NoName).symm.trans m;exact T.xa_NoName
 split at h
 ·rename_i e;subst e;cases (T.xm_NoText).symm.trans m;exact T.xa_NoText
 cases h
def zeC (c:Str):Bool:=if c="NoExpr" then true else false
theorem zfs {K:Fgx}{mg:Mgx}{C:Ad}{w:World}(T:Txt K mg C w):∀c,zeC c=true->∃D,mg c=some (.ref D)/\xcIn K D=true/\zjP K D C.NoExpr=true:=by
 intro c h;unfold zeC at h;split at h
 ·rename_i e;subst e;exact⟨_,T.xm_NoExpr,T.xc_NoExpr,T.qk_NoExpr_NoExpr⟩
 cases h
def zir (t:String):Option Bool:=if t="int" then some false else if t="bool" then some false else if t="str" then some false else if t="list" then some true else if t="tuple" then some false else if t="NoneType" then some false else if t="dict" then some false else none
theorem zj3 {K:Fgx}:∀t b,zir t=some b->PySem.W.kitOne K (.type t) (.type "list")=some b:=by
 intro t b h;unfold zir at h;split at h
 ·rename_i e;subst e;cases h;kernel_rfl
 split at h
 ·rename_i e;subst e;cases h;kernel_rfl
 split at h
 ·rename_i e;subst e;cases h;kernel_rfl
 split at h
 ·rename_i e;subst e;cases h;kernel_rfl
 split at h
 ·rename_i e;subst e;cases h;kernel_rfl
 split at h
 ·rename_i e;subst e;cases h;kernel_rfl
 split at h
 ·rename_i e;subst e;cases h;kernel_rfl
 cases h
def isiT (t T:String):Option Bool:=if T="list" then zir t else none
theorem zqV:isiT "int" "list"=some false:=by x_go
theorem zqC:isiT "bool" "list"=some false:=by x_go
theorem zqU:isiT "str" "list"=some false:=by x_go
theorem zqG:isiT "list" "list"=some true:=by x_go
theorem zob:isiT "tuple" "list"=some false:=by x_go
theorem zlV:isiT "NoneType" "list"=some false:=by x_go
theorem zqf:isiT "dict" "list"=some false:=by x_go
theorem zpt {K:Fgx}:∀t T b,isiT t T=some b->PySem.W.kitOne K (.type t) (.type T)=some b:=by
 intro t T b h;unfold isiT at h;split at h
 ·rename_i e;subst e;exact zj3 t b h
 cases h
abbrev zcM:Stmt:=top 9
theorem zff:FnScope ["text"] ["text"] (zah zcM):=zbw
theorem zb1:LV zcM "text":=by kernel_rfl
def zdC:E:=(s2 (oCmp .notin) (sVar 0) (sCon (.str "0123456789")))
def zdk:S:=(sSeq (sIf (sOr (s2 (oCmp .eq) (sVar 0) (sCon (.str ""))) (sTru (sN bAny (zad (zeO [] (iTx (sVar 0)) (sCon (.bl true)) zdC) sNil)))) (sSeq (sRet (sCon (.bl false))) sEnd) sEnd) (sSeq (sRet (sOr (s2 (oCmp .eq) (sVar 0) (sCon (.str "0"))) (s2 (oCmp .ne) (s2 oIx (sVar 0) (sCon (.int 0))) (sCon (.str "0"))))) sEnd))
def zbD:G:=fnG 1 zdk
abbrev zaQ:Stmt:=top 10
theorem zcQ:FnScope ["text","figures"] ["text"] (zah zaQ):=zbw
theorem zaY:LV zaQ "text":=by kernel_rfl
theorem zbE:LV zaQ "figures":=by kernel_rfl
def zbr:S:=(sSeq (sAsg 1 (sIte (sTru (sMt zhW (sVar 0) (zad (sCon (.str "-")) sNil))) (sSl (sVar 0) (pAt (sCon (.int 1))) pNo) (sVar 0))) (sSeq (sRet (sAnd (s2 (oCmp .ne) (sVar 0) (sCon (.str "-0"))) (zba zbD (zad (sVar 1) sNil)))) sEnd))
def zbb:G:=fnG 2 zbr
abbrev zdE:Stmt:=top 11
theorem zgE:FnScope ["text"] ["text"] (zah zdE):=zbw
theorem zeo:LV zdE "text":=by kernel_rfl
def zeH:S:=(sSeq (sRet (sAnd (s2 (oCmp .le) (sN bLen (zad (sVar 0) sNil)) (sCon (.int 20))) (zba zbD (zad (sVar 0) sNil)))) sEnd)
def zdI:G:=fnG 1 zeH
abbrev zdb:Stmt:=top 12
theorem zf1:FnScope ["text"] ["text"] (zah zdb):=zbw
theorem zd1:LV zdb "text":=by kernel_rfl
def zdV:S:=(sSeq (sRet (sAnd (zba zbb (zad (sVar 0) sNil)) (s2 (oCmp .le) (sN bLen (zad (sMt zhZ (sVar 0) (zad (sCon (.str "-")) sNil)) sNil)) (sCon (.int 20))))) sEnd)
def zc7:G:=fnG 1 zdV
abbrev zdN:Stmt:=top 18
theorem zhx:FnScope ["word","letters"] ["word","letters"] (zah zdN):=zbw
theorem zdA:LV zdN "word":=by kernel_rfl
theorem zfJ:LV zdN "letters":=by kernel_rfl
def zfx:S:=(sSeq (sRet (sOr (zba zc7 (zad (sVar 0) sNil)) (sAnd (s2 (oCmp .isin) (sVar 0) (sCon (.tup [(.str "t"),(.str "v"),(.str "w")]))) (s2 (oCmp .isin) (sVar 0) (sVar 1))))) sEnd)
def zen:G:=fnG 2 zfx
abbrev zbf:Stmt:=top 19
theorem zeQ:FnScope ["word","kinds","needed","place"] ["word","kinds"] (zah zbf):=zbw
theorem zdl:LV zbf "word":=by kernel_rfl
theorem zdd:LV zbf "kinds":=by kernel_rfl
theorem zb6:LV zbf "needed":=by kernel_rfl
theorem ze8:LV zbf "place":=by kernel_rfl
def zc6:S:=(sSeq (sIf (sOr (sNot (sTru (sVar 1))) (s2 (oCmp .ne) (sPop (sVar 1)) (s2 oIx (sVar 2) (sCon (.int 1))))) (sSeq (zfj "NoExpr" (sFst (jVal (sVar 0) (jCon " needs other words behind it" jEnd)))) sEnd) sEnd) sEnd)
def zcW:S:=(sSeq (sAsg 2 (zjs zdO (sVar 0))) (sSeq (sFor 3 (zhh (zad (s2 oIx (sVar 2) (sCon (.int 2))) sNil)) zc6) sEnd))
def zbX:G:=fnG 4 zcW
abbrev za3:Stmt:=top 20
theorem zeV:FnScope ["words","letters","wanted","kinds","word"] ["words","letters","wanted"] (zah za3):=zbw
theorem zeY:LV za3 "words":=by kernel_rfl
theorem zep:LV za3 "letters":=by kernel_rfl
theorem zeM:LV za3 "wanted":=by kernel_rfl
theorem za8:LV za3 "kinds":=by kernel_rfl
theorem zaX:LV za3 "word":=by kernel_rfl
def zaU:S:=(sSeq (sIf (sKIn true zdO (sVar 4)) (sSeq (zhf (zfd zbX (zad (sVar 4) (zad (sVar 3) sNil)))) (sSeq (zil (sVar 3) (s2 oIx (zjs zdO (sVar 4)) (sCon (.int 0)))) sEnd)) (sSeq (sIf (sTru (zba zen (zad (sVar 4) (zad (sVar 1) sNil)))) (sSeq (zil (sVar 3) (sCon (.str "number"))) sEnd) (sSeq (zfj "NoExpr" (sFst (jRep (sVar 4) (jCon " may not stand here" jEnd)))) sEnd)) sEnd)) sEnd)
def zcT:S:=(sSeq (sAsg 3 (zhe (sLst sNil))) (sSeq (sFor 4 (iRvT (zad (sVar 0) sNil)) zaU) (sSeq (sIf (s2 (oCmp .ne) (sVar 3) (sLst (zad (sVar 2) sNil))) (sSeq (zfj "NoExpr" (sCon (.str "too many words, or too few"))) sEnd) sEnd) sEnd)))
def zbg:G:=fnG 5 zcT
abbrev zaE:Stmt:=znT (top 21) 0
theorem zd8:FnScope ["self","words"] ["self","words"] (zah zaE):=zbw
theorem zeN:LV zaE "self":=by kernel_rfl
theorem zew:LV zaE "words":=by kernel_rfl
def zcl:S:=(sSeq (zle "Expr" "parts" (sVar 0) (sN bTup (zad (sVar 1) sNil))) sEnd)
def zbP:G:=fnG 2 zcl
abbrev zcC:Stmt:=top 23
theorem zfV:FnScope ["words","letters"] ["words","letters"] (zah zcC):=zbw
theorem zdD:LV zcC "words":=by kernel_rfl
theorem ze1:LV zcC "letters":=by kernel_rfl
def zc3:S:=(sSeq (zhf (zfd zbg (zad (sVar 0) (zad (sVar 1) (zad (sCon (.str "number")) sNil))))) (sSeq (sRet (zkX "Expr" zbP (zad (sVar 0) sNil))) sEnd))
def zcd:G:=fnG 2 zc3
abbrev zaF:Stmt:=znT (top 22) 0
theorem zd9:FnScope ["self","words"] ["self","words"] (zah zaF):=zbw
theorem zeL:LV zaF "self":=by kernel_rfl
theorem zeu:LV zaF "words":=by kernel_rfl
def zcn:S:=(sSeq (zle "Cond" "parts" (sVar 0) (sN bTup (zad (sVar 1) sNil))) sEnd)
def zbI:G:=fnG 2 zcn
abbrev zdg:Stmt:=top 24
theorem zfU:FnScope ["words"] ["words"] (zah zdg):=zbw
theorem zdL:LV zdg "words":=by kernel_rfl
def zdc:S:=(sSeq (zhf (zfd zbg (zad (sVar 0) (zad (sCon (.str "tv")) (zad (sCon (.str "truth")) sNil))))) (sSeq (sRet (zkX "Cond" zbI (zad (sVar 0) sNil))) sEnd))
def zcb:G:=fnG 1 zdc
abbrev zec:Stmt:=top 32
theorem zhA:FnScope ["text"] ["text"] (zah zec):=zbw
theorem zdz:LV zec "text":=by kernel_rfl
def ze5:E:=(sOr (s2 (oCmp .isin) (sVar 0) (sCon (.str "abcdefghijklmnopqrstuvwxyz"))) (s2 (oCmp .isin) (sVar 0) (sCon (.str "0123456789"))))
def zfc:S:=(sSeq (sIf (sOr (sNot (sChn .le .le (sCon (.int 1)) (sN bLen (zad (sVar 0) sNil)) (sCon (.int 12)))) (s2 (oCmp .notin) (s2 oIx (sVar 0) (sCon (.int 0))) (sCon (.str "abcdefghijklmnopqrstuvwxyz")))) (sSeq (sRet (sCon (.bl false))) sEnd) sEnd) (sSeq (sRet (sN bAll (zad (zeO [] (iTx (sVar 0)) (sCon (.bl true)) ze5) sNil))) sEnd))
def zes:G:=fnG 1 zfc
abbrev zaR:Stmt:=top 33
theorem zdp:FnScope ["text","least","most"] ["text","least","most"] (zah zaR):=zbw
theorem zcx:LV zaR "text":=by kernel_rfl
theorem zdQ:LV zaR "least":=by kernel_rfl
theorem zeb:LV zaR "most":=by kernel_rfl
def zb0:S:=(sSeq (sRet (sAnd (zba zdI (zad (sVar 0) sNil)) (sChn .le .le (sVar 1) (sN bInt (zad (sVar 0) sNil)) (sVar 2)))) sEnd)
def zas:G:=fnG 3 zb0
abbrev zdP:Stmt:=top 34
theorem zhr:FnScope ["words","letters"] ["words","letters"] (zah zdP):=zbw
theorem zgJ:LV zdP "words":=by kernel_rfl
theorem zfI:LV zdP "letters":=by kernel_rfl
def zeZ:S:=(zhf (zfd zcd (zad (sVar 0) (zad (sVar 1) sNil))))
def zg4:S:=(sSeq (sRet (sCon (.bl false))) sEnd)
def zek:S:=(sSeq (zjd zeC zeZ zg4) (sSeq (sRet (sCon (.bl true))) sEnd))
def zcK:G:=fnG 2 zek
abbrev zeh:Stmt:=top 35
theorem zhB:FnScope ["words"] ["words"] (zah zeh):=zbw
theorem zg1:LV zeh "words":=by kernel_rfl
def ze9:S:=(zhf (zfd zcb (zad (sVar 0) sNil)))
def zgq:S:=(sSeq (sRet (sCon (.bl false))) sEnd)
def zed:S:=(sSeq (zjd zeC ze9 zgq) (sSeq (sRet (sCon (.bl true))) sEnd))
def zdJ:G:=fnG 1 zed
abbrev zbU:Stmt:=top 36
theorem zd2:FnScope ["rest"] ["rest"] (zah zbU):=zbw
theorem zbj:LV zbU "rest":=by kernel_rfl
def zcm:S:=(sSeq (sIf (sOr (s2 (oCmp .ne) (sN bLen (zad (sVar 0) sNil)) (sCon (.int 2))) (sNot (sTru (zba zas (zad (s2 oIx (sVar 0) (sCon (.int 1))) (zad (sCon (.int 1)) (zad (sCon (.int 8)) sNil))))))) (sSeq (sRet (sCon (.bl false))) sEnd) sEnd) (sSeq (sRet (zba zas (zad (s2 oIx (sVar 0) (sCon (.int 0))) (zad (sCon (.int 0)) (zad (s2 oSub (sN bInt (zad (s2 oIx (sVar 0) (sCon (.int 1))) sNil)) (sCon (.int 1))) sNil))))) sEnd))
def zbM:G:=fnG 1 zcm
abbrev zbN:Stmt:=top 37
theorem zea:FnScope ["rest"] ["rest"] (zah zbN):=zbw
theorem zb7:LV zbN "rest":=by kernel_rfl
def zcr:S:=(sSeq (sRet (sAnd (s2 (oCmp .eq) (sN bLen (zad (sVar 0) sNil)) (sCon (.int 2))) (sAnd (zba zas (zad (s2 oIx (sVar 0) (sCon (.int 0))) (zad (sCon (.int 1)) (zad (sCon (.int 1000000000000)) sNil)))) (s2 (oCmp .isin) (s2 oIx (sVar 0) (sCon (.int 1))) (sCon (.tup [(.str "sum"),(.str "count"),(.str "most"),(.str "least")])))))) sEnd)
def za7:G:=fnG 1 zcr
abbrev zbo:Stmt:=top 38
theorem zd7:FnScope ["rest","width"] ["rest"] (zah zbo):=zbw
theorem zaK:LV zbo "rest":=by kernel_rfl
theorem zbR:LV zbo "width":=by kernel_rfl
def zck:S:=(sSeq (sIf (sOr (s2 (oCmp .ne) (sN bLen (zad (sVar 0) sNil)) (sCon (.int 3))) (sNot (sTru (zba za7 (zad (sTup (zad (s2 oIx (sVar 0) (sCon (.int 0))) (zad (s2 oIx (sVar 0) (sCon (.int 2))) sNil))) sNil))))) (sSeq (sRet (sCon (.bl false))) sEnd) sEnd) (sSeq (sAsg 1 (sN bInt (zad (s2 oIx (sVar 0) (sCon (.int 0))) sNil))) (sSeq (sRet (sAnd (zba zas (zad (s2 oIx (sVar 0) (sCon (.int 1))) (zad (sCon (.int 1)) (zad (sVar 1) sNil)))) (s2 (oCmp .le) (sVar 1) (s2 oMul (sCon (.int 8)) (sN bInt (zad (s2 oIx (sVar 0) (sCon (.int 1))) sNil)))))) sEnd)))
def zbQ:G:=fnG 2 zck
abbrev zb8:Stmt:=top 39
theorem zei:FnScope ["rest"] ["rest"] (zah zb8):=zbw
theorem zce:LV zb8 "rest":=by kernel_rfl
def zcF:S:=(sSeq (sIf (sOr (s2 (oCmp .lt) (sN bLen (zad (sVar 0) sNil)) (sCon (.int 1))) (sNot (sTru (zba zas (zad (s2 oIx (sVar 0) (sCon (.int 0))) (zad (sCon (.int 0)) (zad (sCon (.int 1000000000000)) sNil))))))) (sSeq (sRet (sCon (.bl false))) sEnd) sEnd) (sSeq (sRet (zba zcK (zad (sSlT (sVar 0) (pAt (sCon (.int 1))) pNo) (zad (sCon (.str "tvw")) sNil)))) sEnd))
def zca:G:=fnG 1 zcF
abbrev zcg:Stmt:=top 40
theorem zfv:FnScope ["word","rest"] ["word","rest"] (zah zcg):=zbw
theorem za6:LV zcg "word":=by kernel_rfl
theorem zaP:LV zcg "rest":=by kernel_rfl
def zdr:S:=(sSeq (sIf (s2 (oCmp .eq) (sVar 0) (sCon (.str "keep"))) (sSeq (sRet (zba zdJ (zad (sVar 1) sNil))) sEnd) sEnd) (sSeq (sIf (s2 (oCmp .eq) (sVar 0) (sCon (.str "turn"))) (sSeq (sRet (zba zcK (zad (sVar 1) (zad (sCon (.str "tv")) sNil)))) sEnd) sEnd) (sSeq (sIf (s2 (oCmp .eq) (sVar 0) (sCon (.str "share"))) (sSeq (sRet (zba zbM (zad (sVar 1) sNil))) sEnd) sEnd) (sSeq (sIf (s2 (oCmp .eq) (sVar 0) (sCon (.str "slide"))) (sSeq (sRet (zba zbQ (zad (sVar 1) sNil))) sEnd) sEnd) (sSeq (sIf (s2 (oCmp .isin) (sVar 0) (sTup (zad (sCon (.str "fixed")) (zad (sCon (.str "gap")) sNil)))) (sSeq (sRet (zba za7 (zad (sVar 1) sNil))) sEnd) sEnd) (sSeq (sIf (s2 (oCmp .eq) (sVar 0) (sCon (.str "join"))) (sSeq (sRet (zba zca (zad (sVar 1) sNil))) sEnd) sEnd) (sSeq (sRet (s2 (oCmp .eq) (sVar 1) (sTup sNil))) sEnd)))))))
def zcI:G:=fnG 2 zdr
abbrev zey:Stmt:=top 41
theorem ziN:FnScope ["words","behind"] ["words"] (zah zey):=zbw
theorem zb9:LV zey "words":=by kernel_rfl
theorem zc5:LV zey "behind":=by kernel_rfl
def zgf:S:=(sSeq (sAsg 1 (s2 oAdd (sCon (.int 2)) (zjs zdF (s2 oIx (sVar 0) (sCon (.int 0)))))) (sSeq (sRet (sTup (zad (s2 oIx (sVar 0) (sCon (.int 0))) (zad (s2 oIx (sVar 0) (sCon (.int 1))) (zad (sN bTup (zad (sSl (sVar 0) (pAt (sCon (.int 2))) (pAt (sVar 1))) sNil)) (zad (sN bTup (zad (sSl (sVar 0) (pAt (sVar 1)) pNo) sNil)) sNil)))))) sEnd))
def zdT:G:=fnG 2 zgf
abbrev zbS:Stmt:=top 42
theorem zd3:FnScope ["row"] ["row"] (zah zbS):=zbw
theorem zbt:LV zbS "row":=by kernel_rfl
def zco:S:=(sSeq (sIf (s2 (oCmp .eq) (s2 oIx (sVar 0) (sCon (.int 0))) (sCon (.str "pour"))) (sSeq (sRet (s2 (oCmp .ge) (sN bLen (zad (s2 oIx (sVar 0) (sCon (.int 2))) sNil)) (sCon (.int 2)))) sEnd) sEnd) (sSeq (sRet (s2 (oCmp .eq) (sN bLen (zad (s2 oIx (sVar 0) (sCon (.int 2))) sNil)) (zjs zdF (s2 oIx (sVar 0) (sCon (.int 0)))))) sEnd))
def zbG:G:=fnG 1 zco
abbrev zeF:Stmt:=top 43
theorem ziJ:FnScope ["words","row"] ["words"] (zah zeF):=zbw
theorem zdx:LV zeF "words":=by kernel_rfl
theorem zci:LV zeF "row":=by kernel_rfl
def zeD:E:=(zba zes (zad (sVar 0) sNil))
def zfl:S:=(sSeq (sIf (sOr (s2 (oCmp .lt) (sN bLen (zad (sVar 0) sNil)) (sCon (.int 2))) (sKIn false zdF (s2 oIx (sVar 0) (sCon (.int 0))))) (sSeq (sRet (sCon (.bl false))) sEnd) sEnd) (sSeq (sAsg 1 (zba zdT (zad (sVar 0) sNil))) (sSeq (sIf (sOr (sNot (sTru (zba zbG (zad (sVar 1) sNil)))) (sNot (sTru (sN bAll (zad (zeO [] (iTp (s2 zk8 (sTup (zad (s2 oIx (sVar 1) (sCon (.int 1))) sNil)) (s2 oIx (sVar 1) (sCon (.int 2))))) (sCon (.bl true)) zeD) sNil))))) (sSeq (sRet (sCon (.bl false))) sEnd) sEnd) (sSeq (sRet (zba zcI (zad (s2 oIx (sVar 1) (sCon (.int 0))) (zad (s2 oIx (sVar 1) (sCon (.int 3))) sNil)))) sEnd))))
def zeJ:G:=fnG 2 zfl
abbrev zbn:Stmt:=top 44
theorem zd4:FnScope ["row","words_above"] ["row","words_above"] (zah zbn):=zbw
theorem zc4:LV zbn "row":=by kernel_rfl
theorem zdj:LC zbn "words_above":=by kernel_rfl
def zbW:E:=(s2 (oCmp .ne) (ziI (sVar 1) (sVar 0) (sCon (.str "out"))) (sCon (.str "out")))
def zcu:S:=(sSeq (sIf (sDIn true (s2 oIx (sVar 0) (sCon (.int 1))) (sVar 1)) (sSeq (sRet (sCon (.bl false))) sEnd) sEnd) (sSeq (sRet (sN bAll (zad (zeO [("words_above",1)] (iTp (s2 oIx (sVar 0) (sCon (.int 2)))) (sCon (.bl true)) zbW) sNil))) sEnd))
def zbT:G:=fnG 2 zcu
abbrev zaW:Stmt:=top 45
theorem zfn:FnScope ["text","works","words_above","at","line","words","row"] ["text"] (zah zaW):=zbw
theorem zfP:LV zaW "text":=by kernel_rfl
theorem zcj:LV zaW "works":=by kernel_rfl
theorem zbm:LV zaW "words_above":=by kernel_rfl
theorem zdi:LV zaW "at":=by kernel_rfl
theorem zdG:LV zaW "line":=by kernel_rfl
theorem zcp:LV zaW "words":=by kernel_rfl
theorem zbv:LV zaW "row":=by kernel_rfl
def zbh:S:=(sSeq (sAsg 5 (sMt zhL (sVar 4) (zad (sCon (.str " ")) sNil))) (sSeq (sIf (sNot (sTru (zba zeJ (zad (sVar 5) sNil)))) (sSeq (zgI "NoText" (sVar 3)) sEnd) sEnd) (sSeq (sAsg 6 (zba zdT (zad (sVar 5) sNil))) (sSeq (sIf (sNot (sTru (zba zbT (zad (sVar 6) (zad (sVar 2) sNil))))) (sSeq (zgI "NoName" (sVar 3)) sEnd) sEnd) (sSeq (zjo (sVar 2) (s2 oIx (sVar 6) (sCon (.int 1))) (s2 oIx (sVar 6) (sCon (.int 0)))) (sSeq (sApp 1 (sVar 6)) sEnd))))))
def zdn:S:=(sSeq (zh5 1 (sLst sNil)) (sSeq (sAsg 2 (sDct pNil)) (sSeq (zlO [3,4] (zad (sMt zhL (sVar 0) (zad (sCon (.str "\n")) sNil)) sNil) zbh) (sSeq (sCel 1) (sSeq (sRet (sVar 1)) sEnd)))))
def zbq:G:=fnG 7 zdn
abbrev zdh:Stmt:=top 46
theorem zfY:FnScope ["row"] ["row"] (zah zdh):=zbw
theorem zcs:LV zdh "row":=by kernel_rfl
def zdU:S:=(sSeq (sRet (sMt ziD (sCon (.str " ")) (zad (s2 zk8 (s2 zk8 (sTup (zad (s2 oIx (sVar 0) (sCon (.int 0))) (zad (s2 oIx (sVar 0) (sCon (.int 1))) sNil))) (s2 oIx (sVar 0) (sCon (.int 2)))) (s2 oIx (sVar 0) (sCon (.int 3)))) sNil))) sEnd)
def zdf:G:=fnG 1 zdU
abbrev zcq:Stmt:=top 47
theorem zeT:FnScope ["works"] ["works"] (zah zcq):=zbw
theorem zeX:LV zcq "works":=by kernel_rfl
def zet:E:=(zba zdf (zad (sVar 0) sNil))
def zcV:S:=(sSeq (sRet (sMt zhn (sCon (.str "\n")) (zad (zeO [] (iLst (sVar 0)) (sCon (.bl true)) zet) sNil))) sEnd)
def za2:G:=fnG 1 zcV
abbrev zc2:Stmt:=top 49
theorem zg3:FnScope ["_law_script","_law_k"] ["_law_script","_law_k"] (zah zc2):=zbw
theorem zdv:LV zc2 "_law_script":=by kernel_rfl
theorem zfD:LV zc2 "_law_k":=by kernel_rfl
def zeI:S:=(sSeq (sIf (s2 (oCmp .lt) (sVar 1) (sN bLen (zad (sVar 0) sNil))) (sSeq (sRet (s2 oIx (sVar 0) (sVar 1))) sEnd) sEnd) (sSeq (sRet (sCon (.int 0))) sEnd))
def zcZ:G:=fnG 2 zeI
abbrev zcY:Stmt:=top 51
theorem zjf:FnScope ["_law_number","_law_many","_law_found","_law_x","_law_k"] ["_law_number","_law_many"] (zah zcY):=zbw
theorem zf5:LV zcY "_law_number":=by kernel_rfl
theorem zhi:LV zcY "_law_many":=by kernel_rfl
theorem zc8:LV zcY "_law_found":=by kernel_rfl
theorem zcE:LV zcY "_law_x":=by kernel_rfl
theorem zhd:LV zcY "_law_k":=by kernel_rfl
def zeE:S:=(sSeq (sAsg 3 (s2 oMod (s2 oAdd (s2 oAdd (s2 oAdd (s2 oMul (sVar 3) (sVar 3)) (s2 oMul (sCon (.int 40692)) (sVar 3))) (s2 oMul (sCon (.int 2)) (sVar 4))) (sCon (.int 1))) (sCon (.int 2147483629)))) (sSeq (sApp 2 (s2 zdW (sVar 3) (sCon (.int 3)))) sEnd))
def zgi:S:=(sSeq (zh5 2 (sLst sNil)) (sSeq (sAsg 3 (s2 oMod (sVar 0) (sCon (.int 2147483629)))) (sSeq (sFor 4 (zhh (zad (sVar 1) sNil)) zeE) (sSeq (sFrz 2) (sSeq (sRet (sVar 2)) sEnd)))))
def zdR:G:=fnG 5 zgi
abbrev zeG:Stmt:=top 50
theorem ziX:FnScope ["_law_script","_law_first"] ["_law_script"] (zah zeG):=zbw
theorem zd6:LV zeG "_law_script":=by kernel_rfl
theorem zbO:LV zeG "_law_first":=by kernel_rfl
def zfq:S:=(sSeq (sAsg 1 (zba zcZ (zad (sVar 0) (zad (sCon (.int 0)) sNil)))) (sSeq (sIf (s2 (oCmp .eq) (s2 oMod (sVar 1) (sCon (.int 8))) (sCon (.int 1))) (sSeq (sRet (zba zdR (zad (s2 zdW (sVar 1) (sCon (.int 8))) (zad (s2 oAdd (sCon (.int 1)) (s2 oMod (s2 zdW (sVar 1) (sCon (.int 8))) (sCon (.int 40)))) sNil)))) sEnd) sEnd) (sSeq (sRet (s2 oAdd (sLst (zad (s2 zdW (sVar 1) (sCon (.int 8))) sNil)) (sSl (sVar 0) (pAt (sCon (.int 1))) (pAt (sCon (.int 12)))))) sEnd)))
def zeA:G:=fnG 2 zfq
abbrev ze2:Stmt:=top 52
theorem zkk:FnScope ["_law_x","_law_letters","_law_number"] ["_law_x","_law_letters"] (zah ze2):=zbw
theorem zdK:LV ze2 "_law_x":=by kernel_rfl
theorem zcP:LV ze2 "_law_letters":=by kernel_rfl
theorem zct:LV ze2 "_law_number":=by kernel_rfl
def zjr:S:=(sSeq (sRet (sN bStr (zad (sVar 2) sNil))) sEnd)
def zfC:S:=(sSeq (sIf (sAnd (s2 (oCmp .eq) (s2 oMod (s2 zdW (sVar 0) (sCon (.int 2))) (sCon (.int 2))) (sCon (.int 1))) (s2 (oCmp .gt) (sVar 2) (sCon (.int 0)))) (sSeq (sRet (s2 oAdd (sCon (.str "-")) (sN bStr (zad (sVar 2) sNil)))) sEnd) sEnd) zjr)
def zjb:S:=(sSeq (sAsg 2 (s2 oMod (s2 oMul (s2 oMul (s2 oMul (sVar 0) (sCon (.int 1000003))) (sCon (.int 104729))) (sCon (.int 7919))) (s2 oIx (sLst (zad (sCon (.int 10)) (zad (sCon (.int 100)) (zad (s2 oPow (sCon (.int 10)) (sCon (.int 6))) (zad (s2 oPow (sCon (.int 10)) (sCon (.int 12))) (zad (s2 oPow (sCon (.int 10)) (sCon (.int 20))) sNil)))))) (s2 oMod (s2 zdW (sVar 0) (sCon (.int 9))) (sCon (.int 5)))))) zfC)
def zgZ:S:=(sSeq (sIf (sAnd (s2 (oCmp .gt) (s2 oMod (sVar 0) (sCon (.int 3))) (sCon (.int 0))) (s2 (oCmp .ne) (sVar 1) (sCon (.str "")))) (sSeq (sRet (s2 oIx (sVar 1) (s2 oMod (s2 zdW (sVar 0) (sCon (.int 3))) (sN bLen (zad (sVar 1) sNil))))) sEnd) sEnd) zjb)
def zdZ:G:=fnG 3 zgZ
abbrev zde:Stmt:=top 53
theorem zkq:FnScope ["_law_number","_law_letters","_law_most","_law_words","_law_need","_law_x","_law_pick"] ["_law_number","_law_letters","_law_most"] (zah zde):=zbw
theorem zgV:LV zde "_law_number":=by kernel_rfl
theorem zf8:LV zde "_law_letters":=by kernel_rfl
theorem zif:LV zde "_law_most":=by kernel_rfl
theorem zby:LV zde "_law_words":=by kernel_rfl
theorem zbs:LV zde "_law_need":=by kernel_rfl
theorem zc0:LV zde "_law_x":=by kernel_rfl
theorem zcX:LV zde "_law_pick":=by kernel_rfl
def zgY:E:=(s2 (oCmp .gt) (sVar 4) (sCon (.int 0)))
def zdH:S:=(sSeq (sAsg 5 (s2 oMod (s2 oAdd (s2 oAdd (s2 oAdd (s2 oMul (sVar 5) (sVar 5)) (s2 oMul (sCon (.int 40692)) (sVar 5))) (sN bLen (zad (zje 3) sNil))) (sCon (.int 1))) (sCon (.int 2147483629)))) (sSeq (sAsg 6 (s2 zdW (sVar 5) (sCon (.int 7)))) (sSeq (sIf (sAnd (s2 (oCmp .eq) (s2 oMod (sVar 6) (sCon (.int 2))) (sCon (.int 1))) (s2 (oCmp .le) (s2 oAdd (s2 oAdd (sN bLen (zad (zje 3) sNil)) (sVar 4)) (sCon (.int 2))) (sVar 2))) (sSeq (sApp 3 (s2 oIx (sLst (zad (sCon (.str "+")) (zad (sCon (.str "-")) (zad (sCon (.str "*")) (zad (sCon (.str "least")) (zad (sCon (.str "most")) sNil)))))) (s2 oMod (s2 zdW (sVar 6) (sCon (.int 2))) (sCon (.int 5))))) (sSeq (sAsg 4 (s2 oAdd (sVar 4) (sCon (.int 1)))) sEnd)) (sSeq (sApp 3 (zba zdZ (zad (s2 zdW (sVar 6) (sCon (.int 2))) (zad (sVar 1) sNil)))) (sSeq (sAsg 4 (s2 oSub (sVar 4) (sCon (.int 1)))) sEnd))) sEnd)))
def zhT:S:=(sSeq (zh5 3 (sLst sNil)) (sSeq (sAsg 4 (sCon (.int 1))) (sSeq (sAsg 5 (s2 oMod (sVar 0) (sCon (.int 2147483629)))) (sSeq (zhI 1000 zgY zdH) (sSeq (sFrz 3) (sSeq (sRet (sVar 3)) sEnd))))))
def zfK:G:=fnG 7 zhT
abbrev zcO:Stmt:=top 54
theorem zkL:FnScope ["_law_number","_law_most","_law_words","_law_pending","_law_room","_law_x","_law_pick","_law_kind"] ["_law_number","_law_most"] (zah zcO):=zbw
theorem zgv:LV zcO "_law_number":=by kernel_rfl
theorem zhR:LV zcO "_law_most":=by kernel_rfl
theorem za5:LV zcO "_law_words":=by kernel_rfl
theorem zaB:LV zcO "_law_pending":=by kernel_rfl
theorem zaT:LV zcO "_law_room":=by kernel_rfl
theorem zc1:LV zcO "_law_x":=by kernel_rfl
theorem zbe:LV zcO "_law_pick":=by kernel_rfl
theorem zcS:LV zcO "_law_kind":=by kernel_rfl
def ziP:S:=(sSeq (sFrz 2) (sSeq (sRet (sVar 2)) sEnd))
def zbp:S:=(sSeq (sIf (sAnd (s2 (oCmp .eq) (sVar 7) (sCon (.str "cond"))) (sAnd (s2 (oCmp .ge) (sVar 4) (sCon (.int 4))) (s2 (oCmp .eq) (s2 oMod (sVar 6) (sCon (.int 4))) (sCon (.int 1))))) (sSeq (sApp 2 (s2 oIx (sLst (zad (sCon (.str "and")) (zad (sCon (.str "or")) sNil))) (s2 oMod (s2 zdW (sVar 6) (sCon (.int 4))) (sCon (.int 2))))) (sSeq (sAsg 3 (zhe (s2 oCat (sVar 3) (sLst (zad (sCon (.str "cond")) (zad (sCon (.str "cond")) sNil)))))) (sSeq (sAsg 4 (s2 oSub (sVar 4) (sCon (.int 4)))) sEnd))) (sSeq (sIf (sAnd (s2 (oCmp .eq) (sVar 7) (sCon (.str "cond"))) (sAnd (s2 (oCmp .ge) (sVar 4) (sCon (.int 1))) (s2 (oCmp .eq) (s2 oMod (sVar 6) (sCon (.int 4))) (sCon (.int 2))))) (sSeq (sApp 2 (sCon (.str "not"))) (sSeq (zil (sVar 3) (sCon (.str "cond"))) (sSeq (sAsg 4 (s2 oSub (sVar 4) (sCon (.int 1)))) sEnd))) (sSeq (sIf (s2 (oCmp .eq) (sVar 7) (sCon (.str "cond"))) (sSeq (sApp 2 (s2 oIx (sLst (zad (sCon (.str "<")) (zad (sCon (.str "=")) sNil))) (s2 oMod (s2 zdW (sVar 6) (sCon (.int 4))) (sCon (.int 2))))) (sSeq (sAsg 3 (zhe (s2 oCat (sVar 3) (sLst (zad (sCon (.str "expr")) (zad (sCon (.str "expr")) sNil)))))) sEnd)) (sSeq (sIf (sAnd (s2 (oCmp .ge) (sVar 4) (sCon (.int 2))) (s2 (oCmp .eq) (s2 oMod (sVar 6) (sCon (.int 3))) (sCon (.int 1)))) (sSeq (sApp 2 (s2 oIx (sLst (zad (sCon (.str "+")) (zad (sCon (.str "-")) (zad (sCon (.str "*")) (zad (sCon (.str "least")) (zad (sCon (.str "most")) sNil)))))) (s2 oMod (s2 zdW (sVar 6) (sCon (.int 3))) (sCon (.int 5))))) (sSeq (sAsg 3 (zhe (s2 oCat (sVar 3) (sLst (zad (sCon (.str "expr")) (zad (sCon (.str "expr")) sNil)))))) (sSeq (sAsg 4 (s2 oSub (sVar 4) (sCon (.int 2)))) sEnd))) (sSeq (sApp 2 (zba zdZ (zad (s2 zdW (sVar 6) (sCon (.int 3))) (zad (sCon (.str "tv")) sNil)))) sEnd)) sEnd)) sEnd)) sEnd)) sEnd)
def zcf:S:=(sSeq (sAsg 7 (sPop (sVar 3))) zbp)
def zf3:S:=(sSeq (sAsg 6 (s2 zdW (sVar 5) (sCon (.int 7)))) zcf)
def zgr:E:=(s2 (oCmp .ne) (sVar 3) (sLst sNil))
def zem:S:=(sSeq (sAsg 5 (s2 oMod (s2 oAdd (s2 oAdd (s2 oAdd (s2 oMul (sVar 5) (sVar 5)) (s2 oMul (sCon (.int 40692)) (sVar 5))) (sN bLen (zad (zje 2) sNil))) (sCon (.int 1))) (sCon (.int 2147483629)))) zf3)
def zjl:S:=(sSeq (zhI 1000 zgr zem) ziP)
def ziR:S:=(sSeq (sAsg 5 (s2 oMod (sVar 0) (sCon (.int 2147483629)))) zjl)
def ziA:S:=(sSeq (sAsg 4 (s2 oSub (sVar 1) (sCon (.int 3)))) ziR)
def ziQ:S:=(sSeq (sAsg 3 (zhe (sLst (zad (sCon (.str "cond")) sNil)))) ziA)
def zh0:S:=(sSeq (zh5 2 (sLst sNil)) ziQ)
def zgR:G:=fnG 8 zh0
abbrev zeg:Stmt:=top 55
theorem zkH:FnScope ["_law_x","_law_k","_law_word","_law_at"] ["_law_x","_law_k"] (zah zeg):=zbw
theorem zhD:LC zeg "_law_x":=by kernel_rfl
theorem zkU:LV zeg "_law_k":=by kernel_rfl
theorem zcR:LV zeg "_law_word":=by kernel_rfl
theorem ze4:LV zeg "_law_at":=by kernel_rfl
def zfg:E:=(s2 oIx (sCon (.str "abcdefghijklmnopqrstuvwxyz")) (s2 oMod (s2 zdW (sVar 1) (s2 oAdd (sCon (.int 3)) (s2 oMul (sCon (.int 7)) (sVar 0)))) (sCon (.int 26))))
def zim:S:=(sSeq (sAsg 2 (sMt zhn (sCon (.str "")) (zad (zeO [("_law_x",0)] (zhh (zad (s2 oAdd (sCon (.int 1)) (s2 oMod (sVar 0) (sCon (.int 10)))) sNil)) (sCon (.bl true)) zfg) sNil))) (sSeq (sAsg 3 (s2 oAdd (sCon (.int 1)) (s2 oMod (s2 zdW (sVar 0) (sCon (.int 11))) (sN bLen (zad (sVar 2) sNil))))) (sSeq (sRet (s2 oAdd (s2 oAdd (sSl (sVar 2) pNo (pAt (sVar 3))) (sN bStr (zad (sVar 1) sNil))) (sSl (sVar 2) (pAt (sVar 3)) pNo))) sEnd)))
def zgF:G:=fnG 4 zim
abbrev zdm:Stmt:=top 56
theorem zlw:FnScope ["_law_k","_law_xs","_law_above","_law_name_here","_law_pick","_law_froms","_law_fold","_law_wide","_law_width","_law_words"] ["_law_k","_law_xs","_law_above"] (zah zdm):=zbw
theorem zlL:LV zdm "_law_k":=by kernel_rfl
theorem zaH:LV zdm "_law_xs":=by kernel_rfl
theorem zib:LC zdm "_law_above":=by kernel_rfl
theorem zau:LV zdm "_law_name_here":=by kernel_rfl
theorem zaV:LV zdm "_law_pick":=by kernel_rfl
theorem zaJ:LV zdm "_law_froms":=by kernel_rfl
theorem zdq:LV zdm "_law_fold":=by kernel_rfl
theorem zbF:LV zdm "_law_wide":=by kernel_rfl
theorem zfz:LV zdm "_law_width":=by kernel_rfl
theorem zfo:LV zdm "_law_words":=by kernel_rfl
def zgm:S:=(sSeq (sRet (sTup (zad (sCon (.str "out")) (zad (sVar 3) (zad (sTup (zad (s2 oIx (sVar 5) (sCon (.int 0))) sNil)) (zad (sTup sNil) sNil)))))) sEnd)
def zfm:S:=(sSeq (sIf (s2 (oCmp .eq) (sVar 4) (sCon (.int 9))) (sSeq (sAsg 9 (zba zfK (zad (s2 oIx (sVar 1) (sCon (.int 6))) (zad (sCon (.str "tvw")) (zad (s2 oAdd (sCon (.int 1)) (s2 oMod (s2 oIx (sVar 1) (sCon (.int 7))) (sCon (.int 35)))) sNil))))) (sSeq (sRet (sTup (zad (sCon (.str "join")) (zad (sVar 3) (zad (sTup (zad (s2 oIx (sVar 5) (sCon (.int 0))) (zad (s2 oIx (sVar 5) (sCon (.int 1))) sNil))) (zad (sN bTup (zad (s2 oAdd (sLst (zad (sN bStr (zad (s2 oSub (sVar 7) (sCon (.int 1))) sNil)) sNil)) (sVar 9)) sNil)) sNil)))))) sEnd)) sEnd) zgm)
def zfi:S:=(sSeq (sIf (s2 (oCmp .eq) (sVar 4) (sCon (.int 8))) (sSeq (sRet (sTup (zad (sCon (.str "gap")) (zad (sVar 3) (zad (sTup (zad (s2 oIx (sVar 5) (sCon (.int 0))) sNil)) (zad (sTup (zad (sN bStr (zad (sVar 7) sNil)) (zad (sVar 6) sNil))) sNil)))))) sEnd) sEnd) zfm)
def zfw:S:=(sSeq (sIf (s2 (oCmp .eq) (sVar 4) (sCon (.int 7))) (sSeq (sAsg 8 (sN bMin (zad (s2 oPow (sCon (.int 10)) (sCon (.int 12))) (zad (s2 oAdd (sVar 7) (s2 oMod (s2 oMul (s2 oMul (s2 oIx (sVar 1) (sCon (.int 7))) (sCon (.int 48271))) (sCon (.int 7919))) (s2 oAdd (s2 oMul (sCon (.int 7)) (sVar 7)) (sCon (.int 1))))) sNil)))) (sSeq (sRet (sTup (zad (sCon (.str "slide")) (zad (sVar 3) (zad (sTup (zad (s2 oIx (sVar 5) (sCon (.int 0))) sNil)) (zad (sTup (zad (sN bStr (zad (sVar 8) sNil)) (zad (sN bStr (zad (sVar 7) sNil)) (zad (sVar 6) sNil)))) sNil)))))) sEnd)) sEnd) zfi)
def zfA:S:=(sSeq (sIf (s2 (oCmp .eq) (sVar 4) (sCon (.int 6))) (sSeq (sRet (sTup (zad (sCon (.str "fixed")) (zad (sVar 3) (zad (sTup (zad (s2 oIx (sVar 5) (sCon (.int 0))) sNil)) (zad (sTup (zad (sN bStr (zad (sVar 7) sNil)) (zad (sVar 6) sNil))) sNil)))))) sEnd) sEnd) zfw)
def zgd:S:=(sSeq (sIf (sOr (s2 (oCmp .eq) (sVar 4) (sCon (.int 4))) (s2 (oCmp .eq) (sVar 4) (sCon (.int 5)))) (sSeq (sRet (sTup (zad (sCon (.str "pour")) (zad (sVar 3) (zad (sN bTup (zad (sSl (sVar 5) pNo (pAt (s2 oAdd (sCon (.int 2)) (s2 oMod (s2 oIx (sVar 1) (sCon (.int 4))) (sCon (.int 7)))))) sNil)) (zad (sTup sNil) sNil)))))) sEnd) sEnd) zfA)
def zgc:S:=(sSeq (sIf (s2 (oCmp .eq) (sVar 4) (sCon (.int 3))) (sSeq (sRet (sTup (zad (sCon (.str "share")) (zad (sVar 3) (zad (sTup (zad (s2 oIx (sVar 5) (sCon (.int 0))) sNil)) (zad (sTup (zad (sN bStr (zad (s2 oMod (s2 oIx (sVar 1) (sCon (.int 5))) (s2 oAdd (sCon (.int 1)) (s2 oMod (s2 oIx (sVar 1) (sCon (.int 4))) (sCon (.int 8))))) sNil)) (zad (sN bStr (zad (s2 oAdd (sCon (.int 1)) (s2 oMod (s2 oIx (sVar 1) (sCon (.int 4))) (sCon (.int 8)))) sNil)) sNil))) sNil)))))) sEnd) sEnd) zgd)
def zgg:S:=(sSeq (sIf (s2 (oCmp .eq) (sVar 4) (sCon (.int 2))) (sSeq (sRet (sTup (zad (sCon (.str "turn")) (zad (sVar 3) (zad (sTup (zad (s2 oIx (sVar 5) (sCon (.int 0))) sNil)) (zad (sN bTup (zad (zba zfK (zad (s2 oIx (sVar 1) (sCon (.int 6))) (zad (sCon (.str "tv")) (zad (s2 oAdd (sCon (.int 1)) (s2 oMod (s2 oIx (sVar 1) (sCon (.int 7))) (sCon (.int 36)))) sNil)))) sNil)) sNil)))))) sEnd) sEnd) zgc)
def zgh:S:=(sSeq (sIf (s2 (oCmp .eq) (sVar 4) (sCon (.int 1))) (sSeq (sRet (sTup (zad (sCon (.str "keep")) (zad (sVar 3) (zad (sTup (zad (s2 oIx (sVar 5) (sCon (.int 0))) sNil)) (zad (sN bTup (zad (zba zgR (zad (s2 oIx (sVar 1) (sCon (.int 6))) (zad (s2 oAdd (sCon (.int 3)) (s2 oMod (s2 oIx (sVar 1) (sCon (.int 7))) (sCon (.int 34)))) sNil))) sNil)) sNil)))))) sEnd) sEnd) zgg)
def zku:S:=(sSeq (sAsg 7 (s2 oAdd (sCon (.int 1)) (s2 oMod (s2 oMul (s2 oMul (s2 oIx (sVar 1) (sCon (.int 5))) (sCon (.int 48271))) (sCon (.int 7919))) (s2 oIx (sLst (zad (sCon (.int 9)) (zad (s2 oPow (sCon (.int 10)) (sCon (.int 6))) (zad (s2 oPow (sCon (.int 10)) (sCon (.int 12))) sNil)))) (s2 oMod (s2 oIx (sVar 1) (sCon (.int 6))) (sCon (.int 3))))))) zgh)
def zie:S:=(sSeq (sAsg 6 (s2 oIx (sLst (zad (sCon (.str "sum")) (zad (sCon (.str "count")) (zad (sCon (.str "most")) (zad (sCon (.str "least")) sNil))))) (s2 oMod (s2 oIx (sVar 1) (sCon (.int 4))) (sCon (.int 4))))) zku)
def zge:E:=(s2 oIx (sVar 1) (s2 oMod (sVar 0) (sN bLen (zad (sVar 1) sNil))))
def zko:S:=(sSeq (sAsg 5 (zeO [("_law_above",2)] (iLst (sSl (sVar 1) (pAt (sCon (.int 2))) (pAt (sCon (.int 10))))) (sCon (.bl true)) zge)) zie)
def zgl:S:=(sSeq (sIf (sOr (s2 (oCmp .eq) (sVar 2) (sLst sNil)) (s2 (oCmp .eq) (sVar 4) (sCon (.int 0)))) (sSeq (sRet (sTup (zad (sCon (.str "in")) (zad (sVar 3) (zad (sTup sNil) (zad (sTup sNil) sNil)))))) sEnd) sEnd) zko)
def zkx:S:=(sSeq (sAsg 4 (s2 oMod (s2 oIx (sVar 1) (sCon (.int 1))) (sCon (.int 11)))) zgl)
def zky:S:=(sSeq (sAsg 3 (zba zgF (zad (s2 oIx (sVar 1) (sCon (.int 0))) (zad (sVar 0) sNil)))) zkx)
def zi2:G:=fnG 10 zky
abbrev zdY:Stmt:=top 57
theorem zj8:FnScope ["_law_cells_here","_law_rows_here","_law_above","_law_k","_law_row_here"] ["_law_cells_here"] (zah zdY):=zbw
theorem zc9:LV zdY "_law_cells_here":=by kernel_rfl
theorem zcv:LV zdY "_law_rows_here":=by kernel_rfl
theorem zdB:LV zdY "_law_above":=by kernel_rfl
theorem zez:LV zdY "_law_k":=by kernel_rfl
theorem zbY:LV zdY "_law_row_here":=by kernel_rfl
def zeq:S:=(sSeq (sAsg 4 (zba zi2 (zad (sVar 3) (zad (zba zdR (zad (s2 oAdd (s2 oIx (sVar 0) (sVar 3)) (s2 oMul (sCon (.int 31)) (sVar 3))) (zad (sCon (.int 11)) sNil))) (zad (sVar 2) sNil))))) (sSeq (sApp 1 (sVar 4)) (sSeq (sIf (s2 (oCmp .ne) (s2 oIx (sVar 4) (sCon (.int 0))) (sCon (.str "out"))) (sSeq (zil (sVar 2) (s2 oIx (sVar 4) (sCon (.int 1)))) sEnd) sEnd) sEnd)))
def zhV:S:=(sSeq (zh5 1 (sLst sNil)) (sSeq (sAsg 2 (zhe (sLst sNil))) (sSeq (sFor 3 (zhh (zad (sN bLen (zad (sVar 0) sNil)) sNil)) zeq) (sSeq (sFrz 1) (sSeq (sRet (sVar 1)) sEnd)))))
def zgQ:G:=fnG 5 zhV
abbrev zg7:Stmt:=top 58
theorem zj6:FnScope ["_law_row_here"] ["_law_row_here"] (zah zg7):=zbw
theorem zb2:LV zg7 "_law_row_here":=by kernel_rfl
def zio:S:=(sSeq (sRet (sMt zhn (sCon (.str " ")) (zad (s2 oAdd (s2 oAdd (sLst (zad (s2 oIx (sVar 0) (sCon (.int 0))) (zad (s2 oIx (sVar 0) (sCon (.int 1))) sNil))) (zfZ (s2 oIx (sVar 0) (sCon (.int 2))))) (zfZ (s2 oIx (sVar 0) (sCon (.int 3))))) sNil))) sEnd)
def zgG:G:=fnG 1 zio
abbrev zee:Stmt:=top 59
theorem zoP:FnScope ["_law_script","_law_rows_here","_law_text","_law_found","_law_beside"] ["_law_script"] (zah zee):=zbw
theorem zh8:LV zee "_law_script":=by kernel_rfl
theorem zbc:LV zee "_law_rows_here":=by kernel_rfl
theorem zcB:LV zee "_law_text":=by kernel_rfl
theorem zbH:LV zee "_law_found":=by kernel_rfl
theorem zdX:LV zee "_law_beside":=by kernel_rfl
def zmP:S:=(sSeq (sRet (sAnd (s2 (oCmp .eq) (sVar 4) (sVar 1)) (sAnd (s2 (oCmp .eq) (zba zbq (zad (sVar 2) sNil)) (sVar 1)) (s2 (oCmp .eq) (zgM za2 (zad (sVar 4) sNil)) (sVar 2))))) sEnd)
def znd:S:=(sSeq (ziS (sVar 3) (sCon (.int 0)) (sTup (zad (sCon (.str "in")) (zad (sCon (.str "y")) (zad (sTup sNil) (zad (sTup sNil) sNil)))))) zmP)
def zmY:S:=(sSeq (zil (sVar 3) (sTup (zad (sCon (.str "in")) (zad (sCon (.str "z")) (zad (sTup sNil) (zad (sTup sNil) sNil)))))) znd)
def zlA:S:=(sSeq (sAsg 4 (zba zbq (zad (sVar 2) sNil))) zmY)
def zmx:S:=(sSeq (sIf (sOr (s2 (oCmp .ne) (zgM za2 (zad (sVar 3) sNil)) (sVar 2)) (s2 (oCmp .ne) (sVar 3) (sVar 1))) (sSeq (sRet (sCon (.bl false))) sEnd) sEnd) zlA)
def zmw:S:=(sSeq (sIf (sOr (sNot (sTru (sIsi isiT "list" (sVar 3)))) (s2 (oCmp .ne) (sVar 3) (sVar 1))) (sSeq (sRet (sCon (.bl false))) sEnd) sEnd) zmx)
def zlY:S:=(sSeq (sAsg 3 (zba zbq (zad (sVar 2) sNil))) zmw)
def zmy:E:=(zba zgG (zad (sVar 0) sNil))
def zia:S:=(sSeq (sAsg 2 (sMt zhn (sCon (.str "\n")) (zad (zeO [] (iLst (sVar 1)) (sCon (.bl true)) zmy) sNil))) zlY)
def znj:S:=(sSeq (sAsg 1 (zba zgQ (zad (zba zeA (zad (sVar 0) sNil)) sNil))) zia)
def zrx:G:=fnG 5 znj
section
variable {P:Program}{w:World}{K:Fgx}{mg:Mgx}{C:Ad}{base:Heap}{k k0:Nat}{f:Addr}
theorem ziF (T:Txt K mg C w):RT P w K mg base k f ["text"] "is_figures" zcM zdk:=fun cdv A outer s H E hr=>by
 refine zbx hr fun hu=>?_;have nd:=(zff).nd;have B_any:=T.blt "any" (by x_go);obtain⟨t_FIGURES,m_FIGURES⟩:=T.k_FIGURES;refine zab ?_ ?_
 ·exact(zbi (SW.st (zf6 (zaz (zaA hu .eq) zao (se_v rfl (zb1)) (se_s zam)) (zd5 (zd0 (zbL (zn2 rfl) rfl B_any boot_any zr6 (zaa (SN.sem (ze6 "sign" [] rfl (by x_go) (zq6 (se_v rfl (zb1))) (fun _ _ _ _ _ _=>zer) (fun _ _ _ _ _ _=>(zch (zaA (X:=zbB _ _ _ _ _ _ _ _ _) hu .notin) zao (zel rfl (.inl (by kernel_rfl))) (se_s (zcD (v:=(.str "0123456789")) rfl m_FIGURES ⟨t_FIGURES,rfl⟩))))) zef) zae zcc)))))) (zab (zaq (se_b zfr)) zag) zag)
 refine zab ?_ ?_
 ·exact(zaq (zpq (zch (zaA hu .eq) zao (se_v rfl (zb1)) (se_s zam)) (zej (zch (zaA hu .ne) zao (zav zan zaw (se_v rfl (zb1)) (se_i zac)) (se_s zam)))))
 exact zag
theorem ze0 (T:Txt K mg C w)(a_is_figures:AtG P w K mg base k "is_figures" 1 zbD):RT P w K mg base k f ["text","figures"] "is_signed_figures" zaQ zbr:=fun cdv A outer s H E hr=>by
 refine zbx hr fun hu=>?_;have nd:=(zcQ).nd;refine zab ?_ ?_
 ·exact(zaD (i:=1) nd rfl (.inl zbE) (zrb (zd0 (zik PySem.F.slot_str_startswith PySem.F.type_str_startswith zlE zl4 (se_v rfl (zaY)) (zaa (se_s zam) zae zaf))) (zi8 (se_v rfl (zaY)) (zf7 (Wx:=W0) (se_i zac)) zli) (se_v rfl (zaY))))
 refine zab ?_ ?_
 ·exact(zaq (zeU (zch (zaA hu .ne) zao (se_v rfl (zaY)) (se_s zam)) (zej (zat a_is_figures hr rfl (zaa (se_v rfl (zbE)) zae zai) (cnt_cons cnt_nil)))))
 exact zag
theorem zlf (T:Txt K mg C w)(a_is_figures:AtG P w K mg base k "is_figures" 1 zbD):RT P w K mg base k f ["text"] "is_count" zdE zeH:=fun cdv A outer s H E hr=>by
 refine zbx hr fun hu=>?_;have nd:=(zgE).nd;have B_len:=T.blt "len" (by x_go);obtain⟨t_MOST_FIGURES,m_MOST_FIGURES⟩:=T.k_MOST_FIGURES;refine zab ?_ ?_
 ·exact(zaq (zeU (zch (zaA hu .le) zao (zbL zaO rfl B_len PySem.boot_len zcz (zaa (se_v rfl (zeo)) zae zai)) (se_i (zcD (v:=(.int 20)) rfl m_MOST_FIGURES ⟨t_MOST_FIGURES,rfl⟩))) (zej (zat a_is_figures hr rfl (zaa (se_v rfl (zeo)) zae zai) (cnt_cons cnt_nil)))))
 exact zag
theorem zjL (T:Txt K mg C w)(a_is_signed_figures:AtG P w K mg base k "is_signed_figures" 1 zbb):RT P w K mg base k f ["text"] "is_number" zdb zdV:=fun cdv A outer s H E hr=>by
 refine zbx hr fun hu=>?_;have nd:=(zf1).nd;have B_len:=T.blt "len" (by x_go);obtain⟨t_MOST_FIGURES,m_MOST_FIGURES⟩:=T.k_MOST_FIGURES;refine zab ?_ ?_
 ·exact(zaq (zeU (zat a_is_signed_figures hr rfl (zaa (se_v rfl (zd1)) zae zai) (cnt_cons cnt_nil)) (zej (zch (zaA hu .le) zao (zbL zaO rfl B_len PySem.boot_len zcz (zaa (zik PySem.F.slot_str_lstrip PySem.F.type_str_lstrip zl2 zmc (se_v rfl (zd1)) (zaa (se_s zam) zae zaf)) zae zbl)) (se_i (zcD (v:=(.int 20)) rfl m_MOST_FIGURES ⟨t_MOST_FIGURES,rfl⟩))))))
 exact zag
theorem zl8 (T:Txt K mg C w)(a_is_number:AtG P w K mg base k "is_number" 1 zc7):RT P w K mg base k f ["word","letters"] "is_leaf" zdN zfx:=fun cdv A outer s H E hr=>by
 refine zbx hr fun hu=>?_;have nd:=(zhx).nd;obtain⟨t_ALL_LETTERS,m_ALL_LETTERS⟩:=T.k_ALL_LETTERS;refine zab ?_ ?_
 ·exact(zaq (zpq (zat a_is_number hr rfl (zaa (se_v rfl (zdA)) zae zai) (cnt_cons cnt_nil)) (zej (zeU (zch (zaA hu .isin) zao (se_v rfl (zdA)) (zsm rfl m_ALL_LETTERS.1 m_ALL_LETTERS.2)) (zej (zch (zaA hu .isin) zao (se_v rfl (zdA)) (se_v rfl (zfJ))))))))
 exact zag
theorem zii (T:Txt K mg C w):RTX P w K mg base k f ["word","kinds","needed","place"] "take_needed" zbf zcW:=fun cdv A outer s H E Wx hr XF XP=>by
 refine zbx hr fun hu=>?_;have nd:=(zeQ).nd;have B_range:=T.blt "range" (by x_go);obtain⟨t_NEEDS,m_NEEDS⟩:=T.k_NEEDS;refine zab ?_ ?_
 ·exact(zaD (i:=2) nd rfl (.inl zb6) (zit (se_v rfl (zdl)) rfl m_NEEDS.1 m_NEEDS.2))
 refine zab ?_ ?_
 ·exact(zkF PassesOwn.leaving rfl nd rfl (.inl ze8) (zh7 rfl B_range (zaa (zav zan zaw (se_v rfl (zb6)) (se_i zac)) zae zaj)) (zab (zbi (SW.st (zf6 (zeP (zd0 (se_v rfl (zdd)))) (zd5 (zaz (zaA hu .ne) zao (zo2 (se_v rfl (zdd))) (zav zan zaw (se_v rfl (zb6)) (se_i zac)))))) (zab (zid XF rfl T.xm_NoExpr T.xc_NoExpr T.xn_NoExpr T.xk_NoExpr rfl (zo1 (zsU (se_v rfl (zdl)) (zoj zoU)))) zag) zag) zag))
 exact zag
theorem zhU (T:Txt K mg C w)(a_is_leaf:AtG P w K mg base k "is_leaf" 2 zen)(x_take_needed:AtX P w K mg base k "take_needed" 2 zbX):RTX P w K mg base k f ["words","letters","wanted","kinds","word"] "check_words" za3 zcT:=fun cdv A outer s H E Wx hr XF XP=>by
 refine zbx hr fun hu=>?_;have nd:=(zeV).nd;have B_reversed:=T.blt "reversed" (by x_go);obtain⟨t_NEEDS,m_NEEDS⟩:=T.k_NEEDS;refine zab ?_ ?_
 ·exact(zaD (i:=3) nd rfl (.inl za8) (zfR (zbA zae)))
 refine zab ?_ ?_
 ·exact(zkF PassesOwn.leaving rfl nd rfl (.inl zaX) (zsJ rfl B_reversed (zaa (se_v rfl (zeY)) zae zai)) (zab (zbi (zsR (se_v rfl (zaX)) rfl m_NEEDS.1 m_NEEDS.2) (zab (zjJ (SX.se XP (zgC x_take_needed hr rfl (zaa (se_v rfl (zaX)) (zaa (se_v rfl (za8)) zae zai) zai) (cnt_cons (cnt_cons cnt_nil))))) (zab (zg5 (se_v rfl (za8)) (zav zan zaw (zit (se_v rfl (zaX)) rfl m_NEEDS.1 m_NEEDS.2) (se_i zac))) zag)) (zab (zbi (zd0 (zat a_is_leaf hr rfl (zaa (se_v rfl (zaX)) (zaa (se_v rfl (zep)) zae zai) zai) (cnt_cons (cnt_cons cnt_nil)))) (zab (zg5 (se_v rfl (za8)) (se_s zam)) zag) (zab (zid XF rfl T.xm_NoExpr T.xc_NoExpr T.xn_NoExpr T.xk_NoExpr rfl (zo1 (zst (se_v rfl (zaX)) (zoj zoU)))) zag)) zag)) zag))
 refine zab ?_ ?_
 ·exact(zbi (zaz (zaA hu .ne) zao (se_v rfl (za8)) (SN.sem (zbA (zaa (se_v rfl (zeM)) zae zai)) lst_is)) (zab (zid XF rfl T.xm_NoExpr T.xc_NoExpr T.xn_NoExpr T.xk_NoExpr rfl (se_s zam)) zag) zag)
 exact zag
theorem zgB (T:Txt K mg C w):RT P w K mg base k f ["self","words"] "Expr.__init__" zaE zcl:=fun cdv A outer s H E hr=>by
 refine zbx hr fun hu=>?_;have nd:=(zd8).nd;have B_tuple:=T.blt "tuple" (by x_go);refine zab ?_ ?_
 ·exact(zmQ T.cl_Expr T.na_Expr_parts (se_v rfl (zeN)) (zb3 zbd rfl B_tuple boot_tuple zfW (zaa (se_v rfl (zew)) zae zai)))
 exact zag
theorem zjQ (T:Txt K mg C w)(hk0:k0 + 1=k)(a_Expr___init__:AtI P w K mg base k0 C.Expr 2 zbP)(x_check_words:AtX P w K mg base k "check_words" 3 zbg):RTX P w K mg base k f ["words","letters"] "read_expr" zcC zc3:=fun cdv A outer s H E Wx hr XF XP=>by
 refine zbx hr fun hu=>?_;have hr1:=hr;rw[<-hk0]at hr1;have nd:=(zfV).nd;refine zab ?_ ?_
 ·exact(zjJ (SX.se XP (zgC x_check_words hr rfl (zaa (se_v rfl (zdD)) (zaa (se_v rfl (ze1)) (zaa (se_s zam) zae zaf) zai) zai) (cnt_cons (cnt_cons (cnt_cons cnt_nil))))))
 refine zab ?_ ?_
 ·exact(zaq (zl3 T.cl_Expr a_Expr___init__ hr1 rfl (zaa (se_v rfl (zdD)) zae zai) (cnt_cons cnt_nil)))
 exact zag
theorem zgO (T:Txt K mg C w):RT P w K mg base k f ["self","words"] "Cond.__init__" zaF zcn:=fun cdv A outer s H E hr=>by
 refine zbx hr fun hu=>?_;have nd:=(zd9).nd;have B_tuple:=T.blt "tuple" (by x_go);refine zab ?_ ?_
 ·exact(zmQ T.cl_Cond T.na_Cond_parts (se_v rfl (zeL)) (zb3 zbd rfl B_tuple boot_tuple zfW (zaa (se_v rfl (zeu)) zae zai)))
 exact zag
theorem zjC (T:Txt K mg C w)(hk0:k0 + 1=k)(a_Cond___init__:AtI P w K mg base k0 C.Cond 2 zbI)(x_check_words:AtX P w K mg base k "check_words" 3 zbg):RTX P w K mg base k f ["words"] "read_cond" zdg zdc:=fun cdv A outer s H E Wx hr XF XP=>by
 refine zbx hr fun hu=>?_;have hr1:=hr;rw[<-hk0]at hr1;have nd:=(zfU).nd;obtain⟨t_COND_LETTERS,m_COND_LETTERS⟩:=T.k_COND_LETTERS;refine zab ?_ ?_
 ·exact(zjJ (SX.se XP (zgC x_check_words hr rfl (zaa (se_v rfl (zdL)) (zaa (se_s (zcD (v:=(.str "tv")) rfl m_COND_LETTERS ⟨t_COND_LETTERS,rfl⟩)) (zaa (se_s zam) zae zaf) zai) zai) (cnt_cons (cnt_cons (cnt_cons cnt_nil))))))
 refine zab ?_ ?_
 ·exact(zaq (zl3 T.cl_Cond a_Cond___init__ hr1 rfl (zaa (se_v rfl (zdL)) zae zai) (cnt_cons cnt_nil)))
 exact zag
theorem zlX (T:Txt K mg C w):RT P w K mg base k f ["text"] "is_name" zec zfc:=fun cdv A outer s H E hr=>by
 refine zbx hr fun hu=>?_;have nd:=(zhA).nd;have B_all:=T.blt "all" (by x_go);have B_len:=T.blt "len" (by x_go);obtain⟨t_FIGURES,m_FIGURES⟩:=T.k_FIGURES;obtain⟨t_LETTERS,m_LETTERS⟩:=T.k_LETTERS;obtain⟨t_MOST_SIGNS,m_MOST_SIGNS⟩:=T.k_MOST_SIGNS;refine zab ?_ ?_
 ·exact(zbi (SW.st (zf6 (zeP (zsL (c1:=.le) (c2:=.le) hu (se_i zac) (zbL zaO rfl B_len PySem.boot_len zcz (zaa (se_v rfl (zdz)) zae zai)) (se_i (zcD (v:=(.int 12)) rfl m_MOST_SIGNS ⟨t_MOST_SIGNS,rfl⟩)))) (zd5 (zaz (zaA hu .notin) zao (zav zan zaw (se_v rfl (zdz)) (se_i zac)) (se_s (zcD (v:=(.str "abcdefghijklmnopqrstuvwxyz")) rfl m_LETTERS ⟨t_LETTERS,rfl⟩)))))) (zab (zaq (se_b zfr)) zag) zag)
 refine zab ?_ ?_
 ·exact(zaq (zbL (zhN rfl) rfl B_all boot_all zlF (zaa (SN.sem (ze6 "sign" [] rfl (by x_go) (zq6 (se_v rfl (zdz))) (fun _ _ _ _ _ _=>zer) (fun _ _ _ _ _ _=>(zpq (zch (zaA (X:=zbB _ _ _ _ _ _ _ _ _) hu .isin) zao (zel rfl (.inl (by kernel_rfl))) (se_s (zcD (v:=(.str "abcdefghijklmnopqrstuvwxyz")) rfl m_LETTERS ⟨t_LETTERS,rfl⟩))) (zej (zch (zaA (X:=zbB _ _ _ _ _ _ _ _ _) hu .isin) zao (zel rfl (.inl (by kernel_rfl))) (se_s (zcD (v:=(.str "0123456789")) rfl m_FIGURES ⟨t_FIGURES,rfl⟩))))))) zef) zae zcc)))
 exact zag
theorem zfH (T:Txt K mg C w)(a_is_count:AtG P w K mg base k "is_count" 1 zdI):RT P w K mg base k f ["text","least","most"] "is_count_within" zaR zb0:=fun cdv A outer s H E hr=>by
 refine zbx hr fun hu=>?_;have nd:=(zdp).nd;have B_int:=T.blt "int" (by x_go);refine zab ?_ ?_
 ·exact(zaq (zeU (zat a_is_count hr rfl (zaa (se_v rfl (zcx)) zae zai) (cnt_cons cnt_nil)) (zej (ztM (c1:=.le) (c2:=.le) hu (se_v rfl (zdQ)) (zb3 zds rfl B_int boot_int zkN (zaa (se_v rfl (zcx)) zae zai)) (se_v rfl (zeb))))))
 exact zag
theorem zm4 (T:Txt K mg C w)(x_read_expr:AtX P w K mg base k "read_expr" 2 zcd):RT P w K mg base k f ["words","letters"] "is_expr" zdP zek:=fun cdv A outer s H E hr=>by
 refine zbx hr fun hu=>?_;have nd:=(zhr).nd;refine zab ?_ ?_
 ·exact(zmz rfl rfl rfl rfl T.xm_NoExpr T.xc_NoExpr (fun c h=>zfs T c h) (fun pins E'=>(zo3 (zmE (zgC x_read_expr hr rfl (zaa (se_v rfl (zgJ)) (zaa (se_v rfl (zfI)) zae zai) zai) (cnt_cons (cnt_cons cnt_nil)))))) (fun e'=>(zab (zaq (se_b zfr)) zag)))
 refine zab ?_ ?_
 ·exact(zaq (se_b zfr))
 exact zag
theorem zlv (T:Txt K mg C w)(x_read_cond:AtX P w K mg base k "read_cond" 1 zcb):RT P w K mg base k f ["words"] "is_cond" zeh zed:=fun cdv A outer s H E hr=>by
 refine zbx hr fun hu=>?_;have nd:=(zhB).nd;refine zab ?_ ?_
 ·exact(zmz rfl rfl rfl rfl T.xm_NoExpr T.xc_NoExpr (fun c h=>zfs T c h) (fun pins E'=>(zo3 (zmE (zgC x_read_cond hr rfl (zaa (se_v rfl (zg1)) zae zai) (cnt_cons cnt_nil))))) (fun e'=>(zab (zaq (se_b zfr)) zag)))
 refine zab ?_ ?_
 ·exact(zaq (se_b zfr))
 exact zag
theorem zha (T:Txt K mg C w)(a_is_count_within:AtG P w K mg base k "is_count_within" 3 zas):RT P w K mg base k f ["rest"] "is_share_rest" zbU zcm:=fun cdv A outer s H E hr=>by
 refine zbx hr fun hu=>?_;have nd:=(zd2).nd;have B_int:=T.blt "int" (by x_go);have B_len:=T.blt "len" (by x_go);obtain⟨t_MOST_SHARES,m_MOST_SHARES⟩:=T.k_MOST_SHARES;refine zab ?_ ?_
 ·exact(zbi (SW.st (zf6 (zaz (zaA hu .ne) zao (zbL zaO rfl B_len PySem.boot_len zcz (zaa (se_v rfl (zbj)) zae zai)) (se_i zac)) (zd5 (zeP (zd0 (zat a_is_count_within hr rfl (zaa (zav zan zaw (se_v rfl (zbj)) (se_i zac)) (zaa (se_i zac) (zaa (se_i (zcD (v:=(.int 8)) rfl m_MOST_SHARES ⟨t_MOST_SHARES,rfl⟩)) zae zai) zaf) zaj) (cnt_cons (cnt_cons (cnt_cons cnt_nil))))))))) (zab (zaq (se_b zfr)) zag) zag)
 refine zab ?_ ?_
 ·exact(zaq (zat a_is_count_within hr rfl (zaa (zav zan zaw (se_v rfl (zbj)) (se_i zac)) (zaa (se_i zac) (zaa (zal zgS zgs (zb3 zds rfl B_int boot_int zkN (zaa (zav zan zaw (se_v rfl (zbj)) (se_i zac)) zae zaj)) (se_i zac)) zae zaI) zaf) zaj) (cnt_cons (cnt_cons (cnt_cons cnt_nil)))))
 exact zag
theorem zg6 (T:Txt K mg C w)(a_is_count_within:AtG P w K mg base k "is_count_within" 3 zas):RT P w K mg base k f ["rest"] "is_width_rest" zbN zcr:=fun cdv A outer s H E hr=>by
 refine zbx hr fun hu=>?_;have nd:=(zea).nd;have B_len:=T.blt "len" (by x_go);obtain⟨t_FOLDS,m_FOLDS⟩:=T.k_FOLDS;obtain⟨t_MOST_SPAN,m_MOST_SPAN⟩:=T.k_MOST_SPAN;refine zab ?_ ?_
 ·exact(zaq (zeU (zch (zaA hu .eq) zao (zbL zaO rfl B_len PySem.boot_len zcz (zaa (se_v rfl (zb7)) zae zai)) (se_i zac)) (zeU (zat a_is_count_within hr rfl (zaa (zav zan zaw (se_v rfl (zb7)) (se_i zac)) (zaa (se_i zac) (zaa (se_i (zcD (v:=(.int 1000000000000)) rfl m_MOST_SPAN ⟨t_MOST_SPAN,rfl⟩)) zae zai) zaf) zaj) (cnt_cons (cnt_cons (cnt_cons cnt_nil)))) (zej (zch (zaA hu .isin) zao (zav zan zaw (se_v rfl (zb7)) (se_i zac)) (zsm rfl m_FOLDS.1 m_FOLDS.2))))))
 exact zag
theorem zgN (T:Txt K mg C w)(a_is_count_within:AtG P w K mg base k "is_count_within" 3 zas)(a_is_width_rest:AtG P w K mg base k "is_width_rest" 1 za7):RT P w K mg base k f ["rest","width"] "is_slide_rest" zbo zck:=fun cdv A outer s H E hr=>by
 refine zbx hr fun hu=>?_;have nd:=(zd7).nd;have B_int:=T.blt "int" (by x_go);have B_len:=T.blt "len" (by x_go);obtain⟨t_MOST_SPREAD,m_MOST_SPREAD⟩:=T.k_MOST_SPREAD;refine zab ?_ ?_
 ·exact(zbi (SW.st (zf6 (zaz (zaA hu .ne) zao (zbL zaO rfl B_len PySem.boot_len zcz (zaa (se_v rfl (zaK)) zae zai)) (se_i zac)) (zd5 (zeP (zd0 (zat a_is_width_rest hr rfl (zaa (zaL (zaa (zav zan zaw (se_v rfl (zaK)) (se_i zac)) (zaa (zav zan zaw (se_v rfl (zaK)) (se_i zac)) zae zaj) zaj)) zae zaS) (cnt_cons cnt_nil))))))) (zab (zaq (se_b zfr)) zag) zag)
 refine zab ?_ ?_
 ·exact(zaD (i:=1) nd rfl (.inl zbR) (zb3 zds rfl B_int boot_int zkN (zaa (zav zan zaw (se_v rfl (zaK)) (se_i zac)) zae zaj)))
 refine zab ?_ ?_
 ·exact(zaq (zeU (zat a_is_count_within hr rfl (zaa (zav zan zaw (se_v rfl (zaK)) (se_i zac)) (zaa (se_i zac) (zaa (se_v rfl (zbR)) zae zai) zaf) zaj) (cnt_cons (cnt_cons (cnt_cons cnt_nil)))) (zej (zch (zaA hu .le) zao (se_v rfl (zbR)) (zal zbz zcw (se_i (zcD (v:=(.int 8)) rfl m_MOST_SPREAD ⟨t_MOST_SPREAD,rfl⟩)) (zb3 zds rfl B_int boot_int zkN (zaa (zav zan zaw (se_v rfl (zaK)) (se_i zac)) zae zaj)))))))
 exact zag
theorem zhj (T:Txt K mg C w)(a_is_count_within:AtG P w K mg base k "is_count_within" 3 zas)(a_is_expr:AtG P w K mg base k "is_expr" 2 zcK):RT P w K mg base k f ["rest"] "is_join_rest" zb8 zcF:=fun cdv A outer s H E hr=>by
 refine zbx hr fun hu=>?_;have nd:=(zei).nd;have B_len:=T.blt "len" (by x_go);obtain⟨t_MOST_SPAN,m_MOST_SPAN⟩:=T.k_MOST_SPAN;refine zab ?_ ?_
 ·exact(zbi (SW.st (zf6 (zaz (zaA hu .lt) zao (zbL zaO rfl B_len PySem.boot_len zcz (zaa (se_v rfl (zce)) zae zai)) (se_i zac)) (zd5 (zeP (zd0 (zat a_is_count_within hr rfl (zaa (zav zan zaw (se_v rfl (zce)) (se_i zac)) (zaa (se_i zac) (zaa (se_i (zcD (v:=(.int 1000000000000)) rfl m_MOST_SPAN ⟨t_MOST_SPAN,rfl⟩)) zae zai) zaf) zaj) (cnt_cons (cnt_cons (cnt_cons cnt_nil))))))))) (zab (zaq (se_b zfr)) zag) zag)
 refine zab ?_ ?_
 ·exact(zaq (zat a_is_expr hr rfl (zaa (zsY (se_v rfl (zce)) (zf7 (Wx:=W0) (se_i zac)) zli) (zaa (se_s zam) zae zaf) zaj) (cnt_cons (cnt_cons cnt_nil))))
 exact zag
theorem ziH (T:Txt K mg C w)(a_is_expr:AtG P w K mg base k "is_expr" 2 zcK)(a_is_cond:AtG P w K mg base k "is_cond" 1 zdJ)(a_is_share_rest:AtG P w K mg base k "is_share_rest" 1 zbM)(a_is_width_rest:AtG P w K mg base k "is_width_rest" 1 za7)(a_is_slide_rest:AtG P w K mg base k "is_slide_rest" 1 zbQ)(a_is_join_rest:AtG P w K mg base k "is_join_rest" 1 zca):RT P w K mg base k f ["word","rest"] "is_rest_of" zcg zdr:=fun cdv A outer s H E hr=>by
 refine zbx hr fun hu=>?_;have nd:=(zfv).nd;refine zab ?_ ?_
 ·exact(zbi (zaz (zaA hu .eq) zao (se_v rfl (za6)) (se_s zam)) (zab (zaq (zat a_is_cond hr rfl (zaa (se_v rfl (zaP)) zae zai) (cnt_cons cnt_nil))) zag) zag)
 refine zab ?_ ?_
 ·exact(zbi (zaz (zaA hu .eq) zao (se_v rfl (za6)) (se_s zam)) (zab (zaq (zat a_is_expr hr rfl (zaa (se_v rfl (zaP)) (zaa (se_s zam) zae zaf) zai) (cnt_cons (cnt_cons cnt_nil)))) zag) zag)
 refine zab ?_ ?_
 ·exact(zbi (zaz (zaA hu .eq) zao (se_v rfl (za6)) (se_s zam)) (zab (zaq (zat a_is_share_rest hr rfl (zaa (se_v rfl (zaP)) zae zai) (cnt_cons cnt_nil))) zag) zag)
 refine zab ?_ ?_
 ·exact(zbi (zaz (zaA hu .eq) zao (se_v rfl (za6)) (se_s zam)) (zab (zaq (zat a_is_slide_rest hr rfl (zaa (se_v rfl (zaP)) zae zai) (cnt_cons cnt_nil))) zag) zag)
 refine zab ?_ ?_
 ·exact(zbi (zaz (zaA hu .isin) zao (se_v rfl (za6)) (zaL (zaa (se_s zam) (zaa (se_s zam) zae zaf) zaf))) (zab (zaq (zat a_is_width_rest hr rfl (zaa (se_v rfl (zaP)) zae zai) (cnt_cons cnt_nil))) zag) zag)
 refine zab ?_ ?_
 ·exact(zbi (zaz (zaA hu .eq) zao (se_v rfl (za6)) (se_s zam)) (zab (zaq (zat a_is_join_rest hr rfl (zaa (se_v rfl (zaP)) zae zai) (cnt_cons cnt_nil))) zag) zag)
 refine zab ?_ ?_
 ·exact(zaq (zch (zaA hu .eq) zao (se_v rfl (zaP)) (zaL zae)))
 exact zag
theorem znt (T:Txt K mg C w):RT P w K mg base k f ["words","behind"] "row_of" zey zgf:=fun cdv A outer s H E hr=>by
 refine zbx hr fun hu=>?_;have nd:=(ziN).nd;have B_tuple:=T.blt "tuple" (by x_go);obtain⟨t_FROMS,m_FROMS⟩:=T.k_FROMS;refine zab ?_ ?_
 ·exact(zaD (i:=1) nd rfl (.inl zc5) (zal zaC zaZ (se_i zac) (zit (zav zan zaw (se_v rfl (zb9)) (se_i zac)) rfl m_FROMS.1 m_FROMS.2)))
 refine zab ?_ ?_
 ·exact(zaq (zaL (zaa (zav zan zaw (se_v rfl (zb9)) (se_i zac)) (zaa (zav zan zaw (se_v rfl (zb9)) (se_i zac)) (zaa (zb3 zbd rfl B_tuple boot_tuple zfW (zaa (zi8 (se_v rfl (zb9)) (zf7 (Wx:=W0) (se_i zac)) (zf7 (Wx:=W0) (se_v rfl (zc5)))) zae zaj)) (zaa (zb3 zbd rfl B_tuple boot_tuple zfW (zaa (zi8 (se_v rfl (zb9)) (zf7 (Wx:=W0) (se_v rfl (zc5))) zli) zae zaj)) zae zbl) zbl) zaj) zaj)))
 exact zag
theorem zgx (T:Txt K mg C w):RT P w K mg base k f ["row"] "has_its_froms" zbS zco:=fun cdv A outer s H E hr=>by
 refine zbx hr fun hu=>?_;have nd:=(zd3).nd;have B_len:=T.blt "len" (by x_go);obtain⟨t_FROMS,m_FROMS⟩:=T.k_FROMS;refine zab ?_ ?_
 ·exact(zbi (zaz (zaA hu .eq) zao (zav zan zaw (se_v rfl (zbt)) (se_i zac)) (se_s zam)) (zab (zaq (zch (zaA hu .ge) zao (zbL zaO rfl B_len PySem.boot_len zcz (zaa (zav zan zaw (se_v rfl (zbt)) (se_i zac)) zae zaj)) (se_i zac))) zag) zag)
 refine zab ?_ ?_
 ·exact(zaq (zch (zaA hu .eq) zao (zbL zaO rfl B_len PySem.boot_len zcz (zaa (zav zan zaw (se_v rfl (zbt)) (se_i zac)) zae zaj)) (zit (zav zan zaw (se_v rfl (zbt)) (se_i zac)) rfl m_FROMS.1 m_FROMS.2)))
 exact zag
theorem znJ (T:Txt K mg C w)(a_is_name:AtG P w K mg base k "is_name" 1 zes)(a_is_rest_of:AtG P w K mg base k "is_rest_of" 2 zcI)(a_row_of:AtG P w K mg base k "row_of" 1 zdT)(a_has_its_froms:AtG P w K mg base k "has_its_froms" 1 zbG):RT P w K mg base k f ["words","row"] "is_row" zeF zfl:=fun cdv A outer s H E hr=>by
 refine zbx hr fun hu=>?_;have nd:=(ziJ).nd;have B_all:=T.blt "all" (by x_go);have B_len:=T.blt "len" (by x_go);obtain⟨t_FROMS,m_FROMS⟩:=T.k_FROMS;refine zab ?_ ?_
 ·exact(zbi (SW.st (zf6 (zaz (zaA hu .lt) zao (zbL zaO rfl B_len PySem.boot_len zcz (zaa (se_v rfl (zdx)) zae zai)) (se_i zac)) (zd5 (zm1 (zav zan zaw (se_v rfl (zdx)) (se_i zac)) rfl m_FROMS.1 m_FROMS.2)))) (zab (zaq (se_b zfr)) zag) zag)
 refine zab ?_ ?_
 ·exact(zaD (i:=1) nd rfl (.inl zci) (zat a_row_of hr rfl (zaa (se_v rfl (zdx)) zae zai) (cnt_cons cnt_nil)))
 refine zab ?_ ?_
 ·exact(zbi (SW.st (zf6 (zeP (zd0 (zat a_has_its_froms hr rfl (zaa (se_v rfl (zci)) zae zai) (cnt_cons cnt_nil)))) (zd5 (zeP (zd0 (zbL (zhN rfl) rfl B_all boot_all zlF (zaa (SN.sem (ze6 "name" [] rfl (by x_go) (zrq (zal zjY zj4 (zaL (zaa (zav zan zaw (se_v rfl (zci)) (se_i zac)) zae zaj)) (zav zan zaw (se_v rfl (zci)) (se_i zac)))) (fun _ _ _ _ _ _=>zer) (fun _ _ _ _ _ _=>(zat a_is_name hr rfl (zaa (zel rfl (.inl (by kernel_rfl))) zae zai) (cnt_cons cnt_nil)))) zef) zae zcc))))))) (zab (zaq (se_b zfr)) zag) zag)
 refine zab ?_ ?_
 ·exact(zaq (zat a_is_rest_of hr rfl (zaa (zav zan zaw (se_v rfl (zci)) (se_i zac)) (zaa (zav zan zaw (se_v rfl (zci)) (se_i zac)) zae zaj) zaj) (cnt_cons (cnt_cons cnt_nil))))
 exact zag
theorem zg2 (T:Txt K mg C w):RT P w K mg base k f ["row","words_above"] "has_its_names" zbn zcu:=fun cdv A outer s H E hr=>by
 refine zbx hr fun hu=>?_;have nd:=(zd4).nd;have B_all:=T.blt "all" (by x_go);refine zab ?_ ?_
 ·exact(zbi (zs9 hu (zav zan zaw (se_v rfl (zc4)) (se_i zac)) (zel rfl (.inr (.inl zdj)))) (zab (zaq (se_b zfr)) zag) zag)
 refine zab ?_ ?_
 ·exact(zaq (zbL (zhN rfl) rfl B_all boot_all zlF (zaa (SN.sem (ze6 "name" [("words_above",1)] rfl (by x_go) (zrq (zav zan zaw (se_v rfl (zc4)) (se_i zac))) (fun _ _ _ _ _ _=>zer) (fun _ _ _ _ _ _=>(zch (zaA (X:=zbB _ _ _ _ _ _ _ _ _) hu .ne) zao (zno hu (zel rfl (.inr (.inl (by kernel_rfl)))) (zel rfl (.inl (by kernel_rfl))) (se_s zam)) (se_s zam)))) zef) zae zcc)))
 exact zag
theorem ziZ (T:Txt K mg C w)(hR:2<=k)(a_row_of:AtG P w K mg base k "row_of" 1 zdT)(a_is_row:AtG P w K mg base k "is_row" 1 zeJ)(a_has_its_names:AtG P w K mg base k "has_its_names" 2 zbT):RTX P w K mg base k f ["text","works","words_above","at","line","words","row"] "read_works" zaW zdn:=fun cdv A outer s H E Wx hr XF XP=>by
 refine zbx hr fun hu=>?_;have nd:=(zfn).nd;have B_enumerate:=T.blt "enumerate" (by x_go);obtain⟨fI_NoName,fdI_NoName,xi_NoName,FI_NoName,bI_NoName⟩:=T.o_NoName;have FO_NoName:=zoK (P:=P) (w:=w) (mg:=mg) (base:=base) (k:=0) FI_NoName zhk T.xm_DamError T.xb_DamError (by x_go);obtain⟨fI_NoText,fdI_NoText,xi_NoText,FI_NoText,bI_NoText⟩:=T.o_NoText;have FO_NoText:=zoK (P:=P) (w:=w) (mg:=mg) (base:=base) (k:=0) FI_NoText zhm T.xm_DamError T.xb_DamError (by x_go);refine zab ?_ ?_
 ·exact(zgu (i:=1) nd rfl (.inl zcj) (zbA zae))
 refine zab ?_ ?_
 ·exact(zaD (i:=2) nd rfl (.inl zbm) zql)
 refine zab ?_ ?_
 ·exact(zpS PassesOwn.leaving rfl (znc (i:=3) nd rfl (.inl zdi) (znc (i:=4) nd rfl (.inl zdG) zsW)) rfl B_enumerate (zaa (zik PySem.F.slot_str_split PySem.F.type_str_split zkz zke (se_v rfl (zfP)) (zaa (se_s zam) zae zaf)) zae zbl) (zab (zaD (i:=5) nd rfl (.inl zcp) (zik PySem.F.slot_str_split PySem.F.type_str_split zkz zke (se_v rfl (zdG)) (zaa (se_s zam) zae zaf))) (zab (zbi (zeP (zd0 (zat a_is_row hr rfl (zaa (se_v rfl (zcp)) zae zai) (cnt_cons cnt_nil)))) (zab (zji XF rfl T.xm_NoText T.xc_NoText xi_NoText T.xa_NoText T.xk_NoText FO_NoText (hr.mono hR) bI_NoText rfl (se_v rfl (zdi))) zag) zag) (zab (zaD (i:=6) nd rfl (.inl zbv) (zat a_row_of hr rfl (zaa (se_v rfl (zcp)) zae zai) (cnt_cons cnt_nil))) (zab (zbi (zeP (zd0 (zat a_has_its_names hr rfl (zaa (se_v rfl (zbv)) (zaa (se_v rfl (zbm)) zae zai) zai) (cnt_cons (cnt_cons cnt_nil))))) (zab (zji XF rfl T.xm_NoName T.xc_NoName xi_NoName T.xa_NoName T.xk_NoName FO_NoName (hr.mono hR) bI_NoName rfl (se_v rfl (zdi))) zag) zag) (zab (zpJ hu (se_v rfl (zbm)) (zav zan zaw (se_v rfl (zbv)) (se_i zac)) (zav zan zaw (se_v rfl (zbv)) (se_i zac))) (zab (zeW rfl (.inl zcj) (se_v rfl (zbv))) zag)))))))
 refine zsE ?_;refine zab ?_ ?_
 ·exact(zaq (se_v rfl (zcj)))
 exact zag
theorem zjB (T:Txt K mg C w):RT P w K mg base k f ["row"] "shown_row" zdh zdU:=fun cdv A outer s H E hr=>by
 refine zbx hr fun hu=>?_;have nd:=(zfY).nd;refine zab ?_ ?_
 ·exact(zaq (zik PySem.F.slot_str_join PySem.F.type_str_join zns znS (se_s zam) (zaa (zal zjY zj4 (zal zjY zj4 (zaL (zaa (zav zan zaw (se_v rfl (zcs)) (se_i zac)) (zaa (zav zan zaw (se_v rfl (zcs)) (se_i zac)) zae zaj) zaj)) (zav zan zaw (se_v rfl (zcs)) (se_i zac))) (zav zan zaw (se_v rfl (zcs)) (se_i zac))) zae zaI)))
 exact zag
theorem zhP (T:Txt K mg C w)(a_shown_row:AtG P w K mg base k "shown_row" 1 zdf):RT P w K mg base k f ["works"] "shown_works" zcq zcV:=fun cdv A outer s H E hr=>by
 refine zbx hr fun hu=>?_;have nd:=(zeT).nd;refine zab ?_ ?_
 ·exact(zaq (zik PySem.F.slot_str_join PySem.F.type_str_join zhY zic (se_s zam) (zaa (SN.sem (ze6 "row" [] rfl (by x_go) (zmf (se_v rfl (zeX))) (fun _ _ _ _ _ _=>zer) (fun _ _ _ _ _ _=>(zat a_shown_row hr rfl (zaa (zel rfl (.inl (by kernel_rfl))) zae zai) (cnt_cons cnt_nil)))) zef) zae zcc)))
 exact zag
theorem zk5 (T:Txt K mg C w):RT P w K mg base k f ["_law_script","_law_k"] "_law_cell_at" zc2 zeI:=fun cdv A outer s H E hr=>by
 refine zbx hr fun hu=>?_;have nd:=(zg3).nd;have B_len:=T.blt "len" (by x_go);refine zab ?_ ?_
 ·exact(zbi (zaz (zaA hu .lt) zao (se_v rfl (zfD)) (zbL zaO rfl B_len PySem.boot_len zcz (zaa (se_v rfl (zdv)) zae zai))) (zab (zaq (zav zan zaw (se_v rfl (zdv)) (se_v rfl (zfD)))) zag) zag)
 refine zab ?_ ?_
 ·exact(zaq (se_i zac))
 exact zag
theorem zn5 (T:Txt K mg C w):RT P w K mg base k f ["_law_number","_law_many","_law_found","_law_x","_law_k"] "_law_drawn" zcY zgi:=fun cdv A outer s H E hr=>by
 refine zbx hr fun hu=>?_;have nd:=(zjf).nd;have B_range:=T.blt "range" (by x_go);refine zab ?_ ?_
 ·exact(zgu (i:=2) nd rfl (.inl zc8) (zbA zae))
 refine zab ?_ ?_
 ·exact(zaD (i:=3) nd rfl (.inl zcE) (zal zaM zaN (se_v rfl (zf5)) (se_i zac)))
 refine zab ?_ ?_
 ·exact(zkF PassesOwn.never rfl nd rfl (.inl zhd) (zh7 rfl B_range (zaa (se_v rfl (zhi)) zae zai)) (zab (zaD (i:=3) nd rfl (.inl zcE) (zal zaM zaN (zal zaC zaZ (zal zaC zaZ (zal zaC zaZ (zal zbz zcw (se_v rfl (zcE)) (se_v rfl (zcE))) (zal zbz zcw (se_i zac) (se_v rfl (zcE)))) (zal zbz zcw (se_i zac) (se_v rfl (zhd)))) (se_i zac)) (se_i zac))) (zab (zeW rfl (.inl zc8) (zal zbJ zbK (se_v rfl (zcE)) (se_i zac))) zag)))
 refine zj7 ?_;refine zab ?_ ?_
 ·exact(zaq (se_v rfl (zc8)))
 exact zag
theorem zn3 (T:Txt K mg C w)(a__cell_at:AtG P w K mg base k "_law_cell_at" 2 zcZ)(a__drawn:AtG P w K mg base k "_law_drawn" 2 zdR):RT P w K mg base k f ["_law_script","_law_first"] "_law_cells" zeG zfq:=fun cdv A outer s H E hr=>by
 refine zbx hr fun hu=>?_;have nd:=(ziX).nd;refine zab ?_ ?_
 ·exact(zaD (i:=1) nd rfl (.inl zbO) (zat a__cell_at hr rfl (zaa (se_v rfl (zd6)) (zaa (se_i zac) zae zaf) zai) (cnt_cons (cnt_cons cnt_nil))))
 refine zab ?_ ?_
 ·exact(zbi (zaz (zaA hu .eq) zao (zal zaM zaN (se_v rfl (zbO)) (se_i zac)) (se_i zac)) (zab (zaq (zat a__drawn hr rfl (zaa (zal zbJ zbK (se_v rfl (zbO)) (se_i zac)) (zaa (zal zaC zaZ (se_i zac) (zal zaM zaN (zal zbJ zbK (se_v rfl (zbO)) (se_i zac)) (se_i zac))) zae zaI) zaI) (cnt_cons (cnt_cons cnt_nil)))) zag) zag)
 refine zab ?_ ?_
 ·exact(zaq (zal zaC zaZ (SN.sem (zbA (zaa (zal zbJ zbK (se_v rfl (zbO)) (se_i zac)) zae zaI)) lst_is) (zi8 (se_v rfl (zd6)) (zf7 (Wx:=W0) (se_i zac)) (zf7 (Wx:=W0) (se_i zac)))))
 exact zag
theorem zpx (T:Txt K mg C w):RT P w K mg base k f ["_law_x","_law_letters","_law_number"] "_law_leaf" ze2 zgZ:=fun cdv A outer s H E hr=>by
 refine zbx hr fun hu=>?_;have nd:=(zkk).nd;have B_len:=T.blt "len" (by x_go);have B_str:=T.blt "str" (by x_go);refine zab ?_ ?_
 ·exact(zbi (SW.st (zf2 (zaz (zaA hu .gt) zao (zal zaM zaN (se_v rfl (zdK)) (se_i zac)) (se_i zac)) (zfN (zaz (zaA hu .ne) zao (se_v rfl (zcP)) (se_s zam))))) (zab (zaq (zav zan zaw (se_v rfl (zcP)) (zal zaM zaN (zal zbJ zbK (se_v rfl (zdK)) (se_i zac)) (zbL zaO rfl B_len PySem.boot_len zcz (zaa (se_v rfl (zcP)) zae zai))))) zag) zag)
 refine zab ?_ ?_
 ·exact(zaD (i:=2) nd rfl (.inl zct) (zal zaM zaN (zal zbz zcw (zal zbz zcw (zal zbz zcw (se_v rfl (zdK)) (se_i zac)) (se_i zac)) (se_i zac)) (zav zan zaw (SN.sem (zbA (zaa (se_i zac) (zaa (se_i zac) (zaa (zal zhF zhv (se_i zac) (se_i zac)) (zaa (zal zhF zhv (se_i zac) (se_i zac)) (zaa (zal zhF zhv (se_i zac) (se_i zac)) zae zaI) zaI) zaI) zaf) zaf)) lst_is) (zal zaM zaN (zal zbJ zbK (se_v rfl (zdK)) (se_i zac)) (se_i zac)))))
 refine zab ?_ ?_
 ·exact(zbi (SW.st (zf2 (zaz (zaA hu .eq) zao (zal zaM zaN (zal zbJ zbK (se_v rfl (zdK)) (se_i zac)) (se_i zac)) (se_i zac)) (zfN (zaz (zaA hu .gt) zao (se_v rfl (zct)) (se_i zac))))) (zab (zaq (zal zaC zaZ (se_s zam) (zb3 za4 rfl B_str boot_str zeS (zaa (se_v rfl (zct)) zae zai)))) zag) zag)
 refine zab ?_ ?_
 ·exact(zaq (zb3 za4 rfl B_str boot_str zeS (zaa (se_v rfl (zct)) zae zai)))
 exact zag
theorem zqo (T:Txt K mg C w)(a__leaf:AtG P w K mg base k "_law_leaf" 2 zdZ):RT P w K mg base k f ["_law_number","_law_letters","_law_most","_law_words","_law_need","_law_x","_law_pick"] "_law_expr" zde zhT:=fun cdv A outer s H E hr=>by
 refine zbx hr fun hu=>?_;have nd:=(zkq).nd;have B_len:=T.blt "len" (by x_go);refine zab ?_ ?_
 ·exact(zgu (i:=3) nd rfl (.inl zby) (zbA zae))
 refine zab ?_ ?_
 ·exact(zaD (i:=4) nd rfl (.inl zbs) (se_i zac))
 refine zab ?_ ?_
 ·exact(zaD (i:=5) nd rfl (.inl zc0) (zal zaM zaN (se_v rfl (zgV)) (se_i zac)))
 refine zab ?_ ?_
 ·exact(zkw 1000 PassesOwn.never (zaz (zaA hu .gt) zao (se_v rfl (zbs)) (se_i zac)) (zab (zaD (i:=5) nd rfl (.inl zc0) (zal zaM zaN (zal zaC zaZ (zal zaC zaZ (zal zaC zaZ (zal zbz zcw (se_v rfl (zc0)) (se_v rfl (zc0))) (zal zbz zcw (se_i zac) (se_v rfl (zc0)))) (zbL zaO rfl B_len PySem.boot_len zcz (zaa (zo8 rfl (zby)) zae zai))) (se_i zac)) (se_i zac))) (zab (zaD (i:=6) nd rfl (.inl zcX) (zal zbJ zbK (se_v rfl (zc0)) (se_i zac))) (zab (zbi (SW.st (zf2 (zaz (zaA hu .eq) zao (zal zaM zaN (se_v rfl (zcX)) (se_i zac)) (se_i zac)) (zfN (zaz (zaA hu .le) zao (zal zaC zaZ (zal zaC zaZ (zbL zaO rfl B_len PySem.boot_len zcz (zaa (zo8 rfl (zby)) zae zai)) (se_v rfl (zbs))) (se_i zac)) (se_v rfl (zif)))))) (zab (zeW rfl (.inl zby) (zav zan zaw (SN.sem (zbA (zaa (se_s zam) (zaa (se_s zam) (zaa (se_s zam) (zaa (se_s zam) (zaa (se_s zam) zae zaf) zaf) zaf) zaf) zaf)) lst_is) (zal zaM zaN (zal zbJ zbK (se_v rfl (zcX)) (se_i zac)) (se_i zac)))) (zab (zaD (i:=4) nd rfl (.inl zbs) (zal zaC zaZ (se_v rfl (zbs)) (se_i zac))) zag)) (zab (zeW rfl (.inl zby) (zat a__leaf hr rfl (zaa (zal zbJ zbK (se_v rfl (zcX)) (se_i zac)) (zaa (se_v rfl (zf8)) zae zai) zaI) (cnt_cons (cnt_cons cnt_nil)))) (zab (zaD (i:=4) nd rfl (.inl zbs) (zal zgS zgs (se_v rfl (zbs)) (se_i zac))) zag))) zag))))
 refine zj7 ?_;refine zab ?_ ?_
 ·exact(zaq (se_v rfl (zby)))
 exact zag
theorem zpn (T:Txt K mg C w)(a__leaf:AtG P w K mg base k "_law_leaf" 2 zdZ):RT P w K mg base k f ["_law_number","_law_most","_law_words","_law_pending","_law_room","_law_x","_law_pick","_law_kind"] "_law_cond" zcO zh0:=fun cdv A outer s H E hr=>by
  refine zbx hr fun hu=>?_;have nd:=(zkL).nd;have B_len:=T.blt "len" (by x_go);refine zab ?_ ?_
  · refine zgu (i:=2) ?_ ?_ ?_ ?_
    · exact nd
    · exact rfl
    · exact(.inl za5)
    · refine zbA ?_
      · exact zae
  refine zab ?_ ?_
  · refine zaD (i:=3) ?_ ?_ ?_ ?_
    · exact nd
    · exact rfl
    · exact(.inl zaB)
    · refine zfR ?_
      · refine zbA ?_
        · refine zaa ?_ ?_ ?_
          · refine se_s ?_
            · exact zam
          · exact zae
          · exact zaf
  refine zab ?_ ?_
  · refine zaD (i:=4) ?_ ?_ ?_ ?_
    · exact nd
    · exact rfl
    · exact(.inl zaT)
    · refine zal zgS zgs ?_ ?_
      · refine se_v ?_ ?_
        · exact rfl
        · exact zhR
      · refine se_i ?_
        · exact zac
  refine zab ?_ ?_
  · refine zaD (i:=5) ?_ ?_ ?_ ?_
    · exact nd
    · exact rfl
    · exact(.inl zc1)
    · refine zal zaM zaN ?_ ?_
      · refine se_v ?_ ?_
        · exact rfl
        · exact zgv
      · refine se_i ?_
        · exact zac
  refine zab ?_ ?_
  · refine zkw 1000 PassesOwn.never ?_ ?_
    · refine zaz (zaA hu .ne) zao ?_ ?_
      · refine se_v ?_ ?_
        · exact rfl
        · exact zaB
      · refine SN.sem ?_ ?_
        · refine zbA ?_
          · exact zae
        · exact lst_is
    · refine zab ?_ ?_
      · refine zaD (i:=5) ?_ ?_ ?_ ?_
        · exact nd
        · exact rfl
        · exact(.inl zc1)
        · refine zal zaM zaN ?_ ?_
          · refine zal zaC zaZ ?_ ?_
            · refine zal zaC zaZ ?_ ?_
              · refine zal zaC zaZ ?_ ?_
                · refine zal zbz zcw ?_ ?_
                  · refine se_v ?_ ?_
                    · exact rfl
                    · exact zc1
                  · refine se_v ?_ ?_
                    · exact rfl
                    · exact zc1
                · refine zal zbz zcw ?_ ?_
                  · refine se_i ?_
                    · exact zac
                  · refine se_v ?_ ?_
                    · exact rfl
                    · exact zc1
              · refine zbL zaO rfl B_len PySem.boot_len zcz ?_
                · refine zaa ?_ ?_ ?_
                  · refine zo8 ?_ ?_
                    · exact rfl
                    · exact za5
                  · exact zae
                  · exact zai
            · refine se_i ?_
              · exact zac
          · refine se_i ?_
            · exact zac
      · refine zab ?_ ?_
        · refine zaD (i:=6) ?_ ?_ ?_ ?_
          · exact nd
          · exact rfl
          · exact(.inl zbe)
          · refine zal zbJ zbK ?_ ?_
            · refine se_v ?_ ?_
              · exact rfl
              · exact zc1
            · refine se_i ?_
              · exact zac
        · refine zab ?_ ?_
          · refine zaD (i:=7) ?_ ?_ ?_ ?_
            · exact nd
            · exact rfl
            · exact(.inl zcS)
            · refine zo2 ?_
              · refine se_v ?_ ?_
                · exact rfl
                · exact zaB
          · refine zab ?_ ?_
            · refine zbi ?_ ?_ ?_
              · refine SW.st ?_
                · refine zf2 ?_ ?_
                  · refine zaz (zaA hu .eq) zao ?_ ?_
                    · refine se_v ?_ ?_
                      · exact rfl
                      · exact zcS
                    · refine se_s ?_
                      · exact zam
                  · refine zf2 ?_ ?_
                    · refine zaz (zaA hu .ge) zao ?_ ?_
                      · refine se_v ?_ ?_
                        · exact rfl
                        · exact zaT
                      · refine se_i ?_
                        · exact zac
                    · refine zfN ?_
                      · refine zaz (zaA hu .eq) zao ?_ ?_
                        · refine zal zaM zaN ?_ ?_
                          · refine se_v ?_ ?_
                            · exact rfl
                            · exact zbe
                          · refine se_i ?_
                            · exact zac
                        · refine se_i ?_
                          · exact zac
              · refine zab ?_ ?_
                · refine zeW ?_ ?_ ?_
                  · exact rfl
                  · exact(.inl za5)
                  · refine zav zan zaw ?_ ?_
                    · refine SN.sem ?_ ?_
                      · refine zbA ?_
                        · refine zaa ?_ ?_ ?_
                          · refine se_s ?_
                            · exact zam
                          · refine zaa ?_ ?_ ?_
                            · refine se_s ?_
                              · exact zam
                            · exact zae
                            · exact zaf
                          · exact zaf
                      · exact lst_is
                    · refine zal zaM zaN ?_ ?_
                      · refine zal zbJ zbK ?_ ?_
                        · refine se_v ?_ ?_
                          · exact rfl
                          · exact zbe
                        · refine se_i ?_
                          · exact zac
                      · refine se_i ?_
                        · exact zac
                · refine zab ?_ ?_
                  · refine zaD (i:=3) ?_ ?_ ?_ ?_
                    · exact nd
                    · exact rfl
                    · exact(.inl zaB)
                    · refine zfR ?_
                      · refine znf ?_ ?_
                        · refine se_v ?_ ?_
                          · exact rfl
                          · exact zaB
                        · refine SN.sem ?_ ?_
                          · refine zbA ?_
                            · refine zaa ?_ ?_ ?_
                              · refine se_s ?_
                                · exact zam
                              · refine zaa ?_ ?_ ?_
                                · refine se_s ?_
                                  · exact zam
                                · exact zae
                                · exact zaf
                              · exact zaf
                          · exact lst_is
                  · refine zab ?_ ?_
                    · refine zaD (i:=4) ?_ ?_ ?_ ?_
                      · exact nd
                      · exact rfl
                      · exact(.inl zaT)
                      · refine zal zgS zgs ?_ ?_
                        · refine se_v ?_ ?_
                          · exact rfl
                          · exact zaT
                        · refine se_i ?_
                          · exact zac
                    · exact zag
              · refine zab ?_ ?_
                · refine zbi ?_ ?_ ?_
                  · refine SW.st ?_
                    · refine zf2 ?_ ?_
                      · refine zaz (zaA hu .eq) zao ?_ ?_
                        · refine se_v ?_ ?_
                          · exact rfl
                          · exact zcS
                        · refine se_s ?_
                          · exact zam
                      · refine zf2 ?_ ?_
                        · refine zaz (zaA hu .ge) zao ?_ ?_
                          · refine se_v ?_ ?_
                            · exact rfl
                            · exact zaT
                          · refine se_i ?_
                            · exact zac
                        · refine zfN ?_
                          · refine zaz (zaA hu .eq) zao ?_ ?_
                            · refine zal zaM zaN ?_ ?_
                              · refine se_v ?_ ?_
                                · exact rfl
                                · exact zbe
                              · refine se_i ?_
                                · exact zac
                            · refine se_i ?_
                              · exact zac
                  · refine zab ?_ ?_
                    · refine zeW ?_ ?_ ?_
                      · exact rfl
                      · exact(.inl za5)
                      · refine se_s ?_
                        · exact zam
                    · refine zab ?_ ?_
                      · refine zg5 ?_ ?_
                        · refine se_v ?_ ?_
                          · exact rfl
                          · exact zaB
                        · refine se_s ?_
                          · exact zam
                      · refine zab ?_ ?_
                        · refine zaD (i:=4) ?_ ?_ ?_ ?_
                          · exact nd
                          · exact rfl
                          · exact(.inl zaT)
                          · refine zal zgS zgs ?_ ?_
                            · refine se_v ?_ ?_
                              · exact rfl
                              · exact zaT
                            · refine se_i ?_
                              · exact zac
                        · exact zag
                  · refine zab ?_ ?_
                    · refine zbi ?_ ?_ ?_
                      · refine zaz (zaA hu .eq) zao ?_ ?_
                        · refine se_v ?_ ?_
                          · exact rfl
                          · exact zcS
                        · refine se_s ?_
                          · exact zam
                      · refine zab ?_ ?_
                        · refine zeW ?_ ?_ ?_
                          · exact rfl
                          · exact(.inl za5)
                          · refine zav zan zaw ?_ ?_
                            · refine SN.sem ?_ ?_
                              · refine zbA ?_
                                · refine zaa ?_ ?_ ?_
                                  · refine se_s ?_
                                    · exact zam
                                  · refine zaa ?_ ?_ ?_
                                    · refine se_s ?_
                                      · exact zam
                                    · exact zae
                                    · exact zaf
                                  · exact zaf
                              · exact lst_is
                            · refine zal zaM zaN ?_ ?_
                              · refine zal zbJ zbK ?_ ?_
                                · refine se_v ?_ ?_
                                  · exact rfl
                                  · exact zbe
                                · refine se_i ?_
                                  · exact zac
                              · refine se_i ?_
                                · exact zac
                        · refine zab ?_ ?_
                          · refine zaD (i:=3) ?_ ?_ ?_ ?_
                            · exact nd
                            · exact rfl
                            · exact(.inl zaB)
                            · refine zfR ?_
                              · refine znf ?_ ?_
                                · refine se_v ?_ ?_
                                  · exact rfl
                                  · exact zaB
                                · refine SN.sem ?_ ?_
                                  · refine zbA ?_
                                    · refine zaa ?_ ?_ ?_
                                      · refine se_s ?_
                                        · exact zam
                                      · refine zaa ?_ ?_ ?_
                                        · refine se_s ?_
                                          · exact zam
                                        · exact zae
                                        · exact zaf
                                      · exact zaf
                                  · exact lst_is
                          · exact zag
                      · refine zab ?_ ?_
                        · refine zbi ?_ ?_ ?_
                          · refine SW.st ?_
                            · refine zf2 ?_ ?_
                              · refine zaz (zaA hu .ge) zao ?_ ?_
                                · refine se_v ?_ ?_
                                  · exact rfl
                                  · exact zaT
                                · refine se_i ?_
                                  · exact zac
                              · refine zfN ?_
                                · refine zaz (zaA hu .eq) zao ?_ ?_
                                  · refine zal zaM zaN ?_ ?_
                                    · refine se_v ?_ ?_
                                      · exact rfl
                                      · exact zbe
                                    · refine se_i ?_
                                      · exact zac
                                  · refine se_i ?_
                                    · exact zac
                          · refine zab ?_ ?_
                            · refine zeW ?_ ?_ ?_
                              · exact rfl
                              · exact(.inl za5)
                              · refine zav zan zaw ?_ ?_
                                · refine SN.sem ?_ ?_
                                  · refine zbA ?_
                                    · refine zaa ?_ ?_ ?_
                                      · refine se_s ?_
                                        · exact zam
                                      · refine zaa ?_ ?_ ?_
                                        · refine se_s ?_
                                          · exact zam
                                        · refine zaa ?_ ?_ ?_
                                          · refine se_s ?_
                                            · exact zam
                                          · refine zaa ?_ ?_ ?_
                                            · refine se_s ?_
                                              · exact zam
                                            · refine zaa ?_ ?_ ?_
                                              · refine se_s ?_
                                                · exact zam
                                              · exact zae
                                              · exact zaf
                                            · exact zaf
                                          · exact zaf
                                        · exact zaf
                                      · exact zaf
                                  · exact lst_is
                                · refine zal zaM zaN ?_ ?_
                                  · refine zal zbJ zbK ?_ ?_
                                    · refine se_v ?_ ?_
                                      · exact rfl
                                      · exact zbe
                                    · refine se_i ?_
                                      · exact zac
                                  · refine se_i ?_
                                    · exact zac
                            · refine zab ?_ ?_
                              · refine zaD (i:=3) ?_ ?_ ?_ ?_
                                · exact nd
                                · exact rfl
                                · exact(.inl zaB)
                                · refine zfR ?_
                                  · refine znf ?_ ?_
                                    · refine se_v ?_ ?_
                                      · exact rfl
                                      · exact zaB
                                    · refine SN.sem ?_ ?_
                                      · refine zbA ?_
                                        · refine zaa ?_ ?_ ?_
                                          · refine se_s ?_
                                            · exact zam
                                          · refine zaa ?_ ?_ ?_
                                            · refine se_s ?_
                                              · exact zam
                                            · exact zae
                                            · exact zaf
                                          · exact zaf
                                      · exact lst_is
                              · refine zab ?_ ?_
                                · refine zaD (i:=4) ?_ ?_ ?_ ?_
                                  · exact nd
                                  · exact rfl
                                  · exact(.inl zaT)
                                  · refine zal zgS zgs ?_ ?_
                                    · refine se_v ?_ ?_
                                      · exact rfl
                                      · exact zaT
                                    · refine se_i ?_
                                      · exact zac
                                · exact zag
                          · refine zab ?_ ?_
                            · refine zeW ?_ ?_ ?_
                              · exact rfl
                              · exact(.inl za5)
                              · refine zat a__leaf hr rfl ?_ ?_
                                · refine zaa ?_ ?_ ?_
                                  · refine zal zbJ zbK ?_ ?_
                                    · refine se_v ?_ ?_
                                      · exact rfl
                                      · exact zbe
                                    · refine se_i ?_
                                      · exact zac
                                  · refine zaa ?_ ?_ ?_
                                    · refine se_s ?_
                                      · exact zam
                                    · exact zae
                                    · exact zaf
                                  · exact zaI
                                · refine cnt_cons ?_
                                  · refine cnt_cons ?_
                                    · exact cnt_nil
                            · exact zag
                        · exact zag
                    · exact zag
                · exact zag
            · exact zag
  refine zj7 ?_;refine zab ?_ ?_
  · refine zaq ?_
    · refine se_v ?_ ?_
      · exact rfl
      · exact za5
  exact zag
theorem zqa (T:Txt K mg C w):RT P w K mg base k f ["_law_x","_law_k","_law_word","_law_at"] "_law_name" zeg zim:=fun cdv A outer s H E hr=>by
 refine zbx hr fun hu=>?_;have nd:=(zkH).nd;have B_len:=T.blt "len" (by x_go);have B_range:=T.blt "range" (by x_go);have B_str:=T.blt "str" (by x_go);refine zab ?_ ?_
 ·exact(zaD (i:=2) nd rfl (.inl zcR) (zik PySem.F.slot_str_join PySem.F.type_str_join zhY zic (se_s zam) (zaa (SN.sem (ze6 "_law_j" [("_law_x",0)] rfl (by x_go) (zh7 rfl B_range (zaa (zal zaC zaZ (se_i zac) (zal zaM zaN (zel rfl (.inr (.inl zhD))) (se_i zac))) zae zaI)) (fun _ _ _ _ _ _=>zer) (fun _ _ _ _ _ _=>(zav zan zaw (se_s zam) (zal zaM zaN (zal zbJ zbK (zel rfl (.inr (.inl (by kernel_rfl)))) (zal zaC zaZ (se_i zac) (zal zbz zcw (se_i zac) (zel rfl (.inl (by kernel_rfl)))))) (se_i zac))))) zef) zae zcc)))
 refine zab ?_ ?_
 ·exact(zaD (i:=3) nd rfl (.inl ze4) (zal zaC zaZ (se_i zac) (zal zaM zaN (zal zbJ zbK (zel rfl (.inr (.inl zhD))) (se_i zac)) (zbL zaO rfl B_len PySem.boot_len zcz (zaa (se_v rfl (zcR)) zae zai)))))
 refine zab ?_ ?_
 ·exact(zaq (zal zaC zaZ (zal zaC zaZ (zi8 (se_v rfl (zcR)) zli (zf7 (Wx:=W0) (se_v rfl (ze4)))) (zb3 za4 rfl B_str boot_str zeS (zaa (se_v rfl (zkU)) zae zai))) (zi8 (se_v rfl (zcR)) (zf7 (Wx:=W0) (se_v rfl (ze4))) zli)))
 exact zag
theorem ztC (T:Txt K mg C w)(a__expr:AtG P w K mg base k "_law_expr" 3 zfK)(a__cond:AtG P w K mg base k "_law_cond" 2 zgR)(a__name:AtG P w K mg base k "_law_name" 2 zgF):RT P w K mg base k f ["_law_k","_law_xs","_law_above","_law_name_here","_law_pick","_law_froms","_law_fold","_law_wide","_law_width","_law_words"] "_law_row" zdm zky:=fun cdv A outer s H E hr=>by
 refine zbx hr fun hu=>?_;have nd:=(zlw).nd;have B_len:=T.blt "len" (by x_go);have B_min:=T.blt "min" (by x_go);have B_str:=T.blt "str" (by x_go);have B_tuple:=T.blt "tuple" (by x_go);refine zab ?_ ?_
 ·exact(zaD (i:=3) nd rfl (.inl zau) (zat a__name hr rfl (zaa (zav zan zaw (se_v rfl (zaH)) (se_i zac)) (zaa (se_v rfl (zlL)) zae zai) zaj) (cnt_cons (cnt_cons cnt_nil))))
 refine zab ?_ ?_
 ·exact(zaD (i:=4) nd rfl (.inl zaV) (zal zaM zaN (zav zan zaw (se_v rfl (zaH)) (se_i zac)) (se_i zac)))
 refine zab ?_ ?_
 ·exact(zbi (SW.st (zf6 (zaz (zaA hu .eq) zao (zel rfl (.inr (.inl zib))) (SN.sem (zbA zae) lst_is)) (zd5 (zaz (zaA hu .eq) zao (se_v rfl (zaV)) (se_i zac))))) (zab (zaq (zaL (zaa (se_s zam) (zaa (se_v rfl (zau)) (zaa (zaL zae) (zaa (zaL zae) zae zaS) zaS) zai) zaf))) zag) zag)
 refine zab ?_ ?_
 ·exact(zpC "_law_x" [("_law_above",2)] (i:=5) nd rfl (.inl zaJ) rfl (by x_go) (zmf (zi8 (se_v rfl (zaH)) (zf7 (Wx:=W0) (se_i zac)) (zf7 (Wx:=W0) (se_i zac)))) (fun _ _ _ _ _ _=>zer) (fun _ _ _ _ _ _=>(zav zan zaw (zel rfl (.inr (.inl (by kernel_rfl)))) (zal zaM zaN (zel rfl (.inl (by kernel_rfl))) (zbL zaO rfl B_len PySem.boot_len zcz (zaa (zel rfl (.inr (.inl (by kernel_rfl)))) zae zai))))))
 refine zab ?_ ?_
 ·exact(zaD (i:=6) nd rfl (.inl zdq) (zav zan zaw (SN.sem (zbA (zaa (se_s zam) (zaa (se_s zam) (zaa (se_s zam) (zaa (se_s zam) zae zaf) zaf) zaf) zaf)) lst_is) (zal zaM zaN (zav zan zaw (se_v rfl (zaH)) (se_i zac)) (se_i zac))))
 refine zab ?_ ?_
 ·exact(zaD (i:=7) nd rfl (.inl zbF) (zal zaC zaZ (se_i zac) (zal zaM zaN (zal zbz zcw (zal zbz zcw (zav zan zaw (se_v rfl (zaH)) (se_i zac)) (se_i zac)) (se_i zac)) (zav zan zaw (SN.sem (zbA (zaa (se_i zac) (zaa (zal zhF zhv (se_i zac) (se_i zac)) (zaa (zal zhF zhv (se_i zac) (se_i zac)) zae zaI) zaI) zaf)) lst_is) (zal zaM zaN (zav zan zaw (se_v rfl (zaH)) (se_i zac)) (se_i zac))))))
 refine zab ?_ ?_
 ·exact(zbi (zaz (zaA hu .eq) zao (se_v rfl (zaV)) (se_i zac)) (zab (zaq (zaL (zaa (se_s zam) (zaa (se_v rfl (zau)) (zaa (zaL (zaa (zav zan zaw (se_v rfl (zaJ)) (se_i zac)) zae zaj)) (zaa (zb3 zbd rfl B_tuple boot_tuple zfW (zaa (zat a__cond hr rfl (zaa (zav zan zaw (se_v rfl (zaH)) (se_i zac)) (zaa (zal zaC zaZ (se_i zac) (zal zaM zaN (zav zan zaw (se_v rfl (zaH)) (se_i zac)) (se_i zac))) zae zaI) zaj) (cnt_cons (cnt_cons cnt_nil))) zae zbl)) zae zbl) zaS) zai) zaf))) zag) zag)
 refine zab ?_ ?_
 ·exact(zbi (zaz (zaA hu .eq) zao (se_v rfl (zaV)) (se_i zac)) (zab (zaq (zaL (zaa (se_s zam) (zaa (se_v rfl (zau)) (zaa (zaL (zaa (zav zan zaw (se_v rfl (zaJ)) (se_i zac)) zae zaj)) (zaa (zb3 zbd rfl B_tuple boot_tuple zfW (zaa (zat a__expr hr rfl (zaa (zav zan zaw (se_v rfl (zaH)) (se_i zac)) (zaa (se_s zam) (zaa (zal zaC zaZ (se_i zac) (zal zaM zaN (zav zan zaw (se_v rfl (zaH)) (se_i zac)) (se_i zac))) zae zaI) zaf) zaj) (cnt_cons (cnt_cons (cnt_cons cnt_nil)))) zae zbl)) zae zbl) zaS) zai) zaf))) zag) zag)
 refine zab ?_ ?_
 ·exact(zbi (zaz (zaA hu .eq) zao (se_v rfl (zaV)) (se_i zac)) (zab (zaq (zaL (zaa (se_s zam) (zaa (se_v rfl (zau)) (zaa (zaL (zaa (zav zan zaw (se_v rfl (zaJ)) (se_i zac)) zae zaj)) (zaa (zaL (zaa (zb3 za4 rfl B_str boot_str zeS (zaa (zal zaM zaN (zav zan zaw (se_v rfl (zaH)) (se_i zac)) (zal zaC zaZ (se_i zac) (zal zaM zaN (zav zan zaw (se_v rfl (zaH)) (se_i zac)) (se_i zac)))) zae zaI)) (zaa (zb3 za4 rfl B_str boot_str zeS (zaa (zal zaC zaZ (se_i zac) (zal zaM zaN (zav zan zaw (se_v rfl (zaH)) (se_i zac)) (se_i zac))) zae zaI)) zae zbl) zbl)) zae zaS) zaS) zai) zaf))) zag) zag)
 refine zab ?_ ?_
 ·exact(zbi (SW.st (zf6 (zaz (zaA hu .eq) zao (se_v rfl (zaV)) (se_i zac)) (zd5 (zaz (zaA hu .eq) zao (se_v rfl (zaV)) (se_i zac))))) (zab (zaq (zaL (zaa (se_s zam) (zaa (se_v rfl (zau)) (zaa (zb3 zbd rfl B_tuple boot_tuple zfW (zaa (zi8 (se_v rfl (zaJ)) zli (zf7 (Wx:=W0) (zal zaC zaZ (se_i zac) (zal zaM zaN (zav zan zaw (se_v rfl (zaH)) (se_i zac)) (se_i zac))))) zae zaj)) (zaa (zaL zae) zae zaS) zbl) zai) zaf))) zag) zag)
 refine zab ?_ ?_
 ·exact(zbi (zaz (zaA hu .eq) zao (se_v rfl (zaV)) (se_i zac)) (zab (zaq (zaL (zaa (se_s zam) (zaa (se_v rfl (zau)) (zaa (zaL (zaa (zav zan zaw (se_v rfl (zaJ)) (se_i zac)) zae zaj)) (zaa (zaL (zaa (zb3 za4 rfl B_str boot_str zeS (zaa (se_v rfl (zbF)) zae zai)) (zaa (se_v rfl (zdq)) zae zai) zbl)) zae zaS) zaS) zai) zaf))) zag) zag)
 refine zab ?_ ?_
 ·exact(zbi (zaz (zaA hu .eq) zao (se_v rfl (zaV)) (se_i zac)) (zab (zaD (i:=8) nd rfl (.inl zfz) (zbL (zlr rfl) rfl B_min boot_min zrL (zaa (zal zhF zhv (se_i zac) (se_i zac)) (zaa (zal zaC zaZ (se_v rfl (zbF)) (zal zaM zaN (zal zbz zcw (zal zbz zcw (zav zan zaw (se_v rfl (zaH)) (se_i zac)) (se_i zac)) (se_i zac)) (zal zaC zaZ (zal zbz zcw (se_i zac) (se_v rfl (zbF))) (se_i zac)))) zae zaI) zaI))) (zab (zaq (zaL (zaa (se_s zam) (zaa (se_v rfl (zau)) (zaa (zaL (zaa (zav zan zaw (se_v rfl (zaJ)) (se_i zac)) zae zaj)) (zaa (zaL (zaa (zb3 za4 rfl B_str boot_str zeS (zaa (se_v rfl (zfz)) zae zai)) (zaa (zb3 za4 rfl B_str boot_str zeS (zaa (se_v rfl (zbF)) zae zai)) (zaa (se_v rfl (zdq)) zae zai) zbl) zbl)) zae zaS) zaS) zai) zaf))) zag)) zag)
 refine zab ?_ ?_
 ·exact(zbi (zaz (zaA hu .eq) zao (se_v rfl (zaV)) (se_i zac)) (zab (zaq (zaL (zaa (se_s zam) (zaa (se_v rfl (zau)) (zaa (zaL (zaa (zav zan zaw (se_v rfl (zaJ)) (se_i zac)) zae zaj)) (zaa (zaL (zaa (zb3 za4 rfl B_str boot_str zeS (zaa (se_v rfl (zbF)) zae zai)) (zaa (se_v rfl (zdq)) zae zai) zbl)) zae zaS) zaS) zai) zaf))) zag) zag)
 refine zab ?_ ?_
 ·exact(zbi (zaz (zaA hu .eq) zao (se_v rfl (zaV)) (se_i zac)) (zab (zaD (i:=9) nd rfl (.inl zfo) (zat a__expr hr rfl (zaa (zav zan zaw (se_v rfl (zaH)) (se_i zac)) (zaa (se_s zam) (zaa (zal zaC zaZ (se_i zac) (zal zaM zaN (zav zan zaw (se_v rfl (zaH)) (se_i zac)) (se_i zac))) zae zaI) zaf) zaj) (cnt_cons (cnt_cons (cnt_cons cnt_nil))))) (zab (zaq (zaL (zaa (se_s zam) (zaa (se_v rfl (zau)) (zaa (zaL (zaa (zav zan zaw (se_v rfl (zaJ)) (se_i zac)) (zaa (zav zan zaw (se_v rfl (zaJ)) (se_i zac)) zae zaj) zaj)) (zaa (zb3 zbd rfl B_tuple boot_tuple zfW (zaa (zal zaC zaZ (SN.sem (zbA (zaa (zb3 za4 rfl B_str boot_str zeS (zaa (zal zgS zgs (se_v rfl (zbF)) (se_i zac)) zae zaI)) zae zbl)) lst_is) (se_v rfl (zfo))) zae zaI)) zae zbl) zaS) zai) zaf))) zag)) zag)
 refine zab ?_ ?_
 ·exact(zaq (zaL (zaa (se_s zam) (zaa (se_v rfl (zau)) (zaa (zaL (zaa (zav zan zaw (se_v rfl (zaJ)) (se_i zac)) zae zaj)) (zaa (zaL zae) zae zaS) zaS) zai) zaf)))
 exact zag
theorem zpK (T:Txt K mg C w)(a__drawn:AtG P w K mg base k "_law_drawn" 2 zdR)(a__row:AtG P w K mg base k "_law_row" 3 zi2):RT P w K mg base k f ["_law_cells_here","_law_rows_here","_law_above","_law_k","_law_row_here"] "_law_rows" zdY zhV:=fun cdv A outer s H E hr=>by
 refine zbx hr fun hu=>?_;have nd:=(zj8).nd;have B_len:=T.blt "len" (by x_go);have B_range:=T.blt "range" (by x_go);refine zab ?_ ?_
 ·exact(zgu (i:=1) nd rfl (.inl zcv) (zbA zae))
 refine zab ?_ ?_
 ·exact(zaD (i:=2) nd rfl (.inl zdB) (zfR (zbA zae)))
 refine zab ?_ ?_
 ·exact(zkF PassesOwn.never rfl nd rfl (.inl zez) (zh7 rfl B_range (zaa (zbL zaO rfl B_len PySem.boot_len zcz (zaa (se_v rfl (zc9)) zae zai)) zae zbl)) (zab (zaD (i:=4) nd rfl (.inl zbY) (zat a__row hr rfl (zaa (se_v rfl (zez)) (zaa (zat a__drawn hr rfl (zaa (zal zaC zaZ (zav zan zaw (se_v rfl (zc9)) (se_v rfl (zez))) (zal zbz zcw (se_i zac) (se_v rfl (zez)))) (zaa (se_i zac) zae zaf) zaI) (cnt_cons (cnt_cons cnt_nil))) (zaa (se_v rfl (zdB)) zae zai) zbl) zai) (cnt_cons (cnt_cons (cnt_cons cnt_nil))))) (zab (zeW rfl (.inl zcv) (se_v rfl (zbY))) (zab (zbi (zaz (zaA hu .ne) zao (zav zan zaw (se_v rfl (zbY)) (se_i zac)) (se_s zam)) (zab (zg5 (se_v rfl (zdB)) (zav zan zaw (se_v rfl (zbY)) (se_i zac))) zag) zag) zag))))
 refine zj7 ?_;refine zab ?_ ?_
 ·exact(zaq (se_v rfl (zcv)))
 exact zag
theorem zqr (T:Txt K mg C w):RT P w K mg base k f ["_law_row_here"] "_law_line" zg7 zio:=fun cdv A outer s H E hr=>by
 refine zbx hr fun hu=>?_;have nd:=(zj6).nd;have B_list:=T.blt "list" (by x_go);refine zab ?_ ?_
 ·exact(zaq (zik PySem.F.slot_str_join PySem.F.type_str_join zhY zic (se_s zam) (zaa (zal zaC zaZ (zal zaC zaZ (SN.sem (zbA (zaa (zav zan zaw (se_v rfl (zb2)) (se_i zac)) (zaa (zav zan zaw (se_v rfl (zb2)) (se_i zac)) zae zaj) zaj)) lst_is) (SN.sem (zmL rfl B_list (zav zan zaw (se_v rfl (zb2)) (se_i zac))) zmG)) (SN.sem (zmL rfl B_list (zav zan zaw (se_v rfl (zb2)) (se_i zac))) zmG)) zae zaI)))
 exact zag
theorem zul (T:Txt K mg C w)(a_read_works:AtG P w K mg base k "read_works" 1 zbq)(a_shown_works:AtG P w K mg base k "shown_works" 1 za2)(a__cells:AtG P w K mg base k "_law_cells" 1 zeA)(a__rows:AtG P w K mg base k "_law_rows" 1 zgQ)(a__line:AtG P w K mg base k "_law_line" 1 zgG):RT P w K mg base k f ["_law_script","_law_rows_here","_law_text","_law_found","_law_beside"] "law" zee znj:=fun cdv A outer s H E hr=>by
  refine zbx hr fun hu=>?_;have nd:=(zoP).nd;have B_isinstance:=T.blt "isinstance" (by x_go);have B_list:=T.blt "list" (by x_go);refine zab ?_ ?_
  · refine zaD (i:=1) ?_ ?_ ?_ ?_
    · exact nd
    · exact rfl
    · exact(.inl zbc)
    · refine zat a__rows hr rfl ?_ ?_
      · refine zaa ?_ ?_ ?_
        · refine zat a__cells hr rfl ?_ ?_
          · refine zaa ?_ ?_ ?_
            · refine se_v ?_ ?_
              · exact rfl
              · exact zh8
            · exact zae
            · exact zai
          · refine cnt_cons ?_
            · exact cnt_nil
        · exact zae
        · exact zbl
      · refine cnt_cons ?_
        · exact cnt_nil
  refine zab ?_ ?_
  · refine zaD (i:=2) ?_ ?_ ?_ ?_
    · exact nd
    · exact rfl
    · exact(.inl zcB)
    · refine zik PySem.F.slot_str_join PySem.F.type_str_join zhY zic ?_ ?_
      · refine se_s ?_
        · exact zam
      · refine zaa ?_ ?_ ?_
        · refine SN.sem ?_ ?_
          · exact(ze6 "_law_row_here" [] rfl (by x_go) (zmf (se_v rfl (zbc))) (fun _ _ _ _ _ _=>zer) (fun _ _ _ _ _ _=>(zat a__line hr rfl (zaa (zel rfl (.inl (by kernel_rfl))) zae zai) (cnt_cons cnt_nil))))
          · exact zef
        · exact zae
        · exact zcc
  refine zab ?_ ?_
  · refine zaD (i:=3) ?_ ?_ ?_ ?_
    · exact nd
    · exact rfl
    · exact(.inl zbH)
    · refine zat a_read_works hr rfl ?_ ?_
      · refine zaa ?_ ?_ ?_
        · refine se_v ?_ ?_
          · exact rfl
          · exact zcB
        · exact zae
        · exact zai
      · refine cnt_cons ?_
        · exact cnt_nil
  refine zab ?_ ?_
  · refine zbi ?_ ?_ ?_
    · refine SW.st ?_
      · refine zf6 ?_ ?_
        · refine zeP ?_
          · refine zd0 ?_
            · refine zqE (fun t b h=>zpt t "list" b h) ?_ rfl B_isinstance rfl B_list boot_list
              · refine se_v ?_ ?_
                · exact rfl
                · exact zbH
        · refine zd5 ?_
          · refine zaz (zaA hu .ne) zao ?_ ?_
            · refine se_v ?_ ?_
              · exact rfl
              · exact zbH
            · refine se_v ?_ ?_
              · exact rfl
              · exact zbc
    · refine zab ?_ ?_
      · refine zaq ?_
        · refine se_b ?_
          · exact zfr
      · exact zag
    · exact zag
  refine zab ?_ ?_
  · refine zbi ?_ ?_ ?_
    · refine SW.st ?_
      · refine zf6 ?_ ?_
        · refine zaz (zaA hu .ne) zao ?_ ?_
          · refine zkr a_shown_works hr rfl ?_ ?_
            · refine zaa ?_ ?_ ?_
              · refine se_v ?_ ?_
                · exact rfl
                · exact zbH
              · exact zae
              · exact zai
            · refine cnt_cons ?_
              · exact cnt_nil
          · refine se_v ?_ ?_
            · exact rfl
            · exact zcB
        · refine zd5 ?_
          · refine zaz (zaA hu .ne) zao ?_ ?_
            · refine se_v ?_ ?_
              · exact rfl
              · exact zbH
            · refine se_v ?_ ?_
              · exact rfl
              · exact zbc
    · refine zab ?_ ?_
      · refine zaq ?_
        · refine se_b ?_
          · exact zfr
      · exact zag
    · exact zag
  refine zab ?_ ?_
  · refine zaD (i:=4) ?_ ?_ ?_ ?_
    · exact nd
    · exact rfl
    · exact(.inl zdX)
    · refine zat a_read_works hr rfl ?_ ?_
      · refine zaa ?_ ?_ ?_
        · refine se_v ?_ ?_
          · exact rfl
          · exact zcB
        · exact zae
        · exact zai
      · refine cnt_cons ?_
        · exact cnt_nil
  refine zab ?_ ?_
  · refine zg5 ?_ ?_
    · refine se_v ?_ ?_
      · exact rfl
      · exact zbH
    · refine zaL ?_
      · refine zaa ?_ ?_ ?_
        · refine se_s ?_
          · exact zam
        · refine zaa ?_ ?_ ?_
          · refine se_s ?_
            · exact zam
          · refine zaa ?_ ?_ ?_
            · refine zaL ?_
              · exact zae
            · refine zaa ?_ ?_ ?_
              · refine zaL ?_
                · exact zae
              · exact zae
              · exact zaS
            · exact zaS
          · exact zaf
        · exact zaf
  refine zab ?_ ?_
  · refine zni ?_ ?_ ?_
    · refine se_v ?_ ?_
      · exact rfl
      · exact zbH
    · refine se_i ?_
      · exact zac
    · refine zaL ?_
      · refine zaa ?_ ?_ ?_
        · refine se_s ?_
          · exact zam
        · refine zaa ?_ ?_ ?_
          · refine se_s ?_
            · exact zam
          · refine zaa ?_ ?_ ?_
            · refine zaL ?_
              · exact zae
            · refine zaa ?_ ?_ ?_
              · refine zaL ?_
                · exact zae
              · exact zae
              · exact zaS
            · exact zaS
          · exact zaf
        · exact zaf
  refine zab ?_ ?_
  · refine zaq ?_
    · refine zeU ?_ ?_
      · refine zch (zaA hu .eq) zao ?_ ?_
        · refine se_v ?_ ?_
          · exact rfl
          · exact zdX
        · refine se_v ?_ ?_
          · exact rfl
          · exact zbc
      · refine zeU ?_ ?_
        · refine zch (zaA hu .eq) zao ?_ ?_
          · refine zat a_read_works hr rfl ?_ ?_
            · refine zaa ?_ ?_ ?_
              · refine se_v ?_ ?_
                · exact rfl
                · exact zcB
              · exact zae
              · exact zai
            · refine cnt_cons ?_
              · exact cnt_nil
          · refine se_v ?_ ?_
            · exact rfl
            · exact zbc
        · refine zej ?_
          · refine zch (zaA hu .eq) zao ?_ ?_
            · refine zkr a_shown_works hr rfl ?_ ?_
              · refine zaa ?_ ?_ ?_
                · refine se_v ?_ ?_
                  · exact rfl
                  · exact zdX
                · exact zae
                · exact zai
              · refine cnt_cons ?_
                · exact cnt_nil
            · refine se_v ?_ ?_
              · exact rfl
              · exact zcB
  exact zag
end
def lawK:Nat:=12
def lawG:G:=zrx
local macro_rules | `(tactic| z_go)=> `(tactic| try simp only[zpa,r_nx,r_rt,r_bk,r_ct,r_ex,zvz,q_v,q_vb,r_v,r_vb,r_vo,zvJ,zvR,q_1,r_1,q_2,r_2,r_2s,zvp,zuB,w_bl,zwl,zug,zv5,zud,zuE,zuO,zvo,q_or,zuU,zvH,zvO,zr4,zta,zqX,q_n,r_n,zsx,zvi,zvL,zqP,zty,zlP,zpW,zr7,zp8,zrr,q_sl,zvI,zvk,zub,zue,zu0,zsq,zwu,zs5,zra,zwg,zsw,r_if,q_if,zt9,zvg,zt4,zu7,zwn,zvd,zrQ,zsX,zsd,q_fn,zq4,ztI,zrf,zqY,zu2,zr9,zvx,zvb,o_lt,o_le,o_gt,o_ge,zui,zuN,zvn,zvt,zrG,zq7,zwz,zrg,ztJ,zvj,zv2,sizeLine_eq,Option.map_some,Option.map_none,List.getElem?_cons_zero,List.getElem?_cons_succ,List.set_cons_zero,List.set_cons_succ,List.map_cons,List.map_nil,List.length_cons,List.length_nil,List.length_map,List.replicate,List.cons_append,List.nil_append,List.append_nil,reduceCtorEq,if_true,if_false,reduceIte,Bool.not_true,Bool.not_false,Nat.reduceSub,Nat.reduceAdd,Nat.reduceLeDiff,Nat.reduceLT,Int.reduceLT,Int.reduceLE,Int.reduceAdd,Int.reduceSub,Int.reduceMul,Int.reduceNeg,Int.reduceAbs,Int.reduceEq,Int.reducePow,Int.reduceMod,Int.reduceDiv,Int.reduceToNat,Nat.zero_le,and_true,true_and,and_self,or_true,true_or,Bool.false_eq_true,decide_eq_true_eq,decide_true,decide_false,Bool.not_eq_true',decide_eq_false_iff_not,not_true_eq_false,not_false_eq_true,eq_self,zth,ztZ,zqz,ztr,zs3,Option.getD_some,zuC,zuD,ty_int,ty_str,zuQ,zrv,ztK,ztn,zvA,zvQ,v_bl,zu1,zu8,zv0,zuv,zpu,zpL,zv8,zt8,ztu,zt6,List.isEmpty_cons,List.isEmpty_nil,Bool.true_eq_false,Bool.and_self,Bool.and_true,Bool.true_and,Bool.and_false,Bool.false_and,zqS,zqO,zpU,zpo,zpD,zut,zoD,zrn,zv3,zwm,zsz,zrJ,ztQ,zpc,zvq,zuq,ztV,zsC,zt3,zuI,zsi,ztS,r_mt,q_mt,t_st,zpE,zmi,zly,r_jv,zod,r_jr,zoh,zvC,ztz,zwe,zrs,zuR,zt5,zuH,zq9,zuh,zrX,zwx,zvN,zq2,zrj,zsM,t_ls,zsb,zvm,Bool.true_or,Bool.false_or,Bool.or_true,Bool.or_false,at0,at1,at2,at3,znp,s_end,w_end,zqm,zpV,zvP,zv7,zvs,zwf,zu3,ztT,zww,zri,zse,znG,zwo,zrD,zvw,zur])
variable {M:Mm}
theorem zuA (c:Nat):zdC [.val (.str ⟨#[c]⟩)] M=some (.v (.bl (!dgc c)),M):=by
 unfold zdC;z_go;rw[zoC]
theorem zp1 (x:Str)(hx:x.length<=100000):zbD [.str x] M=some (.v (.bl (figB (cd x))),M):=by
 unfold zbD zdk;z_go;rw[show x.cps.toList=cd x from rfl];simp only[eq_e,eq_0];have hl:(cd x).length<=100000:=by rw[<-zb4];exact hx
 by_cases h:cd x=[]
 ·simp only[h];z_go;rfl
 ·simp only[h];rw[zdS (fun c=>D.str ⟨#[c]⟩) (fun c=>D.bl (!dgc c)) (cd x) [] (fun c _=>zuA c) (by rw[sizeLine_eq];simp;omega)];z_go;rw[show((cd x).map fun c=>D.bl (!dgc c))=((cd x).map fun c=> !dgc c).map D.bl by rw[List.map_map];rfl,zfh];z_go;simp only[zqv];obtain⟨c,r,e⟩:=List.exists_cons_of_ne_nil h;unfold figB;cases hd:(cd x).all dgc
  ·z_go
  ·z_go;rw[if_pos (show x.length<=16777216 by omega),show x.cps.toList=cd x from rfl];simp only[h,eq_0];rw[e,show atI (c::r) 0=some c by simp[atI,ixN]]
   by_cases h0:(c::r)=[48]
   ·simp only[h0];z_go
   ·simp only[h0];z_go;simp only[eq_0,zo6,List.head?_cons,Option.some.injEq,List.cons.injEq];z_go
theorem zwr (x:Str)(hx:x.length<=10000):zbb [.str x] M=some (.v (.bl (good (cd x))),M):=by
 unfold zbb zbr;z_go;rw[zvG];have hl:=zb4 x
 by_cases h:(cd x).head? =some 45
 ·obtain⟨r,e⟩:∃r,cd x=45::r:=by
   cases hc:cd x with
   |nil=>rw[hc]at h;cases h
   |cons c r=>rw[hc]at h;simp at h;exact⟨r,by rw[h]⟩
  have hs:=znh e;have hr:(Txt.slice x (some 1) none).length<=10000:=by
   rw[zb4,hs];rw[e]at hl
   simp at hl
   omega
  simp only[h];z_go;rw[if_pos (show x.length<=16777216 by omega)];z_go;simp only[zsZ,zp1 _ (show(Txt.slice x (some 1) none).length<=100000 by omega),hs];unfold good fgs;rw[if_pos h];simp only[e,List.tail_cons]
  by_cases h2:45::r=[45,48]
  ·simp only[h2];z_go
  ·simp only[h2];z_go
 ·simp only[h];z_go;simp only[zsZ,zp1 _ (show x.length<=100000 by omega)];unfold good fgs;rw[if_neg h]
  by_cases h2:cd x=[45,48]
  ·simp only[h2];z_go
  ·simp only[h2];z_go
def isn (x:Str):Bool:=good (cd x) && decide ((fgs (cd x)).length<=20)
theorem g_num (x:Str)(hx:x.length<=10000):zc7 [.str x] M=some (.v (.bl (isn x)),M):=by
 unfold zc7 zdV isn;z_go;simp only[zwr x hx];z_go;rw[if_pos (show x.length<=16777216 by omega)];z_go;cases hg:good (cd x)
 ·z_go
 ·have hl:=zqQ hg;have:=PyProof.Rows.len_lstripChars x (Str.ofString "-");z_go;rw[if_pos (by omega),hl];z_go;congr 4;rw[Bool.eq_iff_iff];simp only[decide_eq_true_eq];omega
def tvw (x:Str):Bool:=decide (x="t") || decide (x="v") || decide (x="w")
def lf (x L:Str):Bool:=isn x || (tvw x && zgU x L)
theorem zwi {x:Str}:oCmp .isin (.str x) (.tup [.str "t",.str "v",.str "w"])=some (.bl (tvw x)):=by
 have q:∀y:Str,D.eq (.str y) (.str x)=decide (x=y):=fun y=>by
  simp only[D.eq];rw[Bool.eq_iff_iff]
  simp
  exact eq_comm
 unfold oCmp cmpD cIn tvw;simp only[D.flat,List.all_cons,List.all_nil,Bool.and_self,if_true,List.any_cons,List.any_nil,Bool.or_false,q,Option.map_some];rw[Bool.or_assoc]
theorem zo5 (x L:Str)(hx:x.length<=10000):zen [.str x,.str L] M=some (.v (.bl (lf x L)),M):=by
 unfold zen zfx lf;z_go;simp only[g_num x hx];cases isn x
 ·z_go;rw[zwi];cases tvw x
  ·z_go
  ·z_go
 ·z_go
theorem zvl {x z c:Str}{env:E3.Env}{k:Nat}(he:env[k]? =some (.val (.str x)))(hx:x.length<=100000)(hz:z.length<=1000):zfj c (sFst (jVal (sVar k) (jCon z jEnd))) env M=some (.ex c 0,M):=by
 rw[zjA,zpE,zod,q_v,he,r_v,zlP,zsb,sizeLine_eq,if_pos (show x.length<=16777216 by omega),r_jv,sizeLine_eq];have e:(Str.empty ++ x).length=x.length:=by rw[strLen_append,show Str.empty.length=0 from rfl];omega
 rw[if_pos (by omega),zly,sizeLine_eq,if_pos (by rw[strLen_append];omega),zmi,sizeLine_eq,if_pos (by rw[strLen_append];omega)];rfl
theorem zvF {x z c:Str}{env:E3.Env}{k:Nat}(he:env[k]? =some (.val (.str x)))(hx:(reprText x).length<=100000)(hz:z.length<=1000):zfj c (sFst (jRep (sVar k) (jCon z jEnd))) env M=some (.ex c 0,M):=by
 rw[zjA,zpE,zoh,q_v,he,r_v,zlP];have e:(Str.empty ++ reprText x).length=(reprText x).length:=by rw[strLen_append,show Str.empty.length=0 from rfl];omega
 rw[r_jr,sizeLine_eq,if_pos ⟨by omega,by omega⟩,zly,sizeLine_eq,if_pos (by rw[strLen_append];omega),zmi,sizeLine_eq,if_pos (by rw[strLen_append];omega)];rfl
def sm (x:Str):Prop:=x.length<=9000/\∀c∈cd x,c<4294967296
theorem sm.rp {x:Str}(h:sm x):(reprText x).length<=100000:=by
 have:=StrLaws.reprText_len x (fun c hc=>h.2 c hc);have:=h.1;omega
def NT:List (Str×(Str×Str×Nat)):=[("+","number","number",2),("-","number","number",2),("*","number","number",2),("least","number","number",2),("most","number","number",2),("<","truth","number",2),("=","truth","number",2),("not","truth","truth",1),("and","truth","truth",2),("or","truth","truth",2)]
def ndl (x:Str):Option (Str×Str×Nat):=(NT.find? fun p=>decide (p.1=x)).map (·.2)
def ndD (q:Str×Str×Nat):D:=.tup [.str q.1,.str q.2.1,.int q.2.2]
theorem zsa:zdO=NT.map fun p=>(p.1,ndD p.2):=rfl
theorem zfQ {x:Str}:zcJ zdO x=(ndl x).map ndD:=by
 rw[zsa];unfold zcJ ndl;rw[List.find?_map];show Option.map _ (Option.map _ (NT.find? fun p=>decide (p.1=x)))=_;cases NT.find? fun p=>decide (p.1=x)<;>rfl
theorem zoG {x:Str}{q:Str×Str×Nat}(h:ndl x=some q):(x,q)∈NT:=by
 unfold ndl at h;rw[Option.map_eq_some_iff]at h;obtain⟨p,hp,rfl⟩:=h;have h1:=List.find?_some hp;have h2:=List.mem_of_find?_eq_some hp;rw[<-of_decide_eq_true h1];exact h2
theorem zsQ:NT.all (fun p=>(decide (p.2.2.2=1) || decide (p.2.2.2=2)) && (!isn p.1 && (!tvw p.1 && decide (p.1.length<=5))))=true:=by x_go
theorem zqZ {x:Str}{q:Str×Str×Nat}(h:ndl x=some q):(q.2.2=1\/q.2.2=2)/\isn x=false/\tvw x=false/\x.length<=5:=by
 have:=List.all_eq_true.mp zsQ _ (zoG h);simp only[Bool.and_eq_true,Bool.or_eq_true,decide_eq_true_eq,Bool.not_eq_true']at this;exact this
theorem zpR {x:Str}(h:isn x=true\/tvw x=true):ndl x=none:=by
  cases hn:ndl x with
  |none=>rfl
  |some d=>
    obtain⟨_,h1,h2,_⟩:=zqZ hn;rw[h1,h2]at h;rcases h with h |h<;>cases h
theorem zqt {x L:Str}(h:lf x L=true):ndl x=none:=by
 unfold lf at h;rw[Bool.or_eq_true,Bool.and_eq_true]at h;exact zpR (h.imp id (·.1))
def zeK (a:Str):Nat->List Str->Option (List Str)
 |0,ks=>some ks
 |_ + 1,[]=>none
 |n + 1,b::ks=>if b=a then zeK a n ks else none
def stepK (L x:Str)(ks:List Str):Option (List Str):=match ndl x with
 |some q=>(zeK q.2.1 q.2.2 ks).map (q.1:: ·)
 |none=>if lf x L=true then some ("number"::ks) else none
def runK (L:Str):List Str->List Str->Option (List Str)
 | [],ks=>some ks
 |x::xs,ks=>(stepK L x ks).bind (runK L xs)
theorem zhS {L:Str}:∀{xs ys ks:List Str},runK L (xs ++ ys) ks=(runK L xs ks).bind (runK L ys)
  | [],_,_=>rfl
  |x::xs,ys,ks=>by
    rw[List.cons_append,runK,runK]
    cases stepK L x ks with
    |none=>rfl
    |some k=>exact zhS
abbrev kc (ks:List Str):E3.Cl:=.lst (ks.map D.str).reverse
theorem zne {k:Nat}{d:D}{ds:List D}:popZ M k (d::ds).reverse (d::ds).reverse[(d::ds).reverse.length - 1]? =some (.v d,M.set k (.lst ds.reverse)):=by
 have e1:(d::ds).reverse[(d::ds).reverse.length - 1]? =some d:=by simp
 have e2:(d::ds).reverse.dropLast=ds.reverse:=by simp
 rw[e1,zoD,e2]
theorem zjK {x:Str}{q:Str×Str×Nat}{i:Int}{ks:List Str}(hl:x.length<=5):zc6 [.val (.str x),.val (.ref M.length),.val (ndD q),.val (.int i)] (M ++ [kc ks])=match ks with
    | []=>some (.ex "NoExpr" 0,M ++ [kc []])
    |b::ks=>if b=q.2.1 then some (.nx [.val (.str x),.val (.ref M.length),.val (ndD q),.val (.int i)],M ++ [kc ks]) else some (.ex "NoExpr" 0,M ++ [kc ks]):=by
  have mg:∀N:Mm,zfj "NoExpr" (sFst (jVal (sVar 0) (jCon " needs other words behind it" jEnd))) [.val (.str x),.val (.ref M.length),.val (ndD q),.val (.int i)] N=some (.ex "NoExpr" 0,N):=fun N=>zvl (M:=N) (k:=0) rfl (show x.length<=100000 by omega) (by x_go);unfold zc6 kc ndD;unfold ndD at mg
  cases ks with
  |nil=>
    z_go;rw[show([]:List D).reverse=[] from rfl];z_go;rw[mg];rfl
  |cons b ks=>
    z_go;rw[List.isEmpty_reverse];z_go;rw[zne];z_go
    by_cases h:b=q.2.1
    · simp only[h];z_go
    · simp only[h];z_go;rw[mg];rfl
theorem zvf {x:Str}{q:Str×Str×Nat}(h:ndl x=some q)(ks:List Str):(∃ks',zeK q.2.1 q.2.2 ks=some ks'/\zbX [.str x,.ref M.length] (M ++ [kc ks])=some (.v .non,M ++ [kc ks']))\/(zeK q.2.1 q.2.2 ks=none/\∃ks',zbX [.str x,.ref M.length] (M ++ [kc ks])=some (.x "NoExpr" 0,M ++ [kc ks'])):=by
  obtain⟨hn,_,_,hl⟩:=zqZ h;unfold zbX zcW;z_go;rw[zfQ,h];z_go;have i2:∀N:Mm,mapR N (oIx (ndD q) (.int 2))=some (.v (.int q.2.2),N):=fun N=>by
    unfold ndD;z_go
  have w0:∀N:Mm,vw N (ndD q)=ndD q:=fun N=>rfl;simp only[w0,i2];z_go;rcases hn with hn |hn
  · rw[hn,ziO (by omega),show((List.range ((1:Nat):Int).toNat).map fun(k:Nat)=>D.int (0 + k))=[.int 0] from rfl];z_go;rw[zjK hl]
    cases ks with
    |nil=>exact .inr ⟨rfl,[],rfl⟩
    |cons b ks=>
      dsimp only;unfold zeK
      by_cases hb:b=q.2.1
      · rw[if_pos hb,if_pos hb];exact .inl ⟨ks,rfl,rfl⟩
      · rw[if_neg hb,if_neg hb];exact .inr ⟨rfl,ks,rfl⟩
  · rw[hn,ziO (by omega),show((List.range ((2:Nat):Int).toNat).map fun(k:Nat)=>D.int (0 + k))=[.int 0,.int 1] from rfl];z_go;rw[zjK hl]
    cases ks with
    |nil=>exact .inr ⟨rfl,[],rfl⟩
    |cons b ks=>
      dsimp only;unfold zeK
      by_cases hb:b=q.2.1
      · rw[if_pos hb,if_pos hb];z_go;rw[zjK hl]
        cases ks with
        |nil=>exact .inr ⟨rfl,[],rfl⟩
        |cons b ks=>
          dsimp only;unfold zeK
          by_cases hb:b=q.2.1
          · rw[if_pos hb,if_pos hb];exact .inl ⟨ks,rfl,rfl⟩
          · rw[if_neg hb,if_neg hb];exact .inr ⟨rfl,ks,rfl⟩
      · rw[if_neg hb,if_neg hb];exact .inr ⟨rfl,ks,rfl⟩
theorem zoy {ks:List Str}{y:Str}:(ks.map D.str).reverse ++ [D.str y]=((y::ks).map D.str).reverse:=by rw[List.map_cons,List.reverse_cons]
theorem zp2 {d0:D}{x L wt:Str}{ks:List Str}(hx:sm x)(hk:ks.length<1000):(∃ks',stepK L x ks=some ks'/\zaU [.val d0,.val (.str L),.val (.str wt),.val (.ref M.length),.val (.str x)] (M ++ [kc ks])=some (.nx [.val d0,.val (.str L),.val (.str wt),.val (.ref M.length),.val (.str x)],M ++ [kc ks']))\/(stepK L x ks=none/\∃ks',zaU [.val d0,.val (.str L),.val (.str wt),.val (.ref M.length),.val (.str x)] (M ++ [kc ks])=some (.ex "NoExpr" 0,M ++ [kc ks'])):=by
  have mg:=zvF (M:=M ++ [kc ks]) (c:="NoExpr") (z:=" may not stand here") (k:=4) (env:=[.val d0,.val (.str L),.val (.str wt),.val (.ref M.length),.val (.str x)]) rfl hx.rp (by x_go);unfold zaU stepK
  cases hn:ndl x with
  |some q=>
    have i0:∀N:Mm,mapR N (oIx (ndD q) (.int 0))=some (.v (.str q.1),N):=fun N=>by
      unfold ndD;z_go
    have w0:∀N:Mm,vw N (ndD q)=ndD q:=fun N=>rfl;dsimp only;rcases zvf (M:=M) hn ks with⟨ks',e1,e2⟩ |⟨e1,ks',e2⟩
    · have hk':ks'.length<=ks.length:=by
        have:∀(n:Nat) (ks ks':List Str),zeK q.2.1 n ks=some ks'->ks'.length<=ks.length:=fun n=>by
          induction n with
          |zero=>intro ks ks' h;cases h;exact Nat.le_refl _
          |succ n ih=>
            intro ks ks' h
            cases ks with
            |nil=>cases h
            |cons b ks=>
              unfold zeK at h;split at h
              · have:=ih ks ks' h;rw[List.length_cons];omega
              · cases h
        exact this _ _ _ e1
      refine .inl ⟨q.1::ks',by rw[e1];rfl,?_⟩;z_go;rw[zfQ,hn];simp only[Option.map_some,Option.isSome_some];z_go;rw[e2];z_go;rw[zfQ,hn];z_go;simp only[w0,i0];unfold kc;z_go;rw[List.length_reverse,List.length_map,if_pos (by omega),zoy];z_go
    · refine .inr ⟨by rw[e1];rfl,ks',?_⟩;z_go;rw[zfQ,hn];simp only[Option.map_some,Option.isSome_some];z_go;rw[e2];rfl
  |none=>
    dsimp only;cases hf:lf x L
    · refine .inr ⟨rfl,ks,?_⟩;z_go;rw[zfQ,hn];simp only[Option.map_none,Option.isSome_none];z_go;rw[zo5 x L (by have:=hx.1;omega),hf];z_go;rw[mg];rfl
    · refine .inl ⟨"number"::ks,rfl,?_⟩;z_go;rw[zfQ,hn];simp only[Option.map_none,Option.isSome_none];z_go;rw[zo5 x L (by have:=hx.1;omega),hf];unfold kc;z_go;rw[List.length_reverse,List.length_map,if_pos (by omega),zoy];z_go
theorem zmH {L x:Str}{ks ks':List Str}(h:stepK L x ks=some ks'):ks'.length<=ks.length + 1:=by
  have tk:∀(a:Str) (n:Nat) (ks ks':List Str),zeK a n ks=some ks'->ks'.length<=ks.length:=fun a n=>by
    induction n with
    |zero=>intro ks ks' h;cases h;exact Nat.le_refl _
    |succ n ih=>
      intro ks ks' h
      cases ks with
      |nil=>cases h
      |cons b ks=>
        unfold zeK at h;split at h
        · have:=ih ks ks' h;rw[List.length_cons];omega
        · cases h
  unfold stepK at h;split at h
  · rw[Option.map_eq_some_iff]at h;obtain⟨k1,h1,rfl⟩:=h;have:=tk _ _ _ _ h1;rw[List.length_cons];omega
  · split at h
    · cases h;rw[List.length_cons];omega
    · cases h
theorem zkC {L:Str}:∀{xs ks ks':List Str},runK L xs ks=some ks'->ks'.length<=ks.length + xs.length
  | [],_,_,h=>by cases h;exact Nat.le_add_right _ _
  |x::xs,ks,ks',h=>by
    unfold runK at h;rw[Option.bind_eq_some_iff]at h;obtain⟨k1,h1,h2⟩:=h;have:=zmH h1;have:=zkC h2;rw[List.length_cons];omega
theorem ziK:∀ys:List Str,D.deps (ys.map D.str)=0
 | []=>by simp[D.deps]
 |y::ys=>by simp[D.deps,D.dep,ziK ys]
theorem zow:∀(as bs:List Str),D.eqs (as.map D.str) (bs.map D.str)=decide (as=bs)
  | [],[]=>by simp[D.eqs]
  | [],b::bs=>by simp[D.eqs]
  |a::as,[]=>by simp[D.eqs]
  |a::as,b::bs=>by
    simp only[List.map_cons,D.eqs,D.eq,zow as bs];rw[Bool.eq_iff_iff]
    simp
theorem zsy {as bs:List Str}:oCmp .ne (.lst (as.map D.str)) (.lst (bs.map D.str))=some (.bl (!decide (as=bs))):=by
 unfold oCmp cmpD cNe;rw[if_pos ⟨by simp[eqOk,D.flat,D.dep,ziK],by simp[D.dep,ziK]⟩];simp only[D.eq,zow,Option.map_some]
theorem zvV {ks:List Str}{wt:Str}:oCmp .ne (.lst (ks.map D.str).reverse) (.lst [.str wt])=some (.bl (!decide (ks=[wt]))):=by
 rw[<-List.map_reverse,show [D.str wt]=[wt].map D.str from rfl,zsy];have:(ks.reverse=[wt])=(ks=[wt]):=propext ⟨fun h=>by rw[<-List.reverse_reverse ks,h];rfl,fun h=>by rw[h];rfl⟩;simp only[this]
def dwn (xs:List Int):Prop:=∀x∈xs,0<=x/\x<715827877
theorem g_dr {n:Int}{m:Nat}(hm:m<=1000):∃xs:List Int,xs.length=m/\dwn xs/\∀M:Mm,zdR [.int n,.int m] M=some (.v (.lst (xs.map .int)),M):=by
  let P:E3.OS->Mm->List Int->Prop:=fun o M xs=>∃s3 s4,o=some (.nx [.val (.int n),.val (.int m),.own (xs.map .int),s3,s4],M)
  have key:∃xs:List Int,xs.length=m/\dwn xs/\∀M:Mm,P (loopS 4 zeE ((List.range m).map fun(k:Nat)=>D.int (0 + k)) [.val (.int n),.val (.int m),.own [],.val (.int (n % 2147483629)),.un] M) M xs:=by
    -- the numbers by themselves
    let st:Int×List Int->Nat->Int×List Int:=fun p k=>let x:=(p.1 * p.1 + 40692 * p.1 + 2 * (0 + (k:Int)) + 1) % 2147483629;(x,p.2 ++ [x / 3])
    let at_:Nat->Int×List Int:=fun k=>(List.range k).foldl st (n % 2147483629,[])
    have hst:∀k,at_ (k + 1)=st (at_ k) k:=fun k=>by simp only[at_,List.range_succ,List.foldl_append,List.foldl_cons,List.foldl_nil]
    have hb:∀k,0<=(at_ k).1/\(at_ k).1<2147483629/\(at_ k).2.length=k/\dwn (at_ k).2:=fun k=>by
      induction k with
      |zero=>exact⟨Int.emod_nonneg _ (by decide),Int.emod_lt_of_pos _ (by decide),rfl,fun x hx=>by cases hx⟩
      |succ k ih=>
        rw[hst];refine⟨Int.emod_nonneg _ (by decide),Int.emod_lt_of_pos _ (by decide),by simp only[st,List.length_append,ih.2.2.1,List.length_singleton],fun x hx=>?_⟩;simp only[st,List.mem_append,List.mem_singleton]at hx;rcases hx with hx |hx
        · exact ih.2.2.2 x hx
        · have h1:=Int.emod_nonneg ((at_ k).1 * (at_ k).1 + 40692 * (at_ k).1 + 2 * (0 + (k:Int)) + 1) (show(2147483629:Int)≠0 by decide);have h2:=Int.emod_lt_of_pos ((at_ k).1 * (at_ k).1 + 40692 * (at_ k).1 + 2 * (0 + (k:Int)) + 1) (show(0:Int)<2147483629 by decide);subst hx;omega
    refine⟨(at_ m).2,(hb m).2.2.1,(hb m).2.2.2,fun M=>?_⟩;refine zjH (fun o=>P o M (at_ m).2) (fun k env M'=>M'=M/\∃s4,env=[.val (.int n),.val (.int m),.own ((at_ k).2.map .int),.val (.int (at_ k).1),s4]) ⟨rfl,.un,rfl⟩ ?_ ?_
    · rintro k d env M' hd ⟨rfl,s4,rfl⟩;have hk:k<m:=by
        have:=(List.getElem?_eq_some_iff.mp hd).1
        simpa using this
      rw[List.getElem?_map,List.getElem?_range hk,Option.map_some]at hd;cases hd;refine⟨by show 4<5;decide,?_⟩;have hx:=hb k;have hq:=hb (k + 1);rw[hst]at hq;show Step _ _ (zeE [.val (.int n),.val (.int m),.own ((at_ k).2.map .int),.val (.int (at_ k).1),.val (.int (0 + k))] M');generalize e1:(at_ k).1=x at *;generalize e2:(at_ k).2=xs at *;unfold zeE;z_go;rw[if_pos (.inl (by omega))];z_go;rw[if_pos (show xs.length<16777216 by omega)];refine⟨rfl,.val (.int (0 + k)),?_⟩;rw[hst];simp only[st,e1,e2,List.map_append,List.map_cons,List.map_nil]
    · rintro env M' ⟨rfl,s4,rfl⟩;rw[List.length_map,List.length_range];exact⟨_,_,rfl⟩
  obtain⟨xs,h1,h2,h3⟩:=key;refine⟨xs,h1,h2,fun M=>?_⟩;obtain⟨s3,s4,h3⟩:=h3 M;unfold zdR zgi;z_go;rw[ziO (by omega),Int.toNat_natCast];z_go;rw[h3];z_go
theorem ztc {x y:Str}(hx:x.length<=4000)(hy:y.length<=4000)(h1:∀c∈cd x,c<4294967296)(h2:∀c∈cd y,c<4294967296):sm (x ++ y):=by
 refine⟨by rw[strLen_append];omega,fun c hc=>?_⟩;rw[zht,List.mem_append]at hc;exact hc.elim (h1 c) (h2 c)
theorem ztx {i:Int}(h0:0<=i)(h1:i<1000000000000000000000):(shw i).length<=22/\∀c∈cd (shw i),c<4294967296:=by
 refine⟨zjI (k:=21) (by decide) (by rw[show(10:Nat) ^ 21=1000000000000000000000 by decide];omega),fun c hc=>?_⟩;unfold cd at hc;rw[zeR h0]at hc;have:=zhJ i.toNat c hc;omega
theorem zlT {n:Nat}:figB (dg n)=true:=by
 have hall:(dg n).all dgc=true:=List.all_eq_true.mpr fun c hc=>by
  have:=zhJ n c hc;unfold dgc;rw[decide_eq_true this.1,decide_eq_true this.2];rfl
 unfold figB;rw[hall,decide_eq_false (znM n)]
 by_cases h0:n=0
 ·subst h0;rw[zpY];rfl
 ·obtain⟨c,r,e,hc⟩:=zmu n h0;rw[e,List.head?_cons,decide_eq_false (show ¬ (some c=some 48) from fun z=>by have:=Option.some.inj z;omega)]
  simp
theorem zq8 {n:Int}(h0:0<=n)(h1:n<100000000000000000000):(dg n.toNat).length<=20:=ziy (by decide) (by rw[show(10:Nat) ^ 20=100000000000000000000 by decide];omega)
theorem zts {n:Nat}:(dg n).head? ≠some 45:=fun h=>by
  cases e:dg n with
  |nil=>exact znM n e
  |cons c r=>
    rw[e]at h;have:=zhJ n c (by rw[e];exact List.mem_cons_self)
    simp at h
    omega
theorem zpT {n:Int}(h0:0<=n)(h1:n<100000000000000000000):isn (shw n)=true:=by
 have e:cd (shw n)=dg n.toNat:=zeR h0;have ef:fgs (dg n.toNat)=dg n.toNat:=by unfold fgs;rw[if_neg zts]
 unfold isn good;rw[e,ef,zlT,decide_eq_true (zq8 h0 h1),decide_eq_false (fun z=>zts (n:=n.toNat) (by rw[z];rfl))];rfl
theorem zpF {n:Int}(h0:0<n)(h1:n<100000000000000000000):isn (Str.ofString "-" ++ shw n)=true:=by
 have e:cd (Str.ofString "-" ++ shw n)=45::dg n.toNat:=by
  rw[zht,show cd (Str.ofString "-")=[45] by x_go,show cd (shw n)=dg n.toNat from zeR (by omega)];rfl
 have ef:fgs (45::dg n.toNat)=dg n.toNat:=by unfold fgs;rw[if_pos (show(45::dg n.toNat).head? =some 45 from rfl)];rfl
 unfold isn good;rw [e, ef, zlT, decide_eq_true (zq8 (by omega) h1), decide_eq_false (fun z=>by
  have z2:dg n.toNat=[48]:=by simpa using z
  obtain⟨c,r,e2,hc⟩:=zmu n.toNat (by omega);rw[e2]at z2
  simp at z2
  omega)]
 rfl
def LG (L:Str):Prop:=L.length<=10/\∀c∈cd L,c=116\/c=118\/c=119
theorem ztq {c:Nat}{L:Str}:zgU ⟨#[c]⟩ L=decide (c∈cd L):=by
 unfold zgU;rw[StrLaws.found_one];rfl
theorem ztR {c:Nat}{L:Str}(hL:LG L)(hc:c∈cd L):lf ⟨#[c]⟩ L=true:=by
 unfold lf;rw[ztq,decide_eq_true hc];have:tvw ⟨#[c]⟩=true:=by
  rcases hL.2 c hc with rfl |rfl |rfl<;>decide +kernel
 rw[this]
 simp
theorem zsA {c:Nat}(h:c<4294967296):sm ⟨#[c]⟩:=⟨by show 1<=9000;decide,fun d hd=>by rw[zo6,List.mem_singleton]at hd;rw[hd];exact h⟩
theorem zlS {x:Int}{L:Str}(hL:LG L):∃w,lf w L=true/\sm w/\∀M:Mm,zdZ [.int x,.str L] M=some (.v (.str w),M):=by
 have hll:=hL.1
 by_cases h:0<x % 3/\L≠Str.ofString ""
 ·have hp:0<L.length:=by
   rcases Nat.eq_zero_or_pos L.length with z |z
   ·exfalso
    apply h.2;rw[eq_e];exact List.length_eq_zero_iff.mp (by rw[<-zb4];exact z)
   ·exact z
  have p0:=Int.emod_nonneg (x / 3) (show(L.length:Int)≠0 by omega);have p1:=Int.emod_lt_of_pos (x / 3) (show(0:Int)<(L.length:Int) by omega);have hl:=zb4 L;have hx:=List.getElem?_eq_getElem (show((x / 3) % (L.length:Int)).toNat<(cd L).length by omega);generalize (cd L)[((x / 3) % (L.length:Int)).toNat]=c at hx;have hc:=List.mem_of_getElem? hx;have ha:=zcA hx;rw[Int.toNat_of_nonneg p0]at ha;refine⟨⟨#[c]⟩,ztR hL hc,zsA (by rcases hL.2 c hc with z |z |z<;>omega),fun M=>?_⟩
  unfold zdZ zgZ;z_go;simp only[h.1,h.2];z_go;rw[if_pos (show L.length<=16777216 by omega)];z_go;rw[if_pos (show(0:Int)<(L.length:Int) by omega)];z_go;rw[if_pos (show L.length<=16777216 by omega),show L.cps.toList=cd L from rfl,ha];z_go
 ·have hm:∃q:Int,0<q/\q<=100000000000000000000/\atI [D.int 10,.int 100,.int 1000000,.int 1000000000000,.int 100000000000000000000] (x / 9 % 5)=some (.int q):=by
   have:x / 9 % 5=0\/x / 9 % 5=1\/x / 9 % 5=2\/x / 9 % 5=3\/x / 9 % 5=4:=by omega
   rcases this with e |e |e |e |e<;>rw[e]
   ·exact⟨_,by decide,by decide,at0⟩
   ·exact⟨_,by decide,by decide,at1⟩
   ·exact⟨_,by decide,by decide,at2⟩
   ·exact⟨_,by decide,by decide,at3⟩
   ·exact⟨_,by decide,by decide,zcA (j:=4) rfl⟩
  obtain⟨q,q0,q1,eq⟩:=hm;have n0:=Int.emod_nonneg (x * 1000003 * 104729 * 7919) (show q≠0 by omega);have n1:=Int.emod_lt_of_pos (x * 1000003 * 104729 * 7919) q0;generalize en:(x * 1000003 * 104729 * 7919) % q=n at n0 n1;obtain⟨wl,ws⟩:=ztx (i:=n) n0 (by omega);have lg:n.natAbs.log2<1920:=zma (by omega);have go:∀M:Mm,zdZ [.int x,.str L] M=endS (zfC [.val (.int x),.val (.str L),.val (.int n)] M):=fun M=>by
   unfold zdZ zgZ;z_go;have st:(if 0<x % 3 then some (Res.v (D.bl (!decide (L=Str.ofString ""))),M) else some (Res.v (D.bl false),M))=some (Res.v (D.bl false),M):=by
    by_cases z:0<x % 3
    ·have z2:L=Str.ofString "":=Classical.byContradiction fun z2=>h ⟨z,z2⟩;rw[if_pos z,decide_eq_true z2];rfl
    ·rw[if_neg z]
   rw[st];z_go;unfold zjb;z_go;rw[eq];z_go;rw[if_pos q0,en];z_go
  simp only[go]
  by_cases h2:x / 2 % 2=1/\0<n
  ·refine⟨Str.ofString "-" ++ shw n,?_,ztc (by x_go) (by omega) (fun c hc=>by revert c;decide +kernel) ws,fun M=>?_⟩
   ·unfold lf;rw[zpF h2.2 (by omega)];rfl
   ·unfold zfC;z_go;simp only[h2.1,h2.2];z_go;rw[if_pos lg];z_go;rw[show(Str.ofString "-").length=1 by x_go,if_pos (show 1 + (Str.ofString (toString n)).length<=16777216 from by have:(Str.ofString (toString n)).length<=22:=wl;omega)];rfl
  ·refine⟨shw n,?_,⟨by omega,ws⟩,fun M=>?_⟩
   ·unfold lf;rw[zpT n0 (by omega)];rfl
   ·unfold zfC;z_go;have st:(if x / 2 % 2=1 then some (Res.v (D.bl (decide (0<n))),M) else some (Res.v (D.bl false),M))=some (Res.v (D.bl false),M):=by
     by_cases z:x / 2 % 2=1
     ·rw[if_pos z,decide_eq_false (fun z2=>h2 ⟨z,z2⟩)]
     ·rw[if_neg z]
    rw[st];unfold zjr;z_go;rw[if_pos lg];z_go;rfl
def NW (L x:Str):Prop:=(ndl x=some (Str.ofString "number",Str.ofString "number",2)\/(ndl x=none/\lf x L=true))/\sm x
def nums (n:Nat):List Str:=List.replicate n "number"
theorem zoa {x:Str}(h:(decide (x.length<=9000) && (cd x).all fun c=>decide (c<4294967296))=true):sm x:=by
 rw[Bool.and_eq_true,decide_eq_true_eq,List.all_eq_true]at h;exact⟨h.1,fun c hc=>of_decide_eq_true (h.2 c hc)⟩
theorem zmM {L:Str}{k:Int}:∃x:Str,NW L x/\ndl x=some (Str.ofString "number",Str.ofString "number",2)/\atI [D.str "+",.str "-",.str "*",.str "least",.str "most"] (k % 5)=some (.str x):=by
 have mk:∀x:Str,ndl x=some (Str.ofString "number",Str.ofString "number",2)->(decide (x.length<=9000) && (cd x).all fun c=>decide (c<4294967296))=true->NW L x/\ndl x=some (Str.ofString "number",Str.ofString "number",2):=fun x h s=>⟨⟨.inl h,zoa s⟩,h⟩;have:k % 5=0\/k % 5=1\/k % 5=2\/k % 5=3\/k % 5=4:=by omega
 rcases this with e |e |e |e |e<;>rw[e]
 ·obtain⟨a,b⟩:=mk "+" (by x_go) (by x_go);exact⟨_,a,b,at0⟩
 ·obtain⟨a,b⟩:=mk "-" (by x_go) (by x_go);exact⟨_,a,b,at1⟩
 ·obtain⟨a,b⟩:=mk "*" (by x_go) (by x_go);exact⟨_,a,b,at2⟩
 ·obtain⟨a,b⟩:=mk "least" (by x_go) (by x_go);exact⟨_,a,b,at3⟩
 ·obtain⟨a,b⟩:=mk "most" (by x_go) (by x_go);exact⟨_,a,b,zcA (j:=4) rfl⟩
theorem zuT {L x:Str}{n:Nat}(h:ndl x=some (Str.ofString "number",Str.ofString "number",2))(hn:1<=n):stepK L x (nums (n + 1))=some (nums n):=by
 obtain⟨m,rfl⟩:∃m,n=m + 1:=⟨n - 1,by omega⟩;unfold stepK;rw[h];unfold nums;simp only[List.replicate_succ,zeK,if_true,Option.map_some]
theorem zuK {L x:Str}{n:Nat}(h:lf x L=true)(hn:1<=n):stepK L x (nums (n - 1))=some (nums n):=by
 obtain⟨m,rfl⟩:∃m,n=m + 1:=⟨n - 1,by omega⟩;unfold stepK;rw[zqt h];dsimp only;rw[if_pos h];unfold nums;rw[Nat.add_sub_cancel,List.replicate_succ]
theorem zoo {L:Str}{num:Int}{most:Nat}(hL:LG L)(hm:1<=most/\most<=45):∃ws:List Str,runK L ws.reverse []=some [Str.ofString "number"]/\(∀w∈ws,NW L w)/\1<=ws.length/\ws.length<=most/\zfK [.int num,.str L,.int most] M=some (.v (.lst (ws.map D.str)),M):=by
  have lp:∃ws:List Str,∃s5 s6,runK L ws.reverse []=some [Str.ofString "number"]/\(∀w∈ws,NW L w)/\1<=ws.length/\ws.length<=most/\zhI 1000 zgY zdH [.val (.int num),.val (.str L),.val (.int most),.own [],.val (.int 1),.val (.int (num % 2147483629)),.un] M=some (.nx [.val (.int num),.val (.str L),.val (.int most),.own (ws.map D.str),.val (.int 0),s5,s6],M):=by
    refine zig (Q:=fun o=>∃ws:List Str,∃s5 s6,runK L ws.reverse []=some [Str.ofString "number"]/\(∀w∈ws,NW L w)/\1<=ws.length/\ws.length<=most/\o=some (.nx [.val (.int num),.val (.str L),.val (.int most),.own (ws.map D.str),.val (.int 0),s5,s6],M)) (fun m env N=>N=M/\∃(ws:List Str) (need:Nat) (x:Int) (s6:E3.Slot),env=[.val (.int num),.val (.str L),.val (.int most),.own (ws.map D.str),.val (.int need),.val (.int x),s6]/\m=most - ws.length/\ws.length + need<=most/\runK L ws.reverse (nums need)=some [Str.ofString "number"]/\(∀w∈ws,NW L w)/\0<=x/\x<2147483629) ⟨most,by omega,rfl,[],1,_,.un,rfl,rfl,by simpa using hm.1,rfl,(fun w hw=>by cases hw),Int.emod_nonneg _ (by decide),Int.emod_lt_of_pos _ (by decide)⟩ ?_;rintro m env N ⟨rfl,ws,need,x,s6,rfl,rfl,hb,hr,hw,x0,x1⟩;refine⟨decide (0<(need:Int)),N,?_,?_⟩
    · unfold zgY;z_go
    · by_cases hn:0<(need:Int)
      · rw[decide_eq_true hn,if_pos rfl];have y0:=Int.emod_nonneg (x * x + 40692 * x + ((ws.length:Nat):Int) + 1) (show(2147483629:Int)≠0 by decide);have y1:=Int.emod_lt_of_pos (x * x + 40692 * x + ((ws.length:Nat):Int) + 1) (show(0:Int)<2147483629 by decide);generalize ey:(x * x + 40692 * x + ((ws.length:Nat):Int) + 1) % 2147483629=y at y0 y1;obtain⟨op,nwo,ndo,eo⟩:=zmM (L:=L) (k:=y / 7 / 2);obtain⟨w,lw,sw,ew⟩:=zlS (x:=y / 7 / 2) hL;have hx64:x.natAbs<18446744073709551616:=by omega
        by_cases c:y / 7 % 2=1/\((ws.length:Nat):Int) + (need:Int) + 2<=(most:Int)
        · have e:zdH [.val (.int num),.val (.str L),.val (.int most),.own (ws.map D.str),.val (.int need),.val (.int x),s6] N=some (.nx [.val (.int num),.val (.str L),.val (.int most),.own ((ws ++ [op]).map D.str),.val (.int ((need + 1:Nat):Int)),.val (.int y),.val (.int (y / 7))],N):=by
            unfold zdH;z_go;rw[if_pos (.inl hx64)];z_go;rw[ey];z_go;simp only[c.1,c.2];z_go;rw[eo];z_go;rw[if_pos (by omega)];z_go;rw[List.map_append];rfl
          rw[e];refine⟨most - (ws ++ [op]).length,by rw[List.length_append,List.length_singleton];omega,rfl,ws ++ [op],need + 1,y,_,rfl,rfl,by rw[List.length_append,List.length_singleton];omega,?_,fun u hu=>?_,y0,y1⟩
          · rw[List.reverse_append,show [op].reverse=[op] from rfl,List.singleton_append];show(stepK L op (nums (need + 1))).bind (runK L ws.reverse)=_;rw[zuT ndo (by omega)];exact hr
          · rw[List.mem_append,List.mem_singleton]at hu;rcases hu with hu |rfl
            · exact hw u hu
            · exact nwo
        · have e:zdH [.val (.int num),.val (.str L),.val (.int most),.own (ws.map D.str),.val (.int need),.val (.int x),s6] N=some (.nx [.val (.int num),.val (.str L),.val (.int most),.own ((ws ++ [w]).map D.str),.val (.int ((need - 1:Nat):Int)),.val (.int y),.val (.int (y / 7))],N):=by
            have st:(if y / 7 % 2=1 then some (Res.v (D.bl (decide (((ws.length:Nat):Int) + (need:Int) + 2<=(most:Int)))),N) else some (Res.v (D.bl false),N))=some (Res.v (D.bl false),N):=by
              by_cases z:y / 7 % 2=1
              · rw[if_pos z,decide_eq_false (fun z2=>c ⟨z,z2⟩)]
              · rw[if_neg z]
            unfold zdH;z_go;rw[if_pos (.inl hx64)];z_go;rw[ey];z_go;rw[st];z_go;rw[ew];z_go;rw[if_pos (by omega)];z_go;rw[List.map_append,show(need:Int) - 1=((need - 1:Nat):Int) by omega];rfl
          rw[e];refine⟨most - (ws ++ [w]).length,by rw[List.length_append,List.length_singleton];omega,rfl,ws ++ [w],need - 1,y,_,rfl,rfl,by rw[List.length_append,List.length_singleton];omega,?_,fun u hu=>?_,y0,y1⟩
          · rw[List.reverse_append,show [w].reverse=[w] from rfl,List.singleton_append];show(stepK L w (nums (need - 1))).bind (runK L ws.reverse)=_;rw[zuK lw (by omega)];exact hr
          · rw[List.mem_append,List.mem_singleton]at hu;rcases hu with hu |rfl
            · exact hw u hu
            · exact⟨.inr ⟨zqt lw,lw⟩,sw⟩
      · rw[decide_eq_false hn,if_neg (by decide)];have hz:need=0:=by omega
        subst hz;refine⟨ws,_,_,hr,hw,?_,by omega,rfl⟩
        cases ws with
        |nil=>cases hr
        |cons a b=>simp
  obtain⟨ws,s5,s6,h1,h2,h3,h4,lp⟩:=lp;refine⟨ws,h1,h2,h3,h4,?_⟩;unfold zfK zhT;z_go;rw[lp];z_go
theorem zus {a b:Str}(h:decide (a=b)=false):(a=b)=False:=eq_false (of_decide_eq_false h)
theorem zs0:ndl "not"=some (Str.ofString "truth",Str.ofString "truth",1):=by x_go
def pdS (p:Bool):D:=.str (if p then "cond" else "expr")
def pdK (p:Bool):Str:=if p then "truth" else "number"
def pc (pd:List Bool):E3.Cl:=.lst (pd.map pdS).reverse
def pw (pd:List Bool):Nat:=(pd.map fun p=>if p then 3 else 1).sum
theorem zou {a b:Str}{k:Int}:∃x:Str,(x=a\/x=b)/\atI [D.str a,.str b] (k % 2)=some (.str x):=by
 have:k % 2=0\/k % 2=1:=by omega
 rcases this with e |e<;>rw[e]
 ·exact⟨a,.inl rfl,at0⟩
 ·exact⟨b,.inr rfl,at1⟩
theorem zuw {L x:Str}{ks:List Str}(h:x="and"\/x="or"):stepK L x ((("truth":Str)::("truth":Str)::ks):List Str)=some (("truth":Str)::ks):=by
 have:ndl x=some (Str.ofString "truth",Str.ofString "truth",2):=by rcases h with rfl |rfl<;>decide +kernel
 unfold stepK;rw[this];simp only[zeK,if_true,Option.map_some]
theorem zwp {L:Str}{ks:List Str}:stepK L "not" (("truth":Str)::ks)=some (("truth":Str)::ks):=by
 unfold stepK;rw[zs0];simp only[zeK,if_true,Option.map_some]
theorem zv9 {L x:Str}{ks:List Str}(h:x="<"\/x="="):stepK L x (("number":Str)::("number":Str)::ks)=some (("truth":Str)::ks):=by
 have:ndl x=some (Str.ofString "truth",Str.ofString "number",2):=by rcases h with rfl |rfl<;>decide +kernel
 unfold stepK;rw[this];simp only[zeK,if_true,Option.map_some]
theorem zwt {L x:Str}{ks:List Str}(h:ndl x=some (Str.ofString "number",Str.ofString "number",2)):stepK L x (("number":Str)::("number":Str)::ks)=some (("number":Str)::ks):=by
 unfold stepK;rw[h];simp only[zeK,if_true,Option.map_some]
theorem st_l {L x:Str}{ks:List Str}(h:lf x L=true):stepK L x ks=some (("number":Str)::ks):=by
 unfold stepK;rw[zqt h];dsimp only;rw[if_pos h]
theorem zwD:(Str.ofString "cond"=Str.ofString "cond")=True:=eq_true rfl
theorem zkR:(Str.ofString "expr"=Str.ofString "cond")=False:=zus (by x_go)
theorem pc2t {ds:List D}:ds.reverse ++ [D.str "cond",.str "cond"]=(pdS true::pdS true::ds).reverse:=by simp[pdS]
theorem pc2f {ds:List D}:ds.reverse ++ [D.str "expr",.str "expr"]=(pdS false::pdS false::ds).reverse:=by simp[pdS]
theorem pc1t {ds:List D}:ds.reverse ++ [D.str "cond"]=(pdS true::ds).reverse:=by simp[pdS]
theorem zjh {ws:List Str}{w:Str}:ws.map D.str ++ [D.str w]=(ws ++ [w]).map D.str:=by simp
theorem pc_t {pd:List Bool}:pc (true::pd)=.lst (D.str "cond"::pd.map pdS).reverse:=rfl
theorem pc_f {pd:List Bool}:pc (false::pd)=.lst (D.str "expr"::pd.map pdS).reverse:=rfl
theorem zqR {num most x:Int}{ws:List Str}{p:Bool}{pd:List Bool}{room:Nat}{s6 s7:E3.Slot}(hw:ws.length<=100)(hp:pd.length<=100)(x0:0<=x)(x1:x<2147483629):∃(y:Int) (w:Str) (pd':List Bool) (room':Nat) (t6 t7:E3.Slot) (E:Mm),zem [.val (.int num),.val (.int most),.own (ws.map D.str),.val (.ref M.length),.val (.int room),.val (.int x),s6,s7] (M ++ [pc (p::pd)])=some (.nx [.val (.int num),.val (.int most),.own ((ws ++ [w]).map D.str),.val (.ref (M ++ E).length),.val (.int room'),.val (.int y),t6,t7],M ++ E ++ [pc pd'])/\0<=y/\y<2147483629/\sm w/\stepK "tv" w (pd'.map pdK)=some (pdK p::pd.map pdK)/\pw pd' + room' + 1=pw (p::pd) + room:=by
  have y0:=Int.emod_nonneg (x * x + 40692 * x + ((ws.length:Nat):Int) + 1) (show(2147483629:Int)≠0 by decide);have y1:=Int.emod_lt_of_pos (x * x + 40692 * x + ((ws.length:Nat):Int) + 1) (show(0:Int)<2147483629 by decide);generalize ey:(x * x + 40692 * x + ((ws.length:Nat):Int) + 1) % 2147483629=y at y0 y1;have hx64:x.natAbs<18446744073709551616:=by omega
  have go:∀N:Mm,zem [.val (.int num),.val (.int most),.own (ws.map D.str),.val (.ref M.length),.val (.int room),.val (.int x),s6,s7] N=zcf [.val (.int num),.val (.int most),.own (ws.map D.str),.val (.ref M.length),.val (.int room),.val (.int y),.val (.int (y / 7)),s7] N:=fun N=>by
    unfold zem;z_go;rw[if_pos (.inl hx64)];z_go;rw[ey];unfold zf3;z_go
  rw[go];generalize y / 7=z;have wl:(ws.map D.str).length<16777216:=by rw[List.length_map];omega
  have smw:∀w:Str,(decide (w.length<=9000) && (cd w).all fun c=>decide (c<4294967296))=true->sm w:=fun w h=>zoa h
  cases p with
  |true=>
    have go2:zcf [.val (.int num),.val (.int most),.own (ws.map D.str),.val (.ref M.length),.val (.int room),.val (.int y),.val (.int z),s7] (M ++ [pc (true::pd)])=zbp [.val (.int num),.val (.int most),.own (ws.map D.str),.val (.ref M.length),.val (.int room),.val (.int y),.val (.int z),.val (.str "cond")] (M ++ [pc pd]):=by
      rw[pc_t];unfold zcf;z_go;rw[zne];z_go;rfl
    rw[go2]
    by_cases c1:(4:Int)<=room/\z % 4=1
    · obtain⟨w,hw2,ew⟩:=zou (a:="and") (b:="or") (k:=z / 4);refine⟨y,w,true::true::pd,room - 4,.val (.int z),.val (.str "cond"),[pc pd],?_,y0,y1,?_,?_,?_⟩
      · unfold zbp;z_go;simp only[c1.1,c1.2];z_go;rw[ew];z_go;rw[if_pos (by omega)];unfold pc;z_go;rw[List.length_reverse,List.length_map,if_pos (by omega)];z_go;rw[pc2t,zjh,show(room:Int) - 4=((room - 4:Nat):Int) by omega]
        try rfl
      · rcases hw2 with rfl |rfl<;>exact smw _ (by x_go)
      · exact zuw hw2
      · simp only[pw,List.map_cons,List.sum_cons,if_true];omega
    · have s1:(if (4:Int)<=(room:Int) then some (Res.v (D.bl (decide (z % 4=1))),M ++ [pc pd]) else some (Res.v (D.bl false),M ++ [pc pd]))=some (Res.v (D.bl false),M ++ [pc pd]):=by
        by_cases q:(4:Int)<=room
        · rw[if_pos q,decide_eq_false (fun q2=>c1 ⟨q,q2⟩)]
        · rw[if_neg q]
      by_cases c2:(1:Int)<=room/\z % 4=2
      · refine⟨y,"not",true::pd,room - 1,.val (.int z),.val (.str "cond"),[],?_,y0,y1,smw _ (by x_go),zwp,?_⟩
        · unfold zbp;z_go;rw[s1];z_go;simp only[c2.1,c2.2];z_go;rw[if_pos (by omega)];unfold pc;z_go;rw[List.length_reverse,List.length_map,if_pos (by omega)];z_go;rw[pc1t,zjh,show(room:Int) - 1=((room - 1:Nat):Int) by omega]
          try rfl
        · simp only[pw,List.map_cons,List.sum_cons,if_true];omega
      · have s2:(if (1:Int)<=(room:Int) then some (Res.v (D.bl (decide (z % 4=2))),M ++ [pc pd]) else some (Res.v (D.bl false),M ++ [pc pd]))=some (Res.v (D.bl false),M ++ [pc pd]):=by
          by_cases q:(1:Int)<=room
          · rw[if_pos q,decide_eq_false (fun q2=>c2 ⟨q,q2⟩)]
          · rw[if_neg q]
        obtain⟨w,hw2,ew⟩:=zou (a:="<") (b:="=") (k:=z / 4);refine⟨y,w,false::false::pd,room,.val (.int z),.val (.str "cond"),[pc pd],?_,y0,y1,?_,?_,?_⟩
        · unfold zbp;z_go;rw[s1];z_go;rw[s2];z_go;rw[ew];z_go;rw[if_pos (by omega)];unfold pc;z_go;rw[List.length_reverse,List.length_map,if_pos (by omega)];z_go;rw[pc2f,zjh]
          try rfl
        · rcases hw2 with rfl |rfl<;>exact smw _ (by x_go)
        · exact zv9 hw2
        · simp only[pw,List.map_cons,List.sum_cons,if_true]
          simp
          omega
  |false=>
    have go2:zcf [.val (.int num),.val (.int most),.own (ws.map D.str),.val (.ref M.length),.val (.int room),.val (.int y),.val (.int z),s7] (M ++ [pc (false::pd)])=zbp [.val (.int num),.val (.int most),.own (ws.map D.str),.val (.ref M.length),.val (.int room),.val (.int y),.val (.int z),.val (.str "expr")] (M ++ [pc pd]):=by
      rw[pc_f];unfold zcf;z_go;rw[zne];z_go;rfl
    rw[go2]
    by_cases c1:(2:Int)<=room/\z % 3=1
    · obtain⟨w,nw,nd,ew⟩:=zmM (L:="tv") (k:=z / 3);refine⟨y,w,false::false::pd,room - 2,.val (.int z),.val (.str "expr"),[pc pd],?_,y0,y1,nw.2,zwt nd,?_⟩
      · unfold zbp;z_go;simp only[zkR];z_go;simp only[zkR];z_go;simp only[zkR];z_go;simp only[c1.1,c1.2];z_go;rw[ew];z_go;rw[if_pos (by omega)];unfold pc;z_go;rw[List.length_reverse,List.length_map,if_pos (by omega)];z_go;rw[pc2f,zjh,show(room:Int) - 2=((room - 2:Nat):Int) by omega]
        try rfl
      · simp only[pw,List.map_cons,List.sum_cons]
        simp
        omega
    · have s1:(if (2:Int)<=(room:Int) then some (Res.v (D.bl (decide (z % 3=1))),M ++ [pc pd]) else some (Res.v (D.bl false),M ++ [pc pd]))=some (Res.v (D.bl false),M ++ [pc pd]):=by
        by_cases q:(2:Int)<=room
        · rw[if_pos q,decide_eq_false (fun q2=>c1 ⟨q,q2⟩)]
        · rw[if_neg q]
      obtain⟨w,lw,sw,ew⟩:=zlS (x:=z / 3) (L:="tv") ⟨by x_go,fun c hc=>by revert c;decide +kernel⟩;refine⟨y,w,pd,room,.val (.int z),.val (.str "expr"),[],?_,y0,y1,sw,st_l lw,?_⟩
      · unfold zbp;z_go;simp only[zkR];z_go;simp only[zkR];z_go;simp only[zkR];z_go;rw[s1];z_go;rw[ew];z_go;rw[if_pos (by omega),zjh];z_go
      · simp only[pw,List.map_cons,List.sum_cons]
        simp
        omega
theorem zwy {num:Int}{most:Nat}(hm:3<=most/\most<=40):∃(ws:List Str) (E:Mm),runK "tv" ws.reverse []=some [Str.ofString "truth"]/\(∀w∈ws,sm w)/\1<=ws.length/\ws.length<=most/\zgR [.int num,.int most] M=some (.v (.lst (ws.map D.str)),M ++ E):=by
  have lp:∃(ws:List Str) (E:Mm) (s3 s4 s5 s6 s7:E3.Slot),runK "tv" ws.reverse []=some [Str.ofString "truth"]/\(∀w∈ws,sm w)/\1<=ws.length/\ws.length<=most/\zhI 1000 zgr zem [.val (.int num),.val (.int most),.own [],.val (.ref M.length),.val (.int ((most - 3:Nat):Int)),.val (.int (num % 2147483629)),.un,.un] (M ++ [pc [true]])=some (.nx [.val (.int num),.val (.int most),.own (ws.map D.str),s3,s4,s5,s6,s7],M ++ E):=by
    refine zig (Q:=fun o=>∃(ws:List Str) (E:Mm) (s3 s4 s5 s6 s7:E3.Slot),runK "tv" ws.reverse []=some [Str.ofString "truth"]/\(∀w∈ws,sm w)/\1<=ws.length/\ws.length<=most/\o=some (.nx [.val (.int num),.val (.int most),.own (ws.map D.str),s3,s4,s5,s6,s7],M ++ E)) (fun m env N=>∃(ws:List Str) (E:Mm) (pd:List Bool) (room:Nat) (x:Int) (s6 s7:E3.Slot),env=[.val (.int num),.val (.int most),.own (ws.map D.str),.val (.ref (M ++ E).length),.val (.int room),.val (.int x),s6,s7]/\N=M ++ E ++ [pc pd]/\m=pw pd + room/\ws.length + pw pd + room=most/\runK "tv" ws.reverse (pd.map pdK)=some [Str.ofString "truth"]/\(∀w∈ws,sm w)/\0<=x/\x<2147483629) ⟨pw [true] + (most - 3),by simp only[pw,List.map_cons,List.map_nil,List.sum_cons,List.sum_nil,if_true];omega,[],[],[true],most - 3,_,.un,.un,by rw[List.append_nil];rfl,by rw[List.append_nil],rfl,by simp only[pw,List.map_cons,List.map_nil,List.sum_cons,List.sum_nil,if_true,List.length_nil];omega,rfl,(fun w hw=>by cases hw),Int.emod_nonneg _ (by decide),Int.emod_lt_of_pos _ (by decide)⟩ ?_;rintro m env N ⟨ws,E,pd,room,x,s6,s7,rfl,rfl,rfl,hb,hr,hw,x0,x1⟩;have hlp:pd.length<=pw pd:=by
      clear hr hb
      induction pd with
      |nil=>exact Nat.le_refl _
      |cons p pd ih=>
        simp only[pw,List.map_cons,List.sum_cons,List.length_cons]at *;cases p<;>simp<;>omega
    refine⟨!pd.isEmpty,M ++ E ++ [pc pd],?_,?_⟩
    · unfold zgr pc;z_go;rw[zws]
      · z_go;rw[List.isEmpty_reverse,List.isEmpty_map]
      · have:∀ds:List D,(∀d∈ds,d.dep=0)->D.deps ds=0:=fun ds=>by
          induction ds with
          |nil=>intro _;rfl
          |cons d ds ih=>intro h;simp only[D.deps,h d List.mem_cons_self,ih (fun e he=>h e (List.mem_cons_of_mem _ he))];rfl
        rw [this _ (fun d hd=>by
          rw[List.mem_reverse,List.mem_map]at hd;obtain⟨p,_,rfl⟩:=hd;rfl)]
        omega
    · cases pd with
      |nil=>
        rw[if_neg (by simp)];refine⟨ws,E ++ [pc []],_,_,_,_,_,hr,hw,?_,by omega,by rw[List.append_assoc]⟩
        cases ws with
        |nil=>cases hr
        |cons a b=>simp
      |cons p pd=>
        rw[if_pos (by simp)];obtain⟨y,w,pd',room',t6,t7,E2,e,y0,y1,sw,st,hpw⟩:=zqR (M:=M ++ E) (num:=num) (most:=most) (s6:=s6) (s7:=s7) (ws:=ws) (p:=p) (pd:=pd) (room:=room) (by omega) (by rw[List.length_cons]at hlp;omega) x0 x1;rw[e];refine⟨pw pd' + room',by omega,ws ++ [w],E ++ E2,pd',room',y,t6,t7,by rw[List.append_assoc],by rw[List.append_assoc M E E2],rfl,by rw[List.length_append,List.length_singleton];omega,?_,fun u hu=>?_,y0,y1⟩
        · rw[List.reverse_append,show [w].reverse=[w] from rfl,List.singleton_append];show(stepK "tv" w (pd'.map pdK)).bind (runK "tv" ws.reverse)=_;rw[st];exact hr
        · rw[List.mem_append,List.mem_singleton]at hu;rcases hu with hu |rfl
          · exact hw u hu
          · exact sw
  obtain⟨ws,E,s3,s4,s5,s6,s7,h1,h2,h3,h4,lp⟩:=lp;refine⟨ws,E,h1,h2,h3,h4,?_⟩;have e0:M ++ [Cl.lst [.str "cond"]]=M ++ [pc [true]]:=rfl;unfold zgR zh0;z_go;unfold ziQ;z_go;unfold ziA;z_go;unfold ziR;z_go;unfold zjl;rw[zpa,e0,show(most:Int) - 3=((most - 3:Nat):Int) by omega,lp];unfold ziP;z_go
def CkQ (M:Mm)(d0:D)(L wt:Str)(ws:List Str)(o:E3.OS):Prop:=(∃ks s4,o=some (.nx [.val d0,.val (.str L),.val (.str wt),.val (.ref M.length),s4],M ++ [kc ks])/\runK L ws.reverse []=some ks)\/(runK L ws.reverse []=none/\∃ks,o=some (.ex "NoExpr" 0,M ++ [kc ks]))
theorem take_snoc {ws:List Str}{k:Nat}{x:Str}(h:ws[k]? =some x):ws.take (k + 1)=ws.take k ++ [x]:=by
 rw[List.take_add_one,h];rfl
theorem zp9 {d0:D}{L wt:Str}{ws:List Str}(hs:∀x∈ws,sm x)(hl:ws.length<=900):CkQ M d0 L wt ws (loopS 4 zaU (ws.map D.str).reverse [.val d0,.val (.str L),.val (.str wt),.val (.ref M.length),.un] (M ++ [kc []])):=by
 refine zjH (CkQ M _ L wt ws) (fun k env N=>∃ks s4,env=[.val d0,.val (.str L),.val (.str wt),.val (.ref M.length),s4]/\N=M ++ [kc ks]/\runK L (ws.reverse.take k) []=some ks) ⟨[],.un,rfl,rfl,by rw[List.take_zero];rfl⟩ ?_ ?_
 ·rintro k d env N hd ⟨ks,s4,rfl,rfl,hk⟩;rw[<-List.map_reverse,List.getElem?_map,Option.map_eq_some_iff]at hd;obtain⟨x,hx,rfl⟩:=hd;refine⟨by show 4<5;decide,?_⟩;have hlen:=zkC hk;have hkl:(ws.reverse.take k).length<=ws.length:=by rw[List.length_take,List.length_reverse];exact Nat.min_le_right _ _
  rw[List.length_nil]at hlen;show Step _ _ (zaU [.val d0,.val (.str L),.val (.str wt),.val (.ref M.length),.val (.str x)] (M ++ [kc ks]));rcases zp2 (M:=M) (d0:=d0) (L:=L) (wt:=wt) (ks:=ks) (hs x (by have:=List.mem_of_getElem? hx;simpa using this)) (by omega) with⟨ks',e1,e2⟩ |⟨e1,ks',e2⟩
  ·rw[e2];refine⟨ks',_,rfl,rfl,?_⟩;rw[take_snoc hx,zhS,hk];show(stepK L x ks).bind _=_;rw[e1];rfl
  ·rw[e2];refine .inr ⟨?_,ks',rfl⟩;have:ws.reverse=ws.reverse.take k ++ x::ws.reverse.drop (k + 1):=by
    have hlt:=(List.getElem?_eq_some_iff.mp hx).1;have hxe:=(List.getElem?_eq_some_iff.mp hx).2;rw[<-hxe, <-List.drop_eq_getElem_cons hlt,List.take_append_drop]
   rw[this,zhS,hk];show(stepK L x ks).bind _=_;rw[e1];rfl
 ·rintro env N ⟨ks,s4,rfl,rfl,hk⟩;rw[List.length_reverse,List.length_map, <-List.length_reverse,List.take_length]at hk;exact .inl ⟨ks,s4,rfl,hk⟩
theorem zop {L wt:Str}{ws:List Str}(hs:∀x∈ws,sm x)(hl:ws.length<=900):(runK L ws.reverse []=some [wt]/\zbg [.tup (ws.map D.str),.str L,.str wt] M=some (.v .non,M ++ [kc [wt]]))\/(runK L ws.reverse []≠some [wt]/\∃ks,zbg [.tup (ws.map D.str),.str L,.str wt] M=some (.x "NoExpr" 0,M ++ [kc ks])):=by
 have lp:=zp9 (M:=M) (d0:=.tup (ws.map D.str)) (L:=L) (wt:=wt) hs hl;unfold zbg zcT;z_go;have e0:loopS 4 zaU (ws.map D.str).reverse [.val (.tup (ws.map D.str)),.val (.str L),.val (.str wt),.val (.ref M.length),.un] (M ++ [.lst []])=loopS 4 zaU (ws.map D.str).reverse [.val (.tup (ws.map D.str)),.val (.str L),.val (.str wt),.val (.ref M.length),.un] (M ++ [kc []]):=rfl;rw[e0];rcases lp with⟨ks,s4,e,hk⟩ |⟨hk,ks,e⟩
 ·rw[e];unfold kc;z_go;rw[zvV]
  by_cases h:ks=[wt]
  ·subst h;refine .inl ⟨hk,?_⟩;z_go
  ·refine .inr ⟨fun z=>h (by rw[hk]at z;exact Option.some.inj z),ks,?_⟩;simp only[h];z_go;rw[zjA];z_go
 ·rw[e];refine .inr ⟨by rw[hk];exact nofun,ks,rfl⟩
def exB (L wt:Str)(ws:List Str):Bool:=decide (runK L ws.reverse []=some [wt])
theorem zuu {ws:List Str}:zbP [.ref M.length,.tup (ws.map D.str)] (M ++ [.obj "Expr" []])=some (.v .non,M ++ [.obj "Expr" [("parts",.tup (ws.map D.str))]]):=by
 unfold zbP zcl;z_go;rw[zsc (k:=M.length) (fs:=[]) (M1:=M ++ [.obj "Expr" []]) (M2:=M ++ [.obj "Expr" []]) (x:=.tup (ws.map D.str)) ?_ ?_ znp (by decide),s_end]
 ·rfl
 ·z_go
 ·z_go
theorem zre {ws:List Str}:zbI [.ref M.length,.tup (ws.map D.str)] (M ++ [.obj "Cond" []])=some (.v .non,M ++ [.obj "Cond" [("parts",.tup (ws.map D.str))]]):=by
 unfold zbI zcn;z_go;rw[zsc (k:=M.length) (fs:=[]) (M1:=M ++ [.obj "Cond" []]) (M2:=M ++ [.obj "Cond" []]) (x:=.tup (ws.map D.str)) ?_ ?_ znp (by decide),s_end]
 ·rfl
 ·z_go
 ·z_go
theorem g_ie {L:Str}{ws:List Str}(hs:∀x∈ws,sm x)(hl:ws.length<=900):∃E,zcK [.tup (ws.map D.str),.str L] M=some (.v (.bl (exB L "number" ws)),M ++ E):=by
 rcases zop (M:=M) (L:=L) (wt:="number") hs hl with⟨z,e⟩ |⟨z,ks,e⟩
 ·refine⟨[kc ["number"]] ++ [.obj "Expr" [("parts",.tup (ws.map D.str))]],?_⟩;have e1:zcd [.tup (ws.map D.str),.str L] M=some (.v (.ref (M ++ [kc ["number"]]).length),M ++ [kc ["number"]] ++ [.obj "Expr" [("parts",.tup (ws.map D.str))]]):=by
   unfold zcd zc3;z_go;rw[e];z_go;rw[zoI (ds:=[.tup (ws.map D.str)]) (M1:=M ++ [kc ["number"]]) (by z_go) zuu];rfl
  unfold zcK zek exB;rw[show decide (runK L ws.reverse []=some [Str.ofString "number"])=true from decide_eq_true z];z_go;rw[z_nx (M1:=M ++ [kc ["number"]] ++ [.obj "Expr" [("parts",.tup (ws.map D.str))]]) (env':=[.val (.tup (ws.map D.str)),.val (.str L)])]
  ·z_go;rw[List.append_assoc];rfl
  ·unfold zeZ;z_go;rw[e1];z_go
 ·refine⟨[kc ks],?_⟩;have e1:zcd [.tup (ws.map D.str),.str L] M=some (.x "NoExpr" 0,M ++ [kc ks]):=by
   unfold zcd zc3;z_go;rw[e];rfl
  unfold zcK zek exB;rw[show decide (runK L ws.reverse []=some [Str.ofString "number"])=false from decide_eq_false z];z_go;rw[z_rt (c:="NoExpr") (a:=0) (M1:=M ++ [kc ks]) (d:=.bl false) (M2:=M ++ [kc ks]) ?_ (by x_go) ?_]
  ·z_go
  ·unfold zeZ;z_go;rw[e1];z_go
  ·unfold zg4;z_go
theorem g_ic {ws:List Str}(hs:∀x∈ws,sm x)(hl:ws.length<=900):∃E,zdJ [.tup (ws.map D.str)] M=some (.v (.bl (exB "tv" "truth" ws)),M ++ E):=by
 rcases zop (M:=M) (L:="tv") (wt:="truth") hs hl with⟨z,e⟩ |⟨z,ks,e⟩
 ·refine⟨[kc ["truth"]] ++ [.obj "Cond" [("parts",.tup (ws.map D.str))]],?_⟩;have e1:zcb [.tup (ws.map D.str)] M=some (.v (.ref (M ++ [kc ["truth"]]).length),M ++ [kc ["truth"]] ++ [.obj "Cond" [("parts",.tup (ws.map D.str))]]):=by
   unfold zcb zdc;z_go;rw[e];z_go;rw[zoI (ds:=[.tup (ws.map D.str)]) (M1:=M ++ [kc ["truth"]]) (by z_go) zre];rfl
  unfold zdJ zed exB;rw[show decide (runK "tv" ws.reverse []=some [Str.ofString "truth"])=true from decide_eq_true z];z_go;rw[z_nx (M1:=M ++ [kc ["truth"]] ++ [.obj "Cond" [("parts",.tup (ws.map D.str))]]) (env':=[.val (.tup (ws.map D.str))])]
  ·z_go;rw[List.append_assoc];rfl
  ·unfold ze9;z_go;rw[e1];z_go
 ·refine⟨[kc ks],?_⟩;have e1:zcb [.tup (ws.map D.str)] M=some (.x "NoExpr" 0,M ++ [kc ks]):=by
   unfold zcb zdc;z_go;rw[e];rfl
  unfold zdJ zed exB;rw[show decide (runK "tv" ws.reverse []=some [Str.ofString "truth"])=false from decide_eq_false z];z_go;rw[z_rt (c:="NoExpr") (a:=0) (M1:=M ++ [kc ks]) (d:=.bl false) (M2:=M ++ [kc ks]) ?_ (by x_go) ?_]
  ·z_go
  ·unfold ze9;z_go;rw[e1];z_go
  ·unfold zgq;z_go
theorem zos {i j k:Int}{f g h:E}{env:E3.Env}(hf:f env M=some (.v (.int i),M))(hg:g env M=some (.v (.int j),M))(hh:h env M=some (.v (.int k),M)):sChn .le .le f g h env M=some (.v (.bl (decide (i<=j) && decide (j<=k))),M):=by
 unfold sChn;simp only[bnd,hf,hg,hh,vw,cmpD,cOrd]
 by_cases h1:i<=j
 ·simp only[h1,decide_true,Bool.true_and,Option.map_some]
 ·simp only[h1,decide_false,Bool.false_and]
theorem zwB {i j k:Int}{f g h:E}{env:E3.Env}(hf:f env M=some (.v (.int i),M))(hg:g env M=some (.v (.int j),M))(hh:h env M=some (.v (.int k),M)):sChn .le .lt f g h env M=some (.v (.bl (decide (i<=j) && decide (j<k))),M):=by
 unfold sChn;simp only[bnd,hf,hg,hh,vw,cmpD,cOrd]
 by_cases h1:i<=j
 ·simp only[h1,decide_true,Bool.true_and,Option.map_some]
 ·simp only[h1,decide_false,Bool.false_and]
def cntB (x:Str):Bool:=decide (x.length<=20) && figB (cd x)
def vl (x:Str):Int:=vlc (cd x)
theorem zjV {x:Str}(h:cntB x=true):intText? x=some (vl x)/\0<=vl x/\x.length<=20:=by
  unfold cntB at h;rw[Bool.and_eq_true,decide_eq_true_eq]at h;obtain⟨h1,h2⟩:=h;obtain⟨n0,ad,_⟩:=ziu h2;have hd:(cd x).head? ≠some 45:=fun z=>by
    cases hc:cd x with
    |nil=>exact n0 hc
    |cons c r=>
      rw[hc]at z ad;cases z;have:=ad 45 (List.mem_cons_self ..);revert this
      decide
  refine⟨znq (by unfold fgs;rw[if_neg hd];exact h2) (by omega),?_,h1⟩;unfold vl vlc;rw[if_neg hd];omega
theorem zv1 (x:Str)(hx:x.length<=10000):zdI [.str x] M=some (.v (.bl (cntB x)),M):=by
 unfold zdI zeH cntB;z_go;rw[if_pos (show x.length<=16777216 by omega)];z_go
 by_cases h:x.length<=20
 ·rw[if_pos (show(x.length:Int)<=20 by omega)];z_go;rw[zp1 x (by omega)];simp only[h];z_go
 ·rw[if_neg (show ¬ (x.length:Int)<=20 by omega)];simp only[h];z_go
def cwB (x:Str)(a b:Int):Bool:=cntB x && (decide (a<=vl x) && decide (vl x<=b))
theorem g_cw (x:Str)(a b:Int)(hx:x.length<=10000):zas [.str x,.int a,.int b] M=some (.v (.bl (cwB x a b)),M):=by
 unfold zas zb0 cwB;z_go;rw[zv1 x hx];z_go;cases h:cntB x
 ·z_go
 ·obtain⟨h1,h2,h3⟩:=zjV h;z_go;rw[zos (i:=a) (j:=vl x) (k:=b)]
  ·z_go
  ·z_go
  ·z_go;rw[if_pos (show x.length<=640 by omega),h1];z_go
  ·z_go
def ltr (c:Nat):Bool:=decide (97<=c) && decide (c<=122)
theorem zn8 (c:Nat):zgU ⟨#[c]⟩ (Str.ofString "abcdefghijklmnopqrstuvwxyz")=ltr c:=by
 unfold zgU ltr;rw[StrLaws.found_one,show(Str.ofString "abcdefghijklmnopqrstuvwxyz").cps.toList=(List.range 26).map (· + 97) by x_go,Bool.eq_iff_iff];simp only[List.mem_map,List.mem_range,Bool.and_eq_true,decide_eq_true_eq];exact⟨fun⟨a,h,e⟩=>by omega,fun h=>⟨c - 97,by omega,by omega⟩⟩
def nmc (c:Nat):Bool:=ltr c || dgc c
def nmB (x:Str):Bool:=match cd x with
 | []=>false
 |c::r=>decide (r.length<12) && (ltr c && (c::r).all nmc)
theorem t_nm (c:Nat):ze5 [.val (.str ⟨#[c]⟩)] M=some (.v (.bl (nmc c)),M):=by
 unfold ze5 nmc;z_go;rw[zn8];cases ltr c
 ·z_go;rw[zoC]
 ·z_go
theorem g_nm (x:Str)(hx:x.length<=10000):zes [.str x] M=some (.v (.bl (nmB x)),M):=by
  unfold zes zfc nmB;have hl:=zb4 x;have c1:sChn .le .le (sCon (.int 1)) (sN bLen (zad (sVar 0) sNil)) (sCon (.int 12)) [.val (.str x)] M=some (.v (.bl (decide ((1:Int)<=x.length) && decide ((x.length:Int)<=12))),M):=by
    refine zos (by z_go) ?_ (by z_go);z_go;rw[if_pos (show x.length<=16777216 by omega)];z_go
  z_go;rw[c1]
  cases hc:cd x with
  |nil=>
    rw[hc]at hl;rw[show decide ((1:Int)<=x.length)=false from decide_eq_false (by rw[hl];decide)];z_go
  |cons c r=>
    rw[hc,List.length_cons]at hl;rw[show decide ((1:Int)<=x.length)=true from decide_eq_true (by omega)]
    by_cases h:r.length<12
    · rw[show decide ((x.length:Int)<=12)=true from decide_eq_true (by omega)];z_go;rw[if_pos (show x.length<=16777216 by omega),show x.cps.toList=cd x from rfl,hc];z_go;rw[zn8];simp only[h];cases ltr c
      · z_go
      · z_go;rw[show x.cps.toList=cd x from rfl,hc,zdS (fun c=>D.str ⟨#[c]⟩) (fun c=>D.bl (nmc c)) (c::r) [] (fun c _=>t_nm c) (by rw[sizeLine_eq];simp;omega)];z_go;rw[show(D.bl (nmc c)::r.map fun c=>D.bl (nmc c))=((c::r).map nmc).map D.bl by rw[List.map_map];rfl,zfh];z_go;rw[show nmc c::List.map nmc r=(c::r).map nmc from rfl,List.all_map];rfl
    · rw[show decide ((x.length:Int)<=12)=false from decide_eq_false (by omega)];simp only[h];z_go
theorem il {n:Nat}{k:Int}(b:Bool)(h:(n:Int)=k ↔ b=true):decide ((n:Int)=k)=b:=by
 cases b
 ·exact decide_eq_false fun z=>by cases h.mp z
 ·exact decide_eq_true (h.mpr rfl)
def shrB:List Str->Bool
 | [a,b]=>cwB b 1 8 && cwB a 0 (vl b - 1)
 |_=>false
def fldB (x:Str):Bool:=decide (x="sum") || decide (x="count") || decide (x="most") || decide (x="least")
def widB:List Str->Bool
 | [a,f]=>cwB a 1 1000000000000 && fldB f
 |_=>false
def sldB:List Str->Bool
 | [a,b,f]=>widB [a,f] && (cwB b 1 (vl a) && decide (vl a<=8 * vl b))
 |_=>false
def jnB:List Str->Bool
 |a::r=>cwB a 0 1000000000000 && exB "tvw" "number" r
 |_=>false
theorem zl7 {x:Str}{a b:Int}(h:cwB x a b=true):intText? x=some (vl x)/\0<=vl x/\x.length<=20:=by
 unfold cwB at h;rw[Bool.and_eq_true]at h;exact zjV h.1
theorem zuZ (ws:List Str)(hs:∀x∈ws,sm x)(hl:ws.length<=900):zbM [.tup (ws.map D.str)] M=some (.v (.bl (shrB ws)),M):=by
  unfold zbM zcm
  match ws,hs,hl with
  | [],_,_=>rfl
  | [a],_,_=>rfl
  |a::b::c::r,_,_=>
    unfold shrB;z_go;rw[if_pos (by omega)];z_go
  | [a,b],hs,_=>
    have ha:=hs a (by simp);have hb:=hs b (by simp);unfold shrB;z_go;rw[if_neg (fun z=>z rfl)];z_go;rw[g_cw b 1 8 (by have:=hb.1;omega)];cases h:cwB b 1 8
    · z_go
    · obtain⟨h1,h2,h3⟩:=zl7 h;z_go;rw[if_pos (show b.length<=640 by omega),h1];z_go;rw[g_cw a 0 _ (by have:=ha.1;omega)];z_go
theorem zuJ {x:Str}:oCmp .isin (.str x) (.tup [.str "sum",.str "count",.str "most",.str "least"])=some (.bl (fldB x)):=by
 have q:∀y:Str,D.eq (.str y) (.str x)=decide (x=y):=fun y=>by
  simp only[D.eq];rw[Bool.eq_iff_iff]
  simp
  exact eq_comm
 unfold oCmp cmpD cIn fldB;simp only[D.flat,List.all_cons,List.all_nil,Bool.and_self,if_true,List.any_cons,List.any_nil,Bool.or_false,q,Option.map_some];rw[Bool.or_assoc,Bool.or_assoc]
theorem zr2 (ws:List Str)(hs:∀x∈ws,sm x)(hl:ws.length<=900):za7 [.tup (ws.map D.str)] M=some (.v (.bl (widB ws)),M):=by
  unfold za7 zcr
  match ws,hs,hl with
  | [],_,_=>rfl
  | [a],_,_=>rfl
  |a::b::c::r,_,_=>
    unfold widB;z_go;rw[if_neg (by omega)];z_go
  | [a,b],hs,_=>
    have ha:=hs a (by simp);have hb:=hs b (by simp);unfold widB;z_go;rw[if_pos (show((2:Nat):Int)=2 from rfl)];rw[g_cw a 1 _ (by have:=ha.1;omega)];cases h:cwB a 1 1000000000000
    · z_go
    · z_go;rw[zuJ];z_go
theorem zun (ws:List Str)(hs:∀x∈ws,sm x)(hl:ws.length<=900):zbQ [.tup (ws.map D.str)] M=some (.v (.bl (sldB ws)),M):=by
  unfold zbQ zck
  match ws,hs,hl with
  | [],_,_=>rfl
  | [a],_,_=>rfl
  | [a,b],_,_=>rfl
  |a::b::c::d::r,_,_=>
    unfold sldB;z_go;rw[if_pos (by omega)];z_go
  | [a,b,f],hs,_=>
    have ha:=hs a (by simp);have hb:=hs b (by simp);have hf:=hs f (by simp);unfold sldB;z_go;rw[if_neg (fun z=>z rfl),show [D.str a,D.str f]=[a,f].map D.str from rfl,zr2 [a,f] (fun x hx=>by simp at hx;rcases hx with rfl |rfl<;>assumption) (by simp)]
    cases h:widB [a,f]
    · z_go
    · have h0:cwB a 1 1000000000000=true:=by
        unfold widB at h;rw[Bool.and_eq_true]at h;exact h.1
      obtain⟨h1,h2,h3⟩:=zl7 h0;z_go;rw[if_pos (show a.length<=640 by omega),h1];z_go;rw[g_cw b 1 _ (by have:=hb.1;omega)];cases h':cwB b 1 (vl a)
      · z_go
      · obtain⟨k1,k2,k3⟩:=zl7 h';z_go;rw[if_pos (show b.length<=640 by omega),k1];z_go
theorem g_jr (ws:List Str)(hs:∀x∈ws,sm x)(hl:ws.length<=900):∃E,zca [.tup (ws.map D.str)] M=some (.v (.bl (jnB ws)),M ++ E):=by
  match ws,hs,hl with
  | [],_,_=>exact⟨[],by rw[List.append_nil];rfl⟩
  |a::r,hs,hl=>
    have ha:=hs a (by simp);rw[List.length_cons]at hl;unfold zca zcF jnB;z_go;rw[if_neg (by omega),g_cw a 0 _ (by have:=ha.1;omega)];cases h:cwB a 0 1000000000000
    · refine⟨[],?_⟩;z_go
    · obtain⟨E,e⟩:=g_ie (M:=M) (L:="tvw") (ws:=r) (fun x hx=>hs x (by simp[hx])) (by omega);refine⟨E,?_⟩;have es:slT (.tup (D.str a::r.map D.str)) (some 1) none=some (.tup (r.map D.str)):=by
        unfold slT;dsimp only;rw[zkQ _ (by decide)];rw[if_neg (fun z=>by have:=z.1;revert this;unfold HT.sIx;simp)];rfl
      z_go;rw[es];z_go;rw[e];z_go
def rstB (w:Str)(ws:List Str):Bool:=
 if w="keep" then exB "tv" "truth" ws else if w="turn" then exB "tv" "number" ws else if w="share" then shrB ws else if w="slide" then sldB ws
 else if w="fixed"\/w="gap" then widB ws else if w="join" then jnB ws else ws.isEmpty
theorem zrC {x:Str}:oCmp .isin (.str x) (.tup [.str "fixed",.str "gap"])=some (.bl (decide (x="fixed"\/x="gap"))):=by
 have q:∀y:Str,D.eq (.str y) (.str x)=decide (x=y):=fun y=>by
  simp only[D.eq];rw[Bool.eq_iff_iff]
  simp
  exact eq_comm
 unfold oCmp cmpD cIn;simp only[D.flat,List.all_cons,List.all_nil,Bool.and_self,if_true,List.any_cons,List.any_nil,Bool.or_false,q,Option.map_some];congr 2;rw[Bool.eq_iff_iff]
 simp
theorem zrM {ws:List Str}:oCmp .eq (.tup (ws.map D.str)) (.tup [])=some (.bl ws.isEmpty):=by
 unfold oCmp cmpD cEq;rw[if_pos ⟨by simp[eqOk,D.flat,D.dep,D.deps],by simp[D.dep,ziK]⟩];cases ws<;>rfl
theorem zvM (w:Str)(ws:List Str)(hs:∀x∈ws,sm x)(hl:ws.length<=900):∃E,zcI [.str w,.tup (ws.map D.str)] M=some (.v (.bl (rstB w ws)),M ++ E):=by
 unfold zcI zdr rstB
 by_cases h1:w="keep"
 ·obtain⟨E,e⟩:=g_ic (M:=M) hs hl;refine⟨E,?_⟩;simp only[h1];z_go;rw[e];z_go
 by_cases h2:w="turn"
 ·obtain⟨E,e⟩:=g_ie (M:=M) (L:="tv") hs hl;refine⟨E,?_⟩;rw[if_neg h1,if_pos h2];z_go;rw[if_neg h1];z_go;rw[if_pos h2,e];z_go
 by_cases h3:w="share"
 ·refine⟨[],?_⟩;rw[if_neg h1,if_neg h2,if_pos h3];z_go;rw[if_neg h1];z_go;rw[if_neg h2];z_go;rw[if_pos h3,zuZ ws hs hl];z_go
 by_cases h4:w="slide"
 ·refine⟨[],?_⟩;rw[if_neg h1,if_neg h2,if_neg h3,if_pos h4];z_go;rw[if_neg h1];z_go;rw[if_neg h2];z_go;rw[if_neg h3];z_go;rw[if_pos h4,zun ws hs hl];z_go
 by_cases h5:w="fixed"\/w="gap"
 ·refine⟨[],?_⟩;rw[if_neg h1,if_neg h2,if_neg h3,if_neg h4,if_pos h5];z_go;rw[if_neg h1];z_go;rw[if_neg h2];z_go;rw[if_neg h3];z_go;rw[if_neg h4];z_go;rw[zrC];z_go;rw[if_pos h5,zr2 ws hs hl];z_go
 rw[if_neg h1,if_neg h2,if_neg h3,if_neg h4,if_neg h5];z_go;rw[if_neg h1];z_go;rw[if_neg h2];z_go;rw[if_neg h3];z_go;rw[if_neg h4];z_go;rw[zrC];z_go;rw[if_neg h5];z_go
 by_cases h6:w="join"
 ·obtain⟨E,e⟩:=g_jr (M:=M) ws hs hl;refine⟨E,?_⟩;rw[if_pos h6,if_pos h6,e];z_go
 ·refine⟨[],?_⟩;rw[if_neg h6,if_neg h6];z_go;rw[zrM];z_go
def FT:List (Str×Nat):=[("in",0),("keep",1),("turn",1),("share",1),("pour",8),("fixed",1),("slide",1),("gap",1),("join",2),("out",1)]
def frm (x:Str):Option Nat:=(FT.find? fun p=>decide (p.1=x)).map (·.2)
theorem zhX {x:Str}:zcJ zdF x=(frm x).map (fun(n:Nat)=>D.int (n:Int)):=by
 rw[show zdF=FT.map fun p=>(p.1,D.int (p.2:Int)) from rfl];unfold zcJ frm;rw[List.find?_map];show Option.map _ (Option.map _ (FT.find? fun p=>decide (p.1=x)))=_;cases FT.find? fun p=>decide (p.1=x)<;>rfl
theorem ztm {x:Str}{n:Nat}(h:frm x=some n):n<=8:=by
 unfold frm at h;rw[Option.map_eq_some_iff]at h;obtain⟨p,hp,rfl⟩:=h;have:=List.mem_of_find?_eq_some hp;revert this;generalize p=q;revert q;unfold FT
 simp
def rwD (w nm:Str)(fr rs:List Str):D:=.tup [.str w,.str nm,.tup (fr.map D.str),.tup (rs.map D.str)]
theorem g_row {w nm:Str}{r:List Str}{f:Nat}(h:frm w=some f):zdT [.lst ((w::nm::r).map D.str)] M=some (.v (rwD w nm (r.take f) (r.drop f)),M):=by
 have c1:cutL ((w::nm::r).map D.str) (some 2) (some (2 + (f:Int)))=(r.take f).map D.str:=by
  rw[zis _ (by decide) (by omega), <-List.map_drop, <-List.map_take];congr 1;show List.take ((2 + (f:Int)).toNat - 2) r=_;congr 1;omega
 have c2:cutL ((w::nm::r).map D.str) (some (2 + (f:Int))) none=(r.drop f).map D.str:=by
  rw[zkQ _ (by omega), <-List.map_drop];congr 1;rw[show(2 + (f:Int)).toNat=f + 2 by omega];rfl
 unfold zdT zgf rwD;rw[List.map_cons,List.map_cons]at c1 c2;z_go;rw[zhX,h];z_go;rw[c1];z_go;rw[c2];z_go
def hfB (w:Str)(f n:Nat):Bool:=if w="pour" then decide (2<=n) else decide (n=f)
theorem g_hf {w nm:Str}{fr rs:List Str}{f:Nat}(h:frm w=some f):zbG [rwD w nm fr rs] M=some (.v (.bl (hfB w f fr.length)),M):=by
 unfold zbG zco rwD hfB
 by_cases hp:w="pour"
 ·rw[if_pos hp];z_go;rw[if_pos hp];z_go;congr 4;rw[Bool.eq_iff_iff];simp only[decide_eq_true_eq];omega
 ·rw[if_neg hp];z_go;rw[if_neg hp];z_go;rw[zhX,h];z_go;congr 4;rw[Bool.eq_iff_iff];simp only[decide_eq_true_eq];omega
def rowB:List Str->Bool
  |w::nm::r=>match frm w with
    |some f=>hfB w f (r.take f).length && ((nm::r.take f).all nmB && rstB w (r.drop f))
    |none=>false
  |_=>false
theorem zwb (x:Str)(hx:x.length<=10000):zeD [.val (.str x)] M=some (.v (.bl (nmB x)),M):=by
 unfold zeD;z_go;rw[g_nm x hx];z_go
theorem zwj (ws:List Str)(hs:∀x∈ws,sm x)(hl:ws.length<=900):∃E,zeJ [.lst (ws.map D.str)] M=some (.v (.bl (rowB ws)),M ++ E):=by
  match ws,hs,hl with
  | [],_,_=>exact⟨[],by rw[List.append_nil];rfl⟩
  | [a],_,_=>exact⟨[],by rw[List.append_nil];rfl⟩
  |w::nm::r,hs,hl=>
    rw[List.length_cons,List.length_cons]at hl;unfold rowB;dsimp only
    cases hf:frm w with
    |none=>
      refine⟨[],?_⟩;unfold zeJ zfl;z_go;rw[if_neg (by omega),zhX,hf];z_go;simp only[Option.isSome_none];z_go
    |some f=>
      dsimp only;have g1:=g_row (M:=M) (nm:=nm) (r:=r) hf;have g2:=g_hf (M:=M) (nm:=nm) (fr:=r.take f) (rs:=r.drop f) hf;rw[List.map_cons,List.map_cons]at g1;have cm:zfa (sCon (.bl true)) zeD [] (((nm::r.take f)).map D.str) [] M=some ([] ++ (nm::r.take f).map fun x=>D.bl (nmB x),M):=by
        refine zdS D.str (fun x=>D.bl (nmB x)) (nm::r.take f) [] (fun x hx=>zwb x ?_) ?_
        · have:x∈w::nm::r:=by
            rcases List.mem_cons.mp hx with rfl |hx
            · simp
            · simp[List.mem_of_mem_take hx]
          have:=(hs x this).1;omega
        · rw[sizeLine_eq]
          simp
          omega
      obtain⟨E,e⟩:=zvM (M:=M) w (r.drop f) (fun x hx=>hs x (by simp[List.mem_of_mem_drop hx])) (by rw[List.length_drop];omega);unfold zeJ zfl;z_go;rw[if_neg (by omega),zhX,hf];z_go;simp only[Option.isSome_some];z_go;rw[g1];z_go;rw[g2];cases hfB w f (r.take f).length
      · refine⟨[],?_⟩;z_go
      · z_go;unfold rwD;z_go;rw[if_pos (by rw[List.length_take];omega)];z_go;rw[List.map_cons]at cm;rw[cm];z_go;rw[show(D.bl (nmB nm)::(r.take f).map fun x=>D.bl (nmB x))=((nm::r.take f).map nmB).map D.bl by rw[List.map_map];rfl,zfh];z_go;rw[show nmB nm::List.map nmB (r.take f)=(nm::r.take f).map nmB from rfl,List.all_map];rw[show(id ∘ nmB)=nmB from rfl];cases (nm::r.take f).all nmB
        · refine⟨[],?_⟩;z_go
        · refine⟨E,?_⟩;z_go;rw[e];z_go
def tbS (t:List (Str×Str)):List (Key×D):=t.map fun p=>(.inr p.1,.str p.2)
def gtS (t:List (Str×Str))(k:Str):Option Str:=(t.find? fun p=>decide (p.1=k)).map (·.2)
theorem zoq {a b:Str}:decide ((Sum.inr a:Key)=Sum.inr b)=decide (a=b):=by simp
theorem zmX {k:Str}:∀t:List (Str×Str),valD (tbS t) (.inr k)=(gtS t k).map .str
  | []=>rfl
  |p::t=>by
    have ih:=zmX (k:=k) t;unfold valD tbS gtS at *;rw[List.map_cons,List.find?_cons,List.find?_cons,zoq];cases decide (p.1=k)
    · exact ih
    · rfl
theorem ztU {k v:Str}{t:List (Str×Str)}(h:gtS t k=none):putT (tbS t) (.inr k) (.str v)=tbS (t ++ [(k,v)]):=by
 have e1:((tbS t).any fun kv=>decide (kv.1=Sum.inr k))=false:=by
  unfold gtS at h;rw[Option.map_eq_none_iff,List.find?_eq_none]at h;unfold tbS;rw[List.any_map,List.any_eq_false];intro p hp;show ¬ decide (Sum.inr p.1=Sum.inr k)=true;rw[zoq];exact h p hp
 unfold putT;rw[e1,if_neg (by decide)];unfold tbS;rw[List.map_append];rfl
def nmsB (t:List (Str×Str))(nm:Str)(fr:List Str):Bool:=(gtS t nm).isNone && fr.all fun x=> !decide ((gtS t x).getD "out"="out")
theorem t_hn {t:List (Str×Str)}{j:Nat}{N:Mm}(x:Str)(hN:N[j]? =some (.dct (tbS t))):zbW [.val (.str x),.val (.ref j)] N=some (.v (.bl (!decide ((gtS t x).getD "out"="out"))),N):=by
  unfold zbW;z_go;rw[zrI (k:=j) (kvs:=tbS t) (kvs':=tbS t) (e:=.str x) (x:=.str "out") (key:=.inr x) (M1:=N) (M2:=N) (M3:=N) (by z_go) (by z_go) (by z_go) hN hN rfl,zmX]
  cases gtS t x with
  |none=>
    simp only[Option.map_none,Option.getD_none];z_go
  |some y=>
    z_go
theorem g_hn {t:List (Str×Str)}{j:Nat}{N:Mm}{w nm:Str}{fr rs:List Str}(hN:N[j]? =some (.dct (tbS t)))(hl:fr.length<=900):zbT [rwD w nm fr rs,.ref j] N=some (.v (.bl (nmsB t nm fr)),N):=by
  have cm:zfa (sCon (.bl true)) zbW [.val (.ref j)] (fr.map D.str) [] N=some ([] ++ fr.map fun x=>D.bl (!decide ((gtS t x).getD "out"="out")),N):=
    zdS D.str (fun x=>D.bl (!decide ((gtS t x).getD "out"="out"))) fr [] (fun x _=>t_hn x hN) (by rw[sizeLine_eq];simp;omega)
  unfold zbT zcu nmsB rwD;z_go;rw[d_in (k:=j) (kvs:=tbS t) (e:=.str nm) (key:=.inr nm) (M1:=N) (M2:=N) (by z_go) (by z_go) hN rfl,zmX]
  cases gtS t nm with
  |some y=>
    simp only[Option.map_some,Option.isSome_some,Option.isNone_some];z_go
  |none=>
    simp only[Option.map_none,Option.isSome_none,Option.isNone_none];z_go;rw[cm];z_go;rw[show(fr.map fun x=>D.bl (!decide ((gtS t x).getD "out"="out")))=(fr.map fun x=> !decide ((gtS t x).getD "out"="out")).map D.bl by rw[List.map_map];rfl,zfh];z_go;rw[List.all_map];rfl
structure RW where
 w:Str
 nm:Str
 fr:List Str
 rs:List Str
def RW.D (r:RW):E3.D:=rwD r.w r.nm r.fr r.rs
def rowP (ws:List Str):Option RW:=match ws with
 |w::nm::r=>if rowB (w::nm::r)=true then some ⟨w,nm,r.take ((frm w).getD 0),r.drop ((frm w).getD 0)⟩ else none
 |_=>none
theorem zqM {ws:List Str}(h:rowB ws=false):rowP ws=none:=by
 unfold rowP
 split
 ·rw[h,if_neg (by decide)]
 ·rfl
theorem zqT {ws:List Str}(h:rowB ws=true):∃w nm r f,ws=w::nm::r/\frm w=some f/\rowP ws=some ⟨w,nm,r.take f,r.drop f⟩:=by
  match ws,h with
  | [],h=>cases h
  | [_],h=>cases h
  |w::nm::r,h=>
    cases hf:frm w with
    |none=>
      unfold rowB at h;dsimp only at h;rw[hf]at h;cases h
    |some f=>
      refine⟨w,nm,r,f,rfl,hf,?_⟩;show(if rowB (w::nm::r)=true then some (RW.mk w nm (r.take ((frm w).getD 0)) (r.drop ((frm w).getD 0))) else none)=_
      rw[if_pos h,hf];rfl
def rdL:List (List Str)->Nat->List (Str×Str)->List RW->List RW ⊕ (Str×Nat)
  | [],_,_,acc=>.inl acc
  |ws::rest,n,t,acc=>match rowP ws with
    |none=>.inr ("NoText",n)
    |some r=>if nmsB t r.nm r.fr=true then rdL rest (n + 1) (t ++ [(r.nm,r.w)]) (acc ++ [r]) else .inr ("NoName",n)
def Ln (l:Str)(ws:List Str):Prop:=Txt.split l (Str.ofString " ")=ws/\l.length<=1000000/\(∀x∈ws,sm x)/\ws.length<=900
theorem zpO {z l:Str}{ws:List Str}{acc:List RW}{t:List (Str×Str)}{E:Mm}{n:Nat}{s5 s6:E3.Slot}(hL:Ln l ws)(hn:n<1000)(ha:acc.length<1000)(ht:t.length<1000):∃E',
    zbh [.val (.str z),.own (acc.map RW.D),.val (.ref M.length),.val (.int n),.val (.str l),s5,s6] (M ++ [.dct (tbS t)] ++ E)=match rowP ws with
    |none=>some (.ex "NoText" ((n:Int) + 1),M ++ [.dct (tbS t)] ++ E')
    |some r=>if nmsB t r.nm r.fr=true then some (.nx [.val (.str z),.own ((acc ++ [r]).map RW.D),.val (.ref M.length),.val (.int n),.val (.str l),.val (.lst (ws.map D.str)),.val r.D],M ++ [.dct (tbS (t ++ [(r.nm,r.w)]))] ++ E') else some (.ex "NoName" ((n:Int) + 1),M ++ [.dct (tbS t)] ++ E'):=by
  obtain⟨h1,h2,h3,h4⟩:=hL;obtain⟨E2,e2⟩:=zwj (M:=M ++ [.dct (tbS t)] ++ E) ws h3 h4;have hN:∀E:Mm,(M ++ [Cl.dct (tbS t)] ++ E)[M.length]? =some (.dct (tbS t)):=fun E=>by
    rw[List.append_assoc,List.getElem?_append_right (Nat.le_refl _),Nat.sub_self];rfl
  refine⟨E ++ E2,?_⟩;unfold zbh;z_go;rw[zmJ,h1,if_pos ⟨by x_go,by rw[sizeLine_eq];omega⟩];z_go;rw[e2,List.append_assoc (M ++ [Cl.dct (tbS t)])];cases hb:rowB ws
  · rw[zqM hb];z_go;rw[zkP (by omega)];z_go
  · obtain⟨w,nm,r,f,rfl,hf,hp⟩:=zqT hb;have g1:=g_row (M:=M ++ [.dct (tbS t)] ++ (E ++ E2)) (nm:=nm) (r:=r) hf;rw[List.length_cons,List.length_cons]at h4;have g2:=g_hn (w:=w) (nm:=nm) (fr:=r.take f) (rs:=r.drop f) (hN (E ++ E2)) (by rw[List.length_take];omega);rw[hp];z_go;rw[List.map_cons,List.map_cons]at g1;rw[g1];z_go;rw[g2];cases hb2:nmsB t nm (r.take f)
    · z_go;rw[zkP (by omega)];z_go
    · have hg:gtS t nm=none:=by
        unfold nmsB at hb2;rw[Bool.and_eq_true]at hb2;exact Option.isNone_iff_eq_none.mp hb2.1
      z_go;rw[zva (k:=M.length) (kvs:=tbS t) (e:=.str nm) (x:=.str w) (key:=.inr nm) (M1:=M ++ [.dct (tbS t)] ++ (E ++ E2)) (M2:=M ++ [.dct (tbS t)] ++ (E ++ E2)) (M3:=M ++ [.dct (tbS t)] ++ (E ++ E2)) (by unfold rwD;z_go) (by z_go) (by unfold rwD;z_go) (hN _) rfl (by unfold tbS;rw[List.length_map,sizeLine_eq];omega),ztU hg];z_go;rw[if_pos (show acc.length<16777216 by omega)];z_go;rw[List.map_append,List.append_assoc M,List.append_assoc M,List.set_append_right _ _ (Nat.le_refl _),Nat.sub_self];rfl
def RdQ (M:Mm)(z:Str)(q:List RW ⊕ (Str×Nat))(o:E3.OS):Prop:=match q with
 |.inl rows=>∃E s3 s4 s5 s6,o=some (.nx [.val (.str z),.own (rows.map RW.D),.val (.ref M.length),s3,s4,s5,s6],M ++ E)
 |.inr (c,n)=>∃E,o=some (.ex c ((n:Int) + 1),M ++ E)
theorem zlD {z:Str}:∀(ls:List (Str×List Str)) (n:Nat) (t:List (Str×Str)) (acc:List RW) (E:Mm) (s3 s4 s5 s6:E3.Slot),(∀p∈ls,Ln p.1 p.2)->n + ls.length<=1000->acc.length + ls.length<=1000->t.length + ls.length<=1000->
    RdQ M z (rdL (ls.map (·.2)) n t acc) (zhl [3,4] zbh n (ls.map fun p=>D.str p.1) [.val (.str z),.own (acc.map RW.D),.val (.ref M.length),s3,s4,s5,s6] (M ++ [.dct (tbS t)] ++ E))
  | [],n,t,acc,E,s3,s4,s5,s6,_,_,_,_=>⟨[.dct (tbS t)] ++ E,s3,s4,s5,s6,by rw[<-List.append_assoc];rfl⟩
  |p::ls,n,t,acc,E,s3,s4,s5,s6,h,hn,ha,ht=>by
    rw[List.length_cons]at hn ha ht;obtain⟨E',e⟩:=zpO (M:=M) (z:=z) (acc:=acc) (t:=t) (E:=E) (n:=n) (s5:=s5) (s6:=s6) (h p (List.mem_cons_self ..)) (by omega) (by omega) (by omega);rw[List.map_cons,List.map_cons,zhl];rw[show setE [3,4] [D.int (n:Int),.str p.1] [.val (.str z),.own (acc.map RW.D),.val (.ref M.length),s3,s4,s5,s6]=some [.val (.str z),.own (acc.map RW.D),.val (.ref M.length),.val (.int n),.val (.str p.1),s5,s6] from rfl];dsimp only;rw[e];unfold rdL
    cases hp:rowP p.2 with
    |none=>exact⟨[.dct (tbS t)] ++ E',by rw[<-List.append_assoc]⟩
    |some r=>
      dsimp only
      by_cases hb:nmsB t r.nm r.fr=true
      · rw[if_pos hb,if_pos hb];exact zlD ls (n + 1) _ _ _ _ _ _ _ (fun q hq=>h q (List.mem_cons_of_mem _ hq)) (by omega) (by rw[List.length_append];simp;omega) (by rw[List.length_append];simp;omega)
      · rw[if_neg hb,if_neg hb];exact⟨[.dct (tbS t)] ++ E',by rw[<-List.append_assoc]⟩
theorem zuF {z:Str}{ls:List (Str×List Str)}{rows:List RW}(hz:Txt.split z (Str.ofString "\n")=ls.map (·.1))(hl:z.length<=10000000)(h:∀p∈ls,Ln p.1 p.2)(hn:ls.length<=900)(hr:rdL (ls.map (·.2)) 0 [] []=.inl rows):∃E,zbq [.str z] M=some (.v (.ref (M ++ E).length),M ++ E ++ [.lst (rows.map RW.D)]):=by
 have lp:=zlD (M:=M) (z:=z) ls 0 [] [] [] .un .un .un .un h (by omega) (by rw[List.length_nil];omega) (by rw[List.length_nil];omega);rw[List.append_nil]at lp;have en:zlO [3,4] (zad (sMt zhL (sVar 0) (zad (sCon (.str "\n")) sNil)) sNil) zbh [.val (.str z),.own [],.val (.ref M.length),.un,.un,.un,.un] (M ++ [.dct []])=zhl [3,4] zbh 0 (ls.map fun p=>D.str p.1) [.val (.str z),.own [],.val (.ref M.length),.un,.un,.un,.un] (M ++ [.dct []]):=by
  unfold zlO;z_go;rw[zmJ,hz,if_pos ⟨by x_go,by rw[sizeLine_eq];omega⟩];z_go;rw[List.map_map];rfl
 unfold zbq zdn;z_go;rw[zvZ];z_go;rw[en];revert lp;show RdQ M z _ (zhl [3,4] zbh 0 (ls.map fun p=>D.str p.1) [.val (.str z),.own [],.val (.ref M.length),.un,.un,.un,.un] (M ++ [.dct []]))->_;rw[hr];rintro⟨E,s3,s4,s5,s6,e⟩;refine⟨E,?_⟩;rw[e];z_go
theorem jT {ws:List Str}(h:(ws.map (·.length)).sum + ws.length<=1048576):ziD (Str.ofString " ") [.tup (ws.map D.str)]=some (.str (Txt.join (Str.ofString " ") ws)):=by
 unfold ziD;simp only[E3.strs_map];rw[if_pos ⟨by x_go,h⟩]
theorem jL {z:Str}{ws:List Str}(hz:z.length<=16)(h:(ws.map (·.length)).sum + ws.length<=1048576):zhn z [.lst (ws.map D.str)]=some (.str (Txt.join z ws)):=by
 unfold zhn;simp only[E3.strs_map];rw[if_pos ⟨hz,h⟩]
def RW.ws (r:RW):List Str:=r.w::r.nm::(r.fr ++ r.rs)
theorem zsg {r:RW}(h:(r.ws.map (·.length)).sum + r.ws.length<=1048576)(h1:r.ws.length<=900):zdf [r.D] M=some (.v (.str (Txt.join (Str.ofString " ") r.ws)),M):=by
 have hj:=jT h;unfold RW.ws at h1 hj ⊢;rw[List.length_cons,List.length_cons,List.length_append]at h1;unfold zdf zdU RW.D rwD;z_go;rw[if_pos (by omega)];z_go;rw[if_pos (by omega)];z_go;rw[show(D.str r.w::D.str r.nm::(r.fr.map D.str ++ r.rs.map D.str))=(r.w::r.nm::(r.fr ++ r.rs)).map D.str by simp,hj];z_go
theorem zkO {ds:List D}:zpr M (.tup ds)=some (.v (.lst ds),M):=rfl
theorem zrW {r:RW}(h:(r.ws.map (·.length)).sum + r.ws.length<=1048576)(h1:r.ws.length<=900):zgG [r.D] M=some (.v (.str (Txt.join (Str.ofString " ") r.ws)),M):=by
 have hj:=jL (z:=Str.ofString " ") (by x_go) h;unfold RW.ws at h1 hj ⊢;rw[List.length_cons,List.length_cons,List.length_append]at h1;unfold zgG zio RW.D rwD;z_go;rw[zkO];z_go;rw[if_pos (by omega)];z_go;rw[zkO];z_go;rw[if_pos (by omega)];z_go;rw[show(D.str r.w::D.str r.nm::(r.fr.map D.str ++ r.rs.map D.str))=(r.w::r.nm::(r.fr ++ r.rs)).map D.str by simp,hj];z_go
def RW.sh (r:RW):Prop:=(r.ws.map (·.length)).sum + r.ws.length<=20000/\r.ws.length<=900
def txt (rs:List RW):Str:=Txt.join (Str.ofString "\n") (rs.map fun r=>Txt.join (Str.ofString " ") r.ws)
theorem znF {rs:List RW}(h:∀r∈rs,r.sh)(hn:rs.length<=900)(hl:((rs.map fun r=>Txt.join (Str.ofString " ") r.ws).map (·.length)).sum + rs.length<=1048576):za2 [.lst (rs.map RW.D)] M=some (.v (.str (txt rs)),M):=by
 unfold za2 zcV;z_go;rw[zdS RW.D (fun r=>D.str (Txt.join (Str.ofString " ") r.ws)) rs [] (fun r hr=>?_) (by rw[sizeLine_eq];simp;omega)]
 ·z_go;rw[show(rs.map fun r=>D.str (Txt.join (Str.ofString " ") r.ws))=(rs.map fun r=>Txt.join (Str.ofString " ") r.ws).map D.str by rw[List.map_map];rfl,jL (by x_go) (by rw[List.length_map];exact hl)];z_go;rfl
 ·unfold zet;z_go;rw[zsg (by have:=(h r hr).1;omega) (h r hr).2];z_go
theorem zrU {r:RW}:r.D.dep<=3:=by
 unfold RW.D rwD;simp only[D.dep,D.deps,ziK];omega
theorem zmV:∀rs:List RW,D.deps (rs.map RW.D)<=3
  | []=>Nat.zero_le _
  |r::rs=>by
    have:=zrU (r:=r);have:=zmV rs;simp only[List.map_cons,D.deps];omega
theorem zlq {rs:List RW}(hn:rs.length<=50)(hl:(txt rs).length<=10000000)(hz:Txt.split (txt rs) (Str.ofString "\n")=rs.map fun r=>Txt.join (Str.ofString " ") r.ws)(hL:∀r∈rs,Ln (Txt.join (Str.ofString " ") r.ws) r.ws)(hr:rdL (rs.map RW.ws) 0 [] []=.inl rs):∃E,zbq [.str (txt rs)] M=some (.v (.ref (M ++ E).length),M ++ E ++ [.lst (rs.map RW.D)]):=by
 refine zuF (ls:=rs.map fun r=>(Txt.join (Str.ofString " ") r.ws,r.ws)) (by rw[hz,List.map_map];rfl) hl (fun p hp=>?_) (by rw[List.length_map];omega) (by rw[List.map_map];exact hr);obtain⟨r,h,rfl⟩:=List.mem_map.mp hp;exact hL r h
theorem zor {N:Mm}{c:E3.Cl}:(N ++ [c])[N.length]? =some c:=by simp
theorem zwA {N:Mm}{ds:List D}:vw (N ++ [.lst ds]) (.ref N.length)=.lst ds:=by
 unfold vw
 simp
theorem zqq {N:Mm}{ds:List D}:isiV isiT "list" (N ++ [.lst ds]) (tyM (N ++ [.lst ds]) (.ref N.length))=some (.v (.bl true),N ++ [.lst ds]):=by
 rw[show tyM (N ++ [.lst ds]) (.ref N.length)="list" by unfold tyM;simp];rfl
theorem zsG:∀l:List Str,D.nrs (l.map D.str)=true
 | []=>rfl
 |_::l=>zsG l
theorem zsr:∀rs:List RW,D.nrs (rs.map RW.D)=true
  | []=>rfl
  |r::rs=>by
    show(D.nr r.D && D.nrs (rs.map RW.D))=true;rw[zsr rs];unfold RW.D rwD;simp only[D.nr,D.nrs,zsG,Bool.and_self]
theorem zmp {fs:EA}{env:E3.Env}{N:Mm}{j:Nat}{rs:List RW}(hf:fs env N=some (.v [.ref j],N))(hc:N[j]? =some (.lst (rs.map RW.D)))(hs:∀r∈rs,r.sh)(hn:rs.length<=50)(hj:((rs.map fun r=>Txt.join (Str.ofString " ") r.ws).map (·.length)).sum + rs.length<=1048576):zgM za2 fs env N=some (.v (.str (txt rs)),N):=by
 unfold zgM;rw[hf];have e:[D.ref j].map (vw N)=[.lst (rs.map RW.D)]:=by
  show [vw N (.ref j)]=_;unfold vw;dsimp only;rw[hc]
 show (match za2 ([D.ref j].map (vw N)) [] with
  |some (.v d,_)=>if (D.lf d && D.nrs ([D.ref j].map (vw N)))=true then some (Res.v d,N) else none
  |_=>none)=_
 rw[e,znF hs (by omega) hj];show(if (true && D.nrs [.lst (rs.map RW.D)])=true then some (Res.v (.str (txt rs)),N) else none)=_
 rw[if_pos (by simp only[D.nrs,D.nr,zsr,Bool.and_self])]
theorem zmU {N E:Mm}{c c':E3.Cl}:(N ++ [c] ++ E ++ [c'])[N.length]? =some c:=by
 rw[List.append_assoc,List.append_assoc,List.getElem?_append_right (Nat.le_refl _),Nat.sub_self];rfl
theorem zmj {N E:Mm}{c c' d:E3.Cl}:(N ++ [c] ++ E ++ [c']).set N.length d=N ++ [d] ++ E ++ [c']:=by
 rw[List.append_assoc,List.append_assoc,List.set_append_right _ _ (Nat.le_refl _),Nat.sub_self,List.append_assoc,List.append_assoc];rfl
theorem zm0 {N E:Mm}{c d:E3.Cl}:(N ++ [c] ++ E).length=(N ++ [d] ++ E).length:=by simp
theorem zpX {d0:D}{rs:List RW}(hs:∀r∈rs,r.sh)(hn:rs.length<=50)(h0:rs≠ [])(hj:((rs.map fun r=>Txt.join (Str.ofString " ") r.ws).map (·.length)).sum + rs.length<=1048576)(hl:(txt rs).length<=10000000)(hz:Txt.split (txt rs) (Str.ofString "\n")=rs.map fun r=>Txt.join (Str.ofString " ") r.ws)(hL:∀r∈rs,Ln (Txt.join (Str.ofString " ") r.ws) r.ws)(hr:rdL (rs.map RW.ws) 0 [] []=.inl rs):∃N,endS (zia [.val d0,.val (.lst (rs.map RW.D)),.un,.un,.un] M)=some (.v (.bl true),N):=by
 have dp:(D.lst (rs.map RW.D)).dep<=50:=by have:=zmV rs;simp only[D.dep];omega
 obtain⟨E1,e1⟩:=zlq (M:=M) hn hl hz hL hr;unfold zia;z_go;rw[zdS RW.D (fun r=>D.str (Txt.join (Str.ofString " ") r.ws)) rs [] (fun r hr=>?_) (by rw[sizeLine_eq];simp;omega)]
 rotate_left
 ·unfold zmy;z_go;rw[zrW (by have:=(hs r hr).1;omega) (hs r hr).2];z_go
 z_go;rw[show(rs.map fun r=>D.str (Txt.join (Str.ofString " ") r.ws))=(rs.map fun r=>Txt.join (Str.ofString " ") r.ws).map D.str by rw[List.map_map];rfl,jL (by x_go) (by rw[List.length_map];exact hj)];rw[show Txt.join (Str.ofString "\n") (rs.map fun r=>Txt.join (Str.ofString " ") r.ws)=txt rs from rfl];z_go;unfold zlY;z_go;rw[e1];z_go;unfold zmw;z_go;rw[zqq];z_go;rw[zsu dp];z_go;unfold zmx;have l4:zgM za2 (zad (sVar 3) sNil) [.val d0,.val (.lst (rs.map RW.D)),.val (.str (txt rs)),.val (.ref (M ++ E1).length),.un] (M ++ E1 ++ [.lst (rs.map RW.D)])=some (.v (.str (txt rs)),M ++ E1 ++ [.lst (rs.map RW.D)]):=zmp (j:=(M ++ E1).length) (by z_go) zor hs hn hj;z_go;rw[l4];z_go;rw[zsu dp];z_go;obtain⟨E2,e2⟩:=zlq (M:=M ++ E1 ++ [.lst (rs.map RW.D)]) hn hl hz hL hr;unfold zlA;z_go;rw[e2];z_go;unfold zmY;z_go;rw[zmU];z_go;rw[if_pos (by omega),zmj];z_go;unfold znd;have iz:ixN (rs.map RW.D ++ [D.tup [D.str (Str.ofString "in"),D.str (Str.ofString "z"),D.tup [],D.tup []]]).length 0=some 0:=by
  unfold ixN
  simp
 rw[zpa,zwq (x:=.tup [.str "in",.str "y",.tup [],.tup []]) (k:=(M ++ E1).length) (i:=0) (j:=0) (M1:=M ++ E1 ++ [.lst (rs.map RW.D ++ [D.tup [D.str (Str.ofString "in"),D.str (Str.ofString "z"),D.tup [],D.tup []]])] ++ E2 ++ [.lst (rs.map RW.D)]) (M2:=M ++ E1 ++ [.lst (rs.map RW.D ++ [D.tup [D.str (Str.ofString "in"),D.str (Str.ofString "z"),D.tup [],D.tup []]])] ++ E2 ++ [.lst (rs.map RW.D)]) (M3:=M ++ E1 ++ [.lst (rs.map RW.D ++ [D.tup [D.str (Str.ofString "in"),D.str (Str.ofString "z"),D.tup [],D.tup []]])] ++ E2 ++ [.lst (rs.map RW.D)]) (by z_go) (by z_go) (by z_go) zmU iz,zmj];z_go;generalize (List.set _ 0 _:List D)=Z;have hc:(M ++ E1 ++ [Cl.lst Z] ++ E2 ++ [.lst (rs.map RW.D)])[(M ++ E1 ++ [Cl.lst (rs.map RW.D)] ++ E2).length]? =some (.lst (rs.map RW.D)):=by
  rw[zm0 (d:=.lst Z)];exact zor
 obtain⟨E3,e3⟩:=zlq (M:=M ++ E1 ++ [.lst Z] ++ E2 ++ [.lst (rs.map RW.D)]) hn hl hz hL hr;unfold zmP;rw[zm0 (c:=.lst (rs.map RW.D)) (d:=.lst Z)]at hc ⊢;z_go;rw[zrH dp];z_go;rw[e3];z_go;rw[zrH dp];z_go;rw[zmp (j:=(M ++ E1 ++ [Cl.lst Z] ++ E2).length) (by z_go) zmU hs hn hj];z_go;exact⟨_,rfl⟩
theorem zlI {c B:Nat}:∀(ps:List (List Nat)),(∀p∈ps,p.length<=B)->(jn c ps).length<=ps.length * (B + 1)
  | [],_=>by simp[jn]
  | [p],h=>by have:=h p (by simp);simp[jn];omega
  |p::q::r,h=>by
    have:=zlI (c:=c) (q::r) fun x hx=>h x (List.mem_cons_of_mem _ hx);have hp:=h p (by simp);rw[jn,List.length_append,List.length_cons,List.length_cons,Nat.succ_mul];omega
theorem zo4 {c d:Nat}:∀(ps:List (List Nat)),d∈jn c ps->d=c\/∃p∈ps,d∈p
  | [],h=>by cases h
  | [p],h=>.inr ⟨p,by simp,h⟩
  |p::q::r,h=>by
    rw[jn,List.mem_append,List.mem_cons]at h;rcases h with h |rfl |h
    · exact .inr ⟨p,by simp,h⟩
    · exact .inl rfl
    · rcases zo4 (q::r) h with h |⟨x,hx,h⟩
      · exact .inl h
      · exact .inr ⟨x,List.mem_cons_of_mem _ hx,h⟩
theorem zo9:Str.ofString " "=⟨#[32]⟩:=by x_go
theorem zsN:Str.ofString "\n"=⟨#[10]⟩:=by x_go
theorem zoV {ws:List Str}{B:Nat}(h:∀x∈ws,x.length<=B):(ws.map (·.length)).sum<=ws.length * B:=by
  induction ws with
  |nil=>simp
  |cons w ws ih=>
    have:=h w (by simp);have:=ih fun x hx=>h x (List.mem_cons_of_mem _ hx);rw[List.map_cons,List.sum_cons,List.length_cons,Nat.succ_mul];omega
def wd (x:Str):Prop:=x.length<=60/\∀c∈cd x,c<4294967296/\c≠10/\c≠32
theorem zvY {ws:List Str}(h:∀x∈ws,wd x)(hn:ws≠ [])(hl:ws.length<=60):Ln (Txt.join (Str.ofString " ") ws) ws/\10∉cd (Txt.join (Str.ofString " ") ws)/\(Txt.join (Str.ofString " ") ws).length<=4000:=by
 have hj:=zlQ zo9 ws;have hb:(Txt.join (Str.ofString " ") ws).length<=4000:=by
  rw[zb4,hj];refine Nat.le_trans (zlI (B:=60) _ fun p hp=>?_) ?_
  ·obtain⟨z,hz,rfl⟩:=List.mem_map.mp hp;rw[<-zb4];exact(h z hz).1
  ·rw[List.length_map];omega
 refine⟨⟨?_,by omega,fun x hx=>⟨by have:=(h x hx).1;omega,fun c hc=>((h x hx).2 c hc).1⟩,by omega⟩,?_,hb⟩
 ·rw[zo9];refine zkd hn (fun y hy z=>((h y hy).2 32 z).2.2 rfl) ?_;rw[<-zo9,hj]
 ·rw[hj];intro z;rcases zo4 _ z with z |⟨p,hp,z⟩
  ·exact absurd z (by decide)
  ·obtain⟨y,hy,rfl⟩:=List.mem_map.mp hp;exact((h y hy).2 10 z).2.1 rfl
def RW.wf (r:RW):Prop:=(∀x∈r.ws,wd x)/\r.ws.length<=60
theorem zsp {rs:List RW}(h:∀r∈rs,r.wf)(hn:rs≠ [])(hl:rs.length<=50):Txt.split (txt rs) (Str.ofString "\n")=(rs.map fun r=>Txt.join (Str.ofString " ") r.ws)/\(txt rs).length<=10000000/\(∀r∈rs,Ln (Txt.join (Str.ofString " ") r.ws) r.ws)/\((rs.map fun r=>Txt.join (Str.ofString " ") r.ws).map (·.length)).sum + rs.length<=1048576/\∀r∈rs,r.sh:=by
 have hw:∀r∈rs,_:=fun r hr=>zvY (h r hr).1 (by unfold RW.ws;simp) (h r hr).2;have hj:=zlQ zsN (rs.map fun r=>Txt.join (Str.ofString " ") r.ws);refine⟨?_,?_,fun r hr=>(hw r hr).1,?_,fun r hr=>⟨?_,by have:=(h r hr).2;omega⟩⟩
 ·rw[zsN];refine zkd (by simpa using hn) (fun y hy=>?_) ?_
  ·obtain⟨r,hr,rfl⟩:=List.mem_map.mp hy;exact(hw r hr).2.1
  ·exact hj
 ·unfold txt;rw[zb4,hj];refine Nat.le_trans (zlI (B:=4000) _ fun p hp=>?_) ?_
  ·obtain⟨z,hz,rfl⟩:=List.mem_map.mp hp;obtain⟨r,hr,rfl⟩:=List.mem_map.mp hz;rw[<-zb4];exact(hw r hr).2.2
  ·rw[List.length_map,List.length_map];omega
 ·have:=zoV (ws:=rs.map fun r=>Txt.join (Str.ofString " ") r.ws) (B:=4000) fun x hx=>by
   obtain⟨r,hr,rfl⟩:=List.mem_map.mp hx;exact(hw r hr).2.2
  rw[List.length_map]at this;omega
 ·have:=zoV (B:=60) fun x hx=>((h r hr).1 x hx).1;have:=(h r hr).2;omega
def nw2 (r:RW):Str×Str:=(r.nm,r.w)
def RWS (rs:List RW):Prop:=∀(as:List RW) (r:RW) (bs:List RW),rs=as ++ r::bs->rowP r.ws=some r/\nmsB (as.map nw2) r.nm r.fr=true
theorem ztP:∀(bs as:List RW) (n:Nat),RWS (as ++ bs)->rdL (bs.map RW.ws) n (as.map nw2) as=.inl (as ++ bs)
  | [],as,n,_=>by rw[List.append_nil];rfl
  |r::bs,as,n,h=>by
    obtain⟨h1,h2⟩:=h as r bs rfl;rw[List.map_cons,rdL,h1];dsimp only;rw[if_pos h2,show as.map nw2 ++ [(r.nm,r.w)]=(as ++ [r]).map nw2 by rw[List.map_append];rfl];rw[ztP bs (as ++ [r]) (n + 1) (by rw[List.append_assoc];exact h),List.append_assoc];rfl
theorem zp7 {rs:List RW}(h:RWS rs):rdL (rs.map RW.ws) 0 [] []=.inl rs:=ztP rs [] 0 h
theorem RWS.add {rs:List RW}{r:RW}(h:RWS rs)(h1:rowP r.ws=some r)(h2:nmsB (rs.map nw2) r.nm r.fr=true):RWS (rs ++ [r]):=fun as q bs e=>by
 rcases List.eq_nil_or_concat bs with rfl |⟨cs,x,rfl⟩
 ·obtain⟨e1,e2⟩:=List.append_inj' e rfl;cases e2;rw[<-e1];exact⟨h1,h2⟩
 ·rw[List.concat_eq_append, <-List.cons_append, <-List.append_assoc]at e;obtain⟨e,_⟩:=List.append_inj' e rfl;exact h as q cs e
theorem ztW {d0:D}{rs:List RW}(hw:∀r∈rs,r.wf)(hR:RWS rs)(hn:rs.length<=50)(h0:rs≠ []):∃N,endS (zia [.val d0,.val (.lst (rs.map RW.D)),.un,.un,.un] M)=some (.v (.bl true),N):=by
 obtain⟨t1,t2,t3,t4,t5⟩:=zsp hw h0 hn;exact zpX t5 hn h0 t4 t2 t1 t3 (zp7 hR)
theorem zju {n:Int}(h0:0<=n)(h1:n<10000000000000):n.natAbs.log2<1920:=zma (by omega)
theorem strs_map:∀l:List Str,zhp (l.map .str)=some l
 | []=>rfl
 |a::l=>by simp only[List.map_cons,zhp,strs_map l];rfl
theorem zqy:∀c∈cd (Str.ofString "abcdefghijklmnopqrstuvwxyz"),ltr c=true:=by x_go
theorem zgp:∀cs:List Nat,Str.join (Str.ofString "") (cs.map fun c=>(⟨#[c]⟩:Str))=(⟨cs.toArray⟩:Str)
  | []=>rfl
  | [c]=>rfl
  |c::d::r=>by
    have ih:=zgp (d::r);have e0:(Str.ofString "").cps= #[]:=by x_go
    show(⟨#[c]⟩:Str) ++ Str.ofString "" ++ Str.join (Str.ofString "") ((d::r).map fun c=>(⟨#[c]⟩:Str))=_;rw[ih];have e:((⟨#[c]⟩:Str) ++ Str.ofString "" ++ (⟨(d::r).toArray⟩:Str)).cps=(c::d::r).toArray:=by
      rw[Str.cps_append,Str.cps_append,e0]
      simp
    exact congrArg Str.mk e
theorem zlb (cs:List Nat):Txt.join (Str.ofString "") (cs.map fun c=>(⟨#[c]⟩:Str))=(⟨cs.toArray⟩:Str):=by
 show Builtin.Str.glued (Str.ofString "") _=_;rw[StrLaws.glued_eq_join];exact zgp cs
theorem zmd (cs:List Nat):((cs.map fun c=>(⟨#[c]⟩:Str)).map (·.length)).sum=cs.length:=by
 induction cs with
 |nil=>rfl
 |cons c r ih=>simp only[List.map_cons,List.sum_cons,ih,List.length_cons];rw[show(⟨#[c]⟩:Str).length=1 from rfl];omega
theorem zj5 {x:Str}{j:Int}(h:0<=j/\j<=x.length):cd (Txt.slice x none (some j))=(cd x).take j.toNat:=by
 have:=PyProof.Rows.slice_closes_to (x:=x) (j:=j) ⟨h.1,by show j<=((cd x).length:Int);rw[<-zb4];exact h.2⟩;rw[eq_of_beq this];show List.take (j - 0).toNat (List.drop (0:Int).toNat (cd x))=_;rw[Int.sub_zero];rfl
theorem zkn {x:Str}{j:Int}(h:0<=j/\j<=x.length):cd (Txt.slice x (some j) none)=(cd x).drop j.toNat:=by
 have:=PyProof.Rows.slice_closes_from (x:=x) (i:=j) ⟨h.1,by show j<=((cd x).length:Int);rw[<-zb4];exact h.2⟩;rw[eq_of_beq this];show List.take (((cd x).length:Int) - j).toNat (List.drop j.toNat (cd x))=_;rw[List.take_of_length_le];rw[List.length_drop];omega
theorem zm5 {i x:Int}(i0:0<=i)(i1:i<=10):∃c:Nat,ltr c=true/\∀M:Mm,zfg [.val (.int i),.val (.int x)] M=some (.v (.str ⟨#[c]⟩),M):=by
 have p0:=Int.emod_nonneg (x / (3 + 7 * i)) (show(26:Int)≠0 by decide);have p1:=Int.emod_lt_of_pos (x / (3 + 7 * i)) (show(0:Int)<26 by decide);generalize ep:x / (3 + 7 * i) % 26=y at p0 p1;have hl:(cd (Str.ofString "abcdefghijklmnopqrstuvwxyz")).length=26:=by x_go
 have hx:=List.getElem?_eq_getElem (show y.toNat<(cd (Str.ofString "abcdefghijklmnopqrstuvwxyz")).length by omega);have ha:=zcA hx;rw[Int.toNat_of_nonneg p0]at ha;refine⟨(cd (Str.ofString "abcdefghijklmnopqrstuvwxyz"))[y.toNat]'(by omega),zqy _ (List.getElem_mem _),fun M=>?_⟩;unfold zfg;z_go;rw[if_pos ⟨by omega,by omega⟩];z_go;rw[ep,if_pos (by x_go),show(Str.ofString "abcdefghijklmnopqrstuvwxyz").cps.toList=cd (Str.ofString "abcdefghijklmnopqrstuvwxyz") from rfl,ha];z_go
theorem zpM {x k:Int}(hk:0<=k/\k<=1000):∃(nm:Str) (as bs:List Nat),cd nm=as ++ cd (shw k) ++ bs/\as≠ []/\as.length + bs.length<=10/\(∀c∈as ++ bs,ltr c=true)/\∀M:Mm,zgF [.int x,.int k] M=some (.v (.str nm),M):=by
 have m0:=Int.emod_nonneg x (show(10:Int)≠0 by decide);have m1:=Int.emod_lt_of_pos x (show(0:Int)<10 by decide);have hF:∃F:Nat->Nat,(∀i,i<=10->ltr (F i)=true)/\∀(M:Mm) (i:Nat),i<=10->zfg [.val (.int (0 + i)),.val (.int x)] M=some (.v (.str ⟨#[F i]⟩),M):=by
  refine⟨fun i=>if h:i<=10 then(zm5 (i:=(0:Int) + i) (x:=x) (by omega) (by omega)).choose else 0,fun i hi=>?_,fun M i hi=>?_⟩
  ·simp only[hi,dif_pos];exact(zm5 (i:=(0:Int) + i) (x:=x) (by omega) (by omega)).choose_spec.1
  ·simp only[hi,dif_pos];exact(zm5 (i:=(0:Int) + i) (x:=x) (by omega) (by omega)).choose_spec.2 M
 obtain⟨F,hLt,hF⟩:=hF;have hn:(1 + x % 10).toNat<=10:=by omega
 generalize hw:(⟨((List.range (1 + x % 10).toNat).map F).toArray⟩:Str)=word;have hwl:word.length=(1 + x % 10).toNat:=by rw[<-hw];show(((List.range (1 + x % 10).toNat).map F).toArray).size=_;simp
 have q0:=Int.emod_nonneg (x / 11) (show(word.length:Int)≠0 by omega);have q1:=Int.emod_lt_of_pos (x / 11) (show(0:Int)<(word.length:Int) by omega);have l1:(Txt.slice word none (some (1 + x / 11 % (word.length:Int)))).length<=10:=by
  rw[zb4,zj5 ⟨by omega,by omega⟩,List.length_take, <-zb4];omega
 have l2:(Txt.slice word (some (1 + x / 11 % (word.length:Int))) none).length<=10:=by
  rw[zb4,zkn ⟨by omega,by omega⟩,List.length_drop, <-zb4];omega
 obtain⟨wl,_⟩:=ztx (i:=k) hk.1 (by omega);have hcw:∀c∈cd word,ltr c=true:=fun c hc=>by
  rw[<-hw]at hc;obtain⟨i,hi,rfl⟩:=List.mem_map.mp (show c∈(List.range (1 + x % 10).toNat).map F by simpa [cd] using hc);exact hLt i (by rw[List.mem_range]at hi;omega)
 have hlw:(cd word).length=(1 + x % 10).toNat:=by rw[<-zb4];exact hwl
 refine⟨Txt.slice word none (some (1 + x / 11 % (word.length:Int))) ++ shw k ++ Txt.slice word (some (1 + x / 11 % (word.length:Int))) none,(cd word).take (1 + x / 11 % (word.length:Int)).toNat,(cd word).drop (1 + x / 11 % (word.length:Int)).toNat,?_,?_,?_,?_,fun M=>?_⟩
 ·rw[zht,zht,zj5 ⟨by omega,by omega⟩,zkn ⟨by omega,by omega⟩]
 ·intro z;have:=congrArg List.length z;rw[List.length_take,List.length_nil]at this;omega
 ·rw[List.length_take,List.length_drop];omega
 ·rw[List.take_append_drop];exact hcw
 unfold zgF zim;z_go;rw[ziO (by omega)];z_go;rw[zdS (fun(i:Nat)=>D.int (0 + i)) (fun(i:Nat)=>D.str ⟨#[F i]⟩) (List.range (1 + x % 10).toNat) [] (fun i hi=>hF M i (by rw[List.mem_range]at hi;omega)) (by rw[sizeLine_eq,List.length_range];simp;omega)];z_go;have hj:zhn (Str.ofString "") [.lst ((List.range (1 + x % 10).toNat).map fun(i:Nat)=>D.str ⟨#[F i]⟩)]=some (.str word):=by
  rw[show((List.range (1 + x % 10).toNat).map fun(i:Nat)=>D.str ⟨#[F i]⟩)=(((List.range (1 + x % 10).toNat).map F).map fun c=>(⟨#[c]⟩:Str)).map .str by rw[List.map_map,List.map_map];rfl];simp only[zhn,strs_map,zmd,zlb,List.length_map,List.length_range];rw[if_pos ⟨by x_go,by omega⟩,hw]
 rw[hj];z_go;rw[if_pos (show word.length<=16777216 by omega)];z_go;rw[if_pos (show(0:Int)<(word.length:Int) by omega)];z_go;rw[if_pos (show word.length<=16777216 by omega)];z_go;rw[if_pos (zju hk.1 (by omega))];z_go;have wl':(Str.ofString (toString k)).length<=22:=wl;rw[if_pos (by omega)];z_go;rw[if_pos (show word.length<=16777216 by omega)];z_go;rw[if_pos (by rw[strLen_append];omega)];z_go;rfl
theorem zoS {k:Int}(h0:0<=k):∀c∈cd (shw k),48<=c/\c<=57:=fun c hc=>by
 unfold cd at hc;rw[zeR h0]at hc;exact zhJ k.toNat c hc
theorem zoY {c:Nat}(h:ltr c=true):97<=c/\c<=122:=by
 unfold ltr at h
 simpa using h
theorem zwd {nm:Str}{as bs:List Nat}{k:Int}(e:cd nm=as ++ cd (shw k) ++ bs)(ha:as≠ [])(hl:as.length + bs.length<=10)(hc:∀c∈as ++ bs,ltr c=true)(h0:0<=k)(h1:k<100):nmB nm=true/\wd nm/\(cd nm).filter (fun c=>decide (c<=57))=cd (shw k):=by
 have hd:=zoS h0;have hs:(cd (shw k)).length<=2:=by
  unfold cd;rw[zeR h0];exact ziy (k:=2) (by decide) (by rw[show(10:Nat) ^ 2=100 by decide];omega)
 have hm:∀c∈cd nm,ltr c=true\/(48<=c/\c<=57):=fun c h=>by
  rw[e,List.mem_append,List.mem_append]at h;rcases h with(h |h) |h
  ·exact .inl (hc c (List.mem_append.mpr (.inl h)))
  ·exact .inr (hd c h)
  ·exact .inl (hc c (List.mem_append.mpr (.inr h)))
 have hn:(cd nm).length<=12:=by rw[e,List.length_append,List.length_append];omega
 refine⟨?_,⟨by rw[zb4];omega,fun c h=>?_⟩,?_⟩
 ·obtain⟨a,as,rfl⟩:=List.exists_cons_of_ne_nil ha;have ea:cd nm=a::(as ++ cd (shw k) ++ bs):=by rw[e];rfl
  unfold nmB;rw[ea]at hn hm ⊢;rw[List.length_cons]at hn;simp only[Bool.and_eq_true,decide_eq_true_eq];refine⟨by omega,hc a (by simp),List.all_eq_true.mpr fun c h=>?_⟩;unfold nmc;rcases hm c h with z |z
  ·rw[z,Bool.true_or]
  ·rw[show dgc c=true by unfold dgc;simp;omega,Bool.or_true]
 ·rcases hm c h with z |z
  ·have:=zoY z;omega
  ·omega
 ·have hf:∀l:List Nat,(∀c∈l,ltr c=true)->l.filter (fun c=>decide (c<=57))=[]:=fun l h=>by
   rw[List.filter_eq_nil_iff];intro c hc';have:=zoY (h c hc')
   simp
   omega
  rw[e,List.filter_append,List.filter_append,hf as fun c h=>hc c (List.mem_append.mpr (.inl h)),hf bs fun c h=>hc c (List.mem_append.mpr (.inr h)),List.append_nil,List.nil_append,List.filter_eq_self];intro c h;have:=hd c h
  simp
  omega
theorem zoQ {i j:Nat}(hi:i<1000)(hj:j<1000)(h:cd (shw (i:Int))=cd (shw (j:Int))):i=j:=by
 have e:shw (i:Int)=shw (j:Int):=by
  generalize shw (i:Int)=x at h;generalize shw (j:Int)=y at h;obtain⟨⟨x⟩⟩:=x;obtain⟨⟨y⟩⟩:=y;exact congrArg (fun l=>(⟨⟨l⟩⟩:Str)) h
 have b:∀n:Nat,n<1000->((n:Int).natAbs<10 ^ 600):=fun n hn=>Nat.lt_of_lt_of_le (show(n:Int).natAbs<10 ^ 3 by rw[Int.natAbs_natCast];exact hn) (Nat.pow_le_pow_right (by decide) (by decide));have h1:=zjy (b i hi);rw[e,zjy (b j hj)]at h1;have:=Option.some.inj h1;omega
theorem zux:LG "tv":=⟨by x_go,fun c hc=>by revert c;decide +kernel⟩
theorem zsT:LG "tvw":=⟨by x_go,fun c hc=>by revert c;decide +kernel⟩
theorem zdw {a:Int}(h0:0<=a)(h1:a<=1000000000000):cntB (shw a)=true/\vl (shw a)=a/\wd (shw a):=by
 have hl:(dg a.toNat).length<=13:=ziy (by decide) (by rw[show(10:Nat) ^ 13=10000000000000 by decide];omega);have e:cd (shw a)=dg a.toNat:=zeR h0;have hl2:(shw a).length<=13:=by rw[zb4,e];exact hl
 have c:cntB (shw a)=true:=by
  unfold cntB;rw[decide_eq_true (show(shw a).length<=20 by omega),e,zlT];rfl
 refine⟨c,?_,by omega,fun x hx=>?_⟩
 ·have h:=(zjV c).1;rw[zjy (Nat.lt_of_lt_of_le (show a.natAbs<10 ^ 13 by rw[show(10:Nat) ^ 13=10000000000000 by decide];omega) (Nat.pow_le_pow_right (by decide) (by decide)))]at h;exact(Option.some.inj h).symm
 ·have:=zoS h0 x hx;omega
theorem zi9 {a lo hi:Int}(h0:0<=a)(h1:a<=1000000000000)(h2:lo<=a)(h3:a<=hi):cwB (shw a) lo hi=true:=by
 obtain⟨c,v,_⟩:=zdw h0 h1;unfold cwB;rw[c,v,decide_eq_true h2,decide_eq_true h3];rfl
def wdB (x:Str):Bool:=decide (x.length<=60) && (cd x).all fun c=>decide (c<4294967296) && (!decide (c=10) && !decide (c=32))
theorem znu {x:Str}(h:wdB x=true):wd x:=by
 unfold wdB at h;rw[Bool.and_eq_true,decide_eq_true_eq,List.all_eq_true]at h;refine⟨h.1,fun c hc=>?_⟩;have:=h.2 c hc;simp only[Bool.and_eq_true,decide_eq_true_eq,Bool.not_eq_true',decide_eq_false_iff_not]at this;exact this
theorem zvU:NT.all (fun p=>wdB p.1)=true:=by x_go
theorem zvu:FT.all (fun p=>wdB p.1)=true:=by x_go
theorem ztX {x:Str}{n:Nat}(h:frm x=some n):wd x:=by
 unfold frm at h;rw[Option.map_eq_some_iff]at h;obtain⟨p,hp,rfl⟩:=h;have h1:=List.find?_some hp;rw[<-of_decide_eq_true h1];exact znu (List.all_eq_true.mp zvu _ (List.mem_of_find?_eq_some hp))
theorem zuS {x L:Str}(h:lf x L=true):wd x:=by
  unfold lf at h;rw[Bool.or_eq_true,Bool.and_eq_true]at h;rcases h with h |⟨h,_⟩
  · unfold isn at h;rw[Bool.and_eq_true,decide_eq_true_eq]at h;obtain⟨g,hl⟩:=h;unfold good at g;rw[Bool.and_eq_true]at g;obtain⟨_,ad,_⟩:=ziu g.2;have hd:∀c∈fgs (cd x),48<=c/\c<=57:=ad;unfold fgs at hl hd;split at hd
    · rename_i h45;rw[if_pos h45]at hl
      cases e:cd x with
      |nil=>rw[e]at h45;cases h45
      |cons c r=>
        rw[e]at h45 hl hd;cases h45;rw[List.tail_cons]at hl hd;refine⟨by rw[zb4,e,List.length_cons];omega,fun c hc=>?_⟩;rw[e,List.mem_cons]at hc;rcases hc with rfl |hc
        · omega
        · have:=hd c hc;omega
    · rename_i h45;rw[if_neg h45]at hl;exact⟨by rw[zb4];omega,fun c hc=>by have:=hd c hc;omega⟩
  · unfold tvw at h;simp only[Bool.or_eq_true,decide_eq_true_eq]at h;rcases h with(rfl |rfl) |rfl<;>exact znu (by x_go)
theorem zoN {L:Str}:∀{ws ks:List Str} {k:List Str},runK L ws ks=some k->∀x∈ws,wd x
  | [],_,_,_,x,hx=>by cases hx
  |y::ws,ks,k,h,x,hx=>by
    rw[runK]at h
    cases hs:stepK L y ks with
    |none=>rw[hs]at h;cases h
    |some k2=>
      rw[hs]at h;rcases List.mem_cons.mp hx with rfl |hx
      · unfold stepK at hs;split at hs
        · rename_i q hq;exact znu (List.all_eq_true.mp zvU _ (zoG hq))
        · split at hs
          · rename_i hl;exact zuS hl
          · cases hs
      · exact zoN h x hx
theorem zjF {L:Str}{ws k:List Str}(h:runK L ws.reverse []=some k):∀x∈ws,wd x:=fun x hx=>zoN h x (List.mem_reverse.mpr hx)
variable {M:Mm}
structure RK (ab:List Str)(r:RW):Prop where
 fm:frm r.w=some r.fr.length\/(r.w="pour"/\2<=r.fr.length/\r.fr.length<=8/\r.rs=[])
 fr:∀f∈r.fr,f∈ab
 re:rstB r.w r.rs=true
 wd:∀x∈r.rs,wd x
 le:r.rs.length<=45
theorem wd2 {a b:Str}(ha:wd a)(hb:wd b):∀x∈ [a,b],wd x:=fun x hx=>by
 rcases List.mem_cons.mp hx with rfl |hx
 ·exact ha
 ·rw[List.mem_singleton]at hx;rw[hx];exact hb
theorem wd3 {a b c:Str}(ha:wd a)(hb:wd b)(hc:wd c):∀x∈ [a,b,c],wd x:=fun x hx=>by
 rcases List.mem_cons.mp hx with rfl |hx
 ·exact ha
 ·exact wd2 hb hc x hx
theorem one1 {f:Str}{ab:List Str}(h:f∈ab):∀g∈ [f],g∈ab:=fun g hg=>by rw[List.mem_singleton]at hg;rw[hg];exact h
theorem two2 {f g:Str}{ab:List Str}(h:f∈ab)(h':g∈ab):∀x∈ [f,g],x∈ab:=fun x hx=>by
 rcases List.mem_cons.mp hx with rfl |hx
 ·exact h
 ·exact one1 h' x hx
theorem no0 {p:Str->Prop}:∀x∈([]:List Str),p x:=fun x hx=>by cases hx
theorem zok {x:Str}(h:fldB x=true):wd x:=by
 unfold fldB at h;simp only[Bool.or_eq_true,decide_eq_true_eq]at h;rcases h with((rfl |rfl) |rfl) |rfl<;>exact znu (by x_go)
section
variable {ab:List Str}{nm f g fold:Str}{ws:List Str}{a b:Int}
theorem zuG:RK ab ⟨"in",nm,[],[]⟩:=⟨.inl (by x_go:frm "in"=some 0),no0,(by x_go:rstB "in" []=true),no0,Nat.zero_le _⟩
theorem zrT (h:f∈ab):RK ab ⟨"out",nm,[f],[]⟩:=⟨.inl (by x_go:frm "out"=some 1),one1 h,(by x_go:rstB "out" []=true),no0,Nat.zero_le _⟩
theorem zvT {ws:List Str}:rstB "keep" ws=exB "tv" "truth" ws:=by unfold rstB;rw[if_pos rfl]
theorem zvD {ws:List Str}:rstB "turn" ws=exB "tv" "number" ws:=by unfold rstB;rw[if_neg (by x_go),if_pos rfl]
theorem zuM {ws:List Str}:rstB "share" ws=shrB ws:=by unfold rstB;rw[if_neg (by x_go),if_neg (by x_go),if_pos rfl]
theorem zwh {ws:List Str}:rstB "slide" ws=sldB ws:=by unfold rstB;rw[if_neg (by x_go),if_neg (by x_go),if_neg (by x_go),if_pos rfl]
theorem zuV {w:Str}{ws:List Str}(h:w="fixed"\/w="gap"):rstB w ws=widB ws:=by
 unfold rstB;rcases h with rfl |rfl<;>rw[if_neg (by x_go),if_neg (by x_go),if_neg (by x_go),if_neg (by x_go),if_pos (by x_go)]
theorem zvr {ws:List Str}:rstB "join" ws=jnB ws:=by unfold rstB;rw[if_neg (by x_go),if_neg (by x_go),if_neg (by x_go),if_neg (by x_go),if_neg (by x_go),if_pos rfl]
theorem zvB:rstB "pour" []=true:=by x_go
theorem zqF (h:f∈ab)(hr:runK "tv" ws.reverse []=some [Str.ofString "truth"])(hl:ws.length<=44):RK ab ⟨"keep",nm,[f],ws⟩:=⟨.inl (by x_go:frm "keep"=some 1),one1 h,by show rstB "keep" ws=true;rw[zvT];exact decide_eq_true hr,zjF hr,by show ws.length<=45;omega⟩
theorem zpv (h:f∈ab)(hr:runK "tv" ws.reverse []=some [Str.ofString "number"])(hl:ws.length<=44):RK ab ⟨"turn",nm,[f],ws⟩:=⟨.inl (by x_go:frm "turn"=some 1),one1 h,by show rstB "turn" ws=true;rw[zvD];exact decide_eq_true hr,zjF hr,by show ws.length<=45;omega⟩
theorem znN (h:f∈ab)(h0:0<=a)(h1:a<b)(h2:b<=8):RK ab ⟨"share",nm,[f],[shw a,shw b]⟩:=by
 refine⟨.inl (by x_go:frm "share"=some 1),one1 h,?_,wd2 (zdw h0 (by omega)).2.2 (zdw (by omega) (by omega)).2.2,by show 2<=45;decide⟩;show rstB "share" [shw a,shw b]=true;rw[zuM];show(cwB (shw b) 1 8 && cwB (shw a) 0 (vl (shw b) - 1))=true;rw[zi9 (by omega) (by omega) (by omega) h2,(zdw (a:=b) (by omega) (by omega)).2.1,zi9 h0 (by omega) h0 (by omega)];rfl
theorem zot (h0:1<=a)(h1:a<=1000000000000)(hf:fldB fold=true):widB [shw a,fold]=true:=by
 show(cwB (shw a) 1 1000000000000 && fldB fold)=true;rw[zi9 (by omega) h1 h0 h1,hf];rfl
theorem zoR {w:Str}(hw:w="fixed"\/w="gap")(h:f∈ab)(h0:1<=a)(h1:a<=1000000000000)(hf:fldB fold=true):RK ab ⟨w,nm,[f],[shw a,fold]⟩:=by
 refine⟨.inl ?_,one1 h,?_,wd2 (zdw (by omega) h1).2.2 (zok hf),by show 2<=45;decide⟩
 ·rcases hw with rfl |rfl
  ·exact(by x_go:frm "fixed"=some 1)
  ·exact(by x_go:frm "gap"=some 1)
 ·show rstB w [shw a,fold]=true;rw[zuV hw];exact zot h0 h1 hf
theorem znr (h:f∈ab)(h0:1<=b)(h1:b<=a)(h2:a<=8 * b)(h3:a<=1000000000000)(hf:fldB fold=true):RK ab ⟨"slide",nm,[f],[shw a,shw b,fold]⟩:=by
 refine⟨.inl (by x_go:frm "slide"=some 1),one1 h,?_,wd3 (zdw (by omega) h3).2.2 (zdw (by omega) (by omega)).2.2 (zok hf),by show 3<=45;decide⟩;show rstB "slide" [shw a,shw b,fold]=true;rw[zwh];show(widB [shw a,fold] && (cwB (shw b) 1 (vl (shw a)) && decide (vl (shw a)<=8 * vl (shw b))))=true;rw[zot (by omega) h3 hf,(zdw (a:=a) (by omega) h3).2.1,(zdw (a:=b) (by omega) (by omega)).2.1,zi9 (by omega) (by omega) h0 h1,decide_eq_true h2];rfl
theorem zp4 (h:f∈ab)(h':g∈ab)(h0:0<=a)(h1:a<=1000000000000)(hr:runK "tvw" ws.reverse []=some [Str.ofString "number"])(hl:ws.length<=44):RK ab ⟨"join",nm,[f,g],shw a::ws⟩:=by
 refine⟨.inl (by x_go:frm "join"=some 2),two2 h h',?_,fun x hx=>?_,by show ws.length + 1<=45;omega⟩
 ·show rstB "join" (shw a::ws)=true;rw[zvr];show(cwB (shw a) 0 1000000000000 && exB "tvw" "number" ws)=true;rw[zi9 h0 h1 h0 h1];exact decide_eq_true hr
 ·rcases List.mem_cons.mp hx with rfl |hx
  ·exact(zdw h0 h1).2.2
  ·exact zjF hr x hx
theorem zqb {fs:List Str}(h:∀f∈fs,f∈ab)(h1:2<=fs.length)(h2:fs.length<=8):RK ab ⟨"pour",nm,fs,[]⟩:=⟨.inr ⟨rfl,h1,h2,rfl⟩,h,zvB,no0,Nat.zero_le _⟩
end
variable {M:Mm}
def RR (ab:List Str)(nm:Str)(M:Mm)(o:E3.OS):Prop:=∃r E,RK ab r/\r.nm=nm/\o=some (.rt (RW.D r),M ++ E)
theorem RR.no {ab:List Str}{nm:Str}{o:E3.OS}{r:RW}(h:RK ab r)(e:o=some (.rt (RW.D r),M))(hn:r.nm=nm):RR ab nm M o:=⟨r,[],h,hn,by rw[List.append_nil];exact e⟩
section
variable {k pick wide:Int}{xs:List D}{j:Nat}{nm fold f0 f1:Str}{fr ab:List Str}{s8 s9:E3.Slot}{x4 x5 x6 x7:Int}
theorem nr14 (h0:f0∈ab):RR ab nm M (zgm [.val (.int k),.val (.lst xs),.val (.ref j),.val (.str nm),.val (.int pick),.val (.lst ((f0::f1::fr).map .str)),.val (.str fold),.val (.int wide),s8,s9] M):=by
 refine RR.no (r:=⟨"out",nm,[f0],[]⟩) (zrT h0) ?_ rfl;unfold zgm;z_go;rfl
theorem nr13 (hF:fldB fold=true)(h0:f0∈ab)(h1:f1∈ab)(w0:1<=wide)(w1:wide<=1000000000000)(e6:atI xs 6=some (.int x6))(e7:atI xs 7=some (.int x7)):RR ab nm M (zfm [.val (.int k),.val (.lst xs),.val (.ref j),.val (.str nm),.val (.int pick),.val (.lst ((f0::f1::fr).map .str)),.val (.str fold),.val (.int wide),s8,s9] M):=by
 by_cases h:pick=9
 ·obtain⟨ws,hr,_,_,wl,e⟩:=zoo (M:=M) (L:="tvw") (num:=x6) (most:=(1 + x7%35).toNat) zsT (by omega);rw[show(((1 + x7%35).toNat:Nat):Int)=1 + x7%35 by omega]at e;refine RR.no (r:=⟨"join",nm,[f0,f1],shw (wide - 1)::ws⟩) (zp4 h0 h1 (by omega) (by omega) hr (by omega)) ?_ rfl;unfold zfm;z_go;simp only[h];z_go;rw[e6];z_go;rw[e7];z_go;rw[e];z_go;rw[if_pos (zju (by omega) (by omega))];z_go;rw[if_pos (by omega)];z_go;rfl
 ·unfold zfm;z_go;simp only[h];z_go;exact nr14 h0
theorem nr12 (hF:fldB fold=true)(h0:f0∈ab)(h1:f1∈ab)(w0:1<=wide)(w1:wide<=1000000000000)(e6:atI xs 6=some (.int x6))(e7:atI xs 7=some (.int x7)):RR ab nm M (zfi [.val (.int k),.val (.lst xs),.val (.ref j),.val (.str nm),.val (.int pick),.val (.lst ((f0::f1::fr).map .str)),.val (.str fold),.val (.int wide),s8,s9] M):=by
 by_cases h:pick=8
 ·refine RR.no (r:=⟨"gap",nm,[f0],[shw wide,fold]⟩) (zoR (.inr rfl) h0 w0 w1 hF) ?_ rfl;unfold zfi;z_go;simp only[h];z_go;rw[if_pos (zju (by omega) (by omega))];z_go;rfl
 ·unfold zfi;z_go;simp only[h];z_go;exact nr13 hF h0 h1 w0 w1 e6 e7
theorem nr11 (hF:fldB fold=true)(h0:f0∈ab)(h1:f1∈ab)(w0:1<=wide)(w1:wide<=1000000000000)(e6:atI xs 6=some (.int x6))(e7:atI xs 7=some (.int x7))(p7:0<=x7/\x7<715827877):RR ab nm M (zfw [.val (.int k),.val (.lst xs),.val (.ref j),.val (.str nm),.val (.int pick),.val (.lst ((f0::f1::fr).map .str)),.val (.str fold),.val (.int wide),s8,s9] M):=by
 by_cases h:pick=7
 ·have m0:=Int.emod_nonneg (x7 * 48271 * 7919) (show(7 * wide + 1)≠0 by omega);have m1:=Int.emod_lt_of_pos (x7 * 48271 * 7919) (show 0<7 * wide + 1 by omega);generalize em:x7 * 48271 * 7919 % (7 * wide + 1)=q at m0 m1;have hq:∃a:Int,(if wide + q<1000000000000 then wide + q else 1000000000000)=a/\wide<=a/\a<=8 * wide/\a<=1000000000000:=by
   split
   ·exact⟨_,rfl,by omega,by omega,by omega⟩
   ·exact⟨_,rfl,by omega,by omega,by omega⟩
  obtain⟨a,ea,a0,a1,a2⟩:=hq;refine RR.no (r:=⟨"slide",nm,[f0],[shw a,shw wide,fold]⟩) (znr h0 w0 a0 a1 a2 hF) ?_ rfl;unfold zfw;z_go;simp only[h];z_go;rw[e7];z_go;rw[if_pos (by omega),em];z_go;rw[ea,if_pos (zju (by omega) (by omega))];z_go;rw[if_pos (zju (by omega) (by omega))];z_go;rfl
 ·unfold zfw;z_go;simp only[h];z_go;exact nr12 hF h0 h1 w0 w1 e6 e7
end
variable {M:Mm}
section
variable {k pick wide:Int}{xs:List D}{j:Nat}{nm fold f0 f1:Str}{fr ab:List Str}{s8 s9:E3.Slot}{x4 x5 x6 x7:Int}
theorem nr10 (hF:fldB fold=true)(h0:f0∈ab)(h1:f1∈ab)(w0:1<=wide)(w1:wide<=1000000000000)(e6:atI xs 6=some (.int x6))(e7:atI xs 7=some (.int x7))(p7:0<=x7/\x7<715827877):RR ab nm M (zfA [.val (.int k),.val (.lst xs),.val (.ref j),.val (.str nm),.val (.int pick),.val (.lst ((f0::f1::fr).map .str)),.val (.str fold),.val (.int wide),s8,s9] M):=by
 by_cases h:pick=6
 ·refine RR.no (r:=⟨"fixed",nm,[f0],[shw wide,fold]⟩) (zoR (.inl rfl) h0 w0 w1 hF) ?_ rfl;unfold zfA;z_go;simp only[h];z_go;rw[if_pos (zju (by omega) (by omega))];z_go;rfl
 ·unfold zfA;z_go;simp only[h];z_go;exact nr11 hF h0 h1 w0 w1 e6 e7 p7
theorem nr9 (hF:fldB fold=true)(hf:∀f∈f0::f1::fr,f∈ab)(hl:fr.length=6)(w0:1<=wide)(w1:wide<=1000000000000)(e4:atI xs 4=some (.int x4))(e6:atI xs 6=some (.int x6))(e7:atI xs 7=some (.int x7))(p4:0<=x4/\x4<715827877)(p7:0<=x7/\x7<715827877):RR ab nm M (zgd [.val (.int k),.val (.lst xs),.val (.ref j),.val (.str nm),.val (.int pick),.val (.lst ((f0::f1::fr).map .str)),.val (.str fold),.val (.int wide),s8,s9] M):=by
 by_cases h:pick=4\/pick=5
 ·have hb:2 + x4 % 7=(((2 + x4 % 7).toNat:Nat):Int):=by omega
  have hlen:((f0::f1::fr).take (2 + x4 % 7).toNat).length=(2 + x4 % 7).toNat:=by rw[List.length_take,List.length_cons,List.length_cons,hl];omega
  refine RR.no (r:=⟨"pour",nm,(f0::f1::fr).take (2 + x4 % 7).toNat,[]⟩) (zqb (fun f hm=>hf f (List.mem_of_mem_take hm)) (by rw[hlen];omega) (by rw[hlen];omega)) ?_ rfl;have t:(if pick=4 then some (Res.v (D.bl true),M) else some (Res.v (D.bl (decide (pick=5))),M))=some (Res.v (D.bl true),M):=by
   rcases h with h |h
   ·rw[if_pos h]
   ·rw[h];rfl
  unfold zgd;generalize hG:(f0::f1::fr)=G at *;z_go;rw[t];z_go;rw[e4];z_go;rw[zh9,zr8 _ (by omega)];z_go;rfl
 ·have t:(if pick=4 then some (Res.v (D.bl true),M) else some (Res.v (D.bl (decide (pick=5))),M))=some (Res.v (D.bl false),M):=by
   rw[if_neg (fun z=>h (.inl z)),decide_eq_false (fun z=>h (.inr z))]
  unfold zgd;z_go;rw[t];z_go;exact nr10 hF (hf f0 (by simp)) (hf f1 (by simp)) w0 w1 e6 e7 p7
theorem nr8 (hF:fldB fold=true)(hf:∀f∈f0::f1::fr,f∈ab)(hl:fr.length=6)(w0:1<=wide)(w1:wide<=1000000000000)(e4:atI xs 4=some (.int x4))(e5:atI xs 5=some (.int x5))(e6:atI xs 6=some (.int x6))(e7:atI xs 7=some (.int x7))(p4:0<=x4/\x4<715827877)(p7:0<=x7/\x7<715827877):RR ab nm M (zgc [.val (.int k),.val (.lst xs),.val (.ref j),.val (.str nm),.val (.int pick),.val (.lst ((f0::f1::fr).map .str)),.val (.str fold),.val (.int wide),s8,s9] M):=by
 by_cases h:pick=3
 ·have m0:=Int.emod_nonneg x5 (show 1 + x4 % 8≠0 by omega);have m1:=Int.emod_lt_of_pos x5 (show 0<1 + x4 % 8 by omega);refine RR.no (r:=⟨"share",nm,[f0],[shw (x5 % (1 + x4 % 8)),shw (1 + x4 % 8)]⟩) (znN (hf f0 (by simp)) m0 m1 (by omega)) ?_ rfl;unfold zgc;z_go;simp only[h];z_go;rw[e5];z_go;rw[e4];z_go;rw[if_pos (by omega)];z_go;rw[if_pos (zju m0 (by omega))];z_go;rw[e4];z_go;rw[if_pos (zju (by omega) (by omega))];z_go;rfl
 ·unfold zgc;z_go;simp only[h];z_go;exact nr9 hF hf hl w0 w1 e4 e6 e7 p4 p7
theorem nr7 (hF:fldB fold=true)(hf:∀f∈f0::f1::fr,f∈ab)(hl:fr.length=6)(w0:1<=wide)(w1:wide<=1000000000000)(e4:atI xs 4=some (.int x4))(e5:atI xs 5=some (.int x5))(e6:atI xs 6=some (.int x6))(e7:atI xs 7=some (.int x7))(p4:0<=x4/\x4<715827877)(p7:0<=x7/\x7<715827877):RR ab nm M (zgg [.val (.int k),.val (.lst xs),.val (.ref j),.val (.str nm),.val (.int pick),.val (.lst ((f0::f1::fr).map .str)),.val (.str fold),.val (.int wide),s8,s9] M):=by
 by_cases h:pick=2
 ·obtain⟨ws,hr,_,_,wl,e⟩:=zoo (M:=M) (L:="tv") (num:=x6) (most:=(1 + x7%36).toNat) zux (by omega);rw[show(((1 + x7%36).toNat:Nat):Int)=1 + x7%36 by omega]at e;refine RR.no (r:=⟨"turn",nm,[f0],ws⟩) (zpv (hf f0 (by simp)) hr (by omega)) ?_ rfl;unfold zgg;z_go;simp only[h];z_go;rw[e6];z_go;rw[e7];z_go;rw[e];z_go;rfl
 ·unfold zgg;z_go;simp only[h];z_go;exact nr8 hF hf hl w0 w1 e4 e5 e6 e7 p4 p7
theorem nr6 (hF:fldB fold=true)(hf:∀f∈f0::f1::fr,f∈ab)(hl:fr.length=6)(w0:1<=wide)(w1:wide<=1000000000000)(e4:atI xs 4=some (.int x4))(e5:atI xs 5=some (.int x5))(e6:atI xs 6=some (.int x6))(e7:atI xs 7=some (.int x7))(p4:0<=x4/\x4<715827877)(p7:0<=x7/\x7<715827877):RR ab nm M (zgh [.val (.int k),.val (.lst xs),.val (.ref j),.val (.str nm),.val (.int pick),.val (.lst ((f0::f1::fr).map .str)),.val (.str fold),.val (.int wide),s8,s9] M):=by
 by_cases h:pick=1
 ·obtain⟨ws,E,hr,_,_,wl,e⟩:=zwy (M:=M) (num:=x6) (most:=(3 + x7%34).toNat) (by omega);rw[show(((3 + x7%34).toNat:Nat):Int)=3 + x7%34 by omega]at e;refine⟨⟨"keep",nm,[f0],ws⟩,E,zqF (hf f0 (by simp)) hr (by omega),rfl,?_⟩;unfold zgh;z_go;simp only[h];z_go;rw[e6];z_go;rw[e7];z_go;rw[e];z_go;rfl
 ·unfold zgh;z_go;simp only[h];z_go;exact nr7 hF hf hl w0 w1 e4 e5 e6 e7 p4 p7
end
variable {M:Mm}
theorem zvX {k:Int}{a b c:D}:atI [a,b,c] (k % 3)=some a\/atI [a,b,c] (k % 3)=some b\/atI [a,b,c] (k % 3)=some c:=by
 have:k % 3=0\/k % 3=1\/k % 3=2:=by omega
 rcases this with e |e |e<;>rw[e]
 ·exact .inl at0
 ·exact .inr (.inl at1)
 ·exact .inr (.inr at2)
theorem zuW {k:Int}:∃x:Str,fldB x=true/\atI [D.str "sum",.str "count",.str "most",.str "least"] (k % 4)=some (.str x):=by
 have:k % 4=0\/k % 4=1\/k % 4=2\/k % 4=3:=by omega
 rcases this with e |e |e |e<;>rw[e]
 ·exact⟨_,by x_go,at0⟩
 ·exact⟨_,by x_go,at1⟩
 ·exact⟨_,by x_go,at2⟩
 ·exact⟨_,by x_go,at3⟩
section
variable {k pick:Int}{xs:List D}{j:Nat}{nm f0 f1:Str}{fr ab:List Str}{s6 s7 s8 s9:E3.Slot}{x4 x5 x6 x7:Int}
theorem nr4 (hf:∀f∈f0::f1::fr,f∈ab)(hl:fr.length=6)(e4:atI xs 4=some (.int x4))(e5:atI xs 5=some (.int x5))(e6:atI xs 6=some (.int x6))(e7:atI xs 7=some (.int x7))(p4:0<=x4/\x4<715827877)(p7:0<=x7/\x7<715827877):RR ab nm M (zie [.val (.int k),.val (.lst xs),.val (.ref j),.val (.str nm),.val (.int pick),.val (.lst ((f0::f1::fr).map .str)),s6,s7,s8,s9] M):=by
 obtain⟨fold,hF,ef⟩:=zuW (k:=x4);have hq:∃q:Int,0<q/\q<=1000000000000/\atI [D.int 9,.int 1000000,.int 1000000000000] (x6 % 3)=some (.int q):=by
  rcases zvX (k:=x6) (a:=D.int 9) (b:=.int 1000000) (c:=.int 1000000000000) with e |e |e
  ·exact⟨_,by decide,by decide,e⟩
  ·exact⟨_,by decide,by decide,e⟩
  ·exact⟨_,by decide,by decide,e⟩
 obtain⟨q,q0,q1,eq⟩:=hq;have m0:=Int.emod_nonneg (x5 * 48271 * 7919) (show q≠0 by omega);have m1:=Int.emod_lt_of_pos (x5 * 48271 * 7919) q0;unfold zie;z_go;rw[e4];z_go;rw[ef];unfold zku;z_go;rw[e5];z_go;rw[e6];z_go;rw[eq];z_go;rw[if_pos q0];z_go;exact nr6 hF hf hl (by omega) (by omega) e4 e5 e6 e7 p4 p7
theorem zro {x:Int}(hj:M[j]? =some (.lst (ab.map .str)))(hn:ab≠ [])(hlen:ab.length<=1000):∃f∈ab,zge [.val (.int x),.val (.ref j)] M=some (.v (.str f),M):=by
 have hp:0<ab.length:=List.length_pos_iff.mpr hn;have p0:=Int.emod_nonneg x (show(ab.length:Int)≠0 by omega);have p1:=Int.emod_lt_of_pos x (show(0:Int)<(ab.length:Int) by omega);have hx:(ab.map D.str)[(x % (ab.length:Int)).toNat]? =some (.str (ab[(x % (ab.length:Int)).toNat]'(by omega))):=by rw[List.getElem?_map,List.getElem?_eq_getElem (by omega)];rfl
 refine⟨_,List.getElem_mem (show(x % (ab.length:Int)).toNat<ab.length by omega),?_⟩;have ha:=zcA hx;rw[Int.toNat_of_nonneg p0]at ha;unfold zge;have hv:vw M (.ref j)=.lst (ab.map .str):=by simp only[vw,hj]
 z_go;simp only[hv];z_go;rw[if_pos (by omega)];z_go;simp only[hv];z_go;rw[ha];z_go
theorem zh3:∀l:List Str,D.deps (l.map .str)=0
 | []=>rfl
 |a::l=>by simp only[List.map_cons,D.deps,zh3 l];rfl
theorem nr2 (hj:M[j]? =some (.lst (ab.map .str)))(hab:ab.length<=1000){ns:List Int}(hns:ns.length=11)(hd:dwn ns):RR ab nm M (zgl [.val (.int k),.val (.lst (ns.map .int)),.val (.ref j),.val (.str nm),.val (.int pick),.un,.un,.un,.un,.un] M):=by
 have hv:vw M (.ref j)=.lst (ab.map .str):=by simp only[vw,hj]
 have ix:∀i:Nat,i<11->∃x,atI (ns.map D.int) (i:Int)=some (.int x)/\0<=x/\x<715827877:=fun i hi=>by
  have hx:(ns.map D.int)[i]? =some (.int (ns[i]'(by omega))):=by rw[List.getElem?_map,List.getElem?_eq_getElem (by omega)];rfl
  exact⟨_,zcA hx,hd _ (List.getElem_mem (by omega))⟩
 by_cases h:ab=[]\/pick=0
 ·refine RR.no (r:=⟨"in",nm,[],[]⟩) zuG ?_ rfl;unfold zgl;z_go;rw[hv,zry (by rw[zh3];decide)];z_go;have t:(if (ab.map D.str).isEmpty=true then some (Res.v (D.bl true),M) else some (Res.v (D.bl (decide (pick=0))),M))=some (Res.v (D.bl true),M):=by
   rcases h with h |h
   ·rw[h];rfl
   ·rw[h];simp
  rw[t];z_go;rfl
 ·have hn:ab≠ []:=fun z=>h (.inl z);obtain⟨x4,e4,p4⟩:=ix 4 (by decide);obtain⟨x5,e5,p5⟩:=ix 5 (by decide);obtain⟨x6,e6,p6⟩:=ix 6 (by decide);obtain⟨x7,e7,p7⟩:=ix 7 (by decide);have t:(if (ab.map D.str).isEmpty=true then some (Res.v (D.bl true),M) else some (Res.v (D.bl (decide (pick=0))),M))=some (Res.v (D.bl false),M):=by
   rw[if_neg (by simpa using hn),decide_eq_false (fun z=>h (.inr z))]
  have hF:∃F:Int->Str,∀x,F x∈ab/\zge [.val (.int x),.val (.ref j)] M=some (.v (.str (F x)),M):=⟨fun x=>(zro (x:=x) hj hn hab).choose,fun x=>(zro (x:=x) hj hn hab).choose_spec⟩;obtain⟨F,hF⟩:=hF;have hcl:((ns.drop 2).take 8).length=8:=by rw[List.length_take,List.length_drop];omega
  have hG:∃f0 f1 fr,((ns.drop 2).take 8).map F=f0::f1::fr/\fr.length=6:=by
   generalize (ns.drop 2).take 8=l at hcl
   match l,hcl with
   |a::b::r,hc=>exact⟨_,_,_,rfl,by simpa using hc⟩
  obtain⟨f0,f1,fr,hG,hl⟩:=hG;have hf:∀f∈f0::f1::fr,f∈ab:=fun f hm=>by
   rw[<-hG,List.mem_map]at hm;obtain⟨x,_,rfl⟩:=hm;exact(hF x).1
  unfold zgl;z_go;rw[hv,zry (by rw[zh3];decide)];z_go;rw[t];z_go;unfold zko;z_go;rw[zh9,zis _ (by decide) (by decide),show((10:Int).toNat - (2:Int).toNat)=8 by decide,show(2:Int).toNat=2 by decide];rw[zdS (fun x:Int=>D.int x) (fun x=>D.str (F x)) ((ns.drop 2).take 8) [] (fun x _=>(hF x).2) (by rw[sizeLine_eq,hcl];decide)];z_go;rw[show((ns.drop 2).take 8).map (fun x=>D.str (F x))=(f0::f1::fr).map D.str by rw[<-hG,List.map_map];rfl];exact nr4 hf hl e4 e5 e6 e7 p4 p7
end
variable {M:Mm}
theorem zsS {k:Nat}{j:Nat}{ab:List Str}{ns:List Int}(hk:k<100)(hj:M[j]? =some (.lst (ab.map .str)))(hab:ab.length<=1000)(hns:ns.length=11)(hd:dwn ns):∃r E,RK ab r/\(nmB r.nm=true/\wd r.nm/\(cd r.nm).filter (fun c=>decide (c<=57))=cd (shw k))/\zi2 [.int k,.lst (ns.map .int),.ref j] M=some (.v (RW.D r),M ++ E):=by
 have ix:∀i:Nat,i<11->∃x,atI (ns.map D.int) (i:Int)=some (.int x):=fun i hi=>by
  have hx:(ns.map D.int)[i]? =some (.int (ns[i]'(by omega))):=by rw[List.getElem?_map,List.getElem?_eq_getElem (by omega)];rfl
  exact⟨_,zcA hx⟩
 obtain⟨x0,e0⟩:=ix 0 (by decide);obtain⟨x1,e1⟩:=ix 1 (by decide);have e0':atI (ns.map D.int) 0=some (.int x0):=e0;have e1':atI (ns.map D.int) 1=some (.int x1):=e1;obtain⟨nm,as,bs,c1,c2,c3,c4,en⟩:=zpM (x:=x0) (k:=k) (by omega);have hN:=zwd c1 c2 c3 c4 (by omega) (by omega);obtain⟨r,E,hr,rfl,e⟩:=nr2 (M:=M) (k:=k) (nm:=nm) (pick:=x1 % 11) hj hab hns hd;refine⟨r,E,hr,hN,?_⟩;unfold zi2 zky;z_go;rw[e0'];z_go;rw[en];z_go;unfold zkx;z_go;rw[e1'];z_go;rw[e];z_go
structure GS (rs:List RW)(ab:List Str):Prop where
 ws:RWS rs
 wf:∀r∈rs,r.wf
 nm:∀r∈rs,nmB r.nm=true/\wd r.nm
 dg:∀i (h:i<rs.length),(cd rs[i].nm).filter (fun c=>decide (c<=57))=cd (shw (i:Int))
 ab:∀f∈ab,∃r∈rs,r.nm=f/\r.w≠"out"
theorem GS.nil:GS [] []:=⟨(fun as r bs e=>by cases as<;>cases e),(fun r h=>by cases h),(fun r h=>by cases h),(fun i h=>absurd h (Nat.not_lt_zero _)),(fun r h=>by cases h)⟩
theorem GS.uni {rs:List RW}{ab:List Str}(h:GS rs ab)(hl:rs.length<100){q q':RW}(hq:q∈rs)(hq':q'∈rs)(e:q.nm=q'.nm):q=q':=by
 obtain⟨i,hi,rfl⟩:=List.mem_iff_getElem.mp hq;obtain⟨j,hj,rfl⟩:=List.mem_iff_getElem.mp hq';have:=h.dg i hi;rw[e,h.dg j hj]at this;have:=zoQ (by omega) (by omega) this;subst this;rfl
theorem GS.fr {rs:List RW}{ab:List Str}(h:GS rs ab)(hl:rs.length<100){f:Str}(hf:f∈ab):decide ((gtS (rs.map nw2) f).getD "out"="out")=false:=by
  obtain⟨q,hq,rfl,ho⟩:=h.ab f hf;unfold gtS
  cases hF:(rs.map nw2).find? fun p=>decide (p.1=q.nm) with
  |none=>
    rw[List.find?_eq_none]at hF;exact absurd (decide_eq_true rfl) (hF (nw2 q) (List.mem_map.mpr ⟨q,hq,rfl⟩))
  |some p=>
    have h0:=List.find?_some hF;have h1:p.1=q.nm:=of_decide_eq_true h0;obtain⟨q',hq',rfl⟩:=List.mem_map.mp (List.mem_of_find?_eq_some hF);have e:=h.uni hl hq' hq h1;subst e;exact decide_eq_false ho
theorem GS.nms {rs:List RW}{ab:List Str}(h:GS rs ab)(hl:rs.length<100){r:RW}(hr:RK ab r)(hd:(cd r.nm).filter (fun c=>decide (c<=57))=cd (shw (rs.length:Int))):nmsB (rs.map nw2) r.nm r.fr=true:=by
 unfold nmsB;have h1:gtS (rs.map nw2) r.nm=none:=by
  unfold gtS;rw[Option.map_eq_none_iff,List.find?_eq_none];intro p hp hz;obtain⟨q,hq,rfl⟩:=List.mem_map.mp hp;obtain⟨i,hi,rfl⟩:=List.mem_iff_getElem.mp hq;have e:rs[i].nm=r.nm:=of_decide_eq_true hz;have:=h.dg i hi;rw[e,hd]at this;have:=zoQ (by omega) (by omega) this;omega
 rw[h1];show(true && _)=true;rw[Bool.true_and,List.all_eq_true];intro f hf;rw[h.fr hl (hr.fr f hf)];rfl
theorem RK.row {ab:List Str}{r:RW}(hr:RK ab r)(hn:nmB r.nm=true)(ha:∀f∈r.fr,nmB f=true):rowP r.ws=some r/\∃n,frm r.w=some n/\r.fr.length<=8:=by
 have hna:(r.nm::r.fr).all nmB=true:=List.all_eq_true.mpr fun x hx=>by
  rcases List.mem_cons.mp hx with rfl |hx
  ·exact hn
  ·exact ha x hx
 have go:∀n,frm r.w=some n->(r.fr ++ r.rs).take n=r.fr->(r.fr ++ r.rs).drop n=r.rs->hfB r.w n r.fr.length=true->rowP r.ws=some r:=fun n h1 h2 h3 h4=>by
  have hB:rowB (r.w::r.nm::(r.fr ++ r.rs))=true:=by
   unfold rowB;dsimp only;rw[h1];dsimp only;rw[h2,h3,h4,hna,hr.re];rfl
  unfold RW.ws rowP;dsimp only;rw[if_pos hB,h1,Option.getD_some,h2,h3]
 rcases hr.fm with h |⟨h1,h2,h3,h4⟩
 ·refine⟨go _ h List.take_left List.drop_left ?_,_,h,ztm h⟩;unfold hfB
  split
  ·rename_i hp;rw[hp,show frm "pour"=some 8 by x_go]at h;have:=Option.some.inj h;exact decide_eq_true (by omega)
  ·exact decide_eq_true rfl
 ·have hf:frm r.w=some 8:=by rw[h1];decide +kernel
  refine⟨go 8 hf ?_ ?_ ?_,_,hf,h3⟩
  ·rw[h4,List.append_nil,List.take_of_length_le h3]
  ·rw[h4,List.append_nil,List.drop_of_length_le h3]
  ·unfold hfB;rw[if_pos h1];exact decide_eq_true h2
theorem GS.add {rs:List RW}{ab:List Str}(h:GS rs ab)(hl:rs.length<100){r:RW}(hr:RK ab r)(hn:nmB r.nm=true/\wd r.nm/\(cd r.nm).filter (fun c=>decide (c<=57))=cd (shw (rs.length:Int))):GS (rs ++ [r]) (if r.w="out" then ab else ab ++ [r.nm]):=by
  have hab:∀f∈ab,nmB f=true/\wd f:=fun f hf=>by
    obtain⟨q,hq,rfl,_⟩:=h.ab f hf;exact h.nm q hq
  obtain⟨h1,n,h2,h3⟩:=hr.row hn.1 fun f hf=>(hab f (hr.fr f hf)).1;have old:∀f∈ab,∃q∈rs ++ [r],q.nm=f/\q.w≠"out":=fun f hf=>by
    obtain⟨q,hq,e⟩:=h.ab f hf;exact⟨q,List.mem_append.mpr (.inl hq),e⟩
  refine⟨h.ws.add h1 (h.nms hl hr hn.2.2),fun q hq=>?_,fun q hq=>?_,fun i hi=>?_,fun f hf=>?_⟩
  · rcases List.mem_append.mp hq with hq |hq
    · exact h.wf q hq
    · rw[List.mem_singleton]at hq;subst hq;have hle:=hr.le;refine⟨fun x hx=>?_,by unfold RW.ws;rw[List.length_cons,List.length_cons,List.length_append];omega⟩;unfold RW.ws at hx;rcases List.mem_cons.mp hx with rfl |hx
      · exact ztX h2
      · rcases List.mem_cons.mp hx with rfl |hx
        · exact hn.2.1
        · rcases List.mem_append.mp hx with hx |hx
          · exact(hab x (hr.fr x hx)).2
          · exact hr.wd x hx
  · rcases List.mem_append.mp hq with hq |hq
    · exact h.nm q hq
    · rw[List.mem_singleton]at hq;subst hq;exact⟨hn.1,hn.2.1⟩
  · rw[List.length_append,List.length_singleton]at hi
    by_cases z:i<rs.length
    · rw[List.getElem_append_left z];exact h.dg i z
    · have e:i=rs.length:=by omega
      subst e;rw[List.getElem_append_right (Nat.le_refl _)]
      simpa using hn.2.2
  · split at hf
    · exact old f hf
    · rename_i ho;rcases List.mem_append.mp hf with hf |hf
      · exact old f hf
      · rw[List.mem_singleton]at hf;exact⟨r,List.mem_append.mpr (.inr (List.mem_singleton.mpr rfl)),hf.symm,ho⟩
variable {M:Mm}
theorem zqJ {cs:List Int}(hc:cs.length<=60):∃rs E ab,GS rs ab/\rs.length=cs.length/\zgQ [.lst (cs.map .int)] M=some (.v (.lst (rs.map RW.D)),M ++ E):=by
 have lp:∃rs E ab s3 s4,GS rs ab/\rs.length=cs.length/\loopS 3 zeq ((List.range cs.length).map fun(k:Nat)=>D.int (0 + k)) [.val (.lst (cs.map .int)),.own [],.val (.ref M.length),.un,.un] (M ++ [.lst []])=some (.nx [.val (.lst (cs.map .int)),.own (rs.map RW.D),.val (.ref M.length),s3,s4],M ++ E):=by
  refine zjH (fun o=>∃rs E ab s3 s4,GS rs ab/\rs.length=cs.length/\o=some (.nx [.val (.lst (cs.map .int)),.own (rs.map RW.D),.val (.ref M.length),s3,s4],M ++ E))
   (fun k env N=>∃(rs:List RW) (ab:List Str) (E:Mm) (s3 s4:E3.Slot),GS rs ab/\rs.length=k/\ab.length<=k/\N=M ++ [.lst (ab.map .str)] ++ E/\env=[.val (.lst (cs.map .int)),.own (rs.map RW.D),.val (.ref M.length),s3,s4])
   ⟨[],[],[],.un,.un,GS.nil,rfl,Nat.le_refl _,(by rw[List.append_nil];rfl),rfl⟩ ?_ ?_
  ·rintro k d env N hd ⟨rs,ab,E,s3,s4,hrs,hlen,hab,rfl,rfl⟩;have hk:k<cs.length:=by
    have:=(List.getElem?_eq_some_iff.mp hd).1
    simpa using this
   rw[List.getElem?_map,List.getElem?_range hk,Option.map_some]at hd;cases hd;refine⟨by show 3<5;decide,?_⟩;have hx:(cs.map D.int)[k]? =some (.int (cs[k]'hk)):=by rw[List.getElem?_map,List.getElem?_eq_getElem hk];rfl
   have ha:=zcA hx;obtain⟨ns,n1,n2,n3⟩:=g_dr (n:=cs[k] + 31 * (0 + (k:Int))) (m:=11) (by decide);have hj:(M ++ [Cl.lst (ab.map .str)] ++ E)[M.length]? =some (.lst (ab.map .str)):=by
    rw[List.getElem?_append_left (by simp),List.getElem?_append_right (Nat.le_refl _)]
    simp
   obtain⟨r,E2,hr,hnm,er⟩:=zsS (M:=M ++ [.lst (ab.map .str)] ++ E) (k:=k) (j:=M.length) (ab:=ab) (ns:=ns) (by omega) hj (by omega) n1 n2;have n3':=n3 (M ++ [.lst (ab.map .str)] ++ E);rw[show((11:Nat):Int)=11 from rfl]at n3';show Step _ _ (zeq [.val (.lst (cs.map .int)),.own (rs.map RW.D),.val (.ref M.length),.val (.int (0 + k)),s4] _);have z:(0:Int) + (k:Int)=k:=by omega
   rw[z]at n3';rw[z];have go:zeq [.val (.lst (cs.map .int)),.own (rs.map RW.D),.val (.ref M.length),.val (.int k),s4] (M ++ [.lst (ab.map .str)] ++ E)=some (.nx [.val (.lst (cs.map .int)),.own ((rs ++ [r]).map RW.D),.val (.ref M.length),.val (.int k),.val (RW.D r)],M ++ [.lst ((if r.w="out" then ab else ab ++ [r.nm]).map .str)] ++ (E ++ E2)):=by
    unfold zeq;generalize hN:M ++ [Cl.lst (ab.map .str)] ++ E=N at *;z_go;rw[ha];z_go;rw[n3'];z_go;rw[er];z_go;rw[if_pos (by omega)];unfold RW.D rwD;z_go;have hj2:(N ++ E2)[M.length]? =some (.lst (ab.map .str)):=by
     rw[List.getElem?_append_left (by rw[<-hN];simp)];exact hj
    by_cases ho:r.w=Str.ofString "out"
    ·rw[if_neg (fun z=>z ho)];z_go;rw[if_pos ho, <-hN]
     simp
    ·rw[if_pos ho,hj2];z_go;rw[if_pos (by omega)];z_go;rw[if_neg ho, <-hN];have hs:(M ++ [Cl.lst (ab.map .str)] ++ E ++ E2).set M.length (.lst (ab.map .str ++ [.str r.nm]))=M ++ [Cl.lst ((ab ++ [r.nm]).map .str)] ++ (E ++ E2):=by
      rw[List.append_assoc,List.append_assoc,List.set_append_right _ _ (Nat.le_refl _),Nat.sub_self]
      simp
     rw[hs]
     simp
   rw[go];refine⟨rs ++ [r],_,_,_,_,hrs.add (by omega) hr (by rw[hlen];exact hnm),by rw[List.length_append,List.length_singleton,hlen],?_,rfl,rfl⟩
   split
   ·omega
   ·rw[List.length_append,List.length_singleton];omega
  ·rintro env N ⟨rs,ab,E,s3,s4,hrs,hlen,hab,rfl,rfl⟩;rw[List.length_map,List.length_range]at hlen;exact⟨rs,[.lst (ab.map .str)] ++ E,ab,s3,s4,hrs,hlen,by rw[List.append_assoc]⟩
 obtain⟨rs,E,ab,s3,s4,h1,h2,lp⟩:=lp;refine⟨rs,E,ab,h1,h2,?_⟩;unfold zgQ zhV;z_go;rw[ziO (by omega),Int.toNat_natCast];z_go;rw[lp];z_go
theorem zsK {ns:List Int}{k:Int}{M:Mm}(hk:0<=k):zcZ [.lst (ns.map .int),.int k] M=some (.v (.int (ns.getD k.toNat 0)),M):=by
 unfold zcZ zeI;z_go
 by_cases h:k<(ns.length:Int)
 ·rw[if_pos h];z_go;have e:atI (ns.map D.int) k=some (.int (ns.getD k.toNat 0)):=by
   obtain⟨j,rfl⟩:∃j:Nat,k=j:=⟨k.toNat,by omega⟩;refine zcA ?_;have:j<ns.length:=by omega
   rw[List.getElem?_map,List.getElem?_eq_getElem this]
   simp[List.getD,this]
  rw[e];z_go
 ·rw[if_neg h];z_go
  simp[List.getD,List.getElem?_eq_none (show ns.length<=k.toNat by omega)]
theorem znD {ns:List Int}(hn:ns.length<=63):∃cs:List Int,1<=cs.length/\cs.length<=41/\∀M:Mm,zeA [.lst (ns.map .int)] M=some (.v (.lst (cs.map .int)),M):=by
 generalize hc:ns.getD 0 0=c;have gc:∀M:Mm,zcZ [.lst (ns.map .int),.int 0] M=some (.v (.int c),M):=fun M=>by rw[zsK (by decide), <-hc];rfl
 by_cases h:c % 8=1
 ·obtain⟨xs,h1,h2,h3⟩:=g_dr (n:=c / 8) (m:=(1 + c / 8 % 40).toNat) (by omega);refine⟨xs,by omega,by omega,fun M=>?_⟩;have e:=h3 M;rw[show(((1 + c / 8 % 40).toNat:Nat):Int)=1 + c / 8 % 40 by omega]at e;unfold zeA zfq;z_go;rw[gc];z_go;simp only[h];z_go;rw[e];z_go
 ·refine⟨(c / 8)::(ns.drop 1).take 11,by simp,by rw[List.length_cons,List.length_take];omega,fun M=>?_⟩;unfold zeA zfq;z_go;rw[gc];z_go;simp only[h];z_go;rw[zh9,zis _ (by decide) (by decide),show((12:Int).toNat - (1:Int).toNat)=11 by decide,show(1:Int).toNat=1 by decide];z_go;rw[if_pos (by rw[List.length_take];omega)];z_go
theorem zpI:∀ns:List Int,ns.length<=63->∃M,lawG [.lst (ns.map D.int)] []=some (.v (.bl true),M):=by
 intro ns hn;obtain⟨cs,c1,c2,ec⟩:=znD hn;obtain⟨rs,E,ab,h1,h2,er⟩:=zqJ (M:=[]) (cs:=cs) (by omega);unfold lawG zrx znj;z_go;rw[ec];z_go;rw[er];z_go;exact ztW h1.wf h1.ws (by omega) (fun z=>by rw[z]at h2;rw[<-h2]at c1;cases c1)
theorem zs8 {l:PySem.W.OpenLaw}{w:World}{K:Fgx}{mg:Mgx}{C:Ad}{base:Heap}{f0 f1 f2 f3 f4 f5 f6 f7 f8 f9 f10 f11 f12 f13 f14 f15 f16 f17 f18 f19 f20 f21 f22 f23 f24 f25 f26 f27 f28 f29 f30 f31 f32 f33 f34 f35 f36 f37:Addr}{d0 d1 d2 d3 d4 d5 d6 d7 d8 d9 d10 d11 d12 d13 d14 d15 d16 d17 d18 d19 d20 d21 d22 d23 d24 d25 d26 d27 d28 d29 d30 d31 d32 d33 d34 d35 d36 d37:FuncData}(T:Txt K mg C w)
  (D0:DefAt K mg "is_figures" zcM ["text"] f0 d0)
  (D1:DefAt K mg "is_signed_figures" zaQ ["text"] f1 d1)
  (D2:DefAt K mg "is_count" zdE ["text"] f2 d2)
  (D3:DefAt K mg "is_number" zdb ["text"] f3 d3)
  (D4:DefAt K mg "is_leaf" zdN ["word","letters"] f4 d4)
  (D5:DefAt K mg "take_needed" zbf ["word","kinds"] f5 d5)
  (D6:DefAt K mg "check_words" za3 ["words","letters","wanted"] f6 d6)
  (D7:DefAt K mg "read_expr" zcC ["words","letters"] f7 d7)
  (D8:DefAt K mg "read_cond" zdg ["words"] f8 d8)
  (D9:DefAt K mg "is_name" zec ["text"] f9 d9)
  (D10:DefAt K mg "is_count_within" zaR ["text","least","most"] f10 d10)
  (D11:DefAt K mg "is_expr" zdP ["words","letters"] f11 d11)
  (D12:DefAt K mg "is_cond" zeh ["words"] f12 d12)
  (D13:DefAt K mg "is_share_rest" zbU ["rest"] f13 d13)
  (D14:DefAt K mg "is_width_rest" zbN ["rest"] f14 d14)
  (D15:DefAt K mg "is_slide_rest" zbo ["rest"] f15 d15)
  (D16:DefAt K mg "is_join_rest" zb8 ["rest"] f16 d16)
  (D17:DefAt K mg "is_rest_of" zcg ["word","rest"] f17 d17)
  (D18:DefAt K mg "row_of" zey ["words"] f18 d18)
  (D19:DefAt K mg "has_its_froms" zbS ["row"] f19 d19)
  (D20:DefAt K mg "is_row" zeF ["words"] f20 d20)
  (D21:DefAt K mg "has_its_names" zbn ["row","words_above"] f21 d21)
  (D22:DefAt K mg "read_works" zaW ["text"] f22 d22)
  (D23:DefAt K mg "shown_row" zdh ["row"] f23 d23)
  (D24:DefAt K mg "shown_works" zcq ["works"] f24 d24)
  (D25:DefAt K mg "_law_cell_at" zc2 ["_law_script","_law_k"] f25 d25)
  (D26:DefAt K mg "_law_cells" zeG ["_law_script"] f26 d26)
  (D27:DefAt K mg "_law_drawn" zcY ["_law_number","_law_many"] f27 d27)
  (D28:DefAt K mg "_law_leaf" ze2 ["_law_x","_law_letters"] f28 d28)
  (D29:DefAt K mg "_law_expr" zde ["_law_number","_law_letters","_law_most"] f29 d29)
  (D30:DefAt K mg "_law_cond" zcO ["_law_number","_law_most"] f30 d30)
  (D31:DefAt K mg "_law_name" zeg ["_law_x","_law_k"] f31 d31)
  (D32:DefAt K mg "_law_row" zdm ["_law_k","_law_xs","_law_above"] f32 d32)
  (D33:DefAt K mg "_law_rows" zdY ["_law_cells_here"] f33 d33)
  (D34:DefAt K mg "_law_line" zg7 ["_law_row_here"] f34 d34)
  (D35:DefAt K mg "law" zee ["_law_script"] f35 d35)
  (D36:IniAt K C.Expr "Expr.__init__" zaE ["self","words"] f36 d36)
  (D37:IniAt K C.Cond "Cond.__init__" zaF ["self","words"] f37 d37)
  :FnOk l.prog w K mg base CX0 lawK f35 d35 ["_law_script"] (spG K mg 1 lawG):=by
 have A0:AtG l.prog w K mg base 1 "is_figures" 1 zbD:=(D0.ok (b:=zdk) zff (ziF (k:=0) T) :);have A1:AtG l.prog w K mg base 2 "is_signed_figures" 1 zbb:=(D1.ok (b:=zbr) zcQ (ze0 (k:=1) T (A0.mono (by decide))) :);have A2:AtG l.prog w K mg base 2 "is_count" 1 zdI:=(D2.ok (b:=zeH) zgE (zlf (k:=1) T (A0.mono (by decide))) :);have A3:AtG l.prog w K mg base 3 "is_number" 1 zc7:=(D3.ok (b:=zdV) zf1 (zjL (k:=2) T (A1.mono (by decide))) :);have A4:AtG l.prog w K mg base 4 "is_leaf" 2 zen:=(D4.ok (b:=zfx) zhx (zl8 (k:=3) T (A3.mono (by decide))) :);have B5:AtX l.prog w K mg base 1 "take_needed" 2 zbX:=⟨_,_,_,D5.mg,D5.F.kp,zg0 (b:=zcW) D5.F zeQ (by decide) (zii (k:=0) T),D5.b⟩;have A5:=B5.quiet;have B6:AtX l.prog w K mg base 5 "check_words" 3 zbg:=⟨_,_,_,D6.mg,D6.F.kp,zg0 (b:=zcT) D6.F zeV (by decide) (zhU (k:=4) T (A4.mono (by decide)) (B5.mono (by decide))),D6.b⟩;have A6:=B6.quiet;have A36:AtI l.prog w K mg base 1 C.Expr 2 zbP:=⟨_,_,_,D36.M,zkv (b:=zcl) D36.F zd8 (by decide) (zgB (k:=0) T),D36.b⟩;have B7:AtX l.prog w K mg base 6 "read_expr" 2 zcd:=⟨_,_,_,D7.mg,D7.F.kp,zg0 (b:=zc3) D7.F zfV (by decide) (zjQ (k:=5) (k0:=4) T rfl (A36.mono (by decide)) (B6.mono (by decide))),D7.b⟩;have A7:=B7.quiet;have A37:AtI l.prog w K mg base 1 C.Cond 2 zbI:=⟨_,_,_,D37.M,zkv (b:=zcn) D37.F zd9 (by decide) (zgO (k:=0) T),D37.b⟩;have B8:AtX l.prog w K mg base 6 "read_cond" 1 zcb:=⟨_,_,_,D8.mg,D8.F.kp,zg0 (b:=zdc) D8.F zfU (by decide) (zjC (k:=5) (k0:=4) T rfl (A37.mono (by decide)) (B6.mono (by decide))),D8.b⟩;have A8:=B8.quiet;have A9:AtG l.prog w K mg base 1 "is_name" 1 zes:=(D9.ok (b:=zfc) zhA (zlX (k:=0) T) :);have A10:AtG l.prog w K mg base 3 "is_count_within" 3 zas:=(D10.ok (b:=zb0) zdp (zfH (k:=2) T (A2.mono (by decide))) :);have A11:AtG l.prog w K mg base 7 "is_expr" 2 zcK:=(D11.ok (b:=zek) zhr (zm4 (k:=6) T (B7.mono (by decide))) :);have A12:AtG l.prog w K mg base 7 "is_cond" 1 zdJ:=(D12.ok (b:=zed) zhB (zlv (k:=6) T (B8.mono (by decide))) :);have A13:AtG l.prog w K mg base 4 "is_share_rest" 1 zbM:=(D13.ok (b:=zcm) zd2 (zha (k:=3) T (A10.mono (by decide))) :);have A14:AtG l.prog w K mg base 4 "is_width_rest" 1 za7:=(D14.ok (b:=zcr) zea (zg6 (k:=3) T (A10.mono (by decide))) :);have A15:AtG l.prog w K mg base 5 "is_slide_rest" 1 zbQ:=(D15.ok (b:=zck) zd7 (zgN (k:=4) T (A10.mono (by decide)) (A14.mono (by decide))) :);have A16:AtG l.prog w K mg base 8 "is_join_rest" 1 zca:=(D16.ok (b:=zcF) zei (zhj (k:=7) T (A10.mono (by decide)) (A11.mono (by decide))) :);have A17:AtG l.prog w K mg base 9 "is_rest_of" 2 zcI:=(D17.ok (b:=zdr) zfv (ziH (k:=8) T (A11.mono (by decide)) (A12.mono (by decide)) (A13.mono (by decide)) (A14.mono (by decide)) (A15.mono (by decide)) (A16.mono (by decide))) :);have A18:AtG l.prog w K mg base 1 "row_of" 1 zdT:=(D18.ok (b:=zgf) ziN (znt (k:=0) T) :);have A19:AtG l.prog w K mg base 1 "has_its_froms" 1 zbG:=(D19.ok (b:=zco) zd3 (zgx (k:=0) T) :);have A20:AtG l.prog w K mg base 10 "is_row" 1 zeJ:=(D20.ok (b:=zfl) ziJ (znJ (k:=9) T (A9.mono (by decide)) (A17.mono (by decide)) (A18.mono (by decide)) (A19.mono (by decide))) :);have A21:AtG l.prog w K mg base 1 "has_its_names" 2 zbT:=(D21.ok (b:=zcu) zd4 (zg2 (k:=0) T) :);have B22:AtX l.prog w K mg base 11 "read_works" 1 zbq:=⟨_,_,_,D22.mg,D22.F.kp,zg0 (b:=zdn) D22.F zfn (by decide) (ziZ (k:=10) T (by decide) (A18.mono (by decide)) (A20.mono (by decide)) (A21.mono (by decide))),D22.b⟩;have A22:=B22.quiet;have A23:AtG l.prog w K mg base 1 "shown_row" 1 zdf:=(D23.ok (b:=zdU) zfY (zjB (k:=0) T) :);have A24:AtG l.prog w K mg base 2 "shown_works" 1 za2:=(D24.ok (b:=zcV) zeT (zhP (k:=1) T (A23.mono (by decide))) :);have A25:AtG l.prog w K mg base 1 "_law_cell_at" 2 zcZ:=(D25.ok (b:=zeI) zg3 (zk5 (k:=0) T) :);have A27:AtG l.prog w K mg base 1 "_law_drawn" 2 zdR:=(D27.ok (b:=zgi) zjf (zn5 (k:=0) T) :);have A26:AtG l.prog w K mg base 2 "_law_cells" 1 zeA:=(D26.ok (b:=zfq) ziX (zn3 (k:=1) T (A25.mono (by decide)) (A27.mono (by decide))) :);have A28:AtG l.prog w K mg base 1 "_law_leaf" 2 zdZ:=(D28.ok (b:=zgZ) zkk (zpx (k:=0) T) :);have A29:AtG l.prog w K mg base 2 "_law_expr" 3 zfK:=(D29.ok (b:=zhT) zkq (zqo (k:=1) T (A28.mono (by decide))) :);have A30:AtG l.prog w K mg base 2 "_law_cond" 2 zgR:=(D30.ok (b:=zh0) zkL (zpn (k:=1) T (A28.mono (by decide))) :);have A31:AtG l.prog w K mg base 1 "_law_name" 2 zgF:=(D31.ok (b:=zim) zkH (zqa (k:=0) T) :);have A32:AtG l.prog w K mg base 3 "_law_row" 3 zi2:=(D32.ok (b:=zky) zlw (ztC (k:=2) T (A29.mono (by decide)) (A30.mono (by decide)) (A31.mono (by decide))) :);have A33:AtG l.prog w K mg base 4 "_law_rows" 1 zgQ:=(D33.ok (b:=zhV) zj8 (zpK (k:=3) T (A27.mono (by decide)) (A32.mono (by decide))) :);have A34:AtG l.prog w K mg base 1 "_law_line" 1 zgG:=(D34.ok (b:=zio) zj6 (zqr (k:=0) T) :);refine @zkv l.prog w K mg base 11 "law" "law" zee f35 d35 ["_law_script","_law_rows_here","_law_text","_law_found","_law_beside"] ["_law_script"] znj ?_ ?_ ?_ ?_
 ·exact D35.F
 ·exact zoP
 ·decide
 ·exact @zul l.prog w K mg C base 11 f35 T (A22.mono (by decide)) (A24.mono (by decide)) (A26.mono (by decide)) (A33.mono (by decide)) (A34.mono (by decide))
theorem all_mk {l:PySem.W.OpenLaw}{w:World}{K:Fgx}{h:Heap}{mg:Mgx}{fa:Addr}(X:K.In h)(G:h.Ns mainGlobals mg)(hfa:mg "law"=some (.ref fa))
  (ac_Cond:PySem.W.nsIn K mainGlobals "Cond"=some (some (.ref C_Cond)))
  (ac_Expr:PySem.W.nsIn K mainGlobals "Expr"=some (some (.ref C_Expr)))
  (ac_DamError:PySem.W.nsIn K mainGlobals "DamError"=some (some (.ref C_DamError)))
  (ac_NoExpr:PySem.W.nsIn K mainGlobals "NoExpr"=some (some (.ref C_NoExpr)))
  (ac_NoName:PySem.W.nsIn K mainGlobals "NoName"=some (some (.ref C_NoName)))
  (ac_NoText:PySem.W.nsIn K mainGlobals "NoText"=some (some (.ref C_NoText)))
  (pg_Cond:PySem.W.plainGet K C_Cond Str.empty=true) (hd_Cond:PySem.W.hasDictIn K C_Cond=true) (po_Cond:PySem.W.plainOver K C_Cond=true) (sa_Cond:PySem.W.findIn K (.ref C_Cond) "__setattr__"=some (some (.builtin "object.__setattr__")))
  (pg_Expr:PySem.W.plainGet K C_Expr Str.empty=true) (hd_Expr:PySem.W.hasDictIn K C_Expr=true) (po_Expr:PySem.W.plainOver K C_Expr=true) (sa_Expr:PySem.W.findIn K (.ref C_Expr) "__setattr__"=some (some (.builtin "object.__setattr__")))
  (na_Expr_parts:PySem.W.findIn K (.ref C_Expr) "parts"=some none)
  (na_Cond_parts:PySem.W.findIn K (.ref C_Cond) "parts"=some none)
  (xc_DamError:xcIn K C_DamError=true)
  (xc_NoExpr:xcIn K C_NoExpr=true)
  (xc_NoName:xcIn K C_NoName=true)
  (xc_NoText:xcIn K C_NoText=true)
  (xb_DamError:zjT K C_DamError=true)
  (ai_NoName:PySem.W.findIn K (.ref C_NoName) "__init__"=some (some (.ref fi_NoName))) (li_NoName:K.lookup fi_NoName=some ⟨oi_NoName,odI_NoName,.func (PySem.W.fnOf "__init__" "NoName.__init__" (zb5 zbZ) (za9 zbZ) (zah zbZ) .none kI_NoName dI_NoName pI_NoName anI_NoName cI_NoName tI_NoName),slI_NoName⟩) (ki_NoName:PySem.W.codeIn K cI_NoName "NoName.__init__"=true) (kk_NoName:PySem.W.keepIn K (.ref fi_NoName)=true)
  (xi_NoName:zjO K C_NoName fi_NoName=true) (xk_NoName:PySem.W.keepIn K (.ref C_NoName)=true) (xa_NoName:zf9 K C_NoName "at"=true) (xs_NoName:zi4 K C_NoName=true)
  (ai_NoText:PySem.W.findIn K (.ref C_NoText) "__init__"=some (some (.ref fi_NoText))) (li_NoText:K.lookup fi_NoText=some ⟨oi_NoText,odI_NoText,.func (PySem.W.fnOf "__init__" "NoText.__init__" (zb5 zbV) (za9 zbV) (zah zbV) .none kI_NoText dI_NoText pI_NoText anI_NoText cI_NoText tI_NoText),slI_NoText⟩) (ki_NoText:PySem.W.codeIn K cI_NoText "NoText.__init__"=true) (kk_NoText:PySem.W.keepIn K (.ref fi_NoText)=true)
  (xi_NoText:zjO K C_NoText fi_NoText=true) (xk_NoText:PySem.W.keepIn K (.ref C_NoText)=true) (xa_NoText:zf9 K C_NoText "at"=true) (xs_NoText:zi4 K C_NoText=true)
  (xn_NoExpr:zlJ K C_NoExpr=true) (xk_NoExpr:PySem.W.keepIn K (.ref C_NoExpr)=true) (xs_NoExpr:zi4 K C_NoExpr=true)
  (qk_NoExpr_NoExpr:zjP K C_NoExpr C_NoExpr=true)
  (F0:FAt K "is_figures" zcM)
  (F1:FAt K "is_signed_figures" zaQ)
  (F2:FAt K "is_count" zdE)
  (F3:FAt K "is_number" zdb)
  (F4:FAt K "is_leaf" zdN)
  (F5:FAt K "take_needed" zbf)
  (F6:FAt K "check_words" za3)
  (F7:FAt K "read_expr" zcC)
  (F8:FAt K "read_cond" zdg)
  (F9:FAt K "is_name" zec)
  (F10:FAt K "is_count_within" zaR)
  (F11:FAt K "is_expr" zdP)
  (F12:FAt K "is_cond" zeh)
  (F13:FAt K "is_share_rest" zbU)
  (F14:FAt K "is_width_rest" zbN)
  (F15:FAt K "is_slide_rest" zbo)
  (F16:FAt K "is_join_rest" zb8)
  (F17:FAt K "is_rest_of" zcg)
  (F18:FAt K "row_of" zey)
  (F19:FAt K "has_its_froms" zbS)
  (F20:FAt K "is_row" zeF)
  (F21:FAt K "has_its_names" zbn)
  (F22:FAt K "read_works" zaW)
  (F23:FAt K "shown_row" zdh)
  (F24:FAt K "shown_works" zcq)
  (F25:FAt K "_law_cell_at" zc2)
  (F26:FAt K "_law_cells" zeG)
  (F27:FAt K "_law_drawn" zcY)
  (F28:FAt K "_law_leaf" ze2)
  (F29:FAt K "_law_expr" zde)
  (F30:FAt K "_law_cond" zcO)
  (F31:FAt K "_law_name" zeg)
  (F32:FAt K "_law_row" zdm)
  (F33:FAt K "_law_rows" zdY)
  (F34:FAt K "_law_line" zg7)
  (a35:PySem.W.nsIn K mainGlobals "law"=some (some (.ref f35))) (l35:K.lookup f35=some ⟨oc35,od35,.func (PySem.W.fnOf "law" "law" (zb5 zee) (za9 zee) (zah zee) .none kV35 dc35 pm35 an35 cd35 ct35),sl35⟩) (c35:PySem.W.codeIn K cd35 "law"=true) (k35:PySem.W.keepIn K (.ref f35)=true)
  (a36:PySem.W.findIn K (.ref C_Expr) "__init__"=some (some (.ref f36))) (l36:K.lookup f36=some ⟨oc36,od36,.func (PySem.W.fnOf "__init__" "Expr.__init__" (zb5 zaE) (za9 zaE) (zah zaE) .none kV36 dc36 pm36 an36 cd36 ct36),sl36⟩) (c36:PySem.W.codeIn K cd36 "Expr.__init__"=true) (k36:PySem.W.keepIn K (.ref f36)=true)
  (n36:PySem.W.isFn K (.ref f36)=true)
  (w36:PySem.W.makesIn K C_Expr=true) (y36:PySem.W.keepIn K (.ref C_Expr)=true)
  (a37:PySem.W.findIn K (.ref C_Cond) "__init__"=some (some (.ref f37))) (l37:K.lookup f37=some ⟨oc37,od37,.func (PySem.W.fnOf "__init__" "Cond.__init__" (zb5 zaF) (za9 zaF) (zah zaF) .none kV37 dc37 pm37 an37 cd37 ct37),sl37⟩) (c37:PySem.W.codeIn K cd37 "Cond.__init__"=true) (k37:PySem.W.keepIn K (.ref f37)=true)
  (n37:PySem.W.isFn K (.ref f37)=true)
  (w37:PySem.W.makesIn K C_Cond=true) (y37:PySem.W.keepIn K (.ref C_Cond)=true)
  (z_any:PySem.W.nsIn K mainGlobals "any"=some none)
  (z_len:PySem.W.nsIn K mainGlobals "len"=some none)
  (z_range:PySem.W.nsIn K mainGlobals "range"=some none)
  (z_reversed:PySem.W.nsIn K mainGlobals "reversed"=some none)
  (z_all:PySem.W.nsIn K mainGlobals "all"=some none)
  (z_int:PySem.W.nsIn K mainGlobals "int"=some none)
  (z_tuple:PySem.W.nsIn K mainGlobals "tuple"=some none)
  (z_enumerate:PySem.W.nsIn K mainGlobals "enumerate"=some none)
  (z_str:PySem.W.nsIn K mainGlobals "str"=some none)
  (z_min:PySem.W.nsIn K mainGlobals "min"=some none)
  (z_list:PySem.W.nsIn K mainGlobals "list"=some none)
  (z_isinstance:PySem.W.nsIn K mainGlobals "isinstance"=some none)
  (y_ALL_LETTERS:PySem.W.nsIn K mainGlobals "ALL_LETTERS"=some (some (.ref tALL_LETTERS))) (x_ALL_LETTERS:K.lookup tALL_LETTERS=some ⟨.type "tuple",dALL_LETTERS,.seq #[.str "t" kALL_LETTERS_0,.str "v" kALL_LETTERS_1,.str "w" kALL_LETTERS_2] nALL_LETTERS,sALL_LETTERS⟩)
  (y_FOLDS:PySem.W.nsIn K mainGlobals "FOLDS"=some (some (.ref tFOLDS))) (x_FOLDS:K.lookup tFOLDS=some ⟨.type "tuple",dFOLDS,.seq #[.str "sum" kFOLDS_0,.str "count" kFOLDS_1,.str "most" kFOLDS_2,.str "least" kFOLDS_3] nFOLDS,sFOLDS⟩)
  (y_NEEDS:PySem.W.nsIn K mainGlobals "NEEDS"=some (some (.ref tNEEDS)))
  (kd_NEEDS:K.lookup tNEEDS=some ⟨.type "dict",none,.dict #[⟨hNEEDS_0,.str "+" kNEEDS_0,.ref tNEEDS_0⟩,⟨hNEEDS_1,.str "-" kNEEDS_1,.ref tNEEDS_1⟩,⟨hNEEDS_2,.str "*" kNEEDS_2,.ref tNEEDS_2⟩,⟨hNEEDS_3,.str "least" kNEEDS_3,.ref tNEEDS_3⟩,⟨hNEEDS_4,.str "most" kNEEDS_4,.ref tNEEDS_4⟩,⟨hNEEDS_5,.str "<" kNEEDS_5,.ref tNEEDS_5⟩,⟨hNEEDS_6,.str "=" kNEEDS_6,.ref tNEEDS_6⟩,⟨hNEEDS_7,.str "not" kNEEDS_7,.ref tNEEDS_7⟩,⟨hNEEDS_8,.str "and" kNEEDS_8,.ref tNEEDS_8⟩,⟨hNEEDS_9,.str "or" kNEEDS_9,.ref tNEEDS_9⟩] nNEEDS, #[]⟩) (ks_NEEDS:(tNEEDS==sysModules)=false)
  (kh_NEEDS_0:hNEEDS_0=hashStr w "+")
  (kt_NEEDS_0:K.lookup tNEEDS_0=some ⟨.type "tuple",dNEEDS_0,.seq #[.str "number" jNEEDS_0_0,.str "number" jNEEDS_0_1,.int 2 jNEEDS_0_2] mNEEDS_0,sNEEDS_0⟩)
  (kh_NEEDS_1:hNEEDS_1=hashStr w "-")
  (kt_NEEDS_1:K.lookup tNEEDS_1=some ⟨.type "tuple",dNEEDS_1,.seq #[.str "number" jNEEDS_1_0,.str "number" jNEEDS_1_1,.int 2 jNEEDS_1_2] mNEEDS_1,sNEEDS_1⟩)
  (kh_NEEDS_2:hNEEDS_2=hashStr w "*")
  (kt_NEEDS_2:K.lookup tNEEDS_2=some ⟨.type "tuple",dNEEDS_2,.seq #[.str "number" jNEEDS_2_0,.str "number" jNEEDS_2_1,.int 2 jNEEDS_2_2] mNEEDS_2,sNEEDS_2⟩)
  (kh_NEEDS_3:hNEEDS_3=hashStr w "least")
  (kt_NEEDS_3:K.lookup tNEEDS_3=some ⟨.type "tuple",dNEEDS_3,.seq #[.str "number" jNEEDS_3_0,.str "number" jNEEDS_3_1,.int 2 jNEEDS_3_2] mNEEDS_3,sNEEDS_3⟩)
  (kh_NEEDS_4:hNEEDS_4=hashStr w "most")
  (kt_NEEDS_4:K.lookup tNEEDS_4=some ⟨.type "tuple",dNEEDS_4,.seq #[.str "number" jNEEDS_4_0,.str "number" jNEEDS_4_1,.int 2 jNEEDS_4_2] mNEEDS_4,sNEEDS_4⟩)
  (kh_NEEDS_5:hNEEDS_5=hashStr w "<")
  (kt_NEEDS_5:K.lookup tNEEDS_5=some ⟨.type "tuple",dNEEDS_5,.seq #[.str "truth" jNEEDS_5_0,.str "number" jNEEDS_5_1,.int 2 jNEEDS_5_2] mNEEDS_5,sNEEDS_5⟩)
  (kh_NEEDS_6:hNEEDS_6=hashStr w "=")
  (kt_NEEDS_6:K.lookup tNEEDS_6=some ⟨.type "tuple",dNEEDS_6,.seq #[.str "truth" jNEEDS_6_0,.str "number" jNEEDS_6_1,.int 2 jNEEDS_6_2] mNEEDS_6,sNEEDS_6⟩)
  (kh_NEEDS_7:hNEEDS_7=hashStr w "not")
  (kt_NEEDS_7:K.lookup tNEEDS_7=some ⟨.type "tuple",dNEEDS_7,.seq #[.str "truth" jNEEDS_7_0,.str "truth" jNEEDS_7_1,.int 1 jNEEDS_7_2] mNEEDS_7,sNEEDS_7⟩)
  (kh_NEEDS_8:hNEEDS_8=hashStr w "and")
  (kt_NEEDS_8:K.lookup tNEEDS_8=some ⟨.type "tuple",dNEEDS_8,.seq #[.str "truth" jNEEDS_8_0,.str "truth" jNEEDS_8_1,.int 2 jNEEDS_8_2] mNEEDS_8,sNEEDS_8⟩)
  (kh_NEEDS_9:hNEEDS_9=hashStr w "or")
  (kt_NEEDS_9:K.lookup tNEEDS_9=some ⟨.type "tuple",dNEEDS_9,.seq #[.str "truth" jNEEDS_9_0,.str "truth" jNEEDS_9_1,.int 2 jNEEDS_9_2] mNEEDS_9,sNEEDS_9⟩)
  (y_FROMS:PySem.W.nsIn K mainGlobals "FROMS"=some (some (.ref tFROMS)))
  (kd_FROMS:K.lookup tFROMS=some ⟨.type "dict",none,.dict #[⟨hFROMS_0,.str "in" kFROMS_0,.int 0 jFROMS_0⟩,⟨hFROMS_1,.str "keep" kFROMS_1,.int 1 jFROMS_1⟩,⟨hFROMS_2,.str "turn" kFROMS_2,.int 1 jFROMS_2⟩,⟨hFROMS_3,.str "share" kFROMS_3,.int 1 jFROMS_3⟩,⟨hFROMS_4,.str "pour" kFROMS_4,.int 8 jFROMS_4⟩,⟨hFROMS_5,.str "fixed" kFROMS_5,.int 1 jFROMS_5⟩,⟨hFROMS_6,.str "slide" kFROMS_6,.int 1 jFROMS_6⟩,⟨hFROMS_7,.str "gap" kFROMS_7,.int 1 jFROMS_7⟩,⟨hFROMS_8,.str "join" kFROMS_8,.int 2 jFROMS_8⟩,⟨hFROMS_9,.str "out" kFROMS_9,.int 1 jFROMS_9⟩] nFROMS, #[]⟩) (ks_FROMS:(tFROMS==sysModules)=false)
  (kh_FROMS_0:hFROMS_0=hashStr w "in")
  (kh_FROMS_1:hFROMS_1=hashStr w "keep")
  (kh_FROMS_2:hFROMS_2=hashStr w "turn")
  (kh_FROMS_3:hFROMS_3=hashStr w "share")
  (kh_FROMS_4:hFROMS_4=hashStr w "pour")
  (kh_FROMS_5:hFROMS_5=hashStr w "fixed")
  (kh_FROMS_6:hFROMS_6=hashStr w "slide")
  (kh_FROMS_7:hFROMS_7=hashStr w "gap")
  (kh_FROMS_8:hFROMS_8=hashStr w "join")
  (kh_FROMS_9:hFROMS_9=hashStr w "out")
  (y_FIGURES:PySem.W.nsIn K mainGlobals "FIGURES"=some (some (.str "0123456789" tFIGURES)))
  (y_MOST_FIGURES:PySem.W.nsIn K mainGlobals "MOST_FIGURES"=some (some (.int 20 tMOST_FIGURES)))
  (y_LETTERS:PySem.W.nsIn K mainGlobals "LETTERS"=some (some (.str "abcdefghijklmnopqrstuvwxyz" tLETTERS)))
  (y_COND_LETTERS:PySem.W.nsIn K mainGlobals "COND_LETTERS"=some (some (.str "tv" tCOND_LETTERS)))
  (y_MOST_SIGNS:PySem.W.nsIn K mainGlobals "MOST_SIGNS"=some (some (.int 12 tMOST_SIGNS)))
  (y_MOST_SHARES:PySem.W.nsIn K mainGlobals "MOST_SHARES"=some (some (.int 8 tMOST_SHARES)))
  (y_MOST_SPREAD:PySem.W.nsIn K mainGlobals "MOST_SPREAD"=some (some (.int 8 tMOST_SPREAD)))
  (y_MOST_SPAN:PySem.W.nsIn K mainGlobals "MOST_SPAN"=some (some (.int 1000000000000 tMOST_SPAN)))
  :∃fd:FuncData,(∀(s:Shared) (v:Value),BindsTo s fd ⟨[v],[]⟩ [("_law_script",v)])/\∀base:Heap,K.In base->base.Ns mainGlobals mg->FnOk l.prog w K mg base CX0 lawK fa fd ["_law_script"] (spL K lawG):=by
 have e:=hfa.symm.trans (PySem.W.mg_of X G a35);cases e;have T:Txt (w:=w) K mg ⟨C_Cond,C_Expr,C_DamError,C_NoExpr,C_NoName,C_NoText⟩:=⟨by simp only[blts,List.mem_cons,List.not_mem_nil,or_false,forall_eq_or_imp,forall_eq];exact⟨PySem.W.mg_none_of X G z_any,PySem.W.mg_none_of X G z_len,PySem.W.mg_none_of X G z_range,PySem.W.mg_none_of X G z_reversed,PySem.W.mg_none_of X G z_all,PySem.W.mg_none_of X G z_int,PySem.W.mg_none_of X G z_tuple,PySem.W.mg_none_of X G z_enumerate,PySem.W.mg_none_of X G z_str,PySem.W.mg_none_of X G z_min,PySem.W.mg_none_of X G z_list,PySem.W.mg_none_of X G z_isinstance⟩,⟨PySem.W.mg_of X G ac_Cond,pg_Cond,hd_Cond,po_Cond,sa_Cond⟩,⟨PySem.W.mg_of X G ac_Expr,pg_Expr,hd_Expr,po_Expr,sa_Expr⟩,na_Expr_parts,na_Cond_parts,PySem.W.mg_of X G ac_DamError,xc_DamError,PySem.W.mg_of X G ac_NoExpr,xc_NoExpr,PySem.W.mg_of X G ac_NoName,xc_NoName,PySem.W.mg_of X G ac_NoText,xc_NoText,xn_NoExpr,xk_NoExpr,xs_NoExpr,xk_NoName,xs_NoName,xk_NoText,xs_NoText,qk_NoExpr_NoExpr,xb_DamError,xa_NoName,⟨_,_,xi_NoName,zfM li_NoName ki_NoName kk_NoName,(zhM (st:=zbZ) li_NoName ki_NoName kk_NoName).binds (ps:=["self","at"]) fun _ _ _ _ _ _ us hl=>match us,hl with | [_,_],_=>rfl⟩,xa_NoText,⟨_,_,xi_NoText,zfM li_NoText ki_NoText kk_NoText,(zhM (st:=zbV) li_NoText ki_NoText kk_NoText).binds (ps:=["self","at"]) fun _ _ _ _ _ _ us hl=>match us,hl with | [_,_],_=>rfl⟩,⟨_,PySem.W.mg_of X G y_ALL_LETTERS,zcN (vs:=[(.str "t"),(.str "v"),(.str "w")]) (its:= #[.str "t" _,.str "v" _,.str "w" _]) (o:=⟨.type "tuple",_,.seq #[.str "t" _,.str "v" _,.str "w" _] _,_⟩) x_ALL_LETTERS rfl rfl (by show 3<=sizeLine;decide) (.cons ⟨_,rfl⟩ (.cons ⟨_,rfl⟩ (.cons ⟨_,rfl⟩ (.nil)))) (fun _ _=>⟨_,_,rfl,rfl,⟨_,_,rfl,rfl,⟨_,_,rfl,rfl,rfl⟩⟩⟩)⟩,⟨_,PySem.W.mg_of X G y_FOLDS,zcN (vs:=[(.str "sum"),(.str "count"),(.str "most"),(.str "least")]) (its:= #[.str "sum" _,.str "count" _,.str "most" _,.str "least" _]) (o:=⟨.type "tuple",_,.seq #[.str "sum" _,.str "count" _,.str "most" _,.str "least" _] _,_⟩) x_FOLDS rfl rfl (by show 4<=sizeLine;decide) (.cons ⟨_,rfl⟩ (.cons ⟨_,rfl⟩ (.cons ⟨_,rfl⟩ (.cons ⟨_,rfl⟩ (.nil))))) (fun _ _=>⟨_,_,rfl,rfl,⟨_,_,rfl,rfl,⟨_,_,rfl,rfl,⟨_,_,rfl,rfl,rfl⟩⟩⟩⟩)⟩,⟨_,PySem.W.mg_of X G y_NEEDS,_,_,_,_,kd_NEEDS,⟨rfl,rfl,rfl⟩,rfl,.cons (v:=.ref tNEEDS_0) kh_NEEDS_0 rfl (zcN (vs:=[(.str "number"),(.str "number"),(.int 2)]) (its:= #[.str "number" _,.str "number" _,.int 2 _]) (o:=⟨.type "tuple",_,.seq #[.str "number" _,.str "number" _,.int 2 _] _,_⟩) kt_NEEDS_0 rfl rfl (by show 3<=sizeLine;decide) (.cons ⟨_,rfl⟩ (.cons ⟨_,rfl⟩ (.cons ⟨_,rfl⟩ (.nil)))) (fun _ _=>⟨_,_,rfl,rfl,⟨_,_,rfl,rfl,⟨_,_,rfl,rfl,rfl⟩⟩⟩)) (.cons (v:=.ref tNEEDS_1) kh_NEEDS_1 rfl (zcN (vs:=[(.str "number"),(.str "number"),(.int 2)]) (its:= #[.str "number" _,.str "number" _,.int 2 _]) (o:=⟨.type "tuple",_,.seq #[.str "number" _,.str "number" _,.int 2 _] _,_⟩) kt_NEEDS_1 rfl rfl (by show 3<=sizeLine;decide) (.cons ⟨_,rfl⟩ (.cons ⟨_,rfl⟩ (.cons ⟨_,rfl⟩ (.nil)))) (fun _ _=>⟨_,_,rfl,rfl,⟨_,_,rfl,rfl,⟨_,_,rfl,rfl,rfl⟩⟩⟩)) (.cons (v:=.ref tNEEDS_2) kh_NEEDS_2 rfl (zcN (vs:=[(.str "number"),(.str "number"),(.int 2)]) (its:= #[.str "number" _,.str "number" _,.int 2 _]) (o:=⟨.type "tuple",_,.seq #[.str "number" _,.str "number" _,.int 2 _] _,_⟩) kt_NEEDS_2 rfl rfl (by show 3<=sizeLine;decide) (.cons ⟨_,rfl⟩ (.cons ⟨_,rfl⟩ (.cons ⟨_,rfl⟩ (.nil)))) (fun _ _=>⟨_,_,rfl,rfl,⟨_,_,rfl,rfl,⟨_,_,rfl,rfl,rfl⟩⟩⟩)) (.cons (v:=.ref tNEEDS_3) kh_NEEDS_3 rfl (zcN (vs:=[(.str "number"),(.str "number"),(.int 2)]) (its:= #[.str "number" _,.str "number" _,.int 2 _]) (o:=⟨.type "tuple",_,.seq #[.str "number" _,.str "number" _,.int 2 _] _,_⟩) kt_NEEDS_3 rfl rfl (by show 3<=sizeLine;decide) (.cons ⟨_,rfl⟩ (.cons ⟨_,rfl⟩ (.cons ⟨_,rfl⟩ (.nil)))) (fun _ _=>⟨_,_,rfl,rfl,⟨_,_,rfl,rfl,⟨_,_,rfl,rfl,rfl⟩⟩⟩)) (.cons (v:=.ref tNEEDS_4) kh_NEEDS_4 rfl (zcN (vs:=[(.str "number"),(.str "number"),(.int 2)]) (its:= #[.str "number" _,.str "number" _,.int 2 _]) (o:=⟨.type "tuple",_,.seq #[.str "number" _,.str "number" _,.int 2 _] _,_⟩) kt_NEEDS_4 rfl rfl (by show 3<=sizeLine;decide) (.cons ⟨_,rfl⟩ (.cons ⟨_,rfl⟩ (.cons ⟨_,rfl⟩ (.nil)))) (fun _ _=>⟨_,_,rfl,rfl,⟨_,_,rfl,rfl,⟨_,_,rfl,rfl,rfl⟩⟩⟩)) (.cons (v:=.ref tNEEDS_5) kh_NEEDS_5 rfl (zcN (vs:=[(.str "truth"),(.str "number"),(.int 2)]) (its:= #[.str "truth" _,.str "number" _,.int 2 _]) (o:=⟨.type "tuple",_,.seq #[.str "truth" _,.str "number" _,.int 2 _] _,_⟩) kt_NEEDS_5 rfl rfl (by show 3<=sizeLine;decide) (.cons ⟨_,rfl⟩ (.cons ⟨_,rfl⟩ (.cons ⟨_,rfl⟩ (.nil)))) (fun _ _=>⟨_,_,rfl,rfl,⟨_,_,rfl,rfl,⟨_,_,rfl,rfl,rfl⟩⟩⟩)) (.cons (v:=.ref tNEEDS_6) kh_NEEDS_6 rfl (zcN (vs:=[(.str "truth"),(.str "number"),(.int 2)]) (its:= #[.str "truth" _,.str "number" _,.int 2 _]) (o:=⟨.type "tuple",_,.seq #[.str "truth" _,.str "number" _,.int 2 _] _,_⟩) kt_NEEDS_6 rfl rfl (by show 3<=sizeLine;decide) (.cons ⟨_,rfl⟩ (.cons ⟨_,rfl⟩ (.cons ⟨_,rfl⟩ (.nil)))) (fun _ _=>⟨_,_,rfl,rfl,⟨_,_,rfl,rfl,⟨_,_,rfl,rfl,rfl⟩⟩⟩)) (.cons (v:=.ref tNEEDS_7) kh_NEEDS_7 rfl (zcN (vs:=[(.str "truth"),(.str "truth"),(.int 1)]) (its:= #[.str "truth" _,.str "truth" _,.int 1 _]) (o:=⟨.type "tuple",_,.seq #[.str "truth" _,.str "truth" _,.int 1 _] _,_⟩) kt_NEEDS_7 rfl rfl (by show 3<=sizeLine;decide) (.cons ⟨_,rfl⟩ (.cons ⟨_,rfl⟩ (.cons ⟨_,rfl⟩ (.nil)))) (fun _ _=>⟨_,_,rfl,rfl,⟨_,_,rfl,rfl,⟨_,_,rfl,rfl,rfl⟩⟩⟩)) (.cons (v:=.ref tNEEDS_8) kh_NEEDS_8 rfl (zcN (vs:=[(.str "truth"),(.str "truth"),(.int 2)]) (its:= #[.str "truth" _,.str "truth" _,.int 2 _]) (o:=⟨.type "tuple",_,.seq #[.str "truth" _,.str "truth" _,.int 2 _] _,_⟩) kt_NEEDS_8 rfl rfl (by show 3<=sizeLine;decide) (.cons ⟨_,rfl⟩ (.cons ⟨_,rfl⟩ (.cons ⟨_,rfl⟩ (.nil)))) (fun _ _=>⟨_,_,rfl,rfl,⟨_,_,rfl,rfl,⟨_,_,rfl,rfl,rfl⟩⟩⟩)) (.cons (v:=.ref tNEEDS_9) kh_NEEDS_9 rfl (zcN (vs:=[(.str "truth"),(.str "truth"),(.int 2)]) (its:= #[.str "truth" _,.str "truth" _,.int 2 _]) (o:=⟨.type "tuple",_,.seq #[.str "truth" _,.str "truth" _,.int 2 _] _,_⟩) kt_NEEDS_9 rfl rfl (by show 3<=sizeLine;decide) (.cons ⟨_,rfl⟩ (.cons ⟨_,rfl⟩ (.cons ⟨_,rfl⟩ (.nil)))) (fun _ _=>⟨_,_,rfl,rfl,⟨_,_,rfl,rfl,⟨_,_,rfl,rfl,rfl⟩⟩⟩)) (.nil)))))))))),by x_go,ks_NEEDS⟩,⟨_,PySem.W.mg_of X G y_FROMS,_,_,_,_,kd_FROMS,⟨rfl,rfl,rfl⟩,rfl,.cons (v:=(.int 0)) kh_FROMS_0 ⟨_,rfl⟩ (fun _ _=>rfl) (.cons (v:=(.int 1)) kh_FROMS_1 ⟨_,rfl⟩ (fun _ _=>rfl) (.cons (v:=(.int 1)) kh_FROMS_2 ⟨_,rfl⟩ (fun _ _=>rfl) (.cons (v:=(.int 1)) kh_FROMS_3 ⟨_,rfl⟩ (fun _ _=>rfl) (.cons (v:=(.int 8)) kh_FROMS_4 ⟨_,rfl⟩ (fun _ _=>rfl) (.cons (v:=(.int 1)) kh_FROMS_5 ⟨_,rfl⟩ (fun _ _=>rfl) (.cons (v:=(.int 1)) kh_FROMS_6 ⟨_,rfl⟩ (fun _ _=>rfl) (.cons (v:=(.int 1)) kh_FROMS_7 ⟨_,rfl⟩ (fun _ _=>rfl) (.cons (v:=(.int 2)) kh_FROMS_8 ⟨_,rfl⟩ (fun _ _=>rfl) (.cons (v:=(.int 1)) kh_FROMS_9 ⟨_,rfl⟩ (fun _ _=>rfl) (.nil)))))))))),by x_go,ks_FROMS⟩,⟨_,PySem.W.mg_of X G y_FIGURES⟩,⟨_,PySem.W.mg_of X G y_MOST_FIGURES⟩,⟨_,PySem.W.mg_of X G y_LETTERS⟩,⟨_,PySem.W.mg_of X G y_COND_LETTERS⟩,⟨_,PySem.W.mg_of X G y_MOST_SIGNS⟩,⟨_,PySem.W.mg_of X G y_MOST_SHARES⟩,⟨_,PySem.W.mg_of X G y_MOST_SPREAD⟩,⟨_,PySem.W.mg_of X G y_MOST_SPAN⟩⟩
 obtain⟨f0,d0,D0⟩:=F0.at (ps:=["text"]) X G fun _ _ _ _ _ _ us hl=>match us,hl with | [_],_=>rfl
 obtain⟨f1,d1,D1⟩:=F1.at (ps:=["text"]) X G fun _ _ _ _ _ _ us hl=>match us,hl with | [_],_=>rfl
 obtain⟨f2,d2,D2⟩:=F2.at (ps:=["text"]) X G fun _ _ _ _ _ _ us hl=>match us,hl with | [_],_=>rfl
 obtain⟨f3,d3,D3⟩:=F3.at (ps:=["text"]) X G fun _ _ _ _ _ _ us hl=>match us,hl with | [_],_=>rfl
 obtain⟨f4,d4,D4⟩:=F4.at (ps:=["word","letters"]) X G fun _ _ _ _ _ _ us hl=>match us,hl with | [_,_],_=>rfl
 obtain⟨f5,d5,D5⟩:=F5.at (ps:=["word","kinds"]) X G fun _ _ _ _ _ _ us hl=>match us,hl with | [_,_],_=>rfl
 obtain⟨f6,d6,D6⟩:=F6.at (ps:=["words","letters","wanted"]) X G fun _ _ _ _ _ _ us hl=>match us,hl with | [_,_,_],_=>rfl
 obtain⟨f7,d7,D7⟩:=F7.at (ps:=["words","letters"]) X G fun _ _ _ _ _ _ us hl=>match us,hl with | [_,_],_=>rfl
 obtain⟨f8,d8,D8⟩:=F8.at (ps:=["words"]) X G fun _ _ _ _ _ _ us hl=>match us,hl with | [_],_=>rfl
 obtain⟨f9,d9,D9⟩:=F9.at (ps:=["text"]) X G fun _ _ _ _ _ _ us hl=>match us,hl with | [_],_=>rfl
 obtain⟨f10,d10,D10⟩:=F10.at (ps:=["text","least","most"]) X G fun _ _ _ _ _ _ us hl=>match us,hl with | [_,_,_],_=>rfl
 obtain⟨f11,d11,D11⟩:=F11.at (ps:=["words","letters"]) X G fun _ _ _ _ _ _ us hl=>match us,hl with | [_,_],_=>rfl
 obtain⟨f12,d12,D12⟩:=F12.at (ps:=["words"]) X G fun _ _ _ _ _ _ us hl=>match us,hl with | [_],_=>rfl
 obtain⟨f13,d13,D13⟩:=F13.at (ps:=["rest"]) X G fun _ _ _ _ _ _ us hl=>match us,hl with | [_],_=>rfl
 obtain⟨f14,d14,D14⟩:=F14.at (ps:=["rest"]) X G fun _ _ _ _ _ _ us hl=>match us,hl with | [_],_=>rfl
 obtain⟨f15,d15,D15⟩:=F15.at (ps:=["rest"]) X G fun _ _ _ _ _ _ us hl=>match us,hl with | [_],_=>rfl
 obtain⟨f16,d16,D16⟩:=F16.at (ps:=["rest"]) X G fun _ _ _ _ _ _ us hl=>match us,hl with | [_],_=>rfl
 obtain⟨f17,d17,D17⟩:=F17.at (ps:=["word","rest"]) X G fun _ _ _ _ _ _ us hl=>match us,hl with | [_,_],_=>rfl
 obtain⟨f18,d18,D18⟩:=F18.at (ps:=["words"]) X G fun _ _ _ _ _ _ us hl=>match us,hl with | [_],_=>rfl
 obtain⟨f19,d19,D19⟩:=F19.at (ps:=["row"]) X G fun _ _ _ _ _ _ us hl=>match us,hl with | [_],_=>rfl
 obtain⟨f20,d20,D20⟩:=F20.at (ps:=["words"]) X G fun _ _ _ _ _ _ us hl=>match us,hl with | [_],_=>rfl
 obtain⟨f21,d21,D21⟩:=F21.at (ps:=["row","words_above"]) X G fun _ _ _ _ _ _ us hl=>match us,hl with | [_,_],_=>rfl
 obtain⟨f22,d22,D22⟩:=F22.at (ps:=["text"]) X G fun _ _ _ _ _ _ us hl=>match us,hl with | [_],_=>rfl
 obtain⟨f23,d23,D23⟩:=F23.at (ps:=["row"]) X G fun _ _ _ _ _ _ us hl=>match us,hl with | [_],_=>rfl
 obtain⟨f24,d24,D24⟩:=F24.at (ps:=["works"]) X G fun _ _ _ _ _ _ us hl=>match us,hl with | [_],_=>rfl
 obtain⟨f25,d25,D25⟩:=F25.at (ps:=["_law_script","_law_k"]) X G fun _ _ _ _ _ _ us hl=>match us,hl with | [_,_],_=>rfl
 obtain⟨f26,d26,D26⟩:=F26.at (ps:=["_law_script"]) X G fun _ _ _ _ _ _ us hl=>match us,hl with | [_],_=>rfl
 obtain⟨f27,d27,D27⟩:=F27.at (ps:=["_law_number","_law_many"]) X G fun _ _ _ _ _ _ us hl=>match us,hl with | [_,_],_=>rfl
 obtain⟨f28,d28,D28⟩:=F28.at (ps:=["_law_x","_law_letters"]) X G fun _ _ _ _ _ _ us hl=>match us,hl with | [_,_],_=>rfl
 obtain⟨f29,d29,D29⟩:=F29.at (ps:=["_law_number","_law_letters","_law_most"]) X G fun _ _ _ _ _ _ us hl=>match us,hl with | [_,_,_],_=>rfl
 obtain⟨f30,d30,D30⟩:=F30.at (ps:=["_law_number","_law_most"]) X G fun _ _ _ _ _ _ us hl=>match us,hl with | [_,_],_=>rfl
 obtain⟨f31,d31,D31⟩:=F31.at (ps:=["_law_x","_law_k"]) X G fun _ _ _ _ _ _ us hl=>match us,hl with | [_,_],_=>rfl
 obtain⟨f32,d32,D32⟩:=F32.at (ps:=["_law_k","_law_xs","_law_above"]) X G fun _ _ _ _ _ _ us hl=>match us,hl with | [_,_,_],_=>rfl
 obtain⟨f33,d33,D33⟩:=F33.at (ps:=["_law_cells_here"]) X G fun _ _ _ _ _ _ us hl=>match us,hl with | [_],_=>rfl
 obtain⟨f34,d34,D34⟩:=F34.at (ps:=["_law_row_here"]) X G fun _ _ _ _ _ _ us hl=>match us,hl with | [_],_=>rfl
 have D35:DefAt K mg "law" zee ["_law_script"] _ _:=⟨PySem.W.mg_of X G a35,zfM l35 c35 k35,(zhM (st:=zee) l35 c35 k35).binds (ps:=["_law_script"]) fun _ _ _ _ _ _ us hl=>match us,hl with | [_],_=>rfl⟩
 have D36:IniAt K C_Expr "Expr.__init__" zaE ["self","words"] _ _:=⟨⟨w36,a36,n36,y36⟩,zfM l36 c36 k36,(zhM (st:=zaE) l36 c36 k36).binds (ps:=["self","words"]) fun _ _ _ _ _ _ us hl=>match us,hl with | [_,_],_=>rfl⟩
 have D37:IniAt K C_Cond "Cond.__init__" zaF ["self","words"] _ _:=⟨⟨w37,a37,n37,y37⟩,zfM l37 c37 k37,(zhM (st:=zaF) l37 c37 k37).binds (ps:=["self","words"]) fun _ _ _ _ _ _ us hl=>match us,hl with | [_,_],_=>rfl⟩
 refine⟨PySem.W.fnOf "law" "law" (zb5 zee) (za9 zee) (zah zee) .none kV35 dc35 pm35 an35 cd35 ct35,fun s v=>.of_eq rfl,fun base _ _=>zrz ?_⟩;exact zs8 T D0 D1 D2 D3 D4 D5 D6 D7 D8 D9 D10 D11 D12 D13 D14 D15 D16 D17 D18 D19 D20 D21 D22 D23 D24 D25 D26 D27 D28 D29 D30 D31 D32 D33 D34 D35 D36 D37
end My
open PySem PySem.W PyProof.Rows
set_option maxRecDepth 100000 in
set_option maxHeartbeats 0 in
theorem PySem.Challenge.cw_rowdam_k14_works_read_holds : PySem.Challenge.rw_rowdam_k14_works_read.Holds := by
 w_on;refine HQ.two "special-get-raises" My.he My.hAf My.hBf My.hAt My.hBt ?_
 k_fill
 refine E3.zqH (l:=PySem.Challenge.rw_rowdam_k14_works_read) (k:=My.lawK) (g:=My.lawG) (x:="_law_script") rfl rfl ⟨rfl,by decide,by decide⟩ (fun w h Y=>PySem.W.kIn_of Y) ?F My.zpI
 case F=>
  intro w mg fa h KX G hmg
  refine' My.all_mk KX G hmg ?ac_Cond ?ac_Expr ?ac_DamError ?ac_NoExpr ?ac_NoName ?ac_NoText ?pg_Cond ?hd_Cond ?po_Cond ?sa_Cond ?pg_Expr ?hd_Expr ?po_Expr ?sa_Expr ?na_Expr_parts ?na_Cond_parts ?xc_DamError ?xc_NoExpr ?xc_NoName ?xc_NoText ?xb_DamError ?ai_NoName ?li_NoName ?ki_NoName ?kk_NoName ?xi_NoName ?xk_NoName ?xa_NoName ?xs_NoName ?ai_NoText ?li_NoText ?ki_NoText ?kk_NoText ?xi_NoText ?xk_NoText ?xa_NoText ?xs_NoText ?xn_NoExpr ?xk_NoExpr ?xs_NoExpr ?qk_NoExpr_NoExpr ?F0 ?F1 ?F2 ?F3 ?F4 ?F5 ?F6 ?F7 ?F8 ?F9 ?F10 ?F11 ?F12 ?F13 ?F14 ?F15 ?F16 ?F17 ?F18 ?F19 ?F20 ?F21 ?F22 ?F23 ?F24 ?F25 ?F26 ?F27 ?F28 ?F29 ?F30 ?F31 ?F32 ?F33 ?F34 ?a35 ?l35 ?c35 ?k35 ?a36 ?l36 ?c36 ?k36 ?n36 ?w36 ?y36 ?a37 ?l37 ?c37 ?k37 ?n37 ?w37 ?y37 ?z_any ?z_len ?z_range ?z_reversed ?z_all ?z_int ?z_tuple ?z_enumerate ?z_str ?z_min ?z_list ?z_isinstance ?y_ALL_LETTERS ?x_ALL_LETTERS ?y_FOLDS ?x_FOLDS ?y_NEEDS ?kd_NEEDS ?ks_NEEDS ?kh_NEEDS_0 ?kt_NEEDS_0 ?kh_NEEDS_1 ?kt_NEEDS_1 ?kh_NEEDS_2 ?kt_NEEDS_2 ?kh_NEEDS_3 ?kt_NEEDS_3 ?kh_NEEDS_4 ?kt_NEEDS_4 ?kh_NEEDS_5 ?kt_NEEDS_5 ?kh_NEEDS_6 ?kt_NEEDS_6 ?kh_NEEDS_7 ?kt_NEEDS_7 ?kh_NEEDS_8 ?kt_NEEDS_8 ?kh_NEEDS_9 ?kt_NEEDS_9 ?y_FROMS ?kd_FROMS ?ks_FROMS ?kh_FROMS_0 ?kh_FROMS_1 ?kh_FROMS_2 ?kh_FROMS_3 ?kh_FROMS_4 ?kh_FROMS_5 ?kh_FROMS_6 ?kh_FROMS_7 ?kh_FROMS_8 ?kh_FROMS_9 ?y_FIGURES ?y_MOST_FIGURES ?y_LETTERS ?y_COND_LETTERS ?y_MOST_SIGNS ?y_MOST_SHARES ?y_MOST_SPREAD ?y_MOST_SPAN
  (case ac_Cond=>k_is);(case ac_Expr=>k_is);(case ac_DamError=>k_is);(case ac_NoExpr=>k_is);(case ac_NoName=>k_is);(case ac_NoText=>k_is);(case pg_Cond=>k_is);(case hd_Cond=>k_is);(case po_Cond=>k_is);(case sa_Cond=>k_is);(case pg_Expr=>k_is);(case hd_Expr=>k_is);(case po_Expr=>k_is);(case sa_Expr=>k_is);(case na_Expr_parts=>k_is);(case na_Cond_parts=>k_is);(case xc_DamError=>kernel_rfl);(case xc_NoExpr=>kernel_rfl);(case xc_NoName=>kernel_rfl);(case xc_NoText=>kernel_rfl);(case xb_DamError=>refine E3.ztD ?_ ?_ ?_<;>k_is);(case ai_NoName=>k_is);(case li_NoName=>k_is);(case ki_NoName=>k_is);(case kk_NoName=>k_is);(case xi_NoName=>kernel_rfl);(case xk_NoName=>k_is);(case xa_NoName=>refine E3.zog ?_ ?_ (E3.ziG ?_ ?_ ?_) ?_ ?_<;>k_is);(case xs_NoName=>refine E3.zmg (E3.ziG ?_ ?_ ?_) ?_ ?_ ?_ ?_ ?_<;>k_is);(case ai_NoText=>k_is);(case li_NoText=>k_is);(case ki_NoText=>k_is);(case kk_NoText=>k_is);(case xi_NoText=>kernel_rfl);(case xk_NoText=>k_is);(case xa_NoText=>refine E3.zog ?_ ?_ (E3.ziG ?_ ?_ ?_) ?_ ?_<;>k_is);(case xs_NoText=>refine E3.zmg (E3.ziG ?_ ?_ ?_) ?_ ?_ ?_ ?_ ?_<;>k_is);(case xn_NoExpr=>kernel_rfl);(case xk_NoExpr=>k_is);(case xs_NoExpr=>refine E3.zmg (E3.ziG ?_ ?_ ?_) ?_ ?_ ?_ ?_ ?_<;>k_is);(case qk_NoExpr_NoExpr=>kernel_rfl);(case a35=>k_is);(case l35=>k_is);(case c35=>k_is);(case k35=>k_is);(case a36=>k_is);(case l36=>k_is);(case c36=>k_is);(case k36=>k_is);(case n36=>kernel_rfl);(case w36=>kernel_rfl);(case y36=>k_is);(case a37=>k_is);(case l37=>k_is);(case c37=>k_is);(case k37=>k_is);(case n37=>kernel_rfl);(case w37=>kernel_rfl);(case y37=>k_is);(case z_any=>k_is);(case z_len=>k_is);(case z_range=>k_is);(case z_reversed=>k_is);(case z_all=>k_is);(case z_int=>k_is);(case z_tuple=>k_is);(case z_enumerate=>k_is);(case z_str=>k_is);(case z_min=>k_is);(case z_list=>k_is);(case z_isinstance=>k_is);(case y_ALL_LETTERS=>k_is);(case x_ALL_LETTERS=>k_is);(case y_FOLDS=>k_is);(case x_FOLDS=>k_is);(case y_NEEDS=>k_is);(case kd_NEEDS=>k_is);(case ks_NEEDS=>first |decide +kernel |kernel_rfl);(case kh_NEEDS_0=>rfl);(case kt_NEEDS_0=>k_is);(case kh_NEEDS_1=>rfl);(case kt_NEEDS_1=>k_is);(case kh_NEEDS_2=>rfl);(case kt_NEEDS_2=>k_is);(case kh_NEEDS_3=>rfl);(case kt_NEEDS_3=>k_is);(case kh_NEEDS_4=>rfl);(case kt_NEEDS_4=>k_is);(case kh_NEEDS_5=>rfl);(case kt_NEEDS_5=>k_is);(case kh_NEEDS_6=>rfl);(case kt_NEEDS_6=>k_is);(case kh_NEEDS_7=>rfl);(case kt_NEEDS_7=>k_is);(case kh_NEEDS_8=>rfl);(case kt_NEEDS_8=>k_is);(case kh_NEEDS_9=>rfl);(case kt_NEEDS_9=>k_is);(case y_FROMS=>k_is);(case kd_FROMS=>k_is);(case ks_FROMS=>first |decide +kernel |kernel_rfl);(case kh_FROMS_0=>rfl);(case kh_FROMS_1=>rfl);(case kh_FROMS_2=>rfl);(case kh_FROMS_3=>rfl);(case kh_FROMS_4=>rfl);(case kh_FROMS_5=>rfl);(case kh_FROMS_6=>rfl);(case kh_FROMS_7=>rfl);(case kh_FROMS_8=>rfl);(case kh_FROMS_9=>rfl);(case y_FIGURES=>k_is);(case y_MOST_FIGURES=>k_is);(case y_LETTERS=>k_is);(case y_COND_LETTERS=>k_is);(case y_MOST_SIGNS=>k_is);(case y_MOST_SHARES=>k_is);(case y_MOST_SPREAD=>k_is);(case y_MOST_SPAN=>k_is);all_goals (refine' E3.FAt.mk ?a ?l ?c ?k;(case a=>k_is);(case l=>k_is);(case c=>k_is);(case k=>k_is))
