import PyProof.Rows.All
import Wide.All
import OpenK.AllK
import Wide.FinOn
import Lean
import PyProof.EqAt
import PyProof.EqKinds
import PyProof.TupleCall
import KE.KIsAll
import KE.KMinKey
import KE.KTupSum
import KE.KxSplit
import KE.KxAffix
import KE.KIntText
import PyProof.NeKinds
import PyProof.Rows.EqBoolInt
import KE.KSortTup
import PyProof.Conv_int_bool
import PySem.Challenge.RW_rowdam_k16_numbers_in_rows
noncomputable section
set_option Elab.async false
set_option linter.all false
set_option maxRecDepth 100000
abbrev Fgx := PySem.W.Frag
abbrev Mgx := PySem.Str -> Option PySem.Value
abbrev Pnx := List (PySem.Addr × PySem.Obj)
local macro_rules | `(tactic| x_go) => `(tactic| decide +kernel)
namespace HQ
open PySem PySem.W PySem.Calls PyProof.Rows
def frc {α : Type} (t : BT) : (BT -> α) -> α := @BT.rec (fun _ => (BT -> α) -> α) (fun k => k .nil) (fun v _ _ a b k => a fun l => b fun r => k (.node v l r)) t
theorem zlo {α : Type} : ∀ (t : BT) (k : BT -> α), frc t k = k t
 | .nil, _ => rfl
 | .node _ l r, _ => (zlo l _).trans (zlo r _)
def frn {α : Type} (n : Nat) (k : Nat -> α) : α := @Nat.rec (fun _ => α) (k 0) (fun n _ => k (Nat.succ n)) n
theorem znc {α : Type} (n : Nat) (k : Nat -> α) : frn n k = k n := by cases n <;> rfl
def frs {α : Type} (s : SharedT) (k : SharedT -> α) : α := @SharedT.rec (fun _ => α) (fun T n l g d i o => frc T fun T => frn n fun n => frn i fun i => k ⟨T, n, l, g, d, i, o⟩) s
theorem zrl {α : Type} (s : SharedT) (k : SharedT -> α) : frs s k = k s := (zlo _ _).trans ((znc _ _).trans (znc _ _))
abbrev qd : Code -> Sem Fin := Fast.tw11892475500146522536 Fast.tw14364793385576792824
def stq (p : Program) (w : World) : SharedT -> Thread -> Option (SharedT × Thread)
  | ⟨T, n, l, g, d, i, o⟩, ⟨c, cd, q, fs⟩ => match c with
    | .load .. | .update .. | .alloc .. | .loadIfAlive .. => Fast.tw10156331382660048174 qd p w ⟨T, n, l, g, d, i, o⟩ ⟨c, cd, q, fs⟩
    | c => match Fast.tw8437177126325714943 qd p w ⟨{}, g, d, i, o⟩ ⟨c, cd, q, fs⟩ with
      | .go ⟨_, g, d, i, o⟩ t => some (⟨T, n, l, g, d, i, o⟩, t)
      | .halt _ _ => none
theorem zqZ {p : Program} {w : World} (s : SharedT) (t : Thread) : stq p w s t = stepT (denote treeTable) p w s t := by
 obtain ⟨T, n, l, g, d, i, o⟩ := s;obtain ⟨c, cd, q, fs⟩ := t;rw [show denote treeTable = qd by unfold qd; rw [<- Fast.te11892475500146522536, <- Fast.te14364793385576792824]];cases c <;> (unfold stq; dsimp only; first | rw [<- Fast.te10156331382660048174] | (unfold stepT; dsimp only; rw [<- Fast.te8437177126325714943]; cases step qd p w _ _ <;> rfl))
abbrev OS := Option SharedT
def bd (p : Program) (w : World) (n : Nat) (ih : SharedT -> Thread -> OS) (s : SharedT) (t : Thread) : OS :=
 @Bool.rec (fun _ => OS) (@Bool.rec (fun _ => OS) none (@Option.rec _ (fun _ => OS) none (fun r => @Prod.rec _ _ (fun _ => OS) (fun s t => @Bool.rec (fun _ => OS) (ih s t) (frs s fun s => ih s t) (Nat.beq (n % 64) 0)) r) (stq p w s t)) (Fast.tw6613529449190102663 11 (some (.ref 6)) t)) (some s) (through t)
def go (p : Program) (w : World) (n : Nat) : SharedT -> Thread -> OS := @Nat.rec (fun _ => SharedT -> Thread -> OS) (fun _ _ => none) (bd p w) n
theorem ziM {p : Program} {w : World} : ∀ {n : Nat} {s s' : SharedT} {t : Thread}, go p w n s t = some s' -> topRun treeTable p w 11 (some (.ref 6)) n s.abs t = some s'.abs
  | 0, _, _, _, h => by cases h
  | n + 1, s, s', t, h => by
    rw [show go p w (n + 1) s t = bd p w n (go p w n) s t from rfl] at h; unfold bd at h;rw [zqZ, <- Fast.te6613529449190102663] at h;unfold topRun
    cases ht : through t with
    | true => rw [ht] at h; cases h; rfl
    | false =>
      rw [ht] at h
      cases hk : stepOk 11 (some (.ref 6)) t with
      | false => rw [hk] at h; cases h
      | true =>
        rw [hk] at h
        cases hs : stepT (denote treeTable) p w s t with
        | none => rw [hs] at h; cases h
        | some r =>
          obtain ⟨s₂, t₂⟩ := r; rw [hs] at h; dsimp only at h ⊢; rw [stepT_spec hs];rw [zrl] at h;exact ziM (by revert h; cases Nat.beq (n % 64) 0 <;> exact id)
def mkT : List Obj -> Nat -> BT -> BT
 | [], _, t => t
 | o :: l, i, t => mkT l (i + 1) (t.ins i o)
def bS (w : World) (o : OsState) : SharedT := ⟨mkT (boot_heap w.params).objs.toList 0 .nil, 11, {}, ⟨[]⟩, boot_drawn, boot_toks, o⟩
theorem zpK (w : World) (o : OsState) : (bS w o).abs = ⟨boot_heap w.params, ⟨[]⟩, boot_drawn, boot_toks, o⟩ := by kernel_rfl
theorem zpy (P : Params) : ((boot_heap P).isNs mainGlobals && (Array.mk [] : Array GenState).size == 0, (boot_heap P).objs.size, (boot_heap P).nsMap mainGlobals "__annotations__") = (true, 11, some (.ref 6)) := by kernel_rfl
def lst {α : Type} (T : BT) (n : Nat) : List Obj -> (List Obj -> α) -> α :=
 @Nat.rec (fun _ => List Obj -> (List Obj -> α) -> α) (fun a k => k a) (fun i ih a k => @Option.rec Obj (fun _ => α) (ih (default :: a) k) (fun o => @Obj.rec (fun _ => α) (fun c d t l => ih (⟨c, d, t, l⟩ :: a) k) o) (T.get i)) n
theorem zmI {α : Type} (T : BT) : ∀ (n : Nat) (a : List Obj) (k : List Obj -> α), lst T n a k = k (T.list n ++ a)
  | 0, _, _ => rfl
  | n + 1, a, k => by
    rw [show T.list (n + 1) = T.list n ++ [(T.get n).getD default] by unfold BT.list; rw [List.range_succ, List.map_append]; rfl, List.append_assoc];unfold lst; dsimp only;cases T.get n <;> exact zmI T n _ k
def abq {α : Type} (s : SharedT) (k : Shared -> α) : α := @SharedT.rec (fun _ => α) (fun T n l g d i o => lst T n [] fun a => k ⟨⟨⟨a⟩, l⟩, g, d, i, o⟩) s
theorem zmX {α : Type} (s : SharedT) (k : Shared -> α) : abq s k = k s.abs := (zmI _ _ _ _).trans (by rw [List.append_nil]; rfl)
section
variable {p q : Program} {lo : List Str} {Xt : Shared -> Bool} {α : Type} {Yf : Shared -> α} {Ya : World -> α} {N : Nat} {g0 : Bool} {B C : Prop}
abbrev Pre (_ : LeftO p q lo Xt Yf Ya N g0 /\ B -> C) : Prop := (opening p = plainProg p.main.scope.names /\ ∀ s, fenceModules? p s = some s) /\ Nat.ble 600 N = true
abbrev See {β : Type} (p : Program) (N : Nat) (v : World -> World) (f : World -> Shared -> β) (y : World -> β) : Prop := ∀ w o, (go p (v w) N (bS (v w) o) (topStub p)).map (fun s => abq s (f (v w))) = some (y (v w))
abbrev RunA (v : World -> World) (_ : LeftO p q lo Xt Yf Ya N g0 /\ B -> C) : Prop :=
 See p N v (fun w s => (staticsOk (importedModules p.main.body) (boot_heap w.params) s.heap && namesBound p s.heap && gensDone s && laidKept (boot_heap w.params) s.heap, Yf s)) fun w => (true, Ya w)
abbrev RunB (v : World -> World) (_ : LeftO p q lo Xt Yf Ya N g0 /\ B -> C) : Prop := See p N v (fun _ s => Fast.tw4187177175401517315 q lo (importedModules p.main.body) Xt g0 s) fun _ => openGood q lo
theorem left {v : World -> World} {H : LeftO p q lo Xt Yf Ya N g0 /\ B -> C} (e : Pre H) (a : RunA v H) (b : RunB v H) (w : World) :
  (openEnds treeTable p (v w) N).map (fun s => (openSeen q lo (importedModules p.main.body) Xt g0 s, Yf s)) = some (openGood q lo, Ya (v w)) := by
 obtain ⟨⟨h, gs, d, k, o⟩, e1, e2⟩ := Option.map_eq_some_iff.mp (boot_open e.1.1 e.2 e.1.2 (v w));obtain ⟨rfl, rfl, rfl, rfl⟩ : h = boot_heap (v w).params /\ gs = ⟨[]⟩ /\ d = boot_drawn /\ k = boot_toks := by simpa using e2
 obtain ⟨s, hs, hv⟩ := Option.map_eq_some_iff.mp (a w o);have hb := b w o;rw [hs, Option.map_some, zmX, <- Fast.te4187177175401517315] at hb;rw [zmX] at hv;obtain ⟨l1, l3⟩ := Prod.mk.inj hv;obtain ⟨z1, z2, z3⟩ : _ /\ _ /\ _ := by simpa only [Prod.mk.injEq] using zpy (v w).params
 have hr := ziM hs;rw [zpK] at hr;have t : topFrom treeTable p (v w) N ⟨boot_heap (v w).params, ⟨[]⟩, boot_drawn, boot_toks, o⟩ = some s.abs := by
  unfold topFrom; dsimp only;rw [z1, z2, z3, hr]; dsimp only [Option.bind_some];rw [l1]
 unfold openEnds;rw [e1, Option.bind_some, t];exact congrArg some (Prod.ext (Option.some.inj hb) l3)
theorem two (row : String) {H : LeftO p q lo Xt Yf Ya N g0 /\ B -> C} (e : Pre H) (a : RunA (·.withFollow row false) H) (b : RunB (·.withFollow row false) H) (c : RunA (·.withFollow row true) H) (d : RunB (·.withFollow row true) H) (hB : B) : C :=
 H ⟨fun w => by
  have x := left e a b w;have y := left e c d w;have z := World.withFollow_self w row;cases h : w.params.followText row <;> rw [h] at z <;> simp only [z] at x y <;> assumption, hB⟩
end
end HQ
section
local macro_rules
  | `(tactic| refine $f:term $as:term*) => do
    let mut bs := #[]
    let mut hit := false
    for a in as do
      if a.raw.isOfKind ``Lean.Parser.Term.syntheticHole && a.raw[1].getId == `hl then
        hit := true
        bs := bs.push (<- `((And.left ?hx)))
      else if a.raw.isOfKind ``Lean.Parser.Term.syntheticHole && a.raw[1].getId == `hc then
        bs := bs.push (<- `((And.right ?hx)))
      else bs := bs.push a
    if hit then `(tactic| refine $f $bs*) else Lean.Macro.throwUnsupported
set_option maxHeartbeats 0 in
open_top My.hdAll for PySem.Challenge.rw_rowdam_k16_numbers_in_rows
theorem My.he : HQ.Pre My.hdAll := ⟨⟨by kernel_rfl, fun _ => by kernel_rfl⟩, by kernel_rfl⟩
theorem My.hBf : HQ.RunB (·.withFollow "special-get-raises" false) My.hdAll := fun _ _ => by kernel_rfl
theorem My.hBt : HQ.RunB (·.withFollow "special-get-raises" true) My.hdAll := fun _ _ => by kernel_rfl
theorem My.hAf : HQ.RunA (·.withFollow "special-get-raises" false) My.hdAll := fun _ _ => by kernel_rfl
theorem My.hAt : HQ.RunA (·.withFollow "special-get-raises" true) My.hdAll := fun _ _ => by kernel_rfl
end
namespace L2
open PySem PySem.Spec PyProof.Rows
abbrev Key := Sum Int Str
def zjC : Key -> Value -> Bool
 | .inl k, v => Value.isInt k v
 | .inr x, v => Value.isStrOf x v
def keyH (w : World) : Key -> Int
 | .inl k => hashInt k
 | .inr x => hashStr w x
theorem zbh : ∀ {k : Key} {v : Value}, zjC k v = true -> (∃ i t, k = Sum.inl i /\ v = Value.int i t) \/ (∃ x t, k = Sum.inr x /\ v = Value.str x t)
  | .inl i, v, h => by
    obtain ⟨t, e⟩ := Value.isInt_shape (k := i) (v := v) h;exact .inl ⟨i, t, rfl, e⟩
  | .inr x, v, h => by
    obtain ⟨t, e⟩ := Value.isStrOf_shape (x := x) (v := v) h;exact .inr ⟨x, t, rfl, e⟩
theorem zly (i : Int) (t : Tok) : zjC (.inl i) (.int i t) = true := by simp [zjC, Value.isInt]
theorem zkj (x : Str) (t : Tok) : zjC (.inr x) (.str x t) = true := by simp [zjC, Value.isStrOf]
theorem zpP (a b : Int) : decide ((Sum.inl a : Key) = Sum.inl b) = (a == b) := by
 by_cases e : a = b
 ·subst e; simp
 ·have h : ¬ (Sum.inl a : Key) = Sum.inl b := fun q => e (Sum.inl.inj q);rw [decide_eq_false h];exact (beq_eq_false_iff_ne.mpr e).symm
theorem zrE (a b : Str) : decide ((Sum.inr a : Key) = Sum.inr b) = decide (a = b) := by
 by_cases e : a = b
 ·subst e; simp
 ·have h : ¬ (Sum.inr a : Key) = Sum.inr b := fun q => e (Sum.inr.inj q);rw [decide_eq_false h, decide_eq_false e]
theorem zrP (a : Int) (b : Str) : decide ((Sum.inl a : Key) = Sum.inr b) = false := decide_eq_false (fun q => nomatch q)
theorem zp2 (a : Str) (b : Int) : decide ((Sum.inr a : Key) = Sum.inl b) = false := decide_eq_false (fun q => nomatch q)
def zaY (prog : Program) (w : World) : PySem.KeyKind prog w Key where
 is := zjC
 hash := keyH w
 inj := fun v a b ha hb => by
  rcases zbh ha with ⟨i, t, rfl, rfl⟩ | ⟨x, t, rfl, rfl⟩
  ·rcases zbh hb with ⟨j, u, rfl, e⟩ | ⟨y, u, rfl, e⟩
   ·injection e with e1 _; rw [e1]
   ·exact nomatch e
  ·rcases zbh hb with ⟨j, u, rfl, e⟩ | ⟨y, u, rfl, e⟩
   ·exact nomatch e
   ·injection e with e1 _; rw [e1]
 byValue := fun k v h => by
  rcases zbh h with ⟨i, t, rfl, rfl⟩ | ⟨x, t, rfl, rfl⟩ <;> rfl
 pyHash := fun hv h => by
  rcases zbh hv with ⟨i, t, rfl, rfl⟩ | ⟨x, t, rfl, rfl⟩
  ·exact wpAny_pyHash_int h
  ·exact wpAny_pyHash_str h
 eqBool := fun hu hv h => by
  rcases zbh hu with ⟨i, t, rfl, rfl⟩ | ⟨x, t, rfl, rfl⟩
  ·rcases zbh hv with ⟨j, u, rfl, rfl⟩ | ⟨y, u, rfl, rfl⟩
   ·rw [zpP] at h; exact wpAny_eqBool_int h
   ·rw [zrP] at h; exact SeqAt.EqAt.int_str i t y u _ _ _ _ h
  ·rcases zbh hv with ⟨j, u, rfl, rfl⟩ | ⟨y, u, rfl, rfl⟩
   ·rw [zp2] at h; exact SeqAt.EqAt.str_int x t j u _ _ _ _ h
   ·rw [zrE] at h; exact wpAny_eqBool_str h
 «strs» := fun k x t v h => by
  rcases zbh h with ⟨i, u, rfl, e⟩ | ⟨y, u, rfl, e⟩
  ·exact nomatch e
  ·injection e with e1 _
   subst e1;cases v <;> rfl
theorem ziD (prog : Program) (w : World) (i : Int) (t : Tok) : (zaY prog w).is (.inl i) (.int i t) = true := zly i t
theorem zeA (prog : Program) (w : World) (x : Str) (t : Tok) : (zaY prog w).is (.inr x) (.str x t) = true := zkj x t
inductive V where
 | non | bl (b : Bool) | int (i : Int) | str (x : Str) | byt (b : Array UInt8) | flt (b : UInt64) | ref (a : Addr) | ty (n : String)
 deriving DecidableEq
def RelV : V -> Value -> Prop
 | .non, u => u = Value.none
 | .bl b, u => u = Value.bool b
 | .int i, u => ∃ t, u = Value.int i t
 | .str x, u => ∃ t, u = Value.str x t
 | .byt b, u => ∃ t, u = Value.bytes b t
 | .flt b, u => ∃ t, u = Value.float b t
 | .ref a, u => u = Value.ref a
 | .ty n, u => u = Value.type n
abbrev Vals : List V -> List Value -> Prop := Paired RelV
theorem Vals.length {xs : List V} {us : List Value} (r : Vals xs us) : xs.length = us.length := Paired.length r
theorem Vals.get : ∀ {xs : List V} {us : List Value} {i : Nat} {x : V}, Vals xs us -> xs[i]? = some x -> ∃ u, us[i]? = some u /\ RelV x u
  | _, _, _, _, .nil, e => by simp at e
  | _, _, 0, _, .cons r _, e => by simp at e; subst e; exact ⟨_, rfl, r⟩
  | _, _, i + 1, x, .cons _ t, e => by
    obtain ⟨u, h1, h2⟩ := Vals.get (i := i) (x := x) t (by simpa using e);exact ⟨u, by simpa using h1, h2⟩
theorem Vals.append : ∀ {xs ys : List V} {us ws : List Value}, Vals xs us -> Vals ys ws -> Vals (xs ++ ys) (us ++ ws)
 | _, _, _, _, .nil, s => s
 | _, _, _, _, .cons r t, s => .cons r (Vals.append t s)
theorem Vals.take : ∀ {xs : List V} {us : List Value} (n : Nat), Vals xs us -> Vals (xs.take n) (us.take n)
 | _, _, 0, _ => .nil
 | _, _, _ + 1, .nil => .nil
 | _, _, n + 1, .cons r t => .cons r (Vals.take n t)
theorem Vals.drop : ∀ {xs : List V} {us : List Value} (n : Nat), Vals xs us -> Vals (xs.drop n) (us.drop n)
 | _, _, 0, r => r
 | _, _, _ + 1, .nil => .nil
 | _, _, n + 1, .cons _ t => Vals.drop n t
def RelO : Option V -> Option Value -> Prop
 | some v, some u => RelV v u
 | none, none => True
 | _, _ => False
def KV {κ : Type} : List (κ × V) -> List (κ × Value) -> Prop := Paired fun (p : κ × V) (q : κ × Value) => p.1 = q.1 /\ RelV p.2 q.2
def kV : Key -> V
 | .inl i => .int i
 | .inr x => .str x
inductive HO where
  | lst (xs : List V)
  | tup (xs : List V)
  | dK (kvs : List (Key × V)) | dT (kvs : List (List Key × V))
  | set (S : Int -> Bool) (n : Nat)
  | ins (C dx : Addr) (fs : List (Str × V))
  | own (x : Addr)
  | xd (fs : List (Str × V))
  | met (f x : Addr)
  | rng (lo hi : Int)
  | frz (o : Obj) (u : HO)
  | tbl (ps : Array Value)
  | ext (φ : Heap -> Prop)
abbrev Hp := Addr -> Option HO
def upd (H : Hp) (a : Addr) (o : HO) : Hp := fun b => if b = a then some o else H b
theorem zao {H : Hp} {a : Addr} {o : HO} : upd H a o a = some o := by unfold upd; rw [if_pos rfl]
theorem zal {H : Hp} {a b : Addr} {o : HO} (h : b ≠ a) : upd H a o b = H b := by unfold upd; rw [if_neg h]
theorem zn4 {H : Hp} {a : Addr} {o u : HO} : upd (upd H a o) a u = upd H a u := by
 funext b; unfold upd; split <;> rfl
theorem zsh {H : Hp} {a b : Addr} {o u : HO} (h : H a = some o) (h' : H b = some u) (d : o ≠ u) : a ≠ b := by
 intro e; subst e; rw [h] at h'; exact d (Option.some.inj h')
theorem zan {H : Hp} {a b : Addr} {o : HO} (h : H a = some o) (h' : H b = none) : a ≠ b := by
 intro e; subst e; rw [h] at h'; cases h'
section
variable (P : Program) (w : World)
def zbW (H : Hp) (h : Heap) (a : Addr) : HO -> Prop
 | .lst xs => xs.length <= sizeLine /\ ∃ (its : List Value) (n : Nat), Vals xs its /\ h.get? a = some { cls := .type "list", data := .seq its.toArray n }
 | .tup xs => xs.length <= sizeLine /\ ∃ its : List Value, Vals xs its /\ IsTup h a its.toArray
 | .dK kvs => kvs.length <= sizeLine /\ (a == sysModules) = false /\ ∃ vs, KV kvs vs /\ h.DictOf (zaY P w) a vs
 | .dT kvs => kvs.length <= sizeLine /\ (a == sysModules) = false /\ ∃ xs : List (List Key × Addr × Value),
   Paired (fun (p : List Key × V) (q : List Key × Addr × Value) => p.1 = q.1 /\ H q.2.1 = some (.tup (p.1.map kV)) /\ RelV p.2 q.2.2) kvs xs /\
   ∃ o es ep, h.get? a = some o /\ o.ExactDict /\ o.data = .dict es ep /\ es.toList = xs.map (entryOfKey (tupleKind (zaY P w))) /\ (xs.map (·.1)).Nodup
 | .set S n => h.SetOf (intKind P w) a S n
 | .ins C dx fs => H dx = some (.own a) /\ fs.length <= 1000 /\ dx ≠ a /\ h.get? a = some (PySem.W.instObj C dx) /\
   ∃ mA, h.Ns1 dx mA /\ (∀ f, RelO (fs.lookup f) (mA f)) /\ PySem.Within mA (fs.map (·.1))
 | .own _ => ∃ o, h.get? a = some o
 | .xd fs => ∃ mA, h.Ns1 a mA /\ ∀ f, RelO (fs.lookup f) (mA f)
 | .rng lo hi => ∃ t u v, h.get? a = some { cls := .type "range", data := .fields #[.int lo t, .int hi u, .int 1 v] }
 | .frz o u => h.get? a = some o /\ zbW H h a u
 | .tbl ps => h.get? a = some { cls := .none, data := .fields ps }
 | .met f x => h.get? a = some (PySem.W.methodObj (.ref f) (.ref x))
 | .ext φ => φ h /\ (∃ o, h.get? a = some o) /\ ∀ h1 h2 : Heap, φ h1 -> (∀ o, h1.get? a = some o -> h2.get? a = some o) -> φ h2
def HOk (H : Hp) (h : Heap) : Prop := ∀ a o, H a = some o -> zbW P w H h a o
end
section
variable {P : Program} {w : World} {H H' : Hp} {h h' : Heap} {a : Addr} {o : HO}
theorem zbW.lt (x : zbW P w H h a o) : a < h.objs.size := by
 cases o with
 | lst xs => obtain ⟨_, _, _, _, e⟩ := x; exact Heap.lt_size e
 | tup xs => obtain ⟨_, _, _, p⟩ := x; exact p.lt
 | dK kvs => obtain ⟨_, _, _, _, o, _, _, e, _⟩ := x; exact Heap.lt_size e
 | dT kvs => obtain ⟨_, _, _, _, o, _, _, e, _⟩ := x; exact Heap.lt_size e
 | set S n => obtain ⟨o, _, _, _, e, _⟩ := x; exact Heap.lt_size e
 | ins C dx fs => obtain ⟨_, _, _, e, _⟩ := x; exact Heap.lt_size e
 | own y => obtain ⟨_, e⟩ := x; exact Heap.lt_size e
 | xd fs => obtain ⟨_, ⟨_, _, _, e, _⟩, _⟩ := x; exact Heap.lt_size e
 | rng lo hi => obtain ⟨_, _, _, e⟩ := x; exact Heap.lt_size e
 | frz ob u => obtain ⟨e, _⟩ := x; exact Heap.lt_size e
 | tbl ps => exact Heap.lt_size (show h.get? a = some _ from x)
 | met f y => exact Heap.lt_size (show h.get? a = some _ from x)
 | ext φ => obtain ⟨_, ⟨_, e⟩, _⟩ := x; exact Heap.lt_size e
theorem Paired.mapP {α β : Type} {F G : α -> β -> Prop} : ∀ {l₁ : List α} {l₂ : List β}, Paired F l₁ l₂ -> (∀ a b, F a b -> G a b) -> Paired G l₁ l₂
 | _, _, .nil, _ => .nil
 | _, _, .cons r t, f => .cons (f _ _ r) (Paired.mapP t f)
theorem zbW.stay (x : zbW P w H h a o) (k : ∀ b u, (b = a \/ H b = some (.own a)) -> h.get? b = some u -> h'.get? b = some u)
    (ho : ∀ b, H b = some (.own a) -> H' b = some (.own a)) (ht : ∀ b xs, H b = some (.tup xs) -> H' b = some (.tup xs)) : zbW P w H' h' a o := by
  induction o with
  | lst xs => obtain ⟨z, its, n, r, e⟩ := x; exact ⟨z, its, n, r, k _ _ (.inl rfl) e⟩
  | tup xs => obtain ⟨z, its, r, ob, e, c⟩ := x; exact ⟨z, its, r, ob, k _ _ (.inl rfl) e, c⟩
  | dK kvs => obtain ⟨z, y, vs, r, ob, es, ep, e, c⟩ := x; exact ⟨z, y, vs, r, ob, es, ep, k _ _ (.inl rfl) e, c⟩
  | dT kvs =>
    obtain ⟨z, y, xs, r, ob, es, ep, e, c⟩ := x;exact ⟨z, y, xs, Paired.mapP r fun p q z => ⟨z.1, ht _ _ z.2.1, z.2.2⟩, ob, es, ep, k _ _ (.inl rfl) e, c⟩
  | set S n => obtain ⟨ob, es, ep, t, e, c⟩ := x; exact ⟨ob, es, ep, t, k _ _ (.inl rfl) e, c⟩
  | ins C dx fs =>
    obtain ⟨d, z, ne, e, mA, ⟨od, es, ep, e2, c⟩, r⟩ := x;exact ⟨ho _ d, z, ne, k _ _ (.inl rfl) e, mA, ⟨od, es, ep, k _ _ (.inr d) e2, c⟩, r⟩
  | own y => obtain ⟨ob, e⟩ := x; exact ⟨ob, k _ _ (.inl rfl) e⟩
  | xd fs => obtain ⟨mA, ⟨od, es, ep, e, c⟩, r⟩ := x; exact ⟨mA, ⟨od, es, ep, k _ _ (.inl rfl) e, c⟩, r⟩
  | rng lo hi => obtain ⟨t, u, v, e⟩ := x; exact ⟨t, u, v, k _ _ (.inl rfl) e⟩
  | frz ob u ih => obtain ⟨e, q⟩ := x; exact ⟨k _ _ (.inl rfl) e, ih q⟩
  | tbl ps =>
    have e : h.get? a = some { cls := .none, data := .fields ps } := x;show h'.get? a = some { cls := .none, data := .fields ps };exact k a _ (.inl rfl) e
  | met f y =>
    have e : h.get? a = some (PySem.W.methodObj (.ref f) (.ref y)) := x;show h'.get? a = some (PySem.W.methodObj (.ref f) (.ref y));exact k a _ (.inl rfl) e
  | ext φ => obtain ⟨p, ⟨o, e⟩, st⟩ := x; exact ⟨st _ _ p fun o q => k _ _ (.inl rfl) q, ⟨o, k _ _ (.inl rfl) e⟩, st⟩
theorem HOk.lt (x : HOk P w H h) (e : H a = some o) : a < h.objs.size := (x a o e).lt
theorem HOk.fresh (x : HOk P w H h) (e : h.objs.size <= a) : H a = none := by
 cases q : H a with
 | none => rfl
 | some u => exact absurd (Nat.lt_of_lt_of_le (x.lt q) e) (Nat.lt_irrefl _)
theorem HOk.kept (x : HOk P w H h) (k : ∀ b u, h.get? b = some u -> h'.get? b = some u) : HOk P w H h' := fun a o e =>
 (x a o e).stay (fun b u _ q => k b u q) (fun _ q => q) fun _ _ q => q
theorem HOk.laid (x : HOk P w H h) (k : ∀ b u, h.get? b = some u -> h'.get? b = some u) (hp : h.objs.size <= a) (new : zbW P w (upd H a o) h' a o) : HOk P w (upd H a o) h' := fun b u e => by
 have hn := x.fresh hp
 by_cases hb : b = a
 ·subst hb; rw [zao] at e; cases e; exact new
 ·rw [zal hb] at e;exact (x b u e).stay (fun c v _ q => k c v q) (fun c q => by rw [zal (zan q hn)]; exact q) fun c xs q => by rw [zal (zan q hn)]; exact q
end
def Rd (H : Hp) (a : Addr) (u : HO) : Prop := H a = some u \/ ∃ o, H a = some (.frz o u)
theorem Rd.ok {P : Program} {w : World} {H : Hp} {h : Heap} {a : Addr} {u : HO} (r : Rd H a u) (x : HOk P w H h) : zbW P w H h a u := by
 rcases r with r | ⟨o, r⟩
 ·exact x a u r
 ·obtain ⟨_, q⟩ := x a _ r;exact q
def Mut : Option HO -> Prop
 | some (.lst _) => True
 | some (.dK _) => True
 | some (.dT _) => True
 | some (.set _ _) => True
 | some (.ins _ _ _) => True
 | some (.ext _) => True
 | _ => False
section
variable {P : Program} {w : World} {H : Hp} {h h' : Heap} {x e : Addr} {o' : HO}
theorem HOk.write (ok : HOk P w H h) (mu : Mut (H x)) (he : e = x \/ H e = some (.own x)) (k : ∀ b u, b ≠ e -> h.get? b = some u -> h'.get? b = some u) (heo : ∃ u, h'.get? e = some u)
  (new : zbW P w (upd H x o') h' x o') : HOk P w (upd H x o') h' := fun b u q => by
 have nown : ∀ c y, H c = some (.own y) -> c ≠ x := fun c y r z => by subst z; rw [r] at mu; exact mu
 have ntup : ∀ c xs, H c = some (.tup xs) -> c ≠ x := fun c xs r z => by subst z; rw [r] at mu; exact mu
 by_cases hb : b = x
 ·subst hb; rw [zao] at q; cases q; exact new
 ·rw [zal hb] at q
  by_cases hbe : b = e
  ·have q' : H b = some (.own x) := by
    rcases he with z | z
    ·exact absurd (hbe.trans z) hb
    ·rw [hbe]; exact z
   rw [q] at q'; cases q';obtain ⟨v, hv⟩ := heo;exact ⟨v, by rw [hbe]; exact hv⟩
  ·refine (ok b u q).stay (fun c v hc r => k c v ?_ r) (fun c r => by rw [zal (nown c b r)]; exact r) fun c xs r => by rw [zal (ntup c xs r)]; exact r
   rcases hc with rfl | hc
   ·exact hbe
   ·rintro rfl;rcases he with z | z
    ·exact nown c b hc z
    ·rw [hc] at z; cases z; exact hb rfl
end
structure Un (fs ex : List Addr) (H H' : Hp) (h h' : Heap) : Prop where
 keep : ∀ b o, h.get? b = some o -> H b = none -> b ∉ fs -> b ∉ ex -> h'.get? b = some o
 slot : ∀ b o, h.get? b = some o -> H b = none -> b ∈ fs -> b ∉ ex -> ∃ sl, h'.get? b = some { o with slots := sl }
 free : ∀ b o, h.get? b = some o -> H b = none -> b ∉ ex -> H' b = none
 there : ∀ b o, h.get? b = some o -> b ∉ ex -> ∃ o', h'.get? b = some o'
 tups : ∀ b xs, H b = some (.tup xs) -> H' b = some (.tup xs)
 frzs : ∀ b o u, H b = some (.frz o u) -> H' b = some (.frz o u)
 tbls : ∀ b ps, H b = some (.tbl ps) -> ∃ more, H' b = some (.tbl (ps ++ more))
section
variable {fs fs' ex ex' : List Addr} {H H1 H2 : Hp} {h h1 h2 h' : Heap} {a x e : Addr} {o : HO}
theorem Un.any (u : Un fs ex H H1 h h1) {b : Addr} {ob : Obj} (q : h.get? b = some ob) (n : H b = none) (hx : b ∉ ex) : ∃ sl, h1.get? b = some { ob with slots := sl } := by
 by_cases hb : b ∈ fs
 ·exact u.slot b ob q n hb hx
 ·exact ⟨ob.slots, u.keep b ob q n hb hx⟩
theorem Un.trans (a : Un fs ex H H1 h h1) (b : Un fs ex H1 H2 h1 h2) : Un fs ex H H2 h h2 where
 keep := fun c ob q n hc hx => b.keep c ob (a.keep c ob q n hc hx) (a.free c ob q n hx) hc hx
 slot := fun c ob q n hc hx => by
  obtain ⟨sl, e1⟩ := a.slot c ob q n hc hx;obtain ⟨sl', e2⟩ := b.slot c _ e1 (a.free c ob q n hx) hc hx;exact ⟨sl', e2⟩
 free := fun c ob q n hx => by
  obtain ⟨o', e1⟩ := a.there c ob q hx;exact b.free c o' e1 (a.free c ob q n hx) hx
 there := fun c ob q hx => by
  obtain ⟨o', e1⟩ := a.there c ob q hx;exact b.there c o' e1 hx
 tups := fun c xs q => b.tups c xs (a.tups c xs q)
 frzs := fun c ob xs q => b.frzs c ob xs (a.frzs c ob xs q)
 tbls := fun c ps q => by
  obtain ⟨m1, e1⟩ := a.tbls c ps q;obtain ⟨m2, e2⟩ := b.tbls c _ e1;exact ⟨m1 ++ m2, by rw [e2, Array.append_assoc]⟩
theorem Un.kept (k : ∀ b u, h.get? b = some u -> h'.get? b = some u) : Un fs ex H H h h' :=
 ⟨fun b ob q _ _ _ => k b ob q, fun b ob q _ _ _ => ⟨ob.slots, k b ob q⟩, fun _ _ _ n _ => n, fun b ob q _ => ⟨ob, k b ob q⟩, fun _ _ q => q, fun _ _ _ q => q, fun _ ps q => ⟨#[], by rw [q]; simp⟩⟩
theorem Un.refl : Un fs ex H H h h := Un.kept fun _ _ q => q
theorem Un.laid (k : ∀ b u, h.get? b = some u -> h'.get? b = some u) (hp : h.objs.size <= a) (hn : H a = none) : Un fs ex H (upd H a o) h h' where
 keep := fun b u q _ _ _ => k b u q
 slot := fun b u q _ _ _ => ⟨u.slots, k b u q⟩
 free := fun b u q n _ => by rw [zal (Nat.ne_of_lt (Nat.lt_of_lt_of_le (Heap.lt_size q) hp))]; exact n
 there := fun b u q _ => ⟨u, k b u q⟩
 tups := fun b xs q => by rw [zal (zan q hn)]; exact q
 frzs := fun b u xs q => by rw [zal (zan q hn)]; exact q
 tbls := fun b ps q => ⟨#[], by rw [zal (zan q hn), q]; simp⟩
theorem Un.write (mu : Mut (H x)) (he : e = x \/ H e = some (.own x)) (k : ∀ b u, b ≠ e -> h.get? b = some u -> h'.get? b = some u) (heo : ∃ u, h'.get? e = some u) : Un fs ex H (upd H x o) h h' := by
 have hx : ∀ b, H b = none -> b ≠ x := fun b n z => by subst z; rw [n] at mu; exact mu
 have hb : ∀ b, H b = none -> b ≠ e := fun b n z => by
  subst z;rcases he with r | r
  ·exact hx b n r
  ·rw [n] at r; cases r
 have hm : ∀ b u, H b = some u -> ¬ Mut (some u) -> b ≠ x := fun b u q nm z => by subst z; rw [q] at mu; exact nm mu
 refine ⟨fun b u q n _ _ => k b u (hb b n) q, fun b u q n _ _ => ⟨u.slots, k b u (hb b n) q⟩, fun b u q n _ => by rw [zal (hx b n)]; exact n, fun b u q _ => ?_,
  fun b xs q => by rw [zal (hm b _ q fun z => z)]; exact q, fun b u xs q => by rw [zal (hm b _ q fun z => z)]; exact q, fun b ps q => ⟨#[], by rw [zal (hm b _ q fun z => z), q]; simp⟩⟩
 by_cases hbe : b = e
 ·subst hbe; exact heo
 ·exact ⟨u, k b u hbe q⟩
theorem Un.mono (u : Un fs ex H H1 h h1) (hs : ∀ b ∈ fs, b ∈ fs') (hx : ∀ b ∈ ex, b ∈ ex') : Un fs' ex' H H1 h h1 :=
 ⟨fun b ob q n hb he => u.keep b ob q n (fun z => hb (hs b z)) fun z => he (hx b z), fun _ _ q n _ he => u.any q n fun z => he (hx _ z), fun b ob q n he => u.free b ob q n fun z => he (hx b z), fun b ob q he => u.there b ob q fun z => he (hx b z), u.tups, u.frzs, u.tbls⟩
end
def trk (h : Heap) (H : Hp) : List Addr := (List.range h.objs.size).filter fun a => (H a).isSome
def hidT (h : Heap) (H : Hp) : Heap := PySem.W.hideAll h (trk h H)
theorem zlm (h : Heap) (H : Hp) : (hidT h H).objs.size = h.objs.size := PySem.W.hideAll_size _ _
theorem zlR {h : Heap} {H : Hp} {b : Addr} {o : Obj} (e : h.get? b = some o) (n : H b = none) : (hidT h H).get? b = some o :=
 PySem.W.hideAll_get _ e fun hm => by
  have q : (H b).isSome = true := (List.mem_filter.mp hm).2;rw [n] at q; simp at q
theorem znQ {h : Heap} {H : Hp} {b : Addr} {o : Obj} (e : (hidT h H).get? b = some o) : h.get? b = some o /\ H b = none := by
  have e' : h.get? b = some o := PySem.W.of_hideAll (trk h H) e;refine ⟨e', ?_⟩
  cases q : H b with
  | none => rfl
  | some x =>
    have hm : b ∈ trk h H := List.mem_filter.mpr ⟨List.mem_range.mpr (Heap.lt_size e'), by simp [q]⟩;have z : (hidT h H).get? b = none := PySem.W.hideAll_none (trk h H) hm;rw [z] at e; cases e
structure Mod (K : Fgx) (mg : Mgx) (base : Heap) : Prop where
 kin : K.In base
 glob : base.Ns mainGlobals mg
 blt : ∃ mb, base.Ns builtinsNs mb /\ ∀ x : Str, x ≠ "__name__" -> mb x = bootBuiltins x
 nolimit : base.NoLimit
structure Cx where
 prog : Program
 w : World
 K : Fgx
 mg : Mgx
 base : Heap
 A : Around
 N : List Str
 s₀ : Shared
 H₀ : Hp
 env : Env
 outer : List Env
 stack : List Env
 ex : List Addr
 fn : Str -> Bool
 calm : Bool
 pn : Pnx
 xe : Value -> Shared -> Prop
def frs (l : List Env) : List Addr := l.filterMap (·.frame)
abbrev Cx.fs (X : Cx) : List Addr := frs X.outer
def Vis (sc : Scope) (x : Str) : Prop := sc.names.lookup x = some .local \/ sc.names.lookup x = some .cell \/ sc.names.lookup x = some .free
def Loc (sc : Scope) (x : Str) : Prop := sc.names.lookup x = some .local \/ sc.names.lookup x = some .cell
def Look (env : Env) (h : Heap) (m : Mgx) (x : Str) (u : Value) : Prop :=
 (env.kindOf x = some .local /\ m x = some u) \/ ((env.kindOf x = some .cell \/ env.kindOf x = some .free) /\ ∃ c, env.cells.lookup x = some c /\ h.IsCell c (some u))
structure Cx.Ok (X : Cx) : Prop where
 mod : Mod X.K X.mg X.base
 kind : X.env.scope.kind = .function
 glob : X.env.globals = mainGlobals
 blt : X.env.builtins = builtinsNs
 above : X.s₀.heap.objs.size <= X.env.locals
 inj : ∀ x y c, X.env.cells.lookup x = some c -> X.env.cells.lookup y = some c -> x = y
 has : ∀ x, (X.env.kindOf x = some .cell \/ X.env.kindOf x = some .free) -> ∃ c, X.env.cells.lookup x = some c
 cab : ∀ x c, X.fn x = true -> X.env.cells.lookup x = some c -> X.s₀.heap.objs.size <= c
 hd : X.calm = true -> X.A.handled = none
 frames : X.A.frames = some X.stack
 stk : X.stack = X.outer \/ (X.stack = X.env :: X.outer /\ X.env.frame = some X.env.locals)
 exf : ∀ b ∈ X.ex, b ≠ X.env.locals /\ ∀ x c, X.env.cells.lookup x = some c -> c ≠ b
 bs : ∀ b o, X.base.get? b = some o -> X.s₀.heap.get? b = some o /\ X.H₀ b = none
 bsz : X.base.objs.size <= X.s₀.heap.objs.size
 noex : ∀ b o, X.base.get? b = some o -> b ∉ X.ex
 exfs : ∀ b ∈ X.ex, b ∉ X.fs
 funs : X.s₀.heap.FunFrames X.base X.outer
 frf : ∀ b ∈ X.fs, X.H₀ b = none
structure Inv (X : Cx) (pins : Pnx) (σ : List (Option V)) (H : Hp) (s : Shared) : Prop where
 ok : X.Ok
 os : s.os = X.s₀.os
 bare : AllBare s.gens
 base : Un X.fs X.ex X.H₀ H X.s₀.heap s.heap
 loc : ∃ m, s.heap.Ns X.env.locals m /\ ∀ (i : Nat) (x : Str) (v : V), X.N[i]? = some x -> σ[i]? = some (some v) -> Vis X.env.scope x -> ∃ u, RelV v u /\ Look X.env s.heap m x u
 cell : ∀ x c, X.env.cells.lookup x = some c -> ∃ v, s.heap.IsCell c v
 free : H X.env.locals = none
 freeC : ∀ x c, X.env.cells.lookup x = some c -> H c = none
 pin : ∀ p ∈ X.pn ++ pins, s.heap.get? p.1 = some p.2 /\ H p.1 = none /\ p.1 ≠ X.env.locals /\ p.1 ∉ X.fs /\ ∀ v, p.2.data ≠ .cell v
 hok : HOk X.prog X.w H s.heap
 len : σ.length = X.N.length
section
variable {X : Cx} {pins : Pnx} {σ : List (Option V)} {H H' : Hp} {s : Shared} {h' : Heap}
theorem Cx.Ok.nofr (ok : X.Ok) {b : Addr} {o : Obj} (e : X.base.get? b = some o) : b ∉ X.fs := fun hb => by
 have := (ok.funs.mem hb).1;rw [e] at this; cases this
theorem Inv.bs (I : Inv X pins σ H s) : ∀ b o, X.base.get? b = some o -> s.heap.get? b = some o /\ H b = none := fun b o e =>
 ⟨I.base.keep b o (I.ok.bs b o e).1 (I.ok.bs b o e).2 (I.ok.nofr e) (I.ok.noex b o e), I.base.free b o (I.ok.bs b o e).1 (I.ok.bs b o e).2 (I.ok.noex b o e)⟩
theorem Inv.bk (I : Inv X pins σ H s) : ∀ b o, X.base.get? b = some o -> s.heap.get? b = some o := fun b o e => (I.bs b o e).1
theorem Inv.mod (I : Inv X pins σ H s) : Mod X.K X.mg X.base := I.ok.mod
theorem Inv.kIn (I : Inv X pins σ H s) : X.K.In s.heap := I.ok.mod.kin.keeps I.bk
theorem Inv.fr (I : Inv X pins σ H s) : ∃ m, Fr X.base X.env.locals s.heap m :=
 let ⟨m, hn, _⟩ := I.loc
 ⟨m, hn, I.bk, Nat.le_trans I.ok.bsz I.ok.above⟩
theorem Inv.lt (I : Inv X pins σ H s) : X.env.locals < s.heap.objs.size := let ⟨_, hn, _⟩ := I.loc; hn.lt
theorem Inv.sz (I : Inv X pins σ H s) : X.s₀.heap.objs.size <= s.heap.objs.size := Nat.le_trans I.ok.above (Nat.le_of_lt I.lt)
theorem Inv.nofs (I : Inv X pins σ H s) {a : Addr} (h : s.heap.objs.size <= a) : a ∉ X.fs := fun hb => by
 obtain ⟨_, o, ho, _⟩ := I.ok.funs.mem hb;exact absurd (Nat.lt_of_lt_of_le (Heap.lt_size ho) (Nat.le_trans I.sz h)) (Nat.lt_irrefl _)
theorem Inv.cne (I : Inv X pins σ H s) : ∀ x c, X.env.cells.lookup x = some c -> c ≠ X.env.locals := fun x c e z => by
 obtain ⟨v, o, ho, hd⟩ := I.cell x c e;obtain ⟨m, ⟨o', es, ep, ho', hd', _⟩, _⟩ := I.loc;rw [z, ho'] at ho; cases ho; rw [hd'] at hd; cases hd
theorem Inv.funs (I : Inv X pins σ H s) : s.heap.FunFrames X.base X.outer := by
  have all : ∀ (l : List Env), (∀ b ∈ frs l, b ∈ X.fs) -> X.s₀.heap.FunFrames X.base l -> s.heap.FunFrames X.base l := by
    intro l
    induction l with
    | nil => intro _ _; trivial
    | cons env r ih =>
      intro hs hl;obtain ⟨hk, ⟨L, o, hf, hn, ho, hd⟩, hr⟩ := hl;have hL : L ∈ X.fs := hs L (by unfold frs; rw [List.filterMap_cons, hf]; exact List.mem_cons_self);obtain ⟨sl, e⟩ := I.base.slot L o ho (I.ok.frf L hL) hL fun z => I.ok.exfs L z hL;exact ⟨hk, ⟨L, _, hf, hn, e, hd⟩, ih (fun b hb => hs b (by unfold frs; rw [List.filterMap_cons, hf]; exact List.mem_cons_of_mem _ hb)) hr⟩
  exact all X.outer (fun _ hb => hb) I.ok.funs
theorem Inv.stack (I : Inv X pins σ H s) : s.heap.FunFrames X.base X.stack := by
 rcases I.ok.stk with e | ⟨e, hf⟩
 ·rw [e]; exact I.funs
 ·rw [e];obtain ⟨m, hn, _⟩ := I.loc;refine .cons (by rw [I.ok.kind]; decide) hf hn ?_ I.funs;exact Heap.get?_none_of_le (Nat.le_trans I.ok.bsz I.ok.above)
theorem Inv.stkSub (I : Inv X pins σ H s) : ∀ b ∈ frs X.stack, b ∈ X.env.locals :: X.fs := fun b hb => by
 rcases I.ok.stk with e | ⟨e, hf⟩
 ·rw [e] at hb; exact List.mem_cons_of_mem _ hb
 ·rw [e] at hb;unfold frs at hb;rw [List.filterMap_cons, hf] at hb;exact hb
theorem Inv.stkFree (I : Inv X pins σ H s) : ∀ b ∈ frs X.stack, H b = none := fun b hb => by
 rcases List.mem_cons.mp (I.stkSub b hb) with e | hb
 ·rw [e]; exact I.free
 ·obtain ⟨_, o, ho, _⟩ := I.ok.funs.mem hb;exact I.base.free b o ho (I.ok.frf b hb) fun z => I.ok.exfs b z hb
theorem Inv.step {g' : Array GenState} {t' : Nat} {d' : Drawn} {ch : List Addr} (I : Inv X pins σ H s)
  (hch : ∀ b ∈ ch, (b ∈ X.ex \/ X.s₀.heap.objs.size <= b) /\ b ≠ X.env.locals /\ (∀ x c, X.env.cells.lookup x = some c -> c ≠ b) /\ ∀ p ∈ X.pn ++ pins, p.1 ≠ b)
  (keep : ∀ b o, b ≠ X.env.locals -> b ∉ X.fs -> b ∉ ch -> s.heap.get? b = some o -> H b = none -> h'.get? b = some o)
  (slot : ∀ b o, b ≠ X.env.locals -> b ∈ X.fs -> b ∉ ch -> s.heap.get? b = some o -> H b = none -> ∃ sl, h'.get? b = some { o with slots := sl }) (free : ∀ b o, b ∉ ch -> s.heap.get? b = some o -> H b = none -> H' b = none)
  (there : ∀ b o, b ∉ ch -> s.heap.get? b = some o -> ∃ o', h'.get? b = some o')
  (tups : ∀ b xs, H b = some (.tup xs) -> H' b = some (.tup xs)) (frzs : ∀ b o u, H b = some (.frz o u) -> H' b = some (.frz o u)) (tbls : ∀ b ps, H b = some (.tbl ps) -> ∃ more, H' b = some (.tbl (ps ++ more)))
  (ns : ∀ m, s.heap.Ns X.env.locals m -> h'.Ns X.env.locals m) (hok : HOk X.prog X.w H' h') (hg : AllBare g') :
  Inv X pins σ H' { s with heap := h', gens := g', drawn := d', toks := t' } := by
 have neL : ∀ b o, X.s₀.heap.get? b = some o -> b ≠ X.env.locals := fun b o e => Nat.ne_of_lt (Nat.lt_of_lt_of_le (Heap.lt_size e) I.ok.above);have neC : ∀ b o, X.s₀.heap.get? b = some o -> b ∉ X.ex -> b ∉ ch := fun b o e hx hb => by
  rcases (hch b hb).1 with z | z
  ·exact hx z
  ·exact absurd (Nat.lt_of_lt_of_le (Heap.lt_size e) z) (Nat.lt_irrefl _)
 have cellK : ∀ x c, X.env.cells.lookup x = some c -> ∀ v, s.heap.IsCell c v -> h'.IsCell c v := fun x c e v ⟨o, ho, hd⟩ => by
  have nch : c ∉ ch := fun z => (hch c z).2.2.1 x c e rfl
  by_cases hc : c ∈ X.fs
  ·obtain ⟨sl, q⟩ := slot c o (I.cne x c e) hc nch ho (I.freeC x c e);exact ⟨_, q, hd⟩
  ·exact ⟨o, keep c o (I.cne x c e) hc nch ho (I.freeC x c e), hd⟩
 refine ⟨I.ok, I.os, hg, ⟨fun b o e n hb hx => ?_, fun b o e n hb hx => ?_, fun b o e n hx => ?_, fun b o e hx => ?_, fun b xs e => tups b xs (I.base.tups b xs e), fun b o xs e => frzs b o xs (I.base.frzs b o xs e), fun b ps e => ?_⟩, ?_, fun x c e => ?_, ?_, fun x c e => ?_, fun p hp => ?_, hok, I.len⟩
 ·exact keep b o (neL b o e) hb (neC b o e hx) (I.base.keep b o e n hb hx) (I.base.free b o e n hx)
 ·obtain ⟨sl, e1⟩ := I.base.slot b o e n hb hx;obtain ⟨sl', e2⟩ := slot b _ (neL b o e) hb (neC b o e hx) e1 (I.base.free b o e n hx);exact ⟨sl', e2⟩
 ·obtain ⟨o', e1⟩ := I.base.there b o e hx;exact free b o' (neC b o e hx) e1 (I.base.free b o e n hx)
 ·obtain ⟨o', e1⟩ := I.base.there b o e hx;exact there b o' (neC b o e hx) e1
 ·obtain ⟨m1, e1⟩ := I.base.tbls b ps e;obtain ⟨m2, e2⟩ := tbls b _ e1;exact ⟨m1 ++ m2, by rw [e2, Array.append_assoc]⟩
 ·obtain ⟨m, hn, hl⟩ := I.loc;refine ⟨m, ns m hn, fun i x v e1 e2 e3 => ?_⟩;obtain ⟨u, r, l⟩ := hl i x v e1 e2 e3;refine ⟨u, r, ?_⟩;rcases l with l | ⟨k, c, e, z⟩
  ·exact .inl l
  ·exact .inr ⟨k, c, e, cellK x c e _ z⟩
 ·obtain ⟨v, z⟩ := I.cell x c e;exact ⟨v, cellK x c e v z⟩
 ·obtain ⟨m, ⟨o, _, _, ho, _⟩, _⟩ := I.loc;exact free _ o (fun z => (hch _ z).2.1 rfl) ho I.free
 ·obtain ⟨v, o, ho, hd⟩ := I.cell x c e;exact free c o (fun z => (hch c z).2.2.1 x c e rfl) ho (I.freeC x c e)
 ·obtain ⟨e, n, ne, nf, d⟩ := I.pin p hp;have nch : p.1 ∉ ch := fun z => (hch p.1 z).2.2.2 p hp rfl;exact ⟨keep p.1 p.2 ne nf nch e n, free p.1 p.2 nch e n, ne, nf, d⟩
theorem Inv.un {t' : Nat} (I : Inv X pins σ H s) (u : Un X.fs [] H H' s.heap h') (hok : HOk X.prog X.w H' h') : Inv X pins σ H' { s with heap := h', toks := t' } := by
 obtain ⟨m, ⟨o, es, ep, ho, r⟩, _⟩ := id I.loc;obtain ⟨sl, hL⟩ := u.any ho I.free (by simp);exact I.step (g' := s.gens) (d' := s.drawn) (ch := []) (fun _ z => nomatch z) (fun b o _ hb _ e n => u.keep b o e n hb (by simp)) (fun b o _ hb _ e n => u.slot b o e n hb (by simp)) (fun b o _ e n => u.free b o e n (by simp)) (fun b o _ e => u.there b o e (by simp)) u.tups u.frzs u.tbls (fun m' hm => by
  obtain ⟨o', es', ep', ho', r'⟩ := hm;rw [ho] at ho'; cases ho';exact ⟨_, es', ep', hL, r'⟩) hok I.bare
theorem Inv.call {g' : Array GenState} {t' : Nat} {d' : Drawn} {ch : List Addr} (I : Inv X pins σ H s) (u : Un (frs X.stack) ch H H' s.heap h') (hok : HOk X.prog X.w H' h') (hg : AllBare g')
  (hch : ∀ b ∈ ch, (b ∈ X.ex \/ X.s₀.heap.objs.size <= b) /\ b ≠ X.env.locals /\ (∀ x c, X.env.cells.lookup x = some c -> c ≠ b) /\ ∀ p ∈ X.pn ++ pins, p.1 ≠ b) :
  Inv X pins σ H' { s with heap := h', gens := g', drawn := d', toks := t' } := by
 obtain ⟨m, ⟨o, es, ep, ho, r⟩, _⟩ := id I.loc;obtain ⟨sl, hL⟩ := u.any ho I.free fun z => (hch _ z).2.1 rfl;exact I.step (ch := ch) hch (fun b o hL hb hc e n => u.keep b o e n (fun z => (List.mem_cons.mp (I.stkSub b z)).elim hL hb) hc) (fun b o _ _ hc e n => u.any e n hc) (fun b o hc e n => u.free b o e n hc) (fun b o hc e => u.there b o e hc) u.tups u.frzs u.tbls (fun m' hm => by
  obtain ⟨o', es', ep', ho', r'⟩ := hm;rw [ho] at ho'; cases ho';exact ⟨_, es', ep', hL, r'⟩) hok hg
theorem Inv.turned {t' : Nat} {it : Addr} (I : Inv X pins σ H s) (k : ∀ b o, b ≠ it -> s.heap.get? b = some o -> h'.get? b = some o) (hn : H it = none) (hL : it ≠ X.env.locals)
  (h1 : it ∈ X.ex \/ X.s₀.heap.objs.size <= it) (h2 : ∀ x c, X.env.cells.lookup x = some c -> c ≠ it) (h3 : ∀ p ∈ X.pn ++ pins, p.1 ≠ it) : Inv X pins σ H { s with heap := h', toks := t' } := by
 have nit : ∀ b u, H b = some u -> b ≠ it := fun b u e z => by rw [z, hn] at e; cases e
 refine I.step (g' := s.gens) (d' := s.drawn) (ch := [it]) (fun b hb => ?_) (fun b o _ _ hc e _ => k b o (fun z => hc (by simp [z])) e) (fun b o _ _ hc e _ => ⟨o.slots, k b o (fun z => hc (by simp [z])) e⟩) (fun _ _ _ _ n => n)
  (fun b o hc e => ⟨o, k b o (fun z => hc (by simp [z])) e⟩) (fun _ _ e => e) (fun _ _ _ e => e) (fun b ps e => ⟨#[], by rw [e]; simp⟩) (fun m hm => ?_) (fun b u e => ?_) I.bare
 ·have e : b = it := by simpa using hb
  subst e;exact ⟨h1, hL, h2, h3⟩
 ·obtain ⟨o, es, ep, ho, r⟩ := hm;exact ⟨o, es, ep, k _ o (Ne.symm hL) ho, r⟩
 ·refine (I.hok b u e).stay (fun c v hc q => k c v ?_ q) (fun _ q => q) fun _ _ q => q;rcases hc with z | z
  ·rw [z]; exact nit b u e
  ·exact nit c _ z
theorem Inv.tok (I : Inv X pins σ H s) (t : Nat) : Inv X pins σ H { s with toks := t } := I.un (h' := s.heap) (t' := t) Un.refl I.hok
theorem Inv.kept {t' : Nat} (I : Inv X pins σ H s) (k : ∀ b u, s.heap.get? b = some u -> h'.get? b = some u) : Inv X pins σ H { s with heap := h', toks := t' } := I.un (Un.kept k) (I.hok.kept k)
theorem Inv.laid {a : Addr} {o : HO} {t' : Nat} (I : Inv X pins σ H s) (k : ∀ b u, s.heap.get? b = some u -> h'.get? b = some u) (hp : s.heap.objs.size <= a) (new : zbW X.prog X.w (upd H a o) h' a o) :
  Inv X pins σ (upd H a o) { s with heap := h', toks := t' } := I.un (Un.laid k hp (I.hok.fresh hp)) (I.hok.laid k hp new)
theorem Inv.write {x e : Addr} {o : HO} {t' : Nat} (I : Inv X pins σ H s) (mu : Mut (H x)) (he : e = x \/ H e = some (.own x)) (k : ∀ b u, b ≠ e -> s.heap.get? b = some u -> h'.get? b = some u) (heo : ∃ u, h'.get? e = some u)
  (new : zbW X.prog X.w (upd H x o) h' x o) : Inv X pins σ (upd H x o) { s with heap := h', toks := t' } := I.un (Un.write mu he k heo) (I.hok.write mu he k heo new)
theorem Inv.pins_of {pins' : Pnx} (I : Inv X pins σ H s) (h : ∀ p ∈ pins', s.heap.get? p.1 = some p.2 /\ H p.1 = none /\ p.1 ≠ X.env.locals /\ p.1 ∉ X.fs /\ ∀ v, p.2.data ≠ .cell v) : Inv X pins' σ H s :=
 ⟨I.ok, I.os, I.bare, I.base, I.loc, I.cell, I.free, I.freeC, fun p hp => (List.mem_append.mp hp).elim (fun z => I.pin p (List.mem_append_left _ z)) (h p), I.hok, I.len⟩
theorem zhs {N : List Str} (hN : N.Nodup) {i j : Nat} {x : Str} (a : N[i]? = some x) (b : N[j]? = some x) : i = j := by
 obtain ⟨h1, e1⟩ := List.getElem?_eq_some_iff.mp a;obtain ⟨h2, e2⟩ := List.getElem?_eq_some_iff.mp b;exact (List.getElem_inj hN).mp (e1.trans e2.symm)
theorem zki {M : Model} {A : Around} {E : Value -> Shared -> Prop} {i : Nat} {x : Str} {v : V} {u : Value} {Q : Unit -> Shared -> Prop} (I : Inv X pins σ H s) (hN : X.N.Nodup) (hi : X.N[i]? = some x) (hx : Loc X.env.scope x) (r : RelV v u)
    (h : ∀ s', Inv X pins (σ.set i (some v)) H s' -> (∃ a, Heap.SameBut a s.heap s'.heap /\ (a = X.env.locals \/ X.env.cells.lookup x = some a)) -> Q () s') (hf : X.fn x = true \/ X.env.scope.names.lookup x = some .local := by first | exact .inl rfl | exact .inr rfl | assumption) : wpAny M A (storeName X.env x u) Q E s := by
  obtain ⟨m, hn, hl⟩ := id I.loc;have hcls : (X.env.scope.kind == .class || (X.env.scope.kind == .module && X.env.locals != X.env.globals)) = false := by rw [I.ok.kind]; rfl
  have hiσ : i < σ.length := by rw [I.len]; exact (List.getElem?_eq_some_iff.mp hi).1
  have cne := I.cne;have tracked : ∀ {a : Addr} {h' : Heap}, (∃ o, s.heap.get? a = some o /\ H a = none) -> Heap.SameBut a s.heap h' -> HOk X.prog X.w H h' := fun {a h'} ha hs b ob e => by
    obtain ⟨_, _, hfree⟩ := ha;refine (I.hok b ob e).stay (fun c w' hc q => (hs.2 c ?_).trans q) (fun _ q => q) fun _ _ q => q;rintro rfl;rcases hc with rfl | hc
    · rw [hfree] at e; cases e
    · rw [hfree] at hc; cases hc
  rcases hx with hk | hk
  · refine wpAny_storeName_local hk hn (fun h' hn' hs => ?_) hcls;obtain ⟨oL, _, _, hoL, _⟩ := id hn;refine h _ ⟨I.ok, I.os, I.bare, ⟨fun b o e n hb hx => ?_, fun b o e n hb hx => ?_, I.base.free, fun b o e hx => ?_, I.base.tups, I.base.frzs, I.base.tbls⟩, ⟨_, hn', fun j y v' e1 e2 e3 => ?_⟩, fun y c e => ?_, I.free, I.freeC, fun p hp => ?_, tracked ⟨oL, hoL, I.free⟩ hs, by simpa using I.len⟩ ⟨_, hs, .inl rfl⟩
    · exact (hs.2 b (Nat.ne_of_lt (Nat.lt_of_lt_of_le (Heap.lt_size e) I.ok.above))).trans (I.base.keep b o e n hb hx)
    · obtain ⟨sl, e1⟩ := I.base.slot b o e n hb hx;exact ⟨sl, (hs.2 b (Nat.ne_of_lt (Nat.lt_of_lt_of_le (Heap.lt_size e) I.ok.above))).trans e1⟩
    · obtain ⟨o', e1⟩ := I.base.there b o e hx;exact ⟨o', (hs.2 b (Nat.ne_of_lt (Nat.lt_of_lt_of_le (Heap.lt_size e) I.ok.above))).trans e1⟩
    · by_cases hj : j = i
      · subst hj;rw [hi] at e1; cases e1;rw [List.getElem?_set_self hiσ] at e2;cases e2;exact ⟨u, r, .inl ⟨hk, by simp⟩⟩
      · rw [List.getElem?_set_ne (Ne.symm hj)] at e2;obtain ⟨u', r', q⟩ := hl j y v' e1 e2 e3;refine ⟨u', r', ?_⟩;rcases q with ⟨k, e⟩ | ⟨k, c, e, z⟩
        · refine .inl ⟨k, ?_⟩;have : y ≠ x := fun e => hj (zhs hN e1 (e ▸ hi))
          simp [this, e]
        · exact .inr ⟨k, c, e, z.sameBut hs (cne y c e)⟩
    · obtain ⟨w', z⟩ := I.cell y c e;exact ⟨w', z.sameBut hs (cne y c e)⟩
    · obtain ⟨e, n, ne, nf, d⟩ := I.pin p hp;exact ⟨(hs.2 p.1 ne).trans e, n, ne, nf, d⟩
  · have hfn : X.fn x = true := by
      rcases hf with z | z
      · exact z
      · rw [z] at hk; cases hk
    obtain ⟨c, hc⟩ := I.ok.has x (.inl hk);obtain ⟨w', z⟩ := I.cell x c hc;refine wpAny_storeName_cell I.ok.kind hk hc z (fun h' hc' hs => ?_);obtain ⟨oc, hoc, hocd⟩ := id z;refine h { s with heap := h' } ⟨I.ok, I.os, I.bare, ⟨fun b o e n hb hx => ?_, fun b o e n hb hx => ?_, I.base.free, fun b o e hx => ?_, I.base.tups, I.base.frzs, I.base.tbls⟩, ⟨m, hn.sameBut hs (Ne.symm (cne x c hc)), fun j y v' e1 e2 e3 => ?_⟩, fun y c' e => ?_, I.free, I.freeC, fun p hp => ?_, tracked ⟨oc, hoc, I.freeC x c hc⟩ hs, by simpa using I.len⟩ ⟨c, hs, .inr hc⟩
    · exact (hs.2 b (Nat.ne_of_lt (Nat.lt_of_lt_of_le (Heap.lt_size e) (I.ok.cab x c hfn hc)))).trans (I.base.keep b o e n hb hx)
    · obtain ⟨sl, e1⟩ := I.base.slot b o e n hb hx;exact ⟨sl, (hs.2 b (Nat.ne_of_lt (Nat.lt_of_lt_of_le (Heap.lt_size e) (I.ok.cab x c hfn hc)))).trans e1⟩
    · obtain ⟨o', e1⟩ := I.base.there b o e hx;exact ⟨o', (hs.2 b (Nat.ne_of_lt (Nat.lt_of_lt_of_le (Heap.lt_size e) (I.ok.cab x c hfn hc)))).trans e1⟩
    · by_cases hj : j = i
      · subst hj;rw [hi] at e1; cases e1;rw [List.getElem?_set_self hiσ] at e2;cases e2;exact ⟨u, r, .inr ⟨.inl hk, c, hc, hc'⟩⟩
      · rw [List.getElem?_set_ne (Ne.symm hj)] at e2;obtain ⟨u', r', q⟩ := hl j y v' e1 e2 e3;refine ⟨u', r', ?_⟩;rcases q with q | ⟨k, c', e, z'⟩
        · exact .inl q
        · refine .inr ⟨k, c', e, z'.sameBut hs ?_⟩;rintro rfl;exact hj (zhs hN e1 (I.ok.inj _ _ _ e hc ▸ hi))
    · by_cases hcc : c' = c
      · subst hcc; exact ⟨_, hc'⟩
      · obtain ⟨w2, z2⟩ := I.cell y c' e;exact ⟨w2, z2.sameBut hs hcc⟩
    · obtain ⟨e, n, ne, nf, d⟩ := I.pin p hp;refine ⟨(hs.2 p.1 ?_).trans e, n, ne, nf, d⟩;intro q;rw [q, hoc] at e;have q' : oc = p.2 := Option.some.inj e;exact d w' (by rw [<- q']; exact hocd)
theorem zd1 {M : Model} {A : Around} {E : Value -> Shared -> Prop} {i : Nat} {x : Str} {v : V} {u : Value} {Q : Unit -> Shared -> Prop} (I : Inv X pins σ H s) (hN : X.N.Nodup) (hi : X.N[i]? = some x) (hx : Loc X.env.scope x) (r : RelV v u)
  (h : ∀ s', Inv X pins (σ.set i (some v)) H s' -> Q () s') (hf : X.fn x = true \/ X.env.scope.names.lookup x = some .local := by first | exact .inl rfl | exact .inr rfl | assumption) : wpAny M A (storeName X.env x u) Q E s :=
 zki I hN hi hx r (fun s' I' _ => h s' I') hf
theorem Inv.call' {s' : Shared} {ch : List Addr} (I : Inv X pins σ H s) (ho : s'.os = s.os) (u : Un (frs X.stack) ch H H' s.heap s'.heap) (hok : HOk X.prog X.w H' s'.heap) (hg : AllBare s'.gens)
  (hch : ∀ b ∈ ch, (b ∈ X.ex \/ X.s₀.heap.objs.size <= b) /\ b ≠ X.env.locals /\ (∀ x c, X.env.cells.lookup x = some c -> c ≠ b) /\ ∀ p ∈ X.pn ++ pins, p.1 ≠ b) : Inv X pins σ H' s' := by
 obtain ⟨h', g', d', t', o'⟩ := s';have e : o' = s.os := ho;subst e;exact I.call (g' := g') (t' := t') (d' := d') u hok hg hch
end
abbrev XK := Value -> Option Addr -> Hp -> Prop
abbrev St := List (Option V)
abbrev VK := V -> Hp -> Prop
abbrev TE := St -> Hp -> VK -> Prop
abbrev TT := St -> Hp -> (Bool -> Hp -> Prop) -> Prop
abbrev TA := St -> Hp -> (List V -> Hp -> Prop) -> Prop
structure Ends where
 nx : St -> Hp -> Prop
 rt : VK
 bk : St -> Hp -> Prop := fun _ _ => False
 ct : St -> Hp -> Prop := fun _ _ => False
abbrev TS := Ends -> St -> Hp -> Prop
def EP (X : Cx) (pins : Pnx) (σ : St) (Q : VK) (u : Value) (s' : Shared) : Prop := ∃ v H', Inv X pins σ H' s' /\ RelV v u /\ Q v H'
def TP (X : Cx) (pins : Pnx) (σ : St) (Q : Bool -> Hp -> Prop) (b : Bool) (s' : Shared) : Prop := ∃ H', Inv X pins σ H' s' /\ Q b H'
def AP (X : Cx) (pins : Pnx) (σ : St) (Q : List V -> Hp -> Prop) (us : List Value) (s' : Shared) : Prop := ∃ vs H', Inv X pins σ H' s' /\ Vals vs us /\ Q vs H'
def SP (X : Cx) (pins : Pnx) (D : Ends) (f : Flow) (s' : Shared) : Prop :=
 match f with
 | .next => ∃ σ' H', Inv X pins σ' H' s' /\ D.nx σ' H'
 | .brk => ∃ σ' H', Inv X pins σ' H' s' /\ D.bk σ' H'
 | .cont => ∃ σ' H', Inv X pins σ' H' s' /\ D.ct σ' H'
 | .ret u => ∃ v σ' H', Inv X pins σ' H' s' /\ RelV v u /\ D.rt v H'
def PE (X : Cx) (e : Expr) (t : TE) : Prop :=
 ∀ (pins : Pnx) (s : Shared) (σ : St) (H : Hp) (Q : VK), Inv X pins σ H s -> t σ H Q -> wpAny (model X.prog X.w) X.A (eval e X.env) (EP X pins σ Q) X.xe s
def PT (X : Cx) (e : Expr) (t : TT) : Prop :=
 ∀ (pins : Pnx) (s : Shared) (σ : St) (H : Hp) (Q : Bool -> Hp -> Prop), Inv X pins σ H s -> t σ H Q -> wpAny (model X.prog X.w) X.A (isTrue e X.env (eval e X.env)) (TP X pins σ Q) X.xe s
def PW (X : Cx) (e : Expr) (t : TT) : Prop :=
 ∀ (whole : Sem Value) (pins : Pnx) (s : Shared) (σ : St) (H : Hp) (Q : Bool -> Hp -> Prop), Inv X pins σ H s -> t σ H Q -> wpAny (model X.prog X.w) X.A (isTrue e X.env whole) (TP X pins σ Q) X.xe s
theorem PW.pt {X : Cx} {e : Expr} {t : TT} (h : PW X e t) : PT X e t := h _
def PA (X : Cx) (es : List Expr) (t : TA) : Prop :=
 ∀ (pos : Pos) (pins : Pnx) (s : Shared) (σ : St) (H : Hp) (Q : List V -> Hp -> Prop), Inv X pins σ H s -> t σ H Q -> wpAny (model X.prog X.w) X.A (spliced (backTo pos (starEach es X.env))) (AP X pins σ Q) X.xe s
def PS (X : Cx) (st : Stmt) (t : TS) : Prop :=
 ∀ (pins : Pnx) (s : Shared) (σ : St) (H : Hp) (D : Ends), Inv X pins σ H s -> t D σ H -> wpAny (model X.prog X.w) X.A (exec st X.env) (SP X pins D) X.xe s
def PSs (X : Cx) (st : List Stmt) (t : TS) : Prop :=
 ∀ (pins : Pnx) (s : Shared) (σ : St) (H : Hp) (D : Ends), Inv X pins σ H s -> t D σ H -> wpAny (model X.prog X.w) X.A (execs st X.env) (SP X pins D) X.xe s
theorem thn {α : Type} {t : Sem α} {Q Q' : α -> Shared -> Prop} {M : Model} {A : Around} {E : Value -> Shared -> Prop} {s : Shared} (h : wpAny M A t Q E s) (hQ : ∀ a s, Q a s -> Q' a s) : wpAny M A t Q' E s := wpAny_mono h hQ fun _ _ x => x
section
variable {X : Cx}
def tVar (i : Nat) : TE := fun σ H Q => ∃ v, σ[i]? = some (some v) /\ Q v H
def tC (v : V) : TE := fun _ H Q => Q v H
theorem zh7 {i : Nat} {x : Str} {pos : Pos} (hN : X.N[i]? = some x) (hv : Vis X.env.scope x) (hd : (x == ("__debug__" : Str)) = false := by decide) (hcd : (x == ("__classdict__" : Str)) = false := by decide) : PE X (.Name x pos) (tVar i) := by
 intro pins s σ H Q I h;obtain ⟨v, e, h⟩ := h;obtain ⟨m, hn, hl⟩ := I.loc;obtain ⟨u, r, l⟩ := hl i x v hN e hv;have fin : EP X pins σ Q u s := ⟨v, H, I, r, h⟩;rcases l with ⟨hk, hm⟩ | ⟨hk, c, hc, hcell⟩
 ·exact wpAny_Name (wpAny_loadName_local I.ok.kind hk hn hm fin) hd
 ·rcases hk with hk | hk
  ·exact wpAny_Name (wpAny_loadName_cell I.ok.kind hk hc hcell fin) hd
  ·exact wpAny_Name (wpAny_loadName_free I.ok.kind hk hc hcell fin hcd) hd
theorem zae {i j pos} : PE X (.Constant (.int i) j pos) (tC (.int i)) := fun _ _ _ H _ I h => wpAny_Constant_int ⟨.int i, H, I.tok _, ⟨_, rfl⟩, h⟩
theorem zdB {b j pos} : PE X (.Constant (.bool b) j pos) (tC (.bl b)) := fun _ _ _ H _ I h => Constant_bool ⟨.bl b, H, I, rfl, h⟩
theorem zrj {j pos} : PE X (.Constant .none j pos) (tC .non) := fun _ _ _ H _ I h => Constant_none ⟨.non, H, I, rfl, h⟩
theorem zak {x j pos} : PE X (.Constant (.str x) j pos) (tC (.str x)) := fun _ _ _ H _ I h => Calls.Constant_str ⟨.str x, H, I.tok _, ⟨_, rfl⟩, h⟩
def Gl (X : Cx) (x : Str) : Prop := X.env.kindOf x = some .globalImplicit
theorem zcx {E : Value -> Shared -> Prop} {pins : Pnx} {s : Shared} {σ : St} {H : Hp} {x : Str} {u : Value} {pos : Pos} {Q : Value -> Shared -> Prop} (I : Inv X pins σ H s) (hg : Gl X x) (hm : X.mg x = some u) (h : Q u s)
  (hd : (x == ("__debug__" : Str)) = false := by decide) : wpAny (model X.prog X.w) X.A (eval (.Name x pos) X.env) Q E s :=
 Calls.Name_function_global I.ok.kind hg (Calls.loadGlobal_global (by rw [I.ok.glob]; exact I.mod.glob.keeps I.bk) hm h) hd
theorem zig {E : Value -> Shared -> Prop} {pins : Pnx} {s : Shared} {σ : St} {H : Hp} {x : Str} {u : Value} {pos : Pos} {Q : Value -> Shared -> Prop} (I : Inv X pins σ H s) (hg : Gl X x) (hm : X.mg x = none) (hv : bootBuiltins x = some u) (h : Q u s)
  (hn : x ≠ "__name__" := by decide) (hd : (x == ("__debug__" : Str)) = false := by decide) : wpAny (model X.prog X.w) X.A (eval (.Name x pos) X.env) Q E s := by
 obtain ⟨mb, h1, h2⟩ := I.mod.blt;exact Calls.Name_function_global I.ok.kind hg (Calls.loadGlobal_builtin (by rw [I.ok.glob]; exact I.mod.glob.keeps I.bk) hm (by rw [I.ok.blt]; exact h1.keeps I.bk) ((h2 x hn).trans hv) h) hd
theorem zch {x : Str} {v : V} {u : Value} {pos : Pos} (hg : Gl X x) (hm : X.mg x = some u) (r : RelV v u) (hd : (x == ("__debug__" : Str)) = false := by decide) : PE X (.Name x pos) (tC v) :=
 fun _ _ _ H _ I h => zcx I hg hm ⟨v, H, I, r, h⟩ hd
variable {a b : Expr} {ta tb : TE} {pos : Pos}
def PC (X : Cx) (op : CmpOp) (a b : Expr) (t : TE) : Prop :=
 ∀ (pins : Pnx) (s : Shared) (σ : St) (H : Hp) (Q : VK), Inv X pins σ H s -> t σ H Q ->
  wpAny (model X.prog X.w) X.A (eval a X.env) (fun v s₁ => wpAny (model X.prog X.w) X.A (eval b X.env) (fun u s₂ => wpAny (model X.prog X.w) X.A (compareOp op v u) (EP X pins σ Q) X.xe s₂) X.xe s₁) X.xe s
def tB (t : TE) : TT := fun σ H Q => t σ H fun x H1 => ∃ c, x = .bl c /\ Q c H1
theorem zkJ {op : CmpOp} {t : TE} (h : PC X op a b t) (h1 : behindInMarks op b = false := by first | exact nobehind _ (by decide) (by decide) | rfl) : PT X (.Compare a [op] [b] pos) (tB t) := by
 intro pins s σ H Q I hw;refine wpAny_isTrue_Compare1 (thn (h pins s σ H _ I hw) fun v s1 h1 => thn h1 fun u s2 h2 => thn h2 fun c s3 ⟨x, H1, I1, r1, q1⟩ => ?_) h1;obtain ⟨d, rfl, q⟩ := q1;cases r1;exact wpAny_truthy_bool ⟨H1, I1, q⟩
variable {tA tB' : TT} {rest : List Expr}
def tAnd (t u : TT) : TT := fun σ H Q => t σ H fun c H1 => if c = true then u σ H1 Q else Q false H1
def tOr (t u : TT) : TT := fun σ H Q => t σ H fun c H1 => if c = true then Q true H1 else u σ H1 Q
def tNot (t : TT) : TT := fun σ H Q => t σ H fun c H1 => Q (!c) H1
theorem zoT (ha : PT X a tA) : PW X (.BoolOp .And [a] pos) tA := by
 intro wh pins s σ H Q I h;refine isTrue_and (thn (ha pins s σ H Q I h) fun c s1 e => ?_)
 cases c with
 | true => exact isTrue_and_nil e
 | false => exact e
theorem zpI (ha : PT X a tA) : PW X (.BoolOp .Or [a] pos) tA := by
 intro wh pins s σ H Q I h;refine isTrue_or (thn (ha pins s σ H Q I h) fun c s1 e => ?_)
 cases c with
 | false => exact isTrue_or_nil e
 | true => exact e
theorem zqd (ha : PT X a tA) (hb : PW X (.BoolOp .And (b :: rest) pos) tB') : PW X (.BoolOp .And (a :: b :: rest) pos) (tAnd tA tB') := by
 intro wh pins s σ H Q I h;refine isTrue_and (thn (ha pins s σ H _ I h) fun c s1 ⟨H1, I1, q1⟩ => ?_)
 cases c with
 | true => exact hb wh pins s1 σ H1 Q I1 q1
 | false => exact ⟨H1, I1, q1⟩
theorem zsS (ha : PT X a tA) (hb : PW X (.BoolOp .Or (b :: rest) pos) tB') : PW X (.BoolOp .Or (a :: b :: rest) pos) (tOr tA tB') := by
 intro wh pins s σ H Q I h;refine isTrue_or (thn (ha pins s σ H _ I h) fun c s1 ⟨H1, I1, q1⟩ => ?_)
 cases c with
 | true => exact ⟨H1, I1, q1⟩
 | false => exact hb wh pins s1 σ H1 Q I1 q1
theorem zrv (ha : PT X a tA) : PT X (.UnaryOp .Not a pos) (tNot tA) := by
 intro pins s σ H Q I h;exact isTrue_not (ha pins s σ H (fun c H1 => Q (!c) H1) I h)
def zsD (ta tb : TE) : TE := fun σ H Q => ta σ H fun x H1 => ∃ c, x = .bl c /\ if c = true then tb σ H1 Q else Q (.bl false) H1
def tOrV (ta tb : TE) : TE := fun σ H Q => ta σ H fun x H1 => ∃ c, x = .bl c /\ if c = true then Q (.bl true) H1 else tb σ H1 Q
theorem zrY {op} {t : TE} (h : PE X a t) : PE X (.BoolOp op [a] pos) t := fun pins s σ H Q I hw => BoolOp_one (h pins s σ H Q I hw)
theorem zri (ha : PE X a ta) (hb : PE X (.BoolOp .And (b :: rest) pos) tb) : PE X (.BoolOp .And (a :: b :: rest) pos) (zsD ta tb) := by
 intro pins s σ H Q I h;refine BoolOp_and (thn (ha pins s σ H _ I h) fun v s1 ⟨x, H1, I1, r1, q1⟩ => ?_);obtain ⟨c, rfl, q1⟩ := q1;cases r1;refine wpAny_truthy_bool ?_
 cases c with
 | true => exact hb pins s1 σ H1 Q I1 q1
 | false => exact ⟨.bl false, H1, I1, rfl, q1⟩
theorem zsj (ha : PE X a ta) (hb : PE X (.BoolOp .Or (b :: rest) pos) tb) : PE X (.BoolOp .Or (a :: b :: rest) pos) (tOrV ta tb) := by
 intro pins s σ H Q I h;refine BoolOp_or (thn (ha pins s σ H _ I h) fun v s1 ⟨x, H1, I1, r1, q1⟩ => ?_);obtain ⟨c, rfl, q1⟩ := q1;cases r1;refine wpAny_truthy_bool ?_
 cases c with
 | false => exact hb pins s1 σ H1 Q I1 q1
 | true => exact ⟨.bl true, H1, I1, rfl, q1⟩
def tIf (t : TT) (ta tb : TE) : TE := fun σ H Q => t σ H fun c H1 => if c = true then ta σ H1 Q else tb σ H1 Q
theorem zmj {c : Expr} (hc : PT X c tA) (ha : PE X a ta) (hb : PE X b tb) : PE X (.IfExp c a b pos) (tIf tA ta tb) := by
 intro pins s σ H Q I h;refine wpAny_IfExp (thn (hc pins s σ H _ I h) fun d s1 ⟨H1, I1, q1⟩ => ?_)
 cases d with
 | true => exact ha pins s1 σ H1 Q I1 q1
 | false => exact hb pins s1 σ H1 Q I1 q1
end
def SqL (K : Fgx) (H : Hp) (a : Addr) (xs : List V) : Prop :=
 Rd H a (.lst xs) \/
  ∃ (o : Obj) (its : Array Value) (n : Nat), K.lookup a = some o /\ o.cls = .type "list" /\ o.dict = none /\ o.data = .seq its n /\ its.size <= sizeLine /\ Vals xs its.toList
def SqT (K : Fgx) (H : Hp) (a : Addr) (xs : List V) : Prop :=
 Rd H a (.tup xs) \/
  ∃ (o : Obj) (its : Array Value) (n : Nat), K.lookup a = some o /\ o.cls = .type "tuple" /\ o.data = .seq its n /\ its.size <= sizeLine /\ Vals xs its.toList
def absV : Value -> Option V
 | .none => some .non
 | .bool b => some (.bl b)
 | .int i _ => some (.int i)
 | .str x _ => some (.str x)
 | .bytes b _ => some (.byt b)
 | .float b _ => some (.flt b)
 | .ref a => some (.ref a)
 | .type n => some (.ty n)
 | _ => none
theorem RelV.abs {x : V} {u : Value} (r : RelV x u) : absV u = some x := by
 cases x with
 | non => cases r; rfl
 | bl _ => cases r; rfl
 | int _ => obtain ⟨t, rfl⟩ := r; rfl
 | str _ => obtain ⟨t, rfl⟩ := r; rfl
 | byt _ => obtain ⟨t, rfl⟩ := r; rfl
 | flt _ => obtain ⟨t, rfl⟩ := r; rfl
 | ref _ => cases r; rfl
 | ty _ => cases r; rfl
theorem RelV.inj {x y : V} {u : Value} (r : RelV x u) (q : RelV y u) : x = y := Option.some.inj (r.abs.symm.trans q.abs)
theorem Vals.inj : ∀ {xs ys : List V} {us : List Value}, Vals xs us -> Vals ys us -> xs = ys
 | _, _, _, .nil, .nil => rfl
 | _, _, _, .cons r t, .cons r' t' => by rw [r.inj r', Vals.inj t t']
section
variable {X : Cx} {pins : Pnx} {σ : St} {H : Hp} {s : Shared} {a : Addr} {xs ys : List V}
theorem Inv.list (I : Inv X pins σ H s) (h : SqL X.K H a xs) : ∃ its : List Value, Vals xs its /\ PlainL s.heap a its.toArray /\ xs.length <= sizeLine := by
 rcases h with h | ⟨o, its, n, hk, hc, hd, hs, hz, r⟩
 ·obtain ⟨z, its, n, r, e⟩ := h.ok I.hok;exact ⟨its, r, ⟨_, n, e, rfl, rfl, rfl⟩, z⟩
 ·refine ⟨its.toList, r, ⟨o, n, I.kIn a o hk, hc, hd, by simpa using hs⟩, ?_⟩;have e := r.length;simp only [Array.length_toList] at e;omega
theorem Inv.tuple (I : Inv X pins σ H s) (h : SqT X.K H a xs) : ∃ its : List Value, Vals xs its /\ IsTup s.heap a its.toArray /\ xs.length <= sizeLine := by
 rcases h with h | ⟨o, its, n, hk, hc, hs, hz, r⟩
 ·obtain ⟨z, its, r, p⟩ := h.ok I.hok;exact ⟨its, r, p, z⟩
 ·refine ⟨its.toList, r, ⟨o, I.kIn a o hk, hc, n, by simpa using hs⟩, ?_⟩;have e := r.length;simp only [Array.length_toList] at e;omega
theorem Inv.list_inj (I : Inv X pins σ H s) (h : SqL X.K H a xs) (h' : SqL X.K H a ys) : xs = ys := by
 obtain ⟨its, r, ⟨o, n, e, _, _, d⟩, _⟩ := I.list h;obtain ⟨its', r', ⟨o', n', e', _, _, d'⟩, _⟩ := I.list h';rw [e] at e'; cases e';rw [d] at d'
 injection d' with d1 _
 have : its = its' := by simpa using congrArg Array.toList d1
 subst this;exact r.inj r'
theorem Inv.tuple_inj (I : Inv X pins σ H s) (h : SqT X.K H a xs) (h' : SqT X.K H a ys) : xs = ys := by
 obtain ⟨its, r, ⟨o, e, _, n, d⟩, _⟩ := I.tuple h;obtain ⟨its', r', ⟨o', e', _, n', d'⟩, _⟩ := I.tuple h';rw [e] at e'; cases e';rw [d] at d'
 injection d' with d1 _
 have : its = its' := by simpa using congrArg Array.toList d1
 subst this;exact r.inj r'
end
abbrev Cx.wish (X : Cx) (E : Value -> Shared -> Prop) : Cx := { X with xe := E }
abbrev Cx.nox (X : Cx) : Cx := X.wish fun _ _ => False
theorem Cx.Ok.wish {X : Cx} (ok : X.Ok) (E : Value -> Shared -> Prop) : (X.wish E).Ok :=
 ⟨ok.mod, ok.kind, ok.glob, ok.blt, ok.above, ok.inj, ok.has, ok.cab, ok.hd, ok.frames, ok.stk, ok.exf, ok.bs, ok.bsz, ok.noex, ok.exfs, ok.funs, ok.frf⟩
theorem Cx.Ok.unwish {X : Cx} {E : Value -> Shared -> Prop} (ok : (X.wish E).Ok) : X.Ok :=
 ⟨ok.mod, ok.kind, ok.glob, ok.blt, ok.above, ok.inj, ok.has, ok.cab, ok.hd, ok.frames, ok.stk, ok.exf, ok.bs, ok.bsz, ok.noex, ok.exfs, ok.funs, ok.frf⟩
section
variable {X : Cx} {pins : Pnx} {σ : St} {H : Hp} {s : Shared} {E : Value -> Shared -> Prop}
theorem Inv.wish (I : Inv X pins σ H s) (E : Value -> Shared -> Prop) : Inv (X.wish E) pins σ H s := ⟨I.ok.wish E, I.os, I.bare, I.base, I.loc, I.cell, I.free, I.freeC, I.pin, I.hok, I.len⟩
theorem Inv.unwish (I : Inv (X.wish E) pins σ H s) : Inv X pins σ H s := ⟨I.ok.unwish, I.os, I.bare, I.base, I.loc, I.cell, I.free, I.freeC, I.pin, I.hok, I.len⟩
theorem SP.unwish {D : Ends} {f : Flow} {s' : Shared} (h : SP (X.wish E) pins D f s') : SP X pins D f s' := by
 cases f with
 | next => obtain ⟨σ', H', I, q⟩ := h; exact ⟨σ', H', I.unwish, q⟩
 | brk => obtain ⟨σ', H', I, q⟩ := h; exact ⟨σ', H', I.unwish, q⟩
 | cont => obtain ⟨σ', H', I, q⟩ := h; exact ⟨σ', H', I.unwish, q⟩
 | ret u => obtain ⟨v, σ', H', I, r, q⟩ := h; exact ⟨v, σ', H', I.unwish, r, q⟩
theorem PSs.nox {st : List Stmt} {t : TS} (h : PSs X.nox st t) : PSs X st t := fun pins s σ H D I hw =>
 wpAny_mono (h pins s σ H D (I.wish _) hw) (fun _ _ q => q.unwish) fun _ _ z => False.elim z
end
section
variable {X : Cx} {st : Stmt} {rest : List Stmt} {t u : TS} {e : Expr} {te : TE} {pos : Pos}
def ztQ : TS := fun D σ H => D.nx σ H
def tSeq (t u : TS) : TS := fun D σ H => t { D with nx := u D } σ H
theorem zit : PSs X [] ztQ := fun _ _ σ H _ I h => wpAny_execs_nil ⟨σ, H, I, h⟩
theorem zeC (h1 : PS X st t) (h2 : PSs X rest u) : PSs X (st :: rest) (tSeq t u) := by
  intro pins s σ H D I h;refine wpAny_execs_cons (thn (h1 pins s σ H { D with nx := u D } I h) fun f s1 q => ?_)
  cases f with
  | next =>
    obtain ⟨σ', H', I', q⟩ := q;exact h2 pins s1 σ' H' D I' q
  | ret v => exact q
  | brk => exact q
  | cont => exact q
theorem zoD (h1 : PS X st t) : PSs X [st] t := by
 intro pins s σ H D I h;refine wpAny_execs_cons (thn (h1 pins s σ H D I h) fun f s1 q => ?_)
 cases f with
 | next => exact wpAny_execs_nil q
 | ret v => exact q
 | brk => exact q
 | cont => exact q
theorem Inv.quiet {pins : Pnx} {σ : St} {H : Hp} {s : Shared} (I : Inv X pins σ H s) : interactive X.env = false := by simp [interactive, I.ok.kind]
def ztD (te : TE) : TS := fun D σ H => te σ H fun _ H1 => D.nx σ H1
theorem ze5 (he : PE X e te) (hs : swapsWith e none pos.line X.env = pure false := by rfl) : PS X (.Expr e pos) (ztD te) := by
 intro pins s σ H D I h;exact wpAny_Expr_any (thn (he pins s σ H _ I h) fun v s1 ⟨x, H1, I1, r1, q1⟩ => ⟨σ, H1, I1, q1⟩) I.quiet hs
def tRet (te : TE) : TS := fun D σ H => te σ H D.rt
theorem zrN (he : PE X e te) : PS X (.Return (some e) pos) (tRet te) := by
 intro pins s σ H D I h;exact wpAny_Return_some (thn (he pins s σ H _ I h) fun v s1 ⟨x, H1, I1, r1, q1⟩ => ⟨x, σ, H1, I1, r1, q1⟩)
def tIfS (c : TT) (t u : TS) : TS := fun D σ H => c σ H fun b H1 => if b = true then t D σ H1 else u D σ H1
theorem ztO {c : Expr} {a b : List Stmt} {tc : TT} (hc : PT X c tc) (ha : PSs X a t) (hb : PSs X b u) : PS X (.If c a b pos) (tIfS tc t u) := by
 intro pins s σ H D I h;refine wpAny_If (thn (hc pins s σ H _ I h) fun d s1 ⟨H1, I1, q1⟩ => ?_)
 cases d with
 | true => exact ha pins s1 σ H1 D I1 q1
 | false => exact hb pins s1 σ H1 D I1 q1
end
abbrev TG := V -> St -> Hp -> (St -> Hp -> Prop) -> Prop
abbrev TGs := List V -> St -> Hp -> (St -> Hp -> Prop) -> Prop
def PG (X : Cx) (target : Expr) (t : TG) : Prop :=
 ∀ (pins : Pnx) (s : Shared) (σ : St) (H : Hp) (v : V) (u : Value) (Q : St -> Hp -> Prop), Inv X pins σ H s -> RelV v u -> t v σ H Q ->
  wpAny (model X.prog X.w) X.A (assign target X.env u) (fun _ s' => ∃ σ' H', Inv X pins σ' H' s' /\ Q σ' H') X.xe s
def PGs (X : Cx) (ts : List Expr) (t : TGs) : Prop :=
 ∀ (pins : Pnx) (s : Shared) (σ : St) (H : Hp) (vs : List V) (us : List Value) (Q : St -> Hp -> Prop), Inv X pins σ H s -> Vals vs us -> t vs σ H Q ->
  wpAny (model X.prog X.w) X.A (assignInOrder ((assignEach ts X.env).map (·.2)) us) (fun _ s' => ∃ σ' H', Inv X pins σ' H' s' /\ Q σ' H') X.xe s
section
variable {X : Cx} {pos : Pos}
def zoA (i : Nat) : TG := fun v σ H Q => Q (σ.set i (some v)) H
theorem zkE {i : Nat} {x : Str} (hN : X.N.Nodup) (hi : X.N[i]? = some x) (hx : Loc X.env.scope x) (hf : X.fn x = true \/ X.env.scope.names.lookup x = some .local := by first | exact .inl rfl | exact .inr rfl | assumption) : PG X (.Name x pos) (zoA i) := by
 intro pins s σ H v u Q I r h;exact wpAny_assign_Name (zd1 I hN hi hx r (fun s' I' => ⟨_, H, I', h⟩) hf)
def gNil : TGs := fun vs σ H Q => vs = [] /\ Q σ H
def zsE (t : TG) (u : TGs) : TGs := fun vs σ H Q => ∃ v r, vs = v :: r /\ t v σ H fun σ' H' => u r σ' H' Q
theorem zoG : PGs X [] gNil := by
 intro pins s σ H vs us Q I r h;obtain ⟨e, h⟩ := h;subst e;cases r;exact assignInOrder_nil ⟨σ, H, I, h⟩
theorem zmo {e : Expr} {es : List Expr} {t : TG} {u : TGs} (h1 : PG X e t) (h2 : PGs X es u)
    (hs : (assignEach (e :: es) X.env).map (·.2) = assign e X.env :: (assignEach es X.env).map (·.2) := by rfl) : PGs X (e :: es) (zsE t u) := by
  intro pins s σ H vs us Q I r h;obtain ⟨v, vr, e1, h⟩ := h;subst e1
  cases r with
  | cons r rr =>
    rw [hs];refine assignInOrder_cons (thn (h1 pins s σ H _ _ _ I r h) fun _ s1 ⟨σ1, H1, I1, q1⟩ => ?_);exact h2 pins s1 σ1 H1 _ _ Q I1 rr q1
def gTup (K : Fgx) (n : Nat) (t : TGs) : TG := fun v σ H Q => ∃ a xs, v = .ref a /\ SqT K H a xs /\ xs.length = n /\ t xs σ H Q
theorem zqk {es : List Expr} {k : Nat} {t : TGs} {n : Nat} (hc : X.calm = true) (h : PGs X es t)
  (hn : (assignEach es X.env).length = n := by rfl) (hst : (assignEach es X.env).findIdx? (·.1) = none := by rfl) : PG X (.Tuple es k pos) (gTup X.K n t) := by
 intro pins s σ H v u Q I r hw;obtain ⟨a, xs, e1, hq, hl, hw⟩ := hw;subst e1;cases r;obtain ⟨its, rv, ht, hz⟩ := I.tuple hq;refine assign_Tuple_tuple (I.ok.hd hc) ht (by simp [hn, <- hl, rv.length]) hst fun h' hx => ?_;have I1 : Inv X pins σ H { s with heap := h' } := I.kept (t' := s.toks) fun b o e => hx b o (Nat.ne_of_lt (Heap.lt_size e)) e;exact h pins _ σ H xs _ Q I1 (by simpa using rv) hw
def tAsg (te : TE) (g : TG) : TS := fun D σ H => te σ H fun x H1 => g x σ H1 D.nx
theorem zls {i : Nat} {x : Str} {e : Expr} {te : TE} {pos' : Pos} (hN : X.N.Nodup) (hi : X.N[i]? = some x) (hx : Loc X.env.scope x) (he : PE X e te) (hs : swapsWith e (some (.Name x pos')) pos.line X.env = pure false := by rfl) (hf : X.fn x = true \/ X.env.scope.names.lookup x = some .local := by first | exact .inl rfl | exact .inr rfl | assumption) :
  PS X (.Assign [.Name x pos'] e pos) (tAsg te (zoA i)) := by
 intro pins s σ H D I h;refine wpAny_Assign_Name (thn (he pins s σ H _ I h) fun v s1 ⟨y, H1, I1, r1, q1⟩ => ?_) hs;exact zd1 I1 hN hi hx r1 (fun s2 I2 => ⟨_, H1, I2, q1⟩) hf
end
structure It where
 go : Nat -> Hp -> Prop
 yld : Nat -> Hp -> V -> Hp -> Prop
 stop : Nat -> Hp -> Prop
def FpOk (X : Cx) (pins : Pnx) (H : Hp) (b : Addr) : Prop :=
 H b = none /\ b ≠ X.env.locals /\ b ∉ X.fs /\ (b ∈ X.ex \/ X.s₀.heap.objs.size <= b) /\ (∀ x c, X.env.cells.lookup x = some c -> c ≠ b) /\ ∀ p ∈ X.pn ++ pins, p.1 ≠ b
theorem Inv.fpOk {X : Cx} {pins : Pnx} {σ : St} {H H' : Hp} {s : Shared} {b : Addr} (I : Inv X pins σ H s) (hb : s.heap.objs.size <= b) (hn : H' b = none) : FpOk X pins H' b := by
 refine ⟨hn, Nat.ne_of_gt (Nat.lt_of_lt_of_le I.lt hb), I.nofs hb, .inr (Nat.le_trans I.sz hb), fun x c e z => ?_, fun p hp z => ?_⟩
 ·obtain ⟨v, q⟩ := I.cell x c e;exact absurd (Nat.lt_of_lt_of_le q.lt (by rw [z]; exact hb)) (Nat.lt_irrefl _)
 ·exact absurd (Nat.lt_of_lt_of_le (Heap.lt_size (I.pin p hp).1) (by rw [z]; exact hb)) (Nat.lt_irrefl _)
structure Turn (P : Program) (w : World) (K : Fgx) (tg : Expr) (J : It) (fp : List Addr) (it : Addr) (tn : Nat -> Heap -> Prop) : Prop where
 mem : it ∈ fp
 obj : ∀ i h, tn i h -> ∀ b ∈ fp, ∃ o, h.get? b = some o /\ ∀ v, o.data ≠ .cell v
 keep : ∀ i h h', tn i h -> (∀ b ∈ fp, ∀ o, h.get? b = some o -> h'.get? b = some o) -> tn i h'
 item : ∀ (X : Cx), X.prog = P -> X.w = w -> X.K = K -> X.calm = true -> ∀ (i : Nat) (pins : Pnx) (s : Shared) (σ : St) (H : Hp) (E : Value -> Shared -> Prop), Inv X pins σ H s -> (∀ b ∈ fp, FpOk X pins H b) -> tn i s.heap -> J.go i H ->
  wpAny (model P w) X.A (pyNext (.ref it)) (fun r s1 => ∃ u, r = some u /\
   wpAny (model P w) X.A (letOwnedTupleGo tg (.ref it) u) (fun _ s2 => ∃ x H', Inv X pins σ H' s2 /\ RelV x u /\ J.yld i H x H' /\ tn (i + 1) s2.heap /\ ∀ b ∈ fp, H' b = none) E s1) E s
 done : ∀ (X : Cx), X.prog = P -> X.w = w -> X.K = K -> X.calm = true -> ∀ (i : Nat) (pins : Pnx) (s : Shared) (σ : St) (H : Hp) (E : Value -> Shared -> Prop), Inv X pins σ H s -> (∀ b ∈ fp, FpOk X pins H b) -> tn i s.heap -> J.stop i H ->
  wpAny (model P w) X.A (pyNext (.ref it)) (fun r s1 => r = none /\ Inv X pins σ H s1) E s
 self : ∀ (A : Around) (i : Nat) (s : Shared) (Q : Value -> Shared -> Prop) (E : Value -> Shared -> Prop), tn i s.heap -> Q (.ref it) s -> wpAny (model P w) A (pyIter (.ref it)) Q E s
abbrev TI := St -> Hp -> (It -> Hp -> Prop) -> Prop
def PIE (X : Cx) (pins : Pnx) (σ : St) (tg : Expr) (R : It -> Hp -> Prop) (itv : Value) (s2 : Shared) : Prop :=
 ∃ (it : Addr) (fp : List Addr) (tn : Nat -> Heap -> Prop) (J : It) (H' : Hp), itv = .ref it /\ Inv X pins σ H' s2 /\ Turn X.prog X.w X.K tg J fp it tn /\ tn 0 s2.heap /\ (∀ b ∈ fp, FpOk X pins H' b) /\ R J H'
def PI (X : Cx) (tg iter : Expr) (wi : TI) : Prop :=
 ∀ (pins : Pnx) (s : Shared) (σ : St) (H : Hp) (R : It -> Hp -> Prop), Inv X pins σ H s -> wi σ H R ->
  wpAny (model X.prog X.w) X.A (eval iter X.env) (fun v s1 => wpAny (model X.prog X.w) X.A (pyIter v) (PIE X pins σ tg R) X.xe s1) X.xe s
theorem ziM {M : Model} {A : Around} {E : Value -> Shared -> Prop} {s : Shared} {tg : Expr} {it : Addr} {u : Value} {o : Obj} {n : String} {vs : Array Value} {Q : Unit -> Shared -> Prop} (ho : s.heap.get? it = some o) (hc : o.cls = .type n) (hd : o.data = .fields vs)
    (hn : ["enumerate", "zip", "dict_itemiterator", "dict_reverseitemiterator", "odict_iterator", "itertools.zip_longest", "itertools.pairwise"].contains n = false) (hQ : Q () s) : wpAny M A (letOwnedTupleGo tg (.ref it) u) Q E s := by
  unfold letOwnedTupleGo;cases tg <;> first
    | exact wpAny_pure hQ
    | (cases u <;> first
        | exact wpAny_pure hQ
        | (refine wpAny_bind (wpAny_load ho ?_)
           rw [hc, hd];show wpAny M A (if (["enumerate", "zip", "dict_itemiterator", "dict_reverseitemiterator", "odict_iterator", "itertools.zip_longest", "itertools.pairwise"].contains n && vs[0]? == some (rawInt _)) = true then _ else _) Q E s
           rw [if_neg (by intro h; rw [hn, Bool.false_and] at h; cases h)];exact wpAny_pure hQ))
def Itl (K : Fgx) (a : Addr) : It :=
 ⟨fun i H => ∃ xs x, SqL K H a xs /\ xs[i]? = some x, fun i H x H' => H' = H /\ ∀ xs, SqL K H a xs -> xs[i]? = some x, fun i H => ∃ xs, SqL K H a xs /\ xs.length <= i⟩
def Itt (K : Fgx) (a : Addr) : It :=
 ⟨fun i H => ∃ xs x, SqT K H a xs /\ xs[i]? = some x, fun i H x H' => H' = H /\ ∀ xs, SqT K H a xs -> xs[i]? = some x, fun i H => ∃ xs, SqT K H a xs /\ xs.length <= i⟩
def Itr (lo : Int) (n : Nat) : It := ⟨fun i _ => i < n, fun i H x H' => H' = H /\ x = .int (lo + i), fun i _ => n <= i⟩
theorem zkV {P : Program} {w : World} {K : Fgx} {tg : Expr} (a it : Addr) : Turn P w K tg (Itl K a) [it] it (fun i h => h.IsListIter it a i) where
 mem := by simp
 obj := fun i h st b hb => by
  have e : b = it := by simpa using hb
  subst e;obtain ⟨o, e, c, d⟩ := st;exact ⟨o, e, fun v z => by rw [d] at z; cases z⟩
 keep := fun i h h' st k => st.at fun o e => k it (by simp) o e
 item := by
  intro X hP hw hK hc i pins s σ H E I hf st hg;subst hP hw hK;obtain ⟨xs, x, hq, hx⟩ := hg;obtain ⟨its, rv, p, hz⟩ := I.list hq;obtain ⟨u, hu, ru⟩ := rv.get hx;obtain ⟨f0, f1, f2, f3, f4, f5⟩ := hf it (by simp);refine wpAny_pyNext_list_item st p.isList (x := u) (by simpa using hu) fun h' st' sb => ?_;have I1 : Inv X pins σ H { s with heap := h' } := I.turned (t' := s.toks) (fun b o hb e => (sb.2 b hb).trans e) f0 f1 f3 f4 f5;obtain ⟨o, e, c, d⟩ := id st';exact ⟨u, rfl, ziM (s := { s with heap := h' }) e c d (by decide) ⟨x, H, I1, ru, ⟨rfl, fun ys hy => by rw [I.list_inj hy hq]; exact hx⟩, st', fun b hb => (hf b hb).1⟩⟩
 done := by
  intro X hP hw hK hc i pins s σ H E I hf st hg;subst hP hw hK;obtain ⟨xs, hq, hx⟩ := hg;obtain ⟨its, rv, p, hz⟩ := I.list hq;obtain ⟨f0, f1, f2, f3, f4, f5⟩ := hf it (by simp);have hl := rv.length;exact wpAny_pyNext_list_end (I.ok.hd hc) st p.isList (by simp; omega) fun h' eb => ⟨rfl, I.turned (t' := s.toks) (fun b o hb e => eb b o hb e) f0 f1 f3 f4 f5⟩
 self := fun _ _ _ _ _ st h => wpAny_pyIter_listiter st h
theorem zjK {P : Program} {w : World} {K : Fgx} {tg : Expr} (a it : Addr) : Turn P w K tg (Itt K a) [it] it (fun i h => h.IsTupleIter it a i) where
 mem := by simp
 obj := fun i h st b hb => by
  have e : b = it := by simpa using hb
  subst e;obtain ⟨o, e, c, d⟩ := st;exact ⟨o, e, fun v z => by rw [d] at z; cases z⟩
 keep := fun i h h' st k => st.at fun o e => k it (by simp) o e
 item := by
  intro X hP hw hK hc i pins s σ H E I hf st hg;subst hP hw hK;obtain ⟨xs, x, hq, hx⟩ := hg;obtain ⟨its, rv, p, hz⟩ := I.tuple hq;obtain ⟨u, hu, ru⟩ := rv.get hx;obtain ⟨f0, f1, f2, f3, f4, f5⟩ := hf it (by simp);refine wpAny_pyNext_tuple_item st (show s.heap.IsTuple a its.toArray from p) (x := u) (by simpa using hu) fun h' st' sb => ?_;have I1 : Inv X pins σ H { s with heap := h' } := I.turned (t' := s.toks) (fun b o hb e => (sb.2 b hb).trans e) f0 f1 f3 f4 f5;obtain ⟨o, e, c, d⟩ := id st';exact ⟨u, rfl, ziM (s := { s with heap := h' }) e c d (by decide) ⟨x, H, I1, ru, ⟨rfl, fun ys hy => by rw [I.tuple_inj hy hq]; exact hx⟩, st', fun b hb => (hf b hb).1⟩⟩
 done := by
  intro X hP hw hK hc i pins s σ H E I hf st hg;subst hP hw hK;obtain ⟨xs, hq, hx⟩ := hg;obtain ⟨its, rv, p, hz⟩ := I.tuple hq;obtain ⟨f0, f1, f2, f3, f4, f5⟩ := hf it (by simp);have hl := rv.length;exact wpAny_pyNext_tuple_end (I.ok.hd hc) st (show s.heap.IsTuple a its.toArray from p) (by simp; omega) fun h' eb => ⟨rfl, I.turned (t' := s.toks) (fun b o hb e => eb b o hb e) f0 f1 f3 f4 f5⟩
 self := fun _ _ _ _ _ st h => wpAny_pyIter_tupleiter st h
theorem zjF {P : Program} {w : World} {K : Fgx} {tg : Expr} (it : Addr) (lo : Int) (n : Nat) : Turn P w K tg (Itr lo n) [it] it (fun i h => IsRangeIter h it (lo + (i : Nat) * 1) ((n : Int) - (i : Nat)) 1) where
 mem := by simp
 obj := fun i h st b hb => by
  have e : b = it := by simpa using hb
  subst e;exact ⟨_, st, fun v z => by
   have z' : Data.fields _ = Data.cell v := z;cases z'⟩
 keep := fun i h h' st k => k it (by simp) _ st
 item := by
  intro X hP hw hK hc i pins s σ H E I hf st hg;subst hP hw hK;obtain ⟨f0, f1, f2, f3, f4, f5⟩ := hf it (by simp);have W := Walks.range (prog := X.prog) (w := X.w) (I.ok.hd hc) it lo 1 n;refine W.item i s _ _ hg st fun v h' tk hv st' kk => ?_;obtain ⟨t, rfl⟩ := hv;have I1 : Inv X pins σ H { s with heap := h', toks := tk } := I.turned (fun b o hb e => kk b o (by simpa using hb) e) f0 f1 f3 f4 f5;refine ⟨_, rfl, ziM (s := { s with heap := h', toks := tk }) (n := "range_iterator") st' rfl rfl (by decide) ⟨.int (lo + i), H, I1, ⟨t, ?_⟩, ⟨rfl, rfl⟩, st', fun b hb => (hf b hb).1⟩⟩;rw [Int.mul_one]
 done := by
  intro X hP hw hK hc i pins s σ H E I hf st hg;subst hP hw hK;obtain ⟨f0, f1, f2, f3, f4, f5⟩ := hf it (by simp);exact wpAny_pyNext_range_end (I.ok.hd hc) st (by have : n <= i := hg; omega) fun h' eb => ⟨rfl, I.turned (t' := s.toks) (fun b o hb e => eb b o hb e) f0 f1 f3 f4 f5⟩
 self := fun _ _ _ _ _ st h => wpAny_pyIter_rangeiter st h
section
variable {X : Cx} {tg : Expr}
def ztc (K : Fgx) (tl : TE) : TI := fun σ H R => tl σ H fun x H1 => ∃ a, x = .ref a /\ (∃ xs, SqL K H1 a xs) /\ R (Itl K a) H1
def iTup (K : Fgx) (tl : TE) : TI := fun σ H R => tl σ H fun x H1 => ∃ a, x = .ref a /\ (∃ xs, SqT K H1 a xs) /\ R (Itt K a) H1
theorem znP {l : Expr} {tl : TE} (hl : PE X l tl) : PI X tg l (ztc X.K tl) := by
 intro pins s σ H R I h;refine thn (hl pins s σ H _ I h) fun v s1 ⟨x, H1, I1, r1, q1⟩ => ?_;obtain ⟨a, e, ⟨xs, hq⟩, q⟩ := q1;subst e;cases r1;obtain ⟨its, rv, p, hz⟩ := I1.list hq;refine wpAny_pyIter_list p.isList ?_;refine ⟨s1.heap.objs.size, [s1.heap.objs.size], _, _, H1, rfl, I1.kept (t' := s1.toks) fun b o e => Heap.get?_push_of_some _ e, zkV a _, ⟨_, Heap.get?_push_size _ rfl, rfl, rfl⟩, fun b hb => ?_, q⟩;have e : b = s1.heap.objs.size := by simpa using hb
 subst e;exact I1.fpOk (Nat.le_refl _) (I1.hok.fresh (Nat.le_refl _))
theorem zqh {l : Expr} {tl : TE} (hl : PE X l tl) : PI X tg l (iTup X.K tl) := by
 intro pins s σ H R I h;refine thn (hl pins s σ H _ I h) fun v s1 ⟨x, H1, I1, r1, q1⟩ => ?_;obtain ⟨a, e, ⟨xs, hq⟩, q⟩ := q1;subst e;cases r1;obtain ⟨its, rv, p, hz⟩ := I1.tuple hq;refine wpAny_pyIter_tuple (show s1.heap.IsTuple a its.toArray from p) ?_;refine ⟨s1.heap.objs.size, [s1.heap.objs.size], _, _, H1, rfl, I1.kept (t' := s1.toks) fun b o e => Heap.get?_push_of_some _ e, zjK a _, ⟨_, Heap.get?_push_size _ rfl, rfl, rfl⟩, fun b hb => ?_, q⟩;have e : b = s1.heap.objs.size := by simpa using hb
 subst e;exact I1.fpOk (Nat.le_refl _) (I1.hok.fresh (Nat.le_refl _))
theorem zlW {pins : Pnx} {σ : St} {H : Hp} {s : Shared} {R : It -> Hp -> Prop} {E : Value -> Shared -> Prop} {lo hi : Int} {t u v : Tok} {tk : Nat} (I : Inv X pins σ H s) (h1 : -(2 ^ 62) <= lo) (h2 : lo < 2 ^ 62) (h3 : -(2 ^ 62) <= hi) (h4 : hi < 2 ^ 62)
  (q : R (Itr lo (hi - lo).toNat) H) : wpAny (model X.prog X.w) X.A (pyIter (.ref s.heap.objs.size)) (PIE X pins σ tg R) E { s with heap := s.heap.push { cls := .type "range", data := .fields #[.int lo t, .int hi u, .int 1 v] }, toks := tk } := by
 refine wpAny_pyIter_range (IsRange.new ..) (small_one h1 h2 h3 h4) ?_;have I1 : Inv X pins σ H { s with heap := s.heap.push { cls := .type "range", data := .fields #[.int lo t, .int hi u, .int 1 v] }, toks := tk } := I.kept fun b o e => Heap.get?_push_of_some _ e;refine ⟨(s.heap.push { cls := .type "range", data := .fields #[.int lo t, .int hi u, .int 1 v] }).objs.size, [(s.heap.push { cls := .type "range", data := .fields #[.int lo t, .int hi u, .int 1 v] }).objs.size], _, _, H, rfl,
  I1.kept (t' := tk) fun b o e => Heap.get?_push_of_some _ e, zjF _ lo (hi - lo).toNat, ?_, fun b hb => ?_, q⟩
 ·have e1 : lo + ((0 : Nat) : Int) * 1 = lo := by simp
  have e2 : (((hi - lo).toNat : Nat) : Int) - ((0 : Nat) : Int) = Builtin.Range.rangeSize lo hi 1 := by rw [rangeSize_one]; split <;> omega
  show IsRangeIter _ _ (lo + ((0 : Nat) : Int) * 1) ((((hi - lo).toNat : Nat) : Int) - ((0 : Nat) : Int)) 1;rw [e1, e2];exact Heap.get?_push_size _ rfl
 ·have e : b = (s.heap.push { cls := .type "range", data := .fields #[.int lo t, .int hi u, .int 1 v] }).objs.size := by simpa using hb
  subst e;exact I1.fpOk (Nat.le_refl _) (I1.hok.fresh (Nat.le_refl _))
def zhk (ta : TA) : TI := fun σ H R => ta σ H fun vs H1 => ∃ j : Int, vs = [.int j] /\ -(2 ^ 62) <= j /\ j < 2 ^ 62 /\ R (Itr 0 j.toNat) H1
theorem zkb {a : Expr} {ta : TA} {p pos : Pos} (hg : Gl X "range") (hm : X.mg "range" = none) (ha : PA X [a] ta) (hs : starEach [a] X.env = [(false, eval a X.env)] := by rfl) : PI X tg (.Call (.Name "range" p) [a] [] pos) (zhk ta) := by
  intro pins s σ H R I h;refine Call_ (zig I hg hm boot_range (PyProof.Rows.callWith_type1 (thn (ha pos pins s σ H _ I h) fun us s1 ⟨vs, H1, I1, r1, q1⟩ => ?_) hs rfl));obtain ⟨j, e, q1, q2, q⟩ := q1;subst e
  cases r1 with
  | cons r rr =>
    cases rr;obtain ⟨t, rfl⟩ := r;exact call_range_1 (zlW I1 (by omega) (by omega) q1 q2 (by simpa using q))
def tFor (wi : TI) (g : TG) (tb : TS) : TS := fun D σ H => wi σ H fun J H1 => ∃ W : Nat -> Nat -> St -> Hp -> Prop, (∃ m, W 0 m σ H1) /\ ∀ i m σ H, W i m σ H ->
 (J.stop i H /\ D.nx σ H) \/ (J.go i H /\ ∃ N : St -> Hp -> Prop, (∀ σ' H', N σ' H' -> ∃ m', m' < m /\ W (i + 1) m' σ' H') /\ ∀ x H', J.yld i H x H' -> g x σ H' fun σ2 H2 => tb { D with nx := N, ct := N, bk := D.nx } σ2 H2)
def zhB (fp : List Addr) (h : Heap) : Pnx := fp.filterMap fun b => (h.get? b).map fun o => (b, o)
theorem zd0 {fp : List Addr} {h : Heap} {b : Addr} {o : Obj} (hb : b ∈ fp) (e : h.get? b = some o) : (b, o) ∈ zhB fp h := List.mem_filterMap.mpr ⟨b, hb, by rw [e]; rfl⟩
theorem zlz {fp : List Addr} {h : Heap} {p : Addr × Obj} (hp : p ∈ zhB fp h) : p.1 ∈ fp /\ h.get? p.1 = some p.2 := by
  obtain ⟨b, hb, e⟩ := List.mem_filterMap.mp hp
  cases q : h.get? b with
  | none => rw [q] at e; cases e
  | some o =>
    rw [q] at e;have e' : (b, o) = p := Option.some.inj e;subst e';exact ⟨hb, q⟩
theorem Inv.pinned {pins : Pnx} {σ : St} {H : Hp} {s : Shared} {fp : List Addr} (I : Inv X pins σ H s) (hf : ∀ b ∈ fp, FpOk X pins H b) (ho : ∀ b ∈ fp, ∃ o, s.heap.get? b = some o /\ ∀ v, o.data ≠ .cell v) : Inv X (pins ++ zhB fp s.heap) σ H s :=
 I.pins_of fun p hp => (List.mem_append.mp hp).elim (fun z => I.pin p (List.mem_append_right _ z)) fun z => by
  obtain ⟨hb, e⟩ := zlz z;obtain ⟨f0, f1, f2, _⟩ := hf p.1 hb;obtain ⟨o, e', d⟩ := ho p.1 hb;rw [e] at e'; cases e';exact ⟨e, f0, f1, f2, d⟩
theorem Inv.unpinned {pins pl : Pnx} {σ : St} {H : Hp} {s : Shared} (I : Inv X (pins ++ pl) σ H s) : Inv X pins σ H s := I.pins_of fun p hp => I.pin p (List.mem_append_right _ (List.mem_append_left _ hp))
theorem znm {iter : Expr} {body : List Stmt} {wi : TI} {g : TG} {tb : TS} {pos : Pos} (hp : PassesOwn (model X.prog X.w) X.A X.env X.xe) (hc : X.calm = true) (hi : PI X tg iter wi) (hg : PG X tg g) (hb : PSs X body tb)
  (hs : ∀ x, foldedSetIterable iter X.env x = pure x := by intro _; rfl) : PS X (.For tg iter body [] pos) (tFor wi g tb) := by
 intro pins s σ H D I h;refine wpAny_For (thn (hi pins s σ H _ I h) fun v s1 h1 => thn h1 fun itv s2 h2 => ?_) hs;obtain ⟨it, fp, tn, J, H2, e, I2, T, st2, f2, W, ⟨m0, w0⟩, turn⟩ := h2;subst e
 -- what stays true of the iterator's objects through the loop
 have stat : ∀ {H' : Hp}, (∀ b ∈ fp, H' b = none) -> ∀ b ∈ fp, FpOk X pins H' b := fun hn b hb => ⟨hn b hb, (f2 b hb).2⟩;refine codeAny_forLoop_any (fun n s' => ∃ i σ' H', Inv X pins σ' H' s' /\ tn i s'.heap /\ (∀ b ∈ fp, H' b = none) /\ W i n σ' H') ?_ m0 ⟨0, σ, H2, I2, st2, fun b hb => (f2 b hb).1, w0⟩;rintro n s3 ⟨i, σ3, H3, I3, st3, fr3, w3⟩;rcases turn i n σ3 H3 w3 with ⟨stop, qn⟩ | ⟨go, N, hN, step⟩
 ·refine wpAny_passesOwn hp (thn (T.done X rfl rfl rfl hc i pins s3 σ3 H3 X.xe I3 (stat fr3) st3 stop) fun r s4 ⟨hr, I4⟩ => ?_);subst hr;exact wpAny_execs_nil ⟨σ3, H3, I4, qn⟩
 ·refine wpAny_passesOwn hp (thn (T.item X rfl rfl rfl hc i pins s3 σ3 H3 X.xe I3 (stat fr3) st3 go) fun r s4 ⟨u, hr, h4⟩ => ?_);subst hr;refine wpAny_passesOwn hp (thn h4 fun _ s5 ⟨x, H5, I5, r5, y5, st5, fr5⟩ => ?_);have I5' := I5.pinned (stat fr5) (T.obj _ _ st5);refine wpAny_passesOwn hp (thn (hg _ s5 σ3 H5 x u _ I5' r5 (step x H5 y5)) fun _ s6 ⟨σ6, H6, I6, q6⟩ => ?_);refine wpAny_passesOwn hp (thn (hb _ s6 σ6 H6 _ I6 q6) fun f s7 q7 => ?_);have again : ∀ {σ7 : St} {H7 : Hp}, Inv X (pins ++ zhB fp s5.heap) σ7 H7 s7 -> N σ7 H7 -> ∃ m, m < n /\ ∃ i σ' H', Inv X pins σ' H' s7 /\ tn i s7.heap /\ (∀ b ∈ fp, H' b = none) /\ W i m σ' H' := fun {σ7 H7} I7 n7 => by
   obtain ⟨m', hm, w7⟩ := hN σ7 H7 n7;refine ⟨m', hm, i + 1, σ7, H7, I7.unpinned, T.keep _ _ _ st5 fun b hb o e => (I7.pin (b, o) (List.mem_append_right _ (List.mem_append_right _ (zd0 hb e)))).1, fun b hb => ?_, w7⟩;obtain ⟨o, e, d⟩ := T.obj _ _ st5 b hb;exact (I7.pin (b, o) (List.mem_append_right _ (List.mem_append_right _ (zd0 hb e)))).2.1
  cases f with
  | next => obtain ⟨σ7, H7, I7, n7⟩ := q7; exact again I7 n7
  | cont => obtain ⟨σ7, H7, I7, n7⟩ := q7; exact again I7 n7
  | brk => obtain ⟨σ7, H7, I7, q7⟩ := q7; exact ⟨σ7, H7, I7.unpinned, q7⟩
  | ret v => obtain ⟨x7, σ7, H7, I7, r7, q7⟩ := q7; exact ⟨x7, σ7, H7, I7.unpinned, r7, q7⟩
end
abbrev R2 := V -> V -> Hp -> VK -> Prop
def OpR (X : Cx) (f : Value -> Value -> Sem Value) (r : R2) : Prop :=
 ∀ (pins : Pnx) (s : Shared) (σ : St) (H : Hp) (x y : V) (v u : Value) (Q : VK), Inv X pins σ H s -> RelV x v -> RelV y u -> r x y H Q ->
  wpAny (model X.prog X.w) X.A (f v u) (EP X pins σ Q) X.xe s
def UnR (X : Cx) (f : Value -> Sem Value) (r : V -> Hp -> VK -> Prop) : Prop :=
 ∀ (pins : Pnx) (s : Shared) (σ : St) (H : Hp) (x : V) (v : Value) (Q : VK), Inv X pins σ H s -> RelV x v -> r x H Q ->
  wpAny (model X.prog X.w) X.A (f v) (EP X pins σ Q) X.xe s
def zdT (X : Cx) (f : Value) (r : List V -> Hp -> VK -> Prop) : Prop :=
 ∀ (pins : Pnx) (s : Shared) (σ : St) (H : Hp) (xs : List V) (us : List Value) (Q : VK), Inv X pins σ H s -> Vals xs us -> r xs H Q ->
  wpAny (model X.prog X.w) X.A (call f us) (EP X pins σ Q) X.xe s
def TruR (X : Cx) (r : V -> Hp -> (Bool -> Hp -> Prop) -> Prop) : Prop :=
 ∀ (pins : Pnx) (s : Shared) (σ : St) (H : Hp) (x : V) (v : Value) (Q : Bool -> Hp -> Prop), Inv X pins σ H s -> RelV x v -> r x H Q ->
  wpAny (model X.prog X.w) X.A (truthy v) (TP X pins σ Q) X.xe s
def tOp (r : R2) (ta tb : TE) : TE := fun σ H Q => ta σ H fun x H1 => tb σ H1 fun y H2 => r x y H2 Q
def tUn (r : V -> Hp -> VK -> Prop) (ta : TE) : TE := fun σ H Q => ta σ H fun x H1 => r x H1 Q
def rI (C : Int -> Int -> Prop) (g : Int -> Int -> V) : R2 := fun x y H Q => ∃ i j, x = .int i /\ y = .int j /\ C i j /\ Q (g i j) H
def rI0 (g : Int -> Int -> V) : R2 := fun x y H Q => ∃ i j, x = .int i /\ y = .int j /\ Q (g i j) H
def rU (g : Int -> V) : V -> Hp -> VK -> Prop := fun x H Q => ∃ i, x = .int i /\ Q (g i) H
section
variable {X : Cx} {a b c : Expr} {ta tb tc : TE} {pos : Pos}
theorem binT (ha : PE X a ta) (hb : PE X b tb) {pins : Pnx} {s : Shared} {σ : St} {H : Hp} {R : V -> V -> Hp -> Prop} (I : Inv X pins σ H s)
  (h : ta σ H fun x H1 => tb σ H1 fun y H2 => R x y H2) {Q : Value -> Shared -> Prop} {f : Value -> Value -> Sem Value}
  (hf : ∀ v u s2 x y H2, Inv X pins σ H2 s2 -> RelV x v -> RelV y u -> R x y H2 -> wpAny (model X.prog X.w) X.A (f v u) Q X.xe s2) :
  wpAny (model X.prog X.w) X.A (eval a X.env) (fun v s₁ => wpAny (model X.prog X.w) X.A (eval b X.env) (fun u s₂ => wpAny (model X.prog X.w) X.A (f v u) Q X.xe s₂) X.xe s₁) X.xe s := by
 refine thn (ha pins s σ H _ I h) fun v s1 ⟨x, H1, I1, r1, q1⟩ => ?_;refine thn (hb pins s1 σ H1 _ I1 q1) fun u s2 ⟨y, H2, I2, r2, q2⟩ => ?_;exact hf v u s2 x y H2 I2 r1 r2 q2
theorem zrK {op : Operator} {r : R2} (ho : OpR X (binaryOp op) r) (ha : PE X a ta) (hb : PE X b tb) : PE X (.BinOp a op b pos) (tOp r ta tb) := by
 intro pins s σ H Q I h;exact wpAny_BinOp (binT ha hb I h fun v u s2 x y H2 I2 rx ry q => ho pins s2 σ H2 x y v u Q I2 rx ry q)
theorem zta {op : UnaryOp} {r : V -> Hp -> VK -> Prop} (ho : UnR X (unaryOp op) r) (ha : PE X a ta) : PE X (.UnaryOp op a pos) (tUn r ta) := by
 intro pins s σ H Q I h;exact UnaryOp_ (thn (ha pins s σ H _ I h) fun v s1 ⟨x, H1, I1, r1, q1⟩ => ho pins s1 σ H1 x v Q I1 r1 q1)
theorem opI {f : Value -> Value -> Sem Value} {C : Int -> Int -> Prop} {g : Int -> Int -> Int}
  (rule : ∀ (i j : Int) (t u : Tok) (s : Shared) (Q : Value -> Shared -> Prop) (E : Value -> Shared -> Prop), C i j -> Q (.int (g i j) s.toks) { s with toks := s.toks + 1 } -> wpAny (model X.prog X.w) X.A (f (.int i t) (.int j u)) Q E s) :
  OpR X f (rI C fun i j => .int (g i j)) := by
 intro pins s σ H x y v u Q I rx ry h;obtain ⟨i, j, rfl, rfl, hc, q⟩ := h;obtain ⟨t, rfl⟩ := rx;obtain ⟨t', rfl⟩ := ry;exact rule i j t t' s _ _ hc ⟨.int (g i j), H, I.tok _, ⟨_, rfl⟩, q⟩
theorem opI0 {f : Value -> Value -> Sem Value} {g : Int -> Int -> Int}
  (rule : ∀ (i j : Int) (t u : Tok) (s : Shared) (Q : Value -> Shared -> Prop) (E : Value -> Shared -> Prop), Q (.int (g i j) s.toks) { s with toks := s.toks + 1 } -> wpAny (model X.prog X.w) X.A (f (.int i t) (.int j u)) Q E s) :
  OpR X f (rI0 fun i j => .int (g i j)) := by
 intro pins s σ H x y v u Q I rx ry h;obtain ⟨i, j, rfl, rfl, q⟩ := h;obtain ⟨t, rfl⟩ := rx;obtain ⟨t', rfl⟩ := ry;exact rule i j t t' s _ _ ⟨.int (g i j), H, I.tok _, ⟨_, rfl⟩, q⟩
theorem opB0 {f : Value -> Value -> Sem Value} {g : Int -> Int -> Bool}
  (rule : ∀ (i j : Int) (t u : Tok) (s : Shared) (Q : Value -> Shared -> Prop) (E : Value -> Shared -> Prop), Q (.bool (g i j)) s -> wpAny (model X.prog X.w) X.A (f (.int i t) (.int j u)) Q E s) :
  OpR X f (rI0 fun i j => .bl (g i j)) := by
 intro pins s σ H x y v u Q I rx ry h;obtain ⟨i, j, rfl, rfl, q⟩ := h;obtain ⟨t, rfl⟩ := rx;obtain ⟨t', rfl⟩ := ry;exact rule i j t t' s _ _ ⟨.bl (g i j), H, I, rfl, q⟩
def CDiv (i j : Int) : Prop := 0 < j /\ j < 1073741824
def CPow (i j : Int) : Prop := 0 <= j /\ j <= 1000000 /\ i.natAbs < 2 ^ 64
def CMul (i j : Int) : Prop := (-(2 ^ 64) < i /\ i < 2 ^ 64) \/ (-(2 ^ 64) < j /\ j < 2 ^ 64)
theorem CMul.ok {i j : Int} (h : CMul i j) : IntMulOk i j := by
 rcases h with ⟨h1, h2⟩ | ⟨h1, h2⟩
 ·exact .of_left (intBits_le_64 h1 h2)
 ·exact .of_right (intBits_le_64 h1 h2)
theorem zqT : OpR X (binaryOp .Add) (rI0 fun i j => .int (i + j)) := opI0 fun _ _ _ _ _ _ _ q => add_int q
theorem zgC : OpR X (binaryOp .Sub) (rI0 fun i j => .int (i - j)) := opI0 fun _ _ _ _ _ _ _ q => sub_int q
theorem zg1 : OpR X (binaryOp .FloorDiv) (rI CDiv fun i j => .int (i / j)) := opI fun i j _ _ _ _ _ hc q => by
 have h1 : (0 : Int) < j := hc.1;have h2 : j < 1073741824 := hc.2;exact floordiv_int (by omega) (by rw [Int.fdiv_eq_ediv_of_nonneg i (by omega)]; exact q) (.inl (PyProof.noPylong_small (by omega)))
theorem zdj : OpR X (binaryOp .Mod) (rI (fun _ j => 0 < j) fun i j => .int (i % j)) := opI fun i j _ _ _ _ _ hc q => by
 have h1 : (0 : Int) < j := hc;exact mod_int' (by omega) (by rw [Int.fmod_eq_emod_of_nonneg i (by omega)]; exact q)
theorem zgO : OpR X (binaryOp .Pow) (rI CPow fun i j => .int (i ^ j.toNat)) := opI fun _ _ _ _ _ _ _ hc q => pow_int_small hc.1 hc.2.1 hc.2.2 q
theorem unI {f : Value -> Sem Value} {g : Int -> Int}
  (rule : ∀ (i : Int) (t : Tok) (s : Shared) (Q : Value -> Shared -> Prop) (E : Value -> Shared -> Prop), Q (.int (g i) s.toks) { s with toks := s.toks + 1 } -> wpAny (model X.prog X.w) X.A (f (.int i t)) Q E s) :
  UnR X f (rU fun i => .int (g i)) := by
 intro pins s σ H x v Q I rx h;obtain ⟨i, rfl, q⟩ := h;obtain ⟨t, rfl⟩ := rx;exact rule i t s _ _ ⟨.int (g i), H, I.tok _, ⟨_, rfl⟩, q⟩
theorem zgR : UnR X (unaryOp .USub) (rU fun i => .int (-i)) := unI fun _ _ _ _ _ q => neg_int q
end
def scal : V -> V -> Bool
 | .non, .non => true | .non, .int _ => true | .int _, .non => true | .non, .bl _ => true | .bl _, .non => true | .non, .str _ => true | .str _, .non => true
 | .int _, .int _ => true | .bl _, .bl _ => true | .str _, .str _ => true | .byt _, .byt _ => true
 | .int _, .str _ => true | .str _, .int _ => true | .bl _, .str _ => true | .str _, .bl _ => true
 | _, _ => false
def rEq : R2 := fun x y H Q => scal x y = true /\ Q (.bl (decide (x = y))) H
def rNe : R2 := fun x y H Q => scal x y = true /\ Q (.bl (!decide (x = y))) H
theorem zkK {i j : Int} : decide (V.int i = V.int j) = (i == j) := by
 rw [Bool.eq_iff_iff]
 simp
theorem zji {i j : Bool} : decide (V.bl i = V.bl j) = (i == j) := by
 rw [Bool.eq_iff_iff]
 simp
theorem zkL {i j : Str} : decide (V.str i = V.str j) = (i == j) := by
 rw [Bool.eq_iff_iff]
 simp
theorem zln {i j : Array UInt8} : decide (V.byt i = V.byt j) = (i.toList == j.toList) := by
 rw [Bool.eq_iff_iff];cases i;cases j
 simp
section
variable {X : Cx} {a b c : Expr} {ta tb tc : TE} {pos : Pos}
theorem zav {pins : Pnx} {σ : St} {H : Hp} {s : Shared} {Q : VK} {k k' : Bool} (I : Inv X pins σ H s) (q : Q (.bl k) H) (e : k = k') : EP X pins σ Q (.bool k') s := by
 subst e;exact ⟨.bl k, H, I, rfl, q⟩
theorem ztt : OpR X (compareOp .Eq) rEq := by
  intro pins s σ H x y v u Q I rx ry h;obtain ⟨hs, q⟩ := h
  cases x with
  | non =>
    cases rx
    cases y with
    | non => cases ry; exact PySem.EqNone.eq_none_none (zav I q (by simp))
    | bl j => cases ry; exact PySem.EqNone.eq_none_bool (zav I q (by simp))
    | int j => obtain ⟨t', rfl⟩ := ry; exact PySem.EqNone.eq_none_int (zav I q (by simp))
    | str j => obtain ⟨t', rfl⟩ := ry; exact PySem.EqNone.eq_none_str (zav I q (by simp))
    | _ => exact absurd (show false = true from hs) Bool.false_ne_true
  | bl i =>
    cases rx
    cases y with
    | non => cases ry; exact PySem.EqNone.eq_bool_none (zav I q (by simp))
    | bl j => cases ry; exact eq_bool (zav I q zji)
    | str j => obtain ⟨t', rfl⟩ := ry; exact PySem.EqMixed.eq_bool_str (zav I q (by simp))
    | _ => exact absurd (show false = true from hs) Bool.false_ne_true
  | int i =>
    obtain ⟨t, rfl⟩ := rx
    cases y with
    | non => cases ry; exact PySem.EqNone.eq_int_none (zav I q (by simp))
    | int j => obtain ⟨t', rfl⟩ := ry; exact eq_int (zav I q zkK)
    | str j => obtain ⟨t', rfl⟩ := ry; exact PySem.EqMixed.eq_int_str (zav I q (by simp))
    | _ => exact absurd (show false = true from hs) Bool.false_ne_true
  | str i =>
    obtain ⟨t, rfl⟩ := rx
    cases y with
    | non => cases ry; exact PySem.EqNone.eq_str_none (zav I q (by simp))
    | bl j => cases ry; exact PySem.EqMixed.eq_str_bool (zav I q (by simp))
    | int j => obtain ⟨t', rfl⟩ := ry; exact PySem.EqMixed.eq_str_int (zav I q (by simp))
    | str j => obtain ⟨t', rfl⟩ := ry; exact eq_str (zav I q zkL)
    | _ => exact absurd (show false = true from hs) Bool.false_ne_true
  | byt i =>
    obtain ⟨t, rfl⟩ := rx
    cases y with
    | byt j => obtain ⟨t', rfl⟩ := ry; exact PySem.W.eq_bytes (zav I q zln)
    | _ => exact absurd (show false = true from hs) Bool.false_ne_true
  | _ => cases y <;> exact absurd (show false = true from hs) Bool.false_ne_true
theorem ztj : OpR X (compareOp .NotEq) rNe := by
  intro pins s σ H x y v u Q I rx ry h;obtain ⟨hs, q⟩ := h
  cases x with
  | non =>
    cases rx
    cases y with
    | non => cases ry; exact PySem.EqNone.ne_none_none (zav I q (by simp))
    | bl j => cases ry; exact PySem.EqNone.ne_none_bool (zav I q (by simp))
    | int j => obtain ⟨t', rfl⟩ := ry; exact PySem.EqNone.ne_none_int (zav I q (by simp))
    | str j => obtain ⟨t', rfl⟩ := ry; exact PySem.EqNone.ne_none_str (zav I q (by simp))
    | _ => exact absurd (show false = true from hs) Bool.false_ne_true
  | bl i =>
    cases rx
    cases y with
    | non => cases ry; exact PySem.EqNone.ne_bool_none (zav I q (by simp))
    | bl j => cases ry; exact ne_bool (zav I q (congrArg not zji))
    | str j => obtain ⟨t', rfl⟩ := ry; exact PySem.EqMixed.ne_bool_str (zav I q (by simp))
    | _ => exact absurd (show false = true from hs) Bool.false_ne_true
  | int i =>
    obtain ⟨t, rfl⟩ := rx
    cases y with
    | non => cases ry; exact PySem.EqNone.ne_int_none (zav I q (by simp))
    | int j => obtain ⟨t', rfl⟩ := ry; exact ne_int (zav I q (congrArg not zkK))
    | str j => obtain ⟨t', rfl⟩ := ry; exact PySem.EqMixed.ne_int_str (zav I q (by simp))
    | _ => exact absurd (show false = true from hs) Bool.false_ne_true
  | str i =>
    obtain ⟨t, rfl⟩ := rx
    cases y with
    | non => cases ry; exact PySem.EqNone.ne_str_none (zav I q (by simp))
    | bl j => cases ry; exact PySem.EqMixed.ne_str_bool (zav I q (by simp))
    | int j => obtain ⟨t', rfl⟩ := ry; exact PySem.EqMixed.ne_str_int (zav I q (by simp))
    | str j => obtain ⟨t', rfl⟩ := ry; exact ne_str (zav I q (congrArg not zkL))
    | _ => exact absurd (show false = true from hs) Bool.false_ne_true
  | byt i =>
    obtain ⟨t, rfl⟩ := rx
    cases y with
    | byt j => obtain ⟨t', rfl⟩ := ry; exact PySem.W.ne_bytes (zav I q (congrArg not zln))
    | _ => exact absurd (show false = true from hs) Bool.false_ne_true
  | _ => cases y <;> exact absurd (show false = true from hs) Bool.false_ne_true
theorem zsH : OpR X (compareOp .Lt) (rI0 fun i j => .bl (decide (i < j))) := opB0 fun _ _ _ _ _ _ _ q => lt_int q
theorem zse : OpR X (compareOp .LtE) (rI0 fun i j => .bl (decide (i <= j))) := opB0 fun _ _ _ _ _ _ _ q => le_int q
theorem ztV : OpR X (compareOp .Gt) (rI0 fun i j => .bl (decide (j < i))) := opB0 fun _ _ _ _ _ _ _ q => gt_int q
theorem zr7 : OpR X (compareOp .GtE) (rI0 fun i j => .bl (decide (j <= i))) := opB0 fun _ _ _ _ _ _ _ q => ge_int q
theorem zlF : OpR X (compareOp .In) (fun x y H Q => ∃ i j, x = .str i /\ y = .str j /\ Q (.bl (!(Builtin.Str.occurrences j i 0 j.length 1).isEmpty)) H) := by
 intro pins s σ H x y v u Q I rx ry h;obtain ⟨i, j, rfl, rfl, q⟩ := h;obtain ⟨t, rfl⟩ := rx;obtain ⟨t', rfl⟩ := ry;exact in_str (zav I q rfl)
theorem zqi : OpR X (compareOp .Is) (fun x y H Q => y = .non /\ Q (.bl (decide (x = .non))) H) := by
 intro pins s σ H x y v u Q I rx ry h;obtain ⟨rfl, q⟩ := h;cases ry;refine is_none_gen (zav I q ?_);cases x <;> first
  | (cases rx; rfl)
  | (obtain ⟨t, rfl⟩ := rx; rfl)
theorem zov : OpR X (compareOp .IsNot) (fun x y H Q => y = .non /\ Q (.bl (!decide (x = .non))) H) := by
 intro pins s σ H x y v u Q I rx ry h;obtain ⟨rfl, q⟩ := h;cases ry;refine isnot_none_gen (zav I q ?_);cases x <;> first
  | (cases rx; rfl)
  | (obtain ⟨t, rfl⟩ := rx; rfl)
theorem zhF : OpR X (compareOp .NotIn) (fun x y H Q => ∃ i j, x = .str i /\ y = .str j /\ Q (.bl (!(!(Builtin.Str.occurrences j i 0 j.length 1).isEmpty))) H) := by
 intro pins s σ H x y v u Q I rx ry h;obtain ⟨i, j, rfl, rfl, q⟩ := h;obtain ⟨t, rfl⟩ := rx;obtain ⟨t', rfl⟩ := ry;exact notIn_str (zav I q rfl)
theorem OpR.or {f : Value -> Value -> Sem Value} {r r' : R2} (h : OpR X f r) (h' : OpR X f r') : OpR X f (fun x y H Q => r x y H Q \/ r' x y H Q) := by
 intro pins s σ H x y v u Q I rx ry q;rcases q with q | q
 ·exact h pins s σ H x y v u Q I rx ry q
 ·exact h' pins s σ H x y v u Q I rx ry q
theorem zop {op : CmpOp} {r : R2} (ho : OpR X (compareOp op) r) (ha : PE X a ta) (hb : PE X b tb) (hm : behindInMarks op b = false) : PE X (.Compare a [op] [b] pos) (tOp r ta tb) := by
 intro pins s σ H Q I h;exact wpAny_Compare1 (binT ha hb I h fun v u s2 x y H2 I2 rx ry q => ho pins s2 σ H2 x y v u Q I2 rx ry q) hm
def zo9 (t : TE) : TT := fun σ H Q => t σ H fun x H' => ∃ k, x = .bl k /\ Q k H'
theorem znJ {op : CmpOp} {r : R2} (ho : OpR X (compareOp op) r) (ha : PE X a ta) (hb : PE X b tb) (hm : behindInMarks op b = false) : PT X (.Compare a [op] [b] pos) (zo9 (tOp r ta tb)) := by
 intro pins s σ H Q I h;refine wpAny_isTrue_Compare1 (thn (ha pins s σ H _ I h) fun v s1 ⟨x, H1, I1, r1, q1⟩ => thn (hb pins s1 σ H1 _ I1 q1) fun u s2 ⟨y, H2, I2, r2, q2⟩ =>
  thn (ho pins s2 σ H2 x y v u _ I2 r1 r2 q2) fun c s3 ⟨z, H3, I3, r3, k, e, q3⟩ => ?_) hm
 subst e;cases r3;exact wpAny_truthy_bool ⟨H3, I3, q3⟩
def zkM (r r' : R2) (ta tb tc : TE) : TE := fun σ H Q => ta σ H fun x H1 => tb σ H1 fun y H2 => r x y H2 fun z H3 => ∃ k, z = .bl k /\
 (if k = true then tc σ H3 fun w' H4 => r' y w' H4 Q else Q (.bl false) H3)
theorem zma {op op' : CmpOp} {r r' : R2} (ho : OpR X (compareOp op) r) (ho' : OpR X (compareOp op') r') (ha : PE X a ta) (hb : PE X b tb) (hc : PE X c tc)
  (hm : lastMarks [op, op'] [b, c] = false := by with_unfolding_all rfl) : PE X (.Compare a [op, op'] [b, c] pos) (zkM r r' ta tb tc) := by
 intro pins s σ H Q I h;refine Compare_chain (thn (ha pins s σ H _ I h) fun v s1 ⟨x, H1, I1, r1, q1⟩ => chain_link (thn (hb pins s1 σ H1 _ I1 q1) fun u s2 ⟨y, H2, I2, r2, q2⟩ =>
  thn (ho pins s2 σ H2 x y v u _ I2 r1 r2 q2) fun d s3 ⟨z, H3, I3, r3, k, e, q3⟩ => ?_)) hm
 subst e;cases r3;refine wpAny_truthy_bool ?_
 cases k with
 | false => exact ite_ff ⟨.bl false, H3, I3, rfl, q3⟩
 | true => exact ite_tt (chain_last (thn (hc pins s3 σ H3 _ I3 q3) fun w' s4 ⟨z', H4, I4, r4, q4⟩ => ho' pins s4 σ H4 y z' u w' Q I4 r2 r4 q4))
theorem zlX {op op' : CmpOp} {r r' : R2} (ho : OpR X (compareOp op) r) (ho' : OpR X (compareOp op') r') (ha : PE X a ta) (hb : PE X b tb) (hc : PE X c tc)
    (hm : lastMarks [op, op'] [b, c] = false := by with_unfolding_all rfl) : PT X (.Compare a [op, op'] [b, c] pos) (zo9 (zkM r r' ta tb tc)) := by
  intro pins s σ H Q I h;refine isTrue_chain (thn (ha pins s σ H _ I h) fun v s1 ⟨x, H1, I1, r1, q1⟩ => test_link (thn (hb pins s1 σ H1 _ I1 q1) fun u s2 ⟨y, H2, I2, r2, q2⟩ =>
    thn (ho pins s2 σ H2 x y v u _ I2 r1 r2 q2) fun d s3 ⟨z, H3, I3, r3, k, e, q3⟩ => ?_)) hm
  subst e;cases r3;refine wpAny_truthy_bool ?_
  cases k with
  | false =>
    obtain ⟨k', e', q'⟩ := q3;cases e';exact ite_ff ⟨H3, I3, q'⟩
  | true =>
    refine ite_tt (test_last (thn (hc pins s3 σ H3 _ I3 q3) fun w' s4 ⟨z', H4, I4, r4, q4⟩ => thn (ho' pins s4 σ H4 y z' u w' _ I4 r2 r4 q4) fun d' s5 ⟨z2, H5, I5, r5, k2, e2, q5⟩ => ?_));subst e2;cases r5;exact wpAny_truthy_bool ⟨H5, I5, q5⟩
def TruV (K : Fgx) (x : V) (H : Hp) (k : Bool) : Prop :=
 match x with
 | .non => k = false
 | .bl b => k = b
 | .int i => k = (i != 0)
 | .str y => y.length <= sizeLine /\ k = ((y.length : Int) != 0)
 | .byt y => y.size <= sizeLine /\ k = ((y.size : Int) != 0)
 | .ref p => (∃ xs, SqL K H p xs /\ k = !xs.isEmpty) \/ (∃ xs, SqT K H p xs /\ k = !xs.isEmpty) \/ ∃ kvs, H p = some (.dK kvs) /\ k = !kvs.isEmpty
 | _ => False
theorem zjE {κ : Type} {kvs : List (κ × V)} {vs : List (κ × Value)} (r : KV kvs vs) : (!vs.isEmpty) = !kvs.isEmpty := by
 cases r <;> rfl
theorem zgE {xs : List V} {its : List Value} (r : Vals xs its) : (!its.toArray.isEmpty) = !xs.isEmpty := by
 cases r <;> simp
theorem zfe : (sizeLine : Nat) < 2 ^ 63 := by rw [sizeLine_eq]; decide
theorem zq7 : TruR X (fun x H Q => ∃ k, TruV X.K x H k /\ Q k H) := by
  intro pins s σ H x v Q I rx h;obtain ⟨k, e, q⟩ := h;have hl := zfe;have hs : sizeLine = 16777216 := sizeLine_eq
  cases x with
  | non =>
    cases rx;have e' : k = false := e;subst e';exact truthy_none ⟨H, I, q⟩
  | bl b =>
    cases rx;have e' : k = b := e;subst e';exact wpAny_truthy_bool ⟨H, I, q⟩
  | int i =>
    obtain ⟨t, rfl⟩ := rx;have e' : k = (i != 0) := e;subst e';exact PySem.P.truthy_int ⟨H, I, q⟩
  | str y =>
    obtain ⟨t, rfl⟩ := rx;obtain ⟨hy, e'⟩ : y.length <= sizeLine /\ k = ((y.length : Int) != 0) := e;subst e';exact PySem.P.truthy_str (by omega) ⟨H, I.tok _, q⟩
  | byt y =>
    obtain ⟨t, rfl⟩ := rx;obtain ⟨hy, e'⟩ : y.size <= sizeLine /\ k = ((y.size : Int) != 0) := e;subst e';exact PySem.W.truthy_bytes (by omega) ⟨H, I.tok _, q⟩
  | ref p =>
    cases rx;have e' : (∃ xs, SqL X.K H p xs /\ k = !xs.isEmpty) \/ (∃ xs, SqT X.K H p xs /\ k = !xs.isEmpty) \/ ∃ kvs, H p = some (.dK kvs) /\ k = !kvs.isEmpty := e;rcases e' with ⟨xs, hx, e'⟩ | ⟨xs, hx, e'⟩ | ⟨kvs, hx, e'⟩
    · subst e';obtain ⟨its, r, pl, hz⟩ := I.list hx;have hlen := r.length;exact wpAny_truthy_list pl.isList (by simp only [List.size_toArray]; omega) ⟨H, I.tok _, by rw [zgE r]; exact q⟩
    · subst e';obtain ⟨its, r, pl, hz⟩ := I.tuple hx;have hlen := r.length;exact truthy_tuple pl (by simp only [List.size_toArray]; omega) ⟨H, I.tok _, by rw [zgE r]; exact q⟩
    · subst e';obtain ⟨hz, hS, vs, r, m⟩ : kvs.length <= sizeLine /\ (p == sysModules) = false /\ ∃ vs, KV kvs vs /\ s.heap.DictOf (zaY X.prog X.w) p vs := I.hok p _ hx;have hlen : kvs.length = vs.length := Paired.length r;exact wpAny_truthy_dict hS m (by omega) ⟨H, I.tok _, by rw [zjE r]; exact q⟩
  | _ => exact (show False from e).elim
theorem zlS (ha : PE X a ta) (he : ∀ whole, isTrue a X.env whole = (do let v <- whole; standAt a.pos; holding [v] (truthy v))) :
  PT X a (fun σ H Q => ta σ H fun x H' => ∃ k, TruV X.K x H' k /\ Q k H') := by
 intro pins s σ H Q I h;exact isTrue_plain (thn (ha pins s σ H _ I h) fun v s1 ⟨x, H1, I1, r1, q1⟩ => zq7 pins s1 σ H1 x v Q I1 r1 q1) (he _)
theorem zjH : OpR X (binaryOp .Add) (fun x y H Q => ∃ i j, x = .str i /\ y = .str j /\ i.length + j.length <= sizeLine /\ Q (.str (i ++ j)) H) := by
 intro pins s σ H x y v u Q I rx ry h;obtain ⟨i, j, rfl, rfl, hz, q⟩ := h;obtain ⟨t, rfl⟩ := rx;obtain ⟨t', rfl⟩ := ry;exact add_str (fun t' tk => ⟨.str (i ++ j), H, I.tok _, ⟨_, rfl⟩, q⟩) hz
theorem vals1 {x : V} {us : List Value} (r : Vals [x] us) : ∃ u, us = [u] /\ RelV x u := by
 cases r with
 | cons r1 r2 => cases r2; exact ⟨_, rfl, r1⟩
theorem vals2 {x y : V} {us : List Value} (r : Vals [x, y] us) : ∃ u w', us = [u, w'] /\ RelV x u /\ RelV y w' := by
  cases r with
  | cons r1 r2 =>
    cases r2 with
    | cons r3 r4 => cases r4; exact ⟨_, _, rfl, r1, r3⟩
theorem zko (hc : X.calm = true) : zdT X (.builtin "min") (fun xs H Q => ∃ i j, xs = [.int i, .int j] /\ Q (.int (if j < i then j else i)) H) := by
 intro pins s σ H xs us Q I r h;obtain ⟨i, j, rfl, q⟩ := h;obtain ⟨u, w', rfl, ⟨t, rfl⟩, ⟨t', rfl⟩⟩ := vals2 r;refine min_two_ints (I.ok.hd hc) fun h' tk k => ⟨_, H, I.kept k, ?_, q⟩
 by_cases hj : j < i
 ·rw [if_pos hj, if_pos hj]; exact ⟨_, rfl⟩
 ·rw [if_neg hj, if_neg hj]; exact ⟨_, rfl⟩
theorem zbq : zdT X (.type "str") (fun xs H Q => ∃ i, xs = [.int i] /\ i.natAbs.log2 < 1920 /\ Q (.str (toString i)) H) := by
 intro pins s σ H xs us Q I r h;obtain ⟨i, rfl, hz, q⟩ := h;obtain ⟨u, rfl, t, rfl⟩ := vals1 r;exact PySem.P.str_of_int hz ⟨.str _, H, I.tok _, ⟨_, rfl⟩, q⟩
end
structure ObjM (h : Heap) (x dx C : Addr) (mA : Mgx) : Prop where
 obj : h.get? x = some (PySem.W.instObj C dx)
 ns : h.Ns1 dx mA
 ne : dx ≠ x
theorem zhu {h : Heap} {dx : Addr} {mA : Mgx} (n : h.Ns1 dx mA) : ∃ od, h.get? dx = some od /\ ∀ name, PySem.W.lookIn name od = some (mA name) := by
 obtain ⟨o, es, ep, ho, hd, hk, _, hm⟩ := n;refine ⟨o, ho, fun name => ?_⟩;have e := hm name;unfold nsFind findBy at e;rw [<- Array.find?_toList] at e;unfold PySem.W.lookIn;rw [hd];dsimp only
 split
 ·rename_i y q;rw [q] at e;exact congrArg some e
 ·rename_i q;rw [q] at e;have a : es.toList.any (·.refKey) = false := by
   rw [List.any_eq_false];intro y hy;obtain ⟨z, t, hkey⟩ := hk y (Array.mem_toList_iff.mp hy)
   simp [DictEntry.refKey, hkey]
  have a' : ¬ es.toList.any (·.refKey) = true := by rw [a]; exact Bool.false_ne_true
  rw [if_neg a'];exact congrArg some e
theorem ObjM.look {h : Heap} {x dx C : Addr} {mA : Mgx} (I : ObjM h x dx C mA) : ∃ od, PySem.W.InstAt h x (PySem.W.instObj C dx) C (some od) /\ ∀ name, PySem.W.lookIn name od = some (mA name) :=
 let ⟨od, ho, hl⟩ := zhu I.ns
 ⟨od, ⟨I.obj, rfl, rfl, ho⟩, hl⟩
section
variable {prog : Program} {w : World} {A : Around} {E : Value -> Shared -> Prop} {s : Shared} {K : Fgx} {x dx C f : Addr} {mA : Mgx} {name : Str} {v : Value}
theorem zoU {ns : List Str} {Q : Unit -> Shared -> Prop} (X : K.In s.heap) (I : ObjM s.heap x dx C mA)
  (hs : PySem.W.findIn K (.ref C) "__setattr__" = some (some (.builtin "object.__setattr__"))) (hp : PySem.W.plainOver K C = true) (ht : PySem.W.takerIn K C name = some none) (hh : PySem.W.hasDictIn K C = true)
  (hw : PySem.Within mA ns) (hsz : ns.length <= sizeLine)
  (h : ∀ h', ObjM h' x dx C (fun y => if y = name then some v else mA y) -> Heap.SameBut dx s.heap h' -> Q () { s with heap := h', toks := s.toks + 2 }) :
  wpAny (model prog w) A (setAttr (.ref x) name v) Q E s := by
 obtain ⟨od, J, hl⟩ := I.look;refine PySem.W.set_plain X J hs (PySem.W.osa_open (s := { s with toks := s.toks + 1 }) (r := none) X J hp ht fun b => ?_);obtain ⟨cd, hc, hd'⟩ := PySem.W.any_some hh;have hx : s.heap.get? x = some ⟨.ref C, some dx, .plain, #[]⟩ := I.obj;refine wpAny_bind (wpAny_pure (wpAny_bind (wpAny_bind (wpAny_loadPart hx (wpAny_bind (PySem.W.Looks.here (s := { s with toks := s.toks + 1 }) (PySem.W.looks_clsIn X hc) ?_))))));rw [hd'];refine wpAny_pure (a := some dx) (wpAny_bind (wpAny_pure (wpAny_bind ?_)));refine wpAny_nsSet1 (s := { s with toks := s.toks + 1 }) I.ns fun h' hn2 hs2 => ?_;obtain ⟨oD, esD, epD, hoD, hdD, hcD⟩ := hn2.count (PySem.Within.cons name v hw);refine wpAny_bind (wpAny_lookBehind hoD (by rw [hdD]; exact pastItsLine_dict (Nat.le_trans hcD (by rw [List.length_cons]; omega))) ?_);exact wpAny_pure (h _ ⟨(hs2.2 _ (Ne.symm I.ne)).trans I.obj, hn2, I.ne⟩ hs2)
theorem zl0 {R : Result -> Shared -> Prop} {vs : List Value} {kw : List (Str × Value)} (X : K.In s.heap) (hm : PySem.W.makesIn K C = true)
  (hi : PySem.W.findIn K (.ref C) "__init__" = some (some (.ref f))) (hf : PySem.W.typeIn K (.ref f) = some (.type "function"))
  (h : codeAny (model prog w) (A.under (.builtin "type.__call__" ⟨.ref C :: vs, kw⟩)) (.call (.ref f) ⟨.ref (s.heap.objs.size + 1) :: vs, kw⟩) (PySem.W.InitBack (s.heap.objs.size + 1) R)
   { s with heap := (s.heap.push PySem.W.emptyDict).push (PySem.W.instObj C s.heap.objs.size) }) :
  codeAny (model prog w) A (.call (.ref C) ⟨vs, kw⟩) R s := by
 obtain ⟨hh, g, d, t, os⟩ := s;exact PySem.W.make_core (PySem.W.makes_of X hm) (PySem.W.looks_findIn X hi) (fun self => PySem.W.bind_fn X self hf) (.inl rfl) h
end
def putF (f : Str) (v : V) : List (Str × V) -> List (Str × V)
 | [] => [(f, v)]
 | (g, x) :: r => if g = f then (g, v) :: r else (g, x) :: putF f v r
theorem zf0 (f g : Str) (v : V) : ∀ fs : List (Str × V), (putF f v fs).lookup g = if g = f then some v else fs.lookup g
  | [] => by
    show List.lookup g [(f, v)] = _
    by_cases h : g = f
    · have hb : (g == f) = true := beq_iff_eq.mpr h;simp only [List.lookup, hb, if_pos h]
    · have hb : (g == f) = false := beq_eq_false_iff_ne.mpr h;simp only [List.lookup, hb, if_neg h]
  | (k, x) :: r => by
    have ih := zf0 f g v r;rw [show putF f v ((k, x) :: r) = (if k = f then (k, v) :: r else (k, x) :: putF f v r) from rfl]
    by_cases hk : k = f
    · rw [if_pos hk]
      by_cases h : g = k
      · have hb : (g == k) = true := beq_iff_eq.mpr h;simp only [List.lookup, hb, if_pos (h.trans hk)]
      · have hb : (g == k) = false := beq_eq_false_iff_ne.mpr h;simp only [List.lookup, hb, if_neg (fun e : g = f => h (e.trans hk.symm))]
    · rw [if_neg hk]
      by_cases h : g = k
      · have hb : (g == k) = true := beq_iff_eq.mpr h;simp only [List.lookup, hb, if_neg (fun e : g = f => hk (h.symm.trans e))]
      · have hb : (g == k) = false := beq_eq_false_iff_ne.mpr h;simp only [List.lookup, hb];exact ih
theorem zfx (f : Str) (v : V) : ∀ fs : List (Str × V), f ∈ (putF f v fs).map (·.1) /\ ∀ g, g ∈ fs.map (·.1) -> g ∈ (putF f v fs).map (·.1)
  | [] => ⟨by simp [putF], fun g h => by simp at h⟩
  | (k, x) :: r => by
    obtain ⟨i1, i2⟩ := zfx f v r;rw [show putF f v ((k, x) :: r) = (if k = f then (k, v) :: r else (k, x) :: putF f v r) from rfl]
    by_cases hk : k = f
    · rw [if_pos hk];subst hk;exact ⟨by simp, fun g h => by simpa using h⟩
    · rw [if_neg hk];refine ⟨?_, fun g h => ?_⟩
      · rw [List.map_cons];exact List.mem_cons_of_mem _ i1
      · rw [List.map_cons] at h ⊢;rcases List.mem_cons.mp h with e | e
        · exact List.mem_cons.mpr (.inl e)
        · exact List.mem_cons_of_mem _ (i2 g e)
theorem zgh (f : Str) (v : V) : ∀ fs : List (Str × V), (putF f v fs).length <= fs.length + 1
  | [] => by simp [putF]
  | (k, x) :: r => by
    have ih := zgh f v r;rw [show putF f v ((k, x) :: r) = (if k = f then (k, v) :: r else (k, x) :: putF f v r) from rfl]
    by_cases hk : k = f
    · rw [if_pos hk, List.length_cons, List.length_cons]; omega
    · rw [if_neg hk, List.length_cons, List.length_cons]; omega
theorem RelO.some_of {v : V} {o : Option Value} (r : RelO (some v) o) : ∃ u, o = some u /\ RelV v u := by
 cases o with
 | none => exact (show False from r).elim
 | some u => exact ⟨u, rfl, r⟩
theorem zkc {v : V} {u : Value} (r : RelV v u) : PySem.W.handedIn u = true := by
 cases v with
 | non => cases (show u = Value.none from r); rfl
 | bl b => cases (show u = Value.bool b from r); rfl
 | int i => obtain ⟨t, e⟩ := (show ∃ t, u = Value.int i t from r); cases e; rfl
 | str x => obtain ⟨t, e⟩ := (show ∃ t, u = Value.str x t from r); cases e; rfl
 | byt b => obtain ⟨t, e⟩ := (show ∃ t, u = Value.bytes b t from r); cases e; rfl
 | flt b => obtain ⟨t, e⟩ := (show ∃ t, u = Value.float b t from r); cases e; rfl
 | ref a => cases (show u = Value.ref a from r); rfl
 | ty n => cases (show u = Value.type n from r); rfl
section
variable {P : Program} {w : World} {H H' : Hp} {h h' : Heap} {a C dx : Addr} {fs fs' : List (Str × V)}
theorem zoP (hok : HOk P w H h) (e : H a = some (.ins C dx fs)) : ∃ mA, ObjM h a dx C mA /\ (∀ f, RelO (fs.lookup f) (mA f)) /\ PySem.Within mA (fs.map (·.1)) /\ fs.length <= 1000 /\ H dx = some (.own a) := by
 obtain ⟨d, z, ne, ob, mA, n, r, q⟩ := (show zbW P w H h a (.ins C dx fs) from hok a _ e);exact ⟨mA, ⟨ob, n, ne⟩, r, q, z, d⟩
end
structure Cls (K : Fgx) (C : Addr) : Prop where
 pg : PySem.W.plainGet K C Str.empty = true
 hd : PySem.W.hasDictIn K C = true
 po : PySem.W.plainOver K C = true
 sa : PySem.W.findIn K (.ref C) "__setattr__" = some (some (.builtin "object.__setattr__"))
def zfz (K : Fgx) (C : Addr) (f : Str) : Prop := PySem.W.findIn K (.ref C) f = some none
theorem zfz.taker {K : Fgx} {C : Addr} {f : Str} (n : zfz K C f) : PySem.W.takerIn K C f = some none := by
 unfold PySem.W.takerIn;rw [show PySem.W.findIn K (.ref C) f = some none from n];rfl
structure Con (K : Fgx) (C : Addr) (f : Str) (v : V) (u : Value) : Prop where
 at_ : PySem.W.findIn K (.ref C) f = some (some u)
 rel : RelV v u
 get : PySem.W.specialIn K u "__get__" = some none
 cp : PySem.W.copiedNames.contains f = false
structure Meth (K : Fgx) (C : Addr) (m : Str) (f : Addr) : Prop where
 at_ : PySem.W.findIn K (.ref C) m = some (some (.ref f))
 fn : PySem.W.isFn K (.ref f) = true
 kp : PySem.W.keepIn K (.ref f) = true
section
variable {X : Cx} {pins : Pnx} {σ : St} {H : Hp} {s : Shared} {a C dx : Addr} {fs : List (Str × V)} {f : Str} {v : V} {A : Around} {E : Value -> Shared -> Prop}
theorem zjA {y : V} {u : Value} {Q : Unit -> Shared -> Prop} (I : Inv X pins σ H s) (e : H a = some (.ins C dx fs)) (c : Cls X.K C) (n : zfz X.K C f) (hl : fs.length < 1000) (ry : RelV y u)
  (h : ∀ s', Inv X pins σ (upd H a (.ins C dx (putF f y fs))) s' -> Q () s') : wpAny (model X.prog X.w) A (setAttr (.ref a) f u) Q E s := by
 obtain ⟨mA, O, r, wi, _, ho⟩ := zoP I.hok e;have hz : (fs.map (·.1)).length <= sizeLine := by rw [List.length_map, sizeLine_eq]; omega
 refine zoU I.kIn O c.sa c.po n.taker c.hd wi hz fun h' O' sb => h _ ?_;have hd : ∃ o, h'.get? dx = some o := let ⟨o, _, _, e', _⟩ := O'.ns; ⟨o, e'⟩
 refine I.write (x := a) (e := dx) (by rw [e]; exact True.intro) (.inr ho) (fun b q hb z => (sb.2 b hb).trans z) hd ?_;refine ⟨by rw [zal O.ne]; exact ho, ?_, O.ne, O'.obj, _, O'.ns, fun g => ?_, fun g hg => ?_⟩
 ·have := zgh f y fs; omega
 ·show RelO ((putF f y fs).lookup g) (if g = f then some u else mA g)
  rw [zf0]
  by_cases q : g = f
  ·rw [if_pos q, if_pos q]; exact ry
  ·rw [if_neg q, if_neg q]; exact r g
 ·by_cases q : g = f
  ·rw [q]; exact (zfx f y fs).1
  ·refine (zfx f y fs).2 g (wi g fun z => hg ?_);show (if g = f then some u else mA g) = none
   rw [if_neg q]; exact z
theorem Inv.made (I : Inv X pins σ H s) : Inv X pins σ (upd (upd H s.heap.objs.size (.own (s.heap.objs.size + 1))) (s.heap.objs.size + 1) (.ins C s.heap.objs.size []))
  { s with heap := (s.heap.push PySem.W.emptyDict).push (PySem.W.instObj C s.heap.objs.size) } := by
 have e1 : (s.heap.push PySem.W.emptyDict).get? s.heap.objs.size = some PySem.W.emptyDict := Heap.get?_push_size s.heap rfl;have e2 : ((s.heap.push PySem.W.emptyDict).push (PySem.W.instObj C s.heap.objs.size)).get? (s.heap.objs.size + 1) = some (PySem.W.instObj C s.heap.objs.size) := by
  have := Heap.get?_push_size (s.heap.push PySem.W.emptyDict) (o := PySem.W.instObj C s.heap.objs.size) rfl
  rwa [Heap.size_push] at this
 have e3 : (s.heap.push PySem.W.emptyDict).Ns s.heap.objs.size (fun _ => none) := ⟨PySem.W.emptyDict, #[], _, e1, rfl, (fun e he => absurd he (by simp)), fun _ => rfl⟩;have I1 := I.laid (a := s.heap.objs.size) (o := .own (s.heap.objs.size + 1)) (h' := s.heap.push PySem.W.emptyDict) (t' := s.toks) (fun b u q => Heap.get?_push_of_some _ q) (Nat.le_refl _) ⟨_, e1⟩;refine I1.laid (a := s.heap.objs.size + 1) (o := .ins C s.heap.objs.size []) (t' := s.toks) (fun b u q => Heap.get?_push_of_some _ q) (Nat.le_of_eq (Heap.size_push _ _)) ?_;have ne : s.heap.objs.size ≠ s.heap.objs.size + 1 := Nat.ne_of_lt (Nat.lt_succ_self _);refine ⟨by rw [zal ne, zao], Nat.zero_le _, ne, e2, fun _ => none, (Heap.Ns1.of_empty e3).at fun o q => Heap.get?_push_of_some _ q, fun _ => True.intro, fun y hy => absurd rfl hy⟩
theorem znR {prog : Program} {w : World} {env : Env} {e : Expr} {f : Str} {pos : Pos} {s : Shared} {Q : Value -> Shared -> Prop} (hb : attributeBase e f env (eval e env) = eval e env)
  (h : wpAny (model prog w) A (eval e env) (fun o s₁ => wpAny (model prog w) A (getAttr o f true) Q E s₁) E s) : wpAny (model prog w) A (eval (.Attribute e f pos) env) Q E s :=
 Attribute_any_ h (by rw [arm_eval_Attribute, hb])
end
def sFld (K : Fgx) (ta tv : TE) (f : Str) : TS := fun D σ H => tv σ H fun y H1 => ta σ H1 fun x H2 => ∃ a C dx fs, x = .ref a /\ H2 a = some (.ins C dx fs) /\ Cls K C /\ zfz K C f /\ fs.length < 1000 /\
 D.nx σ (upd H2 a (.ins C dx (putF f y fs)))
section
variable {X : Cx} {o e value : Expr} {f : Str} {pos pos' tpos : Pos} {ta tv : TE}
theorem zrZ (ha : PE X o ta) (hv : PE X value tv) (hs : swapsWith value (some (.Attribute o f pos')) pos.line X.env = pure false) : PS X (.Assign [.Attribute o f pos'] value pos) (sFld X.K ta tv f) := by
 intro pins s σ H D I h;refine plainObj_wpAny_Assign_Attribute (thn (hv pins s σ H _ I h) fun u s1 ⟨y, H1, I1, ry, q⟩ => thn (ha pins s1 σ H1 _ I1 q) fun ov s2 ⟨x, H2, I2, rx, a, C, dx, fs, ex, ea, c, n, l, q2⟩ => ?_) hs;subst ex;obtain rfl : ov = Value.ref a := rx;exact zjA I2 ea c n l ry fun s3 I3 => ⟨σ, _, I3, q2⟩
def rAdd : V -> V -> Hp -> VK -> Prop := fun x y H Q => ∃ i j, x = .int i /\ y = .int j /\ Q (.int (i + j)) H
end
section
variable {X : Cx} {pins : Pnx} {σ : St} {H : Hp} {s : Shared} {A : Around} {E : Value -> Shared -> Prop} {Q : Value -> Shared -> Prop} {c : Value} {b : Bool}
inductive TyOf (K : Fgx) (H : Hp) : V -> Value -> Prop where
 | non : TyOf K H .non (.type "NoneType")
 | bl (x : Bool) : TyOf K H (.bl x) (.type "bool")
 | int (i : Int) : TyOf K H (.int i) (.type "int")
 | str (x : Str) : TyOf K H (.str x) (.type "str")
 | flt (x : UInt64) : TyOf K H (.flt x) (.type "float")
 | lst {a : Addr} {xs : List V} (e : H a = some (.lst xs)) : TyOf K H (.ref a) (.type "list")
 | frz {a : Addr} {o : Obj} {xs : List V} (e : H a = some (.frz o (.lst xs))) : TyOf K H (.ref a) (.type "list")
 | tup {a : Addr} {xs : List V} (e : H a = some (.tup xs)) : TyOf K H (.ref a) (.type "tuple")
 | dK {a : Addr} {kvs : List (Key × V)} (e : H a = some (.dK kvs)) : TyOf K H (.ref a) (.type "dict")
 | dT {a : Addr} {kvs : List (List Key × V)} (e : H a = some (.dT kvs)) : TyOf K H (.ref a) (.type "dict")
 | ins {a C dx : Addr} {fs : List (Str × V)} (e : H a = some (.ins C dx fs)) (cl : Cls K C) (ha : PySem.W.findIn K (.ref C) "__class__" = some (some (.builtin "object.__class__")))
   (hn : PySem.W.specialIn K (.builtin "object.__class__") "__get__" = some (some (.builtin "getset_descriptor.__get__"))) (htk : PySem.W.takesIn K (.builtin "object.__class__") = some true)
   (hm : PySem.W.mroIn K C (.type "object") = some true) : TyOf K H (.ref a) (.ref C)
end
structure Room (k : Nat) (A : Around) : Prop where
 hd : A.handled = none
 dp : A.depth + 3 * k + 5 < recursionLimit
 un : A.units + 16 * k + 200 < cLine
theorem Room.mono {j k : Nat} {A : Around} (r : Room k A) (h : j <= k) : Room j A := ⟨r.hd, by have := r.dp; omega, by have := r.un; omega⟩
theorem Room.deeper {k : Nat} {A : Around} (r : Room (k + 1) A) (env : Env) : Room k (A.deeper env) :=
 ⟨r.hd, by have := r.dp; show A.depth + 1 + 3 * k + 5 < _; omega, by have := r.un; show A.units + 3 + 16 * k + 200 < _; omega⟩
theorem zjz {A : Around} {C : Addr} {us : List Value} {kw : List (Str × Value)} : (A.under (.builtin "type.__call__" ⟨.ref C :: us, kw⟩)).depth = A.depth + 1 := by
 first | rfl | simp [Around.under, Code.weight, Code.isCreation, Code.isGuard, Code.isCaller, Code.frames, Code.isFrame, guardIds]
theorem zjM {A : Around} {C : Addr} {us : List Value} {kw : List (Str × Value)} : (A.under (.builtin "type.__call__" ⟨.ref C :: us, kw⟩)).units = A.units + 1 := by
 first | rfl | simp [Around.under, Code.cUnits, Code.frames, Code.isFrame]
theorem Room.make {k : Nat} {A : Around} (r : Room (k + 1) A) (C : Addr) (us : List Value) (kw : List (Str × Value)) : Room k (A.under (.builtin "type.__call__" ⟨.ref C :: us, kw⟩)) :=
 ⟨r.hd, by have := r.dp; rw [zjz]; omega, by have := r.un; rw [zjM]; omega⟩
theorem Room.depth {k : Nat} {A : Around} (r : Room k A) : A.depth < recursionLimit := by have := r.dp; omega
theorem Room.units {k : Nat} {A : Around} (r : Room k A) : A.units + 64 < cLine := by have := r.un; omega
def tNil : TA := fun _ H Q => Q [] H
def zr8 (ta : TE) (tr : TA) : TA := fun σ H Q => ta σ H fun x H1 => tr σ H1 fun xs H2 => Q (x :: xs) H2
section
variable {X : Cx} {e : Expr} {es : List Expr} {te : TE} {t : TA} {pos : Pos}
theorem zgH : PA X [] tNil := fun _ _ _ _ H Q I h => Calls.spliced_nil ⟨[], H, I, .nil, h⟩
theorem zdF (ha : PE X e te) (hr : PA X es t) (hs : starEach (e :: es) X.env = (false, eval e X.env) :: starEach es X.env := by rfl) : PA X (e :: es) (zr8 te t) := by
 intro pos pins s σ H Q I h;rw [hs];show wpAny _ _ (spliced ((false, eval e X.env) :: backTo pos (starEach es X.env))) _ _ s;refine Calls.spliced_cons (thn (ha pins s σ H _ I h) fun u s1 ⟨x, H1, I1, r1, q1⟩ => ?_);exact thn (hr pos pins s1 σ H1 _ I1 q1) fun us s2 ⟨xs, H2, I2, r2, q2⟩ => ⟨x :: xs, H2, I2, .cons r1 r2, q2⟩
def tTup (t : TA) : TE := fun σ H Q => t σ H fun xs H1 => xs.length <= sizeLine /\ ∀ p, H1 p = none -> Q (.ref p) (upd H1 p (.tup xs))
def tLst (t : TA) : TE := fun σ H Q => t σ H fun xs H1 => xs.length <= sizeLine /\ ∀ p, H1 p = none -> Q (.ref p) (upd H1 p (.lst xs))
theorem zmM {x1} (h : PA X es t) : PE X (.Tuple es x1 pos) (tTup t) := by
 intro pins s σ H Q I hq;refine wpAny_Tuple_spliced (thn (h pos pins s σ H _ I hq) fun us s1 ⟨xs, H1, I1, r, z, q⟩ => ⟨by rw [<- r.length]; exact z, ?_⟩);have hf : H1 s1.heap.objs.size = none := I1.hok.fresh (Nat.le_refl _);refine ⟨.ref s1.heap.objs.size, upd H1 s1.heap.objs.size (.tup xs), I1.laid (t' := s1.toks) (fun b u e => Heap.get?_push_of_some _ e) (Nat.le_refl _) ?_, rfl, q _ hf⟩;exact ⟨z, us, r, ⟨_, Heap.get?_push_size _ rfl, rfl, _, rfl⟩⟩
theorem zqM (h : PA X es t) : PE X (.List es pos) (tLst t) := by
 intro pins s σ H Q I hq;refine wpAny_List_spliced (thn (h pos pins s σ H _ I hq) fun us s1 ⟨xs, H1, I1, r, z, q⟩ => ⟨by rw [<- r.length]; exact z, ?_⟩);have hf : H1 s1.heap.objs.size = none := I1.hok.fresh (Nat.le_refl _);refine ⟨.ref s1.heap.objs.size, upd H1 s1.heap.objs.size (.lst xs), I1.laid (t' := s1.toks) (fun b u e => Heap.get?_push_of_some _ e) (Nat.le_refl _) ?_, rfl, q _ hf⟩;exact ⟨z, us, 0, r, Heap.get?_push_size _ rfl⟩
end
abbrev Sp := List V -> Hp -> VK -> XK -> Prop
abbrev CXT := List Env -> Hp -> Shared -> XK -> Value -> Shared -> Prop
structure Env0 (P : Program) (w : World) (K : Fgx) (mg : Mgx) (base : Heap) (A : Around) (outer : List Env) (s : Shared) (H : Hp) : Prop where
 frames : A.frames = some outer
 mod : Mod K mg base
 bs : ∀ b o, base.get? b = some o -> s.heap.get? b = some o /\ H b = none
 bsz : base.objs.size <= s.heap.objs.size
 funs : s.heap.FunFrames base outer
 frf : ∀ b ∈ frs outer, H b = none
 hok : HOk P w H s.heap
 bare : AllBare s.gens
def CE (outer : List Env) (P : Program) (w : World) (H : Hp) (s : Shared) (Q : VK) (u : Value) (s' : Shared) : Prop :=
 ∃ v H', s'.os = s.os /\ AllBare s'.gens /\ Un (frs outer) [] H H' s.heap s'.heap /\ HOk P w H' s'.heap /\ RelV v u /\ Q v H'
def CR (CX : CXT) (outer : List Env) (P : Program) (w : World) (H : Hp) (s : Shared) (Q : VK) (E : XK) (r : Result) (s' : Shared) : Prop :=
 match r with
 | .ok (.ret u) => CE outer P w H s Q u s'
 | .ok _ => False
 | .error e => CX outer H s E e s'
structure FnOk (P : Program) (w : World) (K : Fgx) (mg : Mgx) (base : Heap) (CX : CXT) (k : Nat) (f : Addr) (fd : FuncData) (ps : List Str) (sp : Sp) : Prop where
 len : ∀ vs H Q E, sp vs H Q E -> vs.length = ps.length
 run : ∀ (A : Around) (outer : List Env) (s : Shared) (H : Hp) (args : Args) (us : List Value) (vs : List V) (Q : VK) (E : XK), Room k A -> Env0 P w K mg base A outer s H -> BindsTo s fd args (ps.zip us) -> Vals vs us -> sp vs H Q E ->
  codeAny (model P w) A (.call (.ref f) args) (CR CX outer P w H s Q E) s
theorem FnOk.mono {P : Program} {w : World} {K : Fgx} {mg : Mgx} {base : Heap} {CX : CXT} {j k : Nat} {f : Addr} {fd : FuncData} {ps : List Str} {sp : Sp} (F : FnOk P w K mg base CX j f fd ps sp) (h : j <= k) :
  FnOk P w K mg base CX k f fd ps sp := ⟨F.len, fun A outer s H args us vs Q E hr => F.run A outer s H args us vs Q E (hr.mono h)⟩
theorem Env0.make {P : Program} {w : World} {K : Fgx} {mg : Mgx} {base : Heap} {A : Around} {outer : List Env} {s : Shared} {H : Hp} (e : Env0 P w K mg base A outer s H) (C : Addr) (us : List Value) (kw : List (Str × Value)) :
  Env0 P w K mg base (A.under (.builtin "type.__call__" ⟨.ref C :: us, kw⟩)) outer s H := ⟨by first | exact e.frames | (simpa [Around.under, Code.envs, Code.isFrame, pushEnvs] using e.frames), e.mod, e.bs, e.bsz, e.funs, e.frf, e.hok, e.bare⟩
section
variable {X : Cx} {pins : Pnx} {σ : St} {H : Hp} {s s' : Shared}
theorem Inv.env0 (I : Inv X pins σ H s) : Env0 X.prog X.w X.K X.mg X.base X.A X.stack s H :=
 ⟨I.ok.frames, I.ok.mod, I.bs, Nat.le_trans I.ok.bsz I.sz, I.stack, I.stkFree, I.hok, I.bare⟩
theorem Inv.after {Q : VK} {u : Value} (I : Inv X pins σ H s) (h : CE X.stack X.prog X.w H s Q u s') : EP X pins σ Q u s' := by
 obtain ⟨v, H', os, bare, un, hok, r, q⟩ := h;obtain ⟨hh, g, d, t, os'⟩ := s';obtain rfl : os' = s.os := os;exact ⟨v, H', I.call (h' := hh) (g' := g) (d' := d) (t' := t) (ch := []) un hok bare (fun b z => absurd z (by simp)), r, q⟩
end
def zsU (sp : Sp) (dvs : List V) (E : XK) (t : TA) : TE := fun σ H Q => t σ H fun vs H1 => sp (vs ++ dvs) H1 Q E
def ztf (C : Addr) (sp : Sp) (dvs : List V) (E : XK) (t : TA) : TE := fun σ H Q => t σ H fun vs H1 => ∀ x dx, H1 x = none -> H1 dx = none -> dx ≠ x ->
 sp (.ref x :: (vs ++ dvs)) (upd (upd H1 dx (.own x)) x (.ins C dx [])) (fun v H2 => v = .non /\ Q (.ref x) H2) E
def Binds (K : Fgx) (fd : FuncData) (ps : List Str) (ds : List Value) : Prop :=
 ∀ (s : Shared) (us : List Value), K.In s.heap -> (us ++ ds).length = ps.length -> BindsTo s fd ⟨us, []⟩ (ps.zip (us ++ ds))
theorem Binds.all {K : Fgx} {fd : FuncData} {ps : List Str} (h : ∀ us : List Value, us.length = ps.length -> bindArgs fd ⟨us, []⟩ = pure (ps.zip us)) : Binds K fd ps [] := fun s us _ hl => by
 rw [List.append_nil] at hl ⊢;exact .of_eq (h us hl)
def Passes (CX : CXT) (X : Cx) (E : XK) : Prop := ∀ (pins : Pnx) (σ : St) (H : Hp) (s : Shared) (e : Value) (s' : Shared), Inv X pins σ H s -> CX X.stack H s E e s' -> X.xe e s'
section
variable {X : Cx} {CX : CXT} {k : Nat} {f C : Addr} {fd : FuncData} {ps : List Str} {sp : Sp} {dvs : List V} {ds : List Value} {E : XK} {x m : Str} {p pos apos : Pos} {e o : Expr} {es : List Expr} {ta : TE} {t : TA}
theorem zpe {pins : Pnx} {σ : St} {H : Hp} {s : Shared} {Q : VK} {us : List Value} {vs : List V} (F : FnOk X.prog X.w X.K X.mg X.base CX k f fd ps sp) (hr : Room k X.A) (hb : Binds X.K fd ps ds) (hd : Vals dvs ds) (hx : Passes CX X E)
    (I : Inv X pins σ H s) (r : Vals vs us) (h : sp (vs ++ dvs) H Q E) : wpAny (model X.prog X.w) X.A (call (.ref f) us) (EP X pins σ Q) X.xe s := by
  have r2 : Vals (vs ++ dvs) (us ++ ds) := r.append hd;have hl : (us ++ ds).length = ps.length := by rw [<- r2.length]; exact F.len _ _ _ _ h
  refine wpAny_call (codeAny_mono (F.run X.A X.stack s H ⟨us, []⟩ (us ++ ds) (vs ++ dvs) Q E hr I.env0 (hb s us I.kIn hl) r2 h) fun r s' hq => ?_)
  cases r with
  | error e => exact hx pins σ H s e s' I hq
  | ok fl =>
    cases fl with
    | ret u => exact I.after hq
    | next => exact False.elim hq
    | brk => exact False.elim hq
    | cont => exact False.elim hq
theorem znF (F : FnOk X.prog X.w X.K X.mg X.base CX k f fd ps sp) (hr : Room k X.A) (hg : Gl X x) (hm : X.mg x = some (.ref f)) (hk : PySem.W.keepIn X.K (.ref f) = true) (hb : Binds X.K fd ps ds) (hd : Vals dvs ds) (hx : Passes CX X E)
  (ha : PA X (e :: es) t) (hdb : (x == ("__debug__" : Str)) = false := by decide) (he : starEach (e :: es) X.env = (false, eval e X.env) :: starEach es X.env := by rfl) (hpl : (backTo pos (starEach es X.env)).any (·.1) = false := by rfl) :
  PE X (.Call (.Name x p) (e :: es) [] pos) (zsU sp dvs E t) := by
 intro pins s σ H Q I h;refine wpAny_Call_Name_kw (zcx I hg hm ?_ hdb);refine PySem.W.callWith_K (h₀ := X.base) I.ok.mod.kin hk (thn (ha pos pins s σ H _ I h) fun us s1 ⟨vs, H1, I1, r, q⟩ => ⟨I1.kIn, ?_⟩) he hpl;exact zpe F hr hb hd hx I1 r q
structure Mk (K : Fgx) (C f : Addr) : Prop where
 makes : PySem.W.makesIn K C = true
 init : PySem.W.findIn K (.ref C) "__init__" = some (some (.ref f))
 fn : PySem.W.isFn K (.ref f) = true
 kp : PySem.W.keepIn K (.ref C) = true
theorem zmv {pins : Pnx} {σ : St} {H : Hp} {s : Shared} {Q : VK} {us : List Value} {vs : List V} (M : Mk X.K C f) (F : FnOk X.prog X.w X.K X.mg X.base CX k f fd ps sp) (hr : Room (k + 1) X.A) (hb : Binds X.K fd ps ds) (hd : Vals dvs ds)
    (hx : Passes CX X E) (I : Inv X pins σ H s) (r : Vals vs us)
    (h : ∀ x dx, H x = none -> H dx = none -> dx ≠ x -> sp (.ref x :: (vs ++ dvs)) (upd (upd H dx (.own x)) x (.ins C dx [])) (fun v H2 => v = .non /\ Q (.ref x) H2) E) :
    wpAny (model X.prog X.w) X.A (call (.ref C) us) (EP X pins σ Q) X.xe s := by
  have hq := h (s.heap.objs.size + 1) s.heap.objs.size (I.hok.fresh (Nat.le_succ _)) (I.hok.fresh (Nat.le_refl _)) (Nat.ne_of_lt (Nat.lt_succ_self _));have I2 := Inv.made (C := C) I;have r2 : Vals (V.ref (s.heap.objs.size + 1) :: (vs ++ dvs)) (Value.ref (s.heap.objs.size + 1) :: (us ++ ds)) := .cons rfl (r.append hd);have hl : (Value.ref (s.heap.objs.size + 1) :: us ++ ds).length = ps.length := by
    have e := r2.length;rw [F.len _ _ _ _ hq] at e;exact e.symm
  refine wpAny_call (zl0 (f := f) I.kIn M.makes M.init (beq_iff_eq.mp M.fn) (codeAny_mono (F.run _ X.stack _ _ ⟨Value.ref (s.heap.objs.size + 1) :: us, []⟩ (Value.ref (s.heap.objs.size + 1) :: (us ++ ds)) _ _ E (hr.make C us [])
    (I2.env0.make C us []) (hb _ (Value.ref (s.heap.objs.size + 1) :: us) I2.kIn hl) r2 hq) fun r s' hq' => ?_))
  cases r with
  | error e => exact hx pins σ _ _ e s' I2 hq'
  | ok fl =>
    cases fl with
    | ret u =>
      obtain ⟨v, H', I3, rv, ev, q3⟩ := I2.after hq';subst ev;exact ⟨rv, ⟨V.ref (s.heap.objs.size + 1), H', I3, rfl, q3⟩⟩
    | next => exact False.elim hq'
    | brk => exact False.elim hq'
    | cont => exact False.elim hq'
theorem zoz (M : Mk X.K C f) (F : FnOk X.prog X.w X.K X.mg X.base CX k f fd ps sp) (hr : Room (k + 1) X.A) (hg : Gl X x) (hm : X.mg x = some (.ref C)) (hb : Binds X.K fd ps ds) (hd : Vals dvs ds) (hx : Passes CX X E)
  (ha : PA X (e :: es) t) (hdb : (x == ("__debug__" : Str)) = false := by decide) (he : starEach (e :: es) X.env = (false, eval e X.env) :: starEach es X.env := by rfl) (hpl : (backTo pos (starEach es X.env)).any (·.1) = false := by rfl) :
  PE X (.Call (.Name x p) (e :: es) [] pos) (ztf C sp dvs E t) := by
 intro pins s σ H Q I h;refine wpAny_Call_Name_kw (zcx I hg hm ?_ hdb);refine PySem.W.callWith_K (h₀ := X.base) I.ok.mod.kin M.kp (thn (ha pos pins s σ H _ I h) fun us s1 ⟨vs, H1, I1, r, q⟩ => ⟨I1.kIn, ?_⟩) he hpl;exact zmv M F hr hb hd hx I1 r q
end
section
variable {X : Cx} {CX : CXT} {k : Nat} {f C : Addr} {fd : FuncData} {ps ks : List Str} {sp : Sp} {E : XK} {x m : Str} {p pos apos kpos : Pos} {e o : Expr} {es : List Expr} {kws : List Keyword} {te ta : TE} {t tk : TA} {nm : Option Str}
structure KBinds (K : Fgx) (fd : FuncData) (ps ks : List Str) (g : List Value -> List Value -> List Value) (gV : List V -> List V -> List V) : Prop where
 to : ∀ (s : Shared) (us ws : List Value), K.In s.heap -> (g us ws).length = ps.length -> BindsTo s fd ⟨us, ks.zip ws⟩ (ps.zip (g us ws))
 rel : ∀ {vs : List V} {us : List Value} {zs : List V} {ws : List Value}, Vals vs us -> Vals zs ws -> Vals (gV vs zs) (g us ws)
variable {g : List Value -> List Value -> List Value} {gV : List V -> List V -> List V}
end
structure FnScope (N P : List Str) (sc : Scope) : Prop where
 kind : sc.kind = .function
 co : sc.isCoroutine = false
 gen : sc.isGenerator = false
 nd : N.Nodup
 pre : N.take P.length = P
 par : ∀ x ∈ P, sc.names.lookup x = some .local \/ sc.names.lookup x = some .cell
 nofree : ∀ y ∈ sc.names, y.2 ≠ .free
theorem zhz {kindOf : Str -> Option NameKind} {x : Str} : ∀ {binds : List (Str × Value)} {m : Mgx}, (∀ v, (x, v) ∉ binds) -> bindL kindOf binds m x = m x
  | [], _, _ => rfl
  | (n, v) :: r, m, h => by
    unfold bindL;rw [zhz fun w hw => h w (List.mem_cons_of_mem _ hw)]
    split
    · have : x ≠ n := by rintro rfl; exact h v List.mem_cons_self
      simp [this]
    · rfl
theorem zhQ {kindOf : Str -> Option NameKind} {x : Str} : ∀ {binds : List (Str × Value)} {m : Mgx}, (∀ v, (x, v) ∉ binds) -> bindC kindOf binds m x = m x
  | [], _, _ => rfl
  | (n, v) :: r, m, h => by
    unfold bindC;rw [zhQ fun w hw => h w (List.mem_cons_of_mem _ hw)]
    split
    · rfl
    · have : x ≠ n := by rintro rfl; exact h v List.mem_cons_self
      simp [this]
theorem zhx {kindOf : Str -> Option NameKind} {x : Str} {v : Value} : ∀ {P : List Str} {vs : List Value} {i : Nat} {m : Mgx}, P.Nodup -> P[i]? = some x -> vs[i]? = some v -> kindOf x = some .local ->
    bindL kindOf (P.zip vs) m x = some v
  | [], _, _, _, _, h, _, _ => by simp at h
  | _ :: _, [], _, _, _, _, h, _ => by simp at h
  | p :: P, w :: vs, 0, m, nd, h1, h2, hk => by
    simp at h1 h2; subst h1; subst h2
    show bindL kindOf ((p, w) :: P.zip vs) m p = _;unfold bindL;rw [zhz fun v hv => (List.nodup_cons.mp nd).1 (List.of_mem_zip hv).1, if_pos hk]
    simp
  | p :: P, w :: vs, i + 1, m, nd, h1, h2, hk => by
    show bindL kindOf ((p, w) :: P.zip vs) m x = _;unfold bindL;exact zhx (i := i) (List.nodup_cons.mp nd).2 (by simpa using h1) (by simpa using h2) hk
theorem zhJ {kindOf : Str -> Option NameKind} {x : Str} {v : Value} : ∀ {P : List Str} {vs : List Value} {i : Nat} {m : Mgx}, P.Nodup -> P[i]? = some x -> vs[i]? = some v -> kindOf x ≠ some .local ->
    bindC kindOf (P.zip vs) m x = some v
  | [], _, _, _, _, h, _, _ => by simp at h
  | _ :: _, [], _, _, _, _, h, _ => by simp at h
  | p :: P, w :: vs, 0, m, nd, h1, h2, hk => by
    simp at h1 h2; subst h1; subst h2
    show bindC kindOf ((p, w) :: P.zip vs) m p = _;unfold bindC;rw [zhQ fun v hv => (List.nodup_cons.mp nd).1 (List.of_mem_zip hv).1, if_neg hk]
    simp
  | p :: P, w :: vs, i + 1, m, nd, h1, h2, hk => by
    show bindC kindOf ((p, w) :: P.zip vs) m x = _;unfold bindC;exact zhJ (i := i) (List.nodup_cons.mp nd).2 (by simpa using h1) (by simpa using h2) hk
def start (N : List Str) (vs : List V) : St := vs.map some ++ List.replicate (N.length - vs.length) none
def cxOf (CX : CXT) (P : Program) (w : World) (K : Fgx) (mg : Mgx) (base : Heap) (N : List Str) (qual : Str) (scope : Scope) (f : Addr) (cd : Value) (A : Around) (outer : List Env) (s : Shared) (H : Hp) (E : XK) : Cx where
 prog := P
 w := w
 K := K
 mg := mg
 base := base
 A := A.deeper (envOfC qual scope s.heap.objs.size f cd)
 N := N
 s₀ := s
 H₀ := H
 env := envOfC qual scope s.heap.objs.size f cd
 outer := outer
 stack := envOfC qual scope s.heap.objs.size f cd :: outer
 ex := []
 calm := true
 fn := fun _ => true
 pn := []
 xe := fun e s' => wpAny (model P w) (A.deeper (envOfC qual scope s.heap.objs.size f cd)) (leaving (envOfC qual scope s.heap.objs.size f cd) e) (fun _ s'' => CX outer H s E e s'') (fun e' s'' => CX outer H s E e' s'') s'
theorem zje {sc : Scope} {n : Nat} {x : Str} (h : sc.names.lookup x = some .cell) : ∃ c, (cellsFrom n sc.names []).lookup x = some c := by
 have q := PySem.W.cellsFrom_some sc.names n [] (.inl h);exact Option.isSome_iff_exists.mp q
theorem zk2 {CX : CXT} {P : Program} {w : World} {K : Fgx} {mg : Mgx} {base : Heap} {N ps : List Str} {qual : Str} {scope : Scope} {f : Addr} {cd : Value} {A : Around} {outer : List Env} {s s1 : Shared} {H : Hp} {E : XK} {us : List Value} {vs : List V}
  (S : FnScope N ps scope) (hd : A.handled = none) (e0 : Env0 P w K mg base A outer s H) (hl : vs.length = ps.length) (r : Vals vs us)
  (x : InCallC s s.heap.objs.size (bindL (envOfC qual scope s.heap.objs.size f cd).kindOf (ps.zip us) fun _ => none) (cellsFrom (s.heap.objs.size + 1) scope.names []) (bindC (envOfC qual scope s.heap.objs.size f cd).kindOf (ps.zip us) fun _ => none) s1) :
  Inv (cxOf CX P w K mg base N qual scope f cd A outer s H E) [] (start N vs) H s1 := by
 have hpl : ps.length <= N.length := by have := congrArg List.length S.pre; rw [List.length_take] at this; omega
 obtain ⟨h1, tk, rfl, hk⟩ := x.done;have noA : ∀ b : Addr, b ∉ (cxOf CX P w K mg base N qual scope f cd A outer s H E).ex := fun b z => absurd (show b ∈ ([] : List Addr) from z) (by simp);refine ⟨⟨e0.mod, S.kind, rfl, rfl, Nat.le_refl _, fun y z c h1 h2 => ?_, fun y hy => ?_, fun y c _ h => ?_, fun _ => hd, Around.frames_deeper e0.frames, .inr ⟨rfl, rfl⟩, fun b z => absurd z (noA b), e0.bs, e0.bsz, fun b _ _ => noA b, fun b z => absurd z (noA b), e0.funs, e0.frf⟩,
  rfl, e0.bare, Un.kept hk, ⟨_, x.toInCall.ns, fun i y v h1 h2 h3 => ?_⟩, fun y c h => ⟨_, x.cell y c h⟩, e0.hok.fresh (Nat.le_refl _), fun y c h => ?_, fun p hp => absurd (show p ∈ ([] : Pnx) from hp) (by simp), e0.hok.kept hk, ?_⟩
 ·exact name_of_addr x.apart (PySem.mem_of_lookup h1) (PySem.mem_of_lookup h2)
 ·have hy : scope.names.lookup y = some .cell \/ scope.names.lookup y = some .free := hy;rcases hy with hy | hy
  ·exact zje hy
  ·exact absurd rfl (S.nofree _ (PySem.mem_of_lookup hy))
 ·exact Nat.le_of_lt (x.above y c (PySem.mem_of_lookup h))
 ·have hi : i < vs.length := by
   unfold start at h2
   by_cases hi : i < vs.length
   ·exact hi
   ·rw [List.getElem?_append_right (by simpa using hi)] at h2;rw [List.getElem?_replicate] at h2;split at h2 <;> cases h2
  have ha : vs[i]? = some v := by
   unfold start at h2;rw [List.getElem?_append_left (by simpa using hi), List.getElem?_map] at h2
   cases e : vs[i]? with
   | none => rw [e] at h2; cases h2
   | some a => rw [e] at h2; cases h2; rfl
  obtain ⟨u, hu, rv⟩ := r.get ha;have hp : ps[i]? = some y := by
   rw [<- S.pre, List.getElem?_take_of_lt (by omega)]; exact h1
  have ndP : ps.Nodup := by rw [<- S.pre]; exact S.nd.sublist (List.take_sublist _ _)
  refine ⟨u, rv, ?_⟩;rcases S.par y (List.mem_of_getElem? hp) with k | k
  ·exact .inl ⟨k, zhx ndP hp hu k⟩
  ·obtain ⟨c, e⟩ := zje (n := s.heap.objs.size + 1) k;refine .inr ⟨.inl k, c, e, ?_⟩;have q := x.cell y c e;rw [zhJ ndP hp hu (by show scope.names.lookup y ≠ _; rw [k]; decide)] at q;exact q
 ·exact e0.hok.fresh (Nat.le_of_lt (x.above y c (PySem.mem_of_lookup h)))
 ·unfold start;show _ = N.length;rw [List.length_append, List.length_map, List.length_replicate];omega
theorem znZ {CX : CXT} {P : Program} {w : World} {K : Fgx} {mg : Mgx} {base : Heap} {k : Nat} {f : Addr} {name qual : Str} {params : Arguments} {body : List Stmt} {scope : Scope} {dV kV doc pm cdv ct oc : Value} {an od : Option Addr}
    {osl : Array (Option Value)} {N ps : List Str} {sp : Sp} (lk : K.lookup f = some ⟨oc, od, .func (PySem.W.fnOf name qual params body scope dV kV doc pm an cdv ct), osl⟩) (hcd : PySem.W.codeIn K cdv qual = true) (S : FnScope N ps scope)
    (len : ∀ vs H Q E, sp vs H Q E -> vs.length = ps.length)
    (hbody : ∀ (A : Around) (outer : List Env) (s : Shared) (H : Hp) (vs : List V) (Q : VK) (E : XK), Room k (A.deeper (envOfC qual scope s.heap.objs.size f cdv)) -> sp vs H Q E ->
      ∃ t, PSs (cxOf CX P w K mg base N qual scope f cdv A outer s H E) body t /\ t { nx := fun _ H' => Q .non H', rt := Q } (start N vs) H) :
    FnOk P w K mg base CX (k + 1) f (PySem.W.fnOf name qual params body scope dV kV doc pm an cdv ct) ps sp := by
  refine ⟨len, fun A outer s H args us vs Q E hr e0 hb r hsp => ?_⟩;have hl := len _ _ _ _ hsp;have KX : K.In s.heap := e0.mod.kin.keeps fun b o e => (e0.bs b o e).1;have lim : s.heap.NoLimit := e0.mod.nolimit.keeps fun b o e => (e0.bs b o e).1;have hkind : ∀ y ∈ ps.zip us, scope.names.lookup y.1 = some .local \/ (scope.names.lookup y.1 = some .cell /\ ((cellsFrom (s.heap.objs.size + 1) scope.names []).lookup y.1).isSome = true) := fun ⟨n, v⟩ hy => by
    rcases S.par n (List.of_mem_zip hy).1 with q | q
    · exact .inl q
    · exact .inr ⟨q, PySem.W.cellsFrom_some _ _ _ (.inl q)⟩
  refine codeAny_call_function hr.depth (KX _ _ lk) rfl S.co S.gen rfl (PySem.W.codeRec_of KX hcd) (hb _ _ _ _ ?_);refine wpAny_newFunctionEnv_cells S.kind hkind fun env he s1 x => ?_;subst he;refine ⟨lim.keeps x.toInCall.keep, codeAny_func ?_⟩;obtain ⟨t, ht, hq⟩ := hbody A outer s H vs Q E (hr.deeper _) hsp;have I : Inv (cxOf CX P w K mg base N qual scope f cdv A outer s H E) [] (start N vs) H s1 := zk2 S hr.hd e0 hl r x;refine wpAny_mono (ht [] s1 (start N vs) H _ I hq) (fun fl s' hs => ?_) fun e s' hs => hs;have fin : ∀ {σ' : St} {H' : Hp} {v : V} {u : Value}, Inv (cxOf CX P w K mg base N qual scope f cdv A outer s H E) [] σ' H' s' -> RelV v u -> Q v H' -> CE outer P w H s Q u s' :=
    fun {σ' H' v u} J rv q => ⟨v, H', J.os, J.bare, J.base, J.hok, rv, q⟩
  cases fl with
  | ret u =>
    obtain ⟨v, σ', H', J, rv, q⟩ := hs;exact fin J rv q
  | next =>
    obtain ⟨σ', H', J, q⟩ := hs;exact fin (v := V.non) (u := Value.none) J rfl q
  | brk =>
    obtain ⟨_, _, _, q⟩ := hs;exact False.elim q
  | cont =>
    obtain ⟨_, _, _, q⟩ := hs;exact False.elim q
section
variable {X : Cx} {x : Str} {p pos : Pos} {e : Expr} {es : List Expr} {t : TA} {id T : String} {r : List V -> Hp -> VK -> Prop}
def tCB (r : List V -> Hp -> VK -> Prop) (t : TA) : TE := fun σ H Q => t σ H fun vs H1 => r vs H1 Q
theorem zmd (hc : zdT X (.builtin id) r) (hg : Gl X x) (hm : X.mg x = none) (hv : bootBuiltins x = some (.builtin id)) (ha : PA X (e :: es) t) (hn : x ≠ "__name__" := by decide) (hdb : (x == ("__debug__" : Str)) = false := by decide)
  (he : starEach (e :: es) X.env = (false, eval e X.env) :: starEach es X.env := by rfl) (hpl : (backTo pos (starEach es X.env)).any (·.1) = false := by rfl) : PE X (.Call (.Name x p) (e :: es) [] pos) (tCB r t) := by
 intro pins s σ H Q I h;refine wpAny_Call_Name_kw (zig I hg hm hv ?_ hn hdb);exact PyProof.Rows.callWith_builtin1 (thn (ha pos pins s σ H _ I h) fun us s1 ⟨vs, H1, I1, r1, q1⟩ => hc pins s1 σ H1 vs us Q I1 r1 q1) he hpl
theorem zkw (hc : zdT X (.type T) r) (hg : Gl X x) (hm : X.mg x = none) (hv : bootBuiltins x = some (.type T)) (ha : PA X (e :: es) t) (hn : x ≠ "__name__" := by decide) (hdb : (x == ("__debug__" : Str)) = false := by decide)
  (he : starEach (e :: es) X.env = (false, eval e X.env) :: starEach es X.env := by rfl) (hpl : (backTo pos (starEach es X.env)).any (·.1) = false := by rfl) : PE X (.Call (.Name x p) (e :: es) [] pos) (tCB r t) := by
 intro pins s σ H Q I h;refine wpAny_Call_Name_kw (zig I hg hm hv ?_ hn hdb);exact PyProof.Rows.callWith_type1 (thn (ha pos pins s σ H _ I h) fun us s1 ⟨vs, H1, I1, r1, q1⟩ => hc pins s1 σ H1 vs us Q I1 r1 q1) he hpl
end
end L2
namespace HT
open PySem PyProof.Rows
section
open PySem.SeqAt
open PySem.AutoSeq1 (wpAny_loadPart')
open PySem.MeetsSeq PySem.MeetsSeq2 PySem.MeetsSeq3
end
section
variable {prog : Program} {w : World} {A : Around} {E : Value -> Shared -> Prop} {s : Shared}
theorem zn1 {t b : Addr} {vs ws : List Value} {Q : Value -> Shared -> Prop} (ht : IsTup s.heap t vs.toArray) (hb : IsTup s.heap b ws.toArray) (hv : vs ≠ [])
  (h1 : ws = [] -> Q (.ref t) s) (h2 : ws ≠ [] -> Q (.ref s.heap.objs.size) { s with heap := s.heap.push { cls := .type "tuple", data := .seq (vs ++ ws).toArray } })
  (hsz : vs.length + ws.length <= sizeLine) : wpAny (model prog w) A (binaryOp .Add (.ref t) (.ref b)) Q E s := by
 obtain ⟨⟨cls, dd, data, sl⟩, ho, hc, n, hd⟩ := id ht;obtain ⟨⟨cls2, dd2, data2, sl2⟩, ho2, hc2, n2, hd2⟩ := id hb;simp only at hc hd hc2 hd2;subst hc hd hc2 hd2;have e : vs.toArray ++ ws.toArray = (vs ++ ws).toArray := by simp
 by_cases hw : ws = []
 ·exact concat_meets ⟨_, ho, rfl⟩ ⟨_, ho2, rfl⟩ noFill_tuple_add seq_tuple_add PySem.F.slot_tuple_add PySem.F.entry_tuple_add (PySem.F.args_tuple_add_2 _ _)
   (tuple_addW1 t b vs.toArray ws.toArray n n2 dd dd2 sl sl2 (by simpa using hv) (by simp [hw])) ⟨ho, ho2, h1 hw⟩
 ·refine concat_meets ⟨_, ho, rfl⟩ ⟨_, ho2, rfl⟩ noFill_tuple_add seq_tuple_add PySem.F.slot_tuple_add PySem.F.entry_tuple_add (PySem.F.args_tuple_add_2 _ _)
   (tuple_addW2 t b vs.toArray ws.toArray n n2 dd dd2 sl sl2 (by simpa using hv) (by simpa using hw) (by rw [List.size_toArray, List.size_toArray]; exact hsz)) ⟨ho, ho2, ?_⟩
  rw [e];exact h2 hw
def sIx (n d : Nat) : Option Int -> Nat
 | none => d
 | some v => if v < 0 then (v + (n : Int)).toNat else min v.toNat n
theorem zlQ (n d : Nat) : sIx n d none = d := rfl
theorem ziS (n d k : Nat) : sIx n d (some (k : Int)) = min k n := by
 show (if (k : Int) < 0 then ((k : Int) + (n : Int)).toNat else min (k : Int).toNat n) = min k n
 rw [if_neg (by omega), Int.toNat_natCast]
theorem zp8 (n d : Nat) (hd : d <= n) (o : Option Int) : sIx n d o <= n := by
  cases o with
  | none => exact hd
  | some v =>
    show (if v < 0 then (v + (n : Int)).toNat else min v.toNat n) <= n
    by_cases hv : v < 0
    · rw [if_pos hv]; omega
    · rw [if_neg hv]; exact Nat.min_le_right _ _
theorem zkT (v : Int) (n d : Nat) : (if v < 0 then max (v + (n : Int)) 0 else min v (n : Int)) = ((sIx n d (some v) : Nat) : Int) := by
 show (if v < 0 then max (v + (n : Int)) 0 else min v (n : Int)) = (((if v < 0 then (v + (n : Int)).toNat else min v.toNat n) : Nat) : Int)
 by_cases hv : v < 0
 ·simp only [if_pos hv]; omega
 ·simp only [if_neg hv]; omega
theorem zjT (lo hi : Option Int) (n : Nat) : Builtin.Slice.sliceAdjust lo hi 1 (n : Int) = (((sIx n 0 lo : Nat) : Int), ((sIx n n hi : Nat) : Int)) := by
 have h1 : ¬ ((1 : Int) < 0) := by omega
 unfold Builtin.Slice.sliceAdjust;simp only [h1, if_false];refine Prod.ext ?_ ?_
 ·cases lo with
  | none => rfl
  | some v => exact zkT v n 0
 ·cases hi with
  | none => rfl
  | some v => exact zkT v n n
theorem zjv (i j : Nat) : Builtin.Slice.slicePlaces (i : Int) (j : Int) 1 = j - i := by
 unfold Builtin.Slice.slicePlaces;have h1 : (1 : Int) > 0 := by omega
 simp only [h1, if_true, Int.ediv_one]
 split <;> omega
theorem zgW {v : Value} {o : Option Int} {Q : Option Int -> Shared -> Prop} (p : IsPart v o) (h : Q o s) : wpAny (model prog w) A (Builtin.Slice.slicePartIndex v) Q E s := by
 cases p with
 | none => exact slicePart_none h
 | int i t => exact slicePart_int h
theorem zfj {sl : Addr} {vl vu : Value} {lo hi : Option Int} {n : Nat} {Q : Int × Int × Nat -> Shared -> Prop} (hs : s.heap.IsSliceOf sl vl vu .none) (pl : IsPart vl lo) (pu : IsPart vu hi)
  (h : Q (((sIx n 0 lo : Nat) : Int), 1, sIx n n hi - sIx n 0 lo) s) : wpAny (model prog w) A (Builtin.Slice.sliceApplied (.ref sl) (pure (n : Int))) Q E s := by
 obtain ⟨os, hos, hcs, hds⟩ := id hs;unfold Builtin.Slice.sliceApplied Builtin.Slice.sliceFields;refine wpAny_bind (wpAny_bind (wpAny_field hos hds (x := vl) rfl (wpAny_bind (wpAny_field hos hds (x := vu) rfl (wpAny_bind (wpAny_field hos hds (x := .none) rfl (wpAny_pure ?_)))))));refine wpAny_bind (slicePart_none ?_);show wpAny _ _ (if ((1 : Int) == 0) = true then _ else _) _ _ s
 rw [if_neg (by decide)];refine wpAny_bind (zgW pl (wpAny_bind (zgW pu (wpAny_bind (wpAny_pure ?_)))));show wpAny _ _ (match Builtin.Slice.sliceAdjust lo hi 1 (n : Int) with | (lo, hi) => pure (lo, (1 : Int), Builtin.Slice.slicePlaces lo hi 1)) _ _ s
 rw [zjT lo hi n];show wpAny _ _ (pure (((sIx n 0 lo : Nat) : Int), (1 : Int), Builtin.Slice.slicePlaces ((sIx n 0 lo : Nat) : Int) ((sIx n n hi : Nat) : Int) 1)) _ _ s;rw [zjv];exact wpAny_pure h
theorem zlU (xs : Array Value) (i k : Nat) : ((List.range k).filterMap fun (m : Nat) => xs[((i : Int) + (m : Int) * 1).toNat]?).toArray = ((xs.toList.drop i).take k).toArray := by
 have e : (fun (m : Nat) => xs[((i : Int) + (m : Int) * 1).toNat]?) = fun m => xs[i + m]? := by
  funext m;have : ((i : Int) + (m : Int) * 1).toNat = i + m := by omega
  rw [this]
 rw [e];have := pick_run xs i k;rw [List.filterMap_map] at this;have e2 : ((fun x => xs[x]?) ∘ fun x => i + x) = fun m => xs[i + m]? := rfl;rw [e2] at this;rw [this]
theorem zeY {t sl : Addr} {items : Array Value} {vl vu : Value} {lo hi : Option Int} {Q : Value -> Shared -> Prop} (ht : IsTup s.heap t items) (hs : s.heap.IsSliceOf sl vl vu .none) (pl : IsPart vl lo) (pu : IsPart vu hi)
  (hw : ¬ (sIx items.size 0 lo = 0 /\ sIx items.size items.size hi = items.size))
  (h : Q (.ref s.heap.objs.size) { s with heap := s.heap.push { cls := .type "tuple", data := .seq ((items.toList.drop (sIx items.size 0 lo)).take (sIx items.size items.size hi - sIx items.size 0 lo)).toArray } })
  (hsz : items.size <= sizeLine) : wpAny (model prog w) A (getItem (.ref t) (.ref sl)) Q E s := by
 have htake : sizeOk (.seq ((items.toList.drop (sIx items.size 0 lo)).take (sIx items.size items.size hi - sIx items.size 0 lo)).toArray) := by
  show ((items.toList.drop (sIx items.size 0 lo)).take (sIx items.size items.size hi - sIx items.size 0 lo)).toArray.size <= sizeLine;rw [List.size_toArray, List.length_take, List.length_drop, Array.length_toList];omega
 have hj : sIx items.size items.size hi <= items.size := zp8 _ _ (Nat.le_refl _) hi;obtain ⟨os, hos, hcs, hds⟩ := id hs;have hTs : s.TypeIs (.ref sl) "slice" := ⟨os, hos, hcs⟩;unfold getItem
 try with_reducible refine wpAny_holding ?_
 first | refine wpAny_bind (wpAny_pure ?_) | skip
 refine wpAny_bind (wpAny_sequenceKey ht.typeIs (by decide) ?_);refine wpAny_bind (wpAny_callSpecial?_slot (name := Str.ofString "__getitem__") ht.typeIs PyProof.Rows.slot_tuple_getitem
  (wpAny_call_entry PyProof.Rows.slot_tuple_getitem ht.typeIs entry_tuple_getitem ?_ (args_tuple_getitem _ _)))
 show wpAny _ _ (Builtin.Tuple.tupleItemsOf (.ref t) >>= _) _ _ s;refine wpAny_bind (tupleItemsOf_ ht ?_);refine wpAny_bind (wpAny_typeOf hTs ?_);rw [if_pos (by decide)];refine wpAny_bind (zfj hs pl pu ?_);have hno : ¬ ((((sIx items.size 0 lo : Nat) : Int) == 0 && (1 : Int) == 1 && (sIx items.size items.size hi - sIx items.size 0 lo) == items.size) = true) := by
  intro q;rw [Bool.and_eq_true, Bool.and_eq_true] at q;have q1 : ((sIx items.size 0 lo : Nat) : Int) = 0 := eq_of_beq q.1.1;have q2 : sIx items.size items.size hi - sIx items.size 0 lo = items.size := eq_of_beq q.2;exact hw ⟨by omega, by omega⟩
 show wpAny _ _ (if (((sIx items.size 0 lo : Nat) : Int) == 0 && (1 : Int) == 1 && (sIx items.size items.size hi - sIx items.size 0 lo) == items.size) = true then _ else _) _ _ s
 rw [if_neg hno, zlU]
 first
  | exact wpAny_bind (m := Builtin.Tuple.tupleExact _) (wpAny_newObj_type (wpAny_pure ⟨_, rfl, wpAny_pure h⟩) htake)
  | exact wpAny_bind (m := Builtin.Tuple.tupleExact _) (wpAny_newObj_type (wpAny_bind (wpAny_pure (wpAny_pure ⟨_, rfl, wpAny_pure h⟩))) htake)
  | exact wpAny_bind (wpAny_bind (m := Builtin.Tuple.tupleExact _) (wpAny_newObj_type (wpAny_pure (wpAny_pure ⟨_, rfl, wpAny_pure h⟩)) htake))
  | exact wpAny_bind (wpAny_bind (m := Builtin.Tuple.tupleExact _) (wpAny_newObj_type (wpAny_pure ⟨_, rfl, wpAny_pure h⟩) htake))
end
end HT
namespace L2
open PySem PySem.Spec PyProof.Rows
abbrev TO := St -> Hp -> (Option Int -> Hp -> Prop) -> Prop
def PO (X : Cx) (e : Option Expr) (t : TO) : Prop :=
 ∀ (pins : Pnx) (s : Shared) (σ : St) (H : Hp) (Q : Option Int -> Hp -> Prop), Inv X pins σ H s -> t σ H Q ->
  wpAny (model X.prog X.w) X.A (evalPart e X.env) (fun u s' => ∃ o H', Inv X pins σ H' s' /\ IsPart u o /\ Q o H') X.xe s
def zoj : TO := fun _ H Q => Q none H
def zsi (t : TE) : TO := fun σ H Q => t σ H fun x H1 => ∃ i, x = .int i /\ Q (some i) H1
section
variable {X : Cx} {e : Expr} {te : TE} {lo hi : Option Expr} {tl th : TO} {pos p2 : Pos}
theorem zoS : PO X none zoj := by
 intro pins s σ H Q I h;rw [evalPart_none];exact wpAny_pure ⟨none, H, I, .none, h⟩
theorem zo1 (h : PE X e te) : PO X (some e) (zsi te) := by
 intro pins s σ H Q I hw;rw [evalPart_some];refine thn (h pins s σ H _ I hw) fun u s1 ⟨x, H1, I1, r1, q1⟩ => ?_;obtain ⟨i, rfl, q⟩ := q1;obtain ⟨t, rfl⟩ := r1;exact ⟨some i, H1, I1, .int i t, q⟩
def SlR (X : Cx) (r : V -> Option Int -> Option Int -> Hp -> VK -> Prop) : Prop :=
 ∀ (pins : Pnx) (s : Shared) (σ : St) (H : Hp) (x : V) (v vl vu : Value) (lo hi : Option Int) (sl : Addr) (Q : VK), Inv X pins σ H s -> RelV x v -> s.heap.IsSliceOf sl vl vu .none -> IsPart vl lo -> IsPart vu hi -> r x lo hi H Q ->
  ∃ T id, typeLookup (.type T) "__getitem__" = pure (some (.builtin id)) /\ s.TypeIs v T /\ wpAny (model X.prog X.w) X.A (getItem v (.ref sl)) (EP X pins σ Q) X.xe s
theorem SlR.or {r r' : V -> Option Int -> Option Int -> Hp -> VK -> Prop} (h : SlR X r) (h' : SlR X r') : SlR X (fun x lo hi H Q => r x lo hi H Q \/ r' x lo hi H Q) := by
 intro pins s σ H x v vl vu lo hi sl Q I rx hs pl pu q;rcases q with q | q
 ·exact h pins s σ H x v vl vu lo hi sl Q I rx hs pl pu q
 ·exact h' pins s σ H x v vl vu lo hi sl Q I rx hs pl pu q
def tSl (r : V -> Option Int -> Option Int -> Hp -> VK -> Prop) (te : TE) (tl th : TO) : TE := fun σ H Q => te σ H fun x H1 => tl σ H1 fun l H2 => th σ H2 fun u H3 => r x l u H3 Q
theorem ziU {r : V -> Option Int -> Option Int -> Hp -> VK -> Prop} (hr : SlR X r) (he : PE X e te) (hl : PO X lo tl) (hu : PO X hi th) : PE X (.Subscript e (.Slice lo hi none p2) pos) (tSl r te tl th) := by
 intro pins s σ H Q I h;refine Subscript_ (thn (he pins s σ H _ I h) fun v s1 ⟨x, H1, I1, r1, q1⟩ => ?_);refine wpAny_Slice (thn (hl pins s1 σ H1 _ I1 q1) fun vl s2 ⟨l, H2, I2, pl, q2⟩ => thn (hu pins s2 σ H2 _ I2 q2) fun vu s3 ⟨u, H3, I3, pu, q3⟩ => ?_);rw [evalPart_none];refine wpAny_pure ?_;have I4 : Inv X pins σ H3 { s3 with heap := s3.heap.push { cls := .type "slice", data := .fields #[vl, vu, .none] } } := I3.kept (t' := s3.toks) fun b ob q => Heap.get?_push_of_some _ q;obtain ⟨T, id, hT, ht, hg⟩ := hr pins { s3 with heap := s3.heap.push { cls := .type "slice", data := .fields #[vl, vu, .none] } } σ H3 x v vl vu l u s3.heap.objs.size Q I4 r1 (Heap.IsSliceOf.new ..) pl pu q3;show wpAny (model X.prog X.w) X.A (subscriptTail e (.Slice lo hi none p2) v (.ref s3.heap.objs.size)) (EP X pins σ Q) X.xe { s3 with heap := s3.heap.push { cls := .type "slice", data := .fields #[vl, vu, .none] } };exact tail_any (ops := [.ref s3.heap.objs.size, v]) ht hT hg (by with_unfolding_all rfl)
def cutV (xs : List V) (lo hi : Option Int) : List V := (xs.drop (HT.sIx xs.length 0 lo)).take (HT.sIx xs.length xs.length hi - HT.sIx xs.length 0 lo)
theorem zfu (xs : List V) (lo hi : Option Int) : (cutV xs lo hi).length <= xs.length := by
 unfold cutV;rw [List.length_take, List.length_drop];omega
def rSlT (K : Fgx) : V -> Option Int -> Option Int -> Hp -> VK -> Prop := fun x lo hi H Q => ∃ a xs, x = .ref a /\ SqT K H a xs /\
 ¬ (HT.sIx xs.length 0 lo = 0 /\ HT.sIx xs.length xs.length hi = xs.length) /\ ∀ p, H p = none -> Q (.ref p) (upd H p (.tup (cutV xs lo hi)))
theorem zpb : SlR X (rSlT X.K) := by
 intro pins s σ H x v vl vu lo hi sl Q I rx hs pl pu h;obtain ⟨a, xs, rfl, hx, hw, q⟩ := h;cases rx;obtain ⟨its, r, ht, hz⟩ := I.tuple hx;have hlen : its.toArray.size = xs.length := by rw [List.size_toArray]; exact r.length.symm
 refine ⟨"tuple", _, PyProof.Rows.slot_tuple_getitem.lookup, ht.typeIs, ?_⟩;refine HT.zeY ht hs pl pu (by rw [hlen]; exact hw) ?_ (by rw [hlen]; exact hz);rw [hlen];refine ⟨.ref s.heap.objs.size, _, I.laid (t' := s.toks) (o := .tup (cutV xs lo hi)) (fun b ob q => Heap.get?_push_of_some _ q) (Nat.le_refl _) ?_, rfl, q _ (I.hok.fresh (Nat.le_refl _))⟩;exact ⟨Nat.le_trans (zfu xs lo hi) hz, _, (r.drop (HT.sIx xs.length 0 lo)).take (HT.sIx xs.length xs.length hi - HT.sIx xs.length 0 lo), IsTup.new _ _⟩
def zpA (K : Fgx) : R2 := fun x y H Q => ∃ a b xs ys, x = .ref a /\ y = .ref b /\ SqT K H a xs /\ SqT K H b ys /\ xs ≠ [] /\ xs.length + ys.length <= sizeLine /\
 (ys = [] -> Q (.ref a) H) /\ (ys ≠ [] -> ∀ p, H p = none -> Q (.ref p) (upd H p (.tup (xs ++ ys))))
theorem Vals.nil_iff {xs : List V} {us : List Value} (r : Vals xs us) : us = [] ↔ xs = [] := by
 cases r with
 | nil => simp
 | cons _ _ => simp
theorem zo3 : OpR X (binaryOp .Add) (zpA X.K) := by
 intro pins s σ H x y v u Q I rx ry h;obtain ⟨a, b, xs, ys, rfl, rfl, ha, hb, hx, hz, q1, q2⟩ := h;cases rx;cases ry;obtain ⟨its, r1, p1, _⟩ := I.tuple ha;obtain ⟨its2, r2, p2, _⟩ := I.tuple hb;refine HT.zn1 p1 p2 (fun z => hx (r1.nil_iff.mp z)) (fun z => ⟨.ref a, H, I, rfl, q1 (r2.nil_iff.mp z)⟩) (fun z => ?_) (by rw [<- r1.length, <- r2.length]; exact hz);refine ⟨.ref s.heap.objs.size, _, I.laid (t' := s.toks) (o := .tup (xs ++ ys)) (fun b ob q => Heap.get?_push_of_some _ q) (Nat.le_refl _) ?_, rfl, q2 (fun w => z (r2.nil_iff.mpr w)) _ (I.hok.fresh (Nat.le_refl _))⟩;exact ⟨by rw [List.length_append]; exact hz, _, r1.append r2, IsTup.new _ _⟩
end
def ixN (n : Nat) (i : Int) : Option Nat := if 0 <= i then (if i < n then some i.toNat else none) else if -(n : Int) <= i then some (i + n).toNat else none
def atI {α : Type} (xs : List α) (i : Int) : Option α := (ixN xs.length i).bind fun j => xs[j]?
theorem znN {n : Nat} {i : Int} {j : Nat} (h : ixN n i = some j) : seqIndex? i n = some j /\ j < n /\ -(n : Int) <= i /\ i < n := by
 unfold ixN at h
 by_cases h0 : 0 <= i
 ·rw [if_pos h0] at h
  by_cases h1 : i < n
  ·rw [if_pos h1] at h;have e : i.toNat = j := Option.some.inj h;exact ⟨by rw [seqIndex_of h0 h1, e], by omega, by omega, h1⟩
  ·rw [if_neg h1] at h; cases h
 ·rw [if_neg h0] at h
  by_cases h1 : -(n : Int) <= i
  ·rw [if_pos h1] at h;have e : (i + n).toNat = j := Option.some.inj h;exact ⟨by rw [seqIndex_neg (by omega) h1, e], by omega, h1, by omega⟩
  ·rw [if_neg h1] at h; cases h
theorem ziG {α : Type} {xs : List α} {i : Int} {v : α} (h : atI xs i = some v) : ∃ j, seqIndex? i xs.length = some j /\ xs[j]? = some v /\ j < xs.length /\ -(xs.length : Int) <= i /\ i < xs.length := by
  unfold atI at h
  cases e : ixN xs.length i with
  | none => rw [e] at h; cases h
  | some j =>
    rw [e] at h;obtain ⟨h1, h2, h3, h4⟩ := znN e;exact ⟨j, h1, h, h2, h3, h4⟩
theorem zfM {α : Type} {xs : List α} {j : Nat} {v : α} (h : xs[j]? = some v) : atI xs (j : Int) = some v := by
 have hj : j < xs.length := (List.getElem?_eq_some_iff.mp h).1;have e : ixN xs.length (j : Int) = some j := by
  unfold ixN;rw [if_pos (by omega), if_pos (by omega)]; simp
 unfold atI; rw [e]; exact h
def zlu (b : Expr) : Prop := ∀ o i, subscripted b false o i = operate [o, i] (getItem o i)
def IxR (X : Cx) (r : R2) : Prop :=
 ∀ (value slice : Expr) (pins : Pnx) (s : Shared) (σ : St) (H : Hp) (x y : V) (v u : Value) (Q : VK), Inv X pins σ H s -> RelV x v -> RelV y u -> r x y H Q ->
  subscripted slice false v u = operate [v, u] (getItem v u) -> wpAny (model X.prog X.w) X.A (subscriptTail value slice v u) (EP X pins σ Q) X.xe s
def MtR (X : Cx) (id : String) (r : V -> List V -> Hp -> VK -> Prop) : Prop :=
 ∀ (pins : Pnx) (s : Shared) (σ : St) (H : Hp) (x : V) (xs : List V) (v : Value) (us : List Value) (Q : VK), Inv X pins σ H s -> RelV x v -> Vals xs us -> r x xs H Q ->
  wpAny (model X.prog X.w) X.A (call (.builtin id) (v :: us)) (EP X pins σ Q) X.xe s
section
variable {X : Cx} {a b : Expr} {ta tb : TE} {pos : Pos}
theorem IxR.or {r r' : R2} (h : IxR X r) (h' : IxR X r') : IxR X (fun x y H Q => r x y H Q \/ r' x y H Q) := by
 intro value slice pins s σ H x y v u Q I rx ry q hs;rcases q with q | q
 ·exact h value slice pins s σ H x y v u Q I rx ry q hs
 ·exact h' value slice pins s σ H x y v u Q I rx ry q hs
theorem ztZ {r : R2} (hr : IxR X r) (ha : PE X a ta) (hb : PE X b tb) (hs : zlu b) : PE X (.Subscript a b pos) (tOp r ta tb) := by
 intro pins s σ H Q I h;exact Subscript_ (binT ha hb I h fun v u s2 x y H2 I2 rx ry q => hr a b pins s2 σ H2 x y v u Q I2 rx ry q (hs _ _))
def rIxL (K : Fgx) : R2 := fun x y H Q => ∃ p xs i v, x = .ref p /\ y = .int i /\ SqL K H p xs /\ atI xs i = some v /\ Q v H
def rIxT (K : Fgx) : R2 := fun x y H Q => ∃ p xs i v, x = .ref p /\ y = .int i /\ SqT K H p xs /\ atI xs i = some v /\ Q v H
def rIxS : R2 := fun x y H Q => ∃ z i c, x = .str z /\ y = .int i /\ z.length <= sizeLine /\ atI z.cps.toList i = some c /\ Q (.str ⟨#[c]⟩) H
theorem zo4 : IxR X (rIxL X.K) := by
 intro value slice pins s σ H x y v u Q I rx ry h hs;obtain ⟨p, xs, i, z, rfl, rfl, hq, he, q⟩ := h;cases rx;obtain ⟨t, rfl⟩ := ry;obtain ⟨its, r, pl, hz⟩ := I.list hq;obtain ⟨j, h1, h2, h3, h4, h5⟩ := ziG he;obtain ⟨w, ew, rw'⟩ := r.get h2;have hl := r.length;have hn := zfe;have fin : EP X pins σ Q w s := ⟨z, H, I, rw', q⟩
 by_cases h0 : 0 <= i
 ·have hj : i.toNat = j := by
   rw [seqIndex_of h0 h5] at h1;exact Option.some.inj h1
  exact item_listR pl.isList h0 (by omega) (by rw [hj]; simpa using ew) fin hs
 ·have hj : (i + (its.toArray.size : Int)).toNat = j := by
   rw [seqIndex_neg (by omega) h4] at h1;rw [List.size_toArray, <- hl];exact Option.some.inj h1
  exact subscriptTail_builtinR (x := w) pl.isList.typeIs slot_list_getitem.lookup
   (wpAny_getItem_list_neg (Q := fun r s' => r = w /\ EP X pins σ Q r s') pl.isList (by omega) (by rw [List.size_toArray] <;> omega) (by omega) (by rw [hj]; simpa using ew) ⟨rfl, fin⟩) hs
theorem zpR : IxR X (rIxT X.K) := by
 intro value slice pins s σ H x y v u Q I rx ry h hs;obtain ⟨p, xs, i, z, rfl, rfl, hq, he, q⟩ := h;cases rx;obtain ⟨t, rfl⟩ := ry;obtain ⟨its, r, pl, hz⟩ := I.tuple hq;obtain ⟨j, h1, h2, h3, h4, h5⟩ := ziG he;obtain ⟨w, ew, rw'⟩ := r.get h2;have hl := r.length;have hn := zfe;have fin : EP X pins σ Q w s := ⟨z, H, I, rw', q⟩;exact subscriptTail_builtinR (x := w) pl.typeIs slot_tuple_getitem.lookup
  (getItem_tuple (j := j) (Q := fun r s' => r = w /\ EP X pins σ Q r s') pl (by omega) (by omega) (by rw [List.size_toArray, <- hl]; exact h1) (by simpa using ew) ⟨rfl, fin⟩) hs
theorem zql : IxR X rIxS := by
 intro value slice pins s σ H x y v u Q I rx ry h hs;obtain ⟨z, i, c, rfl, rfl, hz, he, q⟩ := h;obtain ⟨t, rfl⟩ := rx;obtain ⟨t', rfl⟩ := ry;obtain ⟨j, h1, h2, h3, h4, h5⟩ := ziG he;have hl : z.cps.toList.length = z.length := by simp [Str.length]
 rw [hl] at h1 h4 h5;have hn := zfe;exact tail_any (typeIs_str s z t) slot_str_getitem.lookup (getItem_str (c := c) (by
  have e1 : decide (i < -(2 ^ 63 : Int)) = false := decide_eq_false (by omega);have e2 : decide (i >= 2 ^ 63) = false := decide_eq_false (by omega);rw [e1, e2, Bool.or_false]) (by rw [h1]; simpa using h2) ⟨.str ⟨#[c]⟩, H, I.tok _, ⟨_, rfl⟩, q⟩) hs
def rIx (K : Fgx) : R2 := fun x y H Q => rIxL K x y H Q \/ rIxT K x y H Q \/ rIxS x y H Q
theorem zhy (lo hi : Option Int) (n : Nat) : (sliceBounds lo hi none n).1 = ((HT.sIx n 0 lo : Nat) : Int) /\ (sliceBounds lo hi none n).2.1 = ((HT.sIx n n hi : Nat) : Int) /\ (sliceBounds lo hi none n).2.2 = 1 := by
  refine ⟨?_, ?_, rfl⟩
  · cases lo with
    | none => simp [sliceBounds, HT.sIx]
    | some i =>
      simp only [sliceBounds, HT.sIx, Option.getD_none, show (1 : Int) > 0 by decide, if_true]
      by_cases h : i < 0
      · simp only [h, if_true] <;> omega
      · simp only [h, if_false] <;> omega
  · cases hi with
    | none => simp [sliceBounds, HT.sIx]
    | some i =>
      simp only [sliceBounds, HT.sIx, Option.getD_none, show (1 : Int) > 0 by decide, if_true]
      by_cases h : i < 0
      · simp only [h, if_true] <;> omega
      · simp only [h, if_false] <;> omega
theorem zg5 (its : List Value) (lo hi : Option Int) : slicePick its.toArray lo hi none = ((its.drop (HT.sIx its.length 0 lo)).take (HT.sIx its.length its.length hi - HT.sIx its.length 0 lo)).toArray := by
 obtain ⟨h1, h2, h3⟩ := zhy lo hi its.toArray.size;unfold slicePick;rw [h1, h2, h3];simp only [sliceRange_one, pick_run, List.size_toArray] <;> rfl
def rSlL (K : Fgx) : V -> Option Int -> Option Int -> Hp -> VK -> Prop := fun x lo hi H Q => ∃ a xs, x = .ref a /\ SqL K H a xs /\ ∀ p, H p = none -> Q (.ref p) (upd H p (.lst (cutV xs lo hi)))
theorem znT : SlR X (rSlL X.K) := by
 intro pins s σ H x v vl vu lo hi sl Q I rx hs pl pu h;obtain ⟨a, xs, rfl, hx, q⟩ := h;cases rx;obtain ⟨its, r, ht, hz⟩ := I.list hx;have hlen := r.length;refine ⟨"list", _, slot_list_getitem.lookup, ht.isList.typeIs, ?_⟩;refine wpAny_getItem_list_slice ht.isList hs pl pu .none (by simp) ?_ (by rw [List.size_toArray] <;> omega)
 rw [zg5, <- hlen];refine ⟨.ref s.heap.objs.size, _, I.laid (t' := s.toks) (o := .lst (cutV xs lo hi)) (fun b ob q => Heap.get?_push_of_some _ q) (Nat.le_refl _) ?_, rfl, q _ (I.hok.fresh (Nat.le_refl _))⟩;exact ⟨Nat.le_trans (zfu xs lo hi) hz, _, 0, (r.drop (HT.sIx xs.length 0 lo)).take (HT.sIx xs.length xs.length hi - HT.sIx xs.length 0 lo), Heap.get?_push_size _ rfl⟩
def zgo : V -> Bool
 | .non => true
 | .bl _ => true
 | .int _ => true
 | .str _ => true
 | _ => false
def eqV : V -> V -> Bool
 | .non, .non => true
 | .bl a, .bl b => a == b
 | .bl a, .int b => (if a then 1 else 0) == b
 | .int a, .bl b => a == (if b then 1 else 0)
 | .int a, .int b => a == b
 | .str a, .str b => a == b
 | _, _ => false
theorem zpk {A : Around} {s : Shared} {y x : V} {u v : Value} (ry : RelV y u) (rx : RelV x v) (fy : zgo y = true) (fx : zgo x = true) : SeqAt.EqAt A s u v (eqV y x) := by
  cases y with
  | non =>
    cases ry
    cases x with
    | non => cases rx; exact SeqAt.EqAt.same _
    | bl b => cases rx; exact SeqAt.EqAt.none_bool b
    | int b => obtain ⟨t, rfl⟩ := rx; exact SeqAt.EqAt.none_int b t
    | str b => obtain ⟨t, rfl⟩ := rx; exact SeqAt.EqAt.none_str b t
    | _ => exact absurd (show false = true from fx) Bool.false_ne_true
  | bl a =>
    cases ry
    cases x with
    | non => cases rx; exact SeqAt.EqAt.bool_none a
    | bl b => cases rx; exact SeqAt.EqAt.bool_bool a b
    | int b => obtain ⟨t, rfl⟩ := rx; exact SeqAt.EqAt.bool_int a b t
    | str b => obtain ⟨t, rfl⟩ := rx; exact SeqAt.EqAt.bool_str a b t
    | _ => exact absurd (show false = true from fx) Bool.false_ne_true
  | int a =>
    obtain ⟨t', rfl⟩ := ry
    cases x with
    | non => cases rx; exact SeqAt.EqAt.int_none a t'
    | bl b => cases rx; exact SeqAt.EqAt.int_bool a t' b
    | int b => obtain ⟨t, rfl⟩ := rx; exact SeqAt.EqAt.int_int a t' b t
    | str b => obtain ⟨t, rfl⟩ := rx; exact SeqAt.EqAt.int_str a t' b t
    | _ => exact absurd (show false = true from fx) Bool.false_ne_true
  | str a =>
    obtain ⟨t', rfl⟩ := ry
    cases x with
    | non => cases rx; exact SeqAt.EqAt.str_none a t'
    | bl b => cases rx; exact SeqAt.EqAt.str_bool a t' b
    | int b => obtain ⟨t, rfl⟩ := rx; exact SeqAt.EqAt.str_int a t' b t
    | str b => obtain ⟨t, rfl⟩ := rx; exact SeqAt.EqAt.str_str a t' b t
    | _ => exact absurd (show false = true from fx) Bool.false_ne_true
  | _ => exact absurd (show false = true from fy) Bool.false_ne_true
def eqU (x : V) (u : Value) : Bool := match u with
 | .none => eqV .non x
 | .bool b => eqV (.bl b) x
 | .int i _ => eqV (.int i) x
 | .str z _ => eqV (.str z) x
 | _ => false
theorem zmL {x y : V} {u : Value} (r : RelV y u) (f : zgo y = true) : eqU x u = eqV y x := by
 cases y with
 | non => cases r; rfl
 | bl b => cases r; rfl
 | int i => obtain ⟨t, rfl⟩ := r; rfl
 | str z => obtain ⟨t, rfl⟩ := r; rfl
 | _ => exact absurd (show false = true from f) Bool.false_ne_true
theorem zge {x : V} : ∀ {xs : List V} {us : List Value}, Vals xs us -> xs.all zgo = true -> us.any (eqU x) = xs.any fun y => eqV y x
  | _, _, .nil, _ => rfl
  | y :: xs, u :: us, .cons r t, f => by
    rw [List.all_cons, Bool.and_eq_true] at f;rw [List.any_cons, List.any_cons, zmL r f.1, zge t f.2]
theorem zeI {A : Around} {s : Shared} {x : V} {v : Value} (rx : RelV x v) (fx : zgo x = true) : ∀ {xs : List V} {us : List Value}, Vals xs us -> xs.all zgo = true -> ∀ u ∈ us, SeqAt.EqAt A s u v (eqU x u)
  | _, _, .nil, _ => fun u hu => by cases hu
  | y :: xs, u :: us, .cons r t, f => fun u' hu => by
    rw [List.all_cons, Bool.and_eq_true] at f;rcases List.mem_cons.mp hu with rfl | hu
    · rw [zmL r f.1]; exact zpk r rx f.1 fx
    · exact zeI rx fx t f.2 u' hu
def inV (x : V) (xs : List V) : Bool := xs.any fun y => eqV y x
def rIn (K : Fgx) (neg : Bool) : R2 := fun x y H Q => ∃ p xs, y = .ref p /\ (SqL K H p xs \/ SqT K H p xs) /\ zgo x = true /\ xs.all zgo = true /\ Q (.bl (if neg then !inV x xs else inV x xs)) H
theorem zkD : OpR X (compareOp .In) (rIn X.K false) := by
 intro pins s σ H x y v u Q I rx ry h;obtain ⟨p, xs, rfl, hq, fx, fs, q⟩ := h;cases ry;rcases hq with hq | hq
 ·obtain ⟨its, r, pl, hz⟩ := I.list hq;refine SeqAt.in_listAt (eqU x) pl.isList (fun w hw => zeI rx fx r fs w (by simpa using hw)) ⟨.bl _, H, I, rfl, ?_⟩;rw [show its.toArray.any (eqU x) = its.any (eqU x) by simp, zge r fs];exact q
 ·obtain ⟨its, r, pl, hz⟩ := I.tuple hq;refine SeqAt.in_tupleAt (eqU x) pl (fun w hw => zeI rx fx r fs w (by simpa using hw)) ⟨.bl _, H, I, rfl, ?_⟩;rw [show its.toArray.any (eqU x) = its.any (eqU x) by simp, zge r fs];exact q
theorem zh6 : OpR X (compareOp .NotIn) (rIn X.K true) := by
 intro pins s σ H x y v u Q I rx ry h;obtain ⟨p, xs, rfl, hq, fx, fs, q⟩ := h;cases ry;rcases hq with hq | hq
 ·obtain ⟨its, r, pl, hz⟩ := I.list hq;refine SeqAt.notIn_listAt (eqU x) pl.isList (fun w hw => zeI rx fx r fs w (by simpa using hw)) ⟨.bl _, H, I, rfl, ?_⟩;rw [show its.toArray.any (eqU x) = its.any (eqU x) by simp, zge r fs];exact q
 ·obtain ⟨its, r, pl, hz⟩ := I.tuple hq;refine SeqAt.notIn_tupleAt (eqU x) pl (fun w hw => zeI rx fx r fs w (by simpa using hw)) ⟨.bl _, H, I, rfl, ?_⟩;rw [show its.toArray.any (eqU x) = its.any (eqU x) by simp, zge r fs];exact q
theorem zif : zdT X (.builtin "len") (fun xs H Q => ∃ p ys, xs = [.ref p] /\ (SqL X.K H p ys \/ SqT X.K H p ys) /\ Q (.int ys.length) H) := by
 intro pins s σ H xs us Q I r h;obtain ⟨p, ys, rfl, hq, q⟩ := h;obtain ⟨u, rfl, rx⟩ := vals1 r;cases rx;have hn := zfe;rcases hq with hq | hq
 ·obtain ⟨its, r', pl, hz⟩ := I.list hq;have hlen := r'.length;exact Calls.call_len_list pl.isList (by simp only [List.size_toArray] <;> omega) ⟨.int ys.length, H, I.tok _, ⟨s.toks + 1, by rw [List.size_toArray, hlen]⟩, q⟩
 ·obtain ⟨its, r', pl, hz⟩ := I.tuple hq;have hlen := r'.length;exact len_tuple pl (by simp only [List.size_toArray] <;> omega) ⟨.int ys.length, H, I.tok _, ⟨s.toks + 1, by rw [List.size_toArray, hlen]⟩, q⟩
theorem zh2 : zdT X (.builtin "len") (fun xs H Q => ∃ z, xs = [.str z] /\ z.length <= sizeLine /\ Q (.int z.length) H) := by
 intro pins s σ H xs us Q I r h;obtain ⟨z, rfl, hz, q⟩ := h;obtain ⟨u, rfl, t, rfl⟩ := vals1 r;have hn := zfe;exact len_str (by omega) ⟨.int z.length, H, I.tok _, ⟨_, rfl⟩, q⟩
theorem zdT.or {f : Value} {r r' : List V -> Hp -> VK -> Prop} (h : zdT X f r) (h' : zdT X f r') : zdT X f (fun xs H Q => r xs H Q \/ r' xs H Q) := by
 intro pins s σ H xs us Q I rs q;rcases q with q | q
 ·exact h pins s σ H xs us Q I rs q
 ·exact h' pins s σ H xs us Q I rs q
theorem zby : zdT X (.type "tuple") (fun xs H Q => ∃ p ys, xs = [.ref p] /\ ((SqL X.K H p ys /\ ∀ l, H l = none -> Q (.ref l) (upd H l (.tup ys))) \/ (SqT X.K H p ys /\ Q (.ref p) H))) := by
 intro pins s σ H xs us Q I r h;obtain ⟨p, ys, rfl, h⟩ := h;obtain ⟨u, rfl, rx⟩ := vals1 r;cases rx;rcases h with ⟨hq, q⟩ | ⟨hq, q⟩
 ·obtain ⟨its, r', pl, hz⟩ := I.list hq;have hlen := r'.length;refine call_tuple_list pl.isList (fun h' kp => ?_) (by simp only [List.size_toArray] <;> omega)
  have I1 : Inv X pins σ H { s with heap := h' } := I.kept (t' := s.toks) kp;have I2 : Inv X pins σ (upd H h'.objs.size (.tup ys)) { s with heap := h'.push { cls := .type "tuple", data := .seq its.toArray } } :=
   I1.laid (t' := s.toks) (fun b o e => Heap.get?_push_of_some _ e) (Nat.le_refl _) (show zbW X.prog X.w _ _ _ (.tup ys) from ⟨hz, its, r', IsTup.new _ _⟩)
  exact ⟨.ref h'.objs.size, _, I2, rfl, q _ (I1.hok.fresh (Nat.le_refl _))⟩
 ·obtain ⟨its, r', pl, hz⟩ := I.tuple hq;exact call_tuple_same pl ⟨.ref p, H, I, rfl, q⟩
def tyV (K : Fgx) (T : String) (x : V) (H : Hp) : Prop := match x with
 | .str _ => T = "str"
 | .int _ => T = "int"
 | .ref p => (T = "list" /\ ∃ xs, SqL K H p xs) \/ (T = "tuple" /\ ∃ o, K.lookup p = some o /\ o.cls = .type "tuple" /\ o.dict = none) \/
   (T = "dict" /\ ((∃ kvs, H p = some (.dK kvs)) \/ ∃ kvs, H p = some (.dT kvs))) \/ (T = "set" /\ ∃ S n, H p = some (.set S n))
 | _ => False
theorem zmN {pins : Pnx} {σ : St} {H : Hp} {s : Shared} {T : String} {x : V} {v : Value} (I : Inv X pins σ H s) (r : RelV x v) (ty : tyV X.K T x H) :
    s.TypeIs v T /\ ∀ a, v = .ref a -> ∃ ob, s.heap.get? a = some ob /\ ob.dict = none := by
  cases x with
  | str z =>
    obtain ⟨t, rfl⟩ := r;cases (show T = "str" from ty);exact ⟨typeIs_str s z t, fun _ e => nomatch e⟩
  | int i =>
    obtain ⟨t, rfl⟩ := r;cases (show T = "int" from ty);exact ⟨typeIs_int s i t, fun _ e => nomatch e⟩
  | ref p =>
    cases r;rcases ty with ⟨rfl, xs, hq⟩ | ⟨rfl, o, hk, hc, hd⟩ | ⟨rfl, hk⟩ | ⟨rfl, S, n, hk⟩
    · obtain ⟨its, _, pl, _⟩ := I.list hq;refine ⟨pl.isList.typeIs, fun a e => ?_⟩;cases e;obtain ⟨o, n, e, c, hd, _⟩ := pl;exact ⟨o, e, hd⟩
    · refine ⟨⟨o, I.kIn p o hk, hc⟩, fun a e => ?_⟩;cases e;exact ⟨o, I.kIn _ o hk, hd⟩
    · have z : ∃ o, s.heap.get? p = some o /\ o.ExactDict := by
        rcases hk with ⟨kvs, hk⟩ | ⟨kvs, hk⟩
        · obtain ⟨_, _, _, _, o, _, _, e, ex, _⟩ := I.hok p _ hk;exact ⟨o, e, ex⟩
        · obtain ⟨_, _, _, _, o, _, _, e, ex, _⟩ := I.hok p _ hk;exact ⟨o, e, ex⟩
      obtain ⟨o, e, ex⟩ := z;refine ⟨⟨o, e, ex.1⟩, fun a e2 => ?_⟩;cases e2;exact ⟨o, e, ex.2.1⟩
    · obtain ⟨o, _, _, _, e, ex, _⟩ := I.hok p _ hk;refine ⟨⟨o, e, ex.1⟩, fun a e2 => ?_⟩;cases e2;exact ⟨o, e, ex.2.1⟩
  | _ => exact False.elim ty
def tBM0 (K : Fgx) (T : String) (r : V -> List V -> Hp -> VK -> Prop) (to : TE) : TE := fun σ H Q => to σ H fun x H1 => tyV K T x H1 /\ r x [] H1 Q
def tBM (K : Fgx) (T : String) (r : V -> List V -> Hp -> VK -> Prop) (to : TE) (t : TA) : TE := fun σ H Q => to σ H fun x H1 => tyV K T x H1 /\ t σ H1 fun xs H2 => r x xs H2 Q
variable {o e : Expr} {es : List Expr} {to : TE} {t : TA} {name : Str} {apos cpos : Pos} {T id : String} {r : V -> List V -> Hp -> VK -> Prop}
theorem zpn (pa : PlainAttrs T) (slot : Slot T name id) (hty : typeOf (.builtin id) = pure (.type "method_descriptor")) (hm : MtR X id r) (ho : PE X o to)
  (hbase : attributeBase o name X.env (eval o X.env) = eval o X.env := by rfl) (hline : (apos.endLine == cpos.line) = true := by rfl) : PE X (.Call (.Attribute o name apos) [] [] cpos) (tBM0 X.K T r to) := by
 intro pins s σ H Q I h;refine wpAny_Call_method0_late hbase hline (thn (ho pins s σ H _ I h) fun v s1 ⟨x, H1, I1, r1, ty, q1⟩ => ?_);obtain ⟨h1, h2⟩ := zmN I1 r1 ty;exact ⟨T, id, pa, slot, hty, h1, h2, Calls.callWith_builtin rfl (PySem.evalArgs_none (hm pins s1 σ H1 x [] v [] Q I1 r1 .nil q1))⟩
theorem zos (pa : PlainAttrs T) (slot : Slot T name id) (hty : typeOf (.builtin id) = pure (.type "method_descriptor")) (hm : MtR X id r) (ho : PE X o to) (ha : PA X (e :: es) t)
  (hbase : attributeBase o name X.env (eval o X.env) = eval o X.env := by rfl)
  (hfew : ((backTo cpos (starEach (e :: es) X.env)).all (fun x => !x.1) && (backToKw cpos (keywordEach [] X.env)).all (fun x => x.1.isSome)
   && decide ((e :: es).length + ([] : List Keyword).length + (if ([] : List Keyword).isEmpty then 0 else 1) < 30)) = true := by rfl)
  (hline : (apos.endLine == cpos.line) = true := by rfl) (hs : starEach (e :: es) X.env = (false, eval e X.env) :: starEach es X.env := by rfl) (hplain : (backTo cpos (starEach es X.env)).any (·.1) = false := by rfl) :
  PE X (.Call (.Attribute o name apos) (e :: es) [] cpos) (tBM X.K T r to t) := by
 intro pins s σ H Q I h;refine wpAny_Call_method_late hbase hfew hline rfl (thn (ho pins s σ H _ I h) fun v s1 ⟨x, H1, I1, r1, ty, q1⟩ => ?_);obtain ⟨h1, h2⟩ := zmN I1 r1 ty;refine ⟨T, id, pa, slot, hty, h1, h2, ?_⟩;have hA := ha cpos pins s1 σ H1 _ I1 q1;rw [hs] at hA ⊢;refine Calls.callWith_builtin (by show (false || (backTo cpos (starEach es X.env)).any (·.1)) = false; rw [hplain] <;> rfl) (Calls.evalArgs_plain ?_)
 exact thn hA fun us s2 ⟨vs, H2, I2, r2, q2⟩ => hm pins s2 σ H2 x vs v us Q I2 r1 r2 q2
end
def MtM (X : Cx) (id : String) (r : V -> List V -> Hp -> VK -> Prop) : Prop :=
 ∀ (pins : Pnx) (s : Shared) (σ : St) (H : Hp) (x : V) (xs : List V) (v : Value) (us : List Value) (Q : VK), Inv X pins σ H s -> RelV x v -> Vals xs us -> r x xs H Q ->
  wpAny (model X.prog X.w) X.A (call (.builtin id) (v :: us)) (EP X pins σ Q) X.xe s
theorem Vals.one : ∀ {x : V} {us : List Value}, Vals [x] us -> ∃ u, us = [u] /\ RelV x u
 | _, _, .cons r .nil => ⟨_, rfl, r⟩
theorem Vals.zero : ∀ {us : List Value}, Vals [] us -> us = []
 | _, .nil => rfl
theorem Vals.dropLast {xs : List V} {us : List Value} (h : Vals xs us) : Vals xs.dropLast us.dropLast := by
  induction h with
  | nil => exact .nil
  | cons r t ih =>
    cases t with
    | nil => exact .nil
    | cons q t' => exact .cons r ih
theorem Vals.rep {xs : List V} {us : List Value} (h : Vals xs us) : ∀ k : Nat, Vals (List.replicate k xs).flatten (List.replicate k us).flatten
  | 0 => .nil
  | k + 1 => by
    rw [List.replicate_succ, List.replicate_succ, List.flatten_cons, List.flatten_cons];exact Vals.append h (Vals.rep h k)
theorem zjD {α : Type} (l : List α) : l.eraseIdx (l.length - 1) = l.dropLast := by
  induction l with
  | nil => rfl
  | cons a r ih =>
    cases r with
    | nil => rfl
    | cons b r =>
      have e : (a :: b :: r).length - 1 = ((b :: r).length - 1) + 1 := by
        have h1 : (a :: b :: r).length = r.length + 2 := rfl;have h2 : (b :: r).length = r.length + 1 := rfl;omega
      rw [e, List.eraseIdx_cons_succ, ih]
      all_goals rfl
theorem foldl_rep (its : List Value) : ∀ (k : Nat) (acc : List Value),
    List.foldl (fun x1 x2 => x1 ++ x2) acc.toArray (List.replicate k its.toArray) = (acc ++ (List.replicate k its).flatten).toArray
  | 0, acc => by simp
  | k + 1, acc => by
    have e : acc.toArray ++ its.toArray = (acc ++ its).toArray := by simp
    have e2 : (acc ++ its) ++ (List.replicate k its).flatten = acc ++ (List.replicate (k + 1) its).flatten := by
      rw [List.replicate_succ, List.flatten_cons, List.append_assoc]
    rw [<- e2, <- foldl_rep its k (acc ++ its), <- e, List.replicate_succ, List.foldl_cons]
section
variable {X : Cx} {pins : Pnx} {σ : St} {H : Hp} {s : Shared} {l b : Addr} {xs ys zs : List V}
theorem Inv.lset {its its' : List Value} {n : Nat} {f : Array Value -> Array Value} {t' : Nat} (I : Inv X pins σ H s) (hH : H l = some (.lst xs))
  (e : s.heap.get? l = some { cls := .type "list", data := .seq its.toArray n }) (hf : f its.toArray = its'.toArray) (hv : Vals ys its') (hz : ys.length <= sizeLine) :
  Inv X pins σ (upd H l (.lst ys)) { s with heap := s.heap.update l (Obj.mapSeq f), toks := t' } := by
 have q := PySem.IsL.update e f;rw [hf] at q;refine I.write (x := l) (e := l) (by rw [hH]; exact trivial) (.inl rfl) (fun b' u hb hu => (Heap.get?_update_other s.heap (Obj.mapSeq f) (Ne.symm hb)).trans hu) ⟨_, q⟩ ?_;exact ⟨hz, its', _, hv, q⟩
theorem Inv.lnew {its : List Value} {t' : Nat} (I : Inv X pins σ H s) (hv : Vals ys its) (hz : ys.length <= sizeLine) :
  Inv X pins σ (upd H s.heap.objs.size (.lst ys)) { s with heap := s.heap.push { cls := .type "list", data := .seq its.toArray }, toks := t' } :=
 I.laid (fun _ _ q => Heap.get?_push_of_some _ q) (Nat.le_refl _) ⟨hz, its, 0, hv, Heap.get?_push_size _ rfl⟩
theorem Inv.fresh (I : Inv X pins σ H s) : H s.heap.objs.size = none := I.hok.fresh (Nat.le_refl _)
theorem Inv.lstM (I : Inv X pins σ H s) (hH : H l = some (.lst xs)) : xs.length <= sizeLine /\ ∃ (its : List Value) (n : Nat), Vals xs its /\ xs.length = its.length /\ s.heap.get? l = some { cls := .type "list", data := .seq its.toArray n } := by
 obtain ⟨z, its, n, r, e⟩ := I.hok l _ hH;exact ⟨z, its, n, r, r.length, e⟩
theorem zmf {n : Nat} (h : n <= sizeLine) : Builtin.List.listTooLong n = false := by
 unfold Builtin.List.listTooLong;exact decide_eq_false (by omega)
end
section
variable {X : Cx}
def zn0 : V -> List V -> Hp -> VK -> Prop := fun x vs H Q => ∃ l xs y, x = .ref l /\ vs = [y] /\ H l = some (.lst xs) /\ xs.length < sizeLine /\ Q .non (upd H l (.lst (xs ++ [y])))
theorem zf2 : MtM X "list.append" zn0 := by
 intro pins s σ H x vs v us Q I rx rv h;obtain ⟨l, xs, y, rfl, rfl, hH, hz, q⟩ := h;cases rx;obtain ⟨u, rfl, ru⟩ := rv.one;obtain ⟨z, its, n, r, hl, e⟩ := I.lstM hH;refine call_meets F.slot_list_append ⟨_, e, rfl⟩ F.entry_list_append (F.args_list_append_2 _ _) (PySem.list_append l its.toArray n u (by rw [List.size_toArray]; omega)) ⟨e, ?_⟩;refine ⟨.non, _, I.lset (its' := its ++ [u]) hH e (by simp) (r.append (.cons ru .nil)) ?_, rfl, q⟩;rw [List.length_append, List.length_singleton];omega
def rPop : V -> List V -> Hp -> VK -> Prop := fun x vs H Q => ∃ l xs y, x = .ref l /\ vs = [] /\ H l = some (.lst xs) /\ xs[xs.length - 1]? = some y /\ Q y (upd H l (.lst xs.dropLast))
theorem zpN : MtM X "list.pop" rPop := by
 intro pins s σ H x vs v us Q I rx rv h;obtain ⟨l, xs, y, rfl, rfl, hH, hy, q⟩ := h;cases rx;have hus := rv.zero;subst hus;obtain ⟨z, its, n, r, hl, e⟩ := I.lstM hH;obtain ⟨u, hu, ru⟩ := r.get hy;have hy' : its.toArray[its.toArray.size - 1]? = some u := by
  show its.toArray[its.length - 1]? = some u;rw [<- Array.getElem?_toList, <- hl];exact hu
 refine call_meets F.slot_list_pop ⟨_, e, rfl⟩ F.entry_list_pop (F.args_list_pop_1 _) (MeetsSeq.list_pop_last l its.toArray n u hy' (by rw [List.size_toArray]; omega)) ⟨e, ?_⟩;refine ⟨y, _, I.lset (its' := its.dropLast) hH e ?_ r.dropLast ?_, ru, q⟩
 ·show its.toArray.eraseIdxIfInBounds (its.toArray.size - 1) = its.dropLast.toArray;rw [List.size_toArray, List.eraseIdxIfInBounds_toArray, zjD]
 ·rw [List.length_dropLast];omega
def rRep : R2 := fun x y H Q => ∃ l k xs, x = .ref l /\ y = .int k /\ H l = some (.lst xs) /\ -(2 ^ 63) <= k /\ k < 2 ^ 63 /\ xs.length * k.toNat <= sizeLine /\
 ∀ p, H p = none -> Q (.ref p) (upd H p (.lst (List.replicate k.toNat xs).flatten))
theorem len_rep {α : Type} (xs : List α) (k : Nat) : (List.replicate k xs).flatten.length = k * xs.length := by
 induction k with
 | zero => simp
 | succ k ih => rw [List.replicate_succ, List.flatten_cons, List.length_append, ih, Nat.succ_mul, Nat.add_comm]
theorem zqQ : OpR X (binaryOp .Mult) rRep := by
  intro pins s σ H x y v u Q I rx ry h;obtain ⟨l, k, xs, rfl, rfl, hH, h1, h2, hz, q⟩ := h;cases rx;obtain ⟨t, rfl⟩ := ry;obtain ⟨z, its, n, r, hl, e⟩ := I.lstM hH;have hlen : its.toArray.size * k.toNat <= sizeLine := by rw [List.size_toArray, <- hl]; exact hz
  have hcap : ¬ its.toArray.size * k.toNat > (2 ^ 63 - 1) / 8 := by
    have : (sizeLine : Nat) <= (2 ^ 63 - 1) / 8 := by decide
    omega
  have hfit : ¬ (!Builtin.List.listFitsIndex k) = true := by
    rw [fitsIndex_both h1 h2];exact Bool.false_ne_true
  have hlong : ¬ Builtin.List.listTooLong (its.toArray.size * k.toNat) = true := by
    rw [zmf hlen];exact Bool.false_ne_true
  have hnew : List.foldl (fun x1 x2 => x1 ++ x2) #[] (List.replicate (if its.toArray.isEmpty = true then 0 else k.toNat) its.toArray) = (List.replicate k.toNat its).flatten.toArray := by
    have f0 : ∀ m : Nat, List.foldl (fun x1 x2 => x1 ++ x2) #[] (List.replicate m its.toArray) = (List.replicate m its).flatten.toArray := fun m => by
      have := foldl_rep its m [];rw [List.nil_append] at this;exact this
    rw [f0]
    cases its with
    | nil => simp
    | cons a r' => rw [if_neg (by simp)]
  refine wpAny_binaryOp_repeat_ref (T := "list") (U := "int") (by decide) ⟨_, e, rfl⟩ (fun s' => typeIs_int s' k t) noFill_list_mul F.fills_int_mul F.slot_int_rmul repeat_list F.slot_int_index.lookup
    (call_meets F.slot_int_rmul (typeIs_int s k t) F.entry_int_rmul (F.args_int_rmul_2 _ _) (int___rmul___int_list k t l its.toArray n)
      ⟨e, rfl, ⟨_, e, rfl⟩, call_meets F.slot_list_mul ⟨_, e, rfl⟩ F.entry_list_mul (F.args_list_mul_2 _ _) (AutoListH.list___mul___list_int_3 l its.toArray n k t hfit hcap hlong) ⟨e, ?_⟩⟩)
  rw [hnew];exact ⟨.ref _, _, I.lnew (t' := s.toks) (r.rep k.toNat) (by rw [len_rep, Nat.mul_comm]; exact hz), rfl, q _ I.fresh⟩
end
end L2
namespace Att
open PySem PySem.W PySem.Calls PyProof.Rows
theorem zfZ {P : Params} {h : Heap} : ∀ (ns : List Int) (vs : List Value), WellAll P h vs (ns.map WData.int) -> IntsAre vs ns := by
  intro ns
  induction ns with
  | nil =>
    intro vs w;rw [List.map_nil] at w;cases w;exact .nil
  | cons n ns ih =>
    intro vs w;rw [List.map_cons] at w
    cases w with
    | cons a b =>
      cases a;exact .cons _ _ (ih _ b)
theorem zkX {l : OpenLaw} {n : Nat} (hn : l.most = some n) {P : Params} {h : Heap} {args : List WData} {vals : List Value}
    (hpre : l.row.toRowW.claim.pre args = true) (hwl : WellAll P h vals args) :
    ∃ a vs ns, vals = [Value.ref a] /\ args = [WData.list (ns.map WData.int)] /\ h.get? a = some { cls := .type "list", data := .seq vs.toArray } /\ IntsAre vs ns /\ ns.length <= n := by
  have hsh : WShape.hasAll [] args [.list .int] = true := (pre_splitW hpre).1;have hc : l.pre.holds [] { args := args } = true := (pre_splitW hpre).2;obtain ⟨d, r, rfl, h1, h2⟩ := hasAllW_cons hsh;obtain rfl := hasAllW_nil h2;obtain ⟨xs, rfl, h3⟩ := hasW_list h1;obtain ⟨ns, rfl⟩ := items_int h3;have hlen : ns.length <= n := by
    unfold OpenLaw.pre at hc;have h4 : (WTm.not (.lt (.lit (.int (n : Int))) (.len (.arg 0)))).holds [] { args := [.list (ns.map .int)] } = true := by
      have h4 := (holds_andW hc).1;rw [hn] at h4;exact h4
    have h5 := condW_of h4 (w_not (w_lt w_lit (w_len_list (w_arg rfl))));rw [List.length_map] at h5;refine Nat.le_of_not_lt fun q => ?_;have q' : (n : Int) < ((ns.length : Nat) : Int) := by omega
    first
      | (rw [decide_eq_true q'] at h5; exact absurd h5 (by decide))
      | (simp at h5; omega)
  cases hwl with
  | cons w1 w2 =>
    cases w2
    cases w1 with
    | list ho hall => exact ⟨_, _, ns, rfl, rfl, ho, zfZ ns _ hall, hlen⟩
theorem zks (l : OpenLaw) (args : List WData) : l.row.toRowW.claim.post args (.bool true) args = true :=
 postW_of (r := l.row.toRowW) (X := (true == true))
  (show WShape.has [] (.bool true) .bool = true by first | rfl | decide | simp [WShape.has, WShape.arms, WShape.armsAll])
  (show (WTm.eq .res (.lit (.bool true))).value [] { args := args, res := some (.bool true), after := args } = some (.bool (true == true)) from w_eq_bool (w_res rfl) w_lit) rfl
theorem ziv {l : OpenLaw} {n : Nat} {q : Program} {loose : List Str} {XP : (Mgx) -> Heap -> Prop} {YP : World -> Heap -> Prop} {d : DefRec}
  (hn : l.most = some n) (hdf : d.params.defaults = [])
  (call : ∀ (w : World) (s₀ s₁ : Shared) (mg mb : Mgx) (fa : Addr) (o : Obj) (pm cd doc : Value) (a : Addr) (vs : List Value) (ns : List Int),
   Ground q loose [] XP w s₀ mg mb s₁.heap -> YP w s₁.heap ->
   s₁.heap.get? fa = some o -> o.data = .func (docDef d.name d.params d.body d.scope pm cd doc) -> s₁.heap.CodeRec cd d.name -> mg d.name = some (.ref fa) ->
   s₁.heap.get? a = some { cls := .type "list", data := .seq vs.toArray } -> IntsAre vs ns -> ns.length <= n -> s₁.gens = #[] ->
   codeAny (model l.prog w) callerA (.call (.ref fa) ⟨[.ref a], []⟩) (fun r s' => r = .ok (.ret (.bool true)) /\ OldK s₁.heap s'.heap /\ s'.os = s₁.os /\ AllBare s'.gens) s₁) :
  WalkO q loose XP YP l.row.toRowW d [] (fun f vs => PySem.call f vs) := by
 intro w s₀ s₁ mg mb G Y fa o pm cd doc dV kV ho hd hcd hD hmg hg args vals as hpre hlay hrd hwl hlo;obtain rfl : dV = .none := Dflts.none hD hdf;obtain rfl : kV = .none := Dflts.noKw hD;obtain ⟨a, vs, ns, rfl, rfl, hobj, hints, hlen⟩ := zkX hn hpre hwl;refine enter_call (codeAny_mono (call w s₀ s₁ mg mb fa o pm cd doc a vs ns G Y ho (fd_plain hd) hcd hmg hobj hints hlen hg) fun r s' hq => ?_);obtain ⟨rfl, h2, h3, h4⟩ := hq;exact ⟨.inl ⟨.bool true, .bool true, [], rfl, fun _ => rfl, .bool true, zks l _, fun _ => ⟨List.Pairwise.nil, fun _ hm => (nomatch hm)⟩⟩, h2, h3, h4⟩
end Att
namespace L2
open PySem PySem.Spec PyProof.Rows
theorem zhU : ∀ {vs : List Value} {ns : List Int}, IntsAre vs ns -> Vals (ns.map V.int) vs
 | _, _, .nil => .nil
 | _, _, .cons n t h => .cons ⟨t, rfl⟩ (zhU h)
def Only (H : Hp) : Prop := ∀ b, H b = none \/ ∃ o xs, H b = some (.frz o (.lst xs))
theorem zl3 {P : Program} {w : World} {K : Fgx} {mg mb : Mgx} {CX : CXT} {k : Nat} {fa a : Addr} {fd : FuncData} {x : Str} {sp : Sp} {s₁ : Shared} {vs : List Value} {ns : List Int}
    (KX : K.In s₁.heap) (hns : s₁.heap.Ns mainGlobals mg) (hb : s₁.heap.Ns builtinsNs mb) (hbb : ∀ x : Str, x ≠ "__name__" -> mb x = bootBuiltins x) (hlim : s₁.heap.NoLimit) (hg : s₁.gens = #[])
    (ha : s₁.heap.get? a = some { cls := .type "list", data := .seq vs.toArray }) (hi : IntsAre vs ns) (hl : ns.length <= sizeLine) (hr : Room k callerA)
    (F : ∀ base : Heap, K.In base -> base.Ns mainGlobals mg -> FnOk P w K mg base CX k fa fd [x] sp) (hbind : ∀ (s : Shared) (u : Value), BindsTo s fd ⟨[u], []⟩ [(x, u)])
    (hsp : ∀ H : Hp, Only H -> SqL K H a (ns.map V.int) -> sp [.ref a] H (fun v _ => v = .bl true) fun _ _ _ => False)
    (hCX : ∀ H e s', CX [] H s₁ (fun _ _ _ => False) e s' -> False) :
    codeAny (model P w) callerA (.call (.ref fa) ⟨[.ref a], []⟩) (fun r s' => r = .ok (.ret (.bool true)) /\ OldK s₁.heap s'.heap /\ s'.os = s₁.os /\ AllBare s'.gens) s₁ := by
  have rv := zhU hi;have lenV := hi.length
  -- from an abstract heap in which nothing but the script may be tracked
  have core : ∀ H : Hp, Only H -> SqL K H a (ns.map V.int) -> HOk P w H s₁.heap -> (∀ b, H b ≠ none -> b = a) -> (H a ≠ none -> K.lookup a = none) ->
      codeAny (model P w) callerA (.call (.ref fa) ⟨[.ref a], []⟩) (fun r s' => r = .ok (.ret (.bool true)) /\ OldK s₁.heap s'.heap /\ s'.os = s₁.os /\ AllBare s'.gens) s₁ := by
    intro H hO hS hok hA hK;have base_of : ∀ {b : Addr} {o : Obj}, s₁.heap.get? b = some o -> H b = none -> (hidT s₁.heap H).get? b = some o := fun e n => zlR e n;have noA : ∀ {b : Addr} {o : Obj} {es : Array DictEntry} {ep : Nat}, s₁.heap.get? b = some o -> o.data = .dict es ep -> H b = none := fun {b o es ep} e d => by
      cases q : H b with
      | none => rfl
      | some u =>
        have e' : b = a := hA b (by rw [q]; simp);subst e';rw [ha] at e; cases e;have d' : Data.seq vs.toArray _ = Data.dict es ep := d;cases d'
    have nsK : ∀ {b : Addr} {m : Mgx}, s₁.heap.Ns b m -> (hidT s₁.heap H).Ns b m := fun {b m} ⟨o, es, ep, e, d, r⟩ => ⟨o, es, ep, base_of e (noA e d), d, r⟩;have hKb : K.In (hidT s₁.heap H) := fun b o e => base_of (KX b o e) (by
      cases q : H b with
      | none => rfl
      | some u =>
        have e' : b = a := hA b (by rw [q]; simp);subst e';rw [hK (by rw [q]; simp)] at e; cases e)
    have hM : Mod K mg (hidT s₁.heap H) := ⟨hKb, nsK hns, ⟨mb, nsK hb, hbb⟩, let ⟨mc, h1, h2⟩ := hlim; ⟨mc, nsK h1, h2⟩⟩
    have e0 : Env0 P w K mg (hidT s₁.heap H) callerA [] s₁ H := ⟨rfl, hM, fun b o e => znQ e, Nat.le_of_eq (zlm _ _), trivial, fun b hb => absurd (show b ∈ ([] : List Addr) from hb) (by simp), hok, .of_eq hg⟩;refine codeAny_mono ((F _ hKb (nsK hns)).run callerA [] s₁ H ⟨[.ref a], []⟩ [.ref a] [.ref a] _ _ hr e0 (hbind s₁ (.ref a)) (.cons rfl .nil) (hsp H hO hS)) fun r s' h => ?_
    cases r with
    | error e => exact (hCX H e s' h).elim
    | ok fl =>
      cases fl with
      | next => exact False.elim h
      | brk => exact False.elim h
      | cont => exact False.elim h
      | ret u =>
        obtain ⟨v, H', os, bare, un, hok', r', q⟩ := h;have q' : v = .bl true := q;subst q';obtain rfl : u = Value.bool true := r';refine ⟨rfl, OldK.of_keep fun b o e => ?_, os, bare⟩
        cases q : H b with
        | none => exact un.keep b o e q (by intro z; exact absurd (show b ∈ ([] : List Addr) from z) (by simp)) (by simp)
        | some u =>
          rcases hO b with z | ⟨ob, xs, z⟩
          · rw [q] at z; cases z
          · have z2 := un.frzs b ob _ z;obtain ⟨e1, _⟩ := hok b _ z;obtain ⟨e2, _⟩ := hok' b _ z2;rw [e] at e1; cases e1;exact e2
  cases hk : K.lookup a with
  | some o =>
    -- the script is one of the module's own objects
    have e := KX a o hk;rw [ha] at e;cases e;refine core (fun _ => none) (fun _ => .inl rfl) (.inr ⟨_, vs.toArray, _, hk, rfl, rfl, rfl, by rw [List.size_toArray, lenV]; exact hl, by simpa using rv⟩) (fun b u z => by have z' : (none : Option HO) = some u := z; cases z') (fun b z => absurd rfl z) fun z => absurd rfl z
  | none =>
    refine core (fun b => if b = a then some (.frz { cls := .type "list", data := .seq vs.toArray } (.lst (ns.map V.int))) else none) (fun b => ?_) (.inl (.inr ⟨{ cls := .type "list", data := .seq vs.toArray }, if_pos rfl⟩)) (fun b u z => ?_) (fun b z => ?_) fun _ => hk
    · by_cases hb : b = a
      · exact .inr ⟨_, _, if_pos hb⟩
      · exact .inl (if_neg hb)
    · by_cases hb : b = a
      · have z' := (if_pos hb).symm.trans z;cases z';subst hb;exact ⟨ha, by rw [List.length_map]; exact hl, vs, _, rv, ha⟩
      · have z' := (if_neg hb).symm.trans z;cases z'
    · by_cases hb : b = a
      · exact hb
      · exact absurd (if_neg hb) z
theorem zoV {l : PySem.W.OpenLaw} {n k : Nat} {q : Program} {loose : List Str} {XP : (Mgx) -> Heap -> Prop} {YP : World -> Heap -> Prop} {d : DefRec} {K : Params -> Fgx} {CX : World -> CXT} {sp : World -> Sp} {x : Str}
  (hn : l.most = some n) (hn2 : n <= sizeLine) (hdf : d.params.defaults = []) (hr : Room k callerA)
  (hY : ∀ (w : World) (h : Heap), YP w h -> (K w.params).In h)
  (F : ∀ (w : World) (mg : Mgx) (fa : Addr) (h : Heap), (K w.params).In h -> h.Ns mainGlobals mg -> mg d.name = some (.ref fa) ->
   ∃ fd : FuncData, (∀ (s : Shared) (u : Value), BindsTo s fd ⟨[u], []⟩ [(x, u)]) /\
    ∀ base : Heap, (K w.params).In base -> base.Ns mainGlobals mg -> FnOk l.prog w (K w.params) mg base (CX w) k fa fd [x] (sp w))
  (hsp : ∀ (w : World) (H : Hp) (a : Addr) (ns : List Int), ns.length <= n -> Only H -> SqL (K w.params) H a (ns.map V.int) -> sp w [.ref a] H (fun v _ => v = .bl true) fun _ _ _ => False)
  (hCX : ∀ (w : World) (H : Hp) (s : Shared) (e : Value) (s' : Shared), CX w [] H s (fun _ _ _ => False) e s' -> False) :
  PySem.W.WalkO q loose XP YP l.row.toRowW d [] (fun f vs => PySem.call f vs) := by
 refine Att.ziv hn hdf fun w s₀ s₁ mg mb fa o pm cd doc a vs ns G Y ho hd hcd hmg hobj hints hlen hg => ?_;have KX := hY w _ Y;obtain ⟨fd, hb, hF⟩ := F w mg fa _ KX G.T.g hmg;exact zl3 KX G.T.g G.T.b G.T.builtins G.T.nolimit hg hobj hints (Nat.le_trans hlen hn2) hr hF hb (fun H hO hS => hsp w H a ns hlen hO hS) fun H e s' => hCX w H s₁ e s'
theorem zmw {l : PySem.W.OpenLaw} {n k : Nat} {q : Program} {loose : List Str} {XP : (Mgx) -> Heap -> Prop} {YP : World -> Heap -> Prop} {d : DefRec} {K : Params -> Fgx} {CX : CXT} {sp : Fgx -> Sp} {x : Str}
  (hn : l.most = some n) (hn2 : n <= sizeLine) (hdf : d.params.defaults = []) (hr : Room k callerA)
  (hY : ∀ (w : World) (h : Heap), YP w h -> (K w.params).In h)
  (F : ∀ (w : World) (mg : Mgx) (fa : Addr) (h : Heap), (K w.params).In h -> h.Ns mainGlobals mg -> mg d.name = some (.ref fa) ->
   ∃ fd : FuncData, (∀ (s : Shared) (u : Value), BindsTo s fd ⟨[u], []⟩ [(x, u)]) /\
    ∀ base : Heap, (K w.params).In base -> base.Ns mainGlobals mg -> FnOk l.prog w (K w.params) mg base CX k fa fd [x] (sp (K w.params)))
  (hsp : ∀ (K : Fgx) (H : Hp) (a : Addr) (ns : List Int), ns.length <= n -> Only H -> SqL K H a (ns.map V.int) -> sp K [.ref a] H (fun v _ => v = .bl true) fun _ _ _ => False)
  (hCX : ∀ (H : Hp) (s : Shared) (e : Value) (s' : Shared), CX [] H s (fun _ _ _ => False) e s' -> False) :
  PySem.W.WalkO q loose XP YP l.row.toRowW d [] (fun f vs => PySem.call f vs) :=
 zoV (K := K) (CX := fun _ => CX) (sp := fun w => sp (K w.params)) hn hn2 hdf hr hY F (fun w H a ns h1 h2 h3 => hsp (K w.params) H a ns h1 h2 h3) fun _ H s e s' => hCX H s e s'
def zbI (s : Stmt) : Arguments := match s with
 | .FunctionDef _ a _ _ _ _ _ _ _ _ => a
 | _ => { posonlyargs := [], args := [], vararg := none, kwonlyargs := [], kw_defaults := [], kwarg := none, defaults := [] }
def zaU (s : Stmt) : List Stmt := match s with
 | .FunctionDef _ _ b _ _ _ _ _ _ _ => b
 | _ => []
def zah (s : Stmt) : Scope := match s with
 | .FunctionDef _ _ _ _ _ _ sc _ _ _ => sc
 | _ => { kind := .function, names := [], isGenerator := false, isCoroutine := false }
abbrev CX0 : CXT := fun _ _ _ _ _ _ => False
abbrev E0 : XK := fun _ _ _ => False
theorem zre {X : Cx} : Passes CX0 X E0 := fun _ _ _ _ _ _ _ h => h.elim
structure Fun (K : Fgx) (x qual : Str) (st : Stmt) (f : Addr) (fd : FuncData) : Prop where
 ex : ∃ (oc : Value) (od : Option Addr) (kV doc pm : Value) (an : Option Addr) (cdv ct : Value) (osl : Array (Option Value)),
  fd = PySem.W.fnOf x qual (zbI st) (zaU st) (zah st) .none kV doc pm an cdv ct /\ K.lookup f = some ⟨oc, od, .func fd, osl⟩ /\ PySem.W.codeIn K cdv qual = true
 kp : PySem.W.keepIn K (.ref f) = true
section
variable {P : Program} {w : World} {K : Fgx} {mg : Mgx} {base : Heap}
theorem Fun.binds {x qual : Str} {st : Stmt} {f : Addr} {fd : FuncData} {ps : List Str} (F : Fun K x qual st f fd)
  (h : ∀ (kV doc pm : Value) (an : Option Addr) (cdv ct : Value) (us : List Value), us.length = ps.length -> bindArgs (PySem.W.fnOf x qual (zbI st) (zaU st) (zah st) .none kV doc pm an cdv ct) ⟨us, []⟩ = pure (ps.zip us)) : Binds K fd ps [] := by
 obtain ⟨oc, od, kV, doc, pm, an, cdv, ct, osl, rfl, lk, hcd⟩ := F.ex;exact .all (h kV doc pm an cdv ct)
theorem zgI {x qual : Str} {st : Stmt} {f : Addr} {oc : Value} {od an : Option Addr} {osl : Array (Option Value)} {kV doc pm cdv ct : Value} (l : K.lookup f = some ⟨oc, od, .func (PySem.W.fnOf x qual (zbI st) (zaU st) (zah st) .none kV doc pm an cdv ct), osl⟩)
  (c : PySem.W.codeIn K cdv qual = true) (k : PySem.W.keepIn K (.ref f) = true) : Fun K x qual st f (PySem.W.fnOf x qual (zbI st) (zaU st) (zah st) .none kV doc pm an cdv ct) := ⟨⟨oc, od, kV, doc, pm, an, cdv, ct, osl, rfl, l, c⟩, k⟩
end
def Same (H H' : Hp) : Prop := ∀ b o, H b = some o -> H' b = some o
theorem Same.refl (H : Hp) : Same H H := fun _ _ h => h
theorem Same.free {H H' : Hp} (e : Same H H') {l : Addr} (h : H' l = Option.none) : H l = Option.none := by
  cases q : H l with
  | none => rfl
  | some o =>
    rw [e l o q] at h;cases h
end L2
set_option maxHeartbeats 0
namespace L2
open PySem PySem.Spec PyProof.Rows
section
variable {κ : Type} [DecidableEq κ]
def valV (kvs : List (κ × V)) (k : κ) : Option V := (kvs.find? fun kv => decide (kv.1 = k)).map (·.2)
def putK (kvs : List (κ × V)) (k : κ) (v : V) : List (κ × V) :=
 if (kvs.any fun kv => decide (kv.1 = k)) = true then kvs.map (fun kv => if kv.1 = k then (kv.1, v) else kv) else kvs ++ [(k, v)]
theorem zfn {p : κ × V} {r : List (κ × V)} {k : κ} (e : p.1 = k) : valV (p :: r) k = some p.2 := by simp [valV, List.find?_cons, e]
theorem zfo {p : κ × V} {r : List (κ × V)} {k : κ} (e : ¬ p.1 = k) : valV (p :: r) k = valV r k := by simp [valV, List.find?_cons, e]
theorem zi8 (k : κ) : ∀ kvs : List (κ × V), (kvs.any fun kv => decide (kv.1 = k)) = (valV kvs k).isSome
  | [] => rfl
  | p :: r => by
    rw [List.any_cons]
    by_cases e : p.1 = k
    · simp only [zfn e, decide_eq_true e, Bool.true_or, Option.isSome_some]
    · rw [zfo e, decide_eq_false e, Bool.false_or]; exact zi8 k r
theorem zen (kvs : List (κ × V)) (k : κ) (v : V) : (putK kvs k v).length <= kvs.length + 1 := by
 unfold putK
 split
 ·rw [List.length_map]; omega
 ·rw [List.length_append, List.length_cons, List.length_nil]; omega
theorem RelO.isSome_eq {o : Option V} {u : Option Value} (r : RelO o u) : o.isSome = u.isSome := by
  cases o with
  | none => cases u with
    | none => rfl
    | some _ => exact (show False from r).elim
  | some _ => cases u with
    | none => exact (show False from r).elim
    | some _ => rfl
theorem RelO.getD {o : Option V} {u : Option Value} {d : V} {d' : Value} (r : RelO o u) (rd : RelV d d') : RelV (o.getD d) (u.getD d') := by
  cases o with
  | none => cases u with
    | none => exact rd
    | some _ => exact (show False from r).elim
  | some _ => cases u with
    | none => exact (show False from r).elim
    | some _ => exact r
theorem KV.val {kvs : List (κ × V)} {vs : List (κ × Value)} (r : KV kvs vs) (k : κ) : RelO (valV kvs k) (valueAt vs k) := by
  unfold KV at r
  induction r with
  | nil => exact True.intro
  | @cons p q ps qs h t ih =>
    obtain ⟨h1, h2⟩ := h
    by_cases e : p.1 = k
    · have e' : q.1 = k := h1.symm.trans e;have b : valueAt (q :: qs) k = some q.2 := by simp [valueAt, List.find?_cons, e']
      rw [zfn e, b]; exact h2
    · have e' : ¬ q.1 = k := fun z => e (h1.trans z);have b : valueAt (q :: qs) k = valueAt qs k := by simp [valueAt, List.find?_cons, e']
      rw [zfo e, b]; exact ih
theorem KV.any {kvs : List (κ × V)} {vs : List (κ × Value)} (r : KV kvs vs) (k : κ) : (kvs.any fun kv => decide (kv.1 = k)) = vs.any fun kv => decide (kv.1 = k) := by
 unfold KV at r
 induction r with
 | nil => rfl
 | cons h t ih => rw [List.any_cons, List.any_cons, ih, h.1]
theorem KV.repl {kvs : List (κ × V)} {vs : List (κ × Value)} (r : KV kvs vs) (k : κ) {y : V} {u : Value} (ry : RelV y u) :
    KV (kvs.map fun kv => if kv.1 = k then (kv.1, y) else kv) (vs.map fun kv => if kv.1 = k then (kv.1, u) else kv) := by
  unfold KV at r ⊢
  induction r with
  | nil => exact .nil
  | @cons p q ps qs h t ih =>
    rw [List.map_cons, List.map_cons];refine .cons ?_ ih;obtain ⟨h1, h2⟩ := h
    by_cases e : p.1 = k
    · rw [if_pos e, if_pos (h1.symm.trans e)]; exact ⟨h1, ry⟩
    · rw [if_neg e, if_neg (fun z => e (h1.trans z))]; exact ⟨h1, h2⟩
theorem KV.put {kvs : List (κ × V)} {vs : List (κ × Value)} (r : KV kvs vs) (k : κ) {y : V} {u : Value} (ry : RelV y u) : KV (putK kvs k y) (stored vs k u) := by
 unfold putK stored;rw [r.any k]
 by_cases e : (vs.any fun kv => decide (kv.1 = k)) = true
 ·rw [if_pos e, if_pos e]; exact r.repl k ry
 ·rw [if_neg e, if_neg e]; exact Paired.snoc r ⟨rfl, ry⟩
theorem KV.length {kvs : List (κ × V)} {vs : List (κ × Value)} (r : KV kvs vs) : kvs.length = vs.length := Paired.length r
end
theorem zic {P : Program} {w : World} {k : Key} {u : Value} (r : RelV (kV k) u) : (zaY P w).is k u = true := by
 cases k with
 | inl i => obtain ⟨t, e⟩ := (show ∃ t, u = Value.int i t from r); subst e; exact ziD P w i t
 | inr x => obtain ⟨t, e⟩ := (show ∃ t, u = Value.str x t from r); subst e; exact zeA P w x t
theorem zhG {P : Program} {w : World} : ∀ {ks : List Key} {us : List Value}, Vals (ks.map kV) us -> ItemsAre (zaY P w) ks us
  | [], _, r => by rw [List.map_nil] at r; cases r; exact .nil
  | k :: ks, _, r => by
    rw [List.map_cons] at r
    cases r with
    | cons h t => exact .cons (zic h) (zhG t)
abbrev KT (H : Hp) : List (List Key × V) -> List (List Key × Addr × Value) -> Prop := Paired fun p q => p.1 = q.1 /\ H q.2.1 = some (.tup (p.1.map kV)) /\ RelV p.2 q.2.2
theorem KT.val {H : Hp} {kvs : List (List Key × V)} {xs : List (List Key × Addr × Value)} (r : KT H kvs xs) (k : List Key) : RelO (valV kvs k) ((atKey xs k).map (·.2)) := by
  induction r with
  | nil => exact True.intro
  | @cons p q ps qs h t ih =>
    obtain ⟨h1, _, h2⟩ := h
    by_cases e : p.1 = k
    · have e' : q.1 = k := h1.symm.trans e;have b : atKey (q :: qs) k = some q.2 := by simp [atKey, List.find?_cons, e']
      rw [zfn e, b]; exact h2
    · have e' : ¬ q.1 = k := fun z => e (h1.trans z);have b : atKey (q :: qs) k = atKey qs k := by simp [atKey, List.find?_cons, e']
      rw [zfo e, b]; exact ih
theorem KT.repl {H : Hp} {kvs : List (List Key × V)} {xs : List (List Key × Addr × Value)} (r : KT H kvs xs) (k : List Key) {y : V} {u : Value} (ry : RelV y u) :
    KT H (kvs.map fun kv => if kv.1 = k then (kv.1, y) else kv) (xs.map (putAt k u)) := by
  induction r with
  | nil => exact .nil
  | @cons p q ps qs h t ih =>
    rw [List.map_cons, List.map_cons];refine .cons ?_ ih;obtain ⟨h1, h2, h3⟩ := h;unfold putAt
    by_cases e : p.1 = k
    · rw [if_pos e, if_pos (h1.symm.trans e)]; exact ⟨h1, h2, ry⟩
    · rw [if_neg e, if_neg (fun z => e (h1.trans z))]; exact ⟨h1, h2, h3⟩
theorem KT.put {H : Hp} {kvs : List (List Key × V)} {xs : List (List Key × Addr × Value)} (r : KT H kvs xs) (k : List Key) {b : Addr} {y : V} {u : Value} (hb : H b = some (.tup (k.map kV))) (ry : RelV y u) :
  KT H (putK kvs k y) (storedH xs k b u) := by
 have e : (kvs.any fun kv => decide (kv.1 = k)) = (atKey xs k).isSome := by
  rw [zi8, (r.val k).isSome_eq, Option.isSome_map]
 unfold putK storedH;rw [e]
 by_cases q : (atKey xs k).isSome = true
 ·rw [if_pos q, if_pos q]; exact r.repl k ry
 ·rw [if_neg q, if_neg q]; exact Paired.snoc r ⟨rfl, hb, ry⟩
theorem KT.keeps {H H' : Hp} {kvs : List (List Key × V)} {xs : List (List Key × Addr × Value)} (r : KT H kvs xs) (ht : ∀ b ys, H b = some (.tup ys) -> H' b = some (.tup ys)) : KT H' kvs xs :=
 Paired.mapP r fun _ _ z => ⟨z.1, ht _ _ z.2.1, z.2.2⟩
section
variable {P : Program} {w : World} {H : Hp} {h : Heap} {a : Addr}
theorem zqD {u : HO} (ok : HOk P w H h) (e : Rd H a u) : zbW P w H h a u := e.ok ok
theorem zmp {kvs : List (Key × V)} (ok : HOk P w H h) (e : Rd H a (.dK kvs)) : kvs.length <= sizeLine /\ (a == sysModules) = false /\ ∃ vs, KV kvs vs /\ h.DictOf (zaY P w) a vs :=
 show zbW P w H h a (.dK kvs) from zqD ok e
theorem zq9 {kvs : List (Key × V)} (ok : HOk P w H h) (e : H a = some (.dK kvs)) : kvs.length <= sizeLine /\ (a == sysModules) = false /\ ∃ vs, KV kvs vs /\ h.DictOf (zaY P w) a vs := zmp ok (.inl e)
theorem zi9 {ks : List Key} (ok : HOk P w H h) (e : H a = some (.tup (ks.map kV))) : (tupleKind (zaY P w)).is h ks a := by
 obtain ⟨_, its, r, o, h1, h2, n, h3⟩ := (show zbW P w H h a (.tup (ks.map kV)) from ok a _ e);exact ⟨o, its.toArray, n, h1, h2, h3, by simpa using zhG r⟩
theorem zmt {kvs : List (List Key × V)} (ok : HOk P w H h) (e : Rd H a (.dT kvs)) : kvs.length <= sizeLine /\ (a == sysModules) = false /\
    ∃ xs, KT H kvs xs /\ h.DictOfH (tupleKind (zaY P w)) a xs := by
  obtain ⟨z, y, xs, r, o, es, ep, h1, h2, h3, h4, h5⟩ := (show zbW P w H h a (.dT kvs) from zqD ok e);refine ⟨z, y, xs, r, o, es, ep, h1, h2, h3, h4, fun x hx => ?_, h5⟩;have all : ∀ {l : List (List Key × V)} {m : List (List Key × Addr × Value)}, KT H l m -> ∀ x ∈ m, (tupleKind (zaY P w)).is h x.1 x.2.1 := by
    intro l m q
    induction q with
    | nil => intro x hx; exact nomatch hx
    | @cons p q ps qs hq t ih =>
      intro x hx;rcases List.mem_cons.mp hx with e | hx
      · subst e;exact zi9 ok (by rw [<- hq.1]; exact hq.2.1)
      · exact ih x hx
  exact all r x hx
theorem ztu {kvs : List (List Key × V)} (ok : HOk P w H h) (e : H a = some (.dT kvs)) : kvs.length <= sizeLine /\ (a == sysModules) = false /\
  ∃ xs, KT H kvs xs /\ h.DictOfH (tupleKind (zaY P w)) a xs := zmt ok (.inl e)
end
def DGet (H : Hp) (a : Addr) (y : V) (r : Option V) : Prop :=
 (∃ kvs k, Rd H a (.dK kvs) /\ y = kV k /\ r = valV kvs k) \/ ∃ kvs k b, Rd H a (.dT kvs) /\ y = .ref b /\ H b = some (.tup (k.map kV)) /\ r = valV kvs k
def DPut (H : Hp) (a : Addr) (y v : V) (H' : Hp) : Prop :=
 (∃ kvs k, H a = some (.dK kvs) /\ y = kV k /\ kvs.length < sizeLine /\ H' = upd H a (.dK (putK kvs k v))) \/
 ∃ kvs k b, H a = some (.dT kvs) /\ y = .ref b /\ H b = some (.tup (k.map kV)) /\ kvs.length < sizeLine /\ H' = upd H a (.dT (putK kvs k v))
theorem DGet.k {H : Hp} {a : Addr} {kvs : List (Key × V)} {k : Key} (e : H a = some (.dK kvs)) : DGet H a (kV k) (valV kvs k) := .inl ⟨kvs, k, .inl e, rfl, rfl⟩
theorem DPut.k {H : Hp} {a : Addr} {kvs : List (Key × V)} {k : Key} {v : V} (e : H a = some (.dK kvs)) (hl : kvs.length < sizeLine) : DPut H a (kV k) v (upd H a (.dK (putK kvs k v))) := .inl ⟨kvs, k, e, rfl, hl, rfl⟩
section
variable {X : Cx} {pins : Pnx} {σ : St} {H : Hp} {s : Shared} {a : Addr} {y v : V} {u r : Value} {o : Option V} {A : Around} {E : Value -> Shared -> Prop}
theorem Inv.big (I : Inv X pins σ H s) : sysModules < s.heap.objs.size := by
 have h : mainGlobals < s.heap.objs.size := (I.mod.glob.keeps I.bk).lt;exact Nat.lt_trans (by decide) h
theorem d_in {Q : Value -> Shared -> Prop} (hu : A.units + 1 < cLine) (I : Inv X pins σ H s) (g : DGet H a y o) (ry : RelV y u) (h : ∀ s', Inv X pins σ H s' -> Q (.bool o.isSome) s') :
  wpAny (model X.prog X.w) A (compareOp .In u (.ref a)) Q E s := by
 rcases g with ⟨kvs, k, e, ey, l⟩ | ⟨kvs, k, b, e, ey, eb, l⟩
 ·subst ey;obtain ⟨z, hd, vs, rel, dd⟩ := zmp I.hok e;refine wpAny_in_of (zic ry) hd dd.mapOf ?_;rw [<- (rel.val k).isSome_eq, <- l];exact h _ (I.tok _)
 ·subst ey;cases (show u = Value.ref b from ry);obtain ⟨z, hd, xs, rel, dd⟩ := zmt I.hok e;refine wpAny_in_heap (tupleKind_room_in1 hu) (zi9 I.hok eb) hd dd ?_;have q := (rel.val k).isSome_eq;rw [Option.isSome_map] at q;rw [<- q, <- l];exact h _ (I.tok _)
theorem ziH {h' : Heap} {t' : Nat} {ob : HO} (I : Inv X pins σ H s) (mu : Mut (H a)) (hs : Heap.SameBut a s.heap h') (he : ∃ q, h'.get? a = some q) (new : zbW X.prog X.w (upd H a ob) h' a ob) :
  Inv X pins σ (upd H a ob) { s with heap := h', toks := t' } :=
 I.write (x := a) (e := a) mu (.inl rfl) (fun b q hb z => (hs.2 b hb).trans z) he new
theorem zmP {P : Program} {w : World} {H' : Hp} {h' : Heap} {kvs : List (Key × V)} {vs : List (Key × Value)} (z : kvs.length <= sizeLine) (hd : (a == sysModules) = false) (rel : KV kvs vs) (dd : h'.DictOf (zaY P w) a vs) :
  zbW P w H' h' a (.dK kvs) := ⟨z, hd, vs, rel, dd⟩
theorem zkC {H' : Hp} {Q : Unit -> Shared -> Prop} (hu : A.units + 1 < cLine) (I : Inv X pins σ H s) (g : DPut H a y v H') (ry : RelV y u) (rv : RelV v r) (h : ∀ s', Inv X pins σ H' s' -> Q () s') :
  wpAny (model X.prog X.w) A (setItem (.ref a) u r) Q E s := by
 rcases g with ⟨kvs, k, e, ey, l, eH⟩ | ⟨kvs, k, b, e, ey, eb, l, eH⟩
 ·subst ey eH;obtain ⟨z, hd, vs, rel, dd⟩ := zq9 I.hok e;have hz : vs.length <= sizeLine := by rw [<- rel.length]; exact z
  have hl : (putK kvs k v).length <= sizeLine := by have := zen kvs k v; omega
  refine wpAny_setItem_pairs (hsz := hz) (zic ry) dd fun h' dd' hs => h _ ?_;have he : ∃ q, h'.get? a = some q := let ⟨q, _, _, hq, _⟩ := dd'; ⟨q, hq⟩
  exact ziH I (by rw [e]; exact True.intro) hs he (zmP hl hd (rel.put k rv) dd')
 ·subst ey eH;cases (show u = Value.ref b from ry);obtain ⟨z, hd, xs, rel, dd⟩ := ztu I.hok e;have hz : xs.length <= sizeLine := by rw [<- Paired.length rel]; exact z
  have hl : (putK kvs k v).length <= sizeLine := by have := zen kvs k v; omega
  refine wpAny_setItem_heap (hsz := hz) (tupleKind_room_in1 hu) (zi9 I.hok eb) dd fun h' dd' hs => h _ ?_;obtain ⟨q, es, ep, hq, h2, h3, h4, _, h5⟩ := dd';refine ziH I (by rw [e]; exact True.intro) hs ⟨q, hq⟩ ⟨hl, hd, _, (rel.put k eb rv).keeps fun c ys ec => ?_, q, es, ep, hq, h2, h3, h4, h5⟩;rw [zal (zsh ec e (fun z => nomatch z))]
  exact ec
end
def NoSl (i : Expr) : Prop := ∀ ov iv, subscripted i false ov iv = operate [ov, iv] (getItem ov iv)
theorem znW {prog : Program} {w : World} {A : Around} {E : Value -> Shared -> Prop} {s : Shared} {env : Env} {value slice : Expr} {pos : Pos} {T id : String} {Q : Value -> Shared -> Prop}
  (hl : typeLookup (.type T) "__getitem__" = pure (some (.builtin id))) (hs : NoSl slice)
  (h : wpAny (model prog w) A (eval value env) (fun o s₁ => wpAny (model prog w) A (eval slice env) (fun i s₂ => s₂.TypeIs o T /\ wpAny (model prog w) A (getItem o i) Q E s₂) E s₁) E s) :
  wpAny (model prog w) A (eval (.Subscript value slice pos) env) Q E s := by
 refine Subscript_ (wpAny_mono h (fun o s₁ h₁ => wpAny_mono h₁ (fun i s₂ h₂ => ?_) fun _ _ x => x) fun _ _ x => x);obtain ⟨hT, h₂⟩ := h₂;unfold subscriptTail;refine wpAny_bind ?_;rw [getitemInPython_of_ne hT.not_modules];refine wpAny_bind (wpAny_specialOf hT hl ?_);have fin : wpAny (model prog w) A (subscripted slice false o i) (fun r s₃ => wpAny (model prog w) A (letTemporaryGo value o r >>= fun _ => pure r) Q E s₃) E s₂ := by
  rw [hs o i];exact wpAny_operating (wpAny_mono h₂ (fun r s₃ h₃ => wpAny_bind (wpAny_letTemporaryGo (wpAny_pure h₃))) fun _ _ x => x)
 first
  | exact wpAny_pure (wpAny_bind fin)
  | exact wpAny_bind (wpAny_pure (wpAny_bind fin))
  | exact wpAny_bind fin
def tDIn (ty td : TE) : TE := fun σ H Q => ty σ H fun y H1 => td σ H1 fun x H2 => ∃ a o, x = .ref a /\ DGet H2 a y o /\ Q (.bl o.isSome) H2
def zoX (ty td : TE) : TE := fun σ H Q => ty σ H fun y H1 => td σ H1 fun x H2 => ∃ a o, x = .ref a /\ DGet H2 a y o /\ Q (.bl (!o.isSome)) H2
def ztW (td ty tv : TE) : TS := fun D σ H => tv σ H fun v H1 => td σ H1 fun x H2 => ty σ H2 fun y H3 => ∃ a H4, x = .ref a /\ DPut H3 a y v H4 /\ D.nx σ H4
section
variable {X : Cx} {o i e value : Expr} {pos pos' tpos : Pos} {td ty tv : TE}
theorem zpz (hu : X.A.units + 1 < cLine) (hi : PE X i ty) (ho : PE X o td) : PC X .In i o (tDIn ty td) := by
 intro pins s σ H Q I h;refine thn (hi pins s σ H _ I h) fun iv s1 ⟨y, H1, I1, ry, q1⟩ => thn (ho pins s1 σ H1 _ I1 q1) fun u s2 ⟨x, H2, I2, rx, a, ov, ex, g, q2⟩ => ?_;subst ex;obtain rfl : u = Value.ref a := rx;exact d_in hu I2 g ry fun s3 I3 => ⟨.bl ov.isSome, H2, I3, rfl, q2⟩
theorem zn8 (hu : X.A.units + 1 < cLine) (ho : PE X o td) (hi : PE X i ty) (hv : PE X value tv) (hs : swapsWith value (some (.Subscript o i pos')) pos.line X.env = pure false) :
  PS X (.Assign [.Subscript o i pos'] value pos) (ztW td ty tv) := by
 intro pins s σ H D I h;refine wpAny_Assign_Subscript (thn (hv pins s σ H _ I h) fun r s1 ⟨v, H1, I1, rv, q1⟩ => thn (ho pins s1 σ H1 _ I1 q1) fun u s2 ⟨x, H2, I2, rx, q2⟩ => thn (hi pins s2 σ H2 _ I2 q2) fun iv s3 ⟨y, H3, I3, ry, a, H4, ex, g, q3⟩ => ?_) hs;subst ex;obtain rfl : u = Value.ref a := rx;exact zkC hu I3 g ry rv fun s4 I4 => ⟨σ, H4, I4, q3⟩
end
theorem zjp {P : Program} {w : World} {H : Hp} (h : Heap) (hb : sysModules < h.objs.size) : zbW P w H (h.push { cls := .type "dict", data := .dict #[] }) h.objs.size (.dK []) :=
 ⟨Nat.zero_le _, beq_eq_false_iff_ne.mpr (Ne.symm (Nat.ne_of_lt hb)), [], .nil, Heap.DictOf.new h⟩
def zqI : TE := fun _ H Q => ∀ p, H p = none -> Q (.ref p) (upd H p (.dK []))
section
variable {X : Cx} {pos : Pos}
theorem zmA : PE X (.Dict [] [] pos) zqI := fun pins s σ H Q I h =>
 wpAny_Dict_empty ⟨.ref s.heap.objs.size, _, I.laid (a := s.heap.objs.size) (o := .dK []) (t' := s.toks) (fun _ _ q => Heap.get?_push_of_some _ q) (Nat.le_refl _) (zjp s.heap I.big), rfl, h _ (I.hok.fresh (Nat.le_refl _))⟩
end
def zjc : List (TE × TE) -> St -> Hp -> (List (V × V) -> Hp -> Prop) -> Prop
 | [], _, H, Q => Q [] H
 | (tk, tv) :: r, σ, H, Q => tk σ H fun x H1 => tv σ H1 fun y H2 => zjc r σ H2 fun ps H3 => Q ((x, y) :: ps) H3
abbrev VV : List (V × V) -> List (Value × Value) -> Prop := Paired fun p q => RelV p.1 q.1 /\ RelV p.2 q.2
def PPs (X : Cx) (pos : Pos) (keys : List (Option Expr)) (values : List Expr) (trs : List (TE × TE)) : Prop :=
 ∀ (pins : Pnx) (s : Shared) (σ : St) (H : Hp) (Q : List (V × V) -> Hp -> Prop), Inv X pins σ H s -> zjc trs σ H Q ->
  wpAny (model X.prog X.w) X.A (evalPairs (pairTrees keys values X.env pos)) (fun vs s' => ∃ ps H', Inv X pins σ H' s' /\ VV ps vs /\ Q ps H') X.xe s
theorem zoE {X : Cx} {pos : Pos} : PPs X pos [] [] [] := fun pins s σ H Q I h => pairTrees_nil_walk ⟨[], H, I, .nil, h⟩
theorem zmq {X : Cx} {pos : Pos} {k v : Expr} {ks : List (Option Expr)} {vs : List Expr} {tk tv : TE} {trs : List (TE × TE)} (hk : PE X k tk) (hv : PE X v tv) (hr : PPs X pos ks vs trs) :
  PPs X pos (some k :: ks) (v :: vs) ((tk, tv) :: trs) := fun pins s σ H Q I h =>
 pairTrees_cons_walk (thn (hk pins s σ H _ I h) fun u s1 ⟨x, H1, I1, rx, q1⟩ => thn (hv pins s1 σ H1 _ I1 q1) fun w2 s2 ⟨y, H2, I2, ry, q2⟩ =>
  thn (hr pins s2 σ H2 _ I2 q2) fun ws s3 ⟨ps, H3, I3, rel, q3⟩ => ⟨(x, y) :: ps, H3, I3, .cons ⟨rx, ry⟩ rel, q3⟩)
def zfh (kvs more : List (Key × V)) : List (Key × V) := more.foldl (fun acc kv => putK acc kv.1 kv.2) kvs
theorem KV.merge : ∀ {more : List (Key × V)} {rs : List (Key × Value)} {kvs : List (Key × V)} {vs : List (Key × Value)}, KV more rs -> KV kvs vs -> KV (zfh kvs more) (merged vs rs) := by
  intro more rs kvs vs r;unfold KV at r
  induction r generalizing kvs vs with
  | nil => intro q; exact q
  | @cons p q ps qs h t ih =>
    intro r0;have e : KV (putK kvs p.1 p.2) (stored vs q.1 q.2) := by
      have := r0.put p.1 h.2;rw [<- h.1]; exact this
    exact ih e
theorem zeD : ∀ (more kvs : List (Key × V)), (zfh kvs more).length <= kvs.length + more.length
  | [], kvs => by show kvs.length <= kvs.length + 0; omega
  | p :: r, kvs => by
    have h1 := zeD r (putK kvs p.1 p.2);have h2 := zen kvs p.1 p.2;show (zfh (putK kvs p.1 p.2) r).length <= _;rw [List.length_cons]; omega
theorem zgX {P : Program} {w : World} : ∀ {kvs : List (Key × V)} {ws : List (Value × Value)}, VV (kvs.map fun kv => (kV kv.1, kv.2)) ws -> ∃ rs, Carries (zaY P w) ws rs /\ KV kvs rs
  | [], _, r => by rw [List.map_nil] at r; cases r; exact ⟨[], True.intro, .nil⟩
  | p :: kvs, _, r => by
    rw [List.map_cons] at r
    cases r with
    | @cons a b as bs h t =>
      obtain ⟨rs, c, q⟩ := zgX (P := P) (w := w) t;obtain ⟨b1, b2⟩ := b;exact ⟨(p.1, b2) :: rs, ⟨zic h.1, rfl, c⟩, .cons ⟨rfl, h.2⟩ q⟩
def ztJ (trs : List (TE × TE)) : TE := fun σ H Q => ∀ p, H p = none -> zjc trs σ (upd H p (.dK [])) fun ps H2 => H2 p = some (.dK []) /\ ∃ kvs : List (Key × V), ps = kvs.map (fun kv => (kV kv.1, kv.2)) /\ kvs.length <= 15 /\ Q (.ref p) (upd H2 p (.dK (zfh [] kvs)))
theorem zoa {X : Cx} {pos : Pos} {keys : List (Option Expr)} {values : List Expr} {trs : List (TE × TE)} (h : PPs X pos keys values trs) (hall : keys.all (·.isSome) = true) (hl : keys.length = values.length) (h0 : keys ≠ [])
  (h15 : keys.length <= 15) : PE X (.Dict keys values pos) (ztJ trs) := by
 intro pins s σ H Q I q;have hn := I.hok.fresh (Nat.le_refl s.heap.objs.size);have I1 := I.laid (a := s.heap.objs.size) (o := .dK []) (h' := s.heap.push { cls := .type "dict", data := .dict #[] }) (t' := s.toks) (fun _ _ q => Heap.get?_push_of_some _ q) (Nat.le_refl _) (zjp s.heap I.big);refine wpAny_Dict_walk (knd := zaY X.prog X.w) hall hl h0 h15 (thn (h pins _ σ _ _ I1 (q _ hn)) fun ws s2 ⟨ps, H2, I2, rel, e, kvs, ep, lk, q2⟩ => ?_);subst ep;obtain ⟨rs, c, rk⟩ := zgX (P := X.prog) (w := X.w) rel;obtain ⟨z, hd, vs0, r0, dd⟩ := zq9 I2.hok e;cases r0;refine ⟨rs, c, dd, fun h' dd' hs => ⟨.ref s.heap.objs.size, _, ?_, rfl, q2⟩⟩;have hz : (zfh [] kvs).length <= sizeLine := by
  have h1 := zeD kvs [];rw [List.length_nil] at h1;rw [sizeLine_eq]; omega
 have he : ∃ q, h'.get? s.heap.objs.size = some q := let ⟨q, _, _, hq, _⟩ := dd'; ⟨q, hq⟩
 exact ziH I2 (by rw [e]; exact True.intro) hs he (zmP hz hd (rk.merge .nil) dd')
structure M1 (X : Cx) (o : Expr) (m : Str) (apos : Pos) (e : Expr) (cpos : Pos) : Prop where
 base : attributeBase o m X.env (eval o X.env) = eval o X.env
 few : ((backTo cpos (starEach [e] X.env)).all (fun x => !x.1) && (backToKw cpos (keywordEach [] X.env)).all (fun x => x.1.isSome)
  && decide (([e] : List Expr).length + ([] : List Keyword).length + (if ([] : List Keyword).isEmpty then 0 else 1) < 30)) = true
 line : (apos.endLine == cpos.line) = true
 trees : backTo cpos (starEach [e] X.env) = [(false, eval e X.env)]
structure M2 (X : Cx) (o : Expr) (m : Str) (apos : Pos) (e f : Expr) (cpos : Pos) : Prop where
 base : attributeBase o m X.env (eval o X.env) = eval o X.env
 few : ((backTo cpos (starEach [e, f] X.env)).all (fun x => !x.1) && (backToKw cpos (keywordEach [] X.env)).all (fun x => x.1.isSome)
  && decide (([e, f] : List Expr).length + ([] : List Keyword).length + (if ([] : List Keyword).isEmpty then 0 else 1) < 30)) = true
 line : (apos.endLine == cpos.line) = true
 trees : backTo cpos (starEach [e, f] X.env) = [(false, eval e X.env), (false, eval f X.env)]
def IsD (H : Hp) (a : Addr) : Prop := (∃ kvs, Rd H a (.dK kvs)) \/ ∃ kvs, Rd H a (.dT kvs)
theorem zr5 {X : Cx} {pins : Pnx} {σ : St} {H : Hp} {s : Shared} {a : Addr} (I : Inv X pins σ H s) (d : IsD H a) :
  s.TypeIs (.ref a) "dict" /\ (∀ b, Value.ref a = .ref b -> ∃ ob, s.heap.get? b = some ob /\ ob.dict = none) /\ (a == sysModules) = false := by
 rcases d with ⟨kvs, e⟩ | ⟨kvs, e⟩
 ·obtain ⟨_, hd, vs, _, dd⟩ := zmp I.hok e;refine ⟨dd.typeIs, fun b q => ?_, hd⟩;cases q;obtain ⟨ob, _, _, h1, h2, _⟩ := dd;exact ⟨ob, h1, h2.2.1⟩
 ·obtain ⟨_, hd, xs, _, dd⟩ := zmt I.hok e;refine ⟨dd.typeIs, fun b q => ?_, hd⟩;cases q;obtain ⟨ob, _, _, h1, h2, _⟩ := dd;exact ⟨ob, h1, h2.2.1⟩
section
variable {X : Cx} {pins : Pnx} {σ : St} {H : Hp} {s : Shared} {a : Addr} {y d : V} {u r : Value} {o : Option V} {A : Around} {E : Value -> Shared -> Prop}
theorem zpo {Q : Value -> Shared -> Prop} (hu : A.units + 1 < cLine) (I : Inv X pins σ H s) (g : DGet H a y o) (ry : RelV y u) (rd : RelV d r) (h : ∀ w' s', Inv X pins σ H s' -> RelV (o.getD d) w' -> Q w' s') :
  wpAny (model X.prog X.w) A (call (.builtin "dict.get") [.ref a, u, r]) Q E s := by
 rcases g with ⟨kvs, k, e, ey, l⟩ | ⟨kvs, k, b, e, ey, eb, l⟩
 ·subst ey;obtain ⟨z, hd, vs, rel, dd⟩ := zmp I.hok e;refine call_meetsIn PySem.F.slot_dict_get dd.typeIs PySem.F.entry_dict_get (PySem.F.args_dict_get_3 _ _ _) (meets_dict_get_default (zaY X.prog X.w) a (zic ry) hd r) ⟨_, dd.mapOf, h _ _ (I.tok _) ?_⟩;rw [l];exact (rel.val k).getD rd
 ·subst ey;cases (show u = Value.ref b from ry);obtain ⟨z, hd, xs, rel, dd⟩ := zmt I.hok e;refine call_meetsIn PySem.F.slot_dict_get dd.typeIs PySem.F.entry_dict_get (PySem.F.args_dict_get_3 _ _ _) (meetsH_dict_get_default (tupleKind (zaY X.prog X.w)) a b hd r) ⟨tupleKind_room_in1 hu, k, xs, zi9 I.hok eb, dd, h _ _ (I.tok _) ?_⟩;rw [l];exact (rel.val k).getD rd
end
def zpQ (td ty tx : TE) : TE := fun σ H Q => td σ H fun x H1 => ∃ a, x = .ref a /\ IsD H1 a /\ ty σ H1 fun y H2 => tx σ H2 fun z H3 => ∃ o, DGet H3 a y o /\ Q (o.getD z) H3
section
variable {X : Cx} {o e f : Expr} {apos cpos : Pos} {td ty tx : TE}
theorem zmc (hu : X.A.units + 1 < cLine) (ho : PE X o td) (he : PE X e ty) (hf : PE X f tx) (m : M2 X o "get" apos e f cpos) : PE X (.Call (.Attribute o "get" apos) [e, f] [] cpos) (zpQ td ty tx) := by
 intro pins s σ H Q I h;refine wpAny_Call_method m.base m.few m.line PySem.F.plainAttrs_dict PySem.F.slot_dict_get PySem.F.type_dict_get (thn (ho pins s σ H _ I h) fun u s1 ⟨x, H1, I1, rx, a, ex, d, q1⟩ => ?_);subst ex;obtain rfl : u = Value.ref a := rx;obtain ⟨t1, t2, _⟩ := zr5 I1 d;refine ⟨t1, t2, ?_⟩;rw [m.trees];refine Calls.callWith_builtin rfl (Calls.evalArgs_plain (Calls.spliced_cons (thn (he pins s1 σ H1 _ I1 q1) fun iv s2 ⟨y, H2, I2, ry, q2⟩ =>
  Calls.spliced_cons (thn (hf pins s2 σ H2 _ I2 q2) fun fv s3 ⟨z, H3, I3, rz, ov, g, q3⟩ => Calls.spliced_nil ?_))))
 exact zpo hu I3 g ry rz fun w' s4 I4 rw' => ⟨_, H3, I4, rw', q3⟩
end
end L2
namespace Att
open PySem PySem.W PySem.Calls PyProof.Rows
end Att
namespace L2
open PySem PySem.Spec PyProof.Rows
def Its (z : Str) : It := ⟨fun i _ => i < z.cps.size, fun i H x H' => H' = H /\ ∃ c, z.cps[i]? = some c /\ x = .str ⟨#[c]⟩, fun i _ => i = z.cps.size⟩
theorem zrA {M : Model} {A : Around} {E : Value -> Shared -> Prop} {s : Shared} {tg : Expr} {it : Addr} {x : Str} {t : Tok} {Q : Unit -> Shared -> Prop} (hQ : Q () s) : wpAny M A (letOwnedTupleGo tg (.ref it) (.str x t)) Q E s := by
 unfold letOwnedTupleGo;cases tg <;> exact wpAny_pure hQ
theorem zjg {P : Program} {w : World} {K : Fgx} {tg : Expr} {ty : String} {z : Str} {t : Tok} {it : Addr}
  (W : ∀ A : Around, A.handled = none -> Walks P w A it [it] [it] z.cps.size (SignAt z) (fun i h => h.IsStrIter it ty z t i))
  (hself : ∀ (A : Around) (i : Nat) (s : Shared) (Q : Value -> Shared -> Prop) (E : Value -> Shared -> Prop), s.heap.IsStrIter it ty z t i -> Q (.ref it) s -> wpAny (model P w) A (pyIter (.ref it)) Q E s) :
  Turn P w K tg (Its z) [it] it (fun i h => h.IsStrIter it ty z t i) where
 mem := by simp
 obj := fun i h st b hb => by
  have e : b = it := by simpa using hb
  subst e;obtain ⟨o, e, c, d⟩ := st;exact ⟨o, e, fun v z => by rw [d] at z; cases z⟩
 keep := fun i h h' st k => by
  obtain ⟨o, e, c, d⟩ := st;exact ⟨o, k it (by simp) o e, c, d⟩
 item := by
  intro X hP hw hK hc i pins s σ H E I hf st hg;subst hP hw hK;obtain ⟨f0, f1, f2, f3, f4, f5⟩ := hf it (by simp);refine (W X.A (I.ok.hd hc)).item i s _ _ hg st fun v h' tk hv st' kk => ?_;obtain ⟨c, u, hcc, rfl⟩ := hv;have I1 : Inv X pins σ H { s with heap := h', toks := tk } := I.turned (fun b o hb e => kk b o (by simpa using hb) e) f0 f1 f3 f4 f5;exact ⟨_, rfl, zrA ⟨.str ⟨#[c]⟩, H, I1, ⟨_, rfl⟩, ⟨rfl, c, hcc, rfl⟩, st', fun b hb => (hf b hb).1⟩⟩
 done := by
  intro X hP hw hK hc i pins s σ H E I hf st hg;subst hP hw hK;have hg' : i = z.cps.size := hg;subst hg';obtain ⟨f0, f1, f2, f3, f4, f5⟩ := hf it (by simp);exact (W X.A (I.ok.hd hc)).done s _ _ st fun h' tk kk => ⟨rfl, I.turned (fun b o hb e => kk b o (by simpa using hb) e) f0 f1 f3 f4 f5⟩
 self := fun A i s Q E st q => hself A i s Q E st q
section
variable {X : Cx} {tg : Expr}
def iStr (tl : TE) : TI := fun σ H R => tl σ H fun x H1 => ∃ z, x = .str z /\ R (Its z) H1
theorem zpY {l : Expr} {tl : TE} (hl : PE X l tl) : PI X tg l (iStr tl) := by
 intro pins s σ H R I h;refine thn (hl pins s σ H _ I h) fun v s1 ⟨x, H1, I1, r1, q1⟩ => ?_;obtain ⟨z, e, q⟩ := q1;subst e;obtain ⟨t, e⟩ := r1;subst e;have fp : ∀ b ∈ [s1.heap.objs.size], FpOk X pins H1 b := fun b hb => by
  have e : b = s1.heap.objs.size := by simpa using hb
  subst e;exact I1.fpOk (Nat.le_refl _) (I1.hok.fresh (Nat.le_refl _))
 cases ha : z.cps.all (· < 128)
 ·refine wpAny_pyIter_wide ha ?_;exact ⟨s1.heap.objs.size, [s1.heap.objs.size], _, _, H1, rfl, I1.kept (t' := s1.toks) fun b o e => Heap.get?_push_of_some _ e,
   zjg (ty := "str_iterator") (z := z) (t := t) (fun A hA => Walks.strWide hA _ z t) (fun _ _ _ _ _ st q => wpAny_pyIter_striter_wide st q), ⟨_, Heap.get?_push_size _ rfl, rfl, rfl⟩, fp, q⟩
 ·refine wpAny_pyIter_ascii ha ?_;exact ⟨s1.heap.objs.size, [s1.heap.objs.size], _, _, H1, rfl, I1.kept (t' := s1.toks) fun b o e => Heap.get?_push_of_some _ e,
   zjg (ty := "str_ascii_iterator") (z := z) (t := t) (fun A hA => Walks.strAscii hA _ z t) (fun _ _ _ _ _ st q => wpAny_pyIter_striter_ascii st q), ⟨_, Heap.get?_push_size _ rfl, rfl, rfl⟩, fp, q⟩
end
theorem zjG {ys : List Str} : ∀ {us : List Value}, Vals (ys.map V.str) us -> StrsAre us ys := by
  induction ys with
  | nil => intro us r; rw [List.map_nil] at r; cases r; exact .nil
  | cons n ns ih =>
    intro us r;rw [List.map_cons] at r
    cases r with
    | cons r1 r2 =>
      obtain ⟨t, e⟩ := r1;subst e;exact .cons n t (ih r2)
section
variable {X : Cx}
def rJoin (K : Fgx) : V -> List V -> Hp -> VK -> Prop := fun x vs H Q => ∃ z l ys, x = .str z /\ vs = [.ref l] /\ SqL K H l (ys.map V.str) /\ z.length <= 16 /\ (ys.map (·.length)).sum + ys.length <= 1048576 /\ Q (.str (Txt.join z ys)) H
theorem zkP : MtR X "str.join" (rJoin X.K) := by
 intro pins s σ H x vs v us Q I rx rv h;obtain ⟨z, l, ys, rfl, rfl, hq, h1, h2, q⟩ := h;obtain ⟨t, rfl⟩ := rx;obtain ⟨u, rfl, ru⟩ := rv.one;cases ru;obtain ⟨its, r, pl, hz⟩ := I.list hq;exact join_listW pl.isList (by simpa using zjG r) h1 h2 fun t' k => ⟨.str _, H, I.tok _, ⟨_, rfl⟩, q⟩
def rSlS : V -> Option Int -> Option Int -> Hp -> VK -> Prop := fun x lo hi H Q => ∃ z, x = .str z /\ z.length <= sizeLine /\ Q (.str (Txt.slice z lo hi)) H
theorem zqB : SlR X rSlS := by
 intro pins s σ H x v vl vu lo hi sl Q I rx hs pl pu h;obtain ⟨z, rfl, hz, q⟩ := h;obtain ⟨t, rfl⟩ := rx;refine ⟨"str", _, F.slot_str_getitem.lookup, typeIs_str _ _ _, ?_⟩;obtain ⟨o, ho, hc, hd⟩ := hs;cases pl <;> cases pu
 ·exact wpAny_getItem_str_slice (l := none) (u := none) (st := none) ⟨o, ho, hc, hd⟩ rfl (post_val_or_str ⟨Nat.le_trans (Txt.slice_le z none none) hz, fun t' k => ⟨.str _, H, I.tok _, ⟨_, rfl⟩, q⟩⟩)
 ·rename_i j uj;exact wpAny_getItem_str_slice (l := none) (u := some (j, uj)) (st := none) ⟨o, ho, hc, hd⟩ rfl (post_val_or_str ⟨Nat.le_trans (Txt.slice_le z none (some j)) hz, fun t' k => ⟨.str _, H, I.tok _, ⟨_, rfl⟩, q⟩⟩)
 ·rename_i i ui;exact wpAny_getItem_str_slice (l := some (i, ui)) (u := none) (st := none) ⟨o, ho, hc, hd⟩ rfl (post_val_or_str ⟨Nat.le_trans (Txt.slice_le z (some i) none) hz, fun t' k => ⟨.str _, H, I.tok _, ⟨_, rfl⟩, q⟩⟩)
 ·rename_i i ui j uj;exact wpAny_getItem_str_slice (l := some (i, ui)) (u := some (j, uj)) (st := none) ⟨o, ho, hc, hd⟩ rfl (post_val_or_str ⟨Nat.le_trans (Txt.slice_le z (some i) (some j)) hz, fun t' k => ⟨.str _, H, I.tok _, ⟨_, rfl⟩, q⟩⟩)
theorem zqV : OpR X (compareOp .Is) (fun x y H Q => ∃ b, y = .bl b /\ Q (.bl (decide (x = .bl b))) H) := by
 intro pins s σ H x y v u Q I rx ry h;obtain ⟨b, rfl, q⟩ := h;cases ry
 cases x with
 | bl c => cases rx; exact wpAny_pure (zav I q (by cases b <;> cases c <;> rfl))
 | non => cases rx; exact wpAny_pure (zav I q (by simp))
 | int _ => obtain ⟨t, rfl⟩ := rx; exact wpAny_pure (zav I q (by simp))
 | str _ => obtain ⟨t, rfl⟩ := rx; exact wpAny_pure (zav I q (by simp))
 | byt _ => obtain ⟨t, rfl⟩ := rx; exact wpAny_pure (zav I q (by simp))
 | flt _ => obtain ⟨t, rfl⟩ := rx; exact wpAny_pure (zav I q (by simp))
 | ref _ => cases rx; exact wpAny_pure (zav I q (by simp))
 | ty _ => cases rx; exact wpAny_pure (zav I q (by simp))
theorem zkS : OpR X (compareOp .IsNot) (fun x y H Q => ∃ b, y = .bl b /\ Q (.bl (!decide (x = .bl b))) H) := by
 intro pins s σ H x y v u Q I rx ry h;obtain ⟨b, rfl, q⟩ := h;cases ry
 cases x with
 | bl c => cases rx; exact wpAny_pure (zav I q (by cases b <;> cases c <;> rfl))
 | non => cases rx; exact wpAny_pure (zav I q (by simp))
 | int _ => obtain ⟨t, rfl⟩ := rx; exact wpAny_pure (zav I q (by simp))
 | str _ => obtain ⟨t, rfl⟩ := rx; exact wpAny_pure (zav I q (by simp))
 | byt _ => obtain ⟨t, rfl⟩ := rx; exact wpAny_pure (zav I q (by simp))
 | flt _ => obtain ⟨t, rfl⟩ := rx; exact wpAny_pure (zav I q (by simp))
 | ref _ => cases rx; exact wpAny_pure (zav I q (by simp))
 | ty _ => cases rx; exact wpAny_pure (zav I q (by simp))
theorem range_all (bs : List Bool) : (List.range bs.length).all (fun i => (bs[i]?).getD false) = bs.all id := by
 rw [Bool.eq_iff_iff, List.all_eq_true, List.all_eq_true]
 constructor
 ·intro h b hb;obtain ⟨i, hi, e⟩ := List.mem_iff_getElem.mp hb;have := h i (List.mem_range.mpr hi);rw [List.getElem?_eq_getElem hi, e] at this;exact this
 ·intro h i hi;have hi' := List.mem_range.mp hi;rw [List.getElem?_eq_getElem hi'];exact h _ (List.getElem_mem hi')
theorem range_any (bs : List Bool) : (List.range bs.length).any (fun i => (bs[i]?).getD false) = bs.any id := by
 rw [Bool.eq_iff_iff, List.any_eq_true, List.any_eq_true]
 constructor
 ·rintro ⟨i, hi, h⟩;have hi' := List.mem_range.mp hi;rw [List.getElem?_eq_getElem hi'] at h;exact ⟨_, List.getElem_mem hi', h⟩
 ·rintro ⟨b, hb, h⟩;obtain ⟨i, hi, e⟩ := List.mem_iff_getElem.mp hb;refine ⟨i, List.mem_range.mpr hi, ?_⟩;rw [List.getElem?_eq_getElem hi, e];exact h
theorem zkq {bs : List Bool} {its : List Value} (r : Vals (bs.map V.bl) its) {i : Nat} {v : Value} (h : its.toArray[i]? = some v) : v = .bool ((bs[i]?).getD false) := by
 have h' : its[i]? = some v := by simpa using h
 have hl := r.length;rw [List.length_map] at hl;have hi : i < bs.length := by
  have := (List.getElem?_eq_some_iff.mp h').1;omega
 have hx : (bs.map V.bl)[i]? = some (V.bl bs[i]) := by rw [List.getElem?_map, List.getElem?_eq_getElem hi]; rfl
 obtain ⟨u, hu, ru⟩ := r.get hx;rw [h'] at hu;cases hu;rw [List.getElem?_eq_getElem hi];exact ru
theorem zgZ (hc : X.calm = true) : zdT X (.builtin "all") (fun xs H Q => ∃ (p : Addr) (bs : List Bool), xs = [.ref p] /\ SqL X.K H p (bs.map V.bl) /\ Q (.bl (bs.all id)) H) := by
 intro pins s σ H xs us Q I r h;obtain ⟨p, bs, rfl, hq, q⟩ := h;obtain ⟨u, rfl, ru⟩ := vals1 r;cases ru;obtain ⟨its, rv, pl, hz⟩ := I.list hq;have hp : p < s.heap.objs.size := by obtain ⟨o, ho, _⟩ := pl.isList; exact Heap.lt_size ho
 have hn : its.toArray.size = bs.length := by rw [List.size_toArray, <- rv.length, List.length_map]
 refine call_all_walk (wpAny_pyIter_list pl.isList ⟨s.heap.objs.size, _, _, its.toArray.size, _, _, fun i => (bs[i]?).getD false, rfl, Walks.list (A := X.A.in1) (show X.A.in1.handled = none from I.ok.hd hc) _ p (Nat.ne_of_lt hp) its.toArray,
  ⟨⟨_, Heap.get?_push_size _ rfl, rfl, rfl⟩, pl.isList.at fun o e => Heap.get?_push_of_some _ e⟩, fun i v s' Q' E' hv hQ => ?_, fun h' tk kk => ?_⟩)
 ·rw [zkq rv hv];exact wpAny_truthy_bool hQ
 ·rw [hn, range_all];refine ⟨.bl _, H, I.kept fun b o e => kk b o ?_ (Heap.get?_push_of_some _ e), rfl, q⟩;intro z;have z' : b = s.heap.objs.size := by simpa using z
  exact Nat.lt_irrefl _ (z' ▸ Heap.lt_size e)
theorem zl1 (hc : X.calm = true) : zdT X (.builtin "any") (fun xs H Q => ∃ (p : Addr) (bs : List Bool), xs = [.ref p] /\ SqL X.K H p (bs.map V.bl) /\ Q (.bl (bs.any id)) H) := by
 intro pins s σ H xs us Q I r h;obtain ⟨p, bs, rfl, hq, q⟩ := h;obtain ⟨u, rfl, ru⟩ := vals1 r;cases ru;obtain ⟨its, rv, pl, hz⟩ := I.list hq;have hp : p < s.heap.objs.size := by obtain ⟨o, ho, _⟩ := pl.isList; exact Heap.lt_size ho
 have hn : its.toArray.size = bs.length := by rw [List.size_toArray, <- rv.length, List.length_map]
 refine call_any_walk (wpAny_pyIter_list pl.isList ⟨s.heap.objs.size, _, _, its.toArray.size, _, _, fun i => (bs[i]?).getD false, rfl, Walks.list (A := X.A.in1) (show X.A.in1.handled = none from I.ok.hd hc) _ p (Nat.ne_of_lt hp) its.toArray,
  ⟨⟨_, Heap.get?_push_size _ rfl, rfl, rfl⟩, pl.isList.at fun o e => Heap.get?_push_of_some _ e⟩, fun i v s' Q' E' hv hQ => ?_, fun h' tk kk => ?_⟩)
 ·rw [zkq rv hv];exact wpAny_truthy_bool hQ
 ·rw [hn, range_any];refine ⟨.bl _, H, I.kept fun b o e => kk b o ?_ (Heap.get?_push_of_some _ e), rfl, q⟩;intro z;have z' : b = s.heap.objs.size := by simpa using z
  exact Nat.lt_irrefl _ (z' ▸ Heap.lt_size e)
end
section
variable {X : Cx} {pins : Pnx} {σ : St} {H : Hp} {s : Shared}
def zid (base h : Heap) (L : Addr) : Pnx := (List.range h.objs.size).filterMap fun b => if b = L then none else if (base.get? b).isSome then none else (h.get? b).map fun o => (b, o)
theorem zgM {base h : Heap} {L b : Addr} {o : Obj} (hL : b ≠ L) (hb : base.get? b = none) (e : h.get? b = some o) : (b, o) ∈ zid base h L := by
 unfold zid;rw [List.mem_filterMap];refine ⟨b, List.mem_range.mpr (Heap.lt_size e), ?_⟩;rw [if_neg hL, hb, e]
 simp
theorem zhb {base h : Heap} {L : Addr} {p : Addr × Obj} (hp : p ∈ zid base h L) : h.get? p.1 = some p.2 /\ p.1 ≠ L /\ base.get? p.1 = none := by
  unfold zid at hp;rw [List.mem_filterMap] at hp;obtain ⟨b, _, e⟩ := hp
  by_cases hL : b = L
  · rw [if_pos hL] at e; cases e
  · rw [if_neg hL] at e
    cases hb : base.get? b with
    | some u => rw [hb] at e; simp at e
    | none =>
      rw [hb] at e
      cases hh : h.get? b with
      | none => rw [hh] at e; simp at e
      | some u =>
        rw [hh] at e
        simp at e
        subst e;exact ⟨hh, hL, hb⟩
theorem Inv.but {h' : Heap} {tk : Nat} (I : Inv X pins σ H s) (k : ∀ b o, b ≠ X.env.locals -> s.heap.get? b = some o -> h'.get? b = some o) (ns : ∀ m, s.heap.Ns X.env.locals m -> h'.Ns X.env.locals m) : Inv X pins σ H { s with heap := h', toks := tk } := by
 have hok : HOk X.prog X.w H h' := fun a o e => (I.hok a o e).stay (fun b u hb q => k b u (fun z => by
  subst z;have hn := I.free;rcases hb with hb | hb
  ·rw [<- hb] at e; rw [hn] at e; cases e
  ·rw [hn] at hb; cases hb) q) (fun _ q => q) fun _ _ q => q
 exact I.step (g' := s.gens) (d' := s.drawn) (ch := []) (fun _ z => nomatch z) (fun b o hL _ _ e _ => k b o hL e) (fun b o hL _ _ e _ => ⟨o.slots, k b o hL e⟩) (fun b o _ _ n => n) (fun b o _ e => by
  by_cases hL : b = X.env.locals
  ·subst hL;obtain ⟨m, hn, _⟩ := I.loc;obtain ⟨o', _, _, e', _⟩ := ns m hn;exact ⟨o', e'⟩
  ·exact ⟨o, k b o hL e⟩) (fun _ _ q => q) (fun _ _ _ q => q) (fun _ ps q => ⟨#[], by simpa using q⟩) ns hok I.bare
theorem Inv.via (I : Inv X pins σ H s) : ∃ m news, Fr X.base X.env.locals s.heap m /\ News X.base X.env.locals s.heap news /\
    (∀ b o, b ≠ X.env.locals -> X.base.get? b = none -> s.heap.get? b = some o -> (b, o) ∈ news) /\
    ∀ (h' : Heap) (tk : Nat), Fr X.base X.env.locals h' m -> News X.base X.env.locals h' news -> (∀ b o, b ≠ X.env.locals -> s.heap.get? b = some o -> h'.get? b = some o) /\ Inv X pins σ H { s with heap := h', toks := tk } := by
  obtain ⟨m, F⟩ := I.fr;refine ⟨m, zid X.base s.heap X.env.locals, F, fun p hp => zhb hp, fun b o hL hb e => zgM hL hb e, fun h' tk F' N' => ?_⟩;have k : ∀ b o, b ≠ X.env.locals -> s.heap.get? b = some o -> h'.get? b = some o := fun b o hL e => by
    cases hb : X.base.get? b with
    | some u =>
      have e1 := I.bk b u hb;rw [e] at e1; cases e1;exact F'.keep b o hb
    | none => exact (N' (b, o) (zgM hL hb e)).1
  refine ⟨k, I.but k fun m' hm => ?_⟩;have : m' = m := by
    obtain ⟨o, es, ep, e, d, _, f⟩ := hm;obtain ⟨o', es', ep', e', d', _, f'⟩ := F.ns;rw [e] at e'; cases e';rw [d] at d'; cases d';funext x;rw [<- f x, <- f' x]
  subst this;exact F'.ns
end
section
variable {X : Cx} {pins : Pnx} {σ : St} {H : Hp} {s : Shared}
theorem Inv.butD {h' : Heap} {tk : Nat} {a : Addr} {o : HO} (I : Inv X pins σ H s) (k : ∀ b o, b ≠ X.env.locals -> s.heap.get? b = some o -> h'.get? b = some o) (ns : ∀ m, s.heap.Ns X.env.locals m -> h'.Ns X.env.locals m) (ha : s.heap.get? a = none) (hn : H a = none)
  (new : zbW X.prog X.w (upd H a o) h' a o) : Inv X pins σ (upd H a o) { s with heap := h', toks := tk } := by
 have hok : HOk X.prog X.w (upd H a o) h' := fun b u e => by
  by_cases hb : b = a
  ·subst hb; rw [zao] at e; cases e; exact new
  ·rw [zal hb] at e;refine (I.hok b u e).stay (fun c v hc q => k c v (fun z => ?_) q) (fun c q => by rw [zal (zan q hn)]; exact q) fun c xs q => by rw [zal (zan q hn)]; exact q
   subst z;have hf := I.free;rcases hc with hc | hc
   ·rw [<- hc] at e; rw [hf] at e; cases e
   ·rw [hf] at hc; cases hc
 have neA : ∀ b o, s.heap.get? b = some o -> b ≠ a := fun b o e z => by rw [z, ha] at e; cases e
 exact I.step (g' := s.gens) (d' := s.drawn) (ch := []) (fun _ z => nomatch z) (fun b o hL _ _ e _ => k b o hL e) (fun b o hL _ _ e _ => ⟨o.slots, k b o hL e⟩) (fun b o _ e n => by rw [zal (neA b o e)]; exact n) (fun b o _ e => by
  by_cases hL : b = X.env.locals
  ·subst hL;obtain ⟨m, hn, _⟩ := I.loc;obtain ⟨o', _, _, e', _⟩ := ns m hn;exact ⟨o', e'⟩
  ·exact ⟨o, k b o hL e⟩) (fun b xs q => by rw [zal (zan q hn)]; exact q) (fun b u xs q => by rw [zal (zan q hn)]; exact q) (fun b ps q => ⟨#[], by rw [zal (zan q hn), q]; simp⟩) ns hok I.bare
theorem zrw {h : Heap} {a : Addr} {m m' : Mgx} (h1 : h.Ns a m) (h2 : h.Ns a m') : m' = m := by
 obtain ⟨o, es, ep, e, d, _, f⟩ := h2;obtain ⟨o', es', ep', e', d', _, f'⟩ := h1;rw [e] at e'; cases e';rw [d] at d'; cases d';funext x;rw [<- f x, <- f' x]
theorem zbW.get {P : Program} {w : World} {H : Hp} {h : Heap} {a : Addr} {o : HO} (x : zbW P w H h a o) : ∃ u, h.get? a = some u := by
 cases o with
 | lst xs => obtain ⟨_, _, _, _, e⟩ := x; exact ⟨_, e⟩
 | tup xs => obtain ⟨_, _, _, u, e, _⟩ := x; exact ⟨_, e⟩
 | dK kvs => obtain ⟨_, _, _, _, o, _, _, e, _⟩ := x; exact ⟨_, e⟩
 | dT kvs => obtain ⟨_, _, _, _, o, _, _, e, _⟩ := x; exact ⟨_, e⟩
 | set S n => obtain ⟨o, _, _, _, e, _⟩ := x; exact ⟨_, e⟩
 | ins C dx fs => obtain ⟨_, _, _, e, _⟩ := x; exact ⟨_, e⟩
 | own y => exact x
 | xd fs => obtain ⟨_, ⟨_, _, _, e, _⟩, _⟩ := x; exact ⟨_, e⟩
 | rng lo hi => obtain ⟨_, _, _, e⟩ := x; exact ⟨_, e⟩
 | frz ob u => obtain ⟨e, _⟩ := x; exact ⟨_, e⟩
 | tbl ps => exact ⟨_, x⟩
 | met f y => exact ⟨_, x⟩
 | ext φ => obtain ⟨_, e, _⟩ := x; exact e
theorem Inv.viaD (I : Inv X pins σ H s) : ∃ m news, Fr X.base X.env.locals s.heap m /\ News X.base X.env.locals s.heap news /\
    ∀ (h' : Heap) (tk : Nat) (D : Addr) (ob : Obj) (o : HO), Fr X.base X.env.locals h' m -> News X.base X.env.locals h' ((D, ob) :: news) -> (∀ p ∈ news, p.1 < D) -> (∀ H', h'.get? D = some ob -> zbW X.prog X.w H' h' D o) -> H D = none /\ Inv X pins σ (upd H D o) { s with heap := h', toks := tk } := by
  obtain ⟨m, news, F, N, all, back⟩ := I.via;refine ⟨m, news, F, N, fun h' tk D ob o F' N' lt new => ?_⟩;obtain ⟨eD, neL, nb⟩ := N' (D, ob) List.mem_cons_self;have N0 : News X.base X.env.locals h' news := fun p hp => N' p (List.mem_cons_of_mem _ hp);obtain ⟨k, I'⟩ := back h' tk F' N0;have ha : s.heap.get? D = none := by
    cases e : s.heap.get? D with
    | none => rfl
    | some u => exact absurd (lt _ (all D u neL nb e)) (Nat.lt_irrefl _)
  have hn : H D = none := by
    cases e : H D with
    | none => rfl
    | some u =>
      obtain ⟨v, z⟩ := (I.hok D u e).get;rw [ha] at z;cases z
  exact ⟨hn, I.butD k (fun m' hm => by rw [zrw F.ns hm]; exact F'.ns) ha hn (new _ eD)⟩
theorem zjY : ∀ l : List (Str × Tok), Vals ((l.map (·.1)).map V.str) (strValues l)
 | [] => .nil
 | p :: l => .cons ⟨p.2, rfl⟩ (zjY l)
def zmY : V -> List V -> Hp -> VK -> Prop := fun x vs H Q => ∃ z y, x = .str z /\ vs = [.str y] /\ (y.length == 0) = false /\ z.length + 2 <= sizeLine /\ ∀ l, H l = none -> Q (.ref l) (upd H l (.lst ((Txt.split z y).map V.str)))
theorem zi6 : MtR X "str.split" zmY := by
 intro pins s σ H x vs v us Q I rx rv h;obtain ⟨z, y, rfl, rfl, h1, h2, q⟩ := h;obtain ⟨t, rfl⟩ := rx;obtain ⟨u, rfl, t', rfl⟩ := rv.one;obtain ⟨m, news, F, N, fin⟩ := I.viaD;refine W.KSpl.split1 F N h1 (fun D l h' k e1 _ F' N' lt => ?_) h2;have hl : ((l.map (·.1)).map V.str).length <= sizeLine := by
  rw [List.length_map, e1];exact Nat.le_trans (PyProof.Rows.split_le z y) h2
 obtain ⟨hn, I'⟩ := fin h' k D _ (.lst ((l.map (·.1)).map V.str)) F' N' lt fun H' eD => ⟨hl, strValues l, 0, zjY l, eD⟩;rw [e1] at I';exact ⟨.ref D, _, I', rfl, q D hn⟩
def zk4 : V -> List V -> Hp -> VK -> Prop := fun x vs H Q => ∃ z y, x = .str z /\ vs = [.str y] /\ Q (.bl (Txt.startswith z y)) H
theorem zkv : MtR X "str.startswith" zk4 := by
 intro pins s σ H x vs v us Q I rx rv h;obtain ⟨z, y, rfl, rfl, q⟩ := h;obtain ⟨t, rfl⟩ := rx;obtain ⟨u, rfl, t', rfl⟩ := rv.one;exact SC.startswith ⟨.bl _, H, I, rfl, q⟩
def zkx : V -> List V -> Hp -> VK -> Prop := fun x vs H Q => ∃ z y, x = .str z /\ vs = [.str y] /\ z.length <= sizeLine /\ Q (.str (Txt.lstripChars z y)) H
theorem zkp : MtR X "str.lstrip" zkx := by
 intro pins s σ H x vs v us Q I rx rv h;obtain ⟨z, y, rfl, rfl, hz, q⟩ := h;obtain ⟨t, rfl⟩ := rx;obtain ⟨u, rfl, t', rfl⟩ := rv.one;exact SC.lstripChars (fun t' k => ⟨.str _, H, I.tok _, ⟨_, rfl⟩, q⟩) hz
theorem zcs : zdT X (.type "int") (fun xs H Q => ∃ z n, xs = [.str z] /\ intText? z = some n /\ z.length <= 640 /\ Q (.int n) H) := by
 intro pins s σ H xs us Q I r h;obtain ⟨z, n, rfl, h1, h2, q⟩ := h;obtain ⟨u, rfl, t, rfl⟩ := vals1 r;exact W.KIN.call_text h1 h2 ⟨.int n, H, I.tok _, ⟨_, rfl⟩, q⟩
end
section
variable {X : Cx} {pins : Pnx} {σ : St} {H : Hp} {s : Shared} {h' : Heap}
theorem Inv.turnedL {t' : Nat} {fp : List Addr} (I : Inv X pins σ H s) (k : ∀ b o, b ∉ fp -> s.heap.get? b = some o -> h'.get? b = some o) (hf : ∀ b ∈ fp, FpOk X pins H b) : Inv X pins σ H { s with heap := h', toks := t' } := by
 refine I.step (g' := s.gens) (d' := s.drawn) (ch := fp) (fun b hb => ⟨(hf b hb).2.2.2.1, (hf b hb).2.1, (hf b hb).2.2.2.2.1, (hf b hb).2.2.2.2.2⟩) (fun b o _ _ hc e _ => k b o hc e) (fun b o _ _ hc e _ => ⟨o.slots, k b o hc e⟩) (fun _ _ _ _ n => n)
  (fun b o hc e => ⟨o, k b o hc e⟩) (fun _ _ e => e) (fun _ _ _ e => e) (fun b ps e => ⟨#[], by rw [e]; simp⟩) (fun m hm => ?_) (fun b u e => ?_) I.bare
 ·obtain ⟨o, es, ep, ho, r⟩ := hm;exact ⟨o, es, ep, k _ o (fun z => (hf _ z).2.1 rfl) ho, r⟩
 ·refine (I.hok b u e).stay (fun c v hc q => k c v (fun z => ?_) q) (fun _ q => q) fun _ _ q => q;have hn := (hf c z).1;rcases hc with y | y
  ·rw [y, e] at hn; cases hn
  ·rw [y] at hn; cases hn
theorem Inv.turnLaid {t' : Nat} {fp : List Addr} {T : Addr} {o : HO} (I : Inv X pins σ H s) (k : ∀ b u, b ∉ fp -> s.heap.get? b = some u -> h'.get? b = some u) (hf : ∀ b ∈ fp, FpOk X pins H b) (hp : s.heap.objs.size <= T) (new : zbW X.prog X.w (upd H T o) h' T o) :
  Inv X pins σ (upd H T o) { s with heap := h', toks := t' } := by
 have hn : H T = none := I.hok.fresh hp;have neT : ∀ b u, s.heap.get? b = some u -> b ≠ T := fun b u e => Nat.ne_of_lt (Nat.lt_of_lt_of_le (Heap.lt_size e) hp);refine I.step (g' := s.gens) (d' := s.drawn) (ch := fp) (fun b hb => ⟨(hf b hb).2.2.2.1, (hf b hb).2.1, (hf b hb).2.2.2.2.1, (hf b hb).2.2.2.2.2⟩) (fun b o _ _ hc e _ => k b o hc e) (fun b o _ _ hc e _ => ⟨o.slots, k b o hc e⟩) (fun b u _ e n => by rw [zal (neT b u e)]; exact n)
  (fun b o hc e => ⟨o, k b o hc e⟩) (fun b xs e => by rw [zal (zan e hn)]; exact e) (fun b u xs e => by rw [zal (zan e hn)]; exact e) (fun b ps e => ⟨#[], by rw [zal (zan e hn), e]; simp⟩) (fun m hm => ?_) (fun b u e => ?_) I.bare
 ·obtain ⟨o, es, ep, ho, r⟩ := hm;exact ⟨o, es, ep, k _ o (fun z => (hf _ z).2.1 rfl) ho, r⟩
 ·by_cases hb : b = T
  ·subst hb;rw [zao] at e;cases e;exact new
  ·rw [zal hb] at e;refine (I.hok b u e).stay (fun c v hc q => k c v (fun z => ?_) q) (fun c q => by rw [zal (zan q hn)]; exact q) fun c xs q => by rw [zal (zan q hn)]; exact q
   have hn' := (hf c z).1;rcases hc with y | y
   ·rw [y, e] at hn'; cases hn'
   ·rw [y] at hn'; cases hn'
end
def Itel (K : Fgx) (a : Addr) : It :=
 ⟨fun i H => ∃ xs x, SqL K H a xs /\ xs[i]? = some x, fun i H x H' => ∃ p v, H p = none /\ x = .ref p /\ H' = upd H p (.tup [.int i, v]) /\ ∀ xs, SqL K H a xs -> xs[i]? = some v, fun i H => ∃ xs, SqL K H a xs /\ xs.length = i⟩
theorem zjR {P : Program} {w : World} {K : Fgx} {es : List Expr} {k : Nat} {pos : Pos} (a e it : Addr) (ne : e ≠ it) : Turn P w K (.Tuple es k pos) (Itel K a) [e, it] e (fun i h => (∃ old, IsEnum h e it i old) /\ h.IsListIter it a i) where
 mem := by simp
 obj := fun i h st b hb => by
  obtain ⟨⟨old, z⟩, o, e1, e2, e3⟩ := st;rcases List.mem_cons.mp hb with rfl | hb
  ·exact ⟨_, z, fun v y => by cases y⟩
  ·rw [List.mem_singleton.mp hb];exact ⟨o, e1, fun v y => by rw [e3] at y; cases y⟩
 keep := fun i h h' st k => ⟨let ⟨old, z⟩ := st.1; ⟨old, k e (by simp) _ z⟩, st.2.at fun o z => k it (by simp) o z⟩
 item := by
  intro X hP hw hK hc i pins s σ H E I hf st hg;subst hP hw hK;obtain ⟨xs, x, hq, hx⟩ := hg;obtain ⟨its, rv, pl, hz⟩ := I.list hq;have p := pl.isList;obtain ⟨u, hu, ru⟩ := rv.get hx;have nea : a ≠ it := fun z => by
   obtain ⟨o, e1, e2, _⟩ := st.2;obtain ⟨o', e1', e2', _⟩ := id p;rw [z, e1] at e1';cases e1';rw [e2] at e2';exact absurd e2' (by simp)
  have nee : e ∉ [it, a] := fun z => by
   rcases List.mem_cons.mp z with z | z
   ·exact ne z
   ·have z := List.mem_singleton.mp z;obtain ⟨⟨old, y⟩, _⟩ := st;obtain ⟨o', e1', e2', _⟩ := id p;rw [<- z, y] at e1';cases e1';exact absurd e2' (by simp)
  have W := WalksT.enumerateD (Draws.list (prog := X.prog) (w := X.w) (A := X.A.in1) (I.ok.hd hc) it a nea its.toArray) e ne nee (by simp);have hi : i < its.toArray.size := by
   have := (List.getElem?_eq_some_iff.mp hu).1
   simpa using this
  refine W.item i s _ _ hi ⟨st.1, st.2, p⟩ fun T vals h' tk hv hT hI hm hk => ?_;obtain ⟨t, y, hy, rfl⟩ := hv;have ey : y = u := by
   have hy' : its.toArray[i]? = some y := hy;rw [show its.toArray[i]? = its[i]? by simp, hu] at hy';exact (Option.some.inj hy').symm
  subst ey;refine ⟨_, rfl, W.go es k pos i T _ _ _ hm fun h2 st2 hk2 => ?_⟩;have kk : ∀ b o, b ∉ [e, it] -> s.heap.get? b = some o -> h2.get? b = some o := fun b o hb z => hk2 b o hb (hk b o hb z);have hT2 : h2.IsTuple T #[.int i t, y] := by
   obtain ⟨o, e1, r⟩ := hI;exact ⟨o, hk2 T o (W.apart i T _ hm) e1, r⟩
  have I2 : Inv X pins σ (upd H T (.tup [.int i, x])) { s with heap := h2, toks := tk } := I.turnLaid kk hf hT ⟨by show 2 <= sizeLine; decide, [.int i t, y], .cons ⟨t, rfl⟩ (.cons ru .nil), hT2⟩;have nT : H T = none := I.hok.fresh hT;refine ⟨.ref T, _, I2, rfl, ⟨T, x, nT, rfl, rfl, fun ys hys => by rw [I.list_inj hys hq]; exact hx⟩, ⟨st2.1, st2.2.1⟩, fun b hb => ?_⟩;rw [zal (fun z => ?_)]
  ·exact (hf b hb).1
  ·rw [z] at hb;exact W.apart i T _ hm hb
 done := by
  intro X hP hw hK hc i pins s σ H E I hf st hg;subst hP hw hK;obtain ⟨xs, hq, hl⟩ := hg;obtain ⟨its, rv, pl, hz⟩ := I.list hq;have p := pl.isList;have nea : a ≠ it := fun z => by
   obtain ⟨o, e1, e2, _⟩ := st.2;obtain ⟨o', e1', e2', _⟩ := id p;rw [z, e1] at e1';cases e1';rw [e2] at e2';exact absurd e2' (by simp)
  have nee : e ∉ [it, a] := fun z => by
   rcases List.mem_cons.mp z with z | z
   ·exact ne z
   ·have z := List.mem_singleton.mp z;obtain ⟨⟨old, y⟩, _⟩ := st;obtain ⟨o', e1', e2', _⟩ := id p;rw [<- z, y] at e1';cases e1';exact absurd e2' (by simp)
  have W := WalksT.enumerateD (Draws.list (prog := X.prog) (w := X.w) (A := X.A.in1) (I.ok.hd hc) it a nea its.toArray) e ne nee (by simp);have hn : its.toArray.size = i := by rw [List.size_toArray, <- rv.length, hl]
  refine W.done s _ _ (by rw [hn]; exact ⟨st.1, st.2, p⟩) fun h' tk hk => ⟨rfl, I.turnedL hk hf⟩
 self := fun _ i s _ _ st h => by
  obtain ⟨⟨old, y⟩, _⟩ := st;exact wpAny_pyIter_enum y h
section
variable {X : Cx} {es : List Expr} {k : Nat} {tpos : Pos}
def zrs (K : Fgx) (ta : TA) : TI := fun σ H R => ta σ H fun vs H1 => ∃ a xs, vs = [.ref a] /\ SqL K H1 a xs /\ R (Itel K a) H1
theorem zl4 {a : Expr} {ta : TA} {p pos : Pos} (hg : Gl X "enumerate") (hm : X.mg "enumerate" = none) (ha : PA X [a] ta) (hs : starEach [a] X.env = [(false, eval a X.env)] := by rfl) : PI X (.Tuple es k tpos) (.Call (.Name "enumerate" p) [a] [] pos) (zrs X.K ta) := by
 intro pins s σ H R I h;refine Call_ (zig I hg hm boot_enumerate (PyProof.Rows.callWith_type1 (thn (ha pos pins s σ H _ I h) fun us s1 ⟨vs, H1, I1, r1, q1⟩ => ?_) hs rfl));obtain ⟨b, xs, e, hq, q⟩ := q1;subst e;obtain ⟨u, e, ru⟩ := vals1 r1;subst e;cases ru;obtain ⟨its, rv, pl, hz⟩ := I1.list hq;refine call_enumerate_list pl.isList fun h' e1 e2 _ kp => ?_;refine wpAny_pyIter_enum e1 ?_;refine ⟨s1.heap.objs.size + 1, [s1.heap.objs.size + 1, s1.heap.objs.size], _, _, H1, rfl, I1.kept (t' := s1.toks) kp, zjR b _ _ (Nat.succ_ne_self _), ⟨⟨_, e1⟩, e2⟩, fun c hc => ?_, q⟩;have hc' : s1.heap.objs.size <= c := by
  rcases List.mem_cons.mp hc with rfl | hc
  ·omega
  ·rw [List.mem_singleton.mp hc]; exact Nat.le_refl _
 exact I1.fpOk hc' (I1.hok.fresh hc')
end
def textV : V -> Option Str
 | .str z => if z.length <= sizeLine then some z else none
 | .int i => if i.natAbs.log2 < 1920 then some (toString i) else none
 | _ => none
abbrev TJ := Str -> St -> Hp -> VK -> Prop
def PJ (X : Cx) (vs : List Expr) (t : TJ) : Prop := ∀ (pins : Pnx) (s : Shared) (σ : St) (H : Hp) (out : Str) (Q : VK), Inv X pins σ H s -> t out σ H Q -> wpAny (model X.prog X.w) X.A (joinParts out (evalEach vs X.env)) (EP X pins σ Q) X.xe s
def jNil : TJ := fun out _ H Q => out.length <= sizeLine /\ Q (.str out) H
def zsg (te : TE) (tj : TJ) : TJ := fun out σ H Q => te σ H fun v H1 => ∃ y, textV v = some y /\ (out ++ y).length <= sizeLine /\ tj (out ++ y) σ H1 Q
section
variable {X : Cx} {vs : List Expr} {te : TE} {tj : TJ}
theorem zkd : PJ X [] jNil := fun pins s σ H out Q I h => joinParts_nil ⟨.str out, H, I.tok _, ⟨_, rfl⟩, h.2⟩ h.1
theorem ziT {z : Str} {k : Nat} {pos : Pos} (hv : PJ X vs tj) (hz : z.length <= sizeLine) : PJ X (.Constant (.str z) k pos :: vs) (fun out σ H Q => (out ++ z).length <= sizeLine /\ tj (out ++ z) σ H Q) := fun pins s σ H out Q I h => by
 refine joinParts_cons (Calls.Constant_str ?_);exact ⟨h.1, hv pins _ σ H _ Q (I.tok _) h.2⟩
theorem zle {e : Expr} {pos : Pos} (he : PE X e te) (hv : PJ X vs tj) : PJ X (.FormattedValue e (-1) none pos :: vs) (zsg te tj) := fun pins s σ H out Q I h => by
 refine joinParts_cons (FormattedValue_plain (thn (he pins s σ H _ I h) fun u s1 ⟨x, H1, I1, r1, y, ey, hl, q⟩ => ?_));cases x <;> simp only [textV, reduceCtorEq] at ey
 case int i =>
  split at ey
  ·rename_i hd;cases ey;obtain ⟨t, rfl⟩ := r1;exact formatField_int_small hd ⟨hl, hv pins _ σ H1 _ Q (I1.tok _) q⟩
  ·cases ey
 case str z =>
  split at ey
  ·rename_i hz;cases ey;obtain ⟨t, rfl⟩ := r1;exact formatField_str (fun t' tk => ⟨hl, hv pins _ σ H1 _ Q (I1.tok _) q⟩) hz
  ·cases ey
theorem zlC {v w : Expr} {pos : Pos} (h : PJ X (v :: w :: vs) tj) : PE X (.JoinedStr (v :: w :: vs) pos) (fun σ H Q => tj Str.empty σ H Q) := fun pins s σ H Q I q => JoinedStr_many (h pins s σ H _ Q I q)
end
theorem zgF {α β : Type} {f : α -> β -> Sem (ForInStep β)} (g : α -> β -> β) : ∀ (l : List α) (b : β), (∀ x ∈ l, ∀ b, f x b = pure (.yield (g x b))) -> (forIn l b f : Sem β) = pure (l.foldl (fun b x => g x b) b)
  | [], b, _ => rfl
  | x :: l, b, h => by
    rw [List.forIn_cons, h x List.mem_cons_self b];simp only [pure_bind, List.foldl_cons];exact zgF g l (g x b) fun y hy => h y (List.mem_cons_of_mem _ hy)
def zcj (cells : List (Str × Addr)) (cs : List (Str × Addr)) (x : Str × NameKind) : List (Str × Addr) := if x.2 = .free then (x.1, (cells.lookup x.1).getD 0) :: cs else cs
def zcT (cells : List (Str × Addr)) (names : List (Str × NameKind)) : List (Str × Addr) := names.foldl (zcj cells) []
theorem zg7 {scope : Scope} {env : Env} (h : ∀ y ∈ scope.names, y.2 = .free -> ∃ c, env.cells.lookup y.1 = some c) : closureFor scope env = pure (zcT env.cells scope.names) := by
 simp only [closureFor];rw [zgF (fun x cs => zcj env.cells cs x) scope.names [] (fun x hx c => by
  obtain ⟨n, kind⟩ := x
  by_cases hk : kind = .free
  ·obtain ⟨a, ha⟩ := h _ hx hk;subst hk;have ha' : env.cells.lookup n = some a := ha
   simp [cellOf, ha', zcj]
  ·have hk' : (kind == NameKind.free) = false := by simpa using hk
   simp [hk', hk, zcj])]
 rfl
theorem zlf {cells : List (Str × Addr)} : ∀ (names : List (Str × NameKind)) (acc : List (Str × Addr)), (∀ y ∈ names, y.2 = .free -> ∃ c, cells.lookup y.1 = some c) ->
    (∀ x c, acc.lookup x = some c -> cells.lookup x = some c) -> ∀ x c, (names.foldl (zcj cells) acc).lookup x = some c -> cells.lookup x = some c
  | [], _, _, h, x, c, e => h x c e
  | (n, k) :: r, acc, hc, h, x, c, e => by
    rw [List.foldl_cons] at e;refine zlf r _ (fun y hy => hc y (List.mem_cons_of_mem _ hy)) ?_ x c e;intro y d hd;unfold zcj at hd
    by_cases hk : k = .free
    · obtain ⟨a, ha⟩ := hc (n, k) List.mem_cons_self hk;have ha' : cells.lookup n = some a := ha;simp only [hk, if_true, ha', Option.getD_some, List.lookup_cons] at hd
      cases hyn : y == n with
      | true =>
        rw [hyn] at hd;have e2 := eq_of_beq hyn;subst e2;exact ha'.trans hd
      | false =>
        rw [hyn] at hd;exact h y d hd
    · simp only [hk, if_false] at hd;exact h y d hd
theorem zg3 {cells : List (Str × Addr)} : ∀ (names : List (Str × NameKind)) (acc : List (Str × Addr)) (x : Str), ((x, NameKind.free) ∈ names \/ ∃ c, acc.lookup x = some c) -> ∃ c, (names.foldl (zcj cells) acc).lookup x = some c
  | [], acc, x, h => by
    rcases h with h | h
    · exact absurd h (by simp)
    · exact h
  | (n, k) :: r, acc, x, h => by
    rw [List.foldl_cons];refine zg3 r _ x ?_;have keep : (∃ c, acc.lookup x = some c) -> ∃ c, (zcj cells acc (n, k)).lookup x = some c := fun ⟨c, hc⟩ => by
      unfold zcj
      by_cases hk : k = .free
      · simp only [hk, if_true, List.lookup_cons]
        cases hxn : x == n with
        | true => exact ⟨_, rfl⟩
        | false => exact ⟨c, hc⟩
      · simp only [hk, if_false];exact ⟨c, hc⟩
    rcases h with h | h
    · rcases List.mem_cons.mp h with h | h
      · cases h;refine .inr ?_;unfold zcj;simp only [if_true, List.lookup_cons, beq_self_eq_true];exact ⟨_, rfl⟩
      · exact .inl h
    · exact .inr (keep h)
def relN (psc : Scope) (names : List (Str × NameKind)) : List (Str × NameKind) := names.map fun (n, k) => if (k == .free && psc.kind == .function && psc.names.lookup n == some .cell) then (n, .cell) else (n, k)
theorem zfP {psc : Scope} : ∀ {names : List (Str × NameKind)} {x : Str} {k' : NameKind}, (relN psc names).lookup x = some k' -> (k' = .cell \/ k' = .free) -> (∀ y ∈ names, y.2 ≠ .cell) -> (x, NameKind.free) ∈ names
  | [], _, _, h, _, _ => by simp [relN] at h
  | (n, k) :: r, x, k', h, hk, hn => by
    have ih := @zfP psc r x k';have h' : List.lookup x ((if (k == NameKind.free && psc.kind == .function && psc.names.lookup n == some .cell) = true then (n, NameKind.cell) else (n, k)) :: relN psc r) = some k' := h
    cases hx : x == n with
    | true =>
      have e := eq_of_beq hx;subst e
      by_cases hc : (k == NameKind.free && psc.kind == .function && psc.names.lookup x == some .cell) = true
      · have hkf : k = .free := by
          cases k <;> first | rfl | (exfalso; simp at hc)
        rw [hkf];exact List.mem_cons_self
      · rw [if_neg hc] at h';simp only [List.lookup_cons, beq_self_eq_true] at h';have e2 : k = k' := Option.some.inj h';subst e2;rcases hk with hk | hk
        · exact absurd hk (hn (x, k) List.mem_cons_self)
        · rw [hk];exact List.mem_cons_self
    | false =>
      refine List.mem_cons_of_mem _ (ih ?_ hk fun y hy => hn y (List.mem_cons_of_mem _ hy))
      by_cases hc : (k == NameKind.free && psc.kind == .function && psc.names.lookup n == some .cell) = true
      · rw [if_pos hc] at h';simp only [List.lookup_cons, hx] at h';exact h'
      · rw [if_neg hc] at h';simp only [List.lookup_cons, hx] at h';exact h'
def ze2 (cs : List (Str × Nat)) (σ : St) : St := cs.map fun p => (σ[p.2]?).join
abbrev zbX (X : Cx) (Nc : List Str) (scope : Scope) (cl : List (Str × Addr)) (C : Addr) (s₀ : Shared) (H₀ : Hp) (ex : List Addr) (pn : Pnx) : Cx :=
 { X with N := Nc, s₀ := s₀, H₀ := H₀, env := compEnvC scope cl C X.env, outer := X.stack, ex := ex, fn := fun _ => false, pn := pn, xe := fun _ _ => False }
def zg4 (N : List Str) (psc : Scope) (x : Str) (cs : List (Str × Nat)) (scope : Scope) : Bool :=
 scope.kind == .function && scope.names.lookup x == some .local && decide ((x :: cs.map (·.1)).Nodup) &&
 scope.names.all (fun y => y.2 != .cell && (y.2 != .local || scope.names.lookup y.1 == some .local) && (y.2 != .free || (psc.names.lookup y.1 == some .cell || psc.names.lookup y.1 == some .free))) &&
 cs.all (fun p => N[p.2]? == some p.1 && (psc.names.lookup p.1 == some .cell || psc.names.lookup p.1 == some .free) && ((relN psc scope.names).lookup p.1 == some .cell || (relN psc scope.names).lookup p.1 == some .free))
structure CompOk (N : List Str) (psc : Scope) (x : Str) (cs : List (Str × Nat)) (scope : Scope) : Prop where
 kind : scope.kind = .function
 own : scope.names.lookup x = some .local
 nd : (x :: cs.map (·.1)).Nodup
 cell : ∀ y ∈ scope.names, y.2 ≠ .cell
 names : ∀ y ∈ scope.names, y.2 = .local -> scope.names.lookup y.1 = some .local
 has : ∀ y ∈ scope.names, y.2 = .free -> psc.names.lookup y.1 = some .cell \/ psc.names.lookup y.1 = some .free
 cap : ∀ p ∈ cs, N[p.2]? = some p.1 /\ (psc.names.lookup p.1 = some .cell \/ psc.names.lookup p.1 = some .free) /\ ((relN psc scope.names).lookup p.1 = some .cell \/ (relN psc scope.names).lookup p.1 = some .free)
theorem CompOk.of {N : List Str} {psc : Scope} {x : Str} {cs : List (Str × Nat)} {scope : Scope} (h : zg4 N psc x cs scope = true) : CompOk N psc x cs scope := by
 unfold zg4 at h;simp only [Bool.and_eq_true, Bool.or_eq_true, List.all_eq_true, beq_iff_eq, decide_eq_true_eq, bne_iff_ne, ne_eq] at h;obtain ⟨⟨⟨⟨h1, h2⟩, h3⟩, h4⟩, h5⟩ := h;refine ⟨h1, h2, h3, fun y hy => (h4 y hy).1.1, fun y hy e => ?_, fun y hy e => ?_, fun p hp => ⟨(h5 p hp).1.1, (h5 p hp).1.2, (h5 p hp).2⟩⟩
 ·rcases (h4 y hy).1.2 with z | z
  ·exact absurd e z
  ·exact z
 ·rcases (h4 y hy).2 with z | z
  ·exact absurd e z
  ·exact z
def PIfs (X : Cx) (ifs : List Expr) (t : TT) : Prop :=
 ∀ (pins : Pnx) (s : Shared) (σ : St) (H : Hp) (Q : Bool -> Hp -> Prop), Inv X pins σ H s -> t σ H Q ->
  wpAny (model X.prog X.w) X.A (forIn ifs true fun c r => if r = true then do let ok <- isTrue c X.env (eval c X.env); pure (ForInStep.yield ok) else pure (ForInStep.yield r)) (TP X pins σ Q) X.xe s
def tYes : TT := fun _ H Q => Q true H
theorem zj7 {X : Cx} : PIfs X [] tYes := fun _ _ _ H _ I h => wpAny_tests_nil ⟨H, I, h⟩
def zkm (wi : TI) (tq : TT) (te : TE) (cs : List (Str × Nat)) : St -> Hp -> (Addr -> Hp -> Prop) -> Prop := fun σ H R => wi σ H fun J H1 => ∀ D, H1 D = none ->
  ∃ W : Nat -> Nat -> List V -> Hp -> Prop, (∃ m, W 0 m [] (upd H1 D (.lst []))) /\ ∀ i m ys H2, W i m ys H2 -> H2 D = some (.lst ys) /\
    ((J.stop i H2 /\ R D H2) \/ (J.go i H2 /\ ys.length < sizeLine /\ ∃ N : List V -> Hp -> Prop, (∀ ys' H', N ys' H' -> ∃ m', m' < m /\ W (i + 1) m' ys' H') /\ ∀ v H3, J.yld i H2 v H3 -> tq (some v :: ze2 cs σ) H3 fun b H4 =>
      if b = true then te (some v :: ze2 cs σ) H4 fun y H5 => H5 D = some (.lst ys) /\ N (ys ++ [y]) (upd H5 D (.lst (ys ++ [y]))) else N ys H4))
section
variable {prog : Program} {w : World} {A : Around} {R : Result -> Shared -> Prop} {s : Shared}
theorem zem {elt target iter : Expr} {ifs : List Expr} {scope : Scope} {pos : Pos} {it acc : Value} {env : Env} (I : Nat -> Shared -> Prop)
    (turn : ∀ n s, I n s -> wpAny (model prog w) A (pyNext it) (fun r s₁ => match r with
      | none => R (.ok .next) s₁
      | some v => wpAny (model prog w) A (letOwnedTupleGo target it v) (fun _ s₁' => wpAny (model prog w) A (assign target env v) (fun _ s₂ =>
          wpAny (model prog w) A (forIn ifs true fun c r => if r = true then do let ok <- isTrue c env (eval c env); pure (ForInStep.yield ok) else pure (ForInStep.yield r)) (fun ok s₃ =>
            if ok = true then wpAny (model prog w) A (eval elt env) (fun x s₄ =>
              wpAny (model prog w) A (call (.builtin "list.append") [acc, x]) (fun _ s₅ => ∃ m, m < n /\ I m s₅) (fun _ _ => False) s₄) (fun _ _ => False) s₃
            else ∃ m, m < n /\ I m s₃) (fun _ _ => False) s₂) (fun _ _ => False) s₁') (fun _ _ => False) s₁) (fun _ _ => False) s)
    (n : Nat) (h : I n s) :
    codeAny (model prog w) A (.compLoop (.ListComp elt [⟨target, iter, ifs, 0⟩] scope pos) 0 it acc env) R s := by
  refine codeAny_loop rfl I (fun n s hI => ?_) n h;show wpAny _ A ((compTurn (.ListComp elt [⟨target, iter, ifs, 0⟩] scope pos) 0 it acc env).onRaise (fun x => do noteFrame x env; theTreesLotGoes x)) _ _ s
  refine wpAny_noted ?_;rw [compTurn_list];refine wpAny_bind (wpAny_standAt (wpAny_bind (wpAny_mono (turn n s hI) (fun r s₁ h₁ => ?_) fun _ _ h' => h'.elim)))
  cases r with
  | none => exact wpAny_pure h₁
  | some v =>
    refine wpAny_bind (wpAny_mono h₁ (fun _ s₁' h₁' => ?_) fun _ _ h' => h'.elim);refine wpAny_bind (wpAny_mono h₁' (fun _ s₂ h₂ => wpAny_bind (wpAny_mono h₂ (fun ok s₃ h₃ => ?_) fun _ _ h' => h'.elim)) fun _ _ h' => h'.elim)
    cases ok with
    | false => exact wpAny_pure ⟨rfl, h₃⟩
    | true =>
      exact wpAny_bind (wpAny_bind (wpAny_mono h₃ (fun x s₄ h₄ => wpAny_bind (wpAny_mono h₄ (fun _ s₅ h₅ => wpAny_pure (wpAny_pure ⟨rfl, h₅⟩)) fun _ _ h' => h'.elim)) fun _ _ h' => h'.elim))
end
section
variable {X : Cx} {elt iter : Expr} {ifs : List Expr} {x : Str} {px : Pos} {scope : Scope} {pos : Pos} {wi : TI} {tq : TT} {te : TE} {cs : List (Str × Nat)}
theorem zj6 (hc : X.calm = true) (hi : PI X (.Name x px) iter wi)
    (hq : ∀ (cl : List (Str × Addr)) (C : Addr) (s₀ : Shared) (H₀ : Hp) (ex : List Addr) (pn : Pnx), PIfs (zbX X (x :: cs.map (·.1)) scope cl C s₀ H₀ ex pn) ifs tq)
    (he : ∀ (cl : List (Str × Addr)) (C : Addr) (s₀ : Shared) (H₀ : Hp) (ex : List Addr) (pn : Pnx), PE (zbX X (x :: cs.map (·.1)) scope cl C s₀ H₀ ex pn) elt te)
    (ok : CompOk X.N X.env.scope x cs scope) {pins : Pnx} {s : Shared} {σ : St} {H : Hp} {R : Addr -> Hp -> Prop} (I : Inv X pins σ H s) (h : zkm wi tq te cs σ H R)
    {RR : Value -> Addr -> Result -> Shared -> Prop}
    (hRR : ∀ (D C : Addr) (oC : Obj) (H' : Hp) (s' : Shared), Inv X (pins ++ [(C, oC)]) σ H' s' -> (∀ h' : Heap, h'.get? C = some oC -> ∃ m, h'.Ns C m) -> FpOk X pins H' C -> R D H' -> RR (.ref D) C (.ok .next) s') :
    wpAny (model X.prog X.w) X.A (eval iter X.env) (fun xv s₁ => wpAny (model X.prog X.w) X.A (pyIter xv) (fun itv s₂ => wpAny (model X.prog X.w) X.A (newList []) (fun acc s₃ =>
      wpAny (model X.prog X.w) X.A (newFunctionEnv scope X.env.globals (zcT X.env.cells scope.names) [] X.env.qual none .none (some X.env)) (fun cenv s₄ =>
        codeAny (model X.prog X.w) X.A (.compStart (.ListComp elt [⟨.Name x px, iter, ifs, 0⟩] scope pos) 0 itv acc { cenv with scope := relabel scope X.env }) (RR acc cenv.locals) s₄) X.xe s₃) X.xe s₂) X.xe s₁) X.xe s := by
  refine thn (hi pins s σ H _ I h) fun v s1 h1 => thn h1 fun itv s2 h2 => ?_;obtain ⟨it, fp, tn, J, H2, e, I2, T, st2, f2, h2⟩ := h2;subst e;have hhas : ∀ y ∈ scope.names, y.2 = .free -> ∃ c, X.env.cells.lookup y.1 = some c := fun y hy hk => I2.ok.has y.1 (ok.has y hy hk);refine wpAny_newObj_type (wpAny_newFunctionEnv ok.cell (by intro y hy; simp at hy) (fun h₁ hns₁ hsb₁ => ?_) ok.kind);dsimp only at hns₁ hsb₁ ⊢;generalize hHH : s2.heap.push { cls := .type "list", dict := none, data := .seq ([] : List Value).toArray } = HH at hns₁ hsb₁ ⊢;have hC : HH.objs.size = s2.heap.objs.size + 1 := by rw [<- hHH, Heap.size_push]
  have hDC : s2.heap.objs.size ≠ HH.objs.size := by rw [hC]; exact Nat.ne_of_lt (Nat.lt_succ_self _)
  have hCle : s2.heap.objs.size <= HH.objs.size := by rw [hC]; exact Nat.le_succ _
  have below : ∀ b, b < s2.heap.objs.size -> b ≠ HH.objs.size := fun b hb => by rw [hC]; exact Nat.ne_of_lt (Nat.lt_succ_of_lt hb)
  have old : ∀ b o, s2.heap.get? b = some o -> h₁.get? b = some o := fun b o e => hsb₁.extBut b o (below b (Heap.lt_size e)) (Heap.get?_push_of_some _ (hHH ▸ Heap.get?_push_of_some _ e));have hacc : h₁.get? s2.heap.objs.size = some { cls := .type "list", dict := none, data := .seq ([] : List Value).toArray } := hsb₁.extBut _ _ hDC (Heap.get?_push_of_some _ (hHH ▸ Heap.get?_push_size _ rfl));have nD : H2 s2.heap.objs.size = none := I2.hok.fresh (Nat.le_refl _);have nC : H2 HH.objs.size = none := I2.hok.fresh hCle;obtain ⟨W, ⟨m0, w0⟩, turn⟩ := h2 s2.heap.objs.size nD
  -- the block's context
  have fpC : ∀ b ∈ fp, b ≠ HH.objs.size := fun b hb => by
    obtain ⟨o, ho, _⟩ := T.obj 0 _ st2 b hb;exact below b (Heap.lt_size ho)
  have fpD : ∀ b ∈ fp, b ≠ s2.heap.objs.size := fun b hb => by
    obtain ⟨o, ho, _⟩ := T.obj 0 _ st2 b hb;exact Nat.ne_of_lt (Heap.lt_size ho)
  have pinC : ∀ p ∈ X.pn ++ pins, p.1 ≠ HH.objs.size := fun p hp => below _ (Heap.lt_size (I2.pin p hp).1);have clIn : ∀ y c, (zcT X.env.cells scope.names).lookup y = some c -> X.env.cells.lookup y = some c := zlf scope.names [] hhas (fun y c e => by cases e);have kindRel : ∀ y, (relabel scope X.env).names.lookup y = (relN X.env.scope scope.names).lookup y := fun _ => rfl;have okC : (zbX X (x :: cs.map (·.1)) scope (zcT X.env.cells scope.names) HH.objs.size s2 H2 fp (X.pn ++ pins)).Ok :=
    { mod := I2.ok.mod
      kind := ok.kind
      glob := I2.ok.glob
      blt := I2.ok.blt
      above := hCle
      inj := fun y z c e1 e2 => I2.ok.inj y z c (clIn y c e1) (clIn z c e2)
      has := fun y hk => by
        have hm : (y, NameKind.free) ∈ scope.names := by
          rcases hk with hk | hk
          · exact zfP (psc := X.env.scope) (k' := .cell) hk (.inl rfl) ok.cell
          · exact zfP (psc := X.env.scope) (k' := .free) hk (.inr rfl) ok.cell
        exact zg3 scope.names [] y (.inl hm)
      cab := fun y c hf _ => by cases hf
      hd := I2.ok.hd
      frames := I2.ok.frames
      stk := .inl rfl
      exf := fun b hb => ⟨fpC b hb, fun y c e z => (f2 b hb).2.2.2.2.1 y c (clIn y c e) z⟩
      bs := fun b o e => I2.bs b o e
      bsz := Nat.le_trans I2.ok.bsz I2.sz
      noex := fun b o e hb => by
        rcases (f2 b hb).2.2.2.1 with z | z
        · exact I2.ok.noex b o e z
        · exact absurd (Nat.lt_of_lt_of_le (Heap.lt_size e) (Nat.le_trans I2.ok.bsz z)) (Nat.lt_irrefl _)
      exfs := fun b hb z => by
        rcases List.mem_cons.mp (I2.stkSub b z) with q | q
        · exact (f2 b hb).2.1 q
        · exact (f2 b hb).2.2.1 q
      funs := I2.stack
      frf := I2.stkFree }
  have IC : Inv (zbX X (x :: cs.map (·.1)) scope (zcT X.env.cells scope.names) HH.objs.size s2 H2 fp (X.pn ++ pins)) [] (none :: ze2 cs σ) (upd H2 s2.heap.objs.size (.lst [])) { s2 with heap := h₁, toks := s2.toks + ([] : List (Str × Value)).length } :=
    { ok := okC
      os := rfl
      bare := I2.bare
      base := Un.laid old (Nat.le_refl _) nD
      loc := by
        refine ⟨_, hns₁, fun i y u e1 e2 _ => ?_⟩
        cases i with
        | zero =>
          have e2' : (none : Option V) = some u := Option.some.inj e2;cases e2'
        | succ i =>
          have e1' : (cs.map (·.1))[i]? = some y := e1;have e2' : (ze2 cs σ)[i]? = some (some u) := e2;rw [List.getElem?_map] at e1';unfold ze2 at e2';rw [List.getElem?_map] at e2'
          cases ep : cs[i]? with
          | none => rw [ep] at e1'; cases e1'
          | some p =>
            rw [ep] at e1' e2';have e1'' : p.1 = y := Option.some.inj e1';have e2'' : (σ[p.2]?).join = some u := Option.some.inj e2';have e3 : σ[p.2]? = some (some u) := by
              cases q : σ[p.2]? with
              | none => rw [q] at e2''; cases e2''
              | some z => rw [q] at e2''; exact congrArg some e2''
            subst e1'';obtain ⟨hN, hkp, hkc⟩ := ok.cap p (List.mem_of_getElem? ep);obtain ⟨mP, _, hl⟩ := I2.loc;obtain ⟨u', ru, lk⟩ := hl p.2 p.1 u hN e3 (.inr hkp);refine ⟨u', ru, .inr ⟨hkc, ?_⟩⟩;rcases lk with ⟨k0, _⟩ | ⟨_, c, hcell, his⟩
            · exfalso
              have k0' : X.env.scope.names.lookup p.1 = some .local := k0;rcases hkp with z | z <;> (rw [k0'] at z; cases z)
            · have hm : (p.1, NameKind.free) ∈ scope.names := by
                rcases hkc with z | z
                · exact zfP z (.inl rfl) ok.cell
                · exact zfP z (.inr rfl) ok.cell
              obtain ⟨c', hc'⟩ := zg3 (cells := X.env.cells) scope.names [] p.1 (.inl hm);have e5 : c' = c := Option.some.inj ((clIn p.1 c' hc').symm.trans hcell);exact ⟨c', hc', by rw [e5]; exact his.keeps old⟩
      cell := fun y c e => by
        obtain ⟨v', q⟩ := I2.cell y c (clIn y c e);exact ⟨v', q.keeps old⟩
      free := by
        show upd H2 s2.heap.objs.size (.lst []) HH.objs.size = none;rw [zal hDC.symm];exact nC
      freeC := fun y c e => by
        have hcl : c < s2.heap.objs.size := by
          obtain ⟨_, q⟩ := I2.cell y c (clIn y c e);exact q.lt
        rw [zal (Nat.ne_of_lt hcl)];exact I2.freeC y c (clIn y c e)
      pin := fun p hp => by
        have hp' : p ∈ X.pn ++ pins := by
          rcases List.mem_append.mp hp with z | z
          · exact z
          · cases z
        obtain ⟨e1, e2, e3, e4, e5⟩ := I2.pin p hp';refine ⟨old _ _ e1, ?_, pinC p hp', fun z => ?_, e5⟩
        · rw [zal (Nat.ne_of_lt (Heap.lt_size e1))];exact e2
        · rcases List.mem_cons.mp (I2.stkSub p.1 z) with q | q
          · exact e3 q
          · exact e4 q
      hok := I2.hok.laid old (Nat.le_refl _) ⟨Nat.zero_le _, [], 0, .nil, hacc⟩
      len := by simp [ze2] }
  have stC : tn 0 h₁ := T.keep 0 _ _ st2 fun b _ o e => old b o e;have frC : ∀ b ∈ fp, upd H2 s2.heap.objs.size (HO.lst []) b = none := fun b hb => by
    rw [zal (fpD b hb)];exact (f2 b hb).1
  -- what stays true of the iterator's objects in the block
  have stat : ∀ {H' : Hp}, (∀ b ∈ fp, H' b = none) -> ∀ b ∈ fp, FpOk (zbX X (x :: cs.map (·.1)) scope (zcT X.env.cells scope.names) HH.objs.size s2 H2 fp (X.pn ++ pins)) [] H' b := fun {H'} hn b hb =>
    ⟨hn b hb, fpC b hb, okC.exfs b hb, .inl hb, fun y c e => (okC.exf b hb).2 y c e, fun p hp => (f2 b hb).2.2.2.2.2 p (by
      rcases List.mem_append.mp hp with z | z
      · exact z
      · cases z)⟩
  have loop : ∀ s₃ : Shared, s₃ = { s2 with heap := h₁, toks := s2.toks + ([] : List (Str × Value)).length } ->
      codeAny (model X.prog X.w) X.A (.compLoop (.ListComp elt [⟨.Name x px, iter, ifs, 0⟩] scope pos) 0 (.ref it) (.ref s2.heap.objs.size) (compEnvC scope (zcT X.env.cells scope.names) HH.objs.size X.env)) (RR (.ref s2.heap.objs.size) HH.objs.size) s₃ := by
    rintro s₃ rfl;refine zem (fun n s' => ∃ (i : Nat) (v : Option V) (ys : List V) (H' : Hp), Inv (zbX X (x :: cs.map (·.1)) scope (zcT X.env.cells scope.names) HH.objs.size s2 H2 fp (X.pn ++ pins)) [] (v :: ze2 cs σ) H' s' /\ tn i s'.heap /\ (∀ b ∈ fp, H' b = none) /\ W i n ys H')
      ?_ m0 ⟨0, none, [], _, IC, stC, frC, w0⟩
    rintro n s3 ⟨i, v3, ys, H3, I3, st3, fr3, w3⟩;obtain ⟨hD3, tr⟩ := turn i n ys H3 w3;rcases tr with ⟨stop, qn⟩ | ⟨go, hsz, N, hN, step⟩
    · refine thn (T.done (zbX X (x :: cs.map (·.1)) scope (zcT X.env.cells scope.names) HH.objs.size s2 H2 fp (X.pn ++ pins)) rfl rfl rfl hc i [] s3 _ H3 _ I3 (stat fr3) st3 stop) fun r s4 ⟨hr, I4⟩ => ?_;subst hr;show RR (.ref s2.heap.objs.size) HH.objs.size (.ok .next) s4
      have IP : Inv X pins σ H3 s4 := I2.call' (ch := fp) I4.os I4.base I4.hok I4.bare fun b hb => ⟨(f2 b hb).2.2.2.1, (f2 b hb).2.1, (f2 b hb).2.2.2.2.1, (f2 b hb).2.2.2.2.2⟩;obtain ⟨m4, ⟨oC, es, ep, hoC, hdC, hk1, hk2⟩, _⟩ := I4.loc;have nC3 : H3 HH.objs.size = none := I4.free;have fC : FpOk X pins H3 HH.objs.size := I2.fpOk hCle nC3;refine hRR _ _ oC H3 s4 (IP.pins_of fun p hp => ?_) (fun h' e => ⟨m4, oC, es, ep, e, hdC, hk1, hk2⟩) fC qn;rcases List.mem_append.mp hp with z | z
      · exact IP.pin p (List.mem_append_right _ z)
      · have e : p = (HH.objs.size, oC) := by simpa using z
        subst e;exact ⟨hoC, nC3, fC.2.1, fC.2.2.1, fun v z => by
          have z' : oC.data = .cell v := z;rw [hdC] at z';cases z'⟩
    · refine thn (T.item (zbX X (x :: cs.map (·.1)) scope (zcT X.env.cells scope.names) HH.objs.size s2 H2 fp (X.pn ++ pins)) rfl rfl rfl hc i [] s3 _ H3 _ I3 (stat fr3) st3 go) fun r s4 ⟨u, hr, h4⟩ => ?_;subst hr;refine thn h4 fun _ s5 ⟨y, H5, I5, r5, y5, st5, fr5⟩ => ?_;have I5' := I5.pinned (stat fr5) (T.obj _ _ st5);have hloc : Loc (zbX X (x :: cs.map (·.1)) scope (zcT X.env.cells scope.names) HH.objs.size s2 H2 fp (X.pn ++ pins)).env.scope x := .inl (lookup_relabel_local ok.own);refine wpAny_assign_Name (zd1 (i := 0) I5' ok.nd rfl hloc r5 (fun s6 I6 => ?_) (.inr (lookup_relabel_local ok.own)));refine thn (hq _ _ _ _ _ _ _ s6 _ H5 _ I6 (step y H5 y5)) fun b s7 ⟨H7, I7, q7⟩ => ?_;have again : ∀ {v' : Option V} {H8 : Hp} {s8 : Shared} {ys' : List V} {m' : Nat}, Inv (zbX X (x :: cs.map (·.1)) scope (zcT X.env.cells scope.names) HH.objs.size s2 H2 fp (X.pn ++ pins)) ([] ++ zhB fp s5.heap) (v' :: ze2 cs σ) H8 s8 -> W (i + 1) m' ys' H8 ->
          ∃ (i : Nat) (v : Option V) (ys : List V) (H' : Hp), Inv (zbX X (x :: cs.map (·.1)) scope (zcT X.env.cells scope.names) HH.objs.size s2 H2 fp (X.pn ++ pins)) [] (v :: ze2 cs σ) H' s8 /\ tn i s8.heap /\ (∀ b ∈ fp, H' b = none) /\ W i m' ys H' := fun {v' H8 s8 ys' m'} I8 w8 => by
        refine ⟨i + 1, v', ys', H8, I8.unpinned, T.keep _ _ _ st5 fun b hb o e => (I8.pin (b, o) (List.mem_append_right _ (List.mem_append_right _ (zd0 hb e)))).1, fun b hb => ?_, w8⟩;obtain ⟨o, e, d⟩ := T.obj _ _ st5 b hb;exact (I8.pin (b, o) (List.mem_append_right _ (List.mem_append_right _ (zd0 hb e)))).2.1
      cases b with
      | false =>
        rw [if_neg Bool.false_ne_true] at q7;rw [if_neg Bool.false_ne_true];obtain ⟨m', hm, w8⟩ := hN _ _ q7;exact ⟨m', hm, again I7 w8⟩
      | true =>
        rw [if_pos rfl] at q7;rw [if_pos rfl];refine thn (he _ _ _ _ _ _ _ s7 _ H7 _ I7 q7) fun z s8 ⟨zv, H8, I8, r8, hD8, n8⟩ => ?_;obtain ⟨m', hm, w8⟩ := hN _ _ n8;refine thn (zf2 (X := zbX X (x :: cs.map (·.1)) scope (zcT X.env.cells scope.names) HH.objs.size s2 H2 fp (X.pn ++ pins)) _ s8 _ H8 (.ref s2.heap.objs.size) [zv] (.ref s2.heap.objs.size) [z] (fun _ H9 => H9 = upd H8 s2.heap.objs.size (.lst (ys ++ [zv]))) I8 rfl (.cons r8 .nil) ⟨_, ys, zv, rfl, rfl, hD8, hsz, rfl⟩) fun _ s9 ⟨_, H9, I9, _, e9⟩ => ?_;subst e9;exact ⟨m', hm, again I9 w8⟩
  exact codeAny_compStart_list (loop _ rfl) (T.self _ 0 _ _ _ stC (loop _ rfl))
def ztH (wi : TI) (tq : TT) (te : TE) (cs : List (Str × Nat)) : TE := fun σ H Q => zkm wi tq te cs σ H fun D H' => Q (.ref D) H'
theorem zn3 (x : Str) (cs : List (Str × Nat)) {px : Pos} (hc : X.calm = true) (hi : PI X (.Name x px) iter wi)
  (hq : ∀ (cl : List (Str × Addr)) (C : Addr) (s₀ : Shared) (H₀ : Hp) (ex : List Addr) (pn : Pnx), PIfs (zbX X (x :: cs.map (·.1)) scope cl C s₀ H₀ ex pn) ifs tq)
  (he : ∀ (cl : List (Str × Addr)) (C : Addr) (s₀ : Shared) (H₀ : Hp) (ex : List Addr) (pn : Pnx), PE (zbX X (x :: cs.map (·.1)) scope cl C s₀ H₀ ex pn) elt te)
  (ok : zg4 X.N X.env.scope x cs scope = true := by kernel_rfl) (hs : ∀ x, foldedSetIterable iter X.env x = pure x := by intro _; rfl) :
  PE X (.ListComp elt [⟨.Name x px, iter, ifs, 0⟩] scope pos) (ztH wi tq te cs) := by
 intro pins s σ H Q I h;have ok' := CompOk.of ok;rw [eval_ListComp];refine wpAny_comprehension_free (use := none) rfl hs (zg7 fun y hy hk => I.ok.has y.1 (ok'.has y hy hk)) ok'.kind ok'.names ?_;refine zj6 (RR := fun acc C => compPost (model X.prog X.w) X.A X.xe none (EP X pins σ Q) acc C) hc hi hq he ok' I h ?_;intro D C oC H' s' I' hns fC q;refine ⟨_, (hns _ (I'.pin (C, oC) (List.mem_append_right _ (List.mem_append_right _ (by simp)))).1).choose_spec, fun h' hs' => ?_⟩;have I1 : Inv X pins σ H' s' := I'.unpinned;exact ⟨.ref D, H', I1.turned (t' := s'.toks) (fun b o hb e => (hs'.2 b hb).trans e) fC.1 fC.2.1 fC.2.2.2.1 fC.2.2.2.2.1 fC.2.2.2.2.2, rfl, q⟩
end
theorem zcn {H : Hp} {D : Addr} {o : HO} (hD : H D = none) : Same H (upd H D o) := fun b ob e => by
 rw [zal (zan e hD)];exact e
structure Noted (fs : List Addr) (z : Addr) (h h' : Heap) (e : Addr) (oe : Obj) (T : Addr) (fl : Value) : Prop where
 keep : ∀ b o, b ∉ fs -> b ≠ e -> b ≠ z -> h.get? b = some o -> h'.get? b = some o
 slot : ∀ b o, b ∈ fs -> b ≠ e -> b ≠ z -> h.get? b = some o -> ∃ sl, h'.get? b = some { o with slots := sl }
 exc : h'.get? e = some (oe.mapFields (·.setIfInBounds 1 (.ref T)))
 new : h.objs.size <= T
 tb : ∃ oT ts, h'.get? T = some oT /\ oT.data = .fields ts /\ ts[3]? = some fl
section
variable {M : Model} {A : Around} {E : Value -> Shared -> Prop} {s : Shared} {base : Heap} {env : Env} {outer : List Env} {L e z : Addr} {oe : Obj} {vs : Array Value} {Q : Unit -> Shared -> Prop}
theorem zh8 {head : Value} {hadNext : Bool} (a1 : A.frames = some (env :: outer)) (a2 : s.heap.FunFrames base (env :: outer)) (a3 : env.frame = some L)
  (a4 : s.heap.get? e = some oe) (a5 : oe.data = .fields vs) (a6 : 1 < vs.size)
  (k : ∀ h' T, Noted (frs (env :: outer)) e s.heap h' e oe T (rawInt L) -> Q () { s with heap := h' }) :
  wpAny M A (do
   let a <- frameOf env
   let pl <- entryPlaceOf L hadNext
   let b <- EntryCells.newEntry head a .none (rawInt L) .none pl
   setField (.ref e) 1 b) Q E s := by
 have ne : e ∉ frs (env :: outer) := fun m => by
  obtain ⟨_, o, e1, e2⟩ := a2.mem m;rw [a4] at e1;cases e1;exact e2 vs a5
 refine wpAny_bind (wpAny_frameOf_fun a1 a2 a3 fun h1 S => ?_);refine wpAny_bind (wpAny_entryPlaceOf fun pl hpl => ?_);unfold EntryCells.newEntry newFields;refine wpAny_bind (wpAny_newObj_type ?_ (hpl.sizeOk5 _ _ _ _ _));have b1 : h1.get? e = some oe := (S.2.1 e ne).trans a4;have b2 := Heap.get?_push_of_some (h := h1) { cls := .type "traceback", dict := none, data := .fields ([head, .ref L, .none, rawInt L, .none] ++ (if pl.isEmpty then List.replicate 6 Value.none else pl)).toArray } b1
 refine wpAny_setField b2 a5 a6 (k _ h1.objs.size ?_);have n1 : h1.objs.size ≠ e := Nat.ne_of_gt (Heap.lt_size b1);have frd := Obj.isFreed_of_fields (Obj.data_mapFields a5 (·.setIfInBounds 1 (Value.ref h1.objs.size)));refine ⟨fun b o nb nbe _ hb => ?_, fun b o _ nbe _ hb => ?_, Heap.get?_update_self _ b2 frd, Nat.le_of_eq S.1.symm, ?_⟩
 ·rw [Heap.get?_update_other _ _ (Ne.symm nbe)];exact Heap.get?_push_of_some _ ((S.2.1 b nb).trans hb)
 ·obtain ⟨sl, q⟩ := S.2.2 b o hb;refine ⟨sl, ?_⟩;rw [Heap.get?_update_other _ _ (Ne.symm nbe)];exact Heap.get?_push_of_some _ q
 ·refine ⟨_, _, (Heap.get?_update_other _ _ (Ne.symm n1)).trans (Heap.get?_push_size h1 rfl), rfl, ?_⟩;rcases hpl with rfl | ⟨_, _, _, _, _, _, _, rfl⟩ <;> simp
theorem zgt {T : Addr} {oT : Obj} {ts : Array Value} (b1 : s.heap.get? e = some oe) (b2 : oe.data = .fields vs) (b3 : vs[1]? = some (.ref T)) (b4 : s.heap.get? T = some oT) (b5 : oT.data = .fields ts) (b6 : 3 < ts.size)
  (k : Q () { s with heap := s.heap.update T (Obj.mapFields (·.setIfInBounds 3 .none)) }) : wpAny M A (setFlight (.ref e) none) Q E s := by
 unfold setFlight;refine wpAny_bind (wpAny_field b1 b2 b3 ?_);rw [if_pos (by simp)];exact wpAny_setField b4 b5 b6 k
theorem zku {fs : List Addr} {h h1 : Heap} {T : Addr} {fl : Value} (N : Noted fs z h h1 e oe T fl) (a4 : h.get? e = some oe) (a5 : oe.data = .fields vs) : Noted fs z h (h1.update T (Obj.mapFields (·.setIfInBounds 3 .none))) e oe T .none := by
 obtain ⟨oT, ts, t1, t2, t3⟩ := N.tb;have ne : ∀ b o, h.get? b = some o -> b ≠ T := fun b o q => Nat.ne_of_lt (Nat.lt_of_lt_of_le (Heap.lt_size q) N.new);refine ⟨fun b o n1 n2 n3 hb => ?_, fun b o n1 n2 n3 hb => ?_, ?_, N.new, ?_⟩
 ·rw [Heap.get?_update_other _ _ (Ne.symm (ne b o hb))];exact N.keep b o n1 n2 n3 hb
 ·obtain ⟨sl, q⟩ := N.slot b o n1 n2 n3 hb;exact ⟨sl, by rw [Heap.get?_update_other _ _ (Ne.symm (ne b o hb))]; exact q⟩
 ·rw [Heap.get?_update_other _ _ (Ne.symm (ne e oe a4))];exact N.exc
 ·have z3 : 3 < ts.size := (Array.getElem?_eq_some_iff.mp t3).1;exact ⟨_, _, Heap.get?_update_self _ t1 (Obj.isFreed_of_fields (Obj.data_mapFields t2 _)), Obj.data_mapFields t2 _, by simp [z3]⟩
theorem zfd {fs : List Addr} {h : Heap} {T : Addr} {fl : Value} (N : Noted fs z h s.heap e oe T fl) (a4 : h.get? e = some oe) (a5 : oe.data = .fields vs) (a6 : 1 < vs.size)
  (k : ∀ h', Noted fs z h h' e oe T .none -> Q () { s with heap := h' }) : wpAny M A (setFlight (.ref e) none) Q E s := by
 obtain ⟨oT, ts, t1, t2, t3⟩ := N.tb;refine zgt N.exc (Obj.data_mapFields a5 _) (by simp [a6]) t1 t2 (Array.getElem?_eq_some_iff.mp t3).1 (k _ (zku N a4 a5))
theorem ziK (a1 : A.frames = some (env :: outer)) (a2 : s.heap.FunFrames base (env :: outer)) (a3 : env.frame = some L)
  (a4 : s.heap.get? e = some oe) (a5 : oe.data = .fields vs) (a6 : vs[1]? = some .none) (k : ∀ h' T, Noted (frs (env :: outer)) e s.heap h' e oe T .none -> Q () { s with heap := h' }) : wpAny M A (leaving env (.ref e)) Q E s := by
 have z1 := (Array.getElem?_eq_some_iff.mp a6).1;unfold leaving noteFrame;simp only [a3];refine wpAny_bind (wpAny_bind (wpAny_field a4 a5 a6 ?_));rw [if_neg (by decide)];exact zh8 a1 a2 a3 a4 a5 z1 fun h' T N => zfd (s := { s with heap := h' }) N a4 a5 z1 fun h2 N2 => k h2 T N2
theorem zk7 {T0 : Addr} {oT : Obj} {ts : Array Value} (a1 : A.frames = some (env :: outer)) (a2 : s.heap.FunFrames base (env :: outer)) (a3 : env.frame = some L)
  (a4 : s.heap.get? e = some oe) (a5 : oe.data = .fields vs) (a6 : vs[1]? = some (.ref T0)) (b1 : T0 ≠ e) (b2 : s.heap.get? T0 = some oT) (b3 : oT.data = .fields ts) (b4 : ts[3]? = some .none)
  (k : ∀ h' T, Noted (frs (env :: outer)) T0 s.heap h' e oe T (rawInt L) -> Q () { s with heap := h' }) : wpAny M A (noteFrame (.ref e) env) Q E s := by
 have z1 := (Array.getElem?_eq_some_iff.mp a6).1;unfold noteFrame;simp only [a3];refine wpAny_bind (wpAny_field a4 a5 a6 ?_);rw [if_pos (by simp)];refine wpAny_bind (wpAny_field b2 b3 b4 ?_);rw [if_neg (by simp [rawInt])];refine wpAny_bind (wpAny_setField b2 b3 (Array.getElem?_eq_some_iff.mp b4).1 ?_);have oth : ∀ b, b ≠ T0 -> (s.heap.update T0 (Obj.mapFields (·.setIfInBounds 3 Value.none))).get? b = s.heap.get? b := fun b hb => Heap.get?_update_other _ _ (Ne.symm hb);have fr : ∀ b o, s.heap.get? b = some o -> (∀ us, o.data ≠ .fields us) -> b ≠ T0 := fun b o hb n r => by
  rw [r, b2] at hb;cases hb;exact n ts b3
 refine zh8 (s := { s with heap := s.heap.update T0 (Obj.mapFields (·.setIfInBounds 3 Value.none)) }) a1 (a2.of_keeps fun b o hb n => ⟨o, (oth b (fr b o hb n)).trans hb, rfl⟩) a3 ((oth e (Ne.symm b1)).trans a4) a5 z1 fun h' T N => k h' T ?_;exact ⟨fun b o n1 n2 n3 hb => N.keep b o n1 n2 n2 ((oth b n3).trans hb), fun b o n1 n2 n3 hb => N.slot b o n1 n2 n2 ((oth b n3).trans hb), N.exc, by rw [<- Heap.size_after_update s.heap T0 (Obj.mapFields (·.setIfInBounds 3 Value.none))]; exact N.new, N.tb⟩
end
section
variable {prog : Program} {w : World} {A : Around} {E : Value -> Shared -> Prop} {h : Heap} {g : Array GenState} {d : Drawn} {t : Nat} {os : OsState}
variable {nm q : Str} {C N : Addr} {bs bm bmB : List Value} {hdct : Bool} {sn : List Str} {sub : List Value} {ab : Bool} {col : Option Bool} {dd : Option Addr} {k0 k1 k2 k3 k5 : Option Value} {B newId initId : String}
theorem zhd (F : ExcBaseFacts B newId initId bmB) (T : OwnTail h bmB bm) {mN : Mgx} {rest : List Value} {fI : Addr} {oI : Obj} {Q : Fin -> Shared -> Prop}
  (c1 : h.get? C = some (excClassObj nm q C N bs bm hdct sn sub ab col dd k0 k1 k2 k3 k5 newId)) (c2 : h.Ns N mN) (c3 : mN "__init__" = some (.ref fI)) (c4 : h.get? fI = some oI) (c5 : oI.cls = .type "function") (c6 : rest.length <= sizeLine)
  (k : ∀ h' e, Heap.MadeExcOf h h' e (.ref C) rest -> wpAny (model prog w) A (call (.ref fI) (.ref e :: rest)) (fun r s' => r = .none /\ Q (.done (.ret (.ref e))) s') E ⟨h', g, d, t, os⟩) :
  wpAny (model prog w) A (Builtin.«type.__call__» ⟨.ref C :: rest, []⟩) Q E ⟨h, g, d, t, os⟩ := by
 repeat (first | with_reducible refine wpAny_loadPart_at c1 ?_ | with_reducible refine wpAny_madeBy_exc c1 ?_ | wp_step)
 refine codeAny_call_builtin_code (Code.quiet_builtin _ F.quiet) (wpAny_check_new_subT F T c1 (codeAny_exc_new_subT F T c1 ?_ c6));show wpAny _ _ _ _ _ _;have up : ∀ b o, h.get? b = some o -> ((h.push { cls := .type "tuple", data := .seq rest.toArray }).push
   { cls := .ref C, data := .fields #[.ref h.objs.size, .none, .none, .none, .bool false, .none] }).get? b = some o := fun b o hb =>
  Heap.get?_push_of_some _ (Heap.get?_push_of_some _ hb)
 have at1 : ((h.push { cls := .type "tuple", data := .seq rest.toArray }).push
   { cls := .ref C, data := .fields #[.ref h.objs.size, .none, .none, .none, .bool false, .none] }).get? (h.objs.size + 1) = some
   { cls := .ref C, data := .fields #[.ref h.objs.size, .none, .none, .none, .bool false, .none] } := by heap_get
 have hcC : (Value.ref C :: bm).contains (.ref C) = true := by simp
 have c1' := up _ _ c1;have c4' := up _ _ c4;have T' := T.keeps up;have c2' := c2.keeps up;unfold isInstance
 repeat (first | with_reducible refine wpAny_loadPart_at at1 ?_ | (with_reducible refine wpAny_isSubtype_exc c1' ?_; rw [hcC]) | wp_step)
 show wpAny _ _ (typeLookup (.ref C) _) _ _ _;refine wpAny_typeLookup_tail c1' c2' T' F.mroIs F.init.lookup ?_;rw [c3];refine wpAny_holding (wpAny_bind ?_);unfold bindSpecial;refine wpAny_bind (wpAny_typeOf (T := "function") ⟨_, c4', c5⟩ ?_);rw [if_pos (by decide)];refine wpAny_pure (wpAny_bind (wpAny_mono (k _ (h.objs.size + 1) ⟨up, Heap.get?_none_of_le (Nat.le_succ _), h.objs.size, at1, Heap.get?_none_of_le (Nat.le_refl _), ?_⟩) (fun r s' hr => ?_) fun _ _ x => x))
 ·exact Heap.get?_push_of_some _ (Heap.get?_push_at rfl rfl)
 ·obtain ⟨rfl, z⟩ := hr
  wp_walk
  exact z
theorem zl8 (F : ExcBaseFacts B newId initId bmB) (T : OwnTail h bmB bm) {mN : Mgx} {rest : List Value} {fI : Addr} {oI : Obj} {Q : Value -> Shared -> Prop}
  (c1 : h.get? C = some (excClassObj nm q C N bs bm hdct sn sub ab col dd k0 k1 k2 k3 k5 newId)) (c2 : h.Ns N mN) (c3 : mN "__init__" = some (.ref fI)) (c4 : h.get? fI = some oI) (c5 : oI.cls = .type "function") (c6 : rest.length <= sizeLine)
  (k : ∀ h' e, Heap.MadeExcOf h h' e (.ref C) rest -> wpAny (model prog w) (A.under (.builtin "type.__call__" ⟨.ref C :: rest, []⟩)) (call (.ref fI) (.ref e :: rest)) (fun r s' => r = .none /\ Q (.ref e) s') E ⟨h', g, d, t, os⟩) :
  wpAny (model prog w) A (call (.ref C) rest) Q E ⟨h, g, d, t, os⟩ := by
 have f1 := tc_lookup;have f2 := tc_bind (.ref C);have f3 : (⟨h, g, d, t, os⟩ : Shared).TypeIs (.ref C) "type" := ⟨_, c1, rfl⟩;refine wpAny_call (codeAny_of_tree ?_);show wpAny _ _ (callAny (.ref C) _) _ _ _
 repeat (any_goals (first | assumption | with_reducible refine wpAny_loadPart_at c1 ?_ | wp_step))
 exact ⟨rfl, codeAny_call_builtin_at (Code.quiet_builtin _ (by x_go)) entry_typeCall (wpAny_check_type_call_sub c1 (zhd F T c1 c2 c3 c4 c5 c6 fun h' e m => k h' e m))⟩
theorem zjO {s : Shared} {env : Env} {x : Sem Value} {Q : Flow -> Shared -> Prop} (hh : A.handled = none)
  (k : wpAny (model prog w) A x (fun v s₁ => ∃ e oe vs, v = .ref e /\ (∃ C nm q N bs bm hdct sn sub ab col dd k0 k1 k2 k3 k5 newId, s₁.heap.get? C = some (excClassObj nm q C N bs bm hdct sn sub ab col dd k0 k1 k2 k3 k5 newId) /\ bm.contains (.type "BaseException") = true /\ oe.cls = .ref C) /\
   s₁.heap.get? e = some oe /\ oe.data = .fields vs /\ vs[1]? = some .none /\ E (.ref e) s₁) E s) :
  wpAny (model prog w) A (raiseStmt env (some x) none) Q E s := by
 unfold raiseStmt;refine wpAny_bind (wpAny_mono k (fun v s₁ h₁ => ?_) fun _ _ x => x);obtain ⟨e, oe, vs, rfl, ⟨C, nm, q, N, bs, bm, hdct, sn, sub, ab, col, dd, k0, k1, k2, k3, k5, newId, hC, hb, hc⟩, he, hd, h1, hE⟩ := h₁;have hcB : (Value.ref C :: bm).contains (.type "BaseException") = true := by rw [List.contains_cons, hb, Bool.or_true]
 obtain ⟨oc, od, odt, osl⟩ := oe;dsimp only at hc hd;subst hc hd;obtain ⟨hp, g, d, tk, os⟩ := s₁
 repeat (first | with_reducible refine wpAny_loadPart_at he ?_ | with_reducible refine wpAny_loadPart_at hC ?_ | (with_reducible refine wpAny_isSubtype_exc hC ?_; rw [hcB]) | with_reducible refine wpAny_field he rfl h1 ?_ | wp_step)
 exact wpAny_raiseNew_none hh hE
end
section
variable {prog : Program} {w : World} {A : Around} {E : Value -> Shared -> Prop} {h : Heap} {g : Array GenState} {d : Drawn} {t : Nat} {os : OsState}
variable {nm q : Str} {C N : Addr} {bs bm bmB : List Value} {hdct : Bool} {sn : List Str} {sub : List Value} {ab : Bool} {col : Option Bool} {dd : Option Addr} {k0 k1 k2 k3 k5 : Option Value} {B newId initId : String}
theorem zqR (F : ExcBaseFacts B newId initId bmB) (T : OwnTail h bmB bm) {rest : List Value} {e t0 : Addr} {oe : Obj} {vs : Array Value} {Q : Value -> Shared -> Prop}
  (c1 : h.get? C = some (excClassObj nm q C N bs bm hdct sn sub ab col dd k0 k1 k2 k3 k5 newId)) (e1 : h.get? e = some oe) (e2 : oe.cls = .ref C) (e3 : oe.data = .fields vs) (e4 : vs[0]? = some (.ref t0)) (hz : rest.length <= sizeLine)
  (k : Q .none ⟨(h.push { cls := .type "tuple", data := .seq rest.toArray }).update e (Obj.mapFields (·.setIfInBounds 0 (.ref h.objs.size))), g, d, t, os⟩) :
  wpAny (model prog w) A (call (.builtin initId) (.ref e :: rest)) Q E ⟨h, g, d, t, os⟩ := by
 refine wpAny_call (codeAny_call_builtin F.init.plain F.initEntry (wpAny_check_init_subT F T c1 e1 e2 ?_));unfold Builtin.«BaseException.__init__»;dsimp only;rw [if_neg (by simp)];unfold newTuple Builtin.BaseException.bexcPut;have z0 : 0 < vs.size := (Array.getElem?_eq_some_iff.mp e4).1;have e1' := Heap.get?_push_of_some (h := h) { cls := .type "tuple", data := .seq rest.toArray } e1;refine wpAny_bind (wpAny_newObj_type (wpAny_bind (wpAny_bind (wpAny_field e1' e3 e4 (wpAny_bind (wpAny_setField e1' e3 z0 ?_))))) (by show rest.toArray.size <= sizeLine; rw [List.size_toArray]; exact hz));exact wpAny_letGo (wpAny_pure k)
theorem zkI {e c : Addr} {oe : Obj} {Q : Bool -> Shared -> Prop} {nm' q' : Str} {N' : Addr} {bs' bm' : List Value} {hdct' : Bool} {sn' : List Str} {sub' : List Value} {ab' : Bool} {col' : Option Bool} {dd' : Option Addr} {j0 j1 j2 j3 j5 : Option Value}
  (c1 : h.get? C = some (excClassObj nm q C N bs bm hdct sn sub ab col dd k0 k1 k2 k3 k5 newId)) (c2 : h.get? c = some (excClassObj nm' q' c N' bs' bm' hdct' sn' sub' ab' col' dd' j0 j1 j2 j3 j5 newId)) (e1 : h.get? e = some oe) (e2 : oe.cls = .ref C)
  (hb : bm'.contains (.type "BaseException") = true) (k : Q ((Value.ref C :: bm).contains (.ref c)) ⟨h, g, d, t, os⟩) : wpAny (model prog w) A (excMatches (.ref e) (.ref c)) Q E ⟨h, g, d, t, os⟩ := by
 have hcB : (Value.ref c :: bm').contains (.type "BaseException") = true := by rw [List.contains_cons, hb, Bool.or_true]
 have f := tc_notTuple;unfold excMatches;generalize hr : (Value.ref C :: bm).contains (.ref c) = r at k
 repeat (first | (with_reducible refine wpAny_loadPart_at e1 ?_; rw [e2]) | with_reducible refine wpAny_loadPart_at c2 ?_ | (with_reducible refine wpAny_isSubtype_exc c2 ?_; rw [hcB]) | (with_reducible refine wpAny_isSubtype_exc c1 ?_; rw [hr]) | wp_step)
 cases r <;> (wp_walk; exact k)
end
abbrev zf4 : List Value := [.type "ValueError", .type "Exception", .type "BaseException", .type "object"]
def zja : List Value -> Bool
 | .ref _ :: r => zja r
 | l => l == zf4
theorem zfa : ∀ (l : List Value), zja l = true -> ∃ as : List Addr, l = as.map Value.ref ++ zf4
  | [], e => ⟨[], beq_iff_eq.mp e⟩
  | v :: r, e => by
    cases v
    case ref c =>
      obtain ⟨as, h⟩ := zfa r e;exact ⟨c :: as, by rw [h]; rfl⟩
    all_goals exact ⟨[], beq_iff_eq.mp e⟩
theorem zh9 (self : Value) : ∀ as : List Addr, refuseLoop self "__setattr__" (as.map Value.ref ++ zf4) = pure ()
 | [] => PySem.F.store_ValueError.passes self
 | c :: as => (refuseLoop_ref self "__setattr__" c _).trans (zh9 self as)
theorem zqb (as : List Addr) : (as.map Value.ref ++ zf4).contains (.type "object") = true := by
 induction as with
 | nil => decide +kernel
 | cons c as ih => rw [List.map_cons, List.cons_append, List.contains_cons, ih, Bool.or_true]
def xcIn (K : Fgx) (C : Addr) : Bool := match K.lookup C with
  | some ⟨.type "type", _, .cls cd, sl⟩ => (match cd.mro, sl.toList with
    | .ref c :: bm, [_, _, _, _, some (.builtin n), _] => c == C && (n == "ValueError.__new__" && (!cd.hasDel && (PySem.W.tailIn K zf4 bm && (PySem.W.nsOkIn K cd.ns && (cd.hasDict && zja bm)))))
    | _, _ => false)
  | _ => false
structure XCls (h : Heap) (C : Addr) (nm qn : Str) (N : Addr) (bs bm : List Value) (sn : List Str) (sub : List Value) (ab : Bool) (col : Option Bool) (dd : Option Addr) (k0 k1 k2 k3 k5 : Option Value) : Prop where
 obj : h.get? C = some (excClassObj nm qn C N bs bm true sn sub ab col dd k0 k1 k2 k3 k5 "ValueError.__new__")
 tail : OwnTail h zf4 bm
 ns : h.Ns N (h.nsMap N)
 over : zja bm = true
theorem zha {K : Fgx} {h : Heap} {C : Addr} (X : K.In h) (q : xcIn K C = true) : ∃ nm qn N bs bm sn sub ab col dd k0 k1 k2 k3 k5,
  XCls h C nm qn N bs bm sn sub ab col dd k0 k1 k2 k3 k5 /\ K.lookup C = some (excClassObj nm qn C N bs bm true sn sub ab col dd k0 k1 k2 k3 k5 "ValueError.__new__") := by
 unfold xcIn at q;split at q
 ·rename_i dd cd sl ho;split at q
  ·rename_i c bm k0 k1 k2 k3 n k5 hm hs;simp only [Bool.and_eq_true, beq_iff_eq, Bool.not_eq_true'] at q;obtain ⟨q1, q2, q3, q4, q5, q6, q7⟩ := q;obtain ⟨nm, bs, mro, ns, qn, hd, sn, sub, ab, col, del⟩ := cd;obtain ⟨sl⟩ := sl;dsimp only at hm hs q3 q5 q6;subst q1 q2 hm q3 q6 hs;exact ⟨nm, qn, ns, bs, bm, sn, sub, ab, col, dd, k0, k1, k2, k3, k5, ⟨X _ _ ho, PySem.W.tail_of_in X q4, .of_isNs (PySem.W.isNs_of_in X q5), q7⟩, ho⟩
  ·cases q
 ·cases q
def ziN (K : Fgx) (C f : Addr) : Bool := match K.lookup C with
 | some ⟨_, _, .cls cd, _⟩ => PySem.W.nsIn K cd.ns "__init__" == some (some (.ref f)) && PySem.W.typeIn K (.ref f) == some (.type "function")
 | _ => false
def zlx (K : Fgx) (C : Addr) : Bool := match K.lookup C with
 | some ⟨_, _, .cls cd, _⟩ => PySem.W.nsIn K cd.ns "__init__" == some none
 | _ => false
theorem zjJ {K : Fgx} {h : Heap} {N : Addr} {mg : Mgx} {n : Str} {v : Value} (X : K.In h) (G : h.Ns N mg) (e : PySem.W.nsIn K N n = some (some v)) : mg n = some v := by
 obtain ⟨o, es, ep, ho, hd, _, hf⟩ := G;unfold PySem.W.nsIn at e;split at e
 ·rename_i q;have z := X _ _ q;rw [ho] at z;cases z;cases hd;split at e
  ·rename_i en he;cases e;rw [<- hf];unfold nsFind findBy;rw [<- Array.find?_toList, he];rfl
  ·split at e <;> cases e
 ·cases e
def zhv (K : Fgx) (C : Addr) : Bool := PySem.W.findIn K (.ref C) "__getattribute__" == some (some (.builtin "BaseException.__getattribute__")) &&
 (PySem.W.findIn K (.ref C) "__getattr__" == some none && PySem.W.mroIn K C (.type "BaseException") == some true)
section
variable {prog : Program} {w : World} {A : Around} {E : Value -> Shared -> Prop} {s : Shared} {K : Fgx} {x C : Addr} {ox : Obj} {od : Option Obj} {name : Str} {tk : Tok}
theorem x_by {fill expr : Bool} {Q : Value -> Shared -> Prop} (X : K.In s.heap) (q : zhv K C = true) (I : PySem.W.InstAt s.heap x ox C od)
  (h : wpAny (model prog w) A.in1 (Builtin.«object.__getattribute__» ⟨[.ref x, .str name tk], []⟩) (fun fin s' => match fin with
   | .done (.ret v) => wpAny (model prog w) A (handedOut v) Q E s'
   | _ => False) (fun _ _ => False) s) : wpAny (model prog w) A (getAttrBy (.ref x) (.str name tk) fill expr) Q E s := by
 simp only [zhv, Bool.and_eq_true, beq_iff_eq] at q;obtain ⟨g1, g2, g3⟩ := q;have M0 := I.type (M := model prog w);have M1 := PySem.W.looks_findIn (M := model prog w) X g1;have M2 := PySem.W.looks_findIn (M := model prog w) X g2;have M3 : PySem.W.Looks (model prog w) s.heap (isInstance (.ref x) (.type "BaseException")) true := M0.andThen (PySem.W.looks_mroIn X g3);have FB := PySem.F.excAttr_ValueError;unfold getAttrBy;refine wpAny_holding (wpAny_bind (M0.here (wpAny_bind (M1.here ?_))));dsimp only;rw [show (Value.builtin "BaseException.__getattribute__" == Value.builtin "object.__getattribute__") = false from by x_go, Bool.and_false, if_neg Bool.false_ne_true];unfold getAttrByItsOwn;refine wpAny_bind (m := hookBefore (.ref C)) (M2.here (wpAny_bind (wpAny_attempt (wpAny_holding ?_))));unfold callGetattribute;rw [if_neg (by cases expr <;> decide +kernel)]
 unfold boundAndCalled;rw [FB.ga.bind];refine wpAny_bind (wpAny_pure ?_);refine wpAny_call (codeAny_call_builtin FB.ga.plain PySem.F.entry_bexc_ga (@PySem.W.check_slot (model prog w) _ _ s "BaseException.__getattribute__" "BaseException" "__getattribute__" (.ref x) [.str name tk] [] _ (by x_go) (by x_go) M3 (PySem.F.args_bexc_ga _ _) ?_));refine wpAny_mono h (fun fin s' z => ?_) fun _ _ z => z.elim;rcases fin with (v | _ | _ | _) | c <;> first | exact z | exact z.elim
theorem zoK {v : Value} {Q : Fin -> Shared -> Prop} (X : K.In s.heap) (I : PySem.W.InstAt s.heap x ox C od) (hf : PySem.W.findObj K C od name = some (.value v)) (k : Q (.done (.ret v)) s) :
  wpAny (model prog w) A (Builtin.«object.__getattribute__» ⟨[.ref x, .str name tk], []⟩) Q E s := by
 have M0 := I.type (M := model prog w);have M1 := PySem.W.looks_find (M := model prog w) X I hf;refine wpAny_bind (wpAny_pure (wpAny_bind (wpAny_pure (wpAny_bind (M0.here (wpAny_bind (M1.here ?_)))))));exact wpAny_pure k
end
def zd6 (K : Fgx) (C : Addr) (name : Str) : Bool :=
 PySem.W.findIn K (.ref C) "__setattr__" == some (some (.builtin "object.__setattr__")) && (PySem.W.takerIn K C name == some none &&
  (zhv K C && (PySem.W.hasDictIn K C && PySem.W.findIn K (.ref C) name == some none)))
section
variable {prog : Program} {w : World} {A : Around} {E : Value -> Shared -> Prop} {s : Shared} {K : Fgx} {x dx C : Addr} {ox : Obj} {vs : Array Value} {name : Str} {v : Value}
theorem zr9 {expr : Bool} {mA : Mgx} {Q : Value -> Shared -> Prop} (X : K.In s.heap) (q : zd6 K C name = true) (a1 : s.heap.get? x = some ox) (a2 : ox.cls = .ref C) (a3 : ox.dict = some dx) (a4 : ox.data = .fields vs) (a5 : s.heap.Ns1 dx mA)
  (a6 : mA name = some v) (a7 : PySem.W.handedIn v = true) (k : Q v { s with toks := s.toks + 1 }) : wpAny (model prog w) A (getAttr (.ref x) name expr) Q E s := by
 simp only [zd6, Bool.and_eq_true, beq_iff_eq] at q;obtain ⟨od, e1, e2⟩ := zhu a5;have J : PySem.W.InstAt s.heap x ox C (some od) := ⟨a1, a2, by unfold PySem.W.notCls; rw [a4], by rw [a3]; exact e1⟩;unfold getAttr;refine wpAny_bind (wpAny_mkText (x_by (s := { s with toks := s.toks + 1 }) X q.2.2.1 J (zoK (s := { s with toks := s.toks + 1 }) X J (PySem.W.findObj_own q.2.2.2.1 q.2.2.2.2 rfl (by rw [e2, a6])) ?_)));exact PySem.W.handed_on a7 k
theorem zs6 {Q : Unit -> Shared -> Prop} (X : K.In s.heap) (q0 : xcIn K C = true) (q : zd6 K C name = true) (a1 : s.heap.get? x = some ox) (a2 : ox.cls = .ref C) (a3 : ox.dict = none) (a4 : ox.data = .fields vs)
    (k : ∀ h' tk, (∀ b o, b ≠ x -> s.heap.get? b = some o -> h'.get? b = some o) -> h'.get? x = some { ox with dict := some s.heap.objs.size } -> h'.Ns1 s.heap.objs.size (fun y => if y = name then some v else none) -> Q () { s with heap := h', toks := tk }) :
    wpAny (model prog w) A (setAttr (.ref x) name v) Q E s := by
  simp only [zd6, Bool.and_eq_true, beq_iff_eq] at q;obtain ⟨g1, g2, _, g4, _⟩ := q;obtain ⟨nm, qn, N, bs, bm, sn, sub, ab, col, dd, k0, k1, k2, k3, k5, Y, lk⟩ := zha X q0;obtain ⟨as, hbm⟩ := zfa bm Y.over;have J : PySem.W.InstAt s.heap x ox C none := ⟨a1, a2, by unfold PySem.W.notCls; rw [a4], by rw [a3]; trivial⟩;refine PySem.W.set_plain X J g1 ?_;have SF := PySem.F.store_object;obtain ⟨cd, hc, hd⟩ := PySem.W.any_some g4;have hcd : cd.mro = (C :: as).map Value.ref ++ zf4 := by
    unfold PySem.W.clsIn at hc;rw [lk] at hc;cases hc;show Value.ref C :: bm = _;rw [hbm];rfl
  have ne : cd.mro.isEmpty = false := by rw [hcd]; rfl
  have sub2 : PySem.W.Looks (model prog w) s.heap (isInstance (.ref x) (.type "object")) true :=
    J.type.andThen (PySem.W.looks_mroIn X (by unfold PySem.W.mroIn; rw [hc, Option.bind_some, if_neg (by rw [ne]; decide), hcd, zqb]))
  refine codeAny_call_builtin SF.slot.plain SF.entry (@PySem.W.check_slot (model prog w) _ _ { s with toks := s.toks + 1 } "object.__setattr__" "object" "__setattr__" (.ref x) [.str name s.toks, v] [] _ SF.kind SF.split sub2 (SF.args (.ref x) (.str name s.toks) v) ?_);obtain ⟨attr, ha, hr⟩ := Option.bind_eq_some_iff.mp g2;have hm : PySem.W.Looks (model prog w) s.heap (mroOf (.ref C)) cd.mro := (PySem.W.looks_clsIn X hc).andThen .now;have L3 : PySem.W.Looks (model prog w) s.heap (Builtin.ObjectAttr.storeTaker? attr) none := by
    cases attr with
    | none => exact .now
    | some a =>
      obtain ⟨b, hb, e⟩ := Option.map_eq_some_iff.mp hr;refine (PySem.W.looks_takesIn X hb).andThen ?_;cases b
      · exact .now
      · cases e
  rw [PySem.W.osa_eq, refuse_eq];refine wpAny_bind (wpAny_bind (PySem.W.Looks.here (s := { s with toks := s.toks + 1 }) J.type (wpAny_bind (PySem.W.Looks.here (s := { s with toks := s.toks + 1 }) hm ?_))));rw [hcd, zh9];refine wpAny_pure (wpAny_bind (PySem.W.Looks.here (s := { s with toks := s.toks + 1 }) J.type (wpAny_bind (PySem.W.Looks.here (s := { s with toks := s.toks + 1 }) (PySem.W.looks_findIn X ha) (wpAny_bind (PySem.W.Looks.here (s := { s with toks := s.toks + 1 }) L3 ?_))))));obtain ⟨oc, odi, oda, osl⟩ := ox;dsimp only at a2 a3 a4;subst a2 a3 a4;refine wpAny_bind (wpAny_pure (wpAny_bind (wpAny_bind (wpAny_loadPart a1 (wpAny_bind (PySem.W.Looks.here (s := { s with toks := s.toks + 1 }) (PySem.W.looks_clsIn X hc) ?_))))));rw [hd];have hx1 : (s.heap.push { cls := .type "dict", data := .dict #[] }).get? x = some _ := Heap.get?_push_of_some _ a1;have hxs : x ≠ s.heap.objs.size := Nat.ne_of_lt (Heap.lt_size a1);refine wpAny_bind (wpAny_alloc' ?_);refine wpAny_bind (wpAny_update' hx1 ?_);refine wpAny_pure ?_;have hgd : ((s.heap.push { cls := .type "dict", data := .dict #[] }).update x fun o => { cls := o.cls, dict := some s.heap.objs.size, data := o.data, slots := o.slots }).get? s.heap.objs.size = some { cls := .type "dict", data := .dict #[] } :=
    (Heap.get?_update_ne _ _ _ _ hxs.symm).trans (Heap.get?_push_at rfl rfl)
  have hnd : ((s.heap.push { cls := .type "dict", data := .dict #[] }).update x fun o => { cls := o.cls, dict := some s.heap.objs.size, data := o.data, slots := o.slots }).Ns s.heap.objs.size (fun _ => none) :=
    ⟨_, #[], _, hgd, rfl, fun e he => absurd he (by simp), fun _ => rfl⟩
  show wpAny _ _ (Builtin.ObjectAttr.storeInDict s.heap.objs.size (.str name s.toks) name v) _ _ _;unfold Builtin.ObjectAttr.storeInDict Builtin.ObjectAttr.newKeyGuard;refine wpAny_bind (wpAny_pure (wpAny_bind (wpAny_nsSet1 (Heap.Ns1.of_empty hnd) fun h' hn' hs => ?_)));obtain ⟨oD, esD, epD, hoD, hdD, hcD⟩ := hn'.count (Within.cons name v Within.nil);refine wpAny_bind (wpAny_lookBehind hoD (by rw [hdD]; exact pastItsLine_dict (Nat.le_trans hcD (by rw [List.length_cons, List.length_nil, sizeLine_eq]; omega))) ?_);refine wpAny_pure (k h' _ (fun b o nb hb => ?_) ?_ hn')
  · exact (hs.2 b (Nat.ne_of_lt (Heap.lt_size hb))).trans ((Heap.get?_update_ne _ _ _ _ nb).trans (Heap.get?_push_of_some _ hb))
  · exact (hs.2 x hxs).trans (Heap.get?_update_self _ hx1 rfl)
end
def xo (a C : Addr) (dx : Option Addr) (b : Bool) : HO := .ext fun h => ∃ oe vs t, h.get? a = some oe /\ oe.cls = .ref C /\ oe.dict = dx /\ oe.data = .fields vs /\ vs.size = 6 /\ vs[0]? = some (.ref t) /\ (b = true -> vs[1]? = some .none)
theorem zj4 {P : Program} {w : World} {H : Hp} {h : Heap} {a C : Addr} {dx : Option Addr} {b : Bool} (x : ∃ oe vs t, h.get? a = some oe /\ oe.cls = .ref C /\ oe.dict = dx /\ oe.data = .fields vs /\ vs.size = 6 /\ vs[0]? = some (.ref t) /\ (b = true -> vs[1]? = some .none)) :
  zbW P w H h a (xo a C dx b) := by
 obtain ⟨oe, vs, t, e, r⟩ := x;exact ⟨⟨oe, vs, t, e, r⟩, ⟨oe, e⟩, fun h1 h2 ⟨oe, vs, t, e, r⟩ k => ⟨oe, vs, t, k _ e, r⟩⟩
def zor (h : Heap) (a T : Addr) : Prop := ∃ oe vs oT ts, h.get? a = some oe /\ oe.data = .fields vs /\ vs[1]? = some (.ref T) /\ T ≠ a /\ h.get? T = some oT /\ oT.data = .fields ts /\ ts[3]? = some .none
section
variable {P : Program} {w : World} {H : Hp} {h h' : Heap} {fs ch : List Addr} {z a C T : Addr} {oe : Obj} {fl : Value} {dx : Option Addr} {b : Bool} {vs : Array Value}
theorem zgd (N : Noted fs z h h' a oe T .none) (e1 : h.get? a = some oe) (e2 : oe.data = .fields vs) (e3 : vs.size = 6) : zor h' a T := by
 obtain ⟨oT, ts, t1, t2, t3⟩ := N.tb;refine ⟨_, _, oT, ts, N.exc, Obj.data_mapFields e2 _, by simp [e3], fun q => ?_, t1, t2, t3⟩;have z := Nat.lt_of_lt_of_le (Heap.lt_size e1) N.new;rw [q] at z;exact absurd z (Nat.lt_irrefl _)
theorem zmn (N : Noted fs z h h' a oe T fl) (x : ∃ vs t, oe.cls = .ref C /\ oe.dict = dx /\ oe.data = .fields vs /\ vs.size = 6 /\ vs[0]? = some (.ref t)) : ∃ oe vs t, h'.get? a = some oe /\ oe.cls = .ref C /\ oe.dict = dx /\ oe.data = .fields vs /\ vs.size = 6 /\ vs[0]? = some (.ref t) /\ (false = true -> vs[1]? = some .none) := by
 obtain ⟨vs, t, c1, c2, c3, c4, c5⟩ := x;refine ⟨_, _, t, N.exc, (Obj.cls_mapFields _ _).trans c1, ?_, Obj.data_mapFields c3 _, by simp [c4], ?_, fun q => by cases q⟩
 ·obtain ⟨_, _, od, _⟩ := oe;dsimp only at c3;subst c3;exact c2
 ·rw [Array.getElem?_setIfInBounds_ne (by decide)];exact c5
theorem zju (N : Noted fs z h h' a oe T fl) (ha : H a = some (xo a C dx b)) (hz : z = a \/ z ∈ ch) : Un fs ch H (upd H a (xo a C dx false)) h h' := by
 have n1 : ∀ c, H c = none -> c ≠ a := fun c n q => by rw [q, ha] at n; cases n
 have n2 : ∀ c, c ≠ a -> c ∉ ch -> c ≠ z := fun c n m q => by
  rcases hz with r | r
  ·exact n (q.trans r)
  ·exact m (q ▸ r)
 have n3 : ∀ c u, H c = some u -> (∀ φ, u ≠ .ext φ) -> c ≠ a := fun c u q m r => by
  rw [r, ha] at q;exact m _ (Option.some.inj q).symm
 refine ⟨fun c o q n hc hx => N.keep c o hc (n1 c n) (n2 c (n1 c n) hx) q, fun c o q n hc hx => N.slot c o hc (n1 c n) (n2 c (n1 c n) hx) q, fun c o q n hx => by rw [zal (n1 c n)]; exact n, fun c o q hx => ?_,
  fun c xs q => by rw [zal (n3 c _ q (by intro _ z; cases z))]; exact q, fun c o u q => by rw [zal (n3 c _ q (by intro _ z; cases z))]; exact q, fun c ps q => ⟨#[], by rw [zal (n3 c _ q (by intro _ z; cases z)), q]; simp⟩⟩
 by_cases ca : c = a
 ·rw [ca]; exact ⟨_, N.exc⟩
 ·by_cases cf : c ∈ fs
  ·obtain ⟨sl, r⟩ := N.slot c o cf ca (n2 c ca hx) q;exact ⟨_, r⟩
  ·exact ⟨o, N.keep c o cf ca (n2 c ca hx) q⟩
theorem zil (ok : HOk P w H h) (N : Noted fs z h h' a oe T fl) (ha : H a = some (xo a C dx b)) (hz : z = a \/ H z = none) (hf : ∀ c ∈ fs, H c = none)
  (x : ∃ vs t, oe.cls = .ref C /\ oe.dict = dx /\ oe.data = .fields vs /\ vs.size = 6 /\ vs[0]? = some (.ref t)) : HOk P w (upd H a (xo a C dx false)) h' := fun c u q => by
 have n3 : ∀ c u, H c = some u -> (∀ φ, u ≠ .ext φ) -> c ≠ a := fun c u q m r => by
  rw [r, ha] at q;exact m _ (Option.some.inj q).symm
 by_cases hc : c = a
 ·subst hc;rw [zao] at q;cases q;exact zj4 (zmn N x)
 ·rw [zal hc] at q;have kp : ∀ d u v, H d = some u -> d ≠ a -> h.get? d = some v -> h'.get? d = some v := fun d u v q nd r => N.keep d v (fun m => by rw [hf d m] at q; cases q) nd (fun e => by
   rcases hz with g | g
   ·exact nd (e.trans g)
   ·rw [e, g] at q; cases q) r
  refine (ok c u q).stay (fun d v hd r => ?_) (fun d r => by rw [zal (n3 d _ r (by intro _ z; cases z))]; exact r) fun d xs r => by rw [zal (n3 d _ r (by intro _ z; cases z))]; exact r
  rcases hd with rfl | hd
  ·exact kp d u v q hc r
  ·exact kp d _ v hd (n3 d _ hd (by intro _ z; cases z)) r
theorem Un.less {L : Addr} {H' : Hp} (u : Un (L :: fs) ch H H' h h') (n : h.get? L = none) : Un fs ch H H' h h' := by
 have m : ∀ c o, h.get? c = some o -> c ≠ L := fun c o q e => by rw [e, n] at q; cases q
 exact ⟨fun c o q k hc hx => u.keep c o q k (fun z => (List.mem_cons.mp z).elim (m c o q) hc) hx, fun c o q k hc hx => u.slot c o q k (List.mem_cons_of_mem _ hc) hx, u.free, u.there, u.tups, u.frzs, u.tbls⟩
end
def CX1 (P : Program) (w : World) : CXT := fun outer H s E e s' => ∃ a C dx H' T, e = .ref a /\ s'.os = s.os /\ AllBare s'.gens /\ Un (frs outer) [] H H' s.heap s'.heap /\ HOk P w H' s'.heap /\ H' a = some (xo a C dx false) /\ H' T = none /\ s.heap.objs.size <= T /\ zor s'.heap a T /\ E (.ref C) dx H'
section
variable {X : Cx} {pins : Pnx} {σ : St} {H : Hp} {s : Shared}
theorem zml {P : Program} {w : World} {K : Fgx} {mg : Mgx} {base : Heap} {N : List Str} {qual : Str} {scope : Scope} {f : Addr} {cd : Value} {A : Around} {outer : List PySem.Env} {E : XK} {H1 : Hp} {s1 : Shared} {a C : Addr} {dx : Option Addr}
  (I : Inv (cxOf (CX1 P w) P w K mg base N qual scope f cd A outer s H E) pins σ H1 s1) (ha : H1 a = some (xo a C dx true)) (hE : E (.ref C) dx (upd H1 a (xo a C dx false))) : (cxOf (CX1 P w) P w K mg base N qual scope f cd A outer s H E).xe (.ref a) s1 := by
 obtain ⟨oe, vs, t, e1, e2, e3, e4, e5, e6, e7⟩ := (I.hok a _ ha).1;have fr := I.ok.frames;have st := I.stack;refine ziK fr st rfl e1 e4 (e7 rfl) fun h' T Nn => ?_;have hL : s.heap.get? (envOfC qual scope s.heap.objs.size f cd).locals = none := Heap.get?_none_of_le I.ok.above;have u1 : Un (s.heap.objs.size :: frs outer) [] H H1 s.heap s1.heap := Un.mono (fs' := s.heap.objs.size :: frs outer) (ex' := []) I.base (fun b hb => List.mem_cons_of_mem _ hb) fun b hb => hb;have u2 : Un (s.heap.objs.size :: frs outer) [] H1 (upd H1 a (xo a C dx false)) s1.heap h' := zju Nn ha (.inl rfl);have hT : H1 T = none := I.hok.fresh Nn.new;have nT : T ≠ a := fun q => by rw [q, ha] at hT; cases hT
 refine ⟨a, C, dx, _, T, rfl, I.os, I.bare, (u1.trans u2).less hL, zil I.hok Nn ha (.inl rfl) (fun c hc => I.stkFree c hc) ⟨vs, t, e2, e3, e4, e5, e6⟩, zao, by rw [zal nT]; exact hT, Nat.le_trans I.sz Nn.new, zgd Nn e1 e4 e5, hE⟩
end
theorem zbW.some_of {P : Program} {w : World} {H : Hp} {h : Heap} {a : Addr} {o : HO} (x : zbW P w H h a o) : ∃ u, h.get? a = some u := by
 cases o with
 | lst xs => obtain ⟨_, _, _, _, e⟩ := x; exact ⟨_, e⟩
 | tup xs => obtain ⟨_, _, _, u, e, _⟩ := x; exact ⟨u, e⟩
 | dK kvs => obtain ⟨_, _, _, _, u, _, _, e, _⟩ := x; exact ⟨u, e⟩
 | dT kvs => obtain ⟨_, _, _, _, u, _, _, e, _⟩ := x; exact ⟨u, e⟩
 | set S n => obtain ⟨u, _, _, _, e, _⟩ := x; exact ⟨u, e⟩
 | ins C dx fs => obtain ⟨_, _, _, e, _⟩ := x; exact ⟨_, e⟩
 | own y => exact x
 | xd fs => obtain ⟨_, ⟨u, _, _, e, _⟩, _⟩ := x; exact ⟨u, e⟩
 | rng lo hi => obtain ⟨_, _, _, e⟩ := x; exact ⟨_, e⟩
 | frz ob u => obtain ⟨e, _⟩ := x; exact ⟨_, e⟩
 | tbl ps => exact ⟨_, x⟩
 | met f y => exact ⟨_, x⟩
 | ext φ => exact x.2.1
theorem zm1 {H : Hp} {a : Addr} {o : HO} (e : H a = some o) : upd H a o = H := by
 funext b;unfold upd
 split
 ·subst_vars; exact e.symm
 ·rfl
theorem zfV {P : Program} {w : World} {H : Hp} {h : Heap} {a C : Addr} {dx : Option Addr} {b : Bool} (ok : HOk P w H h) (e : H a = some (xo a C dx b)) :
  ∃ oe vs t, h.get? a = some oe /\ oe.cls = .ref C /\ oe.dict = dx /\ oe.data = .fields vs /\ vs.size = 6 /\ vs[0]? = some (.ref t) /\ (b = true -> vs[1]? = some .none) := (ok a _ e).1
section
variable {X : Cx} {pins : Pnx} {σ : St} {H : Hp} {s : Shared}
theorem Inv.laidN {a : Addr} {o : HO} {h' : Heap} {t' : Nat} (I : Inv X pins σ H s) (k : ∀ b u, s.heap.get? b = some u -> h'.get? b = some u) (n : s.heap.get? a = none) (new : zbW X.prog X.w (upd H a o) h' a o) :
    H a = none /\ Inv X pins σ (upd H a o) { s with heap := h', toks := t' } := by
  have hn : H a = none := by
    cases q : H a with
    | none => rfl
    | some u =>
      obtain ⟨v, e⟩ := (I.hok a u q).some_of;rw [n] at e;cases e
  refine ⟨hn, I.un ⟨fun b u q _ _ _ => k b u q, fun b u q _ _ _ => ⟨u.slots, k b u q⟩, fun b u q m _ => ?_, fun b u q _ => ⟨u, k b u q⟩, fun b xs q => by rw [zal (zan q hn)]; exact q, fun b u xs q => by rw [zal (zan q hn)]; exact q,
    fun b ps q => ⟨#[], by rw [zal (zan q hn), q]; simp⟩⟩ fun b u q => ?_⟩
  · rw [zal (fun z => by rw [z, n] at q; cases q)];exact m
  · by_cases hb : b = a
    · subst hb;rw [zao] at q;cases q;exact new
    · rw [zal hb] at q;exact (I.hok b u q).stay (fun c v _ r => k c v r) (fun c r => by rw [zal (zan r hn)]; exact r) fun c xs r => by rw [zal (zan r hn)]; exact r
def tOwn (C : Addr) (sp : Sp) (te : TE) : TE := fun σ H Q => te σ H fun v H1 => ∀ a, H1 a = none -> sp [.ref a, v] (upd H1 a (xo a C none true)) (fun r H2 => r = .non /\ Q (.ref a) H2) E0
theorem zq3 {C f : Addr} {fd : FuncData} {ps : List Str} {sp : Sp} {k : Nat} {x : Str} {p pos : Pos} {e : Expr} {te : TE} (q1 : xcIn X.K C = true) (q2 : ziN X.K C f = true) (kp : PySem.W.keepIn X.K (.ref C) = true)
    (F : FnOk X.prog X.w X.K X.mg X.base CX0 k f fd ps sp) (hr : Room (k + 1) X.A) (hg : Gl X x) (hm : X.mg x = some (.ref C)) (hb : Binds X.K fd ps []) (hps : ps.length <= 100) (he : PE X e te) (hdb : (x == ("__debug__" : Str)) = false)
    (hs : starEach [e] X.env = [(false, eval e X.env)]) : PE X (.Call (.Name x p) [e] [] pos) (tOwn C sp te) := by
  intro pins s σ H Q I h;refine wpAny_Call_Name_kw (zcx I hg hm ?_ hdb);refine PySem.W.callWith_K (h₀ := X.base) I.ok.mod.kin kp (thn (zdF he zgH hs pos pins s σ H (fun vs H1 => ∀ a, H1 a = none -> sp (.ref a :: vs) (upd H1 a (xo a C none true)) (fun r H2 => r = .non /\ Q (.ref a) H2) E0) I h) fun us s1 ⟨vs, H1, I1, r, q⟩ => ⟨I1.kIn, ?_⟩) hs rfl;obtain ⟨nm, qn, N, bs, bm, sn, sub, ab, col, dd, k0, k1, k2, k3, k5, Y, lk⟩ := zha I1.kIn q1;unfold ziN at q2;rw [lk] at q2;simp only [Bool.and_eq_true, beq_iff_eq] at q2;have c3 := zjJ I1.kIn Y.ns q2.1;obtain ⟨oI, c4, c5⟩ : ∃ oI, s1.heap.get? f = some oI /\ oI.cls = .type "function" := by
    have z : (X.K.lookup f).map (·.cls) = some (.type "function") := q2.2
    cases lf : X.K.lookup f with
    | none => rw [lf] at z; cases z
    | some oI => rw [lf] at z; exact ⟨oI, I1.kIn _ _ lf, Option.some.inj z⟩
  have hl := r.length;have ql := F.len _ _ _ _ (q s1.heap.objs.size (I1.hok.fresh (Nat.le_refl _)));rw [List.length_cons] at ql;obtain ⟨hh, g, d, t, os⟩ := s1;refine zl8 PySem.F.excBase_ValueError Y.tail Y.obj Y.ns c3 c4 c5 (by show us.length <= sizeLine; rw [<- hl, sizeLine_eq]; omega) fun h' a M => ?_;obtain ⟨t0, m1, _, _⟩ := M.there;obtain ⟨hn, I2⟩ := I1.laidN (a := a) (o := xo a C none true) (t' := t) M.keeps M.new (zj4 ⟨_, _, t0, m1, rfl, rfl, rfl, rfl, rfl, fun _ => rfl⟩);have r2 : Vals (V.ref a :: vs) (Value.ref a :: us) := .cons rfl r;have hz : (Value.ref a :: us ++ []).length = ps.length := by
    rw [List.append_nil, <- r2.length];exact F.len _ _ _ _ (q a hn)
  have bd := hb _ (Value.ref a :: us) I2.kIn hz;rw [List.append_nil] at bd;refine wpAny_call (codeAny_mono (F.run _ X.stack _ _ ⟨Value.ref a :: us, []⟩ (Value.ref a :: us) (V.ref a :: vs) _ E0 (hr.make C us []) (I2.env0.make C us []) bd r2 (q a hn)) fun rr s' hq => ?_)
  cases rr with
  | error e => exact False.elim hq
  | ok fl =>
    cases fl with
    | ret u =>
      obtain ⟨v, H', I3, rv, ev, q3⟩ := I2.after hq;subst ev;exact ⟨rv, ⟨V.ref a, H', I3, rfl, q3⟩⟩
    | next => exact False.elim hq
    | brk => exact False.elim hq
    | cont => exact False.elim hq
theorem zjh {e : Expr} {te : TE} {pos : Pos} {W : Addr -> Addr -> Option Addr -> Hp -> Prop} (he : PE X e te) (hc : X.calm = true)
  (hx : ∀ pins σ H s a C dx, Inv X pins σ H s -> H a = some (xo a C dx true) -> W a C dx H -> X.xe (.ref a) s) :
  PS X (.Raise (some e) none pos) (fun _ σ H => te σ H fun v H1 => ∃ a C dx, v = .ref a /\ H1 a = some (xo a C dx true) /\ xcIn X.K C = true /\ W a C dx H1) := by
 intro pins s σ H D I h;rw [arm_exec_Raise];refine wpAny_bind (wpAny_standAt (zjO (I.ok.hd hc) (wpAny_bind (thn (he pins s σ H _ I h) fun u s1 ⟨v, H1, I1, rv, a, C, dx, ev, ea, q1, w⟩ => wpAny_bind (wpAny_standAt (wpAny_pure ?_))))));subst ev;cases rv;obtain ⟨nm, qn, N, bs, bm, sn, sub, ab, col, dd, k0, k1, k2, k3, k5, Y, lk⟩ := zha I1.kIn q1;obtain ⟨oe, vs, t, e1, e2, e3, e4, e5, e6, e7⟩ := zfV I1.hok ea;exact ⟨a, oe, vs, rfl, ⟨C, nm, qn, N, bs, bm, _, sn, sub, ab, col, dd, k0, k1, k2, k3, k5, _, Y.obj, Y.tail.hasType PySem.F.excBase_ValueError.hasBase, e2⟩, e1, e4, e7 rfl, hx pins σ H1 s1 a C dx I1 ea w⟩
def ziC (K : Fgx) (D : Addr) : Bool := PySem.W.specialIn K (.ref D) "__getattribute__" == some (some (.builtin "type.__getattribute__")) && (PySem.W.readsIn K D (.type "type") &&
 (match PySem.W.findCls K (.ref D) (.type "type") "__init__" with
  | some (.val (.builtin i)) => i == "ValueError.__init__"
  | _ => false))
def tBi (K : Fgx) (t1 t2 : TE) : TE := fun σ H Q => t1 σ H fun x H1 => t2 σ H1 fun _ H2 => ∃ a C, x = .ref a /\ H2 a = some (xo a C none true) /\ xcIn K C = true /\ Q .non H2
theorem zpG {D : Addr} {x : Str} {p ap pos : Pos} {e1 e2 : Expr} {t1 t2 : TE} {pl : Sem Bool} (q : ziC X.K D = true) (hg : Gl X x) (hm : X.mg x = some (.ref D)) (h1 : PE X e1 t1) (h2 : PE X e2 t2) (hdb : (x == ("__debug__" : Str)) = false)
    (s1 : starEach [e1, e2] X.env = (false, eval e1 X.env) :: starEach [e2] X.env) (s2 : starEach [e2] X.env = [(false, eval e2 X.env)])
    (ht : eval (.Call (.Attribute (.Name x p) "__init__" ap) [e1, e2] [] pos) X.env = (do
      let ov <- eval (.Name x p) X.env
      standAt ap.atName
      let (f, first) <- holding [ov] (getMethod ov "__init__" pl)
      callWith pos f first (backTo pos (starEach [e1, e2] X.env)) (backToKw pos (keywordEach [] X.env)))) :
    PE X (.Call (.Attribute (.Name x p) "__init__" ap) [e1, e2] [] pos) (tBi X.K t1 t2) := by
  intro pins s σ H Q I h;simp only [ziC, Bool.and_eq_true, beq_iff_eq] at q;obtain ⟨q1, q2, q3⟩ := q;have q4 : PySem.W.findCls X.K (.ref D) (.type "type") "__init__" = some (.val (.builtin "ValueError.__init__")) := by
    split at q3
    · rename_i i e;rw [e, beq_iff_eq.mp q3]
    · cases q3
  refine PySem.W.methodCall_KW (pl := pl) (zcx I hg hm ?_ hdb) ht;refine PySem.W.method_cls I.kIn q1 (PySem.W.cls_value I.kIn q2 q4 rfl ?_);have I0 := I.tok (s.toks + 1);refine PyProof.Rows.callWith_builtin1 (thn (zdF h1 (zdF h2 zgH s2) s1 pos pins _ σ H (fun vs H2 => match vs with
    | [x, _] => ∃ a C, x = .ref a /\ H2 a = some (xo a C none true) /\ xcIn X.K C = true /\ Q .non H2
    | _ => False) I0 h) fun us s3 ⟨vs, H3, I3, r, z⟩ => ?_) s1 (by rw [s2]; rfl)
  rcases vs with _ | ⟨x1, _ | ⟨y1, _ | ⟨z1, vs⟩⟩⟩ <;> first | exact z.elim | skip
  obtain ⟨a, C, rfl, ea, q5, hq⟩ := z
  cases r with
  | cons r1 r2 =>
    cases r2 with
    | cons r3 r4 =>
      cases r4;cases r1;rename_i u1 _;obtain ⟨nm, qn, N, bs, bm, sn, sub, ab, col, dd, k0, k1, k2, k3, k5, Y, lk⟩ := zha I3.kIn q5;obtain ⟨oe, ws, t0, e1, e2, e3, e4, e5, e6, e7⟩ := zfV I3.hok ea;obtain ⟨hh, g, d, t, os⟩ := s3;refine zqR PySem.F.excBase_ValueError Y.tail Y.obj e1 e2 e4 e6 (by show 1 <= sizeLine; rw [sizeLine_eq]; decide) ?_;have e8 := Heap.get?_push_of_some (h := hh) { cls := .type "tuple", data := .seq [u1].toArray } e1;have e9 := Heap.get?_update_self (Obj.mapFields (·.setIfInBounds 0 (.ref hh.objs.size))) e8 (Obj.isFreed_of_fields (Obj.data_mapFields e4 _));have I4 := I3.write (x := a) (e := a) (o := xo a C none true) (t' := t) (by rw [ea]; exact True.intro) (.inl rfl) (fun b u nb hb => (Heap.get?_update_other _ _ (Ne.symm nb)).trans (Heap.get?_push_of_some _ hb)) ⟨_, e9⟩ (zj4 ⟨_, _, hh.objs.size, e9, (Obj.cls_mapFields _ _).trans e2, (by
        obtain ⟨_, _, od, _⟩ := oe;dsimp only at e4;subst e4;exact e3), Obj.data_mapFields e4 _, by simp [e5], by simp [e5], fun z => by rw [Array.getElem?_setIfInBounds_ne (by decide)]; exact e7 z⟩)
      rw [zm1 ea] at I4;exact ⟨.non, H3, I4, rfl, hq⟩
def sXat (K : Fgx) (f : Str) (ta tv : TE) : TS := fun D σ H => tv σ H fun y H1 => ta σ H1 fun x H2 => ∃ a C b, x = .ref a /\ H2 a = some (xo a C none b) /\ xcIn K C = true /\ zd6 K C f = true /\
 ∀ dx, H2 dx = none -> dx ≠ a -> D.nx σ (upd (upd H2 dx (.xd [(f, y)])) a (xo a C (some dx) b))
theorem znr {o value : Expr} {f : Str} {pos pos' : Pos} {ta tv : TE} (ha : PE X o ta) (hv : PE X value tv) (hs : swapsWith value (some (.Attribute o f pos')) pos.line X.env = pure false) : PS X (.Assign [.Attribute o f pos'] value pos) (sXat X.K f ta tv) := by
  intro pins s σ H D I h;refine plainObj_wpAny_Assign_Attribute (thn (hv pins s σ H _ I h) fun u s1 ⟨y, H1, I1, ry, q⟩ => thn (ha pins s1 σ H1 _ I1 q) fun ov s2 ⟨x, H2, I2, rx, a, C, b, ex, ea, q1, q2, k⟩ => ?_) hs;subst ex;obtain rfl : ov = Value.ref a := rx;obtain ⟨oe, vs, t, e1, e2, e3, e4, e5, e6, e7⟩ := zfV I2.hok ea;refine zs6 I2.kIn q1 q2 e1 e2 e3 e4 fun h' tk kp hx hn => ?_;have hd : H2 s2.heap.objs.size = none := I2.hok.fresh (Nat.le_refl _);have nd : s2.heap.objs.size ≠ a := Nat.ne_of_gt (Heap.lt_size e1);refine ⟨σ, _, ?_, k _ hd nd⟩;have ext : ∀ c u, H2 c = some u -> (∀ φ, u ≠ .ext φ) -> c ≠ a := fun c u q m r => by
    rw [r, ea] at q;exact m _ (Option.some.inj q).symm
  have up : ∀ c u, c ≠ a -> H2 c = some u -> (upd (upd H2 s2.heap.objs.size (.xd [(f, y)])) a (xo a C (some s2.heap.objs.size) b)) c = some u := fun c u n q => by
    rw [zal n, zal (zan q hd)];exact q
  refine I2.un ⟨fun c o q n _ _ => kp c o (fun z => by rw [z, ea] at n; cases n) q, fun c o q n _ _ => ⟨o.slots, kp c o (fun z => by rw [z, ea] at n; cases n) q⟩, fun c o q n _ => ?_, fun c o q _ => ?_,
    fun c xs q => up c _ (ext c _ q (by intro _ z; cases z)) q, fun c o xs q => up c _ (ext c _ q (by intro _ z; cases z)) q, fun c ps q => ⟨#[], by rw [up c _ (ext c _ q (by intro _ z; cases z)) q]; simp⟩⟩ fun c u q => ?_
  · rw [zal (fun z => by rw [z, ea] at n; cases n), zal (Nat.ne_of_lt (Heap.lt_size q))];exact n
  · by_cases ca : c = a
    · rw [ca]; exact ⟨_, hx⟩
    · exact ⟨o, kp c o ca q⟩
  · by_cases ca : c = a
    · subst ca;rw [zao] at q;cases q;exact zj4 ⟨_, vs, t, hx, e2, rfl, e4, e5, e6, e7⟩
    · rw [zal ca] at q
      by_cases cd : c = s2.heap.objs.size
      · rw [cd, zao] at q;cases q;rw [cd];refine ⟨_, hn, fun g => ?_⟩
        by_cases gf : g = f
        · subst gf;simp only [List.lookup, beq_self_eq_true, if_true];exact ry
        · have gb : (g == f) = false := beq_eq_false_iff_ne.mpr gf;simp only [List.lookup, gb, if_neg gf]
          trivial
      · rw [zal cd] at q;exact (I2.hok c u q).stay (fun d v hdv r => kp d v (by
          rcases hdv with rfl | z
          · exact ca
          · exact ext d _ z (by intro _ z; cases z)) r) (fun d r => up d _ (ext d _ r (by intro _ z; cases z)) r) fun d xs r => up d _ (ext d _ r (by intro _ z; cases z)) r
def tXat (K : Fgx) (f : Str) (ta : TE) : TE := fun σ H Q => ta σ H fun x H1 => ∃ a C dx b fs v, x = .ref a /\ H1 a = some (xo a C (some dx) b) /\ zd6 K C f = true /\ H1 dx = some (.xd fs) /\ fs.lookup f = some v /\ Q v H1
theorem zqG {e : Expr} {f : Str} {pos : Pos} {ta : TE} (he : PE X e ta) (hb : attributeBase e f X.env (eval e X.env) = eval e X.env) : PE X (.Attribute e f pos) (tXat X.K f ta) := by
 intro pins s σ H Q I h;refine znR hb (thn (he pins s σ H _ I h) fun u s1 ⟨x, H1, I1, rx, a, C, dx, b, fs, v, ex, ea, q1, ed, l, q⟩ => ?_);subst ex;obtain rfl : u = Value.ref a := rx;obtain ⟨oe, vs, t, e1, e2, e3, e4, _⟩ := zfV I1.hok ea;obtain ⟨mA, n, r⟩ := (show zbW X.prog X.w H1 s1.heap dx (.xd fs) from I1.hok dx _ ed);obtain ⟨u2, hu, ru⟩ := RelO.some_of (v := v) (o := mA f) (by rw [<- l]; exact r f);exact zr9 I1.kIn q1 e1 e2 e3 e4 n hu (zkc ru) ⟨v, H1, I1.tok _, ru, q⟩
def zhP (K : Fgx) (C : Addr) : Bool := zhv K C && (PySem.W.hasDictIn K C && (PySem.W.findIn K (.ref C) "__class__" == some (some (.builtin "object.__class__")) &&
 (PySem.W.specialIn K (.builtin "object.__class__") "__get__" == some (some (.builtin "getset_descriptor.__get__")) && (PySem.W.takesIn K (.builtin "object.__class__") == some true && PySem.W.mroIn K C (.type "object") == some true))))
end
section
variable {X : Cx} {pins : Pnx} {σ : St} {H : Hp} {s : Shared}
theorem Inv.del {M : Model} {A : Around} {E : Value -> Shared -> Prop} {i : Nat} {x : Str} {v : V} {Q : Unit -> Shared -> Prop} (I : Inv X pins σ H s) (hN : X.N.Nodup) (hi : X.N[i]? = some x) (hk : X.env.scope.names.lookup x = some .local) (hv : σ[i]? = some (some v))
  (k : ∀ s', Inv X pins (σ.set i none) H s' -> Q () s') : wpAny M A (unbindName X.env x) Q E s := by
 obtain ⟨m, hn, hl⟩ := id I.loc;obtain ⟨u, r, q⟩ := hl i x v hi hv (.inl hk);have hk' : X.env.kindOf x = some .local := hk;have hm : m x = some u := by
  rcases q with ⟨_, e⟩ | ⟨z, _⟩
  ·exact e
  ·rw [hk'] at z;rcases z with z | z <;> cases z
 have hcls : (X.env.scope.kind == .class || (X.env.scope.kind == .module && X.env.locals != X.env.globals)) = false := by rw [I.ok.kind]; rfl
 refine wpAny_unbindName_local hk' hn hm hcls fun h' u' hn' hs => k _ ?_;obtain ⟨oL, _, _, hoL, _⟩ := id hn;have above : ∀ b o, X.s₀.heap.get? b = some o -> b ≠ X.env.locals := fun b o e => Nat.ne_of_lt (Nat.lt_of_lt_of_le (Heap.lt_size e) I.ok.above);refine ⟨I.ok, I.os, I.bare, ⟨fun b o e n hb hx => (hs.2 b (above b o e)).trans (I.base.keep b o e n hb hx), fun b o e n hb hx => ?_, I.base.free, fun b o e hx => ?_, I.base.tups, I.base.frzs, I.base.tbls⟩, ⟨_, hn', fun j y v' e1 e2 e3 => ?_⟩, fun y c e => ?_, I.free, I.freeC, fun p hp => ?_, fun b ob e => ?_, by simpa using I.len⟩
 ·obtain ⟨sl, e1⟩ := I.base.slot b o e n hb hx;exact ⟨sl, (hs.2 b (above b o e)).trans e1⟩
 ·obtain ⟨o', e1⟩ := I.base.there b o e hx;exact ⟨o', (hs.2 b (above b o e)).trans e1⟩
 ·have hj : j ≠ i := by
   rintro rfl;rw [List.getElem?_set] at e2;split at e2
   ·split at e2 <;> cases e2
   ·rename_i z; exact z rfl
  rw [List.getElem?_set_ne (Ne.symm hj)] at e2;obtain ⟨u2, r2, q2⟩ := hl j y v' e1 e2 e3;refine ⟨u2, r2, ?_⟩;rcases q2 with ⟨k2, e⟩ | ⟨k2, c, e, z⟩
  ·have ne : y ≠ x := fun e => hj (zhs hN e1 (e ▸ hi));exact .inl ⟨k2, (if_neg ne).trans e⟩
  ·exact .inr ⟨k2, c, e, z.sameBut hs (I.cne y c e)⟩
 ·obtain ⟨w', z⟩ := I.cell y c e;exact ⟨w', z.sameBut hs (I.cne y c e)⟩
 ·obtain ⟨e, n, ne, nf, d⟩ := I.pin p hp;exact ⟨(hs.2 p.1 ne).trans e, n, ne, nf, d⟩
 ·refine (I.hok b ob e).stay (fun c w' hc q => (hs.2 c ?_).trans q) (fun _ q => q) fun _ _ q => q;rintro rfl;rcases hc with rfl | hc
  ·rw [I.free] at e; cases e
  ·rw [I.free] at hc; cases hc
structure Caught (X : Cx) (pins : Pnx) (σ : St) (H : Hp) (s : Shared) (a C : Addr) (dx : Option Addr) (T : Addr) : Prop where
 inv : Inv X pins σ H s
 obj : H a = some (xo a C dx false)
 fl : zor s.heap a T
 hT : H T = none
 t1 : X.s₀.heap.objs.size <= T
 t2 : T ≠ X.env.locals
 t3 : ∀ x c, X.env.cells.lookup x = some c -> c ≠ T
 t4 : ∀ p ∈ X.pn ++ pins, p.1 ≠ T
theorem zgx {T : Addr} (I : Inv X pins σ H s) (h : s.heap.objs.size <= T) : X.s₀.heap.objs.size <= T /\ T ≠ X.env.locals /\ (∀ x c, X.env.cells.lookup x = some c -> c ≠ T) /\ ∀ p ∈ X.pn ++ pins, p.1 ≠ T := by
 refine ⟨Nat.le_trans I.sz h, Nat.ne_of_gt (Nat.lt_of_lt_of_le I.lt h), fun x c e => ?_, fun p hp => ?_⟩
 ·obtain ⟨v, o, ho, _⟩ := I.cell x c e;exact Nat.ne_of_lt (Nat.lt_of_lt_of_le (Heap.lt_size ho) h)
 ·exact Nat.ne_of_lt (Nat.lt_of_lt_of_le (Heap.lt_size (I.pin p hp).1) h)
theorem zf3 {E : XK} {e : Value} {s' : Shared} (I : Inv X pins σ H s) (h : CX1 X.prog X.w X.stack H s E e s') : ∃ a C dx H' T, e = .ref a /\ Caught X pins σ H' s' a C dx T /\ E (.ref C) dx H' := by
 obtain ⟨a, C, dx, H', T, rfl, os, bare, un, hok, ha, hT, hz, fl, hE⟩ := h;have I2 := I.call' os un hok bare (fun b z => nomatch z)
 obtain ⟨z1, z2, z3, z4⟩ := zgx I hz;exact ⟨a, C, dx, H', T, rfl, ⟨I2, ha, fl, hT, z1, z2, z3, z4⟩, hE⟩
variable {a C T : Addr} {dx : Option Addr} {Q : Unit -> Shared -> Prop} {E : Value -> Shared -> Prop} {M : Model}
theorem Caught.note (c : Caught X pins σ H s a C dx T) (hs : X.stack = X.env :: X.outer) (hf : X.env.frame = some X.env.locals) (k : ∀ s' T', Caught X pins σ H s' a C dx T' -> Q () s') :
  wpAny M X.A (noteFrame (.ref a) X.env) (fun _ s2 => wpAny M X.A (setFlight (.ref a) none) Q E s2) E s := by
 obtain ⟨oe, vs, t, e1, e2, e3, e4, e5, e6, _⟩ := zfV c.inv.hok c.obj;obtain ⟨oe', vs', oT, ts, f1, f2, f3, f4, f5, f6, f7⟩ := c.fl;rw [e1] at f1;cases f1;rw [e4] at f2;cases f2;have fr := c.inv.ok.frames;have st := c.inv.stack;rw [hs] at fr st;refine zk7 fr st hf e1 e4 f3 f4 f5 f6 f7 fun h' T' N => zfd (s := { s with heap := h' }) N e1 e4 (by omega) fun h2 N2 => k _ T' ?_;have hx : ∃ vs t, oe.cls = .ref C /\ oe.dict = dx /\ oe.data = .fields vs /\ vs.size = 6 /\ vs[0]? = some (.ref t) := ⟨vs, t, e2, e3, e4, e5, e6⟩;rw [<- hs] at N2;have u := zju (ch := [T]) N2 c.obj (.inr (List.mem_singleton.mpr rfl));have hk := zil c.inv.hok N2 c.obj (.inr c.hT) (fun b hb => c.inv.stkFree b hb) hx;rw [zm1 c.obj] at u hk;have I2 : Inv X pins σ H { s with heap := h2 } := c.inv.call' (s' := { s with heap := h2 }) rfl u hk c.inv.bare (fun b hb => by
  rw [List.mem_singleton.mp hb];exact ⟨.inr c.t1, c.t2, c.t3, c.t4⟩)
 obtain ⟨z1, z2, z3, z4⟩ := zgx c.inv N2.new;exact ⟨I2, c.obj, zgd N2 e1 e4 e5, c.inv.hok.fresh N2.new, z1, z2, z3, z4⟩
theorem Caught.off {A : Around} (c : Caught X pins σ H s a C dx T) (k : ∀ s', Caught X pins σ H s' a C dx T -> Q () s') : wpAny M A (setFlight (.ref a) none) Q E s := by
 obtain ⟨oe, vs, oT, ts, f1, f2, f3, f4, f5, f6, f7⟩ := c.fl;have z3 : 3 < ts.size := (Array.getElem?_eq_some_iff.mp f7).1;refine zgt f1 f2 f3 f5 f6 z3 (k _ ?_);have kp : ∀ b o, b ≠ T -> s.heap.get? b = some o -> (s.heap.update T (Obj.mapFields (·.setIfInBounds 3 .none))).get? b = some o := fun b o n e => (Heap.get?_update_other _ _ (Ne.symm n)).trans e;have I2 := c.inv.turned (t' := s.toks) kp c.hT c.t2 (.inr c.t1) c.t3 c.t4;exact ⟨I2, c.obj, ⟨oe, vs, _, _, kp a oe (Ne.symm f4) f1, f2, f3, f4, Heap.get?_update_self _ f5 (Obj.isFreed_of_fields (Obj.data_mapFields f6 _)), Obj.data_mapFields f6 _, by simp [z3]⟩, c.hT, c.t1, c.t2, c.t3, c.t4⟩
end
abbrev Cx.pin (X : Cx) (pins : Pnx) (E : Value -> Shared -> Prop) : Cx := { X with pn := X.pn ++ pins, xe := E }
abbrev Cx.suite (X : Cx) (e : Value) : Cx := { X with A := X.A.mark (some e), calm := false, xe := fun _ _ => False }
section
variable {X : Cx} {pins ps : Pnx} {σ : St} {H : Hp} {s : Shared} {E : Value -> Shared -> Prop} {e : Value}
theorem Inv.to_pin (I : Inv X pins σ H s) (E : Value -> Shared -> Prop) : Inv (X.pin pins E) [] σ H s :=
  ⟨⟨I.ok.mod, I.ok.kind, I.ok.glob, I.ok.blt, I.ok.above, I.ok.inj, I.ok.has, I.ok.cab, I.ok.hd, I.ok.frames, I.ok.stk, I.ok.exf, I.ok.bs, I.ok.bsz, I.ok.noex, I.ok.exfs, I.ok.funs, I.ok.frf⟩, I.os, I.bare, I.base, I.loc, I.cell, I.free, I.freeC,
    fun p hp => I.pin p (by simpa using hp), I.hok, I.len⟩
theorem Inv.of_pin (I : Inv (X.pin pins E) ps σ H s) : Inv X pins σ H s :=
  ⟨⟨I.ok.mod, I.ok.kind, I.ok.glob, I.ok.blt, I.ok.above, I.ok.inj, I.ok.has, I.ok.cab, I.ok.hd, I.ok.frames, I.ok.stk, I.ok.exf, I.ok.bs, I.ok.bsz, I.ok.noex, I.ok.exfs, I.ok.funs, I.ok.frf⟩, I.os, I.bare, I.base, I.loc, I.cell, I.free, I.freeC,
    fun p hp => I.pin p (List.mem_append_left _ hp), I.hok, I.len⟩
theorem Inv.to_suite (I : Inv X pins σ H s) (e : Value) : Inv (X.suite e) pins σ H s :=
 ⟨⟨I.ok.mod, I.ok.kind, I.ok.glob, I.ok.blt, I.ok.above, I.ok.inj, I.ok.has, I.ok.cab, (fun z => by cases z), I.ok.frames, I.ok.stk, I.ok.exf, I.ok.bs, I.ok.bsz, I.ok.noex, I.ok.exfs, I.ok.funs, I.ok.frf⟩, I.os, I.bare, I.base, I.loc, I.cell, I.free, I.freeC, I.pin, I.hok, I.len⟩
theorem Inv.of_suite (I : Inv (X.suite e) pins σ H s) (hd : X.A.handled = none) : Inv X pins σ H s :=
 ⟨⟨I.ok.mod, I.ok.kind, I.ok.glob, I.ok.blt, I.ok.above, I.ok.inj, I.ok.has, I.ok.cab, fun _ => hd, I.ok.frames, I.ok.stk, I.ok.exf, I.ok.bs, I.ok.bsz, I.ok.noex, I.ok.exfs, I.ok.funs, I.ok.frf⟩, I.os, I.bare, I.base, I.loc, I.cell, I.free, I.freeC, I.pin, I.hok, I.len⟩
end
def zeO (K : Fgx) (C c : Addr) : Bool := match K.lookup C with
 | some ⟨_, _, .cls cd, _⟩ => cd.mro.contains (.ref c)
 | _ => false
theorem zlY {X : Cx} {CX : CXT} {k : Nat} {f : Addr} {fd : FuncData} {ps : List Str} {sp : Sp} {dvs : List V} {ds : List Value} {x : Str} {p pos : Pos} {e : Expr} {es : List Expr} {t : TA} {Ex : St -> XK} (F : FnOk X.prog X.w X.K X.mg X.base CX k f fd ps sp) (hr : Room k X.A) (hg : Gl X x)
    (hm : X.mg x = some (.ref f)) (hk : PySem.W.keepIn X.K (.ref f) = true) (hb : Binds X.K fd ps ds) (hd : Vals dvs ds) (hx : ∀ pins σ H s e s', Inv X pins σ H s -> CX X.stack H s (Ex σ) e s' -> X.xe e s') (ha : PA X (e :: es) t)
    (hdb : (x == ("__debug__" : Str)) = false) (he : starEach (e :: es) X.env = (false, eval e X.env) :: starEach es X.env) (hpl : (backTo pos (starEach es X.env)).any (·.1) = false) :
    PE X (.Call (.Name x p) (e :: es) [] pos) (fun σ H Q => t σ H fun vs H1 => sp (vs ++ dvs) H1 Q (Ex σ)) := by
  intro pins s σ H Q I h;refine wpAny_Call_Name_kw (zcx I hg hm ?_ hdb);refine PySem.W.callWith_K (h₀ := X.base) I.ok.mod.kin hk (thn (ha pos pins s σ H _ I h) fun us s1 ⟨vs, H1, I1, r, q⟩ => ⟨I1.kIn, ?_⟩) he hpl;have r2 : Vals (vs ++ dvs) (us ++ ds) := r.append hd;have hl : (us ++ ds).length = ps.length := by rw [<- r2.length]; exact F.len _ _ _ _ q
  refine wpAny_call (codeAny_mono (F.run X.A X.stack s1 H1 ⟨us, []⟩ (us ++ ds) (vs ++ dvs) Q (Ex σ) hr I1.env0 (hb s1 us I1.kIn hl) r2 q) fun rr s' hq => ?_)
  cases rr with
  | error e => exact hx pins σ H1 s1 e s' I1 hq
  | ok fl =>
    cases fl with
    | ret u => exact I1.after hq
    | next => exact False.elim hq
    | brk => exact False.elim hq
    | cont => exact False.elim hq
theorem ns_none_of {K : Fgx} {h : Heap} {N : Addr} {mg : Mgx} {n : Str} (X : K.In h) (G : h.Ns N mg) (e : PySem.W.nsIn K N n = some none) : mg n = none := by
 obtain ⟨o, es, ep, ho, hd, _, hf⟩ := G;unfold PySem.W.nsIn at e;split at e
 ·rename_i q;have z := X _ _ q;rw [ho] at z;cases z;cases hd;split at e
  ·cases e
  ·rename_i he;rw [<- hf];unfold nsFind findBy;rw [<- Array.find?_toList, he];rfl
 ·cases e
section
variable {X : Cx}
def tpC (C : Addr) (Q : VK) (vs : List V) (H : Hp) : Prop := vs.length = 1 /\ ∀ a, H a = none -> Q (.ref a) (upd H a (xo a C none true))
def zq8 (C : Addr) (te : TE) : TE := fun σ H Q => te σ H fun v H1 => tpC C Q [v] H1
theorem zlV {C : Addr} {x : Str} {p pos : Pos} {e : Expr} {te : TE} (q1 : xcIn X.K C = true) (q2 : zlx X.K C = true) (kp : PySem.W.keepIn X.K (.ref C) = true) (hg : Gl X x) (hm : X.mg x = some (.ref C)) (he : PE X e te) (hdb : (x == ("__debug__" : Str)) = false)
  (hs : starEach [e] X.env = [(false, eval e X.env)]) : PE X (.Call (.Name x p) [e] [] pos) (zq8 C te) := by
 intro pins s σ H Q I h;refine wpAny_Call_Name_kw (zcx I hg hm ?_ hdb);refine PySem.W.callWith_K (h₀ := X.base) I.ok.mod.kin kp (thn (zdF he zgH hs pos pins s σ H (tpC C Q) I h) fun us s1 ⟨vs, H1, I1, r, q⟩ => ⟨I1.kIn, ?_⟩) hs rfl;obtain ⟨nm, qn, N, bs, bm, sn, sub, ab, col, dd, k0, k1, k2, k3, k5, Y, lk⟩ := zha I1.kIn q1;unfold zlx at q2;rw [lk] at q2;simp only [beq_iff_eq] at q2;have c3 := ns_none_of I1.kIn Y.ns q2;have hl : us.length = 1 := by
  rw [<- r.length, q.1]
 obtain ⟨hh, g, d, t, os⟩ := s1;refine wpAny_call_exc_subU PySem.F.excBase_ValueError (by x_go) PySem.F.excBase_ValueError Y.tail Y.obj Y.ns c3 (fun h' a M => ?_) (by show us.length <= sizeLine; rw [hl, sizeLine_eq]; decide);obtain ⟨t0, m1, _, _⟩ := M.there;obtain ⟨hn, I2⟩ := I1.laidN (a := a) (o := xo a C none true) (t' := t) M.keeps M.new (zj4 ⟨_, _, t0, m1, rfl, rfl, rfl, rfl, rfl, fun _ => rfl⟩);exact ⟨V.ref a, _, I2, rfl, q.2 a hn⟩
end
theorem znE {X : Cx} {body suite : List Stmt} {b0 : Stmt} {cn n : Str} {np hp pos : Pos} {c : Addr} {i : Nat} {tb : Ends -> TS} {th : TS}
    (hs : X.stack = X.env :: X.outer) (hf : X.env.frame = some X.env.locals) (hc : X.calm = true) (hN : X.N.Nodup) (hi : X.N[i]? = some n) (hl : X.env.scope.names.lookup n = some .local) (hg : Gl X cn) (hm : X.mg cn = some (.ref c)) (q : xcIn X.K c = true) (hdb : (cn == ("__debug__" : Str)) = false)
    (hb : ∀ (pins : Pnx) (D : Ends), PSs (X.pin pins fun e s' => ∃ σ' H' a C dx T, e = .ref a /\ Caught X pins σ' H' s' a C dx T /\ xcIn X.K C = true /\ zeO X.K C c = true /\
      th { D with nx := fun σ H => ∃ v, σ[i]? = some (some v) /\ D.nx (σ.set i none) H, bk := fun _ _ => False, ct := fun _ _ => False } (σ'.set i (some (.ref a))) H') body (tb D))
    (hh : ∀ e, PSs (X.suite e) (b0 :: suite) th) :
    PS X (.Try body [.ExceptHandler (some (.Name cn np)) (some n) (b0 :: suite) hp] [] [] pos) (fun D σ H => tb D D σ H) := by
  intro pins s σ H D I h;refine wpAny_Try_except (wpAny_mono (hb pins D [] s σ H D (I.to_pin _) h) (fun f s1 z => ?_) fun e s1 z => ?_)
  · cases f with
    | next => obtain ⟨σ', H', J, q⟩ := z; exact wpAny_execs_nil ⟨σ', H', J.of_pin, q⟩
    | brk => obtain ⟨σ', H', J, q⟩ := z; exact ⟨σ', H', J.of_pin, q⟩
    | cont => obtain ⟨σ', H', J, q⟩ := z; exact ⟨σ', H', J.of_pin, q⟩
    | ret u => obtain ⟨v, σ', H', J, r, q⟩ := z; exact ⟨v, σ', H', J.of_pin, r, q⟩
  · obtain ⟨σ', H', a, C, dx, T, rfl, K1, q1, q2, z⟩ := z;refine K1.note hs hf fun s2 T2 K2 => ?_;have hd := I.ok.hd hc;refine wpAny_handleBy_cons (codeAny_handlers_test ?_) (by intro z; cases z);refine zcx (X := X.suite (.ref a)) (K2.inv.to_suite _) hg hm ?_ hdb;obtain ⟨nm, qn, N, bs, bm, sn, sub, ab, col, dd, k0, k1, k2, k3, k5, Y, lk⟩ := zha K2.inv.kIn q1;obtain ⟨nm', qn', N', bs', bm', sn', sub', ab', col', dd', j0, j1, j2, j3, j5, Y', lk'⟩ := zha K2.inv.kIn q;obtain ⟨oe, vs, t, e1, e2, e3, e4, e5, e6, _⟩ := zfV K2.inv.hok K2.obj;have hit : (Value.ref C :: bm).contains (.ref c) = true := by
      unfold zeO at q2;rw [lk] at q2;exact q2
    obtain ⟨hh2, g, d, tk, os⟩ := s2;refine zkI Y.obj Y'.obj e1 e2 (Y'.tail.hasType PySem.F.excBase_ValueError.hasBase) ?_;rw [hit];refine codeAny_handlers_suite_as (K2.off fun s3 K3 => ?_);refine zd1 (X := X.suite (.ref a)) (v := .ref a) (K3.inv.to_suite _) hN hi (.inl hl) rfl (fun s4 I4 => ?_) (.inr hl);refine wpAny_mono (hh (.ref a) pins s4 _ H' _ I4 z) (fun f s5 y => ?_) fun _ _ y => False.elim y
    cases f with
    | next =>
      obtain ⟨σ5, H5, I5, v, ev, y⟩ := y;have I5' := I5.of_suite hd;refine wpAny_bind (wpAny_bindName (zd1 (v := .non) I5' hN hi (.inl hl) rfl (fun s6 I6 => ?_) (.inr hl)));unfold unbindBehindTheSuite;refine wpAny_onRaise (I6.del (v := .non) hN hi hl ?_ fun s7 I7 => ?_)
      · rw [List.getElem?_set_self];rw [I5'.len];exact (List.getElem?_eq_some_iff.mp hi).1
      · rw [List.set_set] at I7;exact ⟨_, H5, I7, y⟩
    | brk => obtain ⟨_, _, _, y⟩ := y; exact False.elim y
    | cont => obtain ⟨_, _, _, y⟩ := y; exact False.elim y
    | ret u =>
      obtain ⟨v, σ5, H5, I5, rv, y⟩ := y;have I5' := I5.of_suite hd;refine wpAny_bind (wpAny_bindName (zd1 (v := .non) I5' hN hi (.inl hl) rfl (fun s6 I6 => ?_) (.inr hl)));unfold unbindBehindTheSuite;refine wpAny_onRaise (I6.del (v := .non) hN hi hl ?_ fun s7 I7 => ?_)
      · rw [List.getElem?_set_self];rw [I5'.len];exact (List.getElem?_eq_some_iff.mp hi).1
      · rw [List.set_set] at I7;exact ⟨v, _, H5, I7, rv, y⟩
end L2
namespace E3
open PySem PySem.Spec PyProof.Rows L2
inductive D where
 | non | bl (b : Bool) | int (i : Int) | str (s : Str) | tup (xs : List D) | lst (xs : List D) | ref (n : Nat)
inductive Cl where
 | lst (ds : List D) | obj (c : Str) (fs : List (Str × D)) | dct (kvs : List (L2.Key × D))
abbrev Mm := List Cl
inductive Slot where
 | un | val (d : D) | own (ds : List D) | exc (c : Str) (n : Int)
abbrev Env := List Slot
mutual
def D.lf : D -> Bool
 | .tup xs => D.lfs xs
 | .lst _ => false
 | .ref _ => false
 | _ => true
def D.lfs : List D -> Bool
 | [] => true
 | a :: as => D.lf a && D.lfs as
end
def KL (K : Fgx) (a : Addr) (vs : List V) : Prop := ∃ (o : Obj) (its : Array Value) (n : Nat), K.lookup a = some o /\ o.cls = .type "list" /\ o.dict = none /\ o.data = .seq its n /\ its.size <= sizeLine /\ Vals vs its.toList
structure Pl where
 io : Nat -> Addr
 n : Nat
 bd : Addr -> Prop
def RdA (K : Fgx) (P : Pl) (H : Hp) (a : Addr) (vs : List V) : Prop := (¬ P.bd a /\ Rd H a (.lst vs)) \/ KL K a vs
def RdK (K : Fgx) (P : Pl) (H : Hp) (a : Addr) (vs : List V) : Prop := ((∀ k, k < P.n -> P.io k ≠ a) /\ Rd H a (.lst vs)) \/ KL K a vs
mutual
def Is (K : Fgx) (P : Pl) (H : Hp) : D -> V -> Prop
 | .non, v => v = .non
 | .bl b, v => v = .bl b
 | .int i, v => v = .int i
 | .str s, v => v = .str s
 | .tup ds, v => ∃ a vs, v = .ref a /\ SqT K H a vs /\ Iss K P H ds vs
 | .lst ds, v => ∃ a vs, v = .ref a /\ RdA K P H a vs /\ Iss K P H ds vs
 | .ref k, v => k < P.n /\ v = .ref (P.io k)
def Iss (K : Fgx) (P : Pl) (H : Hp) : List D -> List V -> Prop
 | [], vs => vs = []
 | d :: ds, vs => ∃ v r, vs = v :: r /\ Is K P H d v /\ Iss K P H ds r
end
def Fx (o : HO) : Prop := (∃ xs, o = .tup xs) \/ (∃ u w, o = .frz u w) \/ (∃ g, o = .ext g) \/ ∃ fs, o = .xd fs
structure Lt (P : Pl) (H : Hp) (P' : Pl) (H' : Hp) : Prop where
 n : P.n <= P'.n
 io : ∀ k, k < P.n -> P'.io k = P.io k
 bd : ∀ a, P'.bd a -> P.bd a \/ H a = none
 keep : ∀ a o, H a = some o -> (Fx o \/ ¬ P.bd a) -> H' a = some o
 sure : ∀ a, H' a = none -> H a = none
section
variable {K : Fgx} {P P' P'' : Pl} {H H' H'' : Hp}
theorem Lt.refl (P : Pl) (H : Hp) : Lt P H P H := ⟨Nat.le_refl _, fun _ _ => rfl, fun _ z => .inl z, fun _ _ e _ => e, fun _ z => z⟩
theorem Lt.not (l : Lt P H P' H') {a : Addr} {o : HO} (e : H a = some o) (n : ¬ P.bd a) : ¬ P'.bd a := fun z => (l.bd a z).elim n fun z => by rw [e] at z; cases z
theorem Lt.trans (l : Lt P H P' H') (m : Lt P' H' P'' H'') : Lt P H P'' H'' where
 n := Nat.le_trans l.n m.n
 io := fun k h => (m.io k (Nat.lt_of_lt_of_le h l.n)).trans (l.io k h)
 bd := fun a z => (m.bd a z).elim (l.bd a) fun z => .inr (l.sure a z)
 keep := fun a o e h => m.keep a o (l.keep a o e h) (h.imp id fun n => l.not e n)
 sure := fun a z => l.sure a (m.sure a z)
theorem Lt.rd (l : Lt P H P' H') {a : Addr} {xs : List V} (n : ¬ P.bd a) (h : Rd H a (.lst xs)) : Rd H' a (.lst xs) := by
 rcases h with h | ⟨o, h⟩
 ·exact .inl (l.keep _ _ h (.inr n))
 ·exact .inr ⟨o, l.keep _ _ h (.inr n)⟩
theorem zkz {a : Addr} {o : HO} (h : Rd H a o) : ∃ o', H a = some o' := h.elim (fun h => ⟨_, h⟩) fun ⟨_, h⟩ => ⟨_, h⟩
theorem Lt.rda (l : Lt P H P' H') {a : Addr} {xs : List V} (h : RdA K P H a xs) : RdA K P' H' a xs := h.imp (fun ⟨n, h⟩ => ⟨by obtain ⟨o, e⟩ := zkz h; exact l.not e n, l.rd n h⟩) id
theorem Lt.tup (l : Lt P H P' H') {a : Addr} {xs : List V} (h : SqT K H a xs) : SqT K H' a xs := by
 rcases h with (h | ⟨o, h⟩) | h
 ·exact .inl (.inl (l.keep _ _ h (.inl (.inl ⟨_, rfl⟩))))
 ·exact .inl (.inr ⟨o, l.keep _ _ h (.inl (.inr (.inl ⟨_, _, rfl⟩)))⟩)
 ·exact .inr h
mutual
theorem Is.lt (l : Lt P H P' H') : ∀ {d : D} {v : V}, Is K P H d v -> Is K P' H' d v
  | .non, _, h => h
  | .bl _, _, h => h
  | .int _, _, h => h
  | .str _, _, h => h
  | .tup ds, _, h => by
    obtain ⟨a, vs, e, s, r⟩ := h;exact ⟨a, vs, e, l.tup s, Iss.lt l r⟩
  | .lst ds, _, h => by
    obtain ⟨a, vs, e, s, r⟩ := h;exact ⟨a, vs, e, l.rda s, Iss.lt l r⟩
  | .ref k, _, h => ⟨Nat.lt_of_lt_of_le h.1 l.n, by rw [l.io k h.1]; exact h.2⟩
theorem Iss.lt (l : Lt P H P' H') : ∀ {ds : List D} {vs : List V}, Iss K P H ds vs -> Iss K P' H' ds vs
  | [], _, h => h
  | _ :: _, _, h => by
    obtain ⟨v, r, e, p, q⟩ := h;exact ⟨v, r, e, Is.lt l p, Iss.lt l q⟩
end
def Pl.less (P : Pl) (B : Addr -> Prop) : Pl := { P with bd := fun a => P.bd a /\ B a }
mutual
theorem Is.less {B : Addr -> Prop} : ∀ {d : D} {v : V}, Is K P H d v -> Is K (P.less B) H d v
  | .non, _, h => h
  | .bl _, _, h => h
  | .int _, _, h => h
  | .str _, _, h => h
  | .tup ds, _, h => by
    obtain ⟨a, vs, e, s, r⟩ := h;exact ⟨a, vs, e, s, Iss.less r⟩
  | .lst ds, _, h => by
    obtain ⟨a, vs, e, s, r⟩ := h;exact ⟨a, vs, e, s.imp (fun ⟨n, h⟩ => ⟨fun z => n z.1, h⟩) id, Iss.less r⟩
  | .ref k, _, h => h
theorem Iss.less {B : Addr -> Prop} : ∀ {ds : List D} {vs : List V}, Iss K P H ds vs -> Iss K (P.less B) H ds vs
  | [], _, h => h
  | _ :: _, _, h => by
    obtain ⟨v, r, e, p, q⟩ := h;exact ⟨v, r, e, Is.less p, Iss.less q⟩
end
mutual
theorem Is.free (P' : Pl) : ∀ {d : D} {v : V}, d.lf = true -> Is K P H d v -> Is K P' H d v
  | .non, _, _, h => h
  | .bl _, _, _, h => h
  | .int _, _, _, h => h
  | .str _, _, _, h => h
  | .tup ds, _, l, h => by
    obtain ⟨a, vs, e, s, r⟩ := h;exact ⟨a, vs, e, s, Iss.free P' (by simpa only [D.lf] using l) r⟩
  | .lst _, _, l, _ => by simp [D.lf] at l
  | .ref _, _, l, _ => by simp [D.lf] at l
theorem Iss.free (P' : Pl) : ∀ {ds : List D} {vs : List V}, D.lfs ds = true -> Iss K P H ds vs -> Iss K P' H ds vs
  | [], _, _, h => h
  | _ :: _, _, l, h => by
    obtain ⟨v, r, e, p, q⟩ := h;simp only [D.lfs, Bool.and_eq_true] at l;exact ⟨v, r, e, Is.free P' l.1 p, Iss.free P' l.2 q⟩
end
theorem Iss.len : ∀ {ds : List D} {vs : List V}, Iss K P H ds vs -> vs.length = ds.length
  | [], _, h => by rw [show _ = [] from h]; rfl
  | d :: ds, _, h => by
    obtain ⟨v, r, e, _, q⟩ := h;subst e
    simp [Iss.len q]
theorem Iss.get : ∀ {ds : List D} {vs : List V} {i : Nat} {d : D}, Iss K P H ds vs -> ds[i]? = some d -> ∃ v, vs[i]? = some v /\ Is K P H d v
  | [], _, _, _, _, e => by simp at e
  | d :: ds, _, 0, _, h, e => by
    obtain ⟨v, r, e', p, _⟩ := h
    simp at e
    subst e e';exact ⟨v, rfl, p⟩
  | d :: ds, _, i + 1, _, h, e => by
    obtain ⟨v, r, e', _, q⟩ := h;subst e'
    simpa using Iss.get (i := i) q (by simpa using e)
theorem Iss.append : ∀ {ds es : List D} {vs ws : List V}, Iss K P H ds vs -> Iss K P H es ws -> Iss K P H (ds ++ es) (vs ++ ws)
  | [], _, _, _, h, q => by rw [show _ = [] from h]; exact q
  | d :: ds, _, _, _, h, q => by
    obtain ⟨v, r, e, p, h⟩ := h;subst e;exact ⟨v, r ++ _, rfl, p, Iss.append h q⟩
theorem Iss.take : ∀ {ds : List D} {vs : List V} (n : Nat), Iss K P H ds vs -> Iss K P H (ds.take n) (vs.take n)
  | _, _, 0, _ => rfl
  | [], _, n + 1, h => by rw [show _ = [] from h]; rfl
  | d :: ds, _, n + 1, h => by
    obtain ⟨v, r, e, p, h⟩ := h;subst e;exact ⟨v, _, rfl, p, Iss.take n h⟩
theorem Iss.drop : ∀ {ds : List D} {vs : List V} (n : Nat), Iss K P H ds vs -> Iss K P H (ds.drop n) (vs.drop n)
  | _, _, 0, h => h
  | [], _, n + 1, h => by rw [show _ = [] from h]; rfl
  | d :: ds, _, n + 1, h => by
    obtain ⟨v, r, e, p, h⟩ := h;subst e;exact Iss.drop n h
theorem Iss.one {d : D} {v : V} (h : Is K P H d v) : Iss K P H [d] [v] := ⟨v, [], rfl, h, rfl⟩
end
def zfv (K : Fgx) (mg : Mgx) (P : Pl) (H : Hp) (a : Addr) : Cl -> Prop
 | .lst ds => ∃ vs, H a = some (.lst vs) /\ Iss K P H ds vs
 | .obj c fs => ∃ C dx gs, mg c = some (.ref C) /\ H a = some (.ins C dx gs) /\ gs.map (·.1) = fs.map (·.1) /\ Iss K P H (fs.map (·.2)) (gs.map (·.2))
 | .dct kvs => ∃ vs : List (L2.Key × V), H a = some (.dK vs) /\ vs.map (·.1) = kvs.map (·.1) /\ Iss K P H (kvs.map (·.2)) (vs.map (·.2))
structure Hk (K : Fgx) (mg : Mgx) (P : Pl) (H : Hp) (M : Mm) : Prop where
 n : P.n = M.length
 cell : ∀ (k : Nat) c, M[k]? = some c -> zfv K mg P H (P.io k) c
 inj : ∀ j k, j < P.n -> k < P.n -> P.io j = P.io k -> j = k
 bd : ∀ k, k < P.n -> P.bd (P.io k)
 here : ∀ a, P.bd a -> H a ≠ none
structure LtE (P : Pl) (H : Hp) (P' : Pl) (H' : Hp) : Prop where
 n : P.n <= P'.n
 io : ∀ k, k < P.n -> P'.io k = P.io k
 bd : ∀ a, P'.bd a -> P.bd a \/ H a = none
 bm : ∀ a, P.bd a -> P'.bd a
 keep : ∀ a o, H a = some o -> (∀ k, k < P.n -> P.io k ≠ a) -> H' a = some o
 sure : ∀ a, H' a = none -> H a = none
 nw : ∀ k, P.n <= k -> k < P'.n -> H (P'.io k) = none
section
variable {K : Fgx} {mg : Mgx} {P P' P'' : Pl} {H H' H'' : Hp} {M M' : Mm}
theorem LtE.refl (P : Pl) (H : Hp) : LtE P H P H := ⟨Nat.le_refl _, fun _ _ => rfl, fun _ z => .inl z, fun _ z => z, fun _ _ e _ => e, fun _ z => z, fun k h1 h2 => absurd h1 (Nat.not_le.mpr h2)⟩
theorem LtE.same (s : Same H H') : LtE P H P H' := ⟨Nat.le_refl _, fun _ _ => rfl, fun _ z => .inl z, fun _ z => z, fun a o e _ => s a o e, fun a z => s.free z, fun k h1 h2 => absurd h1 (Nat.not_le.mpr h2)⟩
theorem Hk.cellAt (h : Hk K mg P H M) {k : Nat} (hk : k < P.n) : ∃ o, H (P.io k) = some o /\ ¬ Fx o := by
  obtain ⟨c, hc⟩ : ∃ c, M[k]? = some c := ⟨_, List.getElem?_eq_getElem (by rw [<- h.n]; exact hk)⟩;have := h.cell k c hc
  cases c with
  | lst ds =>
    obtain ⟨vs, e, _⟩ := this;exact ⟨_, e, fun z => by rcases z with ⟨_, z⟩ | ⟨_, _, z⟩ | ⟨_, z⟩ | ⟨_, z⟩ <;> cases z⟩
  | obj c fs =>
    obtain ⟨C, dx, gs, _, e, _⟩ := this;exact ⟨_, e, fun z => by rcases z with ⟨_, z⟩ | ⟨_, _, z⟩ | ⟨_, z⟩ | ⟨_, z⟩ <;> cases z⟩
  | dct kvs =>
    obtain ⟨vs, e, _⟩ := this;exact ⟨_, e, fun z => by rcases z with ⟨_, z⟩ | ⟨_, _, z⟩ | ⟨_, z⟩ | ⟨_, z⟩ <;> cases z⟩
theorem LtE.lt (l : LtE P H P' H') (h : Hk K mg P H M) : Lt P H P' H' where
 n := l.n
 io := l.io
 bd := l.bd
 sure := l.sure
 keep := fun a o e z => l.keep a o e fun k hk q => by
  subst q;rcases z with z | z
  ·obtain ⟨o', e', nf⟩ := h.cellAt hk;rw [e] at e';cases e';exact nf z
  ·exact z (h.bd k hk)
theorem LtE.trans (l : LtE P H P' H') (m : LtE P' H' P'' H'') : LtE P H P'' H'' where
 n := Nat.le_trans l.n m.n
 io := fun k h => (m.io k (Nat.lt_of_lt_of_le h l.n)).trans (l.io k h)
 bd := fun a z => (m.bd a z).elim (l.bd a) fun z => .inr (l.sure a z)
 bm := fun a z => m.bm a (l.bm a z)
 keep := fun a o e h => m.keep a o (l.keep a o e h) fun k hk q => by
  rcases Nat.lt_or_ge k P.n with z | z
  ·rw [l.io k z] at q;exact h k z q
  ·rw [<- q, l.nw k z hk] at e;cases e
 sure := fun a z => l.sure a (m.sure a z)
 nw := fun k h1 h2 => by
  rcases Nat.lt_or_ge k P'.n with z | z
  ·rw [m.io k z];exact l.nw k h1 z
  ·exact l.sure _ (m.nw k z h2)
end
inductive Cp where
 | eq | ne | lt | le | gt | ge | isin | notin | same | other
mutual
def D.eq : D -> D -> Bool
 | .non, .non => true
 | .bl a, .bl b => a == b
 | .bl a, .int b => (if a then 1 else 0) == b
 | .int a, .bl b => a == (if b then 1 else 0)
 | .int a, .int b => a == b
 | .str a, .str b => a == b
 | .tup a, .tup b => D.eqs a b
 | .lst a, .lst b => D.eqs a b
 | .ref a, .ref b => a == b
 | _, _ => false
def D.eqs : List D -> List D -> Bool
 | [], [] => true
 | a :: as, b :: bs => D.eq a b && D.eqs as bs
 | _, _ => false
end
mutual
def D.dep : D -> Nat
 | .tup xs => D.deps xs + 1
 | .lst xs => D.deps xs + 1
 | .ref _ => 101
 | _ => 0
def D.deps : List D -> Nat
 | [] => 0
 | a :: as => max (D.dep a) (D.deps as)
end
def D.flat : D -> Bool
 | .tup _ => false
 | .lst _ => false
 | .ref _ => false
 | _ => true
def zgm (i j : Str) : Bool := !(Builtin.Str.occurrences j i 0 j.length 1).isEmpty
def eqOk (a b : D) : Bool := a.flat == b.flat && decide (b.dep <= 50)
def cEq (a b : D) : Option Bool := if eqOk a b = true /\ a.dep <= 50 then some (D.eq a b) else none
def cNe (a b : D) : Option Bool := if eqOk a b = true /\ a.dep <= 50 then some (!D.eq a b) else none
def cOrd (f : Int -> Int -> Bool) (a b : D) : Option Bool := match a with
 | .int i => (match b with | .int j => some (f i j) | _ => none)
 | _ => none
def cIn (a b : D) : Option Bool := match b with
 | .str j => (match a with | .str i => some (zgm i j) | _ => none)
 | .lst xs => if (a.flat && xs.all D.flat) = true then some (xs.any fun y => D.eq y a) else none
 | .tup xs => if (a.flat && xs.all D.flat) = true then some (xs.any fun y => D.eq y a) else none
 | _ => none
def cNin (a b : D) : Option Bool := match b with
 | .str j => (match a with | .str i => some (!zgm i j) | _ => none)
 | .lst xs => if (a.flat && xs.all D.flat) = true then some (!xs.any fun y => D.eq y a) else none
 | .tup xs => if (a.flat && xs.all D.flat) = true then some (!xs.any fun y => D.eq y a) else none
 | _ => none
def zib (a b : D) : Option Bool := match b with
 | .bl b => (match a with | .bl a => some (a == b) | _ => some false)
 | .non => (match a with | .non => some true | _ => some false)
 | _ => none
def ze9 (a b : D) : Option Bool := match b with
 | .bl b => (match a with | .bl a => some (!(a == b)) | _ => some true)
 | .non => (match a with | .non => some false | _ => some true)
 | _ => none
def cmpD (c : Cp) (a b : D) : Option Bool := match c with
 | .eq => cEq a b
 | .ne => cNe a b
 | .lt => cOrd (fun i j => decide (i < j)) a b
 | .le => cOrd (fun i j => decide (i <= j)) a b
 | .gt => cOrd (fun i j => decide (j < i)) a b
 | .ge => cOrd (fun i j => decide (j <= i)) a b
 | .isin => cIn a b
 | .notin => cNin a b
 | .same => zib a b
 | .other => ze9 a b
def IsB (K : Fgx) (P : Pl) (H : Hp) : D -> V -> Prop
 | .lst ds, v => ∃ a vs, v = .ref a /\ RdK K P H a vs /\ Iss K P H ds vs
 | d, v => Is K P H d v
section
variable {X : Cx} {pins : Pnx} {σ : L2.St} {H : Hp} {s : Shared}
theorem zty {K : Fgx} {P : Pl} {a : Addr} {xs : List V} (h : RdK K P H a xs) : SqL K H a xs := h.imp (·.2) id
def IsW (K : Fgx) (P : Pl) (H : Hp) : D -> V -> Prop
 | .lst ds, v => ∃ a vs, v = .ref a /\ SqL K H a vs /\ Iss K P H ds vs
 | d, v => Is K P H d v
theorem IsB.w {K : Fgx} {P : Pl} {d : D} {v : V} (h : IsB K P H d v) : IsW K P H d v := by
 cases d <;> first | exact h | (obtain ⟨a, vs, e, r, q⟩ := h; exact ⟨a, vs, e, zty r, q⟩)
theorem Is.w {K : Fgx} {P : Pl} {d : D} {v : V} (h : Is K P H d v) : IsW K P H d v := by
 cases d <;> first | exact h | (obtain ⟨a, vs, e, r, q⟩ := h; exact ⟨a, vs, e, r.imp (·.2) id, q⟩)
theorem sql {l : Addr} {xs : List V} (I : Inv X pins σ H s) (h : SqL X.K H l xs) : xs.length <= sizeLine /\ ∃ its : List Value, Vals xs its /\ s.heap.IsList l its.toArray := by
 obtain ⟨its, r, p, z⟩ := I.list h;exact ⟨z, its, r, p.isList⟩
mutual
theorem Is.inj (I : Inv X pins σ H s) {A B : Pl} : ∀ (d e : D) (v : V), IsW X.K A H d v -> IsW X.K B H e v -> d.dep <= 100 -> e.dep <= 100 -> d = e
  | .ref _, e, v, h, h', hd, he => by simp [D.dep] at hd
  | .non, e, v, h, h', hd, he => by
    have hv : v = .non := h;subst hv;cases e <;> first | (simp [D.dep] at he; done) | (simp [IsW, Is] at h' <;> rfl)
  | .bl b, e, v, h, h', hd, he => by
    have hv : v = .bl b := h;subst hv;cases e <;> first | (simp [D.dep] at he; done) | (simp [IsW, Is] at h' <;> simp [h'])
  | .int b, e, v, h, h', hd, he => by
    have hv : v = .int b := h;subst hv;cases e <;> first | (simp [D.dep] at he; done) | (simp [IsW, Is] at h' <;> simp [h'])
  | .str b, e, v, h, h', hd, he => by
    have hv : v = .str b := h;subst hv;cases e <;> first | (simp [D.dep] at he; done) | (simp [IsW, Is] at h' <;> simp [h'])
  | .tup ds, e, v, h, h', hd, he => by
    simp only [D.dep] at hd;simp only [IsW, Is] at h;obtain ⟨a, vs, rfl, t, r⟩ := h
    cases e with
    | tup es =>
      simp only [IsW, Is] at h';obtain ⟨b, ws, e1, t', r'⟩ := h';cases e1;have e2 := I.tuple_inj t t';subst e2;simp only [D.dep] at he;rw [Iss.inj I ds es vs r r' (by omega) (by omega)]
    | lst es =>
      obtain ⟨b, ws, e1, t', r'⟩ := h';cases e1;obtain ⟨_, its, _, o2, e2, c2, _⟩ := sql I t';obtain ⟨its2, _, ⟨o, e3, c3, _⟩, _⟩ := I.tuple t;rw [e2] at e3;cases e3;rw [c2] at c3;exact absurd c3 (by simp)
    | ref _ => simp [D.dep] at he
    | _ => simp [IsW, Is] at h'
  | .lst ds, e, v, h, h', hd, he => by
    simp only [D.dep] at hd;obtain ⟨a, vs, rfl, t, r⟩ := h
    cases e with
    | lst es =>
      obtain ⟨b, ws, e1, t', r'⟩ := h';cases e1;have e2 := I.list_inj (t) (t');subst e2;simp only [D.dep] at he;rw [Iss.inj I ds es vs r r' (by omega) (by omega)]
    | tup es =>
      simp only [IsW, Is] at h';obtain ⟨b, ws, e1, t', r'⟩ := h';cases e1;obtain ⟨_, its, _, o2, e2, c2, _⟩ := sql I t;obtain ⟨its2, _, ⟨o, e3, c3, _⟩, _⟩ := I.tuple t';rw [e2] at e3;cases e3;rw [c2] at c3;exact absurd c3 (by simp)
    | ref _ => simp [D.dep] at he
    | _ => simp [IsW, Is] at h'
theorem Iss.inj (I : Inv X pins σ H s) {A B : Pl} : ∀ (ds es : List D) (vs : List V), Iss X.K A H ds vs -> Iss X.K B H es vs -> D.deps ds <= 100 -> D.deps es <= 100 -> ds = es
  | [], es, vs, h, h', hd, he => by
    have hv : vs = [] := h;subst hv
    cases es with
    | nil => rfl
    | cons => simp [Iss] at h'
  | d :: ds, es, vs, h, h', hd, he => by
    simp only [D.deps] at hd;obtain ⟨v, r, rfl, p, q⟩ := h
    cases es with
    | nil => simp [Iss] at h'
    | cons e es =>
      obtain ⟨v', r', e1, p', q'⟩ := h';cases e1;simp only [D.deps] at he;rw [Is.inj I d e v p.w p'.w (by omega) (by omega), Iss.inj I ds es r q q' (by omega) (by omega)]
end
mutual
theorem D.eq_refl : ∀ d : D, D.eq d d = true
 | .non => rfl
 | .bl b => by simp [D.eq]
 | .int b => by simp [D.eq]
 | .str b => by simp [D.eq]
 | .tup ds => by simp only [D.eq]; exact D.eqs_refl ds
 | .lst ds => by simp only [D.eq]; exact D.eqs_refl ds
 | .ref n => by simp [D.eq]
theorem D.eqs_refl : ∀ d : List D, D.eqs d d = true
 | [] => rfl
 | d :: ds => by simp only [D.eqs, D.eq_refl d, D.eqs_refl ds, Bool.and_self]
end
theorem D.eqs_len : ∀ (ds es : List D), ds.length ≠ es.length -> D.eqs ds es = false
  | [], [], h => absurd rfl h
  | [], _ :: _, _ => rfl
  | _ :: _, [], _ => rfl
  | d :: ds, e :: es, h => by
    simp only [D.eqs, D.eqs_len ds es (by simpa using h), Bool.and_false]
theorem D.eqs_all : ∀ (ds es : List D), ds.length = es.length -> D.eqs ds es = (List.range ds.length).all fun j => D.eq (ds.getD j .non) (es.getD j .non)
  | [], [], _ => rfl
  | d :: ds, e :: es, h => by
    rw [D.eqs, D.eqs_all ds es (by simpa using h), List.length_cons, List.range_succ_eq_map, List.all_cons, List.all_map];rfl
mutual
theorem eqAt (I : Inv X pins σ H s) {A B : Pl} {Ar : Around} : ∀ (d e : D) (v w : V) (u u' : Value), IsW X.K A H d v -> IsW X.K B H e w -> RelV v u -> RelV w u' -> Ar.units + d.dep < cLine -> d.dep <= 100 -> e.dep <= 100 -> SeqAt.EqAt Ar s u u' (D.eq d e)
  | .ref _, e, v, w, u, u', h1, h2, r1, r2, hu, hd, he => by simp [D.dep] at hd
  | .non, e, v, w, u, u', h1, h2, r1, r2, hu, hd, he => by
    have hv : v = .non := h1;subst hv;cases r1;have hu' : Ar.units < cLine := by omega
    cases e with
    | ref _ => simp [D.dep] at he
    | non => have hw : w = .non := h2; subst hw; cases r2; exact SeqAt.EqAt.same _
    | bl b => have hw : w = .bl b := h2; subst hw; cases r2; exact SeqAt.EqAt.none_bool _
    | int b => have hw : w = .int b := h2; subst hw; obtain ⟨t, rfl⟩ := r2; exact SeqAt.EqAt.none_int _ _
    | str b => have hw : w = .str b := h2; subst hw; obtain ⟨t, rfl⟩ := r2; exact SeqAt.EqAt.none_str _ _
    | tup es => obtain ⟨a, vs, rfl, t, _⟩ := h2; cases r2; obtain ⟨its, _, p, _⟩ := I.tuple t; exact SeqAt.EqAt.none_tuple p hu'
    | lst es => obtain ⟨a, vs, rfl, t, _⟩ := h2; cases r2; obtain ⟨_, its, _, p⟩ := sql I t; exact SeqAt.EqAt.none_list p hu'
  | .bl x, e, v, w, u, u', h1, h2, r1, r2, hu, hd, he => by
    have hv : v = .bl x := h1;subst hv;cases r1;have hu' : Ar.units < cLine := by omega
    cases e with
    | ref _ => simp [D.dep] at he
    | non => have hw : w = .non := h2; subst hw; cases r2; exact SeqAt.EqAt.bool_none _
    | bl b => have hw : w = .bl b := h2; subst hw; cases r2; exact SeqAt.EqAt.bool_bool _ _
    | int b => have hw : w = .int b := h2; subst hw; obtain ⟨t, rfl⟩ := r2; exact SeqAt.EqAt.bool_int _ _ _
    | str b => have hw : w = .str b := h2; subst hw; obtain ⟨t, rfl⟩ := r2; exact SeqAt.EqAt.bool_str _ _ _
    | tup es => obtain ⟨a, vs, rfl, t, _⟩ := h2; cases r2; obtain ⟨its, _, p, _⟩ := I.tuple t; exact SeqAt.EqAt.bool_tuple _ p hu'
    | lst es => obtain ⟨a, vs, rfl, t, _⟩ := h2; cases r2; obtain ⟨_, its, _, p⟩ := sql I t; exact SeqAt.EqAt.bool_list _ p hu'
  | .int x, e, v, w, u, u', h1, h2, r1, r2, hu, hd, he => by
    have hv : v = .int x := h1;subst hv;obtain ⟨t0, rfl⟩ := r1;have hu' : Ar.units < cLine := by omega
    cases e with
    | ref _ => simp [D.dep] at he
    | non => have hw : w = .non := h2; subst hw; cases r2; exact SeqAt.EqAt.int_none _ _
    | bl b => have hw : w = .bl b := h2; subst hw; cases r2; exact SeqAt.EqAt.int_bool _ _ _
    | int b => have hw : w = .int b := h2; subst hw; obtain ⟨t, rfl⟩ := r2; exact SeqAt.EqAt.int_int _ _ _ _
    | str b => have hw : w = .str b := h2; subst hw; obtain ⟨t, rfl⟩ := r2; exact SeqAt.EqAt.int_str _ _ _ _
    | tup es => obtain ⟨a, vs, rfl, t, _⟩ := h2; cases r2; obtain ⟨its, _, p, _⟩ := I.tuple t; exact SeqAt.EqAt.int_tuple _ _ p hu'
    | lst es => obtain ⟨a, vs, rfl, t, _⟩ := h2; cases r2; obtain ⟨_, its, _, p⟩ := sql I t; exact SeqAt.EqAt.int_list _ _ p hu'
  | .str x, e, v, w, u, u', h1, h2, r1, r2, hu, hd, he => by
    have hv : v = .str x := h1;subst hv;obtain ⟨t0, rfl⟩ := r1;have hu' : Ar.units < cLine := by omega
    cases e with
    | ref _ => simp [D.dep] at he
    | non => have hw : w = .non := h2; subst hw; cases r2; exact SeqAt.EqAt.str_none _ _
    | bl b => have hw : w = .bl b := h2; subst hw; cases r2; exact SeqAt.EqAt.str_bool _ _ _
    | int b => have hw : w = .int b := h2; subst hw; obtain ⟨t, rfl⟩ := r2; exact SeqAt.EqAt.str_int _ _ _ _
    | str b => have hw : w = .str b := h2; subst hw; obtain ⟨t, rfl⟩ := r2; exact SeqAt.EqAt.str_str _ _ _ _
    | tup es => obtain ⟨a, vs, rfl, t, _⟩ := h2; cases r2; obtain ⟨its, _, p, _⟩ := I.tuple t; exact SeqAt.EqAt.str_tuple _ _ p hu'
    | lst es => obtain ⟨a, vs, rfl, t, _⟩ := h2; cases r2; obtain ⟨_, its, _, p⟩ := sql I t; exact SeqAt.EqAt.str_list _ _ p hu'
  | .tup ds, e, v, w, u, u', h1, h2, r1, r2, hu, hd, he => by
    have h1' := h1;have hd' := hd;simp only [D.dep] at hu hd;have hu' : Ar.units < cLine := by omega
    obtain ⟨a, vs, rfl, t, q⟩ := h1;cases r1;obtain ⟨its, rv, p, hz⟩ := I.tuple t
    cases e with
    | ref _ => simp [D.dep] at he
    | non => have hw : w = .non := h2; subst hw; cases r2; exact SeqAt.EqAt.tuple_none p hu'
    | bl b => have hw : w = .bl b := h2; subst hw; cases r2; exact SeqAt.EqAt.tuple_bool _ p hu'
    | int b => have hw : w = .int b := h2; subst hw; obtain ⟨t, rfl⟩ := r2; exact SeqAt.EqAt.tuple_int _ _ p hu'
    | str b => have hw : w = .str b := h2; subst hw; obtain ⟨t, rfl⟩ := r2; exact SeqAt.EqAt.tuple_str _ _ p hu'
    | tup es =>
      have h2' := h2;have he' := he;simp only [D.dep] at he;obtain ⟨b, ws, rfl, t', q'⟩ := h2;cases r2
      by_cases hab : a = b
      · subst hab;rw [Is.inj I _ _ _ h1' h2' hd' he', D.eq_refl];exact SeqAt.EqAt.same _
      · obtain ⟨its', rv', p', hz'⟩ := I.tuple t';refine SeqAt.EqAt.of_refs hab ?_;have l1 : its.toArray.size = ds.length := by rw [List.size_toArray, <- rv.length, q.len]
        have l2 : its'.toArray.size = es.length := by rw [List.size_toArray, <- rv'.length, q'.len]
        have key := SeqAt.RcAt.tuples (A := Ar) (s := s) (e := fun j => D.eq (ds.getD j .non) (es.getD j .non)) p p' hu' fun j j1 j2 => by
          simpa using ziQ I ds es vs ws its its' q q' rv rv' (Ar := Ar.in1) (by show Ar.units + 1 + _ < _; omega) (by omega) (by omega) j (by simpa using j1) (by simpa using j2)
        rw [l1, l2] at key
        by_cases hl : ds.length = es.length
        · rw [show D.eq (.tup ds) (.tup es) = D.eqs ds es from rfl, D.eqs_all ds es hl];rw [hl, Nat.min_self, beq_self_eq_true, Bool.and_true] at key;rw [hl];exact key
        · rw [show D.eq (.tup ds) (.tup es) = D.eqs ds es from rfl, D.eqs_len ds es hl];rw [beq_eq_false_iff_ne.mpr hl, Bool.and_false] at key;exact key
    | lst es => obtain ⟨b, ws, rfl, t', _⟩ := h2; cases r2; obtain ⟨_, its', _, p'⟩ := sql I t'; exact SeqAt.EqAt.tuple_list p p' hu'
  | .lst ds, e, v, w, u, u', h1, h2, r1, r2, hu, hd, he => by
    have h1' := h1;have hd' := hd;simp only [D.dep] at hu hd;have hu' : Ar.units < cLine := by omega
    obtain ⟨a, vs, rfl, t, q⟩ := h1;cases r1;obtain ⟨hz, its, rv, p⟩ := sql I t
    cases e with
    | ref _ => simp [D.dep] at he
    | non => have hw : w = .non := h2; subst hw; cases r2; exact SeqAt.EqAt.list_none p hu'
    | bl b => have hw : w = .bl b := h2; subst hw; cases r2; exact SeqAt.EqAt.list_bool _ p hu'
    | int b => have hw : w = .int b := h2; subst hw; obtain ⟨t, rfl⟩ := r2; exact SeqAt.EqAt.list_int _ _ p hu'
    | str b => have hw : w = .str b := h2; subst hw; obtain ⟨t, rfl⟩ := r2; exact SeqAt.EqAt.list_str _ _ p hu'
    | tup es => obtain ⟨b, ws, rfl, t', _⟩ := h2; cases r2; obtain ⟨its', _, p', _⟩ := I.tuple t'; exact SeqAt.EqAt.list_tuple p p' hu'
    | lst es =>
      have h2' := h2;have he' := he;simp only [D.dep] at he;obtain ⟨b, ws, rfl, t', q'⟩ := h2;cases r2
      by_cases hab : a = b
      · subst hab;rw [Is.inj I _ _ _ h1' h2' hd' he', D.eq_refl];exact SeqAt.EqAt.same _
      · obtain ⟨hz', its', rv', p'⟩ := sql I t';refine SeqAt.EqAt.of_refs hab ?_;have l1 : its.toArray.size = ds.length := by rw [List.size_toArray, <- rv.length, q.len]
        have l2 : its'.toArray.size = es.length := by rw [List.size_toArray, <- rv'.length, q'.len]
        by_cases hl : ds.length = es.length
        · have key := SeqAt.RcAt.lists (A := Ar) (s := s) (e := fun j => D.eq (ds.getD j .non) (es.getD j .non)) p p' (by rw [l1, l2, hl]) hu' fun j j1 j2 => by
            simpa using ziQ I ds es vs ws its its' q q' rv rv' (Ar := Ar.in1) (by show Ar.units + 1 + _ < _; omega) (by omega) (by omega) j (by simpa using j1) (by simpa using j2)
          rw [show D.eq (.lst ds) (.lst es) = D.eqs ds es from rfl, D.eqs_all ds es hl];rw [l1] at key;exact key
        · rw [show D.eq (.lst ds) (.lst es) = D.eqs ds es from rfl, D.eqs_len ds es hl];exact SeqAt.RcAt.lists_lengths p p' (by rw [l1, l2]; simpa using hl) hu'
theorem ziQ (I : Inv X pins σ H s) {A B : Pl} {Ar : Around} : ∀ (ds es : List D) (vs ws : List V) (its its' : List Value), Iss X.K A H ds vs -> Iss X.K B H es ws -> Vals vs its -> Vals ws its' -> Ar.units + D.deps ds < cLine -> D.deps ds <= 100 -> D.deps es <= 100 ->
    ∀ (j : Nat) (h1 : j < its.length) (h2 : j < its'.length), SeqAt.EqAt Ar s its[j] its'[j] (D.eq (ds.getD j .non) (es.getD j .non))
  | [], es, vs, ws, its, its', h, h', r, r', hu, hd, he, j, j1, j2 => by
    have hv : vs = [] := h;subst hv;cases r;exact absurd j1 (Nat.not_lt_zero _)
  | d :: ds, [], vs, ws, its, its', h, h', r, r', hu, hd, he, j, j1, j2 => by
    have hv : ws = [] := h';subst hv;cases r';exact absurd j2 (Nat.not_lt_zero _)
  | d :: ds, e :: es, vs, ws, its, its', h, h', r, r', hu, hd, he, j, j1, j2 => by
    obtain ⟨v, vr, rfl, p, q⟩ := h;obtain ⟨w, wr, rfl, p', q'⟩ := h';simp only [D.deps] at hu hd he
    cases r with
    | cons r1 r2 =>
      cases r' with
      | cons r1' r2' =>
        cases j with
        | zero => exact eqAt I d e v w _ _ p.w p'.w r1 r1' (by omega) (by omega) (by omega)
        | succ j => exact ziQ I ds es vr wr _ _ q q' r2 r2' (by omega) (by omega) (by omega) j (by simpa using j1) (by simpa using j2)
end
theorem zhE {d e : D} {A B : Pl} {K : Fgx} {v w : V} (fd : d.flat = true) (fe : e.flat = true) (h1 : IsW K A H d v) (h2 : IsW K B H e w) :
  (scal v w = true /\ D.eq d e = decide (v = w)) \/ (∃ a i, v = .bl a /\ w = .int i /\ D.eq d e = ((if a then 1 else 0) == i)) \/ ∃ a i, v = .int i /\ w = .bl a /\ D.eq d e = (i == (if a then 1 else 0)) := by
 cases d <;> cases e <;> simp only [D.flat, Bool.false_eq_true] at fd fe <;> simp only [IsW, Is] at h1 h2 <;> subst h1 h2 <;> simp [scal, D.eq]
 all_goals first | rfl | (rw [Bool.eq_iff_iff]; simp)
def rEqD (K : Fgx) (neg : Bool) : R2 := fun x y H Q => ∃ (A B : Pl) (d e : D), IsW K A H d x /\ IsW K B H e y /\ eqOk d e = true /\ d.dep <= 50 /\ Q (.bl (if neg then !D.eq d e else D.eq d e)) H
theorem zrf (hu : X.A.units + 60 < cLine) : OpR X (compareOp .Eq) (rEqD X.K false) := by
  intro pins s σ H x y v u Q I rx ry h;obtain ⟨A, B, d, e, h1, h2, hk, hd, q⟩ := h;have q : Q (.bl (D.eq d e)) H := q;have fin : SeqAt.RcAt X.A s v u (D.eq d e) -> wpAny (model X.prog X.w) X.A (compareOp .Eq v u) (EP X pins σ Q) X.xe s := fun r => EqBoolInt.of_rc r ⟨.bl _, H, I, rfl, q⟩;have hu' : X.A.units < cLine := by omega
  cases fd : d.flat with
  | true =>
    simp only [eqOk, Bool.and_eq_true, decide_eq_true_eq, beq_iff_eq] at hk;have fe : e.flat = true := hk.1.symm.trans fd;rcases zhE fd fe h1 h2 with ⟨sc, eq⟩ | ⟨a, i, rfl, rfl, eq⟩ | ⟨a, i, rfl, rfl, eq⟩
    · exact ztt pins s σ H x y v u Q I rx ry ⟨sc, by rw [<- eq]; exact q⟩
    · cases rx;obtain ⟨t, rfl⟩ := ry;exact EqBoolInt.eq_bool_int ⟨.bl _, H, I, rfl, by rw [<- eq]; exact q⟩
    · cases ry;obtain ⟨t, rfl⟩ := rx;exact EqBoolInt.eq_int_bool ⟨.bl _, H, I, rfl, by rw [<- eq]; exact q⟩
  | false =>
    simp only [eqOk, Bool.and_eq_true, decide_eq_true_eq, beq_iff_eq] at hk;have he := hk.2;have fe : e.flat = false := hk.1.symm.trans fd
    cases d with
    | tup ds =>
      obtain ⟨a, vs, rfl, t, p⟩ := h1;cases rx;obtain ⟨its, rv, pt, hz⟩ := I.tuple t;simp only [D.dep] at hd
      cases e with
      | tup es =>
        obtain ⟨b, ws, rfl, t', p'⟩ := h2;cases ry;obtain ⟨its', rv', pt', hz'⟩ := I.tuple t';have l1 : its.toArray.size = ds.length := by rw [List.size_toArray, <- rv.length, p.len]
        have l2 : its'.toArray.size = es.length := by rw [List.size_toArray, <- rv'.length, p'.len]
        have key := SeqAt.RcAt.tuples (A := X.A) (s := s) (e := fun j => D.eq (ds.getD j .non) (es.getD j .non)) pt pt' hu' fun j j1 j2 => by
          simpa using ziQ I ds es vs ws its its' p p' rv rv' (Ar := X.A.in1) (by show X.A.units + 1 + _ < _; omega) (by omega) (by simp only [D.dep] at he; omega) j (by simpa using j1) (by simpa using j2)
        rw [l1, l2] at key;refine fin ?_
        by_cases hl : ds.length = es.length
        · rw [show D.eq (.tup ds) (.tup es) = D.eqs ds es from rfl, D.eqs_all ds es hl];rw [hl, Nat.min_self, beq_self_eq_true, Bool.and_true] at key;rw [hl];exact key
        · rw [show D.eq (.tup ds) (.tup es) = D.eqs ds es from rfl, D.eqs_len ds es hl];rw [beq_eq_false_iff_ne.mpr hl, Bool.and_false] at key;exact key
      | lst es =>
        obtain ⟨b, ws, rfl, t', p'⟩ := h2;cases ry;obtain ⟨_, its', rv', e'⟩ := sql I t';exact fin (SeqAt.RcAt.tuple_list pt e' hu')
      | ref _ => simp [D.dep] at he
      | _ => cases fe
    | lst ds =>
      obtain ⟨a, vs, rfl, t, p⟩ := h1;cases rx;obtain ⟨hz, its, rv, pt⟩ := sql I t;simp only [D.dep] at hd
      cases e with
      | tup es =>
        obtain ⟨b, ws, rfl, t', p'⟩ := h2;cases ry;obtain ⟨its', rv', pt', hz'⟩ := I.tuple t';exact fin (SeqAt.RcAt.list_tuple pt pt' hu')
      | lst es =>
        obtain ⟨b, ws, rfl, t', p'⟩ := h2;cases ry;obtain ⟨_, its', rv', pt'⟩ := sql I t';have l1 : its.toArray.size = ds.length := by rw [List.size_toArray, <- rv.length, p.len]
        have l2 : its'.toArray.size = es.length := by rw [List.size_toArray, <- rv'.length, p'.len]
        refine fin ?_
        by_cases hl : ds.length = es.length
        · have key := SeqAt.RcAt.lists (A := X.A) (s := s) (e := fun j => D.eq (ds.getD j .non) (es.getD j .non)) pt pt' (by rw [l1, l2, hl]) hu' fun j j1 j2 => by
            simpa using ziQ I ds es vs ws its its' p p' rv rv' (Ar := X.A.in1) (by show X.A.units + 1 + _ < _; omega) (by omega) (by simp only [D.dep] at he; omega) j (by simpa using j1) (by simpa using j2)
          rw [show D.eq (.lst ds) (.lst es) = D.eqs ds es from rfl, D.eqs_all ds es hl];rw [l1] at key;exact key
        · rw [show D.eq (.lst ds) (.lst es) = D.eqs ds es from rfl, D.eqs_len ds es hl];exact SeqAt.RcAt.lists_lengths pt pt' (by rw [l1, l2]; simpa using hl) hu'
      | ref _ => simp [D.dep] at he
      | _ => cases fe
    | ref _ => simp [D.dep] at hd
    | _ => cases fd
theorem zqX (hu : X.A.units + 60 < cLine) : OpR X (compareOp .NotEq) (rEqD X.K true) := by
  intro pins s σ H x y v u Q I rx ry h;obtain ⟨A, B, d, e, h1, h2, hk, hd, q⟩ := h;have q : Q (.bl (!D.eq d e)) H := q;have fin : SeqAt.RcNeAt X.A s v u (!D.eq d e) -> wpAny (model X.prog X.w) X.A (compareOp .NotEq v u) (EP X pins σ Q) X.xe s := fun r => EqBoolInt.of_rcne r ⟨.bl _, H, I, rfl, q⟩;have hu' : X.A.units < cLine := by omega
  cases fd : d.flat with
  | true =>
    simp only [eqOk, Bool.and_eq_true, decide_eq_true_eq, beq_iff_eq] at hk;have fe : e.flat = true := hk.1.symm.trans fd;rcases zhE fd fe h1 h2 with ⟨sc, eq⟩ | ⟨a, i, rfl, rfl, eq⟩ | ⟨a, i, rfl, rfl, eq⟩
    · exact ztj pins s σ H x y v u Q I rx ry ⟨sc, by rw [<- eq]; exact q⟩
    · cases rx;obtain ⟨t, rfl⟩ := ry;exact EqBoolInt.ne_bool_int ⟨.bl _, H, I, rfl, by rw [<- eq]; exact q⟩
    · cases ry;obtain ⟨t, rfl⟩ := rx;exact EqBoolInt.ne_int_bool ⟨.bl _, H, I, rfl, by rw [<- eq]; exact q⟩
  | false =>
    simp only [eqOk, Bool.and_eq_true, decide_eq_true_eq, beq_iff_eq] at hk;have he := hk.2;have fe : e.flat = false := hk.1.symm.trans fd
    cases d with
    | tup ds =>
      obtain ⟨a, vs, rfl, t, p⟩ := h1;cases rx;obtain ⟨its, rv, pt, hz⟩ := I.tuple t;simp only [D.dep] at hd
      cases e with
      | tup es =>
        obtain ⟨b, ws, rfl, t', p'⟩ := h2;cases ry;obtain ⟨its', rv', pt', hz'⟩ := I.tuple t';have l1 : its.toArray.size = ds.length := by rw [List.size_toArray, <- rv.length, p.len]
        have l2 : its'.toArray.size = es.length := by rw [List.size_toArray, <- rv'.length, p'.len]
        have key := SeqAt.RcNeAt.tuples (A := X.A) (s := s) (e := fun j => D.eq (ds.getD j .non) (es.getD j .non)) pt pt' hu' fun j j1 j2 => by
          simpa using ziQ I ds es vs ws its its' p p' rv rv' (Ar := X.A.in1) (by show X.A.units + 1 + _ < _; omega) (by omega) (by simp only [D.dep] at he; omega) j (by simpa using j1) (by simpa using j2)
        rw [l1, l2] at key;refine fin ?_
        by_cases hl : ds.length = es.length
        · rw [show D.eq (.tup ds) (.tup es) = D.eqs ds es from rfl, D.eqs_all ds es hl];rw [hl, Nat.min_self, beq_self_eq_true, Bool.and_true] at key;rw [hl];exact key
        · rw [show D.eq (.tup ds) (.tup es) = D.eqs ds es from rfl, D.eqs_len ds es hl];rw [beq_eq_false_iff_ne.mpr hl, Bool.and_false] at key;exact key
      | lst es =>
        obtain ⟨b, ws, rfl, t', p'⟩ := h2;cases ry;obtain ⟨_, its', rv', e'⟩ := sql I t';exact fin (SeqAt.RcNeAt.tuple_list pt e' hu')
      | ref _ => simp [D.dep] at he
      | _ => cases fe
    | lst ds =>
      obtain ⟨a, vs, rfl, t, p⟩ := h1;cases rx;obtain ⟨hz, its, rv, pt⟩ := sql I t;simp only [D.dep] at hd
      cases e with
      | tup es =>
        obtain ⟨b, ws, rfl, t', p'⟩ := h2;cases ry;obtain ⟨its', rv', pt', hz'⟩ := I.tuple t';exact fin (SeqAt.RcNeAt.list_tuple pt pt' hu')
      | lst es =>
        obtain ⟨b, ws, rfl, t', p'⟩ := h2;cases ry;obtain ⟨_, its', rv', pt'⟩ := sql I t';have l1 : its.toArray.size = ds.length := by rw [List.size_toArray, <- rv.length, p.len]
        have l2 : its'.toArray.size = es.length := by rw [List.size_toArray, <- rv'.length, p'.len]
        refine fin ?_
        by_cases hl : ds.length = es.length
        · have key := SeqAt.RcNeAt.lists (A := X.A) (s := s) (e := fun j => D.eq (ds.getD j .non) (es.getD j .non)) pt pt' (by rw [l1, l2, hl]) hu' fun j j1 j2 => by
            simpa using ziQ I ds es vs ws its its' p p' rv rv' (Ar := X.A.in1) (by show X.A.units + 1 + _ < _; omega) (by omega) (by simp only [D.dep] at he; omega) j (by simpa using j1) (by simpa using j2)
          rw [show D.eq (.lst ds) (.lst es) = D.eqs ds es from rfl, D.eqs_all ds es hl];rw [l1] at key;exact key
        · rw [show D.eq (.lst ds) (.lst es) = D.eqs ds es from rfl, D.eqs_len ds es hl];exact SeqAt.RcNeAt.lists_lengths pt pt' (by rw [l1, l2]; simpa using hl) hu'
      | ref _ => simp [D.dep] at he
      | _ => cases fe
    | ref _ => simp [D.dep] at hd
    | _ => cases fd
def cpP : Cp -> CmpOp
 | .eq => .Eq
 | .ne => .NotEq
 | .lt => .Lt
 | .le => .LtE
 | .gt => .Gt
 | .ge => .GtE
 | .isin => .In
 | .notin => .NotIn
 | .same => .Is
 | .other => .IsNot
def rCp (K : Fgx) : Cp -> R2
 | .eq => rEqD K false
 | .ne => rEqD K true
 | .lt => rI0 fun i j => .bl (decide (i < j))
 | .le => rI0 fun i j => .bl (decide (i <= j))
 | .gt => rI0 fun i j => .bl (decide (j < i))
 | .ge => rI0 fun i j => .bl (decide (j <= i))
 | .isin => fun x y H Q => (∃ i j, x = .str i /\ y = .str j /\ Q (.bl (!(Builtin.Str.occurrences j i 0 j.length 1).isEmpty)) H) \/ rIn K false x y H Q
 | .notin => fun x y H Q => (∃ i j, x = .str i /\ y = .str j /\ Q (.bl (!(!(Builtin.Str.occurrences j i 0 j.length 1).isEmpty))) H) \/ rIn K true x y H Q
 | .same => fun x y H Q => (y = .non /\ Q (.bl (decide (x = .non))) H) \/ (∃ b, y = .bl b /\ Q (.bl (decide (x = .bl b))) H)
 | .other => fun x y H Q => (y = .non /\ Q (.bl (!decide (x = .non))) H) \/ (∃ b, y = .bl b /\ Q (.bl (!decide (x = .bl b))) H)
theorem zaE (hu : X.A.units + 60 < cLine) : ∀ c : Cp, OpR X (compareOp (cpP c)) (rCp X.K c)
 | .eq => zrf hu
 | .ne => zqX hu
 | .lt => zsH
 | .le => zse
 | .gt => ztV
 | .ge => zr7
 | .isin => zlF.or zkD
 | .notin => zhF.or zh6
 | .same => zqi.or zqV
 | .other => zov.or zkS
theorem zh1 {K : Fgx} {A : Pl} {d : D} {v : V} (f : d.flat = true) (h : Is K A H d v) : zgo v = true := by
 cases d <;> simp only [D.flat, Bool.false_eq_true] at f <;> simp only [Is] at h <;> subst h <;> rfl
theorem eq_V {K : Fgx} {A B : Pl} {d e : D} {v w : V} (f : d.flat = true) (g : e.flat = true) (h : Is K A H d v) (h' : Is K B H e w) : eqV v w = D.eq d e := by
 cases d <;> cases e <;> simp only [D.flat, Bool.false_eq_true] at f g <;> simp only [Is] at h h' <;> subst h h' <;> rfl
theorem zfQ {K : Fgx} {A : Pl} : ∀ {ds : List D} {vs : List V}, ds.all D.flat = true -> Iss K A H ds vs -> vs.all zgo = true
  | [], _, _, h => by rw [show _ = [] from h]; rfl
  | d :: ds, _, f, h => by
    obtain ⟨v, r, rfl, p, q⟩ := h;rw [List.all_cons, Bool.and_eq_true] at f;rw [List.all_cons, zh1 f.1 p, zfQ f.2 q];rfl
theorem in_V {K : Fgx} {A B : Pl} {e : D} {w : V} (g : e.flat = true) (h' : Is K B H e w) : ∀ {ds : List D} {vs : List V}, ds.all D.flat = true -> Iss K A H ds vs -> inV w vs = ds.any fun y => D.eq y e
  | [], _, _, h => by rw [show _ = [] from h]; rfl
  | d :: ds, _, f, h => by
    obtain ⟨v, r, rfl, p, q⟩ := h;rw [List.all_cons, Bool.and_eq_true] at f;have := in_V g h' f.2 q;unfold inV at this ⊢;rw [List.any_cons, List.any_cons, this, eq_V f.1 g p h']
theorem zjo {K : Fgx} {A B : Pl} {c : Cp} {d e : D} {v w : V} {b : Bool} {Q : VK} (h : cmpD c d e = some b) (h1 : IsW K A H d v) (h2 : IsW K B H e w) (q : Q (.bl b) H) : rCp K c v w H Q := by
  cases c
  case eq =>
    simp only [cmpD, cEq, cNe] at h;split at h
    · rename_i hc; cases h; exact ⟨A, B, d, e, h1, h2, hc.1, hc.2, q⟩
    · cases h
  case ne =>
    simp only [cmpD, cEq, cNe] at h;split at h
    · rename_i hc; cases h; exact ⟨A, B, d, e, h1, h2, hc.1, hc.2, q⟩
    · cases h
  case isin =>
    cases e with
    | str j =>
      cases d <;> simp only [cmpD, cOrd, cIn, cNin, zib, ze9, reduceCtorEq] at h
      simp only [IsW, Is] at h1 h2;subst h1 h2;cases h;exact .inl ⟨_, _, rfl, rfl, q⟩
    | lst xs =>
      have h' : (if (d.flat && xs.all D.flat) = true then some (xs.any fun y => D.eq y d) else none) = some b := by cases d <;> exact h
      split at h'
      · rename_i hc;rw [Bool.and_eq_true] at hc;cases h';obtain ⟨a, vs, rfl, t, p⟩ := h2;have h1' : Is K A H d v := by cases d <;> first | exact h1 | cases hc.1
        refine .inr ⟨a, vs, rfl, .inl (t), zh1 hc.1 h1', zfQ hc.2 p, ?_⟩;rw [in_V hc.1 h1' hc.2 p];exact q
      · cases h'
    | tup xs =>
      have h' : (if (d.flat && xs.all D.flat) = true then some (xs.any fun y => D.eq y d) else none) = some b := by cases d <;> exact h
      split at h'
      · rename_i hc;rw [Bool.and_eq_true] at hc;cases h';obtain ⟨a, vs, rfl, t, p⟩ := h2;have h1' : Is K A H d v := by cases d <;> first | exact h1 | cases hc.1
        refine .inr ⟨a, vs, rfl, .inr t, zh1 hc.1 h1', zfQ hc.2 p, ?_⟩;rw [in_V hc.1 h1' hc.2 p];exact q
      · cases h'
    | _ => cases d <;> simp only [cmpD, cOrd, cIn, cNin, zib, ze9, reduceCtorEq] at h
  case notin =>
    cases e with
    | str j =>
      cases d <;> simp only [cmpD, cOrd, cIn, cNin, zib, ze9, reduceCtorEq] at h
      simp only [IsW, Is] at h1 h2;subst h1 h2;cases h;exact .inl ⟨_, _, rfl, rfl, q⟩
    | lst xs =>
      have h' : (if (d.flat && xs.all D.flat) = true then some (!xs.any fun y => D.eq y d) else none) = some b := by cases d <;> exact h
      split at h'
      · rename_i hc;rw [Bool.and_eq_true] at hc;cases h';obtain ⟨a, vs, rfl, t, p⟩ := h2;have h1' : Is K A H d v := by cases d <;> first | exact h1 | cases hc.1
        refine .inr ⟨a, vs, rfl, .inl (t), zh1 hc.1 h1', zfQ hc.2 p, ?_⟩;rw [in_V hc.1 h1' hc.2 p];exact q
      · cases h'
    | tup xs =>
      have h' : (if (d.flat && xs.all D.flat) = true then some (!xs.any fun y => D.eq y d) else none) = some b := by cases d <;> exact h
      split at h'
      · rename_i hc;rw [Bool.and_eq_true] at hc;cases h';obtain ⟨a, vs, rfl, t, p⟩ := h2;have h1' : Is K A H d v := by cases d <;> first | exact h1 | cases hc.1
        refine .inr ⟨a, vs, rfl, .inr t, zh1 hc.1 h1', zfQ hc.2 p, ?_⟩;rw [in_V hc.1 h1' hc.2 p];exact q
      · cases h'
    | _ => cases d <;> simp only [cmpD, cOrd, cIn, cNin, zib, ze9, reduceCtorEq] at h
  case same =>
    cases d <;> cases e <;> simp only [cmpD, cOrd, cIn, cNin, zib, ze9, reduceCtorEq] at h <;> cases h <;> simp only [IsW, Is] at h1 h2
    all_goals first
      | (subst h1 h2; first | exact .inr ⟨_, rfl, by rw [zji]; exact q⟩ | exact .inl ⟨rfl, by simpa using q⟩ | exact .inr ⟨_, rfl, by simpa using q⟩)
      | (obtain ⟨a, vs, rfl, _⟩ := h1; subst h2; first | exact .inl ⟨rfl, by simpa using q⟩ | exact .inr ⟨_, rfl, by simpa using q⟩)
  case other =>
    cases d <;> cases e <;> simp only [cmpD, cOrd, cIn, cNin, zib, ze9, reduceCtorEq] at h <;> cases h <;> simp only [IsW, Is] at h1 h2
    all_goals first
      | (subst h1 h2; first | exact .inr ⟨_, rfl, by rw [zji]; exact q⟩ | exact .inl ⟨rfl, by simpa using q⟩ | exact .inr ⟨_, rfl, by simpa using q⟩)
      | (obtain ⟨a, vs, rfl, _⟩ := h1; subst h2; first | exact .inl ⟨rfl, by simpa using q⟩ | exact .inr ⟨_, rfl, by simpa using q⟩)
  all_goals
    cases d <;> cases e <;> simp only [cmpD, cOrd, cIn, cNin, zib, ze9, reduceCtorEq] at h
    simp only [IsW, Is] at h1 h2;subst h1 h2;cases h;exact ⟨_, _, rfl, rfl, q⟩
end
inductive Mode where
 | val | bor
def XOk (mg : Mgx) (H : Hp) (c : Str) (n : Int) (v : V) : Prop := ∃ a C dx, v = .ref a /\ mg c = some (.ref C) /\ H a = some (xo a C dx false) /\
 match dx with
 | none => n = 0
 | some d => ∃ fs, H d = some (.xd fs) /\ fs.lookup ("at" : Str) = some (.int (n - 1)) /\ n ≠ 0
theorem XOk.lt {mg : Mgx} {P P' : Pl} {H H' : Hp} {c : Str} {n : Int} {v : V} (l : Lt P H P' H') (h : XOk mg H c n v) : XOk mg H' c n v := by
  obtain ⟨a, C, dx, e, m, ea, q⟩ := h;refine ⟨a, C, dx, e, m, l.keep _ _ ea (.inl (.inr (.inr (.inl ⟨_, rfl⟩)))), ?_⟩
  cases dx with
  | none => exact q
  | some d =>
    obtain ⟨fs, ed, el⟩ := q;exact ⟨fs, l.keep _ _ ed (.inl (.inr (.inr (.inr ⟨_, rfl⟩)))), el⟩
def znl (K : Fgx) (mg : Mgx) (P : Pl) (H : Hp) (o : Option Addr) (sv : Option V) : Slot -> Prop
 | .un => True
 | .val d => ∃ v, sv = some v /\ Is K P H d v
 | .own ds => ∃ a vs, o = some a /\ sv = some (.ref a) /\ H a = some (.lst vs) /\ Iss K P H ds vs
 | .exc c n => ∃ v, sv = some v /\ XOk mg H c n v
structure Ok (K : Fgx) (mg : Mgx) (P0 : Pl) (H0 : Hp) (P : Pl) (O : List (Option Addr)) (H : Hp) (M : Mm) (st : L2.St) (env : Env) : Prop where
 hk : Hk K mg P H M
 base : LtE P0 H0 P H
 b0 : ∀ a, P0.bd a -> H0 a ≠ none
 slot : ∀ (i : Nat) s, env[i]? = some s -> znl K mg P H (O[i]?).join (st[i]?).join s
 own : ∀ a, some a ∈ O -> P.bd a /\ (∀ k, k < P.n -> P.io k ≠ a) /\ H0 a = none
 inj : ∀ (i j : Nat) a, O[i]? = some (some a) -> O[j]? = some (some a) -> i = j
 olen : O.length = env.length
 slen : st.length = env.length
def IsM (K : Fgx) (P : Pl) (H : Hp) (m : Mode) (d : D) (v : V) : Prop := match m with
 | .val => Is K P H d v
 | .bor => IsB K P H d v
inductive Res where
 | v (d : D) | x (c : Str) (n : Int)
abbrev O := Option (Res × Mm)
abbrev E := Env -> Mm -> O
def bnd (o : O) (k : D -> Mm -> O) : O := match o with
 | some (.v d, M) => k d M
 | some (.x c n, M) => some (.x c n, M)
 | none => none
theorem zaB {o : O} {k : D -> Mm -> O} {r : Res} {M' : Mm} (h : bnd o k = some (r, M')) : (∃ d M, o = some (.v d, M) /\ k d M = some (r, M')) \/ ∃ c n, o = some (.x c n, M') /\ r = .x c n := by
 unfold bnd at h;split at h
 ·exact .inl ⟨_, _, rfl, h⟩
 ·cases h; exact .inr ⟨_, _, rfl, rfl⟩
 ·cases h
abbrev XW := Pl -> Hp -> Mm -> Str -> Int -> Prop
section
variable {K : Fgx} {mg : Mgx} {P0 P P' : Pl} {H0 H H' : Hp} {M M' : Mm} {Os : List (Option Addr)} {st : L2.St} {env : Env} {d : D} {v : V} {m : Mode}
theorem Is.b (h : Hk K mg P H M) (i : Is K P H d v) : IsB K P H d v := by
  cases d with
  | lst ds =>
    obtain ⟨a, vs, e, r, q⟩ := i;exact ⟨a, vs, e, r.imp (fun ⟨n, r⟩ => ⟨fun k hk z => n (z ▸ h.bd k hk), r⟩) id, q⟩
  | _ => exact i
theorem IsM.of (h : Hk K mg P H M) (i : Is K P H d v) : IsM K P H m d v := by
 cases m with
 | val => exact i
 | bor => exact i.b h
theorem IsM.b (h : Hk K mg P H M) (i : IsM K P H m d v) : IsB K P H d v := by
 cases m with
 | val => exact Is.b h i
 | bor => exact i
theorem LtE.nc (l : LtE P H P' H') {a : Addr} {o : HO} (e : H a = some o) (n : ∀ k, k < P.n -> P.io k ≠ a) : ∀ k, k < P'.n -> P'.io k ≠ a := fun k hk z => by
 rcases Nat.lt_or_ge k P.n with q | q
 ·rw [l.io k q] at z;exact n k q z
 ·rw [<- z, l.nw k q hk] at e;cases e
theorem IsB.lt (l : LtE P H P' H') (h : Hk K mg P H M) (i : IsB K P H d v) : IsB K P' H' d v := by
  cases d with
  | lst ds =>
    obtain ⟨a, vs, e, r, q⟩ := i;refine ⟨a, vs, e, r.imp (fun ⟨n, r⟩ => ?_) id, Iss.lt (l.lt h) q⟩;obtain ⟨o, eo⟩ := zkz r;refine ⟨l.nc eo n, ?_⟩;rcases r with r | ⟨o', r⟩
    · exact .inl (l.keep _ _ r n)
    · exact .inr ⟨o', l.keep _ _ r n⟩
  | _ => exact Is.lt (l.lt h) i
theorem Ok.next (k : Ok K mg P0 H0 P Os H M st env) (l : LtE P H P' H') (h : Hk K mg P' H' M') : Ok K mg P0 H0 P' Os H' M' st env where
  hk := h
  base := k.base.trans l
  b0 := k.b0
  slot := fun i s e => by
    have q := k.slot i s e
    cases s with
    | un => exact True.intro
    | val d =>
      obtain ⟨v, e1, q⟩ := q;exact ⟨v, e1, Is.lt (l.lt k.hk) q⟩
    | own ds =>
      obtain ⟨a, vs, e1, e2, e3, q⟩ := q;have ho := k.own a (by
        cases hx : Os[i]? with
        | none => rw [hx] at e1; cases e1
        | some o => rw [hx] at e1; cases o with
          | none => cases e1
          | some b => cases e1; exact List.mem_of_getElem? hx)
      exact ⟨a, vs, e1, e2, l.keep _ _ e3 ho.2.1, Iss.lt (l.lt k.hk) q⟩
    | exc c n =>
      obtain ⟨v, e1, q⟩ := q;exact ⟨v, e1, q.lt (l.lt k.hk)⟩
  own := fun a z => by
    have ho := k.own a z;refine ⟨l.bm a ho.1, ?_, ho.2.2⟩;obtain ⟨o, eo⟩ : ∃ o, H a = some o := by
      cases e : H a with
      | none => exact absurd e (k.hk.here a ho.1)
      | some o => exact ⟨o, rfl⟩
    exact l.nc eo ho.2.1
  inj := k.inj
  olen := k.olen
  slen := k.slen
theorem Hk.same (h : Hk K mg P H M) (s : Same H H') : Hk K mg P H' M := by
  have l : Lt P H P H' := (LtE.same s).lt h;refine ⟨h.n, fun k c e => ?_, h.inj, h.bd, fun a z q => h.here a z (s.free q)⟩;have := h.cell k c e
  cases c with
  | lst ds =>
    obtain ⟨vs, e1, q⟩ := this;exact ⟨vs, s _ _ e1, Iss.lt l q⟩
  | obj c fs =>
    obtain ⟨C, dx, gs, e1, e2, e3, q⟩ := this;exact ⟨C, dx, gs, e1, s _ _ e2, e3, Iss.lt l q⟩
  | dct kvs =>
    obtain ⟨vs, e1, e2, q⟩ := this;exact ⟨vs, s _ _ e1, e2, Iss.lt l q⟩
end
def RQ (K : Fgx) (mg : Mgx) (Wx : XW) (m : Mode) (P0 : Pl) (H0 : Hp) (P : Pl) (H : Hp) (M' : Mm) (Q : VK) : Res -> Prop
 | .v d => ∀ P' v H', LtE P H P' H' -> Hk K mg P' H' M' -> IsM K P' H' m d v -> Q v H'
 | .x c n => Wx P0 H0 M' c n
theorem zaP {X : Cx} {e : Expr} {t t' : TE} (h : PE X e t) (i : ∀ st H Q, t' st H Q -> t st H Q) : PE X e t' := fun pins s σ H Q I z => h pins s σ H Q I (i _ _ _ z)
def tE (K : Fgx) (mg : Mgx) (Wx : XW) (m : Mode) (f : E) : TE := fun st H Q => ∃ P0 H0 P Os env M r M', Ok K mg P0 H0 P Os H M st env /\ f env M = some (r, M') /\ RQ K mg Wx m P0 H0 P H M' Q r
structure Fit (X : Cx) (Wx : XW) : Prop where
 calm : X.calm = true
 room : X.A.units + 60 < cLine
section
variable {X : Cx} {Wx : XW} {m : Mode}
def SE (X : Cx) (Wx : XW) (m : Mode) (e : Expr) (f : E) : Prop := PE X e (tE X.K X.mg Wx m f)
theorem SE.bor {e : Expr} {f : E} (h : SE X Wx .val e f) : SE X Wx m e f := zaP h fun st H Q ⟨P0, H0, P, Os, env, M, r, M', k, e, q⟩ => ⟨P0, H0, P, Os, env, M, r, M', k, e, by
 cases r with
 | v d => exact fun P' v H' l h i => q P' v H' l h (IsM.of h i)
 | x c n => exact q⟩
theorem zax {f : E} {K : Fgx} {mg : Mgx} {P0 P : Pl} {H0 H : Hp} {Os : List (Option Addr)} {M M' : Mm} {st : L2.St} {env : Env} {r : Res} {Q : VK} (k : Ok K mg P0 H0 P Os H M st env) (e : f env M = some (r, M'))
  (q : RQ K mg Wx m P0 H0 P H M' Q r) : tE K mg Wx m f st H Q := ⟨P0, H0, P, Os, env, M, r, M', k, e, q⟩
def sVar (i : Nat) : E := fun env M => match env[i]? with
 | some (.val d) => some (.v d, M)
 | _ => none
def sCon (d : D) : E := fun _ M => some (.v d, M)
theorem zcW {α : Type} {l : List (Option α)} {i : Nat} {a : α} (h : (l[i]?).join = some a) : l[i]? = some (some a) := by
  cases e : l[i]? with
  | none => rw [e] at h; cases h
  | some o => rw [e] at h; cases o with
    | none => cases h
    | some b => cases h; rfl
theorem znk {i : Nat} {x : Str} {pos : Pos} (hN : X.N[i]? = some x) (hv : Vis X.env.scope x) (hd : (x == ("__debug__" : Str)) = false := by x_go) (hcd : (x == ("__classdict__" : Str)) = false := by x_go) : SE X Wx .val (.Name x pos) (sVar i) := by
 refine zaP (zh7 hN hv hd hcd) ?_;rintro st H Q ⟨P0, H0, P, Os, env, M, r, M', k, e, q⟩;unfold sVar at e;split at e
 ·rename_i d hs;cases e;obtain ⟨v, e1, i1⟩ := k.slot i _ hs;exact ⟨v, zcW e1, q P v H (LtE.refl P H) k.hk i1⟩
 ·cases e
theorem zh4 {e : Expr} {v : V} {d : D} (h : PE X e (tC v)) (hd : ∀ P H, Is X.K P H d v) : SE X Wx .val e (sCon d) := by
 refine zaP h ?_;rintro st H Q ⟨P0, H0, P, Os, env, M, r, M', k, e, q⟩;cases e;exact q P v H (LtE.refl P H) k.hk (hd P H)
def vw (M : Mm) (d : D) : D := match d with
  | .ref k => (match M[k]? with
    | some (.lst ds) => .lst ds
    | _ => .ref k)
  | d => d
theorem IsB.vw {K : Fgx} {mg : Mgx} {P : Pl} {H : Hp} {M : Mm} {d : D} {v : V} (h : Hk K mg P H M) (i : IsB K P H d v) : IsW K P H (vw M d) v := by
  cases d with
  | ref k =>
    unfold E3.vw;dsimp only
    split
    · rename_i ds e;obtain ⟨i1, i2⟩ : k < P.n /\ v = .ref (P.io k) := i;obtain ⟨vs, e1, q⟩ := h.cell k _ e;exact ⟨_, vs, i2, .inl (.inl e1), q⟩
    · exact i
  | lst ds => exact i.w
  | _ => exact i
def s1 (o : D -> Option D) (f : E) : E := fun env M => bnd (f env M) fun d M1 => (o (vw M1 d)).map fun z => (.v z, M1)
def s2 (o : D -> D -> Option D) (f g : E) : E := fun env M => bnd (f env M) fun d M1 => bnd (g env M1) fun e M2 => (o (vw M2 d) (vw M2 e)).map fun z => (.v z, M2)
def zeo (K : Fgx) (r : R2) (o : D -> D -> Option D) : Prop := ∀ (P : Pl) (H : Hp) (d e z : D) (v w : V) (Q : VK), o d e = some z -> IsW K P H d v -> IsW K P H e w -> (∀ p, H p = none -> ¬ P.bd p) -> (∀ u H', Same H H' -> Is K P H' z u -> Q u H') -> r v w H Q
def zoO (K : Fgx) (r : V -> Hp -> VK -> Prop) (o : D -> Option D) : Prop := ∀ (P : Pl) (H : Hp) (d z : D) (v : V) (Q : VK), o d = some z -> IsW K P H d v -> (∀ p, H p = none -> ¬ P.bd p) -> (∀ u H', Same H H' -> Is K P H' z u -> Q u H') -> r v H Q
theorem Hk.new {K : Fgx} {mg : Mgx} {P : Pl} {H : Hp} {M : Mm} (h : Hk K mg P H M) : ∀ p, H p = none -> ¬ P.bd p := fun p hp z => h.here p z hp
theorem zl2 {f g : E} {o : D -> D -> Option D} {r : R2} {st : L2.St} {H : Hp} {Q : VK} (po : zeo X.K r o) (h : tE X.K X.mg Wx m (s2 o f g) st H Q) : tOp r (tE X.K X.mg Wx .bor f) (tE X.K X.mg Wx .bor g) st H Q := by
 obtain ⟨P0, H0, P, Os, env, M, rr, M', k, e, q⟩ := h;unfold s2 at e;rcases zaB e with ⟨d, M1, e1, e⟩ | ⟨c, n, e1, rfl⟩
 ·refine zax k e1 fun P1 v1 H1 l1 h1 i1 => ?_;have k1 := k.next l1 h1
  rcases zaB e with ⟨d2, M2, e2, e⟩ | ⟨c, n, e2, rfl⟩
  ·refine zax k1 e2 fun P2 v2 H2 l2 h2 i2 => ?_;rw [Option.map_eq_some_iff] at e;obtain ⟨z, ez, e⟩ := e;cases e;exact po P2 H2 _ _ z v1 v2 Q ez (IsB.vw h2 (IsB.lt l2 h1 i1)) (IsB.vw h2 i2) h2.new fun u H' s i => q P2 u H' (l1.trans (l2.trans (LtE.same s))) (h2.same s) (IsM.of (h2.same s) i)
  ·exact zax k1 e2 q
 ·exact zax k e1 q
theorem ztN {f : E} {o : D -> Option D} {r : V -> Hp -> VK -> Prop} {st : L2.St} {H : Hp} {Q : VK} (po : zoO X.K r o) (h : tE X.K X.mg Wx m (s1 o f) st H Q) : tUn r (tE X.K X.mg Wx .bor f) st H Q := by
 obtain ⟨P0, H0, P, Os, env, M, rr, M', k, e, q⟩ := h;unfold s1 at e;rcases zaB e with ⟨d, M1, e1, e⟩ | ⟨c, n, e1, rfl⟩
 ·refine zax k e1 fun P1 v1 H1 l1 h1 i1 => ?_;rw [Option.map_eq_some_iff] at e;obtain ⟨z, ez, e⟩ := e;cases e;exact po P1 H1 _ z v1 Q ez (IsB.vw h1 i1) h1.new fun u H' s i => q P1 u H' (l1.trans (LtE.same s)) (h1.same s) (IsM.of (h1.same s) i)
 ·exact zax k e1 q
theorem zaA {a b : Expr} {op : Operator} {pos : Pos} {f g : E} {o : D -> D -> Option D} {r : R2} (ho : OpR X (binaryOp op) r) (po : zeo X.K r o) (ha : SE X Wx .bor a f) (hb : SE X Wx .bor b g) : SE X Wx m (.BinOp a op b pos) (s2 o f g) :=
 zaP (zrK ho ha hb) fun _ _ _ h => zl2 po h
theorem zcd {a b : Expr} {op : CmpOp} {pos : Pos} {f g : E} {o : D -> D -> Option D} {r : R2} (ho : OpR X (compareOp op) r) (po : zeo X.K r o) (ha : SE X Wx .bor a f) (hb : SE X Wx .bor b g) (hm : behindInMarks op b = false := by rfl) : SE X Wx m (.Compare a [op] [b] pos) (s2 o f g) :=
 zaP (zop ho ha hb hm) fun _ _ _ h => zl2 po h
theorem zaD {a b : Expr} {pos : Pos} {f g : E} {o : D -> D -> Option D} {r : R2} (ho : IxR X r) (po : zeo X.K r o) (ha : SE X Wx .bor a f) (hb : SE X Wx .bor b g) (hs : zlu b := by exact fun _ _ => rfl) : SE X Wx m (.Subscript a b pos) (s2 o f g) :=
 zaP (ztZ ho ha hb hs) fun _ _ _ h => zl2 po h
def TQ (K : Fgx) (mg : Mgx) (Wx : XW) (P0 : Pl) (H0 : Hp) (P : Pl) (H : Hp) (M' : Mm) (Q : Bool -> Hp -> Prop) : Res -> Prop
 | .v d => ∃ b, d = .bl b /\ ∀ P' H', LtE P H P' H' -> Hk K mg P' H' M' -> Q b H'
 | .x c n => Wx P0 H0 M' c n
def tTt (K : Fgx) (mg : Mgx) (Wx : XW) (f : E) : TT := fun st H Q => ∃ P0 H0 P Os env M r M', Ok K mg P0 H0 P Os H M st env /\ f env M = some (r, M') /\ TQ K mg Wx P0 H0 P H M' Q r
def ST (X : Cx) (Wx : XW) (e : Expr) (f : E) : Prop := PT X e (tTt X.K X.mg Wx f)
theorem zfG {e : Expr} {t t' : TT} (h : PT X e t) (i : ∀ st H Q, t' st H Q -> t st H Q) : PT X e t' := fun pins s σ H Q I z => h pins s σ H Q I (i _ _ _ z)
theorem zcY {f : E} {K : Fgx} {mg : Mgx} {P0 P : Pl} {H0 H : Hp} {Os : List (Option Addr)} {M M' : Mm} {st : L2.St} {env : Env} {r : Res} {Q : Bool -> Hp -> Prop} (k : Ok K mg P0 H0 P Os H M st env) (e : f env M = some (r, M'))
  (q : TQ K mg Wx P0 H0 P H M' Q r) : tTt K mg Wx f st H Q := ⟨P0, H0, P, Os, env, M, r, M', k, e, q⟩
theorem zkg {f : E} {st : L2.St} {H : Hp} {Q : Bool -> Hp -> Prop} (h : tTt X.K X.mg Wx f st H Q) : zo9 (tE X.K X.mg Wx .val f) st H Q := by
  obtain ⟨P0, H0, P, Os, env, M, r, M', k, e, q⟩ := h;refine zax k e ?_
  cases r with
  | v d =>
    obtain ⟨b, rfl, q⟩ := q;exact fun P' v H' l h i => ⟨b, i, q P' H' l h⟩
  | x c n => exact q
theorem zaJ {a b : Expr} {op : CmpOp} {pos : Pos} {f g : E} {o : D -> D -> Option D} {r : R2} (ho : OpR X (compareOp op) r) (po : zeo X.K r o) (ha : SE X Wx .bor a f) (hb : SE X Wx .bor b g) (hm : behindInMarks op b = false := by rfl) : ST X Wx (.Compare a [op] [b] pos) (s2 o f g) :=
 zfG (znJ ho ha hb hm) fun _ _ _ h => zl2 po (zkg h)
def truD : D -> Option Bool
 | .non => some false
 | .bl b => some b
 | .int i => some (i != 0)
 | .str s => if s.length <= sizeLine then some ((s.length : Int) != 0) else none
 | .lst ds => some (!ds.isEmpty)
 | .tup ds => some (!ds.isEmpty)
 | .ref _ => none
def sTru (f : E) : E := s1 (fun d => (truD d).map .bl) f
def sNot (f : E) : E := fun env M => bnd (f env M) fun d M1 => match d with
 | .bl b => some (.v (.bl (!b)), M1)
 | _ => none
def sAnd (f g : E) : E := fun env M => bnd (f env M) fun d M1 => match d with
 | .bl b => if b = true then g env M1 else some (.v (.bl false), M1)
 | _ => none
def sOr (f g : E) : E := fun env M => bnd (f env M) fun d M1 => match d with
 | .bl b => if b = true then some (.v (.bl true), M1) else g env M1
 | _ => none
def sIte (c f g : E) : E := fun env M => bnd (c env M) fun d M1 => match d with
 | .bl b => if b = true then f env M1 else g env M1
 | _ => none
def SW (X : Cx) (Wx : XW) (e : Expr) (f : E) : Prop := PW X e (tTt X.K X.mg Wx f)
theorem znu {e : Expr} {t t' : TT} (h : PW X e t) (i : ∀ st H Q, t' st H Q -> t st H Q) : PW X e t' := fun wh pins s σ H Q I z => h wh pins s σ H Q I (i _ _ _ z)
theorem zec {a : Expr} {pos : Pos} {f : E} (ha : ST X Wx a f) : ST X Wx (.UnaryOp .Not a pos) (sNot f) := by
 refine zfG (zrv ha) ?_;rintro st H Q ⟨P0, H0, P, Os, env, M, r, M', k, e, q⟩;unfold sNot at e;rcases zaB e with ⟨d, M1, e1, e⟩ | ⟨c, n, e1, rfl⟩
 ·cases d <;> simp only [reduceCtorEq] at e
  cases e;obtain ⟨b, e2, q⟩ := q;cases e2;exact zcY k e1 ⟨_, rfl, q⟩
 ·exact zcY k e1 q
theorem znD {a : Expr} {pos : Pos} {f : E} (ha : ST X Wx a f) : SW X Wx (.BoolOp .And [a] pos) f := zoT ha
theorem zdS {a : Expr} {pos : Pos} {f : E} (ha : ST X Wx a f) : SW X Wx (.BoolOp .Or [a] pos) f := zpI ha
theorem zqF {a b : Expr} {rest : List Expr} {pos : Pos} {f g : E} (ha : ST X Wx a f) (hb : SW X Wx (.BoolOp .And (b :: rest) pos) g) : SW X Wx (.BoolOp .And (a :: b :: rest) pos) (sAnd f g) := by
  refine znu (zqd ha hb) ?_;rintro st H Q ⟨P0, H0, P, Os, env, M, r, M', k, e, q⟩;unfold sAnd at e;rcases zaB e with ⟨d, M1, e1, e⟩ | ⟨c, n, e1, rfl⟩
  · cases d <;> simp only [reduceCtorEq] at e
    rename_i b;refine zcY k e1 ⟨b, rfl, fun P1 H1 l1 h1 => ?_⟩
    cases b with
    | true =>
      rw [if_pos rfl] at e ⊢;refine zcY (k.next l1 h1) e ?_
      cases r with
      | v d => obtain ⟨b, e2, q⟩ := q; exact ⟨b, e2, fun P' H' l h => q P' H' (l1.trans l) h⟩
      | x c n => exact q
    | false =>
      rw [if_neg (by decide)] at e ⊢;cases e;obtain ⟨b, e2, q⟩ := q;cases e2;exact q P1 H1 l1 h1
  · exact zcY k e1 q
theorem zfl {a b : Expr} {rest : List Expr} {pos : Pos} {f g : E} (ha : ST X Wx a f) (hb : SW X Wx (.BoolOp .Or (b :: rest) pos) g) : SW X Wx (.BoolOp .Or (a :: b :: rest) pos) (sOr f g) := by
  refine znu (zsS ha hb) ?_;rintro st H Q ⟨P0, H0, P, Os, env, M, r, M', k, e, q⟩;unfold sOr at e;rcases zaB e with ⟨d, M1, e1, e⟩ | ⟨c, n, e1, rfl⟩
  · cases d <;> simp only [reduceCtorEq] at e
    rename_i b;refine zcY k e1 ⟨b, rfl, fun P1 H1 l1 h1 => ?_⟩
    cases b with
    | false =>
      rw [if_neg (by decide)] at e ⊢;refine zcY (k.next l1 h1) e ?_
      cases r with
      | v d => obtain ⟨b, e2, q⟩ := q; exact ⟨b, e2, fun P' H' l h => q P' H' (l1.trans l) h⟩
      | x c n => exact q
    | true =>
      rw [if_pos rfl] at e ⊢;cases e;obtain ⟨b, e2, q⟩ := q;cases e2;exact q P1 H1 l1 h1
  · exact zcY k e1 q
theorem SW.st {e : Expr} {f : E} (h : SW X Wx e f) : ST X Wx e f := h.pt
end
section
variable {X : Cx} {Wx : XW} {m : Mode}
theorem RQ.imp {K : Fgx} {mg : Mgx} {P0 P P1 : Pl} {H0 H H1 : Hp} {M' : Mm} {Q : VK} {r : Res} (l : LtE P H P1 H1) (q : RQ K mg Wx m P0 H0 P H M' Q r) : RQ K mg Wx m P0 H0 P1 H1 M' Q r := by
 cases r with
 | v d => exact fun P' v H' l' h i => q P' v H' (l.trans l') h i
 | x c n => exact q
theorem zdq {a : Expr} {op : BoolOp} {pos : Pos} {f : E} (ha : SE X Wx m a f) : SE X Wx m (.BoolOp op [a] pos) f := zrY ha
theorem zei {a b : Expr} {rest : List Expr} {pos : Pos} {f g : E} (ha : SE X Wx .val a f) (hb : SE X Wx m (.BoolOp .And (b :: rest) pos) g) : SE X Wx m (.BoolOp .And (a :: b :: rest) pos) (sAnd f g) := by
  refine zaP (zri ha hb) ?_;rintro st H Q ⟨P0, H0, P, Os, env, M, r, M', k, e, q⟩;unfold sAnd at e;rcases zaB e with ⟨d, M1, e1, e⟩ | ⟨c, n, e1, rfl⟩
  · cases d <;> simp only [reduceCtorEq] at e
    rename_i b;refine zax k e1 fun P1 v1 H1 l1 h1 i1 => ⟨b, i1, ?_⟩
    cases b with
    | true =>
      rw [if_pos rfl] at e ⊢;exact zax (k.next l1 h1) e (RQ.imp l1 q)
    | false =>
      rw [if_neg (by decide)] at e ⊢;cases e;exact q P1 _ H1 l1 h1 (IsM.of h1 (show Is _ _ _ (.bl false) _ from rfl))
  · exact zax k e1 q
theorem znV {a b : Expr} {rest : List Expr} {pos : Pos} {f g : E} (ha : SE X Wx .val a f) (hb : SE X Wx m (.BoolOp .Or (b :: rest) pos) g) : SE X Wx m (.BoolOp .Or (a :: b :: rest) pos) (sOr f g) := by
  refine zaP (zsj ha hb) ?_;rintro st H Q ⟨P0, H0, P, Os, env, M, r, M', k, e, q⟩;unfold sOr at e;rcases zaB e with ⟨d, M1, e1, e⟩ | ⟨c, n, e1, rfl⟩
  · cases d <;> simp only [reduceCtorEq] at e
    rename_i b;refine zax k e1 fun P1 v1 H1 l1 h1 i1 => ⟨b, i1, ?_⟩
    cases b with
    | false =>
      rw [if_neg (by decide)] at e ⊢;exact zax (k.next l1 h1) e (RQ.imp l1 q)
    | true =>
      rw [if_pos rfl] at e ⊢;cases e;exact q P1 _ H1 l1 h1 (IsM.of h1 (show Is _ _ _ (.bl true) _ from rfl))
  · exact zax k e1 q
theorem zqN {c a b : Expr} {pos : Pos} {t f g : E} (hc : ST X Wx c t) (ha : SE X Wx m a f) (hb : SE X Wx m b g) : SE X Wx m (.IfExp c a b pos) (sIte t f g) := by
  refine zaP (zmj hc ha hb) ?_;rintro st H Q ⟨P0, H0, P, Os, env, M, r, M', k, e, q⟩;unfold sIte at e;rcases zaB e with ⟨d, M1, e1, e⟩ | ⟨c, n, e1, rfl⟩
  · cases d <;> simp only [reduceCtorEq] at e
    rename_i b;refine zcY k e1 ⟨b, rfl, fun P1 H1 l1 h1 => ?_⟩
    cases b with
    | true =>
      rw [if_pos rfl] at e ⊢;exact zax (k.next l1 h1) e (RQ.imp l1 q)
    | false =>
      rw [if_neg (by decide)] at e ⊢;exact zax (k.next l1 h1) e (RQ.imp l1 q)
  · exact zcY k e1 q
theorem zsP {K : Fgx} {P : Pl} {H : Hp} {d : D} {v : V} {b : Bool} (h : truD d = some b) (i : IsW K P H d v) : TruV K v H b := by
  cases d with
  | non => have e : v = .non := i; subst e; cases h; rfl
  | bl c => have e : v = .bl c := i; subst e; cases h; rfl
  | int c => have e : v = .int c := i; subst e; cases h; rfl
  | str c =>
    have e : v = .str c := i;subst e;simp only [truD] at h;split at h
    · rename_i hl;cases h;exact ⟨hl, rfl⟩
    · cases h
  | lst ds =>
    obtain ⟨a, vs, rfl, r, q⟩ := i;cases h;refine .inl ⟨vs, r, ?_⟩
    cases ds with
    | nil => rw [show vs = [] from q]; rfl
    | cons d ds => obtain ⟨w, r', rfl, _⟩ := q; rfl
  | tup ds =>
    obtain ⟨a, vs, rfl, r, q⟩ := i;cases h;refine .inr (.inl ⟨vs, r, ?_⟩)
    cases ds with
    | nil => rw [show vs = [] from q]; rfl
    | cons d ds => obtain ⟨w, r', rfl, _⟩ := q; rfl
  | ref k => cases h
theorem zds {a : Expr} {f : E} (ha : SE X Wx .bor a f) (he : ∀ whole, isTrue a X.env whole = (do let v <- whole; standAt a.pos; holding [v] (truthy v)) := by exact fun _ => rfl) : ST X Wx a (sTru f) := by
 refine zfG (zlS ha he) ?_;rintro st H Q ⟨P0, H0, P, Os, env, M, r, M', k, e, q⟩;unfold sTru s1 at e;rcases zaB e with ⟨d, M1, e1, e⟩ | ⟨c, n, e1, rfl⟩
 ·rw [Option.map_eq_some_iff] at e;obtain ⟨z, ez, e⟩ := e;cases e;rw [Option.map_eq_some_iff] at ez;obtain ⟨b, eb, rfl⟩ := ez;obtain ⟨b', e2, q⟩ := q;cases e2;exact zax k e1 fun P1 v1 H1 l1 h1 i1 => ⟨b, zsP eb (IsB.vw h1 i1), q P1 H1 l1 h1⟩
 ·exact zax k e1 q
inductive ResA where
 | v (ds : List D) | x (c : Str) (n : Int)
abbrev EA := Env -> Mm -> Option (ResA × Mm)
def sNil : EA := fun _ M => some (.v [], M)
def zad (f : E) (fs : EA) : EA := fun env M => match f env M with
  | some (.v d, M1) => (match fs env M1 with
    | some (.v ds, M2) => some (.v (d :: ds), M2)
    | some (.x c n, M2) => some (.x c n, M2)
    | none => none)
  | some (.x c n, M1) => some (.x c n, M1)
  | none => none
def bndA (o : Option (ResA × Mm)) (k : List D -> Mm -> O) : O := match o with
 | some (.v ds, M) => k ds M
 | some (.x c n, M) => some (.x c n, M)
 | none => none
theorem zdm {o : Option (ResA × Mm)} {k : List D -> Mm -> O} {r : Res} {M' : Mm} (h : bndA o k = some (r, M')) : (∃ ds M, o = some (.v ds, M) /\ k ds M = some (r, M')) \/ ∃ c n, o = some (.x c n, M') /\ r = .x c n := by
 unfold bndA at h;split at h
 ·exact .inl ⟨_, _, rfl, h⟩
 ·cases h; exact .inr ⟨_, _, rfl, rfl⟩
 ·cases h
def AllM (K : Fgx) (P : Pl) (H : Hp) (m : Mode) : List D -> List V -> Prop
 | [], vs => vs = []
 | d :: ds, vs => ∃ v ws, vs = v :: ws /\ IsM K P H m d v /\ AllM K P H m ds ws
theorem AllM.iss {K : Fgx} {P : Pl} {H : Hp} : ∀ {ds : List D} {vs : List V}, AllM K P H .val ds vs -> Iss K P H ds vs
  | [], _, h => h
  | _ :: _, _, h => by
    obtain ⟨v, ws, e, p, q⟩ := h;exact ⟨v, ws, e, p, AllM.iss q⟩
def AQ (K : Fgx) (mg : Mgx) (Wx : XW) (m : Mode) (P0 : Pl) (H0 : Hp) (P : Pl) (H : Hp) (M' : Mm) (Q : List V -> Hp -> Prop) : ResA -> Prop
 | .v ds => ∀ P' vs H', LtE P H P' H' -> Hk K mg P' H' M' -> AllM K P' H' m ds vs -> Q vs H'
 | .x c n => Wx P0 H0 M' c n
def tAs (K : Fgx) (mg : Mgx) (Wx : XW) (m : Mode) (fs : EA) : TA := fun st H Q => ∃ P0 H0 P Os env M r M', Ok K mg P0 H0 P Os H M st env /\ fs env M = some (r, M') /\ AQ K mg Wx m P0 H0 P H M' Q r
def SA (X : Cx) (Wx : XW) (m : Mode) (es : List Expr) (fs : EA) : Prop := PA X es (tAs X.K X.mg Wx m fs)
theorem zni {es : List Expr} {t t' : TA} (h : PA X es t) (w : ∀ σ H Q, t' σ H Q -> t σ H Q) : PA X es t' := fun pos pins s σ H Q I hw => h pos pins s σ H Q I (w σ H Q hw)
theorem zaf : SA X Wx m [] sNil := by
 refine zni zgH ?_;rintro st H Q ⟨P0, H0, P, Os, env, M, r, M', k, e, q⟩;cases e;exact q P [] H (LtE.refl P H) k.hk rfl
theorem zaa {e : Expr} {es : List Expr} {f : E} {fs : EA} (ha : SE X Wx m e f) (hr : SA X Wx m es fs) (hs : starEach (e :: es) X.env = (false, eval e X.env) :: starEach es X.env := by rfl) : SA X Wx m (e :: es) (zad f fs) := by
 refine zni (zdF ha hr hs) ?_;rintro st H Q ⟨P0, H0, P, Os, env, M, r, M', k, e, q⟩;unfold zad at e;split at e
 ·rename_i d M1 e1;refine zax k e1 fun P1 v1 H1 l1 h1 i1 => ?_;split at e
  ·rename_i ds M2 e2;cases e;refine ⟨P0, H0, P1, Os, env, M1, _, _, k.next l1 h1, e2, fun P2 vs H2 l2 h2 i2 => q P2 _ H2 (l1.trans l2) h2 ⟨v1, vs, rfl, ?_, i2⟩⟩
   cases m with
   | val => exact Is.lt (l2.lt h1) i1
   | bor => exact IsB.lt l2 h1 i1
  ·rename_i c n M2 e2;cases e;exact ⟨P0, H0, P1, Os, env, M1, _, _, k.next l1 h1, e2, q⟩
  ·cases e
 ·rename_i c n M1 e1;cases e;exact zax k e1 q
 ·cases e
def sN (o : List D -> Option D) (fs : EA) : E := fun env M => bndA (fs env M) fun ds M1 => (o (ds.map (vw M1))).map fun z => (.v z, M1)
def AllW (K : Fgx) (P : Pl) (H : Hp) : List D -> List V -> Prop
 | [], vs => vs = []
 | d :: ds, vs => ∃ v ws, vs = v :: ws /\ IsW K P H d v /\ AllW K P H ds ws
theorem AllM.w {K : Fgx} {mg : Mgx} {P : Pl} {H : Hp} {M : Mm} (h : Hk K mg P H M) : ∀ {ds : List D} {vs : List V}, AllM K P H m ds vs -> AllW K P H (ds.map (vw M)) vs
  | [], _, q => q
  | d :: ds, _, q => by
    obtain ⟨v, ws, e, p, q⟩ := q;exact ⟨v, ws, e, IsB.vw h (p.b h), AllM.w h q⟩
def zgl (K : Fgx) (r : List V -> Hp -> VK -> Prop) (o : List D -> Option D) : Prop := ∀ (P : Pl) (H : Hp) (ds : List D) (z : D) (vs : List V) (Q : VK), o ds = some z -> AllW K P H ds vs -> (∀ p, H p = none -> ¬ P.bd p) -> (∀ u H', Same H H' -> Is K P H' z u -> Q u H') -> r vs H Q
theorem zqa {ex e : Expr} {es : List Expr} {r : List V -> Hp -> VK -> Prop} {o : List D -> Option D} {fs : EA} (h : ∀ t, PA X (e :: es) t -> PE X ex (tCB r t)) (po : zgl X.K r o) (ha : SA X Wx .bor (e :: es) fs) : SE X Wx m ex (sN o fs) := by
 refine zaP (h _ ha) ?_;rintro st H Q ⟨P0, H0, P, Os, env, M, r, M', k, e, q⟩;unfold sN at e;rcases zdm e with ⟨ds, M1, e1, e⟩ | ⟨c, n, e1, rfl⟩
 ·rw [Option.map_eq_some_iff] at e;obtain ⟨z, ez, e⟩ := e;cases e;exact ⟨P0, H0, P, Os, env, M, _, _, k, e1, fun P1 vs H1 l1 h1 i1 => po P1 H1 _ z vs Q ez (AllM.w h1 i1) h1.new fun u H' s i => q P1 u H' (l1.trans (LtE.same s)) (h1.same s) (IsM.of (h1.same s) i)⟩
 ·exact ⟨P0, H0, P, Os, env, M, _, _, k, e1, q⟩
def sTup (fs : EA) : E := fun env M => bndA (fs env M) fun ds M1 => if ds.length <= sizeLine then some (.v (.tup ds), M1) else none
theorem zc8 {es : List Expr} {x1 : Nat} {pos : Pos} {fs : EA} (ha : SA X Wx .val es fs) : SE X Wx m (.Tuple es x1 pos) (sTup fs) := by
 refine zaP (zmM ha) ?_;rintro st H Q ⟨P0, H0, P, Os, env, M, r, M', k, e, q⟩;unfold sTup at e;rcases zdm e with ⟨ds, M1, e1, e⟩ | ⟨c, n, e1, rfl⟩
 ·split at e
  ·rename_i hl;cases e;refine ⟨P0, H0, P, Os, env, M, _, _, k, e1, fun P1 vs H1 l1 h1 i1 => ⟨by rw [i1.iss.len]; exact hl, fun p hp => ?_⟩⟩;have s := zcn (o := .tup vs) hp;exact q P1 _ _ (l1.trans (LtE.same s)) (h1.same s) (IsM.of (h1.same s) ⟨p, vs, rfl, .inl (.inl zao), Iss.lt ((LtE.same s).lt h1) i1.iss⟩)
  ·cases e
 ·exact ⟨P0, H0, P, Os, env, M, _, _, k, e1, q⟩
def NQ (K : Fgx) (mg : Mgx) (Wx : XW) (P0 : Pl) (H0 : Hp) (P : Pl) (H : Hp) (M' : Mm) (Q : VK) : Res -> Prop
 | .v d => ∃ ds, d = .lst ds /\ ∀ P' a vs H', LtE P H P' H' -> Hk K mg P' H' M' -> H a = none -> P'.bd a -> (∀ k, k < P'.n -> P'.io k ≠ a) -> H' a = some (.lst vs) -> Iss K P' H' ds vs -> Q (.ref a) H'
 | .x c n => Wx P0 H0 M' c n
def tN (K : Fgx) (mg : Mgx) (Wx : XW) (f : E) : TE := fun st H Q => ∃ P0 H0 P Os env M r M', Ok K mg P0 H0 P Os H M st env /\ f env M = some (r, M') /\ NQ K mg Wx P0 H0 P H M' Q r
def SN (X : Cx) (Wx : XW) (e : Expr) (f : E) : Prop := PE X e (tN X.K X.mg Wx f)
def Pl.bar (P : Pl) (p : Addr) : Pl := { P with bd := fun a => P.bd a \/ a = p }
theorem zlp {K : Fgx} {mg : Mgx} {P : Pl} {H : Hp} {M : Mm} {p : Addr} {vs : List V} (h : Hk K mg P H M) (hp : H p = none) : LtE P H (P.bar p) (upd H p (.lst vs)) /\ Hk K mg (P.bar p) (upd H p (.lst vs)) M /\ ∀ k, k < P.n -> P.io k ≠ p := by
  have s := zcn (o := .lst vs) hp;have nc : ∀ k, k < P.n -> P.io k ≠ p := fun k hk z => h.here _ (h.bd k hk) (z ▸ hp);have l : LtE P H (P.bar p) (upd H p (.lst vs)) := ⟨Nat.le_refl _, fun _ _ => rfl, fun a z => Or.imp (fun q => q) (fun (q : a = p) => by rw [q]; exact hp) z, fun a z => .inl z, fun a o e _ => s a o e, fun a z => s.free z, fun k h1 h2 => absurd h1 (Nat.not_le.mpr h2)⟩;have lt := l.lt h;refine ⟨l, ⟨h.n, fun k c e => ?_, h.inj, fun k hk => .inl (h.bd k hk), fun a z q => ?_⟩, nc⟩
  · have := h.cell k c e
    cases c with
    | lst ds =>
      obtain ⟨vs, e1, q⟩ := this;exact ⟨vs, s _ _ e1, Iss.lt lt q⟩
    | obj c fs =>
      obtain ⟨C, dx, gs, e1, e2, e3, q⟩ := this;exact ⟨C, dx, gs, e1, s _ _ e2, e3, Iss.lt lt q⟩
    | dct kvs =>
      obtain ⟨vs, e1, e2, q⟩ := this;exact ⟨vs, s _ _ e1, e2, Iss.lt lt q⟩
  · rcases z with z | z
    · exact h.here a z (s.free q)
    · subst z; rw [zao] at q; cases q
theorem SN.se {e : Expr} {f : E} (h : SN X Wx e f) (hf : ∀ env M r M', f env M = some (.v r, M') -> ∃ ds, r = .lst ds) : SE X Wx .val e f := by
  refine zaP h ?_;rintro st H Q ⟨P0, H0, P, Os, env, M, r, M', k, e, q⟩;refine ⟨P0, H0, P, Os, env, M, r, M', k, e, ?_⟩
  cases r with
  | x c n => exact q
  | v d =>
    obtain ⟨ds, rfl⟩ := hf _ _ _ _ e;refine ⟨ds, rfl, fun P' a vs H' l h ha ba nc ea is => q (P'.less (· ≠ a)) _ H' ?_ ?_ ⟨a, vs, rfl, .inl ⟨fun z => z.2 rfl, .inl ea⟩, Iss.less is⟩⟩
    · exact ⟨l.n, l.io, fun b z => l.bd b z.1, fun b z => ⟨l.bm b z, fun q => k.hk.here b z (q ▸ ha)⟩, l.keep, l.sure, l.nw⟩
    · refine ⟨h.n, fun j c e => ?_, h.inj, fun j hj => ⟨h.bd j hj, nc j hj⟩, fun b z => h.here b z.1⟩;have := h.cell j c e
      cases c with
      | lst ds =>
        obtain ⟨vs, e1, q⟩ := this;exact ⟨vs, e1, Iss.less q⟩
      | obj c fs =>
        obtain ⟨C, dx, gs, e1, e2, e3, q⟩ := this;exact ⟨C, dx, gs, e1, e2, e3, Iss.less q⟩
      | dct kvs =>
        obtain ⟨vs, e1, e2, q⟩ := this;exact ⟨vs, e1, e2, Iss.less q⟩
def sLst (fs : EA) : E := fun env M => bndA (fs env M) fun ds M1 => if ds.length <= sizeLine then some (.v (.lst ds), M1) else none
theorem zbL {es : List Expr} {pos : Pos} {fs : EA} (ha : SA X Wx .val es fs) : SN X Wx (.List es pos) (sLst fs) := by
 refine zaP (zqM ha) ?_;rintro st H Q ⟨P0, H0, P, Os, env, M, r, M', k, e, q⟩;unfold sLst at e;rcases zdm e with ⟨ds, M1, e1, e⟩ | ⟨c, n, e1, rfl⟩
 ·split at e
  ·rename_i hl;cases e;obtain ⟨ds', e', q⟩ := q;cases e';refine ⟨P0, H0, P, Os, env, M, _, _, k, e1, fun P1 vs H1 l1 h1 i1 => ⟨by rw [i1.iss.len]; exact hl, fun p hp => ?_⟩⟩;obtain ⟨l2, h2, nc⟩ := zlp (vs := vs) h1 hp;exact q (P1.bar p) p vs _ (l1.trans l2) h2 (l1.sure p hp) (.inr rfl) nc zao (Iss.lt (l2.lt h1) i1.iss)
  ·cases e
 ·exact ⟨P0, H0, P, Os, env, M, _, _, k, e1, q⟩
theorem lst_is {fs : EA} : ∀ env M r M', sLst fs env M = some (.v r, M') -> ∃ ds, r = .lst ds := fun env M r M' e => by
 unfold sLst at e;rcases zdm e with ⟨ds, M1, e1, e⟩ | ⟨c, n, e1, e⟩
 ·split at e
  ·cases e; exact ⟨_, rfl⟩
  ·cases e
 ·cases e
end
inductive Out where
 | nx (env : Env) | bk (env : Env) | ct (env : Env) | rt (d : D) | ex (c : Str) (n : Int)
abbrev OS := Option (Out × Mm)
abbrev S := Env -> Mm -> OS
def Post (K : Fgx) (mg : Mgx) (Wx : XW) (P0 : Pl) (H0 : Hp) (P : Pl) (H : Hp) (M' : Mm) (D : Ends) : Out -> Prop
 | .nx env => ∀ P' Os' H' st', Lt P H P' H' -> Ok K mg P0 H0 P' Os' H' M' st' env -> D.nx st' H'
 | .bk env => ∀ P' Os' H' st', Lt P H P' H' -> Ok K mg P0 H0 P' Os' H' M' st' env -> D.bk st' H'
 | .ct env => ∀ P' Os' H' st', Lt P H P' H' -> Ok K mg P0 H0 P' Os' H' M' st' env -> D.ct st' H'
 | .rt d => ∀ P' v H', LtE P0 H0 P' H' -> Hk K mg P' H' M' -> Is K P' H' d v -> D.rt v H'
 | .ex c n => Wx P0 H0 M' c n
def tS (K : Fgx) (mg : Mgx) (Wx : XW) (f : S) : TS := fun D st H => ∃ P0 H0 P Os env M out M', Ok K mg P0 H0 P Os H M st env /\ f env M = some (out, M') /\ Post K mg Wx P0 H0 P H M' D out
def SS (X : Cx) (Wx : XW) (s : Stmt) (f : S) : Prop := PS X s (tS X.K X.mg Wx f)
def SB (X : Cx) (Wx : XW) (s : List Stmt) (f : S) : Prop := PSs X s (tS X.K X.mg Wx f)
def bndS (o : O) (k : D -> Mm -> OS) : OS := match o with
 | some (.v d, M) => k d M
 | some (.x c n, M) => some (.ex c n, M)
 | none => none
theorem za0 {o : O} {k : D -> Mm -> OS} {r : Out} {M' : Mm} (h : bndS o k = some (r, M')) : (∃ d M, o = some (.v d, M) /\ k d M = some (r, M')) \/ ∃ c n, o = some (.x c n, M') /\ r = .ex c n := by
 unfold bndS at h;split at h
 ·exact .inl ⟨_, _, rfl, h⟩
 ·cases h; exact .inr ⟨_, _, rfl, rfl⟩
 ·cases h
section
variable {K : Fgx} {mg : Mgx} {Wx : XW} {P0 P P' P1 : Pl} {H0 H H' H1 : Hp} {M M' : Mm} {Os : List (Option Addr)} {st : L2.St} {env : Env} {d : D} {v : V} {i : Nat}
theorem zdp {α : Type} (l : List (Option α)) (i j : Nat) (x : Option α) (hi : i < l.length) : ((l.set i x)[j]?).join = if i = j then x else (l[j]?).join := by
 rw [List.getElem?_set]
 by_cases h : i = j
 ·subst h;rw [if_pos rfl, if_pos hi, if_pos rfl];rfl
 ·rw [if_neg h, if_neg h]
theorem Ok.asg (k : Ok K mg P0 H0 P Os H M st env) (hi : i < env.length) (h : Is K P H d v) : Ok K mg P0 H0 P (Os.set i none) H M (st.set i (some v)) (env.set i (.val d)) where
 hk := k.hk
 base := k.base
 b0 := k.b0
 slot := fun j s e => by
  rw [zdp _ _ _ _ (by rw [k.olen]; exact hi), zdp _ _ _ _ (by rw [k.slen]; exact hi)];rw [List.getElem?_set] at e;split at e
  ·rename_i ij;subst ij;cases e;rw [if_pos rfl, if_pos rfl];exact ⟨v, rfl, h⟩
  ·rename_i ij;rw [if_neg ij, if_neg ij];exact k.slot j s e
 own := fun a h => k.own a (by
  rcases List.mem_or_eq_of_mem_set h with h | h
  ·exact h
  ·cases h)
 inj := fun j l a e1 e2 => by
  rw [List.getElem?_set] at e1 e2;split at e1
  ·split at e1 <;> cases e1
  ·split at e2
   ·split at e2 <;> cases e2
   ·exact k.inj j l a e1 e2
 olen := by rw [List.length_set, List.length_set, k.olen]
 slen := by rw [List.length_set, List.length_set, k.slen]
theorem Ok.here (k : Ok K mg P0 H0 P Os H M st env) {a : Addr} (h : some a ∈ Os) : H a ≠ none := k.hk.here a (k.own a h).1
theorem Ok.mine {a : Addr} {vs : List V} {ds : List D} (k0 : Ok K mg P0 H0 P Os H M st env) (l : LtE P H P' H') (hk : Hk K mg P' H' M') (hi : i < env.length) (ha : H a = none) (ba : P'.bd a) (nc : ∀ j, j < P'.n -> P'.io j ≠ a) (e : H' a = some (.lst vs)) (h : Iss K P' H' ds vs) :
  Ok K mg P0 H0 P' (Os.set i (some a)) H' M' (st.set i (some (.ref a))) (env.set i (.own ds)) := by
 have k := k0.next l hk
 have nO : ∀ j, Os[j]? ≠ some (some a) := fun j z => k0.here (List.mem_of_getElem? z) ha;exact {
  hk := k.hk
  base := k.base
  b0 := k.b0
  slot := fun j s e' => by
   rw [zdp _ _ _ _ (by rw [k.olen]; exact hi), zdp _ _ _ _ (by rw [k.slen]; exact hi)];rw [List.getElem?_set] at e';split at e'
   ·rename_i ij;subst ij;cases e';rw [if_pos rfl, if_pos rfl];exact ⟨a, vs, rfl, rfl, e, h⟩
   ·rename_i ij;rw [if_neg ij, if_neg ij];exact k.slot j s e'
  own := fun b hb => by
   rcases List.mem_or_eq_of_mem_set hb with hb | hb
   ·exact k.own b hb
   ·cases hb;exact ⟨ba, nc, k0.base.sure a ha⟩
  inj := fun j l b e1 e2 => by
   rw [List.getElem?_set] at e1 e2;split at e1
   ·split at e1
    ·cases e1;split at e2
     ·rename_i z1 _ z2; exact z1.symm.trans z2
     ·exact absurd e2 (nO l)
    ·cases e1
   ·split at e2
    ·split at e2
     ·cases e2; exact absurd e1 (nO j)
     ·cases e2
    ·exact k.inj j l b e1 e2
  olen := by rw [List.length_set, List.length_set, k.olen]
  slen := by rw [List.length_set, List.length_set, k.slen] }
theorem zfc {a : Addr} {o o' : HO} (b : P.bd a) (e : H a = some o) (nf : ¬ Fx o) : Lt P H P (upd H a o') := ⟨Nat.le_refl _, fun _ _ => rfl, fun _ z => .inl z, fun c u ec z => by
  by_cases h : c = a
  ·subst h;rw [e] at ec;cases ec;exact (z.elim nf fun n => n b).elim
  ·rw [zal h]; exact ec, fun c z => by
  by_cases h : c = a
  ·subst h; rw [zao] at z; cases z
  ·rw [zal h] at z; exact z⟩
theorem zkh {vs : List V} : ¬ Fx (.lst vs) := fun z => by rcases z with ⟨_, z⟩ | ⟨_, _, z⟩ | ⟨_, z⟩ | ⟨_, z⟩ <;> cases z
theorem zry {C dx : Addr} {gs : List (Str × V)} : ¬ Fx (.ins C dx gs) := fun z => by rcases z with ⟨_, z⟩ | ⟨_, _, z⟩ | ⟨_, z⟩ | ⟨_, z⟩ <;> cases z
theorem zfv.lt {a : Addr} {c : Cl} (l : Lt P H P' H') (e : ∀ o, H a = some o -> H' a = some o) (h : zfv K mg P H a c) : zfv K mg P' H' a c := by
  cases c with
  | lst ds =>
    obtain ⟨vs, e1, q⟩ := h;exact ⟨vs, e _ e1, Iss.lt l q⟩
  | obj c fs =>
    obtain ⟨C, dx, gs, e1, e2, e3, q⟩ := h;exact ⟨C, dx, gs, e1, e _ e2, e3, Iss.lt l q⟩
  | dct kvs =>
    obtain ⟨vs, e1, e2, q⟩ := h;exact ⟨vs, e _ e1, e2, Iss.lt l q⟩
theorem Ok.chg {a : Addr} {vs vs' : List V} {ds ds' : List D} (k : Ok K mg P0 H0 P Os H M st env) (hi : env[i]? = some (.own ds)) (ho : Os[i]? = some (some a)) (e : H a = some (.lst vs)) (h : Iss K P H ds' vs') :
    Lt P H P (upd H a (.lst vs')) /\ Ok K mg P0 H0 P Os (upd H a (.lst vs')) M st (env.set i (.own ds')) := by
  obtain ⟨b1, b2, b3⟩ := k.own a (List.mem_of_getElem? ho);have l : Lt P H P (upd H a (.lst vs')) := zfc b1 e zkh;have ilt : i < env.length := (List.getElem?_eq_some_iff.mp hi).1;refine ⟨l, ?_⟩;exact {
    hk := ⟨k.hk.n, fun j c ej => (k.hk.cell j c ej).lt l fun o eo => by rw [zal (b2 j (by rw [k.hk.n]; exact (List.getElem?_eq_some_iff.mp ej).1))]; exact eo, k.hk.inj, k.hk.bd, fun c z q => k.hk.here c z (l.sure c q)⟩
    base := ⟨k.base.n, k.base.io, k.base.bd, k.base.bm, fun c o ec n => by
      have := k.base.keep c o ec n;rw [zal (fun z => by subst z; rw [b3] at ec; cases ec)];exact this, fun c z => k.base.sure c (l.sure c z), k.base.nw⟩
    b0 := k.b0
    slot := fun j s ej => by
      rw [List.getElem?_set] at ej;split at ej
      · rename_i ij;subst ij;cases ej;obtain ⟨a', vs0, e1, e2, e3, q⟩ := k.slot i _ hi;rw [ho] at e1;cases e1;exact ⟨a, vs', by rw [ho]; rfl, e2, zao, Iss.lt l h⟩
      · rename_i ij;have q := k.slot j s ej
        cases s with
        | un => exact True.intro
        | val d => obtain ⟨v, e1, q⟩ := q; exact ⟨v, e1, Is.lt l q⟩
        | own es =>
          obtain ⟨a', ws, e1, e2, e3, q⟩ := q;refine ⟨a', ws, e1, e2, ?_, Iss.lt l q⟩;rw [zal (fun z => ij (k.inj i j a ho (by rw [<- z]; exact zcW e1)))];exact e3
        | exc c n => obtain ⟨v, e1, q⟩ := q; exact ⟨v, e1, q.lt l⟩
    own := k.own
    inj := k.inj
    olen := by rw [List.length_set, k.olen]
    slen := by rw [List.length_set, k.slen] }
theorem Hk.set {j : Nat} {c c' : Cl} {o' : HO} (h : Hk K mg P H M) (e : M[j]? = some c) (w : zfv K mg P (upd H (P.io j) o') (P.io j) c') : Lt P H P (upd H (P.io j) o') /\ LtE P H P (upd H (P.io j) o') /\ Hk K mg P (upd H (P.io j) o') (M.set j c') := by
 have jl : j < P.n := by rw [h.n]; exact (List.getElem?_eq_some_iff.mp e).1
 obtain ⟨o, eo, nf⟩ := h.cellAt jl;have l : Lt P H P (upd H (P.io j) o') := zfc (h.bd j jl) eo nf;refine ⟨l, ⟨Nat.le_refl _, fun _ _ => rfl, fun _ z => .inl z, fun _ z => z, fun a u ea n => by rw [zal (fun z => n j jl z.symm)]; exact ea, l.sure, fun k h1 h2 => absurd h1 (Nat.not_le.mpr h2)⟩, ⟨by rw [List.length_set, h.n], fun k b ek => ?_, h.inj, h.bd, fun a z q => h.here a z (l.sure a q)⟩⟩;rw [List.getElem?_set] at ek;split at ek
 ·rename_i jk;subst jk;rw [if_pos (by rw [<- h.n]; exact jl)] at ek;cases ek;exact w
 ·rename_i jk;have kl : k < P.n := by rw [h.n]; exact (List.getElem?_eq_some_iff.mp ek).1
  exact (h.cell k b ek).lt l fun u eu => by rw [zal (fun z => jk (h.inj j k jl kl z.symm))]; exact eu
theorem Ok.frz {ds : List D} (k : Ok K mg P0 H0 P Os H M st env) (hi : env[i]? = some (.own ds)) : ∃ P' Os', Lt P H P' H /\ Ok K mg P0 H0 P' Os' H M st (env.set i (.val (.lst ds))) := by
 obtain ⟨a, vs, e1, e2, e3, q⟩ := k.slot i _ hi;have ho := zcW e1;obtain ⟨b1, b2, b3⟩ := k.own a (List.mem_of_getElem? ho);have ilt : i < env.length := (List.getElem?_eq_some_iff.mp hi).1;have nO : ∀ b, some b ∈ Os.set i none -> some b ∈ Os /\ b ≠ a := fun b z => by
  obtain ⟨j, hj⟩ := List.mem_iff_getElem?.mp z;rw [List.getElem?_set] at hj;split at hj
  ·split at hj <;> cases hj
  ·rename_i ij;exact ⟨List.mem_of_getElem? hj, fun z => by subst z; exact ij (k.inj i j b ho hj)⟩
 have l : Lt P H (P.less (· ≠ a)) H := ⟨Nat.le_refl _, fun _ _ => rfl, fun c z => .inl z.1, fun _ _ e _ => e, fun _ z => z⟩;refine ⟨P.less (· ≠ a), Os.set i none, l, {
  hk := ⟨k.hk.n, fun j c ej => (k.hk.cell j c ej).lt l fun _ z => z, k.hk.inj, fun j hj => ⟨k.hk.bd j hj, b2 j hj⟩, fun c z => k.hk.here c z.1⟩
  base := ⟨k.base.n, k.base.io, fun c z => k.base.bd c z.1, fun c z => ⟨k.base.bm c z, fun q => k.b0 c z (q ▸ b3)⟩, k.base.keep, k.base.sure, k.base.nw⟩
  b0 := k.b0
  slot := fun j s ej => ?_
  own := fun c z => ?_
  inj := fun j l b z1 z2 => ?_
  olen := by rw [List.length_set, List.length_set, k.olen]
  slen := by rw [List.length_set, k.slen] }⟩
 ·rw [zdp _ _ _ _ (by rw [k.olen]; exact ilt)];rw [List.getElem?_set] at ej;split at ej
  ·rename_i ij;subst ij;cases ej;exact ⟨.ref a, e2, a, vs, rfl, .inl ⟨fun z => z.2 rfl, .inl e3⟩, Iss.less q⟩
  ·rename_i ij;rw [if_neg ij];have q := k.slot j s ej
   cases s with
   | un => exact True.intro
   | val d => obtain ⟨v, e1, q⟩ := q; exact ⟨v, e1, Is.less q⟩
   | own es => obtain ⟨a', ws, e1, e2, e3, q⟩ := q; exact ⟨a', ws, e1, e2, e3, Iss.less q⟩
   | exc c n => obtain ⟨v, e1, q⟩ := q; exact ⟨v, e1, q.lt l⟩
 ·obtain ⟨z1, z2⟩ := nO c z;obtain ⟨c1, c2, c3⟩ := k.own c z1;exact ⟨⟨c1, z2⟩, c2, c3⟩
 ·rw [List.getElem?_set] at z1 z2;split at z1
  ·split at z1 <;> cases z1
  ·split at z2
   ·split at z2 <;> cases z2
   ·exact k.inj j l b z1 z2
end
section
variable {X : Cx} {Wx : XW} {pos : Pos}
theorem zcu {s : Stmt} {t t' : TS} (h : PS X s t) (w : ∀ D σ H, t' D σ H -> t D σ H) : PS X s t' := fun pins s σ H D I hw => h pins s σ H D I (w D σ H hw)
theorem ziq {s : List Stmt} {t t' : TS} (h : PSs X s t) (w : ∀ D σ H, t' D σ H -> t D σ H) : PSs X s t' := fun pins s σ H D I hw => h pins s σ H D I (w D σ H hw)
def sEnd : S := fun env M => some (.nx env, M)
def sSeq (f g : S) : S := fun env M => match f env M with
 | some (.nx e, M1) => g e M1
 | o => o
theorem zag : SB X Wx [] sEnd := by
 refine ziq zit ?_;rintro D st H ⟨P0, H0, P, Os, env, M, out, M', k, e, q⟩;cases e;exact q P Os H st (Lt.refl P H) k
theorem Post.lt {K : Fgx} {mg : Mgx} {P0 P P1 : Pl} {H0 H H1 : Hp} {M' : Mm} {D : Ends} {o : Out} (l : Lt P H P1 H1) (q : Post K mg Wx P0 H0 P H M' D o) : Post K mg Wx P0 H0 P1 H1 M' D o := by
 cases o with
 | nx env => exact fun P' Os' H' st' l' k => q P' Os' H' st' (l.trans l') k
 | bk env => exact fun P' Os' H' st' l' k => q P' Os' H' st' (l.trans l') k
 | ct env => exact fun P' Os' H' st' l' k => q P' Os' H' st' (l.trans l') k
 | rt d => exact q
 | ex c n => exact q
theorem zab {s : Stmt} {ss : List Stmt} {f g : S} (h1 : SS X Wx s f) (h2 : SB X Wx ss g) : SB X Wx (s :: ss) (sSeq f g) := by
  refine ziq (zeC h1 h2) ?_;rintro D st H ⟨P0, H0, P, Os, env, M, out, M', k, e, q⟩;unfold sSeq at e;split at e
  · rename_i e1 M1 ef;refine ⟨P0, H0, P, Os, env, M, _, _, k, ef, fun P1 Os1 H1 st1 l1 k1 => ?_⟩;exact ⟨P0, H0, P1, Os1, e1, M1, _, _, k1, e, q.lt l1⟩
  · rename_i o ho
    cases ef : f env M with
    | none => rw [ef] at e; cases e
    | some om =>
      obtain ⟨o1, M1⟩ := om;rw [ef] at e;cases e;refine ⟨P0, H0, P, Os, env, M, _, _, k, ef, ?_⟩
      cases out with
      | nx env' => exact (ho _ _ ef).elim
      | bk env' => exact q
      | ct env' => exact q
      | rt d => exact q
      | ex c n => exact q
def sAsg (i : Nat) (f : E) : S := fun env M => bndS (f env M) fun d M1 => if i < env.length then some (.nx (env.set i (.val d)), M1) else none
theorem za7 {i : Nat} {x : Str} {e : Expr} {f : E} {pos' : Pos} (hN : X.N.Nodup) (hi : X.N[i]? = some x) (hx : Loc X.env.scope x) (he : SE X Wx .val e f) (hs : swapsWith e (some (.Name x pos')) pos.line X.env = pure false := by rfl)
  (hf : X.fn x = true \/ X.env.scope.names.lookup x = some .local := by first | exact .inl rfl | exact .inr rfl) : SS X Wx (.Assign [.Name x pos'] e pos) (sAsg i f) := by
 refine zcu (zls hN hi hx he hs hf) ?_;rintro D st H ⟨P0, H0, P, Os, env, M, out, M', k, e, q⟩;unfold sAsg at e;rcases za0 e with ⟨d, M1, e1, e⟩ | ⟨c, n, e1, rfl⟩
 ·split at e
  ·rename_i hl;cases e;exact ⟨P0, H0, P, Os, env, M, _, _, k, e1, fun P1 v1 H1 l1 h1 i1 => q _ _ _ _ (l1.lt k.hk) ((k.next l1 h1).asg hl i1)⟩
  ·cases e
 ·exact ⟨P0, H0, P, Os, env, M, _, _, k, e1, q⟩
def zjN (i : Nat) (f : E) : S := fun env M => bndS (f env M) fun d M1 => match d with
 | .lst ds => if i < env.length then some (.nx (env.set i (.own ds)), M1) else none
 | _ => none
theorem zj2 {i : Nat} {x : Str} {e : Expr} {f : E} {pos' : Pos} (hN : X.N.Nodup) (hi : X.N[i]? = some x) (hx : Loc X.env.scope x) (he : SN X Wx e f) (hs : swapsWith e (some (.Name x pos')) pos.line X.env = pure false := by rfl)
  (hf : X.fn x = true \/ X.env.scope.names.lookup x = some .local := by first | exact .inl rfl | exact .inr rfl) : SS X Wx (.Assign [.Name x pos'] e pos) (zjN i f) := by
 refine zcu (zls hN hi hx he hs hf) ?_;rintro D st H ⟨P0, H0, P, Os, env, M, out, M', k, e, q⟩;unfold zjN at e;rcases za0 e with ⟨d, M1, e1, e⟩ | ⟨c, n, e1, rfl⟩
 ·cases d <;> simp only [reduceCtorEq] at e
  rename_i ds;split at e
  ·rename_i hl;cases e;exact ⟨P0, H0, P, Os, env, M, _, _, k, e1, ds, rfl, fun P1 a vs H1 l1 h1 ha ba nc ea is => q _ _ _ _ (l1.lt k.hk) (k.mine l1 h1 hl ha ba nc ea is)⟩
  ·cases e
 ·exact ⟨P0, H0, P, Os, env, M, _, _, k, e1, q⟩
def sRet (f : E) : S := fun env M => bndS (f env M) fun d M1 => some (.rt d, M1)
theorem zap {e : Expr} {f : E} (he : SE X Wx .val e f) : SS X Wx (.Return (some e) pos) (sRet f) := by
 refine zcu (zrN he) ?_;rintro D st H ⟨P0, H0, P, Os, env, M, out, M', k, e, q⟩;unfold sRet at e;rcases za0 e with ⟨d, M1, e1, e⟩ | ⟨c, n, e1, rfl⟩
 ·cases e;exact ⟨P0, H0, P, Os, env, M, _, _, k, e1, fun P1 v1 H1 l1 h1 i1 => q P1 v1 H1 (k.base.trans l1) h1 i1⟩
 ·exact ⟨P0, H0, P, Os, env, M, _, _, k, e1, q⟩
def zgk (f : E) : S := fun env M => bndS (f env M) fun _ M1 => some (.nx env, M1)
theorem ziA {e : Expr} {f : E} (he : SE X Wx .bor e f) (hs : swapsWith e none pos.line X.env = pure false := by rfl) : SS X Wx (.Expr e pos) (zgk f) := by
 refine zcu (ze5 he hs) ?_;rintro D st H ⟨P0, H0, P, Os, env, M, out, M', k, e, q⟩;unfold zgk at e;rcases za0 e with ⟨d, M1, e1, e⟩ | ⟨c, n, e1, rfl⟩
 ·cases e;exact ⟨P0, H0, P, Os, env, M, _, _, k, e1, fun P1 v1 H1 l1 h1 i1 => q _ _ _ _ (l1.lt k.hk) (k.next l1 h1)⟩
 ·exact ⟨P0, H0, P, Os, env, M, _, _, k, e1, q⟩
def sIf (c : E) (f g : S) : S := fun env M => bndS (c env M) fun d M1 => match d with
 | .bl b => if b = true then f env M1 else g env M1
 | _ => none
theorem zbf {c : Expr} {a b : List Stmt} {t : E} {f g : S} (hc : ST X Wx c t) (ha : SB X Wx a f) (hb : SB X Wx b g) : SS X Wx (.If c a b pos) (sIf t f g) := by
  refine zcu (ztO hc ha hb) ?_;rintro D st H ⟨P0, H0, P, Os, env, M, out, M', k, e, q⟩;unfold sIf at e;rcases za0 e with ⟨d, M1, e1, e⟩ | ⟨c, n, e1, rfl⟩
  · cases d <;> simp only [reduceCtorEq] at e
    rename_i b;refine zcY k e1 ⟨b, rfl, fun P1 H1 l1 h1 => ?_⟩
    cases b with
    | true =>
      rw [if_pos rfl] at e ⊢;exact ⟨P0, H0, P1, Os, env, M1, _, _, k.next l1 h1, e, q.lt (l1.lt k.hk)⟩
    | false =>
      rw [if_neg (by decide)] at e ⊢;exact ⟨P0, H0, P1, Os, env, M1, _, _, k.next l1 h1, e, q.lt (l1.lt k.hk)⟩
  · exact zcY k e1 q
def sFrz (i : Nat) : S := fun env M => match env[i]? with
 | some (.own ds) => some (.nx (env.set i (.val (.lst ds))), M)
 | _ => none
theorem zm2 {ss : List Stmt} {i : Nat} {g : S} (h : SB X Wx ss g) : SB X Wx ss (sSeq (sFrz i) g) := by
 refine ziq h ?_;rintro D st H ⟨P0, H0, P, Os, env, M, out, M', k, e, q⟩;unfold sSeq sFrz at e;split at e
 ·rename_i e1 M1 ef;split at ef
  ·rename_i ds es;cases ef;obtain ⟨P1, Os1, l1, k1⟩ := k.frz es;exact ⟨P0, H0, P1, Os1, _, _, _, _, k1, e, q.lt l1⟩
  ·cases ef
 ·rename_i ho;split at e
  ·rename_i es;exact (ho _ _ (by rw [es])).elim
  ·cases e
def sApp (i : Nat) (f : E) : S := fun env M => match env[i]? with
 | some (.own ds) => bndS (f env M) fun d M1 => if ds.length < sizeLine then some (.nx (env.set i (.own (ds ++ [d]))), M1) else none
 | _ => none
theorem zmE {i : Nat} {x : Str} {e : Expr} {f : E} {p0 p q : Pos} (hN : X.N[i]? = some x) (hv : Vis X.env.scope x) (he : SE X Wx .val e f) (hd : (x == ("__debug__" : Str)) = false := by x_go) (hcd : (x == ("__classdict__" : Str)) = false := by x_go)
  (hfew : ((backTo q (starEach [e] X.env)).all (fun x => !x.1) && (backToKw q (keywordEach [] X.env)).all (fun x => x.1.isSome) && decide ([e].length + ([] : List Keyword).length + (if ([] : List Keyword).isEmpty then 0 else 1) < 30)) = true := by rfl)
  (hline : (p.endLine == q.line) = true := by rfl) (hs : starEach [e] X.env = (false, eval e X.env) :: starEach [] X.env := by rfl) (hw : swapsWith (.Call (.Attribute (.Name x p0) "append" p) [e] [] q) none pos.line X.env = pure false := by rfl) :
  SS X Wx (.Expr (.Call (.Attribute (.Name x p0) "append" p) [e] [] q) pos) (sApp i f) := by
 refine zcu (ze5 (zos PySem.F.plainAttrs_list PySem.F.slot_list_append PySem.F.type_list_append zf2 (zh7 hN hv hd hcd) (zdF he zgH hs) rfl hfew hline hs rfl) hw) ?_;rintro D st H ⟨P0, H0, P, Os, env, M, out, M', k, e, q⟩;unfold sApp at e;split at e
 ·rename_i ds es;obtain ⟨a, vs, o1, o2, o3, o4⟩ := k.slot i _ es;refine ⟨.ref a, zcW o2, .inl ⟨rfl, vs, .inl (.inl o3)⟩, ?_⟩;rcases za0 e with ⟨d, M1, e1, e⟩ | ⟨c, n, e1, rfl⟩
  ·split at e
   ·rename_i hz;cases e;refine zax k e1 fun P1 v1 H1 l1 h1 i1 => ?_;have k1 := k.next l1 h1
    obtain ⟨a', vs', o1', o2', o3', o4'⟩ := k1.slot i _ es;have ea : a' = a := by
     have z := o2'.symm.trans o2;cases z;rfl
    subst ea;refine ⟨a', vs', v1, rfl, rfl, o3', by rw [o4'.len]; exact hz, ?_⟩;obtain ⟨l2, k2⟩ := k1.chg es (zcW o1') o3' (Iss.append o4' (Iss.one i1));exact q _ _ _ _ ((l1.lt k.hk).trans l2) k2
   ·cases e
  ·exact zax k e1 q
 ·cases e
def Wk (K : Fgx) (P1 : Pl) (H1 : Hp) (J : It) (ds : List D) : Prop := ∀ P H, Lt P1 H1 P H -> (∀ k, k < ds.length -> J.go k H) /\ (∀ k, ds.length <= k -> k <= ds.length -> J.stop k H) /\ ∀ k x H', J.yld k H x H' -> k < ds.length -> H' = H /\ ∃ d, ds[k]? = some d /\ Is K P H d x
def IQ (K : Fgx) (mg : Mgx) (Wx : XW) (P0 : Pl) (H0 : Hp) (P : Pl) (H : Hp) (M' : Mm) (R : It -> Hp -> Prop) : ResA -> Prop
 | .v ds => ∀ P' H' J, LtE P H P' H' -> Hk K mg P' H' M' -> Wk K P' H' J ds -> R J H'
 | .x c n => Wx P0 H0 M' c n
def tI (K : Fgx) (mg : Mgx) (Wx : XW) (fs : EA) : TI := fun st H R => ∃ P0 H0 P Os env M r M', Ok K mg P0 H0 P Os H M st env /\ fs env M = some (r, M') /\ IQ K mg Wx P0 H0 P H M' R r
def SI (X : Cx) (Wx : XW) (tg iter : Expr) (fs : EA) : Prop := PI X tg iter (tI X.K X.mg Wx fs)
theorem zhV {tg iter : Expr} {t t' : TI} (h : PI X tg iter t) (w : ∀ σ H R, t' σ H R -> t σ H R) : PI X tg iter t' := fun pins s σ H R I hw => h pins s σ H R I (w σ H R hw)
def loopS (i : Nat) (body : S) : List D -> Env -> Mm -> OS
  | [], env, M => some (.nx env, M)
  | d :: ds, env, M => if i < env.length then (match body (env.set i (.val d)) M with
    | some (.nx e, M1) => loopS i body ds e M1
    | some (.ct e, M1) => loopS i body ds e M1
    | some (.bk e, M1) => some (.nx e, M1)
    | some (.rt d, M1) => some (.rt d, M1)
    | some (.ex c n, M1) => some (.ex c n, M1)
    | none => none) else none
def sFor (i : Nat) (fs : EA) (body : S) : S := fun env M => match fs env M with
 | some (.v ds, M1) => loopS i body ds env M1
 | some (.x c n, M1) => some (.ex c n, M1)
 | none => none
theorem zlD {K : Fgx} {mg : Mgx} {P0 P1 : Pl} {H0 H1 : Hp} {Os : List (Option Addr)} {M M' : Mm} {st : L2.St} {env : Env} {i : Nat} {b : S} {J : It} {ds : List D} {out : Out} {D : Ends} (k : Ok K mg P0 H0 P1 Os H1 M st env) (wk : Wk K P1 H1 J ds)
  (h : loopS i b ds env M = some (out, M')) (q : Post K mg Wx P0 H0 P1 H1 M' D out) :
  ∃ W : Nat -> Nat -> L2.St -> Hp -> Prop, (∃ m, W 0 m st H1) /\ ∀ j m σ H, W j m σ H ->
   (J.stop j H /\ D.nx σ H) \/ (J.go j H /\ ∃ Nn : L2.St -> Hp -> Prop, (∀ σ' H', Nn σ' H' -> ∃ m', m' < m /\ W (j + 1) m' σ' H') /\ ∀ x H', J.yld j H x H' -> zoA i x σ H' fun σ2 H2 => tS K mg Wx b { D with nx := Nn, ct := Nn, bk := D.nx } σ2 H2) := by
 refine ⟨fun j m σ H => m = ds.length - j /\ j <= ds.length /\ ∃ P Os' M1 env', Lt P1 H1 P H /\ Ok K mg P0 H0 P Os' H M1 σ env' /\ loopS i b (ds.drop j) env' M1 = some (out, M'), ⟨ds.length, by simp, Nat.zero_le _, P1, Os, M, env, Lt.refl _ _, k, h⟩, ?_⟩;rintro j m σ H ⟨rfl, hj, P, Os', M1, env', lt, k', h'⟩;obtain ⟨w1, w2, w3⟩ := wk P H lt
 by_cases hlt : j < ds.length
 ·refine .inr ⟨w1 j hlt, fun σ' H' => ∃ P Os' M1 env', Lt P1 H1 P H' /\ Ok K mg P0 H0 P Os' H' M1 σ' env' /\ loopS i b (ds.drop (j + 1)) env' M1 = some (out, M'), fun σ' H' z => ⟨ds.length - (j + 1), by omega, rfl, hlt, z⟩, fun x H' y => ?_⟩;obtain ⟨e3, d, ed, iv⟩ := w3 j x H' y hlt;subst e3;have ed' : ds.drop j = d :: ds.drop (j + 1) := by
   rw [List.drop_eq_getElem_cons hlt];rw [List.getElem?_eq_getElem hlt] at ed;rw [Option.some.inj ed]
  rw [ed'] at h';simp only [loopS] at h';split at h'
  ·rename_i hi;have k2 := k'.asg hi iv;split at h'
   ·rename_i e M2 eb;exact ⟨P0, H0, P, _, _, M1, _, _, k2, eb, fun P' Os2 H2 st2 l2 k3 => ⟨P', Os2, _, e, lt.trans l2, k3, h'⟩⟩
   ·rename_i e M2 eb;exact ⟨P0, H0, P, _, _, M1, _, _, k2, eb, fun P' Os2 H2 st2 l2 k3 => ⟨P', Os2, _, e, lt.trans l2, k3, h'⟩⟩
   ·rename_i e M2 eb;cases h';exact ⟨P0, H0, P, _, _, M1, _, _, k2, eb, fun P' Os2 H2 st2 l2 k3 => q P' Os2 H2 st2 (lt.trans l2) k3⟩
   ·rename_i e M2 eb;cases h';exact ⟨P0, H0, P, _, _, M1, _, _, k2, eb, q⟩
   ·rename_i c n M2 eb;cases h';exact ⟨P0, H0, P, _, _, M1, _, _, k2, eb, q⟩
   ·cases h'
  ·cases h'
 ·have ej : j = ds.length := by omega
  subst ej;rw [List.drop_length] at h';cases h';exact .inl ⟨w2 _ (Nat.le_refl _) (Nat.le_refl _), q P Os' H σ lt k'⟩
theorem zim {i : Nat} {x : Str} {p : Pos} {iter : Expr} {body : List Stmt} {fs : EA} {b : S} (hp : PassesOwn (model X.prog X.w) X.A X.env X.xe) (hc : X.calm = true) (hN : X.N.Nodup) (hi : X.N[i]? = some x) (hx : Loc X.env.scope x) (hI : SI X Wx (.Name x p) iter fs) (hb : SB X Wx body b)
  (hf : X.fn x = true \/ X.env.scope.names.lookup x = some .local := by first | exact .inl rfl | exact .inr rfl) (hs : ∀ x, foldedSetIterable iter X.env x = pure x := by intro _; rfl) : SS X Wx (.For (.Name x p) iter body [] pos) (sFor i fs b) := by
 refine zcu (znm hp hc hI (zkE hN hi hx hf) hb hs) ?_;rintro D st H ⟨P0, H0, P, Os, env, M, out, M', k, e, q⟩;unfold sFor at e;split at e
 ·rename_i ds M1 ef;exact ⟨P0, H0, P, Os, env, M, _, _, k, ef, fun P1 H1 J l1 h1 wk => zlD (k.next l1 h1) wk e (q.lt (l1.lt k.hk))⟩
 ·rename_i c n M1 ef;cases e;exact ⟨P0, H0, P, Os, env, M, _, _, k, ef, q⟩
 ·cases e
def iLst (f : E) : EA := fun env M => match f env M with
 | some (.v (.lst ds), M1) => some (.v ds, M1)
 | some (.x c n, M1) => some (.x c n, M1)
 | _ => none
theorem zqv {tg e : Expr} {f : E} (h : SE X Wx .val e f) : SI X Wx tg e (iLst f) := by
 refine zhV (znP h) ?_;rintro st H R ⟨P0, H0, P, Os, env, M, r, M', k, e, q⟩;unfold iLst at e;split at e
 ·rename_i ds M1 ef;cases e;refine ⟨P0, H0, P, Os, env, M, _, _, k, ef, fun P1 v1 H1 l1 h1 i1 => ?_⟩;obtain ⟨a, vs, rfl, ra, is⟩ := i1;refine ⟨a, rfl, ⟨vs, ra.imp (·.2) id⟩, q P1 H1 _ l1 h1 fun P2 H2 l2 => ?_⟩;have ra2 := l2.rda ra;have is2 := Iss.lt l2 is;have sq : SqL X.K H2 a vs := ra2.imp (·.2) id;refine ⟨fun j hj => ?_, fun j h1 h2 => ⟨vs, sq, by rw [is2.len]; exact h1⟩, fun j x H' y hj => ⟨y.1, ?_⟩⟩
  ·obtain ⟨v, ev, _⟩ := Iss.get is2 (List.getElem?_eq_getElem hj);exact ⟨vs, v, sq, ev⟩
  ·obtain ⟨v, ev, iv⟩ := Iss.get is2 (List.getElem?_eq_getElem hj);have := y.2 vs sq;rw [ev] at this;cases this;exact ⟨_, List.getElem?_eq_getElem hj, iv⟩
 ·rename_i c n M1 ef;cases e;exact ⟨P0, H0, P, Os, env, M, _, _, k, ef, q⟩
 ·cases e
end
abbrev G := List D -> Mm -> O
def spG (K : Fgx) (mg : Mgx) (n : Nat) (g : G) : Sp := fun vs H Q _ => vs.length = n /\ ∃ P M ds d M', Hk K mg P H M /\ Iss K P H ds vs /\ g ds M = some (.v d, M') /\ ∀ P' v H', LtE P H P' H' -> Hk K mg P' H' M' -> Is K P' H' d v -> Q v H'
def endS (o : OS) : O := match o with
 | some (.rt d, M) => some (.v d, M)
 | some (.nx _, M) => some (.v .non, M)
 | some (.ex c n, M) => some (.x c n, M)
 | _ => none
def fnG (n : Nat) (b : S) : G := fun ds M => endS (b (ds.map .val ++ List.replicate (n - ds.length) .un) M)
theorem zi4 {K : Fgx} {mg : Mgx} {P : Pl} {H : Hp} {M : Mm} {N : List Str} {ds : List D} {vs : List V} (hk : Hk K mg P H M) (hl : vs.length <= N.length) (h : Iss K P H ds vs) :
  Ok K mg P H P (List.replicate N.length none) H M (L2.start N vs) (ds.map .val ++ List.replicate (N.length - ds.length) .un) := by
 have hd := h.len;refine ⟨hk, LtE.refl P H, hk.here, fun i s e => ?_, fun a z => ?_, fun i j a e1 _ => ?_, by simp; omega, by simp [L2.start]; omega⟩
 ·have e0 : ((List.replicate N.length (none : Option Addr))[i]?).join = none := by
   rw [List.getElem?_replicate]
   split <;> rfl
  rw [e0]
  by_cases hi : i < ds.length
  ·rw [List.getElem?_append_left (by simpa using hi), List.getElem?_map, List.getElem?_eq_getElem hi] at e;simp only [Option.map_some, Option.some.injEq] at e;subst e;obtain ⟨v, ev, p⟩ := h.get (List.getElem?_eq_getElem hi);refine ⟨v, ?_, p⟩;unfold L2.start;rw [List.getElem?_append_left (by rw [List.length_map]; omega), List.getElem?_map, ev];rfl
  ·rw [List.getElem?_append_right (by simpa using hi), List.getElem?_replicate] at e;split at e
   ·cases e; exact True.intro
   ·cases e
 ·exact absurd (List.eq_of_mem_replicate z) (by simp)
 ·rw [List.getElem?_replicate] at e1;split at e1 <;> cases e1
structure FunD (K : Fgx) (x qual : Str) (st : Stmt) (f : Addr) (fd : FuncData) : Prop where
 ex : ∃ (oc : Value) (od : Option Addr) (dV kV doc pm : Value) (an : Option Addr) (cdv ct : Value) (osl : Array (Option Value)),
  fd = PySem.W.fnOf x qual (zbI st) (zaU st) (zah st) dV kV doc pm an cdv ct /\ K.lookup f = some ⟨oc, od, .func fd, osl⟩ /\ PySem.W.codeIn K cdv qual = true
 kp : PySem.W.keepIn K (.ref f) = true
theorem zeW {K : Fgx} {x qual : Str} {st : Stmt} {f : Addr} {oc : Value} {od an : Option Addr} {osl : Array (Option Value)} {dV kV doc pm cdv ct : Value} (l : K.lookup f = some ⟨oc, od, .func (PySem.W.fnOf x qual (zbI st) (zaU st) (zah st) dV kV doc pm an cdv ct), osl⟩)
  (c : PySem.W.codeIn K cdv qual = true) (k : PySem.W.keepIn K (.ref f) = true) : FunD K x qual st f (PySem.W.fnOf x qual (zbI st) (zaU st) (zah st) dV kV doc pm an cdv ct) := ⟨⟨oc, od, dV, kV, doc, pm, an, cdv, ct, osl, rfl, l, c⟩, k⟩
section
variable {P : Program} {w : World} {K : Fgx} {mg : Mgx} {base : Heap} {k : Nat} {x qual : Str} {st : Stmt} {f : Addr} {fd : FuncData} {N ps : List Str} {b : S}
def W0 : XW := fun _ _ _ _ _ => False
abbrev cx0 (P : Program) (w : World) (K : Fgx) (mg : Mgx) (base : Heap) (N : List Str) (qual : Str) (st : Stmt) (f : Addr) (cdv : Value) (A : Around) (outer : List PySem.Env) (s : Shared) (H : Hp) (E : XK) : Cx := (cxOf CX0 P w K mg base N qual (zah st) f cdv A outer s H E).nox
theorem ziX (F : FunD K x qual st f fd) (S : FnScope N ps (zah st)) (hp : ps.length <= N.length)
  (hb : ∀ cdv A outer s H E, Room k (A.deeper (envOfC qual (zah st) s.heap.objs.size f cdv)) -> SB (cx0 P w K mg base N qual st f cdv A outer s H E) W0 (zaU st) b) : FnOk P w K mg base CX0 (k + 1) f fd ps (spG K mg ps.length (fnG N.length b)) := by
 obtain ⟨oc, od, dV, kV, doc, pm, an, cdv, ct, osl, rfl, lk, hcd⟩ := F.ex;refine znZ lk hcd S (fun vs H Q E h => h.1) fun A outer s H vs Q E hr h => ?_;obtain ⟨hl, Pl, M, ds, d, M', hk, is, e, q⟩ := h;refine ⟨_, PSs.nox (hb cdv A outer s H E hr), ?_⟩;unfold fnG endS at e;have st0 := zi4 (N := N) hk (by omega) is;split at e
 ·rename_i d' M2 eb;cases e;exact ⟨Pl, H, Pl, _, _, M, _, _, st0, eb, fun P' v H' l h i => q P' v H' l h i⟩
 ·rename_i env M2 eb;cases e;exact ⟨Pl, H, Pl, _, _, M, _, _, st0, eb, fun P' Os' H' st' _ k' => q P' .non H' k'.base k'.hk rfl⟩
 ·rename_i c n M2 eb;cases e
 ·cases e
def AtG (P : Program) (w : World) (K : Fgx) (mg : Mgx) (base : Heap) (k : Nat) (f : Str) (n : Nat) (g : G) : Prop :=
 ∃ fa fd ps ds dvs sp, mg f = some (.ref fa) /\ PySem.W.keepIn K (.ref fa) = true /\ FnOk P w K mg base CX0 k fa fd ps sp /\ Binds K fd ps ds /\ Vals dvs ds /\ ∀ vs H Q E, spG K mg n g vs H Q E -> sp (vs ++ dvs) H Q E
theorem zs3 (F : FunD K x qual st f fd) (S : FnScope N ps (zah st)) (hp : ps.length <= N.length) (hm : mg x = some (.ref f)) (hd : Binds K fd ps [])
  (hb : ∀ cdv A outer s H E, Room k (A.deeper (envOfC qual (zah st) s.heap.objs.size f cdv)) -> SB (cx0 P w K mg base N qual st f cdv A outer s H E) W0 (zaU st) b) : AtG P w K mg base (k + 1) x ps.length (fnG N.length b) :=
 ⟨f, fd, ps, [], [], _, hm, F.kp, ziX F S hp hb, hd, .nil, fun vs H Q E h => by rw [List.append_nil]; exact h⟩
theorem AtG.mono {j : Nat} {n : Nat} {g : G} (a : AtG P w K mg base j x n g) (h : j <= k) : AtG P w K mg base k x n g := by
 obtain ⟨fa, fd, ps, ds, dvs, sp, h1, h2, h3, h4⟩ := a;exact ⟨fa, fd, ps, ds, dvs, sp, h1, h2, h3.mono h, h4⟩
end
section
variable {X : Cx} {Wx : XW} {m : Mode}
def zaO (g : G) (fs : EA) : E := fun env M => bndA (fs env M) fun ds M1 => match g ds M1 with
 | some (.v d, M2) => some (.v d, M2)
 | _ => none
theorem AllM.len {K : Fgx} {P : Pl} {H : Hp} : ∀ {ds : List D} {vs : List V}, AllM K P H m ds vs -> vs.length = ds.length
  | [], _, h => by rw [show _ = [] from h]; rfl
  | d :: ds, _, h => by
    obtain ⟨v, r, e, _, q⟩ := h;subst e
    simp [AllM.len q]
def Cnt (n : Nat) (fs : EA) : Prop := ∀ env M ds M', fs env M = some (.v ds, M') -> ds.length = n
theorem cnt_nil : Cnt 0 sNil := fun env M ds M' e => by cases e; rfl
theorem cnt_cons {n : Nat} {f : E} {fs : EA} (h : Cnt n fs) : Cnt (n + 1) (zad f fs) := fun env M ds M' e => by
 unfold zad at e;split at e
 ·split at e
  ·rename_i ef;cases e;rw [List.length_cons, h _ _ _ _ ef]
  ·cases e
  ·cases e
 ·cases e
 ·cases e
theorem zas {k n : Nat} {f : Str} {g : G} {e : Expr} {es : List Expr} {fs : EA} {p pos : Pos} (a : AtG X.prog X.w X.K X.mg X.base k f n g) (hr : Room k X.A) (hg : Gl X f) (ha : SA X Wx .val (e :: es) fs) (hn : Cnt n fs) (hdb : (f == ("__debug__" : Str)) = false := by x_go)
  (he : starEach (e :: es) X.env = (false, eval e X.env) :: starEach es X.env := by rfl) (hpl : (backTo pos (starEach es X.env)).any (·.1) = false := by rfl) : SE X Wx m (.Call (.Name f p) (e :: es) [] pos) (zaO g fs) := by
 obtain ⟨fa, fd, ps, ds, dvs, sp, hm, hk, F, hb, hv, himp⟩ := a;refine zaP (znF F hr hg hm hk hb hv zre ha hdb he hpl) ?_;rintro st H Q ⟨P0, H0, P, Os, env, M, r, M', k, e, q⟩;unfold zaO at e;rcases zdm e with ⟨ds, M1, e1, e⟩ | ⟨c, n, e1, rfl⟩
 ·split at e
  ·rename_i d M2 eg;cases e;exact ⟨P0, H0, P, Os, env, M, _, _, k, e1, fun P1 vs H1 l1 h1 i1 => himp _ _ _ _ ⟨by rw [i1.len]; exact hn _ _ _ _ e1, P1, M1, ds, d, _, h1, i1.iss, eg, fun P2 v H2 l2 h2 i2 => q P2 v H2 (l1.trans l2) h2 (IsM.of h2 i2)⟩⟩
  ·cases e
 ·exact ⟨P0, H0, P, Os, env, M, _, _, k, e1, q⟩
end
def zk8 (i j : Int) : Prop := CMul i j \/ (i.natAbs.log2 < 10000 /\ j.natAbs.log2 < 10000)
theorem zjl {i : Int} (h : i.natAbs.log2 < 10000) : Builtin.Int.intBits i <= 10001 := by
 unfold Builtin.Int.intBits
 split <;> omega
theorem zk8.ok {i j : Int} (h : zk8 i j) : IntMulOk i j := by
 rcases h with h | ⟨h1, h2⟩
 ·exact h.ok
 ·exact mulOk_of_bits (zjl h1) (zjl h2) (by decide)
theorem zcZ {X : Cx} : OpR X (binaryOp .Mult) (rI zk8 fun i j => .int (i * j)) := opI fun _ _ _ _ _ _ _ hc q => mul_int q hc.ok
section
variable {X : Cx} {pins : Pnx} {σ : L2.St} {H : Hp} {s : Shared} {K : Fgx}
def zq5 (K : Fgx) : R2 := fun x y H Q => ∃ l b xs zs, x = .ref l /\ y = .ref b /\ SqL K H l xs /\ SqL K H b zs /\ xs.length + zs.length <= sizeLine /\ ∀ p, H p = none -> Q (.ref p) (upd H p (.lst (xs ++ zs)))
theorem zn6 : OpR X (binaryOp .Add) (zq5 X.K) := by
 intro pins s σ H x y v u Q I rx ry h;obtain ⟨l, b, xs, zs, rfl, rfl, hH, hB, hz, q⟩ := h;cases rx;cases ry;obtain ⟨z, its, r, ⟨cls, dd, data, sl⟩, ho, hc, n, hd⟩ := sql I hH;obtain ⟨z2, its2, r2, ⟨cls2, dd2, data2, sl2⟩, ho2, hc2, n2, hd2⟩ := sql I hB;simp only at hc hd hc2 hd2;subst hc hd hc2 hd2;have hl := r.length;have hl2 := r2.length;refine concat_meets ⟨_, ho, rfl⟩ ⟨_, ho2, rfl⟩ noFill_list_add seq_list_add F.slot_list_add F.entry_list_add (F.args_list_add_2 _ _) (list_addW l b its.toArray its2.toArray n n2 dd dd2 sl sl2 (by rw [List.size_toArray, List.size_toArray]; omega)) ⟨ho, ho2, ?_⟩;have ea : its.toArray ++ its2.toArray = (its ++ its2).toArray := by simp
 rw [ea];exact ⟨.ref _, _, I.lnew (t' := s.toks) (r.append r2) (by rw [List.length_append]; omega), rfl, q _ I.fresh⟩
theorem zix {P : Pl} {H : Hp} {ds : List D} {vs : List V} {Q : VK} (hn : ∀ p, H p = none -> ¬ P.bd p) (h : Iss K P H ds vs) (q : ∀ u H', Same H H' -> Is K P H' (.lst ds) u -> Q u H') : ∀ p, H p = none -> Q (.ref p) (upd H p (.lst vs)) := fun p hp => by
 have s := zcn (o := .lst vs) hp;exact q _ _ s ⟨p, vs, rfl, .inl ⟨hn p hp, .inl zao⟩, Iss.lt ⟨Nat.le_refl _, fun _ _ => rfl, fun _ z => .inl z, fun a o e _ => s a o e, fun a z => s.free z⟩ h⟩
theorem ziF {P : Pl} {H : Hp} {ds : List D} {vs : List V} {Q : VK} (h : Iss K P H ds vs) (q : ∀ u H', Same H H' -> Is K P H' (.tup ds) u -> Q u H') : ∀ p, H p = none -> Q (.ref p) (upd H p (.tup vs)) := fun p hp => by
 have s := zcn (o := .tup vs) hp;exact q _ _ s ⟨p, vs, rfl, .inl (.inl zao), Iss.lt ⟨Nat.le_refl _, fun _ _ => rfl, fun _ z => .inl z, fun a o e _ => s a o e, fun a z => s.free z⟩ h⟩
def oAdd : D -> D -> Option D
 | .int i, .int j => some (.int (i + j))
 | .str i, .str j => if i.length + j.length <= sizeLine then some (.str (i ++ j)) else none
 | .lst xs, .lst ys => if xs.length + ys.length <= sizeLine then some (.lst (xs ++ ys)) else none
 | _, _ => none
def rAdd (K : Fgx) : R2 := fun x y H Q => rI0 (fun i j => .int (i + j)) x y H Q \/ (∃ i j, x = .str i /\ y = .str j /\ i.length + j.length <= sizeLine /\ Q (.str (i ++ j)) H) \/ zq5 K x y H Q
theorem za4 : OpR X (binaryOp .Add) (rAdd X.K) := zqT.or (zjH.or zn6)
theorem zbM : zeo K (rAdd K) oAdd := fun P H d e z v w Q h h1 h2 hn q => by
 unfold oAdd at h;split at h
 ·cases h; cases h1; cases h2; exact .inl ⟨_, _, rfl, rfl, q _ H (Same.refl H) rfl⟩
 ·split at h
  ·rename_i hl; cases h; cases h1; cases h2; exact .inr (.inl ⟨_, _, rfl, rfl, hl, q _ H (Same.refl H) rfl⟩)
  ·cases h
 ·split at h
  ·rename_i hl;cases h;obtain ⟨a, vs, rfl, r1, s1⟩ := h1;obtain ⟨b, ws, rfl, r2, s2⟩ := h2;exact .inr (.inr ⟨a, b, vs, ws, rfl, rfl, r1, r2, by rw [s1.len, s2.len]; exact hl, zix hn (s1.append s2) q⟩)
  ·cases h
 ·cases h
def oI (g : Int -> Int -> Option D) : D -> D -> Option D
 | .int i, .int j => g i j
 | _, _ => none
theorem zhT {g : Int -> Int -> Option D} {P : Pl} {H : Hp} {d e z : D} {v w : V} (h : oI g d e = some z) (h1 : IsW K P H d v) (h2 : IsW K P H e w) : ∃ i j, v = .int i /\ w = .int j /\ g i j = some z := by
 unfold oI at h;split at h
 ·cases h1; cases h2; exact ⟨_, _, rfl, rfl, h⟩
 ·cases h
def oSub := oI fun i j => some (.int (i - j))
theorem zgy : zeo K (rI0 fun i j => .int (i - j)) oSub := fun P H d e z v w Q h h1 h2 _ q => by
 obtain ⟨i, j, rfl, rfl, h⟩ := zhT h h1 h2;cases h;exact ⟨i, j, rfl, rfl, q _ H (Same.refl H) rfl⟩
def oMul := oI fun i j => if i.natAbs < 18446744073709551616 \/ j.natAbs < 18446744073709551616 \/ (i.natAbs.log2 < 10000 /\ j.natAbs.log2 < 10000) then some (.int (i * j)) else none
theorem zef : zeo K (rI zk8 fun i j => .int (i * j)) oMul := fun P H d e z v w Q h h1 h2 _ q => by
 obtain ⟨i, j, rfl, rfl, h⟩ := zhT h h1 h2;split at h
 ·rename_i hg;cases h;exact ⟨i, j, rfl, rfl, by unfold zk8 CMul; rw [show (2 : Int) ^ 64 = 18446744073709551616 from rfl]; exact hg.elim (fun z => .inl (.inl ⟨by omega, by omega⟩)) (fun z => z.elim (fun z => .inl (.inr ⟨by omega, by omega⟩)) .inr), q _ H (Same.refl H) rfl⟩
 ·cases h
def zjL := oI fun i j => if 0 < j /\ j.natAbs < 1073741824 then some (.int (i / j)) else none
theorem zhc : zeo K (rI CDiv fun i j => .int (i / j)) zjL := fun P H d e z v w Q h h1 h2 _ q => by
 obtain ⟨i, j, rfl, rfl, h⟩ := zhT h h1 h2;split at h
 ·rename_i hg;cases h;exact ⟨i, j, rfl, rfl, ⟨hg.1, by omega⟩, q _ H (Same.refl H) rfl⟩
 ·cases h
def oMod := oI fun i j => if 0 < j then some (.int (i % j)) else none
theorem zc9 : zeo K (rI (fun _ j => 0 < j) fun i j => .int (i % j)) oMod := fun P H d e z v w Q h h1 h2 _ q => by
 obtain ⟨i, j, rfl, rfl, h⟩ := zhT h h1 h2;split at h
 ·rename_i hg;cases h;exact ⟨i, j, rfl, rfl, hg, q _ H (Same.refl H) rfl⟩
 ·cases h
def oPow := oI fun i j => if 0 <= j /\ j.natAbs <= 1000000 /\ i.natAbs < 18446744073709551616 then some (.int (i ^ j.toNat)) else none
theorem zgS : zeo K (rI CPow fun i j => .int (i ^ j.toNat)) oPow := fun P H d e z v w Q h h1 h2 _ q => by
 obtain ⟨i, j, rfl, rfl, h⟩ := zhT h h1 h2;split at h
 ·rename_i hg;cases h;exact ⟨i, j, rfl, rfl, by unfold CPow; rw [show (2 : Nat) ^ 64 = 18446744073709551616 from rfl]; exact ⟨hg.1, by omega, hg.2.2⟩, q _ H (Same.refl H) rfl⟩
 ·cases h
def oCmp (c : Cp) (a b : D) : Option D := (cmpD c a b).map .bl
theorem zat {c : Cp} : zeo K (rCp K c) (oCmp c) := fun P H d e z v w Q h h1 h2 _ q => by
 unfold oCmp at h;rw [Option.map_eq_some_iff] at h;obtain ⟨b, h, rfl⟩ := h;exact zjo h h1 h2 (q _ H (Same.refl H) rfl)
def oIx : D -> D -> Option D
 | .lst ds, .int i => atI ds i
 | .tup ds, .int i => atI ds i
 | .str z, .int i => if z.length <= sizeLine then (atI z.cps.toList i).map fun c => .str ⟨#[c]⟩ else none
 | _, _ => none
def rIx (K : Fgx) : R2 := fun x y H Q => rIxL K x y H Q \/ rIxT K x y H Q \/ rIxS x y H Q
theorem zar : IxR X (rIx X.K) := zo4.or (zpR.or zql)
theorem zk6 {P : Pl} {H : Hp} {ds : List D} {vs : List V} {d : D} {i : Int} (h : atI ds i = some d) (q : Iss K P H ds vs) : ∃ u, atI vs i = some u /\ Is K P H d u := by
 unfold atI at h ⊢;rw [q.len]
 cases e : ixN ds.length i with
 | none => rw [e] at h; cases h
 | some j => rw [e] at h; exact q.get h
theorem zaF : zeo K (rIx K) oIx := fun P H d e z v w Q h h1 h2 _ q => by
 unfold oIx at h;split at h
 ·obtain ⟨a, vs, rfl, r, s⟩ := h1;cases h2;obtain ⟨u, e, p⟩ := zk6 h s;exact .inl ⟨a, vs, _, u, rfl, rfl, r, e, q _ H (Same.refl H) p⟩
 ·obtain ⟨a, vs, rfl, r, s⟩ := h1;cases h2;obtain ⟨u, e, p⟩ := zk6 h s;exact .inr (.inl ⟨a, vs, _, u, rfl, rfl, r, e, q _ H (Same.refl H) p⟩)
 ·split at h
  ·rename_i hl;rw [Option.map_eq_some_iff] at h;obtain ⟨c, h, e⟩ := h;cases e;cases h1;cases h2;exact .inr (.inr ⟨_, _, c, rfl, rfl, hl, h, q _ H (Same.refl H) rfl⟩)
  ·cases h
 ·cases h
def bLen : List D -> Option D
 | [.lst ds] => some (.int ds.length)
 | [.tup ds] => some (.int ds.length)
 | [.str z] => if z.length <= sizeLine then some (.int z.length) else none
 | _ => none
def rLen (K : Fgx) : List V -> Hp -> VK -> Prop := fun xs H Q => (∃ p ys, xs = [.ref p] /\ (SqL K H p ys \/ SqT K H p ys) /\ Q (.int ys.length) H) \/ ∃ z, xs = [.str z] /\ z.length <= sizeLine /\ Q (.int z.length) H
theorem zaW : zdT X (.builtin "len") (rLen X.K) := zif.or zh2
theorem zcL : zgl K (rLen K) bLen := fun P H ds z vs Q h i _ q => by
 unfold bLen at h;split at h
 ·obtain ⟨v, ws, rfl, p, rfl⟩ := i;cases h;obtain ⟨a, us, rfl, r, s⟩ := p;exact .inl ⟨a, us, rfl, .inl r, q _ H (Same.refl H) (by rw [s.len]; rfl)⟩
 ·obtain ⟨v, ws, rfl, p, rfl⟩ := i;cases h;obtain ⟨a, us, rfl, r, s⟩ := p;exact .inl ⟨a, us, rfl, .inr r, q _ H (Same.refl H) (by rw [s.len]; rfl)⟩
 ·split at h
  ·rename_i hl;obtain ⟨v, ws, rfl, p, rfl⟩ := i;cases h;cases p;exact .inr ⟨_, rfl, hl, q _ H (Same.refl H) rfl⟩
  ·cases h
 ·cases h
def bMin : List D -> Option D
 | [.int i, .int j] => some (.int (if j < i then j else i))
 | _ => none
theorem zpM : zgl K (fun xs H Q => ∃ i j, xs = [.int i, .int j] /\ Q (.int (if j < i then j else i)) H) bMin := fun P H ds z vs Q h i _ q => by
 unfold bMin at h;split at h
 ·obtain ⟨v, ws, rfl, p, v', ws', rfl, p', rfl⟩ := i;cases h; cases p; cases p';exact ⟨_, _, rfl, q _ H (Same.refl H) rfl⟩
 ·cases h
end
section
variable {X : Cx} {Wx : XW} {m : Mode}
theorem zl6 {K : Fgx} {P : Pl} {H : Hp} {lo : Int} {n : Nat} : Wk K P H (Itr lo n) ((List.range n).map fun (k : Nat) => .int (lo + k)) := fun P' H' l => by
 rw [List.length_map, List.length_range];refine ⟨fun k hk => hk, fun k h1 _ => h1, fun k x H2 y hk => ⟨y.1, .int (lo + k), ?_, y.2⟩⟩;rw [List.getElem?_map, List.getElem?_range hk];rfl
def zhk (fs : EA) : EA := fun env M => match fs env M with
 | some (.v [.int j], M1) => if -1000000000 <= j /\ j <= 1000000000 then some (.v ((List.range j.toNat).map fun (k : Nat) => .int (0 + k)), M1) else none
 | some (.x c n, M1) => some (.x c n, M1)
 | _ => none
theorem ziJ {tg a : Expr} {fs : EA} {p pos : Pos} (hg : Gl X "range") (hm : X.mg "range" = none) (ha : SA X Wx .val [a] fs) (hs : starEach [a] X.env = [(false, eval a X.env)] := by rfl) : SI X Wx tg (.Call (.Name "range" p) [a] [] pos) (zhk fs) := by
 refine zhV (zkb hg hm ha hs) ?_;rintro st H R ⟨P0, H0, P, Os, env, M, r, M', k, e, q⟩;unfold zhk at e;split at e
 ·rename_i j M1 ef;split at e
  ·rename_i hj;cases e;refine ⟨P0, H0, P, Os, env, M, _, _, k, ef, fun P1 vs H1 l1 h1 i1 => ?_⟩;obtain ⟨v, ws, rfl, p, rfl⟩ := i1;exact ⟨j, by rw [show v = .int j from p], by omega, by omega, q P1 H1 _ l1 h1 zl6⟩
  ·cases e
 ·rename_i c n M1 ef;cases e;exact ⟨P0, H0, P, Os, env, M, _, _, k, ef, q⟩
 ·cases e
def pNo : Env -> Mm -> Option (Option Int × Mm) := fun _ M => some (none, M)
def pAt (f : E) : Env -> Mm -> Option (Option Int × Mm) := fun env M => match f env M with
 | some (.v (.int i), M1) => some (some i, M1)
 | _ => none
def tP (K : Fgx) (mg : Mgx) (f : Env -> Mm -> Option (Option Int × Mm)) : TO := fun st H Q => ∃ P0 H0 P Os env M i M', Ok K mg P0 H0 P Os H M st env /\ f env M = some (i, M') /\ ∀ P' H', LtE P H P' H' -> Hk K mg P' H' M' -> Q i H'
def SP3 (X : Cx) (e : Option Expr) (f : Env -> Mm -> Option (Option Int × Mm)) : Prop := PO X e (tP X.K X.mg f)
theorem zmO {e : Option Expr} {t t' : TO} (h : PO X e t) (w : ∀ σ H Q, t' σ H Q -> t σ H Q) : PO X e t' := fun pins s σ H Q I hw => h pins s σ H Q I (w σ H Q hw)
theorem zlZ : SP3 X none pNo := by
 refine zmO zoS ?_;rintro st H Q ⟨P0, H0, P, Os, env, M, i, M', k, e, q⟩;cases e;exact q P H (LtE.refl P H) k.hk
theorem zhD {e : Expr} {f : E} (h : SE X Wx .val e f) : SP3 X (some e) (pAt f) := by
 refine zmO (zo1 h) ?_;rintro st H Q ⟨P0, H0, P, Os, env, M, i, M', k, e, q⟩;unfold pAt at e;split at e
 ·rename_i j M1 ef;cases e;exact ⟨P0, H0, P, Os, env, M, _, _, k, ef, fun P1 v H1 l1 h1 i1 => ⟨j, i1, q P1 H1 l1 h1⟩⟩
 ·cases e
def cutL {α : Type} (xs : List α) (lo hi : Option Int) : List α := (xs.drop (HT.sIx xs.length 0 lo)).take (HT.sIx xs.length xs.length hi - HT.sIx xs.length 0 lo)
theorem zkF {K : Fgx} {P : Pl} {H : Hp} {ds : List D} {vs : List V} {lo hi : Option Int} (q : Iss K P H ds vs) : Iss K P H (cutL ds lo hi) (cutV vs lo hi) := by
 unfold cutL cutV;rw [q.len];exact (q.drop _).take _
def slD (d : D) (lo hi : Option Int) : Option D := match d with
 | .lst ds => some (.lst (cutL ds lo hi))
 | .str z => if z.length <= sizeLine then some (.str (Txt.slice z lo hi)) else none
 | _ => none
def sSl (f : E) (l h : Env -> Mm -> Option (Option Int × Mm)) : E := fun env M => bnd (f env M) fun d M1 => match l env M1 with
  | some (lo, M2) => (match h env M2 with
    | some (hi, M3) => (slD (vw M3 d) lo hi).map fun z => (.v z, M3)
    | none => none)
  | none => none
theorem zla {e : Expr} {lo hi : Option Expr} {p2 pos : Pos} {f : E} {l h : Env -> Mm -> Option (Option Int × Mm)} (he : SE X Wx .bor e f) (hl : SP3 X lo l) (hh : SP3 X hi h) : SE X Wx m (.Subscript e (.Slice lo hi none p2) pos) (sSl f l h) := by
 refine zaP (ziU (znT.or zqB) he hl hh) ?_;rintro st H Q ⟨P0, H0, P, Os, env, M, r, M', k, e, q⟩;unfold sSl at e;rcases zaB e with ⟨d, M1, e1, e⟩ | ⟨c, n, e1, rfl⟩
 ·split at e
  ·rename_i lo' M2 el;split at e
   ·rename_i hi' M3 eh;rw [Option.map_eq_some_iff] at e;obtain ⟨z, ez, e⟩ := e;cases e;refine zax k e1 fun P1 v1 H1 l1 h1 i1 => ⟨P0, H0, P1, Os, env, M1, _, _, k.next l1 h1, el, fun P2 H2 l2 h2 => ⟨P0, H0, P2, Os, env, M2, _, _, (k.next l1 h1).next l2 h2, eh, fun P3 H3 l3 h3 => ?_⟩⟩
    have i3 := IsB.vw h3 (IsB.lt l3 h2 (IsB.lt l2 h1 i1));have fin : ∀ u H', Same H3 H' -> Is X.K P3 H' z u -> Q u H' := fun u H' s i => q P3 u H' (l1.trans (l2.trans (l3.trans (LtE.same s)))) (h3.same s) (IsM.of (h3.same s) i);generalize vw M' d = d' at i3 ez;unfold slD at ez;split at ez
    ·cases ez;obtain ⟨a, vs, rfl, r, s⟩ := i3;exact .inl ⟨a, vs, rfl, r, zix h3.new (zkF s) fin⟩
    ·split at ez
     ·rename_i hz;cases ez;cases i3;exact .inr ⟨_, rfl, hz, fin _ _ (Same.refl _) rfl⟩
     ·cases ez
    ·cases ez
   ·cases e
  ·cases e
 ·exact zax k e1 q
def zj5 (f : E) : E := fun env M => bnd (f env M) fun d M1 => match d with
 | .lst ds => some (.v (.ref M1.length), M1 ++ [.lst ds])
 | _ => none
theorem zoZ {e : Expr} {f : E} (h : SN X Wx e f) : SE X Wx m e (zj5 f) := by
  refine zaP h ?_;rintro st H Q ⟨P0, H0, P, Os, env, M, r, M', k, e, q⟩;unfold zj5 at e;rcases zaB e with ⟨d, M1, e1, e⟩ | ⟨c, n, e1, rfl⟩
  · cases d <;> simp only [reduceCtorEq] at e
    rename_i ds;cases e;refine ⟨P0, H0, P, Os, env, M, _, _, k, e1, ds, rfl, fun P1 a vs H1 l1 h1 ha ba nc ea is => ?_⟩;have hn : P1.n = M1.length := h1.n
    let P2 : Pl := { io := fun j => if j = P1.n then a else P1.io j, n := P1.n + 1, bd := P1.bd }
    have io : ∀ j, j < P1.n -> P2.io j = P1.io j := fun j hj => if_neg (by omega);have ioN : P2.io P1.n = a := if_pos rfl;have l2 : Lt P1 H1 P2 H1 := ⟨Nat.le_succ _, io, fun _ z => .inl z, fun _ _ e _ => e, fun _ z => z⟩;have le : LtE P H P2 H1 := ⟨Nat.le_succ_of_le l1.n, fun j hj => (io j (Nat.lt_of_lt_of_le hj l1.n)).trans (l1.io j hj), l1.bd, l1.bm, l1.keep, l1.sure, fun j h2 h3 => by
      rcases Nat.lt_or_ge j P1.n with z | z
      · rw [io j z]; exact l1.nw j h2 z
      · have : j = P1.n := Nat.le_antisymm (Nat.le_of_lt_succ h3) z;rw [this, ioN];exact ha⟩
    have hk2 : Hk X.K X.mg P2 H1 (M1 ++ [.lst ds]) := by
      refine ⟨by rw [List.length_append, <- hn]; rfl, fun j c ej => ?_, fun i j hi hj e => ?_, fun j hj => ?_, h1.here⟩
      · rcases Nat.lt_or_ge j P1.n with z | z
        · rw [List.getElem?_append_left (by rw [<- hn]; exact z)] at ej;rw [io j z];exact (h1.cell j c ej).lt l2 fun _ z => z
        · have jl := (List.getElem?_eq_some_iff.mp ej).1;rw [List.length_append, List.length_singleton, <- hn] at jl;have : j = P1.n := by omega
          subst this;rw [List.getElem?_append_right (by rw [hn]; exact Nat.le_refl _), hn, Nat.sub_self] at ej;cases ej;rw [ioN];exact ⟨vs, ea, Iss.lt l2 is⟩
      · rcases Nat.lt_or_ge i P1.n with z | z
        · rcases Nat.lt_or_ge j P1.n with y | y
          · rw [io i z, io j y] at e;exact h1.inj i j z y e
          · have : j = P1.n := Nat.le_antisymm (Nat.le_of_lt_succ hj) y;rw [io i z, this, ioN] at e;exact absurd e (nc i z)
        · have iN : i = P1.n := Nat.le_antisymm (Nat.le_of_lt_succ hi) z;rcases Nat.lt_or_ge j P1.n with y | y
          · rw [iN, ioN, io j y] at e;exact absurd e.symm (nc j y)
          · rw [iN];exact Nat.le_antisymm y (Nat.le_of_lt_succ hj)
      · rcases Nat.lt_or_ge j P1.n with z | z
        · rw [io j z]; exact h1.bd j z
        · have : j = P1.n := Nat.le_antisymm (Nat.le_of_lt_succ hj) z;rw [this, ioN];exact ba
    exact q P2 _ H1 le hk2 (IsM.of hk2 (show Is _ _ _ (.ref _) _ from ⟨by show _ < P1.n + 1; rw [hn]; exact Nat.lt_succ_self _, by rw [<- hn, ioN]⟩))
  · exact ⟨P0, H0, P, Os, env, M, _, _, k, e1, q⟩
def zjV (f g : E) : S := fun env M => bndS (f env M) fun d M1 => match d with
  | .ref j => (match M1[j]? with
    | some (.lst _) => bndS (g env M1) fun y M2 => (match M2[j]? with
      | some (.lst ds) => if ds.length < sizeLine then some (.nx env, M2.set j (.lst (ds ++ [y]))) else none
      | _ => none)
    | _ => none)
  | _ => none
theorem zlc {o e : Expr} {f g : E} {p q pos : Pos} (ho : SE X Wx .val o f) (he : SE X Wx .val e g) (hbase : attributeBase o "append" X.env (eval o X.env) = eval o X.env := by rfl)
  (hfew : ((backTo q (starEach [e] X.env)).all (fun x => !x.1) && (backToKw q (keywordEach [] X.env)).all (fun x => x.1.isSome) && decide ([e].length + ([] : List Keyword).length + (if ([] : List Keyword).isEmpty then 0 else 1) < 30)) = true := by rfl)
  (hline : (p.endLine == q.line) = true := by rfl) (hs : starEach [e] X.env = (false, eval e X.env) :: starEach [] X.env := by rfl) (hw : swapsWith (.Call (.Attribute o "append" p) [e] [] q) none pos.line X.env = pure false := by rfl) :
  SS X Wx (.Expr (.Call (.Attribute o "append" p) [e] [] q) pos) (zjV f g) := by
 refine zcu (ze5 (zos PySem.F.plainAttrs_list PySem.F.slot_list_append PySem.F.type_list_append zf2 ho (zdF he zgH hs) hbase hfew hline hs rfl) hw) ?_;rintro D st H ⟨P0, H0, P, Os, env, M, out, M', k, e, q⟩;unfold zjV at e;rcases za0 e with ⟨d, M1, e1, e⟩ | ⟨c, n, e1, rfl⟩
 ·cases d <;> simp only [reduceCtorEq] at e
  rename_i j;split at e
  rotate_left
  ·cases e
  rename_i ds0 em0;refine ⟨P0, H0, P, Os, env, M, _, _, k, e1, fun P1 v1 H1 l1 h1 i1 => ?_⟩;have k1 := k.next l1 h1
  obtain ⟨jl, rfl⟩ : j < P1.n /\ v1 = .ref (P1.io j) := i1;obtain ⟨vs0, ev0, _⟩ := h1.cell j _ em0;refine ⟨.inl ⟨rfl, vs0, .inl (.inl ev0)⟩, ?_⟩;rcases za0 e with ⟨y, M2, e2, e⟩ | ⟨c, n, e2, rfl⟩
  ·split at e
   ·rename_i ds em;split at e
    ·rename_i hz;cases e;refine zax k1 e2 fun P2 v2 H2 l2 h2 i2 => ?_;obtain ⟨vs, ev, is⟩ := h2.cell j _ em;rw [l2.io j jl] at ev;have i3 := Is.lt (Lt.refl P2 H2) i2;refine ⟨P1.io j, vs, v2, rfl, rfl, ev, by rw [is.len]; exact hz, ?_⟩;have eio : P2.io j = P1.io j := l2.io j jl;have jl2 : j < P2.n := Nat.lt_of_lt_of_le jl l2.n;obtain ⟨o0, eo0, nf0⟩ := h2.cellAt jl2;have lc : Lt P2 H2 P2 (upd H2 (P2.io j) (.lst (vs ++ [v2]))) := zfc (h2.bd j jl2) eo0 nf0;obtain ⟨l3, l3e, h3⟩ := h2.set (c' := .lst (ds ++ [y])) (o' := .lst (vs ++ [v2])) em ⟨vs ++ [v2], zao, Iss.append (Iss.lt lc is) (Iss.one (Is.lt lc i2))⟩;rw [eio] at l3 l3e h3;exact q _ _ _ _ ((l1.lt k.hk).trans ((l2.lt h1).trans l3)) ((k1.next l2 h2).next l3e h3)
    ·cases e
   ·cases e
  ·exact zax k1 e2 q
 ·exact ⟨P0, H0, P, Os, env, M, _, _, k, e1, q⟩
end
section
variable {X : Cx} {Wx : XW} {m : Mode} {pos : Pos}
def oNeg : D -> Option D
 | .int i => some (.int (-i))
 | _ => none
theorem zgT {K : Fgx} : zoO K (rU fun i => .int (-i)) oNeg := fun P H d z v Q h i _ q => by
 unfold oNeg at h;split at h
 ·cases h; cases i; exact ⟨_, rfl, q _ H (Same.refl H) rfl⟩
 ·cases h
theorem zjS {a : Expr} {op : UnaryOp} {f : E} {o : D -> Option D} {r : V -> Hp -> VK -> Prop} (ho : UnR X (unaryOp op) r) (po : zoO X.K r o) (ha : SE X Wx .bor a f) : SE X Wx m (.UnaryOp op a pos) (s1 o f) :=
 zaP (zta ho ha) fun _ _ _ h => ztN po h
def sChn (c c' : Cp) (f g h : E) : E := fun env M => bnd (f env M) fun x M1 => bnd (g env M1) fun y M2 => match cmpD c (vw M2 x) (vw M2 y) with
 | some true => bnd (h env M2) fun z M3 => (cmpD c' (vw M3 y) (vw M3 z)).map fun b => (.v (.bl b), M3)
 | some false => some (.v (.bl false), M2)
 | none => none
theorem zmD {c c' : Cp} {f g h : E} {st : L2.St} {H : Hp} {Q : VK} (w : tE X.K X.mg Wx m (sChn c c' f g h) st H Q) : zkM (rCp X.K c) (rCp X.K c') (tE X.K X.mg Wx .bor f) (tE X.K X.mg Wx .bor g) (tE X.K X.mg Wx .bor h) st H Q := by
  obtain ⟨P0, H0, P, Os, env, M, rr, M', k, e, q⟩ := w;unfold sChn at e;rcases zaB e with ⟨x, M1, e1, e⟩ | ⟨c, n, e1, rfl⟩
  · refine zax k e1 fun P1 v1 H1 l1 h1 i1 => ?_;have k1 := k.next l1 h1
    rcases zaB e with ⟨y, M2, e2, e⟩ | ⟨c, n, e2, rfl⟩
    · refine zax k1 e2 fun P2 v2 H2 l2 h2 i2 => ?_;have k2 := k1.next l2 h2
      have w1 := IsB.vw h2 (IsB.lt l2 h1 i1);have w2 := IsB.vw h2 i2;split at e
      · rename_i ec;refine zjo ec w1 w2 ⟨true, rfl, ?_⟩;rw [if_pos rfl];rcases zaB e with ⟨z, M3, e3, e⟩ | ⟨c, n, e3, rfl⟩
        · refine zax k2 e3 fun P3 v3 H3 l3 h3 i3 => ?_;rw [Option.map_eq_some_iff] at e;obtain ⟨b, eb, e⟩ := e;cases e;exact zjo eb (IsB.vw h3 (IsB.lt l3 h2 i2)) (IsB.vw h3 i3) (q P3 _ H3 (l1.trans (l2.trans l3)) h3 (IsM.of h3 (show Is _ _ _ (.bl b) _ from rfl)))
        · exact zax k2 e3 q
      · rename_i ec;cases e;refine zjo ec w1 w2 ⟨false, rfl, ?_⟩;rw [if_neg (by decide)];exact q P2 _ H2 (l1.trans l2) h2 (IsM.of h2 (show Is _ _ _ (.bl false) _ from rfl))
      · cases e
    · exact zax k1 e2 q
  · exact zax k e1 q
theorem zgw {a b c : Expr} {c1 c2 : Cp} {f g h : E} (hu : X.A.units + 60 < cLine) (ha : SE X Wx .bor a f) (hb : SE X Wx .bor b g) (hc : SE X Wx .bor c h) (hm : lastMarks [cpP c1, cpP c2] [b, c] = false := by with_unfolding_all rfl) : SE X Wx m (.Compare a [cpP c1, cpP c2] [b, c] pos) (sChn c1 c2 f g h) :=
 zaP (zma (zaE hu c1) (zaE hu c2) ha hb hc hm) fun _ _ _ w => zmD w
theorem zm9 {a b c : Expr} {c1 c2 : Cp} {f g h : E} (hu : X.A.units + 60 < cLine) (ha : SE X Wx .bor a f) (hb : SE X Wx .bor b g) (hc : SE X Wx .bor c h) (hm : lastMarks [cpP c1, cpP c2] [b, c] = false := by with_unfolding_all rfl) : ST X Wx (.Compare a [cpP c1, cpP c2] [b, c] pos) (sChn c1 c2 f g h) :=
 zfG (zlX (zaE hu c1) (zaE hu c2) ha hb hc hm) fun _ _ _ w => zmD (zkg w)
end
def spL (K : Fgx) (g : G) : Sp := fun vs H Q E => ∀ mg, spG K mg 1 g vs H Q E
theorem zr3 {P : Program} {w : World} {K : Fgx} {mg : Mgx} {base : Heap} {k : Nat} {f : Addr} {fd : FuncData} {ps : List Str} {g : G} (F : FnOk P w K mg base CX0 k f fd ps (spG K mg 1 g)) : FnOk P w K mg base CX0 k f fd ps (spL K g) :=
 ⟨fun vs H Q E h => F.len vs H Q E (h mg), fun A outer s H args us vs Q E hr he hb hv hs => F.run A outer s H args us vs Q E hr he hb hv (hs mg)⟩
theorem zjm {K : Fgx} {P : Pl} {H : Hp} : ∀ ns : List Int, Iss K P H (ns.map D.int) (ns.map V.int)
 | [] => rfl
 | n :: ns => ⟨.int n, _, rfl, rfl, zjm ns⟩
theorem zpq {K : Fgx} {g : G} {H : Hp} {a : Addr} {ns : List Int} (hg : ∃ M, g [.lst (ns.map D.int)] [] = some (.v (.bl true), M)) (hS : SqL K H a (ns.map V.int)) : spL K g [.ref a] H (fun v _ => v = .bl true) fun _ _ _ => False := by
 intro mg;obtain ⟨M, e⟩ := hg;refine ⟨rfl, ⟨fun _ => 0, 0, fun _ => False⟩, [], [.lst (ns.map D.int)], .bl true, M, ⟨rfl, fun k c e => (by cases e), fun j k h => absurd h (Nat.not_lt_zero _), fun k h => absurd h (Nat.not_lt_zero _), fun a z => z.elim⟩, ⟨.ref a, [], rfl, ⟨a, ns.map V.int, rfl, ?_, zjm ns⟩, rfl⟩, e, fun P' v H' _ _ i => i⟩;rcases hS with h | h
 ·exact .inl ⟨fun z => z, h⟩
 ·exact .inr h
theorem znH {l : PySem.W.OpenLaw} {k : Nat} {q : Program} {loose : List Str} {XP : (Mgx) -> Heap -> Prop} {YP : World -> Heap -> Prop} {d : DefRec} {K : Params -> Fgx} {x : Str} {g : G}
  (hn : l.most = some 63) (hdf : d.params.defaults = []) (hr : Room k callerA) (hY : ∀ (w : World) (h : Heap), YP w h -> (K w.params).In h)
  (F : ∀ (w : World) (mg : Mgx) (fa : Addr) (h : Heap), (K w.params).In h -> h.Ns mainGlobals mg -> mg d.name = some (.ref fa) ->
   ∃ fd : FuncData, (∀ (s : Shared) (u : Value), BindsTo s fd ⟨[u], []⟩ [(x, u)]) /\
    ∀ base : Heap, (K w.params).In base -> base.Ns mainGlobals mg -> FnOk l.prog w (K w.params) mg base CX0 k fa fd [x] (spL (K w.params) g))
  (hg : ∀ ns : List Int, ns.length <= 63 -> ∃ M, g [.lst (ns.map D.int)] [] = some (.v (.bl true), M)) : PySem.W.WalkO q loose XP YP l.row.toRowW d [] (fun f vs => PySem.call f vs) :=
 L2.zmw (sp := fun K => spL K g) hn (by decide) hdf hr hY F (fun K H a ns hl _ hS => zpq (hg ns hl) hS) fun _ _ _ _ z => z
section
variable {X : Cx} {Wx : XW} {m : Mode} {e : Expr}
theorem se_i {i : Int} (h : PE X e (tC (.int i))) : SE X Wx m e (sCon (.int i)) := (zh4 (d := .int i) h fun _ _ => rfl).bor
theorem se_s {z : Str} (h : PE X e (tC (.str z))) : SE X Wx m e (sCon (.str z)) := (zh4 (d := .str z) h fun _ _ => rfl).bor
theorem se_b {b : Bool} (h : PE X e (tC (.bl b))) : SE X Wx m e (sCon (.bl b)) := (zh4 (d := .bl b) h fun _ _ => rfl).bor
theorem se_n (h : PE X e (tC .non)) : SE X Wx m e (sCon .non) := (zh4 (d := .non) h fun _ _ => rfl).bor
theorem se_v {i : Nat} {x : Str} {pos : Pos} (hN : X.N[i]? = some x) (hv : X.env.scope.names.lookup x = some .local) (hd : (x == ("__debug__" : Str)) = false := by x_go) (hcd : (x == ("__classdict__" : Str)) = false := by x_go) : SE X Wx m (.Name x pos) (sVar i) := (znk hN (.inl hv) hd hcd).bor
theorem SN.sem {f : E} (h : SN X Wx e f) (hf : ∀ env M r M', f env M = some (.v r, M') -> ∃ ds, r = .lst ds) : SE X Wx m e f := (SN.se h hf).bor
end
def putD (f : Str) (d : D) : List (Str × D) -> List (Str × D)
 | [] => [(f, d)]
 | (g, x) :: r => if g = f then (g, d) :: r else (g, x) :: putD f d r
section
variable {K : Fgx} {mg : Mgx} {P : Pl} {H : Hp} {M : Mm}
def FsOk (K : Fgx) (P : Pl) (H : Hp) (fs : List (Str × D)) (gs : List (Str × V)) : Prop := gs.map (·.1) = fs.map (·.1) /\ Iss K P H (fs.map (·.2)) (gs.map (·.2))
theorem zmV {f : Str} {d : D} {v : V} (i : Is K P H d v) : ∀ {fs : List (Str × D)} {gs : List (Str × V)}, FsOk K P H fs gs -> FsOk K P H (putD f d fs) (putF f v gs)
  | [], [], _ => ⟨rfl, v, [], rfl, i, rfl⟩
  | [], _ :: _, h => by cases h.1
  | _ :: _, [], h => by cases h.1
  | (g, x) :: fs, (g', y) :: gs, h => by
    obtain ⟨h1, v', r, e1, p, q⟩ := h;simp only [List.map_cons, List.cons.injEq] at h1 e1;obtain ⟨rfl, h1⟩ := h1;obtain ⟨rfl, rfl⟩ := e1;unfold putD putF
    split
    · exact ⟨by simp [h1], v, _, rfl, i, q⟩
    · obtain ⟨a, b⟩ := zmV i (fs := fs) (gs := gs) ⟨h1, q⟩;exact ⟨by simp [a], y, _, rfl, p, b⟩
theorem zpZ {fs : List (Str × D)} {gs : List (Str × V)} (h : FsOk K P H fs gs) : gs.length = fs.length := by
 have := congrArg List.length h.1
 simpa using this
end
structure ClsOk (K : Fgx) (mg : Mgx) (c : Str) (C : Addr) : Prop where
 mg : mg c = some (.ref C)
 cl : Cls K C
section
variable {X : Cx} {Wx : XW} {m : Mode} {pos : Pos}
def zkB (M : Mm) (c : Str) (d : D) : Option (Nat × List (Str × D)) := match d with
  | .ref k => (match M[k]? with
    | some (.obj c' fs) => if c' = c then some (k, fs) else none
    | _ => none)
  | _ => none
theorem zke {M : Mm} {c : Str} {d : D} {k : Nat} {fs : List (Str × D)} (h : zkB M c d = some (k, fs)) : d = .ref k /\ M[k]? = some (.obj c fs) := by
 unfold zkB at h;split at h
 ·split at h
  ·split at h
   ·rename_i e1 e2;cases h;subst e2;exact ⟨rfl, e1⟩
   ·cases h
  ·cases h
 ·cases h
def zjU (c f : Str) (o v : E) : S := fun env M => bndS (v env M) fun y M1 => bndS (o env M1) fun d M2 => match zkB M2 c d with
 | some (k, fs) => if fs.length < 1000 then some (.nx env, M2.set k (.obj c (putD f y fs))) else none
 | none => none
theorem znx {K : Fgx} {mg : Mgx} {P : Pl} {H : Hp} {M : Mm} {j : Nat} {c f : Str} {fs : List (Str × D)} {y : D} {v : V} {C dx : Addr} {gs : List (Str × V)} (h : Hk K mg P H M) (em : M[j]? = some (.obj c fs)) (ec : mg c = some (.ref C)) (eh : H (P.io j) = some (.ins C dx gs)) (fo : FsOk K P H fs gs) (iv : Is K P H y v) :
  Lt P H P (upd H (P.io j) (.ins C dx (putF f v gs))) /\ LtE P H P (upd H (P.io j) (.ins C dx (putF f v gs))) /\ Hk K mg P (upd H (P.io j) (.ins C dx (putF f v gs))) (M.set j (.obj c (putD f y fs))) := by
 have jl : j < P.n := by rw [h.n]; exact (List.getElem?_eq_some_iff.mp em).1
 have lc : Lt P H P (upd H (P.io j) (.ins C dx (putF f v gs))) := zfc (h.bd j jl) eh zry;have fp := zmV (f := f) iv fo;exact h.set (c' := .obj c (putD f y fs)) (o' := .ins C dx (putF f v gs)) em ⟨C, dx, putF f v gs, ec, zao, fp.1, Iss.lt lc fp.2⟩
theorem zjX {c f : Str} {C : Addr} {o e : Expr} {fo fv : E} {pos' : Pos} (hc : ClsOk X.K X.mg c C) (hn : zfz X.K C f) (ho : SE X Wx .val o fo) (he : SE X Wx .val e fv) (hs : swapsWith e (some (.Attribute o f pos')) pos.line X.env = pure false := by rfl) : SS X Wx (.Assign [.Attribute o f pos'] e pos) (zjU c f fo fv) := by
 refine zcu (zrZ ho he hs) ?_;rintro D st H ⟨P0, H0, P, Os, env, M, out, M', k, e, q⟩;unfold zjU at e;rcases za0 e with ⟨y, M1, e1, e⟩ | ⟨c, n, e1, rfl⟩
 ·refine zax k e1 fun P1 v1 H1 l1 h1 i1 => ?_;have k1 := k.next l1 h1
  rcases za0 e with ⟨d, M2, e2, e⟩ | ⟨c, n, e2, rfl⟩
  ·split at e
   ·rename_i j fs eo;split at e
    ·rename_i hl;cases e;obtain ⟨rfl, em⟩ := zke eo;refine zax k1 e2 fun P2 v2 H2 l2 h2 i2 => ?_;obtain ⟨jl, rfl⟩ : j < P2.n /\ v2 = .ref (P2.io j) := i2;obtain ⟨C', dx, gs, ec, eh, en, is⟩ := h2.cell j _ em;have eC : C' = C := by
      have := ec.symm.trans hc.mg;cases this;rfl
     subst eC;obtain ⟨l3, l3e, h3⟩ := znx (f := f) h2 em ec eh ⟨en, is⟩ (Is.lt (l2.lt h1) i1);exact ⟨_, C', dx, gs, rfl, eh, hc.cl, hn, by rw [zpZ ⟨en, is⟩]; exact hl, q _ _ _ _ ((l1.lt k.hk).trans ((l2.lt h1).trans l3)) ((k1.next l2 h2).next l3e h3)⟩
    ·cases e
   ·cases e
  ·exact zax k1 e2 q
 ·exact zax k e1 q
def AtM (P : Program) (w : World) (K : Fgx) (mg : Mgx) (base : Heap) (k : Nat) (C : Addr) (m : Str) (n : Nat) (g : G) : Prop :=
 ∃ f fd ps, Meth K C m f /\ FnOk P w K mg base CX0 k f fd ps (spG K mg n g) /\ Binds K fd ps []
end
section
variable {X : Cx} {Wx : XW} {m : Mode} {pos : Pos}
theorem zmC {K : Fgx} {mg : Mgx} {P : Pl} {H H' : Hp} {M : Mm} {a : Addr} {c : Cl} (h : Hk K mg P H M) (s : Same H H') (ha : H a = none) (ea : H' a ≠ none) (hc : ∀ P', P'.n = P.n + 1 -> P'.io P.n = a -> zfv K mg P' H' a c) : ∃ P', P'.n = P.n + 1 /\ P'.io P.n = a /\ LtE P H P' H' /\ Hk K mg P' H' (M ++ [c]) := by
 let P2 : Pl := { io := fun j => if j = P.n then a else P.io j, n := P.n + 1, bd := fun b => P.bd b \/ b = a }
 have io : ∀ j, j < P.n -> P2.io j = P.io j := fun j hj => if_neg (by omega);have ioN : P2.io P.n = a := if_pos rfl;have nc : ∀ j, j < P.n -> P.io j ≠ a := fun j hj z => h.here _ (h.bd j hj) (z ▸ ha);have l : LtE P H P2 H' := ⟨Nat.le_succ _, io, fun b z => Or.imp (fun q => q) (fun (q : b = a) => by rw [q]; exact ha) z, fun _ z => .inl z, fun b o e _ => s b o e, fun b z => s.free z, fun j h2 h3 => by
  have : j = P.n := Nat.le_antisymm (Nat.le_of_lt_succ h3) h2;rw [this, ioN];exact ha⟩
 refine ⟨P2, rfl, ioN, l, ⟨by rw [List.length_append, <- h.n]; rfl, fun j d ej => ?_, fun i j hi hj e => ?_, fun j hj => ?_, fun b z => ?_⟩⟩
 ·rcases Nat.lt_or_ge j P.n with z | z
  ·rw [List.getElem?_append_left (by rw [<- h.n]; exact z)] at ej;rw [io j z];exact (h.cell j d ej).lt (l.lt h) fun o eo => s _ _ eo
  ·have jl := (List.getElem?_eq_some_iff.mp ej).1;rw [List.length_append, List.length_singleton, <- h.n] at jl;have : j = P.n := by omega
   subst this;rw [List.getElem?_append_right (by rw [h.n]; exact Nat.le_refl _), h.n, Nat.sub_self] at ej;cases ej;rw [ioN];exact hc P2 rfl ioN
 ·rcases Nat.lt_or_ge i P.n with z | z
  ·rcases Nat.lt_or_ge j P.n with y | y
   ·rw [io i z, io j y] at e;exact h.inj i j z y e
   ·have : j = P.n := Nat.le_antisymm (Nat.le_of_lt_succ hj) y;rw [io i z, this, ioN] at e;exact absurd e (nc i z)
  ·have iN : i = P.n := Nat.le_antisymm (Nat.le_of_lt_succ hi) z;rcases Nat.lt_or_ge j P.n with y | y
   ·rw [iN, ioN, io j y] at e;exact absurd e.symm (nc j y)
   ·rw [iN];exact Nat.le_antisymm y (Nat.le_of_lt_succ hj)
 ·rcases Nat.lt_or_ge j P.n with z | z
  ·rw [io j z]; exact .inl (h.bd j z)
  ·have : j = P.n := Nat.le_antisymm (Nat.le_of_lt_succ hj) z;rw [this, ioN];exact .inr rfl
 ·rcases z with z | z
  ·exact fun q => h.here b z (s.free q)
  ·rw [z]; exact ea
def AtI (P : Program) (w : World) (K : Fgx) (mg : Mgx) (base : Heap) (k : Nat) (C : Addr) (n : Nat) (g : G) : Prop :=
 ∃ f fd ps, Mk K C f /\ FnOk P w K mg base CX0 k f fd ps (spG K mg n g) /\ Binds K fd ps []
def zjP (c : Str) (g : G) (fs : EA) : E := fun env M => bndA (fs env M) fun ds M1 => match g (.ref M1.length :: ds) (M1 ++ [.obj c []]) with
 | some (.v .non, M2) => some (.v (.ref M1.length), M2)
 | _ => none
theorem zkA {c : Str} {C : Addr} {k n : Nat} {g : G} {e : Expr} {es : List Expr} {fs : EA} {p : Pos} (hc : ClsOk X.K X.mg c C) (a : AtI X.prog X.w X.K X.mg X.base k C (n + 1) g) (hr : Room (k + 1) X.A) (hg : Gl X c) (ha : SA X Wx .val (e :: es) fs) (hn : Cnt n fs) (hdb : (c == ("__debug__" : Str)) = false := by x_go)
  (he : starEach (e :: es) X.env = (false, eval e X.env) :: starEach es X.env := by rfl) (hpl : (backTo pos (starEach es X.env)).any (·.1) = false := by rfl) : SE X Wx m (.Call (.Name c p) (e :: es) [] pos) (zjP c g fs) := by
 obtain ⟨f, fd, ps, mk, F, hb⟩ := a;refine zaP (zoz mk F hr hg hc.mg hb .nil zre ha hdb he hpl) ?_;rintro st H Q ⟨P0, H0, P, Os, env, M, r, M', k, e, q⟩;unfold zjP at e;rcases zdm e with ⟨ds, M1, e1, e⟩ | ⟨c, n, e1, rfl⟩
 ·split at e
  ·rename_i M2 eg;cases e;refine ⟨P0, H0, P, Os, env, M, _, _, k, e1, fun P1 vs H1 l1 h1 i1 => fun x dx hx hdx ne => ?_⟩;have s2 : Same H1 (upd (upd H1 dx (.own x)) x (.ins C dx [])) := fun b o eb => by
    rw [zal (zan eb hx), zal (zan eb hdx)];exact eb
   obtain ⟨P2, n2, io2, l2, h2⟩ := zmC (c := .obj c []) h1 s2 hx (by rw [zao]; exact fun z => nomatch z) fun P' _ _ => ⟨C, dx, [], hc.mg, zao, rfl, rfl⟩
   have el : P1.n = M1.length := h1.n;have iref : Is X.K P2 (upd (upd H1 dx (.own x)) x (.ins C dx [])) (.ref M1.length) (.ref x) := ⟨by rw [n2, el]; exact Nat.lt_succ_self _, by rw [<- el, io2]⟩;refine ⟨by rw [List.append_nil, List.length_cons, i1.len, hn _ _ _ _ e1], P2, M1 ++ [.obj c []], .ref M1.length :: ds, .non, _, h2, ⟨_, _, rfl, iref, by rw [List.append_nil]; exact Iss.lt (l2.lt h1) i1.iss⟩, eg, fun P3 v H3 l3 h3 i3 => ⟨i3, ?_⟩⟩;refine q P3 _ H3 (l1.trans (l2.trans l3)) h3 (IsM.of h3 (Is.lt (l3.lt h2) iref))
  ·cases e
 ·exact ⟨P0, H0, P, Os, env, M, _, _, k, e1, q⟩
end
end E3
namespace E3
open PySem PySem.Spec PyProof.Rows L2 PySem.W
def zub (a : Addr) (h h' : Heap) : Prop := ∀ b o, b ≠ a -> h.get? b = some o -> h'.get? b = some o
def Low (n : Nat) (p : Array Nat) : Prop := p.size = n /\ ∀ x ∈ p.toList, x < n
section
variable {n : Nat} {lt : Nat -> Nat -> Option Bool} (hn : 0 < n) (tot : ∀ i j, i < n -> j < n -> ∃ b, lt i j = some b)
include hn tot
end
end E3
namespace E3
open PySem L2
section
variable {env : Env} {M M1 : Mm} {f g h c : E} {d e : D} {i j : Int} {n k : Nat} {z : Str} {b : Bool} {ds es : List D} {s t : S} {x : Str}
def seqR (g : S) : OS -> OS
 | some (.nx e, M1) => g e M1
 | o => o
theorem zmz : sSeq s t env M = seqR t (s env M) := by
 unfold sSeq seqR
 cases s env M with
 | none => rfl
 | some p => obtain ⟨o, M⟩ := p; cases o <;> rfl
theorem r_nx {e : Env} : seqR t (some (.nx e, M)) = t e M := rfl
theorem r_rt : seqR t (some (.rt d, M)) = some (.rt d, M) := rfl
theorem r_bk {e : Env} : seqR t (some (.bk e, M)) = some (.bk e, M) := rfl
theorem r_ct {e : Env} : seqR t (some (.ct e, M)) = some (.ct e, M) := rfl
theorem r_ex {a : Int} : seqR t (some (.ex x a, M)) = some (.ex x a, M) := rfl
theorem ztE : sEnd env M = some (.nx env, M) := rfl
def varR (M : Mm) : Option Slot -> O
 | some (.val d) => some (.v d, M)
 | _ => none
theorem q_v : sVar k env M = varR M env[k]? := by
 unfold sVar varR; split <;> simp_all
theorem r_v : varR M (some (.val d)) = some (.v d, M) := rfl
theorem zq6 : sCon d env M = some (.v d, M) := rfl
def mapR (M : Mm) : Option D -> O
 | some z => some (.v z, M)
 | none => none
theorem zsA : mapR M (some d) = some (.v d, M) := rfl
def oneR (o : D -> Option D) : O -> O
 | some (.v d, M) => mapR M (o (vw M d))
 | some (.x c n, M) => some (.x c n, M)
 | none => none
theorem q_1 {o : D -> Option D} : s1 o f env M = oneR o (f env M) := by
  unfold s1 oneR bnd
  cases f env M with
  | none => rfl
  | some p => obtain ⟨r, M'⟩ := p; cases r with
    | v d => dsimp only; cases o (vw M' d) <;> rfl
    | x c n => rfl
theorem r_1 {o : D -> Option D} : oneR o (some (.v d, M)) = mapR M (o (vw M d)) := rfl
def twoS (o : D -> D -> Option D) (d : D) : O -> O
 | some (.v e, M) => mapR M (o (vw M d) (vw M e))
 | some (.x c n, M) => some (.x c n, M)
 | none => none
def twoK (o : D -> D -> Option D) (k : Mm -> O) : O -> O
 | some (.v d, M) => twoS o d (k M)
 | some (.x c n, M) => some (.x c n, M)
 | none => none
theorem q_2 {o : D -> D -> Option D} : s2 o f g env M = twoK o (g env) (f env M) := by
  unfold s2 twoK bnd
  cases f env M with
  | none => rfl
  | some p => obtain ⟨r, M'⟩ := p; cases r with
    | x c n => rfl
    | v d =>
      dsimp only;unfold twoS
      cases g env M' with
      | none => rfl
      | some p => obtain ⟨r, M2⟩ := p; cases r with
        | x c n => rfl
        | v e => dsimp only; cases o (vw M2 d) (vw M2 e) <;> rfl
theorem r_2 {o : D -> D -> Option D} {q : Mm -> O} : twoK o q (some (.v d, M)) = twoS o d (q M) := rfl
theorem r_2s {o : D -> D -> Option D} : twoS o d (some (.v e, M)) = mapR M (o (vw M d) (vw M e)) := rfl
theorem zti : vw M (.int i) = .int i := rfl
theorem ztC : vw M (.str z) = .str z := rfl
theorem w_bl : vw M (.bl b) = .bl b := rfl
theorem zsM : vw M .non = .non := rfl
theorem zth : vw M (.tup ds) = .tup ds := rfl
theorem ztA : vw M (.lst ds) = .lst ds := rfl
theorem ztk : sTru f env M = oneR (fun d => (truD d).map .bl) (f env M) := q_1
def notR : O -> O
 | some (.v (.bl b), M) => some (.v (.bl (!b)), M)
 | some (.x c n, M) => some (.x c n, M)
 | _ => none
theorem zsR : sNot f env M = notR (f env M) := by
  unfold sNot notR bnd
  cases f env M with
  | none => rfl
  | some p => obtain ⟨r, M'⟩ := p; cases r with
    | x c n => rfl
    | v d => cases d <;> rfl
theorem zsq : notR (some (.v (.bl b), M)) = some (.v (.bl (!b)), M) := rfl
def iteR (k1 k2 : Mm -> O) : O -> O
 | some (.v (.bl b), M) => if b = true then k1 M else k2 M
 | some (.x c n, M) => some (.x c n, M)
 | _ => none
theorem ztb : sAnd f g env M = iteR (g env) (fun M => some (.v (.bl false), M)) (f env M) := by
  unfold sAnd iteR bnd
  cases f env M with
  | none => rfl
  | some p => obtain ⟨r, M'⟩ := p; cases r with
    | x c n => rfl
    | v d => cases d <;> rfl
theorem q_or : sOr f g env M = iteR (fun M => some (.v (.bl true), M)) (g env) (f env M) := by
  unfold sOr iteR bnd
  cases f env M with
  | none => rfl
  | some p => obtain ⟨r, M'⟩ := p; cases r with
    | x c n => rfl
    | v d => cases d <;> rfl
theorem zsy : sIte c f g env M = iteR (f env) (g env) (c env M) := by
  unfold sIte iteR bnd
  cases c env M with
  | none => rfl
  | some p => obtain ⟨r, M'⟩ := p; cases r with
    | x c n => rfl
    | v d => cases d <;> rfl
theorem zsX {k1 k2 : Mm -> O} : iteR k1 k2 (some (.v (.bl b), M)) = if b = true then k1 M else k2 M := rfl
def conA (d : D) : Option (ResA × Mm) -> Option (ResA × Mm)
 | some (.v ds, M2) => some (.v (d :: ds), M2)
 | some (.x c n, M2) => some (.x c n, M2)
 | none => none
def zl7 (k : Mm -> Option (ResA × Mm)) : O -> Option (ResA × Mm)
 | some (.v d, M1) => conA d (k M1)
 | some (.x c n, M1) => some (.x c n, M1)
 | none => none
theorem zs7 : sNil env M = some (.v [], M) := rfl
theorem zqH {fs : EA} : zad f fs env M = zl7 (fs env) (f env M) := by
  unfold zad zl7
  cases f env M with
  | none => rfl
  | some p => obtain ⟨r, M'⟩ := p; cases r with
    | x c n => rfl
    | v d =>
      dsimp only;unfold conA
      cases fs env M' with
      | none => rfl
      | some p => obtain ⟨r, M2⟩ := p; cases r <;> rfl
theorem zqC {q : Mm -> Option (ResA × Mm)} : zl7 q (some (.v d, M)) = conA d (q M) := rfl
theorem zrH : conA d (some (.v ds, M)) = some (.v (d :: ds), M) := rfl
def argR (o : List D -> Option D) : Option (ResA × Mm) -> O
 | some (.v ds, M) => mapR M (o (ds.map (vw M)))
 | some (.x c n, M) => some (.x c n, M)
 | none => none
theorem q_n {o : List D -> Option D} {fs : EA} : sN o fs env M = argR o (fs env M) := by
  unfold sN argR bndA
  cases fs env M with
  | none => rfl
  | some p => obtain ⟨r, M'⟩ := p; cases r with
    | x c n => rfl
    | v d => dsimp only; cases o (d.map (vw M')) <;> rfl
theorem r_n {o : List D -> Option D} : argR o (some (.v ds, M)) = mapR M (o (ds.map (vw M))) := rfl
def argK (k : List D -> Mm -> O) : Option (ResA × Mm) -> O
 | some (.v ds, M) => k ds M
 | some (.x c n, M) => some (.x c n, M)
 | none => none
theorem zrB {q : List D -> Mm -> O} : argK q (some (.v ds, M)) = q ds M := rfl
theorem zsn {fs : EA} : sTup fs env M = argK (fun ds M1 => if ds.length <= sizeLine then some (.v (.tup ds), M1) else none) (fs env M) := rfl
theorem zsd {fs : EA} : sLst fs env M = argK (fun ds M1 => if ds.length <= sizeLine then some (.v (.lst ds), M1) else none) (fs env M) := rfl
def zob : O -> O
 | some (.v d, M) => some (.v d, M)
 | _ => none
theorem zoM : zob (some (.v d, M)) = some (.v d, M) := rfl
theorem zp0 {u : G} {fs : EA} : zaO u fs env M = argK (fun ds M1 => zob (u ds M1)) (fs env M) := by
  unfold zaO argK bndA
  cases fs env M with
  | none => rfl
  | some p => obtain ⟨r, M'⟩ := p; cases r with
    | x c n => rfl
    | v d =>
      dsimp only;unfold zob
      cases u d M' with
      | none => rfl
      | some p => obtain ⟨r, M2⟩ := p; cases r <;> rfl
def bndK (k : D -> Mm -> O) : O -> O
 | some (.v d, M) => k d M
 | some (.x c n, M) => some (.x c n, M)
 | none => none
theorem zj3 {q : D -> Mm -> O} : bndK q (some (.v d, M)) = q d M := rfl
def zrt (M : Mm) : D -> O
 | .lst ds => some (.v (.ref M.length), M ++ [.lst ds])
 | _ => none
theorem znA : zrt M (.lst ds) = some (.v (.ref M.length), M ++ [.lst ds]) := rfl
theorem zpd : zj5 f env M = bndK (fun d M1 => zrt M1 d) (f env M) := by
  unfold zj5 bndK bnd
  cases f env M with
  | none => rfl
  | some p => obtain ⟨r, M'⟩ := p; cases r with
    | x c n => rfl
    | v d => cases d <;> rfl
def slH (d : D) (lo : Option Int) : Option (Option Int × Mm) -> O
 | some (hi, M3) => mapR M3 (slD (vw M3 d) lo hi)
 | none => none
def slL (d : D) (k : Mm -> Option (Option Int × Mm)) : Option (Option Int × Mm) -> O
 | some (lo, M2) => slH d lo (k M2)
 | none => none
theorem q_sl {l u : Env -> Mm -> Option (Option Int × Mm)} : sSl f l u env M = bndK (fun d M1 => slL d (u env) (l env M1)) (f env M) := by
  unfold sSl bndK bnd
  cases f env M with
  | none => rfl
  | some p => obtain ⟨r, M'⟩ := p; cases r with
    | x c n => rfl
    | v d =>
      dsimp only;unfold slL
      cases l env M' with
      | none => rfl
      | some p =>
        obtain ⟨lo, M2⟩ := p;dsimp only;unfold slH
        cases u env M2 with
        | none => rfl
        | some p => obtain ⟨hi, M3⟩ := p; dsimp only; cases slD (vw M3 d) lo hi <;> rfl
theorem zso {lo : Option Int} {q : Mm -> Option (Option Int × Mm)} : slL d q (some (lo, M)) = slH d lo (q M) := rfl
theorem zsL {lo hi : Option Int} : slH d lo (some (hi, M)) = mapR M (slD (vw M d) lo hi) := rfl
theorem zs0 : pNo env M = some (none, M) := rfl
def patR : O -> Option (Option Int × Mm)
 | some (.v (.int i), M) => some (some i, M)
 | _ => none
theorem zsb : pAt f env M = patR (f env M) := by
  unfold pAt patR
  cases f env M with
  | none => rfl
  | some p => obtain ⟨r, M'⟩ := p; cases r with
    | x c n => rfl
    | v d => cases d <;> rfl
theorem zsK : patR (some (.v (.int i), M)) = some (some i, M) := rfl
def bndT (k : D -> Mm -> OS) : O -> OS
 | some (.v d, M) => k d M
 | some (.x c n, M) => some (.ex c n, M)
 | none => none
theorem zj0 {q : D -> Mm -> OS} : bndT q (some (.v d, M)) = q d M := rfl
theorem zrx : sAsg k f env M = bndT (fun d M1 => if k < env.length then some (.nx (env.set k (.val d)), M1) else none) (f env M) := rfl
def zpJ (k : Nat) (env : Env) (M : Mm) : D -> OS
 | .lst ds => if k < env.length then some (.nx (env.set k (.own ds)), M) else none
 | _ => none
theorem zpL : zpJ k env M (.lst ds) = if k < env.length then some (.nx (env.set k (.own ds)), M) else none := rfl
theorem zqP : zjN k f env M = bndT (fun d M1 => zpJ k env M1 d) (f env M) := by
  unfold zjN bndT bndS
  cases f env M with
  | none => rfl
  | some p => obtain ⟨r, M'⟩ := p; cases r with
    | x c n => rfl
    | v d => cases d <;> rfl
theorem zs4 : sRet f env M = bndT (fun d M1 => some (.rt d, M1)) (f env M) := rfl
theorem zqo : zgk f env M = bndT (fun _ M1 => some (.nx env, M1)) (f env M) := rfl
def ifD (s t : Mm -> OS) (M : Mm) : D -> OS
 | .bl b => if b = true then s M else t M
 | _ => none
theorem r_if {q r : Mm -> OS} : ifD q r M (.bl b) = if b = true then q M else r M := rfl
theorem q_if : sIf c s t env M = bndT (fun d M1 => ifD (s env) (t env) M1 d) (c env M) := by
  unfold sIf bndT bndS
  cases c env M with
  | none => rfl
  | some p => obtain ⟨r, M'⟩ := p; cases r with
    | x c n => rfl
    | v d => cases d <;> rfl
def frzR (k : Nat) (env : Env) (M : Mm) : Option Slot -> OS
 | some (.own ds) => some (.nx (env.set k (.val (.lst ds))), M)
 | _ => none
theorem ztT : sFrz k env M = frzR k env M env[k]? := by
 unfold sFrz frzR; split <;> simp_all
theorem zsf : frzR k env M (some (.own ds)) = some (.nx (env.set k (.val (.lst ds))), M) := rfl
def appR (k : Nat) (env : Env) (o : O) : Option Slot -> OS
 | some (.own ds) => bndT (fun d M1 => if ds.length < sizeLine then some (.nx (env.set k (.own (ds ++ [d]))), M1) else none) o
 | _ => none
theorem ztv : sApp k f env M = appR k env (f env M) env[k]? := by
 unfold sApp appR
 cases env[k]? with
 | none => rfl
 | some s => cases s <;> rfl
theorem zs8 {o : O} : appR k env o (some (.own ds)) = bndT (fun d M1 => if ds.length < sizeLine then some (.nx (env.set k (.own (ds ++ [d]))), M1) else none) o := rfl
def forR (k : Nat) (t : S) (env : Env) : Option (ResA × Mm) -> OS
 | some (.v ds, M1) => loopS k t ds env M1
 | some (.x c n, M1) => some (.ex c n, M1)
 | none => none
theorem ztU {fs : EA} : sFor k fs t env M = forR k t env (fs env M) := by
 unfold sFor forR
 cases fs env M with
 | none => rfl
 | some p => obtain ⟨r, M'⟩ := p; cases r <;> rfl
theorem zt4 : forR k t env (some (.v ds, M)) = loopS k t ds env M := rfl
def lstR : O -> Option (ResA × Mm)
 | some (.v (.lst ds), M1) => some (.v ds, M1)
 | some (.x c n, M1) => some (.x c n, M1)
 | _ => none
theorem zp3 : iLst f env M = lstR (f env M) := by
  unfold iLst lstR
  cases f env M with
  | none => rfl
  | some p => obtain ⟨r, M'⟩ := p; cases r with
    | x c n => rfl
    | v d => cases d <;> rfl
theorem zqp : lstR (some (.v (.lst ds), M)) = some (.v ds, M) := rfl
def zoN : Option (ResA × Mm) -> Option (ResA × Mm)
 | some (.v [.int j], M1) => if -1000000000 <= j /\ j <= 1000000000 then some (.v ((List.range j.toNat).map fun (k : Nat) => .int (0 + k)), M1) else none
 | some (.x c n, M1) => some (.x c n, M1)
 | _ => none
theorem zrr {fs : EA} : zhk fs env M = zoN (fs env M) := by
 unfold zhk zoN;rfl
theorem zjr (h : -1000000000 <= i /\ i <= 1000000000) : zoN (some (.v [.int i], M)) = some (.v ((List.range i.toNat).map fun (k : Nat) => .int (0 + k)), M) := if_pos h
theorem q_fn {m : Nat} {t : S} : fnG m t ds M = endS (t (ds.map .val ++ List.replicate (m - ds.length) .un) M) := rfl
theorem zp6 : endS (some (.rt d, M)) = some (.v d, M) := rfl
theorem zrW {e : Env} : endS (some (.nx e, M)) = some (.v .non, M) := rfl
theorem zp5 : oAdd (.int i) (.int j) = some (.int (i + j)) := rfl
theorem zrX : oAdd (.lst ds) (.lst es) = if ds.length + es.length <= sizeLine then some (.lst (ds ++ es)) else none := rfl
theorem zt0 : oSub (.int i) (.int j) = some (.int (i - j)) := rfl
theorem zsV : oMul (.int i) (.int j) = if i.natAbs < 18446744073709551616 \/ j.natAbs < 18446744073709551616 \/ (i.natAbs.log2 < 10000 /\ j.natAbs.log2 < 10000) then some (.int (i * j)) else none := rfl
theorem zpF : zjL (.int i) (.int j) = if 0 < j /\ j.natAbs < 1073741824 then some (.int (i / j)) else none := rfl
theorem ztr : oMod (.int i) (.int j) = if 0 < j then some (.int (i % j)) else none := rfl
theorem zsY : oPow (.int i) (.int j) = if 0 <= j /\ j.natAbs <= 1000000 /\ i.natAbs < 18446744073709551616 then some (.int (i ^ j.toNat)) else none := rfl
theorem ztK : oNeg (.int i) = some (.int (-i)) := rfl
theorem o_lt : oCmp .lt (.int i) (.int j) = some (.bl (decide (i < j))) := rfl
theorem o_le : oCmp .le (.int i) (.int j) = some (.bl (decide (i <= j))) := rfl
theorem o_gt : oCmp .gt (.int i) (.int j) = some (.bl (decide (j < i))) := rfl
theorem o_ge : oCmp .ge (.int i) (.int j) = some (.bl (decide (j <= i))) := rfl
theorem zsx : oCmp .eq (.int i) (.int j) = some (.bl (decide (i = j))) := by
 show (cEq _ _).map D.bl = _
 simp [cEq, eqOk, D.flat, D.dep, D.eq]
 rw [Bool.eq_iff_iff]; simp
theorem zsa : oCmp .ne (.int i) (.int j) = some (.bl (!decide (i = j))) := by
 show (cNe _ _).map D.bl = _
 simp [cNe, eqOk, D.flat, D.dep, D.eq]
 rw [Bool.eq_iff_iff]; simp
theorem zpO (h : d.dep <= 50) : oCmp .ne d d = some (.bl false) := by
 show (cNe d d).map D.bl = _;unfold cNe;rw [if_pos ⟨by simp [eqOk, h], h⟩, D.eq_refl];rfl
theorem zss : oIx (.lst ds) (.int i) = atI ds i := rfl
theorem zsF : oIx (.tup ds) (.int i) = atI ds i := rfl
theorem zqS : bLen [.lst ds] = some (.int ds.length) := rfl
theorem zrV : bLen [.tup ds] = some (.int ds.length) := rfl
theorem ztF : bMin [.int i, .int j] = some (.int (if j < i then j else i)) := rfl
theorem zro : truD (.lst ds) = some (!ds.isEmpty) := rfl
theorem zrC : truD (.bl b) = some b := rfl
theorem ztS {lo hi : Option Int} : slD (.str z) lo hi = if z.length <= sizeLine then some (.str (Txt.slice z lo hi)) else none := rfl
theorem zr6 {lo hi : Option Int} : slD (.lst ds) lo hi = some (.lst (cutL ds lo hi)) := rfl
end
def Step (J : Env -> Mm -> Prop) (Q : OS -> Prop) : OS -> Prop
 | some (.nx e, M) => J e M
 | some (.ct e, M) => J e M
 | some (.bk e, M) => Q (some (.nx e, M))
 | some (.rt d, M) => Q (some (.rt d, M))
 | some (.ex c n, M) => Q (some (.ex c n, M))
 | none => False
theorem ziB {i : Nat} {body : S} {ds : List D} {env : Env} {M : Mm} (Q : OS -> Prop) (J : Nat -> Env -> Mm -> Prop) (h0 : J 0 env M)
    (hs : ∀ (k : Nat) d env M, ds[k]? = some d -> J k env M -> i < env.length /\ Step (J (k + 1)) Q (body (env.set i (.val d)) M)) (hd : ∀ env M, J ds.length env M -> Q (some (.nx env, M))) : Q (loopS i body ds env M) := by
  have key : ∀ (m k : Nat) (env : Env) (M : Mm), m + k = ds.length -> J k env M -> Q (loopS i body (ds.drop k) env M) := by
    intro m
    induction m with
    | zero =>
      intro k env M hk hJ;have e : k = ds.length := by omega
      subst e;rw [List.drop_length];exact hd env M hJ
    | succ m ih =>
      intro k env M hk hJ;have hlt : k < ds.length := by omega
      obtain ⟨hi, h1⟩ := hs k ds[k] env M (List.getElem?_eq_getElem hlt) hJ;rw [List.drop_eq_getElem_cons hlt];simp only [loopS, hi, if_true]
      cases e : body (env.set i (.val ds[k])) M with
      | none => rw [e] at h1; exact h1.elim
      | some o =>
        rw [e] at h1;obtain ⟨o, M'⟩ := o
        cases o with
        | nx e' => exact ih (k + 1) e' M' (by omega) h1
        | ct e' => exact ih (k + 1) e' M' (by omega) h1
        | bk e' => exact h1
        | rt d => exact h1
        | ex c n => exact h1
  have := key ds.length 0 env M (by omega) h0
  rwa [List.drop_zero] at this
end E3
namespace E3
open PySem PySem.Spec PyProof.Rows L2
def XN (H : Hp) (n : Int) : Option Addr -> Prop
 | none => n = 0
 | some d => ∃ fs, H d = some (.xd fs) /\ fs.lookup ("at" : Str) = some (.int (n - 1)) /\ n ≠ 0
def XQ (K : Fgx) (mg : Mgx) (P : Pl) (H : Hp) (M' : Mm) (Q : VK) (E : XK) : Res -> Prop
 | .v d => ∀ P' v H', LtE P H P' H' -> Hk K mg P' H' M' -> Is K P' H' d v -> Q v H'
 | .x c n => ∀ P' H' C dx, LtE P H P' H' -> Hk K mg P' H' M' -> mg c = some (.ref C) -> XN H' n dx -> E (.ref C) dx H'
def spX (K : Fgx) (mg : Mgx) (n : Nat) (g : G) : Sp := fun vs H Q E => vs.length = n /\ ∃ P M ds r M', Hk K mg P H M /\ Iss K P H ds vs /\ g ds M = some (r, M') /\ XQ K mg P H M' Q E r
mutual
theorem Is.away {K : Fgx} {P : Pl} {H H' : Hp} (s : ∀ b o, H b = some o -> (∀ g, o ≠ .ext g) -> H' b = some o) : ∀ {d : D} {v : V}, Is K P H d v -> Is K P H' d v
  | .non, _, h => h
  | .bl _, _, h => h
  | .int _, _, h => h
  | .str _, _, h => h
  | .tup ds, _, h => by
    obtain ⟨a, vs, e, q, r⟩ := h;refine ⟨a, vs, e, ?_, Iss.away s r⟩;rcases q with (q | ⟨o, q⟩) | q
    · exact .inl (.inl (s _ _ q fun _ z => nomatch z))
    · exact .inl (.inr ⟨o, s _ _ q fun _ z => nomatch z⟩)
    · exact .inr q
  | .lst ds, _, h => by
    obtain ⟨a, vs, e, q, r⟩ := h;refine ⟨a, vs, e, ?_, Iss.away s r⟩;rcases q with ⟨n, q | ⟨o, q⟩⟩ | q
    · exact .inl ⟨n, .inl (s _ _ q fun _ z => nomatch z)⟩
    · exact .inl ⟨n, .inr ⟨o, s _ _ q fun _ z => nomatch z⟩⟩
    · exact .inr q
  | .ref k, _, h => h
theorem Iss.away {K : Fgx} {P : Pl} {H H' : Hp} (s : ∀ b o, H b = some o -> (∀ g, o ≠ .ext g) -> H' b = some o) : ∀ {ds : List D} {vs : List V}, Iss K P H ds vs -> Iss K P H' ds vs
  | [], _, h => h
  | _ :: _, _, h => by
    obtain ⟨v, r, e, p, q⟩ := h;exact ⟨v, r, e, Is.away s p, Iss.away s q⟩
end
theorem Hk.away {K : Fgx} {mg : Mgx} {P : Pl} {H H' : Hp} {M : Mm} (h : Hk K mg P H M) (s : ∀ b o, H b = some o -> (∀ g, o ≠ .ext g) -> H' b = some o) (t : ∀ b, H' b = none -> H b = none) : Hk K mg P H' M := by
  refine ⟨h.n, fun k c e => ?_, h.inj, h.bd, fun a z q => h.here a z (t a q)⟩;have := h.cell k c e
  cases c with
  | lst ds =>
    obtain ⟨vs, e1, q⟩ := this;exact ⟨vs, s _ _ e1 (fun _ z => nomatch z), Iss.away s q⟩
  | obj c fs =>
    obtain ⟨C, dx, gs, e1, e2, e3, q⟩ := this;exact ⟨C, dx, gs, e1, s _ _ e2 (fun _ z => nomatch z), e3, Iss.away s q⟩
  | dct kvs =>
    obtain ⟨vs, e1, e2, q⟩ := this;exact ⟨vs, s _ _ e1 (fun _ z => nomatch z), e2, Iss.away s q⟩
structure XFit (X : Cx) (Wx : XW) : Prop where
 xr : ∀ pins σ H s a C dx c n P0 H0 P M, Inv X pins σ H s -> H a = some (xo a C dx true) -> ¬ P.bd a -> H0 a = none -> LtE P0 H0 P H -> Hk X.K X.mg P H M -> X.mg c = some (.ref C) -> XN H n dx -> Wx P0 H0 M c n -> X.xe (.ref a) s
section
variable {X : Cx} {Wx : XW} {pos : Pos}
def zeN (c : Str) (f : E) : S := fun env M => bndS (f env M) fun _ M1 => some (.ex c 0, M1)
theorem zg0 {c : Str} {C : Addr} {e : Expr} {f : E} {p q : Pos} (F : XFit X Wx) (hc : X.calm = true) (m : X.mg c = some (.ref C)) (q1 : xcIn X.K C = true) (q2 : zlx X.K C = true) (kp : PySem.W.keepIn X.K (.ref C) = true) (hg : Gl X c) (he : SE X Wx .val e f) (hdb : (c == ("__debug__" : Str)) = false := by x_go)
  (hs : starEach [e] X.env = [(false, eval e X.env)] := by rfl) : SS X Wx (.Raise (some (.Call (.Name c p) [e] [] q)) none pos) (zeN c f) := by
 refine zcu (zjh (W := fun a C' dx H => dx = none /\ C' = C /\ ∃ P0 H0 P M, ¬ P.bd a /\ H0 a = none /\ LtE P0 H0 P H /\ Hk X.K X.mg P H M /\ Wx P0 H0 M c 0) (zlV q1 q2 kp hg m he hdb hs) hc fun pins σ H s a C' dx I ea ⟨e1, e2, P0, H0, P, M, b, n, l, h, w⟩ => ?_) ?_
 ·subst e1 e2;exact F.xr pins σ H s a _ none c 0 P0 H0 P M I ea b n l h m rfl w
 ·rintro D st H ⟨P0, H0, P, Os, env, M, out, M', k, e, q⟩;unfold zeN at e;rcases za0 e with ⟨d, M1, e1, e⟩ | ⟨c, n, e1, rfl⟩
  ·cases e;refine ⟨P0, H0, P, Os, env, M, _, _, k, e1, fun P1 v H1 l1 h1 i1 => ⟨rfl, fun a ha => ⟨a, C, none, rfl, zao, q1, rfl, rfl, P0, H0, P1, _, h1.new a ha, ?_, ?_, ?_, q⟩⟩⟩
   ·exact k.base.sure a (l1.sure a ha)
   ·exact k.base.trans (l1.trans (LtE.same (zcn ha)))
   ·exact h1.same (zcn ha)
  ·exact ⟨P0, H0, P, Os, env, M, _, _, k, e1, q⟩
end
section
variable {P : Program} {w : World} {K : Fgx} {mg : Mgx} {base : Heap} {k : Nat} {x qual : Str} {st : Stmt} {f : Addr} {fd : FuncData} {N ps : List Str} {b : S}
abbrev cxX (P : Program) (w : World) (K : Fgx) (mg : Mgx) (base : Heap) (N : List Str) (qual : Str) (st : Stmt) (f : Addr) (cdv : Value) (A : Around) (outer : List PySem.Env) (s : Shared) (H : Hp) (E : XK) : Cx := cxOf (CX1 P w) P w K mg base N qual (zah st) f cdv A outer s H E
end
section
variable {P : Program} {w : World} {K : Fgx} {mg : Mgx} {base : Heap} {k : Nat} {x qual : Str} {st : Stmt} {f : Addr} {fd : FuncData} {N ps : List Str} {b : S}
theorem zjQ {sp : Sp} (F : FnOk P w K mg base (CX1 P w) k f fd ps sp) : FnOk P w K mg base CX0 k f fd ps (fun vs H Q _ => sp vs H Q E0) :=
 ⟨fun vs H Q E h => F.len vs H Q E0 h, fun A outer s H args us vs Q E hr he hb hv hs => codeAny_mono (F.run A outer s H args us vs Q E0 hr he hb hv hs) fun r s' z => by
  cases r with
  | error e => obtain ⟨_, _, _, _, _, _, _, _, _, _, _, _, _, _, z⟩ := z; exact z
  | ok fl => cases fl <;> exact z⟩
theorem zjB {n : Nat} {g : G} (F : FnOk P w K mg base (CX1 P w) k f fd ps (spX K mg n g)) : FnOk P w K mg base CX0 k f fd ps (spG K mg n g) := by
 have F0 := zjQ F;refine ⟨fun vs H Q E h => F0.len vs H Q E ?_, fun A outer s H args us vs Q E hr he hb hv hs => F0.run A outer s H args us vs Q E hr he hb hv ?_⟩
 ·obtain ⟨hl, P, M, ds, d, M', hk, is, e, q⟩ := h;exact ⟨hl, P, M, ds, .v d, M', hk, is, e, q⟩
 ·obtain ⟨hl, P, M, ds, d, M', hk, is, e, q⟩ := hs;exact ⟨hl, P, M, ds, .v d, M', hk, is, e, q⟩
def AtMX (P : Program) (w : World) (K : Fgx) (mg : Mgx) (base : Heap) (k : Nat) (C : Addr) (m : Str) (n : Nat) (g : G) : Prop :=
 ∃ f fd ps, Meth K C m f /\ FnOk P w K mg base (CX1 P w) k f fd ps (spX K mg n g) /\ Binds K fd ps []
def AtIX (P : Program) (w : World) (K : Fgx) (mg : Mgx) (base : Heap) (k : Nat) (C : Addr) (n : Nat) (g : G) : Prop :=
 ∃ f fd ps, Mk K C f /\ FnOk P w K mg base (CX1 P w) k f fd ps (spX K mg n g) /\ Binds K fd ps []
def AtX (P : Program) (w : World) (K : Fgx) (mg : Mgx) (base : Heap) (k : Nat) (f : Str) (n : Nat) (g : G) : Prop :=
 ∃ fa fd ps, mg f = some (.ref fa) /\ PySem.W.keepIn K (.ref fa) = true /\ FnOk P w K mg base (CX1 P w) k fa fd ps (spX K mg n g) /\ Binds K fd ps []
theorem AtX.quiet {n : Nat} {g : G} (a : AtX P w K mg base k x n g) : AtG P w K mg base k x n g := by
 obtain ⟨fa, fd, ps, h1, h2, h3, h4⟩ := a;exact ⟨fa, fd, ps, [], [], _, h1, h2, zjB h3, h4, .nil, fun vs H Q E h => by rw [List.append_nil]; exact h⟩
theorem AtX.mono {j : Nat} {n : Nat} {g : G} (a : AtX P w K mg base j x n g) (h : j <= k) : AtX P w K mg base k x n g := by
 obtain ⟨f, fd, ps, h1, h2, h3, h4⟩ := a;exact ⟨f, fd, ps, h1, h2, h3.mono h, h4⟩
end
end E3
namespace L2
open PySem PySem.Spec PyProof.Rows
section
variable {X : Cx} {CX : CXT} {k : Nat} {f C : Addr} {fd : FuncData} {ps : List Str} {sp : Sp} {x m : Str} {p pos apos : Pos} {e o : Expr} {es : List Expr} {ta : TE} {t : TA} {Ex : St -> XK}
def zn5 (CX : CXT) (X : Cx) (Ex : St -> XK) : Prop := ∀ pins σ H s e s', Inv X pins σ H s -> CX X.stack H s (Ex σ) e s' -> X.xe e s'
end
end L2
namespace E3
open PySem PySem.Spec PyProof.Rows L2
section
variable {X : Cx} {Wx : XW} {pos : Pos}
def SX (X : Cx) (e : Expr) (f : E) : Prop := ∀ Ex : L2.St -> XK, zn5 (CX1 X.prog X.w) X Ex -> PE X e fun st H Q => ∃ P0 H0 P Os env M r M', Ok X.K X.mg P0 H0 P Os H M st env /\ f env M = some (r, M') /\ XQ X.K X.mg P H M' Q (Ex st) r
theorem XQ.lt {K : Fgx} {mg : Mgx} {P P1 : Pl} {H H1 : Hp} {M' : Mm} {Q : VK} {E : XK} {r : Res} (l : LtE P H P1 H1) (q : XQ K mg P H M' Q E r) : XQ K mg P1 H1 M' Q E r := by
 cases r with
 | v d => exact fun P' v H' l' h i => q P' v H' (l.trans l') h i
 | x c n => exact fun P' H' C dx l' h m xn => q P' H' C dx (l.trans l') h m xn
def zeb (g : G) (fs : EA) : E := fun env M => match fs env M with
 | some (.v ds, M1) => g ds M1
 | _ => none
theorem ze3 {k n : Nat} {f : Str} {g : G} {e : Expr} {es : List Expr} {fs : EA} {p : Pos} (a : AtX X.prog X.w X.K X.mg X.base k f n g) (hr : Room k X.A) (hg : Gl X f) (ha : SA X W0 .val (e :: es) fs) (hn : Cnt n fs) (hdb : (f == ("__debug__" : Str)) = false := by x_go)
  (he : starEach (e :: es) X.env = (false, eval e X.env) :: starEach es X.env := by rfl) (hpl : (backTo pos (starEach es X.env)).any (·.1) = false := by rfl) : SX X (.Call (.Name f p) (e :: es) [] pos) (zeb g fs) := by
 obtain ⟨fa, fd, ps, hm, hk, F, hb⟩ := a;intro Ex hx;refine zaP (zlY F hr hg hm hk hb .nil hx ha hdb he hpl) ?_;rintro st H Q ⟨P0, H0, P, Os, env, M, r, M', k, e, q⟩;unfold zeb at e;split at e
 ·rename_i ds M1 e1;exact ⟨P0, H0, P, Os, env, M, _, _, k, e1, fun P1 vs H1 l1 h1 i1 => by
   dsimp only;rw [List.append_nil];exact ⟨by rw [i1.len]; exact hn _ _ _ _ e1, P1, M1, ds, r, _, h1, i1.iss, e, q.lt l1⟩⟩
 ·cases e
def ztw (K : Fgx) (mg : Mgx) (E : XK) (P0 : Pl) (H0 : Hp) (P : Pl) (H : Hp) (M' : Mm) (D : Ends) : Out -> Prop
 | .ex c n => ∀ P' H' C dx, LtE P H P' H' -> Hk K mg P' H' M' -> mg c = some (.ref C) -> XN H' n dx -> E (.ref C) dx H'
 | .nx env => Post K mg W0 P0 H0 P H M' D (.nx env)
 | .bk env => Post K mg W0 P0 H0 P H M' D (.bk env)
 | .ct env => Post K mg W0 P0 H0 P H M' D (.ct env)
 | .rt d => Post K mg W0 P0 H0 P H M' D (.rt d)
def tBX (K : Fgx) (mg : Mgx) (Ex : L2.St -> XK) (b : S) : TS := fun D st H => ∃ P0 H0 P Os env M out M', Ok K mg P0 H0 P Os H M st env /\ b env M = some (out, M') /\ ztw K mg (Ex st) P0 H0 P H M' D out
def SXs (X : Cx) (s : Stmt) (b : S) : Prop := ∀ Ex : L2.St -> XK, zn5 (CX1 X.prog X.w) X Ex -> PS X s (tBX X.K X.mg Ex b)
def BX (X : Cx) (ss : List Stmt) (b : S) : Prop := ∀ Ex : L2.St -> XK, zn5 (CX1 X.prog X.w) X Ex -> PSs X ss (tBX X.K X.mg Ex b)
theorem zkf {s : Stmt} {b : S} (h : SXs X s b) : BX X [s] b := fun Ex hx => zoD (h Ex hx)
theorem zlE {e : Expr} {f : E} (h : SX X e f) (hs : swapsWith e none pos.line X.env = pure false := by rfl) : SXs X (.Expr e pos) (zgk f) := by
 intro Ex hx;refine zcu (ze5 (h Ex hx) hs) ?_;rintro D st H ⟨P0, H0, P, Os, env, M, out, M', k, e, q⟩;unfold zgk at e;rcases za0 e with ⟨d, M1, e1, e⟩ | ⟨c, n, e1, rfl⟩
 ·cases e;exact ⟨P0, H0, P, Os, env, M, _, _, k, e1, fun P1 v H1 l1 h1 i1 => q _ _ _ _ (l1.lt k.hk) (k.next l1 h1)⟩
 ·exact ⟨P0, H0, P, Os, env, M, _, _, k, e1, q⟩
theorem zp4 {i : Nat} {x : Str} {e : Expr} {f : E} {pos' : Pos} (hN : X.N.Nodup) (hi : X.N[i]? = some x) (hx : Loc X.env.scope x) (h : SX X e f) (hs : swapsWith e (some (.Name x pos')) pos.line X.env = pure false := by rfl)
  (hf : X.fn x = true \/ X.env.scope.names.lookup x = some .local := by first | exact .inl rfl | exact .inr rfl) : SXs X (.Assign [.Name x pos'] e pos) (sAsg i f) := by
 intro Ex hX;refine zcu (zls hN hi hx (h Ex hX) hs hf) ?_;rintro D st H ⟨P0, H0, P, Os, env, M, out, M', k, e, q⟩;unfold sAsg at e;rcases za0 e with ⟨d, M1, e1, e⟩ | ⟨c, n, e1, rfl⟩
 ·split at e
  ·rename_i hl;cases e;exact ⟨P0, H0, P, Os, env, M, _, _, k, e1, fun P1 v1 H1 l1 h1 i1 => q _ _ _ _ (l1.lt k.hk) ((k.next l1 h1).asg hl i1)⟩
  ·cases e
 ·exact ⟨P0, H0, P, Os, env, M, _, _, k, e1, q⟩
end
end E3
namespace L2
open PySem PySem.Spec PyProof.Rows
end L2
namespace E3
open PySem PySem.Spec PyProof.Rows L2
section
variable {K : Fgx} {mg : Mgx} {P0 P : Pl} {H0 H : Hp} {M : Mm} {Os : List (Option Addr)} {st : L2.St} {env : Env} {i : Nat}
theorem Ok.put {s : Slot} {sv : Option V} (k : Ok K mg P0 H0 P Os H M st env) (hi : i < env.length) (h : znl K mg P H none sv s) : Ok K mg P0 H0 P (Os.set i none) H M (st.set i sv) (env.set i s) where
 hk := k.hk
 base := k.base
 b0 := k.b0
 slot := fun j s e => by
  rw [zdp _ _ _ _ (by rw [k.olen]; exact hi), zdp _ _ _ _ (by rw [k.slen]; exact hi)];rw [List.getElem?_set] at e;split at e
  ·rename_i ij;subst ij;cases e;rw [if_pos rfl, if_pos rfl];exact h
  ·rename_i ij;rw [if_neg ij, if_neg ij];exact k.slot j s e
 own := fun a h => k.own a (by
  rcases List.mem_or_eq_of_mem_set h with h | h
  ·exact h
  ·cases h)
 inj := fun j l a e1 e2 => by
  rw [List.getElem?_set] at e1 e2;split at e1
  ·split at e1 <;> cases e1
  ·split at e2
   ·split at e2 <;> cases e2
   ·exact k.inj j l a e1 e2
 olen := by rw [List.length_set, List.length_set, k.olen]
 slen := by rw [List.length_set, List.length_set, k.slen]
end
section
variable {X : Cx} {Wx : XW} {m : Mode} {pos : Pos}
def sTry (i : Nat) (cat : Str -> Bool) (b h : S) : S := fun env M => match b env M with
  | some (.ex c n, M1) => if cat c = true then (if i < env.length then (match h (env.set i (.exc c n)) M1 with
    | some (.nx env', M2) => (match env'[i]? with
      | some (.exc _ _) => some (.nx (env'.set i .un), M2)
      | _ => none)
    | some (.rt d, M2) => some (.rt d, M2)
    | _ => none) else none) else none
  | o => o
theorem zpt {body suite : List Stmt} {b0 : Stmt} {cn n : Str} {np hp : Pos} {c : Addr} {i : Nat} {b h : S} {cat : Str -> Bool}
    (hs : X.stack = X.env :: X.outer) (hf : X.env.frame = some X.env.locals) (hc : X.calm = true) (hN : X.N.Nodup) (hi : X.N[i]? = some n) (hl : X.env.scope.names.lookup n = some .local) (hg : Gl X cn) (hm : X.mg cn = some (.ref c)) (q : xcIn X.K c = true)
    (hcat : ∀ c', cat c' = true -> ∃ C, X.mg c' = some (.ref C) /\ xcIn X.K C = true /\ zeO X.K C c = true) (hb : ∀ pins E, BX (X.pin pins E) body b) (hh : ∀ e, SB (X.suite e) W0 (b0 :: suite) h) (hdb : (cn == ("__debug__" : Str)) = false := by x_go) :
    SS X Wx (.Try body [.ExceptHandler (some (.Name cn np)) (some n) (b0 :: suite) hp] [] [] pos) (sTry i cat b h) := by
  let Ex : Ends -> L2.St -> XK := fun D σ Cv dx H' => ∀ a C, Cv = .ref C -> H' a = some (xo a C dx false) -> xcIn X.K C = true /\ zeO X.K C c = true /\ tS X.K X.mg W0 h { D with nx := fun σ H => ∃ v, σ[i]? = some (some v) /\ D.nx (σ.set i none) H, bk := fun _ _ => False, ct := fun _ _ => False } (σ.set i (some (.ref a))) H'
  refine zcu (znE (tb := fun D => tBX X.K X.mg (Ex D) b) (th := tS X.K X.mg W0 h) hs hf hc hN hi hl hg hm q hdb (fun pins D => hb pins _ (Ex D) fun pins' σ H s e s' I z => ?_) hh) ?_
  · obtain ⟨a, C, dx, H', T, rfl, K1, hE⟩ := zf3 (X := X) I.of_pin z;obtain ⟨z1, z2, z3⟩ := hE a C rfl K1.obj;exact ⟨σ, H', a, C, dx, T, rfl, K1, z1, z2, z3⟩
  · rintro D st H ⟨P0, H0, P, Os, env, M, out, M', k, e, q⟩;unfold sTry at e;split at e
    · rename_i c' n' M1 e1;split at e
      · rename_i hct;split at e
        · rename_i hil;obtain ⟨C, hmC, x1, x2⟩ := hcat c' hct;refine ⟨P0, H0, P, Os, env, M, _, _, k, e1, fun P1 H1 C1 dx l1 h1 m1 xn a C2 eC ea => ?_⟩;cases eC;cases hmC.symm.trans m1;have k1 := (k.next l1 h1).put (s := .exc c' n') (sv := some (.ref a)) hil ⟨_, rfl, a, C, dx, rfl, m1, ea, xn⟩
          refine ⟨x1, x2, ?_⟩;split at e
          · rename_i env' M2 e2;split at e
            · rename_i c3 n3 ex;cases e;refine ⟨P0, H0, P1, _, _, M1, _, _, k1, e2, fun P2 Os2 H2 st2 l2 k2 => ?_⟩;obtain ⟨v, ev, _⟩ := k2.slot i _ ex;exact ⟨v, zcW ev, q P2 _ H2 _ ((l1.lt k.hk).trans l2) (k2.put (s := .un) (sv := none) (List.getElem?_eq_some_iff.mp ex).1 True.intro)⟩
            · cases e
          · rename_i d M2 e2;cases e;exact ⟨P0, H0, P1, _, _, M1, _, _, k1, e2, q⟩
          · cases e
        · cases e
      · cases e
    · rename_i o hne;refine ⟨P0, H0, P, Os, env, M, _, _, k, e, ?_⟩
      cases out with
      | ex c n => exact absurd e (hne c n M')
      | nx env => exact q
      | bk env => exact q
      | ct env => exact q
      | rt d => exact q
end
section
variable {X : Cx} {Wx : XW}
def iTp (f : E) : EA := fun env M => match f env M with
 | some (.v (.tup ds), M1) => some (.v ds, M1)
 | some (.x c n, M1) => some (.x c n, M1)
 | _ => none
theorem zru {tg e : Expr} {f : E} (h : SE X Wx .val e f) : SI X Wx tg e (iTp f) := by
 refine zhV (zqh h) ?_;rintro st H R ⟨P0, H0, P, Os, env, M, r, M', k, e, q⟩;unfold iTp at e;split at e
 ·rename_i ds M1 ef;cases e;refine ⟨P0, H0, P, Os, env, M, _, _, k, ef, fun P1 v1 H1 l1 h1 i1 => ?_⟩;obtain ⟨a, vs, rfl, ra, is⟩ := i1;refine ⟨a, rfl, ⟨vs, ra⟩, q P1 H1 _ l1 h1 fun P2 H2 l2 => ?_⟩;have sq : SqT X.K H2 a vs := l2.tup ra;have is2 := Iss.lt l2 is;refine ⟨fun j hj => ?_, fun j h1 h2 => ⟨vs, sq, by rw [is2.len]; exact h1⟩, fun j x H' y hj => ⟨y.1, ?_⟩⟩
  ·obtain ⟨v, ev, _⟩ := Iss.get is2 (List.getElem?_eq_getElem hj);exact ⟨vs, v, sq, ev⟩
  ·obtain ⟨v, ev, iv⟩ := Iss.get is2 (List.getElem?_eq_getElem hj);have := y.2 vs sq;rw [ev] at this;cases this;exact ⟨_, List.getElem?_eq_getElem hj, iv⟩
 ·rename_i c n M1 ef;cases e;exact ⟨P0, H0, P, Os, env, M, _, _, k, ef, q⟩
 ·cases e
end
theorem zhS {K : Fgx} {C : Addr} (h1 : PySem.W.findIn K (.ref C) "__getattribute__" = some (some (.builtin "BaseException.__getattribute__"))) (h2 : PySem.W.findIn K (.ref C) "__getattr__" = some none) (h3 : PySem.W.mroIn K C (.type "BaseException") = some true) : zhv K C = true := by
 simp only [zhv, h1, h2, h3, beq_self_eq_true, Bool.and_self]
theorem zlK {K : Fgx} {C : Addr} (h1 : zhv K C = true) (h2 : PySem.W.hasDictIn K C = true) (h3 : PySem.W.findIn K (.ref C) "__class__" = some (some (.builtin "object.__class__"))) (h4 : PySem.W.specialIn K (.builtin "object.__class__") "__get__" = some (some (.builtin "getset_descriptor.__get__")))
  (h5 : PySem.W.takesIn K (.builtin "object.__class__") = some true) (h6 : PySem.W.mroIn K C (.type "object") = some true) : zhP K C = true := by
 simp only [zhP, h1, h2, h3, h4, h5, h6, beq_self_eq_true, Bool.and_self]
end E3
namespace E3
open PySem L2
section
variable {env : Env} {M M1 M2 : Mm} {f g o v : E} {d e x : D} {i : Int} {k : Nat} {ds : List D} {s t : S} {c me fl : Str} {fs : List (Str × D)} {gg : G} {fa : EA}
theorem zqf (h : M[k]? = some (.obj c fs)) : zkB M c (.ref k) = some (k, fs) := by unfold zkB; simp only [h, if_true]
theorem zqc (h1 : v env M = some (.v x, M1)) (h2 : o env M1 = some (.v (.ref k), M2)) (h3 : M2[k]? = some (.obj c fs)) (h4 : fs.length < 1000) : zjU c fl o v env M = some (.nx env, M2.set k (.obj c (putD fl x fs))) := by
 simp only [zjU, bndS, h1, h2, zqf h3, h4, if_true]
theorem zng {M3 : Mm} (h4 : fa env M = some (.v ds, M1)) (h5 : gg (.ref M1.length :: ds) (M1 ++ [.obj c []]) = some (.v .non, M3)) : zjP c gg fa env M = some (.v (.ref M1.length), M3) := by
 simp only [zjP, bndA, h4, h5]
theorem zrQ {a : Int} : endS (some (.ex c a, M)) = some (.x c a, M) := rfl
def tpR : O -> Option (ResA × Mm)
 | some (.v (.tup ds), M1) => some (.v ds, M1)
 | some (.x c n, M1) => some (.x c n, M1)
 | _ => none
theorem zte : iTp f env M = tpR (f env M) := by
  unfold iTp tpR
  cases f env M with
  | none => rfl
  | some p => obtain ⟨r, M'⟩ := p; cases r with
    | x c n => rfl
    | v d => cases d <;> rfl
theorem ztR : tpR (some (.v (.tup ds), M)) = some (.v ds, M) := rfl
end
theorem AtI.mono {P : Program} {w : World} {K : Fgx} {mg : Mgx} {base : Heap} {j k : Nat} {C : Addr} {n : Nat} {g : G} (a : AtI P w K mg base j C n g) (h : j <= k) : AtI P w K mg base k C n g := by
 obtain ⟨f, fd, ps, h1, h2, h3⟩ := a;exact ⟨f, fd, ps, h1, h2.mono h, h3⟩
end E3
namespace E3
open PySem PySem.Spec PyProof.Rows L2
theorem zgb {X : Cx} {Wx : XW} {m : Mode} {i : Nat} {x : Str} {pos : Pos} (hN : X.N[i]? = some x) (hv : Vis X.env.scope x) (hd : (x == ("__debug__" : Str)) = false := by x_go) (hcd : (x == ("__classdict__" : Str)) = false := by x_go) : SE X Wx m (.Name x pos) (sVar i) := (znk hN hv hd hcd).bor
def capE (cs : List (Str × Nat)) (env : Env) : Env := cs.map fun p => (env[p.2]?).getD .un
def capO (cs : List (Str × Nat)) (Os : List (Option Addr)) : List (Option Addr) := cs.map fun p => (Os[p.2]?).join
section
variable {K : Fgx} {mg : Mgx} {P0 P : Pl} {H0 H : Hp} {M : Mm} {Os : List (Option Addr)} {st : L2.St} {env : Env} {d : D} {v : V}
theorem zhr {cs : List (Str × Nat)} {i : Nat} {a : Addr} (h : (capO cs Os)[i]? = some (some a)) : ∃ p, cs[i]? = some p /\ Os[p.2]? = some (some a) := by
 unfold capO at h;rw [List.getElem?_map, Option.map_eq_some_iff] at h;obtain ⟨p, e, h⟩ := h;exact ⟨p, e, zcW h⟩
theorem Ok.cap {cs : List (Str × Nat)} (k : Ok K mg P0 H0 P Os H M st env) (nd : (cs.map (·.2)).Nodup) (h : Is K P H d v) : Ok K mg P0 H0 P (none :: capO cs Os) H M (some v :: ze2 cs st) (.val d :: capE cs env) where
  hk := k.hk
  base := k.base
  b0 := k.b0
  slot := fun i s e => by
    cases i with
    | zero => cases e; exact ⟨v, rfl, h⟩
    | succ i =>
      rw [List.getElem?_cons_succ] at e ⊢;rw [List.getElem?_cons_succ];unfold capE at e;rw [List.getElem?_map, Option.map_eq_some_iff] at e;obtain ⟨p, ep, e⟩ := e;have eo : ((capO cs Os)[i]?).join = (Os[p.2]?).join := by unfold capO; rw [List.getElem?_map, ep]; rfl
      have es : ((ze2 cs st)[i]?).join = (st[p.2]?).join := by unfold ze2; rw [List.getElem?_map, ep]; rfl
      rw [eo, es]
      cases e' : env[p.2]? with
      | none => rw [e'] at e; cases e; exact True.intro
      | some s' => rw [e'] at e; cases e; exact k.slot _ _ e'
  own := fun a h => by
    rw [List.mem_cons] at h;rcases h with h | h
    · cases h
    · obtain ⟨i, hi⟩ := List.mem_iff_getElem?.mp h;obtain ⟨p, _, e⟩ := zhr hi;exact k.own a (List.mem_of_getElem? e)
  inj := fun i j a e1 e2 => by
    cases i with
    | zero => cases e1
    | succ i =>
      cases j with
      | zero => cases e2
      | succ j =>
        rw [List.getElem?_cons_succ] at e1 e2;obtain ⟨p, h1, h2⟩ := zhr e1;obtain ⟨q, h3, h4⟩ := zhr e2;have e := k.inj _ _ a h2 h4;congr 1;have hi : (cs.map (·.2))[i]? = some p.2 := by rw [List.getElem?_map, h1]; rfl
        have hj : (cs.map (·.2))[j]? = some p.2 := by rw [List.getElem?_map, h3, e]; rfl
        have il := (List.getElem?_eq_some_iff.mp hi).1;exact (List.getElem?_inj il nd).mp (hi.trans hj.symm)
  olen := by simp [capO, capE]
  slen := by simp [ze2, capE]
end
section
variable {X : Cx} {Wx : XW} {m : Mode} {pos : Pos}
def zeE (q e : E) (env : Env) : List D -> List D -> Mm -> Option (List D × Mm)
  | [], acc, M => some (acc, M)
  | d :: ds, acc, M => match q (.val d :: env) M with
    | some (.v (.bl true), M1) => (match e (.val d :: env) M1 with
      | some (.v y, M2) => if acc.length + 1 < sizeLine then zeE q e env ds (acc ++ [y]) M2 else none
      | _ => none)
    | some (.v (.bl false), M1) => zeE q e env ds acc M1
    | _ => none
def zfk (cs : List (Str × Nat)) (fs : EA) (q e : E) : E := fun env M => match fs env M with
  | some (.v ds, M1) => (match zeE q e (capE cs env) ds [] M1 with
    | some (ys, M2) => some (.v (.lst ys), M2)
    | none => none)
  | some (.x c n, M1) => some (.x c n, M1)
  | none => none
theorem zfK {cs : List (Str × Nat)} {fs : EA} {q e : E} : ∀ env M r M', zfk cs fs q e env M = some (.v r, M') -> ∃ ds, r = .lst ds := fun env M r M' h => by
 unfold zfk at h;split at h
 ·split at h
  ·cases h; exact ⟨_, rfl⟩
  ·cases h
 ·cases h
 ·cases h
theorem zo6 {K : Fgx} {mg : Mgx} {P1 P : Pl} {H1 H : Hp} {M : Mm} {D : Addr} {vs vs' : List V} (l : LtE P1 H1 P H) (h : Hk K mg P H M) (hD : H1 D = none) (bD : P.bd D) (nc : ∀ k, k < P.n -> P.io k ≠ D) (e : H D = some (.lst vs)) :
  Lt P H P (upd H D (.lst vs')) /\ LtE P1 H1 P (upd H D (.lst vs')) /\ Hk K mg P (upd H D (.lst vs')) M := by
 have lc : Lt P H P (upd H D (.lst vs')) := zfc bD e zkh;refine ⟨lc, ⟨l.n, l.io, l.bd, l.bm, fun c o ec n => ?_, fun c z => l.sure c (lc.sure c z), l.nw⟩, ⟨h.n, fun j c ej => (h.cell j c ej).lt lc fun o eo => ?_, h.inj, h.bd, fun c z q => h.here c z (lc.sure c q)⟩⟩
 ·rw [zal (fun z => by subst z; rw [hD] at ec; cases ec)];exact l.keep c o ec n
 ·rw [zal (nc j (by rw [h.n]; exact (List.getElem?_eq_some_iff.mp ej).1))];exact eo
def NR (K : Fgx) (mg : Mgx) (Wx : XW) (P0 : Pl) (H0 : Hp) (P : Pl) (H : Hp) (M' : Mm) (R : Addr -> Hp -> Prop) : Res -> Prop
 | .v d => ∃ ds, d = .lst ds /\ ∀ P' a vs H', LtE P H P' H' -> Hk K mg P' H' M' -> H a = none -> P'.bd a -> (∀ k, k < P'.n -> P'.io k ≠ a) -> H' a = some (.lst vs) -> Iss K P' H' ds vs -> R a H'
 | .x c n => Wx P0 H0 M' c n
theorem zj8 {K : Fgx} {mg : Mgx} {cs : List (Str × Nat)} {fs : EA} {q e : E} {P0 P : Pl} {H0 H : Hp} {Os : List (Option Addr)} {M M' : Mm} {st : L2.St} {env : Env} {r : Res} {R : Addr -> Hp -> Prop} (nd : (cs.map (·.2)).Nodup)
    (k : Ok K mg P0 H0 P Os H M st env) (h : zfk cs fs q e env M = some (r, M')) (w : NR K mg Wx P0 H0 P H M' R r) : zkm (tI K mg Wx fs) (tTt K mg W0 q) (tE K mg W0 .val e) cs st H R := by
  unfold zfk at h;split at h
  · rename_i ds M1 ef;split at h
    rotate_left
    · cases h
    rename_i ys M2 ec;cases h;obtain ⟨ds', e', w⟩ := w;cases e';refine ⟨P0, H0, P, Os, env, M, _, _, k, ef, fun P1 H1 J l1 h1 wk D hD => ?_⟩;obtain ⟨l2, h2, nc⟩ := zlp (vs := []) h1 hD;refine ⟨fun i m vs H2 => m = ds.length - i /\ i <= ds.length /\ ∃ P2 M3 acc, LtE P1 H1 P2 H2 /\ Hk K mg P2 H2 M3 /\ P2.bd D /\ (∀ k, k < P2.n -> P2.io k ≠ D) /\ H2 D = some (.lst vs) /\ Iss K P2 H2 acc vs /\ acc.length < sizeLine /\ zeE q e (capE cs env) (ds.drop i) acc M3 = some (ys, M'),
      ⟨ds.length, by simp, Nat.zero_le _, P1.bar D, M1, [], l2, h2, .inr rfl, nc, zao, rfl, by x_go, by rw [List.drop_zero]; exact ec⟩, ?_⟩
    rintro i m vs H2 ⟨rfl, hi, P2, M3, acc, l3, h3, bD, nD, eD, is, hz, ec⟩;refine ⟨eD, ?_⟩;obtain ⟨w1, w2, w3⟩ := wk P2 H2 (l3.lt h1)
    by_cases hlt : i < ds.length
    · refine .inr ⟨w1 i hlt, by rw [is.len]; exact hz, fun vs' H' => ∃ P2 M3 acc, LtE P1 H1 P2 H' /\ Hk K mg P2 H' M3 /\ P2.bd D /\ (∀ k, k < P2.n -> P2.io k ≠ D) /\ H' D = some (.lst vs') /\ Iss K P2 H' acc vs' /\ acc.length < sizeLine /\ zeE q e (capE cs env) (ds.drop (i + 1)) acc M3 = some (ys, M'),
        fun vs' H' z => ⟨ds.length - (i + 1), by omega, rfl, hlt, z⟩, fun x H' y => ?_⟩
      obtain ⟨e3, d, ed, iv⟩ := w3 i x H' y hlt;subst e3;have ed' : ds.drop i = d :: ds.drop (i + 1) := by
        rw [List.drop_eq_getElem_cons hlt];rw [List.getElem?_eq_getElem hlt] at ed;rw [Option.some.inj ed]
      rw [ed'] at ec;have kk := ((k.next l1 h1).next l3 h3).cap (cs := cs) nd iv
      simp only [zeE] at ec;split at ec
      · rename_i M4 eq;refine zcY kk eq ⟨true, rfl, fun P4 H4 l4 h4 => ?_⟩;dsimp only;rw [if_pos rfl];split at ec
        · rename_i y' M5 ee;split at ec
          · rename_i hz';refine zax (kk.next l4 h4) ee fun P5 v5 H5 l5 h5 i5 => ?_
            have l45 := l4.trans l5;have eD5 : H5 D = some (.lst vs) := l45.keep D _ eD nD;have nD5 : ∀ k, k < P5.n -> P5.io k ≠ D := l45.nc eD nD;obtain ⟨g1, g2, g3⟩ := zo6 (vs' := vs ++ [v5]) (l3.trans l45) h5 hD (l45.bm D bD) nD5 eD5;refine ⟨eD5, P5, M5, acc ++ [y'], g2, g3, l45.bm D bD, nD5, zao, Iss.append (Iss.lt ((l45.lt h3).trans g1) is) (Iss.one (Is.lt g1 i5)), by rw [List.length_append]; exact hz', ec⟩
          · cases ec
        · cases ec
      · rename_i M4 eq;refine zcY kk eq ⟨false, rfl, fun P4 H4 l4 h4 => ?_⟩;dsimp only;rw [if_neg (by decide)];exact ⟨P4, M4, acc, l3.trans l4, h4, l4.bm D bD, l4.nc eD nD, l4.keep D _ eD nD, Iss.lt (l4.lt h3) is, hz, ec⟩
      · cases ec
    · have ei : i = ds.length := by omega
      subst ei;rw [List.drop_length] at ec;cases ec;exact .inl ⟨w2 _ (Nat.le_refl _) (Nat.le_refl _), w P2 D vs H2 (l1.trans l3) h3 (l1.sure D hD) bD nD eD is⟩
  · rename_i c n M1 ef;cases h;exact ⟨P0, H0, P, Os, env, M, _, _, k, ef, w⟩
  · cases h
def SQ (X : Cx) (ifs : List Expr) (q : E) : Prop := PIfs X ifs (tTt X.K X.mg W0 q)
theorem zfw : SQ X [] (sCon (.bl true)) := fun pins s σ H Q I h => by
 obtain ⟨P0, H0, P, Os, env, M, r, M', k, e, q⟩ := h;cases e;obtain ⟨b, e2, q⟩ := q;cases e2;exact zj7 pins s σ H Q I (q P H (LtE.refl P H) k.hk)
section
variable {elt iter : Expr} {ifs : List Expr} {scope : Scope} {fs : EA} {q e : E}
theorem zfR (x : Str) (cs : List (Str × Nat)) {px : Pos} (hc : X.calm = true) (nd : (cs.map (·.2)).Nodup) (hi : SI X Wx (.Name x px) iter fs)
  (hq : ∀ (cl : List (Str × Addr)) (C : Addr) (s₀ : Shared) (H₀ : Hp) (ex : List Addr) (pn : Pnx), SQ (zbX X (x :: cs.map (·.1)) scope cl C s₀ H₀ ex pn) ifs q)
  (he : ∀ (cl : List (Str × Addr)) (C : Addr) (s₀ : Shared) (H₀ : Hp) (ex : List Addr) (pn : Pnx), SE (zbX X (x :: cs.map (·.1)) scope cl C s₀ H₀ ex pn) W0 .val elt e)
  (ok : zg4 X.N X.env.scope x cs scope = true := by kernel_rfl) (hs : ∀ x, foldedSetIterable iter X.env x = pure x := by intro _; rfl) :
  SN X Wx (.ListComp elt [⟨.Name x px, iter, ifs, 0⟩] scope pos) (zfk cs fs q e) := by
 refine zaP (zn3 (tq := tTt X.K X.mg W0 q) (te := tE X.K X.mg W0 .val e) x cs hc hi hq he ok hs) ?_;rintro st H Q ⟨P0, H0, P, Os, env, M, r, M', k, e, w⟩;refine zj8 nd k e ?_
 cases r with
 | v d => exact w
 | x c n => exact w
end
end
section
variable {X : Cx} {Wx : XW} {m : Mode} {pos : Pos}
def sPop (f : E) : E := fun env M => bnd (f env M) fun d M1 => match d with
  | .ref j => (match M1[j]? with
    | some (.lst ds) => (match ds[ds.length - 1]? with
      | some z => some (.v z, M1.set j (.lst ds.dropLast))
      | none => none)
    | _ => none)
  | _ => none
theorem Iss.dropLast {K : Fgx} {P : Pl} {H : Hp} {ds : List D} {vs : List V} (h : Iss K P H ds vs) : Iss K P H ds.dropLast vs.dropLast := by
 rw [List.dropLast_eq_take, List.dropLast_eq_take, h.len];exact h.take _
theorem zrb {o : Expr} {f : E} {p : Pos} (ho : SE X Wx .val o f) (hbase : attributeBase o "pop" X.env (eval o X.env) = eval o X.env := by rfl) (hline : (p.endLine == pos.line) = true := by rfl) :
  SE X Wx m (.Call (.Attribute o "pop" p) [] [] pos) (sPop f) := by
 refine zaP (zpn PySem.F.plainAttrs_list PySem.F.slot_list_pop PySem.F.type_list_pop zpN ho hbase hline) ?_;rintro st H Q ⟨P0, H0, P, Os, env, M, r, M', k, e, q⟩;unfold sPop at e;rcases zaB e with ⟨d, M1, e1, e⟩ | ⟨c, n, e1, rfl⟩
 ·cases d <;> simp only [reduceCtorEq] at e
  rename_i j;split at e
  rotate_left
  ·cases e
  rename_i ds em;split at e
  rotate_left
  ·cases e
  rename_i z ez;cases e;refine zax k e1 fun P1 v1 H1 l1 h1 i1 => ?_;obtain ⟨jl, rfl⟩ : j < P1.n /\ v1 = .ref (P1.io j) := i1;obtain ⟨vs, ev, is⟩ := h1.cell j _ em;obtain ⟨v, evt, iv⟩ := is.get ez;have lc : Lt P1 H1 P1 (upd H1 (P1.io j) (.lst vs.dropLast)) := zfc (h1.bd j jl) ev zkh;obtain ⟨l3, l3e, h3⟩ := h1.set (c' := .lst ds.dropLast) (o' := .lst vs.dropLast) em ⟨_, zao, (Iss.lt lc is).dropLast⟩;refine ⟨.inl ⟨rfl, vs, .inl (.inl ev)⟩, P1.io j, vs, v, rfl, rfl, ev, by rw [is.len]; exact evt, ?_⟩;exact q P1 v _ (l1.trans l3e) h3 (IsM.of h3 (Is.lt l3 iv))
 ·exact zax k e1 q
end
def toKey : D -> Option Key
 | .int i => some (.inl i)
 | .str z => some (.inr z)
 | _ => none
def valD (kvs : List (Key × D)) (k : Key) : Option D := (kvs.find? fun kv => decide (kv.1 = k)).map (·.2)
def putT (kvs : List (Key × D)) (k : Key) (v : D) : List (Key × D) :=
 if (kvs.any fun kv => decide (kv.1 = k)) = true then kvs.map (fun kv => if kv.1 = k then (kv.1, v) else kv) else kvs ++ [(k, v)]
section
variable {K : Fgx} {mg : Mgx} {P : Pl} {H : Hp} {M : Mm}
def TbOk (K : Fgx) (P : Pl) (H : Hp) (kvs : List (Key × D)) (vs : List (Key × V)) : Prop := vs.map (·.1) = kvs.map (·.1) /\ Iss K P H (kvs.map (·.2)) (vs.map (·.2))
theorem key_is {d : D} {v : V} {k : Key} (h : toKey d = some k) (i : Is K P H d v) : v = kV k := by
 unfold toKey at h;split at h
 ·cases h; cases i; rfl
 ·cases h; cases i; rfl
 ·cases h
theorem zfO {p : Key × D} {q : Key × V} {kvs : List (Key × D)} {vs : List (Key × V)} : TbOk K P H (p :: kvs) (q :: vs) ↔ q.1 = p.1 /\ Is K P H p.2 q.2 /\ TbOk K P H kvs vs := by
 constructor
 ·rintro ⟨h1, v, r, e1, i, q⟩;simp only [List.map_cons, List.cons.injEq] at h1 e1;obtain ⟨rfl, rfl⟩ := e1;exact ⟨h1.1, i, h1.2, q⟩
 ·rintro ⟨h1, i, h2, q⟩;exact ⟨by simp [h1, h2], _, _, rfl, i, q⟩
theorem zk0 {k : Key} : ∀ {kvs : List (Key × D)} {vs : List (Key × V)}, TbOk K P H kvs vs -> match valD kvs k with
    | some d => ∃ v, valV vs k = some v /\ Is K P H d v
    | none => valV vs k = none
  | [], [], _ => rfl
  | [], _ :: _, h => by cases h.1
  | _ :: _, [], h => by cases h.1
  | p :: kvs, q :: vs, h => by
    obtain ⟨h1, i, h2⟩ := zfO.mp h
    by_cases e : p.1 = k
    · have e' : q.1 = k := h1.trans e;have a : valD (p :: kvs) k = some p.2 := by simp [valD, List.find?_cons, e]
      rw [a];exact ⟨q.2, zfn e', i⟩
    · have e' : ¬ q.1 = k := fun z => e (h1.symm.trans z);have a : valD (p :: kvs) k = valD kvs k := by simp [valD, List.find?_cons, e]
      rw [a, zfo e'];exact zk0 h2
theorem tb_any {k : Key} : ∀ {kvs : List (Key × D)} {vs : List (Key × V)}, vs.map (·.1) = kvs.map (·.1) -> (vs.any fun kv => decide (kv.1 = k)) = (kvs.any fun kv => decide (kv.1 = k))
  | [], [], _ => rfl
  | [], _ :: _, h => by cases h
  | _ :: _, [], h => by cases h
  | p :: kvs, q :: vs, h => by
    simp only [List.map_cons, List.cons.injEq] at h;rw [List.any_cons, List.any_cons, h.1, tb_any h.2]
theorem zmT {k : Key} {d : D} {v : V} (i : Is K P H d v) : ∀ {kvs : List (Key × D)} {vs : List (Key × V)}, TbOk K P H kvs vs -> TbOk K P H (kvs.map fun kv => if kv.1 = k then (kv.1, d) else kv) (vs.map fun kv => if kv.1 = k then (kv.1, v) else kv)
  | [], [], h => h
  | [], _ :: _, h => by cases h.1
  | _ :: _, [], h => by cases h.1
  | p :: kvs, q :: vs, h => by
    obtain ⟨h1, i1, h2⟩ := zfO.mp h;rw [List.map_cons, List.map_cons];refine zfO.mpr ⟨?_, ?_, zmT i h2⟩
    · split <;> split <;> exact h1
    · rw [h1]
      split
      · exact i
      · exact i1
theorem zmH {k : Key} {d : D} {v : V} {kvs : List (Key × D)} {vs : List (Key × V)} (i : Is K P H d v) (h : TbOk K P H kvs vs) : TbOk K P H (putT kvs k d) (putK vs k v) := by
 unfold putT putK;rw [tb_any h.1]
 split
 ·exact zmT i h
 ·refine ⟨by rw [List.map_append, List.map_append, h.1]; rfl, ?_⟩;rw [List.map_append, List.map_append];exact Iss.append h.2 (Iss.one i)
theorem zqj {kvs : List (Key × D)} {vs : List (Key × V)} (h : TbOk K P H kvs vs) : vs.length = kvs.length := by
 have := congrArg List.length h.1
 simpa using this
theorem zn7 {vs : List (Key × V)} : ¬ Fx (.dK vs) := fun z => by rcases z with ⟨_, z⟩ | ⟨_, _, z⟩ | ⟨_, z⟩ | ⟨_, z⟩ <;> cases z
end
section
variable {X : Cx} {Wx : XW} {m : Mode} {pos : Pos}
def ziR (M : Mm) (d : D) : Option (Nat × List (Key × D)) := match d with
  | .ref k => (match M[k]? with
    | some (.dct kvs) => some (k, kvs)
    | _ => none)
  | _ => none
theorem zii {M : Mm} {d : D} {k : Nat} {kvs : List (Key × D)} (h : ziR M d = some (k, kvs)) : d = .ref k /\ M[k]? = some (.dct kvs) := by
 unfold ziR at h;split at h
 ·split at h
  ·cases h; rename_i e; exact ⟨rfl, e⟩
  ·cases h
 ·cases h
def dk (M : Mm) (d y : D) : Option (Nat × List (Key × D) × Key) := match ziR M d with
 | some p => (toKey y).map fun k => (p.1, p.2, k)
 | none => none
theorem zkZ {M : Mm} {d y : D} {j : Nat} {kvs : List (Key × D)} {k : Key} (h : dk M d y = some (j, kvs, k)) : d = .ref j /\ M[j]? = some (.dct kvs) /\ toKey y = some k := by
 unfold dk at h;split at h
 ·rename_i p ep;rw [Option.map_eq_some_iff] at h;obtain ⟨k', ek, h⟩ := h;cases h;obtain ⟨h1, h2⟩ := zii (k := p.1) (kvs := p.2) ep;exact ⟨h1, h2, ek⟩
 ·cases h
def sDIn (b : Bool) (g f : E) : E := fun env M => bnd (g env M) fun y M1 => bnd (f env M1) fun d M2 => match dk M2 d y with
 | some (_, kvs, k) => some (.v (.bl (if b then (valD kvs k).isSome else !(valD kvs k).isSome)), M2)
 | none => none
theorem zqJ {b : Bool} {f g : E} {st : L2.St} {H : Hp} {Q : VK} (w : tE X.K X.mg Wx m (sDIn b g f) st H Q) : (if b then tDIn (tE X.K X.mg Wx .val g) (tE X.K X.mg Wx .val f) st H Q else zoX (tE X.K X.mg Wx .val g) (tE X.K X.mg Wx .val f) st H Q) := by
  obtain ⟨P0, H0, P, Os, env, M, r, M', k, e, q⟩ := w;have key : tE X.K X.mg Wx .val g st H fun y H1 => tE X.K X.mg Wx .val f st H1 fun x H2 => ∃ a o, x = .ref a /\ DGet H2 a y o /\ Q (.bl (if b then o.isSome else !o.isSome)) H2 := by
    unfold sDIn at e;rcases zaB e with ⟨y, M1, e1, e⟩ | ⟨c, n, e1, rfl⟩
    · refine zax k e1 fun P1 v1 H1 l1 h1 i1 => ?_;have k1 := k.next l1 h1
      rcases zaB e with ⟨d, M2, e2, e⟩ | ⟨c, n, e2, rfl⟩
      · refine zax k1 e2 fun P2 v2 H2 l2 h2 i2 => ?_;split at e
        · rename_i j kvs key ed;cases e;obtain ⟨rfl, em, ek⟩ := zkZ ed;obtain ⟨jl, rfl⟩ : j < P2.n /\ v2 = .ref (P2.io j) := i2;obtain ⟨vs, ev, en, is⟩ := h2.cell j _ em;have g := zk0 (k := key) (kvs := kvs) (vs := vs) ⟨en, is⟩;have eo : (valV vs key).isSome = (valD kvs key).isSome := by
            cases hd : valD kvs key with
            | none => rw [hd] at g; have g' : valV vs key = none := g; rw [g']; rfl
            | some d => rw [hd] at g; obtain ⟨v, gv, _⟩ := g; rw [gv]; rfl
          refine ⟨_, valV vs key, rfl, by rw [key_is ek i1]; exact DGet.k ev, ?_⟩;rw [eo];exact q P2 _ H2 (l1.trans l2) h2 (IsM.of h2 (show Is _ _ _ (.bl _) _ from rfl))
        · cases e
      · exact zax k1 e2 q
    · exact zax k e1 q
  cases b with
  | true => exact key
  | false => exact key
theorem zpV {o i : Expr} {f g : E} (hu : X.A.units + 60 < cLine) (hi : SE X Wx .val i g) (ho : SE X Wx .val o f) (hm : behindInMarks .In o = false := by rfl) : ST X Wx (.Compare i [.In] [o] pos) (sDIn true g f) :=
 zfG (zkJ (zpz (Nat.lt_of_le_of_lt (Nat.add_le_add_left (by decide) _) hu) hi ho) hm) fun _ _ _ w => zqJ (b := true) (zkg w)
def zij (f g v : E) : S := fun env M => bndS (v env M) fun x M1 => bndS (f env M1) fun d M2 => bndS (g env M2) fun y M3 => match dk M3 d y with
 | some (j, kvs, k) => if kvs.length < sizeLine then some (.nx env, M3.set j (.dct (putT kvs k x))) else none
 | none => none
theorem zo7 {o i e : Expr} {f g v : E} {pos' : Pos} (hu : X.A.units + 60 < cLine) (ho : SE X Wx .val o f) (hi : SE X Wx .val i g) (he : SE X Wx .val e v) (hs : swapsWith e (some (.Subscript o i pos')) pos.line X.env = pure false := by rfl) :
  SS X Wx (.Assign [.Subscript o i pos'] e pos) (zij f g v) := by
 refine zcu (zn8 (Nat.lt_of_le_of_lt (Nat.add_le_add_left (by decide) _) hu) ho hi he hs) ?_;rintro D st H ⟨P0, H0, P, Os, env, M, out, M', k, e, q⟩;unfold zij at e;rcases za0 e with ⟨x, M1, e1, e⟩ | ⟨c, n, e1, rfl⟩
 ·refine zax k e1 fun P1 v1 H1 l1 h1 i1 => ?_;have k1 := k.next l1 h1
  rcases za0 e with ⟨d, M2, e2, e⟩ | ⟨c, n, e2, rfl⟩
  ·refine zax k1 e2 fun P2 v2 H2 l2 h2 i2 => ?_;have k2 := k1.next l2 h2
   rcases za0 e with ⟨y, M3, e3, e⟩ | ⟨c, n, e3, rfl⟩
   ·refine zax k2 e3 fun P3 v3 H3 l3 h3 i3 => ?_;split at e
    ·rename_i j kvs key ed;split at e
     ·rename_i hl;cases e;obtain ⟨rfl, em, ek⟩ := zkZ ed;obtain ⟨jl, rfl⟩ : j < P2.n /\ v2 = .ref (P2.io j) := i2;obtain ⟨vs, ev, en, is⟩ := h3.cell j _ em;have jl3 : j < P3.n := Nat.lt_of_lt_of_le jl l3.n;have eio : P3.io j = P2.io j := l3.io j jl;have ix := Is.lt ((l2.lt h1).trans (l3.lt h2)) i1;have lc : Lt P3 H3 P3 (upd H3 (P3.io j) (.dK (putK vs key v1))) := zfc (h3.bd j jl3) ev zn7;have tp := zmH (k := key) ix ⟨en, is⟩;obtain ⟨l4, l4e, h4⟩ := h3.set (c' := .dct (putT kvs key x)) (o' := .dK (putK vs key v1)) em ⟨_, zao, tp.1, Iss.lt lc tp.2⟩;rw [eio] at l4 l4e h4 ev;refine ⟨_, _, rfl, by rw [key_is ek i3]; exact DPut.k ev (by rw [zqj ⟨en, is⟩]; exact hl), ?_⟩;exact q _ _ _ _ ((l1.lt k.hk).trans ((l2.lt h1).trans ((l3.lt h2).trans l4))) ((k2.next l3 h3).next l4e h4)
     ·cases e
    ·cases e
   ·exact zax k2 e3 q
  ·exact zax k1 e2 q
 ·exact zax k e1 q
inductive ResP where
 | v (ps : List (D × D)) | x (c : Str) (n : Int)
abbrev EPs := Env -> Mm -> Option (ResP × Mm)
def pNil : EPs := fun _ M => some (.v [], M)
def ziz (f g : E) (ps : EPs) : EPs := fun env M => match f env M with
  | some (.v x, M1) => (match g env M1 with
    | some (.v y, M2) => (match ps env M2 with
      | some (.v r, M3) => some (.v ((x, y) :: r), M3)
      | some (.x c n, M3) => some (.x c n, M3)
      | none => none)
    | some (.x c n, M2) => some (.x c n, M2)
    | none => none)
  | some (.x c n, M1) => some (.x c n, M1)
  | none => none
def AllP (K : Fgx) (P : Pl) (H : Hp) : List (D × D) -> List (V × V) -> Prop
 | [], vs => vs = []
 | p :: ps, vs => ∃ v r, vs = v :: r /\ Is K P H p.1 v.1 /\ Is K P H p.2 v.2 /\ AllP K P H ps r
def PQ (K : Fgx) (mg : Mgx) (Wx : XW) (P0 : Pl) (H0 : Hp) (P : Pl) (H : Hp) (M' : Mm) (Q : List (V × V) -> Hp -> Prop) : ResP -> Prop
 | .v ds => ∀ P' vs H', LtE P H P' H' -> Hk K mg P' H' M' -> AllP K P' H' ds vs -> Q vs H'
 | .x c n => Wx P0 H0 M' c n
def SPs (X : Cx) (Wx : XW) (cpos : Pos) (keys : List (Option Expr)) (values : List Expr) (ps : EPs) : Prop := ∃ trs, PPs X cpos keys values trs /\ ∀ P0 H0 P Os st H M env r M' Q, Ok X.K X.mg P0 H0 P Os H M st env -> ps env M = some (r, M') -> PQ X.K X.mg Wx P0 H0 P H M' Q r -> zjc trs st H Q
theorem znv {cpos : Pos} : SPs X Wx cpos [] [] pNil := ⟨[], zoE, fun P0 H0 P Os st H M env r M' Q k e q => by
 cases e;exact q P [] H (LtE.refl P H) k.hk rfl⟩
theorem zi3 {cpos : Pos} {a b : Expr} {ks : List (Option Expr)} {vs : List Expr} {f g : E} {ps : EPs} (ha : SE X Wx .val a f) (hb : SE X Wx .val b g) (hr : SPs X Wx cpos ks vs ps) : SPs X Wx cpos (some a :: ks) (b :: vs) (ziz f g ps) := by
 obtain ⟨trs, h1, h2⟩ := hr;refine ⟨_, zmq ha hb h1, fun P0 H0 P Os st H M env r M' Q k e q => ?_⟩;unfold ziz at e;split at e
 ·rename_i x M1 e1;refine zax k e1 fun P1 v1 H1 l1 hk1 i1 => ?_;have k1 := k.next l1 hk1
  split at e
  ·rename_i y M2 e2;refine zax k1 e2 fun P2 v2 H2 l2 hk2 i2 => ?_;have k2 := k1.next l2 hk2
   split at e
   ·rename_i rr M3 e3;cases e;exact h2 _ _ _ _ _ _ _ _ _ _ _ k2 e3 fun P3 us H3 l3 hk3 al => q P3 _ H3 (l1.trans (l2.trans l3)) hk3 ⟨(v1, v2), us, rfl, Is.lt ((l2.lt hk1).trans (l3.lt hk2)) i1, Is.lt (l3.lt hk2) i2, al⟩
   ·rename_i c n M3 e3;cases e;exact h2 _ _ _ _ _ _ _ _ _ _ _ k2 e3 q
   ·cases e
  ·rename_i c n M2 e2;cases e;exact zax k1 e2 q
  ·cases e
 ·rename_i c n M1 e1;cases e;exact zax k e1 q
 ·cases e
def keysOf : List (D × D) -> Option (List (Key × D))
  | [] => some []
  | p :: ps => match toKey p.1, keysOf ps with
    | some k, some r => some ((k, p.2) :: r)
    | _, _ => none
def zjd (kvs more : List (Key × D)) : List (Key × D) := more.foldl (fun acc kv => putT acc kv.1 kv.2) kvs
def sDct (ps : EPs) : E := fun env M => match ps env M with
  | some (.v ds, M1) => (match keysOf ds with
    | some kvs => if kvs.length <= 15 then some (.v (.ref M1.length), M1 ++ [.dct (zjd [] kvs)]) else none
    | none => none)
  | some (.x c n, M1) => some (.x c n, M1)
  | none => none
theorem zld {K : Fgx} {P : Pl} {H : Hp} : ∀ {ds : List (D × D)} {kvs : List (Key × D)} {vs : List (V × V)}, keysOf ds = some kvs -> AllP K P H ds vs -> ∃ us : List (Key × V), vs = us.map (fun kv => (kV kv.1, kv.2)) /\ us.length = kvs.length /\ TbOk K P H kvs us
  | [], kvs, vs, e, h => by
    cases e;exact ⟨[], h, rfl, rfl, rfl⟩
  | p :: ps, kvs, vs, e, h => by
    obtain ⟨v, r, rfl, i1, i2, h⟩ := h;simp only [keysOf] at e;split at e
    · rename_i k r' ek er;cases e;obtain ⟨us, e1, e2, e3⟩ := zld er h;refine ⟨(k, v.2) :: us, ?_, by simp [e2], zfO.mpr ⟨rfl, i2, e3⟩⟩;rw [List.map_cons, <- e1, <- key_is ek i1]
    · cases e
theorem zjn {K : Fgx} {P : Pl} {H : Hp} : ∀ {more : List (Key × D)} {us : List (Key × V)} {kvs : List (Key × D)} {vs : List (Key × V)}, TbOk K P H more us -> TbOk K P H kvs vs -> TbOk K P H (zjd kvs more) (zfh vs us)
  | [], [], _, _, _, q => q
  | [], _ :: _, _, _, h, _ => by cases h.1
  | _ :: _, [], _, _, h, _ => by cases h.1
  | p :: more, u :: us, kvs, vs, h, q => by
    obtain ⟨h1, i, h2⟩ := zfO.mp h;show TbOk K P H (zjd (putT kvs p.1 p.2) more) (zfh (putK vs u.1 u.2) us);rw [h1];exact zjn h2 (zmH i q)
theorem zkr {K : Fgx} {mg : Mgx} {P : Pl} {H : Hp} {M : Mm} {p : Addr} {o : HO} (h : Hk K mg P H M) (hp : H p = none) : LtE P H (P.bar p) (upd H p o) /\ Hk K mg (P.bar p) (upd H p o) M /\ ∀ k, k < P.n -> P.io k ≠ p := by
 have s := zcn (o := o) hp;have nc : ∀ k, k < P.n -> P.io k ≠ p := fun k hk z => h.here _ (h.bd k hk) (z ▸ hp);have l : LtE P H (P.bar p) (upd H p o) := ⟨Nat.le_refl _, fun _ _ => rfl, fun a z => Or.imp (fun q => q) (fun (q : a = p) => by rw [q]; exact hp) z, fun a z => .inl z, fun a o e _ => s a o e, fun a z => s.free z, fun k h1 h2 => absurd h1 (Nat.not_le.mpr h2)⟩;refine ⟨l, ⟨h.n, fun k c e => (h.cell k c e).lt (l.lt h) fun u eu => s _ _ eu, h.inj, fun k hk => .inl (h.bd k hk), fun a z q => ?_⟩, nc⟩;rcases z with z | z
 ·exact h.here a z (s.free q)
 ·subst z; rw [zao] at q; cases q
theorem zie {K : Fgx} {mg : Mgx} {P0 P : Pl} {H0 H : Hp} {M : Mm} {a : Addr} {o o' : HO} {c : Cl} (l : LtE P0 H0 P H) (h : Hk K mg P H M) (ha : H0 a = none) (ba : P.bd a) (nc : ∀ k, k < P.n -> P.io k ≠ a) (ea : H a = some o) (nf : ¬ Fx o) (hc : ∀ P', Lt P H P' (upd H a o') -> zfv K mg P' (upd H a o') a c) :
  ∃ P', LtE P0 H0 P' (upd H a o') /\ Hk K mg P' (upd H a o') (M ++ [c]) /\ Is K P' (upd H a o') (.ref M.length) (.ref a) := by
 have hn : P.n = M.length := h.n
 let P2 : Pl := { io := fun j => if j = P.n then a else P.io j, n := P.n + 1, bd := P.bd }
 have io : ∀ j, j < P.n -> P2.io j = P.io j := fun j hj => if_neg (by omega);have ioN : P2.io P.n = a := if_pos rfl;have lc : Lt P H P (upd H a o') := zfc ba ea nf;have l2 : Lt P H P2 (upd H a o') := ⟨Nat.le_succ _, io, fun _ z => .inl z, lc.keep, lc.sure⟩;refine ⟨P2, ⟨Nat.le_succ_of_le l.n, fun j hj => (io j (Nat.lt_of_lt_of_le hj l.n)).trans (l.io j hj), l.bd, l.bm, fun b u e z => ?_, fun b z => l.sure b (lc.sure b z), fun j h2 h3 => ?_⟩, ⟨by rw [List.length_append, <- hn]; rfl, fun j d ej => ?_, fun i j hi hj e => ?_, fun j hj => ?_, fun b z q => h.here b z (lc.sure b q)⟩, ?_⟩
 ·rw [zal (fun z => by subst z; rw [ha] at e; cases e)];exact l.keep b u e z
 ·rcases Nat.lt_or_ge j P.n with z | z
  ·rw [io j z]; exact l.nw j h2 z
  ·have : j = P.n := Nat.le_antisymm (Nat.le_of_lt_succ h3) z;rw [this, ioN];exact ha
 ·rcases Nat.lt_or_ge j P.n with z | z
  ·rw [List.getElem?_append_left (by rw [<- hn]; exact z)] at ej;rw [io j z];exact (h.cell j d ej).lt l2 fun u eu => by rw [zal (nc j z)]; exact eu
  ·have jl := (List.getElem?_eq_some_iff.mp ej).1;rw [List.length_append, List.length_singleton, <- hn] at jl;have : j = P.n := by omega
   subst this;rw [List.getElem?_append_right (by rw [hn]; exact Nat.le_refl _), hn, Nat.sub_self] at ej;cases ej;rw [ioN];exact hc P2 l2
 ·rcases Nat.lt_or_ge i P.n with z | z
  ·rcases Nat.lt_or_ge j P.n with y | y
   ·rw [io i z, io j y] at e;exact h.inj i j z y e
   ·have : j = P.n := Nat.le_antisymm (Nat.le_of_lt_succ hj) y;rw [io i z, this, ioN] at e;exact absurd e (nc i z)
  ·have iN : i = P.n := Nat.le_antisymm (Nat.le_of_lt_succ hi) z;rcases Nat.lt_or_ge j P.n with y | y
   ·rw [iN, ioN, io j y] at e;exact absurd e.symm (nc j y)
   ·rw [iN];exact Nat.le_antisymm y (Nat.le_of_lt_succ hj)
 ·rcases Nat.lt_or_ge j P.n with z | z
  ·rw [io j z]; exact h.bd j z
  ·have : j = P.n := Nat.le_antisymm (Nat.le_of_lt_succ hj) z;rw [this, ioN];exact ba
 ·exact ⟨by show _ < P.n + 1; rw [hn]; exact Nat.lt_succ_self _, by rw [<- hn, ioN]⟩
theorem zod : SE X Wx m (.Dict [] [] pos) (sDct pNil) := by
 refine zaP zmA ?_;rintro st H Q ⟨P0, H0, P, Os, env, M, r, M', k, e, q⟩;cases e;intro p hp;obtain ⟨l1, h1, nc⟩ := zkr (o := .dK []) k.hk hp;obtain ⟨P2, l2, h2, i2⟩ := zie (o' := .dK []) (c := .dct []) l1 h1 hp (.inr rfl) nc zao zn7 fun P' _ => ⟨[], zao, rfl, rfl⟩;rw [zn4] at l2 h2 i2;exact q P2 _ _ l2 h2 (IsM.of h2 i2)
theorem zq1 {keys : List (Option Expr)} {values : List Expr} {ps : EPs} (h : SPs X Wx pos keys values ps) (hall : keys.all (·.isSome) = true := by rfl) (hl : keys.length = values.length := by rfl) (h0 : keys ≠ [] := by exact fun z => nomatch z) (h15 : keys.length <= 15 := by decide) : SE X Wx m (.Dict keys values pos) (sDct ps) := by
 obtain ⟨trs, hp, ht⟩ := h;refine zaP (zoa hp hall hl h0 h15) ?_;rintro st H Q ⟨P0, H0, P, Os, env, M, r, M', k, e, q⟩;intro p hp;obtain ⟨l1, h1, nc⟩ := zkr (o := .dK []) k.hk hp;have k1 := k.next l1 h1
 unfold sDct at e;split at e
 ·rename_i ds M1 e1;split at e
  rotate_left
  ·cases e
  rename_i kvs ek;split at e
  rotate_left
  ·cases e
  rename_i h15';cases e;refine ht _ _ _ _ _ _ _ _ _ _ _ k1 e1 fun P2 vs H2 l2 h2 al => ?_;have ep : H2 p = some (.dK []) := l2.keep p _ zao nc;have nc2 := l2.nc zao nc;obtain ⟨us, e3, e4, tb⟩ := zld ek al;refine ⟨ep, us, e3, by rw [e4]; exact h15', ?_⟩;obtain ⟨P3, l3, h3, i3⟩ := zie (o' := .dK (zfh [] us)) (c := .dct (zjd [] kvs)) (l1.trans l2) h2 hp (l2.bm p (.inr rfl)) nc2 ep zn7 fun P' l' => by
   have tm := zjn (kvs := []) (vs := []) tb ⟨rfl, rfl⟩;exact ⟨_, zao, tm.1, Iss.lt l' tm.2⟩
  exact q P3 _ _ l3 h3 (IsM.of h3 i3)
 ·rename_i c n M1 e1;cases e;exact ht _ _ _ _ _ _ _ _ _ _ _ k1 e1 q
 ·cases e
end
section
variable {X : Cx} {Wx : XW} {m : Mode} {pos : Pos}
def ziy : D -> Option Str
 | .str z => if z.length <= sizeLine then some z else none
 | .int i => if i.natAbs.log2 < 1920 then some (toString i) else none
 | _ => none
abbrev EJ := Str -> Env -> Mm -> O
def jEnd : EJ := fun out _ M => if out.length <= sizeLine then some (.v (.str out), M) else none
def jCon (z : Str) (ps : EJ) : EJ := fun out env M => if (out ++ z).length <= sizeLine then ps (out ++ z) env M else none
def jVal (f : E) (ps : EJ) : EJ := fun out env M => bnd (f env M) fun d M1 => match ziy d with
 | some y => if (out ++ y).length <= sizeLine then ps (out ++ y) env M1 else none
 | none => none
def tJ (K : Fgx) (mg : Mgx) (Wx : XW) (ps : EJ) : TJ := fun out st H Q => tE K mg Wx .val (ps out) st H Q
def SJ (X : Cx) (Wx : XW) (vs : List Expr) (ps : EJ) : Prop := PJ X vs (tJ X.K X.mg Wx ps)
theorem zi5 {vs : List Expr} {t t' : TJ} (h : PJ X vs t) (w : ∀ out σ H Q, t' out σ H Q -> t out σ H Q) : PJ X vs t' := fun pins s σ H out Q I hw => h pins s σ H out Q I (w out σ H Q hw)
theorem zm0 : SJ X Wx [] jEnd := by
 refine zi5 zkd ?_;rintro out st H Q ⟨P0, H0, P, Os, env, M, r, M', k, e, q⟩;unfold jEnd at e;split at e
 ·rename_i hl;cases e;exact ⟨hl, q P _ H (LtE.refl P H) k.hk rfl⟩
 ·cases e
theorem znj {z : Str} {vs : List Expr} {ps : EJ} {n : Nat} (h : SJ X Wx vs ps) (hz : z.length <= sizeLine := by x_go) : SJ X Wx (.Constant (.str z) n pos :: vs) (jCon z ps) := by
 refine zi5 (ziT h hz) ?_;rintro out st H Q ⟨P0, H0, P, Os, env, M, r, M', k, e, q⟩;unfold jCon at e;split at e
 ·rename_i hl;exact ⟨hl, P0, H0, P, Os, env, M, r, M', k, e, q⟩
 ·cases e
theorem znB {K : Fgx} {P : Pl} {H : Hp} {d : D} {v : V} {y : Str} (h : ziy d = some y) (i : Is K P H d v) : textV v = some y := by
 unfold ziy at h;split at h
 ·cases i; exact h
 ·cases i; exact h
 ·cases h
theorem zpE {e : Expr} {f : E} {vs : List Expr} {ps : EJ} (he : SE X Wx .val e f) (h : SJ X Wx vs ps) : SJ X Wx (.FormattedValue e (-1) none pos :: vs) (jVal f ps) := by
 refine zi5 (zle he h) ?_;rintro out st H Q ⟨P0, H0, P, Os, env, M, r, M', k, e, q⟩;unfold jVal at e;rcases zaB e with ⟨d, M1, e1, e⟩ | ⟨c, n, e1, rfl⟩
 ·split at e
  ·rename_i y ey;split at e
   ·rename_i hl;exact zax k e1 fun P1 v1 H1 l1 h1 i1 => ⟨y, znB ey i1, hl, P0, H0, P1, Os, env, M1, r, M', k.next l1 h1, e, RQ.imp l1 q⟩
   ·cases e
  ·cases e
 ·exact zax k e1 q
def sFst (ps : EJ) : E := ps Str.empty
theorem zm3 {v w : Expr} {vs : List Expr} {ps : EJ} (h : SJ X Wx (v :: w :: vs) ps) : SE X Wx m (.JoinedStr (v :: w :: vs) pos) (sFst ps) := by
 have h' : SE X Wx .val (.JoinedStr (v :: w :: vs) pos) (sFst ps) := zaP (zlC h) fun st H Q z => z;exact h'.bor
def setE : List Nat -> List D -> Env -> Option Env
 | [], [], env => some env
 | i :: is, d :: ds, env => if i < env.length then setE is ds (env.set i (.val d)) else none
 | _, _, _ => none
def SG (X : Cx) (ts : List Expr) (is : List Nat) : Prop := ∃ t, PGs X ts t /\ ∀ P0 H0 P Os st H M env env' ds vs Q, Ok X.K X.mg P0 H0 P Os H M st env -> Iss X.K P H ds vs -> setE is ds env = some env' -> (∀ Os' st', Ok X.K X.mg P0 H0 P Os' H M st' env' -> Q st' H) -> t vs st H Q
theorem zpp : SG X [] [] := ⟨_, zoG, fun P0 H0 P Os st H M env env' ds vs Q k is e q => by
 cases ds with
 | nil => cases e; exact ⟨is, q _ _ k⟩
 | cons d ds => cases e⟩
theorem zlA {i : Nat} {is : List Nat} {x : Str} {ts : List Expr} {p : Pos} (hN : X.N.Nodup) (hi : X.N[i]? = some x) (hx : Loc X.env.scope x) (hr : SG X ts is) (hf : X.fn x = true \/ X.env.scope.names.lookup x = some .local := by first | exact .inl rfl | exact .inr rfl)
    (hs : (assignEach (.Name x p :: ts) X.env).map (·.2) = assign (.Name x p) X.env :: (assignEach ts X.env).map (·.2) := by rfl) : SG X (.Name x p :: ts) (i :: is) := by
  obtain ⟨t, h1, h2⟩ := hr;refine ⟨_, zmo (zkE hN hi hx hf) h1 hs, fun P0 H0 P Os st H M env env' ds vs Q k is e q => ?_⟩
  cases ds with
  | nil => cases e
  | cons d ds =>
    obtain ⟨v, r, rfl, iv, is⟩ := is;simp only [setE] at e;split at e
    · rename_i hl;exact ⟨v, r, rfl, h2 _ _ _ _ _ _ _ _ _ _ _ _ (k.asg hl iv) is e q⟩
    · cases e
end
end E3
namespace E3
open PySem L2
section
variable {env : Env} {M M1 M2 : Mm} {f g o v : E} {d e x : D} {i : Int} {k : Nat} {ds es : List D} {s t : S} {z : Str} {fa : EA} {b : Bool}
def zmk : Option (List D × Mm) -> O
 | some (ys, M) => some (.v (.lst ys), M)
 | none => none
def zoJ (q e : E) (env : Env) : Option (ResA × Mm) -> O
 | some (.v ds, M1) => zmk (zeE q e env ds [] M1)
 | some (.x c n, M1) => some (.x c n, M1)
 | none => none
theorem zpj {cs : List (Str × Nat)} {q e : E} : zfk cs fa q e env M = zoJ q e (capE cs env) (fa env M) := by
  unfold zfk zoJ
  cases fa env M with
  | none => rfl
  | some p =>
    obtain ⟨r, M'⟩ := p
    cases r with
    | x c n => rfl
    | v ds =>
      dsimp only;unfold zmk;cases zeE q e (capE cs env) ds [] M' <;> rfl
theorem zrk {q e : E} : zoJ q e env (some (.v ds, M)) = zmk (zeE q e env ds [] M) := rfl
theorem znX : zmk (some (ds, M)) = some (.v (.lst ds), M) := rfl
theorem zrG : capE [] env = [] := rfl
theorem zqY {x : Str} {n : Nat} {cs : List (Str × Nat)} : capE ((x, n) :: cs) env = (env[n]?).getD .un :: capE cs env := rfl
theorem zqt {kvs : List (Key × D)} (h : M[k]? = some (.dct kvs)) : ziR M (.ref k) = some (k, kvs) := by unfold ziR; simp only [h]
theorem zoq {kvs : List (Key × D)} {key : Key} (h : M[k]? = some (.dct kvs)) (h4 : toKey e = some key) : dk M (.ref k) e = some (k, kvs, key) := by simp only [dk, zqt h, h4, Option.map_some]
theorem ztM {M3 : Mm} {kvs : List (Key × D)} {key : Key} (h0 : v env M = some (.v x, M1)) (h1 : f env M1 = some (.v (.ref k), M2)) (h2 : g env M2 = some (.v e, M3)) (h3 : M3[k]? = some (.dct kvs)) (h4 : toKey e = some key) (h5 : kvs.length < sizeLine) : zij f g v env M = some (.nx env, M3.set k (.dct (putT kvs key x))) := by
 simp only [zij, bndS, h0, h1, h2, zoq h3 h4, h5, if_true]
theorem d_in {kvs : List (Key × D)} {key : Key} {y : Bool} (h1 : g env M = some (.v e, M1)) (h2 : f env M1 = some (.v (.ref k), M2)) (h3 : M2[k]? = some (.dct kvs)) (h4 : toKey e = some key) : sDIn y g f env M = some (.v (.bl (if y then (valD kvs key).isSome else !(valD kvs key).isSome)), M2) := by
 simp only [sDIn, bnd, h1, h2, zoq h3 h4]
theorem zo0 : setE [] [] env = some env := rfl
theorem zny {n : Nat} {is : List Nat} : setE (n :: is) (d :: ds) env = if n < env.length then setE is ds (env.set n (.val d)) else none := rfl
end
end E3
namespace L2
open PySem PySem.Spec PyProof.Rows
theorem znK {X : Cx} {body suite : List Stmt} {b0 : Stmt} {cn : Str} {np hp pos : Pos} {c : Addr} {tb : Ends -> TS} {th : TS}
    (hs : X.stack = X.env :: X.outer) (hf : X.env.frame = some X.env.locals) (hc : X.calm = true) (hg : Gl X cn) (hm : X.mg cn = some (.ref c)) (q : xcIn X.K c = true) (hdb : (cn == ("__debug__" : Str)) = false)
    (hb : ∀ (pins : Pnx) (D : Ends), PSs (X.pin pins fun e s' => ∃ σ' H' a C dx T, e = .ref a /\ Caught X pins σ' H' s' a C dx T /\ xcIn X.K C = true /\ zeO X.K C c = true /\
      th { D with bk := fun _ _ => False, ct := fun _ _ => False } σ' H') body (tb D))
    (hh : ∀ e, PSs (X.suite e) (b0 :: suite) th) :
    PS X (.Try body [.ExceptHandler (some (.Name cn np)) none (b0 :: suite) hp] [] [] pos) (fun D σ H => tb D D σ H) := by
  intro pins s σ H D I h;refine wpAny_Try_except (wpAny_mono (hb pins D [] s σ H D (I.to_pin _) h) (fun f s1 z => ?_) fun e s1 z => ?_)
  · cases f with
    | next => obtain ⟨σ', H', J, q⟩ := z; exact wpAny_execs_nil ⟨σ', H', J.of_pin, q⟩
    | brk => obtain ⟨σ', H', J, q⟩ := z; exact ⟨σ', H', J.of_pin, q⟩
    | cont => obtain ⟨σ', H', J, q⟩ := z; exact ⟨σ', H', J.of_pin, q⟩
    | ret u => obtain ⟨v, σ', H', J, r, q⟩ := z; exact ⟨v, σ', H', J.of_pin, r, q⟩
  · obtain ⟨σ', H', a, C, dx, T, rfl, K1, q1, q2, z⟩ := z;refine K1.note hs hf fun s2 T2 K2 => ?_;have hd := I.ok.hd hc;refine wpAny_handleBy_cons (codeAny_handlers_test ?_) (by intro z; cases z);refine zcx (X := X.suite (.ref a)) (K2.inv.to_suite _) hg hm ?_ hdb;obtain ⟨nm, qn, N, bs, bm, sn, sub, ab, col, dd, k0, k1, k2, k3, k5, Y, lk⟩ := zha K2.inv.kIn q1;obtain ⟨nm', qn', N', bs', bm', sn', sub', ab', col', dd', j0, j1, j2, j3, j5, Y', lk'⟩ := zha K2.inv.kIn q;obtain ⟨oe, vs, t, e1, e2, e3, e4, e5, e6, _⟩ := zfV K2.inv.hok K2.obj;have hit : (Value.ref C :: bm).contains (.ref c) = true := by
      unfold zeO at q2;rw [lk] at q2;exact q2
    obtain ⟨hh2, g, d, tk, os⟩ := s2;refine zkI Y.obj Y'.obj e1 e2 (Y'.tail.hasType PySem.F.excBase_ValueError.hasBase) ?_;rw [hit];refine codeAny_handlers_suite (K2.off fun s3 K3 => ?_);refine wpAny_mono (hh (.ref a) pins s3 _ H' _ (K3.inv.to_suite _) z) (fun f s5 y => ?_) fun _ _ y => False.elim y
    cases f with
    | next =>
      obtain ⟨σ5, H5, I5, y⟩ := y;exact ⟨σ5, H5, I5.of_suite hd, y⟩
    | brk => obtain ⟨_, _, _, y⟩ := y; exact False.elim y
    | cont => obtain ⟨_, _, _, y⟩ := y; exact False.elim y
    | ret u =>
      obtain ⟨v, σ5, H5, I5, rv, y⟩ := y;exact ⟨v, σ5, H5, I5.of_suite hd, rv, y⟩
end L2
namespace E3
open PySem PySem.Spec PyProof.Rows L2
section
variable {X : Cx} {Wx : XW} {m : Mode} {pos : Pos}
def zhY (cat : Str -> Bool) (b h : S) : S := fun env M => match b env M with
  | some (.ex c _, M1) => if cat c = true then (match h env M1 with
    | some (.nx env', M2) => some (.nx env', M2)
    | some (.rt d, M2) => some (.rt d, M2)
    | _ => none) else none
  | o => o
theorem zkY {body suite : List Stmt} {b0 : Stmt} {cn : Str} {np hp : Pos} {c : Addr} {b h : S} {cat : Str -> Bool}
  (hs : X.stack = X.env :: X.outer) (hf : X.env.frame = some X.env.locals) (hc : X.calm = true) (hg : Gl X cn) (hm : X.mg cn = some (.ref c)) (q : xcIn X.K c = true)
  (hcat : ∀ c', cat c' = true -> ∃ C, X.mg c' = some (.ref C) /\ xcIn X.K C = true /\ zeO X.K C c = true) (hb : ∀ pins E, BX (X.pin pins E) body b) (hh : ∀ e, SB (X.suite e) W0 (b0 :: suite) h) (hdb : (cn == ("__debug__" : Str)) = false := by x_go) :
  SS X Wx (.Try body [.ExceptHandler (some (.Name cn np)) none (b0 :: suite) hp] [] [] pos) (zhY cat b h) := by
 let Ex : Ends -> L2.St -> XK := fun D σ Cv dx H' => ∀ a C, Cv = .ref C -> H' a = some (xo a C dx false) -> xcIn X.K C = true /\ zeO X.K C c = true /\ tS X.K X.mg W0 h { D with bk := fun _ _ => False, ct := fun _ _ => False } σ H'
 refine zcu (znK (tb := fun D => tBX X.K X.mg (Ex D) b) (th := tS X.K X.mg W0 h) hs hf hc hg hm q hdb (fun pins D => hb pins _ (Ex D) fun pins' σ H s e s' I z => ?_) hh) ?_
 ·obtain ⟨a, C, dx, H', T, rfl, K1, hE⟩ := zf3 (X := X) I.of_pin z;obtain ⟨z1, z2, z3⟩ := hE a C rfl K1.obj;exact ⟨σ, H', a, C, dx, T, rfl, K1, z1, z2, z3⟩
 ·rintro D st H ⟨P0, H0, P, Os, env, M, out, M', k, e, q⟩;unfold zhY at e;split at e
  ·rename_i c' n' M1 e1;split at e
   ·rename_i hct;obtain ⟨C, hmC, x1, x2⟩ := hcat c' hct;refine ⟨P0, H0, P, Os, env, M, _, _, k, e1, fun P1 H1 C1 dx l1 h1 m1 xn a C2 eC ea => ?_⟩;cases eC;cases hmC.symm.trans m1;have k1 := k.next l1 h1
    refine ⟨x1, x2, ?_⟩;split at e
    ·rename_i env' M2 e2;cases e;exact ⟨P0, H0, P1, _, _, M1, _, _, k1, e2, fun P2 Os2 H2 st2 l2 k2 => q P2 _ H2 _ ((l1.lt k.hk).trans l2) k2⟩
    ·rename_i d M2 e2;cases e;exact ⟨P0, H0, P1, _, _, M1, _, _, k1, e2, q⟩
    ·cases e
   ·cases e
  ·rename_i o hne;refine ⟨P0, H0, P, Os, env, M, _, _, k, e, ?_⟩
   cases out with
   | ex c n => exact absurd e (hne c n M')
   | nx env => exact q
   | bk env => exact q
   | ct env => exact q
   | rt d => exact q
end
section
variable {env : Env} {M M1 M2 : Mm} {s t : S} {d : D} {c : Str} {cat : Str -> Bool} {a : Int}
theorem z_rt (h1 : s env M = some (.ex c a, M1)) (h2 : cat c = true) (h4 : t env M1 = some (.rt d, M2)) : zhY cat s t env M = some (.rt d, M2) := by
 simp only [zhY, h1, h2, if_true, h4]
theorem z_nx {env' : Env} (h1 : s env M = some (.nx env', M1)) : zhY cat s t env M = some (.nx env', M1) := by
 simp only [zhY, h1]
end
section
variable {es : List Expr} {env : PySem.Env} {pos : Pos}
theorem zac {c : Const} {k : Nat} : starEach (.Constant c k pos :: es) env = (false, eval (.Constant c k pos) env) :: starEach es env := by rfl
theorem zaj {x : Str} : starEach (.Name x pos :: es) env = (false, eval (.Name x pos) env) :: starEach es env := by rfl
theorem za6 {a b : Expr} {o : Operator} : starEach (.BinOp a o b pos :: es) env = (false, eval (.BinOp a o b pos) env) :: starEach es env := by rfl
theorem ze6 {a : Expr} {o : UnaryOp} : starEach (.UnaryOp o a pos :: es) env = (false, eval (.UnaryOp o a pos) env) :: starEach es env := by rfl
theorem zbk {f : Expr} {as : List Expr} {ks : List Keyword} : starEach (.Call f as ks pos :: es) env = (false, eval (.Call f as ks pos) env) :: starEach es env := by rfl
theorem zht {a : Expr} {x : Str} : starEach (.Attribute a x pos :: es) env = (false, eval (.Attribute a x pos) env) :: starEach es env := by rfl
theorem zai {a b : Expr} : starEach (.Subscript a b pos :: es) env = (false, eval (.Subscript a b pos) env) :: starEach es env := by rfl
theorem zfm {as : List Expr} {k : Nat} : starEach (.Tuple as k pos :: es) env = (false, eval (.Tuple as k pos) env) :: starEach es env := by rfl
theorem zoY {as : List Expr} : starEach (.List as pos :: es) env = (false, eval (.List as pos) env) :: starEach es env := by rfl
theorem zdo {a : Expr} {gs : List Comprehension} {sc : Scope} : starEach (.ListComp a gs sc pos :: es) env = (false, eval (.ListComp a gs sc pos) env) :: starEach es env := by rfl
end
end E3
namespace L2
open PySem PySem.Spec PyProof.Rows
theorem zjx {P : Program} {w : World} {K : Fgx} {mg : Mgx} {base : Heap} {N : List Str} {qual : Str} {scope : Scope} {f : Addr} {cd : Value} {A : Around} {outer : List PySem.Env} {E : XK} {s : Shared} {H H1 : Hp} {s1 : Shared} {pins : Pnx} {σ : St} {a C T : Addr} {dx : Option Addr}
  (c : Caught (cxOf (CX1 P w) P w K mg base N qual scope f cd A outer s H E) pins σ H1 s1 a C dx T) (hE : E (.ref C) dx H1) : (cxOf (CX1 P w) P w K mg base N qual scope f cd A outer s H E).xe (.ref a) s1 := by
 show wpAny _ _ (leaving _ _) _ _ _;unfold leaving;refine wpAny_bind (Caught.note c rfl rfl fun s' T' c' => ?_);have I := c'.inv;have hL : s.heap.get? (envOfC qual scope s.heap.objs.size f cd).locals = none := Heap.get?_none_of_le I.ok.above;have u1 : Un (s.heap.objs.size :: frs outer) [] H H1 s.heap s'.heap := Un.mono (fs' := s.heap.objs.size :: frs outer) (ex' := []) I.base (fun b hb => List.mem_cons_of_mem _ hb) fun b hb => hb;exact ⟨a, C, dx, H1, T', rfl, I.os, I.bare, u1.less hL, I.hok, c'.obj, c'.hT, c'.t1, c'.fl, hE⟩
end L2
namespace E3
open PySem PySem.Spec PyProof.Rows L2
structure XPass (X : Cx) (Wx : XW) : Prop where
 xc : ∀ pins σ H s a C dx T c n P0 H0 P M, Caught X pins σ H s a C dx T -> LtE P0 H0 P H -> Hk X.K X.mg P H M -> X.mg c = some (.ref C) -> XN H n dx -> Wx P0 H0 M c n -> X.xe (.ref a) s
section
variable {X : Cx} {Wx : XW} {m : Mode} {pos : Pos}
theorem SX.se {e : Expr} {f : E} (F : XPass X Wx) (h : SX X e f) : SE X Wx m e f := by
  have h' : SE X Wx .val e f := by
    let Ex : L2.St -> XK := fun σ Cv dx H' => ∀ pins s' a C T, Cv = .ref C -> Caught X pins σ H' s' a C dx T -> X.xe (.ref a) s'
    refine zaP (h Ex fun pins σ H s e s' I z => ?_) ?_
    · obtain ⟨a, C, dx, H', T, rfl, K1, hE⟩ := zf3 I z;exact hE pins s' a C T rfl K1
    · rintro st H Q ⟨P0, H0, P, Os, env, M, r, M', k, e, q⟩;refine ⟨P0, H0, P, Os, env, M, r, M', k, e, ?_⟩
      cases r with
      | v d => exact q
      | x c n =>
        intro P' H' C dx l hk hm xn pins s' a C' T eC ca;cases eC;exact F.xc pins st H' s' a C dx T c n P0 H0 P' M' ca (k.base.trans l) hk hm xn q
  exact h'.bor
end
section
variable {P : Program} {w : World} {K : Fgx} {mg : Mgx} {base : Heap} {k : Nat} {x qual : Str} {st : Stmt} {f : Addr} {fd : FuncData} {N ps : List Str} {b : S}
theorem zfU (F : FunD K x qual st f fd) (S : FnScope N ps (zah st)) (hp : ps.length <= N.length)
    (hb : ∀ cdv A outer s H E Wx, Room k (A.deeper (envOfC qual (zah st) s.heap.objs.size f cdv)) -> XFit (cxX P w K mg base N qual st f cdv A outer s H E) Wx -> XPass (cxX P w K mg base N qual st f cdv A outer s H E) Wx -> SB (cxX P w K mg base N qual st f cdv A outer s H E) Wx (zaU st) b) : FnOk P w K mg base (CX1 P w) (k + 1) f fd ps (spX K mg ps.length (fnG N.length b)) := by
  obtain ⟨oc, od, dV, kV, doc, pm, an, cdv, ct, osl, rfl, lk, hcd⟩ := F.ex;refine znZ lk hcd S (fun vs H Q E h => h.1) fun A outer s H vs Q E hr h => ?_;obtain ⟨hl, Pl, M, ds, r, M', hk, is, e, q⟩ := h;have XF : XFit (cxX P w K mg base N qual st f cdv A outer s H E) (fun P0 H0 M1 c n => P0 = Pl /\ H0 = H /\ M1 = M' /\ r = .x c n) := ⟨fun pins σ H1 s1 a C dx c n P0 H0 P1 M1 I ea nb n0 l h m xn ⟨e1, e2, e3, e4⟩ => by
    subst e1 e2 e3 e4;have sure : ∀ b, upd H1 a (xo a C dx false) b = none -> H1 b = none := fun b z => by
      by_cases hb : b = a
      · subst hb; rw [zao] at z; cases z
      · rw [zal hb] at z; exact z
    have l1 : LtE P0 H0 P1 (upd H1 a (xo a C dx false)) := ⟨l.n, l.io, l.bd, l.bm, fun b o eb nb => by
      rw [zal (fun z => by rw [z, n0] at eb; cases eb)];exact l.keep b o eb nb, fun b z => l.sure b (sure b z), l.nw⟩
    have h1 := h.away (H' := upd H1 a (xo a C dx false)) (fun b o eb nx => by
      rw [zal (fun z => by rw [z, ea] at eb; cases eb; exact nx _ rfl)];exact eb) sure
    refine zml I ea (q P1 _ C dx l1 h1 m ?_)
    cases dx with
    | none => exact xn
    | some d =>
      obtain ⟨fs, ed, el⟩ := xn;exact ⟨fs, by rw [zal (fun z => by rw [z, ea] at ed; cases ed)]; exact ed, el⟩⟩
  have XP : XPass (cxX P w K mg base N qual st f cdv A outer s H E) (fun P0 H0 M1 c n => P0 = Pl /\ H0 = H /\ M1 = M' /\ r = .x c n) := ⟨fun pins σ H1 s1 a C dx T c n P0 H0 P1 M1 ca l h m xn ⟨e1, e2, e3, e4⟩ => by
    subst e1 e2 e3 e4;exact zjx ca (q P1 _ C dx l h m xn)⟩
  refine ⟨_, hb cdv A outer s H E _ hr XF XP, ?_⟩;unfold fnG endS at e;have st0 := zi4 (N := N) hk (by omega) is;split at e
  · rename_i d' M2 eb;cases e;exact ⟨Pl, H, Pl, _, _, M, _, _, st0, eb, fun P' v H' l h i => q P' v H' l h i⟩
  · rename_i env M2 eb;cases e;exact ⟨Pl, H, Pl, _, _, M, _, _, st0, eb, fun P' Os' H' st' _ k' => q P' .non H' k'.base k'.hk rfl⟩
  · rename_i c n M2 eb;cases e;exact ⟨Pl, H, Pl, _, _, M, _, _, st0, eb, ⟨rfl, rfl, rfl, rfl⟩⟩
  · cases e
end
section
variable {K : Fgx} {P : Pl} {H : Hp}
def zgi : List D -> Option (List Bool)
 | [] => some []
 | .bl b :: ds => (zgi ds).map (b :: ·)
 | _ :: _ => none
theorem ziP : ∀ {ds : List D} {bs : List Bool} {vs : List V}, zgi ds = some bs -> Iss K P H ds vs -> vs = bs.map V.bl
  | [], _, _, e, h => by cases e; exact h
  | d :: ds, bs, vs, e, h => by
    obtain ⟨v, r, rfl, i, h⟩ := h
    cases d with
    | bl n =>
      simp only [zgi, Option.map_eq_some_iff] at e;obtain ⟨bs', e', rfl⟩ := e;cases i;rw [ziP e' h];rfl
    | _ => simp [zgi] at e
theorem zeF : ∀ (bs : List Bool), zgi (bs.map D.bl) = some bs
 | [] => rfl
 | b :: bs => by simp [zgi, zeF bs]
def ziu : List D -> Option (List Str)
 | [] => some []
 | .str z :: ds => (ziu ds).map (z :: ·)
 | _ :: _ => none
theorem zkN : ∀ {ds : List D} {zs : List Str} {vs : List V}, ziu ds = some zs -> Iss K P H ds vs -> vs = zs.map V.str
  | [], _, _, e, h => by cases e; exact h
  | d :: ds, zs, vs, e, h => by
    obtain ⟨v, r, rfl, i, h⟩ := h
    cases d with
    | str n =>
      simp only [ziu, Option.map_eq_some_iff] at e;obtain ⟨zs', e', rfl⟩ := e;cases i;rw [zkN e' h];rfl
    | _ => simp [ziu] at e
theorem strs_map : ∀ (zs : List Str), ziu (zs.map D.str) = some zs
 | [] => rfl
 | b :: bs => by simp [ziu, strs_map bs]
def bStr : List D -> Option D
 | [.int i] => if i.natAbs.log2 < 1920 then some (.str (toString i)) else none
 | _ => none
theorem zfA : zgl K (fun xs H Q => ∃ i, xs = [.int i] /\ i.natAbs.log2 < 1920 /\ Q (.str (toString i)) H) bStr := fun P H ds z vs Q h i _ q => by
 unfold bStr at h;split at h
 ·split at h
  ·rename_i hl;obtain ⟨v, ws, rfl, p, rfl⟩ := i;cases h; cases p;exact ⟨_, rfl, hl, q _ H (Same.refl H) rfl⟩
  ·cases h
 ·cases h
def bInt : List D -> Option D
 | [.str z] => if z.length <= 640 then (intText? z).map .int else none
 | _ => none
theorem zhR : zgl K (fun xs H Q => ∃ z n, xs = [.str z] /\ intText? z = some n /\ z.length <= 640 /\ Q (.int n) H) bInt := fun P H ds z vs Q h i _ q => by
 unfold bInt at h;split at h
 ·split at h
  ·rename_i hl;rw [Option.map_eq_some_iff] at h;obtain ⟨n, en, rfl⟩ := h;obtain ⟨v, ws, rfl, p, rfl⟩ := i;cases p;exact ⟨_, n, rfl, en, hl, q _ H (Same.refl H) rfl⟩
  ·cases h
 ·cases h
def bAny : List D -> Option D
 | [.lst ds] => (zgi ds).map fun bs => .bl (bs.any id)
 | _ => none
theorem zrn : zgl K (fun xs H Q => ∃ (p : Addr) (bs : List Bool), xs = [.ref p] /\ SqL K H p (bs.map V.bl) /\ Q (.bl (bs.any id)) H) bAny := fun P H ds z vs Q h i _ q => by
 unfold bAny at h;split at h
 ·rw [Option.map_eq_some_iff] at h;obtain ⟨is, ei, rfl⟩ := h;obtain ⟨v, ws, rfl, p, rfl⟩ := i;obtain ⟨a, us, rfl, r, s⟩ := p;rw [ziP ei s] at r;exact ⟨a, is, rfl, r, q _ H (Same.refl H) rfl⟩
 ·cases h
def bAll : List D -> Option D
 | [.lst ds] => (zgi ds).map fun bs => .bl (bs.all id)
 | _ => none
theorem zkl : zgl K (fun xs H Q => ∃ (p : Addr) (bs : List Bool), xs = [.ref p] /\ SqL K H p (bs.map V.bl) /\ Q (.bl (bs.all id)) H) bAll := fun P H ds z vs Q h i _ q => by
 unfold bAll at h;split at h
 ·rw [Option.map_eq_some_iff] at h;obtain ⟨is, ei, rfl⟩ := h;obtain ⟨v, ws, rfl, p, rfl⟩ := i;obtain ⟨a, us, rfl, r, s⟩ := p;rw [ziP ei s] at r;exact ⟨a, is, rfl, r, q _ H (Same.refl H) rfl⟩
 ·cases h
def bTup : List D -> Option D
 | [.lst ds] => some (.tup ds)
 | [.tup ds] => some (.tup ds)
 | _ => none
theorem zgP : zgl K (fun xs H Q => ∃ p ys, xs = [.ref p] /\ ((SqL K H p ys /\ ∀ l, H l = none -> Q (.ref l) (upd H l (.tup ys))) \/ (SqT K H p ys /\ Q (.ref p) H))) bTup := fun P H ds z vs Q h i _ q => by
 unfold bTup at h;split at h
 ·obtain ⟨v, ws, rfl, p, rfl⟩ := i;cases h;obtain ⟨a, us, rfl, r, s⟩ := p;exact ⟨a, us, rfl, .inl ⟨r, ziF s q⟩⟩
 ·obtain ⟨v, ws, rfl, p, rfl⟩ := i;cases h;obtain ⟨a, us, rfl, r, s⟩ := p;exact ⟨a, us, rfl, .inr ⟨r, q _ H (Same.refl H) ⟨a, us, rfl, r, s⟩⟩⟩
 ·cases h
end
section
variable {X : Cx} {Wx : XW} {m : Mode} {pos : Pos}
def zkH (K : Fgx) (r : V -> List V -> Hp -> VK -> Prop) (o : Str -> List D -> Option D) : Prop := ∀ (P : Pl) (H : Hp) (y : Str) (ds : List D) (z : D) (vs : List V) (Q : VK), o y ds = some z -> AllW K P H ds vs -> (∀ p, H p = none -> ¬ P.bd p) -> (∀ u H', Same H H' -> Is K P H' z u -> Q u H') -> r (.str y) vs H Q
def sMt (o : Str -> List D -> Option D) (f : E) (fs : EA) : E := fun env M => bnd (f env M) fun d M1 => match d with
 | .str y => bndA (fs env M1) fun ds M2 => (o y (ds.map (vw M2))).map fun z => (.v z, M2)
 | _ => none
theorem zjI {a e : Expr} {es : List Expr} {name : Str} {id : String} {r : V -> List V -> Hp -> VK -> Prop} {o : Str -> List D -> Option D} {f : E} {fs : EA} {p : Pos} (slot : PySem.Slot "str" name id) (hty : typeOf (.builtin id) = pure (.type "method_descriptor")) (hm : MtR X id r) (po : zkH X.K r o) (ha : SE X Wx .val a f) (hs : SA X Wx .bor (e :: es) fs)
  (hbase : attributeBase a name X.env (eval a X.env) = eval a X.env := by rfl)
  (hfew : ((backTo pos (starEach (e :: es) X.env)).all (fun x => !x.1) && (backToKw pos (keywordEach [] X.env)).all (fun x => x.1.isSome) && decide ((e :: es).length + ([] : List Keyword).length + (if ([] : List Keyword).isEmpty then 0 else 1) < 30)) = true := by rfl)
  (hline : (p.endLine == pos.line) = true := by rfl) (hst : starEach (e :: es) X.env = (false, eval e X.env) :: starEach es X.env := by rfl) (hplain : (backTo pos (starEach es X.env)).any (·.1) = false := by rfl) :
  SE X Wx m (.Call (.Attribute a name p) (e :: es) [] pos) (sMt o f fs) := by
 refine zaP (zos PySem.F.plainAttrs_str slot hty hm ha hs hbase hfew hline hst hplain) ?_;rintro st H Q ⟨P0, H0, P, Os, env, M, r, M', k, e, q⟩;unfold sMt at e;rcases zaB e with ⟨d, M1, e1, e⟩ | ⟨c, n, e1, rfl⟩
 ·cases d <;> simp only [reduceCtorEq] at e
  rename_i y;refine zax k e1 fun P1 v1 H1 l1 h1 i1 => ?_;have k1 := k.next l1 h1
  cases i1;refine ⟨rfl, ?_⟩;rcases zdm e with ⟨ds, M2, e2, e⟩ | ⟨c, n, e2, rfl⟩
  ·rw [Option.map_eq_some_iff] at e;obtain ⟨z, ez, e⟩ := e;cases e;exact ⟨P0, H0, P1, Os, env, M1, _, _, k1, e2, fun P2 vs H2 l2 h2 i2 => po P2 H2 y _ z vs Q ez (AllM.w h2 i2) h2.new fun u H' s i => q P2 u H' (l1.trans (l2.trans (LtE.same s))) (h2.same s) (IsM.of (h2.same s) i)⟩
  ·exact ⟨P0, H0, P1, Os, env, M1, _, _, k1, e2, q⟩
 ·exact zax k e1 q
def zhL (z : Str) : List D -> Option D
  | [.lst ds] => match ziu ds with
    | some ys => if z.length <= 16 /\ (ys.map (·.length)).sum + ys.length <= 1048576 then some (.str (Txt.join z ys)) else none
    | none => none
  | _ => none
theorem zkU {K : Fgx} : zkH K (rJoin K) zhL := fun P H y ds z vs Q h i _ q => by
 unfold zhL at h;split at h
 ·split at h
  ·rename_i ys ey;split at h
   ·rename_i hl;cases h;obtain ⟨v, ws, rfl, p, rfl⟩ := i;obtain ⟨a, us, rfl, r, s⟩ := p;rw [zkN ey s] at r;exact ⟨y, a, ys, rfl, rfl, r, hl.1, hl.2, q _ H (Same.refl H) rfl⟩
   ·cases h
  ·cases h
 ·cases h
def zhm (z : Str) : List D -> Option D
 | [.str y] => some (.bl (Txt.startswith z y))
 | _ => none
theorem zlh {K : Fgx} : zkH K zk4 zhm := fun P H y ds z vs Q h i _ q => by
 unfold zhm at h;split at h
 ·cases h;obtain ⟨v, ws, rfl, p, rfl⟩ := i;cases p;exact ⟨_, _, rfl, rfl, q _ H (Same.refl H) rfl⟩
 ·cases h
def zhp (z : Str) : List D -> Option D
 | [.str y] => if z.length <= sizeLine then some (.str (Txt.lstripChars z y)) else none
 | _ => none
theorem zlr {K : Fgx} : zkH K zkx zhp := fun P H y ds z vs Q h i _ q => by
 unfold zhp at h;split at h
 ·split at h
  ·rename_i hl;cases h;obtain ⟨v, ws, rfl, p, rfl⟩ := i;cases p;exact ⟨_, _, rfl, rfl, hl, q _ H (Same.refl H) rfl⟩
  ·cases h
 ·cases h
def zgD (f g h : E) : E := fun env M => bnd (f env M) fun d M1 => match ziR M1 d with
  | some _ => bnd (g env M1) fun y M2 => bnd (h env M2) fun x M3 => (match dk M3 d y with
    | some (_, kvs, k) => some (.v ((valD kvs k).getD x), M3)
    | none => none)
  | none => none
theorem ziZ {o e e' : Expr} {f g h : E} {p : Pos} (hu : X.A.units + 60 < cLine) (ho : SE X Wx .val o f) (he : SE X Wx .val e g) (he' : SE X Wx .val e' h) (hm : L2.M2 X o "get" p e e' pos := by exact ⟨rfl, rfl, rfl, rfl⟩) : SE X Wx m (.Call (.Attribute o "get" p) [e, e'] [] pos) (zgD f g h) := by
  refine zaP (zmc (Nat.lt_of_le_of_lt (Nat.add_le_add_left (by decide) _) hu) ho he he' hm) ?_;rintro st H Q ⟨P0, H0, P, Os, env, M, r, M', k, ee, q⟩;unfold zgD at ee;rcases zaB ee with ⟨d, N1, e1, ea⟩ | ⟨c, n, e1, rfl⟩
  · refine zax k e1 fun P1 v1 H1 l1 h1 i1 => ?_;have k1 := k.next l1 h1
    split at ea
    · rename_i pr ed;obtain ⟨j, kvs0⟩ := pr;obtain ⟨rfl, em0⟩ := zii ed;obtain ⟨jl, rfl⟩ : j < P1.n /\ v1 = .ref (P1.io j) := i1;obtain ⟨vs0, ev0, _, _⟩ := h1.cell j _ em0;refine ⟨_, rfl, .inl ⟨vs0, .inl ev0⟩, ?_⟩;rcases zaB ea with ⟨y, N2, e2, eb⟩ | ⟨c, n, e2, rfl⟩
      · refine zax k1 e2 fun P2 v2 H2 l2 h2 i2 => ?_;have k2 := k1.next l2 h2
        rcases zaB eb with ⟨x, N3, e3, ec⟩ | ⟨c, n, e3, rfl⟩
        · refine zax k2 e3 fun P3 v3 H3 l3 h3 i3 => ?_;split at ec
          · rename_i j' kvs key ek;cases ec;obtain ⟨ej, em, et⟩ := zkZ ek;cases ej;obtain ⟨vs, ev, en, is⟩ := h3.cell j _ em;have g := zk0 (k := key) (kvs := kvs) (vs := vs) ⟨en, is⟩;rw [l3.io j (Nat.lt_of_lt_of_le jl l2.n), l2.io j jl] at ev;have i2' := Is.lt (l3.lt h2) i2;refine ⟨valV vs key, by rw [key_is et i2']; exact DGet.k ev, ?_⟩
            cases hd : valD kvs key with
            | none =>
              rw [hd] at g q;have g' : valV vs key = none := g;rw [g'];exact q P3 _ H3 (l1.trans (l2.trans l3)) h3 (IsM.of h3 i3)
            | some z =>
              rw [hd] at g q;obtain ⟨v, gv, iv⟩ := g;rw [gv];exact q P3 _ H3 (l1.trans (l2.trans l3)) h3 (IsM.of h3 iv)
          · cases ec
        · exact zax k2 e3 q
      · exact zax k1 e2 q
    · cases ea
  · exact zax k e1 q
end
def zct (tb : List (Str × D)) (z : Str) : Option D := (tb.find? fun p => decide (p.1 = z)).map (·.2)
inductive KRows (K : Fgx) (w : World) : List (Str × D) -> List DictEntry -> List (Key × Value) -> Prop
 | nil : KRows K w [] [] []
 | cons {z : Str} {d : D} {t : Tok} {u : Value} {v : V} {hs : Int} {tb : List (Str × D)} {es : List DictEntry} {vs : List (Key × Value)} : hs = hashStr w z -> RelV v u -> (∀ P H, Is K P H d v) -> KRows K w tb es vs -> KRows K w ((z, d) :: tb) (⟨hs, .str z t, u⟩ :: es) ((.inr z, u) :: vs)
def KTab (K : Fgx) (w : World) (a : Addr) (tb : List (Str × D)) : Prop := ∃ o es ep vs, K.lookup a = some o /\ o.ExactDict /\ o.data = .dict es ep /\ KRows K w tb es.toList vs /\ (tb.map (·.1)).Nodup /\ (a == sysModules) = false
section
variable {K : Fgx} {w : World} {prog : Program}
theorem zgA : ∀ {tb : List (Str × D)} {es : List DictEntry} {vs : List (Key × Value)}, KRows K w tb es vs -> (∀ e ∈ es, ∃ k, (zaY prog w).is k e.key = true /\ e.hash = (zaY prog w).hash k) /\ Pairs (zaY prog w) es vs /\ vs.map (·.1) = tb.map fun p => (.inr p.1 : Key)
  | _, _, _, .nil => ⟨fun e h => (by cases h), .nil, rfl⟩
  | _, _, _, .cons (z := z) (t := t) h1 h2 h3 r => by
    obtain ⟨a, b, c⟩ := zgA r;refine ⟨fun e he => ?_, .cons (zeA prog w z t) rfl b, by rw [List.map_cons, List.map_cons, c]⟩;rw [List.mem_cons] at he;rcases he with rfl | he
    · exact ⟨.inr z, zeA prog w z t, h1⟩
    · exact a e he
theorem zgc {z : Str} : ∀ {tb : List (Str × D)} {es : List DictEntry} {vs : List (Key × Value)}, KRows K w tb es vs -> match zct tb z with
    | some d => ∃ u v, valueAt vs (.inr z : Key) = some u /\ RelV v u /\ ∀ P H, Is K P H d v
    | none => valueAt vs (.inr z : Key) = none
  | _, _, _, .nil => rfl
  | _, _, _, .cons (z := y) (d := d) (u := u) (v := v) (tb := tb) (vs := vs) h1 h2 h3 r => by
    by_cases e : y = z
    · subst e;have a : zct ((y, d) :: tb) y = some d := by simp [zct, List.find?_cons]
      have b : valueAt ((.inr y, u) :: vs) (.inr y : Key) = some u := by simp [valueAt, List.find?_cons]
      rw [a];exact ⟨u, v, b, h2, h3⟩
    · have a : zct ((y, d) :: tb) z = zct tb z := by simp [zct, List.find?_cons, e]
      have b : valueAt ((.inr y, u) :: vs) (.inr z : Key) = valueAt vs (.inr z) := by simp [valueAt, List.find?_cons, e]
      rw [a, b];exact zgc r
theorem KTab.dict {a : Addr} {tb : List (Str × D)} {h : Heap} (t : KTab K w a tb) (X : K.In h) : ∃ es vs, KRows K w tb es vs /\ h.DictOf (zaY prog w) a vs /\ (a == sysModules) = false := by
 obtain ⟨o, es, ep, vs, l, x, d, r, nd, ns⟩ := t;obtain ⟨r1, r2, r3⟩ := zgA (prog := prog) r;refine ⟨es.toList, vs, r, ⟨o, es, ep, X a o l, x, d, fun e he => r1 e (by simpa using he), r2, ?_⟩, ns⟩;rw [r3];have : (tb.map fun p => (Sum.inr p.1 : Key)) = (tb.map (·.1)).map Sum.inr := by rw [List.map_map]; rfl
 rw [this];exact List.pairwise_map.mpr (List.Pairwise.imp (fun h q => h (Sum.inr.inj q)) nd)
end
section
variable {X : Cx} {Wx : XW} {m : Mode} {pos : Pos}
def sKIn (b : Bool) (tb : List (Str × D)) (f : E) : E := fun env M => bnd (f env M) fun d M1 => match d with
 | .str z => some (.v (.bl (if b then (zct tb z).isSome else !(zct tb z).isSome)), M1)
 | _ => none
def zik (tb : List (Str × D)) (f : E) : E := fun env M => bnd (f env M) fun d M1 => match d with
 | .str z => (zct tb z).map fun y => (.v y, M1)
 | _ => none
theorem zgY {z : Str} {K : Fgx} {w : World} {tb : List (Str × D)} {es : List DictEntry} {vs : List (Key × Value)} (r : KRows K w tb es vs) : (valueAt vs (.inr z : Key)).isSome = (zct tb z).isSome := by
 have g := zgc (z := z) r
 cases h : zct tb z with
 | none => rw [h] at g; have g' : valueAt vs (.inr z : Key) = none := g; rw [g']; rfl
 | some d => rw [h] at g; obtain ⟨u, v, e, _⟩ := g; rw [e]; rfl
theorem zrF {i : Expr} {ty : TE} {nm : Str} {p : Pos} {a : Addr} {tb : List (Str × D)} (hi : PE X i ty) (hg : Gl X nm) (hm : X.mg nm = some (.ref a)) (t : KTab X.K X.w a tb) (hdb : (nm == ("__debug__" : Str)) = false) :
  PC X .In i (.Name nm p) (fun σ H Q => ty σ H fun y H1 => ∃ z, y = .str z /\ Q (.bl (zct tb z).isSome) H1) := by
 intro pins s σ H Q I h;refine thn (hi pins s σ H _ I h) fun iv s1 ⟨y, H1, I1, ry, z, ey, q⟩ => zcx I1 hg hm ?_ hdb;subst ey;obtain ⟨es, vs, r, dd, ns⟩ := t.dict (prog := X.prog) I1.kIn;refine wpAny_in_of (k := (.inr z : Key)) (zic (k := .inr z) ry) ns dd.mapOf ?_;rw [zgY r];exact ⟨.bl _, H1, I1.tok _, rfl, q⟩
theorem zkW {i : Expr} {ty : TE} {nm : Str} {p : Pos} {a : Addr} {tb : List (Str × D)} (hi : PE X i ty) (hg : Gl X nm) (hm : X.mg nm = some (.ref a)) (t : KTab X.K X.w a tb) (hdb : (nm == ("__debug__" : Str)) = false) :
  PC X .NotIn i (.Name nm p) (fun σ H Q => ty σ H fun y H1 => ∃ z, y = .str z /\ Q (.bl (!(zct tb z).isSome)) H1) := by
 intro pins s σ H Q I h;refine thn (hi pins s σ H _ I h) fun iv s1 ⟨y, H1, I1, ry, z, ey, q⟩ => zcx I1 hg hm ?_ hdb;subst ey;obtain ⟨es, vs, r, dd, ns⟩ := t.dict (prog := X.prog) I1.kIn;refine wpAny_notIn_of (k := (.inr z : Key)) (zic (k := .inr z) ry) ns dd.mapOf ?_;rw [zgY r];exact ⟨.bl _, H1, I1.tok _, rfl, q⟩
theorem zmQ {b : Bool} {tb : List (Str × D)} {f : E} {st : L2.St} {H : Hp} {Q : VK} (w : tE X.K X.mg Wx m (sKIn b tb f) st H Q) : tE X.K X.mg Wx .val f st H fun y H1 => ∃ z, y = .str z /\ Q (.bl (if b then (zct tb z).isSome else !(zct tb z).isSome)) H1 := by
 obtain ⟨P0, H0, P, Os, env, M, r, M', k, e, q⟩ := w;unfold sKIn at e;rcases zaB e with ⟨d, N1, e1, e⟩ | ⟨c, n, e1, rfl⟩
 ·cases d <;> simp only [reduceCtorEq] at e
  rename_i z;cases e;exact zax k e1 fun P1 v1 H1 l1 h1 i1 => ⟨z, i1, q P1 _ H1 l1 h1 (IsM.of h1 (show Is _ _ _ (.bl _) _ from rfl))⟩
 ·exact zax k e1 q
theorem zqE {i : Expr} {f : E} {nm : Str} {p : Pos} {a : Addr} {tb : List (Str × D)} (hi : SE X Wx .val i f) (hg : Gl X nm) (hm : X.mg nm = some (.ref a)) (t : KTab X.K X.w a tb) (hdb : (nm == ("__debug__" : Str)) = false := by x_go) (hb : behindInMarks .In (.Name nm p) = false := by rfl) : ST X Wx (.Compare i [.In] [.Name nm p] pos) (sKIn true tb f) :=
 zfG (zkJ (zrF hi hg hm t hdb) hb) fun _ _ _ w => zmQ (b := true) (zkg w)
theorem zhl {i : Expr} {f : E} {nm : Str} {p : Pos} {a : Addr} {tb : List (Str × D)} (hi : SE X Wx .val i f) (hg : Gl X nm) (hm : X.mg nm = some (.ref a)) (t : KTab X.K X.w a tb) (hdb : (nm == ("__debug__" : Str)) = false := by x_go) (hs : NoSl i := by exact fun _ _ => rfl) : SE X Wx m (.Subscript (.Name nm p) i pos) (zik tb f) := by
 have h' : PE X (.Subscript (.Name nm p) i pos) (fun σ H Q => tE X.K X.mg Wx .val f σ H fun y H1 => ∃ z d, y = .str z /\ zct tb z = some d /\ ∀ v, (∀ P H, Is X.K P H d v) -> Q v H1) := by
  intro pins s σ H Q I h;refine znW PySem.F.slot_dict_getitem.lookup hs (zcx I hg hm ?_ hdb);refine thn (hi pins s σ H _ I h) fun iv s2 ⟨y, H2, I2, ry, z, d, ey, ed, q2⟩ => ?_;subst ey;obtain ⟨es, vs, r, dd, ns⟩ := t.dict (prog := X.prog) I2.kIn;have g := zgc (z := z) r;rw [ed] at g;obtain ⟨u, v, e1, e2, e3⟩ := g;exact ⟨dd.typeIs, wpAny_getItem_of (k := (.inr z : Key)) (zic (k := .inr z) ry) dd.mapOf e1 ⟨v, H2, I2.tok _, e2, q2 v e3⟩⟩
 refine zaP h' ?_;rintro st H Q ⟨P0, H0, P, Os, env, M, r, M', k, e, q⟩;unfold zik at e;rcases zaB e with ⟨d, N1, e1, e⟩ | ⟨c, n, e1, rfl⟩
 ·cases d <;> simp only [reduceCtorEq] at e
  rename_i z;rw [Option.map_eq_some_iff] at e;obtain ⟨y, ey, e⟩ := e;cases e;exact zax k e1 fun P1 v1 H1 l1 h1 i1 => ⟨z, y, i1, ey, fun v iv => q P1 v H1 l1 h1 (IsM.of h1 (iv P1 H1))⟩
 ·exact zax k e1 q
end
section
variable {X : Cx} {Wx : XW} {pos : Pos}
def iTx (f : E) : EA := fun env M => match f env M with
 | some (.v (.str z), M1) => some (.v (z.cps.toList.map fun c => .str ⟨#[c]⟩), M1)
 | some (.x c n, M1) => some (.x c n, M1)
 | _ => none
theorem zom {tg e : Expr} {f : E} (h : SE X Wx .val e f) : SI X Wx tg e (iTx f) := by
 refine zhV (zpY h) ?_;rintro st H R ⟨P0, H0, P, Os, env, M, r, M', k, e, q⟩;unfold iTx at e;split at e
 ·rename_i z M1 ef;cases e;refine ⟨P0, H0, P, Os, env, M, _, _, k, ef, fun P1 v1 H1 l1 h1 i1 => ⟨z, i1, q P1 H1 _ l1 h1 fun P2 H2 l2 => ?_⟩⟩;have hl : (z.cps.toList.map fun c => (D.str ⟨#[c]⟩)).length = z.cps.size := by simp
  rw [hl];refine ⟨fun j hj => hj, fun j h1 h2 => Nat.le_antisymm h2 h1, fun j x H' y hj => ⟨y.1, ?_⟩⟩;obtain ⟨c, ec, rfl⟩ := y.2;refine ⟨.str ⟨#[c]⟩, ?_, rfl⟩;rw [List.getElem?_map, Array.getElem?_toList, ec];rfl
 ·rename_i c n M1 ef;cases e;exact ⟨P0, H0, P, Os, env, M, _, _, k, ef, q⟩
 ·cases e
end
end E3
namespace L2
open PySem PySem.Spec PyProof.Rows
theorem zjt : Manifest.owners.lookup (String.ofList ['d', 'e', 's', 'r', 'e', 'v', 'e', 'r'].reverse) = some Manifest.sig_reversed := by kernel_rfl
theorem zoR : Slot "reversed" "__init__" "object.__init__" :=
 .of (owner := "object") (n := "__init__") (by rw [typeLookup_type, builtinLookup_eq_fast]; kernel_rfl) (by x_go) (by x_go) (by x_go)
  (by first | exact .inl (by x_go) | exact .inr (by x_go)) (by rw [isSubtype_type]; kernel_rfl)
theorem zfN : Slot "reversed" "__next__" "reversed.__next__" :=
 .of (owner := "reversed") (n := "__next__") (by rw [typeLookup_type, builtinLookup_eq_fast]; kernel_rfl) (by x_go) (by x_go) (by x_go)
  (by first | exact .inl (by x_go) | exact .inr (by x_go)) (by rw [isSubtype_type]; kernel_rfl)
theorem zll : Slot "reversed" "__iter__" "reversed.__iter__" :=
 .of (owner := "reversed") (n := "__iter__") (by rw [typeLookup_type, builtinLookup_eq_fast]; kernel_rfl) (by x_go) (by x_go) (by x_go)
  (by first | exact .inl (by x_go) | exact .inr (by x_go)) (by rw [isSubtype_type]; kernel_rfl)
theorem zeR : entryFor table "reversed.__next__" = some Builtin.«reversed.__next__» := entryFor_of_tree (by kernel_rfl)
theorem zfg (a : Value) : argsOk "reversed.__next__" ⟨[a], []⟩ := by
 unfold argsOk; rw [signature?_of (id := "reversed.__next__") (n := ['_', '_', 't', 'x', 'e', 'n', '_', '_']) (o := ['d', 'e', 's', 'r', 'e', 'v', 'e', 'r']) (by kernel_rfl) zjt]; kernel_rfl
theorem zhq : entryFor table "reversed.__iter__" = some Builtin.«dict_keyiterator.__iter__» :=
 entryFor_alias (id' := "dict_keyiterator.__iter__") (by kernel_rfl) (by first | rfl | decide +kernel | (unfold String.splitOn; simp +decide [String.splitOnAux])) (by x_go) (by kernel_rfl)
theorem zh0 (a : Value) : argsOk "reversed.__iter__" ⟨[a], []⟩ := by
 unfold argsOk; rw [signature?_of (id := "reversed.__iter__") (n := ['_', '_', 'r', 'e', 't', 'i', '_', '_']) (o := ['d', 'e', 's', 'r', 'e', 'v', 'e', 'r']) (by kernel_rfl) zjt]; kernel_rfl
theorem zk9 : TypeCalled "reversed" "reversed.__new__" "object.__init__" :=
 ⟨by x_go, by x_go, ⟨_, _, F.mro_reversed⟩, F.made_reversed, F.plain_reversed_new, F.sub_reversed_self, zoR⟩
theorem zo2 : typeLookup (.type "tuple") "__reversed__" = pure none := by rw [typeLookup_type, builtinLookup_eq_fast]; kernel_rfl
theorem zoQ : isSubtype (.type "tuple") (.type "dict") = pure false := by rw [isSubtype_type]; kernel_rfl
def rvT (a : Addr) (i : Int) : Obj := { cls := .type "reversed", data := .fields #[.ref a, rawInt i] }
def ze7 (h : Heap) (a t : Addr) (i : Int) : Prop := ∃ o, h.get? a = some o /\ o.cls = .type "reversed" /\ o.data = .fields #[.ref t, rawInt i]
theorem ze7.typeIs {s : Shared} {a l : Addr} {i : Int} (x : ze7 s.heap a l i) : s.TypeIs (.ref a) "reversed" := let ⟨o, ho, hc, _⟩ := x; ⟨o, ho, hc⟩
theorem ze7.at {h h' : Heap} {a l : Addr} {i : Int} (x : ze7 h a l i) (e : ∀ o, h.get? a = some o -> h'.get? a = some o) : ze7 h' a l i := let ⟨o, ho, r⟩ := x; ⟨o, e _ ho, r⟩
theorem zpa (t : Addr) (items : Array Value) : Meets (Builtin.«reversed.__new__» ⟨[.type "reversed", .ref t], []⟩) (fun _ R s => IsTup s.heap t items /\ (items.size : Int) < 2 ^ 63 /\
    R (.ok (.ret (.ref s.heap.objs.size))) { s with heap := s.heap.push (rvT t ((items.size : Int) - 1)), toks := s.toks + 1 + 1 }) :=
  .of_wp fun prog w A R s ⟨ht, hf, h⟩ => by
    unfold Builtin.«reversed.__new__»;refine wpAny_bind (wpAny_of_eq (newClass_reversed _) ?_)
    try dsimp only
    refine wpAny_bind (wpAny_of_eq (a := ()) (by first | rfl | kernel_rfl) ?_)
    refine wpAny_bind (wpAny_of_eq (a := ()) (by first | rfl | kernel_rfl) ?_)
    try dsimp only
    refine wpAny_bind (wpAny_specialOf ht.typeIs zo2 ?_)
    try dsimp only
    refine wpAny_bind ?_;show wpAny _ _ (do
      if <- isInstance (.ref t) (.type "dict") then return false
      match <- specialOf (.ref t) "__getitem__" with
      | none => return false
      | some (.builtin id) =>
        if ["tuple.__getitem__", "str.__getitem__", "bytes.__getitem__", "bytearray.__getitem__", "memoryview.__getitem__", "numpy.ndarray.__getitem__", "sqlite3.Row.__getitem__"].contains id then return true
        if id == "sqlite3.Blob.__getitem__" then return false
        unsupported "reversed.__new__:is-it-a-sequence"
      | some _ => return true : Sem Bool) _ _ s
    refine wpAny_bind (wpAny_isInstance ht.typeIs zoQ ?_);rw [if_neg (by decide)];refine wpAny_bind (wpAny_specialOf ht.typeIs slot_tuple_getitem.lookup ?_)
    try dsimp only
    rw [if_pos (by x_go)];refine wpAny_pure ?_;rw [if_neg (by decide)];refine wpAny_bind (len_tuple ht hf ?_);refine wpAny_bind (m := asInt? _) (wpAny_of_eq (a := some (items.size : Int)) (by first | rfl | kernel_rfl) ?_)
    try dsimp only
    unfold Builtin.SmallTypes.newRecord
    try dsimp only
    refine wpAny_bind (wpAny_newObj_type ?_ (by size_fits));exact wpAny_pure ⟨_, rfl, h⟩
section
variable {prog : Program} {w : World} {A : Around} {E : Value -> Shared -> Prop} {s : Shared}
theorem zms {t : Addr} {items : Array Value} {Q : Value -> Shared -> Prop} (ht : IsTup s.heap t items) (hf : (items.size : Int) < 2 ^ 63)
  (h : Q (.ref s.heap.objs.size) { s with heap := s.heap.push (rvT t ((items.size : Int) - 1)), toks := s.toks + 1 + 1 }) : wpAny (model prog w) A (call (.type "reversed") [.ref t]) Q E s :=
 callType_new zk9 (by decide) (F.typeCall_reversed_1 _) (F.newCall_reversed_1 _) (fun obj => F.args_object_init_2 obj _) F.entry_reversed_new (zpa t items) ⟨ht, hf, ⟨_, Heap.get?_push_size _ rfl, rfl⟩, h⟩
theorem zjj {it l : Addr} {i : Int} {Q : Value -> Shared -> Prop} (hit : ze7 s.heap it l i) (h : Q (.ref it) s) : wpAny (model prog w) A (pyIter (.ref it)) Q E s := by
 refine wpAny_pyIter_slot hit.typeIs zll (wpAny_call_entry zll hit.typeIs zhq ?_ (zh0 _));show wpAny _ _ (ret (.ref it)) _ _ s;exact wpAny_pure ⟨_, rfl, "reversed", _, hit.typeIs, zfN.lookup, h⟩
theorem zmy {it l : Addr} {i : Nat} {items : Array Value} {x : Value} {Q : Option Value -> Shared -> Prop} (hit : ze7 s.heap it l (i : Int)) (hl : IsTup s.heap l items) (hx : items[i]? = some x) (hf : (items.size : Int) < 2 ^ 63)
  (hQ : ∀ h', ze7 h' it l ((i : Int) - 1) -> Heap.SameBut it s.heap h' -> Q (some x) { s with heap := h', toks := s.toks + 1 }) : wpAny (model prog w) A (pyNext (.ref it)) Q E s := by
 obtain ⟨o, ho, hc, hd⟩ := id hit;have hi : i < items.size := by
  rcases Nat.lt_or_ge i items.size with z | z
  ·exact z
  ·rw [Array.getElem?_eq_none z] at hx; cases hx
 unfold pyNext;refine wpAny_bind (wpAny_attempt (wpAny_callSpecial?_slot (name := Str.ofString "__next__") hit.typeIs zfN
  (wpAny_call_entry zfN hit.typeIs zeR ?_ (zfg _))))
 unfold Builtin.«reversed.__next__»;refine wpAny_bind (wpAny_of_eq (a := (Value.ref it, [])) rfl ?_)
 try dsimp only
 refine wpAny_bind (wpAny_field ho hd (x := .ref l) rfl ?_);refine wpAny_bind (wpAny_field ho hd (x := rawInt (i : Int)) rfl ?_);show wpAny _ _ (if (i : Int) < 0 then _ else _) _ _ s
 rw [if_neg (by omega)];refine wpAny_bind (wpAny_specialOf hl.typeIs slot_tuple_getitem.lookup ?_);rw [if_neg (by simp)];refine wpAny_bind (wpAny_mkInt ?_);refine wpAny_bind (wpAny_attempt (getItem_tuple (k := (i : Int)) (j := i) (s := { s with toks := s.toks + 1 }) hl (by omega) (by omega) ?_ hx ?_))
 ·exact seqIndex_of (by omega) (by omega)
 show wpAny _ _ (field (Value.ref it) 1 >>= _) _ _ _;refine wpAny_bind (wpAny_field (s := { s with toks := s.toks + 1 }) ho hd (x := rawInt (i : Int)) rfl ?_);show wpAny _ _ (setField (Value.ref it) 1 (rawInt ((i : Int) - 1)) >>= _) _ _ _;refine wpAny_bind (wpAny_setField (s := { s with toks := s.toks + 1 }) ho hd (by simp) ?_);refine wpAny_pure ⟨x, rfl, wpAny_pure (hQ _ ?_ (Heap.SameBut.update ..))⟩;exact ⟨_, Heap.get?_update_self _ ho (Obj.isFreed_of_fields (Obj.data_mapFields hd _)), (Obj.cls_mapFields ..).trans hc, by
  rw [Obj.data_mapFields hd]; simp⟩
theorem zot {it l : Addr} {Q : Option Value -> Shared -> Prop} (hh : A.handled = none) (hit : ze7 s.heap it l (-1))
  (hQ : ∀ h', Heap.ExtBut it s.heap h' -> Q none { s with heap := h' }) : wpAny (model prog w) A (pyNext (.ref it)) Q E s := by
 obtain ⟨o, ho, hc, hd⟩ := id hit;unfold pyNext;refine wpAny_bind (wpAny_attempt (wpAny_callSpecial?_slot (name := Str.ofString "__next__") hit.typeIs zfN
  (wpAny_call_entry zfN hit.typeIs zeR ?_ (zfg _))))
 unfold Builtin.«reversed.__next__»;refine wpAny_bind (wpAny_of_eq (a := (Value.ref it, [])) rfl ?_)
 try dsimp only
 refine wpAny_bind (wpAny_field ho hd (x := .ref l) rfl ?_);refine wpAny_bind (wpAny_field ho hd (x := rawInt (-1)) rfl ?_);show wpAny _ _ (if (-1 : Int) < 0 then _ else _) _ _ s
 rw [if_pos (by decide)];refine wpAny_bind (wpAny_rule ?_);refine wpAny_bind ?_;show wpAny _ _ (setField (.ref it) 1 (rawInt (-1)) >>= fun _ => setField (.ref it) 0 .none) _ _ s;refine wpAny_bind (wpAny_setField ho hd (by simp) ?_);refine wpAny_setField (Heap.get?_update_self _ ho (Obj.isFreed_of_fields (Obj.data_mapFields hd _))) (Obj.data_mapFields hd _) (by simp) ?_;refine wpAny_bind ?_;show wpAny _ _ (newExc (.type "StopIteration") [] >>= _) _ _ _;refine wpAny_bind ?_;simp only [newExc, newTuple];refine wpAny_bind (wpAny_newObj_type ?_ (by size_fits));refine wpAny_bind (m := firstArgMember _ _) (wpAny_of_eq (a := Value.none) (by first | rfl | (simp only [firstArgMember]; rfl)) ?_)
 refine wpAny_newObj_type ?_ (by size_fits);simp only [raiseNew];refine wpAny_bind (wpAny_handled ?_)
 first | rw [show A.in1.handled = none from hh] | rw [hh]
 refine wpAny_bind (wpAny_pure (wpAny_throw ?_));refine wpAny_bind (wpAny_isInstance (T := "StopIteration") (b := true) ⟨_, Heap.get?_push_size _ rfl, rfl⟩ isSubtype_stop ?_);exact wpAny_pure (hQ _ ((((Heap.SameBut.update _ _ _).extBut).trans ((Heap.SameBut.update _ _ _).extBut)).push _ |>.push _))
end
def Itw (K : Fgx) (a : Addr) (n : Nat) : It :=
 ⟨fun i H => i < n /\ ∃ xs, SqT K H a xs /\ xs.length = n, fun i H x H' => H' = H /\ ∀ xs, SqT K H a xs -> xs[n - 1 - i]? = some x, fun i _ => i = n⟩
theorem zmm {P : Program} {w : World} {K : Fgx} {tg : Expr} (a it : Addr) (n : Nat) : Turn P w K tg (Itw K a n) [it] it (fun i h => ze7 h it a ((n : Int) - 1 - (i : Int))) where
 mem := by simp
 obj := fun i h st b hb => by
  have e : b = it := by simpa using hb
  subst e;obtain ⟨o, e, c, d⟩ := st;exact ⟨o, e, fun v z => by rw [d] at z; cases z⟩
 keep := fun i h h' st k => st.at fun o e => k it (by simp) o e
 item := by
  intro X hP hw hK hc i pins s σ H E I hf st hg;subst hP hw hK;obtain ⟨hi, xs, hq, hlen⟩ := hg;obtain ⟨its, rv, p, hz⟩ := I.tuple hq;have hx : xs[n - 1 - i]? = some (xs[n - 1 - i]'(by omega)) := List.getElem?_eq_getElem (by omega);obtain ⟨u, hu, ru⟩ := rv.get hx;obtain ⟨f0, f1, f2, f3, f4, f5⟩ := hf it (by simp);have e : (n : Int) - 1 - (i : Int) = ((n - 1 - i : Nat) : Int) := by omega
  have st0 : ze7 s.heap it a ((n - 1 - i : Nat) : Int) := by rw [<- e]; exact st
  have hn := zfe;have hl := rv.length;refine zmy st0 p (x := u) (by simpa using hu) (by simp only [List.size_toArray]; omega) fun h' st' sb => ?_;have e2 : ((n - 1 - i : Nat) : Int) - 1 = (n : Int) - 1 - ((i + 1 : Nat) : Int) := by omega
  rw [e2] at st';have I1 : Inv X pins σ H { s with heap := h', toks := s.toks + 1 } := I.turned (t' := s.toks + 1) (fun b o hb e => (sb.2 b hb).trans e) f0 f1 f3 f4 f5;obtain ⟨o, eo, c, d⟩ := id st';exact ⟨u, rfl, ziM (s := { s with heap := h', toks := s.toks + 1 }) eo c d (by decide) ⟨_, H, I1, ru, ⟨rfl, fun ys hy => by rw [I.tuple_inj hy hq]; exact hx⟩, st', fun b hb => (hf b hb).1⟩⟩
 done := by
  intro X hP hw hK hc i pins s σ H E I hf st hg;subst hP hw hK;have hg' : i = n := hg;subst hg';obtain ⟨f0, f1, f2, f3, f4, f5⟩ := hf it (by simp);have e : (i : Int) - 1 - (i : Int) = -1 := by omega
  have st0 : ze7 s.heap it a (-1) := by rw [<- e]; exact st
  exact zot (I.ok.hd hc) st0 fun h' eb => ⟨rfl, I.turned (t' := s.toks) (fun b o hb e => eb b o hb e) f0 f1 f3 f4 f5⟩
 self := fun _ _ _ _ _ st h => zjj st h
section
variable {X : Cx} {tg : Expr}
def zsT (K : Fgx) (ta : TA) : TI := fun σ H R => ta σ H fun vs H1 => ∃ a xs, vs = [.ref a] /\ SqT K H1 a xs /\ R (Itw K a xs.length) H1
theorem zp1 {a : Expr} {ta : TA} {p pos : Pos} (hg : Gl X "reversed") (hm : X.mg "reversed" = none) (ha : PA X [a] ta) (hs : starEach [a] X.env = [(false, eval a X.env)] := by rfl) : PI X tg (.Call (.Name "reversed" p) [a] [] pos) (zsT X.K ta) := by
 intro pins s σ H R I h;refine Call_ (zig I hg hm boot_reversed (PyProof.Rows.callWith_type1 (thn (ha pos pins s σ H _ I h) fun us s1 ⟨vs, H1, I1, r1, q1⟩ => ?_) hs rfl));obtain ⟨b, xs, e, hq, q⟩ := q1;subst e;obtain ⟨u, e, ru⟩ := vals1 r1;subst e;cases ru;obtain ⟨its, rv, pl, hz⟩ := I1.tuple hq;have hlen : its.toArray.size = xs.length := by rw [List.size_toArray]; exact rv.length.symm
 have hn := zfe;refine zms pl (by rw [hlen]; omega) ?_;rw [hlen];refine zjj (l := b) (i := (xs.length : Int) - 1) ⟨_, Heap.get?_push_size _ rfl, rfl, rfl⟩ ?_;refine ⟨s1.heap.objs.size, [s1.heap.objs.size], _, _, H1, rfl, I1.kept (t' := s1.toks + 1 + 1) fun b o e => Heap.get?_push_of_some _ e, zmm b _ xs.length, ?_, fun c hc => ?_, q⟩
 ·have e : (xs.length : Int) - 1 - ((0 : Nat) : Int) = (xs.length : Int) - 1 := by omega
  show ze7 _ _ b ((xs.length : Int) - 1 - ((0 : Nat) : Int));rw [e];exact ⟨_, Heap.get?_push_size _ rfl, rfl, rfl⟩
 ·have e : c = s1.heap.objs.size := by simpa using hc
  subst e;exact I1.fpOk (Nat.le_refl _) (I1.hok.fresh (Nat.le_refl _))
end
end L2
namespace E3
open PySem PySem.Spec PyProof.Rows L2
section
variable {X : Cx} {Wx : XW} {m : Mode} {pos : Pos}
def repS (i : Str) (n : Nat) : Str := ⟨(List.replicate n i.cps).foldl (· ++ ·) #[]⟩
theorem ziW (a : Array Nat) : ∀ (n : Nat) (b : Array Nat), ((List.replicate n a).foldl (· ++ ·) b).size = b.size + a.size * n
  | 0, b => by simp
  | n + 1, b => by
    rw [List.replicate_succ, List.foldl_cons, ziW a n, Array.size_append, Nat.mul_succ];omega
theorem zoI (i : Str) (n : Nat) : (repS i n).length = i.length * n := by
 have := ziW i.cps n #[]
 simpa [repS, Str.length] using this
def zp7 : R2 := fun x y H Q => ∃ i j, x = .str i /\ y = .int j /\ (1 < j /\ j < 100000 /\ 0 < i.length /\ i.length * j.toNat <= sizeLine) /\ Q (.str (repS i j.toNat)) H
theorem zlL : OpR X (binaryOp .Mult) zp7 := by
 intro pins s σ H x y v u Q I rx ry h;obtain ⟨i, j, rfl, rfl, ⟨h1, h2, h3, h4⟩, q⟩ := h;obtain ⟨t, rfl⟩ := rx;obtain ⟨t', rfl⟩ := ry;have hne : (j == 1 || i.length == 0) = false := by
  rw [Bool.or_eq_false_iff];exact ⟨by rw [beq_eq_false_iff_ne]; omega, by rw [beq_eq_false_iff_ne]; omega⟩
 have hl : Builtin.Str.tooLong (i.length * j.toNat) = false := by unfold Builtin.Str.tooLong; simpa using h4
 refine P.mul_str (by rw [decide_eq_false (by omega), decide_eq_false (by omega)]; rfl) (fun _ _ => ?_) (fun _ _ => hl) ?_
 ·have hz : i.length <= i.length * j.toNat := Nat.le_mul_of_pos_right _ (by omega);have hm : (i.length : Int) * j <= 2 ^ 63 - 1 := by
   have : ((i.length * j.toNat : Nat) : Int) <= (sizeLine : Nat) := by exact_mod_cast h4
   rw [Int.natCast_mul, Int.toNat_of_nonneg (by omega)] at this;have hs : ((sizeLine : Nat) : Int) <= 2 ^ 63 - 1 := by x_go
   omega
  have := (Int.le_ediv_iff_mul_le (by omega : (0 : Int) < j)).mpr hm;omega
 ·rw [if_neg (by omega), if_neg (by rw [hne]; decide)];refine ⟨?_, .str (repS i j.toNat), H, I.tok _, ⟨_, rfl⟩, q⟩;have := zoI i j.toNat;show (repS i j.toNat).length <= _;rw [this];exact h4
def oRep : D -> D -> Option D
 | .str i, .int j => if 1 < j /\ j < 100000 /\ 0 < i.length /\ i.length * j.toNat <= sizeLine then some (.str (repS i j.toNat)) else none
 | _, _ => none
theorem zka {K : Fgx} : zeo K zp7 oRep := fun P H d e z v w Q h h1 h2 _ q => by
 unfold oRep at h;split at h
 ·split at h
  ·rename_i hg;cases h;cases h1;cases h2;exact ⟨_, _, rfl, rfl, hg, q _ H (Same.refl H) rfl⟩
  ·cases h
 ·cases h
def jRep (f : E) (ps : EJ) : EJ := fun out env M => bnd (f env M) fun d M1 => match d with
 | .str z => if (reprText z).length <= sizeLine /\ (out ++ reprText z).length <= sizeLine then ps (out ++ reprText z) env M1 else none
 | _ => none
theorem zq0 {e : Expr} {vs : List Expr} {te : TE} {tj : TJ} (he : PE X e te) (hv : PJ X vs tj) : PJ X (.FormattedValue e 114 none pos :: vs) (fun out σ H Q => te σ H fun v H1 => ∃ z, v = .str z /\ (reprText z).length <= sizeLine /\ (out ++ reprText z).length <= sizeLine /\ tj (out ++ reprText z) σ H1 Q) := fun pins s σ H out Q I h => by
 refine joinParts_cons (wpAny_FormattedValue_repr (thn (he pins s σ H _ I h) fun u s1 ⟨x, H1, I1, r1, z, ez, hz, hl, q⟩ => ?_));subst ez;obtain ⟨t, rfl⟩ := r1;refine pyReprObj_str ?_ hz;exact formatField_str (fun t' tk => ⟨hl, hv pins _ σ H1 _ Q (I1.tok _) q⟩) hz
theorem zrh {e : Expr} {f : E} {vs : List Expr} {ps : EJ} (he : SE X Wx .val e f) (h : SJ X Wx vs ps) : SJ X Wx (.FormattedValue e 114 none pos :: vs) (jRep f ps) := by
 refine zi5 (zq0 he h) ?_;rintro out st H Q ⟨P0, H0, P, Os, env, M, r, M', k, e, q⟩;unfold jRep at e;rcases zaB e with ⟨d, M1, e1, e⟩ | ⟨c, n, e1, rfl⟩
 ·cases d <;> simp only [reduceCtorEq] at e
  rename_i z;split at e
  ·rename_i hl;exact zax k e1 fun P1 v1 H1 l1 h1 i1 => ⟨z, i1, hl.1, hl.2, P0, H0, P1, Os, env, M1, r, M', k.next l1 h1, e, RQ.imp l1 q⟩
  ·cases e
 ·exact zax k e1 q
theorem zqw {nm : Str} {p : Pos} {a : Addr} {d : D} (hg : Gl X nm) (hm : X.mg nm = some (.ref a)) (hd : ∀ P H, Is X.K P H d (.ref a)) (hdb : (nm == ("__debug__" : Str)) = false := by x_go) : SE X Wx m (.Name nm p) (sCon d) :=
 (zh4 (zch hg hm (v := .ref a) rfl hdb) hd).bor
theorem zcw {K : Fgx} {a : Addr} {o : Obj} {its : Array Value} {n : Nat} {ds : List D} {vs : List V} (l : K.lookup a = some o) (c : o.cls = .type "tuple") (e : o.data = .seq its n) (z : its.size <= sizeLine) (r : Vals vs its.toList) (i : ∀ P H, Iss K P H ds vs) : ∀ P H, Is K P H (.tup ds) (.ref a) :=
 fun P H => ⟨a, vs, rfl, .inr ⟨o, its, n, l, c, e, z, r⟩, i P H⟩
def AtMD (P : Program) (w : World) (K : Fgx) (mg : Mgx) (base : Heap) (k : Nat) (C : Addr) (m : Str) (n : Nat) (g : G) : Prop :=
 ∃ f fd ps ds dvs sp, Meth K C m f /\ FnOk P w K mg base CX0 k f fd ps sp /\ Binds K fd ps ds /\ Vals dvs ds /\ ∀ vs H Q E, spG K mg n g vs H Q E -> sp (vs ++ dvs) H Q E
structure OwnIs (K : Fgx) (C : Addr) : Prop where
 ca : PySem.W.findIn K (.ref C) "__class__" = some (some (.builtin "object.__class__"))
 gt : PySem.W.specialIn K (.builtin "object.__class__") "__get__" = some (some (.builtin "getset_descriptor.__get__"))
 tk : PySem.W.takesIn K (.builtin "object.__class__") = some true
 mr : PySem.W.mroIn K C (.type "object") = some true
 me : PySem.W.kitOne K (.ref C) (.ref C) = some true
def iRvT (fs : EA) : EA := fun env M => match fs env M with
 | some (.v [.tup ds], M1) => some (.v ds.reverse, M1)
 | some (.x c n, M1) => some (.x c n, M1)
 | _ => none
theorem zpw {tg a : Expr} {fs : EA} {p : Pos} (hg : Gl X "reversed") (hm : X.mg "reversed" = none) (ha : SA X Wx .val [a] fs) (hs : starEach [a] X.env = [(false, eval a X.env)] := by rfl) : SI X Wx tg (.Call (.Name "reversed" p) [a] [] pos) (iRvT fs) := by
 refine zhV (zp1 hg hm ha hs) ?_;rintro st H R ⟨P0, H0, P, Os, env, M, r, M', k, e, q⟩;unfold iRvT at e;split at e
 ·rename_i ds M1 ef;cases e;refine ⟨P0, H0, P, Os, env, M, _, _, k, ef, fun P1 vs H1 l1 h1 i1 => ?_⟩;obtain ⟨v, ws, rfl, i1, rfl⟩ := i1;obtain ⟨a, us, rfl, ra, is⟩ := i1;refine ⟨a, us, rfl, ra, q P1 H1 _ l1 h1 fun P2 H2 l2 => ?_⟩;have ra2 := l2.tup ra;have is2 := Iss.lt l2 is;have hn : us.length = ds.length := is2.len;rw [List.length_reverse];refine ⟨fun j hj => ⟨by omega, us, ra2, rfl⟩, fun j h1 h2 => by show j = us.length; omega, fun j x H' y hj => ⟨y.1, ?_⟩⟩;have hj' : ds.length - 1 - j < ds.length := by omega
  obtain ⟨v, ev, iv⟩ := Iss.get is2 (List.getElem?_eq_getElem hj');have := y.2 us ra2;rw [hn, ev] at this;cases this;exact ⟨_, by rw [List.getElem?_reverse hj, List.getElem?_eq_getElem hj'], iv⟩
 ·rename_i c n M1 ef;cases e;exact ⟨P0, H0, P, Os, env, M, _, _, k, ef, q⟩
 ·cases e
end
end E3
namespace E3
open PySem L2
def dg (n : Nat) : List Nat := (Nat.toDigits 10 n).map Char.toNat
theorem zrD (n : Nat) : NumText.AllDigits (dg n) := fun c hc => by
 obtain ⟨d, hd, rfl⟩ := List.mem_map.mp hc;have h := Nat.isDigit_of_mem_toDigits (by decide) (by decide) hd;simp only [Char.isDigit, Bool.and_eq_true, decide_eq_true_eq] at h;exact ⟨h.1, h.2⟩
theorem znb {n k : Nat} (h1 : 1 <= k) (h : n < 10 ^ k) : (dg n).length <= k := by
 rw [dg, List.length_map];exact toDigits_len_pow (by decide) h1 h
def shw (i : Int) : Str := Str.ofString (toString i)
theorem zne {i : Int} (h : 0 <= i) : (shw i).cps.toList = dg i.toNat := by
 have := W.KIN.signs_num i.toNat;rw [Int.toNat_of_nonneg h] at this;exact this
theorem zow {i : Int} (h : i < 0) : (shw i).cps.toList = 45 :: dg i.natAbs := by
 obtain ⟨m, rfl⟩ : ∃ m, i = Int.negSucc m := by
  cases i with
  | ofNat n => exact absurd h (by simp)
  | negSucc m => exact ⟨m, rfl⟩
 unfold shw dg;rw [PyProof.Rows.signs_ofString];show List.map Char.toNat ("-" ++ toString (m + 1)).toList = _;rw [String.toList_append, List.map_append, Nat.toString_eq_ofList_toDigits]
 simp
theorem zkn {i : Int} {k : Nat} (h1 : 1 <= k) (h : i.natAbs < 10 ^ k) : (shw i).length <= k + 1 := by
 show (shw i).cps.size <= k + 1;rw [<- Array.length_toList]
 by_cases h0 : 0 <= i
 ·rw [zne h0];have := znb (n := i.toNat) h1 (by rw [<- Int.natAbs_of_nonneg h0] at *; simpa using h);omega
 ·rw [zow (by omega), List.length_cons];have := znb h1 h;omega
def jn (c : Nat) : List (List Nat) -> List Nat
 | [] => []
 | [p] => p
 | p :: q :: r => p ++ c :: jn c (q :: r)
theorem zmR {c : Nat} : ∀ {p q r s : List Nat}, c ∉ p -> c ∉ q -> p ++ c :: r = q ++ c :: s -> p = q /\ r = s
  | [], [], _, _, _, _, h => ⟨rfl, by simpa using h⟩
  | [], d :: q, _, _, _, hq, h => by
    simp only [List.nil_append, List.cons_append, List.cons.injEq] at h;exact absurd (h.1 ▸ List.mem_cons_self) hq
  | d :: p, [], _, _, hp, _, h => by
    simp only [List.nil_append, List.cons_append, List.cons.injEq] at h;exact absurd (h.1 ▸ List.mem_cons_self) hp
  | d :: p, e :: q, r, s, hp, hq, h => by
    simp only [List.cons_append, List.cons.injEq] at h;obtain ⟨a, b⟩ := zmR (fun z => hp (List.mem_cons_of_mem _ z)) (fun z => hq (List.mem_cons_of_mem _ z)) h.2;exact ⟨by rw [h.1, a], b⟩
theorem zmU {c : Nat} : ∀ {ps qs : List (List Nat)}, ps ≠ [] -> qs ≠ [] -> (∀ p ∈ ps, c ∉ p) -> (∀ q ∈ qs, c ∉ q) -> jn c ps = jn c qs -> ps = qs
  | [], _, h, _, _, _, _ => absurd rfl h
  | _, [], _, h, _, _, _ => absurd rfl h
  | [p], [q], _, _, _, _, h => by simp only [jn] at h; rw [h]
  | [p], q :: q' :: r, _, _, hp, _, h => by
    simp only [jn] at h;exact absurd (h ▸ (by simp : c ∈ q ++ c :: jn c (q' :: r))) (hp p List.mem_cons_self)
  | p :: p' :: r, [q], _, _, _, hq, h => by
    simp only [jn] at h;exact absurd (h ▸ (by simp : c ∈ p ++ c :: jn c (p' :: r))) (hq q List.mem_cons_self)
  | p :: p' :: r, q :: q' :: s, _, _, hp, hq, h => by
    simp only [jn] at h;obtain ⟨a, b⟩ := zmR (hp p List.mem_cons_self) (hq q List.mem_cons_self) h;have := zmU (by simp) (by simp) (fun x hx => hp x (List.mem_cons_of_mem _ hx)) (fun x hx => hq x (List.mem_cons_of_mem _ hx)) b;rw [a, this]
def cd (s : Str) : List Nat := s.cps.toList
theorem znd {a b : Str} (h : cd a = cd b) : a = b := by
 obtain ⟨x⟩ := a;obtain ⟨y⟩ := b;have : x = y := Array.toList_inj.mp h;rw [this]
theorem zhw (a b : Str) : cd (a ++ b) = cd a ++ cd b := by
 unfold cd;rw [Str.cps_append, Array.toList_append]
theorem zhn (c : Nat) : ∀ ps : List Str, cd (Str.join ⟨#[c]⟩ ps) = jn c (ps.map cd)
  | [] => rfl
  | [p] => rfl
  | p :: q :: r => by
    show cd (p ++ (⟨#[c]⟩ : Str) ++ Str.join ⟨#[c]⟩ (q :: r)) = _;rw [zhw, zhw, zhn c (q :: r)]
    simp [jn, cd]
theorem zhf {c : Nat} {x : Str} {ps : List Str} (hn : ps ≠ []) (hf : ∀ p ∈ ps, c ∉ cd p) (hx : cd x = jn c (ps.map cd)) : Txt.split x ⟨#[c]⟩ = ps := by
 have h1 := StrLaws.join_split x ⟨#[c]⟩;have h2 : cd x = jn c ((Txt.split x ⟨#[c]⟩).map cd) := by rw [<- zhn, h1]
 have h3 : (Txt.split x ⟨#[c]⟩) ≠ [] := fun e => by
  have := PyProof.Rows.split_pos x ⟨#[c]⟩;rw [e] at this
  simp at this
 have h4 := zmU (c := c) (ps := (Txt.split x ⟨#[c]⟩).map cd) (qs := ps.map cd) (by simpa using h3) (by simpa using hn)
  (fun p hp => by obtain ⟨q, hq, rfl⟩ := List.mem_map.mp hp; exact StrLaws.split_free x c q hq) (fun p hp => by obtain ⟨q, hq, rfl⟩ := List.mem_map.mp hp; exact hf q hq) (h2.symm.trans hx)
 exact (List.map_inj_right (fun _ _ => znd)).mp h4
theorem zlP {x : Str} {c : Nat} {r : List Nat} (h : cd x = c :: r) : cd (Txt.slice x (some 1) none) = r := by
 have hl : (cd x).length = r.length + 1 := by rw [h]; rfl
 have := PyProof.Rows.slice_closes_from (x := x) (i := 1) ⟨by decide, by show (1 : Int) <= ((cd x).length : Int); omega⟩;have e := eq_of_beq this;rw [e];show List.take (((cd x).length : Int) - 1).toNat (List.drop (1 : Int).toNat (cd x)) = r;rw [h]
 simp
theorem zlw {x : Str} {c : Nat} {r : List Nat} (h : cd x = c :: r) : Txt.startswith x (Str.ofString "-") = decide (c = 45) := by
 have hl : x.length = r.length + 1 := by
  show x.cps.size = _;rw [<- Array.length_toList];show (cd x).length = _;rw [h]; rfl
 have e1 : (Str.ofString "-").cps = #[45] := by x_go
 have e2 : (Str.ofString "-").length = 1 := by x_go
 unfold Txt.startswith Builtin.Str.subAt;rw [e1, e2, hl];have e3 : x.cps = (c :: r).toArray := by
  rw [<- h]; simp [cd]
 rw [e3, decide_eq_true (by omega), Bool.true_and];have e4 : ((c :: r).toArray).extract 0 (0 + 1) = #[c] := by simp
 rw [e4];rw [Bool.eq_iff_iff]
 simp
theorem znO {c : Nat} {z : Str} (hz : z = ⟨#[c]⟩) (ps : List Str) : cd (Txt.join z ps) = jn c (ps.map cd) := by
 subst hz;show cd (Builtin.Str.glued _ _) = _;rw [StrLaws.glued_eq_join, zhn]
theorem zeh (x : Str) : x.length = (cd x).length := by
 show x.cps.size = x.cps.toList.length
 simp
theorem zqm {i : Int} (h : i.natAbs < 2 ^ 1900) : i.natAbs.log2 < 1920 := by
 by_cases h0 : i.natAbs = 0
 ·rw [h0]; decide
 ·have := (Nat.log2_lt h0).mpr h;omega
theorem znM {x y : Str} : x = y ↔ cd x = cd y := ⟨fun h => by rw [h], znd⟩
theorem eq_e {x : Str} : (x = Str.ofString "") = (cd x = []) := propext (znM.trans (by rw [show cd (Str.ofString "") = [] by x_go]))
theorem eq_0 {x : Str} : (x = Str.ofString "0") = (cd x = [48]) := propext (znM.trans (by rw [show cd (Str.ofString "0") = [48] by x_go]))
theorem zqn {x : Str} : (x = Str.ofString "-0") = (cd x = [45, 48]) := propext (znM.trans (by rw [show cd (Str.ofString "-0") = [45, 48] by x_go]))
theorem zmJ (c : Nat) : cd ⟨#[c]⟩ = [c] := rfl
def dgc (c : Nat) : Bool := decide (48 <= c) && decide (c <= 57)
theorem zlM (c : Nat) : zgm ⟨#[c]⟩ (Str.ofString "0123456789") = dgc c := by
 unfold zgm dgc;rw [StrLaws.found_one, show (Str.ofString "0123456789").cps.toList = [48, 49, 50, 51, 52, 53, 54, 55, 56, 57] by x_go, Bool.eq_iff_iff];simp only [List.mem_cons, List.not_mem_nil, or_false, decide_eq_true_eq, Bool.and_eq_true];omega
def figB (cs : List Nat) : Bool := !decide (cs = []) && cs.all dgc && (decide (cs = [48]) || !decide (cs.head? = some 48))
theorem zon (cs : List Nat) : ((cs.map fun c => !dgc c).any id) = !cs.all dgc := by
 induction cs with
 | nil => rfl
 | cons c r ih => simp only [List.map_cons, List.any_cons, List.all_cons, ih, id, Bool.not_and]
def fgs (cs : List Nat) : List Nat := if cs.head? = some 45 then cs.tail else cs
def good (cs : List Nat) : Bool := !decide (cs = [45, 48]) && figB (fgs cs)
def vlc (cs : List Nat) : Int := if cs.head? = some 45 then -((NumText.digitsVal cs.tail : Nat) : Int) else ((NumText.digitsVal cs : Nat) : Int)
theorem ztl (x : Str) : Txt.startswith x (Str.ofString "-") = decide ((cd x).head? = some 45) := by
  cases h : cd x with
  | nil =>
    have : x = Str.ofString "" := by rw [eq_e]; exact h
    rw [this]
    decide +kernel
  | cons c r =>
    rw [zlw h]
    simp
theorem zsw {cs : List Nat} (h : cs.all dgc = true) : NumText.AllDigits cs := fun c hc => by
 have := List.all_eq_true.mp h c hc;unfold dgc at this
 simpa using this
theorem zfB {cs : List Nat} (h : figB cs = true) : cs ≠ [] /\ NumText.AllDigits cs /\ (cs = [48] \/ cs.head? ≠ some 48) := by
 unfold figB at h;simp only [Bool.and_eq_true, Bool.or_eq_true, Bool.not_eq_true', decide_eq_true_eq, decide_eq_false_iff_not] at h;exact ⟨h.1.1, zsw h.1.2, h.2⟩
theorem zmu {x : Str} (h : figB (fgs (cd x)) = true) (hl : x.length <= 600) : intText? x = some (vlc (cd x)) := by
 obtain ⟨h1, h2, h3⟩ := zfB h;unfold fgs at h1 h2;unfold vlc
 by_cases hh : (cd x).head? = some 45
 ·rw [if_pos hh] at h1 h2 ⊢;obtain ⟨r, e⟩ : ∃ r, cd x = 45 :: r := by
   cases hc : cd x with
   | nil => rw [hc] at hh; cases hh
   | cons c r => rw [hc] at hh; simp at hh; exact ⟨r, by rw [hh]⟩
  rw [e, List.tail_cons] at h1 h2 ⊢;exact intText_neg e h2 h1 (by omega)
 ·rw [if_neg hh] at h1 h2 ⊢;exact intText_digits h2 h1 (by omega)
theorem zpX (x : Str) : (Txt.lstripChars x (Str.ofString "-")).length = x.length - ((cd x).takeWhile fun c => decide (c = 45)).length := by
 have hg : (fun c => ((Str.ofString "-").cps.contains c : Bool)) = fun c => decide (c = 45) := by
  funext c;rw [show (Str.ofString "-").cps = #[45] by x_go]
  simp
 have hlo : stripLo (Str.ofString "-").cps.contains true x = ((cd x).takeWhile fun c => decide (c = 45)).length := by
  unfold stripLo;rw [if_pos rfl];show ((cd x).takeWhile fun c => ((Str.ofString "-").cps.contains c : Bool)).length = _;rw [hg]
 have hle := PyProof.Rows.takeWhile_len_le (fun c => decide (c = 45)) (cd x);unfold Txt.lstripChars Txt.stripBy
 split
 ·rename_i h;unfold stripSame at h;rw [Bool.and_eq_true, beq_iff_eq, hlo] at h;omega
 ·unfold stripped;rw [hlo];show (x.cps.extract _ (stripHi _ false x _)).size = _;unfold stripHi;rw [if_neg (by decide), Array.size_extract];show min x.cps.size x.cps.size - _ = x.cps.size - _;omega
theorem zoy {x : Str} (h : good (cd x) = true) : (Txt.lstripChars x (Str.ofString "-")).length = (fgs (cd x)).length := by
  unfold good at h;rw [Bool.and_eq_true] at h;obtain ⟨h1, h2, h3⟩ := zfB h.2;rw [zpX, zeh];have no : ∀ cs : List Nat, NumText.AllDigits cs -> (cs.takeWhile fun c => decide (c = 45)) = [] := fun cs hd => by
    cases cs with
    | nil => rfl
    | cons c r =>
      have := hd c List.mem_cons_self;rw [List.takeWhile_cons, if_neg (by simp; omega)]
  unfold fgs at h1 h2 ⊢
  by_cases hh : (cd x).head? = some 45
  · rw [if_pos hh] at h1 h2 ⊢;obtain ⟨r, e⟩ : ∃ r, cd x = 45 :: r := by
      cases hc : cd x with
      | nil => rw [hc] at hh; cases hh
      | cons c r => rw [hc] at hh; simp at hh; exact ⟨r, by rw [hh]⟩
    rw [e, List.tail_cons] at h1 h2 ⊢;rw [List.takeWhile_cons, if_pos (by simp), no _ h2]
    simp
  · rw [if_neg hh] at h1 h2 ⊢;rw [no _ h2]
    simp
theorem zli {n : Nat} (h : n < 340282366920938463463374607431768211456) : n.log2 < 1920 := by
 by_cases h0 : n = 0
 ·rw [h0]; decide
 ·have := (Nat.log2_lt h0 (k := 128)).mpr h;omega
section
variable {env : Env} {M M1 : Mm} {f g h c : E} {d e : D} {i j : Int} {n k : Nat} {z : Str} {b : Bool} {ds es : List D} {s t : S} {x : Str} {fa : EA} {u : G}
theorem znC {q : D -> Mm -> OS} : bndT q (some (.x x i, M)) = some (.ex x i, M) := rfl
theorem zof {q : D -> Mm -> O} : bndK q (some (.x x i, M)) = some (.x x i, M) := rfl
theorem zox {q : List D -> Mm -> O} : argK q (some (.x x i, M)) = some (.x x i, M) := rfl
theorem zoh {q : Mm -> Option (ResA × Mm)} : zl7 q (some (.x x i, M)) = some (.x x i, M) := rfl
theorem zoL : conA d (some (.x x i, M)) = some (.x x i, M) := rfl
def lsC (q : List D -> O) : Option Cl -> O
 | some (.lst ds) => q ds
 | _ => none
theorem zts {q : List D -> O} : lsC q (some (.lst ds)) = q ds := rfl
def popZ (M : Mm) (k : Nat) (ds : List D) : Option D -> O
 | some z => some (.v z, M.set k (.lst ds.dropLast))
 | none => none
theorem zmK : popZ M k ds (some d) = some (.v d, M.set k (.lst ds.dropLast)) := rfl
def popC (M : Mm) : D -> O
 | .ref k => lsC (fun ds => popZ M k ds ds[ds.length - 1]?) M[k]?
 | _ => none
theorem zr0 : popC M (.ref k) = lsC (fun ds => popZ M k ds ds[ds.length - 1]?) M[k]? := rfl
theorem zt9 : sPop f env M = bndK (fun d M1 => popC M1 d) (f env M) := by
  unfold sPop bndK bnd
  cases f env M with
  | none => rfl
  | some p =>
    obtain ⟨r, M'⟩ := p
    cases r with
    | x c n => rfl
    | v d =>
      cases d <;> rfl
def lsS (q : List D -> OS) : Option Cl -> OS
 | some (.lst ds) => q ds
 | _ => none
theorem zt5 {q : List D -> OS} : lsS q (some (.lst ds)) = q ds := rfl
def appC (env : Env) (g : Mm -> O) (M : Mm) : D -> OS
 | .ref k => lsS (fun _ => bndT (fun y M2 => lsS (fun ds => if ds.length < sizeLine then some (.nx env, M2.set k (.lst (ds ++ [y]))) else none) M2[k]?) (g M)) M[k]?
 | _ => none
theorem zpD {q : Mm -> O} : appC env q M (.ref k) = lsS (fun _ => bndT (fun y M2 => lsS (fun ds => if ds.length < sizeLine then some (.nx env, M2.set k (.lst (ds ++ [y]))) else none) M2[k]?) (q M)) M[k]? := rfl
theorem zq2 : zjV f g env M = bndT (fun d M1 => appC env (g env) M1 d) (f env M) := by
  unfold zjV bndT bndS
  cases f env M with
  | none => rfl
  | some p =>
    obtain ⟨r, M'⟩ := p
    cases r with
    | x c n => rfl
    | v d =>
      cases d <;> rfl
theorem zq4 (h : M[k]? = some (.lst ds)) : vw M (.ref k) = .lst ds := by unfold vw; simp only [h]
def argX (q : List D -> Mm -> O) : Option (ResA × Mm) -> O
 | some (.v ds, M) => q ds M
 | _ => none
theorem zrS {q : List D -> Mm -> O} : argX q (some (.v ds, M)) = q ds M := rfl
theorem znG : zeb u fa env M = argX (fun ds M1 => u ds M1) (fa env M) := by
 unfold zeb argX;rfl
theorem ziO : zeN x f env M = bndT (fun _ M1 => some (.ex x 0, M1)) (f env M) := rfl
def unE (k : Nat) (M : Mm) (env : Env) : Option Slot -> OS
 | some (.exc _ _) => some (.nx (env.set k .un), M)
 | _ => none
theorem ztG {e' : Env} : unE k M e' (some (.exc x i)) = some (.nx (e'.set k .un), M) := rfl
def tryH (k : Nat) : OS -> OS
 | some (.nx e, M2) => unE k M2 e e[k]?
 | some (.rt d, M2) => some (.rt d, M2)
 | _ => none
theorem znY {e' : Env} : tryH k (some (.nx e', M)) = unE k M e' e'[k]? := rfl
theorem zo5 : tryH k (some (.rt d, M)) = some (.rt d, M) := rfl
def tryR (k : Nat) (cat : Str -> Bool) (q : S) (env : Env) : OS -> OS
 | some (.ex c n, M1) => if cat c = true then (if k < env.length then tryH k (q (env.set k (.exc c n)) M1) else none) else none
 | o => o
theorem zrg {cat : Str -> Bool} {e' : Env} : tryR k cat t env (some (.nx e', M)) = some (.nx e', M) := rfl
theorem znz {cat : Str -> Bool} : tryR k cat t env (some (.rt d, M)) = some (.rt d, M) := rfl
theorem zqs {cat : Str -> Bool} : tryR k cat t env (some (.ex x i, M)) = if cat x = true then (if k < env.length then tryH k (t (env.set k (.exc x i)) M) else none) else none := rfl
theorem zt1 {cat : Str -> Bool} : sTry k cat s t env M = tryR k cat t env (s env M) := by
  unfold sTry tryR
  cases s env M with
  | none => rfl
  | some p =>
    obtain ⟨o, M1⟩ := p;cases o <;> rfl
def kinD (b : Bool) (tb : List (Str × D)) (M : Mm) : D -> O
 | .str z => some (.v (.bl (if b then (zct tb z).isSome else !(zct tb z).isSome)), M)
 | _ => none
theorem ztL {tb : List (Str × D)} : kinD b tb M (.str z) = some (.v (.bl (if b then (zct tb z).isSome else !(zct tb z).isSome)), M) := rfl
theorem zsC {tb : List (Str × D)} : sKIn b tb f env M = bndK (fun d M1 => kinD b tb M1 d) (f env M) := by
  unfold sKIn bndK bnd
  cases f env M with
  | none => rfl
  | some p => obtain ⟨r, M'⟩ := p; cases r with
    | x c n => rfl
    | v d => cases d <;> rfl
def zpU (tb : List (Str × D)) (M : Mm) : D -> O
 | .str z => (zct tb z).map fun y => (.v y, M)
 | _ => none
theorem zpi {tb : List (Str × D)} : zpU tb M (.str z) = (zct tb z).map fun y => (.v y, M) := rfl
theorem zpu {tb : List (Str × D)} : zik tb f env M = bndK (fun d M1 => zpU tb M1 d) (f env M) := by
  unfold zik bndK bnd
  cases f env M with
  | none => rfl
  | some p => obtain ⟨r, M'⟩ := p; cases r with
    | x c n => rfl
    | v d => cases d <;> rfl
def txR : O -> Option (ResA × Mm)
 | some (.v (.str z), M1) => some (.v (z.cps.toList.map fun c => .str ⟨#[c]⟩), M1)
 | some (.x c n, M1) => some (.x c n, M1)
 | _ => none
theorem zsN : iTx f env M = txR (f env M) := by
  unfold iTx txR
  cases f env M with
  | none => rfl
  | some p => obtain ⟨r, M'⟩ := p; cases r with
    | x c n => rfl
    | v d => cases d <;> rfl
theorem ztP : txR (some (.v (.str z), M)) = some (.v (z.cps.toList.map fun c => .str ⟨#[c]⟩), M) := rfl
def rvtR : Option (ResA × Mm) -> Option (ResA × Mm)
 | some (.v [.tup ds], M1) => some (.v ds.reverse, M1)
 | some (.x c n, M1) => some (.x c n, M1)
 | _ => none
theorem zp9 : iRvT fa env M = rvtR (fa env M) := by unfold iRvT rvtR; rfl
theorem zqy : rvtR (some (.v [.tup ds], M)) = some (.v ds.reverse, M) := rfl
def mtD (o : Str -> List D -> Option D) (q : Mm -> Option (ResA × Mm)) (M : Mm) : D -> O
 | .str y => argR (o y) (q M)
 | _ => none
theorem r_mt {o : Str -> List D -> Option D} {q : Mm -> Option (ResA × Mm)} : mtD o q M (.str z) = argR (o z) (q M) := rfl
theorem q_mt {o : Str -> List D -> Option D} : sMt o f fa env M = bndK (fun d M1 => mtD o (fa env) M1 d) (f env M) := by
  unfold sMt bndK bnd
  cases f env M with
  | none => rfl
  | some p => obtain ⟨r, M'⟩ := p; cases r with
    | x c n => rfl
    | v d =>
      cases d <;> try rfl
      dsimp only [mtD];unfold argR bndA
      cases fa env M' with
      | none => rfl
      | some p => obtain ⟨r, M2⟩ := p; cases r with
        | x c n => rfl
        | v ds => dsimp only; cases o _ (ds.map (vw M2)) <;> rfl
theorem t_st {y : Str} : zhm z [.str y] = some (.bl (Txt.startswith z y)) := rfl
theorem t_ls {y : Str} : zhp z [.str y] = if z.length <= sizeLine then some (.str (Txt.lstripChars z y)) else none := rfl
theorem zoo {ps : EJ} : sFst ps env M = ps Str.empty env M := rfl
theorem zk3 {out : Str} : jEnd out env M = if out.length <= sizeLine then some (.v (.str out), M) else none := rfl
theorem zlk {ps : EJ} {out : Str} : jCon z ps out env M = if (out ++ z).length <= sizeLine then ps (out ++ z) env M else none := rfl
def jvR (ps : EJ) (out : Str) (env : Env) (M : Mm) : Option Str -> O
 | some y => if (out ++ y).length <= sizeLine then ps (out ++ y) env M else none
 | none => none
theorem r_jv {ps : EJ} {out y : Str} : jvR ps out env M (some y) = if (out ++ y).length <= sizeLine then ps (out ++ y) env M else none := rfl
theorem znf {ps : EJ} {out : Str} : jVal f ps out env M = bndK (fun d M1 => jvR ps out env M1 (ziy d)) (f env M) := by
  unfold jVal bndK bnd
  cases f env M with
  | none => rfl
  | some p => obtain ⟨r, M'⟩ := p; cases r with
    | x c n => rfl
    | v d => dsimp only; cases ziy d <;> rfl
theorem zqg : ziy (.str z) = if z.length <= sizeLine then some z else none := rfl
theorem zsz : ziy (.int i) = if i.natAbs.log2 < 1920 then some (Str.ofString (toString i)) else none := rfl
def jrD (ps : EJ) (out : Str) (env : Env) (M : Mm) : D -> O
 | .str z => if (reprText z).length <= sizeLine /\ (out ++ reprText z).length <= sizeLine then ps (out ++ reprText z) env M else none
 | _ => none
theorem r_jr {ps : EJ} {out : Str} : jrD ps out env M (.str z) = if (reprText z).length <= sizeLine /\ (out ++ reprText z).length <= sizeLine then ps (out ++ reprText z) env M else none := rfl
theorem zno {ps : EJ} {out : Str} : jRep f ps out env M = bndK (fun d M1 => jrD ps out env M1 d) (f env M) := by
  unfold jRep bndK bnd
  cases f env M with
  | none => rfl
  | some p => obtain ⟨r, M'⟩ := p; cases r with
    | x c n => rfl
    | v d => cases d <;> rfl
theorem zqO {y : Str} : oAdd (.str z) (.str y) = if z.length + y.length <= sizeLine then some (.str (z ++ y)) else none := rfl
theorem zsO : oRep (.str z) (.int i) = if 1 < i /\ i < 100000 /\ 0 < z.length /\ z.length * i.toNat <= sizeLine then some (.str (repS z i.toNat)) else none := rfl
theorem zsk : oIx (.str z) (.int i) = if z.length <= sizeLine then (atI z.cps.toList i).map fun c => .str ⟨#[c]⟩ else none := rfl
theorem zqq : bLen [.str z] = if z.length <= sizeLine then some (.int z.length) else none := rfl
theorem zsl : bStr [.int i] = if i.natAbs.log2 < 1920 then some (.str (toString i)) else none := rfl
theorem zsG : bInt [.str z] = if z.length <= 640 then (intText? z).map .int else none := rfl
theorem zsm : bAny [.lst ds] = (zgi ds).map fun bs => .bl (bs.any id) := rfl
theorem zqe : bTup [.lst ds] = some (.tup ds) := rfl
theorem zt2 {y : Str} : oCmp .isin (.str z) (.str y) = some (.bl (zgm z y)) := rfl
theorem zpB {y : Str} : oCmp .notin (.str z) (.str y) = some (.bl (!zgm z y)) := rfl
theorem ztI {y : Str} : oCmp .eq (.str z) (.str y) = some (.bl (decide (z = y))) := by
 unfold oCmp cmpD cEq;rw [if_pos (by constructor <;> first | rfl | simp [D.dep])]
 have : (z == y) = decide (z = y) := by rw [Bool.eq_iff_iff]; simp
 simp [D.eq, this]
theorem zs5 {y : Str} : oCmp .ne (.str z) (.str y) = some (.bl (!decide (z = y))) := by
 unfold oCmp cmpD cNe;rw [if_pos (by constructor <;> first | rfl | simp [D.dep])]
 have : (z == y) = decide (z = y) := by rw [Bool.eq_iff_iff]; simp
 simp [D.eq, this]
theorem zpT : oCmp .same .non .non = some (.bl true) := rfl
theorem zpm : oCmp .other (.int i) .non = some (.bl true) := rfl
theorem zpf : oCmp .other .non .non = some (.bl false) := rfl
theorem zeV {α : Type} {e : E} (A B : α -> D) : ∀ (as : List α) (acc : List D), (∀ a ∈ as, e (.val (A a) :: env) M = some (.v (B a), M)) -> acc.length + as.length < sizeLine -> zeE (sCon (.bl true)) e env (as.map A) acc M = some (acc ++ as.map B, M)
  | [], acc, _, _ => by simp [zeE]
  | a :: as, acc, h, hl => by
    rw [List.length_cons] at hl;have hr := zeV A B as (acc ++ [B a]) (fun a' ha' => h a' (by simp [ha'])) (by rw [List.length_append, List.length_singleton]; omega);rw [List.map_cons];unfold zeE;rw [show sCon (.bl true) (.val (A a) :: env) M = some (.v (.bl true), M) from rfl];dsimp only;rw [h a List.mem_cons_self];dsimp only;rw [if_pos (by omega), hr]
    simp
def ziE (k : Nat) (t : S) (ds : List D) : OS -> OS
 | some (.nx e, M1) => loopS k t ds e M1
 | some (.ct e, M1) => loopS k t ds e M1
 | some (.bk e, M1) => some (.nx e, M1)
 | some (.rt d, M1) => some (.rt d, M1)
 | some (.ex c n, M1) => some (.ex c n, M1)
 | none => none
theorem zoc : loopS k t [] env M = some (.nx env, M) := rfl
theorem zoe : loopS k t (d :: ds) env M = if k < env.length then ziE k t ds (t (env.set k (.val d)) M) else none := by
 unfold loopS ziE;rfl
theorem zqr {e' : Env} : ziE k t ds (some (.nx e', M)) = loopS k t ds e' M := rfl
theorem zsW {e' : Env} : ziE k t ds (some (.ct e', M)) = loopS k t ds e' M := rfl
theorem ztz {e' : Env} : ziE k t ds (some (.bk e', M)) = some (.nx e', M) := rfl
theorem zto : ziE k t ds (some (.rt d, M)) = some (.rt d, M) := rfl
theorem zsu : ziE k t ds (some (.ex x i, M)) = some (.ex x i, M) := rfl
theorem zfq {α β : Type} (F : α -> β) (xs : List α) (i : Int) : atI (xs.map F) i = (atI xs i).map F := by
 unfold atI;rw [List.length_map];cases ixN xs.length i <;> simp
theorem ziV {α : Type} {xs : List α} {i : Int} (d : α) (h0 : 0 <= i) (h1 : i < xs.length) : atI xs i = some (xs.getD i.toNat d) := by
 obtain ⟨k, rfl⟩ : ∃ k : Nat, i = k := ⟨i.toNat, by omega⟩;have hk : k < xs.length := by omega
 exact zfM (by simp [hk])
theorem at0 {α : Type} {a : α} {xs : List α} : atI (a :: xs) 0 = some a := zfM (j := 0) rfl
theorem at1 {α : Type} {a b : α} {xs : List α} : atI (a :: b :: xs) 1 = some b := zfM (j := 1) rfl
theorem at2 {α : Type} {a b c : α} {xs : List α} : atI (a :: b :: c :: xs) 2 = some c := zfM (j := 2) rfl
theorem at3 {α : Type} {a b c d : α} {xs : List α} : atI (a :: b :: c :: d :: xs) 3 = some d := zfM (j := 3) rfl
theorem zjW {M : Mm} {cl : Cl} : (M ++ [cl])[M.length]? = some cl := List.getElem?_concat_length ..
theorem s_end {M : Mm} {cl cl' : Cl} : (M ++ [cl]).set M.length cl' = M ++ [cl'] := by simp
theorem w_end {M : Mm} : vw (M ++ [.lst ds]) (.ref M.length) = .lst ds := zq4 zjW
theorem zhh {α : Type} (xs : List α) {i : Int} (h : 0 <= i) : cutL xs (some i) none = xs.drop i.toNat := by
 obtain ⟨k, rfl⟩ : ∃ k : Nat, i = k := ⟨i.toNat, by omega⟩;unfold cutL;rw [HT.zlQ, HT.ziS];rw [List.take_of_length_le (by rw [List.length_drop]; omega), Int.toNat_natCast]
 by_cases hk : k <= xs.length
 ·rw [Nat.min_eq_left hk]
 ·rw [Nat.min_eq_right (by omega), List.drop_length, List.drop_of_length_le (by omega)]
theorem zjq {α : Type} (xs : List α) {i j : Int} (h : 0 <= i) (h' : 0 <= j) : cutL xs (some i) (some j) = (xs.drop i.toNat).take (j.toNat - i.toNat) := by
 obtain ⟨k, rfl⟩ : ∃ k : Nat, i = k := ⟨i.toNat, by omega⟩;obtain ⟨l, rfl⟩ : ∃ k : Nat, j = k := ⟨j.toNat, by omega⟩;unfold cutL;rw [HT.ziS, HT.ziS, Int.toNat_natCast, Int.toNat_natCast]
 by_cases hk : k <= xs.length
 ·rw [Nat.min_eq_left hk]
  by_cases hl : l <= xs.length
  ·rw [Nat.min_eq_left hl]
  ·rw [Nat.min_eq_right (by omega), List.take_of_length_le (by rw [List.length_drop]; omega), List.take_of_length_le (by rw [List.length_drop]; omega)]
 ·rw [show min k xs.length = xs.length from Nat.min_eq_right (by omega), List.drop_length, List.drop_of_length_le (by omega), List.take_nil, List.take_nil]
end
end E3
namespace L2
open PySem PySem.Spec PyProof.Rows
end L2
namespace E3
open PySem PySem.Spec PyProof.Rows L2
end E3
namespace L2
open PySem PySem.Spec PyProof.Rows
end L2
namespace E3
open PySem PySem.Spec PyProof.Rows L2
end E3
namespace L2
open PySem PySem.Spec PyProof.Rows
end L2
namespace E3
open PySem PySem.Spec PyProof.Rows L2
section
variable {X : Cx} {Wx : XW} {m : Mode} {pos : Pos}
open Classical in
end
section
variable {f g h : E} {env : Env} {M M1 M2 M3 : Mm} {j k : Nat} {kvs kvs' : List (Key × D)} {y : Bool}
theorem zmF {e x : D} {key : Key} (h1 : f env M = some (.v (.ref k), M1)) (h2 : g env M1 = some (.v e, M2)) (h3 : h env M2 = some (.v x, M3)) (e1 : M1[k]? = some (.dct kvs')) (e3 : M3[k]? = some (.dct kvs)) (h4 : toKey e = some key) : zgD f g h env M = some (.v ((valD kvs key).getD x), M3) := by
 simp only [zgD, bnd, h1, h2, h3, ziR, e1, zoq e3 h4]
theorem zsI : sDct pNil env M = some (.v (.ref M.length), M ++ [.dct []]) := rfl
end
end E3
namespace E3
open PySem PySem.Spec PyProof.Rows L2
section
variable {X : Cx} {Wx : XW} {pos : Pos}
def zgr (is : List Nat) (body : S) : Nat -> List D -> Env -> Mm -> OS
  | _, [], env, M => some (.nx env, M)
  | n, d :: ds, env, M => match setE is [.int n, d] env with
    | some env1 => (match body env1 M with
      | some (.nx e, M1) => zgr is body (n + 1) ds e M1
      | some (.ct e, M1) => zgr is body (n + 1) ds e M1
      | some (.bk e, M1) => some (.nx e, M1)
      | some (.rt d, M1) => some (.rt d, M1)
      | some (.ex c n, M1) => some (.ex c n, M1)
      | none => none)
    | none => none
def zjZ (is : List Nat) (fs : EA) (body : S) : S := fun env M => match fs env M with
 | some (.v [.lst ds], M1) => zgr is body 0 ds env M1
 | some (.x c n, M1) => some (.ex c n, M1)
 | _ => none
theorem zoi {ts : List Expr} {is : List Nat} {a : Expr} {body : List Stmt} {fs : EA} {b : S} {n : Nat} {p tp q : Pos} (hp : PassesOwn (model X.prog X.w) X.A X.env X.xe) (hc : X.calm = true) (hG : SG X ts is) (hg : Gl X "enumerate") (hm : X.mg "enumerate" = none) (ha : SA X Wx .val [a] fs) (hb : SB X Wx body b)
    (h2 : is.length = 2 := by rfl) (hn : (assignEach ts X.env).length = 2 := by rfl) (hst : (assignEach ts X.env).findIdx? (·.1) = none := by rfl) (hs : starEach [a] X.env = [(false, eval a X.env)] := by rfl)
    (hfs : ∀ x, foldedSetIterable (.Call (.Name "enumerate" p) [a] [] q) X.env x = pure x := by intro _; rfl) :
    SS X Wx (.For (.Tuple ts n tp) (.Call (.Name "enumerate" p) [a] [] q) body [] pos) (zjZ is fs b) := by
  obtain ⟨t, hpg, ht⟩ := hG;refine zcu (znm hp hc (zl4 hg hm ha hs) (zqk (n := 2) hc hpg hn hst) hb hfs) ?_;rintro D st H ⟨P0, H0, P, Os, env, M, out, M', k, e, q⟩;unfold zjZ at e;split at e
  · rename_i ds M1 ef;refine ⟨P0, H0, P, Os, env, M, _, _, k, ef, fun P1 vs H1 l1 h1 i1 => ?_⟩;obtain ⟨v, ws, rfl, i1, rfl⟩ := i1;obtain ⟨a, us, rfl, ra, is1⟩ := i1;refine ⟨a, us, rfl, ra.imp (·.2) id, ?_⟩;have k1 := k.next l1 h1
    have q1 := q.lt (l1.lt k.hk);refine ⟨fun j m σ H => m = ds.length - j /\ j <= ds.length /\ ∃ P Os' M2 env', Lt P1 H1 P H /\ Ok X.K X.mg P0 H0 P Os' H M2 σ env' /\ zgr is b j (ds.drop j) env' M2 = some (out, M'), ⟨ds.length, by simp, Nat.zero_le _, P1, Os, M1, env, Lt.refl _ _, k1, e⟩, ?_⟩;rintro j m σ H2 ⟨rfl, hj, P2, Os', M2, env', lt, k', h'⟩;have ra2 := lt.rda ra;have is2 := Iss.lt lt is1;have sq : SqL X.K H2 a us := ra2.imp (·.2) id
    by_cases hlt : j < ds.length
    · obtain ⟨w, ew, iw⟩ := Iss.get is2 (List.getElem?_eq_getElem hlt);refine .inr ⟨⟨us, w, sq, ew⟩, fun σ' H' => ∃ P Os' M2 env', Lt P1 H1 P H' /\ Ok X.K X.mg P0 H0 P Os' H' M2 σ' env' /\ zgr is b (j + 1) (ds.drop (j + 1)) env' M2 = some (out, M'), fun σ' H' z => ⟨ds.length - (j + 1), by omega, rfl, hlt, z⟩, fun x H3 y => ?_⟩;obtain ⟨pp, v, hpp, rfl, rfl, hv⟩ := y;have hv' := hv us sq;rw [ew] at hv';cases hv';rw [List.drop_eq_getElem_cons hlt] at h';simp only [zgr] at h';have sm : Same H2 (upd H2 pp (.tup [.int j, w])) := zcn hpp;have l3 : LtE P2 H2 P2 (upd H2 pp (.tup [.int j, w])) := LtE.same sm;have h3 := k'.hk.same sm;have k3 := k'.next l3 h3
      have lt3 := lt.trans (l3.lt k'.hk);split at h'
      · rename_i env1 ee;have isx : Iss X.K P2 (upd H2 pp (.tup [.int j, w])) [.int j, ds[j]] [.int j, w] := ⟨V.int j, [w], rfl, rfl, w, [], rfl, Is.lt (l3.lt k'.hk) iw, rfl⟩;refine ⟨pp, [.int j, w], rfl, .inl (.inl zao), rfl, ht _ _ _ _ _ _ _ _ _ _ _ _ k3 isx ee fun Os2 st2 k4 => ?_⟩;split at h'
        · rename_i e4 M4 eb;exact ⟨P0, H0, P2, _, _, M2, _, _, k4, eb, fun P' Os2 H2 st2 l2 k5 => ⟨P', Os2, _, e4, lt3.trans l2, k5, h'⟩⟩
        · rename_i e4 M4 eb;exact ⟨P0, H0, P2, _, _, M2, _, _, k4, eb, fun P' Os2 H2 st2 l2 k5 => ⟨P', Os2, _, e4, lt3.trans l2, k5, h'⟩⟩
        · rename_i e4 M4 eb;cases h';exact ⟨P0, H0, P2, _, _, M2, _, _, k4, eb, fun P' Os2 H2 st2 l2 k5 => q1 P' Os2 H2 st2 (lt3.trans l2) k5⟩
        · rename_i d4 M4 eb;cases h';exact ⟨P0, H0, P2, _, _, M2, _, _, k4, eb, q1⟩
        · rename_i c4 n4 M4 eb;cases h';exact ⟨P0, H0, P2, _, _, M2, _, _, k4, eb, q1⟩
        · cases h'
      · cases h'
    · have ej : j = ds.length := by omega
      subst ej;rw [List.drop_length] at h';cases h';exact .inl ⟨⟨us, sq, is2.len⟩, q1 P2 Os' H2 σ lt k'⟩
  · rename_i c n M1 ef;cases e;exact ⟨P0, H0, P, Os, env, M, _, _, k, ef, q⟩
  · cases e
theorem zlH {i : Expr} {f : E} {nm : Str} {p : Pos} {a : Addr} {tb : List (Str × D)} (hi : SE X Wx .val i f) (hg : Gl X nm) (hm : X.mg nm = some (.ref a)) (t : KTab X.K X.w a tb) (hdb : (nm == ("__debug__" : Str)) = false := by x_go) (hb : behindInMarks .NotIn (.Name nm p) = false := by rfl) : ST X Wx (.Compare i [.NotIn] [.Name nm p] pos) (sKIn false tb f) :=
 zfG (zkJ (zkW hi hg hm t hdb) hb) fun _ _ _ w => zmQ (b := false) (zkg w)
end
theorem zlq {K : Fgx} {P : Pl} {H : Hp} : ∀ l : List Str, Iss K P H (l.map .str) (l.map V.str)
 | [] => rfl
 | b :: bs => ⟨V.str b, bs.map V.str, rfl, rfl, zlq bs⟩
def zgV (z : Str) : List D -> Option D
 | [.str y] => if (y.length == 0) = false /\ z.length + 2 <= sizeLine then some (.lst ((Txt.split z y).map .str)) else none
 | _ => none
theorem zi1 {K : Fgx} : zkH K zmY zgV := fun P H y ds z vs Q h i nb q => by
 unfold zgV at h;split at h
 ·split at h
  ·rename_i hl;cases h;obtain ⟨v, ws, rfl, p, rfl⟩ := i;cases p;exact ⟨_, _, rfl, rfl, hl.1, hl.2, fun l hl' => q _ _ (zcn hl') ⟨l, _, rfl, .inl ⟨nb l hl', .inl zao⟩, zlq _⟩⟩
  ·cases h
 ·cases h
theorem zkQ {z y : Str} : zgV z [.str y] = if (y.length == 0) = false /\ z.length + 2 <= sizeLine then some (.lst ((Txt.split z y).map .str)) else none := rfl
def zqK (K : Fgx) : Sp := fun vs H Q _ => ∃ a C n, vs = [.ref a, .int n] /\ n.natAbs < 1000000000000000000 /\ H a = some (xo a C none true) /\ xcIn K C = true /\ zd6 K C "at" = true /\
 ∀ dx, H dx = none -> dx ≠ a -> Q .non (upd (upd H dx (.xd [("at", .int n)])) a (xo a C (some dx) true))
def iniB (sc : Scope) (dn : Str) : List Stmt -> Bool
  | [.Expr (.Call (.Attribute (.Name d _) m ap) [.Name s1 _, .JoinedStr vs _] [] cp) _, .Assign [.Attribute (.Name s2 _) f _] (.Name a2 _) _] => (ap.endLine == cp.line) && decide (d = dn) && (decide (sc.names.lookup d = some .globalImplicit) && !(d == ("__debug__" : Str))) && decide (m = "__init__") && decide (s1 = "self") && decide (s2 = "self") && decide (f = "at") && decide (a2 = "at") &&
    decide (sc.names.lookup ("self" : Str) = some .local) && decide (sc.names.lookup ("at" : Str) = some .local) && (match vs with
      | [.Constant (.str z) _ _, .FormattedValue (.Name a1 _) c none _] => decide (z.length <= 100) && decide (a1 = "at") && decide (c = -1)
      | [.Constant (.str z) _ _, .FormattedValue (.Name a1 _) c none _, .Constant (.str y) _ _] => decide (z.length <= 100) && decide (y.length <= 100) && decide (a1 = "at") && decide (c = -1)
      | _ => false)
  | _ => false
theorem FunD.ok {P : Program} {w : World} {K : Fgx} {mg : Mgx} {base : Heap} {x qual : Str} {st : Stmt} {f : Addr} {fd : FuncData} {N ps : List Str} {k : Nat} {sp : Sp} (F : FunD K x qual st f fd) (S : FnScope N ps (zah st)) (len : ∀ vs H Q E, sp vs H Q E -> vs.length = ps.length)
  (hbody : ∀ (cdv : Value) (A : Around) (outer : List PySem.Env) (s : Shared) (H : Hp) (vs : List V) (Q : VK) (E : XK), Room k (A.deeper (envOfC qual (zah st) s.heap.objs.size f cdv)) -> sp vs H Q E ->
   ∃ t, PSs (cxOf CX0 P w K mg base N qual (zah st) f cdv A outer s H E).nox (zaU st) t /\ t { nx := fun _ H' => Q .non H', rt := Q } (start N vs) H) : FnOk P w K mg base CX0 (k + 1) f fd ps sp := by
 obtain ⟨oc, od, dV, kV, doc, pm, an, cdv, ct, osl, rfl, lk, hcd⟩ := F.ex;refine znZ lk hcd S len fun A outer s H vs Q E hr hsp => ?_;obtain ⟨t, h, q⟩ := hbody cdv A outer s H vs Q E hr hsp;exact ⟨t, h.nox, q⟩
theorem zhM {env : PySem.Env} {o : Expr} {name : Str} {ap pos : Pos} {e1 e2 : Expr} (hb : attributeBase o name env (eval o env) = eval o env) (hline : (ap.endLine == pos.line) = true)
  (hform : methodCallForm ([e1, e2].length + ([] : List Keyword).length) (backTo pos (starEach [e1, e2] env)) (backToKw pos (keywordEach [] env)) = true) :
  eval (.Call (.Attribute o name ap) [e1, e2] [] pos) env = (do
   let ov <- eval o env
   standAt ap.atName
   let (f, first) <- holding [ov] (getMethod ov name (do return (<- importBound o env).getD true))
   callWith pos f first (backTo pos (starEach [e1, e2] env)) (backToKw pos (keywordEach [] env))) := by
 have hpos : methodCallPos true o env ap pos = pure pos := by unfold methodCallPos; simp [hline]
 rw [arm_eval_Call, hb];unfold methodCall;rw [hform, hpos];rfl
theorem zfH (a b : Str) : (a ++ b).length = a.length + b.length := by
 show (a.cps ++ b.cps).size = _;rw [Array.size_append];rfl
theorem zoW {n : Int} (hn : n.natAbs < 1000000000000000000) : textV (.int n) = some (shw n) /\ (shw n).length <= 19 := by
 refine ⟨?_, zkn (k := 18) (by decide) (by simpa using hn)⟩;show (if n.natAbs.log2 < 1920 then some (shw n) else none) = _
 rw [if_pos (zqm (Nat.lt_of_lt_of_le hn (by x_go)))]
theorem zm6 {P : Program} {w : World} {K : Fgx} {mg : Mgx} {base : Heap} {k : Nat} {x qual dn : Str} {st : Stmt} {f Dm : Addr} {fd : FuncData} (F : FunD K x qual st f fd) (S : FnScope ["self", "at"] ["self", "at"] (zah st)) (hm : mg dn = some (.ref Dm)) (q : ziC K Dm = true)
  (hc : iniB (zah st) dn (zaU st) = true) : FnOk P w K mg base CX0 (k + 1) f fd ["self", "at"] (zqK K) := by
 refine F.ok S (fun vs H Q E h => by obtain ⟨a, C, n, rfl, _⟩ := h; rfl) (fun cdv A outer s H vs Q E hr h => ?_);obtain ⟨a, C, n, rfl, hn, ea, q1, q2, kk⟩ := h;obtain ⟨ht, hlen⟩ := zoW hn;unfold iniB at hc;split at hc
 ·rename_i d p1 m p2 s1 p3 us p4 p5 p6 s2 p7 ff p8 a2 p9 p10 eb;simp only [Bool.and_eq_true, decide_eq_true_eq, Bool.not_eq_true'] at hc;obtain ⟨⟨⟨⟨⟨⟨⟨⟨⟨⟨g0, rfl⟩, g1, g2⟩, rfl⟩, rfl⟩, rfl⟩, rfl⟩, rfl⟩, g3⟩, g4⟩, g5⟩ := hc;rw [eb];generalize hX : (cxOf CX0 P w K mg base ["self", "at"] qual (zah st) f cdv A outer s H E).nox = X;have e1 : X.N = [("self" : Str), ("at" : Str)] := by rw [<- hX]; rfl
  have e2 : X.env.scope = zah st := by rw [<- hX]; rfl
  have e3 : X.mg = mg := by rw [<- hX]; rfl
  have e4 : X.K = K := by rw [<- hX]; rfl
  have pv0 : ∀ p, PE X (.Name "self" p) (tVar 0) := fun p => zh7 (by rw [e1]; rfl) (by rw [e2]; exact .inl g3) (by x_go) (by x_go);have pv1 : ∀ p, PE X (.Name "at" p) (tVar 1) := fun p => zh7 (by rw [e1]; rfl) (by rw [e2]; exact .inl g4) (by x_go) (by x_go);have gl : Gl X d := by show X.env.scope.names.lookup _ = _; rw [e2]; exact g1
  split at g5
  ·rename_i z p11 p12 a1 p13 c p14;simp only [Bool.and_eq_true, decide_eq_true_eq] at g5;obtain ⟨⟨z1, rfl⟩, rfl⟩ := g5;refine ⟨_, zeC (ze5 (zpG (by rw [e4]; exact q) gl (by rw [e3]; exact hm) (pv0 _) (zlC (ziT (zle (pv1 _) zkd) (by rw [sizeLine_eq]; omega))) g2 rfl rfl (zhM rfl g0 rfl))) (zeC (znr (pv0 _) (pv1 _) rfl) zit), ?_⟩;have l1 : (Str.empty ++ z).length <= 100 := by rw [zfH]; show 0 + _ <= _; omega
   have l2 : (Str.empty ++ z ++ shw n).length <= 119 := by rw [zfH]; omega
   refine ⟨.ref a, rfl, by rw [sizeLine_eq]; omega, .int n, rfl, shw n, ht, by rw [sizeLine_eq]; omega, by rw [sizeLine_eq]; omega, a, C, rfl, ea, by rw [e4]; exact q1, ?_⟩;exact ⟨.int n, rfl, .ref a, rfl, a, C, true, rfl, ea, by rw [e4]; exact q1, by rw [e4]; exact q2, fun dx hd nd => kk dx hd nd⟩
  ·rename_i z p11 p12 a1 p13 c p14 y p15 p16;simp only [Bool.and_eq_true, decide_eq_true_eq] at g5;obtain ⟨⟨⟨z1, z2⟩, rfl⟩, rfl⟩ := g5;refine ⟨_, zeC (ze5 (zpG (by rw [e4]; exact q) gl (by rw [e3]; exact hm) (pv0 _) (zlC (ziT (zle (pv1 _) (ziT zkd (by rw [sizeLine_eq]; omega))) (by rw [sizeLine_eq]; omega))) g2 rfl rfl (zhM rfl g0 rfl))) (zeC (znr (pv0 _) (pv1 _) rfl) zit), ?_⟩;have l1 : (Str.empty ++ z).length <= 100 := by rw [zfH]; show 0 + _ <= _; omega
   have l2 : (Str.empty ++ z ++ shw n).length <= 119 := by rw [zfH]; omega
   have l3 : (Str.empty ++ z ++ shw n ++ y).length <= 219 := by rw [zfH]; omega
   refine ⟨.ref a, rfl, by rw [sizeLine_eq]; omega, .int n, rfl, shw n, ht, by rw [sizeLine_eq]; omega, by rw [sizeLine_eq]; omega, by rw [sizeLine_eq]; omega, a, C, rfl, ea, by rw [e4]; exact q1, ?_⟩;exact ⟨.int n, rfl, .ref a, rfl, a, C, true, rfl, ea, by rw [e4]; exact q1, by rw [e4]; exact q2, fun dx hd nd => kk dx hd nd⟩
  ·cases g5
 ·cases hc
section
variable {X : Cx} {Wx : XW} {pos : Pos}
def zfT (c : Str) (f : E) : S := fun env M => bndS (f env M) fun d M1 => match d with
 | .int n => if n.natAbs < 1000000000000000000 /\ 0 <= n then some (.ex c (n + 1), M1) else none   -- the number and one more: nought tells that there is none
 | _ => none
theorem zh3 {c : Str} {C fI : Addr} {fd : FuncData} {k : Nat} {e : Expr} {f : E} {p q : Pos} (F : XFit X Wx) (hc : X.calm = true) (m : X.mg c = some (.ref C)) (q1 : xcIn X.K C = true) (q2 : ziN X.K C fI = true) (q3 : zd6 X.K C "at" = true) (kp : PySem.W.keepIn X.K (.ref C) = true)
  (FO : FnOk X.prog X.w X.K X.mg X.base CX0 k fI fd ["self", "at"] (zqK X.K)) (hr : Room (k + 1) X.A) (hb : Binds X.K fd ["self", "at"] []) (hg : Gl X c) (he : SE X Wx .val e f) (hdb : (c == ("__debug__" : Str)) = false := by x_go)
  (hs : starEach [e] X.env = [(false, eval e X.env)] := by rfl) : SS X Wx (.Raise (some (.Call (.Name c p) [e] [] q)) none pos) (zfT c f) := by
 refine zcu (zjh (W := fun a C' dx H => C' = C /\ ∃ n P0 H0 P M, XN H n dx /\ ¬ P.bd a /\ H0 a = none /\ LtE P0 H0 P H /\ Hk X.K X.mg P H M /\ Wx P0 H0 M c n) (zq3 q1 q2 kp FO hr hg m hb (by decide) he hdb hs) hc fun pins σ H s a C' dx I ea ⟨e2, n, P0, H0, P, M, xn, b, nn, l, h, w⟩ => ?_) ?_
 ·subst e2;exact F.xr pins σ H s a _ dx c n P0 H0 P M I ea b nn l h m xn w
 ·rintro D st H ⟨P0, H0, P, Os, env, M, out, M', k, e, q⟩;unfold zfT at e;rcases za0 e with ⟨d, M1, e1, e⟩ | ⟨c, n, e1, rfl⟩
  ·split at e
   ·rename_i n;split at e
    ·rename_i hn;cases e;refine ⟨P0, H0, P, Os, env, M, _, _, k, e1, fun P1 v H1 l1 h1 i1 => fun a ha => ?_⟩;have ev : v = .int n := i1;subst ev;refine ⟨a, C, n, rfl, hn.1, zao, q1, q3, fun dx hd nd => ⟨rfl, a, C, some dx, rfl, zao, q1, rfl, n + 1, P0, H0, P1, _, ⟨[("at", .int n)], by rw [zal nd, zao], by rw [Int.add_sub_cancel]; rfl, by omega⟩, h1.new a ha, ?_, ?_, ?_, q⟩⟩
     ·exact k.base.sure a (l1.sure a ha)
     ·have sm : Same H1 (upd (upd (upd H1 a (xo a C none true)) dx (.xd [("at", .int n)])) a (xo a C (some dx) true)) := fun b o eb => by
       have n1 : b ≠ a := zan eb ha;rw [zal nd] at hd;rw [zal n1, zal (zan eb hd), zal n1];exact eb
      exact k.base.trans (l1.trans (LtE.same sm))
     ·have sm : Same H1 (upd (upd (upd H1 a (xo a C none true)) dx (.xd [("at", .int n)])) a (xo a C (some dx) true)) := fun b o eb => by
       have n1 : b ≠ a := zan eb ha;rw [zal nd] at hd;rw [zal n1, zal (zan eb hd), zal n1];exact eb
      exact h1.same sm
    ·cases e
   ·cases e
  ·exact ⟨P0, H0, P, Os, env, M, _, _, k, e1, q⟩
def sAtX (own : Str -> Bool) (i : Nat) : E := fun env M => match env[i]? with
 | some (.exc c n) => if own c = true /\ n ≠ 0 then some (.v (.int (n - 1)), M) else none
 | _ => none
theorem zrc {m : Mode} {i : Nat} {x : Str} {own : Str -> Bool} {p : Pos} (hN : X.N[i]? = some x) (hv : Vis X.env.scope x) (hx : ∀ c C, own c = true -> X.mg c = some (.ref C) -> zd6 X.K C "at" = true) (hd : (x == ("__debug__" : Str)) = false := by x_go) (hcd : (x == ("__classdict__" : Str)) = false := by x_go)
    (hb : attributeBase (.Name x p) "at" X.env (eval (.Name x p) X.env) = eval (.Name x p) X.env := by rfl) : SE X Wx m (.Attribute (.Name x p) "at" pos) (sAtX own i) := by
  refine zaP (zqG (zh7 hN hv hd hcd) hb) ?_;rintro st H Q ⟨P0, H0, P, Os, env, M, r, M', k, e, q⟩;unfold sAtX at e;split at e
  · rename_i c n es;split at e
    · rename_i hn;cases e;obtain ⟨v, sv, a, C, dx, rfl, mc, ea, qd⟩ := k.slot i _ es
      cases dx with
      | none => exact absurd qd hn.2
      | some d =>
        obtain ⟨fs, ed, el, _⟩ := qd;exact ⟨_, zcW sv, a, C, d, false, fs, .int (n - 1), rfl, ea, hx c C hn.1 mc, ed, el, q P _ H (LtE.same (Same.refl H)) k.hk (IsM.of k.hk (show Is _ _ _ (.int _) _ from rfl))⟩
    · cases e
  · cases e
end
theorem znh {K : Fgx} {C : Addr} {name : Str} (h1 : PySem.W.findIn K (.ref C) "__setattr__" = some (some (.builtin "object.__setattr__"))) (h2 : PySem.W.takerIn K C name = some none) (h3 : zhv K C = true) (h4 : PySem.W.hasDictIn K C = true) (h5 : PySem.W.findIn K (.ref C) name = some none) : zd6 K C name = true := by
 simp only [zd6, h1, h2, h3, h4, h5, beq_self_eq_true, Bool.and_self]
theorem zra {K : Fgx} {C : Addr} (h1 : PySem.W.specialIn K (.ref C) "__getattribute__" = some (some (.builtin "type.__getattribute__"))) (h2 : PySem.W.readsIn K C (.type "type") = true) (h3 : PySem.W.findCls K (.ref C) (.type "type") "__init__" = some (.val (.builtin "ValueError.__init__"))) : ziC K C = true := by
 simp only [ziC, h1, h2, h3, beq_self_eq_true, Bool.and_self]
section
variable {X : Cx} {Wx : XW} {pos : Pos}
def zj9 (f : E) (fs : EA) : E := fun env M => match f env M with
  | some (.v d, M1) => (match fs env M1 with
    | some (.v ds, M2) => if ds.length + 1 <= sizeLine then some (.v (.tup (d :: ds)), M2) else none
    | _ => none)
  | o => o
theorem zqz {e : Expr} {es : List Expr} {f : E} {fs : EA} {x1 : Nat} (h : SX X e f) (hr : SA X W0 .val es fs) (hs : starEach (e :: es) X.env = (false, eval e X.env) :: starEach es X.env := by rfl) :
  SX X (.Tuple (e :: es) x1 pos) (zj9 f fs) := by
 intro Ex hx;refine zaP (zmM (zdF (h Ex hx) hr hs)) ?_;rintro st H Q ⟨P0, H0, P, Os, env, M, r, M', k, e, q⟩;unfold zj9 at e;split at e
 ·rename_i d M1 ed;split at e
  ·rename_i ds M2 e2;split at e
   ·rename_i hl;cases e;refine ⟨P0, H0, P, Os, env, M, _, _, k, ed, fun P1 v1 H1 l1 h1 i1 => ?_⟩;refine ⟨P0, H0, P1, Os, env, M1, _, _, k.next l1 h1, e2, fun P2 vs H2 l2 h2 i2 => ⟨by rw [List.length_cons, i2.iss.len]; exact hl, fun p hp => ?_⟩⟩
    have s := zcn (o := .tup (v1 :: vs)) hp;exact q P2 _ _ ((l1.trans l2).trans (LtE.same s)) (h2.same s) ⟨p, _, rfl, .inl (.inl zao), _, _, rfl, Is.lt ((LtE.same s).lt h2) (Is.lt (l2.lt h1) i1), Iss.lt ((LtE.same s).lt h2) i2.iss⟩
   ·cases e
  ·cases e
 ·rename_i hne;refine ⟨P0, H0, P, Os, env, M, r, M', k, e, ?_⟩
  cases r with
  | v d => exact absurd e (hne d M')
  | x c n => exact q
end
section
variable {X : Cx} {Wx : XW} {m : Mode} {pos : Pos} {K : Fgx}
def zl9 : D -> D -> Option D
 | .tup xs, .tup ys => if xs.isEmpty = false /\ xs.length + ys.length <= sizeLine then some (.tup (xs ++ ys)) else none
 | _, _ => none
theorem zok : zeo K (zpA K) zl9 := fun P H d e z v w Q h h1 h2 hn q => by
 unfold zl9 at h;split at h
 ·rename_i xs ys;split at h
  ·rename_i hl;cases h;obtain ⟨a, vs, rfl, r1, s1⟩ := h1;obtain ⟨b, ws, rfl, r2, s2⟩ := h2;have n1 : vs ≠ [] := fun z => by
    have := s1.len;rw [z] at this;have h0 := hl.1
    cases xs with
    | nil => cases h0
    | cons _ _ => cases this
   refine ⟨a, b, vs, ws, rfl, rfl, r1, r2, n1, by rw [s1.len, s2.len]; exact hl.2, fun z => ?_, fun _ => ziF (s1.append s2) q⟩;have e2 := s2.len;rw [z] at e2;have : ys = [] := List.length_eq_zero_iff.mp e2.symm;subst this;rw [List.append_nil] at q;exact q _ H (Same.refl H) ⟨a, vs, rfl, r1, s1⟩
  ·cases h
 ·cases h
def slT (d : D) (lo hi : Option Int) : Option D := match d with
 | .tup ds => if HT.sIx ds.length 0 lo = 0 /\ HT.sIx ds.length ds.length hi = ds.length then none else some (.tup (cutL ds lo hi))
 | _ => none
def sSlT (f : E) (l h : Env -> Mm -> Option (Option Int × Mm)) : E := fun env M => bnd (f env M) fun d M1 => match l env M1 with
  | some (lo, M2) => (match h env M2 with
    | some (hi, M3) => (slT d lo hi).map fun z => (.v z, M3)
    | none => none)
  | none => none
theorem zrd {e : Expr} {lo hi : Option Expr} {p2 : Pos} {f : E} {l h : Env -> Mm -> Option (Option Int × Mm)} (he : SE X Wx .val e f) (hl : SP3 X lo l) (hh : SP3 X hi h) : SE X Wx m (.Subscript e (.Slice lo hi none p2) pos) (sSlT f l h) := by
 refine zaP (ziU zpb he hl hh) ?_;rintro st H Q ⟨P0, H0, P, Os, env, M, r, M', k, e, q⟩;unfold sSlT at e;rcases zaB e with ⟨d, M1, e1, e⟩ | ⟨c, n, e1, rfl⟩
 ·split at e
  ·rename_i lo' M2 el;split at e
   ·rename_i hi' M3 eh;rw [Option.map_eq_some_iff] at e;obtain ⟨z, ez, e⟩ := e;cases e;refine ⟨P0, H0, P, Os, env, M, _, _, k, e1, fun P1 v1 H1 l1 h1 i1 => ⟨P0, H0, P1, Os, env, M1, _, _, k.next l1 h1, el, fun P2 H2 l2 h2 => ⟨P0, H0, P2, Os, env, M2, _, _, (k.next l1 h1).next l2 h2, eh, fun P3 H3 l3 h3 => ?_⟩⟩⟩
    have i3 := Is.lt (l3.lt h2) (Is.lt (l2.lt h1) i1);have fin : ∀ u H', Same H3 H' -> Is X.K P3 H' z u -> Q u H' := fun u H' s i => q P3 u H' (l1.trans (l2.trans (l3.trans (LtE.same s)))) (h3.same s) (IsM.of (h3.same s) i);unfold slT at ez;split at ez
    ·split at ez
     ·cases ez
     ·rename_i hw;cases ez;obtain ⟨a, vs, rfl, r, s⟩ := i3;exact ⟨a, vs, rfl, r, by rw [s.len]; exact hw, ziF (zkF s) fin⟩
    ·cases ez
   ·cases e
  ·cases e
 ·exact ⟨P0, H0, P, Os, env, M, _, _, k, e1, q⟩
theorem Iss.rep {P : Pl} {H : Hp} {ds : List D} {vs : List V} (h : Iss K P H ds vs) : ∀ n : Nat, Iss K P H (List.replicate n ds).flatten (List.replicate n vs).flatten
  | 0 => rfl
  | n + 1 => by
    rw [List.replicate_succ, List.replicate_succ, List.flatten_cons, List.flatten_cons];exact h.append (Iss.rep h n)
def zkR (f g : E) : E := fun env M => bnd (f env M) fun d M1 => match d with
  | .lst ds => bnd (g env M1) fun e M2 => match e with
    | .int i => if i.natAbs <= 100000 /\ ds.length <= 100 then some (.v (.lst (List.replicate i.toNat ds).flatten), M2) else none
    | _ => none
  | _ => none
theorem zoC {a b : Expr} {f g : E} (hl : SN X Wx a f) (hr : SE X Wx .val b g) : SE X Wx m (.BinOp a .Mult b pos) (zkR f g) := by
 refine zaP (zrK zqQ hl hr) ?_;rintro st H Q ⟨P0, H0, P, Os, env, M, r, M', k, e, q⟩;unfold zkR at e;rcases zaB e with ⟨d, M1, e1, e⟩ | ⟨c, n, e1, rfl⟩
 ·split at e
  ·rename_i ds;refine ⟨P0, H0, P, Os, env, M, _, _, k, e1, ds, rfl, fun P1 a vs H1 l1 h1 ha ba nc ea is => ?_⟩;rcases zaB e with ⟨d2, M2, e2, e⟩ | ⟨c, n, e2, rfl⟩
   ·split at e
    ·rename_i i;split at e
     ·rename_i hi;cases e;refine ⟨P0, H0, P1, Os, env, M1, _, _, k.next l1 h1, e2, fun P2 v2 H2 l2 h2 i2 => ?_⟩
      have ev : v2 = .int i := i2;subst ev;have e3 := l2.keep a _ ea nc;have is2 := Iss.lt (l2.lt h1) is;have ln : vs.length = ds.length := is.len;refine ⟨a, i, vs, rfl, rfl, e3, by omega, by omega, ?_, zix h2.new (is2.rep _) fun u H' s z => q P2 u H' (l1.trans (l2.trans (LtE.same s))) (h2.same s) (IsM.of (h2.same s) z)⟩;rw [sizeLine_eq, ln];have : ds.length * i.toNat <= 100 * 100000 := Nat.mul_le_mul hi.2 (by omega);omega
     ·cases e
    ·cases e
   ·exact ⟨P0, H0, P1, Os, env, M1, _, _, k.next l1 h1, e2, q⟩
  ·cases e
 ·exact ⟨P0, H0, P, Os, env, M, _, _, k, e1, q⟩
end
section
variable {env : Env} {M : Mm} {f g : E} {d : D} {i : Int} {ds es : List D} {fa : EA} {x : Str} {k : Nat}
theorem zpv : zl9 (.tup ds) (.tup es) = if ds.isEmpty = false /\ ds.length + es.length <= sizeLine then some (.tup (ds ++ es)) else none := rfl
def slTH (d : D) (lo : Option Int) : Option (Option Int × Mm) -> O
 | some (hi, M3) => mapR M3 (slT d lo hi)
 | none => none
def slTL (d : D) (k : Mm -> Option (Option Int × Mm)) : Option (Option Int × Mm) -> O
 | some (lo, M2) => slTH d lo (k M2)
 | none => none
theorem ztx {l u : Env -> Mm -> Option (Option Int × Mm)} : sSlT f l u env M = bndK (fun d M1 => slTL d (u env) (l env M1)) (f env M) := by
  unfold sSlT;show bnd _ _ = bndK _ _;unfold bnd bndK
  cases f env M with
  | none => rfl
  | some r =>
    obtain ⟨r, M1⟩ := r
    cases r with
    | x c n => rfl
    | v d =>
      dsimp only
      cases l env M1 with
      | none => rfl
      | some p =>
        obtain ⟨lo, M2⟩ := p;dsimp only [slTL]
        cases u env M2 with
        | none => rfl
        | some p =>
          obtain ⟨hi, M3⟩ := p;dsimp only [slTH];cases slT d lo hi <;> rfl
theorem zrO {lo : Option Int} {q : Mm -> Option (Option Int × Mm)} : slTL d q (some (lo, M)) = slTH d lo (q M) := rfl
theorem zrI {lo hi : Option Int} : slTH d lo (some (hi, M)) = mapR M (slT d lo hi) := rfl
def repD (k : Mm -> O) (M : Mm) : D -> O
  | .lst ds => bndK (fun e M2 => match e with
    | .int i => if i.natAbs <= 100000 /\ ds.length <= 100 then some (.v (.lst (List.replicate i.toNat ds).flatten), M2) else none
    | _ => none) (k M)
  | _ => none
theorem zpc : zkR f g env M = bndK (fun d M1 => repD (g env) M1 d) (f env M) := by
  unfold zkR;show bnd _ _ = bndK _ _;unfold bnd bndK
  cases f env M with
  | none => rfl
  | some r =>
    obtain ⟨r, M1⟩ := r
    cases r with
    | x c n => rfl
    | v d => cases d <;> rfl
theorem zqW {q : Mm -> O} (h : q M = some (.v (.int i), M)) (hi : i.natAbs <= 100000 /\ ds.length <= 100) : repD q M (.lst ds) = some (.v (.lst (List.replicate i.toNat ds).flatten), M) := by
 unfold repD;rw [h];exact if_pos hi
def zlJ (q : Mm -> Option (ResA × Mm)) : O -> O
  | some (.v d, M1) => (match q M1 with
    | some (.v ds, M2) => if ds.length + 1 <= sizeLine then some (.v (.tup (d :: ds)), M2) else none
    | _ => none)
  | o => o
theorem zrJ : zj9 f fa env M = zlJ (fa env) (f env M) := by
  unfold zj9 zlJ
  cases f env M with
  | none => rfl
  | some r =>
    obtain ⟨r, M1⟩ := r;cases r <;> rfl
theorem zrp {q : Mm -> Option (ResA × Mm)} (h : q M = some (.v ds, M)) (hl : ds.length < 1000) : zlJ q (some (.v d, M)) = some (.v (.tup (d :: ds)), M) := by
 simp only [zlJ, h];rw [if_pos (by rw [sizeLine_eq]; omega)]
theorem znU {q : Mm -> Option (ResA × Mm)} : zlJ q (some (.x x i, M)) = some (.x x i, M) := rfl
def zpx (x : Str) (M : Mm) : D -> OS
 | .int n => if n.natAbs < 1000000000000000000 /\ 0 <= n then some (.ex x (n + 1), M) else none
 | _ => none
theorem zmr : zfT x f env M = bndT (fun d M1 => zpx x M1 d) (f env M) := rfl
theorem zjb {n : Nat} (h : n < 1000000) : zpx x M (.int n) = some (.ex x ((n : Int) + 1), M) := if_pos ⟨by omega, by omega⟩
def atXR (own : Str -> Bool) (M : Mm) : Option Slot -> O
 | some (.exc c n) => if own c = true /\ n ≠ 0 then some (.v (.int (n - 1)), M) else none
 | _ => none
theorem ztd {own : Str -> Bool} : sAtX own k env M = atXR own M env[k]? := by
 unfold sAtX atXR;rfl
theorem zsc {own : Str -> Bool} {n : Nat} (h : own x = true) : atXR own M (some (.exc x ((n : Int) + 1))) = some (.v (.int n), M) := by
 show (if own x = true /\ ((n : Int) + 1) ≠ 0 then some (Res.v (.int (((n : Int) + 1) - 1)), M) else none) = _
 rw [if_pos ⟨h, by omega⟩, Int.add_sub_cancel]
theorem zsv : bAll [.lst ds] = (zgi ds).map fun bs => .bl (bs.all id) := rfl
theorem zpW : bTup [.tup ds] = some (.tup ds) := rfl
end
end E3
namespace L2
open PySem PySem.Spec PyProof.Rows
end L2
namespace E3
open PySem PySem.Spec PyProof.Rows L2
section
variable {X : Cx} {Wx : XW} {m : Mode} {pos : Pos}
theorem zbK {k : Nat} {ss : List Stmt} {b : S} (hr : Room k X.A) (h : X.A.units + 60 < cLine -> SB X Wx ss b) : SB X Wx ss b := h (Nat.lt_of_le_of_lt (Nat.add_le_add_left (by decide) _) hr.units)
theorem zb0 {e : Expr} {es : List Expr} {x : Str} {id : String} {r : List V -> Hp -> VK -> Prop} {o : List D -> Option D} {fs : EA} {p : Pos} (hc : zdT X (.builtin id) r) (hg : Gl X x) (hm : X.mg x = none) (hv : bootBuiltins x = some (.builtin id)) (po : zgl X.K r o) (ha : SA X Wx .bor (e :: es) fs)
  (hn : x ≠ "__name__" := by x_go) (hdb : (x == ("__debug__" : Str)) = false := by x_go) (he : starEach (e :: es) X.env = (false, eval e X.env) :: starEach es X.env := by rfl) (hpl : (backTo pos (starEach es X.env)).any (·.1) = false := by rfl) : SE X Wx m (.Call (.Name x p) (e :: es) [] pos) (sN o fs) :=
 zqa (fun _ ha => zmd hc hg hm hv ha hn hdb he hpl) po ha
theorem zcf {e : Expr} {es : List Expr} {x : Str} {T : String} {r : List V -> Hp -> VK -> Prop} {o : List D -> Option D} {fs : EA} {p : Pos} (hc : zdT X (.type T) r) (hg : Gl X x) (hm : X.mg x = none) (hv : bootBuiltins x = some (.type T)) (po : zgl X.K r o) (ha : SA X Wx .bor (e :: es) fs)
  (hn : x ≠ "__name__" := by x_go) (hdb : (x == ("__debug__" : Str)) = false := by x_go) (he : starEach (e :: es) X.env = (false, eval e X.env) :: starEach es X.env := by rfl) (hpl : (backTo pos (starEach es X.env)).any (·.1) = false := by rfl) : SE X Wx m (.Call (.Name x p) (e :: es) [] pos) (sN o fs) :=
 zqa (fun _ ha => zkw hc hg hm hv ha hn hdb he hpl) po ha
end
section
variable (P : Program) (w : World) (K : Fgx) (mg : Mgx) (base : Heap) (k : Nat) (f : Addr) (N : List Str) (q : Str) (st : Stmt) (b : S)
abbrev RT : Prop := ∀ (cdv : Value) (A : Around) (outer : List PySem.Env) (s : Shared) (H : Hp) (E : XK), Room k (A.deeper (envOfC q (zah st) s.heap.objs.size f cdv)) -> SB (cx0 P w K mg base N q st f cdv A outer s H E) W0 (zaU st) b
abbrev RTX : Prop := ∀ (cdv : Value) (A : Around) (outer : List PySem.Env) (s : Shared) (H : Hp) (E : XK) (Wx : XW), Room k (A.deeper (envOfC q (zah st) s.heap.objs.size f cdv)) -> XFit (cxX P w K mg base N q st f cdv A outer s H E) Wx -> XPass (cxX P w K mg base N q st f cdv A outer s H E) Wx -> SB (cxX P w K mg base N q st f cdv A outer s H E) Wx (zaU st) b
end
theorem zbG {N P : List Str} {sc : Scope} (h1 : sc.kind = .function := by rfl) (h2 : sc.isCoroutine = false := by rfl) (h3 : sc.isGenerator = false := by rfl) (h4 : N.Nodup := by x_go) (h5 : N.take P.length = P := by rfl)
  (h6 : ∀ x ∈ P, sc.names.lookup x = some .local \/ sc.names.lookup x = some .cell := by x_go) (h7 : ∀ y ∈ sc.names, y.2 ≠ .free := by x_go) : FnScope N P sc := ⟨h1, h2, h3, h4, h5, h6, h7⟩
abbrev LV (st : Stmt) (x : Str) : Prop := (zah st).names.lookup x = some .local
abbrev LC (st : Stmt) (x : Str) : Prop := (zah st).names.lookup x = some .cell
structure DefAt (K : Fgx) (mg : Mgx) (x : Str) (st : Stmt) (ps : List Str) (f : Addr) (fd : FuncData) : Prop where
 mg : mg x = some (.ref f)
 F : FunD K x x st f fd
 b : Binds K fd ps []
theorem DefAt.ok {P : Program} {w : World} {K : Fgx} {mg : Mgx} {base : Heap} {k : Nat} {x : Str} {st : Stmt} {f : Addr} {fd : FuncData} {N ps : List Str} {b : S} (D : DefAt K mg x st ps f fd) (S : FnScope N ps (zah st)) (hr : RT P w K mg base k f N x st b) (hp : ps.length <= N.length := by decide) : AtG P w K mg base (k + 1) x ps.length (fnG N.length b) := zs3 D.F S hp D.mg D.b hr
def FAt (K : Fgx) (x : Str) (st : Stmt) : Prop := ∃ (f : Addr) (oc kV dc pm cd ct : Value) (od an : Option Addr) (sl : Array (Option Value)), PySem.W.nsIn K mainGlobals x = some (some (.ref f)) /\ K.lookup f = some ⟨oc, od, .func (PySem.W.fnOf x x (zbI st) (zaU st) (zah st) .none kV dc pm an cd ct), sl⟩ /\ PySem.W.codeIn K cd x = true /\ PySem.W.keepIn K (.ref f) = true
theorem FAt.mk {K : Fgx} {x : Str} {st : Stmt} {f : Addr} {oc kV dc pm cd ct : Value} {od an : Option Addr} {sl : Array (Option Value)} (a : PySem.W.nsIn K mainGlobals x = some (some (.ref f))) (l : K.lookup f = some ⟨oc, od, .func (PySem.W.fnOf x x (zbI st) (zaU st) (zah st) .none kV dc pm an cd ct), sl⟩) (c : PySem.W.codeIn K cd x = true) (k : PySem.W.keepIn K (.ref f) = true) : FAt K x st := ⟨f, oc, kV, dc, pm, cd, ct, od, an, sl, a, l, c, k⟩
theorem FAt.at {K : Fgx} {h : Heap} {mg : Mgx} {x : Str} {st : Stmt} {ps : List Str} (F : FAt K x st) (X : K.In h) (G : h.Ns mainGlobals mg)
  (hb : ∀ (kV doc pm : Value) (an : Option Addr) (cdv ct : Value) (us : List Value), us.length = ps.length -> bindArgs (PySem.W.fnOf x x (zbI st) (zaU st) (zah st) .none kV doc pm an cdv ct) ⟨us, []⟩ = pure (ps.zip us)) : ∃ f fd, DefAt K mg x st ps f fd := by
 obtain ⟨f, oc, kV, dc, pm, cd, ct, od, an, sl, a, l, c, k⟩ := F;exact ⟨f, _, PySem.W.mg_of X G a, zeW l c k, (zgI (st := st) l c k).binds hb⟩
end E3
namespace My
open PySem PySem.Spec PyProof.Rows L2 E3
def zda : List (Str × D) := [("+", (.tup [(.str "number"), (.str "number"), (.int 2)])), ("-", (.tup [(.str "number"), (.str "number"), (.int 2)])), ("*", (.tup [(.str "number"), (.str "number"), (.int 2)])), ("least", (.tup [(.str "number"), (.str "number"), (.int 2)])), ("most", (.tup [(.str "number"), (.str "number"), (.int 2)])), ("<", (.tup [(.str "truth"), (.str "number"), (.int 2)])), ("=", (.tup [(.str "truth"), (.str "number"), (.int 2)])), ("not", (.tup [(.str "truth"), (.str "truth"), (.int 1)])), ("and", (.tup [(.str "truth"), (.str "truth"), (.int 2)])), ("or", (.tup [(.str "truth"), (.str "truth"), (.int 2)]))]
def zc5 : List (Str × D) := [("in", (.int 0)), ("keep", (.int 1)), ("turn", (.int 1)), ("share", (.int 1)), ("pour", (.int 8)), ("fixed", (.int 1)), ("slide", (.int 1)), ("gap", (.int 1)), ("join", (.int 2)), ("out", (.int 1))]
def top (i : Nat) : Stmt := PySem.Challenge.pw_rowdam_k16_numbers_in_rows.main.body.getD i (.Pass ⟨0, 0, 0, 0⟩)
def blts : List Str := ["any", "len", "range", "reversed", "all", "int", "tuple", "enumerate", "str", "min"]
def zmg (s : Stmt) (j : Nat) : Stmt := match s with
 | .ClassDef _ _ _ body _ _ _ _ _ _ _ => body.getD j s
 | _ => s
structure Ad where
 Cond : Addr
 Expr : Addr
 DamError : Addr
 NoExpr : Addr
 NoName : Addr
 NoText : Addr
abbrev zbE : Stmt := zmg (top 3) 0
theorem zgn : FnScope ["self", "at"] ["self", "at"] (zah zbE) := ⟨rfl, rfl, rfl, by x_go, rfl, by x_go, by x_go⟩
abbrev zbB : Stmt := zmg (top 4) 0
theorem zgq : FnScope ["self", "at"] ["self", "at"] (zah zbB) := ⟨rfl, rfl, rfl, by x_go, rfl, by x_go, by x_go⟩
structure Txt (K : Fgx) (mg : Mgx) (C : Ad) (w : World) : Prop where
 blt : ∀ b ∈ blts, mg b = none
 cl_Cond : ClsOk K mg "Cond" C.Cond
 cl_Expr : ClsOk K mg "Expr" C.Expr
 na_Expr_parts : zfz K C.Expr "parts"
 na_Cond_parts : zfz K C.Cond "parts"
 xm_DamError : mg "DamError" = some (.ref C.DamError)
 xc_DamError : xcIn K C.DamError = true
 xm_NoExpr : mg "NoExpr" = some (.ref C.NoExpr)
 xc_NoExpr : xcIn K C.NoExpr = true
 xm_NoName : mg "NoName" = some (.ref C.NoName)
 xc_NoName : xcIn K C.NoName = true
 xm_NoText : mg "NoText" = some (.ref C.NoText)
 xc_NoText : xcIn K C.NoText = true
 xn_NoExpr : zlx K C.NoExpr = true
 xk_NoExpr : PySem.W.keepIn K (.ref C.NoExpr) = true
 xs_NoExpr : zhP K C.NoExpr = true
 xk_NoName : PySem.W.keepIn K (.ref C.NoName) = true
 xs_NoName : zhP K C.NoName = true
 xk_NoText : PySem.W.keepIn K (.ref C.NoText) = true
 xs_NoText : zhP K C.NoText = true
 qk_NoExpr_NoExpr : zeO K C.NoExpr C.NoExpr = true
 qk_NoText_NoText : zeO K C.NoText C.NoText = true
 xb_DamError : ziC K C.DamError = true
 xa_NoName : zd6 K C.NoName "at" = true
 o_NoName : ∃ f fd, ziN K C.NoName f = true /\ FunD K "__init__" "NoName.__init__" zbB f fd /\ Binds K fd ["self", "at"] []
 xa_NoText : zd6 K C.NoText "at" = true
 o_NoText : ∃ f fd, ziN K C.NoText f = true /\ FunD K "__init__" "NoText.__init__" zbE f fd /\ Binds K fd ["self", "at"] []
 k_ALL_LETTERS : ∃ a, mg "ALL_LETTERS" = some (.ref a) /\ ∀ P H, Is K P H (.tup [(.str "t"), (.str "v"), (.str "w")]) (.ref a)
 k_FOLDS : ∃ a, mg "FOLDS" = some (.ref a) /\ ∀ P H, Is K P H (.tup [(.str "sum"), (.str "count"), (.str "most"), (.str "least")]) (.ref a)
 k_NEEDS : ∃ a, mg "NEEDS" = some (.ref a) /\ KTab K w a zda
 k_FROMS : ∃ a, mg "FROMS" = some (.ref a) /\ KTab K w a zc5
 k_FIGURES : ∃ t, mg "FIGURES" = some (.str "0123456789" t)
 k_MOST_FIGURES : ∃ t, mg "MOST_FIGURES" = some (.int 20 t)
 k_LETTERS : ∃ t, mg "LETTERS" = some (.str "abcdefghijklmnopqrstuvwxyz" t)
 k_COND_LETTERS : ∃ t, mg "COND_LETTERS" = some (.str "tv" t)
 k_MOST_SIGNS : ∃ t, mg "MOST_SIGNS" = some (.int 12 t)
 k_MOST_SHARES : ∃ t, mg "MOST_SHARES" = some (.int 8 t)
 k_MOST_SPREAD : ∃ t, mg "MOST_SPREAD" = some (.int 8 t)
 k_MOST_SPAN : ∃ t, mg "MOST_SPAN" = some (.int 1000000000000 t)
structure MetAt (K : Fgx) (C : Addr) (x q : Str) (st : Stmt) (ps : List Str) (f : Addr) (fd : FuncData) : Prop where
 M : Meth K C x f
 F : FunD K x q st f fd
 b : Binds K fd ps []
structure IniAt (K : Fgx) (C : Addr) (q : Str) (st : Stmt) (ps : List Str) (f : Addr) (fd : FuncData) : Prop where
 M : Mk K C f
 F : FunD K "__init__" q st f fd
 b : Binds K fd ps []
structure MetAtD (K : Fgx) (C : Addr) (x q : Str) (st : Stmt) (ps : List Str) (dd : List D) (f : Addr) (fd : FuncData) : Prop where
 M : Meth K C x f
 F : FunD K x q st f fd
 b : Binds K fd ps []
 bd : ∃ (dv : List V) (du : List Value), Binds K fd ps du /\ Vals dv du /\ (∀ P H, Iss K P H dd dv) /\ dv.length = dd.length
def zky (c : Str) : Bool := if c = "NoName" then true else if c = "NoText" then true else false
theorem zkk {K : Fgx} {mg : Mgx} {C : Ad} {w : World} (T : Txt K mg C w) : ∀ c D, zky c = true -> mg c = some (.ref D) -> zd6 K D "at" = true := by
 intro c D h m;unfold zky at h;split at h
 ·rename_i e; subst e; cases (T.xm_NoName).symm.trans m; exact T.xa_NoName
 split at h
 ·rename_i e; subst e; cases (T.xm_NoText).symm.trans m; exact T.xa_NoText
 cases h
def zdW (c : Str) : Bool := if c = "NoExpr" then true else false
theorem zeG {K : Fgx} {mg : Mgx} {C : Ad} {w : World} (T : Txt K mg C w) : ∀ c, zdW c = true -> ∃ D, mg c = some (.ref D) /\ xcIn K D = true /\ zeO K D C.NoExpr = true := by
 intro c h;unfold zdW at h;split at h
 ·rename_i e; subst e; exact ⟨_, T.xm_NoExpr, T.xc_NoExpr, T.qk_NoExpr_NoExpr⟩
 cases h
def zdU (c : Str) : Bool := if c = "NoText" then true else false
theorem zhj {K : Fgx} {mg : Mgx} {C : Ad} {w : World} (T : Txt K mg C w) : ∀ c, zdU c = true -> ∃ D, mg c = some (.ref D) /\ xcIn K D = true /\ zeO K D C.NoText = true := by
 intro c h;unfold zdU at h;split at h
 ·rename_i e; subst e; exact ⟨_, T.xm_NoText, T.xc_NoText, T.qk_NoText_NoText⟩
 cases h
abbrev zcp : Stmt := top 9
theorem zeK : FnScope ["text"] ["text"] (zah zcp) := zbG
theorem zbA : LV zcp "text" := by kernel_rfl
def zc0 : E := (s2 (oCmp .notin) (sVar 0) (sCon (.str "0123456789")))
def zcX : S := (sSeq (sIf (sOr (s2 (oCmp .eq) (sVar 0) (sCon (.str ""))) (sTru (sN bAny (zad (zfk [] (iTx (sVar 0)) (sCon (.bl true)) zc0) sNil)))) (sSeq (sRet (sCon (.bl false))) sEnd) sEnd) (sSeq (sRet (sOr (s2 (oCmp .eq) (sVar 0) (sCon (.str "0"))) (s2 (oCmp .ne) (s2 oIx (sVar 0) (sCon (.int 0))) (sCon (.str "0"))))) sEnd))
def zbs : G := fnG 1 zcX
abbrev zaI : Stmt := top 10
theorem zcy : FnScope ["text", "figures"] ["text"] (zah zaI) := zbG
theorem zaN : LV zaI "text" := by kernel_rfl
theorem zbw : LV zaI "figures" := by kernel_rfl
def zbe : S := (sSeq (sAsg 1 (sIte (sTru (sMt zhm (sVar 0) (zad (sCon (.str "-")) sNil))) (sSl (sVar 0) (pAt (sCon (.int 1))) pNo) (sVar 0))) (sSeq (sRet (sAnd (s2 (oCmp .ne) (sVar 0) (sCon (.str "-0"))) (zaO zbs (zad (sVar 1) sNil)))) sEnd))
def zaS : G := fnG 2 zbe
abbrev zdh : Stmt := top 11
theorem zf7 : FnScope ["text"] ["text"] (zah zdh) := zbG
theorem zdM : LV zdh "text" := by kernel_rfl
def zd5 : S := (sSeq (sRet (sAnd (s2 (oCmp .le) (sN bLen (zad (sVar 0) sNil)) (sCon (.int 20))) (zaO zbs (zad (sVar 0) sNil)))) sEnd)
def zdd : G := fnG 1 zd5
abbrev zcC : Stmt := top 12
theorem zff : FnScope ["text"] ["text"] (zah zcC) := zbG
theorem zdu : LV zcC "text" := by kernel_rfl
def zdn : S := (sSeq (sRet (sAnd (zaO zaS (zad (sVar 0) sNil)) (s2 (oCmp .le) (sN bLen (zad (sMt zhp (sVar 0) (zad (sCon (.str "-")) sNil)) sNil)) (sCon (.int 20))))) sEnd)
def zcK : G := fnG 1 zdn
abbrev zde : Stmt := top 18
theorem zgN : FnScope ["word", "letters"] ["word", "letters"] (zah zde) := zbG
theorem zc2 : LV zde "word" := by kernel_rfl
theorem ze0 : LV zde "letters" := by kernel_rfl
def zeH : S := (sSeq (sRet (sOr (zaO zcK (zad (sVar 0) sNil)) (sAnd (s2 (oCmp .isin) (sVar 0) (sCon (.tup [(.str "t"), (.str "v"), (.str "w")]))) (s2 (oCmp .isin) (sVar 0) (sVar 1))))) sEnd)
def zdN : G := fnG 2 zeH
abbrev zaZ : Stmt := top 19
theorem zee : FnScope ["word", "kinds", "needed", "place"] ["word", "kinds"] (zah zaZ) := zbG
theorem zcS : LV zaZ "word" := by kernel_rfl
theorem zcH : LV zaZ "kinds" := by kernel_rfl
theorem zbJ : LV zaZ "needed" := by kernel_rfl
theorem zej : LV zaZ "place" := by kernel_rfl
def zcF : S := (sSeq (sIf (sOr (sNot (sTru (sVar 1))) (s2 (oCmp .ne) (sPop (sVar 1)) (s2 oIx (sVar 2) (sCon (.int 1))))) (sSeq (zeN "NoExpr" (sFst (jVal (sVar 0) (jCon " needs other words behind it" jEnd)))) sEnd) sEnd) sEnd)
def zcB : S := (sSeq (sAsg 2 (zik zda (sVar 0))) (sSeq (sFor 3 (zhk (zad (s2 oIx (sVar 2) (sCon (.int 2))) sNil)) zcF) sEnd))
def zbF : G := fnG 4 zcB
abbrev zaQ : Stmt := top 20
theorem zed : FnScope ["words", "letters", "wanted", "kinds", "word"] ["words", "letters", "wanted"] (zah zaQ) := zbG
theorem zeB : LV zaQ "words" := by kernel_rfl
theorem zdJ : LV zaQ "letters" := by kernel_rfl
theorem zd7 : LV zaQ "wanted" := by kernel_rfl
theorem zaT : LV zaQ "kinds" := by kernel_rfl
theorem zaM : LV zaQ "word" := by kernel_rfl
def zaL : S := (sSeq (sIf (sKIn true zda (sVar 4)) (sSeq (zgk (zeb zbF (zad (sVar 4) (zad (sVar 3) sNil)))) (sSeq (zjV (sVar 3) (s2 oIx (zik zda (sVar 4)) (sCon (.int 0)))) sEnd)) (sSeq (sIf (sTru (zaO zdN (zad (sVar 4) (zad (sVar 1) sNil)))) (sSeq (zjV (sVar 3) (sCon (.str "number"))) sEnd) (sSeq (zeN "NoExpr" (sFst (jRep (sVar 4) (jCon " may not stand here" jEnd)))) sEnd)) sEnd)) sEnd)
def zcz : S := (sSeq (sAsg 3 (zj5 (sLst sNil))) (sSeq (sFor 4 (iRvT (zad (sVar 0) sNil)) zaL) (sSeq (sIf (s2 (oCmp .ne) (sVar 3) (sLst (zad (sVar 2) sNil))) (sSeq (zeN "NoExpr" (sCon (.str "too many words, or too few"))) sEnd) sEnd) sEnd)))
def za1 : G := fnG 5 zcz
abbrev zaz : Stmt := zmg (top 21) 0
theorem zdv : FnScope ["self", "words"] ["self", "words"] (zah zaz) := zbG
theorem zd9 : LV zaz "self" := by kernel_rfl
theorem zdQ : LV zaz "words" := by kernel_rfl
def zb6 : S := (sSeq (zjU "Expr" "parts" (sVar 0) (sN bTup (zad (sVar 1) sNil))) sEnd)
def zbv : G := fnG 2 zb6
abbrev zcg : Stmt := top 23
theorem zfi : FnScope ["words", "letters"] ["words", "letters"] (zah zcg) := zbG
theorem zc6 : LV zcg "words" := by kernel_rfl
theorem zez : LV zcg "letters" := by kernel_rfl
def zcM : S := (sSeq (zgk (zeb za1 (zad (sVar 0) (zad (sVar 1) (zad (sCon (.str "number")) sNil))))) (sSeq (sRet (zjP "Expr" zbv (zad (sVar 0) sNil))) sEnd))
def zbV : G := fnG 2 zcM
abbrev zay : Stmt := zmg (top 22) 0
theorem zdr : FnScope ["self", "words"] ["self", "words"] (zah zay) := zbG
theorem zd8 : LV zay "self" := by kernel_rfl
theorem zdG : LV zay "words" := by kernel_rfl
def zb3 : S := (sSeq (zjU "Cond" "parts" (sVar 0) (sN bTup (zad (sVar 1) sNil))) sEnd)
def zbn : G := fnG 2 zb3
abbrev zcO : Stmt := top 24
theorem zfb : FnScope ["words"] ["words"] (zah zcO) := zbG
theorem zc7 : LV zcO "words" := by kernel_rfl
def zcE : S := (sSeq (zgk (zeb za1 (zad (sVar 0) (zad (sCon (.str "tv")) (zad (sCon (.str "truth")) sNil))))) (sSeq (sRet (zjP "Cond" zbn (zad (sVar 0) sNil))) sEnd))
def zbU : G := fnG 1 zcE
abbrev zdO : Stmt := top 32
theorem zgz : FnScope ["text"] ["text"] (zah zdO) := zbG
theorem zc1 : LV zdO "text" := by kernel_rfl
def zex : E := (sOr (s2 (oCmp .isin) (sVar 0) (sCon (.str "abcdefghijklmnopqrstuvwxyz"))) (s2 (oCmp .isin) (sVar 0) (sCon (.str "0123456789"))))
def zeM : S := (sSeq (sIf (sOr (sNot (sChn .le .le (sCon (.int 1)) (sN bLen (zad (sVar 0) sNil)) (sCon (.int 12)))) (s2 (oCmp .notin) (s2 oIx (sVar 0) (sCon (.int 0))) (sCon (.str "abcdefghijklmnopqrstuvwxyz")))) (sSeq (sRet (sCon (.bl false))) sEnd) sEnd) (sSeq (sRet (sN bAll (zad (zfk [] (iTx (sVar 0)) (sCon (.bl true)) zex) sNil))) sEnd))
def zdL : G := fnG 1 zeM
abbrev zaG : Stmt := top 33
theorem zcU : FnScope ["text", "least", "most"] ["text", "least", "most"] (zah zaG) := zbG
theorem zcc : LV zaG "text" := by kernel_rfl
theorem zdk : LV zaG "least" := by kernel_rfl
theorem zdC : LV zaG "most" := by kernel_rfl
def zbz : S := (sSeq (sRet (sAnd (zaO zdd (zad (sVar 0) sNil)) (sChn .le .le (sVar 1) (sN bInt (zad (sVar 0) sNil)) (sVar 2)))) sEnd)
def zaq : G := fnG 3 zbz
abbrev zdg : Stmt := top 34
theorem zgK : FnScope ["words", "letters"] ["words", "letters"] (zah zdg) := zbG
theorem zfS : LV zdg "words" := by kernel_rfl
theorem zeX : LV zdg "letters" := by kernel_rfl
def zes : S := (zgk (zeb zbV (zad (sVar 0) (zad (sVar 1) sNil))))
def zga : S := (sSeq (sRet (sCon (.bl false))) sEnd)
def zdI : S := (sSeq (zhY zdW zes zga) (sSeq (sRet (sCon (.bl true))) sEnd))
def zcq : G := fnG 2 zdI
abbrev zdP : Stmt := top 35
theorem zgv : FnScope ["words"] ["words"] (zah zdP) := zbG
theorem zfW : LV zdP "words" := by kernel_rfl
def zep : S := (zgk (zeb zbU (zad (sVar 0) sNil)))
def zft : S := (sSeq (sRet (sCon (.bl false))) sEnd)
def zdR : S := (sSeq (zhY zdW zep zft) (sSeq (sRet (sCon (.bl true))) sEnd))
def zdb : G := fnG 1 zdR
abbrev zbx : Stmt := top 36
theorem zdy : FnScope ["rest"] ["rest"] (zah zbx) := zbG
theorem za5 : LV zbx "rest" := by kernel_rfl
def zb5 : S := (sSeq (sIf (sOr (s2 (oCmp .ne) (sN bLen (zad (sVar 0) sNil)) (sCon (.int 2))) (sNot (sTru (zaO zaq (zad (s2 oIx (sVar 0) (sCon (.int 1))) (zad (sCon (.int 1)) (zad (sCon (.int 8)) sNil))))))) (sSeq (sRet (sCon (.bl false))) sEnd) sEnd) (sSeq (sRet (zaO zaq (zad (s2 oIx (sVar 0) (sCon (.int 0))) (zad (sCon (.int 0)) (zad (s2 oSub (sN bInt (zad (s2 oIx (sVar 0) (sCon (.int 1))) sNil)) (sCon (.int 1))) sNil))))) sEnd))
def zbm : G := fnG 1 zb5
abbrev zbo : Stmt := top 37
theorem zdz : FnScope ["rest"] ["rest"] (zah zbo) := zbG
theorem zbH : LV zbo "rest" := by kernel_rfl
def zb2 : S := (sSeq (sRet (sAnd (s2 (oCmp .eq) (sN bLen (zad (sVar 0) sNil)) (sCon (.int 2))) (sAnd (zaO zaq (zad (s2 oIx (sVar 0) (sCon (.int 0))) (zad (sCon (.int 1)) (zad (sCon (.int 1000000000000)) sNil)))) (s2 (oCmp .isin) (s2 oIx (sVar 0) (sCon (.int 1))) (sCon (.tup [(.str "sum"), (.str "count"), (.str "most"), (.str "least")])))))) sEnd)
def zaV : G := fnG 1 zb2
abbrev zba : Stmt := top 38
theorem zdx : FnScope ["rest", "width"] ["rest"] (zah zba) := zbG
theorem zaC : LV zba "rest" := by kernel_rfl
theorem zbu : LV zba "width" := by kernel_rfl
def zcb : S := (sSeq (sIf (sOr (s2 (oCmp .ne) (sN bLen (zad (sVar 0) sNil)) (sCon (.int 3))) (sNot (sTru (zaO zaV (zad (sTup (zad (s2 oIx (sVar 0) (sCon (.int 0))) (zad (s2 oIx (sVar 0) (sCon (.int 2))) sNil))) sNil))))) (sSeq (sRet (sCon (.bl false))) sEnd) sEnd) (sSeq (sAsg 1 (sN bInt (zad (s2 oIx (sVar 0) (sCon (.int 0))) sNil))) (sSeq (sRet (sAnd (zaO zaq (zad (s2 oIx (sVar 0) (sCon (.int 1))) (zad (sCon (.int 1)) (zad (sVar 1) sNil)))) (s2 (oCmp .le) (sVar 1) (s2 oMul (sCon (.int 8)) (sN bInt (zad (s2 oIx (sVar 0) (sCon (.int 1))) sNil)))))) sEnd)))
def zbr : G := fnG 2 zcb
abbrev zbN : Stmt := top 39
theorem zdK : FnScope ["rest"] ["rest"] (zah zbN) := zbG
theorem zbT : LV zbN "rest" := by kernel_rfl
def zcm : S := (sSeq (sIf (sOr (s2 (oCmp .lt) (sN bLen (zad (sVar 0) sNil)) (sCon (.int 1))) (sNot (sTru (zaO zaq (zad (s2 oIx (sVar 0) (sCon (.int 0))) (zad (sCon (.int 0)) (zad (sCon (.int 1000000000000)) sNil))))))) (sSeq (sRet (sCon (.bl false))) sEnd) sEnd) (sSeq (sRet (zaO zcq (zad (sSlT (sVar 0) (pAt (sCon (.int 1))) pNo) (zad (sCon (.str "tvw")) sNil)))) sEnd))
def zbO : G := fnG 1 zcm
abbrev zbZ : Stmt := top 40
theorem zeT : FnScope ["word", "rest"] ["word", "rest"] (zah zbZ) := zbG
theorem zaR : LV zbZ "word" := by kernel_rfl
theorem zaH : LV zbZ "rest" := by kernel_rfl
def zcR : S := (sSeq (sIf (s2 (oCmp .eq) (sVar 0) (sCon (.str "keep"))) (sSeq (sRet (zaO zdb (zad (sVar 1) sNil))) sEnd) sEnd) (sSeq (sIf (s2 (oCmp .eq) (sVar 0) (sCon (.str "turn"))) (sSeq (sRet (zaO zcq (zad (sVar 1) (zad (sCon (.str "tv")) sNil)))) sEnd) sEnd) (sSeq (sIf (s2 (oCmp .eq) (sVar 0) (sCon (.str "share"))) (sSeq (sRet (zaO zbm (zad (sVar 1) sNil))) sEnd) sEnd) (sSeq (sIf (s2 (oCmp .eq) (sVar 0) (sCon (.str "slide"))) (sSeq (sRet (zaO zbr (zad (sVar 1) sNil))) sEnd) sEnd) (sSeq (sIf (s2 (oCmp .isin) (sVar 0) (sTup (zad (sCon (.str "fixed")) (zad (sCon (.str "gap")) sNil)))) (sSeq (sRet (zaO zaV (zad (sVar 1) sNil))) sEnd) sEnd) (sSeq (sIf (s2 (oCmp .eq) (sVar 0) (sCon (.str "join"))) (sSeq (sRet (zaO zbO (zad (sVar 1) sNil))) sEnd) sEnd) (sSeq (sRet (s2 (oCmp .eq) (sVar 1) (sTup sNil))) sEnd)))))))
def zcr : G := fnG 2 zcR
abbrev zdZ : Stmt := top 41
theorem zh5 : FnScope ["words", "behind"] ["words"] (zah zdZ) := zbG
theorem zbQ : LV zdZ "words" := by kernel_rfl
theorem zcG : LV zdZ "behind" := by kernel_rfl
def zfp : S := (sSeq (sAsg 1 (s2 oAdd (sCon (.int 2)) (zik zc5 (s2 oIx (sVar 0) (sCon (.int 0)))))) (sSeq (sRet (sTup (zad (s2 oIx (sVar 0) (sCon (.int 0))) (zad (s2 oIx (sVar 0) (sCon (.int 1))) (zad (sN bTup (zad (sSl (sVar 0) (pAt (sCon (.int 2))) (pAt (sVar 1))) sNil)) (zad (sN bTup (zad (sSl (sVar 0) (pAt (sVar 1)) pNo) sNil)) sNil)))))) sEnd))
def zdl : G := fnG 2 zfp
abbrev zbt : Stmt := top 42
theorem zdw : FnScope ["row"] ["row"] (zah zbt) := zbG
theorem zbg : LV zbt "row" := by kernel_rfl
def zb4 : S := (sSeq (sIf (s2 (oCmp .eq) (s2 oIx (sVar 0) (sCon (.int 0))) (sCon (.str "pour"))) (sSeq (sRet (s2 (oCmp .ge) (sN bLen (zad (s2 oIx (sVar 0) (sCon (.int 2))) sNil)) (sCon (.int 2)))) sEnd) sEnd) (sSeq (sRet (s2 (oCmp .eq) (sN bLen (zad (s2 oIx (sVar 0) (sCon (.int 2))) sNil)) (zik zc5 (s2 oIx (sVar 0) (sCon (.int 0)))))) sEnd))
def zbp : G := fnG 1 zb4
abbrev zd2 : Stmt := top 43
theorem zhO : FnScope ["words", "row"] ["words"] (zah zd2) := zbG
theorem zc3 : LV zd2 "words" := by kernel_rfl
theorem zb1 : LV zd2 "row" := by kernel_rfl
def zdY : E := (zaO zdL (zad (sVar 0) sNil))
def zeL : S := (sSeq (sIf (sOr (s2 (oCmp .lt) (sN bLen (zad (sVar 0) sNil)) (sCon (.int 2))) (sKIn false zc5 (s2 oIx (sVar 0) (sCon (.int 0))))) (sSeq (sRet (sCon (.bl false))) sEnd) sEnd) (sSeq (sAsg 1 (zaO zdl (zad (sVar 0) sNil))) (sSeq (sIf (sOr (sNot (sTru (zaO zbp (zad (sVar 1) sNil)))) (sNot (sTru (sN bAll (zad (zfk [] (iTp (s2 zl9 (sTup (zad (s2 oIx (sVar 1) (sCon (.int 1))) sNil)) (s2 oIx (sVar 1) (sCon (.int 2))))) (sCon (.bl true)) zdY) sNil))))) (sSeq (sRet (sCon (.bl false))) sEnd) sEnd) (sSeq (sRet (zaO zcr (zad (s2 oIx (sVar 1) (sCon (.int 0))) (zad (s2 oIx (sVar 1) (sCon (.int 3))) sNil)))) sEnd))))
def zd4 : G := fnG 2 zeL
abbrev za8 : Stmt := top 44
theorem zdA : FnScope ["row", "words_above"] ["row", "words_above"] (zah za8) := zbG
theorem zcN : LV za8 "row" := by kernel_rfl
theorem zcP : LC za8 "words_above" := by kernel_rfl
def zbC : E := (s2 (oCmp .ne) (zgD (sVar 1) (sVar 0) (sCon (.str "out"))) (sCon (.str "out")))
def zb7 : S := (sSeq (sIf (sDIn true (s2 oIx (sVar 0) (sCon (.int 1))) (sVar 1)) (sSeq (sRet (sCon (.bl false))) sEnd) sEnd) (sSeq (sRet (sN bAll (zad (zfk [("words_above", 1)] (iTp (s2 oIx (sVar 0) (sCon (.int 2)))) (sCon (.bl true)) zbC) sNil))) sEnd))
def zbl : G := fnG 2 zb7
abbrev zaK : Stmt := top 45
theorem zeU : FnScope ["text", "works", "words_above", "at", "line", "words", "row"] ["text"] (zah zaK) := zbG
theorem ze1 : LV zaK "text" := by kernel_rfl
theorem zca : LV zaK "works" := by kernel_rfl
theorem za9 : LV zaK "words_above" := by kernel_rfl
theorem zcQ : LV zaK "at" := by kernel_rfl
theorem zdi : LV zaK "line" := by kernel_rfl
theorem zb8 : LV zaK "words" := by kernel_rfl
theorem zbi : LV zaK "row" := by kernel_rfl
def za3 : S := (sSeq (sAsg 5 (sMt zgV (sVar 4) (zad (sCon (.str " ")) sNil))) (sSeq (sIf (sNot (sTru (zaO zd4 (zad (sVar 5) sNil)))) (sSeq (zfT "NoText" (sVar 3)) sEnd) sEnd) (sSeq (sAsg 6 (zaO zdl (zad (sVar 5) sNil))) (sSeq (sIf (sNot (sTru (zaO zbl (zad (sVar 6) (zad (sVar 2) sNil))))) (sSeq (zfT "NoName" (sVar 3)) sEnd) sEnd) (sSeq (zij (sVar 2) (s2 oIx (sVar 6) (sCon (.int 1))) (s2 oIx (sVar 6) (sCon (.int 0)))) (sSeq (sApp 1 (sVar 6)) sEnd))))))
def zcV : S := (sSeq (zjN 1 (sLst sNil)) (sSeq (sAsg 2 (sDct pNil)) (sSeq (zjZ [3, 4] (zad (sMt zgV (sVar 0) (zad (sCon (.str "\n")) sNil)) sNil) za3) (sSeq (sFrz 1) (sSeq (sRet (sVar 1)) sEnd)))))
def zcv : G := fnG 7 zcV
abbrev zcA : Stmt := top 47
theorem zia : FnScope ["_law_number_here", "_law_many", "_law_found", "_law_x", "_law_k"] ["_law_number_here", "_law_many"] (zah zcA) := zbG
theorem zdH : LV zcA "_law_number_here" := by kernel_rfl
theorem zgp : LV zcA "_law_many" := by kernel_rfl
theorem zcJ : LV zcA "_law_found" := by kernel_rfl
theorem zci : LV zcA "_law_x" := by kernel_rfl
theorem zf9 : LV zcA "_law_k" := by kernel_rfl
def zdV : S := (sSeq (sAsg 3 (s2 oMod (s2 oAdd (s2 oAdd (s2 oAdd (s2 oMul (sVar 3) (sVar 3)) (s2 oMul (sCon (.int 40692)) (sVar 3))) (s2 oMul (sCon (.int 2)) (sVar 4))) (sCon (.int 1))) (sCon (.int 2147483629)))) (sSeq (sApp 2 (s2 zjL (sVar 3) (sCon (.int 3)))) sEnd))
def zfr : S := (sSeq (zjN 2 (sLst sNil)) (sSeq (sAsg 3 (s2 oMod (sVar 0) (sCon (.int 2147483629)))) (sSeq (sFor 4 (zhk (zad (sVar 1) sNil)) zdV) (sSeq (sFrz 2) (sSeq (sRet (sVar 2)) sEnd)))))
def zdX : G := fnG 5 zfr
abbrev zcD : Stmt := top 48
theorem zgu : FnScope ["_law_x", "_law_cell", "_law_some"] ["_law_x", "_law_cell"] (zah zcD) := zbG
theorem zbY : LV zcD "_law_x" := by kernel_rfl
theorem zcI : LV zcD "_law_cell" := by kernel_rfl
theorem zbc : LV zcD "_law_some" := by kernel_rfl
def zeP : S := (sSeq (sAsg 2 (sLst (zad (sCon (.str "0")) (zad (sCon (.str "1")) (zad (sCon (.str "2")) (zad (sCon (.str "7")) (zad (sCon (.str "8")) (zad (sCon (.str "9")) (zad (sN bStr (zad (s2 oSub (s2 oPow (sCon (.int 10)) (sCon (.int 12))) (sCon (.int 1))) sNil)) (zad (sN bStr (zad (s2 oPow (sCon (.int 10)) (sCon (.int 12))) sNil)) (zad (sN bStr (zad (s2 oAdd (s2 oPow (sCon (.int 10)) (sCon (.int 12))) (sCon (.int 1))) sNil)) (zad (sCon (.str "01")) (zad (sCon (.str "-1")) (zad (sCon (.str "")) sNil)))))))))))))) (sSeq (sAsg 2 (s2 oAdd (sVar 2) (sLst (zad (sCon (.str "x")) (zad (s2 oRep (sCon (.str "9")) (s2 oAdd (sCon (.int 19)) (s2 oMod (s2 zjL (sVar 0) (sCon (.int 29))) (sCon (.int 3))))) (zad (s2 oRep (sCon (.str "9")) (s2 oAdd (sCon (.int 4390)) (s2 oMod (s2 zjL (sVar 0) (sCon (.int 29))) (sCon (.int 30))))) (zad (sCon (.str "+3")) (zad (sCon (.str "1 ")) (zad (sCon (.str "00")) (zad (sCon (.str "-0")) (zad (sCon (.str "3.0")) sNil))))))))))) (sSeq (sAsg 2 (s2 oAdd (sVar 2) (sLst (zad (sN bStr (zad (s2 oMod (s2 oAdd (sVar 1) (sVar 0)) (s2 oAdd (s2 oPow (sCon (.int 10)) (sCon (.int 12))) (sCon (.int 1)))) sNil)) (zad (sN bStr (zad (s2 oMod (s2 oAdd (sVar 1) (sVar 0)) (sCon (.int 20))) sNil)) (zad (sN bStr (zad (s2 oMod (s2 oAdd (sVar 1) (sVar 0)) (sCon (.int 9))) sNil)) sNil)))))) (sSeq (sRet (s2 oIx (sVar 2) (s2 oMod (sVar 0) (sCon (.int 23))))) sEnd))))
def zdf : G := fnG 3 zeP
abbrev zd3 : Stmt := top 49
theorem zhN : FnScope ["_law_word", "_law_sign"] ["_law_word"] (zah zd3) := zbG
theorem zbj : LV zd3 "_law_word" := by kernel_rfl
theorem zeg : LV zd3 "_law_sign" := by kernel_rfl
def zc4 : S := (sSeq (sIf (s2 (oCmp .notin) (sVar 1) (sCon (.str "0123456789"))) (sSeq (sRet (s1 oNeg (sCon (.int 1)))) sEnd) sEnd) sEnd)
def zfs : S := (sSeq (sIf (sOr (s2 (oCmp .eq) (sVar 0) (sCon (.str ""))) (sOr (s2 (oCmp .gt) (sN bLen (zad (sVar 0) sNil)) (sCon (.int 20))) (sAnd (s2 (oCmp .gt) (sN bLen (zad (sVar 0) sNil)) (sCon (.int 1))) (s2 (oCmp .eq) (s2 oIx (sVar 0) (sCon (.int 0))) (sCon (.str "0")))))) (sSeq (sRet (s1 oNeg (sCon (.int 1)))) sEnd) sEnd) (sSeq (sFor 1 (iTx (sVar 0)) zc4) (sSeq (sRet (sN bInt (zad (sVar 0) sNil))) sEnd)))
def zaX : G := fnG 2 zfs
abbrev zek : Stmt := top 50
theorem zi7 : FnScope ["_law_word", "_law_x", "_law_worth_here"] ["_law_word", "_law_x"] (zah zek) := zbG
theorem zeQ : LV zek "_law_word" := by kernel_rfl
theorem zjw : LV zek "_law_x" := by kernel_rfl
theorem zau : LV zek "_law_worth_here" := by kernel_rfl
def zf1 : S := (sSeq (sAsg 2 (zaO zaX (zad (sVar 0) sNil))) (sSeq (sIf (s2 (oCmp .lt) (sVar 2) (sCon (.int 0))) (sSeq (sRet (sVar 0)) sEnd) sEnd) (sSeq (sRet (sN bStr (zad (s2 oIx (sLst (zad (s2 oSub (sVar 2) (sCon (.int 1))) (zad (sVar 2) (zad (s2 oAdd (sVar 2) (sCon (.int 1))) (zad (s2 oSub (s2 oMul (sCon (.int 8)) (sVar 2)) (sCon (.int 1))) (zad (s2 oMul (sCon (.int 8)) (sVar 2)) (zad (s2 oAdd (s2 oMul (sCon (.int 8)) (sVar 2)) (sCon (.int 1))) (zad (s2 oMul (sCon (.int 3)) (sVar 2)) sNil)))))))) (s2 oMod (sVar 1) (sCon (.int 7)))) sNil))) sEnd)))
def zeu : G := fnG 3 zf1
abbrev zco : Stmt := top 51
theorem zhK : FnScope ["_law_xs", "_law_cell", "_law_fold", "_law_one", "_law_other", "_law_kind"] ["_law_xs", "_law_cell"] (zah zco) := zbG
theorem zbd : LV zco "_law_xs" := by kernel_rfl
theorem zea : LV zco "_law_cell" := by kernel_rfl
theorem zbP : LV zco "_law_fold" := by kernel_rfl
theorem zbD : LV zco "_law_one" := by kernel_rfl
theorem zbb : LV zco "_law_other" := by kernel_rfl
theorem za2 : LV zco "_law_kind" := by kernel_rfl
def zbS : S := (sSeq (sAsg 2 (s2 oIx (sLst (zad (sCon (.str "sum")) (zad (sCon (.str "count")) (zad (sCon (.str "most")) (zad (sCon (.str "least")) (zad (sCon (.str "max")) (zad (sCon (.str "Sum")) sNil))))))) (s2 oMod (s2 zjL (s2 oIx (sVar 0) (sCon (.int 1))) (sCon (.int 2))) (sCon (.int 6))))) (sSeq (sAsg 3 (zaO zdf (zad (s2 oIx (sVar 0) (sCon (.int 2))) (zad (sVar 1) sNil)))) (sSeq (sAsg 4 (zaO zdf (zad (s2 oIx (sVar 0) (sCon (.int 3))) (zad (sVar 1) sNil)))) (sSeq (sAsg 5 (s2 oMod (s2 oIx (sVar 0) (sCon (.int 0))) (sCon (.int 7)))) (sSeq (sIf (s2 (oCmp .eq) (sVar 5) (sCon (.int 0))) (sSeq (sRet (sLst (zad (sCon (.str "share")) (zad (sCon (.str "b")) (zad (sCon (.str "a")) (zad (s2 oIx (sLst (zad (sVar 3) (zad (zaO zeu (zad (sVar 4) (zad (s2 oIx (sVar 0) (sCon (.int 5))) sNil))) sNil))) (s2 oMod (s2 oIx (sVar 0) (sCon (.int 4))) (sCon (.int 2)))) (zad (sVar 4) sNil))))))) sEnd) sEnd) (sSeq (sIf (s2 (oCmp .eq) (sVar 5) (sCon (.int 1))) (sSeq (sRet (sLst (zad (sCon (.str "fixed")) (zad (sCon (.str "b")) (zad (sCon (.str "a")) (zad (sVar 3) (zad (sVar 2) sNil))))))) sEnd) sEnd) (sSeq (sIf (s2 (oCmp .eq) (sVar 5) (sCon (.int 2))) (sSeq (sRet (sLst (zad (sCon (.str "gap")) (zad (sCon (.str "b")) (zad (sCon (.str "a")) (zad (sVar 3) (zad (sVar 2) sNil))))))) sEnd) sEnd) (sSeq (sIf (s2 (oCmp .eq) (sVar 5) (sCon (.int 3))) (sSeq (sRet (sLst (zad (sCon (.str "join")) (zad (sCon (.str "b")) (zad (sCon (.str "a")) (zad (sCon (.str "a")) (zad (sVar 3) (zad (sCon (.str "w")) sNil)))))))) sEnd) sEnd) (sSeq (sIf (s2 (oCmp .eq) (sVar 5) (sCon (.int 4))) (sSeq (sRet (s2 oAdd (sLst (zad (sCon (.str "pour")) (zad (sCon (.str "b")) sNil))) (zkR (sLst (zad (sCon (.str "a")) sNil)) (s2 oMod (s2 oIx (sVar 0) (sCon (.int 4))) (sCon (.int 11)))))) sEnd) sEnd) (sSeq (sIf (s2 (oCmp .eq) (sVar 5) (sCon (.int 5))) (sSeq (sRet (sLst (zad (sCon (.str "slide")) (zad (sCon (.str "b")) (zad (sCon (.str "a")) (zad (sVar 3) (zad (sVar 4) (zad (sVar 2) sNil)))))))) sEnd) sEnd) (sSeq (sRet (sLst (zad (sCon (.str "slide")) (zad (sCon (.str "b")) (zad (sCon (.str "a")) (zad (zaO zeu (zad (sVar 4) (zad (s2 oIx (sVar 0) (sCon (.int 5))) sNil))) (zad (sVar 4) (zad (sVar 2) sNil)))))))) sEnd)))))))))))
def zbR : G := fnG 6 zbS
abbrev zeq : Stmt := top 52
theorem zjs : FnScope ["_law_words_here", "_law_word", "_law_width"] ["_law_words_here"] (zah zeq) := zbG
theorem zam : LV zeq "_law_words_here" := by kernel_rfl
theorem zb9 : LV zeq "_law_word" := by kernel_rfl
theorem zcl : LV zeq "_law_width" := by kernel_rfl
def zhA : S := (sSeq (sRet (sCon (.bl true))) sEnd)
def zeS : S := (sSeq (sIf (s2 (oCmp .eq) (sVar 1) (sCon (.str "slide"))) (sSeq (sRet (sAnd (sChn .le .le (sCon (.int 1)) (zaO zaX (zad (s2 oIx (sVar 0) (sCon (.int 4))) sNil)) (sVar 2)) (s2 (oCmp .le) (sVar 2) (s2 oMul (sCon (.int 8)) (zaO zaX (zad (s2 oIx (sVar 0) (sCon (.int 4))) sNil)))))) sEnd) sEnd) zhA)
def zhZ : S := (sSeq (sIf (sOr (s2 (oCmp .isin) (s2 oIx (sVar 0) (s1 oNeg (sCon (.int 1)))) (sLst (zad (sCon (.str "max")) (zad (sCon (.str "Sum")) sNil)))) (sNot (sChn .le .le (sCon (.int 1)) (sVar 2) (s2 oPow (sCon (.int 10)) (sCon (.int 12)))))) (sSeq (sRet (sCon (.bl false))) sEnd) sEnd) zeS)
def zfY : S := (sSeq (sAsg 2 (zaO zaX (zad (s2 oIx (sVar 0) (sCon (.int 3))) sNil))) zhZ)
def zeJ : S := (sSeq (sIf (s2 (oCmp .eq) (sVar 1) (sCon (.str "join"))) (sSeq (sRet (sChn .le .le (sCon (.int 0)) (zaO zaX (zad (s2 oIx (sVar 0) (sCon (.int 4))) sNil)) (s2 oPow (sCon (.int 10)) (sCon (.int 12))))) sEnd) sEnd) zfY)
def zdc : S := (sSeq (sIf (s2 (oCmp .eq) (sVar 1) (sCon (.str "share"))) (sSeq (sRet (sAnd (sChn .le .le (sCon (.int 1)) (zaO zaX (zad (s2 oIx (sVar 0) (sCon (.int 4))) sNil)) (sCon (.int 8))) (sChn .le .lt (sCon (.int 0)) (zaO zaX (zad (s2 oIx (sVar 0) (sCon (.int 3))) sNil)) (zaO zaX (zad (s2 oIx (sVar 0) (sCon (.int 4))) sNil))))) sEnd) sEnd) zeJ)
def zih : S := (sSeq (sIf (sOr (s2 (oCmp .isin) (sCon (.str "")) (sVar 0)) (s2 (oCmp .isin) (sCon (.str " ")) (sMt zhL (sCon (.str "")) (zad (sVar 0) sNil)))) (sSeq (sRet (sCon (.bl false))) sEnd) sEnd) zdc)
def zfC : S := (sSeq (sIf (s2 (oCmp .eq) (sVar 1) (sCon (.str "pour"))) (sSeq (sRet (sChn .le .le (sCon (.int 2)) (s2 oSub (sN bLen (zad (sVar 0) sNil)) (sCon (.int 2))) (sCon (.int 8)))) sEnd) sEnd) zih)
def zfL : S := (sSeq (sAsg 1 (s2 oIx (sVar 0) (sCon (.int 0)))) zfC)
def zer : G := fnG 3 zfL
abbrev zey : Stmt := top 53
theorem zi2 : FnScope ["_law_text", "_law_found", "e"] ["_law_text"] (zah zey) := zbG
theorem zhi : LV zey "_law_text" := by kernel_rfl
theorem zck : LV zey "_law_found" := by kernel_rfl
theorem zhH : LV zey "e" := by kernel_rfl
def zin : S := (sAsg 1 (zj9 (zeb zcv (zad (sVar 0) sNil)) (zad (s1 oNeg (sCon (.int 1))) sNil)))
def zhC : S := (sSeq (sAsg 1 (sTup (zad (sCon (.str "text")) (zad (sAtX zky 2) sNil)))) sEnd)
def zho : S := (sSeq (sAsg 1 (sTup (zad (sCon .non) (zad (s1 oNeg (sCon (.int 1))) sNil)))) (sSeq (sTry 2 zdU zin zhC) (sSeq (sRet (sVar 1)) sEnd)))
def zf5 : G := fnG 3 zho
abbrev zdD : Stmt := top 54
theorem zmS : FnScope ["_law_script", "_law_cell", "_law_words_here", "_law_found", "_law_many", "_law_row"] ["_law_script"] (zah zdD) := zbG
theorem zg6 : LC zdD "_law_script" := by kernel_rfl
theorem zew : LV zdD "_law_cell" := by kernel_rfl
theorem zaw : LV zdD "_law_words_here" := by kernel_rfl
theorem zdE : LV zdD "_law_found" := by kernel_rfl
theorem zet : LV zdD "_law_many" := by kernel_rfl
theorem zgG : LV zdD "_law_row" := by kernel_rfl
def zir : S := (sSeq (sRet (sCon (.bl true))) sEnd)
def zgU : S := (sSeq (sIf (sTru (zaO zer (zad (sVar 2) sNil))) (sSeq (sIf (s2 (oCmp .ne) (sVar 3) (sTup (zad (sLst (zad (sTup (zad (sCon (.str "in")) (zad (sCon (.str "a")) (zad (sTup sNil) (zad (sTup sNil) sNil))))) (zad (sVar 5) sNil))) (zad (s1 oNeg (sCon (.int 1))) sNil)))) (sSeq (sRet (sCon (.bl false))) sEnd) sEnd) sEnd) (sSeq (sIf (s2 (oCmp .ne) (sVar 3) (sTup (zad (sCon (.str "text")) (zad (sCon (.int 1)) sNil)))) (sSeq (sRet (sCon (.bl false))) sEnd) sEnd) sEnd)) sEnd)
def zgL : S := (sSeq (sAsg 5 (sTup (zad (s2 oIx (sVar 2) (sCon (.int 0))) (zad (s2 oIx (sVar 2) (sCon (.int 1))) (zad (sN bTup (zad (sSl (sVar 2) (pAt (sCon (.int 2))) (pAt (s2 oAdd (sCon (.int 2)) (sVar 4)))) sNil)) (zad (sN bTup (zad (sSl (sVar 2) (pAt (s2 oAdd (sCon (.int 2)) (sVar 4))) pNo) sNil)) sNil)))))) zgU)
def zgB : S := (sSeq (sAsg 4 (zgD (sDct (ziz (sCon (.str "join")) (sCon (.int 2)) (ziz (sCon (.str "pour")) (s2 oSub (sN bLen (zad (sVar 2) sNil)) (sCon (.int 2))) pNil))) (s2 oIx (sVar 2) (sCon (.int 0))) (sCon (.int 1)))) zgL)
def zgQ : S := (sSeq (sAsg 3 (zaO zf5 (zad (s2 oAdd (sCon (.str "in a\n")) (sMt zhL (sCon (.str " ")) (zad (sVar 2) sNil))) sNil))) zgB)
def zg8 : S := (sSeq (sAsg 2 (zaO zbR (zad (zaO zdX (zad (sVar 1) (zad (sCon (.int 6)) sNil))) (zad (sVar 1) sNil)))) zgQ)
def zlO : E := (s2 oAdd (s2 oIx (sVar 1) (sVar 0)) (s2 oMul (sCon (.int 1009)) (sVar 0)))
def zme : S := (sSeq (sFor 1 (iLst (s2 oAdd (sLst (zad (sCon (.int 5)) sNil)) (zfk [("_law_script", 0)] (zhk (zad (sN bMin (zad (sCon (.int 16)) (zad (sN bLen (zad (sVar 0) sNil)) sNil))) sNil)) (sCon (.bl true)) zlO))) zg8) zir)
def zqu : G := fnG 6 zme
section
variable {P : Program} {w : World} {K : Fgx} {mg : Mgx} {C : Ad} {base : Heap} {k k0 : Nat} {f : Addr}
theorem zhX (T : Txt K mg C w) : RT P w K mg base k f ["text"] "is_figures" zcp zcX := fun cdv A outer s H E hr => by
 refine zbK hr fun hu => ?_;have nd := (zeK).nd;have B_any := T.blt "any" (by x_go);obtain ⟨t_FIGURES, m_FIGURES⟩ := T.k_FIGURES;refine zab ?_ ?_
 ·exact (zbf (SW.st (zfl (zaJ (zaE hu .eq) zat (se_v rfl (zbA)) (se_s zak)) (zdS (zds (zb0 (zl1 rfl) rfl B_any boot_any zrn (zaa (SN.sem (zfR "sign" [] rfl (by x_go) (zom (se_v rfl (zbA))) (fun _ _ _ _ _ _ => zfw) (fun _ _ _ _ _ _ => (zcd (zaE (X := zbX _ _ _ _ _ _ _ _ _) hu .notin) zat (zgb rfl (.inl (by kernel_rfl))) (se_s (zch (v := (.str "0123456789")) rfl m_FIGURES ⟨t_FIGURES, rfl⟩))))) zfK) zaf zdo)))))) (zab (zap (se_b zdB)) zag) zag)
 refine zab ?_ ?_
 ·exact (zap (znV (zcd (zaE hu .eq) zat (se_v rfl (zbA)) (se_s zak)) (zdq (zcd (zaE hu .ne) zat (zaD zar zaF (se_v rfl (zbA)) (se_i zae)) (se_s zak)))))
 exact zag
theorem zel (T : Txt K mg C w) (a_is_figures : AtG P w K mg base k "is_figures" 1 zbs) : RT P w K mg base k f ["text", "figures"] "is_signed_figures" zaI zbe := fun cdv A outer s H E hr => by
 refine zbK hr fun hu => ?_;have nd := (zcy).nd;refine zab ?_ ?_
 ·exact (za7 (i := 1) nd rfl (.inl zbw) (zqN (zds (zjI PySem.F.slot_str_startswith PySem.F.type_str_startswith zkv zlh (se_v rfl (zaN)) (zaa (se_s zak) zaf zac))) (zla (se_v rfl (zaN)) (zhD (Wx := W0) (se_i zae)) zlZ) (se_v rfl (zaN))))
 refine zab ?_ ?_
 ·exact (zap (zei (zcd (zaE hu .ne) zat (se_v rfl (zaN)) (se_s zak)) (zdq (zas a_is_figures hr rfl (zaa (se_v rfl (zbw)) zaf zaj) (cnt_cons cnt_nil)))))
 exact zag
theorem zjy (T : Txt K mg C w) (a_is_figures : AtG P w K mg base k "is_figures" 1 zbs) : RT P w K mg base k f ["text"] "is_count" zdh zd5 := fun cdv A outer s H E hr => by
 refine zbK hr fun hu => ?_;have nd := (zf7).nd;have B_len := T.blt "len" (by x_go);obtain ⟨t_MOST_FIGURES, m_MOST_FIGURES⟩ := T.k_MOST_FIGURES;refine zab ?_ ?_
 ·exact (zap (zei (zcd (zaE hu .le) zat (zb0 zaW rfl B_len PySem.boot_len zcL (zaa (se_v rfl (zdM)) zaf zaj)) (se_i (zch (v := (.int 20)) rfl m_MOST_FIGURES ⟨t_MOST_FIGURES, rfl⟩))) (zdq (zas a_is_figures hr rfl (zaa (se_v rfl (zdM)) zaf zaj) (cnt_cons cnt_nil)))))
 exact zag
theorem ziI (T : Txt K mg C w) (a_is_signed_figures : AtG P w K mg base k "is_signed_figures" 1 zaS) : RT P w K mg base k f ["text"] "is_number" zcC zdn := fun cdv A outer s H E hr => by
 refine zbK hr fun hu => ?_;have nd := (zff).nd;have B_len := T.blt "len" (by x_go);obtain ⟨t_MOST_FIGURES, m_MOST_FIGURES⟩ := T.k_MOST_FIGURES;refine zab ?_ ?_
 ·exact (zap (zei (zas a_is_signed_figures hr rfl (zaa (se_v rfl (zdu)) zaf zaj) (cnt_cons cnt_nil)) (zdq (zcd (zaE hu .le) zat (zb0 zaW rfl B_len PySem.boot_len zcL (zaa (zjI PySem.F.slot_str_lstrip PySem.F.type_str_lstrip zkp zlr (se_v rfl (zdu)) (zaa (se_s zak) zaf zac)) zaf zbk)) (se_i (zch (v := (.int 20)) rfl m_MOST_FIGURES ⟨t_MOST_FIGURES, rfl⟩))))))
 exact zag
theorem zj1 (T : Txt K mg C w) (a_is_number : AtG P w K mg base k "is_number" 1 zcK) : RT P w K mg base k f ["word", "letters"] "is_leaf" zde zeH := fun cdv A outer s H E hr => by
 refine zbK hr fun hu => ?_;have nd := (zgN).nd;obtain ⟨t_ALL_LETTERS, m_ALL_LETTERS⟩ := T.k_ALL_LETTERS;refine zab ?_ ?_
 ·exact (zap (znV (zas a_is_number hr rfl (zaa (se_v rfl (zc2)) zaf zaj) (cnt_cons cnt_nil)) (zdq (zei (zcd (zaE hu .isin) zat (se_v rfl (zc2)) (zqw rfl m_ALL_LETTERS.1 m_ALL_LETTERS.2)) (zdq (zcd (zaE hu .isin) zat (se_v rfl (zc2)) (se_v rfl (ze0))))))))
 exact zag
theorem zhg (T : Txt K mg C w) : RTX P w K mg base k f ["word", "kinds", "needed", "place"] "take_needed" zaZ zcB := fun cdv A outer s H E Wx hr XF XP => by
 refine zbK hr fun hu => ?_;have nd := (zee).nd;have B_range := T.blt "range" (by x_go);obtain ⟨t_NEEDS, m_NEEDS⟩ := T.k_NEEDS;refine zab ?_ ?_
 ·exact (za7 (i := 2) nd rfl (.inl zbJ) (zhl (se_v rfl (zcS)) rfl m_NEEDS.1 m_NEEDS.2))
 refine zab ?_ ?_
 ·exact (zim PassesOwn.leaving rfl nd rfl (.inl zej) (ziJ rfl B_range (zaa (zaD zar zaF (se_v rfl (zbJ)) (se_i zae)) zaf zai)) (zab (zbf (SW.st (zfl (zec (zds (se_v rfl (zcH)))) (zdS (zaJ (zaE hu .ne) zat (zrb (se_v rfl (zcH))) (zaD zar zaF (se_v rfl (zbJ)) (se_i zae)))))) (zab (zg0 XF rfl T.xm_NoExpr T.xc_NoExpr T.xn_NoExpr T.xk_NoExpr rfl (zm3 (zpE (se_v rfl (zcS)) (znj zm0)))) zag) zag) zag))
 exact zag
theorem zg9 (T : Txt K mg C w) (a_is_leaf : AtG P w K mg base k "is_leaf" 2 zdN) (x_take_needed : AtX P w K mg base k "take_needed" 2 zbF) : RTX P w K mg base k f ["words", "letters", "wanted", "kinds", "word"] "check_words" zaQ zcz := fun cdv A outer s H E Wx hr XF XP => by
 refine zbK hr fun hu => ?_;have nd := (zed).nd;have B_reversed := T.blt "reversed" (by x_go);obtain ⟨t_NEEDS, m_NEEDS⟩ := T.k_NEEDS;refine zab ?_ ?_
 ·exact (za7 (i := 3) nd rfl (.inl zaT) (zoZ (zbL zaf)))
 refine zab ?_ ?_
 ·exact (zim PassesOwn.leaving rfl nd rfl (.inl zaM) (zpw rfl B_reversed (zaa (se_v rfl (zeB)) zaf zaj)) (zab (zbf (zqE (se_v rfl (zaM)) rfl m_NEEDS.1 m_NEEDS.2) (zab (ziA (SX.se XP (ze3 x_take_needed hr rfl (zaa (se_v rfl (zaM)) (zaa (se_v rfl (zaT)) zaf zaj) zaj) (cnt_cons (cnt_cons cnt_nil))))) (zab (zlc (se_v rfl (zaT)) (zaD zar zaF (zhl (se_v rfl (zaM)) rfl m_NEEDS.1 m_NEEDS.2) (se_i zae))) zag)) (zab (zbf (zds (zas a_is_leaf hr rfl (zaa (se_v rfl (zaM)) (zaa (se_v rfl (zdJ)) zaf zaj) zaj) (cnt_cons (cnt_cons cnt_nil)))) (zab (zlc (se_v rfl (zaT)) (se_s zak)) zag) (zab (zg0 XF rfl T.xm_NoExpr T.xc_NoExpr T.xn_NoExpr T.xk_NoExpr rfl (zm3 (zrh (se_v rfl (zaM)) (znj zm0)))) zag)) zag)) zag))
 refine zab ?_ ?_
 ·exact (zbf (zaJ (zaE hu .ne) zat (se_v rfl (zaT)) (SN.sem (zbL (zaa (se_v rfl (zd7)) zaf zaj)) lst_is)) (zab (zg0 XF rfl T.xm_NoExpr T.xc_NoExpr T.xn_NoExpr T.xk_NoExpr rfl (se_s zak)) zag) zag)
 exact zag
theorem zf6 (T : Txt K mg C w) : RT P w K mg base k f ["self", "words"] "Expr.__init__" zaz zb6 := fun cdv A outer s H E hr => by
 refine zbK hr fun hu => ?_;have nd := (zdv).nd;have B_tuple := T.blt "tuple" (by x_go);refine zab ?_ ?_
 ·exact (zjX T.cl_Expr T.na_Expr_parts (se_v rfl (zd9)) (zcf zby rfl B_tuple boot_tuple zgP (zaa (se_v rfl (zdQ)) zaf zaj)))
 exact zag
theorem ziL (T : Txt K mg C w) (hk0 : k0 + 1 = k) (a_Expr___init__ : AtI P w K mg base k0 C.Expr 2 zbv) (x_check_words : AtX P w K mg base k "check_words" 3 za1) : RTX P w K mg base k f ["words", "letters"] "read_expr" zcg zcM := fun cdv A outer s H E Wx hr XF XP => by
 refine zbK hr fun hu => ?_;have hr1 := hr;rw [<- hk0] at hr1;have nd := (zfi).nd;refine zab ?_ ?_
 ·exact (ziA (SX.se XP (ze3 x_check_words hr rfl (zaa (se_v rfl (zc6)) (zaa (se_v rfl (zez)) (zaa (se_s zak) zaf zac) zaj) zaj) (cnt_cons (cnt_cons (cnt_cons cnt_nil))))))
 refine zab ?_ ?_
 ·exact (zap (zkA T.cl_Expr a_Expr___init__ hr1 rfl (zaa (se_v rfl (zc6)) zaf zaj) (cnt_cons cnt_nil)))
 exact zag
theorem zgf (T : Txt K mg C w) : RT P w K mg base k f ["self", "words"] "Cond.__init__" zay zb3 := fun cdv A outer s H E hr => by
 refine zbK hr fun hu => ?_;have nd := (zdr).nd;have B_tuple := T.blt "tuple" (by x_go);refine zab ?_ ?_
 ·exact (zjX T.cl_Cond T.na_Cond_parts (se_v rfl (zd8)) (zcf zby rfl B_tuple boot_tuple zgP (zaa (se_v rfl (zdG)) zaf zaj)))
 exact zag
theorem zis (T : Txt K mg C w) (hk0 : k0 + 1 = k) (a_Cond___init__ : AtI P w K mg base k0 C.Cond 2 zbn) (x_check_words : AtX P w K mg base k "check_words" 3 za1) : RTX P w K mg base k f ["words"] "read_cond" zcO zcE := fun cdv A outer s H E Wx hr XF XP => by
 refine zbK hr fun hu => ?_;have hr1 := hr;rw [<- hk0] at hr1;have nd := (zfb).nd;obtain ⟨t_COND_LETTERS, m_COND_LETTERS⟩ := T.k_COND_LETTERS;refine zab ?_ ?_
 ·exact (ziA (SX.se XP (ze3 x_check_words hr rfl (zaa (se_v rfl (zc7)) (zaa (se_s (zch (v := (.str "tv")) rfl m_COND_LETTERS ⟨t_COND_LETTERS, rfl⟩)) (zaa (se_s zak) zaf zac) zaj) zaj) (cnt_cons (cnt_cons (cnt_cons cnt_nil))))))
 refine zab ?_ ?_
 ·exact (zap (zkA T.cl_Cond a_Cond___init__ hr1 rfl (zaa (se_v rfl (zc7)) zaf zaj) (cnt_cons cnt_nil)))
 exact zag
theorem zk5 (T : Txt K mg C w) : RT P w K mg base k f ["text"] "is_name" zdO zeM := fun cdv A outer s H E hr => by
 refine zbK hr fun hu => ?_;have nd := (zgz).nd;have B_all := T.blt "all" (by x_go);have B_len := T.blt "len" (by x_go);obtain ⟨t_FIGURES, m_FIGURES⟩ := T.k_FIGURES;obtain ⟨t_LETTERS, m_LETTERS⟩ := T.k_LETTERS;obtain ⟨t_MOST_SIGNS, m_MOST_SIGNS⟩ := T.k_MOST_SIGNS;refine zab ?_ ?_
 ·exact (zbf (SW.st (zfl (zec (zm9 (c1 := .le) (c2 := .le) hu (se_i zae) (zb0 zaW rfl B_len PySem.boot_len zcL (zaa (se_v rfl (zc1)) zaf zaj)) (se_i (zch (v := (.int 12)) rfl m_MOST_SIGNS ⟨t_MOST_SIGNS, rfl⟩)))) (zdS (zaJ (zaE hu .notin) zat (zaD zar zaF (se_v rfl (zc1)) (se_i zae)) (se_s (zch (v := (.str "abcdefghijklmnopqrstuvwxyz")) rfl m_LETTERS ⟨t_LETTERS, rfl⟩)))))) (zab (zap (se_b zdB)) zag) zag)
 refine zab ?_ ?_
 ·exact (zap (zb0 (zgZ rfl) rfl B_all boot_all zkl (zaa (SN.sem (zfR "sign" [] rfl (by x_go) (zom (se_v rfl (zc1))) (fun _ _ _ _ _ _ => zfw) (fun _ _ _ _ _ _ => (znV (zcd (zaE (X := zbX _ _ _ _ _ _ _ _ _) hu .isin) zat (zgb rfl (.inl (by kernel_rfl))) (se_s (zch (v := (.str "abcdefghijklmnopqrstuvwxyz")) rfl m_LETTERS ⟨t_LETTERS, rfl⟩))) (zdq (zcd (zaE (X := zbX _ _ _ _ _ _ _ _ _) hu .isin) zat (zgb rfl (.inl (by kernel_rfl))) (se_s (zch (v := (.str "0123456789")) rfl m_FIGURES ⟨t_FIGURES, rfl⟩))))))) zfK) zaf zdo)))
 exact zag
theorem ze4 (T : Txt K mg C w) (a_is_count : AtG P w K mg base k "is_count" 1 zdd) : RT P w K mg base k f ["text", "least", "most"] "is_count_within" zaG zbz := fun cdv A outer s H E hr => by
 refine zbK hr fun hu => ?_;have nd := (zcU).nd;have B_int := T.blt "int" (by x_go);refine zab ?_ ?_
 ·exact (zap (zei (zas a_is_count hr rfl (zaa (se_v rfl (zcc)) zaf zaj) (cnt_cons cnt_nil)) (zdq (zgw (c1 := .le) (c2 := .le) hu (se_v rfl (zdk)) (zcf zcs rfl B_int boot_int zhR (zaa (se_v rfl (zcc)) zaf zaj)) (se_v rfl (zdC))))))
 exact zag
theorem zkG (T : Txt K mg C w) (x_read_expr : AtX P w K mg base k "read_expr" 2 zbV) : RT P w K mg base k f ["words", "letters"] "is_expr" zdg zdI := fun cdv A outer s H E hr => by
 refine zbK hr fun hu => ?_;have nd := (zgK).nd;refine zab ?_ ?_
 ·exact (zkY rfl rfl rfl rfl T.xm_NoExpr T.xc_NoExpr (fun c h => zeG T c h) (fun pins E' => (zkf (zlE (ze3 x_read_expr hr rfl (zaa (se_v rfl (zfS)) (zaa (se_v rfl (zeX)) zaf zaj) zaj) (cnt_cons (cnt_cons cnt_nil)))))) (fun e' => (zab (zap (se_b zdB)) zag)))
 refine zab ?_ ?_
 ·exact (zap (se_b zdB))
 exact zag
theorem zlI (T : Txt K mg C w) (x_read_cond : AtX P w K mg base k "read_cond" 1 zbU) : RT P w K mg base k f ["words"] "is_cond" zdP zdR := fun cdv A outer s H E hr => by
 refine zbK hr fun hu => ?_;have nd := (zgv).nd;refine zab ?_ ?_
 ·exact (zkY rfl rfl rfl rfl T.xm_NoExpr T.xc_NoExpr (fun c h => zeG T c h) (fun pins E' => (zkf (zlE (ze3 x_read_cond hr rfl (zaa (se_v rfl (zfW)) zaf zaj) (cnt_cons cnt_nil))))) (fun e' => (zab (zap (se_b zdB)) zag)))
 refine zab ?_ ?_
 ·exact (zap (se_b zdB))
 exact zag
theorem zfD (T : Txt K mg C w) (a_is_count_within : AtG P w K mg base k "is_count_within" 3 zaq) : RT P w K mg base k f ["rest"] "is_share_rest" zbx zb5 := fun cdv A outer s H E hr => by
 refine zbK hr fun hu => ?_;have nd := (zdy).nd;have B_int := T.blt "int" (by x_go);have B_len := T.blt "len" (by x_go);obtain ⟨t_MOST_SHARES, m_MOST_SHARES⟩ := T.k_MOST_SHARES;refine zab ?_ ?_
 ·exact (zbf (SW.st (zfl (zaJ (zaE hu .ne) zat (zb0 zaW rfl B_len PySem.boot_len zcL (zaa (se_v rfl (za5)) zaf zaj)) (se_i zae)) (zdS (zec (zds (zas a_is_count_within hr rfl (zaa (zaD zar zaF (se_v rfl (za5)) (se_i zae)) (zaa (se_i zae) (zaa (se_i (zch (v := (.int 8)) rfl m_MOST_SHARES ⟨t_MOST_SHARES, rfl⟩)) zaf zaj) zac) zai) (cnt_cons (cnt_cons (cnt_cons cnt_nil))))))))) (zab (zap (se_b zdB)) zag) zag)
 refine zab ?_ ?_
 ·exact (zap (zas a_is_count_within hr rfl (zaa (zaD zar zaF (se_v rfl (za5)) (se_i zae)) (zaa (se_i zae) (zaa (zaA zgC zgy (zcf zcs rfl B_int boot_int zhR (zaa (zaD zar zaF (se_v rfl (za5)) (se_i zae)) zaf zai)) (se_i zae)) zaf za6) zac) zai) (cnt_cons (cnt_cons (cnt_cons cnt_nil)))))
 exact zag
theorem zf8 (T : Txt K mg C w) (a_is_count_within : AtG P w K mg base k "is_count_within" 3 zaq) : RT P w K mg base k f ["rest"] "is_width_rest" zbo zb2 := fun cdv A outer s H E hr => by
 refine zbK hr fun hu => ?_;have nd := (zdz).nd;have B_len := T.blt "len" (by x_go);obtain ⟨t_FOLDS, m_FOLDS⟩ := T.k_FOLDS;obtain ⟨t_MOST_SPAN, m_MOST_SPAN⟩ := T.k_MOST_SPAN;refine zab ?_ ?_
 ·exact (zap (zei (zcd (zaE hu .eq) zat (zb0 zaW rfl B_len PySem.boot_len zcL (zaa (se_v rfl (zbH)) zaf zaj)) (se_i zae)) (zei (zas a_is_count_within hr rfl (zaa (zaD zar zaF (se_v rfl (zbH)) (se_i zae)) (zaa (se_i zae) (zaa (se_i (zch (v := (.int 1000000000000)) rfl m_MOST_SPAN ⟨t_MOST_SPAN, rfl⟩)) zaf zaj) zac) zai) (cnt_cons (cnt_cons (cnt_cons cnt_nil)))) (zdq (zcd (zaE hu .isin) zat (zaD zar zaF (se_v rfl (zbH)) (se_i zae)) (zqw rfl m_FOLDS.1 m_FOLDS.2))))))
 exact zag
theorem zfX (T : Txt K mg C w) (a_is_count_within : AtG P w K mg base k "is_count_within" 3 zaq) (a_is_width_rest : AtG P w K mg base k "is_width_rest" 1 zaV) : RT P w K mg base k f ["rest", "width"] "is_slide_rest" zba zcb := fun cdv A outer s H E hr => by
 refine zbK hr fun hu => ?_;have nd := (zdx).nd;have B_int := T.blt "int" (by x_go);have B_len := T.blt "len" (by x_go);obtain ⟨t_MOST_SPREAD, m_MOST_SPREAD⟩ := T.k_MOST_SPREAD;refine zab ?_ ?_
 ·exact (zbf (SW.st (zfl (zaJ (zaE hu .ne) zat (zb0 zaW rfl B_len PySem.boot_len zcL (zaa (se_v rfl (zaC)) zaf zaj)) (se_i zae)) (zdS (zec (zds (zas a_is_width_rest hr rfl (zaa (zc8 (zaa (zaD zar zaF (se_v rfl (zaC)) (se_i zae)) (zaa (zaD zar zaF (se_v rfl (zaC)) (se_i zae)) zaf zai) zai)) zaf zfm) (cnt_cons cnt_nil))))))) (zab (zap (se_b zdB)) zag) zag)
 refine zab ?_ ?_
 ·exact (za7 (i := 1) nd rfl (.inl zbu) (zcf zcs rfl B_int boot_int zhR (zaa (zaD zar zaF (se_v rfl (zaC)) (se_i zae)) zaf zai)))
 refine zab ?_ ?_
 ·exact (zap (zei (zas a_is_count_within hr rfl (zaa (zaD zar zaF (se_v rfl (zaC)) (se_i zae)) (zaa (se_i zae) (zaa (se_v rfl (zbu)) zaf zaj) zac) zai) (cnt_cons (cnt_cons (cnt_cons cnt_nil)))) (zdq (zcd (zaE hu .le) zat (se_v rfl (zbu)) (zaA zcZ zef (se_i (zch (v := (.int 8)) rfl m_MOST_SPREAD ⟨t_MOST_SPREAD, rfl⟩)) (zcf zcs rfl B_int boot_int zhR (zaa (zaD zar zaF (se_v rfl (zaC)) (se_i zae)) zaf zai)))))))
 exact zag
theorem zgj (T : Txt K mg C w) (a_is_count_within : AtG P w K mg base k "is_count_within" 3 zaq) (a_is_expr : AtG P w K mg base k "is_expr" 2 zcq) : RT P w K mg base k f ["rest"] "is_join_rest" zbN zcm := fun cdv A outer s H E hr => by
 refine zbK hr fun hu => ?_;have nd := (zdK).nd;have B_len := T.blt "len" (by x_go);obtain ⟨t_MOST_SPAN, m_MOST_SPAN⟩ := T.k_MOST_SPAN;refine zab ?_ ?_
 ·exact (zbf (SW.st (zfl (zaJ (zaE hu .lt) zat (zb0 zaW rfl B_len PySem.boot_len zcL (zaa (se_v rfl (zbT)) zaf zaj)) (se_i zae)) (zdS (zec (zds (zas a_is_count_within hr rfl (zaa (zaD zar zaF (se_v rfl (zbT)) (se_i zae)) (zaa (se_i zae) (zaa (se_i (zch (v := (.int 1000000000000)) rfl m_MOST_SPAN ⟨t_MOST_SPAN, rfl⟩)) zaf zaj) zac) zai) (cnt_cons (cnt_cons (cnt_cons cnt_nil))))))))) (zab (zap (se_b zdB)) zag) zag)
 refine zab ?_ ?_
 ·exact (zap (zas a_is_expr hr rfl (zaa (zrd (se_v rfl (zbT)) (zhD (Wx := W0) (se_i zae)) zlZ) (zaa (se_s zak) zaf zac) zai) (cnt_cons (cnt_cons cnt_nil))))
 exact zag
theorem zhI (T : Txt K mg C w) (a_is_expr : AtG P w K mg base k "is_expr" 2 zcq) (a_is_cond : AtG P w K mg base k "is_cond" 1 zdb) (a_is_share_rest : AtG P w K mg base k "is_share_rest" 1 zbm) (a_is_width_rest : AtG P w K mg base k "is_width_rest" 1 zaV) (a_is_slide_rest : AtG P w K mg base k "is_slide_rest" 1 zbr) (a_is_join_rest : AtG P w K mg base k "is_join_rest" 1 zbO) : RT P w K mg base k f ["word", "rest"] "is_rest_of" zbZ zcR := fun cdv A outer s H E hr => by
 refine zbK hr fun hu => ?_;have nd := (zeT).nd;refine zab ?_ ?_
 ·exact (zbf (zaJ (zaE hu .eq) zat (se_v rfl (zaR)) (se_s zak)) (zab (zap (zas a_is_cond hr rfl (zaa (se_v rfl (zaH)) zaf zaj) (cnt_cons cnt_nil))) zag) zag)
 refine zab ?_ ?_
 ·exact (zbf (zaJ (zaE hu .eq) zat (se_v rfl (zaR)) (se_s zak)) (zab (zap (zas a_is_expr hr rfl (zaa (se_v rfl (zaH)) (zaa (se_s zak) zaf zac) zaj) (cnt_cons (cnt_cons cnt_nil)))) zag) zag)
 refine zab ?_ ?_
 ·exact (zbf (zaJ (zaE hu .eq) zat (se_v rfl (zaR)) (se_s zak)) (zab (zap (zas a_is_share_rest hr rfl (zaa (se_v rfl (zaH)) zaf zaj) (cnt_cons cnt_nil))) zag) zag)
 refine zab ?_ ?_
 ·exact (zbf (zaJ (zaE hu .eq) zat (se_v rfl (zaR)) (se_s zak)) (zab (zap (zas a_is_slide_rest hr rfl (zaa (se_v rfl (zaH)) zaf zaj) (cnt_cons cnt_nil))) zag) zag)
 refine zab ?_ ?_
 ·exact (zbf (zaJ (zaE hu .isin) zat (se_v rfl (zaR)) (zc8 (zaa (se_s zak) (zaa (se_s zak) zaf zac) zac))) (zab (zap (zas a_is_width_rest hr rfl (zaa (se_v rfl (zaH)) zaf zaj) (cnt_cons cnt_nil))) zag) zag)
 refine zab ?_ ?_
 ·exact (zbf (zaJ (zaE hu .eq) zat (se_v rfl (zaR)) (se_s zak)) (zab (zap (zas a_is_join_rest hr rfl (zaa (se_v rfl (zaH)) zaf zaj) (cnt_cons cnt_nil))) zag) zag)
 refine zab ?_ ?_
 ·exact (zap (zcd (zaE hu .eq) zat (se_v rfl (zaH)) (zc8 zaf)))
 exact zag
theorem zmx (T : Txt K mg C w) : RT P w K mg base k f ["words", "behind"] "row_of" zdZ zfp := fun cdv A outer s H E hr => by
 refine zbK hr fun hu => ?_;have nd := (zh5).nd;have B_tuple := T.blt "tuple" (by x_go);obtain ⟨t_FROMS, m_FROMS⟩ := T.k_FROMS;refine zab ?_ ?_
 ·exact (za7 (i := 1) nd rfl (.inl zcG) (zaA za4 zbM (se_i zae) (zhl (zaD zar zaF (se_v rfl (zbQ)) (se_i zae)) rfl m_FROMS.1 m_FROMS.2)))
 refine zab ?_ ?_
 ·exact (zap (zc8 (zaa (zaD zar zaF (se_v rfl (zbQ)) (se_i zae)) (zaa (zaD zar zaF (se_v rfl (zbQ)) (se_i zae)) (zaa (zcf zby rfl B_tuple boot_tuple zgP (zaa (zla (se_v rfl (zbQ)) (zhD (Wx := W0) (se_i zae)) (zhD (Wx := W0) (se_v rfl (zcG)))) zaf zai)) (zaa (zcf zby rfl B_tuple boot_tuple zgP (zaa (zla (se_v rfl (zbQ)) (zhD (Wx := W0) (se_v rfl (zcG))) zlZ) zaf zai)) zaf zbk) zbk) zai) zai)))
 exact zag
theorem zfE (T : Txt K mg C w) : RT P w K mg base k f ["row"] "has_its_froms" zbt zb4 := fun cdv A outer s H E hr => by
 refine zbK hr fun hu => ?_;have nd := (zdw).nd;have B_len := T.blt "len" (by x_go);obtain ⟨t_FROMS, m_FROMS⟩ := T.k_FROMS;refine zab ?_ ?_
 ·exact (zbf (zaJ (zaE hu .eq) zat (zaD zar zaF (se_v rfl (zbg)) (se_i zae)) (se_s zak)) (zab (zap (zcd (zaE hu .ge) zat (zb0 zaW rfl B_len PySem.boot_len zcL (zaa (zaD zar zaF (se_v rfl (zbg)) (se_i zae)) zaf zai)) (se_i zae))) zag) zag)
 refine zab ?_ ?_
 ·exact (zap (zcd (zaE hu .eq) zat (zb0 zaW rfl B_len PySem.boot_len zcL (zaa (zaD zar zaF (se_v rfl (zbg)) (se_i zae)) zaf zai)) (zhl (zaD zar zaF (se_v rfl (zbg)) (se_i zae)) rfl m_FROMS.1 m_FROMS.2)))
 exact zag
theorem zmb (T : Txt K mg C w) (a_is_name : AtG P w K mg base k "is_name" 1 zdL) (a_is_rest_of : AtG P w K mg base k "is_rest_of" 2 zcr) (a_row_of : AtG P w K mg base k "row_of" 1 zdl) (a_has_its_froms : AtG P w K mg base k "has_its_froms" 1 zbp) : RT P w K mg base k f ["words", "row"] "is_row" zd2 zeL := fun cdv A outer s H E hr => by
 refine zbK hr fun hu => ?_;have nd := (zhO).nd;have B_all := T.blt "all" (by x_go);have B_len := T.blt "len" (by x_go);obtain ⟨t_FROMS, m_FROMS⟩ := T.k_FROMS;refine zab ?_ ?_
 ·exact (zbf (SW.st (zfl (zaJ (zaE hu .lt) zat (zb0 zaW rfl B_len PySem.boot_len zcL (zaa (se_v rfl (zc3)) zaf zaj)) (se_i zae)) (zdS (zlH (zaD zar zaF (se_v rfl (zc3)) (se_i zae)) rfl m_FROMS.1 m_FROMS.2)))) (zab (zap (se_b zdB)) zag) zag)
 refine zab ?_ ?_
 ·exact (za7 (i := 1) nd rfl (.inl zb1) (zas a_row_of hr rfl (zaa (se_v rfl (zc3)) zaf zaj) (cnt_cons cnt_nil)))
 refine zab ?_ ?_
 ·exact (zbf (SW.st (zfl (zec (zds (zas a_has_its_froms hr rfl (zaa (se_v rfl (zb1)) zaf zaj) (cnt_cons cnt_nil)))) (zdS (zec (zds (zb0 (zgZ rfl) rfl B_all boot_all zkl (zaa (SN.sem (zfR "name" [] rfl (by x_go) (zru (zaA zo3 zok (zc8 (zaa (zaD zar zaF (se_v rfl (zb1)) (se_i zae)) zaf zai)) (zaD zar zaF (se_v rfl (zb1)) (se_i zae)))) (fun _ _ _ _ _ _ => zfw) (fun _ _ _ _ _ _ => (zas a_is_name hr rfl (zaa (zgb rfl (.inl (by kernel_rfl))) zaf zaj) (cnt_cons cnt_nil)))) zfK) zaf zdo))))))) (zab (zap (se_b zdB)) zag) zag)
 refine zab ?_ ?_
 ·exact (zap (zas a_is_rest_of hr rfl (zaa (zaD zar zaF (se_v rfl (zb1)) (se_i zae)) (zaa (zaD zar zaF (se_v rfl (zb1)) (se_i zae)) zaf zai) zai) (cnt_cons (cnt_cons cnt_nil))))
 exact zag
theorem zfI (T : Txt K mg C w) : RT P w K mg base k f ["row", "words_above"] "has_its_names" za8 zb7 := fun cdv A outer s H E hr => by
 refine zbK hr fun hu => ?_;have nd := (zdA).nd;have B_all := T.blt "all" (by x_go);refine zab ?_ ?_
 ·exact (zbf (zpV hu (zaD zar zaF (se_v rfl (zcN)) (se_i zae)) (zgb rfl (.inr (.inl zcP)))) (zab (zap (se_b zdB)) zag) zag)
 refine zab ?_ ?_
 ·exact (zap (zb0 (zgZ rfl) rfl B_all boot_all zkl (zaa (SN.sem (zfR "name" [("words_above", 1)] rfl (by x_go) (zru (zaD zar zaF (se_v rfl (zcN)) (se_i zae))) (fun _ _ _ _ _ _ => zfw) (fun _ _ _ _ _ _ => (zcd (zaE (X := zbX _ _ _ _ _ _ _ _ _) hu .ne) zat (ziZ hu (zgb rfl (.inr (.inl (by kernel_rfl)))) (zgb rfl (.inl (by kernel_rfl))) (se_s zak)) (se_s zak)))) zfK) zaf zdo)))
 exact zag
theorem zio (T : Txt K mg C w) (hR : 2 <= k) (a_row_of : AtG P w K mg base k "row_of" 1 zdl) (a_is_row : AtG P w K mg base k "is_row" 1 zd4) (a_has_its_names : AtG P w K mg base k "has_its_names" 2 zbl) : RTX P w K mg base k f ["text", "works", "words_above", "at", "line", "words", "row"] "read_works" zaK zcV := fun cdv A outer s H E Wx hr XF XP => by
 refine zbK hr fun hu => ?_;have nd := (zeU).nd;have B_enumerate := T.blt "enumerate" (by x_go);obtain ⟨fI_NoName, fdI_NoName, xi_NoName, FI_NoName, bI_NoName⟩ := T.o_NoName;have FO_NoName := zm6 (P := P) (w := w) (mg := mg) (base := base) (k := 0) FI_NoName zgq T.xm_DamError T.xb_DamError (by x_go);obtain ⟨fI_NoText, fdI_NoText, xi_NoText, FI_NoText, bI_NoText⟩ := T.o_NoText;have FO_NoText := zm6 (P := P) (w := w) (mg := mg) (base := base) (k := 0) FI_NoText zgn T.xm_DamError T.xb_DamError (by x_go);refine zab ?_ ?_
 ·exact (zj2 (i := 1) nd rfl (.inl zca) (zbL zaf))
 refine zab ?_ ?_
 ·exact (za7 (i := 2) nd rfl (.inl za9) zod)
 refine zab ?_ ?_
 ·exact (zoi PassesOwn.leaving rfl (zlA (i := 3) nd rfl (.inl zcQ) (zlA (i := 4) nd rfl (.inl zdi) zpp)) rfl B_enumerate (zaa (zjI PySem.F.slot_str_split PySem.F.type_str_split zi6 zi1 (se_v rfl (ze1)) (zaa (se_s zak) zaf zac)) zaf zbk) (zab (za7 (i := 5) nd rfl (.inl zb8) (zjI PySem.F.slot_str_split PySem.F.type_str_split zi6 zi1 (se_v rfl (zdi)) (zaa (se_s zak) zaf zac))) (zab (zbf (zec (zds (zas a_is_row hr rfl (zaa (se_v rfl (zb8)) zaf zaj) (cnt_cons cnt_nil)))) (zab (zh3 XF rfl T.xm_NoText T.xc_NoText xi_NoText T.xa_NoText T.xk_NoText FO_NoText (hr.mono hR) bI_NoText rfl (se_v rfl (zcQ))) zag) zag) (zab (za7 (i := 6) nd rfl (.inl zbi) (zas a_row_of hr rfl (zaa (se_v rfl (zb8)) zaf zaj) (cnt_cons cnt_nil))) (zab (zbf (zec (zds (zas a_has_its_names hr rfl (zaa (se_v rfl (zbi)) (zaa (se_v rfl (za9)) zaf zaj) zaj) (cnt_cons (cnt_cons cnt_nil))))) (zab (zh3 XF rfl T.xm_NoName T.xc_NoName xi_NoName T.xa_NoName T.xk_NoName FO_NoName (hr.mono hR) bI_NoName rfl (se_v rfl (zcQ))) zag) zag) (zab (zo7 hu (se_v rfl (za9)) (zaD zar zaF (se_v rfl (zbi)) (se_i zae)) (zaD zar zaF (se_v rfl (zbi)) (se_i zae))) (zab (zmE rfl (.inl zca) (se_v rfl (zbi))) zag)))))))
 refine zm2 ?_;refine zab ?_ ?_
 ·exact (zap (se_v rfl (zca)))
 exact zag
theorem zl5 (T : Txt K mg C w) : RT P w K mg base k f ["_law_number_here", "_law_many", "_law_found", "_law_x", "_law_k"] "_law_drawn" zcA zfr := fun cdv A outer s H E hr => by
 refine zbK hr fun hu => ?_;have nd := (zia).nd;have B_range := T.blt "range" (by x_go);refine zab ?_ ?_
 ·exact (zj2 (i := 2) nd rfl (.inl zcJ) (zbL zaf))
 refine zab ?_ ?_
 ·exact (za7 (i := 3) nd rfl (.inl zci) (zaA zdj zc9 (se_v rfl (zdH)) (se_i zae)))
 refine zab ?_ ?_
 ·exact (zim PassesOwn.never rfl nd rfl (.inl zf9) (ziJ rfl B_range (zaa (se_v rfl (zgp)) zaf zaj)) (zab (za7 (i := 3) nd rfl (.inl zci) (zaA zdj zc9 (zaA za4 zbM (zaA za4 zbM (zaA za4 zbM (zaA zcZ zef (se_v rfl (zci)) (se_v rfl (zci))) (zaA zcZ zef (se_i zae) (se_v rfl (zci)))) (zaA zcZ zef (se_i zae) (se_v rfl (zf9)))) (se_i zae)) (se_i zae))) (zab (zmE rfl (.inl zcJ) (zaA zg1 zhc (se_v rfl (zci)) (se_i zae))) zag)))
 refine zm2 ?_;refine zab ?_ ?_
 ·exact (zap (se_v rfl (zcJ)))
 exact zag
theorem zlj (T : Txt K mg C w) : RT P w K mg base k f ["_law_x", "_law_cell", "_law_some"] "_law_number" zcD zeP := fun cdv A outer s H E hr => by
 refine zbK hr fun hu => ?_;have nd := (zgu).nd;have B_str := T.blt "str" (by x_go);refine zab ?_ ?_
 ·exact (za7 (i := 2) nd rfl (.inl zbc) (SN.sem (zbL (zaa (se_s zak) (zaa (se_s zak) (zaa (se_s zak) (zaa (se_s zak) (zaa (se_s zak) (zaa (se_s zak) (zaa (zcf zbq rfl B_str boot_str zfA (zaa (zaA zgC zgy (zaA zgO zgS (se_i zae) (se_i zae)) (se_i zae)) zaf za6)) (zaa (zcf zbq rfl B_str boot_str zfA (zaa (zaA zgO zgS (se_i zae) (se_i zae)) zaf za6)) (zaa (zcf zbq rfl B_str boot_str zfA (zaa (zaA za4 zbM (zaA zgO zgS (se_i zae) (se_i zae)) (se_i zae)) zaf za6)) (zaa (se_s zak) (zaa (se_s zak) (zaa (se_s zak) zaf zac) zac) zac) zbk) zbk) zbk) zac) zac) zac) zac) zac) zac)) lst_is))
 refine zab ?_ ?_
 ·exact (za7 (i := 2) nd rfl (.inl zbc) (zaA za4 zbM (se_v rfl (zbc)) (SN.sem (zbL (zaa (se_s zak) (zaa (zaA zlL zka (se_s zak) (zaA za4 zbM (se_i zae) (zaA zdj zc9 (zaA zg1 zhc (se_v rfl (zbY)) (se_i zae)) (se_i zae)))) (zaa (zaA zlL zka (se_s zak) (zaA za4 zbM (se_i zae) (zaA zdj zc9 (zaA zg1 zhc (se_v rfl (zbY)) (se_i zae)) (se_i zae)))) (zaa (se_s zak) (zaa (se_s zak) (zaa (se_s zak) (zaa (se_s zak) (zaa (se_s zak) zaf zac) zac) zac) zac) zac) za6) za6) zac)) lst_is)))
 refine zab ?_ ?_
 ·exact (za7 (i := 2) nd rfl (.inl zbc) (zaA za4 zbM (se_v rfl (zbc)) (SN.sem (zbL (zaa (zcf zbq rfl B_str boot_str zfA (zaa (zaA zdj zc9 (zaA za4 zbM (se_v rfl (zcI)) (se_v rfl (zbY))) (zaA za4 zbM (zaA zgO zgS (se_i zae) (se_i zae)) (se_i zae))) zaf za6)) (zaa (zcf zbq rfl B_str boot_str zfA (zaa (zaA zdj zc9 (zaA za4 zbM (se_v rfl (zcI)) (se_v rfl (zbY))) (se_i zae)) zaf za6)) (zaa (zcf zbq rfl B_str boot_str zfA (zaa (zaA zdj zc9 (zaA za4 zbM (se_v rfl (zcI)) (se_v rfl (zbY))) (se_i zae)) zaf za6)) zaf zbk) zbk) zbk)) lst_is)))
 refine zab ?_ ?_
 ·exact (zap (zaD zar zaF (se_v rfl (zbc)) (zaA zdj zc9 (se_v rfl (zbY)) (se_i zae))))
 exact zag
theorem zmi (T : Txt K mg C w) : RT P w K mg base k f ["_law_word", "_law_sign"] "_law_worth" zd3 zfs := fun cdv A outer s H E hr => by
 refine zbK hr fun hu => ?_;have nd := (zhN).nd;have B_int := T.blt "int" (by x_go);have B_len := T.blt "len" (by x_go);refine zab ?_ ?_
 ·exact (zbf (SW.st (zfl (zaJ (zaE hu .eq) zat (se_v rfl (zbj)) (se_s zak)) (zfl (zaJ (zaE hu .gt) zat (zb0 zaW rfl B_len PySem.boot_len zcL (zaa (se_v rfl (zbj)) zaf zaj)) (se_i zae)) (zdS (SW.st (zqF (zaJ (zaE hu .gt) zat (zb0 zaW rfl B_len PySem.boot_len zcL (zaa (se_v rfl (zbj)) zaf zaj)) (se_i zae)) (znD (zaJ (zaE hu .eq) zat (zaD zar zaF (se_v rfl (zbj)) (se_i zae)) (se_s zak))))))))) (zab (zap (zjS zgR zgT (se_i zae))) zag) zag)
 refine zab ?_ ?_
 ·exact (zim PassesOwn.never rfl nd rfl (.inl zeg) (zom (se_v rfl (zbj))) (zab (zbf (zaJ (zaE hu .notin) zat (se_v rfl (zeg)) (se_s zak)) (zab (zap (zjS zgR zgT (se_i zae))) zag) zag) zag))
 refine zab ?_ ?_
 ·exact (zap (zcf zcs rfl B_int boot_int zhR (zaa (se_v rfl (zbj)) zaf zaj)))
 exact zag
theorem znL (T : Txt K mg C w) (a__worth : AtG P w K mg base k "_law_worth" 1 zaX) : RT P w K mg base k f ["_law_word", "_law_x", "_law_worth_here"] "_law_near" zek zf1 := fun cdv A outer s H E hr => by
 refine zbK hr fun hu => ?_;have nd := (zi7).nd;have B_str := T.blt "str" (by x_go);refine zab ?_ ?_
 ·exact (za7 (i := 2) nd rfl (.inl zau) (zas a__worth hr rfl (zaa (se_v rfl (zeQ)) zaf zaj) (cnt_cons cnt_nil)))
 refine zab ?_ ?_
 ·exact (zbf (zaJ (zaE hu .lt) zat (se_v rfl (zau)) (se_i zae)) (zab (zap (se_v rfl (zeQ))) zag) zag)
 refine zab ?_ ?_
 ·exact (zap (zcf zbq rfl B_str boot_str zfA (zaa (zaD zar zaF (SN.sem (zbL (zaa (zaA zgC zgy (se_v rfl (zau)) (se_i zae)) (zaa (se_v rfl (zau)) (zaa (zaA za4 zbM (se_v rfl (zau)) (se_i zae)) (zaa (zaA zgC zgy (zaA zcZ zef (se_i zae) (se_v rfl (zau))) (se_i zae)) (zaa (zaA zcZ zef (se_i zae) (se_v rfl (zau))) (zaa (zaA za4 zbM (zaA zcZ zef (se_i zae) (se_v rfl (zau))) (se_i zae)) (zaa (zaA zcZ zef (se_i zae) (se_v rfl (zau))) zaf za6) za6) za6) za6) za6) zaj) za6)) lst_is) (zaA zdj zc9 (se_v rfl (zjw)) (se_i zae))) zaf zai)))
 exact zag
theorem zmB (T : Txt K mg C w) (a__number : AtG P w K mg base k "_law_number" 2 zdf) (a__near : AtG P w K mg base k "_law_near" 2 zeu) : RT P w K mg base k f ["_law_xs", "_law_cell", "_law_fold", "_law_one", "_law_other", "_law_kind"] "_law_words" zco zbS := fun cdv A outer s H E hr => by
 refine zbK hr fun hu => ?_;have nd := (zhK).nd;refine zab ?_ ?_
 ·exact (za7 (i := 2) nd rfl (.inl zbP) (zaD zar zaF (SN.sem (zbL (zaa (se_s zak) (zaa (se_s zak) (zaa (se_s zak) (zaa (se_s zak) (zaa (se_s zak) (zaa (se_s zak) zaf zac) zac) zac) zac) zac) zac)) lst_is) (zaA zdj zc9 (zaA zg1 zhc (zaD zar zaF (se_v rfl (zbd)) (se_i zae)) (se_i zae)) (se_i zae))))
 refine zab ?_ ?_
 ·exact (za7 (i := 3) nd rfl (.inl zbD) (zas a__number hr rfl (zaa (zaD zar zaF (se_v rfl (zbd)) (se_i zae)) (zaa (se_v rfl (zea)) zaf zaj) zai) (cnt_cons (cnt_cons cnt_nil))))
 refine zab ?_ ?_
 ·exact (za7 (i := 4) nd rfl (.inl zbb) (zas a__number hr rfl (zaa (zaD zar zaF (se_v rfl (zbd)) (se_i zae)) (zaa (se_v rfl (zea)) zaf zaj) zai) (cnt_cons (cnt_cons cnt_nil))))
 refine zab ?_ ?_
 ·exact (za7 (i := 5) nd rfl (.inl za2) (zaA zdj zc9 (zaD zar zaF (se_v rfl (zbd)) (se_i zae)) (se_i zae)))
 refine zab ?_ ?_
 ·exact (zbf (zaJ (zaE hu .eq) zat (se_v rfl (za2)) (se_i zae)) (zab (zap (SN.sem (zbL (zaa (se_s zak) (zaa (se_s zak) (zaa (se_s zak) (zaa (zaD zar zaF (SN.sem (zbL (zaa (se_v rfl (zbD)) (zaa (zas a__near hr rfl (zaa (se_v rfl (zbb)) (zaa (zaD zar zaF (se_v rfl (zbd)) (se_i zae)) zaf zai) zaj) (cnt_cons (cnt_cons cnt_nil))) zaf zbk) zaj)) lst_is) (zaA zdj zc9 (zaD zar zaF (se_v rfl (zbd)) (se_i zae)) (se_i zae))) (zaa (se_v rfl (zbb)) zaf zaj) zai) zac) zac) zac)) lst_is)) zag) zag)
 refine zab ?_ ?_
 ·exact (zbf (zaJ (zaE hu .eq) zat (se_v rfl (za2)) (se_i zae)) (zab (zap (SN.sem (zbL (zaa (se_s zak) (zaa (se_s zak) (zaa (se_s zak) (zaa (se_v rfl (zbD)) (zaa (se_v rfl (zbP)) zaf zaj) zaj) zac) zac) zac)) lst_is)) zag) zag)
 refine zab ?_ ?_
 ·exact (zbf (zaJ (zaE hu .eq) zat (se_v rfl (za2)) (se_i zae)) (zab (zap (SN.sem (zbL (zaa (se_s zak) (zaa (se_s zak) (zaa (se_s zak) (zaa (se_v rfl (zbD)) (zaa (se_v rfl (zbP)) zaf zaj) zaj) zac) zac) zac)) lst_is)) zag) zag)
 refine zab ?_ ?_
 ·exact (zbf (zaJ (zaE hu .eq) zat (se_v rfl (za2)) (se_i zae)) (zab (zap (SN.sem (zbL (zaa (se_s zak) (zaa (se_s zak) (zaa (se_s zak) (zaa (se_s zak) (zaa (se_v rfl (zbD)) (zaa (se_s zak) zaf zac) zaj) zac) zac) zac) zac)) lst_is)) zag) zag)
 refine zab ?_ ?_
 ·exact (zbf (zaJ (zaE hu .eq) zat (se_v rfl (za2)) (se_i zae)) (zab (zap (zaA za4 zbM (SN.sem (zbL (zaa (se_s zak) (zaa (se_s zak) zaf zac) zac)) lst_is) (zoC (zbL (zaa (se_s zak) zaf zac)) (zaA zdj zc9 (zaD zar zaF (se_v rfl (zbd)) (se_i zae)) (se_i zae))))) zag) zag)
 refine zab ?_ ?_
 ·exact (zbf (zaJ (zaE hu .eq) zat (se_v rfl (za2)) (se_i zae)) (zab (zap (SN.sem (zbL (zaa (se_s zak) (zaa (se_s zak) (zaa (se_s zak) (zaa (se_v rfl (zbD)) (zaa (se_v rfl (zbb)) (zaa (se_v rfl (zbP)) zaf zaj) zaj) zaj) zac) zac) zac)) lst_is)) zag) zag)
 refine zab ?_ ?_
 ·exact (zap (SN.sem (zbL (zaa (se_s zak) (zaa (se_s zak) (zaa (se_s zak) (zaa (zas a__near hr rfl (zaa (se_v rfl (zbb)) (zaa (zaD zar zaF (se_v rfl (zbd)) (se_i zae)) zaf zai) zaj) (cnt_cons (cnt_cons cnt_nil))) (zaa (se_v rfl (zbb)) (zaa (se_v rfl (zbP)) zaf zaj) zaj) zbk) zac) zac) zac)) lst_is))
 exact zag
theorem zol (T : Txt K mg C w) (a__worth : AtG P w K mg base k "_law_worth" 1 zaX) : RT P w K mg base k f ["_law_words_here", "_law_word", "_law_width"] "_law_good" zeq zfL := fun cdv A outer s H E hr => by
 refine zbK hr fun hu => ?_;have nd := (zjs).nd;have B_len := T.blt "len" (by x_go);refine zab ?_ ?_
 ·exact (za7 (i := 1) nd rfl (.inl zb9) (zaD zar zaF (se_v rfl (zam)) (se_i zae)))
 refine zab ?_ ?_
 ·exact (zbf (zaJ (zaE hu .eq) zat (se_v rfl (zb9)) (se_s zak)) (zab (zap (zgw (c1 := .le) (c2 := .le) hu (se_i zae) (zaA zgC zgy (zb0 zaW rfl B_len PySem.boot_len zcL (zaa (se_v rfl (zam)) zaf zaj)) (se_i zae)) (se_i zae))) zag) zag)
 refine zab ?_ ?_
 ·exact (zbf (SW.st (zfl (zaJ (zaE hu .isin) zat (se_s zak) (se_v rfl (zam))) (zdS (zaJ (zaE hu .isin) zat (se_s zak) (zjI PySem.F.slot_str_join PySem.F.type_str_join zkP zkU (se_s zak) (zaa (se_v rfl (zam)) zaf zaj)))))) (zab (zap (se_b zdB)) zag) zag)
 refine zab ?_ ?_
 ·exact (zbf (zaJ (zaE hu .eq) zat (se_v rfl (zb9)) (se_s zak)) (zab (zap (zei (zgw (c1 := .le) (c2 := .le) hu (se_i zae) (zas a__worth hr rfl (zaa (zaD zar zaF (se_v rfl (zam)) (se_i zae)) zaf zai) (cnt_cons cnt_nil)) (se_i zae)) (zdq (zgw (c1 := .le) (c2 := .lt) hu (se_i zae) (zas a__worth hr rfl (zaa (zaD zar zaF (se_v rfl (zam)) (se_i zae)) zaf zai) (cnt_cons cnt_nil)) (zas a__worth hr rfl (zaa (zaD zar zaF (se_v rfl (zam)) (se_i zae)) zaf zai) (cnt_cons cnt_nil)))))) zag) zag)
 refine zab ?_ ?_
 ·exact (zbf (zaJ (zaE hu .eq) zat (se_v rfl (zb9)) (se_s zak)) (zab (zap (zgw (c1 := .le) (c2 := .le) hu (se_i zae) (zas a__worth hr rfl (zaa (zaD zar zaF (se_v rfl (zam)) (se_i zae)) zaf zai) (cnt_cons cnt_nil)) (zaA zgO zgS (se_i zae) (se_i zae)))) zag) zag)
 refine zab ?_ ?_
 ·exact (za7 (i := 2) nd rfl (.inl zcl) (zas a__worth hr rfl (zaa (zaD zar zaF (se_v rfl (zam)) (se_i zae)) zaf zai) (cnt_cons cnt_nil)))
 refine zab ?_ ?_
 ·exact (zbf (SW.st (zfl (zaJ (zaE hu .isin) zat (zaD zar zaF (se_v rfl (zam)) (zjS zgR zgT (se_i zae))) (SN.sem (zbL (zaa (se_s zak) (zaa (se_s zak) zaf zac) zac)) lst_is)) (zdS (zec (zm9 (c1 := .le) (c2 := .le) hu (se_i zae) (se_v rfl (zcl)) (zaA zgO zgS (se_i zae) (se_i zae))))))) (zab (zap (se_b zdB)) zag) zag)
 refine zab ?_ ?_
 ·exact (zbf (zaJ (zaE hu .eq) zat (se_v rfl (zb9)) (se_s zak)) (zab (zap (zei (zgw (c1 := .le) (c2 := .le) hu (se_i zae) (zas a__worth hr rfl (zaa (zaD zar zaF (se_v rfl (zam)) (se_i zae)) zaf zai) (cnt_cons cnt_nil)) (se_v rfl (zcl))) (zdq (zcd (zaE hu .le) zat (se_v rfl (zcl)) (zaA zcZ zef (se_i zae) (zas a__worth hr rfl (zaa (zaD zar zaF (se_v rfl (zam)) (se_i zae)) zaf zai) (cnt_cons cnt_nil))))))) zag) zag)
 refine zab ?_ ?_
 ·exact (zap (se_b zdB))
 exact zag
theorem znw (T : Txt K mg C w) (x_read_works : AtX P w K mg base k "read_works" 1 zcv) : RT P w K mg base k f ["_law_text", "_law_found", "e"] "_law_told" zey zho := fun cdv A outer s H E hr => by
 refine zbK hr fun hu => ?_;have nd := (zi2).nd;refine zab ?_ ?_
 ·exact (za7 (i := 1) nd rfl (.inl zck) (zc8 (zaa (se_n zrj) (zaa (zjS zgR zgT (se_i zae)) zaf ze6) zac)))
 refine zab ?_ ?_
 ·exact (zpt (i := 2) rfl rfl rfl nd rfl zhH rfl T.xm_NoText T.xc_NoText (fun c h => zhj T c h) (fun pins E' => (zkf (zp4 (i := 1) nd rfl (.inl zck) (zqz (ze3 x_read_works hr rfl (zaa (se_v rfl (zhi)) zaf zaj) (cnt_cons cnt_nil)) (zaa (zjS zgR zgT (se_i zae)) zaf ze6) zbk)))) (fun e' => (zab (za7 (i := 1) nd rfl (.inl zck) (zc8 (zaa (se_s zak) (zaa (zrc rfl (.inl zhH) (fun c C h m => zkk T c C h m)) zaf zht) zac))) zag)))
 refine zab ?_ ?_
 ·exact (zap (se_v rfl (zck)))
 exact zag
theorem zsr (T : Txt K mg C w) (a__drawn : AtG P w K mg base k "_law_drawn" 2 zdX) (a__words : AtG P w K mg base k "_law_words" 2 zbR) (a__good : AtG P w K mg base k "_law_good" 1 zer) (a__told : AtG P w K mg base k "_law_told" 1 zf5) : RT P w K mg base k f ["_law_script", "_law_cell", "_law_words_here", "_law_found", "_law_many", "_law_row"] "law" zdD zme := fun cdv A outer s H E hr => by
  refine zbK hr fun hu => ?_;have nd := (zmS).nd;have B_len := T.blt "len" (by x_go);have B_min := T.blt "min" (by x_go);have B_range := T.blt "range" (by x_go);have B_tuple := T.blt "tuple" (by x_go);refine zab ?_ ?_
  · refine zim ?_ ?_ ?_ ?_ ?_ ?_ ?_
    · exact PassesOwn.never
    · exact rfl
    · exact nd
    · exact rfl
    · exact (.inl zew)
    · refine zqv ?_
      · refine zaA za4 zbM ?_ ?_
        · refine SN.sem ?_ ?_
          · refine zbL ?_
            · refine zaa ?_ ?_ ?_
              · refine se_i ?_
                · exact zae
              · exact zaf
              · exact zac
          · exact lst_is
        · refine SN.sem ?_ ?_
          · exact (zfR "_law_k" [("_law_script", 0)] rfl (by x_go) (ziJ rfl B_range (zaa (zb0 (zko rfl) rfl B_min boot_min zpM (zaa (se_i zae) (zaa (zb0 zaW rfl B_len PySem.boot_len zcL (zaa (zgb rfl (.inr (.inl zg6))) zaf zaj)) zaf zbk) zac)) zaf zbk)) (fun _ _ _ _ _ _ => zfw) (fun _ _ _ _ _ _ => (zaA za4 zbM (zaD zar zaF (zgb rfl (.inr (.inl (by kernel_rfl)))) (zgb rfl (.inl (by kernel_rfl)))) (zaA zcZ zef (se_i zae) (zgb rfl (.inl (by kernel_rfl)))))))
          · exact zfK
    · refine zab ?_ ?_
      · refine za7 (i := 2) ?_ ?_ ?_ ?_
        · exact nd
        · exact rfl
        · exact (.inl zaw)
        · refine zas a__words hr rfl ?_ ?_
          · refine zaa ?_ ?_ ?_
            · refine zas a__drawn hr rfl ?_ ?_
              · refine zaa ?_ ?_ ?_
                · refine se_v ?_ ?_
                  · exact rfl
                  · exact zew
                · refine zaa ?_ ?_ ?_
                  · refine se_i ?_
                    · exact zae
                  · exact zaf
                  · exact zac
                · exact zaj
              · refine cnt_cons ?_
                · refine cnt_cons ?_
                  · exact cnt_nil
            · refine zaa ?_ ?_ ?_
              · refine se_v ?_ ?_
                · exact rfl
                · exact zew
              · exact zaf
              · exact zaj
            · exact zbk
          · refine cnt_cons ?_
            · refine cnt_cons ?_
              · exact cnt_nil
      · refine zab ?_ ?_
        · refine za7 (i := 3) ?_ ?_ ?_ ?_
          · exact nd
          · exact rfl
          · exact (.inl zdE)
          · refine zas a__told hr rfl ?_ ?_
            · refine zaa ?_ ?_ ?_
              · refine zaA za4 zbM ?_ ?_
                · refine se_s ?_
                  · exact zak
                · refine zjI PySem.F.slot_str_join PySem.F.type_str_join zkP zkU ?_ ?_
                  · refine se_s ?_
                    · exact zak
                  · refine zaa ?_ ?_ ?_
                    · refine se_v ?_ ?_
                      · exact rfl
                      · exact zaw
                    · exact zaf
                    · exact zaj
              · exact zaf
              · exact za6
            · refine cnt_cons ?_
              · exact cnt_nil
        · refine zab ?_ ?_
          · refine za7 (i := 4) ?_ ?_ ?_ ?_
            · exact nd
            · exact rfl
            · exact (.inl zet)
            · refine ziZ ?_ ?_ ?_ ?_
              · exact hu
              · refine zq1 ?_
                · refine zi3 ?_ ?_ ?_
                  · refine se_s ?_
                    · exact zak
                  · refine se_i ?_
                    · exact zae
                  · refine zi3 ?_ ?_ ?_
                    · refine se_s ?_
                      · exact zak
                    · refine zaA zgC zgy ?_ ?_
                      · refine zb0 zaW rfl B_len PySem.boot_len zcL ?_
                        · refine zaa ?_ ?_ ?_
                          · refine se_v ?_ ?_
                            · exact rfl
                            · exact zaw
                          · exact zaf
                          · exact zaj
                      · refine se_i ?_
                        · exact zae
                    · exact znv
              · refine zaD zar zaF ?_ ?_
                · refine se_v ?_ ?_
                  · exact rfl
                  · exact zaw
                · refine se_i ?_
                  · exact zae
              · refine se_i ?_
                · exact zae
          · refine zab ?_ ?_
            · refine za7 (i := 5) ?_ ?_ ?_ ?_
              · exact nd
              · exact rfl
              · exact (.inl zgG)
              · refine zc8 ?_
                · refine zaa ?_ ?_ ?_
                  · refine zaD zar zaF ?_ ?_
                    · refine se_v ?_ ?_
                      · exact rfl
                      · exact zaw
                    · refine se_i ?_
                      · exact zae
                  · refine zaa ?_ ?_ ?_
                    · refine zaD zar zaF ?_ ?_
                      · refine se_v ?_ ?_
                        · exact rfl
                        · exact zaw
                      · refine se_i ?_
                        · exact zae
                    · refine zaa ?_ ?_ ?_
                      · refine zcf zby rfl B_tuple boot_tuple zgP ?_
                        · refine zaa ?_ ?_ ?_
                          · refine zla ?_ ?_ ?_
                            · refine se_v ?_ ?_
                              · exact rfl
                              · exact zaw
                            · refine zhD (Wx := W0) ?_
                              · refine se_i ?_
                                · exact zae
                            · refine zhD (Wx := W0) ?_
                              · refine zaA za4 zbM ?_ ?_
                                · refine se_i ?_
                                  · exact zae
                                · refine se_v ?_ ?_
                                  · exact rfl
                                  · exact zet
                          · exact zaf
                          · exact zai
                      · refine zaa ?_ ?_ ?_
                        · refine zcf zby rfl B_tuple boot_tuple zgP ?_
                          · refine zaa ?_ ?_ ?_
                            · refine zla ?_ ?_ ?_
                              · refine se_v ?_ ?_
                                · exact rfl
                                · exact zaw
                              · refine zhD (Wx := W0) ?_
                                · refine zaA za4 zbM ?_ ?_
                                  · refine se_i ?_
                                    · exact zae
                                  · refine se_v ?_ ?_
                                    · exact rfl
                                    · exact zet
                              · exact zlZ
                            · exact zaf
                            · exact zai
                        · exact zaf
                        · exact zbk
                      · exact zbk
                    · exact zai
                  · exact zai
            · refine zab ?_ ?_
              · refine zbf ?_ ?_ ?_
                · refine zds ?_
                  · refine zas a__good hr rfl ?_ ?_
                    · refine zaa ?_ ?_ ?_
                      · refine se_v ?_ ?_
                        · exact rfl
                        · exact zaw
                      · exact zaf
                      · exact zaj
                    · refine cnt_cons ?_
                      · exact cnt_nil
                · refine zab ?_ ?_
                  · refine zbf ?_ ?_ ?_
                    · refine zaJ (zaE hu .ne) zat ?_ ?_
                      · refine se_v ?_ ?_
                        · exact rfl
                        · exact zdE
                      · refine zc8 ?_
                        · refine zaa ?_ ?_ ?_
                          · refine SN.sem ?_ ?_
                            · refine zbL ?_
                              · refine zaa ?_ ?_ ?_
                                · refine zc8 ?_
                                  · refine zaa ?_ ?_ ?_
                                    · refine se_s ?_
                                      · exact zak
                                    · refine zaa ?_ ?_ ?_
                                      · refine se_s ?_
                                        · exact zak
                                      · refine zaa ?_ ?_ ?_
                                        · refine zc8 ?_
                                          · exact zaf
                                        · refine zaa ?_ ?_ ?_
                                          · refine zc8 ?_
                                            · exact zaf
                                          · exact zaf
                                          · exact zfm
                                        · exact zfm
                                      · exact zac
                                    · exact zac
                                · refine zaa ?_ ?_ ?_
                                  · refine se_v ?_ ?_
                                    · exact rfl
                                    · exact zgG
                                  · exact zaf
                                  · exact zaj
                                · exact zfm
                            · exact lst_is
                          · refine zaa ?_ ?_ ?_
                            · refine zjS zgR zgT ?_
                              · refine se_i ?_
                                · exact zae
                            · exact zaf
                            · exact ze6
                          · exact zoY
                    · refine zab ?_ ?_
                      · refine zap ?_
                        · refine se_b ?_
                          · exact zdB
                      · exact zag
                    · exact zag
                  · exact zag
                · refine zab ?_ ?_
                  · refine zbf ?_ ?_ ?_
                    · refine zaJ (zaE hu .ne) zat ?_ ?_
                      · refine se_v ?_ ?_
                        · exact rfl
                        · exact zdE
                      · refine zc8 ?_
                        · refine zaa ?_ ?_ ?_
                          · refine se_s ?_
                            · exact zak
                          · refine zaa ?_ ?_ ?_
                            · refine se_i ?_
                              · exact zae
                            · exact zaf
                            · exact zac
                          · exact zac
                    · refine zab ?_ ?_
                      · refine zap ?_
                        · refine se_b ?_
                          · exact zdB
                      · exact zag
                    · exact zag
                  · exact zag
              · exact zag
  refine zab ?_ ?_
  · refine zap ?_
    · refine se_b ?_
      · exact zdB
  exact zag
end
def lawK : Nat := 13
def lawG : G := zqu
local macro_rules | `(tactic| z_go) => `(tactic| try simp only [zmz, r_nx, r_rt, r_bk, r_ct, r_ex, ztE, q_v, r_v, zq6, zsA, q_1, r_1, q_2, r_2, r_2s, zti, ztC, w_bl, zsM, zth, ztA, ztk, zsR, zsq, ztb, q_or, zsy, zsX, zs7, zqH, zqC, zrH, q_n, r_n, zrB, zsn, zsd, zoM, zp0, zj3, znA, zpd, q_sl, zso, zsL, zs0, zsb, zsK, zj0, zrx, zpL, zqP, zs4, zqo, r_if, q_if, ztT, zsf, ztv, zs8, ztU, zt4, zp3, zqp, zrr, q_fn, zp6, zrW, zp5, zrX, zt0, zpF, ztr, zsY, ztK, o_lt, o_le, o_gt, o_ge, zsx, zsa, zss, zsF, zqS, zrV, ztF, zro, zrC, ztS, zr6, sizeLine_eq, Option.map_some, Option.map_none, List.getElem?_cons_zero, List.getElem?_cons_succ, List.set_cons_zero, List.set_cons_succ, List.map_cons, List.map_nil, List.length_cons, List.length_nil, List.length_map, List.replicate, List.cons_append, List.nil_append, List.append_nil, reduceCtorEq, if_true, if_false, reduceIte, Bool.not_true, Bool.not_false, Nat.reduceSub, Nat.reduceAdd, Nat.reduceLeDiff, Nat.reduceLT, Int.reduceLT, Int.reduceLE, Int.reduceAdd, Int.reduceSub, Int.reduceMul, Int.reduceNeg, Int.reduceAbs, Int.reduceEq, Int.reducePow, Int.reduceMod, Int.reduceDiv, Int.reduceToNat, Nat.zero_le, and_true, true_and, and_self, or_true, true_or, Bool.false_eq_true, decide_eq_true_eq, decide_true, decide_false, Bool.not_eq_true', decide_eq_false_iff_not, not_true_eq_false, not_false_eq_true, eq_self, zpj, zrk, znX, zrG, zqY, Option.getD_some, zo0, zny, zte, ztR, zrQ, zsV, List.isEmpty_cons, List.isEmpty_nil, Bool.true_eq_false, Bool.and_self, Bool.and_true, Bool.true_and, Bool.and_false, Bool.false_and, znC, zof, zox, zoh, zoL, zts, zmK, zr0, zt9, zt5, zpD, zq2, zrS, znG, ztG, znY, zo5, zrg, znz, zqs, zt1, ztL, zsC, zpi, zpu, zsN, ztP, zp9, zqy, r_mt, q_mt, t_st, zoo, zk3, zlk, r_jv, znf, r_jr, zno, zqO, zsO, zsk, zqq, zsl, zsG, zsm, zqe, zt2, zpB, ztI, zs5, zpT, zpm, zpf, t_ls, zqg, zsz, Bool.true_or, Bool.false_or, Bool.or_true, Bool.or_false, at0, at1, at2, at3, zjW, s_end, w_end, zoc, zoe, zqr, zsW, ztz, zto, zsu, zpv, ztx, zrO, zrI, zrJ, znU, zmr, ztd, zsv, zpW])
variable {M : Mm}
theorem ztX (c : Nat) : zc0 [.val (.str ⟨#[c]⟩)] M = some (.v (.bl (!dgc c)), M) := by
 unfold zc0;z_go;rw [zlM]
theorem znS (x : Str) (hx : x.length <= 100000) : zbs [.str x] M = some (.v (.bl (figB (cd x))), M) := by
 unfold zbs zcX;z_go;rw [show x.cps.toList = cd x from rfl];simp only [eq_e, eq_0];have hl : (cd x).length <= 100000 := by rw [<- zeh]; exact hx
 by_cases h : cd x = []
 ·simp only [h];z_go;rfl
 ·simp only [h];rw [zeV (fun c => D.str ⟨#[c]⟩) (fun c => D.bl (!dgc c)) (cd x) [] (fun c _ => ztX c) (by rw [sizeLine_eq]; simp; omega)];z_go;rw [show ((cd x).map fun c => D.bl (!dgc c)) = ((cd x).map fun c => !dgc c).map D.bl by rw [List.map_map]; rfl, zeF];z_go;simp only [zon];obtain ⟨c, r, e⟩ := List.exists_cons_of_ne_nil h;unfold figB;cases hd : (cd x).all dgc
  ·z_go
  ·z_go;rw [if_pos (show x.length <= 16777216 by omega), show x.cps.toList = cd x from rfl];simp only [h, eq_0];rw [e, show atI (c :: r) 0 = some c by simp [atI, ixN]]
   by_cases h0 : (c :: r) = [48]
   ·simp only [h0];z_go
   ·simp only [h0];z_go;simp only [eq_0, zmJ, List.head?_cons, Option.some.injEq, List.cons.injEq];z_go
theorem zsp (x : Str) (hx : x.length <= 10000) : zaS [.str x] M = some (.v (.bl (good (cd x))), M) := by
 unfold zaS zbe;z_go;rw [ztl];have hl := zeh x
 by_cases h : (cd x).head? = some 45
 ·obtain ⟨r, e⟩ : ∃ r, cd x = 45 :: r := by
   cases hc : cd x with
   | nil => rw [hc] at h; cases h
   | cons c r => rw [hc] at h; simp at h; exact ⟨r, by rw [h]⟩
  have hs := zlP e;have hr : (Txt.slice x (some 1) none).length <= 10000 := by
   rw [zeh, hs];rw [e] at hl
   simp at hl
   omega
  simp only [h];z_go;rw [if_pos (show x.length <= 16777216 by omega)];z_go;simp only [zqn, znS _ (show (Txt.slice x (some 1) none).length <= 100000 by omega), hs];unfold good fgs;rw [if_pos h];simp only [e, List.tail_cons]
  by_cases h2 : 45 :: r = [45, 48]
  ·simp only [h2];z_go
  ·simp only [h2];z_go
 ·simp only [h];z_go;simp only [zqn, znS _ (show x.length <= 100000 by omega)];unfold good fgs;rw [if_neg h]
  by_cases h2 : cd x = [45, 48]
  ·simp only [h2];z_go
  ·simp only [h2];z_go
def isn (x : Str) : Bool := good (cd x) && decide ((fgs (cd x)).length <= 20)
theorem g_num (x : Str) (hx : x.length <= 10000) : zcK [.str x] M = some (.v (.bl (isn x)), M) := by
 unfold zcK zdn isn;z_go;simp only [zsp x hx];z_go;rw [if_pos (show x.length <= 16777216 by omega)];z_go;cases hg : good (cd x)
 ·z_go
 ·have hl := zoy hg;have := PyProof.Rows.len_lstripChars x (Str.ofString "-");z_go;rw [if_pos (by omega), hl];z_go;congr 4;rw [Bool.eq_iff_iff];simp only [decide_eq_true_eq];omega
def tvw (x : Str) : Bool := decide (x = "t") || decide (x = "v") || decide (x = "w")
def lf (x L : Str) : Bool := isn x || (tvw x && zgm x L)
theorem ztm {x : Str} : oCmp .isin (.str x) (.tup [.str "t", .str "v", .str "w"]) = some (.bl (tvw x)) := by
 have q : ∀ y : Str, D.eq (.str y) (.str x) = decide (x = y) := fun y => by
  simp only [D.eq];rw [Bool.eq_iff_iff]
  simp
  exact eq_comm
 unfold oCmp cmpD cIn tvw;simp only [D.flat, List.all_cons, List.all_nil, Bool.and_self, if_true, List.any_cons, List.any_nil, Bool.or_false, q, Option.map_some];rw [Bool.or_assoc]
theorem zns (x L : Str) (hx : x.length <= 10000) : zdN [.str x, .str L] M = some (.v (.bl (lf x L)), M) := by
 unfold zdN zeH lf;z_go;simp only [g_num x hx];cases isn x
 ·z_go;rw [ztm];cases tvw x
  ·z_go
  ·z_go
 ·z_go
theorem ztY {x z c : Str} {env : E3.Env} {k : Nat} (he : env[k]? = some (.val (.str x))) (hx : x.length <= 100000) (hz : z.length <= 1000) : zeN c (sFst (jVal (sVar k) (jCon z jEnd))) env M = some (.ex c 0, M) := by
 rw [ziO, zoo, znf, q_v, he, r_v, zj3, zqg, sizeLine_eq, if_pos (show x.length <= 16777216 by omega), r_jv, sizeLine_eq];have e : (Str.empty ++ x).length = x.length := by rw [strLen_append, show Str.empty.length = 0 from rfl]; omega
 rw [if_pos (by omega), zlk, sizeLine_eq, if_pos (by rw [strLen_append]; omega), zk3, sizeLine_eq, if_pos (by rw [strLen_append]; omega)];rfl
theorem zst {x z c : Str} {env : E3.Env} {k : Nat} (he : env[k]? = some (.val (.str x))) (hx : (reprText x).length <= 100000) (hz : z.length <= 1000) : zeN c (sFst (jRep (sVar k) (jCon z jEnd))) env M = some (.ex c 0, M) := by
 rw [ziO, zoo, zno, q_v, he, r_v, zj3];have e : (Str.empty ++ reprText x).length = (reprText x).length := by rw [strLen_append, show Str.empty.length = 0 from rfl]; omega
 rw [r_jr, sizeLine_eq, if_pos ⟨by omega, by omega⟩, zlk, sizeLine_eq, if_pos (by rw [strLen_append]; omega), zk3, sizeLine_eq, if_pos (by rw [strLen_append]; omega)];rfl
def sm (x : Str) : Prop := x.length <= 9000 /\ ∀ c ∈ cd x, c < 4294967296
theorem sm.rp {x : Str} (h : sm x) : (reprText x).length <= 100000 := by
 have := StrLaws.reprText_len x (fun c hc => h.2 c hc);have := h.1;omega
def NT : List (Str × (Str × Str × Nat)) := [("+", "number", "number", 2), ("-", "number", "number", 2), ("*", "number", "number", 2), ("least", "number", "number", 2), ("most", "number", "number", 2), ("<", "truth", "number", 2), ("=", "truth", "number", 2), ("not", "truth", "truth", 1), ("and", "truth", "truth", 2), ("or", "truth", "truth", 2)]
def ndl (x : Str) : Option (Str × Str × Nat) := (NT.find? fun p => decide (p.1 = x)).map (·.2)
def ndD (q : Str × Str × Nat) : D := .tup [.str q.1, .str q.2.1, .int q.2.2]
theorem zrT : zda = NT.map fun p => (p.1, ndD p.2) := rfl
theorem zeZ {x : Str} : zct zda x = (ndl x).map ndD := by
 rw [zrT];unfold zct ndl;rw [List.find?_map];show Option.map _ (Option.map _ (NT.find? fun p => decide (p.1 = x))) = _;cases NT.find? fun p => decide (p.1 = x) <;> rfl
theorem zrm {x : Str} {q : Str × Str × Nat} (h : ndl x = some q) : (x, q) ∈ NT := by
 unfold ndl at h;rw [Option.map_eq_some_iff] at h;obtain ⟨p, hp, rfl⟩ := h;have h1 := List.find?_some hp;have h2 := List.mem_of_find?_eq_some hp;rw [<- of_decide_eq_true h1];exact h2
theorem zqL : NT.all (fun p => (decide (p.2.2.2 = 1) || decide (p.2.2.2 = 2)) && (!isn p.1 && (!tvw p.1 && decide (p.1.length <= 5)))) = true := by x_go
theorem zr4 {x : Str} {q : Str × Str × Nat} (h : ndl x = some q) : (q.2.2 = 1 \/ q.2.2 = 2) /\ isn x = false /\ tvw x = false /\ x.length <= 5 := by
 have := List.all_eq_true.mp zqL _ (zrm h);simp only [Bool.and_eq_true, Bool.or_eq_true, decide_eq_true_eq, Bool.not_eq_true'] at this;exact this
theorem zou {x : Str} (h : isn x = true \/ tvw x = true) : ndl x = none := by
  cases hn : ndl x with
  | none => rfl
  | some d =>
    obtain ⟨_, h1, h2, _⟩ := zr4 hn;rw [h1, h2] at h;rcases h with h | h <;> cases h
theorem zuc {x L : Str} (h : lf x L = true) : ndl x = none := by
 unfold lf at h;rw [Bool.or_eq_true, Bool.and_eq_true] at h;exact zou (h.imp id (·.1))
def zfJ (a : Str) : Nat -> List Str -> Option (List Str)
 | 0, ks => some ks
 | _ + 1, [] => none
 | n + 1, b :: ks => if b = a then zfJ a n ks else none
def stepK (L x : Str) (ks : List Str) : Option (List Str) := match ndl x with
 | some q => (zfJ q.2.1 q.2.2 ks).map (q.1 :: ·)
 | none => if lf x L = true then some ("number" :: ks) else none
def runK (L : Str) : List Str -> List Str -> Option (List Str)
 | [], ks => some ks
 | x :: xs, ks => (stepK L x ks).bind (runK L xs)
theorem zg2 {L : Str} : ∀ {xs ys ks : List Str}, runK L (xs ++ ys) ks = (runK L xs ks).bind (runK L ys)
  | [], _, _ => rfl
  | x :: xs, ys, ks => by
    rw [List.cons_append, runK, runK]
    cases stepK L x ks with
    | none => rfl
    | some k => exact zg2
abbrev kc (ks : List Str) : E3.Cl := .lst (ks.map D.str).reverse
theorem zpC {k : Nat} {d : D} {ds : List D} : popZ M k (d :: ds).reverse (d :: ds).reverse[(d :: ds).reverse.length - 1]? = some (.v d, M.set k (.lst ds.reverse)) := by
 have e1 : (d :: ds).reverse[(d :: ds).reverse.length - 1]? = some d := by simp
 have e2 : (d :: ds).reverse.dropLast = ds.reverse := by simp
 rw [e1, zmK, e2]
theorem ziw {x : Str} {q : Str × Str × Nat} {i : Int} {ks : List Str} (hl : x.length <= 5) : zcF [.val (.str x), .val (.ref M.length), .val (ndD q), .val (.int i)] (M ++ [kc ks]) = match ks with
    | [] => some (.ex "NoExpr" 0, M ++ [kc []])
    | b :: ks => if b = q.2.1 then some (.nx [.val (.str x), .val (.ref M.length), .val (ndD q), .val (.int i)], M ++ [kc ks]) else some (.ex "NoExpr" 0, M ++ [kc ks]) := by
  have mg : ∀ N : Mm, zeN "NoExpr" (sFst (jVal (sVar 0) (jCon " needs other words behind it" jEnd))) [.val (.str x), .val (.ref M.length), .val (ndD q), .val (.int i)] N = some (.ex "NoExpr" 0, N) := fun N => ztY (M := N) (k := 0) rfl (show x.length <= 100000 by omega) (by x_go);unfold zcF kc ndD;unfold ndD at mg
  cases ks with
  | nil =>
    z_go;rw [show ([] : List D).reverse = [] from rfl];z_go;rw [mg];rfl
  | cons b ks =>
    z_go;rw [List.isEmpty_reverse];z_go;rw [zpC];z_go
    by_cases h : b = q.2.1
    · simp only [h];z_go
    · simp only [h];z_go;rw [mg];rfl
theorem zt6 {x : Str} {q : Str × Str × Nat} (h : ndl x = some q) (ks : List Str) : (∃ ks', zfJ q.2.1 q.2.2 ks = some ks' /\ zbF [.str x, .ref M.length] (M ++ [kc ks]) = some (.v .non, M ++ [kc ks'])) \/ (zfJ q.2.1 q.2.2 ks = none /\ ∃ ks', zbF [.str x, .ref M.length] (M ++ [kc ks]) = some (.x "NoExpr" 0, M ++ [kc ks'])) := by
  obtain ⟨hn, _, _, hl⟩ := zr4 h;unfold zbF zcB;z_go;rw [zeZ, h];z_go;have i2 : ∀ N : Mm, mapR N (oIx (ndD q) (.int 2)) = some (.v (.int q.2.2), N) := fun N => by
    unfold ndD;z_go
  have w0 : ∀ N : Mm, vw N (ndD q) = ndD q := fun N => rfl;simp only [w0, i2];z_go;rcases hn with hn | hn
  · rw [hn, zjr (by omega), show ((List.range ((1 : Nat) : Int).toNat).map fun (k : Nat) => D.int (0 + k)) = [.int 0] from rfl];z_go;rw [ziw hl]
    cases ks with
    | nil => exact .inr ⟨rfl, [], rfl⟩
    | cons b ks =>
      dsimp only;unfold zfJ
      by_cases hb : b = q.2.1
      · rw [if_pos hb, if_pos hb];exact .inl ⟨ks, rfl, rfl⟩
      · rw [if_neg hb, if_neg hb];exact .inr ⟨rfl, ks, rfl⟩
  · rw [hn, zjr (by omega), show ((List.range ((2 : Nat) : Int).toNat).map fun (k : Nat) => D.int (0 + k)) = [.int 0, .int 1] from rfl];z_go;rw [ziw hl]
    cases ks with
    | nil => exact .inr ⟨rfl, [], rfl⟩
    | cons b ks =>
      dsimp only;unfold zfJ
      by_cases hb : b = q.2.1
      · rw [if_pos hb, if_pos hb];z_go;rw [ziw hl]
        cases ks with
        | nil => exact .inr ⟨rfl, [], rfl⟩
        | cons b ks =>
          dsimp only;unfold zfJ
          by_cases hb : b = q.2.1
          · rw [if_pos hb, if_pos hb];exact .inl ⟨ks, rfl, rfl⟩
          · rw [if_neg hb, if_neg hb];exact .inr ⟨rfl, ks, rfl⟩
      · rw [if_neg hb, if_neg hb];exact .inr ⟨rfl, ks, rfl⟩
theorem zm7 {ks : List Str} {y : Str} : (ks.map D.str).reverse ++ [D.str y] = ((y :: ks).map D.str).reverse := by rw [List.map_cons, List.reverse_cons]
theorem zo8 {d0 : D} {x L wt : Str} {ks : List Str} (hx : sm x) (hk : ks.length < 1000) : (∃ ks', stepK L x ks = some ks' /\ zaL [.val d0, .val (.str L), .val (.str wt), .val (.ref M.length), .val (.str x)] (M ++ [kc ks]) = some (.nx [.val d0, .val (.str L), .val (.str wt), .val (.ref M.length), .val (.str x)], M ++ [kc ks'])) \/ (stepK L x ks = none /\ ∃ ks', zaL [.val d0, .val (.str L), .val (.str wt), .val (.ref M.length), .val (.str x)] (M ++ [kc ks]) = some (.ex "NoExpr" 0, M ++ [kc ks'])) := by
  have mg := zst (M := M ++ [kc ks]) (c := "NoExpr") (z := " may not stand here") (k := 4) (env := [.val d0, .val (.str L), .val (.str wt), .val (.ref M.length), .val (.str x)]) rfl hx.rp (by x_go);unfold zaL stepK
  cases hn : ndl x with
  | some q =>
    have i0 : ∀ N : Mm, mapR N (oIx (ndD q) (.int 0)) = some (.v (.str q.1), N) := fun N => by
      unfold ndD;z_go
    have w0 : ∀ N : Mm, vw N (ndD q) = ndD q := fun N => rfl;dsimp only;rcases zt6 (M := M) hn ks with ⟨ks', e1, e2⟩ | ⟨e1, ks', e2⟩
    · have hk' : ks'.length <= ks.length := by
        have : ∀ (n : Nat) (ks ks' : List Str), zfJ q.2.1 n ks = some ks' -> ks'.length <= ks.length := fun n => by
          induction n with
          | zero => intro ks ks' h; cases h; exact Nat.le_refl _
          | succ n ih =>
            intro ks ks' h
            cases ks with
            | nil => cases h
            | cons b ks =>
              unfold zfJ at h;split at h
              · have := ih ks ks' h;rw [List.length_cons];omega
              · cases h
        exact this _ _ _ e1
      refine .inl ⟨q.1 :: ks', by rw [e1]; rfl, ?_⟩;z_go;rw [zeZ, hn];simp only [Option.map_some, Option.isSome_some];z_go;rw [e2];z_go;rw [zeZ, hn];z_go;simp only [w0, i0];unfold kc;z_go;rw [List.length_reverse, List.length_map, if_pos (by omega), zm7];z_go
    · refine .inr ⟨by rw [e1]; rfl, ks', ?_⟩;z_go;rw [zeZ, hn];simp only [Option.map_some, Option.isSome_some];z_go;rw [e2];rfl
  | none =>
    dsimp only;cases hf : lf x L
    · refine .inr ⟨rfl, ks, ?_⟩;z_go;rw [zeZ, hn];simp only [Option.map_none, Option.isSome_none];z_go;rw [zns x L (by have := hx.1; omega), hf];z_go;rw [mg];rfl
    · refine .inl ⟨"number" :: ks, rfl, ?_⟩;z_go;rw [zeZ, hn];simp only [Option.map_none, Option.isSome_none];z_go;rw [zns x L (by have := hx.1; omega), hf];unfold kc;z_go;rw [List.length_reverse, List.length_map, if_pos (by omega), zm7];z_go
theorem zlN {L x : Str} {ks ks' : List Str} (h : stepK L x ks = some ks') : ks'.length <= ks.length + 1 := by
  have tk : ∀ (a : Str) (n : Nat) (ks ks' : List Str), zfJ a n ks = some ks' -> ks'.length <= ks.length := fun a n => by
    induction n with
    | zero => intro ks ks' h; cases h; exact Nat.le_refl _
    | succ n ih =>
      intro ks ks' h
      cases ks with
      | nil => cases h
      | cons b ks =>
        unfold zfJ at h;split at h
        · have := ih ks ks' h;rw [List.length_cons];omega
        · cases h
  unfold stepK at h;split at h
  · rw [Option.map_eq_some_iff] at h;obtain ⟨k1, h1, rfl⟩ := h;have := tk _ _ _ _ h1;rw [List.length_cons];omega
  · split at h
    · cases h; rw [List.length_cons]; omega
    · cases h
theorem ziY {L : Str} : ∀ {xs ks ks' : List Str}, runK L xs ks = some ks' -> ks'.length <= ks.length + xs.length
  | [], _, _, h => by cases h; exact Nat.le_add_right _ _
  | x :: xs, ks, ks', h => by
    unfold runK at h;rw [Option.bind_eq_some_iff] at h;obtain ⟨k1, h1, h2⟩ := h;have := zlN h1;have := ziY h2;rw [List.length_cons];omega
theorem zhW : ∀ ys : List Str, D.deps (ys.map D.str) = 0
 | [] => by simp [D.deps]
 | y :: ys => by simp [D.deps, D.dep, zhW ys]
theorem zmG : ∀ (as bs : List Str), D.eqs (as.map D.str) (bs.map D.str) = decide (as = bs)
  | [], [] => by simp [D.eqs]
  | [], b :: bs => by simp [D.eqs]
  | a :: as, [] => by simp [D.eqs]
  | a :: as, b :: bs => by
    simp only [List.map_cons, D.eqs, D.eq, zmG as bs];rw [Bool.eq_iff_iff]
    simp
theorem zrR {as bs : List Str} : oCmp .ne (.lst (as.map D.str)) (.lst (bs.map D.str)) = some (.bl (!decide (as = bs))) := by
 unfold oCmp cmpD cNe;rw [if_pos ⟨by simp [eqOk, D.flat, D.dep, zhW], by simp [D.dep, zhW]⟩];simp only [D.eq, zmG, Option.map_some]
theorem ztn {ks : List Str} {wt : Str} : oCmp .ne (.lst (ks.map D.str).reverse) (.lst [.str wt]) = some (.bl (!decide (ks = [wt]))) := by
 rw [<- List.map_reverse, show [D.str wt] = [wt].map D.str from rfl, zrR];have : (ks.reverse = [wt]) = (ks = [wt]) := propext ⟨fun h => by rw [<- List.reverse_reverse ks, h]; rfl, fun h => by rw [h]; rfl⟩;simp only [this]
def CkQ (M : Mm) (d0 : D) (L wt : Str) (ws : List Str) (o : E3.OS) : Prop := (∃ ks s4, o = some (.nx [.val d0, .val (.str L), .val (.str wt), .val (.ref M.length), s4], M ++ [kc ks]) /\ runK L ws.reverse [] = some ks) \/ (runK L ws.reverse [] = none /\ ∃ ks, o = some (.ex "NoExpr" 0, M ++ [kc ks]))
theorem take_snoc {ws : List Str} {k : Nat} {x : Str} (h : ws[k]? = some x) : ws.take (k + 1) = ws.take k ++ [x] := by
 rw [List.take_add_one, h]; rfl
theorem zoF {d0 : D} {L wt : Str} {ws : List Str} (hs : ∀ x ∈ ws, sm x) (hl : ws.length <= 900) : CkQ M d0 L wt ws (loopS 4 zaL (ws.map D.str).reverse [.val d0, .val (.str L), .val (.str wt), .val (.ref M.length), .un] (M ++ [kc []])) := by
 refine ziB (CkQ M _ L wt ws) (fun k env N => ∃ ks s4, env = [.val d0, .val (.str L), .val (.str wt), .val (.ref M.length), s4] /\ N = M ++ [kc ks] /\ runK L (ws.reverse.take k) [] = some ks) ⟨[], .un, rfl, rfl, by rw [List.take_zero]; rfl⟩ ?_ ?_
 ·rintro k d env N hd ⟨ks, s4, rfl, rfl, hk⟩;rw [<- List.map_reverse, List.getElem?_map, Option.map_eq_some_iff] at hd;obtain ⟨x, hx, rfl⟩ := hd;refine ⟨by show 4 < 5; decide, ?_⟩;have hlen := ziY hk;have hkl : (ws.reverse.take k).length <= ws.length := by rw [List.length_take, List.length_reverse]; exact Nat.min_le_right _ _
  rw [List.length_nil] at hlen;show Step _ _ (zaL [.val d0, .val (.str L), .val (.str wt), .val (.ref M.length), .val (.str x)] (M ++ [kc ks]));rcases zo8 (M := M) (d0 := d0) (L := L) (wt := wt) (ks := ks) (hs x (by have := List.mem_of_getElem? hx; simpa using this)) (by omega) with ⟨ks', e1, e2⟩ | ⟨e1, ks', e2⟩
  ·rw [e2];refine ⟨ks', _, rfl, rfl, ?_⟩;rw [take_snoc hx, zg2, hk];show (stepK L x ks).bind _ = _;rw [e1];rfl
  ·rw [e2];refine .inr ⟨?_, ks', rfl⟩;have : ws.reverse = ws.reverse.take k ++ x :: ws.reverse.drop (k + 1) := by
    have hlt := (List.getElem?_eq_some_iff.mp hx).1;have hxe := (List.getElem?_eq_some_iff.mp hx).2;rw [<- hxe, <- List.drop_eq_getElem_cons hlt, List.take_append_drop]
   rw [this, zg2, hk];show (stepK L x ks).bind _ = _;rw [e1];rfl
 ·rintro env N ⟨ks, s4, rfl, rfl, hk⟩;rw [List.length_reverse, List.length_map, <- List.length_reverse, List.take_length] at hk;exact .inl ⟨ks, s4, rfl, hk⟩
theorem znn {L wt : Str} {ws : List Str} (hs : ∀ x ∈ ws, sm x) (hl : ws.length <= 900) : (runK L ws.reverse [] = some [wt] /\ za1 [.tup (ws.map D.str), .str L, .str wt] M = some (.v .non, M ++ [kc [wt]])) \/ (runK L ws.reverse [] ≠ some [wt] /\ ∃ ks, za1 [.tup (ws.map D.str), .str L, .str wt] M = some (.x "NoExpr" 0, M ++ [kc ks])) := by
 have lp := zoF (M := M) (d0 := .tup (ws.map D.str)) (L := L) (wt := wt) hs hl;unfold za1 zcz;z_go;have e0 : loopS 4 zaL (ws.map D.str).reverse [.val (.tup (ws.map D.str)), .val (.str L), .val (.str wt), .val (.ref M.length), .un] (M ++ [.lst []]) = loopS 4 zaL (ws.map D.str).reverse [.val (.tup (ws.map D.str)), .val (.str L), .val (.str wt), .val (.ref M.length), .un] (M ++ [kc []]) := rfl;rw [e0];rcases lp with ⟨ks, s4, e, hk⟩ | ⟨hk, ks, e⟩
 ·rw [e];unfold kc;z_go;rw [ztn]
  by_cases h : ks = [wt]
  ·subst h;refine .inl ⟨hk, ?_⟩;z_go
  ·refine .inr ⟨fun z => h (by rw [hk] at z; exact Option.some.inj z), ks, ?_⟩;simp only [h];z_go;rw [ziO];z_go
 ·rw [e];refine .inr ⟨by rw [hk]; exact nofun, ks, rfl⟩
def exB (L wt : Str) (ws : List Str) : Bool := decide (runK L ws.reverse [] = some [wt])
theorem ztB {ws : List Str} : zbv [.ref M.length, .tup (ws.map D.str)] (M ++ [.obj "Expr" []]) = some (.v .non, M ++ [.obj "Expr" [("parts", .tup (ws.map D.str))]]) := by
 unfold zbv zb6;z_go;rw [zqc (k := M.length) (fs := []) (M1 := M ++ [.obj "Expr" []]) (M2 := M ++ [.obj "Expr" []]) (x := .tup (ws.map D.str)) ?_ ?_ zjW (by decide), s_end]
 ·rfl
 ·z_go
 ·z_go
theorem zr2 {ws : List Str} : zbn [.ref M.length, .tup (ws.map D.str)] (M ++ [.obj "Cond" []]) = some (.v .non, M ++ [.obj "Cond" [("parts", .tup (ws.map D.str))]]) := by
 unfold zbn zb3;z_go;rw [zqc (k := M.length) (fs := []) (M1 := M ++ [.obj "Cond" []]) (M2 := M ++ [.obj "Cond" []]) (x := .tup (ws.map D.str)) ?_ ?_ zjW (by decide), s_end]
 ·rfl
 ·z_go
 ·z_go
theorem g_ie {L : Str} {ws : List Str} (hs : ∀ x ∈ ws, sm x) (hl : ws.length <= 900) : ∃ E, zcq [.tup (ws.map D.str), .str L] M = some (.v (.bl (exB L "number" ws)), M ++ E) := by
 rcases znn (M := M) (L := L) (wt := "number") hs hl with ⟨z, e⟩ | ⟨z, ks, e⟩
 ·refine ⟨[kc ["number"]] ++ [.obj "Expr" [("parts", .tup (ws.map D.str))]], ?_⟩;have e1 : zbV [.tup (ws.map D.str), .str L] M = some (.v (.ref (M ++ [kc ["number"]]).length), M ++ [kc ["number"]] ++ [.obj "Expr" [("parts", .tup (ws.map D.str))]]) := by
   unfold zbV zcM;z_go;rw [e];z_go;rw [zng (ds := [.tup (ws.map D.str)]) (M1 := M ++ [kc ["number"]]) (by z_go) ztB];rfl
  unfold zcq zdI exB;rw [show decide (runK L ws.reverse [] = some [Str.ofString "number"]) = true from decide_eq_true z];z_go;rw [z_nx (M1 := M ++ [kc ["number"]] ++ [.obj "Expr" [("parts", .tup (ws.map D.str))]]) (env' := [.val (.tup (ws.map D.str)), .val (.str L)])]
  ·z_go;rw [List.append_assoc];rfl
  ·unfold zes;z_go;rw [e1];z_go
 ·refine ⟨[kc ks], ?_⟩;have e1 : zbV [.tup (ws.map D.str), .str L] M = some (.x "NoExpr" 0, M ++ [kc ks]) := by
   unfold zbV zcM;z_go;rw [e];rfl
  unfold zcq zdI exB;rw [show decide (runK L ws.reverse [] = some [Str.ofString "number"]) = false from decide_eq_false z];z_go;rw [z_rt (c := "NoExpr") (a := 0) (M1 := M ++ [kc ks]) (d := .bl false) (M2 := M ++ [kc ks]) ?_ (by x_go) ?_]
  ·z_go
  ·unfold zes;z_go;rw [e1];z_go
  ·unfold zga;z_go
theorem g_ic {ws : List Str} (hs : ∀ x ∈ ws, sm x) (hl : ws.length <= 900) : ∃ E, zdb [.tup (ws.map D.str)] M = some (.v (.bl (exB "tv" "truth" ws)), M ++ E) := by
 rcases znn (M := M) (L := "tv") (wt := "truth") hs hl with ⟨z, e⟩ | ⟨z, ks, e⟩
 ·refine ⟨[kc ["truth"]] ++ [.obj "Cond" [("parts", .tup (ws.map D.str))]], ?_⟩;have e1 : zbU [.tup (ws.map D.str)] M = some (.v (.ref (M ++ [kc ["truth"]]).length), M ++ [kc ["truth"]] ++ [.obj "Cond" [("parts", .tup (ws.map D.str))]]) := by
   unfold zbU zcE;z_go;rw [e];z_go;rw [zng (ds := [.tup (ws.map D.str)]) (M1 := M ++ [kc ["truth"]]) (by z_go) zr2];rfl
  unfold zdb zdR exB;rw [show decide (runK "tv" ws.reverse [] = some [Str.ofString "truth"]) = true from decide_eq_true z];z_go;rw [z_nx (M1 := M ++ [kc ["truth"]] ++ [.obj "Cond" [("parts", .tup (ws.map D.str))]]) (env' := [.val (.tup (ws.map D.str))])]
  ·z_go;rw [List.append_assoc];rfl
  ·unfold zep;z_go;rw [e1];z_go
 ·refine ⟨[kc ks], ?_⟩;have e1 : zbU [.tup (ws.map D.str)] M = some (.x "NoExpr" 0, M ++ [kc ks]) := by
   unfold zbU zcE;z_go;rw [e];rfl
  unfold zdb zdR exB;rw [show decide (runK "tv" ws.reverse [] = some [Str.ofString "truth"]) = false from decide_eq_false z];z_go;rw [z_rt (c := "NoExpr") (a := 0) (M1 := M ++ [kc ks]) (d := .bl false) (M2 := M ++ [kc ks]) ?_ (by x_go) ?_]
  ·z_go
  ·unfold zep;z_go;rw [e1];z_go
  ·unfold zft;z_go
theorem zfF {i j k : Int} {f g h : E} {env : E3.Env} (hf : f env M = some (.v (.int i), M)) (hg : g env M = some (.v (.int j), M)) (hh : h env M = some (.v (.int k), M)) : sChn .le .le f g h env M = some (.v (.bl (decide (i <= j) && decide (j <= k))), M) := by
 unfold sChn;simp only [bnd, hf, hg, hh, vw, cmpD, cOrd]
 by_cases h1 : i <= j
 ·simp only [h1, decide_true, Bool.true_and, Option.map_some]
 ·simp only [h1, decide_false, Bool.false_and]
theorem zrq {i j k : Int} {f g h : E} {env : E3.Env} (hf : f env M = some (.v (.int i), M)) (hg : g env M = some (.v (.int j), M)) (hh : h env M = some (.v (.int k), M)) : sChn .le .lt f g h env M = some (.v (.bl (decide (i <= j) && decide (j < k))), M) := by
 unfold sChn;simp only [bnd, hf, hg, hh, vw, cmpD, cOrd]
 by_cases h1 : i <= j
 ·simp only [h1, decide_true, Bool.true_and, Option.map_some]
 ·simp only [h1, decide_false, Bool.false_and]
def cntB (x : Str) : Bool := decide (x.length <= 20) && figB (cd x)
def vl (x : Str) : Int := vlc (cd x)
theorem zfy {x : Str} (h : cntB x = true) : intText? x = some (vl x) /\ 0 <= vl x /\ x.length <= 20 := by
  unfold cntB at h;rw [Bool.and_eq_true, decide_eq_true_eq] at h;obtain ⟨h1, h2⟩ := h;obtain ⟨n0, ad, _⟩ := zfB h2;have hd : (cd x).head? ≠ some 45 := fun z => by
    cases hc : cd x with
    | nil => exact n0 hc
    | cons c r =>
      rw [hc] at z ad;cases z;have := ad 45 (List.mem_cons_self ..);revert this
      decide
  refine ⟨zmu (by unfold fgs; rw [if_neg hd]; exact h2) (by omega), ?_, h1⟩;unfold vl vlc;rw [if_neg hd];omega
theorem zs9 (x : Str) (hx : x.length <= 10000) : zdd [.str x] M = some (.v (.bl (cntB x)), M) := by
 unfold zdd zd5 cntB;z_go;rw [if_pos (show x.length <= 16777216 by omega)];z_go
 by_cases h : x.length <= 20
 ·rw [if_pos (show (x.length : Int) <= 20 by omega)];z_go;rw [znS x (by omega)];simp only [h];z_go
 ·rw [if_neg (show ¬ (x.length : Int) <= 20 by omega)];simp only [h];z_go
def cwB (x : Str) (a b : Int) : Bool := cntB x && (decide (a <= vl x) && decide (vl x <= b))
theorem g_cw (x : Str) (a b : Int) (hx : x.length <= 10000) : zaq [.str x, .int a, .int b] M = some (.v (.bl (cwB x a b)), M) := by
 unfold zaq zbz cwB;z_go;rw [zs9 x hx];z_go;cases h : cntB x
 ·z_go
 ·obtain ⟨h1, h2, h3⟩ := zfy h;z_go;rw [zfF (i := a) (j := vl x) (k := b)]
  ·z_go
  ·z_go
  ·z_go;rw [if_pos (show x.length <= 640 by omega), h1];z_go
  ·z_go
def ltr (c : Nat) : Bool := decide (97 <= c) && decide (c <= 122)
theorem znq (c : Nat) : zgm ⟨#[c]⟩ (Str.ofString "abcdefghijklmnopqrstuvwxyz") = ltr c := by
 unfold zgm ltr;rw [StrLaws.found_one, show (Str.ofString "abcdefghijklmnopqrstuvwxyz").cps.toList = (List.range 26).map (· + 97) by x_go, Bool.eq_iff_iff];simp only [List.mem_map, List.mem_range, Bool.and_eq_true, decide_eq_true_eq];exact ⟨fun ⟨a, h, e⟩ => by omega, fun h => ⟨c - 97, by omega, by omega⟩⟩
def nmc (c : Nat) : Bool := ltr c || dgc c
def nmB (x : Str) : Bool := match cd x with
 | [] => false
 | c :: r => decide (r.length < 12) && (ltr c && (c :: r).all nmc)
theorem t_nm (c : Nat) : zex [.val (.str ⟨#[c]⟩)] M = some (.v (.bl (nmc c)), M) := by
 unfold zex nmc;z_go;rw [znq];cases ltr c
 ·z_go;rw [zlM]
 ·z_go
theorem g_nm (x : Str) (hx : x.length <= 10000) : zdL [.str x] M = some (.v (.bl (nmB x)), M) := by
  unfold zdL zeM nmB;have hl := zeh x;have c1 : sChn .le .le (sCon (.int 1)) (sN bLen (zad (sVar 0) sNil)) (sCon (.int 12)) [.val (.str x)] M = some (.v (.bl (decide ((1 : Int) <= x.length) && decide ((x.length : Int) <= 12))), M) := by
    refine zfF (by z_go) ?_ (by z_go);z_go;rw [if_pos (show x.length <= 16777216 by omega)];z_go
  z_go;rw [c1]
  cases hc : cd x with
  | nil =>
    rw [hc] at hl;rw [show decide ((1 : Int) <= x.length) = false from decide_eq_false (by rw [hl]; decide)];z_go
  | cons c r =>
    rw [hc, List.length_cons] at hl;rw [show decide ((1 : Int) <= x.length) = true from decide_eq_true (by omega)]
    by_cases h : r.length < 12
    · rw [show decide ((x.length : Int) <= 12) = true from decide_eq_true (by omega)];z_go;rw [if_pos (show x.length <= 16777216 by omega), show x.cps.toList = cd x from rfl, hc];z_go;rw [znq];simp only [h];cases ltr c
      · z_go
      · z_go;rw [show x.cps.toList = cd x from rfl, hc, zeV (fun c => D.str ⟨#[c]⟩) (fun c => D.bl (nmc c)) (c :: r) [] (fun c _ => t_nm c) (by rw [sizeLine_eq]; simp; omega)];z_go;rw [show (D.bl (nmc c) :: r.map fun c => D.bl (nmc c)) = ((c :: r).map nmc).map D.bl by rw [List.map_map]; rfl, zeF];z_go;rw [show nmc c :: List.map nmc r = (c :: r).map nmc from rfl, List.all_map];rfl
    · rw [show decide ((x.length : Int) <= 12) = false from decide_eq_false (by omega)];simp only [h];z_go
theorem il {n : Nat} {k : Int} (b : Bool) (h : (n : Int) = k ↔ b = true) : decide ((n : Int) = k) = b := by
 cases b
 ·exact decide_eq_false fun z => by cases h.mp z
 ·exact decide_eq_true (h.mpr rfl)
def shrB : List Str -> Bool
 | [a, b] => cwB b 1 8 && cwB a 0 (vl b - 1)
 | _ => false
def fldB (x : Str) : Bool := decide (x = "sum") || decide (x = "count") || decide (x = "most") || decide (x = "least")
def widB : List Str -> Bool
 | [a, f] => cwB a 1 1000000000000 && fldB f
 | _ => false
def sldB : List Str -> Bool
 | [a, b, f] => widB [a, f] && (cwB b 1 (vl a) && decide (vl a <= 8 * vl b))
 | _ => false
def jnB : List Str -> Bool
 | a :: r => cwB a 0 1000000000000 && exB "tvw" "number" r
 | _ => false
theorem zkt {x : Str} {a b : Int} (h : cwB x a b = true) : intText? x = some (vl x) /\ 0 <= vl x /\ x.length <= 20 := by
 unfold cwB at h;rw [Bool.and_eq_true] at h;exact zfy h.1
theorem ztq (ws : List Str) (hs : ∀ x ∈ ws, sm x) (hl : ws.length <= 900) : zbm [.tup (ws.map D.str)] M = some (.v (.bl (shrB ws)), M) := by
  unfold zbm zb5
  match ws, hs, hl with
  | [], _, _ => rfl
  | [a], _, _ => rfl
  | a :: b :: c :: r, _, _ =>
    unfold shrB;z_go;rw [if_pos (by omega)];z_go
  | [a, b], hs, _ =>
    have ha := hs a (by simp);have hb := hs b (by simp);unfold shrB;z_go;rw [if_neg (fun z => z rfl)];z_go;rw [g_cw b 1 8 (by have := hb.1; omega)];cases h : cwB b 1 8
    · z_go
    · obtain ⟨h1, h2, h3⟩ := zkt h;z_go;rw [if_pos (show b.length <= 640 by omega), h1];z_go;rw [g_cw a 0 _ (by have := ha.1; omega)];z_go
theorem zt3 {x : Str} : oCmp .isin (.str x) (.tup [.str "sum", .str "count", .str "most", .str "least"]) = some (.bl (fldB x)) := by
 have q : ∀ y : Str, D.eq (.str y) (.str x) = decide (x = y) := fun y => by
  simp only [D.eq];rw [Bool.eq_iff_iff]
  simp
  exact eq_comm
 unfold oCmp cmpD cIn fldB;simp only [D.flat, List.all_cons, List.all_nil, Bool.and_self, if_true, List.any_cons, List.any_nil, Bool.or_false, q, Option.map_some];rw [Bool.or_assoc, Bool.or_assoc]
theorem zrL (ws : List Str) (hs : ∀ x ∈ ws, sm x) (hl : ws.length <= 900) : zaV [.tup (ws.map D.str)] M = some (.v (.bl (widB ws)), M) := by
  unfold zaV zb2
  match ws, hs, hl with
  | [], _, _ => rfl
  | [a], _, _ => rfl
  | a :: b :: c :: r, _, _ =>
    unfold widB;z_go;rw [if_neg (by omega)];z_go
  | [a, b], hs, _ =>
    have ha := hs a (by simp);have hb := hs b (by simp);unfold widB;z_go;rw [if_pos (show ((2 : Nat) : Int) = 2 from rfl)];rw [g_cw a 1 _ (by have := ha.1; omega)];cases h : cwB a 1 1000000000000
    · z_go
    · z_go;rw [zt3];z_go
theorem zsB (ws : List Str) (hs : ∀ x ∈ ws, sm x) (hl : ws.length <= 900) : zbr [.tup (ws.map D.str)] M = some (.v (.bl (sldB ws)), M) := by
  unfold zbr zcb
  match ws, hs, hl with
  | [], _, _ => rfl
  | [a], _, _ => rfl
  | [a, b], _, _ => rfl
  | a :: b :: c :: d :: r, _, _ =>
    unfold sldB;z_go;rw [if_pos (by omega)];z_go
  | [a, b, f], hs, _ =>
    have ha := hs a (by simp);have hb := hs b (by simp);have hf := hs f (by simp);unfold sldB;z_go;rw [if_neg (fun z => z rfl), show [D.str a, D.str f] = [a, f].map D.str from rfl, zrL [a, f] (fun x hx => by simp at hx; rcases hx with rfl | rfl <;> assumption) (by simp)]
    cases h : widB [a, f]
    · z_go
    · have h0 : cwB a 1 1000000000000 = true := by
        unfold widB at h;rw [Bool.and_eq_true] at h;exact h.1
      obtain ⟨h1, h2, h3⟩ := zkt h0;z_go;rw [if_pos (show a.length <= 640 by omega), h1];z_go;rw [g_cw b 1 _ (by have := hb.1; omega)];cases h' : cwB b 1 (vl a)
      · z_go
      · obtain ⟨k1, k2, k3⟩ := zkt h';z_go;rw [if_pos (show b.length <= 640 by omega), k1];z_go
theorem g_jr (ws : List Str) (hs : ∀ x ∈ ws, sm x) (hl : ws.length <= 900) : ∃ E, zbO [.tup (ws.map D.str)] M = some (.v (.bl (jnB ws)), M ++ E) := by
  match ws, hs, hl with
  | [], _, _ => exact ⟨[], by rw [List.append_nil]; rfl⟩
  | a :: r, hs, hl =>
    have ha := hs a (by simp);rw [List.length_cons] at hl;unfold zbO zcm jnB;z_go;rw [if_neg (by omega), g_cw a 0 _ (by have := ha.1; omega)];cases h : cwB a 0 1000000000000
    · refine ⟨[], ?_⟩;z_go
    · obtain ⟨E, e⟩ := g_ie (M := M) (L := "tvw") (ws := r) (fun x hx => hs x (by simp [hx])) (by omega);refine ⟨E, ?_⟩;have es : slT (.tup (D.str a :: r.map D.str)) (some 1) none = some (.tup (r.map D.str)) := by
        unfold slT;dsimp only;rw [zhh _ (by decide)];rw [if_neg (fun z => by have := z.1; revert this; unfold HT.sIx; simp)];rfl
      z_go;rw [es];z_go;rw [e];z_go
def rstB (w : Str) (ws : List Str) : Bool :=
 if w = "keep" then exB "tv" "truth" ws else if w = "turn" then exB "tv" "number" ws else if w = "share" then shrB ws else if w = "slide" then sldB ws
 else if w = "fixed" \/ w = "gap" then widB ws else if w = "join" then jnB ws else ws.isEmpty
theorem zpr {x : Str} : oCmp .isin (.str x) (.tup [.str "fixed", .str "gap"]) = some (.bl (decide (x = "fixed" \/ x = "gap"))) := by
 have q : ∀ y : Str, D.eq (.str y) (.str x) = decide (x = y) := fun y => by
  simp only [D.eq];rw [Bool.eq_iff_iff]
  simp
  exact eq_comm
 unfold oCmp cmpD cIn;simp only [D.flat, List.all_cons, List.all_nil, Bool.and_self, if_true, List.any_cons, List.any_nil, Bool.or_false, q, Option.map_some];congr 2;rw [Bool.eq_iff_iff]
 simp
theorem zrU {ws : List Str} : oCmp .eq (.tup (ws.map D.str)) (.tup []) = some (.bl ws.isEmpty) := by
 unfold oCmp cmpD cEq;rw [if_pos ⟨by simp [eqOk, D.flat, D.dep, D.deps], by simp [D.dep, zhW]⟩];cases ws <;> rfl
theorem zsZ (w : Str) (ws : List Str) (hs : ∀ x ∈ ws, sm x) (hl : ws.length <= 900) : ∃ E, zcr [.str w, .tup (ws.map D.str)] M = some (.v (.bl (rstB w ws)), M ++ E) := by
 unfold zcr zcR rstB
 by_cases h1 : w = "keep"
 ·obtain ⟨E, e⟩ := g_ic (M := M) hs hl;refine ⟨E, ?_⟩;simp only [h1];z_go;rw [e];z_go
 by_cases h2 : w = "turn"
 ·obtain ⟨E, e⟩ := g_ie (M := M) (L := "tv") hs hl;refine ⟨E, ?_⟩;rw [if_neg h1, if_pos h2];z_go;rw [if_neg h1];z_go;rw [if_pos h2, e];z_go
 by_cases h3 : w = "share"
 ·refine ⟨[], ?_⟩;rw [if_neg h1, if_neg h2, if_pos h3];z_go;rw [if_neg h1];z_go;rw [if_neg h2];z_go;rw [if_pos h3, ztq ws hs hl];z_go
 by_cases h4 : w = "slide"
 ·refine ⟨[], ?_⟩;rw [if_neg h1, if_neg h2, if_neg h3, if_pos h4];z_go;rw [if_neg h1];z_go;rw [if_neg h2];z_go;rw [if_neg h3];z_go;rw [if_pos h4, zsB ws hs hl];z_go
 by_cases h5 : w = "fixed" \/ w = "gap"
 ·refine ⟨[], ?_⟩;rw [if_neg h1, if_neg h2, if_neg h3, if_neg h4, if_pos h5];z_go;rw [if_neg h1];z_go;rw [if_neg h2];z_go;rw [if_neg h3];z_go;rw [if_neg h4];z_go;rw [zpr];z_go;rw [if_pos h5, zrL ws hs hl];z_go
 rw [if_neg h1, if_neg h2, if_neg h3, if_neg h4, if_neg h5];z_go;rw [if_neg h1];z_go;rw [if_neg h2];z_go;rw [if_neg h3];z_go;rw [if_neg h4];z_go;rw [zpr];z_go;rw [if_neg h5];z_go
 by_cases h6 : w = "join"
 ·obtain ⟨E, e⟩ := g_jr (M := M) ws hs hl;refine ⟨E, ?_⟩;rw [if_pos h6, if_pos h6, e];z_go
 ·refine ⟨[], ?_⟩;rw [if_neg h6, if_neg h6];z_go;rw [zrU];z_go
def FT : List (Str × Nat) := [("in", 0), ("keep", 1), ("turn", 1), ("share", 1), ("pour", 8), ("fixed", 1), ("slide", 1), ("gap", 1), ("join", 2), ("out", 1)]
def frm (x : Str) : Option Nat := (FT.find? fun p => decide (p.1 = x)).map (·.2)
theorem zhe {x : Str} : zct zc5 x = (frm x).map (fun (n : Nat) => D.int (n : Int)) := by
 rw [show zc5 = FT.map fun p => (p.1, D.int (p.2 : Int)) from rfl];unfold zct frm;rw [List.find?_map];show Option.map _ (Option.map _ (FT.find? fun p => decide (p.1 = x))) = _;cases FT.find? fun p => decide (p.1 = x) <;> rfl
theorem zua {x : Str} {n : Nat} (h : frm x = some n) : n <= 8 := by
 unfold frm at h;rw [Option.map_eq_some_iff] at h;obtain ⟨p, hp, rfl⟩ := h;have := List.mem_of_find?_eq_some hp;revert this;generalize p = q;revert q;unfold FT
 simp
def rwD (w nm : Str) (fr rs : List Str) : D := .tup [.str w, .str nm, .tup (fr.map D.str), .tup (rs.map D.str)]
theorem g_row {w nm : Str} {r : List Str} {f : Nat} (h : frm w = some f) : zdl [.lst ((w :: nm :: r).map D.str)] M = some (.v (rwD w nm (r.take f) (r.drop f)), M) := by
 have c1 : cutL ((w :: nm :: r).map D.str) (some 2) (some (2 + (f : Int))) = (r.take f).map D.str := by
  rw [zjq _ (by decide) (by omega), <- List.map_drop, <- List.map_take];congr 1;show List.take ((2 + (f : Int)).toNat - 2) r = _;congr 1;omega
 have c2 : cutL ((w :: nm :: r).map D.str) (some (2 + (f : Int))) none = (r.drop f).map D.str := by
  rw [zhh _ (by omega), <- List.map_drop];congr 1;rw [show (2 + (f : Int)).toNat = f + 2 by omega];rfl
 unfold zdl zfp rwD;rw [List.map_cons, List.map_cons] at c1 c2;z_go;rw [zhe, h];z_go;rw [c1];z_go;rw [c2];z_go
def hfB (w : Str) (f n : Nat) : Bool := if w = "pour" then decide (2 <= n) else decide (n = f)
theorem g_hf {w nm : Str} {fr rs : List Str} {f : Nat} (h : frm w = some f) : zbp [rwD w nm fr rs] M = some (.v (.bl (hfB w f fr.length)), M) := by
 unfold zbp zb4 rwD hfB
 by_cases hp : w = "pour"
 ·rw [if_pos hp];z_go;rw [if_pos hp];z_go;congr 4;rw [Bool.eq_iff_iff];simp only [decide_eq_true_eq];omega
 ·rw [if_neg hp];z_go;rw [if_neg hp];z_go;rw [zhe, h];z_go;congr 4;rw [Bool.eq_iff_iff];simp only [decide_eq_true_eq];omega
def rowB : List Str -> Bool
  | w :: nm :: r => match frm w with
    | some f => hfB w f (r.take f).length && ((nm :: r.take f).all nmB && rstB w (r.drop f))
    | none => false
  | _ => false
theorem ztp (x : Str) (hx : x.length <= 10000) : zdY [.val (.str x)] M = some (.v (.bl (nmB x)), M) := by
 unfold zdY;z_go;rw [g_nm x hx];z_go
theorem zsJ (ws : List Str) (hs : ∀ x ∈ ws, sm x) (hl : ws.length <= 900) : ∃ E, zd4 [.lst (ws.map D.str)] M = some (.v (.bl (rowB ws)), M ++ E) := by
  match ws, hs, hl with
  | [], _, _ => exact ⟨[], by rw [List.append_nil]; rfl⟩
  | [a], _, _ => exact ⟨[], by rw [List.append_nil]; rfl⟩
  | w :: nm :: r, hs, hl =>
    rw [List.length_cons, List.length_cons] at hl;unfold rowB;dsimp only
    cases hf : frm w with
    | none =>
      refine ⟨[], ?_⟩;unfold zd4 zeL;z_go;rw [if_neg (by omega), zhe, hf];z_go;simp only [Option.isSome_none];z_go
    | some f =>
      dsimp only;have g1 := g_row (M := M) (nm := nm) (r := r) hf;have g2 := g_hf (M := M) (nm := nm) (fr := r.take f) (rs := r.drop f) hf;rw [List.map_cons, List.map_cons] at g1;have cm : zeE (sCon (.bl true)) zdY [] (((nm :: r.take f)).map D.str) [] M = some ([] ++ (nm :: r.take f).map fun x => D.bl (nmB x), M) := by
        refine zeV D.str (fun x => D.bl (nmB x)) (nm :: r.take f) [] (fun x hx => ztp x ?_) ?_
        · have : x ∈ w :: nm :: r := by
            rcases List.mem_cons.mp hx with rfl | hx
            · simp
            · simp [List.mem_of_mem_take hx]
          have := (hs x this).1;omega
        · rw [sizeLine_eq]
          simp
          omega
      obtain ⟨E, e⟩ := zsZ (M := M) w (r.drop f) (fun x hx => hs x (by simp [List.mem_of_mem_drop hx])) (by rw [List.length_drop]; omega);unfold zd4 zeL;z_go;rw [if_neg (by omega), zhe, hf];z_go;simp only [Option.isSome_some];z_go;rw [g1];z_go;rw [g2];cases hfB w f (r.take f).length
      · refine ⟨[], ?_⟩;z_go
      · z_go;unfold rwD;z_go;rw [if_pos (by rw [List.length_take]; omega)];z_go;rw [List.map_cons] at cm;rw [cm];z_go;rw [show (D.bl (nmB nm) :: (r.take f).map fun x => D.bl (nmB x)) = ((nm :: r.take f).map nmB).map D.bl by rw [List.map_map]; rfl, zeF];z_go;rw [show nmB nm :: List.map nmB (r.take f) = (nm :: r.take f).map nmB from rfl, List.all_map];rw [show (id ∘ nmB) = nmB from rfl];cases (nm :: r.take f).all nmB
        · refine ⟨[], ?_⟩;z_go
        · refine ⟨E, ?_⟩;z_go;rw [e];z_go
def tbS (t : List (Str × Str)) : List (Key × D) := t.map fun p => (.inr p.1, .str p.2)
def gtS (t : List (Str × Str)) (k : Str) : Option Str := (t.find? fun p => decide (p.1 = k)).map (·.2)
theorem zjf {a b : Str} : decide ((Sum.inr a : Key) = Sum.inr b) = decide (a = b) := by simp
theorem zlt {k : Str} : ∀ t : List (Str × Str), valD (tbS t) (.inr k) = (gtS t k).map .str
  | [] => rfl
  | p :: t => by
    have ih := zlt (k := k) t;unfold valD tbS gtS at *;rw [List.map_cons, List.find?_cons, List.find?_cons, zjf];cases decide (p.1 = k)
    · exact ih
    · rfl
theorem zqx {k v : Str} {t : List (Str × Str)} (h : gtS t k = none) : putT (tbS t) (.inr k) (.str v) = tbS (t ++ [(k, v)]) := by
 have e1 : ((tbS t).any fun kv => decide (kv.1 = Sum.inr k)) = false := by
  unfold gtS at h;rw [Option.map_eq_none_iff, List.find?_eq_none] at h;unfold tbS;rw [List.any_map, List.any_eq_false];intro p hp;show ¬ decide (Sum.inr p.1 = Sum.inr k) = true;rw [zjf];exact h p hp
 unfold putT;rw [e1, if_neg (by decide)];unfold tbS;rw [List.map_append];rfl
def nmsB (t : List (Str × Str)) (nm : Str) (fr : List Str) : Bool := (gtS t nm).isNone && fr.all fun x => !decide ((gtS t x).getD "out" = "out")
theorem t_hn {t : List (Str × Str)} {j : Nat} {N : Mm} (x : Str) (hN : N[j]? = some (.dct (tbS t))) : zbC [.val (.str x), .val (.ref j)] N = some (.v (.bl (!decide ((gtS t x).getD "out" = "out"))), N) := by
  unfold zbC;z_go;rw [zmF (k := j) (kvs := tbS t) (kvs' := tbS t) (e := .str x) (x := .str "out") (key := .inr x) (M1 := N) (M2 := N) (M3 := N) (by z_go) (by z_go) (by z_go) hN hN rfl, zlt]
  cases gtS t x with
  | none =>
    simp only [Option.map_none, Option.getD_none];z_go
  | some y =>
    z_go
theorem g_hn {t : List (Str × Str)} {j : Nat} {N : Mm} {w nm : Str} {fr rs : List Str} (hN : N[j]? = some (.dct (tbS t))) (hl : fr.length <= 900) : zbl [rwD w nm fr rs, .ref j] N = some (.v (.bl (nmsB t nm fr)), N) := by
  have cm : zeE (sCon (.bl true)) zbC [.val (.ref j)] (fr.map D.str) [] N = some ([] ++ fr.map fun x => D.bl (!decide ((gtS t x).getD "out" = "out")), N) :=
    zeV D.str (fun x => D.bl (!decide ((gtS t x).getD "out" = "out"))) fr [] (fun x _ => t_hn x hN) (by rw [sizeLine_eq]; simp; omega)
  unfold zbl zb7 nmsB rwD;z_go;rw [d_in (k := j) (kvs := tbS t) (e := .str nm) (key := .inr nm) (M1 := N) (M2 := N) (by z_go) (by z_go) hN rfl, zlt]
  cases gtS t nm with
  | some y =>
    simp only [Option.map_some, Option.isSome_some, Option.isNone_some];z_go
  | none =>
    simp only [Option.map_none, Option.isSome_none, Option.isNone_none];z_go;rw [cm];z_go;rw [show (fr.map fun x => D.bl (!decide ((gtS t x).getD "out" = "out"))) = (fr.map fun x => !decide ((gtS t x).getD "out" = "out")).map D.bl by rw [List.map_map]; rfl, zeF];z_go;rw [List.all_map];rfl
structure RW where
 w : Str
 nm : Str
 fr : List Str
 rs : List Str
def RW.D (r : RW) : E3.D := rwD r.w r.nm r.fr r.rs
def rowP (ws : List Str) : Option RW := match ws with
 | w :: nm :: r => if rowB (w :: nm :: r) = true then some ⟨w, nm, r.take ((frm w).getD 0), r.drop ((frm w).getD 0)⟩ else none
 | _ => none
theorem ze8 {ws : List Str} (h : rowB ws = false) : rowP ws = none := by
 unfold rowP
 split
 ·rw [h, if_neg (by decide)]
 ·rfl
theorem zgg {ws : List Str} (h : rowB ws = true) : ∃ w nm r f, ws = w :: nm :: r /\ frm w = some f /\ rowP ws = some ⟨w, nm, r.take f, r.drop f⟩ := by
  match ws, h with
  | [], h => cases h
  | [_], h => cases h
  | w :: nm :: r, h =>
    cases hf : frm w with
    | none =>
      unfold rowB at h;dsimp only at h;rw [hf] at h;cases h
    | some f =>
      refine ⟨w, nm, r, f, rfl, hf, ?_⟩;show (if rowB (w :: nm :: r) = true then some (RW.mk w nm (r.take ((frm w).getD 0)) (r.drop ((frm w).getD 0))) else none) = _
      rw [if_pos h, hf];rfl
def rdL : List (List Str) -> Nat -> List (Str × Str) -> List RW -> List RW ⊕ (Str × Nat)
  | [], _, _, acc => .inl acc
  | ws :: rest, n, t, acc => match rowP ws with
    | none => .inr ("NoText", n)
    | some r => if nmsB t r.nm r.fr = true then rdL rest (n + 1) (t ++ [(r.nm, r.w)]) (acc ++ [r]) else .inr ("NoName", n)
def Ln (l : Str) (ws : List Str) : Prop := Txt.split l (Str.ofString " ") = ws /\ l.length <= 1000000 /\ (∀ x ∈ ws, sm x) /\ ws.length <= 900
theorem znI {z l : Str} {ws : List Str} {acc : List RW} {t : List (Str × Str)} {E : Mm} {n : Nat} {s5 s6 : E3.Slot} (hL : Ln l ws) (hn : n < 1000) (ha : acc.length < 1000) (ht : t.length < 1000) : ∃ E',
    za3 [.val (.str z), .own (acc.map RW.D), .val (.ref M.length), .val (.int n), .val (.str l), s5, s6] (M ++ [.dct (tbS t)] ++ E) = match rowP ws with
    | none => some (.ex "NoText" ((n : Int) + 1), M ++ [.dct (tbS t)] ++ E')
    | some r => if nmsB t r.nm r.fr = true then some (.nx [.val (.str z), .own ((acc ++ [r]).map RW.D), .val (.ref M.length), .val (.int n), .val (.str l), .val (.lst (ws.map D.str)), .val r.D], M ++ [.dct (tbS (t ++ [(r.nm, r.w)]))] ++ E') else some (.ex "NoName" ((n : Int) + 1), M ++ [.dct (tbS t)] ++ E') := by
  obtain ⟨h1, h2, h3, h4⟩ := hL;obtain ⟨E2, e2⟩ := zsJ (M := M ++ [.dct (tbS t)] ++ E) ws h3 h4;have hN : ∀ E : Mm, (M ++ [Cl.dct (tbS t)] ++ E)[M.length]? = some (.dct (tbS t)) := fun E => by
    rw [List.append_assoc, List.getElem?_append_right (Nat.le_refl _), Nat.sub_self];rfl
  refine ⟨E ++ E2, ?_⟩;unfold za3;z_go;rw [zkQ, h1, if_pos ⟨by x_go, by rw [sizeLine_eq]; omega⟩];z_go;rw [e2, List.append_assoc (M ++ [Cl.dct (tbS t)])];cases hb : rowB ws
  · rw [ze8 hb];z_go;rw [zjb (by omega)];z_go
  · obtain ⟨w, nm, r, f, rfl, hf, hp⟩ := zgg hb;have g1 := g_row (M := M ++ [.dct (tbS t)] ++ (E ++ E2)) (nm := nm) (r := r) hf;rw [List.length_cons, List.length_cons] at h4;have g2 := g_hn (w := w) (nm := nm) (fr := r.take f) (rs := r.drop f) (hN (E ++ E2)) (by rw [List.length_take]; omega);rw [hp];z_go;rw [List.map_cons, List.map_cons] at g1;rw [g1];z_go;rw [g2];cases hb2 : nmsB t nm (r.take f)
    · z_go;rw [zjb (by omega)];z_go
    · have hg : gtS t nm = none := by
        unfold nmsB at hb2;rw [Bool.and_eq_true] at hb2;exact Option.isNone_iff_eq_none.mp hb2.1
      z_go;rw [ztM (k := M.length) (kvs := tbS t) (e := .str nm) (x := .str w) (key := .inr nm) (M1 := M ++ [.dct (tbS t)] ++ (E ++ E2)) (M2 := M ++ [.dct (tbS t)] ++ (E ++ E2)) (M3 := M ++ [.dct (tbS t)] ++ (E ++ E2)) (by unfold rwD; z_go) (by z_go) (by unfold rwD; z_go) (hN _) rfl (by unfold tbS; rw [List.length_map, sizeLine_eq]; omega), zqx hg];z_go;rw [if_pos (show acc.length < 16777216 by omega)];z_go;rw [List.map_append, List.append_assoc M, List.append_assoc M, List.set_append_right _ _ (Nat.le_refl _), Nat.sub_self];rfl
def RdQ (M : Mm) (z : Str) (q : List RW ⊕ (Str × Nat)) (o : E3.OS) : Prop := match q with
 | .inl rows => ∃ E s3 s4 s5 s6, o = some (.nx [.val (.str z), .own (rows.map RW.D), .val (.ref M.length), s3, s4, s5, s6], M ++ E)
 | .inr (c, n) => ∃ E, o = some (.ex c ((n : Int) + 1), M ++ E)
theorem zk1 {z : Str} : ∀ (ls : List (Str × List Str)) (n : Nat) (t : List (Str × Str)) (acc : List RW) (E : Mm) (s3 s4 s5 s6 : E3.Slot), (∀ p ∈ ls, Ln p.1 p.2) -> n + ls.length <= 1000 -> acc.length + ls.length <= 1000 -> t.length + ls.length <= 1000 ->
    RdQ M z (rdL (ls.map (·.2)) n t acc) (zgr [3, 4] za3 n (ls.map fun p => D.str p.1) [.val (.str z), .own (acc.map RW.D), .val (.ref M.length), s3, s4, s5, s6] (M ++ [.dct (tbS t)] ++ E))
  | [], n, t, acc, E, s3, s4, s5, s6, _, _, _, _ => ⟨[.dct (tbS t)] ++ E, s3, s4, s5, s6, by rw [<- List.append_assoc]; rfl⟩
  | p :: ls, n, t, acc, E, s3, s4, s5, s6, h, hn, ha, ht => by
    rw [List.length_cons] at hn ha ht;obtain ⟨E', e⟩ := znI (M := M) (z := z) (acc := acc) (t := t) (E := E) (n := n) (s5 := s5) (s6 := s6) (h p (List.mem_cons_self ..)) (by omega) (by omega) (by omega);rw [List.map_cons, List.map_cons, zgr];rw [show setE [3, 4] [D.int (n : Int), .str p.1] [.val (.str z), .own (acc.map RW.D), .val (.ref M.length), s3, s4, s5, s6] = some [.val (.str z), .own (acc.map RW.D), .val (.ref M.length), .val (.int n), .val (.str p.1), s5, s6] from rfl];dsimp only;rw [e];unfold rdL
    cases hp : rowP p.2 with
    | none => exact ⟨[.dct (tbS t)] ++ E', by rw [<- List.append_assoc]⟩
    | some r =>
      dsimp only
      by_cases hb : nmsB t r.nm r.fr = true
      · rw [if_pos hb, if_pos hb];exact zk1 ls (n + 1) _ _ _ _ _ _ _ (fun q hq => h q (List.mem_cons_of_mem _ hq)) (by omega) (by rw [List.length_append]; simp; omega) (by rw [List.length_append]; simp; omega)
      · rw [if_neg hb, if_neg hb];exact ⟨[.dct (tbS t)] ++ E', by rw [<- List.append_assoc]⟩
def rdR : List RW ⊕ (Str × Nat) -> Res
 | .inl rows => .v (.lst (rows.map RW.D))
 | .inr (c, n) => .x c ((n : Int) + 1)
theorem g_rw {z : Str} {ls : List (Str × List Str)} (hz : Txt.split z (Str.ofString "\n") = ls.map (·.1)) (hl : z.length <= 10000000) (h : ∀ p ∈ ls, Ln p.1 p.2) (hn : ls.length <= 900) : ∃ E, zcv [.str z] M = some (rdR (rdL (ls.map (·.2)) 0 [] []), M ++ E) := by
  have lp := zk1 (M := M) (z := z) ls 0 [] [] [] .un .un .un .un h (by omega) (by rw [List.length_nil]; omega) (by rw [List.length_nil]; omega);rw [List.append_nil] at lp;have en : zjZ [3, 4] (zad (sMt zgV (sVar 0) (zad (sCon (.str "\n")) sNil)) sNil) za3 [.val (.str z), .own [], .val (.ref M.length), .un, .un, .un, .un] (M ++ [.dct []]) = zgr [3, 4] za3 0 (ls.map fun p => D.str p.1) [.val (.str z), .own [], .val (.ref M.length), .un, .un, .un, .un] (M ++ [.dct []]) := by
    unfold zjZ;z_go;rw [zkQ, hz, if_pos ⟨by x_go, by rw [sizeLine_eq]; omega⟩];z_go;rw [List.map_map];rfl
  unfold zcv zcV;z_go;rw [zsI];z_go;rw [en];revert lp;show RdQ M z _ (zgr [3, 4] za3 0 (ls.map fun p => D.str p.1) [.val (.str z), .own [], .val (.ref M.length), .un, .un, .un, .un] (M ++ [.dct []])) -> _
  cases rdL (ls.map (·.2)) 0 [] [] with
  | inl rows =>
    rintro ⟨E, s3, s4, s5, s6, e⟩;refine ⟨E, ?_⟩;rw [e];z_go;rfl
  | inr p =>
    obtain ⟨c, n⟩ := p;rintro ⟨E, e⟩;refine ⟨E, ?_⟩;rw [e];rfl
def dwn (xs : List Int) : Prop := ∀ x ∈ xs, 0 <= x /\ x < 715827877
theorem g_dr {n : Int} {m : Nat} (hm : m <= 1000) : ∃ xs : List Int, xs.length = m /\ dwn xs /\ ∀ M : Mm, zdX [.int n, .int m] M = some (.v (.lst (xs.map .int)), M) := by
  let P : E3.OS -> Mm -> List Int -> Prop := fun o M xs => ∃ s3 s4, o = some (.nx [.val (.int n), .val (.int m), .own (xs.map .int), s3, s4], M)
  have key : ∃ xs : List Int, xs.length = m /\ dwn xs /\ ∀ M : Mm, P (loopS 4 zdV ((List.range m).map fun (k : Nat) => D.int (0 + k)) [.val (.int n), .val (.int m), .own [], .val (.int (n % 2147483629)), .un] M) M xs := by
    -- the numbers by themselves
    let st : Int × List Int -> Nat -> Int × List Int := fun p k => let x := (p.1 * p.1 + 40692 * p.1 + 2 * (0 + (k : Int)) + 1) % 2147483629; (x, p.2 ++ [x / 3])
    let at_ : Nat -> Int × List Int := fun k => (List.range k).foldl st (n % 2147483629, [])
    have hst : ∀ k, at_ (k + 1) = st (at_ k) k := fun k => by simp only [at_, List.range_succ, List.foldl_append, List.foldl_cons, List.foldl_nil]
    have hb : ∀ k, 0 <= (at_ k).1 /\ (at_ k).1 < 2147483629 /\ (at_ k).2.length = k /\ dwn (at_ k).2 := fun k => by
      induction k with
      | zero => exact ⟨Int.emod_nonneg _ (by decide), Int.emod_lt_of_pos _ (by decide), rfl, fun x hx => by cases hx⟩
      | succ k ih =>
        rw [hst];refine ⟨Int.emod_nonneg _ (by decide), Int.emod_lt_of_pos _ (by decide), by simp only [st, List.length_append, ih.2.2.1, List.length_singleton], fun x hx => ?_⟩;simp only [st, List.mem_append, List.mem_singleton] at hx;rcases hx with hx | hx
        · exact ih.2.2.2 x hx
        · have h1 := Int.emod_nonneg ((at_ k).1 * (at_ k).1 + 40692 * (at_ k).1 + 2 * (0 + (k : Int)) + 1) (show (2147483629 : Int) ≠ 0 by decide);have h2 := Int.emod_lt_of_pos ((at_ k).1 * (at_ k).1 + 40692 * (at_ k).1 + 2 * (0 + (k : Int)) + 1) (show (0 : Int) < 2147483629 by decide);subst hx;omega
    refine ⟨(at_ m).2, (hb m).2.2.1, (hb m).2.2.2, fun M => ?_⟩;refine ziB (fun o => P o M (at_ m).2) (fun k env M' => M' = M /\ ∃ s4, env = [.val (.int n), .val (.int m), .own ((at_ k).2.map .int), .val (.int (at_ k).1), s4]) ⟨rfl, .un, rfl⟩ ?_ ?_
    · rintro k d env M' hd ⟨rfl, s4, rfl⟩;have hk : k < m := by
        have := (List.getElem?_eq_some_iff.mp hd).1
        simpa using this
      rw [List.getElem?_map, List.getElem?_range hk, Option.map_some] at hd;cases hd;refine ⟨by show 4 < 5; decide, ?_⟩;have hx := hb k;have hq := hb (k + 1);rw [hst] at hq;show Step _ _ (zdV [.val (.int n), .val (.int m), .own ((at_ k).2.map .int), .val (.int (at_ k).1), .val (.int (0 + k))] M');generalize e1 : (at_ k).1 = x at *;generalize e2 : (at_ k).2 = xs at *;unfold zdV;z_go;rw [if_pos (.inl (by omega))];z_go;rw [if_pos (show xs.length < 16777216 by omega)];refine ⟨rfl, .val (.int (0 + k)), ?_⟩;rw [hst];simp only [st, e1, e2, List.map_append, List.map_cons, List.map_nil]
    · rintro env M' ⟨rfl, s4, rfl⟩;rw [List.length_map, List.length_range];exact ⟨_, _, rfl⟩
  obtain ⟨xs, h1, h2, h3⟩ := key;refine ⟨xs, h1, h2, fun M => ?_⟩;obtain ⟨s3, s4, h3⟩ := h3 M;unfold zdX zfr;z_go;rw [zjr (by omega), Int.toNat_natCast];z_go;rw [h3];z_go
theorem zt7 {i : Int} (h0 : 0 <= i) (h1 : i < 1000000000000000000000000) : (shw i).length <= 25 /\ ∀ c ∈ cd (shw i), 48 <= c /\ c <= 57 := by
 refine ⟨zkn (k := 24) (by decide) (by rw [show (10 : Nat) ^ 24 = 1000000000000000000000000 by decide]; omega), fun c hc => ?_⟩;unfold cd at hc;rw [zne h0] at hc;exact zrD i.toNat c hc
def nw (x : Str) : Prop := x.length <= 5000 /\ (∀ c ∈ cd x, c < 4294967296 /\ c ≠ 10) /\ (32 ∉ cd x \/ x = "1 ")
theorem nw.sm {x : Str} (h : nw x) : sm x := ⟨by have := h.1; omega, fun c hc => (h.2.1 c hc).1⟩
theorem zpS {i : Int} (h0 : 0 <= i) (h1 : i < 1000000000000000000000000) : nw (shw i) := by
 obtain ⟨a, b⟩ := zt7 h0 h1;refine ⟨by omega, fun c hc => ?_, .inl fun hc => ?_⟩
 ·have := b c hc;omega
 ·have := b 32 hc;omega
theorem zrz (n : Nat) : cd (repS (Str.ofString "9") n) = List.replicate n 57 := by
  unfold repS cd;have h : ∀ (n : Nat) (b : Array Nat), ((List.replicate n (Str.ofString "9").cps).foldl (· ++ ·) b).toList = b.toList ++ List.replicate n 57 := fun n => by
    induction n with
    | zero => intro b; simp
    | succ n ih =>
      intro b;rw [List.replicate_succ, List.foldl_cons, ih, Array.toList_append, show (Str.ofString "9").cps.toList = [57] by x_go, List.append_assoc, List.replicate_succ];rfl
  have := h n #[]
  simpa using this
theorem zrM {n : Nat} (h : n <= 5000) : nw (repS (Str.ofString "9") n) := by
 have e := zrz n;refine ⟨by rw [zeh, e, List.length_replicate]; exact h, fun c hc => ?_, .inl fun hc => ?_⟩
 ·rw [e, List.mem_replicate] at hc;omega
 ·rw [e, List.mem_replicate] at hc;omega
def nwT (x : Str) : Bool := decide (x.length <= 5000) && ((cd x).all (fun c => decide (c < 4294967296) && !decide (c = 10)) && (!(cd x).contains 32 || decide (x = "1 ")))
theorem zce {x : Str} (h : nwT x = true) : nw x := by
 unfold nwT at h;simp only [Bool.and_eq_true, Bool.or_eq_true, decide_eq_true_eq, List.all_eq_true, Bool.not_eq_true', decide_eq_false_iff_not] at h;refine ⟨h.1, h.2.1, h.2.2.imp (fun z y => ?_) id⟩;rw [List.contains_iff_mem.mpr y] at z;cases z
theorem g_no {x c : Int} (h0 : 0 <= x) (h1 : x < 715827877) : ∃ z, nw z /\ ∀ M : Mm, zdf [.int x, .int c] M = some (.v (.str z), M) := by
 have a1 := Int.emod_nonneg (x / 29) (show (3 : Int) ≠ 0 by decide);have a2 := Int.emod_lt_of_pos (x / 29) (show (0 : Int) < 3 by decide);have b1 := Int.emod_nonneg (x / 29) (show (30 : Int) ≠ 0 by decide);have b2 := Int.emod_lt_of_pos (x / 29) (show (0 : Int) < 30 by decide);have c1 := Int.emod_nonneg (c + x) (show (1000000000001 : Int) ≠ 0 by decide);have c2 := Int.emod_lt_of_pos (c + x) (show (0 : Int) < 1000000000001 by decide);have d1 := Int.emod_nonneg (c + x) (show (20 : Int) ≠ 0 by decide);have d2 := Int.emod_lt_of_pos (c + x) (show (0 : Int) < 20 by decide);have e1 := Int.emod_nonneg (c + x) (show (9 : Int) ≠ 0 by decide);have e2 := Int.emod_lt_of_pos (c + x) (show (0 : Int) < 9 by decide);have f1 := Int.emod_nonneg x (show (23 : Int) ≠ 0 by decide);have f2 := Int.emod_lt_of_pos x (show (0 : Int) < 23 by decide);generalize ha : x / 29 % 3 = a at a1 a2;generalize hb : x / 29 % 30 = b at b1 b2;generalize hc : (c + x) % 1000000000001 = cc at c1 c2;generalize hd : (c + x) % 20 = dd at d1 d2;generalize he : (c + x) % 9 = ee at e1 e2
 let ws : List Str := ["0", "1", "2", "7", "8", "9", shw 999999999999, shw 1000000000000, shw 1000000000001, "01", "-1", "", "x", repS "9" (19 + a).toNat, repS "9" (4390 + b).toNat, "+3", "1 ", "00", "-0", "3.0", shw cc, shw dd, shw ee]
 have hw : ∀ z ∈ ws, nw z := by
  intro z hz;simp only [ws, List.mem_cons, List.not_mem_nil, or_false] at hz;rcases hz with rfl | rfl | rfl | rfl | rfl | rfl | rfl | rfl | rfl | rfl | rfl | rfl | rfl | rfl | rfl | rfl | rfl | rfl | rfl | rfl | rfl | rfl | rfl <;> first | exact zce (by x_go) | exact zpS (by omega) (by omega) | exact zrM (by omega)
 refine ⟨ws.getD (x % 23).toNat "", hw _ ?_, fun M => ?_⟩
 ·rw [List.getD_eq_getElem?_getD, List.getElem?_eq_getElem (show (x % 23).toNat < ws.length by show _ < 23; omega)];exact List.getElem_mem _
 ·unfold zdf zeP;have pw : ((10 : Int) ^ (12 : Int).toNat) = 1000000000000 := by decide
  have lg : ∀ i : Int, 0 <= i -> i <= 1000000000001 -> i.natAbs.log2 < 1920 := fun i h0 h1 => zli (by omega);z_go;rw [if_pos (show Nat.log2 999999999999 < 1920 by x_go)];z_go;rw [if_pos (show Nat.log2 1000000000000 < 1920 by x_go)];z_go;rw [if_pos (show Nat.log2 1000000000001 < 1920 by x_go)];z_go;rw [ha, if_pos (show 1 < 19 + a /\ 19 + a < 100000 /\ 0 < (Str.ofString "9").length /\ (Str.ofString "9").length * (19 + a).toNat <= 16777216 by rw [show (Str.ofString "9").length = 1 by x_go]; omega)];z_go;rw [hb, if_pos (show 1 < 4390 + b /\ 4390 + b < 100000 /\ 0 < (Str.ofString "9").length /\ (Str.ofString "9").length * (4390 + b).toNat <= 16777216 by rw [show (Str.ofString "9").length = 1 by x_go]; omega)];z_go;rw [hc, if_pos (lg cc (by omega) (by omega))];z_go;rw [hd, if_pos (lg dd (by omega) (by omega))];z_go;rw [he, if_pos (lg ee (by omega) (by omega))];z_go;have key : atI (ws.map D.str) (x % 23) = some (.str (ws.getD (x % 23).toNat "")) := by
   rw [zfq, ziV (xs := ws) "" f1 (by show x % 23 < ((23 : Nat) : Int); omega)];rfl
  show endS (seqR sEnd (bndT (fun d M1 => some (Out.rt d, M1)) (mapR M (atI (ws.map D.str) (x % 23))))) = _;rw [key];z_go
def wth (x : Str) : Int := if cntB x = true then vl x else -1
theorem zlB {x : Str} : 0 <= wth x ↔ cntB x = true := by
 unfold wth;cases h : cntB x
 ·rw [if_neg (by decide)];exact ⟨fun z => absurd z (by decide), nofun⟩
 ·rw [if_pos rfl];exact ⟨fun _ => rfl, fun _ => (zfy h).2.1⟩
theorem zgJ {x : Str} {a b : Int} (h : 0 <= a) : cwB x a b = (decide (a <= wth x) && decide (wth x <= b)) := by
 unfold cwB wth;cases hc : cntB x
 ·rw [if_neg (by decide), show decide (a <= -1) = false from decide_eq_false (by omega)];rfl
 ·rw [if_pos rfl];rfl
theorem zn9 {z : Str} {c : Nat} : zc4 [.val (.str z), .val (.str ⟨#[c]⟩)] M = if dgc c = true then some (.nx [.val (.str z), .val (.str ⟨#[c]⟩)], M) else some (.rt (.int (-1)), M) := by
 unfold zc4;z_go;rw [zlM];cases dgc c
 ·z_go
 ·z_go
theorem zkO {z : Str} : ∀ (cs : List Nat) (s1 : E3.Slot), (cs.all dgc = true /\ ∃ s, loopS 1 zc4 (cs.map fun c => D.str ⟨#[c]⟩) [.val (.str z), s1] M = some (.nx [.val (.str z), s], M)) \/ (cs.all dgc = false /\ loopS 1 zc4 (cs.map fun c => D.str ⟨#[c]⟩) [.val (.str z), s1] M = some (.rt (.int (-1)), M))
  | [], s1 => .inl ⟨rfl, s1, rfl⟩
  | c :: cs, s1 => by
    rw [List.map_cons, List.all_cons];z_go;rw [zn9];cases dgc c
    · refine .inr ⟨rfl, ?_⟩;z_go
    · z_go;exact zkO cs _
theorem g_wo {z : Str} (h : sm z) : zaX [.str z] M = some (.v (.int (wth z)), M) := by
  have hl := zeh z;have h9 := h.1;have n1 : cntB z = false -> wth z = -1 := fun h => by unfold wth; rw [h]; rfl
  have hG : sOr (s2 (oCmp .eq) (sVar 0) (sCon (.str ""))) (sOr (s2 (oCmp .gt) (sN bLen (zad (sVar 0) sNil)) (sCon (.int 20))) (sAnd (s2 (oCmp .gt) (sN bLen (zad (sVar 0) sNil)) (sCon (.int 1))) (s2 (oCmp .eq) (s2 oIx (sVar 0) (sCon (.int 0))) (sCon (.str "0"))))) [.val (.str z), .un] M
      = some (.v (.bl (decide (cd z = [] \/ 20 < z.length \/ (1 < z.length /\ (cd z).head? = some 48)))), M) := by
    z_go;simp only [eq_e]
    cases hc : cd z with
    | nil => z_go
    | cons c r =>
      rw [hc, List.length_cons] at hl;z_go;rw [if_pos (show z.length <= 16777216 by omega)];z_go
      by_cases h20 : 20 < z.length
      · rw [if_pos (by omega)];simp only [h20];z_go
      · rw [if_neg (by omega), if_pos (show z.length <= 16777216 by omega)];z_go
        by_cases h1 : 1 < z.length
        · rw [if_pos (by omega), if_pos (show z.length <= 16777216 by omega), show z.cps.toList = cd z from rfl, hc];z_go;simp only [eq_0, zmJ, List.cons.injEq, and_true, h1, h20, List.head?_cons, Option.some.injEq, true_and, false_or]
        · rw [if_neg (by omega)];simp only [h1, h20];z_go
          simp
  unfold zaX zfs;rw [q_fn];show endS (sSeq (sIf _ _ _) _ [.val (.str z), .un] M) = _;rw [zmz, q_if, hG, zj0, r_if]
  by_cases hg : cd z = [] \/ 20 < z.length \/ (1 < z.length /\ (cd z).head? = some 48)
  · have hf : cntB z = false := by
      unfold cntB figB;rcases hg with h0 | h0 | ⟨h0, h1⟩
      · rw [h0]; simp
      · rw [decide_eq_false (by omega)]; rfl
      · have : cd z ≠ [48] := fun e => by rw [e] at hl; simp at hl; omega
        rw [h1, decide_eq_false this]
        simp
    rw [n1 hf, if_pos (decide_eq_true hg)];z_go
  · rw [if_neg (by rw [decide_eq_false hg]; decide)];have hne : cd z ≠ [] := fun e => hg (.inl e);have h20 : ¬ 20 < z.length := fun e => hg (.inr (.inl e));have ft : cntB z = (cd z).all dgc := by
      unfold cntB figB;rw [decide_eq_true (show z.length <= 20 by omega), decide_eq_false hne]
      by_cases h48 : (cd z).head? = some 48
      · have h1 : ¬ 1 < z.length := fun e => hg (.inr (.inr ⟨e, h48⟩));obtain ⟨c, r, e⟩ := List.exists_cons_of_ne_nil hne;rw [e] at h48 hl
        simp at h48 hl
        have : r = [] := List.length_eq_zero_iff.mp (by omega);rw [e, h48, this]
        decide
      · simp [h48]
    z_go;rw [show z.cps.toList = cd z from rfl];rcases zkO (M := M) (z := z) (cd z) .un with ⟨ha, s, e⟩ | ⟨ha, e⟩
    · rw [e];have hb : cntB z = true := ft.trans ha;have hi := (zfy hb).1;z_go;rw [if_pos (show z.length <= 640 by omega), hi];z_go;unfold wth;rw [if_pos hb]
    · rw [e, n1 (ft.trans ha)];z_go
theorem zm8 : ∀ (cs : List Nat) (acc : Nat), NumText.AllDigits cs -> cs.foldl (fun acc c => acc * 10 + (c - 48)) acc < (acc + 1) * 10 ^ cs.length
  | [], acc, _ => by simp
  | c :: cs, acc, h => by
    have hc := h c List.mem_cons_self;have := zm8 cs (acc * 10 + (c - 48)) fun d hd => h d (List.mem_cons_of_mem _ hd);rw [List.foldl_cons, List.length_cons, Nat.pow_succ];refine Nat.lt_of_lt_of_le this ?_;rw [Nat.mul_comm (10 ^ cs.length) 10, <- Nat.mul_assoc];exact Nat.mul_le_mul_right _ (by omega)
theorem ztg (cs : List Nat) (h : NumText.AllDigits cs) : NumText.digitsVal cs < 10 ^ cs.length := by
 have := zm8 cs 0 h;rw [Nat.zero_add, Nat.one_mul] at this;exact this
theorem zpl {z : Str} : wth z < 1000000000000000000000 := by
  unfold wth
  split
  · rename_i h;obtain ⟨_, _, h3⟩ := zfy h;unfold cntB at h;rw [Bool.and_eq_true] at h;obtain ⟨n0, ad, _⟩ := zfB h.2;have hd : (cd z).head? ≠ some 45 := fun y => by
      cases hc : cd z with
      | nil => exact n0 hc
      | cons c r =>
        rw [hc] at y ad;cases y;have := ad 45 (List.mem_cons_self ..);revert this
        decide
    unfold vl vlc;rw [if_neg hd];have := ztg _ ad;rw [<- zeh] at this;have h10 : 10 ^ z.length <= 10 ^ 20 := Nat.pow_le_pow_right (by decide) h3;rw [show (10 : Nat) ^ 20 = 100000000000000000000 by decide] at h10;omega
  · decide
theorem g_nr {z : Str} {x : Int} (h : nw z) (h0 : 0 <= x) : ∃ y, nw y /\ ∀ M : Mm, zeu [.str z, .int x] M = some (.v (.str y), M) := by
 have hw := zpl (z := z)
 by_cases hn : wth z < 0
 ·refine ⟨z, h, fun M => ?_⟩;unfold zeu zf1;z_go;rw [g_wo h.sm];z_go;rw [if_pos hn];z_go
 ·generalize ew : wth z = w at hn hw
  let is : List Int := [w - 1, w, w + 1, 8 * w - 1, 8 * w, 8 * w + 1, 3 * w]
  have f1 := Int.emod_nonneg x (show (7 : Int) ≠ 0 by decide);have f2 := Int.emod_lt_of_pos x (show (0 : Int) < 7 by decide);have hi : ∀ i ∈ is, -1 <= i /\ i < 10000000000000000000000 := by
   intro i hi;simp only [is, List.mem_cons, List.not_mem_nil, or_false] at hi;omega
  have hm : is.getD (x % 7).toNat 0 ∈ is := by
   rw [List.getD_eq_getElem?_getD, List.getElem?_eq_getElem (show (x % 7).toNat < is.length by show _ < 7; omega)];exact List.getElem_mem _
  have key : atI (is.map D.int) (x % 7) = some (.int (is.getD (x % 7).toNat 0)) := by
   rw [zfq, ziV (xs := is) 0 f1 (by show x % 7 < ((7 : Nat) : Int); omega)];rfl
  have hk := hi _ hm;generalize is.getD (x % 7).toNat 0 = i at hk key;refine ⟨shw i, ?_, fun M => ?_⟩
  ·by_cases h1 : 0 <= i
   ·exact zpS h1 (by omega)
   ·have : i = -1 := by omega
    rw [this];exact zce (by x_go)
  ·unfold zeu zf1;z_go;rw [g_wo h.sm, ew];z_go;rw [if_neg hn];z_go;rw [show [D.int (w - 1), .int w, .int (w + 1), .int (8 * w - 1), .int (8 * w), .int (8 * w + 1), .int (3 * w)] = is.map D.int from rfl, key];z_go;rw [if_pos (zli (by omega))];z_go;rfl
def folds : List Str := ["sum", "count", "most", "least", "max", "Sum"]
inductive Wk : List Str -> Prop
 | share {p q : Str} : nw p -> nw q -> Wk ["share", "b", "a", p, q]
 | fixed {p f : Str} : nw p -> f ∈ folds -> Wk ["fixed", "b", "a", p, f]
 | gap {p f : Str} : nw p -> f ∈ folds -> Wk ["gap", "b", "a", p, f]
 | join {p : Str} : nw p -> Wk ["join", "b", "a", "a", p, "w"]
 | pour {n : Nat} : n <= 10 -> Wk ("pour" :: "b" :: List.replicate n (Str.ofString "a"))
 | slide {p q f : Str} : nw p -> nw q -> f ∈ folds -> Wk ["slide", "b", "a", p, q, f]
theorem g_wk {a0 a1 a2 a3 a4 a5 c : Int} (h : dwn [a0, a1, a2, a3, a4, a5]) : ∃ ws, Wk ws /\ ∀ M : Mm, zbR [.lst [.int a0, .int a1, .int a2, .int a3, .int a4, .int a5], .int c] M = some (.v (.lst (ws.map D.str)), M) := by
 have h0 := h a0 (by simp);have h2 := h a2 (by simp);have h3 := h a3 (by simp);have h5 := h a5 (by simp);obtain ⟨p, hp, ep⟩ := g_no (c := c) h2.1 h2.2;obtain ⟨q, hq, eq⟩ := g_no (c := c) h3.1 h3.2;obtain ⟨y, hy, ey⟩ := g_nr hq h5.1;have f1 := Int.emod_nonneg (a1 / 2) (show (6 : Int) ≠ 0 by decide);have f2 := Int.emod_lt_of_pos (a1 / 2) (show (0 : Int) < 6 by decide);have kf : atI (folds.map D.str) (a1 / 2 % 6) = some (.str (folds.getD (a1 / 2 % 6).toNat "")) := by
  rw [zfq, ziV (xs := folds) "" f1 (by show a1 / 2 % 6 < ((6 : Nat) : Int); omega)];rfl
 have hf : folds.getD (a1 / 2 % 6).toNat "" ∈ folds := by
  rw [List.getD_eq_getElem?_getD, List.getElem?_eq_getElem (show (a1 / 2 % 6).toNat < folds.length by show _ < 6; omega)];exact List.getElem_mem _
 generalize folds.getD (a1 / 2 % 6).toNat "" = f at kf hf;have k1 := Int.emod_nonneg a0 (show (7 : Int) ≠ 0 by decide);have k2 := Int.emod_lt_of_pos a0 (show (0 : Int) < 7 by decide);have m1 := Int.emod_nonneg a4 (show (2 : Int) ≠ 0 by decide);have m2 := Int.emod_lt_of_pos a4 (show (0 : Int) < 2 by decide);have n1 := Int.emod_nonneg a4 (show (11 : Int) ≠ 0 by decide);have n2 := Int.emod_lt_of_pos a4 (show (0 : Int) < 11 by decide);generalize hk : a0 % 7 = k at k1 k2;generalize hm : a4 % 2 = m at m1 m2;generalize hn : a4 % 11 = n at n1 n2;have at4 : ∀ (x0 x1 x2 x3 x4 x5 : D), atI [x0, x1, x2, x3, x4, x5] 4 = some x4 := fun _ _ _ _ _ _ => rfl;have at5 : ∀ (x0 x1 x2 x3 x4 x5 : D), atI [x0, x1, x2, x3, x4, x5] 5 = some x5 := fun _ _ _ _ _ _ => rfl;have fold : [D.str "sum", .str "count", .str "most", .str "least", .str "max", .str "Sum"] = folds.map D.str := rfl;have beg : ∀ (M : Mm) (ws : List Str), (∀ r, r = zbS -> True) -> True := fun _ _ _ => trivial;clear beg;have e2 : m = 0 \/ m = 1 := by omega
 have e7 : k = 0 \/ k = 1 \/ k = 2 \/ k = 3 \/ k = 4 \/ k = 5 \/ k = 6 := by omega
 rcases e7 with rfl | rfl | rfl | rfl | rfl | rfl | rfl
 ·rcases e2 with rfl | rfl
  ·refine ⟨_, .share hp hq, fun M => ?_⟩;unfold zbR zbS;z_go;rw [fold, kf];z_go;rw [ep];z_go;rw [eq];z_go;rw [hk];z_go;rw [at5];z_go;rw [ey];z_go;rw [at4];z_go;rw [hm];z_go
  ·refine ⟨_, .share hy hq, fun M => ?_⟩;unfold zbR zbS;z_go;rw [fold, kf];z_go;rw [ep];z_go;rw [eq];z_go;rw [hk];z_go;rw [at5];z_go;rw [ey];z_go;rw [at4];z_go;rw [hm];z_go
 ·refine ⟨_, .fixed hp hf, fun M => ?_⟩;unfold zbR zbS;z_go;rw [fold, kf];z_go;rw [ep];z_go;rw [eq];z_go;rw [hk];z_go
 ·refine ⟨_, .gap hp hf, fun M => ?_⟩;unfold zbR zbS;z_go;rw [fold, kf];z_go;rw [ep];z_go;rw [eq];z_go;rw [hk];z_go
 ·refine ⟨_, .join hp, fun M => ?_⟩;unfold zbR zbS;z_go;rw [fold, kf];z_go;rw [ep];z_go;rw [eq];z_go;rw [hk];z_go
 ·refine ⟨_, .pour (n := n.toNat) (by omega), fun M => ?_⟩;unfold zbR zbS;z_go;rw [fold, kf];z_go;rw [ep];z_go;rw [eq];z_go;rw [hk];z_go;rw [zpc];z_go;rw [zqW (i := n)]
  ·z_go;have : (List.replicate n.toNat [D.str "a"]).flatten = (List.replicate n.toNat (Str.ofString "a")).map D.str := by
    rw [List.map_replicate];exact List.flatten_replicate_singleton
   rw [this, if_pos (by rw [List.length_map, List.length_replicate]; omega)];z_go
  ·z_go;rw [at4];z_go;rw [hn]
  ·exact ⟨by omega, by simp⟩
 ·refine ⟨_, .slide hp hq hf, fun M => ?_⟩;unfold zbR zbS;z_go;rw [fold, kf];z_go;rw [ep];z_go;rw [eq];z_go;rw [hk];z_go
 ·refine ⟨_, .slide hy hq hf, fun M => ?_⟩;unfold zbR zbS;z_go;rw [fold, kf];z_go;rw [ep];z_go;rw [eq];z_go;rw [hk];z_go;rw [at5];z_go;rw [ey];z_go
theorem zna {c : Nat} : ∀ {as bs : List (List Nat)}, as ≠ [] -> bs ≠ [] -> jn c (as ++ bs) = jn c as ++ c :: jn c bs
  | [], _, h, _ => absurd rfl h
  | [a], [], _, h => absurd rfl h
  | [a], b :: bs, _, _ => rfl
  | a :: a' :: as, bs, _, hb => by
    show a ++ c :: jn c (a' :: as ++ bs) = _;rw [zna (by simp) hb]
    simp [jn]
theorem zlv {α : Type} {c : Nat} {f : α -> List (List Nat)} : ∀ (ls : List α), (∀ l ∈ ls, f l ≠ []) -> jn c (ls.flatMap f) = jn c (ls.map fun l => jn c (f l))
  | [], _ => rfl
  | [l], _ => by simp [jn]
  | l :: m :: ls, h => by
    have hm := h m (by simp);rw [List.flatMap_cons, zna (h l (by simp)) (by rw [List.flatMap_cons]; intro z; exact hm (List.append_eq_nil_iff.mp z).1), zlv (m :: ls) fun x hx => h x (List.mem_cons_of_mem _ hx)];rfl
theorem zm5 {c B : Nat} : ∀ (ps : List (List Nat)), (∀ p ∈ ps, p.length <= B) -> (jn c ps).length <= ps.length * (B + 1)
  | [], _ => by simp [jn]
  | [p], h => by have := h p (by simp); simp [jn]; omega
  | p :: q :: r, h => by
    have := zm5 (c := c) (q :: r) fun x hx => h x (List.mem_cons_of_mem _ hx);have hp := h p (by simp);rw [jn, List.length_append, List.length_cons, List.length_cons, Nat.succ_mul];omega
theorem znp {c d : Nat} : ∀ (ps : List (List Nat)), d ∈ jn c ps -> d = c \/ ∃ p ∈ ps, d ∈ p
  | [], h => by cases h
  | [p], h => .inr ⟨p, by simp, h⟩
  | p :: q :: r, h => by
    rw [jn, List.mem_append, List.mem_cons] at h;rcases h with h | rfl | h
    · exact .inr ⟨p, by simp, h⟩
    · exact .inl rfl
    · rcases znp (q :: r) h with h | ⟨x, hx, h⟩
      · exact .inl h
      · exact .inr ⟨x, List.mem_cons_of_mem _ hx, h⟩
def pts (z : Str) : List Str := if 32 ∈ cd z then ["1", ""] else [z]
theorem zlb : Str.ofString " " = ⟨#[32]⟩ := by x_go
theorem zsQ : Str.ofString "\n" = ⟨#[10]⟩ := by x_go
theorem zph {z : Str} (h : nw z) : jn 32 ((pts z).map cd) = cd z := by
 unfold pts
 split
 ·rename_i hz;rcases h.2.2 with h | h
  ·exact absurd hz h
  ·rw [h]
   decide +kernel
 ·rfl
theorem zm4 {z y : Str} (h : nw z) (hy : y ∈ pts z) : sm y /\ 32 ∉ cd y := by
 unfold pts at hy;split at hy
 ·simp only [List.mem_cons, List.not_mem_nil, or_false] at hy;rcases hy with rfl | rfl
  ·exact ⟨⟨by x_go, by x_go⟩, by x_go⟩
  ·exact ⟨⟨by x_go, by x_go⟩, by x_go⟩
 ·rename_i hz;rw [List.mem_singleton] at hy;subst hy;exact ⟨h.sm, hz⟩
theorem zi0 {z : Str} : pts z ≠ [] := by unfold pts; split <;> simp
theorem zpH {z : Str} : (pts z).length <= 2 := by unfold pts; split <;> simp
theorem zlG : ∀ ws : List Str, (ws.flatMap pts).length <= 2 * ws.length
  | [] => by simp
  | w :: ws => by
    have := zlG ws;have := zpH (z := w);rw [List.flatMap_cons, List.length_append, List.length_cons];omega
theorem zqA {ws : List Str} (h : ∀ x ∈ ws, nw x) (hn : ws ≠ []) (hl : ws.length <= 20) : Ln (Txt.join (Str.ofString " ") ws) (ws.flatMap pts) /\ 10 ∉ cd (Txt.join (Str.ofString " ") ws) := by
 have hj := znO zlb ws;refine ⟨⟨?_, ?_, ?_, ?_⟩, ?_⟩
 ·rw [zlb];refine zhf (by obtain ⟨w, r, rfl⟩ := List.exists_cons_of_ne_nil hn; rw [List.flatMap_cons]; intro z; exact zi0 (List.append_eq_nil_iff.mp z).1) (fun y hy => ?_) ?_
  ·obtain ⟨z, hz, hy⟩ := List.mem_flatMap.mp hy;exact (zm4 (h z hz) hy).2
  ·rw [<- zlb, hj, List.map_flatMap, zlv ws fun l _ => by simpa using zi0];congr 1;exact (List.map_congr_left fun z hz => (zph (h z hz))).symm
 ·rw [zeh, hj];refine Nat.le_trans (zm5 (B := 5000) _ fun p hp => ?_) ?_
  ·obtain ⟨z, hz, rfl⟩ := List.mem_map.mp hp;rw [<- zeh];exact (h z hz).1
  ·rw [List.length_map];omega
 ·intro y hy;obtain ⟨z, hz, hy⟩ := List.mem_flatMap.mp hy;exact (zm4 (h z hz) hy).1
 ·have := zlG ws;omega
 ·rw [hj];intro z;rcases znp _ z with z | ⟨p, hp, z⟩
  ·exact absurd z (by decide)
  ·obtain ⟨y, hy, rfl⟩ := List.mem_map.mp hp;exact ((h y hy).2.1 10 z).2 rfl
def bd (z : Str) : Bool := decide (z = "") || decide (32 ∈ cd z)
theorem zmW {x : Str} {ws : List Str} : oCmp .isin (.str x) (.lst (ws.map D.str)) = some (.bl (ws.any fun y => decide (y = x))) := by
 unfold oCmp cmpD cIn;simp only;rw [if_pos (by simp [D.flat])];simp only [Option.map_some, List.any_map];congr 3
theorem zps : ∀ (ws : List Str), cd (Txt.join (Str.ofString "") ws) = (ws.map cd).flatten := fun ws => by
  show cd (Builtin.Str.glued _ _) = _;rw [StrLaws.glued_eq_join];have h : ∀ ws : List Str, cd (Str.join (Str.ofString "") ws) = (ws.map cd).flatten := fun ws => by
    induction ws with
    | nil => rfl
    | cons w ws ih =>
      cases ws with
      | nil => simp [Str.join]
      | cons v ws =>
        show cd (w ++ Str.ofString "" ++ Str.join (Str.ofString "") (v :: ws)) = _;rw [zhw, zhw, ih, show cd (Str.ofString "") = [] by x_go]
        simp
  exact h ws
theorem znt {ws : List Str} {B : Nat} (h : ∀ x ∈ ws, x.length <= B) : (ws.map (·.length)).sum <= ws.length * B := by
  induction ws with
  | nil => simp
  | cons w ws ih =>
    have := h w (by simp);have := ih fun x hx => h x (List.mem_cons_of_mem _ hx);rw [List.map_cons, List.sum_cons, List.length_cons, Nat.succ_mul];omega
theorem zt8 {ws : List Str} {t1 t2 : E3.Slot} (h : ∀ x ∈ ws, nw x) (hl : ws.length <= 20) : sOr (s2 (oCmp .isin) (sCon (.str "")) (sVar 0)) (s2 (oCmp .isin) (sCon (.str " ")) (sMt zhL (sCon (.str "")) (zad (sVar 0) sNil))) [.val (.lst (ws.map D.str)), t1, t2] M = some (.v (.bl (ws.any bd)), M) := by
  have hs := znt (B := 5000) fun x hx => (h x hx).1;have ea : ws.any bd = (ws.any (fun y => decide (y = "")) || ws.any (fun y => decide (32 ∈ cd y))) := by
    clear h hl hs
    induction ws with
    | nil => rfl
    | cons w ws ih =>
      rw [List.any_cons, List.any_cons, List.any_cons, ih];unfold bd;cases decide (w = Str.ofString "") <;> cases decide (32 ∈ cd w) <;> simp
  rw [ea];z_go;rw [zmW];cases ws.any (fun y => decide (y = Str.ofString ""))
  · z_go;unfold zhL;simp only [E3.strs_map];rw [if_pos ⟨by x_go, by omega⟩];z_go;congr 4;unfold zgm;rw [zlb, StrLaws.found_one, show (Txt.join (Str.ofString "") ws).cps.toList = cd (Txt.join (Str.ofString "") ws) from rfl, zps, Bool.eq_iff_iff]
    simp
    exact ⟨fun ⟨_, ⟨a, h, e⟩, z⟩ => ⟨a, h, by rw [e]; exact z⟩, fun ⟨a, h, z⟩ => ⟨_, ⟨a, h, rfl⟩, z⟩⟩
  · z_go
structure Fit (ws : List Str) (g : Bool) : Prop where
 gd : ∀ M : Mm, zer [.lst (ws.map D.str)] M = some (.v (.bl g), M)
 rw : ∃ (w : Str) (r : List Str) (m : Nat), ws = w :: "b" :: r /\ (m : Int) = (if w = "join" then 2 else if w = "pour" then (r.length : Int) else 1) /\ (∀ x ∈ r.take m, x = "a") /\
  rowP (ws.flatMap pts) = if g = true then some ⟨w, "b", r.take m, r.drop m⟩ else none
theorem nwl : nw "b" /\ nw "a" /\ nw "w" /\ nw "share" /\ nw "fixed" /\ nw "gap" /\ nw "join" /\ nw "pour" /\ nw "slide" := ⟨zce (by x_go), zce (by x_go), zce (by x_go), zce (by x_go), zce (by x_go), zce (by x_go), zce (by x_go), zce (by x_go), zce (by x_go)⟩
theorem bdl : bd "b" = false /\ bd "a" = false /\ bd "w" = false /\ bd "share" = false /\ bd "fixed" = false /\ bd "gap" = false /\ bd "join" = false /\ bd "pour" = false /\ bd "slide" = false := by x_go
theorem ptl {x : Str} (h : bd x = false) : pts x = [x] := by
 unfold bd at h;rw [Bool.or_eq_false_iff] at h;unfold pts;rw [if_neg (of_decide_eq_false h.2)]
theorem pt2 {x : Str} (h : 32 ∈ cd x) : pts x = [Str.ofString "1", Str.ofString ""] := by unfold pts; rw [if_pos h]
theorem pt1 {x : Str} (h : 32 ∉ cd x) : pts x = [x] := by unfold pts; rw [if_neg h]
theorem zgs {x : Str} (h : 0 <= wth x) : bd x = false := by
 have h1 := zlB.mp h;unfold cntB at h1;rw [Bool.and_eq_true] at h1;obtain ⟨n0, ad, _⟩ := zfB h1.2;unfold bd;rw [decide_eq_false (fun z => n0 (by rw [z]; decide +kernel)), decide_eq_false (fun z => by have := ad 32 z; revert this; decide)];rfl
theorem zlg {f : Str} (h : f ∈ folds) : nw f /\ bd f = false /\ fldB f = !(decide (f = "max") || decide (f = "Sum")) := by
 unfold folds at h;simp only [List.mem_cons, List.not_mem_nil, or_false] at h;rcases h with rfl | rfl | rfl | rfl | rfl | rfl <;> exact ⟨zce (by x_go), by x_go, by x_go⟩
theorem row1 {w : Str} {r : List Str} (h1 : frm w = some 1) (h2 : w ≠ "pour") : rowB (w :: "b" :: "a" :: r) = rstB w r /\ (rowB (w :: "b" :: "a" :: r) = true -> rowP (w :: "b" :: "a" :: r) = some ⟨w, "b", ["a"], r⟩) := by
 have e : rowB (w :: "b" :: "a" :: r) = rstB w r := by
  unfold rowB;dsimp only;rw [h1];dsimp only;unfold hfB;rw [if_neg h2];show (decide (1 = 1) && (([Str.ofString "b", Str.ofString "a"]).all nmB && rstB w r)) = _;rw [show ([Str.ofString "b", Str.ofString "a"]).all nmB = true by x_go];rfl
 refine ⟨e, fun h => ?_⟩;obtain ⟨w', nm, r', f, e1, e2, e3⟩ := zgg h;cases e1;rw [h1] at e2;cases e2;exact e3
theorem zjk {w : Str} {r : List Str} (h : ∀ x ∈ w :: r, nw x) (hl : (w :: r).length <= 20) (hp : w ≠ "pour") : zer [.lst ((w :: r).map D.str)] M = if (w :: r).any bd = true then some (.v (.bl false), M) else endS (zdc [.val (.lst ((w :: r).map D.str)), .val (.str w), .un] M) := by
 have hB := zt8 (M := M) (t1 := .val (.str w)) (t2 := .un) h hl;unfold zer zfL;rw [q_fn, List.map_cons];rw [List.map_cons] at hB;z_go;unfold zfC;z_go;rw [if_neg hp];z_go;unfold zih;rw [zmz, q_if, hB, zj0, r_if];cases (w :: r).any bd
 ·z_go
 ·z_go
theorem zlT {p q : Str} (hp : nw p) (hq : nw q) : ∃ g, Fit ["share", "b", "a", p, q] g := by
  let g : Bool := (decide (1 <= wth q) && decide (wth q <= 8)) && (decide (0 <= wth p) && decide (wth p < wth q))
  have hb : (["share", "b", "a", p, q] : List Str).any bd = (bd p || bd q) := by
    simp only [List.any_cons, List.any_nil, bdl, Bool.false_or, Bool.or_false]
  have hnw : ∀ x ∈ (["share", "b", "a", p, q] : List Str), nw x := by
    intro x hx;simp only [List.mem_cons, List.not_mem_nil, or_false] at hx;rcases hx with rfl | rfl | rfl | rfl | rfl <;> first | assumption | exact zce (by x_go)
  have gb : g = true -> bd p = false /\ bd q = false := fun h => by
    simp only [g, Bool.and_eq_true, decide_eq_true_eq] at h;exact ⟨zgs (by omega), zgs (by omega)⟩
  refine ⟨g, fun M => ?_, "share", ["a", p, q], 1, rfl, by rw [if_neg (by x_go), if_neg (by x_go)]; rfl, by simp, ?_⟩
  · have at4 : ∀ (x0 x1 x2 x3 x4 : D), atI [x0, x1, x2, x3, x4] 4 = some x4 := fun _ _ _ _ _ => rfl;have c1 : ∀ M : Mm, sChn .le .le (sCon (.int 1)) (zaO zaX (zad (s2 oIx (sVar 0) (sCon (.int 4))) sNil)) (sCon (.int 8)) [.val (.lst [.str "share", .str "b", .str "a", .str p, .str q]), .val (.str "share"), .un] M = some (.v (.bl (decide (1 <= wth q) && decide (wth q <= 8))), M) := fun M => by
      refine zfF (by z_go) ?_ (by z_go);z_go;rw [at4];z_go;rw [g_wo hq.sm];z_go
    have c2 : ∀ M : Mm, sChn .le .lt (sCon (.int 0)) (zaO zaX (zad (s2 oIx (sVar 0) (sCon (.int 3))) sNil)) (zaO zaX (zad (s2 oIx (sVar 0) (sCon (.int 4))) sNil)) [.val (.lst [.str "share", .str "b", .str "a", .str p, .str q]), .val (.str "share"), .un] M = some (.v (.bl (decide (0 <= wth p) && decide (wth p < wth q))), M) := fun M => by
      refine zrq (by z_go) ?_ ?_
      · z_go;rw [g_wo hp.sm];z_go
      · z_go;rw [at4];z_go;rw [g_wo hq.sm];z_go
    rw [zjk hnw (by simp) (by x_go), hb];cases hbb : (bd p || bd q)
    · rw [if_neg (by decide)];unfold zdc;simp only [List.map_cons, List.map_nil];z_go;rw [c1];simp only [g];cases decide (1 <= wth q) && decide (wth q <= 8)
      · z_go
      · z_go;rw [c2];z_go
    · have : g = false := by
        cases hg : g
        · rfl
        · obtain ⟨h1, h2⟩ := gb hg;rw [h1, h2] at hbb;cases hbb
      rw [this];z_go
  · obtain ⟨r1, r2⟩ := row1 (w := "share") (r := pts p ++ pts q) (by x_go) (by x_go);have ef : (["share", "b", "a", p, q] : List Str).flatMap pts = Str.ofString "share" :: "b" :: "a" :: (pts p ++ pts q) := by
      simp only [List.flatMap_cons, List.flatMap_nil, ptl bdl.2.2.2.1, ptl bdl.1, ptl bdl.2.1, List.append_nil, List.cons_append, List.nil_append]
    have er : rstB "share" (pts p ++ pts q) = shrB (pts p ++ pts q) := by
      unfold rstB;rw [if_neg (by x_go), if_neg (by x_go), if_pos rfl]
    have eg : shrB (pts p ++ pts q) = g := by
      by_cases h1 : 32 ∈ cd p
      · have : g = false := by
          cases hg : g
          · rfl
          · have := (gb hg).1;unfold bd at this;rw [decide_eq_true h1, Bool.or_true] at this;cases this
        rw [this, pt2 h1]
        cases hq2 : pts q with
        | nil => exact absurd hq2 zi0
        | cons a b => rfl
      · by_cases h2 : 32 ∈ cd q
        · have : g = false := by
            cases hg : g
            · rfl
            · have := (gb hg).2;unfold bd at this;rw [decide_eq_true h2, Bool.or_true] at this;cases this
          rw [this, pt1 h1, pt2 h2];rfl
        · rw [pt1 h1, pt1 h2];show (cwB q 1 8 && cwB p 0 (vl q - 1)) = g;rw [zgJ (by decide), zgJ (by decide)];simp only [g]
          by_cases h8 : 1 <= wth q
          · have : vl q = wth q := by
              unfold wth;rw [if_pos (zlB.mp (by omega))]
            rw [this];congr 2;rw [Bool.eq_iff_iff];simp only [decide_eq_true_eq];omega
          · rw [decide_eq_false h8];rfl
    rw [ef];cases hg : g
    · rw [if_neg (by decide)];exact ze8 (by rw [r1, er, eg, hg])
    · rw [if_pos rfl];obtain ⟨b1, b2⟩ := gb hg;rw [r2 (by rw [r1, er, eg, hg]), ptl b1, ptl b2];rfl
theorem n5 {w p f : Str} {ds : List D} (hp : nw p) (h3 : atI ds 3 = some (.str p)) (hm : atI ds (-1) = some (.str f)) : zfY [.val (.lst ds), .val (.str w), .un] M = if ((decide (f = "max") || decide (f = "Sum")) || !(decide (1 <= wth p) && decide (wth p <= 1000000000000))) = true then some (.rt (.bl false), M) else zeS [.val (.lst ds), .val (.str w), .val (.int (wth p))] M := by
 have c : sChn .le .le (sCon (.int 1)) (sVar 2) (s2 oPow (sCon (.int 10)) (sCon (.int 12))) [.val (.lst ds), .val (.str w), .val (.int (wth p))] M = some (.v (.bl (decide (1 <= wth p) && decide (wth p <= 1000000000000))), M) := by
  refine zfF (by z_go) (by z_go) (by z_go)
 have ei : oCmp .isin (.str f) (.lst [.str "max", .str "Sum"]) = some (.bl (decide (f = "max") || decide (f = "Sum"))) := by
  rw [show [D.str "max", D.str "Sum"] = (["max", "Sum"] : List Str).map D.str from rfl, zmW];simp only [List.any_cons, List.any_nil, Bool.or_false];congr 2;rw [Bool.eq_iff_iff];simp only [Bool.or_eq_true, decide_eq_true_eq];exact ⟨fun z => z.imp Eq.symm Eq.symm, fun z => z.imp Eq.symm Eq.symm⟩
 unfold zfY;z_go;rw [h3];z_go;rw [g_wo hp.sm];z_go;unfold zhZ;z_go;rw [hm];z_go;rw [ei];cases decide (f = Str.ofString "max") || decide (f = Str.ofString "Sum")
 ·z_go;rw [c];cases decide (1 <= wth p) && decide (wth p <= 1000000000000)
  ·z_go
  ·z_go
 ·z_go
theorem zmh {x : Str} {g : Bool} (h : g = true -> bd x = false) (h1 : 32 ∈ cd x) : g = false := by
 cases hg : g
 ·rfl
 ·have := h hg;unfold bd at this;rw [decide_eq_true h1, Bool.or_true] at this;cases this
theorem vl_w {x : Str} (h : 0 <= wth x) : vl x = wth x := by
 unfold wth;rw [if_pos (zlB.mp h)]
theorem zmZ {w p f : Str} (hw : w = "fixed" \/ w = "gap") (hp : nw p) (hf : f ∈ folds) : ∃ g, Fit [w, "b", "a", p, f] g := by
  obtain ⟨f1, f2, f3⟩ := zlg hf;have w1 : nw w /\ bd w = false /\ frm w = some 1 /\ w ≠ "pour" /\ w ≠ "share" /\ w ≠ "join" /\ w ≠ "slide" /\ w ≠ "keep" /\ w ≠ "turn" := by
    rcases hw with rfl | rfl <;> exact ⟨zce (by x_go), by x_go, by x_go, by x_go, by x_go, by x_go, by x_go, by x_go, by x_go⟩
  obtain ⟨w2, w3, w4, w5, w6, w7, w8, w9, w10⟩ := w1
  let g : Bool := fldB f && (decide (1 <= wth p) && decide (wth p <= 1000000000000))
  have hb : ([w, "b", "a", p, f] : List Str).any bd = bd p := by
    simp only [List.any_cons, List.any_nil, bdl, w3, f2, Bool.false_or, Bool.or_false]
  have hnw : ∀ x ∈ ([w, "b", "a", p, f] : List Str), nw x := by
    intro x hx;simp only [List.mem_cons, List.not_mem_nil, or_false] at hx;rcases hx with rfl | rfl | rfl | rfl | rfl <;> first | assumption | exact zce (by x_go)
  have gb : g = true -> bd p = false := fun h => by
    simp only [g, Bool.and_eq_true, decide_eq_true_eq] at h;exact zgs (by omega)
  refine ⟨g, fun M => ?_, w, ["a", p, f], 1, rfl, by rw [if_neg w7, if_neg w5]; rfl, by simp, ?_⟩
  · rw [zjk hnw (by simp) w5, hb];cases hbb : bd p
    · rw [if_neg (by decide)];unfold zdc;simp only [List.map_cons, List.map_nil];z_go;rw [if_neg w6];z_go;unfold zeJ;z_go;rw [if_neg w7];z_go;rw [n5 (p := p) (f := f) hp rfl rfl];simp only [g, f3];cases decide (f = Str.ofString "max") || decide (f = Str.ofString "Sum")
      · cases decide (1 <= wth p) && decide (wth p <= 1000000000000)
        · z_go
        · z_go;unfold zeS;z_go;rw [if_neg w8];z_go;unfold zhA;z_go
      · z_go
    · have : g = false := by
        cases hg : g
        · rfl
        · have := gb hg;rw [hbb] at this;cases this
      rw [this];z_go
  · obtain ⟨r1, r2⟩ := row1 (w := w) (r := pts p ++ [f]) w4 w5;have ef : ([w, "b", "a", p, f] : List Str).flatMap pts = w :: "b" :: "a" :: (pts p ++ [f]) := by
      simp only [List.flatMap_cons, List.flatMap_nil, ptl w3, ptl bdl.1, ptl bdl.2.1, ptl f2, List.append_nil, List.cons_append, List.nil_append]
    have er : rstB w (pts p ++ [f]) = widB (pts p ++ [f]) := by
      unfold rstB;rw [if_neg w9, if_neg w10, if_neg w6, if_neg w8, if_pos hw]
    have eg : widB (pts p ++ [f]) = g := by
      by_cases h1 : 32 ∈ cd p
      · rw [zmh gb h1, pt2 h1];rfl
      · rw [pt1 h1];show (cwB p 1 1000000000000 && fldB f) = g;rw [zgJ (by decide), Bool.and_comm]
    rw [ef];cases hg : g
    · rw [if_neg (by decide)];exact ze8 (by rw [r1, er, eg, hg])
    · rw [if_pos rfl];rw [r2 (by rw [r1, er, eg, hg]), ptl (gb hg)];rfl
theorem zpg {p q f : Str} (hp : nw p) (hq : nw q) (hf : f ∈ folds) : ∃ g, Fit ["slide", "b", "a", p, q, f] g := by
  obtain ⟨f1, f2, f3⟩ := zlg hf
  let g : Bool := (fldB f && (decide (1 <= wth p) && decide (wth p <= 1000000000000))) && ((decide (1 <= wth q) && decide (wth q <= wth p)) && decide (wth p <= 8 * wth q))
  have hb : (["slide", "b", "a", p, q, f] : List Str).any bd = (bd p || bd q) := by
    simp only [List.any_cons, List.any_nil, bdl, f2, Bool.false_or, Bool.or_false]
  have hnw : ∀ x ∈ (["slide", "b", "a", p, q, f] : List Str), nw x := by
    intro x hx;simp only [List.mem_cons, List.not_mem_nil, or_false] at hx;rcases hx with rfl | rfl | rfl | rfl | rfl | rfl <;> first | assumption | exact zce (by x_go)
  have gb1 : g = true -> bd p = false := fun h => by
    simp only [g, Bool.and_eq_true, decide_eq_true_eq] at h;exact zgs (by omega)
  have gb2 : g = true -> bd q = false := fun h => by
    simp only [g, Bool.and_eq_true, decide_eq_true_eq] at h;exact zgs (by omega)
  refine ⟨g, fun M => ?_, "slide", ["a", p, q, f], 1, rfl, by rw [if_neg (by x_go), if_neg (by x_go)]; rfl, by simp, ?_⟩
  · have at4 : ∀ (x0 x1 x2 x3 x4 x5 : D), atI [x0, x1, x2, x3, x4, x5] 4 = some x4 := fun _ _ _ _ _ _ => rfl;have c1 : ∀ M : Mm, sChn .le .le (sCon (.int 1)) (zaO zaX (zad (s2 oIx (sVar 0) (sCon (.int 4))) sNil)) (sVar 2) [.val (.lst [.str "slide", .str "b", .str "a", .str p, .str q, .str f]), .val (.str "slide"), .val (.int (wth p))] M = some (.v (.bl (decide (1 <= wth q) && decide (wth q <= wth p))), M) := fun M => by
      refine zfF (by z_go) ?_ (by z_go);z_go;rw [at4];z_go;rw [g_wo hq.sm];z_go
    rw [zjk hnw (by simp) (by x_go), hb];cases hbb : (bd p || bd q)
    · rw [if_neg (by decide)];unfold zdc;simp only [List.map_cons, List.map_nil];z_go;rw [if_neg (by x_go)];z_go;unfold zeJ;z_go;rw [if_neg (by x_go)];z_go;rw [n5 (p := p) (f := f) hp rfl rfl];simp only [g, f3];cases decide (f = Str.ofString "max") || decide (f = Str.ofString "Sum")
      · cases decide (1 <= wth p) && decide (wth p <= 1000000000000)
        · z_go
        · z_go;unfold zeS;z_go;rw [c1];cases decide (1 <= wth q) && decide (wth q <= wth p)
          · z_go
          · z_go;rw [at4];z_go;rw [g_wo hq.sm];z_go
      · z_go
    · have : g = false := by
        cases hg : g
        · rfl
        · rw [gb1 hg, gb2 hg] at hbb;cases hbb
      rw [this];z_go
  · obtain ⟨r1, r2⟩ := row1 (w := "slide") (r := pts p ++ (pts q ++ [f])) (by x_go) (by x_go);have ef : (["slide", "b", "a", p, q, f] : List Str).flatMap pts = Str.ofString "slide" :: "b" :: "a" :: (pts p ++ (pts q ++ [f])) := by
      simp only [List.flatMap_cons, List.flatMap_nil, ptl bdl.2.2.2.2.2.2.2.2, ptl bdl.1, ptl bdl.2.1, ptl f2, List.append_nil, List.cons_append, List.nil_append]
    have er : rstB "slide" (pts p ++ (pts q ++ [f])) = sldB (pts p ++ (pts q ++ [f])) := by
      unfold rstB;rw [if_neg (by x_go), if_neg (by x_go), if_neg (by x_go), if_pos rfl]
    have eg : sldB (pts p ++ (pts q ++ [f])) = g := by
      by_cases h1 : 32 ∈ cd p
      · rw [zmh gb1 h1, pt2 h1]
        cases hq2 : pts q with
        | nil => exact absurd hq2 zi0
        | cons a b => cases b <;> rfl
      · by_cases h2 : 32 ∈ cd q
        · rw [zmh gb2 h2, pt1 h1, pt2 h2];rfl
        · rw [pt1 h1, pt1 h2];show ((cwB p 1 1000000000000 && fldB f) && (cwB q 1 (vl p) && decide (vl p <= 8 * vl q))) = g;rw [zgJ (x := p) (by decide), zgJ (x := q) (by decide)];simp only [g];rw [Bool.and_comm (fldB f)]
          by_cases h8 : 1 <= wth p
          · rw [vl_w (x := p) (by omega)]
            by_cases h9 : 1 <= wth q
            · rw [vl_w (x := q) (by omega)]
            · rw [decide_eq_false h9];rfl
          · rw [decide_eq_false h8];rfl
    rw [ef];cases hg : g
    · rw [if_neg (by decide)];exact ze8 (by rw [r1, er, eg, hg])
    · rw [if_pos rfl];rw [r2 (by rw [r1, er, eg, hg]), ptl (gb1 hg), ptl (gb2 hg)];rfl
theorem row2 {r : List Str} : rowB ("join" :: "b" :: "a" :: "a" :: r) = jnB r /\ (rowB ("join" :: "b" :: "a" :: "a" :: r) = true -> rowP ("join" :: "b" :: "a" :: "a" :: r) = some ⟨"join", "b", ["a", "a"], r⟩) := by
 have h1 : frm "join" = some 2 := by x_go
 have e : rowB ("join" :: "b" :: "a" :: "a" :: r) = jnB r := by
  unfold rowB;dsimp only;rw [h1];dsimp only;unfold hfB;rw [if_neg (by x_go)];show (decide (2 = 2) && (([Str.ofString "b", Str.ofString "a", Str.ofString "a"]).all nmB && rstB "join" r)) = _;rw [show ([Str.ofString "b", Str.ofString "a", Str.ofString "a"]).all nmB = true by x_go];unfold rstB;rw [if_neg (by x_go), if_neg (by x_go), if_neg (by x_go), if_neg (by x_go), if_neg (by x_go), if_pos rfl];rfl
 refine ⟨e, fun h => ?_⟩;obtain ⟨w', nm, r', f, e1, e2, e3⟩ := zgg h;cases e1;rw [h1] at e2;cases e2;exact e3
theorem zog {p : Str} (hp : nw p) : ∃ g, Fit ["join", "b", "a", "a", p, "w"] g := by
  let g : Bool := decide (0 <= wth p) && decide (wth p <= 1000000000000)
  have hb : (["join", "b", "a", "a", p, "w"] : List Str).any bd = bd p := by
    simp only [List.any_cons, List.any_nil, bdl, Bool.false_or, Bool.or_false]
  have hnw : ∀ x ∈ (["join", "b", "a", "a", p, "w"] : List Str), nw x := by
    intro x hx;simp only [List.mem_cons, List.not_mem_nil, or_false] at hx;rcases hx with rfl | rfl | rfl | rfl | rfl | rfl <;> first | assumption | exact zce (by x_go)
  have gb : g = true -> bd p = false := fun h => by
    simp only [g, Bool.and_eq_true, decide_eq_true_eq] at h;exact zgs (by omega)
  refine ⟨g, fun M => ?_, "join", ["a", "a", p, "w"], 2, rfl, by rw [if_pos rfl]; rfl, by simp, ?_⟩
  · have at4 : ∀ (x0 x1 x2 x3 x4 x5 : D), atI [x0, x1, x2, x3, x4, x5] 4 = some x4 := fun _ _ _ _ _ _ => rfl;have c1 : ∀ M : Mm, sChn .le .le (sCon (.int 0)) (zaO zaX (zad (s2 oIx (sVar 0) (sCon (.int 4))) sNil)) (s2 oPow (sCon (.int 10)) (sCon (.int 12))) [.val (.lst [.str "join", .str "b", .str "a", .str "a", .str p, .str "w"]), .val (.str "join"), .un] M = some (.v (.bl (decide (0 <= wth p) && decide (wth p <= 1000000000000))), M) := fun M => by
      refine zfF (by z_go) ?_ (by z_go);z_go;rw [at4];z_go;rw [g_wo hp.sm];z_go
    rw [zjk hnw (by simp) (by x_go), hb];cases hbb : bd p
    · rw [if_neg (by decide)];unfold zdc;simp only [List.map_cons, List.map_nil];z_go;rw [if_neg (by x_go)];z_go;unfold zeJ;z_go;rw [c1];z_go;rfl
    · have : g = false := by
        cases hg : g
        · rfl
        · have := gb hg;rw [hbb] at this;cases this
      rw [this];z_go
  · obtain ⟨r1, r2⟩ := row2 (r := pts p ++ [Str.ofString "w"]);have ef : (["join", "b", "a", "a", p, "w"] : List Str).flatMap pts = Str.ofString "join" :: "b" :: "a" :: "a" :: (pts p ++ [Str.ofString "w"]) := by
      simp only [List.flatMap_cons, List.flatMap_nil, ptl bdl.2.2.2.2.2.2.1, ptl bdl.1, ptl bdl.2.1, ptl bdl.2.2.1, List.append_nil, List.cons_append, List.nil_append]
    have eg : jnB (pts p ++ [Str.ofString "w"]) = g := by
      by_cases h1 : 32 ∈ cd p
      · rw [zmh gb h1, pt2 h1]
        decide +kernel
      · rw [pt1 h1];show (cwB p 0 1000000000000 && exB "tvw" "number" ["w"]) = g;rw [zgJ (by decide), show exB "tvw" "number" ["w"] = true by x_go, Bool.and_true]
    rw [ef];cases hg : g
    · rw [if_neg (by decide)];exact ze8 (by rw [r1, eg, hg])
    · rw [if_pos rfl];rw [r2 (by rw [r1, eg, hg]), ptl (gb hg)];rfl
theorem zoB {n : Nat} (hn : n <= 10) : ∃ g, Fit ("pour" :: "b" :: List.replicate n (Str.ofString "a")) g := by
  let g : Bool := decide (2 <= n) && decide (n <= 8)
  have ea : (List.replicate n (Str.ofString "a")).flatMap pts = List.replicate n (Str.ofString "a") := by
    clear g hn
    induction n with
    | zero => rfl
    | succ n ih => rw [List.replicate_succ, List.flatMap_cons, ih, ptl bdl.2.1]; rfl
  refine ⟨g, fun M => ?_, "pour", List.replicate n (Str.ofString "a"), n, rfl, ?_, ?_, ?_⟩
  · have c1 : ∀ (ds : List D), ds.length = n + 2 -> sChn .le .le (sCon (.int 2)) (s2 oSub (sN bLen (zad (sVar 0) sNil)) (sCon (.int 2))) (sCon (.int 8)) [.val (.lst ds), .val (.str "pour"), .un] M = some (.v (.bl (decide (2 <= (n : Int)) && decide ((n : Int) <= 8))), M) := fun ds h => by
      refine zfF (by z_go) ?_ (by z_go);z_go;rw [h];rw [show ((n + 2 : Nat) : Int) - 2 = (n : Int) by omega]
    unfold zer zfL;rw [List.map_cons, List.map_cons];z_go;unfold zfC;z_go;rw [c1 _ (by simp)];z_go;simp only [g];have q1 : decide (2 <= (n : Int)) = decide (2 <= n) := by
      rw [Bool.eq_iff_iff];simp only [decide_eq_true_eq];omega
    have q2 : decide ((n : Int) <= 8) = decide (n <= 8) := by
      rw [Bool.eq_iff_iff];simp only [decide_eq_true_eq];omega
    rw [q1, q2]
  · rw [if_neg (by x_go), if_pos rfl, List.length_replicate]
  · intro x hx;exact List.eq_of_mem_replicate (List.mem_of_mem_take hx)
  · rw [List.flatMap_cons, List.flatMap_cons, ea, ptl bdl.1, ptl bdl.2.2.2.2.2.2.2.1];show rowP ("pour" :: "b" :: List.replicate n (Str.ofString "a")) = _;have h1 : frm "pour" = some 8 := by x_go
    have e : rowB ("pour" :: "b" :: List.replicate n (Str.ofString "a")) = g := by
      unfold rowB;dsimp only;rw [h1];dsimp only;unfold hfB;rw [if_pos rfl];have hall : ((Str.ofString "b") :: (List.replicate n (Str.ofString "a")).take 8).all nmB = true := by
        rw [List.all_eq_true];intro x hx;rcases List.mem_cons.mp hx with rfl | hx
        · decide +kernel
        · rw [List.eq_of_mem_replicate (List.mem_of_mem_take hx)]
          decide +kernel
      rw [hall];have hr : rstB "pour" ((List.replicate n (Str.ofString "a")).drop 8) = decide (n <= 8) := by
        unfold rstB;rw [if_neg (by x_go), if_neg (by x_go), if_neg (by x_go), if_neg (by x_go), if_neg (by x_go), if_neg (by x_go)];rw [Bool.eq_iff_iff, List.isEmpty_iff, List.drop_eq_nil_iff, List.length_replicate, decide_eq_true_eq]
      rw [hr, List.length_take, List.length_replicate];simp only [g, Bool.true_and];congr 1;rw [Bool.eq_iff_iff];simp only [decide_eq_true_eq];omega
    cases hg : g
    · rw [if_neg (by decide)];exact ze8 (by rw [e, hg])
    · rw [if_pos rfl];obtain ⟨w', nm, r', f, e1, e2, e3⟩ := zgg (e.trans hg);cases e1;rw [h1] at e2;cases e2;rw [e3];simp only [g, Bool.and_eq_true, decide_eq_true_eq] at hg;rw [List.take_of_length_le (by rw [List.length_replicate]; omega), List.drop_of_length_le (by rw [List.length_replicate]; omega), List.take_of_length_le (by rw [List.length_replicate]; omega), List.drop_of_length_le (by rw [List.length_replicate]; omega)]
theorem zr1 {ws : List Str} (h : Wk ws) : (∃ g, Fit ws g) /\ (∀ x ∈ ws, nw x) /\ ws.length <= 20 := by
 have lit : ∀ {x : Str}, nwT x = true -> nw x := zce
 cases h with
 | share h1 h2 => exact ⟨zlT h1 h2, fun x hx => by simp only [List.mem_cons, List.not_mem_nil, or_false] at hx; rcases hx with rfl | rfl | rfl | rfl | rfl <;> first | assumption | exact lit (by x_go), by simp⟩
 | fixed h1 h2 => exact ⟨zmZ (.inl rfl) h1 h2, fun x hx => by simp only [List.mem_cons, List.not_mem_nil, or_false] at hx; rcases hx with rfl | rfl | rfl | rfl | rfl <;> first | assumption | exact (zlg h2).1 | exact lit (by x_go), by simp⟩
 | gap h1 h2 => exact ⟨zmZ (.inr rfl) h1 h2, fun x hx => by simp only [List.mem_cons, List.not_mem_nil, or_false] at hx; rcases hx with rfl | rfl | rfl | rfl | rfl <;> first | assumption | exact (zlg h2).1 | exact lit (by x_go), by simp⟩
 | join h1 => exact ⟨zog h1, fun x hx => by simp only [List.mem_cons, List.not_mem_nil, or_false] at hx; rcases hx with rfl | rfl | rfl | rfl | rfl | rfl <;> first | assumption | exact lit (by x_go), by simp⟩
 | pour h1 => exact ⟨zoB h1, fun x hx => by
   simp only [List.mem_cons, List.mem_replicate] at hx;rcases hx with rfl | rfl | ⟨_, rfl⟩ <;> exact lit (by x_go), by simp; omega⟩
 | slide h1 h2 h3 => exact ⟨zpg h1 h2 h3, fun x hx => by simp only [List.mem_cons, List.not_mem_nil, or_false] at hx; rcases hx with rfl | rfl | rfl | rfl | rfl | rfl <;> first | assumption | exact (zlg h3).1 | exact lit (by x_go), by simp⟩
theorem zoH {ws : List Str} {g : Bool} (hw : ∀ x ∈ ws, nw x) (hl : ws.length <= 20) (F : Fit ws g) : ∃ (w : Str) (r : List Str) (m : Nat), ws = w :: "b" :: r /\ (m : Int) = (if w = "join" then 2 else if w = "pour" then (r.length : Int) else 1) /\
  ∀ M : Mm, ∃ E, zf5 [.str (Str.ofString "in a\n" ++ Txt.join (Str.ofString " ") ws)] M = some (.v (if g = true then .tup [.lst [rwD "in" "a" [] [], rwD w "b" (r.take m) (r.drop m)], .int (-1)] else .tup [.str "text", .int 1]), M ++ E) := by
 obtain ⟨gd, w, r, m, rfl, hm, hfr, hrp⟩ := F;refine ⟨w, r, m, rfl, hm, fun M => ?_⟩;obtain ⟨hL, h10⟩ := zqA hw (by simp) hl;generalize hJ : Txt.join (Str.ofString " ") (w :: "b" :: r) = J at hL h10 ⊢;have hJl := hL.2.1;generalize hps : (w :: "b" :: r).flatMap pts = ps at hL hrp;have hz : Txt.split (Str.ofString "in a\n" ++ J) (Str.ofString "\n") = [Str.ofString "in a", J] := by
  rw [zsQ];refine zhf (by simp) (fun p hp => ?_) ?_
  ·simp only [List.mem_cons, List.not_mem_nil, or_false] at hp;rcases hp with rfl | rfl
   ·decide +kernel
   ·exact h10
  ·rw [zhw, show cd (Str.ofString "in a\n") = cd (Str.ofString "in a") ++ [10] by x_go]
   simp [jn]
 have h0 : Ln (Str.ofString "in a") [Str.ofString "in", Str.ofString "a"] := by
  refine ⟨?_, by x_go, ?_, by simp⟩
  ·rw [zlb];refine zhf (by simp) (fun p hp => ?_) (by x_go);simp only [List.mem_cons, List.not_mem_nil, or_false] at hp;rcases hp with rfl | rfl <;> decide +kernel
  ·intro p hp;simp only [List.mem_cons, List.not_mem_nil, or_false] at hp;rcases hp with rfl | rfl <;> exact ⟨by x_go, by x_go⟩
 have zl : (Str.ofString "in a\n" ++ J).length <= 10000000 := by
  rw [strLen_append, show (Str.ofString "in a\n").length = 5 by x_go];omega
 obtain ⟨E, e⟩ := g_rw (M := M) (z := Str.ofString "in a\n" ++ J) (ls := [(Str.ofString "in a", [Str.ofString "in", Str.ofString "a"]), (J, ps)]) hz zl (fun p hp => by
  simp only [List.mem_cons, List.not_mem_nil, or_false] at hp;rcases hp with rfl | rfl
  ·exact h0
  ·exact hL) (by simp)
 have p0 : rowP [Str.ofString "in", Str.ofString "a"] = some ⟨"in", "a", [], []⟩ := by
  obtain ⟨w', nm, r', f, e1, e2, e3⟩ := zgg (ws := [Str.ofString "in", Str.ofString "a"]) (by x_go);cases e1;rw [e3, List.take_nil, List.drop_nil]
 have n0 : nmsB [] "a" [] = true := by x_go
 have n1 : nmsB [("a", "in")] "b" (r.take m) = true := by
  unfold nmsB;rw [Bool.and_eq_true, List.all_eq_true];refine ⟨by x_go, fun x hx => ?_⟩;rw [hfr x hx]
  decide +kernel
 have rd : rdL [[Str.ofString "in", Str.ofString "a"], ps] 0 [] [] = if g = true then .inl [⟨"in", "a", [], []⟩, ⟨w, "b", r.take m, r.drop m⟩] else .inr ("NoText", 1) := by
  unfold rdL;rw [p0];dsimp only;rw [if_pos n0];unfold rdL;rw [hrp];cases g
  ·rfl
  ·rw [if_pos rfl];dsimp only;rw [List.nil_append, if_pos n1];rfl
 refine ⟨E, ?_⟩;rw [List.map_cons, List.map_cons, List.map_nil, rd] at e;unfold zf5 zho zin;z_go;rw [e];cases g
 ·rw [if_neg (by decide)];unfold rdR;dsimp only;z_go;rw [show zdU "NoText" = true by x_go];z_go;unfold zhC;z_go;rw [zsc (by x_go)];z_go;rfl
 ·rw [if_pos rfl];unfold rdR;dsimp only;rw [zrp (ds := [.int (-1)]) (by z_go) (by decide)];z_go;rfl
theorem turn {s0 t2 t3 t4 t5 : E3.Slot} {cell : Int} : ∃ u2 u3 u4 u5 E, zg8 [s0, .val (.int cell), t2, t3, t4, t5] M = some (.nx [s0, .val (.int cell), u2, u3, u4, u5], M ++ E) := by
  obtain ⟨xs, hlen, hdw, hdr⟩ := g_dr (n := cell) (m := 6) (by decide)
  match xs, hlen with
  | [a0, a1, a2, a3, a4, a5], _ =>
  obtain ⟨ws, hk, ew⟩ := g_wk (c := cell) hdw;obtain ⟨⟨g, F⟩, hw, hl⟩ := zr1 hk;have gd := F.gd;obtain ⟨w, r, m, rfl, hm, ht⟩ := zoH hw hl F;obtain ⟨E, et⟩ := ht M;rw [List.length_cons, List.length_cons] at hl;have hs := znt (B := 5000) fun x hx => (hw x hx).1;have hjl : (Txt.join (Str.ofString " ") (w :: Str.ofString "b" :: r)).length <= 1000000 := (zqA hw (by simp) hl).1.2.1;have ej : zhL (Str.ofString " ") [.lst ((w :: Str.ofString "b" :: r).map D.str)] = some (.str (Txt.join (Str.ofString " ") (w :: Str.ofString "b" :: r))) := by
    unfold zhL;simp only [E3.strs_map];rw [if_pos ⟨by x_go, by rw [List.length_cons, List.length_cons] at hs ⊢; omega⟩]
  have c1 : cutL ((w :: Str.ofString "b" :: r).map D.str) (some 2) (some (2 + (m : Int))) = (r.take m).map D.str := by
    rw [zjq _ (by decide) (by omega), <- List.map_drop, <- List.map_take];congr 1;show List.take ((2 + (m : Int)).toNat - 2) r = _;congr 1;omega
  have c2 : cutL ((w :: Str.ofString "b" :: r).map D.str) (some (2 + (m : Int))) none = (r.drop m).map D.str := by
    rw [zhh _ (by omega), <- List.map_drop];congr 1;rw [show (2 + (m : Int)).toNat = m + 2 by omega];rfl
  let fd : D := if g = true then .tup [.lst [rwD "in" "a" [] [], rwD w "b" (r.take m) (r.drop m)], .int (-1)] else .tup [.str "text", .int 1]
  refine ⟨.val (.lst ((w :: Str.ofString "b" :: r).map D.str)), .val fd, .val (.int m), .val (rwD w "b" (r.take m) (r.drop m)), E ++ [.dct [(.inr "join", .int 2), (.inr "pour", .int (r.length : Int))]], ?_⟩;have hdr' : ∀ M : Mm, zdX [.int cell, .int 6] M = some (.v (.lst [.int a0, .int a1, .int a2, .int a3, .int a4, .int a5]), M) := hdr;unfold zg8;z_go;rw [hdr'];z_go;rw [ew];z_go;unfold zgQ;z_go;rw [List.map_cons, List.map_cons] at ej c1 c2;rw [ej];z_go;rw [if_pos (by rw [show (Str.ofString "in a\n").length = 5 by x_go]; omega)];z_go;rw [et];z_go;unfold zgB;rw [zmz, zrx];rw [zmF (k := (M ++ E).length) (kvs := [(.inr "join", .int 2), (.inr "pour", .int (r.length : Int))]) (kvs' := [(.inr "join", .int 2), (.inr "pour", .int (r.length : Int))]) (e := .str w) (x := .int 1) (key := .inr w) (M1 := M ++ E ++ [.dct [(.inr "join", .int 2), (.inr "pour", .int (r.length : Int))]]) (M2 := M ++ E ++ [.dct [(.inr "join", .int 2), (.inr "pour", .int (r.length : Int))]]) (M3 := M ++ E ++ [.dct [(.inr "join", .int 2), (.inr "pour", .int (r.length : Int))]]) ?_ (by z_go) (by z_go) zjW zjW rfl]
  · have ev : (valD [(.inr "join", .int 2), (.inr "pour", .int (r.length : Int))] (.inr w)).getD (.int 1) = .int (m : Int) := by
      rw [hm];unfold valD;rw [List.find?_cons, zjf]
      by_cases h1 : w = Str.ofString "join"
      · rw [if_pos h1, decide_eq_true h1.symm];rfl
      · rw [if_neg h1, decide_eq_false (fun z => h1 z.symm), List.find?_cons, zjf]
        by_cases h2 : w = Str.ofString "pour"
        · rw [if_pos h2, decide_eq_true h2.symm];rfl
        · rw [if_neg h2, decide_eq_false (fun z => h2 z.symm)];rfl
    rw [ev];z_go;unfold zgL;z_go;rw [c1];z_go;rw [c2];z_go;unfold zgU;z_go;have gd' := gd (M ++ E ++ [.dct [(.inr "join", .int 2), (.inr "pour", .int (r.length : Int))]]);rw [List.map_cons, List.map_cons] at gd';rw [gd'];simp only [fd];cases g
    · z_go;rw [zpO (by decide)];z_go;rw [List.append_assoc];rfl
    · z_go;have hne : oCmp .ne (.tup [.lst [rwD "in" "a" [] [], rwD w "b" (r.take m) (r.drop m)], .int (-1)]) (.tup [.lst [.tup [.str "in", .str "a", .tup [], .tup []], .tup [.str w, .str "b", .tup ((r.take m).map D.str), .tup ((r.drop m).map D.str)]], .int (-1)]) = some (.bl false) := by
        refine zpO ?_;have q : ∀ n : Nat, n <= 1 -> (n : Nat) <= 50 := fun n h => by omega
        simp only [D.dep, D.deps, rwD, zhW]
        decide
      rw [hne];z_go;rw [List.append_assoc];rfl
  · have e1 : (s2 oSub (sN bLen (zad (sVar 2) sNil)) (sCon (.int 2))) [s0, .val (.int cell), .val (.lst (D.str w :: D.str (Str.ofString "b") :: r.map D.str)), .val fd, t4, t5] (M ++ E) = some (.v (.int (r.length : Int)), M ++ E) := by
      z_go;rw [show ((r.length + 1 + 1 : Nat) : Int) - 2 = (r.length : Int) by omega]
    have e2 : ziz (sCon (.str "join")) (sCon (.int 2)) (ziz (sCon (.str "pour")) (s2 oSub (sN bLen (zad (sVar 2) sNil)) (sCon (.int 2))) pNil) [s0, .val (.int cell), .val (.lst (D.str w :: D.str (Str.ofString "b") :: r.map D.str)), .val fd, t4, t5] (M ++ E) = some (.v [(.str "join", .int 2), (.str "pour", .int (r.length : Int))], M ++ E) := by
      simp only [ziz, zq6, e1, pNil]
    simp only [sDct];have e3 := e2;simp only [fd] at e3;rw [e3];rfl
theorem zn2 : ∀ ns : List Int, ns.length <= 63 -> ∃ M, lawG [.lst (ns.map D.int)] [] = some (.v (.bl true), M) := by
 intro ns hn;obtain ⟨m, em, hm⟩ : ∃ m : Nat, (if (ns.length : Int) < 16 then (ns.length : Int) else 16) = m /\ m <= ns.length /\ m <= 16 := by
  split
  ·exact ⟨ns.length, rfl, by omega, by omega⟩
  ·exact ⟨16, rfl, by omega, by omega⟩
 unfold lawG zqu zme;z_go;rw [em, zjr (by omega), Int.toNat_natCast];z_go;rw [zeV (fun (k : Nat) => D.int (0 + k)) (fun (k : Nat) => D.int (ns.getD k 0 + 1009 * (0 + k))) (List.range m) [] (fun k hk => ?_) (by rw [sizeLine_eq, List.length_range]; simp; omega)]
 ·z_go;rw [List.length_range, if_pos (by omega)];z_go;obtain ⟨u2, u3, u4, u5, E, e⟩ := turn (M := []) (s0 := .val (.lst (ns.map D.int))) (cell := 5) (t2 := .un) (t3 := .un) (t4 := .un) (t5 := .un);rw [e, zqr];refine ziB (fun o => ∃ M, endS (seqR zir o) = some (.v (.bl true), M)) (fun k env M => ∃ s1 s2 s3 s4 s5, env = [.val (.lst (ns.map D.int)), s1, s2, s3, s4, s5]) ⟨_, _, _, _, _, rfl⟩ ?_ ?_
  ·rintro k d env M hd ⟨s1, s2, s3, s4, s5, rfl⟩;refine ⟨by show 1 < 6; decide, ?_⟩;obtain ⟨cell, rfl⟩ : ∃ i, d = .int i := by
    obtain ⟨k, _, e⟩ := List.mem_map.mp (List.mem_of_getElem? hd);exact ⟨_, e.symm⟩
   show Step _ _ (zg8 [.val (.lst (ns.map D.int)), .val (.int cell), s2, s3, s4, s5] M);obtain ⟨u2, u3, u4, u5, E, e⟩ := turn (M := M) (s0 := .val (.lst (ns.map D.int))) (cell := cell) (t2 := s2) (t3 := s3) (t4 := s4) (t5 := s5);rw [e];exact ⟨_, _, _, _, _, rfl⟩
  ·rintro env M ⟨s1, s2, s3, s4, s5, rfl⟩;refine ⟨M, ?_⟩;unfold zir;z_go
 ·have hk' : k < m := List.mem_range.mp hk;unfold zlO;z_go;rw [zfq, ziV 0 (by omega) (by omega)];z_go;congr 4
  simp
theorem zqU {l : PySem.W.OpenLaw} {w : World} {K : Fgx} {mg : Mgx} {C : Ad} {base : Heap} {f0 f1 f2 f3 f4 f5 f6 f7 f8 f9 f10 f11 f12 f13 f14 f15 f16 f17 f18 f19 f20 f21 f22 f23 f24 f25 f26 f27 f28 f29 f30 f31 f32 : Addr} {d0 d1 d2 d3 d4 d5 d6 d7 d8 d9 d10 d11 d12 d13 d14 d15 d16 d17 d18 d19 d20 d21 d22 d23 d24 d25 d26 d27 d28 d29 d30 d31 d32 : FuncData} (T : Txt K mg C w)
  (D0 : DefAt K mg "is_figures" zcp ["text"] f0 d0)
  (D1 : DefAt K mg "is_signed_figures" zaI ["text"] f1 d1)
  (D2 : DefAt K mg "is_count" zdh ["text"] f2 d2)
  (D3 : DefAt K mg "is_number" zcC ["text"] f3 d3)
  (D4 : DefAt K mg "is_leaf" zde ["word", "letters"] f4 d4)
  (D5 : DefAt K mg "take_needed" zaZ ["word", "kinds"] f5 d5)
  (D6 : DefAt K mg "check_words" zaQ ["words", "letters", "wanted"] f6 d6)
  (D7 : DefAt K mg "read_expr" zcg ["words", "letters"] f7 d7)
  (D8 : DefAt K mg "read_cond" zcO ["words"] f8 d8)
  (D9 : DefAt K mg "is_name" zdO ["text"] f9 d9)
  (D10 : DefAt K mg "is_count_within" zaG ["text", "least", "most"] f10 d10)
  (D11 : DefAt K mg "is_expr" zdg ["words", "letters"] f11 d11)
  (D12 : DefAt K mg "is_cond" zdP ["words"] f12 d12)
  (D13 : DefAt K mg "is_share_rest" zbx ["rest"] f13 d13)
  (D14 : DefAt K mg "is_width_rest" zbo ["rest"] f14 d14)
  (D15 : DefAt K mg "is_slide_rest" zba ["rest"] f15 d15)
  (D16 : DefAt K mg "is_join_rest" zbN ["rest"] f16 d16)
  (D17 : DefAt K mg "is_rest_of" zbZ ["word", "rest"] f17 d17)
  (D18 : DefAt K mg "row_of" zdZ ["words"] f18 d18)
  (D19 : DefAt K mg "has_its_froms" zbt ["row"] f19 d19)
  (D20 : DefAt K mg "is_row" zd2 ["words"] f20 d20)
  (D21 : DefAt K mg "has_its_names" za8 ["row", "words_above"] f21 d21)
  (D22 : DefAt K mg "read_works" zaK ["text"] f22 d22)
  (D23 : DefAt K mg "_law_drawn" zcA ["_law_number_here", "_law_many"] f23 d23)
  (D24 : DefAt K mg "_law_number" zcD ["_law_x", "_law_cell"] f24 d24)
  (D25 : DefAt K mg "_law_worth" zd3 ["_law_word"] f25 d25)
  (D26 : DefAt K mg "_law_near" zek ["_law_word", "_law_x"] f26 d26)
  (D27 : DefAt K mg "_law_words" zco ["_law_xs", "_law_cell"] f27 d27)
  (D28 : DefAt K mg "_law_good" zeq ["_law_words_here"] f28 d28)
  (D29 : DefAt K mg "_law_told" zey ["_law_text"] f29 d29)
  (D30 : DefAt K mg "law" zdD ["_law_script"] f30 d30)
  (D31 : IniAt K C.Expr "Expr.__init__" zaz ["self", "words"] f31 d31)
  (D32 : IniAt K C.Cond "Cond.__init__" zay ["self", "words"] f32 d32)
  : FnOk l.prog w K mg base CX0 lawK f30 d30 ["_law_script"] (spG K mg 1 lawG) := by
 have A0 : AtG l.prog w K mg base 1 "is_figures" 1 zbs := (D0.ok (b := zcX) zeK (zhX (k := 0) T) :);have A1 : AtG l.prog w K mg base 2 "is_signed_figures" 1 zaS := (D1.ok (b := zbe) zcy (zel (k := 1) T (A0.mono (by decide))) :);have A2 : AtG l.prog w K mg base 2 "is_count" 1 zdd := (D2.ok (b := zd5) zf7 (zjy (k := 1) T (A0.mono (by decide))) :);have A3 : AtG l.prog w K mg base 3 "is_number" 1 zcK := (D3.ok (b := zdn) zff (ziI (k := 2) T (A1.mono (by decide))) :);have A4 : AtG l.prog w K mg base 4 "is_leaf" 2 zdN := (D4.ok (b := zeH) zgN (zj1 (k := 3) T (A3.mono (by decide))) :);have B5 : AtX l.prog w K mg base 1 "take_needed" 2 zbF := ⟨_, _, _, D5.mg, D5.F.kp, zfU (b := zcB) D5.F zee (by decide) (zhg (k := 0) T), D5.b⟩;have A5 := B5.quiet;have B6 : AtX l.prog w K mg base 5 "check_words" 3 za1 := ⟨_, _, _, D6.mg, D6.F.kp, zfU (b := zcz) D6.F zed (by decide) (zg9 (k := 4) T (A4.mono (by decide)) (B5.mono (by decide))), D6.b⟩;have A6 := B6.quiet;have A31 : AtI l.prog w K mg base 1 C.Expr 2 zbv := ⟨_, _, _, D31.M, ziX (b := zb6) D31.F zdv (by decide) (zf6 (k := 0) T), D31.b⟩;have B7 : AtX l.prog w K mg base 6 "read_expr" 2 zbV := ⟨_, _, _, D7.mg, D7.F.kp, zfU (b := zcM) D7.F zfi (by decide) (ziL (k := 5) (k0 := 4) T rfl (A31.mono (by decide)) (B6.mono (by decide))), D7.b⟩;have A7 := B7.quiet;have A32 : AtI l.prog w K mg base 1 C.Cond 2 zbn := ⟨_, _, _, D32.M, ziX (b := zb3) D32.F zdr (by decide) (zgf (k := 0) T), D32.b⟩;have B8 : AtX l.prog w K mg base 6 "read_cond" 1 zbU := ⟨_, _, _, D8.mg, D8.F.kp, zfU (b := zcE) D8.F zfb (by decide) (zis (k := 5) (k0 := 4) T rfl (A32.mono (by decide)) (B6.mono (by decide))), D8.b⟩;have A8 := B8.quiet;have A9 : AtG l.prog w K mg base 1 "is_name" 1 zdL := (D9.ok (b := zeM) zgz (zk5 (k := 0) T) :);have A10 : AtG l.prog w K mg base 3 "is_count_within" 3 zaq := (D10.ok (b := zbz) zcU (ze4 (k := 2) T (A2.mono (by decide))) :);have A11 : AtG l.prog w K mg base 7 "is_expr" 2 zcq := (D11.ok (b := zdI) zgK (zkG (k := 6) T (B7.mono (by decide))) :);have A12 : AtG l.prog w K mg base 7 "is_cond" 1 zdb := (D12.ok (b := zdR) zgv (zlI (k := 6) T (B8.mono (by decide))) :);have A13 : AtG l.prog w K mg base 4 "is_share_rest" 1 zbm := (D13.ok (b := zb5) zdy (zfD (k := 3) T (A10.mono (by decide))) :);have A14 : AtG l.prog w K mg base 4 "is_width_rest" 1 zaV := (D14.ok (b := zb2) zdz (zf8 (k := 3) T (A10.mono (by decide))) :);have A15 : AtG l.prog w K mg base 5 "is_slide_rest" 1 zbr := (D15.ok (b := zcb) zdx (zfX (k := 4) T (A10.mono (by decide)) (A14.mono (by decide))) :);have A16 : AtG l.prog w K mg base 8 "is_join_rest" 1 zbO := (D16.ok (b := zcm) zdK (zgj (k := 7) T (A10.mono (by decide)) (A11.mono (by decide))) :);have A17 : AtG l.prog w K mg base 9 "is_rest_of" 2 zcr := (D17.ok (b := zcR) zeT (zhI (k := 8) T (A11.mono (by decide)) (A12.mono (by decide)) (A13.mono (by decide)) (A14.mono (by decide)) (A15.mono (by decide)) (A16.mono (by decide))) :);have A18 : AtG l.prog w K mg base 1 "row_of" 1 zdl := (D18.ok (b := zfp) zh5 (zmx (k := 0) T) :);have A19 : AtG l.prog w K mg base 1 "has_its_froms" 1 zbp := (D19.ok (b := zb4) zdw (zfE (k := 0) T) :);have A20 : AtG l.prog w K mg base 10 "is_row" 1 zd4 := (D20.ok (b := zeL) zhO (zmb (k := 9) T (A9.mono (by decide)) (A17.mono (by decide)) (A18.mono (by decide)) (A19.mono (by decide))) :);have A21 : AtG l.prog w K mg base 1 "has_its_names" 2 zbl := (D21.ok (b := zb7) zdA (zfI (k := 0) T) :);have B22 : AtX l.prog w K mg base 11 "read_works" 1 zcv := ⟨_, _, _, D22.mg, D22.F.kp, zfU (b := zcV) D22.F zeU (by decide) (zio (k := 10) T (by decide) (A18.mono (by decide)) (A20.mono (by decide)) (A21.mono (by decide))), D22.b⟩;have A22 := B22.quiet;have A23 : AtG l.prog w K mg base 1 "_law_drawn" 2 zdX := (D23.ok (b := zfr) zia (zl5 (k := 0) T) :);have A24 : AtG l.prog w K mg base 1 "_law_number" 2 zdf := (D24.ok (b := zeP) zgu (zlj (k := 0) T) :);have A25 : AtG l.prog w K mg base 1 "_law_worth" 1 zaX := (D25.ok (b := zfs) zhN (zmi (k := 0) T) :);have A26 : AtG l.prog w K mg base 2 "_law_near" 2 zeu := (D26.ok (b := zf1) zi7 (znL (k := 1) T (A25.mono (by decide))) :);have A27 : AtG l.prog w K mg base 3 "_law_words" 2 zbR := (D27.ok (b := zbS) zhK (zmB (k := 2) T (A24.mono (by decide)) (A26.mono (by decide))) :);have A28 : AtG l.prog w K mg base 2 "_law_good" 1 zer := (D28.ok (b := zfL) zjs (zol (k := 1) T (A25.mono (by decide))) :);have A29 : AtG l.prog w K mg base 12 "_law_told" 1 zf5 := (D29.ok (b := zho) zi2 (znw (k := 11) T (B22.mono (by decide))) :);refine @ziX l.prog w K mg base 12 "law" "law" zdD f30 d30 ["_law_script", "_law_cell", "_law_words_here", "_law_found", "_law_many", "_law_row"] ["_law_script"] zme ?_ ?_ ?_ ?_
 ·exact D30.F
 ·exact zmS
 ·decide
 ·exact @zsr l.prog w K mg C base 12 f30 T (A23.mono (by decide)) (A27.mono (by decide)) (A28.mono (by decide)) (A29.mono (by decide))
theorem all_mk {l : PySem.W.OpenLaw} {w : World} {K : Fgx} {h : Heap} {mg : Mgx} {fa : Addr} (X : K.In h) (G : h.Ns mainGlobals mg) (hfa : mg "law" = some (.ref fa))
  (ac_Cond : PySem.W.nsIn K mainGlobals "Cond" = some (some (.ref C_Cond)))
  (ac_Expr : PySem.W.nsIn K mainGlobals "Expr" = some (some (.ref C_Expr)))
  (ac_DamError : PySem.W.nsIn K mainGlobals "DamError" = some (some (.ref C_DamError)))
  (ac_NoExpr : PySem.W.nsIn K mainGlobals "NoExpr" = some (some (.ref C_NoExpr)))
  (ac_NoName : PySem.W.nsIn K mainGlobals "NoName" = some (some (.ref C_NoName)))
  (ac_NoText : PySem.W.nsIn K mainGlobals "NoText" = some (some (.ref C_NoText)))
  (pg_Cond : PySem.W.plainGet K C_Cond Str.empty = true) (hd_Cond : PySem.W.hasDictIn K C_Cond = true) (po_Cond : PySem.W.plainOver K C_Cond = true) (sa_Cond : PySem.W.findIn K (.ref C_Cond) "__setattr__" = some (some (.builtin "object.__setattr__")))
  (pg_Expr : PySem.W.plainGet K C_Expr Str.empty = true) (hd_Expr : PySem.W.hasDictIn K C_Expr = true) (po_Expr : PySem.W.plainOver K C_Expr = true) (sa_Expr : PySem.W.findIn K (.ref C_Expr) "__setattr__" = some (some (.builtin "object.__setattr__")))
  (na_Expr_parts : PySem.W.findIn K (.ref C_Expr) "parts" = some none)
  (na_Cond_parts : PySem.W.findIn K (.ref C_Cond) "parts" = some none)
  (xc_DamError : xcIn K C_DamError = true)
  (xc_NoExpr : xcIn K C_NoExpr = true)
  (xc_NoName : xcIn K C_NoName = true)
  (xc_NoText : xcIn K C_NoText = true)
  (xb_DamError : ziC K C_DamError = true)
  (ai_NoName : PySem.W.findIn K (.ref C_NoName) "__init__" = some (some (.ref fi_NoName))) (li_NoName : K.lookup fi_NoName = some ⟨oi_NoName, odI_NoName, .func (PySem.W.fnOf "__init__" "NoName.__init__" (zbI zbB) (zaU zbB) (zah zbB) .none kI_NoName dI_NoName pI_NoName anI_NoName cI_NoName tI_NoName), slI_NoName⟩) (ki_NoName : PySem.W.codeIn K cI_NoName "NoName.__init__" = true) (kk_NoName : PySem.W.keepIn K (.ref fi_NoName) = true)
  (xi_NoName : ziN K C_NoName fi_NoName = true) (xk_NoName : PySem.W.keepIn K (.ref C_NoName) = true) (xa_NoName : zd6 K C_NoName "at" = true) (xs_NoName : zhP K C_NoName = true)
  (ai_NoText : PySem.W.findIn K (.ref C_NoText) "__init__" = some (some (.ref fi_NoText))) (li_NoText : K.lookup fi_NoText = some ⟨oi_NoText, odI_NoText, .func (PySem.W.fnOf "__init__" "NoText.__init__" (zbI zbE) (zaU zbE) (zah zbE) .none kI_NoText dI_NoText pI_NoText anI_NoText cI_NoText tI_NoText), slI_NoText⟩) (ki_NoText : PySem.W.codeIn K cI_NoText "NoText.__init__" = true) (kk_NoText : PySem.W.keepIn K (.ref fi_NoText) = true)
  (xi_NoText : ziN K C_NoText fi_NoText = true) (xk_NoText : PySem.W.keepIn K (.ref C_NoText) = true) (xa_NoText : zd6 K C_NoText "at" = true) (xs_NoText : zhP K C_NoText = true)
  (xn_NoExpr : zlx K C_NoExpr = true) (xk_NoExpr : PySem.W.keepIn K (.ref C_NoExpr) = true) (xs_NoExpr : zhP K C_NoExpr = true)
  (qk_NoExpr_NoExpr : zeO K C_NoExpr C_NoExpr = true)
  (qk_NoText_NoText : zeO K C_NoText C_NoText = true)
  (F0 : FAt K "is_figures" zcp)
  (F1 : FAt K "is_signed_figures" zaI)
  (F2 : FAt K "is_count" zdh)
  (F3 : FAt K "is_number" zcC)
  (F4 : FAt K "is_leaf" zde)
  (F5 : FAt K "take_needed" zaZ)
  (F6 : FAt K "check_words" zaQ)
  (F7 : FAt K "read_expr" zcg)
  (F8 : FAt K "read_cond" zcO)
  (F9 : FAt K "is_name" zdO)
  (F10 : FAt K "is_count_within" zaG)
  (F11 : FAt K "is_expr" zdg)
  (F12 : FAt K "is_cond" zdP)
  (F13 : FAt K "is_share_rest" zbx)
  (F14 : FAt K "is_width_rest" zbo)
  (F15 : FAt K "is_slide_rest" zba)
  (F16 : FAt K "is_join_rest" zbN)
  (F17 : FAt K "is_rest_of" zbZ)
  (F18 : FAt K "row_of" zdZ)
  (F19 : FAt K "has_its_froms" zbt)
  (F20 : FAt K "is_row" zd2)
  (F21 : FAt K "has_its_names" za8)
  (F22 : FAt K "read_works" zaK)
  (F23 : FAt K "_law_drawn" zcA)
  (F24 : FAt K "_law_number" zcD)
  (F25 : FAt K "_law_worth" zd3)
  (F26 : FAt K "_law_near" zek)
  (F27 : FAt K "_law_words" zco)
  (F28 : FAt K "_law_good" zeq)
  (F29 : FAt K "_law_told" zey)
  (a30 : PySem.W.nsIn K mainGlobals "law" = some (some (.ref f30))) (l30 : K.lookup f30 = some ⟨oc30, od30, .func (PySem.W.fnOf "law" "law" (zbI zdD) (zaU zdD) (zah zdD) .none kV30 dc30 pm30 an30 cd30 ct30), sl30⟩) (c30 : PySem.W.codeIn K cd30 "law" = true) (k30 : PySem.W.keepIn K (.ref f30) = true)
  (a31 : PySem.W.findIn K (.ref C_Expr) "__init__" = some (some (.ref f31))) (l31 : K.lookup f31 = some ⟨oc31, od31, .func (PySem.W.fnOf "__init__" "Expr.__init__" (zbI zaz) (zaU zaz) (zah zaz) .none kV31 dc31 pm31 an31 cd31 ct31), sl31⟩) (c31 : PySem.W.codeIn K cd31 "Expr.__init__" = true) (k31 : PySem.W.keepIn K (.ref f31) = true)
  (n31 : PySem.W.isFn K (.ref f31) = true)
  (w31 : PySem.W.makesIn K C_Expr = true) (y31 : PySem.W.keepIn K (.ref C_Expr) = true)
  (a32 : PySem.W.findIn K (.ref C_Cond) "__init__" = some (some (.ref f32))) (l32 : K.lookup f32 = some ⟨oc32, od32, .func (PySem.W.fnOf "__init__" "Cond.__init__" (zbI zay) (zaU zay) (zah zay) .none kV32 dc32 pm32 an32 cd32 ct32), sl32⟩) (c32 : PySem.W.codeIn K cd32 "Cond.__init__" = true) (k32 : PySem.W.keepIn K (.ref f32) = true)
  (n32 : PySem.W.isFn K (.ref f32) = true)
  (w32 : PySem.W.makesIn K C_Cond = true) (y32 : PySem.W.keepIn K (.ref C_Cond) = true)
  (z_any : PySem.W.nsIn K mainGlobals "any" = some none)
  (z_len : PySem.W.nsIn K mainGlobals "len" = some none)
  (z_range : PySem.W.nsIn K mainGlobals "range" = some none)
  (z_reversed : PySem.W.nsIn K mainGlobals "reversed" = some none)
  (z_all : PySem.W.nsIn K mainGlobals "all" = some none)
  (z_int : PySem.W.nsIn K mainGlobals "int" = some none)
  (z_tuple : PySem.W.nsIn K mainGlobals "tuple" = some none)
  (z_enumerate : PySem.W.nsIn K mainGlobals "enumerate" = some none)
  (z_str : PySem.W.nsIn K mainGlobals "str" = some none)
  (z_min : PySem.W.nsIn K mainGlobals "min" = some none)
  (y_ALL_LETTERS : PySem.W.nsIn K mainGlobals "ALL_LETTERS" = some (some (.ref tALL_LETTERS))) (x_ALL_LETTERS : K.lookup tALL_LETTERS = some ⟨.type "tuple", dALL_LETTERS, .seq #[.str "t" kALL_LETTERS_0, .str "v" kALL_LETTERS_1, .str "w" kALL_LETTERS_2] nALL_LETTERS, sALL_LETTERS⟩)
  (y_FOLDS : PySem.W.nsIn K mainGlobals "FOLDS" = some (some (.ref tFOLDS))) (x_FOLDS : K.lookup tFOLDS = some ⟨.type "tuple", dFOLDS, .seq #[.str "sum" kFOLDS_0, .str "count" kFOLDS_1, .str "most" kFOLDS_2, .str "least" kFOLDS_3] nFOLDS, sFOLDS⟩)
  (y_NEEDS : PySem.W.nsIn K mainGlobals "NEEDS" = some (some (.ref tNEEDS)))
  (kd_NEEDS : K.lookup tNEEDS = some ⟨.type "dict", none, .dict #[⟨hNEEDS_0, .str "+" kNEEDS_0, .ref tNEEDS_0⟩, ⟨hNEEDS_1, .str "-" kNEEDS_1, .ref tNEEDS_1⟩, ⟨hNEEDS_2, .str "*" kNEEDS_2, .ref tNEEDS_2⟩, ⟨hNEEDS_3, .str "least" kNEEDS_3, .ref tNEEDS_3⟩, ⟨hNEEDS_4, .str "most" kNEEDS_4, .ref tNEEDS_4⟩, ⟨hNEEDS_5, .str "<" kNEEDS_5, .ref tNEEDS_5⟩, ⟨hNEEDS_6, .str "=" kNEEDS_6, .ref tNEEDS_6⟩, ⟨hNEEDS_7, .str "not" kNEEDS_7, .ref tNEEDS_7⟩, ⟨hNEEDS_8, .str "and" kNEEDS_8, .ref tNEEDS_8⟩, ⟨hNEEDS_9, .str "or" kNEEDS_9, .ref tNEEDS_9⟩] nNEEDS, #[]⟩) (ks_NEEDS : (tNEEDS == sysModules) = false)
  (kh_NEEDS_0 : hNEEDS_0 = hashStr w "+")
  (kt_NEEDS_0 : K.lookup tNEEDS_0 = some ⟨.type "tuple", dNEEDS_0, .seq #[.str "number" jNEEDS_0_0, .str "number" jNEEDS_0_1, .int 2 jNEEDS_0_2] mNEEDS_0, sNEEDS_0⟩)
  (kh_NEEDS_1 : hNEEDS_1 = hashStr w "-")
  (kt_NEEDS_1 : K.lookup tNEEDS_1 = some ⟨.type "tuple", dNEEDS_1, .seq #[.str "number" jNEEDS_1_0, .str "number" jNEEDS_1_1, .int 2 jNEEDS_1_2] mNEEDS_1, sNEEDS_1⟩)
  (kh_NEEDS_2 : hNEEDS_2 = hashStr w "*")
  (kt_NEEDS_2 : K.lookup tNEEDS_2 = some ⟨.type "tuple", dNEEDS_2, .seq #[.str "number" jNEEDS_2_0, .str "number" jNEEDS_2_1, .int 2 jNEEDS_2_2] mNEEDS_2, sNEEDS_2⟩)
  (kh_NEEDS_3 : hNEEDS_3 = hashStr w "least")
  (kt_NEEDS_3 : K.lookup tNEEDS_3 = some ⟨.type "tuple", dNEEDS_3, .seq #[.str "number" jNEEDS_3_0, .str "number" jNEEDS_3_1, .int 2 jNEEDS_3_2] mNEEDS_3, sNEEDS_3⟩)
  (kh_NEEDS_4 : hNEEDS_4 = hashStr w "most")
  (kt_NEEDS_4 : K.lookup tNEEDS_4 = some ⟨.type "tuple", dNEEDS_4, .seq #[.str "number" jNEEDS_4_0, .str "number" jNEEDS_4_1, .int 2 jNEEDS_4_2] mNEEDS_4, sNEEDS_4⟩)
  (kh_NEEDS_5 : hNEEDS_5 = hashStr w "<")
  (kt_NEEDS_5 : K.lookup tNEEDS_5 = some ⟨.type "tuple", dNEEDS_5, .seq #[.str "truth" jNEEDS_5_0, .str "number" jNEEDS_5_1, .int 2 jNEEDS_5_2] mNEEDS_5, sNEEDS_5⟩)
  (kh_NEEDS_6 : hNEEDS_6 = hashStr w "=")
  (kt_NEEDS_6 : K.lookup tNEEDS_6 = some ⟨.type "tuple", dNEEDS_6, .seq #[.str "truth" jNEEDS_6_0, .str "number" jNEEDS_6_1, .int 2 jNEEDS_6_2] mNEEDS_6, sNEEDS_6⟩)
  (kh_NEEDS_7 : hNEEDS_7 = hashStr w "not")
  (kt_NEEDS_7 : K.lookup tNEEDS_7 = some ⟨.type "tuple", dNEEDS_7, .seq #[.str "truth" jNEEDS_7_0, .str "truth" jNEEDS_7_1, .int 1 jNEEDS_7_2] mNEEDS_7, sNEEDS_7⟩)
  (kh_NEEDS_8 : hNEEDS_8 = hashStr w "and")
  (kt_NEEDS_8 : K.lookup tNEEDS_8 = some ⟨.type "tuple", dNEEDS_8, .seq #[.str "truth" jNEEDS_8_0, .str "truth" jNEEDS_8_1, .int 2 jNEEDS_8_2] mNEEDS_8, sNEEDS_8⟩)
  (kh_NEEDS_9 : hNEEDS_9 = hashStr w "or")
  (kt_NEEDS_9 : K.lookup tNEEDS_9 = some ⟨.type "tuple", dNEEDS_9, .seq #[.str "truth" jNEEDS_9_0, .str "truth" jNEEDS_9_1, .int 2 jNEEDS_9_2] mNEEDS_9, sNEEDS_9⟩)
  (y_FROMS : PySem.W.nsIn K mainGlobals "FROMS" = some (some (.ref tFROMS)))
  (kd_FROMS : K.lookup tFROMS = some ⟨.type "dict", none, .dict #[⟨hFROMS_0, .str "in" kFROMS_0, .int 0 jFROMS_0⟩, ⟨hFROMS_1, .str "keep" kFROMS_1, .int 1 jFROMS_1⟩, ⟨hFROMS_2, .str "turn" kFROMS_2, .int 1 jFROMS_2⟩, ⟨hFROMS_3, .str "share" kFROMS_3, .int 1 jFROMS_3⟩, ⟨hFROMS_4, .str "pour" kFROMS_4, .int 8 jFROMS_4⟩, ⟨hFROMS_5, .str "fixed" kFROMS_5, .int 1 jFROMS_5⟩, ⟨hFROMS_6, .str "slide" kFROMS_6, .int 1 jFROMS_6⟩, ⟨hFROMS_7, .str "gap" kFROMS_7, .int 1 jFROMS_7⟩, ⟨hFROMS_8, .str "join" kFROMS_8, .int 2 jFROMS_8⟩, ⟨hFROMS_9, .str "out" kFROMS_9, .int 1 jFROMS_9⟩] nFROMS, #[]⟩) (ks_FROMS : (tFROMS == sysModules) = false)
  (kh_FROMS_0 : hFROMS_0 = hashStr w "in")
  (kh_FROMS_1 : hFROMS_1 = hashStr w "keep")
  (kh_FROMS_2 : hFROMS_2 = hashStr w "turn")
  (kh_FROMS_3 : hFROMS_3 = hashStr w "share")
  (kh_FROMS_4 : hFROMS_4 = hashStr w "pour")
  (kh_FROMS_5 : hFROMS_5 = hashStr w "fixed")
  (kh_FROMS_6 : hFROMS_6 = hashStr w "slide")
  (kh_FROMS_7 : hFROMS_7 = hashStr w "gap")
  (kh_FROMS_8 : hFROMS_8 = hashStr w "join")
  (kh_FROMS_9 : hFROMS_9 = hashStr w "out")
  (y_FIGURES : PySem.W.nsIn K mainGlobals "FIGURES" = some (some (.str "0123456789" tFIGURES)))
  (y_MOST_FIGURES : PySem.W.nsIn K mainGlobals "MOST_FIGURES" = some (some (.int 20 tMOST_FIGURES)))
  (y_LETTERS : PySem.W.nsIn K mainGlobals "LETTERS" = some (some (.str "abcdefghijklmnopqrstuvwxyz" tLETTERS)))
  (y_COND_LETTERS : PySem.W.nsIn K mainGlobals "COND_LETTERS" = some (some (.str "tv" tCOND_LETTERS)))
  (y_MOST_SIGNS : PySem.W.nsIn K mainGlobals "MOST_SIGNS" = some (some (.int 12 tMOST_SIGNS)))
  (y_MOST_SHARES : PySem.W.nsIn K mainGlobals "MOST_SHARES" = some (some (.int 8 tMOST_SHARES)))
  (y_MOST_SPREAD : PySem.W.nsIn K mainGlobals "MOST_SPREAD" = some (some (.int 8 tMOST_SPREAD)))
  (y_MOST_SPAN : PySem.W.nsIn K mainGlobals "MOST_SPAN" = some (some (.int 1000000000000 tMOST_SPAN)))
  : ∃ fd : FuncData, (∀ (s : Shared) (v : Value), BindsTo s fd ⟨[v], []⟩ [("_law_script", v)]) /\ ∀ base : Heap, K.In base -> base.Ns mainGlobals mg -> FnOk l.prog w K mg base CX0 lawK fa fd ["_law_script"] (spL K lawG) := by
 have e := hfa.symm.trans (PySem.W.mg_of X G a30);cases e;have T : Txt (w := w) K mg ⟨C_Cond, C_Expr, C_DamError, C_NoExpr, C_NoName, C_NoText⟩ := ⟨by simp only [blts, List.mem_cons, List.not_mem_nil, or_false, forall_eq_or_imp, forall_eq]; exact ⟨PySem.W.mg_none_of X G z_any, PySem.W.mg_none_of X G z_len, PySem.W.mg_none_of X G z_range, PySem.W.mg_none_of X G z_reversed, PySem.W.mg_none_of X G z_all, PySem.W.mg_none_of X G z_int, PySem.W.mg_none_of X G z_tuple, PySem.W.mg_none_of X G z_enumerate, PySem.W.mg_none_of X G z_str, PySem.W.mg_none_of X G z_min⟩, ⟨PySem.W.mg_of X G ac_Cond, pg_Cond, hd_Cond, po_Cond, sa_Cond⟩, ⟨PySem.W.mg_of X G ac_Expr, pg_Expr, hd_Expr, po_Expr, sa_Expr⟩, na_Expr_parts, na_Cond_parts, PySem.W.mg_of X G ac_DamError, xc_DamError, PySem.W.mg_of X G ac_NoExpr, xc_NoExpr, PySem.W.mg_of X G ac_NoName, xc_NoName, PySem.W.mg_of X G ac_NoText, xc_NoText, xn_NoExpr, xk_NoExpr, xs_NoExpr, xk_NoName, xs_NoName, xk_NoText, xs_NoText, qk_NoExpr_NoExpr, qk_NoText_NoText, xb_DamError, xa_NoName, ⟨_, _, xi_NoName, zeW li_NoName ki_NoName kk_NoName, (zgI (st := zbB) li_NoName ki_NoName kk_NoName).binds (ps := ["self", "at"]) fun _ _ _ _ _ _ us hl => match us, hl with | [_, _], _ => rfl⟩, xa_NoText, ⟨_, _, xi_NoText, zeW li_NoText ki_NoText kk_NoText, (zgI (st := zbE) li_NoText ki_NoText kk_NoText).binds (ps := ["self", "at"]) fun _ _ _ _ _ _ us hl => match us, hl with | [_, _], _ => rfl⟩, ⟨_, PySem.W.mg_of X G y_ALL_LETTERS, zcw (vs := [(.str "t"), (.str "v"), (.str "w")]) (its := #[.str "t" _, .str "v" _, .str "w" _]) (o := ⟨.type "tuple", _, .seq #[.str "t" _, .str "v" _, .str "w" _] _, _⟩) x_ALL_LETTERS rfl rfl (by show 3 <= sizeLine; decide) (.cons ⟨_, rfl⟩ (.cons ⟨_, rfl⟩ (.cons ⟨_, rfl⟩ (.nil)))) (fun _ _ => ⟨_, _, rfl, rfl, ⟨_, _, rfl, rfl, ⟨_, _, rfl, rfl, rfl⟩⟩⟩)⟩, ⟨_, PySem.W.mg_of X G y_FOLDS, zcw (vs := [(.str "sum"), (.str "count"), (.str "most"), (.str "least")]) (its := #[.str "sum" _, .str "count" _, .str "most" _, .str "least" _]) (o := ⟨.type "tuple", _, .seq #[.str "sum" _, .str "count" _, .str "most" _, .str "least" _] _, _⟩) x_FOLDS rfl rfl (by show 4 <= sizeLine; decide) (.cons ⟨_, rfl⟩ (.cons ⟨_, rfl⟩ (.cons ⟨_, rfl⟩ (.cons ⟨_, rfl⟩ (.nil))))) (fun _ _ => ⟨_, _, rfl, rfl, ⟨_, _, rfl, rfl, ⟨_, _, rfl, rfl, ⟨_, _, rfl, rfl, rfl⟩⟩⟩⟩)⟩, ⟨_, PySem.W.mg_of X G y_NEEDS, _, _, _, _, kd_NEEDS, ⟨rfl, rfl, rfl⟩, rfl, .cons (v := .ref tNEEDS_0) kh_NEEDS_0 rfl (zcw (vs := [(.str "number"), (.str "number"), (.int 2)]) (its := #[.str "number" _, .str "number" _, .int 2 _]) (o := ⟨.type "tuple", _, .seq #[.str "number" _, .str "number" _, .int 2 _] _, _⟩) kt_NEEDS_0 rfl rfl (by show 3 <= sizeLine; decide) (.cons ⟨_, rfl⟩ (.cons ⟨_, rfl⟩ (.cons ⟨_, rfl⟩ (.nil)))) (fun _ _ => ⟨_, _, rfl, rfl, ⟨_, _, rfl, rfl, ⟨_, _, rfl, rfl, rfl⟩⟩⟩)) (.cons (v := .ref tNEEDS_1) kh_NEEDS_1 rfl (zcw (vs := [(.str "number"), (.str "number"), (.int 2)]) (its := #[.str "number" _, .str "number" _, .int 2 _]) (o := ⟨.type "tuple", _, .seq #[.str "number" _, .str "number" _, .int 2 _] _, _⟩) kt_NEEDS_1 rfl rfl (by show 3 <= sizeLine; decide) (.cons ⟨_, rfl⟩ (.cons ⟨_, rfl⟩ (.cons ⟨_, rfl⟩ (.nil)))) (fun _ _ => ⟨_, _, rfl, rfl, ⟨_, _, rfl, rfl, ⟨_, _, rfl, rfl, rfl⟩⟩⟩)) (.cons (v := .ref tNEEDS_2) kh_NEEDS_2 rfl (zcw (vs := [(.str "number"), (.str "number"), (.int 2)]) (its := #[.str "number" _, .str "number" _, .int 2 _]) (o := ⟨.type "tuple", _, .seq #[.str "number" _, .str "number" _, .int 2 _] _, _⟩) kt_NEEDS_2 rfl rfl (by show 3 <= sizeLine; decide) (.cons ⟨_, rfl⟩ (.cons ⟨_, rfl⟩ (.cons ⟨_, rfl⟩ (.nil)))) (fun _ _ => ⟨_, _, rfl, rfl, ⟨_, _, rfl, rfl, ⟨_, _, rfl, rfl, rfl⟩⟩⟩)) (.cons (v := .ref tNEEDS_3) kh_NEEDS_3 rfl (zcw (vs := [(.str "number"), (.str "number"), (.int 2)]) (its := #[.str "number" _, .str "number" _, .int 2 _]) (o := ⟨.type "tuple", _, .seq #[.str "number" _, .str "number" _, .int 2 _] _, _⟩) kt_NEEDS_3 rfl rfl (by show 3 <= sizeLine; decide) (.cons ⟨_, rfl⟩ (.cons ⟨_, rfl⟩ (.cons ⟨_, rfl⟩ (.nil)))) (fun _ _ => ⟨_, _, rfl, rfl, ⟨_, _, rfl, rfl, ⟨_, _, rfl, rfl, rfl⟩⟩⟩)) (.cons (v := .ref tNEEDS_4) kh_NEEDS_4 rfl (zcw (vs := [(.str "number"), (.str "number"), (.int 2)]) (its := #[.str "number" _, .str "number" _, .int 2 _]) (o := ⟨.type "tuple", _, .seq #[.str "number" _, .str "number" _, .int 2 _] _, _⟩) kt_NEEDS_4 rfl rfl (by show 3 <= sizeLine; decide) (.cons ⟨_, rfl⟩ (.cons ⟨_, rfl⟩ (.cons ⟨_, rfl⟩ (.nil)))) (fun _ _ => ⟨_, _, rfl, rfl, ⟨_, _, rfl, rfl, ⟨_, _, rfl, rfl, rfl⟩⟩⟩)) (.cons (v := .ref tNEEDS_5) kh_NEEDS_5 rfl (zcw (vs := [(.str "truth"), (.str "number"), (.int 2)]) (its := #[.str "truth" _, .str "number" _, .int 2 _]) (o := ⟨.type "tuple", _, .seq #[.str "truth" _, .str "number" _, .int 2 _] _, _⟩) kt_NEEDS_5 rfl rfl (by show 3 <= sizeLine; decide) (.cons ⟨_, rfl⟩ (.cons ⟨_, rfl⟩ (.cons ⟨_, rfl⟩ (.nil)))) (fun _ _ => ⟨_, _, rfl, rfl, ⟨_, _, rfl, rfl, ⟨_, _, rfl, rfl, rfl⟩⟩⟩)) (.cons (v := .ref tNEEDS_6) kh_NEEDS_6 rfl (zcw (vs := [(.str "truth"), (.str "number"), (.int 2)]) (its := #[.str "truth" _, .str "number" _, .int 2 _]) (o := ⟨.type "tuple", _, .seq #[.str "truth" _, .str "number" _, .int 2 _] _, _⟩) kt_NEEDS_6 rfl rfl (by show 3 <= sizeLine; decide) (.cons ⟨_, rfl⟩ (.cons ⟨_, rfl⟩ (.cons ⟨_, rfl⟩ (.nil)))) (fun _ _ => ⟨_, _, rfl, rfl, ⟨_, _, rfl, rfl, ⟨_, _, rfl, rfl, rfl⟩⟩⟩)) (.cons (v := .ref tNEEDS_7) kh_NEEDS_7 rfl (zcw (vs := [(.str "truth"), (.str "truth"), (.int 1)]) (its := #[.str "truth" _, .str "truth" _, .int 1 _]) (o := ⟨.type "tuple", _, .seq #[.str "truth" _, .str "truth" _, .int 1 _] _, _⟩) kt_NEEDS_7 rfl rfl (by show 3 <= sizeLine; decide) (.cons ⟨_, rfl⟩ (.cons ⟨_, rfl⟩ (.cons ⟨_, rfl⟩ (.nil)))) (fun _ _ => ⟨_, _, rfl, rfl, ⟨_, _, rfl, rfl, ⟨_, _, rfl, rfl, rfl⟩⟩⟩)) (.cons (v := .ref tNEEDS_8) kh_NEEDS_8 rfl (zcw (vs := [(.str "truth"), (.str "truth"), (.int 2)]) (its := #[.str "truth" _, .str "truth" _, .int 2 _]) (o := ⟨.type "tuple", _, .seq #[.str "truth" _, .str "truth" _, .int 2 _] _, _⟩) kt_NEEDS_8 rfl rfl (by show 3 <= sizeLine; decide) (.cons ⟨_, rfl⟩ (.cons ⟨_, rfl⟩ (.cons ⟨_, rfl⟩ (.nil)))) (fun _ _ => ⟨_, _, rfl, rfl, ⟨_, _, rfl, rfl, ⟨_, _, rfl, rfl, rfl⟩⟩⟩)) (.cons (v := .ref tNEEDS_9) kh_NEEDS_9 rfl (zcw (vs := [(.str "truth"), (.str "truth"), (.int 2)]) (its := #[.str "truth" _, .str "truth" _, .int 2 _]) (o := ⟨.type "tuple", _, .seq #[.str "truth" _, .str "truth" _, .int 2 _] _, _⟩) kt_NEEDS_9 rfl rfl (by show 3 <= sizeLine; decide) (.cons ⟨_, rfl⟩ (.cons ⟨_, rfl⟩ (.cons ⟨_, rfl⟩ (.nil)))) (fun _ _ => ⟨_, _, rfl, rfl, ⟨_, _, rfl, rfl, ⟨_, _, rfl, rfl, rfl⟩⟩⟩)) (.nil)))))))))), by x_go, ks_NEEDS⟩, ⟨_, PySem.W.mg_of X G y_FROMS, _, _, _, _, kd_FROMS, ⟨rfl, rfl, rfl⟩, rfl, .cons (v := (.int 0)) kh_FROMS_0 ⟨_, rfl⟩ (fun _ _ => rfl) (.cons (v := (.int 1)) kh_FROMS_1 ⟨_, rfl⟩ (fun _ _ => rfl) (.cons (v := (.int 1)) kh_FROMS_2 ⟨_, rfl⟩ (fun _ _ => rfl) (.cons (v := (.int 1)) kh_FROMS_3 ⟨_, rfl⟩ (fun _ _ => rfl) (.cons (v := (.int 8)) kh_FROMS_4 ⟨_, rfl⟩ (fun _ _ => rfl) (.cons (v := (.int 1)) kh_FROMS_5 ⟨_, rfl⟩ (fun _ _ => rfl) (.cons (v := (.int 1)) kh_FROMS_6 ⟨_, rfl⟩ (fun _ _ => rfl) (.cons (v := (.int 1)) kh_FROMS_7 ⟨_, rfl⟩ (fun _ _ => rfl) (.cons (v := (.int 2)) kh_FROMS_8 ⟨_, rfl⟩ (fun _ _ => rfl) (.cons (v := (.int 1)) kh_FROMS_9 ⟨_, rfl⟩ (fun _ _ => rfl) (.nil)))))))))), by x_go, ks_FROMS⟩, ⟨_, PySem.W.mg_of X G y_FIGURES⟩, ⟨_, PySem.W.mg_of X G y_MOST_FIGURES⟩, ⟨_, PySem.W.mg_of X G y_LETTERS⟩, ⟨_, PySem.W.mg_of X G y_COND_LETTERS⟩, ⟨_, PySem.W.mg_of X G y_MOST_SIGNS⟩, ⟨_, PySem.W.mg_of X G y_MOST_SHARES⟩, ⟨_, PySem.W.mg_of X G y_MOST_SPREAD⟩, ⟨_, PySem.W.mg_of X G y_MOST_SPAN⟩⟩
 obtain ⟨f0, d0, D0⟩ := F0.at (ps := ["text"]) X G fun _ _ _ _ _ _ us hl => match us, hl with | [_], _ => rfl
 obtain ⟨f1, d1, D1⟩ := F1.at (ps := ["text"]) X G fun _ _ _ _ _ _ us hl => match us, hl with | [_], _ => rfl
 obtain ⟨f2, d2, D2⟩ := F2.at (ps := ["text"]) X G fun _ _ _ _ _ _ us hl => match us, hl with | [_], _ => rfl
 obtain ⟨f3, d3, D3⟩ := F3.at (ps := ["text"]) X G fun _ _ _ _ _ _ us hl => match us, hl with | [_], _ => rfl
 obtain ⟨f4, d4, D4⟩ := F4.at (ps := ["word", "letters"]) X G fun _ _ _ _ _ _ us hl => match us, hl with | [_, _], _ => rfl
 obtain ⟨f5, d5, D5⟩ := F5.at (ps := ["word", "kinds"]) X G fun _ _ _ _ _ _ us hl => match us, hl with | [_, _], _ => rfl
 obtain ⟨f6, d6, D6⟩ := F6.at (ps := ["words", "letters", "wanted"]) X G fun _ _ _ _ _ _ us hl => match us, hl with | [_, _, _], _ => rfl
 obtain ⟨f7, d7, D7⟩ := F7.at (ps := ["words", "letters"]) X G fun _ _ _ _ _ _ us hl => match us, hl with | [_, _], _ => rfl
 obtain ⟨f8, d8, D8⟩ := F8.at (ps := ["words"]) X G fun _ _ _ _ _ _ us hl => match us, hl with | [_], _ => rfl
 obtain ⟨f9, d9, D9⟩ := F9.at (ps := ["text"]) X G fun _ _ _ _ _ _ us hl => match us, hl with | [_], _ => rfl
 obtain ⟨f10, d10, D10⟩ := F10.at (ps := ["text", "least", "most"]) X G fun _ _ _ _ _ _ us hl => match us, hl with | [_, _, _], _ => rfl
 obtain ⟨f11, d11, D11⟩ := F11.at (ps := ["words", "letters"]) X G fun _ _ _ _ _ _ us hl => match us, hl with | [_, _], _ => rfl
 obtain ⟨f12, d12, D12⟩ := F12.at (ps := ["words"]) X G fun _ _ _ _ _ _ us hl => match us, hl with | [_], _ => rfl
 obtain ⟨f13, d13, D13⟩ := F13.at (ps := ["rest"]) X G fun _ _ _ _ _ _ us hl => match us, hl with | [_], _ => rfl
 obtain ⟨f14, d14, D14⟩ := F14.at (ps := ["rest"]) X G fun _ _ _ _ _ _ us hl => match us, hl with | [_], _ => rfl
 obtain ⟨f15, d15, D15⟩ := F15.at (ps := ["rest"]) X G fun _ _ _ _ _ _ us hl => match us, hl with | [_], _ => rfl
 obtain ⟨f16, d16, D16⟩ := F16.at (ps := ["rest"]) X G fun _ _ _ _ _ _ us hl => match us, hl with | [_], _ => rfl
 obtain ⟨f17, d17, D17⟩ := F17.at (ps := ["word", "rest"]) X G fun _ _ _ _ _ _ us hl => match us, hl with | [_, _], _ => rfl
 obtain ⟨f18, d18, D18⟩ := F18.at (ps := ["words"]) X G fun _ _ _ _ _ _ us hl => match us, hl with | [_], _ => rfl
 obtain ⟨f19, d19, D19⟩ := F19.at (ps := ["row"]) X G fun _ _ _ _ _ _ us hl => match us, hl with | [_], _ => rfl
 obtain ⟨f20, d20, D20⟩ := F20.at (ps := ["words"]) X G fun _ _ _ _ _ _ us hl => match us, hl with | [_], _ => rfl
 obtain ⟨f21, d21, D21⟩ := F21.at (ps := ["row", "words_above"]) X G fun _ _ _ _ _ _ us hl => match us, hl with | [_, _], _ => rfl
 obtain ⟨f22, d22, D22⟩ := F22.at (ps := ["text"]) X G fun _ _ _ _ _ _ us hl => match us, hl with | [_], _ => rfl
 obtain ⟨f23, d23, D23⟩ := F23.at (ps := ["_law_number_here", "_law_many"]) X G fun _ _ _ _ _ _ us hl => match us, hl with | [_, _], _ => rfl
 obtain ⟨f24, d24, D24⟩ := F24.at (ps := ["_law_x", "_law_cell"]) X G fun _ _ _ _ _ _ us hl => match us, hl with | [_, _], _ => rfl
 obtain ⟨f25, d25, D25⟩ := F25.at (ps := ["_law_word"]) X G fun _ _ _ _ _ _ us hl => match us, hl with | [_], _ => rfl
 obtain ⟨f26, d26, D26⟩ := F26.at (ps := ["_law_word", "_law_x"]) X G fun _ _ _ _ _ _ us hl => match us, hl with | [_, _], _ => rfl
 obtain ⟨f27, d27, D27⟩ := F27.at (ps := ["_law_xs", "_law_cell"]) X G fun _ _ _ _ _ _ us hl => match us, hl with | [_, _], _ => rfl
 obtain ⟨f28, d28, D28⟩ := F28.at (ps := ["_law_words_here"]) X G fun _ _ _ _ _ _ us hl => match us, hl with | [_], _ => rfl
 obtain ⟨f29, d29, D29⟩ := F29.at (ps := ["_law_text"]) X G fun _ _ _ _ _ _ us hl => match us, hl with | [_], _ => rfl
 have D30 : DefAt K mg "law" zdD ["_law_script"] _ _ := ⟨PySem.W.mg_of X G a30, zeW l30 c30 k30, (zgI (st := zdD) l30 c30 k30).binds (ps := ["_law_script"]) fun _ _ _ _ _ _ us hl => match us, hl with | [_], _ => rfl⟩
 have D31 : IniAt K C_Expr "Expr.__init__" zaz ["self", "words"] _ _ := ⟨⟨w31, a31, n31, y31⟩, zeW l31 c31 k31, (zgI (st := zaz) l31 c31 k31).binds (ps := ["self", "words"]) fun _ _ _ _ _ _ us hl => match us, hl with | [_, _], _ => rfl⟩
 have D32 : IniAt K C_Cond "Cond.__init__" zay ["self", "words"] _ _ := ⟨⟨w32, a32, n32, y32⟩, zeW l32 c32 k32, (zgI (st := zay) l32 c32 k32).binds (ps := ["self", "words"]) fun _ _ _ _ _ _ us hl => match us, hl with | [_, _], _ => rfl⟩
 refine ⟨PySem.W.fnOf "law" "law" (zbI zdD) (zaU zdD) (zah zdD) .none kV30 dc30 pm30 an30 cd30 ct30, fun s v => .of_eq rfl, fun base _ _ => zr3 ?_⟩;exact zqU T D0 D1 D2 D3 D4 D5 D6 D7 D8 D9 D10 D11 D12 D13 D14 D15 D16 D17 D18 D19 D20 D21 D22 D23 D24 D25 D26 D27 D28 D29 D30 D31 D32
end My
open PySem PySem.W PyProof.Rows
set_option maxRecDepth 100000 in
set_option maxHeartbeats 0 in
theorem PySem.Challenge.cw_rowdam_k16_numbers_in_rows_holds : PySem.Challenge.rw_rowdam_k16_numbers_in_rows.Holds := by
 w_on; refine HQ.two "special-get-raises" My.he My.hAf My.hBf My.hAt My.hBt ?_
 k_fill
 refine E3.znH (l := PySem.Challenge.rw_rowdam_k16_numbers_in_rows) (k := My.lawK) (g := My.lawG) (x := "_law_script") rfl rfl ⟨rfl, by decide, by decide⟩ (fun w h Y => PySem.W.kIn_of Y) ?F My.zn2
 case F =>
  intro w mg fa h KX G hmg
  refine' My.all_mk KX G hmg ?ac_Cond ?ac_Expr ?ac_DamError ?ac_NoExpr ?ac_NoName ?ac_NoText ?pg_Cond ?hd_Cond ?po_Cond ?sa_Cond ?pg_Expr ?hd_Expr ?po_Expr ?sa_Expr ?na_Expr_parts ?na_Cond_parts ?xc_DamError ?xc_NoExpr ?xc_NoName ?xc_NoText ?xb_DamError ?ai_NoName ?li_NoName ?ki_NoName ?kk_NoName ?xi_NoName ?xk_NoName ?xa_NoName ?xs_NoName ?ai_NoText ?li_NoText ?ki_NoText ?kk_NoText ?xi_NoText ?xk_NoText ?xa_NoText ?xs_NoText ?xn_NoExpr ?xk_NoExpr ?xs_NoExpr ?qk_NoExpr_NoExpr ?qk_NoText_NoText ?F0 ?F1 ?F2 ?F3 ?F4 ?F5 ?F6 ?F7 ?F8 ?F9 ?F10 ?F11 ?F12 ?F13 ?F14 ?F15 ?F16 ?F17 ?F18 ?F19 ?F20 ?F21 ?F22 ?F23 ?F24 ?F25 ?F26 ?F27 ?F28 ?F29 ?a30 ?l30 ?c30 ?k30 ?a31 ?l31 ?c31 ?k31 ?n31 ?w31 ?y31 ?a32 ?l32 ?c32 ?k32 ?n32 ?w32 ?y32 ?z_any ?z_len ?z_range ?z_reversed ?z_all ?z_int ?z_tuple ?z_enumerate ?z_str ?z_min ?y_ALL_LETTERS ?x_ALL_LETTERS ?y_FOLDS ?x_FOLDS ?y_NEEDS ?kd_NEEDS ?ks_NEEDS ?kh_NEEDS_0 ?kt_NEEDS_0 ?kh_NEEDS_1 ?kt_NEEDS_1 ?kh_NEEDS_2 ?kt_NEEDS_2 ?kh_NEEDS_3 ?kt_NEEDS_3 ?kh_NEEDS_4 ?kt_NEEDS_4 ?kh_NEEDS_5 ?kt_NEEDS_5 ?kh_NEEDS_6 ?kt_NEEDS_6 ?kh_NEEDS_7 ?kt_NEEDS_7 ?kh_NEEDS_8 ?kt_NEEDS_8 ?kh_NEEDS_9 ?kt_NEEDS_9 ?y_FROMS ?kd_FROMS ?ks_FROMS ?kh_FROMS_0 ?kh_FROMS_1 ?kh_FROMS_2 ?kh_FROMS_3 ?kh_FROMS_4 ?kh_FROMS_5 ?kh_FROMS_6 ?kh_FROMS_7 ?kh_FROMS_8 ?kh_FROMS_9 ?y_FIGURES ?y_MOST_FIGURES ?y_LETTERS ?y_COND_LETTERS ?y_MOST_SIGNS ?y_MOST_SHARES ?y_MOST_SPREAD ?y_MOST_SPAN
  (case ac_Cond => k_is); (case ac_Expr => k_is); (case ac_DamError => k_is); (case ac_NoExpr => k_is); (case ac_NoName => k_is); (case ac_NoText => k_is); (case pg_Cond => k_is); (case hd_Cond => k_is); (case po_Cond => k_is); (case sa_Cond => k_is); (case pg_Expr => k_is); (case hd_Expr => k_is); (case po_Expr => k_is); (case sa_Expr => k_is); (case na_Expr_parts => k_is); (case na_Cond_parts => k_is); (case xc_DamError => kernel_rfl); (case xc_NoExpr => kernel_rfl); (case xc_NoName => kernel_rfl); (case xc_NoText => kernel_rfl); (case xb_DamError => refine E3.zra ?_ ?_ ?_ <;> k_is); (case ai_NoName => k_is); (case li_NoName => k_is); (case ki_NoName => k_is); (case kk_NoName => k_is); (case xi_NoName => kernel_rfl); (case xk_NoName => k_is); (case xa_NoName => refine E3.znh ?_ ?_ (E3.zhS ?_ ?_ ?_) ?_ ?_ <;> k_is); (case xs_NoName => refine E3.zlK (E3.zhS ?_ ?_ ?_) ?_ ?_ ?_ ?_ ?_ <;> k_is); (case ai_NoText => k_is); (case li_NoText => k_is); (case ki_NoText => k_is); (case kk_NoText => k_is); (case xi_NoText => kernel_rfl); (case xk_NoText => k_is); (case xa_NoText => refine E3.znh ?_ ?_ (E3.zhS ?_ ?_ ?_) ?_ ?_ <;> k_is); (case xs_NoText => refine E3.zlK (E3.zhS ?_ ?_ ?_) ?_ ?_ ?_ ?_ ?_ <;> k_is); (case xn_NoExpr => kernel_rfl); (case xk_NoExpr => k_is); (case xs_NoExpr => refine E3.zlK (E3.zhS ?_ ?_ ?_) ?_ ?_ ?_ ?_ ?_ <;> k_is); (case qk_NoExpr_NoExpr => kernel_rfl); (case qk_NoText_NoText => kernel_rfl); (case a30 => k_is); (case l30 => k_is); (case c30 => k_is); (case k30 => k_is); (case a31 => k_is); (case l31 => k_is); (case c31 => k_is); (case k31 => k_is); (case n31 => kernel_rfl); (case w31 => kernel_rfl); (case y31 => k_is); (case a32 => k_is); (case l32 => k_is); (case c32 => k_is); (case k32 => k_is); (case n32 => kernel_rfl); (case w32 => kernel_rfl); (case y32 => k_is); (case z_any => k_is); (case z_len => k_is); (case z_range => k_is); (case z_reversed => k_is); (case z_all => k_is); (case z_int => k_is); (case z_tuple => k_is); (case z_enumerate => k_is); (case z_str => k_is); (case z_min => k_is); (case y_ALL_LETTERS => k_is); (case x_ALL_LETTERS => k_is); (case y_FOLDS => k_is); (case x_FOLDS => k_is); (case y_NEEDS => k_is); (case kd_NEEDS => k_is); (case ks_NEEDS => first | decide +kernel | kernel_rfl); (case kh_NEEDS_0 => rfl); (case kt_NEEDS_0 => k_is); (case kh_NEEDS_1 => rfl); (case kt_NEEDS_1 => k_is); (case kh_NEEDS_2 => rfl); (case kt_NEEDS_2 => k_is); (case kh_NEEDS_3 => rfl); (case kt_NEEDS_3 => k_is); (case kh_NEEDS_4 => rfl); (case kt_NEEDS_4 => k_is); (case kh_NEEDS_5 => rfl); (case kt_NEEDS_5 => k_is); (case kh_NEEDS_6 => rfl); (case kt_NEEDS_6 => k_is); (case kh_NEEDS_7 => rfl); (case kt_NEEDS_7 => k_is); (case kh_NEEDS_8 => rfl); (case kt_NEEDS_8 => k_is); (case kh_NEEDS_9 => rfl); (case kt_NEEDS_9 => k_is); (case y_FROMS => k_is); (case kd_FROMS => k_is); (case ks_FROMS => first | decide +kernel | kernel_rfl); (case kh_FROMS_0 => rfl); (case kh_FROMS_1 => rfl); (case kh_FROMS_2 => rfl); (case kh_FROMS_3 => rfl); (case kh_FROMS_4 => rfl); (case kh_FROMS_5 => rfl); (case kh_FROMS_6 => rfl); (case kh_FROMS_7 => rfl); (case kh_FROMS_8 => rfl); (case kh_FROMS_9 => rfl); (case y_FIGURES => k_is); (case y_MOST_FIGURES => k_is); (case y_LETTERS => k_is); (case y_COND_LETTERS => k_is); (case y_MOST_SIGNS => k_is); (case y_MOST_SHARES => k_is); (case y_MOST_SPREAD => k_is); (case y_MOST_SPAN => k_is); all_goals (refine' E3.FAt.mk ?a ?l ?c ?k; (case a => k_is); (case l => k_is); (case c => k_is); (case k => k_is))
