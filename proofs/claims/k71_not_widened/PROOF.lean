import PyProof.Rows.All
import Wide.All
import OpenK.AllK
import Wide.FinOn
import Lean
import PyProof.EqAt
import PyProof.EqKinds
import PyProof.TupleCall
import KE.KIsAll
import KE.KMinKey
import KE.KTupSum
import KE.KxSplit
import KE.KxAffix
import KE.KIntText
import PyProof.NeKinds
import PyProof.Rows.EqBoolInt
import KE.KSortTup
import PyProof.Conv_int_bool
import PySem.Challenge.RW_rowdam_k71_not_widened
noncomputable section
set_option Elab.async false
set_option linter.all false
set_option maxRecDepth 100000
section
open PySem PySem.W PyProof.Rows
def My.Half {p q : Program} {loose : List Str} {Xt : Shared → Bool} {α : Type} {Yf : Shared → α} {Ya : World → α} {N : Nat} {g0 : Bool} {B C : Prop} (row : String) (b : Bool) (_ : LeftO p q loose Xt Yf Ya N g0 ∧ B → C) : Prop :=
 ∀ w : World, (openEnds treeTable p (w.withFollow row b) N).map (fun s => (openSeen q loose (importedModules p.main.body) Xt g0 s, Yf s)) = some (openGood q loose, Ya (w.withFollow row b))
theorem My.left2 {p q : Program} {loose : List Str} {Xt : Shared → Bool} {α : Type} {Yf : Shared → α} {Ya : World → α} {N : Nat} {g0 : Bool} {B C : Prop} (row : String) (H : LeftO p q loose Xt Yf Ya N g0 ∧ B → C)
  (h1 : My.Half row false H) (h2 : My.Half row true H) (hB : B) : C := H ⟨fun w => by
 have e := World.withFollow_self w row
 cases hb : w.params.followText row <;> rw [hb] at e
 ·have := h1 w; rw [e] at this; exact this
 ·have := h2 w; rw [e] at this; exact this, hB⟩
local macro_rules
  | `(tactic| refine $f:term $as:term*) => do
    let mut bs := #[]
    let mut hit := false
    for a in as do
      if a.raw.isOfKind ``Lean.Parser.Term.syntheticHole && a.raw[1].getId == `hl then
        hit := true
        bs := bs.push (← `((And.left ?hx)))
      else if a.raw.isOfKind ``Lean.Parser.Term.syntheticHole && a.raw[1].getId == `hc then
        bs := bs.push (← `((And.right ?hx)))
      else bs := bs.push a
    if hit then `(tactic| refine $f $bs*) else Lean.Macro.throwUnsupported
set_option maxHeartbeats 0 in
open_top My.hdAll for PySem.Challenge.rw_rowdam_k71_not_widened
theorem My.hl0 : My.Half "special-get-raises" false My.hdAll := fun _ => by kernel_rfl
theorem My.hl1 : My.Half "special-get-raises" true My.hdAll := fun _ => by kernel_rfl
end
namespace L2
open PySem PySem.Spec PyProof.Rows
abbrev Key := Sum Int Str
def keyIs : Key → Value → Bool
 | .inl k, v => Value.isInt k v
 | .inr x, v => Value.isStrOf x v
def keyH (w : World) : Key → Int
 | .inl k => hashInt k
 | .inr x => hashStr w x
theorem keyIs_shape : ∀ {k : Key} {v : Value}, keyIs k v = true → (∃ i t, k = Sum.inl i ∧ v = Value.int i t) ∨ (∃ x t, k = Sum.inr x ∧ v = Value.str x t)
  | .inl i, v, h => by
    obtain ⟨t, e⟩ := Value.isInt_shape (k := i) (v := v) h
    exact .inl ⟨i, t, rfl, e⟩
  | .inr x, v, h => by
    obtain ⟨t, e⟩ := Value.isStrOf_shape (x := x) (v := v) h
    exact .inr ⟨x, t, rfl, e⟩
theorem keyIs_str (x : Str) (t : Tok) : keyIs (.inr x) (.str x t) = true := by simp [keyIs, Value.isStrOf]
theorem key_ll (a b : Int) : decide ((Sum.inl a : Key) = Sum.inl b) = (a == b) := by
 by_cases e : a = b
 ·subst e; simp
 ·have h : ¬ (Sum.inl a : Key) = Sum.inl b := fun q => e (Sum.inl.inj q)
  rw [decide_eq_false h]
  exact (beq_eq_false_iff_ne.mpr e).symm
theorem key_rr (a b : Str) : decide ((Sum.inr a : Key) = Sum.inr b) = decide (a = b) := by
 by_cases e : a = b
 ·subst e; simp
 ·have h : ¬ (Sum.inr a : Key) = Sum.inr b := fun q => e (Sum.inr.inj q)
  rw [decide_eq_false h, decide_eq_false e]
theorem key_lr (a : Int) (b : Str) : decide ((Sum.inl a : Key) = Sum.inr b) = false := decide_eq_false (fun q => nomatch q)
theorem key_rl (a : Str) (b : Int) : decide ((Sum.inr a : Key) = Sum.inl b) = false := decide_eq_false (fun q => nomatch q)
def mixKind (prog : Program) (w : World) : PySem.KeyKind prog w Key where
 is := keyIs
 hash := keyH w
 inj := fun v a b ha hb => by
  rcases keyIs_shape ha with ⟨i, t, rfl, rfl⟩ | ⟨x, t, rfl, rfl⟩
  ·rcases keyIs_shape hb with ⟨j, u, rfl, e⟩ | ⟨y, u, rfl, e⟩
   ·injection e with e1 _; rw [e1]
   ·exact nomatch e
  ·rcases keyIs_shape hb with ⟨j, u, rfl, e⟩ | ⟨y, u, rfl, e⟩
   ·exact nomatch e
   ·injection e with e1 _; rw [e1]
 byValue := fun k v h => by
  rcases keyIs_shape h with ⟨i, t, rfl, rfl⟩ | ⟨x, t, rfl, rfl⟩ <;> rfl
 pyHash := fun hv h => by
  rcases keyIs_shape hv with ⟨i, t, rfl, rfl⟩ | ⟨x, t, rfl, rfl⟩
  ·exact wpAny_pyHash_int h
  ·exact wpAny_pyHash_str h
 eqBool := fun hu hv h => by
  rcases keyIs_shape hu with ⟨i, t, rfl, rfl⟩ | ⟨x, t, rfl, rfl⟩
  ·rcases keyIs_shape hv with ⟨j, u, rfl, rfl⟩ | ⟨y, u, rfl, rfl⟩
   ·rw [key_ll] at h; exact wpAny_eqBool_int h
   ·rw [key_lr] at h; exact SeqAt.EqAt.int_str i t y u _ _ _ _ h
  ·rcases keyIs_shape hv with ⟨j, u, rfl, rfl⟩ | ⟨y, u, rfl, rfl⟩
   ·rw [key_rl] at h; exact SeqAt.EqAt.str_int x t j u _ _ _ _ h
   ·rw [key_rr] at h; exact wpAny_eqBool_str h
 «strs» := fun k x t v h => by
  rcases keyIs_shape h with ⟨i, u, rfl, e⟩ | ⟨y, u, rfl, e⟩
  ·exact nomatch e
  ·injection e with e1 _
   subst e1
   cases v <;> rfl
theorem mixKind_str (prog : Program) (w : World) (x : Str) (t : Tok) : (mixKind prog w).is (.inr x) (.str x t) = true := keyIs_str x t
end L2
namespace L2
open PySem PySem.Spec PyProof.Rows
inductive V where
 | non | bl (b : Bool) | int (i : Int) | str (x : Str) | byt (b : Array UInt8) | flt (b : UInt64) | ref (a : Addr) | ty (n : String)
 deriving DecidableEq
def RelV : V → Value → Prop
 | .non, u => u = Value.none
 | .bl b, u => u = Value.bool b
 | .int i, u => ∃ t, u = Value.int i t
 | .str x, u => ∃ t, u = Value.str x t
 | .byt b, u => ∃ t, u = Value.bytes b t
 | .flt b, u => ∃ t, u = Value.float b t
 | .ref a, u => u = Value.ref a
 | .ty n, u => u = Value.type n
abbrev Vals : List V → List Value → Prop := Paired RelV
theorem Vals.length {xs : List V} {us : List Value} (r : Vals xs us) : xs.length = us.length := Paired.length r
theorem Vals.get : ∀ {xs : List V} {us : List Value} {i : Nat} {x : V}, Vals xs us → xs[i]? = some x → ∃ u, us[i]? = some u ∧ RelV x u
  | _, _, _, _, .nil, e => by simp at e
  | _, _, 0, _, .cons r _, e => by simp at e; subst e; exact ⟨_, rfl, r⟩
  | _, _, i + 1, x, .cons _ t, e => by
    obtain ⟨u, h1, h2⟩ := Vals.get (i := i) (x := x) t (by simpa using e)
    exact ⟨u, by simpa using h1, h2⟩
theorem Vals.set {x : V} {u : Value} (r : RelV x u) : ∀ {xs : List V} {us : List Value} (i : Nat), Vals xs us → Vals (xs.set i x) (us.set i u)
 | _, _, _, .nil => .nil
 | _, _, 0, .cons _ t => .cons r t
 | _, _, i + 1, .cons q t => .cons q (Vals.set r i t)
theorem Vals.append : ∀ {xs ys : List V} {us ws : List Value}, Vals xs us → Vals ys ws → Vals (xs ++ ys) (us ++ ws)
 | _, _, _, _, .nil, s => s
 | _, _, _, _, .cons r t, s => .cons r (Vals.append t s)
theorem Vals.take : ∀ {xs : List V} {us : List Value} (n : Nat), Vals xs us → Vals (xs.take n) (us.take n)
 | _, _, 0, _ => .nil
 | _, _, _ + 1, .nil => .nil
 | _, _, n + 1, .cons r t => .cons r (Vals.take n t)
theorem Vals.drop : ∀ {xs : List V} {us : List Value} (n : Nat), Vals xs us → Vals (xs.drop n) (us.drop n)
 | _, _, 0, r => r
 | _, _, _ + 1, .nil => .nil
 | _, _, n + 1, .cons _ t => Vals.drop n t
def RelO : Option V → Option Value → Prop
 | some v, some u => RelV v u
 | none, none => True
 | _, _ => False
def KV {κ : Type} : List (κ × V) → List (κ × Value) → Prop := Paired fun (p : κ × V) (q : κ × Value) => p.1 = q.1 ∧ RelV p.2 q.2
def kV : Key → V
 | .inl i => .int i
 | .inr x => .str x
inductive HO where
  | lst (xs : List V)
  | tup (xs : List V)
  | dK (kvs : List (Key × V)) | dT (kvs : List (List Key × V))
  | set (S : Int → Bool) (n : Nat)
  | ins (C dx : Addr) (fs : List (Str × V))
  | own (x : Addr)
  | xd (fs : List (Str × V))
  | met (f x : Addr)
  | rng (lo hi : Int)
  | frz (o : Obj) (u : HO)
  | tbl (ps : Array Value)
  | ext (φ : Heap → Prop)
abbrev Hp := Addr → Option HO
def upd (H : Hp) (a : Addr) (o : HO) : Hp := fun b => if b = a then some o else H b
theorem upd_same {H : Hp} {a : Addr} {o : HO} : upd H a o a = some o := by unfold upd; rw [if_pos rfl]
theorem upd_ne {H : Hp} {a b : Addr} {o : HO} (h : b ≠ a) : upd H a o b = H b := by unfold upd; rw [if_neg h]
theorem upd_upd {H : Hp} {a : Addr} {o u : HO} : upd (upd H a o) a u = upd H a u := by
 funext b; unfold upd; split <;> rfl
theorem ne_of {H : Hp} {a b : Addr} {o u : HO} (h : H a = some o) (h' : H b = some u) (d : o ≠ u) : a ≠ b := by
 intro e; subst e; rw [h] at h'; exact d (Option.some.inj h')
theorem ne_of_none {H : Hp} {a b : Addr} {o : HO} (h : H a = some o) (h' : H b = none) : a ≠ b := by
 intro e; subst e; rw [h] at h'; cases h'
section
variable (P : Program) (w : World)
def ObjOk (H : Hp) (h : Heap) (a : Addr) : HO → Prop
 | .lst xs => xs.length ≤ sizeLine ∧ ∃ (its : List Value) (n : Nat), Vals xs its ∧ h.get? a = some { cls := .type "list", data := .seq its.toArray n }
 | .tup xs => xs.length ≤ sizeLine ∧ ∃ its : List Value, Vals xs its ∧ IsTup h a its.toArray
 | .dK kvs => kvs.length ≤ sizeLine ∧ (a == sysModules) = false ∧ ∃ vs, KV kvs vs ∧ h.DictOf (mixKind P w) a vs
 | .dT kvs => kvs.length ≤ sizeLine ∧ (a == sysModules) = false ∧ ∃ xs : List (List Key × Addr × Value),
   Paired (fun (p : List Key × V) (q : List Key × Addr × Value) => p.1 = q.1 ∧ H q.2.1 = some (.tup (p.1.map kV)) ∧ RelV p.2 q.2.2) kvs xs ∧
   ∃ o es ep, h.get? a = some o ∧ o.ExactDict ∧ o.data = .dict es ep ∧ es.toList = xs.map (entryOfKey (tupleKind (mixKind P w))) ∧ (xs.map (·.1)).Nodup
 | .set S n => h.SetOf (intKind P w) a S n
 | .ins C dx fs => H dx = some (.own a) ∧ fs.length ≤ 1000 ∧ dx ≠ a ∧ h.get? a = some (PySem.W.instObj C dx) ∧
   ∃ mA, h.Ns1 dx mA ∧ (∀ f, RelO (fs.lookup f) (mA f)) ∧ PySem.Within mA (fs.map (·.1))
 | .own _ => ∃ o, h.get? a = some o
 | .xd fs => ∃ mA, h.Ns1 a mA ∧ ∀ f, RelO (fs.lookup f) (mA f)
 | .rng lo hi => ∃ t u v, h.get? a = some { cls := .type "range", data := .fields #[.int lo t, .int hi u, .int 1 v] }
 | .frz o u => h.get? a = some o ∧ ObjOk H h a u
 | .tbl ps => h.get? a = some { cls := .none, data := .fields ps }
 | .met f x => h.get? a = some (PySem.W.methodObj (.ref f) (.ref x))
 | .ext φ => φ h ∧ (∃ o, h.get? a = some o) ∧ ∀ h1 h2 : Heap, φ h1 → (∀ o, h1.get? a = some o → h2.get? a = some o) → φ h2
def HOk (H : Hp) (h : Heap) : Prop := ∀ a o, H a = some o → ObjOk P w H h a o
end
section
variable {P : Program} {w : World} {H H' : Hp} {h h' : Heap} {a : Addr} {o : HO}
theorem ObjOk.lt (x : ObjOk P w H h a o) : a < h.objs.size := by
 cases o with
 | lst xs => obtain ⟨_, _, _, _, e⟩ := x; exact Heap.lt_size e
 | tup xs => obtain ⟨_, _, _, p⟩ := x; exact p.lt
 | dK kvs => obtain ⟨_, _, _, _, o, _, _, e, _⟩ := x; exact Heap.lt_size e
 | dT kvs => obtain ⟨_, _, _, _, o, _, _, e, _⟩ := x; exact Heap.lt_size e
 | set S n => obtain ⟨o, _, _, _, e, _⟩ := x; exact Heap.lt_size e
 | ins C dx fs => obtain ⟨_, _, _, e, _⟩ := x; exact Heap.lt_size e
 | own y => obtain ⟨_, e⟩ := x; exact Heap.lt_size e
 | xd fs => obtain ⟨_, ⟨_, _, _, e, _⟩, _⟩ := x; exact Heap.lt_size e
 | rng lo hi => obtain ⟨_, _, _, e⟩ := x; exact Heap.lt_size e
 | frz ob u => obtain ⟨e, _⟩ := x; exact Heap.lt_size e
 | tbl ps => exact Heap.lt_size (show h.get? a = some _ from x)
 | met f y => exact Heap.lt_size (show h.get? a = some _ from x)
 | ext φ => obtain ⟨_, ⟨_, e⟩, _⟩ := x; exact Heap.lt_size e
theorem Paired.mapP {α β : Type} {F G : α → β → Prop} : ∀ {l₁ : List α} {l₂ : List β}, Paired F l₁ l₂ → (∀ a b, F a b → G a b) → Paired G l₁ l₂
 | _, _, .nil, _ => .nil
 | _, _, .cons r t, f => .cons (f _ _ r) (Paired.mapP t f)
theorem ObjOk.stay (x : ObjOk P w H h a o) (k : ∀ b u, (b = a ∨ H b = some (.own a)) → h.get? b = some u → h'.get? b = some u)
    (ho : ∀ b, H b = some (.own a) → H' b = some (.own a)) (ht : ∀ b xs, H b = some (.tup xs) → H' b = some (.tup xs)) : ObjOk P w H' h' a o := by
  induction o with
  | lst xs => obtain ⟨z, its, n, r, e⟩ := x; exact ⟨z, its, n, r, k _ _ (.inl rfl) e⟩
  | tup xs => obtain ⟨z, its, r, ob, e, c⟩ := x; exact ⟨z, its, r, ob, k _ _ (.inl rfl) e, c⟩
  | dK kvs => obtain ⟨z, y, vs, r, ob, es, ep, e, c⟩ := x; exact ⟨z, y, vs, r, ob, es, ep, k _ _ (.inl rfl) e, c⟩
  | dT kvs =>
    obtain ⟨z, y, xs, r, ob, es, ep, e, c⟩ := x
    exact ⟨z, y, xs, Paired.mapP r fun p q z => ⟨z.1, ht _ _ z.2.1, z.2.2⟩, ob, es, ep, k _ _ (.inl rfl) e, c⟩
  | set S n => obtain ⟨ob, es, ep, t, e, c⟩ := x; exact ⟨ob, es, ep, t, k _ _ (.inl rfl) e, c⟩
  | ins C dx fs =>
    obtain ⟨d, z, ne, e, mA, ⟨od, es, ep, e2, c⟩, r⟩ := x
    exact ⟨ho _ d, z, ne, k _ _ (.inl rfl) e, mA, ⟨od, es, ep, k _ _ (.inr d) e2, c⟩, r⟩
  | own y => obtain ⟨ob, e⟩ := x; exact ⟨ob, k _ _ (.inl rfl) e⟩
  | xd fs => obtain ⟨mA, ⟨od, es, ep, e, c⟩, r⟩ := x; exact ⟨mA, ⟨od, es, ep, k _ _ (.inl rfl) e, c⟩, r⟩
  | rng lo hi => obtain ⟨t, u, v, e⟩ := x; exact ⟨t, u, v, k _ _ (.inl rfl) e⟩
  | frz ob u ih => obtain ⟨e, q⟩ := x; exact ⟨k _ _ (.inl rfl) e, ih q⟩
  | tbl ps =>
    have e : h.get? a = some { cls := .none, data := .fields ps } := x
    show h'.get? a = some { cls := .none, data := .fields ps }
    exact k a _ (.inl rfl) e
  | met f y =>
    have e : h.get? a = some (PySem.W.methodObj (.ref f) (.ref y)) := x
    show h'.get? a = some (PySem.W.methodObj (.ref f) (.ref y))
    exact k a _ (.inl rfl) e
  | ext φ => obtain ⟨p, ⟨o, e⟩, st⟩ := x; exact ⟨st _ _ p fun o q => k _ _ (.inl rfl) q, ⟨o, k _ _ (.inl rfl) e⟩, st⟩
theorem HOk.lt (x : HOk P w H h) (e : H a = some o) : a < h.objs.size := (x a o e).lt
theorem HOk.fresh (x : HOk P w H h) (e : h.objs.size ≤ a) : H a = none := by
 cases q : H a with
 | none => rfl
 | some u => exact absurd (Nat.lt_of_lt_of_le (x.lt q) e) (Nat.lt_irrefl _)
theorem HOk.kept (x : HOk P w H h) (k : ∀ b u, h.get? b = some u → h'.get? b = some u) : HOk P w H h' := fun a o e =>
 (x a o e).stay (fun b u _ q => k b u q) (fun _ q => q) fun _ _ q => q
theorem HOk.laid (x : HOk P w H h) (k : ∀ b u, h.get? b = some u → h'.get? b = some u) (hp : h.objs.size ≤ a) (new : ObjOk P w (upd H a o) h' a o) : HOk P w (upd H a o) h' := fun b u e => by
 have hn := x.fresh hp
 by_cases hb : b = a
 ·subst hb; rw [upd_same] at e; cases e; exact new
 ·rw [upd_ne hb] at e
  exact (x b u e).stay (fun c v _ q => k c v q) (fun c q => by rw [upd_ne (ne_of_none q hn)]; exact q) fun c xs q => by rw [upd_ne (ne_of_none q hn)]; exact q
end
def Rd (H : Hp) (a : Addr) (u : HO) : Prop := H a = some u ∨ ∃ o, H a = some (.frz o u)
theorem Rd.ok {P : Program} {w : World} {H : Hp} {h : Heap} {a : Addr} {u : HO} (r : Rd H a u) (x : HOk P w H h) : ObjOk P w H h a u := by
 rcases r with r | ⟨o, r⟩
 ·exact x a u r
 ·obtain ⟨_, q⟩ := x a _ r
  exact q
def Mut : Option HO → Prop
 | some (.lst _) => True
 | some (.dK _) => True
 | some (.dT _) => True
 | some (.set _ _) => True
 | some (.ins _ _ _) => True
 | some (.ext _) => True
 | _ => False
section
variable {P : Program} {w : World} {H : Hp} {h h' : Heap} {x e : Addr} {o' : HO}
theorem HOk.write (ok : HOk P w H h) (mu : Mut (H x)) (he : e = x ∨ H e = some (.own x)) (k : ∀ b u, b ≠ e → h.get? b = some u → h'.get? b = some u) (heo : ∃ u, h'.get? e = some u)
  (new : ObjOk P w (upd H x o') h' x o') : HOk P w (upd H x o') h' := fun b u q => by
 have nown : ∀ c y, H c = some (.own y) → c ≠ x := fun c y r z => by subst z; rw [r] at mu; exact mu
 have ntup : ∀ c xs, H c = some (.tup xs) → c ≠ x := fun c xs r z => by subst z; rw [r] at mu; exact mu
 by_cases hb : b = x
 ·subst hb; rw [upd_same] at q; cases q; exact new
 ·rw [upd_ne hb] at q
  by_cases hbe : b = e
  ·have q' : H b = some (.own x) := by
    rcases he with z | z
    ·exact absurd (hbe.trans z) hb
    ·rw [hbe]; exact z
   rw [q] at q'; cases q'
   obtain ⟨v, hv⟩ := heo
   exact ⟨v, by rw [hbe]; exact hv⟩
  ·refine (ok b u q).stay (fun c v hc r => k c v ?_ r) (fun c r => by rw [upd_ne (nown c b r)]; exact r) fun c xs r => by rw [upd_ne (ntup c xs r)]; exact r
   rcases hc with rfl | hc
   ·exact hbe
   ·rintro rfl
    rcases he with z | z
    ·exact nown c b hc z
    ·rw [hc] at z; cases z; exact hb rfl
end
structure Un (fs ex : List Addr) (H H' : Hp) (h h' : Heap) : Prop where
 keep : ∀ b o, h.get? b = some o → H b = none → b ∉ fs → b ∉ ex → h'.get? b = some o
 slot : ∀ b o, h.get? b = some o → H b = none → b ∈ fs → b ∉ ex → ∃ sl, h'.get? b = some { o with slots := sl }
 free : ∀ b o, h.get? b = some o → H b = none → b ∉ ex → H' b = none
 there : ∀ b o, h.get? b = some o → b ∉ ex → ∃ o', h'.get? b = some o'
 tups : ∀ b xs, H b = some (.tup xs) → H' b = some (.tup xs)
 frzs : ∀ b o u, H b = some (.frz o u) → H' b = some (.frz o u)
 tbls : ∀ b ps, H b = some (.tbl ps) → ∃ more, H' b = some (.tbl (ps ++ more))
section
variable {fs fs' ex ex' : List Addr} {H H1 H2 : Hp} {h h1 h2 h' : Heap} {a x e : Addr} {o : HO}
theorem Un.any (u : Un fs ex H H1 h h1) {b : Addr} {ob : Obj} (q : h.get? b = some ob) (n : H b = none) (hx : b ∉ ex) : ∃ sl, h1.get? b = some { ob with slots := sl } := by
 by_cases hb : b ∈ fs
 ·exact u.slot b ob q n hb hx
 ·exact ⟨ob.slots, u.keep b ob q n hb hx⟩
theorem Un.trans (a : Un fs ex H H1 h h1) (b : Un fs ex H1 H2 h1 h2) : Un fs ex H H2 h h2 where
 keep := fun c ob q n hc hx => b.keep c ob (a.keep c ob q n hc hx) (a.free c ob q n hx) hc hx
 slot := fun c ob q n hc hx => by
  obtain ⟨sl, e1⟩ := a.slot c ob q n hc hx
  obtain ⟨sl', e2⟩ := b.slot c _ e1 (a.free c ob q n hx) hc hx
  exact ⟨sl', e2⟩
 free := fun c ob q n hx => by
  obtain ⟨o', e1⟩ := a.there c ob q hx
  exact b.free c o' e1 (a.free c ob q n hx) hx
 there := fun c ob q hx => by
  obtain ⟨o', e1⟩ := a.there c ob q hx
  exact b.there c o' e1 hx
 tups := fun c xs q => b.tups c xs (a.tups c xs q)
 frzs := fun c ob xs q => b.frzs c ob xs (a.frzs c ob xs q)
 tbls := fun c ps q => by
  obtain ⟨m1, e1⟩ := a.tbls c ps q
  obtain ⟨m2, e2⟩ := b.tbls c _ e1
  exact ⟨m1 ++ m2, by rw [e2, Array.append_assoc]⟩
theorem Un.kept (k : ∀ b u, h.get? b = some u → h'.get? b = some u) : Un fs ex H H h h' :=
 ⟨fun b ob q _ _ _ => k b ob q, fun b ob q _ _ _ => ⟨ob.slots, k b ob q⟩, fun _ _ _ n _ => n, fun b ob q _ => ⟨ob, k b ob q⟩, fun _ _ q => q, fun _ _ _ q => q, fun _ ps q => ⟨#[], by rw [q]; simp⟩⟩
theorem Un.refl : Un fs ex H H h h := Un.kept fun _ _ q => q
theorem Un.laid (k : ∀ b u, h.get? b = some u → h'.get? b = some u) (hp : h.objs.size ≤ a) (hn : H a = none) : Un fs ex H (upd H a o) h h' where
 keep := fun b u q _ _ _ => k b u q
 slot := fun b u q _ _ _ => ⟨u.slots, k b u q⟩
 free := fun b u q n _ => by rw [upd_ne (Nat.ne_of_lt (Nat.lt_of_lt_of_le (Heap.lt_size q) hp))]; exact n
 there := fun b u q _ => ⟨u, k b u q⟩
 tups := fun b xs q => by rw [upd_ne (ne_of_none q hn)]; exact q
 frzs := fun b u xs q => by rw [upd_ne (ne_of_none q hn)]; exact q
 tbls := fun b ps q => ⟨#[], by rw [upd_ne (ne_of_none q hn), q]; simp⟩
theorem Un.write (mu : Mut (H x)) (he : e = x ∨ H e = some (.own x)) (k : ∀ b u, b ≠ e → h.get? b = some u → h'.get? b = some u) (heo : ∃ u, h'.get? e = some u) : Un fs ex H (upd H x o) h h' := by
 have hx : ∀ b, H b = none → b ≠ x := fun b n z => by subst z; rw [n] at mu; exact mu
 have hb : ∀ b, H b = none → b ≠ e := fun b n z => by
  subst z
  rcases he with r | r
  ·exact hx b n r
  ·rw [n] at r; cases r
 have hm : ∀ b u, H b = some u → ¬ Mut (some u) → b ≠ x := fun b u q nm z => by subst z; rw [q] at mu; exact nm mu
 refine ⟨fun b u q n _ _ => k b u (hb b n) q, fun b u q n _ _ => ⟨u.slots, k b u (hb b n) q⟩, fun b u q n _ => by rw [upd_ne (hx b n)]; exact n, fun b u q _ => ?_,
  fun b xs q => by rw [upd_ne (hm b _ q fun z => z)]; exact q, fun b u xs q => by rw [upd_ne (hm b _ q fun z => z)]; exact q, fun b ps q => ⟨#[], by rw [upd_ne (hm b _ q fun z => z), q]; simp⟩⟩
 by_cases hbe : b = e
 ·subst hbe; exact heo
 ·exact ⟨u, k b u hbe q⟩
theorem Un.mono (u : Un fs ex H H1 h h1) (hs : ∀ b ∈ fs, b ∈ fs') (hx : ∀ b ∈ ex, b ∈ ex') : Un fs' ex' H H1 h h1 :=
 ⟨fun b ob q n hb he => u.keep b ob q n (fun z => hb (hs b z)) fun z => he (hx b z), fun _ _ q n _ he => u.any q n fun z => he (hx _ z), fun b ob q n he => u.free b ob q n fun z => he (hx b z), fun b ob q he => u.there b ob q fun z => he (hx b z), u.tups, u.frzs, u.tbls⟩
end
def trk (h : Heap) (H : Hp) : List Addr := (List.range h.objs.size).filter fun a => (H a).isSome
def hidT (h : Heap) (H : Hp) : Heap := PySem.W.hideAll h (trk h H)
theorem hidT_size (h : Heap) (H : Hp) : (hidT h H).objs.size = h.objs.size := PySem.W.hideAll_size _ _
theorem hidT_get {h : Heap} {H : Hp} {b : Addr} {o : Obj} (e : h.get? b = some o) (n : H b = none) : (hidT h H).get? b = some o :=
 PySem.W.hideAll_get _ e fun hm => by
  have q : (H b).isSome = true := (List.mem_filter.mp hm).2
  rw [n] at q; simp at q
theorem of_hidT {h : Heap} {H : Hp} {b : Addr} {o : Obj} (e : (hidT h H).get? b = some o) : h.get? b = some o ∧ H b = none := by
  have e' : h.get? b = some o := PySem.W.of_hideAll (trk h H) e
  refine ⟨e', ?_⟩
  cases q : H b with
  | none => rfl
  | some x =>
    have hm : b ∈ trk h H := List.mem_filter.mpr ⟨List.mem_range.mpr (Heap.lt_size e'), by simp [q]⟩
    have z : (hidT h H).get? b = none := PySem.W.hideAll_none (trk h H) hm
    rw [z] at e; cases e
end L2
namespace L2
open PySem PySem.Spec PyProof.Rows
structure Mod (K : PySem.W.Frag) (mg : Str → Option Value) (base : Heap) : Prop where
 kin : K.In base
 glob : base.Ns mainGlobals mg
 blt : ∃ mb, base.Ns builtinsNs mb ∧ ∀ x : Str, x ≠ "__name__" → mb x = bootBuiltins x
 nolimit : base.NoLimit
structure Cx where
 prog : Program
 w : World
 K : PySem.W.Frag
 mg : Str → Option Value
 base : Heap
 A : Around
 N : List Str
 s₀ : Shared
 H₀ : Hp
 env : Env
 outer : List Env
 stack : List Env
 ex : List Addr
 fn : Str → Bool
 calm : Bool
 pn : List (Addr × Obj)
 xe : Value → Shared → Prop
def frs (l : List Env) : List Addr := l.filterMap (·.frame)
abbrev Cx.fs (X : Cx) : List Addr := frs X.outer
def Vis (sc : Scope) (x : Str) : Prop := sc.names.lookup x = some .local ∨ sc.names.lookup x = some .cell ∨ sc.names.lookup x = some .free
def Loc (sc : Scope) (x : Str) : Prop := sc.names.lookup x = some .local ∨ sc.names.lookup x = some .cell
def Look (env : Env) (h : Heap) (m : Str → Option Value) (x : Str) (u : Value) : Prop :=
 (env.kindOf x = some .local ∧ m x = some u) ∨ ((env.kindOf x = some .cell ∨ env.kindOf x = some .free) ∧ ∃ c, env.cells.lookup x = some c ∧ h.IsCell c (some u))
structure Cx.Ok (X : Cx) : Prop where
 mod : Mod X.K X.mg X.base
 kind : X.env.scope.kind = .function
 glob : X.env.globals = mainGlobals
 blt : X.env.builtins = builtinsNs
 above : X.s₀.heap.objs.size ≤ X.env.locals
 inj : ∀ x y c, X.env.cells.lookup x = some c → X.env.cells.lookup y = some c → x = y
 has : ∀ x, (X.env.kindOf x = some .cell ∨ X.env.kindOf x = some .free) → ∃ c, X.env.cells.lookup x = some c
 cab : ∀ x c, X.fn x = true → X.env.cells.lookup x = some c → X.s₀.heap.objs.size ≤ c
 hd : X.calm = true → X.A.handled = none
 frames : X.A.frames = some X.stack
 stk : X.stack = X.outer ∨ (X.stack = X.env :: X.outer ∧ X.env.frame = some X.env.locals)
 exf : ∀ b ∈ X.ex, b ≠ X.env.locals ∧ ∀ x c, X.env.cells.lookup x = some c → c ≠ b
 bs : ∀ b o, X.base.get? b = some o → X.s₀.heap.get? b = some o ∧ X.H₀ b = none
 bsz : X.base.objs.size ≤ X.s₀.heap.objs.size
 noex : ∀ b o, X.base.get? b = some o → b ∉ X.ex
 exfs : ∀ b ∈ X.ex, b ∉ X.fs
 funs : X.s₀.heap.FunFrames X.base X.outer
 frf : ∀ b ∈ X.fs, X.H₀ b = none
structure Inv (X : Cx) (pins : List (Addr × Obj)) (σ : List (Option V)) (H : Hp) (s : Shared) : Prop where
 ok : X.Ok
 os : s.os = X.s₀.os
 bare : AllBare s.gens
 base : Un X.fs X.ex X.H₀ H X.s₀.heap s.heap
 loc : ∃ m, s.heap.Ns X.env.locals m ∧ ∀ (i : Nat) (x : Str) (v : V), X.N[i]? = some x → σ[i]? = some (some v) → Vis X.env.scope x → ∃ u, RelV v u ∧ Look X.env s.heap m x u
 cell : ∀ x c, X.env.cells.lookup x = some c → ∃ v, s.heap.IsCell c v
 free : H X.env.locals = none
 freeC : ∀ x c, X.env.cells.lookup x = some c → H c = none
 pin : ∀ p ∈ X.pn ++ pins, s.heap.get? p.1 = some p.2 ∧ H p.1 = none ∧ p.1 ≠ X.env.locals ∧ p.1 ∉ X.fs ∧ ∀ v, p.2.data ≠ .cell v
 hok : HOk X.prog X.w H s.heap
 len : σ.length = X.N.length
section
variable {X : Cx} {pins : List (Addr × Obj)} {σ : List (Option V)} {H H' : Hp} {s : Shared} {h' : Heap}
theorem Cx.Ok.nofr (ok : X.Ok) {b : Addr} {o : Obj} (e : X.base.get? b = some o) : b ∉ X.fs := fun hb => by
 have := (ok.funs.mem hb).1
 rw [e] at this; cases this
theorem Inv.bs (I : Inv X pins σ H s) : ∀ b o, X.base.get? b = some o → s.heap.get? b = some o ∧ H b = none := fun b o e =>
 ⟨I.base.keep b o (I.ok.bs b o e).1 (I.ok.bs b o e).2 (I.ok.nofr e) (I.ok.noex b o e), I.base.free b o (I.ok.bs b o e).1 (I.ok.bs b o e).2 (I.ok.noex b o e)⟩
theorem Inv.bk (I : Inv X pins σ H s) : ∀ b o, X.base.get? b = some o → s.heap.get? b = some o := fun b o e => (I.bs b o e).1
theorem Inv.mod (I : Inv X pins σ H s) : Mod X.K X.mg X.base := I.ok.mod
theorem Inv.kIn (I : Inv X pins σ H s) : X.K.In s.heap := I.ok.mod.kin.keeps I.bk
theorem Inv.fr (I : Inv X pins σ H s) : ∃ m, Fr X.base X.env.locals s.heap m :=
 let ⟨m, hn, _⟩ := I.loc
 ⟨m, hn, I.bk, Nat.le_trans I.ok.bsz I.ok.above⟩
theorem Inv.lt (I : Inv X pins σ H s) : X.env.locals < s.heap.objs.size := let ⟨_, hn, _⟩ := I.loc; hn.lt
theorem Inv.sz (I : Inv X pins σ H s) : X.s₀.heap.objs.size ≤ s.heap.objs.size := Nat.le_trans I.ok.above (Nat.le_of_lt I.lt)
theorem Inv.nofs (I : Inv X pins σ H s) {a : Addr} (h : s.heap.objs.size ≤ a) : a ∉ X.fs := fun hb => by
 obtain ⟨_, o, ho, _⟩ := I.ok.funs.mem hb
 exact absurd (Nat.lt_of_lt_of_le (Heap.lt_size ho) (Nat.le_trans I.sz h)) (Nat.lt_irrefl _)
theorem Inv.cne (I : Inv X pins σ H s) : ∀ x c, X.env.cells.lookup x = some c → c ≠ X.env.locals := fun x c e z => by
 obtain ⟨v, o, ho, hd⟩ := I.cell x c e
 obtain ⟨m, ⟨o', es, ep, ho', hd', _⟩, _⟩ := I.loc
 rw [z, ho'] at ho; cases ho; rw [hd'] at hd; cases hd
theorem Inv.funs (I : Inv X pins σ H s) : s.heap.FunFrames X.base X.outer := by
  have all : ∀ (l : List Env), (∀ b ∈ frs l, b ∈ X.fs) → X.s₀.heap.FunFrames X.base l → s.heap.FunFrames X.base l := by
    intro l
    induction l with
    | nil => intro _ _; trivial
    | cons env r ih =>
      intro hs hl
      obtain ⟨hk, ⟨L, o, hf, hn, ho, hd⟩, hr⟩ := hl
      have hL : L ∈ X.fs := hs L (by unfold frs; rw [List.filterMap_cons, hf]; exact List.mem_cons_self)
      obtain ⟨sl, e⟩ := I.base.slot L o ho (I.ok.frf L hL) hL fun z => I.ok.exfs L z hL
      exact ⟨hk, ⟨L, _, hf, hn, e, hd⟩, ih (fun b hb => hs b (by unfold frs; rw [List.filterMap_cons, hf]; exact List.mem_cons_of_mem _ hb)) hr⟩
  exact all X.outer (fun _ hb => hb) I.ok.funs
theorem Inv.stack (I : Inv X pins σ H s) : s.heap.FunFrames X.base X.stack := by
 rcases I.ok.stk with e | ⟨e, hf⟩
 ·rw [e]; exact I.funs
 ·rw [e]
  obtain ⟨m, hn, _⟩ := I.loc
  refine .cons (by rw [I.ok.kind]; decide) hf hn ?_ I.funs
  exact Heap.get?_none_of_le (Nat.le_trans I.ok.bsz I.ok.above)
theorem Inv.stkSub (I : Inv X pins σ H s) : ∀ b ∈ frs X.stack, b ∈ X.env.locals :: X.fs := fun b hb => by
 rcases I.ok.stk with e | ⟨e, hf⟩
 ·rw [e] at hb; exact List.mem_cons_of_mem _ hb
 ·rw [e] at hb
  unfold frs at hb
  rw [List.filterMap_cons, hf] at hb
  exact hb
theorem Inv.stkFree (I : Inv X pins σ H s) : ∀ b ∈ frs X.stack, H b = none := fun b hb => by
 rcases List.mem_cons.mp (I.stkSub b hb) with e | hb
 ·rw [e]; exact I.free
 ·obtain ⟨_, o, ho, _⟩ := I.ok.funs.mem hb
  exact I.base.free b o ho (I.ok.frf b hb) fun z => I.ok.exfs b z hb
theorem Inv.step {g' : Array GenState} {t' : Nat} {d' : Drawn} {ch : List Addr} (I : Inv X pins σ H s)
  (hch : ∀ b ∈ ch, (b ∈ X.ex ∨ X.s₀.heap.objs.size ≤ b) ∧ b ≠ X.env.locals ∧ (∀ x c, X.env.cells.lookup x = some c → c ≠ b) ∧ ∀ p ∈ X.pn ++ pins, p.1 ≠ b)
  (keep : ∀ b o, b ≠ X.env.locals → b ∉ X.fs → b ∉ ch → s.heap.get? b = some o → H b = none → h'.get? b = some o)
  (slot : ∀ b o, b ≠ X.env.locals → b ∈ X.fs → b ∉ ch → s.heap.get? b = some o → H b = none → ∃ sl, h'.get? b = some { o with slots := sl }) (free : ∀ b o, b ∉ ch → s.heap.get? b = some o → H b = none → H' b = none)
  (there : ∀ b o, b ∉ ch → s.heap.get? b = some o → ∃ o', h'.get? b = some o')
  (tups : ∀ b xs, H b = some (.tup xs) → H' b = some (.tup xs)) (frzs : ∀ b o u, H b = some (.frz o u) → H' b = some (.frz o u)) (tbls : ∀ b ps, H b = some (.tbl ps) → ∃ more, H' b = some (.tbl (ps ++ more)))
  (ns : ∀ m, s.heap.Ns X.env.locals m → h'.Ns X.env.locals m) (hok : HOk X.prog X.w H' h') (hg : AllBare g') :
  Inv X pins σ H' { s with heap := h', gens := g', drawn := d', toks := t' } := by
 have neL : ∀ b o, X.s₀.heap.get? b = some o → b ≠ X.env.locals := fun b o e => Nat.ne_of_lt (Nat.lt_of_lt_of_le (Heap.lt_size e) I.ok.above)
 have neC : ∀ b o, X.s₀.heap.get? b = some o → b ∉ X.ex → b ∉ ch := fun b o e hx hb => by
  rcases (hch b hb).1 with z | z
  ·exact hx z
  ·exact absurd (Nat.lt_of_lt_of_le (Heap.lt_size e) z) (Nat.lt_irrefl _)
 have cellK : ∀ x c, X.env.cells.lookup x = some c → ∀ v, s.heap.IsCell c v → h'.IsCell c v := fun x c e v ⟨o, ho, hd⟩ => by
  have nch : c ∉ ch := fun z => (hch c z).2.2.1 x c e rfl
  by_cases hc : c ∈ X.fs
  ·obtain ⟨sl, q⟩ := slot c o (I.cne x c e) hc nch ho (I.freeC x c e)
   exact ⟨_, q, hd⟩
  ·exact ⟨o, keep c o (I.cne x c e) hc nch ho (I.freeC x c e), hd⟩
 refine ⟨I.ok, I.os, hg, ⟨fun b o e n hb hx => ?_, fun b o e n hb hx => ?_, fun b o e n hx => ?_, fun b o e hx => ?_, fun b xs e => tups b xs (I.base.tups b xs e), fun b o xs e => frzs b o xs (I.base.frzs b o xs e), fun b ps e => ?_⟩, ?_, fun x c e => ?_, ?_, fun x c e => ?_, fun p hp => ?_, hok, I.len⟩
 ·exact keep b o (neL b o e) hb (neC b o e hx) (I.base.keep b o e n hb hx) (I.base.free b o e n hx)
 ·obtain ⟨sl, e1⟩ := I.base.slot b o e n hb hx
  obtain ⟨sl', e2⟩ := slot b _ (neL b o e) hb (neC b o e hx) e1 (I.base.free b o e n hx)
  exact ⟨sl', e2⟩
 ·obtain ⟨o', e1⟩ := I.base.there b o e hx
  exact free b o' (neC b o e hx) e1 (I.base.free b o e n hx)
 ·obtain ⟨o', e1⟩ := I.base.there b o e hx
  exact there b o' (neC b o e hx) e1
 ·obtain ⟨m1, e1⟩ := I.base.tbls b ps e
  obtain ⟨m2, e2⟩ := tbls b _ e1
  exact ⟨m1 ++ m2, by rw [e2, Array.append_assoc]⟩
 ·obtain ⟨m, hn, hl⟩ := I.loc
  refine ⟨m, ns m hn, fun i x v e1 e2 e3 => ?_⟩
  obtain ⟨u, r, l⟩ := hl i x v e1 e2 e3
  refine ⟨u, r, ?_⟩
  rcases l with l | ⟨k, c, e, z⟩
  ·exact .inl l
  ·exact .inr ⟨k, c, e, cellK x c e _ z⟩
 ·obtain ⟨v, z⟩ := I.cell x c e
  exact ⟨v, cellK x c e v z⟩
 ·obtain ⟨m, ⟨o, _, _, ho, _⟩, _⟩ := I.loc
  exact free _ o (fun z => (hch _ z).2.1 rfl) ho I.free
 ·obtain ⟨v, o, ho, hd⟩ := I.cell x c e
  exact free c o (fun z => (hch c z).2.2.1 x c e rfl) ho (I.freeC x c e)
 ·obtain ⟨e, n, ne, nf, d⟩ := I.pin p hp
  have nch : p.1 ∉ ch := fun z => (hch p.1 z).2.2.2 p hp rfl
  exact ⟨keep p.1 p.2 ne nf nch e n, free p.1 p.2 nch e n, ne, nf, d⟩
theorem Inv.un {t' : Nat} (I : Inv X pins σ H s) (u : Un X.fs [] H H' s.heap h') (hok : HOk X.prog X.w H' h') : Inv X pins σ H' { s with heap := h', toks := t' } := by
 obtain ⟨m, ⟨o, es, ep, ho, r⟩, _⟩ := id I.loc
 obtain ⟨sl, hL⟩ := u.any ho I.free (by simp)
 exact I.step (g' := s.gens) (d' := s.drawn) (ch := []) (fun _ z => nomatch z) (fun b o _ hb _ e n => u.keep b o e n hb (by simp)) (fun b o _ hb _ e n => u.slot b o e n hb (by simp)) (fun b o _ e n => u.free b o e n (by simp)) (fun b o _ e => u.there b o e (by simp)) u.tups u.frzs u.tbls (fun m' hm => by
  obtain ⟨o', es', ep', ho', r'⟩ := hm
  rw [ho] at ho'; cases ho'
  exact ⟨_, es', ep', hL, r'⟩) hok I.bare
theorem Inv.call {g' : Array GenState} {t' : Nat} {d' : Drawn} {ch : List Addr} (I : Inv X pins σ H s) (u : Un (frs X.stack) ch H H' s.heap h') (hok : HOk X.prog X.w H' h') (hg : AllBare g')
  (hch : ∀ b ∈ ch, (b ∈ X.ex ∨ X.s₀.heap.objs.size ≤ b) ∧ b ≠ X.env.locals ∧ (∀ x c, X.env.cells.lookup x = some c → c ≠ b) ∧ ∀ p ∈ X.pn ++ pins, p.1 ≠ b) :
  Inv X pins σ H' { s with heap := h', gens := g', drawn := d', toks := t' } := by
 obtain ⟨m, ⟨o, es, ep, ho, r⟩, _⟩ := id I.loc
 obtain ⟨sl, hL⟩ := u.any ho I.free fun z => (hch _ z).2.1 rfl
 exact I.step (ch := ch) hch (fun b o hL hb hc e n => u.keep b o e n (fun z => (List.mem_cons.mp (I.stkSub b z)).elim hL hb) hc) (fun b o _ _ hc e n => u.any e n hc) (fun b o hc e n => u.free b o e n hc) (fun b o hc e => u.there b o e hc) u.tups u.frzs u.tbls (fun m' hm => by
  obtain ⟨o', es', ep', ho', r'⟩ := hm
  rw [ho] at ho'; cases ho'
  exact ⟨_, es', ep', hL, r'⟩) hok hg
theorem Inv.turned {t' : Nat} {it : Addr} (I : Inv X pins σ H s) (k : ∀ b o, b ≠ it → s.heap.get? b = some o → h'.get? b = some o) (hn : H it = none) (hL : it ≠ X.env.locals)
  (h1 : it ∈ X.ex ∨ X.s₀.heap.objs.size ≤ it) (h2 : ∀ x c, X.env.cells.lookup x = some c → c ≠ it) (h3 : ∀ p ∈ X.pn ++ pins, p.1 ≠ it) : Inv X pins σ H { s with heap := h', toks := t' } := by
 have nit : ∀ b u, H b = some u → b ≠ it := fun b u e z => by rw [z, hn] at e; cases e
 refine I.step (g' := s.gens) (d' := s.drawn) (ch := [it]) (fun b hb => ?_) (fun b o _ _ hc e _ => k b o (fun z => hc (by simp [z])) e) (fun b o _ _ hc e _ => ⟨o.slots, k b o (fun z => hc (by simp [z])) e⟩) (fun _ _ _ _ n => n)
  (fun b o hc e => ⟨o, k b o (fun z => hc (by simp [z])) e⟩) (fun _ _ e => e) (fun _ _ _ e => e) (fun b ps e => ⟨#[], by rw [e]; simp⟩) (fun m hm => ?_) (fun b u e => ?_) I.bare
 ·have e : b = it := by simpa using hb
  subst e
  exact ⟨h1, hL, h2, h3⟩
 ·obtain ⟨o, es, ep, ho, r⟩ := hm
  exact ⟨o, es, ep, k _ o (Ne.symm hL) ho, r⟩
 ·refine (I.hok b u e).stay (fun c v hc q => k c v ?_ q) (fun _ q => q) fun _ _ q => q
  rcases hc with z | z
  ·rw [z]; exact nit b u e
  ·exact nit c _ z
theorem Inv.tok (I : Inv X pins σ H s) (t : Nat) : Inv X pins σ H { s with toks := t } := I.un (h' := s.heap) (t' := t) Un.refl I.hok
theorem Inv.kept {t' : Nat} (I : Inv X pins σ H s) (k : ∀ b u, s.heap.get? b = some u → h'.get? b = some u) : Inv X pins σ H { s with heap := h', toks := t' } := I.un (Un.kept k) (I.hok.kept k)
theorem Inv.laid {a : Addr} {o : HO} {t' : Nat} (I : Inv X pins σ H s) (k : ∀ b u, s.heap.get? b = some u → h'.get? b = some u) (hp : s.heap.objs.size ≤ a) (new : ObjOk X.prog X.w (upd H a o) h' a o) :
  Inv X pins σ (upd H a o) { s with heap := h', toks := t' } := I.un (Un.laid k hp (I.hok.fresh hp)) (I.hok.laid k hp new)
theorem Inv.write {x e : Addr} {o : HO} {t' : Nat} (I : Inv X pins σ H s) (mu : Mut (H x)) (he : e = x ∨ H e = some (.own x)) (k : ∀ b u, b ≠ e → s.heap.get? b = some u → h'.get? b = some u) (heo : ∃ u, h'.get? e = some u)
  (new : ObjOk X.prog X.w (upd H x o) h' x o) : Inv X pins σ (upd H x o) { s with heap := h', toks := t' } := I.un (Un.write mu he k heo) (I.hok.write mu he k heo new)
theorem Inv.pins_of {pins' : List (Addr × Obj)} (I : Inv X pins σ H s) (h : ∀ p ∈ pins', s.heap.get? p.1 = some p.2 ∧ H p.1 = none ∧ p.1 ≠ X.env.locals ∧ p.1 ∉ X.fs ∧ ∀ v, p.2.data ≠ .cell v) : Inv X pins' σ H s :=
 ⟨I.ok, I.os, I.bare, I.base, I.loc, I.cell, I.free, I.freeC, fun p hp => (List.mem_append.mp hp).elim (fun z => I.pin p (List.mem_append_left _ z)) (h p), I.hok, I.len⟩
theorem nodup_ix {N : List Str} (hN : N.Nodup) {i j : Nat} {x : Str} (a : N[i]? = some x) (b : N[j]? = some x) : i = j := by
 obtain ⟨h1, e1⟩ := List.getElem?_eq_some_iff.mp a
 obtain ⟨h2, e2⟩ := List.getElem?_eq_some_iff.mp b
 exact (List.getElem_inj hN).mp (e1.trans e2.symm)
theorem store_ok2 {M : Model} {A : Around} {E : Value → Shared → Prop} {i : Nat} {x : Str} {v : V} {u : Value} {Q : Unit → Shared → Prop} (I : Inv X pins σ H s) (hN : X.N.Nodup) (hi : X.N[i]? = some x) (hx : Loc X.env.scope x) (r : RelV v u)
    (h : ∀ s', Inv X pins (σ.set i (some v)) H s' → (∃ a, Heap.SameBut a s.heap s'.heap ∧ (a = X.env.locals ∨ X.env.cells.lookup x = some a)) → Q () s') (hf : X.fn x = true ∨ X.env.scope.names.lookup x = some .local := by first | exact .inl rfl | exact .inr rfl | assumption) : wpAny M A (storeName X.env x u) Q E s := by
  obtain ⟨m, hn, hl⟩ := id I.loc
  have hcls : (X.env.scope.kind == .class || (X.env.scope.kind == .module && X.env.locals != X.env.globals)) = false := by rw [I.ok.kind]; rfl
  have hiσ : i < σ.length := by rw [I.len]; exact (List.getElem?_eq_some_iff.mp hi).1
  have cne := I.cne
  have tracked : ∀ {a : Addr} {h' : Heap}, (∃ o, s.heap.get? a = some o ∧ H a = none) → Heap.SameBut a s.heap h' → HOk X.prog X.w H h' := fun {a h'} ha hs b ob e => by
    obtain ⟨_, _, hfree⟩ := ha
    refine (I.hok b ob e).stay (fun c w' hc q => (hs.2 c ?_).trans q) (fun _ q => q) fun _ _ q => q
    rintro rfl
    rcases hc with rfl | hc
    · rw [hfree] at e; cases e
    · rw [hfree] at hc; cases hc
  rcases hx with hk | hk
  · refine wpAny_storeName_local hk hn (fun h' hn' hs => ?_) hcls
    obtain ⟨oL, _, _, hoL, _⟩ := id hn
    refine h _ ⟨I.ok, I.os, I.bare, ⟨fun b o e n hb hx => ?_, fun b o e n hb hx => ?_, I.base.free, fun b o e hx => ?_, I.base.tups, I.base.frzs, I.base.tbls⟩, ⟨_, hn', fun j y v' e1 e2 e3 => ?_⟩, fun y c e => ?_, I.free, I.freeC, fun p hp => ?_, tracked ⟨oL, hoL, I.free⟩ hs, by simpa using I.len⟩ ⟨_, hs, .inl rfl⟩
    · exact (hs.2 b (Nat.ne_of_lt (Nat.lt_of_lt_of_le (Heap.lt_size e) I.ok.above))).trans (I.base.keep b o e n hb hx)
    · obtain ⟨sl, e1⟩ := I.base.slot b o e n hb hx
      exact ⟨sl, (hs.2 b (Nat.ne_of_lt (Nat.lt_of_lt_of_le (Heap.lt_size e) I.ok.above))).trans e1⟩
    · obtain ⟨o', e1⟩ := I.base.there b o e hx
      exact ⟨o', (hs.2 b (Nat.ne_of_lt (Nat.lt_of_lt_of_le (Heap.lt_size e) I.ok.above))).trans e1⟩
    · by_cases hj : j = i
      · subst hj
        rw [hi] at e1; cases e1
        rw [List.getElem?_set_self hiσ] at e2
        cases e2
        exact ⟨u, r, .inl ⟨hk, by simp⟩⟩
      · rw [List.getElem?_set_ne (Ne.symm hj)] at e2
        obtain ⟨u', r', q⟩ := hl j y v' e1 e2 e3
        refine ⟨u', r', ?_⟩
        rcases q with ⟨k, e⟩ | ⟨k, c, e, z⟩
        · refine .inl ⟨k, ?_⟩
          have : y ≠ x := fun e => hj (nodup_ix hN e1 (e ▸ hi))
          simp [this, e]
        · exact .inr ⟨k, c, e, z.sameBut hs (cne y c e)⟩
    · obtain ⟨w', z⟩ := I.cell y c e
      exact ⟨w', z.sameBut hs (cne y c e)⟩
    · obtain ⟨e, n, ne, nf, d⟩ := I.pin p hp
      exact ⟨(hs.2 p.1 ne).trans e, n, ne, nf, d⟩
  · have hfn : X.fn x = true := by
      rcases hf with z | z
      · exact z
      · rw [z] at hk; cases hk
    obtain ⟨c, hc⟩ := I.ok.has x (.inl hk)
    obtain ⟨w', z⟩ := I.cell x c hc
    refine wpAny_storeName_cell I.ok.kind hk hc z (fun h' hc' hs => ?_)
    obtain ⟨oc, hoc, hocd⟩ := id z
    refine h { s with heap := h' } ⟨I.ok, I.os, I.bare, ⟨fun b o e n hb hx => ?_, fun b o e n hb hx => ?_, I.base.free, fun b o e hx => ?_, I.base.tups, I.base.frzs, I.base.tbls⟩, ⟨m, hn.sameBut hs (Ne.symm (cne x c hc)), fun j y v' e1 e2 e3 => ?_⟩, fun y c' e => ?_, I.free, I.freeC, fun p hp => ?_, tracked ⟨oc, hoc, I.freeC x c hc⟩ hs, by simpa using I.len⟩ ⟨c, hs, .inr hc⟩
    · exact (hs.2 b (Nat.ne_of_lt (Nat.lt_of_lt_of_le (Heap.lt_size e) (I.ok.cab x c hfn hc)))).trans (I.base.keep b o e n hb hx)
    · obtain ⟨sl, e1⟩ := I.base.slot b o e n hb hx
      exact ⟨sl, (hs.2 b (Nat.ne_of_lt (Nat.lt_of_lt_of_le (Heap.lt_size e) (I.ok.cab x c hfn hc)))).trans e1⟩
    · obtain ⟨o', e1⟩ := I.base.there b o e hx
      exact ⟨o', (hs.2 b (Nat.ne_of_lt (Nat.lt_of_lt_of_le (Heap.lt_size e) (I.ok.cab x c hfn hc)))).trans e1⟩
    · by_cases hj : j = i
      · subst hj
        rw [hi] at e1; cases e1
        rw [List.getElem?_set_self hiσ] at e2
        cases e2
        exact ⟨u, r, .inr ⟨.inl hk, c, hc, hc'⟩⟩
      · rw [List.getElem?_set_ne (Ne.symm hj)] at e2
        obtain ⟨u', r', q⟩ := hl j y v' e1 e2 e3
        refine ⟨u', r', ?_⟩
        rcases q with q | ⟨k, c', e, z'⟩
        · exact .inl q
        · refine .inr ⟨k, c', e, z'.sameBut hs ?_⟩
          rintro rfl
          exact hj (nodup_ix hN e1 (I.ok.inj _ _ _ e hc ▸ hi))
    · by_cases hcc : c' = c
      · subst hcc; exact ⟨_, hc'⟩
      · obtain ⟨w2, z2⟩ := I.cell y c' e
        exact ⟨w2, z2.sameBut hs hcc⟩
    · obtain ⟨e, n, ne, nf, d⟩ := I.pin p hp
      refine ⟨(hs.2 p.1 ?_).trans e, n, ne, nf, d⟩
      intro q
      rw [q, hoc] at e
      have q' : oc = p.2 := Option.some.inj e
      exact d w' (by rw [← q']; exact hocd)
theorem store_ok {M : Model} {A : Around} {E : Value → Shared → Prop} {i : Nat} {x : Str} {v : V} {u : Value} {Q : Unit → Shared → Prop} (I : Inv X pins σ H s) (hN : X.N.Nodup) (hi : X.N[i]? = some x) (hx : Loc X.env.scope x) (r : RelV v u)
  (h : ∀ s', Inv X pins (σ.set i (some v)) H s' → Q () s') (hf : X.fn x = true ∨ X.env.scope.names.lookup x = some .local := by first | exact .inl rfl | exact .inr rfl | assumption) : wpAny M A (storeName X.env x u) Q E s :=
 store_ok2 I hN hi hx r (fun s' I' _ => h s' I') hf
theorem Inv.call' {s' : Shared} {ch : List Addr} (I : Inv X pins σ H s) (ho : s'.os = s.os) (u : Un (frs X.stack) ch H H' s.heap s'.heap) (hok : HOk X.prog X.w H' s'.heap) (hg : AllBare s'.gens)
  (hch : ∀ b ∈ ch, (b ∈ X.ex ∨ X.s₀.heap.objs.size ≤ b) ∧ b ≠ X.env.locals ∧ (∀ x c, X.env.cells.lookup x = some c → c ≠ b) ∧ ∀ p ∈ X.pn ++ pins, p.1 ≠ b) : Inv X pins σ H' s' := by
 obtain ⟨h', g', d', t', o'⟩ := s'
 have e : o' = s.os := ho
 subst e
 exact I.call (g' := g') (t' := t') (d' := d') u hok hg hch
end
abbrev XK := Value → Option Addr → Hp → Prop
abbrev St := List (Option V)
abbrev VK := V → Hp → Prop
abbrev TE := St → Hp → VK → Prop
abbrev TT := St → Hp → (Bool → Hp → Prop) → Prop
abbrev TA := St → Hp → (List V → Hp → Prop) → Prop
structure Ends where
 nx : St → Hp → Prop
 rt : VK
 bk : St → Hp → Prop := fun _ _ => False
 ct : St → Hp → Prop := fun _ _ => False
abbrev TS := Ends → St → Hp → Prop
def EP (X : Cx) (pins : List (Addr × Obj)) (σ : St) (Q : VK) (u : Value) (s' : Shared) : Prop := ∃ v H', Inv X pins σ H' s' ∧ RelV v u ∧ Q v H'
def TP (X : Cx) (pins : List (Addr × Obj)) (σ : St) (Q : Bool → Hp → Prop) (b : Bool) (s' : Shared) : Prop := ∃ H', Inv X pins σ H' s' ∧ Q b H'
def AP (X : Cx) (pins : List (Addr × Obj)) (σ : St) (Q : List V → Hp → Prop) (us : List Value) (s' : Shared) : Prop := ∃ vs H', Inv X pins σ H' s' ∧ Vals vs us ∧ Q vs H'
def SP (X : Cx) (pins : List (Addr × Obj)) (D : Ends) (f : Flow) (s' : Shared) : Prop :=
 match f with
 | .next => ∃ σ' H', Inv X pins σ' H' s' ∧ D.nx σ' H'
 | .brk => ∃ σ' H', Inv X pins σ' H' s' ∧ D.bk σ' H'
 | .cont => ∃ σ' H', Inv X pins σ' H' s' ∧ D.ct σ' H'
 | .ret u => ∃ v σ' H', Inv X pins σ' H' s' ∧ RelV v u ∧ D.rt v H'
def PE (X : Cx) (e : Expr) (t : TE) : Prop :=
 ∀ (pins : List (Addr × Obj)) (s : Shared) (σ : St) (H : Hp) (Q : VK), Inv X pins σ H s → t σ H Q → wpAny (model X.prog X.w) X.A (eval e X.env) (EP X pins σ Q) X.xe s
def PT (X : Cx) (e : Expr) (t : TT) : Prop :=
 ∀ (pins : List (Addr × Obj)) (s : Shared) (σ : St) (H : Hp) (Q : Bool → Hp → Prop), Inv X pins σ H s → t σ H Q → wpAny (model X.prog X.w) X.A (isTrue e X.env (eval e X.env)) (TP X pins σ Q) X.xe s
def PW (X : Cx) (e : Expr) (t : TT) : Prop :=
 ∀ (whole : Sem Value) (pins : List (Addr × Obj)) (s : Shared) (σ : St) (H : Hp) (Q : Bool → Hp → Prop), Inv X pins σ H s → t σ H Q → wpAny (model X.prog X.w) X.A (isTrue e X.env whole) (TP X pins σ Q) X.xe s
theorem PW.pt {X : Cx} {e : Expr} {t : TT} (h : PW X e t) : PT X e t := h _
def PA (X : Cx) (es : List Expr) (t : TA) : Prop :=
 ∀ (pos : Pos) (pins : List (Addr × Obj)) (s : Shared) (σ : St) (H : Hp) (Q : List V → Hp → Prop), Inv X pins σ H s → t σ H Q → wpAny (model X.prog X.w) X.A (spliced (backTo pos (starEach es X.env))) (AP X pins σ Q) X.xe s
def PS (X : Cx) (st : Stmt) (t : TS) : Prop :=
 ∀ (pins : List (Addr × Obj)) (s : Shared) (σ : St) (H : Hp) (D : Ends), Inv X pins σ H s → t D σ H → wpAny (model X.prog X.w) X.A (exec st X.env) (SP X pins D) X.xe s
def PSs (X : Cx) (st : List Stmt) (t : TS) : Prop :=
 ∀ (pins : List (Addr × Obj)) (s : Shared) (σ : St) (H : Hp) (D : Ends), Inv X pins σ H s → t D σ H → wpAny (model X.prog X.w) X.A (execs st X.env) (SP X pins D) X.xe s
theorem thn {α : Type} {t : Sem α} {Q Q' : α → Shared → Prop} {M : Model} {A : Around} {E : Value → Shared → Prop} {s : Shared} (h : wpAny M A t Q E s) (hQ : ∀ a s, Q a s → Q' a s) : wpAny M A t Q' E s := wpAny_mono h hQ fun _ _ x => x
end L2
namespace L2
open PySem PySem.Spec PyProof.Rows
section
variable {X : Cx}
def tVar (i : Nat) : TE := fun σ H Q => ∃ v, σ[i]? = some (some v) ∧ Q v H
def tC (v : V) : TE := fun _ H Q => Q v H
theorem pe_var {i : Nat} {x : Str} {pos : Pos} (hN : X.N[i]? = some x) (hv : Vis X.env.scope x) (hd : (x == ("__debug__" : Str)) = false := by decide) (hcd : (x == ("__classdict__" : Str)) = false := by decide) : PE X (.Name x pos) (tVar i) := by
 intro pins s σ H Q I h
 obtain ⟨v, e, h⟩ := h
 obtain ⟨m, hn, hl⟩ := I.loc
 obtain ⟨u, r, l⟩ := hl i x v hN e hv
 have fin : EP X pins σ Q u s := ⟨v, H, I, r, h⟩
 rcases l with ⟨hk, hm⟩ | ⟨hk, c, hc, hcell⟩
 ·exact wpAny_Name (wpAny_loadName_local I.ok.kind hk hn hm fin) hd
 ·rcases hk with hk | hk
  ·exact wpAny_Name (wpAny_loadName_cell I.ok.kind hk hc hcell fin) hd
  ·exact wpAny_Name (wpAny_loadName_free I.ok.kind hk hc hcell fin hcd) hd
theorem pe_int {i j pos} : PE X (.Constant (.int i) j pos) (tC (.int i)) := fun _ _ _ H _ I h => wpAny_Constant_int ⟨.int i, H, I.tok _, ⟨_, rfl⟩, h⟩
theorem pe_bl {b j pos} : PE X (.Constant (.bool b) j pos) (tC (.bl b)) := fun _ _ _ H _ I h => Constant_bool ⟨.bl b, H, I, rfl, h⟩
theorem pe_non {j pos} : PE X (.Constant .none j pos) (tC .non) := fun _ _ _ H _ I h => Constant_none ⟨.non, H, I, rfl, h⟩
theorem pe_str {x j pos} : PE X (.Constant (.str x) j pos) (tC (.str x)) := fun _ _ _ H _ I h => Calls.Constant_str ⟨.str x, H, I.tok _, ⟨_, rfl⟩, h⟩
def Gl (X : Cx) (x : Str) : Prop := X.env.kindOf x = some .globalImplicit
theorem ld_glob {E : Value → Shared → Prop} {pins : List (Addr × Obj)} {s : Shared} {σ : St} {H : Hp} {x : Str} {u : Value} {pos : Pos} {Q : Value → Shared → Prop} (I : Inv X pins σ H s) (hg : Gl X x) (hm : X.mg x = some u) (h : Q u s)
  (hd : (x == ("__debug__" : Str)) = false := by decide) : wpAny (model X.prog X.w) X.A (eval (.Name x pos) X.env) Q E s :=
 Calls.Name_function_global I.ok.kind hg (Calls.loadGlobal_global (by rw [I.ok.glob]; exact I.mod.glob.keeps I.bk) hm h) hd
theorem ld_blt {E : Value → Shared → Prop} {pins : List (Addr × Obj)} {s : Shared} {σ : St} {H : Hp} {x : Str} {u : Value} {pos : Pos} {Q : Value → Shared → Prop} (I : Inv X pins σ H s) (hg : Gl X x) (hm : X.mg x = none) (hv : bootBuiltins x = some u) (h : Q u s)
  (hn : x ≠ "__name__" := by decide) (hd : (x == ("__debug__" : Str)) = false := by decide) : wpAny (model X.prog X.w) X.A (eval (.Name x pos) X.env) Q E s := by
 obtain ⟨mb, h1, h2⟩ := I.mod.blt
 exact Calls.Name_function_global I.ok.kind hg (Calls.loadGlobal_builtin (by rw [I.ok.glob]; exact I.mod.glob.keeps I.bk) hm (by rw [I.ok.blt]; exact h1.keeps I.bk) ((h2 x hn).trans hv) h) hd
theorem pe_glob {x : Str} {v : V} {u : Value} {pos : Pos} (hg : Gl X x) (hm : X.mg x = some u) (r : RelV v u) (hd : (x == ("__debug__" : Str)) = false := by decide) : PE X (.Name x pos) (tC v) :=
 fun _ _ _ H _ I h => ld_glob I hg hm ⟨v, H, I, r, h⟩ hd
theorem pe_bltn {x : Str} {v : V} {u : Value} {pos : Pos} (hg : Gl X x) (hm : X.mg x = none) (hv : bootBuiltins x = some u) (r : RelV v u) (hn : x ≠ "__name__" := by decide) (hd : (x == ("__debug__" : Str)) = false := by decide) : PE X (.Name x pos) (tC v) :=
 fun _ _ _ H _ I h => ld_blt I hg hm hv ⟨v, H, I, r, h⟩ hn hd
variable {a b : Expr} {ta tb : TE} {pos : Pos}
variable {tA tB' : TT} {rest : List Expr}
def tAnd (t u : TT) : TT := fun σ H Q => t σ H fun c H1 => if c = true then u σ H1 Q else Q false H1
def tOr (t u : TT) : TT := fun σ H Q => t σ H fun c H1 => if c = true then Q true H1 else u σ H1 Q
def tNot (t : TT) : TT := fun σ H Q => t σ H fun c H1 => Q (!c) H1
theorem pw_and1 (ha : PT X a tA) : PW X (.BoolOp .And [a] pos) tA := by
 intro wh pins s σ H Q I h
 refine isTrue_and (thn (ha pins s σ H Q I h) fun c s1 e => ?_)
 cases c with
 | true => exact isTrue_and_nil e
 | false => exact e
theorem pw_or1 (ha : PT X a tA) : PW X (.BoolOp .Or [a] pos) tA := by
 intro wh pins s σ H Q I h
 refine isTrue_or (thn (ha pins s σ H Q I h) fun c s1 e => ?_)
 cases c with
 | false => exact isTrue_or_nil e
 | true => exact e
theorem pw_and (ha : PT X a tA) (hb : PW X (.BoolOp .And (b :: rest) pos) tB') : PW X (.BoolOp .And (a :: b :: rest) pos) (tAnd tA tB') := by
 intro wh pins s σ H Q I h
 refine isTrue_and (thn (ha pins s σ H _ I h) fun c s1 ⟨H1, I1, q1⟩ => ?_)
 cases c with
 | true => exact hb wh pins s1 σ H1 Q I1 q1
 | false => exact ⟨H1, I1, q1⟩
theorem pw_or (ha : PT X a tA) (hb : PW X (.BoolOp .Or (b :: rest) pos) tB') : PW X (.BoolOp .Or (a :: b :: rest) pos) (tOr tA tB') := by
 intro wh pins s σ H Q I h
 refine isTrue_or (thn (ha pins s σ H _ I h) fun c s1 ⟨H1, I1, q1⟩ => ?_)
 cases c with
 | true => exact ⟨H1, I1, q1⟩
 | false => exact hb wh pins s1 σ H1 Q I1 q1
theorem pt_not (ha : PT X a tA) : PT X (.UnaryOp .Not a pos) (tNot tA) := by
 intro pins s σ H Q I h
 exact isTrue_not (ha pins s σ H (fun c H1 => Q (!c) H1) I h)
def tAndV (ta tb : TE) : TE := fun σ H Q => ta σ H fun x H1 => ∃ c, x = .bl c ∧ if c = true then tb σ H1 Q else Q (.bl false) H1
theorem pe_one {op} {t : TE} (h : PE X a t) : PE X (.BoolOp op [a] pos) t := fun pins s σ H Q I hw => BoolOp_one (h pins s σ H Q I hw)
theorem pe_and (ha : PE X a ta) (hb : PE X (.BoolOp .And (b :: rest) pos) tb) : PE X (.BoolOp .And (a :: b :: rest) pos) (tAndV ta tb) := by
 intro pins s σ H Q I h
 refine BoolOp_and (thn (ha pins s σ H _ I h) fun v s1 ⟨x, H1, I1, r1, q1⟩ => ?_)
 obtain ⟨c, rfl, q1⟩ := q1
 cases r1
 refine wpAny_truthy_bool ?_
 cases c with
 | true => exact hb pins s1 σ H1 Q I1 q1
 | false => exact ⟨.bl false, H1, I1, rfl, q1⟩
def tIf (t : TT) (ta tb : TE) : TE := fun σ H Q => t σ H fun c H1 => if c = true then ta σ H1 Q else tb σ H1 Q
theorem pe_ifExp {c : Expr} (hc : PT X c tA) (ha : PE X a ta) (hb : PE X b tb) : PE X (.IfExp c a b pos) (tIf tA ta tb) := by
 intro pins s σ H Q I h
 refine wpAny_IfExp (thn (hc pins s σ H _ I h) fun d s1 ⟨H1, I1, q1⟩ => ?_)
 cases d with
 | true => exact ha pins s1 σ H1 Q I1 q1
 | false => exact hb pins s1 σ H1 Q I1 q1
end
end L2
namespace L2
open PySem PySem.Spec PyProof.Rows
def SqL (K : PySem.W.Frag) (H : Hp) (a : Addr) (xs : List V) : Prop :=
 Rd H a (.lst xs) ∨
  ∃ (o : Obj) (its : Array Value) (n : Nat), K.lookup a = some o ∧ o.cls = .type "list" ∧ o.dict = none ∧ o.data = .seq its n ∧ its.size ≤ sizeLine ∧ Vals xs its.toList
def SqT (K : PySem.W.Frag) (H : Hp) (a : Addr) (xs : List V) : Prop :=
 Rd H a (.tup xs) ∨
  ∃ (o : Obj) (its : Array Value) (n : Nat), K.lookup a = some o ∧ o.cls = .type "tuple" ∧ o.data = .seq its n ∧ its.size ≤ sizeLine ∧ Vals xs its.toList
def absV : Value → Option V
 | .none => some .non
 | .bool b => some (.bl b)
 | .int i _ => some (.int i)
 | .str x _ => some (.str x)
 | .bytes b _ => some (.byt b)
 | .float b _ => some (.flt b)
 | .ref a => some (.ref a)
 | .type n => some (.ty n)
 | _ => none
theorem RelV.abs {x : V} {u : Value} (r : RelV x u) : absV u = some x := by
 cases x with
 | non => cases r; rfl
 | bl _ => cases r; rfl
 | int _ => obtain ⟨t, rfl⟩ := r; rfl
 | str _ => obtain ⟨t, rfl⟩ := r; rfl
 | byt _ => obtain ⟨t, rfl⟩ := r; rfl
 | flt _ => obtain ⟨t, rfl⟩ := r; rfl
 | ref _ => cases r; rfl
 | ty _ => cases r; rfl
theorem RelV.inj {x y : V} {u : Value} (r : RelV x u) (q : RelV y u) : x = y := Option.some.inj (r.abs.symm.trans q.abs)
theorem Vals.inj : ∀ {xs ys : List V} {us : List Value}, Vals xs us → Vals ys us → xs = ys
 | _, _, _, .nil, .nil => rfl
 | _, _, _, .cons r t, .cons r' t' => by rw [r.inj r', Vals.inj t t']
section
variable {X : Cx} {pins : List (Addr × Obj)} {σ : St} {H : Hp} {s : Shared} {a : Addr} {xs ys : List V}
theorem SqT.of {K : PySem.W.Frag} (h : H a = some (.tup xs)) : SqT K H a xs := .inl (.inl h)
theorem Inv.list (I : Inv X pins σ H s) (h : SqL X.K H a xs) : ∃ its : List Value, Vals xs its ∧ PlainL s.heap a its.toArray ∧ xs.length ≤ sizeLine := by
 rcases h with h | ⟨o, its, n, hk, hc, hd, hs, hz, r⟩
 ·obtain ⟨z, its, n, r, e⟩ := h.ok I.hok
  exact ⟨its, r, ⟨_, n, e, rfl, rfl, rfl⟩, z⟩
 ·refine ⟨its.toList, r, ⟨o, n, I.kIn a o hk, hc, hd, by simpa using hs⟩, ?_⟩
  have e := r.length
  simp only [Array.length_toList] at e
  omega
theorem Inv.tuple (I : Inv X pins σ H s) (h : SqT X.K H a xs) : ∃ its : List Value, Vals xs its ∧ IsTup s.heap a its.toArray ∧ xs.length ≤ sizeLine := by
 rcases h with h | ⟨o, its, n, hk, hc, hs, hz, r⟩
 ·obtain ⟨z, its, r, p⟩ := h.ok I.hok
  exact ⟨its, r, p, z⟩
 ·refine ⟨its.toList, r, ⟨o, I.kIn a o hk, hc, n, by simpa using hs⟩, ?_⟩
  have e := r.length
  simp only [Array.length_toList] at e
  omega
theorem Inv.list_inj (I : Inv X pins σ H s) (h : SqL X.K H a xs) (h' : SqL X.K H a ys) : xs = ys := by
 obtain ⟨its, r, ⟨o, n, e, _, _, d⟩, _⟩ := I.list h
 obtain ⟨its', r', ⟨o', n', e', _, _, d'⟩, _⟩ := I.list h'
 rw [e] at e'; cases e'
 rw [d] at d'
 injection d' with d1 _
 have : its = its' := by simpa using congrArg Array.toList d1
 subst this
 exact r.inj r'
theorem Inv.tuple_inj (I : Inv X pins σ H s) (h : SqT X.K H a xs) (h' : SqT X.K H a ys) : xs = ys := by
 obtain ⟨its, r, ⟨o, e, _, n, d⟩, _⟩ := I.tuple h
 obtain ⟨its', r', ⟨o', e', _, n', d'⟩, _⟩ := I.tuple h'
 rw [e] at e'; cases e'
 rw [d] at d'
 injection d' with d1 _
 have : its = its' := by simpa using congrArg Array.toList d1
 subst this
 exact r.inj r'
end
abbrev Cx.wish (X : Cx) (E : Value → Shared → Prop) : Cx := { X with xe := E }
abbrev Cx.nox (X : Cx) : Cx := X.wish fun _ _ => False
theorem Cx.Ok.wish {X : Cx} (ok : X.Ok) (E : Value → Shared → Prop) : (X.wish E).Ok :=
 ⟨ok.mod, ok.kind, ok.glob, ok.blt, ok.above, ok.inj, ok.has, ok.cab, ok.hd, ok.frames, ok.stk, ok.exf, ok.bs, ok.bsz, ok.noex, ok.exfs, ok.funs, ok.frf⟩
theorem Cx.Ok.unwish {X : Cx} {E : Value → Shared → Prop} (ok : (X.wish E).Ok) : X.Ok :=
 ⟨ok.mod, ok.kind, ok.glob, ok.blt, ok.above, ok.inj, ok.has, ok.cab, ok.hd, ok.frames, ok.stk, ok.exf, ok.bs, ok.bsz, ok.noex, ok.exfs, ok.funs, ok.frf⟩
section
variable {X : Cx} {pins : List (Addr × Obj)} {σ : St} {H : Hp} {s : Shared} {E : Value → Shared → Prop}
theorem Inv.wish (I : Inv X pins σ H s) (E : Value → Shared → Prop) : Inv (X.wish E) pins σ H s := ⟨I.ok.wish E, I.os, I.bare, I.base, I.loc, I.cell, I.free, I.freeC, I.pin, I.hok, I.len⟩
theorem Inv.unwish (I : Inv (X.wish E) pins σ H s) : Inv X pins σ H s := ⟨I.ok.unwish, I.os, I.bare, I.base, I.loc, I.cell, I.free, I.freeC, I.pin, I.hok, I.len⟩
theorem SP.unwish {D : Ends} {f : Flow} {s' : Shared} (h : SP (X.wish E) pins D f s') : SP X pins D f s' := by
 cases f with
 | next => obtain ⟨σ', H', I, q⟩ := h; exact ⟨σ', H', I.unwish, q⟩
 | brk => obtain ⟨σ', H', I, q⟩ := h; exact ⟨σ', H', I.unwish, q⟩
 | cont => obtain ⟨σ', H', I, q⟩ := h; exact ⟨σ', H', I.unwish, q⟩
 | ret u => obtain ⟨v, σ', H', I, r, q⟩ := h; exact ⟨v, σ', H', I.unwish, r, q⟩
theorem PSs.nox {st : List Stmt} {t : TS} (h : PSs X.nox st t) : PSs X st t := fun pins s σ H D I hw =>
 wpAny_mono (h pins s σ H D (I.wish _) hw) (fun _ _ q => q.unwish) fun _ _ z => False.elim z
end
section
variable {X : Cx} {st : Stmt} {rest : List Stmt} {t u : TS} {e : Expr} {te : TE} {pos : Pos}
def tNext : TS := fun D σ H => D.nx σ H
def tSeq (t u : TS) : TS := fun D σ H => t { D with nx := u D } σ H
theorem pss_nil : PSs X [] tNext := fun _ _ σ H _ I h => wpAny_execs_nil ⟨σ, H, I, h⟩
theorem pss_cons (h1 : PS X st t) (h2 : PSs X rest u) : PSs X (st :: rest) (tSeq t u) := by
  intro pins s σ H D I h
  refine wpAny_execs_cons (thn (h1 pins s σ H { D with nx := u D } I h) fun f s1 q => ?_)
  cases f with
  | next =>
    obtain ⟨σ', H', I', q⟩ := q
    exact h2 pins s1 σ' H' D I' q
  | ret v => exact q
  | brk => exact q
  | cont => exact q
theorem pss_one (h1 : PS X st t) : PSs X [st] t := by
 intro pins s σ H D I h
 refine wpAny_execs_cons (thn (h1 pins s σ H D I h) fun f s1 q => ?_)
 cases f with
 | next => exact wpAny_execs_nil q
 | ret v => exact q
 | brk => exact q
 | cont => exact q
theorem Inv.quiet {pins : List (Addr × Obj)} {σ : St} {H : Hp} {s : Shared} (I : Inv X pins σ H s) : interactive X.env = false := by simp [interactive, I.ok.kind]
def tDrop (te : TE) : TS := fun D σ H => te σ H fun _ H1 => D.nx σ H1
theorem ps_expr (he : PE X e te) (hs : swapsWith e none pos.line X.env = pure false := by rfl) : PS X (.Expr e pos) (tDrop te) := by
 intro pins s σ H D I h
 exact wpAny_Expr_any (thn (he pins s σ H _ I h) fun v s1 ⟨x, H1, I1, r1, q1⟩ => ⟨σ, H1, I1, q1⟩) I.quiet hs
def tRet (te : TE) : TS := fun D σ H => te σ H D.rt
theorem ps_ret (he : PE X e te) : PS X (.Return (some e) pos) (tRet te) := by
 intro pins s σ H D I h
 exact wpAny_Return_some (thn (he pins s σ H _ I h) fun v s1 ⟨x, H1, I1, r1, q1⟩ => ⟨x, σ, H1, I1, r1, q1⟩)
def tIfS (c : TT) (t u : TS) : TS := fun D σ H => c σ H fun b H1 => if b = true then t D σ H1 else u D σ H1
theorem ps_if {c : Expr} {a b : List Stmt} {tc : TT} (hc : PT X c tc) (ha : PSs X a t) (hb : PSs X b u) : PS X (.If c a b pos) (tIfS tc t u) := by
 intro pins s σ H D I h
 refine wpAny_If (thn (hc pins s σ H _ I h) fun d s1 ⟨H1, I1, q1⟩ => ?_)
 cases d with
 | true => exact ha pins s1 σ H1 D I1 q1
 | false => exact hb pins s1 σ H1 D I1 q1
end
abbrev TG := V → St → Hp → (St → Hp → Prop) → Prop
abbrev TGs := List V → St → Hp → (St → Hp → Prop) → Prop
def PG (X : Cx) (target : Expr) (t : TG) : Prop :=
 ∀ (pins : List (Addr × Obj)) (s : Shared) (σ : St) (H : Hp) (v : V) (u : Value) (Q : St → Hp → Prop), Inv X pins σ H s → RelV v u → t v σ H Q →
  wpAny (model X.prog X.w) X.A (assign target X.env u) (fun _ s' => ∃ σ' H', Inv X pins σ' H' s' ∧ Q σ' H') X.xe s
def PGs (X : Cx) (ts : List Expr) (t : TGs) : Prop :=
 ∀ (pins : List (Addr × Obj)) (s : Shared) (σ : St) (H : Hp) (vs : List V) (us : List Value) (Q : St → Hp → Prop), Inv X pins σ H s → Vals vs us → t vs σ H Q →
  wpAny (model X.prog X.w) X.A (assignInOrder ((assignEach ts X.env).map (·.2)) us) (fun _ s' => ∃ σ' H', Inv X pins σ' H' s' ∧ Q σ' H') X.xe s
section
variable {X : Cx} {pos : Pos}
def gName (i : Nat) : TG := fun v σ H Q => Q (σ.set i (some v)) H
theorem pg_name {i : Nat} {x : Str} (hN : X.N.Nodup) (hi : X.N[i]? = some x) (hx : Loc X.env.scope x) (hf : X.fn x = true ∨ X.env.scope.names.lookup x = some .local := by first | exact .inl rfl | exact .inr rfl | assumption) : PG X (.Name x pos) (gName i) := by
 intro pins s σ H v u Q I r h
 exact wpAny_assign_Name (store_ok I hN hi hx r (fun s' I' => ⟨_, H, I', h⟩) hf)
def gNil : TGs := fun vs σ H Q => vs = [] ∧ Q σ H
def gCons (t : TG) (u : TGs) : TGs := fun vs σ H Q => ∃ v r, vs = v :: r ∧ t v σ H fun σ' H' => u r σ' H' Q
theorem pgs_nil : PGs X [] gNil := by
 intro pins s σ H vs us Q I r h
 obtain ⟨e, h⟩ := h
 subst e
 cases r
 exact assignInOrder_nil ⟨σ, H, I, h⟩
theorem pgs_cons {e : Expr} {es : List Expr} {t : TG} {u : TGs} (h1 : PG X e t) (h2 : PGs X es u)
    (hs : (assignEach (e :: es) X.env).map (·.2) = assign e X.env :: (assignEach es X.env).map (·.2) := by rfl) : PGs X (e :: es) (gCons t u) := by
  intro pins s σ H vs us Q I r h
  obtain ⟨v, vr, e1, h⟩ := h
  subst e1
  cases r with
  | cons r rr =>
    rw [hs]
    refine assignInOrder_cons (thn (h1 pins s σ H _ _ _ I r h) fun _ s1 ⟨σ1, H1, I1, q1⟩ => ?_)
    exact h2 pins s1 σ1 H1 _ _ Q I1 rr q1
def gTup (K : PySem.W.Frag) (n : Nat) (t : TGs) : TG := fun v σ H Q => ∃ a xs, v = .ref a ∧ SqT K H a xs ∧ xs.length = n ∧ t xs σ H Q
theorem pg_tup {es : List Expr} {k : Nat} {t : TGs} {n : Nat} (hc : X.calm = true) (h : PGs X es t)
  (hn : (assignEach es X.env).length = n := by rfl) (hst : (assignEach es X.env).findIdx? (·.1) = none := by rfl) : PG X (.Tuple es k pos) (gTup X.K n t) := by
 intro pins s σ H v u Q I r hw
 obtain ⟨a, xs, e1, hq, hl, hw⟩ := hw
 subst e1
 cases r
 obtain ⟨its, rv, ht, hz⟩ := I.tuple hq
 refine assign_Tuple_tuple (I.ok.hd hc) ht (by simp [hn, ← hl, rv.length]) hst fun h' hx => ?_
 have I1 : Inv X pins σ H { s with heap := h' } := I.kept (t' := s.toks) fun b o e => hx b o (Nat.ne_of_lt (Heap.lt_size e)) e
 exact h pins _ σ H xs _ Q I1 (by simpa using rv) hw
def tAsg (te : TE) (g : TG) : TS := fun D σ H => te σ H fun x H1 => g x σ H1 D.nx
theorem ps_set {i : Nat} {x : Str} {e : Expr} {te : TE} {pos' : Pos} (hN : X.N.Nodup) (hi : X.N[i]? = some x) (hx : Loc X.env.scope x) (he : PE X e te) (hs : swapsWith e (some (.Name x pos')) pos.line X.env = pure false := by rfl) (hf : X.fn x = true ∨ X.env.scope.names.lookup x = some .local := by first | exact .inl rfl | exact .inr rfl | assumption) :
  PS X (.Assign [.Name x pos'] e pos) (tAsg te (gName i)) := by
 intro pins s σ H D I h
 refine wpAny_Assign_Name (thn (he pins s σ H _ I h) fun v s1 ⟨y, H1, I1, r1, q1⟩ => ?_) hs
 exact store_ok I1 hN hi hx r1 (fun s2 I2 => ⟨_, H1, I2, q1⟩) hf
end
section
variable {X : Cx} {pos : Pos}
def tWhile (c : TT) (tb : TS) : TS := fun D σ H => ∃ W : Nat → St → Hp → Prop, (∃ m, W m σ H) ∧ ∀ m σ H, W m σ H →
 c σ H fun b H1 => if b = true then ∃ N : St → Hp → Prop, (∀ σ' H', N σ' H' → ∃ m', m' < m ∧ W m' σ' H') ∧ tb { D with nx := N, ct := N, bk := D.nx } σ H1 else D.nx σ H1
theorem ps_while {c : Expr} {body : List Stmt} {tc : TT} {tb : TS} (hp : PassesOwn (model X.prog X.w) X.A X.env X.xe) (hc : PT X c tc) (hb : PSs X body tb) : PS X (.While c body [] pos) (tWhile tc tb) := by
  intro pins s σ H D I h
  obtain ⟨W, ⟨m0, w0⟩, turn⟩ := h
  refine wpAny_While (codeAny_whileLoop (fun n s' => ∃ σ' H', Inv X pins σ' H' s' ∧ W n σ' H') ?_ m0 ⟨σ, H, I, w0⟩)
  rintro n s1 ⟨σ1, H1, I1, w1⟩
  refine wpAny_passesOwn hp (thn (hc pins s1 σ1 H1 _ I1 (turn n σ1 H1 w1)) fun b s2 ⟨H2, I2, q2⟩ => ?_)
  cases b with
  | true =>
    obtain ⟨N, hN, q2⟩ := q2
    rw [if_pos rfl]
    refine wpAny_passesOwn hp (thn (hb pins s2 σ1 H2 _ I2 q2) fun f s3 q3 => ?_)
    cases f with
    | next =>
      obtain ⟨σ3, H3, I3, n3⟩ := q3
      obtain ⟨m', hm, w3⟩ := hN σ3 H3 n3
      exact ⟨m', hm, σ3, H3, I3, w3⟩
    | cont =>
      obtain ⟨σ3, H3, I3, n3⟩ := q3
      obtain ⟨m', hm, w3⟩ := hN σ3 H3 n3
      exact ⟨m', hm, σ3, H3, I3, w3⟩
    | brk => exact q3
    | ret v => exact q3
  | false =>
    rw [if_neg Bool.false_ne_true]
    exact wpAny_execs_nil ⟨σ1, H2, I2, q2⟩
end
structure It where
 go : Nat → Hp → Prop
 yld : Nat → Hp → V → Hp → Prop
 stop : Nat → Hp → Prop
def FpOk (X : Cx) (pins : List (Addr × Obj)) (H : Hp) (b : Addr) : Prop :=
 H b = none ∧ b ≠ X.env.locals ∧ b ∉ X.fs ∧ (b ∈ X.ex ∨ X.s₀.heap.objs.size ≤ b) ∧ (∀ x c, X.env.cells.lookup x = some c → c ≠ b) ∧ ∀ p ∈ X.pn ++ pins, p.1 ≠ b
theorem Inv.fpOk {X : Cx} {pins : List (Addr × Obj)} {σ : St} {H H' : Hp} {s : Shared} {b : Addr} (I : Inv X pins σ H s) (hb : s.heap.objs.size ≤ b) (hn : H' b = none) : FpOk X pins H' b := by
 refine ⟨hn, Nat.ne_of_gt (Nat.lt_of_lt_of_le I.lt hb), I.nofs hb, .inr (Nat.le_trans I.sz hb), fun x c e z => ?_, fun p hp z => ?_⟩
 ·obtain ⟨v, q⟩ := I.cell x c e
  exact absurd (Nat.lt_of_lt_of_le q.lt (by rw [z]; exact hb)) (Nat.lt_irrefl _)
 ·exact absurd (Nat.lt_of_lt_of_le (Heap.lt_size (I.pin p hp).1) (by rw [z]; exact hb)) (Nat.lt_irrefl _)
structure Turn (P : Program) (w : World) (K : PySem.W.Frag) (tg : Expr) (J : It) (fp : List Addr) (it : Addr) (tn : Nat → Heap → Prop) : Prop where
 mem : it ∈ fp
 obj : ∀ i h, tn i h → ∀ b ∈ fp, ∃ o, h.get? b = some o ∧ ∀ v, o.data ≠ .cell v
 keep : ∀ i h h', tn i h → (∀ b ∈ fp, ∀ o, h.get? b = some o → h'.get? b = some o) → tn i h'
 item : ∀ (X : Cx), X.prog = P → X.w = w → X.K = K → X.calm = true → ∀ (i : Nat) (pins : List (Addr × Obj)) (s : Shared) (σ : St) (H : Hp) (E : Value → Shared → Prop), Inv X pins σ H s → (∀ b ∈ fp, FpOk X pins H b) → tn i s.heap → J.go i H →
  wpAny (model P w) X.A (pyNext (.ref it)) (fun r s1 => ∃ u, r = some u ∧
   wpAny (model P w) X.A (letOwnedTupleGo tg (.ref it) u) (fun _ s2 => ∃ x H', Inv X pins σ H' s2 ∧ RelV x u ∧ J.yld i H x H' ∧ tn (i + 1) s2.heap ∧ ∀ b ∈ fp, H' b = none) E s1) E s
 done : ∀ (X : Cx), X.prog = P → X.w = w → X.K = K → X.calm = true → ∀ (i : Nat) (pins : List (Addr × Obj)) (s : Shared) (σ : St) (H : Hp) (E : Value → Shared → Prop), Inv X pins σ H s → (∀ b ∈ fp, FpOk X pins H b) → tn i s.heap → J.stop i H →
  wpAny (model P w) X.A (pyNext (.ref it)) (fun r s1 => r = none ∧ Inv X pins σ H s1) E s
 self : ∀ (A : Around) (i : Nat) (s : Shared) (Q : Value → Shared → Prop) (E : Value → Shared → Prop), tn i s.heap → Q (.ref it) s → wpAny (model P w) A (pyIter (.ref it)) Q E s
abbrev TI := St → Hp → (It → Hp → Prop) → Prop
def PIE (X : Cx) (pins : List (Addr × Obj)) (σ : St) (tg : Expr) (R : It → Hp → Prop) (itv : Value) (s2 : Shared) : Prop :=
 ∃ (it : Addr) (fp : List Addr) (tn : Nat → Heap → Prop) (J : It) (H' : Hp), itv = .ref it ∧ Inv X pins σ H' s2 ∧ Turn X.prog X.w X.K tg J fp it tn ∧ tn 0 s2.heap ∧ (∀ b ∈ fp, FpOk X pins H' b) ∧ R J H'
def PI (X : Cx) (tg iter : Expr) (wi : TI) : Prop :=
 ∀ (pins : List (Addr × Obj)) (s : Shared) (σ : St) (H : Hp) (R : It → Hp → Prop), Inv X pins σ H s → wi σ H R →
  wpAny (model X.prog X.w) X.A (eval iter X.env) (fun v s1 => wpAny (model X.prog X.w) X.A (pyIter v) (PIE X pins σ tg R) X.xe s1) X.xe s
theorem go_of {M : Model} {A : Around} {E : Value → Shared → Prop} {s : Shared} {tg : Expr} {it : Addr} {u : Value} {o : Obj} {n : String} {vs : Array Value} {Q : Unit → Shared → Prop} (ho : s.heap.get? it = some o) (hc : o.cls = .type n) (hd : o.data = .fields vs)
    (hn : ["enumerate", "zip", "dict_itemiterator", "dict_reverseitemiterator", "odict_iterator", "itertools.zip_longest", "itertools.pairwise"].contains n = false) (hQ : Q () s) : wpAny M A (letOwnedTupleGo tg (.ref it) u) Q E s := by
  unfold letOwnedTupleGo
  cases tg <;> first
    | exact wpAny_pure hQ
    | (cases u <;> first
        | exact wpAny_pure hQ
        | (refine wpAny_bind (wpAny_load ho ?_)
           rw [hc, hd]
           show wpAny M A (if (["enumerate", "zip", "dict_itemiterator", "dict_reverseitemiterator", "odict_iterator", "itertools.zip_longest", "itertools.pairwise"].contains n && vs[0]? == some (rawInt _)) = true then _ else _) Q E s
           rw [if_neg (by intro h; rw [hn, Bool.false_and] at h; cases h)]
           exact wpAny_pure hQ))
def Itl (K : PySem.W.Frag) (a : Addr) : It :=
 ⟨fun i H => ∃ xs x, SqL K H a xs ∧ xs[i]? = some x, fun i H x H' => H' = H ∧ ∀ xs, SqL K H a xs → xs[i]? = some x, fun i H => ∃ xs, SqL K H a xs ∧ xs.length ≤ i⟩
def Itt (K : PySem.W.Frag) (a : Addr) : It :=
 ⟨fun i H => ∃ xs x, SqT K H a xs ∧ xs[i]? = some x, fun i H x H' => H' = H ∧ ∀ xs, SqT K H a xs → xs[i]? = some x, fun i H => ∃ xs, SqT K H a xs ∧ xs.length ≤ i⟩
def Itr (lo : Int) (n : Nat) : It := ⟨fun i _ => i < n, fun i H x H' => H' = H ∧ x = .int (lo + i), fun i _ => n ≤ i⟩
theorem turn_list {P : Program} {w : World} {K : PySem.W.Frag} {tg : Expr} (a it : Addr) : Turn P w K tg (Itl K a) [it] it (fun i h => h.IsListIter it a i) where
 mem := by simp
 obj := fun i h st b hb => by
  have e : b = it := by simpa using hb
  subst e
  obtain ⟨o, e, c, d⟩ := st
  exact ⟨o, e, fun v z => by rw [d] at z; cases z⟩
 keep := fun i h h' st k => st.at fun o e => k it (by simp) o e
 item := by
  intro X hP hw hK hc i pins s σ H E I hf st hg
  subst hP hw hK
  obtain ⟨xs, x, hq, hx⟩ := hg
  obtain ⟨its, rv, p, hz⟩ := I.list hq
  obtain ⟨u, hu, ru⟩ := rv.get hx
  obtain ⟨f0, f1, f2, f3, f4, f5⟩ := hf it (by simp)
  refine wpAny_pyNext_list_item st p.isList (x := u) (by simpa using hu) fun h' st' sb => ?_
  have I1 : Inv X pins σ H { s with heap := h' } := I.turned (t' := s.toks) (fun b o hb e => (sb.2 b hb).trans e) f0 f1 f3 f4 f5
  obtain ⟨o, e, c, d⟩ := id st'
  exact ⟨u, rfl, go_of (s := { s with heap := h' }) e c d (by decide) ⟨x, H, I1, ru, ⟨rfl, fun ys hy => by rw [I.list_inj hy hq]; exact hx⟩, st', fun b hb => (hf b hb).1⟩⟩
 done := by
  intro X hP hw hK hc i pins s σ H E I hf st hg
  subst hP hw hK
  obtain ⟨xs, hq, hx⟩ := hg
  obtain ⟨its, rv, p, hz⟩ := I.list hq
  obtain ⟨f0, f1, f2, f3, f4, f5⟩ := hf it (by simp)
  have hl := rv.length
  exact wpAny_pyNext_list_end (I.ok.hd hc) st p.isList (by simp; omega) fun h' eb => ⟨rfl, I.turned (t' := s.toks) (fun b o hb e => eb b o hb e) f0 f1 f3 f4 f5⟩
 self := fun _ _ _ _ _ st h => wpAny_pyIter_listiter st h
theorem turn_tuple {P : Program} {w : World} {K : PySem.W.Frag} {tg : Expr} (a it : Addr) : Turn P w K tg (Itt K a) [it] it (fun i h => h.IsTupleIter it a i) where
 mem := by simp
 obj := fun i h st b hb => by
  have e : b = it := by simpa using hb
  subst e
  obtain ⟨o, e, c, d⟩ := st
  exact ⟨o, e, fun v z => by rw [d] at z; cases z⟩
 keep := fun i h h' st k => st.at fun o e => k it (by simp) o e
 item := by
  intro X hP hw hK hc i pins s σ H E I hf st hg
  subst hP hw hK
  obtain ⟨xs, x, hq, hx⟩ := hg
  obtain ⟨its, rv, p, hz⟩ := I.tuple hq
  obtain ⟨u, hu, ru⟩ := rv.get hx
  obtain ⟨f0, f1, f2, f3, f4, f5⟩ := hf it (by simp)
  refine wpAny_pyNext_tuple_item st (show s.heap.IsTuple a its.toArray from p) (x := u) (by simpa using hu) fun h' st' sb => ?_
  have I1 : Inv X pins σ H { s with heap := h' } := I.turned (t' := s.toks) (fun b o hb e => (sb.2 b hb).trans e) f0 f1 f3 f4 f5
  obtain ⟨o, e, c, d⟩ := id st'
  exact ⟨u, rfl, go_of (s := { s with heap := h' }) e c d (by decide) ⟨x, H, I1, ru, ⟨rfl, fun ys hy => by rw [I.tuple_inj hy hq]; exact hx⟩, st', fun b hb => (hf b hb).1⟩⟩
 done := by
  intro X hP hw hK hc i pins s σ H E I hf st hg
  subst hP hw hK
  obtain ⟨xs, hq, hx⟩ := hg
  obtain ⟨its, rv, p, hz⟩ := I.tuple hq
  obtain ⟨f0, f1, f2, f3, f4, f5⟩ := hf it (by simp)
  have hl := rv.length
  exact wpAny_pyNext_tuple_end (I.ok.hd hc) st (show s.heap.IsTuple a its.toArray from p) (by simp; omega) fun h' eb => ⟨rfl, I.turned (t' := s.toks) (fun b o hb e => eb b o hb e) f0 f1 f3 f4 f5⟩
 self := fun _ _ _ _ _ st h => wpAny_pyIter_tupleiter st h
theorem turn_range {P : Program} {w : World} {K : PySem.W.Frag} {tg : Expr} (it : Addr) (lo : Int) (n : Nat) : Turn P w K tg (Itr lo n) [it] it (fun i h => IsRangeIter h it (lo + (i : Nat) * 1) ((n : Int) - (i : Nat)) 1) where
 mem := by simp
 obj := fun i h st b hb => by
  have e : b = it := by simpa using hb
  subst e
  exact ⟨_, st, fun v z => by
   have z' : Data.fields _ = Data.cell v := z
   cases z'⟩
 keep := fun i h h' st k => k it (by simp) _ st
 item := by
  intro X hP hw hK hc i pins s σ H E I hf st hg
  subst hP hw hK
  obtain ⟨f0, f1, f2, f3, f4, f5⟩ := hf it (by simp)
  have W := Walks.range (prog := X.prog) (w := X.w) (I.ok.hd hc) it lo 1 n
  refine W.item i s _ _ hg st fun v h' tk hv st' kk => ?_
  obtain ⟨t, rfl⟩ := hv
  have I1 : Inv X pins σ H { s with heap := h', toks := tk } := I.turned (fun b o hb e => kk b o (by simpa using hb) e) f0 f1 f3 f4 f5
  refine ⟨_, rfl, go_of (s := { s with heap := h', toks := tk }) (n := "range_iterator") st' rfl rfl (by decide) ⟨.int (lo + i), H, I1, ⟨t, ?_⟩, ⟨rfl, rfl⟩, st', fun b hb => (hf b hb).1⟩⟩
  rw [Int.mul_one]
 done := by
  intro X hP hw hK hc i pins s σ H E I hf st hg
  subst hP hw hK
  obtain ⟨f0, f1, f2, f3, f4, f5⟩ := hf it (by simp)
  exact wpAny_pyNext_range_end (I.ok.hd hc) st (by have : n ≤ i := hg; omega) fun h' eb => ⟨rfl, I.turned (t' := s.toks) (fun b o hb e => eb b o hb e) f0 f1 f3 f4 f5⟩
 self := fun _ _ _ _ _ st h => wpAny_pyIter_rangeiter st h
end L2
namespace L2
open PySem PySem.Spec PyProof.Rows
section
variable {X : Cx} {tg : Expr}
def iList (K : PySem.W.Frag) (tl : TE) : TI := fun σ H R => tl σ H fun x H1 => ∃ a, x = .ref a ∧ (∃ xs, SqL K H1 a xs) ∧ R (Itl K a) H1
def iTup (K : PySem.W.Frag) (tl : TE) : TI := fun σ H R => tl σ H fun x H1 => ∃ a, x = .ref a ∧ (∃ xs, SqT K H1 a xs) ∧ R (Itt K a) H1
theorem pi_list {l : Expr} {tl : TE} (hl : PE X l tl) : PI X tg l (iList X.K tl) := by
 intro pins s σ H R I h
 refine thn (hl pins s σ H _ I h) fun v s1 ⟨x, H1, I1, r1, q1⟩ => ?_
 obtain ⟨a, e, ⟨xs, hq⟩, q⟩ := q1
 subst e
 cases r1
 obtain ⟨its, rv, p, hz⟩ := I1.list hq
 refine wpAny_pyIter_list p.isList ?_
 refine ⟨s1.heap.objs.size, [s1.heap.objs.size], _, _, H1, rfl, I1.kept (t' := s1.toks) fun b o e => Heap.get?_push_of_some _ e, turn_list a _, ⟨_, Heap.get?_push_size _ rfl, rfl, rfl⟩, fun b hb => ?_, q⟩
 have e : b = s1.heap.objs.size := by simpa using hb
 subst e
 exact I1.fpOk (Nat.le_refl _) (I1.hok.fresh (Nat.le_refl _))
theorem pi_tup {l : Expr} {tl : TE} (hl : PE X l tl) : PI X tg l (iTup X.K tl) := by
 intro pins s σ H R I h
 refine thn (hl pins s σ H _ I h) fun v s1 ⟨x, H1, I1, r1, q1⟩ => ?_
 obtain ⟨a, e, ⟨xs, hq⟩, q⟩ := q1
 subst e
 cases r1
 obtain ⟨its, rv, p, hz⟩ := I1.tuple hq
 refine wpAny_pyIter_tuple (show s1.heap.IsTuple a its.toArray from p) ?_
 refine ⟨s1.heap.objs.size, [s1.heap.objs.size], _, _, H1, rfl, I1.kept (t' := s1.toks) fun b o e => Heap.get?_push_of_some _ e, turn_tuple a _, ⟨_, Heap.get?_push_size _ rfl, rfl, rfl⟩, fun b hb => ?_, q⟩
 have e : b = s1.heap.objs.size := by simpa using hb
 subst e
 exact I1.fpOk (Nat.le_refl _) (I1.hok.fresh (Nat.le_refl _))
theorem range_it {pins : List (Addr × Obj)} {σ : St} {H : Hp} {s : Shared} {R : It → Hp → Prop} {E : Value → Shared → Prop} {lo hi : Int} {t u v : Tok} {tk : Nat} (I : Inv X pins σ H s) (h1 : -(2 ^ 62) ≤ lo) (h2 : lo < 2 ^ 62) (h3 : -(2 ^ 62) ≤ hi) (h4 : hi < 2 ^ 62)
  (q : R (Itr lo (hi - lo).toNat) H) : wpAny (model X.prog X.w) X.A (pyIter (.ref s.heap.objs.size)) (PIE X pins σ tg R) E { s with heap := s.heap.push { cls := .type "range", data := .fields #[.int lo t, .int hi u, .int 1 v] }, toks := tk } := by
 refine wpAny_pyIter_range (IsRange.new ..) (small_one h1 h2 h3 h4) ?_
 have I1 : Inv X pins σ H { s with heap := s.heap.push { cls := .type "range", data := .fields #[.int lo t, .int hi u, .int 1 v] }, toks := tk } := I.kept fun b o e => Heap.get?_push_of_some _ e
 refine ⟨(s.heap.push { cls := .type "range", data := .fields #[.int lo t, .int hi u, .int 1 v] }).objs.size, [(s.heap.push { cls := .type "range", data := .fields #[.int lo t, .int hi u, .int 1 v] }).objs.size], _, _, H, rfl,
  I1.kept (t' := tk) fun b o e => Heap.get?_push_of_some _ e, turn_range _ lo (hi - lo).toNat, ?_, fun b hb => ?_, q⟩
 ·have e1 : lo + ((0 : Nat) : Int) * 1 = lo := by simp
  have e2 : (((hi - lo).toNat : Nat) : Int) - ((0 : Nat) : Int) = Builtin.Range.rangeSize lo hi 1 := by rw [rangeSize_one]; split <;> omega
  show IsRangeIter _ _ (lo + ((0 : Nat) : Int) * 1) ((((hi - lo).toNat : Nat) : Int) - ((0 : Nat) : Int)) 1
  rw [e1, e2]
  exact Heap.get?_push_size _ rfl
 ·have e : b = (s.heap.push { cls := .type "range", data := .fields #[.int lo t, .int hi u, .int 1 v] }).objs.size := by simpa using hb
  subst e
  exact I1.fpOk (Nat.le_refl _) (I1.hok.fresh (Nat.le_refl _))
def iRng1 (ta : TA) : TI := fun σ H R => ta σ H fun vs H1 => ∃ j : Int, vs = [.int j] ∧ -(2 ^ 62) ≤ j ∧ j < 2 ^ 62 ∧ R (Itr 0 j.toNat) H1
def iRng2 (ta : TA) : TI := fun σ H R => ta σ H fun vs H1 => ∃ i j : Int, vs = [.int i, .int j] ∧ (-(2 ^ 62) ≤ i ∧ i < 2 ^ 62 ∧ -(2 ^ 62) ≤ j ∧ j < 2 ^ 62) ∧ R (Itr i (j - i).toNat) H1
theorem pi_range1 {a : Expr} {ta : TA} {p pos : Pos} (hg : Gl X "range") (hm : X.mg "range" = none) (ha : PA X [a] ta) (hs : starEach [a] X.env = [(false, eval a X.env)] := by rfl) : PI X tg (.Call (.Name "range" p) [a] [] pos) (iRng1 ta) := by
  intro pins s σ H R I h
  refine Call_ (ld_blt I hg hm boot_range (PyProof.Rows.callWith_type1 (thn (ha pos pins s σ H _ I h) fun us s1 ⟨vs, H1, I1, r1, q1⟩ => ?_) hs rfl))
  obtain ⟨j, e, q1, q2, q⟩ := q1
  subst e
  cases r1 with
  | cons r rr =>
    cases rr
    obtain ⟨t, rfl⟩ := r
    exact call_range_1 (range_it I1 (by omega) (by omega) q1 q2 (by simpa using q))
theorem pi_range2 {a b : Expr} {ta : TA} {p pos : Pos} (hg : Gl X "range") (hm : X.mg "range" = none) (ha : PA X [a, b] ta) (hs : starEach [a, b] X.env = [(false, eval a X.env), (false, eval b X.env)] := by rfl) (hs2 : starEach [b] X.env = [(false, eval b X.env)] := by rfl) :
    PI X tg (.Call (.Name "range" p) [a, b] [] pos) (iRng2 ta) := by
  intro pins s σ H R I h
  refine Call_ (ld_blt I hg hm boot_range (PyProof.Rows.callWith_type1 (thn (ha pos pins s σ H _ I h) fun us s1 ⟨vs, H1, I1, r1, q1⟩ => ?_) (by rw [hs, hs2]) (by rw [hs2]; rfl)))
  obtain ⟨i, j, e, ⟨q1, q2, q3, q4⟩, q⟩ := q1
  subst e
  cases r1 with
  | cons r rr =>
    cases rr with
    | cons r' rr =>
      cases rr
      obtain ⟨t, rfl⟩ := r
      obtain ⟨t', rfl⟩ := r'
      exact call_range_2 (range_it I1 q1 q2 q3 q4 q)
def tFor (wi : TI) (g : TG) (tb : TS) : TS := fun D σ H => wi σ H fun J H1 => ∃ W : Nat → Nat → St → Hp → Prop, (∃ m, W 0 m σ H1) ∧ ∀ i m σ H, W i m σ H →
 (J.stop i H ∧ D.nx σ H) ∨ (J.go i H ∧ ∃ N : St → Hp → Prop, (∀ σ' H', N σ' H' → ∃ m', m' < m ∧ W (i + 1) m' σ' H') ∧ ∀ x H', J.yld i H x H' → g x σ H' fun σ2 H2 => tb { D with nx := N, ct := N, bk := D.nx } σ2 H2)
def pinsAt (fp : List Addr) (h : Heap) : List (Addr × Obj) := fp.filterMap fun b => (h.get? b).map fun o => (b, o)
theorem mem_pinsAt {fp : List Addr} {h : Heap} {b : Addr} {o : Obj} (hb : b ∈ fp) (e : h.get? b = some o) : (b, o) ∈ pinsAt fp h := List.mem_filterMap.mpr ⟨b, hb, by rw [e]; rfl⟩
theorem of_pinsAt {fp : List Addr} {h : Heap} {p : Addr × Obj} (hp : p ∈ pinsAt fp h) : p.1 ∈ fp ∧ h.get? p.1 = some p.2 := by
  obtain ⟨b, hb, e⟩ := List.mem_filterMap.mp hp
  cases q : h.get? b with
  | none => rw [q] at e; cases e
  | some o =>
    rw [q] at e
    have e' : (b, o) = p := Option.some.inj e
    subst e'
    exact ⟨hb, q⟩
theorem Inv.pinned {pins : List (Addr × Obj)} {σ : St} {H : Hp} {s : Shared} {fp : List Addr} (I : Inv X pins σ H s) (hf : ∀ b ∈ fp, FpOk X pins H b) (ho : ∀ b ∈ fp, ∃ o, s.heap.get? b = some o ∧ ∀ v, o.data ≠ .cell v) : Inv X (pins ++ pinsAt fp s.heap) σ H s :=
 I.pins_of fun p hp => (List.mem_append.mp hp).elim (fun z => I.pin p (List.mem_append_right _ z)) fun z => by
  obtain ⟨hb, e⟩ := of_pinsAt z
  obtain ⟨f0, f1, f2, _⟩ := hf p.1 hb
  obtain ⟨o, e', d⟩ := ho p.1 hb
  rw [e] at e'; cases e'
  exact ⟨e, f0, f1, f2, d⟩
theorem Inv.unpinned {pins pl : List (Addr × Obj)} {σ : St} {H : Hp} {s : Shared} (I : Inv X (pins ++ pl) σ H s) : Inv X pins σ H s := I.pins_of fun p hp => I.pin p (List.mem_append_right _ (List.mem_append_left _ hp))
theorem ps_for {iter : Expr} {body : List Stmt} {wi : TI} {g : TG} {tb : TS} {pos : Pos} (hp : PassesOwn (model X.prog X.w) X.A X.env X.xe) (hc : X.calm = true) (hi : PI X tg iter wi) (hg : PG X tg g) (hb : PSs X body tb)
  (hs : ∀ x, foldedSetIterable iter X.env x = pure x := by intro _; rfl) : PS X (.For tg iter body [] pos) (tFor wi g tb) := by
 intro pins s σ H D I h
 refine wpAny_For (thn (hi pins s σ H _ I h) fun v s1 h1 => thn h1 fun itv s2 h2 => ?_) hs
 obtain ⟨it, fp, tn, J, H2, e, I2, T, st2, f2, W, ⟨m0, w0⟩, turn⟩ := h2
 subst e
 -- what stays true of the iterator's objects through the loop
 have stat : ∀ {H' : Hp}, (∀ b ∈ fp, H' b = none) → ∀ b ∈ fp, FpOk X pins H' b := fun hn b hb => ⟨hn b hb, (f2 b hb).2⟩
 refine codeAny_forLoop_any (fun n s' => ∃ i σ' H', Inv X pins σ' H' s' ∧ tn i s'.heap ∧ (∀ b ∈ fp, H' b = none) ∧ W i n σ' H') ?_ m0 ⟨0, σ, H2, I2, st2, fun b hb => (f2 b hb).1, w0⟩
 rintro n s3 ⟨i, σ3, H3, I3, st3, fr3, w3⟩
 rcases turn i n σ3 H3 w3 with ⟨stop, qn⟩ | ⟨go, N, hN, step⟩
 ·refine wpAny_passesOwn hp (thn (T.done X rfl rfl rfl hc i pins s3 σ3 H3 X.xe I3 (stat fr3) st3 stop) fun r s4 ⟨hr, I4⟩ => ?_)
  subst hr
  exact wpAny_execs_nil ⟨σ3, H3, I4, qn⟩
 ·refine wpAny_passesOwn hp (thn (T.item X rfl rfl rfl hc i pins s3 σ3 H3 X.xe I3 (stat fr3) st3 go) fun r s4 ⟨u, hr, h4⟩ => ?_)
  subst hr
  refine wpAny_passesOwn hp (thn h4 fun _ s5 ⟨x, H5, I5, r5, y5, st5, fr5⟩ => ?_)
  have I5' := I5.pinned (stat fr5) (T.obj _ _ st5)
  refine wpAny_passesOwn hp (thn (hg _ s5 σ3 H5 x u _ I5' r5 (step x H5 y5)) fun _ s6 ⟨σ6, H6, I6, q6⟩ => ?_)
  refine wpAny_passesOwn hp (thn (hb _ s6 σ6 H6 _ I6 q6) fun f s7 q7 => ?_)
  have again : ∀ {σ7 : St} {H7 : Hp}, Inv X (pins ++ pinsAt fp s5.heap) σ7 H7 s7 → N σ7 H7 → ∃ m, m < n ∧ ∃ i σ' H', Inv X pins σ' H' s7 ∧ tn i s7.heap ∧ (∀ b ∈ fp, H' b = none) ∧ W i m σ' H' := fun {σ7 H7} I7 n7 => by
   obtain ⟨m', hm, w7⟩ := hN σ7 H7 n7
   refine ⟨m', hm, i + 1, σ7, H7, I7.unpinned, T.keep _ _ _ st5 fun b hb o e => (I7.pin (b, o) (List.mem_append_right _ (List.mem_append_right _ (mem_pinsAt hb e)))).1, fun b hb => ?_, w7⟩
   obtain ⟨o, e, d⟩ := T.obj _ _ st5 b hb
   exact (I7.pin (b, o) (List.mem_append_right _ (List.mem_append_right _ (mem_pinsAt hb e)))).2.1
  cases f with
  | next => obtain ⟨σ7, H7, I7, n7⟩ := q7; exact again I7 n7
  | cont => obtain ⟨σ7, H7, I7, n7⟩ := q7; exact again I7 n7
  | brk => obtain ⟨σ7, H7, I7, q7⟩ := q7; exact ⟨σ7, H7, I7.unpinned, q7⟩
  | ret v => obtain ⟨x7, σ7, H7, I7, r7, q7⟩ := q7; exact ⟨x7, σ7, H7, I7.unpinned, r7, q7⟩
end
theorem while_by {c : TT} {tb : TS} {D : Ends} {σ : St} {H : Hp} (Pv : St → Hp → Prop) (μ : St → Hp → Nat) (h0 : Pv σ H)
  (hs : ∀ σ H, Pv σ H → c σ H fun b H1 => if b = true then tb { D with nx := fun σ' H' => Pv σ' H' ∧ μ σ' H' < μ σ H, ct := fun σ' H' => Pv σ' H' ∧ μ σ' H' < μ σ H, bk := D.nx } σ H1 else D.nx σ H1)
  (mono : ∀ σ H Q Q', (∀ b H1, Q b H1 → Q' b H1) → c σ H Q → c σ H Q') : tWhile c tb D σ H := by
 refine ⟨fun m σ H => m = μ σ H ∧ Pv σ H, ⟨_, rfl, h0⟩, ?_⟩
 rintro m σ H ⟨rfl, p⟩
 refine mono σ H _ _ (fun b H1 q => ?_) (hs σ H p)
 cases b with
 | true => exact ⟨_, fun σ' H' ⟨p', l⟩ => ⟨_, l, rfl, p'⟩, q⟩
 | false => exact q
end L2
namespace L2
open PySem PySem.Spec PyProof.Rows
abbrev R2 := V → V → Hp → VK → Prop
def OpR (X : Cx) (f : Value → Value → Sem Value) (r : R2) : Prop :=
 ∀ (pins : List (Addr × Obj)) (s : Shared) (σ : St) (H : Hp) (x y : V) (v u : Value) (Q : VK), Inv X pins σ H s → RelV x v → RelV y u → r x y H Q →
  wpAny (model X.prog X.w) X.A (f v u) (EP X pins σ Q) X.xe s
def UnR (X : Cx) (f : Value → Sem Value) (r : V → Hp → VK → Prop) : Prop :=
 ∀ (pins : List (Addr × Obj)) (s : Shared) (σ : St) (H : Hp) (x : V) (v : Value) (Q : VK), Inv X pins σ H s → RelV x v → r x H Q →
  wpAny (model X.prog X.w) X.A (f v) (EP X pins σ Q) X.xe s
def CallR (X : Cx) (f : Value) (r : List V → Hp → VK → Prop) : Prop :=
 ∀ (pins : List (Addr × Obj)) (s : Shared) (σ : St) (H : Hp) (xs : List V) (us : List Value) (Q : VK), Inv X pins σ H s → Vals xs us → r xs H Q →
  wpAny (model X.prog X.w) X.A (call f us) (EP X pins σ Q) X.xe s
def TruR (X : Cx) (r : V → Hp → (Bool → Hp → Prop) → Prop) : Prop :=
 ∀ (pins : List (Addr × Obj)) (s : Shared) (σ : St) (H : Hp) (x : V) (v : Value) (Q : Bool → Hp → Prop), Inv X pins σ H s → RelV x v → r x H Q →
  wpAny (model X.prog X.w) X.A (truthy v) (TP X pins σ Q) X.xe s
def tOp (r : R2) (ta tb : TE) : TE := fun σ H Q => ta σ H fun x H1 => tb σ H1 fun y H2 => r x y H2 Q
def tUn (r : V → Hp → VK → Prop) (ta : TE) : TE := fun σ H Q => ta σ H fun x H1 => r x H1 Q
def rI (C : Int → Int → Prop) (g : Int → Int → V) : R2 := fun x y H Q => ∃ i j, x = .int i ∧ y = .int j ∧ C i j ∧ Q (g i j) H
def rI0 (g : Int → Int → V) : R2 := fun x y H Q => ∃ i j, x = .int i ∧ y = .int j ∧ Q (g i j) H
def rU (g : Int → V) : V → Hp → VK → Prop := fun x H Q => ∃ i, x = .int i ∧ Q (g i) H
section
variable {X : Cx} {a b c : Expr} {ta tb tc : TE} {pos : Pos}
theorem binT (ha : PE X a ta) (hb : PE X b tb) {pins : List (Addr × Obj)} {s : Shared} {σ : St} {H : Hp} {R : V → V → Hp → Prop} (I : Inv X pins σ H s)
  (h : ta σ H fun x H1 => tb σ H1 fun y H2 => R x y H2) {Q : Value → Shared → Prop} {f : Value → Value → Sem Value}
  (hf : ∀ v u s2 x y H2, Inv X pins σ H2 s2 → RelV x v → RelV y u → R x y H2 → wpAny (model X.prog X.w) X.A (f v u) Q X.xe s2) :
  wpAny (model X.prog X.w) X.A (eval a X.env) (fun v s₁ => wpAny (model X.prog X.w) X.A (eval b X.env) (fun u s₂ => wpAny (model X.prog X.w) X.A (f v u) Q X.xe s₂) X.xe s₁) X.xe s := by
 refine thn (ha pins s σ H _ I h) fun v s1 ⟨x, H1, I1, r1, q1⟩ => ?_
 refine thn (hb pins s1 σ H1 _ I1 q1) fun u s2 ⟨y, H2, I2, r2, q2⟩ => ?_
 exact hf v u s2 x y H2 I2 r1 r2 q2
theorem pe_op {op : Operator} {r : R2} (ho : OpR X (binaryOp op) r) (ha : PE X a ta) (hb : PE X b tb) : PE X (.BinOp a op b pos) (tOp r ta tb) := by
 intro pins s σ H Q I h
 exact wpAny_BinOp (binT ha hb I h fun v u s2 x y H2 I2 rx ry q => ho pins s2 σ H2 x y v u Q I2 rx ry q)
theorem pe_un {op : UnaryOp} {r : V → Hp → VK → Prop} (ho : UnR X (unaryOp op) r) (ha : PE X a ta) : PE X (.UnaryOp op a pos) (tUn r ta) := by
 intro pins s σ H Q I h
 exact UnaryOp_ (thn (ha pins s σ H _ I h) fun v s1 ⟨x, H1, I1, r1, q1⟩ => ho pins s1 σ H1 x v Q I1 r1 q1)
theorem opI {f : Value → Value → Sem Value} {C : Int → Int → Prop} {g : Int → Int → Int}
  (rule : ∀ (i j : Int) (t u : Tok) (s : Shared) (Q : Value → Shared → Prop) (E : Value → Shared → Prop), C i j → Q (.int (g i j) s.toks) { s with toks := s.toks + 1 } → wpAny (model X.prog X.w) X.A (f (.int i t) (.int j u)) Q E s) :
  OpR X f (rI C fun i j => .int (g i j)) := by
 intro pins s σ H x y v u Q I rx ry h
 obtain ⟨i, j, rfl, rfl, hc, q⟩ := h
 obtain ⟨t, rfl⟩ := rx
 obtain ⟨t', rfl⟩ := ry
 exact rule i j t t' s _ _ hc ⟨.int (g i j), H, I.tok _, ⟨_, rfl⟩, q⟩
theorem opI0 {f : Value → Value → Sem Value} {g : Int → Int → Int}
  (rule : ∀ (i j : Int) (t u : Tok) (s : Shared) (Q : Value → Shared → Prop) (E : Value → Shared → Prop), Q (.int (g i j) s.toks) { s with toks := s.toks + 1 } → wpAny (model X.prog X.w) X.A (f (.int i t) (.int j u)) Q E s) :
  OpR X f (rI0 fun i j => .int (g i j)) := by
 intro pins s σ H x y v u Q I rx ry h
 obtain ⟨i, j, rfl, rfl, q⟩ := h
 obtain ⟨t, rfl⟩ := rx
 obtain ⟨t', rfl⟩ := ry
 exact rule i j t t' s _ _ ⟨.int (g i j), H, I.tok _, ⟨_, rfl⟩, q⟩
theorem opB0 {f : Value → Value → Sem Value} {g : Int → Int → Bool}
  (rule : ∀ (i j : Int) (t u : Tok) (s : Shared) (Q : Value → Shared → Prop) (E : Value → Shared → Prop), Q (.bool (g i j)) s → wpAny (model X.prog X.w) X.A (f (.int i t) (.int j u)) Q E s) :
  OpR X f (rI0 fun i j => .bl (g i j)) := by
 intro pins s σ H x y v u Q I rx ry h
 obtain ⟨i, j, rfl, rfl, q⟩ := h
 obtain ⟨t, rfl⟩ := rx
 obtain ⟨t', rfl⟩ := ry
 exact rule i j t t' s _ _ ⟨.bl (g i j), H, I, rfl, q⟩
def CDiv (i j : Int) : Prop := 0 < j ∧ j < 1073741824
def CPow (i j : Int) : Prop := 0 ≤ j ∧ j ≤ 1000000 ∧ i.natAbs < 2 ^ 64
def CMul (i j : Int) : Prop := (-(2 ^ 64) < i ∧ i < 2 ^ 64) ∨ (-(2 ^ 64) < j ∧ j < 2 ^ 64)
theorem CMul.ok {i j : Int} (h : CMul i j) : IntMulOk i j := by
 rcases h with ⟨h1, h2⟩ | ⟨h1, h2⟩
 ·exact .of_left (intBits_le_64 h1 h2)
 ·exact .of_right (intBits_le_64 h1 h2)
theorem op_add : OpR X (binaryOp .Add) (rI0 fun i j => .int (i + j)) := opI0 fun _ _ _ _ _ _ _ q => add_int q
theorem op_sub : OpR X (binaryOp .Sub) (rI0 fun i j => .int (i - j)) := opI0 fun _ _ _ _ _ _ _ q => sub_int q
theorem op_fdiv : OpR X (binaryOp .FloorDiv) (rI CDiv fun i j => .int (i / j)) := opI fun i j _ _ _ _ _ hc q => by
 have h1 : (0 : Int) < j := hc.1
 have h2 : j < 1073741824 := hc.2
 exact floordiv_int (by omega) (by rw [Int.fdiv_eq_ediv_of_nonneg i (by omega)]; exact q) (.inl (PyProof.noPylong_small (by omega)))
theorem op_mod : OpR X (binaryOp .Mod) (rI (fun _ j => 0 < j) fun i j => .int (i % j)) := opI fun i j _ _ _ _ _ hc q => by
 have h1 : (0 : Int) < j := hc
 exact mod_int' (by omega) (by rw [Int.fmod_eq_emod_of_nonneg i (by omega)]; exact q)
theorem op_pow : OpR X (binaryOp .Pow) (rI CPow fun i j => .int (i ^ j.toNat)) := opI fun _ _ _ _ _ _ _ hc q => pow_int_small hc.1 hc.2.1 hc.2.2 q
theorem unI {f : Value → Sem Value} {g : Int → Int}
  (rule : ∀ (i : Int) (t : Tok) (s : Shared) (Q : Value → Shared → Prop) (E : Value → Shared → Prop), Q (.int (g i) s.toks) { s with toks := s.toks + 1 } → wpAny (model X.prog X.w) X.A (f (.int i t)) Q E s) :
  UnR X f (rU fun i => .int (g i)) := by
 intro pins s σ H x v Q I rx h
 obtain ⟨i, rfl, q⟩ := h
 obtain ⟨t, rfl⟩ := rx
 exact rule i t s _ _ ⟨.int (g i), H, I.tok _, ⟨_, rfl⟩, q⟩
theorem un_neg : UnR X (unaryOp .USub) (rU fun i => .int (-i)) := unI fun _ _ _ _ _ q => neg_int q
end
def scal : V → V → Bool
 | .non, .non => true | .non, .int _ => true | .int _, .non => true | .non, .bl _ => true | .bl _, .non => true | .non, .str _ => true | .str _, .non => true
 | .int _, .int _ => true | .bl _, .bl _ => true | .str _, .str _ => true | .byt _, .byt _ => true
 | .int _, .str _ => true | .str _, .int _ => true | .bl _, .str _ => true | .str _, .bl _ => true
 | _, _ => false
def rEq : R2 := fun x y H Q => scal x y = true ∧ Q (.bl (decide (x = y))) H
def rNe : R2 := fun x y H Q => scal x y = true ∧ Q (.bl (!decide (x = y))) H
theorem dec_int {i j : Int} : decide (V.int i = V.int j) = (i == j) := by
 rw [Bool.eq_iff_iff]
 simp
theorem dec_bl {i j : Bool} : decide (V.bl i = V.bl j) = (i == j) := by
 rw [Bool.eq_iff_iff]
 simp
theorem dec_str {i j : Str} : decide (V.str i = V.str j) = (i == j) := by
 rw [Bool.eq_iff_iff]
 simp
theorem dec_byt {i j : Array UInt8} : decide (V.byt i = V.byt j) = (i.toList == j.toList) := by
 rw [Bool.eq_iff_iff]
 cases i
 cases j
 simp
section
variable {X : Cx} {a b c : Expr} {ta tb tc : TE} {pos : Pos}
theorem fin_bl {pins : List (Addr × Obj)} {σ : St} {H : Hp} {s : Shared} {Q : VK} {k k' : Bool} (I : Inv X pins σ H s) (q : Q (.bl k) H) (e : k = k') : EP X pins σ Q (.bool k') s := by
 subst e
 exact ⟨.bl k, H, I, rfl, q⟩
theorem op_eq : OpR X (compareOp .Eq) rEq := by
  intro pins s σ H x y v u Q I rx ry h
  obtain ⟨hs, q⟩ := h
  cases x with
  | non =>
    cases rx
    cases y with
    | non => cases ry; exact PySem.EqNone.eq_none_none (fin_bl I q (by simp))
    | bl j => cases ry; exact PySem.EqNone.eq_none_bool (fin_bl I q (by simp))
    | int j => obtain ⟨t', rfl⟩ := ry; exact PySem.EqNone.eq_none_int (fin_bl I q (by simp))
    | str j => obtain ⟨t', rfl⟩ := ry; exact PySem.EqNone.eq_none_str (fin_bl I q (by simp))
    | _ => exact absurd (show false = true from hs) Bool.false_ne_true
  | bl i =>
    cases rx
    cases y with
    | non => cases ry; exact PySem.EqNone.eq_bool_none (fin_bl I q (by simp))
    | bl j => cases ry; exact eq_bool (fin_bl I q dec_bl)
    | str j => obtain ⟨t', rfl⟩ := ry; exact PySem.EqMixed.eq_bool_str (fin_bl I q (by simp))
    | _ => exact absurd (show false = true from hs) Bool.false_ne_true
  | int i =>
    obtain ⟨t, rfl⟩ := rx
    cases y with
    | non => cases ry; exact PySem.EqNone.eq_int_none (fin_bl I q (by simp))
    | int j => obtain ⟨t', rfl⟩ := ry; exact eq_int (fin_bl I q dec_int)
    | str j => obtain ⟨t', rfl⟩ := ry; exact PySem.EqMixed.eq_int_str (fin_bl I q (by simp))
    | _ => exact absurd (show false = true from hs) Bool.false_ne_true
  | str i =>
    obtain ⟨t, rfl⟩ := rx
    cases y with
    | non => cases ry; exact PySem.EqNone.eq_str_none (fin_bl I q (by simp))
    | bl j => cases ry; exact PySem.EqMixed.eq_str_bool (fin_bl I q (by simp))
    | int j => obtain ⟨t', rfl⟩ := ry; exact PySem.EqMixed.eq_str_int (fin_bl I q (by simp))
    | str j => obtain ⟨t', rfl⟩ := ry; exact eq_str (fin_bl I q dec_str)
    | _ => exact absurd (show false = true from hs) Bool.false_ne_true
  | byt i =>
    obtain ⟨t, rfl⟩ := rx
    cases y with
    | byt j => obtain ⟨t', rfl⟩ := ry; exact PySem.W.eq_bytes (fin_bl I q dec_byt)
    | _ => exact absurd (show false = true from hs) Bool.false_ne_true
  | _ => cases y <;> exact absurd (show false = true from hs) Bool.false_ne_true
theorem op_ne : OpR X (compareOp .NotEq) rNe := by
  intro pins s σ H x y v u Q I rx ry h
  obtain ⟨hs, q⟩ := h
  cases x with
  | non =>
    cases rx
    cases y with
    | non => cases ry; exact PySem.EqNone.ne_none_none (fin_bl I q (by simp))
    | bl j => cases ry; exact PySem.EqNone.ne_none_bool (fin_bl I q (by simp))
    | int j => obtain ⟨t', rfl⟩ := ry; exact PySem.EqNone.ne_none_int (fin_bl I q (by simp))
    | str j => obtain ⟨t', rfl⟩ := ry; exact PySem.EqNone.ne_none_str (fin_bl I q (by simp))
    | _ => exact absurd (show false = true from hs) Bool.false_ne_true
  | bl i =>
    cases rx
    cases y with
    | non => cases ry; exact PySem.EqNone.ne_bool_none (fin_bl I q (by simp))
    | bl j => cases ry; exact ne_bool (fin_bl I q (congrArg not dec_bl))
    | str j => obtain ⟨t', rfl⟩ := ry; exact PySem.EqMixed.ne_bool_str (fin_bl I q (by simp))
    | _ => exact absurd (show false = true from hs) Bool.false_ne_true
  | int i =>
    obtain ⟨t, rfl⟩ := rx
    cases y with
    | non => cases ry; exact PySem.EqNone.ne_int_none (fin_bl I q (by simp))
    | int j => obtain ⟨t', rfl⟩ := ry; exact ne_int (fin_bl I q (congrArg not dec_int))
    | str j => obtain ⟨t', rfl⟩ := ry; exact PySem.EqMixed.ne_int_str (fin_bl I q (by simp))
    | _ => exact absurd (show false = true from hs) Bool.false_ne_true
  | str i =>
    obtain ⟨t, rfl⟩ := rx
    cases y with
    | non => cases ry; exact PySem.EqNone.ne_str_none (fin_bl I q (by simp))
    | bl j => cases ry; exact PySem.EqMixed.ne_str_bool (fin_bl I q (by simp))
    | int j => obtain ⟨t', rfl⟩ := ry; exact PySem.EqMixed.ne_str_int (fin_bl I q (by simp))
    | str j => obtain ⟨t', rfl⟩ := ry; exact ne_str (fin_bl I q (congrArg not dec_str))
    | _ => exact absurd (show false = true from hs) Bool.false_ne_true
  | byt i =>
    obtain ⟨t, rfl⟩ := rx
    cases y with
    | byt j => obtain ⟨t', rfl⟩ := ry; exact PySem.W.ne_bytes (fin_bl I q (congrArg not dec_byt))
    | _ => exact absurd (show false = true from hs) Bool.false_ne_true
  | _ => cases y <;> exact absurd (show false = true from hs) Bool.false_ne_true
theorem op_lt : OpR X (compareOp .Lt) (rI0 fun i j => .bl (decide (i < j))) := opB0 fun _ _ _ _ _ _ _ q => lt_int q
theorem op_le : OpR X (compareOp .LtE) (rI0 fun i j => .bl (decide (i ≤ j))) := opB0 fun _ _ _ _ _ _ _ q => le_int q
theorem op_gt : OpR X (compareOp .Gt) (rI0 fun i j => .bl (decide (j < i))) := opB0 fun _ _ _ _ _ _ _ q => gt_int q
theorem op_ge : OpR X (compareOp .GtE) (rI0 fun i j => .bl (decide (j ≤ i))) := opB0 fun _ _ _ _ _ _ _ q => ge_int q
theorem op_in_str : OpR X (compareOp .In) (fun x y H Q => ∃ i j, x = .str i ∧ y = .str j ∧ Q (.bl (!(Builtin.Str.occurrences j i 0 j.length 1).isEmpty)) H) := by
 intro pins s σ H x y v u Q I rx ry h
 obtain ⟨i, j, rfl, rfl, q⟩ := h
 obtain ⟨t, rfl⟩ := rx
 obtain ⟨t', rfl⟩ := ry
 exact in_str (fin_bl I q rfl)
theorem op_isN : OpR X (compareOp .Is) (fun x y H Q => y = .non ∧ Q (.bl (decide (x = .non))) H) := by
 intro pins s σ H x y v u Q I rx ry h
 obtain ⟨rfl, q⟩ := h
 cases ry
 refine is_none_gen (fin_bl I q ?_)
 cases x <;> first
  | (cases rx; rfl)
  | (obtain ⟨t, rfl⟩ := rx; rfl)
theorem op_notN : OpR X (compareOp .IsNot) (fun x y H Q => y = .non ∧ Q (.bl (!decide (x = .non))) H) := by
 intro pins s σ H x y v u Q I rx ry h
 obtain ⟨rfl, q⟩ := h
 cases ry
 refine isnot_none_gen (fin_bl I q ?_)
 cases x <;> first
  | (cases rx; rfl)
  | (obtain ⟨t, rfl⟩ := rx; rfl)
theorem op_notin_str : OpR X (compareOp .NotIn) (fun x y H Q => ∃ i j, x = .str i ∧ y = .str j ∧ Q (.bl (!(!(Builtin.Str.occurrences j i 0 j.length 1).isEmpty))) H) := by
 intro pins s σ H x y v u Q I rx ry h
 obtain ⟨i, j, rfl, rfl, q⟩ := h
 obtain ⟨t, rfl⟩ := rx
 obtain ⟨t', rfl⟩ := ry
 exact notIn_str (fin_bl I q rfl)
theorem OpR.or {f : Value → Value → Sem Value} {r r' : R2} (h : OpR X f r) (h' : OpR X f r') : OpR X f (fun x y H Q => r x y H Q ∨ r' x y H Q) := by
 intro pins s σ H x y v u Q I rx ry q
 rcases q with q | q
 ·exact h pins s σ H x y v u Q I rx ry q
 ·exact h' pins s σ H x y v u Q I rx ry q
theorem pe_cmpR {op : CmpOp} {r : R2} (ho : OpR X (compareOp op) r) (ha : PE X a ta) (hb : PE X b tb) (hm : behindInMarks op b = false) : PE X (.Compare a [op] [b] pos) (tOp r ta tb) := by
 intro pins s σ H Q I h
 exact wpAny_Compare1 (binT ha hb I h fun v u s2 x y H2 I2 rx ry q => ho pins s2 σ H2 x y v u Q I2 rx ry q) hm
def tTest (t : TE) : TT := fun σ H Q => t σ H fun x H' => ∃ k, x = .bl k ∧ Q k H'
theorem pt_cmpR {op : CmpOp} {r : R2} (ho : OpR X (compareOp op) r) (ha : PE X a ta) (hb : PE X b tb) (hm : behindInMarks op b = false) : PT X (.Compare a [op] [b] pos) (tTest (tOp r ta tb)) := by
 intro pins s σ H Q I h
 refine wpAny_isTrue_Compare1 (thn (ha pins s σ H _ I h) fun v s1 ⟨x, H1, I1, r1, q1⟩ => thn (hb pins s1 σ H1 _ I1 q1) fun u s2 ⟨y, H2, I2, r2, q2⟩ =>
  thn (ho pins s2 σ H2 x y v u _ I2 r1 r2 q2) fun c s3 ⟨z, H3, I3, r3, k, e, q3⟩ => ?_) hm
 subst e
 cases r3
 exact wpAny_truthy_bool ⟨H3, I3, q3⟩
def tChain (r r' : R2) (ta tb tc : TE) : TE := fun σ H Q => ta σ H fun x H1 => tb σ H1 fun y H2 => r x y H2 fun z H3 => ∃ k, z = .bl k ∧
 (if k = true then tc σ H3 fun w' H4 => r' y w' H4 Q else Q (.bl false) H3)
theorem pt_chain {op op' : CmpOp} {r r' : R2} (ho : OpR X (compareOp op) r) (ho' : OpR X (compareOp op') r') (ha : PE X a ta) (hb : PE X b tb) (hc : PE X c tc)
    (hm : lastMarks [op, op'] [b, c] = false := by with_unfolding_all rfl) : PT X (.Compare a [op, op'] [b, c] pos) (tTest (tChain r r' ta tb tc)) := by
  intro pins s σ H Q I h
  refine isTrue_chain (thn (ha pins s σ H _ I h) fun v s1 ⟨x, H1, I1, r1, q1⟩ => test_link (thn (hb pins s1 σ H1 _ I1 q1) fun u s2 ⟨y, H2, I2, r2, q2⟩ =>
    thn (ho pins s2 σ H2 x y v u _ I2 r1 r2 q2) fun d s3 ⟨z, H3, I3, r3, k, e, q3⟩ => ?_)) hm
  subst e
  cases r3
  refine wpAny_truthy_bool ?_
  cases k with
  | false =>
    obtain ⟨k', e', q'⟩ := q3
    cases e'
    exact ite_ff ⟨H3, I3, q'⟩
  | true =>
    refine ite_tt (test_last (thn (hc pins s3 σ H3 _ I3 q3) fun w' s4 ⟨z', H4, I4, r4, q4⟩ => thn (ho' pins s4 σ H4 y z' u w' _ I4 r2 r4 q4) fun d' s5 ⟨z2, H5, I5, r5, k2, e2, q5⟩ => ?_))
    subst e2
    cases r5
    exact wpAny_truthy_bool ⟨H5, I5, q5⟩
def TruV (K : PySem.W.Frag) (x : V) (H : Hp) (k : Bool) : Prop :=
 match x with
 | .non => k = false
 | .bl b => k = b
 | .int i => k = (i != 0)
 | .str y => y.length ≤ sizeLine ∧ k = ((y.length : Int) != 0)
 | .byt y => y.size ≤ sizeLine ∧ k = ((y.size : Int) != 0)
 | .ref p => (∃ xs, SqL K H p xs ∧ k = !xs.isEmpty) ∨ (∃ xs, SqT K H p xs ∧ k = !xs.isEmpty) ∨ ∃ kvs, H p = some (.dK kvs) ∧ k = !kvs.isEmpty
 | _ => False
theorem isEmpty_kv {κ : Type} {kvs : List (κ × V)} {vs : List (κ × Value)} (r : KV kvs vs) : (!vs.isEmpty) = !kvs.isEmpty := by
 cases r <;> rfl
theorem isEmpty_of {xs : List V} {its : List Value} (r : Vals xs its) : (!its.toArray.isEmpty) = !xs.isEmpty := by
 cases r <;> simp
theorem line63 : (sizeLine : Nat) < 2 ^ 63 := by rw [sizeLine_eq]; decide
theorem tru_ok : TruR X (fun x H Q => ∃ k, TruV X.K x H k ∧ Q k H) := by
  intro pins s σ H x v Q I rx h
  obtain ⟨k, e, q⟩ := h
  have hl := line63
  have hs : sizeLine = 16777216 := sizeLine_eq
  cases x with
  | non =>
    cases rx
    have e' : k = false := e
    subst e'
    exact truthy_none ⟨H, I, q⟩
  | bl b =>
    cases rx
    have e' : k = b := e
    subst e'
    exact wpAny_truthy_bool ⟨H, I, q⟩
  | int i =>
    obtain ⟨t, rfl⟩ := rx
    have e' : k = (i != 0) := e
    subst e'
    exact PySem.P.truthy_int ⟨H, I, q⟩
  | str y =>
    obtain ⟨t, rfl⟩ := rx
    obtain ⟨hy, e'⟩ : y.length ≤ sizeLine ∧ k = ((y.length : Int) != 0) := e
    subst e'
    exact PySem.P.truthy_str (by omega) ⟨H, I.tok _, q⟩
  | byt y =>
    obtain ⟨t, rfl⟩ := rx
    obtain ⟨hy, e'⟩ : y.size ≤ sizeLine ∧ k = ((y.size : Int) != 0) := e
    subst e'
    exact PySem.W.truthy_bytes (by omega) ⟨H, I.tok _, q⟩
  | ref p =>
    cases rx
    have e' : (∃ xs, SqL X.K H p xs ∧ k = !xs.isEmpty) ∨ (∃ xs, SqT X.K H p xs ∧ k = !xs.isEmpty) ∨ ∃ kvs, H p = some (.dK kvs) ∧ k = !kvs.isEmpty := e
    rcases e' with ⟨xs, hx, e'⟩ | ⟨xs, hx, e'⟩ | ⟨kvs, hx, e'⟩
    · subst e'
      obtain ⟨its, r, pl, hz⟩ := I.list hx
      have hlen := r.length
      exact wpAny_truthy_list pl.isList (by simp only [List.size_toArray]; omega) ⟨H, I.tok _, by rw [isEmpty_of r]; exact q⟩
    · subst e'
      obtain ⟨its, r, pl, hz⟩ := I.tuple hx
      have hlen := r.length
      exact truthy_tuple pl (by simp only [List.size_toArray]; omega) ⟨H, I.tok _, by rw [isEmpty_of r]; exact q⟩
    · subst e'
      obtain ⟨hz, hS, vs, r, m⟩ : kvs.length ≤ sizeLine ∧ (p == sysModules) = false ∧ ∃ vs, KV kvs vs ∧ s.heap.DictOf (mixKind X.prog X.w) p vs := I.hok p _ hx
      have hlen : kvs.length = vs.length := Paired.length r
      exact wpAny_truthy_dict hS m (by omega) ⟨H, I.tok _, by rw [isEmpty_kv r]; exact q⟩
  | _ => exact (show False from e).elim
theorem pt_truth (ha : PE X a ta) (he : ∀ whole, isTrue a X.env whole = (do let v ← whole; standAt a.pos; holding [v] (truthy v))) :
  PT X a (fun σ H Q => ta σ H fun x H' => ∃ k, TruV X.K x H' k ∧ Q k H') := by
 intro pins s σ H Q I h
 exact isTrue_plain (thn (ha pins s σ H _ I h) fun v s1 ⟨x, H1, I1, r1, q1⟩ => tru_ok pins s1 σ H1 x v Q I1 r1 q1) (he _)
theorem op_add_str : OpR X (binaryOp .Add) (fun x y H Q => ∃ i j, x = .str i ∧ y = .str j ∧ i.length + j.length ≤ sizeLine ∧ Q (.str (i ++ j)) H) := by
 intro pins s σ H x y v u Q I rx ry h
 obtain ⟨i, j, rfl, rfl, hz, q⟩ := h
 obtain ⟨t, rfl⟩ := rx
 obtain ⟨t', rfl⟩ := ry
 exact add_str (fun t' tk => ⟨.str (i ++ j), H, I.tok _, ⟨_, rfl⟩, q⟩) hz
theorem vals1 {x : V} {us : List Value} (r : Vals [x] us) : ∃ u, us = [u] ∧ RelV x u := by
 cases r with
 | cons r1 r2 => cases r2; exact ⟨_, rfl, r1⟩
theorem vals2 {x y : V} {us : List Value} (r : Vals [x, y] us) : ∃ u w', us = [u, w'] ∧ RelV x u ∧ RelV y w' := by
  cases r with
  | cons r1 r2 =>
    cases r2 with
    | cons r3 r4 => cases r4; exact ⟨_, _, rfl, r1, r3⟩
theorem call_str_int : CallR X (.type "str") (fun xs H Q => ∃ i, xs = [.int i] ∧ i.natAbs.log2 < 1920 ∧ Q (.str (toString i)) H) := by
 intro pins s σ H xs us Q I r h
 obtain ⟨i, rfl, hz, q⟩ := h
 obtain ⟨u, rfl, t, rfl⟩ := vals1 r
 exact PySem.P.str_of_int hz ⟨.str _, H, I.tok _, ⟨_, rfl⟩, q⟩
end
end L2
namespace L2
open PySem PySem.Spec PyProof.Rows
structure ObjM (h : Heap) (x dx C : Addr) (mA : Str → Option Value) : Prop where
 obj : h.get? x = some (PySem.W.instObj C dx)
 ns : h.Ns1 dx mA
 ne : dx ≠ x
theorem lookIn_ns {h : Heap} {dx : Addr} {mA : Str → Option Value} (n : h.Ns1 dx mA) : ∃ od, h.get? dx = some od ∧ ∀ name, PySem.W.lookIn name od = some (mA name) := by
 obtain ⟨o, es, ep, ho, hd, hk, _, hm⟩ := n
 refine ⟨o, ho, fun name => ?_⟩
 have e := hm name
 unfold nsFind findBy at e
 rw [← Array.find?_toList] at e
 unfold PySem.W.lookIn
 rw [hd]
 dsimp only
 split
 ·rename_i y q
  rw [q] at e
  exact congrArg some e
 ·rename_i q
  rw [q] at e
  have a : es.toList.any (·.refKey) = false := by
   rw [List.any_eq_false]
   intro y hy
   obtain ⟨z, t, hkey⟩ := hk y (Array.mem_toList_iff.mp hy)
   simp [DictEntry.refKey, hkey]
  have a' : ¬ es.toList.any (·.refKey) = true := by rw [a]; exact Bool.false_ne_true
  rw [if_neg a']
  exact congrArg some e
theorem ObjM.look {h : Heap} {x dx C : Addr} {mA : Str → Option Value} (I : ObjM h x dx C mA) : ∃ od, PySem.W.InstAt h x (PySem.W.instObj C dx) C (some od) ∧ ∀ name, PySem.W.lookIn name od = some (mA name) :=
 let ⟨od, ho, hl⟩ := lookIn_ns I.ns
 ⟨od, ⟨I.obj, rfl, rfl, ho⟩, hl⟩
section
variable {prog : Program} {w : World} {A : Around} {E : Value → Shared → Prop} {s : Shared} {K : PySem.W.Frag} {x dx C f : Addr} {mA : Str → Option Value} {name : Str} {v : Value}
end
theorem RelO.some_of {v : V} {o : Option Value} (r : RelO (some v) o) : ∃ u, o = some u ∧ RelV v u := by
 cases o with
 | none => exact (show False from r).elim
 | some u => exact ⟨u, rfl, r⟩
section
variable {P : Program} {w : World} {H H' : Hp} {h h' : Heap} {a C dx : Addr} {fs fs' : List (Str × V)}
theorem ins_get (hok : HOk P w H h) (e : H a = some (.ins C dx fs)) : ∃ mA, ObjM h a dx C mA ∧ (∀ f, RelO (fs.lookup f) (mA f)) ∧ PySem.Within mA (fs.map (·.1)) ∧ fs.length ≤ 1000 ∧ H dx = some (.own a) := by
 obtain ⟨d, z, ne, ob, mA, n, r, q⟩ := (show ObjOk P w H h a (.ins C dx fs) from hok a _ e)
 exact ⟨mA, ⟨ob, n, ne⟩, r, q, z, d⟩
end
structure Cls (K : PySem.W.Frag) (C : Addr) : Prop where
 pg : PySem.W.plainGet K C Str.empty = true
 hd : PySem.W.hasDictIn K C = true
 po : PySem.W.plainOver K C = true
 sa : PySem.W.findIn K (.ref C) "__setattr__" = some (some (.builtin "object.__setattr__"))
theorem Cls.get {K : PySem.W.Frag} {C : Addr} (c : Cls K C) (f : Str) : PySem.W.plainGet K C f = true := c.pg
structure Con (K : PySem.W.Frag) (C : Addr) (f : Str) (v : V) (u : Value) : Prop where
 at_ : PySem.W.findIn K (.ref C) f = some (some u)
 rel : RelV v u
 get : PySem.W.specialIn K u "__get__" = some none
 cp : PySem.W.copiedNames.contains f = false
structure Meth (K : PySem.W.Frag) (C : Addr) (m : Str) (f : Addr) : Prop where
 at_ : PySem.W.findIn K (.ref C) m = some (some (.ref f))
 fn : PySem.W.isFn K (.ref f) = true
 kp : PySem.W.keepIn K (.ref f) = true
section
variable {X : Cx} {pins : List (Addr × Obj)} {σ : St} {H : Hp} {s : Shared} {a C dx : Addr} {fs : List (Str × V)} {f : Str} {v : V} {A : Around} {E : Value → Shared → Prop}
theorem Inv.made (I : Inv X pins σ H s) : Inv X pins σ (upd (upd H s.heap.objs.size (.own (s.heap.objs.size + 1))) (s.heap.objs.size + 1) (.ins C s.heap.objs.size []))
  { s with heap := (s.heap.push PySem.W.emptyDict).push (PySem.W.instObj C s.heap.objs.size) } := by
 have e1 : (s.heap.push PySem.W.emptyDict).get? s.heap.objs.size = some PySem.W.emptyDict := Heap.get?_push_size s.heap rfl
 have e2 : ((s.heap.push PySem.W.emptyDict).push (PySem.W.instObj C s.heap.objs.size)).get? (s.heap.objs.size + 1) = some (PySem.W.instObj C s.heap.objs.size) := by
  have := Heap.get?_push_size (s.heap.push PySem.W.emptyDict) (o := PySem.W.instObj C s.heap.objs.size) rfl
  rwa [Heap.size_push] at this
 have e3 : (s.heap.push PySem.W.emptyDict).Ns s.heap.objs.size (fun _ => none) := ⟨PySem.W.emptyDict, #[], _, e1, rfl, (fun e he => absurd he (by simp)), fun _ => rfl⟩
 have I1 := I.laid (a := s.heap.objs.size) (o := .own (s.heap.objs.size + 1)) (h' := s.heap.push PySem.W.emptyDict) (t' := s.toks) (fun b u q => Heap.get?_push_of_some _ q) (Nat.le_refl _) ⟨_, e1⟩
 refine I1.laid (a := s.heap.objs.size + 1) (o := .ins C s.heap.objs.size []) (t' := s.toks) (fun b u q => Heap.get?_push_of_some _ q) (Nat.le_of_eq (Heap.size_push _ _)) ?_
 have ne : s.heap.objs.size ≠ s.heap.objs.size + 1 := Nat.ne_of_lt (Nat.lt_succ_self _)
 refine ⟨by rw [upd_ne ne, upd_same], Nat.zero_le _, ne, e2, fun _ => none, (Heap.Ns1.of_empty e3).at fun o q => Heap.get?_push_of_some _ q, fun _ => True.intro, fun y hy => absurd rfl hy⟩
end
section
variable {X : Cx} {o e value : Expr} {f : Str} {pos pos' tpos : Pos} {ta tv : TE}
def rAdd : V → V → Hp → VK → Prop := fun x y H Q => ∃ i j, x = .int i ∧ y = .int j ∧ Q (.int (i + j)) H
end
section
variable {X : Cx} {pins : List (Addr × Obj)} {σ : St} {H : Hp} {s : Shared} {A : Around} {E : Value → Shared → Prop} {Q : Value → Shared → Prop} {c : Value} {b : Bool}
inductive TyOf (K : PySem.W.Frag) (H : Hp) : V → Value → Prop where
 | non : TyOf K H .non (.type "NoneType")
 | bl (x : Bool) : TyOf K H (.bl x) (.type "bool")
 | int (i : Int) : TyOf K H (.int i) (.type "int")
 | str (x : Str) : TyOf K H (.str x) (.type "str")
 | flt (x : UInt64) : TyOf K H (.flt x) (.type "float")
 | lst {a : Addr} {xs : List V} (e : H a = some (.lst xs)) : TyOf K H (.ref a) (.type "list")
 | frz {a : Addr} {o : Obj} {xs : List V} (e : H a = some (.frz o (.lst xs))) : TyOf K H (.ref a) (.type "list")
 | tup {a : Addr} {xs : List V} (e : H a = some (.tup xs)) : TyOf K H (.ref a) (.type "tuple")
 | dK {a : Addr} {kvs : List (Key × V)} (e : H a = some (.dK kvs)) : TyOf K H (.ref a) (.type "dict")
 | dT {a : Addr} {kvs : List (List Key × V)} (e : H a = some (.dT kvs)) : TyOf K H (.ref a) (.type "dict")
 | ins {a C dx : Addr} {fs : List (Str × V)} (e : H a = some (.ins C dx fs)) (cl : Cls K C) (ha : PySem.W.findIn K (.ref C) "__class__" = some (some (.builtin "object.__class__")))
   (hn : PySem.W.specialIn K (.builtin "object.__class__") "__get__" = some (some (.builtin "getset_descriptor.__get__"))) (htk : PySem.W.takesIn K (.builtin "object.__class__") = some true)
   (hm : PySem.W.mroIn K C (.type "object") = some true) : TyOf K H (.ref a) (.ref C)
theorem isinst_ok {x : V} {u t : Value} (I : Inv X pins σ H s) (rx : RelV x u) (ty : TyOf X.K H x t) (e : PySem.W.kitOne X.K t c = some b) (h : ∀ tk, Q (.bool b) { s with toks := tk }) :
    wpAny (model X.prog X.w) A (call (.builtin "isinstance") [u, c]) Q E s := by
  cases ty with
  | non => cases (show u = Value.none from rx); exact PySem.W.kia_one PySem.W.kitx_none I.kIn True.intro e (fun z => nomatch z) h
  | bl y => cases (show u = Value.bool y from rx); exact PySem.W.kia_one PySem.W.kitx_bool I.kIn True.intro e (fun z => nomatch z) h
  | int i => obtain ⟨t, q⟩ := (show ∃ t, u = Value.int i t from rx); cases q; exact PySem.W.kia_one PySem.W.kitx_int I.kIn True.intro e (fun z => nomatch z) h
  | str y => obtain ⟨t, q⟩ := (show ∃ t, u = Value.str y t from rx); cases q; exact PySem.W.kia_one PySem.W.kitx_str I.kIn True.intro e (fun z => nomatch z) h
  | flt y => obtain ⟨t, q⟩ := (show ∃ t, u = Value.float y t from rx); cases q; exact PySem.W.kia_one PySem.W.kitx_float I.kIn True.intro e (fun z => nomatch z) h
  | @lst a xs ea =>
    cases (show u = Value.ref a from rx)
    obtain ⟨_, _, n, _, h1⟩ := (show ObjOk X.prog X.w H s.heap a (.lst xs) from I.hok a _ ea)
    exact PySem.W.kia_one PySem.W.kitx_list I.kIn ⟨_, h1, rfl⟩ e (fun z => nomatch z) h
  | @frz a ob xs ea =>
    cases (show u = Value.ref a from rx)
    obtain ⟨_, _, _, n, _, h1⟩ := (show ObjOk X.prog X.w H s.heap a (.frz ob (.lst xs)) from I.hok a _ ea)
    exact PySem.W.kia_one PySem.W.kitx_list I.kIn ⟨_, h1, rfl⟩ e (fun z => nomatch z) h
  | @tup a xs ea =>
    cases (show u = Value.ref a from rx)
    obtain ⟨_, _, _, p⟩ := (show ObjOk X.prog X.w H s.heap a (.tup xs) from I.hok a _ ea)
    obtain ⟨o, h1, h2, _⟩ := p
    exact PySem.W.kia_one PySem.W.kitx_tuple I.kIn ⟨o, h1, h2⟩ e (fun z => nomatch z) h
  | @dK a kvs ea =>
    cases (show u = Value.ref a from rx)
    obtain ⟨_, _, vs, _, p⟩ := (show ObjOk X.prog X.w H s.heap a (.dK kvs) from I.hok a _ ea)
    obtain ⟨o, es, ep, h1, h2, _⟩ := p
    exact PySem.W.kia_one PySem.W.kitx_dict I.kIn ⟨o, h1, h2.1⟩ e (fun z => nomatch z) h
  | @dT a kvs ea =>
    cases (show u = Value.ref a from rx)
    obtain ⟨_, _, xs, _, o, es, ep, h1, h2, _⟩ := (show ObjOk X.prog X.w H s.heap a (.dT kvs) from I.hok a _ ea)
    exact PySem.W.kia_one PySem.W.kitx_dict I.kIn ⟨o, h1, h2.1⟩ e (fun z => nomatch z) h
  | @ins a C dx fs ea cl ha hn htk hm =>
    cases (show u = Value.ref a from rx)
    obtain ⟨mA, O, _⟩ := ins_get I.hok ea
    obtain ⟨od, J, _⟩ := O.look
    exact PySem.W.kia_one (PySem.W.kitx_own (cl.get _) cl.hd ha hn htk hm) I.kIn J e (fun z => nomatch z) h
end
end L2
namespace L2
open PySem PySem.Spec PyProof.Rows
structure Room (k : Nat) (A : Around) : Prop where
 hd : A.handled = none
 dp : A.depth + 3 * k + 5 < recursionLimit
 un : A.units + 16 * k + 200 < cLine
theorem Room.mono {j k : Nat} {A : Around} (r : Room k A) (h : j ≤ k) : Room j A := ⟨r.hd, by have := r.dp; omega, by have := r.un; omega⟩
theorem Room.deeper {k : Nat} {A : Around} (r : Room (k + 1) A) (env : Env) : Room k (A.deeper env) :=
 ⟨r.hd, by have := r.dp; show A.depth + 1 + 3 * k + 5 < _; omega, by have := r.un; show A.units + 3 + 16 * k + 200 < _; omega⟩
theorem Room.depth {k : Nat} {A : Around} (r : Room k A) : A.depth < recursionLimit := by have := r.dp; omega
theorem Room.units {k : Nat} {A : Around} (r : Room k A) : A.units + 64 < cLine := by have := r.un; omega
def tNil : TA := fun _ H Q => Q [] H
def tCons (ta : TE) (tr : TA) : TA := fun σ H Q => ta σ H fun x H1 => tr σ H1 fun xs H2 => Q (x :: xs) H2
section
variable {X : Cx} {e : Expr} {es : List Expr} {te : TE} {t : TA} {pos : Pos}
theorem pa_nil : PA X [] tNil := fun _ _ _ _ H Q I h => Calls.spliced_nil ⟨[], H, I, .nil, h⟩
theorem pa_cons (ha : PE X e te) (hr : PA X es t) (hs : starEach (e :: es) X.env = (false, eval e X.env) :: starEach es X.env := by rfl) : PA X (e :: es) (tCons te t) := by
 intro pos pins s σ H Q I h
 rw [hs]
 show wpAny _ _ (spliced ((false, eval e X.env) :: backTo pos (starEach es X.env))) _ _ s
 refine Calls.spliced_cons (thn (ha pins s σ H _ I h) fun u s1 ⟨x, H1, I1, r1, q1⟩ => ?_)
 exact thn (hr pos pins s1 σ H1 _ I1 q1) fun us s2 ⟨xs, H2, I2, r2, q2⟩ => ⟨x :: xs, H2, I2, .cons r1 r2, q2⟩
def tTup (t : TA) : TE := fun σ H Q => t σ H fun xs H1 => xs.length ≤ sizeLine ∧ ∀ p, H1 p = none → Q (.ref p) (upd H1 p (.tup xs))
def tLst (t : TA) : TE := fun σ H Q => t σ H fun xs H1 => xs.length ≤ sizeLine ∧ ∀ p, H1 p = none → Q (.ref p) (upd H1 p (.lst xs))
theorem pe_tup {x1} (h : PA X es t) : PE X (.Tuple es x1 pos) (tTup t) := by
 intro pins s σ H Q I hq
 refine wpAny_Tuple_spliced (thn (h pos pins s σ H _ I hq) fun us s1 ⟨xs, H1, I1, r, z, q⟩ => ⟨by rw [← r.length]; exact z, ?_⟩)
 have hf : H1 s1.heap.objs.size = none := I1.hok.fresh (Nat.le_refl _)
 refine ⟨.ref s1.heap.objs.size, upd H1 s1.heap.objs.size (.tup xs), I1.laid (t' := s1.toks) (fun b u e => Heap.get?_push_of_some _ e) (Nat.le_refl _) ?_, rfl, q _ hf⟩
 exact ⟨z, us, r, ⟨_, Heap.get?_push_size _ rfl, rfl, _, rfl⟩⟩
theorem pe_lst (h : PA X es t) : PE X (.List es pos) (tLst t) := by
 intro pins s σ H Q I hq
 refine wpAny_List_spliced (thn (h pos pins s σ H _ I hq) fun us s1 ⟨xs, H1, I1, r, z, q⟩ => ⟨by rw [← r.length]; exact z, ?_⟩)
 have hf : H1 s1.heap.objs.size = none := I1.hok.fresh (Nat.le_refl _)
 refine ⟨.ref s1.heap.objs.size, upd H1 s1.heap.objs.size (.lst xs), I1.laid (t' := s1.toks) (fun b u e => Heap.get?_push_of_some _ e) (Nat.le_refl _) ?_, rfl, q _ hf⟩
 exact ⟨z, us, 0, r, Heap.get?_push_size _ rfl⟩
end
abbrev Sp := List V → Hp → VK → XK → Prop
abbrev CXT := List Env → Hp → Shared → XK → Value → Shared → Prop
structure Env0 (P : Program) (w : World) (K : PySem.W.Frag) (mg : Str → Option Value) (base : Heap) (A : Around) (outer : List Env) (s : Shared) (H : Hp) : Prop where
 frames : A.frames = some outer
 mod : Mod K mg base
 bs : ∀ b o, base.get? b = some o → s.heap.get? b = some o ∧ H b = none
 bsz : base.objs.size ≤ s.heap.objs.size
 funs : s.heap.FunFrames base outer
 frf : ∀ b ∈ frs outer, H b = none
 hok : HOk P w H s.heap
 bare : AllBare s.gens
def CE (outer : List Env) (P : Program) (w : World) (H : Hp) (s : Shared) (Q : VK) (u : Value) (s' : Shared) : Prop :=
 ∃ v H', s'.os = s.os ∧ AllBare s'.gens ∧ Un (frs outer) [] H H' s.heap s'.heap ∧ HOk P w H' s'.heap ∧ RelV v u ∧ Q v H'
def CR (CX : CXT) (outer : List Env) (P : Program) (w : World) (H : Hp) (s : Shared) (Q : VK) (E : XK) (r : Result) (s' : Shared) : Prop :=
 match r with
 | .ok (.ret u) => CE outer P w H s Q u s'
 | .ok _ => False
 | .error e => CX outer H s E e s'
structure FnOk (P : Program) (w : World) (K : PySem.W.Frag) (mg : Str → Option Value) (base : Heap) (CX : CXT) (k : Nat) (f : Addr) (fd : FuncData) (ps : List Str) (sp : Sp) : Prop where
 len : ∀ vs H Q E, sp vs H Q E → vs.length = ps.length
 run : ∀ (A : Around) (outer : List Env) (s : Shared) (H : Hp) (args : Args) (us : List Value) (vs : List V) (Q : VK) (E : XK), Room k A → Env0 P w K mg base A outer s H → BindsTo s fd args (ps.zip us) → Vals vs us → sp vs H Q E →
  codeAny (model P w) A (.call (.ref f) args) (CR CX outer P w H s Q E) s
theorem FnOk.mono {P : Program} {w : World} {K : PySem.W.Frag} {mg : Str → Option Value} {base : Heap} {CX : CXT} {j k : Nat} {f : Addr} {fd : FuncData} {ps : List Str} {sp : Sp} (F : FnOk P w K mg base CX j f fd ps sp) (h : j ≤ k) :
  FnOk P w K mg base CX k f fd ps sp := ⟨F.len, fun A outer s H args us vs Q E hr => F.run A outer s H args us vs Q E (hr.mono h)⟩
section
variable {X : Cx} {pins : List (Addr × Obj)} {σ : St} {H : Hp} {s s' : Shared}
theorem Inv.env0 (I : Inv X pins σ H s) : Env0 X.prog X.w X.K X.mg X.base X.A X.stack s H :=
 ⟨I.ok.frames, I.ok.mod, I.bs, Nat.le_trans I.ok.bsz I.sz, I.stack, I.stkFree, I.hok, I.bare⟩
theorem Inv.after {Q : VK} {u : Value} (I : Inv X pins σ H s) (h : CE X.stack X.prog X.w H s Q u s') : EP X pins σ Q u s' := by
 obtain ⟨v, H', os, bare, un, hok, r, q⟩ := h
 obtain ⟨hh, g, d, t, os'⟩ := s'
 obtain rfl : os' = s.os := os
 exact ⟨v, H', I.call (h' := hh) (g' := g) (d' := d) (t' := t) (ch := []) un hok bare (fun b z => absurd z (by simp)), r, q⟩
end
def tCall (sp : Sp) (dvs : List V) (E : XK) (t : TA) : TE := fun σ H Q => t σ H fun vs H1 => sp (vs ++ dvs) H1 Q E
def Binds (K : PySem.W.Frag) (fd : FuncData) (ps : List Str) (ds : List Value) : Prop :=
 ∀ (s : Shared) (us : List Value), K.In s.heap → (us ++ ds).length = ps.length → BindsTo s fd ⟨us, []⟩ (ps.zip (us ++ ds))
theorem Binds.all {K : PySem.W.Frag} {fd : FuncData} {ps : List Str} (h : ∀ us : List Value, us.length = ps.length → bindArgs fd ⟨us, []⟩ = pure (ps.zip us)) : Binds K fd ps [] := fun s us _ hl => by
 rw [List.append_nil] at hl ⊢
 exact .of_eq (h us hl)
def Passes (CX : CXT) (X : Cx) (E : XK) : Prop := ∀ (pins : List (Addr × Obj)) (σ : St) (H : Hp) (s : Shared) (e : Value) (s' : Shared), Inv X pins σ H s → CX X.stack H s E e s' → X.xe e s'
section
variable {X : Cx} {CX : CXT} {k : Nat} {f C : Addr} {fd : FuncData} {ps : List Str} {sp : Sp} {dvs : List V} {ds : List Value} {E : XK} {x m : Str} {p pos apos : Pos} {e o : Expr} {es : List Expr} {ta : TE} {t : TA}
theorem run_fn {pins : List (Addr × Obj)} {σ : St} {H : Hp} {s : Shared} {Q : VK} {us : List Value} {vs : List V} (F : FnOk X.prog X.w X.K X.mg X.base CX k f fd ps sp) (hr : Room k X.A) (hb : Binds X.K fd ps ds) (hd : Vals dvs ds) (hx : Passes CX X E)
    (I : Inv X pins σ H s) (r : Vals vs us) (h : sp (vs ++ dvs) H Q E) : wpAny (model X.prog X.w) X.A (call (.ref f) us) (EP X pins σ Q) X.xe s := by
  have r2 : Vals (vs ++ dvs) (us ++ ds) := r.append hd
  have hl : (us ++ ds).length = ps.length := by rw [← r2.length]; exact F.len _ _ _ _ h
  refine wpAny_call (codeAny_mono (F.run X.A X.stack s H ⟨us, []⟩ (us ++ ds) (vs ++ dvs) Q E hr I.env0 (hb s us I.kIn hl) r2 h) fun r s' hq => ?_)
  cases r with
  | error e => exact hx pins σ H s e s' I hq
  | ok fl =>
    cases fl with
    | ret u => exact I.after hq
    | next => exact False.elim hq
    | brk => exact False.elim hq
    | cont => exact False.elim hq
theorem pe_call (F : FnOk X.prog X.w X.K X.mg X.base CX k f fd ps sp) (hr : Room k X.A) (hg : Gl X x) (hm : X.mg x = some (.ref f)) (hk : PySem.W.keepIn X.K (.ref f) = true) (hb : Binds X.K fd ps ds) (hd : Vals dvs ds) (hx : Passes CX X E)
  (ha : PA X (e :: es) t) (hdb : (x == ("__debug__" : Str)) = false := by decide) (he : starEach (e :: es) X.env = (false, eval e X.env) :: starEach es X.env := by rfl) (hpl : (backTo pos (starEach es X.env)).any (·.1) = false := by rfl) :
  PE X (.Call (.Name x p) (e :: es) [] pos) (tCall sp dvs E t) := by
 intro pins s σ H Q I h
 refine wpAny_Call_Name_kw (ld_glob I hg hm ?_ hdb)
 refine PySem.W.callWith_K (h₀ := X.base) I.ok.mod.kin hk (thn (ha pos pins s σ H _ I h) fun us s1 ⟨vs, H1, I1, r, q⟩ => ⟨I1.kIn, ?_⟩) he hpl
 exact run_fn F hr hb hd hx I1 r q
structure Mk (K : PySem.W.Frag) (C f : Addr) : Prop where
 makes : PySem.W.makesIn K C = true
 init : PySem.W.findIn K (.ref C) "__init__" = some (some (.ref f))
 fn : PySem.W.isFn K (.ref f) = true
 kp : PySem.W.keepIn K (.ref C) = true
end
section
variable {X : Cx} {CX : CXT} {k : Nat} {f C : Addr} {fd : FuncData} {ps ks : List Str} {sp : Sp} {E : XK} {x m : Str} {p pos apos kpos : Pos} {e o : Expr} {es : List Expr} {kws : List Keyword} {te ta : TE} {t tk : TA} {nm : Option Str}
structure KBinds (K : PySem.W.Frag) (fd : FuncData) (ps ks : List Str) (g : List Value → List Value → List Value) (gV : List V → List V → List V) : Prop where
 to : ∀ (s : Shared) (us ws : List Value), K.In s.heap → (g us ws).length = ps.length → BindsTo s fd ⟨us, ks.zip ws⟩ (ps.zip (g us ws))
 rel : ∀ {vs : List V} {us : List Value} {zs : List V} {ws : List Value}, Vals vs us → Vals zs ws → Vals (gV vs zs) (g us ws)
variable {g : List Value → List Value → List Value} {gV : List V → List V → List V}
end
structure FnScope (N P : List Str) (sc : Scope) : Prop where
 kind : sc.kind = .function
 co : sc.isCoroutine = false
 gen : sc.isGenerator = false
 nd : N.Nodup
 pre : N.take P.length = P
 par : ∀ x ∈ P, sc.names.lookup x = some .local ∨ sc.names.lookup x = some .cell
 nofree : ∀ y ∈ sc.names, y.2 ≠ .free
theorem bindL_out {kindOf : Str → Option NameKind} {x : Str} : ∀ {binds : List (Str × Value)} {m : Str → Option Value}, (∀ v, (x, v) ∉ binds) → bindL kindOf binds m x = m x
  | [], _, _ => rfl
  | (n, v) :: r, m, h => by
    unfold bindL
    rw [bindL_out fun w hw => h w (List.mem_cons_of_mem _ hw)]
    split
    · have : x ≠ n := by rintro rfl; exact h v List.mem_cons_self
      simp [this]
    · rfl
theorem bindC_out {kindOf : Str → Option NameKind} {x : Str} : ∀ {binds : List (Str × Value)} {m : Str → Option Value}, (∀ v, (x, v) ∉ binds) → bindC kindOf binds m x = m x
  | [], _, _ => rfl
  | (n, v) :: r, m, h => by
    unfold bindC
    rw [bindC_out fun w hw => h w (List.mem_cons_of_mem _ hw)]
    split
    · rfl
    · have : x ≠ n := by rintro rfl; exact h v List.mem_cons_self
      simp [this]
theorem bindL_get {kindOf : Str → Option NameKind} {x : Str} {v : Value} : ∀ {P : List Str} {vs : List Value} {i : Nat} {m : Str → Option Value}, P.Nodup → P[i]? = some x → vs[i]? = some v → kindOf x = some .local →
    bindL kindOf (P.zip vs) m x = some v
  | [], _, _, _, _, h, _, _ => by simp at h
  | _ :: _, [], _, _, _, _, h, _ => by simp at h
  | p :: P, w :: vs, 0, m, nd, h1, h2, hk => by
    simp at h1 h2; subst h1; subst h2
    show bindL kindOf ((p, w) :: P.zip vs) m p = _
    unfold bindL
    rw [bindL_out fun v hv => (List.nodup_cons.mp nd).1 (List.of_mem_zip hv).1, if_pos hk]
    simp
  | p :: P, w :: vs, i + 1, m, nd, h1, h2, hk => by
    show bindL kindOf ((p, w) :: P.zip vs) m x = _
    unfold bindL
    exact bindL_get (i := i) (List.nodup_cons.mp nd).2 (by simpa using h1) (by simpa using h2) hk
theorem bindC_get {kindOf : Str → Option NameKind} {x : Str} {v : Value} : ∀ {P : List Str} {vs : List Value} {i : Nat} {m : Str → Option Value}, P.Nodup → P[i]? = some x → vs[i]? = some v → kindOf x ≠ some .local →
    bindC kindOf (P.zip vs) m x = some v
  | [], _, _, _, _, h, _, _ => by simp at h
  | _ :: _, [], _, _, _, _, h, _ => by simp at h
  | p :: P, w :: vs, 0, m, nd, h1, h2, hk => by
    simp at h1 h2; subst h1; subst h2
    show bindC kindOf ((p, w) :: P.zip vs) m p = _
    unfold bindC
    rw [bindC_out fun v hv => (List.nodup_cons.mp nd).1 (List.of_mem_zip hv).1, if_neg hk]
    simp
  | p :: P, w :: vs, i + 1, m, nd, h1, h2, hk => by
    show bindC kindOf ((p, w) :: P.zip vs) m x = _
    unfold bindC
    exact bindC_get (i := i) (List.nodup_cons.mp nd).2 (by simpa using h1) (by simpa using h2) hk
def start (N : List Str) (vs : List V) : St := vs.map some ++ List.replicate (N.length - vs.length) none
def cxOf (CX : CXT) (P : Program) (w : World) (K : PySem.W.Frag) (mg : Str → Option Value) (base : Heap) (N : List Str) (qual : Str) (scope : Scope) (f : Addr) (cd : Value) (A : Around) (outer : List Env) (s : Shared) (H : Hp) (E : XK) : Cx where
 prog := P
 w := w
 K := K
 mg := mg
 base := base
 A := A.deeper (envOfC qual scope s.heap.objs.size f cd)
 N := N
 s₀ := s
 H₀ := H
 env := envOfC qual scope s.heap.objs.size f cd
 outer := outer
 stack := envOfC qual scope s.heap.objs.size f cd :: outer
 ex := []
 calm := true
 fn := fun _ => true
 pn := []
 xe := fun e s' => wpAny (model P w) (A.deeper (envOfC qual scope s.heap.objs.size f cd)) (leaving (envOfC qual scope s.heap.objs.size f cd) e) (fun _ s'' => CX outer H s E e s'') (fun e' s'' => CX outer H s E e' s'') s'
theorem cell_has {sc : Scope} {n : Nat} {x : Str} (h : sc.names.lookup x = some .cell) : ∃ c, (cellsFrom n sc.names []).lookup x = some c := by
 have q := PySem.W.cellsFrom_some sc.names n [] (.inl h)
 exact Option.isSome_iff_exists.mp q
theorem inv_start {CX : CXT} {P : Program} {w : World} {K : PySem.W.Frag} {mg : Str → Option Value} {base : Heap} {N ps : List Str} {qual : Str} {scope : Scope} {f : Addr} {cd : Value} {A : Around} {outer : List Env} {s s1 : Shared} {H : Hp} {E : XK} {us : List Value} {vs : List V}
  (S : FnScope N ps scope) (hd : A.handled = none) (e0 : Env0 P w K mg base A outer s H) (hl : vs.length = ps.length) (r : Vals vs us)
  (x : InCallC s s.heap.objs.size (bindL (envOfC qual scope s.heap.objs.size f cd).kindOf (ps.zip us) fun _ => none) (cellsFrom (s.heap.objs.size + 1) scope.names []) (bindC (envOfC qual scope s.heap.objs.size f cd).kindOf (ps.zip us) fun _ => none) s1) :
  Inv (cxOf CX P w K mg base N qual scope f cd A outer s H E) [] (start N vs) H s1 := by
 have hpl : ps.length ≤ N.length := by have := congrArg List.length S.pre; rw [List.length_take] at this; omega
 obtain ⟨h1, tk, rfl, hk⟩ := x.done
 have noA : ∀ b : Addr, b ∉ (cxOf CX P w K mg base N qual scope f cd A outer s H E).ex := fun b z => absurd (show b ∈ ([] : List Addr) from z) (by simp)
 refine ⟨⟨e0.mod, S.kind, rfl, rfl, Nat.le_refl _, fun y z c h1 h2 => ?_, fun y hy => ?_, fun y c _ h => ?_, fun _ => hd, Around.frames_deeper e0.frames, .inr ⟨rfl, rfl⟩, fun b z => absurd z (noA b), e0.bs, e0.bsz, fun b _ _ => noA b, fun b z => absurd z (noA b), e0.funs, e0.frf⟩,
  rfl, e0.bare, Un.kept hk, ⟨_, x.toInCall.ns, fun i y v h1 h2 h3 => ?_⟩, fun y c h => ⟨_, x.cell y c h⟩, e0.hok.fresh (Nat.le_refl _), fun y c h => ?_, fun p hp => absurd (show p ∈ ([] : List (Addr × Obj)) from hp) (by simp), e0.hok.kept hk, ?_⟩
 ·exact name_of_addr x.apart (PySem.mem_of_lookup h1) (PySem.mem_of_lookup h2)
 ·have hy : scope.names.lookup y = some .cell ∨ scope.names.lookup y = some .free := hy
  rcases hy with hy | hy
  ·exact cell_has hy
  ·exact absurd rfl (S.nofree _ (PySem.mem_of_lookup hy))
 ·exact Nat.le_of_lt (x.above y c (PySem.mem_of_lookup h))
 ·have hi : i < vs.length := by
   unfold start at h2
   by_cases hi : i < vs.length
   ·exact hi
   ·rw [List.getElem?_append_right (by simpa using hi)] at h2
    rw [List.getElem?_replicate] at h2
    split at h2 <;> cases h2
  have ha : vs[i]? = some v := by
   unfold start at h2
   rw [List.getElem?_append_left (by simpa using hi), List.getElem?_map] at h2
   cases e : vs[i]? with
   | none => rw [e] at h2; cases h2
   | some a => rw [e] at h2; cases h2; rfl
  obtain ⟨u, hu, rv⟩ := r.get ha
  have hp : ps[i]? = some y := by
   rw [← S.pre, List.getElem?_take_of_lt (by omega)]; exact h1
  have ndP : ps.Nodup := by rw [← S.pre]; exact S.nd.sublist (List.take_sublist _ _)
  refine ⟨u, rv, ?_⟩
  rcases S.par y (List.mem_of_getElem? hp) with k | k
  ·exact .inl ⟨k, bindL_get ndP hp hu k⟩
  ·obtain ⟨c, e⟩ := cell_has (n := s.heap.objs.size + 1) k
   refine .inr ⟨.inl k, c, e, ?_⟩
   have q := x.cell y c e
   rw [bindC_get ndP hp hu (by show scope.names.lookup y ≠ _; rw [k]; decide)] at q
   exact q
 ·exact e0.hok.fresh (Nat.le_of_lt (x.above y c (PySem.mem_of_lookup h)))
 ·unfold start
  show _ = N.length
  rw [List.length_append, List.length_map, List.length_replicate]
  omega
theorem fn_of {CX : CXT} {P : Program} {w : World} {K : PySem.W.Frag} {mg : Str → Option Value} {base : Heap} {k : Nat} {f : Addr} {name qual : Str} {params : Arguments} {body : List Stmt} {scope : Scope} {dV kV doc pm cdv ct oc : Value} {an od : Option Addr}
    {osl : Array (Option Value)} {N ps : List Str} {sp : Sp} (lk : K.lookup f = some ⟨oc, od, .func (PySem.W.fnOf name qual params body scope dV kV doc pm an cdv ct), osl⟩) (hcd : PySem.W.codeIn K cdv qual = true) (S : FnScope N ps scope)
    (len : ∀ vs H Q E, sp vs H Q E → vs.length = ps.length)
    (hbody : ∀ (A : Around) (outer : List Env) (s : Shared) (H : Hp) (vs : List V) (Q : VK) (E : XK), Room k (A.deeper (envOfC qual scope s.heap.objs.size f cdv)) → sp vs H Q E →
      ∃ t, PSs (cxOf CX P w K mg base N qual scope f cdv A outer s H E) body t ∧ t { nx := fun _ H' => Q .non H', rt := Q } (start N vs) H) :
    FnOk P w K mg base CX (k + 1) f (PySem.W.fnOf name qual params body scope dV kV doc pm an cdv ct) ps sp := by
  refine ⟨len, fun A outer s H args us vs Q E hr e0 hb r hsp => ?_⟩
  have hl := len _ _ _ _ hsp
  have KX : K.In s.heap := e0.mod.kin.keeps fun b o e => (e0.bs b o e).1
  have lim : s.heap.NoLimit := e0.mod.nolimit.keeps fun b o e => (e0.bs b o e).1
  have hkind : ∀ y ∈ ps.zip us, scope.names.lookup y.1 = some .local ∨ (scope.names.lookup y.1 = some .cell ∧ ((cellsFrom (s.heap.objs.size + 1) scope.names []).lookup y.1).isSome = true) := fun ⟨n, v⟩ hy => by
    rcases S.par n (List.of_mem_zip hy).1 with q | q
    · exact .inl q
    · exact .inr ⟨q, PySem.W.cellsFrom_some _ _ _ (.inl q)⟩
  refine codeAny_call_function hr.depth (KX _ _ lk) rfl S.co S.gen rfl (PySem.W.codeRec_of KX hcd) (hb _ _ _ _ ?_)
  refine wpAny_newFunctionEnv_cells S.kind hkind fun env he s1 x => ?_
  subst he
  refine ⟨lim.keeps x.toInCall.keep, codeAny_func ?_⟩
  obtain ⟨t, ht, hq⟩ := hbody A outer s H vs Q E (hr.deeper _) hsp
  have I : Inv (cxOf CX P w K mg base N qual scope f cdv A outer s H E) [] (start N vs) H s1 := inv_start S hr.hd e0 hl r x
  refine wpAny_mono (ht [] s1 (start N vs) H _ I hq) (fun fl s' hs => ?_) fun e s' hs => hs
  have fin : ∀ {σ' : St} {H' : Hp} {v : V} {u : Value}, Inv (cxOf CX P w K mg base N qual scope f cdv A outer s H E) [] σ' H' s' → RelV v u → Q v H' → CE outer P w H s Q u s' :=
    fun {σ' H' v u} J rv q => ⟨v, H', J.os, J.bare, J.base, J.hok, rv, q⟩
  cases fl with
  | ret u =>
    obtain ⟨v, σ', H', J, rv, q⟩ := hs
    exact fin J rv q
  | next =>
    obtain ⟨σ', H', J, q⟩ := hs
    exact fin (v := V.non) (u := Value.none) J rfl q
  | brk =>
    obtain ⟨_, _, _, q⟩ := hs
    exact False.elim q
  | cont =>
    obtain ⟨_, _, _, q⟩ := hs
    exact False.elim q
end L2
namespace L2
open PySem PySem.Spec PyProof.Rows
section
variable {X : Cx} {x : Str} {p pos : Pos} {e : Expr} {es : List Expr} {t : TA} {id T : String} {r : List V → Hp → VK → Prop}
def tCB (r : List V → Hp → VK → Prop) (t : TA) : TE := fun σ H Q => t σ H fun vs H1 => r vs H1 Q
theorem pe_callB (hc : CallR X (.builtin id) r) (hg : Gl X x) (hm : X.mg x = none) (hv : bootBuiltins x = some (.builtin id)) (ha : PA X (e :: es) t) (hn : x ≠ "__name__" := by decide) (hdb : (x == ("__debug__" : Str)) = false := by decide)
  (he : starEach (e :: es) X.env = (false, eval e X.env) :: starEach es X.env := by rfl) (hpl : (backTo pos (starEach es X.env)).any (·.1) = false := by rfl) : PE X (.Call (.Name x p) (e :: es) [] pos) (tCB r t) := by
 intro pins s σ H Q I h
 refine wpAny_Call_Name_kw (ld_blt I hg hm hv ?_ hn hdb)
 exact PyProof.Rows.callWith_builtin1 (thn (ha pos pins s σ H _ I h) fun us s1 ⟨vs, H1, I1, r1, q1⟩ => hc pins s1 σ H1 vs us Q I1 r1 q1) he hpl
theorem pe_callTy (hc : CallR X (.type T) r) (hg : Gl X x) (hm : X.mg x = none) (hv : bootBuiltins x = some (.type T)) (ha : PA X (e :: es) t) (hn : x ≠ "__name__" := by decide) (hdb : (x == ("__debug__" : Str)) = false := by decide)
  (he : starEach (e :: es) X.env = (false, eval e X.env) :: starEach es X.env := by rfl) (hpl : (backTo pos (starEach es X.env)).any (·.1) = false := by rfl) : PE X (.Call (.Name x p) (e :: es) [] pos) (tCB r t) := by
 intro pins s σ H Q I h
 refine wpAny_Call_Name_kw (ld_blt I hg hm hv ?_ hn hdb)
 exact PyProof.Rows.callWith_type1 (thn (ha pos pins s σ H _ I h) fun us s1 ⟨vs, H1, I1, r1, q1⟩ => hc pins s1 σ H1 vs us Q I1 r1 q1) he hpl
end
end L2
namespace HT
open PySem PyProof.Rows
section
open PySem.SeqAt
open PySem.AutoSeq1 (wpAny_loadPart')
open PySem.MeetsSeq PySem.MeetsSeq2 PySem.MeetsSeq3
end
section
variable {prog : Program} {w : World} {A : Around} {E : Value → Shared → Prop} {s : Shared}
def sIx (n d : Nat) : Option Int → Nat
 | none => d
 | some v => if v < 0 then (v + (n : Int)).toNat else min v.toNat n
theorem sIx_none (n d : Nat) : sIx n d none = d := rfl
theorem sIx_nat (n d k : Nat) : sIx n d (some (k : Int)) = min k n := by
 show (if (k : Int) < 0 then ((k : Int) + (n : Int)).toNat else min (k : Int).toNat n) = min k n
 rw [if_neg (by omega), Int.toNat_natCast]
end
end HT
namespace L2
open PySem PySem.Spec PyProof.Rows
abbrev TO := St → Hp → (Option Int → Hp → Prop) → Prop
def PO (X : Cx) (e : Option Expr) (t : TO) : Prop :=
 ∀ (pins : List (Addr × Obj)) (s : Shared) (σ : St) (H : Hp) (Q : Option Int → Hp → Prop), Inv X pins σ H s → t σ H Q →
  wpAny (model X.prog X.w) X.A (evalPart e X.env) (fun u s' => ∃ o H', Inv X pins σ H' s' ∧ IsPart u o ∧ Q o H') X.xe s
def tNoPart : TO := fun _ H Q => Q none H
def tPart (t : TE) : TO := fun σ H Q => t σ H fun x H1 => ∃ i, x = .int i ∧ Q (some i) H1
section
variable {X : Cx} {e : Expr} {te : TE} {lo hi : Option Expr} {tl th : TO} {pos p2 : Pos}
theorem po_none : PO X none tNoPart := by
 intro pins s σ H Q I h
 rw [evalPart_none]
 exact wpAny_pure ⟨none, H, I, .none, h⟩
theorem po_some (h : PE X e te) : PO X (some e) (tPart te) := by
 intro pins s σ H Q I hw
 rw [evalPart_some]
 refine thn (h pins s σ H _ I hw) fun u s1 ⟨x, H1, I1, r1, q1⟩ => ?_
 obtain ⟨i, rfl, q⟩ := q1
 obtain ⟨t, rfl⟩ := r1
 exact ⟨some i, H1, I1, .int i t, q⟩
def SlR (X : Cx) (r : V → Option Int → Option Int → Hp → VK → Prop) : Prop :=
 ∀ (pins : List (Addr × Obj)) (s : Shared) (σ : St) (H : Hp) (x : V) (v vl vu : Value) (lo hi : Option Int) (sl : Addr) (Q : VK), Inv X pins σ H s → RelV x v → s.heap.IsSliceOf sl vl vu .none → IsPart vl lo → IsPart vu hi → r x lo hi H Q →
  ∃ T id, typeLookup (.type T) "__getitem__" = pure (some (.builtin id)) ∧ s.TypeIs v T ∧ wpAny (model X.prog X.w) X.A (getItem v (.ref sl)) (EP X pins σ Q) X.xe s
theorem SlR.or {r r' : V → Option Int → Option Int → Hp → VK → Prop} (h : SlR X r) (h' : SlR X r') : SlR X (fun x lo hi H Q => r x lo hi H Q ∨ r' x lo hi H Q) := by
 intro pins s σ H x v vl vu lo hi sl Q I rx hs pl pu q
 rcases q with q | q
 ·exact h pins s σ H x v vl vu lo hi sl Q I rx hs pl pu q
 ·exact h' pins s σ H x v vl vu lo hi sl Q I rx hs pl pu q
def tSl (r : V → Option Int → Option Int → Hp → VK → Prop) (te : TE) (tl th : TO) : TE := fun σ H Q => te σ H fun x H1 => tl σ H1 fun l H2 => th σ H2 fun u H3 => r x l u H3 Q
theorem pe_slice {r : V → Option Int → Option Int → Hp → VK → Prop} (hr : SlR X r) (he : PE X e te) (hl : PO X lo tl) (hu : PO X hi th) : PE X (.Subscript e (.Slice lo hi none p2) pos) (tSl r te tl th) := by
 intro pins s σ H Q I h
 refine Subscript_ (thn (he pins s σ H _ I h) fun v s1 ⟨x, H1, I1, r1, q1⟩ => ?_)
 refine wpAny_Slice (thn (hl pins s1 σ H1 _ I1 q1) fun vl s2 ⟨l, H2, I2, pl, q2⟩ => thn (hu pins s2 σ H2 _ I2 q2) fun vu s3 ⟨u, H3, I3, pu, q3⟩ => ?_)
 rw [evalPart_none]
 refine wpAny_pure ?_
 have I4 : Inv X pins σ H3 { s3 with heap := s3.heap.push { cls := .type "slice", data := .fields #[vl, vu, .none] } } := I3.kept (t' := s3.toks) fun b ob q => Heap.get?_push_of_some _ q
 obtain ⟨T, id, hT, ht, hg⟩ := hr pins { s3 with heap := s3.heap.push { cls := .type "slice", data := .fields #[vl, vu, .none] } } σ H3 x v vl vu l u s3.heap.objs.size Q I4 r1 (Heap.IsSliceOf.new ..) pl pu q3
 show wpAny (model X.prog X.w) X.A (subscriptTail e (.Slice lo hi none p2) v (.ref s3.heap.objs.size)) (EP X pins σ Q) X.xe { s3 with heap := s3.heap.push { cls := .type "slice", data := .fields #[vl, vu, .none] } }
 exact tail_any (ops := [.ref s3.heap.objs.size, v]) ht hT hg (by with_unfolding_all rfl)
def cutV (xs : List V) (lo hi : Option Int) : List V := (xs.drop (HT.sIx xs.length 0 lo)).take (HT.sIx xs.length xs.length hi - HT.sIx xs.length 0 lo)
theorem cutV_length (xs : List V) (lo hi : Option Int) : (cutV xs lo hi).length ≤ xs.length := by
 unfold cutV
 rw [List.length_take, List.length_drop]
 omega
end
end L2
namespace L2
open PySem PySem.Spec PyProof.Rows
def ixN (n : Nat) (i : Int) : Option Nat := if 0 ≤ i then (if i < n then some i.toNat else none) else if -(n : Int) ≤ i then some (i + n).toNat else none
def atI {α : Type} (xs : List α) (i : Int) : Option α := (ixN xs.length i).bind fun j => xs[j]?
theorem ixN_seq {n : Nat} {i : Int} {j : Nat} (h : ixN n i = some j) : seqIndex? i n = some j ∧ j < n ∧ -(n : Int) ≤ i ∧ i < n := by
 unfold ixN at h
 by_cases h0 : 0 ≤ i
 ·rw [if_pos h0] at h
  by_cases h1 : i < n
  ·rw [if_pos h1] at h
   have e : i.toNat = j := Option.some.inj h
   exact ⟨by rw [seqIndex_of h0 h1, e], by omega, by omega, h1⟩
  ·rw [if_neg h1] at h; cases h
 ·rw [if_neg h0] at h
  by_cases h1 : -(n : Int) ≤ i
  ·rw [if_pos h1] at h
   have e : (i + n).toNat = j := Option.some.inj h
   exact ⟨by rw [seqIndex_neg (by omega) h1, e], by omega, h1, by omega⟩
  ·rw [if_neg h1] at h; cases h
theorem atI_get {α : Type} {xs : List α} {i : Int} {v : α} (h : atI xs i = some v) : ∃ j, seqIndex? i xs.length = some j ∧ xs[j]? = some v ∧ j < xs.length ∧ -(xs.length : Int) ≤ i ∧ i < xs.length := by
  unfold atI at h
  cases e : ixN xs.length i with
  | none => rw [e] at h; cases h
  | some j =>
    rw [e] at h
    obtain ⟨h1, h2, h3, h4⟩ := ixN_seq e
    exact ⟨j, h1, h, h2, h3, h4⟩
theorem atI_nat {α : Type} {xs : List α} {j : Nat} {v : α} (h : xs[j]? = some v) : atI xs (j : Int) = some v := by
 have hj : j < xs.length := (List.getElem?_eq_some_iff.mp h).1
 have e : ixN xs.length (j : Int) = some j := by
  unfold ixN
  rw [if_pos (by omega), if_pos (by omega)]; simp
 unfold atI; rw [e]; exact h
def PlainIx (b : Expr) : Prop := ∀ o i, subscripted b false o i = operate [o, i] (getItem o i)
def IxR (X : Cx) (r : R2) : Prop :=
 ∀ (value slice : Expr) (pins : List (Addr × Obj)) (s : Shared) (σ : St) (H : Hp) (x y : V) (v u : Value) (Q : VK), Inv X pins σ H s → RelV x v → RelV y u → r x y H Q →
  subscripted slice false v u = operate [v, u] (getItem v u) → wpAny (model X.prog X.w) X.A (subscriptTail value slice v u) (EP X pins σ Q) X.xe s
def MtR (X : Cx) (id : String) (r : V → List V → Hp → VK → Prop) : Prop :=
 ∀ (pins : List (Addr × Obj)) (s : Shared) (σ : St) (H : Hp) (x : V) (xs : List V) (v : Value) (us : List Value) (Q : VK), Inv X pins σ H s → RelV x v → Vals xs us → r x xs H Q →
  wpAny (model X.prog X.w) X.A (call (.builtin id) (v :: us)) (EP X pins σ Q) X.xe s
section
variable {X : Cx} {a b : Expr} {ta tb : TE} {pos : Pos}
theorem IxR.or {r r' : R2} (h : IxR X r) (h' : IxR X r') : IxR X (fun x y H Q => r x y H Q ∨ r' x y H Q) := by
 intro value slice pins s σ H x y v u Q I rx ry q hs
 rcases q with q | q
 ·exact h value slice pins s σ H x y v u Q I rx ry q hs
 ·exact h' value slice pins s σ H x y v u Q I rx ry q hs
theorem pe_ix {r : R2} (hr : IxR X r) (ha : PE X a ta) (hb : PE X b tb) (hs : PlainIx b) : PE X (.Subscript a b pos) (tOp r ta tb) := by
 intro pins s σ H Q I h
 exact Subscript_ (binT ha hb I h fun v u s2 x y H2 I2 rx ry q => hr a b pins s2 σ H2 x y v u Q I2 rx ry q (hs _ _))
def rIxL (K : PySem.W.Frag) : R2 := fun x y H Q => ∃ p xs i v, x = .ref p ∧ y = .int i ∧ SqL K H p xs ∧ atI xs i = some v ∧ Q v H
def rIxT (K : PySem.W.Frag) : R2 := fun x y H Q => ∃ p xs i v, x = .ref p ∧ y = .int i ∧ SqT K H p xs ∧ atI xs i = some v ∧ Q v H
def rIxS : R2 := fun x y H Q => ∃ z i c, x = .str z ∧ y = .int i ∧ z.length ≤ sizeLine ∧ atI z.cps.toList i = some c ∧ Q (.str ⟨#[c]⟩) H
theorem ix_list : IxR X (rIxL X.K) := by
 intro value slice pins s σ H x y v u Q I rx ry h hs
 obtain ⟨p, xs, i, z, rfl, rfl, hq, he, q⟩ := h
 cases rx
 obtain ⟨t, rfl⟩ := ry
 obtain ⟨its, r, pl, hz⟩ := I.list hq
 obtain ⟨j, h1, h2, h3, h4, h5⟩ := atI_get he
 obtain ⟨w, ew, rw'⟩ := r.get h2
 have hl := r.length
 have hn := line63
 have fin : EP X pins σ Q w s := ⟨z, H, I, rw', q⟩
 by_cases h0 : 0 ≤ i
 ·have hj : i.toNat = j := by
   rw [seqIndex_of h0 h5] at h1
   exact Option.some.inj h1
  exact item_listR pl.isList h0 (by omega) (by rw [hj]; simpa using ew) fin hs
 ·have hj : (i + (its.toArray.size : Int)).toNat = j := by
   rw [seqIndex_neg (by omega) h4] at h1
   rw [List.size_toArray, ← hl]
   exact Option.some.inj h1
  exact subscriptTail_builtinR (x := w) pl.isList.typeIs slot_list_getitem.lookup
   (wpAny_getItem_list_neg (Q := fun r s' => r = w ∧ EP X pins σ Q r s') pl.isList (by omega) (by rw [List.size_toArray] <;> omega) (by omega) (by rw [hj]; simpa using ew) ⟨rfl, fin⟩) hs
theorem ix_tup : IxR X (rIxT X.K) := by
 intro value slice pins s σ H x y v u Q I rx ry h hs
 obtain ⟨p, xs, i, z, rfl, rfl, hq, he, q⟩ := h
 cases rx
 obtain ⟨t, rfl⟩ := ry
 obtain ⟨its, r, pl, hz⟩ := I.tuple hq
 obtain ⟨j, h1, h2, h3, h4, h5⟩ := atI_get he
 obtain ⟨w, ew, rw'⟩ := r.get h2
 have hl := r.length
 have hn := line63
 have fin : EP X pins σ Q w s := ⟨z, H, I, rw', q⟩
 exact subscriptTail_builtinR (x := w) pl.typeIs slot_tuple_getitem.lookup
  (getItem_tuple (j := j) (Q := fun r s' => r = w ∧ EP X pins σ Q r s') pl (by omega) (by omega) (by rw [List.size_toArray, ← hl]; exact h1) (by simpa using ew) ⟨rfl, fin⟩) hs
theorem ix_str : IxR X rIxS := by
 intro value slice pins s σ H x y v u Q I rx ry h hs
 obtain ⟨z, i, c, rfl, rfl, hz, he, q⟩ := h
 obtain ⟨t, rfl⟩ := rx
 obtain ⟨t', rfl⟩ := ry
 obtain ⟨j, h1, h2, h3, h4, h5⟩ := atI_get he
 have hl : z.cps.toList.length = z.length := by simp [Str.length]
 rw [hl] at h1 h4 h5
 have hn := line63
 exact tail_any (typeIs_str s z t) slot_str_getitem.lookup (getItem_str (c := c) (by
  have e1 : decide (i < -(2 ^ 63 : Int)) = false := decide_eq_false (by omega)
  have e2 : decide (i ≥ 2 ^ 63) = false := decide_eq_false (by omega)
  rw [e1, e2, Bool.or_false]) (by rw [h1]; simpa using h2) ⟨.str ⟨#[c]⟩, H, I.tok _, ⟨_, rfl⟩, q⟩) hs
def rIx (K : PySem.W.Frag) : R2 := fun x y H Q => rIxL K x y H Q ∨ rIxT K x y H Q ∨ rIxS x y H Q
theorem Inv.lst {pins : List (Addr × Obj)} {σ : St} {H : Hp} {s : Shared} {p : Addr} {xs : List V} (I : Inv X pins σ H s) (h : H p = some (.lst xs)) :
  ∃ (its : List Value) (n : Nat), Vals xs its ∧ s.heap.get? p = some { cls := .type "list", data := .seq its.toArray n } ∧ xs.length ≤ sizeLine := by
 obtain ⟨z, its, n, r, e⟩ := I.hok p _ h
 exact ⟨its, n, r, e, z⟩
theorem slice_bounds (lo hi : Option Int) (n : Nat) : (sliceBounds lo hi none n).1 = ((HT.sIx n 0 lo : Nat) : Int) ∧ (sliceBounds lo hi none n).2.1 = ((HT.sIx n n hi : Nat) : Int) ∧ (sliceBounds lo hi none n).2.2 = 1 := by
  refine ⟨?_, ?_, rfl⟩
  · cases lo with
    | none => simp [sliceBounds, HT.sIx]
    | some i =>
      simp only [sliceBounds, HT.sIx, Option.getD_none, show (1 : Int) > 0 by decide, if_true]
      by_cases h : i < 0
      · simp only [h, if_true] <;> omega
      · simp only [h, if_false] <;> omega
  · cases hi with
    | none => simp [sliceBounds, HT.sIx]
    | some i =>
      simp only [sliceBounds, HT.sIx, Option.getD_none, show (1 : Int) > 0 by decide, if_true]
      by_cases h : i < 0
      · simp only [h, if_true] <;> omega
      · simp only [h, if_false] <;> omega
theorem slicePick_cut (its : List Value) (lo hi : Option Int) : slicePick its.toArray lo hi none = ((its.drop (HT.sIx its.length 0 lo)).take (HT.sIx its.length its.length hi - HT.sIx its.length 0 lo)).toArray := by
 obtain ⟨h1, h2, h3⟩ := slice_bounds lo hi its.toArray.size
 unfold slicePick
 rw [h1, h2, h3]
 simp only [sliceRange_one, pick_run, List.size_toArray] <;> rfl
def rSlL (K : PySem.W.Frag) : V → Option Int → Option Int → Hp → VK → Prop := fun x lo hi H Q => ∃ a xs, x = .ref a ∧ SqL K H a xs ∧ ∀ p, H p = none → Q (.ref p) (upd H p (.lst (cutV xs lo hi)))
theorem sl_list : SlR X (rSlL X.K) := by
 intro pins s σ H x v vl vu lo hi sl Q I rx hs pl pu h
 obtain ⟨a, xs, rfl, hx, q⟩ := h
 cases rx
 obtain ⟨its, r, ht, hz⟩ := I.list hx
 have hlen := r.length
 refine ⟨"list", _, slot_list_getitem.lookup, ht.isList.typeIs, ?_⟩
 refine wpAny_getItem_list_slice ht.isList hs pl pu .none (by simp) ?_ (by rw [List.size_toArray] <;> omega)
 rw [slicePick_cut, ← hlen]
 refine ⟨.ref s.heap.objs.size, _, I.laid (t' := s.toks) (o := .lst (cutV xs lo hi)) (fun b ob q => Heap.get?_push_of_some _ q) (Nat.le_refl _) ?_, rfl, q _ (I.hok.fresh (Nat.le_refl _))⟩
 exact ⟨Nat.le_trans (cutV_length xs lo hi) hz, _, 0, (r.drop (HT.sIx xs.length 0 lo)).take (HT.sIx xs.length xs.length hi - HT.sIx xs.length 0 lo), Heap.get?_push_size _ rfl⟩
def flatV : V → Bool
 | .non => true
 | .bl _ => true
 | .int _ => true
 | .str _ => true
 | _ => false
def eqV : V → V → Bool
 | .non, .non => true
 | .bl a, .bl b => a == b
 | .bl a, .int b => (if a then 1 else 0) == b
 | .int a, .bl b => a == (if b then 1 else 0)
 | .int a, .int b => a == b
 | .str a, .str b => a == b
 | _, _ => false
theorem eqAt_V {A : Around} {s : Shared} {y x : V} {u v : Value} (ry : RelV y u) (rx : RelV x v) (fy : flatV y = true) (fx : flatV x = true) : SeqAt.EqAt A s u v (eqV y x) := by
  cases y with
  | non =>
    cases ry
    cases x with
    | non => cases rx; exact SeqAt.EqAt.same _
    | bl b => cases rx; exact SeqAt.EqAt.none_bool b
    | int b => obtain ⟨t, rfl⟩ := rx; exact SeqAt.EqAt.none_int b t
    | str b => obtain ⟨t, rfl⟩ := rx; exact SeqAt.EqAt.none_str b t
    | _ => exact absurd (show false = true from fx) Bool.false_ne_true
  | bl a =>
    cases ry
    cases x with
    | non => cases rx; exact SeqAt.EqAt.bool_none a
    | bl b => cases rx; exact SeqAt.EqAt.bool_bool a b
    | int b => obtain ⟨t, rfl⟩ := rx; exact SeqAt.EqAt.bool_int a b t
    | str b => obtain ⟨t, rfl⟩ := rx; exact SeqAt.EqAt.bool_str a b t
    | _ => exact absurd (show false = true from fx) Bool.false_ne_true
  | int a =>
    obtain ⟨t', rfl⟩ := ry
    cases x with
    | non => cases rx; exact SeqAt.EqAt.int_none a t'
    | bl b => cases rx; exact SeqAt.EqAt.int_bool a t' b
    | int b => obtain ⟨t, rfl⟩ := rx; exact SeqAt.EqAt.int_int a t' b t
    | str b => obtain ⟨t, rfl⟩ := rx; exact SeqAt.EqAt.int_str a t' b t
    | _ => exact absurd (show false = true from fx) Bool.false_ne_true
  | str a =>
    obtain ⟨t', rfl⟩ := ry
    cases x with
    | non => cases rx; exact SeqAt.EqAt.str_none a t'
    | bl b => cases rx; exact SeqAt.EqAt.str_bool a t' b
    | int b => obtain ⟨t, rfl⟩ := rx; exact SeqAt.EqAt.str_int a t' b t
    | str b => obtain ⟨t, rfl⟩ := rx; exact SeqAt.EqAt.str_str a t' b t
    | _ => exact absurd (show false = true from fx) Bool.false_ne_true
  | _ => exact absurd (show false = true from fy) Bool.false_ne_true
def eqU (x : V) (u : Value) : Bool := match u with
 | .none => eqV .non x
 | .bool b => eqV (.bl b) x
 | .int i _ => eqV (.int i) x
 | .str z _ => eqV (.str z) x
 | _ => false
theorem eqU_of {x y : V} {u : Value} (r : RelV y u) (f : flatV y = true) : eqU x u = eqV y x := by
 cases y with
 | non => cases r; rfl
 | bl b => cases r; rfl
 | int i => obtain ⟨t, rfl⟩ := r; rfl
 | str z => obtain ⟨t, rfl⟩ := r; rfl
 | _ => exact absurd (show false = true from f) Bool.false_ne_true
theorem any_eqU {x : V} : ∀ {xs : List V} {us : List Value}, Vals xs us → xs.all flatV = true → us.any (eqU x) = xs.any fun y => eqV y x
  | _, _, .nil, _ => rfl
  | y :: xs, u :: us, .cons r t, f => by
    rw [List.all_cons, Bool.and_eq_true] at f
    rw [List.any_cons, List.any_cons, eqU_of r f.1, any_eqU t f.2]
theorem mem_eqAt {A : Around} {s : Shared} {x : V} {v : Value} (rx : RelV x v) (fx : flatV x = true) : ∀ {xs : List V} {us : List Value}, Vals xs us → xs.all flatV = true → ∀ u ∈ us, SeqAt.EqAt A s u v (eqU x u)
  | _, _, .nil, _ => fun u hu => by cases hu
  | y :: xs, u :: us, .cons r t, f => fun u' hu => by
    rw [List.all_cons, Bool.and_eq_true] at f
    rcases List.mem_cons.mp hu with rfl | hu
    · rw [eqU_of r f.1]; exact eqAt_V r rx f.1 fx
    · exact mem_eqAt rx fx t f.2 u' hu
def inV (x : V) (xs : List V) : Bool := xs.any fun y => eqV y x
def rIn (K : PySem.W.Frag) (neg : Bool) : R2 := fun x y H Q => ∃ p xs, y = .ref p ∧ (SqL K H p xs ∨ SqT K H p xs) ∧ flatV x = true ∧ xs.all flatV = true ∧ Q (.bl (if neg then !inV x xs else inV x xs)) H
theorem op_in_seq : OpR X (compareOp .In) (rIn X.K false) := by
 intro pins s σ H x y v u Q I rx ry h
 obtain ⟨p, xs, rfl, hq, fx, fs, q⟩ := h
 cases ry
 rcases hq with hq | hq
 ·obtain ⟨its, r, pl, hz⟩ := I.list hq
  refine SeqAt.in_listAt (eqU x) pl.isList (fun w hw => mem_eqAt rx fx r fs w (by simpa using hw)) ⟨.bl _, H, I, rfl, ?_⟩
  rw [show its.toArray.any (eqU x) = its.any (eqU x) by simp, any_eqU r fs]
  exact q
 ·obtain ⟨its, r, pl, hz⟩ := I.tuple hq
  refine SeqAt.in_tupleAt (eqU x) pl (fun w hw => mem_eqAt rx fx r fs w (by simpa using hw)) ⟨.bl _, H, I, rfl, ?_⟩
  rw [show its.toArray.any (eqU x) = its.any (eqU x) by simp, any_eqU r fs]
  exact q
theorem op_notIn_seq : OpR X (compareOp .NotIn) (rIn X.K true) := by
 intro pins s σ H x y v u Q I rx ry h
 obtain ⟨p, xs, rfl, hq, fx, fs, q⟩ := h
 cases ry
 rcases hq with hq | hq
 ·obtain ⟨its, r, pl, hz⟩ := I.list hq
  refine SeqAt.notIn_listAt (eqU x) pl.isList (fun w hw => mem_eqAt rx fx r fs w (by simpa using hw)) ⟨.bl _, H, I, rfl, ?_⟩
  rw [show its.toArray.any (eqU x) = its.any (eqU x) by simp, any_eqU r fs]
  exact q
 ·obtain ⟨its, r, pl, hz⟩ := I.tuple hq
  refine SeqAt.notIn_tupleAt (eqU x) pl (fun w hw => mem_eqAt rx fx r fs w (by simpa using hw)) ⟨.bl _, H, I, rfl, ?_⟩
  rw [show its.toArray.any (eqU x) = its.any (eqU x) by simp, any_eqU r fs]
  exact q
theorem call_len_seq : CallR X (.builtin "len") (fun xs H Q => ∃ p ys, xs = [.ref p] ∧ (SqL X.K H p ys ∨ SqT X.K H p ys) ∧ Q (.int ys.length) H) := by
 intro pins s σ H xs us Q I r h
 obtain ⟨p, ys, rfl, hq, q⟩ := h
 obtain ⟨u, rfl, rx⟩ := vals1 r
 cases rx
 have hn := line63
 rcases hq with hq | hq
 ·obtain ⟨its, r', pl, hz⟩ := I.list hq
  have hlen := r'.length
  exact Calls.call_len_list pl.isList (by simp only [List.size_toArray] <;> omega) ⟨.int ys.length, H, I.tok _, ⟨s.toks + 1, by rw [List.size_toArray, hlen]⟩, q⟩
 ·obtain ⟨its, r', pl, hz⟩ := I.tuple hq
  have hlen := r'.length
  exact len_tuple pl (by simp only [List.size_toArray] <;> omega) ⟨.int ys.length, H, I.tok _, ⟨s.toks + 1, by rw [List.size_toArray, hlen]⟩, q⟩
theorem call_len_str : CallR X (.builtin "len") (fun xs H Q => ∃ z, xs = [.str z] ∧ z.length ≤ sizeLine ∧ Q (.int z.length) H) := by
 intro pins s σ H xs us Q I r h
 obtain ⟨z, rfl, hz, q⟩ := h
 obtain ⟨u, rfl, t, rfl⟩ := vals1 r
 have hn := line63
 exact len_str (by omega) ⟨.int z.length, H, I.tok _, ⟨_, rfl⟩, q⟩
theorem CallR.or {f : Value} {r r' : List V → Hp → VK → Prop} (h : CallR X f r) (h' : CallR X f r') : CallR X f (fun xs H Q => r xs H Q ∨ r' xs H Q) := by
 intro pins s σ H xs us Q I rs q
 rcases q with q | q
 ·exact h pins s σ H xs us Q I rs q
 ·exact h' pins s σ H xs us Q I rs q
theorem call_list_of : CallR X (.type "list") (fun xs H Q => ∃ p ys, xs = [.ref p] ∧ (SqL X.K H p ys ∨ SqT X.K H p ys) ∧ ∀ l, H l = none → Q (.ref l) (upd H l (.lst ys))) := by
 intro pins s σ H xs us Q I r h
 obtain ⟨p, ys, rfl, hq, q⟩ := h
 obtain ⟨u, rfl, rx⟩ := vals1 r
 cases rx
 have fin : ∀ (its : List Value), Vals ys its → ys.length ≤ sizeLine → ∀ (h' : Heap) (c' : Nat), (∀ b o', s.heap.get? b = some o' → h'.get? b = some o') →
   h'.get? s.heap.objs.size = some { cls := .type "list", dict := none, data := .seq its.toArray c', slots := #[] } → EP X pins σ Q (.ref s.heap.objs.size) { s with heap := h' } := fun its r' hz h' c' kp e =>
  ⟨.ref s.heap.objs.size, _, I.laid (t' := s.toks) kp (Nat.le_refl _) (show ObjOk X.prog X.w _ h' _ (.lst ys) from ⟨hz, its, c', r', e⟩), rfl, q _ (I.hok.fresh (Nat.le_refl _))⟩
 rcases hq with hq | hq
 ·obtain ⟨its, r', pl, hz⟩ := I.list hq
  have hlen := r'.length
  obtain ⟨o, ho, hc, n, hd⟩ := pl.isList
  exact call_list_seq p (.inl rfl) ho hc hd (fun h' c' kp e => fin its r' hz h' c' kp e) (by simp only [List.size_toArray] <;> omega)
 ·obtain ⟨its, r', pl, hz⟩ := I.tuple hq
  have hlen := r'.length
  obtain ⟨o, ho, hc, n, hd⟩ := pl
  exact call_list_seq p (.inr rfl) ho hc hd (fun h' c' kp e => fin its r' hz h' c' kp e) (by simp only [List.size_toArray] <;> omega)
theorem call_tuple_of : CallR X (.type "tuple") (fun xs H Q => ∃ p ys, xs = [.ref p] ∧ ((SqL X.K H p ys ∧ ∀ l, H l = none → Q (.ref l) (upd H l (.tup ys))) ∨ (SqT X.K H p ys ∧ Q (.ref p) H))) := by
 intro pins s σ H xs us Q I r h
 obtain ⟨p, ys, rfl, h⟩ := h
 obtain ⟨u, rfl, rx⟩ := vals1 r
 cases rx
 rcases h with ⟨hq, q⟩ | ⟨hq, q⟩
 ·obtain ⟨its, r', pl, hz⟩ := I.list hq
  have hlen := r'.length
  refine call_tuple_list pl.isList (fun h' kp => ?_) (by simp only [List.size_toArray] <;> omega)
  have I1 : Inv X pins σ H { s with heap := h' } := I.kept (t' := s.toks) kp
  have I2 : Inv X pins σ (upd H h'.objs.size (.tup ys)) { s with heap := h'.push { cls := .type "tuple", data := .seq its.toArray } } :=
   I1.laid (t' := s.toks) (fun b o e => Heap.get?_push_of_some _ e) (Nat.le_refl _) (show ObjOk X.prog X.w _ _ _ (.tup ys) from ⟨hz, its, r', IsTup.new _ _⟩)
  exact ⟨.ref h'.objs.size, _, I2, rfl, q _ (I1.hok.fresh (Nat.le_refl _))⟩
 ·obtain ⟨its, r', pl, hz⟩ := I.tuple hq
  exact call_tuple_same pl ⟨.ref p, H, I, rfl, q⟩
def tyV (K : PySem.W.Frag) (T : String) (x : V) (H : Hp) : Prop := match x with
 | .str _ => T = "str"
 | .int _ => T = "int"
 | .ref p => (T = "list" ∧ ∃ xs, SqL K H p xs) ∨ (T = "tuple" ∧ ∃ o, K.lookup p = some o ∧ o.cls = .type "tuple" ∧ o.dict = none) ∨
   (T = "dict" ∧ ((∃ kvs, H p = some (.dK kvs)) ∨ ∃ kvs, H p = some (.dT kvs))) ∨ (T = "set" ∧ ∃ S n, H p = some (.set S n))
 | _ => False
theorem tyV_is {pins : List (Addr × Obj)} {σ : St} {H : Hp} {s : Shared} {T : String} {x : V} {v : Value} (I : Inv X pins σ H s) (r : RelV x v) (ty : tyV X.K T x H) :
    s.TypeIs v T ∧ ∀ a, v = .ref a → ∃ ob, s.heap.get? a = some ob ∧ ob.dict = none := by
  cases x with
  | str z =>
    obtain ⟨t, rfl⟩ := r
    cases (show T = "str" from ty)
    exact ⟨typeIs_str s z t, fun _ e => nomatch e⟩
  | int i =>
    obtain ⟨t, rfl⟩ := r
    cases (show T = "int" from ty)
    exact ⟨typeIs_int s i t, fun _ e => nomatch e⟩
  | ref p =>
    cases r
    rcases ty with ⟨rfl, xs, hq⟩ | ⟨rfl, o, hk, hc, hd⟩ | ⟨rfl, hk⟩ | ⟨rfl, S, n, hk⟩
    · obtain ⟨its, _, pl, _⟩ := I.list hq
      refine ⟨pl.isList.typeIs, fun a e => ?_⟩
      cases e
      obtain ⟨o, n, e, c, hd, _⟩ := pl
      exact ⟨o, e, hd⟩
    · refine ⟨⟨o, I.kIn p o hk, hc⟩, fun a e => ?_⟩
      cases e
      exact ⟨o, I.kIn _ o hk, hd⟩
    · have z : ∃ o, s.heap.get? p = some o ∧ o.ExactDict := by
        rcases hk with ⟨kvs, hk⟩ | ⟨kvs, hk⟩
        · obtain ⟨_, _, _, _, o, _, _, e, ex, _⟩ := I.hok p _ hk
          exact ⟨o, e, ex⟩
        · obtain ⟨_, _, _, _, o, _, _, e, ex, _⟩ := I.hok p _ hk
          exact ⟨o, e, ex⟩
      obtain ⟨o, e, ex⟩ := z
      refine ⟨⟨o, e, ex.1⟩, fun a e2 => ?_⟩
      cases e2
      exact ⟨o, e, ex.2.1⟩
    · obtain ⟨o, _, _, _, e, ex, _⟩ := I.hok p _ hk
      refine ⟨⟨o, e, ex.1⟩, fun a e2 => ?_⟩
      cases e2
      exact ⟨o, e, ex.2.1⟩
  | _ => exact False.elim ty
def tBM (K : PySem.W.Frag) (T : String) (r : V → List V → Hp → VK → Prop) (to : TE) (t : TA) : TE := fun σ H Q => to σ H fun x H1 => tyV K T x H1 ∧ t σ H1 fun xs H2 => r x xs H2 Q
variable {o e : Expr} {es : List Expr} {to : TE} {t : TA} {name : Str} {apos cpos : Pos} {T id : String} {r : V → List V → Hp → VK → Prop}
theorem pe_bm (pa : PlainAttrs T) (slot : Slot T name id) (hty : typeOf (.builtin id) = pure (.type "method_descriptor")) (hm : MtR X id r) (ho : PE X o to) (ha : PA X (e :: es) t)
  (hbase : attributeBase o name X.env (eval o X.env) = eval o X.env := by rfl)
  (hfew : ((backTo cpos (starEach (e :: es) X.env)).all (fun x => !x.1) && (backToKw cpos (keywordEach [] X.env)).all (fun x => x.1.isSome)
   && decide ((e :: es).length + ([] : List Keyword).length + (if ([] : List Keyword).isEmpty then 0 else 1) < 30)) = true := by rfl)
  (hline : (apos.endLine == cpos.line) = true := by rfl) (hs : starEach (e :: es) X.env = (false, eval e X.env) :: starEach es X.env := by rfl) (hplain : (backTo cpos (starEach es X.env)).any (·.1) = false := by rfl) :
  PE X (.Call (.Attribute o name apos) (e :: es) [] cpos) (tBM X.K T r to t) := by
 intro pins s σ H Q I h
 refine wpAny_Call_method_late hbase hfew hline rfl (thn (ho pins s σ H _ I h) fun v s1 ⟨x, H1, I1, r1, ty, q1⟩ => ?_)
 obtain ⟨h1, h2⟩ := tyV_is I1 r1 ty
 refine ⟨T, id, pa, slot, hty, h1, h2, ?_⟩
 have hA := ha cpos pins s1 σ H1 _ I1 q1
 rw [hs] at hA ⊢
 refine Calls.callWith_builtin (by show (false || (backTo cpos (starEach es X.env)).any (·.1)) = false; rw [hplain] <;> rfl) (Calls.evalArgs_plain ?_)
 exact thn hA fun us s2 ⟨vs, H2, I2, r2, q2⟩ => hm pins s2 σ H2 x vs v us Q I2 r1 r2 q2
end
end L2
namespace L2
open PySem PySem.Spec PyProof.Rows
def MtM (X : Cx) (id : String) (r : V → List V → Hp → VK → Prop) : Prop :=
 ∀ (pins : List (Addr × Obj)) (s : Shared) (σ : St) (H : Hp) (x : V) (xs : List V) (v : Value) (us : List Value) (Q : VK), Inv X pins σ H s → RelV x v → Vals xs us → r x xs H Q →
  wpAny (model X.prog X.w) X.A (call (.builtin id) (v :: us)) (EP X pins σ Q) X.xe s
theorem Vals.one : ∀ {x : V} {us : List Value}, Vals [x] us → ∃ u, us = [u] ∧ RelV x u
 | _, _, .cons r .nil => ⟨_, rfl, r⟩
theorem Vals.zero : ∀ {us : List Value}, Vals [] us → us = []
 | _, .nil => rfl
theorem Vals.dropLast {xs : List V} {us : List Value} (h : Vals xs us) : Vals xs.dropLast us.dropLast := by
  induction h with
  | nil => exact .nil
  | cons r t ih =>
    cases t with
    | nil => exact .nil
    | cons q t' => exact .cons r ih
section
variable {X : Cx} {pins : List (Addr × Obj)} {σ : St} {H : Hp} {s : Shared} {l b : Addr} {xs ys zs : List V}
theorem Inv.lset {its its' : List Value} {n : Nat} {f : Array Value → Array Value} {t' : Nat} (I : Inv X pins σ H s) (hH : H l = some (.lst xs))
  (e : s.heap.get? l = some { cls := .type "list", data := .seq its.toArray n }) (hf : f its.toArray = its'.toArray) (hv : Vals ys its') (hz : ys.length ≤ sizeLine) :
  Inv X pins σ (upd H l (.lst ys)) { s with heap := s.heap.update l (Obj.mapSeq f), toks := t' } := by
 have q := PySem.IsL.update e f
 rw [hf] at q
 refine I.write (x := l) (e := l) (by rw [hH]; exact trivial) (.inl rfl) (fun b' u hb hu => (Heap.get?_update_other s.heap (Obj.mapSeq f) (Ne.symm hb)).trans hu) ⟨_, q⟩ ?_
 exact ⟨hz, its', _, hv, q⟩
theorem Inv.lnew {its : List Value} {t' : Nat} (I : Inv X pins σ H s) (hv : Vals ys its) (hz : ys.length ≤ sizeLine) :
  Inv X pins σ (upd H s.heap.objs.size (.lst ys)) { s with heap := s.heap.push { cls := .type "list", data := .seq its.toArray }, toks := t' } :=
 I.laid (fun _ _ q => Heap.get?_push_of_some _ q) (Nat.le_refl _) ⟨hz, its, 0, hv, Heap.get?_push_size _ rfl⟩
theorem Inv.fresh (I : Inv X pins σ H s) : H s.heap.objs.size = none := I.hok.fresh (Nat.le_refl _)
theorem Inv.lstM (I : Inv X pins σ H s) (hH : H l = some (.lst xs)) : xs.length ≤ sizeLine ∧ ∃ (its : List Value) (n : Nat), Vals xs its ∧ xs.length = its.length ∧ s.heap.get? l = some { cls := .type "list", data := .seq its.toArray n } := by
 obtain ⟨z, its, n, r, e⟩ := I.hok l _ hH
 exact ⟨z, its, n, r, r.length, e⟩
end
section
variable {X : Cx}
def rAppend : V → List V → Hp → VK → Prop := fun x vs H Q => ∃ l xs y, x = .ref l ∧ vs = [y] ∧ H l = some (.lst xs) ∧ xs.length < sizeLine ∧ Q .non (upd H l (.lst (xs ++ [y])))
theorem mt_append : MtM X "list.append" rAppend := by
 intro pins s σ H x vs v us Q I rx rv h
 obtain ⟨l, xs, y, rfl, rfl, hH, hz, q⟩ := h
 cases rx
 obtain ⟨u, rfl, ru⟩ := rv.one
 obtain ⟨z, its, n, r, hl, e⟩ := I.lstM hH
 refine call_meets F.slot_list_append ⟨_, e, rfl⟩ F.entry_list_append (F.args_list_append_2 _ _) (PySem.list_append l its.toArray n u (by rw [List.size_toArray]; omega)) ⟨e, ?_⟩
 refine ⟨.non, _, I.lset (its' := its ++ [u]) hH e (by simp) (r.append (.cons ru .nil)) ?_, rfl, q⟩
 rw [List.length_append, List.length_singleton]
 omega
end
section
variable {prog : Program} {w : World} {A : Around} {E : Value → Shared → Prop} {s : Shared}
end
section
variable {X : Cx}
end
end L2
namespace Att
open PySem PySem.W PySem.Calls PyProof.Rows
theorem ints_of_wellAll {P : Params} {h : Heap} : ∀ (ns : List Int) (vs : List Value), WellAll P h vs (ns.map WData.int) → IntsAre vs ns := by
  intro ns
  induction ns with
  | nil =>
    intro vs w
    rw [List.map_nil] at w
    cases w
    exact .nil
  | cons n ns ih =>
    intro vs w
    rw [List.map_cons] at w
    cases w with
    | cons a b =>
      cases a
      exact .cons _ _ (ih _ b)
theorem script_of {l : OpenLaw} {n : Nat} (hn : l.most = some n) {P : Params} {h : Heap} {args : List WData} {vals : List Value}
    (hpre : l.row.toRowW.claim.pre args = true) (hwl : WellAll P h vals args) :
    ∃ a vs ns, vals = [Value.ref a] ∧ args = [WData.list (ns.map WData.int)] ∧ h.get? a = some { cls := .type "list", data := .seq vs.toArray } ∧ IntsAre vs ns ∧ ns.length ≤ n := by
  have hsh : WShape.hasAll [] args [.list .int] = true := (pre_splitW hpre).1
  have hc : l.pre.holds [] { args := args } = true := (pre_splitW hpre).2
  obtain ⟨d, r, rfl, h1, h2⟩ := hasAllW_cons hsh
  obtain rfl := hasAllW_nil h2
  obtain ⟨xs, rfl, h3⟩ := hasW_list h1
  obtain ⟨ns, rfl⟩ := items_int h3
  have hlen : ns.length ≤ n := by
    unfold OpenLaw.pre at hc
    have h4 : (WTm.not (.lt (.lit (.int (n : Int))) (.len (.arg 0)))).holds [] { args := [.list (ns.map .int)] } = true := by
      have h4 := (holds_andW hc).1
      rw [hn] at h4
      exact h4
    have h5 := condW_of h4 (w_not (w_lt w_lit (w_len_list (w_arg rfl))))
    rw [List.length_map] at h5
    refine Nat.le_of_not_lt fun q => ?_
    have q' : (n : Int) < ((ns.length : Nat) : Int) := by omega
    first
      | (rw [decide_eq_true q'] at h5; exact absurd h5 (by decide))
      | (simp at h5; omega)
  cases hwl with
  | cons w1 w2 =>
    cases w2
    cases w1 with
    | list ho hall => exact ⟨_, _, ns, rfl, rfl, ho, ints_of_wellAll ns _ hall, hlen⟩
theorem post_true (l : OpenLaw) (args : List WData) : l.row.toRowW.claim.post args (.bool true) args = true :=
 postW_of (r := l.row.toRowW) (X := (true == true))
  (show WShape.has [] (.bool true) .bool = true by first | rfl | decide | simp [WShape.has, WShape.arms, WShape.armsAll])
  (show (WTm.eq .res (.lit (.bool true))).value [] { args := args, res := some (.bool true), after := args } = some (.bool (true == true)) from w_eq_bool (w_res rfl) w_lit) rfl
theorem attach_call {l : OpenLaw} {n : Nat} {q : Program} {loose : List Str} {XP : (Str → Option Value) → Heap → Prop} {YP : World → Heap → Prop} {d : DefRec}
  (hn : l.most = some n) (hdf : d.params.defaults = [])
  (call : ∀ (w : World) (s₀ s₁ : Shared) (mg mb : Str → Option Value) (fa : Addr) (o : Obj) (pm cd doc : Value) (a : Addr) (vs : List Value) (ns : List Int),
   Ground q loose [] XP w s₀ mg mb s₁.heap → YP w s₁.heap →
   s₁.heap.get? fa = some o → o.data = .func (docDef d.name d.params d.body d.scope pm cd doc) → s₁.heap.CodeRec cd d.name → mg d.name = some (.ref fa) →
   s₁.heap.get? a = some { cls := .type "list", data := .seq vs.toArray } → IntsAre vs ns → ns.length ≤ n → s₁.gens = #[] →
   codeAny (model l.prog w) callerA (.call (.ref fa) ⟨[.ref a], []⟩) (fun r s' => r = .ok (.ret (.bool true)) ∧ OldK s₁.heap s'.heap ∧ s'.os = s₁.os ∧ AllBare s'.gens) s₁) :
  WalkO q loose XP YP l.row.toRowW d [] (fun f vs => PySem.call f vs) := by
 intro w s₀ s₁ mg mb G Y fa o pm cd doc dV kV ho hd hcd hD hmg hg args vals as hpre hlay hrd hwl hlo
 obtain rfl : dV = .none := Dflts.none hD hdf
 obtain rfl : kV = .none := Dflts.noKw hD
 obtain ⟨a, vs, ns, rfl, rfl, hobj, hints, hlen⟩ := script_of hn hpre hwl
 refine enter_call (codeAny_mono (call w s₀ s₁ mg mb fa o pm cd doc a vs ns G Y ho (fd_plain hd) hcd hmg hobj hints hlen hg) fun r s' hq => ?_)
 obtain ⟨rfl, h2, h3, h4⟩ := hq
 exact ⟨.inl ⟨.bool true, .bool true, [], rfl, fun _ => rfl, .bool true, post_true l _, fun _ => ⟨List.Pairwise.nil, fun _ hm => (nomatch hm)⟩⟩, h2, h3, h4⟩
section
variable {prog : Program} {w : World} {A : Around} {E : Value → Shared → Prop} {s : Shared} {K : Frag}
end
end Att
namespace L2
open PySem PySem.Spec PyProof.Rows
theorem vals_ints : ∀ {vs : List Value} {ns : List Int}, IntsAre vs ns → Vals (ns.map V.int) vs
 | _, _, .nil => .nil
 | _, _, .cons n t h => .cons ⟨t, rfl⟩ (vals_ints h)
def Only (H : Hp) : Prop := ∀ b, H b = none ∨ ∃ o xs, H b = some (.frz o (.lst xs))
theorem law_call {P : Program} {w : World} {K : PySem.W.Frag} {mg mb : Str → Option Value} {CX : CXT} {k : Nat} {fa a : Addr} {fd : FuncData} {x : Str} {sp : Sp} {s₁ : Shared} {vs : List Value} {ns : List Int}
    (KX : K.In s₁.heap) (hns : s₁.heap.Ns mainGlobals mg) (hb : s₁.heap.Ns builtinsNs mb) (hbb : ∀ x : Str, x ≠ "__name__" → mb x = bootBuiltins x) (hlim : s₁.heap.NoLimit) (hg : s₁.gens = #[])
    (ha : s₁.heap.get? a = some { cls := .type "list", data := .seq vs.toArray }) (hi : IntsAre vs ns) (hl : ns.length ≤ sizeLine) (hr : Room k callerA)
    (F : ∀ base : Heap, K.In base → base.Ns mainGlobals mg → FnOk P w K mg base CX k fa fd [x] sp) (hbind : ∀ (s : Shared) (u : Value), BindsTo s fd ⟨[u], []⟩ [(x, u)])
    (hsp : ∀ H : Hp, Only H → SqL K H a (ns.map V.int) → sp [.ref a] H (fun v _ => v = .bl true) fun _ _ _ => False)
    (hCX : ∀ H e s', CX [] H s₁ (fun _ _ _ => False) e s' → False) :
    codeAny (model P w) callerA (.call (.ref fa) ⟨[.ref a], []⟩) (fun r s' => r = .ok (.ret (.bool true)) ∧ OldK s₁.heap s'.heap ∧ s'.os = s₁.os ∧ AllBare s'.gens) s₁ := by
  have rv := vals_ints hi
  have lenV := hi.length
  -- from an abstract heap in which nothing but the script may be tracked
  have core : ∀ H : Hp, Only H → SqL K H a (ns.map V.int) → HOk P w H s₁.heap → (∀ b, H b ≠ none → b = a) → (H a ≠ none → K.lookup a = none) →
      codeAny (model P w) callerA (.call (.ref fa) ⟨[.ref a], []⟩) (fun r s' => r = .ok (.ret (.bool true)) ∧ OldK s₁.heap s'.heap ∧ s'.os = s₁.os ∧ AllBare s'.gens) s₁ := by
    intro H hO hS hok hA hK
    have base_of : ∀ {b : Addr} {o : Obj}, s₁.heap.get? b = some o → H b = none → (hidT s₁.heap H).get? b = some o := fun e n => hidT_get e n
    have noA : ∀ {b : Addr} {o : Obj} {es : Array DictEntry} {ep : Nat}, s₁.heap.get? b = some o → o.data = .dict es ep → H b = none := fun {b o es ep} e d => by
      cases q : H b with
      | none => rfl
      | some u =>
        have e' : b = a := hA b (by rw [q]; simp)
        subst e'
        rw [ha] at e; cases e
        have d' : Data.seq vs.toArray _ = Data.dict es ep := d
        cases d'
    have nsK : ∀ {b : Addr} {m : Str → Option Value}, s₁.heap.Ns b m → (hidT s₁.heap H).Ns b m := fun {b m} ⟨o, es, ep, e, d, r⟩ => ⟨o, es, ep, base_of e (noA e d), d, r⟩
    have hKb : K.In (hidT s₁.heap H) := fun b o e => base_of (KX b o e) (by
      cases q : H b with
      | none => rfl
      | some u =>
        have e' : b = a := hA b (by rw [q]; simp)
        subst e'
        rw [hK (by rw [q]; simp)] at e; cases e)
    have hM : Mod K mg (hidT s₁.heap H) := ⟨hKb, nsK hns, ⟨mb, nsK hb, hbb⟩, let ⟨mc, h1, h2⟩ := hlim; ⟨mc, nsK h1, h2⟩⟩
    have e0 : Env0 P w K mg (hidT s₁.heap H) callerA [] s₁ H := ⟨rfl, hM, fun b o e => of_hidT e, Nat.le_of_eq (hidT_size _ _), trivial, fun b hb => absurd (show b ∈ ([] : List Addr) from hb) (by simp), hok, .of_eq hg⟩
    refine codeAny_mono ((F _ hKb (nsK hns)).run callerA [] s₁ H ⟨[.ref a], []⟩ [.ref a] [.ref a] _ _ hr e0 (hbind s₁ (.ref a)) (.cons rfl .nil) (hsp H hO hS)) fun r s' h => ?_
    cases r with
    | error e => exact (hCX H e s' h).elim
    | ok fl =>
      cases fl with
      | next => exact False.elim h
      | brk => exact False.elim h
      | cont => exact False.elim h
      | ret u =>
        obtain ⟨v, H', os, bare, un, hok', r', q⟩ := h
        have q' : v = .bl true := q
        subst q'
        obtain rfl : u = Value.bool true := r'
        refine ⟨rfl, OldK.of_keep fun b o e => ?_, os, bare⟩
        cases q : H b with
        | none => exact un.keep b o e q (by intro z; exact absurd (show b ∈ ([] : List Addr) from z) (by simp)) (by simp)
        | some u =>
          rcases hO b with z | ⟨ob, xs, z⟩
          · rw [q] at z; cases z
          · have z2 := un.frzs b ob _ z
            obtain ⟨e1, _⟩ := hok b _ z
            obtain ⟨e2, _⟩ := hok' b _ z2
            rw [e] at e1; cases e1
            exact e2
  cases hk : K.lookup a with
  | some o =>
    -- the script is one of the module's own objects
    have e := KX a o hk
    rw [ha] at e
    cases e
    refine core (fun _ => none) (fun _ => .inl rfl) (.inr ⟨_, vs.toArray, _, hk, rfl, rfl, rfl, by rw [List.size_toArray, lenV]; exact hl, by simpa using rv⟩) (fun b u z => by have z' : (none : Option HO) = some u := z; cases z') (fun b z => absurd rfl z) fun z => absurd rfl z
  | none =>
    refine core (fun b => if b = a then some (.frz { cls := .type "list", data := .seq vs.toArray } (.lst (ns.map V.int))) else none) (fun b => ?_) (.inl (.inr ⟨{ cls := .type "list", data := .seq vs.toArray }, if_pos rfl⟩)) (fun b u z => ?_) (fun b z => ?_) fun _ => hk
    · by_cases hb : b = a
      · exact .inr ⟨_, _, if_pos hb⟩
      · exact .inl (if_neg hb)
    · by_cases hb : b = a
      · have z' := (if_pos hb).symm.trans z
        cases z'
        subst hb
        exact ⟨ha, by rw [List.length_map]; exact hl, vs, _, rv, ha⟩
      · have z' := (if_neg hb).symm.trans z
        cases z'
    · by_cases hb : b = a
      · exact hb
      · exact absurd (if_neg hb) z
end L2
namespace L2
open PySem PySem.Spec PyProof.Rows
theorem walk_of {l : PySem.W.OpenLaw} {n k : Nat} {q : Program} {loose : List Str} {XP : (Str → Option Value) → Heap → Prop} {YP : World → Heap → Prop} {d : DefRec} {K : Params → PySem.W.Frag} {CX : World → CXT} {sp : World → Sp} {x : Str}
  (hn : l.most = some n) (hn2 : n ≤ sizeLine) (hdf : d.params.defaults = []) (hr : Room k callerA)
  (hY : ∀ (w : World) (h : Heap), YP w h → (K w.params).In h)
  (F : ∀ (w : World) (mg : Str → Option Value) (fa : Addr) (h : Heap), (K w.params).In h → h.Ns mainGlobals mg → mg d.name = some (.ref fa) →
   ∃ fd : FuncData, (∀ (s : Shared) (u : Value), BindsTo s fd ⟨[u], []⟩ [(x, u)]) ∧
    ∀ base : Heap, (K w.params).In base → base.Ns mainGlobals mg → FnOk l.prog w (K w.params) mg base (CX w) k fa fd [x] (sp w))
  (hsp : ∀ (w : World) (H : Hp) (a : Addr) (ns : List Int), ns.length ≤ n → Only H → SqL (K w.params) H a (ns.map V.int) → sp w [.ref a] H (fun v _ => v = .bl true) fun _ _ _ => False)
  (hCX : ∀ (w : World) (H : Hp) (s : Shared) (e : Value) (s' : Shared), CX w [] H s (fun _ _ _ => False) e s' → False) :
  PySem.W.WalkO q loose XP YP l.row.toRowW d [] (fun f vs => PySem.call f vs) := by
 refine Att.attach_call hn hdf fun w s₀ s₁ mg mb fa o pm cd doc a vs ns G Y ho hd hcd hmg hobj hints hlen hg => ?_
 have KX := hY w _ Y
 obtain ⟨fd, hb, hF⟩ := F w mg fa _ KX G.T.g hmg
 exact law_call KX G.T.g G.T.b G.T.builtins G.T.nolimit hg hobj hints (Nat.le_trans hlen hn2) hr hF hb (fun H hO hS => hsp w H a ns hlen hO hS) fun H e s' => hCX w H s₁ e s'
theorem walk_ofK {l : PySem.W.OpenLaw} {n k : Nat} {q : Program} {loose : List Str} {XP : (Str → Option Value) → Heap → Prop} {YP : World → Heap → Prop} {d : DefRec} {K : Params → PySem.W.Frag} {CX : CXT} {sp : PySem.W.Frag → Sp} {x : Str}
  (hn : l.most = some n) (hn2 : n ≤ sizeLine) (hdf : d.params.defaults = []) (hr : Room k callerA)
  (hY : ∀ (w : World) (h : Heap), YP w h → (K w.params).In h)
  (F : ∀ (w : World) (mg : Str → Option Value) (fa : Addr) (h : Heap), (K w.params).In h → h.Ns mainGlobals mg → mg d.name = some (.ref fa) →
   ∃ fd : FuncData, (∀ (s : Shared) (u : Value), BindsTo s fd ⟨[u], []⟩ [(x, u)]) ∧
    ∀ base : Heap, (K w.params).In base → base.Ns mainGlobals mg → FnOk l.prog w (K w.params) mg base CX k fa fd [x] (sp (K w.params)))
  (hsp : ∀ (K : PySem.W.Frag) (H : Hp) (a : Addr) (ns : List Int), ns.length ≤ n → Only H → SqL K H a (ns.map V.int) → sp K [.ref a] H (fun v _ => v = .bl true) fun _ _ _ => False)
  (hCX : ∀ (H : Hp) (s : Shared) (e : Value) (s' : Shared), CX [] H s (fun _ _ _ => False) e s' → False) :
  PySem.W.WalkO q loose XP YP l.row.toRowW d [] (fun f vs => PySem.call f vs) :=
 walk_of (K := K) (CX := fun _ => CX) (sp := fun w => sp (K w.params)) hn hn2 hdf hr hY F (fun w H a ns h1 h2 h3 => hsp (K w.params) H a ns h1 h2 h3) fun _ H s e s' => hCX H s e s'
end L2
namespace L2
open PySem PySem.Spec PyProof.Rows
def defArgs (s : Stmt) : Arguments := match s with
 | .FunctionDef _ a _ _ _ _ _ _ _ _ => a
 | _ => { posonlyargs := [], args := [], vararg := none, kwonlyargs := [], kw_defaults := [], kwarg := none, defaults := [] }
def defBody (s : Stmt) : List Stmt := match s with
 | .FunctionDef _ _ b _ _ _ _ _ _ _ => b
 | _ => []
def defScope (s : Stmt) : Scope := match s with
 | .FunctionDef _ _ _ _ _ _ sc _ _ _ => sc
 | _ => { kind := .function, names := [], isGenerator := false, isCoroutine := false }
abbrev CX0 : CXT := fun _ _ _ _ _ _ => False
abbrev E0 : XK := fun _ _ _ => False
theorem pass0 {X : Cx} : Passes CX0 X E0 := fun _ _ _ _ _ _ _ h => h.elim
structure Fun (K : PySem.W.Frag) (x qual : Str) (st : Stmt) (f : Addr) (fd : FuncData) : Prop where
 ex : ∃ (oc : Value) (od : Option Addr) (kV doc pm : Value) (an : Option Addr) (cdv ct : Value) (osl : Array (Option Value)),
  fd = PySem.W.fnOf x qual (defArgs st) (defBody st) (defScope st) .none kV doc pm an cdv ct ∧ K.lookup f = some ⟨oc, od, .func fd, osl⟩ ∧ PySem.W.codeIn K cdv qual = true
 kp : PySem.W.keepIn K (.ref f) = true
section
variable {P : Program} {w : World} {K : PySem.W.Frag} {mg : Str → Option Value} {base : Heap}
theorem Fun.binds {x qual : Str} {st : Stmt} {f : Addr} {fd : FuncData} {ps : List Str} (F : Fun K x qual st f fd)
  (h : ∀ (kV doc pm : Value) (an : Option Addr) (cdv ct : Value) (us : List Value), us.length = ps.length → bindArgs (PySem.W.fnOf x qual (defArgs st) (defBody st) (defScope st) .none kV doc pm an cdv ct) ⟨us, []⟩ = pure (ps.zip us)) : Binds K fd ps [] := by
 obtain ⟨oc, od, kV, doc, pm, an, cdv, ct, osl, rfl, lk, hcd⟩ := F.ex
 exact .all (h kV doc pm an cdv ct)
theorem fun_mk {x qual : Str} {st : Stmt} {f : Addr} {oc : Value} {od an : Option Addr} {osl : Array (Option Value)} {kV doc pm cdv ct : Value} (l : K.lookup f = some ⟨oc, od, .func (PySem.W.fnOf x qual (defArgs st) (defBody st) (defScope st) .none kV doc pm an cdv ct), osl⟩)
  (c : PySem.W.codeIn K cdv qual = true) (k : PySem.W.keepIn K (.ref f) = true) : Fun K x qual st f (PySem.W.fnOf x qual (defArgs st) (defBody st) (defScope st) .none kV doc pm an cdv ct) := ⟨⟨oc, od, kV, doc, pm, an, cdv, ct, osl, rfl, l, c⟩, k⟩
end
section
variable {X : Cx}
end
def Same (H H' : Hp) : Prop := ∀ b o, H b = some o → H' b = some o
theorem Same.refl (H : Hp) : Same H H := fun _ _ h => h
theorem Same.trans {H H1 H2 : Hp} (a : Same H H1) (b : Same H1 H2) : Same H H2 := fun c o h => b c o (a c o h)
theorem Same.free {H H' : Hp} (e : Same H H') {l : Addr} (h : H' l = Option.none) : H l = Option.none := by
  cases q : H l with
  | none => rfl
  | some o =>
    rw [e l o q] at h
    cases h
theorem Same.seq {K : PySem.W.Frag} {H H' : Hp} {a : Addr} {xs : List V} (e : Same H H') (h : SqL K H a xs) : SqL K H' a xs := by
 rcases h with (h | ⟨o, h⟩) | h
 ·exact .inl (.inl (e _ _ h))
 ·exact .inl (.inr ⟨o, e _ _ h⟩)
 ·exact .inr h
end L2
set_option maxHeartbeats 4000000
namespace L2
open PySem PySem.Spec PyProof.Rows
end L2
namespace L2
open PySem PySem.Spec PyProof.Rows
section
variable (P : Program) (w : World)
end
section
variable {P : Program} {w : World} {H H' : Hp} {h h' : Heap} {a : Addr} {o : HO}
end
section
variable {P : Program} {w : World} {H : Hp} {h h' : Heap} {x e : Addr} {o' : HO}
end
section
variable {fs fs' ex ex' : List Addr} {H H1 H2 : Hp} {h h1 h2 h' : Heap} {a x e : Addr} {o : HO}
end
end L2
namespace L2
open PySem PySem.Spec PyProof.Rows
section
variable {X : Cx} {pins : List (Addr × Obj)} {σ : List (Option V)} {H H' : Hp} {s : Shared} {h' : Heap}
end
end L2
namespace L2
open PySem PySem.Spec PyProof.Rows
section
variable {X : Cx}
variable {a b : Expr} {ta tb : TE} {pos : Pos}
variable {tA tB' : TT} {rest : List Expr}
end
end L2
namespace L2
open PySem PySem.Spec PyProof.Rows
section
variable {X : Cx} {pins : List (Addr × Obj)} {σ : St} {H : Hp} {s : Shared} {a : Addr} {xs ys : List V}
end
section
variable {X : Cx} {pins : List (Addr × Obj)} {σ : St} {H : Hp} {s : Shared} {E : Value → Shared → Prop}
end
section
variable {X : Cx} {st : Stmt} {rest : List Stmt} {t u : TS} {e : Expr} {te : TE} {pos : Pos}
end
section
variable {X : Cx} {pos : Pos}
end
section
variable {X : Cx} {pos : Pos}
end
end L2
namespace L2
open PySem PySem.Spec PyProof.Rows
section
variable {X : Cx} {tg : Expr}
end
end L2
namespace L2
open PySem PySem.Spec PyProof.Rows
section
variable {X : Cx} {a b c : Expr} {ta tb tc : TE} {pos : Pos}
end
section
variable {X : Cx} {a b c : Expr} {ta tb tc : TE} {pos : Pos}
end
end L2
namespace L2
open PySem PySem.Spec PyProof.Rows
section
variable {prog : Program} {w : World} {A : Around} {E : Value → Shared → Prop} {s : Shared} {K : PySem.W.Frag} {x dx C f : Addr} {mA : Str → Option Value} {name : Str} {v : Value}
end
section
variable {P : Program} {w : World} {H H' : Hp} {h h' : Heap} {a C dx : Addr} {fs fs' : List (Str × V)}
end
section
variable {X : Cx} {pins : List (Addr × Obj)} {σ : St} {H : Hp} {s : Shared} {a C dx : Addr} {fs : List (Str × V)} {f : Str} {v : V} {A : Around} {E : Value → Shared → Prop}
end
section
variable {X : Cx} {o e value : Expr} {f : Str} {pos pos' tpos : Pos} {ta tv : TE}
end
section
variable {X : Cx} {pins : List (Addr × Obj)} {σ : St} {H : Hp} {s : Shared} {A : Around} {E : Value → Shared → Prop} {Q : Value → Shared → Prop} {c : Value} {b : Bool}
end
end L2
namespace L2
open PySem PySem.Spec PyProof.Rows
section
variable {X : Cx} {e : Expr} {es : List Expr} {te : TE} {t : TA} {pos : Pos}
end
section
variable {X : Cx} {pins : List (Addr × Obj)} {σ : St} {H : Hp} {s s' : Shared}
end
section
variable {X : Cx} {CX : CXT} {k : Nat} {f C : Addr} {fd : FuncData} {ps : List Str} {sp : Sp} {dvs : List V} {ds : List Value} {E : XK} {x m : Str} {p pos apos : Pos} {e o : Expr} {es : List Expr} {ta : TE} {t : TA}
end
section
variable {X : Cx} {CX : CXT} {k : Nat} {f C : Addr} {fd : FuncData} {ps ks : List Str} {sp : Sp} {E : XK} {x m : Str} {p pos apos kpos : Pos} {e o : Expr} {es : List Expr} {kws : List Keyword} {te ta : TE} {t tk : TA} {nm : Option Str}
variable {g : List Value → List Value → List Value} {gV : List V → List V → List V}
end
end L2
namespace L2
open PySem PySem.Spec PyProof.Rows
section
variable {X : Cx} {x : Str} {p pos : Pos} {e : Expr} {es : List Expr} {t : TA} {id T : String} {r : List V → Hp → VK → Prop}
end
end L2
namespace L2
open PySem PySem.Spec PyProof.Rows
section
variable {κ : Type} [DecidableEq κ]
def valV (kvs : List (κ × V)) (k : κ) : Option V := (kvs.find? fun kv => decide (kv.1 = k)).map (·.2)
def putK (kvs : List (κ × V)) (k : κ) (v : V) : List (κ × V) :=
 if (kvs.any fun kv => decide (kv.1 = k)) = true then kvs.map (fun kv => if kv.1 = k then (kv.1, v) else kv) else kvs ++ [(k, v)]
theorem valV_pos {p : κ × V} {r : List (κ × V)} {k : κ} (e : p.1 = k) : valV (p :: r) k = some p.2 := by simp [valV, List.find?_cons, e]
theorem valV_neg {p : κ × V} {r : List (κ × V)} {k : κ} (e : ¬ p.1 = k) : valV (p :: r) k = valV r k := by simp [valV, List.find?_cons, e]
theorem valV_any (k : κ) : ∀ kvs : List (κ × V), (kvs.any fun kv => decide (kv.1 = k)) = (valV kvs k).isSome
  | [] => rfl
  | p :: r => by
    rw [List.any_cons]
    by_cases e : p.1 = k
    · simp only [valV_pos e, decide_eq_true e, Bool.true_or, Option.isSome_some]
    · rw [valV_neg e, decide_eq_false e, Bool.false_or]; exact valV_any k r
theorem RelO.isSome_eq {o : Option V} {u : Option Value} (r : RelO o u) : o.isSome = u.isSome := by
  cases o with
  | none => cases u with
    | none => rfl
    | some _ => exact (show False from r).elim
  | some _ => cases u with
    | none => exact (show False from r).elim
    | some _ => rfl
theorem RelO.getD {o : Option V} {u : Option Value} {d : V} {d' : Value} (r : RelO o u) (rd : RelV d d') : RelV (o.getD d) (u.getD d') := by
  cases o with
  | none => cases u with
    | none => exact rd
    | some _ => exact (show False from r).elim
  | some _ => cases u with
    | none => exact (show False from r).elim
    | some _ => exact r
theorem KV.val {kvs : List (κ × V)} {vs : List (κ × Value)} (r : KV kvs vs) (k : κ) : RelO (valV kvs k) (valueAt vs k) := by
  unfold KV at r
  induction r with
  | nil => exact True.intro
  | @cons p q ps qs h t ih =>
    obtain ⟨h1, h2⟩ := h
    by_cases e : p.1 = k
    · have e' : q.1 = k := h1.symm.trans e
      have b : valueAt (q :: qs) k = some q.2 := by simp [valueAt, List.find?_cons, e']
      rw [valV_pos e, b]; exact h2
    · have e' : ¬ q.1 = k := fun z => e (h1.trans z)
      have b : valueAt (q :: qs) k = valueAt qs k := by simp [valueAt, List.find?_cons, e']
      rw [valV_neg e, b]; exact ih
theorem KV.any {kvs : List (κ × V)} {vs : List (κ × Value)} (r : KV kvs vs) (k : κ) : (kvs.any fun kv => decide (kv.1 = k)) = vs.any fun kv => decide (kv.1 = k) := by
 unfold KV at r
 induction r with
 | nil => rfl
 | cons h t ih => rw [List.any_cons, List.any_cons, ih, h.1]
theorem KV.repl {kvs : List (κ × V)} {vs : List (κ × Value)} (r : KV kvs vs) (k : κ) {y : V} {u : Value} (ry : RelV y u) :
    KV (kvs.map fun kv => if kv.1 = k then (kv.1, y) else kv) (vs.map fun kv => if kv.1 = k then (kv.1, u) else kv) := by
  unfold KV at r ⊢
  induction r with
  | nil => exact .nil
  | @cons p q ps qs h t ih =>
    rw [List.map_cons, List.map_cons]
    refine .cons ?_ ih
    obtain ⟨h1, h2⟩ := h
    by_cases e : p.1 = k
    · rw [if_pos e, if_pos (h1.symm.trans e)]; exact ⟨h1, ry⟩
    · rw [if_neg e, if_neg (fun z => e (h1.trans z))]; exact ⟨h1, h2⟩
theorem KV.put {kvs : List (κ × V)} {vs : List (κ × Value)} (r : KV kvs vs) (k : κ) {y : V} {u : Value} (ry : RelV y u) : KV (putK kvs k y) (stored vs k u) := by
 unfold putK stored
 rw [r.any k]
 by_cases e : (vs.any fun kv => decide (kv.1 = k)) = true
 ·rw [if_pos e, if_pos e]; exact r.repl k ry
 ·rw [if_neg e, if_neg e]; exact Paired.snoc r ⟨rfl, ry⟩
theorem KV.keys {kvs : List (κ × V)} {vs : List (κ × Value)} (r : KV kvs vs) : kvs.map (·.1) = vs.map (·.1) := by
 unfold KV at r
 induction r with
 | nil => rfl
 | cons h t ih => rw [List.map_cons, List.map_cons, ih, h.1]
theorem KV.length {kvs : List (κ × V)} {vs : List (κ × Value)} (r : KV kvs vs) : kvs.length = vs.length := Paired.length r
end
abbrev KT (H : Hp) : List (List Key × V) → List (List Key × Addr × Value) → Prop := Paired fun p q => p.1 = q.1 ∧ H q.2.1 = some (.tup (p.1.map kV)) ∧ RelV p.2 q.2.2
theorem KT.val {H : Hp} {kvs : List (List Key × V)} {xs : List (List Key × Addr × Value)} (r : KT H kvs xs) (k : List Key) : RelO (valV kvs k) ((atKey xs k).map (·.2)) := by
  induction r with
  | nil => exact True.intro
  | @cons p q ps qs h t ih =>
    obtain ⟨h1, _, h2⟩ := h
    by_cases e : p.1 = k
    · have e' : q.1 = k := h1.symm.trans e
      have b : atKey (q :: qs) k = some q.2 := by simp [atKey, List.find?_cons, e']
      rw [valV_pos e, b]; exact h2
    · have e' : ¬ q.1 = k := fun z => e (h1.trans z)
      have b : atKey (q :: qs) k = atKey qs k := by simp [atKey, List.find?_cons, e']
      rw [valV_neg e, b]; exact ih
theorem KT.repl {H : Hp} {kvs : List (List Key × V)} {xs : List (List Key × Addr × Value)} (r : KT H kvs xs) (k : List Key) {y : V} {u : Value} (ry : RelV y u) :
    KT H (kvs.map fun kv => if kv.1 = k then (kv.1, y) else kv) (xs.map (putAt k u)) := by
  induction r with
  | nil => exact .nil
  | @cons p q ps qs h t ih =>
    rw [List.map_cons, List.map_cons]
    refine .cons ?_ ih
    obtain ⟨h1, h2, h3⟩ := h
    unfold putAt
    by_cases e : p.1 = k
    · rw [if_pos e, if_pos (h1.symm.trans e)]; exact ⟨h1, h2, ry⟩
    · rw [if_neg e, if_neg (fun z => e (h1.trans z))]; exact ⟨h1, h2, h3⟩
theorem KT.put {H : Hp} {kvs : List (List Key × V)} {xs : List (List Key × Addr × Value)} (r : KT H kvs xs) (k : List Key) {b : Addr} {y : V} {u : Value} (hb : H b = some (.tup (k.map kV))) (ry : RelV y u) :
  KT H (putK kvs k y) (storedH xs k b u) := by
 have e : (kvs.any fun kv => decide (kv.1 = k)) = (atKey xs k).isSome := by
  rw [valV_any, (r.val k).isSome_eq, Option.isSome_map]
 unfold putK storedH
 rw [e]
 by_cases q : (atKey xs k).isSome = true
 ·rw [if_pos q, if_pos q]; exact r.repl k ry
 ·rw [if_neg q, if_neg q]; exact Paired.snoc r ⟨rfl, hb, ry⟩
theorem KT.keeps {H H' : Hp} {kvs : List (List Key × V)} {xs : List (List Key × Addr × Value)} (r : KT H kvs xs) (ht : ∀ b ys, H b = some (.tup ys) → H' b = some (.tup ys)) : KT H' kvs xs :=
 Paired.mapP r fun _ _ z => ⟨z.1, ht _ _ z.2.1, z.2.2⟩
section
variable {P : Program} {w : World} {H : Hp} {h : Heap} {a : Addr}
end
def DGet (H : Hp) (a : Addr) (y : V) (r : Option V) : Prop :=
 (∃ kvs k, Rd H a (.dK kvs) ∧ y = kV k ∧ r = valV kvs k) ∨ ∃ kvs k b, Rd H a (.dT kvs) ∧ y = .ref b ∧ H b = some (.tup (k.map kV)) ∧ r = valV kvs k
def DPut (H : Hp) (a : Addr) (y v : V) (H' : Hp) : Prop :=
 (∃ kvs k, H a = some (.dK kvs) ∧ y = kV k ∧ kvs.length < sizeLine ∧ H' = upd H a (.dK (putK kvs k v))) ∨
 ∃ kvs k b, H a = some (.dT kvs) ∧ y = .ref b ∧ H b = some (.tup (k.map kV)) ∧ kvs.length < sizeLine ∧ H' = upd H a (.dT (putK kvs k v))
theorem DGet.k {H : Hp} {a : Addr} {kvs : List (Key × V)} {k : Key} (e : H a = some (.dK kvs)) : DGet H a (kV k) (valV kvs k) := .inl ⟨kvs, k, .inl e, rfl, rfl⟩
theorem DGet.t {H : Hp} {a b : Addr} {kvs : List (List Key × V)} {k : List Key} (e : H a = some (.dT kvs)) (eb : H b = some (.tup (k.map kV))) : DGet H a (.ref b) (valV kvs k) := .inr ⟨kvs, k, b, .inl e, rfl, eb, rfl⟩
theorem DPut.k {H : Hp} {a : Addr} {kvs : List (Key × V)} {k : Key} {v : V} (e : H a = some (.dK kvs)) (hl : kvs.length < sizeLine) : DPut H a (kV k) v (upd H a (.dK (putK kvs k v))) := .inl ⟨kvs, k, e, rfl, hl, rfl⟩
theorem DPut.t {H : Hp} {a b : Addr} {kvs : List (List Key × V)} {k : List Key} {v : V} (e : H a = some (.dT kvs)) (eb : H b = some (.tup (k.map kV))) (hl : kvs.length < sizeLine) :
  DPut H a (.ref b) v (upd H a (.dT (putK kvs k v))) := .inr ⟨kvs, k, b, e, rfl, eb, hl, rfl⟩
section
variable {X : Cx} {pins : List (Addr × Obj)} {σ : St} {H : Hp} {s : Shared} {a : Addr} {y v : V} {u r : Value} {o : Option V} {A : Around} {E : Value → Shared → Prop}
theorem Inv.big (I : Inv X pins σ H s) : sysModules < s.heap.objs.size := by
 have h : mainGlobals < s.heap.objs.size := (I.mod.glob.keeps I.bk).lt
 exact Nat.lt_trans (by decide) h
end
section
variable {X : Cx} {pins : List (Addr × Obj)} {σ : St} {H : Hp} {s : Shared} {a : Addr} {kvs : List (Key × V)} {k : Key} {u : Value} {A : Around} {E : Value → Shared → Prop}
end
section
variable {X : Cx} {o i e value : Expr} {pos pos' tpos : Pos} {td ty tv : TE}
end
theorem dk_empty {P : Program} {w : World} {H : Hp} (h : Heap) (hb : sysModules < h.objs.size) : ObjOk P w H (h.push { cls := .type "dict", data := .dict #[] }) h.objs.size (.dK []) :=
 ⟨Nat.zero_le _, beq_eq_false_iff_ne.mpr (Ne.symm (Nat.ne_of_lt hb)), [], .nil, Heap.DictOf.new h⟩
def tDNewK : TE := fun _ H Q => ∀ p, H p = none → Q (.ref p) (upd H p (.dK []))
section
variable {X : Cx} {pos : Pos}
theorem pe_dnewK : PE X (.Dict [] [] pos) tDNewK := fun pins s σ H Q I h =>
 wpAny_Dict_empty ⟨.ref s.heap.objs.size, _, I.laid (a := s.heap.objs.size) (o := .dK []) (t' := s.toks) (fun _ _ q => Heap.get?_push_of_some _ q) (Nat.le_refl _) (dk_empty s.heap I.big), rfl, h _ (I.hok.fresh (Nat.le_refl _))⟩
end
structure M1 (X : Cx) (o : Expr) (m : Str) (apos : Pos) (e : Expr) (cpos : Pos) : Prop where
 base : attributeBase o m X.env (eval o X.env) = eval o X.env
 few : ((backTo cpos (starEach [e] X.env)).all (fun x => !x.1) && (backToKw cpos (keywordEach [] X.env)).all (fun x => x.1.isSome)
  && decide (([e] : List Expr).length + ([] : List Keyword).length + (if ([] : List Keyword).isEmpty then 0 else 1) < 30)) = true
 line : (apos.endLine == cpos.line) = true
 trees : backTo cpos (starEach [e] X.env) = [(false, eval e X.env)]
structure M2 (X : Cx) (o : Expr) (m : Str) (apos : Pos) (e f : Expr) (cpos : Pos) : Prop where
 base : attributeBase o m X.env (eval o X.env) = eval o X.env
 few : ((backTo cpos (starEach [e, f] X.env)).all (fun x => !x.1) && (backToKw cpos (keywordEach [] X.env)).all (fun x => x.1.isSome)
  && decide (([e, f] : List Expr).length + ([] : List Keyword).length + (if ([] : List Keyword).isEmpty then 0 else 1) < 30)) = true
 line : (apos.endLine == cpos.line) = true
 trees : backTo cpos (starEach [e, f] X.env) = [(false, eval e X.env), (false, eval f X.env)]
section
variable {X : Cx} {pins : List (Addr × Obj)} {σ : St} {H : Hp} {s : Shared} {a : Addr} {y d : V} {u r : Value} {o : Option V} {A : Around} {E : Value → Shared → Prop}
end
section
variable {X : Cx} {o e f : Expr} {apos cpos : Pos} {td ty tx : TE}
end
section
variable {X : Cx} {pins : List (Addr × Obj)} {σ : St} {H : Hp} {s : Shared} {a : Addr} {kvs : List (Key × V)} {A : Around} {E : Value → Shared → Prop}
end
section
variable {X : Cx} {pins : List (Addr × Obj)} {σ : St} {H : Hp} {s : Shared} {a : Addr} {y : V} {u : Value} {A : Around} {E : Value → Shared → Prop}
end
end L2
namespace Att
open PySem PySem.W PySem.Calls PyProof.Rows
section
variable {prog : Program} {w : World} {A : Around} {E : Value → Shared → Prop} {s : Shared} {K : Frag}
end
end Att
namespace L2
open PySem PySem.Spec PyProof.Rows
end L2
namespace L2
open PySem PySem.Spec PyProof.Rows
end L2
namespace L2
open PySem PySem.Spec PyProof.Rows
section
variable {P : Program} {w : World} {K : PySem.W.Frag} {mg : Str → Option Value} {base : Heap}
end
section
variable {X : Cx}
end
section
variable {κ : Type} [DecidableEq κ]
end
end L2
namespace L2
open PySem PySem.Spec PyProof.Rows
section
variable {X : Cx} {tg : Expr}
end
section
variable {X : Cx} {tg : Expr}
end
section
variable {X : Cx}
def rSlS : V → Option Int → Option Int → Hp → VK → Prop := fun x lo hi H Q => ∃ z, x = .str z ∧ z.length ≤ sizeLine ∧ Q (.str (Txt.slice z lo hi)) H
theorem sl_str : SlR X rSlS := by
 intro pins s σ H x v vl vu lo hi sl Q I rx hs pl pu h
 obtain ⟨z, rfl, hz, q⟩ := h
 obtain ⟨t, rfl⟩ := rx
 refine ⟨"str", _, F.slot_str_getitem.lookup, typeIs_str _ _ _, ?_⟩
 obtain ⟨o, ho, hc, hd⟩ := hs
 cases pl <;> cases pu
 ·exact wpAny_getItem_str_slice (l := none) (u := none) (st := none) ⟨o, ho, hc, hd⟩ rfl (post_val_or_str ⟨Nat.le_trans (Txt.slice_le z none none) hz, fun t' k => ⟨.str _, H, I.tok _, ⟨_, rfl⟩, q⟩⟩)
 ·rename_i j uj
  exact wpAny_getItem_str_slice (l := none) (u := some (j, uj)) (st := none) ⟨o, ho, hc, hd⟩ rfl (post_val_or_str ⟨Nat.le_trans (Txt.slice_le z none (some j)) hz, fun t' k => ⟨.str _, H, I.tok _, ⟨_, rfl⟩, q⟩⟩)
 ·rename_i i ui
  exact wpAny_getItem_str_slice (l := some (i, ui)) (u := none) (st := none) ⟨o, ho, hc, hd⟩ rfl (post_val_or_str ⟨Nat.le_trans (Txt.slice_le z (some i) none) hz, fun t' k => ⟨.str _, H, I.tok _, ⟨_, rfl⟩, q⟩⟩)
 ·rename_i i ui j uj
  exact wpAny_getItem_str_slice (l := some (i, ui)) (u := some (j, uj)) (st := none) ⟨o, ho, hc, hd⟩ rfl (post_val_or_str ⟨Nat.le_trans (Txt.slice_le z (some i) (some j)) hz, fun t' k => ⟨.str _, H, I.tok _, ⟨_, rfl⟩, q⟩⟩)
theorem op_isB : OpR X (compareOp .Is) (fun x y H Q => ∃ b, y = .bl b ∧ Q (.bl (decide (x = .bl b))) H) := by
 intro pins s σ H x y v u Q I rx ry h
 obtain ⟨b, rfl, q⟩ := h
 cases ry
 cases x with
 | bl c => cases rx; exact wpAny_pure (fin_bl I q (by cases b <;> cases c <;> rfl))
 | non => cases rx; exact wpAny_pure (fin_bl I q (by simp))
 | int _ => obtain ⟨t, rfl⟩ := rx; exact wpAny_pure (fin_bl I q (by simp))
 | str _ => obtain ⟨t, rfl⟩ := rx; exact wpAny_pure (fin_bl I q (by simp))
 | byt _ => obtain ⟨t, rfl⟩ := rx; exact wpAny_pure (fin_bl I q (by simp))
 | flt _ => obtain ⟨t, rfl⟩ := rx; exact wpAny_pure (fin_bl I q (by simp))
 | ref _ => cases rx; exact wpAny_pure (fin_bl I q (by simp))
 | ty _ => cases rx; exact wpAny_pure (fin_bl I q (by simp))
theorem op_isnotB : OpR X (compareOp .IsNot) (fun x y H Q => ∃ b, y = .bl b ∧ Q (.bl (!decide (x = .bl b))) H) := by
 intro pins s σ H x y v u Q I rx ry h
 obtain ⟨b, rfl, q⟩ := h
 cases ry
 cases x with
 | bl c => cases rx; exact wpAny_pure (fin_bl I q (by cases b <;> cases c <;> rfl))
 | non => cases rx; exact wpAny_pure (fin_bl I q (by simp))
 | int _ => obtain ⟨t, rfl⟩ := rx; exact wpAny_pure (fin_bl I q (by simp))
 | str _ => obtain ⟨t, rfl⟩ := rx; exact wpAny_pure (fin_bl I q (by simp))
 | byt _ => obtain ⟨t, rfl⟩ := rx; exact wpAny_pure (fin_bl I q (by simp))
 | flt _ => obtain ⟨t, rfl⟩ := rx; exact wpAny_pure (fin_bl I q (by simp))
 | ref _ => cases rx; exact wpAny_pure (fin_bl I q (by simp))
 | ty _ => cases rx; exact wpAny_pure (fin_bl I q (by simp))
end
end L2
namespace L2
open PySem PySem.Spec PyProof.Rows
section
variable {prog : Program} {w : World} {A : Around} {R : Result → Shared → Prop} {I : Addr} {fp wr : List Addr} {n : Nat} {P : Nat → Value → Prop} {St : Nat → Heap → Prop} {kw : List (Str × Value)}
end
section
variable {prog : Program} {w : World} {A : Around} {E : Value → Shared → Prop} {s : Shared}
end
end L2
namespace L2
open PySem PySem.Spec PyProof.Rows
section
variable {X : Cx} {pins : List (Addr × Obj)} {σ : St} {H : Hp} {s : Shared}
theorem Inv.but {h' : Heap} {tk : Nat} (I : Inv X pins σ H s) (k : ∀ b o, b ≠ X.env.locals → s.heap.get? b = some o → h'.get? b = some o) (ns : ∀ m, s.heap.Ns X.env.locals m → h'.Ns X.env.locals m) : Inv X pins σ H { s with heap := h', toks := tk } := by
 have hok : HOk X.prog X.w H h' := fun a o e => (I.hok a o e).stay (fun b u hb q => k b u (fun z => by
  subst z
  have hn := I.free
  rcases hb with hb | hb
  ·rw [← hb] at e; rw [hn] at e; cases e
  ·rw [hn] at hb; cases hb) q) (fun _ q => q) fun _ _ q => q
 exact I.step (g' := s.gens) (d' := s.drawn) (ch := []) (fun _ z => nomatch z) (fun b o hL _ _ e _ => k b o hL e) (fun b o hL _ _ e _ => ⟨o.slots, k b o hL e⟩) (fun b o _ _ n => n) (fun b o _ e => by
  by_cases hL : b = X.env.locals
  ·subst hL
   obtain ⟨m, hn, _⟩ := I.loc
   obtain ⟨o', _, _, e', _⟩ := ns m hn
   exact ⟨o', e'⟩
  ·exact ⟨o, k b o hL e⟩) (fun _ _ q => q) (fun _ _ _ q => q) (fun _ ps q => ⟨#[], by simpa using q⟩) ns hok I.bare
theorem intsAreV {ns : List Int} : ∀ {us : List Value}, Vals (ns.map V.int) us → IntsAre us ns := by
  induction ns with
  | nil => intro us h; cases us with
    | nil => exact .nil
    | cons u us => cases h
  | cons n ns ih => intro us h; cases us with
    | nil => cases h
    | cons u us =>
      cases h with
      | cons a b =>
        obtain ⟨t, rfl⟩ := a
        exact .cons _ _ (ih b)
end
end L2
namespace L2
open PySem PySem.Spec PyProof.Rows
section
variable {prog : Program} {w : World} {A : Around} {s : Shared}
end
section
variable {X : Cx}
end
end L2
namespace L2
open PySem PySem.Spec PyProof.Rows
section
variable {X : Cx} {pins : List (Addr × Obj)} {σ : St} {H : Hp} {s : Shared}
theorem ObjOk.get {P : Program} {w : World} {H : Hp} {h : Heap} {a : Addr} {o : HO} (x : ObjOk P w H h a o) : ∃ u, h.get? a = some u := by
 cases o with
 | lst xs => obtain ⟨_, _, _, _, e⟩ := x; exact ⟨_, e⟩
 | tup xs => obtain ⟨_, _, _, u, e, _⟩ := x; exact ⟨_, e⟩
 | dK kvs => obtain ⟨_, _, _, _, o, _, _, e, _⟩ := x; exact ⟨_, e⟩
 | dT kvs => obtain ⟨_, _, _, _, o, _, _, e, _⟩ := x; exact ⟨_, e⟩
 | set S n => obtain ⟨o, _, _, _, e, _⟩ := x; exact ⟨_, e⟩
 | ins C dx fs => obtain ⟨_, _, _, e, _⟩ := x; exact ⟨_, e⟩
 | own y => exact x
 | xd fs => obtain ⟨_, ⟨_, _, _, e, _⟩, _⟩ := x; exact ⟨_, e⟩
 | rng lo hi => obtain ⟨_, _, _, e⟩ := x; exact ⟨_, e⟩
 | frz ob u => obtain ⟨e, _⟩ := x; exact ⟨_, e⟩
 | tbl ps => exact ⟨_, x⟩
 | met f y => exact ⟨_, x⟩
 | ext φ => obtain ⟨_, e, _⟩ := x; exact e
end
end L2
namespace L2
open PySem PySem.Spec PyProof.Rows
section
variable {prog : Program} {w : World} {A : Around} {E : Value → Shared → Prop} {s : Shared}
theorem drawT_item {j t : Addr} {n : Nat} {us : Array Value} {u : Value} {Q : Value → Shared → Prop} (a : s.heap.IsTupleIter j t n) (b : s.heap.IsTuple t us) (c : us[n]? = some u)
  (q : ∀ h', h'.IsTupleIter j t (n + 1) → Heap.SameBut j s.heap h' → Q u { s with heap := h' }) : wpAny (model prog w) A (Builtin.SmallTypes.nextOf (.ref j)) Q E s := by
 obtain ⟨o, e1, e2, e3⟩ := id a
 obtain ⟨p, e4, _, k, e5⟩ := b
 unfold Builtin.SmallTypes.nextOf
 refine wpAny_bind (wpAny_callSpecial?_slot (name := Str.ofString "__next__") a.typeIs F.slot_tuple_iterator_next (wpAny_call_entry F.slot_tuple_iterator_next a.typeIs F.entry_tuple_iterator_next ?_ (F.args_tuple_iterator_next_1 _)))
 show wpAny _ _ (field (.ref j) 0 >>= _) _ _ s
 refine wpAny_bind (wpAny_field e1 e3 (x := .ref t) rfl ?_); show wpAny _ _ (if (Value.ref t == Value.none) = true then _ else _) _ _ s
 rw [if_neg (show ¬ ((Value.ref t == Value.none) = true) by exact Bool.false_ne_true)]; show wpAny _ _ (field (.ref j) 1 >>= _) _ _ s
 refine wpAny_bind (wpAny_field e1 e3 (x := .int n 0) rfl ?_); show wpAny _ _ (seqItems? (.ref t) >>= _) _ _ s
 refine wpAny_bind (wpAny_seqItems e4 e5 ?_); simp only [Int.toNat_natCast, c]
 refine wpAny_bind (wpAny_setField e1 e3 (by simp) (wpAny_pure ⟨u, rfl, wpAny_pure (q _ ?_ (Heap.SameBut.update ..))⟩))
 refine ⟨_, Heap.get?_update_self _ e1 (Obj.isFreed_of_fields (Obj.data_mapFields e3 _)), (Obj.cls_mapFields ..).trans e2, ?_⟩
 rw [Obj.data_mapFields e3]; simp [rawInt]
theorem drawT_end {j t : Addr} {n : Nat} {us : Array Value} {Q : Value → Shared → Prop} (hh : A.handled = none) (a : s.heap.IsTupleIter j t n) (b : s.heap.IsTuple t us) (c : us[n]? = none)
  (q : ∀ h' x, Heap.ExtBut j s.heap h' → (∃ o, h'.get? x = some o ∧ o.cls = .type "StopIteration") → E (.ref x) { s with heap := h' }) : wpAny (model prog w) A (Builtin.SmallTypes.nextOf (.ref j)) Q E s := by
 obtain ⟨o, e1, e2, e3⟩ := id a
 obtain ⟨p, e4, _, k, e5⟩ := b
 unfold Builtin.SmallTypes.nextOf
 refine wpAny_bind (wpAny_callSpecial?_slot (name := Str.ofString "__next__") a.typeIs F.slot_tuple_iterator_next (wpAny_call_entry F.slot_tuple_iterator_next a.typeIs F.entry_tuple_iterator_next ?_ (F.args_tuple_iterator_next_1 _)))
 show wpAny _ _ (field (.ref j) 0 >>= _) _ _ s
 refine wpAny_bind (wpAny_field e1 e3 (x := .ref t) rfl ?_); show wpAny _ _ (if (Value.ref t == Value.none) = true then _ else _) _ _ s
 rw [if_neg (show ¬ ((Value.ref t == Value.none) = true) by exact Bool.false_ne_true)]; show wpAny _ _ (field (.ref j) 1 >>= _) _ _ s
 refine wpAny_bind (wpAny_field e1 e3 (x := .int n 0) rfl ?_); show wpAny _ _ (seqItems? (.ref t) >>= _) _ _ s
 refine wpAny_bind (wpAny_seqItems e4 e5 ?_); simp only [Int.toNat_natCast, c]
 refine wpAny_bind (wpAny_rule (wpAny_bind (wpAny_setField e1 e3 (by simp) ?_))); show wpAny _ _ (newExc (.type "StopIteration") [] >>= _) _ _ _
 refine wpAny_bind ?_; simp only [newExc, newTuple]
 refine wpAny_bind (wpAny_newObj_type ?_ (by size_fits)); refine wpAny_bind (m := firstArgMember _ _) (wpAny_of_eq (a := Value.none) (by first | rfl | (simp only [firstArgMember]; rfl)) ?_)
 refine wpAny_newObj_type ?_ (by size_fits); simp only [raiseNew]
 refine wpAny_bind (wpAny_handled ?_); first | rw [show A.in1.handled = none from hh] | rw [hh]
 refine wpAny_bind (wpAny_pure (wpAny_throw ?_)); exact q _ _ (((Heap.SameBut.update ..).extBut.push _).push _) ⟨_, Heap.get?_push_size _ rfl, rfl⟩
end
section
variable {X : Cx} {pins : List (Addr × Obj)} {σ : St} {H : Hp} {s : Shared} {h' : Heap}
theorem Inv.turnedL {t' : Nat} {fp : List Addr} (I : Inv X pins σ H s) (k : ∀ b o, b ∉ fp → s.heap.get? b = some o → h'.get? b = some o) (hf : ∀ b ∈ fp, FpOk X pins H b) : Inv X pins σ H { s with heap := h', toks := t' } := by
 refine I.step (g' := s.gens) (d' := s.drawn) (ch := fp) (fun b hb => ⟨(hf b hb).2.2.2.1, (hf b hb).2.1, (hf b hb).2.2.2.2.1, (hf b hb).2.2.2.2.2⟩) (fun b o _ _ hc e _ => k b o hc e) (fun b o _ _ hc e _ => ⟨o.slots, k b o hc e⟩) (fun _ _ _ _ n => n)
  (fun b o hc e => ⟨o, k b o hc e⟩) (fun _ _ e => e) (fun _ _ _ e => e) (fun b ps e => ⟨#[], by rw [e]; simp⟩) (fun m hm => ?_) (fun b u e => ?_) I.bare
 ·obtain ⟨o, es, ep, ho, r⟩ := hm
  exact ⟨o, es, ep, k _ o (fun z => (hf _ z).2.1 rfl) ho, r⟩
 ·refine (I.hok b u e).stay (fun c v hc q => k c v (fun z => ?_) q) (fun _ q => q) fun _ _ q => q
  have hn := (hf c z).1
  rcases hc with y | y
  ·rw [y, e] at hn; cases hn
  ·rw [y] at hn; cases hn
theorem Inv.turnLaid {t' : Nat} {fp : List Addr} {T : Addr} {o : HO} (I : Inv X pins σ H s) (k : ∀ b u, b ∉ fp → s.heap.get? b = some u → h'.get? b = some u) (hf : ∀ b ∈ fp, FpOk X pins H b) (hp : s.heap.objs.size ≤ T) (new : ObjOk X.prog X.w (upd H T o) h' T o) :
  Inv X pins σ (upd H T o) { s with heap := h', toks := t' } := by
 have hn : H T = none := I.hok.fresh hp
 have neT : ∀ b u, s.heap.get? b = some u → b ≠ T := fun b u e => Nat.ne_of_lt (Nat.lt_of_lt_of_le (Heap.lt_size e) hp)
 refine I.step (g' := s.gens) (d' := s.drawn) (ch := fp) (fun b hb => ⟨(hf b hb).2.2.2.1, (hf b hb).2.1, (hf b hb).2.2.2.2.1, (hf b hb).2.2.2.2.2⟩) (fun b o _ _ hc e _ => k b o hc e) (fun b o _ _ hc e _ => ⟨o.slots, k b o hc e⟩) (fun b u _ e n => by rw [upd_ne (neT b u e)]; exact n)
  (fun b o hc e => ⟨o, k b o hc e⟩) (fun b xs e => by rw [upd_ne (ne_of_none e hn)]; exact e) (fun b u xs e => by rw [upd_ne (ne_of_none e hn)]; exact e) (fun b ps e => ⟨#[], by rw [upd_ne (ne_of_none e hn), e]; simp⟩) (fun m hm => ?_) (fun b u e => ?_) I.bare
 ·obtain ⟨o, es, ep, ho, r⟩ := hm
  exact ⟨o, es, ep, k _ o (fun z => (hf _ z).2.1 rfl) ho, r⟩
 ·by_cases hb : b = T
  ·subst hb
   rw [upd_same] at e
   cases e
   exact new
  ·rw [upd_ne hb] at e
   refine (I.hok b u e).stay (fun c v hc q => k c v (fun z => ?_) q) (fun c q => by rw [upd_ne (ne_of_none q hn)]; exact q) fun c xs q => by rw [upd_ne (ne_of_none q hn)]; exact q
   have hn' := (hf c z).1
   rcases hc with y | y
   ·rw [y, e] at hn'; cases hn'
   ·rw [y] at hn'; cases hn'
end
section
variable {X : Cx} {es : List Expr} {k : Nat} {tpos : Pos}
end
end L2
namespace L2
open PySem PySem.Spec PyProof.Rows
def Itel (K : PySem.W.Frag) (a : Addr) : It :=
 ⟨fun i H => ∃ xs x, SqL K H a xs ∧ xs[i]? = some x, fun i H x H' => ∃ p v, H p = none ∧ x = .ref p ∧ H' = upd H p (.tup [.int i, v]) ∧ ∀ xs, SqL K H a xs → xs[i]? = some v, fun i H => ∃ xs, SqL K H a xs ∧ xs.length = i⟩
theorem turn_enumL {P : Program} {w : World} {K : PySem.W.Frag} {es : List Expr} {k : Nat} {pos : Pos} (a e it : Addr) (ne : e ≠ it) : Turn P w K (.Tuple es k pos) (Itel K a) [e, it] e (fun i h => (∃ old, IsEnum h e it i old) ∧ h.IsListIter it a i) where
 mem := by simp
 obj := fun i h st b hb => by
  obtain ⟨⟨old, z⟩, o, e1, e2, e3⟩ := st
  rcases List.mem_cons.mp hb with rfl | hb
  ·exact ⟨_, z, fun v y => by cases y⟩
  ·rw [List.mem_singleton.mp hb]
   exact ⟨o, e1, fun v y => by rw [e3] at y; cases y⟩
 keep := fun i h h' st k => ⟨let ⟨old, z⟩ := st.1; ⟨old, k e (by simp) _ z⟩, st.2.at fun o z => k it (by simp) o z⟩
 item := by
  intro X hP hw hK hc i pins s σ H E I hf st hg
  subst hP hw hK
  obtain ⟨xs, x, hq, hx⟩ := hg
  obtain ⟨its, rv, pl, hz⟩ := I.list hq
  have p := pl.isList
  obtain ⟨u, hu, ru⟩ := rv.get hx
  have nea : a ≠ it := fun z => by
   obtain ⟨o, e1, e2, _⟩ := st.2
   obtain ⟨o', e1', e2', _⟩ := id p
   rw [z, e1] at e1'
   cases e1'
   rw [e2] at e2'
   exact absurd e2' (by simp)
  have nee : e ∉ [it, a] := fun z => by
   rcases List.mem_cons.mp z with z | z
   ·exact ne z
   ·have z := List.mem_singleton.mp z
    obtain ⟨⟨old, y⟩, _⟩ := st
    obtain ⟨o', e1', e2', _⟩ := id p
    rw [← z, y] at e1'
    cases e1'
    exact absurd e2' (by simp)
  have W := WalksT.enumerateD (Draws.list (prog := X.prog) (w := X.w) (A := X.A.in1) (I.ok.hd hc) it a nea its.toArray) e ne nee (by simp)
  have hi : i < its.toArray.size := by
   have := (List.getElem?_eq_some_iff.mp hu).1
   simpa using this
  refine W.item i s _ _ hi ⟨st.1, st.2, p⟩ fun T vals h' tk hv hT hI hm hk => ?_
  obtain ⟨t, y, hy, rfl⟩ := hv
  have ey : y = u := by
   have hy' : its.toArray[i]? = some y := hy
   rw [show its.toArray[i]? = its[i]? by simp, hu] at hy'
   exact (Option.some.inj hy').symm
  subst ey
  refine ⟨_, rfl, W.go es k pos i T _ _ _ hm fun h2 st2 hk2 => ?_⟩
  have kk : ∀ b o, b ∉ [e, it] → s.heap.get? b = some o → h2.get? b = some o := fun b o hb z => hk2 b o hb (hk b o hb z)
  have hT2 : h2.IsTuple T #[.int i t, y] := by
   obtain ⟨o, e1, r⟩ := hI
   exact ⟨o, hk2 T o (W.apart i T _ hm) e1, r⟩
  have I2 : Inv X pins σ (upd H T (.tup [.int i, x])) { s with heap := h2, toks := tk } := I.turnLaid kk hf hT ⟨by show 2 ≤ sizeLine; decide, [.int i t, y], .cons ⟨t, rfl⟩ (.cons ru .nil), hT2⟩
  have nT : H T = none := I.hok.fresh hT
  refine ⟨.ref T, _, I2, rfl, ⟨T, x, nT, rfl, rfl, fun ys hys => by rw [I.list_inj hys hq]; exact hx⟩, ⟨st2.1, st2.2.1⟩, fun b hb => ?_⟩
  rw [upd_ne (fun z => ?_)]
  ·exact (hf b hb).1
  ·rw [z] at hb
   exact W.apart i T _ hm hb
 done := by
  intro X hP hw hK hc i pins s σ H E I hf st hg
  subst hP hw hK
  obtain ⟨xs, hq, hl⟩ := hg
  obtain ⟨its, rv, pl, hz⟩ := I.list hq
  have p := pl.isList
  have nea : a ≠ it := fun z => by
   obtain ⟨o, e1, e2, _⟩ := st.2
   obtain ⟨o', e1', e2', _⟩ := id p
   rw [z, e1] at e1'
   cases e1'
   rw [e2] at e2'
   exact absurd e2' (by simp)
  have nee : e ∉ [it, a] := fun z => by
   rcases List.mem_cons.mp z with z | z
   ·exact ne z
   ·have z := List.mem_singleton.mp z
    obtain ⟨⟨old, y⟩, _⟩ := st
    obtain ⟨o', e1', e2', _⟩ := id p
    rw [← z, y] at e1'
    cases e1'
    exact absurd e2' (by simp)
  have W := WalksT.enumerateD (Draws.list (prog := X.prog) (w := X.w) (A := X.A.in1) (I.ok.hd hc) it a nea its.toArray) e ne nee (by simp)
  have hn : its.toArray.size = i := by rw [List.size_toArray, ← rv.length, hl]
  refine W.done s _ _ (by rw [hn]; exact ⟨st.1, st.2, p⟩) fun h' tk hk => ⟨rfl, I.turnedL hk hf⟩
 self := fun _ i s _ _ st h => by
  obtain ⟨⟨old, y⟩, _⟩ := st
  exact wpAny_pyIter_enum y h
section
variable {X : Cx} {es : List Expr} {k : Nat} {tpos : Pos}
def iEnumL (K : PySem.W.Frag) (ta : TA) : TI := fun σ H R => ta σ H fun vs H1 => ∃ a xs, vs = [.ref a] ∧ SqL K H1 a xs ∧ R (Itel K a) H1
theorem pi_enumL {a : Expr} {ta : TA} {p pos : Pos} (hg : Gl X "enumerate") (hm : X.mg "enumerate" = none) (ha : PA X [a] ta) (hs : starEach [a] X.env = [(false, eval a X.env)] := by rfl) : PI X (.Tuple es k tpos) (.Call (.Name "enumerate" p) [a] [] pos) (iEnumL X.K ta) := by
 intro pins s σ H R I h
 refine Call_ (ld_blt I hg hm boot_enumerate (PyProof.Rows.callWith_type1 (thn (ha pos pins s σ H _ I h) fun us s1 ⟨vs, H1, I1, r1, q1⟩ => ?_) hs rfl))
 obtain ⟨b, xs, e, hq, q⟩ := q1
 subst e
 obtain ⟨u, e, ru⟩ := vals1 r1
 subst e
 cases ru
 obtain ⟨its, rv, pl, hz⟩ := I1.list hq
 refine call_enumerate_list pl.isList fun h' e1 e2 _ kp => ?_
 refine wpAny_pyIter_enum e1 ?_
 refine ⟨s1.heap.objs.size + 1, [s1.heap.objs.size + 1, s1.heap.objs.size], _, _, H1, rfl, I1.kept (t' := s1.toks) kp, turn_enumL b _ _ (Nat.succ_ne_self _), ⟨⟨_, e1⟩, e2⟩, fun c hc => ?_, q⟩
 have hc' : s1.heap.objs.size ≤ c := by
  rcases List.mem_cons.mp hc with rfl | hc
  ·omega
  ·rw [List.mem_singleton.mp hc]; exact Nat.le_refl _
 exact I1.fpOk hc' (I1.hok.fresh hc')
end
def textV : V → Option Str
 | .str z => if z.length ≤ sizeLine then some z else none
 | .int i => if i.natAbs.log2 < 1920 then some (toString i) else none
 | _ => none
abbrev TJ := Str → St → Hp → VK → Prop
def PJ (X : Cx) (vs : List Expr) (t : TJ) : Prop := ∀ (pins : List (Addr × Obj)) (s : Shared) (σ : St) (H : Hp) (out : Str) (Q : VK), Inv X pins σ H s → t out σ H Q → wpAny (model X.prog X.w) X.A (joinParts out (evalEach vs X.env)) (EP X pins σ Q) X.xe s
def jNil : TJ := fun out _ H Q => out.length ≤ sizeLine ∧ Q (.str out) H
def jCons (te : TE) (tj : TJ) : TJ := fun out σ H Q => te σ H fun v H1 => ∃ y, textV v = some y ∧ (out ++ y).length ≤ sizeLine ∧ tj (out ++ y) σ H1 Q
section
variable {X : Cx} {vs : List Expr} {te : TE} {tj : TJ}
theorem pj_nil : PJ X [] jNil := fun pins s σ H out Q I h => joinParts_nil ⟨.str out, H, I.tok _, ⟨_, rfl⟩, h.2⟩ h.1
theorem pj_con {z : Str} {k : Nat} {pos : Pos} (hv : PJ X vs tj) (hz : z.length ≤ sizeLine) : PJ X (.Constant (.str z) k pos :: vs) (fun out σ H Q => (out ++ z).length ≤ sizeLine ∧ tj (out ++ z) σ H Q) := fun pins s σ H out Q I h => by
 refine joinParts_cons (Calls.Constant_str ?_)
 exact ⟨h.1, hv pins _ σ H _ Q (I.tok _) h.2⟩
theorem pj_val {e : Expr} {pos : Pos} (he : PE X e te) (hv : PJ X vs tj) : PJ X (.FormattedValue e (-1) none pos :: vs) (jCons te tj) := fun pins s σ H out Q I h => by
 refine joinParts_cons (FormattedValue_plain (thn (he pins s σ H _ I h) fun u s1 ⟨x, H1, I1, r1, y, ey, hl, q⟩ => ?_))
 cases x <;> simp only [textV, reduceCtorEq] at ey
 case int i =>
  split at ey
  ·rename_i hd
   cases ey
   obtain ⟨t, rfl⟩ := r1
   exact formatField_int_small hd ⟨hl, hv pins _ σ H1 _ Q (I1.tok _) q⟩
  ·cases ey
 case str z =>
  split at ey
  ·rename_i hz
   cases ey
   obtain ⟨t, rfl⟩ := r1
   exact formatField_str (fun t' tk => ⟨hl, hv pins _ σ H1 _ Q (I1.tok _) q⟩) hz
  ·cases ey
theorem pe_fst {v w : Expr} {pos : Pos} (h : PJ X (v :: w :: vs) tj) : PE X (.JoinedStr (v :: w :: vs) pos) (fun σ H Q => tj Str.empty σ H Q) := fun pins s σ H Q I q => JoinedStr_many (h pins s σ H _ Q I q)
end
end L2
namespace L2
open PySem PySem.Spec PyProof.Rows
section
variable {prog : Program} {w : World} {A : Around} {E : Value → Shared → Prop} {s : Shared} {z P O j1 j2 l t : Addr}
theorem zlt_item {n m : Nat} {us vs : Array Value} {u v a b : Value} {Q : Value → Shared → Prop} (D : ZipApart z P O j1 j2 l t)
  (e0 : IsZip s.heap z P O .none) (eP : IsPair s.heap P (.ref j1) (.ref j2)) (eO : IsPair s.heap O a b) (c1 : s.heap.IsListIter j1 l n) (c2 : s.heap.IsTupleIter j2 t m) (d1 : s.heap.IsList l us) (d2 : s.heap.IsTuple t vs) (eu : us[n]? = some u) (ev : vs[m]? = some v)
  (q : ∀ h', IsZip h' z P O (rawInt s.heap.objs.size) → IsPair h' O u v → h'.IsListIter j1 l (n + 1) → h'.IsTupleIter j2 t (m + 1) → IsPair h' s.heap.objs.size u v →
   (∀ c o, c ≠ z → c ≠ O → c ≠ j1 → c ≠ j2 → s.heap.get? c = some o → h'.get? c = some o) → Q (.ref s.heap.objs.size) { s with heap := h' }) :
  wpAny (model prog w) A (Builtin.«zip.__next__» ⟨[.ref z], []⟩) (fun fin s' => ∃ r, fin = .done (.ret r) ∧ Q r s') E s := by
 show wpAny _ _ (field (.ref z) 2 >>= _) _ _ _; refine wpAny_bind (wpAny_field e0 rfl (x := .bool false) rfl ?_)
 show wpAny _ _ (field (.ref z) 3 >>= _) _ _ _; refine wpAny_bind (wpAny_field e0 rfl (x := .ref P) rfl ?_)
 refine wpAny_bind (wpAny_seqItems eP rfl ?_); show wpAny _ _ (Builtin.SmallTypes.ownedTupleIsFree (.ref z) >>= _) _ _ _
 refine wpAny_bind ?_; unfold Builtin.SmallTypes.ownedTupleIsFree; refine wpAny_bind (wpAny_field e0 rfl (x := .none) rfl (wpAny_pure ?_))
 simp only [if_true]; refine wpAny_bind (wpAny_rule ?_); refine wpAny_bind (wpAny_field e0 rfl (x := .ref O) rfl ?_)
 refine wpAny_bind (wpAny_setField_rec e0 (by simp) fun g1 k1 s1 => ?_)
 have k1' : IsZip g1 z P O .ellipsis := k1
 refine wpAny_bind ?_; simp only [List.zipIdx_cons, List.zipIdx_nil, List.forIn_cons, List.forIn_nil]
 refine wpAny_bind (wpAny_bind (wpAny_onRaise ?_)); show wpAny _ _ (Builtin.SmallTypes.nextOf (.ref j1) >>= _) _ _ _
 refine wpAny_bind (wpAny_nextOf_list_item (c1.extBut s1.extBut D.i1z) (d1.extBut s1.extBut D.l1z) eu fun g2 i1 s2 => wpAny_pure ?_)
 have o2 : IsPair g2 O a b := s2.extBut _ _ D.TOi1 (s1.extBut _ _ D.TOz eO)
 refine wpAny_bind (wpAny_seqItems o2 rfl ?_); refine wpAny_bind (wpAny_updateSeq_pair o2 fun g3 o3 s3 => ?_)
 have o3' : IsPair g3 O u b := o3
 refine wpAny_bind (wpAny_letGo (wpAny_pure ?_)); refine wpAny_bind (wpAny_bind (wpAny_onRaise ?_)); show wpAny _ _ (Builtin.SmallTypes.nextOf (.ref j2) >>= _) _ _ _
 refine wpAny_bind (drawT_item (((c2.extBut s1.extBut D.i2z).extBut s2.extBut D.i12.symm).extBut s3.extBut D.TOi2.symm) (((d2.extBut s1.extBut D.l2z).extBut s2.extBut D.l2i1).extBut s3.extBut D.l2TO) ev fun g4 i2 s4 => wpAny_pure ?_)
 have o4 : IsPair g4 O u b := s4.extBut _ _ D.TOi2 o3'
 refine wpAny_bind (wpAny_seqItems o4 rfl ?_); refine wpAny_bind (wpAny_updateSeq_pair o4 fun g5 o5 s5 => ?_)
 have o5' : IsPair g5 O u v := o5
 refine wpAny_bind (wpAny_letGo (wpAny_pure (wpAny_pure ?_))); refine wpAny_bind (wpAny_seqItems o5' rfl ?_); refine wpAny_bind (wpAny_newTuple ?_)
 have hsz : g5.objs.size = s.heap.objs.size := by rw [s5.1, s4.1, s3.1, s2.1, s1.1]
 have z5 : IsZip g5 z P O .ellipsis := s5.extBut _ _ D.TOz.symm (s4.extBut _ _ D.i2z.symm (s3.extBut _ _ D.TOz.symm (s2.extBut _ _ D.i1z.symm k1')))
 have kp : ∀ c o, c ≠ z → c ≠ O → c ≠ j1 → c ≠ j2 → s.heap.get? c = some o → g5.get? c = some o := fun c o n1 n2 n3 n4 e => s5.extBut _ _ n2 (s4.extBut _ _ n4 (s3.extBut _ _ n2 (s2.extBut _ _ n3 (s1.extBut _ _ n1 e))))
 have i1' : g5.IsListIter j1 l (n + 1) := ((i1.extBut s3.extBut D.TOi1.symm).extBut s4.extBut D.i12).extBut s5.extBut D.TOi1.symm
 have i2' : g5.IsTupleIter j2 t (m + 1) := i2.extBut s5.extBut D.TOi2.symm
 have zlt : z < g5.objs.size := Heap.lt_size z5
 show wpAny _ _ (Builtin.SmallTypes.ownedTupleHandOut (.ref z) (.ref g5.objs.size) >>= _) _ _ _; refine wpAny_bind ?_; unfold Builtin.SmallTypes.ownedTupleHandOut
 have z6 : IsZip (g5.push { cls := .type "tuple", data := .seq #[u, v] }) z P O .ellipsis := Heap.get?_push_of_some _ z5
 refine wpAny_bind (wpAny_setField_rec z6 (by simp) fun g7 z7 s7 => ?_)
 have z7' : IsZip g7 z P O (rawInt g5.objs.size) := z7
 refine wpAny_setField_rec z7' (by simp) fun g8 z8 s8 => ?_
 have z8' : IsZip g8 z P O (rawInt g5.objs.size) := z8
 have up : ∀ c o, c ≠ z → g5.get? c = some o → g8.get? c = some o := fun c o n1 e => s8.extBut _ _ n1 (s7.extBut _ _ n1 (Heap.get?_push_of_some _ e))
 have t8 : IsPair g8 g5.objs.size u v := s8.extBut _ _ (Nat.ne_of_gt zlt) (s7.extBut _ _ (Nat.ne_of_gt zlt) (Heap.get?_push_size _ rfl))
 rw [hsz] at z8' t8
 refine wpAny_pure ⟨_, rfl, ?_⟩; show Q (.ref g5.objs.size) _; rw [hsz]
 exact q g8 z8' (up _ _ D.TOz o5') (i1'.at fun o e => up _ o D.i1z e) (i2'.at fun o e => up _ o D.i2z e) t8 fun c o n1 n2 n3 n4 e => up c o n1 (kp c o n1 n2 n3 n4 e)
theorem zlt_end {n m : Nat} {us vs : Array Value} {a b : Value} {Q : Fin → Shared → Prop} (hh : A.handled = none) (D : ZipApart z P O j1 j2 l t)
    (e0 : IsZip s.heap z P O .none) (eP : IsPair s.heap P (.ref j1) (.ref j2)) (eO : IsPair s.heap O a b) (c1 : s.heap.IsListIter j1 l n) (c2 : s.heap.IsTupleIter j2 t m) (d1 : s.heap.IsList l us) (d2 : s.heap.IsTuple t vs) (hend : us[n]? = none ∨ vs[m]? = none)
    (q : ∀ h' x, (∀ c o, c ≠ z → c ≠ O → c ≠ j1 → c ≠ j2 → s.heap.get? c = some o → h'.get? c = some o) → (∃ o, h'.get? x = some o ∧ o.cls = .type "StopIteration") → E (.ref x) { s with heap := h' }) :
    wpAny (model prog w) A (Builtin.«zip.__next__» ⟨[.ref z], []⟩) Q E s := by
  show wpAny _ _ (field (.ref z) 2 >>= _) _ _ _; refine wpAny_bind (wpAny_field e0 rfl (x := .bool false) rfl ?_)
  show wpAny _ _ (field (.ref z) 3 >>= _) _ _ _; refine wpAny_bind (wpAny_field e0 rfl (x := .ref P) rfl ?_)
  refine wpAny_bind (wpAny_seqItems eP rfl ?_); show wpAny _ _ (Builtin.SmallTypes.ownedTupleIsFree (.ref z) >>= _) _ _ _
  refine wpAny_bind ?_; unfold Builtin.SmallTypes.ownedTupleIsFree; refine wpAny_bind (wpAny_field e0 rfl (x := .none) rfl (wpAny_pure ?_))
  simp only [if_true]; refine wpAny_bind (wpAny_rule ?_); refine wpAny_bind (wpAny_field e0 rfl (x := .ref O) rfl ?_)
  refine wpAny_bind (wpAny_setField_rec e0 (by simp) fun g1 k1 s1 => ?_)
  have k1' : IsZip g1 z P O .ellipsis := k1
  refine wpAny_bind ?_; simp only [List.zipIdx_cons, List.zipIdx_nil, List.forIn_cons, List.forIn_nil]
  refine wpAny_bind (wpAny_bind (wpAny_onRaise ?_)); show wpAny _ _ (Builtin.SmallTypes.nextOf (.ref j1) >>= _) _ _ _
  cases eu : us[n]? with
  | none =>
    refine wpAny_bind (wpAny_nextOf_list_end hh (c1.extBut s1.extBut D.i1z) (d1.extBut s1.extBut D.l1z) eu fun g2 x s2 hx => ?_)
    obtain ⟨ox, h1, h2⟩ := hx
    have z2 : IsZip g2 z P O .ellipsis := s2 _ _ D.i1z.symm k1'
    have hez : x ≠ z := fun y => by subst y; rw [z2] at h1; cases h1; simp at h2
    refine wpAny_setField_rec z2 (by simp) fun g3 _ s3 => q g3 x (fun c o n1 _ n3 _ y => s3.extBut _ _ n1 (s2 _ _ n3 (s1.extBut _ _ n1 y))) ⟨ox, s3.extBut _ _ hez h1, h2⟩
  | some u =>
    have ev : vs[m]? = none := by rcases hend with h | h; rw [eu] at h; cases h; exact h
    refine wpAny_bind (wpAny_nextOf_list_item (c1.extBut s1.extBut D.i1z) (d1.extBut s1.extBut D.l1z) eu fun g2 i1 s2 => wpAny_pure ?_)
    have o2 : IsPair g2 O a b := s2.extBut _ _ D.TOi1 (s1.extBut _ _ D.TOz eO)
    refine wpAny_bind (wpAny_seqItems o2 rfl ?_); refine wpAny_bind (wpAny_updateSeq_pair o2 fun g3 o3 s3 => ?_)
    refine wpAny_bind (wpAny_letGo (wpAny_pure ?_)); refine wpAny_bind (wpAny_bind (wpAny_onRaise ?_)); show wpAny _ _ (Builtin.SmallTypes.nextOf (.ref j2) >>= _) _ _ _
    refine wpAny_bind (drawT_end hh (((c2.extBut s1.extBut D.i2z).extBut s2.extBut D.i12.symm).extBut s3.extBut D.TOi2.symm) (((d2.extBut s1.extBut D.l2z).extBut s2.extBut D.l2i1).extBut s3.extBut D.l2TO) ev fun g4 x s4 hx => ?_)
    obtain ⟨ox, h1, h2⟩ := hx
    have z4 : IsZip g4 z P O .ellipsis := s4 _ _ D.i2z.symm (s3.extBut _ _ D.TOz.symm (s2.extBut _ _ D.i1z.symm k1'))
    have hez : x ≠ z := fun y => by subst y; rw [z4] at h1; cases h1; simp at h2
    refine wpAny_setField_rec z4 (by simp) fun g5 _ s5 => q g5 x (fun c o n1 n2 n3 n4 y => s5.extBut _ _ n1 (s4 _ _ n4 (s3.extBut _ _ n2 (s2.extBut _ _ n3 (s1.extBut _ _ n1 y))))) ⟨ox, s5.extBut _ _ hez h1, h2⟩
abbrev zL1 (h : Heap) (l : Addr) : Heap := h.push { cls := .type "list_iterator", data := .fields #[.ref l, .int 0 0] }
abbrev zL2 (h : Heap) (l t : Addr) : Heap := (zL1 h l).push { cls := .type "tuple_iterator", data := .fields #[.ref t, .int 0 0] }
abbrev zL3 (h : Heap) (l t : Addr) : Heap := (zL2 h l t).push { cls := .type "tuple", data := .seq #[.ref h.objs.size, .ref (zL1 h l).objs.size] }
abbrev zL4 (h : Heap) (l t : Addr) : Heap := (zL3 h l t).push { cls := .type "tuple", data := .seq #[.none, .none] }
abbrev zL5 (h : Heap) (l t : Addr) : Heap := (zL4 h l t).push { cls := .type "zip", data := .fields #[.none, .bool false, .bool false, .ref (zL2 h l t).objs.size, .ref (zL3 h l t).objs.size] }
end
theorem meets_zlt (l t : Addr) (us vs : Array Value) :
  Meets (Builtin.«zip.__new__» ⟨[.type "zip", .ref l, .ref t], []⟩) (fun _ R s => s.heap.IsList l us ∧ s.heap.IsTuple t vs ∧ R (.ok (.ret (.ref (zL4 s.heap l t).objs.size))) { s with heap := zL5 s.heap l t }) :=
 .of_wp fun prog w A R s h => by
  obtain ⟨hp, g, d, tk, os⟩ := s; obtain ⟨a1, a2, h⟩ := h
  have hsub := sub_zip
  have b1 : Heap.IsList (Shared.heap ⟨hp, g, d, tk, os⟩) l us := a1
  have b2 : Heap.IsTuple (Shared.heap ⟨hp.push { cls := .type "list_iterator", data := .fields #[.ref l, .int 0 0] }, g, d, tk, os⟩) t vs := Heap.IsTuple.push a2 _
  wp_walk using wpAny_pyIter_list b1, wpAny_pyIter_tuple b2
  exact ⟨_, rfl, h⟩
theorem call_zlt {prog : Program} {w : World} {A : Around} {E : Value → Shared → Prop} {s : Shared} {l t : Addr} {us vs : Array Value} {Q : Value → Shared → Prop} (a1 : s.heap.IsList l us) (a2 : s.heap.IsTuple t vs)
  (q : ∀ h', IsZip h' (s.heap.objs.size + 4) (s.heap.objs.size + 2) (s.heap.objs.size + 3) .none → IsPair h' (s.heap.objs.size + 2) (.ref s.heap.objs.size) (.ref (s.heap.objs.size + 1)) → IsPair h' (s.heap.objs.size + 3) .none .none →
   h'.IsListIter s.heap.objs.size l 0 → h'.IsTupleIter (s.heap.objs.size + 1) t 0 → (∀ c o, s.heap.get? c = some o → h'.get? c = some o) → Q (.ref (s.heap.objs.size + 4)) { s with heap := h' }) :
  wpAny (model prog w) A (call (.type "zip") [.ref l, .ref t]) Q E s := by
 refine callType_new F.called_zip (by decide) (F.typeCall_zip_2 _ _) (F.newCall_zip_2 _ _) (fun ob => F.args_object_init_3 ob _ _) F.entry_zip_new (meets_zlt l t us vs) ⟨a1, a2, ?_⟩
 have z1 : (zL1 s.heap l).objs.size = s.heap.objs.size + 1 := Heap.size_push ..
 have z2 : (zL2 s.heap l t).objs.size = s.heap.objs.size + 2 := by rw [Heap.size_push, z1]
 have z3 : (zL3 s.heap l t).objs.size = s.heap.objs.size + 3 := by rw [Heap.size_push, z2]
 have z4 : (zL4 s.heap l t).objs.size = s.heap.objs.size + 4 := by rw [Heap.size_push, z3]
 have g5 : (zL5 s.heap l t).get? (zL4 s.heap l t).objs.size = some _ := Heap.get?_push_size _ rfl
 have g4 : (zL5 s.heap l t).get? (zL3 s.heap l t).objs.size = some _ := Heap.get?_push_of_some _ (Heap.get?_push_size _ rfl)
 have g3 : (zL5 s.heap l t).get? (zL2 s.heap l t).objs.size = some _ := Heap.get?_push_of_some _ (Heap.get?_push_of_some _ (Heap.get?_push_size _ rfl))
 have g2 : (zL5 s.heap l t).get? (zL1 s.heap l).objs.size = some _ := Heap.get?_push_of_some _ (Heap.get?_push_of_some _ (Heap.get?_push_of_some _ (Heap.get?_push_size _ rfl)))
 have g1 : (zL5 s.heap l t).get? s.heap.objs.size = some _ := Heap.get?_push_of_some _ (Heap.get?_push_of_some _ (Heap.get?_push_of_some _ (Heap.get?_push_of_some _ (Heap.get?_push_size _ rfl))))
 show _ ∧ _
 rw [z2, z3, z4] at g5
 rw [z1, z2] at g3
 rw [z3] at g4
 rw [z1] at g2
 rw [z4]
 exact ⟨⟨_, g5, rfl⟩, q _ g5 g3 g4 ⟨_, g1, rfl, rfl⟩ ⟨_, g2, rfl, rfl⟩ fun c o x => Heap.get?_push_of_some _ (Heap.get?_push_of_some _ (Heap.get?_push_of_some _ (Heap.get?_push_of_some _ (Heap.get?_push_of_some _ x))))⟩
def Itz (K : PySem.W.Frag) (a b : Addr) : It :=
 ⟨fun i H => ∃ xs ys x y, SqL K H a xs ∧ SqT K H b ys ∧ xs[i]? = some x ∧ ys[i]? = some y, fun i H x H' => ∃ p u v, H p = none ∧ x = .ref p ∧ H' = upd H p (.tup [u, v]) ∧ (∀ xs, SqL K H a xs → xs[i]? = some u) ∧ ∀ ys, SqT K H b ys → ys[i]? = some v,
  fun i H => ∃ xs ys, SqL K H a xs ∧ SqT K H b ys ∧ (xs[i]? = none ∨ ys[i]? = none)⟩
theorem apart_of {h : Heap} {z P O j1 j2 a b : Addr} {i : Nat} {us vs : Array Value} (n : z = O + 1 ∧ O = P + 1 ∧ P = j2 + 1 ∧ j2 = j1 + 1) (e0 : IsZip h z P O .none) (eO : ∃ x y, IsPair h O x y ∧ a ≠ O ∧ b ≠ O) (c1 : h.IsListIter j1 a i) (c2 : h.IsTupleIter j2 b i) (d1 : h.IsList a us) (d2 : h.IsTuple b vs) : ZipApart z P O j1 j2 a b := by
 obtain ⟨o1, x1, y1, _⟩ := c1
 obtain ⟨o2, x2, y2, _⟩ := c2
 obtain ⟨o3, x3, y3, _⟩ := d1
 obtain ⟨o4, x4, y4, _⟩ := d2
 obtain ⟨_, _, _, na, nb⟩ := eO
 have n1 : @Eq Nat z (O + 1) := n.1
 have n2 : @Eq Nat O (P + 1) := n.2.1
 have n3 : @Eq Nat P (j2 + 1) := n.2.2.1
 have n4 : @Eq Nat j2 (j1 + 1) := n.2.2.2
 have ne : ∀ x y : Nat, (x < y ∨ y < x) → x ≠ y := fun x y h => by omega
 refine ⟨ne _ _ (by omega), ne _ _ (by omega), ne _ _ (by omega), ne _ _ (by omega), ne _ _ (by omega), ne _ _ (by omega), ne _ _ (by omega), ne _ _ (by omega), ne _ _ (by omega), ne _ _ (by omega), ?_, na, ?_, ?_, ?_, nb, ?_, ?_⟩
 ·intro y; rw [y, e0] at x3; cases x3; simp at y3
 ·intro y; rw [y, x1] at x3; cases x3; rw [y1] at y3; simp at y3
 ·intro y; rw [y, x2] at x3; cases x3; rw [y2] at y3; simp at y3
 ·intro y; rw [y, e0] at x4; cases x4; simp at y4
 ·intro y; rw [y, x1] at x4; cases x4; rw [y1] at y4; simp at y4
 ·intro y; rw [y, x2] at x4; cases x4; rw [y2] at y4; simp at y4
theorem turn_zip {P' : Program} {w : World} {K : PySem.W.Frag} {es : List Expr} {k : Nat} {pos : Pos} (a b z P O j1 j2 : Addr) (n : z = O + 1 ∧ O = P + 1 ∧ P = j2 + 1 ∧ j2 = j1 + 1) (na : a ≠ O ∧ b ≠ O) :
  Turn P' w K (.Tuple es k pos) (Itz K a b) [z, P, O, j1, j2] z (fun i h => IsZip h z P O .none ∧ IsPair h P (.ref j1) (.ref j2) ∧ (∃ x y, IsPair h O x y) ∧ h.IsListIter j1 a i ∧ h.IsTupleIter j2 b i) where
 mem := by simp
 obj := fun i h st c hc => by
  obtain ⟨e0, eP, ⟨x, y, eO⟩, ⟨o1, x1, y1, w1⟩, o2, x2, y2, w2⟩ := st
  simp only [List.mem_cons, List.not_mem_nil, or_false] at hc
  rcases hc with rfl | rfl | rfl | rfl | rfl
  ·exact ⟨_, e0, fun v y => by cases y⟩
  ·exact ⟨_, eP, fun v y => by cases y⟩
  ·exact ⟨_, eO, fun v y => by cases y⟩
  ·exact ⟨o1, x1, fun v y => by rw [w1] at y; cases y⟩
  ·exact ⟨o2, x2, fun v y => by rw [w2] at y; cases y⟩
 keep := fun i h h' st k => by
  obtain ⟨e0, eP, ⟨x, y, eO⟩, c1, c2⟩ := st
  exact ⟨k _ (by simp) _ e0, k _ (by simp) _ eP, ⟨x, y, k _ (by simp) _ eO⟩, c1.at fun o e => k _ (by simp) o e, c2.at fun o e => k _ (by simp) o e⟩
 item := by
  intro X hP hw hK hc i pins s σ H E I hf st hg
  subst hP hw hK
  obtain ⟨xs, ys, x, y, hq, hr, hx, hy⟩ := hg
  obtain ⟨its, rv, pl, hz⟩ := I.list hq
  obtain ⟨jts, rw', pt, hz'⟩ := I.tuple hr
  obtain ⟨u, hu, ru⟩ := rv.get hx
  obtain ⟨v, hv, rr⟩ := rw'.get hy
  obtain ⟨e0, eP, ⟨p, q, eO⟩, c1, c2⟩ := st
  have D := apart_of n e0 ⟨p, q, eO, na⟩ c1 c2 pl.isList pt
  have hT : s.TypeIs (.ref z) "zip" := ⟨_, e0, rfl⟩
  unfold pyNext
  refine wpAny_bind (wpAny_attempt (wpAny_callSpecial?_slot (name := Str.ofString "__next__") hT F.slot_zip_next (wpAny_call_entry F.slot_zip_next hT F.entry_zip_next (zlt_item D e0 eP eO c1 c2 pl.isList pt (u := u) (v := v) (by simpa using hu) (by simpa using hv) fun h' z1 o1 i1 i2 t1 kp => ?_) (F.args_zip_next_1 _))))
  refine wpAny_pure ⟨_, rfl, wpAny_letOwnedTupleGo_zip z1 fun h2 z2 s2 => ?_⟩
  have hzs : z < s.heap.objs.size := Heap.lt_size e0
  have kk : ∀ c o, c ∉ [z, P, O, j1, j2] → s.heap.get? c = some o → h2.get? c = some o := fun c o hc e => by
   simp only [List.mem_cons, List.not_mem_nil, or_false, not_or] at hc
   exact s2.extBut _ _ hc.1 (kp c o hc.1 hc.2.2.1 hc.2.2.2.1 hc.2.2.2.2 e)
  have tT : h2.IsTuple s.heap.objs.size #[u, v] := ⟨_, s2.extBut _ _ (Nat.ne_of_gt hzs) t1, rfl, _, rfl⟩
  have I2 : Inv X pins σ (upd H s.heap.objs.size (.tup [x, y])) { s with heap := h2, toks := s.toks } := I.turnLaid kk hf (Nat.le_refl _) ⟨by show 2 ≤ sizeLine; decide, [u, v], .cons ru (.cons rr .nil), tT⟩
  have nT : H s.heap.objs.size = none := I.hok.fresh (Nat.le_refl _)
  have eP2 : IsPair h2 P (.ref j1) (.ref j2) := s2.extBut _ _ D.TIz (kp _ _ D.TIz D.TITO D.TIi1 D.TIi2 eP)
  refine ⟨.ref s.heap.objs.size, _, I2, rfl, ⟨s.heap.objs.size, x, y, nT, rfl, rfl, fun zs hzs => by rw [I.list_inj hzs hq]; exact hx, fun zs hzs => by rw [I.tuple_inj hzs hr]; exact hy⟩, ⟨z2, eP2, ⟨u, v, s2.extBut _ _ D.TOz o1⟩, i1.at fun o e => s2.extBut _ _ D.i1z e, i2.at fun o e => s2.extBut _ _ D.i2z e⟩, fun c hc => ?_⟩
  rw [upd_ne (fun y => ?_)]
  ·exact (hf c hc).1
  ·have n1 : @Eq Nat z (O + 1) := n.1
   have n2 : @Eq Nat O (P + 1) := n.2.1
   have n3 : @Eq Nat P (j2 + 1) := n.2.2.1
   have n4 : @Eq Nat j2 (j1 + 1) := n.2.2.2
   have y' : @Eq Nat c s.heap.objs.size := y
   have hzs' : @LT.lt Nat _ z s.heap.objs.size := hzs
   simp only [List.mem_cons, List.not_mem_nil, or_false] at hc
   rcases hc with rfl | rfl | rfl | rfl | rfl <;> omega
 done := by
  intro X hP hw hK hc i pins s σ H E I hf st hg
  subst hP hw hK
  obtain ⟨xs, ys, hq, hr, hend⟩ := hg
  obtain ⟨its, rv, pl, hz⟩ := I.list hq
  obtain ⟨jts, rw', pt, hz'⟩ := I.tuple hr
  obtain ⟨e0, eP, ⟨p, q, eO⟩, c1, c2⟩ := st
  have D := apart_of n e0 ⟨p, q, eO, na⟩ c1 c2 pl.isList pt
  have hT : s.TypeIs (.ref z) "zip" := ⟨_, e0, rfl⟩
  have hend' : its.toArray[i]? = none ∨ jts.toArray[i]? = none := by
   rcases hend with h | h
   ·left
    have := List.getElem?_eq_none_iff.mp h
    rw [rv.length] at this
    simpa using this
   ·right
    have := List.getElem?_eq_none_iff.mp h
    rw [rw'.length] at this
    simpa using this
  unfold pyNext
  refine wpAny_bind (wpAny_attempt (wpAny_callSpecial?_slot (name := Str.ofString "__next__") hT F.slot_zip_next (wpAny_call_entry F.slot_zip_next hT F.entry_zip_next (zlt_end (show X.A.in1.handled = none from I.ok.hd hc) D e0 eP eO c1 c2 pl.isList pt hend' fun h' x kp hx => ?_) (F.args_zip_next_1 _))))
  obtain ⟨o, h1, h2⟩ := hx
  refine wpAny_bind (wpAny_isInstance (T := "StopIteration") (b := true) ⟨o, h1, h2⟩ isSubtype_stop (wpAny_pure ⟨rfl, ?_⟩))
  refine I.turnedL (fp := [z, P, O, j1, j2]) (t' := s.toks) (fun c o hc e => ?_) hf
  simp only [List.mem_cons, List.not_mem_nil, or_false, not_or] at hc
  exact kp c o hc.1 hc.2.2.1 hc.2.2.2.1 hc.2.2.2.2 e
 self := fun _ i s _ _ st h => wpAny_pyIter_zip st.1 h
section
variable {X : Cx} {es : List Expr} {k : Nat} {tpos : Pos}
def iZip (K : PySem.W.Frag) (ta : TA) : TI := fun σ H R => ta σ H fun vs H1 => ∃ a b xs ys, vs = [.ref a, .ref b] ∧ SqL K H1 a xs ∧ SqT K H1 b ys ∧ R (Itz K a b) H1
theorem pi_zip {a b : Expr} {ta : TA} {p pos : Pos} (hg : Gl X "zip") (hm : X.mg "zip" = none) (ha : PA X [a, b] ta) (hs : starEach [a, b] X.env = (false, eval a X.env) :: starEach [b] X.env) (hp : (backTo pos (starEach [b] X.env)).any (·.1) = false) : PI X (.Tuple es k tpos) (.Call (.Name "zip" p) [a, b] [] pos) (iZip X.K ta) := by
 intro pins s σ H R I h
 refine Call_ (ld_blt I hg hm boot_zip (PyProof.Rows.callWith_type1 (thn (ha pos pins s σ H _ I h) fun us s1 ⟨vs, H1, I1, r1, q1⟩ => ?_) hs hp))
 obtain ⟨c, d, xs, ys, e, hq, hr, q⟩ := q1
 subst e
 obtain ⟨u, v, e, ru, rv'⟩ := vals2 r1
 subst e
 cases ru
 cases rv'
 obtain ⟨its, rv, pl, hz⟩ := I1.list hq
 obtain ⟨jts, rw', pt, hz'⟩ := I1.tuple hr
 refine call_zlt pl.isList pt fun h' e0 eP eO c1 c2 kp => ?_
 refine wpAny_pyIter_zip e0 ?_
 have lc : c < s1.heap.objs.size := by obtain ⟨o, e, _⟩ := pl.isList; exact Heap.lt_size e
 have ld : d < s1.heap.objs.size := by obtain ⟨o, e, _⟩ := pt; exact Heap.lt_size e
 refine ⟨s1.heap.objs.size + 4, [s1.heap.objs.size + 4, s1.heap.objs.size + 2, s1.heap.objs.size + 3, s1.heap.objs.size, s1.heap.objs.size + 1], _, _, H1, rfl, I1.kept (t' := s1.toks) kp,
  turn_zip c d _ _ _ _ _ ⟨rfl, rfl, rfl, rfl⟩ ⟨Nat.ne_of_lt (Nat.lt_of_lt_of_le lc (Nat.le_add_right _ _)), Nat.ne_of_lt (Nat.lt_of_lt_of_le ld (Nat.le_add_right _ _))⟩, ⟨e0, eP, ⟨_, _, eO⟩, c1, c2⟩, fun x hx => ?_, q⟩
 have hx' : s1.heap.objs.size ≤ x := by
  simp only [List.mem_cons, List.not_mem_nil, or_false] at hx
  rcases hx with rfl | rfl | rfl | rfl | rfl <;> first | exact Nat.le_refl _ | exact Nat.le_add_right _ _
 exact I1.fpOk hx' (I1.hok.fresh hx')
end
end L2
namespace L2
open PySem PySem.Spec PyProof.Rows
theorem forIn_fold {α β : Type} {f : α → β → Sem (ForInStep β)} (g : α → β → β) : ∀ (l : List α) (b : β), (∀ x ∈ l, ∀ b, f x b = pure (.yield (g x b))) → (forIn l b f : Sem β) = pure (l.foldl (fun b x => g x b) b)
  | [], b, _ => rfl
  | x :: l, b, h => by
    rw [List.forIn_cons, h x List.mem_cons_self b]
    simp only [pure_bind, List.foldl_cons]
    exact forIn_fold g l (g x b) fun y hy => h y (List.mem_cons_of_mem _ hy)
def closStep (cells : List (Str × Addr)) (cs : List (Str × Addr)) (x : Str × NameKind) : List (Str × Addr) := if x.2 = .free then (x.1, (cells.lookup x.1).getD 0) :: cs else cs
def closOf (cells : List (Str × Addr)) (names : List (Str × NameKind)) : List (Str × Addr) := names.foldl (closStep cells) []
theorem closureFor_eq {scope : Scope} {env : Env} (h : ∀ y ∈ scope.names, y.2 = .free → ∃ c, env.cells.lookup y.1 = some c) : closureFor scope env = pure (closOf env.cells scope.names) := by
 simp only [closureFor]
 rw [forIn_fold (fun x cs => closStep env.cells cs x) scope.names [] (fun x hx c => by
  obtain ⟨n, kind⟩ := x
  by_cases hk : kind = .free
  ·obtain ⟨a, ha⟩ := h _ hx hk
   subst hk
   have ha' : env.cells.lookup n = some a := ha
   simp [cellOf, ha', closStep]
  ·have hk' : (kind == NameKind.free) = false := by simpa using hk
   simp [hk', hk, closStep])]
 rfl
theorem clos_in {cells : List (Str × Addr)} : ∀ (names : List (Str × NameKind)) (acc : List (Str × Addr)), (∀ y ∈ names, y.2 = .free → ∃ c, cells.lookup y.1 = some c) →
    (∀ x c, acc.lookup x = some c → cells.lookup x = some c) → ∀ x c, (names.foldl (closStep cells) acc).lookup x = some c → cells.lookup x = some c
  | [], _, _, h, x, c, e => h x c e
  | (n, k) :: r, acc, hc, h, x, c, e => by
    rw [List.foldl_cons] at e
    refine clos_in r _ (fun y hy => hc y (List.mem_cons_of_mem _ hy)) ?_ x c e
    intro y d hd
    unfold closStep at hd
    by_cases hk : k = .free
    · obtain ⟨a, ha⟩ := hc (n, k) List.mem_cons_self hk
      have ha' : cells.lookup n = some a := ha
      simp only [hk, if_true, ha', Option.getD_some, List.lookup_cons] at hd
      cases hyn : y == n with
      | true =>
        rw [hyn] at hd
        have e2 := eq_of_beq hyn
        subst e2
        exact ha'.trans hd
      | false =>
        rw [hyn] at hd
        exact h y d hd
    · simp only [hk, if_false] at hd
      exact h y d hd
theorem clos_has {cells : List (Str × Addr)} : ∀ (names : List (Str × NameKind)) (acc : List (Str × Addr)) (x : Str), ((x, NameKind.free) ∈ names ∨ ∃ c, acc.lookup x = some c) → ∃ c, (names.foldl (closStep cells) acc).lookup x = some c
  | [], acc, x, h => by
    rcases h with h | h
    · exact absurd h (by simp)
    · exact h
  | (n, k) :: r, acc, x, h => by
    rw [List.foldl_cons]
    refine clos_has r _ x ?_
    have keep : (∃ c, acc.lookup x = some c) → ∃ c, (closStep cells acc (n, k)).lookup x = some c := fun ⟨c, hc⟩ => by
      unfold closStep
      by_cases hk : k = .free
      · simp only [hk, if_true, List.lookup_cons]
        cases hxn : x == n with
        | true => exact ⟨_, rfl⟩
        | false => exact ⟨c, hc⟩
      · simp only [hk, if_false]
        exact ⟨c, hc⟩
    rcases h with h | h
    · rcases List.mem_cons.mp h with h | h
      · cases h
        refine .inr ?_
        unfold closStep
        simp only [if_true, List.lookup_cons, beq_self_eq_true]
        exact ⟨_, rfl⟩
      · exact .inl h
    · exact .inr (keep h)
def relN (psc : Scope) (names : List (Str × NameKind)) : List (Str × NameKind) := names.map fun (n, k) => if (k == .free && psc.kind == .function && psc.names.lookup n == some .cell) then (n, .cell) else (n, k)
theorem rel_mem {psc : Scope} : ∀ {names : List (Str × NameKind)} {x : Str} {k' : NameKind}, (relN psc names).lookup x = some k' → (k' = .cell ∨ k' = .free) → (∀ y ∈ names, y.2 ≠ .cell) → (x, NameKind.free) ∈ names
  | [], _, _, h, _, _ => by simp [relN] at h
  | (n, k) :: r, x, k', h, hk, hn => by
    have ih := @rel_mem psc r x k'
    have h' : List.lookup x ((if (k == NameKind.free && psc.kind == .function && psc.names.lookup n == some .cell) = true then (n, NameKind.cell) else (n, k)) :: relN psc r) = some k' := h
    cases hx : x == n with
    | true =>
      have e := eq_of_beq hx
      subst e
      by_cases hc : (k == NameKind.free && psc.kind == .function && psc.names.lookup x == some .cell) = true
      · have hkf : k = .free := by
          cases k <;> first | rfl | (exfalso; simp at hc)
        rw [hkf]
        exact List.mem_cons_self
      · rw [if_neg hc] at h'
        simp only [List.lookup_cons, beq_self_eq_true] at h'
        have e2 : k = k' := Option.some.inj h'
        subst e2
        rcases hk with hk | hk
        · exact absurd hk (hn (x, k) List.mem_cons_self)
        · rw [hk]
          exact List.mem_cons_self
    | false =>
      refine List.mem_cons_of_mem _ (ih ?_ hk fun y hy => hn y (List.mem_cons_of_mem _ hy))
      by_cases hc : (k == NameKind.free && psc.kind == .function && psc.names.lookup n == some .cell) = true
      · rw [if_pos hc] at h'
        simp only [List.lookup_cons, hx] at h'
        exact h'
      · rw [if_neg hc] at h'
        simp only [List.lookup_cons, hx] at h'
        exact h'
def capSt (cs : List (Str × Nat)) (σ : St) : St := cs.map fun p => (σ[p.2]?).join
abbrev compCx (X : Cx) (Nc : List Str) (scope : Scope) (cl : List (Str × Addr)) (C : Addr) (s₀ : Shared) (H₀ : Hp) (ex : List Addr) (pn : List (Addr × Obj)) : Cx :=
 { X with N := Nc, s₀ := s₀, H₀ := H₀, env := compEnvC scope cl C X.env, outer := X.stack, ex := ex, fn := fun _ => false, pn := pn, xe := fun _ _ => False }
def compOkB (N : List Str) (psc : Scope) (x : Str) (cs : List (Str × Nat)) (scope : Scope) : Bool :=
 scope.kind == .function && scope.names.lookup x == some .local && decide ((x :: cs.map (·.1)).Nodup) &&
 scope.names.all (fun y => y.2 != .cell && (y.2 != .local || scope.names.lookup y.1 == some .local) && (y.2 != .free || (psc.names.lookup y.1 == some .cell || psc.names.lookup y.1 == some .free))) &&
 cs.all (fun p => N[p.2]? == some p.1 && (psc.names.lookup p.1 == some .cell || psc.names.lookup p.1 == some .free) && ((relN psc scope.names).lookup p.1 == some .cell || (relN psc scope.names).lookup p.1 == some .free))
structure CompOk (N : List Str) (psc : Scope) (x : Str) (cs : List (Str × Nat)) (scope : Scope) : Prop where
 kind : scope.kind = .function
 own : scope.names.lookup x = some .local
 nd : (x :: cs.map (·.1)).Nodup
 cell : ∀ y ∈ scope.names, y.2 ≠ .cell
 names : ∀ y ∈ scope.names, y.2 = .local → scope.names.lookup y.1 = some .local
 has : ∀ y ∈ scope.names, y.2 = .free → psc.names.lookup y.1 = some .cell ∨ psc.names.lookup y.1 = some .free
 cap : ∀ p ∈ cs, N[p.2]? = some p.1 ∧ (psc.names.lookup p.1 = some .cell ∨ psc.names.lookup p.1 = some .free) ∧ ((relN psc scope.names).lookup p.1 = some .cell ∨ (relN psc scope.names).lookup p.1 = some .free)
theorem CompOk.of {N : List Str} {psc : Scope} {x : Str} {cs : List (Str × Nat)} {scope : Scope} (h : compOkB N psc x cs scope = true) : CompOk N psc x cs scope := by
 unfold compOkB at h
 simp only [Bool.and_eq_true, Bool.or_eq_true, List.all_eq_true, beq_iff_eq, decide_eq_true_eq, bne_iff_ne, ne_eq] at h
 obtain ⟨⟨⟨⟨h1, h2⟩, h3⟩, h4⟩, h5⟩ := h
 refine ⟨h1, h2, h3, fun y hy => (h4 y hy).1.1, fun y hy e => ?_, fun y hy e => ?_, fun p hp => ⟨(h5 p hp).1.1, (h5 p hp).1.2, (h5 p hp).2⟩⟩
 ·rcases (h4 y hy).1.2 with z | z
  ·exact absurd e z
  ·exact z
 ·rcases (h4 y hy).2 with z | z
  ·exact absurd e z
  ·exact z
def PIfs (X : Cx) (ifs : List Expr) (t : TT) : Prop :=
 ∀ (pins : List (Addr × Obj)) (s : Shared) (σ : St) (H : Hp) (Q : Bool → Hp → Prop), Inv X pins σ H s → t σ H Q →
  wpAny (model X.prog X.w) X.A (forIn ifs true fun c r => if r = true then do let ok ← isTrue c X.env (eval c X.env); pure (ForInStep.yield ok) else pure (ForInStep.yield r)) (TP X pins σ Q) X.xe s
def tYes : TT := fun _ H Q => Q true H
theorem pifs_none {X : Cx} : PIfs X [] tYes := fun _ _ _ H _ I h => wpAny_tests_nil ⟨H, I, h⟩
theorem pifs_one {X : Cx} {c : Expr} {t : TT} (h : PT X c t) : PIfs X [c] t := fun pins s σ H Q I hw => wpAny_tests_one (h pins s σ H Q I hw)
def tCompR (wi : TI) (tq : TT) (te : TE) (cs : List (Str × Nat)) : St → Hp → (Addr → Hp → Prop) → Prop := fun σ H R => wi σ H fun J H1 => ∀ D, H1 D = none →
  ∃ W : Nat → Nat → List V → Hp → Prop, (∃ m, W 0 m [] (upd H1 D (.lst []))) ∧ ∀ i m ys H2, W i m ys H2 → H2 D = some (.lst ys) ∧
    ((J.stop i H2 ∧ R D H2) ∨ (J.go i H2 ∧ ys.length < sizeLine ∧ ∃ N : List V → Hp → Prop, (∀ ys' H', N ys' H' → ∃ m', m' < m ∧ W (i + 1) m' ys' H') ∧ ∀ v H3, J.yld i H2 v H3 → tq (some v :: capSt cs σ) H3 fun b H4 =>
      if b = true then te (some v :: capSt cs σ) H4 fun y H5 => H5 D = some (.lst ys) ∧ N (ys ++ [y]) (upd H5 D (.lst (ys ++ [y]))) else N ys H4))
section
variable {prog : Program} {w : World} {A : Around} {R : Result → Shared → Prop} {s : Shared}
theorem codeAny_compLoop_go {elt target iter : Expr} {ifs : List Expr} {scope : Scope} {pos : Pos} {it acc : Value} {env : Env} (I : Nat → Shared → Prop)
    (turn : ∀ n s, I n s → wpAny (model prog w) A (pyNext it) (fun r s₁ => match r with
      | none => R (.ok .next) s₁
      | some v => wpAny (model prog w) A (letOwnedTupleGo target it v) (fun _ s₁' => wpAny (model prog w) A (assign target env v) (fun _ s₂ =>
          wpAny (model prog w) A (forIn ifs true fun c r => if r = true then do let ok ← isTrue c env (eval c env); pure (ForInStep.yield ok) else pure (ForInStep.yield r)) (fun ok s₃ =>
            if ok = true then wpAny (model prog w) A (eval elt env) (fun x s₄ =>
              wpAny (model prog w) A (call (.builtin "list.append") [acc, x]) (fun _ s₅ => ∃ m, m < n ∧ I m s₅) (fun _ _ => False) s₄) (fun _ _ => False) s₃
            else ∃ m, m < n ∧ I m s₃) (fun _ _ => False) s₂) (fun _ _ => False) s₁') (fun _ _ => False) s₁) (fun _ _ => False) s)
    (n : Nat) (h : I n s) :
    codeAny (model prog w) A (.compLoop (.ListComp elt [⟨target, iter, ifs, 0⟩] scope pos) 0 it acc env) R s := by
  refine codeAny_loop rfl I (fun n s hI => ?_) n h
  show wpAny _ A ((compTurn (.ListComp elt [⟨target, iter, ifs, 0⟩] scope pos) 0 it acc env).onRaise (fun x => do noteFrame x env; theTreesLotGoes x)) _ _ s
  refine wpAny_noted ?_
  rw [compTurn_list]
  refine wpAny_bind (wpAny_standAt (wpAny_bind (wpAny_mono (turn n s hI) (fun r s₁ h₁ => ?_) fun _ _ h' => h'.elim)))
  cases r with
  | none => exact wpAny_pure h₁
  | some v =>
    refine wpAny_bind (wpAny_mono h₁ (fun _ s₁' h₁' => ?_) fun _ _ h' => h'.elim)
    refine wpAny_bind (wpAny_mono h₁' (fun _ s₂ h₂ => wpAny_bind (wpAny_mono h₂ (fun ok s₃ h₃ => ?_) fun _ _ h' => h'.elim)) fun _ _ h' => h'.elim)
    cases ok with
    | false => exact wpAny_pure ⟨rfl, h₃⟩
    | true =>
      exact wpAny_bind (wpAny_bind (wpAny_mono h₃ (fun x s₄ h₄ => wpAny_bind (wpAny_mono h₄ (fun _ s₅ h₅ => wpAny_pure (wpAny_pure ⟨rfl, h₅⟩)) fun _ _ h' => h'.elim)) fun _ _ h' => h'.elim))
end
section
variable {X : Cx} {elt iter : Expr} {ifs : List Expr} {x : Str} {px : Pos} {scope : Scope} {pos : Pos} {wi : TI} {tq : TT} {te : TE} {cs : List (Str × Nat)}
theorem comp_core (hc : X.calm = true) (hi : PI X (.Name x px) iter wi)
    (hq : ∀ (cl : List (Str × Addr)) (C : Addr) (s₀ : Shared) (H₀ : Hp) (ex : List Addr) (pn : List (Addr × Obj)), PIfs (compCx X (x :: cs.map (·.1)) scope cl C s₀ H₀ ex pn) ifs tq)
    (he : ∀ (cl : List (Str × Addr)) (C : Addr) (s₀ : Shared) (H₀ : Hp) (ex : List Addr) (pn : List (Addr × Obj)), PE (compCx X (x :: cs.map (·.1)) scope cl C s₀ H₀ ex pn) elt te)
    (ok : CompOk X.N X.env.scope x cs scope) {pins : List (Addr × Obj)} {s : Shared} {σ : St} {H : Hp} {R : Addr → Hp → Prop} (I : Inv X pins σ H s) (h : tCompR wi tq te cs σ H R)
    {RR : Value → Addr → Result → Shared → Prop}
    (hRR : ∀ (D C : Addr) (oC : Obj) (H' : Hp) (s' : Shared), Inv X (pins ++ [(C, oC)]) σ H' s' → (∀ h' : Heap, h'.get? C = some oC → ∃ m, h'.Ns C m) → FpOk X pins H' C → R D H' → RR (.ref D) C (.ok .next) s') :
    wpAny (model X.prog X.w) X.A (eval iter X.env) (fun xv s₁ => wpAny (model X.prog X.w) X.A (pyIter xv) (fun itv s₂ => wpAny (model X.prog X.w) X.A (newList []) (fun acc s₃ =>
      wpAny (model X.prog X.w) X.A (newFunctionEnv scope X.env.globals (closOf X.env.cells scope.names) [] X.env.qual none .none (some X.env)) (fun cenv s₄ =>
        codeAny (model X.prog X.w) X.A (.compStart (.ListComp elt [⟨.Name x px, iter, ifs, 0⟩] scope pos) 0 itv acc { cenv with scope := relabel scope X.env }) (RR acc cenv.locals) s₄) X.xe s₃) X.xe s₂) X.xe s₁) X.xe s := by
  refine thn (hi pins s σ H _ I h) fun v s1 h1 => thn h1 fun itv s2 h2 => ?_
  obtain ⟨it, fp, tn, J, H2, e, I2, T, st2, f2, h2⟩ := h2
  subst e
  have hhas : ∀ y ∈ scope.names, y.2 = .free → ∃ c, X.env.cells.lookup y.1 = some c := fun y hy hk => I2.ok.has y.1 (ok.has y hy hk)
  refine wpAny_newObj_type (wpAny_newFunctionEnv ok.cell (by intro y hy; simp at hy) (fun h₁ hns₁ hsb₁ => ?_) ok.kind)
  dsimp only at hns₁ hsb₁ ⊢
  generalize hHH : s2.heap.push { cls := .type "list", dict := none, data := .seq ([] : List Value).toArray } = HH at hns₁ hsb₁ ⊢
  have hC : HH.objs.size = s2.heap.objs.size + 1 := by rw [← hHH, Heap.size_push]
  have hDC : s2.heap.objs.size ≠ HH.objs.size := by rw [hC]; exact Nat.ne_of_lt (Nat.lt_succ_self _)
  have hCle : s2.heap.objs.size ≤ HH.objs.size := by rw [hC]; exact Nat.le_succ _
  have below : ∀ b, b < s2.heap.objs.size → b ≠ HH.objs.size := fun b hb => by rw [hC]; exact Nat.ne_of_lt (Nat.lt_succ_of_lt hb)
  have old : ∀ b o, s2.heap.get? b = some o → h₁.get? b = some o := fun b o e => hsb₁.extBut b o (below b (Heap.lt_size e)) (Heap.get?_push_of_some _ (hHH ▸ Heap.get?_push_of_some _ e))
  have hacc : h₁.get? s2.heap.objs.size = some { cls := .type "list", dict := none, data := .seq ([] : List Value).toArray } := hsb₁.extBut _ _ hDC (Heap.get?_push_of_some _ (hHH ▸ Heap.get?_push_size _ rfl))
  have nD : H2 s2.heap.objs.size = none := I2.hok.fresh (Nat.le_refl _)
  have nC : H2 HH.objs.size = none := I2.hok.fresh hCle
  obtain ⟨W, ⟨m0, w0⟩, turn⟩ := h2 s2.heap.objs.size nD
  -- the block's context
  have fpC : ∀ b ∈ fp, b ≠ HH.objs.size := fun b hb => by
    obtain ⟨o, ho, _⟩ := T.obj 0 _ st2 b hb
    exact below b (Heap.lt_size ho)
  have fpD : ∀ b ∈ fp, b ≠ s2.heap.objs.size := fun b hb => by
    obtain ⟨o, ho, _⟩ := T.obj 0 _ st2 b hb
    exact Nat.ne_of_lt (Heap.lt_size ho)
  have pinC : ∀ p ∈ X.pn ++ pins, p.1 ≠ HH.objs.size := fun p hp => below _ (Heap.lt_size (I2.pin p hp).1)
  have clIn : ∀ y c, (closOf X.env.cells scope.names).lookup y = some c → X.env.cells.lookup y = some c := clos_in scope.names [] hhas (fun y c e => by cases e)
  have kindRel : ∀ y, (relabel scope X.env).names.lookup y = (relN X.env.scope scope.names).lookup y := fun _ => rfl
  have okC : (compCx X (x :: cs.map (·.1)) scope (closOf X.env.cells scope.names) HH.objs.size s2 H2 fp (X.pn ++ pins)).Ok :=
    { mod := I2.ok.mod
      kind := ok.kind
      glob := I2.ok.glob
      blt := I2.ok.blt
      above := hCle
      inj := fun y z c e1 e2 => I2.ok.inj y z c (clIn y c e1) (clIn z c e2)
      has := fun y hk => by
        have hm : (y, NameKind.free) ∈ scope.names := by
          rcases hk with hk | hk
          · exact rel_mem (psc := X.env.scope) (k' := .cell) hk (.inl rfl) ok.cell
          · exact rel_mem (psc := X.env.scope) (k' := .free) hk (.inr rfl) ok.cell
        exact clos_has scope.names [] y (.inl hm)
      cab := fun y c hf _ => by cases hf
      hd := I2.ok.hd
      frames := I2.ok.frames
      stk := .inl rfl
      exf := fun b hb => ⟨fpC b hb, fun y c e z => (f2 b hb).2.2.2.2.1 y c (clIn y c e) z⟩
      bs := fun b o e => I2.bs b o e
      bsz := Nat.le_trans I2.ok.bsz I2.sz
      noex := fun b o e hb => by
        rcases (f2 b hb).2.2.2.1 with z | z
        · exact I2.ok.noex b o e z
        · exact absurd (Nat.lt_of_lt_of_le (Heap.lt_size e) (Nat.le_trans I2.ok.bsz z)) (Nat.lt_irrefl _)
      exfs := fun b hb z => by
        rcases List.mem_cons.mp (I2.stkSub b z) with q | q
        · exact (f2 b hb).2.1 q
        · exact (f2 b hb).2.2.1 q
      funs := I2.stack
      frf := I2.stkFree }
  have IC : Inv (compCx X (x :: cs.map (·.1)) scope (closOf X.env.cells scope.names) HH.objs.size s2 H2 fp (X.pn ++ pins)) [] (none :: capSt cs σ) (upd H2 s2.heap.objs.size (.lst [])) { s2 with heap := h₁, toks := s2.toks + ([] : List (Str × Value)).length } :=
    { ok := okC
      os := rfl
      bare := I2.bare
      base := Un.laid old (Nat.le_refl _) nD
      loc := by
        refine ⟨_, hns₁, fun i y u e1 e2 _ => ?_⟩
        cases i with
        | zero =>
          have e2' : (none : Option V) = some u := Option.some.inj e2
          cases e2'
        | succ i =>
          have e1' : (cs.map (·.1))[i]? = some y := e1
          have e2' : (capSt cs σ)[i]? = some (some u) := e2
          rw [List.getElem?_map] at e1'
          unfold capSt at e2'
          rw [List.getElem?_map] at e2'
          cases ep : cs[i]? with
          | none => rw [ep] at e1'; cases e1'
          | some p =>
            rw [ep] at e1' e2'
            have e1'' : p.1 = y := Option.some.inj e1'
            have e2'' : (σ[p.2]?).join = some u := Option.some.inj e2'
            have e3 : σ[p.2]? = some (some u) := by
              cases q : σ[p.2]? with
              | none => rw [q] at e2''; cases e2''
              | some z => rw [q] at e2''; exact congrArg some e2''
            subst e1''
            obtain ⟨hN, hkp, hkc⟩ := ok.cap p (List.mem_of_getElem? ep)
            obtain ⟨mP, _, hl⟩ := I2.loc
            obtain ⟨u', ru, lk⟩ := hl p.2 p.1 u hN e3 (.inr hkp)
            refine ⟨u', ru, .inr ⟨hkc, ?_⟩⟩
            rcases lk with ⟨k0, _⟩ | ⟨_, c, hcell, his⟩
            · exfalso
              have k0' : X.env.scope.names.lookup p.1 = some .local := k0
              rcases hkp with z | z <;> (rw [k0'] at z; cases z)
            · have hm : (p.1, NameKind.free) ∈ scope.names := by
                rcases hkc with z | z
                · exact rel_mem z (.inl rfl) ok.cell
                · exact rel_mem z (.inr rfl) ok.cell
              obtain ⟨c', hc'⟩ := clos_has (cells := X.env.cells) scope.names [] p.1 (.inl hm)
              have e5 : c' = c := Option.some.inj ((clIn p.1 c' hc').symm.trans hcell)
              exact ⟨c', hc', by rw [e5]; exact his.keeps old⟩
      cell := fun y c e => by
        obtain ⟨v', q⟩ := I2.cell y c (clIn y c e)
        exact ⟨v', q.keeps old⟩
      free := by
        show upd H2 s2.heap.objs.size (.lst []) HH.objs.size = none
        rw [upd_ne hDC.symm]
        exact nC
      freeC := fun y c e => by
        have hcl : c < s2.heap.objs.size := by
          obtain ⟨_, q⟩ := I2.cell y c (clIn y c e)
          exact q.lt
        rw [upd_ne (Nat.ne_of_lt hcl)]
        exact I2.freeC y c (clIn y c e)
      pin := fun p hp => by
        have hp' : p ∈ X.pn ++ pins := by
          rcases List.mem_append.mp hp with z | z
          · exact z
          · cases z
        obtain ⟨e1, e2, e3, e4, e5⟩ := I2.pin p hp'
        refine ⟨old _ _ e1, ?_, pinC p hp', fun z => ?_, e5⟩
        · rw [upd_ne (Nat.ne_of_lt (Heap.lt_size e1))]
          exact e2
        · rcases List.mem_cons.mp (I2.stkSub p.1 z) with q | q
          · exact e3 q
          · exact e4 q
      hok := I2.hok.laid old (Nat.le_refl _) ⟨Nat.zero_le _, [], 0, .nil, hacc⟩
      len := by simp [capSt] }
  have stC : tn 0 h₁ := T.keep 0 _ _ st2 fun b _ o e => old b o e
  have frC : ∀ b ∈ fp, upd H2 s2.heap.objs.size (HO.lst []) b = none := fun b hb => by
    rw [upd_ne (fpD b hb)]
    exact (f2 b hb).1
  -- what stays true of the iterator's objects in the block
  have stat : ∀ {H' : Hp}, (∀ b ∈ fp, H' b = none) → ∀ b ∈ fp, FpOk (compCx X (x :: cs.map (·.1)) scope (closOf X.env.cells scope.names) HH.objs.size s2 H2 fp (X.pn ++ pins)) [] H' b := fun {H'} hn b hb =>
    ⟨hn b hb, fpC b hb, okC.exfs b hb, .inl hb, fun y c e => (okC.exf b hb).2 y c e, fun p hp => (f2 b hb).2.2.2.2.2 p (by
      rcases List.mem_append.mp hp with z | z
      · exact z
      · cases z)⟩
  have loop : ∀ s₃ : Shared, s₃ = { s2 with heap := h₁, toks := s2.toks + ([] : List (Str × Value)).length } →
      codeAny (model X.prog X.w) X.A (.compLoop (.ListComp elt [⟨.Name x px, iter, ifs, 0⟩] scope pos) 0 (.ref it) (.ref s2.heap.objs.size) (compEnvC scope (closOf X.env.cells scope.names) HH.objs.size X.env)) (RR (.ref s2.heap.objs.size) HH.objs.size) s₃ := by
    rintro s₃ rfl
    refine codeAny_compLoop_go (fun n s' => ∃ (i : Nat) (v : Option V) (ys : List V) (H' : Hp), Inv (compCx X (x :: cs.map (·.1)) scope (closOf X.env.cells scope.names) HH.objs.size s2 H2 fp (X.pn ++ pins)) [] (v :: capSt cs σ) H' s' ∧ tn i s'.heap ∧ (∀ b ∈ fp, H' b = none) ∧ W i n ys H')
      ?_ m0 ⟨0, none, [], _, IC, stC, frC, w0⟩
    rintro n s3 ⟨i, v3, ys, H3, I3, st3, fr3, w3⟩
    obtain ⟨hD3, tr⟩ := turn i n ys H3 w3
    rcases tr with ⟨stop, qn⟩ | ⟨go, hsz, N, hN, step⟩
    · refine thn (T.done (compCx X (x :: cs.map (·.1)) scope (closOf X.env.cells scope.names) HH.objs.size s2 H2 fp (X.pn ++ pins)) rfl rfl rfl hc i [] s3 _ H3 _ I3 (stat fr3) st3 stop) fun r s4 ⟨hr, I4⟩ => ?_
      subst hr
      show RR (.ref s2.heap.objs.size) HH.objs.size (.ok .next) s4
      have IP : Inv X pins σ H3 s4 := I2.call' (ch := fp) I4.os I4.base I4.hok I4.bare fun b hb => ⟨(f2 b hb).2.2.2.1, (f2 b hb).2.1, (f2 b hb).2.2.2.2.1, (f2 b hb).2.2.2.2.2⟩
      obtain ⟨m4, ⟨oC, es, ep, hoC, hdC, hk1, hk2⟩, _⟩ := I4.loc
      have nC3 : H3 HH.objs.size = none := I4.free
      have fC : FpOk X pins H3 HH.objs.size := I2.fpOk hCle nC3
      refine hRR _ _ oC H3 s4 (IP.pins_of fun p hp => ?_) (fun h' e => ⟨m4, oC, es, ep, e, hdC, hk1, hk2⟩) fC qn
      rcases List.mem_append.mp hp with z | z
      · exact IP.pin p (List.mem_append_right _ z)
      · have e : p = (HH.objs.size, oC) := by simpa using z
        subst e
        exact ⟨hoC, nC3, fC.2.1, fC.2.2.1, fun v z => by
          have z' : oC.data = .cell v := z
          rw [hdC] at z'
          cases z'⟩
    · refine thn (T.item (compCx X (x :: cs.map (·.1)) scope (closOf X.env.cells scope.names) HH.objs.size s2 H2 fp (X.pn ++ pins)) rfl rfl rfl hc i [] s3 _ H3 _ I3 (stat fr3) st3 go) fun r s4 ⟨u, hr, h4⟩ => ?_
      subst hr
      refine thn h4 fun _ s5 ⟨y, H5, I5, r5, y5, st5, fr5⟩ => ?_
      have I5' := I5.pinned (stat fr5) (T.obj _ _ st5)
      have hloc : Loc (compCx X (x :: cs.map (·.1)) scope (closOf X.env.cells scope.names) HH.objs.size s2 H2 fp (X.pn ++ pins)).env.scope x := .inl (lookup_relabel_local ok.own)
      refine wpAny_assign_Name (store_ok (i := 0) I5' ok.nd rfl hloc r5 (fun s6 I6 => ?_) (.inr (lookup_relabel_local ok.own)))
      refine thn (hq _ _ _ _ _ _ _ s6 _ H5 _ I6 (step y H5 y5)) fun b s7 ⟨H7, I7, q7⟩ => ?_
      have again : ∀ {v' : Option V} {H8 : Hp} {s8 : Shared} {ys' : List V} {m' : Nat}, Inv (compCx X (x :: cs.map (·.1)) scope (closOf X.env.cells scope.names) HH.objs.size s2 H2 fp (X.pn ++ pins)) ([] ++ pinsAt fp s5.heap) (v' :: capSt cs σ) H8 s8 → W (i + 1) m' ys' H8 →
          ∃ (i : Nat) (v : Option V) (ys : List V) (H' : Hp), Inv (compCx X (x :: cs.map (·.1)) scope (closOf X.env.cells scope.names) HH.objs.size s2 H2 fp (X.pn ++ pins)) [] (v :: capSt cs σ) H' s8 ∧ tn i s8.heap ∧ (∀ b ∈ fp, H' b = none) ∧ W i m' ys H' := fun {v' H8 s8 ys' m'} I8 w8 => by
        refine ⟨i + 1, v', ys', H8, I8.unpinned, T.keep _ _ _ st5 fun b hb o e => (I8.pin (b, o) (List.mem_append_right _ (List.mem_append_right _ (mem_pinsAt hb e)))).1, fun b hb => ?_, w8⟩
        obtain ⟨o, e, d⟩ := T.obj _ _ st5 b hb
        exact (I8.pin (b, o) (List.mem_append_right _ (List.mem_append_right _ (mem_pinsAt hb e)))).2.1
      cases b with
      | false =>
        rw [if_neg Bool.false_ne_true] at q7
        rw [if_neg Bool.false_ne_true]
        obtain ⟨m', hm, w8⟩ := hN _ _ q7
        exact ⟨m', hm, again I7 w8⟩
      | true =>
        rw [if_pos rfl] at q7
        rw [if_pos rfl]
        refine thn (he _ _ _ _ _ _ _ s7 _ H7 _ I7 q7) fun z s8 ⟨zv, H8, I8, r8, hD8, n8⟩ => ?_
        obtain ⟨m', hm, w8⟩ := hN _ _ n8
        refine thn (mt_append (X := compCx X (x :: cs.map (·.1)) scope (closOf X.env.cells scope.names) HH.objs.size s2 H2 fp (X.pn ++ pins)) _ s8 _ H8 (.ref s2.heap.objs.size) [zv] (.ref s2.heap.objs.size) [z] (fun _ H9 => H9 = upd H8 s2.heap.objs.size (.lst (ys ++ [zv]))) I8 rfl (.cons r8 .nil) ⟨_, ys, zv, rfl, rfl, hD8, hsz, rfl⟩) fun _ s9 ⟨_, H9, I9, _, e9⟩ => ?_
        subst e9
        exact ⟨m', hm, again I9 w8⟩
  exact codeAny_compStart_list (loop _ rfl) (T.self _ 0 _ _ _ stC (loop _ rfl))
def tComp (wi : TI) (tq : TT) (te : TE) (cs : List (Str × Nat)) : TE := fun σ H Q => tCompR wi tq te cs σ H fun D H' => Q (.ref D) H'
theorem pe_comp (x : Str) (cs : List (Str × Nat)) {px : Pos} (hc : X.calm = true) (hi : PI X (.Name x px) iter wi)
  (hq : ∀ (cl : List (Str × Addr)) (C : Addr) (s₀ : Shared) (H₀ : Hp) (ex : List Addr) (pn : List (Addr × Obj)), PIfs (compCx X (x :: cs.map (·.1)) scope cl C s₀ H₀ ex pn) ifs tq)
  (he : ∀ (cl : List (Str × Addr)) (C : Addr) (s₀ : Shared) (H₀ : Hp) (ex : List Addr) (pn : List (Addr × Obj)), PE (compCx X (x :: cs.map (·.1)) scope cl C s₀ H₀ ex pn) elt te)
  (ok : compOkB X.N X.env.scope x cs scope = true := by kernel_rfl) (hs : ∀ x, foldedSetIterable iter X.env x = pure x := by intro _; rfl) :
  PE X (.ListComp elt [⟨.Name x px, iter, ifs, 0⟩] scope pos) (tComp wi tq te cs) := by
 intro pins s σ H Q I h
 have ok' := CompOk.of ok
 rw [eval_ListComp]
 refine wpAny_comprehension_free (use := none) rfl hs (closureFor_eq fun y hy hk => I.ok.has y.1 (ok'.has y hy hk)) ok'.kind ok'.names ?_
 refine comp_core (RR := fun acc C => compPost (model X.prog X.w) X.A X.xe none (EP X pins σ Q) acc C) hc hi hq he ok' I h ?_
 intro D C oC H' s' I' hns fC q
 refine ⟨_, (hns _ (I'.pin (C, oC) (List.mem_append_right _ (List.mem_append_right _ (by simp)))).1).choose_spec, fun h' hs' => ?_⟩
 have I1 : Inv X pins σ H' s' := I'.unpinned
 exact ⟨.ref D, H', I1.turned (t' := s'.toks) (fun b o hb e => (hs'.2 b hb).trans e) fC.1 fC.2.1 fC.2.2.2.1 fC.2.2.2.2.1 fC.2.2.2.2.2, rfl, q⟩
def tAsgC (k : Nat) (wi : TI) (tq : TT) (te : TE) (cs : List (Str × Nat)) : TS := fun D σ H => tCompR wi tq te cs σ H fun l H' => D.nx (σ.set k (some (.ref l))) H'
theorem ps_setC (x : Str) (cs : List (Str × Nat)) {px py spos : Pos} {y : Str} {k : Nat} (hN : X.N.Nodup) (hk : X.N[k]? = some y) (hy : Loc X.env.scope y) (hc : X.calm = true) (hi : PI X (.Name x px) iter wi)
  (hq : ∀ (cl : List (Str × Addr)) (C : Addr) (s₀ : Shared) (H₀ : Hp) (ex : List Addr) (pn : List (Addr × Obj)), PIfs (compCx X (x :: cs.map (·.1)) scope cl C s₀ H₀ ex pn) ifs tq)
  (he : ∀ (cl : List (Str × Addr)) (C : Addr) (s₀ : Shared) (H₀ : Hp) (ex : List Addr) (pn : List (Addr × Obj)), PE (compCx X (x :: cs.map (·.1)) scope cl C s₀ H₀ ex pn) elt te)
  (ok : compOkB X.N X.env.scope x cs scope = true := by kernel_rfl) (hs : ∀ x, foldedSetIterable iter X.env x = pure x := by intro _; rfl)
  (hsw : swapsWith (.ListComp elt [⟨.Name x px, iter, ifs, 0⟩] scope pos) (some (.Name y py)) spos.line X.env = pure true := by rfl)
  (hf : X.fn y = true ∨ X.env.scope.names.lookup y = some .local := by first | exact .inl rfl | exact .inr rfl | assumption) :
  PS X (.Assign [.Name y py] (.ListComp elt [⟨.Name x px, iter, ifs, 0⟩] scope pos) spos) (tAsgC k wi tq te cs) := by
 intro pins s σ H D I h
 have ok' := CompOk.of ok
 rw [exec_Assign_Name_used _ _ _ _ hsw]
 refine wpAny_bind (wpAny_standAt (wpAny_bind ?_))
 show wpAny _ X.A (do let _ ← comprehension (.ListComp elt [⟨.Name x px, iter, ifs, 0⟩] scope pos) scope X.env _ (newList []) false (eval iter X.env) (some (assign (.Name y py) X.env))) _ _ s
 refine wpAny_bind (wpAny_mono (wpAny_comprehension_free (use := some (assign (.Name y py) X.env)) (Q := fun _ s' => SP X pins D .next s') rfl hs (closureFor_eq fun y hy hk => I.ok.has y.1 (ok'.has y hy hk)) ok'.kind ok'.names
  (comp_core (RR := fun acc C => compPost (model X.prog X.w) X.A X.xe (some (assign (.Name y py) X.env)) (fun _ s' => SP X pins D .next s') acc C) hc hi hq he ok' I h ?_)) (fun _ s' hq => wpAny_pure (wpAny_pure hq)) fun _ _ e => e)
 intro l C oC H' s' I' hns fC q
 show wpAny _ X.A (assign (.Name y py) X.env (.ref l)) _ _ _
 refine wpAny_assign_Name (store_ok (v := .ref l) I' hN hk hy rfl (fun s'' I'' => ?_) hf)
 refine ⟨_, (hns _ (I''.pin (C, oC) (List.mem_append_right _ (List.mem_append_right _ (by simp)))).1).choose_spec, fun h' hs' => ?_⟩
 have I1 : Inv X pins _ H' s'' := I''.unpinned
 exact ⟨_, H', I1.turned (t' := s''.toks) (fun b o hb e => (hs'.2 b hb).trans e) fC.1 fC.2.1 fC.2.2.2.1 fC.2.2.2.2.1 fC.2.2.2.2.2, q⟩
end
theorem same_new {H : Hp} {D : Addr} {o : HO} (hD : H D = none) : Same H (upd H D o) := fun b ob e => by
 rw [upd_ne (ne_of_none e hD)]
 exact e
end L2
namespace L2
open PySem PySem.Spec PyProof.Rows
structure Noted (fs : List Addr) (z : Addr) (h h' : Heap) (e : Addr) (oe : Obj) (T : Addr) (fl : Value) : Prop where
 keep : ∀ b o, b ∉ fs → b ≠ e → b ≠ z → h.get? b = some o → h'.get? b = some o
 slot : ∀ b o, b ∈ fs → b ≠ e → b ≠ z → h.get? b = some o → ∃ sl, h'.get? b = some { o with slots := sl }
 exc : h'.get? e = some (oe.mapFields (·.setIfInBounds 1 (.ref T)))
 new : h.objs.size ≤ T
 tb : ∃ oT ts, h'.get? T = some oT ∧ oT.data = .fields ts ∧ ts[3]? = some fl
section
variable {M : Model} {A : Around} {E : Value → Shared → Prop} {s : Shared} {base : Heap} {env : Env} {outer : List Env} {L e z : Addr} {oe : Obj} {vs : Array Value} {Q : Unit → Shared → Prop}
theorem note_core {head : Value} {hadNext : Bool} (a1 : A.frames = some (env :: outer)) (a2 : s.heap.FunFrames base (env :: outer)) (a3 : env.frame = some L)
  (a4 : s.heap.get? e = some oe) (a5 : oe.data = .fields vs) (a6 : 1 < vs.size)
  (k : ∀ h' T, Noted (frs (env :: outer)) e s.heap h' e oe T (rawInt L) → Q () { s with heap := h' }) :
  wpAny M A (do
   let a ← frameOf env
   let pl ← entryPlaceOf L hadNext
   let b ← EntryCells.newEntry head a .none (rawInt L) .none pl
   setField (.ref e) 1 b) Q E s := by
 have ne : e ∉ frs (env :: outer) := fun m => by
  obtain ⟨_, o, e1, e2⟩ := a2.mem m
  rw [a4] at e1
  cases e1
  exact e2 vs a5
 refine wpAny_bind (wpAny_frameOf_fun a1 a2 a3 fun h1 S => ?_)
 refine wpAny_bind (wpAny_entryPlaceOf fun pl hpl => ?_)
 unfold EntryCells.newEntry newFields
 refine wpAny_bind (wpAny_newObj_type ?_ (hpl.sizeOk5 _ _ _ _ _))
 have b1 : h1.get? e = some oe := (S.2.1 e ne).trans a4
 have b2 := Heap.get?_push_of_some (h := h1) { cls := .type "traceback", dict := none, data := .fields ([head, .ref L, .none, rawInt L, .none] ++ (if pl.isEmpty then List.replicate 6 Value.none else pl)).toArray } b1
 refine wpAny_setField b2 a5 a6 (k _ h1.objs.size ?_)
 have n1 : h1.objs.size ≠ e := Nat.ne_of_gt (Heap.lt_size b1)
 have frd := Obj.isFreed_of_fields (Obj.data_mapFields a5 (·.setIfInBounds 1 (Value.ref h1.objs.size)))
 refine ⟨fun b o nb nbe _ hb => ?_, fun b o _ nbe _ hb => ?_, Heap.get?_update_self _ b2 frd, Nat.le_of_eq S.1.symm, ?_⟩
 ·rw [Heap.get?_update_other _ _ (Ne.symm nbe)]
  exact Heap.get?_push_of_some _ ((S.2.1 b nb).trans hb)
 ·obtain ⟨sl, q⟩ := S.2.2 b o hb
  refine ⟨sl, ?_⟩
  rw [Heap.get?_update_other _ _ (Ne.symm nbe)]
  exact Heap.get?_push_of_some _ q
 ·refine ⟨_, _, (Heap.get?_update_other _ _ (Ne.symm n1)).trans (Heap.get?_push_size h1 rfl), rfl, ?_⟩
  rcases hpl with rfl | ⟨_, _, _, _, _, _, _, rfl⟩ <;> simp
theorem flight_off {T : Addr} {oT : Obj} {ts : Array Value} (b1 : s.heap.get? e = some oe) (b2 : oe.data = .fields vs) (b3 : vs[1]? = some (.ref T)) (b4 : s.heap.get? T = some oT) (b5 : oT.data = .fields ts) (b6 : 3 < ts.size)
  (k : Q () { s with heap := s.heap.update T (Obj.mapFields (·.setIfInBounds 3 .none)) }) : wpAny M A (setFlight (.ref e) none) Q E s := by
 unfold setFlight
 refine wpAny_bind (wpAny_field b1 b2 b3 ?_)
 rw [if_pos (by simp)]
 exact wpAny_setField b4 b5 b6 k
theorem noted_off {fs : List Addr} {h h1 : Heap} {T : Addr} {fl : Value} (N : Noted fs z h h1 e oe T fl) (a4 : h.get? e = some oe) (a5 : oe.data = .fields vs) : Noted fs z h (h1.update T (Obj.mapFields (·.setIfInBounds 3 .none))) e oe T .none := by
 obtain ⟨oT, ts, t1, t2, t3⟩ := N.tb
 have ne : ∀ b o, h.get? b = some o → b ≠ T := fun b o q => Nat.ne_of_lt (Nat.lt_of_lt_of_le (Heap.lt_size q) N.new)
 refine ⟨fun b o n1 n2 n3 hb => ?_, fun b o n1 n2 n3 hb => ?_, ?_, N.new, ?_⟩
 ·rw [Heap.get?_update_other _ _ (Ne.symm (ne b o hb))]
  exact N.keep b o n1 n2 n3 hb
 ·obtain ⟨sl, q⟩ := N.slot b o n1 n2 n3 hb
  exact ⟨sl, by rw [Heap.get?_update_other _ _ (Ne.symm (ne b o hb))]; exact q⟩
 ·rw [Heap.get?_update_other _ _ (Ne.symm (ne e oe a4))]
  exact N.exc
 ·have z3 : 3 < ts.size := (Array.getElem?_eq_some_iff.mp t3).1
  exact ⟨_, _, Heap.get?_update_self _ t1 (Obj.isFreed_of_fields (Obj.data_mapFields t2 _)), Obj.data_mapFields t2 _, by simp [z3]⟩
theorem noted_flight {fs : List Addr} {h : Heap} {T : Addr} {fl : Value} (N : Noted fs z h s.heap e oe T fl) (a4 : h.get? e = some oe) (a5 : oe.data = .fields vs) (a6 : 1 < vs.size)
  (k : ∀ h', Noted fs z h h' e oe T .none → Q () { s with heap := h' }) : wpAny M A (setFlight (.ref e) none) Q E s := by
 obtain ⟨oT, ts, t1, t2, t3⟩ := N.tb
 refine flight_off N.exc (Obj.data_mapFields a5 _) (by simp [a6]) t1 t2 (Array.getElem?_eq_some_iff.mp t3).1 (k _ (noted_off N a4 a5))
theorem leave_first (a1 : A.frames = some (env :: outer)) (a2 : s.heap.FunFrames base (env :: outer)) (a3 : env.frame = some L)
  (a4 : s.heap.get? e = some oe) (a5 : oe.data = .fields vs) (a6 : vs[1]? = some .none) (k : ∀ h' T, Noted (frs (env :: outer)) e s.heap h' e oe T .none → Q () { s with heap := h' }) : wpAny M A (leaving env (.ref e)) Q E s := by
 have z1 := (Array.getElem?_eq_some_iff.mp a6).1
 unfold leaving noteFrame
 simp only [a3]
 refine wpAny_bind (wpAny_bind (wpAny_field a4 a5 a6 ?_))
 rw [if_neg (by decide)]
 exact note_core a1 a2 a3 a4 a5 z1 fun h' T N => noted_flight (s := { s with heap := h' }) N a4 a5 z1 fun h2 N2 => k h2 T N2
theorem note_next {T0 : Addr} {oT : Obj} {ts : Array Value} (a1 : A.frames = some (env :: outer)) (a2 : s.heap.FunFrames base (env :: outer)) (a3 : env.frame = some L)
  (a4 : s.heap.get? e = some oe) (a5 : oe.data = .fields vs) (a6 : vs[1]? = some (.ref T0)) (b1 : T0 ≠ e) (b2 : s.heap.get? T0 = some oT) (b3 : oT.data = .fields ts) (b4 : ts[3]? = some .none)
  (k : ∀ h' T, Noted (frs (env :: outer)) T0 s.heap h' e oe T (rawInt L) → Q () { s with heap := h' }) : wpAny M A (noteFrame (.ref e) env) Q E s := by
 have z1 := (Array.getElem?_eq_some_iff.mp a6).1
 unfold noteFrame
 simp only [a3]
 refine wpAny_bind (wpAny_field a4 a5 a6 ?_)
 rw [if_pos (by simp)]
 refine wpAny_bind (wpAny_field b2 b3 b4 ?_)
 rw [if_neg (by simp [rawInt])]
 refine wpAny_bind (wpAny_setField b2 b3 (Array.getElem?_eq_some_iff.mp b4).1 ?_)
 have oth : ∀ b, b ≠ T0 → (s.heap.update T0 (Obj.mapFields (·.setIfInBounds 3 Value.none))).get? b = s.heap.get? b := fun b hb => Heap.get?_update_other _ _ (Ne.symm hb)
 have fr : ∀ b o, s.heap.get? b = some o → (∀ us, o.data ≠ .fields us) → b ≠ T0 := fun b o hb n r => by
  rw [r, b2] at hb
  cases hb
  exact n ts b3
 refine note_core (s := { s with heap := s.heap.update T0 (Obj.mapFields (·.setIfInBounds 3 Value.none)) }) a1 (a2.of_keeps fun b o hb n => ⟨o, (oth b (fr b o hb n)).trans hb, rfl⟩) a3 ((oth e (Ne.symm b1)).trans a4) a5 z1 fun h' T N => k h' T ?_
 exact ⟨fun b o n1 n2 n3 hb => N.keep b o n1 n2 n2 ((oth b n3).trans hb), fun b o n1 n2 n3 hb => N.slot b o n1 n2 n2 ((oth b n3).trans hb), N.exc, by rw [← Heap.size_after_update s.heap T0 (Obj.mapFields (·.setIfInBounds 3 Value.none))]; exact N.new, N.tb⟩
end
end L2
namespace L2
open PySem PySem.Spec PyProof.Rows
section
variable {prog : Program} {w : World} {A : Around} {E : Value → Shared → Prop} {h : Heap} {g : Array GenState} {d : Drawn} {t : Nat} {os : OsState}
variable {nm q : Str} {C N : Addr} {bs bm bmB : List Value} {hdct : Bool} {sn : List Str} {sub : List Value} {ab : Bool} {col : Option Bool} {dd : Option Addr} {k0 k1 k2 k3 k5 : Option Value} {B newId initId : String}
theorem raise_made {s : Shared} {env : Env} {x : Sem Value} {Q : Flow → Shared → Prop} (hh : A.handled = none)
  (k : wpAny (model prog w) A x (fun v s₁ => ∃ e oe vs, v = .ref e ∧ (∃ C nm q N bs bm hdct sn sub ab col dd k0 k1 k2 k3 k5 newId, s₁.heap.get? C = some (excClassObj nm q C N bs bm hdct sn sub ab col dd k0 k1 k2 k3 k5 newId) ∧ bm.contains (.type "BaseException") = true ∧ oe.cls = .ref C) ∧
   s₁.heap.get? e = some oe ∧ oe.data = .fields vs ∧ vs[1]? = some .none ∧ E (.ref e) s₁) E s) :
  wpAny (model prog w) A (raiseStmt env (some x) none) Q E s := by
 unfold raiseStmt
 refine wpAny_bind (wpAny_mono k (fun v s₁ h₁ => ?_) fun _ _ x => x)
 obtain ⟨e, oe, vs, rfl, ⟨C, nm, q, N, bs, bm, hdct, sn, sub, ab, col, dd, k0, k1, k2, k3, k5, newId, hC, hb, hc⟩, he, hd, h1, hE⟩ := h₁
 have hcB : (Value.ref C :: bm).contains (.type "BaseException") = true := by rw [List.contains_cons, hb, Bool.or_true]
 obtain ⟨oc, od, odt, osl⟩ := oe
 dsimp only at hc hd
 subst hc hd
 obtain ⟨hp, g, d, tk, os⟩ := s₁
 repeat (first | with_reducible refine wpAny_loadPart_at he ?_ | with_reducible refine wpAny_loadPart_at hC ?_ | (with_reducible refine wpAny_isSubtype_exc hC ?_; rw [hcB]) | with_reducible refine wpAny_field he rfl h1 ?_ | wp_step)
 exact wpAny_raiseNew_none hh hE
end
section
variable {prog : Program} {w : World} {A : Around} {E : Value → Shared → Prop} {h : Heap} {g : Array GenState} {d : Drawn} {t : Nat} {os : OsState}
variable {nm q : Str} {C N : Addr} {bs bm bmB : List Value} {hdct : Bool} {sn : List Str} {sub : List Value} {ab : Bool} {col : Option Bool} {dd : Option Addr} {k0 k1 k2 k3 k5 : Option Value} {B newId initId : String}
theorem x_match {e c : Addr} {oe : Obj} {Q : Bool → Shared → Prop} {nm' q' : Str} {N' : Addr} {bs' bm' : List Value} {hdct' : Bool} {sn' : List Str} {sub' : List Value} {ab' : Bool} {col' : Option Bool} {dd' : Option Addr} {j0 j1 j2 j3 j5 : Option Value}
  (c1 : h.get? C = some (excClassObj nm q C N bs bm hdct sn sub ab col dd k0 k1 k2 k3 k5 newId)) (c2 : h.get? c = some (excClassObj nm' q' c N' bs' bm' hdct' sn' sub' ab' col' dd' j0 j1 j2 j3 j5 newId)) (e1 : h.get? e = some oe) (e2 : oe.cls = .ref C)
  (hb : bm'.contains (.type "BaseException") = true) (k : Q ((Value.ref C :: bm).contains (.ref c)) ⟨h, g, d, t, os⟩) : wpAny (model prog w) A (excMatches (.ref e) (.ref c)) Q E ⟨h, g, d, t, os⟩ := by
 have hcB : (Value.ref c :: bm').contains (.type "BaseException") = true := by rw [List.contains_cons, hb, Bool.or_true]
 have f := tc_notTuple
 unfold excMatches
 generalize hr : (Value.ref C :: bm).contains (.ref c) = r at k
 repeat (first | (with_reducible refine wpAny_loadPart_at e1 ?_; rw [e2]) | with_reducible refine wpAny_loadPart_at c2 ?_ | (with_reducible refine wpAny_isSubtype_exc c2 ?_; rw [hcB]) | (with_reducible refine wpAny_isSubtype_exc c1 ?_; rw [hr]) | wp_step)
 cases r <;> (wp_walk; exact k)
end
end L2
namespace L2
open PySem PySem.Spec PyProof.Rows
abbrev veTail : List Value := [.type "ValueError", .type "Exception", .type "BaseException", .type "object"]
def veOver : List Value → Bool
 | .ref _ :: r => veOver r
 | l => l == veTail
def xcIn (K : PySem.W.Frag) (C : Addr) : Bool := match K.lookup C with
  | some ⟨.type "type", _, .cls cd, sl⟩ => (match cd.mro, sl.toList with
    | .ref c :: bm, [_, _, _, _, some (.builtin n), _] => c == C && (n == "ValueError.__new__" && (!cd.hasDel && (PySem.W.tailIn K veTail bm && (PySem.W.nsOkIn K cd.ns && (cd.hasDict && veOver bm)))))
    | _, _ => false)
  | _ => false
structure XCls (h : Heap) (C : Addr) (nm qn : Str) (N : Addr) (bs bm : List Value) (sn : List Str) (sub : List Value) (ab : Bool) (col : Option Bool) (dd : Option Addr) (k0 k1 k2 k3 k5 : Option Value) : Prop where
 obj : h.get? C = some (excClassObj nm qn C N bs bm true sn sub ab col dd k0 k1 k2 k3 k5 "ValueError.__new__")
 tail : OwnTail h veTail bm
 ns : h.Ns N (h.nsMap N)
 over : veOver bm = true
theorem xc_of {K : PySem.W.Frag} {h : Heap} {C : Addr} (X : K.In h) (q : xcIn K C = true) : ∃ nm qn N bs bm sn sub ab col dd k0 k1 k2 k3 k5,
  XCls h C nm qn N bs bm sn sub ab col dd k0 k1 k2 k3 k5 ∧ K.lookup C = some (excClassObj nm qn C N bs bm true sn sub ab col dd k0 k1 k2 k3 k5 "ValueError.__new__") := by
 unfold xcIn at q
 split at q
 ·rename_i dd cd sl ho
  split at q
  ·rename_i c bm k0 k1 k2 k3 n k5 hm hs
   simp only [Bool.and_eq_true, beq_iff_eq, Bool.not_eq_true'] at q
   obtain ⟨q1, q2, q3, q4, q5, q6, q7⟩ := q
   obtain ⟨nm, bs, mro, ns, qn, hd, sn, sub, ab, col, del⟩ := cd
   obtain ⟨sl⟩ := sl
   dsimp only at hm hs q3 q5 q6
   subst q1 q2 hm q3 q6 hs
   exact ⟨nm, qn, ns, bs, bm, sn, sub, ab, col, dd, k0, k1, k2, k3, k5, ⟨X _ _ ho, PySem.W.tail_of_in X q4, .of_isNs (PySem.W.isNs_of_in X q5), q7⟩, ho⟩
  ·cases q
 ·cases q
def xnoIn (K : PySem.W.Frag) (C : Addr) : Bool := match K.lookup C with
 | some ⟨_, _, .cls cd, _⟩ => PySem.W.nsIn K cd.ns "__init__" == some none
 | _ => false
def xgaIn (K : PySem.W.Frag) (C : Addr) : Bool := PySem.W.findIn K (.ref C) "__getattribute__" == some (some (.builtin "BaseException.__getattribute__")) &&
 (PySem.W.findIn K (.ref C) "__getattr__" == some none && PySem.W.mroIn K C (.type "BaseException") == some true)
section
variable {prog : Program} {w : World} {A : Around} {E : Value → Shared → Prop} {s : Shared} {K : PySem.W.Frag} {x C : Addr} {ox : Obj} {od : Option Obj} {name : Str} {tk : Tok}
theorem x_by {fill expr : Bool} {Q : Value → Shared → Prop} (X : K.In s.heap) (q : xgaIn K C = true) (I : PySem.W.InstAt s.heap x ox C od)
  (h : wpAny (model prog w) A.in1 (Builtin.«object.__getattribute__» ⟨[.ref x, .str name tk], []⟩) (fun fin s' => match fin with
   | .done (.ret v) => wpAny (model prog w) A (handedOut v) Q E s'
   | _ => False) (fun _ _ => False) s) : wpAny (model prog w) A (getAttrBy (.ref x) (.str name tk) fill expr) Q E s := by
 simp only [xgaIn, Bool.and_eq_true, beq_iff_eq] at q
 obtain ⟨g1, g2, g3⟩ := q
 have M0 := I.type (M := model prog w)
 have M1 := PySem.W.looks_findIn (M := model prog w) X g1
 have M2 := PySem.W.looks_findIn (M := model prog w) X g2
 have M3 : PySem.W.Looks (model prog w) s.heap (isInstance (.ref x) (.type "BaseException")) true := M0.andThen (PySem.W.looks_mroIn X g3)
 have FB := PySem.F.excAttr_ValueError
 unfold getAttrBy
 refine wpAny_holding (wpAny_bind (M0.here (wpAny_bind (M1.here ?_))))
 dsimp only
 rw [show (Value.builtin "BaseException.__getattribute__" == Value.builtin "object.__getattribute__") = false from by decide +kernel, Bool.and_false, if_neg Bool.false_ne_true]
 unfold getAttrByItsOwn
 refine wpAny_bind (m := hookBefore (.ref C)) (M2.here (wpAny_bind (wpAny_attempt (wpAny_holding ?_))))
 unfold callGetattribute
 rw [if_neg (by cases expr <;> decide +kernel)]
 unfold boundAndCalled
 rw [FB.ga.bind]
 refine wpAny_bind (wpAny_pure ?_)
 refine wpAny_call (codeAny_call_builtin FB.ga.plain PySem.F.entry_bexc_ga (@PySem.W.check_slot (model prog w) _ _ s "BaseException.__getattribute__" "BaseException" "__getattribute__" (.ref x) [.str name tk] [] _ (by decide +kernel) (by decide +kernel) M3 (PySem.F.args_bexc_ga _ _) ?_))
 refine wpAny_mono h (fun fin s' z => ?_) fun _ _ z => z.elim
 rcases fin with (v | _ | _ | _) | c <;> first | exact z | exact z.elim
theorem x_bound {g a : Value} {P : Value → Shared → Prop} (X : K.In s.heap) (I : PySem.W.InstAt s.heap x ox C od) (hf : PySem.W.findObj K C od name = some (.bind g a)) (k : wpAny (model prog w) A (call g [a, .ref x, .ref C]) P E s) :
  wpAny (model prog w) A (Builtin.«object.__getattribute__» ⟨[.ref x, .str name tk], []⟩) (fun fin s' => match fin with
   | .done (.ret v) => P v s'
   | _ => False) E s := by
 have M0 := I.type (M := model prog w)
 have M1 := PySem.W.looks_find (M := model prog w) X I hf
 refine wpAny_bind (wpAny_pure (wpAny_bind (wpAny_pure (wpAny_bind (M0.here (wpAny_bind (M1.here ?_)))))))
 show wpAny _ _ (holding [a] (call g [a, .ref x, .ref C]) >>= ret) _ _ _
 exact wpAny_bind (wpAny_holding (wpAny_mono k (fun v s' z => wpAny_pure z) fun _ _ z => z))
end
section
variable {prog : Program} {w : World} {A : Around} {E : Value → Shared → Prop} {s : Shared} {K : PySem.W.Frag} {x dx C : Addr} {ox : Obj} {vs : Array Value} {name : Str} {v : Value}
end
end L2
namespace L2
open PySem PySem.Spec PyProof.Rows
def xo (a C : Addr) (dx : Option Addr) (b : Bool) : HO := .ext fun h => ∃ oe vs t, h.get? a = some oe ∧ oe.cls = .ref C ∧ oe.dict = dx ∧ oe.data = .fields vs ∧ vs.size = 6 ∧ vs[0]? = some (.ref t) ∧ (b = true → vs[1]? = some .none)
theorem xo_ok {P : Program} {w : World} {H : Hp} {h : Heap} {a C : Addr} {dx : Option Addr} {b : Bool} (x : ∃ oe vs t, h.get? a = some oe ∧ oe.cls = .ref C ∧ oe.dict = dx ∧ oe.data = .fields vs ∧ vs.size = 6 ∧ vs[0]? = some (.ref t) ∧ (b = true → vs[1]? = some .none)) :
  ObjOk P w H h a (xo a C dx b) := by
 obtain ⟨oe, vs, t, e, r⟩ := x
 exact ⟨⟨oe, vs, t, e, r⟩, ⟨oe, e⟩, fun h1 h2 ⟨oe, vs, t, e, r⟩ k => ⟨oe, vs, t, k _ e, r⟩⟩
def Flies (h : Heap) (a T : Addr) : Prop := ∃ oe vs oT ts, h.get? a = some oe ∧ oe.data = .fields vs ∧ vs[1]? = some (.ref T) ∧ T ≠ a ∧ h.get? T = some oT ∧ oT.data = .fields ts ∧ ts[3]? = some .none
section
variable {P : Program} {w : World} {H : Hp} {h h' : Heap} {fs ch : List Addr} {z a C T : Addr} {oe : Obj} {fl : Value} {dx : Option Addr} {b : Bool} {vs : Array Value}
theorem noted_flies (N : Noted fs z h h' a oe T .none) (e1 : h.get? a = some oe) (e2 : oe.data = .fields vs) (e3 : vs.size = 6) : Flies h' a T := by
 obtain ⟨oT, ts, t1, t2, t3⟩ := N.tb
 refine ⟨_, _, oT, ts, N.exc, Obj.data_mapFields e2 _, by simp [e3], fun q => ?_, t1, t2, t3⟩
 have z := Nat.lt_of_lt_of_le (Heap.lt_size e1) N.new
 rw [q] at z
 exact absurd z (Nat.lt_irrefl _)
theorem noted_xo (N : Noted fs z h h' a oe T fl) (x : ∃ vs t, oe.cls = .ref C ∧ oe.dict = dx ∧ oe.data = .fields vs ∧ vs.size = 6 ∧ vs[0]? = some (.ref t)) : ∃ oe vs t, h'.get? a = some oe ∧ oe.cls = .ref C ∧ oe.dict = dx ∧ oe.data = .fields vs ∧ vs.size = 6 ∧ vs[0]? = some (.ref t) ∧ (false = true → vs[1]? = some .none) := by
 obtain ⟨vs, t, c1, c2, c3, c4, c5⟩ := x
 refine ⟨_, _, t, N.exc, (Obj.cls_mapFields _ _).trans c1, ?_, Obj.data_mapFields c3 _, by simp [c4], ?_, fun q => by cases q⟩
 ·obtain ⟨_, _, od, _⟩ := oe
  dsimp only at c3
  subst c3
  exact c2
 ·rw [Array.getElem?_setIfInBounds_ne (by decide)]
  exact c5
theorem un_noted (N : Noted fs z h h' a oe T fl) (ha : H a = some (xo a C dx b)) (hz : z = a ∨ z ∈ ch) : Un fs ch H (upd H a (xo a C dx false)) h h' := by
 have n1 : ∀ c, H c = none → c ≠ a := fun c n q => by rw [q, ha] at n; cases n
 have n2 : ∀ c, c ≠ a → c ∉ ch → c ≠ z := fun c n m q => by
  rcases hz with r | r
  ·exact n (q.trans r)
  ·exact m (q ▸ r)
 have n3 : ∀ c u, H c = some u → (∀ φ, u ≠ .ext φ) → c ≠ a := fun c u q m r => by
  rw [r, ha] at q
  exact m _ (Option.some.inj q).symm
 refine ⟨fun c o q n hc hx => N.keep c o hc (n1 c n) (n2 c (n1 c n) hx) q, fun c o q n hc hx => N.slot c o hc (n1 c n) (n2 c (n1 c n) hx) q, fun c o q n hx => by rw [upd_ne (n1 c n)]; exact n, fun c o q hx => ?_,
  fun c xs q => by rw [upd_ne (n3 c _ q (by intro _ z; cases z))]; exact q, fun c o u q => by rw [upd_ne (n3 c _ q (by intro _ z; cases z))]; exact q, fun c ps q => ⟨#[], by rw [upd_ne (n3 c _ q (by intro _ z; cases z)), q]; simp⟩⟩
 by_cases ca : c = a
 ·rw [ca]; exact ⟨_, N.exc⟩
 ·by_cases cf : c ∈ fs
  ·obtain ⟨sl, r⟩ := N.slot c o cf ca (n2 c ca hx) q
   exact ⟨_, r⟩
  ·exact ⟨o, N.keep c o cf ca (n2 c ca hx) q⟩
theorem hok_noted (ok : HOk P w H h) (N : Noted fs z h h' a oe T fl) (ha : H a = some (xo a C dx b)) (hz : z = a ∨ H z = none) (hf : ∀ c ∈ fs, H c = none)
  (x : ∃ vs t, oe.cls = .ref C ∧ oe.dict = dx ∧ oe.data = .fields vs ∧ vs.size = 6 ∧ vs[0]? = some (.ref t)) : HOk P w (upd H a (xo a C dx false)) h' := fun c u q => by
 have n3 : ∀ c u, H c = some u → (∀ φ, u ≠ .ext φ) → c ≠ a := fun c u q m r => by
  rw [r, ha] at q
  exact m _ (Option.some.inj q).symm
 by_cases hc : c = a
 ·subst hc
  rw [upd_same] at q
  cases q
  exact xo_ok (noted_xo N x)
 ·rw [upd_ne hc] at q
  have kp : ∀ d u v, H d = some u → d ≠ a → h.get? d = some v → h'.get? d = some v := fun d u v q nd r => N.keep d v (fun m => by rw [hf d m] at q; cases q) nd (fun e => by
   rcases hz with g | g
   ·exact nd (e.trans g)
   ·rw [e, g] at q; cases q) r
  refine (ok c u q).stay (fun d v hd r => ?_) (fun d r => by rw [upd_ne (n3 d _ r (by intro _ z; cases z))]; exact r) fun d xs r => by rw [upd_ne (n3 d _ r (by intro _ z; cases z))]; exact r
  rcases hd with rfl | hd
  ·exact kp d u v q hc r
  ·exact kp d _ v hd (n3 d _ hd (by intro _ z; cases z)) r
theorem Un.less {L : Addr} {H' : Hp} (u : Un (L :: fs) ch H H' h h') (n : h.get? L = none) : Un fs ch H H' h h' := by
 have m : ∀ c o, h.get? c = some o → c ≠ L := fun c o q e => by rw [e, n] at q; cases q
 exact ⟨fun c o q k hc hx => u.keep c o q k (fun z => (List.mem_cons.mp z).elim (m c o q) hc) hx, fun c o q k hc hx => u.slot c o q k (List.mem_cons_of_mem _ hc) hx, u.free, u.there, u.tups, u.frzs, u.tbls⟩
end
def CX1 (P : Program) (w : World) : CXT := fun outer H s E e s' => ∃ a C dx H' T, e = .ref a ∧ s'.os = s.os ∧ AllBare s'.gens ∧ Un (frs outer) [] H H' s.heap s'.heap ∧ HOk P w H' s'.heap ∧ H' a = some (xo a C dx false) ∧ H' T = none ∧ s.heap.objs.size ≤ T ∧ Flies s'.heap a T ∧ E (.ref C) dx H'
section
variable {X : Cx} {pins : List (Addr × Obj)} {σ : St} {H : Hp} {s : Shared}
theorem leave_cx {P : Program} {w : World} {K : PySem.W.Frag} {mg : Str → Option Value} {base : Heap} {N : List Str} {qual : Str} {scope : Scope} {f : Addr} {cd : Value} {A : Around} {outer : List PySem.Env} {E : XK} {H1 : Hp} {s1 : Shared} {a C : Addr} {dx : Option Addr}
  (I : Inv (cxOf (CX1 P w) P w K mg base N qual scope f cd A outer s H E) pins σ H1 s1) (ha : H1 a = some (xo a C dx true)) (hE : E (.ref C) dx (upd H1 a (xo a C dx false))) : (cxOf (CX1 P w) P w K mg base N qual scope f cd A outer s H E).xe (.ref a) s1 := by
 obtain ⟨oe, vs, t, e1, e2, e3, e4, e5, e6, e7⟩ := (I.hok a _ ha).1
 have fr := I.ok.frames
 have st := I.stack
 refine leave_first fr st rfl e1 e4 (e7 rfl) fun h' T Nn => ?_
 have hL : s.heap.get? (envOfC qual scope s.heap.objs.size f cd).locals = none := Heap.get?_none_of_le I.ok.above
 have u1 : Un (s.heap.objs.size :: frs outer) [] H H1 s.heap s1.heap := Un.mono (fs' := s.heap.objs.size :: frs outer) (ex' := []) I.base (fun b hb => List.mem_cons_of_mem _ hb) fun b hb => hb
 have u2 : Un (s.heap.objs.size :: frs outer) [] H1 (upd H1 a (xo a C dx false)) s1.heap h' := un_noted Nn ha (.inl rfl)
 have hT : H1 T = none := I.hok.fresh Nn.new
 have nT : T ≠ a := fun q => by rw [q, ha] at hT; cases hT
 refine ⟨a, C, dx, _, T, rfl, I.os, I.bare, (u1.trans u2).less hL, hok_noted I.hok Nn ha (.inl rfl) (fun c hc => I.stkFree c hc) ⟨vs, t, e2, e3, e4, e5, e6⟩, upd_same, by rw [upd_ne nT]; exact hT, Nat.le_trans I.sz Nn.new, noted_flies Nn e1 e4 e5, hE⟩
end
end L2
namespace L2
open PySem PySem.Spec PyProof.Rows
theorem ObjOk.some_of {P : Program} {w : World} {H : Hp} {h : Heap} {a : Addr} {o : HO} (x : ObjOk P w H h a o) : ∃ u, h.get? a = some u := by
 cases o with
 | lst xs => obtain ⟨_, _, _, _, e⟩ := x; exact ⟨_, e⟩
 | tup xs => obtain ⟨_, _, _, u, e, _⟩ := x; exact ⟨u, e⟩
 | dK kvs => obtain ⟨_, _, _, _, u, _, _, e, _⟩ := x; exact ⟨u, e⟩
 | dT kvs => obtain ⟨_, _, _, _, u, _, _, e, _⟩ := x; exact ⟨u, e⟩
 | set S n => obtain ⟨u, _, _, _, e, _⟩ := x; exact ⟨u, e⟩
 | ins C dx fs => obtain ⟨_, _, _, e, _⟩ := x; exact ⟨_, e⟩
 | own y => exact x
 | xd fs => obtain ⟨_, ⟨u, _, _, e, _⟩, _⟩ := x; exact ⟨u, e⟩
 | rng lo hi => obtain ⟨_, _, _, e⟩ := x; exact ⟨_, e⟩
 | frz ob u => obtain ⟨e, _⟩ := x; exact ⟨_, e⟩
 | tbl ps => exact ⟨_, x⟩
 | met f y => exact ⟨_, x⟩
 | ext φ => exact x.2.1
theorem upd_id {H : Hp} {a : Addr} {o : HO} (e : H a = some o) : upd H a o = H := by
 funext b
 unfold upd
 split
 ·subst_vars; exact e.symm
 ·rfl
theorem xo_get {P : Program} {w : World} {H : Hp} {h : Heap} {a C : Addr} {dx : Option Addr} {b : Bool} (ok : HOk P w H h) (e : H a = some (xo a C dx b)) :
  ∃ oe vs t, h.get? a = some oe ∧ oe.cls = .ref C ∧ oe.dict = dx ∧ oe.data = .fields vs ∧ vs.size = 6 ∧ vs[0]? = some (.ref t) ∧ (b = true → vs[1]? = some .none) := (ok a _ e).1
section
variable {X : Cx} {pins : List (Addr × Obj)} {σ : St} {H : Hp} {s : Shared}
theorem Inv.laidN {a : Addr} {o : HO} {h' : Heap} {t' : Nat} (I : Inv X pins σ H s) (k : ∀ b u, s.heap.get? b = some u → h'.get? b = some u) (n : s.heap.get? a = none) (new : ObjOk X.prog X.w (upd H a o) h' a o) :
    H a = none ∧ Inv X pins σ (upd H a o) { s with heap := h', toks := t' } := by
  have hn : H a = none := by
    cases q : H a with
    | none => rfl
    | some u =>
      obtain ⟨v, e⟩ := (I.hok a u q).some_of
      rw [n] at e
      cases e
  refine ⟨hn, I.un ⟨fun b u q _ _ _ => k b u q, fun b u q _ _ _ => ⟨u.slots, k b u q⟩, fun b u q m _ => ?_, fun b u q _ => ⟨u, k b u q⟩, fun b xs q => by rw [upd_ne (ne_of_none q hn)]; exact q, fun b u xs q => by rw [upd_ne (ne_of_none q hn)]; exact q,
    fun b ps q => ⟨#[], by rw [upd_ne (ne_of_none q hn), q]; simp⟩⟩ fun b u q => ?_⟩
  · rw [upd_ne (fun z => by rw [z, n] at q; cases q)]
    exact m
  · by_cases hb : b = a
    · subst hb
      rw [upd_same] at q
      cases q
      exact new
    · rw [upd_ne hb] at q
      exact (I.hok b u q).stay (fun c v _ r => k c v r) (fun c r => by rw [upd_ne (ne_of_none r hn)]; exact r) fun c xs r => by rw [upd_ne (ne_of_none r hn)]; exact r
theorem ps_raise {e : Expr} {te : TE} {pos : Pos} {W : Addr → Addr → Option Addr → Hp → Prop} (he : PE X e te) (hc : X.calm = true)
  (hx : ∀ pins σ H s a C dx, Inv X pins σ H s → H a = some (xo a C dx true) → W a C dx H → X.xe (.ref a) s) :
  PS X (.Raise (some e) none pos) (fun _ σ H => te σ H fun v H1 => ∃ a C dx, v = .ref a ∧ H1 a = some (xo a C dx true) ∧ xcIn X.K C = true ∧ W a C dx H1) := by
 intro pins s σ H D I h
 rw [arm_exec_Raise]
 refine wpAny_bind (wpAny_standAt (raise_made (I.ok.hd hc) (wpAny_bind (thn (he pins s σ H _ I h) fun u s1 ⟨v, H1, I1, rv, a, C, dx, ev, ea, q1, w⟩ => wpAny_bind (wpAny_standAt (wpAny_pure ?_))))))
 subst ev
 cases rv
 obtain ⟨nm, qn, N, bs, bm, sn, sub, ab, col, dd, k0, k1, k2, k3, k5, Y, lk⟩ := xc_of I1.kIn q1
 obtain ⟨oe, vs, t, e1, e2, e3, e4, e5, e6, e7⟩ := xo_get I1.hok ea
 exact ⟨a, oe, vs, rfl, ⟨C, nm, qn, N, bs, bm, _, sn, sub, ab, col, dd, k0, k1, k2, k3, k5, _, Y.obj, Y.tail.hasType PySem.F.excBase_ValueError.hasBase, e2⟩, e1, e4, e7 rfl, hx pins σ H1 s1 a C dx I1 ea w⟩
def xisIn (K : PySem.W.Frag) (C : Addr) : Bool := xgaIn K C && (PySem.W.hasDictIn K C && (PySem.W.findIn K (.ref C) "__class__" == some (some (.builtin "object.__class__")) &&
 (PySem.W.specialIn K (.builtin "object.__class__") "__get__" == some (some (.builtin "getset_descriptor.__get__")) && (PySem.W.takesIn K (.builtin "object.__class__") == some true && PySem.W.mroIn K C (.type "object") == some true))))
def absU : V → Option Value
 | .ref a => some (.ref a)
 | .ty n => some (.type n)
 | _ => none
theorem absU_of {v : V} {u c : Value} (r : RelV v u) (h : absU v = some c) : u = c := by
 cases v <;> simp only [absU, reduceCtorEq] at h
 ·cases h; exact r
 ·cases h; exact r
end
end L2
namespace L2
open PySem PySem.Spec PyProof.Rows
section
variable {X : Cx} {pins : List (Addr × Obj)} {σ : St} {H : Hp} {s : Shared}
theorem Inv.del {M : Model} {A : Around} {E : Value → Shared → Prop} {i : Nat} {x : Str} {v : V} {Q : Unit → Shared → Prop} (I : Inv X pins σ H s) (hN : X.N.Nodup) (hi : X.N[i]? = some x) (hk : X.env.scope.names.lookup x = some .local) (hv : σ[i]? = some (some v))
  (k : ∀ s', Inv X pins (σ.set i none) H s' → Q () s') : wpAny M A (unbindName X.env x) Q E s := by
 obtain ⟨m, hn, hl⟩ := id I.loc
 obtain ⟨u, r, q⟩ := hl i x v hi hv (.inl hk)
 have hk' : X.env.kindOf x = some .local := hk
 have hm : m x = some u := by
  rcases q with ⟨_, e⟩ | ⟨z, _⟩
  ·exact e
  ·rw [hk'] at z
   rcases z with z | z <;> cases z
 have hcls : (X.env.scope.kind == .class || (X.env.scope.kind == .module && X.env.locals != X.env.globals)) = false := by rw [I.ok.kind]; rfl
 refine wpAny_unbindName_local hk' hn hm hcls fun h' u' hn' hs => k _ ?_
 obtain ⟨oL, _, _, hoL, _⟩ := id hn
 have above : ∀ b o, X.s₀.heap.get? b = some o → b ≠ X.env.locals := fun b o e => Nat.ne_of_lt (Nat.lt_of_lt_of_le (Heap.lt_size e) I.ok.above)
 refine ⟨I.ok, I.os, I.bare, ⟨fun b o e n hb hx => (hs.2 b (above b o e)).trans (I.base.keep b o e n hb hx), fun b o e n hb hx => ?_, I.base.free, fun b o e hx => ?_, I.base.tups, I.base.frzs, I.base.tbls⟩, ⟨_, hn', fun j y v' e1 e2 e3 => ?_⟩, fun y c e => ?_, I.free, I.freeC, fun p hp => ?_, fun b ob e => ?_, by simpa using I.len⟩
 ·obtain ⟨sl, e1⟩ := I.base.slot b o e n hb hx
  exact ⟨sl, (hs.2 b (above b o e)).trans e1⟩
 ·obtain ⟨o', e1⟩ := I.base.there b o e hx
  exact ⟨o', (hs.2 b (above b o e)).trans e1⟩
 ·have hj : j ≠ i := by
   rintro rfl
   rw [List.getElem?_set] at e2
   split at e2
   ·split at e2 <;> cases e2
   ·rename_i z; exact z rfl
  rw [List.getElem?_set_ne (Ne.symm hj)] at e2
  obtain ⟨u2, r2, q2⟩ := hl j y v' e1 e2 e3
  refine ⟨u2, r2, ?_⟩
  rcases q2 with ⟨k2, e⟩ | ⟨k2, c, e, z⟩
  ·have ne : y ≠ x := fun e => hj (nodup_ix hN e1 (e ▸ hi))
   exact .inl ⟨k2, (if_neg ne).trans e⟩
  ·exact .inr ⟨k2, c, e, z.sameBut hs (I.cne y c e)⟩
 ·obtain ⟨w', z⟩ := I.cell y c e
  exact ⟨w', z.sameBut hs (I.cne y c e)⟩
 ·obtain ⟨e, n, ne, nf, d⟩ := I.pin p hp
  exact ⟨(hs.2 p.1 ne).trans e, n, ne, nf, d⟩
 ·refine (I.hok b ob e).stay (fun c w' hc q => (hs.2 c ?_).trans q) (fun _ q => q) fun _ _ q => q
  rintro rfl
  rcases hc with rfl | hc
  ·rw [I.free] at e; cases e
  ·rw [I.free] at hc; cases hc
structure Caught (X : Cx) (pins : List (Addr × Obj)) (σ : St) (H : Hp) (s : Shared) (a C : Addr) (dx : Option Addr) (T : Addr) : Prop where
 inv : Inv X pins σ H s
 obj : H a = some (xo a C dx false)
 fl : Flies s.heap a T
 hT : H T = none
 t1 : X.s₀.heap.objs.size ≤ T
 t2 : T ≠ X.env.locals
 t3 : ∀ x c, X.env.cells.lookup x = some c → c ≠ T
 t4 : ∀ p ∈ X.pn ++ pins, p.1 ≠ T
theorem caught_new {T : Addr} (I : Inv X pins σ H s) (h : s.heap.objs.size ≤ T) : X.s₀.heap.objs.size ≤ T ∧ T ≠ X.env.locals ∧ (∀ x c, X.env.cells.lookup x = some c → c ≠ T) ∧ ∀ p ∈ X.pn ++ pins, p.1 ≠ T := by
 refine ⟨Nat.le_trans I.sz h, Nat.ne_of_gt (Nat.lt_of_lt_of_le I.lt h), fun x c e => ?_, fun p hp => ?_⟩
 ·obtain ⟨v, o, ho, _⟩ := I.cell x c e
  exact Nat.ne_of_lt (Nat.lt_of_lt_of_le (Heap.lt_size ho) h)
 ·exact Nat.ne_of_lt (Nat.lt_of_lt_of_le (Heap.lt_size (I.pin p hp).1) h)
theorem caught_of {E : XK} {e : Value} {s' : Shared} (I : Inv X pins σ H s) (h : CX1 X.prog X.w X.stack H s E e s') : ∃ a C dx H' T, e = .ref a ∧ Caught X pins σ H' s' a C dx T ∧ E (.ref C) dx H' := by
 obtain ⟨a, C, dx, H', T, rfl, os, bare, un, hok, ha, hT, hz, fl, hE⟩ := h
 have I2 := I.call' os un hok bare (fun b z => nomatch z)
 obtain ⟨z1, z2, z3, z4⟩ := caught_new I hz
 exact ⟨a, C, dx, H', T, rfl, ⟨I2, ha, fl, hT, z1, z2, z3, z4⟩, hE⟩
variable {a C T : Addr} {dx : Option Addr} {Q : Unit → Shared → Prop} {E : Value → Shared → Prop} {M : Model}
theorem Caught.note (c : Caught X pins σ H s a C dx T) (hs : X.stack = X.env :: X.outer) (hf : X.env.frame = some X.env.locals) (k : ∀ s' T', Caught X pins σ H s' a C dx T' → Q () s') :
  wpAny M X.A (noteFrame (.ref a) X.env) (fun _ s2 => wpAny M X.A (setFlight (.ref a) none) Q E s2) E s := by
 obtain ⟨oe, vs, t, e1, e2, e3, e4, e5, e6, _⟩ := xo_get c.inv.hok c.obj
 obtain ⟨oe', vs', oT, ts, f1, f2, f3, f4, f5, f6, f7⟩ := c.fl
 rw [e1] at f1
 cases f1
 rw [e4] at f2
 cases f2
 have fr := c.inv.ok.frames
 have st := c.inv.stack
 rw [hs] at fr st
 refine note_next fr st hf e1 e4 f3 f4 f5 f6 f7 fun h' T' N => noted_flight (s := { s with heap := h' }) N e1 e4 (by omega) fun h2 N2 => k _ T' ?_
 have hx : ∃ vs t, oe.cls = .ref C ∧ oe.dict = dx ∧ oe.data = .fields vs ∧ vs.size = 6 ∧ vs[0]? = some (.ref t) := ⟨vs, t, e2, e3, e4, e5, e6⟩
 rw [← hs] at N2
 have u := un_noted (ch := [T]) N2 c.obj (.inr (List.mem_singleton.mpr rfl))
 have hk := hok_noted c.inv.hok N2 c.obj (.inr c.hT) (fun b hb => c.inv.stkFree b hb) hx
 rw [upd_id c.obj] at u hk
 have I2 : Inv X pins σ H { s with heap := h2 } := c.inv.call' (s' := { s with heap := h2 }) rfl u hk c.inv.bare (fun b hb => by
  rw [List.mem_singleton.mp hb]
  exact ⟨.inr c.t1, c.t2, c.t3, c.t4⟩)
 obtain ⟨z1, z2, z3, z4⟩ := caught_new c.inv N2.new
 exact ⟨I2, c.obj, noted_flies N2 e1 e4 e5, c.inv.hok.fresh N2.new, z1, z2, z3, z4⟩
theorem Caught.off {A : Around} (c : Caught X pins σ H s a C dx T) (k : ∀ s', Caught X pins σ H s' a C dx T → Q () s') : wpAny M A (setFlight (.ref a) none) Q E s := by
 obtain ⟨oe, vs, oT, ts, f1, f2, f3, f4, f5, f6, f7⟩ := c.fl
 have z3 : 3 < ts.size := (Array.getElem?_eq_some_iff.mp f7).1
 refine flight_off f1 f2 f3 f5 f6 z3 (k _ ?_)
 have kp : ∀ b o, b ≠ T → s.heap.get? b = some o → (s.heap.update T (Obj.mapFields (·.setIfInBounds 3 .none))).get? b = some o := fun b o n e => (Heap.get?_update_other _ _ (Ne.symm n)).trans e
 have I2 := c.inv.turned (t' := s.toks) kp c.hT c.t2 (.inr c.t1) c.t3 c.t4
 exact ⟨I2, c.obj, ⟨oe, vs, _, _, kp a oe (Ne.symm f4) f1, f2, f3, f4, Heap.get?_update_self _ f5 (Obj.isFreed_of_fields (Obj.data_mapFields f6 _)), Obj.data_mapFields f6 _, by simp [z3]⟩, c.hT, c.t1, c.t2, c.t3, c.t4⟩
end
abbrev Cx.pin (X : Cx) (pins : List (Addr × Obj)) (E : Value → Shared → Prop) : Cx := { X with pn := X.pn ++ pins, xe := E }
abbrev Cx.suite (X : Cx) (e : Value) : Cx := { X with A := X.A.mark (some e), calm := false, xe := fun _ _ => False }
section
variable {X : Cx} {pins ps : List (Addr × Obj)} {σ : St} {H : Hp} {s : Shared} {E : Value → Shared → Prop} {e : Value}
theorem Inv.to_pin (I : Inv X pins σ H s) (E : Value → Shared → Prop) : Inv (X.pin pins E) [] σ H s :=
  ⟨⟨I.ok.mod, I.ok.kind, I.ok.glob, I.ok.blt, I.ok.above, I.ok.inj, I.ok.has, I.ok.cab, I.ok.hd, I.ok.frames, I.ok.stk, I.ok.exf, I.ok.bs, I.ok.bsz, I.ok.noex, I.ok.exfs, I.ok.funs, I.ok.frf⟩, I.os, I.bare, I.base, I.loc, I.cell, I.free, I.freeC,
    fun p hp => I.pin p (by simpa using hp), I.hok, I.len⟩
theorem Inv.of_pin (I : Inv (X.pin pins E) ps σ H s) : Inv X pins σ H s :=
  ⟨⟨I.ok.mod, I.ok.kind, I.ok.glob, I.ok.blt, I.ok.above, I.ok.inj, I.ok.has, I.ok.cab, I.ok.hd, I.ok.frames, I.ok.stk, I.ok.exf, I.ok.bs, I.ok.bsz, I.ok.noex, I.ok.exfs, I.ok.funs, I.ok.frf⟩, I.os, I.bare, I.base, I.loc, I.cell, I.free, I.freeC,
    fun p hp => I.pin p (List.mem_append_left _ hp), I.hok, I.len⟩
theorem Inv.to_suite (I : Inv X pins σ H s) (e : Value) : Inv (X.suite e) pins σ H s :=
 ⟨⟨I.ok.mod, I.ok.kind, I.ok.glob, I.ok.blt, I.ok.above, I.ok.inj, I.ok.has, I.ok.cab, (fun z => by cases z), I.ok.frames, I.ok.stk, I.ok.exf, I.ok.bs, I.ok.bsz, I.ok.noex, I.ok.exfs, I.ok.funs, I.ok.frf⟩, I.os, I.bare, I.base, I.loc, I.cell, I.free, I.freeC, I.pin, I.hok, I.len⟩
theorem Inv.of_suite (I : Inv (X.suite e) pins σ H s) (hd : X.A.handled = none) : Inv X pins σ H s :=
 ⟨⟨I.ok.mod, I.ok.kind, I.ok.glob, I.ok.blt, I.ok.above, I.ok.inj, I.ok.has, I.ok.cab, fun _ => hd, I.ok.frames, I.ok.stk, I.ok.exf, I.ok.bs, I.ok.bsz, I.ok.noex, I.ok.exfs, I.ok.funs, I.ok.frf⟩, I.os, I.bare, I.base, I.loc, I.cell, I.free, I.freeC, I.pin, I.hok, I.len⟩
end
def supIn (K : PySem.W.Frag) (C c : Addr) : Bool := match K.lookup C with
 | some ⟨_, _, .cls cd, _⟩ => cd.mro.contains (.ref c)
 | _ => false
theorem pe_callX {X : Cx} {CX : CXT} {k : Nat} {f : Addr} {fd : FuncData} {ps : List Str} {sp : Sp} {dvs : List V} {ds : List Value} {x : Str} {p pos : Pos} {e : Expr} {es : List Expr} {t : TA} {Ex : St → XK} (F : FnOk X.prog X.w X.K X.mg X.base CX k f fd ps sp) (hr : Room k X.A) (hg : Gl X x)
    (hm : X.mg x = some (.ref f)) (hk : PySem.W.keepIn X.K (.ref f) = true) (hb : Binds X.K fd ps ds) (hd : Vals dvs ds) (hx : ∀ pins σ H s e s', Inv X pins σ H s → CX X.stack H s (Ex σ) e s' → X.xe e s') (ha : PA X (e :: es) t)
    (hdb : (x == ("__debug__" : Str)) = false) (he : starEach (e :: es) X.env = (false, eval e X.env) :: starEach es X.env) (hpl : (backTo pos (starEach es X.env)).any (·.1) = false) :
    PE X (.Call (.Name x p) (e :: es) [] pos) (fun σ H Q => t σ H fun vs H1 => sp (vs ++ dvs) H1 Q (Ex σ)) := by
  intro pins s σ H Q I h
  refine wpAny_Call_Name_kw (ld_glob I hg hm ?_ hdb)
  refine PySem.W.callWith_K (h₀ := X.base) I.ok.mod.kin hk (thn (ha pos pins s σ H _ I h) fun us s1 ⟨vs, H1, I1, r, q⟩ => ⟨I1.kIn, ?_⟩) he hpl
  have r2 : Vals (vs ++ dvs) (us ++ ds) := r.append hd
  have hl : (us ++ ds).length = ps.length := by rw [← r2.length]; exact F.len _ _ _ _ q
  refine wpAny_call (codeAny_mono (F.run X.A X.stack s1 H1 ⟨us, []⟩ (us ++ ds) (vs ++ dvs) Q (Ex σ) hr I1.env0 (hb s1 us I1.kIn hl) r2 q) fun rr s' hq => ?_)
  cases rr with
  | error e => exact hx pins σ H1 s1 e s' I1 hq
  | ok fl =>
    cases fl with
    | ret u => exact I1.after hq
    | next => exact False.elim hq
    | brk => exact False.elim hq
    | cont => exact False.elim hq
end L2
namespace L2
open PySem PySem.Spec PyProof.Rows
theorem ns_none_of {K : PySem.W.Frag} {h : Heap} {N : Addr} {mg : Str → Option Value} {n : Str} (X : K.In h) (G : h.Ns N mg) (e : PySem.W.nsIn K N n = some none) : mg n = none := by
 obtain ⟨o, es, ep, ho, hd, _, hf⟩ := G
 unfold PySem.W.nsIn at e
 split at e
 ·rename_i q
  have z := X _ _ q
  rw [ho] at z
  cases z
  cases hd
  split at e
  ·cases e
  ·rename_i he
   rw [← hf]
   unfold nsFind findBy
   rw [← Array.find?_toList, he]
   rfl
 ·cases e
section
variable {X : Cx}
def tpC (C : Addr) (Q : VK) (vs : List V) (H : Hp) : Prop := vs.length = 1 ∧ ∀ a, H a = none → Q (.ref a) (upd H a (xo a C none true))
def tPlain (C : Addr) (te : TE) : TE := fun σ H Q => te σ H fun v H1 => tpC C Q [v] H1
theorem pe_plain {C : Addr} {x : Str} {p pos : Pos} {e : Expr} {te : TE} (q1 : xcIn X.K C = true) (q2 : xnoIn X.K C = true) (kp : PySem.W.keepIn X.K (.ref C) = true) (hg : Gl X x) (hm : X.mg x = some (.ref C)) (he : PE X e te) (hdb : (x == ("__debug__" : Str)) = false)
  (hs : starEach [e] X.env = [(false, eval e X.env)]) : PE X (.Call (.Name x p) [e] [] pos) (tPlain C te) := by
 intro pins s σ H Q I h
 refine wpAny_Call_Name_kw (ld_glob I hg hm ?_ hdb)
 refine PySem.W.callWith_K (h₀ := X.base) I.ok.mod.kin kp (thn (pa_cons he pa_nil hs pos pins s σ H (tpC C Q) I h) fun us s1 ⟨vs, H1, I1, r, q⟩ => ⟨I1.kIn, ?_⟩) hs rfl
 obtain ⟨nm, qn, N, bs, bm, sn, sub, ab, col, dd, k0, k1, k2, k3, k5, Y, lk⟩ := xc_of I1.kIn q1
 unfold xnoIn at q2
 rw [lk] at q2
 simp only [beq_iff_eq] at q2
 have c3 := ns_none_of I1.kIn Y.ns q2
 have hl : us.length = 1 := by
  rw [← r.length, q.1]
 obtain ⟨hh, g, d, t, os⟩ := s1
 refine wpAny_call_exc_subU PySem.F.excBase_ValueError (by decide +kernel) PySem.F.excBase_ValueError Y.tail Y.obj Y.ns c3 (fun h' a M => ?_) (by show us.length ≤ sizeLine; rw [hl, sizeLine_eq]; decide)
 obtain ⟨t0, m1, _, _⟩ := M.there
 obtain ⟨hn, I2⟩ := I1.laidN (a := a) (o := xo a C none true) (t' := t) M.keeps M.new (xo_ok ⟨_, _, t0, m1, rfl, rfl, rfl, rfl, rfl, fun _ => rfl⟩)
 exact ⟨V.ref a, _, I2, rfl, q.2 a hn⟩
end
theorem ps_tryR {X : Cx} {body suite : List Stmt} {b0 : Stmt} {cn n : Str} {np hp pos : Pos} {c : Addr} {i : Nat} {tb : Ends → TS} {th : TS}
    (hs : X.stack = X.env :: X.outer) (hf : X.env.frame = some X.env.locals) (hc : X.calm = true) (hN : X.N.Nodup) (hi : X.N[i]? = some n) (hl : X.env.scope.names.lookup n = some .local) (hg : Gl X cn) (hm : X.mg cn = some (.ref c)) (q : xcIn X.K c = true) (hdb : (cn == ("__debug__" : Str)) = false)
    (hb : ∀ (pins : List (Addr × Obj)) (D : Ends), PSs (X.pin pins fun e s' => ∃ σ' H' a C dx T, e = .ref a ∧ Caught X pins σ' H' s' a C dx T ∧ xcIn X.K C = true ∧ supIn X.K C c = true ∧
      th { D with nx := fun σ H => ∃ v, σ[i]? = some (some v) ∧ D.nx (σ.set i none) H, bk := fun _ _ => False, ct := fun _ _ => False } (σ'.set i (some (.ref a))) H') body (tb D))
    (hh : ∀ e, PSs (X.suite e) (b0 :: suite) th) :
    PS X (.Try body [.ExceptHandler (some (.Name cn np)) (some n) (b0 :: suite) hp] [] [] pos) (fun D σ H => tb D D σ H) := by
  intro pins s σ H D I h
  refine wpAny_Try_except (wpAny_mono (hb pins D [] s σ H D (I.to_pin _) h) (fun f s1 z => ?_) fun e s1 z => ?_)
  · cases f with
    | next => obtain ⟨σ', H', J, q⟩ := z; exact wpAny_execs_nil ⟨σ', H', J.of_pin, q⟩
    | brk => obtain ⟨σ', H', J, q⟩ := z; exact ⟨σ', H', J.of_pin, q⟩
    | cont => obtain ⟨σ', H', J, q⟩ := z; exact ⟨σ', H', J.of_pin, q⟩
    | ret u => obtain ⟨v, σ', H', J, r, q⟩ := z; exact ⟨v, σ', H', J.of_pin, r, q⟩
  · obtain ⟨σ', H', a, C, dx, T, rfl, K1, q1, q2, z⟩ := z
    refine K1.note hs hf fun s2 T2 K2 => ?_
    have hd := I.ok.hd hc
    refine wpAny_handleBy_cons (codeAny_handlers_test ?_) (by intro z; cases z)
    refine ld_glob (X := X.suite (.ref a)) (K2.inv.to_suite _) hg hm ?_ hdb
    obtain ⟨nm, qn, N, bs, bm, sn, sub, ab, col, dd, k0, k1, k2, k3, k5, Y, lk⟩ := xc_of K2.inv.kIn q1
    obtain ⟨nm', qn', N', bs', bm', sn', sub', ab', col', dd', j0, j1, j2, j3, j5, Y', lk'⟩ := xc_of K2.inv.kIn q
    obtain ⟨oe, vs, t, e1, e2, e3, e4, e5, e6, _⟩ := xo_get K2.inv.hok K2.obj
    have hit : (Value.ref C :: bm).contains (.ref c) = true := by
      unfold supIn at q2
      rw [lk] at q2
      exact q2
    obtain ⟨hh2, g, d, tk, os⟩ := s2
    refine x_match Y.obj Y'.obj e1 e2 (Y'.tail.hasType PySem.F.excBase_ValueError.hasBase) ?_
    rw [hit]
    refine codeAny_handlers_suite_as (K2.off fun s3 K3 => ?_)
    refine store_ok (X := X.suite (.ref a)) (v := .ref a) (K3.inv.to_suite _) hN hi (.inl hl) rfl (fun s4 I4 => ?_) (.inr hl)
    refine wpAny_mono (hh (.ref a) pins s4 _ H' _ I4 z) (fun f s5 y => ?_) fun _ _ y => False.elim y
    cases f with
    | next =>
      obtain ⟨σ5, H5, I5, v, ev, y⟩ := y
      have I5' := I5.of_suite hd
      refine wpAny_bind (wpAny_bindName (store_ok (v := .non) I5' hN hi (.inl hl) rfl (fun s6 I6 => ?_) (.inr hl)))
      unfold unbindBehindTheSuite
      refine wpAny_onRaise (I6.del (v := .non) hN hi hl ?_ fun s7 I7 => ?_)
      · rw [List.getElem?_set_self]
        rw [I5'.len]
        exact (List.getElem?_eq_some_iff.mp hi).1
      · rw [List.set_set] at I7
        exact ⟨_, H5, I7, y⟩
    | brk => obtain ⟨_, _, _, y⟩ := y; exact False.elim y
    | cont => obtain ⟨_, _, _, y⟩ := y; exact False.elim y
    | ret u =>
      obtain ⟨v, σ5, H5, I5, rv, y⟩ := y
      have I5' := I5.of_suite hd
      refine wpAny_bind (wpAny_bindName (store_ok (v := .non) I5' hN hi (.inl hl) rfl (fun s6 I6 => ?_) (.inr hl)))
      unfold unbindBehindTheSuite
      refine wpAny_onRaise (I6.del (v := .non) hN hi hl ?_ fun s7 I7 => ?_)
      · rw [List.getElem?_set_self]
        rw [I5'.len]
        exact (List.getElem?_eq_some_iff.mp hi).1
      · rw [List.set_set] at I7
        exact ⟨v, _, H5, I7, rv, y⟩
end L2
namespace E3
open PySem PySem.Spec PyProof.Rows L2
inductive D where
 | non | bl (b : Bool) | int (i : Int) | str (s : Str) | tup (xs : List D) | lst (xs : List D) | ref (n : Nat)
inductive Cl where
 | lst (ds : List D) | obj (c : Str) (fs : List (Str × D)) | dct (kvs : List (L2.Key × D))
abbrev Mm := List Cl
inductive Slot where
 | un | val (d : D) | own (ds : List D) | exc (c : Str) (n : Int)
abbrev Env := List Slot
mutual
def D.lf : D → Bool
 | .tup xs => D.lfs xs
 | .lst _ => false
 | .ref _ => false
 | _ => true
def D.lfs : List D → Bool
 | [] => true
 | a :: as => D.lf a && D.lfs as
end
def KL (K : PySem.W.Frag) (a : Addr) (vs : List V) : Prop := ∃ (o : Obj) (its : Array Value) (n : Nat), K.lookup a = some o ∧ o.cls = .type "list" ∧ o.dict = none ∧ o.data = .seq its n ∧ its.size ≤ sizeLine ∧ Vals vs its.toList
structure Pl where
 io : Nat → Addr
 n : Nat
 bd : Addr → Prop
def RdA (K : PySem.W.Frag) (P : Pl) (H : Hp) (a : Addr) (vs : List V) : Prop := (¬ P.bd a ∧ Rd H a (.lst vs)) ∨ KL K a vs
def RdK (K : PySem.W.Frag) (P : Pl) (H : Hp) (a : Addr) (vs : List V) : Prop := ((∀ k, k < P.n → P.io k ≠ a) ∧ Rd H a (.lst vs)) ∨ KL K a vs
mutual
def Is (K : PySem.W.Frag) (P : Pl) (H : Hp) : D → V → Prop
 | .non, v => v = .non
 | .bl b, v => v = .bl b
 | .int i, v => v = .int i
 | .str s, v => v = .str s
 | .tup ds, v => ∃ a vs, v = .ref a ∧ SqT K H a vs ∧ Iss K P H ds vs
 | .lst ds, v => ∃ a vs, v = .ref a ∧ RdA K P H a vs ∧ Iss K P H ds vs
 | .ref k, v => k < P.n ∧ v = .ref (P.io k)
def Iss (K : PySem.W.Frag) (P : Pl) (H : Hp) : List D → List V → Prop
 | [], vs => vs = []
 | d :: ds, vs => ∃ v r, vs = v :: r ∧ Is K P H d v ∧ Iss K P H ds r
end
def Fx (o : HO) : Prop := (∃ xs, o = .tup xs) ∨ (∃ u w, o = .frz u w) ∨ (∃ g, o = .ext g) ∨ ∃ fs, o = .xd fs
structure Lt (P : Pl) (H : Hp) (P' : Pl) (H' : Hp) : Prop where
 n : P.n ≤ P'.n
 io : ∀ k, k < P.n → P'.io k = P.io k
 bd : ∀ a, P'.bd a → P.bd a ∨ H a = none
 keep : ∀ a o, H a = some o → (Fx o ∨ ¬ P.bd a) → H' a = some o
 sure : ∀ a, H' a = none → H a = none
section
variable {K : PySem.W.Frag} {P P' P'' : Pl} {H H' H'' : Hp}
theorem Lt.refl (P : Pl) (H : Hp) : Lt P H P H := ⟨Nat.le_refl _, fun _ _ => rfl, fun _ z => .inl z, fun _ _ e _ => e, fun _ z => z⟩
theorem Lt.not (l : Lt P H P' H') {a : Addr} {o : HO} (e : H a = some o) (n : ¬ P.bd a) : ¬ P'.bd a := fun z => (l.bd a z).elim n fun z => by rw [e] at z; cases z
theorem Lt.trans (l : Lt P H P' H') (m : Lt P' H' P'' H'') : Lt P H P'' H'' where
 n := Nat.le_trans l.n m.n
 io := fun k h => (m.io k (Nat.lt_of_lt_of_le h l.n)).trans (l.io k h)
 bd := fun a z => (m.bd a z).elim (l.bd a) fun z => .inr (l.sure a z)
 keep := fun a o e h => m.keep a o (l.keep a o e h) (h.imp id fun n => l.not e n)
 sure := fun a z => l.sure a (m.sure a z)
theorem Lt.rd (l : Lt P H P' H') {a : Addr} {xs : List V} (n : ¬ P.bd a) (h : Rd H a (.lst xs)) : Rd H' a (.lst xs) := by
 rcases h with h | ⟨o, h⟩
 ·exact .inl (l.keep _ _ h (.inr n))
 ·exact .inr ⟨o, l.keep _ _ h (.inr n)⟩
theorem rd_some {a : Addr} {o : HO} (h : Rd H a o) : ∃ o', H a = some o' := h.elim (fun h => ⟨_, h⟩) fun ⟨_, h⟩ => ⟨_, h⟩
theorem Lt.rda (l : Lt P H P' H') {a : Addr} {xs : List V} (h : RdA K P H a xs) : RdA K P' H' a xs := h.imp (fun ⟨n, h⟩ => ⟨by obtain ⟨o, e⟩ := rd_some h; exact l.not e n, l.rd n h⟩) id
theorem Lt.tup (l : Lt P H P' H') {a : Addr} {xs : List V} (h : SqT K H a xs) : SqT K H' a xs := by
 rcases h with (h | ⟨o, h⟩) | h
 ·exact .inl (.inl (l.keep _ _ h (.inl (.inl ⟨_, rfl⟩))))
 ·exact .inl (.inr ⟨o, l.keep _ _ h (.inl (.inr (.inl ⟨_, _, rfl⟩)))⟩)
 ·exact .inr h
mutual
theorem Is.lt (l : Lt P H P' H') : ∀ {d : D} {v : V}, Is K P H d v → Is K P' H' d v
  | .non, _, h => h
  | .bl _, _, h => h
  | .int _, _, h => h
  | .str _, _, h => h
  | .tup ds, _, h => by
    obtain ⟨a, vs, e, s, r⟩ := h
    exact ⟨a, vs, e, l.tup s, Iss.lt l r⟩
  | .lst ds, _, h => by
    obtain ⟨a, vs, e, s, r⟩ := h
    exact ⟨a, vs, e, l.rda s, Iss.lt l r⟩
  | .ref k, _, h => ⟨Nat.lt_of_lt_of_le h.1 l.n, by rw [l.io k h.1]; exact h.2⟩
theorem Iss.lt (l : Lt P H P' H') : ∀ {ds : List D} {vs : List V}, Iss K P H ds vs → Iss K P' H' ds vs
  | [], _, h => h
  | _ :: _, _, h => by
    obtain ⟨v, r, e, p, q⟩ := h
    exact ⟨v, r, e, Is.lt l p, Iss.lt l q⟩
end
def Pl.less (P : Pl) (B : Addr → Prop) : Pl := { P with bd := fun a => P.bd a ∧ B a }
mutual
theorem Is.less {B : Addr → Prop} : ∀ {d : D} {v : V}, Is K P H d v → Is K (P.less B) H d v
  | .non, _, h => h
  | .bl _, _, h => h
  | .int _, _, h => h
  | .str _, _, h => h
  | .tup ds, _, h => by
    obtain ⟨a, vs, e, s, r⟩ := h
    exact ⟨a, vs, e, s, Iss.less r⟩
  | .lst ds, _, h => by
    obtain ⟨a, vs, e, s, r⟩ := h
    exact ⟨a, vs, e, s.imp (fun ⟨n, h⟩ => ⟨fun z => n z.1, h⟩) id, Iss.less r⟩
  | .ref k, _, h => h
theorem Iss.less {B : Addr → Prop} : ∀ {ds : List D} {vs : List V}, Iss K P H ds vs → Iss K (P.less B) H ds vs
  | [], _, h => h
  | _ :: _, _, h => by
    obtain ⟨v, r, e, p, q⟩ := h
    exact ⟨v, r, e, Is.less p, Iss.less q⟩
end
mutual
theorem Is.free (P' : Pl) : ∀ {d : D} {v : V}, d.lf = true → Is K P H d v → Is K P' H d v
  | .non, _, _, h => h
  | .bl _, _, _, h => h
  | .int _, _, _, h => h
  | .str _, _, _, h => h
  | .tup ds, _, l, h => by
    obtain ⟨a, vs, e, s, r⟩ := h
    exact ⟨a, vs, e, s, Iss.free P' (by simpa only [D.lf] using l) r⟩
  | .lst _, _, l, _ => by simp [D.lf] at l
  | .ref _, _, l, _ => by simp [D.lf] at l
theorem Iss.free (P' : Pl) : ∀ {ds : List D} {vs : List V}, D.lfs ds = true → Iss K P H ds vs → Iss K P' H ds vs
  | [], _, _, h => h
  | _ :: _, _, l, h => by
    obtain ⟨v, r, e, p, q⟩ := h
    simp only [D.lfs, Bool.and_eq_true] at l
    exact ⟨v, r, e, Is.free P' l.1 p, Iss.free P' l.2 q⟩
end
theorem Iss.len : ∀ {ds : List D} {vs : List V}, Iss K P H ds vs → vs.length = ds.length
  | [], _, h => by rw [show _ = [] from h]; rfl
  | d :: ds, _, h => by
    obtain ⟨v, r, e, _, q⟩ := h
    subst e
    simp [Iss.len q]
theorem Iss.get : ∀ {ds : List D} {vs : List V} {i : Nat} {d : D}, Iss K P H ds vs → ds[i]? = some d → ∃ v, vs[i]? = some v ∧ Is K P H d v
  | [], _, _, _, _, e => by simp at e
  | d :: ds, _, 0, _, h, e => by
    obtain ⟨v, r, e', p, _⟩ := h
    simp at e
    subst e e'
    exact ⟨v, rfl, p⟩
  | d :: ds, _, i + 1, _, h, e => by
    obtain ⟨v, r, e', _, q⟩ := h
    subst e'
    simpa using Iss.get (i := i) q (by simpa using e)
theorem Iss.append : ∀ {ds es : List D} {vs ws : List V}, Iss K P H ds vs → Iss K P H es ws → Iss K P H (ds ++ es) (vs ++ ws)
  | [], _, _, _, h, q => by rw [show _ = [] from h]; exact q
  | d :: ds, _, _, _, h, q => by
    obtain ⟨v, r, e, p, h⟩ := h
    subst e
    exact ⟨v, r ++ _, rfl, p, Iss.append h q⟩
theorem Iss.take : ∀ {ds : List D} {vs : List V} (n : Nat), Iss K P H ds vs → Iss K P H (ds.take n) (vs.take n)
  | _, _, 0, _ => rfl
  | [], _, n + 1, h => by rw [show _ = [] from h]; rfl
  | d :: ds, _, n + 1, h => by
    obtain ⟨v, r, e, p, h⟩ := h
    subst e
    exact ⟨v, _, rfl, p, Iss.take n h⟩
theorem Iss.drop : ∀ {ds : List D} {vs : List V} (n : Nat), Iss K P H ds vs → Iss K P H (ds.drop n) (vs.drop n)
  | _, _, 0, h => h
  | [], _, n + 1, h => by rw [show _ = [] from h]; rfl
  | d :: ds, _, n + 1, h => by
    obtain ⟨v, r, e, p, h⟩ := h
    subst e
    exact Iss.drop n h
theorem Iss.one {d : D} {v : V} (h : Is K P H d v) : Iss K P H [d] [v] := ⟨v, [], rfl, h, rfl⟩
theorem Iss.cons {d : D} {v : V} {ds : List D} {vs : List V} (h : Is K P H d v) (q : Iss K P H ds vs) : Iss K P H (d :: ds) (v :: vs) := ⟨v, vs, rfl, h, q⟩
theorem Iss.set : ∀ {ds : List D} {vs : List V} {d : D} {v : V} (n : Nat), Iss K P H ds vs → Is K P H d v → Iss K P H (ds.set n d) (vs.set n v)
  | [], _, _, _, _, h, _ => by rw [show _ = [] from h]; rfl
  | d :: ds, _, _, _, 0, h, p => by
    obtain ⟨v, r, e, _, h⟩ := h
    subst e
    exact ⟨_, r, rfl, p, h⟩
  | d :: ds, _, _, _, n + 1, h, p => by
    obtain ⟨v, r, e, q, h⟩ := h
    subst e
    exact ⟨v, _, rfl, q, Iss.set n h p⟩
end
def CellOk (K : PySem.W.Frag) (mg : Str → Option Value) (P : Pl) (H : Hp) (a : Addr) : Cl → Prop
 | .lst ds => ∃ vs, H a = some (.lst vs) ∧ Iss K P H ds vs
 | .obj c fs => ∃ C dx gs, mg c = some (.ref C) ∧ H a = some (.ins C dx gs) ∧ gs.map (·.1) = fs.map (·.1) ∧ Iss K P H (fs.map (·.2)) (gs.map (·.2))
 | .dct kvs => ∃ vs : List (L2.Key × V), H a = some (.dK vs) ∧ vs.map (·.1) = kvs.map (·.1) ∧ Iss K P H (kvs.map (·.2)) (vs.map (·.2))
structure Hk (K : PySem.W.Frag) (mg : Str → Option Value) (P : Pl) (H : Hp) (M : Mm) : Prop where
 n : P.n = M.length
 cell : ∀ (k : Nat) c, M[k]? = some c → CellOk K mg P H (P.io k) c
 inj : ∀ j k, j < P.n → k < P.n → P.io j = P.io k → j = k
 bd : ∀ k, k < P.n → P.bd (P.io k)
 here : ∀ a, P.bd a → H a ≠ none
structure LtE (P : Pl) (H : Hp) (P' : Pl) (H' : Hp) : Prop where
 n : P.n ≤ P'.n
 io : ∀ k, k < P.n → P'.io k = P.io k
 bd : ∀ a, P'.bd a → P.bd a ∨ H a = none
 bm : ∀ a, P.bd a → P'.bd a
 keep : ∀ a o, H a = some o → (∀ k, k < P.n → P.io k ≠ a) → H' a = some o
 sure : ∀ a, H' a = none → H a = none
 nw : ∀ k, P.n ≤ k → k < P'.n → H (P'.io k) = none
section
variable {K : PySem.W.Frag} {mg : Str → Option Value} {P P' P'' : Pl} {H H' H'' : Hp} {M M' : Mm}
theorem LtE.refl (P : Pl) (H : Hp) : LtE P H P H := ⟨Nat.le_refl _, fun _ _ => rfl, fun _ z => .inl z, fun _ z => z, fun _ _ e _ => e, fun _ z => z, fun k h1 h2 => absurd h1 (Nat.not_le.mpr h2)⟩
theorem LtE.same (s : Same H H') : LtE P H P H' := ⟨Nat.le_refl _, fun _ _ => rfl, fun _ z => .inl z, fun _ z => z, fun a o e _ => s a o e, fun a z => s.free z, fun k h1 h2 => absurd h1 (Nat.not_le.mpr h2)⟩
theorem Hk.cellAt (h : Hk K mg P H M) {k : Nat} (hk : k < P.n) : ∃ o, H (P.io k) = some o ∧ ¬ Fx o := by
  obtain ⟨c, hc⟩ : ∃ c, M[k]? = some c := ⟨_, List.getElem?_eq_getElem (by rw [← h.n]; exact hk)⟩
  have := h.cell k c hc
  cases c with
  | lst ds =>
    obtain ⟨vs, e, _⟩ := this
    exact ⟨_, e, fun z => by rcases z with ⟨_, z⟩ | ⟨_, _, z⟩ | ⟨_, z⟩ | ⟨_, z⟩ <;> cases z⟩
  | obj c fs =>
    obtain ⟨C, dx, gs, _, e, _⟩ := this
    exact ⟨_, e, fun z => by rcases z with ⟨_, z⟩ | ⟨_, _, z⟩ | ⟨_, z⟩ | ⟨_, z⟩ <;> cases z⟩
  | dct kvs =>
    obtain ⟨vs, e, _⟩ := this
    exact ⟨_, e, fun z => by rcases z with ⟨_, z⟩ | ⟨_, _, z⟩ | ⟨_, z⟩ | ⟨_, z⟩ <;> cases z⟩
theorem LtE.lt (l : LtE P H P' H') (h : Hk K mg P H M) : Lt P H P' H' where
 n := l.n
 io := l.io
 bd := l.bd
 sure := l.sure
 keep := fun a o e z => l.keep a o e fun k hk q => by
  subst q
  rcases z with z | z
  ·obtain ⟨o', e', nf⟩ := h.cellAt hk
   rw [e] at e'
   cases e'
   exact nf z
  ·exact z (h.bd k hk)
theorem LtE.trans (l : LtE P H P' H') (m : LtE P' H' P'' H'') : LtE P H P'' H'' where
 n := Nat.le_trans l.n m.n
 io := fun k h => (m.io k (Nat.lt_of_lt_of_le h l.n)).trans (l.io k h)
 bd := fun a z => (m.bd a z).elim (l.bd a) fun z => .inr (l.sure a z)
 bm := fun a z => m.bm a (l.bm a z)
 keep := fun a o e h => m.keep a o (l.keep a o e h) fun k hk q => by
  rcases Nat.lt_or_ge k P.n with z | z
  ·rw [l.io k z] at q
   exact h k z q
  ·rw [← q, l.nw k z hk] at e
   cases e
 sure := fun a z => l.sure a (m.sure a z)
 nw := fun k h1 h2 => by
  rcases Nat.lt_or_ge k P'.n with z | z
  ·rw [m.io k z]
   exact l.nw k h1 z
  ·exact l.sure _ (m.nw k z h2)
end
end E3
namespace E3
open PySem PySem.Spec PyProof.Rows L2
inductive Cp where
 | eq | ne | lt | le | gt | ge | isin | notin | same | other
mutual
def D.eq : D → D → Bool
 | .non, .non => true
 | .bl a, .bl b => a == b
 | .bl a, .int b => (if a then 1 else 0) == b
 | .int a, .bl b => a == (if b then 1 else 0)
 | .int a, .int b => a == b
 | .str a, .str b => a == b
 | .tup a, .tup b => D.eqs a b
 | .lst a, .lst b => D.eqs a b
 | .ref a, .ref b => a == b
 | _, _ => false
def D.eqs : List D → List D → Bool
 | [], [] => true
 | a :: as, b :: bs => D.eq a b && D.eqs as bs
 | _, _ => false
end
mutual
def D.dep : D → Nat
 | .tup xs => D.deps xs + 1
 | .lst xs => D.deps xs + 1
 | .ref _ => 101
 | _ => 0
def D.deps : List D → Nat
 | [] => 0
 | a :: as => max (D.dep a) (D.deps as)
end
def D.flat : D → Bool
 | .tup _ => false
 | .lst _ => false
 | .ref _ => false
 | _ => true
def inStr (i j : Str) : Bool := !(Builtin.Str.occurrences j i 0 j.length 1).isEmpty
def eqOk (a b : D) : Bool := a.flat == b.flat && decide (b.dep ≤ 50)
def cEq (a b : D) : Option Bool := if eqOk a b = true ∧ a.dep ≤ 50 then some (D.eq a b) else none
def cNe (a b : D) : Option Bool := if eqOk a b = true ∧ a.dep ≤ 50 then some (!D.eq a b) else none
def cOrd (f : Int → Int → Bool) (a b : D) : Option Bool := match a with
 | .int i => (match b with | .int j => some (f i j) | _ => none)
 | _ => none
def cIn (a b : D) : Option Bool := match b with
 | .str j => (match a with | .str i => some (inStr i j) | _ => none)
 | .lst xs => if (a.flat && xs.all D.flat) = true then some (xs.any fun y => D.eq y a) else none
 | .tup xs => if (a.flat && xs.all D.flat) = true then some (xs.any fun y => D.eq y a) else none
 | _ => none
def cNin (a b : D) : Option Bool := match b with
 | .str j => (match a with | .str i => some (!inStr i j) | _ => none)
 | .lst xs => if (a.flat && xs.all D.flat) = true then some (!xs.any fun y => D.eq y a) else none
 | .tup xs => if (a.flat && xs.all D.flat) = true then some (!xs.any fun y => D.eq y a) else none
 | _ => none
def cSame (a b : D) : Option Bool := match b with
 | .bl b => (match a with | .bl a => some (a == b) | _ => some false)
 | .non => (match a with | .non => some true | _ => some false)
 | _ => none
def cOther (a b : D) : Option Bool := match b with
 | .bl b => (match a with | .bl a => some (!(a == b)) | _ => some true)
 | .non => (match a with | .non => some false | _ => some true)
 | _ => none
def cmpD (c : Cp) (a b : D) : Option Bool := match c with
 | .eq => cEq a b
 | .ne => cNe a b
 | .lt => cOrd (fun i j => decide (i < j)) a b
 | .le => cOrd (fun i j => decide (i ≤ j)) a b
 | .gt => cOrd (fun i j => decide (j < i)) a b
 | .ge => cOrd (fun i j => decide (j ≤ i)) a b
 | .isin => cIn a b
 | .notin => cNin a b
 | .same => cSame a b
 | .other => cOther a b
def IsB (K : PySem.W.Frag) (P : Pl) (H : Hp) : D → V → Prop
 | .lst ds, v => ∃ a vs, v = .ref a ∧ RdK K P H a vs ∧ Iss K P H ds vs
 | d, v => Is K P H d v
section
variable {X : Cx} {pins : List (Addr × Obj)} {σ : L2.St} {H : Hp} {s : Shared}
theorem sqlOf {K : PySem.W.Frag} {P : Pl} {a : Addr} {xs : List V} (h : RdK K P H a xs) : SqL K H a xs := h.imp (·.2) id
def IsW (K : PySem.W.Frag) (P : Pl) (H : Hp) : D → V → Prop
 | .lst ds, v => ∃ a vs, v = .ref a ∧ SqL K H a vs ∧ Iss K P H ds vs
 | d, v => Is K P H d v
theorem IsB.w {K : PySem.W.Frag} {P : Pl} {d : D} {v : V} (h : IsB K P H d v) : IsW K P H d v := by
 cases d <;> first | exact h | (obtain ⟨a, vs, e, r, q⟩ := h; exact ⟨a, vs, e, sqlOf r, q⟩)
theorem Is.w {K : PySem.W.Frag} {P : Pl} {d : D} {v : V} (h : Is K P H d v) : IsW K P H d v := by
 cases d <;> first | exact h | (obtain ⟨a, vs, e, r, q⟩ := h; exact ⟨a, vs, e, r.imp (·.2) id, q⟩)
theorem sql {l : Addr} {xs : List V} (I : Inv X pins σ H s) (h : SqL X.K H l xs) : xs.length ≤ sizeLine ∧ ∃ its : List Value, Vals xs its ∧ s.heap.IsList l its.toArray := by
 obtain ⟨its, r, p, z⟩ := I.list h
 exact ⟨z, its, r, p.isList⟩
mutual
theorem Is.inj (I : Inv X pins σ H s) {A B : Pl} : ∀ (d e : D) (v : V), IsW X.K A H d v → IsW X.K B H e v → d.dep ≤ 100 → e.dep ≤ 100 → d = e
  | .ref _, e, v, h, h', hd, he => by simp [D.dep] at hd
  | .non, e, v, h, h', hd, he => by
    have hv : v = .non := h
    subst hv
    cases e <;> first | (simp [D.dep] at he; done) | (simp [IsW, Is] at h' <;> rfl)
  | .bl b, e, v, h, h', hd, he => by
    have hv : v = .bl b := h
    subst hv
    cases e <;> first | (simp [D.dep] at he; done) | (simp [IsW, Is] at h' <;> simp [h'])
  | .int b, e, v, h, h', hd, he => by
    have hv : v = .int b := h
    subst hv
    cases e <;> first | (simp [D.dep] at he; done) | (simp [IsW, Is] at h' <;> simp [h'])
  | .str b, e, v, h, h', hd, he => by
    have hv : v = .str b := h
    subst hv
    cases e <;> first | (simp [D.dep] at he; done) | (simp [IsW, Is] at h' <;> simp [h'])
  | .tup ds, e, v, h, h', hd, he => by
    simp only [D.dep] at hd
    simp only [IsW, Is] at h
    obtain ⟨a, vs, rfl, t, r⟩ := h
    cases e with
    | tup es =>
      simp only [IsW, Is] at h'
      obtain ⟨b, ws, e1, t', r'⟩ := h'
      cases e1
      have e2 := I.tuple_inj t t'
      subst e2
      simp only [D.dep] at he
      rw [Iss.inj I ds es vs r r' (by omega) (by omega)]
    | lst es =>
      obtain ⟨b, ws, e1, t', r'⟩ := h'
      cases e1
      obtain ⟨_, its, _, o2, e2, c2, _⟩ := sql I t'
      obtain ⟨its2, _, ⟨o, e3, c3, _⟩, _⟩ := I.tuple t
      rw [e2] at e3
      cases e3
      rw [c2] at c3
      exact absurd c3 (by simp)
    | ref _ => simp [D.dep] at he
    | _ => simp [IsW, Is] at h'
  | .lst ds, e, v, h, h', hd, he => by
    simp only [D.dep] at hd
    obtain ⟨a, vs, rfl, t, r⟩ := h
    cases e with
    | lst es =>
      obtain ⟨b, ws, e1, t', r'⟩ := h'
      cases e1
      have e2 := I.list_inj (t) (t')
      subst e2
      simp only [D.dep] at he
      rw [Iss.inj I ds es vs r r' (by omega) (by omega)]
    | tup es =>
      simp only [IsW, Is] at h'
      obtain ⟨b, ws, e1, t', r'⟩ := h'
      cases e1
      obtain ⟨_, its, _, o2, e2, c2, _⟩ := sql I t
      obtain ⟨its2, _, ⟨o, e3, c3, _⟩, _⟩ := I.tuple t'
      rw [e2] at e3
      cases e3
      rw [c2] at c3
      exact absurd c3 (by simp)
    | ref _ => simp [D.dep] at he
    | _ => simp [IsW, Is] at h'
theorem Iss.inj (I : Inv X pins σ H s) {A B : Pl} : ∀ (ds es : List D) (vs : List V), Iss X.K A H ds vs → Iss X.K B H es vs → D.deps ds ≤ 100 → D.deps es ≤ 100 → ds = es
  | [], es, vs, h, h', hd, he => by
    have hv : vs = [] := h
    subst hv
    cases es with
    | nil => rfl
    | cons => simp [Iss] at h'
  | d :: ds, es, vs, h, h', hd, he => by
    simp only [D.deps] at hd
    obtain ⟨v, r, rfl, p, q⟩ := h
    cases es with
    | nil => simp [Iss] at h'
    | cons e es =>
      obtain ⟨v', r', e1, p', q'⟩ := h'
      cases e1
      simp only [D.deps] at he
      rw [Is.inj I d e v p.w p'.w (by omega) (by omega), Iss.inj I ds es r q q' (by omega) (by omega)]
end
mutual
theorem D.eq_refl : ∀ d : D, D.eq d d = true
 | .non => rfl
 | .bl b => by simp [D.eq]
 | .int b => by simp [D.eq]
 | .str b => by simp [D.eq]
 | .tup ds => by simp only [D.eq]; exact D.eqs_refl ds
 | .lst ds => by simp only [D.eq]; exact D.eqs_refl ds
 | .ref n => by simp [D.eq]
theorem D.eqs_refl : ∀ d : List D, D.eqs d d = true
 | [] => rfl
 | d :: ds => by simp only [D.eqs, D.eq_refl d, D.eqs_refl ds, Bool.and_self]
end
theorem D.eqs_len : ∀ (ds es : List D), ds.length ≠ es.length → D.eqs ds es = false
  | [], [], h => absurd rfl h
  | [], _ :: _, _ => rfl
  | _ :: _, [], _ => rfl
  | d :: ds, e :: es, h => by
    simp only [D.eqs, D.eqs_len ds es (by simpa using h), Bool.and_false]
theorem D.eqs_all : ∀ (ds es : List D), ds.length = es.length → D.eqs ds es = (List.range ds.length).all fun j => D.eq (ds.getD j .non) (es.getD j .non)
  | [], [], _ => rfl
  | d :: ds, e :: es, h => by
    rw [D.eqs, D.eqs_all ds es (by simpa using h), List.length_cons, List.range_succ_eq_map, List.all_cons, List.all_map]
    rfl
mutual
theorem eqAt (I : Inv X pins σ H s) {A B : Pl} {Ar : Around} : ∀ (d e : D) (v w : V) (u u' : Value), IsW X.K A H d v → IsW X.K B H e w → RelV v u → RelV w u' → Ar.units + d.dep < cLine → d.dep ≤ 100 → e.dep ≤ 100 → SeqAt.EqAt Ar s u u' (D.eq d e)
  | .ref _, e, v, w, u, u', h1, h2, r1, r2, hu, hd, he => by simp [D.dep] at hd
  | .non, e, v, w, u, u', h1, h2, r1, r2, hu, hd, he => by
    have hv : v = .non := h1
    subst hv
    cases r1
    have hu' : Ar.units < cLine := by omega
    cases e with
    | ref _ => simp [D.dep] at he
    | non => have hw : w = .non := h2; subst hw; cases r2; exact SeqAt.EqAt.same _
    | bl b => have hw : w = .bl b := h2; subst hw; cases r2; exact SeqAt.EqAt.none_bool _
    | int b => have hw : w = .int b := h2; subst hw; obtain ⟨t, rfl⟩ := r2; exact SeqAt.EqAt.none_int _ _
    | str b => have hw : w = .str b := h2; subst hw; obtain ⟨t, rfl⟩ := r2; exact SeqAt.EqAt.none_str _ _
    | tup es => obtain ⟨a, vs, rfl, t, _⟩ := h2; cases r2; obtain ⟨its, _, p, _⟩ := I.tuple t; exact SeqAt.EqAt.none_tuple p hu'
    | lst es => obtain ⟨a, vs, rfl, t, _⟩ := h2; cases r2; obtain ⟨_, its, _, p⟩ := sql I t; exact SeqAt.EqAt.none_list p hu'
  | .bl x, e, v, w, u, u', h1, h2, r1, r2, hu, hd, he => by
    have hv : v = .bl x := h1
    subst hv
    cases r1
    have hu' : Ar.units < cLine := by omega
    cases e with
    | ref _ => simp [D.dep] at he
    | non => have hw : w = .non := h2; subst hw; cases r2; exact SeqAt.EqAt.bool_none _
    | bl b => have hw : w = .bl b := h2; subst hw; cases r2; exact SeqAt.EqAt.bool_bool _ _
    | int b => have hw : w = .int b := h2; subst hw; obtain ⟨t, rfl⟩ := r2; exact SeqAt.EqAt.bool_int _ _ _
    | str b => have hw : w = .str b := h2; subst hw; obtain ⟨t, rfl⟩ := r2; exact SeqAt.EqAt.bool_str _ _ _
    | tup es => obtain ⟨a, vs, rfl, t, _⟩ := h2; cases r2; obtain ⟨its, _, p, _⟩ := I.tuple t; exact SeqAt.EqAt.bool_tuple _ p hu'
    | lst es => obtain ⟨a, vs, rfl, t, _⟩ := h2; cases r2; obtain ⟨_, its, _, p⟩ := sql I t; exact SeqAt.EqAt.bool_list _ p hu'
  | .int x, e, v, w, u, u', h1, h2, r1, r2, hu, hd, he => by
    have hv : v = .int x := h1
    subst hv
    obtain ⟨t0, rfl⟩ := r1
    have hu' : Ar.units < cLine := by omega
    cases e with
    | ref _ => simp [D.dep] at he
    | non => have hw : w = .non := h2; subst hw; cases r2; exact SeqAt.EqAt.int_none _ _
    | bl b => have hw : w = .bl b := h2; subst hw; cases r2; exact SeqAt.EqAt.int_bool _ _ _
    | int b => have hw : w = .int b := h2; subst hw; obtain ⟨t, rfl⟩ := r2; exact SeqAt.EqAt.int_int _ _ _ _
    | str b => have hw : w = .str b := h2; subst hw; obtain ⟨t, rfl⟩ := r2; exact SeqAt.EqAt.int_str _ _ _ _
    | tup es => obtain ⟨a, vs, rfl, t, _⟩ := h2; cases r2; obtain ⟨its, _, p, _⟩ := I.tuple t; exact SeqAt.EqAt.int_tuple _ _ p hu'
    | lst es => obtain ⟨a, vs, rfl, t, _⟩ := h2; cases r2; obtain ⟨_, its, _, p⟩ := sql I t; exact SeqAt.EqAt.int_list _ _ p hu'
  | .str x, e, v, w, u, u', h1, h2, r1, r2, hu, hd, he => by
    have hv : v = .str x := h1
    subst hv
    obtain ⟨t0, rfl⟩ := r1
    have hu' : Ar.units < cLine := by omega
    cases e with
    | ref _ => simp [D.dep] at he
    | non => have hw : w = .non := h2; subst hw; cases r2; exact SeqAt.EqAt.str_none _ _
    | bl b => have hw : w = .bl b := h2; subst hw; cases r2; exact SeqAt.EqAt.str_bool _ _ _
    | int b => have hw : w = .int b := h2; subst hw; obtain ⟨t, rfl⟩ := r2; exact SeqAt.EqAt.str_int _ _ _ _
    | str b => have hw : w = .str b := h2; subst hw; obtain ⟨t, rfl⟩ := r2; exact SeqAt.EqAt.str_str _ _ _ _
    | tup es => obtain ⟨a, vs, rfl, t, _⟩ := h2; cases r2; obtain ⟨its, _, p, _⟩ := I.tuple t; exact SeqAt.EqAt.str_tuple _ _ p hu'
    | lst es => obtain ⟨a, vs, rfl, t, _⟩ := h2; cases r2; obtain ⟨_, its, _, p⟩ := sql I t; exact SeqAt.EqAt.str_list _ _ p hu'
  | .tup ds, e, v, w, u, u', h1, h2, r1, r2, hu, hd, he => by
    have h1' := h1
    have hd' := hd
    simp only [D.dep] at hu hd
    have hu' : Ar.units < cLine := by omega
    obtain ⟨a, vs, rfl, t, q⟩ := h1
    cases r1
    obtain ⟨its, rv, p, hz⟩ := I.tuple t
    cases e with
    | ref _ => simp [D.dep] at he
    | non => have hw : w = .non := h2; subst hw; cases r2; exact SeqAt.EqAt.tuple_none p hu'
    | bl b => have hw : w = .bl b := h2; subst hw; cases r2; exact SeqAt.EqAt.tuple_bool _ p hu'
    | int b => have hw : w = .int b := h2; subst hw; obtain ⟨t, rfl⟩ := r2; exact SeqAt.EqAt.tuple_int _ _ p hu'
    | str b => have hw : w = .str b := h2; subst hw; obtain ⟨t, rfl⟩ := r2; exact SeqAt.EqAt.tuple_str _ _ p hu'
    | tup es =>
      have h2' := h2
      have he' := he
      simp only [D.dep] at he
      obtain ⟨b, ws, rfl, t', q'⟩ := h2
      cases r2
      by_cases hab : a = b
      · subst hab
        rw [Is.inj I _ _ _ h1' h2' hd' he', D.eq_refl]
        exact SeqAt.EqAt.same _
      · obtain ⟨its', rv', p', hz'⟩ := I.tuple t'
        refine SeqAt.EqAt.of_refs hab ?_
        have l1 : its.toArray.size = ds.length := by rw [List.size_toArray, ← rv.length, q.len]
        have l2 : its'.toArray.size = es.length := by rw [List.size_toArray, ← rv'.length, q'.len]
        have key := SeqAt.RcAt.tuples (A := Ar) (s := s) (e := fun j => D.eq (ds.getD j .non) (es.getD j .non)) p p' hu' fun j j1 j2 => by
          simpa using eqAts I ds es vs ws its its' q q' rv rv' (Ar := Ar.in1) (by show Ar.units + 1 + _ < _; omega) (by omega) (by omega) j (by simpa using j1) (by simpa using j2)
        rw [l1, l2] at key
        by_cases hl : ds.length = es.length
        · rw [show D.eq (.tup ds) (.tup es) = D.eqs ds es from rfl, D.eqs_all ds es hl]
          rw [hl, Nat.min_self, beq_self_eq_true, Bool.and_true] at key
          rw [hl]
          exact key
        · rw [show D.eq (.tup ds) (.tup es) = D.eqs ds es from rfl, D.eqs_len ds es hl]
          rw [beq_eq_false_iff_ne.mpr hl, Bool.and_false] at key
          exact key
    | lst es => obtain ⟨b, ws, rfl, t', _⟩ := h2; cases r2; obtain ⟨_, its', _, p'⟩ := sql I t'; exact SeqAt.EqAt.tuple_list p p' hu'
  | .lst ds, e, v, w, u, u', h1, h2, r1, r2, hu, hd, he => by
    have h1' := h1
    have hd' := hd
    simp only [D.dep] at hu hd
    have hu' : Ar.units < cLine := by omega
    obtain ⟨a, vs, rfl, t, q⟩ := h1
    cases r1
    obtain ⟨hz, its, rv, p⟩ := sql I t
    cases e with
    | ref _ => simp [D.dep] at he
    | non => have hw : w = .non := h2; subst hw; cases r2; exact SeqAt.EqAt.list_none p hu'
    | bl b => have hw : w = .bl b := h2; subst hw; cases r2; exact SeqAt.EqAt.list_bool _ p hu'
    | int b => have hw : w = .int b := h2; subst hw; obtain ⟨t, rfl⟩ := r2; exact SeqAt.EqAt.list_int _ _ p hu'
    | str b => have hw : w = .str b := h2; subst hw; obtain ⟨t, rfl⟩ := r2; exact SeqAt.EqAt.list_str _ _ p hu'
    | tup es => obtain ⟨b, ws, rfl, t', _⟩ := h2; cases r2; obtain ⟨its', _, p', _⟩ := I.tuple t'; exact SeqAt.EqAt.list_tuple p p' hu'
    | lst es =>
      have h2' := h2
      have he' := he
      simp only [D.dep] at he
      obtain ⟨b, ws, rfl, t', q'⟩ := h2
      cases r2
      by_cases hab : a = b
      · subst hab
        rw [Is.inj I _ _ _ h1' h2' hd' he', D.eq_refl]
        exact SeqAt.EqAt.same _
      · obtain ⟨hz', its', rv', p'⟩ := sql I t'
        refine SeqAt.EqAt.of_refs hab ?_
        have l1 : its.toArray.size = ds.length := by rw [List.size_toArray, ← rv.length, q.len]
        have l2 : its'.toArray.size = es.length := by rw [List.size_toArray, ← rv'.length, q'.len]
        by_cases hl : ds.length = es.length
        · have key := SeqAt.RcAt.lists (A := Ar) (s := s) (e := fun j => D.eq (ds.getD j .non) (es.getD j .non)) p p' (by rw [l1, l2, hl]) hu' fun j j1 j2 => by
            simpa using eqAts I ds es vs ws its its' q q' rv rv' (Ar := Ar.in1) (by show Ar.units + 1 + _ < _; omega) (by omega) (by omega) j (by simpa using j1) (by simpa using j2)
          rw [show D.eq (.lst ds) (.lst es) = D.eqs ds es from rfl, D.eqs_all ds es hl]
          rw [l1] at key
          exact key
        · rw [show D.eq (.lst ds) (.lst es) = D.eqs ds es from rfl, D.eqs_len ds es hl]
          exact SeqAt.RcAt.lists_lengths p p' (by rw [l1, l2]; simpa using hl) hu'
theorem eqAts (I : Inv X pins σ H s) {A B : Pl} {Ar : Around} : ∀ (ds es : List D) (vs ws : List V) (its its' : List Value), Iss X.K A H ds vs → Iss X.K B H es ws → Vals vs its → Vals ws its' → Ar.units + D.deps ds < cLine → D.deps ds ≤ 100 → D.deps es ≤ 100 →
    ∀ (j : Nat) (h1 : j < its.length) (h2 : j < its'.length), SeqAt.EqAt Ar s its[j] its'[j] (D.eq (ds.getD j .non) (es.getD j .non))
  | [], es, vs, ws, its, its', h, h', r, r', hu, hd, he, j, j1, j2 => by
    have hv : vs = [] := h
    subst hv
    cases r
    exact absurd j1 (Nat.not_lt_zero _)
  | d :: ds, [], vs, ws, its, its', h, h', r, r', hu, hd, he, j, j1, j2 => by
    have hv : ws = [] := h'
    subst hv
    cases r'
    exact absurd j2 (Nat.not_lt_zero _)
  | d :: ds, e :: es, vs, ws, its, its', h, h', r, r', hu, hd, he, j, j1, j2 => by
    obtain ⟨v, vr, rfl, p, q⟩ := h
    obtain ⟨w, wr, rfl, p', q'⟩ := h'
    simp only [D.deps] at hu hd he
    cases r with
    | cons r1 r2 =>
      cases r' with
      | cons r1' r2' =>
        cases j with
        | zero => exact eqAt I d e v w _ _ p.w p'.w r1 r1' (by omega) (by omega) (by omega)
        | succ j => exact eqAts I ds es vr wr _ _ q q' r2 r2' (by omega) (by omega) (by omega) j (by simpa using j1) (by simpa using j2)
end
theorem scal_flat {d e : D} {A B : Pl} {K : PySem.W.Frag} {v w : V} (fd : d.flat = true) (fe : e.flat = true) (h1 : IsW K A H d v) (h2 : IsW K B H e w) :
  (scal v w = true ∧ D.eq d e = decide (v = w)) ∨ (∃ a i, v = .bl a ∧ w = .int i ∧ D.eq d e = ((if a then 1 else 0) == i)) ∨ ∃ a i, v = .int i ∧ w = .bl a ∧ D.eq d e = (i == (if a then 1 else 0)) := by
 cases d <;> cases e <;> simp only [D.flat, Bool.false_eq_true] at fd fe <;> simp only [IsW, Is] at h1 h2 <;> subst h1 h2 <;> simp [scal, D.eq]
 all_goals first | rfl | (rw [Bool.eq_iff_iff]; simp)
def rEqD (K : PySem.W.Frag) (neg : Bool) : R2 := fun x y H Q => ∃ (A B : Pl) (d e : D), IsW K A H d x ∧ IsW K B H e y ∧ eqOk d e = true ∧ d.dep ≤ 50 ∧ Q (.bl (if neg then !D.eq d e else D.eq d e)) H
theorem op_eqD (hu : X.A.units + 60 < cLine) : OpR X (compareOp .Eq) (rEqD X.K false) := by
  intro pins s σ H x y v u Q I rx ry h
  obtain ⟨A, B, d, e, h1, h2, hk, hd, q⟩ := h
  have q : Q (.bl (D.eq d e)) H := q
  have fin : SeqAt.RcAt X.A s v u (D.eq d e) → wpAny (model X.prog X.w) X.A (compareOp .Eq v u) (EP X pins σ Q) X.xe s := fun r => EqBoolInt.of_rc r ⟨.bl _, H, I, rfl, q⟩
  have hu' : X.A.units < cLine := by omega
  cases fd : d.flat with
  | true =>
    simp only [eqOk, Bool.and_eq_true, decide_eq_true_eq, beq_iff_eq] at hk
    have fe : e.flat = true := hk.1.symm.trans fd
    rcases scal_flat fd fe h1 h2 with ⟨sc, eq⟩ | ⟨a, i, rfl, rfl, eq⟩ | ⟨a, i, rfl, rfl, eq⟩
    · exact op_eq pins s σ H x y v u Q I rx ry ⟨sc, by rw [← eq]; exact q⟩
    · cases rx
      obtain ⟨t, rfl⟩ := ry
      exact EqBoolInt.eq_bool_int ⟨.bl _, H, I, rfl, by rw [← eq]; exact q⟩
    · cases ry
      obtain ⟨t, rfl⟩ := rx
      exact EqBoolInt.eq_int_bool ⟨.bl _, H, I, rfl, by rw [← eq]; exact q⟩
  | false =>
    simp only [eqOk, Bool.and_eq_true, decide_eq_true_eq, beq_iff_eq] at hk
    have he := hk.2
    have fe : e.flat = false := hk.1.symm.trans fd
    cases d with
    | tup ds =>
      obtain ⟨a, vs, rfl, t, p⟩ := h1
      cases rx
      obtain ⟨its, rv, pt, hz⟩ := I.tuple t
      simp only [D.dep] at hd
      cases e with
      | tup es =>
        obtain ⟨b, ws, rfl, t', p'⟩ := h2
        cases ry
        obtain ⟨its', rv', pt', hz'⟩ := I.tuple t'
        have l1 : its.toArray.size = ds.length := by rw [List.size_toArray, ← rv.length, p.len]
        have l2 : its'.toArray.size = es.length := by rw [List.size_toArray, ← rv'.length, p'.len]
        have key := SeqAt.RcAt.tuples (A := X.A) (s := s) (e := fun j => D.eq (ds.getD j .non) (es.getD j .non)) pt pt' hu' fun j j1 j2 => by
          simpa using eqAts I ds es vs ws its its' p p' rv rv' (Ar := X.A.in1) (by show X.A.units + 1 + _ < _; omega) (by omega) (by simp only [D.dep] at he; omega) j (by simpa using j1) (by simpa using j2)
        rw [l1, l2] at key
        refine fin ?_
        by_cases hl : ds.length = es.length
        · rw [show D.eq (.tup ds) (.tup es) = D.eqs ds es from rfl, D.eqs_all ds es hl]
          rw [hl, Nat.min_self, beq_self_eq_true, Bool.and_true] at key
          rw [hl]
          exact key
        · rw [show D.eq (.tup ds) (.tup es) = D.eqs ds es from rfl, D.eqs_len ds es hl]
          rw [beq_eq_false_iff_ne.mpr hl, Bool.and_false] at key
          exact key
      | lst es =>
        obtain ⟨b, ws, rfl, t', p'⟩ := h2
        cases ry
        obtain ⟨_, its', rv', e'⟩ := sql I t'
        exact fin (SeqAt.RcAt.tuple_list pt e' hu')
      | ref _ => simp [D.dep] at he
      | _ => cases fe
    | lst ds =>
      obtain ⟨a, vs, rfl, t, p⟩ := h1
      cases rx
      obtain ⟨hz, its, rv, pt⟩ := sql I t
      simp only [D.dep] at hd
      cases e with
      | tup es =>
        obtain ⟨b, ws, rfl, t', p'⟩ := h2
        cases ry
        obtain ⟨its', rv', pt', hz'⟩ := I.tuple t'
        exact fin (SeqAt.RcAt.list_tuple pt pt' hu')
      | lst es =>
        obtain ⟨b, ws, rfl, t', p'⟩ := h2
        cases ry
        obtain ⟨_, its', rv', pt'⟩ := sql I t'
        have l1 : its.toArray.size = ds.length := by rw [List.size_toArray, ← rv.length, p.len]
        have l2 : its'.toArray.size = es.length := by rw [List.size_toArray, ← rv'.length, p'.len]
        refine fin ?_
        by_cases hl : ds.length = es.length
        · have key := SeqAt.RcAt.lists (A := X.A) (s := s) (e := fun j => D.eq (ds.getD j .non) (es.getD j .non)) pt pt' (by rw [l1, l2, hl]) hu' fun j j1 j2 => by
            simpa using eqAts I ds es vs ws its its' p p' rv rv' (Ar := X.A.in1) (by show X.A.units + 1 + _ < _; omega) (by omega) (by simp only [D.dep] at he; omega) j (by simpa using j1) (by simpa using j2)
          rw [show D.eq (.lst ds) (.lst es) = D.eqs ds es from rfl, D.eqs_all ds es hl]
          rw [l1] at key
          exact key
        · rw [show D.eq (.lst ds) (.lst es) = D.eqs ds es from rfl, D.eqs_len ds es hl]
          exact SeqAt.RcAt.lists_lengths pt pt' (by rw [l1, l2]; simpa using hl) hu'
      | ref _ => simp [D.dep] at he
      | _ => cases fe
    | ref _ => simp [D.dep] at hd
    | _ => cases fd
theorem op_neD (hu : X.A.units + 60 < cLine) : OpR X (compareOp .NotEq) (rEqD X.K true) := by
  intro pins s σ H x y v u Q I rx ry h
  obtain ⟨A, B, d, e, h1, h2, hk, hd, q⟩ := h
  have q : Q (.bl (!D.eq d e)) H := q
  have fin : SeqAt.RcNeAt X.A s v u (!D.eq d e) → wpAny (model X.prog X.w) X.A (compareOp .NotEq v u) (EP X pins σ Q) X.xe s := fun r => EqBoolInt.of_rcne r ⟨.bl _, H, I, rfl, q⟩
  have hu' : X.A.units < cLine := by omega
  cases fd : d.flat with
  | true =>
    simp only [eqOk, Bool.and_eq_true, decide_eq_true_eq, beq_iff_eq] at hk
    have fe : e.flat = true := hk.1.symm.trans fd
    rcases scal_flat fd fe h1 h2 with ⟨sc, eq⟩ | ⟨a, i, rfl, rfl, eq⟩ | ⟨a, i, rfl, rfl, eq⟩
    · exact op_ne pins s σ H x y v u Q I rx ry ⟨sc, by rw [← eq]; exact q⟩
    · cases rx
      obtain ⟨t, rfl⟩ := ry
      exact EqBoolInt.ne_bool_int ⟨.bl _, H, I, rfl, by rw [← eq]; exact q⟩
    · cases ry
      obtain ⟨t, rfl⟩ := rx
      exact EqBoolInt.ne_int_bool ⟨.bl _, H, I, rfl, by rw [← eq]; exact q⟩
  | false =>
    simp only [eqOk, Bool.and_eq_true, decide_eq_true_eq, beq_iff_eq] at hk
    have he := hk.2
    have fe : e.flat = false := hk.1.symm.trans fd
    cases d with
    | tup ds =>
      obtain ⟨a, vs, rfl, t, p⟩ := h1
      cases rx
      obtain ⟨its, rv, pt, hz⟩ := I.tuple t
      simp only [D.dep] at hd
      cases e with
      | tup es =>
        obtain ⟨b, ws, rfl, t', p'⟩ := h2
        cases ry
        obtain ⟨its', rv', pt', hz'⟩ := I.tuple t'
        have l1 : its.toArray.size = ds.length := by rw [List.size_toArray, ← rv.length, p.len]
        have l2 : its'.toArray.size = es.length := by rw [List.size_toArray, ← rv'.length, p'.len]
        have key := SeqAt.RcNeAt.tuples (A := X.A) (s := s) (e := fun j => D.eq (ds.getD j .non) (es.getD j .non)) pt pt' hu' fun j j1 j2 => by
          simpa using eqAts I ds es vs ws its its' p p' rv rv' (Ar := X.A.in1) (by show X.A.units + 1 + _ < _; omega) (by omega) (by simp only [D.dep] at he; omega) j (by simpa using j1) (by simpa using j2)
        rw [l1, l2] at key
        refine fin ?_
        by_cases hl : ds.length = es.length
        · rw [show D.eq (.tup ds) (.tup es) = D.eqs ds es from rfl, D.eqs_all ds es hl]
          rw [hl, Nat.min_self, beq_self_eq_true, Bool.and_true] at key
          rw [hl]
          exact key
        · rw [show D.eq (.tup ds) (.tup es) = D.eqs ds es from rfl, D.eqs_len ds es hl]
          rw [beq_eq_false_iff_ne.mpr hl, Bool.and_false] at key
          exact key
      | lst es =>
        obtain ⟨b, ws, rfl, t', p'⟩ := h2
        cases ry
        obtain ⟨_, its', rv', e'⟩ := sql I t'
        exact fin (SeqAt.RcNeAt.tuple_list pt e' hu')
      | ref _ => simp [D.dep] at he
      | _ => cases fe
    | lst ds =>
      obtain ⟨a, vs, rfl, t, p⟩ := h1
      cases rx
      obtain ⟨hz, its, rv, pt⟩ := sql I t
      simp only [D.dep] at hd
      cases e with
      | tup es =>
        obtain ⟨b, ws, rfl, t', p'⟩ := h2
        cases ry
        obtain ⟨its', rv', pt', hz'⟩ := I.tuple t'
        exact fin (SeqAt.RcNeAt.list_tuple pt pt' hu')
      | lst es =>
        obtain ⟨b, ws, rfl, t', p'⟩ := h2
        cases ry
        obtain ⟨_, its', rv', pt'⟩ := sql I t'
        have l1 : its.toArray.size = ds.length := by rw [List.size_toArray, ← rv.length, p.len]
        have l2 : its'.toArray.size = es.length := by rw [List.size_toArray, ← rv'.length, p'.len]
        refine fin ?_
        by_cases hl : ds.length = es.length
        · have key := SeqAt.RcNeAt.lists (A := X.A) (s := s) (e := fun j => D.eq (ds.getD j .non) (es.getD j .non)) pt pt' (by rw [l1, l2, hl]) hu' fun j j1 j2 => by
            simpa using eqAts I ds es vs ws its its' p p' rv rv' (Ar := X.A.in1) (by show X.A.units + 1 + _ < _; omega) (by omega) (by simp only [D.dep] at he; omega) j (by simpa using j1) (by simpa using j2)
          rw [show D.eq (.lst ds) (.lst es) = D.eqs ds es from rfl, D.eqs_all ds es hl]
          rw [l1] at key
          exact key
        · rw [show D.eq (.lst ds) (.lst es) = D.eqs ds es from rfl, D.eqs_len ds es hl]
          exact SeqAt.RcNeAt.lists_lengths pt pt' (by rw [l1, l2]; simpa using hl) hu'
      | ref _ => simp [D.dep] at he
      | _ => cases fe
    | ref _ => simp [D.dep] at hd
    | _ => cases fd
def cpP : Cp → CmpOp
 | .eq => .Eq
 | .ne => .NotEq
 | .lt => .Lt
 | .le => .LtE
 | .gt => .Gt
 | .ge => .GtE
 | .isin => .In
 | .notin => .NotIn
 | .same => .Is
 | .other => .IsNot
def rCp (K : PySem.W.Frag) : Cp → R2
 | .eq => rEqD K false
 | .ne => rEqD K true
 | .lt => rI0 fun i j => .bl (decide (i < j))
 | .le => rI0 fun i j => .bl (decide (i ≤ j))
 | .gt => rI0 fun i j => .bl (decide (j < i))
 | .ge => rI0 fun i j => .bl (decide (j ≤ i))
 | .isin => fun x y H Q => (∃ i j, x = .str i ∧ y = .str j ∧ Q (.bl (!(Builtin.Str.occurrences j i 0 j.length 1).isEmpty)) H) ∨ rIn K false x y H Q
 | .notin => fun x y H Q => (∃ i j, x = .str i ∧ y = .str j ∧ Q (.bl (!(!(Builtin.Str.occurrences j i 0 j.length 1).isEmpty))) H) ∨ rIn K true x y H Q
 | .same => fun x y H Q => (y = .non ∧ Q (.bl (decide (x = .non))) H) ∨ (∃ b, y = .bl b ∧ Q (.bl (decide (x = .bl b))) H)
 | .other => fun x y H Q => (y = .non ∧ Q (.bl (!decide (x = .non))) H) ∨ (∃ b, y = .bl b ∧ Q (.bl (!decide (x = .bl b))) H)
theorem cp_ok (hu : X.A.units + 60 < cLine) : ∀ c : Cp, OpR X (compareOp (cpP c)) (rCp X.K c)
 | .eq => op_eqD hu
 | .ne => op_neD hu
 | .lt => op_lt
 | .le => op_le
 | .gt => op_gt
 | .ge => op_ge
 | .isin => op_in_str.or op_in_seq
 | .notin => op_notin_str.or op_notIn_seq
 | .same => op_isN.or op_isB
 | .other => op_notN.or op_isnotB
theorem flat_V {K : PySem.W.Frag} {A : Pl} {d : D} {v : V} (f : d.flat = true) (h : Is K A H d v) : flatV v = true := by
 cases d <;> simp only [D.flat, Bool.false_eq_true] at f <;> simp only [Is] at h <;> subst h <;> rfl
theorem eq_V {K : PySem.W.Frag} {A B : Pl} {d e : D} {v w : V} (f : d.flat = true) (g : e.flat = true) (h : Is K A H d v) (h' : Is K B H e w) : eqV v w = D.eq d e := by
 cases d <;> cases e <;> simp only [D.flat, Bool.false_eq_true] at f g <;> simp only [Is] at h h' <;> subst h h' <;> rfl
theorem flats_V {K : PySem.W.Frag} {A : Pl} : ∀ {ds : List D} {vs : List V}, ds.all D.flat = true → Iss K A H ds vs → vs.all flatV = true
  | [], _, _, h => by rw [show _ = [] from h]; rfl
  | d :: ds, _, f, h => by
    obtain ⟨v, r, rfl, p, q⟩ := h
    rw [List.all_cons, Bool.and_eq_true] at f
    rw [List.all_cons, flat_V f.1 p, flats_V f.2 q]
    rfl
theorem in_V {K : PySem.W.Frag} {A B : Pl} {e : D} {w : V} (g : e.flat = true) (h' : Is K B H e w) : ∀ {ds : List D} {vs : List V}, ds.all D.flat = true → Iss K A H ds vs → inV w vs = ds.any fun y => D.eq y e
  | [], _, _, h => by rw [show _ = [] from h]; rfl
  | d :: ds, _, f, h => by
    obtain ⟨v, r, rfl, p, q⟩ := h
    rw [List.all_cons, Bool.and_eq_true] at f
    have := in_V g h' f.2 q
    unfold inV at this ⊢
    rw [List.any_cons, List.any_cons, this, eq_V f.1 g p h']
theorem cmp_ok {K : PySem.W.Frag} {A B : Pl} {c : Cp} {d e : D} {v w : V} {b : Bool} {Q : VK} (h : cmpD c d e = some b) (h1 : IsW K A H d v) (h2 : IsW K B H e w) (q : Q (.bl b) H) : rCp K c v w H Q := by
  cases c
  case eq =>
    simp only [cmpD, cEq, cNe] at h
    split at h
    · rename_i hc; cases h; exact ⟨A, B, d, e, h1, h2, hc.1, hc.2, q⟩
    · cases h
  case ne =>
    simp only [cmpD, cEq, cNe] at h
    split at h
    · rename_i hc; cases h; exact ⟨A, B, d, e, h1, h2, hc.1, hc.2, q⟩
    · cases h
  case isin =>
    cases e with
    | str j =>
      cases d <;> simp only [cmpD, cOrd, cIn, cNin, cSame, cOther, reduceCtorEq] at h
      simp only [IsW, Is] at h1 h2
      subst h1 h2
      cases h
      exact .inl ⟨_, _, rfl, rfl, q⟩
    | lst xs =>
      have h' : (if (d.flat && xs.all D.flat) = true then some (xs.any fun y => D.eq y d) else none) = some b := by cases d <;> exact h
      split at h'
      · rename_i hc
        rw [Bool.and_eq_true] at hc
        cases h'
        obtain ⟨a, vs, rfl, t, p⟩ := h2
        have h1' : Is K A H d v := by cases d <;> first | exact h1 | cases hc.1
        refine .inr ⟨a, vs, rfl, .inl (t), flat_V hc.1 h1', flats_V hc.2 p, ?_⟩
        rw [in_V hc.1 h1' hc.2 p]
        exact q
      · cases h'
    | tup xs =>
      have h' : (if (d.flat && xs.all D.flat) = true then some (xs.any fun y => D.eq y d) else none) = some b := by cases d <;> exact h
      split at h'
      · rename_i hc
        rw [Bool.and_eq_true] at hc
        cases h'
        obtain ⟨a, vs, rfl, t, p⟩ := h2
        have h1' : Is K A H d v := by cases d <;> first | exact h1 | cases hc.1
        refine .inr ⟨a, vs, rfl, .inr t, flat_V hc.1 h1', flats_V hc.2 p, ?_⟩
        rw [in_V hc.1 h1' hc.2 p]
        exact q
      · cases h'
    | _ => cases d <;> simp only [cmpD, cOrd, cIn, cNin, cSame, cOther, reduceCtorEq] at h
  case notin =>
    cases e with
    | str j =>
      cases d <;> simp only [cmpD, cOrd, cIn, cNin, cSame, cOther, reduceCtorEq] at h
      simp only [IsW, Is] at h1 h2
      subst h1 h2
      cases h
      exact .inl ⟨_, _, rfl, rfl, q⟩
    | lst xs =>
      have h' : (if (d.flat && xs.all D.flat) = true then some (!xs.any fun y => D.eq y d) else none) = some b := by cases d <;> exact h
      split at h'
      · rename_i hc
        rw [Bool.and_eq_true] at hc
        cases h'
        obtain ⟨a, vs, rfl, t, p⟩ := h2
        have h1' : Is K A H d v := by cases d <;> first | exact h1 | cases hc.1
        refine .inr ⟨a, vs, rfl, .inl (t), flat_V hc.1 h1', flats_V hc.2 p, ?_⟩
        rw [in_V hc.1 h1' hc.2 p]
        exact q
      · cases h'
    | tup xs =>
      have h' : (if (d.flat && xs.all D.flat) = true then some (!xs.any fun y => D.eq y d) else none) = some b := by cases d <;> exact h
      split at h'
      · rename_i hc
        rw [Bool.and_eq_true] at hc
        cases h'
        obtain ⟨a, vs, rfl, t, p⟩ := h2
        have h1' : Is K A H d v := by cases d <;> first | exact h1 | cases hc.1
        refine .inr ⟨a, vs, rfl, .inr t, flat_V hc.1 h1', flats_V hc.2 p, ?_⟩
        rw [in_V hc.1 h1' hc.2 p]
        exact q
      · cases h'
    | _ => cases d <;> simp only [cmpD, cOrd, cIn, cNin, cSame, cOther, reduceCtorEq] at h
  case same =>
    cases d <;> cases e <;> simp only [cmpD, cOrd, cIn, cNin, cSame, cOther, reduceCtorEq] at h <;> cases h <;> simp only [IsW, Is] at h1 h2
    all_goals first
      | (subst h1 h2; first | exact .inr ⟨_, rfl, by rw [dec_bl]; exact q⟩ | exact .inl ⟨rfl, by simpa using q⟩ | exact .inr ⟨_, rfl, by simpa using q⟩)
      | (obtain ⟨a, vs, rfl, _⟩ := h1; subst h2; first | exact .inl ⟨rfl, by simpa using q⟩ | exact .inr ⟨_, rfl, by simpa using q⟩)
  case other =>
    cases d <;> cases e <;> simp only [cmpD, cOrd, cIn, cNin, cSame, cOther, reduceCtorEq] at h <;> cases h <;> simp only [IsW, Is] at h1 h2
    all_goals first
      | (subst h1 h2; first | exact .inr ⟨_, rfl, by rw [dec_bl]; exact q⟩ | exact .inl ⟨rfl, by simpa using q⟩ | exact .inr ⟨_, rfl, by simpa using q⟩)
      | (obtain ⟨a, vs, rfl, _⟩ := h1; subst h2; first | exact .inl ⟨rfl, by simpa using q⟩ | exact .inr ⟨_, rfl, by simpa using q⟩)
  all_goals
    cases d <;> cases e <;> simp only [cmpD, cOrd, cIn, cNin, cSame, cOther, reduceCtorEq] at h
    simp only [IsW, Is] at h1 h2
    subst h1 h2
    cases h
    exact ⟨_, _, rfl, rfl, q⟩
end
end E3
namespace E3
open PySem PySem.Spec PyProof.Rows L2
inductive Mode where
 | val | bor
def XOk (mg : Str → Option Value) (H : Hp) (c : Str) (n : Int) (v : V) : Prop := ∃ a C dx, v = .ref a ∧ mg c = some (.ref C) ∧ H a = some (xo a C dx false) ∧
 match dx with
 | none => n = 0
 | some d => ∃ fs, H d = some (.xd fs) ∧ fs.lookup ("at" : Str) = some (.int (n - 1)) ∧ n ≠ 0
theorem XOk.lt {mg : Str → Option Value} {P P' : Pl} {H H' : Hp} {c : Str} {n : Int} {v : V} (l : Lt P H P' H') (h : XOk mg H c n v) : XOk mg H' c n v := by
  obtain ⟨a, C, dx, e, m, ea, q⟩ := h
  refine ⟨a, C, dx, e, m, l.keep _ _ ea (.inl (.inr (.inr (.inl ⟨_, rfl⟩)))), ?_⟩
  cases dx with
  | none => exact q
  | some d =>
    obtain ⟨fs, ed, el⟩ := q
    exact ⟨fs, l.keep _ _ ed (.inl (.inr (.inr (.inr ⟨_, rfl⟩)))), el⟩
def SlotOk (K : PySem.W.Frag) (mg : Str → Option Value) (P : Pl) (H : Hp) (o : Option Addr) (sv : Option V) : Slot → Prop
 | .un => True
 | .val d => ∃ v, sv = some v ∧ Is K P H d v
 | .own ds => ∃ a vs, o = some a ∧ sv = some (.ref a) ∧ H a = some (.lst vs) ∧ Iss K P H ds vs
 | .exc c n => ∃ v, sv = some v ∧ XOk mg H c n v
structure Ok (K : PySem.W.Frag) (mg : Str → Option Value) (P0 : Pl) (H0 : Hp) (P : Pl) (O : List (Option Addr)) (H : Hp) (M : Mm) (st : L2.St) (env : Env) : Prop where
 hk : Hk K mg P H M
 base : LtE P0 H0 P H
 b0 : ∀ a, P0.bd a → H0 a ≠ none
 slot : ∀ (i : Nat) s, env[i]? = some s → SlotOk K mg P H (O[i]?).join (st[i]?).join s
 own : ∀ a, some a ∈ O → P.bd a ∧ (∀ k, k < P.n → P.io k ≠ a) ∧ H0 a = none
 inj : ∀ (i j : Nat) a, O[i]? = some (some a) → O[j]? = some (some a) → i = j
 olen : O.length = env.length
 slen : st.length = env.length
def IsM (K : PySem.W.Frag) (P : Pl) (H : Hp) (m : Mode) (d : D) (v : V) : Prop := match m with
 | .val => Is K P H d v
 | .bor => IsB K P H d v
inductive Res where
 | v (d : D) | x (c : Str) (n : Int)
abbrev O := Option (Res × Mm)
abbrev E := Env → Mm → O
def bnd (o : O) (k : D → Mm → O) : O := match o with
 | some (.v d, M) => k d M
 | some (.x c n, M) => some (.x c n, M)
 | none => none
theorem bnd_inv {o : O} {k : D → Mm → O} {r : Res} {M' : Mm} (h : bnd o k = some (r, M')) : (∃ d M, o = some (.v d, M) ∧ k d M = some (r, M')) ∨ ∃ c n, o = some (.x c n, M') ∧ r = .x c n := by
 unfold bnd at h
 split at h
 ·exact .inl ⟨_, _, rfl, h⟩
 ·cases h; exact .inr ⟨_, _, rfl, rfl⟩
 ·cases h
abbrev XW := Pl → Hp → Mm → Str → Int → Prop
section
variable {K : PySem.W.Frag} {mg : Str → Option Value} {P0 P P' : Pl} {H0 H H' : Hp} {M M' : Mm} {Os : List (Option Addr)} {st : L2.St} {env : Env} {d : D} {v : V} {m : Mode}
theorem Is.b (h : Hk K mg P H M) (i : Is K P H d v) : IsB K P H d v := by
  cases d with
  | lst ds =>
    obtain ⟨a, vs, e, r, q⟩ := i
    exact ⟨a, vs, e, r.imp (fun ⟨n, r⟩ => ⟨fun k hk z => n (z ▸ h.bd k hk), r⟩) id, q⟩
  | _ => exact i
theorem IsM.of (h : Hk K mg P H M) (i : Is K P H d v) : IsM K P H m d v := by
 cases m with
 | val => exact i
 | bor => exact i.b h
theorem IsM.b (h : Hk K mg P H M) (i : IsM K P H m d v) : IsB K P H d v := by
 cases m with
 | val => exact Is.b h i
 | bor => exact i
theorem LtE.nc (l : LtE P H P' H') {a : Addr} {o : HO} (e : H a = some o) (n : ∀ k, k < P.n → P.io k ≠ a) : ∀ k, k < P'.n → P'.io k ≠ a := fun k hk z => by
 rcases Nat.lt_or_ge k P.n with q | q
 ·rw [l.io k q] at z
  exact n k q z
 ·rw [← z, l.nw k q hk] at e
  cases e
theorem IsB.lt (l : LtE P H P' H') (h : Hk K mg P H M) (i : IsB K P H d v) : IsB K P' H' d v := by
  cases d with
  | lst ds =>
    obtain ⟨a, vs, e, r, q⟩ := i
    refine ⟨a, vs, e, r.imp (fun ⟨n, r⟩ => ?_) id, Iss.lt (l.lt h) q⟩
    obtain ⟨o, eo⟩ := rd_some r
    refine ⟨l.nc eo n, ?_⟩
    rcases r with r | ⟨o', r⟩
    · exact .inl (l.keep _ _ r n)
    · exact .inr ⟨o', l.keep _ _ r n⟩
  | _ => exact Is.lt (l.lt h) i
theorem Ok.next (k : Ok K mg P0 H0 P Os H M st env) (l : LtE P H P' H') (h : Hk K mg P' H' M') : Ok K mg P0 H0 P' Os H' M' st env where
  hk := h
  base := k.base.trans l
  b0 := k.b0
  slot := fun i s e => by
    have q := k.slot i s e
    cases s with
    | un => exact True.intro
    | val d =>
      obtain ⟨v, e1, q⟩ := q
      exact ⟨v, e1, Is.lt (l.lt k.hk) q⟩
    | own ds =>
      obtain ⟨a, vs, e1, e2, e3, q⟩ := q
      have ho := k.own a (by
        cases hx : Os[i]? with
        | none => rw [hx] at e1; cases e1
        | some o => rw [hx] at e1; cases o with
          | none => cases e1
          | some b => cases e1; exact List.mem_of_getElem? hx)
      exact ⟨a, vs, e1, e2, l.keep _ _ e3 ho.2.1, Iss.lt (l.lt k.hk) q⟩
    | exc c n =>
      obtain ⟨v, e1, q⟩ := q
      exact ⟨v, e1, q.lt (l.lt k.hk)⟩
  own := fun a z => by
    have ho := k.own a z
    refine ⟨l.bm a ho.1, ?_, ho.2.2⟩
    obtain ⟨o, eo⟩ : ∃ o, H a = some o := by
      cases e : H a with
      | none => exact absurd e (k.hk.here a ho.1)
      | some o => exact ⟨o, rfl⟩
    exact l.nc eo ho.2.1
  inj := k.inj
  olen := k.olen
  slen := k.slen
theorem Hk.same (h : Hk K mg P H M) (s : Same H H') : Hk K mg P H' M := by
  have l : Lt P H P H' := (LtE.same s).lt h
  refine ⟨h.n, fun k c e => ?_, h.inj, h.bd, fun a z q => h.here a z (s.free q)⟩
  have := h.cell k c e
  cases c with
  | lst ds =>
    obtain ⟨vs, e1, q⟩ := this
    exact ⟨vs, s _ _ e1, Iss.lt l q⟩
  | obj c fs =>
    obtain ⟨C, dx, gs, e1, e2, e3, q⟩ := this
    exact ⟨C, dx, gs, e1, s _ _ e2, e3, Iss.lt l q⟩
  | dct kvs =>
    obtain ⟨vs, e1, e2, q⟩ := this
    exact ⟨vs, s _ _ e1, e2, Iss.lt l q⟩
end
def RQ (K : PySem.W.Frag) (mg : Str → Option Value) (Wx : XW) (m : Mode) (P0 : Pl) (H0 : Hp) (P : Pl) (H : Hp) (M' : Mm) (Q : VK) : Res → Prop
 | .v d => ∀ P' v H', LtE P H P' H' → Hk K mg P' H' M' → IsM K P' H' m d v → Q v H'
 | .x c n => Wx P0 H0 M' c n
theorem pe_imp {X : Cx} {e : Expr} {t t' : TE} (h : PE X e t) (i : ∀ st H Q, t' st H Q → t st H Q) : PE X e t' := fun pins s σ H Q I z => h pins s σ H Q I (i _ _ _ z)
def tE (K : PySem.W.Frag) (mg : Str → Option Value) (Wx : XW) (m : Mode) (f : E) : TE := fun st H Q => ∃ P0 H0 P Os env M r M', Ok K mg P0 H0 P Os H M st env ∧ f env M = some (r, M') ∧ RQ K mg Wx m P0 H0 P H M' Q r
structure Fit (X : Cx) (Wx : XW) : Prop where
 calm : X.calm = true
 room : X.A.units + 60 < cLine
section
variable {X : Cx} {Wx : XW} {m : Mode}
def SE (X : Cx) (Wx : XW) (m : Mode) (e : Expr) (f : E) : Prop := PE X e (tE X.K X.mg Wx m f)
theorem SE.bor {e : Expr} {f : E} (h : SE X Wx .val e f) : SE X Wx m e f := pe_imp h fun st H Q ⟨P0, H0, P, Os, env, M, r, M', k, e, q⟩ => ⟨P0, H0, P, Os, env, M, r, M', k, e, by
 cases r with
 | v d => exact fun P' v H' l h i => q P' v H' l h (IsM.of h i)
 | x c n => exact q⟩
theorem tE_go {f : E} {K : PySem.W.Frag} {mg : Str → Option Value} {P0 P : Pl} {H0 H : Hp} {Os : List (Option Addr)} {M M' : Mm} {st : L2.St} {env : Env} {r : Res} {Q : VK} (k : Ok K mg P0 H0 P Os H M st env) (e : f env M = some (r, M'))
  (q : RQ K mg Wx m P0 H0 P H M' Q r) : tE K mg Wx m f st H Q := ⟨P0, H0, P, Os, env, M, r, M', k, e, q⟩
def sVar (i : Nat) : E := fun env M => match env[i]? with
 | some (.val d) => some (.v d, M)
 | _ => none
def sVarB (i : Nat) : E := fun env M => match env[i]? with
 | some (.val d) => some (.v d, M)
 | some (.own ds) => some (.v (.lst ds), M)
 | _ => none
def sCon (d : D) : E := fun _ M => some (.v d, M)
theorem join_get {α : Type} {l : List (Option α)} {i : Nat} {a : α} (h : (l[i]?).join = some a) : l[i]? = some (some a) := by
  cases e : l[i]? with
  | none => rw [e] at h; cases h
  | some o => rw [e] at h; cases o with
    | none => cases h
    | some b => cases h; rfl
theorem se_var {i : Nat} {x : Str} {pos : Pos} (hN : X.N[i]? = some x) (hv : Vis X.env.scope x) (hd : (x == ("__debug__" : Str)) = false := by decide +kernel) (hcd : (x == ("__classdict__" : Str)) = false := by decide +kernel) : SE X Wx .val (.Name x pos) (sVar i) := by
 refine pe_imp (pe_var hN hv hd hcd) ?_
 rintro st H Q ⟨P0, H0, P, Os, env, M, r, M', k, e, q⟩
 unfold sVar at e
 split at e
 ·rename_i d hs
  cases e
  obtain ⟨v, e1, i1⟩ := k.slot i _ hs
  exact ⟨v, join_get e1, q P v H (LtE.refl P H) k.hk i1⟩
 ·cases e
theorem se_varB {i : Nat} {x : Str} {pos : Pos} (hN : X.N[i]? = some x) (hv : Vis X.env.scope x) (hd : (x == ("__debug__" : Str)) = false := by decide +kernel) (hcd : (x == ("__classdict__" : Str)) = false := by decide +kernel) : SE X Wx .bor (.Name x pos) (sVarB i) := by
 refine pe_imp (pe_var hN hv hd hcd) ?_
 rintro st H Q ⟨P0, H0, P, Os, env, M, r, M', k, e, q⟩
 unfold sVarB at e
 split at e
 ·rename_i d hs
  cases e
  obtain ⟨v, e1, i1⟩ := k.slot i _ hs
  exact ⟨v, join_get e1, q P v H (LtE.refl P H) k.hk (IsM.of k.hk i1)⟩
 ·rename_i ds hs
  cases e
  obtain ⟨a, vs, e1, e2, e3, i1⟩ := k.slot i _ hs
  exact ⟨.ref a, join_get e2, q P _ H (LtE.refl P H) k.hk ⟨a, vs, rfl, .inl ⟨(k.own a (List.mem_of_getElem? (join_get e1))).2.1, .inl e3⟩, i1⟩⟩
 ·cases e
theorem se_con {e : Expr} {v : V} {d : D} (h : PE X e (tC v)) (hd : ∀ P H, Is X.K P H d v) : SE X Wx .val e (sCon d) := by
 refine pe_imp h ?_
 rintro st H Q ⟨P0, H0, P, Os, env, M, r, M', k, e, q⟩
 cases e
 exact q P v H (LtE.refl P H) k.hk (hd P H)
def vw (M : Mm) (d : D) : D := match d with
  | .ref k => (match M[k]? with
    | some (.lst ds) => .lst ds
    | _ => .ref k)
  | d => d
theorem IsB.vw {K : PySem.W.Frag} {mg : Str → Option Value} {P : Pl} {H : Hp} {M : Mm} {d : D} {v : V} (h : Hk K mg P H M) (i : IsB K P H d v) : IsW K P H (vw M d) v := by
  cases d with
  | ref k =>
    unfold E3.vw
    dsimp only
    split
    · rename_i ds e
      obtain ⟨i1, i2⟩ : k < P.n ∧ v = .ref (P.io k) := i
      obtain ⟨vs, e1, q⟩ := h.cell k _ e
      exact ⟨_, vs, i2, .inl (.inl e1), q⟩
    · exact i
  | lst ds => exact i.w
  | _ => exact i
def s1 (o : D → Option D) (f : E) : E := fun env M => bnd (f env M) fun d M1 => (o (vw M1 d)).map fun z => (.v z, M1)
def s2 (o : D → D → Option D) (f g : E) : E := fun env M => bnd (f env M) fun d M1 => bnd (g env M1) fun e M2 => (o (vw M2 d) (vw M2 e)).map fun z => (.v z, M2)
def Pure2 (K : PySem.W.Frag) (r : R2) (o : D → D → Option D) : Prop := ∀ (P : Pl) (H : Hp) (d e z : D) (v w : V) (Q : VK), o d e = some z → IsW K P H d v → IsW K P H e w → (∀ p, H p = none → ¬ P.bd p) → (∀ u H', Same H H' → Is K P H' z u → Q u H') → r v w H Q
def Pure1 (K : PySem.W.Frag) (r : V → Hp → VK → Prop) (o : D → Option D) : Prop := ∀ (P : Pl) (H : Hp) (d z : D) (v : V) (Q : VK), o d = some z → IsW K P H d v → (∀ p, H p = none → ¬ P.bd p) → (∀ u H', Same H H' → Is K P H' z u → Q u H') → r v H Q
theorem Hk.new {K : PySem.W.Frag} {mg : Str → Option Value} {P : Pl} {H : Hp} {M : Mm} (h : Hk K mg P H M) : ∀ p, H p = none → ¬ P.bd p := fun p hp z => h.here p z hp
theorem t2_ok {f g : E} {o : D → D → Option D} {r : R2} {st : L2.St} {H : Hp} {Q : VK} (po : Pure2 X.K r o) (h : tE X.K X.mg Wx m (s2 o f g) st H Q) : tOp r (tE X.K X.mg Wx .bor f) (tE X.K X.mg Wx .bor g) st H Q := by
 obtain ⟨P0, H0, P, Os, env, M, rr, M', k, e, q⟩ := h
 unfold s2 at e
 rcases bnd_inv e with ⟨d, M1, e1, e⟩ | ⟨c, n, e1, rfl⟩
 ·refine tE_go k e1 fun P1 v1 H1 l1 h1 i1 => ?_
  have k1 := k.next l1 h1
  rcases bnd_inv e with ⟨d2, M2, e2, e⟩ | ⟨c, n, e2, rfl⟩
  ·refine tE_go k1 e2 fun P2 v2 H2 l2 h2 i2 => ?_
   rw [Option.map_eq_some_iff] at e
   obtain ⟨z, ez, e⟩ := e
   cases e
   exact po P2 H2 _ _ z v1 v2 Q ez (IsB.vw h2 (IsB.lt l2 h1 i1)) (IsB.vw h2 i2) h2.new fun u H' s i => q P2 u H' (l1.trans (l2.trans (LtE.same s))) (h2.same s) (IsM.of (h2.same s) i)
  ·exact tE_go k1 e2 q
 ·exact tE_go k e1 q
theorem t1_ok {f : E} {o : D → Option D} {r : V → Hp → VK → Prop} {st : L2.St} {H : Hp} {Q : VK} (po : Pure1 X.K r o) (h : tE X.K X.mg Wx m (s1 o f) st H Q) : tUn r (tE X.K X.mg Wx .bor f) st H Q := by
 obtain ⟨P0, H0, P, Os, env, M, rr, M', k, e, q⟩ := h
 unfold s1 at e
 rcases bnd_inv e with ⟨d, M1, e1, e⟩ | ⟨c, n, e1, rfl⟩
 ·refine tE_go k e1 fun P1 v1 H1 l1 h1 i1 => ?_
  rw [Option.map_eq_some_iff] at e
  obtain ⟨z, ez, e⟩ := e
  cases e
  exact po P1 H1 _ z v1 Q ez (IsB.vw h1 i1) h1.new fun u H' s i => q P1 u H' (l1.trans (LtE.same s)) (h1.same s) (IsM.of (h1.same s) i)
 ·exact tE_go k e1 q
theorem se_op {a b : Expr} {op : Operator} {pos : Pos} {f g : E} {o : D → D → Option D} {r : R2} (ho : OpR X (binaryOp op) r) (po : Pure2 X.K r o) (ha : SE X Wx .bor a f) (hb : SE X Wx .bor b g) : SE X Wx m (.BinOp a op b pos) (s2 o f g) :=
 pe_imp (pe_op ho ha hb) fun _ _ _ h => t2_ok po h
theorem se_cmp {a b : Expr} {op : CmpOp} {pos : Pos} {f g : E} {o : D → D → Option D} {r : R2} (ho : OpR X (compareOp op) r) (po : Pure2 X.K r o) (ha : SE X Wx .bor a f) (hb : SE X Wx .bor b g) (hm : behindInMarks op b = false := by rfl) : SE X Wx m (.Compare a [op] [b] pos) (s2 o f g) :=
 pe_imp (pe_cmpR ho ha hb hm) fun _ _ _ h => t2_ok po h
theorem se_ix {a b : Expr} {pos : Pos} {f g : E} {o : D → D → Option D} {r : R2} (ho : IxR X r) (po : Pure2 X.K r o) (ha : SE X Wx .bor a f) (hb : SE X Wx .bor b g) (hs : PlainIx b := by exact fun _ _ => rfl) : SE X Wx m (.Subscript a b pos) (s2 o f g) :=
 pe_imp (pe_ix ho ha hb hs) fun _ _ _ h => t2_ok po h
def TQ (K : PySem.W.Frag) (mg : Str → Option Value) (Wx : XW) (P0 : Pl) (H0 : Hp) (P : Pl) (H : Hp) (M' : Mm) (Q : Bool → Hp → Prop) : Res → Prop
 | .v d => ∃ b, d = .bl b ∧ ∀ P' H', LtE P H P' H' → Hk K mg P' H' M' → Q b H'
 | .x c n => Wx P0 H0 M' c n
def tTt (K : PySem.W.Frag) (mg : Str → Option Value) (Wx : XW) (f : E) : TT := fun st H Q => ∃ P0 H0 P Os env M r M', Ok K mg P0 H0 P Os H M st env ∧ f env M = some (r, M') ∧ TQ K mg Wx P0 H0 P H M' Q r
def ST (X : Cx) (Wx : XW) (e : Expr) (f : E) : Prop := PT X e (tTt X.K X.mg Wx f)
theorem pt_imp {e : Expr} {t t' : TT} (h : PT X e t) (i : ∀ st H Q, t' st H Q → t st H Q) : PT X e t' := fun pins s σ H Q I z => h pins s σ H Q I (i _ _ _ z)
theorem tTt_go {f : E} {K : PySem.W.Frag} {mg : Str → Option Value} {P0 P : Pl} {H0 H : Hp} {Os : List (Option Addr)} {M M' : Mm} {st : L2.St} {env : Env} {r : Res} {Q : Bool → Hp → Prop} (k : Ok K mg P0 H0 P Os H M st env) (e : f env M = some (r, M'))
  (q : TQ K mg Wx P0 H0 P H M' Q r) : tTt K mg Wx f st H Q := ⟨P0, H0, P, Os, env, M, r, M', k, e, q⟩
theorem tt_of {f : E} {st : L2.St} {H : Hp} {Q : Bool → Hp → Prop} (h : tTt X.K X.mg Wx f st H Q) : tTest (tE X.K X.mg Wx .val f) st H Q := by
  obtain ⟨P0, H0, P, Os, env, M, r, M', k, e, q⟩ := h
  refine tE_go k e ?_
  cases r with
  | v d =>
    obtain ⟨b, rfl, q⟩ := q
    exact fun P' v H' l h i => ⟨b, i, q P' H' l h⟩
  | x c n => exact q
theorem st_cmp {a b : Expr} {op : CmpOp} {pos : Pos} {f g : E} {o : D → D → Option D} {r : R2} (ho : OpR X (compareOp op) r) (po : Pure2 X.K r o) (ha : SE X Wx .bor a f) (hb : SE X Wx .bor b g) (hm : behindInMarks op b = false := by rfl) : ST X Wx (.Compare a [op] [b] pos) (s2 o f g) :=
 pt_imp (pt_cmpR ho ha hb hm) fun _ _ _ h => t2_ok po (tt_of h)
def truD : D → Option Bool
 | .non => some false
 | .bl b => some b
 | .int i => some (i != 0)
 | .str s => if s.length ≤ sizeLine then some ((s.length : Int) != 0) else none
 | .lst ds => some (!ds.isEmpty)
 | .tup ds => some (!ds.isEmpty)
 | .ref _ => none
def sTru (f : E) : E := s1 (fun d => (truD d).map .bl) f
def sNot (f : E) : E := fun env M => bnd (f env M) fun d M1 => match d with
 | .bl b => some (.v (.bl (!b)), M1)
 | _ => none
def sAnd (f g : E) : E := fun env M => bnd (f env M) fun d M1 => match d with
 | .bl b => if b = true then g env M1 else some (.v (.bl false), M1)
 | _ => none
def sOr (f g : E) : E := fun env M => bnd (f env M) fun d M1 => match d with
 | .bl b => if b = true then some (.v (.bl true), M1) else g env M1
 | _ => none
def sIte (c f g : E) : E := fun env M => bnd (c env M) fun d M1 => match d with
 | .bl b => if b = true then f env M1 else g env M1
 | _ => none
def SW (X : Cx) (Wx : XW) (e : Expr) (f : E) : Prop := PW X e (tTt X.K X.mg Wx f)
theorem pw_imp {e : Expr} {t t' : TT} (h : PW X e t) (i : ∀ st H Q, t' st H Q → t st H Q) : PW X e t' := fun wh pins s σ H Q I z => h wh pins s σ H Q I (i _ _ _ z)
theorem st_not {a : Expr} {pos : Pos} {f : E} (ha : ST X Wx a f) : ST X Wx (.UnaryOp .Not a pos) (sNot f) := by
 refine pt_imp (pt_not ha) ?_
 rintro st H Q ⟨P0, H0, P, Os, env, M, r, M', k, e, q⟩
 unfold sNot at e
 rcases bnd_inv e with ⟨d, M1, e1, e⟩ | ⟨c, n, e1, rfl⟩
 ·cases d <;> simp only [reduceCtorEq] at e
  cases e
  obtain ⟨b, e2, q⟩ := q
  cases e2
  exact tTt_go k e1 ⟨_, rfl, q⟩
 ·exact tTt_go k e1 q
theorem sw_and1 {a : Expr} {pos : Pos} {f : E} (ha : ST X Wx a f) : SW X Wx (.BoolOp .And [a] pos) f := pw_and1 ha
theorem sw_or1 {a : Expr} {pos : Pos} {f : E} (ha : ST X Wx a f) : SW X Wx (.BoolOp .Or [a] pos) f := pw_or1 ha
theorem sw_and {a b : Expr} {rest : List Expr} {pos : Pos} {f g : E} (ha : ST X Wx a f) (hb : SW X Wx (.BoolOp .And (b :: rest) pos) g) : SW X Wx (.BoolOp .And (a :: b :: rest) pos) (sAnd f g) := by
  refine pw_imp (pw_and ha hb) ?_
  rintro st H Q ⟨P0, H0, P, Os, env, M, r, M', k, e, q⟩
  unfold sAnd at e
  rcases bnd_inv e with ⟨d, M1, e1, e⟩ | ⟨c, n, e1, rfl⟩
  · cases d <;> simp only [reduceCtorEq] at e
    rename_i b
    refine tTt_go k e1 ⟨b, rfl, fun P1 H1 l1 h1 => ?_⟩
    cases b with
    | true =>
      rw [if_pos rfl] at e ⊢
      refine tTt_go (k.next l1 h1) e ?_
      cases r with
      | v d => obtain ⟨b, e2, q⟩ := q; exact ⟨b, e2, fun P' H' l h => q P' H' (l1.trans l) h⟩
      | x c n => exact q
    | false =>
      rw [if_neg (by decide)] at e ⊢
      cases e
      obtain ⟨b, e2, q⟩ := q
      cases e2
      exact q P1 H1 l1 h1
  · exact tTt_go k e1 q
theorem sw_or {a b : Expr} {rest : List Expr} {pos : Pos} {f g : E} (ha : ST X Wx a f) (hb : SW X Wx (.BoolOp .Or (b :: rest) pos) g) : SW X Wx (.BoolOp .Or (a :: b :: rest) pos) (sOr f g) := by
  refine pw_imp (pw_or ha hb) ?_
  rintro st H Q ⟨P0, H0, P, Os, env, M, r, M', k, e, q⟩
  unfold sOr at e
  rcases bnd_inv e with ⟨d, M1, e1, e⟩ | ⟨c, n, e1, rfl⟩
  · cases d <;> simp only [reduceCtorEq] at e
    rename_i b
    refine tTt_go k e1 ⟨b, rfl, fun P1 H1 l1 h1 => ?_⟩
    cases b with
    | false =>
      rw [if_neg (by decide)] at e ⊢
      refine tTt_go (k.next l1 h1) e ?_
      cases r with
      | v d => obtain ⟨b, e2, q⟩ := q; exact ⟨b, e2, fun P' H' l h => q P' H' (l1.trans l) h⟩
      | x c n => exact q
    | true =>
      rw [if_pos rfl] at e ⊢
      cases e
      obtain ⟨b, e2, q⟩ := q
      cases e2
      exact q P1 H1 l1 h1
  · exact tTt_go k e1 q
theorem SW.st {e : Expr} {f : E} (h : SW X Wx e f) : ST X Wx e f := h.pt
end
end E3
namespace E3
open PySem PySem.Spec PyProof.Rows L2
section
variable {X : Cx} {Wx : XW} {m : Mode}
theorem RQ.imp {K : PySem.W.Frag} {mg : Str → Option Value} {P0 P P1 : Pl} {H0 H H1 : Hp} {M' : Mm} {Q : VK} {r : Res} (l : LtE P H P1 H1) (q : RQ K mg Wx m P0 H0 P H M' Q r) : RQ K mg Wx m P0 H0 P1 H1 M' Q r := by
 cases r with
 | v d => exact fun P' v H' l' h i => q P' v H' (l.trans l') h i
 | x c n => exact q
theorem se_one {a : Expr} {op : BoolOp} {pos : Pos} {f : E} (ha : SE X Wx m a f) : SE X Wx m (.BoolOp op [a] pos) f := pe_one ha
theorem se_and {a b : Expr} {rest : List Expr} {pos : Pos} {f g : E} (ha : SE X Wx .val a f) (hb : SE X Wx m (.BoolOp .And (b :: rest) pos) g) : SE X Wx m (.BoolOp .And (a :: b :: rest) pos) (sAnd f g) := by
  refine pe_imp (pe_and ha hb) ?_
  rintro st H Q ⟨P0, H0, P, Os, env, M, r, M', k, e, q⟩
  unfold sAnd at e
  rcases bnd_inv e with ⟨d, M1, e1, e⟩ | ⟨c, n, e1, rfl⟩
  · cases d <;> simp only [reduceCtorEq] at e
    rename_i b
    refine tE_go k e1 fun P1 v1 H1 l1 h1 i1 => ⟨b, i1, ?_⟩
    cases b with
    | true =>
      rw [if_pos rfl] at e ⊢
      exact tE_go (k.next l1 h1) e (RQ.imp l1 q)
    | false =>
      rw [if_neg (by decide)] at e ⊢
      cases e
      exact q P1 _ H1 l1 h1 (IsM.of h1 (show Is _ _ _ (.bl false) _ from rfl))
  · exact tE_go k e1 q
theorem se_ite {c a b : Expr} {pos : Pos} {t f g : E} (hc : ST X Wx c t) (ha : SE X Wx m a f) (hb : SE X Wx m b g) : SE X Wx m (.IfExp c a b pos) (sIte t f g) := by
  refine pe_imp (pe_ifExp hc ha hb) ?_
  rintro st H Q ⟨P0, H0, P, Os, env, M, r, M', k, e, q⟩
  unfold sIte at e
  rcases bnd_inv e with ⟨d, M1, e1, e⟩ | ⟨c, n, e1, rfl⟩
  · cases d <;> simp only [reduceCtorEq] at e
    rename_i b
    refine tTt_go k e1 ⟨b, rfl, fun P1 H1 l1 h1 => ?_⟩
    cases b with
    | true =>
      rw [if_pos rfl] at e ⊢
      exact tE_go (k.next l1 h1) e (RQ.imp l1 q)
    | false =>
      rw [if_neg (by decide)] at e ⊢
      exact tE_go (k.next l1 h1) e (RQ.imp l1 q)
  · exact tTt_go k e1 q
theorem tru_V {K : PySem.W.Frag} {P : Pl} {H : Hp} {d : D} {v : V} {b : Bool} (h : truD d = some b) (i : IsW K P H d v) : TruV K v H b := by
  cases d with
  | non => have e : v = .non := i; subst e; cases h; rfl
  | bl c => have e : v = .bl c := i; subst e; cases h; rfl
  | int c => have e : v = .int c := i; subst e; cases h; rfl
  | str c =>
    have e : v = .str c := i
    subst e
    simp only [truD] at h
    split at h
    · rename_i hl
      cases h
      exact ⟨hl, rfl⟩
    · cases h
  | lst ds =>
    obtain ⟨a, vs, rfl, r, q⟩ := i
    cases h
    refine .inl ⟨vs, r, ?_⟩
    cases ds with
    | nil => rw [show vs = [] from q]; rfl
    | cons d ds => obtain ⟨w, r', rfl, _⟩ := q; rfl
  | tup ds =>
    obtain ⟨a, vs, rfl, r, q⟩ := i
    cases h
    refine .inr (.inl ⟨vs, r, ?_⟩)
    cases ds with
    | nil => rw [show vs = [] from q]; rfl
    | cons d ds => obtain ⟨w, r', rfl, _⟩ := q; rfl
  | ref k => cases h
theorem st_tru {a : Expr} {f : E} (ha : SE X Wx .bor a f) (he : ∀ whole, isTrue a X.env whole = (do let v ← whole; standAt a.pos; holding [v] (truthy v)) := by exact fun _ => rfl) : ST X Wx a (sTru f) := by
 refine pt_imp (pt_truth ha he) ?_
 rintro st H Q ⟨P0, H0, P, Os, env, M, r, M', k, e, q⟩
 unfold sTru s1 at e
 rcases bnd_inv e with ⟨d, M1, e1, e⟩ | ⟨c, n, e1, rfl⟩
 ·rw [Option.map_eq_some_iff] at e
  obtain ⟨z, ez, e⟩ := e
  cases e
  rw [Option.map_eq_some_iff] at ez
  obtain ⟨b, eb, rfl⟩ := ez
  obtain ⟨b', e2, q⟩ := q
  cases e2
  exact tE_go k e1 fun P1 v1 H1 l1 h1 i1 => ⟨b, tru_V eb (IsB.vw h1 i1), q P1 H1 l1 h1⟩
 ·exact tE_go k e1 q
theorem pe_notv {X : Cx} {a : Expr} {ta : TE} {pos : Pos} (ha : PE X a ta) : PE X (.UnaryOp .Not a pos) (fun σ H Q => ta σ H fun x H1 => ∃ k, TruV X.K x H1 k ∧ Q (.bl (!k)) H1) := by
 intro pins s σ H Q I h
 refine UnaryOp_ (thn (ha pins s σ H _ I h) fun v s1 ⟨x, H1, I1, r1, k, tv, q⟩ => ?_)
 exact not_of (thn (tru_ok pins s1 σ H1 x v (fun b H' => b = k ∧ H' = H1) I1 r1 ⟨k, tv, rfl, rfl⟩) fun b s2 ⟨H2, I2, e1, e2⟩ => by
  subst e1 e2
  exact ⟨.bl (!b), H2, I2, rfl, q⟩)
def sNotV (f : E) : E := s1 (fun d => (truD d).map fun b => .bl (!b)) f
theorem se_not {a : Expr} {pos : Pos} {f : E} (ha : SE X Wx .bor a f) : SE X Wx m (.UnaryOp .Not a pos) (sNotV f) := by
 refine pe_imp (pe_notv ha) ?_
 rintro st H Q ⟨P0, H0, P, Os, env, M, r, M', k, e, q⟩
 unfold sNotV s1 at e
 rcases bnd_inv e with ⟨d, M1, e1, e⟩ | ⟨c, n, e1, rfl⟩
 ·rw [Option.map_eq_some_iff] at e
  obtain ⟨z, ez, e⟩ := e
  cases e
  rw [Option.map_eq_some_iff] at ez
  obtain ⟨b, eb, rfl⟩ := ez
  exact tE_go k e1 fun P1 v1 H1 l1 h1 i1 => ⟨b, tru_V eb (IsB.vw h1 i1), q P1 _ H1 l1 h1 (IsM.of h1 (show Is _ _ _ (.bl _) _ from rfl))⟩
 ·exact tE_go k e1 q
inductive ResA where
 | v (ds : List D) | x (c : Str) (n : Int)
abbrev EA := Env → Mm → Option (ResA × Mm)
def sNil : EA := fun _ M => some (.v [], M)
def sCons (f : E) (fs : EA) : EA := fun env M => match f env M with
  | some (.v d, M1) => (match fs env M1 with
    | some (.v ds, M2) => some (.v (d :: ds), M2)
    | some (.x c n, M2) => some (.x c n, M2)
    | none => none)
  | some (.x c n, M1) => some (.x c n, M1)
  | none => none
def bndA (o : Option (ResA × Mm)) (k : List D → Mm → O) : O := match o with
 | some (.v ds, M) => k ds M
 | some (.x c n, M) => some (.x c n, M)
 | none => none
theorem bndA_inv {o : Option (ResA × Mm)} {k : List D → Mm → O} {r : Res} {M' : Mm} (h : bndA o k = some (r, M')) : (∃ ds M, o = some (.v ds, M) ∧ k ds M = some (r, M')) ∨ ∃ c n, o = some (.x c n, M') ∧ r = .x c n := by
 unfold bndA at h
 split at h
 ·exact .inl ⟨_, _, rfl, h⟩
 ·cases h; exact .inr ⟨_, _, rfl, rfl⟩
 ·cases h
def AllM (K : PySem.W.Frag) (P : Pl) (H : Hp) (m : Mode) : List D → List V → Prop
 | [], vs => vs = []
 | d :: ds, vs => ∃ v ws, vs = v :: ws ∧ IsM K P H m d v ∧ AllM K P H m ds ws
theorem AllM.iss {K : PySem.W.Frag} {P : Pl} {H : Hp} : ∀ {ds : List D} {vs : List V}, AllM K P H .val ds vs → Iss K P H ds vs
  | [], _, h => h
  | _ :: _, _, h => by
    obtain ⟨v, ws, e, p, q⟩ := h
    exact ⟨v, ws, e, p, AllM.iss q⟩
def AQ (K : PySem.W.Frag) (mg : Str → Option Value) (Wx : XW) (m : Mode) (P0 : Pl) (H0 : Hp) (P : Pl) (H : Hp) (M' : Mm) (Q : List V → Hp → Prop) : ResA → Prop
 | .v ds => ∀ P' vs H', LtE P H P' H' → Hk K mg P' H' M' → AllM K P' H' m ds vs → Q vs H'
 | .x c n => Wx P0 H0 M' c n
def tAs (K : PySem.W.Frag) (mg : Str → Option Value) (Wx : XW) (m : Mode) (fs : EA) : TA := fun st H Q => ∃ P0 H0 P Os env M r M', Ok K mg P0 H0 P Os H M st env ∧ fs env M = some (r, M') ∧ AQ K mg Wx m P0 H0 P H M' Q r
def SA (X : Cx) (Wx : XW) (m : Mode) (es : List Expr) (fs : EA) : Prop := PA X es (tAs X.K X.mg Wx m fs)
theorem pa_imp {es : List Expr} {t t' : TA} (h : PA X es t) (w : ∀ σ H Q, t' σ H Q → t σ H Q) : PA X es t' := fun pos pins s σ H Q I hw => h pos pins s σ H Q I (w σ H Q hw)
theorem sa_nil : SA X Wx m [] sNil := by
 refine pa_imp pa_nil ?_
 rintro st H Q ⟨P0, H0, P, Os, env, M, r, M', k, e, q⟩
 cases e
 exact q P [] H (LtE.refl P H) k.hk rfl
theorem sa_cons {e : Expr} {es : List Expr} {f : E} {fs : EA} (ha : SE X Wx m e f) (hr : SA X Wx m es fs) (hs : starEach (e :: es) X.env = (false, eval e X.env) :: starEach es X.env := by rfl) : SA X Wx m (e :: es) (sCons f fs) := by
 refine pa_imp (pa_cons ha hr hs) ?_
 rintro st H Q ⟨P0, H0, P, Os, env, M, r, M', k, e, q⟩
 unfold sCons at e
 split at e
 ·rename_i d M1 e1
  refine tE_go k e1 fun P1 v1 H1 l1 h1 i1 => ?_
  split at e
  ·rename_i ds M2 e2
   cases e
   refine ⟨P0, H0, P1, Os, env, M1, _, _, k.next l1 h1, e2, fun P2 vs H2 l2 h2 i2 => q P2 _ H2 (l1.trans l2) h2 ⟨v1, vs, rfl, ?_, i2⟩⟩
   cases m with
   | val => exact Is.lt (l2.lt h1) i1
   | bor => exact IsB.lt l2 h1 i1
  ·rename_i c n M2 e2
   cases e
   exact ⟨P0, H0, P1, Os, env, M1, _, _, k.next l1 h1, e2, q⟩
  ·cases e
 ·rename_i c n M1 e1
  cases e
  exact tE_go k e1 q
 ·cases e
def sN (o : List D → Option D) (fs : EA) : E := fun env M => bndA (fs env M) fun ds M1 => (o (ds.map (vw M1))).map fun z => (.v z, M1)
def AllW (K : PySem.W.Frag) (P : Pl) (H : Hp) : List D → List V → Prop
 | [], vs => vs = []
 | d :: ds, vs => ∃ v ws, vs = v :: ws ∧ IsW K P H d v ∧ AllW K P H ds ws
theorem AllM.w {K : PySem.W.Frag} {mg : Str → Option Value} {P : Pl} {H : Hp} {M : Mm} (h : Hk K mg P H M) : ∀ {ds : List D} {vs : List V}, AllM K P H m ds vs → AllW K P H (ds.map (vw M)) vs
  | [], _, q => q
  | d :: ds, _, q => by
    obtain ⟨v, ws, e, p, q⟩ := q
    exact ⟨v, ws, e, IsB.vw h (p.b h), AllM.w h q⟩
def PureN (K : PySem.W.Frag) (r : List V → Hp → VK → Prop) (o : List D → Option D) : Prop := ∀ (P : Pl) (H : Hp) (ds : List D) (z : D) (vs : List V) (Q : VK), o ds = some z → AllW K P H ds vs → (∀ p, H p = none → ¬ P.bd p) → (∀ u H', Same H H' → Is K P H' z u → Q u H') → r vs H Q
theorem se_cb {ex e : Expr} {es : List Expr} {r : List V → Hp → VK → Prop} {o : List D → Option D} {fs : EA} (h : ∀ t, PA X (e :: es) t → PE X ex (tCB r t)) (po : PureN X.K r o) (ha : SA X Wx .bor (e :: es) fs) : SE X Wx m ex (sN o fs) := by
 refine pe_imp (h _ ha) ?_
 rintro st H Q ⟨P0, H0, P, Os, env, M, r, M', k, e, q⟩
 unfold sN at e
 rcases bndA_inv e with ⟨ds, M1, e1, e⟩ | ⟨c, n, e1, rfl⟩
 ·rw [Option.map_eq_some_iff] at e
  obtain ⟨z, ez, e⟩ := e
  cases e
  exact ⟨P0, H0, P, Os, env, M, _, _, k, e1, fun P1 vs H1 l1 h1 i1 => po P1 H1 _ z vs Q ez (AllM.w h1 i1) h1.new fun u H' s i => q P1 u H' (l1.trans (LtE.same s)) (h1.same s) (IsM.of (h1.same s) i)⟩
 ·exact ⟨P0, H0, P, Os, env, M, _, _, k, e1, q⟩
def sTup (fs : EA) : E := fun env M => bndA (fs env M) fun ds M1 => if ds.length ≤ sizeLine then some (.v (.tup ds), M1) else none
theorem se_tup {es : List Expr} {x1 : Nat} {pos : Pos} {fs : EA} (ha : SA X Wx .val es fs) : SE X Wx m (.Tuple es x1 pos) (sTup fs) := by
 refine pe_imp (pe_tup ha) ?_
 rintro st H Q ⟨P0, H0, P, Os, env, M, r, M', k, e, q⟩
 unfold sTup at e
 rcases bndA_inv e with ⟨ds, M1, e1, e⟩ | ⟨c, n, e1, rfl⟩
 ·split at e
  ·rename_i hl
   cases e
   refine ⟨P0, H0, P, Os, env, M, _, _, k, e1, fun P1 vs H1 l1 h1 i1 => ⟨by rw [i1.iss.len]; exact hl, fun p hp => ?_⟩⟩
   have s := same_new (o := .tup vs) hp
   exact q P1 _ _ (l1.trans (LtE.same s)) (h1.same s) (IsM.of (h1.same s) ⟨p, vs, rfl, .inl (.inl upd_same), Iss.lt ((LtE.same s).lt h1) i1.iss⟩)
  ·cases e
 ·exact ⟨P0, H0, P, Os, env, M, _, _, k, e1, q⟩
def NQ (K : PySem.W.Frag) (mg : Str → Option Value) (Wx : XW) (P0 : Pl) (H0 : Hp) (P : Pl) (H : Hp) (M' : Mm) (Q : VK) : Res → Prop
 | .v d => ∃ ds, d = .lst ds ∧ ∀ P' a vs H', LtE P H P' H' → Hk K mg P' H' M' → H a = none → P'.bd a → (∀ k, k < P'.n → P'.io k ≠ a) → H' a = some (.lst vs) → Iss K P' H' ds vs → Q (.ref a) H'
 | .x c n => Wx P0 H0 M' c n
def tN (K : PySem.W.Frag) (mg : Str → Option Value) (Wx : XW) (f : E) : TE := fun st H Q => ∃ P0 H0 P Os env M r M', Ok K mg P0 H0 P Os H M st env ∧ f env M = some (r, M') ∧ NQ K mg Wx P0 H0 P H M' Q r
def SN (X : Cx) (Wx : XW) (e : Expr) (f : E) : Prop := PE X e (tN X.K X.mg Wx f)
def Pl.bar (P : Pl) (p : Addr) : Pl := { P with bd := fun a => P.bd a ∨ a = p }
theorem bar_new {K : PySem.W.Frag} {mg : Str → Option Value} {P : Pl} {H : Hp} {M : Mm} {p : Addr} {vs : List V} (h : Hk K mg P H M) (hp : H p = none) : LtE P H (P.bar p) (upd H p (.lst vs)) ∧ Hk K mg (P.bar p) (upd H p (.lst vs)) M ∧ ∀ k, k < P.n → P.io k ≠ p := by
  have s := same_new (o := .lst vs) hp
  have nc : ∀ k, k < P.n → P.io k ≠ p := fun k hk z => h.here _ (h.bd k hk) (z ▸ hp)
  have l : LtE P H (P.bar p) (upd H p (.lst vs)) := ⟨Nat.le_refl _, fun _ _ => rfl, fun a z => Or.imp (fun q => q) (fun (q : a = p) => by rw [q]; exact hp) z, fun a z => .inl z, fun a o e _ => s a o e, fun a z => s.free z, fun k h1 h2 => absurd h1 (Nat.not_le.mpr h2)⟩
  have lt := l.lt h
  refine ⟨l, ⟨h.n, fun k c e => ?_, h.inj, fun k hk => .inl (h.bd k hk), fun a z q => ?_⟩, nc⟩
  · have := h.cell k c e
    cases c with
    | lst ds =>
      obtain ⟨vs, e1, q⟩ := this
      exact ⟨vs, s _ _ e1, Iss.lt lt q⟩
    | obj c fs =>
      obtain ⟨C, dx, gs, e1, e2, e3, q⟩ := this
      exact ⟨C, dx, gs, e1, s _ _ e2, e3, Iss.lt lt q⟩
    | dct kvs =>
      obtain ⟨vs, e1, e2, q⟩ := this
      exact ⟨vs, s _ _ e1, e2, Iss.lt lt q⟩
  · rcases z with z | z
    · exact h.here a z (s.free q)
    · subst z; rw [upd_same] at q; cases q
theorem SN.se {e : Expr} {f : E} (h : SN X Wx e f) (hf : ∀ env M r M', f env M = some (.v r, M') → ∃ ds, r = .lst ds) : SE X Wx .val e f := by
  refine pe_imp h ?_
  rintro st H Q ⟨P0, H0, P, Os, env, M, r, M', k, e, q⟩
  refine ⟨P0, H0, P, Os, env, M, r, M', k, e, ?_⟩
  cases r with
  | x c n => exact q
  | v d =>
    obtain ⟨ds, rfl⟩ := hf _ _ _ _ e
    refine ⟨ds, rfl, fun P' a vs H' l h ha ba nc ea is => q (P'.less (· ≠ a)) _ H' ?_ ?_ ⟨a, vs, rfl, .inl ⟨fun z => z.2 rfl, .inl ea⟩, Iss.less is⟩⟩
    · exact ⟨l.n, l.io, fun b z => l.bd b z.1, fun b z => ⟨l.bm b z, fun q => k.hk.here b z (q ▸ ha)⟩, l.keep, l.sure, l.nw⟩
    · refine ⟨h.n, fun j c e => ?_, h.inj, fun j hj => ⟨h.bd j hj, nc j hj⟩, fun b z => h.here b z.1⟩
      have := h.cell j c e
      cases c with
      | lst ds =>
        obtain ⟨vs, e1, q⟩ := this
        exact ⟨vs, e1, Iss.less q⟩
      | obj c fs =>
        obtain ⟨C, dx, gs, e1, e2, e3, q⟩ := this
        exact ⟨C, dx, gs, e1, e2, e3, Iss.less q⟩
      | dct kvs =>
        obtain ⟨vs, e1, e2, q⟩ := this
        exact ⟨vs, e1, e2, Iss.less q⟩
def sLst (fs : EA) : E := fun env M => bndA (fs env M) fun ds M1 => if ds.length ≤ sizeLine then some (.v (.lst ds), M1) else none
theorem sn_lst {es : List Expr} {pos : Pos} {fs : EA} (ha : SA X Wx .val es fs) : SN X Wx (.List es pos) (sLst fs) := by
 refine pe_imp (pe_lst ha) ?_
 rintro st H Q ⟨P0, H0, P, Os, env, M, r, M', k, e, q⟩
 unfold sLst at e
 rcases bndA_inv e with ⟨ds, M1, e1, e⟩ | ⟨c, n, e1, rfl⟩
 ·split at e
  ·rename_i hl
   cases e
   obtain ⟨ds', e', q⟩ := q
   cases e'
   refine ⟨P0, H0, P, Os, env, M, _, _, k, e1, fun P1 vs H1 l1 h1 i1 => ⟨by rw [i1.iss.len]; exact hl, fun p hp => ?_⟩⟩
   obtain ⟨l2, h2, nc⟩ := bar_new (vs := vs) h1 hp
   exact q (P1.bar p) p vs _ (l1.trans l2) h2 (l1.sure p hp) (.inr rfl) nc upd_same (Iss.lt (l2.lt h1) i1.iss)
  ·cases e
 ·exact ⟨P0, H0, P, Os, env, M, _, _, k, e1, q⟩
theorem lst_is {fs : EA} : ∀ env M r M', sLst fs env M = some (.v r, M') → ∃ ds, r = .lst ds := fun env M r M' e => by
 unfold sLst at e
 rcases bndA_inv e with ⟨ds, M1, e1, e⟩ | ⟨c, n, e1, e⟩
 ·split at e
  ·cases e; exact ⟨_, rfl⟩
  ·cases e
 ·cases e
end
end E3
namespace E3
open PySem PySem.Spec PyProof.Rows L2
inductive Out where
 | nx (env : Env) | bk (env : Env) | ct (env : Env) | rt (d : D) | ex (c : Str) (n : Int)
abbrev OS := Option (Out × Mm)
abbrev S := Env → Mm → OS
def Post (K : PySem.W.Frag) (mg : Str → Option Value) (Wx : XW) (P0 : Pl) (H0 : Hp) (P : Pl) (H : Hp) (M' : Mm) (D : Ends) : Out → Prop
 | .nx env => ∀ P' Os' H' st', Lt P H P' H' → Ok K mg P0 H0 P' Os' H' M' st' env → D.nx st' H'
 | .bk env => ∀ P' Os' H' st', Lt P H P' H' → Ok K mg P0 H0 P' Os' H' M' st' env → D.bk st' H'
 | .ct env => ∀ P' Os' H' st', Lt P H P' H' → Ok K mg P0 H0 P' Os' H' M' st' env → D.ct st' H'
 | .rt d => ∀ P' v H', LtE P0 H0 P' H' → Hk K mg P' H' M' → Is K P' H' d v → D.rt v H'
 | .ex c n => Wx P0 H0 M' c n
def tS (K : PySem.W.Frag) (mg : Str → Option Value) (Wx : XW) (f : S) : TS := fun D st H => ∃ P0 H0 P Os env M out M', Ok K mg P0 H0 P Os H M st env ∧ f env M = some (out, M') ∧ Post K mg Wx P0 H0 P H M' D out
def SS (X : Cx) (Wx : XW) (s : Stmt) (f : S) : Prop := PS X s (tS X.K X.mg Wx f)
def SB (X : Cx) (Wx : XW) (s : List Stmt) (f : S) : Prop := PSs X s (tS X.K X.mg Wx f)
def bndS (o : O) (k : D → Mm → OS) : OS := match o with
 | some (.v d, M) => k d M
 | some (.x c n, M) => some (.ex c n, M)
 | none => none
theorem bndS_inv {o : O} {k : D → Mm → OS} {r : Out} {M' : Mm} (h : bndS o k = some (r, M')) : (∃ d M, o = some (.v d, M) ∧ k d M = some (r, M')) ∨ ∃ c n, o = some (.x c n, M') ∧ r = .ex c n := by
 unfold bndS at h
 split at h
 ·exact .inl ⟨_, _, rfl, h⟩
 ·cases h; exact .inr ⟨_, _, rfl, rfl⟩
 ·cases h
section
variable {K : PySem.W.Frag} {mg : Str → Option Value} {Wx : XW} {P0 P P' P1 : Pl} {H0 H H' H1 : Hp} {M M' : Mm} {Os : List (Option Addr)} {st : L2.St} {env : Env} {d : D} {v : V} {i : Nat}
theorem set_join {α : Type} (l : List (Option α)) (i j : Nat) (x : Option α) (hi : i < l.length) : ((l.set i x)[j]?).join = if i = j then x else (l[j]?).join := by
 rw [List.getElem?_set]
 by_cases h : i = j
 ·subst h
  rw [if_pos rfl, if_pos hi, if_pos rfl]
  rfl
 ·rw [if_neg h, if_neg h]
theorem Ok.asg (k : Ok K mg P0 H0 P Os H M st env) (hi : i < env.length) (h : Is K P H d v) : Ok K mg P0 H0 P (Os.set i none) H M (st.set i (some v)) (env.set i (.val d)) where
 hk := k.hk
 base := k.base
 b0 := k.b0
 slot := fun j s e => by
  rw [set_join _ _ _ _ (by rw [k.olen]; exact hi), set_join _ _ _ _ (by rw [k.slen]; exact hi)]
  rw [List.getElem?_set] at e
  split at e
  ·rename_i ij
   subst ij
   cases e
   rw [if_pos rfl, if_pos rfl]
   exact ⟨v, rfl, h⟩
  ·rename_i ij
   rw [if_neg ij, if_neg ij]
   exact k.slot j s e
 own := fun a h => k.own a (by
  rcases List.mem_or_eq_of_mem_set h with h | h
  ·exact h
  ·cases h)
 inj := fun j l a e1 e2 => by
  rw [List.getElem?_set] at e1 e2
  split at e1
  ·split at e1 <;> cases e1
  ·split at e2
   ·split at e2 <;> cases e2
   ·exact k.inj j l a e1 e2
 olen := by rw [List.length_set, List.length_set, k.olen]
 slen := by rw [List.length_set, List.length_set, k.slen]
theorem Ok.here (k : Ok K mg P0 H0 P Os H M st env) {a : Addr} (h : some a ∈ Os) : H a ≠ none := k.hk.here a (k.own a h).1
theorem Ok.mine {a : Addr} {vs : List V} {ds : List D} (k0 : Ok K mg P0 H0 P Os H M st env) (l : LtE P H P' H') (hk : Hk K mg P' H' M') (hi : i < env.length) (ha : H a = none) (ba : P'.bd a) (nc : ∀ j, j < P'.n → P'.io j ≠ a) (e : H' a = some (.lst vs)) (h : Iss K P' H' ds vs) :
  Ok K mg P0 H0 P' (Os.set i (some a)) H' M' (st.set i (some (.ref a))) (env.set i (.own ds)) := by
 have k := k0.next l hk
 have nO : ∀ j, Os[j]? ≠ some (some a) := fun j z => k0.here (List.mem_of_getElem? z) ha
 exact {
  hk := k.hk
  base := k.base
  b0 := k.b0
  slot := fun j s e' => by
   rw [set_join _ _ _ _ (by rw [k.olen]; exact hi), set_join _ _ _ _ (by rw [k.slen]; exact hi)]
   rw [List.getElem?_set] at e'
   split at e'
   ·rename_i ij
    subst ij
    cases e'
    rw [if_pos rfl, if_pos rfl]
    exact ⟨a, vs, rfl, rfl, e, h⟩
   ·rename_i ij
    rw [if_neg ij, if_neg ij]
    exact k.slot j s e'
  own := fun b hb => by
   rcases List.mem_or_eq_of_mem_set hb with hb | hb
   ·exact k.own b hb
   ·cases hb
    exact ⟨ba, nc, k0.base.sure a ha⟩
  inj := fun j l b e1 e2 => by
   rw [List.getElem?_set] at e1 e2
   split at e1
   ·split at e1
    ·cases e1
     split at e2
     ·rename_i z1 _ z2; exact z1.symm.trans z2
     ·exact absurd e2 (nO l)
    ·cases e1
   ·split at e2
    ·split at e2
     ·cases e2; exact absurd e1 (nO j)
     ·cases e2
    ·exact k.inj j l b e1 e2
  olen := by rw [List.length_set, List.length_set, k.olen]
  slen := by rw [List.length_set, List.length_set, k.slen] }
theorem lt_chg {a : Addr} {o o' : HO} (b : P.bd a) (e : H a = some o) (nf : ¬ Fx o) : Lt P H P (upd H a o') := ⟨Nat.le_refl _, fun _ _ => rfl, fun _ z => .inl z, fun c u ec z => by
  by_cases h : c = a
  ·subst h
   rw [e] at ec
   cases ec
   exact (z.elim nf fun n => n b).elim
  ·rw [upd_ne h]; exact ec, fun c z => by
  by_cases h : c = a
  ·subst h; rw [upd_same] at z; cases z
  ·rw [upd_ne h] at z; exact z⟩
theorem nf_lst {vs : List V} : ¬ Fx (.lst vs) := fun z => by rcases z with ⟨_, z⟩ | ⟨_, _, z⟩ | ⟨_, z⟩ | ⟨_, z⟩ <;> cases z
theorem CellOk.lt {a : Addr} {c : Cl} (l : Lt P H P' H') (e : ∀ o, H a = some o → H' a = some o) (h : CellOk K mg P H a c) : CellOk K mg P' H' a c := by
  cases c with
  | lst ds =>
    obtain ⟨vs, e1, q⟩ := h
    exact ⟨vs, e _ e1, Iss.lt l q⟩
  | obj c fs =>
    obtain ⟨C, dx, gs, e1, e2, e3, q⟩ := h
    exact ⟨C, dx, gs, e1, e _ e2, e3, Iss.lt l q⟩
  | dct kvs =>
    obtain ⟨vs, e1, e2, q⟩ := h
    exact ⟨vs, e _ e1, e2, Iss.lt l q⟩
theorem Ok.chg {a : Addr} {vs vs' : List V} {ds ds' : List D} (k : Ok K mg P0 H0 P Os H M st env) (hi : env[i]? = some (.own ds)) (ho : Os[i]? = some (some a)) (e : H a = some (.lst vs)) (h : Iss K P H ds' vs') :
    Lt P H P (upd H a (.lst vs')) ∧ Ok K mg P0 H0 P Os (upd H a (.lst vs')) M st (env.set i (.own ds')) := by
  obtain ⟨b1, b2, b3⟩ := k.own a (List.mem_of_getElem? ho)
  have l : Lt P H P (upd H a (.lst vs')) := lt_chg b1 e nf_lst
  have ilt : i < env.length := (List.getElem?_eq_some_iff.mp hi).1
  refine ⟨l, ?_⟩
  exact {
    hk := ⟨k.hk.n, fun j c ej => (k.hk.cell j c ej).lt l fun o eo => by rw [upd_ne (b2 j (by rw [k.hk.n]; exact (List.getElem?_eq_some_iff.mp ej).1))]; exact eo, k.hk.inj, k.hk.bd, fun c z q => k.hk.here c z (l.sure c q)⟩
    base := ⟨k.base.n, k.base.io, k.base.bd, k.base.bm, fun c o ec n => by
      have := k.base.keep c o ec n
      rw [upd_ne (fun z => by subst z; rw [b3] at ec; cases ec)]
      exact this, fun c z => k.base.sure c (l.sure c z), k.base.nw⟩
    b0 := k.b0
    slot := fun j s ej => by
      rw [List.getElem?_set] at ej
      split at ej
      · rename_i ij
        subst ij
        cases ej
        obtain ⟨a', vs0, e1, e2, e3, q⟩ := k.slot i _ hi
        rw [ho] at e1
        cases e1
        exact ⟨a, vs', by rw [ho]; rfl, e2, upd_same, Iss.lt l h⟩
      · rename_i ij
        have q := k.slot j s ej
        cases s with
        | un => exact True.intro
        | val d => obtain ⟨v, e1, q⟩ := q; exact ⟨v, e1, Is.lt l q⟩
        | own es =>
          obtain ⟨a', ws, e1, e2, e3, q⟩ := q
          refine ⟨a', ws, e1, e2, ?_, Iss.lt l q⟩
          rw [upd_ne (fun z => ij (k.inj i j a ho (by rw [← z]; exact join_get e1)))]
          exact e3
        | exc c n => obtain ⟨v, e1, q⟩ := q; exact ⟨v, e1, q.lt l⟩
    own := k.own
    inj := k.inj
    olen := by rw [List.length_set, k.olen]
    slen := by rw [List.length_set, k.slen] }
theorem Hk.set {j : Nat} {c c' : Cl} {o' : HO} (h : Hk K mg P H M) (e : M[j]? = some c) (w : CellOk K mg P (upd H (P.io j) o') (P.io j) c') : Lt P H P (upd H (P.io j) o') ∧ LtE P H P (upd H (P.io j) o') ∧ Hk K mg P (upd H (P.io j) o') (M.set j c') := by
 have jl : j < P.n := by rw [h.n]; exact (List.getElem?_eq_some_iff.mp e).1
 obtain ⟨o, eo, nf⟩ := h.cellAt jl
 have l : Lt P H P (upd H (P.io j) o') := lt_chg (h.bd j jl) eo nf
 refine ⟨l, ⟨Nat.le_refl _, fun _ _ => rfl, fun _ z => .inl z, fun _ z => z, fun a u ea n => by rw [upd_ne (fun z => n j jl z.symm)]; exact ea, l.sure, fun k h1 h2 => absurd h1 (Nat.not_le.mpr h2)⟩, ⟨by rw [List.length_set, h.n], fun k b ek => ?_, h.inj, h.bd, fun a z q => h.here a z (l.sure a q)⟩⟩
 rw [List.getElem?_set] at ek
 split at ek
 ·rename_i jk
  subst jk
  rw [if_pos (by rw [← h.n]; exact jl)] at ek
  cases ek
  exact w
 ·rename_i jk
  have kl : k < P.n := by rw [h.n]; exact (List.getElem?_eq_some_iff.mp ek).1
  exact (h.cell k b ek).lt l fun u eu => by rw [upd_ne (fun z => jk (h.inj j k jl kl z.symm))]; exact eu
theorem Ok.frz {ds : List D} (k : Ok K mg P0 H0 P Os H M st env) (hi : env[i]? = some (.own ds)) : ∃ P' Os', Lt P H P' H ∧ Ok K mg P0 H0 P' Os' H M st (env.set i (.val (.lst ds))) := by
 obtain ⟨a, vs, e1, e2, e3, q⟩ := k.slot i _ hi
 have ho := join_get e1
 obtain ⟨b1, b2, b3⟩ := k.own a (List.mem_of_getElem? ho)
 have ilt : i < env.length := (List.getElem?_eq_some_iff.mp hi).1
 have nO : ∀ b, some b ∈ Os.set i none → some b ∈ Os ∧ b ≠ a := fun b z => by
  obtain ⟨j, hj⟩ := List.mem_iff_getElem?.mp z
  rw [List.getElem?_set] at hj
  split at hj
  ·split at hj <;> cases hj
  ·rename_i ij
   exact ⟨List.mem_of_getElem? hj, fun z => by subst z; exact ij (k.inj i j b ho hj)⟩
 have l : Lt P H (P.less (· ≠ a)) H := ⟨Nat.le_refl _, fun _ _ => rfl, fun c z => .inl z.1, fun _ _ e _ => e, fun _ z => z⟩
 refine ⟨P.less (· ≠ a), Os.set i none, l, {
  hk := ⟨k.hk.n, fun j c ej => (k.hk.cell j c ej).lt l fun _ z => z, k.hk.inj, fun j hj => ⟨k.hk.bd j hj, b2 j hj⟩, fun c z => k.hk.here c z.1⟩
  base := ⟨k.base.n, k.base.io, fun c z => k.base.bd c z.1, fun c z => ⟨k.base.bm c z, fun q => k.b0 c z (q ▸ b3)⟩, k.base.keep, k.base.sure, k.base.nw⟩
  b0 := k.b0
  slot := fun j s ej => ?_
  own := fun c z => ?_
  inj := fun j l b z1 z2 => ?_
  olen := by rw [List.length_set, List.length_set, k.olen]
  slen := by rw [List.length_set, k.slen] }⟩
 ·rw [set_join _ _ _ _ (by rw [k.olen]; exact ilt)]
  rw [List.getElem?_set] at ej
  split at ej
  ·rename_i ij
   subst ij
   cases ej
   exact ⟨.ref a, e2, a, vs, rfl, .inl ⟨fun z => z.2 rfl, .inl e3⟩, Iss.less q⟩
  ·rename_i ij
   rw [if_neg ij]
   have q := k.slot j s ej
   cases s with
   | un => exact True.intro
   | val d => obtain ⟨v, e1, q⟩ := q; exact ⟨v, e1, Is.less q⟩
   | own es => obtain ⟨a', ws, e1, e2, e3, q⟩ := q; exact ⟨a', ws, e1, e2, e3, Iss.less q⟩
   | exc c n => obtain ⟨v, e1, q⟩ := q; exact ⟨v, e1, q.lt l⟩
 ·obtain ⟨z1, z2⟩ := nO c z
  obtain ⟨c1, c2, c3⟩ := k.own c z1
  exact ⟨⟨c1, z2⟩, c2, c3⟩
 ·rw [List.getElem?_set] at z1 z2
  split at z1
  ·split at z1 <;> cases z1
  ·split at z2
   ·split at z2 <;> cases z2
   ·exact k.inj j l b z1 z2
end
end E3
namespace E3
open PySem PySem.Spec PyProof.Rows L2
section
variable {X : Cx} {Wx : XW} {pos : Pos}
theorem ps_imp {s : Stmt} {t t' : TS} (h : PS X s t) (w : ∀ D σ H, t' D σ H → t D σ H) : PS X s t' := fun pins s σ H D I hw => h pins s σ H D I (w D σ H hw)
theorem pss_imp {s : List Stmt} {t t' : TS} (h : PSs X s t) (w : ∀ D σ H, t' D σ H → t D σ H) : PSs X s t' := fun pins s σ H D I hw => h pins s σ H D I (w D σ H hw)
def sEnd : S := fun env M => some (.nx env, M)
def sSeq (f g : S) : S := fun env M => match f env M with
 | some (.nx e, M1) => g e M1
 | o => o
theorem sb_nil : SB X Wx [] sEnd := by
 refine pss_imp pss_nil ?_
 rintro D st H ⟨P0, H0, P, Os, env, M, out, M', k, e, q⟩
 cases e
 exact q P Os H st (Lt.refl P H) k
theorem Post.lt {K : PySem.W.Frag} {mg : Str → Option Value} {P0 P P1 : Pl} {H0 H H1 : Hp} {M' : Mm} {D : Ends} {o : Out} (l : Lt P H P1 H1) (q : Post K mg Wx P0 H0 P H M' D o) : Post K mg Wx P0 H0 P1 H1 M' D o := by
 cases o with
 | nx env => exact fun P' Os' H' st' l' k => q P' Os' H' st' (l.trans l') k
 | bk env => exact fun P' Os' H' st' l' k => q P' Os' H' st' (l.trans l') k
 | ct env => exact fun P' Os' H' st' l' k => q P' Os' H' st' (l.trans l') k
 | rt d => exact q
 | ex c n => exact q
theorem sb_cons {s : Stmt} {ss : List Stmt} {f g : S} (h1 : SS X Wx s f) (h2 : SB X Wx ss g) : SB X Wx (s :: ss) (sSeq f g) := by
  refine pss_imp (pss_cons h1 h2) ?_
  rintro D st H ⟨P0, H0, P, Os, env, M, out, M', k, e, q⟩
  unfold sSeq at e
  split at e
  · rename_i e1 M1 ef
    refine ⟨P0, H0, P, Os, env, M, _, _, k, ef, fun P1 Os1 H1 st1 l1 k1 => ?_⟩
    exact ⟨P0, H0, P1, Os1, e1, M1, _, _, k1, e, q.lt l1⟩
  · rename_i o ho
    cases ef : f env M with
    | none => rw [ef] at e; cases e
    | some om =>
      obtain ⟨o1, M1⟩ := om
      rw [ef] at e
      cases e
      refine ⟨P0, H0, P, Os, env, M, _, _, k, ef, ?_⟩
      cases out with
      | nx env' => exact (ho _ _ ef).elim
      | bk env' => exact q
      | ct env' => exact q
      | rt d => exact q
      | ex c n => exact q
def sAsg (i : Nat) (f : E) : S := fun env M => bndS (f env M) fun d M1 => if i < env.length then some (.nx (env.set i (.val d)), M1) else none
theorem ss_asg {i : Nat} {x : Str} {e : Expr} {f : E} {pos' : Pos} (hN : X.N.Nodup) (hi : X.N[i]? = some x) (hx : Loc X.env.scope x) (he : SE X Wx .val e f) (hs : swapsWith e (some (.Name x pos')) pos.line X.env = pure false := by rfl)
  (hf : X.fn x = true ∨ X.env.scope.names.lookup x = some .local := by first | exact .inl rfl | exact .inr rfl) : SS X Wx (.Assign [.Name x pos'] e pos) (sAsg i f) := by
 refine ps_imp (ps_set hN hi hx he hs hf) ?_
 rintro D st H ⟨P0, H0, P, Os, env, M, out, M', k, e, q⟩
 unfold sAsg at e
 rcases bndS_inv e with ⟨d, M1, e1, e⟩ | ⟨c, n, e1, rfl⟩
 ·split at e
  ·rename_i hl
   cases e
   exact ⟨P0, H0, P, Os, env, M, _, _, k, e1, fun P1 v1 H1 l1 h1 i1 => q _ _ _ _ (l1.lt k.hk) ((k.next l1 h1).asg hl i1)⟩
  ·cases e
 ·exact ⟨P0, H0, P, Os, env, M, _, _, k, e1, q⟩
def sMine (i : Nat) (f : E) : S := fun env M => bndS (f env M) fun d M1 => match d with
 | .lst ds => if i < env.length then some (.nx (env.set i (.own ds)), M1) else none
 | _ => none
theorem ss_mine {i : Nat} {x : Str} {e : Expr} {f : E} {pos' : Pos} (hN : X.N.Nodup) (hi : X.N[i]? = some x) (hx : Loc X.env.scope x) (he : SN X Wx e f) (hs : swapsWith e (some (.Name x pos')) pos.line X.env = pure false := by rfl)
  (hf : X.fn x = true ∨ X.env.scope.names.lookup x = some .local := by first | exact .inl rfl | exact .inr rfl) : SS X Wx (.Assign [.Name x pos'] e pos) (sMine i f) := by
 refine ps_imp (ps_set hN hi hx he hs hf) ?_
 rintro D st H ⟨P0, H0, P, Os, env, M, out, M', k, e, q⟩
 unfold sMine at e
 rcases bndS_inv e with ⟨d, M1, e1, e⟩ | ⟨c, n, e1, rfl⟩
 ·cases d <;> simp only [reduceCtorEq] at e
  rename_i ds
  split at e
  ·rename_i hl
   cases e
   exact ⟨P0, H0, P, Os, env, M, _, _, k, e1, ds, rfl, fun P1 a vs H1 l1 h1 ha ba nc ea is => q _ _ _ _ (l1.lt k.hk) (k.mine l1 h1 hl ha ba nc ea is)⟩
  ·cases e
 ·exact ⟨P0, H0, P, Os, env, M, _, _, k, e1, q⟩
def sRet (f : E) : S := fun env M => bndS (f env M) fun d M1 => some (.rt d, M1)
theorem ss_ret {e : Expr} {f : E} (he : SE X Wx .val e f) : SS X Wx (.Return (some e) pos) (sRet f) := by
 refine ps_imp (ps_ret he) ?_
 rintro D st H ⟨P0, H0, P, Os, env, M, out, M', k, e, q⟩
 unfold sRet at e
 rcases bndS_inv e with ⟨d, M1, e1, e⟩ | ⟨c, n, e1, rfl⟩
 ·cases e
  exact ⟨P0, H0, P, Os, env, M, _, _, k, e1, fun P1 v1 H1 l1 h1 i1 => q P1 v1 H1 (k.base.trans l1) h1 i1⟩
 ·exact ⟨P0, H0, P, Os, env, M, _, _, k, e1, q⟩
def sDrop (f : E) : S := fun env M => bndS (f env M) fun _ M1 => some (.nx env, M1)
theorem ss_drop {e : Expr} {f : E} (he : SE X Wx .bor e f) (hs : swapsWith e none pos.line X.env = pure false := by rfl) : SS X Wx (.Expr e pos) (sDrop f) := by
 refine ps_imp (ps_expr he hs) ?_
 rintro D st H ⟨P0, H0, P, Os, env, M, out, M', k, e, q⟩
 unfold sDrop at e
 rcases bndS_inv e with ⟨d, M1, e1, e⟩ | ⟨c, n, e1, rfl⟩
 ·cases e
  exact ⟨P0, H0, P, Os, env, M, _, _, k, e1, fun P1 v1 H1 l1 h1 i1 => q _ _ _ _ (l1.lt k.hk) (k.next l1 h1)⟩
 ·exact ⟨P0, H0, P, Os, env, M, _, _, k, e1, q⟩
def sIf (c : E) (f g : S) : S := fun env M => bndS (c env M) fun d M1 => match d with
 | .bl b => if b = true then f env M1 else g env M1
 | _ => none
theorem ss_if {c : Expr} {a b : List Stmt} {t : E} {f g : S} (hc : ST X Wx c t) (ha : SB X Wx a f) (hb : SB X Wx b g) : SS X Wx (.If c a b pos) (sIf t f g) := by
  refine ps_imp (ps_if hc ha hb) ?_
  rintro D st H ⟨P0, H0, P, Os, env, M, out, M', k, e, q⟩
  unfold sIf at e
  rcases bndS_inv e with ⟨d, M1, e1, e⟩ | ⟨c, n, e1, rfl⟩
  · cases d <;> simp only [reduceCtorEq] at e
    rename_i b
    refine tTt_go k e1 ⟨b, rfl, fun P1 H1 l1 h1 => ?_⟩
    cases b with
    | true =>
      rw [if_pos rfl] at e ⊢
      exact ⟨P0, H0, P1, Os, env, M1, _, _, k.next l1 h1, e, q.lt (l1.lt k.hk)⟩
    | false =>
      rw [if_neg (by decide)] at e ⊢
      exact ⟨P0, H0, P1, Os, env, M1, _, _, k.next l1 h1, e, q.lt (l1.lt k.hk)⟩
  · exact tTt_go k e1 q
def sFrz (i : Nat) : S := fun env M => match env[i]? with
 | some (.own ds) => some (.nx (env.set i (.val (.lst ds))), M)
 | _ => none
theorem sb_frz {ss : List Stmt} {i : Nat} {g : S} (h : SB X Wx ss g) : SB X Wx ss (sSeq (sFrz i) g) := by
 refine pss_imp h ?_
 rintro D st H ⟨P0, H0, P, Os, env, M, out, M', k, e, q⟩
 unfold sSeq sFrz at e
 split at e
 ·rename_i e1 M1 ef
  split at ef
  ·rename_i ds es
   cases ef
   obtain ⟨P1, Os1, l1, k1⟩ := k.frz es
   exact ⟨P0, H0, P1, Os1, _, _, _, _, k1, e, q.lt l1⟩
  ·cases ef
 ·rename_i ho
  split at e
  ·rename_i es
   exact (ho _ _ (by rw [es])).elim
  ·cases e
def sApp (i : Nat) (f : E) : S := fun env M => match env[i]? with
 | some (.own ds) => bndS (f env M) fun d M1 => if ds.length < sizeLine then some (.nx (env.set i (.own (ds ++ [d]))), M1) else none
 | _ => none
theorem ss_app {i : Nat} {x : Str} {e : Expr} {f : E} {p0 p q : Pos} (hN : X.N[i]? = some x) (hv : Vis X.env.scope x) (he : SE X Wx .val e f) (hd : (x == ("__debug__" : Str)) = false := by decide +kernel) (hcd : (x == ("__classdict__" : Str)) = false := by decide +kernel)
  (hfew : ((backTo q (starEach [e] X.env)).all (fun x => !x.1) && (backToKw q (keywordEach [] X.env)).all (fun x => x.1.isSome) && decide ([e].length + ([] : List Keyword).length + (if ([] : List Keyword).isEmpty then 0 else 1) < 30)) = true := by rfl)
  (hline : (p.endLine == q.line) = true := by rfl) (hs : starEach [e] X.env = (false, eval e X.env) :: starEach [] X.env := by rfl) (hw : swapsWith (.Call (.Attribute (.Name x p0) "append" p) [e] [] q) none pos.line X.env = pure false := by rfl) :
  SS X Wx (.Expr (.Call (.Attribute (.Name x p0) "append" p) [e] [] q) pos) (sApp i f) := by
 refine ps_imp (ps_expr (pe_bm PySem.F.plainAttrs_list PySem.F.slot_list_append PySem.F.type_list_append mt_append (pe_var hN hv hd hcd) (pa_cons he pa_nil hs) rfl hfew hline hs rfl) hw) ?_
 rintro D st H ⟨P0, H0, P, Os, env, M, out, M', k, e, q⟩
 unfold sApp at e
 split at e
 ·rename_i ds es
  obtain ⟨a, vs, o1, o2, o3, o4⟩ := k.slot i _ es
  refine ⟨.ref a, join_get o2, .inl ⟨rfl, vs, .inl (.inl o3)⟩, ?_⟩
  rcases bndS_inv e with ⟨d, M1, e1, e⟩ | ⟨c, n, e1, rfl⟩
  ·split at e
   ·rename_i hz
    cases e
    refine tE_go k e1 fun P1 v1 H1 l1 h1 i1 => ?_
    have k1 := k.next l1 h1
    obtain ⟨a', vs', o1', o2', o3', o4'⟩ := k1.slot i _ es
    have ea : a' = a := by
     have z := o2'.symm.trans o2
     cases z
     rfl
    subst ea
    refine ⟨a', vs', v1, rfl, rfl, o3', by rw [o4'.len]; exact hz, ?_⟩
    obtain ⟨l2, k2⟩ := k1.chg es (join_get o1') o3' (Iss.append o4' (Iss.one i1))
    exact q _ _ _ _ ((l1.lt k.hk).trans l2) k2
   ·cases e
  ·exact tE_go k e1 q
 ·cases e
def Wk (K : PySem.W.Frag) (P1 : Pl) (H1 : Hp) (J : It) (ds : List D) : Prop := ∀ P H, Lt P1 H1 P H → (∀ k, k < ds.length → J.go k H) ∧ (∀ k, ds.length ≤ k → k ≤ ds.length → J.stop k H) ∧ ∀ k x H', J.yld k H x H' → k < ds.length → H' = H ∧ ∃ d, ds[k]? = some d ∧ Is K P H d x
def IQ (K : PySem.W.Frag) (mg : Str → Option Value) (Wx : XW) (P0 : Pl) (H0 : Hp) (P : Pl) (H : Hp) (M' : Mm) (R : It → Hp → Prop) : ResA → Prop
 | .v ds => ∀ P' H' J, LtE P H P' H' → Hk K mg P' H' M' → Wk K P' H' J ds → R J H'
 | .x c n => Wx P0 H0 M' c n
def tI (K : PySem.W.Frag) (mg : Str → Option Value) (Wx : XW) (fs : EA) : TI := fun st H R => ∃ P0 H0 P Os env M r M', Ok K mg P0 H0 P Os H M st env ∧ fs env M = some (r, M') ∧ IQ K mg Wx P0 H0 P H M' R r
def SI (X : Cx) (Wx : XW) (tg iter : Expr) (fs : EA) : Prop := PI X tg iter (tI X.K X.mg Wx fs)
theorem pi_imp {tg iter : Expr} {t t' : TI} (h : PI X tg iter t) (w : ∀ σ H R, t' σ H R → t σ H R) : PI X tg iter t' := fun pins s σ H R I hw => h pins s σ H R I (w σ H R hw)
def loopS (i : Nat) (body : S) : List D → Env → Mm → OS
  | [], env, M => some (.nx env, M)
  | d :: ds, env, M => if i < env.length then (match body (env.set i (.val d)) M with
    | some (.nx e, M1) => loopS i body ds e M1
    | some (.ct e, M1) => loopS i body ds e M1
    | some (.bk e, M1) => some (.nx e, M1)
    | some (.rt d, M1) => some (.rt d, M1)
    | some (.ex c n, M1) => some (.ex c n, M1)
    | none => none) else none
def sFor (i : Nat) (fs : EA) (body : S) : S := fun env M => match fs env M with
 | some (.v ds, M1) => loopS i body ds env M1
 | some (.x c n, M1) => some (.ex c n, M1)
 | none => none
theorem loop_read {K : PySem.W.Frag} {mg : Str → Option Value} {P0 P1 : Pl} {H0 H1 : Hp} {Os : List (Option Addr)} {M M' : Mm} {st : L2.St} {env : Env} {i : Nat} {b : S} {J : It} {ds : List D} {out : Out} {D : Ends} (k : Ok K mg P0 H0 P1 Os H1 M st env) (wk : Wk K P1 H1 J ds)
  (h : loopS i b ds env M = some (out, M')) (q : Post K mg Wx P0 H0 P1 H1 M' D out) :
  ∃ W : Nat → Nat → L2.St → Hp → Prop, (∃ m, W 0 m st H1) ∧ ∀ j m σ H, W j m σ H →
   (J.stop j H ∧ D.nx σ H) ∨ (J.go j H ∧ ∃ Nn : L2.St → Hp → Prop, (∀ σ' H', Nn σ' H' → ∃ m', m' < m ∧ W (j + 1) m' σ' H') ∧ ∀ x H', J.yld j H x H' → gName i x σ H' fun σ2 H2 => tS K mg Wx b { D with nx := Nn, ct := Nn, bk := D.nx } σ2 H2) := by
 refine ⟨fun j m σ H => m = ds.length - j ∧ j ≤ ds.length ∧ ∃ P Os' M1 env', Lt P1 H1 P H ∧ Ok K mg P0 H0 P Os' H M1 σ env' ∧ loopS i b (ds.drop j) env' M1 = some (out, M'), ⟨ds.length, by simp, Nat.zero_le _, P1, Os, M, env, Lt.refl _ _, k, h⟩, ?_⟩
 rintro j m σ H ⟨rfl, hj, P, Os', M1, env', lt, k', h'⟩
 obtain ⟨w1, w2, w3⟩ := wk P H lt
 by_cases hlt : j < ds.length
 ·refine .inr ⟨w1 j hlt, fun σ' H' => ∃ P Os' M1 env', Lt P1 H1 P H' ∧ Ok K mg P0 H0 P Os' H' M1 σ' env' ∧ loopS i b (ds.drop (j + 1)) env' M1 = some (out, M'), fun σ' H' z => ⟨ds.length - (j + 1), by omega, rfl, hlt, z⟩, fun x H' y => ?_⟩
  obtain ⟨e3, d, ed, iv⟩ := w3 j x H' y hlt
  subst e3
  have ed' : ds.drop j = d :: ds.drop (j + 1) := by
   rw [List.drop_eq_getElem_cons hlt]
   rw [List.getElem?_eq_getElem hlt] at ed
   rw [Option.some.inj ed]
  rw [ed'] at h'
  simp only [loopS] at h'
  split at h'
  ·rename_i hi
   have k2 := k'.asg hi iv
   split at h'
   ·rename_i e M2 eb
    exact ⟨P0, H0, P, _, _, M1, _, _, k2, eb, fun P' Os2 H2 st2 l2 k3 => ⟨P', Os2, _, e, lt.trans l2, k3, h'⟩⟩
   ·rename_i e M2 eb
    exact ⟨P0, H0, P, _, _, M1, _, _, k2, eb, fun P' Os2 H2 st2 l2 k3 => ⟨P', Os2, _, e, lt.trans l2, k3, h'⟩⟩
   ·rename_i e M2 eb
    cases h'
    exact ⟨P0, H0, P, _, _, M1, _, _, k2, eb, fun P' Os2 H2 st2 l2 k3 => q P' Os2 H2 st2 (lt.trans l2) k3⟩
   ·rename_i e M2 eb
    cases h'
    exact ⟨P0, H0, P, _, _, M1, _, _, k2, eb, q⟩
   ·rename_i c n M2 eb
    cases h'
    exact ⟨P0, H0, P, _, _, M1, _, _, k2, eb, q⟩
   ·cases h'
  ·cases h'
 ·have ej : j = ds.length := by omega
  subst ej
  rw [List.drop_length] at h'
  cases h'
  exact .inl ⟨w2 _ (Nat.le_refl _) (Nat.le_refl _), q P Os' H σ lt k'⟩
theorem ss_for {i : Nat} {x : Str} {p : Pos} {iter : Expr} {body : List Stmt} {fs : EA} {b : S} (hp : PassesOwn (model X.prog X.w) X.A X.env X.xe) (hc : X.calm = true) (hN : X.N.Nodup) (hi : X.N[i]? = some x) (hx : Loc X.env.scope x) (hI : SI X Wx (.Name x p) iter fs) (hb : SB X Wx body b)
  (hf : X.fn x = true ∨ X.env.scope.names.lookup x = some .local := by first | exact .inl rfl | exact .inr rfl) (hs : ∀ x, foldedSetIterable iter X.env x = pure x := by intro _; rfl) : SS X Wx (.For (.Name x p) iter body [] pos) (sFor i fs b) := by
 refine ps_imp (ps_for hp hc hI (pg_name hN hi hx hf) hb hs) ?_
 rintro D st H ⟨P0, H0, P, Os, env, M, out, M', k, e, q⟩
 unfold sFor at e
 split at e
 ·rename_i ds M1 ef
  exact ⟨P0, H0, P, Os, env, M, _, _, k, ef, fun P1 H1 J l1 h1 wk => loop_read (k.next l1 h1) wk e (q.lt (l1.lt k.hk))⟩
 ·rename_i c n M1 ef
  cases e
  exact ⟨P0, H0, P, Os, env, M, _, _, k, ef, q⟩
 ·cases e
def iLst (f : E) : EA := fun env M => match f env M with
 | some (.v (.lst ds), M1) => some (.v ds, M1)
 | some (.x c n, M1) => some (.x c n, M1)
 | _ => none
theorem si_lst {tg e : Expr} {f : E} (h : SE X Wx .val e f) : SI X Wx tg e (iLst f) := by
 refine pi_imp (pi_list h) ?_
 rintro st H R ⟨P0, H0, P, Os, env, M, r, M', k, e, q⟩
 unfold iLst at e
 split at e
 ·rename_i ds M1 ef
  cases e
  refine ⟨P0, H0, P, Os, env, M, _, _, k, ef, fun P1 v1 H1 l1 h1 i1 => ?_⟩
  obtain ⟨a, vs, rfl, ra, is⟩ := i1
  refine ⟨a, rfl, ⟨vs, ra.imp (·.2) id⟩, q P1 H1 _ l1 h1 fun P2 H2 l2 => ?_⟩
  have ra2 := l2.rda ra
  have is2 := Iss.lt l2 is
  have sq : SqL X.K H2 a vs := ra2.imp (·.2) id
  refine ⟨fun j hj => ?_, fun j h1 h2 => ⟨vs, sq, by rw [is2.len]; exact h1⟩, fun j x H' y hj => ⟨y.1, ?_⟩⟩
  ·obtain ⟨v, ev, _⟩ := Iss.get is2 (List.getElem?_eq_getElem hj)
   exact ⟨vs, v, sq, ev⟩
  ·obtain ⟨v, ev, iv⟩ := Iss.get is2 (List.getElem?_eq_getElem hj)
   have := y.2 vs sq
   rw [ev] at this
   cases this
   exact ⟨_, List.getElem?_eq_getElem hj, iv⟩
 ·rename_i c n M1 ef
  cases e
  exact ⟨P0, H0, P, Os, env, M, _, _, k, ef, q⟩
 ·cases e
end
end E3
namespace E3
open PySem PySem.Spec PyProof.Rows L2
abbrev G := List D → Mm → O
def spG (K : PySem.W.Frag) (mg : Str → Option Value) (n : Nat) (g : G) : Sp := fun vs H Q _ => vs.length = n ∧ ∃ P M ds d M', Hk K mg P H M ∧ Iss K P H ds vs ∧ g ds M = some (.v d, M') ∧ ∀ P' v H', LtE P H P' H' → Hk K mg P' H' M' → Is K P' H' d v → Q v H'
def endS (o : OS) : O := match o with
 | some (.rt d, M) => some (.v d, M)
 | some (.nx _, M) => some (.v .non, M)
 | some (.ex c n, M) => some (.x c n, M)
 | _ => none
def fnG (n : Nat) (b : S) : G := fun ds M => endS (b (ds.map .val ++ List.replicate (n - ds.length) .un) M)
theorem start_ok {K : PySem.W.Frag} {mg : Str → Option Value} {P : Pl} {H : Hp} {M : Mm} {N : List Str} {ds : List D} {vs : List V} (hk : Hk K mg P H M) (hl : vs.length ≤ N.length) (h : Iss K P H ds vs) :
  Ok K mg P H P (List.replicate N.length none) H M (L2.start N vs) (ds.map .val ++ List.replicate (N.length - ds.length) .un) := by
 have hd := h.len
 refine ⟨hk, LtE.refl P H, hk.here, fun i s e => ?_, fun a z => ?_, fun i j a e1 _ => ?_, by simp; omega, by simp [L2.start]; omega⟩
 ·have e0 : ((List.replicate N.length (none : Option Addr))[i]?).join = none := by
   rw [List.getElem?_replicate]
   split <;> rfl
  rw [e0]
  by_cases hi : i < ds.length
  ·rw [List.getElem?_append_left (by simpa using hi), List.getElem?_map, List.getElem?_eq_getElem hi] at e
   simp only [Option.map_some, Option.some.injEq] at e
   subst e
   obtain ⟨v, ev, p⟩ := h.get (List.getElem?_eq_getElem hi)
   refine ⟨v, ?_, p⟩
   unfold L2.start
   rw [List.getElem?_append_left (by rw [List.length_map]; omega), List.getElem?_map, ev]
   rfl
  ·rw [List.getElem?_append_right (by simpa using hi), List.getElem?_replicate] at e
   split at e
   ·cases e; exact True.intro
   ·cases e
 ·exact absurd (List.eq_of_mem_replicate z) (by simp)
 ·rw [List.getElem?_replicate] at e1
  split at e1 <;> cases e1
structure FunD (K : PySem.W.Frag) (x qual : Str) (st : Stmt) (f : Addr) (fd : FuncData) : Prop where
 ex : ∃ (oc : Value) (od : Option Addr) (dV kV doc pm : Value) (an : Option Addr) (cdv ct : Value) (osl : Array (Option Value)),
  fd = PySem.W.fnOf x qual (defArgs st) (defBody st) (defScope st) dV kV doc pm an cdv ct ∧ K.lookup f = some ⟨oc, od, .func fd, osl⟩ ∧ PySem.W.codeIn K cdv qual = true
 kp : PySem.W.keepIn K (.ref f) = true
theorem funD_mk {K : PySem.W.Frag} {x qual : Str} {st : Stmt} {f : Addr} {oc : Value} {od an : Option Addr} {osl : Array (Option Value)} {dV kV doc pm cdv ct : Value} (l : K.lookup f = some ⟨oc, od, .func (PySem.W.fnOf x qual (defArgs st) (defBody st) (defScope st) dV kV doc pm an cdv ct), osl⟩)
  (c : PySem.W.codeIn K cdv qual = true) (k : PySem.W.keepIn K (.ref f) = true) : FunD K x qual st f (PySem.W.fnOf x qual (defArgs st) (defBody st) (defScope st) dV kV doc pm an cdv ct) := ⟨⟨oc, od, dV, kV, doc, pm, an, cdv, ct, osl, rfl, l, c⟩, k⟩
section
variable {P : Program} {w : World} {K : PySem.W.Frag} {mg : Str → Option Value} {base : Heap} {k : Nat} {x qual : Str} {st : Stmt} {f : Addr} {fd : FuncData} {N ps : List Str} {b : S}
def W0 : XW := fun _ _ _ _ _ => False
abbrev cx0 (P : Program) (w : World) (K : PySem.W.Frag) (mg : Str → Option Value) (base : Heap) (N : List Str) (qual : Str) (st : Stmt) (f : Addr) (cdv : Value) (A : Around) (outer : List PySem.Env) (s : Shared) (H : Hp) (E : XK) : Cx := (cxOf CX0 P w K mg base N qual (defScope st) f cdv A outer s H E).nox
theorem fn_run (F : FunD K x qual st f fd) (S : FnScope N ps (defScope st)) (hp : ps.length ≤ N.length)
  (hb : ∀ cdv A outer s H E, Room k (A.deeper (envOfC qual (defScope st) s.heap.objs.size f cdv)) → SB (cx0 P w K mg base N qual st f cdv A outer s H E) W0 (defBody st) b) : FnOk P w K mg base CX0 (k + 1) f fd ps (spG K mg ps.length (fnG N.length b)) := by
 obtain ⟨oc, od, dV, kV, doc, pm, an, cdv, ct, osl, rfl, lk, hcd⟩ := F.ex
 refine fn_of lk hcd S (fun vs H Q E h => h.1) fun A outer s H vs Q E hr h => ?_
 obtain ⟨hl, Pl, M, ds, d, M', hk, is, e, q⟩ := h
 refine ⟨_, PSs.nox (hb cdv A outer s H E hr), ?_⟩
 unfold fnG endS at e
 have st0 := start_ok (N := N) hk (by omega) is
 split at e
 ·rename_i d' M2 eb
  cases e
  exact ⟨Pl, H, Pl, _, _, M, _, _, st0, eb, fun P' v H' l h i => q P' v H' l h i⟩
 ·rename_i env M2 eb
  cases e
  exact ⟨Pl, H, Pl, _, _, M, _, _, st0, eb, fun P' Os' H' st' _ k' => q P' .non H' k'.base k'.hk rfl⟩
 ·rename_i c n M2 eb
  cases e
 ·cases e
def AtG (P : Program) (w : World) (K : PySem.W.Frag) (mg : Str → Option Value) (base : Heap) (k : Nat) (f : Str) (n : Nat) (g : G) : Prop :=
 ∃ fa fd ps ds dvs sp, mg f = some (.ref fa) ∧ PySem.W.keepIn K (.ref fa) = true ∧ FnOk P w K mg base CX0 k fa fd ps sp ∧ Binds K fd ps ds ∧ Vals dvs ds ∧ ∀ vs H Q E, spG K mg n g vs H Q E → sp (vs ++ dvs) H Q E
theorem fn_at (F : FunD K x qual st f fd) (S : FnScope N ps (defScope st)) (hp : ps.length ≤ N.length) (hm : mg x = some (.ref f)) (hd : Binds K fd ps [])
  (hb : ∀ cdv A outer s H E, Room k (A.deeper (envOfC qual (defScope st) s.heap.objs.size f cdv)) → SB (cx0 P w K mg base N qual st f cdv A outer s H E) W0 (defBody st) b) : AtG P w K mg base (k + 1) x ps.length (fnG N.length b) :=
 ⟨f, fd, ps, [], [], _, hm, F.kp, fn_run F S hp hb, hd, .nil, fun vs H Q E h => by rw [List.append_nil]; exact h⟩
theorem AtG.mono {j : Nat} {n : Nat} {g : G} (a : AtG P w K mg base j x n g) (h : j ≤ k) : AtG P w K mg base k x n g := by
 obtain ⟨fa, fd, ps, ds, dvs, sp, h1, h2, h3, h4⟩ := a
 exact ⟨fa, fd, ps, ds, dvs, sp, h1, h2, h3.mono h, h4⟩
end
section
variable {X : Cx} {Wx : XW} {m : Mode}
def sCall (g : G) (fs : EA) : E := fun env M => bndA (fs env M) fun ds M1 => match g ds M1 with
 | some (.v d, M2) => some (.v d, M2)
 | _ => none
theorem AllM.len {K : PySem.W.Frag} {P : Pl} {H : Hp} : ∀ {ds : List D} {vs : List V}, AllM K P H m ds vs → vs.length = ds.length
  | [], _, h => by rw [show _ = [] from h]; rfl
  | d :: ds, _, h => by
    obtain ⟨v, r, e, _, q⟩ := h
    subst e
    simp [AllM.len q]
def Cnt (n : Nat) (fs : EA) : Prop := ∀ env M ds M', fs env M = some (.v ds, M') → ds.length = n
theorem cnt_nil : Cnt 0 sNil := fun env M ds M' e => by cases e; rfl
theorem cnt_cons {n : Nat} {f : E} {fs : EA} (h : Cnt n fs) : Cnt (n + 1) (sCons f fs) := fun env M ds M' e => by
 unfold sCons at e
 split at e
 ·split at e
  ·rename_i ef
   cases e
   rw [List.length_cons, h _ _ _ _ ef]
  ·cases e
  ·cases e
 ·cases e
 ·cases e
theorem se_call {k n : Nat} {f : Str} {g : G} {e : Expr} {es : List Expr} {fs : EA} {p pos : Pos} (a : AtG X.prog X.w X.K X.mg X.base k f n g) (hr : Room k X.A) (hg : Gl X f) (ha : SA X Wx .val (e :: es) fs) (hn : Cnt n fs) (hdb : (f == ("__debug__" : Str)) = false := by decide +kernel)
  (he : starEach (e :: es) X.env = (false, eval e X.env) :: starEach es X.env := by rfl) (hpl : (backTo pos (starEach es X.env)).any (·.1) = false := by rfl) : SE X Wx m (.Call (.Name f p) (e :: es) [] pos) (sCall g fs) := by
 obtain ⟨fa, fd, ps, ds, dvs, sp, hm, hk, F, hb, hv, himp⟩ := a
 refine pe_imp (pe_call F hr hg hm hk hb hv pass0 ha hdb he hpl) ?_
 rintro st H Q ⟨P0, H0, P, Os, env, M, r, M', k, e, q⟩
 unfold sCall at e
 rcases bndA_inv e with ⟨ds, M1, e1, e⟩ | ⟨c, n, e1, rfl⟩
 ·split at e
  ·rename_i d M2 eg
   cases e
   exact ⟨P0, H0, P, Os, env, M, _, _, k, e1, fun P1 vs H1 l1 h1 i1 => himp _ _ _ _ ⟨by rw [i1.len]; exact hn _ _ _ _ e1, P1, M1, ds, d, _, h1, i1.iss, eg, fun P2 v H2 l2 h2 i2 => q P2 v H2 (l1.trans l2) h2 (IsM.of h2 i2)⟩⟩
  ·cases e
 ·exact ⟨P0, H0, P, Os, env, M, _, _, k, e1, q⟩
end
end E3
namespace E3
open PySem PySem.Spec PyProof.Rows L2
def CMulB (i j : Int) : Prop := CMul i j ∨ (i.natAbs.log2 < 10000 ∧ j.natAbs.log2 < 10000)
theorem bits_log {i : Int} (h : i.natAbs.log2 < 10000) : Builtin.Int.intBits i ≤ 10001 := by
 unfold Builtin.Int.intBits
 split <;> omega
theorem CMulB.ok {i j : Int} (h : CMulB i j) : IntMulOk i j := by
 rcases h with h | ⟨h1, h2⟩
 ·exact h.ok
 ·exact mulOk_of_bits (bits_log h1) (bits_log h2) (by decide)
theorem op_mulB {X : Cx} : OpR X (binaryOp .Mult) (rI CMulB fun i j => .int (i * j)) := opI fun _ _ _ _ _ _ _ hc q => mul_int q hc.ok
section
variable {X : Cx} {pins : List (Addr × Obj)} {σ : L2.St} {H : Hp} {s : Shared} {K : PySem.W.Frag}
def rCatR (K : PySem.W.Frag) : R2 := fun x y H Q => ∃ l b xs zs, x = .ref l ∧ y = .ref b ∧ SqL K H l xs ∧ SqL K H b zs ∧ xs.length + zs.length ≤ sizeLine ∧ ∀ p, H p = none → Q (.ref p) (upd H p (.lst (xs ++ zs)))
theorem op_catR : OpR X (binaryOp .Add) (rCatR X.K) := by
 intro pins s σ H x y v u Q I rx ry h
 obtain ⟨l, b, xs, zs, rfl, rfl, hH, hB, hz, q⟩ := h
 cases rx
 cases ry
 obtain ⟨z, its, r, ⟨cls, dd, data, sl⟩, ho, hc, n, hd⟩ := sql I hH
 obtain ⟨z2, its2, r2, ⟨cls2, dd2, data2, sl2⟩, ho2, hc2, n2, hd2⟩ := sql I hB
 simp only at hc hd hc2 hd2
 subst hc hd hc2 hd2
 have hl := r.length
 have hl2 := r2.length
 refine concat_meets ⟨_, ho, rfl⟩ ⟨_, ho2, rfl⟩ noFill_list_add seq_list_add F.slot_list_add F.entry_list_add (F.args_list_add_2 _ _) (list_addW l b its.toArray its2.toArray n n2 dd dd2 sl sl2 (by rw [List.size_toArray, List.size_toArray]; omega)) ⟨ho, ho2, ?_⟩
 have ea : its.toArray ++ its2.toArray = (its ++ its2).toArray := by simp
 rw [ea]
 exact ⟨.ref _, _, I.lnew (t' := s.toks) (r.append r2) (by rw [List.length_append]; omega), rfl, q _ I.fresh⟩
theorem new_lst {P : Pl} {H : Hp} {ds : List D} {vs : List V} {Q : VK} (hn : ∀ p, H p = none → ¬ P.bd p) (h : Iss K P H ds vs) (q : ∀ u H', Same H H' → Is K P H' (.lst ds) u → Q u H') : ∀ p, H p = none → Q (.ref p) (upd H p (.lst vs)) := fun p hp => by
 have s := same_new (o := .lst vs) hp
 exact q _ _ s ⟨p, vs, rfl, .inl ⟨hn p hp, .inl upd_same⟩, Iss.lt ⟨Nat.le_refl _, fun _ _ => rfl, fun _ z => .inl z, fun a o e _ => s a o e, fun a z => s.free z⟩ h⟩
theorem new_tup {P : Pl} {H : Hp} {ds : List D} {vs : List V} {Q : VK} (h : Iss K P H ds vs) (q : ∀ u H', Same H H' → Is K P H' (.tup ds) u → Q u H') : ∀ p, H p = none → Q (.ref p) (upd H p (.tup vs)) := fun p hp => by
 have s := same_new (o := .tup vs) hp
 exact q _ _ s ⟨p, vs, rfl, .inl (.inl upd_same), Iss.lt ⟨Nat.le_refl _, fun _ _ => rfl, fun _ z => .inl z, fun a o e _ => s a o e, fun a z => s.free z⟩ h⟩
def oAdd : D → D → Option D
 | .int i, .int j => some (.int (i + j))
 | .str i, .str j => if i.length + j.length ≤ sizeLine then some (.str (i ++ j)) else none
 | .lst xs, .lst ys => if xs.length + ys.length ≤ sizeLine then some (.lst (xs ++ ys)) else none
 | _, _ => none
def rAdd (K : PySem.W.Frag) : R2 := fun x y H Q => rI0 (fun i j => .int (i + j)) x y H Q ∨ (∃ i j, x = .str i ∧ y = .str j ∧ i.length + j.length ≤ sizeLine ∧ Q (.str (i ++ j)) H) ∨ rCatR K x y H Q
theorem op_addA : OpR X (binaryOp .Add) (rAdd X.K) := op_add.or (op_add_str.or op_catR)
theorem pu_add : Pure2 K (rAdd K) oAdd := fun P H d e z v w Q h h1 h2 hn q => by
 unfold oAdd at h
 split at h
 ·cases h; cases h1; cases h2; exact .inl ⟨_, _, rfl, rfl, q _ H (Same.refl H) rfl⟩
 ·split at h
  ·rename_i hl; cases h; cases h1; cases h2; exact .inr (.inl ⟨_, _, rfl, rfl, hl, q _ H (Same.refl H) rfl⟩)
  ·cases h
 ·split at h
  ·rename_i hl
   cases h
   obtain ⟨a, vs, rfl, r1, s1⟩ := h1
   obtain ⟨b, ws, rfl, r2, s2⟩ := h2
   exact .inr (.inr ⟨a, b, vs, ws, rfl, rfl, r1, r2, by rw [s1.len, s2.len]; exact hl, new_lst hn (s1.append s2) q⟩)
  ·cases h
 ·cases h
def oI (g : Int → Int → Option D) : D → D → Option D
 | .int i, .int j => g i j
 | _, _ => none
theorem oI_inv {g : Int → Int → Option D} {P : Pl} {H : Hp} {d e z : D} {v w : V} (h : oI g d e = some z) (h1 : IsW K P H d v) (h2 : IsW K P H e w) : ∃ i j, v = .int i ∧ w = .int j ∧ g i j = some z := by
 unfold oI at h
 split at h
 ·cases h1; cases h2; exact ⟨_, _, rfl, rfl, h⟩
 ·cases h
def oSub := oI fun i j => some (.int (i - j))
theorem pu_sub : Pure2 K (rI0 fun i j => .int (i - j)) oSub := fun P H d e z v w Q h h1 h2 _ q => by
 obtain ⟨i, j, rfl, rfl, h⟩ := oI_inv h h1 h2
 cases h
 exact ⟨i, j, rfl, rfl, q _ H (Same.refl H) rfl⟩
def oMul := oI fun i j => if i.natAbs < 18446744073709551616 ∨ j.natAbs < 18446744073709551616 ∨ (i.natAbs.log2 < 10000 ∧ j.natAbs.log2 < 10000) then some (.int (i * j)) else none
theorem pu_mul : Pure2 K (rI CMulB fun i j => .int (i * j)) oMul := fun P H d e z v w Q h h1 h2 _ q => by
 obtain ⟨i, j, rfl, rfl, h⟩ := oI_inv h h1 h2
 split at h
 ·rename_i hg
  cases h
  exact ⟨i, j, rfl, rfl, by unfold CMulB CMul; rw [show (2 : Int) ^ 64 = 18446744073709551616 from rfl]; exact hg.elim (fun z => .inl (.inl ⟨by omega, by omega⟩)) (fun z => z.elim (fun z => .inl (.inr ⟨by omega, by omega⟩)) .inr), q _ H (Same.refl H) rfl⟩
 ·cases h
def oFdiv := oI fun i j => if 0 < j ∧ j.natAbs < 1073741824 then some (.int (i / j)) else none
theorem pu_fdiv : Pure2 K (rI CDiv fun i j => .int (i / j)) oFdiv := fun P H d e z v w Q h h1 h2 _ q => by
 obtain ⟨i, j, rfl, rfl, h⟩ := oI_inv h h1 h2
 split at h
 ·rename_i hg
  cases h
  exact ⟨i, j, rfl, rfl, ⟨hg.1, by omega⟩, q _ H (Same.refl H) rfl⟩
 ·cases h
def oMod := oI fun i j => if 0 < j then some (.int (i % j)) else none
theorem pu_mod : Pure2 K (rI (fun _ j => 0 < j) fun i j => .int (i % j)) oMod := fun P H d e z v w Q h h1 h2 _ q => by
 obtain ⟨i, j, rfl, rfl, h⟩ := oI_inv h h1 h2
 split at h
 ·rename_i hg
  cases h
  exact ⟨i, j, rfl, rfl, hg, q _ H (Same.refl H) rfl⟩
 ·cases h
def oPow := oI fun i j => if 0 ≤ j ∧ j.natAbs ≤ 1000000 ∧ i.natAbs < 18446744073709551616 then some (.int (i ^ j.toNat)) else none
theorem pu_pow : Pure2 K (rI CPow fun i j => .int (i ^ j.toNat)) oPow := fun P H d e z v w Q h h1 h2 _ q => by
 obtain ⟨i, j, rfl, rfl, h⟩ := oI_inv h h1 h2
 split at h
 ·rename_i hg
  cases h
  exact ⟨i, j, rfl, rfl, by unfold CPow; rw [show (2 : Nat) ^ 64 = 18446744073709551616 from rfl]; exact ⟨hg.1, by omega, hg.2.2⟩, q _ H (Same.refl H) rfl⟩
 ·cases h
def oCmp (c : Cp) (a b : D) : Option D := (cmpD c a b).map .bl
theorem pu_cmp {c : Cp} : Pure2 K (rCp K c) (oCmp c) := fun P H d e z v w Q h h1 h2 _ q => by
 unfold oCmp at h
 rw [Option.map_eq_some_iff] at h
 obtain ⟨b, h, rfl⟩ := h
 exact cmp_ok h h1 h2 (q _ H (Same.refl H) rfl)
def oIx : D → D → Option D
 | .lst ds, .int i => atI ds i
 | .tup ds, .int i => atI ds i
 | .str z, .int i => if z.length ≤ sizeLine then (atI z.cps.toList i).map fun c => .str ⟨#[c]⟩ else none
 | _, _ => none
def rIx (K : PySem.W.Frag) : R2 := fun x y H Q => rIxL K x y H Q ∨ rIxT K x y H Q ∨ rIxS x y H Q
theorem ix_all : IxR X (rIx X.K) := ix_list.or (ix_tup.or ix_str)
theorem atI_map {P : Pl} {H : Hp} {ds : List D} {vs : List V} {d : D} {i : Int} (h : atI ds i = some d) (q : Iss K P H ds vs) : ∃ u, atI vs i = some u ∧ Is K P H d u := by
 unfold atI at h ⊢
 rw [q.len]
 cases e : ixN ds.length i with
 | none => rw [e] at h; cases h
 | some j => rw [e] at h; exact q.get h
theorem pu_ix : Pure2 K (rIx K) oIx := fun P H d e z v w Q h h1 h2 _ q => by
 unfold oIx at h
 split at h
 ·obtain ⟨a, vs, rfl, r, s⟩ := h1
  cases h2
  obtain ⟨u, e, p⟩ := atI_map h s
  exact .inl ⟨a, vs, _, u, rfl, rfl, r, e, q _ H (Same.refl H) p⟩
 ·obtain ⟨a, vs, rfl, r, s⟩ := h1
  cases h2
  obtain ⟨u, e, p⟩ := atI_map h s
  exact .inr (.inl ⟨a, vs, _, u, rfl, rfl, r, e, q _ H (Same.refl H) p⟩)
 ·split at h
  ·rename_i hl
   rw [Option.map_eq_some_iff] at h
   obtain ⟨c, h, e⟩ := h
   cases e
   cases h1
   cases h2
   exact .inr (.inr ⟨_, _, c, rfl, rfl, hl, h, q _ H (Same.refl H) rfl⟩)
  ·cases h
 ·cases h
def bLen : List D → Option D
 | [.lst ds] => some (.int ds.length)
 | [.tup ds] => some (.int ds.length)
 | [.str z] => if z.length ≤ sizeLine then some (.int z.length) else none
 | _ => none
def rLen (K : PySem.W.Frag) : List V → Hp → VK → Prop := fun xs H Q => (∃ p ys, xs = [.ref p] ∧ (SqL K H p ys ∨ SqT K H p ys) ∧ Q (.int ys.length) H) ∨ ∃ z, xs = [.str z] ∧ z.length ≤ sizeLine ∧ Q (.int z.length) H
theorem call_lenA : CallR X (.builtin "len") (rLen X.K) := call_len_seq.or call_len_str
theorem pu_len : PureN K (rLen K) bLen := fun P H ds z vs Q h i _ q => by
 unfold bLen at h
 split at h
 ·obtain ⟨v, ws, rfl, p, rfl⟩ := i
  cases h
  obtain ⟨a, us, rfl, r, s⟩ := p
  exact .inl ⟨a, us, rfl, .inl r, q _ H (Same.refl H) (by rw [s.len]; rfl)⟩
 ·obtain ⟨v, ws, rfl, p, rfl⟩ := i
  cases h
  obtain ⟨a, us, rfl, r, s⟩ := p
  exact .inl ⟨a, us, rfl, .inr r, q _ H (Same.refl H) (by rw [s.len]; rfl)⟩
 ·split at h
  ·rename_i hl
   obtain ⟨v, ws, rfl, p, rfl⟩ := i
   cases h
   cases p
   exact .inr ⟨_, rfl, hl, q _ H (Same.refl H) rfl⟩
  ·cases h
 ·cases h
def bMin : List D → Option D
 | [.int i, .int j] => some (.int (if j < i then j else i))
 | _ => none
def bMax : List D → Option D
 | [.int i, .int j] => some (.int (if j > i then j else i))
 | _ => none
end
end E3
namespace E3
open PySem PySem.Spec PyProof.Rows L2
section
variable {X : Cx} {Wx : XW} {m : Mode}
def tyD : D → String
 | .non => "NoneType"
 | .bl _ => "bool"
 | .int _ => "int"
 | .str _ => "str"
 | .tup _ => "tuple"
 | .lst _ => "list"
 | .ref _ => ""
theorem call_isiD : CallR X (.builtin "isinstance") (fun xs H Q => ∃ (x : V) (T : String) (d : D) (P : Pl) (b : Bool), xs = [x, .ty T] ∧ IsW X.K P H d x ∧ tyD d ≠ "" ∧ PySem.W.kitOne X.K (.type (tyD d)) (.type T) = some b ∧ Q (.bl b) H) := by
  intro pins s σ H xs us Q I r h
  obtain ⟨x, T, d, A, b, rfl, i, ne, e, q⟩ := h
  obtain ⟨u, w', rfl, rx, rT⟩ := vals2 r
  cases rT
  have fin : ∀ tk, EP X pins σ Q (.bool b) { s with toks := tk } := fun tk => ⟨.bl b, H, I.tok _, rfl, q⟩
  cases d with
  | non => have hv : x = .non := i; subst hv; exact isinst_ok I rx (TyOf.non) e fin
  | bl y => have hv : x = .bl y := i; subst hv; exact isinst_ok I rx (TyOf.bl y) e fin
  | int y => have hv : x = .int y := i; subst hv; exact isinst_ok I rx (TyOf.int y) e fin
  | str y => have hv : x = .str y := i; subst hv; exact isinst_ok I rx (TyOf.str y) e fin
  | ref n => exact absurd rfl ne
  | tup ds =>
    obtain ⟨a, vs, rfl, t, _⟩ := i
    cases rx
    obtain ⟨its, _, p, _⟩ := I.tuple t
    obtain ⟨o, h1, h2, _⟩ := p
    exact PySem.W.kia_one PySem.W.kitx_tuple I.kIn ⟨o, h1, h2⟩ e (fun z => nomatch z) fin
  | lst ds =>
    obtain ⟨a, vs, rfl, t, _⟩ := i
    cases rx
    obtain ⟨_, its, _, o, h1, h2, _⟩ := sql I t
    exact PySem.W.kia_one PySem.W.kitx_list I.kIn ⟨o, h1, h2⟩ e (fun z => nomatch z) fin
def isiO (tb : String → String → Option Bool) (T : String) (d : D) : Option D := if tyD d = "" then none else (tb (tyD d) T).map .bl
theorem wk_range {K : PySem.W.Frag} {P : Pl} {H : Hp} {lo : Int} {n : Nat} : Wk K P H (Itr lo n) ((List.range n).map fun (k : Nat) => .int (lo + k)) := fun P' H' l => by
 rw [List.length_map, List.length_range]
 refine ⟨fun k hk => hk, fun k h1 _ => h1, fun k x H2 y hk => ⟨y.1, .int (lo + k), ?_, y.2⟩⟩
 rw [List.getElem?_map, List.getElem?_range hk]
 rfl
def iRng1 (fs : EA) : EA := fun env M => match fs env M with
 | some (.v [.int j], M1) => if -1000000000 ≤ j ∧ j ≤ 1000000000 then some (.v ((List.range j.toNat).map fun (k : Nat) => .int (0 + k)), M1) else none
 | some (.x c n, M1) => some (.x c n, M1)
 | _ => none
def iRng2 (fs : EA) : EA := fun env M => match fs env M with
 | some (.v [.int i, .int j], M1) => if (-1000000000 ≤ i ∧ i ≤ 1000000000) ∧ -1000000000 ≤ j ∧ j ≤ 1000000000 then some (.v ((List.range (j - i).toNat).map fun (k : Nat) => .int (i + k)), M1) else none
 | some (.x c n, M1) => some (.x c n, M1)
 | _ => none
theorem si_rng1 {tg a : Expr} {fs : EA} {p pos : Pos} (hg : Gl X "range") (hm : X.mg "range" = none) (ha : SA X Wx .val [a] fs) (hs : starEach [a] X.env = [(false, eval a X.env)] := by rfl) : SI X Wx tg (.Call (.Name "range" p) [a] [] pos) (iRng1 fs) := by
 refine pi_imp (pi_range1 hg hm ha hs) ?_
 rintro st H R ⟨P0, H0, P, Os, env, M, r, M', k, e, q⟩
 unfold iRng1 at e
 split at e
 ·rename_i j M1 ef
  split at e
  ·rename_i hj
   cases e
   refine ⟨P0, H0, P, Os, env, M, _, _, k, ef, fun P1 vs H1 l1 h1 i1 => ?_⟩
   obtain ⟨v, ws, rfl, p, rfl⟩ := i1
   exact ⟨j, by rw [show v = .int j from p], by omega, by omega, q P1 H1 _ l1 h1 wk_range⟩
  ·cases e
 ·rename_i c n M1 ef
  cases e
  exact ⟨P0, H0, P, Os, env, M, _, _, k, ef, q⟩
 ·cases e
theorem si_rng2 {tg a b : Expr} {fs : EA} {p pos : Pos} (hg : Gl X "range") (hm : X.mg "range" = none) (ha : SA X Wx .val [a, b] fs) (hs : starEach [a, b] X.env = [(false, eval a X.env), (false, eval b X.env)] := by rfl) (hs2 : starEach [b] X.env = [(false, eval b X.env)] := by rfl) : SI X Wx tg (.Call (.Name "range" p) [a, b] [] pos) (iRng2 fs) := by
 refine pi_imp (pi_range2 hg hm ha hs hs2) ?_
 rintro st H R ⟨P0, H0, P, Os, env, M, r, M', k, e, q⟩
 unfold iRng2 at e
 split at e
 ·rename_i i j M1 ef
  split at e
  ·rename_i hj
   cases e
   refine ⟨P0, H0, P, Os, env, M, _, _, k, ef, fun P1 vs H1 l1 h1 i1 => ?_⟩
   obtain ⟨v, ws, rfl, p, v', ws', rfl, p', rfl⟩ := i1
   exact ⟨i, j, by rw [show v = .int i from p, show v' = .int j from p'], ⟨by omega, by omega, by omega, by omega⟩, q P1 H1 _ l1 h1 wk_range⟩
  ·cases e
 ·rename_i c n M1 ef
  cases e
  exact ⟨P0, H0, P, Os, env, M, _, _, k, ef, q⟩
 ·cases e
def pNo : Env → Mm → Option (Option Int × Mm) := fun _ M => some (none, M)
def pAt (f : E) : Env → Mm → Option (Option Int × Mm) := fun env M => match f env M with
 | some (.v (.int i), M1) => some (some i, M1)
 | _ => none
def tP (K : PySem.W.Frag) (mg : Str → Option Value) (f : Env → Mm → Option (Option Int × Mm)) : TO := fun st H Q => ∃ P0 H0 P Os env M i M', Ok K mg P0 H0 P Os H M st env ∧ f env M = some (i, M') ∧ ∀ P' H', LtE P H P' H' → Hk K mg P' H' M' → Q i H'
def SP3 (X : Cx) (e : Option Expr) (f : Env → Mm → Option (Option Int × Mm)) : Prop := PO X e (tP X.K X.mg f)
theorem po_imp {e : Option Expr} {t t' : TO} (h : PO X e t) (w : ∀ σ H Q, t' σ H Q → t σ H Q) : PO X e t' := fun pins s σ H Q I hw => h pins s σ H Q I (w σ H Q hw)
theorem sp_no : SP3 X none pNo := by
 refine po_imp po_none ?_
 rintro st H Q ⟨P0, H0, P, Os, env, M, i, M', k, e, q⟩
 cases e
 exact q P H (LtE.refl P H) k.hk
theorem sp_at {e : Expr} {f : E} (h : SE X Wx .val e f) : SP3 X (some e) (pAt f) := by
 refine po_imp (po_some h) ?_
 rintro st H Q ⟨P0, H0, P, Os, env, M, i, M', k, e, q⟩
 unfold pAt at e
 split at e
 ·rename_i j M1 ef
  cases e
  exact ⟨P0, H0, P, Os, env, M, _, _, k, ef, fun P1 v H1 l1 h1 i1 => ⟨j, i1, q P1 H1 l1 h1⟩⟩
 ·cases e
def cutL {α : Type} (xs : List α) (lo hi : Option Int) : List α := (xs.drop (HT.sIx xs.length 0 lo)).take (HT.sIx xs.length xs.length hi - HT.sIx xs.length 0 lo)
theorem cut_iss {K : PySem.W.Frag} {P : Pl} {H : Hp} {ds : List D} {vs : List V} {lo hi : Option Int} (q : Iss K P H ds vs) : Iss K P H (cutL ds lo hi) (cutV vs lo hi) := by
 unfold cutL cutV
 rw [q.len]
 exact (q.drop _).take _
def slD (d : D) (lo hi : Option Int) : Option D := match d with
 | .lst ds => some (.lst (cutL ds lo hi))
 | .str z => if z.length ≤ sizeLine then some (.str (Txt.slice z lo hi)) else none
 | _ => none
def sSl (f : E) (l h : Env → Mm → Option (Option Int × Mm)) : E := fun env M => bnd (f env M) fun d M1 => match l env M1 with
  | some (lo, M2) => (match h env M2 with
    | some (hi, M3) => (slD (vw M3 d) lo hi).map fun z => (.v z, M3)
    | none => none)
  | none => none
theorem se_sl {e : Expr} {lo hi : Option Expr} {p2 pos : Pos} {f : E} {l h : Env → Mm → Option (Option Int × Mm)} (he : SE X Wx .bor e f) (hl : SP3 X lo l) (hh : SP3 X hi h) : SE X Wx m (.Subscript e (.Slice lo hi none p2) pos) (sSl f l h) := by
 refine pe_imp (pe_slice (sl_list.or sl_str) he hl hh) ?_
 rintro st H Q ⟨P0, H0, P, Os, env, M, r, M', k, e, q⟩
 unfold sSl at e
 rcases bnd_inv e with ⟨d, M1, e1, e⟩ | ⟨c, n, e1, rfl⟩
 ·split at e
  ·rename_i lo' M2 el
   split at e
   ·rename_i hi' M3 eh
    rw [Option.map_eq_some_iff] at e
    obtain ⟨z, ez, e⟩ := e
    cases e
    refine tE_go k e1 fun P1 v1 H1 l1 h1 i1 => ⟨P0, H0, P1, Os, env, M1, _, _, k.next l1 h1, el, fun P2 H2 l2 h2 => ⟨P0, H0, P2, Os, env, M2, _, _, (k.next l1 h1).next l2 h2, eh, fun P3 H3 l3 h3 => ?_⟩⟩
    have i3 := IsB.vw h3 (IsB.lt l3 h2 (IsB.lt l2 h1 i1))
    have fin : ∀ u H', Same H3 H' → Is X.K P3 H' z u → Q u H' := fun u H' s i => q P3 u H' (l1.trans (l2.trans (l3.trans (LtE.same s)))) (h3.same s) (IsM.of (h3.same s) i)
    generalize vw M' d = d' at i3 ez
    unfold slD at ez
    split at ez
    ·cases ez
     obtain ⟨a, vs, rfl, r, s⟩ := i3
     exact .inl ⟨a, vs, rfl, r, new_lst h3.new (cut_iss s) fin⟩
    ·split at ez
     ·rename_i hz
      cases ez
      cases i3
      exact .inr ⟨_, rfl, hz, fin _ _ (Same.refl _) rfl⟩
     ·cases ez
    ·cases ez
   ·cases e
  ·cases e
 ·exact tE_go k e1 q
def sCell (f : E) : E := fun env M => bnd (f env M) fun d M1 => match d with
 | .lst ds => some (.v (.ref M1.length), M1 ++ [.lst ds])
 | _ => none
def sAppC (f g : E) : S := fun env M => bndS (f env M) fun d M1 => match d with
  | .ref j => (match M1[j]? with
    | some (.lst _) => bndS (g env M1) fun y M2 => (match M2[j]? with
      | some (.lst ds) => if ds.length < sizeLine then some (.nx env, M2.set j (.lst (ds ++ [y]))) else none
      | _ => none)
    | _ => none)
  | _ => none
end
end E3
namespace E3
open PySem PySem.Spec PyProof.Rows L2
section
variable {X : Cx} {Wx : XW} {m : Mode} {pos : Pos}
def oNeg : D → Option D
 | .int i => some (.int (-i))
 | _ => none
theorem pu_neg {K : PySem.W.Frag} : Pure1 K (rU fun i => .int (-i)) oNeg := fun P H d z v Q h i _ q => by
 unfold oNeg at h
 split at h
 ·cases h; cases i; exact ⟨_, rfl, q _ H (Same.refl H) rfl⟩
 ·cases h
theorem se_un {a : Expr} {op : UnaryOp} {f : E} {o : D → Option D} {r : V → Hp → VK → Prop} (ho : UnR X (unaryOp op) r) (po : Pure1 X.K r o) (ha : SE X Wx .bor a f) : SE X Wx m (.UnaryOp op a pos) (s1 o f) :=
 pe_imp (pe_un ho ha) fun _ _ _ h => t1_ok po h
def sChn (c c' : Cp) (f g h : E) : E := fun env M => bnd (f env M) fun x M1 => bnd (g env M1) fun y M2 => match cmpD c (vw M2 x) (vw M2 y) with
 | some true => bnd (h env M2) fun z M3 => (cmpD c' (vw M3 y) (vw M3 z)).map fun b => (.v (.bl b), M3)
 | some false => some (.v (.bl false), M2)
 | none => none
theorem chn_ok {c c' : Cp} {f g h : E} {st : L2.St} {H : Hp} {Q : VK} (w : tE X.K X.mg Wx m (sChn c c' f g h) st H Q) : tChain (rCp X.K c) (rCp X.K c') (tE X.K X.mg Wx .bor f) (tE X.K X.mg Wx .bor g) (tE X.K X.mg Wx .bor h) st H Q := by
  obtain ⟨P0, H0, P, Os, env, M, rr, M', k, e, q⟩ := w
  unfold sChn at e
  rcases bnd_inv e with ⟨x, M1, e1, e⟩ | ⟨c, n, e1, rfl⟩
  · refine tE_go k e1 fun P1 v1 H1 l1 h1 i1 => ?_
    have k1 := k.next l1 h1
    rcases bnd_inv e with ⟨y, M2, e2, e⟩ | ⟨c, n, e2, rfl⟩
    · refine tE_go k1 e2 fun P2 v2 H2 l2 h2 i2 => ?_
      have k2 := k1.next l2 h2
      have w1 := IsB.vw h2 (IsB.lt l2 h1 i1)
      have w2 := IsB.vw h2 i2
      split at e
      · rename_i ec
        refine cmp_ok ec w1 w2 ⟨true, rfl, ?_⟩
        rw [if_pos rfl]
        rcases bnd_inv e with ⟨z, M3, e3, e⟩ | ⟨c, n, e3, rfl⟩
        · refine tE_go k2 e3 fun P3 v3 H3 l3 h3 i3 => ?_
          rw [Option.map_eq_some_iff] at e
          obtain ⟨b, eb, e⟩ := e
          cases e
          exact cmp_ok eb (IsB.vw h3 (IsB.lt l3 h2 i2)) (IsB.vw h3 i3) (q P3 _ H3 (l1.trans (l2.trans l3)) h3 (IsM.of h3 (show Is _ _ _ (.bl b) _ from rfl)))
        · exact tE_go k2 e3 q
      · rename_i ec
        cases e
        refine cmp_ok ec w1 w2 ⟨false, rfl, ?_⟩
        rw [if_neg (by decide)]
        exact q P2 _ H2 (l1.trans l2) h2 (IsM.of h2 (show Is _ _ _ (.bl false) _ from rfl))
      · cases e
    · exact tE_go k1 e2 q
  · exact tE_go k e1 q
theorem st_chn {a b c : Expr} {c1 c2 : Cp} {f g h : E} (hu : X.A.units + 60 < cLine) (ha : SE X Wx .bor a f) (hb : SE X Wx .bor b g) (hc : SE X Wx .bor c h) (hm : lastMarks [cpP c1, cpP c2] [b, c] = false := by with_unfolding_all rfl) : ST X Wx (.Compare a [cpP c1, cpP c2] [b, c] pos) (sChn c1 c2 f g h) :=
 pt_imp (pt_chain (cp_ok hu c1) (cp_ok hu c2) ha hb hc hm) fun _ _ _ w => chn_ok (tt_of w)
def sRetN : S := fun _ M => some (.rt .non, M)
def sListN (f : E) : E := fun env M => bnd (f env M) fun d M1 => match vw M1 d with
 | .lst ds => some (.v (.lst ds), M1)
 | .tup ds => some (.v (.lst ds), M1)
 | _ => none
theorem sn_list {e : Expr} {f : E} {p : Pos} (hg : Gl X "list") (hm : X.mg "list" = none) (he : SE X Wx .bor e f) (hs : starEach [e] X.env = (false, eval e X.env) :: starEach [] X.env := by rfl) : SN X Wx (.Call (.Name "list" p) [e] [] pos) (sListN f) := by
 refine pe_imp (pe_callTy call_list_of hg hm boot_list (pa_cons he pa_nil hs) (by decide +kernel) (by decide +kernel) hs rfl) ?_
 rintro st H Q ⟨P0, H0, P, Os, env, M, r, M', k, e, q⟩
 unfold sListN at e
 rcases bnd_inv e with ⟨d, M1, e1, e⟩ | ⟨c, n, e1, rfl⟩
 ·refine tE_go k e1 ?_
  have key : ∀ ds, r = .v (.lst ds) → M' = M1 → (∀ P1 v1 H1, IsW X.K P1 H1 (vw M1 d) v1 → ∃ a vs, v1 = .ref a ∧ (SqL X.K H1 a vs ∨ SqT X.K H1 a vs) ∧ Iss X.K P1 H1 ds vs) → ∀ P1 v1 H1, LtE P H P1 H1 → Hk X.K X.mg P1 H1 M1 → IsM X.K P1 H1 .bor d v1 →
    ∃ p ys, [v1] = [V.ref p] ∧ (SqL X.K H1 p ys ∨ SqT X.K H1 p ys) ∧ ∀ l, H1 l = none → Q (.ref l) (upd H1 l (.lst ys)) := by
   rintro ds rfl rfl hv P1 v1 H1 l1 h1 i1
   obtain ⟨ds', e', q⟩ := q
   cases e'
   obtain ⟨a, vs, rfl, sq, is⟩ := hv P1 v1 H1 (IsB.vw h1 i1)
   refine ⟨a, vs, rfl, sq, fun p hp => ?_⟩
   obtain ⟨l2, h2, nc⟩ := bar_new (vs := vs) h1 hp
   exact q (P1.bar p) p vs _ (l1.trans l2) h2 (l1.sure p hp) (.inr rfl) nc upd_same (Iss.lt (l2.lt h1) is)
  split at e
  ·rename_i ds ev
   cases e
   exact key ds rfl rfl fun P1 v1 H1 i => by
    rw [ev] at i
    obtain ⟨a, vs, e, s, is⟩ := i
    exact ⟨a, vs, e, .inl s, is⟩
  ·rename_i ds ev
   cases e
   exact key ds rfl rfl fun P1 v1 H1 i => by
    rw [ev] at i
    obtain ⟨a, vs, e, s, is⟩ := i
    exact ⟨a, vs, e, .inr s, is⟩
  ·cases e
 ·exact tE_go k e1 q
theorem list_is {f : E} : ∀ env M r M', sListN f env M = some (.v r, M') → ∃ ds, r = .lst ds := fun env M r M' e => by
 unfold sListN at e
 rcases bnd_inv e with ⟨ds, M1, e1, e⟩ | ⟨c, n, e1, e⟩
 ·split at e
  ·cases e; exact ⟨_, rfl⟩
  ·cases e; exact ⟨_, rfl⟩
  ·cases e
 ·cases e
end
end E3
namespace E3
open PySem PySem.Spec PyProof.Rows L2
def spL (K : PySem.W.Frag) (g : G) : Sp := fun vs H Q E => ∀ mg, spG K mg 1 g vs H Q E
theorem fnok_L {P : Program} {w : World} {K : PySem.W.Frag} {mg : Str → Option Value} {base : Heap} {k : Nat} {f : Addr} {fd : FuncData} {ps : List Str} {g : G} (F : FnOk P w K mg base CX0 k f fd ps (spG K mg 1 g)) : FnOk P w K mg base CX0 k f fd ps (spL K g) :=
 ⟨fun vs H Q E h => F.len vs H Q E (h mg), fun A outer s H args us vs Q E hr he hb hv hs => F.run A outer s H args us vs Q E hr he hb hv (hs mg)⟩
theorem iss_ints {K : PySem.W.Frag} {P : Pl} {H : Hp} : ∀ ns : List Int, Iss K P H (ns.map D.int) (ns.map V.int)
 | [] => rfl
 | n :: ns => ⟨.int n, _, rfl, rfl, iss_ints ns⟩
theorem law_sp {K : PySem.W.Frag} {g : G} {H : Hp} {a : Addr} {ns : List Int} (hg : ∃ M, g [.lst (ns.map D.int)] [] = some (.v (.bl true), M)) (hS : SqL K H a (ns.map V.int)) : spL K g [.ref a] H (fun v _ => v = .bl true) fun _ _ _ => False := by
 intro mg
 obtain ⟨M, e⟩ := hg
 refine ⟨rfl, ⟨fun _ => 0, 0, fun _ => False⟩, [], [.lst (ns.map D.int)], .bl true, M, ⟨rfl, fun k c e => (by cases e), fun j k h => absurd h (Nat.not_lt_zero _), fun k h => absurd h (Nat.not_lt_zero _), fun a z => z.elim⟩, ⟨.ref a, [], rfl, ⟨a, ns.map V.int, rfl, ?_, iss_ints ns⟩, rfl⟩, e, fun P' v H' _ _ i => i⟩
 rcases hS with h | h
 ·exact .inl ⟨fun z => z, h⟩
 ·exact .inr h
theorem walk_e3 {l : PySem.W.OpenLaw} {k : Nat} {q : Program} {loose : List Str} {XP : (Str → Option Value) → Heap → Prop} {YP : World → Heap → Prop} {d : DefRec} {K : Params → PySem.W.Frag} {x : Str} {g : G}
  (hn : l.most = some 63) (hdf : d.params.defaults = []) (hr : Room k callerA) (hY : ∀ (w : World) (h : Heap), YP w h → (K w.params).In h)
  (F : ∀ (w : World) (mg : Str → Option Value) (fa : Addr) (h : Heap), (K w.params).In h → h.Ns mainGlobals mg → mg d.name = some (.ref fa) →
   ∃ fd : FuncData, (∀ (s : Shared) (u : Value), BindsTo s fd ⟨[u], []⟩ [(x, u)]) ∧
    ∀ base : Heap, (K w.params).In base → base.Ns mainGlobals mg → FnOk l.prog w (K w.params) mg base CX0 k fa fd [x] (spL (K w.params) g))
  (hg : ∀ ns : List Int, ns.length ≤ 63 → ∃ M, g [.lst (ns.map D.int)] [] = some (.v (.bl true), M)) : PySem.W.WalkO q loose XP YP l.row.toRowW d [] (fun f vs => PySem.call f vs) :=
 L2.walk_ofK (sp := fun K => spL K g) hn (by decide) hdf hr hY F (fun K H a ns hl _ hS => law_sp (hg ns hl) hS) fun _ _ _ _ z => z
end E3
namespace E3
open PySem PySem.Spec PyProof.Rows L2
section
variable {X : Cx} {Wx : XW} {m : Mode} {e : Expr}
theorem se_i {i : Int} (h : PE X e (tC (.int i))) : SE X Wx m e (sCon (.int i)) := (se_con (d := .int i) h fun _ _ => rfl).bor
theorem se_s {z : Str} (h : PE X e (tC (.str z))) : SE X Wx m e (sCon (.str z)) := (se_con (d := .str z) h fun _ _ => rfl).bor
theorem se_b {b : Bool} (h : PE X e (tC (.bl b))) : SE X Wx m e (sCon (.bl b)) := (se_con (d := .bl b) h fun _ _ => rfl).bor
theorem se_n (h : PE X e (tC .non)) : SE X Wx m e (sCon .non) := (se_con (d := .non) h fun _ _ => rfl).bor
theorem se_v {i : Nat} {x : Str} {pos : Pos} (hN : X.N[i]? = some x) (hv : X.env.scope.names.lookup x = some .local) (hd : (x == ("__debug__" : Str)) = false := by decide +kernel) (hcd : (x == ("__classdict__" : Str)) = false := by decide +kernel) : SE X Wx m (.Name x pos) (sVar i) := (se_var hN (.inl hv) hd hcd).bor
theorem se_vb {i : Nat} {x : Str} {pos : Pos} (hN : X.N[i]? = some x) (hv : X.env.scope.names.lookup x = some .local) (hd : (x == ("__debug__" : Str)) = false := by decide +kernel) (hcd : (x == ("__classdict__" : Str)) = false := by decide +kernel) : SE X Wx .bor (.Name x pos) (sVarB i) := se_varB hN (.inl hv) hd hcd
theorem SN.sem {f : E} (h : SN X Wx e f) (hf : ∀ env M r M', f env M = some (.v r, M') → ∃ ds, r = .lst ds) : SE X Wx m e f := (SN.se h hf).bor
end
end E3
namespace E3
open PySem PySem.Spec PyProof.Rows L2
section
variable {K : PySem.W.Frag} {mg : Str → Option Value} {P : Pl} {H : Hp} {M : Mm}
end
structure ClsOk (K : PySem.W.Frag) (mg : Str → Option Value) (c : Str) (C : Addr) : Prop where
 mg : mg c = some (.ref C)
 cl : Cls K C
section
variable {X : Cx} {Wx : XW} {m : Mode} {pos : Pos}
def AtM (P : Program) (w : World) (K : PySem.W.Frag) (mg : Str → Option Value) (base : Heap) (k : Nat) (C : Addr) (m : Str) (n : Nat) (g : G) : Prop :=
 ∃ f fd ps, Meth K C m f ∧ FnOk P w K mg base CX0 k f fd ps (spG K mg n g) ∧ Binds K fd ps []
theorem AtM.mono {P : Program} {w : World} {K : PySem.W.Frag} {mg : Str → Option Value} {base : Heap} {j k : Nat} {C : Addr} {m : Str} {n : Nat} {g : G} (a : AtM P w K mg base j C m n g) (h : j ≤ k) : AtM P w K mg base k C m n g := by
 obtain ⟨f, fd, ps, h1, h2, h3⟩ := a
 exact ⟨f, fd, ps, h1, h2.mono h, h3⟩
end
end E3
namespace E3
open PySem PySem.Spec PyProof.Rows L2
section
variable {X : Cx} {Wx : XW} {m : Mode} {pos : Pos}
def AtI (P : Program) (w : World) (K : PySem.W.Frag) (mg : Str → Option Value) (base : Heap) (k : Nat) (C : Addr) (n : Nat) (g : G) : Prop :=
 ∃ f fd ps, Mk K C f ∧ FnOk P w K mg base CX0 k f fd ps (spG K mg n g) ∧ Binds K fd ps []
end
end E3
namespace E3
open PySem PySem.Spec PyProof.Rows L2 PySem.W
def runT {α : Type} (lt : Nat → Nat → Option Bool) : KasT α → Option α
  | .ret a => some a
  | .ask i j k => match lt i j with
    | some b => runT lt (k b)
    | none => none
def Stays (a : Addr) (h h' : Heap) : Prop := ∀ b o, b ≠ a → h.get? b = some o → h'.get? b = some o
theorem Stays.upd (h : Heap) (a : Addr) (f : Obj → Obj) : Stays a h (h.update a f) := fun b o nb e => by rw [(Heap.SameBut.update h a f).2 b nb]; exact e
theorem Stays.push {h h' : Heap} {a : Addr} (s : Stays a h h') (o : Obj) : Stays a h (h'.push o) := fun b u nb e => Heap.get?_push_of_some _ (s b u nb e)
section
variable {prog : Program} {w : World} {A : Around} {E : Value → Shared → Prop} {s : Shared}
end
end E3
namespace E3
open PySem PySem.Spec PyProof.Rows L2 PySem.W
def ltT : List D → List D → Option Bool
 | [], [] => some false
 | .int i :: ps, .int j :: qs => if i = j then ltT ps qs else some (decide (i < j))
 | .str a :: ps, .str b :: qs => if a = b then ltT ps qs else none
 | _, _ => none
def ltD (ds : List D) (i j : Nat) : Option Bool := match ds.getD i .non with
  | .tup xs => (match ds.getD j .non with
    | .tup ys => ltT xs ys
    | _ => none)
  | _ => none
section
variable {prog : Program} {w : World} {A : Around} {s : Shared} {K : PySem.W.Frag} {P : Pl} {H : Hp}
end
def tupI : D → Bool
 | .tup (.int _ :: _) => true
 | _ => false
section
variable {X : Cx} {pins : List (Addr × Obj)} {σ : L2.St} {H : Hp} {s : Shared}
end
end E3
namespace E3
open PySem PySem.Spec PyProof.Rows L2 PySem.W
section
variable {prog : Program} {w : World} {A : Around} {E : Value → Shared → Prop} {s : Shared}
end
section
variable {X : Cx} {Wx : XW}
def sortD (ds : List D) : Option (List D) := if ds.length < 2 then some ds else if ds.length < 64 ∧ ds.all tupI = true then (runT (ltD ds) (kas_sort ds.length)).map fun p => p.toList.map fun i => ds.getD i .non else none
def sSorted (f : E) : E := fun env M => bnd (f env M) fun d M1 => match vw M1 d with
 | .lst ds => (sortD ds).map fun es => (.v (.lst es), M1)
 | _ => none
end
def Low (n : Nat) (p : Array Nat) : Prop := p.size = n ∧ ∀ x ∈ p.toList, x < n
theorem Low.get {n : Nat} {p : Array Nat} (h : Low n p) (hn : 0 < n) (i : Nat) : p.getD i 0 < n := by
 rw [Array.getD_eq_getD_getElem?]
 cases e : p[i]? with
 | none => exact hn
 | some x => exact h.2 x (by rw [Array.mem_toList_iff]; exact Array.mem_of_getElem? e)
section
variable {n : Nat} {lt : Nat → Nat → Option Bool} (hn : 0 < n) (tot : ∀ i j, i < n → j < n → ∃ b, lt i j = some b)
include hn tot
end
end E3
namespace E3
open PySem L2
section
variable {env : Env} {M M1 : Mm} {f g h c : E} {d e : D} {i j : Int} {n k : Nat} {z : Str} {b : Bool} {ds es : List D} {s t : S} {x : Str}
def seqR (g : S) : OS → OS
 | some (.nx e, M1) => g e M1
 | o => o
theorem q_seq : sSeq s t env M = seqR t (s env M) := by
 unfold sSeq seqR
 cases s env M with
 | none => rfl
 | some p => obtain ⟨o, M⟩ := p; cases o <;> rfl
theorem r_nx {e : Env} : seqR t (some (.nx e, M)) = t e M := rfl
theorem r_rt : seqR t (some (.rt d, M)) = some (.rt d, M) := rfl
theorem r_bk {e : Env} : seqR t (some (.bk e, M)) = some (.bk e, M) := rfl
theorem r_ct {e : Env} : seqR t (some (.ct e, M)) = some (.ct e, M) := rfl
theorem r_ex {a : Int} : seqR t (some (.ex x a, M)) = some (.ex x a, M) := rfl
theorem q_end : sEnd env M = some (.nx env, M) := rfl
def varR (M : Mm) : Option Slot → O
 | some (.val d) => some (.v d, M)
 | _ => none
def varB (M : Mm) : Option Slot → O
 | some (.val d) => some (.v d, M)
 | some (.own ds) => some (.v (.lst ds), M)
 | _ => none
theorem q_v : sVar k env M = varR M env[k]? := by
 unfold sVar varR; split <;> simp_all
theorem q_vb : sVarB k env M = varB M env[k]? := by
 unfold sVarB varB; split <;> simp_all
theorem r_v : varR M (some (.val d)) = some (.v d, M) := rfl
theorem r_vb : varB M (some (.val d)) = some (.v d, M) := rfl
theorem r_vo : varB M (some (.own ds)) = some (.v (.lst ds), M) := rfl
theorem q_con : sCon d env M = some (.v d, M) := rfl
def mapR (M : Mm) : Option D → O
 | some z => some (.v z, M)
 | none => none
theorem r_map : mapR M (some d) = some (.v d, M) := rfl
def oneR (o : D → Option D) : O → O
 | some (.v d, M) => mapR M (o (vw M d))
 | some (.x c n, M) => some (.x c n, M)
 | none => none
theorem q_1 {o : D → Option D} : s1 o f env M = oneR o (f env M) := by
  unfold s1 oneR bnd
  cases f env M with
  | none => rfl
  | some p => obtain ⟨r, M'⟩ := p; cases r with
    | v d => dsimp only; cases o (vw M' d) <;> rfl
    | x c n => rfl
theorem r_1 {o : D → Option D} : oneR o (some (.v d, M)) = mapR M (o (vw M d)) := rfl
def twoS (o : D → D → Option D) (d : D) : O → O
 | some (.v e, M) => mapR M (o (vw M d) (vw M e))
 | some (.x c n, M) => some (.x c n, M)
 | none => none
def twoK (o : D → D → Option D) (k : Mm → O) : O → O
 | some (.v d, M) => twoS o d (k M)
 | some (.x c n, M) => some (.x c n, M)
 | none => none
theorem q_2 {o : D → D → Option D} : s2 o f g env M = twoK o (g env) (f env M) := by
  unfold s2 twoK bnd
  cases f env M with
  | none => rfl
  | some p => obtain ⟨r, M'⟩ := p; cases r with
    | x c n => rfl
    | v d =>
      dsimp only
      unfold twoS
      cases g env M' with
      | none => rfl
      | some p => obtain ⟨r, M2⟩ := p; cases r with
        | x c n => rfl
        | v e => dsimp only; cases o (vw M2 d) (vw M2 e) <;> rfl
theorem r_2 {o : D → D → Option D} {q : Mm → O} : twoK o q (some (.v d, M)) = twoS o d (q M) := rfl
theorem r_2s {o : D → D → Option D} : twoS o d (some (.v e, M)) = mapR M (o (vw M d) (vw M e)) := rfl
theorem w_int : vw M (.int i) = .int i := rfl
theorem w_str : vw M (.str z) = .str z := rfl
theorem w_bl : vw M (.bl b) = .bl b := rfl
theorem w_non : vw M .non = .non := rfl
theorem w_tup : vw M (.tup ds) = .tup ds := rfl
theorem w_lst : vw M (.lst ds) = .lst ds := rfl
theorem q_tru : sTru f env M = oneR (fun d => (truD d).map .bl) (f env M) := q_1
theorem q_notv : sNotV f env M = oneR (fun d => (truD d).map fun b => .bl (!b)) (f env M) := q_1
def notR : O → O
 | some (.v (.bl b), M) => some (.v (.bl (!b)), M)
 | some (.x c n, M) => some (.x c n, M)
 | _ => none
theorem q_not : sNot f env M = notR (f env M) := by
  unfold sNot notR bnd
  cases f env M with
  | none => rfl
  | some p => obtain ⟨r, M'⟩ := p; cases r with
    | x c n => rfl
    | v d => cases d <;> rfl
theorem r_not : notR (some (.v (.bl b), M)) = some (.v (.bl (!b)), M) := rfl
def iteR (k1 k2 : Mm → O) : O → O
 | some (.v (.bl b), M) => if b = true then k1 M else k2 M
 | some (.x c n, M) => some (.x c n, M)
 | _ => none
theorem q_and : sAnd f g env M = iteR (g env) (fun M => some (.v (.bl false), M)) (f env M) := by
  unfold sAnd iteR bnd
  cases f env M with
  | none => rfl
  | some p => obtain ⟨r, M'⟩ := p; cases r with
    | x c n => rfl
    | v d => cases d <;> rfl
theorem q_or : sOr f g env M = iteR (fun M => some (.v (.bl true), M)) (g env) (f env M) := by
  unfold sOr iteR bnd
  cases f env M with
  | none => rfl
  | some p => obtain ⟨r, M'⟩ := p; cases r with
    | x c n => rfl
    | v d => cases d <;> rfl
theorem q_ite : sIte c f g env M = iteR (f env) (g env) (c env M) := by
  unfold sIte iteR bnd
  cases c env M with
  | none => rfl
  | some p => obtain ⟨r, M'⟩ := p; cases r with
    | x c n => rfl
    | v d => cases d <;> rfl
theorem r_ite {k1 k2 : Mm → O} : iteR k1 k2 (some (.v (.bl b), M)) = if b = true then k1 M else k2 M := rfl
def conA (d : D) : Option (ResA × Mm) → Option (ResA × Mm)
 | some (.v ds, M2) => some (.v (d :: ds), M2)
 | some (.x c n, M2) => some (.x c n, M2)
 | none => none
def consK (k : Mm → Option (ResA × Mm)) : O → Option (ResA × Mm)
 | some (.v d, M1) => conA d (k M1)
 | some (.x c n, M1) => some (.x c n, M1)
 | none => none
theorem q_nil : sNil env M = some (.v [], M) := rfl
theorem q_cons {fs : EA} : sCons f fs env M = consK (fs env) (f env M) := by
  unfold sCons consK
  cases f env M with
  | none => rfl
  | some p => obtain ⟨r, M'⟩ := p; cases r with
    | x c n => rfl
    | v d =>
      dsimp only
      unfold conA
      cases fs env M' with
      | none => rfl
      | some p => obtain ⟨r, M2⟩ := p; cases r <;> rfl
theorem r_cons {q : Mm → Option (ResA × Mm)} : consK q (some (.v d, M)) = conA d (q M) := rfl
theorem r_conA : conA d (some (.v ds, M)) = some (.v (d :: ds), M) := rfl
def argR (o : List D → Option D) : Option (ResA × Mm) → O
 | some (.v ds, M) => mapR M (o (ds.map (vw M)))
 | some (.x c n, M) => some (.x c n, M)
 | none => none
theorem q_n {o : List D → Option D} {fs : EA} : sN o fs env M = argR o (fs env M) := by
  unfold sN argR bndA
  cases fs env M with
  | none => rfl
  | some p => obtain ⟨r, M'⟩ := p; cases r with
    | x c n => rfl
    | v d => dsimp only; cases o (d.map (vw M')) <;> rfl
theorem r_n {o : List D → Option D} : argR o (some (.v ds, M)) = mapR M (o (ds.map (vw M))) := rfl
def argK (k : List D → Mm → O) : Option (ResA × Mm) → O
 | some (.v ds, M) => k ds M
 | some (.x c n, M) => some (.x c n, M)
 | none => none
theorem r_argK {q : List D → Mm → O} : argK q (some (.v ds, M)) = q ds M := rfl
theorem q_tup {fs : EA} : sTup fs env M = argK (fun ds M1 => if ds.length ≤ sizeLine then some (.v (.tup ds), M1) else none) (fs env M) := rfl
theorem q_lst {fs : EA} : sLst fs env M = argK (fun ds M1 => if ds.length ≤ sizeLine then some (.v (.lst ds), M1) else none) (fs env M) := rfl
def callR : O → O
 | some (.v d, M) => some (.v d, M)
 | _ => none
theorem r_callR : callR (some (.v d, M)) = some (.v d, M) := rfl
theorem q_call {u : G} {fs : EA} : sCall u fs env M = argK (fun ds M1 => callR (u ds M1)) (fs env M) := by
  unfold sCall argK bndA
  cases fs env M with
  | none => rfl
  | some p => obtain ⟨r, M'⟩ := p; cases r with
    | x c n => rfl
    | v d =>
      dsimp only
      unfold callR
      cases u d M' with
      | none => rfl
      | some p => obtain ⟨r, M2⟩ := p; cases r <;> rfl
def bndK (k : D → Mm → O) : O → O
 | some (.v d, M) => k d M
 | some (.x c n, M) => some (.x c n, M)
 | none => none
theorem r_bndK {q : D → Mm → O} : bndK q (some (.v d, M)) = q d M := rfl
def cellD (M : Mm) : D → O
 | .lst ds => some (.v (.ref M.length), M ++ [.lst ds])
 | _ => none
theorem r_cellD : cellD M (.lst ds) = some (.v (.ref M.length), M ++ [.lst ds]) := rfl
theorem q_cell : sCell f env M = bndK (fun d M1 => cellD M1 d) (f env M) := by
  unfold sCell bndK bnd
  cases f env M with
  | none => rfl
  | some p => obtain ⟨r, M'⟩ := p; cases r with
    | x c n => rfl
    | v d => cases d <;> rfl
def listD (M : Mm) : D → O
 | .lst ds => some (.v (.lst ds), M)
 | .tup ds => some (.v (.lst ds), M)
 | _ => none
theorem r_listL : listD M (.lst ds) = some (.v (.lst ds), M) := rfl
theorem q_list : sListN f env M = bndK (fun d M1 => listD M1 (vw M1 d)) (f env M) := by
  unfold sListN bndK bnd
  cases f env M with
  | none => rfl
  | some p => obtain ⟨r, M'⟩ := p; cases r with
    | x c n => rfl
    | v d => dsimp only; cases vw M' d <;> rfl
def srtD (M : Mm) : D → O
 | .lst ds => mapR M ((sortD ds).map .lst)
 | _ => none
theorem q_srt : sSorted f env M = bndK (fun d M1 => srtD M1 (vw M1 d)) (f env M) := by
  unfold sSorted bndK bnd
  cases f env M with
  | none => rfl
  | some p => obtain ⟨r, M'⟩ := p; cases r with
    | x c n => rfl
    | v d =>
      dsimp only
      unfold srtD
      cases vw M' d <;> try rfl
      dsimp only
      cases sortD _ <;> rfl
def slH (d : D) (lo : Option Int) : Option (Option Int × Mm) → O
 | some (hi, M3) => mapR M3 (slD (vw M3 d) lo hi)
 | none => none
def slL (d : D) (k : Mm → Option (Option Int × Mm)) : Option (Option Int × Mm) → O
 | some (lo, M2) => slH d lo (k M2)
 | none => none
theorem q_sl {l u : Env → Mm → Option (Option Int × Mm)} : sSl f l u env M = bndK (fun d M1 => slL d (u env) (l env M1)) (f env M) := by
  unfold sSl bndK bnd
  cases f env M with
  | none => rfl
  | some p => obtain ⟨r, M'⟩ := p; cases r with
    | x c n => rfl
    | v d =>
      dsimp only
      unfold slL
      cases l env M' with
      | none => rfl
      | some p =>
        obtain ⟨lo, M2⟩ := p
        dsimp only
        unfold slH
        cases u env M2 with
        | none => rfl
        | some p => obtain ⟨hi, M3⟩ := p; dsimp only; cases slD (vw M3 d) lo hi <;> rfl
theorem r_slL {lo : Option Int} {q : Mm → Option (Option Int × Mm)} : slL d q (some (lo, M)) = slH d lo (q M) := rfl
theorem r_slH {lo hi : Option Int} : slH d lo (some (hi, M)) = mapR M (slD (vw M d) lo hi) := rfl
theorem q_pno : pNo env M = some (none, M) := rfl
def patR : O → Option (Option Int × Mm)
 | some (.v (.int i), M) => some (some i, M)
 | _ => none
theorem q_pat : pAt f env M = patR (f env M) := by
  unfold pAt patR
  cases f env M with
  | none => rfl
  | some p => obtain ⟨r, M'⟩ := p; cases r with
    | x c n => rfl
    | v d => cases d <;> rfl
theorem r_pat : patR (some (.v (.int i), M)) = some (some i, M) := rfl
def bndT (k : D → Mm → OS) : O → OS
 | some (.v d, M) => k d M
 | some (.x c n, M) => some (.ex c n, M)
 | none => none
theorem r_bndT {q : D → Mm → OS} : bndT q (some (.v d, M)) = q d M := rfl
theorem q_asg : sAsg k f env M = bndT (fun d M1 => if k < env.length then some (.nx (env.set k (.val d)), M1) else none) (f env M) := rfl
def mineD (k : Nat) (env : Env) (M : Mm) : D → OS
 | .lst ds => if k < env.length then some (.nx (env.set k (.own ds)), M) else none
 | _ => none
theorem r_mine : mineD k env M (.lst ds) = if k < env.length then some (.nx (env.set k (.own ds)), M) else none := rfl
theorem q_mine : sMine k f env M = bndT (fun d M1 => mineD k env M1 d) (f env M) := by
  unfold sMine bndT bndS
  cases f env M with
  | none => rfl
  | some p => obtain ⟨r, M'⟩ := p; cases r with
    | x c n => rfl
    | v d => cases d <;> rfl
theorem q_ret : sRet f env M = bndT (fun d M1 => some (.rt d, M1)) (f env M) := rfl
theorem q_retN : sRetN env M = some (.rt .non, M) := rfl
theorem q_drop : sDrop f env M = bndT (fun _ M1 => some (.nx env, M1)) (f env M) := rfl
def ifD (s t : Mm → OS) (M : Mm) : D → OS
 | .bl b => if b = true then s M else t M
 | _ => none
theorem r_if {q r : Mm → OS} : ifD q r M (.bl b) = if b = true then q M else r M := rfl
theorem q_if : sIf c s t env M = bndT (fun d M1 => ifD (s env) (t env) M1 d) (c env M) := by
  unfold sIf bndT bndS
  cases c env M with
  | none => rfl
  | some p => obtain ⟨r, M'⟩ := p; cases r with
    | x c n => rfl
    | v d => cases d <;> rfl
def frzR (k : Nat) (env : Env) (M : Mm) : Option Slot → OS
 | some (.own ds) => some (.nx (env.set k (.val (.lst ds))), M)
 | _ => none
theorem q_frz : sFrz k env M = frzR k env M env[k]? := by
 unfold sFrz frzR; split <;> simp_all
theorem r_frz : frzR k env M (some (.own ds)) = some (.nx (env.set k (.val (.lst ds))), M) := rfl
def appR (k : Nat) (env : Env) (o : O) : Option Slot → OS
 | some (.own ds) => bndT (fun d M1 => if ds.length < sizeLine then some (.nx (env.set k (.own (ds ++ [d]))), M1) else none) o
 | _ => none
theorem q_app : sApp k f env M = appR k env (f env M) env[k]? := by
 unfold sApp appR
 cases env[k]? with
 | none => rfl
 | some s => cases s <;> rfl
theorem r_app {o : O} : appR k env o (some (.own ds)) = bndT (fun d M1 => if ds.length < sizeLine then some (.nx (env.set k (.own (ds ++ [d]))), M1) else none) o := rfl
def forR (k : Nat) (t : S) (env : Env) : Option (ResA × Mm) → OS
 | some (.v ds, M1) => loopS k t ds env M1
 | some (.x c n, M1) => some (.ex c n, M1)
 | none => none
theorem q_for {fs : EA} : sFor k fs t env M = forR k t env (fs env M) := by
 unfold sFor forR
 cases fs env M with
 | none => rfl
 | some p => obtain ⟨r, M'⟩ := p; cases r <;> rfl
theorem r_for : forR k t env (some (.v ds, M)) = loopS k t ds env M := rfl
def lstR : O → Option (ResA × Mm)
 | some (.v (.lst ds), M1) => some (.v ds, M1)
 | some (.x c n, M1) => some (.x c n, M1)
 | _ => none
theorem q_ilst : iLst f env M = lstR (f env M) := by
  unfold iLst lstR
  cases f env M with
  | none => rfl
  | some p => obtain ⟨r, M'⟩ := p; cases r with
    | x c n => rfl
    | v d => cases d <;> rfl
theorem r_ilst : lstR (some (.v (.lst ds), M)) = some (.v ds, M) := rfl
def rng1R : Option (ResA × Mm) → Option (ResA × Mm)
 | some (.v [.int j], M1) => if -1000000000 ≤ j ∧ j ≤ 1000000000 then some (.v ((List.range j.toNat).map fun (k : Nat) => .int (0 + k)), M1) else none
 | some (.x c n, M1) => some (.x c n, M1)
 | _ => none
theorem q_rng1 {fs : EA} : iRng1 fs env M = rng1R (fs env M) := by
 unfold iRng1 rng1R
 rfl
theorem r_rng1 (h : -1000000000 ≤ i ∧ i ≤ 1000000000) : rng1R (some (.v [.int i], M)) = some (.v ((List.range i.toNat).map fun (k : Nat) => .int (0 + k)), M) := if_pos h
theorem q_fn {m : Nat} {t : S} : fnG m t ds M = endS (t (ds.map .val ++ List.replicate (m - ds.length) .un) M) := rfl
theorem r_endR : endS (some (.rt d, M)) = some (.v d, M) := rfl
theorem r_endN {e : Env} : endS (some (.nx e, M)) = some (.v .non, M) := rfl
theorem o_addI : oAdd (.int i) (.int j) = some (.int (i + j)) := rfl
theorem o_addL : oAdd (.lst ds) (.lst es) = if ds.length + es.length ≤ sizeLine then some (.lst (ds ++ es)) else none := rfl
theorem o_sub : oSub (.int i) (.int j) = some (.int (i - j)) := rfl
theorem o_mul : oMul (.int i) (.int j) = if i.natAbs < 18446744073709551616 ∨ j.natAbs < 18446744073709551616 ∨ (i.natAbs.log2 < 10000 ∧ j.natAbs.log2 < 10000) then some (.int (i * j)) else none := rfl
theorem o_fdiv : oFdiv (.int i) (.int j) = if 0 < j ∧ j.natAbs < 1073741824 then some (.int (i / j)) else none := rfl
theorem o_mod : oMod (.int i) (.int j) = if 0 < j then some (.int (i % j)) else none := rfl
theorem o_pow : oPow (.int i) (.int j) = if 0 ≤ j ∧ j.natAbs ≤ 1000000 ∧ i.natAbs < 18446744073709551616 then some (.int (i ^ j.toNat)) else none := rfl
theorem o_neg : oNeg (.int i) = some (.int (-i)) := rfl
theorem o_lt : oCmp .lt (.int i) (.int j) = some (.bl (decide (i < j))) := rfl
theorem o_le : oCmp .le (.int i) (.int j) = some (.bl (decide (i ≤ j))) := rfl
theorem o_gt : oCmp .gt (.int i) (.int j) = some (.bl (decide (j < i))) := rfl
theorem o_ge : oCmp .ge (.int i) (.int j) = some (.bl (decide (j ≤ i))) := rfl
theorem o_eqI : oCmp .eq (.int i) (.int j) = some (.bl (decide (i = j))) := by
 show (cEq _ _).map D.bl = _
 simp [cEq, eqOk, D.flat, D.dep, D.eq]
 rw [Bool.eq_iff_iff]; simp
theorem o_neI : oCmp .ne (.int i) (.int j) = some (.bl (!decide (i = j))) := by
 show (cNe _ _).map D.bl = _
 simp [cNe, eqOk, D.flat, D.dep, D.eq]
 rw [Bool.eq_iff_iff]; simp
theorem o_eqR (h : d.dep ≤ 50) : oCmp .eq d d = some (.bl true) := by
 show (cEq d d).map D.bl = _
 unfold cEq
 rw [if_pos ⟨by simp [eqOk, h], h⟩, D.eq_refl]
 rfl
theorem o_neR (h : d.dep ≤ 50) : oCmp .ne d d = some (.bl false) := by
 show (cNe d d).map D.bl = _
 unfold cNe
 rw [if_pos ⟨by simp [eqOk, h], h⟩, D.eq_refl]
 rfl
theorem o_ixL : oIx (.lst ds) (.int i) = atI ds i := rfl
theorem o_ixT : oIx (.tup ds) (.int i) = atI ds i := rfl
theorem o_lenL : bLen [.lst ds] = some (.int ds.length) := rfl
theorem o_lenT : bLen [.tup ds] = some (.int ds.length) := rfl
theorem o_min : bMin [.int i, .int j] = some (.int (if j < i then j else i)) := rfl
theorem o_max : bMax [.int i, .int j] = some (.int (if j > i then j else i)) := rfl
theorem o_truL : truD (.lst ds) = some (!ds.isEmpty) := rfl
theorem o_truB : truD (.bl b) = some b := rfl
theorem o_slS {lo hi : Option Int} : slD (.str z) lo hi = if z.length ≤ sizeLine then some (.str (Txt.slice z lo hi)) else none := rfl
theorem o_slL {lo hi : Option Int} : slD (.lst ds) lo hi = some (.lst (cutL ds lo hi)) := rfl
theorem o_isiL {tb : String → String → Option Bool} {T : String} : isiO tb T (.lst ds) = (tb "list" T).map .bl := if_neg (show ¬ ("list" = "") by decide)
end
def Step (J : Env → Mm → Prop) (Q : OS → Prop) : OS → Prop
 | some (.nx e, M) => J e M
 | some (.ct e, M) => J e M
 | some (.bk e, M) => Q (some (.nx e, M))
 | some (.rt d, M) => Q (some (.rt d, M))
 | some (.ex c n, M) => Q (some (.ex c n, M))
 | none => False
end E3
namespace E3
open PySem PySem.Spec PyProof.Rows L2
def XN (H : Hp) (n : Int) : Option Addr → Prop
 | none => n = 0
 | some d => ∃ fs, H d = some (.xd fs) ∧ fs.lookup ("at" : Str) = some (.int (n - 1)) ∧ n ≠ 0
def XQ (K : PySem.W.Frag) (mg : Str → Option Value) (P : Pl) (H : Hp) (M' : Mm) (Q : VK) (E : XK) : Res → Prop
 | .v d => ∀ P' v H', LtE P H P' H' → Hk K mg P' H' M' → Is K P' H' d v → Q v H'
 | .x c n => ∀ P' H' C dx, LtE P H P' H' → Hk K mg P' H' M' → mg c = some (.ref C) → XN H' n dx → E (.ref C) dx H'
def spX (K : PySem.W.Frag) (mg : Str → Option Value) (n : Nat) (g : G) : Sp := fun vs H Q E => vs.length = n ∧ ∃ P M ds r M', Hk K mg P H M ∧ Iss K P H ds vs ∧ g ds M = some (r, M') ∧ XQ K mg P H M' Q E r
mutual
theorem Is.away {K : PySem.W.Frag} {P : Pl} {H H' : Hp} (s : ∀ b o, H b = some o → (∀ g, o ≠ .ext g) → H' b = some o) : ∀ {d : D} {v : V}, Is K P H d v → Is K P H' d v
  | .non, _, h => h
  | .bl _, _, h => h
  | .int _, _, h => h
  | .str _, _, h => h
  | .tup ds, _, h => by
    obtain ⟨a, vs, e, q, r⟩ := h
    refine ⟨a, vs, e, ?_, Iss.away s r⟩
    rcases q with (q | ⟨o, q⟩) | q
    · exact .inl (.inl (s _ _ q fun _ z => nomatch z))
    · exact .inl (.inr ⟨o, s _ _ q fun _ z => nomatch z⟩)
    · exact .inr q
  | .lst ds, _, h => by
    obtain ⟨a, vs, e, q, r⟩ := h
    refine ⟨a, vs, e, ?_, Iss.away s r⟩
    rcases q with ⟨n, q | ⟨o, q⟩⟩ | q
    · exact .inl ⟨n, .inl (s _ _ q fun _ z => nomatch z)⟩
    · exact .inl ⟨n, .inr ⟨o, s _ _ q fun _ z => nomatch z⟩⟩
    · exact .inr q
  | .ref k, _, h => h
theorem Iss.away {K : PySem.W.Frag} {P : Pl} {H H' : Hp} (s : ∀ b o, H b = some o → (∀ g, o ≠ .ext g) → H' b = some o) : ∀ {ds : List D} {vs : List V}, Iss K P H ds vs → Iss K P H' ds vs
  | [], _, h => h
  | _ :: _, _, h => by
    obtain ⟨v, r, e, p, q⟩ := h
    exact ⟨v, r, e, Is.away s p, Iss.away s q⟩
end
theorem Hk.away {K : PySem.W.Frag} {mg : Str → Option Value} {P : Pl} {H H' : Hp} {M : Mm} (h : Hk K mg P H M) (s : ∀ b o, H b = some o → (∀ g, o ≠ .ext g) → H' b = some o) (t : ∀ b, H' b = none → H b = none) : Hk K mg P H' M := by
  refine ⟨h.n, fun k c e => ?_, h.inj, h.bd, fun a z q => h.here a z (t a q)⟩
  have := h.cell k c e
  cases c with
  | lst ds =>
    obtain ⟨vs, e1, q⟩ := this
    exact ⟨vs, s _ _ e1 (fun _ z => nomatch z), Iss.away s q⟩
  | obj c fs =>
    obtain ⟨C, dx, gs, e1, e2, e3, q⟩ := this
    exact ⟨C, dx, gs, e1, s _ _ e2 (fun _ z => nomatch z), e3, Iss.away s q⟩
  | dct kvs =>
    obtain ⟨vs, e1, e2, q⟩ := this
    exact ⟨vs, s _ _ e1 (fun _ z => nomatch z), e2, Iss.away s q⟩
structure XFit (X : Cx) (Wx : XW) : Prop where
 xr : ∀ pins σ H s a C dx c n P0 H0 P M, Inv X pins σ H s → H a = some (xo a C dx true) → ¬ P.bd a → H0 a = none → LtE P0 H0 P H → Hk X.K X.mg P H M → X.mg c = some (.ref C) → XN H n dx → Wx P0 H0 M c n → X.xe (.ref a) s
section
variable {X : Cx} {Wx : XW} {pos : Pos}
def sRaise (c : Str) (f : E) : S := fun env M => bndS (f env M) fun _ M1 => some (.ex c 0, M1)
theorem ss_raise {c : Str} {C : Addr} {e : Expr} {f : E} {p q : Pos} (F : XFit X Wx) (hc : X.calm = true) (m : X.mg c = some (.ref C)) (q1 : xcIn X.K C = true) (q2 : xnoIn X.K C = true) (kp : PySem.W.keepIn X.K (.ref C) = true) (hg : Gl X c) (he : SE X Wx .val e f) (hdb : (c == ("__debug__" : Str)) = false := by decide +kernel)
  (hs : starEach [e] X.env = [(false, eval e X.env)] := by rfl) : SS X Wx (.Raise (some (.Call (.Name c p) [e] [] q)) none pos) (sRaise c f) := by
 refine ps_imp (ps_raise (W := fun a C' dx H => dx = none ∧ C' = C ∧ ∃ P0 H0 P M, ¬ P.bd a ∧ H0 a = none ∧ LtE P0 H0 P H ∧ Hk X.K X.mg P H M ∧ Wx P0 H0 M c 0) (pe_plain q1 q2 kp hg m he hdb hs) hc fun pins σ H s a C' dx I ea ⟨e1, e2, P0, H0, P, M, b, n, l, h, w⟩ => ?_) ?_
 ·subst e1 e2
  exact F.xr pins σ H s a _ none c 0 P0 H0 P M I ea b n l h m rfl w
 ·rintro D st H ⟨P0, H0, P, Os, env, M, out, M', k, e, q⟩
  unfold sRaise at e
  rcases bndS_inv e with ⟨d, M1, e1, e⟩ | ⟨c, n, e1, rfl⟩
  ·cases e
   refine ⟨P0, H0, P, Os, env, M, _, _, k, e1, fun P1 v H1 l1 h1 i1 => ⟨rfl, fun a ha => ⟨a, C, none, rfl, upd_same, q1, rfl, rfl, P0, H0, P1, _, h1.new a ha, ?_, ?_, ?_, q⟩⟩⟩
   ·exact k.base.sure a (l1.sure a ha)
   ·exact k.base.trans (l1.trans (LtE.same (same_new ha)))
   ·exact h1.same (same_new ha)
  ·exact ⟨P0, H0, P, Os, env, M, _, _, k, e1, q⟩
end
section
variable {P : Program} {w : World} {K : PySem.W.Frag} {mg : Str → Option Value} {base : Heap} {k : Nat} {x qual : Str} {st : Stmt} {f : Addr} {fd : FuncData} {N ps : List Str} {b : S}
abbrev cxX (P : Program) (w : World) (K : PySem.W.Frag) (mg : Str → Option Value) (base : Heap) (N : List Str) (qual : Str) (st : Stmt) (f : Addr) (cdv : Value) (A : Around) (outer : List PySem.Env) (s : Shared) (H : Hp) (E : XK) : Cx := cxOf (CX1 P w) P w K mg base N qual (defScope st) f cdv A outer s H E
end
section
variable {P : Program} {w : World} {K : PySem.W.Frag} {mg : Str → Option Value} {base : Heap} {k : Nat} {x qual : Str} {st : Stmt} {f : Addr} {fd : FuncData} {N ps : List Str} {b : S}
theorem fnok_still {sp : Sp} (F : FnOk P w K mg base (CX1 P w) k f fd ps sp) : FnOk P w K mg base CX0 k f fd ps (fun vs H Q _ => sp vs H Q E0) :=
 ⟨fun vs H Q E h => F.len vs H Q E0 h, fun A outer s H args us vs Q E hr he hb hv hs => codeAny_mono (F.run A outer s H args us vs Q E0 hr he hb hv hs) fun r s' z => by
  cases r with
  | error e => obtain ⟨_, _, _, _, _, _, _, _, _, _, _, _, _, _, z⟩ := z; exact z
  | ok fl => cases fl <;> exact z⟩
theorem fnok_quiet {n : Nat} {g : G} (F : FnOk P w K mg base (CX1 P w) k f fd ps (spX K mg n g)) : FnOk P w K mg base CX0 k f fd ps (spG K mg n g) := by
 have F0 := fnok_still F
 refine ⟨fun vs H Q E h => F0.len vs H Q E ?_, fun A outer s H args us vs Q E hr he hb hv hs => F0.run A outer s H args us vs Q E hr he hb hv ?_⟩
 ·obtain ⟨hl, P, M, ds, d, M', hk, is, e, q⟩ := h
  exact ⟨hl, P, M, ds, .v d, M', hk, is, e, q⟩
 ·obtain ⟨hl, P, M, ds, d, M', hk, is, e, q⟩ := hs
  exact ⟨hl, P, M, ds, .v d, M', hk, is, e, q⟩
def AtMX (P : Program) (w : World) (K : PySem.W.Frag) (mg : Str → Option Value) (base : Heap) (k : Nat) (C : Addr) (m : Str) (n : Nat) (g : G) : Prop :=
 ∃ f fd ps, Meth K C m f ∧ FnOk P w K mg base (CX1 P w) k f fd ps (spX K mg n g) ∧ Binds K fd ps []
def AtIX (P : Program) (w : World) (K : PySem.W.Frag) (mg : Str → Option Value) (base : Heap) (k : Nat) (C : Addr) (n : Nat) (g : G) : Prop :=
 ∃ f fd ps, Mk K C f ∧ FnOk P w K mg base (CX1 P w) k f fd ps (spX K mg n g) ∧ Binds K fd ps []
def AtX (P : Program) (w : World) (K : PySem.W.Frag) (mg : Str → Option Value) (base : Heap) (k : Nat) (f : Str) (n : Nat) (g : G) : Prop :=
 ∃ fa fd ps, mg f = some (.ref fa) ∧ PySem.W.keepIn K (.ref fa) = true ∧ FnOk P w K mg base (CX1 P w) k fa fd ps (spX K mg n g) ∧ Binds K fd ps []
theorem AtMX.quiet {C : Addr} {m : Str} {n : Nat} {g : G} (a : AtMX P w K mg base k C m n g) : AtM P w K mg base k C m n g := by
 obtain ⟨f, fd, ps, h1, h2, h3⟩ := a
 exact ⟨f, fd, ps, h1, fnok_quiet h2, h3⟩
theorem AtIX.quiet {C : Addr} {n : Nat} {g : G} (a : AtIX P w K mg base k C n g) : AtI P w K mg base k C n g := by
 obtain ⟨f, fd, ps, h1, h2, h3⟩ := a
 exact ⟨f, fd, ps, h1, fnok_quiet h2, h3⟩
theorem AtX.quiet {n : Nat} {g : G} (a : AtX P w K mg base k x n g) : AtG P w K mg base k x n g := by
 obtain ⟨fa, fd, ps, h1, h2, h3, h4⟩ := a
 exact ⟨fa, fd, ps, [], [], _, h1, h2, fnok_quiet h3, h4, .nil, fun vs H Q E h => by rw [List.append_nil]; exact h⟩
theorem AtMX.mono {j : Nat} {C : Addr} {m : Str} {n : Nat} {g : G} (a : AtMX P w K mg base j C m n g) (h : j ≤ k) : AtMX P w K mg base k C m n g := by
 obtain ⟨f, fd, ps, h1, h2, h3⟩ := a
 exact ⟨f, fd, ps, h1, h2.mono h, h3⟩
theorem AtIX.mono {j : Nat} {C : Addr} {n : Nat} {g : G} (a : AtIX P w K mg base j C n g) (h : j ≤ k) : AtIX P w K mg base k C n g := by
 obtain ⟨f, fd, ps, h1, h2, h3⟩ := a
 exact ⟨f, fd, ps, h1, h2.mono h, h3⟩
theorem AtX.mono {j : Nat} {n : Nat} {g : G} (a : AtX P w K mg base j x n g) (h : j ≤ k) : AtX P w K mg base k x n g := by
 obtain ⟨f, fd, ps, h1, h2, h3, h4⟩ := a
 exact ⟨f, fd, ps, h1, h2, h3.mono h, h4⟩
end
end E3
namespace L2
open PySem PySem.Spec PyProof.Rows
section
variable {X : Cx} {CX : CXT} {k : Nat} {f C : Addr} {fd : FuncData} {ps : List Str} {sp : Sp} {x m : Str} {p pos apos : Pos} {e o : Expr} {es : List Expr} {ta : TE} {t : TA} {Ex : St → XK}
def PassX (CX : CXT) (X : Cx) (Ex : St → XK) : Prop := ∀ pins σ H s e s', Inv X pins σ H s → CX X.stack H s (Ex σ) e s' → X.xe e s'
end
end L2
namespace E3
open PySem PySem.Spec PyProof.Rows L2
section
variable {X : Cx} {Wx : XW} {pos : Pos}
def SX (X : Cx) (e : Expr) (f : E) : Prop := ∀ Ex : L2.St → XK, PassX (CX1 X.prog X.w) X Ex → PE X e fun st H Q => ∃ P0 H0 P Os env M r M', Ok X.K X.mg P0 H0 P Os H M st env ∧ f env M = some (r, M') ∧ XQ X.K X.mg P H M' Q (Ex st) r
theorem XQ.lt {K : PySem.W.Frag} {mg : Str → Option Value} {P P1 : Pl} {H H1 : Hp} {M' : Mm} {Q : VK} {E : XK} {r : Res} (l : LtE P H P1 H1) (q : XQ K mg P H M' Q E r) : XQ K mg P1 H1 M' Q E r := by
 cases r with
 | v d => exact fun P' v H' l' h i => q P' v H' (l.trans l') h i
 | x c n => exact fun P' H' C dx l' h m xn => q P' H' C dx (l.trans l') h m xn
def sCallX (g : G) (fs : EA) : E := fun env M => match fs env M with
 | some (.v ds, M1) => g ds M1
 | _ => none
theorem sx_call {k n : Nat} {f : Str} {g : G} {e : Expr} {es : List Expr} {fs : EA} {p : Pos} (a : AtX X.prog X.w X.K X.mg X.base k f n g) (hr : Room k X.A) (hg : Gl X f) (ha : SA X W0 .val (e :: es) fs) (hn : Cnt n fs) (hdb : (f == ("__debug__" : Str)) = false := by decide +kernel)
  (he : starEach (e :: es) X.env = (false, eval e X.env) :: starEach es X.env := by rfl) (hpl : (backTo pos (starEach es X.env)).any (·.1) = false := by rfl) : SX X (.Call (.Name f p) (e :: es) [] pos) (sCallX g fs) := by
 obtain ⟨fa, fd, ps, hm, hk, F, hb⟩ := a
 intro Ex hx
 refine pe_imp (pe_callX F hr hg hm hk hb .nil hx ha hdb he hpl) ?_
 rintro st H Q ⟨P0, H0, P, Os, env, M, r, M', k, e, q⟩
 unfold sCallX at e
 split at e
 ·rename_i ds M1 e1
  exact ⟨P0, H0, P, Os, env, M, _, _, k, e1, fun P1 vs H1 l1 h1 i1 => by
   dsimp only
   rw [List.append_nil]
   exact ⟨by rw [i1.len]; exact hn _ _ _ _ e1, P1, M1, ds, r, _, h1, i1.iss, e, q.lt l1⟩⟩
 ·cases e
def PostX (K : PySem.W.Frag) (mg : Str → Option Value) (E : XK) (P0 : Pl) (H0 : Hp) (P : Pl) (H : Hp) (M' : Mm) (D : Ends) : Out → Prop
 | .ex c n => ∀ P' H' C dx, LtE P H P' H' → Hk K mg P' H' M' → mg c = some (.ref C) → XN H' n dx → E (.ref C) dx H'
 | .nx env => Post K mg W0 P0 H0 P H M' D (.nx env)
 | .bk env => Post K mg W0 P0 H0 P H M' D (.bk env)
 | .ct env => Post K mg W0 P0 H0 P H M' D (.ct env)
 | .rt d => Post K mg W0 P0 H0 P H M' D (.rt d)
theorem PostX.lt {K : PySem.W.Frag} {mg : Str → Option Value} {E : XK} {P0 P P1 : Pl} {H0 H H1 : Hp} {M M' : Mm} {D : Ends} {o : Out} (h : Hk K mg P H M) (l : LtE P H P1 H1) (q : PostX K mg E P0 H0 P H M' D o) : PostX K mg E P0 H0 P1 H1 M' D o := by
 cases o with
 | ex c n => exact fun P' H' C dx l' h m xn => q P' H' C dx (l.trans l') h m xn
 | nx env => exact Post.lt (Wx := W0) (o := .nx env) (l.lt h) q
 | bk env => exact Post.lt (Wx := W0) (o := .bk env) (l.lt h) q
 | ct env => exact Post.lt (Wx := W0) (o := .ct env) (l.lt h) q
 | rt d => exact Post.lt (Wx := W0) (o := .rt d) (l.lt h) q
def tBX (K : PySem.W.Frag) (mg : Str → Option Value) (Ex : L2.St → XK) (b : S) : TS := fun D st H => ∃ P0 H0 P Os env M out M', Ok K mg P0 H0 P Os H M st env ∧ b env M = some (out, M') ∧ PostX K mg (Ex st) P0 H0 P H M' D out
def SXs (X : Cx) (s : Stmt) (b : S) : Prop := ∀ Ex : L2.St → XK, PassX (CX1 X.prog X.w) X Ex → PS X s (tBX X.K X.mg Ex b)
def BX (X : Cx) (ss : List Stmt) (b : S) : Prop := ∀ Ex : L2.St → XK, PassX (CX1 X.prog X.w) X Ex → PSs X ss (tBX X.K X.mg Ex b)
theorem bx_one {s : Stmt} {b : S} (h : SXs X s b) : BX X [s] b := fun Ex hx => pss_one (h Ex hx)
theorem sx_asg {i : Nat} {x : Str} {e : Expr} {f : E} {pos' : Pos} (hN : X.N.Nodup) (hi : X.N[i]? = some x) (hx : Loc X.env.scope x) (h : SX X e f) (hs : swapsWith e (some (.Name x pos')) pos.line X.env = pure false := by rfl)
  (hf : X.fn x = true ∨ X.env.scope.names.lookup x = some .local := by first | exact .inl rfl | exact .inr rfl) : SXs X (.Assign [.Name x pos'] e pos) (sAsg i f) := by
 intro Ex hX
 refine ps_imp (ps_set hN hi hx (h Ex hX) hs hf) ?_
 rintro D st H ⟨P0, H0, P, Os, env, M, out, M', k, e, q⟩
 unfold sAsg at e
 rcases bndS_inv e with ⟨d, M1, e1, e⟩ | ⟨c, n, e1, rfl⟩
 ·split at e
  ·rename_i hl
   cases e
   exact ⟨P0, H0, P, Os, env, M, _, _, k, e1, fun P1 v1 H1 l1 h1 i1 => q _ _ _ _ (l1.lt k.hk) ((k.next l1 h1).asg hl i1)⟩
  ·cases e
 ·exact ⟨P0, H0, P, Os, env, M, _, _, k, e1, q⟩
end
end E3
namespace L2
open PySem PySem.Spec PyProof.Rows
section
variable {prog : Program} {w : World} {A : Around} {E : Value → Shared → Prop} {s : Shared} {K : PySem.W.Frag} {x C : Addr} {ox : Obj} {od : Option Obj} {name : Str} {tk : Tok}
theorem findObj_any {a g : Value} (hc : (PySem.W.clsIn K C).isSome = true) (ha : PySem.W.findIn K (.ref C) name = some (some a)) (hg : PySem.W.specialIn K a "__get__" = some (some g)) (ht : PySem.W.takesIn K a = some true) : PySem.W.findObj K C od name = some (.bind g a) := by
 obtain ⟨cd, hc⟩ := Option.isSome_iff_exists.mp hc
 unfold PySem.W.findObj
 rw [hc, Option.bind_some, ha, Option.bind_some]
 simp [hg, ht]
theorem x_classO {Q : Option Value → Shared → Prop} (X : K.In s.heap) (q : xgaIn K C = true) (I : PySem.W.InstAt s.heap x ox C od) (h1 : PySem.W.hasDictIn K C = true) (h2 : PySem.W.findIn K (.ref C) "__class__" = some (some (.builtin "object.__class__")))
  (h3 : PySem.W.specialIn K (.builtin "object.__class__") "__get__" = some (some (.builtin "getset_descriptor.__get__"))) (h4 : PySem.W.takesIn K (.builtin "object.__class__") = some true) (h5 : PySem.W.mroIn K C (.type "object") = some true)
  (k : Q (some (.ref C)) { s with toks := s.toks + 1 }) : wpAny (model prog w) A (getAttr? (.ref x) "__class__") Q E s := by
 have hf : PySem.W.findObj K C od "__class__" = some (.bind (.builtin "getset_descriptor.__get__") (.builtin "object.__class__")) := findObj_any (by obtain ⟨cd, hc, _⟩ := PySem.W.any_some h1; rw [hc]; rfl) h2 h3 h4
 unfold getAttr? getAttrBy?
 refine wpAny_bind (wpAny_mkText (wpAny_bind (wpAny_attempt (x_by (s := { s with toks := s.toks + 1 }) X q I ?_))))
 refine x_bound (s := { s with toks := s.toks + 1 }) X I hf (wpAny_call (PySem.W.class_get (s := { s with toks := s.toks + 1 }) X I h5 ?_))
 exact PySem.W.handed_on rfl (wpAny_pure k)
end
def rXi (K : PySem.W.Frag) : List V → Hp → VK → Prop := fun xs H Q => ∃ a C dx b0 c cv b, xs = [.ref a, cv] ∧ H a = some (xo a C dx b0) ∧ xisIn K C = true ∧ (∀ d, dx = some d → ∃ fs, H d = some (.xd fs)) ∧ absU cv = some c ∧ PySem.W.kitOne K (.ref C) c = some b ∧ Q (.bl b) H
theorem call_xi {X : Cx} : CallR X (.builtin "isinstance") (rXi X.K) := by
  intro pins s σ H vs us Q I r h
  obtain ⟨a, C, dx, b0, c, cv, b, rfl, ea, q, hdx, hc, hk, hq⟩ := h
  simp only [xisIn, Bool.and_eq_true, beq_iff_eq] at q
  obtain ⟨q1, q2, q3, q4, q5, q6⟩ := q
  obtain ⟨oe, ws, t, e1, e2, e3, e4, _⟩ := xo_get I.hok ea
  have J : ∃ od, PySem.W.InstAt s.heap a oe C od := by
    cases dx with
    | none => exact ⟨none, e1, e2, by unfold PySem.W.notCls; rw [e4], by rw [e3]; exact True.intro⟩
    | some d =>
      obtain ⟨fs, ed⟩ := hdx d rfl
      obtain ⟨mA, n, _⟩ := (show ObjOk X.prog X.w H s.heap d (.xd fs) from I.hok d _ ed)
      obtain ⟨od, d1, _⟩ := lookIn_ns n
      exact ⟨some od, e1, e2, by unfold PySem.W.notCls; rw [e4], by rw [e3]; exact d1⟩
  obtain ⟨od, J⟩ := J
  have Z : PySem.W.KitX X.K (.ref a) (.ref C) (fun h => PySem.W.InstAt h a oe C od) := by
    obtain ⟨cd0, hc0, _⟩ := PySem.W.any_some q2
    have lk0 : ∃ c' d' cd' sl', X.K.lookup C = some ⟨c', d', .cls cd', sl'⟩ := by
      unfold PySem.W.clsIn at hc0
      split at hc0
      · rename_i ho; exact ⟨_, _, _, _, ho⟩
      · cases hc0
    obtain ⟨c', d', cd', sl', ho⟩ := lk0
    refine ⟨fun _ _ _ I => I.type, fun _ _ XX _ => ?_, fun h tp dd its n sl XX ht => Bool.eq_false_iff.mpr fun z => ?_, fun XX I k => x_classO XX q1 I q2 q3 q4 q5 q6 k⟩
    · intro A' Q' E' s' k z
      unfold isType loadHead
      exact wpAny_bind (wpAny_loadPart (k _ _ (XX _ _ ho)) (wpAny_pure z))
    · have z := beq_iff_eq.mp z
      cases z
      have y := (XX _ _ ho).symm.trans ht
      cases y
  cases r with
  | cons r1 r2 =>
    cases r2 with
    | cons r3 r4 =>
      cases r4
      cases r1
      rw [absU_of r3 hc]
      exact PySem.W.kia_one Z I.kIn J hk (fun z => nomatch z) fun tk => ⟨.bl b, H, I.tok tk, rfl, hq⟩
end L2
namespace E3
open PySem PySem.Spec PyProof.Rows L2
section
variable {K : PySem.W.Frag} {mg : Str → Option Value} {P0 P : Pl} {H0 H : Hp} {M : Mm} {Os : List (Option Addr)} {st : L2.St} {env : Env} {i : Nat}
theorem Ok.put {s : Slot} {sv : Option V} (k : Ok K mg P0 H0 P Os H M st env) (hi : i < env.length) (h : SlotOk K mg P H none sv s) : Ok K mg P0 H0 P (Os.set i none) H M (st.set i sv) (env.set i s) where
 hk := k.hk
 base := k.base
 b0 := k.b0
 slot := fun j s e => by
  rw [set_join _ _ _ _ (by rw [k.olen]; exact hi), set_join _ _ _ _ (by rw [k.slen]; exact hi)]
  rw [List.getElem?_set] at e
  split at e
  ·rename_i ij
   subst ij
   cases e
   rw [if_pos rfl, if_pos rfl]
   exact h
  ·rename_i ij
   rw [if_neg ij, if_neg ij]
   exact k.slot j s e
 own := fun a h => k.own a (by
  rcases List.mem_or_eq_of_mem_set h with h | h
  ·exact h
  ·cases h)
 inj := fun j l a e1 e2 => by
  rw [List.getElem?_set] at e1 e2
  split at e1
  ·split at e1 <;> cases e1
  ·split at e2
   ·split at e2 <;> cases e2
   ·exact k.inj j l a e1 e2
 olen := by rw [List.length_set, List.length_set, k.olen]
 slen := by rw [List.length_set, List.length_set, k.slen]
end
section
variable {X : Cx} {Wx : XW} {m : Mode} {pos : Pos}
def sTry (i : Nat) (cat : Str → Bool) (b h : S) : S := fun env M => match b env M with
  | some (.ex c n, M1) => if cat c = true then (if i < env.length then (match h (env.set i (.exc c n)) M1 with
    | some (.nx env', M2) => (match env'[i]? with
      | some (.exc _ _) => some (.nx (env'.set i .un), M2)
      | _ => none)
    | some (.rt d, M2) => some (.rt d, M2)
    | _ => none) else none) else none
  | o => o
theorem ss_try {body suite : List Stmt} {b0 : Stmt} {cn n : Str} {np hp : Pos} {c : Addr} {i : Nat} {b h : S} {cat : Str → Bool}
    (hs : X.stack = X.env :: X.outer) (hf : X.env.frame = some X.env.locals) (hc : X.calm = true) (hN : X.N.Nodup) (hi : X.N[i]? = some n) (hl : X.env.scope.names.lookup n = some .local) (hg : Gl X cn) (hm : X.mg cn = some (.ref c)) (q : xcIn X.K c = true)
    (hcat : ∀ c', cat c' = true → ∃ C, X.mg c' = some (.ref C) ∧ xcIn X.K C = true ∧ supIn X.K C c = true) (hb : ∀ pins E, BX (X.pin pins E) body b) (hh : ∀ e, SB (X.suite e) W0 (b0 :: suite) h) (hdb : (cn == ("__debug__" : Str)) = false := by decide +kernel) :
    SS X Wx (.Try body [.ExceptHandler (some (.Name cn np)) (some n) (b0 :: suite) hp] [] [] pos) (sTry i cat b h) := by
  let Ex : Ends → L2.St → XK := fun D σ Cv dx H' => ∀ a C, Cv = .ref C → H' a = some (xo a C dx false) → xcIn X.K C = true ∧ supIn X.K C c = true ∧ tS X.K X.mg W0 h { D with nx := fun σ H => ∃ v, σ[i]? = some (some v) ∧ D.nx (σ.set i none) H, bk := fun _ _ => False, ct := fun _ _ => False } (σ.set i (some (.ref a))) H'
  refine ps_imp (ps_tryR (tb := fun D => tBX X.K X.mg (Ex D) b) (th := tS X.K X.mg W0 h) hs hf hc hN hi hl hg hm q hdb (fun pins D => hb pins _ (Ex D) fun pins' σ H s e s' I z => ?_) hh) ?_
  · obtain ⟨a, C, dx, H', T, rfl, K1, hE⟩ := caught_of (X := X) I.of_pin z
    obtain ⟨z1, z2, z3⟩ := hE a C rfl K1.obj
    exact ⟨σ, H', a, C, dx, T, rfl, K1, z1, z2, z3⟩
  · rintro D st H ⟨P0, H0, P, Os, env, M, out, M', k, e, q⟩
    unfold sTry at e
    split at e
    · rename_i c' n' M1 e1
      split at e
      · rename_i hct
        split at e
        · rename_i hil
          obtain ⟨C, hmC, x1, x2⟩ := hcat c' hct
          refine ⟨P0, H0, P, Os, env, M, _, _, k, e1, fun P1 H1 C1 dx l1 h1 m1 xn a C2 eC ea => ?_⟩
          cases eC
          cases hmC.symm.trans m1
          have k1 := (k.next l1 h1).put (s := .exc c' n') (sv := some (.ref a)) hil ⟨_, rfl, a, C, dx, rfl, m1, ea, xn⟩
          refine ⟨x1, x2, ?_⟩
          split at e
          · rename_i env' M2 e2
            split at e
            · rename_i c3 n3 ex
              cases e
              refine ⟨P0, H0, P1, _, _, M1, _, _, k1, e2, fun P2 Os2 H2 st2 l2 k2 => ?_⟩
              obtain ⟨v, ev, _⟩ := k2.slot i _ ex
              exact ⟨v, join_get ev, q P2 _ H2 _ ((l1.lt k.hk).trans l2) (k2.put (s := .un) (sv := none) (List.getElem?_eq_some_iff.mp ex).1 True.intro)⟩
            · cases e
          · rename_i d M2 e2
            cases e
            exact ⟨P0, H0, P1, _, _, M1, _, _, k1, e2, q⟩
          · cases e
        · cases e
      · cases e
    · rename_i o hne
      refine ⟨P0, H0, P, Os, env, M, _, _, k, e, ?_⟩
      cases out with
      | ex c n => exact absurd e (hne c n M')
      | nx env => exact q
      | bk env => exact q
      | ct env => exact q
      | rt d => exact q
def sIsX (i : Nat) (tb : Str → Option Bool) : E := fun env M => match env[i]? with
 | some (.exc c _) => (tb c).map fun b => (.v (.bl b), M)
 | _ => none
def SupT (X : Cx) (u : Value) (tb : Str → Option Bool) : Prop := ∀ c b, tb c = some b → ∃ C, X.mg c = some (.ref C) ∧ xisIn X.K C = true ∧ PySem.W.kitOne X.K (.ref C) u = some b
theorem isx_go {i : Nat} {tb : Str → Option Bool} {u : Value} {cv : V} {st : L2.St} {H : Hp} {Q : VK} (hu : absU cv = some u) (ht : SupT X u tb) (w : tE X.K X.mg Wx m (sIsX i tb) st H Q) : ∃ v, st[i]? = some (some v) ∧ rXi X.K [v, cv] H Q := by
 obtain ⟨P0, H0, P, Os, env, M, r, M', k, e, q⟩ := w
 unfold sIsX at e
 split at e
 ·rename_i c n hs
  rw [Option.map_eq_some_iff] at e
  obtain ⟨b, eb, e⟩ := e
  cases e
  obtain ⟨v, ev, a, C, dx, rfl, m1, ea, xn⟩ := k.slot i _ hs
  obtain ⟨C2, m2, x2, k2⟩ := ht c b eb
  cases m1.symm.trans m2
  refine ⟨_, join_get ev, a, C, dx, false, u, cv, b, rfl, ea, x2, fun d hd => ?_, hu, k2, q P _ H (LtE.refl P H) k.hk (IsM.of k.hk (show Is _ _ _ (.bl b) _ from rfl))⟩
  subst hd
  obtain ⟨fs, ed, _⟩ := xn
  exact ⟨fs, ed⟩
 ·cases e
theorem se_isx {i : Nat} {x cn : Str} {c : Addr} {tb : Str → Option Bool} {p p' p2 : Pos} (hN : X.N[i]? = some x) (hv : X.env.scope.names.lookup x = some .local) (ht : SupT X (.ref c) tb) (hg : Gl X "isinstance") (hm : X.mg "isinstance" = none) (hg' : Gl X cn) (hm' : X.mg cn = some (.ref c)) (hd : (x == ("__debug__" : Str)) = false := by decide +kernel) (hcd : (x == ("__classdict__" : Str)) = false := by decide +kernel) (hd' : (cn == ("__debug__" : Str)) = false := by decide +kernel)
  (hs : starEach [.Name x p2, .Name cn p'] X.env = (false, eval (.Name x p2) X.env) :: starEach [.Name cn p'] X.env := by rfl) : SE X Wx m (.Call (.Name "isinstance" p) [.Name x p2, .Name cn p'] [] pos) (sIsX i tb) := by
 refine pe_imp (pe_callB call_xi hg hm boot_isinstance (pa_cons (pe_var hN (.inl hv) hd hcd) (pa_cons (pe_glob hg' hm' (v := .ref c) rfl hd') pa_nil) hs) (by decide +kernel) (by decide +kernel) hs rfl) ?_
 intro st H Q w
 exact isx_go rfl ht w
theorem se_isxB {i : Nat} {x : Str} {T : String} {tb : Str → Option Bool} {p p' p2 : Pos} (hN : X.N[i]? = some x) (hv : X.env.scope.names.lookup x = some .local) (ht : SupT X (.type T) tb) (hg : Gl X "isinstance") (hm : X.mg "isinstance" = none) (hg' : Gl X (Str.ofString T)) (hm' : X.mg (Str.ofString T) = none) (hT : bootBuiltins (Str.ofString T) = some (.type T)) (hd : (x == ("__debug__" : Str)) = false := by decide +kernel) (hcd : (x == ("__classdict__" : Str)) = false := by decide +kernel)
  (n1 : Str.ofString T ≠ "__name__" := by decide +kernel) (n2 : (Str.ofString T == ("__debug__" : Str)) = false := by decide +kernel)
  (hs : starEach [.Name x p2, .Name (Str.ofString T) p'] X.env = (false, eval (.Name x p2) X.env) :: starEach [.Name (Str.ofString T) p'] X.env := by rfl) : SE X Wx m (.Call (.Name "isinstance" p) [.Name x p2, .Name (Str.ofString T) p'] [] pos) (sIsX i tb) := by
 refine pe_imp (pe_callB call_xi hg hm boot_isinstance (pa_cons (pe_var hN (.inl hv) hd hcd) (pa_cons (pe_bltn hg' hm' hT (v := .ty T) rfl n1 n2) pa_nil) hs) (by decide +kernel) (by decide +kernel) hs rfl) ?_
 intro st H Q w
 exact isx_go rfl ht w
end
end E3
namespace E3
open PySem PySem.Spec PyProof.Rows L2
section
variable {X : Cx} {Wx : XW} {m : Mode} {pos : Pos}
end
section
variable {X : Cx} {Wx : XW}
def iTp (f : E) : EA := fun env M => match f env M with
 | some (.v (.tup ds), M1) => some (.v ds, M1)
 | some (.x c n, M1) => some (.x c n, M1)
 | _ => none
theorem si_tp {tg e : Expr} {f : E} (h : SE X Wx .val e f) : SI X Wx tg e (iTp f) := by
 refine pi_imp (pi_tup h) ?_
 rintro st H R ⟨P0, H0, P, Os, env, M, r, M', k, e, q⟩
 unfold iTp at e
 split at e
 ·rename_i ds M1 ef
  cases e
  refine ⟨P0, H0, P, Os, env, M, _, _, k, ef, fun P1 v1 H1 l1 h1 i1 => ?_⟩
  obtain ⟨a, vs, rfl, ra, is⟩ := i1
  refine ⟨a, rfl, ⟨vs, ra⟩, q P1 H1 _ l1 h1 fun P2 H2 l2 => ?_⟩
  have sq : SqT X.K H2 a vs := l2.tup ra
  have is2 := Iss.lt l2 is
  refine ⟨fun j hj => ?_, fun j h1 h2 => ⟨vs, sq, by rw [is2.len]; exact h1⟩, fun j x H' y hj => ⟨y.1, ?_⟩⟩
  ·obtain ⟨v, ev, _⟩ := Iss.get is2 (List.getElem?_eq_getElem hj)
   exact ⟨vs, v, sq, ev⟩
  ·obtain ⟨v, ev, iv⟩ := Iss.get is2 (List.getElem?_eq_getElem hj)
   have := y.2 vs sq
   rw [ev] at this
   cases this
   exact ⟨_, List.getElem?_eq_getElem hj, iv⟩
 ·rename_i c n M1 ef
  cases e
  exact ⟨P0, H0, P, Os, env, M, _, _, k, ef, q⟩
 ·cases e
end
theorem xga_mk {K : PySem.W.Frag} {C : Addr} (h1 : PySem.W.findIn K (.ref C) "__getattribute__" = some (some (.builtin "BaseException.__getattribute__"))) (h2 : PySem.W.findIn K (.ref C) "__getattr__" = some none) (h3 : PySem.W.mroIn K C (.type "BaseException") = some true) : xgaIn K C = true := by
 simp only [xgaIn, h1, h2, h3, beq_self_eq_true, Bool.and_self]
theorem xis_mk {K : PySem.W.Frag} {C : Addr} (h1 : xgaIn K C = true) (h2 : PySem.W.hasDictIn K C = true) (h3 : PySem.W.findIn K (.ref C) "__class__" = some (some (.builtin "object.__class__"))) (h4 : PySem.W.specialIn K (.builtin "object.__class__") "__get__" = some (some (.builtin "getset_descriptor.__get__")))
  (h5 : PySem.W.takesIn K (.builtin "object.__class__") = some true) (h6 : PySem.W.mroIn K C (.type "object") = some true) : xisIn K C = true := by
 simp only [xisIn, h1, h2, h3, h4, h5, h6, beq_self_eq_true, Bool.and_self]
end E3
namespace E3
open PySem L2
section
variable {env : Env} {M M1 M2 : Mm} {f g o v : E} {d e x : D} {i : Int} {k : Nat} {ds : List D} {s t : S} {c me fl : Str} {fs : List (Str × D)} {gg : G} {fa : EA}
theorem r_endX {a : Int} : endS (some (.ex c a, M)) = some (.x c a, M) := rfl
def tpR : O → Option (ResA × Mm)
 | some (.v (.tup ds), M1) => some (.v ds, M1)
 | some (.x c n, M1) => some (.x c n, M1)
 | _ => none
theorem q_itp : iTp f env M = tpR (f env M) := by
  unfold iTp tpR
  cases f env M with
  | none => rfl
  | some p => obtain ⟨r, M'⟩ := p; cases r with
    | x c n => rfl
    | v d => cases d <;> rfl
theorem r_itp : tpR (some (.v (.tup ds), M)) = some (.v ds, M) := rfl
theorem r_rng2 {i j : Int} (h : fa env M = some (.v [.int i, .int j], M1)) (hb : (-1000000000 ≤ i ∧ i ≤ 1000000000) ∧ -1000000000 ≤ j ∧ j ≤ 1000000000) : iRng2 fa env M = some (.v ((List.range (j - i).toNat).map fun (k : Nat) => .int (i + k)), M1) := by
 simp only [iRng2, h, hb, if_true, and_self]
end
theorem AtI.mono {P : Program} {w : World} {K : PySem.W.Frag} {mg : Str → Option Value} {base : Heap} {j k : Nat} {C : Addr} {n : Nat} {g : G} (a : AtI P w K mg base j C n g) (h : j ≤ k) : AtI P w K mg base k C n g := by
 obtain ⟨f, fd, ps, h1, h2, h3⟩ := a
 exact ⟨f, fd, ps, h1, h2.mono h, h3⟩
end E3
namespace E3
open PySem PySem.Spec PyProof.Rows L2
theorem se_vV {X : Cx} {Wx : XW} {m : Mode} {i : Nat} {x : Str} {pos : Pos} (hN : X.N[i]? = some x) (hv : Vis X.env.scope x) (hd : (x == ("__debug__" : Str)) = false := by decide +kernel) (hcd : (x == ("__classdict__" : Str)) = false := by decide +kernel) : SE X Wx m (.Name x pos) (sVar i) := (se_var hN hv hd hcd).bor
def capE (cs : List (Str × Nat)) (env : Env) : Env := cs.map fun p => (env[p.2]?).getD .un
def capO (cs : List (Str × Nat)) (Os : List (Option Addr)) : List (Option Addr) := cs.map fun p => (Os[p.2]?).join
section
variable {K : PySem.W.Frag} {mg : Str → Option Value} {P0 P : Pl} {H0 H : Hp} {M : Mm} {Os : List (Option Addr)} {st : L2.St} {env : Env} {d : D} {v : V}
theorem capO_get {cs : List (Str × Nat)} {i : Nat} {a : Addr} (h : (capO cs Os)[i]? = some (some a)) : ∃ p, cs[i]? = some p ∧ Os[p.2]? = some (some a) := by
 unfold capO at h
 rw [List.getElem?_map, Option.map_eq_some_iff] at h
 obtain ⟨p, e, h⟩ := h
 exact ⟨p, e, join_get h⟩
theorem Ok.cap {cs : List (Str × Nat)} (k : Ok K mg P0 H0 P Os H M st env) (nd : (cs.map (·.2)).Nodup) (h : Is K P H d v) : Ok K mg P0 H0 P (none :: capO cs Os) H M (some v :: capSt cs st) (.val d :: capE cs env) where
  hk := k.hk
  base := k.base
  b0 := k.b0
  slot := fun i s e => by
    cases i with
    | zero => cases e; exact ⟨v, rfl, h⟩
    | succ i =>
      rw [List.getElem?_cons_succ] at e ⊢
      rw [List.getElem?_cons_succ]
      unfold capE at e
      rw [List.getElem?_map, Option.map_eq_some_iff] at e
      obtain ⟨p, ep, e⟩ := e
      have eo : ((capO cs Os)[i]?).join = (Os[p.2]?).join := by unfold capO; rw [List.getElem?_map, ep]; rfl
      have es : ((capSt cs st)[i]?).join = (st[p.2]?).join := by unfold capSt; rw [List.getElem?_map, ep]; rfl
      rw [eo, es]
      cases e' : env[p.2]? with
      | none => rw [e'] at e; cases e; exact True.intro
      | some s' => rw [e'] at e; cases e; exact k.slot _ _ e'
  own := fun a h => by
    rw [List.mem_cons] at h
    rcases h with h | h
    · cases h
    · obtain ⟨i, hi⟩ := List.mem_iff_getElem?.mp h
      obtain ⟨p, _, e⟩ := capO_get hi
      exact k.own a (List.mem_of_getElem? e)
  inj := fun i j a e1 e2 => by
    cases i with
    | zero => cases e1
    | succ i =>
      cases j with
      | zero => cases e2
      | succ j =>
        rw [List.getElem?_cons_succ] at e1 e2
        obtain ⟨p, h1, h2⟩ := capO_get e1
        obtain ⟨q, h3, h4⟩ := capO_get e2
        have e := k.inj _ _ a h2 h4
        congr 1
        have hi : (cs.map (·.2))[i]? = some p.2 := by rw [List.getElem?_map, h1]; rfl
        have hj : (cs.map (·.2))[j]? = some p.2 := by rw [List.getElem?_map, h3, e]; rfl
        have il := (List.getElem?_eq_some_iff.mp hi).1
        exact (List.getElem?_inj il nd).mp (hi.trans hj.symm)
  olen := by simp [capO, capE]
  slen := by simp [capSt, capE]
end
section
variable {X : Cx} {Wx : XW} {m : Mode} {pos : Pos}
def compL (q e : E) (env : Env) : List D → List D → Mm → Option (List D × Mm)
  | [], acc, M => some (acc, M)
  | d :: ds, acc, M => match q (.val d :: env) M with
    | some (.v (.bl true), M1) => (match e (.val d :: env) M1 with
      | some (.v y, M2) => if acc.length + 1 < sizeLine then compL q e env ds (acc ++ [y]) M2 else none
      | _ => none)
    | some (.v (.bl false), M1) => compL q e env ds acc M1
    | _ => none
def sComp (cs : List (Str × Nat)) (fs : EA) (q e : E) : E := fun env M => match fs env M with
  | some (.v ds, M1) => (match compL q e (capE cs env) ds [] M1 with
    | some (ys, M2) => some (.v (.lst ys), M2)
    | none => none)
  | some (.x c n, M1) => some (.x c n, M1)
  | none => none
theorem comp_is {cs : List (Str × Nat)} {fs : EA} {q e : E} : ∀ env M r M', sComp cs fs q e env M = some (.v r, M') → ∃ ds, r = .lst ds := fun env M r M' h => by
 unfold sComp at h
 split at h
 ·split at h
  ·cases h; exact ⟨_, rfl⟩
  ·cases h
 ·cases h
 ·cases h
theorem grow_ok {K : PySem.W.Frag} {mg : Str → Option Value} {P1 P : Pl} {H1 H : Hp} {M : Mm} {D : Addr} {vs vs' : List V} (l : LtE P1 H1 P H) (h : Hk K mg P H M) (hD : H1 D = none) (bD : P.bd D) (nc : ∀ k, k < P.n → P.io k ≠ D) (e : H D = some (.lst vs)) :
  Lt P H P (upd H D (.lst vs')) ∧ LtE P1 H1 P (upd H D (.lst vs')) ∧ Hk K mg P (upd H D (.lst vs')) M := by
 have lc : Lt P H P (upd H D (.lst vs')) := lt_chg bD e nf_lst
 refine ⟨lc, ⟨l.n, l.io, l.bd, l.bm, fun c o ec n => ?_, fun c z => l.sure c (lc.sure c z), l.nw⟩, ⟨h.n, fun j c ej => (h.cell j c ej).lt lc fun o eo => ?_, h.inj, h.bd, fun c z q => h.here c z (lc.sure c q)⟩⟩
 ·rw [upd_ne (fun z => by subst z; rw [hD] at ec; cases ec)]
  exact l.keep c o ec n
 ·rw [upd_ne (nc j (by rw [h.n]; exact (List.getElem?_eq_some_iff.mp ej).1))]
  exact eo
def NR (K : PySem.W.Frag) (mg : Str → Option Value) (Wx : XW) (P0 : Pl) (H0 : Hp) (P : Pl) (H : Hp) (M' : Mm) (R : Addr → Hp → Prop) : Res → Prop
 | .v d => ∃ ds, d = .lst ds ∧ ∀ P' a vs H', LtE P H P' H' → Hk K mg P' H' M' → H a = none → P'.bd a → (∀ k, k < P'.n → P'.io k ≠ a) → H' a = some (.lst vs) → Iss K P' H' ds vs → R a H'
 | .x c n => Wx P0 H0 M' c n
theorem comp_read {K : PySem.W.Frag} {mg : Str → Option Value} {cs : List (Str × Nat)} {fs : EA} {q e : E} {P0 P : Pl} {H0 H : Hp} {Os : List (Option Addr)} {M M' : Mm} {st : L2.St} {env : Env} {r : Res} {R : Addr → Hp → Prop} (nd : (cs.map (·.2)).Nodup)
    (k : Ok K mg P0 H0 P Os H M st env) (h : sComp cs fs q e env M = some (r, M')) (w : NR K mg Wx P0 H0 P H M' R r) : tCompR (tI K mg Wx fs) (tTt K mg W0 q) (tE K mg W0 .val e) cs st H R := by
  unfold sComp at h
  split at h
  · rename_i ds M1 ef
    split at h
    rotate_left
    · cases h
    rename_i ys M2 ec
    cases h
    obtain ⟨ds', e', w⟩ := w
    cases e'
    refine ⟨P0, H0, P, Os, env, M, _, _, k, ef, fun P1 H1 J l1 h1 wk D hD => ?_⟩
    obtain ⟨l2, h2, nc⟩ := bar_new (vs := []) h1 hD
    refine ⟨fun i m vs H2 => m = ds.length - i ∧ i ≤ ds.length ∧ ∃ P2 M3 acc, LtE P1 H1 P2 H2 ∧ Hk K mg P2 H2 M3 ∧ P2.bd D ∧ (∀ k, k < P2.n → P2.io k ≠ D) ∧ H2 D = some (.lst vs) ∧ Iss K P2 H2 acc vs ∧ acc.length < sizeLine ∧ compL q e (capE cs env) (ds.drop i) acc M3 = some (ys, M'),
      ⟨ds.length, by simp, Nat.zero_le _, P1.bar D, M1, [], l2, h2, .inr rfl, nc, upd_same, rfl, by decide +kernel, by rw [List.drop_zero]; exact ec⟩, ?_⟩
    rintro i m vs H2 ⟨rfl, hi, P2, M3, acc, l3, h3, bD, nD, eD, is, hz, ec⟩
    refine ⟨eD, ?_⟩
    obtain ⟨w1, w2, w3⟩ := wk P2 H2 (l3.lt h1)
    by_cases hlt : i < ds.length
    · refine .inr ⟨w1 i hlt, by rw [is.len]; exact hz, fun vs' H' => ∃ P2 M3 acc, LtE P1 H1 P2 H' ∧ Hk K mg P2 H' M3 ∧ P2.bd D ∧ (∀ k, k < P2.n → P2.io k ≠ D) ∧ H' D = some (.lst vs') ∧ Iss K P2 H' acc vs' ∧ acc.length < sizeLine ∧ compL q e (capE cs env) (ds.drop (i + 1)) acc M3 = some (ys, M'),
        fun vs' H' z => ⟨ds.length - (i + 1), by omega, rfl, hlt, z⟩, fun x H' y => ?_⟩
      obtain ⟨e3, d, ed, iv⟩ := w3 i x H' y hlt
      subst e3
      have ed' : ds.drop i = d :: ds.drop (i + 1) := by
        rw [List.drop_eq_getElem_cons hlt]
        rw [List.getElem?_eq_getElem hlt] at ed
        rw [Option.some.inj ed]
      rw [ed'] at ec
      have kk := ((k.next l1 h1).next l3 h3).cap (cs := cs) nd iv
      simp only [compL] at ec
      split at ec
      · rename_i M4 eq
        refine tTt_go kk eq ⟨true, rfl, fun P4 H4 l4 h4 => ?_⟩
        dsimp only
        rw [if_pos rfl]
        split at ec
        · rename_i y' M5 ee
          split at ec
          · rename_i hz'
            refine tE_go (kk.next l4 h4) ee fun P5 v5 H5 l5 h5 i5 => ?_
            have l45 := l4.trans l5
            have eD5 : H5 D = some (.lst vs) := l45.keep D _ eD nD
            have nD5 : ∀ k, k < P5.n → P5.io k ≠ D := l45.nc eD nD
            obtain ⟨g1, g2, g3⟩ := grow_ok (vs' := vs ++ [v5]) (l3.trans l45) h5 hD (l45.bm D bD) nD5 eD5
            refine ⟨eD5, P5, M5, acc ++ [y'], g2, g3, l45.bm D bD, nD5, upd_same, Iss.append (Iss.lt ((l45.lt h3).trans g1) is) (Iss.one (Is.lt g1 i5)), by rw [List.length_append]; exact hz', ec⟩
          · cases ec
        · cases ec
      · rename_i M4 eq
        refine tTt_go kk eq ⟨false, rfl, fun P4 H4 l4 h4 => ?_⟩
        dsimp only
        rw [if_neg (by decide)]
        exact ⟨P4, M4, acc, l3.trans l4, h4, l4.bm D bD, l4.nc eD nD, l4.keep D _ eD nD, Iss.lt (l4.lt h3) is, hz, ec⟩
      · cases ec
    · have ei : i = ds.length := by omega
      subst ei
      rw [List.drop_length] at ec
      cases ec
      exact .inl ⟨w2 _ (Nat.le_refl _) (Nat.le_refl _), w P2 D vs H2 (l1.trans l3) h3 (l1.sure D hD) bD nD eD is⟩
  · rename_i c n M1 ef
    cases h
    exact ⟨P0, H0, P, Os, env, M, _, _, k, ef, w⟩
  · cases h
def SQ (X : Cx) (ifs : List Expr) (q : E) : Prop := PIfs X ifs (tTt X.K X.mg W0 q)
theorem sq_none : SQ X [] (sCon (.bl true)) := fun pins s σ H Q I h => by
 obtain ⟨P0, H0, P, Os, env, M, r, M', k, e, q⟩ := h
 cases e
 obtain ⟨b, e2, q⟩ := q
 cases e2
 exact pifs_none pins s σ H Q I (q P H (LtE.refl P H) k.hk)
theorem sq_one {c : Expr} {q : E} (h : ST X W0 c q) : SQ X [c] q := pifs_one h
section
variable {elt iter : Expr} {ifs : List Expr} {scope : Scope} {fs : EA} {q e : E}
theorem sn_comp (x : Str) (cs : List (Str × Nat)) {px : Pos} (hc : X.calm = true) (nd : (cs.map (·.2)).Nodup) (hi : SI X Wx (.Name x px) iter fs)
  (hq : ∀ (cl : List (Str × Addr)) (C : Addr) (s₀ : Shared) (H₀ : Hp) (ex : List Addr) (pn : List (Addr × Obj)), SQ (compCx X (x :: cs.map (·.1)) scope cl C s₀ H₀ ex pn) ifs q)
  (he : ∀ (cl : List (Str × Addr)) (C : Addr) (s₀ : Shared) (H₀ : Hp) (ex : List Addr) (pn : List (Addr × Obj)), SE (compCx X (x :: cs.map (·.1)) scope cl C s₀ H₀ ex pn) W0 .val elt e)
  (ok : compOkB X.N X.env.scope x cs scope = true := by kernel_rfl) (hs : ∀ x, foldedSetIterable iter X.env x = pure x := by intro _; rfl) :
  SN X Wx (.ListComp elt [⟨.Name x px, iter, ifs, 0⟩] scope pos) (sComp cs fs q e) := by
 refine pe_imp (pe_comp (tq := tTt X.K X.mg W0 q) (te := tE X.K X.mg W0 .val e) x cs hc hi hq he ok hs) ?_
 rintro st H Q ⟨P0, H0, P, Os, env, M, r, M', k, e, w⟩
 refine comp_read nd k e ?_
 cases r with
 | v d => exact w
 | x c n => exact w
theorem frz_new {K : PySem.W.Frag} {mg : Str → Option Value} {P P' : Pl} {H H' : Hp} {M M' : Mm} {a : Addr} {vs : List V} {ds : List D} (k : Hk K mg P H M) (l : LtE P H P' H') (h : Hk K mg P' H' M') (ha : H a = none) (nc : ∀ j, j < P'.n → P'.io j ≠ a) (ea : H' a = some (.lst vs)) (is : Iss K P' H' ds vs) :
  LtE P H (P'.less (· ≠ a)) H' ∧ Hk K mg (P'.less (· ≠ a)) H' M' ∧ Is K (P'.less (· ≠ a)) H' (.lst ds) (.ref a) := by
 have l2 : Lt P' H' (P'.less (· ≠ a)) H' := ⟨Nat.le_refl _, fun _ _ => rfl, fun c z => .inl z.1, fun _ _ e _ => e, fun _ z => z⟩
 exact ⟨⟨l.n, l.io, fun b z => l.bd b z.1, fun b z => ⟨l.bm b z, fun q => k.here b z (q ▸ ha)⟩, l.keep, l.sure, l.nw⟩,
  ⟨h.n, fun j c e => (h.cell j c e).lt l2 fun _ z => z, h.inj, fun j hj => ⟨h.bd j hj, nc j hj⟩, fun b z => h.here b z.1⟩,
  a, vs, rfl, .inl ⟨fun z => z.2 rfl, .inl ea⟩, Iss.less is⟩
theorem ss_asgC (x : Str) (cs : List (Str × Nat)) {px py spos : Pos} {y : Str} {i : Nat} (hN : X.N.Nodup) (hk : X.N[i]? = some y) (hy : Loc X.env.scope y) (hc : X.calm = true) (nd : (cs.map (·.2)).Nodup) (hi : SI X Wx (.Name x px) iter fs)
  (hq : ∀ (cl : List (Str × Addr)) (C : Addr) (s₀ : Shared) (H₀ : Hp) (ex : List Addr) (pn : List (Addr × Obj)), SQ (compCx X (x :: cs.map (·.1)) scope cl C s₀ H₀ ex pn) ifs q)
  (he : ∀ (cl : List (Str × Addr)) (C : Addr) (s₀ : Shared) (H₀ : Hp) (ex : List Addr) (pn : List (Addr × Obj)), SE (compCx X (x :: cs.map (·.1)) scope cl C s₀ H₀ ex pn) W0 .val elt e)
  (ok : compOkB X.N X.env.scope x cs scope = true := by kernel_rfl) (hs : ∀ x, foldedSetIterable iter X.env x = pure x := by intro _; rfl)
  (hsw : swapsWith (.ListComp elt [⟨.Name x px, iter, ifs, 0⟩] scope pos) (some (.Name y py)) spos.line X.env = pure true := by rfl)
  (hf : X.fn y = true ∨ X.env.scope.names.lookup y = some .local := by first | exact .inl rfl | exact .inr rfl) :
  SS X Wx (.Assign [.Name y py] (.ListComp elt [⟨.Name x px, iter, ifs, 0⟩] scope pos) spos) (sAsg i (sComp cs fs q e)) := by
 refine ps_imp (ps_setC (tq := tTt X.K X.mg W0 q) (te := tE X.K X.mg W0 .val e) x cs hN hk hy hc hi hq he ok hs hsw hf) ?_
 rintro D st H ⟨P0, H0, P, Os, env, M, out, M', k, ee, w⟩
 unfold sAsg at ee
 rcases bndS_inv ee with ⟨d, M1, e1, ee⟩ | ⟨c, n, e1, rfl⟩
 ·obtain ⟨ds, rfl⟩ := comp_is _ _ _ _ e1
  split at ee
  ·rename_i hl
   cases ee
   refine comp_read nd k e1 ⟨ds, rfl, fun P1 a vs H1 l1 h1 ha ba nc ea is => ?_⟩
   obtain ⟨l2, h2, i2⟩ := frz_new k.hk l1 h1 ha nc ea is
   exact w _ _ _ _ (l2.lt k.hk) ((k.next l2 h2).asg hl i2)
  ·cases ee
 ·exact comp_read nd k e1 w
end
end
end E3
namespace E3
open PySem PySem.Spec PyProof.Rows L2
section
variable {X : Cx} {Wx : XW} {m : Mode} {pos : Pos}
def sPop (f : E) : E := fun env M => bnd (f env M) fun d M1 => match d with
  | .ref j => (match M1[j]? with
    | some (.lst ds) => (match ds[ds.length - 1]? with
      | some z => some (.v z, M1.set j (.lst ds.dropLast))
      | none => none)
    | _ => none)
  | _ => none
theorem Iss.dropLast {K : PySem.W.Frag} {P : Pl} {H : Hp} {ds : List D} {vs : List V} (h : Iss K P H ds vs) : Iss K P H ds.dropLast vs.dropLast := by
 rw [List.dropLast_eq_take, List.dropLast_eq_take, h.len]
 exact h.take _
end
def toKey : D → Option Key
 | .int i => some (.inl i)
 | .str z => some (.inr z)
 | _ => none
def putT (kvs : List (Key × D)) (k : Key) (v : D) : List (Key × D) :=
 if (kvs.any fun kv => decide (kv.1 = k)) = true then kvs.map (fun kv => if kv.1 = k then (kv.1, v) else kv) else kvs ++ [(k, v)]
section
variable {K : PySem.W.Frag} {mg : Str → Option Value} {P : Pl} {H : Hp} {M : Mm}
theorem nf_dK {vs : List (Key × V)} : ¬ Fx (.dK vs) := fun z => by rcases z with ⟨_, z⟩ | ⟨_, _, z⟩ | ⟨_, z⟩ | ⟨_, z⟩ <;> cases z
end
section
variable {X : Cx} {Wx : XW} {m : Mode} {pos : Pos}
inductive ResP where
 | v (ps : List (D × D)) | x (c : Str) (n : Int)
abbrev EPs := Env → Mm → Option (ResP × Mm)
def pNil : EPs := fun _ M => some (.v [], M)
def keysOf : List (D × D) → Option (List (Key × D))
  | [] => some []
  | p :: ps => match toKey p.1, keysOf ps with
    | some k, some r => some ((k, p.2) :: r)
    | _, _ => none
def mergeT (kvs more : List (Key × D)) : List (Key × D) := more.foldl (fun acc kv => putT acc kv.1 kv.2) kvs
def sDct (ps : EPs) : E := fun env M => match ps env M with
  | some (.v ds, M1) => (match keysOf ds with
    | some kvs => if kvs.length ≤ 15 then some (.v (.ref M1.length), M1 ++ [.dct (mergeT [] kvs)]) else none
    | none => none)
  | some (.x c n, M1) => some (.x c n, M1)
  | none => none
theorem bar_any {K : PySem.W.Frag} {mg : Str → Option Value} {P : Pl} {H : Hp} {M : Mm} {p : Addr} {o : HO} (h : Hk K mg P H M) (hp : H p = none) : LtE P H (P.bar p) (upd H p o) ∧ Hk K mg (P.bar p) (upd H p o) M ∧ ∀ k, k < P.n → P.io k ≠ p := by
 have s := same_new (o := o) hp
 have nc : ∀ k, k < P.n → P.io k ≠ p := fun k hk z => h.here _ (h.bd k hk) (z ▸ hp)
 have l : LtE P H (P.bar p) (upd H p o) := ⟨Nat.le_refl _, fun _ _ => rfl, fun a z => Or.imp (fun q => q) (fun (q : a = p) => by rw [q]; exact hp) z, fun a z => .inl z, fun a o e _ => s a o e, fun a z => s.free z, fun k h1 h2 => absurd h1 (Nat.not_le.mpr h2)⟩
 refine ⟨l, ⟨h.n, fun k c e => (h.cell k c e).lt (l.lt h) fun u eu => s _ _ eu, h.inj, fun k hk => .inl (h.bd k hk), fun a z q => ?_⟩, nc⟩
 rcases z with z | z
 ·exact h.here a z (s.free q)
 ·subst z; rw [upd_same] at q; cases q
theorem cell_made {K : PySem.W.Frag} {mg : Str → Option Value} {P0 P : Pl} {H0 H : Hp} {M : Mm} {a : Addr} {o o' : HO} {c : Cl} (l : LtE P0 H0 P H) (h : Hk K mg P H M) (ha : H0 a = none) (ba : P.bd a) (nc : ∀ k, k < P.n → P.io k ≠ a) (ea : H a = some o) (nf : ¬ Fx o) (hc : ∀ P', Lt P H P' (upd H a o') → CellOk K mg P' (upd H a o') a c) :
  ∃ P', LtE P0 H0 P' (upd H a o') ∧ Hk K mg P' (upd H a o') (M ++ [c]) ∧ Is K P' (upd H a o') (.ref M.length) (.ref a) := by
 have hn : P.n = M.length := h.n
 let P2 : Pl := { io := fun j => if j = P.n then a else P.io j, n := P.n + 1, bd := P.bd }
 have io : ∀ j, j < P.n → P2.io j = P.io j := fun j hj => if_neg (by omega)
 have ioN : P2.io P.n = a := if_pos rfl
 have lc : Lt P H P (upd H a o') := lt_chg ba ea nf
 have l2 : Lt P H P2 (upd H a o') := ⟨Nat.le_succ _, io, fun _ z => .inl z, lc.keep, lc.sure⟩
 refine ⟨P2, ⟨Nat.le_succ_of_le l.n, fun j hj => (io j (Nat.lt_of_lt_of_le hj l.n)).trans (l.io j hj), l.bd, l.bm, fun b u e z => ?_, fun b z => l.sure b (lc.sure b z), fun j h2 h3 => ?_⟩, ⟨by rw [List.length_append, ← hn]; rfl, fun j d ej => ?_, fun i j hi hj e => ?_, fun j hj => ?_, fun b z q => h.here b z (lc.sure b q)⟩, ?_⟩
 ·rw [upd_ne (fun z => by subst z; rw [ha] at e; cases e)]
  exact l.keep b u e z
 ·rcases Nat.lt_or_ge j P.n with z | z
  ·rw [io j z]; exact l.nw j h2 z
  ·have : j = P.n := Nat.le_antisymm (Nat.le_of_lt_succ h3) z
   rw [this, ioN]
   exact ha
 ·rcases Nat.lt_or_ge j P.n with z | z
  ·rw [List.getElem?_append_left (by rw [← hn]; exact z)] at ej
   rw [io j z]
   exact (h.cell j d ej).lt l2 fun u eu => by rw [upd_ne (nc j z)]; exact eu
  ·have jl := (List.getElem?_eq_some_iff.mp ej).1
   rw [List.length_append, List.length_singleton, ← hn] at jl
   have : j = P.n := by omega
   subst this
   rw [List.getElem?_append_right (by rw [hn]; exact Nat.le_refl _), hn, Nat.sub_self] at ej
   cases ej
   rw [ioN]
   exact hc P2 l2
 ·rcases Nat.lt_or_ge i P.n with z | z
  ·rcases Nat.lt_or_ge j P.n with y | y
   ·rw [io i z, io j y] at e
    exact h.inj i j z y e
   ·have : j = P.n := Nat.le_antisymm (Nat.le_of_lt_succ hj) y
    rw [io i z, this, ioN] at e
    exact absurd e (nc i z)
  ·have iN : i = P.n := Nat.le_antisymm (Nat.le_of_lt_succ hi) z
   rcases Nat.lt_or_ge j P.n with y | y
   ·rw [iN, ioN, io j y] at e
    exact absurd e.symm (nc j y)
   ·rw [iN]
    exact Nat.le_antisymm y (Nat.le_of_lt_succ hj)
 ·rcases Nat.lt_or_ge j P.n with z | z
  ·rw [io j z]; exact h.bd j z
  ·have : j = P.n := Nat.le_antisymm (Nat.le_of_lt_succ hj) z
   rw [this, ioN]
   exact ba
 ·exact ⟨by show _ < P.n + 1; rw [hn]; exact Nat.lt_succ_self _, by rw [← hn, ioN]⟩
theorem se_dct0 : SE X Wx m (.Dict [] [] pos) (sDct pNil) := by
 refine pe_imp pe_dnewK ?_
 rintro st H Q ⟨P0, H0, P, Os, env, M, r, M', k, e, q⟩
 cases e
 intro p hp
 obtain ⟨l1, h1, nc⟩ := bar_any (o := .dK []) k.hk hp
 obtain ⟨P2, l2, h2, i2⟩ := cell_made (o' := .dK []) (c := .dct []) l1 h1 hp (.inr rfl) nc upd_same nf_dK fun P' _ => ⟨[], upd_same, rfl, rfl⟩
 rw [upd_upd] at l2 h2 i2
 exact q P2 _ _ l2 h2 (IsM.of h2 i2)
def tyM (M : Mm) (d : D) : String := match d with
  | .ref k => (match M[k]? with
    | some (.lst _) => "list"
    | some (.dct _) => "dict"
    | _ => "")
  | d => tyD d
def sIsi (tb : String → String → Option Bool) (T : String) (f : E) : E := fun env M => bnd (f env M) fun d M1 => if tyM M1 d = "" then none else (tb (tyM M1 d) T).map fun b => (.v (.bl b), M1)
theorem call_isiM : CallR X (.builtin "isinstance") (fun xs H Q => ∃ (x : V) (T : String) (d : D) (P : Pl) (M : Mm) (b : Bool), xs = [x, .ty T] ∧ Hk X.K X.mg P H M ∧ IsB X.K P H d x ∧ tyM M d ≠ "" ∧ PySem.W.kitOne X.K (.type (tyM M d)) (.type T) = some b ∧ Q (.bl b) H) := by
  intro pins s σ H xs us Q I r h
  obtain ⟨x, T, d, P, M, b, rfl, hk, i, ne, e, q⟩ := h
  have old : tyM M d = tyD (vw M d) → wpAny (model X.prog X.w) X.A (call (.builtin "isinstance") us) (EP X pins σ Q) X.xe s := fun et => by
    rw [et] at ne e
    exact call_isiD pins s σ H _ us Q I r ⟨x, T, vw M d, P, b, rfl, IsB.vw hk i, ne, e, q⟩
  cases d with
  | ref k =>
    cases em : M[k]? with
    | none => simp [tyM, em] at ne
    | some c =>
      cases c with
      | lst ds => exact old (by simp [tyM, vw, em, tyD])
      | obj c fs => simp [tyM, em] at ne
      | dct kvs =>
        obtain ⟨u, w', rfl, rx, rT⟩ := vals2 r
        cases rT
        obtain ⟨kl, rfl⟩ : k < P.n ∧ x = .ref (P.io k) := i
        cases rx
        obtain ⟨vs, ev, _⟩ := hk.cell k _ em
        obtain ⟨_, _, vs', _, o, es, ep, h1, h2, _⟩ := I.hok _ _ ev
        simp only [tyM, em] at e
        exact PySem.W.kia_one PySem.W.kitx_dict I.kIn ⟨o, h1, h2.1⟩ e (fun z => nomatch z) fun tk => ⟨.bl b, H, I.tok _, rfl, q⟩
  | non => exact old rfl
  | bl _ => exact old rfl
  | int _ => exact old rfl
  | str _ => exact old rfl
  | tup _ => exact old rfl
  | lst _ => exact old rfl
theorem se_isiM {e : Expr} {f : E} {T : String} {tb : String → String → Option Bool} {p p' : Pos} (ht : ∀ t b, tb t T = some b → PySem.W.kitOne X.K (.type t) (.type T) = some b) (he : SE X Wx .bor e f) (hg : Gl X "isinstance") (hm : X.mg "isinstance" = none) (hg' : Gl X (Str.ofString T)) (hm' : X.mg (Str.ofString T) = none) (hT : bootBuiltins (Str.ofString T) = some (.type T))
  (n1 : Str.ofString T ≠ "__name__" := by decide +kernel) (n2 : (Str.ofString T == ("__debug__" : Str)) = false := by decide +kernel) (hs : starEach [e, .Name (Str.ofString T) p'] X.env = (false, eval e X.env) :: starEach [.Name (Str.ofString T) p'] X.env := by rfl) :
  SE X Wx m (.Call (.Name "isinstance" p) [e, .Name (Str.ofString T) p'] [] pos) (sIsi tb T f) := by
 have pT : PE X (.Name (Str.ofString T) p') (tC (.ty T)) := pe_bltn hg' hm' hT rfl n1 n2
 refine pe_imp (pe_callB call_isiM hg hm boot_isinstance (pa_cons he (pa_cons pT pa_nil) hs) (by decide +kernel) (by decide +kernel) hs rfl) ?_
 rintro st H Q ⟨P0, H0, P, Os, env, M, r, M', k, e, q⟩
 unfold sIsi at e
 rcases bnd_inv e with ⟨d, M1, e1, e⟩ | ⟨c, n, e1, rfl⟩
 ·split at e
  ·cases e
  ·rename_i hne
   rw [Option.map_eq_some_iff] at e
   obtain ⟨b, eb, e⟩ := e
   cases e
   exact tE_go k e1 fun P1 v1 H1 l1 h1 i1 => ⟨v1, T, d, P1, _, b, rfl, h1, i1, hne, ht _ _ eb, q P1 _ H1 l1 h1 (IsM.of h1 (show Is _ _ _ (.bl b) _ from rfl))⟩
 ·exact tE_go k e1 q
end
end E3
namespace E3
open PySem PySem.Spec PyProof.Rows L2
section
variable {X : Cx} {Wx : XW} {m : Mode} {pos : Pos}
def textD : D → Option Str
 | .str z => if z.length ≤ sizeLine then some z else none
 | .int i => if i.natAbs.log2 < 1920 then some (toString i) else none
 | _ => none
abbrev EJ := Str → Env → Mm → O
def jEnd : EJ := fun out _ M => if out.length ≤ sizeLine then some (.v (.str out), M) else none
def jCon (z : Str) (ps : EJ) : EJ := fun out env M => if (out ++ z).length ≤ sizeLine then ps (out ++ z) env M else none
def jVal (f : E) (ps : EJ) : EJ := fun out env M => bnd (f env M) fun d M1 => match textD d with
 | some y => if (out ++ y).length ≤ sizeLine then ps (out ++ y) env M1 else none
 | none => none
def tJ (K : PySem.W.Frag) (mg : Str → Option Value) (Wx : XW) (ps : EJ) : TJ := fun out st H Q => tE K mg Wx .val (ps out) st H Q
def SJ (X : Cx) (Wx : XW) (vs : List Expr) (ps : EJ) : Prop := PJ X vs (tJ X.K X.mg Wx ps)
theorem pj_imp {vs : List Expr} {t t' : TJ} (h : PJ X vs t) (w : ∀ out σ H Q, t' out σ H Q → t out σ H Q) : PJ X vs t' := fun pins s σ H out Q I hw => h pins s σ H out Q I (w out σ H Q hw)
theorem sj_end : SJ X Wx [] jEnd := by
 refine pj_imp pj_nil ?_
 rintro out st H Q ⟨P0, H0, P, Os, env, M, r, M', k, e, q⟩
 unfold jEnd at e
 split at e
 ·rename_i hl
  cases e
  exact ⟨hl, q P _ H (LtE.refl P H) k.hk rfl⟩
 ·cases e
theorem sj_con {z : Str} {vs : List Expr} {ps : EJ} {n : Nat} (h : SJ X Wx vs ps) (hz : z.length ≤ sizeLine := by decide +kernel) : SJ X Wx (.Constant (.str z) n pos :: vs) (jCon z ps) := by
 refine pj_imp (pj_con h hz) ?_
 rintro out st H Q ⟨P0, H0, P, Os, env, M, r, M', k, e, q⟩
 unfold jCon at e
 split at e
 ·rename_i hl
  exact ⟨hl, P0, H0, P, Os, env, M, r, M', k, e, q⟩
 ·cases e
theorem text_is {K : PySem.W.Frag} {P : Pl} {H : Hp} {d : D} {v : V} {y : Str} (h : textD d = some y) (i : Is K P H d v) : textV v = some y := by
 unfold textD at h
 split at h
 ·cases i; exact h
 ·cases i; exact h
 ·cases h
theorem sj_val {e : Expr} {f : E} {vs : List Expr} {ps : EJ} (he : SE X Wx .val e f) (h : SJ X Wx vs ps) : SJ X Wx (.FormattedValue e (-1) none pos :: vs) (jVal f ps) := by
 refine pj_imp (pj_val he h) ?_
 rintro out st H Q ⟨P0, H0, P, Os, env, M, r, M', k, e, q⟩
 unfold jVal at e
 rcases bnd_inv e with ⟨d, M1, e1, e⟩ | ⟨c, n, e1, rfl⟩
 ·split at e
  ·rename_i y ey
   split at e
   ·rename_i hl
    exact tE_go k e1 fun P1 v1 H1 l1 h1 i1 => ⟨y, text_is ey i1, hl, P0, H0, P1, Os, env, M1, r, M', k.next l1 h1, e, RQ.imp l1 q⟩
   ·cases e
  ·cases e
 ·exact tE_go k e1 q
def sFst (ps : EJ) : E := ps Str.empty
theorem se_fst {v w : Expr} {vs : List Expr} {ps : EJ} (h : SJ X Wx (v :: w :: vs) ps) : SE X Wx m (.JoinedStr (v :: w :: vs) pos) (sFst ps) := by
 have h' : SE X Wx .val (.JoinedStr (v :: w :: vs) pos) (sFst ps) := pe_imp (pe_fst h) fun st H Q z => z
 exact h'.bor
def loopW (c : E) (b : S) : Nat → Env → Mm → OS
  | 0, _, _ => none
  | n + 1, env, M => match c env M with
    | some (.v (.bl true), M1) => (match b env M1 with
      | some (.nx e, M2) => loopW c b n e M2
      | some (.ct e, M2) => loopW c b n e M2
      | some (.bk e, M2) => some (.nx e, M2)
      | some (.rt d, M2) => some (.rt d, M2)
      | some (.ex x k, M2) => some (.ex x k, M2)
      | none => none)
    | some (.v (.bl false), M1) => some (.nx env, M1)
    | some (.x x k, M1) => some (.ex x k, M1)
    | _ => none
def sWhile (n : Nat) (c : E) (b : S) : S := fun env M => loopW c b n env M
theorem ss_while (n : Nat) {c : Expr} {body : List Stmt} {t : E} {b : S} (hp : PassesOwn (model X.prog X.w) X.A X.env X.xe) (hc : ST X Wx c t) (hb : SB X Wx body b) : SS X Wx (.While c body [] pos) (sWhile n t b) := by
  refine ps_imp (ps_while hp hc hb) ?_
  rintro D st H ⟨P0, H0, P, Os, env, M, out, M', k, e, q⟩
  refine ⟨fun m σ H1 => ∃ P1 Os1 M1 env1, Lt P H P1 H1 ∧ Ok X.K X.mg P0 H0 P1 Os1 H1 M1 σ env1 ∧ loopW t b m env1 M1 = some (out, M'), ⟨n, P, Os, M, env, Lt.refl _ _, k, e⟩, ?_⟩
  rintro m σ H1 ⟨P1, Os1, M1, env1, lt, k1, e1⟩
  cases m with
  | zero => cases e1
  | succ m =>
    simp only [loopW] at e1
    split at e1
    · rename_i M2 ec
      refine tTt_go k1 ec ⟨true, rfl, fun P2 H2 l2 h2 => ?_⟩
      dsimp only
      rw [if_pos rfl]
      have k2 := k1.next l2 h2
      have lt2 := lt.trans (l2.lt k1.hk)
      refine ⟨fun σ' H' => ∃ P1 Os1 M1 env1, Lt P H P1 H' ∧ Ok X.K X.mg P0 H0 P1 Os1 H' M1 σ' env1 ∧ loopW t b m env1 M1 = some (out, M'), fun σ' H' z => ⟨m, Nat.lt_succ_self m, z⟩, ?_⟩
      split at e1
      · rename_i e' M3 eb
        exact ⟨P0, H0, P2, Os1, env1, M2, _, _, k2, eb, fun P' Os2 H2 st2 l2 k3 => ⟨P', Os2, _, e', lt2.trans l2, k3, e1⟩⟩
      · rename_i e' M3 eb
        exact ⟨P0, H0, P2, Os1, env1, M2, _, _, k2, eb, fun P' Os2 H2 st2 l2 k3 => ⟨P', Os2, _, e', lt2.trans l2, k3, e1⟩⟩
      · rename_i e' M3 eb
        cases e1
        exact ⟨P0, H0, P2, Os1, env1, M2, _, _, k2, eb, fun P' Os2 H2 st2 l2 k3 => q P' Os2 H2 st2 (lt2.trans l2) k3⟩
      · rename_i d M3 eb
        cases e1
        exact ⟨P0, H0, P2, Os1, env1, M2, _, _, k2, eb, q⟩
      · rename_i x k' M3 eb
        cases e1
        exact ⟨P0, H0, P2, Os1, env1, M2, _, _, k2, eb, q⟩
      · cases e1
    · rename_i M2 ec
      cases e1
      refine tTt_go k1 ec ⟨false, rfl, fun P2 H2 l2 h2 => ?_⟩
      dsimp only
      rw [if_neg (by decide)]
      exact q P2 Os1 H2 σ (lt.trans (l2.lt k1.hk)) (k1.next l2 h2)
    · rename_i x k' M2 ec
      cases e1
      exact tTt_go k1 ec q
    · cases e1
def setE : List Nat → List D → Env → Option Env
 | [], [], env => some env
 | i :: is, d :: ds, env => if i < env.length then setE is ds (env.set i (.val d)) else none
 | _, _, _ => none
def SG (X : Cx) (ts : List Expr) (is : List Nat) : Prop := ∃ t, PGs X ts t ∧ ∀ P0 H0 P Os st H M env env' ds vs Q, Ok X.K X.mg P0 H0 P Os H M st env → Iss X.K P H ds vs → setE is ds env = some env' → (∀ Os' st', Ok X.K X.mg P0 H0 P Os' H M st' env' → Q st' H) → t vs st H Q
theorem sg_nil : SG X [] [] := ⟨_, pgs_nil, fun P0 H0 P Os st H M env env' ds vs Q k is e q => by
 cases ds with
 | nil => cases e; exact ⟨is, q _ _ k⟩
 | cons d ds => cases e⟩
theorem sg_cons {i : Nat} {is : List Nat} {x : Str} {ts : List Expr} {p : Pos} (hN : X.N.Nodup) (hi : X.N[i]? = some x) (hx : Loc X.env.scope x) (hr : SG X ts is) (hf : X.fn x = true ∨ X.env.scope.names.lookup x = some .local := by first | exact .inl rfl | exact .inr rfl)
    (hs : (assignEach (.Name x p :: ts) X.env).map (·.2) = assign (.Name x p) X.env :: (assignEach ts X.env).map (·.2) := by rfl) : SG X (.Name x p :: ts) (i :: is) := by
  obtain ⟨t, h1, h2⟩ := hr
  refine ⟨_, pgs_cons (pg_name hN hi hx hf) h1 hs, fun P0 H0 P Os st H M env env' ds vs Q k is e q => ?_⟩
  cases ds with
  | nil => cases e
  | cons d ds =>
    obtain ⟨v, r, rfl, iv, is⟩ := is
    simp only [setE] at e
    split at e
    · rename_i hl
      exact ⟨v, r, rfl, h2 _ _ _ _ _ _ _ _ _ _ _ _ (k.asg hl iv) is e q⟩
    · cases e
def sUnp (is : List Nat) (f : E) : S := fun env M => bndS (f env M) fun d M1 => match d with
 | .tup ds => if ds.length = is.length then (setE is ds env).map fun e => (.nx e, M1) else none
 | _ => none
def bAbs : List D → Option D
 | [.int i] => some (.int (if i < 0 then -i else i))
 | _ => none
end
end E3
namespace E3
open PySem L2
section
variable {env : Env} {M M1 M2 : Mm} {f g o v : E} {d e x : D} {i : Int} {k : Nat} {ds es : List D} {s t : S} {z : Str} {fa : EA} {b : Bool}
def compO : Option (List D × Mm) → O
 | some (ys, M) => some (.v (.lst ys), M)
 | none => none
def compR (q e : E) (env : Env) : Option (ResA × Mm) → O
 | some (.v ds, M1) => compO (compL q e env ds [] M1)
 | some (.x c n, M1) => some (.x c n, M1)
 | none => none
theorem q_comp {cs : List (Str × Nat)} {q e : E} : sComp cs fa q e env M = compR q e (capE cs env) (fa env M) := by
  unfold sComp compR
  cases fa env M with
  | none => rfl
  | some p =>
    obtain ⟨r, M'⟩ := p
    cases r with
    | x c n => rfl
    | v ds =>
      dsimp only
      unfold compO
      cases compL q e (capE cs env) ds [] M' <;> rfl
theorem r_comp {q e : E} : compR q e env (some (.v ds, M)) = compO (compL q e env ds [] M) := rfl
theorem r_compO : compO (some (ds, M)) = some (.v (.lst ds), M) := rfl
theorem q_capN : capE [] env = [] := rfl
theorem q_capC {x : Str} {n : Nat} {cs : List (Str × Nat)} : capE ((x, n) :: cs) env = (env[n]?).getD .un :: capE cs env := rfl
def isiV (tb : String → String → Option Bool) (T : String) (M : Mm) (ty : String) : O := if ty = "" then none else (tb ty T).map fun b => (.v (.bl b), M)
def isiR (tb : String → String → Option Bool) (T : String) : O → O
 | some (.v d, M) => isiV tb T M (tyM M d)
 | some (.x c n, M) => some (.x c n, M)
 | none => none
theorem q_isi {tb : String → String → Option Bool} {T : String} : sIsi tb T f env M = isiR tb T (f env M) := by
 unfold sIsi isiR bnd isiV
 cases f env M with
 | none => rfl
 | some p => obtain ⟨r, M'⟩ := p; cases r <;> rfl
theorem r_isi {tb : String → String → Option Bool} {T : String} : isiR tb T (some (.v d, M)) = isiV tb T M (tyM M d) := rfl
theorem ty_int : tyM M (.int i) = "int" := rfl
theorem ty_str : tyM M (.str z) = "str" := rfl
theorem ty_bl : tyM M (.bl b) = "bool" := rfl
theorem ty_non : tyM M .non = "NoneType" := rfl
theorem ty_tup : tyM M (.tup ds) = "tuple" := rfl
theorem ty_lst : tyM M (.lst ds) = "list" := rfl
theorem v_isi {tb : String → String → Option Bool} {T ty : String} (h : ty ≠ "" := by decide) : isiV tb T M ty = (tb ty T).map fun b => (.v (.bl b), M) := if_neg h
theorem v_int {tb : String → String → Option Bool} {T : String} : isiV tb T M "int" = (tb "int" T).map fun b => (.v (.bl b), M) := v_isi
theorem v_str {tb : String → String → Option Bool} {T : String} : isiV tb T M "str" = (tb "str" T).map fun b => (.v (.bl b), M) := v_isi
theorem v_bl {tb : String → String → Option Bool} {T : String} : isiV tb T M "bool" = (tb "bool" T).map fun b => (.v (.bl b), M) := v_isi
theorem v_non {tb : String → String → Option Bool} {T : String} : isiV tb T M "NoneType" = (tb "NoneType" T).map fun b => (.v (.bl b), M) := v_isi
theorem v_tup {tb : String → String → Option Bool} {T : String} : isiV tb T M "tuple" = (tb "tuple" T).map fun b => (.v (.bl b), M) := v_isi
theorem v_lst {tb : String → String → Option Bool} {T : String} : isiV tb T M "list" = (tb "list" T).map fun b => (.v (.bl b), M) := v_isi
theorem v_dct {tb : String → String → Option Bool} {T : String} : isiV tb T M "dict" = (tb "dict" T).map fun b => (.v (.bl b), M) := v_isi
theorem while_by {c : E} {b : S} (Q : OS → Prop) (J : Nat → Env → Mm → Prop) {n : Nat} (h0 : ∃ m, m < n ∧ J m env M)
    (hs : ∀ m env M, J m env M → ∃ y M1, c env M = some (.v (.bl y), M1) ∧ if y = true then Step (fun e M => ∃ m', m' < m ∧ J m' e M) Q (b env M1) else Q (some (.nx env, M1))) : Q (sWhile n c b env M) := by
  have key : ∀ (n m : Nat) (env : Env) (M : Mm), m < n → J m env M → Q (loopW c b n env M) := by
    intro n
    induction n with
    | zero => intro m env M h; exact absurd h (Nat.not_lt_zero _)
    | succ n ih =>
      intro m env M hm hJ
      obtain ⟨y, M1, h1, h2⟩ := hs m env M hJ
      cases y with
      | false => simp only [loopW, h1]; exact h2
      | true =>
        simp only [loopW, h1]
        rw [if_pos rfl] at h2
        cases eb : b env M1 with
        | none => rw [eb] at h2; exact h2.elim
        | some o =>
          rw [eb] at h2
          obtain ⟨o, M'⟩ := o
          cases o with
          | nx e' => obtain ⟨m', h3, h4⟩ := h2; exact ih m' e' M' (by omega) h4
          | ct e' => obtain ⟨m', h3, h4⟩ := h2; exact ih m' e' M' (by omega) h4
          | bk e' => exact h2
          | rt d => exact h2
          | ex c n => exact h2
  obtain ⟨m, h1, h2⟩ := h0
  exact key n m env M h1 h2
theorem o_abs : bAbs [.int i] = some (.int (if i < 0 then -i else i)) := rfl
def unpD (is : List Nat) (env : Env) (M : Mm) : D → OS
 | .tup ds => if ds.length = is.length then (setE is ds env).map fun e => (.nx e, M) else none
 | _ => none
theorem q_unp {is : List Nat} : sUnp is f env M = bndT (fun d M1 => unpD is env M1 d) (f env M) := by
  unfold sUnp bndT bndS
  cases f env M with
  | none => rfl
  | some p => obtain ⟨r, M'⟩ := p; cases r with
    | x c n => rfl
    | v d => cases d <;> rfl
theorem r_unp {is : List Nat} : unpD is env M (.tup ds) = if ds.length = is.length then (setE is ds env).map fun e => (.nx e, M) else none := rfl
theorem q_setE0 : setE [] [] env = some env := rfl
theorem q_setE1 {n : Nat} {is : List Nat} : setE (n :: is) (d :: ds) env = if n < env.length then setE is ds (env.set n (.val d)) else none := rfl
end
end E3
namespace L2
open PySem PySem.Spec PyProof.Rows
end L2
namespace E3
open PySem PySem.Spec PyProof.Rows L2
section
variable {X : Cx} {Wx : XW} {m : Mode} {pos : Pos}
end
section
variable {env : Env} {M M1 M2 : Mm} {s t : S} {d : D} {c : Str} {cat : Str → Bool} {a : Int}
end
end E3
namespace E3
open PySem PySem.Spec PyProof.Rows L2
section
variable {es : List Expr} {env : PySem.Env} {pos : Pos}
theorem st_Constant {c : Const} {k : Nat} : starEach (.Constant c k pos :: es) env = (false, eval (.Constant c k pos) env) :: starEach es env := by rfl
theorem st_Name {x : Str} : starEach (.Name x pos :: es) env = (false, eval (.Name x pos) env) :: starEach es env := by rfl
theorem st_BinOp {a b : Expr} {o : Operator} : starEach (.BinOp a o b pos :: es) env = (false, eval (.BinOp a o b pos) env) :: starEach es env := by rfl
theorem st_UnaryOp {a : Expr} {o : UnaryOp} : starEach (.UnaryOp o a pos :: es) env = (false, eval (.UnaryOp o a pos) env) :: starEach es env := by rfl
theorem st_Call {f : Expr} {as : List Expr} {ks : List Keyword} : starEach (.Call f as ks pos :: es) env = (false, eval (.Call f as ks pos) env) :: starEach es env := by rfl
theorem st_Subscript {a b : Expr} : starEach (.Subscript a b pos :: es) env = (false, eval (.Subscript a b pos) env) :: starEach es env := by rfl
theorem st_Compare {a : Expr} {os : List CmpOp} {bs : List Expr} : starEach (.Compare a os bs pos :: es) env = (false, eval (.Compare a os bs pos) env) :: starEach es env := by rfl
theorem st_Tuple {as : List Expr} {k : Nat} : starEach (.Tuple as k pos :: es) env = (false, eval (.Tuple as k pos) env) :: starEach es env := by rfl
theorem st_List {as : List Expr} : starEach (.List as pos :: es) env = (false, eval (.List as pos) env) :: starEach es env := by rfl
theorem st_Dict {ks : List (Option Expr)} {vs : List Expr} : starEach (.Dict ks vs pos :: es) env = (false, eval (.Dict ks vs pos) env) :: starEach es env := by rfl
theorem st_JoinedStr {as : List Expr} : starEach (.JoinedStr as pos :: es) env = (false, eval (.JoinedStr as pos) env) :: starEach es env := by rfl
theorem st_ListComp {a : Expr} {gs : List Comprehension} {sc : Scope} : starEach (.ListComp a gs sc pos :: es) env = (false, eval (.ListComp a gs sc pos) env) :: starEach es env := by rfl
end
end E3
namespace L2
open PySem PySem.Spec PyProof.Rows
theorem leave_next {P : Program} {w : World} {K : PySem.W.Frag} {mg : Str → Option Value} {base : Heap} {N : List Str} {qual : Str} {scope : Scope} {f : Addr} {cd : Value} {A : Around} {outer : List PySem.Env} {E : XK} {s : Shared} {H H1 : Hp} {s1 : Shared} {pins : List (Addr × Obj)} {σ : St} {a C T : Addr} {dx : Option Addr}
  (c : Caught (cxOf (CX1 P w) P w K mg base N qual scope f cd A outer s H E) pins σ H1 s1 a C dx T) (hE : E (.ref C) dx H1) : (cxOf (CX1 P w) P w K mg base N qual scope f cd A outer s H E).xe (.ref a) s1 := by
 show wpAny _ _ (leaving _ _) _ _ _
 unfold leaving
 refine wpAny_bind (Caught.note c rfl rfl fun s' T' c' => ?_)
 have I := c'.inv
 have hL : s.heap.get? (envOfC qual scope s.heap.objs.size f cd).locals = none := Heap.get?_none_of_le I.ok.above
 have u1 : Un (s.heap.objs.size :: frs outer) [] H H1 s.heap s'.heap := Un.mono (fs' := s.heap.objs.size :: frs outer) (ex' := []) I.base (fun b hb => List.mem_cons_of_mem _ hb) fun b hb => hb
 exact ⟨a, C, dx, H1, T', rfl, I.os, I.bare, u1.less hL, I.hok, c'.obj, c'.hT, c'.t1, c'.fl, hE⟩
end L2
namespace E3
open PySem PySem.Spec PyProof.Rows L2
structure XPass (X : Cx) (Wx : XW) : Prop where
 xc : ∀ pins σ H s a C dx T c n P0 H0 P M, Caught X pins σ H s a C dx T → LtE P0 H0 P H → Hk X.K X.mg P H M → X.mg c = some (.ref C) → XN H n dx → Wx P0 H0 M c n → X.xe (.ref a) s
section
variable {X : Cx} {Wx : XW} {m : Mode} {pos : Pos}
theorem SX.se {e : Expr} {f : E} (F : XPass X Wx) (h : SX X e f) : SE X Wx m e f := by
  have h' : SE X Wx .val e f := by
    let Ex : L2.St → XK := fun σ Cv dx H' => ∀ pins s' a C T, Cv = .ref C → Caught X pins σ H' s' a C dx T → X.xe (.ref a) s'
    refine pe_imp (h Ex fun pins σ H s e s' I z => ?_) ?_
    · obtain ⟨a, C, dx, H', T, rfl, K1, hE⟩ := caught_of I z
      exact hE pins s' a C T rfl K1
    · rintro st H Q ⟨P0, H0, P, Os, env, M, r, M', k, e, q⟩
      refine ⟨P0, H0, P, Os, env, M, r, M', k, e, ?_⟩
      cases r with
      | v d => exact q
      | x c n =>
        intro P' H' C dx l hk hm xn pins s' a C' T eC ca
        cases eC
        exact F.xc pins st H' s' a C dx T c n P0 H0 P' M' ca (k.base.trans l) hk hm xn q
  exact h'.bor
end
section
variable {P : Program} {w : World} {K : PySem.W.Frag} {mg : Str → Option Value} {base : Heap} {k : Nat} {x qual : Str} {st : Stmt} {f : Addr} {fd : FuncData} {N ps : List Str} {b : S}
theorem fn_runP (F : FunD K x qual st f fd) (S : FnScope N ps (defScope st)) (hp : ps.length ≤ N.length)
    (hb : ∀ cdv A outer s H E Wx, Room k (A.deeper (envOfC qual (defScope st) s.heap.objs.size f cdv)) → XFit (cxX P w K mg base N qual st f cdv A outer s H E) Wx → XPass (cxX P w K mg base N qual st f cdv A outer s H E) Wx → SB (cxX P w K mg base N qual st f cdv A outer s H E) Wx (defBody st) b) : FnOk P w K mg base (CX1 P w) (k + 1) f fd ps (spX K mg ps.length (fnG N.length b)) := by
  obtain ⟨oc, od, dV, kV, doc, pm, an, cdv, ct, osl, rfl, lk, hcd⟩ := F.ex
  refine fn_of lk hcd S (fun vs H Q E h => h.1) fun A outer s H vs Q E hr h => ?_
  obtain ⟨hl, Pl, M, ds, r, M', hk, is, e, q⟩ := h
  have XF : XFit (cxX P w K mg base N qual st f cdv A outer s H E) (fun P0 H0 M1 c n => P0 = Pl ∧ H0 = H ∧ M1 = M' ∧ r = .x c n) := ⟨fun pins σ H1 s1 a C dx c n P0 H0 P1 M1 I ea nb n0 l h m xn ⟨e1, e2, e3, e4⟩ => by
    subst e1 e2 e3 e4
    have sure : ∀ b, upd H1 a (xo a C dx false) b = none → H1 b = none := fun b z => by
      by_cases hb : b = a
      · subst hb; rw [upd_same] at z; cases z
      · rw [upd_ne hb] at z; exact z
    have l1 : LtE P0 H0 P1 (upd H1 a (xo a C dx false)) := ⟨l.n, l.io, l.bd, l.bm, fun b o eb nb => by
      rw [upd_ne (fun z => by rw [z, n0] at eb; cases eb)]
      exact l.keep b o eb nb, fun b z => l.sure b (sure b z), l.nw⟩
    have h1 := h.away (H' := upd H1 a (xo a C dx false)) (fun b o eb nx => by
      rw [upd_ne (fun z => by rw [z, ea] at eb; cases eb; exact nx _ rfl)]
      exact eb) sure
    refine leave_cx I ea (q P1 _ C dx l1 h1 m ?_)
    cases dx with
    | none => exact xn
    | some d =>
      obtain ⟨fs, ed, el⟩ := xn
      exact ⟨fs, by rw [upd_ne (fun z => by rw [z, ea] at ed; cases ed)]; exact ed, el⟩⟩
  have XP : XPass (cxX P w K mg base N qual st f cdv A outer s H E) (fun P0 H0 M1 c n => P0 = Pl ∧ H0 = H ∧ M1 = M' ∧ r = .x c n) := ⟨fun pins σ H1 s1 a C dx T c n P0 H0 P1 M1 ca l h m xn ⟨e1, e2, e3, e4⟩ => by
    subst e1 e2 e3 e4
    exact leave_next ca (q P1 _ C dx l h m xn)⟩
  refine ⟨_, hb cdv A outer s H E _ hr XF XP, ?_⟩
  unfold fnG endS at e
  have st0 := start_ok (N := N) hk (by omega) is
  split at e
  · rename_i d' M2 eb
    cases e
    exact ⟨Pl, H, Pl, _, _, M, _, _, st0, eb, fun P' v H' l h i => q P' v H' l h i⟩
  · rename_i env M2 eb
    cases e
    exact ⟨Pl, H, Pl, _, _, M, _, _, st0, eb, fun P' Os' H' st' _ k' => q P' .non H' k'.base k'.hk rfl⟩
  · rename_i c n M2 eb
    cases e
    exact ⟨Pl, H, Pl, _, _, M, _, _, st0, eb, ⟨rfl, rfl, rfl, rfl⟩⟩
  · cases e
end
end E3
namespace E3
open PySem PySem.Spec PyProof.Rows L2
section
variable {K : PySem.W.Frag} {P : Pl} {H : Hp}
def intsD : List D → Option (List Int)
 | [] => some []
 | .int i :: ds => (intsD ds).map (i :: ·)
 | _ :: _ => none
theorem ints_is : ∀ {ds : List D} {is : List Int} {vs : List V}, intsD ds = some is → Iss K P H ds vs → vs = is.map V.int
  | [], _, _, e, h => by cases e; exact h
  | d :: ds, is, vs, e, h => by
    obtain ⟨v, r, rfl, i, h⟩ := h
    cases d with
    | int n =>
      simp only [intsD, Option.map_eq_some_iff] at e
      obtain ⟨is', e', rfl⟩ := e
      cases i
      rw [ints_is e' h]
      rfl
    | _ => simp [intsD] at e
def bolsD : List D → Option (List Bool)
 | [] => some []
 | .bl b :: ds => (bolsD ds).map (b :: ·)
 | _ :: _ => none
def bStr : List D → Option D
 | [.int i] => if i.natAbs.log2 < 1920 then some (.str (toString i)) else none
 | _ => none
theorem pu_str : PureN K (fun xs H Q => ∃ i, xs = [.int i] ∧ i.natAbs.log2 < 1920 ∧ Q (.str (toString i)) H) bStr := fun P H ds z vs Q h i _ q => by
 unfold bStr at h
 split at h
 ·split at h
  ·rename_i hl
   obtain ⟨v, ws, rfl, p, rfl⟩ := i
   cases h; cases p
   exact ⟨_, rfl, hl, q _ H (Same.refl H) rfl⟩
  ·cases h
 ·cases h
def bInt : List D → Option D
 | [.str z] => if z.length ≤ 640 then (intText? z).map .int else none
 | _ => none
def bAny : List D → Option D
 | [.lst ds] => (bolsD ds).map fun bs => .bl (bs.any id)
 | _ => none
def bTup : List D → Option D
 | [.lst ds] => some (.tup ds)
 | [.tup ds] => some (.tup ds)
 | _ => none
theorem pu_tup : PureN K (fun xs H Q => ∃ p ys, xs = [.ref p] ∧ ((SqL K H p ys ∧ ∀ l, H l = none → Q (.ref l) (upd H l (.tup ys))) ∨ (SqT K H p ys ∧ Q (.ref p) H))) bTup := fun P H ds z vs Q h i _ q => by
 unfold bTup at h
 split at h
 ·obtain ⟨v, ws, rfl, p, rfl⟩ := i
  cases h
  obtain ⟨a, us, rfl, r, s⟩ := p
  exact ⟨a, us, rfl, .inl ⟨r, new_tup s q⟩⟩
 ·obtain ⟨v, ws, rfl, p, rfl⟩ := i
  cases h
  obtain ⟨a, us, rfl, r, s⟩ := p
  exact ⟨a, us, rfl, .inr ⟨r, q _ H (Same.refl H) ⟨a, us, rfl, r, s⟩⟩⟩
 ·cases h
end
section
variable {X : Cx} {Wx : XW} {m : Mode} {pos : Pos}
def sMt (o : Str → List D → Option D) (f : E) (fs : EA) : E := fun env M => bnd (f env M) fun d M1 => match d with
 | .str y => bndA (fs env M1) fun ds M2 => (o y (ds.map (vw M2))).map fun z => (.v z, M2)
 | _ => none
def tStarts (z : Str) : List D → Option D
 | [.str y] => some (.bl (Txt.startswith z y))
 | _ => none
def tLstrip (z : Str) : List D → Option D
 | [.str y] => if z.length ≤ sizeLine then some (.str (Txt.lstripChars z y)) else none
 | _ => none
end
def sNone : S := fun _ _ => none
theorem ss_none {X : Cx} {Wx : XW} {s : Stmt} (h : PS X s fun _ _ _ => False) : SS X Wx s sNone := ps_imp h fun D st H ⟨_, _, _, _, _, _, _, _, _, e, _⟩ => by cases e
theorem ps_false {X : Cx} {s : Stmt} : PS X s fun _ _ _ => False := fun pins s σ H D I h => h.elim
theorem ss_no {X : Cx} {Wx : XW} {s : Stmt} : SS X Wx s sNone := ss_none ps_false
end E3
namespace E3
open PySem PySem.Spec PyProof.Rows L2
def lookT (tb : List (Str × D)) (z : Str) : Option D := (tb.find? fun p => decide (p.1 = z)).map (·.2)
inductive KRows (K : PySem.W.Frag) (w : World) : List (Str × D) → List DictEntry → List (Key × Value) → Prop
 | nil : KRows K w [] [] []
 | cons {z : Str} {d : D} {t : Tok} {u : Value} {v : V} {hs : Int} {tb : List (Str × D)} {es : List DictEntry} {vs : List (Key × Value)} : hs = hashStr w z → RelV v u → (∀ P H, Is K P H d v) → KRows K w tb es vs → KRows K w ((z, d) :: tb) (⟨hs, .str z t, u⟩ :: es) ((.inr z, u) :: vs)
def KTab (K : PySem.W.Frag) (w : World) (a : Addr) (tb : List (Str × D)) : Prop := ∃ o es ep vs, K.lookup a = some o ∧ o.ExactDict ∧ o.data = .dict es ep ∧ KRows K w tb es.toList vs ∧ (tb.map (·.1)).Nodup ∧ (a == sysModules) = false
section
variable {K : PySem.W.Frag} {w : World} {prog : Program}
theorem krows_keys : ∀ {tb : List (Str × D)} {es : List DictEntry} {vs : List (Key × Value)}, KRows K w tb es vs → (∀ e ∈ es, ∃ k, (mixKind prog w).is k e.key = true ∧ e.hash = (mixKind prog w).hash k) ∧ Pairs (mixKind prog w) es vs ∧ vs.map (·.1) = tb.map fun p => (.inr p.1 : Key)
  | _, _, _, .nil => ⟨fun e h => (by cases h), .nil, rfl⟩
  | _, _, _, .cons (z := z) (t := t) h1 h2 h3 r => by
    obtain ⟨a, b, c⟩ := krows_keys r
    refine ⟨fun e he => ?_, .cons (mixKind_str prog w z t) rfl b, by rw [List.map_cons, List.map_cons, c]⟩
    rw [List.mem_cons] at he
    rcases he with rfl | he
    · exact ⟨.inr z, mixKind_str prog w z t, h1⟩
    · exact a e he
theorem KTab.dict {a : Addr} {tb : List (Str × D)} {h : Heap} (t : KTab K w a tb) (X : K.In h) : ∃ es vs, KRows K w tb es vs ∧ h.DictOf (mixKind prog w) a vs ∧ (a == sysModules) = false := by
 obtain ⟨o, es, ep, vs, l, x, d, r, nd, ns⟩ := t
 obtain ⟨r1, r2, r3⟩ := krows_keys (prog := prog) r
 refine ⟨es.toList, vs, r, ⟨o, es, ep, X a o l, x, d, fun e he => r1 e (by simpa using he), r2, ?_⟩, ns⟩
 rw [r3]
 have : (tb.map fun p => (Sum.inr p.1 : Key)) = (tb.map (·.1)).map Sum.inr := by rw [List.map_map]; rfl
 rw [this]
 exact List.pairwise_map.mpr (List.Pairwise.imp (fun h q => h (Sum.inr.inj q)) nd)
end
section
variable {X : Cx} {Wx : XW} {m : Mode} {pos : Pos}
def sKIn (b : Bool) (tb : List (Str × D)) (f : E) : E := fun env M => bnd (f env M) fun d M1 => match d with
 | .str z => some (.v (.bl (if b then (lookT tb z).isSome else !(lookT tb z).isSome)), M1)
 | _ => none
def sKGet (tb : List (Str × D)) (f : E) : E := fun env M => bnd (f env M) fun d M1 => match d with
 | .str z => (lookT tb z).map fun y => (.v y, M1)
 | _ => none
end
end E3
namespace E3
open PySem PySem.Spec PyProof.Rows L2
section
variable {X : Cx} {Wx : XW} {pos : Pos}
def iTx (f : E) : EA := fun env M => match f env M with
 | some (.v (.str z), M1) => some (.v (z.cps.toList.map fun c => .str ⟨#[c]⟩), M1)
 | some (.x c n, M1) => some (.x c n, M1)
 | _ => none
def iRv (fs : EA) : EA := fun env M => match fs env M with
 | some (.v [.lst ds], M1) => some (.v ds.reverse, M1)
 | some (.x c n, M1) => some (.x c n, M1)
 | _ => none
end
end E3
namespace L2
open PySem PySem.Spec PyProof.Rows
def IsRvT (h : Heap) (a t : Addr) (i : Int) : Prop := ∃ o, h.get? a = some o ∧ o.cls = .type "reversed" ∧ o.data = .fields #[.ref t, rawInt i]
theorem IsRvT.typeIs {s : Shared} {a l : Addr} {i : Int} (x : IsRvT s.heap a l i) : s.TypeIs (.ref a) "reversed" := let ⟨o, ho, hc, _⟩ := x; ⟨o, ho, hc⟩
theorem IsRvT.at {h h' : Heap} {a l : Addr} {i : Int} (x : IsRvT h a l i) (e : ∀ o, h.get? a = some o → h'.get? a = some o) : IsRvT h' a l i := let ⟨o, ho, r⟩ := x; ⟨o, e _ ho, r⟩
section
variable {prog : Program} {w : World} {A : Around} {E : Value → Shared → Prop} {s : Shared}
end
section
variable {X : Cx} {tg : Expr}
end
end L2
namespace E3
open PySem PySem.Spec PyProof.Rows L2
section
variable {X : Cx} {Wx : XW} {m : Mode} {pos : Pos}
def oCat : D → D → Option D
 | .lst xs, .lst ys => if xs.length + ys.length ≤ sizeLine then some (.lst (xs ++ ys)) else none
 | _, _ => none
def repS (i : Str) (n : Nat) : Str := ⟨(List.replicate n i.cps).foldl (· ++ ·) #[]⟩
def oRep : D → D → Option D
 | .str i, .int j => if 1 < j ∧ j < 100000 ∧ 0 < i.length ∧ i.length * j.toNat ≤ sizeLine then some (.str (repS i j.toNat)) else none
 | _, _ => none
def jRep (f : E) (ps : EJ) : EJ := fun out env M => bnd (f env M) fun d M1 => match d with
 | .str z => if (reprText z).length ≤ sizeLine ∧ (out ++ reprText z).length ≤ sizeLine then ps (out ++ reprText z) env M1 else none
 | _ => none
theorem pj_rep {e : Expr} {vs : List Expr} {te : TE} {tj : TJ} (he : PE X e te) (hv : PJ X vs tj) : PJ X (.FormattedValue e 114 none pos :: vs) (fun out σ H Q => te σ H fun v H1 => ∃ z, v = .str z ∧ (reprText z).length ≤ sizeLine ∧ (out ++ reprText z).length ≤ sizeLine ∧ tj (out ++ reprText z) σ H1 Q) := fun pins s σ H out Q I h => by
 refine joinParts_cons (wpAny_FormattedValue_repr (thn (he pins s σ H _ I h) fun u s1 ⟨x, H1, I1, r1, z, ez, hz, hl, q⟩ => ?_))
 subst ez
 obtain ⟨t, rfl⟩ := r1
 refine pyReprObj_str ?_ hz
 exact formatField_str (fun t' tk => ⟨hl, hv pins _ σ H1 _ Q (I1.tok _) q⟩) hz
theorem sj_rep {e : Expr} {f : E} {vs : List Expr} {ps : EJ} (he : SE X Wx .val e f) (h : SJ X Wx vs ps) : SJ X Wx (.FormattedValue e 114 none pos :: vs) (jRep f ps) := by
 refine pj_imp (pj_rep he h) ?_
 rintro out st H Q ⟨P0, H0, P, Os, env, M, r, M', k, e, q⟩
 unfold jRep at e
 rcases bnd_inv e with ⟨d, M1, e1, e⟩ | ⟨c, n, e1, rfl⟩
 ·cases d <;> simp only [reduceCtorEq] at e
  rename_i z
  split at e
  ·rename_i hl
   exact tE_go k e1 fun P1 v1 H1 l1 h1 i1 => ⟨z, i1, hl.1, hl.2, P0, H0, P1, Os, env, M1, r, M', k.next l1 h1, e, RQ.imp l1 q⟩
  ·cases e
 ·exact tE_go k e1 q
theorem se_gd {nm : Str} {p : Pos} {a : Addr} {d : D} (hg : Gl X nm) (hm : X.mg nm = some (.ref a)) (hd : ∀ P H, Is X.K P H d (.ref a)) (hdb : (nm == ("__debug__" : Str)) = false := by decide +kernel) : SE X Wx m (.Name nm p) (sCon d) :=
 (se_con (pe_glob hg hm (v := .ref a) rfl hdb) hd).bor
theorem is_tupK {K : PySem.W.Frag} {a : Addr} {o : Obj} {its : Array Value} {n : Nat} {ds : List D} {vs : List V} (l : K.lookup a = some o) (c : o.cls = .type "tuple") (e : o.data = .seq its n) (z : its.size ≤ sizeLine) (r : Vals vs its.toList) (i : ∀ P H, Iss K P H ds vs) : ∀ P H, Is K P H (.tup ds) (.ref a) :=
 fun P H => ⟨a, vs, rfl, .inr ⟨o, its, n, l, c, e, z, r⟩, i P H⟩
def AtMD (P : Program) (w : World) (K : PySem.W.Frag) (mg : Str → Option Value) (base : Heap) (k : Nat) (C : Addr) (m : Str) (n : Nat) (g : G) : Prop :=
 ∃ f fd ps ds dvs sp, Meth K C m f ∧ FnOk P w K mg base CX0 k f fd ps sp ∧ Binds K fd ps ds ∧ Vals dvs ds ∧ ∀ vs H Q E, spG K mg n g vs H Q E → sp (vs ++ dvs) H Q E
theorem AtMD.mono {P : Program} {w : World} {K : PySem.W.Frag} {mg : Str → Option Value} {base : Heap} {j k : Nat} {C : Addr} {m : Str} {n : Nat} {g : G} (a : AtMD P w K mg base j C m n g) (h : j ≤ k) : AtMD P w K mg base k C m n g := by
 obtain ⟨f, fd, ps, ds, dvs, sp, h1, h2, h3⟩ := a
 exact ⟨f, fd, ps, ds, dvs, sp, h1, h2.mono h, h3⟩
structure OwnIs (K : PySem.W.Frag) (C : Addr) : Prop where
 ca : PySem.W.findIn K (.ref C) "__class__" = some (some (.builtin "object.__class__"))
 gt : PySem.W.specialIn K (.builtin "object.__class__") "__get__" = some (some (.builtin "getset_descriptor.__get__"))
 tk : PySem.W.takesIn K (.builtin "object.__class__") = some true
 mr : PySem.W.mroIn K C (.type "object") = some true
 me : PySem.W.kitOne K (.ref C) (.ref C) = some true
def iRvT (fs : EA) : EA := fun env M => match fs env M with
 | some (.v [.tup ds], M1) => some (.v ds.reverse, M1)
 | some (.x c n, M1) => some (.x c n, M1)
 | _ => none
end
end E3
namespace E3
open PySem L2
def dg (n : Nat) : List Nat := (Nat.toDigits 10 n).map Char.toNat
theorem dg_all (n : Nat) : NumText.AllDigits (dg n) := fun c hc => by
 obtain ⟨d, hd, rfl⟩ := List.mem_map.mp hc
 have h := Nat.isDigit_of_mem_toDigits (by decide) (by decide) hd
 simp only [Char.isDigit, Bool.and_eq_true, decide_eq_true_eq] at h
 exact ⟨h.1, h.2⟩
theorem dg_ne (n : Nat) : dg n ≠ [] := fun e => Nat.toDigits_ne_nil (List.map_eq_nil_iff.mp e)
theorem dg_len {n k : Nat} (h1 : 1 ≤ k) (h : n < 10 ^ k) : (dg n).length ≤ k := by
 rw [dg, List.length_map]
 exact toDigits_len_pow (by decide) h1 h
def shw (i : Int) : Str := Str.ofString (toString i)
theorem shw_nn {i : Int} (h : 0 ≤ i) : (shw i).cps.toList = dg i.toNat := by
 have := W.KIN.signs_num i.toNat
 rw [Int.toNat_of_nonneg h] at this
 exact this
theorem shw_neg {i : Int} (h : i < 0) : (shw i).cps.toList = 45 :: dg i.natAbs := by
 obtain ⟨m, rfl⟩ : ∃ m, i = Int.negSucc m := by
  cases i with
  | ofNat n => exact absurd h (by simp)
  | negSucc m => exact ⟨m, rfl⟩
 unfold shw dg
 rw [PyProof.Rows.signs_ofString]
 show List.map Char.toNat ("-" ++ toString (m + 1)).toList = _
 rw [String.toList_append, List.map_append, Nat.toString_eq_ofList_toDigits]
 simp
theorem shw_len {i : Int} {k : Nat} (h1 : 1 ≤ k) (h : i.natAbs < 10 ^ k) : (shw i).length ≤ k + 1 := by
 show (shw i).cps.size ≤ k + 1
 rw [← Array.length_toList]
 by_cases h0 : 0 ≤ i
 ·rw [shw_nn h0]
  have := dg_len (n := i.toNat) h1 (by rw [← Int.natAbs_of_nonneg h0] at *; simpa using h)
  omega
 ·rw [shw_neg (by omega), List.length_cons]
  have := dg_len h1 h
  omega
theorem int_shw {i : Int} (h : i.natAbs < 10 ^ 600) : intText? (shw i) = some i := by
 have hl := shw_len (by decide) h
 by_cases h0 : 0 ≤ i
 ·rw [intText_digits (by rw [shw_nn h0]; exact dg_all _) (by rw [shw_nn h0]; exact dg_ne _) (by omega), shw_nn h0]
  have := W.KIN.val_back i.toNat
  unfold dg
  rw [this, Int.toNat_of_nonneg h0]
 ·rw [intText_neg (shw_neg (by omega)) (dg_all _) (dg_ne _) (by omega)]
  have := W.KIN.val_back i.natAbs
  unfold dg
  rw [this]
  congr 1
  omega
def cd (s : Str) : List Nat := s.cps.toList
theorem cd_inj {a b : Str} (h : cd a = cd b) : a = b := by
 obtain ⟨x⟩ := a
 obtain ⟨y⟩ := b
 have : x = y := Array.toList_inj.mp h
 rw [this]
theorem cd_app (a b : Str) : cd (a ++ b) = cd a ++ cd b := by
 unfold cd
 rw [Str.cps_append, Array.toList_append]
end E3
namespace E3
open PySem L2
theorem slice_cd {x : Str} {c : Nat} {r : List Nat} (h : cd x = c :: r) : cd (Txt.slice x (some 1) none) = r := by
 have hl : (cd x).length = r.length + 1 := by rw [h]; rfl
 have := PyProof.Rows.slice_closes_from (x := x) (i := 1) ⟨by decide, by show (1 : Int) ≤ ((cd x).length : Int); omega⟩
 have e := eq_of_beq this
 rw [e]
 show List.take (((cd x).length : Int) - 1).toNat (List.drop (1 : Int).toNat (cd x)) = r
 rw [h]
 simp
theorem len_cd (x : Str) : x.length = (cd x).length := by
 show x.cps.size = x.cps.toList.length
 simp
end E3
namespace E3
open PySem L2
theorem cd_one (c : Nat) : cd ⟨#[c]⟩ = [c] := rfl
end E3
namespace E3
open PySem L2
theorem log_nat {n : Nat} (h : n < 340282366920938463463374607431768211456) : n.log2 < 1920 := by
 by_cases h0 : n = 0
 ·rw [h0]; decide
 ·have := (Nat.log2_lt h0 (k := 128)).mpr h
  omega
end E3
namespace E3
open PySem L2
section
variable {env : Env} {M M1 : Mm} {f g h c : E} {d e : D} {i j : Int} {n k : Nat} {z : Str} {b : Bool} {ds es : List D} {s t : S} {x : Str} {fa : EA} {u : G}
theorem r_bndTx {q : D → Mm → OS} : bndT q (some (.x x i, M)) = some (.ex x i, M) := rfl
theorem r_bndKx {q : D → Mm → O} : bndK q (some (.x x i, M)) = some (.x x i, M) := rfl
theorem r_argKx {q : List D → Mm → O} : argK q (some (.x x i, M)) = some (.x x i, M) := rfl
theorem r_consx {q : Mm → Option (ResA × Mm)} : consK q (some (.x x i, M)) = some (.x x i, M) := rfl
theorem r_conAx : conA d (some (.x x i, M)) = some (.x x i, M) := rfl
def lsC (q : List D → O) : Option Cl → O
 | some (.lst ds) => q ds
 | _ => none
theorem r_lsC {q : List D → O} : lsC q (some (.lst ds)) = q ds := rfl
def popZ (M : Mm) (k : Nat) (ds : List D) : Option D → O
 | some z => some (.v z, M.set k (.lst ds.dropLast))
 | none => none
theorem r_popZ : popZ M k ds (some d) = some (.v d, M.set k (.lst ds.dropLast)) := rfl
def popC (M : Mm) : D → O
 | .ref k => lsC (fun ds => popZ M k ds ds[ds.length - 1]?) M[k]?
 | _ => none
theorem r_popC : popC M (.ref k) = lsC (fun ds => popZ M k ds ds[ds.length - 1]?) M[k]? := rfl
theorem q_pop : sPop f env M = bndK (fun d M1 => popC M1 d) (f env M) := by
  unfold sPop bndK bnd
  cases f env M with
  | none => rfl
  | some p =>
    obtain ⟨r, M'⟩ := p
    cases r with
    | x c n => rfl
    | v d =>
      cases d <;> rfl
def lsS (q : List D → OS) : Option Cl → OS
 | some (.lst ds) => q ds
 | _ => none
theorem r_lsS {q : List D → OS} : lsS q (some (.lst ds)) = q ds := rfl
def appC (env : Env) (g : Mm → O) (M : Mm) : D → OS
 | .ref k => lsS (fun _ => bndT (fun y M2 => lsS (fun ds => if ds.length < sizeLine then some (.nx env, M2.set k (.lst (ds ++ [y]))) else none) M2[k]?) (g M)) M[k]?
 | _ => none
theorem r_appC {q : Mm → O} : appC env q M (.ref k) = lsS (fun _ => bndT (fun y M2 => lsS (fun ds => if ds.length < sizeLine then some (.nx env, M2.set k (.lst (ds ++ [y]))) else none) M2[k]?) (q M)) M[k]? := rfl
theorem q_appC : sAppC f g env M = bndT (fun d M1 => appC env (g env) M1 d) (f env M) := by
  unfold sAppC bndT bndS
  cases f env M with
  | none => rfl
  | some p =>
    obtain ⟨r, M'⟩ := p
    cases r with
    | x c n => rfl
    | v d =>
      cases d <;> rfl
theorem w_refL (h : M[k]? = some (.lst ds)) : vw M (.ref k) = .lst ds := by unfold vw; simp only [h]
def argX (q : List D → Mm → O) : Option (ResA × Mm) → O
 | some (.v ds, M) => q ds M
 | _ => none
theorem r_argX {q : List D → Mm → O} : argX q (some (.v ds, M)) = q ds M := rfl
theorem q_callX : sCallX u fa env M = argX (fun ds M1 => u ds M1) (fa env M) := by
 unfold sCallX argX
 rfl
theorem q_raise : sRaise x f env M = bndT (fun _ M1 => some (.ex x 0, M1)) (f env M) := rfl
def unE (k : Nat) (M : Mm) (env : Env) : Option Slot → OS
 | some (.exc _ _) => some (.nx (env.set k .un), M)
 | _ => none
theorem r_unE {e' : Env} : unE k M e' (some (.exc x i)) = some (.nx (e'.set k .un), M) := rfl
def tryH (k : Nat) : OS → OS
 | some (.nx e, M2) => unE k M2 e e[k]?
 | some (.rt d, M2) => some (.rt d, M2)
 | _ => none
theorem r_tryHn {e' : Env} : tryH k (some (.nx e', M)) = unE k M e' e'[k]? := rfl
theorem r_tryHr : tryH k (some (.rt d, M)) = some (.rt d, M) := rfl
def tryR (k : Nat) (cat : Str → Bool) (q : S) (env : Env) : OS → OS
 | some (.ex c n, M1) => if cat c = true then (if k < env.length then tryH k (q (env.set k (.exc c n)) M1) else none) else none
 | o => o
theorem r_tryN {cat : Str → Bool} {e' : Env} : tryR k cat t env (some (.nx e', M)) = some (.nx e', M) := rfl
theorem r_tryRt {cat : Str → Bool} : tryR k cat t env (some (.rt d, M)) = some (.rt d, M) := rfl
theorem r_tryX {cat : Str → Bool} : tryR k cat t env (some (.ex x i, M)) = if cat x = true then (if k < env.length then tryH k (t (env.set k (.exc x i)) M) else none) else none := rfl
theorem q_try {cat : Str → Bool} : sTry k cat s t env M = tryR k cat t env (s env M) := by
  unfold sTry tryR
  cases s env M with
  | none => rfl
  | some p =>
    obtain ⟨o, M1⟩ := p
    cases o <;> rfl
def isxR (tb : Str → Option Bool) (M : Mm) : Option Slot → O
 | some (.exc c _) => (tb c).map fun b => (.v (.bl b), M)
 | _ => none
theorem r_isx {tb : Str → Option Bool} : isxR tb M (some (.exc x i)) = (tb x).map fun b => (.v (.bl b), M) := rfl
theorem q_isx {tb : Str → Option Bool} : sIsX k tb env M = isxR tb M env[k]? := by
 unfold sIsX isxR
 cases env[k]? with
 | none => rfl
 | some sl => cases sl <;> rfl
def kinD (b : Bool) (tb : List (Str × D)) (M : Mm) : D → O
 | .str z => some (.v (.bl (if b then (lookT tb z).isSome else !(lookT tb z).isSome)), M)
 | _ => none
theorem r_kin {tb : List (Str × D)} : kinD b tb M (.str z) = some (.v (.bl (if b then (lookT tb z).isSome else !(lookT tb z).isSome)), M) := rfl
theorem q_kin {tb : List (Str × D)} : sKIn b tb f env M = bndK (fun d M1 => kinD b tb M1 d) (f env M) := by
  unfold sKIn bndK bnd
  cases f env M with
  | none => rfl
  | some p => obtain ⟨r, M'⟩ := p; cases r with
    | x c n => rfl
    | v d => cases d <;> rfl
def kgetD (tb : List (Str × D)) (M : Mm) : D → O
 | .str z => (lookT tb z).map fun y => (.v y, M)
 | _ => none
theorem r_kget {tb : List (Str × D)} : kgetD tb M (.str z) = (lookT tb z).map fun y => (.v y, M) := rfl
theorem q_kget {tb : List (Str × D)} : sKGet tb f env M = bndK (fun d M1 => kgetD tb M1 d) (f env M) := by
  unfold sKGet bndK bnd
  cases f env M with
  | none => rfl
  | some p => obtain ⟨r, M'⟩ := p; cases r with
    | x c n => rfl
    | v d => cases d <;> rfl
def txR : O → Option (ResA × Mm)
 | some (.v (.str z), M1) => some (.v (z.cps.toList.map fun c => .str ⟨#[c]⟩), M1)
 | some (.x c n, M1) => some (.x c n, M1)
 | _ => none
theorem q_itx : iTx f env M = txR (f env M) := by
  unfold iTx txR
  cases f env M with
  | none => rfl
  | some p => obtain ⟨r, M'⟩ := p; cases r with
    | x c n => rfl
    | v d => cases d <;> rfl
theorem r_itx : txR (some (.v (.str z), M)) = some (.v (z.cps.toList.map fun c => .str ⟨#[c]⟩), M) := rfl
def rvR : Option (ResA × Mm) → Option (ResA × Mm)
 | some (.v [.lst ds], M1) => some (.v ds.reverse, M1)
 | some (.x c n, M1) => some (.x c n, M1)
 | _ => none
theorem q_irv : iRv fa env M = rvR (fa env M) := by unfold iRv rvR; rfl
theorem r_irv : rvR (some (.v [.lst ds], M)) = some (.v ds.reverse, M) := rfl
def rvtR : Option (ResA × Mm) → Option (ResA × Mm)
 | some (.v [.tup ds], M1) => some (.v ds.reverse, M1)
 | some (.x c n, M1) => some (.x c n, M1)
 | _ => none
theorem q_irvT : iRvT fa env M = rvtR (fa env M) := by unfold iRvT rvtR; rfl
theorem r_irvT : rvtR (some (.v [.tup ds], M)) = some (.v ds.reverse, M) := rfl
def mtD (o : Str → List D → Option D) (q : Mm → Option (ResA × Mm)) (M : Mm) : D → O
 | .str y => argR (o y) (q M)
 | _ => none
theorem r_mt {o : Str → List D → Option D} {q : Mm → Option (ResA × Mm)} : mtD o q M (.str z) = argR (o z) (q M) := rfl
theorem q_mt {o : Str → List D → Option D} : sMt o f fa env M = bndK (fun d M1 => mtD o (fa env) M1 d) (f env M) := by
  unfold sMt bndK bnd
  cases f env M with
  | none => rfl
  | some p => obtain ⟨r, M'⟩ := p; cases r with
    | x c n => rfl
    | v d =>
      cases d <;> try rfl
      dsimp only [mtD]
      unfold argR bndA
      cases fa env M' with
      | none => rfl
      | some p => obtain ⟨r, M2⟩ := p; cases r with
        | x c n => rfl
        | v ds => dsimp only; cases o _ (ds.map (vw M2)) <;> rfl
theorem t_st {y : Str} : tStarts z [.str y] = some (.bl (Txt.startswith z y)) := rfl
theorem t_ls {y : Str} : tLstrip z [.str y] = if z.length ≤ sizeLine then some (.str (Txt.lstripChars z y)) else none := rfl
theorem q_fst {ps : EJ} : sFst ps env M = ps Str.empty env M := rfl
theorem q_jend {out : Str} : jEnd out env M = if out.length ≤ sizeLine then some (.v (.str out), M) else none := rfl
theorem q_jcon {ps : EJ} {out : Str} : jCon z ps out env M = if (out ++ z).length ≤ sizeLine then ps (out ++ z) env M else none := rfl
def jvR (ps : EJ) (out : Str) (env : Env) (M : Mm) : Option Str → O
 | some y => if (out ++ y).length ≤ sizeLine then ps (out ++ y) env M else none
 | none => none
theorem r_jv {ps : EJ} {out y : Str} : jvR ps out env M (some y) = if (out ++ y).length ≤ sizeLine then ps (out ++ y) env M else none := rfl
theorem q_jval {ps : EJ} {out : Str} : jVal f ps out env M = bndK (fun d M1 => jvR ps out env M1 (textD d)) (f env M) := by
  unfold jVal bndK bnd
  cases f env M with
  | none => rfl
  | some p => obtain ⟨r, M'⟩ := p; cases r with
    | x c n => rfl
    | v d => dsimp only; cases textD d <;> rfl
theorem t_txS : textD (.str z) = if z.length ≤ sizeLine then some z else none := rfl
theorem t_txI : textD (.int i) = if i.natAbs.log2 < 1920 then some (Str.ofString (toString i)) else none := rfl
def jrD (ps : EJ) (out : Str) (env : Env) (M : Mm) : D → O
 | .str z => if (reprText z).length ≤ sizeLine ∧ (out ++ reprText z).length ≤ sizeLine then ps (out ++ reprText z) env M else none
 | _ => none
theorem r_jr {ps : EJ} {out : Str} : jrD ps out env M (.str z) = if (reprText z).length ≤ sizeLine ∧ (out ++ reprText z).length ≤ sizeLine then ps (out ++ reprText z) env M else none := rfl
theorem q_jrep {ps : EJ} {out : Str} : jRep f ps out env M = bndK (fun d M1 => jrD ps out env M1 d) (f env M) := by
  unfold jRep bndK bnd
  cases f env M with
  | none => rfl
  | some p => obtain ⟨r, M'⟩ := p; cases r with
    | x c n => rfl
    | v d => cases d <;> rfl
theorem o_cat : oCat (.lst ds) (.lst es) = if ds.length + es.length ≤ sizeLine then some (.lst (ds ++ es)) else none := rfl
theorem o_addS {y : Str} : oAdd (.str z) (.str y) = if z.length + y.length ≤ sizeLine then some (.str (z ++ y)) else none := rfl
theorem o_rep : oRep (.str z) (.int i) = if 1 < i ∧ i < 100000 ∧ 0 < z.length ∧ z.length * i.toNat ≤ sizeLine then some (.str (repS z i.toNat)) else none := rfl
theorem o_ixS : oIx (.str z) (.int i) = if z.length ≤ sizeLine then (atI z.cps.toList i).map fun c => .str ⟨#[c]⟩ else none := rfl
theorem o_lenS : bLen [.str z] = if z.length ≤ sizeLine then some (.int z.length) else none := rfl
theorem o_str : bStr [.int i] = if i.natAbs.log2 < 1920 then some (.str (toString i)) else none := rfl
theorem o_int : bInt [.str z] = if z.length ≤ 640 then (intText? z).map .int else none := rfl
theorem o_any : bAny [.lst ds] = (bolsD ds).map fun bs => .bl (bs.any id) := rfl
theorem o_tupL : bTup [.lst ds] = some (.tup ds) := rfl
theorem o_inS {y : Str} : oCmp .isin (.str z) (.str y) = some (.bl (inStr z y)) := rfl
theorem o_ninS {y : Str} : oCmp .notin (.str z) (.str y) = some (.bl (!inStr z y)) := rfl
theorem o_eqS {y : Str} : oCmp .eq (.str z) (.str y) = some (.bl (decide (z = y))) := by
 unfold oCmp cmpD cEq
 rw [if_pos (by constructor <;> first | rfl | simp [D.dep])]
 have : (z == y) = decide (z = y) := by rw [Bool.eq_iff_iff]; simp
 simp [D.eq, this]
theorem o_neS {y : Str} : oCmp .ne (.str z) (.str y) = some (.bl (!decide (z = y))) := by
 unfold oCmp cmpD cNe
 rw [if_pos (by constructor <;> first | rfl | simp [D.dep])]
 have : (z == y) = decide (z = y) := by rw [Bool.eq_iff_iff]; simp
 simp [D.eq, this]
theorem o_isNn : oCmp .same .non .non = some (.bl true) := rfl
theorem o_isnI : oCmp .other (.int i) .non = some (.bl true) := rfl
theorem o_isnN : oCmp .other .non .non = some (.bl false) := rfl
theorem comp_of {α : Type} {e : E} (A B : α → D) : ∀ (as : List α) (acc : List D), (∀ a ∈ as, e (.val (A a) :: env) M = some (.v (B a), M)) → acc.length + as.length < sizeLine → compL (sCon (.bl true)) e env (as.map A) acc M = some (acc ++ as.map B, M)
  | [], acc, _, _ => by simp [compL]
  | a :: as, acc, h, hl => by
    rw [List.length_cons] at hl
    have hr := comp_of A B as (acc ++ [B a]) (fun a' ha' => h a' (by simp [ha'])) (by rw [List.length_append, List.length_singleton]; omega)
    rw [List.map_cons]
    unfold compL
    rw [show sCon (.bl true) (.val (A a) :: env) M = some (.v (.bl true), M) from rfl]
    dsimp only
    rw [h a List.mem_cons_self]
    dsimp only
    rw [if_pos (by omega), hr]
    simp
def stepR (k : Nat) (t : S) (ds : List D) : OS → OS
 | some (.nx e, M1) => loopS k t ds e M1
 | some (.ct e, M1) => loopS k t ds e M1
 | some (.bk e, M1) => some (.nx e, M1)
 | some (.rt d, M1) => some (.rt d, M1)
 | some (.ex c n, M1) => some (.ex c n, M1)
 | none => none
theorem q_loop0 : loopS k t [] env M = some (.nx env, M) := rfl
theorem q_loop1 : loopS k t (d :: ds) env M = if k < env.length then stepR k t ds (t (env.set k (.val d)) M) else none := by
 unfold loopS stepR
 rfl
theorem r_stN {e' : Env} : stepR k t ds (some (.nx e', M)) = loopS k t ds e' M := rfl
theorem r_stC {e' : Env} : stepR k t ds (some (.ct e', M)) = loopS k t ds e' M := rfl
theorem r_stB {e' : Env} : stepR k t ds (some (.bk e', M)) = some (.nx e', M) := rfl
theorem r_stR : stepR k t ds (some (.rt d, M)) = some (.rt d, M) := rfl
theorem r_stX : stepR k t ds (some (.ex x i, M)) = some (.ex x i, M) := rfl
theorem atI_mapD {α β : Type} (F : α → β) (xs : List α) (i : Int) : atI (xs.map F) i = (atI xs i).map F := by
 unfold atI
 rw [List.length_map]
 cases ixN xs.length i <;> simp
theorem atI_nn {α : Type} {xs : List α} {i : Int} (d : α) (h0 : 0 ≤ i) (h1 : i < xs.length) : atI xs i = some (xs.getD i.toNat d) := by
 obtain ⟨k, rfl⟩ : ∃ k : Nat, i = k := ⟨i.toNat, by omega⟩
 have hk : k < xs.length := by omega
 exact atI_nat (by simp [hk])
theorem at0 {α : Type} {a : α} {xs : List α} : atI (a :: xs) 0 = some a := atI_nat (j := 0) rfl
theorem at1 {α : Type} {a b : α} {xs : List α} : atI (a :: b :: xs) 1 = some b := atI_nat (j := 1) rfl
theorem at2 {α : Type} {a b c : α} {xs : List α} : atI (a :: b :: c :: xs) 2 = some c := atI_nat (j := 2) rfl
theorem at3 {α : Type} {a b c d : α} {xs : List α} : atI (a :: b :: c :: d :: xs) 3 = some d := atI_nat (j := 3) rfl
theorem g_end {M : Mm} {cl : Cl} : (M ++ [cl])[M.length]? = some cl := List.getElem?_concat_length ..
theorem s_end {M : Mm} {cl cl' : Cl} : (M ++ [cl]).set M.length cl' = M ++ [cl'] := by simp
theorem w_end {M : Mm} : vw (M ++ [.lst ds]) (.ref M.length) = .lst ds := w_refL g_end
theorem cut_to {α : Type} (xs : List α) {i : Int} (h : 0 ≤ i) : cutL xs none (some i) = xs.take i.toNat := by
 obtain ⟨k, rfl⟩ : ∃ k : Nat, i = k := ⟨i.toNat, by omega⟩
 unfold cutL
 rw [HT.sIx_none, HT.sIx_nat, List.drop_zero, Nat.sub_zero, Int.toNat_natCast]
 by_cases hk : k ≤ xs.length
 ·rw [Nat.min_eq_left hk]
 ·rw [Nat.min_eq_right (by omega), List.take_length, List.take_of_length_le (by omega)]
theorem cut_m1 {α : Type} (xs : List α) (a : α) : cutL (xs ++ [a]) none (some (-1)) = xs := by
 unfold cutL
 rw [show HT.sIx (xs ++ [a]).length 0 none = 0 from rfl, show HT.sIx (xs ++ [a]).length (xs ++ [a]).length (some (-1)) = xs.length by simp only [HT.sIx]; simp; omega]
 simp
end
end E3
namespace L2
open PySem PySem.Spec PyProof.Rows
end L2
namespace E3
open PySem PySem.Spec PyProof.Rows L2
section
variable {X : Cx} {Wx : XW} {m : Mode} {pos : Pos}
end
section
variable {env : Env} {M : Mm} {ds : List D} {d : D} {i j k n : Nat} {t : S} {fa : EA} {x : Str}
end
end E3
namespace L2
open PySem PySem.Spec PyProof.Rows
end L2
namespace E3
open PySem PySem.Spec PyProof.Rows L2
section
variable {X : Cx} {Wx : XW} {m : Mode} {pos : Pos}
end
section
variable {env : Env} {M : Mm} {ds es : List D} {f : E} {fa : EA}
end
end E3
namespace L2
open PySem PySem.Spec PyProof.Rows
section
variable {X : Cx} {pos : Pos}
end
section
variable {X : Cx} {pins : List (Addr × Obj)} {σ : St} {H : Hp} {s : Shared} {a : Addr} {u u' : HO}
end
theorem KV.get {κ : Type} : ∀ {kvs : List (κ × V)} {vs : List (κ × Value)} {i : Nat} {p : κ × V}, KV kvs vs → kvs[i]? = some p → ∃ q, vs[i]? = some q ∧ RelV p.2 q.2 := by
  intro kvs vs i p r
  unfold KV at r
  induction r generalizing i with
  | nil => intro e; simp at e
  | cons h t ih =>
    intro e
    cases i with
    | zero => simp only [List.getElem?_cons_zero] at e; cases e; exact ⟨_, rfl, h.2⟩
    | succ n => simp only [List.getElem?_cons_succ] at e ⊢; exact ih e
section
variable {X : Cx} {tg : Expr}
end
end L2
namespace E3
open PySem PySem.Spec PyProof.Rows L2
section
variable {X : Cx} {Wx : XW} {m : Mode} {pos : Pos}
open Classical in
end
section
variable {X : Cx} {Wx : XW} {pos : Pos} {scope : Scope}
end
section
variable {f g h : E} {env : Env} {M M1 M2 M3 : Mm} {j k : Nat} {kvs kvs' : List (Key × D)} {y : Bool}
theorem d_new : sDct pNil env M = some (.v (.ref M.length), M ++ [.dct []]) := rfl
end
end E3
namespace E3
open PySem PySem.Spec PyProof.Rows L2
section
variable {X : Cx} {Wx : XW} {pos : Pos}
def loopE (is : List Nat) (body : S) : Nat → List D → Env → Mm → OS
  | _, [], env, M => some (.nx env, M)
  | n, d :: ds, env, M => match setE is [.int n, d] env with
    | some env1 => (match body env1 M with
      | some (.nx e, M1) => loopE is body (n + 1) ds e M1
      | some (.ct e, M1) => loopE is body (n + 1) ds e M1
      | some (.bk e, M1) => some (.nx e, M1)
      | some (.rt d, M1) => some (.rt d, M1)
      | some (.ex c n, M1) => some (.ex c n, M1)
      | none => none)
    | none => none
def sForE (is : List Nat) (fs : EA) (body : S) : S := fun env M => match fs env M with
 | some (.v [.lst ds], M1) => loopE is body 0 ds env M1
 | some (.x c n, M1) => some (.ex c n, M1)
 | _ => none
theorem ss_forE {ts : List Expr} {is : List Nat} {a : Expr} {body : List Stmt} {fs : EA} {b : S} {n : Nat} {p tp q : Pos} (hp : PassesOwn (model X.prog X.w) X.A X.env X.xe) (hc : X.calm = true) (hG : SG X ts is) (hg : Gl X "enumerate") (hm : X.mg "enumerate" = none) (ha : SA X Wx .val [a] fs) (hb : SB X Wx body b)
    (h2 : is.length = 2 := by rfl) (hn : (assignEach ts X.env).length = 2 := by rfl) (hst : (assignEach ts X.env).findIdx? (·.1) = none := by rfl) (hs : starEach [a] X.env = [(false, eval a X.env)] := by rfl)
    (hfs : ∀ x, foldedSetIterable (.Call (.Name "enumerate" p) [a] [] q) X.env x = pure x := by intro _; rfl) :
    SS X Wx (.For (.Tuple ts n tp) (.Call (.Name "enumerate" p) [a] [] q) body [] pos) (sForE is fs b) := by
  obtain ⟨t, hpg, ht⟩ := hG
  refine ps_imp (ps_for hp hc (pi_enumL hg hm ha hs) (pg_tup (n := 2) hc hpg hn hst) hb hfs) ?_
  rintro D st H ⟨P0, H0, P, Os, env, M, out, M', k, e, q⟩
  unfold sForE at e
  split at e
  · rename_i ds M1 ef
    refine ⟨P0, H0, P, Os, env, M, _, _, k, ef, fun P1 vs H1 l1 h1 i1 => ?_⟩
    obtain ⟨v, ws, rfl, i1, rfl⟩ := i1
    obtain ⟨a, us, rfl, ra, is1⟩ := i1
    refine ⟨a, us, rfl, ra.imp (·.2) id, ?_⟩
    have k1 := k.next l1 h1
    have q1 := q.lt (l1.lt k.hk)
    refine ⟨fun j m σ H => m = ds.length - j ∧ j ≤ ds.length ∧ ∃ P Os' M2 env', Lt P1 H1 P H ∧ Ok X.K X.mg P0 H0 P Os' H M2 σ env' ∧ loopE is b j (ds.drop j) env' M2 = some (out, M'), ⟨ds.length, by simp, Nat.zero_le _, P1, Os, M1, env, Lt.refl _ _, k1, e⟩, ?_⟩
    rintro j m σ H2 ⟨rfl, hj, P2, Os', M2, env', lt, k', h'⟩
    have ra2 := lt.rda ra
    have is2 := Iss.lt lt is1
    have sq : SqL X.K H2 a us := ra2.imp (·.2) id
    by_cases hlt : j < ds.length
    · obtain ⟨w, ew, iw⟩ := Iss.get is2 (List.getElem?_eq_getElem hlt)
      refine .inr ⟨⟨us, w, sq, ew⟩, fun σ' H' => ∃ P Os' M2 env', Lt P1 H1 P H' ∧ Ok X.K X.mg P0 H0 P Os' H' M2 σ' env' ∧ loopE is b (j + 1) (ds.drop (j + 1)) env' M2 = some (out, M'), fun σ' H' z => ⟨ds.length - (j + 1), by omega, rfl, hlt, z⟩, fun x H3 y => ?_⟩
      obtain ⟨pp, v, hpp, rfl, rfl, hv⟩ := y
      have hv' := hv us sq
      rw [ew] at hv'
      cases hv'
      rw [List.drop_eq_getElem_cons hlt] at h'
      simp only [loopE] at h'
      have sm : Same H2 (upd H2 pp (.tup [.int j, w])) := same_new hpp
      have l3 : LtE P2 H2 P2 (upd H2 pp (.tup [.int j, w])) := LtE.same sm
      have h3 := k'.hk.same sm
      have k3 := k'.next l3 h3
      have lt3 := lt.trans (l3.lt k'.hk)
      split at h'
      · rename_i env1 ee
        have isx : Iss X.K P2 (upd H2 pp (.tup [.int j, w])) [.int j, ds[j]] [.int j, w] := ⟨V.int j, [w], rfl, rfl, w, [], rfl, Is.lt (l3.lt k'.hk) iw, rfl⟩
        refine ⟨pp, [.int j, w], rfl, .inl (.inl upd_same), rfl, ht _ _ _ _ _ _ _ _ _ _ _ _ k3 isx ee fun Os2 st2 k4 => ?_⟩
        split at h'
        · rename_i e4 M4 eb
          exact ⟨P0, H0, P2, _, _, M2, _, _, k4, eb, fun P' Os2 H2 st2 l2 k5 => ⟨P', Os2, _, e4, lt3.trans l2, k5, h'⟩⟩
        · rename_i e4 M4 eb
          exact ⟨P0, H0, P2, _, _, M2, _, _, k4, eb, fun P' Os2 H2 st2 l2 k5 => ⟨P', Os2, _, e4, lt3.trans l2, k5, h'⟩⟩
        · rename_i e4 M4 eb
          cases h'
          exact ⟨P0, H0, P2, _, _, M2, _, _, k4, eb, fun P' Os2 H2 st2 l2 k5 => q1 P' Os2 H2 st2 (lt3.trans l2) k5⟩
        · rename_i d4 M4 eb
          cases h'
          exact ⟨P0, H0, P2, _, _, M2, _, _, k4, eb, q1⟩
        · rename_i c4 n4 M4 eb
          cases h'
          exact ⟨P0, H0, P2, _, _, M2, _, _, k4, eb, q1⟩
        · cases h'
      · cases h'
    · have ej : j = ds.length := by omega
      subst ej
      rw [List.drop_length] at h'
      cases h'
      exact .inl ⟨⟨us, sq, is2.len⟩, q1 P2 Os' H2 σ lt k'⟩
  · rename_i c n M1 ef
    cases e
    exact ⟨P0, H0, P, Os, env, M, _, _, k, ef, q⟩
  · cases e
end
section
variable {X : Cx} {Wx : XW} {pos : Pos}
def tupE (is : List Nat) (d : D) (env : Env) : Option Env := match d with
 | .tup es => if es.length = is.length then setE is es env else none
 | _ => none
def loopU (is : List Nat) (body : S) : List D → Env → Mm → OS
  | [], env, M => some (.nx env, M)
  | d :: ds, env, M => match tupE is d env with
    | some env1 => (match body env1 M with
      | some (.nx e, M1) => loopU is body ds e M1
      | some (.ct e, M1) => loopU is body ds e M1
      | some (.bk e, M1) => some (.nx e, M1)
      | some (.rt d, M1) => some (.rt d, M1)
      | some (.ex c n, M1) => some (.ex c n, M1)
      | none => none)
    | none => none
def sForU (is : List Nat) (fs : EA) (body : S) : S := fun env M => match fs env M with
 | some (.v ds, M1) => loopU is body ds env M1
 | some (.x c n, M1) => some (.ex c n, M1)
 | none => none
theorem ss_forU {ts : List Expr} {is : List Nat} {iter : Expr} {body : List Stmt} {fs : EA} {b : S} {n : Nat} {tp : Pos} (hp : PassesOwn (model X.prog X.w) X.A X.env X.xe) (hc : X.calm = true) (hG : SG X ts is) (hI : SI X Wx (.Tuple ts n tp) iter fs) (hb : SB X Wx body b)
    (hn : (assignEach ts X.env).length = is.length := by rfl) (hst : (assignEach ts X.env).findIdx? (·.1) = none := by rfl)
    (hfs : ∀ x, foldedSetIterable iter X.env x = pure x := by intro _; rfl) : SS X Wx (.For (.Tuple ts n tp) iter body [] pos) (sForU is fs b) := by
  obtain ⟨t, hpg, ht⟩ := hG
  refine ps_imp (ps_for hp hc hI (pg_tup (n := is.length) hc hpg hn hst) hb hfs) ?_
  rintro D st H ⟨P0, H0, P, Os, env, M, out, M', k, e, q⟩
  unfold sForU at e
  split at e
  · rename_i ds M1 ef
    refine ⟨P0, H0, P, Os, env, M, _, _, k, ef, fun P1 H1 J l1 h1 wk => ?_⟩
    have k1 := k.next l1 h1
    have q1 := q.lt (l1.lt k.hk)
    refine ⟨fun j m σ H => m = ds.length - j ∧ j ≤ ds.length ∧ ∃ P Os' M2 env', Lt P1 H1 P H ∧ Ok X.K X.mg P0 H0 P Os' H M2 σ env' ∧ loopU is b (ds.drop j) env' M2 = some (out, M'), ⟨ds.length, by simp, Nat.zero_le _, P1, Os, M1, env, Lt.refl _ _, k1, e⟩, ?_⟩
    rintro j m σ H2 ⟨rfl, hj, P2, Os', M2, env', lt, k', h'⟩
    obtain ⟨w1, w2, w3⟩ := wk P2 H2 lt
    by_cases hlt : j < ds.length
    · refine .inr ⟨w1 j hlt, fun σ' H' => ∃ P Os' M2 env', Lt P1 H1 P H' ∧ Ok X.K X.mg P0 H0 P Os' H' M2 σ' env' ∧ loopU is b (ds.drop (j + 1)) env' M2 = some (out, M'), fun σ' H' z => ⟨ds.length - (j + 1), by omega, rfl, hlt, z⟩, fun x H3 y => ?_⟩
      obtain ⟨e3, d, ed, iv⟩ := w3 j x H3 y hlt
      subst e3
      have ed' : ds.drop j = d :: ds.drop (j + 1) := by
        rw [List.drop_eq_getElem_cons hlt]
        rw [List.getElem?_eq_getElem hlt] at ed
        rw [Option.some.inj ed]
      rw [ed'] at h'
      simp only [loopU] at h'
      split at h'
      · rename_i env1 ee
        unfold tupE at ee
        split at ee
        · rename_i es
          split at ee
          · rename_i hl
            obtain ⟨a, vs, rfl, sq, is'⟩ := iv
            refine ⟨a, vs, rfl, sq, by rw [is'.len]; exact hl, ht _ _ _ _ _ _ _ _ _ _ _ _ k' is' ee fun Os2 st2 k4 => ?_⟩
            split at h'
            · rename_i e4 M4 eb
              exact ⟨P0, H0, P2, _, _, M2, _, _, k4, eb, fun P' Os2 H2 st2 l2 k5 => ⟨P', Os2, _, e4, lt.trans l2, k5, h'⟩⟩
            · rename_i e4 M4 eb
              exact ⟨P0, H0, P2, _, _, M2, _, _, k4, eb, fun P' Os2 H2 st2 l2 k5 => ⟨P', Os2, _, e4, lt.trans l2, k5, h'⟩⟩
            · rename_i e4 M4 eb
              cases h'
              exact ⟨P0, H0, P2, _, _, M2, _, _, k4, eb, fun P' Os2 H2 st2 l2 k5 => q1 P' Os2 H2 st2 (lt.trans l2) k5⟩
            · rename_i d4 M4 eb
              cases h'
              exact ⟨P0, H0, P2, _, _, M2, _, _, k4, eb, q1⟩
            · rename_i c4 n4 M4 eb
              cases h'
              exact ⟨P0, H0, P2, _, _, M2, _, _, k4, eb, q1⟩
            · cases h'
          · cases ee
        · cases ee
      · cases h'
    · have ej : j = ds.length := by omega
      subst ej
      rw [List.drop_length] at h'
      cases h'
      exact .inl ⟨w2 _ (Nat.le_refl _) (Nat.le_refl _), q1 P2 Os' H2 σ lt k'⟩
  · rename_i c n M1 ef
    cases e
    exact ⟨P0, H0, P, Os, env, M, _, _, k, ef, q⟩
  · cases e
end
section
variable {X : Cx} {Wx : XW} {pos : Pos}
def sForZ (is : List Nat) (fs : EA) (body : S) : S := fun env M => match fs env M with
 | some (.v [.lst ds, .tup es], M1) => loopU is body ((ds.zip es).map fun p => .tup [p.1, p.2]) env M1
 | some (.x c n, M1) => some (.ex c n, M1)
 | _ => none
theorem ss_forZ {ts : List Expr} {is : List Nat} {a a2 : Expr} {body : List Stmt} {fs : EA} {b : S} {n : Nat} {p tp q : Pos} (hp : PassesOwn (model X.prog X.w) X.A X.env X.xe) (hc : X.calm = true) (hG : SG X ts is) (hg : Gl X "zip") (hm : X.mg "zip" = none) (ha : SA X Wx .val [a, a2] fs) (hb : SB X Wx body b)
    (hn : (assignEach ts X.env).length = 2 := by rfl) (hst : (assignEach ts X.env).findIdx? (·.1) = none := by rfl) (hs : starEach [a, a2] X.env = (false, eval a X.env) :: starEach [a2] X.env := by rfl) (hpl : (backTo q (starEach [a2] X.env)).any (·.1) = false := by rfl)
    (hfs : ∀ x, foldedSetIterable (.Call (.Name "zip" p) [a, a2] [] q) X.env x = pure x := by intro _; rfl) :
    SS X Wx (.For (.Tuple ts n tp) (.Call (.Name "zip" p) [a, a2] [] q) body [] pos) (sForZ is fs b) := by
  obtain ⟨t, hpg, ht⟩ := hG
  refine ps_imp (ps_for hp hc (pi_zip hg hm ha hs hpl) (pg_tup (n := 2) hc hpg hn hst) hb hfs) ?_
  rintro D st H ⟨P0, H0, P, Os, env, M, out, M', k, e, q⟩
  unfold sForZ at e
  split at e
  · rename_i ds es M1 ef
    refine ⟨P0, H0, P, Os, env, M, _, _, k, ef, fun P1 vs H1 l1 h1 i1 => ?_⟩
    obtain ⟨v, ws, rfl, i1, v2, ws2, rfl, i2, rfl⟩ := i1
    obtain ⟨a, us, rfl, ra, is1⟩ := i1
    obtain ⟨a2, us2, rfl, rt, is2⟩ := i2
    refine ⟨a, a2, us, us2, rfl, ra.imp (·.2) id, rt, ?_⟩
    have k1 := k.next l1 h1
    have q1 := q.lt (l1.lt k.hk)
    generalize hz : ((ds.zip es).map fun p => E3.D.tup [p.1, p.2]) = zs at e
    have zl : zs.length = min ds.length es.length := by rw [← hz, List.length_map, List.length_zip]
    refine ⟨fun j m σ H => m = zs.length - j ∧ j ≤ zs.length ∧ ∃ P Os' M2 env', Lt P1 H1 P H ∧ Ok X.K X.mg P0 H0 P Os' H M2 σ env' ∧ loopU is b (zs.drop j) env' M2 = some (out, M'), ⟨zs.length, by simp, Nat.zero_le _, P1, Os, M1, env, Lt.refl _ _, k1, e⟩, ?_⟩
    rintro j m σ H2 ⟨rfl, hj, P2, Os', M2, env', lt, k', h'⟩
    have ra2 := lt.rda ra
    have rt2 := lt.tup rt
    have iA := Iss.lt lt is1
    have iB := Iss.lt lt is2
    have sq : SqL X.K H2 a us := ra2.imp (·.2) id
    by_cases hlt : j < zs.length
    · have h1' : j < ds.length := by omega
      have h2' : j < es.length := by omega
      obtain ⟨w, ew, iw⟩ := Iss.get iA (List.getElem?_eq_getElem h1')
      obtain ⟨w2, ew2, iw2⟩ := Iss.get iB (List.getElem?_eq_getElem h2')
      refine .inr ⟨⟨us, us2, w, w2, sq, rt2, ew, ew2⟩, fun σ' H' => ∃ P Os' M2 env', Lt P1 H1 P H' ∧ Ok X.K X.mg P0 H0 P Os' H' M2 σ' env' ∧ loopU is b (zs.drop (j + 1)) env' M2 = some (out, M'), fun σ' H' z => ⟨zs.length - (j + 1), by omega, rfl, hlt, z⟩, fun x H3 y => ?_⟩
      obtain ⟨pp, v, v2, hpp, rfl, rfl, hv, hv2⟩ := y
      have hv' := hv us sq
      rw [ew] at hv'
      cases hv'
      have hv2' := hv2 us2 rt2
      rw [ew2] at hv2'
      cases hv2'
      have ez : zs[j] = E3.D.tup [ds[j], es[j]] := by simp only [← hz, List.getElem_map, List.getElem_zip]
      rw [List.drop_eq_getElem_cons hlt, ez] at h'
      simp only [loopU] at h'
      have sm : Same H2 (upd H2 pp (.tup [w, w2])) := same_new hpp
      have l3 : LtE P2 H2 P2 (upd H2 pp (.tup [w, w2])) := LtE.same sm
      have h3 := k'.hk.same sm
      have k3 := k'.next l3 h3
      have lt3 := lt.trans (l3.lt k'.hk)
      split at h'
      · rename_i env1 ee
        unfold tupE at ee
        dsimp only at ee
        split at ee
        · have isx : Iss X.K P2 (upd H2 pp (.tup [w, w2])) [ds[j], es[j]] [w, w2] := ⟨w, [w2], rfl, Is.lt (l3.lt k'.hk) iw, w2, [], rfl, Is.lt (l3.lt k'.hk) iw2, rfl⟩
          refine ⟨pp, [w, w2], rfl, .inl (.inl upd_same), rfl, ht _ _ _ _ _ _ _ _ _ _ _ _ k3 isx ee fun Os2 st2 k4 => ?_⟩
          split at h'
          · rename_i e4 M4 eb
            exact ⟨P0, H0, P2, _, _, M2, _, _, k4, eb, fun P' Os2 H2 st2 l2 k5 => ⟨P', Os2, _, e4, lt3.trans l2, k5, h'⟩⟩
          · rename_i e4 M4 eb
            exact ⟨P0, H0, P2, _, _, M2, _, _, k4, eb, fun P' Os2 H2 st2 l2 k5 => ⟨P', Os2, _, e4, lt3.trans l2, k5, h'⟩⟩
          · rename_i e4 M4 eb
            cases h'
            exact ⟨P0, H0, P2, _, _, M2, _, _, k4, eb, fun P' Os2 H2 st2 l2 k5 => q1 P' Os2 H2 st2 (lt3.trans l2) k5⟩
          · rename_i d4 M4 eb
            cases h'
            exact ⟨P0, H0, P2, _, _, M2, _, _, k4, eb, q1⟩
          · rename_i c4 n4 M4 eb
            cases h'
            exact ⟨P0, H0, P2, _, _, M2, _, _, k4, eb, q1⟩
          · cases h'
        · cases ee
      · cases h'
    · have ej : j = zs.length := by omega
      subst ej
      rw [List.drop_length] at h'
      cases h'
      refine .inl ⟨⟨us, us2, sq, rt2, ?_⟩, q1 P2 Os' H2 σ lt k'⟩
      have la := iA.len
      have lb := iB.len
      by_cases z : ds.length ≤ es.length
      · exact .inl (List.getElem?_eq_none (by omega))
      · exact .inr (List.getElem?_eq_none (by omega))
  · rename_i c n M1 ef
    cases e
    exact ⟨P0, H0, P, Os, env, M, _, _, k, ef, q⟩
  · cases e
end
end E3
namespace E3
open PySem PySem.Spec PyProof.Rows L2
theorem FunD.ok {P : Program} {w : World} {K : PySem.W.Frag} {mg : Str → Option Value} {base : Heap} {x qual : Str} {st : Stmt} {f : Addr} {fd : FuncData} {N ps : List Str} {k : Nat} {sp : Sp} (F : FunD K x qual st f fd) (S : FnScope N ps (defScope st)) (len : ∀ vs H Q E, sp vs H Q E → vs.length = ps.length)
  (hbody : ∀ (cdv : Value) (A : Around) (outer : List PySem.Env) (s : Shared) (H : Hp) (vs : List V) (Q : VK) (E : XK), Room k (A.deeper (envOfC qual (defScope st) s.heap.objs.size f cdv)) → sp vs H Q E →
   ∃ t, PSs (cxOf CX0 P w K mg base N qual (defScope st) f cdv A outer s H E).nox (defBody st) t ∧ t { nx := fun _ H' => Q .non H', rt := Q } (start N vs) H) : FnOk P w K mg base CX0 (k + 1) f fd ps sp := by
 obtain ⟨oc, od, dV, kV, doc, pm, an, cdv, ct, osl, rfl, lk, hcd⟩ := F.ex
 refine fn_of lk hcd S len fun A outer s H vs Q E hr hsp => ?_
 obtain ⟨t, h, q⟩ := hbody cdv A outer s H vs Q E hr hsp
 exact ⟨t, h.nox, q⟩
section
variable {X : Cx} {Wx : XW} {pos : Pos}
end
end E3
namespace E3
open PySem PySem.Spec PyProof.Rows L2
section
variable {X : Cx} {Wx : XW} {pos : Pos}
end
end E3
namespace E3
open PySem PySem.Spec PyProof.Rows L2
section
variable {X : Cx} {Wx : XW} {m : Mode} {pos : Pos} {K : PySem.W.Frag}
end
section
variable {env : Env} {M : Mm} {f g : E} {d : D} {i : Int} {ds es : List D} {fa : EA} {x : Str} {k : Nat}
end
end E3
namespace L2
open PySem PySem.Spec PyProof.Rows
theorem ext_W (l b : Addr) (as bs : Array Value) (n n2 : Nat) (dd2 : Option Addr) (sl2 : Array (Option Value)) (h0 : ¬(!as.isEmpty && Builtin.List.listTooLong (as.size + bs.size)) = true) (h1 : as.size ≤ sizeLine) (h2 : as.size + bs.size ≤ sizeLine + 1) :
  Meets (Builtin.«list.extend» ⟨[.ref l, .ref b], []⟩) (fun _ R s => s.heap.get? l = some { cls := .type "list", data := .seq as n } ∧ s.heap.get? b = some ⟨.type "list", dd2, .seq bs n2, sl2⟩ ∧ R (.ok (.ret Value.none)) { s with heap := s.heap.update l (Obj.mapSeq fun x => x ++ bs) }) :=
 .of_wp fun prog w A R s h => by
  obtain ⟨hp, g, d, tk, os⟩ := s
  obtain ⟨hl, hb, h⟩ := h
  have f1 := AutoSeq1.idx_int
  have f2 := AutoSeq1.sub_tuple_tuple
  have f3 := AutoSeq1.sub_list_list
  have f4 := AutoSeq1.sub_tuple_list
  have f5 := AutoSeq1.sub_list_tuple
  have hz : (as ++ bs).size ≤ sizeLine + 1 := by rw [Array.size_append]; omega
  wp_walk using (wpAny_updateSeq hl rfl (hz := h1) (_hz' := hz)), AutoSeq1.wpAny_loadPart' hl, AutoSeq1.wpAny_loadPart' hb
  exact ⟨_, rfl, h⟩
section
variable {X : Cx}
def rExtR (K : PySem.W.Frag) : V → List V → Hp → VK → Prop := fun x vs H Q => ∃ l b xs zs, x = .ref l ∧ vs = [.ref b] ∧ H l = some (.lst xs) ∧ SqL K H b zs ∧ xs.length + zs.length ≤ sizeLine ∧ Q .non (upd H l (.lst (xs ++ zs)))
theorem mt_extR : MtM X "list.extend" (rExtR X.K) := by
 intro pins s σ H x vs v us Q I rx rv h
 obtain ⟨l, b, xs, zs, rfl, rfl, hH, hB, hz, q⟩ := h
 cases rx
 obtain ⟨u, rfl, ru⟩ := rv.one
 cases ru
 obtain ⟨z, its, n, r, hl, e⟩ := I.lstM hH
 obtain ⟨z2, its2, r2, ⟨cls2, dd2, data2, sl2⟩, ho2, hc2, n2, hd2⟩ := E3.sql I hB
 simp only at hc2 hd2
 subst hc2 hd2
 have hl2 := r2.length
 have hsz : its.toArray.size + its2.toArray.size ≤ sizeLine := by rw [List.size_toArray, List.size_toArray]; omega
 refine call_meets F.slot_list_extend ⟨_, e, rfl⟩ F.entry_list_extend (F.args_list_extend_2 _ _) (ext_W l b its.toArray its2.toArray n n2 dd2 sl2 (extend_door hsz) (by rw [List.size_toArray]; omega) (by omega)) ⟨e, ho2, ?_⟩
 refine ⟨.non, _, I.lset (its' := its ++ its2) hH e (by simp) (r.append r2) ?_, rfl, q⟩
 rw [List.length_append]
 omega
theorem call_int_bl : CallR X (.type "int") (fun xs H Q => ∃ b, xs = [.bl b] ∧ Q (.int (if b then 1 else 0)) H) := by
 intro pins s σ H xs us Q I r h
 obtain ⟨b, rfl, q⟩ := h
 obtain ⟨u, rfl, rfl⟩ := vals1 r
 exact PySem.call_int_1 (PySem.meets_int_new_bool b) (show (PySem.Made.int _).post _ s from ⟨rfl, ⟨.int _, H, I.tok _, ⟨_, rfl⟩, q⟩⟩)
theorem call_maxL : X.calm = true → CallR X (.builtin "max") (fun xs H Q => ∃ (p : Addr) (is : List Int), xs = [.ref p] ∧ 0 < is.length ∧ SqL X.K H p (is.map V.int) ∧ ∀ m, m ∈ is → (∀ a ∈ is, a ≤ m) → Q (.int m) H) := by
 intro hc pins s σ H xs us Q I r h
 obtain ⟨p, is, rfl, hne, hq, q⟩ := h
 obtain ⟨u, rfl, rx⟩ := vals1 r
 cases rx
 obtain ⟨its, rv, pl, hz⟩ := I.list hq
 have hi := intsAreV rv
 have hn := hi.numsOf
 have hlen := rv.length
 rw [List.length_map] at hlen
 obtain ⟨zs, hzs⟩ := hi.allInts.items
 have hl := pl.isList
 have e1 : numsOf its.toArray.toList = is := hn
 rw [hzs] at hl e1
 have hs : 0 < zs.size := by
  have : its.toArray.size = zs.size := by rw [hzs]; simp [intItems]
  rw [List.size_toArray] at this
  omega
 rw [nums_intItems] at e1
 refine max_intList (I.ok.hd hc) hl hs fun v h' tk hv hk => ?_
 obtain ⟨t, rfl⟩ := intItems_at hv
 obtain ⟨h1, h2⟩ := argBest_gt (numAt zs) (zs.size - 1)
 refine ⟨.int _, H, I.kept hk, ⟨t, rfl⟩, q _ ?_ fun a ha => ?_⟩
 ·rw [← e1, numAt_eq]; exact getD_mem (by rw [List.length_map, Array.length_toList]; omega)
 ·rw [← e1] at ha
  obtain ⟨j, hj, rfl⟩ := mem_getD ha
  rw [List.length_map, Array.length_toList] at hj
  rw [← numAt_eq]; exact h2 j (by omega)
end
end L2
namespace E3
open PySem PySem.Spec PyProof.Rows L2
section
variable {X : Cx} {Wx : XW} {pos : Pos}
def sExt (i : Nat) (f : E) : S := fun env M => match env[i]? with
  | some (.own ds) => bndS (f env M) fun d M1 => match d with
    | .lst es => if ds.length + es.length ≤ sizeLine then some (.nx (env.set i (.own (ds ++ es))), M1) else none
    | _ => none
  | _ => none
theorem ss_ext {i : Nat} {x : Str} {e : Expr} {f : E} {p0 p q : Pos} (hN : X.N[i]? = some x) (hv : Vis X.env.scope x) (he : SE X Wx .val e f) (hd : (x == ("__debug__" : Str)) = false := by decide +kernel) (hcd : (x == ("__classdict__" : Str)) = false := by decide +kernel)
    (hfew : ((backTo q (starEach [e] X.env)).all (fun x => !x.1) && (backToKw q (keywordEach [] X.env)).all (fun x => x.1.isSome) && decide ([e].length + ([] : List Keyword).length + (if ([] : List Keyword).isEmpty then 0 else 1) < 30)) = true := by rfl)
    (hline : (p.endLine == q.line) = true := by rfl) (hs : starEach [e] X.env = (false, eval e X.env) :: starEach [] X.env := by rfl) (hw : swapsWith (.Call (.Attribute (.Name x p0) "extend" p) [e] [] q) none pos.line X.env = pure false := by rfl) :
    SS X Wx (.Expr (.Call (.Attribute (.Name x p0) "extend" p) [e] [] q) pos) (sExt i f) := by
  refine ps_imp (ps_expr (pe_bm PySem.F.plainAttrs_list PySem.F.slot_list_extend PySem.F.type_list_extend mt_extR (pe_var hN hv hd hcd) (pa_cons he pa_nil hs) rfl hfew hline hs rfl) hw) ?_
  rintro D st H ⟨P0, H0, P, Os, env, M, out, M', k, e, q⟩
  unfold sExt at e
  split at e
  · rename_i ds es
    obtain ⟨a, vs, o1, o2, o3, o4⟩ := k.slot i _ es
    refine ⟨.ref a, join_get o2, .inl ⟨rfl, vs, .inl (.inl o3)⟩, ?_⟩
    rcases bndS_inv e with ⟨d, M1, e1, e⟩ | ⟨c, n, e1, rfl⟩
    · split at e
      · rename_i zs
        split at e
        · rename_i hz
          cases e
          refine tE_go k e1 fun P1 v1 H1 l1 h1 i1 => ?_
          have k1 := k.next l1 h1
          obtain ⟨a', vs', o1', o2', o3', o4'⟩ := k1.slot i _ es
          have ea : a' = a := by
            have z := o2'.symm.trans o2
            cases z
            rfl
          subst ea
          obtain ⟨b, ws, rfl, r, is⟩ := i1
          refine ⟨a', b, vs', ws, rfl, rfl, o3', r.imp (fun z => z.2) id, by rw [o4'.len, is.len]; exact hz, ?_⟩
          obtain ⟨l2, k2⟩ := k1.chg es (join_get o1') o3' (Iss.append o4' is)
          exact q _ _ _ _ ((l1.lt k.hk).trans l2) k2
        · cases e
      · cases e
    · exact tE_go k e1 q
  · cases e
def bIntB : List D → Option D
 | [.bl b] => some (.int (if b then 1 else 0))
 | _ => none
theorem pu_intB {K : PySem.W.Frag} : PureN K (fun xs H Q => ∃ b, xs = [.bl b] ∧ Q (.int (if b then 1 else 0)) H) bIntB := fun P H ds z vs Q h i _ q => by
 unfold bIntB at h
 split at h
 ·cases h
  obtain ⟨v, ws, rfl, p, rfl⟩ := i
  cases p
  exact ⟨_, rfl, q _ H (Same.refl H) rfl⟩
 ·cases h
def topI : List Int → Int
 | [] => 0
 | [a] => a
 | a :: b :: r => max a (topI (b :: r))
theorem topI_ok : ∀ {is : List Int} {m : Int}, m ∈ is → (∀ a ∈ is, a ≤ m) → topI is = m
  | [], _, h, _ => by cases h
  | [a], m, h, _ => by rw [List.mem_singleton] at h; exact h.symm
  | a :: b :: r, m, h, g => by
    have ha := g a (List.mem_cons_self ..)
    unfold topI
    rcases List.mem_cons.mp h with rfl | h
    · have : topI (b :: r) ≤ m := by
        have hb : ∀ (l : List Int), l ≠ [] → (∀ a ∈ l, a ≤ m) → topI l ≤ m := fun l => by
          induction l with
          | nil => exact fun z => absurd rfl z
          | cons c l ih =>
            intro _ g
            cases l with
            | nil => exact g c (by simp)
            | cons d l =>
              have h1 := g c (by simp)
              have h2 := ih (by simp) fun a ha => g a (List.mem_cons_of_mem _ ha)
              unfold topI
              omega
        exact hb (b :: r) (by simp) fun a ha => g a (List.mem_cons_of_mem _ ha)
      omega
    · have := topI_ok h fun a ha => g a (List.mem_cons_of_mem _ ha)
      omega
def bMaxL : List D → Option D
  | [.lst ds] => match intsD ds with
    | some is => if 0 < is.length then some (.int (topI is)) else none
    | none => none
  | _ => none
theorem pu_maxL {K : PySem.W.Frag} : PureN K (fun xs H Q => ∃ (p : Addr) (is : List Int), xs = [.ref p] ∧ 0 < is.length ∧ SqL K H p (is.map V.int) ∧ ∀ m, m ∈ is → (∀ a ∈ is, a ≤ m) → Q (.int m) H) bMaxL := fun P H ds z vs Q h i _ q => by
 unfold bMaxL at h
 split at h
 ·split at h
  ·rename_i is ei
   split at h
   ·rename_i hl
    cases h
    obtain ⟨v, ws, rfl, p, rfl⟩ := i
    obtain ⟨a, us, rfl, r, s⟩ := p
    have eu := ints_is ei s
    subst eu
    exact ⟨a, is, rfl, hl, r, fun m h1 h2 => by rw [← topI_ok h1 h2]; exact q _ H (Same.refl H) rfl⟩
   ·cases h
  ·cases h
 ·cases h
end
section
variable {env : Env} {M : Mm} {f : E} {ds es : List D} {b : Bool} {k : Nat}
theorem q_ext (h : env[k]? = some (.own ds)) (h1 : f env M = some (.v (.lst es), M)) (hl : ds.length + es.length ≤ 1000000) : sExt k f env M = some (.nx (env.set k (.own (ds ++ es))), M) := by
 simp only [sExt, h, bndS, h1]
 rw [if_pos (by rw [sizeLine_eq]; omega)]
theorem o_intB : bIntB [.bl b] = some (.int (if b then 1 else 0)) := rfl
end
end E3
namespace E3
open PySem PySem.Spec PyProof.Rows L2
section
variable {X : Cx} {Wx : XW} {m : Mode} {pos : Pos}
def WkB (K : PySem.W.Frag) (P1 : Pl) (H1 : Hp) (J : It) (ds : List D) : Prop := ∀ P H, LtE P1 H1 P H → (∀ k, k < ds.length → J.go k H) ∧ (∀ k, ds.length ≤ k → k ≤ ds.length → J.stop k H) ∧ ∀ k x H', J.yld k H x H' → k < ds.length → H' = H ∧ ∃ d, ds[k]? = some d ∧ Is K P H d x
def IQB (K : PySem.W.Frag) (mg : Str → Option Value) (Wx : XW) (P0 : Pl) (H0 : Hp) (P : Pl) (H : Hp) (M' : Mm) (R : It → Hp → Prop) : ResA → Prop
 | .v ds => ∀ P' H' J, LtE P H P' H' → Hk K mg P' H' M' → WkB K P' H' J ds → R J H'
 | .x c n => Wx P0 H0 M' c n
def tIB (K : PySem.W.Frag) (mg : Str → Option Value) (Wx : XW) (fs : EA) : TI := fun st H R => ∃ P0 H0 P Os env M r M', Ok K mg P0 H0 P Os H M st env ∧ fs env M = some (r, M') ∧ IQB K mg Wx P0 H0 P H M' R r
def SIB (X : Cx) (Wx : XW) (tg iter : Expr) (fs : EA) : Prop := PI X tg iter (tIB X.K X.mg Wx fs)
theorem si_lstB {tg e : Expr} {f : E} (h : SE X Wx .bor e f) : SIB X Wx tg e (iLst f) := by
 refine pi_imp (pi_list h) ?_
 rintro st H R ⟨P0, H0, P, Os, env, M, r, M', k, e, q⟩
 unfold iLst at e
 split at e
 ·rename_i ds M1 ef
  cases e
  refine ⟨P0, H0, P, Os, env, M, _, _, k, ef, fun P1 v1 H1 l1 h1 i1 => ?_⟩
  have i1' : IsB X.K P1 H1 (.lst ds) v1 := i1
  obtain ⟨a, vs, rfl, ra, is⟩ := i1'
  refine ⟨a, rfl, ⟨vs, sqlOf ra⟩, q P1 H1 _ l1 h1 fun P2 H2 l2 => ?_⟩
  obtain ⟨a', vs', ea, ra2, is2⟩ := (IsB.lt (d := .lst ds) l2 h1 i1 : IsB X.K P2 H2 (.lst ds) (.ref a))
  cases ea
  have sq := sqlOf ra2
  refine ⟨fun j hj => ?_, fun j h1 h2 => ⟨vs', sq, by rw [is2.len]; exact h1⟩, fun j x H' y hj => ⟨y.1, ?_⟩⟩
  ·obtain ⟨v, ev, _⟩ := Iss.get is2 (List.getElem?_eq_getElem hj)
   exact ⟨vs', v, sq, ev⟩
  ·obtain ⟨v, ev, iv⟩ := Iss.get is2 (List.getElem?_eq_getElem hj)
   have := y.2 vs' sq
   rw [ev] at this
   cases this
   exact ⟨_, List.getElem?_eq_getElem hj, iv⟩
 ·rename_i c n M1 ef
  cases e
  exact ⟨P0, H0, P, Os, env, M, _, _, k, ef, q⟩
 ·cases e
theorem comp_readB {K : PySem.W.Frag} {mg : Str → Option Value} {cs : List (Str × Nat)} {fs : EA} {q e : E} {P0 P : Pl} {H0 H : Hp} {Os : List (Option Addr)} {M M' : Mm} {st : L2.St} {env : Env} {r : Res} {R : Addr → Hp → Prop} (nd : (cs.map (·.2)).Nodup)
    (k : Ok K mg P0 H0 P Os H M st env) (h : sComp cs fs q e env M = some (r, M')) (w : NR K mg Wx P0 H0 P H M' R r) : tCompR (tIB K mg Wx fs) (tTt K mg W0 q) (tE K mg W0 .val e) cs st H R := by
  unfold sComp at h
  split at h
  · rename_i ds M1 ef
    split at h
    rotate_left
    · cases h
    rename_i ys M2 ec
    cases h
    obtain ⟨ds', e', w⟩ := w
    cases e'
    refine ⟨P0, H0, P, Os, env, M, _, _, k, ef, fun P1 H1 J l1 h1 wk D hD => ?_⟩
    obtain ⟨l2, h2, nc⟩ := bar_new (vs := []) h1 hD
    refine ⟨fun i m vs H2 => m = ds.length - i ∧ i ≤ ds.length ∧ ∃ P2 M3 acc, LtE P1 H1 P2 H2 ∧ Hk K mg P2 H2 M3 ∧ P2.bd D ∧ (∀ k, k < P2.n → P2.io k ≠ D) ∧ H2 D = some (.lst vs) ∧ Iss K P2 H2 acc vs ∧ acc.length < sizeLine ∧ compL q e (capE cs env) (ds.drop i) acc M3 = some (ys, M'),
      ⟨ds.length, by simp, Nat.zero_le _, P1.bar D, M1, [], l2, h2, .inr rfl, nc, upd_same, rfl, by decide +kernel, by rw [List.drop_zero]; exact ec⟩, ?_⟩
    rintro i m vs H2 ⟨rfl, hi, P2, M3, acc, l3, h3, bD, nD, eD, is, hz, ec⟩
    refine ⟨eD, ?_⟩
    obtain ⟨w1, w2, w3⟩ := wk P2 H2 l3
    by_cases hlt : i < ds.length
    · refine .inr ⟨w1 i hlt, by rw [is.len]; exact hz, fun vs' H' => ∃ P2 M3 acc, LtE P1 H1 P2 H' ∧ Hk K mg P2 H' M3 ∧ P2.bd D ∧ (∀ k, k < P2.n → P2.io k ≠ D) ∧ H' D = some (.lst vs') ∧ Iss K P2 H' acc vs' ∧ acc.length < sizeLine ∧ compL q e (capE cs env) (ds.drop (i + 1)) acc M3 = some (ys, M'),
        fun vs' H' z => ⟨ds.length - (i + 1), by omega, rfl, hlt, z⟩, fun x H' y => ?_⟩
      obtain ⟨e3, d, ed, iv⟩ := w3 i x H' y hlt
      subst e3
      have ed' : ds.drop i = d :: ds.drop (i + 1) := by
        rw [List.drop_eq_getElem_cons hlt]
        rw [List.getElem?_eq_getElem hlt] at ed
        rw [Option.some.inj ed]
      rw [ed'] at ec
      have kk := ((k.next l1 h1).next l3 h3).cap (cs := cs) nd iv
      simp only [compL] at ec
      split at ec
      · rename_i M4 eq
        refine tTt_go kk eq ⟨true, rfl, fun P4 H4 l4 h4 => ?_⟩
        dsimp only
        rw [if_pos rfl]
        split at ec
        · rename_i y' M5 ee
          split at ec
          · rename_i hz'
            refine tE_go (kk.next l4 h4) ee fun P5 v5 H5 l5 h5 i5 => ?_
            have l45 := l4.trans l5
            have eD5 : H5 D = some (.lst vs) := l45.keep D _ eD nD
            have nD5 : ∀ k, k < P5.n → P5.io k ≠ D := l45.nc eD nD
            obtain ⟨g1, g2, g3⟩ := grow_ok (vs' := vs ++ [v5]) (l3.trans l45) h5 hD (l45.bm D bD) nD5 eD5
            refine ⟨eD5, P5, M5, acc ++ [y'], g2, g3, l45.bm D bD, nD5, upd_same, Iss.append (Iss.lt ((l45.lt h3).trans g1) is) (Iss.one (Is.lt g1 i5)), by rw [List.length_append]; exact hz', ec⟩
          · cases ec
        · cases ec
      · rename_i M4 eq
        refine tTt_go kk eq ⟨false, rfl, fun P4 H4 l4 h4 => ?_⟩
        dsimp only
        rw [if_neg (by decide)]
        exact ⟨P4, M4, acc, l3.trans l4, h4, l4.bm D bD, l4.nc eD nD, l4.keep D _ eD nD, Iss.lt (l4.lt h3) is, hz, ec⟩
      · cases ec
    · have ei : i = ds.length := by omega
      subst ei
      rw [List.drop_length] at ec
      cases ec
      exact .inl ⟨w2 _ (Nat.le_refl _) (Nat.le_refl _), w P2 D vs H2 (l1.trans l3) h3 (l1.sure D hD) bD nD eD is⟩
  · rename_i c n M1 ef
    cases h
    exact ⟨P0, H0, P, Os, env, M, _, _, k, ef, w⟩
  · cases h
section
variable {elt iter : Expr} {ifs : List Expr} {scope : Scope} {fs : EA} {q e : E}
theorem sn_compB (x : Str) (cs : List (Str × Nat)) {px : Pos} (hc : X.calm = true) (nd : (cs.map (·.2)).Nodup) (hi : SIB X Wx (.Name x px) iter fs)
  (hq : ∀ (cl : List (Str × Addr)) (C : Addr) (s₀ : Shared) (H₀ : Hp) (ex : List Addr) (pn : List (Addr × Obj)), SQ (compCx X (x :: cs.map (·.1)) scope cl C s₀ H₀ ex pn) ifs q)
  (he : ∀ (cl : List (Str × Addr)) (C : Addr) (s₀ : Shared) (H₀ : Hp) (ex : List Addr) (pn : List (Addr × Obj)), SE (compCx X (x :: cs.map (·.1)) scope cl C s₀ H₀ ex pn) W0 .val elt e)
  (ok : compOkB X.N X.env.scope x cs scope = true := by kernel_rfl) (hs : ∀ x, foldedSetIterable iter X.env x = pure x := by intro _; rfl) :
  SN X Wx (.ListComp elt [⟨.Name x px, iter, ifs, 0⟩] scope pos) (sComp cs fs q e) := by
 refine pe_imp (pe_comp (tq := tTt X.K X.mg W0 q) (te := tE X.K X.mg W0 .val e) x cs hc hi hq he ok hs) ?_
 rintro st H Q ⟨P0, H0, P, Os, env, M, r, M', k, e, w⟩
 refine comp_readB nd k e ?_
 cases r with
 | v d => exact w
 | x c n => exact w
end
end
end E3
namespace My
open PySem PySem.Spec PyProof.Rows L2 E3
def tbl_KEY_PLACES : List (Str × D) := [("fixed", (.int 1)), ("slide", (.int 1)), ("gap", (.int 2)), ("join", (.int 2))]
def top (i : Nat) : Stmt := PySem.Challenge.pw_rowdam_k71_not_widened.main.body.getD i (.Pass ⟨0, 0, 0, 0⟩)
def blts : List Str := ["isinstance", "bool", "int", "range", "tuple", "str", "zip", "len", "enumerate", "ValueError", "max", "list"]
def inCls (s : Stmt) (j : Nat) : Stmt := match s with
 | .ClassDef _ _ _ body _ _ _ _ _ _ _ => body.getD j s
 | _ => s
structure Ad where
 DamError : Addr
 NoName : Addr
 NoWide : Addr
 TooMuch : Addr
structure Txt (K : PySem.W.Frag) (mg : Str → Option Value) (C : Ad) (w : World) : Prop where
 blt : ∀ b ∈ blts, mg b = none
 xm_DamError : mg "DamError" = some (.ref C.DamError)
 xc_DamError : xcIn K C.DamError = true
 xm_NoName : mg "NoName" = some (.ref C.NoName)
 xc_NoName : xcIn K C.NoName = true
 xm_NoWide : mg "NoWide" = some (.ref C.NoWide)
 xc_NoWide : xcIn K C.NoWide = true
 xm_TooMuch : mg "TooMuch" = some (.ref C.TooMuch)
 xc_TooMuch : xcIn K C.TooMuch = true
 xn_NoWide : xnoIn K C.NoWide = true
 xk_NoWide : PySem.W.keepIn K (.ref C.NoWide) = true
 xs_NoWide : xisIn K C.NoWide = true
 pk_NoWide_NoName : PySem.W.kitOne K (.ref C.NoWide) (.ref C.NoName) = some false
 pk_NoWide_NoWide : PySem.W.kitOne K (.ref C.NoWide) (.ref C.NoWide) = some true
 pk_NoWide_TooMuch : PySem.W.kitOne K (.ref C.NoWide) (.ref C.TooMuch) = some false
 pk_NoWide_ValueError : PySem.W.kitOne K (.ref C.NoWide) (.type "ValueError") = some true
 qk_NoWide_DamError : supIn K C.NoWide C.DamError = true
 k_WIDE_WORDS : ∃ a, mg "WIDE_WORDS" = some (.ref a) ∧ ∀ P H, Is K P H (.tup [(.str "keep"), (.str "turn"), (.str "fixed"), (.str "slide"), (.str "gap"), (.str "join")]) (.ref a)
 k_KEY_PLACES : ∃ a, mg "KEY_PLACES" = some (.ref a) ∧ KTab K w a tbl_KEY_PLACES
 k_LETTERS : ∃ t, mg "LETTERS" = some (.str "abcdefghijklmnopqrstuvwxyz" t)
 k_MOST_ROWS : ∃ t, mg "MOST_ROWS" = some (.int 40 t)
 k_MOST_SIGNS : ∃ t, mg "MOST_SIGNS" = some (.int 12 t)
 k_MOST_MANY : ∃ t, mg "MOST_MANY" = some (.int 8 t)
structure MetAt (K : PySem.W.Frag) (C : Addr) (x q : Str) (st : Stmt) (ps : List Str) (f : Addr) (fd : FuncData) : Prop where
 M : Meth K C x f
 F : FunD K x q st f fd
 b : Binds K fd ps []
structure IniAt (K : PySem.W.Frag) (C : Addr) (q : Str) (st : Stmt) (ps : List Str) (f : Addr) (fd : FuncData) : Prop where
 M : Mk K C f
 F : FunD K "__init__" q st f fd
 b : Binds K fd ps []
structure MetAtD (K : PySem.W.Frag) (C : Addr) (x q : Str) (st : Stmt) (ps : List Str) (dd : List D) (f : Addr) (fd : FuncData) : Prop where
 M : Meth K C x f
 F : FunD K x q st f fd
 b : Binds K fd ps []
 bd : ∃ (dv : List V) (du : List Value), Binds K fd ps du ∧ Vals dv du ∧ (∀ P H, Iss K P H dd dv) ∧ dv.length = dd.length
structure DefAt (K : PySem.W.Frag) (mg : Str → Option Value) (x : Str) (st : Stmt) (ps : List Str) (f : Addr) (fd : FuncData) : Prop where
 mg : mg x = some (.ref f)
 F : FunD K x x st f fd
 b : Binds K fd ps []
def tb_NoName (c : Str) : Option Bool := if c = "NoWide" then some false else none
theorem tb_NoName_ok {K : PySem.W.Frag} {mg : Str → Option Value} {C : Ad} {w : World} (T : Txt K mg C w) : ∀ c b, tb_NoName c = some b → ∃ D, mg c = some (.ref D) ∧ xisIn K D = true ∧ PySem.W.kitOne K (.ref D) (.ref C.NoName) = some b := by
 intro c b h
 unfold tb_NoName at h
 split at h
 ·rename_i e; subst e; cases h; exact ⟨_, T.xm_NoWide, T.xs_NoWide, T.pk_NoWide_NoName⟩
 cases h
def tb_NoWide (c : Str) : Option Bool := if c = "NoWide" then some true else none
theorem tb_NoWide_ok {K : PySem.W.Frag} {mg : Str → Option Value} {C : Ad} {w : World} (T : Txt K mg C w) : ∀ c b, tb_NoWide c = some b → ∃ D, mg c = some (.ref D) ∧ xisIn K D = true ∧ PySem.W.kitOne K (.ref D) (.ref C.NoWide) = some b := by
 intro c b h
 unfold tb_NoWide at h
 split at h
 ·rename_i e; subst e; cases h; exact ⟨_, T.xm_NoWide, T.xs_NoWide, T.pk_NoWide_NoWide⟩
 cases h
def tb_TooMuch (c : Str) : Option Bool := if c = "NoWide" then some false else none
theorem tb_TooMuch_ok {K : PySem.W.Frag} {mg : Str → Option Value} {C : Ad} {w : World} (T : Txt K mg C w) : ∀ c b, tb_TooMuch c = some b → ∃ D, mg c = some (.ref D) ∧ xisIn K D = true ∧ PySem.W.kitOne K (.ref D) (.ref C.TooMuch) = some b := by
 intro c b h
 unfold tb_TooMuch at h
 split at h
 ·rename_i e; subst e; cases h; exact ⟨_, T.xm_NoWide, T.xs_NoWide, T.pk_NoWide_TooMuch⟩
 cases h
def tb_ValueError (c : Str) : Option Bool := if c = "NoWide" then some true else none
theorem tb_ValueError_ok {K : PySem.W.Frag} {mg : Str → Option Value} {C : Ad} {w : World} (T : Txt K mg C w) : ∀ c b, tb_ValueError c = some b → ∃ D, mg c = some (.ref D) ∧ xisIn K D = true ∧ PySem.W.kitOne K (.ref D) (.type "ValueError") = some b := by
 intro c b h
 unfold tb_ValueError at h
 split at h
 ·rename_i e; subst e; cases h; exact ⟨_, T.xm_NoWide, T.xs_NoWide, T.pk_NoWide_ValueError⟩
 cases h
def cat_DamError (c : Str) : Bool := if c = "NoWide" then true else false
theorem cat_DamError_ok {K : PySem.W.Frag} {mg : Str → Option Value} {C : Ad} {w : World} (T : Txt K mg C w) : ∀ c, cat_DamError c = true → ∃ D, mg c = some (.ref D) ∧ xcIn K D = true ∧ supIn K D C.DamError = true := by
 intro c h
 unfold cat_DamError at h
 split at h
 ·rename_i e; subst e; exact ⟨_, T.xm_NoWide, T.xc_NoWide, T.qk_NoWide_DamError⟩
 cases h
def isi_bool (t : String) : Option Bool := if t = "int" then some false else if t = "bool" then some true else if t = "str" then some false else if t = "list" then some false else if t = "tuple" then some false else if t = "NoneType" then some false else if t = "dict" then some false else none
theorem isi_bool_ok {K : PySem.W.Frag} : ∀ t b, isi_bool t = some b → PySem.W.kitOne K (.type t) (.type "bool") = some b := by
 intro t b h
 unfold isi_bool at h
 split at h
 ·rename_i e; subst e; cases h; kernel_rfl
 split at h
 ·rename_i e; subst e; cases h; kernel_rfl
 split at h
 ·rename_i e; subst e; cases h; kernel_rfl
 split at h
 ·rename_i e; subst e; cases h; kernel_rfl
 split at h
 ·rename_i e; subst e; cases h; kernel_rfl
 split at h
 ·rename_i e; subst e; cases h; kernel_rfl
 split at h
 ·rename_i e; subst e; cases h; kernel_rfl
 cases h
def isi_int (t : String) : Option Bool := if t = "int" then some true else if t = "bool" then some true else if t = "str" then some false else if t = "list" then some false else if t = "tuple" then some false else if t = "NoneType" then some false else if t = "dict" then some false else none
theorem isi_int_ok {K : PySem.W.Frag} : ∀ t b, isi_int t = some b → PySem.W.kitOne K (.type t) (.type "int") = some b := by
 intro t b h
 unfold isi_int at h
 split at h
 ·rename_i e; subst e; cases h; kernel_rfl
 split at h
 ·rename_i e; subst e; cases h; kernel_rfl
 split at h
 ·rename_i e; subst e; cases h; kernel_rfl
 split at h
 ·rename_i e; subst e; cases h; kernel_rfl
 split at h
 ·rename_i e; subst e; cases h; kernel_rfl
 split at h
 ·rename_i e; subst e; cases h; kernel_rfl
 split at h
 ·rename_i e; subst e; cases h; kernel_rfl
 cases h
def isiT (t T : String) : Option Bool := if T = "bool" then isi_bool t else if T = "int" then isi_int t else none
theorem j_int_bool : isiT "int" "bool" = some false := by decide +kernel
theorem j_int_int : isiT "int" "int" = some true := by decide +kernel
theorem j_bool_bool : isiT "bool" "bool" = some true := by decide +kernel
theorem j_bool_int : isiT "bool" "int" = some true := by decide +kernel
theorem j_str_bool : isiT "str" "bool" = some false := by decide +kernel
theorem j_str_int : isiT "str" "int" = some false := by decide +kernel
theorem j_list_bool : isiT "list" "bool" = some false := by decide +kernel
theorem j_list_int : isiT "list" "int" = some false := by decide +kernel
theorem j_tuple_bool : isiT "tuple" "bool" = some false := by decide +kernel
theorem j_tuple_int : isiT "tuple" "int" = some false := by decide +kernel
theorem j_NoneType_bool : isiT "NoneType" "bool" = some false := by decide +kernel
theorem j_NoneType_int : isiT "NoneType" "int" = some false := by decide +kernel
theorem j_dict_bool : isiT "dict" "bool" = some false := by decide +kernel
theorem j_dict_int : isiT "dict" "int" = some false := by decide +kernel
theorem isiT_ok {K : PySem.W.Frag} : ∀ t T b, isiT t T = some b → PySem.W.kitOne K (.type t) (.type T) = some b := by
 intro t T b h
 unfold isiT at h
 split at h
 ·rename_i e; subst e; exact isi_bool_ok t b h
 split at h
 ·rename_i e; subst e; exact isi_int_ok t b h
 cases h
abbrev s_is_whole : Stmt := top 7
theorem sc_is_whole : FnScope ["x"] ["x"] (defScope s_is_whole) := ⟨rfl, rfl, rfl, by decide +kernel, rfl, by decide +kernel, by decide +kernel⟩
theorem v_is_whole_x : (defScope s_is_whole).names.lookup ("x" : Str) = some .local := by kernel_rfl
def b_is_whole : S := (sSeq (sRet (sAnd (sIsi isiT "int" (sVar 0)) (sNotV (sIsi isiT "bool" (sVar 0))))) sEnd)
def g_is_whole : G := fnG 1 b_is_whole
theorem r_is_whole {P : Program} {w : World} {K : PySem.W.Frag} {mg : Str → Option Value} {C : Ad} {base : Heap} {k : Nat} {f : Addr} (T : Txt K mg C w) (cdv : Value) (A : Around) (outer : List PySem.Env) (s : Shared) (H : Hp) (E : XK) (hr : Room k (A.deeper (envOfC "is_whole" (defScope s_is_whole) s.heap.objs.size f cdv))) :
  SB (cx0 P w K mg base ["x"] "is_whole" s_is_whole f cdv A outer s H E) W0 (defBody s_is_whole) b_is_whole := by
 have hu : (cx0 P w K mg base ["x"] "is_whole" s_is_whole f cdv A outer s H E).A.units + 60 < cLine := Nat.lt_of_le_of_lt (Nat.add_le_add_left (by decide) _) hr.units
 have nd := (sc_is_whole).nd
 refine sb_cons ?_ ?_
 ·exact (ss_ret (se_and (se_isiM (T := "int") (fun t b h => isiT_ok t "int" b h) (se_v rfl (v_is_whole_x)) rfl (T.blt "isinstance" (by decide +kernel)) rfl (T.blt "int" (by decide +kernel)) boot_int) (se_one (se_not (se_isiM (T := "bool") (fun t b h => isiT_ok t "bool" b h) (se_v rfl (v_is_whole_x)) rfl (T.blt "isinstance" (by decide +kernel)) rfl (T.blt "bool" (by decide +kernel)) boot_bool)))))
 exact sb_nil
abbrev s_wide_row : Stmt := top 19
theorem sc_wide_row : FnScope ["works", "name", "row"] ["works", "name"] (defScope s_wide_row) := ⟨rfl, rfl, rfl, by decide +kernel, rfl, by decide +kernel, by decide +kernel⟩
theorem v_wide_row_works : (defScope s_wide_row).names.lookup ("works" : Str) = some .local := by kernel_rfl
theorem v_wide_row_name : (defScope s_wide_row).names.lookup ("name" : Str) = some .local := by kernel_rfl
theorem v_wide_row_row : (defScope s_wide_row).names.lookup ("row" : Str) = some .local := by kernel_rfl
def l_wide_row_1 : S := (sSeq (sIf (sAnd (s2 (oCmp .eq) (s2 oIx (sVar 2) (sCon (.int 1))) (sVar 1)) (s2 (oCmp .isin) (s2 oIx (sVar 2) (sCon (.int 0))) (sCon (.tup [(.str "keep"), (.str "turn"), (.str "fixed"), (.str "slide"), (.str "gap"), (.str "join")])))) (sSeq (sRet (sVar 2)) sEnd) sEnd) sEnd)
def b_wide_row : S := (sSeq (sFor 2 (iLst (sVar 0)) l_wide_row_1) (sSeq (sRaise "NoWide" (sFst (jRep (sVar 1) (jCon " is no name of a row that may be widened" jEnd)))) sEnd))
def g_wide_row : G := fnG 3 b_wide_row
theorem r_wide_row {P : Program} {w : World} {K : PySem.W.Frag} {mg : Str → Option Value} {C : Ad} {base : Heap} {k : Nat} {f : Addr} (T : Txt K mg C w) (cdv : Value) (A : Around) (outer : List PySem.Env) (s : Shared) (H : Hp) (E : XK) (Wx : XW) (hr : Room k (A.deeper (envOfC "wide_row" (defScope s_wide_row) s.heap.objs.size f cdv))) (XF : XFit (cxX P w K mg base ["works", "name", "row"] "wide_row" s_wide_row f cdv A outer s H E) Wx) (XP : XPass (cxX P w K mg base ["works", "name", "row"] "wide_row" s_wide_row f cdv A outer s H E) Wx) :
  SB (cxX P w K mg base ["works", "name", "row"] "wide_row" s_wide_row f cdv A outer s H E) Wx (defBody s_wide_row) b_wide_row := by
 have hu : (cxX P w K mg base ["works", "name", "row"] "wide_row" s_wide_row f cdv A outer s H E).A.units + 60 < cLine := Nat.lt_of_le_of_lt (Nat.add_le_add_left (by decide) _) hr.units
 have nd := (sc_wide_row).nd
 obtain ⟨t_WIDE_WORDS, m_WIDE_WORDS⟩ := T.k_WIDE_WORDS
 refine sb_cons ?_ ?_
 ·exact (ss_for PassesOwn.leaving rfl nd rfl (.inl v_wide_row_row) (si_lst (se_v rfl (v_wide_row_works))) (sb_cons (ss_if (SW.st (sw_and (st_cmp (cp_ok hu .eq) pu_cmp (se_ix ix_all pu_ix (se_v rfl (v_wide_row_row)) (se_i pe_int)) (se_v rfl (v_wide_row_name))) (sw_and1 (st_cmp (cp_ok hu .isin) pu_cmp (se_ix ix_all pu_ix (se_v rfl (v_wide_row_row)) (se_i pe_int)) (se_gd rfl m_WIDE_WORDS.1 m_WIDE_WORDS.2))))) (sb_cons (ss_ret (se_v rfl (v_wide_row_row))) sb_nil) sb_nil) sb_nil))
 refine sb_cons ?_ ?_
 ·exact (ss_raise XF rfl T.xm_NoWide T.xc_NoWide T.xn_NoWide T.xk_NoWide rfl (se_fst (sj_rep (se_v rfl (v_wide_row_name)) (sj_con sj_end))))
 exact sb_nil
abbrev s_part_names : Stmt := top 20
theorem sc_part_names : FnScope ["name", "many"] ["name", "many"] (defScope s_part_names) := ⟨rfl, rfl, rfl, by decide +kernel, rfl, by decide +kernel, by decide +kernel⟩
theorem v_part_names_name : (defScope s_part_names).names.lookup ("name" : Str) = some .cell := by kernel_rfl
theorem v_part_names_many : (defScope s_part_names).names.lookup ("many" : Str) = some .local := by kernel_rfl
def e_part_names_1 : E := (sFst (jVal (sVar 1) (jVal (sVar 0) jEnd)))
def b_part_names : S := (sSeq (sRet (sComp [("name", 0)] (iRng1 (sCons (sVar 1) sNil)) (sCon (.bl true)) e_part_names_1)) sEnd)
def g_part_names : G := fnG 2 b_part_names
theorem r_part_names {P : Program} {w : World} {K : PySem.W.Frag} {mg : Str → Option Value} {C : Ad} {base : Heap} {k : Nat} {f : Addr} (T : Txt K mg C w) (cdv : Value) (A : Around) (outer : List PySem.Env) (s : Shared) (H : Hp) (E : XK) (hr : Room k (A.deeper (envOfC "part_names" (defScope s_part_names) s.heap.objs.size f cdv))) :
  SB (cx0 P w K mg base ["name", "many"] "part_names" s_part_names f cdv A outer s H E) W0 (defBody s_part_names) b_part_names := by
 have hu : (cx0 P w K mg base ["name", "many"] "part_names" s_part_names f cdv A outer s H E).A.units + 60 < cLine := Nat.lt_of_le_of_lt (Nat.add_le_add_left (by decide) _) hr.units
 have nd := (sc_part_names).nd
 refine sb_cons ?_ ?_
 ·exact (ss_ret (SN.sem (sn_comp "k" [("name", 0)] rfl (by decide +kernel) (si_rng1 rfl (T.blt "range" (by decide +kernel)) (sa_cons (se_v rfl (v_part_names_many)) sa_nil st_Name)) (fun _ _ _ _ _ _ => sq_none) (fun _ _ _ _ _ _ => (se_fst (sj_val (se_vV rfl (.inr (.inl (by kernel_rfl)))) (sj_val (se_vV rfl (.inl (by kernel_rfl))) sj_end))))) comp_is))
 exact sb_nil
abbrev s_share_names : Stmt := top 21
theorem sc_share_names : FnScope ["part", "ways"] ["part", "ways"] (defScope s_share_names) := ⟨rfl, rfl, rfl, by decide +kernel, rfl, by decide +kernel, by decide +kernel⟩
theorem v_share_names_part : (defScope s_share_names).names.lookup ("part" : Str) = some .local := by kernel_rfl
theorem v_share_names_ways : (defScope s_share_names).names.lookup ("ways" : Str) = some .local := by kernel_rfl
def b_share_names : S := (sSeq (sRet (sSl (sLst (sCons (sFst (jVal (sVar 0) (jCon "l" jEnd))) (sCons (sFst (jVal (sVar 0) (jCon "r" jEnd))) sNil))) pNo (pAt (sVar 1)))) sEnd)
def g_share_names : G := fnG 2 b_share_names
theorem r_share_names {P : Program} {w : World} {K : PySem.W.Frag} {mg : Str → Option Value} {C : Ad} {base : Heap} {k : Nat} {f : Addr} (T : Txt K mg C w) (cdv : Value) (A : Around) (outer : List PySem.Env) (s : Shared) (H : Hp) (E : XK) (hr : Room k (A.deeper (envOfC "share_names" (defScope s_share_names) s.heap.objs.size f cdv))) :
  SB (cx0 P w K mg base ["part", "ways"] "share_names" s_share_names f cdv A outer s H E) W0 (defBody s_share_names) b_share_names := by
 have hu : (cx0 P w K mg base ["part", "ways"] "share_names" s_share_names f cdv A outer s H E).A.units + 60 < cLine := Nat.lt_of_le_of_lt (Nat.add_le_add_left (by decide) _) hr.units
 have nd := (sc_share_names).nd
 refine sb_cons ?_ ?_
 ·exact (ss_ret (se_sl (SN.sem (sn_lst (sa_cons (se_fst (sj_val (se_v rfl (v_share_names_part)) (sj_con sj_end))) (sa_cons (se_fst (sj_val (se_v rfl (v_share_names_part)) (sj_con sj_end))) sa_nil st_JoinedStr) st_JoinedStr)) lst_is) sp_no (sp_at (Wx := W0) (se_v rfl (v_share_names_ways)))))
 exact sb_nil
abbrev s_rows_in_place : Stmt := top 22
theorem sc_rows_in_place : FnScope ["row", "many", "parts", "made", "k", "part", "shares", "share", "source"] ["row", "many"] (defScope s_rows_in_place) := ⟨rfl, rfl, rfl, by decide +kernel, rfl, by decide +kernel, by decide +kernel⟩
theorem v_rows_in_place_row : (defScope s_rows_in_place).names.lookup ("row" : Str) = some .local := by kernel_rfl
theorem v_rows_in_place_many : (defScope s_rows_in_place).names.lookup ("many" : Str) = some .local := by kernel_rfl
theorem v_rows_in_place_parts : (defScope s_rows_in_place).names.lookup ("parts" : Str) = some .local := by kernel_rfl
theorem v_rows_in_place_made : (defScope s_rows_in_place).names.lookup ("made" : Str) = some .local := by kernel_rfl
theorem v_rows_in_place_k : (defScope s_rows_in_place).names.lookup ("k" : Str) = some .local := by kernel_rfl
theorem v_rows_in_place_part : (defScope s_rows_in_place).names.lookup ("part" : Str) = some .local := by kernel_rfl
theorem v_rows_in_place_shares : (defScope s_rows_in_place).names.lookup ("shares" : Str) = some .local := by kernel_rfl
theorem v_rows_in_place_share : (defScope s_rows_in_place).names.lookup ("share" : Str) = some .local := by kernel_rfl
theorem v_rows_in_place_source : (defScope s_rows_in_place).names.lookup ("source" : Str) = some .local := by kernel_rfl
def l_rows_in_place_1 : S := (sSeq (sApp 3 (sTup (sCons (sCon (.str "share")) (sCons (sVar 7) (sCons (sTup (sCons (sVar 8) sNil)) (sCons (sTup (sCons (sN bStr (sCons (sVar 4) sNil)) (sCons (sN bStr (sCons (sVar 1) sNil)) sNil))) sNil)))))) sEnd)
def l_rows_in_place_2 : S := (sSeq (sAsg 6 (sCall g_share_names (sCons (sVar 5) (sCons (sN bLen (sCons (s2 oIx (sVar 0) (sCon (.int 2))) sNil)) sNil)))) (sSeq (sForZ [7, 8] (sCons (sVar 6) (sCons (s2 oIx (sVar 0) (sCon (.int 2))) sNil)) l_rows_in_place_1) (sSeq (sApp 3 (sTup (sCons (s2 oIx (sVar 0) (sCon (.int 0))) (sCons (sVar 5) (sCons (sN bTup (sCons (sVar 6) sNil)) (sCons (s2 oIx (sVar 0) (sCon (.int 3))) sNil)))))) sEnd)))
def b_rows_in_place : S := (sSeq (sAsg 2 (sCall g_part_names (sCons (s2 oIx (sVar 0) (sCon (.int 1))) (sCons (sVar 1) sNil)))) (sSeq (sMine 3 (sLst sNil)) (sSeq (sForE [4, 5] (sCons (sVar 2) sNil) l_rows_in_place_2) (sSeq (sFrz 3) (sSeq (sRet (s2 oAdd (sVar 3) (sLst (sCons (sTup (sCons (sCon (.str "pour")) (sCons (s2 oIx (sVar 0) (sCon (.int 1))) (sCons (sN bTup (sCons (sVar 2) sNil)) (sCons (sTup sNil) sNil))))) sNil)))) sEnd)))))
def g_rows_in_place : G := fnG 9 b_rows_in_place
theorem r_rows_in_place {P : Program} {w : World} {K : PySem.W.Frag} {mg : Str → Option Value} {C : Ad} {base : Heap} {k : Nat} {f : Addr} (T : Txt K mg C w) (a_part_names : AtG P w K mg base k "part_names" 2 g_part_names) (a_share_names : AtG P w K mg base k "share_names" 2 g_share_names) (cdv : Value) (A : Around) (outer : List PySem.Env) (s : Shared) (H : Hp) (E : XK) (hr : Room k (A.deeper (envOfC "rows_in_place" (defScope s_rows_in_place) s.heap.objs.size f cdv))) :
  SB (cx0 P w K mg base ["row", "many", "parts", "made", "k", "part", "shares", "share", "source"] "rows_in_place" s_rows_in_place f cdv A outer s H E) W0 (defBody s_rows_in_place) b_rows_in_place := by
 have hu : (cx0 P w K mg base ["row", "many", "parts", "made", "k", "part", "shares", "share", "source"] "rows_in_place" s_rows_in_place f cdv A outer s H E).A.units + 60 < cLine := Nat.lt_of_le_of_lt (Nat.add_le_add_left (by decide) _) hr.units
 have nd := (sc_rows_in_place).nd
 refine sb_cons ?_ ?_
 ·exact (ss_asg (i := 2) nd rfl (.inl v_rows_in_place_parts) (se_call a_part_names hr rfl (sa_cons (se_ix ix_all pu_ix (se_v rfl (v_rows_in_place_row)) (se_i pe_int)) (sa_cons (se_v rfl (v_rows_in_place_many)) sa_nil st_Name) st_Subscript) (cnt_cons (cnt_cons cnt_nil))))
 refine sb_cons ?_ ?_
 ·exact (ss_mine (i := 3) nd rfl (.inl v_rows_in_place_made) (sn_lst sa_nil))
 refine sb_cons ?_ ?_
 ·exact (ss_forE PassesOwn.never rfl (sg_cons (i := 4) nd rfl (.inl v_rows_in_place_k) (sg_cons (i := 5) nd rfl (.inl v_rows_in_place_part) sg_nil)) rfl (T.blt "enumerate" (by decide +kernel)) (sa_cons (se_v rfl (v_rows_in_place_parts)) sa_nil st_Name) (sb_cons (ss_asg (i := 6) nd rfl (.inl v_rows_in_place_shares) (se_call a_share_names hr rfl (sa_cons (se_v rfl (v_rows_in_place_part)) (sa_cons (se_cb (fun t ha => pe_callB call_lenA rfl (T.blt "len" (by decide +kernel)) PySem.boot_len ha (by decide +kernel) (by decide +kernel)) pu_len (sa_cons (se_ix ix_all pu_ix (se_v rfl (v_rows_in_place_row)) (se_i pe_int)) sa_nil st_Subscript)) sa_nil st_Call) st_Name) (cnt_cons (cnt_cons cnt_nil)))) (sb_cons (ss_forZ PassesOwn.never rfl (sg_cons (i := 7) nd rfl (.inl v_rows_in_place_share) (sg_cons (i := 8) nd rfl (.inl v_rows_in_place_source) sg_nil)) rfl (T.blt "zip" (by decide +kernel)) (sa_cons (se_v rfl (v_rows_in_place_shares)) (sa_cons (se_ix ix_all pu_ix (se_v rfl (v_rows_in_place_row)) (se_i pe_int)) sa_nil st_Subscript) st_Name) (sb_cons (ss_app rfl (.inl v_rows_in_place_made) (se_tup (sa_cons (se_s pe_str) (sa_cons (se_v rfl (v_rows_in_place_share)) (sa_cons (se_tup (sa_cons (se_v rfl (v_rows_in_place_source)) sa_nil st_Name)) (sa_cons (se_tup (sa_cons (se_cb (fun t ha => pe_callTy call_str_int rfl (T.blt "str" (by decide +kernel)) boot_str ha (by decide +kernel) (by decide +kernel)) pu_str (sa_cons (se_v rfl (v_rows_in_place_k)) sa_nil st_Name)) (sa_cons (se_cb (fun t ha => pe_callTy call_str_int rfl (T.blt "str" (by decide +kernel)) boot_str ha (by decide +kernel) (by decide +kernel)) pu_str (sa_cons (se_v rfl (v_rows_in_place_many)) sa_nil st_Name)) sa_nil st_Call) st_Call)) sa_nil st_Tuple) st_Tuple) st_Name) st_Constant))) sb_nil)) (sb_cons (ss_app rfl (.inl v_rows_in_place_made) (se_tup (sa_cons (se_ix ix_all pu_ix (se_v rfl (v_rows_in_place_row)) (se_i pe_int)) (sa_cons (se_v rfl (v_rows_in_place_part)) (sa_cons (se_cb (fun t ha => pe_callTy call_tuple_of rfl (T.blt "tuple" (by decide +kernel)) boot_tuple ha (by decide +kernel) (by decide +kernel)) pu_tup (sa_cons (se_v rfl (v_rows_in_place_shares)) sa_nil st_Name)) (sa_cons (se_ix ix_all pu_ix (se_v rfl (v_rows_in_place_row)) (se_i pe_int)) sa_nil st_Subscript) st_Call) st_Name) st_Subscript))) sb_nil))))
 refine sb_frz ?_
 refine sb_cons ?_ ?_
 ·exact (ss_ret (se_op op_addA pu_add (se_v rfl (v_rows_in_place_made)) (SN.sem (sn_lst (sa_cons (se_tup (sa_cons (se_s pe_str) (sa_cons (se_ix ix_all pu_ix (se_v rfl (v_rows_in_place_row)) (se_i pe_int)) (sa_cons (se_cb (fun t ha => pe_callTy call_tuple_of rfl (T.blt "tuple" (by decide +kernel)) boot_tuple ha (by decide +kernel) (by decide +kernel)) pu_tup (sa_cons (se_v rfl (v_rows_in_place_parts)) sa_nil st_Name)) (sa_cons (se_tup sa_nil) sa_nil st_Tuple) st_Call) st_Subscript) st_Constant)) sa_nil st_Tuple)) lst_is)))
 exact sb_nil
abbrev s_check_made_names : Stmt := top 23
theorem sc_check_made_names : FnScope ["made", "works", "taken", "row"] ["made", "works"] (defScope s_check_made_names) := ⟨rfl, rfl, rfl, by decide +kernel, rfl, by decide +kernel, by decide +kernel⟩
theorem v_check_made_names_made : (defScope s_check_made_names).names.lookup ("made" : Str) = some .local := by kernel_rfl
theorem v_check_made_names_works : (defScope s_check_made_names).names.lookup ("works" : Str) = some .local := by kernel_rfl
theorem v_check_made_names_taken : (defScope s_check_made_names).names.lookup ("taken" : Str) = some .local := by kernel_rfl
theorem v_check_made_names_row : (defScope s_check_made_names).names.lookup ("row" : Str) = some .local := by kernel_rfl
def l_check_made_names_1 : S := (sSeq (sIf (sOr (s2 (oCmp .isin) (s2 oIx (sVar 3) (sCon (.int 1))) (sVar 2)) (s2 (oCmp .gt) (sN bLen (sCons (s2 oIx (sVar 3) (sCon (.int 1))) sNil)) (sCon (.int 12)))) (sSeq (sRaise "NoWide" (sCon (.str "a made name is taken or too long"))) sEnd) sEnd) sEnd)
def e_check_made_names_1 : E := (s2 oIx (sVar 0) (sCon (.int 1)))
def b_check_made_names : S := (sSeq (sAsg 2 (sComp [] (iLst (sVar 1)) (sCon (.bl true)) e_check_made_names_1)) (sSeq (sFor 3 (iLst (sSl (sVar 0) pNo (pAt (s1 oNeg (sCon (.int 1)))))) l_check_made_names_1) sEnd))
def g_check_made_names : G := fnG 4 b_check_made_names
theorem r_check_made_names {P : Program} {w : World} {K : PySem.W.Frag} {mg : Str → Option Value} {C : Ad} {base : Heap} {k : Nat} {f : Addr} (T : Txt K mg C w) (cdv : Value) (A : Around) (outer : List PySem.Env) (s : Shared) (H : Hp) (E : XK) (Wx : XW) (hr : Room k (A.deeper (envOfC "check_made_names" (defScope s_check_made_names) s.heap.objs.size f cdv))) (XF : XFit (cxX P w K mg base ["made", "works", "taken", "row"] "check_made_names" s_check_made_names f cdv A outer s H E) Wx) (XP : XPass (cxX P w K mg base ["made", "works", "taken", "row"] "check_made_names" s_check_made_names f cdv A outer s H E) Wx) :
  SB (cxX P w K mg base ["made", "works", "taken", "row"] "check_made_names" s_check_made_names f cdv A outer s H E) Wx (defBody s_check_made_names) b_check_made_names := by
 have hu : (cxX P w K mg base ["made", "works", "taken", "row"] "check_made_names" s_check_made_names f cdv A outer s H E).A.units + 60 < cLine := Nat.lt_of_le_of_lt (Nat.add_le_add_left (by decide) _) hr.units
 have nd := (sc_check_made_names).nd
 obtain ⟨t_MOST_SIGNS, m_MOST_SIGNS⟩ := T.k_MOST_SIGNS
 refine sb_cons ?_ ?_
 ·exact (ss_asgC "row" [] (i := 2) nd rfl (.inl v_check_made_names_taken) rfl (by decide +kernel) (si_lst (se_v rfl (v_check_made_names_works))) (fun _ _ _ _ _ _ => sq_none) (fun _ _ _ _ _ _ => (se_ix ix_all pu_ix (se_vV rfl (.inl (by kernel_rfl))) (se_i pe_int))))
 refine sb_cons ?_ ?_
 ·exact (ss_for PassesOwn.leaving rfl nd rfl (.inl v_check_made_names_row) (si_lst (se_sl (se_v rfl (v_check_made_names_made)) sp_no (sp_at (Wx := Wx) (se_un un_neg pu_neg (se_i pe_int))))) (sb_cons (ss_if (SW.st (sw_or (st_cmp (cp_ok hu .isin) pu_cmp (se_ix ix_all pu_ix (se_v rfl (v_check_made_names_row)) (se_i pe_int)) (se_v rfl (v_check_made_names_taken))) (sw_or1 (st_cmp (cp_ok hu .gt) pu_cmp (se_cb (fun t ha => pe_callB call_lenA rfl (T.blt "len" (by decide +kernel)) PySem.boot_len ha (by decide +kernel) (by decide +kernel)) pu_len (sa_cons (se_ix ix_all pu_ix (se_v rfl (v_check_made_names_row)) (se_i pe_int)) sa_nil st_Subscript)) (se_i (pe_glob (v := (.int 12)) rfl m_MOST_SIGNS ⟨t_MOST_SIGNS, rfl⟩)))))) (sb_cons (ss_raise XF rfl T.xm_NoWide T.xc_NoWide T.xn_NoWide T.xk_NoWide rfl (se_s pe_str)) sb_nil) sb_nil) sb_nil))
 exact sb_nil
abbrev s_widened : Stmt := top 24
theorem sc_widened : FnScope ["works", "name", "many", "row", "made", "wide", "each"] ["works", "name", "many"] (defScope s_widened) := ⟨rfl, rfl, rfl, by decide +kernel, rfl, by decide +kernel, by decide +kernel⟩
theorem v_widened_works : (defScope s_widened).names.lookup ("works" : Str) = some .local := by kernel_rfl
theorem v_widened_name : (defScope s_widened).names.lookup ("name" : Str) = some .local := by kernel_rfl
theorem v_widened_many : (defScope s_widened).names.lookup ("many" : Str) = some .local := by kernel_rfl
theorem v_widened_row : (defScope s_widened).names.lookup ("row" : Str) = some .local := by kernel_rfl
theorem v_widened_made : (defScope s_widened).names.lookup ("made" : Str) = some .local := by kernel_rfl
theorem v_widened_wide : (defScope s_widened).names.lookup ("wide" : Str) = some .local := by kernel_rfl
theorem v_widened_each : (defScope s_widened).names.lookup ("each" : Str) = some .local := by kernel_rfl
def l_widened_1 : S := (sSeq (sExt 5 (sIte (s2 (oCmp .eq) (s2 oIx (sVar 6) (sCon (.int 1))) (sVar 1)) (sVar 4) (sLst (sCons (sVar 6) sNil)))) sEnd)
def b_widened : S := (sSeq (sAsg 3 (sCallX g_wide_row (sCons (sVar 0) (sCons (sVar 1) sNil)))) (sSeq (sIf (sOr (sNot (sTru (sCall g_is_whole (sCons (sVar 2) sNil)))) (sNot (sChn .le .le (sCon (.int 2)) (sVar 2) (sCon (.int 8))))) (sSeq (sRaise "NoWide" (sFst (jCon "a row is widened by a whole number from 2 to " (jVal (sCon (.int 8)) jEnd)))) sEnd) sEnd) (sSeq (sAsg 4 (sCall g_rows_in_place (sCons (sVar 3) (sCons (sVar 2) sNil)))) (sSeq (sDrop (sCallX g_check_made_names (sCons (sVar 4) (sCons (sVar 0) sNil)))) (sSeq (sMine 5 (sLst sNil)) (sSeq (sFor 6 (iLst (sVar 0)) l_widened_1) (sSeq (sIf (s2 (oCmp .gt) (sN bLen (sCons (sVarB 5) sNil)) (sCon (.int 40))) (sSeq (sRaise "NoWide" (sFst (jCon "there would be more than " (jVal (sCon (.int 40)) (jCon " rows" jEnd))))) sEnd) sEnd) (sSeq (sFrz 5) (sSeq (sRet (sVar 5)) sEnd)))))))))
def g_widened : G := fnG 7 b_widened
theorem r_widened {P : Program} {w : World} {K : PySem.W.Frag} {mg : Str → Option Value} {C : Ad} {base : Heap} {k : Nat} {f : Addr} (T : Txt K mg C w) (a_is_whole : AtG P w K mg base k "is_whole" 1 g_is_whole) (a_rows_in_place : AtG P w K mg base k "rows_in_place" 2 g_rows_in_place) (x_wide_row : AtX P w K mg base k "wide_row" 2 g_wide_row) (x_check_made_names : AtX P w K mg base k "check_made_names" 2 g_check_made_names) (cdv : Value) (A : Around) (outer : List PySem.Env) (s : Shared) (H : Hp) (E : XK) (Wx : XW) (hr : Room k (A.deeper (envOfC "widened" (defScope s_widened) s.heap.objs.size f cdv))) (XF : XFit (cxX P w K mg base ["works", "name", "many", "row", "made", "wide", "each"] "widened" s_widened f cdv A outer s H E) Wx) (XP : XPass (cxX P w K mg base ["works", "name", "many", "row", "made", "wide", "each"] "widened" s_widened f cdv A outer s H E) Wx) :
  SB (cxX P w K mg base ["works", "name", "many", "row", "made", "wide", "each"] "widened" s_widened f cdv A outer s H E) Wx (defBody s_widened) b_widened := by
 have hu : (cxX P w K mg base ["works", "name", "many", "row", "made", "wide", "each"] "widened" s_widened f cdv A outer s H E).A.units + 60 < cLine := Nat.lt_of_le_of_lt (Nat.add_le_add_left (by decide) _) hr.units
 have nd := (sc_widened).nd
 obtain ⟨t_MOST_MANY, m_MOST_MANY⟩ := T.k_MOST_MANY
 obtain ⟨t_MOST_ROWS, m_MOST_ROWS⟩ := T.k_MOST_ROWS
 refine sb_cons ?_ ?_
 ·exact (ss_asg (i := 3) nd rfl (.inl v_widened_row) (SX.se XP (sx_call x_wide_row hr rfl (sa_cons (se_v rfl (v_widened_works)) (sa_cons (se_v rfl (v_widened_name)) sa_nil st_Name) st_Name) (cnt_cons (cnt_cons cnt_nil)))))
 refine sb_cons ?_ ?_
 ·exact (ss_if (SW.st (sw_or (st_not (st_tru (se_call a_is_whole hr rfl (sa_cons (se_v rfl (v_widened_many)) sa_nil st_Name) (cnt_cons cnt_nil)))) (sw_or1 (st_not (st_chn (c1 := .le) (c2 := .le) hu (se_i pe_int) (se_v rfl (v_widened_many)) (se_i (pe_glob (v := (.int 8)) rfl m_MOST_MANY ⟨t_MOST_MANY, rfl⟩))))))) (sb_cons (ss_raise XF rfl T.xm_NoWide T.xc_NoWide T.xn_NoWide T.xk_NoWide rfl (se_fst (sj_con (sj_val (se_i (pe_glob (v := (.int 8)) rfl m_MOST_MANY ⟨t_MOST_MANY, rfl⟩)) sj_end)))) sb_nil) sb_nil)
 refine sb_cons ?_ ?_
 ·exact (ss_asg (i := 4) nd rfl (.inl v_widened_made) (se_call a_rows_in_place hr rfl (sa_cons (se_v rfl (v_widened_row)) (sa_cons (se_v rfl (v_widened_many)) sa_nil st_Name) st_Name) (cnt_cons (cnt_cons cnt_nil))))
 refine sb_cons ?_ ?_
 ·exact (ss_drop (SX.se XP (sx_call x_check_made_names hr rfl (sa_cons (se_v rfl (v_widened_made)) (sa_cons (se_v rfl (v_widened_works)) sa_nil st_Name) st_Name) (cnt_cons (cnt_cons cnt_nil)))))
 refine sb_cons ?_ ?_
 ·exact (ss_mine (i := 5) nd rfl (.inl v_widened_wide) (sn_lst sa_nil))
 refine sb_cons ?_ ?_
 ·exact (ss_for PassesOwn.leaving rfl nd rfl (.inl v_widened_each) (si_lst (se_v rfl (v_widened_works))) (sb_cons (ss_ext rfl (.inl v_widened_wide) (se_ite (st_cmp (cp_ok hu .eq) pu_cmp (se_ix ix_all pu_ix (se_v rfl (v_widened_each)) (se_i pe_int)) (se_v rfl (v_widened_name))) (se_v rfl (v_widened_made)) (SN.sem (sn_lst (sa_cons (se_v rfl (v_widened_each)) sa_nil st_Name)) lst_is))) sb_nil))
 refine sb_cons ?_ ?_
 ·exact (ss_if (st_cmp (cp_ok hu .gt) pu_cmp (se_cb (fun t ha => pe_callB call_lenA rfl (T.blt "len" (by decide +kernel)) PySem.boot_len ha (by decide +kernel) (by decide +kernel)) pu_len (sa_cons (se_vb rfl (v_widened_wide)) sa_nil st_Name)) (se_i (pe_glob (v := (.int 40)) rfl m_MOST_ROWS ⟨t_MOST_ROWS, rfl⟩))) (sb_cons (ss_raise XF rfl T.xm_NoWide T.xc_NoWide T.xn_NoWide T.xk_NoWide rfl (se_fst (sj_con (sj_val (se_i (pe_glob (v := (.int 40)) rfl m_MOST_ROWS ⟨t_MOST_ROWS, rfl⟩)) (sj_con sj_end))))) sb_nil) sb_nil)
 refine sb_frz ?_
 refine sb_cons ?_ ?_
 ·exact (ss_ret (se_v rfl (v_widened_wide)))
 exact sb_nil
abbrev s_fold_saved : Stmt := top 26
theorem sc_fold_saved : FnScope ["saved", "works", "name", "many", "narrow", "row"] ["saved", "works", "name", "many"] (defScope s_fold_saved) := ⟨rfl, rfl, rfl, by decide +kernel, rfl, by decide +kernel, by decide +kernel⟩
theorem v_fold_saved_saved : (defScope s_fold_saved).names.lookup ("saved" : Str) = some .local := by kernel_rfl
theorem v_fold_saved_works : (defScope s_fold_saved).names.lookup ("works" : Str) = some .local := by kernel_rfl
theorem v_fold_saved_name : (defScope s_fold_saved).names.lookup ("name" : Str) = some .local := by kernel_rfl
theorem v_fold_saved_many : (defScope s_fold_saved).names.lookup ("many" : Str) = some .local := by kernel_rfl
theorem v_fold_saved_narrow : (defScope s_fold_saved).names.lookup ("narrow" : Str) = some .local := by kernel_rfl
theorem v_fold_saved_row : (defScope s_fold_saved).names.lookup ("row" : Str) = some .local := by kernel_rfl
def b_fold_saved : S := (sSeq (sDrop (sCallX g_widened (sCons (sVar 1) (sCons (sVar 2) (sCons (sVar 3) sNil))))) (sSeq sNone (sSeq sNone (sSeq sNone sEnd))))
def g_fold_saved : G := fnG 6 b_fold_saved
theorem r_fold_saved {P : Program} {w : World} {K : PySem.W.Frag} {mg : Str → Option Value} {C : Ad} {base : Heap} {k : Nat} {f : Addr} (T : Txt K mg C w) (x_widened : AtX P w K mg base k "widened" 3 g_widened) (cdv : Value) (A : Around) (outer : List PySem.Env) (s : Shared) (H : Hp) (E : XK) (Wx : XW) (hr : Room k (A.deeper (envOfC "fold_saved" (defScope s_fold_saved) s.heap.objs.size f cdv))) (XF : XFit (cxX P w K mg base ["saved", "works", "name", "many", "narrow", "row"] "fold_saved" s_fold_saved f cdv A outer s H E) Wx) (XP : XPass (cxX P w K mg base ["saved", "works", "name", "many", "narrow", "row"] "fold_saved" s_fold_saved f cdv A outer s H E) Wx) :
  SB (cxX P w K mg base ["saved", "works", "name", "many", "narrow", "row"] "fold_saved" s_fold_saved f cdv A outer s H E) Wx (defBody s_fold_saved) b_fold_saved := by
 have hu : (cxX P w K mg base ["saved", "works", "name", "many", "narrow", "row"] "fold_saved" s_fold_saved f cdv A outer s H E).A.units + 60 < cLine := Nat.lt_of_le_of_lt (Nat.add_le_add_left (by decide) _) hr.units
 have nd := (sc_fold_saved).nd
 refine sb_cons ?_ ?_
 ·exact (ss_drop (SX.se XP (sx_call x_widened hr rfl (sa_cons (se_v rfl (v_fold_saved_works)) (sa_cons (se_v rfl (v_fold_saved_name)) (sa_cons (se_v rfl (v_fold_saved_many)) sa_nil st_Name) st_Name) st_Name) (cnt_cons (cnt_cons (cnt_cons cnt_nil))))))
 refine sb_cons ?_ ?_
 ·exact ss_no
 refine sb_cons ?_ ?_
 ·exact ss_no
 refine sb_cons ?_ ?_
 ·exact ss_no
 exact sb_nil
abbrev s_spread_saved : Stmt := top 29
theorem sc_spread_saved : FnScope ["saved", "works", "name", "many", "wide", "row"] ["saved", "works", "name", "many"] (defScope s_spread_saved) := ⟨rfl, rfl, rfl, by decide +kernel, rfl, by decide +kernel, by decide +kernel⟩
theorem v_spread_saved_saved : (defScope s_spread_saved).names.lookup ("saved" : Str) = some .local := by kernel_rfl
theorem v_spread_saved_works : (defScope s_spread_saved).names.lookup ("works" : Str) = some .local := by kernel_rfl
theorem v_spread_saved_name : (defScope s_spread_saved).names.lookup ("name" : Str) = some .local := by kernel_rfl
theorem v_spread_saved_many : (defScope s_spread_saved).names.lookup ("many" : Str) = some .local := by kernel_rfl
theorem v_spread_saved_wide : (defScope s_spread_saved).names.lookup ("wide" : Str) = some .local := by kernel_rfl
theorem v_spread_saved_row : (defScope s_spread_saved).names.lookup ("row" : Str) = some .local := by kernel_rfl
def b_spread_saved : S := (sSeq (sDrop (sCallX g_widened (sCons (sVar 1) (sCons (sVar 2) (sCons (sVar 3) sNil))))) (sSeq sNone (sSeq sNone (sSeq sNone sEnd))))
def g_spread_saved : G := fnG 6 b_spread_saved
theorem r_spread_saved {P : Program} {w : World} {K : PySem.W.Frag} {mg : Str → Option Value} {C : Ad} {base : Heap} {k : Nat} {f : Addr} (T : Txt K mg C w) (x_widened : AtX P w K mg base k "widened" 3 g_widened) (cdv : Value) (A : Around) (outer : List PySem.Env) (s : Shared) (H : Hp) (E : XK) (Wx : XW) (hr : Room k (A.deeper (envOfC "spread_saved" (defScope s_spread_saved) s.heap.objs.size f cdv))) (XF : XFit (cxX P w K mg base ["saved", "works", "name", "many", "wide", "row"] "spread_saved" s_spread_saved f cdv A outer s H E) Wx) (XP : XPass (cxX P w K mg base ["saved", "works", "name", "many", "wide", "row"] "spread_saved" s_spread_saved f cdv A outer s H E) Wx) :
  SB (cxX P w K mg base ["saved", "works", "name", "many", "wide", "row"] "spread_saved" s_spread_saved f cdv A outer s H E) Wx (defBody s_spread_saved) b_spread_saved := by
 have hu : (cxX P w K mg base ["saved", "works", "name", "many", "wide", "row"] "spread_saved" s_spread_saved f cdv A outer s H E).A.units + 60 < cLine := Nat.lt_of_le_of_lt (Nat.add_le_add_left (by decide) _) hr.units
 have nd := (sc_spread_saved).nd
 refine sb_cons ?_ ?_
 ·exact (ss_drop (SX.se XP (sx_call x_widened hr rfl (sa_cons (se_v rfl (v_spread_saved_works)) (sa_cons (se_v rfl (v_spread_saved_name)) (sa_cons (se_v rfl (v_spread_saved_many)) sa_nil st_Name) st_Name) st_Name) (cnt_cons (cnt_cons (cnt_cons cnt_nil))))))
 refine sb_cons ?_ ?_
 ·exact ss_no
 refine sb_cons ?_ ?_
 ·exact ss_no
 refine sb_cons ?_ ?_
 ·exact ss_no
 exact sb_nil
abbrev s__cell_at : Stmt := top 31
theorem sc__cell_at : FnScope ["_law_script", "_law_k"] ["_law_script", "_law_k"] (defScope s__cell_at) := ⟨rfl, rfl, rfl, by decide +kernel, rfl, by decide +kernel, by decide +kernel⟩
theorem v__cell_at__script : (defScope s__cell_at).names.lookup ("_law_script" : Str) = some .local := by kernel_rfl
theorem v__cell_at__k : (defScope s__cell_at).names.lookup ("_law_k" : Str) = some .local := by kernel_rfl
def b__cell_at : S := (sSeq (sIf (s2 (oCmp .lt) (sVar 1) (sN bLen (sCons (sVar 0) sNil))) (sSeq (sRet (s2 oIx (sVar 0) (sVar 1))) sEnd) sEnd) (sSeq (sRet (sCon (.int 0))) sEnd))
def g__cell_at : G := fnG 2 b__cell_at
theorem r__cell_at {P : Program} {w : World} {K : PySem.W.Frag} {mg : Str → Option Value} {C : Ad} {base : Heap} {k : Nat} {f : Addr} (T : Txt K mg C w) (cdv : Value) (A : Around) (outer : List PySem.Env) (s : Shared) (H : Hp) (E : XK) (hr : Room k (A.deeper (envOfC "_law_cell_at" (defScope s__cell_at) s.heap.objs.size f cdv))) :
  SB (cx0 P w K mg base ["_law_script", "_law_k"] "_law_cell_at" s__cell_at f cdv A outer s H E) W0 (defBody s__cell_at) b__cell_at := by
 have hu : (cx0 P w K mg base ["_law_script", "_law_k"] "_law_cell_at" s__cell_at f cdv A outer s H E).A.units + 60 < cLine := Nat.lt_of_le_of_lt (Nat.add_le_add_left (by decide) _) hr.units
 have nd := (sc__cell_at).nd
 refine sb_cons ?_ ?_
 ·exact (ss_if (st_cmp (cp_ok hu .lt) pu_cmp (se_v rfl (v__cell_at__k)) (se_cb (fun t ha => pe_callB call_lenA rfl (T.blt "len" (by decide +kernel)) PySem.boot_len ha (by decide +kernel) (by decide +kernel)) pu_len (sa_cons (se_v rfl (v__cell_at__script)) sa_nil st_Name))) (sb_cons (ss_ret (se_ix ix_all pu_ix (se_v rfl (v__cell_at__script)) (se_v rfl (v__cell_at__k)))) sb_nil) sb_nil)
 refine sb_cons ?_ ?_
 ·exact (ss_ret (se_i pe_int))
 exact sb_nil
abbrev s__name : Stmt := top 32
theorem sc__name : FnScope ["_law_number", "_law_some", "_law_word", "_law_place"] ["_law_number"] (defScope s__name) := ⟨rfl, rfl, rfl, by decide +kernel, rfl, by decide +kernel, by decide +kernel⟩
theorem v__name__number : (defScope s__name).names.lookup ("_law_number" : Str) = some .local := by kernel_rfl
theorem v__name__some : (defScope s__name).names.lookup ("_law_some" : Str) = some .local := by kernel_rfl
theorem v__name__word : (defScope s__name).names.lookup ("_law_word" : Str) = some .local := by kernel_rfl
theorem v__name__place : (defScope s__name).names.lookup ("_law_place" : Str) = some .local := by kernel_rfl
def l__name_1 : S := (sSeq (sAsg 2 (s2 oAdd (sVar 2) (s2 oIx (s2 oAdd (sVar 1) (sCon (.str "0123456789"))) (s2 oMod (s2 oFdiv (sVar 0) (s2 oAdd (sCon (.int 208)) (s2 oMul (sCon (.int 37)) (sVar 3)))) (sCon (.int 36)))))) sEnd)
def b__name : S := (sSeq (sAsg 1 (sCon (.str "abcdefghijklmnopqrstuvwxyz"))) (sSeq (sAsg 2 (s2 oIx (sVar 1) (s2 oMod (sVar 0) (sCon (.int 26))))) (sSeq (sFor 3 (iRng1 (sCons (s2 oIx (sLst (sCons (sCon (.int 0)) (sCons (sCon (.int 1)) (sCons (sCon (.int 2)) (sCons (sCon (.int 8)) (sCons (sCon (.int 9)) (sCons (sCon (.int 10)) (sCons (sCon (.int 11)) (sCons (sCon (.int 9)) sNil))))))))) (s2 oMod (s2 oFdiv (sVar 0) (sCon (.int 26))) (sCon (.int 8)))) sNil)) l__name_1) (sSeq (sRet (sVar 2)) sEnd))))
def g__name : G := fnG 4 b__name
theorem r__name {P : Program} {w : World} {K : PySem.W.Frag} {mg : Str → Option Value} {C : Ad} {base : Heap} {k : Nat} {f : Addr} (T : Txt K mg C w) (cdv : Value) (A : Around) (outer : List PySem.Env) (s : Shared) (H : Hp) (E : XK) (hr : Room k (A.deeper (envOfC "_law_name" (defScope s__name) s.heap.objs.size f cdv))) :
  SB (cx0 P w K mg base ["_law_number", "_law_some", "_law_word", "_law_place"] "_law_name" s__name f cdv A outer s H E) W0 (defBody s__name) b__name := by
 have hu : (cx0 P w K mg base ["_law_number", "_law_some", "_law_word", "_law_place"] "_law_name" s__name f cdv A outer s H E).A.units + 60 < cLine := Nat.lt_of_le_of_lt (Nat.add_le_add_left (by decide) _) hr.units
 have nd := (sc__name).nd
 refine sb_cons ?_ ?_
 ·exact (ss_asg (i := 1) nd rfl (.inl v__name__some) (se_s pe_str))
 refine sb_cons ?_ ?_
 ·exact (ss_asg (i := 2) nd rfl (.inl v__name__word) (se_ix ix_all pu_ix (se_v rfl (v__name__some)) (se_op op_mod pu_mod (se_v rfl (v__name__number)) (se_i pe_int))))
 refine sb_cons ?_ ?_
 ·exact (ss_for PassesOwn.never rfl nd rfl (.inl v__name__place) (si_rng1 rfl (T.blt "range" (by decide +kernel)) (sa_cons (se_ix ix_all pu_ix (SN.sem (sn_lst (sa_cons (se_i pe_int) (sa_cons (se_i pe_int) (sa_cons (se_i pe_int) (sa_cons (se_i pe_int) (sa_cons (se_i pe_int) (sa_cons (se_i pe_int) (sa_cons (se_i pe_int) (sa_cons (se_i pe_int) sa_nil st_Constant) st_Constant) st_Constant) st_Constant) st_Constant) st_Constant) st_Constant) st_Constant)) lst_is) (se_op op_mod pu_mod (se_op op_fdiv pu_fdiv (se_v rfl (v__name__number)) (se_i pe_int)) (se_i pe_int))) sa_nil st_Subscript)) (sb_cons (ss_asg (i := 2) nd rfl (.inl v__name__word) (se_op op_addA pu_add (se_v rfl (v__name__word)) (se_ix ix_all pu_ix (se_op op_addA pu_add (se_v rfl (v__name__some)) (se_s pe_str)) (se_op op_mod pu_mod (se_op op_fdiv pu_fdiv (se_v rfl (v__name__number)) (se_op op_addA pu_add (se_i pe_int) (se_op op_mulB pu_mul (se_i pe_int) (se_v rfl (v__name__place))))) (se_i pe_int))))) sb_nil))
 refine sb_cons ?_ ?_
 ·exact (ss_ret (se_v rfl (v__name__word)))
 exact sb_nil
abbrev s__row : Stmt := top 33
theorem sc__row : FnScope ["_law_cell", "_law_name_here"] ["_law_cell", "_law_name_here"] (defScope s__row) := ⟨rfl, rfl, rfl, by decide +kernel, rfl, by decide +kernel, by decide +kernel⟩
theorem v__row__cell : (defScope s__row).names.lookup ("_law_cell" : Str) = some .local := by kernel_rfl
theorem v__row__name_here : (defScope s__row).names.lookup ("_law_name_here" : Str) = some .local := by kernel_rfl
def b__row : S := (sSeq (sIf (s2 (oCmp .eq) (s2 oMod (sVar 0) (sCon (.int 6))) (sCon (.int 0))) (sSeq (sRet (sTup (sCons (sCon (.str "keep")) (sCons (sVar 1) (sCons (sTup (sCons (sCon (.str "1a")) sNil)) (sCons (sTup (sCons (sCon (.str "<")) (sCons (sCon (.str "v")) (sCons (sCon (.str "5")) sNil)))) sNil)))))) sEnd) sEnd) (sSeq (sIf (s2 (oCmp .eq) (s2 oMod (sVar 0) (sCon (.int 6))) (sCon (.int 1))) (sSeq (sRet (sTup (sCons (sCon (.str "turn")) (sCons (sVar 1) (sCons (sTup (sCons (sCon (.str "1a")) sNil)) (sCons (sTup (sCons (sCon (.str "+")) (sCons (sCon (.str "v")) (sCons (sCon (.str "t")) sNil)))) sNil)))))) sEnd) sEnd) (sSeq (sIf (s2 (oCmp .eq) (s2 oMod (sVar 0) (sCon (.int 6))) (sCon (.int 2))) (sSeq (sRet (sTup (sCons (sCon (.str "fixed")) (sCons (sVar 1) (sCons (sTup (sCons (sCon (.str "1a")) sNil)) (sCons (sTup (sCons (sCon (.str "7")) (sCons (sCon (.str "sum")) sNil))) sNil)))))) sEnd) sEnd) (sSeq (sIf (s2 (oCmp .eq) (s2 oMod (sVar 0) (sCon (.int 6))) (sCon (.int 3))) (sSeq (sRet (sTup (sCons (sCon (.str "slide")) (sCons (sVar 1) (sCons (sTup (sCons (sCon (.str "1a")) sNil)) (sCons (sTup (sCons (sCon (.str "9")) (sCons (sCon (.str "4")) (sCons (sCon (.str "most")) sNil)))) sNil)))))) sEnd) sEnd) (sSeq (sIf (s2 (oCmp .eq) (s2 oMod (sVar 0) (sCon (.int 6))) (sCon (.int 4))) (sSeq (sRet (sTup (sCons (sCon (.str "gap")) (sCons (sVar 1) (sCons (sTup (sCons (sCon (.str "1a")) sNil)) (sCons (sTup (sCons (sCon (.str "3")) (sCons (sCon (.str "count")) sNil))) sNil)))))) sEnd) sEnd) (sSeq (sRet (sTup (sCons (sCon (.str "join")) (sCons (sVar 1) (sCons (sTup (sCons (sCon (.str "1a")) (sCons (sCon (.str "1a")) sNil))) (sCons (sTup (sCons (sCon (.str "2")) (sCons (sCon (.str "w")) sNil))) sNil)))))) sEnd))))))
def g__row : G := fnG 2 b__row
theorem r__row {P : Program} {w : World} {K : PySem.W.Frag} {mg : Str → Option Value} {C : Ad} {base : Heap} {k : Nat} {f : Addr} (T : Txt K mg C w) (cdv : Value) (A : Around) (outer : List PySem.Env) (s : Shared) (H : Hp) (E : XK) (hr : Room k (A.deeper (envOfC "_law_row" (defScope s__row) s.heap.objs.size f cdv))) :
  SB (cx0 P w K mg base ["_law_cell", "_law_name_here"] "_law_row" s__row f cdv A outer s H E) W0 (defBody s__row) b__row := by
 have hu : (cx0 P w K mg base ["_law_cell", "_law_name_here"] "_law_row" s__row f cdv A outer s H E).A.units + 60 < cLine := Nat.lt_of_le_of_lt (Nat.add_le_add_left (by decide) _) hr.units
 have nd := (sc__row).nd
 refine sb_cons ?_ ?_
 ·exact (ss_if (st_cmp (cp_ok hu .eq) pu_cmp (se_op op_mod pu_mod (se_v rfl (v__row__cell)) (se_i pe_int)) (se_i pe_int)) (sb_cons (ss_ret (se_tup (sa_cons (se_s pe_str) (sa_cons (se_v rfl (v__row__name_here)) (sa_cons (se_tup (sa_cons (se_s pe_str) sa_nil st_Constant)) (sa_cons (se_tup (sa_cons (se_s pe_str) (sa_cons (se_s pe_str) (sa_cons (se_s pe_str) sa_nil st_Constant) st_Constant) st_Constant)) sa_nil st_Tuple) st_Tuple) st_Name) st_Constant))) sb_nil) sb_nil)
 refine sb_cons ?_ ?_
 ·exact (ss_if (st_cmp (cp_ok hu .eq) pu_cmp (se_op op_mod pu_mod (se_v rfl (v__row__cell)) (se_i pe_int)) (se_i pe_int)) (sb_cons (ss_ret (se_tup (sa_cons (se_s pe_str) (sa_cons (se_v rfl (v__row__name_here)) (sa_cons (se_tup (sa_cons (se_s pe_str) sa_nil st_Constant)) (sa_cons (se_tup (sa_cons (se_s pe_str) (sa_cons (se_s pe_str) (sa_cons (se_s pe_str) sa_nil st_Constant) st_Constant) st_Constant)) sa_nil st_Tuple) st_Tuple) st_Name) st_Constant))) sb_nil) sb_nil)
 refine sb_cons ?_ ?_
 ·exact (ss_if (st_cmp (cp_ok hu .eq) pu_cmp (se_op op_mod pu_mod (se_v rfl (v__row__cell)) (se_i pe_int)) (se_i pe_int)) (sb_cons (ss_ret (se_tup (sa_cons (se_s pe_str) (sa_cons (se_v rfl (v__row__name_here)) (sa_cons (se_tup (sa_cons (se_s pe_str) sa_nil st_Constant)) (sa_cons (se_tup (sa_cons (se_s pe_str) (sa_cons (se_s pe_str) sa_nil st_Constant) st_Constant)) sa_nil st_Tuple) st_Tuple) st_Name) st_Constant))) sb_nil) sb_nil)
 refine sb_cons ?_ ?_
 ·exact (ss_if (st_cmp (cp_ok hu .eq) pu_cmp (se_op op_mod pu_mod (se_v rfl (v__row__cell)) (se_i pe_int)) (se_i pe_int)) (sb_cons (ss_ret (se_tup (sa_cons (se_s pe_str) (sa_cons (se_v rfl (v__row__name_here)) (sa_cons (se_tup (sa_cons (se_s pe_str) sa_nil st_Constant)) (sa_cons (se_tup (sa_cons (se_s pe_str) (sa_cons (se_s pe_str) (sa_cons (se_s pe_str) sa_nil st_Constant) st_Constant) st_Constant)) sa_nil st_Tuple) st_Tuple) st_Name) st_Constant))) sb_nil) sb_nil)
 refine sb_cons ?_ ?_
 ·exact (ss_if (st_cmp (cp_ok hu .eq) pu_cmp (se_op op_mod pu_mod (se_v rfl (v__row__cell)) (se_i pe_int)) (se_i pe_int)) (sb_cons (ss_ret (se_tup (sa_cons (se_s pe_str) (sa_cons (se_v rfl (v__row__name_here)) (sa_cons (se_tup (sa_cons (se_s pe_str) sa_nil st_Constant)) (sa_cons (se_tup (sa_cons (se_s pe_str) (sa_cons (se_s pe_str) sa_nil st_Constant) st_Constant)) sa_nil st_Tuple) st_Tuple) st_Name) st_Constant))) sb_nil) sb_nil)
 refine sb_cons ?_ ?_
 ·exact (ss_ret (se_tup (sa_cons (se_s pe_str) (sa_cons (se_v rfl (v__row__name_here)) (sa_cons (se_tup (sa_cons (se_s pe_str) (sa_cons (se_s pe_str) sa_nil st_Constant) st_Constant)) (sa_cons (se_tup (sa_cons (se_s pe_str) (sa_cons (se_s pe_str) sa_nil st_Constant) st_Constant)) sa_nil st_Tuple) st_Tuple) st_Name) st_Constant)))
 exact sb_nil
abbrev s__free : Stmt := top 34
theorem sc__free : FnScope ["_law_names", "_law_stem", "_law_at"] ["_law_names", "_law_stem"] (defScope s__free) := ⟨rfl, rfl, rfl, by decide +kernel, rfl, by decide +kernel, by decide +kernel⟩
theorem v__free__names : (defScope s__free).names.lookup ("_law_names" : Str) = some .local := by kernel_rfl
theorem v__free__stem : (defScope s__free).names.lookup ("_law_stem" : Str) = some .local := by kernel_rfl
theorem v__free__at : (defScope s__free).names.lookup ("_law_at" : Str) = some .local := by kernel_rfl
def t__free_1 : E := (s2 (oCmp .isin) (s2 oAdd (sVar 1) (sN bStr (sCons (sVar 2) sNil))) (sVar 0))
def l__free_1 : S := (sSeq (sAsg 2 (s2 oAdd (sVar 2) (sCon (.int 1)))) sEnd)
def b__free : S := (sSeq (sAsg 2 (sCon (.int 0))) (sSeq (sWhile 1000 t__free_1 l__free_1) (sSeq (sRet (s2 oAdd (sVar 1) (sN bStr (sCons (sVar 2) sNil)))) sEnd)))
def g__free : G := fnG 3 b__free
theorem r__free {P : Program} {w : World} {K : PySem.W.Frag} {mg : Str → Option Value} {C : Ad} {base : Heap} {k : Nat} {f : Addr} (T : Txt K mg C w) (cdv : Value) (A : Around) (outer : List PySem.Env) (s : Shared) (H : Hp) (E : XK) (hr : Room k (A.deeper (envOfC "_law_free" (defScope s__free) s.heap.objs.size f cdv))) :
  SB (cx0 P w K mg base ["_law_names", "_law_stem", "_law_at"] "_law_free" s__free f cdv A outer s H E) W0 (defBody s__free) b__free := by
 have hu : (cx0 P w K mg base ["_law_names", "_law_stem", "_law_at"] "_law_free" s__free f cdv A outer s H E).A.units + 60 < cLine := Nat.lt_of_le_of_lt (Nat.add_le_add_left (by decide) _) hr.units
 have nd := (sc__free).nd
 refine sb_cons ?_ ?_
 ·exact (ss_asg (i := 2) nd rfl (.inl v__free__at) (se_i pe_int))
 refine sb_cons ?_ ?_
 ·exact (ss_while 1000 PassesOwn.never (st_cmp (cp_ok hu .isin) pu_cmp (se_op op_addA pu_add (se_v rfl (v__free__stem)) (se_cb (fun t ha => pe_callTy call_str_int rfl (T.blt "str" (by decide +kernel)) boot_str ha (by decide +kernel) (by decide +kernel)) pu_str (sa_cons (se_v rfl (v__free__at)) sa_nil st_Name))) (se_v rfl (v__free__names))) (sb_cons (ss_asg (i := 2) nd rfl (.inl v__free__at) (se_op op_addA pu_add (se_v rfl (v__free__at)) (se_i pe_int))) sb_nil))
 refine sb_cons ?_ ?_
 ·exact (ss_ret (se_op op_addA pu_add (se_v rfl (v__free__stem)) (se_cb (fun t ha => pe_callTy call_str_int rfl (T.blt "str" (by decide +kernel)) boot_str ha (by decide +kernel) (by decide +kernel)) pu_str (sa_cons (se_v rfl (v__free__at)) sa_nil st_Name))))
 exact sb_nil
abbrev s__works : Stmt := top 35
theorem sc__works : FnScope ["_law_script", "_law_name_here", "_law_kind", "_law_many", "_law_first", "_law_row_here", "_law_works_here", "_law_word", "_law_rest", "_law_froms", "_law_cell", "_law_more", "_law_rows", "_law_stem", "_law_k"] ["_law_script", "_law_name_here", "_law_kind", "_law_many"] (defScope s__works) := ⟨rfl, rfl, rfl, by decide +kernel, rfl, by decide +kernel, by decide +kernel⟩
theorem v__works__script : (defScope s__works).names.lookup ("_law_script" : Str) = some .local := by kernel_rfl
theorem v__works__name_here : (defScope s__works).names.lookup ("_law_name_here" : Str) = some .local := by kernel_rfl
theorem v__works__kind : (defScope s__works).names.lookup ("_law_kind" : Str) = some .local := by kernel_rfl
theorem v__works__many : (defScope s__works).names.lookup ("_law_many" : Str) = some .local := by kernel_rfl
theorem v__works__first : (defScope s__works).names.lookup ("_law_first" : Str) = some .cell := by kernel_rfl
theorem v__works__row_here : (defScope s__works).names.lookup ("_law_row_here" : Str) = some .local := by kernel_rfl
theorem v__works__works_here : (defScope s__works).names.lookup ("_law_works_here" : Str) = some .local := by kernel_rfl
theorem v__works__word : (defScope s__works).names.lookup ("_law_word" : Str) = some .local := by kernel_rfl
theorem v__works__rest : (defScope s__works).names.lookup ("_law_rest" : Str) = some .local := by kernel_rfl
theorem v__works__froms : (defScope s__works).names.lookup ("_law_froms" : Str) = some .local := by kernel_rfl
theorem v__works__cell : (defScope s__works).names.lookup ("_law_cell" : Str) = some .local := by kernel_rfl
theorem v__works__more : (defScope s__works).names.lookup ("_law_more" : Str) = some .local := by kernel_rfl
theorem v__works__rows : (defScope s__works).names.lookup ("_law_rows" : Str) = some .local := by kernel_rfl
theorem v__works__stem : (defScope s__works).names.lookup ("_law_stem" : Str) = some .local := by kernel_rfl
theorem v__works__k : (defScope s__works).names.lookup ("_law_k" : Str) = some .local := by kernel_rfl
def n__works_8 : S := (sSeq (sFrz 6) (sSeq (sRet (sVar 6)) sEnd))
def l__works_1 : S := (sSeq (sApp 6 (sTup (sCons (sCon (.str "out")) (sCons (s2 oAdd (sVar 13) (sN bStr (sCons (sVar 14) sNil))) (sCons (sTup (sCons (sVar 4) sNil)) (sCons (sTup sNil) sNil)))))) sEnd)
def n__works_7 : S := (sSeq (sIf (s2 (oCmp .eq) (s2 oMod (sVar 10) (sCon (.int 4))) (sCon (.int 2))) (sSeq (sAsg 12 (s2 oMul (sVar 3) (s2 oAdd (sN bLen (sCons (s2 oIx (sVar 5) (sCon (.int 2))) sNil)) (sCon (.int 1))))) (sSeq (sAsg 13 (s2 oIx (sCon (.str "zy")) (sN bIntB (sCons (s2 (oCmp .eq) (s2 oIx (sVar 1) (sCon (.int 0))) (sCon (.str "z"))) sNil)))) (sSeq (sFor 14 (iRng1 (sCons (s2 oSub (s2 oSub (s2 oAdd (sCon (.int 39)) (s2 oMod (s2 oFdiv (sVar 10) (sCon (.int 4))) (sCon (.int 4)))) (sVar 12)) (sN bLen (sCons (sVarB 6) sNil))) sNil)) l__works_1) sEnd))) sEnd) n__works_8)
def e__works_1 : E := (s2 oIx (sVar 0) (sCon (.int 1)))
def n__works_6 : S := (sSeq (sIf (sAnd (s2 (oCmp .eq) (s2 oMod (sVar 10) (sCon (.int 4))) (sCon (.int 1))) (s2 (oCmp .lt) (sN bLen (sCons (sVar 1) sNil)) (sCon (.int 11)))) (sSeq (sAsg 11 (s2 oAdd (s2 oAdd (sVar 1) (sN bStr (sCons (s2 oMod (s2 oFdiv (sVar 10) (sCon (.int 4))) (sCon (.int 9))) sNil))) (s2 oIx (sLst (sCons (sCon (.str "")) (sCons (sCon (.str "l")) (sCons (sCon (.str "r")) sNil)))) (s2 oMod (s2 oFdiv (sVar 10) (sCon (.int 36))) (sCon (.int 3)))))) (sSeq (sIf (s2 (oCmp .notin) (sVar 11) (sComp [] (iLst (sVarB 6)) (sCon (.bl true)) e__works_1)) (sSeq (sApp 6 (sTup (sCons (sCon (.str "in")) (sCons (sVar 11) (sCons (sTup sNil) (sCons (sTup sNil) sNil)))))) sEnd) sEnd) sEnd)) sEnd) n__works_7)
def n__works_5 : S := (sSeq (sAsg 10 (sCall g__cell_at (sCons (sVar 0) (sCons (sCon (.int 3)) sNil)))) n__works_6)
def e__works_2 : E := (s2 oIx (sVar 0) (sCon (.int 1)))
def m136__works_2 : S := (sSeq (sApp 6 (sTup (sCons (sVar 7) (sCons (sCall g__free (sCons (sComp [] (iLst (sVarB 6)) (sCon (.bl true)) e__works_2) (sCons (sVar 7) sNil))) (sCons (sVar 9) (sCons (sVar 8) sNil)))))) sEnd)
def m136__works_1 : S := (sSeq (sIf (s2 (oCmp .eq) (sVar 7) (sCon (.str "pour"))) (sSeq (sAsg 9 (sTup (sCons (sVar 1) (sCons (sVar 4) sNil)))) sEnd) sEnd) m136__works_2)
def l__works_2 : S := (sSeq (sAsg 9 (sTup (sCons (sVar 1) sNil))) m136__works_1)
def n__works_4 : S := (sSeq (sForU [7, 8] (iLst (sLst (sCons (sTup (sCons (sCon (.str "share")) (sCons (sTup (sCons (sCon (.str "0")) (sCons (sCon (.str "2")) sNil))) sNil))) (sCons (sTup (sCons (sCon (.str "pour")) (sCons (sTup sNil) sNil))) (sCons (sTup (sCons (sCon (.str "out")) (sCons (sTup sNil) sNil))) sNil))))) l__works_2) n__works_5)
def n__works_3 : S := (sSeq (sMine 6 (sLst (sCons (sTup (sCons (sCon (.str "in")) (sCons (sVar 4) (sCons (sTup sNil) (sCons (sTup sNil) sNil))))) (sCons (sVar 5) sNil)))) n__works_4)
def e__works_3 : E := (sVar 1)
def n__works_2 : S := (sSeq (sAsg 5 (sTup (sCons (s2 oIx (sVar 5) (sCon (.int 0))) (sCons (s2 oIx (sVar 5) (sCon (.int 1))) (sCons (sN bTup (sCons (sComp [("_law_first", 4)] (iTp (s2 oIx (sVar 5) (sCon (.int 2)))) (sCon (.bl true)) e__works_3) sNil)) (sCons (s2 oIx (sVar 5) (sCon (.int 3))) sNil)))))) n__works_3)
def n__works_1 : S := (sSeq (sAsg 5 (sCall g__row (sCons (sVar 2) (sCons (sVar 1) sNil)))) n__works_2)
def b__works : S := (sSeq (sAsg 4 (sCall g__free (sCons (sLst (sCons (sVar 1) sNil)) (sCons (sCon (.str "a")) sNil)))) n__works_1)
def g__works : G := fnG 15 b__works
theorem r__works {P : Program} {w : World} {K : PySem.W.Frag} {mg : Str → Option Value} {C : Ad} {base : Heap} {k : Nat} {f : Addr} (T : Txt K mg C w) (a__cell_at : AtG P w K mg base k "_law_cell_at" 2 g__cell_at) (a__row : AtG P w K mg base k "_law_row" 2 g__row) (a__free : AtG P w K mg base k "_law_free" 2 g__free) (cdv : Value) (A : Around) (outer : List PySem.Env) (s : Shared) (H : Hp) (E : XK) (hr : Room k (A.deeper (envOfC "_law_works" (defScope s__works) s.heap.objs.size f cdv))) :
    SB (cx0 P w K mg base ["_law_script", "_law_name_here", "_law_kind", "_law_many", "_law_first", "_law_row_here", "_law_works_here", "_law_word", "_law_rest", "_law_froms", "_law_cell", "_law_more", "_law_rows", "_law_stem", "_law_k"] "_law_works" s__works f cdv A outer s H E) W0 (defBody s__works) b__works := by
  have hu : (cx0 P w K mg base ["_law_script", "_law_name_here", "_law_kind", "_law_many", "_law_first", "_law_row_here", "_law_works_here", "_law_word", "_law_rest", "_law_froms", "_law_cell", "_law_more", "_law_rows", "_law_stem", "_law_k"] "_law_works" s__works f cdv A outer s H E).A.units + 60 < cLine := Nat.lt_of_le_of_lt (Nat.add_le_add_left (by decide) _) hr.units
  have nd := (sc__works).nd
  refine sb_cons ?_ ?_
  · refine ss_asg (i := 4) ?_ ?_ ?_ ?_
    · exact nd
    · exact rfl
    · exact (.inr v__works__first)
    · refine se_call a__free hr rfl ?_ ?_
      · refine sa_cons ?_ ?_ ?_
        · refine SN.sem ?_ ?_
          · refine sn_lst ?_
            · refine sa_cons ?_ ?_ ?_
              · refine se_v ?_ ?_
                · exact rfl
                · exact v__works__name_here
              · exact sa_nil
              · exact st_Name
          · exact lst_is
        · refine sa_cons ?_ ?_ ?_
          · refine se_s ?_
            · exact pe_str
          · exact sa_nil
          · exact st_Constant
        · exact st_List
      · refine cnt_cons ?_
        · refine cnt_cons ?_
          · exact cnt_nil
  refine sb_cons ?_ ?_
  · refine ss_asg (i := 5) ?_ ?_ ?_ ?_
    · exact nd
    · exact rfl
    · exact (.inl v__works__row_here)
    · refine se_call a__row hr rfl ?_ ?_
      · refine sa_cons ?_ ?_ ?_
        · refine se_v ?_ ?_
          · exact rfl
          · exact v__works__kind
        · refine sa_cons ?_ ?_ ?_
          · refine se_v ?_ ?_
            · exact rfl
            · exact v__works__name_here
          · exact sa_nil
          · exact st_Name
        · exact st_Name
      · refine cnt_cons ?_
        · refine cnt_cons ?_
          · exact cnt_nil
  refine sb_cons ?_ ?_
  · refine ss_asg (i := 5) ?_ ?_ ?_ ?_
    · exact nd
    · exact rfl
    · exact (.inl v__works__row_here)
    · refine se_tup ?_
      · refine sa_cons ?_ ?_ ?_
        · refine se_ix ix_all pu_ix ?_ ?_
          · refine se_v ?_ ?_
            · exact rfl
            · exact v__works__row_here
          · refine se_i ?_
            · exact pe_int
        · refine sa_cons ?_ ?_ ?_
          · refine se_ix ix_all pu_ix ?_ ?_
            · refine se_v ?_ ?_
              · exact rfl
              · exact v__works__row_here
            · refine se_i ?_
              · exact pe_int
          · refine sa_cons ?_ ?_ ?_
            · refine se_cb (fun t ha => pe_callTy call_tuple_of rfl (T.blt "tuple" (by decide +kernel)) boot_tuple ha (by decide +kernel) (by decide +kernel)) pu_tup ?_
              · refine sa_cons ?_ ?_ ?_
                · refine SN.sem ?_ ?_
                  · exact (sn_comp "_law_other" [("_law_first", 4)] rfl (by decide +kernel) (si_tp (se_ix ix_all pu_ix (se_v rfl (v__works__row_here)) (se_i pe_int))) (fun _ _ _ _ _ _ => sq_none) (fun _ _ _ _ _ _ => (se_vV rfl (.inr (.inl (by kernel_rfl))))))
                  · exact comp_is
                · exact sa_nil
                · exact st_ListComp
            · refine sa_cons ?_ ?_ ?_
              · refine se_ix ix_all pu_ix ?_ ?_
                · refine se_v ?_ ?_
                  · exact rfl
                  · exact v__works__row_here
                · refine se_i ?_
                  · exact pe_int
              · exact sa_nil
              · exact st_Subscript
            · exact st_Call
          · exact st_Subscript
        · exact st_Subscript
  refine sb_cons ?_ ?_
  · refine ss_mine (i := 6) ?_ ?_ ?_ ?_
    · exact nd
    · exact rfl
    · exact (.inl v__works__works_here)
    · refine sn_lst ?_
      · refine sa_cons ?_ ?_ ?_
        · refine se_tup ?_
          · refine sa_cons ?_ ?_ ?_
            · refine se_s ?_
              · exact pe_str
            · refine sa_cons ?_ ?_ ?_
              · refine se_vV ?_ ?_
                · exact rfl
                · exact (.inr (.inl v__works__first))
              · refine sa_cons ?_ ?_ ?_
                · refine se_tup ?_
                  · exact sa_nil
                · refine sa_cons ?_ ?_ ?_
                  · refine se_tup ?_
                    · exact sa_nil
                  · exact sa_nil
                  · exact st_Tuple
                · exact st_Tuple
              · exact st_Name
            · exact st_Constant
        · refine sa_cons ?_ ?_ ?_
          · refine se_v ?_ ?_
            · exact rfl
            · exact v__works__row_here
          · exact sa_nil
          · exact st_Name
        · exact st_Tuple
  refine sb_cons ?_ ?_
  · refine ss_forU ?_ ?_ ?_ ?_ ?_
    · exact PassesOwn.never
    · exact rfl
    · refine sg_cons (i := 7) ?_ ?_ ?_ ?_
      · exact nd
      · exact rfl
      · exact (.inl v__works__word)
      · refine sg_cons (i := 8) ?_ ?_ ?_ ?_
        · exact nd
        · exact rfl
        · exact (.inl v__works__rest)
        · exact sg_nil
    · refine si_lst ?_
      · refine SN.sem ?_ ?_
        · refine sn_lst ?_
          · refine sa_cons ?_ ?_ ?_
            · refine se_tup ?_
              · refine sa_cons ?_ ?_ ?_
                · refine se_s ?_
                  · exact pe_str
                · refine sa_cons ?_ ?_ ?_
                  · refine se_tup ?_
                    · refine sa_cons ?_ ?_ ?_
                      · refine se_s ?_
                        · exact pe_str
                      · refine sa_cons ?_ ?_ ?_
                        · refine se_s ?_
                          · exact pe_str
                        · exact sa_nil
                        · exact st_Constant
                      · exact st_Constant
                  · exact sa_nil
                  · exact st_Tuple
                · exact st_Constant
            · refine sa_cons ?_ ?_ ?_
              · refine se_tup ?_
                · refine sa_cons ?_ ?_ ?_
                  · refine se_s ?_
                    · exact pe_str
                  · refine sa_cons ?_ ?_ ?_
                    · refine se_tup ?_
                      · exact sa_nil
                    · exact sa_nil
                    · exact st_Tuple
                  · exact st_Constant
              · refine sa_cons ?_ ?_ ?_
                · refine se_tup ?_
                  · refine sa_cons ?_ ?_ ?_
                    · refine se_s ?_
                      · exact pe_str
                    · refine sa_cons ?_ ?_ ?_
                      · refine se_tup ?_
                        · exact sa_nil
                      · exact sa_nil
                      · exact st_Tuple
                    · exact st_Constant
                · exact sa_nil
                · exact st_Tuple
              · exact st_Tuple
            · exact st_Tuple
        · exact lst_is
    · refine sb_cons ?_ ?_
      · refine ss_asg (i := 9) ?_ ?_ ?_ ?_
        · exact nd
        · exact rfl
        · exact (.inl v__works__froms)
        · refine se_tup ?_
          · refine sa_cons ?_ ?_ ?_
            · refine se_v ?_ ?_
              · exact rfl
              · exact v__works__name_here
            · exact sa_nil
            · exact st_Name
      · refine sb_cons ?_ ?_
        · refine ss_if ?_ ?_ ?_
          · refine st_cmp (cp_ok hu .eq) pu_cmp ?_ ?_
            · refine se_v ?_ ?_
              · exact rfl
              · exact v__works__word
            · refine se_s ?_
              · exact pe_str
          · refine sb_cons ?_ ?_
            · refine ss_asg (i := 9) ?_ ?_ ?_ ?_
              · exact nd
              · exact rfl
              · exact (.inl v__works__froms)
              · refine se_tup ?_
                · refine sa_cons ?_ ?_ ?_
                  · refine se_v ?_ ?_
                    · exact rfl
                    · exact v__works__name_here
                  · refine sa_cons ?_ ?_ ?_
                    · refine se_vV ?_ ?_
                      · exact rfl
                      · exact (.inr (.inl v__works__first))
                    · exact sa_nil
                    · exact st_Name
                  · exact st_Name
            · exact sb_nil
          · exact sb_nil
        · refine sb_cons ?_ ?_
          · refine ss_app ?_ ?_ ?_
            · exact rfl
            · exact (.inl v__works__works_here)
            · refine se_tup ?_
              · refine sa_cons ?_ ?_ ?_
                · refine se_v ?_ ?_
                  · exact rfl
                  · exact v__works__word
                · refine sa_cons ?_ ?_ ?_
                  · refine se_call a__free hr rfl ?_ ?_
                    · refine sa_cons ?_ ?_ ?_
                      · refine SN.sem ?_ ?_
                        · exact (sn_compB "_law_one" [] rfl (by decide +kernel) (si_lstB (se_vb rfl (v__works__works_here))) (fun _ _ _ _ _ _ => sq_none) (fun _ _ _ _ _ _ => (se_ix ix_all pu_ix (se_vV rfl (.inl (by kernel_rfl))) (se_i pe_int))))
                        · exact comp_is
                      · refine sa_cons ?_ ?_ ?_
                        · refine se_v ?_ ?_
                          · exact rfl
                          · exact v__works__word
                        · exact sa_nil
                        · exact st_Name
                      · exact st_ListComp
                    · refine cnt_cons ?_
                      · refine cnt_cons ?_
                        · exact cnt_nil
                  · refine sa_cons ?_ ?_ ?_
                    · refine se_v ?_ ?_
                      · exact rfl
                      · exact v__works__froms
                    · refine sa_cons ?_ ?_ ?_
                      · refine se_v ?_ ?_
                        · exact rfl
                        · exact v__works__rest
                      · exact sa_nil
                      · exact st_Name
                    · exact st_Name
                  · exact st_Call
                · exact st_Name
          · exact sb_nil
  refine sb_cons ?_ ?_
  · refine ss_asg (i := 10) ?_ ?_ ?_ ?_
    · exact nd
    · exact rfl
    · exact (.inl v__works__cell)
    · refine se_call a__cell_at hr rfl ?_ ?_
      · refine sa_cons ?_ ?_ ?_
        · refine se_v ?_ ?_
          · exact rfl
          · exact v__works__script
        · refine sa_cons ?_ ?_ ?_
          · refine se_i ?_
            · exact pe_int
          · exact sa_nil
          · exact st_Constant
        · exact st_Name
      · refine cnt_cons ?_
        · refine cnt_cons ?_
          · exact cnt_nil
  refine sb_cons ?_ ?_
  · refine ss_if ?_ ?_ ?_
    · refine SW.st ?_
      · refine sw_and ?_ ?_
        · refine st_cmp (cp_ok hu .eq) pu_cmp ?_ ?_
          · refine se_op op_mod pu_mod ?_ ?_
            · refine se_v ?_ ?_
              · exact rfl
              · exact v__works__cell
            · refine se_i ?_
              · exact pe_int
          · refine se_i ?_
            · exact pe_int
        · refine sw_and1 ?_
          · refine st_cmp (cp_ok hu .lt) pu_cmp ?_ ?_
            · refine se_cb (fun t ha => pe_callB call_lenA rfl (T.blt "len" (by decide +kernel)) PySem.boot_len ha (by decide +kernel) (by decide +kernel)) pu_len ?_
              · refine sa_cons ?_ ?_ ?_
                · refine se_v ?_ ?_
                  · exact rfl
                  · exact v__works__name_here
                · exact sa_nil
                · exact st_Name
            · refine se_i ?_
              · exact pe_int
    · refine sb_cons ?_ ?_
      · refine ss_asg (i := 11) ?_ ?_ ?_ ?_
        · exact nd
        · exact rfl
        · exact (.inl v__works__more)
        · refine se_op op_addA pu_add ?_ ?_
          · refine se_op op_addA pu_add ?_ ?_
            · refine se_v ?_ ?_
              · exact rfl
              · exact v__works__name_here
            · refine se_cb (fun t ha => pe_callTy call_str_int rfl (T.blt "str" (by decide +kernel)) boot_str ha (by decide +kernel) (by decide +kernel)) pu_str ?_
              · refine sa_cons ?_ ?_ ?_
                · refine se_op op_mod pu_mod ?_ ?_
                  · refine se_op op_fdiv pu_fdiv ?_ ?_
                    · refine se_v ?_ ?_
                      · exact rfl
                      · exact v__works__cell
                    · refine se_i ?_
                      · exact pe_int
                  · refine se_i ?_
                    · exact pe_int
                · exact sa_nil
                · exact st_BinOp
          · refine se_ix ix_all pu_ix ?_ ?_
            · refine SN.sem ?_ ?_
              · refine sn_lst ?_
                · refine sa_cons ?_ ?_ ?_
                  · refine se_s ?_
                    · exact pe_str
                  · refine sa_cons ?_ ?_ ?_
                    · refine se_s ?_
                      · exact pe_str
                    · refine sa_cons ?_ ?_ ?_
                      · refine se_s ?_
                        · exact pe_str
                      · exact sa_nil
                      · exact st_Constant
                    · exact st_Constant
                  · exact st_Constant
              · exact lst_is
            · refine se_op op_mod pu_mod ?_ ?_
              · refine se_op op_fdiv pu_fdiv ?_ ?_
                · refine se_v ?_ ?_
                  · exact rfl
                  · exact v__works__cell
                · refine se_i ?_
                  · exact pe_int
              · refine se_i ?_
                · exact pe_int
      · refine sb_cons ?_ ?_
        · refine ss_if ?_ ?_ ?_
          · refine st_cmp (cp_ok hu .notin) pu_cmp ?_ ?_
            · refine se_v ?_ ?_
              · exact rfl
              · exact v__works__more
            · refine SN.sem ?_ ?_
              · exact (sn_compB "_law_one" [] rfl (by decide +kernel) (si_lstB (se_vb rfl (v__works__works_here))) (fun _ _ _ _ _ _ => sq_none) (fun _ _ _ _ _ _ => (se_ix ix_all pu_ix (se_vV rfl (.inl (by kernel_rfl))) (se_i pe_int))))
              · exact comp_is
          · refine sb_cons ?_ ?_
            · refine ss_app ?_ ?_ ?_
              · exact rfl
              · exact (.inl v__works__works_here)
              · refine se_tup ?_
                · refine sa_cons ?_ ?_ ?_
                  · refine se_s ?_
                    · exact pe_str
                  · refine sa_cons ?_ ?_ ?_
                    · refine se_v ?_ ?_
                      · exact rfl
                      · exact v__works__more
                    · refine sa_cons ?_ ?_ ?_
                      · refine se_tup ?_
                        · exact sa_nil
                      · refine sa_cons ?_ ?_ ?_
                        · refine se_tup ?_
                          · exact sa_nil
                        · exact sa_nil
                        · exact st_Tuple
                      · exact st_Tuple
                    · exact st_Name
                  · exact st_Constant
            · exact sb_nil
          · exact sb_nil
        · exact sb_nil
    · exact sb_nil
  refine sb_cons ?_ ?_
  · refine ss_if ?_ ?_ ?_
    · refine st_cmp (cp_ok hu .eq) pu_cmp ?_ ?_
      · refine se_op op_mod pu_mod ?_ ?_
        · refine se_v ?_ ?_
          · exact rfl
          · exact v__works__cell
        · refine se_i ?_
          · exact pe_int
      · refine se_i ?_
        · exact pe_int
    · refine sb_cons ?_ ?_
      · refine ss_asg (i := 12) ?_ ?_ ?_ ?_
        · exact nd
        · exact rfl
        · exact (.inl v__works__rows)
        · refine se_op op_mulB pu_mul ?_ ?_
          · refine se_v ?_ ?_
            · exact rfl
            · exact v__works__many
          · refine se_op op_addA pu_add ?_ ?_
            · refine se_cb (fun t ha => pe_callB call_lenA rfl (T.blt "len" (by decide +kernel)) PySem.boot_len ha (by decide +kernel) (by decide +kernel)) pu_len ?_
              · refine sa_cons ?_ ?_ ?_
                · refine se_ix ix_all pu_ix ?_ ?_
                  · refine se_v ?_ ?_
                    · exact rfl
                    · exact v__works__row_here
                  · refine se_i ?_
                    · exact pe_int
                · exact sa_nil
                · exact st_Subscript
            · refine se_i ?_
              · exact pe_int
      · refine sb_cons ?_ ?_
        · refine ss_asg (i := 13) ?_ ?_ ?_ ?_
          · exact nd
          · exact rfl
          · exact (.inl v__works__stem)
          · refine se_ix ix_all pu_ix ?_ ?_
            · refine se_s ?_
              · exact pe_str
            · refine se_cb (fun t ha => pe_callTy call_int_bl rfl (T.blt "int" (by decide +kernel)) boot_int ha (by decide +kernel) (by decide +kernel)) pu_intB ?_
              · refine sa_cons ?_ ?_ ?_
                · refine se_cmp (cp_ok hu .eq) pu_cmp ?_ ?_
                  · refine se_ix ix_all pu_ix ?_ ?_
                    · refine se_v ?_ ?_
                      · exact rfl
                      · exact v__works__name_here
                    · refine se_i ?_
                      · exact pe_int
                  · refine se_s ?_
                    · exact pe_str
                · exact sa_nil
                · exact st_Compare
        · refine sb_cons ?_ ?_
          · refine ss_for ?_ ?_ ?_ ?_ ?_ ?_ ?_
            · exact PassesOwn.never
            · exact rfl
            · exact nd
            · exact rfl
            · exact (.inl v__works__k)
            · refine si_rng1 ?_ ?_ ?_
              · exact rfl
              · exact (T.blt "range" (by decide +kernel))
              · refine sa_cons ?_ ?_ ?_
                · refine se_op op_sub pu_sub ?_ ?_
                  · refine se_op op_sub pu_sub ?_ ?_
                    · refine se_op op_addA pu_add ?_ ?_
                      · refine se_i ?_
                        · exact pe_int
                      · refine se_op op_mod pu_mod ?_ ?_
                        · refine se_op op_fdiv pu_fdiv ?_ ?_
                          · refine se_v ?_ ?_
                            · exact rfl
                            · exact v__works__cell
                          · refine se_i ?_
                            · exact pe_int
                        · refine se_i ?_
                          · exact pe_int
                    · refine se_v ?_ ?_
                      · exact rfl
                      · exact v__works__rows
                  · refine se_cb (fun t ha => pe_callB call_lenA rfl (T.blt "len" (by decide +kernel)) PySem.boot_len ha (by decide +kernel) (by decide +kernel)) pu_len ?_
                    · refine sa_cons ?_ ?_ ?_
                      · refine se_vb ?_ ?_
                        · exact rfl
                        · exact v__works__works_here
                      · exact sa_nil
                      · exact st_Name
                · exact sa_nil
                · exact st_BinOp
            · refine sb_cons ?_ ?_
              · refine ss_app ?_ ?_ ?_
                · exact rfl
                · exact (.inl v__works__works_here)
                · refine se_tup ?_
                  · refine sa_cons ?_ ?_ ?_
                    · refine se_s ?_
                      · exact pe_str
                    · refine sa_cons ?_ ?_ ?_
                      · refine se_op op_addA pu_add ?_ ?_
                        · refine se_v ?_ ?_
                          · exact rfl
                          · exact v__works__stem
                        · refine se_cb (fun t ha => pe_callTy call_str_int rfl (T.blt "str" (by decide +kernel)) boot_str ha (by decide +kernel) (by decide +kernel)) pu_str ?_
                          · refine sa_cons ?_ ?_ ?_
                            · refine se_v ?_ ?_
                              · exact rfl
                              · exact v__works__k
                            · exact sa_nil
                            · exact st_Name
                      · refine sa_cons ?_ ?_ ?_
                        · refine se_tup ?_
                          · refine sa_cons ?_ ?_ ?_
                            · refine se_vV ?_ ?_
                              · exact rfl
                              · exact (.inr (.inl v__works__first))
                            · exact sa_nil
                            · exact st_Name
                        · refine sa_cons ?_ ?_ ?_
                          · refine se_tup ?_
                            · exact sa_nil
                          · exact sa_nil
                          · exact st_Tuple
                        · exact st_Tuple
                      · exact st_BinOp
                    · exact st_Constant
              · exact sb_nil
          · exact sb_nil
    · exact sb_nil
  refine sb_frz ?_
  refine sb_cons ?_ ?_
  · refine ss_ret ?_
    · refine se_v ?_ ?_
      · exact rfl
      · exact v__works__works_here
  exact sb_nil
abbrev s__good : Stmt := top 36
theorem sc__good : FnScope ["_law_works_here", "_law_name_here", "_law_many", "_law_names", "_law_ways", "_law_row_here", "_law_k"] ["_law_works_here", "_law_name_here", "_law_many"] (defScope s__good) := ⟨rfl, rfl, rfl, by decide +kernel, rfl, by decide +kernel, by decide +kernel⟩
theorem v__good__works_here : (defScope s__good).names.lookup ("_law_works_here" : Str) = some .local := by kernel_rfl
theorem v__good__name_here : (defScope s__good).names.lookup ("_law_name_here" : Str) = some .local := by kernel_rfl
theorem v__good__many : (defScope s__good).names.lookup ("_law_many" : Str) = some .local := by kernel_rfl
theorem v__good__names : (defScope s__good).names.lookup ("_law_names" : Str) = some .local := by kernel_rfl
theorem v__good__ways : (defScope s__good).names.lookup ("_law_ways" : Str) = some .local := by kernel_rfl
theorem v__good__row_here : (defScope s__good).names.lookup ("_law_row_here" : Str) = some .local := by kernel_rfl
theorem v__good__k : (defScope s__good).names.lookup ("_law_k" : Str) = some .local := by kernel_rfl
def l__good_1 : S := (sSeq (sIf (sOr (s2 (oCmp .isin) (s2 oAdd (sVar 1) (sN bStr (sCons (sVar 6) sNil))) (sVar 3)) (s2 (oCmp .isin) (s2 oAdd (s2 oAdd (sVar 1) (sN bStr (sCons (sVar 6) sNil))) (sCon (.str "l"))) (sVar 3))) (sSeq (sRet (sCon (.bl false))) sEnd) sEnd) (sSeq (sIf (sAnd (s2 (oCmp .eq) (sVar 4) (sCon (.int 2))) (s2 (oCmp .isin) (s2 oAdd (s2 oAdd (sVar 1) (sN bStr (sCons (sVar 6) sNil))) (sCon (.str "r"))) (sVar 3))) (sSeq (sRet (sCon (.bl false))) sEnd) sEnd) sEnd))
def l__good_2 : S := (sSeq (sIf (sAnd (s2 (oCmp .eq) (s2 oIx (sVar 5) (sCon (.int 1))) (sVar 1)) (s2 (oCmp .isin) (s2 oIx (sVar 5) (sCon (.int 0))) (sTup (sCons (sCon (.str "keep")) (sCons (sCon (.str "turn")) (sCons (sCon (.str "fixed")) (sCons (sCon (.str "slide")) (sCons (sCon (.str "gap")) (sCons (sCon (.str "join")) sNil))))))))) (sSeq (sAsg 4 (sN bLen (sCons (s2 oIx (sVar 5) (sCon (.int 2))) sNil))) sEnd) sEnd) sEnd)
def e__good_1 : E := (s2 oIx (sVar 0) (sCon (.int 1)))
def b__good : S := (sSeq (sIf (sOr (sNot (sTru (sIsi isiT "int" (sVar 2)))) (sOr (sTru (sIsi isiT "bool" (sVar 2))) (sOr (s2 (oCmp .lt) (sVar 2) (sCon (.int 2))) (s2 (oCmp .gt) (sVar 2) (sCon (.int 8)))))) (sSeq (sRet (sCon (.bl false))) sEnd) sEnd) (sSeq (sAsg 3 (sComp [] (iLst (sVar 0)) (sCon (.bl true)) e__good_1)) (sSeq (sAsg 4 (sCon (.int 0))) (sSeq (sFor 5 (iLst (sVar 0)) l__good_2) (sSeq (sIf (sOr (s2 (oCmp .eq) (sVar 4) (sCon (.int 0))) (sOr (s2 (oCmp .gt) (s2 oAdd (sN bLen (sCons (sVar 0) sNil)) (s2 oMul (sVar 2) (s2 oAdd (sVar 4) (sCon (.int 1))))) (sCon (.int 40))) (s2 (oCmp .gt) (sN bLen (sCons (sVar 1) sNil)) (sCon (.int 10))))) (sSeq (sRet (sCon (.bl false))) sEnd) sEnd) (sSeq (sFor 6 (iRng1 (sCons (sVar 2) sNil)) l__good_1) (sSeq (sRet (sCon (.bl true))) sEnd)))))))
def g__good : G := fnG 7 b__good
theorem r__good {P : Program} {w : World} {K : PySem.W.Frag} {mg : Str → Option Value} {C : Ad} {base : Heap} {k : Nat} {f : Addr} (T : Txt K mg C w) (cdv : Value) (A : Around) (outer : List PySem.Env) (s : Shared) (H : Hp) (E : XK) (hr : Room k (A.deeper (envOfC "_law_good" (defScope s__good) s.heap.objs.size f cdv))) :
  SB (cx0 P w K mg base ["_law_works_here", "_law_name_here", "_law_many", "_law_names", "_law_ways", "_law_row_here", "_law_k"] "_law_good" s__good f cdv A outer s H E) W0 (defBody s__good) b__good := by
 have hu : (cx0 P w K mg base ["_law_works_here", "_law_name_here", "_law_many", "_law_names", "_law_ways", "_law_row_here", "_law_k"] "_law_good" s__good f cdv A outer s H E).A.units + 60 < cLine := Nat.lt_of_le_of_lt (Nat.add_le_add_left (by decide) _) hr.units
 have nd := (sc__good).nd
 refine sb_cons ?_ ?_
 ·exact (ss_if (SW.st (sw_or (st_not (st_tru (se_isiM (T := "int") (fun t b h => isiT_ok t "int" b h) (se_v rfl (v__good__many)) rfl (T.blt "isinstance" (by decide +kernel)) rfl (T.blt "int" (by decide +kernel)) boot_int))) (sw_or (st_tru (se_isiM (T := "bool") (fun t b h => isiT_ok t "bool" b h) (se_v rfl (v__good__many)) rfl (T.blt "isinstance" (by decide +kernel)) rfl (T.blt "bool" (by decide +kernel)) boot_bool)) (sw_or (st_cmp (cp_ok hu .lt) pu_cmp (se_v rfl (v__good__many)) (se_i pe_int)) (sw_or1 (st_cmp (cp_ok hu .gt) pu_cmp (se_v rfl (v__good__many)) (se_i pe_int))))))) (sb_cons (ss_ret (se_b pe_bl)) sb_nil) sb_nil)
 refine sb_cons ?_ ?_
 ·exact (ss_asgC "_law_row_here" [] (i := 3) nd rfl (.inl v__good__names) rfl (by decide +kernel) (si_lst (se_v rfl (v__good__works_here))) (fun _ _ _ _ _ _ => sq_none) (fun _ _ _ _ _ _ => (se_ix ix_all pu_ix (se_vV rfl (.inl (by kernel_rfl))) (se_i pe_int))))
 refine sb_cons ?_ ?_
 ·exact (ss_asg (i := 4) nd rfl (.inl v__good__ways) (se_i pe_int))
 refine sb_cons ?_ ?_
 ·exact (ss_for PassesOwn.never rfl nd rfl (.inl v__good__row_here) (si_lst (se_v rfl (v__good__works_here))) (sb_cons (ss_if (SW.st (sw_and (st_cmp (cp_ok hu .eq) pu_cmp (se_ix ix_all pu_ix (se_v rfl (v__good__row_here)) (se_i pe_int)) (se_v rfl (v__good__name_here))) (sw_and1 (st_cmp (cp_ok hu .isin) pu_cmp (se_ix ix_all pu_ix (se_v rfl (v__good__row_here)) (se_i pe_int)) (se_tup (sa_cons (se_s pe_str) (sa_cons (se_s pe_str) (sa_cons (se_s pe_str) (sa_cons (se_s pe_str) (sa_cons (se_s pe_str) (sa_cons (se_s pe_str) sa_nil st_Constant) st_Constant) st_Constant) st_Constant) st_Constant) st_Constant)))))) (sb_cons (ss_asg (i := 4) nd rfl (.inl v__good__ways) (se_cb (fun t ha => pe_callB call_lenA rfl (T.blt "len" (by decide +kernel)) PySem.boot_len ha (by decide +kernel) (by decide +kernel)) pu_len (sa_cons (se_ix ix_all pu_ix (se_v rfl (v__good__row_here)) (se_i pe_int)) sa_nil st_Subscript))) sb_nil) sb_nil) sb_nil))
 refine sb_cons ?_ ?_
 ·exact (ss_if (SW.st (sw_or (st_cmp (cp_ok hu .eq) pu_cmp (se_v rfl (v__good__ways)) (se_i pe_int)) (sw_or (st_cmp (cp_ok hu .gt) pu_cmp (se_op op_addA pu_add (se_cb (fun t ha => pe_callB call_lenA rfl (T.blt "len" (by decide +kernel)) PySem.boot_len ha (by decide +kernel) (by decide +kernel)) pu_len (sa_cons (se_v rfl (v__good__works_here)) sa_nil st_Name)) (se_op op_mulB pu_mul (se_v rfl (v__good__many)) (se_op op_addA pu_add (se_v rfl (v__good__ways)) (se_i pe_int)))) (se_i pe_int)) (sw_or1 (st_cmp (cp_ok hu .gt) pu_cmp (se_cb (fun t ha => pe_callB call_lenA rfl (T.blt "len" (by decide +kernel)) PySem.boot_len ha (by decide +kernel) (by decide +kernel)) pu_len (sa_cons (se_v rfl (v__good__name_here)) sa_nil st_Name)) (se_i pe_int)))))) (sb_cons (ss_ret (se_b pe_bl)) sb_nil) sb_nil)
 refine sb_cons ?_ ?_
 ·exact (ss_for PassesOwn.never rfl nd rfl (.inl v__good__k) (si_rng1 rfl (T.blt "range" (by decide +kernel)) (sa_cons (se_v rfl (v__good__many)) sa_nil st_Name)) (sb_cons (ss_if (SW.st (sw_or (st_cmp (cp_ok hu .isin) pu_cmp (se_op op_addA pu_add (se_v rfl (v__good__name_here)) (se_cb (fun t ha => pe_callTy call_str_int rfl (T.blt "str" (by decide +kernel)) boot_str ha (by decide +kernel) (by decide +kernel)) pu_str (sa_cons (se_v rfl (v__good__k)) sa_nil st_Name))) (se_v rfl (v__good__names))) (sw_or1 (st_cmp (cp_ok hu .isin) pu_cmp (se_op op_addA pu_add (se_op op_addA pu_add (se_v rfl (v__good__name_here)) (se_cb (fun t ha => pe_callTy call_str_int rfl (T.blt "str" (by decide +kernel)) boot_str ha (by decide +kernel) (by decide +kernel)) pu_str (sa_cons (se_v rfl (v__good__k)) sa_nil st_Name))) (se_s pe_str)) (se_v rfl (v__good__names)))))) (sb_cons (ss_ret (se_b pe_bl)) sb_nil) sb_nil) (sb_cons (ss_if (SW.st (sw_and (st_cmp (cp_ok hu .eq) pu_cmp (se_v rfl (v__good__ways)) (se_i pe_int)) (sw_and1 (st_cmp (cp_ok hu .isin) pu_cmp (se_op op_addA pu_add (se_op op_addA pu_add (se_v rfl (v__good__name_here)) (se_cb (fun t ha => pe_callTy call_str_int rfl (T.blt "str" (by decide +kernel)) boot_str ha (by decide +kernel) (by decide +kernel)) pu_str (sa_cons (se_v rfl (v__good__k)) sa_nil st_Name))) (se_s pe_str)) (se_v rfl (v__good__names)))))) (sb_cons (ss_ret (se_b pe_bl)) sb_nil) sb_nil) sb_nil)))
 refine sb_cons ?_ ?_
 ·exact (ss_ret (se_b pe_bl))
 exact sb_nil
abbrev s__asked : Stmt := top 37
theorem sc__asked : FnScope ["_law_word", "_law_works_here", "_law_name_here", "_law_many"] ["_law_word", "_law_works_here", "_law_name_here", "_law_many"] (defScope s__asked) := ⟨rfl, rfl, rfl, by decide +kernel, rfl, by decide +kernel, by decide +kernel⟩
theorem v__asked__word : (defScope s__asked).names.lookup ("_law_word" : Str) = some .local := by kernel_rfl
theorem v__asked__works_here : (defScope s__asked).names.lookup ("_law_works_here" : Str) = some .local := by kernel_rfl
theorem v__asked__name_here : (defScope s__asked).names.lookup ("_law_name_here" : Str) = some .local := by kernel_rfl
theorem v__asked__many : (defScope s__asked).names.lookup ("_law_many" : Str) = some .local := by kernel_rfl
def b__asked : S := (sSeq (sIf (s2 (oCmp .eq) (sVar 0) (sCon (.int 0))) (sSeq (sRet (sCallX g_widened (sCons (sVar 1) (sCons (sVar 2) (sCons (sVar 3) sNil))))) sEnd) sEnd) (sSeq (sIf (s2 (oCmp .eq) (sVar 0) (sCon (.int 1))) (sSeq (sRet (sCallX g_fold_saved (sCons (sDct pNil) (sCons (sVar 1) (sCons (sVar 2) (sCons (sVar 3) sNil)))))) sEnd) sEnd) (sSeq (sRet (sCallX g_spread_saved (sCons (sDct pNil) (sCons (sVar 1) (sCons (sVar 2) (sCons (sVar 3) sNil)))))) sEnd)))
def g__asked : G := fnG 4 b__asked
theorem r__asked {P : Program} {w : World} {K : PySem.W.Frag} {mg : Str → Option Value} {C : Ad} {base : Heap} {k : Nat} {f : Addr} (T : Txt K mg C w) (x_widened : AtX P w K mg base k "widened" 3 g_widened) (x_fold_saved : AtX P w K mg base k "fold_saved" 4 g_fold_saved) (x_spread_saved : AtX P w K mg base k "spread_saved" 4 g_spread_saved) (cdv : Value) (A : Around) (outer : List PySem.Env) (s : Shared) (H : Hp) (E : XK) (Wx : XW) (hr : Room k (A.deeper (envOfC "_law_asked" (defScope s__asked) s.heap.objs.size f cdv))) (XF : XFit (cxX P w K mg base ["_law_word", "_law_works_here", "_law_name_here", "_law_many"] "_law_asked" s__asked f cdv A outer s H E) Wx) (XP : XPass (cxX P w K mg base ["_law_word", "_law_works_here", "_law_name_here", "_law_many"] "_law_asked" s__asked f cdv A outer s H E) Wx) :
  SB (cxX P w K mg base ["_law_word", "_law_works_here", "_law_name_here", "_law_many"] "_law_asked" s__asked f cdv A outer s H E) Wx (defBody s__asked) b__asked := by
 have hu : (cxX P w K mg base ["_law_word", "_law_works_here", "_law_name_here", "_law_many"] "_law_asked" s__asked f cdv A outer s H E).A.units + 60 < cLine := Nat.lt_of_le_of_lt (Nat.add_le_add_left (by decide) _) hr.units
 have nd := (sc__asked).nd
 refine sb_cons ?_ ?_
 ·exact (ss_if (st_cmp (cp_ok hu .eq) pu_cmp (se_v rfl (v__asked__word)) (se_i pe_int)) (sb_cons (ss_ret (SX.se XP (sx_call x_widened hr rfl (sa_cons (se_v rfl (v__asked__works_here)) (sa_cons (se_v rfl (v__asked__name_here)) (sa_cons (se_v rfl (v__asked__many)) sa_nil st_Name) st_Name) st_Name) (cnt_cons (cnt_cons (cnt_cons cnt_nil)))))) sb_nil) sb_nil)
 refine sb_cons ?_ ?_
 ·exact (ss_if (st_cmp (cp_ok hu .eq) pu_cmp (se_v rfl (v__asked__word)) (se_i pe_int)) (sb_cons (ss_ret (SX.se XP (sx_call x_fold_saved hr rfl (sa_cons se_dct0 (sa_cons (se_v rfl (v__asked__works_here)) (sa_cons (se_v rfl (v__asked__name_here)) (sa_cons (se_v rfl (v__asked__many)) sa_nil st_Name) st_Name) st_Name) st_Dict) (cnt_cons (cnt_cons (cnt_cons (cnt_cons cnt_nil))))))) sb_nil) sb_nil)
 refine sb_cons ?_ ?_
 ·exact (ss_ret (SX.se XP (sx_call x_spread_saved hr rfl (sa_cons se_dct0 (sa_cons (se_v rfl (v__asked__works_here)) (sa_cons (se_v rfl (v__asked__name_here)) (sa_cons (se_v rfl (v__asked__many)) sa_nil st_Name) st_Name) st_Name) st_Dict) (cnt_cons (cnt_cons (cnt_cons (cnt_cons cnt_nil)))))))
 exact sb_nil
abbrev s__told : Stmt := top 38
theorem sc__told : FnScope ["_law_word", "_law_works_here", "_law_name_here", "_law_many", "_law_found", "_law_refused", "e"] ["_law_word", "_law_works_here", "_law_name_here", "_law_many"] (defScope s__told) := ⟨rfl, rfl, rfl, by decide +kernel, rfl, by decide +kernel, by decide +kernel⟩
theorem v__told__word : (defScope s__told).names.lookup ("_law_word" : Str) = some .local := by kernel_rfl
theorem v__told__works_here : (defScope s__told).names.lookup ("_law_works_here" : Str) = some .local := by kernel_rfl
theorem v__told__name_here : (defScope s__told).names.lookup ("_law_name_here" : Str) = some .local := by kernel_rfl
theorem v__told__many : (defScope s__told).names.lookup ("_law_many" : Str) = some .local := by kernel_rfl
theorem v__told__found : (defScope s__told).names.lookup ("_law_found" : Str) = some .local := by kernel_rfl
theorem v__told__refused : (defScope s__told).names.lookup ("_law_refused" : Str) = some .local := by kernel_rfl
theorem v__told_e : (defScope s__told).names.lookup ("e" : Str) = some .local := by kernel_rfl
def n__told_4 : S := (sSeq (sRet (sN bLen (sCons (sVar 4) sNil))) sEnd)
def n__told_3 : S := (sSeq (sIf (sTru (sVar 5)) (sSeq (sRet (s1 oNeg (sCon (.int 1)))) sEnd) sEnd) n__told_4)
def y__told_1 : S := (sAsg 4 (sCallX g__asked (sCons (sVar 0) (sCons (sVar 1) (sCons (sVar 2) (sCons (sVar 3) sNil))))))
def h__told_1 : S := (sSeq (sAsg 5 (sCon (.bl true))) (sSeq (sIf (sOr (sNot (sTru (sIsX 6 tb_NoWide))) (sOr (sTru (sIsX 6 tb_NoName)) (sTru (sIsX 6 tb_TooMuch)))) (sSeq (sRet (s1 oNeg (sCon (.int 2)))) sEnd) sEnd) (sSeq (sIf (sNot (sTru (sIsX 6 tb_ValueError))) (sSeq (sRet (s1 oNeg (sCon (.int 2)))) sEnd) sEnd) sEnd)))
def n__told_2 : S := (sSeq (sTry 6 cat_DamError y__told_1 h__told_1) n__told_3)
def n__told_1 : S := (sSeq (sAsg 5 (sCon (.bl false))) n__told_2)
def b__told : S := (sSeq (sAsg 4 (sLst sNil)) n__told_1)
def g__told : G := fnG 7 b__told
theorem r__told {P : Program} {w : World} {K : PySem.W.Frag} {mg : Str → Option Value} {C : Ad} {base : Heap} {k : Nat} {f : Addr} (T : Txt K mg C w) (x__asked : AtX P w K mg base k "_law_asked" 4 g__asked) (cdv : Value) (A : Around) (outer : List PySem.Env) (s : Shared) (H : Hp) (E : XK) (hr : Room k (A.deeper (envOfC "_law_told" (defScope s__told) s.heap.objs.size f cdv))) :
  SB (cx0 P w K mg base ["_law_word", "_law_works_here", "_law_name_here", "_law_many", "_law_found", "_law_refused", "e"] "_law_told" s__told f cdv A outer s H E) W0 (defBody s__told) b__told := by
 have hu : (cx0 P w K mg base ["_law_word", "_law_works_here", "_law_name_here", "_law_many", "_law_found", "_law_refused", "e"] "_law_told" s__told f cdv A outer s H E).A.units + 60 < cLine := Nat.lt_of_le_of_lt (Nat.add_le_add_left (by decide) _) hr.units
 have nd := (sc__told).nd
 refine sb_cons ?_ ?_
 ·exact (ss_asg (i := 4) nd rfl (.inl v__told__found) (SN.sem (sn_lst sa_nil) lst_is))
 refine sb_cons ?_ ?_
 ·exact (ss_asg (i := 5) nd rfl (.inl v__told__refused) (se_b pe_bl))
 refine sb_cons ?_ ?_
 ·exact (ss_try (i := 6) rfl rfl rfl nd rfl v__told_e rfl T.xm_DamError T.xc_DamError (fun c h => cat_DamError_ok T c h) (fun pins E' => (bx_one (sx_asg (i := 4) nd rfl (.inl v__told__found) (sx_call x__asked hr rfl (sa_cons (se_v rfl (v__told__word)) (sa_cons (se_v rfl (v__told__works_here)) (sa_cons (se_v rfl (v__told__name_here)) (sa_cons (se_v rfl (v__told__many)) sa_nil st_Name) st_Name) st_Name) st_Name) (cnt_cons (cnt_cons (cnt_cons (cnt_cons cnt_nil)))))))) (fun e' => (sb_cons (ss_asg (i := 5) nd rfl (.inl v__told__refused) (se_b pe_bl)) (sb_cons (ss_if (SW.st (sw_or (st_not (st_tru (se_isx rfl v__told_e (fun c b h => tb_NoWide_ok T c b h) rfl (T.blt "isinstance" (by decide +kernel)) rfl T.xm_NoWide))) (sw_or (st_tru (se_isx rfl v__told_e (fun c b h => tb_NoName_ok T c b h) rfl (T.blt "isinstance" (by decide +kernel)) rfl T.xm_NoName)) (sw_or1 (st_tru (se_isx rfl v__told_e (fun c b h => tb_TooMuch_ok T c b h) rfl (T.blt "isinstance" (by decide +kernel)) rfl T.xm_TooMuch)))))) (sb_cons (ss_ret (se_un un_neg pu_neg (se_i pe_int))) sb_nil) sb_nil) (sb_cons (ss_if (st_not (st_tru (se_isxB (T := "ValueError") rfl v__told_e (fun c b h => tb_ValueError_ok T c b h) rfl (T.blt "isinstance" (by decide +kernel)) rfl (T.blt "ValueError" (by decide +kernel)) PyProof.Rows.Boot.«ValueError»))) (sb_cons (ss_ret (se_un un_neg pu_neg (se_i pe_int))) sb_nil) sb_nil) sb_nil)))))
 refine sb_cons ?_ ?_
 ·exact (ss_if (st_tru (se_v rfl (v__told__refused))) (sb_cons (ss_ret (se_un un_neg pu_neg (se_i pe_int))) sb_nil) sb_nil)
 refine sb_cons ?_ ?_
 ·exact (ss_ret (se_cb (fun t ha => pe_callB call_lenA rfl (T.blt "len" (by decide +kernel)) PySem.boot_len ha (by decide +kernel) (by decide +kernel)) pu_len (sa_cons (se_v rfl (v__told__found)) sa_nil st_Name)))
 exact sb_nil
abbrev s_law : Stmt := top 39
theorem sc_law : FnScope ["_law_script", "_law_name_here", "_law_kind", "_law_many", "_law_works_here", "_law_asked_here", "_law_some", "_law_odd", "_law_handed", "_law_found", "_law_ways"] ["_law_script"] (defScope s_law) := ⟨rfl, rfl, rfl, by decide +kernel, rfl, by decide +kernel, by decide +kernel⟩
theorem v_law__script : (defScope s_law).names.lookup ("_law_script" : Str) = some .local := by kernel_rfl
theorem v_law__name_here : (defScope s_law).names.lookup ("_law_name_here" : Str) = some .local := by kernel_rfl
theorem v_law__kind : (defScope s_law).names.lookup ("_law_kind" : Str) = some .local := by kernel_rfl
theorem v_law__many : (defScope s_law).names.lookup ("_law_many" : Str) = some .local := by kernel_rfl
theorem v_law__works_here : (defScope s_law).names.lookup ("_law_works_here" : Str) = some .local := by kernel_rfl
theorem v_law__asked_here : (defScope s_law).names.lookup ("_law_asked_here" : Str) = some .cell := by kernel_rfl
theorem v_law__some : (defScope s_law).names.lookup ("_law_some" : Str) = some .local := by kernel_rfl
theorem v_law__odd : (defScope s_law).names.lookup ("_law_odd" : Str) = some .local := by kernel_rfl
theorem v_law__handed : (defScope s_law).names.lookup ("_law_handed" : Str) = some .local := by kernel_rfl
theorem v_law__found : (defScope s_law).names.lookup ("_law_found" : Str) = some .local := by kernel_rfl
theorem v_law__ways : (defScope s_law).names.lookup ("_law_ways" : Str) = some .local := by kernel_rfl
def n_law_12 : S := (sSeq (sRet (s2 (oCmp .eq) (sVar 9) (s2 oAdd (sN bLen (sCons (sVar 4) sNil)) (s2 oMul (sVar 3) (s2 oAdd (sVar 10) (sCon (.int 1))))))) sEnd)
def c_law_1 : E := (s2 (oCmp .eq) (s2 oIx (sVar 0) (sCon (.int 1))) (sVar 1))
def e_law_1 : E := (sN bLen (sCons (s2 oIx (sVar 0) (sCon (.int 2))) sNil))
def n_law_11 : S := (sSeq (sAsg 10 (sN bMaxL (sCons (sComp [("_law_asked_here", 5)] (iLst (sVar 4)) c_law_1 e_law_1) sNil))) n_law_12)
def n_law_10 : S := (sSeq (sIf (sNot (sTru (sCall g__good (sCons (sVar 4) (sCons (sVar 5) (sCons (sVar 3) sNil)))))) (sSeq (sIf (s2 (oCmp .ne) (sCall g__told (sCons (sCon (.int 0)) (sCons (sLst (sCons (sTup (sCons (sCon (.str "in")) (sCons (sCon (.str "a")) (sCons (sTup sNil) (sCons (sTup sNil) sNil))))) (sCons (sTup (sCons (sCon (.str "keep")) (sCons (sCon (.str "b")) (sCons (sTup (sCons (sCon (.str "a")) sNil)) (sCons (sTup (sCons (sCon (.str "<")) (sCons (sCon (.str "v")) (sCons (sCon (.str "t")) sNil)))) sNil))))) sNil))) (sCons (sCon (.str "b")) (sCons (sCon (.int 2)) sNil))))) (sCon (.int 6))) (sSeq (sRet (sCon (.bl false))) sEnd) sEnd) (sSeq (sIf (sOr (s2 (oCmp .ne) (sCall g__told (sCons (sCon (.int 1)) (sCons (sVar 8) (sCons (sVar 5) (sCons (sVar 3) sNil))))) (s1 oNeg (sCon (.int 1)))) (s2 (oCmp .ne) (sCall g__told (sCons (sCon (.int 2)) (sCons (sVar 8) (sCons (sVar 5) (sCons (sVar 3) sNil))))) (s1 oNeg (sCon (.int 1))))) (sSeq (sRet (sCon (.bl false))) sEnd) sEnd) (sSeq (sRet (sAnd (s2 (oCmp .eq) (sVar 9) (s1 oNeg (sCon (.int 1)))) (s2 (oCmp .eq) (sVar 8) (sVar 4)))) sEnd))) sEnd) n_law_11)
def n_law_9 : S := (sSeq (sIf (s2 (oCmp .ne) (sVar 8) (sVar 4)) (sSeq (sRet (sCon (.bl false))) sEnd) sEnd) n_law_10)
def n_law_8 : S := (sSeq (sAsg 9 (sCall g__told (sCons (sCon (.int 0)) (sCons (sVar 8) (sCons (sVar 5) (sCons (sVar 3) sNil)))))) n_law_9)
def n_law_7 : S := (sSeq (sAsg 8 (sListN (sVar 4))) n_law_8)
def e_law_2 : E := (sVar 0)
def n_law_6 : S := (sSeq (sIf (s2 (oCmp .eq) (s2 oMod (s2 oFdiv (sCall g__cell_at (sCons (sVar 0) (sCons (sCon (.int 2)) sNil))) (sCon (.int 7))) (sCon (.int 3))) (sCon (.int 1))) (sSeq (sAsg 7 (sLst (sCons (sCon (.bl true)) (sCons (sCon .non) (sCons (sCon (.str "2")) (sCons (sLst (sCons (sCon (.int 2)) sNil)) (sCons (s2 oPow (sCon (.int 10)) (sCon (.int 20))) (sCons (s2 oSub (sCon (.int 2)) (s2 oPow (sCon (.int 10)) (sCon (.int 20)))) (sCons (sCon (.str "")) (sCons (sTup (sCons (sCon (.int 2)) sNil)) sNil)))))))))) (sSeq (sAsg 7 (s2 oAdd (sVar 7) (sComp [] (iRng2 (sCons (s1 oNeg (sCon (.int 2))) (sCons (sCon (.int 12)) sNil))) (sCon (.bl true)) e_law_2))) (sSeq (sAsg 3 (s2 oIx (sVar 7) (s2 oMod (s2 oFdiv (sCall g__cell_at (sCons (sVar 0) (sCons (sCon (.int 2)) sNil))) (sCon (.int 21))) (sN bLen (sCons (sVar 7) sNil))))) sEnd))) sEnd) n_law_7)
def e_law_3 : E := (s2 oIx (sVar 0) (sCon (.int 1)))
def n_law_5 : S := (sSeq (sIf (s2 (oCmp .eq) (s2 oMod (sCall g__cell_at (sCons (sVar 0) (sCons (sCon (.int 4)) sNil))) (sCon (.int 4))) (sCon (.int 3))) (sSeq (sAsg 6 (s2 oAdd (sComp [] (iLst (sVar 4)) (sCon (.bl true)) e_law_3) (sLst (sCons (s2 oAdd (sVar 1) (sCon (.str "q"))) (sCons (sCon (.str "")) (sCons (sSl (sVar 1) (pAt (sCon (.int 1))) pNo) (sCons (sCon (.str "Q")) sNil))))))) (sSeq (sAsg 5 (s2 oIx (sVar 6) (s2 oMod (s2 oFdiv (sCall g__cell_at (sCons (sVar 0) (sCons (sCon (.int 4)) sNil))) (sCon (.int 4))) (sN bLen (sCons (sVar 6) sNil))))) sEnd)) sEnd) n_law_6)
def n_law_4 : S := (sSeq (sAsg 5 (sVar 1)) n_law_5)
def n_law_3 : S := (sSeq (sAsg 4 (sCall g__works (sCons (sVar 0) (sCons (sVar 1) (sCons (sVar 2) (sCons (sVar 3) sNil)))))) n_law_4)
def n_law_2 : S := (sSeq (sAsg 3 (s2 oAdd (sCon (.int 2)) (s2 oMod (sCall g__cell_at (sCons (sVar 0) (sCons (sCon (.int 2)) sNil))) (sCon (.int 7))))) n_law_3)
def n_law_1 : S := (sSeq (sAsg 2 (sCall g__cell_at (sCons (sVar 0) (sCons (sCon (.int 1)) sNil)))) n_law_2)
def b_law : S := (sSeq (sAsg 1 (sCall g__name (sCons (s2 oMod (sCall g__cell_at (sCons (sVar 0) (sCons (sCon (.int 0)) sNil))) (sCon (.int 999983))) sNil))) n_law_1)
def g_law : G := fnG 11 b_law
theorem r_law {P : Program} {w : World} {K : PySem.W.Frag} {mg : Str → Option Value} {C : Ad} {base : Heap} {k : Nat} {f : Addr} (T : Txt K mg C w) (a__cell_at : AtG P w K mg base k "_law_cell_at" 2 g__cell_at) (a__name : AtG P w K mg base k "_law_name" 1 g__name) (a__works : AtG P w K mg base k "_law_works" 4 g__works) (a__good : AtG P w K mg base k "_law_good" 3 g__good) (a__told : AtG P w K mg base k "_law_told" 4 g__told) (cdv : Value) (A : Around) (outer : List PySem.Env) (s : Shared) (H : Hp) (E : XK) (hr : Room k (A.deeper (envOfC "law" (defScope s_law) s.heap.objs.size f cdv))) :
    SB (cx0 P w K mg base ["_law_script", "_law_name_here", "_law_kind", "_law_many", "_law_works_here", "_law_asked_here", "_law_some", "_law_odd", "_law_handed", "_law_found", "_law_ways"] "law" s_law f cdv A outer s H E) W0 (defBody s_law) b_law := by
  have hu : (cx0 P w K mg base ["_law_script", "_law_name_here", "_law_kind", "_law_many", "_law_works_here", "_law_asked_here", "_law_some", "_law_odd", "_law_handed", "_law_found", "_law_ways"] "law" s_law f cdv A outer s H E).A.units + 60 < cLine := Nat.lt_of_le_of_lt (Nat.add_le_add_left (by decide) _) hr.units
  have nd := (sc_law).nd
  refine sb_cons ?_ ?_
  · refine ss_asg (i := 1) ?_ ?_ ?_ ?_
    · exact nd
    · exact rfl
    · exact (.inl v_law__name_here)
    · refine se_call a__name hr rfl ?_ ?_
      · refine sa_cons ?_ ?_ ?_
        · refine se_op op_mod pu_mod ?_ ?_
          · refine se_call a__cell_at hr rfl ?_ ?_
            · refine sa_cons ?_ ?_ ?_
              · refine se_v ?_ ?_
                · exact rfl
                · exact v_law__script
              · refine sa_cons ?_ ?_ ?_
                · refine se_i ?_
                  · exact pe_int
                · exact sa_nil
                · exact st_Constant
              · exact st_Name
            · refine cnt_cons ?_
              · refine cnt_cons ?_
                · exact cnt_nil
          · refine se_i ?_
            · exact pe_int
        · exact sa_nil
        · exact st_BinOp
      · refine cnt_cons ?_
        · exact cnt_nil
  refine sb_cons ?_ ?_
  · refine ss_asg (i := 2) ?_ ?_ ?_ ?_
    · exact nd
    · exact rfl
    · exact (.inl v_law__kind)
    · refine se_call a__cell_at hr rfl ?_ ?_
      · refine sa_cons ?_ ?_ ?_
        · refine se_v ?_ ?_
          · exact rfl
          · exact v_law__script
        · refine sa_cons ?_ ?_ ?_
          · refine se_i ?_
            · exact pe_int
          · exact sa_nil
          · exact st_Constant
        · exact st_Name
      · refine cnt_cons ?_
        · refine cnt_cons ?_
          · exact cnt_nil
  refine sb_cons ?_ ?_
  · refine ss_asg (i := 3) ?_ ?_ ?_ ?_
    · exact nd
    · exact rfl
    · exact (.inl v_law__many)
    · refine se_op op_addA pu_add ?_ ?_
      · refine se_i ?_
        · exact pe_int
      · refine se_op op_mod pu_mod ?_ ?_
        · refine se_call a__cell_at hr rfl ?_ ?_
          · refine sa_cons ?_ ?_ ?_
            · refine se_v ?_ ?_
              · exact rfl
              · exact v_law__script
            · refine sa_cons ?_ ?_ ?_
              · refine se_i ?_
                · exact pe_int
              · exact sa_nil
              · exact st_Constant
            · exact st_Name
          · refine cnt_cons ?_
            · refine cnt_cons ?_
              · exact cnt_nil
        · refine se_i ?_
          · exact pe_int
  refine sb_cons ?_ ?_
  · refine ss_asg (i := 4) ?_ ?_ ?_ ?_
    · exact nd
    · exact rfl
    · exact (.inl v_law__works_here)
    · refine se_call a__works hr rfl ?_ ?_
      · refine sa_cons ?_ ?_ ?_
        · refine se_v ?_ ?_
          · exact rfl
          · exact v_law__script
        · refine sa_cons ?_ ?_ ?_
          · refine se_v ?_ ?_
            · exact rfl
            · exact v_law__name_here
          · refine sa_cons ?_ ?_ ?_
            · refine se_v ?_ ?_
              · exact rfl
              · exact v_law__kind
            · refine sa_cons ?_ ?_ ?_
              · refine se_v ?_ ?_
                · exact rfl
                · exact v_law__many
              · exact sa_nil
              · exact st_Name
            · exact st_Name
          · exact st_Name
        · exact st_Name
      · refine cnt_cons ?_
        · refine cnt_cons ?_
          · refine cnt_cons ?_
            · refine cnt_cons ?_
              · exact cnt_nil
  refine sb_cons ?_ ?_
  · refine ss_asg (i := 5) ?_ ?_ ?_ ?_
    · exact nd
    · exact rfl
    · exact (.inr v_law__asked_here)
    · refine se_v ?_ ?_
      · exact rfl
      · exact v_law__name_here
  refine sb_cons ?_ ?_
  · refine ss_if ?_ ?_ ?_
    · refine st_cmp (cp_ok hu .eq) pu_cmp ?_ ?_
      · refine se_op op_mod pu_mod ?_ ?_
        · refine se_call a__cell_at hr rfl ?_ ?_
          · refine sa_cons ?_ ?_ ?_
            · refine se_v ?_ ?_
              · exact rfl
              · exact v_law__script
            · refine sa_cons ?_ ?_ ?_
              · refine se_i ?_
                · exact pe_int
              · exact sa_nil
              · exact st_Constant
            · exact st_Name
          · refine cnt_cons ?_
            · refine cnt_cons ?_
              · exact cnt_nil
        · refine se_i ?_
          · exact pe_int
      · refine se_i ?_
        · exact pe_int
    · refine sb_cons ?_ ?_
      · refine ss_asg (i := 6) ?_ ?_ ?_ ?_
        · exact nd
        · exact rfl
        · exact (.inl v_law__some)
        · refine se_op op_addA pu_add ?_ ?_
          · refine SN.sem ?_ ?_
            · exact (sn_comp "_law_row_here" [] rfl (by decide +kernel) (si_lst (se_v rfl (v_law__works_here))) (fun _ _ _ _ _ _ => sq_none) (fun _ _ _ _ _ _ => (se_ix ix_all pu_ix (se_vV rfl (.inl (by kernel_rfl))) (se_i pe_int))))
            · exact comp_is
          · refine SN.sem ?_ ?_
            · refine sn_lst ?_
              · refine sa_cons ?_ ?_ ?_
                · refine se_op op_addA pu_add ?_ ?_
                  · refine se_v ?_ ?_
                    · exact rfl
                    · exact v_law__name_here
                  · refine se_s ?_
                    · exact pe_str
                · refine sa_cons ?_ ?_ ?_
                  · refine se_s ?_
                    · exact pe_str
                  · refine sa_cons ?_ ?_ ?_
                    · refine se_sl ?_ ?_ ?_
                      · refine se_v ?_ ?_
                        · exact rfl
                        · exact v_law__name_here
                      · refine sp_at (Wx := W0) ?_
                        · refine se_i ?_
                          · exact pe_int
                      · exact sp_no
                    · refine sa_cons ?_ ?_ ?_
                      · refine se_s ?_
                        · exact pe_str
                      · exact sa_nil
                      · exact st_Constant
                    · exact st_Subscript
                  · exact st_Constant
                · exact st_BinOp
            · exact lst_is
      · refine sb_cons ?_ ?_
        · refine ss_asg (i := 5) ?_ ?_ ?_ ?_
          · exact nd
          · exact rfl
          · exact (.inr v_law__asked_here)
          · refine se_ix ix_all pu_ix ?_ ?_
            · refine se_v ?_ ?_
              · exact rfl
              · exact v_law__some
            · refine se_op op_mod pu_mod ?_ ?_
              · refine se_op op_fdiv pu_fdiv ?_ ?_
                · refine se_call a__cell_at hr rfl ?_ ?_
                  · refine sa_cons ?_ ?_ ?_
                    · refine se_v ?_ ?_
                      · exact rfl
                      · exact v_law__script
                    · refine sa_cons ?_ ?_ ?_
                      · refine se_i ?_
                        · exact pe_int
                      · exact sa_nil
                      · exact st_Constant
                    · exact st_Name
                  · refine cnt_cons ?_
                    · refine cnt_cons ?_
                      · exact cnt_nil
                · refine se_i ?_
                  · exact pe_int
              · refine se_cb (fun t ha => pe_callB call_lenA rfl (T.blt "len" (by decide +kernel)) PySem.boot_len ha (by decide +kernel) (by decide +kernel)) pu_len ?_
                · refine sa_cons ?_ ?_ ?_
                  · refine se_v ?_ ?_
                    · exact rfl
                    · exact v_law__some
                  · exact sa_nil
                  · exact st_Name
        · exact sb_nil
    · exact sb_nil
  refine sb_cons ?_ ?_
  · refine ss_if ?_ ?_ ?_
    · refine st_cmp (cp_ok hu .eq) pu_cmp ?_ ?_
      · refine se_op op_mod pu_mod ?_ ?_
        · refine se_op op_fdiv pu_fdiv ?_ ?_
          · refine se_call a__cell_at hr rfl ?_ ?_
            · refine sa_cons ?_ ?_ ?_
              · refine se_v ?_ ?_
                · exact rfl
                · exact v_law__script
              · refine sa_cons ?_ ?_ ?_
                · refine se_i ?_
                  · exact pe_int
                · exact sa_nil
                · exact st_Constant
              · exact st_Name
            · refine cnt_cons ?_
              · refine cnt_cons ?_
                · exact cnt_nil
          · refine se_i ?_
            · exact pe_int
        · refine se_i ?_
          · exact pe_int
      · refine se_i ?_
        · exact pe_int
    · refine sb_cons ?_ ?_
      · refine ss_asg (i := 7) ?_ ?_ ?_ ?_
        · exact nd
        · exact rfl
        · exact (.inl v_law__odd)
        · refine SN.sem ?_ ?_
          · refine sn_lst ?_
            · refine sa_cons ?_ ?_ ?_
              · refine se_b ?_
                · exact pe_bl
              · refine sa_cons ?_ ?_ ?_
                · refine se_n ?_
                  · exact pe_non
                · refine sa_cons ?_ ?_ ?_
                  · refine se_s ?_
                    · exact pe_str
                  · refine sa_cons ?_ ?_ ?_
                    · refine SN.sem ?_ ?_
                      · refine sn_lst ?_
                        · refine sa_cons ?_ ?_ ?_
                          · refine se_i ?_
                            · exact pe_int
                          · exact sa_nil
                          · exact st_Constant
                      · exact lst_is
                    · refine sa_cons ?_ ?_ ?_
                      · refine se_op op_pow pu_pow ?_ ?_
                        · refine se_i ?_
                          · exact pe_int
                        · refine se_i ?_
                          · exact pe_int
                      · refine sa_cons ?_ ?_ ?_
                        · refine se_op op_sub pu_sub ?_ ?_
                          · refine se_i ?_
                            · exact pe_int
                          · refine se_op op_pow pu_pow ?_ ?_
                            · refine se_i ?_
                              · exact pe_int
                            · refine se_i ?_
                              · exact pe_int
                        · refine sa_cons ?_ ?_ ?_
                          · refine se_s ?_
                            · exact pe_str
                          · refine sa_cons ?_ ?_ ?_
                            · refine se_tup ?_
                              · refine sa_cons ?_ ?_ ?_
                                · refine se_i ?_
                                  · exact pe_int
                                · exact sa_nil
                                · exact st_Constant
                            · exact sa_nil
                            · exact st_Tuple
                          · exact st_Constant
                        · exact st_BinOp
                      · exact st_BinOp
                    · exact st_List
                  · exact st_Constant
                · exact st_Constant
              · exact st_Constant
          · exact lst_is
      · refine sb_cons ?_ ?_
        · refine ss_asg (i := 7) ?_ ?_ ?_ ?_
          · exact nd
          · exact rfl
          · exact (.inl v_law__odd)
          · refine se_op op_addA pu_add ?_ ?_
            · refine se_v ?_ ?_
              · exact rfl
              · exact v_law__odd
            · refine SN.sem ?_ ?_
              · exact (sn_comp "_law_k" [] rfl (by decide +kernel) (si_rng2 rfl (T.blt "range" (by decide +kernel)) (sa_cons (se_un un_neg pu_neg (se_i pe_int)) (sa_cons (se_i pe_int) sa_nil st_Constant) st_UnaryOp)) (fun _ _ _ _ _ _ => sq_none) (fun _ _ _ _ _ _ => (se_vV rfl (.inl (by kernel_rfl)))))
              · exact comp_is
        · refine sb_cons ?_ ?_
          · refine ss_asg (i := 3) ?_ ?_ ?_ ?_
            · exact nd
            · exact rfl
            · exact (.inl v_law__many)
            · refine se_ix ix_all pu_ix ?_ ?_
              · refine se_v ?_ ?_
                · exact rfl
                · exact v_law__odd
              · refine se_op op_mod pu_mod ?_ ?_
                · refine se_op op_fdiv pu_fdiv ?_ ?_
                  · refine se_call a__cell_at hr rfl ?_ ?_
                    · refine sa_cons ?_ ?_ ?_
                      · refine se_v ?_ ?_
                        · exact rfl
                        · exact v_law__script
                      · refine sa_cons ?_ ?_ ?_
                        · refine se_i ?_
                          · exact pe_int
                        · exact sa_nil
                        · exact st_Constant
                      · exact st_Name
                    · refine cnt_cons ?_
                      · refine cnt_cons ?_
                        · exact cnt_nil
                  · refine se_i ?_
                    · exact pe_int
                · refine se_cb (fun t ha => pe_callB call_lenA rfl (T.blt "len" (by decide +kernel)) PySem.boot_len ha (by decide +kernel) (by decide +kernel)) pu_len ?_
                  · refine sa_cons ?_ ?_ ?_
                    · refine se_v ?_ ?_
                      · exact rfl
                      · exact v_law__odd
                    · exact sa_nil
                    · exact st_Name
          · exact sb_nil
    · exact sb_nil
  refine sb_cons ?_ ?_
  · refine ss_asg (i := 8) ?_ ?_ ?_ ?_
    · exact nd
    · exact rfl
    · exact (.inl v_law__handed)
    · refine SN.sem ?_ ?_
      · refine sn_list ?_ ?_ ?_
        · exact rfl
        · exact (T.blt "list" (by decide +kernel))
        · refine se_v ?_ ?_
          · exact rfl
          · exact v_law__works_here
      · exact list_is
  refine sb_cons ?_ ?_
  · refine ss_asg (i := 9) ?_ ?_ ?_ ?_
    · exact nd
    · exact rfl
    · exact (.inl v_law__found)
    · refine se_call a__told hr rfl ?_ ?_
      · refine sa_cons ?_ ?_ ?_
        · refine se_i ?_
          · exact pe_int
        · refine sa_cons ?_ ?_ ?_
          · refine se_v ?_ ?_
            · exact rfl
            · exact v_law__handed
          · refine sa_cons ?_ ?_ ?_
            · refine se_vV ?_ ?_
              · exact rfl
              · exact (.inr (.inl v_law__asked_here))
            · refine sa_cons ?_ ?_ ?_
              · refine se_v ?_ ?_
                · exact rfl
                · exact v_law__many
              · exact sa_nil
              · exact st_Name
            · exact st_Name
          · exact st_Name
        · exact st_Constant
      · refine cnt_cons ?_
        · refine cnt_cons ?_
          · refine cnt_cons ?_
            · refine cnt_cons ?_
              · exact cnt_nil
  refine sb_cons ?_ ?_
  · refine ss_if ?_ ?_ ?_
    · refine st_cmp (cp_ok hu .ne) pu_cmp ?_ ?_
      · refine se_v ?_ ?_
        · exact rfl
        · exact v_law__handed
      · refine se_v ?_ ?_
        · exact rfl
        · exact v_law__works_here
    · refine sb_cons ?_ ?_
      · refine ss_ret ?_
        · refine se_b ?_
          · exact pe_bl
      · exact sb_nil
    · exact sb_nil
  refine sb_cons ?_ ?_
  · refine ss_if ?_ ?_ ?_
    · refine st_not ?_
      · refine st_tru ?_
        · refine se_call a__good hr rfl ?_ ?_
          · refine sa_cons ?_ ?_ ?_
            · refine se_v ?_ ?_
              · exact rfl
              · exact v_law__works_here
            · refine sa_cons ?_ ?_ ?_
              · refine se_vV ?_ ?_
                · exact rfl
                · exact (.inr (.inl v_law__asked_here))
              · refine sa_cons ?_ ?_ ?_
                · refine se_v ?_ ?_
                  · exact rfl
                  · exact v_law__many
                · exact sa_nil
                · exact st_Name
              · exact st_Name
            · exact st_Name
          · refine cnt_cons ?_
            · refine cnt_cons ?_
              · refine cnt_cons ?_
                · exact cnt_nil
    · refine sb_cons ?_ ?_
      · refine ss_if ?_ ?_ ?_
        · refine st_cmp (cp_ok hu .ne) pu_cmp ?_ ?_
          · refine se_call a__told hr rfl ?_ ?_
            · refine sa_cons ?_ ?_ ?_
              · refine se_i ?_
                · exact pe_int
              · refine sa_cons ?_ ?_ ?_
                · refine SN.sem ?_ ?_
                  · refine sn_lst ?_
                    · refine sa_cons ?_ ?_ ?_
                      · refine se_tup ?_
                        · refine sa_cons ?_ ?_ ?_
                          · refine se_s ?_
                            · exact pe_str
                          · refine sa_cons ?_ ?_ ?_
                            · refine se_s ?_
                              · exact pe_str
                            · refine sa_cons ?_ ?_ ?_
                              · refine se_tup ?_
                                · exact sa_nil
                              · refine sa_cons ?_ ?_ ?_
                                · refine se_tup ?_
                                  · exact sa_nil
                                · exact sa_nil
                                · exact st_Tuple
                              · exact st_Tuple
                            · exact st_Constant
                          · exact st_Constant
                      · refine sa_cons ?_ ?_ ?_
                        · refine se_tup ?_
                          · refine sa_cons ?_ ?_ ?_
                            · refine se_s ?_
                              · exact pe_str
                            · refine sa_cons ?_ ?_ ?_
                              · refine se_s ?_
                                · exact pe_str
                              · refine sa_cons ?_ ?_ ?_
                                · refine se_tup ?_
                                  · refine sa_cons ?_ ?_ ?_
                                    · refine se_s ?_
                                      · exact pe_str
                                    · exact sa_nil
                                    · exact st_Constant
                                · refine sa_cons ?_ ?_ ?_
                                  · refine se_tup ?_
                                    · refine sa_cons ?_ ?_ ?_
                                      · refine se_s ?_
                                        · exact pe_str
                                      · refine sa_cons ?_ ?_ ?_
                                        · refine se_s ?_
                                          · exact pe_str
                                        · refine sa_cons ?_ ?_ ?_
                                          · refine se_s ?_
                                            · exact pe_str
                                          · exact sa_nil
                                          · exact st_Constant
                                        · exact st_Constant
                                      · exact st_Constant
                                  · exact sa_nil
                                  · exact st_Tuple
                                · exact st_Tuple
                              · exact st_Constant
                            · exact st_Constant
                        · exact sa_nil
                        · exact st_Tuple
                      · exact st_Tuple
                  · exact lst_is
                · refine sa_cons ?_ ?_ ?_
                  · refine se_s ?_
                    · exact pe_str
                  · refine sa_cons ?_ ?_ ?_
                    · refine se_i ?_
                      · exact pe_int
                    · exact sa_nil
                    · exact st_Constant
                  · exact st_Constant
                · exact st_List
              · exact st_Constant
            · refine cnt_cons ?_
              · refine cnt_cons ?_
                · refine cnt_cons ?_
                  · refine cnt_cons ?_
                    · exact cnt_nil
          · refine se_i ?_
            · exact pe_int
        · refine sb_cons ?_ ?_
          · refine ss_ret ?_
            · refine se_b ?_
              · exact pe_bl
          · exact sb_nil
        · exact sb_nil
      · refine sb_cons ?_ ?_
        · refine ss_if ?_ ?_ ?_
          · refine SW.st ?_
            · refine sw_or ?_ ?_
              · refine st_cmp (cp_ok hu .ne) pu_cmp ?_ ?_
                · refine se_call a__told hr rfl ?_ ?_
                  · refine sa_cons ?_ ?_ ?_
                    · refine se_i ?_
                      · exact pe_int
                    · refine sa_cons ?_ ?_ ?_
                      · refine se_v ?_ ?_
                        · exact rfl
                        · exact v_law__handed
                      · refine sa_cons ?_ ?_ ?_
                        · refine se_vV ?_ ?_
                          · exact rfl
                          · exact (.inr (.inl v_law__asked_here))
                        · refine sa_cons ?_ ?_ ?_
                          · refine se_v ?_ ?_
                            · exact rfl
                            · exact v_law__many
                          · exact sa_nil
                          · exact st_Name
                        · exact st_Name
                      · exact st_Name
                    · exact st_Constant
                  · refine cnt_cons ?_
                    · refine cnt_cons ?_
                      · refine cnt_cons ?_
                        · refine cnt_cons ?_
                          · exact cnt_nil
                · refine se_un un_neg pu_neg ?_
                  · refine se_i ?_
                    · exact pe_int
              · refine sw_or1 ?_
                · refine st_cmp (cp_ok hu .ne) pu_cmp ?_ ?_
                  · refine se_call a__told hr rfl ?_ ?_
                    · refine sa_cons ?_ ?_ ?_
                      · refine se_i ?_
                        · exact pe_int
                      · refine sa_cons ?_ ?_ ?_
                        · refine se_v ?_ ?_
                          · exact rfl
                          · exact v_law__handed
                        · refine sa_cons ?_ ?_ ?_
                          · refine se_vV ?_ ?_
                            · exact rfl
                            · exact (.inr (.inl v_law__asked_here))
                          · refine sa_cons ?_ ?_ ?_
                            · refine se_v ?_ ?_
                              · exact rfl
                              · exact v_law__many
                            · exact sa_nil
                            · exact st_Name
                          · exact st_Name
                        · exact st_Name
                      · exact st_Constant
                    · refine cnt_cons ?_
                      · refine cnt_cons ?_
                        · refine cnt_cons ?_
                          · refine cnt_cons ?_
                            · exact cnt_nil
                  · refine se_un un_neg pu_neg ?_
                    · refine se_i ?_
                      · exact pe_int
          · refine sb_cons ?_ ?_
            · refine ss_ret ?_
              · refine se_b ?_
                · exact pe_bl
            · exact sb_nil
          · exact sb_nil
        · refine sb_cons ?_ ?_
          · refine ss_ret ?_
            · refine se_and ?_ ?_
              · refine se_cmp (cp_ok hu .eq) pu_cmp ?_ ?_
                · refine se_v ?_ ?_
                  · exact rfl
                  · exact v_law__found
                · refine se_un un_neg pu_neg ?_
                  · refine se_i ?_
                    · exact pe_int
              · refine se_one ?_
                · refine se_cmp (cp_ok hu .eq) pu_cmp ?_ ?_
                  · refine se_v ?_ ?_
                    · exact rfl
                    · exact v_law__handed
                  · refine se_v ?_ ?_
                    · exact rfl
                    · exact v_law__works_here
          · exact sb_nil
    · exact sb_nil
  refine sb_cons ?_ ?_
  · refine ss_asg (i := 10) ?_ ?_ ?_ ?_
    · exact nd
    · exact rfl
    · exact (.inl v_law__ways)
    · refine se_cb (fun t ha => pe_callB (call_maxL rfl) rfl (T.blt "max" (by decide +kernel)) boot_max ha (by decide +kernel) (by decide +kernel)) pu_maxL ?_
      · refine sa_cons ?_ ?_ ?_
        · refine SN.sem ?_ ?_
          · exact (sn_comp "_law_row_here" [("_law_asked_here", 5)] rfl (by decide +kernel) (si_lst (se_v rfl (v_law__works_here))) (fun _ _ _ _ _ _ => (sq_one (st_cmp (cp_ok (X := compCx _ _ _ _ _ _ _ _ _) hu .eq) pu_cmp (se_ix ix_all pu_ix (se_vV rfl (.inl (by kernel_rfl))) (se_i pe_int)) (se_vV rfl (.inr (.inl (by kernel_rfl))))))) (fun _ _ _ _ _ _ => (se_cb (fun t ha => pe_callB call_lenA rfl (T.blt "len" (by decide +kernel)) PySem.boot_len ha (by decide +kernel) (by decide +kernel)) pu_len (sa_cons (se_ix ix_all pu_ix (se_vV rfl (.inl (by kernel_rfl))) (se_i pe_int)) sa_nil st_Subscript))))
          · exact comp_is
        · exact sa_nil
        · exact st_ListComp
  refine sb_cons ?_ ?_
  · refine ss_ret ?_
    · refine se_cmp (cp_ok hu .eq) pu_cmp ?_ ?_
      · refine se_v ?_ ?_
        · exact rfl
        · exact v_law__found
      · refine se_op op_addA pu_add ?_ ?_
        · refine se_cb (fun t ha => pe_callB call_lenA rfl (T.blt "len" (by decide +kernel)) PySem.boot_len ha (by decide +kernel) (by decide +kernel)) pu_len ?_
          · refine sa_cons ?_ ?_ ?_
            · refine se_v ?_ ?_
              · exact rfl
              · exact v_law__works_here
            · exact sa_nil
            · exact st_Name
        · refine se_op op_mulB pu_mul ?_ ?_
          · refine se_v ?_ ?_
            · exact rfl
            · exact v_law__many
          · refine se_op op_addA pu_add ?_ ?_
            · refine se_v ?_ ?_
              · exact rfl
              · exact v_law__ways
            · refine se_i ?_
              · exact pe_int
  exact sb_nil
def lawK : Nat := 7
def lawG : G := g_law
local macro_rules | `(tactic| walk_at "all") => `(tactic| try simp only [q_seq, r_nx, r_rt, r_bk, r_ct, r_ex, q_end, q_v, q_vb, r_v, r_vb, r_vo, q_con, r_map, q_1, r_1, q_2, r_2, r_2s, w_int, w_str, w_bl, w_non, w_tup, w_lst, q_tru, q_notv, q_not, r_not, q_and, q_or, q_ite, r_ite, q_nil, q_cons, r_cons, r_conA, q_n, r_n, r_argK, q_tup, q_lst, r_callR, q_call, r_bndK, r_cellD, q_cell, r_listL, q_list, q_srt, q_sl, r_slL, r_slH, q_pno, q_pat, r_pat, r_bndT, q_asg, r_mine, q_mine, q_ret, q_retN, q_drop, r_if, q_if, q_frz, r_frz, q_app, r_app, q_for, r_for, q_ilst, r_ilst, q_rng1, q_fn, r_endR, r_endN, o_addI, o_addL, o_sub, o_fdiv, o_mod, o_pow, o_neg, o_lt, o_le, o_gt, o_ge, o_eqI, o_neI, o_ixL, o_ixT, o_lenL, o_lenT, o_min, o_max, o_truL, o_truB, o_slS, o_slL, o_isiL, sizeLine_eq, Option.map_some, Option.map_none, List.getElem?_cons_zero, List.getElem?_cons_succ, List.set_cons_zero, List.set_cons_succ, List.map_cons, List.map_nil, List.length_cons, List.length_nil, List.length_map, List.replicate, List.cons_append, List.nil_append, List.append_nil, reduceCtorEq, if_true, if_false, reduceIte, Bool.not_true, Bool.not_false, Nat.reduceSub, Nat.reduceAdd, Nat.reduceLeDiff, Nat.reduceLT, Int.reduceLT, Int.reduceLE, Int.reduceAdd, Int.reduceSub, Int.reduceMul, Int.reduceNeg, Int.reduceAbs, Int.reduceEq, Int.reducePow, Int.reduceMod, Int.reduceDiv, Int.reduceToNat, Nat.zero_le, and_true, true_and, and_self, or_true, true_or, Bool.false_eq_true, decide_eq_true_eq, decide_true, decide_false, Bool.not_eq_true', decide_eq_false_iff_not, not_true_eq_false, not_false_eq_true, eq_self, q_comp, r_comp, r_compO, q_capN, q_capC, Option.getD_some, q_isi, r_isi, ty_int, ty_str, ty_bl, ty_non, ty_tup, ty_lst, v_int, v_str, v_bl, v_non, v_tup, v_lst, v_dct, q_unp, r_unp, q_setE0, q_setE1, q_itp, r_itp, r_endX, o_mul, o_abs, List.isEmpty_cons, List.isEmpty_nil, Bool.true_eq_false, Bool.and_self, Bool.and_true, Bool.true_and, Bool.and_false, Bool.false_and, r_bndTx, r_bndKx, r_argKx, r_consx, r_conAx, r_lsC, r_popZ, r_popC, q_pop, r_lsS, r_appC, q_appC, r_argX, q_callX, r_unE, r_tryHn, r_tryHr, r_tryN, r_tryRt, r_tryX, q_try, r_isx, q_isx, r_kin, q_kin, r_kget, q_kget, q_itx, r_itx, q_irv, r_irv, q_irvT, r_irvT, r_mt, q_mt, t_st, q_fst, q_jend, q_jcon, r_jv, q_jval, r_jr, q_jrep, o_cat, o_addS, o_rep, o_ixS, o_lenS, o_str, o_int, o_any, o_tupL, o_inS, o_ninS, o_eqS, o_neS, o_isNn, o_isnI, o_isnN, t_ls, t_txS, t_txI, Bool.true_or, Bool.false_or, Bool.or_true, Bool.or_false, at0, at1, at2, at3, g_end, s_end, w_end, q_loop0, q_loop1, r_stN, r_stC, r_stB, r_stR, r_stX, o_intB])
variable {M : Mm}
theorem msg_v {x z c : Str} {env : E3.Env} {k : Nat} (he : env[k]? = some (.val (.str x))) (hx : x.length ≤ 100000) (hz : z.length ≤ 1000) : sRaise c (sFst (jVal (sVar k) (jCon z jEnd))) env M = some (.ex c 0, M) := by
 rw [q_raise, q_fst, q_jval, q_v, he, r_v, r_bndK, t_txS, sizeLine_eq, if_pos (show x.length ≤ 16777216 by omega), r_jv, sizeLine_eq]
 have e : (Str.empty ++ x).length = x.length := by rw [strLen_append, show Str.empty.length = 0 from rfl]; omega
 rw [if_pos (by omega), q_jcon, sizeLine_eq, if_pos (by rw [strLen_append]; omega), q_jend, sizeLine_eq, if_pos (by rw [strLen_append]; omega)]
 rfl
theorem msg_r {x z c : Str} {env : E3.Env} {k : Nat} (he : env[k]? = some (.val (.str x))) (hx : (reprText x).length ≤ 100000) (hz : z.length ≤ 1000) : sRaise c (sFst (jRep (sVar k) (jCon z jEnd))) env M = some (.ex c 0, M) := by
 rw [q_raise, q_fst, q_jrep, q_v, he, r_v, r_bndK]
 have e : (Str.empty ++ reprText x).length = (reprText x).length := by rw [strLen_append, show Str.empty.length = 0 from rfl]; omega
 rw [r_jr, sizeLine_eq, if_pos ⟨by omega, by omega⟩, q_jcon, sizeLine_eq, if_pos (by rw [strLen_append]; omega), q_jend, sizeLine_eq, if_pos (by rw [strLen_append]; omega)]
 rfl
def sm (x : Str) : Prop := x.length ≤ 9000 ∧ ∀ c ∈ cd x, c < 4294967296
theorem sm.rp {x : Str} (h : sm x) : (reprText x).length ≤ 100000 := by
 have := StrLaws.reprText_len x (fun c hc => h.2 c hc)
 have := h.1
 omega
structure Rw where
 w : Str
 nm : Str
 fr : List Str
 rs : List Str
def enc (r : Rw) : D := .tup [.str r.w, .str r.nm, .tup (r.fr.map .str), .tup (r.rs.map .str)]
theorem w_enc {r : Rw} : vw M (enc r) = enc r := rfl
theorem i_w {r : Rw} : oIx (enc r) (.int 0) = some (.str r.w) := rfl
theorem i_n {r : Rw} : oIx (enc r) (.int 1) = some (.str r.nm) := rfl
theorem i_f {r : Rw} : oIx (enc r) (.int 2) = some (.tup (r.fr.map .str)) := rfl
theorem i_r {r : Rw} : oIx (enc r) (.int 3) = some (.tup (r.rs.map .str)) := rfl
local macro_rules | `(tactic| walk_at "all") => `(tactic| try simp only [q_seq, r_nx, r_rt, r_bk, r_ct, r_ex, q_end, q_v, q_vb, r_v, r_vb, r_vo, q_con, r_map, q_1, r_1, q_2, r_2, r_2s, w_int, w_str, w_bl, w_non, w_tup, w_lst, q_tru, q_notv, q_not, r_not, q_and, q_or, q_ite, r_ite, q_nil, q_cons, r_cons, r_conA, q_n, r_n, r_argK, q_tup, q_lst, r_callR, q_call, r_bndK, r_cellD, q_cell, r_listL, q_list, q_srt, q_sl, r_slL, r_slH, q_pno, q_pat, r_pat, r_bndT, q_asg, r_mine, q_mine, q_ret, q_retN, q_drop, r_if, q_if, q_frz, r_frz, q_app, r_app, q_for, r_for, q_ilst, r_ilst, q_rng1, q_fn, r_endR, r_endN, o_addI, o_addL, o_sub, o_fdiv, o_mod, o_pow, o_neg, o_lt, o_le, o_gt, o_ge, o_eqI, o_neI, o_ixL, o_ixT, o_lenL, o_lenT, o_min, o_max, o_truL, o_truB, o_slS, o_slL, o_isiL, sizeLine_eq, Option.map_some, Option.map_none, List.getElem?_cons_zero, List.getElem?_cons_succ, List.set_cons_zero, List.set_cons_succ, List.map_cons, List.map_nil, List.length_cons, List.length_nil, List.length_map, List.replicate, List.cons_append, List.nil_append, List.append_nil, reduceCtorEq, if_true, if_false, reduceIte, Bool.not_true, Bool.not_false, Nat.reduceSub, Nat.reduceAdd, Nat.reduceLeDiff, Nat.reduceLT, Int.reduceLT, Int.reduceLE, Int.reduceAdd, Int.reduceSub, Int.reduceMul, Int.reduceNeg, Int.reduceAbs, Int.reduceEq, Int.reducePow, Int.reduceMod, Int.reduceDiv, Int.reduceToNat, Nat.zero_le, and_true, true_and, and_self, or_true, true_or, Bool.false_eq_true, decide_eq_true_eq, decide_true, decide_false, Bool.not_eq_true', decide_eq_false_iff_not, not_true_eq_false, not_false_eq_true, eq_self, q_comp, r_comp, r_compO, q_capN, q_capC, Option.getD_some, q_isi, r_isi, ty_int, ty_str, ty_bl, ty_non, ty_tup, ty_lst, v_int, v_str, v_bl, v_non, v_tup, v_lst, v_dct, q_unp, r_unp, q_setE0, q_setE1, q_itp, r_itp, r_endX, o_mul, o_abs, List.isEmpty_cons, List.isEmpty_nil, Bool.true_eq_false, Bool.and_self, Bool.and_true, Bool.true_and, Bool.and_false, Bool.false_and, r_bndTx, r_bndKx, r_argKx, r_consx, r_conAx, r_lsC, r_popZ, r_popC, q_pop, r_lsS, r_appC, q_appC, r_argX, q_callX, r_unE, r_tryHn, r_tryHr, r_tryN, r_tryRt, r_tryX, q_try, r_isx, q_isx, r_kin, q_kin, r_kget, q_kget, q_itx, r_itx, q_irv, r_irv, q_irvT, r_irvT, r_mt, q_mt, t_st, q_fst, q_jend, q_jcon, r_jv, q_jval, r_jr, q_jrep, o_cat, o_addS, o_rep, o_ixS, o_lenS, o_str, o_int, o_any, o_tupL, o_inS, o_ninS, o_eqS, o_neS, o_isNn, o_isnI, o_isnN, t_ls, t_txS, t_txI, Bool.true_or, Bool.false_or, Bool.or_true, Bool.or_false, at0, at1, at2, at3, g_end, s_end, w_end, q_loop0, q_loop1, r_stN, r_stC, r_stB, r_stR, r_stX, o_intB, w_enc, i_w, i_n, i_f, i_r])
theorem st_dep : ∀ ys : List Str, D.deps (ys.map D.str) = 0
 | [] => by simp [D.deps]
 | y :: ys => by simp [D.deps, D.dep, st_dep ys]
theorem enc_dep (r : Rw) : (enc r).dep ≤ 2 := by
 simp only [enc, D.dep, D.deps, st_dep]
 decide
theorem encs_dep : ∀ W : List Rw, D.deps (W.map enc) ≤ 2
  | [] => by simp [D.deps]
  | r :: W => by
    have h1 := enc_dep r
    have h2 := encs_dep W
    rw [List.map_cons, D.deps]
    omega
theorem sm_app {x y : Str} (hx : sm x) (hy : sm y) (h : x.length + y.length ≤ 9000) : sm (x ++ y) := by
 refine ⟨by rw [strLen_append]; exact h, fun c hc => ?_⟩
 rw [cd_app, List.mem_append] at hc
 exact hc.elim (hx.2 c) (hy.2 c)
theorem shw_sm {n : Nat} (h : n < 1000) : sm (shw n) ∧ (shw n).length ≤ 4 := by
 have l := shw_len (i := (n : Int)) (k := 3) (by decide) (by simpa using h)
 refine ⟨⟨by omega, fun c hc => ?_⟩, l⟩
 unfold cd at hc
 rw [shw_nn (by omega)] at hc
 have := dg_all _ c hc
 omega
theorem log_nn {n : Nat} (h : n < 1000) : ((n : Int).natAbs).log2 < 1920 := log_nat (by omega)
theorem e_app (x : Str) : Str.empty ++ x = x := cd_inj (by rw [cd_app]; rfl)
def prt (nm : Str) (k : Nat) : Str := nm ++ shw k
def shs (nm : Str) (ways k : Nat) : List Str := [prt nm k ++ Str.ofString "l", prt nm k ++ Str.ofString "r"].take ways
theorem t_pn {nm : Str} {k : Nat} (h : nm.length ≤ 1000) (hk : k < 1000) : e_part_names_1 [.val (.int (0 + (k : Int))), .val (.str nm)] M = some (.v (.str (prt nm k)), M) := by
 have l := (shw_sm hk).2
 unfold e_part_names_1 prt
 rw [show (0 : Int) + (k : Int) = (k : Int) by omega]
 walk_at "all"
 rw [if_pos (show nm.length ≤ 16777216 by omega)]
 walk_at "all"
 rw [e_app, if_pos (by omega), if_pos (log_nn hk)]
 walk_at "all"
 have hl : (nm ++ Str.ofString (toString (k : Int))).length ≤ 16777216 := by rw [strLen_append]; show _ + (shw k).length ≤ _; omega
 rw [if_pos hl, if_pos hl]
 rfl
theorem g_pn {nm : Str} {m : Nat} (h : nm.length ≤ 1000) (hm : m ≤ 100) : g_part_names [.str nm, .int m] M = some (.v (.lst ((List.range m).map fun k => D.str (prt nm k))), M) := by
 unfold g_part_names b_part_names
 walk_at "all"
 rw [r_rng1 (by omega), Int.toNat_natCast]
 walk_at "all"
 rw [comp_of (fun (k : Nat) => D.int (0 + k)) (fun k => D.str (prt nm k)) (List.range m) [] (fun k hk => t_pn h (by have := List.mem_range.mp hk; omega)) (by rw [sizeLine_eq, List.length_range]; simp; omega)]
 walk_at "all"
theorem g_sn {nm : Str} {k ways : Nat} (h : nm.length ≤ 1000) (hk : k < 1000) (hw : ways = 1 ∨ ways = 2) : g_share_names [.str (prt nm k), .int ways] M = some (.v (.lst ((shs nm ways k).map D.str)), M) := by
 have l := (shw_sm hk).2
 have l2 : (prt nm k).length ≤ 1004 := by unfold prt; rw [strLen_append]; omega
 unfold g_share_names b_share_names shs
 generalize prt nm k = x at l2
 walk_at "all"
 rw [if_pos (show x.length ≤ 16777216 by omega)]
 walk_at "all"
 have hl : (x ++ Str.ofString "l").length ≤ 16777216 := by rw [strLen_append, show (Str.ofString "l").length = 1 by decide +kernel]; omega
 have hr : (x ++ Str.ofString "r").length ≤ 16777216 := by rw [strLen_append, show (Str.ofString "r").length = 1 by decide +kernel]; omega
 rw [e_app, if_pos (by omega), if_pos hl, if_pos hl]
 walk_at "all"
 rw [if_pos (show x.length ≤ 16777216 by omega)]
 walk_at "all"
 rw [e_app, if_pos (by omega), if_pos hr, if_pos hr]
 walk_at "all"
 rw [cut_to _ (by omega), Int.toNat_natCast]
 rcases hw with rfl | rfl <;> rfl
variable {M : Mm}
def WW : List Str := ["keep", "turn", "fixed", "slide", "gap", "join"]
def wideB (x : Str) : Bool := WW.any fun y => decide (x = y)
theorem o_wide {x : Str} : oCmp .isin (.str x) (.tup [.str "keep", .str "turn", .str "fixed", .str "slide", .str "gap", .str "join"]) = some (.bl (wideB x)) := by
 have q : ∀ y : Str, D.eq (.str y) (.str x) = decide (x = y) := fun y => by
  simp only [D.eq]
  rw [Bool.eq_iff_iff]
  simp
  exact eq_comm
 unfold oCmp cmpD cIn wideB WW
 simp only [D.flat, List.all_cons, List.all_nil, Bool.and_self, if_true, List.any_cons, List.any_nil, Bool.or_false, q, Option.map_some]
def isW (a : Str) (r : Rw) : Bool := decide (r.nm = a) && wideB r.w
theorem wr_loop {d0 : D} {a : Str} : ∀ (W : List Rw) (s2 : E3.Slot), match W.find? (isW a) with
    | some r => loopS 2 l_wide_row_1 (W.map enc) [.val d0, .val (.str a), s2] M = some (.rt (enc r), M)
    | none => ∃ t2, loopS 2 l_wide_row_1 (W.map enc) [.val d0, .val (.str a), s2] M = some (.nx [.val d0, .val (.str a), t2], M)
  | [], s2 => ⟨s2, rfl⟩
  | r :: W, s2 => by
    have tn : l_wide_row_1 [.val d0, .val (.str a), .val (enc r)] M = if isW a r = true then some (.rt (enc r), M) else some (.nx [.val d0, .val (.str a), .val (enc r)], M) := by
      unfold l_wide_row_1 isW
      walk_at "all"
      by_cases h : r.nm = a
      · simp only [h]
        walk_at "all"
        rw [o_wide]
        cases wideB r.w
        · walk_at "all"
        · walk_at "all"
      · simp only [h]
        walk_at "all"
    rw [List.find?_cons, List.map_cons]
    cases hb : isW a r
    · have ih := wr_loop (d0 := d0) (a := a) W (.val (enc r))
      dsimp only
      revert ih
      cases W.find? (isW a) with
      | some q =>
        intro ih
        dsimp only at ih ⊢
        walk_at "all"
        rw [tn, hb, if_neg (by decide), r_stN]
        exact ih
      | none =>
        intro ih
        dsimp only at ih ⊢
        walk_at "all"
        rw [tn, hb, if_neg (by decide), r_stN]
        exact ih
    · dsimp only
      walk_at "all"
      rw [tn, hb, if_pos rfl, r_stR]
theorem g_wr {W : List Rw} {a : Str} (ha : sm a) : g_wide_row [.lst (W.map enc), .str a] M = match W.find? (isW a) with
    | some r => some (.v (enc r), M)
    | none => some (.x "NoWide" 0, M) := by
  have lp := wr_loop (M := M) (d0 := .lst (W.map enc)) (a := a) W .un
  unfold g_wide_row b_wide_row
  revert lp
  cases W.find? (isW a) with
  | some r =>
    intro lp
    dsimp only at lp ⊢
    walk_at "all"
    rw [lp]
    walk_at "all"
  | none =>
    rintro ⟨t2, lp⟩
    dsimp only
    walk_at "all"
    rw [lp]
    walk_at "all"
    rw [msg_r (k := 1) rfl ha.rp (by decide +kernel)]
    walk_at "all"
def mkR (R : Rw) (m k : Nat) : List Rw := ((shs R.nm R.fr.length k).zip R.fr).map (fun p => ⟨"share", p.1, [p.2], [shw k, shw m]⟩) ++ [⟨R.w, prt R.nm k, shs R.nm R.fr.length k, R.rs⟩]
theorem q_loopU0 {is : List Nat} {b : S} {env : E3.Env} : loopU is b [] env M = some (.nx env, M) := rfl
theorem z_turn {R : Rw} {d2 d5 d6 : D} {m k : Nat} {x src : Str} {acc : List D} (hm : m < 1000) (hk : k < 1000) (ha : acc.length ≤ 100000) : l_rows_in_place_1 [.val (enc R), .val (.int m), .val d2, .own acc, .val (.int k), .val d5, .val d6, .val (.str x), .val (.str src)] M = some (.nx [.val (enc R), .val (.int m), .val d2, .own (acc ++ [enc ⟨"share", x, [src], [shw k, shw m]⟩]), .val (.int k), .val d5, .val d6, .val (.str x), .val (.str src)], M) := by
 unfold l_rows_in_place_1
 walk_at "all"
 rw [if_pos (log_nn hk)]
 walk_at "all"
 rw [if_pos (log_nn hm)]
 walk_at "all"
 rw [if_pos (show acc.length < 16777216 by omega)]
 rfl
theorem z_loop {R : Rw} {d2 d5 d6 : D} {m k : Nat} (hm : m < 1000) (hk : k < 1000) : ∀ (ps : List (Str × Str)) (acc : List D) (s7 s8 : E3.Slot), acc.length + ps.length ≤ 100000 →
    ∃ t7 t8, loopU [7, 8] l_rows_in_place_1 (ps.map fun p => .tup [.str p.1, .str p.2]) [.val (enc R), .val (.int m), .val d2, .own acc, .val (.int k), .val d5, .val d6, s7, s8] M = some (.nx [.val (enc R), .val (.int m), .val d2, .own (acc ++ ps.map fun p => enc ⟨"share", p.1, [p.2], [shw k, shw m]⟩), .val (.int k), .val d5, .val d6, t7, t8], M)
  | [], acc, s7, s8, _ => ⟨s7, s8, by rw [List.map_nil, List.map_nil, List.append_nil]; rfl⟩
  | p :: ps, acc, s7, s8, h => by
    rw [List.length_cons] at h
    obtain ⟨t7, t8, ih⟩ := z_loop (R := R) (d2 := d2) (d5 := d5) (d6 := d6) hm hk ps (acc ++ [enc ⟨"share", p.1, [p.2], [shw k, shw m]⟩]) (.val (.str p.1)) (.val (.str p.2)) (by rw [List.length_append, List.length_singleton]; omega)
    refine ⟨t7, t8, ?_⟩
    rw [List.map_cons, loopU]
    rw [show tupE [7, 8] (.tup [.str p.1, .str p.2]) [.val (enc R), .val (.int m), .val d2, .own acc, .val (.int k), .val d5, .val d6, s7, s8] = some [.val (enc R), .val (.int m), .val d2, .own acc, .val (.int k), .val d5, .val d6, .val (.str p.1), .val (.str p.2)] from rfl]
    dsimp only
    rw [z_turn hm hk (by omega)]
    dsimp only
    rw [ih, List.append_assoc]
    rfl
theorem rp_turn {R : Rw} {d2 : D} {m k : Nat} {acc : List D} {s6 s7 s8 : E3.Slot} (hn : R.nm.length ≤ 1000) (hw : R.fr.length = 1 ∨ R.fr.length = 2) (hm : m < 1000) (hk : k < 1000) (ha : acc.length ≤ 90000) :
  ∃ t6 t7 t8, l_rows_in_place_2 [.val (enc R), .val (.int m), .val d2, .own acc, .val (.int k), .val (.str (prt R.nm k)), s6, s7, s8] M = some (.nx [.val (enc R), .val (.int m), .val d2, .own (acc ++ (mkR R m k).map enc), .val (.int k), .val (.str (prt R.nm k)), t6, t7, t8], M) := by
 have hz : ((shs R.nm R.fr.length k).zip R.fr).length ≤ 2 := by
  rw [List.length_zip]
  omega
 obtain ⟨t7, t8, e⟩ := z_loop (M := M) (R := R) (d2 := d2) (d5 := .str (prt R.nm k)) (d6 := .lst ((shs R.nm R.fr.length k).map D.str)) hm hk ((shs R.nm R.fr.length k).zip R.fr) acc s7 s8 (by omega)
 have zm : (((shs R.nm R.fr.length k).map D.str).zip (R.fr.map D.str)).map (fun p => D.tup [p.1, p.2]) = ((shs R.nm R.fr.length k).zip R.fr).map fun p => D.tup [.str p.1, .str p.2] := by
  rw [List.zip_map, List.map_map]
  rfl
 refine ⟨.val (.lst ((shs R.nm R.fr.length k).map D.str)), t7, t8, ?_⟩
 unfold l_rows_in_place_2
 walk_at "all"
 rw [g_sn hn hk hw]
 walk_at "all"
 have ez : sForZ [7, 8] (sCons (sVar 6) (sCons (s2 oIx (sVar 0) (sCon (.int 2))) sNil)) l_rows_in_place_1 [.val (enc R), .val (.int m), .val d2, .own acc, .val (.int k), .val (.str (prt R.nm k)), .val (.lst ((shs R.nm R.fr.length k).map D.str)), s7, s8] M = some (.nx [.val (enc R), .val (.int m), .val d2, .own (acc ++ ((shs R.nm R.fr.length k).zip R.fr).map fun p => enc ⟨"share", p.1, [p.2], [shw k, shw m]⟩), .val (.int k), .val (.str (prt R.nm k)), .val (.lst ((shs R.nm R.fr.length k).map D.str)), t7, t8], M) := by
  unfold sForZ
  walk_at "all"
  rw [zm]
  exact e
 rw [ez]
 walk_at "all"
 rw [List.length_append, List.length_map, if_pos (by omega), List.append_assoc]
 unfold mkR
 rw [List.map_append, List.map_map]
 rfl
theorem rp_loop {R : Rw} {d2 : D} {m : Nat} (hn : R.nm.length ≤ 1000) (hw : R.fr.length = 1 ∨ R.fr.length = 2) (hm : m < 1000) : ∀ (j n : Nat) (acc : List D) (s4 s5 s6 s7 s8 : E3.Slot), n + j < 1000 → acc.length + 3 * j ≤ 90000 →
    ∃ t4 t5 t6 t7 t8, loopE [4, 5] l_rows_in_place_2 n ((List.range' n j).map fun k => D.str (prt R.nm k)) [.val (enc R), .val (.int m), .val d2, .own acc, s4, s5, s6, s7, s8] M = some (.nx [.val (enc R), .val (.int m), .val d2, .own (acc ++ ((List.range' n j).flatMap (mkR R m)).map enc), t4, t5, t6, t7, t8], M)
  | 0, n, acc, s4, s5, s6, s7, s8, _, _ => ⟨s4, s5, s6, s7, s8, by simp [loopE]⟩
  | j + 1, n, acc, s4, s5, s6, s7, s8, h1, h2 => by
    obtain ⟨t6, t7, t8, e⟩ := rp_turn (M := M) (R := R) (d2 := d2) (m := m) (k := n) (acc := acc) (s6 := s6) (s7 := s7) (s8 := s8) hn hw hm (by omega) (by omega)
    have hl : ((mkR R m n).map enc).length ≤ 3 := by
      rw [List.length_map]
      unfold mkR
      rw [List.length_append, List.length_map, List.length_zip, List.length_singleton]
      omega
    obtain ⟨u4, u5, u6, u7, u8, ih⟩ := rp_loop (d2 := d2) hn hw hm j (n + 1) (acc ++ (mkR R m n).map enc) (.val (.int n)) (.val (.str (prt R.nm n))) t6 t7 t8 (by omega) (by rw [List.length_append]; omega)
    refine ⟨u4, u5, u6, u7, u8, ?_⟩
    rw [List.range'_succ, List.map_cons, loopE]
    rw [show setE [4, 5] [D.int (n : Int), .str (prt R.nm n)] [.val (enc R), .val (.int m), .val d2, .own acc, s4, s5, s6, s7, s8] = some [.val (enc R), .val (.int m), .val d2, .own acc, .val (.int n), .val (.str (prt R.nm n)), s6, s7, s8] from rfl]
    dsimp only
    rw [e]
    dsimp only
    rw [ih, List.flatMap_cons, List.map_append, List.append_assoc]
def made (R : Rw) (m : Nat) : List Rw := (List.range' 0 m).flatMap (mkR R m)
def pourR (R : Rw) (m : Nat) : Rw := ⟨"pour", R.nm, (List.range m).map (prt R.nm), []⟩
theorem g_rp {R : Rw} {m : Nat} (hn : R.nm.length ≤ 1000) (hw : R.fr.length = 1 ∨ R.fr.length = 2) (hm : m ≤ 100) (hl : (made R m).length ≤ 1000) : g_rows_in_place [enc R, .int m] M = some (.v (.lst ((made R m ++ [pourR R m]).map enc)), M) := by
 obtain ⟨t4, t5, t6, t7, t8, e⟩ := rp_loop (M := M) (R := R) (d2 := .lst ((List.range m).map fun k => D.str (prt R.nm k))) (m := m) hn hw (by omega) m 0 [] .un .un .un .un .un (by omega) (by rw [List.length_nil]; omega)
 rw [← List.range_eq_range', List.nil_append] at e
 unfold g_rows_in_place b_rows_in_place
 walk_at "all"
 rw [g_pn hn hm]
 walk_at "all"
 have ee : sForE [4, 5] (sCons (sVar 2) sNil) l_rows_in_place_2 [.val (enc R), .val (.int m), .val (.lst ((List.range m).map fun k => D.str (prt R.nm k))), .own [], .un, .un, .un, .un, .un] M = loopE [4, 5] l_rows_in_place_2 0 ((List.range m).map fun k => D.str (prt R.nm k)) [.val (enc R), .val (.int m), .val (.lst ((List.range m).map fun k => D.str (prt R.nm k))), .own [], .un, .un, .un, .un, .un] M := by
  unfold sForE
  walk_at "all"
 rw [ee, e]
 walk_at "all"
 rw [List.range_eq_range'] at *
 have hl2 : ((List.range' 0 m).flatMap (mkR R m)).length ≤ 1000 := hl
 rw [if_pos (by omega)]
 walk_at "all"
 unfold made pourR
 rw [List.map_append]
 have : (List.map (fun k => D.str (prt R.nm k)) (List.range' 0 m)) = ((List.range m).map (prt R.nm)).map D.str := by rw [List.map_map, List.range_eq_range']; rfl
 rw [this]
 rfl
theorem o_inSs {x : Str} {ws : List Str} : oCmp .isin (.str x) (.lst (ws.map D.str)) = some (.bl (ws.contains x)) := by
 unfold oCmp cmpD cIn
 simp only
 rw [if_pos (by simp [D.flat])]
 simp only [Option.map_some, List.any_map]
 congr 2
 rw [Bool.eq_iff_iff, List.contains_iff_mem, List.any_eq_true]
 simp only [Function.comp, D.eq, beq_iff_eq, decide_eq_true_eq]
 exact ⟨fun ⟨y, h1, h2⟩ => h2 ▸ h1, fun h => ⟨x, h, rfl⟩⟩
theorem o_ninSs {x : Str} {ws : List Str} : oCmp .notin (.str x) (.lst (ws.map D.str)) = some (.bl (!ws.contains x)) := by
 have h := o_inSs (x := x) (ws := ws)
 unfold oCmp cmpD cIn at h
 unfold oCmp cmpD cNin
 simp only at h ⊢
 rw [if_pos (by simp [D.flat])] at h ⊢
 simp only [Option.map_some, Option.some.injEq, D.bl.injEq] at h ⊢
 rw [h]
def badN (ns : List Str) (x : Str) : Bool := ns.contains x || decide (12 < x.length)
theorem cm_loop {d0 d1 : D} {ns : List Str} : ∀ (W : List Rw) (s3 : E3.Slot), (∀ r ∈ W, r.nm.length ≤ 10000) → (W.any (fun r => badN ns r.nm) = true ∧ loopS 3 l_check_made_names_1 (W.map enc) [.val d0, .val d1, .val (.lst (ns.map D.str)), s3] M = some (.ex "NoWide" 0, M)) ∨ (W.any (fun r => badN ns r.nm) = false ∧ ∃ t3, loopS 3 l_check_made_names_1 (W.map enc) [.val d0, .val d1, .val (.lst (ns.map D.str)), s3] M = some (.nx [.val d0, .val d1, .val (.lst (ns.map D.str)), t3], M))
  | [], s3, _ => .inr ⟨rfl, s3, rfl⟩
  | r :: W, s3, h => by
    have hr := h r (by simp)
    have tn : l_check_made_names_1 [.val d0, .val d1, .val (.lst (ns.map D.str)), .val (enc r)] M = if badN ns r.nm = true then some (.ex "NoWide" 0, M) else some (.nx [.val d0, .val d1, .val (.lst (ns.map D.str)), .val (enc r)], M) := by
      unfold l_check_made_names_1 badN
      walk_at "all"
      rw [o_inSs]
      cases ns.contains r.nm
      · walk_at "all"
        rw [if_pos (show r.nm.length ≤ 16777216 by omega)]
        walk_at "all"
        by_cases h12 : 12 < r.nm.length
        · rw [if_pos (by omega), if_pos h12, q_raise]
          walk_at "all"
        · rw [if_neg (by omega), if_neg h12]
          walk_at "all"
      · walk_at "all"
        rw [q_raise]
        walk_at "all"
    rw [List.map_cons, List.any_cons]
    walk_at "all"
    rw [tn]
    cases badN ns r.nm
    · rw [if_neg (by decide), r_stN, Bool.false_or]
      exact cm_loop W _ fun x hx => h x (List.mem_cons_of_mem _ hx)
    · rw [if_pos rfl, r_stX]
      exact .inl ⟨rfl, rfl⟩
theorem g_cm {W V : List Rw} {p : Rw} (hW : W.length ≤ 10000) (hV : ∀ r ∈ V, r.nm.length ≤ 10000) : g_check_made_names [.lst ((V ++ [p]).map enc), .lst (W.map enc)] M = if V.any (fun r => badN (W.map (·.nm)) r.nm) = true then some (.x "NoWide" 0, M) else some (.v .non, M) := by
 have lp := cm_loop (M := M) (d0 := .lst ((V ++ [p]).map enc)) (d1 := .lst (W.map enc)) (ns := W.map (·.nm)) V .un hV
 have cm : compL (sCon (.bl true)) e_check_made_names_1 [] (W.map enc) [] M = some ([] ++ W.map fun r => D.str r.nm, M) :=
  comp_of enc (fun r => D.str r.nm) W [] (fun r _ => by unfold e_check_made_names_1; walk_at "all") (by rw [sizeLine_eq]; simp; omega)
 unfold g_check_made_names b_check_made_names
 walk_at "all"
 rw [cm]
 walk_at "all"
 rw [show (W.map fun r => D.str r.nm) = (W.map (·.nm)).map D.str by rw [List.map_map]; rfl]
 rw [show (V ++ [p]).map enc = V.map enc ++ [enc p] by rw [List.map_append]; rfl] at lp ⊢
 rw [cut_m1]
 rcases lp with ⟨h, e⟩ | ⟨h, t3, e⟩
 ·rw [e, h, if_pos rfl]
  walk_at "all"
 ·rw [e, h, if_neg (by decide)]
  walk_at "all"
theorem w_loop {d0 d2 d3 : D} {a : Str} {md : List Rw} : ∀ (W : List Rw) (acc : List D) (s6 : E3.Slot), acc.length + W.length * (md.length + 1) ≤ 1000000 →
    ∃ t6, loopS 6 l_widened_1 (W.map enc) [.val d0, .val (.str a), .val d2, .val d3, .val (.lst (md.map enc)), .own acc, s6] M = some (.nx [.val d0, .val (.str a), .val d2, .val d3, .val (.lst (md.map enc)), .own (acc ++ (W.flatMap fun r => if r.nm = a then md else [r]).map enc), t6], M)
  | [], acc, s6, _ => ⟨s6, by simp [loopS]⟩
  | r :: W, acc, s6, h => by
    rw [List.length_cons, Nat.succ_mul] at h
    let es : List Rw := if r.nm = a then md else [r]
    have hl : es.length ≤ md.length + 1 := by
      simp only [es]
      split
      · omega
      · simp
    have tn : l_widened_1 [.val d0, .val (.str a), .val d2, .val d3, .val (.lst (md.map enc)), .own acc, .val (enc r)] M = some (.nx [.val d0, .val (.str a), .val d2, .val d3, .val (.lst (md.map enc)), .own (acc ++ es.map enc), .val (enc r)], M) := by
      unfold l_widened_1
      rw [q_seq, q_ext (ds := acc) (es := es.map enc) rfl ?_ (by rw [List.length_map]; omega)]
      · walk_at "all"
      · simp only [es]
        walk_at "all"
        by_cases hr : r.nm = a
        · rw [if_pos hr, if_pos hr]
        · rw [if_neg hr, if_neg hr]
          rfl
    obtain ⟨t6, ih⟩ := w_loop (d0 := d0) (d2 := d2) (d3 := d3) (a := a) (md := md) W (acc ++ es.map enc) (.val (enc r)) (by rw [List.length_append, List.length_map]; omega)
    refine ⟨t6, ?_⟩
    rw [List.map_cons]
    walk_at "all"
    rw [tn, r_stN, ih, List.flatMap_cons, List.map_append, List.append_assoc]
def whB : D → Bool
 | .int _ => true
 | _ => false
def noRef : D → Prop
 | .ref _ => False
 | _ => True
theorem g_wh {d : D} (h : noRef d) : g_is_whole [d] M = some (.v (.bl (whB d)), M) := by
 unfold g_is_whole b_is_whole
 cases d with
 | non => walk_at "all"; rw [j_NoneType_int]; walk_at "all"; rfl
 | bl b => walk_at "all"; rw [j_bool_int]; walk_at "all"; rw [j_bool_bool]; walk_at "all"; rfl
 | int i => walk_at "all"; rw [j_int_int]; walk_at "all"; rw [j_int_bool]; walk_at "all"; rfl
 | str z => walk_at "all"; rw [j_str_int]; walk_at "all"; rfl
 | tup ds => walk_at "all"; rw [j_tuple_int]; walk_at "all"; rfl
 | lst ds => walk_at "all"; rw [j_list_int]; walk_at "all"; rfl
 | ref k => cases h
theorem chn_le {i j k : Int} {f g h : E} {env : E3.Env} (hf : f env M = some (.v (.int i), M)) (hg : g env M = some (.v (.int j), M)) (hh : h env M = some (.v (.int k), M)) : sChn .le .le f g h env M = some (.v (.bl (decide (i ≤ j) && decide (j ≤ k))), M) := by
 unfold sChn
 simp only [bnd, hf, hg, hh, vw, cmpD, cOrd]
 by_cases h1 : i ≤ j
 ·simp only [h1, decide_true, Bool.true_and, Option.map_some]
 ·simp only [h1, decide_false, Bool.false_and]
theorem mg8 {env : E3.Env} : sRaise "NoWide" (sFst (jCon "a row is widened by a whole number from 2 to " (jVal (sCon (.int 8)) jEnd))) env M = some (.ex "NoWide" 0, M) := by
 rw [q_raise]
 walk_at "all"
 rw [if_pos (by decide +kernel), if_pos (by decide +kernel)]
 walk_at "all"
 rw [if_pos (by decide +kernel), if_pos (by decide +kernel)]
 walk_at "all"
theorem mg40 {env : E3.Env} : sRaise "NoWide" (sFst (jCon "there would be more than " (jVal (sCon (.int 40)) (jCon " rows" jEnd)))) env M = some (.ex "NoWide" 0, M) := by
 rw [q_raise]
 walk_at "all"
 rw [if_pos (by decide +kernel), if_pos (by decide +kernel)]
 walk_at "all"
 rw [if_pos (by decide +kernel), if_pos (by decide +kernel), if_pos (by decide +kernel)]
 walk_at "all"
def ioB (d : D) : Option Nat := match d with
 | .int i => if 2 ≤ i ∧ i ≤ 8 then some i.toNat else none
 | _ => none
def wideW (W : List Rw) (a : Str) (d : D) : Option (List Rw) := match W.find? (isW a), ioB d with
  | some R, some m => if (made R m).any (fun r => badN (W.map (·.nm)) r.nm) = true then none else
    if 40 < (W.flatMap fun r => if r.nm = a then made R m ++ [pourR R m] else [r]).length then none else some (W.flatMap fun r => if r.nm = a then made R m ++ [pourR R m] else [r])
  | _, _ => none
theorem mkR_len {R : Rw} {m k : Nat} : (mkR R m k).length ≤ 3 := by
 unfold mkR
 rw [List.length_append, List.length_map, List.length_zip, List.length_singleton]
 have : (shs R.nm R.fr.length k).length ≤ 2 := by
  unfold shs
  rw [List.length_take]
  exact Nat.min_le_right _ _
 omega
theorem flat_le {α β : Type} {f : α → List β} {B : Nat} : ∀ (l : List α), (∀ a ∈ l, (f a).length ≤ B) → (l.flatMap f).length ≤ l.length * B
  | [], _ => by simp
  | a :: l, h => by
    have h1 := h a (by simp)
    have h2 := flat_le l fun x hx => h x (List.mem_cons_of_mem _ hx)
    rw [List.flatMap_cons, List.length_append, List.length_cons, Nat.succ_mul]
    omega
theorem made_len {R : Rw} {m : Nat} : (made R m).length ≤ m * 3 := by
 have := flat_le (B := 3) (f := mkR R m) (List.range' 0 m) fun _ _ => mkR_len
 rw [List.length_range'] at this
 exact this
theorem made_nm {R r : Rw} {m : Nat} (hm : m ≤ 8) (h : r ∈ made R m) : r.nm.length ≤ R.nm.length + 5 := by
 obtain ⟨k, hk, hr⟩ := List.mem_flatMap.mp h
 rw [List.mem_range'_1] at hk
 have l := (shw_sm (show k < 1000 by omega)).2
 have lp : (prt R.nm k).length ≤ R.nm.length + 4 := by unfold prt; rw [strLen_append]; omega
 unfold mkR at hr
 rw [List.mem_append, List.mem_singleton] at hr
 rcases hr with hr | rfl
 ·obtain ⟨p, hp, rfl⟩ := List.mem_map.mp hr
  have hp1 := (List.of_mem_zip hp).1
  unfold shs at hp1
  have := List.mem_of_mem_take hp1
  simp only [List.mem_cons, List.not_mem_nil, or_false] at this
  rcases this with e | e
  ·show p.1.length ≤ _
   rw [e, strLen_append, show (Str.ofString "l").length = 1 by decide +kernel]
   omega
  ·show p.1.length ≤ _
   rw [e, strLen_append, show (Str.ofString "r").length = 1 by decide +kernel]
   omega
 ·show (prt R.nm k).length ≤ _
  omega
theorem g_wd {W : List Rw} {a : Str} {d : D} (ha : sm a) (hd : noRef d) (hW : W.length ≤ 100) (hn : ∀ r ∈ W, r.nm.length ≤ 100) (hf : ∀ r ∈ W, wideB r.w = true → r.fr.length = 1 ∨ r.fr.length = 2) : g_widened [.lst (W.map enc), .str a, d] M = match wideW W a d with
    | some V => some (.v (.lst (V.map enc)), M)
    | none => some (.x "NoWide" 0, M) := by
  have g1 := g_wr (M := M) (W := W) ha
  unfold wideW
  unfold g_widened b_widened
  cases hR : W.find? (isW a) with
  | none =>
    rw [hR] at g1
    dsimp only at g1 ⊢
    walk_at "all"
    rw [g1]
    walk_at "all"
  | some R =>
    rw [hR] at g1
    have hin := List.mem_of_find?_eq_some hR
    have hisw := List.find?_some hR
    unfold isW at hisw
    rw [Bool.and_eq_true, decide_eq_true_eq] at hisw
    have hRn := hn R hin
    have hRf := hf R hin hisw.2
    dsimp only at g1
    cases hio : ioB d with
    | none =>
      dsimp only
      walk_at "all"
      rw [g1]
      walk_at "all"
      rw [g_wh hd]
      cases hb : whB d
      · walk_at "all"
        rw [mg8]
        walk_at "all"
      · obtain ⟨i, rfl⟩ : ∃ i, d = .int i := by cases d <;> first | exact ⟨_, rfl⟩ | cases hb
        walk_at "all"
        rw [chn_le (i := 2) (j := i) (k := 8) (by walk_at "all") (by walk_at "all") (by walk_at "all")]
        have : (decide (2 ≤ i) && decide (i ≤ 8)) = false := by
          unfold ioB at hio
          dsimp only at hio
          split at hio
          · cases hio
          · rename_i h
            rw [Bool.and_eq_false_iff, decide_eq_false_iff_not, decide_eq_false_iff_not]
            omega
        rw [this]
        walk_at "all"
        rw [mg8]
        walk_at "all"
    | some m =>
      obtain ⟨hd', h2, h8⟩ : d = .int (m : Int) ∧ 2 ≤ m ∧ m ≤ 8 := by
        unfold ioB at hio
        split at hio
        · split at hio
          · cases hio
            exact ⟨by congr 1; omega, by omega, by omega⟩
          · cases hio
        · cases hio
      subst hd'
      have ml := made_len (R := R) (m := m)
      have g3 := g_rp (M := M) (R := R) (m := m) (by omega) hRf (by omega) (by omega)
      have g4 := g_cm (M := M) (W := W) (V := made R m) (p := pourR R m) (by omega) (fun r hr => by have := made_nm h8 hr; omega)
      have lp := w_loop (M := M) (d0 := .lst (W.map enc)) (d2 := .int m) (d3 := enc R) (a := a) (md := made R m ++ [pourR R m]) W [] .un (by
        rw [List.length_nil, List.length_append, List.length_singleton]
        have : W.length * ((made R m).length + 1 + 1) ≤ 100 * 26 := Nat.mul_le_mul hW (by omega)
        omega)
      obtain ⟨t6, lp⟩ := lp
      dsimp only
      walk_at "all"
      rw [g1]
      walk_at "all"
      rw [g_wh hd]
      unfold whB
      walk_at "all"
      rw [chn_le (i := 2) (j := m) (k := 8) (by walk_at "all") (by walk_at "all") (by walk_at "all"), show (decide ((2 : Int) ≤ m) && decide ((m : Int) ≤ 8)) = true by rw [Bool.and_eq_true, decide_eq_true_eq, decide_eq_true_eq]; omega]
      walk_at "all"
      rw [g3]
      walk_at "all"
      rw [g4]
      cases (made R m).any fun r => badN (W.map (·.nm)) r.nm
      · rw [if_neg (by decide), if_neg (by decide)]
        walk_at "all"
        rw [lp, List.nil_append]
        walk_at "all"
        generalize (W.flatMap fun r => if r.nm = a then made R m ++ [pourR R m] else [r]) = V
        by_cases h40 : 40 < V.length
        · rw [if_pos (by omega), if_pos h40, mg40]
          walk_at "all"
        · rw [if_neg (by omega), if_neg h40]
          walk_at "all"
      · rw [if_pos rfl, if_pos rfl]
        walk_at "all"
theorem g_fs {W : List Rw} {a : Str} {d : D} {k : Nat} (ha : sm a) (hd : noRef d) (hW : W.length ≤ 100) (hn : ∀ r ∈ W, r.nm.length ≤ 100) (hf : ∀ r ∈ W, wideB r.w = true → r.fr.length = 1 ∨ r.fr.length = 2) (h : wideW W a d = none) : g_fold_saved [.ref k, .lst (W.map enc), .str a, d] M = some (.x "NoWide" 0, M) ∧ g_spread_saved [.ref k, .lst (W.map enc), .str a, d] M = some (.x "NoWide" 0, M) := by
 have g := g_wd (M := M) ha hd hW hn hf
 rw [h] at g
 dsimp only at g
 constructor
 ·unfold g_fold_saved b_fold_saved
  walk_at "all"
  rw [g]
  walk_at "all"
 ·unfold g_spread_saved b_spread_saved
  walk_at "all"
  rw [g]
  walk_at "all"
theorem tl_no {i : Int} {W : List Rw} {a : Str} {d : D} {E : Mm} (h : g__asked [.int i, .lst (W.map enc), .str a, d] M = some (.x "NoWide" 0, M ++ E)) : g__told [.int i, .lst (W.map enc), .str a, d] M = some (.v (.int (-1)), M ++ E) := by
 unfold g__told b__told
 walk_at "all"
 unfold n__told_1
 walk_at "all"
 unfold n__told_2 y__told_1
 walk_at "all"
 rw [h]
 walk_at "all"
 rw [show cat_DamError "NoWide" = true by decide +kernel]
 walk_at "all"
 unfold h__told_1
 walk_at "all"
 rw [show tb_NoWide "NoWide" = some true by decide +kernel]
 walk_at "all"
 rw [show tb_NoName "NoWide" = some false by decide +kernel]
 walk_at "all"
 rw [show tb_TooMuch "NoWide" = some false by decide +kernel]
 walk_at "all"
 rw [show tb_ValueError "NoWide" = some true by decide +kernel]
 walk_at "all"
 unfold n__told_3
 walk_at "all"
theorem tl_ok {i : Int} {W V : List Rw} {a : Str} {d : D} {E : Mm} (h : g__asked [.int i, .lst (W.map enc), .str a, d] M = some (.v (.lst (V.map enc)), M ++ E)) : g__told [.int i, .lst (W.map enc), .str a, d] M = some (.v (.int V.length), M ++ E) := by
 unfold g__told b__told
 walk_at "all"
 unfold n__told_1
 walk_at "all"
 unfold n__told_2 y__told_1
 walk_at "all"
 rw [h]
 walk_at "all"
 unfold n__told_3
 walk_at "all"
 unfold n__told_4
 walk_at "all"
theorem as0 {W : List Rw} {a : Str} {d : D} (ha : sm a) (hd : noRef d) (hW : W.length ≤ 100) (hn : ∀ r ∈ W, r.nm.length ≤ 100) (hf : ∀ r ∈ W, wideB r.w = true → r.fr.length = 1 ∨ r.fr.length = 2) : g__asked [.int 0, .lst (W.map enc), .str a, d] M = match wideW W a d with
  | some V => some (.v (.lst (V.map enc)), M)
  | none => some (.x "NoWide" 0, M) := by
 have g := g_wd (M := M) ha hd hW hn hf
 unfold g__asked b__asked
 walk_at "all"
 rw [g]
 cases wideW W a d with
 | some V => walk_at "all"
 | none => walk_at "all"
theorem as12 {W : List Rw} {a : Str} {d : D} (ha : sm a) (hd : noRef d) (hW : W.length ≤ 100) (hn : ∀ r ∈ W, r.nm.length ≤ 100) (hf : ∀ r ∈ W, wideB r.w = true → r.fr.length = 1 ∨ r.fr.length = 2) (h : wideW W a d = none) : g__asked [.int 1, .lst (W.map enc), .str a, d] M = some (.x "NoWide" 0, M ++ [.dct []]) ∧ g__asked [.int 2, .lst (W.map enc), .str a, d] M = some (.x "NoWide" 0, M ++ [.dct []]) := by
 have g := fun k => g_fs (M := M ++ [.dct []]) (k := k) ha hd hW hn hf h
 constructor
 ·unfold g__asked b__asked
  walk_at "all"
  rw [d_new]
  walk_at "all"
  rw [(g _).1]
  walk_at "all"
 ·unfold g__asked b__asked
  walk_at "all"
  rw [d_new]
  walk_at "all"
  rw [(g _).2]
  walk_at "all"
variable {M : Mm}
def clash (ns : List Str) (a : Str) (ways m : Nat) : Bool := (List.range m).any fun k => (ns.contains (prt a k) || ns.contains (prt a k ++ Str.ofString "l")) || (decide (ways = 2) && ns.contains (prt a k ++ Str.ofString "r"))
def lgood (W : List Rw) (a : Str) (d : D) : Bool := match W.find? (isW a), ioB d with
 | some R, some m => !(decide (40 < W.length + m * (R.fr.length + 1)) || decide (10 < a.length)) && !clash (W.map (·.nm)) a R.fr.length m
 | _, _ => false
theorem lg2 {d0 d2 d3 : D} {a : Str} : ∀ (W : List Rw) (w : Int) (s5 s6 : E3.Slot), (W.filter (isW a)).length ≤ 1 → ∃ t5, loopS 5 l__good_2 (W.map enc) [.val d0, .val (.str a), .val d2, .val d3, .val (.int w), s5, s6] M = some (.nx [.val d0, .val (.str a), .val d2, .val d3, .val (.int (match W.find? (isW a) with | some R => (R.fr.length : Int) | none => w)), t5, s6], M)
  | [], w, s5, s6, _ => ⟨s5, rfl⟩
  | r :: W, w, s5, s6, h => by
    have tn : l__good_2 [.val d0, .val (.str a), .val d2, .val d3, .val (.int w), .val (enc r), s6] M = some (.nx [.val d0, .val (.str a), .val d2, .val d3, .val (.int (if isW a r = true then (r.fr.length : Int) else w)), .val (enc r), s6], M) := by
      unfold l__good_2 isW
      walk_at "all"
      by_cases hr : r.nm = a
      · simp only [hr]
        walk_at "all"
        rw [o_wide]
        cases wideB r.w
        · walk_at "all"
        · walk_at "all"
      · simp only [hr]
        walk_at "all"
    rw [List.map_cons]
    walk_at "all"
    rw [tn, r_stN, List.find?_cons]
    cases hb : isW a r
    · rw [if_neg (by decide)]
      dsimp only
      refine lg2 W w _ s6 ?_
      rw [List.filter_cons, hb, if_neg (by decide)] at h
      exact h
    · rw [if_pos rfl]
      dsimp only
      rw [List.filter_cons, hb, if_pos rfl, List.length_cons] at h
      have hn : W.find? (isW a) = none := by
        rw [List.find?_eq_none]
        intro x hx hxx
        have : x ∈ W.filter (isW a) := List.mem_filter.mpr ⟨hx, hxx⟩
        have := List.length_pos_of_mem this
        omega
      obtain ⟨t5, e⟩ := lg2 (d0 := d0) (d2 := d2) (d3 := d3) (a := a) W (r.fr.length : Int) (.val (enc r)) s6 (by omega)
      rw [hn] at e
      exact ⟨t5, e⟩
def clk (ns : List Str) (a : Str) (ways k : Nat) : Bool := (ns.contains (prt a k) || ns.contains (prt a k ++ Str.ofString "l")) || (decide (ways = 2) && ns.contains (prt a k ++ Str.ofString "r"))
theorem lg1_turn {d0 d2 : D} {a : Str} {ns : List Str} {ways k : Nat} {s5 : E3.Slot} (ha : a.length ≤ 1000) (hk : k < 1000) : l__good_1 [.val d0, .val (.str a), .val d2, .val (.lst (ns.map D.str)), .val (.int ways), s5, .val (.int (0 + (k : Int)))] M = if clk ns a ways k = true then some (.rt (.bl false), M) else some (.nx [.val d0, .val (.str a), .val d2, .val (.lst (ns.map D.str)), .val (.int ways), s5, .val (.int (0 + (k : Int)))], M) := by
 have l := (shw_sm hk).2
 have e0 : (0 : Int) + (k : Int) = (k : Int) := by omega
 have ep : a ++ Str.ofString (toString (k : Int)) = prt a k := rfl
 have lp : (prt a k).length ≤ 1004 := by unfold prt; rw [strLen_append]; omega
 have l1 : (Str.ofString "l").length = 1 := by decide +kernel
 have l2 : (Str.ofString "r").length = 1 := by decide +kernel
 have hAl : a.length + (Str.ofString (toString (k : Int))).length ≤ 16777216 := by show _ + (shw k).length ≤ _; omega
 have hA : ∀ M : Mm, (s2 oAdd (sVar 1) (sN bStr (sCons (sVar 6) sNil))) [.val d0, .val (.str a), .val d2, .val (.lst (ns.map D.str)), .val (.int ways), s5, .val (.int (k : Int))] M = some (.v (.str (prt a k)), M) := fun M => by
  walk_at "all"
  rw [if_pos (log_nn hk)]
  walk_at "all"
  rw [if_pos hAl]
  rfl
 rw [e0]
 unfold l__good_1 clk
 rw [q_seq, q_if, q_or, q_2, hA]
 walk_at "all"
 rw [o_inSs]
 cases ns.contains (prt a k)
 ·walk_at "all"
  rw [if_pos (log_nn hk)]
  walk_at "all"
  rw [if_pos hAl, ep]
  walk_at "all"
  rw [if_pos (by omega)]
  walk_at "all"
  rw [o_inSs]
  cases ns.contains (prt a k ++ Str.ofString "l")
  ·walk_at "all"
   by_cases hw : ways = 2
   ·rw [if_pos (by omega), if_pos (log_nn hk)]
    walk_at "all"
    rw [if_pos hAl, ep]
    walk_at "all"
    rw [if_pos (by omega)]
    walk_at "all"
    rw [o_inSs]
    simp only [hw]
    cases ns.contains (prt a k ++ Str.ofString "r")
    ·walk_at "all"
    ·walk_at "all"
   ·rw [if_neg (by omega)]
    simp only [hw]
    walk_at "all"
  ·walk_at "all"
 ·walk_at "all"
theorem lg1_loop {d0 d2 : D} {a : Str} {ns : List Str} {ways : Nat} {s5 : E3.Slot} (ha : a.length ≤ 1000) : ∀ (ks : List Nat) (s6 : E3.Slot), (∀ k ∈ ks, k < 1000) → (ks.any (clk ns a ways) = true ∧ loopS 6 l__good_1 (ks.map fun (k : Nat) => D.int (0 + k)) [.val d0, .val (.str a), .val d2, .val (.lst (ns.map D.str)), .val (.int ways), s5, s6] M = some (.rt (.bl false), M)) ∨ (ks.any (clk ns a ways) = false ∧ ∃ t6, loopS 6 l__good_1 (ks.map fun (k : Nat) => D.int (0 + k)) [.val d0, .val (.str a), .val d2, .val (.lst (ns.map D.str)), .val (.int ways), s5, s6] M = some (.nx [.val d0, .val (.str a), .val d2, .val (.lst (ns.map D.str)), .val (.int ways), s5, t6], M))
  | [], s6, _ => .inr ⟨rfl, s6, rfl⟩
  | k :: ks, s6, h => by
    have hk := h k (by simp)
    rw [List.map_cons, List.any_cons]
    have tn := lg1_turn (M := M) (d0 := d0) (d2 := d2) (ns := ns) (ways := ways) (s5 := s5) ha hk
    walk_at "all"
    rw [tn]
    cases clk ns a ways k
    · rw [if_neg (by decide), r_stN, Bool.false_or]
      exact lg1_loop ha ks _ fun x hx => h x (List.mem_cons_of_mem _ hx)
    · rw [if_pos rfl, r_stR]
      exact .inl ⟨rfl, rfl⟩
theorem g_lg {W : List Rw} {a : Str} {d : D} (ha : a.length ≤ 1000) (hd : noRef d) (hW : W.length ≤ 100) (hu : (W.filter (isW a)).length ≤ 1) (hf : ∀ r ∈ W, wideB r.w = true → r.fr.length = 1 ∨ r.fr.length = 2) : g__good [.lst (W.map enc), .str a, d] M = some (.v (.bl (lgood W a d)), M) := by
  have cm : compL (sCon (.bl true)) e__good_1 [] (W.map enc) [] M = some ([] ++ W.map fun r => D.str r.nm, M) :=
    comp_of enc (fun r => D.str r.nm) W [] (fun r _ => by unfold e__good_1; walk_at "all") (by rw [sizeLine_eq]; simp; omega)
  unfold g__good b__good lgood
  cases hio : ioB d with
  | none =>
    have hr : lgood W a d = false := by
      unfold lgood
      rw [hio]
      cases W.find? (isW a) <;> rfl
    unfold lgood at hr
    rw [hio] at hr
    rw [hr]
    clear hr
    cases d with
    | non => walk_at "all"; rw [j_NoneType_int]; walk_at "all"
    | bl b => walk_at "all"; rw [j_bool_int]; walk_at "all"; rw [j_bool_bool]; walk_at "all"
    | int i =>
      walk_at "all"; rw [j_int_int]; walk_at "all"; rw [j_int_bool]; walk_at "all"
      unfold ioB at hio
      dsimp only at hio
      split at hio
      · cases hio
      · rename_i h
        by_cases h2 : i < 2
        · rw [if_pos h2]
          walk_at "all"
        · rw [if_neg h2]
          walk_at "all"
          rw [if_pos (by omega)]
          walk_at "all"
    | str z => walk_at "all"; rw [j_str_int]; walk_at "all"
    | tup ds => walk_at "all"; rw [j_tuple_int]; walk_at "all"
    | lst ds => walk_at "all"; rw [j_list_int]; walk_at "all"
    | ref k => cases hd
  | some m =>
    obtain ⟨hd', h2, h8⟩ : d = .int (m : Int) ∧ 2 ≤ m ∧ m ≤ 8 := by
      unfold ioB at hio
      split at hio
      · split at hio
        · cases hio
          exact ⟨by congr 1; omega, by omega, by omega⟩
        · cases hio
      · cases hio
    subst hd'
    obtain ⟨t5, l2⟩ := lg2 (M := M) (d0 := .lst (W.map enc)) (d2 := .int m) (d3 := .lst ((W.map (·.nm)).map D.str)) (a := a) W 0 .un .un hu
    walk_at "all"
    rw [j_int_int]
    walk_at "all"
    rw [j_int_bool]
    walk_at "all"
    rw [if_neg (by omega)]
    walk_at "all"
    rw [if_neg (by omega)]
    walk_at "all"
    rw [cm]
    walk_at "all"
    rw [show (W.map fun r => D.str r.nm) = (W.map (·.nm)).map D.str by rw [List.map_map]; rfl, l2]
    cases hR : W.find? (isW a) with
    | none =>
      dsimp only
      walk_at "all"
    | some R =>
      have hin := List.mem_of_find?_eq_some hR
      have hisw := List.find?_some hR
      unfold isW at hisw
      rw [Bool.and_eq_true, decide_eq_true_eq] at hisw
      have hRf := hf R hin hisw.2
      dsimp only
      walk_at "all"
      rw [if_neg (by omega)]
      walk_at "all"
      rw [if_pos (.inl (by omega))]
      walk_at "all"
      have e40 : ((40 : Int) < (W.length : Int) + (m : Int) * ((R.fr.length : Int) + 1)) ↔ 40 < W.length + m * (R.fr.length + 1) := by
        rw [show (W.length : Int) + (m : Int) * ((R.fr.length : Int) + 1) = ((W.length + m * (R.fr.length + 1) : Nat) : Int) by push_cast; rfl]
        omega
      by_cases h40 : 40 < W.length + m * (R.fr.length + 1)
      · rw [if_pos (e40.mpr h40), decide_eq_true h40]
        walk_at "all"
      · rw [if_neg (fun z => h40 (e40.mp z)), decide_eq_false h40]
        walk_at "all"
        rw [if_pos (show a.length ≤ 16777216 by omega)]
        walk_at "all"
        by_cases h10 : 10 < a.length
        · rw [if_pos (by omega), decide_eq_true h10]
          walk_at "all"
        · rw [if_neg (by omega), decide_eq_false h10]
          walk_at "all"
          rw [r_rng1 (by omega), Int.toNat_natCast]
          walk_at "all"
          have hcl : clash (W.map (·.nm)) a R.fr.length m = (List.range m).any (clk (W.map (·.nm)) a R.fr.length) := rfl
          rw [hcl]
          rcases lg1_loop (M := M) (d0 := .lst (W.map enc)) (d2 := .int m) (ns := W.map (·.nm)) (ways := R.fr.length) (s5 := t5) ha (List.range m) .un (fun k hk => by have := List.mem_range.mp hk; omega) with ⟨h, e⟩ | ⟨h, t6, e⟩
          · rw [e, h]
            walk_at "all"
          · rw [e, h]
            walk_at "all"
theorem shw1 : ∀ k, k < 10 → (shw (k : Nat)).length = 1 := by decide +kernel
theorem prt_len {a : Str} {k : Nat} (h : k < 10) : (prt a k).length = a.length + 1 := by
 unfold prt
 rw [strLen_append, shw1 k h]
theorem mk_any {R : Rw} {m k : Nat} {ns : List Str} (hw : R.fr.length = 1 ∨ R.fr.length = 2) : (mkR R m k).any (fun r => badN ns r.nm) = ((badN ns (prt R.nm k) || badN ns (prt R.nm k ++ Str.ofString "l")) || (decide (R.fr.length = 2) && badN ns (prt R.nm k ++ Str.ofString "r"))) := by
  obtain ⟨w, nm, fr, rs⟩ := R
  dsimp only at hw
  rcases hw with hw | hw
  · obtain ⟨x, rfl⟩ := List.length_eq_one_iff.mp hw
    unfold mkR shs
    simp [Bool.or_comm]
  · match fr, hw with
    | [x, y], _ =>
      unfold mkR shs
      simp only [List.length_cons, List.length_nil, List.take_succ_cons, List.take_zero, List.zip_cons_cons, List.zip_nil_right, List.map_cons, List.map_nil, List.cons_append, List.nil_append, List.any_cons, List.any_nil, Bool.or_false, decide_true, Bool.true_and]
      cases badN ns (prt nm k) <;> cases badN ns (prt nm k ++ Str.ofString "l") <;> cases badN ns (prt nm k ++ Str.ofString "r") <;> rfl
theorem mkR_ln {R : Rw} {m k : Nat} (hw : R.fr.length = 1 ∨ R.fr.length = 2) : (mkR R m k).length = R.fr.length + 1 := by
 unfold mkR shs
 rw [List.length_append, List.length_map, List.length_zip, List.length_take, List.length_singleton]
 show min (min R.fr.length 2) _ + 1 = _
 omega
theorem flat_ln {α β : Type} {f : α → List β} {B : Nat} : ∀ (l : List α), (∀ a ∈ l, (f a).length = B) → (l.flatMap f).length = l.length * B
  | [], _ => by simp
  | a :: l, h => by
    have h1 := h a (by simp)
    have h2 := flat_ln l fun x hx => h x (List.mem_cons_of_mem _ hx)
    rw [List.flatMap_cons, List.length_append, List.length_cons, Nat.succ_mul]
    omega
theorem made_ln {R : Rw} {m : Nat} (hw : R.fr.length = 1 ∨ R.fr.length = 2) : (made R m).length = m * (R.fr.length + 1) := by
 have := flat_ln (f := mkR R m) (List.range' 0 m) fun k _ => mkR_ln (m := m) (k := k) hw
 rw [List.length_range'] at this
 exact this
theorem bad_short {ns : List Str} {x : Str} (h : x.length ≤ 12) : badN ns x = ns.contains x := by
 unfold badN
 rw [decide_eq_false (by omega), Bool.or_false]
theorem any_made {R : Rw} {m : Nat} {ns : List Str} (hw : R.fr.length = 1 ∨ R.fr.length = 2) (h2 : 2 ≤ m) (h8 : m ≤ 8) : (made R m).any (fun r => badN ns r.nm) = (decide (10 < R.nm.length) || clash ns R.nm R.fr.length m) := by
 have l1 : (Str.ofString "l").length = 1 := by decide +kernel
 have l2 : (Str.ofString "r").length = 1 := by decide +kernel
 have e1 : (made R m).any (fun r => badN ns r.nm) = (List.range m).any fun k => (badN ns (prt R.nm k) || badN ns (prt R.nm k ++ Str.ofString "l")) || (decide (R.fr.length = 2) && badN ns (prt R.nm k ++ Str.ofString "r")) := by
  unfold made
  rw [List.any_flatMap, List.range_eq_range']
  congr 1
  funext k
  exact mk_any hw
 rw [e1]
 by_cases h : 10 < R.nm.length
 ·rw [decide_eq_true h, Bool.true_or, List.any_eq_true]
  refine ⟨0, List.mem_range.mpr (by omega), ?_⟩
  have : badN ns (prt R.nm 0 ++ Str.ofString "l") = true := by
   unfold badN
   rw [strLen_append, prt_len (by decide), l1, decide_eq_true (by omega), Bool.or_true]
  rw [this, Bool.or_true, Bool.true_or]
 ·rw [decide_eq_false h, Bool.false_or]
  unfold clash
  rw [Bool.eq_iff_iff, List.any_eq_true, List.any_eq_true]
  have q : ∀ k, k ∈ List.range m → ((badN ns (prt R.nm k) || badN ns (prt R.nm k ++ Str.ofString "l")) || (decide (R.fr.length = 2) && badN ns (prt R.nm k ++ Str.ofString "r"))) = ((ns.contains (prt R.nm k) || ns.contains (prt R.nm k ++ Str.ofString "l")) || (decide (R.fr.length = 2) && ns.contains (prt R.nm k ++ Str.ofString "r"))) := fun k hk => by
   have hk' := List.mem_range.mp hk
   have lp := prt_len (a := R.nm) (k := k) (by omega)
   rw [bad_short (by omega), bad_short (by rw [strLen_append]; omega), bad_short (by rw [strLen_append]; omega)]
  exact ⟨fun ⟨k, hk, z⟩ => ⟨k, hk, (q k hk) ▸ z⟩, fun ⟨k, hk, z⟩ => ⟨k, hk, (q k hk).symm ▸ z⟩⟩
theorem wd_len {W : List Rw} {a : Str} {md : List Rw} : (W.flatMap fun r => if r.nm = a then md else [r]).length + (W.filter fun r => decide (r.nm = a)).length = W.length + (W.filter fun r => decide (r.nm = a)).length * md.length := by
  induction W with
  | nil => simp
  | cons r W ih =>
    rw [List.flatMap_cons, List.length_append, List.filter_cons, List.length_cons]
    by_cases h : r.nm = a
    · rw [if_pos h, if_pos (decide_eq_true h), List.length_cons, Nat.succ_mul]
      omega
    · rw [if_neg h, if_neg (by simpa using h), List.length_singleton]
      omega
structure WS (W : List Rw) (nm : Str) (R : Rw) : Prop where
 len : W.length ≤ 100
 nms : ∀ r ∈ W, r.nm.length ≤ 100 ∧ sm r.nm
 fr : ∀ r ∈ W, wideB r.w = true → r.fr.length = 1 ∨ r.fr.length = 2
 one : W.filter (fun r => decide (r.nm = nm)) = [R]
 wid : W.filter (fun r => wideB r.w) = [R]
theorem WS.find {W : List Rw} {nm a : Str} {R : Rw} (h : WS W nm R) : W.find? (isW a) = if a = nm then some R else none := by
  have hR : R ∈ W ∧ R.nm = nm := by
    have : R ∈ W.filter (fun r => decide (r.nm = nm)) := by rw [h.one]; simp
    have := List.mem_filter.mp this
    exact ⟨this.1, of_decide_eq_true this.2⟩
  have hRw : wideB R.w = true := by
    have : R ∈ W.filter (fun r => wideB r.w) := by rw [h.wid]; simp
    exact (List.mem_filter.mp this).2
  by_cases ha : a = nm
  · rw [if_pos ha]
    subst ha
    cases hf : W.find? (isW a) with
    | none =>
      rw [List.find?_eq_none] at hf
      refine absurd ?_ (hf R hR.1)
      unfold isW
      rw [hR.2, hRw, decide_eq_true rfl]
      rfl
    | some Q =>
      have q1 := List.mem_of_find?_eq_some hf
      have q2 := List.find?_some hf
      unfold isW at q2
      rw [Bool.and_eq_true] at q2
      have : Q ∈ W.filter (fun r => decide (r.nm = a)) := List.mem_filter.mpr ⟨q1, q2.1⟩
      rw [h.one, List.mem_singleton] at this
      rw [this]
  · rw [if_neg ha, List.find?_eq_none]
    intro Q hQ hw
    unfold isW at hw
    rw [Bool.and_eq_true, decide_eq_true_eq] at hw
    have : Q ∈ W.filter (fun r => wideB r.w) := List.mem_filter.mpr ⟨hQ, hw.2⟩
    rw [h.wid, List.mem_singleton] at this
    rw [this, hR.2] at hw
    exact ha hw.1.symm
theorem WS.filt {W : List Rw} {nm a : Str} {R : Rw} (h : WS W nm R) : (W.filter (isW a)).length ≤ 1 := by
 have e : W.filter (isW a) = (W.filter fun r => wideB r.w).filter fun r => decide (r.nm = a) := by
  rw [List.filter_filter]
  rfl
 rw [e, h.wid]
 exact Nat.le_trans (List.length_filter_le _ _) (by simp)
theorem WS.same {W : List Rw} {nm a : Str} {R : Rw} {d : D} (h : WS W nm R) : (lgood W a d = false ∧ wideW W a d = none) ∨ (lgood W a d = true ∧ a = nm ∧ ∃ m V, d = .int (m : Nat) ∧ wideW W a d = some V ∧ V.length = W.length + m * (R.fr.length + 1)) := by
  unfold lgood wideW
  rw [h.find]
  by_cases ha : a = nm
  · rw [if_pos ha]
    cases hio : ioB d with
    | none => exact .inl ⟨rfl, rfl⟩
    | some m =>
      obtain ⟨hd', h2, h8⟩ : d = .int (m : Int) ∧ 2 ≤ m ∧ m ≤ 8 := by
        unfold ioB at hio
        split at hio
        · split at hio
          · cases hio
            exact ⟨by congr 1; omega, by omega, by omega⟩
          · cases hio
        · cases hio
      have hR : R ∈ W ∧ R.nm = nm := by
        have : R ∈ W.filter (fun r => decide (r.nm = nm)) := by rw [h.one]; simp
        have := List.mem_filter.mp this
        exact ⟨this.1, of_decide_eq_true this.2⟩
      have hRw : wideB R.w = true := by
        have : R ∈ W.filter (fun r => wideB r.w) := by rw [h.wid]; simp
        exact (List.mem_filter.mp this).2
      have hw := h.fr R hR.1 hRw
      dsimp only
      have e1 := any_made (R := R) (ns := W.map (·.nm)) hw h2 h8
      have e2 := wd_len (W := W) (a := a) (md := made R m ++ [pourR R m])
      rw [ha, h.one, List.length_singleton, List.length_append, List.length_singleton, made_ln hw, Nat.one_mul] at e2
      rw [e1, hR.2, ha]
      generalize hV : (W.flatMap fun r => if r.nm = nm then made R m ++ [pourR R m] else [r]) = V at e2
      have eV : V.length = W.length + m * (R.fr.length + 1) := by omega
      rw [← eV]
      by_cases h40 : 40 < V.length
      · refine .inl ⟨by rw [decide_eq_true h40]; rfl, ?_⟩
        rw [if_pos h40]
        split <;> rfl
      · rw [decide_eq_false h40, if_neg h40]
        cases hc : decide (10 < nm.length)
        · cases hcl : clash (W.map (·.nm)) nm R.fr.length m
          · exact .inr ⟨rfl, rfl, m, V, hd', rfl, eV⟩
          · exact .inl ⟨rfl, rfl⟩
        · exact .inl ⟨rfl, rfl⟩
  · rw [if_neg ha]
    exact .inl ⟨by cases ioB d <;> rfl, by cases ioB d <;> rfl⟩
def cellOf (ns : List Int) (k : Int) : Int := ns.getD k.toNat 0
theorem g_cell {ns : List Int} {k : Int} (hk : 0 ≤ k) : g__cell_at [.lst (ns.map .int), .int k] M = some (.v (.int (cellOf ns k)), M) := by
 unfold g__cell_at b__cell_at
 walk_at "all"
 by_cases h : k < (ns.length : Int)
 ·rw [if_pos h]
  walk_at "all"
  rw [atI_mapD, atI_nn 0 hk h]
  rfl
 ·rw [if_neg h]
  walk_at "all"
  unfold cellOf
  simp [List.getD, List.getElem?_eq_none (show ns.length ≤ k.toNat by omega)]
abbrev ALN : Str := Str.ofString "abcdefghijklmnopqrstuvwxyz" ++ Str.ofString "0123456789"
theorem len_LET : (Str.ofString "abcdefghijklmnopqrstuvwxyz").length = 26 := by decide +kernel
theorem len_dig : (Str.ofString "0123456789").length = 10 := by decide +kernel
theorem at_txt {z : Str} {i : Int} {n : Nat} (h0 : 0 ≤ i) (h1 : i < n) (hl : (cd z).length = n) (hc : (cd z).all (fun c => decide (c < 4294967296)) = true) : ∃ c : Nat, c < 4294967296 ∧ c ∈ cd z ∧ atI z.cps.toList i = some c := by
 have e := atI_nn (xs := cd z) 0 h0 (by rw [hl]; exact h1)
 have hm : (cd z).getD i.toNat 0 ∈ cd z := by
  rw [List.getD_eq_getElem?_getD, List.getElem?_eq_getElem (show i.toNat < (cd z).length by omega)]
  exact List.getElem_mem _
 exact ⟨_, of_decide_eq_true (List.all_eq_true.mp hc _ hm), hm, e⟩
theorem one_sm {c : Nat} (h : c < 4294967296) : sm ⟨#[c]⟩ ∧ (⟨#[c]⟩ : Str).length = 1 := by
 refine ⟨⟨show 1 ≤ 9000 by decide, fun x hx => ?_⟩, rfl⟩
 have : x = c := by simpa [cd] using hx
 omega
theorem nm_turn {n : Int} {z : Str} {j : Nat} (hj : j < 100) (hz : z.length ≤ 1000) : ∃ c : Nat, c < 4294967296 ∧ l__name_1 [.val (.int n), .val (.str "abcdefghijklmnopqrstuvwxyz"), .val (.str z), .val (.int (0 + (j : Int)))] M = some (.nx [.val (.int n), .val (.str "abcdefghijklmnopqrstuvwxyz"), .val (.str (z ++ ⟨#[c]⟩)), .val (.int (0 + (j : Int)))], M) := by
 have q0 := Int.emod_nonneg (n / (208 + 37 * (0 + (j : Int)))) (show (36 : Int) ≠ 0 by decide)
 have q1 := Int.emod_lt_of_pos (n / (208 + 37 * (0 + (j : Int)))) (show (0 : Int) < 36 by decide)
 obtain ⟨c, hc, _, ec⟩ := at_txt (z := ALN) q0 q1 (by decide +kernel) (by decide +kernel)
 refine ⟨c, hc, ?_⟩
 unfold l__name_1
 walk_at "all"
 rw [if_pos (by rw [len_LET, len_dig]; decide)]
 walk_at "all"
 rw [if_pos (show 0 < 208 + 37 * (0 + (j : Int)) ∧ (208 + 37 * (0 + (j : Int))).natAbs < 1073741824 by omega)]
 walk_at "all"
 rw [if_pos (by decide +kernel), ec]
 walk_at "all"
 rw [if_pos (by show z.length + 1 ≤ _; omega)]
 walk_at "all"
theorem nm_loop {n : Int} : ∀ (js : List Nat) (z : Str) (s3 : E3.Slot), (∀ j ∈ js, j < 100) → z.length + js.length ≤ 100 → sm z → ∃ (y : Str) (t3 : E3.Slot), sm y ∧ y.length = z.length + js.length ∧ loopS 3 l__name_1 (js.map fun (j : Nat) => D.int (0 + j)) [.val (.int n), .val (.str "abcdefghijklmnopqrstuvwxyz"), .val (.str z), s3] M = some (.nx [.val (.int n), .val (.str "abcdefghijklmnopqrstuvwxyz"), .val (.str y), t3], M)
  | [], z, s3, _, _, hz => ⟨z, s3, hz, rfl, rfl⟩
  | j :: js, z, s3, hj, hl, hz => by
    rw [List.length_cons] at hl
    obtain ⟨c, hc, e⟩ := nm_turn (M := M) (n := n) (z := z) (hj j (by simp)) (by omega)
    obtain ⟨o1, o2⟩ := one_sm hc
    obtain ⟨y, t3, h1, h2, ih⟩ := nm_loop (n := n) js (z ++ ⟨#[c]⟩) (.val (.int (0 + (j : Int)))) (fun x hx => hj x (List.mem_cons_of_mem _ hx)) (by rw [strLen_append, o2]; omega) (sm_app hz o1 (by rw [o2]; omega))
    refine ⟨y, t3, h1, by rw [h2, strLen_append, o2, List.length_cons]; omega, ?_⟩
    rw [List.map_cons]
    walk_at "all"
    rw [e, r_stN]
    exact ih
theorem g_nm {n : Int} (h0 : 0 ≤ n) : ∃ y : Str, sm y ∧ 1 ≤ y.length ∧ y.length ≤ 12 ∧ g__name [.int n] M = some (.v (.str y), M) := by
 have p0 := Int.emod_nonneg n (show (26 : Int) ≠ 0 by decide)
 have p1 := Int.emod_lt_of_pos n (show (0 : Int) < 26 by decide)
 obtain ⟨c, hc, _, ec⟩ := at_txt (z := Str.ofString "abcdefghijklmnopqrstuvwxyz") p0 p1 (by decide +kernel) (by decide +kernel)
 obtain ⟨o1, o2⟩ := one_sm hc
 have q0 := Int.emod_nonneg (n / 26) (show (8 : Int) ≠ 0 by decide)
 have q1 := Int.emod_lt_of_pos (n / 26) (show (0 : Int) < 8 by decide)
 let ls : List Int := [0, 1, 2, 8, 9, 10, 11, 9]
 have el : atI (ls.map D.int) (n / 26 % 8) = some (.int (ls.getD (n / 26 % 8).toNat 0)) := by
  rw [atI_mapD, atI_nn (xs := ls) 0 q0 (by show n / 26 % 8 < ((8 : Nat) : Int); omega)]
  rfl
 obtain ⟨m, hm, em⟩ : ∃ m : Nat, m ≤ 11 ∧ ls.getD (n / 26 % 8).toNat 0 = (m : Int) := by
  have hin : ls.getD (n / 26 % 8).toNat 0 ∈ ls := by
   rw [List.getD_eq_getElem?_getD, List.getElem?_eq_getElem (show (n / 26 % 8).toNat < ls.length by show _ < 8; omega)]
   exact List.getElem_mem _
  generalize ls.getD (n / 26 % 8).toNat 0 = x at hin
  simp only [ls, List.mem_cons, List.not_mem_nil, or_false] at hin
  exact ⟨x.toNat, by omega, by omega⟩
 rw [em] at el
 obtain ⟨y, t3, h1, h2, e0⟩ := nm_loop (M := M) (n := n) (List.range m) ⟨#[c]⟩ .un (fun j hj => by have := List.mem_range.mp hj; omega) (by rw [o2, List.length_range]; omega) o1
 rw [o2, List.length_range] at h2
 refine ⟨y, h1, by omega, by omega, ?_⟩
 unfold g__name b__name
 walk_at "all"
 rw [if_pos (by rw [len_LET]; decide), ec]
 walk_at "all"
 rw [show [D.int 0, .int 1, .int 2, .int 8, .int 9, .int 10, .int 11, .int 9] = ls.map D.int from rfl, el]
 walk_at "all"
 rw [r_rng1 (by omega), Int.toNat_natCast]
 walk_at "all"
 rw [e0]
 walk_at "all"
theorem pig : ∀ (ns : List Str) (f : Nat → Str), (∀ i j, f i = f j → i = j) → ¬ ∀ i, i ≤ ns.length → f i ∈ ns
  | [], f, _, h => by have := h 0 (Nat.le_refl _); cases this
  | a :: ns, f, inj, h => by
    rw [List.length_cons] at h
    by_cases ha : ∃ i0, i0 ≤ ns.length + 1 ∧ f i0 = a
    · obtain ⟨i0, h0, e0⟩ := ha
      refine pig ns (fun j => if j < i0 then f j else f (j + 1)) (fun i j e => ?_) fun j hj => ?_
      · split at e <;> split at e
        · exact inj _ _ e
        · have := inj _ _ e; omega
        · have := inj _ _ e; omega
        · have := inj _ _ e; omega
      · split
        · rename_i hlt
          have := h j (by omega)
          rcases List.mem_cons.mp this with e | e
          · have := inj _ _ (e.trans e0.symm); omega
          · exact e
        · rename_i hlt
          have := h (j + 1) (by omega)
          rcases List.mem_cons.mp this with e | e
          · have := inj _ _ (e.trans e0.symm); omega
          · exact e
    · refine pig ns f inj fun i hi => ?_
      have := h i (by omega)
      rcases List.mem_cons.mp this with e | e
      · exact absurd ⟨i, by omega, e⟩ ha
      · exact e
theorem shw_inj {i j : Nat} (hi : i < 1000) (hj : j < 1000) (h : shw (i : Int) = shw (j : Int)) : i = j := by
 have p : (1000 : Nat) < 10 ^ 600 := by decide +kernel
 have h1 := int_shw (i := (i : Int)) (by omega)
 have h2 := int_shw (i := (j : Int)) (by omega)
 rw [h, h2] at h1
 have := Option.some.inj h1
 omega
theorem mem_sum {x : Str} : ∀ {ns : List Str}, x ∈ ns → x.length ≤ (ns.map (·.length)).sum
  | [], h => by cases h
  | a :: ns, h => by
    rw [List.map_cons, List.sum_cons]
    rcases List.mem_cons.mp h with e | e
    · rw [← e]; omega
    · have := mem_sum e; omega
theorem fr_ex {ns : List Str} {st : Str} (h : ns.length < 900) : ∃ i : Nat, i ≤ ns.length ∧ ns.contains (st ++ shw i) = false ∧ ∀ j, j < i → ns.contains (st ++ shw j) = true := by
  have hex : ∃ i, i ≤ ns.length ∧ ns.contains (st ++ shw (i : Nat)) = false := by
    refine Classical.byContradiction fun hn => ?_
    have hall : ∀ i : Nat, i ≤ ns.length → st ++ shw (i : Nat) ∈ ns := fun i hi => by
      refine Classical.byContradiction fun z => hn ⟨i, hi, ?_⟩
      rw [Bool.eq_false_iff]
      exact fun y => z (List.contains_iff_mem.mp y)
    refine pig ns (fun i => if i ≤ ns.length then st ++ shw (i : Nat) else ⟨(List.replicate (i + 2000 + (ns.map (·.length)).sum) 0).toArray⟩) (fun i j e => ?_) fun i hi => by rw [if_pos hi]; exact hall i hi
    have bnd : ∀ k : Nat, k ≤ ns.length → (st ++ shw (k : Nat)).length ≤ (ns.map (·.length)).sum := fun k hk => mem_sum (hall k hk)
    have ln : ∀ n : Nat, (⟨(List.replicate n 0).toArray⟩ : Str).length = n := fun n => by
      show (List.replicate n 0).toArray.size = n
      simp
    split at e <;> split at e
    · rename_i h1 h2
      refine shw_inj (by omega) (by omega) ?_
      have e2 := congrArg cd e
      rw [cd_app, cd_app] at e2
      exact cd_inj (List.append_cancel_left e2)
    · rename_i h1 h2
      have := congrArg Str.length e
      rw [ln] at this
      have := bnd i h1
      omega
    · rename_i h1 h2
      have := congrArg Str.length e
      rw [ln] at this
      have := bnd j h2
      omega
    · have := congrArg Str.length e
      rw [ln, ln] at this
      omega
  obtain ⟨i, hi, hc⟩ := hex
  induction i using Nat.strongRecOn with
  | _ i ih =>
    by_cases hl : ∀ j, j < i → ns.contains (st ++ shw (j : Nat)) = true
    · exact ⟨i, hi, hc, hl⟩
    · obtain ⟨j, hj⟩ := Classical.not_forall.mp hl
      obtain ⟨hj1, hj2⟩ := Classical.not_imp.mp hj
      exact ih j hj1 (by omega) (by rw [Bool.eq_false_iff]; exact hj2)
theorem g_free {ns : List Str} {st : Str} (h : ns.length < 900) (hs : sm st) (hst : st.length ≤ 50) : ∃ y : Str, sm y ∧ y.length ≤ 60 ∧ ns.contains y = false ∧ g__free [.lst (ns.map D.str), .str st] M = some (.v (.str y), M) := by
 obtain ⟨i, hi, hc, hl⟩ := fr_ex (ns := ns) (st := st) h
 obtain ⟨q1, q2⟩ := shw_sm (n := i) (by omega)
 have sl : ∀ j : Nat, j ≤ i → st.length + (Str.ofString (toString (j : Int))).length ≤ 16777216 := fun j hj => by
  have := (shw_sm (n := j) (by omega)).2
  show _ + (shw (j : Int)).length ≤ _
  omega
 have tt : ∀ j : Nat, j ≤ i → t__free_1 [.val (.lst (ns.map D.str)), .val (.str st), .val (.int j)] M = some (.v (.bl (ns.contains (st ++ shw j))), M) := fun j hj => by
  unfold t__free_1
  walk_at "all"
  rw [if_pos (log_nn (by omega))]
  walk_at "all"
  rw [if_pos (sl j hj)]
  walk_at "all"
  rw [o_inSs]
  rfl
 refine ⟨st ++ shw i, sm_app hs q1 (by omega), by rw [strLen_append]; omega, hc, ?_⟩
 have wl : sWhile 1000 t__free_1 l__free_1 [.val (.lst (ns.map D.str)), .val (.str st), .val (.int 0)] M = some (.nx [.val (.lst (ns.map D.str)), .val (.str st), .val (.int i)], M) := by
  refine while_by (fun o => o = some (.nx [.val (.lst (ns.map D.str)), .val (.str st), .val (.int i)], M)) (fun m env N => N = M ∧ m ≤ i ∧ env = [.val (.lst (ns.map D.str)), .val (.str st), .val (.int ((i - m : Nat) : Int))]) ⟨i, by omega, rfl, Nat.le_refl _, by rw [Nat.sub_self]; rfl⟩ ?_
  rintro m env N ⟨rfl, hm, rfl⟩
  refine ⟨_, N, tt (i - m) (by omega), ?_⟩
  by_cases h0 : m = 0
  ·subst h0
   rw [Nat.sub_zero, hc, if_neg (by decide)]
  ·rw [hl (i - m) (by omega), if_pos rfl]
   unfold l__free_1
   walk_at "all"
   refine ⟨m - 1, by omega, rfl, by omega, ?_⟩
   rw [show ((i - m : Nat) : Int) + 1 = ((i - (m - 1) : Nat) : Int) by omega]
 unfold g__free b__free
 walk_at "all"
 rw [wl]
 walk_at "all"
 rw [if_pos (log_nn (by omega))]
 walk_at "all"
 rw [if_pos (sl i (Nat.le_refl _))]
 walk_at "all"
 rfl
theorem g_lrow {c : Int} {nm : Str} : ∃ (w : Str) (fr rs : List Str), wideB w = true ∧ (fr.length = 1 ∨ fr.length = 2) ∧ g__row [.int c, .str nm] M = some (.v (enc ⟨w, nm, fr, rs⟩), M) := by
 have q0 := Int.emod_nonneg c (show (6 : Int) ≠ 0 by decide)
 have q1 := Int.emod_lt_of_pos c (show (0 : Int) < 6 by decide)
 have e6 : c % 6 = 0 ∨ c % 6 = 1 ∨ c % 6 = 2 ∨ c % 6 = 3 ∨ c % 6 = 4 ∨ c % 6 = 5 := by omega
 unfold g__row b__row
 walk_at "all"
 rcases e6 with h | h | h | h | h | h
 ·refine ⟨"keep", ["1a"], ["<", "v", "5"], by decide +kernel, .inl rfl, ?_⟩
  rw [h]
  walk_at "all"
  rfl
 ·refine ⟨"turn", ["1a"], ["+", "v", "t"], by decide +kernel, .inl rfl, ?_⟩
  rw [h]
  walk_at "all"
  rw [h]
  walk_at "all"
  rfl
 ·refine ⟨"fixed", ["1a"], ["7", "sum"], by decide +kernel, .inl rfl, ?_⟩
  rw [h]
  walk_at "all"
  rw [h]
  walk_at "all"
  rw [h]
  walk_at "all"
  rfl
 ·refine ⟨"slide", ["1a"], ["9", "4", "most"], by decide +kernel, .inl rfl, ?_⟩
  rw [h]
  walk_at "all"
  rw [h]
  walk_at "all"
  rw [h]
  walk_at "all"
  rw [h]
  walk_at "all"
  rfl
 ·refine ⟨"gap", ["1a"], ["3", "count"], by decide +kernel, .inl rfl, ?_⟩
  rw [h]
  walk_at "all"
  rw [h]
  walk_at "all"
  rw [h]
  walk_at "all"
  rw [h]
  walk_at "all"
  rw [h]
  walk_at "all"
  rfl
 ·refine ⟨"join", ["1a", "1a"], ["2", "w"], by decide +kernel, .inr rfl, ?_⟩
  rw [h]
  walk_at "all"
  rw [h]
  walk_at "all"
  rw [h]
  walk_at "all"
  rw [h]
  walk_at "all"
  rw [h]
  walk_at "all"
  rfl
theorem WS.mem {W : List Rw} {nm : Str} {R : Rw} (h : WS W nm R) : R ∈ W ∧ R.nm = nm := by
 have : R ∈ W.filter (fun r => decide (r.nm = nm)) := by rw [h.one]; simp
 have := List.mem_filter.mp this
 exact ⟨this.1, of_decide_eq_true this.2⟩
theorem WS.add {W : List Rw} {nm : Str} {R r : Rw} (h : WS W nm R) (hl : W.length < 100) (h1 : r.nm ≠ nm) (h2 : wideB r.w = false) (h3 : r.nm.length ≤ 100) (h4 : sm r.nm) : WS (W ++ [r]) nm R := by
 refine ⟨by rw [List.length_append, List.length_singleton]; omega, fun x hx => ?_, fun x hx hw => ?_, ?_, ?_⟩
 ·rw [List.mem_append, List.mem_singleton] at hx
  rcases hx with hx | rfl
  ·exact h.nms x hx
  ·exact ⟨h3, h4⟩
 ·rw [List.mem_append, List.mem_singleton] at hx
  rcases hx with hx | rfl
  ·exact h.fr x hx hw
  ·rw [h2] at hw; cases hw
 ·rw [List.filter_append, h.one, List.filter_cons, if_neg (by simpa using h1)]
  rfl
 ·rw [List.filter_append, h.wid, List.filter_cons, h2]
  rfl
theorem ne_of {W : List Rw} {nm y : Str} {R : Rw} (h : WS W nm R) (hy : (W.map (·.nm)).contains y = false) : y ≠ nm := fun e => by
 have : (W.map (·.nm)).contains y = true := List.contains_iff_mem.mpr (by rw [e, ← h.mem.2]; exact List.mem_map_of_mem h.mem.1)
 rw [hy] at this
 cases this
theorem nms_comp {e : E} {W : List Rw} (he : ∀ r : Rw, e [.val (enc r)] M = some (.v (.str r.nm), M)) (hW : W.length ≤ 1000) : compL (sCon (.bl true)) e [] (W.map enc) [] M = some ([] ++ (W.map (·.nm)).map D.str, M) := by
 have := comp_of (e := e) (M := M) (env := []) enc (fun r => D.str r.nm) W [] (fun r _ => he r) (by rw [sizeLine_eq]; simp; omega)
 rw [this, List.map_map]
 rfl
theorem fu_turn {s0 s2 s3 s7' s8' s9 s10 s11 s12 s13 s14 : E3.Slot} {d5 : D} {nm f wd : Str} {rs : List Str} {W : List Rw} {R : Rw} (h : WS W nm R) (hl : W.length ≤ 50) (hwd : sm wd) (hwl : wd.length ≤ 50) (hww : wideB wd = false) :
  ∃ (r : Rw) (t9 : E3.Slot), WS (W ++ [r]) nm R ∧ l__works_2 [s0, .val (.str nm), s2, s3, .val (.str f), .val d5, .own (W.map enc), .val (.str wd), .val (.tup (rs.map D.str)), s9, s10, s11, s12, s13, s14] M = some (.nx [s0, .val (.str nm), s2, s3, .val (.str f), .val d5, .own ((W ++ [r]).map enc), .val (.str wd), .val (.tup (rs.map D.str)), t9, s10, s11, s12, s13, s14], M) := by
 obtain ⟨y, y1, y2, y3, gf⟩ := g_free (M := M) (ns := W.map (·.nm)) (st := wd) (by rw [List.length_map]; omega) hwd hwl
 have cm := nms_comp (M := M) (e := e__works_2) (W := W) (fun r => by unfold e__works_2; walk_at "all") (by omega)
 have hne := ne_of h y3
 by_cases hp : wd = "pour"
 ·refine ⟨⟨wd, y, [nm, f], rs⟩, .val (.tup [.str nm, .str f]), h.add (by omega) hne hww (by show y.length ≤ 100; omega) y1, ?_⟩
  unfold l__works_2
  walk_at "all"
  unfold m136__works_1
  walk_at "all"
  rw [if_pos hp]
  walk_at "all"
  unfold m136__works_2
  walk_at "all"
  rw [cm]
  walk_at "all"
  rw [gf]
  walk_at "all"
  rw [if_pos (show W.length < 16777216 by omega), List.map_append]
  rfl
 ·refine ⟨⟨wd, y, [nm], rs⟩, .val (.tup [.str nm]), h.add (by omega) hne hww (by show y.length ≤ 100; omega) y1, ?_⟩
  unfold l__works_2
  walk_at "all"
  unfold m136__works_1
  walk_at "all"
  rw [if_neg hp]
  walk_at "all"
  unfold m136__works_2
  walk_at "all"
  rw [cm]
  walk_at "all"
  rw [gf]
  walk_at "all"
  rw [if_pos (show W.length < 16777216 by omega), List.map_append]
  rfl
theorem head_ne {nm st : Str} {c0 sc : Nat} {r : List Nat} {k : Nat} (h : cd nm = c0 :: r) (hs : st = ⟨#[sc]⟩) (hc : sc ≠ c0) : st ++ shw (k : Nat) ≠ nm := fun e => by
 have := congrArg cd e
 rw [cd_app, h, hs, cd_one] at this
 simp only [List.cons_append, List.cons.injEq] at this
 exact hc this.1
theorem ot_loop {s0 s2 s3 s7 s8 s9 s10 s11 s12 : E3.Slot} {d5 : D} {nm f st : Str} {R : Rw} {c0 sc : Nat} {r0 : List Nat} (hc : cd nm = c0 :: r0) (hs : st = ⟨#[sc]⟩) (hn : sc ≠ c0) (hsc : sc < 4294967296) : ∀ (ks : List Nat) (W : List Rw) (s14 : E3.Slot), WS W nm R → W.length + ks.length ≤ 100 → (∀ k ∈ ks, k < 1000) →
    ∃ (V : List Rw) (t14 : E3.Slot), WS V nm R ∧ V.length = W.length + ks.length ∧ loopS 14 l__works_1 (ks.map fun (k : Nat) => D.int (0 + k)) [s0, .val (.str nm), s2, s3, .val (.str f), .val d5, .own (W.map enc), s7, s8, s9, s10, s11, s12, .val (.str st), s14] M = some (.nx [s0, .val (.str nm), s2, s3, .val (.str f), .val d5, .own (V.map enc), s7, s8, s9, s10, s11, s12, .val (.str st), t14], M)
  | [], W, s14, h, _, _ => ⟨W, s14, h, rfl, rfl⟩
  | k :: ks, W, s14, h, hl, hk => by
    rw [List.length_cons] at hl
    have hk0 := hk k (by simp)
    obtain ⟨q1, q2⟩ := shw_sm (n := k) hk0
    obtain ⟨o1, o2⟩ := one_sm hsc
    have sl : st.length + (Str.ofString (toString (k : Int))).length ≤ 16777216 := by
      show _ + (shw (k : Int)).length ≤ _
      rw [hs, o2]
      omega
    let r : Rw := ⟨"out", st ++ shw (k : Nat), [f], []⟩
    have hadd : WS (W ++ [r]) nm R := h.add (by omega) (head_ne hc hs hn) (show wideB (Str.ofString "out") = false by decide +kernel) (by show (st ++ shw (k : Nat)).length ≤ _; rw [strLen_append, hs, o2]; omega) (by show sm (st ++ shw (k : Nat)); rw [hs]; exact sm_app o1 q1 (by rw [o2]; omega))
    have tn : l__works_1 [s0, .val (.str nm), s2, s3, .val (.str f), .val d5, .own (W.map enc), s7, s8, s9, s10, s11, s12, .val (.str st), .val (.int (0 + (k : Int)))] M = some (.nx [s0, .val (.str nm), s2, s3, .val (.str f), .val d5, .own ((W ++ [r]).map enc), s7, s8, s9, s10, s11, s12, .val (.str st), .val (.int (0 + (k : Int)))], M) := by
      rw [show (0 : Int) + (k : Int) = (k : Int) by omega]
      unfold l__works_1
      walk_at "all"
      rw [if_pos (log_nn hk0)]
      walk_at "all"
      rw [if_pos sl]
      walk_at "all"
      rw [if_pos (show W.length < 16777216 by omega), List.map_append]
      rfl
    obtain ⟨V, t14, v1, v2, ih⟩ := ot_loop (s0 := s0) (s2 := s2) (s3 := s3) (s7 := s7) (s8 := s8) (s9 := s9) (s10 := s10) (s11 := s11) (s12 := s12) (d5 := d5) (f := f) hc hs hn hsc ks (W ++ [r]) (.val (.int (0 + (k : Int)))) hadd (by rw [List.length_append, List.length_singleton]; omega) fun x hx => hk x (List.mem_cons_of_mem _ hx)
    refine ⟨V, t14, v1, by rw [v2, List.length_append, List.length_singleton, List.length_cons]; omega, ?_⟩
    rw [List.map_cons]
    walk_at "all"
    rw [tn, r_stN]
    exact ih
theorem n7_ok {s0 u2 s7 s8 s9 s11 s12 s13 s14 : E3.Slot} {nm f : Str} {R : Rw} {W : List Rw} {m : Nat} {c : Int} {d5 : D} {wy : Nat} (h5 : ∀ M : Mm, oIx (vw M d5) (.int 2) = some (.tup (List.replicate wy (D.str f)))) (h : WS W nm R) (hl : W.length ≤ 10) (hm : m ≤ 100) (hw : wy ≤ 2) (hn : 1 ≤ nm.length) (hsn : nm.length ≤ 100) :
    ∃ V, WS V nm R ∧ endS (n__works_7 [s0, .val (.str nm), u2, .val (.int m), .val (.str f), .val d5, .own (W.map enc), s7, s8, s9, .val (.int c), s11, s12, s13, s14] M) = some (.v (.lst (V.map enc)), M) := by
  have fin : ∀ (V : List Rw) (t12 t13 t14 : E3.Slot), endS (n__works_8 [s0, .val (.str nm), u2, .val (.int m), .val (.str f), .val d5, .own (V.map enc), s7, s8, s9, .val (.int c), s11, t12, t13, t14] M) = some (.v (.lst (V.map enc)), M) := fun V t12 t13 t14 => by
    unfold n__works_8
    walk_at "all"
  unfold n__works_7
  by_cases h2 : c % 4 = 2
  · obtain ⟨c0, r0, hc⟩ : ∃ c0 r0, cd nm = c0 :: r0 := by
      have := len_cd nm
      cases hcd : cd nm with
      | nil => rw [hcd] at this; simp at this; omega
      | cons a b => exact ⟨a, b, rfl⟩
    have q0 := Int.emod_nonneg (c / 4) (show (4 : Int) ≠ 0 by decide)
    have q1 := Int.emod_lt_of_pos (c / 4) (show (0 : Int) < 4 by decide)
    generalize hq : c / 4 % 4 = q at q0 q1
    -- the stem
    obtain ⟨st, sc, es, hne, hsc, est⟩ : ∃ (st : Str) (sc : Nat), st = ⟨#[sc]⟩ ∧ sc ≠ c0 ∧ sc < 4294967296 ∧ ∀ M : Mm, (s2 oIx (sCon (.str "zy")) (sN bIntB (sCons (s2 (oCmp .eq) (s2 oIx (sVar 1) (sCon (.int 0))) (sCon (.str "z"))) sNil))) [s0, .val (.str nm), u2, .val (.int m), .val (.str f), .val d5, .own (W.map enc), s7, s8, s9, .val (.int c), s11, .val (.int ((m : Int) * ((wy : Int) + 1))), s13, s14] M = some (.v (.str st), M) := by
      by_cases hz : c0 = 122
      · refine ⟨⟨#[121]⟩, 121, rfl, by omega, by decide, fun M => ?_⟩
        walk_at "all"
        rw [if_pos (show nm.length ≤ 16777216 by omega), show nm.cps.toList = cd nm from rfl, hc]
        walk_at "all"
        rw [if_pos (show (⟨#[c0]⟩ : Str) = Str.ofString "z" by rw [hz]; decide +kernel), if_pos (by decide +kernel), show atI (Str.ofString "zy").cps.toList 1 = some 121 by decide +kernel]
        rfl
      · refine ⟨⟨#[122]⟩, 122, rfl, fun e => hz e.symm, by decide, fun M => ?_⟩
        walk_at "all"
        rw [if_pos (show nm.length ≤ 16777216 by omega), show nm.cps.toList = cd nm from rfl, hc]
        walk_at "all"
        rw [if_neg (show ¬ (⟨#[c0]⟩ : Str) = Str.ofString "z" from fun e => hz (by
          have := congrArg cd e
          rw [cd_one, show cd (Str.ofString "z") = [122] by decide +kernel] at this
          simpa using this)), if_pos (by decide +kernel), show atI (Str.ofString "zy").cps.toList 0 = some 122 by decide +kernel]
        rfl
    generalize hN : (39 + q - (m : Int) * ((wy : Int) + 1) - (W.length : Int)) = N
    have hmw : (m : Int) * ((wy : Int) + 1) = ((m * (wy + 1) : Nat) : Int) := by push_cast; rfl
    have hmb : m * (wy + 1) ≤ 100 * 3 := Nat.mul_le_mul hm (by omega)
    obtain ⟨V, t14, v1, v2, e⟩ := ot_loop (M := M) (s0 := s0) (s2 := u2) (s3 := .val (.int m)) (s7 := s7) (s8 := s8) (s9 := s9) (s10 := .val (.int c)) (s11 := s11) (s12 := .val (.int ((m : Int) * ((wy : Int) + 1)))) (d5 := d5) (f := f) hc es hne hsc (List.range N.toNat) W s14 h (by rw [List.length_range]; omega) (fun k hk => by have := List.mem_range.mp hk; omega)
    refine ⟨V, v1, ?_⟩
    walk_at "all"
    rw [if_pos h2]
    walk_at "all"
    rw [h5]
    walk_at "all"
    rw [List.length_replicate, if_pos (.inl (by omega))]
    have e2 := est M
    revert e2
    walk_at "all"
    intro e2
    rw [e2]
    walk_at "all"
    rw [hq, hN, r_rng1 (by omega)]
    walk_at "all"
    rw [e]
    walk_at "all"
    exact fin V _ _ _
  · refine ⟨W, h, ?_⟩
    walk_at "all"
    rw [if_neg h2]
    walk_at "all"
    exact fin W _ _ _
theorem lu1 {is : List Nat} {b : S} {d : D} {ds : List D} {env env1 e1 : E3.Env} {M1 : Mm} (h1 : tupE is d env = some env1) (h2 : b env1 M = some (.nx e1, M1)) : loopU is b (d :: ds) env M = loopU is b ds e1 M1 := by
 simp only [loopU, h1, h2]
theorem n6_ok {s0 u2 s7 s8 s9 s11 s12 s13 s14 : E3.Slot} {nm f : Str} {R : Rw} {W : List Rw} {m : Nat} {c : Int} {d5 : D} {wy : Nat} (h5 : ∀ M : Mm, oIx (vw M d5) (.int 2) = some (.tup (List.replicate wy (D.str f)))) (h : WS W nm R) (hl : W.length ≤ 9) (hm : m ≤ 100) (hw : wy ≤ 2) (hn : 1 ≤ nm.length) (hsn : nm.length ≤ 100) (hs : sm nm) :
  ∃ V, WS V nm R ∧ endS (n__works_6 [s0, .val (.str nm), u2, .val (.int m), .val (.str f), .val d5, .own (W.map enc), s7, s8, s9, .val (.int c), s11, s12, s13, s14] M) = some (.v (.lst (V.map enc)), M) := by
 have skip : ∀ t11 : E3.Slot, ∃ V, WS V nm R ∧ endS (n__works_7 [s0, .val (.str nm), u2, .val (.int m), .val (.str f), .val d5, .own (W.map enc), s7, s8, s9, .val (.int c), t11, s12, s13, s14] M) = some (.v (.lst (V.map enc)), M) := fun t11 => n7_ok h5 h (by omega) hm hw hn hsn
 unfold n__works_6
 by_cases h1 : c % 4 = 1
 ·by_cases h11 : nm.length < 11
  ·have q0 := Int.emod_nonneg (c / 4) (show (9 : Int) ≠ 0 by decide)
   have q1 := Int.emod_lt_of_pos (c / 4) (show (0 : Int) < 9 by decide)
   obtain ⟨q, hq⟩ : ∃ q : Nat, c / 4 % 9 = (q : Int) := ⟨(c / 4 % 9).toNat, by omega⟩
   have hq9 : q < 9 := by omega
   obtain ⟨z1, z2⟩ := shw_sm (n := q) (by omega)
   have p0 := Int.emod_nonneg (c / 36) (show (3 : Int) ≠ 0 by decide)
   have p1 := Int.emod_lt_of_pos (c / 36) (show (0 : Int) < 3 by decide)
   obtain ⟨su, u1, u3, eu⟩ : ∃ su : Str, sm su ∧ su.length ≤ 1 ∧ atI [D.str "", .str "l", .str "r"] (c / 36 % 3) = some (.str su) := by
    have e3 : c / 36 % 3 = 0 ∨ c / 36 % 3 = 1 ∨ c / 36 % 3 = 2 := by omega
    rcases e3 with e | e | e
    ·exact ⟨"", ⟨by decide +kernel, by decide +kernel⟩, by decide +kernel, by rw [e]; rfl⟩
    ·exact ⟨"l", ⟨by decide +kernel, by decide +kernel⟩, by decide +kernel, by rw [e]; rfl⟩
    ·exact ⟨"r", ⟨by decide +kernel, by decide +kernel⟩, by decide +kernel, by rw [e]; rfl⟩
   have l1 : nm.length + (Str.ofString (toString (q : Int))).length ≤ 16777216 := by
    show _ + (shw (q : Int)).length ≤ _
    omega
   have l2 : (nm ++ Str.ofString (toString (q : Int))).length + su.length ≤ 16777216 := by
    rw [strLen_append]
    show _ + (shw (q : Int)).length + _ ≤ _
    omega
   have cm := nms_comp (M := M) (e := e__works_1) (W := W) (fun r => by unfold e__works_1; walk_at "all") (by omega)
   walk_at "all"
   rw [if_pos h1, if_pos (show nm.length ≤ 16777216 by omega)]
   walk_at "all"
   rw [if_pos (by omega)]
   walk_at "all"
   rw [hq, if_pos (log_nn (by omega))]
   walk_at "all"
   rw [if_pos l1]
   walk_at "all"
   rw [eu]
   walk_at "all"
   rw [if_pos l2]
   walk_at "all"
   rw [cm]
   walk_at "all"
   rw [o_ninSs]
   have sy : sm (nm ++ Str.ofString (toString (q : Int)) ++ su) := sm_app (show sm (nm ++ shw (q : Int)) from sm_app hs z1 (by omega)) u1 (by rw [strLen_append]; show _ + (shw (q : Int)).length + _ ≤ _; omega)
   have ly : (nm ++ Str.ofString (toString (q : Int)) ++ su).length ≤ 100 := by
    rw [strLen_append, strLen_append]
    show _ + (shw (q : Int)).length + _ ≤ _
    omega
   generalize nm ++ Str.ofString (toString (q : Int)) ++ su = y at sy ly
   cases hy : (W.map (·.nm)).contains y
   ·walk_at "all"
    rw [if_pos (show W.length < 16777216 by omega)]
    walk_at "all"
    have ha := h.add (r := ⟨"in", y, [], []⟩) (by omega) (ne_of h hy) (show wideB (Str.ofString "in") = false by decide +kernel) ly sy
    have := n7_ok (M := M) (s0 := s0) (u2 := u2) (s7 := s7) (s8 := s8) (s9 := s9) (s11 := .val (.str y)) (s12 := s12) (s13 := s13) (s14 := s14) (c := c) h5 ha (by rw [List.length_append, List.length_singleton]; omega) hm hw hn hsn
    rw [List.map_append] at this
    exact this
   ·walk_at "all"
    exact skip _
  ·walk_at "all"
   rw [if_pos h1, if_pos (show nm.length ≤ 16777216 by omega)]
   walk_at "all"
   rw [if_neg (by omega)]
   walk_at "all"
   exact skip _
 ·walk_at "all"
  rw [if_neg h1]
  walk_at "all"
  exact skip _
theorem g_wk {ns : List Int} {nm : Str} {kd : Int} {m : Nat} (hs : sm nm) (hn : 1 ≤ nm.length) (hsn : nm.length ≤ 12) (hm : m ≤ 100) : ∃ W R, WS W nm R ∧ g__works [.lst (ns.map D.int), .str nm, .int kd, .int m] M = some (.v (.lst (W.map enc)), M) := by
 obtain ⟨f, f1, f2, f3, gf⟩ := g_free (M := M) (ns := [nm]) (st := "a") (by simp) ⟨by decide +kernel, by decide +kernel⟩ (by decide +kernel)
 have fne : f ≠ nm := fun e => by
  rw [e] at f3
  simp at f3
 obtain ⟨w, fr, rs, w1, w2, gr⟩ := g_lrow (M := M) (c := kd) (nm := nm)
 let R : Rw := ⟨w, nm, List.replicate fr.length f, rs⟩
 have hW : WS [⟨"in", f, [], []⟩, R] nm R := by
  refine ⟨by simp, fun r hr => ?_, fun r hr hw => ?_, ?_, ?_⟩
  ·simp only [List.mem_cons, List.not_mem_nil, or_false] at hr
   rcases hr with rfl | rfl
   ·exact ⟨by show f.length ≤ 100; omega, f1⟩
   ·exact ⟨by show nm.length ≤ 100; omega, hs⟩
  ·simp only [List.mem_cons, List.not_mem_nil, or_false] at hr
   rcases hr with rfl | rfl
   ·exact absurd hw (by show ¬ wideB (Str.ofString "in") = true; decide +kernel)
   ·show (List.replicate fr.length f).length = 1 ∨ _
    rw [List.length_replicate]
    exact w2
  ·rw [List.filter_cons, if_neg (by simpa using fne), List.filter_cons, if_pos (by simp [R])]
   rfl
  ·rw [List.filter_cons, if_neg (by show ¬ wideB (Str.ofString "in") = true; decide +kernel), List.filter_cons, if_pos w1]
   rfl
 have cm : compL (sCon (.bl true)) e__works_3 [.val (.str f)] (fr.map D.str) [] M = some ([] ++ fr.map fun _ => D.str f, M) :=
  comp_of D.str (fun _ => D.str f) fr [] (fun r _ => by unfold e__works_3; walk_at "all") (by rw [sizeLine_eq]; simp; omega)
 have h5 : ∀ M : Mm, oIx (vw M (enc R)) (.int 2) = some (.tup (List.replicate fr.length (D.str f))) := fun M => by
  rw [w_enc, i_f]
  simp [R]
 -- three rows more
 have sh : sm "share" ∧ sm "pour" ∧ sm "out" := ⟨⟨by decide +kernel, by decide +kernel⟩, ⟨by decide +kernel, by decide +kernel⟩, ⟨by decide +kernel, by decide +kernel⟩⟩
 obtain ⟨r1, t1, k1, e1⟩ := fu_turn (M := M) (s0 := .val (.lst (ns.map D.int))) (s2 := .val (.int kd)) (s3 := .val (.int m)) (s9 := .un) (s10 := .un) (s11 := .un) (s12 := .un) (s13 := .un) (s14 := .un) (d5 := enc R) (f := f) (wd := "share") (rs := ["0", "2"]) (s7' := .un) (s8' := .un) hW (by simp) sh.1 (by decide +kernel) (by decide +kernel)
 obtain ⟨r2, t2, k2, e2⟩ := fu_turn (M := M) (s0 := .val (.lst (ns.map D.int))) (s2 := .val (.int kd)) (s3 := .val (.int m)) (s9 := t1) (s10 := .un) (s11 := .un) (s12 := .un) (s13 := .un) (s14 := .un) (d5 := enc R) (f := f) (wd := "pour") (rs := []) (s7' := .un) (s8' := .un) k1 (by simp) sh.2.1 (by decide +kernel) (by decide +kernel)
 obtain ⟨r3, t3, k3, e3⟩ := fu_turn (M := M) (s0 := .val (.lst (ns.map D.int))) (s2 := .val (.int kd)) (s3 := .val (.int m)) (s9 := t2) (s10 := .un) (s11 := .un) (s12 := .un) (s13 := .un) (s14 := .un) (d5 := enc R) (f := f) (wd := "out") (rs := []) (s7' := .un) (s8' := .un) k2 (by simp) sh.2.2 (by decide +kernel) (by decide +kernel)
 obtain ⟨V, hV, eV⟩ := n6_ok (M := M) (s0 := .val (.lst (ns.map D.int))) (u2 := .val (.int kd)) (s7 := .val (.str "out")) (s8 := .val (.tup [])) (s9 := t3) (s11 := .un) (s12 := .un) (s13 := .un) (s14 := .un) (c := cellOf ns 3) (m := m) h5 k3 (by simp) hm (by omega) hn (by omega) hs
 refine ⟨V, R, hV, ?_⟩
 unfold g__works b__works
 walk_at "all"
 rw [show [D.str nm] = [nm].map D.str from rfl, gf]
 walk_at "all"
 unfold n__works_1
 walk_at "all"
 rw [gr]
 walk_at "all"
 unfold n__works_2
 walk_at "all"
 rw [cm]
 walk_at "all"
 rw [show D.tup [.str w, .str nm, .tup (fr.map fun _ => D.str f), .tup (rs.map D.str)] = enc R by simp [enc, R, List.map_const']]
 unfold n__works_3
 walk_at "all"
 have lp : loopU [7, 8] l__works_2 [.tup [.str "share", .tup [.str "0", .str "2"]], .tup [.str "pour", .tup []], .tup [.str "out", .tup []]] [.val (.lst (ns.map D.int)), .val (.str nm), .val (.int kd), .val (.int m), .val (.str f), .val (enc R), .own ([⟨"in", f, [], []⟩, R].map enc), .un, .un, .un, .un, .un, .un, .un, .un] M = some (.nx [.val (.lst (ns.map D.int)), .val (.str nm), .val (.int kd), .val (.int m), .val (.str f), .val (enc R), .own (([⟨"in", f, [], []⟩, R] ++ [r1] ++ [r2] ++ [r3]).map enc), .val (.str "out"), .val (.tup []), t3, .un, .un, .un, .un, .un], M) := by
  exact (lu1 rfl e1).trans ((lu1 rfl e2).trans (lu1 rfl e3))
 unfold n__works_4
 rw [q_seq]
 have eu : sForU [7, 8] (iLst (sLst (sCons (sTup (sCons (sCon (.str "share")) (sCons (sTup (sCons (sCon (.str "0")) (sCons (sCon (.str "2")) sNil))) sNil))) (sCons (sTup (sCons (sCon (.str "pour")) (sCons (sTup sNil) sNil))) (sCons (sTup (sCons (sCon (.str "out")) (sCons (sTup sNil) sNil))) sNil))))) l__works_2 [.val (.lst (ns.map D.int)), .val (.str nm), .val (.int kd), .val (.int m), .val (.str f), .val (enc R), .own ([⟨"in", f, [], []⟩, R].map enc), .un, .un, .un, .un, .un, .un, .un, .un] M = loopU [7, 8] l__works_2 [.tup [.str "share", .tup [.str "0", .str "2"]], .tup [.str "pour", .tup []], .tup [.str "out", .tup []]] [.val (.lst (ns.map D.int)), .val (.str nm), .val (.int kd), .val (.int m), .val (.str f), .val (enc R), .own ([⟨"in", f, [], []⟩, R].map enc), .un, .un, .un, .un, .un, .un, .un, .un] M := by
  unfold sForU
  walk_at "all"
 have e0 : [D.tup [.str "in", .str f, .tup [], .tup []], enc R] = [⟨"in", f, [], []⟩, R].map enc := rfl
 rw [e0, eu, lp, r_nx]
 unfold n__works_5
 walk_at "all"
 rw [g_cell (by decide)]
 walk_at "all"
 exact eV
theorem lst_dep (W : List Rw) : (D.lst (W.map enc)).dep ≤ 50 := by
 have := encs_dep W
 simp only [D.dep]
 omega
def W2 : List Rw := [⟨"in", "a", [], []⟩, ⟨"keep", "b", ["a"], ["<", "v", "t"]⟩]
theorem told6 : g__told [.int 0, .lst (W2.map enc), .str "b", .int 2] M = some (.v (.int 6), M) := by
 have hW : WS W2 "b" ⟨"keep", "b", ["a"], ["<", "v", "t"]⟩ := by
  refine ⟨by decide, fun r hr => ?_, fun r hr hw => ?_, ?_, ?_⟩
  ·simp only [W2, List.mem_cons, List.not_mem_nil, or_false] at hr
   rcases hr with rfl | rfl <;> exact ⟨by decide +kernel, by decide +kernel, by decide +kernel⟩
  ·simp only [W2, List.mem_cons, List.not_mem_nil, or_false] at hr
   rcases hr with rfl | rfl
   ·exact absurd hw (by show ¬ wideB (Str.ofString "in") = true; decide +kernel)
   ·exact .inl rfl
  ·unfold W2
   rw [List.filter_cons, if_neg (show ¬ decide (Str.ofString "a" = Str.ofString "b") = true by decide +kernel), List.filter_cons, if_pos (show decide (Str.ofString "b" = Str.ofString "b") = true by decide +kernel)]
   rfl
  ·unfold W2
   rw [List.filter_cons, if_neg (show ¬ wideB (Str.ofString "in") = true by decide +kernel), List.filter_cons, if_pos (show wideB (Str.ofString "keep") = true by decide +kernel)]
   rfl
 have a0 := as0 (M := M) (W := W2) (a := "b") (d := .int 2) ⟨by decide +kernel, by decide +kernel⟩ trivial (by decide) (fun r hr => (hW.nms r hr).1) hW.fr
 rcases hW.same (a := "b") (d := .int 2) with ⟨h, _⟩ | ⟨_, _, m, V, hd, hw, hl⟩
 ·exact absurd h (by decide +kernel)
 ·rw [hw] at a0
  dsimp only at a0
  have hm : m = 2 := by
   have := D.int.inj hd
   omega
  subst hm
  have := tl_ok (M := M) (E := []) (V := V) (by rw [List.append_nil]; exact a0)
  rw [this, List.append_nil, hl]
  rfl
theorem q7 {s0 u2 s6 s7 s8 s9 s10 : E3.Slot} {nm a : Str} {W : List Rw} {R : Rw} {d : D} (h : WS W nm R) (ha : sm a) (hal : a.length ≤ 1000) (hd : noRef d) : ∃ M', endS (n_law_7 [s0, .val (.str nm), u2, .val d, .val (.lst (W.map enc)), .val (.str a), s6, s7, s8, s9, s10] M) = some (.v (.bl true), M') := by
  have hn : ∀ r ∈ W, r.nm.length ≤ 100 := fun r hr => (h.nms r hr).1
  have a0 := as0 (M := M) (W := W) (a := a) (d := d) ha hd h.len hn h.fr
  have gl := fun N : Mm => g_lg (M := N) (W := W) (a := a) (d := d) hal hd h.len h.filt h.fr
  have vwd : ∀ N : Mm, vw N d = d := fun N => by cases d <;> first | rfl | cases hd
  unfold n_law_7
  walk_at "all"
  unfold n_law_8
  rcases h.same (a := a) (d := d) with ⟨hg, hw⟩ | ⟨hg, rfl, m, V, rfl, hw, hl⟩
  · rw [hw] at a0
    dsimp only at a0
    have t0 := tl_no (M := M) (E := []) (by rw [List.append_nil]; exact a0)
    rw [List.append_nil] at t0
    have t1 := fun N : Mm => tl_no (M := N) (E := [.dct []]) (as12 (M := N) ha hd h.len hn h.fr hw).1
    have t2 := fun N : Mm => tl_no (M := N) (E := [.dct []]) (as12 (M := N) ha hd h.len hn h.fr hw).2
    refine ⟨M ++ [.dct []] ++ [.dct []], ?_⟩
    walk_at "all"
    rw [t0]
    walk_at "all"
    unfold n_law_9
    walk_at "all"
    rw [o_neR (lst_dep W)]
    walk_at "all"
    unfold n_law_10
    walk_at "all"
    rw [gl, hg]
    walk_at "all"
    rw [show [D.tup [.str "in", .str "a", .tup [], .tup []], .tup [.str "keep", .str "b", .tup [.str "a"], .tup [.str "<", .str "v", .str "t"]]] = W2.map enc from rfl, told6]
    walk_at "all"
    rw [t1]
    walk_at "all"
    rw [t2]
    walk_at "all"
    rw [o_eqR (lst_dep W)]
    walk_at "all"
  · rw [hw] at a0
    dsimp only at a0
    have t0 := tl_ok (M := M) (E := []) (V := V) (by rw [List.append_nil]; exact a0)
    rw [List.append_nil] at t0
    have hm := h.mem
    have cm : compL c_law_1 e_law_1 [.val (.str a)] (W.map enc) [] M = some ([.int (R.fr.length : Int)], M) := by
      have key : ∀ (L : List Rw) (acc : List D), acc.length + L.length < 1000 → compL c_law_1 e_law_1 [.val (.str a)] (L.map enc) acc M = some (acc ++ (L.filter fun r => decide (r.nm = a)).map fun r => D.int (r.fr.length : Int), M) := fun L => by
        induction L with
        | nil => intro acc _; simp [compL]
        | cons r L ih =>
          intro acc hacc
          rw [List.length_cons] at hacc
          have e1 : c_law_1 [.val (enc r), .val (.str a)] M = some (.v (.bl (decide (r.nm = a))), M) := by
            unfold c_law_1
            walk_at "all"
          have e2 : e_law_1 [.val (enc r), .val (.str a)] M = some (.v (.int (r.fr.length : Int)), M) := by
            unfold e_law_1
            walk_at "all"
          rw [List.map_cons, compL, e1, List.filter_cons]
          by_cases hr : r.nm = a
          · rw [decide_eq_true hr, if_pos rfl]
            dsimp only
            rw [e2]
            dsimp only
            rw [if_pos (by rw [sizeLine_eq]; omega), ih _ (by rw [List.length_append, List.length_singleton]; omega), List.map_cons, List.append_assoc]
            rfl
          · rw [decide_eq_false hr, if_neg (by decide)]
            dsimp only
            exact ih acc (by omega)
      have hlen := h.len
      rw [key W [] (by rw [List.length_nil]; omega), h.one]
      rfl
    refine ⟨M, ?_⟩
    walk_at "all"
    rw [t0]
    walk_at "all"
    unfold n_law_9
    walk_at "all"
    rw [o_neR (lst_dep W)]
    walk_at "all"
    unfold n_law_10
    walk_at "all"
    rw [gl, hg]
    walk_at "all"
    unfold n_law_11
    walk_at "all"
    rw [cm]
    walk_at "all"
    rw [show bMaxL [.lst [.int (R.fr.length : Int)]] = some (.int (R.fr.length : Int)) from rfl]
    walk_at "all"
    unfold n_law_12
    walk_at "all"
    have hml : m ≤ 8 := by
      have hx := hg
      unfold lgood ioB at hx
      rw [h.find, if_pos rfl] at hx
      dsimp only at hx
      split at hx
      · rename_i h1 h2
        split at h2
        · rename_i h3; omega
        · cases h2
      · cases hx
    rw [if_pos (.inl (by omega))]
    walk_at "all"
    rw [hl, decide_eq_true (show ((W.length + m * (R.fr.length + 1) : Nat) : Int) = (W.length : Int) + (m : Int) * ((R.fr.length : Int) + 1) by push_cast; rfl)]
theorem getD_in {α : Type} {xs : List α} {i : Int} {d : α} (h0 : 0 ≤ i) (h1 : i < xs.length) : xs.getD i.toNat d ∈ xs := by
 rw [List.getD_eq_getElem?_getD, List.getElem?_eq_getElem (show i.toNat < xs.length by omega)]
 exact List.getElem_mem _
theorem q6 {u2 s6 s7 s8 s9 s10 : E3.Slot} {ns : List Int} {nm a : Str} {W : List Rw} {R : Rw} {m : Nat} (h : WS W nm R) (ha : sm a) (hal : a.length ≤ 1000) : ∃ M', endS (n_law_6 [.val (.lst (ns.map D.int)), .val (.str nm), u2, .val (.int m), .val (.lst (W.map enc)), .val (.str a), s6, s7, s8, s9, s10] M) = some (.v (.bl true), M') := by
 unfold n_law_6
 walk_at "all"
 rw [g_cell (by decide)]
 walk_at "all"
 by_cases h1 : cellOf ns 2 / 7 % 3 = 1
 ·rw [if_pos h1]
  have cm : compL (sCon (.bl true)) e_law_2 [] ((List.range 14).map fun (k : Nat) => D.int (-2 + k)) [] M = some ([] ++ (List.range 14).map fun (k : Nat) => D.int (-2 + k), M) :=
   comp_of (fun (k : Nat) => D.int (-2 + k)) (fun (k : Nat) => D.int (-2 + k)) (List.range 14) [] (fun r _ => by unfold e_law_2; walk_at "all") (by rw [sizeLine_eq]; decide)
  have rg : E3.iRng2 (sCons (s1 oNeg (sCon (.int 2))) (sCons (sCon (.int 12)) sNil)) [.val (.lst (ns.map D.int)), .val (.str nm), u2, .val (.int m), .val (.lst (W.map enc)), .val (.str a), s6, .val (.lst [.bl true, .non, .str "2", .lst [.int 2], .int 100000000000000000000, .int (-99999999999999999998), .str "", .tup [.int 2]]), s8, s9, s10] M = some (.v ((List.range 14).map fun (k : Nat) => D.int (-2 + k)), M) := by
   rw [r_rng2 (i := -2) (j := 12) (M1 := M) (by walk_at "all") (by decide)]
   rfl
  let od : List D := [.bl true, .non, .str "2", .lst [.int 2], .int 100000000000000000000, .int (-99999999999999999998), .str "", .tup [.int 2]] ++ (List.range 14).map fun (k : Nat) => D.int (-2 + k)
  have ol : od.length = 22 := by simp [od]
  have q0 := Int.emod_nonneg (cellOf ns 2 / 21) (show (22 : Int) ≠ 0 by decide)
  have q1 := Int.emod_lt_of_pos (cellOf ns 2 / 21) (show (0 : Int) < 22 by decide)
  have ei : atI od (cellOf ns 2 / 21 % 22) = some (od.getD (cellOf ns 2 / 21 % 22).toNat .non) := atI_nn (xs := od) .non q0 (by rw [ol]; exact q1)
  have hd : noRef (od.getD (cellOf ns 2 / 21 % 22).toNat .non) := by
   have hin := getD_in (xs := od) (d := .non) q0 (by rw [ol]; exact q1)
   generalize od.getD (cellOf ns 2 / 21 % 22).toNat .non = x at hin
   simp only [od, List.mem_append, List.mem_cons, List.not_mem_nil, or_false, List.mem_map] at hin
   rcases hin with (rfl | rfl | rfl | rfl | rfl | rfl | rfl | rfl) | ⟨k, _, rfl⟩ <;> trivial
  generalize hx : od.getD (cellOf ns 2 / 21 % 22).toNat .non = d at ei hd
  obtain ⟨M', e⟩ := q7 (M := M) (s0 := .val (.lst (ns.map D.int))) (u2 := u2) (s6 := s6) (s7 := .val (.lst od)) (s8 := s8) (s9 := s9) (s10 := s10) h ha hal hd
  refine ⟨M', ?_⟩
  walk_at "all"
  rw [rg]
  walk_at "all"
  rw [cm]
  walk_at "all"
  rw [List.length_range, if_pos (by decide)]
  walk_at "all"
  rw [g_cell (by decide)]
  walk_at "all"
  rw [List.length_range]
  walk_at "all"
  show endS (seqR n_law_7 (seqR sEnd (bndT _ (mapR M (atI od (cellOf ns 2 / 21 % 22)))))) = _
  rw [ei]
  walk_at "all"
  exact e
 ·rw [if_neg h1]
  walk_at "all"
  exact q7 h ha hal trivial
theorem q5 {u2 s5 s6 s7 s8 s9 s10 : E3.Slot} {ns : List Int} {nm : Str} {W : List Rw} {R : Rw} {m : Nat} (h : WS W nm R) (hs : sm nm) (hn : 1 ≤ nm.length) (hl : nm.length ≤ 12) : ∃ M', endS (n_law_5 [.val (.lst (ns.map D.int)), .val (.str nm), u2, .val (.int m), .val (.lst (W.map enc)), .val (.str nm), s6, s7, s8, s9, s10] M) = some (.v (.bl true), M') := by
  unfold n_law_5
  walk_at "all"
  rw [g_cell (by decide)]
  walk_at "all"
  by_cases h1 : cellOf ns 4 % 4 = 3
  · rw [if_pos h1]
    obtain ⟨c0, r0, hc⟩ : ∃ c0 r0, cd nm = c0 :: r0 := by
      have := len_cd nm
      cases hcd : cd nm with
      | nil => rw [hcd] at this; simp at this; omega
      | cons a b => exact ⟨a, b, rfl⟩
    have hlen := h.len
    have cm := nms_comp (M := M) (e := e_law_3) (W := W) (fun r => by unfold e_law_3; walk_at "all") (by omega)
    have lq : (Str.ofString "q").length = 1 := by decide +kernel
    have sl : sm (Txt.slice nm (some 1) none) := by
      have e := slice_cd hc
      refine ⟨by rw [len_cd, e]; have := len_cd nm; rw [hc, List.length_cons] at this; omega, fun c hcc => hs.2 c ?_⟩
      rw [e] at hcc
      rw [hc]
      exact List.mem_cons_of_mem _ hcc
    let so : List Str := W.map (·.nm) ++ [nm ++ Str.ofString "q", "", Txt.slice nm (some 1) none, "Q"]
    have ol : so.length = W.length + 4 := by simp [so]
    have q0 := Int.emod_nonneg (cellOf ns 4 / 4) (show ((W.length : Int) + 4) ≠ 0 by omega)
    have q1 := Int.emod_lt_of_pos (cellOf ns 4 / 4) (show (0 : Int) < (W.length : Int) + 4 by omega)
    generalize hq : cellOf ns 4 / 4 % ((W.length : Int) + 4) = q at q0 q1
    have ei : atI (so.map D.str) q = some (.str (so.getD q.toNat "")) := by
      rw [atI_mapD, atI_nn (xs := so) "" q0 (by rw [ol]; push_cast; exact q1)]
      rfl
    have hd : sm (so.getD q.toNat "") ∧ (so.getD q.toNat "").length ≤ 1000 := by
      have hin := getD_in (xs := so) (d := "") q0 (by rw [ol]; push_cast; exact q1)
      generalize so.getD q.toNat "" = x at hin
      simp only [so, List.mem_append, List.mem_cons, List.not_mem_nil, or_false, List.mem_map] at hin
      rcases hin with ⟨r, hr, rfl⟩ | rfl | rfl | rfl | rfl
      · exact ⟨(h.nms r hr).2, by have := (h.nms r hr).1; omega⟩
      · exact ⟨sm_app hs ⟨by decide +kernel, by decide +kernel⟩ (by rw [lq]; omega), by rw [strLen_append, lq]; omega⟩
      · exact ⟨⟨by decide +kernel, by decide +kernel⟩, by decide +kernel⟩
      · have e := slice_cd hc
        exact ⟨sl, by rw [len_cd, e]; have := len_cd nm; rw [hc, List.length_cons] at this; omega⟩
      · exact ⟨⟨by decide +kernel, by decide +kernel⟩, by decide +kernel⟩
    generalize so.getD q.toNat "" = a at ei hd
    obtain ⟨M', e⟩ := q6 (M := M) (u2 := u2) (s6 := .val (.lst (so.map D.str))) (s7 := s7) (s8 := s8) (s9 := s9) (s10 := s10) (ns := ns) (m := m) h hd.1 hd.2
    refine ⟨M', ?_⟩
    walk_at "all"
    rw [cm]
    walk_at "all"
    rw [if_pos (show nm.length + (Str.ofString "q").length ≤ 16777216 by rw [lq]; omega)]
    walk_at "all"
    rw [if_pos (show nm.length ≤ 16777216 by omega)]
    walk_at "all"
    rw [if_pos (show W.length ≤ 16777212 by omega), show (W.map (·.nm)).map D.str ++ [D.str (nm ++ Str.ofString "q"), .str (Str.ofString ""), .str (Txt.slice nm (some 1) none), .str (Str.ofString "Q")] = so.map D.str by simp [so]]
    walk_at "all"
    rw [g_cell (by decide)]
    walk_at "all"
    rw [ol, if_pos (by omega), show ((W.length + 4 : Nat) : Int) = (W.length : Int) + 4 by push_cast; rfl, hq]
    walk_at "all"
    rw [ei]
    walk_at "all"
    exact e
  · rw [if_neg h1]
    walk_at "all"
    exact q6 h hs (by omega)
theorem lawG_ok : ∀ ns : List Int, ns.length ≤ 63 → ∃ M, lawG [.lst (ns.map D.int)] [] = some (.v (.bl true), M) := by
 intro ns hn
 obtain ⟨y, y1, y2, y3, gn⟩ := g_nm (M := []) (n := cellOf ns 0 % 999983) (Int.emod_nonneg _ (by decide))
 have q0 := Int.emod_nonneg (cellOf ns 2) (show (7 : Int) ≠ 0 by decide)
 have q1 := Int.emod_lt_of_pos (cellOf ns 2) (show (0 : Int) < 7 by decide)
 obtain ⟨m, hm, em⟩ : ∃ m : Nat, m ≤ 100 ∧ 2 + cellOf ns 2 % 7 = (m : Int) := ⟨(2 + cellOf ns 2 % 7).toNat, by omega, by omega⟩
 obtain ⟨W, R, hW, gw⟩ := g_wk (M := []) (ns := ns) (nm := y) (kd := cellOf ns 1) (m := m) y1 y2 y3 hm
 obtain ⟨M', e⟩ := q5 (M := []) (u2 := .val (.int (cellOf ns 1))) (s5 := .un) (s6 := .un) (s7 := .un) (s8 := .un) (s9 := .un) (s10 := .un) (ns := ns) (m := m) hW y1 y2 y3
 refine ⟨M', ?_⟩
 unfold lawG g_law b_law
 walk_at "all"
 rw [g_cell (by decide)]
 walk_at "all"
 rw [gn]
 walk_at "all"
 unfold n_law_1
 walk_at "all"
 rw [g_cell (by decide)]
 walk_at "all"
 unfold n_law_2
 walk_at "all"
 rw [g_cell (by decide)]
 walk_at "all"
 rw [em]
 unfold n_law_3
 walk_at "all"
 rw [gw]
 walk_at "all"
 unfold n_law_4
 walk_at "all"
 exact e
theorem law_at {l : PySem.W.OpenLaw} {w : World} {K : PySem.W.Frag} {mg : Str → Option Value} {C : Ad} {base : Heap} {f0 : Addr} {d0 : FuncData} {f1 : Addr} {d1 : FuncData} {f2 : Addr} {d2 : FuncData} {f3 : Addr} {d3 : FuncData} {f4 : Addr} {d4 : FuncData} {f5 : Addr} {d5 : FuncData} {f6 : Addr} {d6 : FuncData} {f7 : Addr} {d7 : FuncData} {f8 : Addr} {d8 : FuncData} {f9 : Addr} {d9 : FuncData} {f10 : Addr} {d10 : FuncData} {f11 : Addr} {d11 : FuncData} {f12 : Addr} {d12 : FuncData} {f13 : Addr} {d13 : FuncData} {f14 : Addr} {d14 : FuncData} {f15 : Addr} {d15 : FuncData} {f16 : Addr} {d16 : FuncData} {f17 : Addr} {d17 : FuncData} (T : Txt K mg C w)
  (D0 : DefAt K mg "is_whole" s_is_whole ["x"] f0 d0)
  (D1 : DefAt K mg "wide_row" s_wide_row ["works", "name"] f1 d1)
  (D2 : DefAt K mg "part_names" s_part_names ["name", "many"] f2 d2)
  (D3 : DefAt K mg "share_names" s_share_names ["part", "ways"] f3 d3)
  (D4 : DefAt K mg "rows_in_place" s_rows_in_place ["row", "many"] f4 d4)
  (D5 : DefAt K mg "check_made_names" s_check_made_names ["made", "works"] f5 d5)
  (D6 : DefAt K mg "widened" s_widened ["works", "name", "many"] f6 d6)
  (D7 : DefAt K mg "fold_saved" s_fold_saved ["saved", "works", "name", "many"] f7 d7)
  (D8 : DefAt K mg "spread_saved" s_spread_saved ["saved", "works", "name", "many"] f8 d8)
  (D9 : DefAt K mg "_law_cell_at" s__cell_at ["_law_script", "_law_k"] f9 d9)
  (D10 : DefAt K mg "_law_name" s__name ["_law_number"] f10 d10)
  (D11 : DefAt K mg "_law_row" s__row ["_law_cell", "_law_name_here"] f11 d11)
  (D12 : DefAt K mg "_law_free" s__free ["_law_names", "_law_stem"] f12 d12)
  (D13 : DefAt K mg "_law_works" s__works ["_law_script", "_law_name_here", "_law_kind", "_law_many"] f13 d13)
  (D14 : DefAt K mg "_law_good" s__good ["_law_works_here", "_law_name_here", "_law_many"] f14 d14)
  (D15 : DefAt K mg "_law_asked" s__asked ["_law_word", "_law_works_here", "_law_name_here", "_law_many"] f15 d15)
  (D16 : DefAt K mg "_law_told" s__told ["_law_word", "_law_works_here", "_law_name_here", "_law_many"] f16 d16)
  (D17 : DefAt K mg "law" s_law ["_law_script"] f17 d17)
  : FnOk l.prog w K mg base CX0 lawK f17 d17 ["_law_script"] (spG K mg 1 lawG) := by
 have A0 : AtG l.prog w K mg base 1 "is_whole" 1 g_is_whole := fn_at (b := b_is_whole) D0.F sc_is_whole (by decide) D0.mg D0.b (r_is_whole (k := 0) T)
 have B1 : AtX l.prog w K mg base 1 "wide_row" 2 g_wide_row := ⟨_, _, _, D1.mg, D1.F.kp, fn_runP (b := b_wide_row) D1.F sc_wide_row (by decide) (r_wide_row (k := 0) T), D1.b⟩
 have A1 := B1.quiet
 have A2 : AtG l.prog w K mg base 1 "part_names" 2 g_part_names := fn_at (b := b_part_names) D2.F sc_part_names (by decide) D2.mg D2.b (r_part_names (k := 0) T)
 have A3 : AtG l.prog w K mg base 1 "share_names" 2 g_share_names := fn_at (b := b_share_names) D3.F sc_share_names (by decide) D3.mg D3.b (r_share_names (k := 0) T)
 have A4 : AtG l.prog w K mg base 2 "rows_in_place" 2 g_rows_in_place := fn_at (b := b_rows_in_place) D4.F sc_rows_in_place (by decide) D4.mg D4.b (r_rows_in_place (k := 1) T (A2.mono (by decide)) (A3.mono (by decide)))
 have B5 : AtX l.prog w K mg base 1 "check_made_names" 2 g_check_made_names := ⟨_, _, _, D5.mg, D5.F.kp, fn_runP (b := b_check_made_names) D5.F sc_check_made_names (by decide) (r_check_made_names (k := 0) T), D5.b⟩
 have A5 := B5.quiet
 have B6 : AtX l.prog w K mg base 3 "widened" 3 g_widened := ⟨_, _, _, D6.mg, D6.F.kp, fn_runP (b := b_widened) D6.F sc_widened (by decide) (r_widened (k := 2) T (A0.mono (by decide)) (A4.mono (by decide)) (B1.mono (by decide)) (B5.mono (by decide))), D6.b⟩
 have A6 := B6.quiet
 have B7 : AtX l.prog w K mg base 4 "fold_saved" 4 g_fold_saved := ⟨_, _, _, D7.mg, D7.F.kp, fn_runP (b := b_fold_saved) D7.F sc_fold_saved (by decide) (r_fold_saved (k := 3) T (B6.mono (by decide))), D7.b⟩
 have A7 := B7.quiet
 have B8 : AtX l.prog w K mg base 4 "spread_saved" 4 g_spread_saved := ⟨_, _, _, D8.mg, D8.F.kp, fn_runP (b := b_spread_saved) D8.F sc_spread_saved (by decide) (r_spread_saved (k := 3) T (B6.mono (by decide))), D8.b⟩
 have A8 := B8.quiet
 have A9 : AtG l.prog w K mg base 1 "_law_cell_at" 2 g__cell_at := fn_at (b := b__cell_at) D9.F sc__cell_at (by decide) D9.mg D9.b (r__cell_at (k := 0) T)
 have A10 : AtG l.prog w K mg base 1 "_law_name" 1 g__name := fn_at (b := b__name) D10.F sc__name (by decide) D10.mg D10.b (r__name (k := 0) T)
 have A11 : AtG l.prog w K mg base 1 "_law_row" 2 g__row := fn_at (b := b__row) D11.F sc__row (by decide) D11.mg D11.b (r__row (k := 0) T)
 have A12 : AtG l.prog w K mg base 1 "_law_free" 2 g__free := fn_at (b := b__free) D12.F sc__free (by decide) D12.mg D12.b (r__free (k := 0) T)
 have A13 : AtG l.prog w K mg base 2 "_law_works" 4 g__works := fn_at (b := b__works) D13.F sc__works (by decide) D13.mg D13.b (r__works (k := 1) T (A9.mono (by decide)) (A11.mono (by decide)) (A12.mono (by decide)))
 have A14 : AtG l.prog w K mg base 1 "_law_good" 3 g__good := fn_at (b := b__good) D14.F sc__good (by decide) D14.mg D14.b (r__good (k := 0) T)
 have B15 : AtX l.prog w K mg base 5 "_law_asked" 4 g__asked := ⟨_, _, _, D15.mg, D15.F.kp, fn_runP (b := b__asked) D15.F sc__asked (by decide) (r__asked (k := 4) T (B6.mono (by decide)) (B7.mono (by decide)) (B8.mono (by decide))), D15.b⟩
 have A15 := B15.quiet
 have A16 : AtG l.prog w K mg base 6 "_law_told" 4 g__told := fn_at (b := b__told) D16.F sc__told (by decide) D16.mg D16.b (r__told (k := 5) T (B15.mono (by decide)))
 refine @fn_run l.prog w K mg base 6 "law" "law" s_law f17 d17 ["_law_script", "_law_name_here", "_law_kind", "_law_many", "_law_works_here", "_law_asked_here", "_law_some", "_law_odd", "_law_handed", "_law_found", "_law_ways"] ["_law_script"] b_law ?_ ?_ ?_ ?_
 ·exact D17.F
 ·exact sc_law
 ·decide
 ·exact @r_law l.prog w K mg C base 6 f17 T (A9.mono (by decide)) (A10.mono (by decide)) (A13.mono (by decide)) (A14.mono (by decide)) (A16.mono (by decide))
theorem all_mk {l : PySem.W.OpenLaw} {w : World} {K : PySem.W.Frag} {h : Heap} {mg : Str → Option Value} {fa : Addr} (X : K.In h) (G : h.Ns mainGlobals mg) (hfa : mg "law" = some (.ref fa))
  {C_DamError : Addr}
  {C_NoName : Addr}
  {C_NoWide : Addr}
  {C_TooMuch : Addr}
  {f0 : Addr} {oc0 kV0 dc0 pm0 cd0 ct0 : Value} {od0 an0 : Option Addr} {sl0 : Array (Option Value)}
  {f1 : Addr} {oc1 kV1 dc1 pm1 cd1 ct1 : Value} {od1 an1 : Option Addr} {sl1 : Array (Option Value)}
  {f2 : Addr} {oc2 kV2 dc2 pm2 cd2 ct2 : Value} {od2 an2 : Option Addr} {sl2 : Array (Option Value)}
  {f3 : Addr} {oc3 kV3 dc3 pm3 cd3 ct3 : Value} {od3 an3 : Option Addr} {sl3 : Array (Option Value)}
  {f4 : Addr} {oc4 kV4 dc4 pm4 cd4 ct4 : Value} {od4 an4 : Option Addr} {sl4 : Array (Option Value)}
  {f5 : Addr} {oc5 kV5 dc5 pm5 cd5 ct5 : Value} {od5 an5 : Option Addr} {sl5 : Array (Option Value)}
  {f6 : Addr} {oc6 kV6 dc6 pm6 cd6 ct6 : Value} {od6 an6 : Option Addr} {sl6 : Array (Option Value)}
  {f7 : Addr} {oc7 kV7 dc7 pm7 cd7 ct7 : Value} {od7 an7 : Option Addr} {sl7 : Array (Option Value)}
  {f8 : Addr} {oc8 kV8 dc8 pm8 cd8 ct8 : Value} {od8 an8 : Option Addr} {sl8 : Array (Option Value)}
  {f9 : Addr} {oc9 kV9 dc9 pm9 cd9 ct9 : Value} {od9 an9 : Option Addr} {sl9 : Array (Option Value)}
  {f10 : Addr} {oc10 kV10 dc10 pm10 cd10 ct10 : Value} {od10 an10 : Option Addr} {sl10 : Array (Option Value)}
  {f11 : Addr} {oc11 kV11 dc11 pm11 cd11 ct11 : Value} {od11 an11 : Option Addr} {sl11 : Array (Option Value)}
  {f12 : Addr} {oc12 kV12 dc12 pm12 cd12 ct12 : Value} {od12 an12 : Option Addr} {sl12 : Array (Option Value)}
  {f13 : Addr} {oc13 kV13 dc13 pm13 cd13 ct13 : Value} {od13 an13 : Option Addr} {sl13 : Array (Option Value)}
  {f14 : Addr} {oc14 kV14 dc14 pm14 cd14 ct14 : Value} {od14 an14 : Option Addr} {sl14 : Array (Option Value)}
  {f15 : Addr} {oc15 kV15 dc15 pm15 cd15 ct15 : Value} {od15 an15 : Option Addr} {sl15 : Array (Option Value)}
  {f16 : Addr} {oc16 kV16 dc16 pm16 cd16 ct16 : Value} {od16 an16 : Option Addr} {sl16 : Array (Option Value)}
  {f17 : Addr} {oc17 kV17 dc17 pm17 cd17 ct17 : Value} {od17 an17 : Option Addr} {sl17 : Array (Option Value)}
  {tLETTERS : Tok}
  {tMOST_ROWS : Tok}
  {tMOST_SIGNS : Tok}
  {tWIDE_WORDS : Addr} {dWIDE_WORDS : Option Addr} {nWIDE_WORDS : Nat} {sWIDE_WORDS : Array (Option Value)} {kWIDE_WORDS_0 : Tok} {kWIDE_WORDS_1 : Tok} {kWIDE_WORDS_2 : Tok} {kWIDE_WORDS_3 : Tok} {kWIDE_WORDS_4 : Tok} {kWIDE_WORDS_5 : Tok}
  {tMOST_MANY : Tok}
  {tKEY_PLACES : Addr} {nKEY_PLACES : Nat} {hKEY_PLACES_0 : Int} {kKEY_PLACES_0 : Tok} {jKEY_PLACES_0 : Tok} {hKEY_PLACES_1 : Int} {kKEY_PLACES_1 : Tok} {jKEY_PLACES_1 : Tok} {hKEY_PLACES_2 : Int} {kKEY_PLACES_2 : Tok} {jKEY_PLACES_2 : Tok} {hKEY_PLACES_3 : Int} {kKEY_PLACES_3 : Tok} {jKEY_PLACES_3 : Tok}
  (ac_DamError : PySem.W.nsIn K mainGlobals "DamError" = some (some (.ref C_DamError)))
  (ac_NoName : PySem.W.nsIn K mainGlobals "NoName" = some (some (.ref C_NoName)))
  (ac_NoWide : PySem.W.nsIn K mainGlobals "NoWide" = some (some (.ref C_NoWide)))
  (ac_TooMuch : PySem.W.nsIn K mainGlobals "TooMuch" = some (some (.ref C_TooMuch)))
  (xc_DamError : xcIn K C_DamError = true)
  (xc_NoName : xcIn K C_NoName = true)
  (xc_NoWide : xcIn K C_NoWide = true)
  (xc_TooMuch : xcIn K C_TooMuch = true)
  (xn_NoWide : xnoIn K C_NoWide = true) (xk_NoWide : PySem.W.keepIn K (.ref C_NoWide) = true) (xs_NoWide : xisIn K C_NoWide = true)
  (pk_NoWide_NoName : PySem.W.kitOne K (.ref C_NoWide) (.ref C_NoName) = some false)
  (pk_NoWide_NoWide : PySem.W.kitOne K (.ref C_NoWide) (.ref C_NoWide) = some true)
  (pk_NoWide_TooMuch : PySem.W.kitOne K (.ref C_NoWide) (.ref C_TooMuch) = some false)
  (pk_NoWide_ValueError : PySem.W.kitOne K (.ref C_NoWide) (.type "ValueError") = some true)
  (qk_NoWide_DamError : supIn K C_NoWide C_DamError = true)
  (a0 : PySem.W.nsIn K mainGlobals "is_whole" = some (some (.ref f0))) (l0 : K.lookup f0 = some ⟨oc0, od0, .func (PySem.W.fnOf "is_whole" "is_whole" (defArgs s_is_whole) (defBody s_is_whole) (defScope s_is_whole) .none kV0 dc0 pm0 an0 cd0 ct0), sl0⟩) (c0 : PySem.W.codeIn K cd0 "is_whole" = true) (k0 : PySem.W.keepIn K (.ref f0) = true)
  (a1 : PySem.W.nsIn K mainGlobals "wide_row" = some (some (.ref f1))) (l1 : K.lookup f1 = some ⟨oc1, od1, .func (PySem.W.fnOf "wide_row" "wide_row" (defArgs s_wide_row) (defBody s_wide_row) (defScope s_wide_row) .none kV1 dc1 pm1 an1 cd1 ct1), sl1⟩) (c1 : PySem.W.codeIn K cd1 "wide_row" = true) (k1 : PySem.W.keepIn K (.ref f1) = true)
  (a2 : PySem.W.nsIn K mainGlobals "part_names" = some (some (.ref f2))) (l2 : K.lookup f2 = some ⟨oc2, od2, .func (PySem.W.fnOf "part_names" "part_names" (defArgs s_part_names) (defBody s_part_names) (defScope s_part_names) .none kV2 dc2 pm2 an2 cd2 ct2), sl2⟩) (c2 : PySem.W.codeIn K cd2 "part_names" = true) (k2 : PySem.W.keepIn K (.ref f2) = true)
  (a3 : PySem.W.nsIn K mainGlobals "share_names" = some (some (.ref f3))) (l3 : K.lookup f3 = some ⟨oc3, od3, .func (PySem.W.fnOf "share_names" "share_names" (defArgs s_share_names) (defBody s_share_names) (defScope s_share_names) .none kV3 dc3 pm3 an3 cd3 ct3), sl3⟩) (c3 : PySem.W.codeIn K cd3 "share_names" = true) (k3 : PySem.W.keepIn K (.ref f3) = true)
  (a4 : PySem.W.nsIn K mainGlobals "rows_in_place" = some (some (.ref f4))) (l4 : K.lookup f4 = some ⟨oc4, od4, .func (PySem.W.fnOf "rows_in_place" "rows_in_place" (defArgs s_rows_in_place) (defBody s_rows_in_place) (defScope s_rows_in_place) .none kV4 dc4 pm4 an4 cd4 ct4), sl4⟩) (c4 : PySem.W.codeIn K cd4 "rows_in_place" = true) (k4 : PySem.W.keepIn K (.ref f4) = true)
  (a5 : PySem.W.nsIn K mainGlobals "check_made_names" = some (some (.ref f5))) (l5 : K.lookup f5 = some ⟨oc5, od5, .func (PySem.W.fnOf "check_made_names" "check_made_names" (defArgs s_check_made_names) (defBody s_check_made_names) (defScope s_check_made_names) .none kV5 dc5 pm5 an5 cd5 ct5), sl5⟩) (c5 : PySem.W.codeIn K cd5 "check_made_names" = true) (k5 : PySem.W.keepIn K (.ref f5) = true)
  (a6 : PySem.W.nsIn K mainGlobals "widened" = some (some (.ref f6))) (l6 : K.lookup f6 = some ⟨oc6, od6, .func (PySem.W.fnOf "widened" "widened" (defArgs s_widened) (defBody s_widened) (defScope s_widened) .none kV6 dc6 pm6 an6 cd6 ct6), sl6⟩) (c6 : PySem.W.codeIn K cd6 "widened" = true) (k6 : PySem.W.keepIn K (.ref f6) = true)
  (a7 : PySem.W.nsIn K mainGlobals "fold_saved" = some (some (.ref f7))) (l7 : K.lookup f7 = some ⟨oc7, od7, .func (PySem.W.fnOf "fold_saved" "fold_saved" (defArgs s_fold_saved) (defBody s_fold_saved) (defScope s_fold_saved) .none kV7 dc7 pm7 an7 cd7 ct7), sl7⟩) (c7 : PySem.W.codeIn K cd7 "fold_saved" = true) (k7 : PySem.W.keepIn K (.ref f7) = true)
  (a8 : PySem.W.nsIn K mainGlobals "spread_saved" = some (some (.ref f8))) (l8 : K.lookup f8 = some ⟨oc8, od8, .func (PySem.W.fnOf "spread_saved" "spread_saved" (defArgs s_spread_saved) (defBody s_spread_saved) (defScope s_spread_saved) .none kV8 dc8 pm8 an8 cd8 ct8), sl8⟩) (c8 : PySem.W.codeIn K cd8 "spread_saved" = true) (k8 : PySem.W.keepIn K (.ref f8) = true)
  (a9 : PySem.W.nsIn K mainGlobals "_law_cell_at" = some (some (.ref f9))) (l9 : K.lookup f9 = some ⟨oc9, od9, .func (PySem.W.fnOf "_law_cell_at" "_law_cell_at" (defArgs s__cell_at) (defBody s__cell_at) (defScope s__cell_at) .none kV9 dc9 pm9 an9 cd9 ct9), sl9⟩) (c9 : PySem.W.codeIn K cd9 "_law_cell_at" = true) (k9 : PySem.W.keepIn K (.ref f9) = true)
  (a10 : PySem.W.nsIn K mainGlobals "_law_name" = some (some (.ref f10))) (l10 : K.lookup f10 = some ⟨oc10, od10, .func (PySem.W.fnOf "_law_name" "_law_name" (defArgs s__name) (defBody s__name) (defScope s__name) .none kV10 dc10 pm10 an10 cd10 ct10), sl10⟩) (c10 : PySem.W.codeIn K cd10 "_law_name" = true) (k10 : PySem.W.keepIn K (.ref f10) = true)
  (a11 : PySem.W.nsIn K mainGlobals "_law_row" = some (some (.ref f11))) (l11 : K.lookup f11 = some ⟨oc11, od11, .func (PySem.W.fnOf "_law_row" "_law_row" (defArgs s__row) (defBody s__row) (defScope s__row) .none kV11 dc11 pm11 an11 cd11 ct11), sl11⟩) (c11 : PySem.W.codeIn K cd11 "_law_row" = true) (k11 : PySem.W.keepIn K (.ref f11) = true)
  (a12 : PySem.W.nsIn K mainGlobals "_law_free" = some (some (.ref f12))) (l12 : K.lookup f12 = some ⟨oc12, od12, .func (PySem.W.fnOf "_law_free" "_law_free" (defArgs s__free) (defBody s__free) (defScope s__free) .none kV12 dc12 pm12 an12 cd12 ct12), sl12⟩) (c12 : PySem.W.codeIn K cd12 "_law_free" = true) (k12 : PySem.W.keepIn K (.ref f12) = true)
  (a13 : PySem.W.nsIn K mainGlobals "_law_works" = some (some (.ref f13))) (l13 : K.lookup f13 = some ⟨oc13, od13, .func (PySem.W.fnOf "_law_works" "_law_works" (defArgs s__works) (defBody s__works) (defScope s__works) .none kV13 dc13 pm13 an13 cd13 ct13), sl13⟩) (c13 : PySem.W.codeIn K cd13 "_law_works" = true) (k13 : PySem.W.keepIn K (.ref f13) = true)
  (a14 : PySem.W.nsIn K mainGlobals "_law_good" = some (some (.ref f14))) (l14 : K.lookup f14 = some ⟨oc14, od14, .func (PySem.W.fnOf "_law_good" "_law_good" (defArgs s__good) (defBody s__good) (defScope s__good) .none kV14 dc14 pm14 an14 cd14 ct14), sl14⟩) (c14 : PySem.W.codeIn K cd14 "_law_good" = true) (k14 : PySem.W.keepIn K (.ref f14) = true)
  (a15 : PySem.W.nsIn K mainGlobals "_law_asked" = some (some (.ref f15))) (l15 : K.lookup f15 = some ⟨oc15, od15, .func (PySem.W.fnOf "_law_asked" "_law_asked" (defArgs s__asked) (defBody s__asked) (defScope s__asked) .none kV15 dc15 pm15 an15 cd15 ct15), sl15⟩) (c15 : PySem.W.codeIn K cd15 "_law_asked" = true) (k15 : PySem.W.keepIn K (.ref f15) = true)
  (a16 : PySem.W.nsIn K mainGlobals "_law_told" = some (some (.ref f16))) (l16 : K.lookup f16 = some ⟨oc16, od16, .func (PySem.W.fnOf "_law_told" "_law_told" (defArgs s__told) (defBody s__told) (defScope s__told) .none kV16 dc16 pm16 an16 cd16 ct16), sl16⟩) (c16 : PySem.W.codeIn K cd16 "_law_told" = true) (k16 : PySem.W.keepIn K (.ref f16) = true)
  (a17 : PySem.W.nsIn K mainGlobals "law" = some (some (.ref f17))) (l17 : K.lookup f17 = some ⟨oc17, od17, .func (PySem.W.fnOf "law" "law" (defArgs s_law) (defBody s_law) (defScope s_law) .none kV17 dc17 pm17 an17 cd17 ct17), sl17⟩) (c17 : PySem.W.codeIn K cd17 "law" = true) (k17 : PySem.W.keepIn K (.ref f17) = true)
  (z_isinstance : PySem.W.nsIn K mainGlobals "isinstance" = some none)
  (z_bool : PySem.W.nsIn K mainGlobals "bool" = some none)
  (z_int : PySem.W.nsIn K mainGlobals "int" = some none)
  (z_range : PySem.W.nsIn K mainGlobals "range" = some none)
  (z_tuple : PySem.W.nsIn K mainGlobals "tuple" = some none)
  (z_str : PySem.W.nsIn K mainGlobals "str" = some none)
  (z_zip : PySem.W.nsIn K mainGlobals "zip" = some none)
  (z_len : PySem.W.nsIn K mainGlobals "len" = some none)
  (z_enumerate : PySem.W.nsIn K mainGlobals "enumerate" = some none)
  (z_ValueError : PySem.W.nsIn K mainGlobals "ValueError" = some none)
  (z_max : PySem.W.nsIn K mainGlobals "max" = some none)
  (z_list : PySem.W.nsIn K mainGlobals "list" = some none)
  (y_WIDE_WORDS : PySem.W.nsIn K mainGlobals "WIDE_WORDS" = some (some (.ref tWIDE_WORDS))) (x_WIDE_WORDS : K.lookup tWIDE_WORDS = some ⟨.type "tuple", dWIDE_WORDS, .seq #[.str "keep" kWIDE_WORDS_0, .str "turn" kWIDE_WORDS_1, .str "fixed" kWIDE_WORDS_2, .str "slide" kWIDE_WORDS_3, .str "gap" kWIDE_WORDS_4, .str "join" kWIDE_WORDS_5] nWIDE_WORDS, sWIDE_WORDS⟩)
  (y_KEY_PLACES : PySem.W.nsIn K mainGlobals "KEY_PLACES" = some (some (.ref tKEY_PLACES)))
  (kd_KEY_PLACES : K.lookup tKEY_PLACES = some ⟨.type "dict", none, .dict #[⟨hKEY_PLACES_0, .str "fixed" kKEY_PLACES_0, .int 1 jKEY_PLACES_0⟩, ⟨hKEY_PLACES_1, .str "slide" kKEY_PLACES_1, .int 1 jKEY_PLACES_1⟩, ⟨hKEY_PLACES_2, .str "gap" kKEY_PLACES_2, .int 2 jKEY_PLACES_2⟩, ⟨hKEY_PLACES_3, .str "join" kKEY_PLACES_3, .int 2 jKEY_PLACES_3⟩] nKEY_PLACES, #[]⟩) (ks_KEY_PLACES : (tKEY_PLACES == sysModules) = false)
  (kh_KEY_PLACES_0 : hKEY_PLACES_0 = hashStr w "fixed")
  (kh_KEY_PLACES_1 : hKEY_PLACES_1 = hashStr w "slide")
  (kh_KEY_PLACES_2 : hKEY_PLACES_2 = hashStr w "gap")
  (kh_KEY_PLACES_3 : hKEY_PLACES_3 = hashStr w "join")
  (y_LETTERS : PySem.W.nsIn K mainGlobals "LETTERS" = some (some (.str "abcdefghijklmnopqrstuvwxyz" tLETTERS)))
  (y_MOST_ROWS : PySem.W.nsIn K mainGlobals "MOST_ROWS" = some (some (.int 40 tMOST_ROWS)))
  (y_MOST_SIGNS : PySem.W.nsIn K mainGlobals "MOST_SIGNS" = some (some (.int 12 tMOST_SIGNS)))
  (y_MOST_MANY : PySem.W.nsIn K mainGlobals "MOST_MANY" = some (some (.int 8 tMOST_MANY)))
  : ∃ fd : FuncData, (∀ (s : Shared) (v : Value), BindsTo s fd ⟨[v], []⟩ [("_law_script", v)]) ∧ ∀ base : Heap, K.In base → base.Ns mainGlobals mg → FnOk l.prog w K mg base CX0 lawK fa fd ["_law_script"] (spL K lawG) := by
 have e := hfa.symm.trans (PySem.W.mg_of X G a17)
 cases e
 have T : Txt (w := w) K mg ⟨C_DamError, C_NoName, C_NoWide, C_TooMuch⟩ := ⟨by simp only [blts, List.mem_cons, List.not_mem_nil, or_false, forall_eq_or_imp, forall_eq]; exact ⟨PySem.W.mg_none_of X G z_isinstance, PySem.W.mg_none_of X G z_bool, PySem.W.mg_none_of X G z_int, PySem.W.mg_none_of X G z_range, PySem.W.mg_none_of X G z_tuple, PySem.W.mg_none_of X G z_str, PySem.W.mg_none_of X G z_zip, PySem.W.mg_none_of X G z_len, PySem.W.mg_none_of X G z_enumerate, PySem.W.mg_none_of X G z_ValueError, PySem.W.mg_none_of X G z_max, PySem.W.mg_none_of X G z_list⟩, PySem.W.mg_of X G ac_DamError, xc_DamError, PySem.W.mg_of X G ac_NoName, xc_NoName, PySem.W.mg_of X G ac_NoWide, xc_NoWide, PySem.W.mg_of X G ac_TooMuch, xc_TooMuch, xn_NoWide, xk_NoWide, xs_NoWide, pk_NoWide_NoName, pk_NoWide_NoWide, pk_NoWide_TooMuch, pk_NoWide_ValueError, qk_NoWide_DamError, ⟨_, PySem.W.mg_of X G y_WIDE_WORDS, is_tupK (vs := [(.str "keep"), (.str "turn"), (.str "fixed"), (.str "slide"), (.str "gap"), (.str "join")]) (its := #[.str "keep" _, .str "turn" _, .str "fixed" _, .str "slide" _, .str "gap" _, .str "join" _]) (o := ⟨.type "tuple", _, .seq #[.str "keep" _, .str "turn" _, .str "fixed" _, .str "slide" _, .str "gap" _, .str "join" _] _, _⟩) x_WIDE_WORDS rfl rfl (by show 6 ≤ sizeLine; decide) (.cons ⟨_, rfl⟩ (.cons ⟨_, rfl⟩ (.cons ⟨_, rfl⟩ (.cons ⟨_, rfl⟩ (.cons ⟨_, rfl⟩ (.cons ⟨_, rfl⟩ (.nil))))))) (fun _ _ => ⟨_, _, rfl, rfl, ⟨_, _, rfl, rfl, ⟨_, _, rfl, rfl, ⟨_, _, rfl, rfl, ⟨_, _, rfl, rfl, ⟨_, _, rfl, rfl, rfl⟩⟩⟩⟩⟩⟩)⟩, ⟨_, PySem.W.mg_of X G y_KEY_PLACES, _, _, _, _, kd_KEY_PLACES, ⟨rfl, rfl, rfl⟩, rfl, .cons (v := (.int 1)) kh_KEY_PLACES_0 ⟨_, rfl⟩ (fun _ _ => rfl) (.cons (v := (.int 1)) kh_KEY_PLACES_1 ⟨_, rfl⟩ (fun _ _ => rfl) (.cons (v := (.int 2)) kh_KEY_PLACES_2 ⟨_, rfl⟩ (fun _ _ => rfl) (.cons (v := (.int 2)) kh_KEY_PLACES_3 ⟨_, rfl⟩ (fun _ _ => rfl) (.nil)))), by decide +kernel, ks_KEY_PLACES⟩, ⟨_, PySem.W.mg_of X G y_LETTERS⟩, ⟨_, PySem.W.mg_of X G y_MOST_ROWS⟩, ⟨_, PySem.W.mg_of X G y_MOST_SIGNS⟩, ⟨_, PySem.W.mg_of X G y_MOST_MANY⟩⟩
 have D0 : DefAt K mg "is_whole" s_is_whole ["x"] _ _ := ⟨PySem.W.mg_of X G a0, funD_mk l0 c0 k0, (fun_mk (st := s_is_whole) l0 c0 k0).binds (ps := ["x"]) fun _ _ _ _ _ _ us hl => match us, hl with | [_], _ => rfl⟩
 have D1 : DefAt K mg "wide_row" s_wide_row ["works", "name"] _ _ := ⟨PySem.W.mg_of X G a1, funD_mk l1 c1 k1, (fun_mk (st := s_wide_row) l1 c1 k1).binds (ps := ["works", "name"]) fun _ _ _ _ _ _ us hl => match us, hl with | [_, _], _ => rfl⟩
 have D2 : DefAt K mg "part_names" s_part_names ["name", "many"] _ _ := ⟨PySem.W.mg_of X G a2, funD_mk l2 c2 k2, (fun_mk (st := s_part_names) l2 c2 k2).binds (ps := ["name", "many"]) fun _ _ _ _ _ _ us hl => match us, hl with | [_, _], _ => rfl⟩
 have D3 : DefAt K mg "share_names" s_share_names ["part", "ways"] _ _ := ⟨PySem.W.mg_of X G a3, funD_mk l3 c3 k3, (fun_mk (st := s_share_names) l3 c3 k3).binds (ps := ["part", "ways"]) fun _ _ _ _ _ _ us hl => match us, hl with | [_, _], _ => rfl⟩
 have D4 : DefAt K mg "rows_in_place" s_rows_in_place ["row", "many"] _ _ := ⟨PySem.W.mg_of X G a4, funD_mk l4 c4 k4, (fun_mk (st := s_rows_in_place) l4 c4 k4).binds (ps := ["row", "many"]) fun _ _ _ _ _ _ us hl => match us, hl with | [_, _], _ => rfl⟩
 have D5 : DefAt K mg "check_made_names" s_check_made_names ["made", "works"] _ _ := ⟨PySem.W.mg_of X G a5, funD_mk l5 c5 k5, (fun_mk (st := s_check_made_names) l5 c5 k5).binds (ps := ["made", "works"]) fun _ _ _ _ _ _ us hl => match us, hl with | [_, _], _ => rfl⟩
 have D6 : DefAt K mg "widened" s_widened ["works", "name", "many"] _ _ := ⟨PySem.W.mg_of X G a6, funD_mk l6 c6 k6, (fun_mk (st := s_widened) l6 c6 k6).binds (ps := ["works", "name", "many"]) fun _ _ _ _ _ _ us hl => match us, hl with | [_, _, _], _ => rfl⟩
 have D7 : DefAt K mg "fold_saved" s_fold_saved ["saved", "works", "name", "many"] _ _ := ⟨PySem.W.mg_of X G a7, funD_mk l7 c7 k7, (fun_mk (st := s_fold_saved) l7 c7 k7).binds (ps := ["saved", "works", "name", "many"]) fun _ _ _ _ _ _ us hl => match us, hl with | [_, _, _, _], _ => rfl⟩
 have D8 : DefAt K mg "spread_saved" s_spread_saved ["saved", "works", "name", "many"] _ _ := ⟨PySem.W.mg_of X G a8, funD_mk l8 c8 k8, (fun_mk (st := s_spread_saved) l8 c8 k8).binds (ps := ["saved", "works", "name", "many"]) fun _ _ _ _ _ _ us hl => match us, hl with | [_, _, _, _], _ => rfl⟩
 have D9 : DefAt K mg "_law_cell_at" s__cell_at ["_law_script", "_law_k"] _ _ := ⟨PySem.W.mg_of X G a9, funD_mk l9 c9 k9, (fun_mk (st := s__cell_at) l9 c9 k9).binds (ps := ["_law_script", "_law_k"]) fun _ _ _ _ _ _ us hl => match us, hl with | [_, _], _ => rfl⟩
 have D10 : DefAt K mg "_law_name" s__name ["_law_number"] _ _ := ⟨PySem.W.mg_of X G a10, funD_mk l10 c10 k10, (fun_mk (st := s__name) l10 c10 k10).binds (ps := ["_law_number"]) fun _ _ _ _ _ _ us hl => match us, hl with | [_], _ => rfl⟩
 have D11 : DefAt K mg "_law_row" s__row ["_law_cell", "_law_name_here"] _ _ := ⟨PySem.W.mg_of X G a11, funD_mk l11 c11 k11, (fun_mk (st := s__row) l11 c11 k11).binds (ps := ["_law_cell", "_law_name_here"]) fun _ _ _ _ _ _ us hl => match us, hl with | [_, _], _ => rfl⟩
 have D12 : DefAt K mg "_law_free" s__free ["_law_names", "_law_stem"] _ _ := ⟨PySem.W.mg_of X G a12, funD_mk l12 c12 k12, (fun_mk (st := s__free) l12 c12 k12).binds (ps := ["_law_names", "_law_stem"]) fun _ _ _ _ _ _ us hl => match us, hl with | [_, _], _ => rfl⟩
 have D13 : DefAt K mg "_law_works" s__works ["_law_script", "_law_name_here", "_law_kind", "_law_many"] _ _ := ⟨PySem.W.mg_of X G a13, funD_mk l13 c13 k13, (fun_mk (st := s__works) l13 c13 k13).binds (ps := ["_law_script", "_law_name_here", "_law_kind", "_law_many"]) fun _ _ _ _ _ _ us hl => match us, hl with | [_, _, _, _], _ => rfl⟩
 have D14 : DefAt K mg "_law_good" s__good ["_law_works_here", "_law_name_here", "_law_many"] _ _ := ⟨PySem.W.mg_of X G a14, funD_mk l14 c14 k14, (fun_mk (st := s__good) l14 c14 k14).binds (ps := ["_law_works_here", "_law_name_here", "_law_many"]) fun _ _ _ _ _ _ us hl => match us, hl with | [_, _, _], _ => rfl⟩
 have D15 : DefAt K mg "_law_asked" s__asked ["_law_word", "_law_works_here", "_law_name_here", "_law_many"] _ _ := ⟨PySem.W.mg_of X G a15, funD_mk l15 c15 k15, (fun_mk (st := s__asked) l15 c15 k15).binds (ps := ["_law_word", "_law_works_here", "_law_name_here", "_law_many"]) fun _ _ _ _ _ _ us hl => match us, hl with | [_, _, _, _], _ => rfl⟩
 have D16 : DefAt K mg "_law_told" s__told ["_law_word", "_law_works_here", "_law_name_here", "_law_many"] _ _ := ⟨PySem.W.mg_of X G a16, funD_mk l16 c16 k16, (fun_mk (st := s__told) l16 c16 k16).binds (ps := ["_law_word", "_law_works_here", "_law_name_here", "_law_many"]) fun _ _ _ _ _ _ us hl => match us, hl with | [_, _, _, _], _ => rfl⟩
 have D17 : DefAt K mg "law" s_law ["_law_script"] _ _ := ⟨PySem.W.mg_of X G a17, funD_mk l17 c17 k17, (fun_mk (st := s_law) l17 c17 k17).binds (ps := ["_law_script"]) fun _ _ _ _ _ _ us hl => match us, hl with | [_], _ => rfl⟩
 refine ⟨PySem.W.fnOf "law" "law" (defArgs s_law) (defBody s_law) (defScope s_law) .none kV17 dc17 pm17 an17 cd17 ct17, fun s v => .of_eq rfl, fun base _ _ => fnok_L ?_⟩
 exact law_at T D0 D1 D2 D3 D4 D5 D6 D7 D8 D9 D10 D11 D12 D13 D14 D15 D16 D17
end My
open PySem PySem.W PyProof.Rows
set_option maxRecDepth 100000 in
set_option maxHeartbeats 0 in
theorem PySem.Challenge.cw_rowdam_k71_not_widened_holds : PySem.Challenge.rw_rowdam_k71_not_widened.Holds := by
 w_on; refine My.left2 "special-get-raises" My.hdAll My.hl0 My.hl1 ?_
 k_fill
 refine E3.walk_e3 (l := PySem.Challenge.rw_rowdam_k71_not_widened) (k := My.lawK) (g := My.lawG) (x := "_law_script") rfl rfl ⟨rfl, by decide, by decide⟩ (fun w h Y => PySem.W.kIn_of Y) ?F My.lawG_ok
 case F =>
  intro w mg fa h KX G hmg
  refine' My.all_mk KX G hmg ?ac_DamError ?ac_NoName ?ac_NoWide ?ac_TooMuch ?xc_DamError ?xc_NoName ?xc_NoWide ?xc_TooMuch ?xn_NoWide ?xk_NoWide ?xs_NoWide ?pk_NoWide_NoName ?pk_NoWide_NoWide ?pk_NoWide_TooMuch ?pk_NoWide_ValueError ?qk_NoWide_DamError ?a0 ?l0 ?c0 ?k0 ?a1 ?l1 ?c1 ?k1 ?a2 ?l2 ?c2 ?k2 ?a3 ?l3 ?c3 ?k3 ?a4 ?l4 ?c4 ?k4 ?a5 ?l5 ?c5 ?k5 ?a6 ?l6 ?c6 ?k6 ?a7 ?l7 ?c7 ?k7 ?a8 ?l8 ?c8 ?k8 ?a9 ?l9 ?c9 ?k9 ?a10 ?l10 ?c10 ?k10 ?a11 ?l11 ?c11 ?k11 ?a12 ?l12 ?c12 ?k12 ?a13 ?l13 ?c13 ?k13 ?a14 ?l14 ?c14 ?k14 ?a15 ?l15 ?c15 ?k15 ?a16 ?l16 ?c16 ?k16 ?a17 ?l17 ?c17 ?k17 ?z_isinstance ?z_bool ?z_int ?z_range ?z_tuple ?z_str ?z_zip ?z_len ?z_enumerate ?z_ValueError ?z_max ?z_list ?y_WIDE_WORDS ?x_WIDE_WORDS ?y_KEY_PLACES ?kd_KEY_PLACES ?ks_KEY_PLACES ?kh_KEY_PLACES_0 ?kh_KEY_PLACES_1 ?kh_KEY_PLACES_2 ?kh_KEY_PLACES_3 ?y_LETTERS ?y_MOST_ROWS ?y_MOST_SIGNS ?y_MOST_MANY
  (case ac_DamError => k_is); (case ac_NoName => k_is); (case ac_NoWide => k_is); (case ac_TooMuch => k_is); (case xc_DamError => kernel_rfl); (case xc_NoName => kernel_rfl); (case xc_NoWide => kernel_rfl); (case xc_TooMuch => kernel_rfl); (case xn_NoWide => kernel_rfl); (case xk_NoWide => k_is); (case xs_NoWide => refine E3.xis_mk (E3.xga_mk ?_ ?_ ?_) ?_ ?_ ?_ ?_ ?_ <;> k_is); (case pk_NoWide_NoName => kernel_rfl); (case pk_NoWide_NoWide => kernel_rfl); (case pk_NoWide_TooMuch => kernel_rfl); (case pk_NoWide_ValueError => kernel_rfl); (case qk_NoWide_DamError => kernel_rfl); (case a0 => k_is); (case l0 => k_is); (case c0 => k_is); (case k0 => k_is); (case a1 => k_is); (case l1 => k_is); (case c1 => k_is); (case k1 => k_is); (case a2 => k_is); (case l2 => k_is); (case c2 => k_is); (case k2 => k_is); (case a3 => k_is); (case l3 => k_is); (case c3 => k_is); (case k3 => k_is); (case a4 => k_is); (case l4 => k_is); (case c4 => k_is); (case k4 => k_is); (case a5 => k_is); (case l5 => k_is); (case c5 => k_is); (case k5 => k_is); (case a6 => k_is); (case l6 => k_is); (case c6 => k_is); (case k6 => k_is); (case a7 => k_is); (case l7 => k_is); (case c7 => k_is); (case k7 => k_is); (case a8 => k_is); (case l8 => k_is); (case c8 => k_is); (case k8 => k_is); (case a9 => k_is); (case l9 => k_is); (case c9 => k_is); (case k9 => k_is); (case a10 => k_is); (case l10 => k_is); (case c10 => k_is); (case k10 => k_is); (case a11 => k_is); (case l11 => k_is); (case c11 => k_is); (case k11 => k_is); (case a12 => k_is); (case l12 => k_is); (case c12 => k_is); (case k12 => k_is); (case a13 => k_is); (case l13 => k_is); (case c13 => k_is); (case k13 => k_is); (case a14 => k_is); (case l14 => k_is); (case c14 => k_is); (case k14 => k_is); (case a15 => k_is); (case l15 => k_is); (case c15 => k_is); (case k15 => k_is); (case a16 => k_is); (case l16 => k_is); (case c16 => k_is); (case k16 => k_is); (case a17 => k_is); (case l17 => k_is); (case c17 => k_is); (case k17 => k_is); (case z_isinstance => k_is); (case z_bool => k_is); (case z_int => k_is); (case z_range => k_is); (case z_tuple => k_is); (case z_str => k_is); (case z_zip => k_is); (case z_len => k_is); (case z_enumerate => k_is); (case z_ValueError => k_is); (case z_max => k_is); (case z_list => k_is); (case y_WIDE_WORDS => k_is); (case x_WIDE_WORDS => k_is); (case y_KEY_PLACES => k_is); (case kd_KEY_PLACES => k_is); (case ks_KEY_PLACES => first | decide +kernel | kernel_rfl); (case kh_KEY_PLACES_0 => rfl); (case kh_KEY_PLACES_1 => rfl); (case kh_KEY_PLACES_2 => rfl); (case kh_KEY_PLACES_3 => rfl); (case y_LETTERS => k_is); (case y_MOST_ROWS => k_is); (case y_MOST_SIGNS => k_is); (case y_MOST_MANY => k_is)
