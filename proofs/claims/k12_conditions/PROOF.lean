import PyProof.Rows.All
import Wide.All
import OpenK.AllK
import Wide.FinOn
import Lean
import PyProof.EqAt
import PyProof.EqKinds
import PyProof.TupleCall
import KE.KIsAll
import KE.KMinKey
import KE.KTupSum
import KE.KxSplit
import KE.KxAffix
import KE.KIntText
import PyProof.NeKinds
import PyProof.Rows.EqBoolInt
import KE.KSortTup
import PySem.Challenge.RW_rowdam_k12_conditions
noncomputable section
set_option Elab.async false
set_option linter.all false
set_option maxRecDepth 100000
section
open PySem PySem.W PyProof.Rows
def My.Half {p q : Program} {loose : List Str} {Xt : Shared → Bool} {α : Type} {Yf : Shared → α} {Ya : World → α} {N : Nat} {g0 : Bool} {B C : Prop} (row : String) (b : Bool) (_ : LeftO p q loose Xt Yf Ya N g0 ∧ B → C) : Prop :=
 ∀ w : World, (openEnds treeTable p (w.withFollow row b) N).map (fun s => (openSeen q loose (importedModules p.main.body) Xt g0 s, Yf s)) = some (openGood q loose, Ya (w.withFollow row b))
theorem My.left2 {p q : Program} {loose : List Str} {Xt : Shared → Bool} {α : Type} {Yf : Shared → α} {Ya : World → α} {N : Nat} {g0 : Bool} {B C : Prop} (row : String) (H : LeftO p q loose Xt Yf Ya N g0 ∧ B → C)
  (h1 : My.Half row false H) (h2 : My.Half row true H) (hB : B) : C := H ⟨fun w => by
 have e := World.withFollow_self w row
 cases hb : w.params.followText row <;> rw [hb] at e
 ·have := h1 w; rw [e] at this; exact this
 ·have := h2 w; rw [e] at this; exact this, hB⟩
local macro_rules
  | `(tactic| refine $f:term $as:term*) => do
    let mut bs := #[]
    let mut hit := false
    for a in as do
      if a.raw.isOfKind ``Lean.Parser.Term.syntheticHole && a.raw[1].getId == `hl then
        hit := true
        bs := bs.push (← `((And.left ?hx)))
      else if a.raw.isOfKind ``Lean.Parser.Term.syntheticHole && a.raw[1].getId == `hc then
        bs := bs.push (← `((And.right ?hx)))
      else bs := bs.push a
    if hit then `(tactic| refine $f $bs*) else Lean.Macro.throwUnsupported
set_option maxHeartbeats 0 in
open_top My.hdAll for PySem.Challenge.rw_rowdam_k12_conditions
theorem My.hl0 : My.Half "special-get-raises" false My.hdAll := fun _ => by kernel_rfl
theorem My.hl1 : My.Half "special-get-raises" true My.hdAll := fun _ => by kernel_rfl
end
namespace L2
open PySem PySem.Spec PyProof.Rows
abbrev Key := Sum Int Str
def ziC : Key → Value → Bool
 | .inl k, v => Value.isInt k v
 | .inr x, v => Value.isStrOf x v
def keyH (w : World) : Key → Int
 | .inl k => hashInt k
 | .inr x => hashStr w x
theorem zbn : ∀ {k : Key} {v : Value}, ziC k v = true → (∃ i t, k = Sum.inl i ∧ v = Value.int i t) ∨ (∃ x t, k = Sum.inr x ∧ v = Value.str x t)
  | .inl i, v, h => by
    obtain ⟨t, e⟩ := Value.isInt_shape (k := i) (v := v) h
    exact .inl ⟨i, t, rfl, e⟩
  | .inr x, v, h => by
    obtain ⟨t, e⟩ := Value.isStrOf_shape (x := x) (v := v) h
    exact .inr ⟨x, t, rfl, e⟩
theorem zj1 (i : Int) (t : Tok) : ziC (.inl i) (.int i t) = true := by simp [ziC, Value.isInt]
theorem zi3 (x : Str) (t : Tok) : ziC (.inr x) (.str x t) = true := by simp [ziC, Value.isStrOf]
theorem zoy (a b : Int) : decide ((Sum.inl a : Key) = Sum.inl b) = (a == b) := by
 by_cases e : a = b
 ·subst e; simp
 ·have h : ¬ (Sum.inl a : Key) = Sum.inl b := fun q => e (Sum.inl.inj q)
  rw [decide_eq_false h]
  exact (beq_eq_false_iff_ne.mpr e).symm
theorem key_rr (a b : Str) : decide ((Sum.inr a : Key) = Sum.inr b) = decide (a = b) := by
 by_cases e : a = b
 ·subst e; simp
 ·have h : ¬ (Sum.inr a : Key) = Sum.inr b := fun q => e (Sum.inr.inj q)
  rw [decide_eq_false h, decide_eq_false e]
theorem zon (a : Int) (b : Str) : decide ((Sum.inl a : Key) = Sum.inr b) = false := decide_eq_false (fun q => nomatch q)
theorem zou (a : Str) (b : Int) : decide ((Sum.inr a : Key) = Sum.inl b) = false := decide_eq_false (fun q => nomatch q)
def zcJ (prog : Program) (w : World) : PySem.KeyKind prog w Key where
 is := ziC
 hash := keyH w
 inj := fun v a b ha hb => by
  rcases zbn ha with ⟨i, t, rfl, rfl⟩ | ⟨x, t, rfl, rfl⟩
  ·rcases zbn hb with ⟨j, u, rfl, e⟩ | ⟨y, u, rfl, e⟩
   ·injection e with e1 _; rw [e1]
   ·exact nomatch e
  ·rcases zbn hb with ⟨j, u, rfl, e⟩ | ⟨y, u, rfl, e⟩
   ·exact nomatch e
   ·injection e with e1 _; rw [e1]
 byValue := fun k v h => by
  rcases zbn h with ⟨i, t, rfl, rfl⟩ | ⟨x, t, rfl, rfl⟩ <;> rfl
 pyHash := fun hv h => by
  rcases zbn hv with ⟨i, t, rfl, rfl⟩ | ⟨x, t, rfl, rfl⟩
  ·exact wpAny_pyHash_int h
  ·exact wpAny_pyHash_str h
 eqBool := fun hu hv h => by
  rcases zbn hu with ⟨i, t, rfl, rfl⟩ | ⟨x, t, rfl, rfl⟩
  ·rcases zbn hv with ⟨j, u, rfl, rfl⟩ | ⟨y, u, rfl, rfl⟩
   ·rw [zoy] at h; exact wpAny_eqBool_int h
   ·rw [zon] at h; exact SeqAt.EqAt.int_str i t y u _ _ _ _ h
  ·rcases zbn hv with ⟨j, u, rfl, rfl⟩ | ⟨y, u, rfl, rfl⟩
   ·rw [zou] at h; exact SeqAt.EqAt.str_int x t j u _ _ _ _ h
   ·rw [key_rr] at h; exact wpAny_eqBool_str h
 «strs» := fun k x t v h => by
  rcases zbn h with ⟨i, u, rfl, e⟩ | ⟨y, u, rfl, e⟩
  ·exact nomatch e
  ·injection e with e1 _
   subst e1
   cases v <;> rfl
theorem zhJ (prog : Program) (w : World) (i : Int) (t : Tok) : (zcJ prog w).is (.inl i) (.int i t) = true := zj1 i t
theorem zdA (prog : Program) (w : World) (x : Str) (t : Tok) : (zcJ prog w).is (.inr x) (.str x t) = true := zi3 x t
end L2
namespace L2
open PySem PySem.Spec PyProof.Rows
inductive V where
 | non | bl (b : Bool) | int (i : Int) | str (x : Str) | byt (b : Array UInt8) | flt (b : UInt64) | ref (a : Addr) | ty (n : String)
 deriving DecidableEq
def RelV : V → Value → Prop
 | .non, u => u = Value.none
 | .bl b, u => u = Value.bool b
 | .int i, u => ∃ t, u = Value.int i t
 | .str x, u => ∃ t, u = Value.str x t
 | .byt b, u => ∃ t, u = Value.bytes b t
 | .flt b, u => ∃ t, u = Value.float b t
 | .ref a, u => u = Value.ref a
 | .ty n, u => u = Value.type n
abbrev Vals : List V → List Value → Prop := Paired RelV
theorem Vals.length {xs : List V} {us : List Value} (r : Vals xs us) : xs.length = us.length := Paired.length r
theorem Vals.get : ∀ {xs : List V} {us : List Value} {i : Nat} {x : V}, Vals xs us → xs[i]? = some x → ∃ u, us[i]? = some u ∧ RelV x u
  | _, _, _, _, .nil, e => by simp at e
  | _, _, 0, _, .cons r _, e => by simp at e; subst e; exact ⟨_, rfl, r⟩
  | _, _, i + 1, x, .cons _ t, e => by
    obtain ⟨u, h1, h2⟩ := Vals.get (i := i) (x := x) t (by simpa using e)
    exact ⟨u, by simpa using h1, h2⟩
theorem Vals.append : ∀ {xs ys : List V} {us ws : List Value}, Vals xs us → Vals ys ws → Vals (xs ++ ys) (us ++ ws)
 | _, _, _, _, .nil, s => s
 | _, _, _, _, .cons r t, s => .cons r (Vals.append t s)
theorem Vals.take : ∀ {xs : List V} {us : List Value} (n : Nat), Vals xs us → Vals (xs.take n) (us.take n)
 | _, _, 0, _ => .nil
 | _, _, _ + 1, .nil => .nil
 | _, _, n + 1, .cons r t => .cons r (Vals.take n t)
theorem Vals.drop : ∀ {xs : List V} {us : List Value} (n : Nat), Vals xs us → Vals (xs.drop n) (us.drop n)
 | _, _, 0, r => r
 | _, _, _ + 1, .nil => .nil
 | _, _, n + 1, .cons _ t => Vals.drop n t
def RelO : Option V → Option Value → Prop
 | some v, some u => RelV v u
 | none, none => True
 | _, _ => False
def KV {κ : Type} : List (κ × V) → List (κ × Value) → Prop := Paired fun (p : κ × V) (q : κ × Value) => p.1 = q.1 ∧ RelV p.2 q.2
def kV : Key → V
 | .inl i => .int i
 | .inr x => .str x
inductive HO where
  | lst (xs : List V)
  | tup (xs : List V)
  | dK (kvs : List (Key × V)) | dT (kvs : List (List Key × V))
  | set (S : Int → Bool) (n : Nat)
  | ins (C dx : Addr) (fs : List (Str × V))
  | own (x : Addr)
  | xd (fs : List (Str × V))
  | met (f x : Addr)
  | rng (lo hi : Int)
  | frz (o : Obj) (u : HO)
  | tbl (ps : Array Value)
  | ext (φ : Heap → Prop)
abbrev Hp := Addr → Option HO
def upd (H : Hp) (a : Addr) (o : HO) : Hp := fun b => if b = a then some o else H b
theorem zaC {H : Hp} {a : Addr} {o : HO} : upd H a o a = some o := by unfold upd; rw [if_pos rfl]
theorem zar {H : Hp} {a b : Addr} {o : HO} (h : b ≠ a) : upd H a o b = H b := by unfold upd; rw [if_neg h]
theorem za3 {H : Hp} {a b : Addr} {o : HO} (h : H a = some o) (h' : H b = none) : a ≠ b := by
 intro e; subst e; rw [h] at h'; cases h'
section
variable (P : Program) (w : World)
def zbZ (H : Hp) (h : Heap) (a : Addr) : HO → Prop
 | .lst xs => xs.length ≤ sizeLine ∧ ∃ (its : List Value) (n : Nat), Vals xs its ∧ h.get? a = some { cls := .type "list", data := .seq its.toArray n }
 | .tup xs => xs.length ≤ sizeLine ∧ ∃ its : List Value, Vals xs its ∧ IsTup h a its.toArray
 | .dK kvs => kvs.length ≤ sizeLine ∧ (a == sysModules) = false ∧ ∃ vs, KV kvs vs ∧ h.DictOf (zcJ P w) a vs
 | .dT kvs => kvs.length ≤ sizeLine ∧ (a == sysModules) = false ∧ ∃ xs : List (List Key × Addr × Value),
   Paired (fun (p : List Key × V) (q : List Key × Addr × Value) => p.1 = q.1 ∧ H q.2.1 = some (.tup (p.1.map kV)) ∧ RelV p.2 q.2.2) kvs xs ∧
   ∃ o es ep, h.get? a = some o ∧ o.ExactDict ∧ o.data = .dict es ep ∧ es.toList = xs.map (entryOfKey (tupleKind (zcJ P w))) ∧ (xs.map (·.1)).Nodup
 | .set S n => h.SetOf (intKind P w) a S n
 | .ins C dx fs => H dx = some (.own a) ∧ fs.length ≤ 1000 ∧ dx ≠ a ∧ h.get? a = some (PySem.W.instObj C dx) ∧
   ∃ mA, h.Ns1 dx mA ∧ (∀ f, RelO (fs.lookup f) (mA f)) ∧ PySem.Within mA (fs.map (·.1))
 | .own _ => ∃ o, h.get? a = some o
 | .xd fs => ∃ mA, h.Ns1 a mA ∧ ∀ f, RelO (fs.lookup f) (mA f)
 | .rng lo hi => ∃ t u v, h.get? a = some { cls := .type "range", data := .fields #[.int lo t, .int hi u, .int 1 v] }
 | .frz o u => h.get? a = some o ∧ zbZ H h a u
 | .tbl ps => h.get? a = some { cls := .none, data := .fields ps }
 | .met f x => h.get? a = some (PySem.W.methodObj (.ref f) (.ref x))
 | .ext φ => φ h ∧ (∃ o, h.get? a = some o) ∧ ∀ h1 h2 : Heap, φ h1 → (∀ o, h1.get? a = some o → h2.get? a = some o) → φ h2
def HOk (H : Hp) (h : Heap) : Prop := ∀ a o, H a = some o → zbZ P w H h a o
end
section
variable {P : Program} {w : World} {H H' : Hp} {h h' : Heap} {a : Addr} {o : HO}
theorem zbZ.lt (x : zbZ P w H h a o) : a < h.objs.size := by
 cases o with
 | lst xs => obtain ⟨_, _, _, _, e⟩ := x; exact Heap.lt_size e
 | tup xs => obtain ⟨_, _, _, p⟩ := x; exact p.lt
 | dK kvs => obtain ⟨_, _, _, _, o, _, _, e, _⟩ := x; exact Heap.lt_size e
 | dT kvs => obtain ⟨_, _, _, _, o, _, _, e, _⟩ := x; exact Heap.lt_size e
 | set S n => obtain ⟨o, _, _, _, e, _⟩ := x; exact Heap.lt_size e
 | ins C dx fs => obtain ⟨_, _, _, e, _⟩ := x; exact Heap.lt_size e
 | own y => obtain ⟨_, e⟩ := x; exact Heap.lt_size e
 | xd fs => obtain ⟨_, ⟨_, _, _, e, _⟩, _⟩ := x; exact Heap.lt_size e
 | rng lo hi => obtain ⟨_, _, _, e⟩ := x; exact Heap.lt_size e
 | frz ob u => obtain ⟨e, _⟩ := x; exact Heap.lt_size e
 | tbl ps => exact Heap.lt_size (show h.get? a = some _ from x)
 | met f y => exact Heap.lt_size (show h.get? a = some _ from x)
 | ext φ => obtain ⟨_, ⟨_, e⟩, _⟩ := x; exact Heap.lt_size e
theorem Paired.mapP {α β : Type} {F G : α → β → Prop} : ∀ {l₁ : List α} {l₂ : List β}, Paired F l₁ l₂ → (∀ a b, F a b → G a b) → Paired G l₁ l₂
 | _, _, .nil, _ => .nil
 | _, _, .cons r t, f => .cons (f _ _ r) (Paired.mapP t f)
theorem zbZ.stay (x : zbZ P w H h a o) (k : ∀ b u, (b = a ∨ H b = some (.own a)) → h.get? b = some u → h'.get? b = some u)
    (ho : ∀ b, H b = some (.own a) → H' b = some (.own a)) (ht : ∀ b xs, H b = some (.tup xs) → H' b = some (.tup xs)) : zbZ P w H' h' a o := by
  induction o with
  | lst xs => obtain ⟨z, its, n, r, e⟩ := x; exact ⟨z, its, n, r, k _ _ (.inl rfl) e⟩
  | tup xs => obtain ⟨z, its, r, ob, e, c⟩ := x; exact ⟨z, its, r, ob, k _ _ (.inl rfl) e, c⟩
  | dK kvs => obtain ⟨z, y, vs, r, ob, es, ep, e, c⟩ := x; exact ⟨z, y, vs, r, ob, es, ep, k _ _ (.inl rfl) e, c⟩
  | dT kvs =>
    obtain ⟨z, y, xs, r, ob, es, ep, e, c⟩ := x
    exact ⟨z, y, xs, Paired.mapP r fun p q z => ⟨z.1, ht _ _ z.2.1, z.2.2⟩, ob, es, ep, k _ _ (.inl rfl) e, c⟩
  | set S n => obtain ⟨ob, es, ep, t, e, c⟩ := x; exact ⟨ob, es, ep, t, k _ _ (.inl rfl) e, c⟩
  | ins C dx fs =>
    obtain ⟨d, z, ne, e, mA, ⟨od, es, ep, e2, c⟩, r⟩ := x
    exact ⟨ho _ d, z, ne, k _ _ (.inl rfl) e, mA, ⟨od, es, ep, k _ _ (.inr d) e2, c⟩, r⟩
  | own y => obtain ⟨ob, e⟩ := x; exact ⟨ob, k _ _ (.inl rfl) e⟩
  | xd fs => obtain ⟨mA, ⟨od, es, ep, e, c⟩, r⟩ := x; exact ⟨mA, ⟨od, es, ep, k _ _ (.inl rfl) e, c⟩, r⟩
  | rng lo hi => obtain ⟨t, u, v, e⟩ := x; exact ⟨t, u, v, k _ _ (.inl rfl) e⟩
  | frz ob u ih => obtain ⟨e, q⟩ := x; exact ⟨k _ _ (.inl rfl) e, ih q⟩
  | tbl ps =>
    have e : h.get? a = some { cls := .none, data := .fields ps } := x
    show h'.get? a = some { cls := .none, data := .fields ps }
    exact k a _ (.inl rfl) e
  | met f y =>
    have e : h.get? a = some (PySem.W.methodObj (.ref f) (.ref y)) := x
    show h'.get? a = some (PySem.W.methodObj (.ref f) (.ref y))
    exact k a _ (.inl rfl) e
  | ext φ => obtain ⟨p, ⟨o, e⟩, st⟩ := x; exact ⟨st _ _ p fun o q => k _ _ (.inl rfl) q, ⟨o, k _ _ (.inl rfl) e⟩, st⟩
theorem HOk.lt (x : HOk P w H h) (e : H a = some o) : a < h.objs.size := (x a o e).lt
theorem HOk.fresh (x : HOk P w H h) (e : h.objs.size ≤ a) : H a = none := by
 cases q : H a with
 | none => rfl
 | some u => exact absurd (Nat.lt_of_lt_of_le (x.lt q) e) (Nat.lt_irrefl _)
theorem HOk.kept (x : HOk P w H h) (k : ∀ b u, h.get? b = some u → h'.get? b = some u) : HOk P w H h' := fun a o e =>
 (x a o e).stay (fun b u _ q => k b u q) (fun _ q => q) fun _ _ q => q
theorem HOk.laid (x : HOk P w H h) (k : ∀ b u, h.get? b = some u → h'.get? b = some u) (hp : h.objs.size ≤ a) (new : zbZ P w (upd H a o) h' a o) : HOk P w (upd H a o) h' := fun b u e => by
 have hn := x.fresh hp
 by_cases hb : b = a
 ·subst hb; rw [zaC] at e; cases e; exact new
 ·rw [zar hb] at e
  exact (x b u e).stay (fun c v _ q => k c v q) (fun c q => by rw [zar (za3 q hn)]; exact q) fun c xs q => by rw [zar (za3 q hn)]; exact q
end
def Rd (H : Hp) (a : Addr) (u : HO) : Prop := H a = some u ∨ ∃ o, H a = some (.frz o u)
theorem Rd.ok {P : Program} {w : World} {H : Hp} {h : Heap} {a : Addr} {u : HO} (r : Rd H a u) (x : HOk P w H h) : zbZ P w H h a u := by
 rcases r with r | ⟨o, r⟩
 ·exact x a u r
 ·obtain ⟨_, q⟩ := x a _ r
  exact q
def Mut : Option HO → Prop
 | some (.lst _) => True
 | some (.dK _) => True
 | some (.dT _) => True
 | some (.set _ _) => True
 | some (.ins _ _ _) => True
 | some (.ext _) => True
 | _ => False
section
variable {P : Program} {w : World} {H : Hp} {h h' : Heap} {x e : Addr} {o' : HO}
theorem HOk.write (ok : HOk P w H h) (mu : Mut (H x)) (he : e = x ∨ H e = some (.own x)) (k : ∀ b u, b ≠ e → h.get? b = some u → h'.get? b = some u) (heo : ∃ u, h'.get? e = some u)
  (new : zbZ P w (upd H x o') h' x o') : HOk P w (upd H x o') h' := fun b u q => by
 have nown : ∀ c y, H c = some (.own y) → c ≠ x := fun c y r z => by subst z; rw [r] at mu; exact mu
 have ntup : ∀ c xs, H c = some (.tup xs) → c ≠ x := fun c xs r z => by subst z; rw [r] at mu; exact mu
 by_cases hb : b = x
 ·subst hb; rw [zaC] at q; cases q; exact new
 ·rw [zar hb] at q
  by_cases hbe : b = e
  ·have q' : H b = some (.own x) := by
    rcases he with z | z
    ·exact absurd (hbe.trans z) hb
    ·rw [hbe]; exact z
   rw [q] at q'; cases q'
   obtain ⟨v, hv⟩ := heo
   exact ⟨v, by rw [hbe]; exact hv⟩
  ·refine (ok b u q).stay (fun c v hc r => k c v ?_ r) (fun c r => by rw [zar (nown c b r)]; exact r) fun c xs r => by rw [zar (ntup c xs r)]; exact r
   rcases hc with rfl | hc
   ·exact hbe
   ·rintro rfl
    rcases he with z | z
    ·exact nown c b hc z
    ·rw [hc] at z; cases z; exact hb rfl
end
structure Un (fs ex : List Addr) (H H' : Hp) (h h' : Heap) : Prop where
 keep : ∀ b o, h.get? b = some o → H b = none → b ∉ fs → b ∉ ex → h'.get? b = some o
 slot : ∀ b o, h.get? b = some o → H b = none → b ∈ fs → b ∉ ex → ∃ sl, h'.get? b = some { o with slots := sl }
 free : ∀ b o, h.get? b = some o → H b = none → b ∉ ex → H' b = none
 there : ∀ b o, h.get? b = some o → b ∉ ex → ∃ o', h'.get? b = some o'
 tups : ∀ b xs, H b = some (.tup xs) → H' b = some (.tup xs)
 frzs : ∀ b o u, H b = some (.frz o u) → H' b = some (.frz o u)
 tbls : ∀ b ps, H b = some (.tbl ps) → ∃ more, H' b = some (.tbl (ps ++ more))
section
variable {fs fs' ex ex' : List Addr} {H H1 H2 : Hp} {h h1 h2 h' : Heap} {a x e : Addr} {o : HO}
theorem Un.any (u : Un fs ex H H1 h h1) {b : Addr} {ob : Obj} (q : h.get? b = some ob) (n : H b = none) (hx : b ∉ ex) : ∃ sl, h1.get? b = some { ob with slots := sl } := by
 by_cases hb : b ∈ fs
 ·exact u.slot b ob q n hb hx
 ·exact ⟨ob.slots, u.keep b ob q n hb hx⟩
theorem Un.trans (a : Un fs ex H H1 h h1) (b : Un fs ex H1 H2 h1 h2) : Un fs ex H H2 h h2 where
 keep := fun c ob q n hc hx => b.keep c ob (a.keep c ob q n hc hx) (a.free c ob q n hx) hc hx
 slot := fun c ob q n hc hx => by
  obtain ⟨sl, e1⟩ := a.slot c ob q n hc hx
  obtain ⟨sl', e2⟩ := b.slot c _ e1 (a.free c ob q n hx) hc hx
  exact ⟨sl', e2⟩
 free := fun c ob q n hx => by
  obtain ⟨o', e1⟩ := a.there c ob q hx
  exact b.free c o' e1 (a.free c ob q n hx) hx
 there := fun c ob q hx => by
  obtain ⟨o', e1⟩ := a.there c ob q hx
  exact b.there c o' e1 hx
 tups := fun c xs q => b.tups c xs (a.tups c xs q)
 frzs := fun c ob xs q => b.frzs c ob xs (a.frzs c ob xs q)
 tbls := fun c ps q => by
  obtain ⟨m1, e1⟩ := a.tbls c ps q
  obtain ⟨m2, e2⟩ := b.tbls c _ e1
  exact ⟨m1 ++ m2, by rw [e2, Array.append_assoc]⟩
theorem Un.kept (k : ∀ b u, h.get? b = some u → h'.get? b = some u) : Un fs ex H H h h' :=
 ⟨fun b ob q _ _ _ => k b ob q, fun b ob q _ _ _ => ⟨ob.slots, k b ob q⟩, fun _ _ _ n _ => n, fun b ob q _ => ⟨ob, k b ob q⟩, fun _ _ q => q, fun _ _ _ q => q, fun _ ps q => ⟨#[], by rw [q]; simp⟩⟩
theorem Un.refl : Un fs ex H H h h := Un.kept fun _ _ q => q
theorem Un.laid (k : ∀ b u, h.get? b = some u → h'.get? b = some u) (hp : h.objs.size ≤ a) (hn : H a = none) : Un fs ex H (upd H a o) h h' where
 keep := fun b u q _ _ _ => k b u q
 slot := fun b u q _ _ _ => ⟨u.slots, k b u q⟩
 free := fun b u q n _ => by rw [zar (Nat.ne_of_lt (Nat.lt_of_lt_of_le (Heap.lt_size q) hp))]; exact n
 there := fun b u q _ => ⟨u, k b u q⟩
 tups := fun b xs q => by rw [zar (za3 q hn)]; exact q
 frzs := fun b u xs q => by rw [zar (za3 q hn)]; exact q
 tbls := fun b ps q => ⟨#[], by rw [zar (za3 q hn), q]; simp⟩
theorem Un.write (mu : Mut (H x)) (he : e = x ∨ H e = some (.own x)) (k : ∀ b u, b ≠ e → h.get? b = some u → h'.get? b = some u) (heo : ∃ u, h'.get? e = some u) : Un fs ex H (upd H x o) h h' := by
 have hx : ∀ b, H b = none → b ≠ x := fun b n z => by subst z; rw [n] at mu; exact mu
 have hb : ∀ b, H b = none → b ≠ e := fun b n z => by
  subst z
  rcases he with r | r
  ·exact hx b n r
  ·rw [n] at r; cases r
 have hm : ∀ b u, H b = some u → ¬ Mut (some u) → b ≠ x := fun b u q nm z => by subst z; rw [q] at mu; exact nm mu
 refine ⟨fun b u q n _ _ => k b u (hb b n) q, fun b u q n _ _ => ⟨u.slots, k b u (hb b n) q⟩, fun b u q n _ => by rw [zar (hx b n)]; exact n, fun b u q _ => ?_,
  fun b xs q => by rw [zar (hm b _ q fun z => z)]; exact q, fun b u xs q => by rw [zar (hm b _ q fun z => z)]; exact q, fun b ps q => ⟨#[], by rw [zar (hm b _ q fun z => z), q]; simp⟩⟩
 by_cases hbe : b = e
 ·subst hbe; exact heo
 ·exact ⟨u, k b u hbe q⟩
theorem Un.mono (u : Un fs ex H H1 h h1) (hs : ∀ b ∈ fs, b ∈ fs') (hx : ∀ b ∈ ex, b ∈ ex') : Un fs' ex' H H1 h h1 :=
 ⟨fun b ob q n hb he => u.keep b ob q n (fun z => hb (hs b z)) fun z => he (hx b z), fun _ _ q n _ he => u.any q n fun z => he (hx _ z), fun b ob q n he => u.free b ob q n fun z => he (hx b z), fun b ob q he => u.there b ob q fun z => he (hx b z), u.tups, u.frzs, u.tbls⟩
end
def trk (h : Heap) (H : Hp) : List Addr := (List.range h.objs.size).filter fun a => (H a).isSome
def hidT (h : Heap) (H : Hp) : Heap := PySem.W.hideAll h (trk h H)
theorem ziO (h : Heap) (H : Hp) : (hidT h H).objs.size = h.objs.size := PySem.W.hideAll_size _ _
theorem zkx {h : Heap} {H : Hp} {b : Addr} {o : Obj} (e : h.get? b = some o) (n : H b = none) : (hidT h H).get? b = some o :=
 PySem.W.hideAll_get _ e fun hm => by
  have q : (H b).isSome = true := (List.mem_filter.mp hm).2
  rw [n] at q; simp at q
theorem zmB {h : Heap} {H : Hp} {b : Addr} {o : Obj} (e : (hidT h H).get? b = some o) : h.get? b = some o ∧ H b = none := by
  have e' : h.get? b = some o := PySem.W.of_hideAll (trk h H) e
  refine ⟨e', ?_⟩
  cases q : H b with
  | none => rfl
  | some x =>
    have hm : b ∈ trk h H := List.mem_filter.mpr ⟨List.mem_range.mpr (Heap.lt_size e'), by simp [q]⟩
    have z : (hidT h H).get? b = none := PySem.W.hideAll_none (trk h H) hm
    rw [z] at e; cases e
end L2
namespace L2
open PySem PySem.Spec PyProof.Rows
structure Mod (K : PySem.W.Frag) (mg : Str → Option Value) (base : Heap) : Prop where
 kin : K.In base
 glob : base.Ns mainGlobals mg
 blt : ∃ mb, base.Ns builtinsNs mb ∧ ∀ x : Str, x ≠ "__name__" → mb x = bootBuiltins x
 nolimit : base.NoLimit
structure Cx where
 prog : Program
 w : World
 K : PySem.W.Frag
 mg : Str → Option Value
 base : Heap
 A : Around
 N : List Str
 s₀ : Shared
 H₀ : Hp
 env : Env
 outer : List Env
 stack : List Env
 ex : List Addr
 fn : Str → Bool
 calm : Bool
 pn : List (Addr × Obj)
 xe : Value → Shared → Prop
def frs (l : List Env) : List Addr := l.filterMap (·.frame)
abbrev Cx.fs (X : Cx) : List Addr := frs X.outer
def Vis (sc : Scope) (x : Str) : Prop := sc.names.lookup x = some .local ∨ sc.names.lookup x = some .cell ∨ sc.names.lookup x = some .free
def Loc (sc : Scope) (x : Str) : Prop := sc.names.lookup x = some .local ∨ sc.names.lookup x = some .cell
def Look (env : Env) (h : Heap) (m : Str → Option Value) (x : Str) (u : Value) : Prop :=
 (env.kindOf x = some .local ∧ m x = some u) ∨ ((env.kindOf x = some .cell ∨ env.kindOf x = some .free) ∧ ∃ c, env.cells.lookup x = some c ∧ h.IsCell c (some u))
structure Cx.Ok (X : Cx) : Prop where
 mod : Mod X.K X.mg X.base
 kind : X.env.scope.kind = .function
 glob : X.env.globals = mainGlobals
 blt : X.env.builtins = builtinsNs
 above : X.s₀.heap.objs.size ≤ X.env.locals
 inj : ∀ x y c, X.env.cells.lookup x = some c → X.env.cells.lookup y = some c → x = y
 has : ∀ x, (X.env.kindOf x = some .cell ∨ X.env.kindOf x = some .free) → ∃ c, X.env.cells.lookup x = some c
 cab : ∀ x c, X.fn x = true → X.env.cells.lookup x = some c → X.s₀.heap.objs.size ≤ c
 hd : X.calm = true → X.A.handled = none
 frames : X.A.frames = some X.stack
 stk : X.stack = X.outer ∨ (X.stack = X.env :: X.outer ∧ X.env.frame = some X.env.locals)
 exf : ∀ b ∈ X.ex, b ≠ X.env.locals ∧ ∀ x c, X.env.cells.lookup x = some c → c ≠ b
 bs : ∀ b o, X.base.get? b = some o → X.s₀.heap.get? b = some o ∧ X.H₀ b = none
 bsz : X.base.objs.size ≤ X.s₀.heap.objs.size
 noex : ∀ b o, X.base.get? b = some o → b ∉ X.ex
 exfs : ∀ b ∈ X.ex, b ∉ X.fs
 funs : X.s₀.heap.FunFrames X.base X.outer
 frf : ∀ b ∈ X.fs, X.H₀ b = none
structure Inv (X : Cx) (pins : List (Addr × Obj)) (σ : List (Option V)) (H : Hp) (s : Shared) : Prop where
 ok : X.Ok
 os : s.os = X.s₀.os
 bare : AllBare s.gens
 base : Un X.fs X.ex X.H₀ H X.s₀.heap s.heap
 loc : ∃ m, s.heap.Ns X.env.locals m ∧ ∀ (i : Nat) (x : Str) (v : V), X.N[i]? = some x → σ[i]? = some (some v) → Vis X.env.scope x → ∃ u, RelV v u ∧ Look X.env s.heap m x u
 cell : ∀ x c, X.env.cells.lookup x = some c → ∃ v, s.heap.IsCell c v
 free : H X.env.locals = none
 freeC : ∀ x c, X.env.cells.lookup x = some c → H c = none
 pin : ∀ p ∈ X.pn ++ pins, s.heap.get? p.1 = some p.2 ∧ H p.1 = none ∧ p.1 ≠ X.env.locals ∧ p.1 ∉ X.fs ∧ ∀ v, p.2.data ≠ .cell v
 hok : HOk X.prog X.w H s.heap
 len : σ.length = X.N.length
section
variable {X : Cx} {pins : List (Addr × Obj)} {σ : List (Option V)} {H H' : Hp} {s : Shared} {h' : Heap}
theorem Cx.Ok.nofr (ok : X.Ok) {b : Addr} {o : Obj} (e : X.base.get? b = some o) : b ∉ X.fs := fun hb => by
 have := (ok.funs.mem hb).1
 rw [e] at this; cases this
theorem Inv.bs (I : Inv X pins σ H s) : ∀ b o, X.base.get? b = some o → s.heap.get? b = some o ∧ H b = none := fun b o e =>
 ⟨I.base.keep b o (I.ok.bs b o e).1 (I.ok.bs b o e).2 (I.ok.nofr e) (I.ok.noex b o e), I.base.free b o (I.ok.bs b o e).1 (I.ok.bs b o e).2 (I.ok.noex b o e)⟩
theorem Inv.bk (I : Inv X pins σ H s) : ∀ b o, X.base.get? b = some o → s.heap.get? b = some o := fun b o e => (I.bs b o e).1
theorem Inv.mod (I : Inv X pins σ H s) : Mod X.K X.mg X.base := I.ok.mod
theorem Inv.kIn (I : Inv X pins σ H s) : X.K.In s.heap := I.ok.mod.kin.keeps I.bk
theorem Inv.lt (I : Inv X pins σ H s) : X.env.locals < s.heap.objs.size := let ⟨_, hn, _⟩ := I.loc; hn.lt
theorem Inv.sz (I : Inv X pins σ H s) : X.s₀.heap.objs.size ≤ s.heap.objs.size := Nat.le_trans I.ok.above (Nat.le_of_lt I.lt)
theorem Inv.nofs (I : Inv X pins σ H s) {a : Addr} (h : s.heap.objs.size ≤ a) : a ∉ X.fs := fun hb => by
 obtain ⟨_, o, ho, _⟩ := I.ok.funs.mem hb
 exact absurd (Nat.lt_of_lt_of_le (Heap.lt_size ho) (Nat.le_trans I.sz h)) (Nat.lt_irrefl _)
theorem Inv.cne (I : Inv X pins σ H s) : ∀ x c, X.env.cells.lookup x = some c → c ≠ X.env.locals := fun x c e z => by
 obtain ⟨v, o, ho, hd⟩ := I.cell x c e
 obtain ⟨m, ⟨o', es, ep, ho', hd', _⟩, _⟩ := I.loc
 rw [z, ho'] at ho; cases ho; rw [hd'] at hd; cases hd
theorem Inv.funs (I : Inv X pins σ H s) : s.heap.FunFrames X.base X.outer := by
  have all : ∀ (l : List Env), (∀ b ∈ frs l, b ∈ X.fs) → X.s₀.heap.FunFrames X.base l → s.heap.FunFrames X.base l := by
    intro l
    induction l with
    | nil => intro _ _; trivial
    | cons env r ih =>
      intro hs hl
      obtain ⟨hk, ⟨L, o, hf, hn, ho, hd⟩, hr⟩ := hl
      have hL : L ∈ X.fs := hs L (by unfold frs; rw [List.filterMap_cons, hf]; exact List.mem_cons_self)
      obtain ⟨sl, e⟩ := I.base.slot L o ho (I.ok.frf L hL) hL fun z => I.ok.exfs L z hL
      exact ⟨hk, ⟨L, _, hf, hn, e, hd⟩, ih (fun b hb => hs b (by unfold frs; rw [List.filterMap_cons, hf]; exact List.mem_cons_of_mem _ hb)) hr⟩
  exact all X.outer (fun _ hb => hb) I.ok.funs
theorem Inv.stack (I : Inv X pins σ H s) : s.heap.FunFrames X.base X.stack := by
 rcases I.ok.stk with e | ⟨e, hf⟩
 ·rw [e]; exact I.funs
 ·rw [e]
  obtain ⟨m, hn, _⟩ := I.loc
  refine .cons (by rw [I.ok.kind]; decide) hf hn ?_ I.funs
  exact Heap.get?_none_of_le (Nat.le_trans I.ok.bsz I.ok.above)
theorem Inv.stkSub (I : Inv X pins σ H s) : ∀ b ∈ frs X.stack, b ∈ X.env.locals :: X.fs := fun b hb => by
 rcases I.ok.stk with e | ⟨e, hf⟩
 ·rw [e] at hb; exact List.mem_cons_of_mem _ hb
 ·rw [e] at hb
  unfold frs at hb
  rw [List.filterMap_cons, hf] at hb
  exact hb
theorem Inv.stkFree (I : Inv X pins σ H s) : ∀ b ∈ frs X.stack, H b = none := fun b hb => by
 rcases List.mem_cons.mp (I.stkSub b hb) with e | hb
 ·rw [e]; exact I.free
 ·obtain ⟨_, o, ho, _⟩ := I.ok.funs.mem hb
  exact I.base.free b o ho (I.ok.frf b hb) fun z => I.ok.exfs b z hb
theorem Inv.step {g' : Array GenState} {t' : Nat} {d' : Drawn} {ch : List Addr} (I : Inv X pins σ H s)
  (hch : ∀ b ∈ ch, (b ∈ X.ex ∨ X.s₀.heap.objs.size ≤ b) ∧ b ≠ X.env.locals ∧ (∀ x c, X.env.cells.lookup x = some c → c ≠ b) ∧ ∀ p ∈ X.pn ++ pins, p.1 ≠ b)
  (keep : ∀ b o, b ≠ X.env.locals → b ∉ X.fs → b ∉ ch → s.heap.get? b = some o → H b = none → h'.get? b = some o)
  (slot : ∀ b o, b ≠ X.env.locals → b ∈ X.fs → b ∉ ch → s.heap.get? b = some o → H b = none → ∃ sl, h'.get? b = some { o with slots := sl }) (free : ∀ b o, b ∉ ch → s.heap.get? b = some o → H b = none → H' b = none)
  (there : ∀ b o, b ∉ ch → s.heap.get? b = some o → ∃ o', h'.get? b = some o')
  (tups : ∀ b xs, H b = some (.tup xs) → H' b = some (.tup xs)) (frzs : ∀ b o u, H b = some (.frz o u) → H' b = some (.frz o u)) (tbls : ∀ b ps, H b = some (.tbl ps) → ∃ more, H' b = some (.tbl (ps ++ more)))
  (ns : ∀ m, s.heap.Ns X.env.locals m → h'.Ns X.env.locals m) (hok : HOk X.prog X.w H' h') (hg : AllBare g') :
  Inv X pins σ H' { s with heap := h', gens := g', drawn := d', toks := t' } := by
 have neL : ∀ b o, X.s₀.heap.get? b = some o → b ≠ X.env.locals := fun b o e => Nat.ne_of_lt (Nat.lt_of_lt_of_le (Heap.lt_size e) I.ok.above)
 have neC : ∀ b o, X.s₀.heap.get? b = some o → b ∉ X.ex → b ∉ ch := fun b o e hx hb => by
  rcases (hch b hb).1 with z | z
  ·exact hx z
  ·exact absurd (Nat.lt_of_lt_of_le (Heap.lt_size e) z) (Nat.lt_irrefl _)
 have cellK : ∀ x c, X.env.cells.lookup x = some c → ∀ v, s.heap.IsCell c v → h'.IsCell c v := fun x c e v ⟨o, ho, hd⟩ => by
  have nch : c ∉ ch := fun z => (hch c z).2.2.1 x c e rfl
  by_cases hc : c ∈ X.fs
  ·obtain ⟨sl, q⟩ := slot c o (I.cne x c e) hc nch ho (I.freeC x c e)
   exact ⟨_, q, hd⟩
  ·exact ⟨o, keep c o (I.cne x c e) hc nch ho (I.freeC x c e), hd⟩
 refine ⟨I.ok, I.os, hg, ⟨fun b o e n hb hx => ?_, fun b o e n hb hx => ?_, fun b o e n hx => ?_, fun b o e hx => ?_, fun b xs e => tups b xs (I.base.tups b xs e), fun b o xs e => frzs b o xs (I.base.frzs b o xs e), fun b ps e => ?_⟩, ?_, fun x c e => ?_, ?_, fun x c e => ?_, fun p hp => ?_, hok, I.len⟩
 ·exact keep b o (neL b o e) hb (neC b o e hx) (I.base.keep b o e n hb hx) (I.base.free b o e n hx)
 ·obtain ⟨sl, e1⟩ := I.base.slot b o e n hb hx
  obtain ⟨sl', e2⟩ := slot b _ (neL b o e) hb (neC b o e hx) e1 (I.base.free b o e n hx)
  exact ⟨sl', e2⟩
 ·obtain ⟨o', e1⟩ := I.base.there b o e hx
  exact free b o' (neC b o e hx) e1 (I.base.free b o e n hx)
 ·obtain ⟨o', e1⟩ := I.base.there b o e hx
  exact there b o' (neC b o e hx) e1
 ·obtain ⟨m1, e1⟩ := I.base.tbls b ps e
  obtain ⟨m2, e2⟩ := tbls b _ e1
  exact ⟨m1 ++ m2, by rw [e2, Array.append_assoc]⟩
 ·obtain ⟨m, hn, hl⟩ := I.loc
  refine ⟨m, ns m hn, fun i x v e1 e2 e3 => ?_⟩
  obtain ⟨u, r, l⟩ := hl i x v e1 e2 e3
  refine ⟨u, r, ?_⟩
  rcases l with l | ⟨k, c, e, z⟩
  ·exact .inl l
  ·exact .inr ⟨k, c, e, cellK x c e _ z⟩
 ·obtain ⟨v, z⟩ := I.cell x c e
  exact ⟨v, cellK x c e v z⟩
 ·obtain ⟨m, ⟨o, _, _, ho, _⟩, _⟩ := I.loc
  exact free _ o (fun z => (hch _ z).2.1 rfl) ho I.free
 ·obtain ⟨v, o, ho, hd⟩ := I.cell x c e
  exact free c o (fun z => (hch c z).2.2.1 x c e rfl) ho (I.freeC x c e)
 ·obtain ⟨e, n, ne, nf, d⟩ := I.pin p hp
  have nch : p.1 ∉ ch := fun z => (hch p.1 z).2.2.2 p hp rfl
  exact ⟨keep p.1 p.2 ne nf nch e n, free p.1 p.2 nch e n, ne, nf, d⟩
theorem Inv.un {t' : Nat} (I : Inv X pins σ H s) (u : Un X.fs [] H H' s.heap h') (hok : HOk X.prog X.w H' h') : Inv X pins σ H' { s with heap := h', toks := t' } := by
 obtain ⟨m, ⟨o, es, ep, ho, r⟩, _⟩ := id I.loc
 obtain ⟨sl, hL⟩ := u.any ho I.free (by simp)
 exact I.step (g' := s.gens) (d' := s.drawn) (ch := []) (fun _ z => nomatch z) (fun b o _ hb _ e n => u.keep b o e n hb (by simp)) (fun b o _ hb _ e n => u.slot b o e n hb (by simp)) (fun b o _ e n => u.free b o e n (by simp)) (fun b o _ e => u.there b o e (by simp)) u.tups u.frzs u.tbls (fun m' hm => by
  obtain ⟨o', es', ep', ho', r'⟩ := hm
  rw [ho] at ho'; cases ho'
  exact ⟨_, es', ep', hL, r'⟩) hok I.bare
theorem Inv.call {g' : Array GenState} {t' : Nat} {d' : Drawn} {ch : List Addr} (I : Inv X pins σ H s) (u : Un (frs X.stack) ch H H' s.heap h') (hok : HOk X.prog X.w H' h') (hg : AllBare g')
  (hch : ∀ b ∈ ch, (b ∈ X.ex ∨ X.s₀.heap.objs.size ≤ b) ∧ b ≠ X.env.locals ∧ (∀ x c, X.env.cells.lookup x = some c → c ≠ b) ∧ ∀ p ∈ X.pn ++ pins, p.1 ≠ b) :
  Inv X pins σ H' { s with heap := h', gens := g', drawn := d', toks := t' } := by
 obtain ⟨m, ⟨o, es, ep, ho, r⟩, _⟩ := id I.loc
 obtain ⟨sl, hL⟩ := u.any ho I.free fun z => (hch _ z).2.1 rfl
 exact I.step (ch := ch) hch (fun b o hL hb hc e n => u.keep b o e n (fun z => (List.mem_cons.mp (I.stkSub b z)).elim hL hb) hc) (fun b o _ _ hc e n => u.any e n hc) (fun b o hc e n => u.free b o e n hc) (fun b o hc e => u.there b o e hc) u.tups u.frzs u.tbls (fun m' hm => by
  obtain ⟨o', es', ep', ho', r'⟩ := hm
  rw [ho] at ho'; cases ho'
  exact ⟨_, es', ep', hL, r'⟩) hok hg
theorem Inv.turned {t' : Nat} {it : Addr} (I : Inv X pins σ H s) (k : ∀ b o, b ≠ it → s.heap.get? b = some o → h'.get? b = some o) (hn : H it = none) (hL : it ≠ X.env.locals)
  (h1 : it ∈ X.ex ∨ X.s₀.heap.objs.size ≤ it) (h2 : ∀ x c, X.env.cells.lookup x = some c → c ≠ it) (h3 : ∀ p ∈ X.pn ++ pins, p.1 ≠ it) : Inv X pins σ H { s with heap := h', toks := t' } := by
 have nit : ∀ b u, H b = some u → b ≠ it := fun b u e z => by rw [z, hn] at e; cases e
 refine I.step (g' := s.gens) (d' := s.drawn) (ch := [it]) (fun b hb => ?_) (fun b o _ _ hc e _ => k b o (fun z => hc (by simp [z])) e) (fun b o _ _ hc e _ => ⟨o.slots, k b o (fun z => hc (by simp [z])) e⟩) (fun _ _ _ _ n => n)
  (fun b o hc e => ⟨o, k b o (fun z => hc (by simp [z])) e⟩) (fun _ _ e => e) (fun _ _ _ e => e) (fun b ps e => ⟨#[], by rw [e]; simp⟩) (fun m hm => ?_) (fun b u e => ?_) I.bare
 ·have e : b = it := by simpa using hb
  subst e
  exact ⟨h1, hL, h2, h3⟩
 ·obtain ⟨o, es, ep, ho, r⟩ := hm
  exact ⟨o, es, ep, k _ o (Ne.symm hL) ho, r⟩
 ·refine (I.hok b u e).stay (fun c v hc q => k c v ?_ q) (fun _ q => q) fun _ _ q => q
  rcases hc with z | z
  ·rw [z]; exact nit b u e
  ·exact nit c _ z
theorem Inv.tok (I : Inv X pins σ H s) (t : Nat) : Inv X pins σ H { s with toks := t } := I.un (h' := s.heap) (t' := t) Un.refl I.hok
theorem Inv.kept {t' : Nat} (I : Inv X pins σ H s) (k : ∀ b u, s.heap.get? b = some u → h'.get? b = some u) : Inv X pins σ H { s with heap := h', toks := t' } := I.un (Un.kept k) (I.hok.kept k)
theorem Inv.laid {a : Addr} {o : HO} {t' : Nat} (I : Inv X pins σ H s) (k : ∀ b u, s.heap.get? b = some u → h'.get? b = some u) (hp : s.heap.objs.size ≤ a) (new : zbZ X.prog X.w (upd H a o) h' a o) :
  Inv X pins σ (upd H a o) { s with heap := h', toks := t' } := I.un (Un.laid k hp (I.hok.fresh hp)) (I.hok.laid k hp new)
theorem Inv.write {x e : Addr} {o : HO} {t' : Nat} (I : Inv X pins σ H s) (mu : Mut (H x)) (he : e = x ∨ H e = some (.own x)) (k : ∀ b u, b ≠ e → s.heap.get? b = some u → h'.get? b = some u) (heo : ∃ u, h'.get? e = some u)
  (new : zbZ X.prog X.w (upd H x o) h' x o) : Inv X pins σ (upd H x o) { s with heap := h', toks := t' } := I.un (Un.write mu he k heo) (I.hok.write mu he k heo new)
theorem Inv.pins_of {pins' : List (Addr × Obj)} (I : Inv X pins σ H s) (h : ∀ p ∈ pins', s.heap.get? p.1 = some p.2 ∧ H p.1 = none ∧ p.1 ≠ X.env.locals ∧ p.1 ∉ X.fs ∧ ∀ v, p.2.data ≠ .cell v) : Inv X pins' σ H s :=
 ⟨I.ok, I.os, I.bare, I.base, I.loc, I.cell, I.free, I.freeC, fun p hp => (List.mem_append.mp hp).elim (fun z => I.pin p (List.mem_append_left _ z)) (h p), I.hok, I.len⟩
theorem zf6 {N : List Str} (hN : N.Nodup) {i j : Nat} {x : Str} (a : N[i]? = some x) (b : N[j]? = some x) : i = j := by
 obtain ⟨h1, e1⟩ := List.getElem?_eq_some_iff.mp a
 obtain ⟨h2, e2⟩ := List.getElem?_eq_some_iff.mp b
 exact (List.getElem_inj hN).mp (e1.trans e2.symm)
theorem zjT {M : Model} {A : Around} {E : Value → Shared → Prop} {i : Nat} {x : Str} {v : V} {u : Value} {Q : Unit → Shared → Prop} (I : Inv X pins σ H s) (hN : X.N.Nodup) (hi : X.N[i]? = some x) (hx : Loc X.env.scope x) (r : RelV v u)
    (h : ∀ s', Inv X pins (σ.set i (some v)) H s' → (∃ a, Heap.SameBut a s.heap s'.heap ∧ (a = X.env.locals ∨ X.env.cells.lookup x = some a)) → Q () s') (hf : X.fn x = true ∨ X.env.scope.names.lookup x = some .local := by first | exact .inl rfl | exact .inr rfl | assumption) : wpAny M A (storeName X.env x u) Q E s := by
  obtain ⟨m, hn, hl⟩ := id I.loc
  have hcls : (X.env.scope.kind == .class || (X.env.scope.kind == .module && X.env.locals != X.env.globals)) = false := by rw [I.ok.kind]; rfl
  have hiσ : i < σ.length := by rw [I.len]; exact (List.getElem?_eq_some_iff.mp hi).1
  have cne := I.cne
  have tracked : ∀ {a : Addr} {h' : Heap}, (∃ o, s.heap.get? a = some o ∧ H a = none) → Heap.SameBut a s.heap h' → HOk X.prog X.w H h' := fun {a h'} ha hs b ob e => by
    obtain ⟨_, _, hfree⟩ := ha
    refine (I.hok b ob e).stay (fun c w' hc q => (hs.2 c ?_).trans q) (fun _ q => q) fun _ _ q => q
    rintro rfl
    rcases hc with rfl | hc
    · rw [hfree] at e; cases e
    · rw [hfree] at hc; cases hc
  rcases hx with hk | hk
  · refine wpAny_storeName_local hk hn (fun h' hn' hs => ?_) hcls
    obtain ⟨oL, _, _, hoL, _⟩ := id hn
    refine h _ ⟨I.ok, I.os, I.bare, ⟨fun b o e n hb hx => ?_, fun b o e n hb hx => ?_, I.base.free, fun b o e hx => ?_, I.base.tups, I.base.frzs, I.base.tbls⟩, ⟨_, hn', fun j y v' e1 e2 e3 => ?_⟩, fun y c e => ?_, I.free, I.freeC, fun p hp => ?_, tracked ⟨oL, hoL, I.free⟩ hs, by simpa using I.len⟩ ⟨_, hs, .inl rfl⟩
    · exact (hs.2 b (Nat.ne_of_lt (Nat.lt_of_lt_of_le (Heap.lt_size e) I.ok.above))).trans (I.base.keep b o e n hb hx)
    · obtain ⟨sl, e1⟩ := I.base.slot b o e n hb hx
      exact ⟨sl, (hs.2 b (Nat.ne_of_lt (Nat.lt_of_lt_of_le (Heap.lt_size e) I.ok.above))).trans e1⟩
    · obtain ⟨o', e1⟩ := I.base.there b o e hx
      exact ⟨o', (hs.2 b (Nat.ne_of_lt (Nat.lt_of_lt_of_le (Heap.lt_size e) I.ok.above))).trans e1⟩
    · by_cases hj : j = i
      · subst hj
        rw [hi] at e1; cases e1
        rw [List.getElem?_set_self hiσ] at e2
        cases e2
        exact ⟨u, r, .inl ⟨hk, by simp⟩⟩
      · rw [List.getElem?_set_ne (Ne.symm hj)] at e2
        obtain ⟨u', r', q⟩ := hl j y v' e1 e2 e3
        refine ⟨u', r', ?_⟩
        rcases q with ⟨k, e⟩ | ⟨k, c, e, z⟩
        · refine .inl ⟨k, ?_⟩
          have : y ≠ x := fun e => hj (zf6 hN e1 (e ▸ hi))
          simp [this, e]
        · exact .inr ⟨k, c, e, z.sameBut hs (cne y c e)⟩
    · obtain ⟨w', z⟩ := I.cell y c e
      exact ⟨w', z.sameBut hs (cne y c e)⟩
    · obtain ⟨e, n, ne, nf, d⟩ := I.pin p hp
      exact ⟨(hs.2 p.1 ne).trans e, n, ne, nf, d⟩
  · have hfn : X.fn x = true := by
      rcases hf with z | z
      · exact z
      · rw [z] at hk; cases hk
    obtain ⟨c, hc⟩ := I.ok.has x (.inl hk)
    obtain ⟨w', z⟩ := I.cell x c hc
    refine wpAny_storeName_cell I.ok.kind hk hc z (fun h' hc' hs => ?_)
    obtain ⟨oc, hoc, hocd⟩ := id z
    refine h { s with heap := h' } ⟨I.ok, I.os, I.bare, ⟨fun b o e n hb hx => ?_, fun b o e n hb hx => ?_, I.base.free, fun b o e hx => ?_, I.base.tups, I.base.frzs, I.base.tbls⟩, ⟨m, hn.sameBut hs (Ne.symm (cne x c hc)), fun j y v' e1 e2 e3 => ?_⟩, fun y c' e => ?_, I.free, I.freeC, fun p hp => ?_, tracked ⟨oc, hoc, I.freeC x c hc⟩ hs, by simpa using I.len⟩ ⟨c, hs, .inr hc⟩
    · exact (hs.2 b (Nat.ne_of_lt (Nat.lt_of_lt_of_le (Heap.lt_size e) (I.ok.cab x c hfn hc)))).trans (I.base.keep b o e n hb hx)
    · obtain ⟨sl, e1⟩ := I.base.slot b o e n hb hx
      exact ⟨sl, (hs.2 b (Nat.ne_of_lt (Nat.lt_of_lt_of_le (Heap.lt_size e) (I.ok.cab x c hfn hc)))).trans e1⟩
    · obtain ⟨o', e1⟩ := I.base.there b o e hx
      exact ⟨o', (hs.2 b (Nat.ne_of_lt (Nat.lt_of_lt_of_le (Heap.lt_size e) (I.ok.cab x c hfn hc)))).trans e1⟩
    · by_cases hj : j = i
      · subst hj
        rw [hi] at e1; cases e1
        rw [List.getElem?_set_self hiσ] at e2
        cases e2
        exact ⟨u, r, .inr ⟨.inl hk, c, hc, hc'⟩⟩
      · rw [List.getElem?_set_ne (Ne.symm hj)] at e2
        obtain ⟨u', r', q⟩ := hl j y v' e1 e2 e3
        refine ⟨u', r', ?_⟩
        rcases q with q | ⟨k, c', e, z'⟩
        · exact .inl q
        · refine .inr ⟨k, c', e, z'.sameBut hs ?_⟩
          rintro rfl
          exact hj (zf6 hN e1 (I.ok.inj _ _ _ e hc ▸ hi))
    · by_cases hcc : c' = c
      · subst hcc; exact ⟨_, hc'⟩
      · obtain ⟨w2, z2⟩ := I.cell y c' e
        exact ⟨w2, z2.sameBut hs hcc⟩
    · obtain ⟨e, n, ne, nf, d⟩ := I.pin p hp
      refine ⟨(hs.2 p.1 ?_).trans e, n, ne, nf, d⟩
      intro q
      rw [q, hoc] at e
      have q' : oc = p.2 := Option.some.inj e
      exact d w' (by rw [← q']; exact hocd)
theorem zdm {M : Model} {A : Around} {E : Value → Shared → Prop} {i : Nat} {x : Str} {v : V} {u : Value} {Q : Unit → Shared → Prop} (I : Inv X pins σ H s) (hN : X.N.Nodup) (hi : X.N[i]? = some x) (hx : Loc X.env.scope x) (r : RelV v u)
  (h : ∀ s', Inv X pins (σ.set i (some v)) H s' → Q () s') (hf : X.fn x = true ∨ X.env.scope.names.lookup x = some .local := by first | exact .inl rfl | exact .inr rfl | assumption) : wpAny M A (storeName X.env x u) Q E s :=
 zjT I hN hi hx r (fun s' I' _ => h s' I') hf
theorem Inv.call' {s' : Shared} {ch : List Addr} (I : Inv X pins σ H s) (ho : s'.os = s.os) (u : Un (frs X.stack) ch H H' s.heap s'.heap) (hok : HOk X.prog X.w H' s'.heap) (hg : AllBare s'.gens)
  (hch : ∀ b ∈ ch, (b ∈ X.ex ∨ X.s₀.heap.objs.size ≤ b) ∧ b ≠ X.env.locals ∧ (∀ x c, X.env.cells.lookup x = some c → c ≠ b) ∧ ∀ p ∈ X.pn ++ pins, p.1 ≠ b) : Inv X pins σ H' s' := by
 obtain ⟨h', g', d', t', o'⟩ := s'
 have e : o' = s.os := ho
 subst e
 exact I.call (g' := g') (t' := t') (d' := d') u hok hg hch
end
abbrev XK := Value → Option Addr → Hp → Prop
abbrev St := List (Option V)
abbrev VK := V → Hp → Prop
abbrev TE := St → Hp → VK → Prop
abbrev TT := St → Hp → (Bool → Hp → Prop) → Prop
abbrev TA := St → Hp → (List V → Hp → Prop) → Prop
structure Ends where
 nx : St → Hp → Prop
 rt : VK
 bk : St → Hp → Prop := fun _ _ => False
 ct : St → Hp → Prop := fun _ _ => False
abbrev TS := Ends → St → Hp → Prop
def EP (X : Cx) (pins : List (Addr × Obj)) (σ : St) (Q : VK) (u : Value) (s' : Shared) : Prop := ∃ v H', Inv X pins σ H' s' ∧ RelV v u ∧ Q v H'
def TP (X : Cx) (pins : List (Addr × Obj)) (σ : St) (Q : Bool → Hp → Prop) (b : Bool) (s' : Shared) : Prop := ∃ H', Inv X pins σ H' s' ∧ Q b H'
def AP (X : Cx) (pins : List (Addr × Obj)) (σ : St) (Q : List V → Hp → Prop) (us : List Value) (s' : Shared) : Prop := ∃ vs H', Inv X pins σ H' s' ∧ Vals vs us ∧ Q vs H'
def SP (X : Cx) (pins : List (Addr × Obj)) (D : Ends) (f : Flow) (s' : Shared) : Prop :=
 match f with
 | .next => ∃ σ' H', Inv X pins σ' H' s' ∧ D.nx σ' H'
 | .brk => ∃ σ' H', Inv X pins σ' H' s' ∧ D.bk σ' H'
 | .cont => ∃ σ' H', Inv X pins σ' H' s' ∧ D.ct σ' H'
 | .ret u => ∃ v σ' H', Inv X pins σ' H' s' ∧ RelV v u ∧ D.rt v H'
def PE (X : Cx) (e : Expr) (t : TE) : Prop :=
 ∀ (pins : List (Addr × Obj)) (s : Shared) (σ : St) (H : Hp) (Q : VK), Inv X pins σ H s → t σ H Q → wpAny (model X.prog X.w) X.A (eval e X.env) (EP X pins σ Q) X.xe s
def PT (X : Cx) (e : Expr) (t : TT) : Prop :=
 ∀ (pins : List (Addr × Obj)) (s : Shared) (σ : St) (H : Hp) (Q : Bool → Hp → Prop), Inv X pins σ H s → t σ H Q → wpAny (model X.prog X.w) X.A (isTrue e X.env (eval e X.env)) (TP X pins σ Q) X.xe s
def PW (X : Cx) (e : Expr) (t : TT) : Prop :=
 ∀ (whole : Sem Value) (pins : List (Addr × Obj)) (s : Shared) (σ : St) (H : Hp) (Q : Bool → Hp → Prop), Inv X pins σ H s → t σ H Q → wpAny (model X.prog X.w) X.A (isTrue e X.env whole) (TP X pins σ Q) X.xe s
theorem PW.pt {X : Cx} {e : Expr} {t : TT} (h : PW X e t) : PT X e t := h _
def PA (X : Cx) (es : List Expr) (t : TA) : Prop :=
 ∀ (pos : Pos) (pins : List (Addr × Obj)) (s : Shared) (σ : St) (H : Hp) (Q : List V → Hp → Prop), Inv X pins σ H s → t σ H Q → wpAny (model X.prog X.w) X.A (spliced (backTo pos (starEach es X.env))) (AP X pins σ Q) X.xe s
def PS (X : Cx) (st : Stmt) (t : TS) : Prop :=
 ∀ (pins : List (Addr × Obj)) (s : Shared) (σ : St) (H : Hp) (D : Ends), Inv X pins σ H s → t D σ H → wpAny (model X.prog X.w) X.A (exec st X.env) (SP X pins D) X.xe s
def PSs (X : Cx) (st : List Stmt) (t : TS) : Prop :=
 ∀ (pins : List (Addr × Obj)) (s : Shared) (σ : St) (H : Hp) (D : Ends), Inv X pins σ H s → t D σ H → wpAny (model X.prog X.w) X.A (execs st X.env) (SP X pins D) X.xe s
theorem thn {α : Type} {t : Sem α} {Q Q' : α → Shared → Prop} {M : Model} {A : Around} {E : Value → Shared → Prop} {s : Shared} (h : wpAny M A t Q E s) (hQ : ∀ a s, Q a s → Q' a s) : wpAny M A t Q' E s := wpAny_mono h hQ fun _ _ x => x
end L2
namespace L2
open PySem PySem.Spec PyProof.Rows
section
variable {X : Cx}
def tVar (i : Nat) : TE := fun σ H Q => ∃ v, σ[i]? = some (some v) ∧ Q v H
def tC (v : V) : TE := fun _ H Q => Q v H
theorem zh8 {i : Nat} {x : Str} {pos : Pos} (hN : X.N[i]? = some x) (hv : Vis X.env.scope x) (hd : (x == ("__debug__" : Str)) = false := by decide) (hcd : (x == ("__classdict__" : Str)) = false := by decide) : PE X (.Name x pos) (tVar i) := by
 intro pins s σ H Q I h
 obtain ⟨v, e, h⟩ := h
 obtain ⟨m, hn, hl⟩ := I.loc
 obtain ⟨u, r, l⟩ := hl i x v hN e hv
 have fin : EP X pins σ Q u s := ⟨v, H, I, r, h⟩
 rcases l with ⟨hk, hm⟩ | ⟨hk, c, hc, hcell⟩
 ·exact wpAny_Name (wpAny_loadName_local I.ok.kind hk hn hm fin) hd
 ·rcases hk with hk | hk
  ·exact wpAny_Name (wpAny_loadName_cell I.ok.kind hk hc hcell fin) hd
  ·exact wpAny_Name (wpAny_loadName_free I.ok.kind hk hc hcell fin hcd) hd
theorem zaf {i j pos} : PE X (.Constant (.int i) j pos) (tC (.int i)) := fun _ _ _ H _ I h => wpAny_Constant_int ⟨.int i, H, I.tok _, ⟨_, rfl⟩, h⟩
theorem zf5 {b j pos} : PE X (.Constant (.bool b) j pos) (tC (.bl b)) := fun _ _ _ H _ I h => Constant_bool ⟨.bl b, H, I, rfl, h⟩
theorem zah {x j pos} : PE X (.Constant (.str x) j pos) (tC (.str x)) := fun _ _ _ H _ I h => Calls.Constant_str ⟨.str x, H, I.tok _, ⟨_, rfl⟩, h⟩
def Gl (X : Cx) (x : Str) : Prop := X.env.kindOf x = some .globalImplicit
theorem zc3 {E : Value → Shared → Prop} {pins : List (Addr × Obj)} {s : Shared} {σ : St} {H : Hp} {x : Str} {u : Value} {pos : Pos} {Q : Value → Shared → Prop} (I : Inv X pins σ H s) (hg : Gl X x) (hm : X.mg x = some u) (h : Q u s)
  (hd : (x == ("__debug__" : Str)) = false := by decide) : wpAny (model X.prog X.w) X.A (eval (.Name x pos) X.env) Q E s :=
 Calls.Name_function_global I.ok.kind hg (Calls.loadGlobal_global (by rw [I.ok.glob]; exact I.mod.glob.keeps I.bk) hm h) hd
theorem zfV {E : Value → Shared → Prop} {pins : List (Addr × Obj)} {s : Shared} {σ : St} {H : Hp} {x : Str} {u : Value} {pos : Pos} {Q : Value → Shared → Prop} (I : Inv X pins σ H s) (hg : Gl X x) (hm : X.mg x = none) (hv : bootBuiltins x = some u) (h : Q u s)
  (hn : x ≠ "__name__" := by decide) (hd : (x == ("__debug__" : Str)) = false := by decide) : wpAny (model X.prog X.w) X.A (eval (.Name x pos) X.env) Q E s := by
 obtain ⟨mb, h1, h2⟩ := I.mod.blt
 exact Calls.Name_function_global I.ok.kind hg (Calls.loadGlobal_builtin (by rw [I.ok.glob]; exact I.mod.glob.keeps I.bk) hm (by rw [I.ok.blt]; exact h1.keeps I.bk) ((h2 x hn).trans hv) h) hd
theorem zdv {x : Str} {v : V} {u : Value} {pos : Pos} (hg : Gl X x) (hm : X.mg x = some u) (r : RelV v u) (hd : (x == ("__debug__" : Str)) = false := by decide) : PE X (.Name x pos) (tC v) :=
 fun _ _ _ H _ I h => zc3 I hg hm ⟨v, H, I, r, h⟩ hd
theorem zl9 {x : Str} {v : V} {u : Value} {pos : Pos} (hg : Gl X x) (hm : X.mg x = none) (hv : bootBuiltins x = some u) (r : RelV v u) (hn : x ≠ "__name__" := by decide) (hd : (x == ("__debug__" : Str)) = false := by decide) : PE X (.Name x pos) (tC v) :=
 fun _ _ _ H _ I h => zfV I hg hm hv ⟨v, H, I, r, h⟩ hn hd
variable {a b : Expr} {ta tb : TE} {pos : Pos}
def PC (X : Cx) (op : CmpOp) (a b : Expr) (t : TE) : Prop :=
 ∀ (pins : List (Addr × Obj)) (s : Shared) (σ : St) (H : Hp) (Q : VK), Inv X pins σ H s → t σ H Q →
  wpAny (model X.prog X.w) X.A (eval a X.env) (fun v s₁ => wpAny (model X.prog X.w) X.A (eval b X.env) (fun u s₂ => wpAny (model X.prog X.w) X.A (compareOp op v u) (EP X pins σ Q) X.xe s₂) X.xe s₁) X.xe s
def tB (t : TE) : TT := fun σ H Q => t σ H fun x H1 => ∃ c, x = .bl c ∧ Q c H1
theorem pt_cmp {op : CmpOp} {t : TE} (h : PC X op a b t) (h1 : behindInMarks op b = false := by first | exact nobehind _ (by decide) (by decide) | rfl) : PT X (.Compare a [op] [b] pos) (tB t) := by
 intro pins s σ H Q I hw
 refine wpAny_isTrue_Compare1 (thn (h pins s σ H _ I hw) fun v s1 h1 => thn h1 fun u s2 h2 => thn h2 fun c s3 ⟨x, H1, I1, r1, q1⟩ => ?_) h1
 obtain ⟨d, rfl, q⟩ := q1
 cases r1
 exact wpAny_truthy_bool ⟨H1, I1, q⟩
variable {tA tB' : TT} {rest : List Expr}
def tAnd (t u : TT) : TT := fun σ H Q => t σ H fun c H1 => if c = true then u σ H1 Q else Q false H1
def tOr (t u : TT) : TT := fun σ H Q => t σ H fun c H1 => if c = true then Q true H1 else u σ H1 Q
def tNot (t : TT) : TT := fun σ H Q => t σ H fun c H1 => Q (!c) H1
theorem zmc (ha : PT X a tA) : PW X (.BoolOp .And [a] pos) tA := by
 intro wh pins s σ H Q I h
 refine isTrue_and (thn (ha pins s σ H Q I h) fun c s1 e => ?_)
 cases c with
 | true => exact isTrue_and_nil e
 | false => exact e
theorem pw_or1 (ha : PT X a tA) : PW X (.BoolOp .Or [a] pos) tA := by
 intro wh pins s σ H Q I h
 refine isTrue_or (thn (ha pins s σ H Q I h) fun c s1 e => ?_)
 cases c with
 | false => exact isTrue_or_nil e
 | true => exact e
theorem pw_and (ha : PT X a tA) (hb : PW X (.BoolOp .And (b :: rest) pos) tB') : PW X (.BoolOp .And (a :: b :: rest) pos) (tAnd tA tB') := by
 intro wh pins s σ H Q I h
 refine isTrue_and (thn (ha pins s σ H _ I h) fun c s1 ⟨H1, I1, q1⟩ => ?_)
 cases c with
 | true => exact hb wh pins s1 σ H1 Q I1 q1
 | false => exact ⟨H1, I1, q1⟩
theorem pw_or (ha : PT X a tA) (hb : PW X (.BoolOp .Or (b :: rest) pos) tB') : PW X (.BoolOp .Or (a :: b :: rest) pos) (tOr tA tB') := by
 intro wh pins s σ H Q I h
 refine isTrue_or (thn (ha pins s σ H _ I h) fun c s1 ⟨H1, I1, q1⟩ => ?_)
 cases c with
 | true => exact ⟨H1, I1, q1⟩
 | false => exact hb wh pins s1 σ H1 Q I1 q1
theorem zoe (ha : PT X a tA) : PT X (.UnaryOp .Not a pos) (tNot tA) := by
 intro pins s σ H Q I h
 exact isTrue_not (ha pins s σ H (fun c H1 => Q (!c) H1) I h)
def tAndV (ta tb : TE) : TE := fun σ H Q => ta σ H fun x H1 => ∃ c, x = .bl c ∧ if c = true then tb σ H1 Q else Q (.bl false) H1
def tOrV (ta tb : TE) : TE := fun σ H Q => ta σ H fun x H1 => ∃ c, x = .bl c ∧ if c = true then Q (.bl true) H1 else tb σ H1 Q
theorem pe_one {op} {t : TE} (h : PE X a t) : PE X (.BoolOp op [a] pos) t := fun pins s σ H Q I hw => BoolOp_one (h pins s σ H Q I hw)
theorem pe_and (ha : PE X a ta) (hb : PE X (.BoolOp .And (b :: rest) pos) tb) : PE X (.BoolOp .And (a :: b :: rest) pos) (tAndV ta tb) := by
 intro pins s σ H Q I h
 refine BoolOp_and (thn (ha pins s σ H _ I h) fun v s1 ⟨x, H1, I1, r1, q1⟩ => ?_)
 obtain ⟨c, rfl, q1⟩ := q1
 cases r1
 refine wpAny_truthy_bool ?_
 cases c with
 | true => exact hb pins s1 σ H1 Q I1 q1
 | false => exact ⟨.bl false, H1, I1, rfl, q1⟩
theorem pe_or (ha : PE X a ta) (hb : PE X (.BoolOp .Or (b :: rest) pos) tb) : PE X (.BoolOp .Or (a :: b :: rest) pos) (tOrV ta tb) := by
 intro pins s σ H Q I h
 refine BoolOp_or (thn (ha pins s σ H _ I h) fun v s1 ⟨x, H1, I1, r1, q1⟩ => ?_)
 obtain ⟨c, rfl, q1⟩ := q1
 cases r1
 refine wpAny_truthy_bool ?_
 cases c with
 | false => exact hb pins s1 σ H1 Q I1 q1
 | true => exact ⟨.bl true, H1, I1, rfl, q1⟩
def tIf (t : TT) (ta tb : TE) : TE := fun σ H Q => t σ H fun c H1 => if c = true then ta σ H1 Q else tb σ H1 Q
theorem zky {c : Expr} (hc : PT X c tA) (ha : PE X a ta) (hb : PE X b tb) : PE X (.IfExp c a b pos) (tIf tA ta tb) := by
 intro pins s σ H Q I h
 refine wpAny_IfExp (thn (hc pins s σ H _ I h) fun d s1 ⟨H1, I1, q1⟩ => ?_)
 cases d with
 | true => exact ha pins s1 σ H1 Q I1 q1
 | false => exact hb pins s1 σ H1 Q I1 q1
end
end L2
namespace L2
open PySem PySem.Spec PyProof.Rows
def SqL (K : PySem.W.Frag) (H : Hp) (a : Addr) (xs : List V) : Prop :=
 Rd H a (.lst xs) ∨
  ∃ (o : Obj) (its : Array Value) (n : Nat), K.lookup a = some o ∧ o.cls = .type "list" ∧ o.dict = none ∧ o.data = .seq its n ∧ its.size ≤ sizeLine ∧ Vals xs its.toList
def SqT (K : PySem.W.Frag) (H : Hp) (a : Addr) (xs : List V) : Prop :=
 Rd H a (.tup xs) ∨
  ∃ (o : Obj) (its : Array Value) (n : Nat), K.lookup a = some o ∧ o.cls = .type "tuple" ∧ o.data = .seq its n ∧ its.size ≤ sizeLine ∧ Vals xs its.toList
def absV : Value → Option V
 | .none => some .non
 | .bool b => some (.bl b)
 | .int i _ => some (.int i)
 | .str x _ => some (.str x)
 | .bytes b _ => some (.byt b)
 | .float b _ => some (.flt b)
 | .ref a => some (.ref a)
 | .type n => some (.ty n)
 | _ => none
theorem RelV.abs {x : V} {u : Value} (r : RelV x u) : absV u = some x := by
 cases x with
 | non => cases r; rfl
 | bl _ => cases r; rfl
 | int _ => obtain ⟨t, rfl⟩ := r; rfl
 | str _ => obtain ⟨t, rfl⟩ := r; rfl
 | byt _ => obtain ⟨t, rfl⟩ := r; rfl
 | flt _ => obtain ⟨t, rfl⟩ := r; rfl
 | ref _ => cases r; rfl
 | ty _ => cases r; rfl
theorem RelV.inj {x y : V} {u : Value} (r : RelV x u) (q : RelV y u) : x = y := Option.some.inj (r.abs.symm.trans q.abs)
theorem Vals.inj : ∀ {xs ys : List V} {us : List Value}, Vals xs us → Vals ys us → xs = ys
 | _, _, _, .nil, .nil => rfl
 | _, _, _, .cons r t, .cons r' t' => by rw [r.inj r', Vals.inj t t']
section
variable {X : Cx} {pins : List (Addr × Obj)} {σ : St} {H : Hp} {s : Shared} {a : Addr} {xs ys : List V}
theorem Inv.list (I : Inv X pins σ H s) (h : SqL X.K H a xs) : ∃ its : List Value, Vals xs its ∧ PlainL s.heap a its.toArray ∧ xs.length ≤ sizeLine := by
 rcases h with h | ⟨o, its, n, hk, hc, hd, hs, hz, r⟩
 ·obtain ⟨z, its, n, r, e⟩ := h.ok I.hok
  exact ⟨its, r, ⟨_, n, e, rfl, rfl, rfl⟩, z⟩
 ·refine ⟨its.toList, r, ⟨o, n, I.kIn a o hk, hc, hd, by simpa using hs⟩, ?_⟩
  have e := r.length
  simp only [Array.length_toList] at e
  omega
theorem Inv.tuple (I : Inv X pins σ H s) (h : SqT X.K H a xs) : ∃ its : List Value, Vals xs its ∧ IsTup s.heap a its.toArray ∧ xs.length ≤ sizeLine := by
 rcases h with h | ⟨o, its, n, hk, hc, hs, hz, r⟩
 ·obtain ⟨z, its, r, p⟩ := h.ok I.hok
  exact ⟨its, r, p, z⟩
 ·refine ⟨its.toList, r, ⟨o, I.kIn a o hk, hc, n, by simpa using hs⟩, ?_⟩
  have e := r.length
  simp only [Array.length_toList] at e
  omega
theorem Inv.list_inj (I : Inv X pins σ H s) (h : SqL X.K H a xs) (h' : SqL X.K H a ys) : xs = ys := by
 obtain ⟨its, r, ⟨o, n, e, _, _, d⟩, _⟩ := I.list h
 obtain ⟨its', r', ⟨o', n', e', _, _, d'⟩, _⟩ := I.list h'
 rw [e] at e'; cases e'
 rw [d] at d'
 injection d' with d1 _
 have : its = its' := by simpa using congrArg Array.toList d1
 subst this
 exact r.inj r'
theorem Inv.tuple_inj (I : Inv X pins σ H s) (h : SqT X.K H a xs) (h' : SqT X.K H a ys) : xs = ys := by
 obtain ⟨its, r, ⟨o, e, _, n, d⟩, _⟩ := I.tuple h
 obtain ⟨its', r', ⟨o', e', _, n', d'⟩, _⟩ := I.tuple h'
 rw [e] at e'; cases e'
 rw [d] at d'
 injection d' with d1 _
 have : its = its' := by simpa using congrArg Array.toList d1
 subst this
 exact r.inj r'
end
abbrev Cx.wish (X : Cx) (E : Value → Shared → Prop) : Cx := { X with xe := E }
abbrev Cx.nox (X : Cx) : Cx := X.wish fun _ _ => False
theorem Cx.Ok.wish {X : Cx} (ok : X.Ok) (E : Value → Shared → Prop) : (X.wish E).Ok :=
 ⟨ok.mod, ok.kind, ok.glob, ok.blt, ok.above, ok.inj, ok.has, ok.cab, ok.hd, ok.frames, ok.stk, ok.exf, ok.bs, ok.bsz, ok.noex, ok.exfs, ok.funs, ok.frf⟩
theorem Cx.Ok.unwish {X : Cx} {E : Value → Shared → Prop} (ok : (X.wish E).Ok) : X.Ok :=
 ⟨ok.mod, ok.kind, ok.glob, ok.blt, ok.above, ok.inj, ok.has, ok.cab, ok.hd, ok.frames, ok.stk, ok.exf, ok.bs, ok.bsz, ok.noex, ok.exfs, ok.funs, ok.frf⟩
section
variable {X : Cx} {pins : List (Addr × Obj)} {σ : St} {H : Hp} {s : Shared} {E : Value → Shared → Prop}
theorem Inv.wish (I : Inv X pins σ H s) (E : Value → Shared → Prop) : Inv (X.wish E) pins σ H s := ⟨I.ok.wish E, I.os, I.bare, I.base, I.loc, I.cell, I.free, I.freeC, I.pin, I.hok, I.len⟩
theorem Inv.unwish (I : Inv (X.wish E) pins σ H s) : Inv X pins σ H s := ⟨I.ok.unwish, I.os, I.bare, I.base, I.loc, I.cell, I.free, I.freeC, I.pin, I.hok, I.len⟩
theorem SP.unwish {D : Ends} {f : Flow} {s' : Shared} (h : SP (X.wish E) pins D f s') : SP X pins D f s' := by
 cases f with
 | next => obtain ⟨σ', H', I, q⟩ := h; exact ⟨σ', H', I.unwish, q⟩
 | brk => obtain ⟨σ', H', I, q⟩ := h; exact ⟨σ', H', I.unwish, q⟩
 | cont => obtain ⟨σ', H', I, q⟩ := h; exact ⟨σ', H', I.unwish, q⟩
 | ret u => obtain ⟨v, σ', H', I, r, q⟩ := h; exact ⟨v, σ', H', I.unwish, r, q⟩
theorem PSs.nox {st : List Stmt} {t : TS} (h : PSs X.nox st t) : PSs X st t := fun pins s σ H D I hw =>
 wpAny_mono (h pins s σ H D (I.wish _) hw) (fun _ _ q => q.unwish) fun _ _ z => False.elim z
end
section
variable {X : Cx} {st : Stmt} {rest : List Stmt} {t u : TS} {e : Expr} {te : TE} {pos : Pos}
def tNext : TS := fun D σ H => D.nx σ H
def tSeq (t u : TS) : TS := fun D σ H => t { D with nx := u D } σ H
theorem zmf : PSs X [] tNext := fun _ _ σ H _ I h => wpAny_execs_nil ⟨σ, H, I, h⟩
theorem zkc (h1 : PS X st t) (h2 : PSs X rest u) : PSs X (st :: rest) (tSeq t u) := by
  intro pins s σ H D I h
  refine wpAny_execs_cons (thn (h1 pins s σ H { D with nx := u D } I h) fun f s1 q => ?_)
  cases f with
  | next =>
    obtain ⟨σ', H', I', q⟩ := q
    exact h2 pins s1 σ' H' D I' q
  | ret v => exact q
  | brk => exact q
  | cont => exact q
theorem zmL (h1 : PS X st t) : PSs X [st] t := by
 intro pins s σ H D I h
 refine wpAny_execs_cons (thn (h1 pins s σ H D I h) fun f s1 q => ?_)
 cases f with
 | next => exact wpAny_execs_nil q
 | ret v => exact q
 | brk => exact q
 | cont => exact q
theorem Inv.quiet {pins : List (Addr × Obj)} {σ : St} {H : Hp} {s : Shared} (I : Inv X pins σ H s) : interactive X.env = false := by simp [interactive, I.ok.kind]
def tDrop (te : TE) : TS := fun D σ H => te σ H fun _ H1 => D.nx σ H1
theorem zfp (he : PE X e te) (hs : swapsWith e none pos.line X.env = pure false := by rfl) : PS X (.Expr e pos) (tDrop te) := by
 intro pins s σ H D I h
 exact wpAny_Expr_any (thn (he pins s σ H _ I h) fun v s1 ⟨x, H1, I1, r1, q1⟩ => ⟨σ, H1, I1, q1⟩) I.quiet hs
def tRet (te : TE) : TS := fun D σ H => te σ H D.rt
theorem zov (he : PE X e te) : PS X (.Return (some e) pos) (tRet te) := by
 intro pins s σ H D I h
 exact wpAny_Return_some (thn (he pins s σ H _ I h) fun v s1 ⟨x, H1, I1, r1, q1⟩ => ⟨x, σ, H1, I1, r1, q1⟩)
def tIfS (c : TT) (t u : TS) : TS := fun D σ H => c σ H fun b H1 => if b = true then t D σ H1 else u D σ H1
theorem ps_if {c : Expr} {a b : List Stmt} {tc : TT} (hc : PT X c tc) (ha : PSs X a t) (hb : PSs X b u) : PS X (.If c a b pos) (tIfS tc t u) := by
 intro pins s σ H D I h
 refine wpAny_If (thn (hc pins s σ H _ I h) fun d s1 ⟨H1, I1, q1⟩ => ?_)
 cases d with
 | true => exact ha pins s1 σ H1 D I1 q1
 | false => exact hb pins s1 σ H1 D I1 q1
end
abbrev TG := V → St → Hp → (St → Hp → Prop) → Prop
def PG (X : Cx) (target : Expr) (t : TG) : Prop :=
 ∀ (pins : List (Addr × Obj)) (s : Shared) (σ : St) (H : Hp) (v : V) (u : Value) (Q : St → Hp → Prop), Inv X pins σ H s → RelV v u → t v σ H Q →
  wpAny (model X.prog X.w) X.A (assign target X.env u) (fun _ s' => ∃ σ' H', Inv X pins σ' H' s' ∧ Q σ' H') X.xe s
section
variable {X : Cx} {pos : Pos}
def zkY (i : Nat) : TG := fun v σ H Q => Q (σ.set i (some v)) H
theorem zja {i : Nat} {x : Str} (hN : X.N.Nodup) (hi : X.N[i]? = some x) (hx : Loc X.env.scope x) (hf : X.fn x = true ∨ X.env.scope.names.lookup x = some .local := by first | exact .inl rfl | exact .inr rfl | assumption) : PG X (.Name x pos) (zkY i) := by
 intro pins s σ H v u Q I r h
 exact wpAny_assign_Name (zdm I hN hi hx r (fun s' I' => ⟨_, H, I', h⟩) hf)
def tAsg (te : TE) (g : TG) : TS := fun D σ H => te σ H fun x H1 => g x σ H1 D.nx
theorem zk1 {i : Nat} {x : Str} {e : Expr} {te : TE} {pos' : Pos} (hN : X.N.Nodup) (hi : X.N[i]? = some x) (hx : Loc X.env.scope x) (he : PE X e te) (hs : swapsWith e (some (.Name x pos')) pos.line X.env = pure false := by rfl) (hf : X.fn x = true ∨ X.env.scope.names.lookup x = some .local := by first | exact .inl rfl | exact .inr rfl | assumption) :
  PS X (.Assign [.Name x pos'] e pos) (tAsg te (zkY i)) := by
 intro pins s σ H D I h
 refine wpAny_Assign_Name (thn (he pins s σ H _ I h) fun v s1 ⟨y, H1, I1, r1, q1⟩ => ?_) hs
 exact zdm I1 hN hi hx r1 (fun s2 I2 => ⟨_, H1, I2, q1⟩) hf
end
section
variable {X : Cx} {pos : Pos}
def zlD (c : TT) (tb : TS) : TS := fun D σ H => ∃ W : Nat → St → Hp → Prop, (∃ m, W m σ H) ∧ ∀ m σ H, W m σ H →
 c σ H fun b H1 => if b = true then ∃ N : St → Hp → Prop, (∀ σ' H', N σ' H' → ∃ m', m' < m ∧ W m' σ' H') ∧ tb { D with nx := N, ct := N, bk := D.nx } σ H1 else D.nx σ H1
theorem zks {c : Expr} {body : List Stmt} {tc : TT} {tb : TS} (hp : PassesOwn (model X.prog X.w) X.A X.env X.xe) (hc : PT X c tc) (hb : PSs X body tb) : PS X (.While c body [] pos) (zlD tc tb) := by
  intro pins s σ H D I h
  obtain ⟨W, ⟨m0, w0⟩, turn⟩ := h
  refine wpAny_While (codeAny_whileLoop (fun n s' => ∃ σ' H', Inv X pins σ' H' s' ∧ W n σ' H') ?_ m0 ⟨σ, H, I, w0⟩)
  rintro n s1 ⟨σ1, H1, I1, w1⟩
  refine wpAny_passesOwn hp (thn (hc pins s1 σ1 H1 _ I1 (turn n σ1 H1 w1)) fun b s2 ⟨H2, I2, q2⟩ => ?_)
  cases b with
  | true =>
    obtain ⟨N, hN, q2⟩ := q2
    rw [if_pos rfl]
    refine wpAny_passesOwn hp (thn (hb pins s2 σ1 H2 _ I2 q2) fun f s3 q3 => ?_)
    cases f with
    | next =>
      obtain ⟨σ3, H3, I3, n3⟩ := q3
      obtain ⟨m', hm, w3⟩ := hN σ3 H3 n3
      exact ⟨m', hm, σ3, H3, I3, w3⟩
    | cont =>
      obtain ⟨σ3, H3, I3, n3⟩ := q3
      obtain ⟨m', hm, w3⟩ := hN σ3 H3 n3
      exact ⟨m', hm, σ3, H3, I3, w3⟩
    | brk => exact q3
    | ret v => exact q3
  | false =>
    rw [if_neg Bool.false_ne_true]
    exact wpAny_execs_nil ⟨σ1, H2, I2, q2⟩
end
structure It where
 go : Nat → Hp → Prop
 yld : Nat → Hp → V → Hp → Prop
 stop : Nat → Hp → Prop
def FpOk (X : Cx) (pins : List (Addr × Obj)) (H : Hp) (b : Addr) : Prop :=
 H b = none ∧ b ≠ X.env.locals ∧ b ∉ X.fs ∧ (b ∈ X.ex ∨ X.s₀.heap.objs.size ≤ b) ∧ (∀ x c, X.env.cells.lookup x = some c → c ≠ b) ∧ ∀ p ∈ X.pn ++ pins, p.1 ≠ b
theorem Inv.fpOk {X : Cx} {pins : List (Addr × Obj)} {σ : St} {H H' : Hp} {s : Shared} {b : Addr} (I : Inv X pins σ H s) (hb : s.heap.objs.size ≤ b) (hn : H' b = none) : FpOk X pins H' b := by
 refine ⟨hn, Nat.ne_of_gt (Nat.lt_of_lt_of_le I.lt hb), I.nofs hb, .inr (Nat.le_trans I.sz hb), fun x c e z => ?_, fun p hp z => ?_⟩
 ·obtain ⟨v, q⟩ := I.cell x c e
  exact absurd (Nat.lt_of_lt_of_le q.lt (by rw [z]; exact hb)) (Nat.lt_irrefl _)
 ·exact absurd (Nat.lt_of_lt_of_le (Heap.lt_size (I.pin p hp).1) (by rw [z]; exact hb)) (Nat.lt_irrefl _)
structure Turn (P : Program) (w : World) (K : PySem.W.Frag) (tg : Expr) (J : It) (fp : List Addr) (it : Addr) (tn : Nat → Heap → Prop) : Prop where
 mem : it ∈ fp
 obj : ∀ i h, tn i h → ∀ b ∈ fp, ∃ o, h.get? b = some o ∧ ∀ v, o.data ≠ .cell v
 keep : ∀ i h h', tn i h → (∀ b ∈ fp, ∀ o, h.get? b = some o → h'.get? b = some o) → tn i h'
 item : ∀ (X : Cx), X.prog = P → X.w = w → X.K = K → X.calm = true → ∀ (i : Nat) (pins : List (Addr × Obj)) (s : Shared) (σ : St) (H : Hp) (E : Value → Shared → Prop), Inv X pins σ H s → (∀ b ∈ fp, FpOk X pins H b) → tn i s.heap → J.go i H →
  wpAny (model P w) X.A (pyNext (.ref it)) (fun r s1 => ∃ u, r = some u ∧
   wpAny (model P w) X.A (letOwnedTupleGo tg (.ref it) u) (fun _ s2 => ∃ x H', Inv X pins σ H' s2 ∧ RelV x u ∧ J.yld i H x H' ∧ tn (i + 1) s2.heap ∧ ∀ b ∈ fp, H' b = none) E s1) E s
 done : ∀ (X : Cx), X.prog = P → X.w = w → X.K = K → X.calm = true → ∀ (i : Nat) (pins : List (Addr × Obj)) (s : Shared) (σ : St) (H : Hp) (E : Value → Shared → Prop), Inv X pins σ H s → (∀ b ∈ fp, FpOk X pins H b) → tn i s.heap → J.stop i H →
  wpAny (model P w) X.A (pyNext (.ref it)) (fun r s1 => r = none ∧ Inv X pins σ H s1) E s
 self : ∀ (A : Around) (i : Nat) (s : Shared) (Q : Value → Shared → Prop) (E : Value → Shared → Prop), tn i s.heap → Q (.ref it) s → wpAny (model P w) A (pyIter (.ref it)) Q E s
abbrev TI := St → Hp → (It → Hp → Prop) → Prop
def PIE (X : Cx) (pins : List (Addr × Obj)) (σ : St) (tg : Expr) (R : It → Hp → Prop) (itv : Value) (s2 : Shared) : Prop :=
 ∃ (it : Addr) (fp : List Addr) (tn : Nat → Heap → Prop) (J : It) (H' : Hp), itv = .ref it ∧ Inv X pins σ H' s2 ∧ Turn X.prog X.w X.K tg J fp it tn ∧ tn 0 s2.heap ∧ (∀ b ∈ fp, FpOk X pins H' b) ∧ R J H'
def PI (X : Cx) (tg iter : Expr) (wi : TI) : Prop :=
 ∀ (pins : List (Addr × Obj)) (s : Shared) (σ : St) (H : Hp) (R : It → Hp → Prop), Inv X pins σ H s → wi σ H R →
  wpAny (model X.prog X.w) X.A (eval iter X.env) (fun v s1 => wpAny (model X.prog X.w) X.A (pyIter v) (PIE X pins σ tg R) X.xe s1) X.xe s
theorem zkR {M : Model} {A : Around} {E : Value → Shared → Prop} {s : Shared} {tg : Expr} {it : Addr} {u : Value} {o : Obj} {n : String} {vs : Array Value} {Q : Unit → Shared → Prop} (ho : s.heap.get? it = some o) (hc : o.cls = .type n) (hd : o.data = .fields vs)
    (hn : ["enumerate", "zip", "dict_itemiterator", "dict_reverseitemiterator", "odict_iterator", "itertools.zip_longest", "itertools.pairwise"].contains n = false) (hQ : Q () s) : wpAny M A (letOwnedTupleGo tg (.ref it) u) Q E s := by
  unfold letOwnedTupleGo
  cases tg <;> first
    | exact wpAny_pure hQ
    | (cases u <;> first
        | exact wpAny_pure hQ
        | (refine wpAny_bind (wpAny_load ho ?_)
           rw [hc, hd]
           show wpAny M A (if (["enumerate", "zip", "dict_itemiterator", "dict_reverseitemiterator", "odict_iterator", "itertools.zip_longest", "itertools.pairwise"].contains n && vs[0]? == some (rawInt _)) = true then _ else _) Q E s
           rw [if_neg (by intro h; rw [hn, Bool.false_and] at h; cases h)]
           exact wpAny_pure hQ))
def Itl (K : PySem.W.Frag) (a : Addr) : It :=
 ⟨fun i H => ∃ xs x, SqL K H a xs ∧ xs[i]? = some x, fun i H x H' => H' = H ∧ ∀ xs, SqL K H a xs → xs[i]? = some x, fun i H => ∃ xs, SqL K H a xs ∧ xs.length ≤ i⟩
def Itr (lo : Int) (n : Nat) : It := ⟨fun i _ => i < n, fun i H x H' => H' = H ∧ x = .int (lo + i), fun i _ => n ≤ i⟩
theorem ziV {P : Program} {w : World} {K : PySem.W.Frag} {tg : Expr} (a it : Addr) : Turn P w K tg (Itl K a) [it] it (fun i h => h.IsListIter it a i) where
 mem := by simp
 obj := fun i h st b hb => by
  have e : b = it := by simpa using hb
  subst e
  obtain ⟨o, e, c, d⟩ := st
  exact ⟨o, e, fun v z => by rw [d] at z; cases z⟩
 keep := fun i h h' st k => st.at fun o e => k it (by simp) o e
 item := by
  intro X hP hw hK hc i pins s σ H E I hf st hg
  subst hP hw hK
  obtain ⟨xs, x, hq, hx⟩ := hg
  obtain ⟨its, rv, p, hz⟩ := I.list hq
  obtain ⟨u, hu, ru⟩ := rv.get hx
  obtain ⟨f0, f1, f2, f3, f4, f5⟩ := hf it (by simp)
  refine wpAny_pyNext_list_item st p.isList (x := u) (by simpa using hu) fun h' st' sb => ?_
  have I1 : Inv X pins σ H { s with heap := h' } := I.turned (t' := s.toks) (fun b o hb e => (sb.2 b hb).trans e) f0 f1 f3 f4 f5
  obtain ⟨o, e, c, d⟩ := id st'
  exact ⟨u, rfl, zkR (s := { s with heap := h' }) e c d (by decide) ⟨x, H, I1, ru, ⟨rfl, fun ys hy => by rw [I.list_inj hy hq]; exact hx⟩, st', fun b hb => (hf b hb).1⟩⟩
 done := by
  intro X hP hw hK hc i pins s σ H E I hf st hg
  subst hP hw hK
  obtain ⟨xs, hq, hx⟩ := hg
  obtain ⟨its, rv, p, hz⟩ := I.list hq
  obtain ⟨f0, f1, f2, f3, f4, f5⟩ := hf it (by simp)
  have hl := rv.length
  exact wpAny_pyNext_list_end (I.ok.hd hc) st p.isList (by simp; omega) fun h' eb => ⟨rfl, I.turned (t' := s.toks) (fun b o hb e => eb b o hb e) f0 f1 f3 f4 f5⟩
 self := fun _ _ _ _ _ st h => wpAny_pyIter_listiter st h
theorem zik {P : Program} {w : World} {K : PySem.W.Frag} {tg : Expr} (it : Addr) (lo : Int) (n : Nat) : Turn P w K tg (Itr lo n) [it] it (fun i h => IsRangeIter h it (lo + (i : Nat) * 1) ((n : Int) - (i : Nat)) 1) where
 mem := by simp
 obj := fun i h st b hb => by
  have e : b = it := by simpa using hb
  subst e
  exact ⟨_, st, fun v z => by
   have z' : Data.fields _ = Data.cell v := z
   cases z'⟩
 keep := fun i h h' st k => k it (by simp) _ st
 item := by
  intro X hP hw hK hc i pins s σ H E I hf st hg
  subst hP hw hK
  obtain ⟨f0, f1, f2, f3, f4, f5⟩ := hf it (by simp)
  have W := Walks.range (prog := X.prog) (w := X.w) (I.ok.hd hc) it lo 1 n
  refine W.item i s _ _ hg st fun v h' tk hv st' kk => ?_
  obtain ⟨t, rfl⟩ := hv
  have I1 : Inv X pins σ H { s with heap := h', toks := tk } := I.turned (fun b o hb e => kk b o (by simpa using hb) e) f0 f1 f3 f4 f5
  refine ⟨_, rfl, zkR (s := { s with heap := h', toks := tk }) (n := "range_iterator") st' rfl rfl (by decide) ⟨.int (lo + i), H, I1, ⟨t, ?_⟩, ⟨rfl, rfl⟩, st', fun b hb => (hf b hb).1⟩⟩
  rw [Int.mul_one]
 done := by
  intro X hP hw hK hc i pins s σ H E I hf st hg
  subst hP hw hK
  obtain ⟨f0, f1, f2, f3, f4, f5⟩ := hf it (by simp)
  exact wpAny_pyNext_range_end (I.ok.hd hc) st (by have : n ≤ i := hg; omega) fun h' eb => ⟨rfl, I.turned (t' := s.toks) (fun b o hb e => eb b o hb e) f0 f1 f3 f4 f5⟩
 self := fun _ _ _ _ _ st h => wpAny_pyIter_rangeiter st h
end L2
namespace L2
open PySem PySem.Spec PyProof.Rows
section
variable {X : Cx} {tg : Expr}
def iList (K : PySem.W.Frag) (tl : TE) : TI := fun σ H R => tl σ H fun x H1 => ∃ a, x = .ref a ∧ (∃ xs, SqL K H1 a xs) ∧ R (Itl K a) H1
theorem zl3 {l : Expr} {tl : TE} (hl : PE X l tl) : PI X tg l (iList X.K tl) := by
 intro pins s σ H R I h
 refine thn (hl pins s σ H _ I h) fun v s1 ⟨x, H1, I1, r1, q1⟩ => ?_
 obtain ⟨a, e, ⟨xs, hq⟩, q⟩ := q1
 subst e
 cases r1
 obtain ⟨its, rv, p, hz⟩ := I1.list hq
 refine wpAny_pyIter_list p.isList ?_
 refine ⟨s1.heap.objs.size, [s1.heap.objs.size], _, _, H1, rfl, I1.kept (t' := s1.toks) fun b o e => Heap.get?_push_of_some _ e, ziV a _, ⟨_, Heap.get?_push_size _ rfl, rfl, rfl⟩, fun b hb => ?_, q⟩
 have e : b = s1.heap.objs.size := by simpa using hb
 subst e
 exact I1.fpOk (Nat.le_refl _) (I1.hok.fresh (Nat.le_refl _))
theorem zkq {pins : List (Addr × Obj)} {σ : St} {H : Hp} {s : Shared} {R : It → Hp → Prop} {E : Value → Shared → Prop} {lo hi : Int} {t u v : Tok} {tk : Nat} (I : Inv X pins σ H s) (h1 : -(2 ^ 62) ≤ lo) (h2 : lo < 2 ^ 62) (h3 : -(2 ^ 62) ≤ hi) (h4 : hi < 2 ^ 62)
  (q : R (Itr lo (hi - lo).toNat) H) : wpAny (model X.prog X.w) X.A (pyIter (.ref s.heap.objs.size)) (PIE X pins σ tg R) E { s with heap := s.heap.push { cls := .type "range", data := .fields #[.int lo t, .int hi u, .int 1 v] }, toks := tk } := by
 refine wpAny_pyIter_range (IsRange.new ..) (small_one h1 h2 h3 h4) ?_
 have I1 : Inv X pins σ H { s with heap := s.heap.push { cls := .type "range", data := .fields #[.int lo t, .int hi u, .int 1 v] }, toks := tk } := I.kept fun b o e => Heap.get?_push_of_some _ e
 refine ⟨(s.heap.push { cls := .type "range", data := .fields #[.int lo t, .int hi u, .int 1 v] }).objs.size, [(s.heap.push { cls := .type "range", data := .fields #[.int lo t, .int hi u, .int 1 v] }).objs.size], _, _, H, rfl,
  I1.kept (t' := tk) fun b o e => Heap.get?_push_of_some _ e, zik _ lo (hi - lo).toNat, ?_, fun b hb => ?_, q⟩
 ·have e1 : lo + ((0 : Nat) : Int) * 1 = lo := by simp
  have e2 : (((hi - lo).toNat : Nat) : Int) - ((0 : Nat) : Int) = Builtin.Range.rangeSize lo hi 1 := by rw [rangeSize_one]; split <;> omega
  show IsRangeIter _ _ (lo + ((0 : Nat) : Int) * 1) ((((hi - lo).toNat : Nat) : Int) - ((0 : Nat) : Int)) 1
  rw [e1, e2]
  exact Heap.get?_push_size _ rfl
 ·have e : b = (s.heap.push { cls := .type "range", data := .fields #[.int lo t, .int hi u, .int 1 v] }).objs.size := by simpa using hb
  subst e
  exact I1.fpOk (Nat.le_refl _) (I1.hok.fresh (Nat.le_refl _))
def zfw (ta : TA) : TI := fun σ H R => ta σ H fun vs H1 => ∃ j : Int, vs = [.int j] ∧ -(2 ^ 62) ≤ j ∧ j < 2 ^ 62 ∧ R (Itr 0 j.toNat) H1
theorem zjS {a : Expr} {ta : TA} {p pos : Pos} (hg : Gl X "range") (hm : X.mg "range" = none) (ha : PA X [a] ta) (hs : starEach [a] X.env = [(false, eval a X.env)] := by rfl) : PI X tg (.Call (.Name "range" p) [a] [] pos) (zfw ta) := by
  intro pins s σ H R I h
  refine Call_ (zfV I hg hm boot_range (PyProof.Rows.callWith_type1 (thn (ha pos pins s σ H _ I h) fun us s1 ⟨vs, H1, I1, r1, q1⟩ => ?_) hs rfl))
  obtain ⟨j, e, q1, q2, q⟩ := q1
  subst e
  cases r1 with
  | cons r rr =>
    cases rr
    obtain ⟨t, rfl⟩ := r
    exact call_range_1 (zkq I1 (by omega) (by omega) q1 q2 (by simpa using q))
def tFor (wi : TI) (g : TG) (tb : TS) : TS := fun D σ H => wi σ H fun J H1 => ∃ W : Nat → Nat → St → Hp → Prop, (∃ m, W 0 m σ H1) ∧ ∀ i m σ H, W i m σ H →
 (J.stop i H ∧ D.nx σ H) ∨ (J.go i H ∧ ∃ N : St → Hp → Prop, (∀ σ' H', N σ' H' → ∃ m', m' < m ∧ W (i + 1) m' σ' H') ∧ ∀ x H', J.yld i H x H' → g x σ H' fun σ2 H2 => tb { D with nx := N, ct := N, bk := D.nx } σ2 H2)
def zg8 (fp : List Addr) (h : Heap) : List (Addr × Obj) := fp.filterMap fun b => (h.get? b).map fun o => (b, o)
theorem zdk {fp : List Addr} {h : Heap} {b : Addr} {o : Obj} (hb : b ∈ fp) (e : h.get? b = some o) : (b, o) ∈ zg8 fp h := List.mem_filterMap.mpr ⟨b, hb, by rw [e]; rfl⟩
theorem zka {fp : List Addr} {h : Heap} {p : Addr × Obj} (hp : p ∈ zg8 fp h) : p.1 ∈ fp ∧ h.get? p.1 = some p.2 := by
  obtain ⟨b, hb, e⟩ := List.mem_filterMap.mp hp
  cases q : h.get? b with
  | none => rw [q] at e; cases e
  | some o =>
    rw [q] at e
    have e' : (b, o) = p := Option.some.inj e
    subst e'
    exact ⟨hb, q⟩
theorem Inv.pinned {pins : List (Addr × Obj)} {σ : St} {H : Hp} {s : Shared} {fp : List Addr} (I : Inv X pins σ H s) (hf : ∀ b ∈ fp, FpOk X pins H b) (ho : ∀ b ∈ fp, ∃ o, s.heap.get? b = some o ∧ ∀ v, o.data ≠ .cell v) : Inv X (pins ++ zg8 fp s.heap) σ H s :=
 I.pins_of fun p hp => (List.mem_append.mp hp).elim (fun z => I.pin p (List.mem_append_right _ z)) fun z => by
  obtain ⟨hb, e⟩ := zka z
  obtain ⟨f0, f1, f2, _⟩ := hf p.1 hb
  obtain ⟨o, e', d⟩ := ho p.1 hb
  rw [e] at e'; cases e'
  exact ⟨e, f0, f1, f2, d⟩
theorem Inv.unpinned {pins pl : List (Addr × Obj)} {σ : St} {H : Hp} {s : Shared} (I : Inv X (pins ++ pl) σ H s) : Inv X pins σ H s := I.pins_of fun p hp => I.pin p (List.mem_append_right _ (List.mem_append_left _ hp))
theorem zlc {iter : Expr} {body : List Stmt} {wi : TI} {g : TG} {tb : TS} {pos : Pos} (hp : PassesOwn (model X.prog X.w) X.A X.env X.xe) (hc : X.calm = true) (hi : PI X tg iter wi) (hg : PG X tg g) (hb : PSs X body tb)
  (hs : ∀ x, foldedSetIterable iter X.env x = pure x := by intro _; rfl) : PS X (.For tg iter body [] pos) (tFor wi g tb) := by
 intro pins s σ H D I h
 refine wpAny_For (thn (hi pins s σ H _ I h) fun v s1 h1 => thn h1 fun itv s2 h2 => ?_) hs
 obtain ⟨it, fp, tn, J, H2, e, I2, T, st2, f2, W, ⟨m0, w0⟩, turn⟩ := h2
 subst e
 -- what stays true of the iterator's objects through the loop
 have stat : ∀ {H' : Hp}, (∀ b ∈ fp, H' b = none) → ∀ b ∈ fp, FpOk X pins H' b := fun hn b hb => ⟨hn b hb, (f2 b hb).2⟩
 refine codeAny_forLoop_any (fun n s' => ∃ i σ' H', Inv X pins σ' H' s' ∧ tn i s'.heap ∧ (∀ b ∈ fp, H' b = none) ∧ W i n σ' H') ?_ m0 ⟨0, σ, H2, I2, st2, fun b hb => (f2 b hb).1, w0⟩
 rintro n s3 ⟨i, σ3, H3, I3, st3, fr3, w3⟩
 rcases turn i n σ3 H3 w3 with ⟨stop, qn⟩ | ⟨go, N, hN, step⟩
 ·refine wpAny_passesOwn hp (thn (T.done X rfl rfl rfl hc i pins s3 σ3 H3 X.xe I3 (stat fr3) st3 stop) fun r s4 ⟨hr, I4⟩ => ?_)
  subst hr
  exact wpAny_execs_nil ⟨σ3, H3, I4, qn⟩
 ·refine wpAny_passesOwn hp (thn (T.item X rfl rfl rfl hc i pins s3 σ3 H3 X.xe I3 (stat fr3) st3 go) fun r s4 ⟨u, hr, h4⟩ => ?_)
  subst hr
  refine wpAny_passesOwn hp (thn h4 fun _ s5 ⟨x, H5, I5, r5, y5, st5, fr5⟩ => ?_)
  have I5' := I5.pinned (stat fr5) (T.obj _ _ st5)
  refine wpAny_passesOwn hp (thn (hg _ s5 σ3 H5 x u _ I5' r5 (step x H5 y5)) fun _ s6 ⟨σ6, H6, I6, q6⟩ => ?_)
  refine wpAny_passesOwn hp (thn (hb _ s6 σ6 H6 _ I6 q6) fun f s7 q7 => ?_)
  have again : ∀ {σ7 : St} {H7 : Hp}, Inv X (pins ++ zg8 fp s5.heap) σ7 H7 s7 → N σ7 H7 → ∃ m, m < n ∧ ∃ i σ' H', Inv X pins σ' H' s7 ∧ tn i s7.heap ∧ (∀ b ∈ fp, H' b = none) ∧ W i m σ' H' := fun {σ7 H7} I7 n7 => by
   obtain ⟨m', hm, w7⟩ := hN σ7 H7 n7
   refine ⟨m', hm, i + 1, σ7, H7, I7.unpinned, T.keep _ _ _ st5 fun b hb o e => (I7.pin (b, o) (List.mem_append_right _ (List.mem_append_right _ (zdk hb e)))).1, fun b hb => ?_, w7⟩
   obtain ⟨o, e, d⟩ := T.obj _ _ st5 b hb
   exact (I7.pin (b, o) (List.mem_append_right _ (List.mem_append_right _ (zdk hb e)))).2.1
  cases f with
  | next => obtain ⟨σ7, H7, I7, n7⟩ := q7; exact again I7 n7
  | cont => obtain ⟨σ7, H7, I7, n7⟩ := q7; exact again I7 n7
  | brk => obtain ⟨σ7, H7, I7, q7⟩ := q7; exact ⟨σ7, H7, I7.unpinned, q7⟩
  | ret v => obtain ⟨x7, σ7, H7, I7, r7, q7⟩ := q7; exact ⟨x7, σ7, H7, I7.unpinned, r7, q7⟩
end
theorem zfZ {c : TT} {tb : TS} {D : Ends} {σ : St} {H : Hp} (Pv : St → Hp → Prop) (μ : St → Hp → Nat) (h0 : Pv σ H)
  (hs : ∀ σ H, Pv σ H → c σ H fun b H1 => if b = true then tb { D with nx := fun σ' H' => Pv σ' H' ∧ μ σ' H' < μ σ H, ct := fun σ' H' => Pv σ' H' ∧ μ σ' H' < μ σ H, bk := D.nx } σ H1 else D.nx σ H1)
  (mono : ∀ σ H Q Q', (∀ b H1, Q b H1 → Q' b H1) → c σ H Q → c σ H Q') : zlD c tb D σ H := by
 refine ⟨fun m σ H => m = μ σ H ∧ Pv σ H, ⟨_, rfl, h0⟩, ?_⟩
 rintro m σ H ⟨rfl, p⟩
 refine mono σ H _ _ (fun b H1 q => ?_) (hs σ H p)
 cases b with
 | true => exact ⟨_, fun σ' H' ⟨p', l⟩ => ⟨_, l, rfl, p'⟩, q⟩
 | false => exact q
end L2
namespace L2
open PySem PySem.Spec PyProof.Rows
abbrev R2 := V → V → Hp → VK → Prop
def OpR (X : Cx) (f : Value → Value → Sem Value) (r : R2) : Prop :=
 ∀ (pins : List (Addr × Obj)) (s : Shared) (σ : St) (H : Hp) (x y : V) (v u : Value) (Q : VK), Inv X pins σ H s → RelV x v → RelV y u → r x y H Q →
  wpAny (model X.prog X.w) X.A (f v u) (EP X pins σ Q) X.xe s
def UnR (X : Cx) (f : Value → Sem Value) (r : V → Hp → VK → Prop) : Prop :=
 ∀ (pins : List (Addr × Obj)) (s : Shared) (σ : St) (H : Hp) (x : V) (v : Value) (Q : VK), Inv X pins σ H s → RelV x v → r x H Q →
  wpAny (model X.prog X.w) X.A (f v) (EP X pins σ Q) X.xe s
def zcO (X : Cx) (f : Value) (r : List V → Hp → VK → Prop) : Prop :=
 ∀ (pins : List (Addr × Obj)) (s : Shared) (σ : St) (H : Hp) (xs : List V) (us : List Value) (Q : VK), Inv X pins σ H s → Vals xs us → r xs H Q →
  wpAny (model X.prog X.w) X.A (call f us) (EP X pins σ Q) X.xe s
def TruR (X : Cx) (r : V → Hp → (Bool → Hp → Prop) → Prop) : Prop :=
 ∀ (pins : List (Addr × Obj)) (s : Shared) (σ : St) (H : Hp) (x : V) (v : Value) (Q : Bool → Hp → Prop), Inv X pins σ H s → RelV x v → r x H Q →
  wpAny (model X.prog X.w) X.A (truthy v) (TP X pins σ Q) X.xe s
def tOp (r : R2) (ta tb : TE) : TE := fun σ H Q => ta σ H fun x H1 => tb σ H1 fun y H2 => r x y H2 Q
def tUn (r : V → Hp → VK → Prop) (ta : TE) : TE := fun σ H Q => ta σ H fun x H1 => r x H1 Q
def rI (C : Int → Int → Prop) (g : Int → Int → V) : R2 := fun x y H Q => ∃ i j, x = .int i ∧ y = .int j ∧ C i j ∧ Q (g i j) H
def rI0 (g : Int → Int → V) : R2 := fun x y H Q => ∃ i j, x = .int i ∧ y = .int j ∧ Q (g i j) H
def rU (g : Int → V) : V → Hp → VK → Prop := fun x H Q => ∃ i, x = .int i ∧ Q (g i) H
section
variable {X : Cx} {a b c : Expr} {ta tb tc : TE} {pos : Pos}
theorem binT (ha : PE X a ta) (hb : PE X b tb) {pins : List (Addr × Obj)} {s : Shared} {σ : St} {H : Hp} {R : V → V → Hp → Prop} (I : Inv X pins σ H s)
  (h : ta σ H fun x H1 => tb σ H1 fun y H2 => R x y H2) {Q : Value → Shared → Prop} {f : Value → Value → Sem Value}
  (hf : ∀ v u s2 x y H2, Inv X pins σ H2 s2 → RelV x v → RelV y u → R x y H2 → wpAny (model X.prog X.w) X.A (f v u) Q X.xe s2) :
  wpAny (model X.prog X.w) X.A (eval a X.env) (fun v s₁ => wpAny (model X.prog X.w) X.A (eval b X.env) (fun u s₂ => wpAny (model X.prog X.w) X.A (f v u) Q X.xe s₂) X.xe s₁) X.xe s := by
 refine thn (ha pins s σ H _ I h) fun v s1 ⟨x, H1, I1, r1, q1⟩ => ?_
 refine thn (hb pins s1 σ H1 _ I1 q1) fun u s2 ⟨y, H2, I2, r2, q2⟩ => ?_
 exact hf v u s2 x y H2 I2 r1 r2 q2
theorem zoB {op : Operator} {r : R2} (ho : OpR X (binaryOp op) r) (ha : PE X a ta) (hb : PE X b tb) : PE X (.BinOp a op b pos) (tOp r ta tb) := by
 intro pins s σ H Q I h
 exact wpAny_BinOp (binT ha hb I h fun v u s2 x y H2 I2 rx ry q => ho pins s2 σ H2 x y v u Q I2 rx ry q)
theorem pe_un {op : UnaryOp} {r : V → Hp → VK → Prop} (ho : UnR X (unaryOp op) r) (ha : PE X a ta) : PE X (.UnaryOp op a pos) (tUn r ta) := by
 intro pins s σ H Q I h
 exact UnaryOp_ (thn (ha pins s σ H _ I h) fun v s1 ⟨x, H1, I1, r1, q1⟩ => ho pins s1 σ H1 x v Q I1 r1 q1)
theorem opI {f : Value → Value → Sem Value} {C : Int → Int → Prop} {g : Int → Int → Int}
  (rule : ∀ (i j : Int) (t u : Tok) (s : Shared) (Q : Value → Shared → Prop) (E : Value → Shared → Prop), C i j → Q (.int (g i j) s.toks) { s with toks := s.toks + 1 } → wpAny (model X.prog X.w) X.A (f (.int i t) (.int j u)) Q E s) :
  OpR X f (rI C fun i j => .int (g i j)) := by
 intro pins s σ H x y v u Q I rx ry h
 obtain ⟨i, j, rfl, rfl, hc, q⟩ := h
 obtain ⟨t, rfl⟩ := rx
 obtain ⟨t', rfl⟩ := ry
 exact rule i j t t' s _ _ hc ⟨.int (g i j), H, I.tok _, ⟨_, rfl⟩, q⟩
theorem opI0 {f : Value → Value → Sem Value} {g : Int → Int → Int}
  (rule : ∀ (i j : Int) (t u : Tok) (s : Shared) (Q : Value → Shared → Prop) (E : Value → Shared → Prop), Q (.int (g i j) s.toks) { s with toks := s.toks + 1 } → wpAny (model X.prog X.w) X.A (f (.int i t) (.int j u)) Q E s) :
  OpR X f (rI0 fun i j => .int (g i j)) := by
 intro pins s σ H x y v u Q I rx ry h
 obtain ⟨i, j, rfl, rfl, q⟩ := h
 obtain ⟨t, rfl⟩ := rx
 obtain ⟨t', rfl⟩ := ry
 exact rule i j t t' s _ _ ⟨.int (g i j), H, I.tok _, ⟨_, rfl⟩, q⟩
theorem opB0 {f : Value → Value → Sem Value} {g : Int → Int → Bool}
  (rule : ∀ (i j : Int) (t u : Tok) (s : Shared) (Q : Value → Shared → Prop) (E : Value → Shared → Prop), Q (.bool (g i j)) s → wpAny (model X.prog X.w) X.A (f (.int i t) (.int j u)) Q E s) :
  OpR X f (rI0 fun i j => .bl (g i j)) := by
 intro pins s σ H x y v u Q I rx ry h
 obtain ⟨i, j, rfl, rfl, q⟩ := h
 obtain ⟨t, rfl⟩ := rx
 obtain ⟨t', rfl⟩ := ry
 exact rule i j t t' s _ _ ⟨.bl (g i j), H, I, rfl, q⟩
def CDiv (i j : Int) : Prop := 0 < j ∧ j < 1073741824
def CPow (i j : Int) : Prop := 0 ≤ j ∧ j ≤ 1000000 ∧ i.natAbs < 2 ^ 64
def CMul (i j : Int) : Prop := (-(2 ^ 64) < i ∧ i < 2 ^ 64) ∨ (-(2 ^ 64) < j ∧ j < 2 ^ 64)
theorem CMul.ok {i j : Int} (h : CMul i j) : IntMulOk i j := by
 rcases h with ⟨h1, h2⟩ | ⟨h1, h2⟩
 ·exact .of_left (intBits_le_64 h1 h2)
 ·exact .of_right (intBits_le_64 h1 h2)
theorem op_add : OpR X (binaryOp .Add) (rI0 fun i j => .int (i + j)) := opI0 fun _ _ _ _ _ _ _ q => add_int q
theorem zdV : OpR X (binaryOp .Sub) (rI0 fun i j => .int (i - j)) := opI0 fun _ _ _ _ _ _ _ q => sub_int q
theorem zb6 : OpR X (binaryOp .FloorDiv) (rI CDiv fun i j => .int (i / j)) := opI fun i j _ _ _ _ _ hc q => by
 have h1 : (0 : Int) < j := hc.1
 have h2 : j < 1073741824 := hc.2
 exact floordiv_int (by omega) (by rw [Int.fdiv_eq_ediv_of_nonneg i (by omega)]; exact q) (.inl (PyProof.noPylong_small (by omega)))
theorem zbe : OpR X (binaryOp .Mod) (rI (fun _ j => 0 < j) fun i j => .int (i % j)) := opI fun i j _ _ _ _ _ hc q => by
 have h1 : (0 : Int) < j := hc
 exact mod_int' (by omega) (by rw [Int.fmod_eq_emod_of_nonneg i (by omega)]; exact q)
theorem zfJ : OpR X (binaryOp .Pow) (rI CPow fun i j => .int (i ^ j.toNat)) := opI fun _ _ _ _ _ _ _ hc q => pow_int_small hc.1 hc.2.1 hc.2.2 q
theorem unI {f : Value → Sem Value} {g : Int → Int}
  (rule : ∀ (i : Int) (t : Tok) (s : Shared) (Q : Value → Shared → Prop) (E : Value → Shared → Prop), Q (.int (g i) s.toks) { s with toks := s.toks + 1 } → wpAny (model X.prog X.w) X.A (f (.int i t)) Q E s) :
  UnR X f (rU fun i => .int (g i)) := by
 intro pins s σ H x v Q I rx h
 obtain ⟨i, rfl, q⟩ := h
 obtain ⟨t, rfl⟩ := rx
 exact rule i t s _ _ ⟨.int (g i), H, I.tok _, ⟨_, rfl⟩, q⟩
theorem znI : UnR X (unaryOp .USub) (rU fun i => .int (-i)) := unI fun _ _ _ _ _ q => neg_int q
end
def scal : V → V → Bool
 | .non, .non => true | .non, .int _ => true | .int _, .non => true | .non, .bl _ => true | .bl _, .non => true | .non, .str _ => true | .str _, .non => true
 | .int _, .int _ => true | .bl _, .bl _ => true | .str _, .str _ => true | .byt _, .byt _ => true
 | .int _, .str _ => true | .str _, .int _ => true | .bl _, .str _ => true | .str _, .bl _ => true
 | _, _ => false
def rEq : R2 := fun x y H Q => scal x y = true ∧ Q (.bl (decide (x = y))) H
def rNe : R2 := fun x y H Q => scal x y = true ∧ Q (.bl (!decide (x = y))) H
theorem ziU {i j : Int} : decide (V.int i = V.int j) = (i == j) := by
 rw [Bool.eq_iff_iff]
 simp
theorem zh1 {i j : Bool} : decide (V.bl i = V.bl j) = (i == j) := by
 rw [Bool.eq_iff_iff]
 simp
theorem zi1 {i j : Str} : decide (V.str i = V.str j) = (i == j) := by
 rw [Bool.eq_iff_iff]
 simp
theorem zi6 {i j : Array UInt8} : decide (V.byt i = V.byt j) = (i.toList == j.toList) := by
 rw [Bool.eq_iff_iff]
 cases i
 cases j
 simp
section
variable {X : Cx} {a b c : Expr} {ta tb tc : TE} {pos : Pos}
theorem zas {pins : List (Addr × Obj)} {σ : St} {H : Hp} {s : Shared} {Q : VK} {k k' : Bool} (I : Inv X pins σ H s) (q : Q (.bl k) H) (e : k = k') : EP X pins σ Q (.bool k') s := by
 subst e
 exact ⟨.bl k, H, I, rfl, q⟩
theorem op_eq : OpR X (compareOp .Eq) rEq := by
  intro pins s σ H x y v u Q I rx ry h
  obtain ⟨hs, q⟩ := h
  cases x with
  | non =>
    cases rx
    cases y with
    | non => cases ry; exact PySem.EqNone.eq_none_none (zas I q (by simp))
    | bl j => cases ry; exact PySem.EqNone.eq_none_bool (zas I q (by simp))
    | int j => obtain ⟨t', rfl⟩ := ry; exact PySem.EqNone.eq_none_int (zas I q (by simp))
    | str j => obtain ⟨t', rfl⟩ := ry; exact PySem.EqNone.eq_none_str (zas I q (by simp))
    | _ => exact absurd (show false = true from hs) Bool.false_ne_true
  | bl i =>
    cases rx
    cases y with
    | non => cases ry; exact PySem.EqNone.eq_bool_none (zas I q (by simp))
    | bl j => cases ry; exact eq_bool (zas I q zh1)
    | str j => obtain ⟨t', rfl⟩ := ry; exact PySem.EqMixed.eq_bool_str (zas I q (by simp))
    | _ => exact absurd (show false = true from hs) Bool.false_ne_true
  | int i =>
    obtain ⟨t, rfl⟩ := rx
    cases y with
    | non => cases ry; exact PySem.EqNone.eq_int_none (zas I q (by simp))
    | int j => obtain ⟨t', rfl⟩ := ry; exact eq_int (zas I q ziU)
    | str j => obtain ⟨t', rfl⟩ := ry; exact PySem.EqMixed.eq_int_str (zas I q (by simp))
    | _ => exact absurd (show false = true from hs) Bool.false_ne_true
  | str i =>
    obtain ⟨t, rfl⟩ := rx
    cases y with
    | non => cases ry; exact PySem.EqNone.eq_str_none (zas I q (by simp))
    | bl j => cases ry; exact PySem.EqMixed.eq_str_bool (zas I q (by simp))
    | int j => obtain ⟨t', rfl⟩ := ry; exact PySem.EqMixed.eq_str_int (zas I q (by simp))
    | str j => obtain ⟨t', rfl⟩ := ry; exact eq_str (zas I q zi1)
    | _ => exact absurd (show false = true from hs) Bool.false_ne_true
  | byt i =>
    obtain ⟨t, rfl⟩ := rx
    cases y with
    | byt j => obtain ⟨t', rfl⟩ := ry; exact PySem.W.eq_bytes (zas I q zi6)
    | _ => exact absurd (show false = true from hs) Bool.false_ne_true
  | _ => cases y <;> exact absurd (show false = true from hs) Bool.false_ne_true
theorem op_ne : OpR X (compareOp .NotEq) rNe := by
  intro pins s σ H x y v u Q I rx ry h
  obtain ⟨hs, q⟩ := h
  cases x with
  | non =>
    cases rx
    cases y with
    | non => cases ry; exact PySem.EqNone.ne_none_none (zas I q (by simp))
    | bl j => cases ry; exact PySem.EqNone.ne_none_bool (zas I q (by simp))
    | int j => obtain ⟨t', rfl⟩ := ry; exact PySem.EqNone.ne_none_int (zas I q (by simp))
    | str j => obtain ⟨t', rfl⟩ := ry; exact PySem.EqNone.ne_none_str (zas I q (by simp))
    | _ => exact absurd (show false = true from hs) Bool.false_ne_true
  | bl i =>
    cases rx
    cases y with
    | non => cases ry; exact PySem.EqNone.ne_bool_none (zas I q (by simp))
    | bl j => cases ry; exact ne_bool (zas I q (congrArg not zh1))
    | str j => obtain ⟨t', rfl⟩ := ry; exact PySem.EqMixed.ne_bool_str (zas I q (by simp))
    | _ => exact absurd (show false = true from hs) Bool.false_ne_true
  | int i =>
    obtain ⟨t, rfl⟩ := rx
    cases y with
    | non => cases ry; exact PySem.EqNone.ne_int_none (zas I q (by simp))
    | int j => obtain ⟨t', rfl⟩ := ry; exact ne_int (zas I q (congrArg not ziU))
    | str j => obtain ⟨t', rfl⟩ := ry; exact PySem.EqMixed.ne_int_str (zas I q (by simp))
    | _ => exact absurd (show false = true from hs) Bool.false_ne_true
  | str i =>
    obtain ⟨t, rfl⟩ := rx
    cases y with
    | non => cases ry; exact PySem.EqNone.ne_str_none (zas I q (by simp))
    | bl j => cases ry; exact PySem.EqMixed.ne_str_bool (zas I q (by simp))
    | int j => obtain ⟨t', rfl⟩ := ry; exact PySem.EqMixed.ne_str_int (zas I q (by simp))
    | str j => obtain ⟨t', rfl⟩ := ry; exact ne_str (zas I q (congrArg not zi1))
    | _ => exact absurd (show false = true from hs) Bool.false_ne_true
  | byt i =>
    obtain ⟨t, rfl⟩ := rx
    cases y with
    | byt j => obtain ⟨t', rfl⟩ := ry; exact PySem.W.ne_bytes (zas I q (congrArg not zi6))
    | _ => exact absurd (show false = true from hs) Bool.false_ne_true
  | _ => cases y <;> exact absurd (show false = true from hs) Bool.false_ne_true
theorem op_lt : OpR X (compareOp .Lt) (rI0 fun i j => .bl (decide (i < j))) := opB0 fun _ _ _ _ _ _ _ q => lt_int q
theorem op_le : OpR X (compareOp .LtE) (rI0 fun i j => .bl (decide (i ≤ j))) := opB0 fun _ _ _ _ _ _ _ q => le_int q
theorem op_gt : OpR X (compareOp .Gt) (rI0 fun i j => .bl (decide (j < i))) := opB0 fun _ _ _ _ _ _ _ q => gt_int q
theorem op_ge : OpR X (compareOp .GtE) (rI0 fun i j => .bl (decide (j ≤ i))) := opB0 fun _ _ _ _ _ _ _ q => ge_int q
theorem zjJ : OpR X (compareOp .In) (fun x y H Q => ∃ i j, x = .str i ∧ y = .str j ∧ Q (.bl (!(Builtin.Str.occurrences j i 0 j.length 1).isEmpty)) H) := by
 intro pins s σ H x y v u Q I rx ry h
 obtain ⟨i, j, rfl, rfl, q⟩ := h
 obtain ⟨t, rfl⟩ := rx
 obtain ⟨t', rfl⟩ := ry
 exact in_str (zas I q rfl)
theorem op_isN : OpR X (compareOp .Is) (fun x y H Q => y = .non ∧ Q (.bl (decide (x = .non))) H) := by
 intro pins s σ H x y v u Q I rx ry h
 obtain ⟨rfl, q⟩ := h
 cases ry
 refine is_none_gen (zas I q ?_)
 cases x <;> first
  | (cases rx; rfl)
  | (obtain ⟨t, rfl⟩ := rx; rfl)
theorem zlV : OpR X (compareOp .IsNot) (fun x y H Q => y = .non ∧ Q (.bl (!decide (x = .non))) H) := by
 intro pins s σ H x y v u Q I rx ry h
 obtain ⟨rfl, q⟩ := h
 cases ry
 refine isnot_none_gen (zas I q ?_)
 cases x <;> first
  | (cases rx; rfl)
  | (obtain ⟨t, rfl⟩ := rx; rfl)
theorem zgG : OpR X (compareOp .NotIn) (fun x y H Q => ∃ i j, x = .str i ∧ y = .str j ∧ Q (.bl (!(!(Builtin.Str.occurrences j i 0 j.length 1).isEmpty))) H) := by
 intro pins s σ H x y v u Q I rx ry h
 obtain ⟨i, j, rfl, rfl, q⟩ := h
 obtain ⟨t, rfl⟩ := rx
 obtain ⟨t', rfl⟩ := ry
 exact notIn_str (zas I q rfl)
theorem OpR.or {f : Value → Value → Sem Value} {r r' : R2} (h : OpR X f r) (h' : OpR X f r') : OpR X f (fun x y H Q => r x y H Q ∨ r' x y H Q) := by
 intro pins s σ H x y v u Q I rx ry q
 rcases q with q | q
 ·exact h pins s σ H x y v u Q I rx ry q
 ·exact h' pins s σ H x y v u Q I rx ry q
theorem zlP {op : CmpOp} {r : R2} (ho : OpR X (compareOp op) r) (ha : PE X a ta) (hb : PE X b tb) (hm : behindInMarks op b = false) : PE X (.Compare a [op] [b] pos) (tOp r ta tb) := by
 intro pins s σ H Q I h
 exact wpAny_Compare1 (binT ha hb I h fun v u s2 x y H2 I2 rx ry q => ho pins s2 σ H2 x y v u Q I2 rx ry q) hm
def tTest (t : TE) : TT := fun σ H Q => t σ H fun x H' => ∃ k, x = .bl k ∧ Q k H'
theorem zl2 {op : CmpOp} {r : R2} (ho : OpR X (compareOp op) r) (ha : PE X a ta) (hb : PE X b tb) (hm : behindInMarks op b = false) : PT X (.Compare a [op] [b] pos) (tTest (tOp r ta tb)) := by
 intro pins s σ H Q I h
 refine wpAny_isTrue_Compare1 (thn (ha pins s σ H _ I h) fun v s1 ⟨x, H1, I1, r1, q1⟩ => thn (hb pins s1 σ H1 _ I1 q1) fun u s2 ⟨y, H2, I2, r2, q2⟩ =>
  thn (ho pins s2 σ H2 x y v u _ I2 r1 r2 q2) fun c s3 ⟨z, H3, I3, r3, k, e, q3⟩ => ?_) hm
 subst e
 cases r3
 exact wpAny_truthy_bool ⟨H3, I3, q3⟩
def TruV (K : PySem.W.Frag) (x : V) (H : Hp) (k : Bool) : Prop :=
 match x with
 | .non => k = false
 | .bl b => k = b
 | .int i => k = (i != 0)
 | .str y => y.length ≤ sizeLine ∧ k = ((y.length : Int) != 0)
 | .byt y => y.size ≤ sizeLine ∧ k = ((y.size : Int) != 0)
 | .ref p => (∃ xs, SqL K H p xs ∧ k = !xs.isEmpty) ∨ (∃ xs, SqT K H p xs ∧ k = !xs.isEmpty) ∨ ∃ kvs, H p = some (.dK kvs) ∧ k = !kvs.isEmpty
 | _ => False
theorem ziB {κ : Type} {kvs : List (κ × V)} {vs : List (κ × Value)} (r : KV kvs vs) : (!vs.isEmpty) = !kvs.isEmpty := by
 cases r <;> rfl
theorem zfD {xs : List V} {its : List Value} (r : Vals xs its) : (!its.toArray.isEmpty) = !xs.isEmpty := by
 cases r <;> simp
theorem zdP : (sizeLine : Nat) < 2 ^ 63 := by rw [sizeLine_eq]; decide
theorem zk9 : TruR X (fun x H Q => ∃ k, TruV X.K x H k ∧ Q k H) := by
  intro pins s σ H x v Q I rx h
  obtain ⟨k, e, q⟩ := h
  have hl := zdP
  have hs : sizeLine = 16777216 := sizeLine_eq
  cases x with
  | non =>
    cases rx
    have e' : k = false := e
    subst e'
    exact truthy_none ⟨H, I, q⟩
  | bl b =>
    cases rx
    have e' : k = b := e
    subst e'
    exact wpAny_truthy_bool ⟨H, I, q⟩
  | int i =>
    obtain ⟨t, rfl⟩ := rx
    have e' : k = (i != 0) := e
    subst e'
    exact PySem.P.truthy_int ⟨H, I, q⟩
  | str y =>
    obtain ⟨t, rfl⟩ := rx
    obtain ⟨hy, e'⟩ : y.length ≤ sizeLine ∧ k = ((y.length : Int) != 0) := e
    subst e'
    exact PySem.P.truthy_str (by omega) ⟨H, I.tok _, q⟩
  | byt y =>
    obtain ⟨t, rfl⟩ := rx
    obtain ⟨hy, e'⟩ : y.size ≤ sizeLine ∧ k = ((y.size : Int) != 0) := e
    subst e'
    exact PySem.W.truthy_bytes (by omega) ⟨H, I.tok _, q⟩
  | ref p =>
    cases rx
    have e' : (∃ xs, SqL X.K H p xs ∧ k = !xs.isEmpty) ∨ (∃ xs, SqT X.K H p xs ∧ k = !xs.isEmpty) ∨ ∃ kvs, H p = some (.dK kvs) ∧ k = !kvs.isEmpty := e
    rcases e' with ⟨xs, hx, e'⟩ | ⟨xs, hx, e'⟩ | ⟨kvs, hx, e'⟩
    · subst e'
      obtain ⟨its, r, pl, hz⟩ := I.list hx
      have hlen := r.length
      exact wpAny_truthy_list pl.isList (by simp only [List.size_toArray]; omega) ⟨H, I.tok _, by rw [zfD r]; exact q⟩
    · subst e'
      obtain ⟨its, r, pl, hz⟩ := I.tuple hx
      have hlen := r.length
      exact truthy_tuple pl (by simp only [List.size_toArray]; omega) ⟨H, I.tok _, by rw [zfD r]; exact q⟩
    · subst e'
      obtain ⟨hz, hS, vs, r, m⟩ : kvs.length ≤ sizeLine ∧ (p == sysModules) = false ∧ ∃ vs, KV kvs vs ∧ s.heap.DictOf (zcJ X.prog X.w) p vs := I.hok p _ hx
      have hlen : kvs.length = vs.length := Paired.length r
      exact wpAny_truthy_dict hS m (by omega) ⟨H, I.tok _, by rw [ziB r]; exact q⟩
  | _ => exact (show False from e).elim
theorem zkS (ha : PE X a ta) (he : ∀ whole, isTrue a X.env whole = (do let v ← whole; standAt a.pos; holding [v] (truthy v))) :
  PT X a (fun σ H Q => ta σ H fun x H' => ∃ k, TruV X.K x H' k ∧ Q k H') := by
 intro pins s σ H Q I h
 exact isTrue_plain (thn (ha pins s σ H _ I h) fun v s1 ⟨x, H1, I1, r1, q1⟩ => zk9 pins s1 σ H1 x v Q I1 r1 q1) (he _)
theorem zij : OpR X (binaryOp .Add) (fun x y H Q => ∃ i j, x = .str i ∧ y = .str j ∧ i.length + j.length ≤ sizeLine ∧ Q (.str (i ++ j)) H) := by
 intro pins s σ H x y v u Q I rx ry h
 obtain ⟨i, j, rfl, rfl, hz, q⟩ := h
 obtain ⟨t, rfl⟩ := rx
 obtain ⟨t', rfl⟩ := ry
 exact add_str (fun t' tk => ⟨.str (i ++ j), H, I.tok _, ⟨_, rfl⟩, q⟩) hz
theorem vals1 {x : V} {us : List Value} (r : Vals [x] us) : ∃ u, us = [u] ∧ RelV x u := by
 cases r with
 | cons r1 r2 => cases r2; exact ⟨_, rfl, r1⟩
theorem vals2 {x y : V} {us : List Value} (r : Vals [x, y] us) : ∃ u w', us = [u, w'] ∧ RelV x u ∧ RelV y w' := by
  cases r with
  | cons r1 r2 =>
    cases r2 with
    | cons r3 r4 => cases r4; exact ⟨_, _, rfl, r1, r3⟩
theorem zgP (hc : X.calm = true) : zcO X (.builtin "max") (fun xs H Q => ∃ i j, xs = [.int i, .int j] ∧ Q (.int (if j > i then j else i)) H) := by
 intro pins s σ H xs us Q I r h
 obtain ⟨i, j, rfl, q⟩ := h
 obtain ⟨u, w', rfl, ⟨t, rfl⟩, ⟨t', rfl⟩⟩ := vals2 r
 refine max_two_ints (I.ok.hd hc) fun h' tk k => ⟨_, H, I.kept k, ?_, q⟩
 by_cases hj : j > i
 ·rw [if_pos hj, if_pos hj]; exact ⟨_, rfl⟩
 ·rw [if_neg hj, if_neg hj]; exact ⟨_, rfl⟩
theorem ze8 (hc : X.calm = true) : zcO X (.builtin "min") (fun xs H Q => ∃ i j, xs = [.int i, .int j] ∧ Q (.int (if j < i then j else i)) H) := by
 intro pins s σ H xs us Q I r h
 obtain ⟨i, j, rfl, q⟩ := h
 obtain ⟨u, w', rfl, ⟨t, rfl⟩, ⟨t', rfl⟩⟩ := vals2 r
 refine min_two_ints (I.ok.hd hc) fun h' tk k => ⟨_, H, I.kept k, ?_, q⟩
 by_cases hj : j < i
 ·rw [if_pos hj, if_pos hj]; exact ⟨_, rfl⟩
 ·rw [if_neg hj, if_neg hj]; exact ⟨_, rfl⟩
theorem zeu : zcO X (.type "str") (fun xs H Q => ∃ i, xs = [.int i] ∧ i.natAbs.log2 < 1920 ∧ Q (.str (toString i)) H) := by
 intro pins s σ H xs us Q I r h
 obtain ⟨i, rfl, hz, q⟩ := h
 obtain ⟨u, rfl, t, rfl⟩ := vals1 r
 exact PySem.P.str_of_int hz ⟨.str _, H, I.tok _, ⟨_, rfl⟩, q⟩
end
end L2
namespace L2
open PySem PySem.Spec PyProof.Rows
structure ObjM (h : Heap) (x dx C : Addr) (mA : Str → Option Value) : Prop where
 obj : h.get? x = some (PySem.W.instObj C dx)
 ns : h.Ns1 dx mA
 ne : dx ≠ x
theorem zg2 {h : Heap} {dx : Addr} {mA : Str → Option Value} (n : h.Ns1 dx mA) : ∃ od, h.get? dx = some od ∧ ∀ name, PySem.W.lookIn name od = some (mA name) := by
 obtain ⟨o, es, ep, ho, hd, hk, _, hm⟩ := n
 refine ⟨o, ho, fun name => ?_⟩
 have e := hm name
 unfold nsFind findBy at e
 rw [← Array.find?_toList] at e
 unfold PySem.W.lookIn
 rw [hd]
 dsimp only
 split
 ·rename_i y q
  rw [q] at e
  exact congrArg some e
 ·rename_i q
  rw [q] at e
  have a : es.toList.any (·.refKey) = false := by
   rw [List.any_eq_false]
   intro y hy
   obtain ⟨z, t, hkey⟩ := hk y (Array.mem_toList_iff.mp hy)
   simp [DictEntry.refKey, hkey]
  have a' : ¬ es.toList.any (·.refKey) = true := by rw [a]; exact Bool.false_ne_true
  rw [if_neg a']
  exact congrArg some e
theorem ObjM.look {h : Heap} {x dx C : Addr} {mA : Str → Option Value} (I : ObjM h x dx C mA) : ∃ od, PySem.W.InstAt h x (PySem.W.instObj C dx) C (some od) ∧ ∀ name, PySem.W.lookIn name od = some (mA name) :=
 let ⟨od, ho, hl⟩ := zg2 I.ns
 ⟨od, ⟨I.obj, rfl, rfl, ho⟩, hl⟩
section
variable {prog : Program} {w : World} {A : Around} {E : Value → Shared → Prop} {s : Shared} {K : PySem.W.Frag} {x dx C f : Addr} {mA : Str → Option Value} {name : Str} {v : Value}
theorem get_map {expr : Bool} {Q : Value → Shared → Prop} (X : K.In s.heap) (I : ObjM s.heap x dx C mA) (hg : PySem.W.plainGet K C name = true) (hh : PySem.W.hasDictIn K C = true)
  (ha : PySem.W.findIn K (.ref C) name = some none) (hv : mA name = some v) (hv' : PySem.W.handedIn v = true) (h : Q v { s with toks := s.toks + 1 }) :
  wpAny (model prog w) A (getAttr (.ref x) name expr) Q E s := by
 obtain ⟨od, J, hl⟩ := I.look
 exact PySem.W.get_value X J (PySem.W.plainGet_of hg).1 (PySem.W.findObj_own hh ha rfl (by rw [hl, hv])) hv' h
theorem zkM {pl : Sem Bool} {Q : Value × List Value → Shared → Prop} (X : K.In s.heap) (I : ObjM s.heap x dx C mA) (hg : PySem.W.plainGet K C name = true)
  (hf : PySem.W.findIn K (.ref C) name = some (some (.ref f))) (ht : PySem.W.isFn K (.ref f) = true) (hv : mA name = none) (h : Q (.ref f, [.ref x]) s) :
  wpAny (model prog w) A (getMethod (.ref x) name pl) Q E s := by
 obtain ⟨od, J, hl⟩ := I.look
 exact PySem.W.method_fn X J (PySem.W.plainGet_of hg).1 (PySem.W.plainGet_of hg).2 hf (beq_iff_eq.mp ht) (by show (PySem.W.lookIn name od).map (·.isSome) = some false; rw [hl, hv]; rfl) h
theorem zlE {ns : List Str} {Q : Unit → Shared → Prop} (X : K.In s.heap) (I : ObjM s.heap x dx C mA)
  (hs : PySem.W.findIn K (.ref C) "__setattr__" = some (some (.builtin "object.__setattr__"))) (hp : PySem.W.plainOver K C = true) (ht : PySem.W.takerIn K C name = some none) (hh : PySem.W.hasDictIn K C = true)
  (hw : PySem.Within mA ns) (hsz : ns.length ≤ sizeLine)
  (h : ∀ h', ObjM h' x dx C (fun y => if y = name then some v else mA y) → Heap.SameBut dx s.heap h' → Q () { s with heap := h', toks := s.toks + 2 }) :
  wpAny (model prog w) A (setAttr (.ref x) name v) Q E s := by
 obtain ⟨od, J, hl⟩ := I.look
 refine PySem.W.set_plain X J hs (PySem.W.osa_open (s := { s with toks := s.toks + 1 }) (r := none) X J hp ht fun b => ?_)
 obtain ⟨cd, hc, hd'⟩ := PySem.W.any_some hh
 have hx : s.heap.get? x = some ⟨.ref C, some dx, .plain, #[]⟩ := I.obj
 refine wpAny_bind (wpAny_pure (wpAny_bind (wpAny_bind (wpAny_loadPart hx (wpAny_bind (PySem.W.Looks.here (s := { s with toks := s.toks + 1 }) (PySem.W.looks_clsIn X hc) ?_))))))
 rw [hd']
 refine wpAny_pure (a := some dx) (wpAny_bind (wpAny_pure (wpAny_bind ?_)))
 refine wpAny_nsSet1 (s := { s with toks := s.toks + 1 }) I.ns fun h' hn2 hs2 => ?_
 obtain ⟨oD, esD, epD, hoD, hdD, hcD⟩ := hn2.count (PySem.Within.cons name v hw)
 refine wpAny_bind (wpAny_lookBehind hoD (by rw [hdD]; exact pastItsLine_dict (Nat.le_trans hcD (by rw [List.length_cons]; omega))) ?_)
 exact wpAny_pure (h _ ⟨(hs2.2 _ (Ne.symm I.ne)).trans I.obj, hn2, I.ne⟩ hs2)
theorem zkD {R : Result → Shared → Prop} {vs : List Value} {kw : List (Str × Value)} (X : K.In s.heap) (hm : PySem.W.makesIn K C = true)
  (hi : PySem.W.findIn K (.ref C) "__init__" = some (some (.ref f))) (hf : PySem.W.typeIn K (.ref f) = some (.type "function"))
  (h : codeAny (model prog w) (A.under (.builtin "type.__call__" ⟨.ref C :: vs, kw⟩)) (.call (.ref f) ⟨.ref (s.heap.objs.size + 1) :: vs, kw⟩) (PySem.W.InitBack (s.heap.objs.size + 1) R)
   { s with heap := (s.heap.push PySem.W.emptyDict).push (PySem.W.instObj C s.heap.objs.size) }) :
  codeAny (model prog w) A (.call (.ref C) ⟨vs, kw⟩) R s := by
 obtain ⟨hh, g, d, t, os⟩ := s
 exact PySem.W.make_core (PySem.W.makes_of X hm) (PySem.W.looks_findIn X hi) (fun self => PySem.W.bind_fn X self hf) (.inl rfl) h
end
def putF (f : Str) (v : V) : List (Str × V) → List (Str × V)
 | [] => [(f, v)]
 | (g, x) :: r => if g = f then (g, v) :: r else (g, x) :: putF f v r
theorem zfq (f g : Str) (v : V) : ∀ fs : List (Str × V), (putF f v fs).lookup g = if g = f then some v else fs.lookup g
  | [] => by
    show List.lookup g [(f, v)] = _
    by_cases h : g = f
    · have hb : (g == f) = true := beq_iff_eq.mpr h
      simp only [List.lookup, hb, if_pos h]
    · have hb : (g == f) = false := beq_eq_false_iff_ne.mpr h
      simp only [List.lookup, hb, if_neg h]
  | (k, x) :: r => by
    have ih := zfq f g v r
    rw [show putF f v ((k, x) :: r) = (if k = f then (k, v) :: r else (k, x) :: putF f v r) from rfl]
    by_cases hk : k = f
    · rw [if_pos hk]
      by_cases h : g = k
      · have hb : (g == k) = true := beq_iff_eq.mpr h
        simp only [List.lookup, hb, if_pos (h.trans hk)]
      · have hb : (g == k) = false := beq_eq_false_iff_ne.mpr h
        simp only [List.lookup, hb, if_neg (fun e : g = f => h (e.trans hk.symm))]
    · rw [if_neg hk]
      by_cases h : g = k
      · have hb : (g == k) = true := beq_iff_eq.mpr h
        simp only [List.lookup, hb, if_neg (fun e : g = f => hk (h.symm.trans e))]
      · have hb : (g == k) = false := beq_eq_false_iff_ne.mpr h
        simp only [List.lookup, hb]
        exact ih
theorem zeU (f : Str) (v : V) : ∀ fs : List (Str × V), f ∈ (putF f v fs).map (·.1) ∧ ∀ g, g ∈ fs.map (·.1) → g ∈ (putF f v fs).map (·.1)
  | [] => ⟨by simp [putF], fun g h => by simp at h⟩
  | (k, x) :: r => by
    obtain ⟨i1, i2⟩ := zeU f v r
    rw [show putF f v ((k, x) :: r) = (if k = f then (k, v) :: r else (k, x) :: putF f v r) from rfl]
    by_cases hk : k = f
    · rw [if_pos hk]
      subst hk
      exact ⟨by simp, fun g h => by simpa using h⟩
    · rw [if_neg hk]
      refine ⟨?_, fun g h => ?_⟩
      · rw [List.map_cons]
        exact List.mem_cons_of_mem _ i1
      · rw [List.map_cons] at h ⊢
        rcases List.mem_cons.mp h with e | e
        · exact List.mem_cons.mpr (.inl e)
        · exact List.mem_cons_of_mem _ (i2 g e)
theorem zfd (f : Str) (v : V) : ∀ fs : List (Str × V), (putF f v fs).length ≤ fs.length + 1
  | [] => by simp [putF]
  | (k, x) :: r => by
    have ih := zfd f v r
    rw [show putF f v ((k, x) :: r) = (if k = f then (k, v) :: r else (k, x) :: putF f v r) from rfl]
    by_cases hk : k = f
    · rw [if_pos hk, List.length_cons, List.length_cons]; omega
    · rw [if_neg hk, List.length_cons, List.length_cons]; omega
theorem RelO.some_of {v : V} {o : Option Value} (r : RelO (some v) o) : ∃ u, o = some u ∧ RelV v u := by
 cases o with
 | none => exact (show False from r).elim
 | some u => exact ⟨u, rfl, r⟩
theorem RelO.none_of {o : Option Value} (r : RelO none o) : o = none := by
 cases o with
 | none => rfl
 | some u => exact (show False from r).elim
theorem zjZ {v : V} {u : Value} (r : RelV v u) : PySem.W.handedIn u = true := by
 cases v with
 | non => cases (show u = Value.none from r); rfl
 | bl b => cases (show u = Value.bool b from r); rfl
 | int i => obtain ⟨t, e⟩ := (show ∃ t, u = Value.int i t from r); cases e; rfl
 | str x => obtain ⟨t, e⟩ := (show ∃ t, u = Value.str x t from r); cases e; rfl
 | byt b => obtain ⟨t, e⟩ := (show ∃ t, u = Value.bytes b t from r); cases e; rfl
 | flt b => obtain ⟨t, e⟩ := (show ∃ t, u = Value.float b t from r); cases e; rfl
 | ref a => cases (show u = Value.ref a from r); rfl
 | ty n => cases (show u = Value.type n from r); rfl
section
variable {P : Program} {w : World} {H H' : Hp} {h h' : Heap} {a C dx : Addr} {fs fs' : List (Str × V)}
theorem zgm (hok : HOk P w H h) (e : H a = some (.ins C dx fs)) : ∃ mA, ObjM h a dx C mA ∧ (∀ f, RelO (fs.lookup f) (mA f)) ∧ PySem.Within mA (fs.map (·.1)) ∧ fs.length ≤ 1000 ∧ H dx = some (.own a) := by
 obtain ⟨d, z, ne, ob, mA, n, r, q⟩ := (show zbZ P w H h a (.ins C dx fs) from hok a _ e)
 exact ⟨mA, ⟨ob, n, ne⟩, r, q, z, d⟩
end
structure Cls (K : PySem.W.Frag) (C : Addr) : Prop where
 pg : PySem.W.plainGet K C Str.empty = true
 hd : PySem.W.hasDictIn K C = true
 po : PySem.W.plainOver K C = true
 sa : PySem.W.findIn K (.ref C) "__setattr__" = some (some (.builtin "object.__setattr__"))
theorem Cls.get {K : PySem.W.Frag} {C : Addr} (c : Cls K C) (f : Str) : PySem.W.plainGet K C f = true := c.pg
def zd5 (K : PySem.W.Frag) (C : Addr) (f : Str) : Prop := PySem.W.findIn K (.ref C) f = some none
theorem zd5.taker {K : PySem.W.Frag} {C : Addr} {f : Str} (n : zd5 K C f) : PySem.W.takerIn K C f = some none := by
 unfold PySem.W.takerIn
 rw [show PySem.W.findIn K (.ref C) f = some none from n]
 rfl
structure Con (K : PySem.W.Frag) (C : Addr) (f : Str) (v : V) (u : Value) : Prop where
 at_ : PySem.W.findIn K (.ref C) f = some (some u)
 rel : RelV v u
 get : PySem.W.specialIn K u "__get__" = some none
 cp : PySem.W.copiedNames.contains f = false
structure Meth (K : PySem.W.Frag) (C : Addr) (m : Str) (f : Addr) : Prop where
 at_ : PySem.W.findIn K (.ref C) m = some (some (.ref f))
 fn : PySem.W.isFn K (.ref f) = true
 kp : PySem.W.keepIn K (.ref f) = true
section
variable {X : Cx} {pins : List (Addr × Obj)} {σ : St} {H : Hp} {s : Shared} {a C dx : Addr} {fs : List (Str × V)} {f : Str} {v : V} {A : Around} {E : Value → Shared → Prop}
theorem ziq {b : Bool} {Q : Value → Shared → Prop} (I : Inv X pins σ H s) (e : H a = some (.ins C dx fs)) (c : Cls X.K C) (n : zd5 X.K C f) (l : fs.lookup f = some v)
  (h : ∀ u s', Inv X pins σ H s' → RelV v u → Q u s') : wpAny (model X.prog X.w) A (getAttr (.ref a) f b) Q E s := by
 obtain ⟨mA, O, r, _, _, _⟩ := zgm I.hok e
 obtain ⟨u, hu, ru⟩ := RelO.some_of (v := v) (o := mA f) (by rw [← l]; exact r f)
 exact get_map I.kIn O (c.get f) c.hd n hu (zjZ ru) (h u _ (I.tok _) ru)
theorem zfE {m : Str} {g : Addr} {pl : Sem Bool} {Q : Value × List Value → Shared → Prop} (I : Inv X pins σ H s) (e : H a = some (.ins C dx fs)) (c : Cls X.K C) (k : Meth X.K C m g) (l : fs.lookup m = none)
  (h : Q (.ref g, [.ref a]) s) : wpAny (model X.prog X.w) A (getMethod (.ref a) m pl) Q E s := by
 obtain ⟨mA, O, r, _, _, _⟩ := zgm I.hok e
 have hn : mA m = none := RelO.none_of (by rw [← l]; exact r m)
 exact zkM I.kIn O (c.get m) k.at_ k.fn hn h
theorem ziy {y : V} {u : Value} {Q : Unit → Shared → Prop} (I : Inv X pins σ H s) (e : H a = some (.ins C dx fs)) (c : Cls X.K C) (n : zd5 X.K C f) (hl : fs.length < 1000) (ry : RelV y u)
  (h : ∀ s', Inv X pins σ (upd H a (.ins C dx (putF f y fs))) s' → Q () s') : wpAny (model X.prog X.w) A (setAttr (.ref a) f u) Q E s := by
 obtain ⟨mA, O, r, wi, _, ho⟩ := zgm I.hok e
 have hz : (fs.map (·.1)).length ≤ sizeLine := by rw [List.length_map, sizeLine_eq]; omega
 refine zlE I.kIn O c.sa c.po n.taker c.hd wi hz fun h' O' sb => h _ ?_
 have hd : ∃ o, h'.get? dx = some o := let ⟨o, _, _, e', _⟩ := O'.ns; ⟨o, e'⟩
 refine I.write (x := a) (e := dx) (by rw [e]; exact True.intro) (.inr ho) (fun b q hb z => (sb.2 b hb).trans z) hd ?_
 refine ⟨by rw [zar O.ne]; exact ho, ?_, O.ne, O'.obj, _, O'.ns, fun g => ?_, fun g hg => ?_⟩
 ·have := zfd f y fs; omega
 ·show RelO ((putF f y fs).lookup g) (if g = f then some u else mA g)
  rw [zfq]
  by_cases q : g = f
  ·rw [if_pos q, if_pos q]; exact ry
  ·rw [if_neg q, if_neg q]; exact r g
 ·by_cases q : g = f
  ·rw [q]; exact (zeU f y fs).1
  ·refine (zeU f y fs).2 g (wi g fun z => hg ?_)
   show (if g = f then some u else mA g) = none
   rw [if_neg q]; exact z
theorem Inv.made (I : Inv X pins σ H s) : Inv X pins σ (upd (upd H s.heap.objs.size (.own (s.heap.objs.size + 1))) (s.heap.objs.size + 1) (.ins C s.heap.objs.size []))
  { s with heap := (s.heap.push PySem.W.emptyDict).push (PySem.W.instObj C s.heap.objs.size) } := by
 have e1 : (s.heap.push PySem.W.emptyDict).get? s.heap.objs.size = some PySem.W.emptyDict := Heap.get?_push_size s.heap rfl
 have e2 : ((s.heap.push PySem.W.emptyDict).push (PySem.W.instObj C s.heap.objs.size)).get? (s.heap.objs.size + 1) = some (PySem.W.instObj C s.heap.objs.size) := by
  have := Heap.get?_push_size (s.heap.push PySem.W.emptyDict) (o := PySem.W.instObj C s.heap.objs.size) rfl
  rwa [Heap.size_push] at this
 have e3 : (s.heap.push PySem.W.emptyDict).Ns s.heap.objs.size (fun _ => none) := ⟨PySem.W.emptyDict, #[], _, e1, rfl, (fun e he => absurd he (by simp)), fun _ => rfl⟩
 have I1 := I.laid (a := s.heap.objs.size) (o := .own (s.heap.objs.size + 1)) (h' := s.heap.push PySem.W.emptyDict) (t' := s.toks) (fun b u q => Heap.get?_push_of_some _ q) (Nat.le_refl _) ⟨_, e1⟩
 refine I1.laid (a := s.heap.objs.size + 1) (o := .ins C s.heap.objs.size []) (t' := s.toks) (fun b u q => Heap.get?_push_of_some _ q) (Nat.le_of_eq (Heap.size_push _ _)) ?_
 have ne : s.heap.objs.size ≠ s.heap.objs.size + 1 := Nat.ne_of_lt (Nat.lt_succ_self _)
 refine ⟨by rw [zar ne, zaC], Nat.zero_le _, ne, e2, fun _ => none, (Heap.Ns1.of_empty e3).at fun o q => Heap.get?_push_of_some _ q, fun _ => True.intro, fun y hy => absurd rfl hy⟩
theorem zlZ {prog : Program} {w : World} {env : Env} {e : Expr} {f : Str} {pos : Pos} {s : Shared} {Q : Value → Shared → Prop} (hb : attributeBase e f env (eval e env) = eval e env)
  (h : wpAny (model prog w) A (eval e env) (fun o s₁ => wpAny (model prog w) A (getAttr o f true) Q E s₁) E s) : wpAny (model prog w) A (eval (.Attribute e f pos) env) Q E s :=
 Attribute_any_ h (by rw [arm_eval_Attribute, hb])
end
def tFld (K : PySem.W.Frag) (ta : TE) (f : Str) : TE := fun σ H Q => ta σ H fun x H1 => ∃ a C dx fs v, x = .ref a ∧ H1 a = some (.ins C dx fs) ∧ Cls K C ∧ zd5 K C f ∧ fs.lookup f = some v ∧ Q v H1
def sFld (K : PySem.W.Frag) (ta tv : TE) (f : Str) : TS := fun D σ H => tv σ H fun y H1 => ta σ H1 fun x H2 => ∃ a C dx fs, x = .ref a ∧ H2 a = some (.ins C dx fs) ∧ Cls K C ∧ zd5 K C f ∧ fs.length < 1000 ∧
 D.nx σ (upd H2 a (.ins C dx (putF f y fs)))
section
variable {X : Cx} {o e value : Expr} {f : Str} {pos pos' tpos : Pos} {ta tv : TE}
theorem zok (he : PE X e ta) (hb : attributeBase e f X.env (eval e X.env) = eval e X.env) : PE X (.Attribute e f pos) (tFld X.K ta f) := by
 intro pins s σ H Q I h
 refine zlZ hb (thn (he pins s σ H _ I h) fun u s1 ⟨x, H1, I1, rx, a, C, dx, fs, v, ex, ea, c, n, l, q⟩ => ?_)
 subst ex
 obtain rfl : u = Value.ref a := rx
 exact ziq I1 ea c n l fun u' s2 I2 ru => ⟨v, H1, I2, ru, q⟩
theorem ps_fld (ha : PE X o ta) (hv : PE X value tv) (hs : swapsWith value (some (.Attribute o f pos')) pos.line X.env = pure false) : PS X (.Assign [.Attribute o f pos'] value pos) (sFld X.K ta tv f) := by
 intro pins s σ H D I h
 refine plainObj_wpAny_Assign_Attribute (thn (hv pins s σ H _ I h) fun u s1 ⟨y, H1, I1, ry, q⟩ => thn (ha pins s1 σ H1 _ I1 q) fun ov s2 ⟨x, H2, I2, rx, a, C, dx, fs, ex, ea, c, n, l, q2⟩ => ?_) hs
 subst ex
 obtain rfl : ov = Value.ref a := rx
 exact ziy I2 ea c n l ry fun s3 I3 => ⟨σ, _, I3, q2⟩
def rAdd : V → V → Hp → VK → Prop := fun x y H Q => ∃ i j, x = .int i ∧ y = .int j ∧ Q (.int (i + j)) H
end
section
variable {X : Cx} {pins : List (Addr × Obj)} {σ : St} {H : Hp} {s : Shared} {A : Around} {E : Value → Shared → Prop} {Q : Value → Shared → Prop} {c : Value} {b : Bool}
inductive TyOf (K : PySem.W.Frag) (H : Hp) : V → Value → Prop where
 | non : TyOf K H .non (.type "NoneType")
 | bl (x : Bool) : TyOf K H (.bl x) (.type "bool")
 | int (i : Int) : TyOf K H (.int i) (.type "int")
 | str (x : Str) : TyOf K H (.str x) (.type "str")
 | flt (x : UInt64) : TyOf K H (.flt x) (.type "float")
 | lst {a : Addr} {xs : List V} (e : H a = some (.lst xs)) : TyOf K H (.ref a) (.type "list")
 | frz {a : Addr} {o : Obj} {xs : List V} (e : H a = some (.frz o (.lst xs))) : TyOf K H (.ref a) (.type "list")
 | tup {a : Addr} {xs : List V} (e : H a = some (.tup xs)) : TyOf K H (.ref a) (.type "tuple")
 | dK {a : Addr} {kvs : List (Key × V)} (e : H a = some (.dK kvs)) : TyOf K H (.ref a) (.type "dict")
 | dT {a : Addr} {kvs : List (List Key × V)} (e : H a = some (.dT kvs)) : TyOf K H (.ref a) (.type "dict")
 | ins {a C dx : Addr} {fs : List (Str × V)} (e : H a = some (.ins C dx fs)) (cl : Cls K C) (ha : PySem.W.findIn K (.ref C) "__class__" = some (some (.builtin "object.__class__")))
   (hn : PySem.W.specialIn K (.builtin "object.__class__") "__get__" = some (some (.builtin "getset_descriptor.__get__"))) (htk : PySem.W.takesIn K (.builtin "object.__class__") = some true)
   (hm : PySem.W.mroIn K C (.type "object") = some true) : TyOf K H (.ref a) (.ref C)
theorem zc7 {x : V} {u t : Value} (I : Inv X pins σ H s) (rx : RelV x u) (ty : TyOf X.K H x t) (e : PySem.W.kitOne X.K t c = some b) (h : ∀ tk, Q (.bool b) { s with toks := tk }) :
    wpAny (model X.prog X.w) A (call (.builtin "isinstance") [u, c]) Q E s := by
  cases ty with
  | non => cases (show u = Value.none from rx); exact PySem.W.kia_one PySem.W.kitx_none I.kIn True.intro e (fun z => nomatch z) h
  | bl y => cases (show u = Value.bool y from rx); exact PySem.W.kia_one PySem.W.kitx_bool I.kIn True.intro e (fun z => nomatch z) h
  | int i => obtain ⟨t, q⟩ := (show ∃ t, u = Value.int i t from rx); cases q; exact PySem.W.kia_one PySem.W.kitx_int I.kIn True.intro e (fun z => nomatch z) h
  | str y => obtain ⟨t, q⟩ := (show ∃ t, u = Value.str y t from rx); cases q; exact PySem.W.kia_one PySem.W.kitx_str I.kIn True.intro e (fun z => nomatch z) h
  | flt y => obtain ⟨t, q⟩ := (show ∃ t, u = Value.float y t from rx); cases q; exact PySem.W.kia_one PySem.W.kitx_float I.kIn True.intro e (fun z => nomatch z) h
  | @lst a xs ea =>
    cases (show u = Value.ref a from rx)
    obtain ⟨_, _, n, _, h1⟩ := (show zbZ X.prog X.w H s.heap a (.lst xs) from I.hok a _ ea)
    exact PySem.W.kia_one PySem.W.kitx_list I.kIn ⟨_, h1, rfl⟩ e (fun z => nomatch z) h
  | @frz a ob xs ea =>
    cases (show u = Value.ref a from rx)
    obtain ⟨_, _, _, n, _, h1⟩ := (show zbZ X.prog X.w H s.heap a (.frz ob (.lst xs)) from I.hok a _ ea)
    exact PySem.W.kia_one PySem.W.kitx_list I.kIn ⟨_, h1, rfl⟩ e (fun z => nomatch z) h
  | @tup a xs ea =>
    cases (show u = Value.ref a from rx)
    obtain ⟨_, _, _, p⟩ := (show zbZ X.prog X.w H s.heap a (.tup xs) from I.hok a _ ea)
    obtain ⟨o, h1, h2, _⟩ := p
    exact PySem.W.kia_one PySem.W.kitx_tuple I.kIn ⟨o, h1, h2⟩ e (fun z => nomatch z) h
  | @dK a kvs ea =>
    cases (show u = Value.ref a from rx)
    obtain ⟨_, _, vs, _, p⟩ := (show zbZ X.prog X.w H s.heap a (.dK kvs) from I.hok a _ ea)
    obtain ⟨o, es, ep, h1, h2, _⟩ := p
    exact PySem.W.kia_one PySem.W.kitx_dict I.kIn ⟨o, h1, h2.1⟩ e (fun z => nomatch z) h
  | @dT a kvs ea =>
    cases (show u = Value.ref a from rx)
    obtain ⟨_, _, xs, _, o, es, ep, h1, h2, _⟩ := (show zbZ X.prog X.w H s.heap a (.dT kvs) from I.hok a _ ea)
    exact PySem.W.kia_one PySem.W.kitx_dict I.kIn ⟨o, h1, h2.1⟩ e (fun z => nomatch z) h
  | @ins a C dx fs ea cl ha hn htk hm =>
    cases (show u = Value.ref a from rx)
    obtain ⟨mA, O, _⟩ := zgm I.hok ea
    obtain ⟨od, J, _⟩ := O.look
    exact PySem.W.kia_one (PySem.W.kitx_own (cl.get _) cl.hd ha hn htk hm) I.kIn J e (fun z => nomatch z) h
end
end L2
namespace L2
open PySem PySem.Spec PyProof.Rows
structure Room (k : Nat) (A : Around) : Prop where
 hd : A.handled = none
 dp : A.depth + 3 * k + 5 < recursionLimit
 un : A.units + 16 * k + 200 < cLine
theorem Room.mono {j k : Nat} {A : Around} (r : Room k A) (h : j ≤ k) : Room j A := ⟨r.hd, by have := r.dp; omega, by have := r.un; omega⟩
theorem Room.deeper {k : Nat} {A : Around} (r : Room (k + 1) A) (env : Env) : Room k (A.deeper env) :=
 ⟨r.hd, by have := r.dp; show A.depth + 1 + 3 * k + 5 < _; omega, by have := r.un; show A.units + 3 + 16 * k + 200 < _; omega⟩
theorem ziw {A : Around} {C : Addr} {us : List Value} {kw : List (Str × Value)} : (A.under (.builtin "type.__call__" ⟨.ref C :: us, kw⟩)).depth = A.depth + 1 := by
 first | rfl | simp [Around.under, Code.weight, Code.isCreation, Code.isGuard, Code.isCaller, Code.frames, Code.isFrame, guardIds]
theorem zir {A : Around} {C : Addr} {us : List Value} {kw : List (Str × Value)} : (A.under (.builtin "type.__call__" ⟨.ref C :: us, kw⟩)).units = A.units + 1 := by
 first | rfl | simp [Around.under, Code.cUnits, Code.frames, Code.isFrame]
theorem Room.make {k : Nat} {A : Around} (r : Room (k + 1) A) (C : Addr) (us : List Value) (kw : List (Str × Value)) : Room k (A.under (.builtin "type.__call__" ⟨.ref C :: us, kw⟩)) :=
 ⟨r.hd, by have := r.dp; rw [ziw]; omega, by have := r.un; rw [zir]; omega⟩
theorem Room.depth {k : Nat} {A : Around} (r : Room k A) : A.depth < recursionLimit := by have := r.dp; omega
theorem Room.units {k : Nat} {A : Around} (r : Room k A) : A.units + 64 < cLine := by have := r.un; omega
def tNil : TA := fun _ H Q => Q [] H
def tCons (ta : TE) (tr : TA) : TA := fun σ H Q => ta σ H fun x H1 => tr σ H1 fun xs H2 => Q (x :: xs) H2
section
variable {X : Cx} {e : Expr} {es : List Expr} {te : TE} {t : TA} {pos : Pos}
theorem zd2 : PA X [] tNil := fun _ _ _ _ H Q I h => Calls.spliced_nil ⟨[], H, I, .nil, h⟩
theorem zbR (ha : PE X e te) (hr : PA X es t) (hs : starEach (e :: es) X.env = (false, eval e X.env) :: starEach es X.env := by rfl) : PA X (e :: es) (tCons te t) := by
 intro pos pins s σ H Q I h
 rw [hs]
 show wpAny _ _ (spliced ((false, eval e X.env) :: backTo pos (starEach es X.env))) _ _ s
 refine Calls.spliced_cons (thn (ha pins s σ H _ I h) fun u s1 ⟨x, H1, I1, r1, q1⟩ => ?_)
 exact thn (hr pos pins s1 σ H1 _ I1 q1) fun us s2 ⟨xs, H2, I2, r2, q2⟩ => ⟨x :: xs, H2, I2, .cons r1 r2, q2⟩
def tTup (t : TA) : TE := fun σ H Q => t σ H fun xs H1 => xs.length ≤ sizeLine ∧ ∀ p, H1 p = none → Q (.ref p) (upd H1 p (.tup xs))
def tLst (t : TA) : TE := fun σ H Q => t σ H fun xs H1 => xs.length ≤ sizeLine ∧ ∀ p, H1 p = none → Q (.ref p) (upd H1 p (.lst xs))
theorem pe_tup {x1} (h : PA X es t) : PE X (.Tuple es x1 pos) (tTup t) := by
 intro pins s σ H Q I hq
 refine wpAny_Tuple_spliced (thn (h pos pins s σ H _ I hq) fun us s1 ⟨xs, H1, I1, r, z, q⟩ => ⟨by rw [← r.length]; exact z, ?_⟩)
 have hf : H1 s1.heap.objs.size = none := I1.hok.fresh (Nat.le_refl _)
 refine ⟨.ref s1.heap.objs.size, upd H1 s1.heap.objs.size (.tup xs), I1.laid (t' := s1.toks) (fun b u e => Heap.get?_push_of_some _ e) (Nat.le_refl _) ?_, rfl, q _ hf⟩
 exact ⟨z, us, r, ⟨_, Heap.get?_push_size _ rfl, rfl, _, rfl⟩⟩
theorem pe_lst (h : PA X es t) : PE X (.List es pos) (tLst t) := by
 intro pins s σ H Q I hq
 refine wpAny_List_spliced (thn (h pos pins s σ H _ I hq) fun us s1 ⟨xs, H1, I1, r, z, q⟩ => ⟨by rw [← r.length]; exact z, ?_⟩)
 have hf : H1 s1.heap.objs.size = none := I1.hok.fresh (Nat.le_refl _)
 refine ⟨.ref s1.heap.objs.size, upd H1 s1.heap.objs.size (.lst xs), I1.laid (t' := s1.toks) (fun b u e => Heap.get?_push_of_some _ e) (Nat.le_refl _) ?_, rfl, q _ hf⟩
 exact ⟨z, us, 0, r, Heap.get?_push_size _ rfl⟩
end
abbrev Sp := List V → Hp → VK → XK → Prop
abbrev CXT := List Env → Hp → Shared → XK → Value → Shared → Prop
structure Env0 (P : Program) (w : World) (K : PySem.W.Frag) (mg : Str → Option Value) (base : Heap) (A : Around) (outer : List Env) (s : Shared) (H : Hp) : Prop where
 frames : A.frames = some outer
 mod : Mod K mg base
 bs : ∀ b o, base.get? b = some o → s.heap.get? b = some o ∧ H b = none
 bsz : base.objs.size ≤ s.heap.objs.size
 funs : s.heap.FunFrames base outer
 frf : ∀ b ∈ frs outer, H b = none
 hok : HOk P w H s.heap
 bare : AllBare s.gens
def CE (outer : List Env) (P : Program) (w : World) (H : Hp) (s : Shared) (Q : VK) (u : Value) (s' : Shared) : Prop :=
 ∃ v H', s'.os = s.os ∧ AllBare s'.gens ∧ Un (frs outer) [] H H' s.heap s'.heap ∧ HOk P w H' s'.heap ∧ RelV v u ∧ Q v H'
def CR (CX : CXT) (outer : List Env) (P : Program) (w : World) (H : Hp) (s : Shared) (Q : VK) (E : XK) (r : Result) (s' : Shared) : Prop :=
 match r with
 | .ok (.ret u) => CE outer P w H s Q u s'
 | .ok _ => False
 | .error e => CX outer H s E e s'
structure FnOk (P : Program) (w : World) (K : PySem.W.Frag) (mg : Str → Option Value) (base : Heap) (CX : CXT) (k : Nat) (f : Addr) (fd : FuncData) (ps : List Str) (sp : Sp) : Prop where
 len : ∀ vs H Q E, sp vs H Q E → vs.length = ps.length
 run : ∀ (A : Around) (outer : List Env) (s : Shared) (H : Hp) (args : Args) (us : List Value) (vs : List V) (Q : VK) (E : XK), Room k A → Env0 P w K mg base A outer s H → BindsTo s fd args (ps.zip us) → Vals vs us → sp vs H Q E →
  codeAny (model P w) A (.call (.ref f) args) (CR CX outer P w H s Q E) s
theorem FnOk.mono {P : Program} {w : World} {K : PySem.W.Frag} {mg : Str → Option Value} {base : Heap} {CX : CXT} {j k : Nat} {f : Addr} {fd : FuncData} {ps : List Str} {sp : Sp} (F : FnOk P w K mg base CX j f fd ps sp) (h : j ≤ k) :
  FnOk P w K mg base CX k f fd ps sp := ⟨F.len, fun A outer s H args us vs Q E hr => F.run A outer s H args us vs Q E (hr.mono h)⟩
theorem Env0.make {P : Program} {w : World} {K : PySem.W.Frag} {mg : Str → Option Value} {base : Heap} {A : Around} {outer : List Env} {s : Shared} {H : Hp} (e : Env0 P w K mg base A outer s H) (C : Addr) (us : List Value) (kw : List (Str × Value)) :
  Env0 P w K mg base (A.under (.builtin "type.__call__" ⟨.ref C :: us, kw⟩)) outer s H := ⟨by first | exact e.frames | (simpa [Around.under, Code.envs, Code.isFrame, pushEnvs] using e.frames), e.mod, e.bs, e.bsz, e.funs, e.frf, e.hok, e.bare⟩
section
variable {X : Cx} {pins : List (Addr × Obj)} {σ : St} {H : Hp} {s s' : Shared}
theorem Inv.env0 (I : Inv X pins σ H s) : Env0 X.prog X.w X.K X.mg X.base X.A X.stack s H :=
 ⟨I.ok.frames, I.ok.mod, I.bs, Nat.le_trans I.ok.bsz I.sz, I.stack, I.stkFree, I.hok, I.bare⟩
theorem Inv.after {Q : VK} {u : Value} (I : Inv X pins σ H s) (h : CE X.stack X.prog X.w H s Q u s') : EP X pins σ Q u s' := by
 obtain ⟨v, H', os, bare, un, hok, r, q⟩ := h
 obtain ⟨hh, g, d, t, os'⟩ := s'
 obtain rfl : os' = s.os := os
 exact ⟨v, H', I.call (h' := hh) (g' := g) (d' := d) (t' := t) (ch := []) un hok bare (fun b z => absurd z (by simp)), r, q⟩
end
def tCall (sp : Sp) (dvs : List V) (E : XK) (t : TA) : TE := fun σ H Q => t σ H fun vs H1 => sp (vs ++ dvs) H1 Q E
def tMeth (C : Addr) (m : Str) (sp : Sp) (dvs : List V) (E : XK) (ta : TE) (t : TA) : TE := fun σ H Q => ta σ H fun x H1 => ∃ a dx fs, x = .ref a ∧ H1 a = some (.ins C dx fs) ∧ fs.lookup m = none ∧
 t σ H1 fun vs H2 => sp (x :: (vs ++ dvs)) H2 Q E
def tMake (C : Addr) (sp : Sp) (dvs : List V) (E : XK) (t : TA) : TE := fun σ H Q => t σ H fun vs H1 => ∀ x dx, H1 x = none → H1 dx = none → dx ≠ x →
 sp (.ref x :: (vs ++ dvs)) (upd (upd H1 dx (.own x)) x (.ins C dx [])) (fun v H2 => v = .non ∧ Q (.ref x) H2) E
def Binds (K : PySem.W.Frag) (fd : FuncData) (ps : List Str) (ds : List Value) : Prop :=
 ∀ (s : Shared) (us : List Value), K.In s.heap → (us ++ ds).length = ps.length → BindsTo s fd ⟨us, []⟩ (ps.zip (us ++ ds))
theorem Binds.all {K : PySem.W.Frag} {fd : FuncData} {ps : List Str} (h : ∀ us : List Value, us.length = ps.length → bindArgs fd ⟨us, []⟩ = pure (ps.zip us)) : Binds K fd ps [] := fun s us _ hl => by
 rw [List.append_nil] at hl ⊢
 exact .of_eq (h us hl)
def Passes (CX : CXT) (X : Cx) (E : XK) : Prop := ∀ (pins : List (Addr × Obj)) (σ : St) (H : Hp) (s : Shared) (e : Value) (s' : Shared), Inv X pins σ H s → CX X.stack H s E e s' → X.xe e s'
section
variable {X : Cx} {CX : CXT} {k : Nat} {f C : Addr} {fd : FuncData} {ps : List Str} {sp : Sp} {dvs : List V} {ds : List Value} {E : XK} {x m : Str} {p pos apos : Pos} {e o : Expr} {es : List Expr} {ta : TE} {t : TA}
theorem zjd {pins : List (Addr × Obj)} {σ : St} {H : Hp} {s : Shared} {Q : VK} {us : List Value} {vs : List V} (F : FnOk X.prog X.w X.K X.mg X.base CX k f fd ps sp) (hr : Room k X.A) (hb : Binds X.K fd ps ds) (hd : Vals dvs ds) (hx : Passes CX X E)
    (I : Inv X pins σ H s) (r : Vals vs us) (h : sp (vs ++ dvs) H Q E) : wpAny (model X.prog X.w) X.A (call (.ref f) us) (EP X pins σ Q) X.xe s := by
  have r2 : Vals (vs ++ dvs) (us ++ ds) := r.append hd
  have hl : (us ++ ds).length = ps.length := by rw [← r2.length]; exact F.len _ _ _ _ h
  refine wpAny_call (codeAny_mono (F.run X.A X.stack s H ⟨us, []⟩ (us ++ ds) (vs ++ dvs) Q E hr I.env0 (hb s us I.kIn hl) r2 h) fun r s' hq => ?_)
  cases r with
  | error e => exact hx pins σ H s e s' I hq
  | ok fl =>
    cases fl with
    | ret u => exact I.after hq
    | next => exact False.elim hq
    | brk => exact False.elim hq
    | cont => exact False.elim hq
theorem zl7 (F : FnOk X.prog X.w X.K X.mg X.base CX k f fd ps sp) (hr : Room k X.A) (hg : Gl X x) (hm : X.mg x = some (.ref f)) (hk : PySem.W.keepIn X.K (.ref f) = true) (hb : Binds X.K fd ps ds) (hd : Vals dvs ds) (hx : Passes CX X E)
  (ha : PA X (e :: es) t) (hdb : (x == ("__debug__" : Str)) = false := by decide) (he : starEach (e :: es) X.env = (false, eval e X.env) :: starEach es X.env := by rfl) (hpl : (backTo pos (starEach es X.env)).any (·.1) = false := by rfl) :
  PE X (.Call (.Name x p) (e :: es) [] pos) (tCall sp dvs E t) := by
 intro pins s σ H Q I h
 refine wpAny_Call_Name_kw (zc3 I hg hm ?_ hdb)
 refine PySem.W.callWith_K (h₀ := X.base) I.ok.mod.kin hk (thn (ha pos pins s σ H _ I h) fun us s1 ⟨vs, H1, I1, r, q⟩ => ⟨I1.kIn, ?_⟩) he hpl
 exact zjd F hr hb hd hx I1 r q
theorem zmo {pl : Sem Bool} (he : PE X o ta) (c : Cls X.K C) (hm : Meth X.K C m f) (F : FnOk X.prog X.w X.K X.mg X.base CX k f fd ps sp) (hr : Room k X.A) (hb : Binds X.K fd ps ds) (hd : Vals dvs ds) (hx : Passes CX X E) (ha : PA X (e :: es) t)
  (hst : starEach (e :: es) X.env = (false, eval e X.env) :: starEach es X.env := by rfl) (hpl : (backTo pos (starEach es X.env)).any (·.1) = false := by rfl)
  (ht : eval (.Call (.Attribute o m apos) (e :: es) [] pos) X.env = (do
   let ov ← eval o X.env
   standAt apos.atName
   let (f, first) ← holding [ov] (getMethod ov m pl)
   callWith pos f first (backTo pos (starEach (e :: es) X.env)) (backToKw pos (keywordEach [] X.env))) := by rfl) :
  PE X (.Call (.Attribute o m apos) (e :: es) [] pos) (tMeth C m sp dvs E ta t) := by
 intro pins s σ H Q I h
 refine PySem.W.methodCall_KW (pl := pl) (thn (he pins s σ H _ I h) fun u s1 ⟨x, H1, I1, rx, a, dx, fs, ex, ea, l, q⟩ => ?_) ht
 subst ex
 obtain rfl : u = Value.ref a := rx
 refine zfE I1 ea c hm l ?_
 refine PySem.W.callWith_K (first := [.ref a]) (h₀ := X.base) I.ok.mod.kin hm.kp (thn (ha pos pins s1 σ H1 _ I1 q) fun us s2 ⟨vs, H2, I2, r, q2⟩ => ⟨I2.kIn, ?_⟩) hst hpl
 exact zjd (us := .ref a :: us) (vs := .ref a :: vs) F hr hb hd hx I2 (.cons rfl r) q2
theorem zkU {pl : Sem Bool} (he : PE X o ta) (c : Cls X.K C) (hm : Meth X.K C m f) (F : FnOk X.prog X.w X.K X.mg X.base CX k f fd ps sp) (hr : Room k X.A) (hb : Binds X.K fd ps ds) (hd : Vals dvs ds) (hx : Passes CX X E)
  (ht : eval (.Call (.Attribute o m apos) [] [] pos) X.env = (do
   let ov ← eval o X.env
   standAt apos.atName
   let (f, first) ← holding [ov] (getMethod ov m pl)
   callWith pos f first (backTo pos (starEach [] X.env)) (backToKw pos (keywordEach [] X.env))) := by rfl) :
  PE X (.Call (.Attribute o m apos) [] [] pos) (tMeth C m sp dvs E ta tNil) := by
 intro pins s σ H Q I h
 refine PySem.W.methodCall_KW (pl := pl) (thn (he pins s σ H _ I h) fun u s1 ⟨x, H1, I1, rx, a, dx, fs, ex, ea, l, q⟩ => ?_) ht
 subst ex
 obtain rfl : u = Value.ref a := rx
 refine zfE I1 ea c hm l ?_
 exact PySem.W.callWith_K0 (first := [.ref a]) I1.kIn hm.kp (zjd (us := [.ref a]) (vs := [.ref a]) F hr hb hd hx I1 (.cons rfl .nil) q)
structure Mk (K : PySem.W.Frag) (C f : Addr) : Prop where
 makes : PySem.W.makesIn K C = true
 init : PySem.W.findIn K (.ref C) "__init__" = some (some (.ref f))
 fn : PySem.W.isFn K (.ref f) = true
 kp : PySem.W.keepIn K (.ref C) = true
theorem zkJ {pins : List (Addr × Obj)} {σ : St} {H : Hp} {s : Shared} {Q : VK} {us : List Value} {vs : List V} (M : Mk X.K C f) (F : FnOk X.prog X.w X.K X.mg X.base CX k f fd ps sp) (hr : Room (k + 1) X.A) (hb : Binds X.K fd ps ds) (hd : Vals dvs ds)
    (hx : Passes CX X E) (I : Inv X pins σ H s) (r : Vals vs us)
    (h : ∀ x dx, H x = none → H dx = none → dx ≠ x → sp (.ref x :: (vs ++ dvs)) (upd (upd H dx (.own x)) x (.ins C dx [])) (fun v H2 => v = .non ∧ Q (.ref x) H2) E) :
    wpAny (model X.prog X.w) X.A (call (.ref C) us) (EP X pins σ Q) X.xe s := by
  have hq := h (s.heap.objs.size + 1) s.heap.objs.size (I.hok.fresh (Nat.le_succ _)) (I.hok.fresh (Nat.le_refl _)) (Nat.ne_of_lt (Nat.lt_succ_self _))
  have I2 := Inv.made (C := C) I
  have r2 : Vals (V.ref (s.heap.objs.size + 1) :: (vs ++ dvs)) (Value.ref (s.heap.objs.size + 1) :: (us ++ ds)) := .cons rfl (r.append hd)
  have hl : (Value.ref (s.heap.objs.size + 1) :: us ++ ds).length = ps.length := by
    have e := r2.length
    rw [F.len _ _ _ _ hq] at e
    exact e.symm
  refine wpAny_call (zkD (f := f) I.kIn M.makes M.init (beq_iff_eq.mp M.fn) (codeAny_mono (F.run _ X.stack _ _ ⟨Value.ref (s.heap.objs.size + 1) :: us, []⟩ (Value.ref (s.heap.objs.size + 1) :: (us ++ ds)) _ _ E (hr.make C us [])
    (I2.env0.make C us []) (hb _ (Value.ref (s.heap.objs.size + 1) :: us) I2.kIn hl) r2 hq) fun r s' hq' => ?_))
  cases r with
  | error e => exact hx pins σ _ _ e s' I2 hq'
  | ok fl =>
    cases fl with
    | ret u =>
      obtain ⟨v, H', I3, rv, ev, q3⟩ := I2.after hq'
      subst ev
      exact ⟨rv, ⟨V.ref (s.heap.objs.size + 1), H', I3, rfl, q3⟩⟩
    | next => exact False.elim hq'
    | brk => exact False.elim hq'
    | cont => exact False.elim hq'
theorem zm2 (M : Mk X.K C f) (F : FnOk X.prog X.w X.K X.mg X.base CX k f fd ps sp) (hr : Room (k + 1) X.A) (hg : Gl X x) (hm : X.mg x = some (.ref C)) (hb : Binds X.K fd ps ds) (hd : Vals dvs ds) (hx : Passes CX X E)
  (ha : PA X (e :: es) t) (hdb : (x == ("__debug__" : Str)) = false := by decide) (he : starEach (e :: es) X.env = (false, eval e X.env) :: starEach es X.env := by rfl) (hpl : (backTo pos (starEach es X.env)).any (·.1) = false := by rfl) :
  PE X (.Call (.Name x p) (e :: es) [] pos) (tMake C sp dvs E t) := by
 intro pins s σ H Q I h
 refine wpAny_Call_Name_kw (zc3 I hg hm ?_ hdb)
 refine PySem.W.callWith_K (h₀ := X.base) I.ok.mod.kin M.kp (thn (ha pos pins s σ H _ I h) fun us s1 ⟨vs, H1, I1, r, q⟩ => ⟨I1.kIn, ?_⟩) he hpl
 exact zkJ M F hr hb hd hx I1 r q
end
section
variable {X : Cx} {CX : CXT} {k : Nat} {f C : Addr} {fd : FuncData} {ps ks : List Str} {sp : Sp} {E : XK} {x m : Str} {p pos apos kpos : Pos} {e o : Expr} {es : List Expr} {kws : List Keyword} {te ta : TE} {t tk : TA} {nm : Option Str}
structure KBinds (K : PySem.W.Frag) (fd : FuncData) (ps ks : List Str) (g : List Value → List Value → List Value) (gV : List V → List V → List V) : Prop where
 to : ∀ (s : Shared) (us ws : List Value), K.In s.heap → (g us ws).length = ps.length → BindsTo s fd ⟨us, ks.zip ws⟩ (ps.zip (g us ws))
 rel : ∀ {vs : List V} {us : List Value} {zs : List V} {ws : List Value}, Vals vs us → Vals zs ws → Vals (gV vs zs) (g us ws)
variable {g : List Value → List Value → List Value} {gV : List V → List V → List V}
end
structure FnScope (N P : List Str) (sc : Scope) : Prop where
 kind : sc.kind = .function
 co : sc.isCoroutine = false
 gen : sc.isGenerator = false
 nd : N.Nodup
 pre : N.take P.length = P
 par : ∀ x ∈ P, sc.names.lookup x = some .local ∨ sc.names.lookup x = some .cell
 nofree : ∀ y ∈ sc.names, y.2 ≠ .free
theorem zgO {kindOf : Str → Option NameKind} {x : Str} : ∀ {binds : List (Str × Value)} {m : Str → Option Value}, (∀ v, (x, v) ∉ binds) → bindL kindOf binds m x = m x
  | [], _, _ => rfl
  | (n, v) :: r, m, h => by
    unfold bindL
    rw [zgO fun w hw => h w (List.mem_cons_of_mem _ hw)]
    split
    · have : x ≠ n := by rintro rfl; exact h v List.mem_cons_self
      simp [this]
    · rfl
theorem zgB {kindOf : Str → Option NameKind} {x : Str} : ∀ {binds : List (Str × Value)} {m : Str → Option Value}, (∀ v, (x, v) ∉ binds) → bindC kindOf binds m x = m x
  | [], _, _ => rfl
  | (n, v) :: r, m, h => by
    unfold bindC
    rw [zgB fun w hw => h w (List.mem_cons_of_mem _ hw)]
    split
    · rfl
    · have : x ≠ n := by rintro rfl; exact h v List.mem_cons_self
      simp [this]
theorem zgY {kindOf : Str → Option NameKind} {x : Str} {v : Value} : ∀ {P : List Str} {vs : List Value} {i : Nat} {m : Str → Option Value}, P.Nodup → P[i]? = some x → vs[i]? = some v → kindOf x = some .local →
    bindL kindOf (P.zip vs) m x = some v
  | [], _, _, _, _, h, _, _ => by simp at h
  | _ :: _, [], _, _, _, _, h, _ => by simp at h
  | p :: P, w :: vs, 0, m, nd, h1, h2, hk => by
    simp at h1 h2; subst h1; subst h2
    show bindL kindOf ((p, w) :: P.zip vs) m p = _
    unfold bindL
    rw [zgO fun v hv => (List.nodup_cons.mp nd).1 (List.of_mem_zip hv).1, if_pos hk]
    simp
  | p :: P, w :: vs, i + 1, m, nd, h1, h2, hk => by
    show bindL kindOf ((p, w) :: P.zip vs) m x = _
    unfold bindL
    exact zgY (i := i) (List.nodup_cons.mp nd).2 (by simpa using h1) (by simpa using h2) hk
theorem zgU {kindOf : Str → Option NameKind} {x : Str} {v : Value} : ∀ {P : List Str} {vs : List Value} {i : Nat} {m : Str → Option Value}, P.Nodup → P[i]? = some x → vs[i]? = some v → kindOf x ≠ some .local →
    bindC kindOf (P.zip vs) m x = some v
  | [], _, _, _, _, h, _, _ => by simp at h
  | _ :: _, [], _, _, _, _, h, _ => by simp at h
  | p :: P, w :: vs, 0, m, nd, h1, h2, hk => by
    simp at h1 h2; subst h1; subst h2
    show bindC kindOf ((p, w) :: P.zip vs) m p = _
    unfold bindC
    rw [zgB fun v hv => (List.nodup_cons.mp nd).1 (List.of_mem_zip hv).1, if_neg hk]
    simp
  | p :: P, w :: vs, i + 1, m, nd, h1, h2, hk => by
    show bindC kindOf ((p, w) :: P.zip vs) m x = _
    unfold bindC
    exact zgU (i := i) (List.nodup_cons.mp nd).2 (by simpa using h1) (by simpa using h2) hk
def start (N : List Str) (vs : List V) : St := vs.map some ++ List.replicate (N.length - vs.length) none
def cxOf (CX : CXT) (P : Program) (w : World) (K : PySem.W.Frag) (mg : Str → Option Value) (base : Heap) (N : List Str) (qual : Str) (scope : Scope) (f : Addr) (cd : Value) (A : Around) (outer : List Env) (s : Shared) (H : Hp) (E : XK) : Cx where
 prog := P
 w := w
 K := K
 mg := mg
 base := base
 A := A.deeper (envOfC qual scope s.heap.objs.size f cd)
 N := N
 s₀ := s
 H₀ := H
 env := envOfC qual scope s.heap.objs.size f cd
 outer := outer
 stack := envOfC qual scope s.heap.objs.size f cd :: outer
 ex := []
 calm := true
 fn := fun _ => true
 pn := []
 xe := fun e s' => wpAny (model P w) (A.deeper (envOfC qual scope s.heap.objs.size f cd)) (leaving (envOfC qual scope s.heap.objs.size f cd) e) (fun _ s'' => CX outer H s E e s'') (fun e' s'' => CX outer H s E e' s'') s'
theorem zhS {sc : Scope} {n : Nat} {x : Str} (h : sc.names.lookup x = some .cell) : ∃ c, (cellsFrom n sc.names []).lookup x = some c := by
 have q := PySem.W.cellsFrom_some sc.names n [] (.inl h)
 exact Option.isSome_iff_exists.mp q
theorem zji {CX : CXT} {P : Program} {w : World} {K : PySem.W.Frag} {mg : Str → Option Value} {base : Heap} {N ps : List Str} {qual : Str} {scope : Scope} {f : Addr} {cd : Value} {A : Around} {outer : List Env} {s s1 : Shared} {H : Hp} {E : XK} {us : List Value} {vs : List V}
  (S : FnScope N ps scope) (hd : A.handled = none) (e0 : Env0 P w K mg base A outer s H) (hl : vs.length = ps.length) (r : Vals vs us)
  (x : InCallC s s.heap.objs.size (bindL (envOfC qual scope s.heap.objs.size f cd).kindOf (ps.zip us) fun _ => none) (cellsFrom (s.heap.objs.size + 1) scope.names []) (bindC (envOfC qual scope s.heap.objs.size f cd).kindOf (ps.zip us) fun _ => none) s1) :
  Inv (cxOf CX P w K mg base N qual scope f cd A outer s H E) [] (start N vs) H s1 := by
 have hpl : ps.length ≤ N.length := by have := congrArg List.length S.pre; rw [List.length_take] at this; omega
 obtain ⟨h1, tk, rfl, hk⟩ := x.done
 have noA : ∀ b : Addr, b ∉ (cxOf CX P w K mg base N qual scope f cd A outer s H E).ex := fun b z => absurd (show b ∈ ([] : List Addr) from z) (by simp)
 refine ⟨⟨e0.mod, S.kind, rfl, rfl, Nat.le_refl _, fun y z c h1 h2 => ?_, fun y hy => ?_, fun y c _ h => ?_, fun _ => hd, Around.frames_deeper e0.frames, .inr ⟨rfl, rfl⟩, fun b z => absurd z (noA b), e0.bs, e0.bsz, fun b _ _ => noA b, fun b z => absurd z (noA b), e0.funs, e0.frf⟩,
  rfl, e0.bare, Un.kept hk, ⟨_, x.toInCall.ns, fun i y v h1 h2 h3 => ?_⟩, fun y c h => ⟨_, x.cell y c h⟩, e0.hok.fresh (Nat.le_refl _), fun y c h => ?_, fun p hp => absurd (show p ∈ ([] : List (Addr × Obj)) from hp) (by simp), e0.hok.kept hk, ?_⟩
 ·exact name_of_addr x.apart (PySem.mem_of_lookup h1) (PySem.mem_of_lookup h2)
 ·have hy : scope.names.lookup y = some .cell ∨ scope.names.lookup y = some .free := hy
  rcases hy with hy | hy
  ·exact zhS hy
  ·exact absurd rfl (S.nofree _ (PySem.mem_of_lookup hy))
 ·exact Nat.le_of_lt (x.above y c (PySem.mem_of_lookup h))
 ·have hi : i < vs.length := by
   unfold start at h2
   by_cases hi : i < vs.length
   ·exact hi
   ·rw [List.getElem?_append_right (by simpa using hi)] at h2
    rw [List.getElem?_replicate] at h2
    split at h2 <;> cases h2
  have ha : vs[i]? = some v := by
   unfold start at h2
   rw [List.getElem?_append_left (by simpa using hi), List.getElem?_map] at h2
   cases e : vs[i]? with
   | none => rw [e] at h2; cases h2
   | some a => rw [e] at h2; cases h2; rfl
  obtain ⟨u, hu, rv⟩ := r.get ha
  have hp : ps[i]? = some y := by
   rw [← S.pre, List.getElem?_take_of_lt (by omega)]; exact h1
  have ndP : ps.Nodup := by rw [← S.pre]; exact S.nd.sublist (List.take_sublist _ _)
  refine ⟨u, rv, ?_⟩
  rcases S.par y (List.mem_of_getElem? hp) with k | k
  ·exact .inl ⟨k, zgY ndP hp hu k⟩
  ·obtain ⟨c, e⟩ := zhS (n := s.heap.objs.size + 1) k
   refine .inr ⟨.inl k, c, e, ?_⟩
   have q := x.cell y c e
   rw [zgU ndP hp hu (by show scope.names.lookup y ≠ _; rw [k]; decide)] at q
   exact q
 ·exact e0.hok.fresh (Nat.le_of_lt (x.above y c (PySem.mem_of_lookup h)))
 ·unfold start
  show _ = N.length
  rw [List.length_append, List.length_map, List.length_replicate]
  omega
theorem znr {CX : CXT} {P : Program} {w : World} {K : PySem.W.Frag} {mg : Str → Option Value} {base : Heap} {k : Nat} {f : Addr} {name qual : Str} {params : Arguments} {body : List Stmt} {scope : Scope} {dV kV doc pm cdv ct oc : Value} {an od : Option Addr}
    {osl : Array (Option Value)} {N ps : List Str} {sp : Sp} (lk : K.lookup f = some ⟨oc, od, .func (PySem.W.fnOf name qual params body scope dV kV doc pm an cdv ct), osl⟩) (hcd : PySem.W.codeIn K cdv qual = true) (S : FnScope N ps scope)
    (len : ∀ vs H Q E, sp vs H Q E → vs.length = ps.length)
    (hbody : ∀ (A : Around) (outer : List Env) (s : Shared) (H : Hp) (vs : List V) (Q : VK) (E : XK), Room k (A.deeper (envOfC qual scope s.heap.objs.size f cdv)) → sp vs H Q E →
      ∃ t, PSs (cxOf CX P w K mg base N qual scope f cdv A outer s H E) body t ∧ t { nx := fun _ H' => Q .non H', rt := Q } (start N vs) H) :
    FnOk P w K mg base CX (k + 1) f (PySem.W.fnOf name qual params body scope dV kV doc pm an cdv ct) ps sp := by
  refine ⟨len, fun A outer s H args us vs Q E hr e0 hb r hsp => ?_⟩
  have hl := len _ _ _ _ hsp
  have KX : K.In s.heap := e0.mod.kin.keeps fun b o e => (e0.bs b o e).1
  have lim : s.heap.NoLimit := e0.mod.nolimit.keeps fun b o e => (e0.bs b o e).1
  have hkind : ∀ y ∈ ps.zip us, scope.names.lookup y.1 = some .local ∨ (scope.names.lookup y.1 = some .cell ∧ ((cellsFrom (s.heap.objs.size + 1) scope.names []).lookup y.1).isSome = true) := fun ⟨n, v⟩ hy => by
    rcases S.par n (List.of_mem_zip hy).1 with q | q
    · exact .inl q
    · exact .inr ⟨q, PySem.W.cellsFrom_some _ _ _ (.inl q)⟩
  refine codeAny_call_function hr.depth (KX _ _ lk) rfl S.co S.gen rfl (PySem.W.codeRec_of KX hcd) (hb _ _ _ _ ?_)
  refine wpAny_newFunctionEnv_cells S.kind hkind fun env he s1 x => ?_
  subst he
  refine ⟨lim.keeps x.toInCall.keep, codeAny_func ?_⟩
  obtain ⟨t, ht, hq⟩ := hbody A outer s H vs Q E (hr.deeper _) hsp
  have I : Inv (cxOf CX P w K mg base N qual scope f cdv A outer s H E) [] (start N vs) H s1 := zji S hr.hd e0 hl r x
  refine wpAny_mono (ht [] s1 (start N vs) H _ I hq) (fun fl s' hs => ?_) fun e s' hs => hs
  have fin : ∀ {σ' : St} {H' : Hp} {v : V} {u : Value}, Inv (cxOf CX P w K mg base N qual scope f cdv A outer s H E) [] σ' H' s' → RelV v u → Q v H' → CE outer P w H s Q u s' :=
    fun {σ' H' v u} J rv q => ⟨v, H', J.os, J.bare, J.base, J.hok, rv, q⟩
  cases fl with
  | ret u =>
    obtain ⟨v, σ', H', J, rv, q⟩ := hs
    exact fin J rv q
  | next =>
    obtain ⟨σ', H', J, q⟩ := hs
    exact fin (v := V.non) (u := Value.none) J rfl q
  | brk =>
    obtain ⟨_, _, _, q⟩ := hs
    exact False.elim q
  | cont =>
    obtain ⟨_, _, _, q⟩ := hs
    exact False.elim q
end L2
namespace L2
open PySem PySem.Spec PyProof.Rows
section
variable {X : Cx} {x : Str} {p pos : Pos} {e : Expr} {es : List Expr} {t : TA} {id T : String} {r : List V → Hp → VK → Prop}
def tCB (r : List V → Hp → VK → Prop) (t : TA) : TE := fun σ H Q => t σ H fun vs H1 => r vs H1 Q
theorem zbf (hc : zcO X (.builtin id) r) (hg : Gl X x) (hm : X.mg x = none) (hv : bootBuiltins x = some (.builtin id)) (ha : PA X (e :: es) t) (hn : x ≠ "__name__" := by decide) (hdb : (x == ("__debug__" : Str)) = false := by decide)
  (he : starEach (e :: es) X.env = (false, eval e X.env) :: starEach es X.env := by rfl) (hpl : (backTo pos (starEach es X.env)).any (·.1) = false := by rfl) : PE X (.Call (.Name x p) (e :: es) [] pos) (tCB r t) := by
 intro pins s σ H Q I h
 refine wpAny_Call_Name_kw (zfV I hg hm hv ?_ hn hdb)
 exact PyProof.Rows.callWith_builtin1 (thn (ha pos pins s σ H _ I h) fun us s1 ⟨vs, H1, I1, r1, q1⟩ => hc pins s1 σ H1 vs us Q I1 r1 q1) he hpl
theorem zcN (hc : zcO X (.type T) r) (hg : Gl X x) (hm : X.mg x = none) (hv : bootBuiltins x = some (.type T)) (ha : PA X (e :: es) t) (hn : x ≠ "__name__" := by decide) (hdb : (x == ("__debug__" : Str)) = false := by decide)
  (he : starEach (e :: es) X.env = (false, eval e X.env) :: starEach es X.env := by rfl) (hpl : (backTo pos (starEach es X.env)).any (·.1) = false := by rfl) : PE X (.Call (.Name x p) (e :: es) [] pos) (tCB r t) := by
 intro pins s σ H Q I h
 refine wpAny_Call_Name_kw (zfV I hg hm hv ?_ hn hdb)
 exact PyProof.Rows.callWith_type1 (thn (ha pos pins s σ H _ I h) fun us s1 ⟨vs, H1, I1, r1, q1⟩ => hc pins s1 σ H1 vs us Q I1 r1 q1) he hpl
end
end L2
namespace HT
open PySem PyProof.Rows
section
open PySem.SeqAt
open PySem.AutoSeq1 (wpAny_loadPart')
open PySem.MeetsSeq PySem.MeetsSeq2 PySem.MeetsSeq3
end
section
variable {prog : Program} {w : World} {A : Around} {E : Value → Shared → Prop} {s : Shared}
def sIx (n d : Nat) : Option Int → Nat
 | none => d
 | some v => if v < 0 then (v + (n : Int)).toNat else min v.toNat n
theorem zif (n d : Nat) : sIx n d none = d := rfl
theorem zjv (n d k : Nat) : sIx n d (some (k : Int)) = min k n := by
 show (if (k : Int) < 0 then ((k : Int) + (n : Int)).toNat else min (k : Int).toNat n) = min k n
 rw [if_neg (by omega), Int.toNat_natCast]
end
end HT
namespace L2
open PySem PySem.Spec PyProof.Rows
abbrev TO := St → Hp → (Option Int → Hp → Prop) → Prop
def PO (X : Cx) (e : Option Expr) (t : TO) : Prop :=
 ∀ (pins : List (Addr × Obj)) (s : Shared) (σ : St) (H : Hp) (Q : Option Int → Hp → Prop), Inv X pins σ H s → t σ H Q →
  wpAny (model X.prog X.w) X.A (evalPart e X.env) (fun u s' => ∃ o H', Inv X pins σ H' s' ∧ IsPart u o ∧ Q o H') X.xe s
def znj : TO := fun _ H Q => Q none H
def tPart (t : TE) : TO := fun σ H Q => t σ H fun x H1 => ∃ i, x = .int i ∧ Q (some i) H1
section
variable {X : Cx} {e : Expr} {te : TE} {lo hi : Option Expr} {tl th : TO} {pos p2 : Pos}
theorem znf : PO X none znj := by
 intro pins s σ H Q I h
 rw [evalPart_none]
 exact wpAny_pure ⟨none, H, I, .none, h⟩
theorem zmd (h : PE X e te) : PO X (some e) (tPart te) := by
 intro pins s σ H Q I hw
 rw [evalPart_some]
 refine thn (h pins s σ H _ I hw) fun u s1 ⟨x, H1, I1, r1, q1⟩ => ?_
 obtain ⟨i, rfl, q⟩ := q1
 obtain ⟨t, rfl⟩ := r1
 exact ⟨some i, H1, I1, .int i t, q⟩
def SlR (X : Cx) (r : V → Option Int → Option Int → Hp → VK → Prop) : Prop :=
 ∀ (pins : List (Addr × Obj)) (s : Shared) (σ : St) (H : Hp) (x : V) (v vl vu : Value) (lo hi : Option Int) (sl : Addr) (Q : VK), Inv X pins σ H s → RelV x v → s.heap.IsSliceOf sl vl vu .none → IsPart vl lo → IsPart vu hi → r x lo hi H Q →
  ∃ T id, typeLookup (.type T) "__getitem__" = pure (some (.builtin id)) ∧ s.TypeIs v T ∧ wpAny (model X.prog X.w) X.A (getItem v (.ref sl)) (EP X pins σ Q) X.xe s
theorem SlR.or {r r' : V → Option Int → Option Int → Hp → VK → Prop} (h : SlR X r) (h' : SlR X r') : SlR X (fun x lo hi H Q => r x lo hi H Q ∨ r' x lo hi H Q) := by
 intro pins s σ H x v vl vu lo hi sl Q I rx hs pl pu q
 rcases q with q | q
 ·exact h pins s σ H x v vl vu lo hi sl Q I rx hs pl pu q
 ·exact h' pins s σ H x v vl vu lo hi sl Q I rx hs pl pu q
def tSl (r : V → Option Int → Option Int → Hp → VK → Prop) (te : TE) (tl th : TO) : TE := fun σ H Q => te σ H fun x H1 => tl σ H1 fun l H2 => th σ H2 fun u H3 => r x l u H3 Q
theorem zkX {r : V → Option Int → Option Int → Hp → VK → Prop} (hr : SlR X r) (he : PE X e te) (hl : PO X lo tl) (hu : PO X hi th) : PE X (.Subscript e (.Slice lo hi none p2) pos) (tSl r te tl th) := by
 intro pins s σ H Q I h
 refine Subscript_ (thn (he pins s σ H _ I h) fun v s1 ⟨x, H1, I1, r1, q1⟩ => ?_)
 refine wpAny_Slice (thn (hl pins s1 σ H1 _ I1 q1) fun vl s2 ⟨l, H2, I2, pl, q2⟩ => thn (hu pins s2 σ H2 _ I2 q2) fun vu s3 ⟨u, H3, I3, pu, q3⟩ => ?_)
 rw [evalPart_none]
 refine wpAny_pure ?_
 have I4 : Inv X pins σ H3 { s3 with heap := s3.heap.push { cls := .type "slice", data := .fields #[vl, vu, .none] } } := I3.kept (t' := s3.toks) fun b ob q => Heap.get?_push_of_some _ q
 obtain ⟨T, id, hT, ht, hg⟩ := hr pins { s3 with heap := s3.heap.push { cls := .type "slice", data := .fields #[vl, vu, .none] } } σ H3 x v vl vu l u s3.heap.objs.size Q I4 r1 (Heap.IsSliceOf.new ..) pl pu q3
 show wpAny (model X.prog X.w) X.A (subscriptTail e (.Slice lo hi none p2) v (.ref s3.heap.objs.size)) (EP X pins σ Q) X.xe { s3 with heap := s3.heap.push { cls := .type "slice", data := .fields #[vl, vu, .none] } }
 exact tail_any (ops := [.ref s3.heap.objs.size, v]) ht hT hg (by with_unfolding_all rfl)
def cutV (xs : List V) (lo hi : Option Int) : List V := (xs.drop (HT.sIx xs.length 0 lo)).take (HT.sIx xs.length xs.length hi - HT.sIx xs.length 0 lo)
theorem zhD (xs : List V) (lo hi : Option Int) : (cutV xs lo hi).length ≤ xs.length := by
 unfold cutV
 rw [List.length_take, List.length_drop]
 omega
end
end L2
namespace L2
open PySem PySem.Spec PyProof.Rows
def ixN (n : Nat) (i : Int) : Option Nat := if 0 ≤ i then (if i < n then some i.toNat else none) else if -(n : Int) ≤ i then some (i + n).toNat else none
def atI {α : Type} (xs : List α) (i : Int) : Option α := (ixN xs.length i).bind fun j => xs[j]?
theorem zmb {n : Nat} {i : Int} {j : Nat} (h : ixN n i = some j) : seqIndex? i n = some j ∧ j < n ∧ -(n : Int) ≤ i ∧ i < n := by
 unfold ixN at h
 by_cases h0 : 0 ≤ i
 ·rw [if_pos h0] at h
  by_cases h1 : i < n
  ·rw [if_pos h1] at h
   have e : i.toNat = j := Option.some.inj h
   exact ⟨by rw [seqIndex_of h0 h1, e], by omega, by omega, h1⟩
  ·rw [if_neg h1] at h; cases h
 ·rw [if_neg h0] at h
  by_cases h1 : -(n : Int) ≤ i
  ·rw [if_pos h1] at h
   have e : (i + n).toNat = j := Option.some.inj h
   exact ⟨by rw [seqIndex_neg (by omega) h1, e], by omega, h1, by omega⟩
  ·rw [if_neg h1] at h; cases h
theorem zhI {α : Type} {xs : List α} {i : Int} {v : α} (h : atI xs i = some v) : ∃ j, seqIndex? i xs.length = some j ∧ xs[j]? = some v ∧ j < xs.length ∧ -(xs.length : Int) ≤ i ∧ i < xs.length := by
  unfold atI at h
  cases e : ixN xs.length i with
  | none => rw [e] at h; cases h
  | some j =>
    rw [e] at h
    obtain ⟨h1, h2, h3, h4⟩ := zmb e
    exact ⟨j, h1, h, h2, h3, h4⟩
theorem zby {α : Type} {xs : List α} {j : Nat} {v : α} (h : xs[j]? = some v) : atI xs (j : Int) = some v := by
 have hj : j < xs.length := (List.getElem?_eq_some_iff.mp h).1
 have e : ixN xs.length (j : Int) = some j := by
  unfold ixN
  rw [if_pos (by omega), if_pos (by omega)]; simp
 unfold atI; rw [e]; exact h
def ziZ (b : Expr) : Prop := ∀ o i, subscripted b false o i = operate [o, i] (getItem o i)
def IxR (X : Cx) (r : R2) : Prop :=
 ∀ (value slice : Expr) (pins : List (Addr × Obj)) (s : Shared) (σ : St) (H : Hp) (x y : V) (v u : Value) (Q : VK), Inv X pins σ H s → RelV x v → RelV y u → r x y H Q →
  subscripted slice false v u = operate [v, u] (getItem v u) → wpAny (model X.prog X.w) X.A (subscriptTail value slice v u) (EP X pins σ Q) X.xe s
def MtR (X : Cx) (id : String) (r : V → List V → Hp → VK → Prop) : Prop :=
 ∀ (pins : List (Addr × Obj)) (s : Shared) (σ : St) (H : Hp) (x : V) (xs : List V) (v : Value) (us : List Value) (Q : VK), Inv X pins σ H s → RelV x v → Vals xs us → r x xs H Q →
  wpAny (model X.prog X.w) X.A (call (.builtin id) (v :: us)) (EP X pins σ Q) X.xe s
section
variable {X : Cx} {a b : Expr} {ta tb : TE} {pos : Pos}
theorem IxR.or {r r' : R2} (h : IxR X r) (h' : IxR X r') : IxR X (fun x y H Q => r x y H Q ∨ r' x y H Q) := by
 intro value slice pins s σ H x y v u Q I rx ry q hs
 rcases q with q | q
 ·exact h value slice pins s σ H x y v u Q I rx ry q hs
 ·exact h' value slice pins s σ H x y v u Q I rx ry q hs
theorem pe_ix {r : R2} (hr : IxR X r) (ha : PE X a ta) (hb : PE X b tb) (hs : ziZ b) : PE X (.Subscript a b pos) (tOp r ta tb) := by
 intro pins s σ H Q I h
 exact Subscript_ (binT ha hb I h fun v u s2 x y H2 I2 rx ry q => hr a b pins s2 σ H2 x y v u Q I2 rx ry q (hs _ _))
def rIxL (K : PySem.W.Frag) : R2 := fun x y H Q => ∃ p xs i v, x = .ref p ∧ y = .int i ∧ SqL K H p xs ∧ atI xs i = some v ∧ Q v H
def rIxT (K : PySem.W.Frag) : R2 := fun x y H Q => ∃ p xs i v, x = .ref p ∧ y = .int i ∧ SqT K H p xs ∧ atI xs i = some v ∧ Q v H
def rIxS : R2 := fun x y H Q => ∃ z i c, x = .str z ∧ y = .int i ∧ z.length ≤ sizeLine ∧ atI z.cps.toList i = some c ∧ Q (.str ⟨#[c]⟩) H
theorem zmC : IxR X (rIxL X.K) := by
 intro value slice pins s σ H x y v u Q I rx ry h hs
 obtain ⟨p, xs, i, z, rfl, rfl, hq, he, q⟩ := h
 cases rx
 obtain ⟨t, rfl⟩ := ry
 obtain ⟨its, r, pl, hz⟩ := I.list hq
 obtain ⟨j, h1, h2, h3, h4, h5⟩ := zhI he
 obtain ⟨w, ew, rw'⟩ := r.get h2
 have hl := r.length
 have hn := zdP
 have fin : EP X pins σ Q w s := ⟨z, H, I, rw', q⟩
 by_cases h0 : 0 ≤ i
 ·have hj : i.toNat = j := by
   rw [seqIndex_of h0 h5] at h1
   exact Option.some.inj h1
  exact item_listR pl.isList h0 (by omega) (by rw [hj]; simpa using ew) fin hs
 ·have hj : (i + (its.toArray.size : Int)).toNat = j := by
   rw [seqIndex_neg (by omega) h4] at h1
   rw [List.size_toArray, ← hl]
   exact Option.some.inj h1
  exact subscriptTail_builtinR (x := w) pl.isList.typeIs slot_list_getitem.lookup
   (wpAny_getItem_list_neg (Q := fun r s' => r = w ∧ EP X pins σ Q r s') pl.isList (by omega) (by rw [List.size_toArray] <;> omega) (by omega) (by rw [hj]; simpa using ew) ⟨rfl, fin⟩) hs
theorem ix_tup : IxR X (rIxT X.K) := by
 intro value slice pins s σ H x y v u Q I rx ry h hs
 obtain ⟨p, xs, i, z, rfl, rfl, hq, he, q⟩ := h
 cases rx
 obtain ⟨t, rfl⟩ := ry
 obtain ⟨its, r, pl, hz⟩ := I.tuple hq
 obtain ⟨j, h1, h2, h3, h4, h5⟩ := zhI he
 obtain ⟨w, ew, rw'⟩ := r.get h2
 have hl := r.length
 have hn := zdP
 have fin : EP X pins σ Q w s := ⟨z, H, I, rw', q⟩
 exact subscriptTail_builtinR (x := w) pl.typeIs slot_tuple_getitem.lookup
  (getItem_tuple (j := j) (Q := fun r s' => r = w ∧ EP X pins σ Q r s') pl (by omega) (by omega) (by rw [List.size_toArray, ← hl]; exact h1) (by simpa using ew) ⟨rfl, fin⟩) hs
theorem ix_str : IxR X rIxS := by
 intro value slice pins s σ H x y v u Q I rx ry h hs
 obtain ⟨z, i, c, rfl, rfl, hz, he, q⟩ := h
 obtain ⟨t, rfl⟩ := rx
 obtain ⟨t', rfl⟩ := ry
 obtain ⟨j, h1, h2, h3, h4, h5⟩ := zhI he
 have hl : z.cps.toList.length = z.length := by simp [Str.length]
 rw [hl] at h1 h4 h5
 have hn := zdP
 exact tail_any (typeIs_str s z t) slot_str_getitem.lookup (getItem_str (c := c) (by
  have e1 : decide (i < -(2 ^ 63 : Int)) = false := decide_eq_false (by omega)
  have e2 : decide (i ≥ 2 ^ 63) = false := decide_eq_false (by omega)
  rw [e1, e2, Bool.or_false]) (by rw [h1]; simpa using h2) ⟨.str ⟨#[c]⟩, H, I.tok _, ⟨_, rfl⟩, q⟩) hs
def rIx (K : PySem.W.Frag) : R2 := fun x y H Q => rIxL K x y H Q ∨ rIxT K x y H Q ∨ rIxS x y H Q
theorem zhe (lo hi : Option Int) (n : Nat) : (sliceBounds lo hi none n).1 = ((HT.sIx n 0 lo : Nat) : Int) ∧ (sliceBounds lo hi none n).2.1 = ((HT.sIx n n hi : Nat) : Int) ∧ (sliceBounds lo hi none n).2.2 = 1 := by
  refine ⟨?_, ?_, rfl⟩
  · cases lo with
    | none => simp [sliceBounds, HT.sIx]
    | some i =>
      simp only [sliceBounds, HT.sIx, Option.getD_none, show (1 : Int) > 0 by decide, if_true]
      by_cases h : i < 0
      · simp only [h, if_true] <;> omega
      · simp only [h, if_false] <;> omega
  · cases hi with
    | none => simp [sliceBounds, HT.sIx]
    | some i =>
      simp only [sliceBounds, HT.sIx, Option.getD_none, show (1 : Int) > 0 by decide, if_true]
      by_cases h : i < 0
      · simp only [h, if_true] <;> omega
      · simp only [h, if_false] <;> omega
theorem zgg (its : List Value) (lo hi : Option Int) : slicePick its.toArray lo hi none = ((its.drop (HT.sIx its.length 0 lo)).take (HT.sIx its.length its.length hi - HT.sIx its.length 0 lo)).toArray := by
 obtain ⟨h1, h2, h3⟩ := zhe lo hi its.toArray.size
 unfold slicePick
 rw [h1, h2, h3]
 simp only [sliceRange_one, pick_run, List.size_toArray] <;> rfl
def rSlL (K : PySem.W.Frag) : V → Option Int → Option Int → Hp → VK → Prop := fun x lo hi H Q => ∃ a xs, x = .ref a ∧ SqL K H a xs ∧ ∀ p, H p = none → Q (.ref p) (upd H p (.lst (cutV xs lo hi)))
theorem zmE : SlR X (rSlL X.K) := by
 intro pins s σ H x v vl vu lo hi sl Q I rx hs pl pu h
 obtain ⟨a, xs, rfl, hx, q⟩ := h
 cases rx
 obtain ⟨its, r, ht, hz⟩ := I.list hx
 have hlen := r.length
 refine ⟨"list", _, slot_list_getitem.lookup, ht.isList.typeIs, ?_⟩
 refine wpAny_getItem_list_slice ht.isList hs pl pu .none (by simp) ?_ (by rw [List.size_toArray] <;> omega)
 rw [zgg, ← hlen]
 refine ⟨.ref s.heap.objs.size, _, I.laid (t' := s.toks) (o := .lst (cutV xs lo hi)) (fun b ob q => Heap.get?_push_of_some _ q) (Nat.le_refl _) ?_, rfl, q _ (I.hok.fresh (Nat.le_refl _))⟩
 exact ⟨Nat.le_trans (zhD xs lo hi) hz, _, 0, (r.drop (HT.sIx xs.length 0 lo)).take (HT.sIx xs.length xs.length hi - HT.sIx xs.length 0 lo), Heap.get?_push_size _ rfl⟩
def zfy : V → Bool
 | .non => true
 | .bl _ => true
 | .int _ => true
 | .str _ => true
 | _ => false
def eqV : V → V → Bool
 | .non, .non => true
 | .bl a, .bl b => a == b
 | .bl a, .int b => (if a then 1 else 0) == b
 | .int a, .bl b => a == (if b then 1 else 0)
 | .int a, .int b => a == b
 | .str a, .str b => a == b
 | _, _ => false
theorem zoK {A : Around} {s : Shared} {y x : V} {u v : Value} (ry : RelV y u) (rx : RelV x v) (fy : zfy y = true) (fx : zfy x = true) : SeqAt.EqAt A s u v (eqV y x) := by
  cases y with
  | non =>
    cases ry
    cases x with
    | non => cases rx; exact SeqAt.EqAt.same _
    | bl b => cases rx; exact SeqAt.EqAt.none_bool b
    | int b => obtain ⟨t, rfl⟩ := rx; exact SeqAt.EqAt.none_int b t
    | str b => obtain ⟨t, rfl⟩ := rx; exact SeqAt.EqAt.none_str b t
    | _ => exact absurd (show false = true from fx) Bool.false_ne_true
  | bl a =>
    cases ry
    cases x with
    | non => cases rx; exact SeqAt.EqAt.bool_none a
    | bl b => cases rx; exact SeqAt.EqAt.bool_bool a b
    | int b => obtain ⟨t, rfl⟩ := rx; exact SeqAt.EqAt.bool_int a b t
    | str b => obtain ⟨t, rfl⟩ := rx; exact SeqAt.EqAt.bool_str a b t
    | _ => exact absurd (show false = true from fx) Bool.false_ne_true
  | int a =>
    obtain ⟨t', rfl⟩ := ry
    cases x with
    | non => cases rx; exact SeqAt.EqAt.int_none a t'
    | bl b => cases rx; exact SeqAt.EqAt.int_bool a t' b
    | int b => obtain ⟨t, rfl⟩ := rx; exact SeqAt.EqAt.int_int a t' b t
    | str b => obtain ⟨t, rfl⟩ := rx; exact SeqAt.EqAt.int_str a t' b t
    | _ => exact absurd (show false = true from fx) Bool.false_ne_true
  | str a =>
    obtain ⟨t', rfl⟩ := ry
    cases x with
    | non => cases rx; exact SeqAt.EqAt.str_none a t'
    | bl b => cases rx; exact SeqAt.EqAt.str_bool a t' b
    | int b => obtain ⟨t, rfl⟩ := rx; exact SeqAt.EqAt.str_int a t' b t
    | str b => obtain ⟨t, rfl⟩ := rx; exact SeqAt.EqAt.str_str a t' b t
    | _ => exact absurd (show false = true from fx) Bool.false_ne_true
  | _ => exact absurd (show false = true from fy) Bool.false_ne_true
def eqU (x : V) (u : Value) : Bool := match u with
 | .none => eqV .non x
 | .bool b => eqV (.bl b) x
 | .int i _ => eqV (.int i) x
 | .str z _ => eqV (.str z) x
 | _ => false
theorem zk6 {x y : V} {u : Value} (r : RelV y u) (f : zfy y = true) : eqU x u = eqV y x := by
 cases y with
 | non => cases r; rfl
 | bl b => cases r; rfl
 | int i => obtain ⟨t, rfl⟩ := r; rfl
 | str z => obtain ⟨t, rfl⟩ := r; rfl
 | _ => exact absurd (show false = true from f) Bool.false_ne_true
theorem ze1 {x : V} : ∀ {xs : List V} {us : List Value}, Vals xs us → xs.all zfy = true → us.any (eqU x) = xs.any fun y => eqV y x
  | _, _, .nil, _ => rfl
  | y :: xs, u :: us, .cons r t, f => by
    rw [List.all_cons, Bool.and_eq_true] at f
    rw [List.any_cons, List.any_cons, zk6 r f.1, ze1 t f.2]
theorem zdM {A : Around} {s : Shared} {x : V} {v : Value} (rx : RelV x v) (fx : zfy x = true) : ∀ {xs : List V} {us : List Value}, Vals xs us → xs.all zfy = true → ∀ u ∈ us, SeqAt.EqAt A s u v (eqU x u)
  | _, _, .nil, _ => fun u hu => by cases hu
  | y :: xs, u :: us, .cons r t, f => fun u' hu => by
    rw [List.all_cons, Bool.and_eq_true] at f
    rcases List.mem_cons.mp hu with rfl | hu
    · rw [zk6 r f.1]; exact zoK r rx f.1 fx
    · exact zdM rx fx t f.2 u' hu
def inV (x : V) (xs : List V) : Bool := xs.any fun y => eqV y x
def rIn (K : PySem.W.Frag) (neg : Bool) : R2 := fun x y H Q => ∃ p xs, y = .ref p ∧ (SqL K H p xs ∨ SqT K H p xs) ∧ zfy x = true ∧ xs.all zfy = true ∧ Q (.bl (if neg then !inV x xs else inV x xs)) H
theorem zjD : OpR X (compareOp .In) (rIn X.K false) := by
 intro pins s σ H x y v u Q I rx ry h
 obtain ⟨p, xs, rfl, hq, fx, fs, q⟩ := h
 cases ry
 rcases hq with hq | hq
 ·obtain ⟨its, r, pl, hz⟩ := I.list hq
  refine SeqAt.in_listAt (eqU x) pl.isList (fun w hw => zdM rx fx r fs w (by simpa using hw)) ⟨.bl _, H, I, rfl, ?_⟩
  rw [show its.toArray.any (eqU x) = its.any (eqU x) by simp, ze1 r fs]
  exact q
 ·obtain ⟨its, r, pl, hz⟩ := I.tuple hq
  refine SeqAt.in_tupleAt (eqU x) pl (fun w hw => zdM rx fx r fs w (by simpa using hw)) ⟨.bl _, H, I, rfl, ?_⟩
  rw [show its.toArray.any (eqU x) = its.any (eqU x) by simp, ze1 r fs]
  exact q
theorem zhb : OpR X (compareOp .NotIn) (rIn X.K true) := by
 intro pins s σ H x y v u Q I rx ry h
 obtain ⟨p, xs, rfl, hq, fx, fs, q⟩ := h
 cases ry
 rcases hq with hq | hq
 ·obtain ⟨its, r, pl, hz⟩ := I.list hq
  refine SeqAt.notIn_listAt (eqU x) pl.isList (fun w hw => zdM rx fx r fs w (by simpa using hw)) ⟨.bl _, H, I, rfl, ?_⟩
  rw [show its.toArray.any (eqU x) = its.any (eqU x) by simp, ze1 r fs]
  exact q
 ·obtain ⟨its, r, pl, hz⟩ := I.tuple hq
  refine SeqAt.notIn_tupleAt (eqU x) pl (fun w hw => zdM rx fx r fs w (by simpa using hw)) ⟨.bl _, H, I, rfl, ?_⟩
  rw [show its.toArray.any (eqU x) = its.any (eqU x) by simp, ze1 r fs]
  exact q
theorem zg7 : zcO X (.builtin "len") (fun xs H Q => ∃ p ys, xs = [.ref p] ∧ (SqL X.K H p ys ∨ SqT X.K H p ys) ∧ Q (.int ys.length) H) := by
 intro pins s σ H xs us Q I r h
 obtain ⟨p, ys, rfl, hq, q⟩ := h
 obtain ⟨u, rfl, rx⟩ := vals1 r
 cases rx
 have hn := zdP
 rcases hq with hq | hq
 ·obtain ⟨its, r', pl, hz⟩ := I.list hq
  have hlen := r'.length
  exact Calls.call_len_list pl.isList (by simp only [List.size_toArray] <;> omega) ⟨.int ys.length, H, I.tok _, ⟨s.toks + 1, by rw [List.size_toArray, hlen]⟩, q⟩
 ·obtain ⟨its, r', pl, hz⟩ := I.tuple hq
  have hlen := r'.length
  exact len_tuple pl (by simp only [List.size_toArray] <;> omega) ⟨.int ys.length, H, I.tok _, ⟨s.toks + 1, by rw [List.size_toArray, hlen]⟩, q⟩
theorem zhi : zcO X (.builtin "len") (fun xs H Q => ∃ z, xs = [.str z] ∧ z.length ≤ sizeLine ∧ Q (.int z.length) H) := by
 intro pins s σ H xs us Q I r h
 obtain ⟨z, rfl, hz, q⟩ := h
 obtain ⟨u, rfl, t, rfl⟩ := vals1 r
 have hn := zdP
 exact len_str (by omega) ⟨.int z.length, H, I.tok _, ⟨_, rfl⟩, q⟩
theorem zcO.or {f : Value} {r r' : List V → Hp → VK → Prop} (h : zcO X f r) (h' : zcO X f r') : zcO X f (fun xs H Q => r xs H Q ∨ r' xs H Q) := by
 intro pins s σ H xs us Q I rs q
 rcases q with q | q
 ·exact h pins s σ H xs us Q I rs q
 ·exact h' pins s σ H xs us Q I rs q
theorem zgD : zcO X (.type "list") (fun xs H Q => ∃ p ys, xs = [.ref p] ∧ (SqL X.K H p ys ∨ SqT X.K H p ys) ∧ ∀ l, H l = none → Q (.ref l) (upd H l (.lst ys))) := by
 intro pins s σ H xs us Q I r h
 obtain ⟨p, ys, rfl, hq, q⟩ := h
 obtain ⟨u, rfl, rx⟩ := vals1 r
 cases rx
 have fin : ∀ (its : List Value), Vals ys its → ys.length ≤ sizeLine → ∀ (h' : Heap) (c' : Nat), (∀ b o', s.heap.get? b = some o' → h'.get? b = some o') →
   h'.get? s.heap.objs.size = some { cls := .type "list", dict := none, data := .seq its.toArray c', slots := #[] } → EP X pins σ Q (.ref s.heap.objs.size) { s with heap := h' } := fun its r' hz h' c' kp e =>
  ⟨.ref s.heap.objs.size, _, I.laid (t' := s.toks) kp (Nat.le_refl _) (show zbZ X.prog X.w _ h' _ (.lst ys) from ⟨hz, its, c', r', e⟩), rfl, q _ (I.hok.fresh (Nat.le_refl _))⟩
 rcases hq with hq | hq
 ·obtain ⟨its, r', pl, hz⟩ := I.list hq
  have hlen := r'.length
  obtain ⟨o, ho, hc, n, hd⟩ := pl.isList
  exact call_list_seq p (.inl rfl) ho hc hd (fun h' c' kp e => fin its r' hz h' c' kp e) (by simp only [List.size_toArray] <;> omega)
 ·obtain ⟨its, r', pl, hz⟩ := I.tuple hq
  have hlen := r'.length
  obtain ⟨o, ho, hc, n, hd⟩ := pl
  exact call_list_seq p (.inr rfl) ho hc hd (fun h' c' kp e => fin its r' hz h' c' kp e) (by simp only [List.size_toArray] <;> omega)
theorem zga : zcO X (.type "tuple") (fun xs H Q => ∃ p ys, xs = [.ref p] ∧ ((SqL X.K H p ys ∧ ∀ l, H l = none → Q (.ref l) (upd H l (.tup ys))) ∨ (SqT X.K H p ys ∧ Q (.ref p) H))) := by
 intro pins s σ H xs us Q I r h
 obtain ⟨p, ys, rfl, h⟩ := h
 obtain ⟨u, rfl, rx⟩ := vals1 r
 cases rx
 rcases h with ⟨hq, q⟩ | ⟨hq, q⟩
 ·obtain ⟨its, r', pl, hz⟩ := I.list hq
  have hlen := r'.length
  refine call_tuple_list pl.isList (fun h' kp => ?_) (by simp only [List.size_toArray] <;> omega)
  have I1 : Inv X pins σ H { s with heap := h' } := I.kept (t' := s.toks) kp
  have I2 : Inv X pins σ (upd H h'.objs.size (.tup ys)) { s with heap := h'.push { cls := .type "tuple", data := .seq its.toArray } } :=
   I1.laid (t' := s.toks) (fun b o e => Heap.get?_push_of_some _ e) (Nat.le_refl _) (show zbZ X.prog X.w _ _ _ (.tup ys) from ⟨hz, its, r', IsTup.new _ _⟩)
  exact ⟨.ref h'.objs.size, _, I2, rfl, q _ (I1.hok.fresh (Nat.le_refl _))⟩
 ·obtain ⟨its, r', pl, hz⟩ := I.tuple hq
  exact call_tuple_same pl ⟨.ref p, H, I, rfl, q⟩
def tyV (K : PySem.W.Frag) (T : String) (x : V) (H : Hp) : Prop := match x with
 | .str _ => T = "str"
 | .int _ => T = "int"
 | .ref p => (T = "list" ∧ ∃ xs, SqL K H p xs) ∨ (T = "tuple" ∧ ∃ o, K.lookup p = some o ∧ o.cls = .type "tuple" ∧ o.dict = none) ∨
   (T = "dict" ∧ ((∃ kvs, H p = some (.dK kvs)) ∨ ∃ kvs, H p = some (.dT kvs))) ∨ (T = "set" ∧ ∃ S n, H p = some (.set S n))
 | _ => False
theorem zk5 {pins : List (Addr × Obj)} {σ : St} {H : Hp} {s : Shared} {T : String} {x : V} {v : Value} (I : Inv X pins σ H s) (r : RelV x v) (ty : tyV X.K T x H) :
    s.TypeIs v T ∧ ∀ a, v = .ref a → ∃ ob, s.heap.get? a = some ob ∧ ob.dict = none := by
  cases x with
  | str z =>
    obtain ⟨t, rfl⟩ := r
    cases (show T = "str" from ty)
    exact ⟨typeIs_str s z t, fun _ e => nomatch e⟩
  | int i =>
    obtain ⟨t, rfl⟩ := r
    cases (show T = "int" from ty)
    exact ⟨typeIs_int s i t, fun _ e => nomatch e⟩
  | ref p =>
    cases r
    rcases ty with ⟨rfl, xs, hq⟩ | ⟨rfl, o, hk, hc, hd⟩ | ⟨rfl, hk⟩ | ⟨rfl, S, n, hk⟩
    · obtain ⟨its, _, pl, _⟩ := I.list hq
      refine ⟨pl.isList.typeIs, fun a e => ?_⟩
      cases e
      obtain ⟨o, n, e, c, hd, _⟩ := pl
      exact ⟨o, e, hd⟩
    · refine ⟨⟨o, I.kIn p o hk, hc⟩, fun a e => ?_⟩
      cases e
      exact ⟨o, I.kIn _ o hk, hd⟩
    · have z : ∃ o, s.heap.get? p = some o ∧ o.ExactDict := by
        rcases hk with ⟨kvs, hk⟩ | ⟨kvs, hk⟩
        · obtain ⟨_, _, _, _, o, _, _, e, ex, _⟩ := I.hok p _ hk
          exact ⟨o, e, ex⟩
        · obtain ⟨_, _, _, _, o, _, _, e, ex, _⟩ := I.hok p _ hk
          exact ⟨o, e, ex⟩
      obtain ⟨o, e, ex⟩ := z
      refine ⟨⟨o, e, ex.1⟩, fun a e2 => ?_⟩
      cases e2
      exact ⟨o, e, ex.2.1⟩
    · obtain ⟨o, _, _, _, e, ex, _⟩ := I.hok p _ hk
      refine ⟨⟨o, e, ex.1⟩, fun a e2 => ?_⟩
      cases e2
      exact ⟨o, e, ex.2.1⟩
  | _ => exact False.elim ty
def tBM0 (K : PySem.W.Frag) (T : String) (r : V → List V → Hp → VK → Prop) (to : TE) : TE := fun σ H Q => to σ H fun x H1 => tyV K T x H1 ∧ r x [] H1 Q
def tBM (K : PySem.W.Frag) (T : String) (r : V → List V → Hp → VK → Prop) (to : TE) (t : TA) : TE := fun σ H Q => to σ H fun x H1 => tyV K T x H1 ∧ t σ H1 fun xs H2 => r x xs H2 Q
variable {o e : Expr} {es : List Expr} {to : TE} {t : TA} {name : Str} {apos cpos : Pos} {T id : String} {r : V → List V → Hp → VK → Prop}
theorem zle (pa : PlainAttrs T) (slot : Slot T name id) (hty : typeOf (.builtin id) = pure (.type "method_descriptor")) (hm : MtR X id r) (ho : PE X o to)
  (hbase : attributeBase o name X.env (eval o X.env) = eval o X.env := by rfl) (hline : (apos.endLine == cpos.line) = true := by rfl) : PE X (.Call (.Attribute o name apos) [] [] cpos) (tBM0 X.K T r to) := by
 intro pins s σ H Q I h
 refine wpAny_Call_method0_late hbase hline (thn (ho pins s σ H _ I h) fun v s1 ⟨x, H1, I1, r1, ty, q1⟩ => ?_)
 obtain ⟨h1, h2⟩ := zk5 I1 r1 ty
 exact ⟨T, id, pa, slot, hty, h1, h2, Calls.callWith_builtin rfl (PySem.evalArgs_none (hm pins s1 σ H1 x [] v [] Q I1 r1 .nil q1))⟩
theorem zkm (pa : PlainAttrs T) (slot : Slot T name id) (hty : typeOf (.builtin id) = pure (.type "method_descriptor")) (hm : MtR X id r) (ho : PE X o to) (ha : PA X (e :: es) t)
  (hbase : attributeBase o name X.env (eval o X.env) = eval o X.env := by rfl)
  (hfew : ((backTo cpos (starEach (e :: es) X.env)).all (fun x => !x.1) && (backToKw cpos (keywordEach [] X.env)).all (fun x => x.1.isSome)
   && decide ((e :: es).length + ([] : List Keyword).length + (if ([] : List Keyword).isEmpty then 0 else 1) < 30)) = true := by rfl)
  (hline : (apos.endLine == cpos.line) = true := by rfl) (hs : starEach (e :: es) X.env = (false, eval e X.env) :: starEach es X.env := by rfl) (hplain : (backTo cpos (starEach es X.env)).any (·.1) = false := by rfl) :
  PE X (.Call (.Attribute o name apos) (e :: es) [] cpos) (tBM X.K T r to t) := by
 intro pins s σ H Q I h
 refine wpAny_Call_method_late hbase hfew hline rfl (thn (ho pins s σ H _ I h) fun v s1 ⟨x, H1, I1, r1, ty, q1⟩ => ?_)
 obtain ⟨h1, h2⟩ := zk5 I1 r1 ty
 refine ⟨T, id, pa, slot, hty, h1, h2, ?_⟩
 have hA := ha cpos pins s1 σ H1 _ I1 q1
 rw [hs] at hA ⊢
 refine Calls.callWith_builtin (by show (false || (backTo cpos (starEach es X.env)).any (·.1)) = false; rw [hplain] <;> rfl) (Calls.evalArgs_plain ?_)
 exact thn hA fun us s2 ⟨vs, H2, I2, r2, q2⟩ => hm pins s2 σ H2 x vs v us Q I2 r1 r2 q2
end
end L2
namespace L2
open PySem PySem.Spec PyProof.Rows
def MtM (X : Cx) (id : String) (r : V → List V → Hp → VK → Prop) : Prop :=
 ∀ (pins : List (Addr × Obj)) (s : Shared) (σ : St) (H : Hp) (x : V) (xs : List V) (v : Value) (us : List Value) (Q : VK), Inv X pins σ H s → RelV x v → Vals xs us → r x xs H Q →
  wpAny (model X.prog X.w) X.A (call (.builtin id) (v :: us)) (EP X pins σ Q) X.xe s
theorem Vals.one : ∀ {x : V} {us : List Value}, Vals [x] us → ∃ u, us = [u] ∧ RelV x u
 | _, _, .cons r .nil => ⟨_, rfl, r⟩
theorem Vals.zero : ∀ {us : List Value}, Vals [] us → us = []
 | _, .nil => rfl
theorem Vals.dropLast {xs : List V} {us : List Value} (h : Vals xs us) : Vals xs.dropLast us.dropLast := by
  induction h with
  | nil => exact .nil
  | cons r t ih =>
    cases t with
    | nil => exact .nil
    | cons q t' => exact .cons r ih
theorem ziF {α : Type} (l : List α) : l.eraseIdx (l.length - 1) = l.dropLast := by
  induction l with
  | nil => rfl
  | cons a r ih =>
    cases r with
    | nil => rfl
    | cons b r =>
      have e : (a :: b :: r).length - 1 = ((b :: r).length - 1) + 1 := by
        have h1 : (a :: b :: r).length = r.length + 2 := rfl
        have h2 : (b :: r).length = r.length + 1 := rfl
        omega
      rw [e, List.eraseIdx_cons_succ, ih]
      all_goals rfl
section
variable {X : Cx} {pins : List (Addr × Obj)} {σ : St} {H : Hp} {s : Shared} {l b : Addr} {xs ys zs : List V}
theorem Inv.lset {its its' : List Value} {n : Nat} {f : Array Value → Array Value} {t' : Nat} (I : Inv X pins σ H s) (hH : H l = some (.lst xs))
  (e : s.heap.get? l = some { cls := .type "list", data := .seq its.toArray n }) (hf : f its.toArray = its'.toArray) (hv : Vals ys its') (hz : ys.length ≤ sizeLine) :
  Inv X pins σ (upd H l (.lst ys)) { s with heap := s.heap.update l (Obj.mapSeq f), toks := t' } := by
 have q := PySem.IsL.update e f
 rw [hf] at q
 refine I.write (x := l) (e := l) (by rw [hH]; exact trivial) (.inl rfl) (fun b' u hb hu => (Heap.get?_update_other s.heap (Obj.mapSeq f) (Ne.symm hb)).trans hu) ⟨_, q⟩ ?_
 exact ⟨hz, its', _, hv, q⟩
theorem Inv.lnew {its : List Value} {t' : Nat} (I : Inv X pins σ H s) (hv : Vals ys its) (hz : ys.length ≤ sizeLine) :
  Inv X pins σ (upd H s.heap.objs.size (.lst ys)) { s with heap := s.heap.push { cls := .type "list", data := .seq its.toArray }, toks := t' } :=
 I.laid (fun _ _ q => Heap.get?_push_of_some _ q) (Nat.le_refl _) ⟨hz, its, 0, hv, Heap.get?_push_size _ rfl⟩
theorem Inv.fresh (I : Inv X pins σ H s) : H s.heap.objs.size = none := I.hok.fresh (Nat.le_refl _)
theorem Inv.lstM (I : Inv X pins σ H s) (hH : H l = some (.lst xs)) : xs.length ≤ sizeLine ∧ ∃ (its : List Value) (n : Nat), Vals xs its ∧ xs.length = its.length ∧ s.heap.get? l = some { cls := .type "list", data := .seq its.toArray n } := by
 obtain ⟨z, its, n, r, e⟩ := I.hok l _ hH
 exact ⟨z, its, n, r, r.length, e⟩
end
section
variable {X : Cx}
def zmz : V → List V → Hp → VK → Prop := fun x vs H Q => ∃ l xs y, x = .ref l ∧ vs = [y] ∧ H l = some (.lst xs) ∧ xs.length < sizeLine ∧ Q .non (upd H l (.lst (xs ++ [y])))
theorem zfo : MtM X "list.append" zmz := by
 intro pins s σ H x vs v us Q I rx rv h
 obtain ⟨l, xs, y, rfl, rfl, hH, hz, q⟩ := h
 cases rx
 obtain ⟨u, rfl, ru⟩ := rv.one
 obtain ⟨z, its, n, r, hl, e⟩ := I.lstM hH
 refine call_meets F.slot_list_append ⟨_, e, rfl⟩ F.entry_list_append (F.args_list_append_2 _ _) (PySem.list_append l its.toArray n u (by rw [List.size_toArray]; omega)) ⟨e, ?_⟩
 refine ⟨.non, _, I.lset (its' := its ++ [u]) hH e (by simp) (r.append (.cons ru .nil)) ?_, rfl, q⟩
 rw [List.length_append, List.length_singleton]
 omega
def rPop : V → List V → Hp → VK → Prop := fun x vs H Q => ∃ l xs y, x = .ref l ∧ vs = [] ∧ H l = some (.lst xs) ∧ xs[xs.length - 1]? = some y ∧ Q y (upd H l (.lst xs.dropLast))
theorem zoL : MtM X "list.pop" rPop := by
 intro pins s σ H x vs v us Q I rx rv h
 obtain ⟨l, xs, y, rfl, rfl, hH, hy, q⟩ := h
 cases rx
 have hus := rv.zero
 subst hus
 obtain ⟨z, its, n, r, hl, e⟩ := I.lstM hH
 obtain ⟨u, hu, ru⟩ := r.get hy
 have hy' : its.toArray[its.toArray.size - 1]? = some u := by
  show its.toArray[its.length - 1]? = some u
  rw [← Array.getElem?_toList, ← hl]
  exact hu
 refine call_meets F.slot_list_pop ⟨_, e, rfl⟩ F.entry_list_pop (F.args_list_pop_1 _) (MeetsSeq.list_pop_last l its.toArray n u hy' (by rw [List.size_toArray]; omega)) ⟨e, ?_⟩
 refine ⟨y, _, I.lset (its' := its.dropLast) hH e ?_ r.dropLast ?_, ru, q⟩
 ·show its.toArray.eraseIdxIfInBounds (its.toArray.size - 1) = its.dropLast.toArray
  rw [List.size_toArray, List.eraseIdxIfInBounds_toArray, ziF]
 ·rw [List.length_dropLast]
  omega
def znt : V → List V → Hp → VK → Prop := fun x vs H Q => ∃ l xs, x = .ref l ∧ vs = [] ∧ H l = some (.lst xs) ∧ Q .non (upd H l (.lst []))
theorem zkb : MtM X "list.clear" znt := by
 intro pins s σ H x vs v us Q I rx rv h
 obtain ⟨l, xs, rfl, rfl, hH, q⟩ := h
 cases rx
 have hus := rv.zero
 subst hus
 obtain ⟨z, its, n, r, hl, e⟩ := I.lstM hH
 refine call_meets F.slot_list_clear ⟨_, e, rfl⟩ F.entry_list_clear (F.args_list_clear_1 _) (AutoSeq1.list_clear_list_0 l its.toArray n (by rw [List.size_toArray]; omega)) ⟨e, ?_⟩
 exact ⟨.non, _, I.lset (its' := []) (ys := []) hH e rfl .nil (Nat.zero_le _), rfl, q⟩
end
section
variable {prog : Program} {w : World} {A : Around} {E : Value → Shared → Prop} {s : Shared}
end
section
variable {X : Cx}
end
end L2
namespace Att
open PySem PySem.W PySem.Calls PyProof.Rows
theorem ze5 {P : Params} {h : Heap} : ∀ (ns : List Int) (vs : List Value), WellAll P h vs (ns.map WData.int) → IntsAre vs ns := by
  intro ns
  induction ns with
  | nil =>
    intro vs w
    rw [List.map_nil] at w
    cases w
    exact .nil
  | cons n ns ih =>
    intro vs w
    rw [List.map_cons] at w
    cases w with
    | cons a b =>
      cases a
      exact .cons _ _ (ih _ b)
theorem zju {l : OpenLaw} {n : Nat} (hn : l.most = some n) {P : Params} {h : Heap} {args : List WData} {vals : List Value}
    (hpre : l.row.toRowW.claim.pre args = true) (hwl : WellAll P h vals args) :
    ∃ a vs ns, vals = [Value.ref a] ∧ args = [WData.list (ns.map WData.int)] ∧ h.get? a = some { cls := .type "list", data := .seq vs.toArray } ∧ IntsAre vs ns ∧ ns.length ≤ n := by
  have hsh : WShape.hasAll [] args [.list .int] = true := (pre_splitW hpre).1
  have hc : l.pre.holds [] { args := args } = true := (pre_splitW hpre).2
  obtain ⟨d, r, rfl, h1, h2⟩ := hasAllW_cons hsh
  obtain rfl := hasAllW_nil h2
  obtain ⟨xs, rfl, h3⟩ := hasW_list h1
  obtain ⟨ns, rfl⟩ := items_int h3
  have hlen : ns.length ≤ n := by
    unfold OpenLaw.pre at hc
    have h4 : (WTm.not (.lt (.lit (.int (n : Int))) (.len (.arg 0)))).holds [] { args := [.list (ns.map .int)] } = true := by
      have h4 := (holds_andW hc).1
      rw [hn] at h4
      exact h4
    have h5 := condW_of h4 (w_not (w_lt w_lit (w_len_list (w_arg rfl))))
    rw [List.length_map] at h5
    refine Nat.le_of_not_lt fun q => ?_
    have q' : (n : Int) < ((ns.length : Nat) : Int) := by omega
    first
      | (rw [decide_eq_true q'] at h5; exact absurd h5 (by decide))
      | (simp at h5; omega)
  cases hwl with
  | cons w1 w2 =>
    cases w2
    cases w1 with
    | list ho hall => exact ⟨_, _, ns, rfl, rfl, ho, ze5 ns _ hall, hlen⟩
theorem ziM (l : OpenLaw) (args : List WData) : l.row.toRowW.claim.post args (.bool true) args = true :=
 postW_of (r := l.row.toRowW) (X := (true == true))
  (show WShape.has [] (.bool true) .bool = true by first | rfl | decide | simp [WShape.has, WShape.arms, WShape.armsAll])
  (show (WTm.eq .res (.lit (.bool true))).value [] { args := args, res := some (.bool true), after := args } = some (.bool (true == true)) from w_eq_bool (w_res rfl) w_lit) rfl
theorem zhz {l : OpenLaw} {n : Nat} {q : Program} {loose : List Str} {XP : (Str → Option Value) → Heap → Prop} {YP : World → Heap → Prop} {d : DefRec}
  (hn : l.most = some n) (hdf : d.params.defaults = [])
  (call : ∀ (w : World) (s₀ s₁ : Shared) (mg mb : Str → Option Value) (fa : Addr) (o : Obj) (pm cd doc : Value) (a : Addr) (vs : List Value) (ns : List Int),
   Ground q loose [] XP w s₀ mg mb s₁.heap → YP w s₁.heap →
   s₁.heap.get? fa = some o → o.data = .func (docDef d.name d.params d.body d.scope pm cd doc) → s₁.heap.CodeRec cd d.name → mg d.name = some (.ref fa) →
   s₁.heap.get? a = some { cls := .type "list", data := .seq vs.toArray } → IntsAre vs ns → ns.length ≤ n → s₁.gens = #[] →
   codeAny (model l.prog w) callerA (.call (.ref fa) ⟨[.ref a], []⟩) (fun r s' => r = .ok (.ret (.bool true)) ∧ OldK s₁.heap s'.heap ∧ s'.os = s₁.os ∧ AllBare s'.gens) s₁) :
  WalkO q loose XP YP l.row.toRowW d [] (fun f vs => PySem.call f vs) := by
 intro w s₀ s₁ mg mb G Y fa o pm cd doc dV kV ho hd hcd hD hmg hg args vals as hpre hlay hrd hwl hlo
 obtain rfl : dV = .none := Dflts.none hD hdf
 obtain rfl : kV = .none := Dflts.noKw hD
 obtain ⟨a, vs, ns, rfl, rfl, hobj, hints, hlen⟩ := zju hn hpre hwl
 refine enter_call (codeAny_mono (call w s₀ s₁ mg mb fa o pm cd doc a vs ns G Y ho (fd_plain hd) hcd hmg hobj hints hlen hg) fun r s' hq => ?_)
 obtain ⟨rfl, h2, h3, h4⟩ := hq
 exact ⟨.inl ⟨.bool true, .bool true, [], rfl, fun _ => rfl, .bool true, ziM l _, fun _ => ⟨List.Pairwise.nil, fun _ hm => (nomatch hm)⟩⟩, h2, h3, h4⟩
section
variable {prog : Program} {w : World} {A : Around} {E : Value → Shared → Prop} {s : Shared} {K : Frag}
end
end Att
namespace L2
open PySem PySem.Spec PyProof.Rows
theorem zgy : ∀ {vs : List Value} {ns : List Int}, IntsAre vs ns → Vals (ns.map V.int) vs
 | _, _, .nil => .nil
 | _, _, .cons n t h => .cons ⟨t, rfl⟩ (zgy h)
def Only (H : Hp) : Prop := ∀ b, H b = none ∨ ∃ o xs, H b = some (.frz o (.lst xs))
theorem zkG {P : Program} {w : World} {K : PySem.W.Frag} {mg mb : Str → Option Value} {CX : CXT} {k : Nat} {fa a : Addr} {fd : FuncData} {x : Str} {sp : Sp} {s₁ : Shared} {vs : List Value} {ns : List Int}
    (KX : K.In s₁.heap) (hns : s₁.heap.Ns mainGlobals mg) (hb : s₁.heap.Ns builtinsNs mb) (hbb : ∀ x : Str, x ≠ "__name__" → mb x = bootBuiltins x) (hlim : s₁.heap.NoLimit) (hg : s₁.gens = #[])
    (ha : s₁.heap.get? a = some { cls := .type "list", data := .seq vs.toArray }) (hi : IntsAre vs ns) (hl : ns.length ≤ sizeLine) (hr : Room k callerA)
    (F : ∀ base : Heap, K.In base → base.Ns mainGlobals mg → FnOk P w K mg base CX k fa fd [x] sp) (hbind : ∀ (s : Shared) (u : Value), BindsTo s fd ⟨[u], []⟩ [(x, u)])
    (hsp : ∀ H : Hp, Only H → SqL K H a (ns.map V.int) → sp [.ref a] H (fun v _ => v = .bl true) fun _ _ _ => False)
    (hCX : ∀ H e s', CX [] H s₁ (fun _ _ _ => False) e s' → False) :
    codeAny (model P w) callerA (.call (.ref fa) ⟨[.ref a], []⟩) (fun r s' => r = .ok (.ret (.bool true)) ∧ OldK s₁.heap s'.heap ∧ s'.os = s₁.os ∧ AllBare s'.gens) s₁ := by
  have rv := zgy hi
  have lenV := hi.length
  -- from an abstract heap in which nothing but the script may be tracked
  have core : ∀ H : Hp, Only H → SqL K H a (ns.map V.int) → HOk P w H s₁.heap → (∀ b, H b ≠ none → b = a) → (H a ≠ none → K.lookup a = none) →
      codeAny (model P w) callerA (.call (.ref fa) ⟨[.ref a], []⟩) (fun r s' => r = .ok (.ret (.bool true)) ∧ OldK s₁.heap s'.heap ∧ s'.os = s₁.os ∧ AllBare s'.gens) s₁ := by
    intro H hO hS hok hA hK
    have base_of : ∀ {b : Addr} {o : Obj}, s₁.heap.get? b = some o → H b = none → (hidT s₁.heap H).get? b = some o := fun e n => zkx e n
    have noA : ∀ {b : Addr} {o : Obj} {es : Array DictEntry} {ep : Nat}, s₁.heap.get? b = some o → o.data = .dict es ep → H b = none := fun {b o es ep} e d => by
      cases q : H b with
      | none => rfl
      | some u =>
        have e' : b = a := hA b (by rw [q]; simp)
        subst e'
        rw [ha] at e; cases e
        have d' : Data.seq vs.toArray _ = Data.dict es ep := d
        cases d'
    have nsK : ∀ {b : Addr} {m : Str → Option Value}, s₁.heap.Ns b m → (hidT s₁.heap H).Ns b m := fun {b m} ⟨o, es, ep, e, d, r⟩ => ⟨o, es, ep, base_of e (noA e d), d, r⟩
    have hKb : K.In (hidT s₁.heap H) := fun b o e => base_of (KX b o e) (by
      cases q : H b with
      | none => rfl
      | some u =>
        have e' : b = a := hA b (by rw [q]; simp)
        subst e'
        rw [hK (by rw [q]; simp)] at e; cases e)
    have hM : Mod K mg (hidT s₁.heap H) := ⟨hKb, nsK hns, ⟨mb, nsK hb, hbb⟩, let ⟨mc, h1, h2⟩ := hlim; ⟨mc, nsK h1, h2⟩⟩
    have e0 : Env0 P w K mg (hidT s₁.heap H) callerA [] s₁ H := ⟨rfl, hM, fun b o e => zmB e, Nat.le_of_eq (ziO _ _), trivial, fun b hb => absurd (show b ∈ ([] : List Addr) from hb) (by simp), hok, .of_eq hg⟩
    refine codeAny_mono ((F _ hKb (nsK hns)).run callerA [] s₁ H ⟨[.ref a], []⟩ [.ref a] [.ref a] _ _ hr e0 (hbind s₁ (.ref a)) (.cons rfl .nil) (hsp H hO hS)) fun r s' h => ?_
    cases r with
    | error e => exact (hCX H e s' h).elim
    | ok fl =>
      cases fl with
      | next => exact False.elim h
      | brk => exact False.elim h
      | cont => exact False.elim h
      | ret u =>
        obtain ⟨v, H', os, bare, un, hok', r', q⟩ := h
        have q' : v = .bl true := q
        subst q'
        obtain rfl : u = Value.bool true := r'
        refine ⟨rfl, OldK.of_keep fun b o e => ?_, os, bare⟩
        cases q : H b with
        | none => exact un.keep b o e q (by intro z; exact absurd (show b ∈ ([] : List Addr) from z) (by simp)) (by simp)
        | some u =>
          rcases hO b with z | ⟨ob, xs, z⟩
          · rw [q] at z; cases z
          · have z2 := un.frzs b ob _ z
            obtain ⟨e1, _⟩ := hok b _ z
            obtain ⟨e2, _⟩ := hok' b _ z2
            rw [e] at e1; cases e1
            exact e2
  cases hk : K.lookup a with
  | some o =>
    -- the script is one of the module's own objects
    have e := KX a o hk
    rw [ha] at e
    cases e
    refine core (fun _ => none) (fun _ => .inl rfl) (.inr ⟨_, vs.toArray, _, hk, rfl, rfl, rfl, by rw [List.size_toArray, lenV]; exact hl, by simpa using rv⟩) (fun b u z => by have z' : (none : Option HO) = some u := z; cases z') (fun b z => absurd rfl z) fun z => absurd rfl z
  | none =>
    refine core (fun b => if b = a then some (.frz { cls := .type "list", data := .seq vs.toArray } (.lst (ns.map V.int))) else none) (fun b => ?_) (.inl (.inr ⟨{ cls := .type "list", data := .seq vs.toArray }, if_pos rfl⟩)) (fun b u z => ?_) (fun b z => ?_) fun _ => hk
    · by_cases hb : b = a
      · exact .inr ⟨_, _, if_pos hb⟩
      · exact .inl (if_neg hb)
    · by_cases hb : b = a
      · have z' := (if_pos hb).symm.trans z
        cases z'
        subst hb
        exact ⟨ha, by rw [List.length_map]; exact hl, vs, _, rv, ha⟩
      · have z' := (if_neg hb).symm.trans z
        cases z'
    · by_cases hb : b = a
      · exact hb
      · exact absurd (if_neg hb) z
end L2
namespace L2
open PySem PySem.Spec PyProof.Rows
theorem zlG {l : PySem.W.OpenLaw} {n k : Nat} {q : Program} {loose : List Str} {XP : (Str → Option Value) → Heap → Prop} {YP : World → Heap → Prop} {d : DefRec} {K : Params → PySem.W.Frag} {CX : World → CXT} {sp : World → Sp} {x : Str}
  (hn : l.most = some n) (hn2 : n ≤ sizeLine) (hdf : d.params.defaults = []) (hr : Room k callerA)
  (hY : ∀ (w : World) (h : Heap), YP w h → (K w.params).In h)
  (F : ∀ (w : World) (mg : Str → Option Value) (fa : Addr) (h : Heap), (K w.params).In h → h.Ns mainGlobals mg → mg d.name = some (.ref fa) →
   ∃ fd : FuncData, (∀ (s : Shared) (u : Value), BindsTo s fd ⟨[u], []⟩ [(x, u)]) ∧
    ∀ base : Heap, (K w.params).In base → base.Ns mainGlobals mg → FnOk l.prog w (K w.params) mg base (CX w) k fa fd [x] (sp w))
  (hsp : ∀ (w : World) (H : Hp) (a : Addr) (ns : List Int), ns.length ≤ n → Only H → SqL (K w.params) H a (ns.map V.int) → sp w [.ref a] H (fun v _ => v = .bl true) fun _ _ _ => False)
  (hCX : ∀ (w : World) (H : Hp) (s : Shared) (e : Value) (s' : Shared), CX w [] H s (fun _ _ _ => False) e s' → False) :
  PySem.W.WalkO q loose XP YP l.row.toRowW d [] (fun f vs => PySem.call f vs) := by
 refine Att.zhz hn hdf fun w s₀ s₁ mg mb fa o pm cd doc a vs ns G Y ho hd hcd hmg hobj hints hlen hg => ?_
 have KX := hY w _ Y
 obtain ⟨fd, hb, hF⟩ := F w mg fa _ KX G.T.g hmg
 exact zkG KX G.T.g G.T.b G.T.builtins G.T.nolimit hg hobj hints (Nat.le_trans hlen hn2) hr hF hb (fun H hO hS => hsp w H a ns hlen hO hS) fun H e s' => hCX w H s₁ e s'
theorem zkN {l : PySem.W.OpenLaw} {n k : Nat} {q : Program} {loose : List Str} {XP : (Str → Option Value) → Heap → Prop} {YP : World → Heap → Prop} {d : DefRec} {K : Params → PySem.W.Frag} {CX : CXT} {sp : PySem.W.Frag → Sp} {x : Str}
  (hn : l.most = some n) (hn2 : n ≤ sizeLine) (hdf : d.params.defaults = []) (hr : Room k callerA)
  (hY : ∀ (w : World) (h : Heap), YP w h → (K w.params).In h)
  (F : ∀ (w : World) (mg : Str → Option Value) (fa : Addr) (h : Heap), (K w.params).In h → h.Ns mainGlobals mg → mg d.name = some (.ref fa) →
   ∃ fd : FuncData, (∀ (s : Shared) (u : Value), BindsTo s fd ⟨[u], []⟩ [(x, u)]) ∧
    ∀ base : Heap, (K w.params).In base → base.Ns mainGlobals mg → FnOk l.prog w (K w.params) mg base CX k fa fd [x] (sp (K w.params)))
  (hsp : ∀ (K : PySem.W.Frag) (H : Hp) (a : Addr) (ns : List Int), ns.length ≤ n → Only H → SqL K H a (ns.map V.int) → sp K [.ref a] H (fun v _ => v = .bl true) fun _ _ _ => False)
  (hCX : ∀ (H : Hp) (s : Shared) (e : Value) (s' : Shared), CX [] H s (fun _ _ _ => False) e s' → False) :
  PySem.W.WalkO q loose XP YP l.row.toRowW d [] (fun f vs => PySem.call f vs) :=
 zlG (K := K) (CX := fun _ => CX) (sp := fun w => sp (K w.params)) hn hn2 hdf hr hY F (fun w H a ns h1 h2 h3 => hsp (K w.params) H a ns h1 h2 h3) fun _ H s e s' => hCX H s e s'
end L2
namespace L2
open PySem PySem.Spec PyProof.Rows
def zaH (s : Stmt) : Arguments := match s with
 | .FunctionDef _ a _ _ _ _ _ _ _ _ => a
 | _ => { posonlyargs := [], args := [], vararg := none, kwonlyargs := [], kw_defaults := [], kwarg := none, defaults := [] }
def zal (s : Stmt) : List Stmt := match s with
 | .FunctionDef _ _ b _ _ _ _ _ _ _ => b
 | _ => []
def zaa (s : Stmt) : Scope := match s with
 | .FunctionDef _ _ _ _ _ _ sc _ _ _ => sc
 | _ => { kind := .function, names := [], isGenerator := false, isCoroutine := false }
abbrev CX0 : CXT := fun _ _ _ _ _ _ => False
abbrev E0 : XK := fun _ _ _ => False
theorem zkO {X : Cx} : Passes CX0 X E0 := fun _ _ _ _ _ _ _ h => h.elim
structure Fun (K : PySem.W.Frag) (x qual : Str) (st : Stmt) (f : Addr) (fd : FuncData) : Prop where
 ex : ∃ (oc : Value) (od : Option Addr) (kV doc pm : Value) (an : Option Addr) (cdv ct : Value) (osl : Array (Option Value)),
  fd = PySem.W.fnOf x qual (zaH st) (zal st) (zaa st) .none kV doc pm an cdv ct ∧ K.lookup f = some ⟨oc, od, .func fd, osl⟩ ∧ PySem.W.codeIn K cdv qual = true
 kp : PySem.W.keepIn K (.ref f) = true
section
variable {P : Program} {w : World} {K : PySem.W.Frag} {mg : Str → Option Value} {base : Heap}
theorem Fun.binds {x qual : Str} {st : Stmt} {f : Addr} {fd : FuncData} {ps : List Str} (F : Fun K x qual st f fd)
  (h : ∀ (kV doc pm : Value) (an : Option Addr) (cdv ct : Value) (us : List Value), us.length = ps.length → bindArgs (PySem.W.fnOf x qual (zaH st) (zal st) (zaa st) .none kV doc pm an cdv ct) ⟨us, []⟩ = pure (ps.zip us)) : Binds K fd ps [] := by
 obtain ⟨oc, od, kV, doc, pm, an, cdv, ct, osl, rfl, lk, hcd⟩ := F.ex
 exact .all (h kV doc pm an cdv ct)
theorem zbG {x qual : Str} {st : Stmt} {f : Addr} {oc : Value} {od an : Option Addr} {osl : Array (Option Value)} {kV doc pm cdv ct : Value} (l : K.lookup f = some ⟨oc, od, .func (PySem.W.fnOf x qual (zaH st) (zal st) (zaa st) .none kV doc pm an cdv ct), osl⟩)
  (c : PySem.W.codeIn K cdv qual = true) (k : PySem.W.keepIn K (.ref f) = true) : Fun K x qual st f (PySem.W.fnOf x qual (zaH st) (zal st) (zaa st) .none kV doc pm an cdv ct) := ⟨⟨oc, od, kV, doc, pm, an, cdv, ct, osl, rfl, l, c⟩, k⟩
end
section
variable {X : Cx}
end
def Same (H H' : Hp) : Prop := ∀ b o, H b = some o → H' b = some o
theorem Same.refl (H : Hp) : Same H H := fun _ _ h => h
theorem Same.free {H H' : Hp} (e : Same H H') {l : Addr} (h : H' l = Option.none) : H l = Option.none := by
  cases q : H l with
  | none => rfl
  | some o =>
    rw [e l o q] at h
    cases h
end L2
set_option maxHeartbeats 4000000
namespace L2
open PySem PySem.Spec PyProof.Rows
end L2
namespace L2
open PySem PySem.Spec PyProof.Rows
section
variable (P : Program) (w : World)
end
section
variable {P : Program} {w : World} {H H' : Hp} {h h' : Heap} {a : Addr} {o : HO}
end
section
variable {P : Program} {w : World} {H : Hp} {h h' : Heap} {x e : Addr} {o' : HO}
end
section
variable {fs fs' ex ex' : List Addr} {H H1 H2 : Hp} {h h1 h2 h' : Heap} {a x e : Addr} {o : HO}
end
end L2
namespace L2
open PySem PySem.Spec PyProof.Rows
section
variable {X : Cx} {pins : List (Addr × Obj)} {σ : List (Option V)} {H H' : Hp} {s : Shared} {h' : Heap}
end
end L2
namespace L2
open PySem PySem.Spec PyProof.Rows
section
variable {X : Cx}
variable {a b : Expr} {ta tb : TE} {pos : Pos}
variable {tA tB' : TT} {rest : List Expr}
end
end L2
namespace L2
open PySem PySem.Spec PyProof.Rows
section
variable {X : Cx} {pins : List (Addr × Obj)} {σ : St} {H : Hp} {s : Shared} {a : Addr} {xs ys : List V}
end
section
variable {X : Cx} {pins : List (Addr × Obj)} {σ : St} {H : Hp} {s : Shared} {E : Value → Shared → Prop}
end
section
variable {X : Cx} {st : Stmt} {rest : List Stmt} {t u : TS} {e : Expr} {te : TE} {pos : Pos}
end
section
variable {X : Cx} {pos : Pos}
end
section
variable {X : Cx} {pos : Pos}
end
end L2
namespace L2
open PySem PySem.Spec PyProof.Rows
section
variable {X : Cx} {tg : Expr}
end
end L2
namespace L2
open PySem PySem.Spec PyProof.Rows
section
variable {X : Cx} {a b c : Expr} {ta tb tc : TE} {pos : Pos}
end
section
variable {X : Cx} {a b c : Expr} {ta tb tc : TE} {pos : Pos}
end
end L2
namespace L2
open PySem PySem.Spec PyProof.Rows
section
variable {prog : Program} {w : World} {A : Around} {E : Value → Shared → Prop} {s : Shared} {K : PySem.W.Frag} {x dx C f : Addr} {mA : Str → Option Value} {name : Str} {v : Value}
end
section
variable {P : Program} {w : World} {H H' : Hp} {h h' : Heap} {a C dx : Addr} {fs fs' : List (Str × V)}
end
section
variable {X : Cx} {pins : List (Addr × Obj)} {σ : St} {H : Hp} {s : Shared} {a C dx : Addr} {fs : List (Str × V)} {f : Str} {v : V} {A : Around} {E : Value → Shared → Prop}
end
section
variable {X : Cx} {o e value : Expr} {f : Str} {pos pos' tpos : Pos} {ta tv : TE}
end
section
variable {X : Cx} {pins : List (Addr × Obj)} {σ : St} {H : Hp} {s : Shared} {A : Around} {E : Value → Shared → Prop} {Q : Value → Shared → Prop} {c : Value} {b : Bool}
end
end L2
namespace L2
open PySem PySem.Spec PyProof.Rows
section
variable {X : Cx} {e : Expr} {es : List Expr} {te : TE} {t : TA} {pos : Pos}
end
section
variable {X : Cx} {pins : List (Addr × Obj)} {σ : St} {H : Hp} {s s' : Shared}
end
section
variable {X : Cx} {CX : CXT} {k : Nat} {f C : Addr} {fd : FuncData} {ps : List Str} {sp : Sp} {dvs : List V} {ds : List Value} {E : XK} {x m : Str} {p pos apos : Pos} {e o : Expr} {es : List Expr} {ta : TE} {t : TA}
end
section
variable {X : Cx} {CX : CXT} {k : Nat} {f C : Addr} {fd : FuncData} {ps ks : List Str} {sp : Sp} {E : XK} {x m : Str} {p pos apos kpos : Pos} {e o : Expr} {es : List Expr} {kws : List Keyword} {te ta : TE} {t tk : TA} {nm : Option Str}
variable {g : List Value → List Value → List Value} {gV : List V → List V → List V}
end
end L2
namespace L2
open PySem PySem.Spec PyProof.Rows
section
variable {X : Cx} {x : Str} {p pos : Pos} {e : Expr} {es : List Expr} {t : TA} {id T : String} {r : List V → Hp → VK → Prop}
end
end L2
namespace L2
open PySem PySem.Spec PyProof.Rows
section
variable {κ : Type} [DecidableEq κ]
def valV (kvs : List (κ × V)) (k : κ) : Option V := (kvs.find? fun kv => decide (kv.1 = k)).map (·.2)
def putK (kvs : List (κ × V)) (k : κ) (v : V) : List (κ × V) :=
 if (kvs.any fun kv => decide (kv.1 = k)) = true then kvs.map (fun kv => if kv.1 = k then (kv.1, v) else kv) else kvs ++ [(k, v)]
theorem zkQ {p : κ × V} {r : List (κ × V)} {k : κ} (e : p.1 = k) : valV (p :: r) k = some p.2 := by simp [valV, List.find?_cons, e]
theorem zkd {p : κ × V} {r : List (κ × V)} {k : κ} (e : ¬ p.1 = k) : valV (p :: r) k = valV r k := by simp [valV, List.find?_cons, e]
theorem zkV (k : κ) : ∀ kvs : List (κ × V), (kvs.any fun kv => decide (kv.1 = k)) = (valV kvs k).isSome
  | [] => rfl
  | p :: r => by
    rw [List.any_cons]
    by_cases e : p.1 = k
    · simp only [zkQ e, decide_eq_true e, Bool.true_or, Option.isSome_some]
    · rw [zkd e, decide_eq_false e, Bool.false_or]; exact zkV k r
end
theorem kV_is {P : Program} {w : World} {k : Key} {u : Value} (r : RelV (kV k) u) : (zcJ P w).is k u = true := by
 cases k with
 | inl i => obtain ⟨t, e⟩ := (show ∃ t, u = Value.int i t from r); subst e; exact zhJ P w i t
 | inr x => obtain ⟨t, e⟩ := (show ∃ t, u = Value.str x t from r); subst e; exact zdA P w x t
abbrev KT (H : Hp) : List (List Key × V) → List (List Key × Addr × Value) → Prop := Paired fun p q => p.1 = q.1 ∧ H q.2.1 = some (.tup (p.1.map kV)) ∧ RelV p.2 q.2.2
section
variable {P : Program} {w : World} {H : Hp} {h : Heap} {a : Addr}
end
def DGet (H : Hp) (a : Addr) (y : V) (r : Option V) : Prop :=
 (∃ kvs k, Rd H a (.dK kvs) ∧ y = kV k ∧ r = valV kvs k) ∨ ∃ kvs k b, Rd H a (.dT kvs) ∧ y = .ref b ∧ H b = some (.tup (k.map kV)) ∧ r = valV kvs k
def DPut (H : Hp) (a : Addr) (y v : V) (H' : Hp) : Prop :=
 (∃ kvs k, H a = some (.dK kvs) ∧ y = kV k ∧ kvs.length < sizeLine ∧ H' = upd H a (.dK (putK kvs k v))) ∨
 ∃ kvs k b, H a = some (.dT kvs) ∧ y = .ref b ∧ H b = some (.tup (k.map kV)) ∧ kvs.length < sizeLine ∧ H' = upd H a (.dT (putK kvs k v))
section
variable {X : Cx} {pins : List (Addr × Obj)} {σ : St} {H : Hp} {s : Shared} {a : Addr} {y v : V} {u r : Value} {o : Option V} {A : Around} {E : Value → Shared → Prop}
end
section
variable {X : Cx} {pins : List (Addr × Obj)} {σ : St} {H : Hp} {s : Shared} {a : Addr} {kvs : List (Key × V)} {k : Key} {u : Value} {A : Around} {E : Value → Shared → Prop}
end
def NoSl (i : Expr) : Prop := ∀ ov iv, subscripted i false ov iv = operate [ov, iv] (getItem ov iv)
theorem zlS {prog : Program} {w : World} {A : Around} {E : Value → Shared → Prop} {s : Shared} {env : Env} {value slice : Expr} {pos : Pos} {T id : String} {Q : Value → Shared → Prop}
  (hl : typeLookup (.type T) "__getitem__" = pure (some (.builtin id))) (hs : NoSl slice)
  (h : wpAny (model prog w) A (eval value env) (fun o s₁ => wpAny (model prog w) A (eval slice env) (fun i s₂ => s₂.TypeIs o T ∧ wpAny (model prog w) A (getItem o i) Q E s₂) E s₁) E s) :
  wpAny (model prog w) A (eval (.Subscript value slice pos) env) Q E s := by
 refine Subscript_ (wpAny_mono h (fun o s₁ h₁ => wpAny_mono h₁ (fun i s₂ h₂ => ?_) fun _ _ x => x) fun _ _ x => x)
 obtain ⟨hT, h₂⟩ := h₂
 unfold subscriptTail
 refine wpAny_bind ?_
 rw [getitemInPython_of_ne hT.not_modules]
 refine wpAny_bind (wpAny_specialOf hT hl ?_)
 have fin : wpAny (model prog w) A (subscripted slice false o i) (fun r s₃ => wpAny (model prog w) A (letTemporaryGo value o r >>= fun _ => pure r) Q E s₃) E s₂ := by
  rw [hs o i]
  exact wpAny_operating (wpAny_mono h₂ (fun r s₃ h₃ => wpAny_bind (wpAny_letTemporaryGo (wpAny_pure h₃))) fun _ _ x => x)
 first
  | exact wpAny_pure (wpAny_bind fin)
  | exact wpAny_bind (wpAny_pure (wpAny_bind fin))
  | exact wpAny_bind fin
section
variable {X : Cx} {o i e value : Expr} {pos pos' tpos : Pos} {td ty tv : TE}
end
section
variable {X : Cx} {pos : Pos}
end
structure M1 (X : Cx) (o : Expr) (m : Str) (apos : Pos) (e : Expr) (cpos : Pos) : Prop where
 base : attributeBase o m X.env (eval o X.env) = eval o X.env
 few : ((backTo cpos (starEach [e] X.env)).all (fun x => !x.1) && (backToKw cpos (keywordEach [] X.env)).all (fun x => x.1.isSome)
  && decide (([e] : List Expr).length + ([] : List Keyword).length + (if ([] : List Keyword).isEmpty then 0 else 1) < 30)) = true
 line : (apos.endLine == cpos.line) = true
 trees : backTo cpos (starEach [e] X.env) = [(false, eval e X.env)]
structure M2 (X : Cx) (o : Expr) (m : Str) (apos : Pos) (e f : Expr) (cpos : Pos) : Prop where
 base : attributeBase o m X.env (eval o X.env) = eval o X.env
 few : ((backTo cpos (starEach [e, f] X.env)).all (fun x => !x.1) && (backToKw cpos (keywordEach [] X.env)).all (fun x => x.1.isSome)
  && decide (([e, f] : List Expr).length + ([] : List Keyword).length + (if ([] : List Keyword).isEmpty then 0 else 1) < 30)) = true
 line : (apos.endLine == cpos.line) = true
 trees : backTo cpos (starEach [e, f] X.env) = [(false, eval e X.env), (false, eval f X.env)]
section
variable {X : Cx} {pins : List (Addr × Obj)} {σ : St} {H : Hp} {s : Shared} {a : Addr} {y d : V} {u r : Value} {o : Option V} {A : Around} {E : Value → Shared → Prop}
end
section
variable {X : Cx} {o e f : Expr} {apos cpos : Pos} {td ty tx : TE}
end
section
variable {X : Cx} {pins : List (Addr × Obj)} {σ : St} {H : Hp} {s : Shared} {a : Addr} {kvs : List (Key × V)} {A : Around} {E : Value → Shared → Prop}
end
section
variable {X : Cx} {pins : List (Addr × Obj)} {σ : St} {H : Hp} {s : Shared} {a : Addr} {y : V} {u : Value} {A : Around} {E : Value → Shared → Prop}
end
end L2
namespace Att
open PySem PySem.W PySem.Calls PyProof.Rows
section
variable {prog : Program} {w : World} {A : Around} {E : Value → Shared → Prop} {s : Shared} {K : Frag}
end
end Att
namespace L2
open PySem PySem.Spec PyProof.Rows
end L2
namespace L2
open PySem PySem.Spec PyProof.Rows
end L2
namespace L2
open PySem PySem.Spec PyProof.Rows
section
variable {P : Program} {w : World} {K : PySem.W.Frag} {mg : Str → Option Value} {base : Heap}
end
section
variable {X : Cx}
end
section
variable {κ : Type} [DecidableEq κ]
end
end L2
namespace L2
open PySem PySem.Spec PyProof.Rows
def Its (z : Str) : It := ⟨fun i _ => i < z.cps.size, fun i H x H' => H' = H ∧ ∃ c, z.cps[i]? = some c ∧ x = .str ⟨#[c]⟩, fun i _ => i = z.cps.size⟩
theorem zof {M : Model} {A : Around} {E : Value → Shared → Prop} {s : Shared} {tg : Expr} {it : Addr} {x : Str} {t : Tok} {Q : Unit → Shared → Prop} (hQ : Q () s) : wpAny M A (letOwnedTupleGo tg (.ref it) (.str x t)) Q E s := by
 unfold letOwnedTupleGo
 cases tg <;> exact wpAny_pure hQ
theorem zhP {P : Program} {w : World} {K : PySem.W.Frag} {tg : Expr} {ty : String} {z : Str} {t : Tok} {it : Addr}
  (W : ∀ A : Around, A.handled = none → Walks P w A it [it] [it] z.cps.size (SignAt z) (fun i h => h.IsStrIter it ty z t i))
  (hself : ∀ (A : Around) (i : Nat) (s : Shared) (Q : Value → Shared → Prop) (E : Value → Shared → Prop), s.heap.IsStrIter it ty z t i → Q (.ref it) s → wpAny (model P w) A (pyIter (.ref it)) Q E s) :
  Turn P w K tg (Its z) [it] it (fun i h => h.IsStrIter it ty z t i) where
 mem := by simp
 obj := fun i h st b hb => by
  have e : b = it := by simpa using hb
  subst e
  obtain ⟨o, e, c, d⟩ := st
  exact ⟨o, e, fun v z => by rw [d] at z; cases z⟩
 keep := fun i h h' st k => by
  obtain ⟨o, e, c, d⟩ := st
  exact ⟨o, k it (by simp) o e, c, d⟩
 item := by
  intro X hP hw hK hc i pins s σ H E I hf st hg
  subst hP hw hK
  obtain ⟨f0, f1, f2, f3, f4, f5⟩ := hf it (by simp)
  refine (W X.A (I.ok.hd hc)).item i s _ _ hg st fun v h' tk hv st' kk => ?_
  obtain ⟨c, u, hcc, rfl⟩ := hv
  have I1 : Inv X pins σ H { s with heap := h', toks := tk } := I.turned (fun b o hb e => kk b o (by simpa using hb) e) f0 f1 f3 f4 f5
  exact ⟨_, rfl, zof ⟨.str ⟨#[c]⟩, H, I1, ⟨_, rfl⟩, ⟨rfl, c, hcc, rfl⟩, st', fun b hb => (hf b hb).1⟩⟩
 done := by
  intro X hP hw hK hc i pins s σ H E I hf st hg
  subst hP hw hK
  have hg' : i = z.cps.size := hg
  subst hg'
  obtain ⟨f0, f1, f2, f3, f4, f5⟩ := hf it (by simp)
  exact (W X.A (I.ok.hd hc)).done s _ _ st fun h' tk kk => ⟨rfl, I.turned (fun b o hb e => kk b o (by simpa using hb) e) f0 f1 f3 f4 f5⟩
 self := fun A i s Q E st q => hself A i s Q E st q
section
variable {X : Cx} {tg : Expr}
def iStr (tl : TE) : TI := fun σ H R => tl σ H fun x H1 => ∃ z, x = .str z ∧ R (Its z) H1
theorem zn7 {l : Expr} {tl : TE} (hl : PE X l tl) : PI X tg l (iStr tl) := by
 intro pins s σ H R I h
 refine thn (hl pins s σ H _ I h) fun v s1 ⟨x, H1, I1, r1, q1⟩ => ?_
 obtain ⟨z, e, q⟩ := q1
 subst e
 obtain ⟨t, e⟩ := r1
 subst e
 have fp : ∀ b ∈ [s1.heap.objs.size], FpOk X pins H1 b := fun b hb => by
  have e : b = s1.heap.objs.size := by simpa using hb
  subst e
  exact I1.fpOk (Nat.le_refl _) (I1.hok.fresh (Nat.le_refl _))
 cases ha : z.cps.all (· < 128)
 ·refine wpAny_pyIter_wide ha ?_
  exact ⟨s1.heap.objs.size, [s1.heap.objs.size], _, _, H1, rfl, I1.kept (t' := s1.toks) fun b o e => Heap.get?_push_of_some _ e,
   zhP (ty := "str_iterator") (z := z) (t := t) (fun A hA => Walks.strWide hA _ z t) (fun _ _ _ _ _ st q => wpAny_pyIter_striter_wide st q), ⟨_, Heap.get?_push_size _ rfl, rfl, rfl⟩, fp, q⟩
 ·refine wpAny_pyIter_ascii ha ?_
  exact ⟨s1.heap.objs.size, [s1.heap.objs.size], _, _, H1, rfl, I1.kept (t' := s1.toks) fun b o e => Heap.get?_push_of_some _ e,
   zhP (ty := "str_ascii_iterator") (z := z) (t := t) (fun A hA => Walks.strAscii hA _ z t) (fun _ _ _ _ _ st q => wpAny_pyIter_striter_ascii st q), ⟨_, Heap.get?_push_size _ rfl, rfl, rfl⟩, fp, q⟩
end
def Itv (K : PySem.W.Frag) (a : Addr) (n : Nat) : It :=
 ⟨fun i H => i < n ∧ ∃ xs, SqL K H a xs ∧ xs.length = n, fun i H x H' => H' = H ∧ ∀ xs, SqL K H a xs → xs[n - 1 - i]? = some x, fun i _ => i = n⟩
theorem zkA {P : Program} {w : World} {K : PySem.W.Frag} {tg : Expr} (a it : Addr) (n : Nat) : Turn P w K tg (Itv K a n) [it] it (fun i h => h.IsRevIter it a ((n : Int) - 1 - (i : Int))) where
 mem := by simp
 obj := fun i h st b hb => by
  have e : b = it := by simpa using hb
  subst e
  obtain ⟨o, e, c, d⟩ := st
  exact ⟨o, e, fun v z => by rw [d] at z; cases z⟩
 keep := fun i h h' st k => st.at fun o e => k it (by simp) o e
 item := by
  intro X hP hw hK hc i pins s σ H E I hf st hg
  subst hP hw hK
  obtain ⟨hi, xs, hq, hlen⟩ := hg
  obtain ⟨its, rv, p, hz⟩ := I.list hq
  have hx : xs[n - 1 - i]? = some (xs[n - 1 - i]'(by omega)) := List.getElem?_eq_getElem (by omega)
  obtain ⟨u, hu, ru⟩ := rv.get hx
  obtain ⟨f0, f1, f2, f3, f4, f5⟩ := hf it (by simp)
  have e : (n : Int) - 1 - (i : Int) = ((n - 1 - i : Nat) : Int) := by omega
  have st0 : s.heap.IsRevIter it a ((n - 1 - i : Nat) : Int) := by rw [← e]; exact st
  refine wpAny_pyNext_rev_item st0 p.isList (x := u) (by simpa using hu) fun h' st' sb => ?_
  have e2 : ((n - 1 - i : Nat) : Int) - 1 = (n : Int) - 1 - ((i + 1 : Nat) : Int) := by omega
  rw [e2] at st'
  have I1 : Inv X pins σ H { s with heap := h' } := I.turned (t' := s.toks) (fun b o hb e => (sb.2 b hb).trans e) f0 f1 f3 f4 f5
  obtain ⟨o, eo, c, d⟩ := id st'
  exact ⟨u, rfl, zkR (s := { s with heap := h' }) eo c d (by decide) ⟨_, H, I1, ru, ⟨rfl, fun ys hy => by rw [I.list_inj hy hq]; exact hx⟩, st', fun b hb => (hf b hb).1⟩⟩
 done := by
  intro X hP hw hK hc i pins s σ H E I hf st hg
  subst hP hw hK
  have hg' : i = n := hg
  subst hg'
  obtain ⟨f0, f1, f2, f3, f4, f5⟩ := hf it (by simp)
  have e : (i : Int) - 1 - (i : Int) = -1 := by omega
  have st0 : s.heap.IsRevIter it a (-1) := by rw [← e]; exact st
  exact wpAny_pyNext_rev_end (I.ok.hd hc) st0 fun h' eb => ⟨rfl, I.turned (t' := s.toks) (fun b o hb e => eb b o hb e) f0 f1 f3 f4 f5⟩
 self := fun _ _ _ _ _ st h => wpAny_pyIter_revIter st h
section
variable {X : Cx} {tg : Expr}
def iRev (K : PySem.W.Frag) (ta : TA) : TI := fun σ H R => ta σ H fun vs H1 => ∃ a xs, vs = [.ref a] ∧ SqL K H1 a xs ∧ R (Itv K a xs.length) H1
theorem zlk {a : Expr} {ta : TA} {p pos : Pos} (hg : Gl X "reversed") (hm : X.mg "reversed" = none) (ha : PA X [a] ta) (hs : starEach [a] X.env = [(false, eval a X.env)] := by rfl) : PI X tg (.Call (.Name "reversed" p) [a] [] pos) (iRev X.K ta) := by
 intro pins s σ H R I h
 refine Call_ (zfV I hg hm boot_reversed (PyProof.Rows.callWith_type1 (thn (ha pos pins s σ H _ I h) fun us s1 ⟨vs, H1, I1, r1, q1⟩ => ?_) hs rfl))
 obtain ⟨b, xs, e, hq, q⟩ := q1
 subst e
 obtain ⟨u, e, ru⟩ := vals1 r1
 subst e
 cases ru
 obtain ⟨its, rv, pl, hz⟩ := I1.list hq
 have hlen : its.toArray.size = xs.length := by rw [List.size_toArray]; exact rv.length.symm
 refine call_reversed_list pl.isList ?_
 rw [hlen]
 refine wpAny_pyIter_revIter (l := b) (i := (xs.length : Int) - 1) ⟨_, Heap.get?_push_size _ rfl, rfl, rfl⟩ ?_
 refine ⟨s1.heap.objs.size, [s1.heap.objs.size], _, _, H1, rfl, I1.kept (t' := s1.toks) fun b o e => Heap.get?_push_of_some _ e, zkA b _ xs.length, ?_, fun c hc => ?_, q⟩
 ·have e : (xs.length : Int) - 1 - ((0 : Nat) : Int) = (xs.length : Int) - 1 := by omega
  show Heap.IsRevIter _ _ b ((xs.length : Int) - 1 - ((0 : Nat) : Int))
  rw [e]
  exact ⟨_, Heap.get?_push_size _ rfl, rfl, rfl⟩
 ·have e : c = s1.heap.objs.size := by simpa using hc
  subst e
  exact I1.fpOk (Nat.le_refl _) (I1.hok.fresh (Nat.le_refl _))
end
section
variable {X : Cx}
def rSlS : V → Option Int → Option Int → Hp → VK → Prop := fun x lo hi H Q => ∃ z, x = .str z ∧ z.length ≤ sizeLine ∧ Q (.str (Txt.slice z lo hi)) H
theorem sl_str : SlR X rSlS := by
 intro pins s σ H x v vl vu lo hi sl Q I rx hs pl pu h
 obtain ⟨z, rfl, hz, q⟩ := h
 obtain ⟨t, rfl⟩ := rx
 refine ⟨"str", _, F.slot_str_getitem.lookup, typeIs_str _ _ _, ?_⟩
 obtain ⟨o, ho, hc, hd⟩ := hs
 cases pl <;> cases pu
 ·exact wpAny_getItem_str_slice (l := none) (u := none) (st := none) ⟨o, ho, hc, hd⟩ rfl (post_val_or_str ⟨Nat.le_trans (Txt.slice_le z none none) hz, fun t' k => ⟨.str _, H, I.tok _, ⟨_, rfl⟩, q⟩⟩)
 ·rename_i j uj
  exact wpAny_getItem_str_slice (l := none) (u := some (j, uj)) (st := none) ⟨o, ho, hc, hd⟩ rfl (post_val_or_str ⟨Nat.le_trans (Txt.slice_le z none (some j)) hz, fun t' k => ⟨.str _, H, I.tok _, ⟨_, rfl⟩, q⟩⟩)
 ·rename_i i ui
  exact wpAny_getItem_str_slice (l := some (i, ui)) (u := none) (st := none) ⟨o, ho, hc, hd⟩ rfl (post_val_or_str ⟨Nat.le_trans (Txt.slice_le z (some i) none) hz, fun t' k => ⟨.str _, H, I.tok _, ⟨_, rfl⟩, q⟩⟩)
 ·rename_i i ui j uj
  exact wpAny_getItem_str_slice (l := some (i, ui)) (u := some (j, uj)) (st := none) ⟨o, ho, hc, hd⟩ rfl (post_val_or_str ⟨Nat.le_trans (Txt.slice_le z (some i) (some j)) hz, fun t' k => ⟨.str _, H, I.tok _, ⟨_, rfl⟩, q⟩⟩)
theorem zom : OpR X (compareOp .Is) (fun x y H Q => ∃ b, y = .bl b ∧ Q (.bl (decide (x = .bl b))) H) := by
 intro pins s σ H x y v u Q I rx ry h
 obtain ⟨b, rfl, q⟩ := h
 cases ry
 cases x with
 | bl c => cases rx; exact wpAny_pure (zas I q (by cases b <;> cases c <;> rfl))
 | non => cases rx; exact wpAny_pure (zas I q (by simp))
 | int _ => obtain ⟨t, rfl⟩ := rx; exact wpAny_pure (zas I q (by simp))
 | str _ => obtain ⟨t, rfl⟩ := rx; exact wpAny_pure (zas I q (by simp))
 | byt _ => obtain ⟨t, rfl⟩ := rx; exact wpAny_pure (zas I q (by simp))
 | flt _ => obtain ⟨t, rfl⟩ := rx; exact wpAny_pure (zas I q (by simp))
 | ref _ => cases rx; exact wpAny_pure (zas I q (by simp))
 | ty _ => cases rx; exact wpAny_pure (zas I q (by simp))
theorem zi7 : OpR X (compareOp .IsNot) (fun x y H Q => ∃ b, y = .bl b ∧ Q (.bl (!decide (x = .bl b))) H) := by
 intro pins s σ H x y v u Q I rx ry h
 obtain ⟨b, rfl, q⟩ := h
 cases ry
 cases x with
 | bl c => cases rx; exact wpAny_pure (zas I q (by cases b <;> cases c <;> rfl))
 | non => cases rx; exact wpAny_pure (zas I q (by simp))
 | int _ => obtain ⟨t, rfl⟩ := rx; exact wpAny_pure (zas I q (by simp))
 | str _ => obtain ⟨t, rfl⟩ := rx; exact wpAny_pure (zas I q (by simp))
 | byt _ => obtain ⟨t, rfl⟩ := rx; exact wpAny_pure (zas I q (by simp))
 | flt _ => obtain ⟨t, rfl⟩ := rx; exact wpAny_pure (zas I q (by simp))
 | ref _ => cases rx; exact wpAny_pure (zas I q (by simp))
 | ty _ => cases rx; exact wpAny_pure (zas I q (by simp))
theorem range_any (bs : List Bool) : (List.range bs.length).any (fun i => (bs[i]?).getD false) = bs.any id := by
 rw [Bool.eq_iff_iff, List.any_eq_true, List.any_eq_true]
 constructor
 ·rintro ⟨i, hi, h⟩
  have hi' := List.mem_range.mp hi
  rw [List.getElem?_eq_getElem hi'] at h
  exact ⟨_, List.getElem_mem hi', h⟩
 ·rintro ⟨b, hb, h⟩
  obtain ⟨i, hi, e⟩ := List.mem_iff_getElem.mp hb
  refine ⟨i, List.mem_range.mpr hi, ?_⟩
  rw [List.getElem?_eq_getElem hi, e]
  exact h
theorem znl {bs : List Bool} {its : List Value} (r : Vals (bs.map V.bl) its) {i : Nat} {v : Value} (h : its.toArray[i]? = some v) : v = .bool ((bs[i]?).getD false) := by
 have h' : its[i]? = some v := by simpa using h
 have hl := r.length
 rw [List.length_map] at hl
 have hi : i < bs.length := by
  have := (List.getElem?_eq_some_iff.mp h').1
  omega
 have hx : (bs.map V.bl)[i]? = some (V.bl bs[i]) := by rw [List.getElem?_map, List.getElem?_eq_getElem hi]; rfl
 obtain ⟨u, hu, ru⟩ := r.get hx
 rw [h'] at hu
 cases hu
 rw [List.getElem?_eq_getElem hi]
 exact ru
theorem zkh (hc : X.calm = true) : zcO X (.builtin "any") (fun xs H Q => ∃ (p : Addr) (bs : List Bool), xs = [.ref p] ∧ SqL X.K H p (bs.map V.bl) ∧ Q (.bl (bs.any id)) H) := by
 intro pins s σ H xs us Q I r h
 obtain ⟨p, bs, rfl, hq, q⟩ := h
 obtain ⟨u, rfl, ru⟩ := vals1 r
 cases ru
 obtain ⟨its, rv, pl, hz⟩ := I.list hq
 have hp : p < s.heap.objs.size := by obtain ⟨o, ho, _⟩ := pl.isList; exact Heap.lt_size ho
 have hn : its.toArray.size = bs.length := by rw [List.size_toArray, ← rv.length, List.length_map]
 refine call_any_walk (wpAny_pyIter_list pl.isList ⟨s.heap.objs.size, _, _, its.toArray.size, _, _, fun i => (bs[i]?).getD false, rfl, Walks.list (A := X.A.in1) (show X.A.in1.handled = none from I.ok.hd hc) _ p (Nat.ne_of_lt hp) its.toArray,
  ⟨⟨_, Heap.get?_push_size _ rfl, rfl, rfl⟩, pl.isList.at fun o e => Heap.get?_push_of_some _ e⟩, fun i v s' Q' E' hv hQ => ?_, fun h' tk kk => ?_⟩)
 ·rw [znl rv hv]
  exact wpAny_truthy_bool hQ
 ·rw [hn, range_any]
  refine ⟨.bl _, H, I.kept fun b o e => kk b o ?_ (Heap.get?_push_of_some _ e), rfl, q⟩
  intro z
  have z' : b = s.heap.objs.size := by simpa using z
  exact Nat.lt_irrefl _ (z' ▸ Heap.lt_size e)
end
end L2
namespace L2
open PySem PySem.Spec PyProof.Rows
section
variable {prog : Program} {w : World} {A : Around} {R : Result → Shared → Prop} {I : Addr} {fp wr : List Addr} {n : Nat} {P : Nat → Value → Prop} {St : Nat → Heap → Prop} {kw : List (Str × Value)}
end
section
variable {prog : Program} {w : World} {A : Around} {E : Value → Shared → Prop} {s : Shared}
end
end L2
namespace L2
open PySem PySem.Spec PyProof.Rows
section
variable {X : Cx} {pins : List (Addr × Obj)} {σ : St} {H : Hp} {s : Shared}
end
end L2
namespace L2
open PySem PySem.Spec PyProof.Rows
section
variable {prog : Program} {w : World} {A : Around} {s : Shared}
end
section
variable {X : Cx}
end
end L2
namespace L2
open PySem PySem.Spec PyProof.Rows
section
variable {X : Cx} {pins : List (Addr × Obj)} {σ : St} {H : Hp} {s : Shared}
def ziY : V → List V → Hp → VK → Prop := fun x vs H Q => ∃ z y, x = .str z ∧ vs = [.str y] ∧ Q (.bl (Txt.startswith z y)) H
theorem ziI : MtR X "str.startswith" ziY := by
 intro pins s σ H x vs v us Q I rx rv h
 obtain ⟨z, y, rfl, rfl, q⟩ := h
 obtain ⟨t, rfl⟩ := rx
 obtain ⟨u, rfl, t', rfl⟩ := rv.one
 exact SC.startswith ⟨.bl _, H, I, rfl, q⟩
def zj4 : V → List V → Hp → VK → Prop := fun x vs H Q => ∃ z y, x = .str z ∧ vs = [.str y] ∧ z.length ≤ sizeLine ∧ Q (.str (Txt.lstripChars z y)) H
theorem zi9 : MtR X "str.lstrip" zj4 := by
 intro pins s σ H x vs v us Q I rx rv h
 obtain ⟨z, y, rfl, rfl, hz, q⟩ := h
 obtain ⟨t, rfl⟩ := rx
 obtain ⟨u, rfl, t', rfl⟩ := rv.one
 exact SC.lstripChars (fun t' k => ⟨.str _, H, I.tok _, ⟨_, rfl⟩, q⟩) hz
theorem zep : zcO X (.type "int") (fun xs H Q => ∃ z n, xs = [.str z] ∧ intText? z = some n ∧ z.length ≤ 640 ∧ Q (.int n) H) := by
 intro pins s σ H xs us Q I r h
 obtain ⟨z, n, rfl, h1, h2, q⟩ := h
 obtain ⟨u, rfl, t, rfl⟩ := vals1 r
 exact W.KIN.call_text h1 h2 ⟨.int n, H, I.tok _, ⟨_, rfl⟩, q⟩
end
end L2
namespace L2
open PySem PySem.Spec PyProof.Rows
section
variable {prog : Program} {w : World} {A : Around} {E : Value → Shared → Prop} {s : Shared}
end
section
variable {X : Cx} {pins : List (Addr × Obj)} {σ : St} {H : Hp} {s : Shared} {h' : Heap}
end
section
variable {X : Cx} {es : List Expr} {k : Nat} {tpos : Pos}
end
end L2
namespace L2
open PySem PySem.Spec PyProof.Rows
section
variable {X : Cx} {es : List Expr} {k : Nat} {tpos : Pos}
end
def textV : V → Option Str
 | .str z => if z.length ≤ sizeLine then some z else none
 | .int i => if i.natAbs.log2 < 1920 then some (toString i) else none
 | _ => none
abbrev TJ := Str → St → Hp → VK → Prop
def PJ (X : Cx) (vs : List Expr) (t : TJ) : Prop := ∀ (pins : List (Addr × Obj)) (s : Shared) (σ : St) (H : Hp) (out : Str) (Q : VK), Inv X pins σ H s → t out σ H Q → wpAny (model X.prog X.w) X.A (joinParts out (evalEach vs X.env)) (EP X pins σ Q) X.xe s
def jNil : TJ := fun out _ H Q => out.length ≤ sizeLine ∧ Q (.str out) H
def jCons (te : TE) (tj : TJ) : TJ := fun out σ H Q => te σ H fun v H1 => ∃ y, textV v = some y ∧ (out ++ y).length ≤ sizeLine ∧ tj (out ++ y) σ H1 Q
section
variable {X : Cx} {vs : List Expr} {te : TE} {tj : TJ}
theorem znv : PJ X [] jNil := fun pins s σ H out Q I h => joinParts_nil ⟨.str out, H, I.tok _, ⟨_, rfl⟩, h.2⟩ h.1
theorem zoF {z : Str} {k : Nat} {pos : Pos} (hv : PJ X vs tj) (hz : z.length ≤ sizeLine) : PJ X (.Constant (.str z) k pos :: vs) (fun out σ H Q => (out ++ z).length ≤ sizeLine ∧ tj (out ++ z) σ H Q) := fun pins s σ H out Q I h => by
 refine joinParts_cons (Calls.Constant_str ?_)
 exact ⟨h.1, hv pins _ σ H _ Q (I.tok _) h.2⟩
theorem zn3 {e : Expr} {pos : Pos} (he : PE X e te) (hv : PJ X vs tj) : PJ X (.FormattedValue e (-1) none pos :: vs) (jCons te tj) := fun pins s σ H out Q I h => by
 refine joinParts_cons (FormattedValue_plain (thn (he pins s σ H _ I h) fun u s1 ⟨x, H1, I1, r1, y, ey, hl, q⟩ => ?_))
 cases x <;> simp only [textV, reduceCtorEq] at ey
 case int i =>
  split at ey
  ·rename_i hd
   cases ey
   obtain ⟨t, rfl⟩ := r1
   exact formatField_int_small hd ⟨hl, hv pins _ σ H1 _ Q (I1.tok _) q⟩
  ·cases ey
 case str z =>
  split at ey
  ·rename_i hz
   cases ey
   obtain ⟨t, rfl⟩ := r1
   exact formatField_str (fun t' tk => ⟨hl, hv pins _ σ H1 _ Q (I1.tok _) q⟩) hz
  ·cases ey
theorem pe_fst {v w : Expr} {pos : Pos} (h : PJ X (v :: w :: vs) tj) : PE X (.JoinedStr (v :: w :: vs) pos) (fun σ H Q => tj Str.empty σ H Q) := fun pins s σ H Q I q => JoinedStr_many (h pins s σ H _ Q I q)
end
end L2
namespace L2
open PySem PySem.Spec PyProof.Rows
section
variable {prog : Program} {w : World} {A : Around} {E : Value → Shared → Prop} {s : Shared} {z P O j1 j2 l t : Addr}
end
section
variable {X : Cx} {es : List Expr} {k : Nat} {tpos : Pos}
end
end L2
namespace L2
open PySem PySem.Spec PyProof.Rows
theorem zfC {α β : Type} {f : α → β → Sem (ForInStep β)} (g : α → β → β) : ∀ (l : List α) (b : β), (∀ x ∈ l, ∀ b, f x b = pure (.yield (g x b))) → (forIn l b f : Sem β) = pure (l.foldl (fun b x => g x b) b)
  | [], b, _ => rfl
  | x :: l, b, h => by
    rw [List.forIn_cons, h x List.mem_cons_self b]
    simp only [pure_bind, List.foldl_cons]
    exact zfC g l (g x b) fun y hy => h y (List.mem_cons_of_mem _ hy)
def zbS (cells : List (Str × Addr)) (cs : List (Str × Addr)) (x : Str × NameKind) : List (Str × Addr) := if x.2 = .free then (x.1, (cells.lookup x.1).getD 0) :: cs else cs
def zcE (cells : List (Str × Addr)) (names : List (Str × NameKind)) : List (Str × Addr) := names.foldl (zbS cells) []
theorem zgp {scope : Scope} {env : Env} (h : ∀ y ∈ scope.names, y.2 = .free → ∃ c, env.cells.lookup y.1 = some c) : closureFor scope env = pure (zcE env.cells scope.names) := by
 simp only [closureFor]
 rw [zfC (fun x cs => zbS env.cells cs x) scope.names [] (fun x hx c => by
  obtain ⟨n, kind⟩ := x
  by_cases hk : kind = .free
  ·obtain ⟨a, ha⟩ := h _ hx hk
   subst hk
   have ha' : env.cells.lookup n = some a := ha
   simp [cellOf, ha', zbS]
  ·have hk' : (kind == NameKind.free) = false := by simpa using hk
   simp [hk', hk, zbS])]
 rfl
theorem zjY {cells : List (Str × Addr)} : ∀ (names : List (Str × NameKind)) (acc : List (Str × Addr)), (∀ y ∈ names, y.2 = .free → ∃ c, cells.lookup y.1 = some c) →
    (∀ x c, acc.lookup x = some c → cells.lookup x = some c) → ∀ x c, (names.foldl (zbS cells) acc).lookup x = some c → cells.lookup x = some c
  | [], _, _, h, x, c, e => h x c e
  | (n, k) :: r, acc, hc, h, x, c, e => by
    rw [List.foldl_cons] at e
    refine zjY r _ (fun y hy => hc y (List.mem_cons_of_mem _ hy)) ?_ x c e
    intro y d hd
    unfold zbS at hd
    by_cases hk : k = .free
    · obtain ⟨a, ha⟩ := hc (n, k) List.mem_cons_self hk
      have ha' : cells.lookup n = some a := ha
      simp only [hk, if_true, ha', Option.getD_some, List.lookup_cons] at hd
      cases hyn : y == n with
      | true =>
        rw [hyn] at hd
        have e2 := eq_of_beq hyn
        subst e2
        exact ha'.trans hd
      | false =>
        rw [hyn] at hd
        exact h y d hd
    · simp only [hk, if_false] at hd
      exact h y d hd
theorem zf3 {cells : List (Str × Addr)} : ∀ (names : List (Str × NameKind)) (acc : List (Str × Addr)) (x : Str), ((x, NameKind.free) ∈ names ∨ ∃ c, acc.lookup x = some c) → ∃ c, (names.foldl (zbS cells) acc).lookup x = some c
  | [], acc, x, h => by
    rcases h with h | h
    · exact absurd h (by simp)
    · exact h
  | (n, k) :: r, acc, x, h => by
    rw [List.foldl_cons]
    refine zf3 r _ x ?_
    have keep : (∃ c, acc.lookup x = some c) → ∃ c, (zbS cells acc (n, k)).lookup x = some c := fun ⟨c, hc⟩ => by
      unfold zbS
      by_cases hk : k = .free
      · simp only [hk, if_true, List.lookup_cons]
        cases hxn : x == n with
        | true => exact ⟨_, rfl⟩
        | false => exact ⟨c, hc⟩
      · simp only [hk, if_false]
        exact ⟨c, hc⟩
    rcases h with h | h
    · rcases List.mem_cons.mp h with h | h
      · cases h
        refine .inr ?_
        unfold zbS
        simp only [if_true, List.lookup_cons, beq_self_eq_true]
        exact ⟨_, rfl⟩
      · exact .inl h
    · exact .inr (keep h)
def relN (psc : Scope) (names : List (Str × NameKind)) : List (Str × NameKind) := names.map fun (n, k) => if (k == .free && psc.kind == .function && psc.names.lookup n == some .cell) then (n, .cell) else (n, k)
theorem zfg {psc : Scope} : ∀ {names : List (Str × NameKind)} {x : Str} {k' : NameKind}, (relN psc names).lookup x = some k' → (k' = .cell ∨ k' = .free) → (∀ y ∈ names, y.2 ≠ .cell) → (x, NameKind.free) ∈ names
  | [], _, _, h, _, _ => by simp [relN] at h
  | (n, k) :: r, x, k', h, hk, hn => by
    have ih := @zfg psc r x k'
    have h' : List.lookup x ((if (k == NameKind.free && psc.kind == .function && psc.names.lookup n == some .cell) = true then (n, NameKind.cell) else (n, k)) :: relN psc r) = some k' := h
    cases hx : x == n with
    | true =>
      have e := eq_of_beq hx
      subst e
      by_cases hc : (k == NameKind.free && psc.kind == .function && psc.names.lookup x == some .cell) = true
      · have hkf : k = .free := by
          cases k <;> first | rfl | (exfalso; simp at hc)
        rw [hkf]
        exact List.mem_cons_self
      · rw [if_neg hc] at h'
        simp only [List.lookup_cons, beq_self_eq_true] at h'
        have e2 : k = k' := Option.some.inj h'
        subst e2
        rcases hk with hk | hk
        · exact absurd hk (hn (x, k) List.mem_cons_self)
        · rw [hk]
          exact List.mem_cons_self
    | false =>
      refine List.mem_cons_of_mem _ (ih ?_ hk fun y hy => hn y (List.mem_cons_of_mem _ hy))
      by_cases hc : (k == NameKind.free && psc.kind == .function && psc.names.lookup n == some .cell) = true
      · rw [if_pos hc] at h'
        simp only [List.lookup_cons, hx] at h'
        exact h'
      · rw [if_neg hc] at h'
        simp only [List.lookup_cons, hx] at h'
        exact h'
def zec (cs : List (Str × Nat)) (σ : St) : St := cs.map fun p => (σ[p.2]?).join
abbrev zb1 (X : Cx) (Nc : List Str) (scope : Scope) (cl : List (Str × Addr)) (C : Addr) (s₀ : Shared) (H₀ : Hp) (ex : List Addr) (pn : List (Addr × Obj)) : Cx :=
 { X with N := Nc, s₀ := s₀, H₀ := H₀, env := compEnvC scope cl C X.env, outer := X.stack, ex := ex, fn := fun _ => false, pn := pn, xe := fun _ _ => False }
def zgk (N : List Str) (psc : Scope) (x : Str) (cs : List (Str × Nat)) (scope : Scope) : Bool :=
 scope.kind == .function && scope.names.lookup x == some .local && decide ((x :: cs.map (·.1)).Nodup) &&
 scope.names.all (fun y => y.2 != .cell && (y.2 != .local || scope.names.lookup y.1 == some .local) && (y.2 != .free || (psc.names.lookup y.1 == some .cell || psc.names.lookup y.1 == some .free))) &&
 cs.all (fun p => N[p.2]? == some p.1 && (psc.names.lookup p.1 == some .cell || psc.names.lookup p.1 == some .free) && ((relN psc scope.names).lookup p.1 == some .cell || (relN psc scope.names).lookup p.1 == some .free))
structure CompOk (N : List Str) (psc : Scope) (x : Str) (cs : List (Str × Nat)) (scope : Scope) : Prop where
 kind : scope.kind = .function
 own : scope.names.lookup x = some .local
 nd : (x :: cs.map (·.1)).Nodup
 cell : ∀ y ∈ scope.names, y.2 ≠ .cell
 names : ∀ y ∈ scope.names, y.2 = .local → scope.names.lookup y.1 = some .local
 has : ∀ y ∈ scope.names, y.2 = .free → psc.names.lookup y.1 = some .cell ∨ psc.names.lookup y.1 = some .free
 cap : ∀ p ∈ cs, N[p.2]? = some p.1 ∧ (psc.names.lookup p.1 = some .cell ∨ psc.names.lookup p.1 = some .free) ∧ ((relN psc scope.names).lookup p.1 = some .cell ∨ (relN psc scope.names).lookup p.1 = some .free)
theorem CompOk.of {N : List Str} {psc : Scope} {x : Str} {cs : List (Str × Nat)} {scope : Scope} (h : zgk N psc x cs scope = true) : CompOk N psc x cs scope := by
 unfold zgk at h
 simp only [Bool.and_eq_true, Bool.or_eq_true, List.all_eq_true, beq_iff_eq, decide_eq_true_eq, bne_iff_ne, ne_eq] at h
 obtain ⟨⟨⟨⟨h1, h2⟩, h3⟩, h4⟩, h5⟩ := h
 refine ⟨h1, h2, h3, fun y hy => (h4 y hy).1.1, fun y hy e => ?_, fun y hy e => ?_, fun p hp => ⟨(h5 p hp).1.1, (h5 p hp).1.2, (h5 p hp).2⟩⟩
 ·rcases (h4 y hy).1.2 with z | z
  ·exact absurd e z
  ·exact z
 ·rcases (h4 y hy).2 with z | z
  ·exact absurd e z
  ·exact z
def PIfs (X : Cx) (ifs : List Expr) (t : TT) : Prop :=
 ∀ (pins : List (Addr × Obj)) (s : Shared) (σ : St) (H : Hp) (Q : Bool → Hp → Prop), Inv X pins σ H s → t σ H Q →
  wpAny (model X.prog X.w) X.A (forIn ifs true fun c r => if r = true then do let ok ← isTrue c X.env (eval c X.env); pure (ForInStep.yield ok) else pure (ForInStep.yield r)) (TP X pins σ Q) X.xe s
def tYes : TT := fun _ H Q => Q true H
theorem zjl {X : Cx} : PIfs X [] tYes := fun _ _ _ H _ I h => wpAny_tests_nil ⟨H, I, h⟩
def zjH (wi : TI) (tq : TT) (te : TE) (cs : List (Str × Nat)) : St → Hp → (Addr → Hp → Prop) → Prop := fun σ H R => wi σ H fun J H1 => ∀ D, H1 D = none →
  ∃ W : Nat → Nat → List V → Hp → Prop, (∃ m, W 0 m [] (upd H1 D (.lst []))) ∧ ∀ i m ys H2, W i m ys H2 → H2 D = some (.lst ys) ∧
    ((J.stop i H2 ∧ R D H2) ∨ (J.go i H2 ∧ ys.length < sizeLine ∧ ∃ N : List V → Hp → Prop, (∀ ys' H', N ys' H' → ∃ m', m' < m ∧ W (i + 1) m' ys' H') ∧ ∀ v H3, J.yld i H2 v H3 → tq (some v :: zec cs σ) H3 fun b H4 =>
      if b = true then te (some v :: zec cs σ) H4 fun y H5 => H5 D = some (.lst ys) ∧ N (ys ++ [y]) (upd H5 D (.lst (ys ++ [y]))) else N ys H4))
section
variable {prog : Program} {w : World} {A : Around} {R : Result → Shared → Prop} {s : Shared}
theorem zdx {elt target iter : Expr} {ifs : List Expr} {scope : Scope} {pos : Pos} {it acc : Value} {env : Env} (I : Nat → Shared → Prop)
    (turn : ∀ n s, I n s → wpAny (model prog w) A (pyNext it) (fun r s₁ => match r with
      | none => R (.ok .next) s₁
      | some v => wpAny (model prog w) A (letOwnedTupleGo target it v) (fun _ s₁' => wpAny (model prog w) A (assign target env v) (fun _ s₂ =>
          wpAny (model prog w) A (forIn ifs true fun c r => if r = true then do let ok ← isTrue c env (eval c env); pure (ForInStep.yield ok) else pure (ForInStep.yield r)) (fun ok s₃ =>
            if ok = true then wpAny (model prog w) A (eval elt env) (fun x s₄ =>
              wpAny (model prog w) A (call (.builtin "list.append") [acc, x]) (fun _ s₅ => ∃ m, m < n ∧ I m s₅) (fun _ _ => False) s₄) (fun _ _ => False) s₃
            else ∃ m, m < n ∧ I m s₃) (fun _ _ => False) s₂) (fun _ _ => False) s₁') (fun _ _ => False) s₁) (fun _ _ => False) s)
    (n : Nat) (h : I n s) :
    codeAny (model prog w) A (.compLoop (.ListComp elt [⟨target, iter, ifs, 0⟩] scope pos) 0 it acc env) R s := by
  refine codeAny_loop rfl I (fun n s hI => ?_) n h
  show wpAny _ A ((compTurn (.ListComp elt [⟨target, iter, ifs, 0⟩] scope pos) 0 it acc env).onRaise (fun x => do noteFrame x env; theTreesLotGoes x)) _ _ s
  refine wpAny_noted ?_
  rw [compTurn_list]
  refine wpAny_bind (wpAny_standAt (wpAny_bind (wpAny_mono (turn n s hI) (fun r s₁ h₁ => ?_) fun _ _ h' => h'.elim)))
  cases r with
  | none => exact wpAny_pure h₁
  | some v =>
    refine wpAny_bind (wpAny_mono h₁ (fun _ s₁' h₁' => ?_) fun _ _ h' => h'.elim)
    refine wpAny_bind (wpAny_mono h₁' (fun _ s₂ h₂ => wpAny_bind (wpAny_mono h₂ (fun ok s₃ h₃ => ?_) fun _ _ h' => h'.elim)) fun _ _ h' => h'.elim)
    cases ok with
    | false => exact wpAny_pure ⟨rfl, h₃⟩
    | true =>
      exact wpAny_bind (wpAny_bind (wpAny_mono h₃ (fun x s₄ h₄ => wpAny_bind (wpAny_mono h₄ (fun _ s₅ h₅ => wpAny_pure (wpAny_pure ⟨rfl, h₅⟩)) fun _ _ h' => h'.elim)) fun _ _ h' => h'.elim))
end
section
variable {X : Cx} {elt iter : Expr} {ifs : List Expr} {x : Str} {px : Pos} {scope : Scope} {pos : Pos} {wi : TI} {tq : TT} {te : TE} {cs : List (Str × Nat)}
theorem zjj (hc : X.calm = true) (hi : PI X (.Name x px) iter wi)
    (hq : ∀ (cl : List (Str × Addr)) (C : Addr) (s₀ : Shared) (H₀ : Hp) (ex : List Addr) (pn : List (Addr × Obj)), PIfs (zb1 X (x :: cs.map (·.1)) scope cl C s₀ H₀ ex pn) ifs tq)
    (he : ∀ (cl : List (Str × Addr)) (C : Addr) (s₀ : Shared) (H₀ : Hp) (ex : List Addr) (pn : List (Addr × Obj)), PE (zb1 X (x :: cs.map (·.1)) scope cl C s₀ H₀ ex pn) elt te)
    (ok : CompOk X.N X.env.scope x cs scope) {pins : List (Addr × Obj)} {s : Shared} {σ : St} {H : Hp} {R : Addr → Hp → Prop} (I : Inv X pins σ H s) (h : zjH wi tq te cs σ H R)
    {RR : Value → Addr → Result → Shared → Prop}
    (hRR : ∀ (D C : Addr) (oC : Obj) (H' : Hp) (s' : Shared), Inv X (pins ++ [(C, oC)]) σ H' s' → (∀ h' : Heap, h'.get? C = some oC → ∃ m, h'.Ns C m) → FpOk X pins H' C → R D H' → RR (.ref D) C (.ok .next) s') :
    wpAny (model X.prog X.w) X.A (eval iter X.env) (fun xv s₁ => wpAny (model X.prog X.w) X.A (pyIter xv) (fun itv s₂ => wpAny (model X.prog X.w) X.A (newList []) (fun acc s₃ =>
      wpAny (model X.prog X.w) X.A (newFunctionEnv scope X.env.globals (zcE X.env.cells scope.names) [] X.env.qual none .none (some X.env)) (fun cenv s₄ =>
        codeAny (model X.prog X.w) X.A (.compStart (.ListComp elt [⟨.Name x px, iter, ifs, 0⟩] scope pos) 0 itv acc { cenv with scope := relabel scope X.env }) (RR acc cenv.locals) s₄) X.xe s₃) X.xe s₂) X.xe s₁) X.xe s := by
  refine thn (hi pins s σ H _ I h) fun v s1 h1 => thn h1 fun itv s2 h2 => ?_
  obtain ⟨it, fp, tn, J, H2, e, I2, T, st2, f2, h2⟩ := h2
  subst e
  have hhas : ∀ y ∈ scope.names, y.2 = .free → ∃ c, X.env.cells.lookup y.1 = some c := fun y hy hk => I2.ok.has y.1 (ok.has y hy hk)
  refine wpAny_newObj_type (wpAny_newFunctionEnv ok.cell (by intro y hy; simp at hy) (fun h₁ hns₁ hsb₁ => ?_) ok.kind)
  dsimp only at hns₁ hsb₁ ⊢
  generalize hHH : s2.heap.push { cls := .type "list", dict := none, data := .seq ([] : List Value).toArray } = HH at hns₁ hsb₁ ⊢
  have hC : HH.objs.size = s2.heap.objs.size + 1 := by rw [← hHH, Heap.size_push]
  have hDC : s2.heap.objs.size ≠ HH.objs.size := by rw [hC]; exact Nat.ne_of_lt (Nat.lt_succ_self _)
  have hCle : s2.heap.objs.size ≤ HH.objs.size := by rw [hC]; exact Nat.le_succ _
  have below : ∀ b, b < s2.heap.objs.size → b ≠ HH.objs.size := fun b hb => by rw [hC]; exact Nat.ne_of_lt (Nat.lt_succ_of_lt hb)
  have old : ∀ b o, s2.heap.get? b = some o → h₁.get? b = some o := fun b o e => hsb₁.extBut b o (below b (Heap.lt_size e)) (Heap.get?_push_of_some _ (hHH ▸ Heap.get?_push_of_some _ e))
  have hacc : h₁.get? s2.heap.objs.size = some { cls := .type "list", dict := none, data := .seq ([] : List Value).toArray } := hsb₁.extBut _ _ hDC (Heap.get?_push_of_some _ (hHH ▸ Heap.get?_push_size _ rfl))
  have nD : H2 s2.heap.objs.size = none := I2.hok.fresh (Nat.le_refl _)
  have nC : H2 HH.objs.size = none := I2.hok.fresh hCle
  obtain ⟨W, ⟨m0, w0⟩, turn⟩ := h2 s2.heap.objs.size nD
  -- the block's context
  have fpC : ∀ b ∈ fp, b ≠ HH.objs.size := fun b hb => by
    obtain ⟨o, ho, _⟩ := T.obj 0 _ st2 b hb
    exact below b (Heap.lt_size ho)
  have fpD : ∀ b ∈ fp, b ≠ s2.heap.objs.size := fun b hb => by
    obtain ⟨o, ho, _⟩ := T.obj 0 _ st2 b hb
    exact Nat.ne_of_lt (Heap.lt_size ho)
  have pinC : ∀ p ∈ X.pn ++ pins, p.1 ≠ HH.objs.size := fun p hp => below _ (Heap.lt_size (I2.pin p hp).1)
  have clIn : ∀ y c, (zcE X.env.cells scope.names).lookup y = some c → X.env.cells.lookup y = some c := zjY scope.names [] hhas (fun y c e => by cases e)
  have kindRel : ∀ y, (relabel scope X.env).names.lookup y = (relN X.env.scope scope.names).lookup y := fun _ => rfl
  have okC : (zb1 X (x :: cs.map (·.1)) scope (zcE X.env.cells scope.names) HH.objs.size s2 H2 fp (X.pn ++ pins)).Ok :=
    { mod := I2.ok.mod
      kind := ok.kind
      glob := I2.ok.glob
      blt := I2.ok.blt
      above := hCle
      inj := fun y z c e1 e2 => I2.ok.inj y z c (clIn y c e1) (clIn z c e2)
      has := fun y hk => by
        have hm : (y, NameKind.free) ∈ scope.names := by
          rcases hk with hk | hk
          · exact zfg (psc := X.env.scope) (k' := .cell) hk (.inl rfl) ok.cell
          · exact zfg (psc := X.env.scope) (k' := .free) hk (.inr rfl) ok.cell
        exact zf3 scope.names [] y (.inl hm)
      cab := fun y c hf _ => by cases hf
      hd := I2.ok.hd
      frames := I2.ok.frames
      stk := .inl rfl
      exf := fun b hb => ⟨fpC b hb, fun y c e z => (f2 b hb).2.2.2.2.1 y c (clIn y c e) z⟩
      bs := fun b o e => I2.bs b o e
      bsz := Nat.le_trans I2.ok.bsz I2.sz
      noex := fun b o e hb => by
        rcases (f2 b hb).2.2.2.1 with z | z
        · exact I2.ok.noex b o e z
        · exact absurd (Nat.lt_of_lt_of_le (Heap.lt_size e) (Nat.le_trans I2.ok.bsz z)) (Nat.lt_irrefl _)
      exfs := fun b hb z => by
        rcases List.mem_cons.mp (I2.stkSub b z) with q | q
        · exact (f2 b hb).2.1 q
        · exact (f2 b hb).2.2.1 q
      funs := I2.stack
      frf := I2.stkFree }
  have IC : Inv (zb1 X (x :: cs.map (·.1)) scope (zcE X.env.cells scope.names) HH.objs.size s2 H2 fp (X.pn ++ pins)) [] (none :: zec cs σ) (upd H2 s2.heap.objs.size (.lst [])) { s2 with heap := h₁, toks := s2.toks + ([] : List (Str × Value)).length } :=
    { ok := okC
      os := rfl
      bare := I2.bare
      base := Un.laid old (Nat.le_refl _) nD
      loc := by
        refine ⟨_, hns₁, fun i y u e1 e2 _ => ?_⟩
        cases i with
        | zero =>
          have e2' : (none : Option V) = some u := Option.some.inj e2
          cases e2'
        | succ i =>
          have e1' : (cs.map (·.1))[i]? = some y := e1
          have e2' : (zec cs σ)[i]? = some (some u) := e2
          rw [List.getElem?_map] at e1'
          unfold zec at e2'
          rw [List.getElem?_map] at e2'
          cases ep : cs[i]? with
          | none => rw [ep] at e1'; cases e1'
          | some p =>
            rw [ep] at e1' e2'
            have e1'' : p.1 = y := Option.some.inj e1'
            have e2'' : (σ[p.2]?).join = some u := Option.some.inj e2'
            have e3 : σ[p.2]? = some (some u) := by
              cases q : σ[p.2]? with
              | none => rw [q] at e2''; cases e2''
              | some z => rw [q] at e2''; exact congrArg some e2''
            subst e1''
            obtain ⟨hN, hkp, hkc⟩ := ok.cap p (List.mem_of_getElem? ep)
            obtain ⟨mP, _, hl⟩ := I2.loc
            obtain ⟨u', ru, lk⟩ := hl p.2 p.1 u hN e3 (.inr hkp)
            refine ⟨u', ru, .inr ⟨hkc, ?_⟩⟩
            rcases lk with ⟨k0, _⟩ | ⟨_, c, hcell, his⟩
            · exfalso
              have k0' : X.env.scope.names.lookup p.1 = some .local := k0
              rcases hkp with z | z <;> (rw [k0'] at z; cases z)
            · have hm : (p.1, NameKind.free) ∈ scope.names := by
                rcases hkc with z | z
                · exact zfg z (.inl rfl) ok.cell
                · exact zfg z (.inr rfl) ok.cell
              obtain ⟨c', hc'⟩ := zf3 (cells := X.env.cells) scope.names [] p.1 (.inl hm)
              have e5 : c' = c := Option.some.inj ((clIn p.1 c' hc').symm.trans hcell)
              exact ⟨c', hc', by rw [e5]; exact his.keeps old⟩
      cell := fun y c e => by
        obtain ⟨v', q⟩ := I2.cell y c (clIn y c e)
        exact ⟨v', q.keeps old⟩
      free := by
        show upd H2 s2.heap.objs.size (.lst []) HH.objs.size = none
        rw [zar hDC.symm]
        exact nC
      freeC := fun y c e => by
        have hcl : c < s2.heap.objs.size := by
          obtain ⟨_, q⟩ := I2.cell y c (clIn y c e)
          exact q.lt
        rw [zar (Nat.ne_of_lt hcl)]
        exact I2.freeC y c (clIn y c e)
      pin := fun p hp => by
        have hp' : p ∈ X.pn ++ pins := by
          rcases List.mem_append.mp hp with z | z
          · exact z
          · cases z
        obtain ⟨e1, e2, e3, e4, e5⟩ := I2.pin p hp'
        refine ⟨old _ _ e1, ?_, pinC p hp', fun z => ?_, e5⟩
        · rw [zar (Nat.ne_of_lt (Heap.lt_size e1))]
          exact e2
        · rcases List.mem_cons.mp (I2.stkSub p.1 z) with q | q
          · exact e3 q
          · exact e4 q
      hok := I2.hok.laid old (Nat.le_refl _) ⟨Nat.zero_le _, [], 0, .nil, hacc⟩
      len := by simp [zec] }
  have stC : tn 0 h₁ := T.keep 0 _ _ st2 fun b _ o e => old b o e
  have frC : ∀ b ∈ fp, upd H2 s2.heap.objs.size (HO.lst []) b = none := fun b hb => by
    rw [zar (fpD b hb)]
    exact (f2 b hb).1
  -- what stays true of the iterator's objects in the block
  have stat : ∀ {H' : Hp}, (∀ b ∈ fp, H' b = none) → ∀ b ∈ fp, FpOk (zb1 X (x :: cs.map (·.1)) scope (zcE X.env.cells scope.names) HH.objs.size s2 H2 fp (X.pn ++ pins)) [] H' b := fun {H'} hn b hb =>
    ⟨hn b hb, fpC b hb, okC.exfs b hb, .inl hb, fun y c e => (okC.exf b hb).2 y c e, fun p hp => (f2 b hb).2.2.2.2.2 p (by
      rcases List.mem_append.mp hp with z | z
      · exact z
      · cases z)⟩
  have loop : ∀ s₃ : Shared, s₃ = { s2 with heap := h₁, toks := s2.toks + ([] : List (Str × Value)).length } →
      codeAny (model X.prog X.w) X.A (.compLoop (.ListComp elt [⟨.Name x px, iter, ifs, 0⟩] scope pos) 0 (.ref it) (.ref s2.heap.objs.size) (compEnvC scope (zcE X.env.cells scope.names) HH.objs.size X.env)) (RR (.ref s2.heap.objs.size) HH.objs.size) s₃ := by
    rintro s₃ rfl
    refine zdx (fun n s' => ∃ (i : Nat) (v : Option V) (ys : List V) (H' : Hp), Inv (zb1 X (x :: cs.map (·.1)) scope (zcE X.env.cells scope.names) HH.objs.size s2 H2 fp (X.pn ++ pins)) [] (v :: zec cs σ) H' s' ∧ tn i s'.heap ∧ (∀ b ∈ fp, H' b = none) ∧ W i n ys H')
      ?_ m0 ⟨0, none, [], _, IC, stC, frC, w0⟩
    rintro n s3 ⟨i, v3, ys, H3, I3, st3, fr3, w3⟩
    obtain ⟨hD3, tr⟩ := turn i n ys H3 w3
    rcases tr with ⟨stop, qn⟩ | ⟨go, hsz, N, hN, step⟩
    · refine thn (T.done (zb1 X (x :: cs.map (·.1)) scope (zcE X.env.cells scope.names) HH.objs.size s2 H2 fp (X.pn ++ pins)) rfl rfl rfl hc i [] s3 _ H3 _ I3 (stat fr3) st3 stop) fun r s4 ⟨hr, I4⟩ => ?_
      subst hr
      show RR (.ref s2.heap.objs.size) HH.objs.size (.ok .next) s4
      have IP : Inv X pins σ H3 s4 := I2.call' (ch := fp) I4.os I4.base I4.hok I4.bare fun b hb => ⟨(f2 b hb).2.2.2.1, (f2 b hb).2.1, (f2 b hb).2.2.2.2.1, (f2 b hb).2.2.2.2.2⟩
      obtain ⟨m4, ⟨oC, es, ep, hoC, hdC, hk1, hk2⟩, _⟩ := I4.loc
      have nC3 : H3 HH.objs.size = none := I4.free
      have fC : FpOk X pins H3 HH.objs.size := I2.fpOk hCle nC3
      refine hRR _ _ oC H3 s4 (IP.pins_of fun p hp => ?_) (fun h' e => ⟨m4, oC, es, ep, e, hdC, hk1, hk2⟩) fC qn
      rcases List.mem_append.mp hp with z | z
      · exact IP.pin p (List.mem_append_right _ z)
      · have e : p = (HH.objs.size, oC) := by simpa using z
        subst e
        exact ⟨hoC, nC3, fC.2.1, fC.2.2.1, fun v z => by
          have z' : oC.data = .cell v := z
          rw [hdC] at z'
          cases z'⟩
    · refine thn (T.item (zb1 X (x :: cs.map (·.1)) scope (zcE X.env.cells scope.names) HH.objs.size s2 H2 fp (X.pn ++ pins)) rfl rfl rfl hc i [] s3 _ H3 _ I3 (stat fr3) st3 go) fun r s4 ⟨u, hr, h4⟩ => ?_
      subst hr
      refine thn h4 fun _ s5 ⟨y, H5, I5, r5, y5, st5, fr5⟩ => ?_
      have I5' := I5.pinned (stat fr5) (T.obj _ _ st5)
      have hloc : Loc (zb1 X (x :: cs.map (·.1)) scope (zcE X.env.cells scope.names) HH.objs.size s2 H2 fp (X.pn ++ pins)).env.scope x := .inl (lookup_relabel_local ok.own)
      refine wpAny_assign_Name (zdm (i := 0) I5' ok.nd rfl hloc r5 (fun s6 I6 => ?_) (.inr (lookup_relabel_local ok.own)))
      refine thn (hq _ _ _ _ _ _ _ s6 _ H5 _ I6 (step y H5 y5)) fun b s7 ⟨H7, I7, q7⟩ => ?_
      have again : ∀ {v' : Option V} {H8 : Hp} {s8 : Shared} {ys' : List V} {m' : Nat}, Inv (zb1 X (x :: cs.map (·.1)) scope (zcE X.env.cells scope.names) HH.objs.size s2 H2 fp (X.pn ++ pins)) ([] ++ zg8 fp s5.heap) (v' :: zec cs σ) H8 s8 → W (i + 1) m' ys' H8 →
          ∃ (i : Nat) (v : Option V) (ys : List V) (H' : Hp), Inv (zb1 X (x :: cs.map (·.1)) scope (zcE X.env.cells scope.names) HH.objs.size s2 H2 fp (X.pn ++ pins)) [] (v :: zec cs σ) H' s8 ∧ tn i s8.heap ∧ (∀ b ∈ fp, H' b = none) ∧ W i m' ys H' := fun {v' H8 s8 ys' m'} I8 w8 => by
        refine ⟨i + 1, v', ys', H8, I8.unpinned, T.keep _ _ _ st5 fun b hb o e => (I8.pin (b, o) (List.mem_append_right _ (List.mem_append_right _ (zdk hb e)))).1, fun b hb => ?_, w8⟩
        obtain ⟨o, e, d⟩ := T.obj _ _ st5 b hb
        exact (I8.pin (b, o) (List.mem_append_right _ (List.mem_append_right _ (zdk hb e)))).2.1
      cases b with
      | false =>
        rw [if_neg Bool.false_ne_true] at q7
        rw [if_neg Bool.false_ne_true]
        obtain ⟨m', hm, w8⟩ := hN _ _ q7
        exact ⟨m', hm, again I7 w8⟩
      | true =>
        rw [if_pos rfl] at q7
        rw [if_pos rfl]
        refine thn (he _ _ _ _ _ _ _ s7 _ H7 _ I7 q7) fun z s8 ⟨zv, H8, I8, r8, hD8, n8⟩ => ?_
        obtain ⟨m', hm, w8⟩ := hN _ _ n8
        refine thn (zfo (X := zb1 X (x :: cs.map (·.1)) scope (zcE X.env.cells scope.names) HH.objs.size s2 H2 fp (X.pn ++ pins)) _ s8 _ H8 (.ref s2.heap.objs.size) [zv] (.ref s2.heap.objs.size) [z] (fun _ H9 => H9 = upd H8 s2.heap.objs.size (.lst (ys ++ [zv]))) I8 rfl (.cons r8 .nil) ⟨_, ys, zv, rfl, rfl, hD8, hsz, rfl⟩) fun _ s9 ⟨_, H9, I9, _, e9⟩ => ?_
        subst e9
        exact ⟨m', hm, again I9 w8⟩
  exact codeAny_compStart_list (loop _ rfl) (T.self _ 0 _ _ _ stC (loop _ rfl))
def tComp (wi : TI) (tq : TT) (te : TE) (cs : List (Str × Nat)) : TE := fun σ H Q => zjH wi tq te cs σ H fun D H' => Q (.ref D) H'
theorem zlH (x : Str) (cs : List (Str × Nat)) {px : Pos} (hc : X.calm = true) (hi : PI X (.Name x px) iter wi)
  (hq : ∀ (cl : List (Str × Addr)) (C : Addr) (s₀ : Shared) (H₀ : Hp) (ex : List Addr) (pn : List (Addr × Obj)), PIfs (zb1 X (x :: cs.map (·.1)) scope cl C s₀ H₀ ex pn) ifs tq)
  (he : ∀ (cl : List (Str × Addr)) (C : Addr) (s₀ : Shared) (H₀ : Hp) (ex : List Addr) (pn : List (Addr × Obj)), PE (zb1 X (x :: cs.map (·.1)) scope cl C s₀ H₀ ex pn) elt te)
  (ok : zgk X.N X.env.scope x cs scope = true := by kernel_rfl) (hs : ∀ x, foldedSetIterable iter X.env x = pure x := by intro _; rfl) :
  PE X (.ListComp elt [⟨.Name x px, iter, ifs, 0⟩] scope pos) (tComp wi tq te cs) := by
 intro pins s σ H Q I h
 have ok' := CompOk.of ok
 rw [eval_ListComp]
 refine wpAny_comprehension_free (use := none) rfl hs (zgp fun y hy hk => I.ok.has y.1 (ok'.has y hy hk)) ok'.kind ok'.names ?_
 refine zjj (RR := fun acc C => compPost (model X.prog X.w) X.A X.xe none (EP X pins σ Q) acc C) hc hi hq he ok' I h ?_
 intro D C oC H' s' I' hns fC q
 refine ⟨_, (hns _ (I'.pin (C, oC) (List.mem_append_right _ (List.mem_append_right _ (by simp)))).1).choose_spec, fun h' hs' => ?_⟩
 have I1 : Inv X pins σ H' s' := I'.unpinned
 exact ⟨.ref D, H', I1.turned (t' := s'.toks) (fun b o hb e => (hs'.2 b hb).trans e) fC.1 fC.2.1 fC.2.2.2.1 fC.2.2.2.2.1 fC.2.2.2.2.2, rfl, q⟩
end
theorem zdn {H : Hp} {D : Addr} {o : HO} (hD : H D = none) : Same H (upd H D o) := fun b ob e => by
 rw [zar (za3 e hD)]
 exact e
end L2
namespace L2
open PySem PySem.Spec PyProof.Rows
structure Noted (fs : List Addr) (z : Addr) (h h' : Heap) (e : Addr) (oe : Obj) (T : Addr) (fl : Value) : Prop where
 keep : ∀ b o, b ∉ fs → b ≠ e → b ≠ z → h.get? b = some o → h'.get? b = some o
 slot : ∀ b o, b ∈ fs → b ≠ e → b ≠ z → h.get? b = some o → ∃ sl, h'.get? b = some { o with slots := sl }
 exc : h'.get? e = some (oe.mapFields (·.setIfInBounds 1 (.ref T)))
 new : h.objs.size ≤ T
 tb : ∃ oT ts, h'.get? T = some oT ∧ oT.data = .fields ts ∧ ts[3]? = some fl
section
variable {M : Model} {A : Around} {E : Value → Shared → Prop} {s : Shared} {base : Heap} {env : Env} {outer : List Env} {L e z : Addr} {oe : Obj} {vs : Array Value} {Q : Unit → Shared → Prop}
theorem zgH {head : Value} {hadNext : Bool} (a1 : A.frames = some (env :: outer)) (a2 : s.heap.FunFrames base (env :: outer)) (a3 : env.frame = some L)
  (a4 : s.heap.get? e = some oe) (a5 : oe.data = .fields vs) (a6 : 1 < vs.size)
  (k : ∀ h' T, Noted (frs (env :: outer)) e s.heap h' e oe T (rawInt L) → Q () { s with heap := h' }) :
  wpAny M A (do
   let a ← frameOf env
   let pl ← entryPlaceOf L hadNext
   let b ← EntryCells.newEntry head a .none (rawInt L) .none pl
   setField (.ref e) 1 b) Q E s := by
 have ne : e ∉ frs (env :: outer) := fun m => by
  obtain ⟨_, o, e1, e2⟩ := a2.mem m
  rw [a4] at e1
  cases e1
  exact e2 vs a5
 refine wpAny_bind (wpAny_frameOf_fun a1 a2 a3 fun h1 S => ?_)
 refine wpAny_bind (wpAny_entryPlaceOf fun pl hpl => ?_)
 unfold EntryCells.newEntry newFields
 refine wpAny_bind (wpAny_newObj_type ?_ (hpl.sizeOk5 _ _ _ _ _))
 have b1 : h1.get? e = some oe := (S.2.1 e ne).trans a4
 have b2 := Heap.get?_push_of_some (h := h1) { cls := .type "traceback", dict := none, data := .fields ([head, .ref L, .none, rawInt L, .none] ++ (if pl.isEmpty then List.replicate 6 Value.none else pl)).toArray } b1
 refine wpAny_setField b2 a5 a6 (k _ h1.objs.size ?_)
 have n1 : h1.objs.size ≠ e := Nat.ne_of_gt (Heap.lt_size b1)
 have frd := Obj.isFreed_of_fields (Obj.data_mapFields a5 (·.setIfInBounds 1 (Value.ref h1.objs.size)))
 refine ⟨fun b o nb nbe _ hb => ?_, fun b o _ nbe _ hb => ?_, Heap.get?_update_self _ b2 frd, Nat.le_of_eq S.1.symm, ?_⟩
 ·rw [Heap.get?_update_other _ _ (Ne.symm nbe)]
  exact Heap.get?_push_of_some _ ((S.2.1 b nb).trans hb)
 ·obtain ⟨sl, q⟩ := S.2.2 b o hb
  refine ⟨sl, ?_⟩
  rw [Heap.get?_update_other _ _ (Ne.symm nbe)]
  exact Heap.get?_push_of_some _ q
 ·refine ⟨_, _, (Heap.get?_update_other _ _ (Ne.symm n1)).trans (Heap.get?_push_size h1 rfl), rfl, ?_⟩
  rcases hpl with rfl | ⟨_, _, _, _, _, _, _, rfl⟩ <;> simp
theorem zfM {T : Addr} {oT : Obj} {ts : Array Value} (b1 : s.heap.get? e = some oe) (b2 : oe.data = .fields vs) (b3 : vs[1]? = some (.ref T)) (b4 : s.heap.get? T = some oT) (b5 : oT.data = .fields ts) (b6 : 3 < ts.size)
  (k : Q () { s with heap := s.heap.update T (Obj.mapFields (·.setIfInBounds 3 .none)) }) : wpAny M A (setFlight (.ref e) none) Q E s := by
 unfold setFlight
 refine wpAny_bind (wpAny_field b1 b2 b3 ?_)
 rw [if_pos (by simp)]
 exact wpAny_setField b4 b5 b6 k
theorem zjM {fs : List Addr} {h h1 : Heap} {T : Addr} {fl : Value} (N : Noted fs z h h1 e oe T fl) (a4 : h.get? e = some oe) (a5 : oe.data = .fields vs) : Noted fs z h (h1.update T (Obj.mapFields (·.setIfInBounds 3 .none))) e oe T .none := by
 obtain ⟨oT, ts, t1, t2, t3⟩ := N.tb
 have ne : ∀ b o, h.get? b = some o → b ≠ T := fun b o q => Nat.ne_of_lt (Nat.lt_of_lt_of_le (Heap.lt_size q) N.new)
 refine ⟨fun b o n1 n2 n3 hb => ?_, fun b o n1 n2 n3 hb => ?_, ?_, N.new, ?_⟩
 ·rw [Heap.get?_update_other _ _ (Ne.symm (ne b o hb))]
  exact N.keep b o n1 n2 n3 hb
 ·obtain ⟨sl, q⟩ := N.slot b o n1 n2 n3 hb
  exact ⟨sl, by rw [Heap.get?_update_other _ _ (Ne.symm (ne b o hb))]; exact q⟩
 ·rw [Heap.get?_update_other _ _ (Ne.symm (ne e oe a4))]
  exact N.exc
 ·have z3 : 3 < ts.size := (Array.getElem?_eq_some_iff.mp t3).1
  exact ⟨_, _, Heap.get?_update_self _ t1 (Obj.isFreed_of_fields (Obj.data_mapFields t2 _)), Obj.data_mapFields t2 _, by simp [z3]⟩
theorem zeD {fs : List Addr} {h : Heap} {T : Addr} {fl : Value} (N : Noted fs z h s.heap e oe T fl) (a4 : h.get? e = some oe) (a5 : oe.data = .fields vs) (a6 : 1 < vs.size)
  (k : ∀ h', Noted fs z h h' e oe T .none → Q () { s with heap := h' }) : wpAny M A (setFlight (.ref e) none) Q E s := by
 obtain ⟨oT, ts, t1, t2, t3⟩ := N.tb
 refine zfM N.exc (Obj.data_mapFields a5 _) (by simp [a6]) t1 t2 (Array.getElem?_eq_some_iff.mp t3).1 (k _ (zjM N a4 a5))
theorem zhw (a1 : A.frames = some (env :: outer)) (a2 : s.heap.FunFrames base (env :: outer)) (a3 : env.frame = some L)
  (a4 : s.heap.get? e = some oe) (a5 : oe.data = .fields vs) (a6 : vs[1]? = some .none) (k : ∀ h' T, Noted (frs (env :: outer)) e s.heap h' e oe T .none → Q () { s with heap := h' }) : wpAny M A (leaving env (.ref e)) Q E s := by
 have z1 := (Array.getElem?_eq_some_iff.mp a6).1
 unfold leaving noteFrame
 simp only [a3]
 refine wpAny_bind (wpAny_bind (wpAny_field a4 a5 a6 ?_))
 rw [if_neg (by decide)]
 exact zgH a1 a2 a3 a4 a5 z1 fun h' T N => zeD (s := { s with heap := h' }) N a4 a5 z1 fun h2 N2 => k h2 T N2
theorem zj3 {T0 : Addr} {oT : Obj} {ts : Array Value} (a1 : A.frames = some (env :: outer)) (a2 : s.heap.FunFrames base (env :: outer)) (a3 : env.frame = some L)
  (a4 : s.heap.get? e = some oe) (a5 : oe.data = .fields vs) (a6 : vs[1]? = some (.ref T0)) (b1 : T0 ≠ e) (b2 : s.heap.get? T0 = some oT) (b3 : oT.data = .fields ts) (b4 : ts[3]? = some .none)
  (k : ∀ h' T, Noted (frs (env :: outer)) T0 s.heap h' e oe T (rawInt L) → Q () { s with heap := h' }) : wpAny M A (noteFrame (.ref e) env) Q E s := by
 have z1 := (Array.getElem?_eq_some_iff.mp a6).1
 unfold noteFrame
 simp only [a3]
 refine wpAny_bind (wpAny_field a4 a5 a6 ?_)
 rw [if_pos (by simp)]
 refine wpAny_bind (wpAny_field b2 b3 b4 ?_)
 rw [if_neg (by simp [rawInt])]
 refine wpAny_bind (wpAny_setField b2 b3 (Array.getElem?_eq_some_iff.mp b4).1 ?_)
 have oth : ∀ b, b ≠ T0 → (s.heap.update T0 (Obj.mapFields (·.setIfInBounds 3 Value.none))).get? b = s.heap.get? b := fun b hb => Heap.get?_update_other _ _ (Ne.symm hb)
 have fr : ∀ b o, s.heap.get? b = some o → (∀ us, o.data ≠ .fields us) → b ≠ T0 := fun b o hb n r => by
  rw [r, b2] at hb
  cases hb
  exact n ts b3
 refine zgH (s := { s with heap := s.heap.update T0 (Obj.mapFields (·.setIfInBounds 3 Value.none)) }) a1 (a2.of_keeps fun b o hb n => ⟨o, (oth b (fr b o hb n)).trans hb, rfl⟩) a3 ((oth e (Ne.symm b1)).trans a4) a5 z1 fun h' T N => k h' T ?_
 exact ⟨fun b o n1 n2 n3 hb => N.keep b o n1 n2 n2 ((oth b n3).trans hb), fun b o n1 n2 n3 hb => N.slot b o n1 n2 n2 ((oth b n3).trans hb), N.exc, by rw [← Heap.size_after_update s.heap T0 (Obj.mapFields (·.setIfInBounds 3 Value.none))]; exact N.new, N.tb⟩
end
end L2
namespace L2
open PySem PySem.Spec PyProof.Rows
section
variable {prog : Program} {w : World} {A : Around} {E : Value → Shared → Prop} {h : Heap} {g : Array GenState} {d : Drawn} {t : Nat} {os : OsState}
variable {nm q : Str} {C N : Addr} {bs bm bmB : List Value} {hdct : Bool} {sn : List Str} {sub : List Value} {ab : Bool} {col : Option Bool} {dd : Option Addr} {k0 k1 k2 k3 k5 : Option Value} {B newId initId : String}
theorem zio {s : Shared} {env : Env} {x : Sem Value} {Q : Flow → Shared → Prop} (hh : A.handled = none)
  (k : wpAny (model prog w) A x (fun v s₁ => ∃ e oe vs, v = .ref e ∧ (∃ C nm q N bs bm hdct sn sub ab col dd k0 k1 k2 k3 k5 newId, s₁.heap.get? C = some (excClassObj nm q C N bs bm hdct sn sub ab col dd k0 k1 k2 k3 k5 newId) ∧ bm.contains (.type "BaseException") = true ∧ oe.cls = .ref C) ∧
   s₁.heap.get? e = some oe ∧ oe.data = .fields vs ∧ vs[1]? = some .none ∧ E (.ref e) s₁) E s) :
  wpAny (model prog w) A (raiseStmt env (some x) none) Q E s := by
 unfold raiseStmt
 refine wpAny_bind (wpAny_mono k (fun v s₁ h₁ => ?_) fun _ _ x => x)
 obtain ⟨e, oe, vs, rfl, ⟨C, nm, q, N, bs, bm, hdct, sn, sub, ab, col, dd, k0, k1, k2, k3, k5, newId, hC, hb, hc⟩, he, hd, h1, hE⟩ := h₁
 have hcB : (Value.ref C :: bm).contains (.type "BaseException") = true := by rw [List.contains_cons, hb, Bool.or_true]
 obtain ⟨oc, od, odt, osl⟩ := oe
 dsimp only at hc hd
 subst hc hd
 obtain ⟨hp, g, d, tk, os⟩ := s₁
 repeat (first | with_reducible refine wpAny_loadPart_at he ?_ | with_reducible refine wpAny_loadPart_at hC ?_ | (with_reducible refine wpAny_isSubtype_exc hC ?_; rw [hcB]) | with_reducible refine wpAny_field he rfl h1 ?_ | wp_step)
 exact wpAny_raiseNew_none hh hE
end
section
variable {prog : Program} {w : World} {A : Around} {E : Value → Shared → Prop} {h : Heap} {g : Array GenState} {d : Drawn} {t : Nat} {os : OsState}
variable {nm q : Str} {C N : Addr} {bs bm bmB : List Value} {hdct : Bool} {sn : List Str} {sub : List Value} {ab : Bool} {col : Option Bool} {dd : Option Addr} {k0 k1 k2 k3 k5 : Option Value} {B newId initId : String}
theorem zmu {e c : Addr} {oe : Obj} {Q : Bool → Shared → Prop} {nm' q' : Str} {N' : Addr} {bs' bm' : List Value} {hdct' : Bool} {sn' : List Str} {sub' : List Value} {ab' : Bool} {col' : Option Bool} {dd' : Option Addr} {j0 j1 j2 j3 j5 : Option Value}
  (c1 : h.get? C = some (excClassObj nm q C N bs bm hdct sn sub ab col dd k0 k1 k2 k3 k5 newId)) (c2 : h.get? c = some (excClassObj nm' q' c N' bs' bm' hdct' sn' sub' ab' col' dd' j0 j1 j2 j3 j5 newId)) (e1 : h.get? e = some oe) (e2 : oe.cls = .ref C)
  (hb : bm'.contains (.type "BaseException") = true) (k : Q ((Value.ref C :: bm).contains (.ref c)) ⟨h, g, d, t, os⟩) : wpAny (model prog w) A (excMatches (.ref e) (.ref c)) Q E ⟨h, g, d, t, os⟩ := by
 have hcB : (Value.ref c :: bm').contains (.type "BaseException") = true := by rw [List.contains_cons, hb, Bool.or_true]
 have f := tc_notTuple
 unfold excMatches
 generalize hr : (Value.ref C :: bm).contains (.ref c) = r at k
 repeat (first | (with_reducible refine wpAny_loadPart_at e1 ?_; rw [e2]) | with_reducible refine wpAny_loadPart_at c2 ?_ | (with_reducible refine wpAny_isSubtype_exc c2 ?_; rw [hcB]) | (with_reducible refine wpAny_isSubtype_exc c1 ?_; rw [hr]) | wp_step)
 cases r <;> (wp_walk; exact k)
end
end L2
namespace L2
open PySem PySem.Spec PyProof.Rows
abbrev zjE : List Value := [.type "ValueError", .type "Exception", .type "BaseException", .type "object"]
def zj8 : List Value → Bool
 | .ref _ :: r => zj8 r
 | l => l == zjE
def xcIn (K : PySem.W.Frag) (C : Addr) : Bool := match K.lookup C with
  | some ⟨.type "type", _, .cls cd, sl⟩ => (match cd.mro, sl.toList with
    | .ref c :: bm, [_, _, _, _, some (.builtin n), _] => c == C && (n == "ValueError.__new__" && (!cd.hasDel && (PySem.W.tailIn K zjE bm && (PySem.W.nsOkIn K cd.ns && (cd.hasDict && zj8 bm)))))
    | _, _ => false)
  | _ => false
structure XCls (h : Heap) (C : Addr) (nm qn : Str) (N : Addr) (bs bm : List Value) (sn : List Str) (sub : List Value) (ab : Bool) (col : Option Bool) (dd : Option Addr) (k0 k1 k2 k3 k5 : Option Value) : Prop where
 obj : h.get? C = some (excClassObj nm qn C N bs bm true sn sub ab col dd k0 k1 k2 k3 k5 "ValueError.__new__")
 tail : OwnTail h zjE bm
 ns : h.Ns N (h.nsMap N)
 over : zj8 bm = true
theorem zkK {K : PySem.W.Frag} {h : Heap} {C : Addr} (X : K.In h) (q : xcIn K C = true) : ∃ nm qn N bs bm sn sub ab col dd k0 k1 k2 k3 k5,
  XCls h C nm qn N bs bm sn sub ab col dd k0 k1 k2 k3 k5 ∧ K.lookup C = some (excClassObj nm qn C N bs bm true sn sub ab col dd k0 k1 k2 k3 k5 "ValueError.__new__") := by
 unfold xcIn at q
 split at q
 ·rename_i dd cd sl ho
  split at q
  ·rename_i c bm k0 k1 k2 k3 n k5 hm hs
   simp only [Bool.and_eq_true, beq_iff_eq, Bool.not_eq_true'] at q
   obtain ⟨q1, q2, q3, q4, q5, q6, q7⟩ := q
   obtain ⟨nm, bs, mro, ns, qn, hd, sn, sub, ab, col, del⟩ := cd
   obtain ⟨sl⟩ := sl
   dsimp only at hm hs q3 q5 q6
   subst q1 q2 hm q3 q6 hs
   exact ⟨nm, qn, ns, bs, bm, sn, sub, ab, col, dd, k0, k1, k2, k3, k5, ⟨X _ _ ho, PySem.W.tail_of_in X q4, .of_isNs (PySem.W.isNs_of_in X q5), q7⟩, ho⟩
  ·cases q
 ·cases q
def ziT (K : PySem.W.Frag) (C : Addr) : Bool := match K.lookup C with
 | some ⟨_, _, .cls cd, _⟩ => PySem.W.nsIn K cd.ns "__init__" == some none
 | _ => false
def zhN (K : PySem.W.Frag) (C : Addr) : Bool := PySem.W.findIn K (.ref C) "__getattribute__" == some (some (.builtin "BaseException.__getattribute__")) &&
 (PySem.W.findIn K (.ref C) "__getattr__" == some none && PySem.W.mroIn K C (.type "BaseException") == some true)
section
variable {prog : Program} {w : World} {A : Around} {E : Value → Shared → Prop} {s : Shared} {K : PySem.W.Frag} {x C : Addr} {ox : Obj} {od : Option Obj} {name : Str} {tk : Tok}
theorem x_by {fill expr : Bool} {Q : Value → Shared → Prop} (X : K.In s.heap) (q : zhN K C = true) (I : PySem.W.InstAt s.heap x ox C od)
  (h : wpAny (model prog w) A.in1 (Builtin.«object.__getattribute__» ⟨[.ref x, .str name tk], []⟩) (fun fin s' => match fin with
   | .done (.ret v) => wpAny (model prog w) A (handedOut v) Q E s'
   | _ => False) (fun _ _ => False) s) : wpAny (model prog w) A (getAttrBy (.ref x) (.str name tk) fill expr) Q E s := by
 simp only [zhN, Bool.and_eq_true, beq_iff_eq] at q
 obtain ⟨g1, g2, g3⟩ := q
 have M0 := I.type (M := model prog w)
 have M1 := PySem.W.looks_findIn (M := model prog w) X g1
 have M2 := PySem.W.looks_findIn (M := model prog w) X g2
 have M3 : PySem.W.Looks (model prog w) s.heap (isInstance (.ref x) (.type "BaseException")) true := M0.andThen (PySem.W.looks_mroIn X g3)
 have FB := PySem.F.excAttr_ValueError
 unfold getAttrBy
 refine wpAny_holding (wpAny_bind (M0.here (wpAny_bind (M1.here ?_))))
 dsimp only
 rw [show (Value.builtin "BaseException.__getattribute__" == Value.builtin "object.__getattribute__") = false from by decide +kernel, Bool.and_false, if_neg Bool.false_ne_true]
 unfold getAttrByItsOwn
 refine wpAny_bind (m := hookBefore (.ref C)) (M2.here (wpAny_bind (wpAny_attempt (wpAny_holding ?_))))
 unfold callGetattribute
 rw [if_neg (by cases expr <;> decide +kernel)]
 unfold boundAndCalled
 rw [FB.ga.bind]
 refine wpAny_bind (wpAny_pure ?_)
 refine wpAny_call (codeAny_call_builtin FB.ga.plain PySem.F.entry_bexc_ga (@PySem.W.check_slot (model prog w) _ _ s "BaseException.__getattribute__" "BaseException" "__getattribute__" (.ref x) [.str name tk] [] _ (by decide +kernel) (by decide +kernel) M3 (PySem.F.args_bexc_ga _ _) ?_))
 refine wpAny_mono h (fun fin s' z => ?_) fun _ _ z => z.elim
 rcases fin with (v | _ | _ | _) | c <;> first | exact z | exact z.elim
theorem znd {g a : Value} {P : Value → Shared → Prop} (X : K.In s.heap) (I : PySem.W.InstAt s.heap x ox C od) (hf : PySem.W.findObj K C od name = some (.bind g a)) (k : wpAny (model prog w) A (call g [a, .ref x, .ref C]) P E s) :
  wpAny (model prog w) A (Builtin.«object.__getattribute__» ⟨[.ref x, .str name tk], []⟩) (fun fin s' => match fin with
   | .done (.ret v) => P v s'
   | _ => False) E s := by
 have M0 := I.type (M := model prog w)
 have M1 := PySem.W.looks_find (M := model prog w) X I hf
 refine wpAny_bind (wpAny_pure (wpAny_bind (wpAny_pure (wpAny_bind (M0.here (wpAny_bind (M1.here ?_)))))))
 show wpAny _ _ (holding [a] (call g [a, .ref x, .ref C]) >>= ret) _ _ _
 exact wpAny_bind (wpAny_holding (wpAny_mono k (fun v s' z => wpAny_pure z) fun _ _ z => z))
end
section
variable {prog : Program} {w : World} {A : Around} {E : Value → Shared → Prop} {s : Shared} {K : PySem.W.Frag} {x dx C : Addr} {ox : Obj} {vs : Array Value} {name : Str} {v : Value}
end
end L2
namespace L2
open PySem PySem.Spec PyProof.Rows
def xo (a C : Addr) (dx : Option Addr) (b : Bool) : HO := .ext fun h => ∃ oe vs t, h.get? a = some oe ∧ oe.cls = .ref C ∧ oe.dict = dx ∧ oe.data = .fields vs ∧ vs.size = 6 ∧ vs[0]? = some (.ref t) ∧ (b = true → vs[1]? = some .none)
theorem xo_ok {P : Program} {w : World} {H : Hp} {h : Heap} {a C : Addr} {dx : Option Addr} {b : Bool} (x : ∃ oe vs t, h.get? a = some oe ∧ oe.cls = .ref C ∧ oe.dict = dx ∧ oe.data = .fields vs ∧ vs.size = 6 ∧ vs[0]? = some (.ref t) ∧ (b = true → vs[1]? = some .none)) :
  zbZ P w H h a (xo a C dx b) := by
 obtain ⟨oe, vs, t, e, r⟩ := x
 exact ⟨⟨oe, vs, t, e, r⟩, ⟨oe, e⟩, fun h1 h2 ⟨oe, vs, t, e, r⟩ k => ⟨oe, vs, t, k _ e, r⟩⟩
def zmr (h : Heap) (a T : Addr) : Prop := ∃ oe vs oT ts, h.get? a = some oe ∧ oe.data = .fields vs ∧ vs[1]? = some (.ref T) ∧ T ≠ a ∧ h.get? T = some oT ∧ oT.data = .fields ts ∧ ts[3]? = some .none
section
variable {P : Program} {w : World} {H : Hp} {h h' : Heap} {fs ch : List Addr} {z a C T : Addr} {oe : Obj} {fl : Value} {dx : Option Addr} {b : Bool} {vs : Array Value}
theorem zeT (N : Noted fs z h h' a oe T .none) (e1 : h.get? a = some oe) (e2 : oe.data = .fields vs) (e3 : vs.size = 6) : zmr h' a T := by
 obtain ⟨oT, ts, t1, t2, t3⟩ := N.tb
 refine ⟨_, _, oT, ts, N.exc, Obj.data_mapFields e2 _, by simp [e3], fun q => ?_, t1, t2, t3⟩
 have z := Nat.lt_of_lt_of_le (Heap.lt_size e1) N.new
 rw [q] at z
 exact absurd z (Nat.lt_irrefl _)
theorem zkB (N : Noted fs z h h' a oe T fl) (x : ∃ vs t, oe.cls = .ref C ∧ oe.dict = dx ∧ oe.data = .fields vs ∧ vs.size = 6 ∧ vs[0]? = some (.ref t)) : ∃ oe vs t, h'.get? a = some oe ∧ oe.cls = .ref C ∧ oe.dict = dx ∧ oe.data = .fields vs ∧ vs.size = 6 ∧ vs[0]? = some (.ref t) ∧ (false = true → vs[1]? = some .none) := by
 obtain ⟨vs, t, c1, c2, c3, c4, c5⟩ := x
 refine ⟨_, _, t, N.exc, (Obj.cls_mapFields _ _).trans c1, ?_, Obj.data_mapFields c3 _, by simp [c4], ?_, fun q => by cases q⟩
 ·obtain ⟨_, _, od, _⟩ := oe
  dsimp only at c3
  subst c3
  exact c2
 ·rw [Array.getElem?_setIfInBounds_ne (by decide)]
  exact c5
theorem zih (N : Noted fs z h h' a oe T fl) (ha : H a = some (xo a C dx b)) (hz : z = a ∨ z ∈ ch) : Un fs ch H (upd H a (xo a C dx false)) h h' := by
 have n1 : ∀ c, H c = none → c ≠ a := fun c n q => by rw [q, ha] at n; cases n
 have n2 : ∀ c, c ≠ a → c ∉ ch → c ≠ z := fun c n m q => by
  rcases hz with r | r
  ·exact n (q.trans r)
  ·exact m (q ▸ r)
 have n3 : ∀ c u, H c = some u → (∀ φ, u ≠ .ext φ) → c ≠ a := fun c u q m r => by
  rw [r, ha] at q
  exact m _ (Option.some.inj q).symm
 refine ⟨fun c o q n hc hx => N.keep c o hc (n1 c n) (n2 c (n1 c n) hx) q, fun c o q n hc hx => N.slot c o hc (n1 c n) (n2 c (n1 c n) hx) q, fun c o q n hx => by rw [zar (n1 c n)]; exact n, fun c o q hx => ?_,
  fun c xs q => by rw [zar (n3 c _ q (by intro _ z; cases z))]; exact q, fun c o u q => by rw [zar (n3 c _ q (by intro _ z; cases z))]; exact q, fun c ps q => ⟨#[], by rw [zar (n3 c _ q (by intro _ z; cases z)), q]; simp⟩⟩
 by_cases ca : c = a
 ·rw [ca]; exact ⟨_, N.exc⟩
 ·by_cases cf : c ∈ fs
  ·obtain ⟨sl, r⟩ := N.slot c o cf ca (n2 c ca hx) q
   exact ⟨_, r⟩
  ·exact ⟨o, N.keep c o cf ca (n2 c ca hx) q⟩
theorem zgW (ok : HOk P w H h) (N : Noted fs z h h' a oe T fl) (ha : H a = some (xo a C dx b)) (hz : z = a ∨ H z = none) (hf : ∀ c ∈ fs, H c = none)
  (x : ∃ vs t, oe.cls = .ref C ∧ oe.dict = dx ∧ oe.data = .fields vs ∧ vs.size = 6 ∧ vs[0]? = some (.ref t)) : HOk P w (upd H a (xo a C dx false)) h' := fun c u q => by
 have n3 : ∀ c u, H c = some u → (∀ φ, u ≠ .ext φ) → c ≠ a := fun c u q m r => by
  rw [r, ha] at q
  exact m _ (Option.some.inj q).symm
 by_cases hc : c = a
 ·subst hc
  rw [zaC] at q
  cases q
  exact xo_ok (zkB N x)
 ·rw [zar hc] at q
  have kp : ∀ d u v, H d = some u → d ≠ a → h.get? d = some v → h'.get? d = some v := fun d u v q nd r => N.keep d v (fun m => by rw [hf d m] at q; cases q) nd (fun e => by
   rcases hz with g | g
   ·exact nd (e.trans g)
   ·rw [e, g] at q; cases q) r
  refine (ok c u q).stay (fun d v hd r => ?_) (fun d r => by rw [zar (n3 d _ r (by intro _ z; cases z))]; exact r) fun d xs r => by rw [zar (n3 d _ r (by intro _ z; cases z))]; exact r
  rcases hd with rfl | hd
  ·exact kp d u v q hc r
  ·exact kp d _ v hd (n3 d _ hd (by intro _ z; cases z)) r
theorem Un.less {L : Addr} {H' : Hp} (u : Un (L :: fs) ch H H' h h') (n : h.get? L = none) : Un fs ch H H' h h' := by
 have m : ∀ c o, h.get? c = some o → c ≠ L := fun c o q e => by rw [e, n] at q; cases q
 exact ⟨fun c o q k hc hx => u.keep c o q k (fun z => (List.mem_cons.mp z).elim (m c o q) hc) hx, fun c o q k hc hx => u.slot c o q k (List.mem_cons_of_mem _ hc) hx, u.free, u.there, u.tups, u.frzs, u.tbls⟩
end
def CX1 (P : Program) (w : World) : CXT := fun outer H s E e s' => ∃ a C dx H' T, e = .ref a ∧ s'.os = s.os ∧ AllBare s'.gens ∧ Un (frs outer) [] H H' s.heap s'.heap ∧ HOk P w H' s'.heap ∧ H' a = some (xo a C dx false) ∧ H' T = none ∧ s.heap.objs.size ≤ T ∧ zmr s'.heap a T ∧ E (.ref C) dx H'
section
variable {X : Cx} {pins : List (Addr × Obj)} {σ : St} {H : Hp} {s : Shared}
theorem zkL {P : Program} {w : World} {K : PySem.W.Frag} {mg : Str → Option Value} {base : Heap} {N : List Str} {qual : Str} {scope : Scope} {f : Addr} {cd : Value} {A : Around} {outer : List PySem.Env} {E : XK} {H1 : Hp} {s1 : Shared} {a C : Addr} {dx : Option Addr}
  (I : Inv (cxOf (CX1 P w) P w K mg base N qual scope f cd A outer s H E) pins σ H1 s1) (ha : H1 a = some (xo a C dx true)) (hE : E (.ref C) dx (upd H1 a (xo a C dx false))) : (cxOf (CX1 P w) P w K mg base N qual scope f cd A outer s H E).xe (.ref a) s1 := by
 obtain ⟨oe, vs, t, e1, e2, e3, e4, e5, e6, e7⟩ := (I.hok a _ ha).1
 have fr := I.ok.frames
 have st := I.stack
 refine zhw fr st rfl e1 e4 (e7 rfl) fun h' T Nn => ?_
 have hL : s.heap.get? (envOfC qual scope s.heap.objs.size f cd).locals = none := Heap.get?_none_of_le I.ok.above
 have u1 : Un (s.heap.objs.size :: frs outer) [] H H1 s.heap s1.heap := Un.mono (fs' := s.heap.objs.size :: frs outer) (ex' := []) I.base (fun b hb => List.mem_cons_of_mem _ hb) fun b hb => hb
 have u2 : Un (s.heap.objs.size :: frs outer) [] H1 (upd H1 a (xo a C dx false)) s1.heap h' := zih Nn ha (.inl rfl)
 have hT : H1 T = none := I.hok.fresh Nn.new
 have nT : T ≠ a := fun q => by rw [q, ha] at hT; cases hT
 refine ⟨a, C, dx, _, T, rfl, I.os, I.bare, (u1.trans u2).less hL, zgW I.hok Nn ha (.inl rfl) (fun c hc => I.stkFree c hc) ⟨vs, t, e2, e3, e4, e5, e6⟩, zaC, by rw [zar nT]; exact hT, Nat.le_trans I.sz Nn.new, zeT Nn e1 e4 e5, hE⟩
end
end L2
namespace L2
open PySem PySem.Spec PyProof.Rows
theorem zbZ.some_of {P : Program} {w : World} {H : Hp} {h : Heap} {a : Addr} {o : HO} (x : zbZ P w H h a o) : ∃ u, h.get? a = some u := by
 cases o with
 | lst xs => obtain ⟨_, _, _, _, e⟩ := x; exact ⟨_, e⟩
 | tup xs => obtain ⟨_, _, _, u, e, _⟩ := x; exact ⟨u, e⟩
 | dK kvs => obtain ⟨_, _, _, _, u, _, _, e, _⟩ := x; exact ⟨u, e⟩
 | dT kvs => obtain ⟨_, _, _, _, u, _, _, e, _⟩ := x; exact ⟨u, e⟩
 | set S n => obtain ⟨u, _, _, _, e, _⟩ := x; exact ⟨u, e⟩
 | ins C dx fs => obtain ⟨_, _, _, e, _⟩ := x; exact ⟨_, e⟩
 | own y => exact x
 | xd fs => obtain ⟨_, ⟨u, _, _, e, _⟩, _⟩ := x; exact ⟨u, e⟩
 | rng lo hi => obtain ⟨_, _, _, e⟩ := x; exact ⟨_, e⟩
 | frz ob u => obtain ⟨e, _⟩ := x; exact ⟨_, e⟩
 | tbl ps => exact ⟨_, x⟩
 | met f y => exact ⟨_, x⟩
 | ext φ => exact x.2.1
theorem zoc {H : Hp} {a : Addr} {o : HO} (e : H a = some o) : upd H a o = H := by
 funext b
 unfold upd
 split
 ·subst_vars; exact e.symm
 ·rfl
theorem zh0 {P : Program} {w : World} {H : Hp} {h : Heap} {a C : Addr} {dx : Option Addr} {b : Bool} (ok : HOk P w H h) (e : H a = some (xo a C dx b)) :
  ∃ oe vs t, h.get? a = some oe ∧ oe.cls = .ref C ∧ oe.dict = dx ∧ oe.data = .fields vs ∧ vs.size = 6 ∧ vs[0]? = some (.ref t) ∧ (b = true → vs[1]? = some .none) := (ok a _ e).1
section
variable {X : Cx} {pins : List (Addr × Obj)} {σ : St} {H : Hp} {s : Shared}
theorem Inv.laidN {a : Addr} {o : HO} {h' : Heap} {t' : Nat} (I : Inv X pins σ H s) (k : ∀ b u, s.heap.get? b = some u → h'.get? b = some u) (n : s.heap.get? a = none) (new : zbZ X.prog X.w (upd H a o) h' a o) :
    H a = none ∧ Inv X pins σ (upd H a o) { s with heap := h', toks := t' } := by
  have hn : H a = none := by
    cases q : H a with
    | none => rfl
    | some u =>
      obtain ⟨v, e⟩ := (I.hok a u q).some_of
      rw [n] at e
      cases e
  refine ⟨hn, I.un ⟨fun b u q _ _ _ => k b u q, fun b u q _ _ _ => ⟨u.slots, k b u q⟩, fun b u q m _ => ?_, fun b u q _ => ⟨u, k b u q⟩, fun b xs q => by rw [zar (za3 q hn)]; exact q, fun b u xs q => by rw [zar (za3 q hn)]; exact q,
    fun b ps q => ⟨#[], by rw [zar (za3 q hn), q]; simp⟩⟩ fun b u q => ?_⟩
  · rw [zar (fun z => by rw [z, n] at q; cases q)]
    exact m
  · by_cases hb : b = a
    · subst hb
      rw [zaC] at q
      cases q
      exact new
    · rw [zar hb] at q
      exact (I.hok b u q).stay (fun c v _ r => k c v r) (fun c r => by rw [zar (za3 r hn)]; exact r) fun c xs r => by rw [zar (za3 r hn)]; exact r
theorem zkk {e : Expr} {te : TE} {pos : Pos} {W : Addr → Addr → Option Addr → Hp → Prop} (he : PE X e te) (hc : X.calm = true)
  (hx : ∀ pins σ H s a C dx, Inv X pins σ H s → H a = some (xo a C dx true) → W a C dx H → X.xe (.ref a) s) :
  PS X (.Raise (some e) none pos) (fun _ σ H => te σ H fun v H1 => ∃ a C dx, v = .ref a ∧ H1 a = some (xo a C dx true) ∧ xcIn X.K C = true ∧ W a C dx H1) := by
 intro pins s σ H D I h
 rw [arm_exec_Raise]
 refine wpAny_bind (wpAny_standAt (zio (I.ok.hd hc) (wpAny_bind (thn (he pins s σ H _ I h) fun u s1 ⟨v, H1, I1, rv, a, C, dx, ev, ea, q1, w⟩ => wpAny_bind (wpAny_standAt (wpAny_pure ?_))))))
 subst ev
 cases rv
 obtain ⟨nm, qn, N, bs, bm, sn, sub, ab, col, dd, k0, k1, k2, k3, k5, Y, lk⟩ := zkK I1.kIn q1
 obtain ⟨oe, vs, t, e1, e2, e3, e4, e5, e6, e7⟩ := zh0 I1.hok ea
 exact ⟨a, oe, vs, rfl, ⟨C, nm, qn, N, bs, bm, _, sn, sub, ab, col, dd, k0, k1, k2, k3, k5, _, Y.obj, Y.tail.hasType PySem.F.excBase_ValueError.hasBase, e2⟩, e1, e4, e7 rfl, hx pins σ H1 s1 a C dx I1 ea w⟩
def zf2 (K : PySem.W.Frag) (C : Addr) : Bool := zhN K C && (PySem.W.hasDictIn K C && (PySem.W.findIn K (.ref C) "__class__" == some (some (.builtin "object.__class__")) &&
 (PySem.W.specialIn K (.builtin "object.__class__") "__get__" == some (some (.builtin "getset_descriptor.__get__")) && (PySem.W.takesIn K (.builtin "object.__class__") == some true && PySem.W.mroIn K C (.type "object") == some true))))
def absU : V → Option Value
 | .ref a => some (.ref a)
 | .ty n => some (.type n)
 | _ => none
theorem znn {v : V} {u c : Value} (r : RelV v u) (h : absU v = some c) : u = c := by
 cases v <;> simp only [absU, reduceCtorEq] at h
 ·cases h; exact r
 ·cases h; exact r
theorem zgv : ∀ {cs : List V} {us its : List Value}, Vals cs its → cs.mapM absU = some us → its = us
  | [], us, its, r, h => by
    cases r
    cases h
    rfl
  | c :: cs, us, its, r, h => by
    cases r with
    | cons r1 r2 =>
      rw [List.mapM_cons] at h
      obtain ⟨u, e1, h⟩ := Option.bind_eq_some_iff.mp h
      obtain ⟨us', e2, h⟩ := Option.bind_eq_some_iff.mp h
      cases h
      rw [znn r1 e1, zgv r2 e2]
end
end L2
namespace L2
open PySem PySem.Spec PyProof.Rows
section
variable {X : Cx} {pins : List (Addr × Obj)} {σ : St} {H : Hp} {s : Shared}
theorem Inv.del {M : Model} {A : Around} {E : Value → Shared → Prop} {i : Nat} {x : Str} {v : V} {Q : Unit → Shared → Prop} (I : Inv X pins σ H s) (hN : X.N.Nodup) (hi : X.N[i]? = some x) (hk : X.env.scope.names.lookup x = some .local) (hv : σ[i]? = some (some v))
  (k : ∀ s', Inv X pins (σ.set i none) H s' → Q () s') : wpAny M A (unbindName X.env x) Q E s := by
 obtain ⟨m, hn, hl⟩ := id I.loc
 obtain ⟨u, r, q⟩ := hl i x v hi hv (.inl hk)
 have hk' : X.env.kindOf x = some .local := hk
 have hm : m x = some u := by
  rcases q with ⟨_, e⟩ | ⟨z, _⟩
  ·exact e
  ·rw [hk'] at z
   rcases z with z | z <;> cases z
 have hcls : (X.env.scope.kind == .class || (X.env.scope.kind == .module && X.env.locals != X.env.globals)) = false := by rw [I.ok.kind]; rfl
 refine wpAny_unbindName_local hk' hn hm hcls fun h' u' hn' hs => k _ ?_
 obtain ⟨oL, _, _, hoL, _⟩ := id hn
 have above : ∀ b o, X.s₀.heap.get? b = some o → b ≠ X.env.locals := fun b o e => Nat.ne_of_lt (Nat.lt_of_lt_of_le (Heap.lt_size e) I.ok.above)
 refine ⟨I.ok, I.os, I.bare, ⟨fun b o e n hb hx => (hs.2 b (above b o e)).trans (I.base.keep b o e n hb hx), fun b o e n hb hx => ?_, I.base.free, fun b o e hx => ?_, I.base.tups, I.base.frzs, I.base.tbls⟩, ⟨_, hn', fun j y v' e1 e2 e3 => ?_⟩, fun y c e => ?_, I.free, I.freeC, fun p hp => ?_, fun b ob e => ?_, by simpa using I.len⟩
 ·obtain ⟨sl, e1⟩ := I.base.slot b o e n hb hx
  exact ⟨sl, (hs.2 b (above b o e)).trans e1⟩
 ·obtain ⟨o', e1⟩ := I.base.there b o e hx
  exact ⟨o', (hs.2 b (above b o e)).trans e1⟩
 ·have hj : j ≠ i := by
   rintro rfl
   rw [List.getElem?_set] at e2
   split at e2
   ·split at e2 <;> cases e2
   ·rename_i z; exact z rfl
  rw [List.getElem?_set_ne (Ne.symm hj)] at e2
  obtain ⟨u2, r2, q2⟩ := hl j y v' e1 e2 e3
  refine ⟨u2, r2, ?_⟩
  rcases q2 with ⟨k2, e⟩ | ⟨k2, c, e, z⟩
  ·have ne : y ≠ x := fun e => hj (zf6 hN e1 (e ▸ hi))
   exact .inl ⟨k2, (if_neg ne).trans e⟩
  ·exact .inr ⟨k2, c, e, z.sameBut hs (I.cne y c e)⟩
 ·obtain ⟨w', z⟩ := I.cell y c e
  exact ⟨w', z.sameBut hs (I.cne y c e)⟩
 ·obtain ⟨e, n, ne, nf, d⟩ := I.pin p hp
  exact ⟨(hs.2 p.1 ne).trans e, n, ne, nf, d⟩
 ·refine (I.hok b ob e).stay (fun c w' hc q => (hs.2 c ?_).trans q) (fun _ q => q) fun _ _ q => q
  rintro rfl
  rcases hc with rfl | hc
  ·rw [I.free] at e; cases e
  ·rw [I.free] at hc; cases hc
structure Caught (X : Cx) (pins : List (Addr × Obj)) (σ : St) (H : Hp) (s : Shared) (a C : Addr) (dx : Option Addr) (T : Addr) : Prop where
 inv : Inv X pins σ H s
 obj : H a = some (xo a C dx false)
 fl : zmr s.heap a T
 hT : H T = none
 t1 : X.s₀.heap.objs.size ≤ T
 t2 : T ≠ X.env.locals
 t3 : ∀ x c, X.env.cells.lookup x = some c → c ≠ T
 t4 : ∀ p ∈ X.pn ++ pins, p.1 ≠ T
theorem zfI {T : Addr} (I : Inv X pins σ H s) (h : s.heap.objs.size ≤ T) : X.s₀.heap.objs.size ≤ T ∧ T ≠ X.env.locals ∧ (∀ x c, X.env.cells.lookup x = some c → c ≠ T) ∧ ∀ p ∈ X.pn ++ pins, p.1 ≠ T := by
 refine ⟨Nat.le_trans I.sz h, Nat.ne_of_gt (Nat.lt_of_lt_of_le I.lt h), fun x c e => ?_, fun p hp => ?_⟩
 ·obtain ⟨v, o, ho, _⟩ := I.cell x c e
  exact Nat.ne_of_lt (Nat.lt_of_lt_of_le (Heap.lt_size ho) h)
 ·exact Nat.ne_of_lt (Nat.lt_of_lt_of_le (Heap.lt_size (I.pin p hp).1) h)
theorem zgL {E : XK} {e : Value} {s' : Shared} (I : Inv X pins σ H s) (h : CX1 X.prog X.w X.stack H s E e s') : ∃ a C dx H' T, e = .ref a ∧ Caught X pins σ H' s' a C dx T ∧ E (.ref C) dx H' := by
 obtain ⟨a, C, dx, H', T, rfl, os, bare, un, hok, ha, hT, hz, fl, hE⟩ := h
 have I2 := I.call' os un hok bare (fun b z => nomatch z)
 obtain ⟨z1, z2, z3, z4⟩ := zfI I hz
 exact ⟨a, C, dx, H', T, rfl, ⟨I2, ha, fl, hT, z1, z2, z3, z4⟩, hE⟩
variable {a C T : Addr} {dx : Option Addr} {Q : Unit → Shared → Prop} {E : Value → Shared → Prop} {M : Model}
theorem Caught.note (c : Caught X pins σ H s a C dx T) (hs : X.stack = X.env :: X.outer) (hf : X.env.frame = some X.env.locals) (k : ∀ s' T', Caught X pins σ H s' a C dx T' → Q () s') :
  wpAny M X.A (noteFrame (.ref a) X.env) (fun _ s2 => wpAny M X.A (setFlight (.ref a) none) Q E s2) E s := by
 obtain ⟨oe, vs, t, e1, e2, e3, e4, e5, e6, _⟩ := zh0 c.inv.hok c.obj
 obtain ⟨oe', vs', oT, ts, f1, f2, f3, f4, f5, f6, f7⟩ := c.fl
 rw [e1] at f1
 cases f1
 rw [e4] at f2
 cases f2
 have fr := c.inv.ok.frames
 have st := c.inv.stack
 rw [hs] at fr st
 refine zj3 fr st hf e1 e4 f3 f4 f5 f6 f7 fun h' T' N => zeD (s := { s with heap := h' }) N e1 e4 (by omega) fun h2 N2 => k _ T' ?_
 have hx : ∃ vs t, oe.cls = .ref C ∧ oe.dict = dx ∧ oe.data = .fields vs ∧ vs.size = 6 ∧ vs[0]? = some (.ref t) := ⟨vs, t, e2, e3, e4, e5, e6⟩
 rw [← hs] at N2
 have u := zih (ch := [T]) N2 c.obj (.inr (List.mem_singleton.mpr rfl))
 have hk := zgW c.inv.hok N2 c.obj (.inr c.hT) (fun b hb => c.inv.stkFree b hb) hx
 rw [zoc c.obj] at u hk
 have I2 : Inv X pins σ H { s with heap := h2 } := c.inv.call' (s' := { s with heap := h2 }) rfl u hk c.inv.bare (fun b hb => by
  rw [List.mem_singleton.mp hb]
  exact ⟨.inr c.t1, c.t2, c.t3, c.t4⟩)
 obtain ⟨z1, z2, z3, z4⟩ := zfI c.inv N2.new
 exact ⟨I2, c.obj, zeT N2 e1 e4 e5, c.inv.hok.fresh N2.new, z1, z2, z3, z4⟩
theorem Caught.off {A : Around} (c : Caught X pins σ H s a C dx T) (k : ∀ s', Caught X pins σ H s' a C dx T → Q () s') : wpAny M A (setFlight (.ref a) none) Q E s := by
 obtain ⟨oe, vs, oT, ts, f1, f2, f3, f4, f5, f6, f7⟩ := c.fl
 have z3 : 3 < ts.size := (Array.getElem?_eq_some_iff.mp f7).1
 refine zfM f1 f2 f3 f5 f6 z3 (k _ ?_)
 have kp : ∀ b o, b ≠ T → s.heap.get? b = some o → (s.heap.update T (Obj.mapFields (·.setIfInBounds 3 .none))).get? b = some o := fun b o n e => (Heap.get?_update_other _ _ (Ne.symm n)).trans e
 have I2 := c.inv.turned (t' := s.toks) kp c.hT c.t2 (.inr c.t1) c.t3 c.t4
 exact ⟨I2, c.obj, ⟨oe, vs, _, _, kp a oe (Ne.symm f4) f1, f2, f3, f4, Heap.get?_update_self _ f5 (Obj.isFreed_of_fields (Obj.data_mapFields f6 _)), Obj.data_mapFields f6 _, by simp [z3]⟩, c.hT, c.t1, c.t2, c.t3, c.t4⟩
end
abbrev Cx.pin (X : Cx) (pins : List (Addr × Obj)) (E : Value → Shared → Prop) : Cx := { X with pn := X.pn ++ pins, xe := E }
abbrev Cx.suite (X : Cx) (e : Value) : Cx := { X with A := X.A.mark (some e), calm := false, xe := fun _ _ => False }
section
variable {X : Cx} {pins ps : List (Addr × Obj)} {σ : St} {H : Hp} {s : Shared} {E : Value → Shared → Prop} {e : Value}
theorem Inv.to_pin (I : Inv X pins σ H s) (E : Value → Shared → Prop) : Inv (X.pin pins E) [] σ H s :=
  ⟨⟨I.ok.mod, I.ok.kind, I.ok.glob, I.ok.blt, I.ok.above, I.ok.inj, I.ok.has, I.ok.cab, I.ok.hd, I.ok.frames, I.ok.stk, I.ok.exf, I.ok.bs, I.ok.bsz, I.ok.noex, I.ok.exfs, I.ok.funs, I.ok.frf⟩, I.os, I.bare, I.base, I.loc, I.cell, I.free, I.freeC,
    fun p hp => I.pin p (by simpa using hp), I.hok, I.len⟩
theorem Inv.of_pin (I : Inv (X.pin pins E) ps σ H s) : Inv X pins σ H s :=
  ⟨⟨I.ok.mod, I.ok.kind, I.ok.glob, I.ok.blt, I.ok.above, I.ok.inj, I.ok.has, I.ok.cab, I.ok.hd, I.ok.frames, I.ok.stk, I.ok.exf, I.ok.bs, I.ok.bsz, I.ok.noex, I.ok.exfs, I.ok.funs, I.ok.frf⟩, I.os, I.bare, I.base, I.loc, I.cell, I.free, I.freeC,
    fun p hp => I.pin p (List.mem_append_left _ hp), I.hok, I.len⟩
theorem Inv.to_suite (I : Inv X pins σ H s) (e : Value) : Inv (X.suite e) pins σ H s :=
 ⟨⟨I.ok.mod, I.ok.kind, I.ok.glob, I.ok.blt, I.ok.above, I.ok.inj, I.ok.has, I.ok.cab, (fun z => by cases z), I.ok.frames, I.ok.stk, I.ok.exf, I.ok.bs, I.ok.bsz, I.ok.noex, I.ok.exfs, I.ok.funs, I.ok.frf⟩, I.os, I.bare, I.base, I.loc, I.cell, I.free, I.freeC, I.pin, I.hok, I.len⟩
theorem Inv.of_suite (I : Inv (X.suite e) pins σ H s) (hd : X.A.handled = none) : Inv X pins σ H s :=
 ⟨⟨I.ok.mod, I.ok.kind, I.ok.glob, I.ok.blt, I.ok.above, I.ok.inj, I.ok.has, I.ok.cab, fun _ => hd, I.ok.frames, I.ok.stk, I.ok.exf, I.ok.bs, I.ok.bsz, I.ok.noex, I.ok.exfs, I.ok.funs, I.ok.frf⟩, I.os, I.bare, I.base, I.loc, I.cell, I.free, I.freeC, I.pin, I.hok, I.len⟩
end
def zhA (K : PySem.W.Frag) (C c : Addr) : Bool := match K.lookup C with
 | some ⟨_, _, .cls cd, _⟩ => cd.mro.contains (.ref c)
 | _ => false
theorem zkP {X : Cx} {CX : CXT} {k : Nat} {f : Addr} {fd : FuncData} {ps : List Str} {sp : Sp} {dvs : List V} {ds : List Value} {x : Str} {p pos : Pos} {e : Expr} {es : List Expr} {t : TA} {Ex : St → XK} (F : FnOk X.prog X.w X.K X.mg X.base CX k f fd ps sp) (hr : Room k X.A) (hg : Gl X x)
    (hm : X.mg x = some (.ref f)) (hk : PySem.W.keepIn X.K (.ref f) = true) (hb : Binds X.K fd ps ds) (hd : Vals dvs ds) (hx : ∀ pins σ H s e s', Inv X pins σ H s → CX X.stack H s (Ex σ) e s' → X.xe e s') (ha : PA X (e :: es) t)
    (hdb : (x == ("__debug__" : Str)) = false) (he : starEach (e :: es) X.env = (false, eval e X.env) :: starEach es X.env) (hpl : (backTo pos (starEach es X.env)).any (·.1) = false) :
    PE X (.Call (.Name x p) (e :: es) [] pos) (fun σ H Q => t σ H fun vs H1 => sp (vs ++ dvs) H1 Q (Ex σ)) := by
  intro pins s σ H Q I h
  refine wpAny_Call_Name_kw (zc3 I hg hm ?_ hdb)
  refine PySem.W.callWith_K (h₀ := X.base) I.ok.mod.kin hk (thn (ha pos pins s σ H _ I h) fun us s1 ⟨vs, H1, I1, r, q⟩ => ⟨I1.kIn, ?_⟩) he hpl
  have r2 : Vals (vs ++ dvs) (us ++ ds) := r.append hd
  have hl : (us ++ ds).length = ps.length := by rw [← r2.length]; exact F.len _ _ _ _ q
  refine wpAny_call (codeAny_mono (F.run X.A X.stack s1 H1 ⟨us, []⟩ (us ++ ds) (vs ++ dvs) Q (Ex σ) hr I1.env0 (hb s1 us I1.kIn hl) r2 q) fun rr s' hq => ?_)
  cases rr with
  | error e => exact hx pins σ H1 s1 e s' I1 hq
  | ok fl =>
    cases fl with
    | ret u => exact I1.after hq
    | next => exact False.elim hq
    | brk => exact False.elim hq
    | cont => exact False.elim hq
end L2
namespace L2
open PySem PySem.Spec PyProof.Rows
theorem ns_none_of {K : PySem.W.Frag} {h : Heap} {N : Addr} {mg : Str → Option Value} {n : Str} (X : K.In h) (G : h.Ns N mg) (e : PySem.W.nsIn K N n = some none) : mg n = none := by
 obtain ⟨o, es, ep, ho, hd, _, hf⟩ := G
 unfold PySem.W.nsIn at e
 split at e
 ·rename_i q
  have z := X _ _ q
  rw [ho] at z
  cases z
  cases hd
  split at e
  ·cases e
  ·rename_i he
   rw [← hf]
   unfold nsFind findBy
   rw [← Array.find?_toList, he]
   rfl
 ·cases e
section
variable {X : Cx}
def tpC (C : Addr) (Q : VK) (vs : List V) (H : Hp) : Prop := vs.length = 1 ∧ ∀ a, H a = none → Q (.ref a) (upd H a (xo a C none true))
def zoJ (C : Addr) (te : TE) : TE := fun σ H Q => te σ H fun v H1 => tpC C Q [v] H1
theorem zkz {C : Addr} {x : Str} {p pos : Pos} {e : Expr} {te : TE} (q1 : xcIn X.K C = true) (q2 : ziT X.K C = true) (kp : PySem.W.keepIn X.K (.ref C) = true) (hg : Gl X x) (hm : X.mg x = some (.ref C)) (he : PE X e te) (hdb : (x == ("__debug__" : Str)) = false)
  (hs : starEach [e] X.env = [(false, eval e X.env)]) : PE X (.Call (.Name x p) [e] [] pos) (zoJ C te) := by
 intro pins s σ H Q I h
 refine wpAny_Call_Name_kw (zc3 I hg hm ?_ hdb)
 refine PySem.W.callWith_K (h₀ := X.base) I.ok.mod.kin kp (thn (zbR he zd2 hs pos pins s σ H (tpC C Q) I h) fun us s1 ⟨vs, H1, I1, r, q⟩ => ⟨I1.kIn, ?_⟩) hs rfl
 obtain ⟨nm, qn, N, bs, bm, sn, sub, ab, col, dd, k0, k1, k2, k3, k5, Y, lk⟩ := zkK I1.kIn q1
 unfold ziT at q2
 rw [lk] at q2
 simp only [beq_iff_eq] at q2
 have c3 := ns_none_of I1.kIn Y.ns q2
 have hl : us.length = 1 := by
  rw [← r.length, q.1]
 obtain ⟨hh, g, d, t, os⟩ := s1
 refine wpAny_call_exc_subU PySem.F.excBase_ValueError (by decide +kernel) PySem.F.excBase_ValueError Y.tail Y.obj Y.ns c3 (fun h' a M => ?_) (by show us.length ≤ sizeLine; rw [hl, sizeLine_eq]; decide)
 obtain ⟨t0, m1, _, _⟩ := M.there
 obtain ⟨hn, I2⟩ := I1.laidN (a := a) (o := xo a C none true) (t' := t) M.keeps M.new (xo_ok ⟨_, _, t0, m1, rfl, rfl, rfl, rfl, rfl, fun _ => rfl⟩)
 exact ⟨V.ref a, _, I2, rfl, q.2 a hn⟩
end
theorem zmn {X : Cx} {body suite : List Stmt} {b0 : Stmt} {cn n : Str} {np hp pos : Pos} {c : Addr} {i : Nat} {tb : Ends → TS} {th : TS}
    (hs : X.stack = X.env :: X.outer) (hf : X.env.frame = some X.env.locals) (hc : X.calm = true) (hN : X.N.Nodup) (hi : X.N[i]? = some n) (hl : X.env.scope.names.lookup n = some .local) (hg : Gl X cn) (hm : X.mg cn = some (.ref c)) (q : xcIn X.K c = true) (hdb : (cn == ("__debug__" : Str)) = false)
    (hb : ∀ (pins : List (Addr × Obj)) (D : Ends), PSs (X.pin pins fun e s' => ∃ σ' H' a C dx T, e = .ref a ∧ Caught X pins σ' H' s' a C dx T ∧ xcIn X.K C = true ∧ zhA X.K C c = true ∧
      th { D with nx := fun σ H => ∃ v, σ[i]? = some (some v) ∧ D.nx (σ.set i none) H, bk := fun _ _ => False, ct := fun _ _ => False } (σ'.set i (some (.ref a))) H') body (tb D))
    (hh : ∀ e, PSs (X.suite e) (b0 :: suite) th) :
    PS X (.Try body [.ExceptHandler (some (.Name cn np)) (some n) (b0 :: suite) hp] [] [] pos) (fun D σ H => tb D D σ H) := by
  intro pins s σ H D I h
  refine wpAny_Try_except (wpAny_mono (hb pins D [] s σ H D (I.to_pin _) h) (fun f s1 z => ?_) fun e s1 z => ?_)
  · cases f with
    | next => obtain ⟨σ', H', J, q⟩ := z; exact wpAny_execs_nil ⟨σ', H', J.of_pin, q⟩
    | brk => obtain ⟨σ', H', J, q⟩ := z; exact ⟨σ', H', J.of_pin, q⟩
    | cont => obtain ⟨σ', H', J, q⟩ := z; exact ⟨σ', H', J.of_pin, q⟩
    | ret u => obtain ⟨v, σ', H', J, r, q⟩ := z; exact ⟨v, σ', H', J.of_pin, r, q⟩
  · obtain ⟨σ', H', a, C, dx, T, rfl, K1, q1, q2, z⟩ := z
    refine K1.note hs hf fun s2 T2 K2 => ?_
    have hd := I.ok.hd hc
    refine wpAny_handleBy_cons (codeAny_handlers_test ?_) (by intro z; cases z)
    refine zc3 (X := X.suite (.ref a)) (K2.inv.to_suite _) hg hm ?_ hdb
    obtain ⟨nm, qn, N, bs, bm, sn, sub, ab, col, dd, k0, k1, k2, k3, k5, Y, lk⟩ := zkK K2.inv.kIn q1
    obtain ⟨nm', qn', N', bs', bm', sn', sub', ab', col', dd', j0, j1, j2, j3, j5, Y', lk'⟩ := zkK K2.inv.kIn q
    obtain ⟨oe, vs, t, e1, e2, e3, e4, e5, e6, _⟩ := zh0 K2.inv.hok K2.obj
    have hit : (Value.ref C :: bm).contains (.ref c) = true := by
      unfold zhA at q2
      rw [lk] at q2
      exact q2
    obtain ⟨hh2, g, d, tk, os⟩ := s2
    refine zmu Y.obj Y'.obj e1 e2 (Y'.tail.hasType PySem.F.excBase_ValueError.hasBase) ?_
    rw [hit]
    refine codeAny_handlers_suite_as (K2.off fun s3 K3 => ?_)
    refine zdm (X := X.suite (.ref a)) (v := .ref a) (K3.inv.to_suite _) hN hi (.inl hl) rfl (fun s4 I4 => ?_) (.inr hl)
    refine wpAny_mono (hh (.ref a) pins s4 _ H' _ I4 z) (fun f s5 y => ?_) fun _ _ y => False.elim y
    cases f with
    | next =>
      obtain ⟨σ5, H5, I5, v, ev, y⟩ := y
      have I5' := I5.of_suite hd
      refine wpAny_bind (wpAny_bindName (zdm (v := .non) I5' hN hi (.inl hl) rfl (fun s6 I6 => ?_) (.inr hl)))
      unfold unbindBehindTheSuite
      refine wpAny_onRaise (I6.del (v := .non) hN hi hl ?_ fun s7 I7 => ?_)
      · rw [List.getElem?_set_self]
        rw [I5'.len]
        exact (List.getElem?_eq_some_iff.mp hi).1
      · rw [List.set_set] at I7
        exact ⟨_, H5, I7, y⟩
    | brk => obtain ⟨_, _, _, y⟩ := y; exact False.elim y
    | cont => obtain ⟨_, _, _, y⟩ := y; exact False.elim y
    | ret u =>
      obtain ⟨v, σ5, H5, I5, rv, y⟩ := y
      have I5' := I5.of_suite hd
      refine wpAny_bind (wpAny_bindName (zdm (v := .non) I5' hN hi (.inl hl) rfl (fun s6 I6 => ?_) (.inr hl)))
      unfold unbindBehindTheSuite
      refine wpAny_onRaise (I6.del (v := .non) hN hi hl ?_ fun s7 I7 => ?_)
      · rw [List.getElem?_set_self]
        rw [I5'.len]
        exact (List.getElem?_eq_some_iff.mp hi).1
      · rw [List.set_set] at I7
        exact ⟨v, _, H5, I7, rv, y⟩
end L2
namespace E3
open PySem PySem.Spec PyProof.Rows L2
inductive D where
 | non | bl (b : Bool) | int (i : Int) | str (s : Str) | tup (xs : List D) | lst (xs : List D) | ref (n : Nat)
inductive Cl where
 | lst (ds : List D) | obj (c : Str) (fs : List (Str × D)) | dct (kvs : List (L2.Key × D))
abbrev Mm := List Cl
inductive Slot where
 | un | val (d : D) | own (ds : List D) | exc (c : Str) (n : Int)
abbrev Env := List Slot
mutual
def D.lf : D → Bool
 | .tup xs => D.lfs xs
 | .lst _ => false
 | .ref _ => false
 | _ => true
def D.lfs : List D → Bool
 | [] => true
 | a :: as => D.lf a && D.lfs as
end
def KL (K : PySem.W.Frag) (a : Addr) (vs : List V) : Prop := ∃ (o : Obj) (its : Array Value) (n : Nat), K.lookup a = some o ∧ o.cls = .type "list" ∧ o.dict = none ∧ o.data = .seq its n ∧ its.size ≤ sizeLine ∧ Vals vs its.toList
structure Pl where
 io : Nat → Addr
 n : Nat
 bd : Addr → Prop
def RdA (K : PySem.W.Frag) (P : Pl) (H : Hp) (a : Addr) (vs : List V) : Prop := (¬ P.bd a ∧ Rd H a (.lst vs)) ∨ KL K a vs
def RdK (K : PySem.W.Frag) (P : Pl) (H : Hp) (a : Addr) (vs : List V) : Prop := ((∀ k, k < P.n → P.io k ≠ a) ∧ Rd H a (.lst vs)) ∨ KL K a vs
mutual
def Is (K : PySem.W.Frag) (P : Pl) (H : Hp) : D → V → Prop
 | .non, v => v = .non
 | .bl b, v => v = .bl b
 | .int i, v => v = .int i
 | .str s, v => v = .str s
 | .tup ds, v => ∃ a vs, v = .ref a ∧ SqT K H a vs ∧ Iss K P H ds vs
 | .lst ds, v => ∃ a vs, v = .ref a ∧ RdA K P H a vs ∧ Iss K P H ds vs
 | .ref k, v => k < P.n ∧ v = .ref (P.io k)
def Iss (K : PySem.W.Frag) (P : Pl) (H : Hp) : List D → List V → Prop
 | [], vs => vs = []
 | d :: ds, vs => ∃ v r, vs = v :: r ∧ Is K P H d v ∧ Iss K P H ds r
end
def Fx (o : HO) : Prop := (∃ xs, o = .tup xs) ∨ (∃ u w, o = .frz u w) ∨ (∃ g, o = .ext g) ∨ ∃ fs, o = .xd fs
structure Lt (P : Pl) (H : Hp) (P' : Pl) (H' : Hp) : Prop where
 n : P.n ≤ P'.n
 io : ∀ k, k < P.n → P'.io k = P.io k
 bd : ∀ a, P'.bd a → P.bd a ∨ H a = none
 keep : ∀ a o, H a = some o → (Fx o ∨ ¬ P.bd a) → H' a = some o
 sure : ∀ a, H' a = none → H a = none
section
variable {K : PySem.W.Frag} {P P' P'' : Pl} {H H' H'' : Hp}
theorem Lt.refl (P : Pl) (H : Hp) : Lt P H P H := ⟨Nat.le_refl _, fun _ _ => rfl, fun _ z => .inl z, fun _ _ e _ => e, fun _ z => z⟩
theorem Lt.not (l : Lt P H P' H') {a : Addr} {o : HO} (e : H a = some o) (n : ¬ P.bd a) : ¬ P'.bd a := fun z => (l.bd a z).elim n fun z => by rw [e] at z; cases z
theorem Lt.trans (l : Lt P H P' H') (m : Lt P' H' P'' H'') : Lt P H P'' H'' where
 n := Nat.le_trans l.n m.n
 io := fun k h => (m.io k (Nat.lt_of_lt_of_le h l.n)).trans (l.io k h)
 bd := fun a z => (m.bd a z).elim (l.bd a) fun z => .inr (l.sure a z)
 keep := fun a o e h => m.keep a o (l.keep a o e h) (h.imp id fun n => l.not e n)
 sure := fun a z => l.sure a (m.sure a z)
theorem Lt.rd (l : Lt P H P' H') {a : Addr} {xs : List V} (n : ¬ P.bd a) (h : Rd H a (.lst xs)) : Rd H' a (.lst xs) := by
 rcases h with h | ⟨o, h⟩
 ·exact .inl (l.keep _ _ h (.inr n))
 ·exact .inr ⟨o, l.keep _ _ h (.inr n)⟩
theorem zjt {a : Addr} {o : HO} (h : Rd H a o) : ∃ o', H a = some o' := h.elim (fun h => ⟨_, h⟩) fun ⟨_, h⟩ => ⟨_, h⟩
theorem Lt.rda (l : Lt P H P' H') {a : Addr} {xs : List V} (h : RdA K P H a xs) : RdA K P' H' a xs := h.imp (fun ⟨n, h⟩ => ⟨by obtain ⟨o, e⟩ := zjt h; exact l.not e n, l.rd n h⟩) id
theorem Lt.tup (l : Lt P H P' H') {a : Addr} {xs : List V} (h : SqT K H a xs) : SqT K H' a xs := by
 rcases h with (h | ⟨o, h⟩) | h
 ·exact .inl (.inl (l.keep _ _ h (.inl (.inl ⟨_, rfl⟩))))
 ·exact .inl (.inr ⟨o, l.keep _ _ h (.inl (.inr (.inl ⟨_, _, rfl⟩)))⟩)
 ·exact .inr h
mutual
theorem Is.lt (l : Lt P H P' H') : ∀ {d : D} {v : V}, Is K P H d v → Is K P' H' d v
  | .non, _, h => h
  | .bl _, _, h => h
  | .int _, _, h => h
  | .str _, _, h => h
  | .tup ds, _, h => by
    obtain ⟨a, vs, e, s, r⟩ := h
    exact ⟨a, vs, e, l.tup s, Iss.lt l r⟩
  | .lst ds, _, h => by
    obtain ⟨a, vs, e, s, r⟩ := h
    exact ⟨a, vs, e, l.rda s, Iss.lt l r⟩
  | .ref k, _, h => ⟨Nat.lt_of_lt_of_le h.1 l.n, by rw [l.io k h.1]; exact h.2⟩
theorem Iss.lt (l : Lt P H P' H') : ∀ {ds : List D} {vs : List V}, Iss K P H ds vs → Iss K P' H' ds vs
  | [], _, h => h
  | _ :: _, _, h => by
    obtain ⟨v, r, e, p, q⟩ := h
    exact ⟨v, r, e, Is.lt l p, Iss.lt l q⟩
end
def Pl.less (P : Pl) (B : Addr → Prop) : Pl := { P with bd := fun a => P.bd a ∧ B a }
mutual
theorem Is.less {B : Addr → Prop} : ∀ {d : D} {v : V}, Is K P H d v → Is K (P.less B) H d v
  | .non, _, h => h
  | .bl _, _, h => h
  | .int _, _, h => h
  | .str _, _, h => h
  | .tup ds, _, h => by
    obtain ⟨a, vs, e, s, r⟩ := h
    exact ⟨a, vs, e, s, Iss.less r⟩
  | .lst ds, _, h => by
    obtain ⟨a, vs, e, s, r⟩ := h
    exact ⟨a, vs, e, s.imp (fun ⟨n, h⟩ => ⟨fun z => n z.1, h⟩) id, Iss.less r⟩
  | .ref k, _, h => h
theorem Iss.less {B : Addr → Prop} : ∀ {ds : List D} {vs : List V}, Iss K P H ds vs → Iss K (P.less B) H ds vs
  | [], _, h => h
  | _ :: _, _, h => by
    obtain ⟨v, r, e, p, q⟩ := h
    exact ⟨v, r, e, Is.less p, Iss.less q⟩
end
mutual
theorem Is.free (P' : Pl) : ∀ {d : D} {v : V}, d.lf = true → Is K P H d v → Is K P' H d v
  | .non, _, _, h => h
  | .bl _, _, _, h => h
  | .int _, _, _, h => h
  | .str _, _, _, h => h
  | .tup ds, _, l, h => by
    obtain ⟨a, vs, e, s, r⟩ := h
    exact ⟨a, vs, e, s, Iss.free P' (by simpa only [D.lf] using l) r⟩
  | .lst _, _, l, _ => by simp [D.lf] at l
  | .ref _, _, l, _ => by simp [D.lf] at l
theorem Iss.free (P' : Pl) : ∀ {ds : List D} {vs : List V}, D.lfs ds = true → Iss K P H ds vs → Iss K P' H ds vs
  | [], _, _, h => h
  | _ :: _, _, l, h => by
    obtain ⟨v, r, e, p, q⟩ := h
    simp only [D.lfs, Bool.and_eq_true] at l
    exact ⟨v, r, e, Is.free P' l.1 p, Iss.free P' l.2 q⟩
end
theorem Iss.len : ∀ {ds : List D} {vs : List V}, Iss K P H ds vs → vs.length = ds.length
  | [], _, h => by rw [show _ = [] from h]; rfl
  | d :: ds, _, h => by
    obtain ⟨v, r, e, _, q⟩ := h
    subst e
    simp [Iss.len q]
theorem Iss.get : ∀ {ds : List D} {vs : List V} {i : Nat} {d : D}, Iss K P H ds vs → ds[i]? = some d → ∃ v, vs[i]? = some v ∧ Is K P H d v
  | [], _, _, _, _, e => by simp at e
  | d :: ds, _, 0, _, h, e => by
    obtain ⟨v, r, e', p, _⟩ := h
    simp at e
    subst e e'
    exact ⟨v, rfl, p⟩
  | d :: ds, _, i + 1, _, h, e => by
    obtain ⟨v, r, e', _, q⟩ := h
    subst e'
    simpa using Iss.get (i := i) q (by simpa using e)
theorem Iss.append : ∀ {ds es : List D} {vs ws : List V}, Iss K P H ds vs → Iss K P H es ws → Iss K P H (ds ++ es) (vs ++ ws)
  | [], _, _, _, h, q => by rw [show _ = [] from h]; exact q
  | d :: ds, _, _, _, h, q => by
    obtain ⟨v, r, e, p, h⟩ := h
    subst e
    exact ⟨v, r ++ _, rfl, p, Iss.append h q⟩
theorem Iss.take : ∀ {ds : List D} {vs : List V} (n : Nat), Iss K P H ds vs → Iss K P H (ds.take n) (vs.take n)
  | _, _, 0, _ => rfl
  | [], _, n + 1, h => by rw [show _ = [] from h]; rfl
  | d :: ds, _, n + 1, h => by
    obtain ⟨v, r, e, p, h⟩ := h
    subst e
    exact ⟨v, _, rfl, p, Iss.take n h⟩
theorem Iss.drop : ∀ {ds : List D} {vs : List V} (n : Nat), Iss K P H ds vs → Iss K P H (ds.drop n) (vs.drop n)
  | _, _, 0, h => h
  | [], _, n + 1, h => by rw [show _ = [] from h]; rfl
  | d :: ds, _, n + 1, h => by
    obtain ⟨v, r, e, p, h⟩ := h
    subst e
    exact Iss.drop n h
theorem Iss.one {d : D} {v : V} (h : Is K P H d v) : Iss K P H [d] [v] := ⟨v, [], rfl, h, rfl⟩
end
def zfA (K : PySem.W.Frag) (mg : Str → Option Value) (P : Pl) (H : Hp) (a : Addr) : Cl → Prop
 | .lst ds => ∃ vs, H a = some (.lst vs) ∧ Iss K P H ds vs
 | .obj c fs => ∃ C dx gs, mg c = some (.ref C) ∧ H a = some (.ins C dx gs) ∧ gs.map (·.1) = fs.map (·.1) ∧ Iss K P H (fs.map (·.2)) (gs.map (·.2))
 | .dct kvs => ∃ vs : List (L2.Key × V), H a = some (.dK vs) ∧ vs.map (·.1) = kvs.map (·.1) ∧ Iss K P H (kvs.map (·.2)) (vs.map (·.2))
structure Hk (K : PySem.W.Frag) (mg : Str → Option Value) (P : Pl) (H : Hp) (M : Mm) : Prop where
 n : P.n = M.length
 cell : ∀ (k : Nat) c, M[k]? = some c → zfA K mg P H (P.io k) c
 inj : ∀ j k, j < P.n → k < P.n → P.io j = P.io k → j = k
 bd : ∀ k, k < P.n → P.bd (P.io k)
 here : ∀ a, P.bd a → H a ≠ none
structure LtE (P : Pl) (H : Hp) (P' : Pl) (H' : Hp) : Prop where
 n : P.n ≤ P'.n
 io : ∀ k, k < P.n → P'.io k = P.io k
 bd : ∀ a, P'.bd a → P.bd a ∨ H a = none
 bm : ∀ a, P.bd a → P'.bd a
 keep : ∀ a o, H a = some o → (∀ k, k < P.n → P.io k ≠ a) → H' a = some o
 sure : ∀ a, H' a = none → H a = none
 nw : ∀ k, P.n ≤ k → k < P'.n → H (P'.io k) = none
section
variable {K : PySem.W.Frag} {mg : Str → Option Value} {P P' P'' : Pl} {H H' H'' : Hp} {M M' : Mm}
theorem LtE.refl (P : Pl) (H : Hp) : LtE P H P H := ⟨Nat.le_refl _, fun _ _ => rfl, fun _ z => .inl z, fun _ z => z, fun _ _ e _ => e, fun _ z => z, fun k h1 h2 => absurd h1 (Nat.not_le.mpr h2)⟩
theorem LtE.same (s : Same H H') : LtE P H P H' := ⟨Nat.le_refl _, fun _ _ => rfl, fun _ z => .inl z, fun _ z => z, fun a o e _ => s a o e, fun a z => s.free z, fun k h1 h2 => absurd h1 (Nat.not_le.mpr h2)⟩
theorem Hk.cellAt (h : Hk K mg P H M) {k : Nat} (hk : k < P.n) : ∃ o, H (P.io k) = some o ∧ ¬ Fx o := by
  obtain ⟨c, hc⟩ : ∃ c, M[k]? = some c := ⟨_, List.getElem?_eq_getElem (by rw [← h.n]; exact hk)⟩
  have := h.cell k c hc
  cases c with
  | lst ds =>
    obtain ⟨vs, e, _⟩ := this
    exact ⟨_, e, fun z => by rcases z with ⟨_, z⟩ | ⟨_, _, z⟩ | ⟨_, z⟩ | ⟨_, z⟩ <;> cases z⟩
  | obj c fs =>
    obtain ⟨C, dx, gs, _, e, _⟩ := this
    exact ⟨_, e, fun z => by rcases z with ⟨_, z⟩ | ⟨_, _, z⟩ | ⟨_, z⟩ | ⟨_, z⟩ <;> cases z⟩
  | dct kvs =>
    obtain ⟨vs, e, _⟩ := this
    exact ⟨_, e, fun z => by rcases z with ⟨_, z⟩ | ⟨_, _, z⟩ | ⟨_, z⟩ | ⟨_, z⟩ <;> cases z⟩
theorem LtE.lt (l : LtE P H P' H') (h : Hk K mg P H M) : Lt P H P' H' where
 n := l.n
 io := l.io
 bd := l.bd
 sure := l.sure
 keep := fun a o e z => l.keep a o e fun k hk q => by
  subst q
  rcases z with z | z
  ·obtain ⟨o', e', nf⟩ := h.cellAt hk
   rw [e] at e'
   cases e'
   exact nf z
  ·exact z (h.bd k hk)
theorem LtE.trans (l : LtE P H P' H') (m : LtE P' H' P'' H'') : LtE P H P'' H'' where
 n := Nat.le_trans l.n m.n
 io := fun k h => (m.io k (Nat.lt_of_lt_of_le h l.n)).trans (l.io k h)
 bd := fun a z => (m.bd a z).elim (l.bd a) fun z => .inr (l.sure a z)
 bm := fun a z => m.bm a (l.bm a z)
 keep := fun a o e h => m.keep a o (l.keep a o e h) fun k hk q => by
  rcases Nat.lt_or_ge k P.n with z | z
  ·rw [l.io k z] at q
   exact h k z q
  ·rw [← q, l.nw k z hk] at e
   cases e
 sure := fun a z => l.sure a (m.sure a z)
 nw := fun k h1 h2 => by
  rcases Nat.lt_or_ge k P'.n with z | z
  ·rw [m.io k z]
   exact l.nw k h1 z
  ·exact l.sure _ (m.nw k z h2)
end
end E3
namespace E3
open PySem PySem.Spec PyProof.Rows L2
inductive Cp where
 | eq | ne | lt | le | gt | ge | isin | notin | same | other
mutual
def D.eq : D → D → Bool
 | .non, .non => true
 | .bl a, .bl b => a == b
 | .bl a, .int b => (if a then 1 else 0) == b
 | .int a, .bl b => a == (if b then 1 else 0)
 | .int a, .int b => a == b
 | .str a, .str b => a == b
 | .tup a, .tup b => D.eqs a b
 | .lst a, .lst b => D.eqs a b
 | .ref a, .ref b => a == b
 | _, _ => false
def D.eqs : List D → List D → Bool
 | [], [] => true
 | a :: as, b :: bs => D.eq a b && D.eqs as bs
 | _, _ => false
end
mutual
def D.dep : D → Nat
 | .tup xs => D.deps xs + 1
 | .lst xs => D.deps xs + 1
 | .ref _ => 101
 | _ => 0
def D.deps : List D → Nat
 | [] => 0
 | a :: as => max (D.dep a) (D.deps as)
end
def D.flat : D → Bool
 | .tup _ => false
 | .lst _ => false
 | .ref _ => false
 | _ => true
def zf0 (i j : Str) : Bool := !(Builtin.Str.occurrences j i 0 j.length 1).isEmpty
def eqOk (a b : D) : Bool := a.flat == b.flat && decide (b.dep ≤ 50)
def cEq (a b : D) : Option Bool := if eqOk a b = true ∧ a.dep ≤ 50 then some (D.eq a b) else none
def cNe (a b : D) : Option Bool := if eqOk a b = true ∧ a.dep ≤ 50 then some (!D.eq a b) else none
def cOrd (f : Int → Int → Bool) (a b : D) : Option Bool := match a with
 | .int i => (match b with | .int j => some (f i j) | _ => none)
 | _ => none
def cIn (a b : D) : Option Bool := match b with
 | .str j => (match a with | .str i => some (zf0 i j) | _ => none)
 | .lst xs => if (a.flat && xs.all D.flat) = true then some (xs.any fun y => D.eq y a) else none
 | .tup xs => if (a.flat && xs.all D.flat) = true then some (xs.any fun y => D.eq y a) else none
 | _ => none
def cNin (a b : D) : Option Bool := match b with
 | .str j => (match a with | .str i => some (!zf0 i j) | _ => none)
 | .lst xs => if (a.flat && xs.all D.flat) = true then some (!xs.any fun y => D.eq y a) else none
 | .tup xs => if (a.flat && xs.all D.flat) = true then some (!xs.any fun y => D.eq y a) else none
 | _ => none
def zhj (a b : D) : Option Bool := match b with
 | .bl b => (match a with | .bl a => some (a == b) | _ => some false)
 | .non => (match a with | .non => some true | _ => some false)
 | _ => none
def zey (a b : D) : Option Bool := match b with
 | .bl b => (match a with | .bl a => some (!(a == b)) | _ => some true)
 | .non => (match a with | .non => some false | _ => some true)
 | _ => none
def cmpD (c : Cp) (a b : D) : Option Bool := match c with
 | .eq => cEq a b
 | .ne => cNe a b
 | .lt => cOrd (fun i j => decide (i < j)) a b
 | .le => cOrd (fun i j => decide (i ≤ j)) a b
 | .gt => cOrd (fun i j => decide (j < i)) a b
 | .ge => cOrd (fun i j => decide (j ≤ i)) a b
 | .isin => cIn a b
 | .notin => cNin a b
 | .same => zhj a b
 | .other => zey a b
def IsB (K : PySem.W.Frag) (P : Pl) (H : Hp) : D → V → Prop
 | .lst ds, v => ∃ a vs, v = .ref a ∧ RdK K P H a vs ∧ Iss K P H ds vs
 | d, v => Is K P H d v
section
variable {X : Cx} {pins : List (Addr × Obj)} {σ : L2.St} {H : Hp} {s : Shared}
theorem sqlOf {K : PySem.W.Frag} {P : Pl} {a : Addr} {xs : List V} (h : RdK K P H a xs) : SqL K H a xs := h.imp (·.2) id
def IsW (K : PySem.W.Frag) (P : Pl) (H : Hp) : D → V → Prop
 | .lst ds, v => ∃ a vs, v = .ref a ∧ SqL K H a vs ∧ Iss K P H ds vs
 | d, v => Is K P H d v
theorem IsB.w {K : PySem.W.Frag} {P : Pl} {d : D} {v : V} (h : IsB K P H d v) : IsW K P H d v := by
 cases d <;> first | exact h | (obtain ⟨a, vs, e, r, q⟩ := h; exact ⟨a, vs, e, sqlOf r, q⟩)
theorem Is.w {K : PySem.W.Frag} {P : Pl} {d : D} {v : V} (h : Is K P H d v) : IsW K P H d v := by
 cases d <;> first | exact h | (obtain ⟨a, vs, e, r, q⟩ := h; exact ⟨a, vs, e, r.imp (·.2) id, q⟩)
theorem sql {l : Addr} {xs : List V} (I : Inv X pins σ H s) (h : SqL X.K H l xs) : xs.length ≤ sizeLine ∧ ∃ its : List Value, Vals xs its ∧ s.heap.IsList l its.toArray := by
 obtain ⟨its, r, p, z⟩ := I.list h
 exact ⟨z, its, r, p.isList⟩
mutual
theorem Is.inj (I : Inv X pins σ H s) {A B : Pl} : ∀ (d e : D) (v : V), IsW X.K A H d v → IsW X.K B H e v → d.dep ≤ 100 → e.dep ≤ 100 → d = e
  | .ref _, e, v, h, h', hd, he => by simp [D.dep] at hd
  | .non, e, v, h, h', hd, he => by
    have hv : v = .non := h
    subst hv
    cases e <;> first | (simp [D.dep] at he; done) | (simp [IsW, Is] at h' <;> rfl)
  | .bl b, e, v, h, h', hd, he => by
    have hv : v = .bl b := h
    subst hv
    cases e <;> first | (simp [D.dep] at he; done) | (simp [IsW, Is] at h' <;> simp [h'])
  | .int b, e, v, h, h', hd, he => by
    have hv : v = .int b := h
    subst hv
    cases e <;> first | (simp [D.dep] at he; done) | (simp [IsW, Is] at h' <;> simp [h'])
  | .str b, e, v, h, h', hd, he => by
    have hv : v = .str b := h
    subst hv
    cases e <;> first | (simp [D.dep] at he; done) | (simp [IsW, Is] at h' <;> simp [h'])
  | .tup ds, e, v, h, h', hd, he => by
    simp only [D.dep] at hd
    simp only [IsW, Is] at h
    obtain ⟨a, vs, rfl, t, r⟩ := h
    cases e with
    | tup es =>
      simp only [IsW, Is] at h'
      obtain ⟨b, ws, e1, t', r'⟩ := h'
      cases e1
      have e2 := I.tuple_inj t t'
      subst e2
      simp only [D.dep] at he
      rw [Iss.inj I ds es vs r r' (by omega) (by omega)]
    | lst es =>
      obtain ⟨b, ws, e1, t', r'⟩ := h'
      cases e1
      obtain ⟨_, its, _, o2, e2, c2, _⟩ := sql I t'
      obtain ⟨its2, _, ⟨o, e3, c3, _⟩, _⟩ := I.tuple t
      rw [e2] at e3
      cases e3
      rw [c2] at c3
      exact absurd c3 (by simp)
    | ref _ => simp [D.dep] at he
    | _ => simp [IsW, Is] at h'
  | .lst ds, e, v, h, h', hd, he => by
    simp only [D.dep] at hd
    obtain ⟨a, vs, rfl, t, r⟩ := h
    cases e with
    | lst es =>
      obtain ⟨b, ws, e1, t', r'⟩ := h'
      cases e1
      have e2 := I.list_inj (t) (t')
      subst e2
      simp only [D.dep] at he
      rw [Iss.inj I ds es vs r r' (by omega) (by omega)]
    | tup es =>
      simp only [IsW, Is] at h'
      obtain ⟨b, ws, e1, t', r'⟩ := h'
      cases e1
      obtain ⟨_, its, _, o2, e2, c2, _⟩ := sql I t
      obtain ⟨its2, _, ⟨o, e3, c3, _⟩, _⟩ := I.tuple t'
      rw [e2] at e3
      cases e3
      rw [c2] at c3
      exact absurd c3 (by simp)
    | ref _ => simp [D.dep] at he
    | _ => simp [IsW, Is] at h'
theorem Iss.inj (I : Inv X pins σ H s) {A B : Pl} : ∀ (ds es : List D) (vs : List V), Iss X.K A H ds vs → Iss X.K B H es vs → D.deps ds ≤ 100 → D.deps es ≤ 100 → ds = es
  | [], es, vs, h, h', hd, he => by
    have hv : vs = [] := h
    subst hv
    cases es with
    | nil => rfl
    | cons => simp [Iss] at h'
  | d :: ds, es, vs, h, h', hd, he => by
    simp only [D.deps] at hd
    obtain ⟨v, r, rfl, p, q⟩ := h
    cases es with
    | nil => simp [Iss] at h'
    | cons e es =>
      obtain ⟨v', r', e1, p', q'⟩ := h'
      cases e1
      simp only [D.deps] at he
      rw [Is.inj I d e v p.w p'.w (by omega) (by omega), Iss.inj I ds es r q q' (by omega) (by omega)]
end
mutual
theorem D.eq_refl : ∀ d : D, D.eq d d = true
 | .non => rfl
 | .bl b => by simp [D.eq]
 | .int b => by simp [D.eq]
 | .str b => by simp [D.eq]
 | .tup ds => by simp only [D.eq]; exact D.eqs_refl ds
 | .lst ds => by simp only [D.eq]; exact D.eqs_refl ds
 | .ref n => by simp [D.eq]
theorem D.eqs_refl : ∀ d : List D, D.eqs d d = true
 | [] => rfl
 | d :: ds => by simp only [D.eqs, D.eq_refl d, D.eqs_refl ds, Bool.and_self]
end
theorem D.eqs_len : ∀ (ds es : List D), ds.length ≠ es.length → D.eqs ds es = false
  | [], [], h => absurd rfl h
  | [], _ :: _, _ => rfl
  | _ :: _, [], _ => rfl
  | d :: ds, e :: es, h => by
    simp only [D.eqs, D.eqs_len ds es (by simpa using h), Bool.and_false]
theorem D.eqs_all : ∀ (ds es : List D), ds.length = es.length → D.eqs ds es = (List.range ds.length).all fun j => D.eq (ds.getD j .non) (es.getD j .non)
  | [], [], _ => rfl
  | d :: ds, e :: es, h => by
    rw [D.eqs, D.eqs_all ds es (by simpa using h), List.length_cons, List.range_succ_eq_map, List.all_cons, List.all_map]
    rfl
mutual
theorem eqAt (I : Inv X pins σ H s) {A B : Pl} {Ar : Around} : ∀ (d e : D) (v w : V) (u u' : Value), IsW X.K A H d v → IsW X.K B H e w → RelV v u → RelV w u' → Ar.units + d.dep < cLine → d.dep ≤ 100 → e.dep ≤ 100 → SeqAt.EqAt Ar s u u' (D.eq d e)
  | .ref _, e, v, w, u, u', h1, h2, r1, r2, hu, hd, he => by simp [D.dep] at hd
  | .non, e, v, w, u, u', h1, h2, r1, r2, hu, hd, he => by
    have hv : v = .non := h1
    subst hv
    cases r1
    have hu' : Ar.units < cLine := by omega
    cases e with
    | ref _ => simp [D.dep] at he
    | non => have hw : w = .non := h2; subst hw; cases r2; exact SeqAt.EqAt.same _
    | bl b => have hw : w = .bl b := h2; subst hw; cases r2; exact SeqAt.EqAt.none_bool _
    | int b => have hw : w = .int b := h2; subst hw; obtain ⟨t, rfl⟩ := r2; exact SeqAt.EqAt.none_int _ _
    | str b => have hw : w = .str b := h2; subst hw; obtain ⟨t, rfl⟩ := r2; exact SeqAt.EqAt.none_str _ _
    | tup es => obtain ⟨a, vs, rfl, t, _⟩ := h2; cases r2; obtain ⟨its, _, p, _⟩ := I.tuple t; exact SeqAt.EqAt.none_tuple p hu'
    | lst es => obtain ⟨a, vs, rfl, t, _⟩ := h2; cases r2; obtain ⟨_, its, _, p⟩ := sql I t; exact SeqAt.EqAt.none_list p hu'
  | .bl x, e, v, w, u, u', h1, h2, r1, r2, hu, hd, he => by
    have hv : v = .bl x := h1
    subst hv
    cases r1
    have hu' : Ar.units < cLine := by omega
    cases e with
    | ref _ => simp [D.dep] at he
    | non => have hw : w = .non := h2; subst hw; cases r2; exact SeqAt.EqAt.bool_none _
    | bl b => have hw : w = .bl b := h2; subst hw; cases r2; exact SeqAt.EqAt.bool_bool _ _
    | int b => have hw : w = .int b := h2; subst hw; obtain ⟨t, rfl⟩ := r2; exact SeqAt.EqAt.bool_int _ _ _
    | str b => have hw : w = .str b := h2; subst hw; obtain ⟨t, rfl⟩ := r2; exact SeqAt.EqAt.bool_str _ _ _
    | tup es => obtain ⟨a, vs, rfl, t, _⟩ := h2; cases r2; obtain ⟨its, _, p, _⟩ := I.tuple t; exact SeqAt.EqAt.bool_tuple _ p hu'
    | lst es => obtain ⟨a, vs, rfl, t, _⟩ := h2; cases r2; obtain ⟨_, its, _, p⟩ := sql I t; exact SeqAt.EqAt.bool_list _ p hu'
  | .int x, e, v, w, u, u', h1, h2, r1, r2, hu, hd, he => by
    have hv : v = .int x := h1
    subst hv
    obtain ⟨t0, rfl⟩ := r1
    have hu' : Ar.units < cLine := by omega
    cases e with
    | ref _ => simp [D.dep] at he
    | non => have hw : w = .non := h2; subst hw; cases r2; exact SeqAt.EqAt.int_none _ _
    | bl b => have hw : w = .bl b := h2; subst hw; cases r2; exact SeqAt.EqAt.int_bool _ _ _
    | int b => have hw : w = .int b := h2; subst hw; obtain ⟨t, rfl⟩ := r2; exact SeqAt.EqAt.int_int _ _ _ _
    | str b => have hw : w = .str b := h2; subst hw; obtain ⟨t, rfl⟩ := r2; exact SeqAt.EqAt.int_str _ _ _ _
    | tup es => obtain ⟨a, vs, rfl, t, _⟩ := h2; cases r2; obtain ⟨its, _, p, _⟩ := I.tuple t; exact SeqAt.EqAt.int_tuple _ _ p hu'
    | lst es => obtain ⟨a, vs, rfl, t, _⟩ := h2; cases r2; obtain ⟨_, its, _, p⟩ := sql I t; exact SeqAt.EqAt.int_list _ _ p hu'
  | .str x, e, v, w, u, u', h1, h2, r1, r2, hu, hd, he => by
    have hv : v = .str x := h1
    subst hv
    obtain ⟨t0, rfl⟩ := r1
    have hu' : Ar.units < cLine := by omega
    cases e with
    | ref _ => simp [D.dep] at he
    | non => have hw : w = .non := h2; subst hw; cases r2; exact SeqAt.EqAt.str_none _ _
    | bl b => have hw : w = .bl b := h2; subst hw; cases r2; exact SeqAt.EqAt.str_bool _ _ _
    | int b => have hw : w = .int b := h2; subst hw; obtain ⟨t, rfl⟩ := r2; exact SeqAt.EqAt.str_int _ _ _ _
    | str b => have hw : w = .str b := h2; subst hw; obtain ⟨t, rfl⟩ := r2; exact SeqAt.EqAt.str_str _ _ _ _
    | tup es => obtain ⟨a, vs, rfl, t, _⟩ := h2; cases r2; obtain ⟨its, _, p, _⟩ := I.tuple t; exact SeqAt.EqAt.str_tuple _ _ p hu'
    | lst es => obtain ⟨a, vs, rfl, t, _⟩ := h2; cases r2; obtain ⟨_, its, _, p⟩ := sql I t; exact SeqAt.EqAt.str_list _ _ p hu'
  | .tup ds, e, v, w, u, u', h1, h2, r1, r2, hu, hd, he => by
    have h1' := h1
    have hd' := hd
    simp only [D.dep] at hu hd
    have hu' : Ar.units < cLine := by omega
    obtain ⟨a, vs, rfl, t, q⟩ := h1
    cases r1
    obtain ⟨its, rv, p, hz⟩ := I.tuple t
    cases e with
    | ref _ => simp [D.dep] at he
    | non => have hw : w = .non := h2; subst hw; cases r2; exact SeqAt.EqAt.tuple_none p hu'
    | bl b => have hw : w = .bl b := h2; subst hw; cases r2; exact SeqAt.EqAt.tuple_bool _ p hu'
    | int b => have hw : w = .int b := h2; subst hw; obtain ⟨t, rfl⟩ := r2; exact SeqAt.EqAt.tuple_int _ _ p hu'
    | str b => have hw : w = .str b := h2; subst hw; obtain ⟨t, rfl⟩ := r2; exact SeqAt.EqAt.tuple_str _ _ p hu'
    | tup es =>
      have h2' := h2
      have he' := he
      simp only [D.dep] at he
      obtain ⟨b, ws, rfl, t', q'⟩ := h2
      cases r2
      by_cases hab : a = b
      · subst hab
        rw [Is.inj I _ _ _ h1' h2' hd' he', D.eq_refl]
        exact SeqAt.EqAt.same _
      · obtain ⟨its', rv', p', hz'⟩ := I.tuple t'
        refine SeqAt.EqAt.of_refs hab ?_
        have l1 : its.toArray.size = ds.length := by rw [List.size_toArray, ← rv.length, q.len]
        have l2 : its'.toArray.size = es.length := by rw [List.size_toArray, ← rv'.length, q'.len]
        have key := SeqAt.RcAt.tuples (A := Ar) (s := s) (e := fun j => D.eq (ds.getD j .non) (es.getD j .non)) p p' hu' fun j j1 j2 => by
          simpa using zhM I ds es vs ws its its' q q' rv rv' (Ar := Ar.in1) (by show Ar.units + 1 + _ < _; omega) (by omega) (by omega) j (by simpa using j1) (by simpa using j2)
        rw [l1, l2] at key
        by_cases hl : ds.length = es.length
        · rw [show D.eq (.tup ds) (.tup es) = D.eqs ds es from rfl, D.eqs_all ds es hl]
          rw [hl, Nat.min_self, beq_self_eq_true, Bool.and_true] at key
          rw [hl]
          exact key
        · rw [show D.eq (.tup ds) (.tup es) = D.eqs ds es from rfl, D.eqs_len ds es hl]
          rw [beq_eq_false_iff_ne.mpr hl, Bool.and_false] at key
          exact key
    | lst es => obtain ⟨b, ws, rfl, t', _⟩ := h2; cases r2; obtain ⟨_, its', _, p'⟩ := sql I t'; exact SeqAt.EqAt.tuple_list p p' hu'
  | .lst ds, e, v, w, u, u', h1, h2, r1, r2, hu, hd, he => by
    have h1' := h1
    have hd' := hd
    simp only [D.dep] at hu hd
    have hu' : Ar.units < cLine := by omega
    obtain ⟨a, vs, rfl, t, q⟩ := h1
    cases r1
    obtain ⟨hz, its, rv, p⟩ := sql I t
    cases e with
    | ref _ => simp [D.dep] at he
    | non => have hw : w = .non := h2; subst hw; cases r2; exact SeqAt.EqAt.list_none p hu'
    | bl b => have hw : w = .bl b := h2; subst hw; cases r2; exact SeqAt.EqAt.list_bool _ p hu'
    | int b => have hw : w = .int b := h2; subst hw; obtain ⟨t, rfl⟩ := r2; exact SeqAt.EqAt.list_int _ _ p hu'
    | str b => have hw : w = .str b := h2; subst hw; obtain ⟨t, rfl⟩ := r2; exact SeqAt.EqAt.list_str _ _ p hu'
    | tup es => obtain ⟨b, ws, rfl, t', _⟩ := h2; cases r2; obtain ⟨its', _, p', _⟩ := I.tuple t'; exact SeqAt.EqAt.list_tuple p p' hu'
    | lst es =>
      have h2' := h2
      have he' := he
      simp only [D.dep] at he
      obtain ⟨b, ws, rfl, t', q'⟩ := h2
      cases r2
      by_cases hab : a = b
      · subst hab
        rw [Is.inj I _ _ _ h1' h2' hd' he', D.eq_refl]
        exact SeqAt.EqAt.same _
      · obtain ⟨hz', its', rv', p'⟩ := sql I t'
        refine SeqAt.EqAt.of_refs hab ?_
        have l1 : its.toArray.size = ds.length := by rw [List.size_toArray, ← rv.length, q.len]
        have l2 : its'.toArray.size = es.length := by rw [List.size_toArray, ← rv'.length, q'.len]
        by_cases hl : ds.length = es.length
        · have key := SeqAt.RcAt.lists (A := Ar) (s := s) (e := fun j => D.eq (ds.getD j .non) (es.getD j .non)) p p' (by rw [l1, l2, hl]) hu' fun j j1 j2 => by
            simpa using zhM I ds es vs ws its its' q q' rv rv' (Ar := Ar.in1) (by show Ar.units + 1 + _ < _; omega) (by omega) (by omega) j (by simpa using j1) (by simpa using j2)
          rw [show D.eq (.lst ds) (.lst es) = D.eqs ds es from rfl, D.eqs_all ds es hl]
          rw [l1] at key
          exact key
        · rw [show D.eq (.lst ds) (.lst es) = D.eqs ds es from rfl, D.eqs_len ds es hl]
          exact SeqAt.RcAt.lists_lengths p p' (by rw [l1, l2]; simpa using hl) hu'
theorem zhM (I : Inv X pins σ H s) {A B : Pl} {Ar : Around} : ∀ (ds es : List D) (vs ws : List V) (its its' : List Value), Iss X.K A H ds vs → Iss X.K B H es ws → Vals vs its → Vals ws its' → Ar.units + D.deps ds < cLine → D.deps ds ≤ 100 → D.deps es ≤ 100 →
    ∀ (j : Nat) (h1 : j < its.length) (h2 : j < its'.length), SeqAt.EqAt Ar s its[j] its'[j] (D.eq (ds.getD j .non) (es.getD j .non))
  | [], es, vs, ws, its, its', h, h', r, r', hu, hd, he, j, j1, j2 => by
    have hv : vs = [] := h
    subst hv
    cases r
    exact absurd j1 (Nat.not_lt_zero _)
  | d :: ds, [], vs, ws, its, its', h, h', r, r', hu, hd, he, j, j1, j2 => by
    have hv : ws = [] := h'
    subst hv
    cases r'
    exact absurd j2 (Nat.not_lt_zero _)
  | d :: ds, e :: es, vs, ws, its, its', h, h', r, r', hu, hd, he, j, j1, j2 => by
    obtain ⟨v, vr, rfl, p, q⟩ := h
    obtain ⟨w, wr, rfl, p', q'⟩ := h'
    simp only [D.deps] at hu hd he
    cases r with
    | cons r1 r2 =>
      cases r' with
      | cons r1' r2' =>
        cases j with
        | zero => exact eqAt I d e v w _ _ p.w p'.w r1 r1' (by omega) (by omega) (by omega)
        | succ j => exact zhM I ds es vr wr _ _ q q' r2 r2' (by omega) (by omega) (by omega) j (by simpa using j1) (by simpa using j2)
end
theorem zgF {d e : D} {A B : Pl} {K : PySem.W.Frag} {v w : V} (fd : d.flat = true) (fe : e.flat = true) (h1 : IsW K A H d v) (h2 : IsW K B H e w) :
  (scal v w = true ∧ D.eq d e = decide (v = w)) ∨ (∃ a i, v = .bl a ∧ w = .int i ∧ D.eq d e = ((if a then 1 else 0) == i)) ∨ ∃ a i, v = .int i ∧ w = .bl a ∧ D.eq d e = (i == (if a then 1 else 0)) := by
 cases d <;> cases e <;> simp only [D.flat, Bool.false_eq_true] at fd fe <;> simp only [IsW, Is] at h1 h2 <;> subst h1 h2 <;> simp [scal, D.eq]
 all_goals first | rfl | (rw [Bool.eq_iff_iff]; simp)
def rEqD (K : PySem.W.Frag) (neg : Bool) : R2 := fun x y H Q => ∃ (A B : Pl) (d e : D), IsW K A H d x ∧ IsW K B H e y ∧ eqOk d e = true ∧ d.dep ≤ 50 ∧ Q (.bl (if neg then !D.eq d e else D.eq d e)) H
theorem zoC (hu : X.A.units + 60 < cLine) : OpR X (compareOp .Eq) (rEqD X.K false) := by
  intro pins s σ H x y v u Q I rx ry h
  obtain ⟨A, B, d, e, h1, h2, hk, hd, q⟩ := h
  have q : Q (.bl (D.eq d e)) H := q
  have fin : SeqAt.RcAt X.A s v u (D.eq d e) → wpAny (model X.prog X.w) X.A (compareOp .Eq v u) (EP X pins σ Q) X.xe s := fun r => EqBoolInt.of_rc r ⟨.bl _, H, I, rfl, q⟩
  have hu' : X.A.units < cLine := by omega
  cases fd : d.flat with
  | true =>
    simp only [eqOk, Bool.and_eq_true, decide_eq_true_eq, beq_iff_eq] at hk
    have fe : e.flat = true := hk.1.symm.trans fd
    rcases zgF fd fe h1 h2 with ⟨sc, eq⟩ | ⟨a, i, rfl, rfl, eq⟩ | ⟨a, i, rfl, rfl, eq⟩
    · exact op_eq pins s σ H x y v u Q I rx ry ⟨sc, by rw [← eq]; exact q⟩
    · cases rx
      obtain ⟨t, rfl⟩ := ry
      exact EqBoolInt.eq_bool_int ⟨.bl _, H, I, rfl, by rw [← eq]; exact q⟩
    · cases ry
      obtain ⟨t, rfl⟩ := rx
      exact EqBoolInt.eq_int_bool ⟨.bl _, H, I, rfl, by rw [← eq]; exact q⟩
  | false =>
    simp only [eqOk, Bool.and_eq_true, decide_eq_true_eq, beq_iff_eq] at hk
    have he := hk.2
    have fe : e.flat = false := hk.1.symm.trans fd
    cases d with
    | tup ds =>
      obtain ⟨a, vs, rfl, t, p⟩ := h1
      cases rx
      obtain ⟨its, rv, pt, hz⟩ := I.tuple t
      simp only [D.dep] at hd
      cases e with
      | tup es =>
        obtain ⟨b, ws, rfl, t', p'⟩ := h2
        cases ry
        obtain ⟨its', rv', pt', hz'⟩ := I.tuple t'
        have l1 : its.toArray.size = ds.length := by rw [List.size_toArray, ← rv.length, p.len]
        have l2 : its'.toArray.size = es.length := by rw [List.size_toArray, ← rv'.length, p'.len]
        have key := SeqAt.RcAt.tuples (A := X.A) (s := s) (e := fun j => D.eq (ds.getD j .non) (es.getD j .non)) pt pt' hu' fun j j1 j2 => by
          simpa using zhM I ds es vs ws its its' p p' rv rv' (Ar := X.A.in1) (by show X.A.units + 1 + _ < _; omega) (by omega) (by simp only [D.dep] at he; omega) j (by simpa using j1) (by simpa using j2)
        rw [l1, l2] at key
        refine fin ?_
        by_cases hl : ds.length = es.length
        · rw [show D.eq (.tup ds) (.tup es) = D.eqs ds es from rfl, D.eqs_all ds es hl]
          rw [hl, Nat.min_self, beq_self_eq_true, Bool.and_true] at key
          rw [hl]
          exact key
        · rw [show D.eq (.tup ds) (.tup es) = D.eqs ds es from rfl, D.eqs_len ds es hl]
          rw [beq_eq_false_iff_ne.mpr hl, Bool.and_false] at key
          exact key
      | lst es =>
        obtain ⟨b, ws, rfl, t', p'⟩ := h2
        cases ry
        obtain ⟨_, its', rv', e'⟩ := sql I t'
        exact fin (SeqAt.RcAt.tuple_list pt e' hu')
      | ref _ => simp [D.dep] at he
      | _ => cases fe
    | lst ds =>
      obtain ⟨a, vs, rfl, t, p⟩ := h1
      cases rx
      obtain ⟨hz, its, rv, pt⟩ := sql I t
      simp only [D.dep] at hd
      cases e with
      | tup es =>
        obtain ⟨b, ws, rfl, t', p'⟩ := h2
        cases ry
        obtain ⟨its', rv', pt', hz'⟩ := I.tuple t'
        exact fin (SeqAt.RcAt.list_tuple pt pt' hu')
      | lst es =>
        obtain ⟨b, ws, rfl, t', p'⟩ := h2
        cases ry
        obtain ⟨_, its', rv', pt'⟩ := sql I t'
        have l1 : its.toArray.size = ds.length := by rw [List.size_toArray, ← rv.length, p.len]
        have l2 : its'.toArray.size = es.length := by rw [List.size_toArray, ← rv'.length, p'.len]
        refine fin ?_
        by_cases hl : ds.length = es.length
        · have key := SeqAt.RcAt.lists (A := X.A) (s := s) (e := fun j => D.eq (ds.getD j .non) (es.getD j .non)) pt pt' (by rw [l1, l2, hl]) hu' fun j j1 j2 => by
            simpa using zhM I ds es vs ws its its' p p' rv rv' (Ar := X.A.in1) (by show X.A.units + 1 + _ < _; omega) (by omega) (by simp only [D.dep] at he; omega) j (by simpa using j1) (by simpa using j2)
          rw [show D.eq (.lst ds) (.lst es) = D.eqs ds es from rfl, D.eqs_all ds es hl]
          rw [l1] at key
          exact key
        · rw [show D.eq (.lst ds) (.lst es) = D.eqs ds es from rfl, D.eqs_len ds es hl]
          exact SeqAt.RcAt.lists_lengths pt pt' (by rw [l1, l2]; simpa using hl) hu'
      | ref _ => simp [D.dep] at he
      | _ => cases fe
    | ref _ => simp [D.dep] at hd
    | _ => cases fd
theorem op_neD (hu : X.A.units + 60 < cLine) : OpR X (compareOp .NotEq) (rEqD X.K true) := by
  intro pins s σ H x y v u Q I rx ry h
  obtain ⟨A, B, d, e, h1, h2, hk, hd, q⟩ := h
  have q : Q (.bl (!D.eq d e)) H := q
  have fin : SeqAt.RcNeAt X.A s v u (!D.eq d e) → wpAny (model X.prog X.w) X.A (compareOp .NotEq v u) (EP X pins σ Q) X.xe s := fun r => EqBoolInt.of_rcne r ⟨.bl _, H, I, rfl, q⟩
  have hu' : X.A.units < cLine := by omega
  cases fd : d.flat with
  | true =>
    simp only [eqOk, Bool.and_eq_true, decide_eq_true_eq, beq_iff_eq] at hk
    have fe : e.flat = true := hk.1.symm.trans fd
    rcases zgF fd fe h1 h2 with ⟨sc, eq⟩ | ⟨a, i, rfl, rfl, eq⟩ | ⟨a, i, rfl, rfl, eq⟩
    · exact op_ne pins s σ H x y v u Q I rx ry ⟨sc, by rw [← eq]; exact q⟩
    · cases rx
      obtain ⟨t, rfl⟩ := ry
      exact EqBoolInt.ne_bool_int ⟨.bl _, H, I, rfl, by rw [← eq]; exact q⟩
    · cases ry
      obtain ⟨t, rfl⟩ := rx
      exact EqBoolInt.ne_int_bool ⟨.bl _, H, I, rfl, by rw [← eq]; exact q⟩
  | false =>
    simp only [eqOk, Bool.and_eq_true, decide_eq_true_eq, beq_iff_eq] at hk
    have he := hk.2
    have fe : e.flat = false := hk.1.symm.trans fd
    cases d with
    | tup ds =>
      obtain ⟨a, vs, rfl, t, p⟩ := h1
      cases rx
      obtain ⟨its, rv, pt, hz⟩ := I.tuple t
      simp only [D.dep] at hd
      cases e with
      | tup es =>
        obtain ⟨b, ws, rfl, t', p'⟩ := h2
        cases ry
        obtain ⟨its', rv', pt', hz'⟩ := I.tuple t'
        have l1 : its.toArray.size = ds.length := by rw [List.size_toArray, ← rv.length, p.len]
        have l2 : its'.toArray.size = es.length := by rw [List.size_toArray, ← rv'.length, p'.len]
        have key := SeqAt.RcNeAt.tuples (A := X.A) (s := s) (e := fun j => D.eq (ds.getD j .non) (es.getD j .non)) pt pt' hu' fun j j1 j2 => by
          simpa using zhM I ds es vs ws its its' p p' rv rv' (Ar := X.A.in1) (by show X.A.units + 1 + _ < _; omega) (by omega) (by simp only [D.dep] at he; omega) j (by simpa using j1) (by simpa using j2)
        rw [l1, l2] at key
        refine fin ?_
        by_cases hl : ds.length = es.length
        · rw [show D.eq (.tup ds) (.tup es) = D.eqs ds es from rfl, D.eqs_all ds es hl]
          rw [hl, Nat.min_self, beq_self_eq_true, Bool.and_true] at key
          rw [hl]
          exact key
        · rw [show D.eq (.tup ds) (.tup es) = D.eqs ds es from rfl, D.eqs_len ds es hl]
          rw [beq_eq_false_iff_ne.mpr hl, Bool.and_false] at key
          exact key
      | lst es =>
        obtain ⟨b, ws, rfl, t', p'⟩ := h2
        cases ry
        obtain ⟨_, its', rv', e'⟩ := sql I t'
        exact fin (SeqAt.RcNeAt.tuple_list pt e' hu')
      | ref _ => simp [D.dep] at he
      | _ => cases fe
    | lst ds =>
      obtain ⟨a, vs, rfl, t, p⟩ := h1
      cases rx
      obtain ⟨hz, its, rv, pt⟩ := sql I t
      simp only [D.dep] at hd
      cases e with
      | tup es =>
        obtain ⟨b, ws, rfl, t', p'⟩ := h2
        cases ry
        obtain ⟨its', rv', pt', hz'⟩ := I.tuple t'
        exact fin (SeqAt.RcNeAt.list_tuple pt pt' hu')
      | lst es =>
        obtain ⟨b, ws, rfl, t', p'⟩ := h2
        cases ry
        obtain ⟨_, its', rv', pt'⟩ := sql I t'
        have l1 : its.toArray.size = ds.length := by rw [List.size_toArray, ← rv.length, p.len]
        have l2 : its'.toArray.size = es.length := by rw [List.size_toArray, ← rv'.length, p'.len]
        refine fin ?_
        by_cases hl : ds.length = es.length
        · have key := SeqAt.RcNeAt.lists (A := X.A) (s := s) (e := fun j => D.eq (ds.getD j .non) (es.getD j .non)) pt pt' (by rw [l1, l2, hl]) hu' fun j j1 j2 => by
            simpa using zhM I ds es vs ws its its' p p' rv rv' (Ar := X.A.in1) (by show X.A.units + 1 + _ < _; omega) (by omega) (by simp only [D.dep] at he; omega) j (by simpa using j1) (by simpa using j2)
          rw [show D.eq (.lst ds) (.lst es) = D.eqs ds es from rfl, D.eqs_all ds es hl]
          rw [l1] at key
          exact key
        · rw [show D.eq (.lst ds) (.lst es) = D.eqs ds es from rfl, D.eqs_len ds es hl]
          exact SeqAt.RcNeAt.lists_lengths pt pt' (by rw [l1, l2]; simpa using hl) hu'
      | ref _ => simp [D.dep] at he
      | _ => cases fe
    | ref _ => simp [D.dep] at hd
    | _ => cases fd
def cpP : Cp → CmpOp
 | .eq => .Eq
 | .ne => .NotEq
 | .lt => .Lt
 | .le => .LtE
 | .gt => .Gt
 | .ge => .GtE
 | .isin => .In
 | .notin => .NotIn
 | .same => .Is
 | .other => .IsNot
def rCp (K : PySem.W.Frag) : Cp → R2
 | .eq => rEqD K false
 | .ne => rEqD K true
 | .lt => rI0 fun i j => .bl (decide (i < j))
 | .le => rI0 fun i j => .bl (decide (i ≤ j))
 | .gt => rI0 fun i j => .bl (decide (j < i))
 | .ge => rI0 fun i j => .bl (decide (j ≤ i))
 | .isin => fun x y H Q => (∃ i j, x = .str i ∧ y = .str j ∧ Q (.bl (!(Builtin.Str.occurrences j i 0 j.length 1).isEmpty)) H) ∨ rIn K false x y H Q
 | .notin => fun x y H Q => (∃ i j, x = .str i ∧ y = .str j ∧ Q (.bl (!(!(Builtin.Str.occurrences j i 0 j.length 1).isEmpty))) H) ∨ rIn K true x y H Q
 | .same => fun x y H Q => (y = .non ∧ Q (.bl (decide (x = .non))) H) ∨ (∃ b, y = .bl b ∧ Q (.bl (decide (x = .bl b))) H)
 | .other => fun x y H Q => (y = .non ∧ Q (.bl (!decide (x = .non))) H) ∨ (∃ b, y = .bl b ∧ Q (.bl (!decide (x = .bl b))) H)
theorem zaJ (hu : X.A.units + 60 < cLine) : ∀ c : Cp, OpR X (compareOp (cpP c)) (rCp X.K c)
 | .eq => zoC hu
 | .ne => op_neD hu
 | .lt => op_lt
 | .le => op_le
 | .gt => op_gt
 | .ge => op_ge
 | .isin => zjJ.or zjD
 | .notin => zgG.or zhb
 | .same => op_isN.or zom
 | .other => zlV.or zi7
theorem zg4 {K : PySem.W.Frag} {A : Pl} {d : D} {v : V} (f : d.flat = true) (h : Is K A H d v) : zfy v = true := by
 cases d <;> simp only [D.flat, Bool.false_eq_true] at f <;> simp only [Is] at h <;> subst h <;> rfl
theorem eq_V {K : PySem.W.Frag} {A B : Pl} {d e : D} {v w : V} (f : d.flat = true) (g : e.flat = true) (h : Is K A H d v) (h' : Is K B H e w) : eqV v w = D.eq d e := by
 cases d <;> cases e <;> simp only [D.flat, Bool.false_eq_true] at f g <;> simp only [Is] at h h' <;> subst h h' <;> rfl
theorem zfj {K : PySem.W.Frag} {A : Pl} : ∀ {ds : List D} {vs : List V}, ds.all D.flat = true → Iss K A H ds vs → vs.all zfy = true
  | [], _, _, h => by rw [show _ = [] from h]; rfl
  | d :: ds, _, f, h => by
    obtain ⟨v, r, rfl, p, q⟩ := h
    rw [List.all_cons, Bool.and_eq_true] at f
    rw [List.all_cons, zg4 f.1 p, zfj f.2 q]
    rfl
theorem in_V {K : PySem.W.Frag} {A B : Pl} {e : D} {w : V} (g : e.flat = true) (h' : Is K B H e w) : ∀ {ds : List D} {vs : List V}, ds.all D.flat = true → Iss K A H ds vs → inV w vs = ds.any fun y => D.eq y e
  | [], _, _, h => by rw [show _ = [] from h]; rfl
  | d :: ds, _, f, h => by
    obtain ⟨v, r, rfl, p, q⟩ := h
    rw [List.all_cons, Bool.and_eq_true] at f
    have := in_V g h' f.2 q
    unfold inV at this ⊢
    rw [List.any_cons, List.any_cons, this, eq_V f.1 g p h']
theorem zoH {K : PySem.W.Frag} {A B : Pl} {c : Cp} {d e : D} {v w : V} {b : Bool} {Q : VK} (h : cmpD c d e = some b) (h1 : IsW K A H d v) (h2 : IsW K B H e w) (q : Q (.bl b) H) : rCp K c v w H Q := by
  cases c
  case eq =>
    simp only [cmpD, cEq, cNe] at h
    split at h
    · rename_i hc; cases h; exact ⟨A, B, d, e, h1, h2, hc.1, hc.2, q⟩
    · cases h
  case ne =>
    simp only [cmpD, cEq, cNe] at h
    split at h
    · rename_i hc; cases h; exact ⟨A, B, d, e, h1, h2, hc.1, hc.2, q⟩
    · cases h
  case isin =>
    cases e with
    | str j =>
      cases d <;> simp only [cmpD, cOrd, cIn, cNin, zhj, zey, reduceCtorEq] at h
      simp only [IsW, Is] at h1 h2
      subst h1 h2
      cases h
      exact .inl ⟨_, _, rfl, rfl, q⟩
    | lst xs =>
      have h' : (if (d.flat && xs.all D.flat) = true then some (xs.any fun y => D.eq y d) else none) = some b := by cases d <;> exact h
      split at h'
      · rename_i hc
        rw [Bool.and_eq_true] at hc
        cases h'
        obtain ⟨a, vs, rfl, t, p⟩ := h2
        have h1' : Is K A H d v := by cases d <;> first | exact h1 | cases hc.1
        refine .inr ⟨a, vs, rfl, .inl (t), zg4 hc.1 h1', zfj hc.2 p, ?_⟩
        rw [in_V hc.1 h1' hc.2 p]
        exact q
      · cases h'
    | tup xs =>
      have h' : (if (d.flat && xs.all D.flat) = true then some (xs.any fun y => D.eq y d) else none) = some b := by cases d <;> exact h
      split at h'
      · rename_i hc
        rw [Bool.and_eq_true] at hc
        cases h'
        obtain ⟨a, vs, rfl, t, p⟩ := h2
        have h1' : Is K A H d v := by cases d <;> first | exact h1 | cases hc.1
        refine .inr ⟨a, vs, rfl, .inr t, zg4 hc.1 h1', zfj hc.2 p, ?_⟩
        rw [in_V hc.1 h1' hc.2 p]
        exact q
      · cases h'
    | _ => cases d <;> simp only [cmpD, cOrd, cIn, cNin, zhj, zey, reduceCtorEq] at h
  case notin =>
    cases e with
    | str j =>
      cases d <;> simp only [cmpD, cOrd, cIn, cNin, zhj, zey, reduceCtorEq] at h
      simp only [IsW, Is] at h1 h2
      subst h1 h2
      cases h
      exact .inl ⟨_, _, rfl, rfl, q⟩
    | lst xs =>
      have h' : (if (d.flat && xs.all D.flat) = true then some (!xs.any fun y => D.eq y d) else none) = some b := by cases d <;> exact h
      split at h'
      · rename_i hc
        rw [Bool.and_eq_true] at hc
        cases h'
        obtain ⟨a, vs, rfl, t, p⟩ := h2
        have h1' : Is K A H d v := by cases d <;> first | exact h1 | cases hc.1
        refine .inr ⟨a, vs, rfl, .inl (t), zg4 hc.1 h1', zfj hc.2 p, ?_⟩
        rw [in_V hc.1 h1' hc.2 p]
        exact q
      · cases h'
    | tup xs =>
      have h' : (if (d.flat && xs.all D.flat) = true then some (!xs.any fun y => D.eq y d) else none) = some b := by cases d <;> exact h
      split at h'
      · rename_i hc
        rw [Bool.and_eq_true] at hc
        cases h'
        obtain ⟨a, vs, rfl, t, p⟩ := h2
        have h1' : Is K A H d v := by cases d <;> first | exact h1 | cases hc.1
        refine .inr ⟨a, vs, rfl, .inr t, zg4 hc.1 h1', zfj hc.2 p, ?_⟩
        rw [in_V hc.1 h1' hc.2 p]
        exact q
      · cases h'
    | _ => cases d <;> simp only [cmpD, cOrd, cIn, cNin, zhj, zey, reduceCtorEq] at h
  case same =>
    cases d <;> cases e <;> simp only [cmpD, cOrd, cIn, cNin, zhj, zey, reduceCtorEq] at h <;> cases h <;> simp only [IsW, Is] at h1 h2
    all_goals first
      | (subst h1 h2; first | exact .inr ⟨_, rfl, by rw [zh1]; exact q⟩ | exact .inl ⟨rfl, by simpa using q⟩ | exact .inr ⟨_, rfl, by simpa using q⟩)
      | (obtain ⟨a, vs, rfl, _⟩ := h1; subst h2; first | exact .inl ⟨rfl, by simpa using q⟩ | exact .inr ⟨_, rfl, by simpa using q⟩)
  case other =>
    cases d <;> cases e <;> simp only [cmpD, cOrd, cIn, cNin, zhj, zey, reduceCtorEq] at h <;> cases h <;> simp only [IsW, Is] at h1 h2
    all_goals first
      | (subst h1 h2; first | exact .inr ⟨_, rfl, by rw [zh1]; exact q⟩ | exact .inl ⟨rfl, by simpa using q⟩ | exact .inr ⟨_, rfl, by simpa using q⟩)
      | (obtain ⟨a, vs, rfl, _⟩ := h1; subst h2; first | exact .inl ⟨rfl, by simpa using q⟩ | exact .inr ⟨_, rfl, by simpa using q⟩)
  all_goals
    cases d <;> cases e <;> simp only [cmpD, cOrd, cIn, cNin, zhj, zey, reduceCtorEq] at h
    simp only [IsW, Is] at h1 h2
    subst h1 h2
    cases h
    exact ⟨_, _, rfl, rfl, q⟩
end
end E3
namespace E3
open PySem PySem.Spec PyProof.Rows L2
inductive Mode where
 | val | bor
def XOk (mg : Str → Option Value) (H : Hp) (c : Str) (n : Int) (v : V) : Prop := ∃ a C dx, v = .ref a ∧ mg c = some (.ref C) ∧ H a = some (xo a C dx false) ∧
 match dx with
 | none => n = 0
 | some d => ∃ fs, H d = some (.xd fs) ∧ fs.lookup ("at" : Str) = some (.int n)
theorem XOk.lt {mg : Str → Option Value} {P P' : Pl} {H H' : Hp} {c : Str} {n : Int} {v : V} (l : Lt P H P' H') (h : XOk mg H c n v) : XOk mg H' c n v := by
  obtain ⟨a, C, dx, e, m, ea, q⟩ := h
  refine ⟨a, C, dx, e, m, l.keep _ _ ea (.inl (.inr (.inr (.inl ⟨_, rfl⟩)))), ?_⟩
  cases dx with
  | none => exact q
  | some d =>
    obtain ⟨fs, ed, el⟩ := q
    exact ⟨fs, l.keep _ _ ed (.inl (.inr (.inr (.inr ⟨_, rfl⟩)))), el⟩
def zlm (K : PySem.W.Frag) (mg : Str → Option Value) (P : Pl) (H : Hp) (o : Option Addr) (sv : Option V) : Slot → Prop
 | .un => True
 | .val d => ∃ v, sv = some v ∧ Is K P H d v
 | .own ds => ∃ a vs, o = some a ∧ sv = some (.ref a) ∧ H a = some (.lst vs) ∧ Iss K P H ds vs
 | .exc c n => ∃ v, sv = some v ∧ XOk mg H c n v
structure Ok (K : PySem.W.Frag) (mg : Str → Option Value) (P0 : Pl) (H0 : Hp) (P : Pl) (O : List (Option Addr)) (H : Hp) (M : Mm) (st : L2.St) (env : Env) : Prop where
 hk : Hk K mg P H M
 base : LtE P0 H0 P H
 b0 : ∀ a, P0.bd a → H0 a ≠ none
 slot : ∀ (i : Nat) s, env[i]? = some s → zlm K mg P H (O[i]?).join (st[i]?).join s
 own : ∀ a, some a ∈ O → P.bd a ∧ (∀ k, k < P.n → P.io k ≠ a) ∧ H0 a = none
 inj : ∀ (i j : Nat) a, O[i]? = some (some a) → O[j]? = some (some a) → i = j
 olen : O.length = env.length
 slen : st.length = env.length
def IsM (K : PySem.W.Frag) (P : Pl) (H : Hp) (m : Mode) (d : D) (v : V) : Prop := match m with
 | .val => Is K P H d v
 | .bor => IsB K P H d v
inductive Res where
 | v (d : D) | x (c : Str) (n : Int)
abbrev O := Option (Res × Mm)
abbrev E := Env → Mm → O
def bnd (o : O) (k : D → Mm → O) : O := match o with
 | some (.v d, M) => k d M
 | some (.x c n, M) => some (.x c n, M)
 | none => none
theorem zaN {o : O} {k : D → Mm → O} {r : Res} {M' : Mm} (h : bnd o k = some (r, M')) : (∃ d M, o = some (.v d, M) ∧ k d M = some (r, M')) ∨ ∃ c n, o = some (.x c n, M') ∧ r = .x c n := by
 unfold bnd at h
 split at h
 ·exact .inl ⟨_, _, rfl, h⟩
 ·cases h; exact .inr ⟨_, _, rfl, rfl⟩
 ·cases h
abbrev XW := Pl → Hp → Mm → Str → Int → Prop
section
variable {K : PySem.W.Frag} {mg : Str → Option Value} {P0 P P' : Pl} {H0 H H' : Hp} {M M' : Mm} {Os : List (Option Addr)} {st : L2.St} {env : Env} {d : D} {v : V} {m : Mode}
theorem Is.b (h : Hk K mg P H M) (i : Is K P H d v) : IsB K P H d v := by
  cases d with
  | lst ds =>
    obtain ⟨a, vs, e, r, q⟩ := i
    exact ⟨a, vs, e, r.imp (fun ⟨n, r⟩ => ⟨fun k hk z => n (z ▸ h.bd k hk), r⟩) id, q⟩
  | _ => exact i
theorem IsM.of (h : Hk K mg P H M) (i : Is K P H d v) : IsM K P H m d v := by
 cases m with
 | val => exact i
 | bor => exact i.b h
theorem IsM.b (h : Hk K mg P H M) (i : IsM K P H m d v) : IsB K P H d v := by
 cases m with
 | val => exact Is.b h i
 | bor => exact i
theorem LtE.nc (l : LtE P H P' H') {a : Addr} {o : HO} (e : H a = some o) (n : ∀ k, k < P.n → P.io k ≠ a) : ∀ k, k < P'.n → P'.io k ≠ a := fun k hk z => by
 rcases Nat.lt_or_ge k P.n with q | q
 ·rw [l.io k q] at z
  exact n k q z
 ·rw [← z, l.nw k q hk] at e
  cases e
theorem IsB.lt (l : LtE P H P' H') (h : Hk K mg P H M) (i : IsB K P H d v) : IsB K P' H' d v := by
  cases d with
  | lst ds =>
    obtain ⟨a, vs, e, r, q⟩ := i
    refine ⟨a, vs, e, r.imp (fun ⟨n, r⟩ => ?_) id, Iss.lt (l.lt h) q⟩
    obtain ⟨o, eo⟩ := zjt r
    refine ⟨l.nc eo n, ?_⟩
    rcases r with r | ⟨o', r⟩
    · exact .inl (l.keep _ _ r n)
    · exact .inr ⟨o', l.keep _ _ r n⟩
  | _ => exact Is.lt (l.lt h) i
theorem Ok.next (k : Ok K mg P0 H0 P Os H M st env) (l : LtE P H P' H') (h : Hk K mg P' H' M') : Ok K mg P0 H0 P' Os H' M' st env where
  hk := h
  base := k.base.trans l
  b0 := k.b0
  slot := fun i s e => by
    have q := k.slot i s e
    cases s with
    | un => exact True.intro
    | val d =>
      obtain ⟨v, e1, q⟩ := q
      exact ⟨v, e1, Is.lt (l.lt k.hk) q⟩
    | own ds =>
      obtain ⟨a, vs, e1, e2, e3, q⟩ := q
      have ho := k.own a (by
        cases hx : Os[i]? with
        | none => rw [hx] at e1; cases e1
        | some o => rw [hx] at e1; cases o with
          | none => cases e1
          | some b => cases e1; exact List.mem_of_getElem? hx)
      exact ⟨a, vs, e1, e2, l.keep _ _ e3 ho.2.1, Iss.lt (l.lt k.hk) q⟩
    | exc c n =>
      obtain ⟨v, e1, q⟩ := q
      exact ⟨v, e1, q.lt (l.lt k.hk)⟩
  own := fun a z => by
    have ho := k.own a z
    refine ⟨l.bm a ho.1, ?_, ho.2.2⟩
    obtain ⟨o, eo⟩ : ∃ o, H a = some o := by
      cases e : H a with
      | none => exact absurd e (k.hk.here a ho.1)
      | some o => exact ⟨o, rfl⟩
    exact l.nc eo ho.2.1
  inj := k.inj
  olen := k.olen
  slen := k.slen
theorem Hk.same (h : Hk K mg P H M) (s : Same H H') : Hk K mg P H' M := by
  have l : Lt P H P H' := (LtE.same s).lt h
  refine ⟨h.n, fun k c e => ?_, h.inj, h.bd, fun a z q => h.here a z (s.free q)⟩
  have := h.cell k c e
  cases c with
  | lst ds =>
    obtain ⟨vs, e1, q⟩ := this
    exact ⟨vs, s _ _ e1, Iss.lt l q⟩
  | obj c fs =>
    obtain ⟨C, dx, gs, e1, e2, e3, q⟩ := this
    exact ⟨C, dx, gs, e1, s _ _ e2, e3, Iss.lt l q⟩
  | dct kvs =>
    obtain ⟨vs, e1, e2, q⟩ := this
    exact ⟨vs, s _ _ e1, e2, Iss.lt l q⟩
end
def RQ (K : PySem.W.Frag) (mg : Str → Option Value) (Wx : XW) (m : Mode) (P0 : Pl) (H0 : Hp) (P : Pl) (H : Hp) (M' : Mm) (Q : VK) : Res → Prop
 | .v d => ∀ P' v H', LtE P H P' H' → Hk K mg P' H' M' → IsM K P' H' m d v → Q v H'
 | .x c n => Wx P0 H0 M' c n
theorem zaR {X : Cx} {e : Expr} {t t' : TE} (h : PE X e t) (i : ∀ st H Q, t' st H Q → t st H Q) : PE X e t' := fun pins s σ H Q I z => h pins s σ H Q I (i _ _ _ z)
def tE (K : PySem.W.Frag) (mg : Str → Option Value) (Wx : XW) (m : Mode) (f : E) : TE := fun st H Q => ∃ P0 H0 P Os env M r M', Ok K mg P0 H0 P Os H M st env ∧ f env M = some (r, M') ∧ RQ K mg Wx m P0 H0 P H M' Q r
structure Fit (X : Cx) (Wx : XW) : Prop where
 calm : X.calm = true
 room : X.A.units + 60 < cLine
section
variable {X : Cx} {Wx : XW} {m : Mode}
def SE (X : Cx) (Wx : XW) (m : Mode) (e : Expr) (f : E) : Prop := PE X e (tE X.K X.mg Wx m f)
theorem SE.bor {e : Expr} {f : E} (h : SE X Wx .val e f) : SE X Wx m e f := zaR h fun st H Q ⟨P0, H0, P, Os, env, M, r, M', k, e, q⟩ => ⟨P0, H0, P, Os, env, M, r, M', k, e, by
 cases r with
 | v d => exact fun P' v H' l h i => q P' v H' l h (IsM.of h i)
 | x c n => exact q⟩
theorem zaG {f : E} {K : PySem.W.Frag} {mg : Str → Option Value} {P0 P : Pl} {H0 H : Hp} {Os : List (Option Addr)} {M M' : Mm} {st : L2.St} {env : Env} {r : Res} {Q : VK} (k : Ok K mg P0 H0 P Os H M st env) (e : f env M = some (r, M'))
  (q : RQ K mg Wx m P0 H0 P H M' Q r) : tE K mg Wx m f st H Q := ⟨P0, H0, P, Os, env, M, r, M', k, e, q⟩
def sVar (i : Nat) : E := fun env M => match env[i]? with
 | some (.val d) => some (.v d, M)
 | _ => none
def zgt (i : Nat) : E := fun env M => match env[i]? with
 | some (.val d) => some (.v d, M)
 | some (.own ds) => some (.v (.lst ds), M)
 | _ => none
def sCon (d : D) : E := fun _ M => some (.v d, M)
theorem zbN {α : Type} {l : List (Option α)} {i : Nat} {a : α} (h : (l[i]?).join = some a) : l[i]? = some (some a) := by
  cases e : l[i]? with
  | none => rw [e] at h; cases h
  | some o => rw [e] at h; cases o with
    | none => cases h
    | some b => cases h; rfl
theorem zlr {i : Nat} {x : Str} {pos : Pos} (hN : X.N[i]? = some x) (hv : Vis X.env.scope x) (hd : (x == ("__debug__" : Str)) = false := by decide +kernel) (hcd : (x == ("__classdict__" : Str)) = false := by decide +kernel) : SE X Wx .val (.Name x pos) (sVar i) := by
 refine zaR (zh8 hN hv hd hcd) ?_
 rintro st H Q ⟨P0, H0, P, Os, env, M, r, M', k, e, q⟩
 unfold sVar at e
 split at e
 ·rename_i d hs
  cases e
  obtain ⟨v, e1, i1⟩ := k.slot i _ hs
  exact ⟨v, zbN e1, q P v H (LtE.refl P H) k.hk i1⟩
 ·cases e
theorem zmY {i : Nat} {x : Str} {pos : Pos} (hN : X.N[i]? = some x) (hv : Vis X.env.scope x) (hd : (x == ("__debug__" : Str)) = false := by decide +kernel) (hcd : (x == ("__classdict__" : Str)) = false := by decide +kernel) : SE X Wx .bor (.Name x pos) (zgt i) := by
 refine zaR (zh8 hN hv hd hcd) ?_
 rintro st H Q ⟨P0, H0, P, Os, env, M, r, M', k, e, q⟩
 unfold zgt at e
 split at e
 ·rename_i d hs
  cases e
  obtain ⟨v, e1, i1⟩ := k.slot i _ hs
  exact ⟨v, zbN e1, q P v H (LtE.refl P H) k.hk (IsM.of k.hk i1)⟩
 ·rename_i ds hs
  cases e
  obtain ⟨a, vs, e1, e2, e3, i1⟩ := k.slot i _ hs
  exact ⟨.ref a, zbN e2, q P _ H (LtE.refl P H) k.hk ⟨a, vs, rfl, .inl ⟨(k.own a (List.mem_of_getElem? (zbN e1))).2.1, .inl e3⟩, i1⟩⟩
 ·cases e
theorem zhR {e : Expr} {v : V} {d : D} (h : PE X e (tC v)) (hd : ∀ P H, Is X.K P H d v) : SE X Wx .val e (sCon d) := by
 refine zaR h ?_
 rintro st H Q ⟨P0, H0, P, Os, env, M, r, M', k, e, q⟩
 cases e
 exact q P v H (LtE.refl P H) k.hk (hd P H)
def vw (M : Mm) (d : D) : D := match d with
  | .ref k => (match M[k]? with
    | some (.lst ds) => .lst ds
    | _ => .ref k)
  | d => d
theorem IsB.vw {K : PySem.W.Frag} {mg : Str → Option Value} {P : Pl} {H : Hp} {M : Mm} {d : D} {v : V} (h : Hk K mg P H M) (i : IsB K P H d v) : IsW K P H (vw M d) v := by
  cases d with
  | ref k =>
    unfold E3.vw
    dsimp only
    split
    · rename_i ds e
      obtain ⟨i1, i2⟩ : k < P.n ∧ v = .ref (P.io k) := i
      obtain ⟨vs, e1, q⟩ := h.cell k _ e
      exact ⟨_, vs, i2, .inl (.inl e1), q⟩
    · exact i
  | lst ds => exact i.w
  | _ => exact i
def s1 (o : D → Option D) (f : E) : E := fun env M => bnd (f env M) fun d M1 => (o (vw M1 d)).map fun z => (.v z, M1)
def s2 (o : D → D → Option D) (f g : E) : E := fun env M => bnd (f env M) fun d M1 => bnd (g env M1) fun e M2 => (o (vw M2 d) (vw M2 e)).map fun z => (.v z, M2)
def zem (K : PySem.W.Frag) (r : R2) (o : D → D → Option D) : Prop := ∀ (P : Pl) (H : Hp) (d e z : D) (v w : V) (Q : VK), o d e = some z → IsW K P H d v → IsW K P H e w → (∀ p, H p = none → ¬ P.bd p) → (∀ u H', Same H H' → Is K P H' z u → Q u H') → r v w H Q
def zmx (K : PySem.W.Frag) (r : V → Hp → VK → Prop) (o : D → Option D) : Prop := ∀ (P : Pl) (H : Hp) (d z : D) (v : V) (Q : VK), o d = some z → IsW K P H d v → (∀ p, H p = none → ¬ P.bd p) → (∀ u H', Same H H' → Is K P H' z u → Q u H') → r v H Q
theorem Hk.new {K : PySem.W.Frag} {mg : Str → Option Value} {P : Pl} {H : Hp} {M : Mm} (h : Hk K mg P H M) : ∀ p, H p = none → ¬ P.bd p := fun p hp z => h.here p z hp
theorem zkn {f g : E} {o : D → D → Option D} {r : R2} {st : L2.St} {H : Hp} {Q : VK} (po : zem X.K r o) (h : tE X.K X.mg Wx m (s2 o f g) st H Q) : tOp r (tE X.K X.mg Wx .bor f) (tE X.K X.mg Wx .bor g) st H Q := by
 obtain ⟨P0, H0, P, Os, env, M, rr, M', k, e, q⟩ := h
 unfold s2 at e
 rcases zaN e with ⟨d, M1, e1, e⟩ | ⟨c, n, e1, rfl⟩
 ·refine zaG k e1 fun P1 v1 H1 l1 h1 i1 => ?_
  have k1 := k.next l1 h1
  rcases zaN e with ⟨d2, M2, e2, e⟩ | ⟨c, n, e2, rfl⟩
  ·refine zaG k1 e2 fun P2 v2 H2 l2 h2 i2 => ?_
   rw [Option.map_eq_some_iff] at e
   obtain ⟨z, ez, e⟩ := e
   cases e
   exact po P2 H2 _ _ z v1 v2 Q ez (IsB.vw h2 (IsB.lt l2 h1 i1)) (IsB.vw h2 i2) h2.new fun u H' s i => q P2 u H' (l1.trans (l2.trans (LtE.same s))) (h2.same s) (IsM.of (h2.same s) i)
  ·exact zaG k1 e2 q
 ·exact zaG k e1 q
theorem t1_ok {f : E} {o : D → Option D} {r : V → Hp → VK → Prop} {st : L2.St} {H : Hp} {Q : VK} (po : zmx X.K r o) (h : tE X.K X.mg Wx m (s1 o f) st H Q) : tUn r (tE X.K X.mg Wx .bor f) st H Q := by
 obtain ⟨P0, H0, P, Os, env, M, rr, M', k, e, q⟩ := h
 unfold s1 at e
 rcases zaN e with ⟨d, M1, e1, e⟩ | ⟨c, n, e1, rfl⟩
 ·refine zaG k e1 fun P1 v1 H1 l1 h1 i1 => ?_
  rw [Option.map_eq_some_iff] at e
  obtain ⟨z, ez, e⟩ := e
  cases e
  exact po P1 H1 _ z v1 Q ez (IsB.vw h1 i1) h1.new fun u H' s i => q P1 u H' (l1.trans (LtE.same s)) (h1.same s) (IsM.of (h1.same s) i)
 ·exact zaG k e1 q
theorem zam {a b : Expr} {op : Operator} {pos : Pos} {f g : E} {o : D → D → Option D} {r : R2} (ho : OpR X (binaryOp op) r) (po : zem X.K r o) (ha : SE X Wx .bor a f) (hb : SE X Wx .bor b g) : SE X Wx m (.BinOp a op b pos) (s2 o f g) :=
 zaR (zoB ho ha hb) fun _ _ _ h => zkn po h
theorem zc5 {a b : Expr} {op : CmpOp} {pos : Pos} {f g : E} {o : D → D → Option D} {r : R2} (ho : OpR X (compareOp op) r) (po : zem X.K r o) (ha : SE X Wx .bor a f) (hb : SE X Wx .bor b g) (hm : behindInMarks op b = false := by rfl) : SE X Wx m (.Compare a [op] [b] pos) (s2 o f g) :=
 zaR (zlP ho ha hb hm) fun _ _ _ h => zkn po h
theorem zb2 {a b : Expr} {pos : Pos} {f g : E} {o : D → D → Option D} {r : R2} (ho : IxR X r) (po : zem X.K r o) (ha : SE X Wx .bor a f) (hb : SE X Wx .bor b g) (hs : ziZ b := by exact fun _ _ => rfl) : SE X Wx m (.Subscript a b pos) (s2 o f g) :=
 zaR (pe_ix ho ha hb hs) fun _ _ _ h => zkn po h
def TQ (K : PySem.W.Frag) (mg : Str → Option Value) (Wx : XW) (P0 : Pl) (H0 : Hp) (P : Pl) (H : Hp) (M' : Mm) (Q : Bool → Hp → Prop) : Res → Prop
 | .v d => ∃ b, d = .bl b ∧ ∀ P' H', LtE P H P' H' → Hk K mg P' H' M' → Q b H'
 | .x c n => Wx P0 H0 M' c n
def tTt (K : PySem.W.Frag) (mg : Str → Option Value) (Wx : XW) (f : E) : TT := fun st H Q => ∃ P0 H0 P Os env M r M', Ok K mg P0 H0 P Os H M st env ∧ f env M = some (r, M') ∧ TQ K mg Wx P0 H0 P H M' Q r
def ST (X : Cx) (Wx : XW) (e : Expr) (f : E) : Prop := PT X e (tTt X.K X.mg Wx f)
theorem zhV {e : Expr} {t t' : TT} (h : PT X e t) (i : ∀ st H Q, t' st H Q → t st H Q) : PT X e t' := fun pins s σ H Q I z => h pins s σ H Q I (i _ _ _ z)
theorem zb0 {f : E} {K : PySem.W.Frag} {mg : Str → Option Value} {P0 P : Pl} {H0 H : Hp} {Os : List (Option Addr)} {M M' : Mm} {st : L2.St} {env : Env} {r : Res} {Q : Bool → Hp → Prop} (k : Ok K mg P0 H0 P Os H M st env) (e : f env M = some (r, M'))
  (q : TQ K mg Wx P0 H0 P H M' Q r) : tTt K mg Wx f st H Q := ⟨P0, H0, P, Os, env, M, r, M', k, e, q⟩
theorem zoa {f : E} {st : L2.St} {H : Hp} {Q : Bool → Hp → Prop} (h : tTt X.K X.mg Wx f st H Q) : tTest (tE X.K X.mg Wx .val f) st H Q := by
  obtain ⟨P0, H0, P, Os, env, M, r, M', k, e, q⟩ := h
  refine zaG k e ?_
  cases r with
  | v d =>
    obtain ⟨b, rfl, q⟩ := q
    exact fun P' v H' l h i => ⟨b, i, q P' H' l h⟩
  | x c n => exact q
theorem zat {a b : Expr} {op : CmpOp} {pos : Pos} {f g : E} {o : D → D → Option D} {r : R2} (ho : OpR X (compareOp op) r) (po : zem X.K r o) (ha : SE X Wx .bor a f) (hb : SE X Wx .bor b g) (hm : behindInMarks op b = false := by rfl) : ST X Wx (.Compare a [op] [b] pos) (s2 o f g) :=
 zhV (zl2 ho ha hb hm) fun _ _ _ h => zkn po (zoa h)
def truD : D → Option Bool
 | .non => some false
 | .bl b => some b
 | .int i => some (i != 0)
 | .str s => if s.length ≤ sizeLine then some ((s.length : Int) != 0) else none
 | .lst ds => some (!ds.isEmpty)
 | .tup ds => some (!ds.isEmpty)
 | .ref _ => none
def sTru (f : E) : E := s1 (fun d => (truD d).map .bl) f
def sNot (f : E) : E := fun env M => bnd (f env M) fun d M1 => match d with
 | .bl b => some (.v (.bl (!b)), M1)
 | _ => none
def sAnd (f g : E) : E := fun env M => bnd (f env M) fun d M1 => match d with
 | .bl b => if b = true then g env M1 else some (.v (.bl false), M1)
 | _ => none
def sOr (f g : E) : E := fun env M => bnd (f env M) fun d M1 => match d with
 | .bl b => if b = true then some (.v (.bl true), M1) else g env M1
 | _ => none
def sIte (c f g : E) : E := fun env M => bnd (c env M) fun d M1 => match d with
 | .bl b => if b = true then f env M1 else g env M1
 | _ => none
def SW (X : Cx) (Wx : XW) (e : Expr) (f : E) : Prop := PW X e (tTt X.K X.mg Wx f)
theorem zk4 {e : Expr} {t t' : TT} (h : PW X e t) (i : ∀ st H Q, t' st H Q → t st H Q) : PW X e t' := fun wh pins s σ H Q I z => h wh pins s σ H Q I (i _ _ _ z)
theorem zex {a : Expr} {pos : Pos} {f : E} (ha : ST X Wx a f) : ST X Wx (.UnaryOp .Not a pos) (sNot f) := by
 refine zhV (zoe ha) ?_
 rintro st H Q ⟨P0, H0, P, Os, env, M, r, M', k, e, q⟩
 unfold sNot at e
 rcases zaN e with ⟨d, M1, e1, e⟩ | ⟨c, n, e1, rfl⟩
 ·cases d <;> simp only [reduceCtorEq] at e
  cases e
  obtain ⟨b, e2, q⟩ := q
  cases e2
  exact zb0 k e1 ⟨_, rfl, q⟩
 ·exact zb0 k e1 q
theorem zei {a : Expr} {pos : Pos} {f : E} (ha : ST X Wx a f) : SW X Wx (.BoolOp .And [a] pos) f := zmc ha
theorem zfW {a : Expr} {pos : Pos} {f : E} (ha : ST X Wx a f) : SW X Wx (.BoolOp .Or [a] pos) f := pw_or1 ha
theorem zes {a b : Expr} {rest : List Expr} {pos : Pos} {f g : E} (ha : ST X Wx a f) (hb : SW X Wx (.BoolOp .And (b :: rest) pos) g) : SW X Wx (.BoolOp .And (a :: b :: rest) pos) (sAnd f g) := by
  refine zk4 (pw_and ha hb) ?_
  rintro st H Q ⟨P0, H0, P, Os, env, M, r, M', k, e, q⟩
  unfold sAnd at e
  rcases zaN e with ⟨d, M1, e1, e⟩ | ⟨c, n, e1, rfl⟩
  · cases d <;> simp only [reduceCtorEq] at e
    rename_i b
    refine zb0 k e1 ⟨b, rfl, fun P1 H1 l1 h1 => ?_⟩
    cases b with
    | true =>
      rw [if_pos rfl] at e ⊢
      refine zb0 (k.next l1 h1) e ?_
      cases r with
      | v d => obtain ⟨b, e2, q⟩ := q; exact ⟨b, e2, fun P' H' l h => q P' H' (l1.trans l) h⟩
      | x c n => exact q
    | false =>
      rw [if_neg (by decide)] at e ⊢
      cases e
      obtain ⟨b, e2, q⟩ := q
      cases e2
      exact q P1 H1 l1 h1
  · exact zb0 k e1 q
theorem zhq {a b : Expr} {rest : List Expr} {pos : Pos} {f g : E} (ha : ST X Wx a f) (hb : SW X Wx (.BoolOp .Or (b :: rest) pos) g) : SW X Wx (.BoolOp .Or (a :: b :: rest) pos) (sOr f g) := by
  refine zk4 (pw_or ha hb) ?_
  rintro st H Q ⟨P0, H0, P, Os, env, M, r, M', k, e, q⟩
  unfold sOr at e
  rcases zaN e with ⟨d, M1, e1, e⟩ | ⟨c, n, e1, rfl⟩
  · cases d <;> simp only [reduceCtorEq] at e
    rename_i b
    refine zb0 k e1 ⟨b, rfl, fun P1 H1 l1 h1 => ?_⟩
    cases b with
    | false =>
      rw [if_neg (by decide)] at e ⊢
      refine zb0 (k.next l1 h1) e ?_
      cases r with
      | v d => obtain ⟨b, e2, q⟩ := q; exact ⟨b, e2, fun P' H' l h => q P' H' (l1.trans l) h⟩
      | x c n => exact q
    | true =>
      rw [if_pos rfl] at e ⊢
      cases e
      obtain ⟨b, e2, q⟩ := q
      cases e2
      exact q P1 H1 l1 h1
  · exact zb0 k e1 q
theorem SW.st {e : Expr} {f : E} (h : SW X Wx e f) : ST X Wx e f := h.pt
end
end E3
namespace E3
open PySem PySem.Spec PyProof.Rows L2
section
variable {X : Cx} {Wx : XW} {m : Mode}
theorem RQ.imp {K : PySem.W.Frag} {mg : Str → Option Value} {P0 P P1 : Pl} {H0 H H1 : Hp} {M' : Mm} {Q : VK} {r : Res} (l : LtE P H P1 H1) (q : RQ K mg Wx m P0 H0 P H M' Q r) : RQ K mg Wx m P0 H0 P1 H1 M' Q r := by
 cases r with
 | v d => exact fun P' v H' l' h i => q P' v H' (l.trans l') h i
 | x c n => exact q
theorem zdZ {a : Expr} {op : BoolOp} {pos : Pos} {f : E} (ha : SE X Wx m a f) : SE X Wx m (.BoolOp op [a] pos) f := pe_one ha
theorem zg1 {a b : Expr} {rest : List Expr} {pos : Pos} {f g : E} (ha : SE X Wx .val a f) (hb : SE X Wx m (.BoolOp .And (b :: rest) pos) g) : SE X Wx m (.BoolOp .And (a :: b :: rest) pos) (sAnd f g) := by
  refine zaR (pe_and ha hb) ?_
  rintro st H Q ⟨P0, H0, P, Os, env, M, r, M', k, e, q⟩
  unfold sAnd at e
  rcases zaN e with ⟨d, M1, e1, e⟩ | ⟨c, n, e1, rfl⟩
  · cases d <;> simp only [reduceCtorEq] at e
    rename_i b
    refine zaG k e1 fun P1 v1 H1 l1 h1 i1 => ⟨b, i1, ?_⟩
    cases b with
    | true =>
      rw [if_pos rfl] at e ⊢
      exact zaG (k.next l1 h1) e (RQ.imp l1 q)
    | false =>
      rw [if_neg (by decide)] at e ⊢
      cases e
      exact q P1 _ H1 l1 h1 (IsM.of h1 (show Is _ _ _ (.bl false) _ from rfl))
  · exact zaG k e1 q
theorem zkl {a b : Expr} {rest : List Expr} {pos : Pos} {f g : E} (ha : SE X Wx .val a f) (hb : SE X Wx m (.BoolOp .Or (b :: rest) pos) g) : SE X Wx m (.BoolOp .Or (a :: b :: rest) pos) (sOr f g) := by
  refine zaR (pe_or ha hb) ?_
  rintro st H Q ⟨P0, H0, P, Os, env, M, r, M', k, e, q⟩
  unfold sOr at e
  rcases zaN e with ⟨d, M1, e1, e⟩ | ⟨c, n, e1, rfl⟩
  · cases d <;> simp only [reduceCtorEq] at e
    rename_i b
    refine zaG k e1 fun P1 v1 H1 l1 h1 i1 => ⟨b, i1, ?_⟩
    cases b with
    | false =>
      rw [if_neg (by decide)] at e ⊢
      exact zaG (k.next l1 h1) e (RQ.imp l1 q)
    | true =>
      rw [if_pos rfl] at e ⊢
      cases e
      exact q P1 _ H1 l1 h1 (IsM.of h1 (show Is _ _ _ (.bl true) _ from rfl))
  · exact zaG k e1 q
theorem se_ite {c a b : Expr} {pos : Pos} {t f g : E} (hc : ST X Wx c t) (ha : SE X Wx m a f) (hb : SE X Wx m b g) : SE X Wx m (.IfExp c a b pos) (sIte t f g) := by
  refine zaR (zky hc ha hb) ?_
  rintro st H Q ⟨P0, H0, P, Os, env, M, r, M', k, e, q⟩
  unfold sIte at e
  rcases zaN e with ⟨d, M1, e1, e⟩ | ⟨c, n, e1, rfl⟩
  · cases d <;> simp only [reduceCtorEq] at e
    rename_i b
    refine zb0 k e1 ⟨b, rfl, fun P1 H1 l1 h1 => ?_⟩
    cases b with
    | true =>
      rw [if_pos rfl] at e ⊢
      exact zaG (k.next l1 h1) e (RQ.imp l1 q)
    | false =>
      rw [if_neg (by decide)] at e ⊢
      exact zaG (k.next l1 h1) e (RQ.imp l1 q)
  · exact zb0 k e1 q
theorem znw {K : PySem.W.Frag} {P : Pl} {H : Hp} {d : D} {v : V} {b : Bool} (h : truD d = some b) (i : IsW K P H d v) : TruV K v H b := by
  cases d with
  | non => have e : v = .non := i; subst e; cases h; rfl
  | bl c => have e : v = .bl c := i; subst e; cases h; rfl
  | int c => have e : v = .int c := i; subst e; cases h; rfl
  | str c =>
    have e : v = .str c := i
    subst e
    simp only [truD] at h
    split at h
    · rename_i hl
      cases h
      exact ⟨hl, rfl⟩
    · cases h
  | lst ds =>
    obtain ⟨a, vs, rfl, r, q⟩ := i
    cases h
    refine .inl ⟨vs, r, ?_⟩
    cases ds with
    | nil => rw [show vs = [] from q]; rfl
    | cons d ds => obtain ⟨w, r', rfl, _⟩ := q; rfl
  | tup ds =>
    obtain ⟨a, vs, rfl, r, q⟩ := i
    cases h
    refine .inr (.inl ⟨vs, r, ?_⟩)
    cases ds with
    | nil => rw [show vs = [] from q]; rfl
    | cons d ds => obtain ⟨w, r', rfl, _⟩ := q; rfl
  | ref k => cases h
theorem zc9 {a : Expr} {f : E} (ha : SE X Wx .bor a f) (he : ∀ whole, isTrue a X.env whole = (do let v ← whole; standAt a.pos; holding [v] (truthy v)) := by exact fun _ => rfl) : ST X Wx a (sTru f) := by
 refine zhV (zkS ha he) ?_
 rintro st H Q ⟨P0, H0, P, Os, env, M, r, M', k, e, q⟩
 unfold sTru s1 at e
 rcases zaN e with ⟨d, M1, e1, e⟩ | ⟨c, n, e1, rfl⟩
 ·rw [Option.map_eq_some_iff] at e
  obtain ⟨z, ez, e⟩ := e
  cases e
  rw [Option.map_eq_some_iff] at ez
  obtain ⟨b, eb, rfl⟩ := ez
  obtain ⟨b', e2, q⟩ := q
  cases e2
  exact zaG k e1 fun P1 v1 H1 l1 h1 i1 => ⟨b, znw eb (IsB.vw h1 i1), q P1 H1 l1 h1⟩
 ·exact zaG k e1 q
theorem zml {X : Cx} {a : Expr} {ta : TE} {pos : Pos} (ha : PE X a ta) : PE X (.UnaryOp .Not a pos) (fun σ H Q => ta σ H fun x H1 => ∃ k, TruV X.K x H1 k ∧ Q (.bl (!k)) H1) := by
 intro pins s σ H Q I h
 refine UnaryOp_ (thn (ha pins s σ H _ I h) fun v s1 ⟨x, H1, I1, r1, k, tv, q⟩ => ?_)
 exact not_of (thn (zk9 pins s1 σ H1 x v (fun b H' => b = k ∧ H' = H1) I1 r1 ⟨k, tv, rfl, rfl⟩) fun b s2 ⟨H2, I2, e1, e2⟩ => by
  subst e1 e2
  exact ⟨.bl (!b), H2, I2, rfl, q⟩)
def zis (f : E) : E := s1 (fun d => (truD d).map fun b => .bl (!b)) f
theorem zjO {a : Expr} {pos : Pos} {f : E} (ha : SE X Wx .bor a f) : SE X Wx m (.UnaryOp .Not a pos) (zis f) := by
 refine zaR (zml ha) ?_
 rintro st H Q ⟨P0, H0, P, Os, env, M, r, M', k, e, q⟩
 unfold zis s1 at e
 rcases zaN e with ⟨d, M1, e1, e⟩ | ⟨c, n, e1, rfl⟩
 ·rw [Option.map_eq_some_iff] at e
  obtain ⟨z, ez, e⟩ := e
  cases e
  rw [Option.map_eq_some_iff] at ez
  obtain ⟨b, eb, rfl⟩ := ez
  exact zaG k e1 fun P1 v1 H1 l1 h1 i1 => ⟨b, znw eb (IsB.vw h1 i1), q P1 _ H1 l1 h1 (IsM.of h1 (show Is _ _ _ (.bl _) _ from rfl))⟩
 ·exact zaG k e1 q
inductive ResA where
 | v (ds : List D) | x (c : Str) (n : Int)
abbrev EA := Env → Mm → Option (ResA × Mm)
def sNil : EA := fun _ M => some (.v [], M)
def zag (f : E) (fs : EA) : EA := fun env M => match f env M with
  | some (.v d, M1) => (match fs env M1 with
    | some (.v ds, M2) => some (.v (d :: ds), M2)
    | some (.x c n, M2) => some (.x c n, M2)
    | none => none)
  | some (.x c n, M1) => some (.x c n, M1)
  | none => none
def bndA (o : Option (ResA × Mm)) (k : List D → Mm → O) : O := match o with
 | some (.v ds, M) => k ds M
 | some (.x c n, M) => some (.x c n, M)
 | none => none
theorem zcz {o : Option (ResA × Mm)} {k : List D → Mm → O} {r : Res} {M' : Mm} (h : bndA o k = some (r, M')) : (∃ ds M, o = some (.v ds, M) ∧ k ds M = some (r, M')) ∨ ∃ c n, o = some (.x c n, M') ∧ r = .x c n := by
 unfold bndA at h
 split at h
 ·exact .inl ⟨_, _, rfl, h⟩
 ·cases h; exact .inr ⟨_, _, rfl, rfl⟩
 ·cases h
def AllM (K : PySem.W.Frag) (P : Pl) (H : Hp) (m : Mode) : List D → List V → Prop
 | [], vs => vs = []
 | d :: ds, vs => ∃ v ws, vs = v :: ws ∧ IsM K P H m d v ∧ AllM K P H m ds ws
theorem AllM.iss {K : PySem.W.Frag} {P : Pl} {H : Hp} : ∀ {ds : List D} {vs : List V}, AllM K P H .val ds vs → Iss K P H ds vs
  | [], _, h => h
  | _ :: _, _, h => by
    obtain ⟨v, ws, e, p, q⟩ := h
    exact ⟨v, ws, e, p, AllM.iss q⟩
def AQ (K : PySem.W.Frag) (mg : Str → Option Value) (Wx : XW) (m : Mode) (P0 : Pl) (H0 : Hp) (P : Pl) (H : Hp) (M' : Mm) (Q : List V → Hp → Prop) : ResA → Prop
 | .v ds => ∀ P' vs H', LtE P H P' H' → Hk K mg P' H' M' → AllM K P' H' m ds vs → Q vs H'
 | .x c n => Wx P0 H0 M' c n
def tAs (K : PySem.W.Frag) (mg : Str → Option Value) (Wx : XW) (m : Mode) (fs : EA) : TA := fun st H Q => ∃ P0 H0 P Os env M r M', Ok K mg P0 H0 P Os H M st env ∧ fs env M = some (r, M') ∧ AQ K mg Wx m P0 H0 P H M' Q r
def SA (X : Cx) (Wx : XW) (m : Mode) (es : List Expr) (fs : EA) : Prop := PA X es (tAs X.K X.mg Wx m fs)
theorem zlo {es : List Expr} {t t' : TA} (h : PA X es t) (w : ∀ σ H Q, t' σ H Q → t σ H Q) : PA X es t' := fun pos pins s σ H Q I hw => h pos pins s σ H Q I (w σ H Q hw)
theorem zaj : SA X Wx m [] sNil := by
 refine zlo zd2 ?_
 rintro st H Q ⟨P0, H0, P, Os, env, M, r, M', k, e, q⟩
 cases e
 exact q P [] H (LtE.refl P H) k.hk rfl
theorem zac {e : Expr} {es : List Expr} {f : E} {fs : EA} (ha : SE X Wx m e f) (hr : SA X Wx m es fs) (hs : starEach (e :: es) X.env = (false, eval e X.env) :: starEach es X.env := by rfl) : SA X Wx m (e :: es) (zag f fs) := by
 refine zlo (zbR ha hr hs) ?_
 rintro st H Q ⟨P0, H0, P, Os, env, M, r, M', k, e, q⟩
 unfold zag at e
 split at e
 ·rename_i d M1 e1
  refine zaG k e1 fun P1 v1 H1 l1 h1 i1 => ?_
  split at e
  ·rename_i ds M2 e2
   cases e
   refine ⟨P0, H0, P1, Os, env, M1, _, _, k.next l1 h1, e2, fun P2 vs H2 l2 h2 i2 => q P2 _ H2 (l1.trans l2) h2 ⟨v1, vs, rfl, ?_, i2⟩⟩
   cases m with
   | val => exact Is.lt (l2.lt h1) i1
   | bor => exact IsB.lt l2 h1 i1
  ·rename_i c n M2 e2
   cases e
   exact ⟨P0, H0, P1, Os, env, M1, _, _, k.next l1 h1, e2, q⟩
  ·cases e
 ·rename_i c n M1 e1
  cases e
  exact zaG k e1 q
 ·cases e
def sN (o : List D → Option D) (fs : EA) : E := fun env M => bndA (fs env M) fun ds M1 => (o (ds.map (vw M1))).map fun z => (.v z, M1)
def AllW (K : PySem.W.Frag) (P : Pl) (H : Hp) : List D → List V → Prop
 | [], vs => vs = []
 | d :: ds, vs => ∃ v ws, vs = v :: ws ∧ IsW K P H d v ∧ AllW K P H ds ws
theorem AllM.w {K : PySem.W.Frag} {mg : Str → Option Value} {P : Pl} {H : Hp} {M : Mm} (h : Hk K mg P H M) : ∀ {ds : List D} {vs : List V}, AllM K P H m ds vs → AllW K P H (ds.map (vw M)) vs
  | [], _, q => q
  | d :: ds, _, q => by
    obtain ⟨v, ws, e, p, q⟩ := q
    exact ⟨v, ws, e, IsB.vw h (p.b h), AllM.w h q⟩
def zgJ (K : PySem.W.Frag) (r : List V → Hp → VK → Prop) (o : List D → Option D) : Prop := ∀ (P : Pl) (H : Hp) (ds : List D) (z : D) (vs : List V) (Q : VK), o ds = some z → AllW K P H ds vs → (∀ p, H p = none → ¬ P.bd p) → (∀ u H', Same H H' → Is K P H' z u → Q u H') → r vs H Q
theorem zc2 {ex e : Expr} {es : List Expr} {r : List V → Hp → VK → Prop} {o : List D → Option D} {fs : EA} (h : ∀ t, PA X (e :: es) t → PE X ex (tCB r t)) (po : zgJ X.K r o) (ha : SA X Wx .bor (e :: es) fs) : SE X Wx m ex (sN o fs) := by
 refine zaR (h _ ha) ?_
 rintro st H Q ⟨P0, H0, P, Os, env, M, r, M', k, e, q⟩
 unfold sN at e
 rcases zcz e with ⟨ds, M1, e1, e⟩ | ⟨c, n, e1, rfl⟩
 ·rw [Option.map_eq_some_iff] at e
  obtain ⟨z, ez, e⟩ := e
  cases e
  exact ⟨P0, H0, P, Os, env, M, _, _, k, e1, fun P1 vs H1 l1 h1 i1 => po P1 H1 _ z vs Q ez (AllM.w h1 i1) h1.new fun u H' s i => q P1 u H' (l1.trans (LtE.same s)) (h1.same s) (IsM.of (h1.same s) i)⟩
 ·exact ⟨P0, H0, P, Os, env, M, _, _, k, e1, q⟩
def sTup (fs : EA) : E := fun env M => bndA (fs env M) fun ds M1 => if ds.length ≤ sizeLine then some (.v (.tup ds), M1) else none
def NQ (K : PySem.W.Frag) (mg : Str → Option Value) (Wx : XW) (P0 : Pl) (H0 : Hp) (P : Pl) (H : Hp) (M' : Mm) (Q : VK) : Res → Prop
 | .v d => ∃ ds, d = .lst ds ∧ ∀ P' a vs H', LtE P H P' H' → Hk K mg P' H' M' → H a = none → P'.bd a → (∀ k, k < P'.n → P'.io k ≠ a) → H' a = some (.lst vs) → Iss K P' H' ds vs → Q (.ref a) H'
 | .x c n => Wx P0 H0 M' c n
def tN (K : PySem.W.Frag) (mg : Str → Option Value) (Wx : XW) (f : E) : TE := fun st H Q => ∃ P0 H0 P Os env M r M', Ok K mg P0 H0 P Os H M st env ∧ f env M = some (r, M') ∧ NQ K mg Wx P0 H0 P H M' Q r
def SN (X : Cx) (Wx : XW) (e : Expr) (f : E) : Prop := PE X e (tN X.K X.mg Wx f)
def Pl.bar (P : Pl) (p : Addr) : Pl := { P with bd := fun a => P.bd a ∨ a = p }
theorem zgo {K : PySem.W.Frag} {mg : Str → Option Value} {P : Pl} {H : Hp} {M : Mm} {p : Addr} {vs : List V} (h : Hk K mg P H M) (hp : H p = none) : LtE P H (P.bar p) (upd H p (.lst vs)) ∧ Hk K mg (P.bar p) (upd H p (.lst vs)) M ∧ ∀ k, k < P.n → P.io k ≠ p := by
  have s := zdn (o := .lst vs) hp
  have nc : ∀ k, k < P.n → P.io k ≠ p := fun k hk z => h.here _ (h.bd k hk) (z ▸ hp)
  have l : LtE P H (P.bar p) (upd H p (.lst vs)) := ⟨Nat.le_refl _, fun _ _ => rfl, fun a z => Or.imp (fun q => q) (fun (q : a = p) => by rw [q]; exact hp) z, fun a z => .inl z, fun a o e _ => s a o e, fun a z => s.free z, fun k h1 h2 => absurd h1 (Nat.not_le.mpr h2)⟩
  have lt := l.lt h
  refine ⟨l, ⟨h.n, fun k c e => ?_, h.inj, fun k hk => .inl (h.bd k hk), fun a z q => ?_⟩, nc⟩
  · have := h.cell k c e
    cases c with
    | lst ds =>
      obtain ⟨vs, e1, q⟩ := this
      exact ⟨vs, s _ _ e1, Iss.lt lt q⟩
    | obj c fs =>
      obtain ⟨C, dx, gs, e1, e2, e3, q⟩ := this
      exact ⟨C, dx, gs, e1, s _ _ e2, e3, Iss.lt lt q⟩
    | dct kvs =>
      obtain ⟨vs, e1, e2, q⟩ := this
      exact ⟨vs, s _ _ e1, e2, Iss.lt lt q⟩
  · rcases z with z | z
    · exact h.here a z (s.free q)
    · subst z; rw [zaC] at q; cases q
theorem SN.se {e : Expr} {f : E} (h : SN X Wx e f) (hf : ∀ env M r M', f env M = some (.v r, M') → ∃ ds, r = .lst ds) : SE X Wx .val e f := by
  refine zaR h ?_
  rintro st H Q ⟨P0, H0, P, Os, env, M, r, M', k, e, q⟩
  refine ⟨P0, H0, P, Os, env, M, r, M', k, e, ?_⟩
  cases r with
  | x c n => exact q
  | v d =>
    obtain ⟨ds, rfl⟩ := hf _ _ _ _ e
    refine ⟨ds, rfl, fun P' a vs H' l h ha ba nc ea is => q (P'.less (· ≠ a)) _ H' ?_ ?_ ⟨a, vs, rfl, .inl ⟨fun z => z.2 rfl, .inl ea⟩, Iss.less is⟩⟩
    · exact ⟨l.n, l.io, fun b z => l.bd b z.1, fun b z => ⟨l.bm b z, fun q => k.hk.here b z (q ▸ ha)⟩, l.keep, l.sure, l.nw⟩
    · refine ⟨h.n, fun j c e => ?_, h.inj, fun j hj => ⟨h.bd j hj, nc j hj⟩, fun b z => h.here b z.1⟩
      have := h.cell j c e
      cases c with
      | lst ds =>
        obtain ⟨vs, e1, q⟩ := this
        exact ⟨vs, e1, Iss.less q⟩
      | obj c fs =>
        obtain ⟨C, dx, gs, e1, e2, e3, q⟩ := this
        exact ⟨C, dx, gs, e1, e2, e3, Iss.less q⟩
      | dct kvs =>
        obtain ⟨vs, e1, e2, q⟩ := this
        exact ⟨vs, e1, e2, Iss.less q⟩
def sLst (fs : EA) : E := fun env M => bndA (fs env M) fun ds M1 => if ds.length ≤ sizeLine then some (.v (.lst ds), M1) else none
theorem zbk {es : List Expr} {pos : Pos} {fs : EA} (ha : SA X Wx .val es fs) : SN X Wx (.List es pos) (sLst fs) := by
 refine zaR (pe_lst ha) ?_
 rintro st H Q ⟨P0, H0, P, Os, env, M, r, M', k, e, q⟩
 unfold sLst at e
 rcases zcz e with ⟨ds, M1, e1, e⟩ | ⟨c, n, e1, rfl⟩
 ·split at e
  ·rename_i hl
   cases e
   obtain ⟨ds', e', q⟩ := q
   cases e'
   refine ⟨P0, H0, P, Os, env, M, _, _, k, e1, fun P1 vs H1 l1 h1 i1 => ⟨by rw [i1.iss.len]; exact hl, fun p hp => ?_⟩⟩
   obtain ⟨l2, h2, nc⟩ := zgo (vs := vs) h1 hp
   exact q (P1.bar p) p vs _ (l1.trans l2) h2 (l1.sure p hp) (.inr rfl) nc zaC (Iss.lt (l2.lt h1) i1.iss)
  ·cases e
 ·exact ⟨P0, H0, P, Os, env, M, _, _, k, e1, q⟩
theorem lst_is {fs : EA} : ∀ env M r M', sLst fs env M = some (.v r, M') → ∃ ds, r = .lst ds := fun env M r M' e => by
 unfold sLst at e
 rcases zcz e with ⟨ds, M1, e1, e⟩ | ⟨c, n, e1, e⟩
 ·split at e
  ·cases e; exact ⟨_, rfl⟩
  ·cases e
 ·cases e
end
end E3
namespace E3
open PySem PySem.Spec PyProof.Rows L2
inductive Out where
 | nx (env : Env) | bk (env : Env) | ct (env : Env) | rt (d : D) | ex (c : Str) (n : Int)
abbrev OS := Option (Out × Mm)
abbrev S := Env → Mm → OS
def Post (K : PySem.W.Frag) (mg : Str → Option Value) (Wx : XW) (P0 : Pl) (H0 : Hp) (P : Pl) (H : Hp) (M' : Mm) (D : Ends) : Out → Prop
 | .nx env => ∀ P' Os' H' st', Lt P H P' H' → Ok K mg P0 H0 P' Os' H' M' st' env → D.nx st' H'
 | .bk env => ∀ P' Os' H' st', Lt P H P' H' → Ok K mg P0 H0 P' Os' H' M' st' env → D.bk st' H'
 | .ct env => ∀ P' Os' H' st', Lt P H P' H' → Ok K mg P0 H0 P' Os' H' M' st' env → D.ct st' H'
 | .rt d => ∀ P' v H', LtE P0 H0 P' H' → Hk K mg P' H' M' → Is K P' H' d v → D.rt v H'
 | .ex c n => Wx P0 H0 M' c n
def tS (K : PySem.W.Frag) (mg : Str → Option Value) (Wx : XW) (f : S) : TS := fun D st H => ∃ P0 H0 P Os env M out M', Ok K mg P0 H0 P Os H M st env ∧ f env M = some (out, M') ∧ Post K mg Wx P0 H0 P H M' D out
def SS (X : Cx) (Wx : XW) (s : Stmt) (f : S) : Prop := PS X s (tS X.K X.mg Wx f)
def SB (X : Cx) (Wx : XW) (s : List Stmt) (f : S) : Prop := PSs X s (tS X.K X.mg Wx f)
def bndS (o : O) (k : D → Mm → OS) : OS := match o with
 | some (.v d, M) => k d M
 | some (.x c n, M) => some (.ex c n, M)
 | none => none
theorem zbF {o : O} {k : D → Mm → OS} {r : Out} {M' : Mm} (h : bndS o k = some (r, M')) : (∃ d M, o = some (.v d, M) ∧ k d M = some (r, M')) ∨ ∃ c n, o = some (.x c n, M') ∧ r = .ex c n := by
 unfold bndS at h
 split at h
 ·exact .inl ⟨_, _, rfl, h⟩
 ·cases h; exact .inr ⟨_, _, rfl, rfl⟩
 ·cases h
section
variable {K : PySem.W.Frag} {mg : Str → Option Value} {Wx : XW} {P0 P P' P1 : Pl} {H0 H H' H1 : Hp} {M M' : Mm} {Os : List (Option Addr)} {st : L2.St} {env : Env} {d : D} {v : V} {i : Nat}
theorem zcV {α : Type} (l : List (Option α)) (i j : Nat) (x : Option α) (hi : i < l.length) : ((l.set i x)[j]?).join = if i = j then x else (l[j]?).join := by
 rw [List.getElem?_set]
 by_cases h : i = j
 ·subst h
  rw [if_pos rfl, if_pos hi, if_pos rfl]
  rfl
 ·rw [if_neg h, if_neg h]
theorem Ok.asg (k : Ok K mg P0 H0 P Os H M st env) (hi : i < env.length) (h : Is K P H d v) : Ok K mg P0 H0 P (Os.set i none) H M (st.set i (some v)) (env.set i (.val d)) where
 hk := k.hk
 base := k.base
 b0 := k.b0
 slot := fun j s e => by
  rw [zcV _ _ _ _ (by rw [k.olen]; exact hi), zcV _ _ _ _ (by rw [k.slen]; exact hi)]
  rw [List.getElem?_set] at e
  split at e
  ·rename_i ij
   subst ij
   cases e
   rw [if_pos rfl, if_pos rfl]
   exact ⟨v, rfl, h⟩
  ·rename_i ij
   rw [if_neg ij, if_neg ij]
   exact k.slot j s e
 own := fun a h => k.own a (by
  rcases List.mem_or_eq_of_mem_set h with h | h
  ·exact h
  ·cases h)
 inj := fun j l a e1 e2 => by
  rw [List.getElem?_set] at e1 e2
  split at e1
  ·split at e1 <;> cases e1
  ·split at e2
   ·split at e2 <;> cases e2
   ·exact k.inj j l a e1 e2
 olen := by rw [List.length_set, List.length_set, k.olen]
 slen := by rw [List.length_set, List.length_set, k.slen]
theorem Ok.here (k : Ok K mg P0 H0 P Os H M st env) {a : Addr} (h : some a ∈ Os) : H a ≠ none := k.hk.here a (k.own a h).1
theorem Ok.mine {a : Addr} {vs : List V} {ds : List D} (k0 : Ok K mg P0 H0 P Os H M st env) (l : LtE P H P' H') (hk : Hk K mg P' H' M') (hi : i < env.length) (ha : H a = none) (ba : P'.bd a) (nc : ∀ j, j < P'.n → P'.io j ≠ a) (e : H' a = some (.lst vs)) (h : Iss K P' H' ds vs) :
  Ok K mg P0 H0 P' (Os.set i (some a)) H' M' (st.set i (some (.ref a))) (env.set i (.own ds)) := by
 have k := k0.next l hk
 have nO : ∀ j, Os[j]? ≠ some (some a) := fun j z => k0.here (List.mem_of_getElem? z) ha
 exact {
  hk := k.hk
  base := k.base
  b0 := k.b0
  slot := fun j s e' => by
   rw [zcV _ _ _ _ (by rw [k.olen]; exact hi), zcV _ _ _ _ (by rw [k.slen]; exact hi)]
   rw [List.getElem?_set] at e'
   split at e'
   ·rename_i ij
    subst ij
    cases e'
    rw [if_pos rfl, if_pos rfl]
    exact ⟨a, vs, rfl, rfl, e, h⟩
   ·rename_i ij
    rw [if_neg ij, if_neg ij]
    exact k.slot j s e'
  own := fun b hb => by
   rcases List.mem_or_eq_of_mem_set hb with hb | hb
   ·exact k.own b hb
   ·cases hb
    exact ⟨ba, nc, k0.base.sure a ha⟩
  inj := fun j l b e1 e2 => by
   rw [List.getElem?_set] at e1 e2
   split at e1
   ·split at e1
    ·cases e1
     split at e2
     ·rename_i z1 _ z2; exact z1.symm.trans z2
     ·exact absurd e2 (nO l)
    ·cases e1
   ·split at e2
    ·split at e2
     ·cases e2; exact absurd e1 (nO j)
     ·cases e2
    ·exact k.inj j l b e1 e2
  olen := by rw [List.length_set, List.length_set, k.olen]
  slen := by rw [List.length_set, List.length_set, k.slen] }
theorem zfF {a : Addr} {o o' : HO} (b : P.bd a) (e : H a = some o) (nf : ¬ Fx o) : Lt P H P (upd H a o') := ⟨Nat.le_refl _, fun _ _ => rfl, fun _ z => .inl z, fun c u ec z => by
  by_cases h : c = a
  ·subst h
   rw [e] at ec
   cases ec
   exact (z.elim nf fun n => n b).elim
  ·rw [zar h]; exact ec, fun c z => by
  by_cases h : c = a
  ·subst h; rw [zaC] at z; cases z
  ·rw [zar h] at z; exact z⟩
theorem zjg {vs : List V} : ¬ Fx (.lst vs) := fun z => by rcases z with ⟨_, z⟩ | ⟨_, _, z⟩ | ⟨_, z⟩ | ⟨_, z⟩ <;> cases z
theorem nf_ins {C dx : Addr} {gs : List (Str × V)} : ¬ Fx (.ins C dx gs) := fun z => by rcases z with ⟨_, z⟩ | ⟨_, _, z⟩ | ⟨_, z⟩ | ⟨_, z⟩ <;> cases z
theorem zfA.lt {a : Addr} {c : Cl} (l : Lt P H P' H') (e : ∀ o, H a = some o → H' a = some o) (h : zfA K mg P H a c) : zfA K mg P' H' a c := by
  cases c with
  | lst ds =>
    obtain ⟨vs, e1, q⟩ := h
    exact ⟨vs, e _ e1, Iss.lt l q⟩
  | obj c fs =>
    obtain ⟨C, dx, gs, e1, e2, e3, q⟩ := h
    exact ⟨C, dx, gs, e1, e _ e2, e3, Iss.lt l q⟩
  | dct kvs =>
    obtain ⟨vs, e1, e2, q⟩ := h
    exact ⟨vs, e _ e1, e2, Iss.lt l q⟩
theorem Ok.chg {a : Addr} {vs vs' : List V} {ds ds' : List D} (k : Ok K mg P0 H0 P Os H M st env) (hi : env[i]? = some (.own ds)) (ho : Os[i]? = some (some a)) (e : H a = some (.lst vs)) (h : Iss K P H ds' vs') :
    Lt P H P (upd H a (.lst vs')) ∧ Ok K mg P0 H0 P Os (upd H a (.lst vs')) M st (env.set i (.own ds')) := by
  obtain ⟨b1, b2, b3⟩ := k.own a (List.mem_of_getElem? ho)
  have l : Lt P H P (upd H a (.lst vs')) := zfF b1 e zjg
  have ilt : i < env.length := (List.getElem?_eq_some_iff.mp hi).1
  refine ⟨l, ?_⟩
  exact {
    hk := ⟨k.hk.n, fun j c ej => (k.hk.cell j c ej).lt l fun o eo => by rw [zar (b2 j (by rw [k.hk.n]; exact (List.getElem?_eq_some_iff.mp ej).1))]; exact eo, k.hk.inj, k.hk.bd, fun c z q => k.hk.here c z (l.sure c q)⟩
    base := ⟨k.base.n, k.base.io, k.base.bd, k.base.bm, fun c o ec n => by
      have := k.base.keep c o ec n
      rw [zar (fun z => by subst z; rw [b3] at ec; cases ec)]
      exact this, fun c z => k.base.sure c (l.sure c z), k.base.nw⟩
    b0 := k.b0
    slot := fun j s ej => by
      rw [List.getElem?_set] at ej
      split at ej
      · rename_i ij
        subst ij
        cases ej
        obtain ⟨a', vs0, e1, e2, e3, q⟩ := k.slot i _ hi
        rw [ho] at e1
        cases e1
        exact ⟨a, vs', by rw [ho]; rfl, e2, zaC, Iss.lt l h⟩
      · rename_i ij
        have q := k.slot j s ej
        cases s with
        | un => exact True.intro
        | val d => obtain ⟨v, e1, q⟩ := q; exact ⟨v, e1, Is.lt l q⟩
        | own es =>
          obtain ⟨a', ws, e1, e2, e3, q⟩ := q
          refine ⟨a', ws, e1, e2, ?_, Iss.lt l q⟩
          rw [zar (fun z => ij (k.inj i j a ho (by rw [← z]; exact zbN e1)))]
          exact e3
        | exc c n => obtain ⟨v, e1, q⟩ := q; exact ⟨v, e1, q.lt l⟩
    own := k.own
    inj := k.inj
    olen := by rw [List.length_set, k.olen]
    slen := by rw [List.length_set, k.slen] }
theorem Hk.set {j : Nat} {c c' : Cl} {o' : HO} (h : Hk K mg P H M) (e : M[j]? = some c) (w : zfA K mg P (upd H (P.io j) o') (P.io j) c') : Lt P H P (upd H (P.io j) o') ∧ LtE P H P (upd H (P.io j) o') ∧ Hk K mg P (upd H (P.io j) o') (M.set j c') := by
 have jl : j < P.n := by rw [h.n]; exact (List.getElem?_eq_some_iff.mp e).1
 obtain ⟨o, eo, nf⟩ := h.cellAt jl
 have l : Lt P H P (upd H (P.io j) o') := zfF (h.bd j jl) eo nf
 refine ⟨l, ⟨Nat.le_refl _, fun _ _ => rfl, fun _ z => .inl z, fun _ z => z, fun a u ea n => by rw [zar (fun z => n j jl z.symm)]; exact ea, l.sure, fun k h1 h2 => absurd h1 (Nat.not_le.mpr h2)⟩, ⟨by rw [List.length_set, h.n], fun k b ek => ?_, h.inj, h.bd, fun a z q => h.here a z (l.sure a q)⟩⟩
 rw [List.getElem?_set] at ek
 split at ek
 ·rename_i jk
  subst jk
  rw [if_pos (by rw [← h.n]; exact jl)] at ek
  cases ek
  exact w
 ·rename_i jk
  have kl : k < P.n := by rw [h.n]; exact (List.getElem?_eq_some_iff.mp ek).1
  exact (h.cell k b ek).lt l fun u eu => by rw [zar (fun z => jk (h.inj j k jl kl z.symm))]; exact eu
theorem Ok.frz {ds : List D} (k : Ok K mg P0 H0 P Os H M st env) (hi : env[i]? = some (.own ds)) : ∃ P' Os', Lt P H P' H ∧ Ok K mg P0 H0 P' Os' H M st (env.set i (.val (.lst ds))) := by
 obtain ⟨a, vs, e1, e2, e3, q⟩ := k.slot i _ hi
 have ho := zbN e1
 obtain ⟨b1, b2, b3⟩ := k.own a (List.mem_of_getElem? ho)
 have ilt : i < env.length := (List.getElem?_eq_some_iff.mp hi).1
 have nO : ∀ b, some b ∈ Os.set i none → some b ∈ Os ∧ b ≠ a := fun b z => by
  obtain ⟨j, hj⟩ := List.mem_iff_getElem?.mp z
  rw [List.getElem?_set] at hj
  split at hj
  ·split at hj <;> cases hj
  ·rename_i ij
   exact ⟨List.mem_of_getElem? hj, fun z => by subst z; exact ij (k.inj i j b ho hj)⟩
 have l : Lt P H (P.less (· ≠ a)) H := ⟨Nat.le_refl _, fun _ _ => rfl, fun c z => .inl z.1, fun _ _ e _ => e, fun _ z => z⟩
 refine ⟨P.less (· ≠ a), Os.set i none, l, {
  hk := ⟨k.hk.n, fun j c ej => (k.hk.cell j c ej).lt l fun _ z => z, k.hk.inj, fun j hj => ⟨k.hk.bd j hj, b2 j hj⟩, fun c z => k.hk.here c z.1⟩
  base := ⟨k.base.n, k.base.io, fun c z => k.base.bd c z.1, fun c z => ⟨k.base.bm c z, fun q => k.b0 c z (q ▸ b3)⟩, k.base.keep, k.base.sure, k.base.nw⟩
  b0 := k.b0
  slot := fun j s ej => ?_
  own := fun c z => ?_
  inj := fun j l b z1 z2 => ?_
  olen := by rw [List.length_set, List.length_set, k.olen]
  slen := by rw [List.length_set, k.slen] }⟩
 ·rw [zcV _ _ _ _ (by rw [k.olen]; exact ilt)]
  rw [List.getElem?_set] at ej
  split at ej
  ·rename_i ij
   subst ij
   cases ej
   exact ⟨.ref a, e2, a, vs, rfl, .inl ⟨fun z => z.2 rfl, .inl e3⟩, Iss.less q⟩
  ·rename_i ij
   rw [if_neg ij]
   have q := k.slot j s ej
   cases s with
   | un => exact True.intro
   | val d => obtain ⟨v, e1, q⟩ := q; exact ⟨v, e1, Is.less q⟩
   | own es => obtain ⟨a', ws, e1, e2, e3, q⟩ := q; exact ⟨a', ws, e1, e2, e3, Iss.less q⟩
   | exc c n => obtain ⟨v, e1, q⟩ := q; exact ⟨v, e1, q.lt l⟩
 ·obtain ⟨z1, z2⟩ := nO c z
  obtain ⟨c1, c2, c3⟩ := k.own c z1
  exact ⟨⟨c1, z2⟩, c2, c3⟩
 ·rw [List.getElem?_set] at z1 z2
  split at z1
  ·split at z1 <;> cases z1
  ·split at z2
   ·split at z2 <;> cases z2
   ·exact k.inj j l b z1 z2
end
end E3
namespace E3
open PySem PySem.Spec PyProof.Rows L2
section
variable {X : Cx} {Wx : XW} {pos : Pos}
theorem zcy {s : Stmt} {t t' : TS} (h : PS X s t) (w : ∀ D σ H, t' D σ H → t D σ H) : PS X s t' := fun pins s σ H D I hw => h pins s σ H D I (w D σ H hw)
theorem zhO {s : List Stmt} {t t' : TS} (h : PSs X s t) (w : ∀ D σ H, t' D σ H → t D σ H) : PSs X s t' := fun pins s σ H D I hw => h pins s σ H D I (w D σ H hw)
def sEnd : S := fun env M => some (.nx env, M)
def sSeq (f g : S) : S := fun env M => match f env M with
 | some (.nx e, M1) => g e M1
 | o => o
theorem zae : SB X Wx [] sEnd := by
 refine zhO zmf ?_
 rintro D st H ⟨P0, H0, P, Os, env, M, out, M', k, e, q⟩
 cases e
 exact q P Os H st (Lt.refl P H) k
theorem Post.lt {K : PySem.W.Frag} {mg : Str → Option Value} {P0 P P1 : Pl} {H0 H H1 : Hp} {M' : Mm} {D : Ends} {o : Out} (l : Lt P H P1 H1) (q : Post K mg Wx P0 H0 P H M' D o) : Post K mg Wx P0 H0 P1 H1 M' D o := by
 cases o with
 | nx env => exact fun P' Os' H' st' l' k => q P' Os' H' st' (l.trans l') k
 | bk env => exact fun P' Os' H' st' l' k => q P' Os' H' st' (l.trans l') k
 | ct env => exact fun P' Os' H' st' l' k => q P' Os' H' st' (l.trans l') k
 | rt d => exact q
 | ex c n => exact q
theorem zab {s : Stmt} {ss : List Stmt} {f g : S} (h1 : SS X Wx s f) (h2 : SB X Wx ss g) : SB X Wx (s :: ss) (sSeq f g) := by
  refine zhO (zkc h1 h2) ?_
  rintro D st H ⟨P0, H0, P, Os, env, M, out, M', k, e, q⟩
  unfold sSeq at e
  split at e
  · rename_i e1 M1 ef
    refine ⟨P0, H0, P, Os, env, M, _, _, k, ef, fun P1 Os1 H1 st1 l1 k1 => ?_⟩
    exact ⟨P0, H0, P1, Os1, e1, M1, _, _, k1, e, q.lt l1⟩
  · rename_i o ho
    cases ef : f env M with
    | none => rw [ef] at e; cases e
    | some om =>
      obtain ⟨o1, M1⟩ := om
      rw [ef] at e
      cases e
      refine ⟨P0, H0, P, Os, env, M, _, _, k, ef, ?_⟩
      cases out with
      | nx env' => exact (ho _ _ ef).elim
      | bk env' => exact q
      | ct env' => exact q
      | rt d => exact q
      | ex c n => exact q
def sAsg (i : Nat) (f : E) : S := fun env M => bndS (f env M) fun d M1 => if i < env.length then some (.nx (env.set i (.val d)), M1) else none
theorem zaE {i : Nat} {x : Str} {e : Expr} {f : E} {pos' : Pos} (hN : X.N.Nodup) (hi : X.N[i]? = some x) (hx : Loc X.env.scope x) (he : SE X Wx .val e f) (hs : swapsWith e (some (.Name x pos')) pos.line X.env = pure false := by rfl)
  (hf : X.fn x = true ∨ X.env.scope.names.lookup x = some .local := by first | exact .inl rfl | exact .inr rfl) : SS X Wx (.Assign [.Name x pos'] e pos) (sAsg i f) := by
 refine zcy (zk1 hN hi hx he hs hf) ?_
 rintro D st H ⟨P0, H0, P, Os, env, M, out, M', k, e, q⟩
 unfold sAsg at e
 rcases zbF e with ⟨d, M1, e1, e⟩ | ⟨c, n, e1, rfl⟩
 ·split at e
  ·rename_i hl
   cases e
   exact ⟨P0, H0, P, Os, env, M, _, _, k, e1, fun P1 v1 H1 l1 h1 i1 => q _ _ _ _ (l1.lt k.hk) ((k.next l1 h1).asg hl i1)⟩
  ·cases e
 ·exact ⟨P0, H0, P, Os, env, M, _, _, k, e1, q⟩
def zhm (i : Nat) (f : E) : S := fun env M => bndS (f env M) fun d M1 => match d with
 | .lst ds => if i < env.length then some (.nx (env.set i (.own ds)), M1) else none
 | _ => none
theorem zhK {i : Nat} {x : Str} {e : Expr} {f : E} {pos' : Pos} (hN : X.N.Nodup) (hi : X.N[i]? = some x) (hx : Loc X.env.scope x) (he : SN X Wx e f) (hs : swapsWith e (some (.Name x pos')) pos.line X.env = pure false := by rfl)
  (hf : X.fn x = true ∨ X.env.scope.names.lookup x = some .local := by first | exact .inl rfl | exact .inr rfl) : SS X Wx (.Assign [.Name x pos'] e pos) (zhm i f) := by
 refine zcy (zk1 hN hi hx he hs hf) ?_
 rintro D st H ⟨P0, H0, P, Os, env, M, out, M', k, e, q⟩
 unfold zhm at e
 rcases zbF e with ⟨d, M1, e1, e⟩ | ⟨c, n, e1, rfl⟩
 ·cases d <;> simp only [reduceCtorEq] at e
  rename_i ds
  split at e
  ·rename_i hl
   cases e
   exact ⟨P0, H0, P, Os, env, M, _, _, k, e1, ds, rfl, fun P1 a vs H1 l1 h1 ha ba nc ea is => q _ _ _ _ (l1.lt k.hk) (k.mine l1 h1 hl ha ba nc ea is)⟩
  ·cases e
 ·exact ⟨P0, H0, P, Os, env, M, _, _, k, e1, q⟩
def sRet (f : E) : S := fun env M => bndS (f env M) fun d M1 => some (.rt d, M1)
theorem zau {e : Expr} {f : E} (he : SE X Wx .val e f) : SS X Wx (.Return (some e) pos) (sRet f) := by
 refine zcy (zov he) ?_
 rintro D st H ⟨P0, H0, P, Os, env, M, out, M', k, e, q⟩
 unfold sRet at e
 rcases zbF e with ⟨d, M1, e1, e⟩ | ⟨c, n, e1, rfl⟩
 ·cases e
  exact ⟨P0, H0, P, Os, env, M, _, _, k, e1, fun P1 v1 H1 l1 h1 i1 => q P1 v1 H1 (k.base.trans l1) h1 i1⟩
 ·exact ⟨P0, H0, P, Os, env, M, _, _, k, e1, q⟩
def zg6 (f : E) : S := fun env M => bndS (f env M) fun _ M1 => some (.nx env, M1)
theorem zjA {e : Expr} {f : E} (he : SE X Wx .bor e f) (hs : swapsWith e none pos.line X.env = pure false := by rfl) : SS X Wx (.Expr e pos) (zg6 f) := by
 refine zcy (zfp he hs) ?_
 rintro D st H ⟨P0, H0, P, Os, env, M, out, M', k, e, q⟩
 unfold zg6 at e
 rcases zbF e with ⟨d, M1, e1, e⟩ | ⟨c, n, e1, rfl⟩
 ·cases e
  exact ⟨P0, H0, P, Os, env, M, _, _, k, e1, fun P1 v1 H1 l1 h1 i1 => q _ _ _ _ (l1.lt k.hk) (k.next l1 h1)⟩
 ·exact ⟨P0, H0, P, Os, env, M, _, _, k, e1, q⟩
def sIf (c : E) (f g : S) : S := fun env M => bndS (c env M) fun d M1 => match d with
 | .bl b => if b = true then f env M1 else g env M1
 | _ => none
theorem zbb {c : Expr} {a b : List Stmt} {t : E} {f g : S} (hc : ST X Wx c t) (ha : SB X Wx a f) (hb : SB X Wx b g) : SS X Wx (.If c a b pos) (sIf t f g) := by
  refine zcy (ps_if hc ha hb) ?_
  rintro D st H ⟨P0, H0, P, Os, env, M, out, M', k, e, q⟩
  unfold sIf at e
  rcases zbF e with ⟨d, M1, e1, e⟩ | ⟨c, n, e1, rfl⟩
  · cases d <;> simp only [reduceCtorEq] at e
    rename_i b
    refine zb0 k e1 ⟨b, rfl, fun P1 H1 l1 h1 => ?_⟩
    cases b with
    | true =>
      rw [if_pos rfl] at e ⊢
      exact ⟨P0, H0, P1, Os, env, M1, _, _, k.next l1 h1, e, q.lt (l1.lt k.hk)⟩
    | false =>
      rw [if_neg (by decide)] at e ⊢
      exact ⟨P0, H0, P1, Os, env, M1, _, _, k.next l1 h1, e, q.lt (l1.lt k.hk)⟩
  · exact zb0 k e1 q
def sFrz (i : Nat) : S := fun env M => match env[i]? with
 | some (.own ds) => some (.nx (env.set i (.val (.lst ds))), M)
 | _ => none
theorem zjV {ss : List Stmt} {i : Nat} {g : S} (h : SB X Wx ss g) : SB X Wx ss (sSeq (sFrz i) g) := by
 refine zhO h ?_
 rintro D st H ⟨P0, H0, P, Os, env, M, out, M', k, e, q⟩
 unfold sSeq sFrz at e
 split at e
 ·rename_i e1 M1 ef
  split at ef
  ·rename_i ds es
   cases ef
   obtain ⟨P1, Os1, l1, k1⟩ := k.frz es
   exact ⟨P0, H0, P1, Os1, _, _, _, _, k1, e, q.lt l1⟩
  ·cases ef
 ·rename_i ho
  split at e
  ·rename_i es
   exact (ho _ _ (by rw [es])).elim
  ·cases e
def sApp (i : Nat) (f : E) : S := fun env M => match env[i]? with
 | some (.own ds) => bndS (f env M) fun d M1 => if ds.length < sizeLine then some (.nx (env.set i (.own (ds ++ [d]))), M1) else none
 | _ => none
theorem zet {i : Nat} {x : Str} {e : Expr} {f : E} {p0 p q : Pos} (hN : X.N[i]? = some x) (hv : Vis X.env.scope x) (he : SE X Wx .val e f) (hd : (x == ("__debug__" : Str)) = false := by decide +kernel) (hcd : (x == ("__classdict__" : Str)) = false := by decide +kernel)
  (hfew : ((backTo q (starEach [e] X.env)).all (fun x => !x.1) && (backToKw q (keywordEach [] X.env)).all (fun x => x.1.isSome) && decide ([e].length + ([] : List Keyword).length + (if ([] : List Keyword).isEmpty then 0 else 1) < 30)) = true := by rfl)
  (hline : (p.endLine == q.line) = true := by rfl) (hs : starEach [e] X.env = (false, eval e X.env) :: starEach [] X.env := by rfl) (hw : swapsWith (.Call (.Attribute (.Name x p0) "append" p) [e] [] q) none pos.line X.env = pure false := by rfl) :
  SS X Wx (.Expr (.Call (.Attribute (.Name x p0) "append" p) [e] [] q) pos) (sApp i f) := by
 refine zcy (zfp (zkm PySem.F.plainAttrs_list PySem.F.slot_list_append PySem.F.type_list_append zfo (zh8 hN hv hd hcd) (zbR he zd2 hs) rfl hfew hline hs rfl) hw) ?_
 rintro D st H ⟨P0, H0, P, Os, env, M, out, M', k, e, q⟩
 unfold sApp at e
 split at e
 ·rename_i ds es
  obtain ⟨a, vs, o1, o2, o3, o4⟩ := k.slot i _ es
  refine ⟨.ref a, zbN o2, .inl ⟨rfl, vs, .inl (.inl o3)⟩, ?_⟩
  rcases zbF e with ⟨d, M1, e1, e⟩ | ⟨c, n, e1, rfl⟩
  ·split at e
   ·rename_i hz
    cases e
    refine zaG k e1 fun P1 v1 H1 l1 h1 i1 => ?_
    have k1 := k.next l1 h1
    obtain ⟨a', vs', o1', o2', o3', o4'⟩ := k1.slot i _ es
    have ea : a' = a := by
     have z := o2'.symm.trans o2
     cases z
     rfl
    subst ea
    refine ⟨a', vs', v1, rfl, rfl, o3', by rw [o4'.len]; exact hz, ?_⟩
    obtain ⟨l2, k2⟩ := k1.chg es (zbN o1') o3' (Iss.append o4' (Iss.one i1))
    exact q _ _ _ _ ((l1.lt k.hk).trans l2) k2
   ·cases e
  ·exact zaG k e1 q
 ·cases e
def Wk (K : PySem.W.Frag) (P1 : Pl) (H1 : Hp) (J : It) (ds : List D) : Prop := ∀ P H, Lt P1 H1 P H → (∀ k, k < ds.length → J.go k H) ∧ (∀ k, ds.length ≤ k → k ≤ ds.length → J.stop k H) ∧ ∀ k x H', J.yld k H x H' → k < ds.length → H' = H ∧ ∃ d, ds[k]? = some d ∧ Is K P H d x
def IQ (K : PySem.W.Frag) (mg : Str → Option Value) (Wx : XW) (P0 : Pl) (H0 : Hp) (P : Pl) (H : Hp) (M' : Mm) (R : It → Hp → Prop) : ResA → Prop
 | .v ds => ∀ P' H' J, LtE P H P' H' → Hk K mg P' H' M' → Wk K P' H' J ds → R J H'
 | .x c n => Wx P0 H0 M' c n
def tI (K : PySem.W.Frag) (mg : Str → Option Value) (Wx : XW) (fs : EA) : TI := fun st H R => ∃ P0 H0 P Os env M r M', Ok K mg P0 H0 P Os H M st env ∧ fs env M = some (r, M') ∧ IQ K mg Wx P0 H0 P H M' R r
def SI (X : Cx) (Wx : XW) (tg iter : Expr) (fs : EA) : Prop := PI X tg iter (tI X.K X.mg Wx fs)
theorem zgu {tg iter : Expr} {t t' : TI} (h : PI X tg iter t) (w : ∀ σ H R, t' σ H R → t σ H R) : PI X tg iter t' := fun pins s σ H R I hw => h pins s σ H R I (w σ H R hw)
def loopS (i : Nat) (body : S) : List D → Env → Mm → OS
  | [], env, M => some (.nx env, M)
  | d :: ds, env, M => if i < env.length then (match body (env.set i (.val d)) M with
    | some (.nx e, M1) => loopS i body ds e M1
    | some (.ct e, M1) => loopS i body ds e M1
    | some (.bk e, M1) => some (.nx e, M1)
    | some (.rt d, M1) => some (.rt d, M1)
    | some (.ex c n, M1) => some (.ex c n, M1)
    | none => none) else none
def sFor (i : Nat) (fs : EA) (body : S) : S := fun env M => match fs env M with
 | some (.v ds, M1) => loopS i body ds env M1
 | some (.x c n, M1) => some (.ex c n, M1)
 | none => none
theorem zg9 {K : PySem.W.Frag} {mg : Str → Option Value} {P0 P1 : Pl} {H0 H1 : Hp} {Os : List (Option Addr)} {M M' : Mm} {st : L2.St} {env : Env} {i : Nat} {b : S} {J : It} {ds : List D} {out : Out} {D : Ends} (k : Ok K mg P0 H0 P1 Os H1 M st env) (wk : Wk K P1 H1 J ds)
  (h : loopS i b ds env M = some (out, M')) (q : Post K mg Wx P0 H0 P1 H1 M' D out) :
  ∃ W : Nat → Nat → L2.St → Hp → Prop, (∃ m, W 0 m st H1) ∧ ∀ j m σ H, W j m σ H →
   (J.stop j H ∧ D.nx σ H) ∨ (J.go j H ∧ ∃ Nn : L2.St → Hp → Prop, (∀ σ' H', Nn σ' H' → ∃ m', m' < m ∧ W (j + 1) m' σ' H') ∧ ∀ x H', J.yld j H x H' → zkY i x σ H' fun σ2 H2 => tS K mg Wx b { D with nx := Nn, ct := Nn, bk := D.nx } σ2 H2) := by
 refine ⟨fun j m σ H => m = ds.length - j ∧ j ≤ ds.length ∧ ∃ P Os' M1 env', Lt P1 H1 P H ∧ Ok K mg P0 H0 P Os' H M1 σ env' ∧ loopS i b (ds.drop j) env' M1 = some (out, M'), ⟨ds.length, by simp, Nat.zero_le _, P1, Os, M, env, Lt.refl _ _, k, h⟩, ?_⟩
 rintro j m σ H ⟨rfl, hj, P, Os', M1, env', lt, k', h'⟩
 obtain ⟨w1, w2, w3⟩ := wk P H lt
 by_cases hlt : j < ds.length
 ·refine .inr ⟨w1 j hlt, fun σ' H' => ∃ P Os' M1 env', Lt P1 H1 P H' ∧ Ok K mg P0 H0 P Os' H' M1 σ' env' ∧ loopS i b (ds.drop (j + 1)) env' M1 = some (out, M'), fun σ' H' z => ⟨ds.length - (j + 1), by omega, rfl, hlt, z⟩, fun x H' y => ?_⟩
  obtain ⟨e3, d, ed, iv⟩ := w3 j x H' y hlt
  subst e3
  have ed' : ds.drop j = d :: ds.drop (j + 1) := by
   rw [List.drop_eq_getElem_cons hlt]
   rw [List.getElem?_eq_getElem hlt] at ed
   rw [Option.some.inj ed]
  rw [ed'] at h'
  simp only [loopS] at h'
  split at h'
  ·rename_i hi
   have k2 := k'.asg hi iv
   split at h'
   ·rename_i e M2 eb
    exact ⟨P0, H0, P, _, _, M1, _, _, k2, eb, fun P' Os2 H2 st2 l2 k3 => ⟨P', Os2, _, e, lt.trans l2, k3, h'⟩⟩
   ·rename_i e M2 eb
    exact ⟨P0, H0, P, _, _, M1, _, _, k2, eb, fun P' Os2 H2 st2 l2 k3 => ⟨P', Os2, _, e, lt.trans l2, k3, h'⟩⟩
   ·rename_i e M2 eb
    cases h'
    exact ⟨P0, H0, P, _, _, M1, _, _, k2, eb, fun P' Os2 H2 st2 l2 k3 => q P' Os2 H2 st2 (lt.trans l2) k3⟩
   ·rename_i e M2 eb
    cases h'
    exact ⟨P0, H0, P, _, _, M1, _, _, k2, eb, q⟩
   ·rename_i c n M2 eb
    cases h'
    exact ⟨P0, H0, P, _, _, M1, _, _, k2, eb, q⟩
   ·cases h'
  ·cases h'
 ·have ej : j = ds.length := by omega
  subst ej
  rw [List.drop_length] at h'
  cases h'
  exact .inl ⟨w2 _ (Nat.le_refl _) (Nat.le_refl _), q P Os' H σ lt k'⟩
theorem zfQ {i : Nat} {x : Str} {p : Pos} {iter : Expr} {body : List Stmt} {fs : EA} {b : S} (hp : PassesOwn (model X.prog X.w) X.A X.env X.xe) (hc : X.calm = true) (hN : X.N.Nodup) (hi : X.N[i]? = some x) (hx : Loc X.env.scope x) (hI : SI X Wx (.Name x p) iter fs) (hb : SB X Wx body b)
  (hf : X.fn x = true ∨ X.env.scope.names.lookup x = some .local := by first | exact .inl rfl | exact .inr rfl) (hs : ∀ x, foldedSetIterable iter X.env x = pure x := by intro _; rfl) : SS X Wx (.For (.Name x p) iter body [] pos) (sFor i fs b) := by
 refine zcy (zlc hp hc hI (zja hN hi hx hf) hb hs) ?_
 rintro D st H ⟨P0, H0, P, Os, env, M, out, M', k, e, q⟩
 unfold sFor at e
 split at e
 ·rename_i ds M1 ef
  exact ⟨P0, H0, P, Os, env, M, _, _, k, ef, fun P1 H1 J l1 h1 wk => zg9 (k.next l1 h1) wk e (q.lt (l1.lt k.hk))⟩
 ·rename_i c n M1 ef
  cases e
  exact ⟨P0, H0, P, Os, env, M, _, _, k, ef, q⟩
 ·cases e
def iLst (f : E) : EA := fun env M => match f env M with
 | some (.v (.lst ds), M1) => some (.v ds, M1)
 | some (.x c n, M1) => some (.x c n, M1)
 | _ => none
theorem zn8 {tg e : Expr} {f : E} (h : SE X Wx .val e f) : SI X Wx tg e (iLst f) := by
 refine zgu (zl3 h) ?_
 rintro st H R ⟨P0, H0, P, Os, env, M, r, M', k, e, q⟩
 unfold iLst at e
 split at e
 ·rename_i ds M1 ef
  cases e
  refine ⟨P0, H0, P, Os, env, M, _, _, k, ef, fun P1 v1 H1 l1 h1 i1 => ?_⟩
  obtain ⟨a, vs, rfl, ra, is⟩ := i1
  refine ⟨a, rfl, ⟨vs, ra.imp (·.2) id⟩, q P1 H1 _ l1 h1 fun P2 H2 l2 => ?_⟩
  have ra2 := l2.rda ra
  have is2 := Iss.lt l2 is
  have sq : SqL X.K H2 a vs := ra2.imp (·.2) id
  refine ⟨fun j hj => ?_, fun j h1 h2 => ⟨vs, sq, by rw [is2.len]; exact h1⟩, fun j x H' y hj => ⟨y.1, ?_⟩⟩
  ·obtain ⟨v, ev, _⟩ := Iss.get is2 (List.getElem?_eq_getElem hj)
   exact ⟨vs, v, sq, ev⟩
  ·obtain ⟨v, ev, iv⟩ := Iss.get is2 (List.getElem?_eq_getElem hj)
   have := y.2 vs sq
   rw [ev] at this
   cases this
   exact ⟨_, List.getElem?_eq_getElem hj, iv⟩
 ·rename_i c n M1 ef
  cases e
  exact ⟨P0, H0, P, Os, env, M, _, _, k, ef, q⟩
 ·cases e
end
end E3
namespace E3
open PySem PySem.Spec PyProof.Rows L2
abbrev G := List D → Mm → O
def spG (K : PySem.W.Frag) (mg : Str → Option Value) (n : Nat) (g : G) : Sp := fun vs H Q _ => vs.length = n ∧ ∃ P M ds d M', Hk K mg P H M ∧ Iss K P H ds vs ∧ g ds M = some (.v d, M') ∧ ∀ P' v H', LtE P H P' H' → Hk K mg P' H' M' → Is K P' H' d v → Q v H'
def endS (o : OS) : O := match o with
 | some (.rt d, M) => some (.v d, M)
 | some (.nx _, M) => some (.v .non, M)
 | some (.ex c n, M) => some (.x c n, M)
 | _ => none
def fnG (n : Nat) (b : S) : G := fun ds M => endS (b (ds.map .val ++ List.replicate (n - ds.length) .un) M)
theorem zh3 {K : PySem.W.Frag} {mg : Str → Option Value} {P : Pl} {H : Hp} {M : Mm} {N : List Str} {ds : List D} {vs : List V} (hk : Hk K mg P H M) (hl : vs.length ≤ N.length) (h : Iss K P H ds vs) :
  Ok K mg P H P (List.replicate N.length none) H M (L2.start N vs) (ds.map .val ++ List.replicate (N.length - ds.length) .un) := by
 have hd := h.len
 refine ⟨hk, LtE.refl P H, hk.here, fun i s e => ?_, fun a z => ?_, fun i j a e1 _ => ?_, by simp; omega, by simp [L2.start]; omega⟩
 ·have e0 : ((List.replicate N.length (none : Option Addr))[i]?).join = none := by
   rw [List.getElem?_replicate]
   split <;> rfl
  rw [e0]
  by_cases hi : i < ds.length
  ·rw [List.getElem?_append_left (by simpa using hi), List.getElem?_map, List.getElem?_eq_getElem hi] at e
   simp only [Option.map_some, Option.some.injEq] at e
   subst e
   obtain ⟨v, ev, p⟩ := h.get (List.getElem?_eq_getElem hi)
   refine ⟨v, ?_, p⟩
   unfold L2.start
   rw [List.getElem?_append_left (by rw [List.length_map]; omega), List.getElem?_map, ev]
   rfl
  ·rw [List.getElem?_append_right (by simpa using hi), List.getElem?_replicate] at e
   split at e
   ·cases e; exact True.intro
   ·cases e
 ·exact absurd (List.eq_of_mem_replicate z) (by simp)
 ·rw [List.getElem?_replicate] at e1
  split at e1 <;> cases e1
structure FunD (K : PySem.W.Frag) (x qual : Str) (st : Stmt) (f : Addr) (fd : FuncData) : Prop where
 ex : ∃ (oc : Value) (od : Option Addr) (dV kV doc pm : Value) (an : Option Addr) (cdv ct : Value) (osl : Array (Option Value)),
  fd = PySem.W.fnOf x qual (zaH st) (zal st) (zaa st) dV kV doc pm an cdv ct ∧ K.lookup f = some ⟨oc, od, .func fd, osl⟩ ∧ PySem.W.codeIn K cdv qual = true
 kp : PySem.W.keepIn K (.ref f) = true
theorem za7 {K : PySem.W.Frag} {x qual : Str} {st : Stmt} {f : Addr} {oc : Value} {od an : Option Addr} {osl : Array (Option Value)} {dV kV doc pm cdv ct : Value} (l : K.lookup f = some ⟨oc, od, .func (PySem.W.fnOf x qual (zaH st) (zal st) (zaa st) dV kV doc pm an cdv ct), osl⟩)
  (c : PySem.W.codeIn K cdv qual = true) (k : PySem.W.keepIn K (.ref f) = true) : FunD K x qual st f (PySem.W.fnOf x qual (zaH st) (zal st) (zaa st) dV kV doc pm an cdv ct) := ⟨⟨oc, od, dV, kV, doc, pm, an, cdv, ct, osl, rfl, l, c⟩, k⟩
section
variable {P : Program} {w : World} {K : PySem.W.Frag} {mg : Str → Option Value} {base : Heap} {k : Nat} {x qual : Str} {st : Stmt} {f : Addr} {fd : FuncData} {N ps : List Str} {b : S}
def W0 : XW := fun _ _ _ _ _ => False
abbrev cx0 (P : Program) (w : World) (K : PySem.W.Frag) (mg : Str → Option Value) (base : Heap) (N : List Str) (qual : Str) (st : Stmt) (f : Addr) (cdv : Value) (A : Around) (outer : List PySem.Env) (s : Shared) (H : Hp) (E : XK) : Cx := (cxOf CX0 P w K mg base N qual (zaa st) f cdv A outer s H E).nox
theorem zgz (F : FunD K x qual st f fd) (S : FnScope N ps (zaa st)) (hp : ps.length ≤ N.length)
  (hb : ∀ cdv A outer s H E, Room k (A.deeper (envOfC qual (zaa st) s.heap.objs.size f cdv)) → SB (cx0 P w K mg base N qual st f cdv A outer s H E) W0 (zal st) b) : FnOk P w K mg base CX0 (k + 1) f fd ps (spG K mg ps.length (fnG N.length b)) := by
 obtain ⟨oc, od, dV, kV, doc, pm, an, cdv, ct, osl, rfl, lk, hcd⟩ := F.ex
 refine znr lk hcd S (fun vs H Q E h => h.1) fun A outer s H vs Q E hr h => ?_
 obtain ⟨hl, Pl, M, ds, d, M', hk, is, e, q⟩ := h
 refine ⟨_, PSs.nox (hb cdv A outer s H E hr), ?_⟩
 unfold fnG endS at e
 have st0 := zh3 (N := N) hk (by omega) is
 split at e
 ·rename_i d' M2 eb
  cases e
  exact ⟨Pl, H, Pl, _, _, M, _, _, st0, eb, fun P' v H' l h i => q P' v H' l h i⟩
 ·rename_i env M2 eb
  cases e
  exact ⟨Pl, H, Pl, _, _, M, _, _, st0, eb, fun P' Os' H' st' _ k' => q P' .non H' k'.base k'.hk rfl⟩
 ·rename_i c n M2 eb
  cases e
 ·cases e
def AtG (P : Program) (w : World) (K : PySem.W.Frag) (mg : Str → Option Value) (base : Heap) (k : Nat) (f : Str) (n : Nat) (g : G) : Prop :=
 ∃ fa fd ps ds dvs sp, mg f = some (.ref fa) ∧ PySem.W.keepIn K (.ref fa) = true ∧ FnOk P w K mg base CX0 k fa fd ps sp ∧ Binds K fd ps ds ∧ Vals dvs ds ∧ ∀ vs H Q E, spG K mg n g vs H Q E → sp (vs ++ dvs) H Q E
theorem zdu (F : FunD K x qual st f fd) (S : FnScope N ps (zaa st)) (hp : ps.length ≤ N.length) (hm : mg x = some (.ref f)) (hd : Binds K fd ps [])
  (hb : ∀ cdv A outer s H E, Room k (A.deeper (envOfC qual (zaa st) s.heap.objs.size f cdv)) → SB (cx0 P w K mg base N qual st f cdv A outer s H E) W0 (zal st) b) : AtG P w K mg base (k + 1) x ps.length (fnG N.length b) :=
 ⟨f, fd, ps, [], [], _, hm, F.kp, zgz F S hp hb, hd, .nil, fun vs H Q E h => by rw [List.append_nil]; exact h⟩
theorem AtG.mono {j : Nat} {n : Nat} {g : G} (a : AtG P w K mg base j x n g) (h : j ≤ k) : AtG P w K mg base k x n g := by
 obtain ⟨fa, fd, ps, ds, dvs, sp, h1, h2, h3, h4⟩ := a
 exact ⟨fa, fd, ps, ds, dvs, sp, h1, h2, h3.mono h, h4⟩
end
section
variable {X : Cx} {Wx : XW} {m : Mode}
def zb5 (g : G) (fs : EA) : E := fun env M => bndA (fs env M) fun ds M1 => match g ds M1 with
 | some (.v d, M2) => some (.v d, M2)
 | _ => none
theorem AllM.len {K : PySem.W.Frag} {P : Pl} {H : Hp} : ∀ {ds : List D} {vs : List V}, AllM K P H m ds vs → vs.length = ds.length
  | [], _, h => by rw [show _ = [] from h]; rfl
  | d :: ds, _, h => by
    obtain ⟨v, r, e, _, q⟩ := h
    subst e
    simp [AllM.len q]
def Cnt (n : Nat) (fs : EA) : Prop := ∀ env M ds M', fs env M = some (.v ds, M') → ds.length = n
theorem cnt_nil : Cnt 0 sNil := fun env M ds M' e => by cases e; rfl
theorem cnt_cons {n : Nat} {f : E} {fs : EA} (h : Cnt n fs) : Cnt (n + 1) (zag f fs) := fun env M ds M' e => by
 unfold zag at e
 split at e
 ·split at e
  ·rename_i ef
   cases e
   rw [List.length_cons, h _ _ _ _ ef]
  ·cases e
  ·cases e
 ·cases e
 ·cases e
theorem zbc {k n : Nat} {f : Str} {g : G} {e : Expr} {es : List Expr} {fs : EA} {p pos : Pos} (a : AtG X.prog X.w X.K X.mg X.base k f n g) (hr : Room k X.A) (hg : Gl X f) (ha : SA X Wx .val (e :: es) fs) (hn : Cnt n fs) (hdb : (f == ("__debug__" : Str)) = false := by decide +kernel)
  (he : starEach (e :: es) X.env = (false, eval e X.env) :: starEach es X.env := by rfl) (hpl : (backTo pos (starEach es X.env)).any (·.1) = false := by rfl) : SE X Wx m (.Call (.Name f p) (e :: es) [] pos) (zb5 g fs) := by
 obtain ⟨fa, fd, ps, ds, dvs, sp, hm, hk, F, hb, hv, himp⟩ := a
 refine zaR (zl7 F hr hg hm hk hb hv zkO ha hdb he hpl) ?_
 rintro st H Q ⟨P0, H0, P, Os, env, M, r, M', k, e, q⟩
 unfold zb5 at e
 rcases zcz e with ⟨ds, M1, e1, e⟩ | ⟨c, n, e1, rfl⟩
 ·split at e
  ·rename_i d M2 eg
   cases e
   exact ⟨P0, H0, P, Os, env, M, _, _, k, e1, fun P1 vs H1 l1 h1 i1 => himp _ _ _ _ ⟨by rw [i1.len]; exact hn _ _ _ _ e1, P1, M1, ds, d, _, h1, i1.iss, eg, fun P2 v H2 l2 h2 i2 => q P2 v H2 (l1.trans l2) h2 (IsM.of h2 i2)⟩⟩
  ·cases e
 ·exact ⟨P0, H0, P, Os, env, M, _, _, k, e1, q⟩
end
end E3
namespace E3
open PySem PySem.Spec PyProof.Rows L2
def zjC (i j : Int) : Prop := CMul i j ∨ (i.natAbs.log2 < 10000 ∧ j.natAbs.log2 < 10000)
theorem zh5 {i : Int} (h : i.natAbs.log2 < 10000) : Builtin.Int.intBits i ≤ 10001 := by
 unfold Builtin.Int.intBits
 split <;> omega
theorem zjC.ok {i j : Int} (h : zjC i j) : IntMulOk i j := by
 rcases h with h | ⟨h1, h2⟩
 ·exact h.ok
 ·exact mulOk_of_bits (zh5 h1) (zh5 h2) (by decide)
theorem zbI {X : Cx} : OpR X (binaryOp .Mult) (rI zjC fun i j => .int (i * j)) := opI fun _ _ _ _ _ _ _ hc q => mul_int q hc.ok
section
variable {X : Cx} {pins : List (Addr × Obj)} {σ : L2.St} {H : Hp} {s : Shared} {K : PySem.W.Frag}
def zor (K : PySem.W.Frag) : R2 := fun x y H Q => ∃ l b xs zs, x = .ref l ∧ y = .ref b ∧ SqL K H l xs ∧ SqL K H b zs ∧ xs.length + zs.length ≤ sizeLine ∧ ∀ p, H p = none → Q (.ref p) (upd H p (.lst (xs ++ zs)))
theorem zjs : OpR X (binaryOp .Add) (zor X.K) := by
 intro pins s σ H x y v u Q I rx ry h
 obtain ⟨l, b, xs, zs, rfl, rfl, hH, hB, hz, q⟩ := h
 cases rx
 cases ry
 obtain ⟨z, its, r, ⟨cls, dd, data, sl⟩, ho, hc, n, hd⟩ := sql I hH
 obtain ⟨z2, its2, r2, ⟨cls2, dd2, data2, sl2⟩, ho2, hc2, n2, hd2⟩ := sql I hB
 simp only at hc hd hc2 hd2
 subst hc hd hc2 hd2
 have hl := r.length
 have hl2 := r2.length
 refine concat_meets ⟨_, ho, rfl⟩ ⟨_, ho2, rfl⟩ noFill_list_add seq_list_add F.slot_list_add F.entry_list_add (F.args_list_add_2 _ _) (list_addW l b its.toArray its2.toArray n n2 dd dd2 sl sl2 (by rw [List.size_toArray, List.size_toArray]; omega)) ⟨ho, ho2, ?_⟩
 have ea : its.toArray ++ its2.toArray = (its ++ its2).toArray := by simp
 rw [ea]
 exact ⟨.ref _, _, I.lnew (t' := s.toks) (r.append r2) (by rw [List.length_append]; omega), rfl, q _ I.fresh⟩
theorem zjc {P : Pl} {H : Hp} {ds : List D} {vs : List V} {Q : VK} (hn : ∀ p, H p = none → ¬ P.bd p) (h : Iss K P H ds vs) (q : ∀ u H', Same H H' → Is K P H' (.lst ds) u → Q u H') : ∀ p, H p = none → Q (.ref p) (upd H p (.lst vs)) := fun p hp => by
 have s := zdn (o := .lst vs) hp
 exact q _ _ s ⟨p, vs, rfl, .inl ⟨hn p hp, .inl zaC⟩, Iss.lt ⟨Nat.le_refl _, fun _ _ => rfl, fun _ z => .inl z, fun a o e _ => s a o e, fun a z => s.free z⟩ h⟩
theorem zm0 {P : Pl} {H : Hp} {ds : List D} {vs : List V} {Q : VK} (h : Iss K P H ds vs) (q : ∀ u H', Same H H' → Is K P H' (.tup ds) u → Q u H') : ∀ p, H p = none → Q (.ref p) (upd H p (.tup vs)) := fun p hp => by
 have s := zdn (o := .tup vs) hp
 exact q _ _ s ⟨p, vs, rfl, .inl (.inl zaC), Iss.lt ⟨Nat.le_refl _, fun _ _ => rfl, fun _ z => .inl z, fun a o e _ => s a o e, fun a z => s.free z⟩ h⟩
def oAdd : D → D → Option D
 | .int i, .int j => some (.int (i + j))
 | .str i, .str j => if i.length + j.length ≤ sizeLine then some (.str (i ++ j)) else none
 | .lst xs, .lst ys => if xs.length + ys.length ≤ sizeLine then some (.lst (xs ++ ys)) else none
 | _, _ => none
def rAdd (K : PySem.W.Frag) : R2 := fun x y H Q => rI0 (fun i j => .int (i + j)) x y H Q ∨ (∃ i j, x = .str i ∧ y = .str j ∧ i.length + j.length ≤ sizeLine ∧ Q (.str (i ++ j)) H) ∨ zor K x y H Q
theorem zaK : OpR X (binaryOp .Add) (rAdd X.K) := op_add.or (zij.or zjs)
theorem za8 : zem K (rAdd K) oAdd := fun P H d e z v w Q h h1 h2 hn q => by
 unfold oAdd at h
 split at h
 ·cases h; cases h1; cases h2; exact .inl ⟨_, _, rfl, rfl, q _ H (Same.refl H) rfl⟩
 ·split at h
  ·rename_i hl; cases h; cases h1; cases h2; exact .inr (.inl ⟨_, _, rfl, rfl, hl, q _ H (Same.refl H) rfl⟩)
  ·cases h
 ·split at h
  ·rename_i hl
   cases h
   obtain ⟨a, vs, rfl, r1, s1⟩ := h1
   obtain ⟨b, ws, rfl, r2, s2⟩ := h2
   exact .inr (.inr ⟨a, b, vs, ws, rfl, rfl, r1, r2, by rw [s1.len, s2.len]; exact hl, zjc hn (s1.append s2) q⟩)
  ·cases h
 ·cases h
def oI (g : Int → Int → Option D) : D → D → Option D
 | .int i, .int j => g i j
 | _, _ => none
theorem zgK {g : Int → Int → Option D} {P : Pl} {H : Hp} {d e z : D} {v w : V} (h : oI g d e = some z) (h1 : IsW K P H d v) (h2 : IsW K P H e w) : ∃ i j, v = .int i ∧ w = .int j ∧ g i j = some z := by
 unfold oI at h
 split at h
 ·cases h1; cases h2; exact ⟨_, _, rfl, rfl, h⟩
 ·cases h
def oSub := oI fun i j => some (.int (i - j))
theorem zd9 : zem K (rI0 fun i j => .int (i - j)) oSub := fun P H d e z v w Q h h1 h2 _ q => by
 obtain ⟨i, j, rfl, rfl, h⟩ := zgK h h1 h2
 cases h
 exact ⟨i, j, rfl, rfl, q _ H (Same.refl H) rfl⟩
def oMul := oI fun i j => if i.natAbs < 18446744073709551616 ∨ j.natAbs < 18446744073709551616 ∨ (i.natAbs.log2 < 10000 ∧ j.natAbs.log2 < 10000) then some (.int (i * j)) else none
theorem zcl : zem K (rI zjC fun i j => .int (i * j)) oMul := fun P H d e z v w Q h h1 h2 _ q => by
 obtain ⟨i, j, rfl, rfl, h⟩ := zgK h h1 h2
 split at h
 ·rename_i hg
  cases h
  exact ⟨i, j, rfl, rfl, by unfold zjC CMul; rw [show (2 : Int) ^ 64 = 18446744073709551616 from rfl]; exact hg.elim (fun z => .inl (.inl ⟨by omega, by omega⟩)) (fun z => z.elim (fun z => .inl (.inr ⟨by omega, by omega⟩)) .inr), q _ H (Same.refl H) rfl⟩
 ·cases h
def zdR := oI fun i j => if 0 < j ∧ j.natAbs < 1073741824 then some (.int (i / j)) else none
theorem zb4 : zem K (rI CDiv fun i j => .int (i / j)) zdR := fun P H d e z v w Q h h1 h2 _ q => by
 obtain ⟨i, j, rfl, rfl, h⟩ := zgK h h1 h2
 split at h
 ·rename_i hg
  cases h
  exact ⟨i, j, rfl, rfl, ⟨hg.1, by omega⟩, q _ H (Same.refl H) rfl⟩
 ·cases h
def oMod := oI fun i j => if 0 < j then some (.int (i % j)) else none
theorem zbd : zem K (rI (fun _ j => 0 < j) fun i j => .int (i % j)) oMod := fun P H d e z v w Q h h1 h2 _ q => by
 obtain ⟨i, j, rfl, rfl, h⟩ := zgK h h1 h2
 split at h
 ·rename_i hg
  cases h
  exact ⟨i, j, rfl, rfl, hg, q _ H (Same.refl H) rfl⟩
 ·cases h
def oPow := oI fun i j => if 0 ≤ j ∧ j.natAbs ≤ 1000000 ∧ i.natAbs < 18446744073709551616 then some (.int (i ^ j.toNat)) else none
theorem zfB : zem K (rI CPow fun i j => .int (i ^ j.toNat)) oPow := fun P H d e z v w Q h h1 h2 _ q => by
 obtain ⟨i, j, rfl, rfl, h⟩ := zgK h h1 h2
 split at h
 ·rename_i hg
  cases h
  exact ⟨i, j, rfl, rfl, by unfold CPow; rw [show (2 : Nat) ^ 64 = 18446744073709551616 from rfl]; exact ⟨hg.1, by omega, hg.2.2⟩, q _ H (Same.refl H) rfl⟩
 ·cases h
def oCmp (c : Cp) (a b : D) : Option D := (cmpD c a b).map .bl
theorem zao {c : Cp} : zem K (rCp K c) (oCmp c) := fun P H d e z v w Q h h1 h2 _ q => by
 unfold oCmp at h
 rw [Option.map_eq_some_iff] at h
 obtain ⟨b, h, rfl⟩ := h
 exact zoH h h1 h2 (q _ H (Same.refl H) rfl)
def oIx : D → D → Option D
 | .lst ds, .int i => atI ds i
 | .tup ds, .int i => atI ds i
 | .str z, .int i => if z.length ≤ sizeLine then (atI z.cps.toList i).map fun c => .str ⟨#[c]⟩ else none
 | _, _ => none
def rIx (K : PySem.W.Frag) : R2 := fun x y H Q => rIxL K x y H Q ∨ rIxT K x y H Q ∨ rIxS x y H Q
theorem zbt : IxR X (rIx X.K) := zmC.or (ix_tup.or ix_str)
theorem zi0 {P : Pl} {H : Hp} {ds : List D} {vs : List V} {d : D} {i : Int} (h : atI ds i = some d) (q : Iss K P H ds vs) : ∃ u, atI vs i = some u ∧ Is K P H d u := by
 unfold atI at h ⊢
 rw [q.len]
 cases e : ixN ds.length i with
 | none => rw [e] at h; cases h
 | some j => rw [e] at h; exact q.get h
theorem zb3 : zem K (rIx K) oIx := fun P H d e z v w Q h h1 h2 _ q => by
 unfold oIx at h
 split at h
 ·obtain ⟨a, vs, rfl, r, s⟩ := h1
  cases h2
  obtain ⟨u, e, p⟩ := zi0 h s
  exact .inl ⟨a, vs, _, u, rfl, rfl, r, e, q _ H (Same.refl H) p⟩
 ·obtain ⟨a, vs, rfl, r, s⟩ := h1
  cases h2
  obtain ⟨u, e, p⟩ := zi0 h s
  exact .inr (.inl ⟨a, vs, _, u, rfl, rfl, r, e, q _ H (Same.refl H) p⟩)
 ·split at h
  ·rename_i hl
   rw [Option.map_eq_some_iff] at h
   obtain ⟨c, h, e⟩ := h
   cases e
   cases h1
   cases h2
   exact .inr (.inr ⟨_, _, c, rfl, rfl, hl, h, q _ H (Same.refl H) rfl⟩)
  ·cases h
 ·cases h
def bLen : List D → Option D
 | [.lst ds] => some (.int ds.length)
 | [.tup ds] => some (.int ds.length)
 | [.str z] => if z.length ≤ sizeLine then some (.int z.length) else none
 | _ => none
def rLen (K : PySem.W.Frag) : List V → Hp → VK → Prop := fun xs H Q => (∃ p ys, xs = [.ref p] ∧ (SqL K H p ys ∨ SqT K H p ys) ∧ Q (.int ys.length) H) ∨ ∃ z, xs = [.str z] ∧ z.length ≤ sizeLine ∧ Q (.int z.length) H
theorem zcp : zcO X (.builtin "len") (rLen X.K) := zg7.or zhi
theorem zeR : zgJ K (rLen K) bLen := fun P H ds z vs Q h i _ q => by
 unfold bLen at h
 split at h
 ·obtain ⟨v, ws, rfl, p, rfl⟩ := i
  cases h
  obtain ⟨a, us, rfl, r, s⟩ := p
  exact .inl ⟨a, us, rfl, .inl r, q _ H (Same.refl H) (by rw [s.len]; rfl)⟩
 ·obtain ⟨v, ws, rfl, p, rfl⟩ := i
  cases h
  obtain ⟨a, us, rfl, r, s⟩ := p
  exact .inl ⟨a, us, rfl, .inr r, q _ H (Same.refl H) (by rw [s.len]; rfl)⟩
 ·split at h
  ·rename_i hl
   obtain ⟨v, ws, rfl, p, rfl⟩ := i
   cases h
   cases p
   exact .inr ⟨_, rfl, hl, q _ H (Same.refl H) rfl⟩
  ·cases h
 ·cases h
def bMin : List D → Option D
 | [.int i, .int j] => some (.int (if j < i then j else i))
 | _ => none
def bMax : List D → Option D
 | [.int i, .int j] => some (.int (if j > i then j else i))
 | _ => none
theorem zj6 : zgJ K (fun xs H Q => ∃ i j, xs = [.int i, .int j] ∧ Q (.int (if j < i then j else i)) H) bMin := fun P H ds z vs Q h i _ q => by
 unfold bMin at h
 split at h
 ·obtain ⟨v, ws, rfl, p, v', ws', rfl, p', rfl⟩ := i
  cases h; cases p; cases p'
  exact ⟨_, _, rfl, q _ H (Same.refl H) rfl⟩
 ·cases h
theorem zlb : zgJ K (fun xs H Q => ∃ i j, xs = [.int i, .int j] ∧ Q (.int (if j > i then j else i)) H) bMax := fun P H ds z vs Q h i _ q => by
 unfold bMax at h
 split at h
 ·obtain ⟨v, ws, rfl, p, v', ws', rfl, p', rfl⟩ := i
  cases h; cases p; cases p'
  exact ⟨_, _, rfl, q _ H (Same.refl H) rfl⟩
 ·cases h
end
end E3
namespace E3
open PySem PySem.Spec PyProof.Rows L2
section
variable {X : Cx} {Wx : XW} {m : Mode}
def tyD : D → String
 | .non => "NoneType"
 | .bl _ => "bool"
 | .int _ => "int"
 | .str _ => "str"
 | .tup _ => "tuple"
 | .lst _ => "list"
 | .ref _ => ""
theorem zjp : zcO X (.builtin "isinstance") (fun xs H Q => ∃ (x : V) (T : String) (d : D) (P : Pl) (b : Bool), xs = [x, .ty T] ∧ IsW X.K P H d x ∧ tyD d ≠ "" ∧ PySem.W.kitOne X.K (.type (tyD d)) (.type T) = some b ∧ Q (.bl b) H) := by
  intro pins s σ H xs us Q I r h
  obtain ⟨x, T, d, A, b, rfl, i, ne, e, q⟩ := h
  obtain ⟨u, w', rfl, rx, rT⟩ := vals2 r
  cases rT
  have fin : ∀ tk, EP X pins σ Q (.bool b) { s with toks := tk } := fun tk => ⟨.bl b, H, I.tok _, rfl, q⟩
  cases d with
  | non => have hv : x = .non := i; subst hv; exact zc7 I rx (TyOf.non) e fin
  | bl y => have hv : x = .bl y := i; subst hv; exact zc7 I rx (TyOf.bl y) e fin
  | int y => have hv : x = .int y := i; subst hv; exact zc7 I rx (TyOf.int y) e fin
  | str y => have hv : x = .str y := i; subst hv; exact zc7 I rx (TyOf.str y) e fin
  | ref n => exact absurd rfl ne
  | tup ds =>
    obtain ⟨a, vs, rfl, t, _⟩ := i
    cases rx
    obtain ⟨its, _, p, _⟩ := I.tuple t
    obtain ⟨o, h1, h2, _⟩ := p
    exact PySem.W.kia_one PySem.W.kitx_tuple I.kIn ⟨o, h1, h2⟩ e (fun z => nomatch z) fin
  | lst ds =>
    obtain ⟨a, vs, rfl, t, _⟩ := i
    cases rx
    obtain ⟨_, its, _, o, h1, h2, _⟩ := sql I t
    exact PySem.W.kia_one PySem.W.kitx_list I.kIn ⟨o, h1, h2⟩ e (fun z => nomatch z) fin
def isiO (tb : String → String → Option Bool) (T : String) (d : D) : Option D := if tyD d = "" then none else (tb (tyD d) T).map .bl
theorem zkT {K : PySem.W.Frag} {P : Pl} {H : Hp} {lo : Int} {n : Nat} : Wk K P H (Itr lo n) ((List.range n).map fun (k : Nat) => .int (lo + k)) := fun P' H' l => by
 rw [List.length_map, List.length_range]
 refine ⟨fun k hk => hk, fun k h1 _ => h1, fun k x H2 y hk => ⟨y.1, .int (lo + k), ?_, y.2⟩⟩
 rw [List.getElem?_map, List.getElem?_range hk]
 rfl
def zfw (fs : EA) : EA := fun env M => match fs env M with
 | some (.v [.int j], M1) => if -1000000000 ≤ j ∧ j ≤ 1000000000 then some (.v ((List.range j.toNat).map fun (k : Nat) => .int (0 + k)), M1) else none
 | some (.x c n, M1) => some (.x c n, M1)
 | _ => none
theorem zgn {tg a : Expr} {fs : EA} {p pos : Pos} (hg : Gl X "range") (hm : X.mg "range" = none) (ha : SA X Wx .val [a] fs) (hs : starEach [a] X.env = [(false, eval a X.env)] := by rfl) : SI X Wx tg (.Call (.Name "range" p) [a] [] pos) (zfw fs) := by
 refine zgu (zjS hg hm ha hs) ?_
 rintro st H R ⟨P0, H0, P, Os, env, M, r, M', k, e, q⟩
 unfold zfw at e
 split at e
 ·rename_i j M1 ef
  split at e
  ·rename_i hj
   cases e
   refine ⟨P0, H0, P, Os, env, M, _, _, k, ef, fun P1 vs H1 l1 h1 i1 => ?_⟩
   obtain ⟨v, ws, rfl, p, rfl⟩ := i1
   exact ⟨j, by rw [show v = .int j from p], by omega, by omega, q P1 H1 _ l1 h1 zkT⟩
  ·cases e
 ·rename_i c n M1 ef
  cases e
  exact ⟨P0, H0, P, Os, env, M, _, _, k, ef, q⟩
 ·cases e
def pNo : Env → Mm → Option (Option Int × Mm) := fun _ M => some (none, M)
def pAt (f : E) : Env → Mm → Option (Option Int × Mm) := fun env M => match f env M with
 | some (.v (.int i), M1) => some (some i, M1)
 | _ => none
def tP (K : PySem.W.Frag) (mg : Str → Option Value) (f : Env → Mm → Option (Option Int × Mm)) : TO := fun st H Q => ∃ P0 H0 P Os env M i M', Ok K mg P0 H0 P Os H M st env ∧ f env M = some (i, M') ∧ ∀ P' H', LtE P H P' H' → Hk K mg P' H' M' → Q i H'
def SP3 (X : Cx) (e : Option Expr) (f : Env → Mm → Option (Option Int × Mm)) : Prop := PO X e (tP X.K X.mg f)
theorem zlt {e : Option Expr} {t t' : TO} (h : PO X e t) (w : ∀ σ H Q, t' σ H Q → t σ H Q) : PO X e t' := fun pins s σ H Q I hw => h pins s σ H Q I (w σ H Q hw)
theorem zjb : SP3 X none pNo := by
 refine zlt znf ?_
 rintro st H Q ⟨P0, H0, P, Os, env, M, i, M', k, e, q⟩
 cases e
 exact q P H (LtE.refl P H) k.hk
theorem ziN {e : Expr} {f : E} (h : SE X Wx .val e f) : SP3 X (some e) (pAt f) := by
 refine zlt (zmd h) ?_
 rintro st H Q ⟨P0, H0, P, Os, env, M, i, M', k, e, q⟩
 unfold pAt at e
 split at e
 ·rename_i j M1 ef
  cases e
  exact ⟨P0, H0, P, Os, env, M, _, _, k, ef, fun P1 v H1 l1 h1 i1 => ⟨j, i1, q P1 H1 l1 h1⟩⟩
 ·cases e
def cutL {α : Type} (xs : List α) (lo hi : Option Int) : List α := (xs.drop (HT.sIx xs.length 0 lo)).take (HT.sIx xs.length xs.length hi - HT.sIx xs.length 0 lo)
theorem zm1 {K : PySem.W.Frag} {P : Pl} {H : Hp} {ds : List D} {vs : List V} {lo hi : Option Int} (q : Iss K P H ds vs) : Iss K P H (cutL ds lo hi) (cutV vs lo hi) := by
 unfold cutL cutV
 rw [q.len]
 exact (q.drop _).take _
def slD (d : D) (lo hi : Option Int) : Option D := match d with
 | .lst ds => some (.lst (cutL ds lo hi))
 | .str z => if z.length ≤ sizeLine then some (.str (Txt.slice z lo hi)) else none
 | _ => none
def sSl (f : E) (l h : Env → Mm → Option (Option Int × Mm)) : E := fun env M => bnd (f env M) fun d M1 => match l env M1 with
  | some (lo, M2) => (match h env M2 with
    | some (hi, M3) => (slD (vw M3 d) lo hi).map fun z => (.v z, M3)
    | none => none)
  | none => none
theorem zjG {e : Expr} {lo hi : Option Expr} {p2 pos : Pos} {f : E} {l h : Env → Mm → Option (Option Int × Mm)} (he : SE X Wx .bor e f) (hl : SP3 X lo l) (hh : SP3 X hi h) : SE X Wx m (.Subscript e (.Slice lo hi none p2) pos) (sSl f l h) := by
 refine zaR (zkX (zmE.or sl_str) he hl hh) ?_
 rintro st H Q ⟨P0, H0, P, Os, env, M, r, M', k, e, q⟩
 unfold sSl at e
 rcases zaN e with ⟨d, M1, e1, e⟩ | ⟨c, n, e1, rfl⟩
 ·split at e
  ·rename_i lo' M2 el
   split at e
   ·rename_i hi' M3 eh
    rw [Option.map_eq_some_iff] at e
    obtain ⟨z, ez, e⟩ := e
    cases e
    refine zaG k e1 fun P1 v1 H1 l1 h1 i1 => ⟨P0, H0, P1, Os, env, M1, _, _, k.next l1 h1, el, fun P2 H2 l2 h2 => ⟨P0, H0, P2, Os, env, M2, _, _, (k.next l1 h1).next l2 h2, eh, fun P3 H3 l3 h3 => ?_⟩⟩
    have i3 := IsB.vw h3 (IsB.lt l3 h2 (IsB.lt l2 h1 i1))
    have fin : ∀ u H', Same H3 H' → Is X.K P3 H' z u → Q u H' := fun u H' s i => q P3 u H' (l1.trans (l2.trans (l3.trans (LtE.same s)))) (h3.same s) (IsM.of (h3.same s) i)
    generalize vw M' d = d' at i3 ez
    unfold slD at ez
    split at ez
    ·cases ez
     obtain ⟨a, vs, rfl, r, s⟩ := i3
     exact .inl ⟨a, vs, rfl, r, zjc h3.new (zm1 s) fin⟩
    ·split at ez
     ·rename_i hz
      cases ez
      cases i3
      exact .inr ⟨_, rfl, hz, fin _ _ (Same.refl _) rfl⟩
     ·cases ez
    ·cases ez
   ·cases e
  ·cases e
 ·exact zaG k e1 q
def zeg (f : E) : E := fun env M => bnd (f env M) fun d M1 => match d with
 | .lst ds => some (.v (.ref M1.length), M1 ++ [.lst ds])
 | _ => none
theorem zcX {e : Expr} {f : E} (h : SN X Wx e f) : SE X Wx m e (zeg f) := by
  refine zaR h ?_
  rintro st H Q ⟨P0, H0, P, Os, env, M, r, M', k, e, q⟩
  unfold zeg at e
  rcases zaN e with ⟨d, M1, e1, e⟩ | ⟨c, n, e1, rfl⟩
  · cases d <;> simp only [reduceCtorEq] at e
    rename_i ds
    cases e
    refine ⟨P0, H0, P, Os, env, M, _, _, k, e1, ds, rfl, fun P1 a vs H1 l1 h1 ha ba nc ea is => ?_⟩
    have hn : P1.n = M1.length := h1.n
    let P2 : Pl := { io := fun j => if j = P1.n then a else P1.io j, n := P1.n + 1, bd := P1.bd }
    have io : ∀ j, j < P1.n → P2.io j = P1.io j := fun j hj => if_neg (by omega)
    have ioN : P2.io P1.n = a := if_pos rfl
    have l2 : Lt P1 H1 P2 H1 := ⟨Nat.le_succ _, io, fun _ z => .inl z, fun _ _ e _ => e, fun _ z => z⟩
    have le : LtE P H P2 H1 := ⟨Nat.le_succ_of_le l1.n, fun j hj => (io j (Nat.lt_of_lt_of_le hj l1.n)).trans (l1.io j hj), l1.bd, l1.bm, l1.keep, l1.sure, fun j h2 h3 => by
      rcases Nat.lt_or_ge j P1.n with z | z
      · rw [io j z]; exact l1.nw j h2 z
      · have : j = P1.n := Nat.le_antisymm (Nat.le_of_lt_succ h3) z
        rw [this, ioN]
        exact ha⟩
    have hk2 : Hk X.K X.mg P2 H1 (M1 ++ [.lst ds]) := by
      refine ⟨by rw [List.length_append, ← hn]; rfl, fun j c ej => ?_, fun i j hi hj e => ?_, fun j hj => ?_, h1.here⟩
      · rcases Nat.lt_or_ge j P1.n with z | z
        · rw [List.getElem?_append_left (by rw [← hn]; exact z)] at ej
          rw [io j z]
          exact (h1.cell j c ej).lt l2 fun _ z => z
        · have jl := (List.getElem?_eq_some_iff.mp ej).1
          rw [List.length_append, List.length_singleton, ← hn] at jl
          have : j = P1.n := by omega
          subst this
          rw [List.getElem?_append_right (by rw [hn]; exact Nat.le_refl _), hn, Nat.sub_self] at ej
          cases ej
          rw [ioN]
          exact ⟨vs, ea, Iss.lt l2 is⟩
      · rcases Nat.lt_or_ge i P1.n with z | z
        · rcases Nat.lt_or_ge j P1.n with y | y
          · rw [io i z, io j y] at e
            exact h1.inj i j z y e
          · have : j = P1.n := Nat.le_antisymm (Nat.le_of_lt_succ hj) y
            rw [io i z, this, ioN] at e
            exact absurd e (nc i z)
        · have iN : i = P1.n := Nat.le_antisymm (Nat.le_of_lt_succ hi) z
          rcases Nat.lt_or_ge j P1.n with y | y
          · rw [iN, ioN, io j y] at e
            exact absurd e.symm (nc j y)
          · rw [iN]
            exact Nat.le_antisymm y (Nat.le_of_lt_succ hj)
      · rcases Nat.lt_or_ge j P1.n with z | z
        · rw [io j z]; exact h1.bd j z
        · have : j = P1.n := Nat.le_antisymm (Nat.le_of_lt_succ hj) z
          rw [this, ioN]
          exact ba
    exact q P2 _ H1 le hk2 (IsM.of hk2 (show Is _ _ _ (.ref _) _ from ⟨by show _ < P1.n + 1; rw [hn]; exact Nat.lt_succ_self _, by rw [← hn, ioN]⟩))
  · exact ⟨P0, H0, P, Os, env, M, _, _, k, e1, q⟩
def zdD (f g : E) : S := fun env M => bndS (f env M) fun d M1 => match d with
  | .ref j => (match M1[j]? with
    | some (.lst _) => bndS (g env M1) fun y M2 => (match M2[j]? with
      | some (.lst ds) => if ds.length < sizeLine then some (.nx env, M2.set j (.lst (ds ++ [y]))) else none
      | _ => none)
    | _ => none)
  | _ => none
theorem zcm {o e : Expr} {f g : E} {p q pos : Pos} (ho : SE X Wx .val o f) (he : SE X Wx .val e g) (hbase : attributeBase o "append" X.env (eval o X.env) = eval o X.env := by rfl)
  (hfew : ((backTo q (starEach [e] X.env)).all (fun x => !x.1) && (backToKw q (keywordEach [] X.env)).all (fun x => x.1.isSome) && decide ([e].length + ([] : List Keyword).length + (if ([] : List Keyword).isEmpty then 0 else 1) < 30)) = true := by rfl)
  (hline : (p.endLine == q.line) = true := by rfl) (hs : starEach [e] X.env = (false, eval e X.env) :: starEach [] X.env := by rfl) (hw : swapsWith (.Call (.Attribute o "append" p) [e] [] q) none pos.line X.env = pure false := by rfl) :
  SS X Wx (.Expr (.Call (.Attribute o "append" p) [e] [] q) pos) (zdD f g) := by
 refine zcy (zfp (zkm PySem.F.plainAttrs_list PySem.F.slot_list_append PySem.F.type_list_append zfo ho (zbR he zd2 hs) hbase hfew hline hs rfl) hw) ?_
 rintro D st H ⟨P0, H0, P, Os, env, M, out, M', k, e, q⟩
 unfold zdD at e
 rcases zbF e with ⟨d, M1, e1, e⟩ | ⟨c, n, e1, rfl⟩
 ·cases d <;> simp only [reduceCtorEq] at e
  rename_i j
  split at e
  rotate_left
  ·cases e
  rename_i ds0 em0
  refine ⟨P0, H0, P, Os, env, M, _, _, k, e1, fun P1 v1 H1 l1 h1 i1 => ?_⟩
  have k1 := k.next l1 h1
  obtain ⟨jl, rfl⟩ : j < P1.n ∧ v1 = .ref (P1.io j) := i1
  obtain ⟨vs0, ev0, _⟩ := h1.cell j _ em0
  refine ⟨.inl ⟨rfl, vs0, .inl (.inl ev0)⟩, ?_⟩
  rcases zbF e with ⟨y, M2, e2, e⟩ | ⟨c, n, e2, rfl⟩
  ·split at e
   ·rename_i ds em
    split at e
    ·rename_i hz
     cases e
     refine zaG k1 e2 fun P2 v2 H2 l2 h2 i2 => ?_
     obtain ⟨vs, ev, is⟩ := h2.cell j _ em
     rw [l2.io j jl] at ev
     have i3 := Is.lt (Lt.refl P2 H2) i2
     refine ⟨P1.io j, vs, v2, rfl, rfl, ev, by rw [is.len]; exact hz, ?_⟩
     have eio : P2.io j = P1.io j := l2.io j jl
     have jl2 : j < P2.n := Nat.lt_of_lt_of_le jl l2.n
     obtain ⟨o0, eo0, nf0⟩ := h2.cellAt jl2
     have lc : Lt P2 H2 P2 (upd H2 (P2.io j) (.lst (vs ++ [v2]))) := zfF (h2.bd j jl2) eo0 nf0
     obtain ⟨l3, l3e, h3⟩ := h2.set (c' := .lst (ds ++ [y])) (o' := .lst (vs ++ [v2])) em ⟨vs ++ [v2], zaC, Iss.append (Iss.lt lc is) (Iss.one (Is.lt lc i2))⟩
     rw [eio] at l3 l3e h3
     exact q _ _ _ _ ((l1.lt k.hk).trans ((l2.lt h1).trans l3)) ((k1.next l2 h2).next l3e h3)
    ·cases e
   ·cases e
  ·exact zaG k1 e2 q
 ·exact ⟨P0, H0, P, Os, env, M, _, _, k, e1, q⟩
end
end E3
namespace E3
open PySem PySem.Spec PyProof.Rows L2
section
variable {X : Cx} {Wx : XW} {m : Mode} {pos : Pos}
def oNeg : D → Option D
 | .int i => some (.int (-i))
 | _ => none
theorem pu_neg {K : PySem.W.Frag} : zmx K (rU fun i => .int (-i)) oNeg := fun P H d z v Q h i _ q => by
 unfold oNeg at h
 split at h
 ·cases h; cases i; exact ⟨_, rfl, q _ H (Same.refl H) rfl⟩
 ·cases h
theorem se_un {a : Expr} {op : UnaryOp} {f : E} {o : D → Option D} {r : V → Hp → VK → Prop} (ho : UnR X (unaryOp op) r) (po : zmx X.K r o) (ha : SE X Wx .bor a f) : SE X Wx m (.UnaryOp op a pos) (s1 o f) :=
 zaR (pe_un ho ha) fun _ _ _ h => t1_ok po h
def sRetN : S := fun _ M => some (.rt .non, M)
def zfO (f : E) : E := fun env M => bnd (f env M) fun d M1 => match vw M1 d with
 | .lst ds => some (.v (.lst ds), M1)
 | .tup ds => some (.v (.lst ds), M1)
 | _ => none
theorem ziW {e : Expr} {f : E} {p : Pos} (hg : Gl X "list") (hm : X.mg "list" = none) (he : SE X Wx .bor e f) (hs : starEach [e] X.env = (false, eval e X.env) :: starEach [] X.env := by rfl) : SN X Wx (.Call (.Name "list" p) [e] [] pos) (zfO f) := by
 refine zaR (zcN zgD hg hm boot_list (zbR he zd2 hs) (by decide +kernel) (by decide +kernel) hs rfl) ?_
 rintro st H Q ⟨P0, H0, P, Os, env, M, r, M', k, e, q⟩
 unfold zfO at e
 rcases zaN e with ⟨d, M1, e1, e⟩ | ⟨c, n, e1, rfl⟩
 ·refine zaG k e1 ?_
  have key : ∀ ds, r = .v (.lst ds) → M' = M1 → (∀ P1 v1 H1, IsW X.K P1 H1 (vw M1 d) v1 → ∃ a vs, v1 = .ref a ∧ (SqL X.K H1 a vs ∨ SqT X.K H1 a vs) ∧ Iss X.K P1 H1 ds vs) → ∀ P1 v1 H1, LtE P H P1 H1 → Hk X.K X.mg P1 H1 M1 → IsM X.K P1 H1 .bor d v1 →
    ∃ p ys, [v1] = [V.ref p] ∧ (SqL X.K H1 p ys ∨ SqT X.K H1 p ys) ∧ ∀ l, H1 l = none → Q (.ref l) (upd H1 l (.lst ys)) := by
   rintro ds rfl rfl hv P1 v1 H1 l1 h1 i1
   obtain ⟨ds', e', q⟩ := q
   cases e'
   obtain ⟨a, vs, rfl, sq, is⟩ := hv P1 v1 H1 (IsB.vw h1 i1)
   refine ⟨a, vs, rfl, sq, fun p hp => ?_⟩
   obtain ⟨l2, h2, nc⟩ := zgo (vs := vs) h1 hp
   exact q (P1.bar p) p vs _ (l1.trans l2) h2 (l1.sure p hp) (.inr rfl) nc zaC (Iss.lt (l2.lt h1) is)
  split at e
  ·rename_i ds ev
   cases e
   exact key ds rfl rfl fun P1 v1 H1 i => by
    rw [ev] at i
    obtain ⟨a, vs, e, s, is⟩ := i
    exact ⟨a, vs, e, .inl s, is⟩
  ·rename_i ds ev
   cases e
   exact key ds rfl rfl fun P1 v1 H1 i => by
    rw [ev] at i
    obtain ⟨a, vs, e, s, is⟩ := i
    exact ⟨a, vs, e, .inr s, is⟩
  ·cases e
 ·exact zaG k e1 q
end
end E3
namespace E3
open PySem PySem.Spec PyProof.Rows L2
def spL (K : PySem.W.Frag) (g : G) : Sp := fun vs H Q E => ∀ mg, spG K mg 1 g vs H Q E
theorem fnok_L {P : Program} {w : World} {K : PySem.W.Frag} {mg : Str → Option Value} {base : Heap} {k : Nat} {f : Addr} {fd : FuncData} {ps : List Str} {g : G} (F : FnOk P w K mg base CX0 k f fd ps (spG K mg 1 g)) : FnOk P w K mg base CX0 k f fd ps (spL K g) :=
 ⟨fun vs H Q E h => F.len vs H Q E (h mg), fun A outer s H args us vs Q E hr he hb hv hs => F.run A outer s H args us vs Q E hr he hb hv (hs mg)⟩
theorem zh6 {K : PySem.W.Frag} {P : Pl} {H : Hp} : ∀ ns : List Int, Iss K P H (ns.map D.int) (ns.map V.int)
 | [] => rfl
 | n :: ns => ⟨.int n, _, rfl, rfl, zh6 ns⟩
theorem zot {K : PySem.W.Frag} {g : G} {H : Hp} {a : Addr} {ns : List Int} (hg : ∃ M, g [.lst (ns.map D.int)] [] = some (.v (.bl true), M)) (hS : SqL K H a (ns.map V.int)) : spL K g [.ref a] H (fun v _ => v = .bl true) fun _ _ _ => False := by
 intro mg
 obtain ⟨M, e⟩ := hg
 refine ⟨rfl, ⟨fun _ => 0, 0, fun _ => False⟩, [], [.lst (ns.map D.int)], .bl true, M, ⟨rfl, fun k c e => (by cases e), fun j k h => absurd h (Nat.not_lt_zero _), fun k h => absurd h (Nat.not_lt_zero _), fun a z => z.elim⟩, ⟨.ref a, [], rfl, ⟨a, ns.map V.int, rfl, ?_, zh6 ns⟩, rfl⟩, e, fun P' v H' _ _ i => i⟩
 rcases hS with h | h
 ·exact .inl ⟨fun z => z, h⟩
 ·exact .inr h
theorem zl4 {l : PySem.W.OpenLaw} {k : Nat} {q : Program} {loose : List Str} {XP : (Str → Option Value) → Heap → Prop} {YP : World → Heap → Prop} {d : DefRec} {K : Params → PySem.W.Frag} {x : Str} {g : G}
  (hn : l.most = some 63) (hdf : d.params.defaults = []) (hr : Room k callerA) (hY : ∀ (w : World) (h : Heap), YP w h → (K w.params).In h)
  (F : ∀ (w : World) (mg : Str → Option Value) (fa : Addr) (h : Heap), (K w.params).In h → h.Ns mainGlobals mg → mg d.name = some (.ref fa) →
   ∃ fd : FuncData, (∀ (s : Shared) (u : Value), BindsTo s fd ⟨[u], []⟩ [(x, u)]) ∧
    ∀ base : Heap, (K w.params).In base → base.Ns mainGlobals mg → FnOk l.prog w (K w.params) mg base CX0 k fa fd [x] (spL (K w.params) g))
  (hg : ∀ ns : List Int, ns.length ≤ 63 → ∃ M, g [.lst (ns.map D.int)] [] = some (.v (.bl true), M)) : PySem.W.WalkO q loose XP YP l.row.toRowW d [] (fun f vs => PySem.call f vs) :=
 L2.zkN (sp := fun K => spL K g) hn (by decide) hdf hr hY F (fun K H a ns hl _ hS => zot (hg ns hl) hS) fun _ _ _ _ z => z
end E3
namespace E3
open PySem PySem.Spec PyProof.Rows L2
section
variable {X : Cx} {Wx : XW} {m : Mode} {e : Expr}
theorem se_i {i : Int} (h : PE X e (tC (.int i))) : SE X Wx m e (sCon (.int i)) := (zhR (d := .int i) h fun _ _ => rfl).bor
theorem se_s {z : Str} (h : PE X e (tC (.str z))) : SE X Wx m e (sCon (.str z)) := (zhR (d := .str z) h fun _ _ => rfl).bor
theorem se_b {b : Bool} (h : PE X e (tC (.bl b))) : SE X Wx m e (sCon (.bl b)) := (zhR (d := .bl b) h fun _ _ => rfl).bor
theorem se_v {i : Nat} {x : Str} {pos : Pos} (hN : X.N[i]? = some x) (hv : X.env.scope.names.lookup x = some .local) (hd : (x == ("__debug__" : Str)) = false := by decide +kernel) (hcd : (x == ("__classdict__" : Str)) = false := by decide +kernel) : SE X Wx m (.Name x pos) (sVar i) := (zlr hN (.inl hv) hd hcd).bor
theorem zmX {i : Nat} {x : Str} {pos : Pos} (hN : X.N[i]? = some x) (hv : X.env.scope.names.lookup x = some .local) (hd : (x == ("__debug__" : Str)) = false := by decide +kernel) (hcd : (x == ("__classdict__" : Str)) = false := by decide +kernel) : SE X Wx .bor (.Name x pos) (zgt i) := zmY hN (.inl hv) hd hcd
theorem SN.sem {f : E} (h : SN X Wx e f) (hf : ∀ env M r M', f env M = some (.v r, M') → ∃ ds, r = .lst ds) : SE X Wx m e f := (SN.se h hf).bor
end
end E3
namespace E3
open PySem PySem.Spec PyProof.Rows L2
def putD (f : Str) (d : D) : List (Str × D) → List (Str × D)
 | [] => [(f, d)]
 | (g, x) :: r => if g = f then (g, d) :: r else (g, x) :: putD f d r
section
variable {K : PySem.W.Frag} {mg : Str → Option Value} {P : Pl} {H : Hp} {M : Mm}
def FsOk (K : PySem.W.Frag) (P : Pl) (H : Hp) (fs : List (Str × D)) (gs : List (Str × V)) : Prop := gs.map (·.1) = fs.map (·.1) ∧ Iss K P H (fs.map (·.2)) (gs.map (·.2))
theorem zlB {f : Str} {d : D} : ∀ {fs : List (Str × D)} {gs : List (Str × V)}, FsOk K P H fs gs → fs.lookup f = some d → ∃ v, gs.lookup f = some v ∧ Is K P H d v
  | [], _, _, e => by cases e
  | (g, x) :: fs, [], h, _ => by cases h.1
  | (g, x) :: fs, (g', y) :: gs, h, e => by
    obtain ⟨h1, v, r, e1, p, q⟩ := h
    simp only [List.map_cons, List.cons.injEq] at h1 e1
    obtain ⟨rfl, h1⟩ := h1
    obtain ⟨rfl, rfl⟩ := e1
    simp only [List.lookup] at e ⊢
    cases hg : f == g' with
    | true => rw [hg] at e; cases e; exact ⟨y, rfl, p⟩
    | false => rw [hg] at e; exact zlB ⟨h1, q⟩ e
theorem zhr {f : Str} : ∀ {fs : List (Str × D)} {gs : List (Str × V)}, gs.map (·.1) = fs.map (·.1) → fs.lookup f = none → gs.lookup f = none
  | [], [], _, _ => rfl
  | [], _ :: _, h, _ => by cases h
  | _ :: _, [], h, _ => by cases h
  | (g, x) :: fs, (g', y) :: gs, h, e => by
    simp only [List.map_cons, List.cons.injEq] at h
    obtain ⟨rfl, h⟩ := h
    simp only [List.lookup] at e ⊢
    cases hg : f == g' with
    | true => rw [hg] at e; cases e
    | false => rw [hg] at e; exact zhr h e
theorem zls {f : Str} {d : D} {v : V} (i : Is K P H d v) : ∀ {fs : List (Str × D)} {gs : List (Str × V)}, FsOk K P H fs gs → FsOk K P H (putD f d fs) (putF f v gs)
  | [], [], _ => ⟨rfl, v, [], rfl, i, rfl⟩
  | [], _ :: _, h => by cases h.1
  | _ :: _, [], h => by cases h.1
  | (g, x) :: fs, (g', y) :: gs, h => by
    obtain ⟨h1, v', r, e1, p, q⟩ := h
    simp only [List.map_cons, List.cons.injEq] at h1 e1
    obtain ⟨rfl, h1⟩ := h1
    obtain ⟨rfl, rfl⟩ := e1
    unfold putD putF
    split
    · exact ⟨by simp [h1], v, _, rfl, i, q⟩
    · obtain ⟨a, b⟩ := zls i (fs := fs) (gs := gs) ⟨h1, q⟩
      exact ⟨by simp [a], y, _, rfl, p, b⟩
theorem znS {fs : List (Str × D)} {gs : List (Str × V)} (h : FsOk K P H fs gs) : gs.length = fs.length := by
 have := congrArg List.length h.1
 simpa using this
end
structure ClsOk (K : PySem.W.Frag) (mg : Str → Option Value) (c : Str) (C : Addr) : Prop where
 mg : mg c = some (.ref C)
 cl : Cls K C
section
variable {X : Cx} {Wx : XW} {m : Mode} {pos : Pos}
def zhg (M : Mm) (c : Str) (d : D) : Option (Nat × List (Str × D)) := match d with
  | .ref k => (match M[k]? with
    | some (.obj c' fs) => if c' = c then some (k, fs) else none
    | _ => none)
  | _ => none
theorem zc6 {M : Mm} {c : Str} {d : D} {k : Nat} {fs : List (Str × D)} (h : zhg M c d = some (k, fs)) : d = .ref k ∧ M[k]? = some (.obj c fs) := by
 unfold zhg at h
 split at h
 ·split at h
  ·split at h
   ·rename_i e1 e2
    cases h
    subst e2
    exact ⟨rfl, e1⟩
   ·cases h
  ·cases h
 ·cases h
def ziu (c f : Str) (o : E) : E := fun env M => bnd (o env M) fun d M1 => match zhg M1 c d with
 | some (_, fs) => (fs.lookup f).map fun z => (.v z, M1)
 | none => none
theorem zly {c f : Str} {C : Addr} {e : Expr} {o : E} (hc : ClsOk X.K X.mg c C) (hn : zd5 X.K C f) (he : SE X Wx .val e o) (hb : attributeBase e f X.env (eval e X.env) = eval e X.env := by rfl) : SE X Wx m (.Attribute e f pos) (ziu c f o) := by
 refine zaR (zok he hb) ?_
 rintro st H Q ⟨P0, H0, P, Os, env, M, r, M', k, e, q⟩
 unfold ziu at e
 rcases zaN e with ⟨d, M1, e1, e⟩ | ⟨c, n, e1, rfl⟩
 ·split at e
  ·rename_i j fs eo
   rw [Option.map_eq_some_iff] at e
   obtain ⟨z, ez, e⟩ := e
   cases e
   obtain ⟨rfl, em⟩ := zc6 eo
   refine zaG k e1 fun P1 v1 H1 l1 h1 i1 => ?_
   obtain ⟨jl, rfl⟩ : j < P1.n ∧ v1 = .ref (P1.io j) := i1
   obtain ⟨C', dx, gs, ec, eh, en, is⟩ := h1.cell j _ em
   have eC : C' = C := by
    have := ec.symm.trans hc.mg
    cases this
    rfl
   subst eC
   obtain ⟨v, ev, iv⟩ := zlB ⟨en, is⟩ ez
   exact ⟨_, C', dx, gs, v, rfl, eh, hc.cl, hn, ev, q P1 v H1 l1 h1 (IsM.of h1 iv)⟩
  ·cases e
 ·exact zaG k e1 q
def zjN (c f : Str) (o v : E) : S := fun env M => bndS (v env M) fun y M1 => bndS (o env M1) fun d M2 => match zhg M2 c d with
 | some (k, fs) => if fs.length < 1000 then some (.nx env, M2.set k (.obj c (putD f y fs))) else none
 | none => none
theorem zmT {K : PySem.W.Frag} {mg : Str → Option Value} {P : Pl} {H : Hp} {M : Mm} {j : Nat} {c f : Str} {fs : List (Str × D)} {y : D} {v : V} {C dx : Addr} {gs : List (Str × V)} (h : Hk K mg P H M) (em : M[j]? = some (.obj c fs)) (ec : mg c = some (.ref C)) (eh : H (P.io j) = some (.ins C dx gs)) (fo : FsOk K P H fs gs) (iv : Is K P H y v) :
  Lt P H P (upd H (P.io j) (.ins C dx (putF f v gs))) ∧ LtE P H P (upd H (P.io j) (.ins C dx (putF f v gs))) ∧ Hk K mg P (upd H (P.io j) (.ins C dx (putF f v gs))) (M.set j (.obj c (putD f y fs))) := by
 have jl : j < P.n := by rw [h.n]; exact (List.getElem?_eq_some_iff.mp em).1
 have lc : Lt P H P (upd H (P.io j) (.ins C dx (putF f v gs))) := zfF (h.bd j jl) eh nf_ins
 have fp := zls (f := f) iv fo
 exact h.set (c' := .obj c (putD f y fs)) (o' := .ins C dx (putF f v gs)) em ⟨C, dx, putF f v gs, ec, zaC, fp.1, Iss.lt lc fp.2⟩
theorem zmh {c f : Str} {C : Addr} {o e : Expr} {fo fv : E} {pos' : Pos} (hc : ClsOk X.K X.mg c C) (hn : zd5 X.K C f) (ho : SE X Wx .val o fo) (he : SE X Wx .val e fv) (hs : swapsWith e (some (.Attribute o f pos')) pos.line X.env = pure false := by rfl) : SS X Wx (.Assign [.Attribute o f pos'] e pos) (zjN c f fo fv) := by
 refine zcy (ps_fld ho he hs) ?_
 rintro D st H ⟨P0, H0, P, Os, env, M, out, M', k, e, q⟩
 unfold zjN at e
 rcases zbF e with ⟨y, M1, e1, e⟩ | ⟨c, n, e1, rfl⟩
 ·refine zaG k e1 fun P1 v1 H1 l1 h1 i1 => ?_
  have k1 := k.next l1 h1
  rcases zbF e with ⟨d, M2, e2, e⟩ | ⟨c, n, e2, rfl⟩
  ·split at e
   ·rename_i j fs eo
    split at e
    ·rename_i hl
     cases e
     obtain ⟨rfl, em⟩ := zc6 eo
     refine zaG k1 e2 fun P2 v2 H2 l2 h2 i2 => ?_
     obtain ⟨jl, rfl⟩ : j < P2.n ∧ v2 = .ref (P2.io j) := i2
     obtain ⟨C', dx, gs, ec, eh, en, is⟩ := h2.cell j _ em
     have eC : C' = C := by
      have := ec.symm.trans hc.mg
      cases this
      rfl
     subst eC
     obtain ⟨l3, l3e, h3⟩ := zmT (f := f) h2 em ec eh ⟨en, is⟩ (Is.lt (l2.lt h1) i1)
     exact ⟨_, C', dx, gs, rfl, eh, hc.cl, hn, by rw [znS ⟨en, is⟩]; exact hl, q _ _ _ _ ((l1.lt k.hk).trans ((l2.lt h1).trans l3)) ((k1.next l2 h2).next l3e h3)⟩
    ·cases e
   ·cases e
  ·exact zaG k1 e2 q
 ·exact zaG k e1 q
def AtM (P : Program) (w : World) (K : PySem.W.Frag) (mg : Str → Option Value) (base : Heap) (k : Nat) (C : Addr) (m : Str) (n : Nat) (g : G) : Prop :=
 ∃ f fd ps, Meth K C m f ∧ FnOk P w K mg base CX0 k f fd ps (spG K mg n g) ∧ Binds K fd ps []
theorem AtM.mono {P : Program} {w : World} {K : PySem.W.Frag} {mg : Str → Option Value} {base : Heap} {j k : Nat} {C : Addr} {m : Str} {n : Nat} {g : G} (a : AtM P w K mg base j C m n g) (h : j ≤ k) : AtM P w K mg base k C m n g := by
 obtain ⟨f, fd, ps, h1, h2, h3⟩ := a
 exact ⟨f, fd, ps, h1, h2.mono h, h3⟩
def zd4 (c m : Str) (g : G) (o : E) (fs : EA) : E := fun env M => bnd (o env M) fun d M1 => match zhg M1 c d with
  | some (_, gs) => if gs.lookup m = none then bndA (fs env M1) fun ds M2 => (match g (d :: ds) M2 with
    | some (.v z, M3) => some (.v z, M3)
    | _ => none) else none
  | none => none
theorem znb {c me : Str} {C : Addr} {k n : Nat} {g : G} {o e : Expr} {es : List Expr} {fo : E} {fs : EA} {apos : Pos} {pl : Sem Bool} (hc : ClsOk X.K X.mg c C) (a : AtM X.prog X.w X.K X.mg X.base k C me (n + 1) g) (hr : Room k X.A) (ho : SE X Wx .val o fo) (ha : SA X Wx .val (e :: es) fs) (hn : Cnt n fs)
    (hst : starEach (e :: es) X.env = (false, eval e X.env) :: starEach es X.env := by rfl) (hpl : (backTo pos (starEach es X.env)).any (·.1) = false := by rfl)
    (ht : eval (.Call (.Attribute o me apos) (e :: es) [] pos) X.env = (do
      let ov ← eval o X.env
      standAt apos.atName
      let (f, first) ← holding [ov] (getMethod ov me pl)
      callWith pos f first (backTo pos (starEach (e :: es) X.env)) (backToKw pos (keywordEach [] X.env))) := by rfl) :
    SE X Wx m (.Call (.Attribute o me apos) (e :: es) [] pos) (zd4 c me g fo fs) := by
  obtain ⟨f, fd, ps, hm, F, hb⟩ := a
  refine zaR (zmo ho hc.cl hm F hr hb .nil zkO ha hst hpl ht) ?_
  rintro st H Q ⟨P0, H0, P, Os, env, M, r, M', k, e, q⟩
  unfold zd4 at e
  rcases zaN e with ⟨d, M1, e1, e⟩ | ⟨c, n, e1, rfl⟩
  · split at e
    · rename_i j gs eo
      split at e
      · rename_i hl
        obtain ⟨rfl, em⟩ := zc6 eo
        refine zaG k e1 fun P1 v1 H1 l1 h1 i1 => ?_
        have k1 := k.next l1 h1
        obtain ⟨jl, rfl⟩ : j < P1.n ∧ v1 = .ref (P1.io j) := i1
        obtain ⟨C', dx, vs, ec, eh, en, is⟩ := h1.cell j _ em
        have eC : C' = C := by
          have := ec.symm.trans hc.mg
          cases this
          rfl
        subst eC
        refine ⟨_, dx, vs, rfl, eh, zhr en hl, ?_⟩
        rcases zcz e with ⟨ds, M2, e2, e⟩ | ⟨c, n, e2, rfl⟩
        · split at e
          · rename_i z M3 eg
            cases e
            refine ⟨P0, H0, P1, Os, env, M1, _, _, k1, e2, fun P2 us H2 l2 h2 i2 => ?_⟩
            dsimp only
            rw [List.append_nil]
            exact ⟨by rw [List.length_cons, i2.len, hn _ _ _ _ e2], P2, M2, .ref j :: ds, z, _, h2, ⟨_, _, rfl, ⟨Nat.lt_of_lt_of_le jl l2.n, by rw [l2.io j jl]⟩, i2.iss⟩, eg, fun P3 v H3 l3 h3 i3 => q P3 v H3 (l1.trans (l2.trans l3)) h3 (IsM.of h3 i3)⟩
          · cases e
        · exact ⟨P0, H0, P1, Os, env, M1, _, _, k1, e2, q⟩
      · cases e
    · cases e
  · exact zaG k e1 q
theorem zeQ {c me : Str} {C : Addr} {k : Nat} {g : G} {o : Expr} {fo : E} {apos : Pos} {pl : Sem Bool} (hc : ClsOk X.K X.mg c C) (a : AtM X.prog X.w X.K X.mg X.base k C me 1 g) (hr : Room k X.A) (ho : SE X Wx .val o fo)
    (ht : eval (.Call (.Attribute o me apos) [] [] pos) X.env = (do
      let ov ← eval o X.env
      standAt apos.atName
      let (f, first) ← holding [ov] (getMethod ov me pl)
      callWith pos f first (backTo pos (starEach [] X.env)) (backToKw pos (keywordEach [] X.env))) := by rfl) :
    SE X Wx m (.Call (.Attribute o me apos) [] [] pos) (zd4 c me g fo sNil) := by
  obtain ⟨f, fd, ps, hm, F, hb⟩ := a
  refine zaR (zkU ho hc.cl hm F hr hb .nil zkO ht) ?_
  rintro st H Q ⟨P0, H0, P, Os, env, M, r, M', k, e, q⟩
  unfold zd4 at e
  rcases zaN e with ⟨d, M1, e1, e⟩ | ⟨c, n, e1, rfl⟩
  · split at e
    · rename_i j gs eo
      split at e
      · rename_i hl
        obtain ⟨rfl, em⟩ := zc6 eo
        refine zaG k e1 fun P1 v1 H1 l1 h1 i1 => ?_
        obtain ⟨jl, rfl⟩ : j < P1.n ∧ v1 = .ref (P1.io j) := i1
        obtain ⟨C', dx, vs, ec, eh, en, is⟩ := h1.cell j _ em
        have eC : C' = C := by
          have := ec.symm.trans hc.mg
          cases this
          rfl
        subst eC
        refine ⟨_, dx, vs, rfl, eh, zhr en hl, ?_⟩
        simp only [bndA, sNil] at e
        split at e
        · rename_i z M3 eg
          cases e
          exact ⟨rfl, P1, M1, [.ref j], z, _, h1, ⟨_, _, rfl, ⟨jl, rfl⟩, rfl⟩, eg, fun P3 v H3 l3 h3 i3 => q P3 v H3 (l1.trans l3) h3 (IsM.of h3 i3)⟩
        · cases e
      · cases e
    · cases e
  · exact zaG k e1 q
end
end E3
namespace E3
open PySem PySem.Spec PyProof.Rows L2
section
variable {X : Cx} {Wx : XW} {m : Mode} {pos : Pos}
theorem zkv {K : PySem.W.Frag} {mg : Str → Option Value} {P : Pl} {H H' : Hp} {M : Mm} {a : Addr} {c : Cl} (h : Hk K mg P H M) (s : Same H H') (ha : H a = none) (ea : H' a ≠ none) (hc : ∀ P', P'.n = P.n + 1 → P'.io P.n = a → zfA K mg P' H' a c) : ∃ P', P'.n = P.n + 1 ∧ P'.io P.n = a ∧ LtE P H P' H' ∧ Hk K mg P' H' (M ++ [c]) := by
 let P2 : Pl := { io := fun j => if j = P.n then a else P.io j, n := P.n + 1, bd := fun b => P.bd b ∨ b = a }
 have io : ∀ j, j < P.n → P2.io j = P.io j := fun j hj => if_neg (by omega)
 have ioN : P2.io P.n = a := if_pos rfl
 have nc : ∀ j, j < P.n → P.io j ≠ a := fun j hj z => h.here _ (h.bd j hj) (z ▸ ha)
 have l : LtE P H P2 H' := ⟨Nat.le_succ _, io, fun b z => Or.imp (fun q => q) (fun (q : b = a) => by rw [q]; exact ha) z, fun _ z => .inl z, fun b o e _ => s b o e, fun b z => s.free z, fun j h2 h3 => by
  have : j = P.n := Nat.le_antisymm (Nat.le_of_lt_succ h3) h2
  rw [this, ioN]
  exact ha⟩
 refine ⟨P2, rfl, ioN, l, ⟨by rw [List.length_append, ← h.n]; rfl, fun j d ej => ?_, fun i j hi hj e => ?_, fun j hj => ?_, fun b z => ?_⟩⟩
 ·rcases Nat.lt_or_ge j P.n with z | z
  ·rw [List.getElem?_append_left (by rw [← h.n]; exact z)] at ej
   rw [io j z]
   exact (h.cell j d ej).lt (l.lt h) fun o eo => s _ _ eo
  ·have jl := (List.getElem?_eq_some_iff.mp ej).1
   rw [List.length_append, List.length_singleton, ← h.n] at jl
   have : j = P.n := by omega
   subst this
   rw [List.getElem?_append_right (by rw [h.n]; exact Nat.le_refl _), h.n, Nat.sub_self] at ej
   cases ej
   rw [ioN]
   exact hc P2 rfl ioN
 ·rcases Nat.lt_or_ge i P.n with z | z
  ·rcases Nat.lt_or_ge j P.n with y | y
   ·rw [io i z, io j y] at e
    exact h.inj i j z y e
   ·have : j = P.n := Nat.le_antisymm (Nat.le_of_lt_succ hj) y
    rw [io i z, this, ioN] at e
    exact absurd e (nc i z)
  ·have iN : i = P.n := Nat.le_antisymm (Nat.le_of_lt_succ hi) z
   rcases Nat.lt_or_ge j P.n with y | y
   ·rw [iN, ioN, io j y] at e
    exact absurd e.symm (nc j y)
   ·rw [iN]
    exact Nat.le_antisymm y (Nat.le_of_lt_succ hj)
 ·rcases Nat.lt_or_ge j P.n with z | z
  ·rw [io j z]; exact .inl (h.bd j z)
  ·have : j = P.n := Nat.le_antisymm (Nat.le_of_lt_succ hj) z
   rw [this, ioN]
   exact .inr rfl
 ·rcases z with z | z
  ·exact fun q => h.here b z (s.free q)
  ·rw [z]; exact ea
def AtI (P : Program) (w : World) (K : PySem.W.Frag) (mg : Str → Option Value) (base : Heap) (k : Nat) (C : Addr) (n : Nat) (g : G) : Prop :=
 ∃ f fd ps, Mk K C f ∧ FnOk P w K mg base CX0 k f fd ps (spG K mg n g) ∧ Binds K fd ps []
def zjo (c : Str) (g : G) (fs : EA) : E := fun env M => bndA (fs env M) fun ds M1 => match g (.ref M1.length :: ds) (M1 ++ [.obj c []]) with
 | some (.v .non, M2) => some (.v (.ref M1.length), M2)
 | _ => none
theorem zm8 {c : Str} {C : Addr} {k n : Nat} {g : G} {e : Expr} {es : List Expr} {fs : EA} {p : Pos} (hc : ClsOk X.K X.mg c C) (a : AtI X.prog X.w X.K X.mg X.base k C (n + 1) g) (hr : Room (k + 1) X.A) (hg : Gl X c) (ha : SA X Wx .val (e :: es) fs) (hn : Cnt n fs) (hdb : (c == ("__debug__" : Str)) = false := by decide +kernel)
  (he : starEach (e :: es) X.env = (false, eval e X.env) :: starEach es X.env := by rfl) (hpl : (backTo pos (starEach es X.env)).any (·.1) = false := by rfl) : SE X Wx m (.Call (.Name c p) (e :: es) [] pos) (zjo c g fs) := by
 obtain ⟨f, fd, ps, mk, F, hb⟩ := a
 refine zaR (zm2 mk F hr hg hc.mg hb .nil zkO ha hdb he hpl) ?_
 rintro st H Q ⟨P0, H0, P, Os, env, M, r, M', k, e, q⟩
 unfold zjo at e
 rcases zcz e with ⟨ds, M1, e1, e⟩ | ⟨c, n, e1, rfl⟩
 ·split at e
  ·rename_i M2 eg
   cases e
   refine ⟨P0, H0, P, Os, env, M, _, _, k, e1, fun P1 vs H1 l1 h1 i1 => fun x dx hx hdx ne => ?_⟩
   have s2 : Same H1 (upd (upd H1 dx (.own x)) x (.ins C dx [])) := fun b o eb => by
    rw [zar (za3 eb hx), zar (za3 eb hdx)]
    exact eb
   obtain ⟨P2, n2, io2, l2, h2⟩ := zkv (c := .obj c []) h1 s2 hx (by rw [zaC]; exact fun z => nomatch z) fun P' _ _ => ⟨C, dx, [], hc.mg, zaC, rfl, rfl⟩
   have el : P1.n = M1.length := h1.n
   have iref : Is X.K P2 (upd (upd H1 dx (.own x)) x (.ins C dx [])) (.ref M1.length) (.ref x) := ⟨by rw [n2, el]; exact Nat.lt_succ_self _, by rw [← el, io2]⟩
   refine ⟨by rw [List.append_nil, List.length_cons, i1.len, hn _ _ _ _ e1], P2, M1 ++ [.obj c []], .ref M1.length :: ds, .non, _, h2, ⟨_, _, rfl, iref, by rw [List.append_nil]; exact Iss.lt (l2.lt h1) i1.iss⟩, eg, fun P3 v H3 l3 h3 i3 => ⟨i3, ?_⟩⟩
   refine q P3 _ H3 (l1.trans (l2.trans l3)) h3 (IsM.of h3 (Is.lt (l3.lt h2) iref))
  ·cases e
 ·exact ⟨P0, H0, P, Os, env, M, _, _, k, e1, q⟩
end
end E3
namespace E3
open PySem PySem.Spec PyProof.Rows L2 PySem.W
def runT {α : Type} (lt : Nat → Nat → Option Bool) : KasT α → Option α
  | .ret a => some a
  | .ask i j k => match lt i j with
    | some b => runT lt (k b)
    | none => none
def Stays (a : Addr) (h h' : Heap) : Prop := ∀ b o, b ≠ a → h.get? b = some o → h'.get? b = some o
section
variable {prog : Program} {w : World} {A : Around} {E : Value → Shared → Prop} {s : Shared}
end
end E3
namespace E3
open PySem PySem.Spec PyProof.Rows L2 PySem.W
def ltT : List D → List D → Option Bool
 | [], [] => some false
 | .int i :: ps, .int j :: qs => if i = j then ltT ps qs else some (decide (i < j))
 | .str a :: ps, .str b :: qs => if a = b then ltT ps qs else none
 | _, _ => none
def ltD (ds : List D) (i j : Nat) : Option Bool := match ds.getD i .non with
  | .tup xs => (match ds.getD j .non with
    | .tup ys => ltT xs ys
    | _ => none)
  | _ => none
section
variable {prog : Program} {w : World} {A : Around} {s : Shared} {K : PySem.W.Frag} {P : Pl} {H : Hp}
end
def tupI : D → Bool
 | .tup (.int _ :: _) => true
 | _ => false
section
variable {X : Cx} {pins : List (Addr × Obj)} {σ : L2.St} {H : Hp} {s : Shared}
end
end E3
namespace E3
open PySem PySem.Spec PyProof.Rows L2 PySem.W
section
variable {prog : Program} {w : World} {A : Around} {E : Value → Shared → Prop} {s : Shared}
end
section
variable {X : Cx} {Wx : XW}
def zma (ds : List D) : Option (List D) := if ds.length < 2 then some ds else if ds.length < 64 ∧ ds.all tupI = true then (runT (ltD ds) (kas_sort ds.length)).map fun p => p.toList.map fun i => ds.getD i .non else none
def zjn (f : E) : E := fun env M => bnd (f env M) fun d M1 => match vw M1 d with
 | .lst ds => (zma ds).map fun es => (.v (.lst es), M1)
 | _ => none
end
def Low (n : Nat) (p : Array Nat) : Prop := p.size = n ∧ ∀ x ∈ p.toList, x < n
section
variable {n : Nat} {lt : Nat → Nat → Option Bool} (hn : 0 < n) (tot : ∀ i j, i < n → j < n → ∃ b, lt i j = some b)
include hn tot
end
end E3
namespace E3
open PySem L2
section
variable {env : Env} {M M1 : Mm} {f g h c : E} {d e : D} {i j : Int} {n k : Nat} {z : Str} {b : Bool} {ds es : List D} {s t : S} {x : Str}
def seqR (g : S) : OS → OS
 | some (.nx e, M1) => g e M1
 | o => o
theorem zm6 : sSeq s t env M = seqR t (s env M) := by
 unfold sSeq seqR
 cases s env M with
 | none => rfl
 | some p => obtain ⟨o, M⟩ := p; cases o <;> rfl
theorem r_nx {e : Env} : seqR t (some (.nx e, M)) = t e M := rfl
theorem r_rt : seqR t (some (.rt d, M)) = some (.rt d, M) := rfl
theorem r_bk {e : Env} : seqR t (some (.bk e, M)) = some (.bk e, M) := rfl
theorem r_ct {e : Env} : seqR t (some (.ct e, M)) = some (.ct e, M) := rfl
theorem r_ex {a : Int} : seqR t (some (.ex x a, M)) = some (.ex x a, M) := rfl
theorem q_end : sEnd env M = some (.nx env, M) := rfl
def varR (M : Mm) : Option Slot → O
 | some (.val d) => some (.v d, M)
 | _ => none
def varB (M : Mm) : Option Slot → O
 | some (.val d) => some (.v d, M)
 | some (.own ds) => some (.v (.lst ds), M)
 | _ => none
theorem q_v : sVar k env M = varR M env[k]? := by
 unfold sVar varR; split <;> simp_all
theorem q_vb : zgt k env M = varB M env[k]? := by
 unfold zgt varB; split <;> simp_all
theorem r_v : varR M (some (.val d)) = some (.v d, M) := rfl
theorem r_vb : varB M (some (.val d)) = some (.v d, M) := rfl
theorem r_vo : varB M (some (.own ds)) = some (.v (.lst ds), M) := rfl
theorem q_con : sCon d env M = some (.v d, M) := rfl
def mapR (M : Mm) : Option D → O
 | some z => some (.v z, M)
 | none => none
theorem r_map : mapR M (some d) = some (.v d, M) := rfl
def oneR (o : D → Option D) : O → O
 | some (.v d, M) => mapR M (o (vw M d))
 | some (.x c n, M) => some (.x c n, M)
 | none => none
theorem q_1 {o : D → Option D} : s1 o f env M = oneR o (f env M) := by
  unfold s1 oneR bnd
  cases f env M with
  | none => rfl
  | some p => obtain ⟨r, M'⟩ := p; cases r with
    | v d => dsimp only; cases o (vw M' d) <;> rfl
    | x c n => rfl
theorem r_1 {o : D → Option D} : oneR o (some (.v d, M)) = mapR M (o (vw M d)) := rfl
def twoS (o : D → D → Option D) (d : D) : O → O
 | some (.v e, M) => mapR M (o (vw M d) (vw M e))
 | some (.x c n, M) => some (.x c n, M)
 | none => none
def twoK (o : D → D → Option D) (k : Mm → O) : O → O
 | some (.v d, M) => twoS o d (k M)
 | some (.x c n, M) => some (.x c n, M)
 | none => none
theorem q_2 {o : D → D → Option D} : s2 o f g env M = twoK o (g env) (f env M) := by
  unfold s2 twoK bnd
  cases f env M with
  | none => rfl
  | some p => obtain ⟨r, M'⟩ := p; cases r with
    | x c n => rfl
    | v d =>
      dsimp only
      unfold twoS
      cases g env M' with
      | none => rfl
      | some p => obtain ⟨r, M2⟩ := p; cases r with
        | x c n => rfl
        | v e => dsimp only; cases o (vw M2 d) (vw M2 e) <;> rfl
theorem r_2 {o : D → D → Option D} {q : Mm → O} : twoK o q (some (.v d, M)) = twoS o d (q M) := rfl
theorem r_2s {o : D → D → Option D} : twoS o d (some (.v e, M)) = mapR M (o (vw M d) (vw M e)) := rfl
theorem w_int : vw M (.int i) = .int i := rfl
theorem w_str : vw M (.str z) = .str z := rfl
theorem w_bl : vw M (.bl b) = .bl b := rfl
theorem w_non : vw M .non = .non := rfl
theorem w_tup : vw M (.tup ds) = .tup ds := rfl
theorem w_lst : vw M (.lst ds) = .lst ds := rfl
theorem q_tru : sTru f env M = oneR (fun d => (truD d).map .bl) (f env M) := q_1
theorem zox : zis f env M = oneR (fun d => (truD d).map fun b => .bl (!b)) (f env M) := q_1
def notR : O → O
 | some (.v (.bl b), M) => some (.v (.bl (!b)), M)
 | some (.x c n, M) => some (.x c n, M)
 | _ => none
theorem q_not : sNot f env M = notR (f env M) := by
  unfold sNot notR bnd
  cases f env M with
  | none => rfl
  | some p => obtain ⟨r, M'⟩ := p; cases r with
    | x c n => rfl
    | v d => cases d <;> rfl
theorem r_not : notR (some (.v (.bl b), M)) = some (.v (.bl (!b)), M) := rfl
def iteR (k1 k2 : Mm → O) : O → O
 | some (.v (.bl b), M) => if b = true then k1 M else k2 M
 | some (.x c n, M) => some (.x c n, M)
 | _ => none
theorem q_and : sAnd f g env M = iteR (g env) (fun M => some (.v (.bl false), M)) (f env M) := by
  unfold sAnd iteR bnd
  cases f env M with
  | none => rfl
  | some p => obtain ⟨r, M'⟩ := p; cases r with
    | x c n => rfl
    | v d => cases d <;> rfl
theorem q_or : sOr f g env M = iteR (fun M => some (.v (.bl true), M)) (g env) (f env M) := by
  unfold sOr iteR bnd
  cases f env M with
  | none => rfl
  | some p => obtain ⟨r, M'⟩ := p; cases r with
    | x c n => rfl
    | v d => cases d <;> rfl
theorem q_ite : sIte c f g env M = iteR (f env) (g env) (c env M) := by
  unfold sIte iteR bnd
  cases c env M with
  | none => rfl
  | some p => obtain ⟨r, M'⟩ := p; cases r with
    | x c n => rfl
    | v d => cases d <;> rfl
theorem r_ite {k1 k2 : Mm → O} : iteR k1 k2 (some (.v (.bl b), M)) = if b = true then k1 M else k2 M := rfl
def conA (d : D) : Option (ResA × Mm) → Option (ResA × Mm)
 | some (.v ds, M2) => some (.v (d :: ds), M2)
 | some (.x c n, M2) => some (.x c n, M2)
 | none => none
def zkC (k : Mm → Option (ResA × Mm)) : O → Option (ResA × Mm)
 | some (.v d, M1) => conA d (k M1)
 | some (.x c n, M1) => some (.x c n, M1)
 | none => none
theorem q_nil : sNil env M = some (.v [], M) := rfl
theorem q_cons {fs : EA} : zag f fs env M = zkC (fs env) (f env M) := by
  unfold zag zkC
  cases f env M with
  | none => rfl
  | some p => obtain ⟨r, M'⟩ := p; cases r with
    | x c n => rfl
    | v d =>
      dsimp only
      unfold conA
      cases fs env M' with
      | none => rfl
      | some p => obtain ⟨r, M2⟩ := p; cases r <;> rfl
theorem znC {q : Mm → Option (ResA × Mm)} : zkC q (some (.v d, M)) = conA d (q M) := rfl
theorem r_conA : conA d (some (.v ds, M)) = some (.v (d :: ds), M) := rfl
def argR (o : List D → Option D) : Option (ResA × Mm) → O
 | some (.v ds, M) => mapR M (o (ds.map (vw M)))
 | some (.x c n, M) => some (.x c n, M)
 | none => none
theorem q_n {o : List D → Option D} {fs : EA} : sN o fs env M = argR o (fs env M) := by
  unfold sN argR bndA
  cases fs env M with
  | none => rfl
  | some p => obtain ⟨r, M'⟩ := p; cases r with
    | x c n => rfl
    | v d => dsimp only; cases o (d.map (vw M')) <;> rfl
theorem r_n {o : List D → Option D} : argR o (some (.v ds, M)) = mapR M (o (ds.map (vw M))) := rfl
def argK (k : List D → Mm → O) : Option (ResA × Mm) → O
 | some (.v ds, M) => k ds M
 | some (.x c n, M) => some (.x c n, M)
 | none => none
theorem r_argK {q : List D → Mm → O} : argK q (some (.v ds, M)) = q ds M := rfl
theorem q_tup {fs : EA} : sTup fs env M = argK (fun ds M1 => if ds.length ≤ sizeLine then some (.v (.tup ds), M1) else none) (fs env M) := rfl
theorem q_lst {fs : EA} : sLst fs env M = argK (fun ds M1 => if ds.length ≤ sizeLine then some (.v (.lst ds), M1) else none) (fs env M) := rfl
def zl0 : O → O
 | some (.v d, M) => some (.v d, M)
 | _ => none
theorem zl6 : zl0 (some (.v d, M)) = some (.v d, M) := rfl
theorem znp {u : G} {fs : EA} : zb5 u fs env M = argK (fun ds M1 => zl0 (u ds M1)) (fs env M) := by
  unfold zb5 argK bndA
  cases fs env M with
  | none => rfl
  | some p => obtain ⟨r, M'⟩ := p; cases r with
    | x c n => rfl
    | v d =>
      dsimp only
      unfold zl0
      cases u d M' with
      | none => rfl
      | some p => obtain ⟨r, M2⟩ := p; cases r <;> rfl
def bndK (k : D → Mm → O) : O → O
 | some (.v d, M) => k d M
 | some (.x c n, M) => some (.x c n, M)
 | none => none
theorem ziS {q : D → Mm → O} : bndK q (some (.v d, M)) = q d M := rfl
def zn0 (M : Mm) : D → O
 | .lst ds => some (.v (.ref M.length), M ++ [.lst ds])
 | _ => none
theorem zlL : zn0 M (.lst ds) = some (.v (.ref M.length), M ++ [.lst ds]) := rfl
theorem zny : zeg f env M = bndK (fun d M1 => zn0 M1 d) (f env M) := by
  unfold zeg bndK bnd
  cases f env M with
  | none => rfl
  | some p => obtain ⟨r, M'⟩ := p; cases r with
    | x c n => rfl
    | v d => cases d <;> rfl
def listD (M : Mm) : D → O
 | .lst ds => some (.v (.lst ds), M)
 | .tup ds => some (.v (.lst ds), M)
 | _ => none
theorem zlI : listD M (.lst ds) = some (.v (.lst ds), M) := rfl
theorem q_list : zfO f env M = bndK (fun d M1 => listD M1 (vw M1 d)) (f env M) := by
  unfold zfO bndK bnd
  cases f env M with
  | none => rfl
  | some p => obtain ⟨r, M'⟩ := p; cases r with
    | x c n => rfl
    | v d => dsimp only; cases vw M' d <;> rfl
def srtD (M : Mm) : D → O
 | .lst ds => mapR M ((zma ds).map .lst)
 | _ => none
theorem q_srt : zjn f env M = bndK (fun d M1 => srtD M1 (vw M1 d)) (f env M) := by
  unfold zjn bndK bnd
  cases f env M with
  | none => rfl
  | some p => obtain ⟨r, M'⟩ := p; cases r with
    | x c n => rfl
    | v d =>
      dsimp only
      unfold srtD
      cases vw M' d <;> try rfl
      dsimp only
      cases zma _ <;> rfl
def slH (d : D) (lo : Option Int) : Option (Option Int × Mm) → O
 | some (hi, M3) => mapR M3 (slD (vw M3 d) lo hi)
 | none => none
def slL (d : D) (k : Mm → Option (Option Int × Mm)) : Option (Option Int × Mm) → O
 | some (lo, M2) => slH d lo (k M2)
 | none => none
theorem q_sl {l u : Env → Mm → Option (Option Int × Mm)} : sSl f l u env M = bndK (fun d M1 => slL d (u env) (l env M1)) (f env M) := by
  unfold sSl bndK bnd
  cases f env M with
  | none => rfl
  | some p => obtain ⟨r, M'⟩ := p; cases r with
    | x c n => rfl
    | v d =>
      dsimp only
      unfold slL
      cases l env M' with
      | none => rfl
      | some p =>
        obtain ⟨lo, M2⟩ := p
        dsimp only
        unfold slH
        cases u env M2 with
        | none => rfl
        | some p => obtain ⟨hi, M3⟩ := p; dsimp only; cases slD (vw M3 d) lo hi <;> rfl
theorem r_slL {lo : Option Int} {q : Mm → Option (Option Int × Mm)} : slL d q (some (lo, M)) = slH d lo (q M) := rfl
theorem r_slH {lo hi : Option Int} : slH d lo (some (hi, M)) = mapR M (slD (vw M d) lo hi) := rfl
theorem q_pno : pNo env M = some (none, M) := rfl
def patR : O → Option (Option Int × Mm)
 | some (.v (.int i), M) => some (some i, M)
 | _ => none
theorem q_pat : pAt f env M = patR (f env M) := by
  unfold pAt patR
  cases f env M with
  | none => rfl
  | some p => obtain ⟨r, M'⟩ := p; cases r with
    | x c n => rfl
    | v d => cases d <;> rfl
theorem r_pat : patR (some (.v (.int i), M)) = some (some i, M) := rfl
def bndT (k : D → Mm → OS) : O → OS
 | some (.v d, M) => k d M
 | some (.x c n, M) => some (.ex c n, M)
 | none => none
theorem zog {q : D → Mm → OS} : bndT q (some (.v d, M)) = q d M := rfl
theorem q_asg : sAsg k f env M = bndT (fun d M1 => if k < env.length then some (.nx (env.set k (.val d)), M1) else none) (f env M) := rfl
def zoA (k : Nat) (env : Env) (M : Mm) : D → OS
 | .lst ds => if k < env.length then some (.nx (env.set k (.own ds)), M) else none
 | _ => none
theorem zoh : zoA k env M (.lst ds) = if k < env.length then some (.nx (env.set k (.own ds)), M) else none := rfl
theorem znE : zhm k f env M = bndT (fun d M1 => zoA k env M1 d) (f env M) := by
  unfold zhm bndT bndS
  cases f env M with
  | none => rfl
  | some p => obtain ⟨r, M'⟩ := p; cases r with
    | x c n => rfl
    | v d => cases d <;> rfl
theorem q_ret : sRet f env M = bndT (fun d M1 => some (.rt d, M1)) (f env M) := rfl
theorem q_retN : sRetN env M = some (.rt .non, M) := rfl
theorem zoz : zg6 f env M = bndT (fun _ M1 => some (.nx env, M1)) (f env M) := rfl
def ifD (s t : Mm → OS) (M : Mm) : D → OS
 | .bl b => if b = true then s M else t M
 | _ => none
theorem r_if {q r : Mm → OS} : ifD q r M (.bl b) = if b = true then q M else r M := rfl
theorem q_if : sIf c s t env M = bndT (fun d M1 => ifD (s env) (t env) M1 d) (c env M) := by
  unfold sIf bndT bndS
  cases c env M with
  | none => rfl
  | some p => obtain ⟨r, M'⟩ := p; cases r with
    | x c n => rfl
    | v d => cases d <;> rfl
def frzR (k : Nat) (env : Env) (M : Mm) : Option Slot → OS
 | some (.own ds) => some (.nx (env.set k (.val (.lst ds))), M)
 | _ => none
theorem q_frz : sFrz k env M = frzR k env M env[k]? := by
 unfold sFrz frzR; split <;> simp_all
theorem r_frz : frzR k env M (some (.own ds)) = some (.nx (env.set k (.val (.lst ds))), M) := rfl
def appR (k : Nat) (env : Env) (o : O) : Option Slot → OS
 | some (.own ds) => bndT (fun d M1 => if ds.length < sizeLine then some (.nx (env.set k (.own (ds ++ [d]))), M1) else none) o
 | _ => none
theorem q_app : sApp k f env M = appR k env (f env M) env[k]? := by
 unfold sApp appR
 cases env[k]? with
 | none => rfl
 | some s => cases s <;> rfl
theorem r_app {o : O} : appR k env o (some (.own ds)) = bndT (fun d M1 => if ds.length < sizeLine then some (.nx (env.set k (.own (ds ++ [d]))), M1) else none) o := rfl
def forR (k : Nat) (t : S) (env : Env) : Option (ResA × Mm) → OS
 | some (.v ds, M1) => loopS k t ds env M1
 | some (.x c n, M1) => some (.ex c n, M1)
 | none => none
theorem q_for {fs : EA} : sFor k fs t env M = forR k t env (fs env M) := by
 unfold sFor forR
 cases fs env M with
 | none => rfl
 | some p => obtain ⟨r, M'⟩ := p; cases r <;> rfl
theorem r_for : forR k t env (some (.v ds, M)) = loopS k t ds env M := rfl
def lstR : O → Option (ResA × Mm)
 | some (.v (.lst ds), M1) => some (.v ds, M1)
 | some (.x c n, M1) => some (.x c n, M1)
 | _ => none
theorem zoi : iLst f env M = lstR (f env M) := by
  unfold iLst lstR
  cases f env M with
  | none => rfl
  | some p => obtain ⟨r, M'⟩ := p; cases r with
    | x c n => rfl
    | v d => cases d <;> rfl
theorem znX : lstR (some (.v (.lst ds), M)) = some (.v ds, M) := rfl
def zmZ : Option (ResA × Mm) → Option (ResA × Mm)
 | some (.v [.int j], M1) => if -1000000000 ≤ j ∧ j ≤ 1000000000 then some (.v ((List.range j.toNat).map fun (k : Nat) => .int (0 + k)), M1) else none
 | some (.x c n, M1) => some (.x c n, M1)
 | _ => none
theorem zlv {fs : EA} : zfw fs env M = zmZ (fs env M) := by
 unfold zfw zmZ
 rfl
theorem zg3 (h : -1000000000 ≤ i ∧ i ≤ 1000000000) : zmZ (some (.v [.int i], M)) = some (.v ((List.range i.toNat).map fun (k : Nat) => .int (0 + k)), M) := if_pos h
theorem q_fn {m : Nat} {t : S} : fnG m t ds M = endS (t (ds.map .val ++ List.replicate (m - ds.length) .un) M) := rfl
theorem znB : endS (some (.rt d, M)) = some (.v d, M) := rfl
theorem r_endN {e : Env} : endS (some (.nx e, M)) = some (.v .non, M) := rfl
theorem zop : oAdd (.int i) (.int j) = some (.int (i + j)) := rfl
theorem zoD : oAdd (.lst ds) (.lst es) = if ds.length + es.length ≤ sizeLine then some (.lst (ds ++ es)) else none := rfl
theorem o_sub : oSub (.int i) (.int j) = some (.int (i - j)) := rfl
theorem o_mul : oMul (.int i) (.int j) = if i.natAbs < 18446744073709551616 ∨ j.natAbs < 18446744073709551616 ∨ (i.natAbs.log2 < 10000 ∧ j.natAbs.log2 < 10000) then some (.int (i * j)) else none := rfl
theorem zod : zdR (.int i) (.int j) = if 0 < j ∧ j.natAbs < 1073741824 then some (.int (i / j)) else none := rfl
theorem o_mod : oMod (.int i) (.int j) = if 0 < j then some (.int (i % j)) else none := rfl
theorem o_pow : oPow (.int i) (.int j) = if 0 ≤ j ∧ j.natAbs ≤ 1000000 ∧ i.natAbs < 18446744073709551616 then some (.int (i ^ j.toNat)) else none := rfl
theorem o_neg : oNeg (.int i) = some (.int (-i)) := rfl
theorem o_lt : oCmp .lt (.int i) (.int j) = some (.bl (decide (i < j))) := rfl
theorem o_le : oCmp .le (.int i) (.int j) = some (.bl (decide (i ≤ j))) := rfl
theorem o_gt : oCmp .gt (.int i) (.int j) = some (.bl (decide (j < i))) := rfl
theorem o_ge : oCmp .ge (.int i) (.int j) = some (.bl (decide (j ≤ i))) := rfl
theorem o_eqI : oCmp .eq (.int i) (.int j) = some (.bl (decide (i = j))) := by
 show (cEq _ _).map D.bl = _
 simp [cEq, eqOk, D.flat, D.dep, D.eq]
 rw [Bool.eq_iff_iff]; simp
theorem o_neI : oCmp .ne (.int i) (.int j) = some (.bl (!decide (i = j))) := by
 show (cNe _ _).map D.bl = _
 simp [cNe, eqOk, D.flat, D.dep, D.eq]
 rw [Bool.eq_iff_iff]; simp
theorem o_neE (h : D.deps ds ≤ 49) : oCmp .ne (.lst ds) (.lst []) = some (.bl (!ds.isEmpty)) := by
 show (cNe _ _).map D.bl = _
 unfold cNe
 rw [if_pos ⟨by simp [eqOk, D.flat, D.dep, D.deps], by show D.deps ds + 1 ≤ 50; omega⟩]
 cases ds <;> rfl
theorem o_neR (h : d.dep ≤ 50) : oCmp .ne d d = some (.bl false) := by
 show (cNe d d).map D.bl = _
 unfold cNe
 rw [if_pos ⟨by simp [eqOk, h], h⟩, D.eq_refl]
 rfl
theorem o_ixL : oIx (.lst ds) (.int i) = atI ds i := rfl
theorem o_ixT : oIx (.tup ds) (.int i) = atI ds i := rfl
theorem zns : bLen [.lst ds] = some (.int ds.length) := rfl
theorem o_lenT : bLen [.tup ds] = some (.int ds.length) := rfl
theorem o_min : bMin [.int i, .int j] = some (.int (if j < i then j else i)) := rfl
theorem o_max : bMax [.int i, .int j] = some (.int (if j > i then j else i)) := rfl
theorem znH : truD (.lst ds) = some (!ds.isEmpty) := rfl
theorem o_truB : truD (.bl b) = some b := rfl
theorem o_slS {lo hi : Option Int} : slD (.str z) lo hi = if z.length ≤ sizeLine then some (.str (Txt.slice z lo hi)) else none := rfl
theorem o_slL {lo hi : Option Int} : slD (.lst ds) lo hi = some (.lst (cutL ds lo hi)) := rfl
theorem o_isiL {tb : String → String → Option Bool} {T : String} : isiO tb T (.lst ds) = (tb "list" T).map .bl := if_neg (show ¬ ("list" = "") by decide)
end
def Step (J : Env → Mm → Prop) (Q : OS → Prop) : OS → Prop
 | some (.nx e, M) => J e M
 | some (.ct e, M) => J e M
 | some (.bk e, M) => Q (some (.nx e, M))
 | some (.rt d, M) => Q (some (.rt d, M))
 | some (.ex c n, M) => Q (some (.ex c n, M))
 | none => False
theorem zek {i : Nat} {body : S} {ds : List D} {env : Env} {M : Mm} (Q : OS → Prop) (J : Nat → Env → Mm → Prop) (h0 : J 0 env M)
    (hs : ∀ (k : Nat) d env M, ds[k]? = some d → J k env M → i < env.length ∧ Step (J (k + 1)) Q (body (env.set i (.val d)) M)) (hd : ∀ env M, J ds.length env M → Q (some (.nx env, M))) : Q (loopS i body ds env M) := by
  have key : ∀ (m k : Nat) (env : Env) (M : Mm), m + k = ds.length → J k env M → Q (loopS i body (ds.drop k) env M) := by
    intro m
    induction m with
    | zero =>
      intro k env M hk hJ
      have e : k = ds.length := by omega
      subst e
      rw [List.drop_length]
      exact hd env M hJ
    | succ m ih =>
      intro k env M hk hJ
      have hlt : k < ds.length := by omega
      obtain ⟨hi, h1⟩ := hs k ds[k] env M (List.getElem?_eq_getElem hlt) hJ
      rw [List.drop_eq_getElem_cons hlt]
      simp only [loopS, hi, if_true]
      cases e : body (env.set i (.val ds[k])) M with
      | none => rw [e] at h1; exact h1.elim
      | some o =>
        rw [e] at h1
        obtain ⟨o, M'⟩ := o
        cases o with
        | nx e' => exact ih (k + 1) e' M' (by omega) h1
        | ct e' => exact ih (k + 1) e' M' (by omega) h1
        | bk e' => exact h1
        | rt d => exact h1
        | ex c n => exact h1
  have := key ds.length 0 env M (by omega) h0
  rwa [List.drop_zero] at this
end E3
namespace E3
open PySem PySem.Spec PyProof.Rows L2
def XN (H : Hp) (n : Int) : Option Addr → Prop
 | none => n = 0
 | some d => ∃ fs, H d = some (.xd fs) ∧ fs.lookup ("at" : Str) = some (.int n)
def XQ (K : PySem.W.Frag) (mg : Str → Option Value) (P : Pl) (H : Hp) (M' : Mm) (Q : VK) (E : XK) : Res → Prop
 | .v d => ∀ P' v H', LtE P H P' H' → Hk K mg P' H' M' → Is K P' H' d v → Q v H'
 | .x c n => ∀ P' H' C dx, LtE P H P' H' → Hk K mg P' H' M' → mg c = some (.ref C) → XN H' n dx → E (.ref C) dx H'
def spX (K : PySem.W.Frag) (mg : Str → Option Value) (n : Nat) (g : G) : Sp := fun vs H Q E => vs.length = n ∧ ∃ P M ds r M', Hk K mg P H M ∧ Iss K P H ds vs ∧ g ds M = some (r, M') ∧ XQ K mg P H M' Q E r
mutual
theorem Is.away {K : PySem.W.Frag} {P : Pl} {H H' : Hp} (s : ∀ b o, H b = some o → (∀ g, o ≠ .ext g) → H' b = some o) : ∀ {d : D} {v : V}, Is K P H d v → Is K P H' d v
  | .non, _, h => h
  | .bl _, _, h => h
  | .int _, _, h => h
  | .str _, _, h => h
  | .tup ds, _, h => by
    obtain ⟨a, vs, e, q, r⟩ := h
    refine ⟨a, vs, e, ?_, Iss.away s r⟩
    rcases q with (q | ⟨o, q⟩) | q
    · exact .inl (.inl (s _ _ q fun _ z => nomatch z))
    · exact .inl (.inr ⟨o, s _ _ q fun _ z => nomatch z⟩)
    · exact .inr q
  | .lst ds, _, h => by
    obtain ⟨a, vs, e, q, r⟩ := h
    refine ⟨a, vs, e, ?_, Iss.away s r⟩
    rcases q with ⟨n, q | ⟨o, q⟩⟩ | q
    · exact .inl ⟨n, .inl (s _ _ q fun _ z => nomatch z)⟩
    · exact .inl ⟨n, .inr ⟨o, s _ _ q fun _ z => nomatch z⟩⟩
    · exact .inr q
  | .ref k, _, h => h
theorem Iss.away {K : PySem.W.Frag} {P : Pl} {H H' : Hp} (s : ∀ b o, H b = some o → (∀ g, o ≠ .ext g) → H' b = some o) : ∀ {ds : List D} {vs : List V}, Iss K P H ds vs → Iss K P H' ds vs
  | [], _, h => h
  | _ :: _, _, h => by
    obtain ⟨v, r, e, p, q⟩ := h
    exact ⟨v, r, e, Is.away s p, Iss.away s q⟩
end
theorem Hk.away {K : PySem.W.Frag} {mg : Str → Option Value} {P : Pl} {H H' : Hp} {M : Mm} (h : Hk K mg P H M) (s : ∀ b o, H b = some o → (∀ g, o ≠ .ext g) → H' b = some o) (t : ∀ b, H' b = none → H b = none) : Hk K mg P H' M := by
  refine ⟨h.n, fun k c e => ?_, h.inj, h.bd, fun a z q => h.here a z (t a q)⟩
  have := h.cell k c e
  cases c with
  | lst ds =>
    obtain ⟨vs, e1, q⟩ := this
    exact ⟨vs, s _ _ e1 (fun _ z => nomatch z), Iss.away s q⟩
  | obj c fs =>
    obtain ⟨C, dx, gs, e1, e2, e3, q⟩ := this
    exact ⟨C, dx, gs, e1, s _ _ e2 (fun _ z => nomatch z), e3, Iss.away s q⟩
  | dct kvs =>
    obtain ⟨vs, e1, e2, q⟩ := this
    exact ⟨vs, s _ _ e1 (fun _ z => nomatch z), e2, Iss.away s q⟩
structure XFit (X : Cx) (Wx : XW) : Prop where
 xr : ∀ pins σ H s a C dx c n P0 H0 P M, Inv X pins σ H s → H a = some (xo a C dx true) → ¬ P.bd a → H0 a = none → LtE P0 H0 P H → Hk X.K X.mg P H M → X.mg c = some (.ref C) → XN H n dx → Wx P0 H0 M c n → X.xe (.ref a) s
section
variable {X : Cx} {Wx : XW} {pos : Pos}
def zdJ (c : Str) (f : E) : S := fun env M => bndS (f env M) fun _ M1 => some (.ex c 0, M1)
theorem zf4 {c : Str} {C : Addr} {e : Expr} {f : E} {p q : Pos} (F : XFit X Wx) (hc : X.calm = true) (m : X.mg c = some (.ref C)) (q1 : xcIn X.K C = true) (q2 : ziT X.K C = true) (kp : PySem.W.keepIn X.K (.ref C) = true) (hg : Gl X c) (he : SE X Wx .val e f) (hdb : (c == ("__debug__" : Str)) = false := by decide +kernel)
  (hs : starEach [e] X.env = [(false, eval e X.env)] := by rfl) : SS X Wx (.Raise (some (.Call (.Name c p) [e] [] q)) none pos) (zdJ c f) := by
 refine zcy (zkk (W := fun a C' dx H => dx = none ∧ C' = C ∧ ∃ P0 H0 P M, ¬ P.bd a ∧ H0 a = none ∧ LtE P0 H0 P H ∧ Hk X.K X.mg P H M ∧ Wx P0 H0 M c 0) (zkz q1 q2 kp hg m he hdb hs) hc fun pins σ H s a C' dx I ea ⟨e1, e2, P0, H0, P, M, b, n, l, h, w⟩ => ?_) ?_
 ·subst e1 e2
  exact F.xr pins σ H s a _ none c 0 P0 H0 P M I ea b n l h m rfl w
 ·rintro D st H ⟨P0, H0, P, Os, env, M, out, M', k, e, q⟩
  unfold zdJ at e
  rcases zbF e with ⟨d, M1, e1, e⟩ | ⟨c, n, e1, rfl⟩
  ·cases e
   refine ⟨P0, H0, P, Os, env, M, _, _, k, e1, fun P1 v H1 l1 h1 i1 => ⟨rfl, fun a ha => ⟨a, C, none, rfl, zaC, q1, rfl, rfl, P0, H0, P1, _, h1.new a ha, ?_, ?_, ?_, q⟩⟩⟩
   ·exact k.base.sure a (l1.sure a ha)
   ·exact k.base.trans (l1.trans (LtE.same (zdn ha)))
   ·exact h1.same (zdn ha)
  ·exact ⟨P0, H0, P, Os, env, M, _, _, k, e1, q⟩
end
section
variable {P : Program} {w : World} {K : PySem.W.Frag} {mg : Str → Option Value} {base : Heap} {k : Nat} {x qual : Str} {st : Stmt} {f : Addr} {fd : FuncData} {N ps : List Str} {b : S}
abbrev cxX (P : Program) (w : World) (K : PySem.W.Frag) (mg : Str → Option Value) (base : Heap) (N : List Str) (qual : Str) (st : Stmt) (f : Addr) (cdv : Value) (A : Around) (outer : List PySem.Env) (s : Shared) (H : Hp) (E : XK) : Cx := cxOf (CX1 P w) P w K mg base N qual (zaa st) f cdv A outer s H E
end
section
variable {P : Program} {w : World} {K : PySem.W.Frag} {mg : Str → Option Value} {base : Heap} {k : Nat} {x qual : Str} {st : Stmt} {f : Addr} {fd : FuncData} {N ps : List Str} {b : S}
theorem ziv {sp : Sp} (F : FnOk P w K mg base (CX1 P w) k f fd ps sp) : FnOk P w K mg base CX0 k f fd ps (fun vs H Q _ => sp vs H Q E0) :=
 ⟨fun vs H Q E h => F.len vs H Q E0 h, fun A outer s H args us vs Q E hr he hb hv hs => codeAny_mono (F.run A outer s H args us vs Q E0 hr he hb hv hs) fun r s' z => by
  cases r with
  | error e => obtain ⟨_, _, _, _, _, _, _, _, _, _, _, _, _, _, z⟩ := z; exact z
  | ok fl => cases fl <;> exact z⟩
theorem zim {n : Nat} {g : G} (F : FnOk P w K mg base (CX1 P w) k f fd ps (spX K mg n g)) : FnOk P w K mg base CX0 k f fd ps (spG K mg n g) := by
 have F0 := ziv F
 refine ⟨fun vs H Q E h => F0.len vs H Q E ?_, fun A outer s H args us vs Q E hr he hb hv hs => F0.run A outer s H args us vs Q E hr he hb hv ?_⟩
 ·obtain ⟨hl, P, M, ds, d, M', hk, is, e, q⟩ := h
  exact ⟨hl, P, M, ds, .v d, M', hk, is, e, q⟩
 ·obtain ⟨hl, P, M, ds, d, M', hk, is, e, q⟩ := hs
  exact ⟨hl, P, M, ds, .v d, M', hk, is, e, q⟩
def AtMX (P : Program) (w : World) (K : PySem.W.Frag) (mg : Str → Option Value) (base : Heap) (k : Nat) (C : Addr) (m : Str) (n : Nat) (g : G) : Prop :=
 ∃ f fd ps, Meth K C m f ∧ FnOk P w K mg base (CX1 P w) k f fd ps (spX K mg n g) ∧ Binds K fd ps []
def AtIX (P : Program) (w : World) (K : PySem.W.Frag) (mg : Str → Option Value) (base : Heap) (k : Nat) (C : Addr) (n : Nat) (g : G) : Prop :=
 ∃ f fd ps, Mk K C f ∧ FnOk P w K mg base (CX1 P w) k f fd ps (spX K mg n g) ∧ Binds K fd ps []
def AtX (P : Program) (w : World) (K : PySem.W.Frag) (mg : Str → Option Value) (base : Heap) (k : Nat) (f : Str) (n : Nat) (g : G) : Prop :=
 ∃ fa fd ps, mg f = some (.ref fa) ∧ PySem.W.keepIn K (.ref fa) = true ∧ FnOk P w K mg base (CX1 P w) k fa fd ps (spX K mg n g) ∧ Binds K fd ps []
theorem AtX.quiet {n : Nat} {g : G} (a : AtX P w K mg base k x n g) : AtG P w K mg base k x n g := by
 obtain ⟨fa, fd, ps, h1, h2, h3, h4⟩ := a
 exact ⟨fa, fd, ps, [], [], _, h1, h2, zim h3, h4, .nil, fun vs H Q E h => by rw [List.append_nil]; exact h⟩
theorem AtX.mono {j : Nat} {n : Nat} {g : G} (a : AtX P w K mg base j x n g) (h : j ≤ k) : AtX P w K mg base k x n g := by
 obtain ⟨f, fd, ps, h1, h2, h3, h4⟩ := a
 exact ⟨f, fd, ps, h1, h2, h3.mono h, h4⟩
end
end E3
namespace L2
open PySem PySem.Spec PyProof.Rows
section
variable {X : Cx} {CX : CXT} {k : Nat} {f C : Addr} {fd : FuncData} {ps : List Str} {sp : Sp} {x m : Str} {p pos apos : Pos} {e o : Expr} {es : List Expr} {ta : TE} {t : TA} {Ex : St → XK}
def zl5 (CX : CXT) (X : Cx) (Ex : St → XK) : Prop := ∀ pins σ H s e s', Inv X pins σ H s → CX X.stack H s (Ex σ) e s' → X.xe e s'
end
end L2
namespace E3
open PySem PySem.Spec PyProof.Rows L2
section
variable {X : Cx} {Wx : XW} {pos : Pos}
def SX (X : Cx) (e : Expr) (f : E) : Prop := ∀ Ex : L2.St → XK, zl5 (CX1 X.prog X.w) X Ex → PE X e fun st H Q => ∃ P0 H0 P Os env M r M', Ok X.K X.mg P0 H0 P Os H M st env ∧ f env M = some (r, M') ∧ XQ X.K X.mg P H M' Q (Ex st) r
theorem XQ.lt {K : PySem.W.Frag} {mg : Str → Option Value} {P P1 : Pl} {H H1 : Hp} {M' : Mm} {Q : VK} {E : XK} {r : Res} (l : LtE P H P1 H1) (q : XQ K mg P H M' Q E r) : XQ K mg P1 H1 M' Q E r := by
 cases r with
 | v d => exact fun P' v H' l' h i => q P' v H' (l.trans l') h i
 | x c n => exact fun P' H' C dx l' h m xn => q P' H' C dx (l.trans l') h m xn
def zfn (g : G) (fs : EA) : E := fun env M => match fs env M with
 | some (.v ds, M1) => g ds M1
 | _ => none
theorem zhx {k n : Nat} {f : Str} {g : G} {e : Expr} {es : List Expr} {fs : EA} {p : Pos} (a : AtX X.prog X.w X.K X.mg X.base k f n g) (hr : Room k X.A) (hg : Gl X f) (ha : SA X W0 .val (e :: es) fs) (hn : Cnt n fs) (hdb : (f == ("__debug__" : Str)) = false := by decide +kernel)
  (he : starEach (e :: es) X.env = (false, eval e X.env) :: starEach es X.env := by rfl) (hpl : (backTo pos (starEach es X.env)).any (·.1) = false := by rfl) : SX X (.Call (.Name f p) (e :: es) [] pos) (zfn g fs) := by
 obtain ⟨fa, fd, ps, hm, hk, F, hb⟩ := a
 intro Ex hx
 refine zaR (zkP F hr hg hm hk hb .nil hx ha hdb he hpl) ?_
 rintro st H Q ⟨P0, H0, P, Os, env, M, r, M', k, e, q⟩
 unfold zfn at e
 split at e
 ·rename_i ds M1 e1
  exact ⟨P0, H0, P, Os, env, M, _, _, k, e1, fun P1 vs H1 l1 h1 i1 => by
   dsimp only
   rw [List.append_nil]
   exact ⟨by rw [i1.len]; exact hn _ _ _ _ e1, P1, M1, ds, r, _, h1, i1.iss, e, q.lt l1⟩⟩
 ·cases e
def PostX (K : PySem.W.Frag) (mg : Str → Option Value) (E : XK) (P0 : Pl) (H0 : Hp) (P : Pl) (H : Hp) (M' : Mm) (D : Ends) : Out → Prop
 | .ex c n => ∀ P' H' C dx, LtE P H P' H' → Hk K mg P' H' M' → mg c = some (.ref C) → XN H' n dx → E (.ref C) dx H'
 | .nx env => Post K mg W0 P0 H0 P H M' D (.nx env)
 | .bk env => Post K mg W0 P0 H0 P H M' D (.bk env)
 | .ct env => Post K mg W0 P0 H0 P H M' D (.ct env)
 | .rt d => Post K mg W0 P0 H0 P H M' D (.rt d)
def tBX (K : PySem.W.Frag) (mg : Str → Option Value) (Ex : L2.St → XK) (b : S) : TS := fun D st H => ∃ P0 H0 P Os env M out M', Ok K mg P0 H0 P Os H M st env ∧ b env M = some (out, M') ∧ PostX K mg (Ex st) P0 H0 P H M' D out
def SXs (X : Cx) (s : Stmt) (b : S) : Prop := ∀ Ex : L2.St → XK, zl5 (CX1 X.prog X.w) X Ex → PS X s (tBX X.K X.mg Ex b)
def BX (X : Cx) (ss : List Stmt) (b : S) : Prop := ∀ Ex : L2.St → XK, zl5 (CX1 X.prog X.w) X Ex → PSs X ss (tBX X.K X.mg Ex b)
theorem bx_one {s : Stmt} {b : S} (h : SXs X s b) : BX X [s] b := fun Ex hx => zmL (h Ex hx)
theorem zm3 {e : Expr} {f : E} (h : SX X e f) (hs : swapsWith e none pos.line X.env = pure false := by rfl) : SXs X (.Expr e pos) (zg6 f) := by
 intro Ex hx
 refine zcy (zfp (h Ex hx) hs) ?_
 rintro D st H ⟨P0, H0, P, Os, env, M, out, M', k, e, q⟩
 unfold zg6 at e
 rcases zbF e with ⟨d, M1, e1, e⟩ | ⟨c, n, e1, rfl⟩
 ·cases e
  exact ⟨P0, H0, P, Os, env, M, _, _, k, e1, fun P1 v H1 l1 h1 i1 => q _ _ _ _ (l1.lt k.hk) (k.next l1 h1)⟩
 ·exact ⟨P0, H0, P, Os, env, M, _, _, k, e1, q⟩
end
end E3
namespace L2
open PySem PySem.Spec PyProof.Rows
section
variable {prog : Program} {w : World} {A : Around} {E : Value → Shared → Prop} {s : Shared} {K : PySem.W.Frag} {x C : Addr} {ox : Obj} {od : Option Obj} {name : Str} {tk : Tok}
theorem zho {a g : Value} (hc : (PySem.W.clsIn K C).isSome = true) (ha : PySem.W.findIn K (.ref C) name = some (some a)) (hg : PySem.W.specialIn K a "__get__" = some (some g)) (ht : PySem.W.takesIn K a = some true) : PySem.W.findObj K C od name = some (.bind g a) := by
 obtain ⟨cd, hc⟩ := Option.isSome_iff_exists.mp hc
 unfold PySem.W.findObj
 rw [hc, Option.bind_some, ha, Option.bind_some]
 simp [hg, ht]
theorem zkf {Q : Option Value → Shared → Prop} (X : K.In s.heap) (q : zhN K C = true) (I : PySem.W.InstAt s.heap x ox C od) (h1 : PySem.W.hasDictIn K C = true) (h2 : PySem.W.findIn K (.ref C) "__class__" = some (some (.builtin "object.__class__")))
  (h3 : PySem.W.specialIn K (.builtin "object.__class__") "__get__" = some (some (.builtin "getset_descriptor.__get__"))) (h4 : PySem.W.takesIn K (.builtin "object.__class__") = some true) (h5 : PySem.W.mroIn K C (.type "object") = some true)
  (k : Q (some (.ref C)) { s with toks := s.toks + 1 }) : wpAny (model prog w) A (getAttr? (.ref x) "__class__") Q E s := by
 have hf : PySem.W.findObj K C od "__class__" = some (.bind (.builtin "getset_descriptor.__get__") (.builtin "object.__class__")) := zho (by obtain ⟨cd, hc, _⟩ := PySem.W.any_some h1; rw [hc]; rfl) h2 h3 h4
 unfold getAttr? getAttrBy?
 refine wpAny_bind (wpAny_mkText (wpAny_bind (wpAny_attempt (x_by (s := { s with toks := s.toks + 1 }) X q I ?_))))
 refine znd (s := { s with toks := s.toks + 1 }) X I hf (wpAny_call (PySem.W.class_get (s := { s with toks := s.toks + 1 }) X I h5 ?_))
 exact PySem.W.handed_on rfl (wpAny_pure k)
end
end L2
namespace E3
open PySem PySem.Spec PyProof.Rows L2
section
variable {K : PySem.W.Frag} {mg : Str → Option Value} {P0 P : Pl} {H0 H : Hp} {M : Mm} {Os : List (Option Addr)} {st : L2.St} {env : Env} {i : Nat}
theorem Ok.put {s : Slot} {sv : Option V} (k : Ok K mg P0 H0 P Os H M st env) (hi : i < env.length) (h : zlm K mg P H none sv s) : Ok K mg P0 H0 P (Os.set i none) H M (st.set i sv) (env.set i s) where
 hk := k.hk
 base := k.base
 b0 := k.b0
 slot := fun j s e => by
  rw [zcV _ _ _ _ (by rw [k.olen]; exact hi), zcV _ _ _ _ (by rw [k.slen]; exact hi)]
  rw [List.getElem?_set] at e
  split at e
  ·rename_i ij
   subst ij
   cases e
   rw [if_pos rfl, if_pos rfl]
   exact h
  ·rename_i ij
   rw [if_neg ij, if_neg ij]
   exact k.slot j s e
 own := fun a h => k.own a (by
  rcases List.mem_or_eq_of_mem_set h with h | h
  ·exact h
  ·cases h)
 inj := fun j l a e1 e2 => by
  rw [List.getElem?_set] at e1 e2
  split at e1
  ·split at e1 <;> cases e1
  ·split at e2
   ·split at e2 <;> cases e2
   ·exact k.inj j l a e1 e2
 olen := by rw [List.length_set, List.length_set, k.olen]
 slen := by rw [List.length_set, List.length_set, k.slen]
end
section
variable {X : Cx} {Wx : XW} {m : Mode} {pos : Pos}
def sTry (i : Nat) (cat : Str → Bool) (b h : S) : S := fun env M => match b env M with
  | some (.ex c n, M1) => if cat c = true then (if i < env.length then (match h (env.set i (.exc c n)) M1 with
    | some (.nx env', M2) => (match env'[i]? with
      | some (.exc _ _) => some (.nx (env'.set i .un), M2)
      | _ => none)
    | some (.rt d, M2) => some (.rt d, M2)
    | _ => none) else none) else none
  | o => o
theorem zn6 {body suite : List Stmt} {b0 : Stmt} {cn n : Str} {np hp : Pos} {c : Addr} {i : Nat} {b h : S} {cat : Str → Bool}
    (hs : X.stack = X.env :: X.outer) (hf : X.env.frame = some X.env.locals) (hc : X.calm = true) (hN : X.N.Nodup) (hi : X.N[i]? = some n) (hl : X.env.scope.names.lookup n = some .local) (hg : Gl X cn) (hm : X.mg cn = some (.ref c)) (q : xcIn X.K c = true)
    (hcat : ∀ c', cat c' = true → ∃ C, X.mg c' = some (.ref C) ∧ xcIn X.K C = true ∧ zhA X.K C c = true) (hb : ∀ pins E, BX (X.pin pins E) body b) (hh : ∀ e, SB (X.suite e) W0 (b0 :: suite) h) (hdb : (cn == ("__debug__" : Str)) = false := by decide +kernel) :
    SS X Wx (.Try body [.ExceptHandler (some (.Name cn np)) (some n) (b0 :: suite) hp] [] [] pos) (sTry i cat b h) := by
  let Ex : Ends → L2.St → XK := fun D σ Cv dx H' => ∀ a C, Cv = .ref C → H' a = some (xo a C dx false) → xcIn X.K C = true ∧ zhA X.K C c = true ∧ tS X.K X.mg W0 h { D with nx := fun σ H => ∃ v, σ[i]? = some (some v) ∧ D.nx (σ.set i none) H, bk := fun _ _ => False, ct := fun _ _ => False } (σ.set i (some (.ref a))) H'
  refine zcy (zmn (tb := fun D => tBX X.K X.mg (Ex D) b) (th := tS X.K X.mg W0 h) hs hf hc hN hi hl hg hm q hdb (fun pins D => hb pins _ (Ex D) fun pins' σ H s e s' I z => ?_) hh) ?_
  · obtain ⟨a, C, dx, H', T, rfl, K1, hE⟩ := zgL (X := X) I.of_pin z
    obtain ⟨z1, z2, z3⟩ := hE a C rfl K1.obj
    exact ⟨σ, H', a, C, dx, T, rfl, K1, z1, z2, z3⟩
  · rintro D st H ⟨P0, H0, P, Os, env, M, out, M', k, e, q⟩
    unfold sTry at e
    split at e
    · rename_i c' n' M1 e1
      split at e
      · rename_i hct
        split at e
        · rename_i hil
          obtain ⟨C, hmC, x1, x2⟩ := hcat c' hct
          refine ⟨P0, H0, P, Os, env, M, _, _, k, e1, fun P1 H1 C1 dx l1 h1 m1 xn a C2 eC ea => ?_⟩
          cases eC
          cases hmC.symm.trans m1
          have k1 := (k.next l1 h1).put (s := .exc c' n') (sv := some (.ref a)) hil ⟨_, rfl, a, C, dx, rfl, m1, ea, xn⟩
          refine ⟨x1, x2, ?_⟩
          split at e
          · rename_i env' M2 e2
            split at e
            · rename_i c3 n3 ex
              cases e
              refine ⟨P0, H0, P1, _, _, M1, _, _, k1, e2, fun P2 Os2 H2 st2 l2 k2 => ?_⟩
              obtain ⟨v, ev, _⟩ := k2.slot i _ ex
              exact ⟨v, zbN ev, q P2 _ H2 _ ((l1.lt k.hk).trans l2) (k2.put (s := .un) (sv := none) (List.getElem?_eq_some_iff.mp ex).1 True.intro)⟩
            · cases e
          · rename_i d M2 e2
            cases e
            exact ⟨P0, H0, P1, _, _, M1, _, _, k1, e2, q⟩
          · cases e
        · cases e
      · cases e
    · rename_i o hne
      refine ⟨P0, H0, P, Os, env, M, _, _, k, e, ?_⟩
      cases out with
      | ex c n => exact absurd e (hne c n M')
      | nx env => exact q
      | bk env => exact q
      | ct env => exact q
      | rt d => exact q
def sIsX (i : Nat) (tb : Str → Option Bool) : E := fun env M => match env[i]? with
 | some (.exc c _) => (tb c).map fun b => (.v (.bl b), M)
 | _ => none
def SupT (X : Cx) (u : Value) (tb : Str → Option Bool) : Prop := ∀ c b, tb c = some b → ∃ C, X.mg c = some (.ref C) ∧ zf2 X.K C = true ∧ PySem.W.kitOne X.K (.ref C) u = some b
end
end E3
namespace E3
open PySem PySem.Spec PyProof.Rows L2
section
variable {X : Cx} {Wx : XW} {m : Mode} {pos : Pos}
def zil (f : E) : S := fun env M => bndS (f env M) fun d M1 => match d with
  | .ref j => (match M1[j]? with
    | some (.lst _) => some (.nx env, M1.set j (.lst []))
    | _ => none)
  | _ => none
theorem zjW {o : Expr} {f : E} {p q : Pos} (ho : SE X Wx .val o f) (hbase : attributeBase o "clear" X.env (eval o X.env) = eval o X.env := by rfl)
  (hline : (p.endLine == q.line) = true := by rfl) (hw : swapsWith (.Call (.Attribute o "clear" p) [] [] q) none pos.line X.env = pure false := by rfl) :
  SS X Wx (.Expr (.Call (.Attribute o "clear" p) [] [] q) pos) (zil f) := by
 refine zcy (zfp (zle PySem.F.plainAttrs_list PySem.F.slot_list_clear PySem.F.type_list_clear zkb ho hbase hline) hw) ?_
 rintro D st H ⟨P0, H0, P, Os, env, M, out, M', k, e, q⟩
 unfold zil at e
 rcases zbF e with ⟨d, M1, e1, e⟩ | ⟨c, n, e1, rfl⟩
 ·cases d <;> simp only [reduceCtorEq] at e
  rename_i j
  split at e
  ·rename_i ds em
   cases e
   refine ⟨P0, H0, P, Os, env, M, _, _, k, e1, fun P1 v1 H1 l1 h1 i1 => ?_⟩
   obtain ⟨jl, rfl⟩ : j < P1.n ∧ v1 = .ref (P1.io j) := i1
   obtain ⟨vs, ev, _⟩ := h1.cell j _ em
   refine ⟨.inl ⟨rfl, vs, .inl (.inl ev)⟩, _, vs, rfl, rfl, ev, ?_⟩
   obtain ⟨l3, l3e, h3⟩ := h1.set (c' := .lst []) (o' := .lst []) em ⟨[], zaC, rfl⟩
   exact q _ _ _ _ ((l1.lt k.hk).trans l3) ((k.next l1 h1).next l3e h3)
  ·cases e
 ·exact ⟨P0, H0, P, Os, env, M, _, _, k, e1, q⟩
end
section
variable {X : Cx} {Wx : XW}
def iTp (f : E) : EA := fun env M => match f env M with
 | some (.v (.tup ds), M1) => some (.v ds, M1)
 | some (.x c n, M1) => some (.x c n, M1)
 | _ => none
end
theorem znq {K : PySem.W.Frag} {C : Addr} (h1 : PySem.W.findIn K (.ref C) "__getattribute__" = some (some (.builtin "BaseException.__getattribute__"))) (h2 : PySem.W.findIn K (.ref C) "__getattr__" = some none) (h3 : PySem.W.mroIn K C (.type "BaseException") = some true) : zhN K C = true := by
 simp only [zhN, h1, h2, h3, beq_self_eq_true, Bool.and_self]
theorem xis_mk {K : PySem.W.Frag} {C : Addr} (h1 : zhN K C = true) (h2 : PySem.W.hasDictIn K C = true) (h3 : PySem.W.findIn K (.ref C) "__class__" = some (some (.builtin "object.__class__"))) (h4 : PySem.W.specialIn K (.builtin "object.__class__") "__get__" = some (some (.builtin "getset_descriptor.__get__")))
  (h5 : PySem.W.takesIn K (.builtin "object.__class__") = some true) (h6 : PySem.W.mroIn K C (.type "object") = some true) : zf2 K C = true := by
 simp only [zf2, h1, h2, h3, h4, h5, h6, beq_self_eq_true, Bool.and_self]
end E3
namespace E3
open PySem L2
section
variable {env : Env} {M M1 M2 : Mm} {f g o v : E} {d e x : D} {i : Int} {k : Nat} {ds : List D} {s t : S} {c me fl : Str} {fs : List (Str × D)} {gg : G} {fa : EA}
theorem zhY (h : M[k]? = some (.obj c fs)) : zhg M c (.ref k) = some (k, fs) := by unfold zhg; simp only [h, if_true]
theorem f_get (h1 : o env M = some (.v (.ref k), M1)) (h2 : M1[k]? = some (.obj c fs)) (h3 : fs.lookup fl = some x) : ziu c fl o env M = some (.v x, M1) := by
 simp only [ziu, bnd, h1, zhY h2, h3, Option.map_some]
theorem f_set (h1 : v env M = some (.v x, M1)) (h2 : o env M1 = some (.v (.ref k), M2)) (h3 : M2[k]? = some (.obj c fs)) (h4 : fs.length < 1000) : zjN c fl o v env M = some (.nx env, M2.set k (.obj c (putD fl x fs))) := by
 simp only [zjN, bndS, h1, h2, zhY h3, h4, if_true]
theorem zne {M3 : Mm} (h1 : o env M = some (.v (.ref k), M1)) (h2 : M1[k]? = some (.obj c fs)) (h3 : fs.lookup me = none) (h4 : fa env M1 = some (.v ds, M2)) (h5 : gg (.ref k :: ds) M2 = some (.v x, M3)) : zd4 c me gg o fa env M = some (.v x, M3) := by
 simp only [zd4, bnd, h1, zhY h2, h3, if_true, bndA, h4, h5]
theorem m_make {M3 : Mm} (h4 : fa env M = some (.v ds, M1)) (h5 : gg (.ref M1.length :: ds) (M1 ++ [.obj c []]) = some (.v .non, M3)) : zjo c gg fa env M = some (.v (.ref M1.length), M3) := by
 simp only [zjo, bndA, h4, h5]
theorem zn5 {ds0 : List D} (h1 : f env M = some (.v (.ref k), M1)) (h2 : M1[k]? = some (.lst ds0)) : zil f env M = some (.nx env, M1.set k (.lst [])) := by
 simp only [zil, bndS, h1, h2]
theorem zn9 {a : Int} : endS (some (.ex c a, M)) = some (.x c a, M) := rfl
def tpR : O → Option (ResA × Mm)
 | some (.v (.tup ds), M1) => some (.v ds, M1)
 | some (.x c n, M1) => some (.x c n, M1)
 | _ => none
theorem q_itp : iTp f env M = tpR (f env M) := by
  unfold iTp tpR
  cases f env M with
  | none => rfl
  | some p => obtain ⟨r, M'⟩ := p; cases r with
    | x c n => rfl
    | v d => cases d <;> rfl
theorem r_itp : tpR (some (.v (.tup ds), M)) = some (.v ds, M) := rfl
end
theorem AtI.mono {P : Program} {w : World} {K : PySem.W.Frag} {mg : Str → Option Value} {base : Heap} {j k : Nat} {C : Addr} {n : Nat} {g : G} (a : AtI P w K mg base j C n g) (h : j ≤ k) : AtI P w K mg base k C n g := by
 obtain ⟨f, fd, ps, h1, h2, h3⟩ := a
 exact ⟨f, fd, ps, h1, h2.mono h, h3⟩
end E3
namespace E3
open PySem PySem.Spec PyProof.Rows L2
theorem zjx {X : Cx} {Wx : XW} {m : Mode} {i : Nat} {x : Str} {pos : Pos} (hN : X.N[i]? = some x) (hv : Vis X.env.scope x) (hd : (x == ("__debug__" : Str)) = false := by decide +kernel) (hcd : (x == ("__classdict__" : Str)) = false := by decide +kernel) : SE X Wx m (.Name x pos) (sVar i) := (zlr hN hv hd hcd).bor
def capE (cs : List (Str × Nat)) (env : Env) : Env := cs.map fun p => (env[p.2]?).getD .un
def capO (cs : List (Str × Nat)) (Os : List (Option Addr)) : List (Option Addr) := cs.map fun p => (Os[p.2]?).join
section
variable {K : PySem.W.Frag} {mg : Str → Option Value} {P0 P : Pl} {H0 H : Hp} {M : Mm} {Os : List (Option Addr)} {st : L2.St} {env : Env} {d : D} {v : V}
theorem zf7 {cs : List (Str × Nat)} {i : Nat} {a : Addr} (h : (capO cs Os)[i]? = some (some a)) : ∃ p, cs[i]? = some p ∧ Os[p.2]? = some (some a) := by
 unfold capO at h
 rw [List.getElem?_map, Option.map_eq_some_iff] at h
 obtain ⟨p, e, h⟩ := h
 exact ⟨p, e, zbN h⟩
theorem Ok.cap {cs : List (Str × Nat)} (k : Ok K mg P0 H0 P Os H M st env) (nd : (cs.map (·.2)).Nodup) (h : Is K P H d v) : Ok K mg P0 H0 P (none :: capO cs Os) H M (some v :: zec cs st) (.val d :: capE cs env) where
  hk := k.hk
  base := k.base
  b0 := k.b0
  slot := fun i s e => by
    cases i with
    | zero => cases e; exact ⟨v, rfl, h⟩
    | succ i =>
      rw [List.getElem?_cons_succ] at e ⊢
      rw [List.getElem?_cons_succ]
      unfold capE at e
      rw [List.getElem?_map, Option.map_eq_some_iff] at e
      obtain ⟨p, ep, e⟩ := e
      have eo : ((capO cs Os)[i]?).join = (Os[p.2]?).join := by unfold capO; rw [List.getElem?_map, ep]; rfl
      have es : ((zec cs st)[i]?).join = (st[p.2]?).join := by unfold zec; rw [List.getElem?_map, ep]; rfl
      rw [eo, es]
      cases e' : env[p.2]? with
      | none => rw [e'] at e; cases e; exact True.intro
      | some s' => rw [e'] at e; cases e; exact k.slot _ _ e'
  own := fun a h => by
    rw [List.mem_cons] at h
    rcases h with h | h
    · cases h
    · obtain ⟨i, hi⟩ := List.mem_iff_getElem?.mp h
      obtain ⟨p, _, e⟩ := zf7 hi
      exact k.own a (List.mem_of_getElem? e)
  inj := fun i j a e1 e2 => by
    cases i with
    | zero => cases e1
    | succ i =>
      cases j with
      | zero => cases e2
      | succ j =>
        rw [List.getElem?_cons_succ] at e1 e2
        obtain ⟨p, h1, h2⟩ := zf7 e1
        obtain ⟨q, h3, h4⟩ := zf7 e2
        have e := k.inj _ _ a h2 h4
        congr 1
        have hi : (cs.map (·.2))[i]? = some p.2 := by rw [List.getElem?_map, h1]; rfl
        have hj : (cs.map (·.2))[j]? = some p.2 := by rw [List.getElem?_map, h3, e]; rfl
        have il := (List.getElem?_eq_some_iff.mp hi).1
        exact (List.getElem?_inj il nd).mp (hi.trans hj.symm)
  olen := by simp [capO, capE]
  slen := by simp [zec, capE]
end
section
variable {X : Cx} {Wx : XW} {m : Mode} {pos : Pos}
def zeI (q e : E) (env : Env) : List D → List D → Mm → Option (List D × Mm)
  | [], acc, M => some (acc, M)
  | d :: ds, acc, M => match q (.val d :: env) M with
    | some (.v (.bl true), M1) => (match e (.val d :: env) M1 with
      | some (.v y, M2) => if acc.length + 1 < sizeLine then zeI q e env ds (acc ++ [y]) M2 else none
      | _ => none)
    | some (.v (.bl false), M1) => zeI q e env ds acc M1
    | _ => none
def zgb (cs : List (Str × Nat)) (fs : EA) (q e : E) : E := fun env M => match fs env M with
  | some (.v ds, M1) => (match zeI q e (capE cs env) ds [] M1 with
    | some (ys, M2) => some (.v (.lst ys), M2)
    | none => none)
  | some (.x c n, M1) => some (.x c n, M1)
  | none => none
theorem ziJ {cs : List (Str × Nat)} {fs : EA} {q e : E} : ∀ env M r M', zgb cs fs q e env M = some (.v r, M') → ∃ ds, r = .lst ds := fun env M r M' h => by
 unfold zgb at h
 split at h
 ·split at h
  ·cases h; exact ⟨_, rfl⟩
  ·cases h
 ·cases h
 ·cases h
theorem zlX {K : PySem.W.Frag} {mg : Str → Option Value} {P1 P : Pl} {H1 H : Hp} {M : Mm} {D : Addr} {vs vs' : List V} (l : LtE P1 H1 P H) (h : Hk K mg P H M) (hD : H1 D = none) (bD : P.bd D) (nc : ∀ k, k < P.n → P.io k ≠ D) (e : H D = some (.lst vs)) :
  Lt P H P (upd H D (.lst vs')) ∧ LtE P1 H1 P (upd H D (.lst vs')) ∧ Hk K mg P (upd H D (.lst vs')) M := by
 have lc : Lt P H P (upd H D (.lst vs')) := zfF bD e zjg
 refine ⟨lc, ⟨l.n, l.io, l.bd, l.bm, fun c o ec n => ?_, fun c z => l.sure c (lc.sure c z), l.nw⟩, ⟨h.n, fun j c ej => (h.cell j c ej).lt lc fun o eo => ?_, h.inj, h.bd, fun c z q => h.here c z (lc.sure c q)⟩⟩
 ·rw [zar (fun z => by subst z; rw [hD] at ec; cases ec)]
  exact l.keep c o ec n
 ·rw [zar (nc j (by rw [h.n]; exact (List.getElem?_eq_some_iff.mp ej).1))]
  exact eo
def NR (K : PySem.W.Frag) (mg : Str → Option Value) (Wx : XW) (P0 : Pl) (H0 : Hp) (P : Pl) (H : Hp) (M' : Mm) (R : Addr → Hp → Prop) : Res → Prop
 | .v d => ∃ ds, d = .lst ds ∧ ∀ P' a vs H', LtE P H P' H' → Hk K mg P' H' M' → H a = none → P'.bd a → (∀ k, k < P'.n → P'.io k ≠ a) → H' a = some (.lst vs) → Iss K P' H' ds vs → R a H'
 | .x c n => Wx P0 H0 M' c n
theorem zj7 {K : PySem.W.Frag} {mg : Str → Option Value} {cs : List (Str × Nat)} {fs : EA} {q e : E} {P0 P : Pl} {H0 H : Hp} {Os : List (Option Addr)} {M M' : Mm} {st : L2.St} {env : Env} {r : Res} {R : Addr → Hp → Prop} (nd : (cs.map (·.2)).Nodup)
    (k : Ok K mg P0 H0 P Os H M st env) (h : zgb cs fs q e env M = some (r, M')) (w : NR K mg Wx P0 H0 P H M' R r) : zjH (tI K mg Wx fs) (tTt K mg W0 q) (tE K mg W0 .val e) cs st H R := by
  unfold zgb at h
  split at h
  · rename_i ds M1 ef
    split at h
    rotate_left
    · cases h
    rename_i ys M2 ec
    cases h
    obtain ⟨ds', e', w⟩ := w
    cases e'
    refine ⟨P0, H0, P, Os, env, M, _, _, k, ef, fun P1 H1 J l1 h1 wk D hD => ?_⟩
    obtain ⟨l2, h2, nc⟩ := zgo (vs := []) h1 hD
    refine ⟨fun i m vs H2 => m = ds.length - i ∧ i ≤ ds.length ∧ ∃ P2 M3 acc, LtE P1 H1 P2 H2 ∧ Hk K mg P2 H2 M3 ∧ P2.bd D ∧ (∀ k, k < P2.n → P2.io k ≠ D) ∧ H2 D = some (.lst vs) ∧ Iss K P2 H2 acc vs ∧ acc.length < sizeLine ∧ zeI q e (capE cs env) (ds.drop i) acc M3 = some (ys, M'),
      ⟨ds.length, by simp, Nat.zero_le _, P1.bar D, M1, [], l2, h2, .inr rfl, nc, zaC, rfl, by decide +kernel, by rw [List.drop_zero]; exact ec⟩, ?_⟩
    rintro i m vs H2 ⟨rfl, hi, P2, M3, acc, l3, h3, bD, nD, eD, is, hz, ec⟩
    refine ⟨eD, ?_⟩
    obtain ⟨w1, w2, w3⟩ := wk P2 H2 (l3.lt h1)
    by_cases hlt : i < ds.length
    · refine .inr ⟨w1 i hlt, by rw [is.len]; exact hz, fun vs' H' => ∃ P2 M3 acc, LtE P1 H1 P2 H' ∧ Hk K mg P2 H' M3 ∧ P2.bd D ∧ (∀ k, k < P2.n → P2.io k ≠ D) ∧ H' D = some (.lst vs') ∧ Iss K P2 H' acc vs' ∧ acc.length < sizeLine ∧ zeI q e (capE cs env) (ds.drop (i + 1)) acc M3 = some (ys, M'),
        fun vs' H' z => ⟨ds.length - (i + 1), by omega, rfl, hlt, z⟩, fun x H' y => ?_⟩
      obtain ⟨e3, d, ed, iv⟩ := w3 i x H' y hlt
      subst e3
      have ed' : ds.drop i = d :: ds.drop (i + 1) := by
        rw [List.drop_eq_getElem_cons hlt]
        rw [List.getElem?_eq_getElem hlt] at ed
        rw [Option.some.inj ed]
      rw [ed'] at ec
      have kk := ((k.next l1 h1).next l3 h3).cap (cs := cs) nd iv
      simp only [zeI] at ec
      split at ec
      · rename_i M4 eq
        refine zb0 kk eq ⟨true, rfl, fun P4 H4 l4 h4 => ?_⟩
        dsimp only
        rw [if_pos rfl]
        split at ec
        · rename_i y' M5 ee
          split at ec
          · rename_i hz'
            refine zaG (kk.next l4 h4) ee fun P5 v5 H5 l5 h5 i5 => ?_
            have l45 := l4.trans l5
            have eD5 : H5 D = some (.lst vs) := l45.keep D _ eD nD
            have nD5 : ∀ k, k < P5.n → P5.io k ≠ D := l45.nc eD nD
            obtain ⟨g1, g2, g3⟩ := zlX (vs' := vs ++ [v5]) (l3.trans l45) h5 hD (l45.bm D bD) nD5 eD5
            refine ⟨eD5, P5, M5, acc ++ [y'], g2, g3, l45.bm D bD, nD5, zaC, Iss.append (Iss.lt ((l45.lt h3).trans g1) is) (Iss.one (Is.lt g1 i5)), by rw [List.length_append]; exact hz', ec⟩
          · cases ec
        · cases ec
      · rename_i M4 eq
        refine zb0 kk eq ⟨false, rfl, fun P4 H4 l4 h4 => ?_⟩
        dsimp only
        rw [if_neg (by decide)]
        exact ⟨P4, M4, acc, l3.trans l4, h4, l4.bm D bD, l4.nc eD nD, l4.keep D _ eD nD, Iss.lt (l4.lt h3) is, hz, ec⟩
      · cases ec
    · have ei : i = ds.length := by omega
      subst ei
      rw [List.drop_length] at ec
      cases ec
      exact .inl ⟨w2 _ (Nat.le_refl _) (Nat.le_refl _), w P2 D vs H2 (l1.trans l3) h3 (l1.sure D hD) bD nD eD is⟩
  · rename_i c n M1 ef
    cases h
    exact ⟨P0, H0, P, Os, env, M, _, _, k, ef, w⟩
  · cases h
def SQ (X : Cx) (ifs : List Expr) (q : E) : Prop := PIfs X ifs (tTt X.K X.mg W0 q)
theorem zi8 : SQ X [] (sCon (.bl true)) := fun pins s σ H Q I h => by
 obtain ⟨P0, H0, P, Os, env, M, r, M', k, e, q⟩ := h
 cases e
 obtain ⟨b, e2, q⟩ := q
 cases e2
 exact zjl pins s σ H Q I (q P H (LtE.refl P H) k.hk)
section
variable {elt iter : Expr} {ifs : List Expr} {scope : Scope} {fs : EA} {q e : E}
theorem zjw (x : Str) (cs : List (Str × Nat)) {px : Pos} (hc : X.calm = true) (nd : (cs.map (·.2)).Nodup) (hi : SI X Wx (.Name x px) iter fs)
  (hq : ∀ (cl : List (Str × Addr)) (C : Addr) (s₀ : Shared) (H₀ : Hp) (ex : List Addr) (pn : List (Addr × Obj)), SQ (zb1 X (x :: cs.map (·.1)) scope cl C s₀ H₀ ex pn) ifs q)
  (he : ∀ (cl : List (Str × Addr)) (C : Addr) (s₀ : Shared) (H₀ : Hp) (ex : List Addr) (pn : List (Addr × Obj)), SE (zb1 X (x :: cs.map (·.1)) scope cl C s₀ H₀ ex pn) W0 .val elt e)
  (ok : zgk X.N X.env.scope x cs scope = true := by kernel_rfl) (hs : ∀ x, foldedSetIterable iter X.env x = pure x := by intro _; rfl) :
  SN X Wx (.ListComp elt [⟨.Name x px, iter, ifs, 0⟩] scope pos) (zgb cs fs q e) := by
 refine zaR (zlH (tq := tTt X.K X.mg W0 q) (te := tE X.K X.mg W0 .val e) x cs hc hi hq he ok hs) ?_
 rintro st H Q ⟨P0, H0, P, Os, env, M, r, M', k, e, w⟩
 refine zj7 nd k e ?_
 cases r with
 | v d => exact w
 | x c n => exact w
end
end
end E3
namespace E3
open PySem PySem.Spec PyProof.Rows L2
section
variable {X : Cx} {Wx : XW} {m : Mode} {pos : Pos}
def sPop (f : E) : E := fun env M => bnd (f env M) fun d M1 => match d with
  | .ref j => (match M1[j]? with
    | some (.lst ds) => (match ds[ds.length - 1]? with
      | some z => some (.v z, M1.set j (.lst ds.dropLast))
      | none => none)
    | _ => none)
  | _ => none
theorem Iss.dropLast {K : PySem.W.Frag} {P : Pl} {H : Hp} {ds : List D} {vs : List V} (h : Iss K P H ds vs) : Iss K P H ds.dropLast vs.dropLast := by
 rw [List.dropLast_eq_take, List.dropLast_eq_take, h.len]
 exact h.take _
theorem zeC {o : Expr} {f : E} {p : Pos} (ho : SE X Wx .val o f) (hbase : attributeBase o "pop" X.env (eval o X.env) = eval o X.env := by rfl) (hline : (p.endLine == pos.line) = true := by rfl) :
  SE X Wx m (.Call (.Attribute o "pop" p) [] [] pos) (sPop f) := by
 refine zaR (zle PySem.F.plainAttrs_list PySem.F.slot_list_pop PySem.F.type_list_pop zoL ho hbase hline) ?_
 rintro st H Q ⟨P0, H0, P, Os, env, M, r, M', k, e, q⟩
 unfold sPop at e
 rcases zaN e with ⟨d, M1, e1, e⟩ | ⟨c, n, e1, rfl⟩
 ·cases d <;> simp only [reduceCtorEq] at e
  rename_i j
  split at e
  rotate_left
  ·cases e
  rename_i ds em
  split at e
  rotate_left
  ·cases e
  rename_i z ez
  cases e
  refine zaG k e1 fun P1 v1 H1 l1 h1 i1 => ?_
  obtain ⟨jl, rfl⟩ : j < P1.n ∧ v1 = .ref (P1.io j) := i1
  obtain ⟨vs, ev, is⟩ := h1.cell j _ em
  obtain ⟨v, evt, iv⟩ := is.get ez
  have lc : Lt P1 H1 P1 (upd H1 (P1.io j) (.lst vs.dropLast)) := zfF (h1.bd j jl) ev zjg
  obtain ⟨l3, l3e, h3⟩ := h1.set (c' := .lst ds.dropLast) (o' := .lst vs.dropLast) em ⟨_, zaC, (Iss.lt lc is).dropLast⟩
  refine ⟨.inl ⟨rfl, vs, .inl (.inl ev)⟩, P1.io j, vs, v, rfl, rfl, ev, by rw [is.len]; exact evt, ?_⟩
  exact q P1 v _ (l1.trans l3e) h3 (IsM.of h3 (Is.lt l3 iv))
 ·exact zaG k e1 q
end
section
variable {K : PySem.W.Frag} {mg : Str → Option Value} {P : Pl} {H : Hp} {M : Mm}
end
section
variable {X : Cx} {Wx : XW} {m : Mode} {pos : Pos}
inductive ResP where
 | v (ps : List (D × D)) | x (c : Str) (n : Int)
def tyM (M : Mm) (d : D) : String := match d with
  | .ref k => (match M[k]? with
    | some (.lst _) => "list"
    | some (.dct _) => "dict"
    | _ => "")
  | d => tyD d
def sIsi (tb : String → String → Option Bool) (T : String) (f : E) : E := fun env M => bnd (f env M) fun d M1 => if tyM M1 d = "" then none else (tb (tyM M1 d) T).map fun b => (.v (.bl b), M1)
theorem ziX : zcO X (.builtin "isinstance") (fun xs H Q => ∃ (x : V) (T : String) (d : D) (P : Pl) (M : Mm) (b : Bool), xs = [x, .ty T] ∧ Hk X.K X.mg P H M ∧ IsB X.K P H d x ∧ tyM M d ≠ "" ∧ PySem.W.kitOne X.K (.type (tyM M d)) (.type T) = some b ∧ Q (.bl b) H) := by
  intro pins s σ H xs us Q I r h
  obtain ⟨x, T, d, P, M, b, rfl, hk, i, ne, e, q⟩ := h
  have old : tyM M d = tyD (vw M d) → wpAny (model X.prog X.w) X.A (call (.builtin "isinstance") us) (EP X pins σ Q) X.xe s := fun et => by
    rw [et] at ne e
    exact zjp pins s σ H _ us Q I r ⟨x, T, vw M d, P, b, rfl, IsB.vw hk i, ne, e, q⟩
  cases d with
  | ref k =>
    cases em : M[k]? with
    | none => simp [tyM, em] at ne
    | some c =>
      cases c with
      | lst ds => exact old (by simp [tyM, vw, em, tyD])
      | obj c fs => simp [tyM, em] at ne
      | dct kvs =>
        obtain ⟨u, w', rfl, rx, rT⟩ := vals2 r
        cases rT
        obtain ⟨kl, rfl⟩ : k < P.n ∧ x = .ref (P.io k) := i
        cases rx
        obtain ⟨vs, ev, _⟩ := hk.cell k _ em
        obtain ⟨_, _, vs', _, o, es, ep, h1, h2, _⟩ := I.hok _ _ ev
        simp only [tyM, em] at e
        exact PySem.W.kia_one PySem.W.kitx_dict I.kIn ⟨o, h1, h2.1⟩ e (fun z => nomatch z) fun tk => ⟨.bl b, H, I.tok _, rfl, q⟩
  | non => exact old rfl
  | bl _ => exact old rfl
  | int _ => exact old rfl
  | str _ => exact old rfl
  | tup _ => exact old rfl
  | lst _ => exact old rfl
theorem zna {e : Expr} {f : E} {T : String} {tb : String → String → Option Bool} {p p' : Pos} (ht : ∀ t b, tb t T = some b → PySem.W.kitOne X.K (.type t) (.type T) = some b) (he : SE X Wx .bor e f) (hg : Gl X "isinstance") (hm : X.mg "isinstance" = none) (hg' : Gl X (Str.ofString T)) (hm' : X.mg (Str.ofString T) = none) (hT : bootBuiltins (Str.ofString T) = some (.type T))
  (n1 : Str.ofString T ≠ "__name__" := by decide +kernel) (n2 : (Str.ofString T == ("__debug__" : Str)) = false := by decide +kernel) (hs : starEach [e, .Name (Str.ofString T) p'] X.env = (false, eval e X.env) :: starEach [.Name (Str.ofString T) p'] X.env := by rfl) :
  SE X Wx m (.Call (.Name "isinstance" p) [e, .Name (Str.ofString T) p'] [] pos) (sIsi tb T f) := by
 have pT : PE X (.Name (Str.ofString T) p') (tC (.ty T)) := zl9 hg' hm' hT rfl n1 n2
 refine zaR (zbf ziX hg hm boot_isinstance (zbR he (zbR pT zd2) hs) (by decide +kernel) (by decide +kernel) hs rfl) ?_
 rintro st H Q ⟨P0, H0, P, Os, env, M, r, M', k, e, q⟩
 unfold sIsi at e
 rcases zaN e with ⟨d, M1, e1, e⟩ | ⟨c, n, e1, rfl⟩
 ·split at e
  ·cases e
  ·rename_i hne
   rw [Option.map_eq_some_iff] at e
   obtain ⟨b, eb, e⟩ := e
   cases e
   exact zaG k e1 fun P1 v1 H1 l1 h1 i1 => ⟨v1, T, d, P1, _, b, rfl, h1, i1, hne, ht _ _ eb, q P1 _ H1 l1 h1 (IsM.of h1 (show Is _ _ _ (.bl b) _ from rfl))⟩
 ·exact zaG k e1 q
end
end E3
namespace E3
open PySem PySem.Spec PyProof.Rows L2
section
variable {X : Cx} {Wx : XW} {m : Mode} {pos : Pos}
def zhu : D → Option Str
 | .str z => if z.length ≤ sizeLine then some z else none
 | .int i => if i.natAbs.log2 < 1920 then some (toString i) else none
 | _ => none
abbrev EJ := Str → Env → Mm → O
def jEnd : EJ := fun out _ M => if out.length ≤ sizeLine then some (.v (.str out), M) else none
def jCon (z : Str) (ps : EJ) : EJ := fun out env M => if (out ++ z).length ≤ sizeLine then ps (out ++ z) env M else none
def jVal (f : E) (ps : EJ) : EJ := fun out env M => bnd (f env M) fun d M1 => match zhu d with
 | some y => if (out ++ y).length ≤ sizeLine then ps (out ++ y) env M1 else none
 | none => none
def tJ (K : PySem.W.Frag) (mg : Str → Option Value) (Wx : XW) (ps : EJ) : TJ := fun out st H Q => tE K mg Wx .val (ps out) st H Q
def SJ (X : Cx) (Wx : XW) (vs : List Expr) (ps : EJ) : Prop := PJ X vs (tJ X.K X.mg Wx ps)
theorem zh7 {vs : List Expr} {t t' : TJ} (h : PJ X vs t) (w : ∀ out σ H Q, t' out σ H Q → t out σ H Q) : PJ X vs t' := fun pins s σ H out Q I hw => h pins s σ H out Q I (w out σ H Q hw)
theorem zk2 : SJ X Wx [] jEnd := by
 refine zh7 znv ?_
 rintro out st H Q ⟨P0, H0, P, Os, env, M, r, M', k, e, q⟩
 unfold jEnd at e
 split at e
 ·rename_i hl
  cases e
  exact ⟨hl, q P _ H (LtE.refl P H) k.hk rfl⟩
 ·cases e
theorem zlu {z : Str} {vs : List Expr} {ps : EJ} {n : Nat} (h : SJ X Wx vs ps) (hz : z.length ≤ sizeLine := by decide +kernel) : SJ X Wx (.Constant (.str z) n pos :: vs) (jCon z ps) := by
 refine zh7 (zoF h hz) ?_
 rintro out st H Q ⟨P0, H0, P, Os, env, M, r, M', k, e, q⟩
 unfold jCon at e
 split at e
 ·rename_i hl
  exact ⟨hl, P0, H0, P, Os, env, M, r, M', k, e, q⟩
 ·cases e
theorem zni {K : PySem.W.Frag} {P : Pl} {H : Hp} {d : D} {v : V} {y : Str} (h : zhu d = some y) (i : Is K P H d v) : textV v = some y := by
 unfold zhu at h
 split at h
 ·cases i; exact h
 ·cases i; exact h
 ·cases h
theorem znW {e : Expr} {f : E} {vs : List Expr} {ps : EJ} (he : SE X Wx .val e f) (h : SJ X Wx vs ps) : SJ X Wx (.FormattedValue e (-1) none pos :: vs) (jVal f ps) := by
 refine zh7 (zn3 he h) ?_
 rintro out st H Q ⟨P0, H0, P, Os, env, M, r, M', k, e, q⟩
 unfold jVal at e
 rcases zaN e with ⟨d, M1, e1, e⟩ | ⟨c, n, e1, rfl⟩
 ·split at e
  ·rename_i y ey
   split at e
   ·rename_i hl
    exact zaG k e1 fun P1 v1 H1 l1 h1 i1 => ⟨y, zni ey i1, hl, P0, H0, P1, Os, env, M1, r, M', k.next l1 h1, e, RQ.imp l1 q⟩
   ·cases e
  ·cases e
 ·exact zaG k e1 q
def sFst (ps : EJ) : E := ps Str.empty
theorem zlx {v w : Expr} {vs : List Expr} {ps : EJ} (h : SJ X Wx (v :: w :: vs) ps) : SE X Wx m (.JoinedStr (v :: w :: vs) pos) (sFst ps) := by
 have h' : SE X Wx .val (.JoinedStr (v :: w :: vs) pos) (sFst ps) := zaR (pe_fst h) fun st H Q z => z
 exact h'.bor
def zgi (c : E) (b : S) : Nat → Env → Mm → OS
  | 0, _, _ => none
  | n + 1, env, M => match c env M with
    | some (.v (.bl true), M1) => (match b env M1 with
      | some (.nx e, M2) => zgi c b n e M2
      | some (.ct e, M2) => zgi c b n e M2
      | some (.bk e, M2) => some (.nx e, M2)
      | some (.rt d, M2) => some (.rt d, M2)
      | some (.ex x k, M2) => some (.ex x k, M2)
      | none => none)
    | some (.v (.bl false), M1) => some (.nx env, M1)
    | some (.x x k, M1) => some (.ex x k, M1)
    | _ => none
def zfN (n : Nat) (c : E) (b : S) : S := fun env M => zgi c b n env M
theorem zii (n : Nat) {c : Expr} {body : List Stmt} {t : E} {b : S} (hp : PassesOwn (model X.prog X.w) X.A X.env X.xe) (hc : ST X Wx c t) (hb : SB X Wx body b) : SS X Wx (.While c body [] pos) (zfN n t b) := by
  refine zcy (zks hp hc hb) ?_
  rintro D st H ⟨P0, H0, P, Os, env, M, out, M', k, e, q⟩
  refine ⟨fun m σ H1 => ∃ P1 Os1 M1 env1, Lt P H P1 H1 ∧ Ok X.K X.mg P0 H0 P1 Os1 H1 M1 σ env1 ∧ zgi t b m env1 M1 = some (out, M'), ⟨n, P, Os, M, env, Lt.refl _ _, k, e⟩, ?_⟩
  rintro m σ H1 ⟨P1, Os1, M1, env1, lt, k1, e1⟩
  cases m with
  | zero => cases e1
  | succ m =>
    simp only [zgi] at e1
    split at e1
    · rename_i M2 ec
      refine zb0 k1 ec ⟨true, rfl, fun P2 H2 l2 h2 => ?_⟩
      dsimp only
      rw [if_pos rfl]
      have k2 := k1.next l2 h2
      have lt2 := lt.trans (l2.lt k1.hk)
      refine ⟨fun σ' H' => ∃ P1 Os1 M1 env1, Lt P H P1 H' ∧ Ok X.K X.mg P0 H0 P1 Os1 H' M1 σ' env1 ∧ zgi t b m env1 M1 = some (out, M'), fun σ' H' z => ⟨m, Nat.lt_succ_self m, z⟩, ?_⟩
      split at e1
      · rename_i e' M3 eb
        exact ⟨P0, H0, P2, Os1, env1, M2, _, _, k2, eb, fun P' Os2 H2 st2 l2 k3 => ⟨P', Os2, _, e', lt2.trans l2, k3, e1⟩⟩
      · rename_i e' M3 eb
        exact ⟨P0, H0, P2, Os1, env1, M2, _, _, k2, eb, fun P' Os2 H2 st2 l2 k3 => ⟨P', Os2, _, e', lt2.trans l2, k3, e1⟩⟩
      · rename_i e' M3 eb
        cases e1
        exact ⟨P0, H0, P2, Os1, env1, M2, _, _, k2, eb, fun P' Os2 H2 st2 l2 k3 => q P' Os2 H2 st2 (lt2.trans l2) k3⟩
      · rename_i d M3 eb
        cases e1
        exact ⟨P0, H0, P2, Os1, env1, M2, _, _, k2, eb, q⟩
      · rename_i x k' M3 eb
        cases e1
        exact ⟨P0, H0, P2, Os1, env1, M2, _, _, k2, eb, q⟩
      · cases e1
    · rename_i M2 ec
      cases e1
      refine zb0 k1 ec ⟨false, rfl, fun P2 H2 l2 h2 => ?_⟩
      dsimp only
      rw [if_neg (by decide)]
      exact q P2 Os1 H2 σ (lt.trans (l2.lt k1.hk)) (k1.next l2 h2)
    · rename_i x k' M2 ec
      cases e1
      exact zb0 k1 ec q
    · cases e1
def setE : List Nat → List D → Env → Option Env
 | [], [], env => some env
 | i :: is, d :: ds, env => if i < env.length then setE is ds (env.set i (.val d)) else none
 | _, _, _ => none
def sUnp (is : List Nat) (f : E) : S := fun env M => bndS (f env M) fun d M1 => match d with
 | .tup ds => if ds.length = is.length then (setE is ds env).map fun e => (.nx e, M1) else none
 | _ => none
def bAbs : List D → Option D
 | [.int i] => some (.int (if i < 0 then -i else i))
 | _ => none
end
end E3
namespace E3
open PySem L2
section
variable {env : Env} {M M1 M2 : Mm} {f g o v : E} {d e x : D} {i : Int} {k : Nat} {ds es : List D} {s t : S} {z : Str} {fa : EA} {b : Bool}
def zkg : Option (List D × Mm) → O
 | some (ys, M) => some (.v (.lst ys), M)
 | none => none
def zmH (q e : E) (env : Env) : Option (ResA × Mm) → O
 | some (.v ds, M1) => zkg (zeI q e env ds [] M1)
 | some (.x c n, M1) => some (.x c n, M1)
 | none => none
theorem zoG {cs : List (Str × Nat)} {q e : E} : zgb cs fa q e env M = zmH q e (capE cs env) (fa env M) := by
  unfold zgb zmH
  cases fa env M with
  | none => rfl
  | some p =>
    obtain ⟨r, M'⟩ := p
    cases r with
    | x c n => rfl
    | v ds =>
      dsimp only
      unfold zkg
      cases zeI q e (capE cs env) ds [] M' <;> rfl
theorem r_comp {q e : E} : zmH q e env (some (.v ds, M)) = zkg (zeI q e env ds [] M) := rfl
theorem zmJ : zkg (some (ds, M)) = some (.v (.lst ds), M) := rfl
theorem q_capN : capE [] env = [] := rfl
theorem q_capC {x : Str} {n : Nat} {cs : List (Str × Nat)} : capE ((x, n) :: cs) env = (env[n]?).getD .un :: capE cs env := rfl
def isiV (tb : String → String → Option Bool) (T : String) (M : Mm) (ty : String) : O := if ty = "" then none else (tb ty T).map fun b => (.v (.bl b), M)
def isiR (tb : String → String → Option Bool) (T : String) : O → O
 | some (.v d, M) => isiV tb T M (tyM M d)
 | some (.x c n, M) => some (.x c n, M)
 | none => none
theorem q_isi {tb : String → String → Option Bool} {T : String} : sIsi tb T f env M = isiR tb T (f env M) := by
 unfold sIsi isiR bnd isiV
 cases f env M with
 | none => rfl
 | some p => obtain ⟨r, M'⟩ := p; cases r <;> rfl
theorem r_isi {tb : String → String → Option Bool} {T : String} : isiR tb T (some (.v d, M)) = isiV tb T M (tyM M d) := rfl
theorem ty_int : tyM M (.int i) = "int" := rfl
theorem ty_str : tyM M (.str z) = "str" := rfl
theorem ty_bl : tyM M (.bl b) = "bool" := rfl
theorem znZ : tyM M .non = "NoneType" := rfl
theorem znY : tyM M (.tup ds) = "tuple" := rfl
theorem ty_lst : tyM M (.lst ds) = "list" := rfl
theorem zhs {tb : String → String → Option Bool} {T ty : String} (h : ty ≠ "" := by decide) : isiV tb T M ty = (tb ty T).map fun b => (.v (.bl b), M) := if_neg h
theorem v_int {tb : String → String → Option Bool} {T : String} : isiV tb T M "int" = (tb "int" T).map fun b => (.v (.bl b), M) := zhs
theorem v_str {tb : String → String → Option Bool} {T : String} : isiV tb T M "str" = (tb "str" T).map fun b => (.v (.bl b), M) := zhs
theorem v_bl {tb : String → String → Option Bool} {T : String} : isiV tb T M "bool" = (tb "bool" T).map fun b => (.v (.bl b), M) := zhs
theorem v_non {tb : String → String → Option Bool} {T : String} : isiV tb T M "NoneType" = (tb "NoneType" T).map fun b => (.v (.bl b), M) := zhs
theorem v_tup {tb : String → String → Option Bool} {T : String} : isiV tb T M "tuple" = (tb "tuple" T).map fun b => (.v (.bl b), M) := zhs
theorem v_lst {tb : String → String → Option Bool} {T : String} : isiV tb T M "list" = (tb "list" T).map fun b => (.v (.bl b), M) := zhs
theorem v_dct {tb : String → String → Option Bool} {T : String} : isiV tb T M "dict" = (tb "dict" T).map fun b => (.v (.bl b), M) := zhs
theorem zfZ {c : E} {b : S} (Q : OS → Prop) (J : Nat → Env → Mm → Prop) {n : Nat} (h0 : ∃ m, m < n ∧ J m env M)
    (hs : ∀ m env M, J m env M → ∃ y M1, c env M = some (.v (.bl y), M1) ∧ if y = true then Step (fun e M => ∃ m', m' < m ∧ J m' e M) Q (b env M1) else Q (some (.nx env, M1))) : Q (zfN n c b env M) := by
  have key : ∀ (n m : Nat) (env : Env) (M : Mm), m < n → J m env M → Q (zgi c b n env M) := by
    intro n
    induction n with
    | zero => intro m env M h; exact absurd h (Nat.not_lt_zero _)
    | succ n ih =>
      intro m env M hm hJ
      obtain ⟨y, M1, h1, h2⟩ := hs m env M hJ
      cases y with
      | false => simp only [zgi, h1]; exact h2
      | true =>
        simp only [zgi, h1]
        rw [if_pos rfl] at h2
        cases eb : b env M1 with
        | none => rw [eb] at h2; exact h2.elim
        | some o =>
          rw [eb] at h2
          obtain ⟨o, M'⟩ := o
          cases o with
          | nx e' => obtain ⟨m', h3, h4⟩ := h2; exact ih m' e' M' (by omega) h4
          | ct e' => obtain ⟨m', h3, h4⟩ := h2; exact ih m' e' M' (by omega) h4
          | bk e' => exact h2
          | rt d => exact h2
          | ex c n => exact h2
  obtain ⟨m, h1, h2⟩ := h0
  exact key n m env M h1 h2
theorem o_abs : bAbs [.int i] = some (.int (if i < 0 then -i else i)) := rfl
def unpD (is : List Nat) (env : Env) (M : Mm) : D → OS
 | .tup ds => if ds.length = is.length then (setE is ds env).map fun e => (.nx e, M) else none
 | _ => none
theorem q_unp {is : List Nat} : sUnp is f env M = bndT (fun d M1 => unpD is env M1 d) (f env M) := by
  unfold sUnp bndT bndS
  cases f env M with
  | none => rfl
  | some p => obtain ⟨r, M'⟩ := p; cases r with
    | x c n => rfl
    | v d => cases d <;> rfl
theorem r_unp {is : List Nat} : unpD is env M (.tup ds) = if ds.length = is.length then (setE is ds env).map fun e => (.nx e, M) else none := rfl
theorem zmU : setE [] [] env = some env := rfl
theorem zmI {n : Nat} {is : List Nat} : setE (n :: is) (d :: ds) env = if n < env.length then setE is ds (env.set n (.val d)) else none := rfl
end
end E3
namespace L2
open PySem PySem.Spec PyProof.Rows
end L2
namespace E3
open PySem PySem.Spec PyProof.Rows L2
section
variable {X : Cx} {Wx : XW} {m : Mode} {pos : Pos}
end
section
variable {env : Env} {M M1 M2 : Mm} {s t : S} {d : D} {c : Str} {cat : Str → Bool} {a : Int}
end
end E3
namespace E3
open PySem PySem.Spec PyProof.Rows L2
section
variable {es : List Expr} {env : PySem.Env} {pos : Pos}
theorem zad {c : Const} {k : Nat} : starEach (.Constant c k pos :: es) env = (false, eval (.Constant c k pos) env) :: starEach es env := by rfl
theorem zai {x : Str} : starEach (.Name x pos :: es) env = (false, eval (.Name x pos) env) :: starEach es env := by rfl
theorem zcd {a b : Expr} {o : Operator} : starEach (.BinOp a o b pos :: es) env = (false, eval (.BinOp a o b pos) env) :: starEach es env := by rfl
theorem zfh {f : Expr} {as : List Expr} {ks : List Keyword} : starEach (.Call f as ks pos :: es) env = (false, eval (.Call f as ks pos) env) :: starEach es env := by rfl
theorem zgM {a : Expr} {x : Str} : starEach (.Attribute a x pos :: es) env = (false, eval (.Attribute a x pos) env) :: starEach es env := by rfl
theorem zbU {a b : Expr} : starEach (.Subscript a b pos :: es) env = (false, eval (.Subscript a b pos) env) :: starEach es env := by rfl
theorem zl1 {as : List Expr} : starEach (.List as pos :: es) env = (false, eval (.List as pos) env) :: starEach es env := by rfl
theorem zhC {a : Expr} {gs : List Comprehension} {sc : Scope} : starEach (.ListComp a gs sc pos :: es) env = (false, eval (.ListComp a gs sc pos) env) :: starEach es env := by rfl
end
end E3
namespace L2
open PySem PySem.Spec PyProof.Rows
theorem ziE {P : Program} {w : World} {K : PySem.W.Frag} {mg : Str → Option Value} {base : Heap} {N : List Str} {qual : Str} {scope : Scope} {f : Addr} {cd : Value} {A : Around} {outer : List PySem.Env} {E : XK} {s : Shared} {H H1 : Hp} {s1 : Shared} {pins : List (Addr × Obj)} {σ : St} {a C T : Addr} {dx : Option Addr}
  (c : Caught (cxOf (CX1 P w) P w K mg base N qual scope f cd A outer s H E) pins σ H1 s1 a C dx T) (hE : E (.ref C) dx H1) : (cxOf (CX1 P w) P w K mg base N qual scope f cd A outer s H E).xe (.ref a) s1 := by
 show wpAny _ _ (leaving _ _) _ _ _
 unfold leaving
 refine wpAny_bind (Caught.note c rfl rfl fun s' T' c' => ?_)
 have I := c'.inv
 have hL : s.heap.get? (envOfC qual scope s.heap.objs.size f cd).locals = none := Heap.get?_none_of_le I.ok.above
 have u1 : Un (s.heap.objs.size :: frs outer) [] H H1 s.heap s'.heap := Un.mono (fs' := s.heap.objs.size :: frs outer) (ex' := []) I.base (fun b hb => List.mem_cons_of_mem _ hb) fun b hb => hb
 exact ⟨a, C, dx, H1, T', rfl, I.os, I.bare, u1.less hL, I.hok, c'.obj, c'.hT, c'.t1, c'.fl, hE⟩
end L2
namespace E3
open PySem PySem.Spec PyProof.Rows L2
structure XPass (X : Cx) (Wx : XW) : Prop where
 xc : ∀ pins σ H s a C dx T c n P0 H0 P M, Caught X pins σ H s a C dx T → LtE P0 H0 P H → Hk X.K X.mg P H M → X.mg c = some (.ref C) → XN H n dx → Wx P0 H0 M c n → X.xe (.ref a) s
section
variable {X : Cx} {Wx : XW} {m : Mode} {pos : Pos}
theorem SX.se {e : Expr} {f : E} (F : XPass X Wx) (h : SX X e f) : SE X Wx m e f := by
  have h' : SE X Wx .val e f := by
    let Ex : L2.St → XK := fun σ Cv dx H' => ∀ pins s' a C T, Cv = .ref C → Caught X pins σ H' s' a C dx T → X.xe (.ref a) s'
    refine zaR (h Ex fun pins σ H s e s' I z => ?_) ?_
    · obtain ⟨a, C, dx, H', T, rfl, K1, hE⟩ := zgL I z
      exact hE pins s' a C T rfl K1
    · rintro st H Q ⟨P0, H0, P, Os, env, M, r, M', k, e, q⟩
      refine ⟨P0, H0, P, Os, env, M, r, M', k, e, ?_⟩
      cases r with
      | v d => exact q
      | x c n =>
        intro P' H' C dx l hk hm xn pins s' a C' T eC ca
        cases eC
        exact F.xc pins st H' s' a C dx T c n P0 H0 P' M' ca (k.base.trans l) hk hm xn q
  exact h'.bor
end
section
variable {P : Program} {w : World} {K : PySem.W.Frag} {mg : Str → Option Value} {base : Heap} {k : Nat} {x qual : Str} {st : Stmt} {f : Addr} {fd : FuncData} {N ps : List Str} {b : S}
theorem zhH (F : FunD K x qual st f fd) (S : FnScope N ps (zaa st)) (hp : ps.length ≤ N.length)
    (hb : ∀ cdv A outer s H E Wx, Room k (A.deeper (envOfC qual (zaa st) s.heap.objs.size f cdv)) → XFit (cxX P w K mg base N qual st f cdv A outer s H E) Wx → XPass (cxX P w K mg base N qual st f cdv A outer s H E) Wx → SB (cxX P w K mg base N qual st f cdv A outer s H E) Wx (zal st) b) : FnOk P w K mg base (CX1 P w) (k + 1) f fd ps (spX K mg ps.length (fnG N.length b)) := by
  obtain ⟨oc, od, dV, kV, doc, pm, an, cdv, ct, osl, rfl, lk, hcd⟩ := F.ex
  refine znr lk hcd S (fun vs H Q E h => h.1) fun A outer s H vs Q E hr h => ?_
  obtain ⟨hl, Pl, M, ds, r, M', hk, is, e, q⟩ := h
  have XF : XFit (cxX P w K mg base N qual st f cdv A outer s H E) (fun P0 H0 M1 c n => P0 = Pl ∧ H0 = H ∧ M1 = M' ∧ r = .x c n) := ⟨fun pins σ H1 s1 a C dx c n P0 H0 P1 M1 I ea nb n0 l h m xn ⟨e1, e2, e3, e4⟩ => by
    subst e1 e2 e3 e4
    have sure : ∀ b, upd H1 a (xo a C dx false) b = none → H1 b = none := fun b z => by
      by_cases hb : b = a
      · subst hb; rw [zaC] at z; cases z
      · rw [zar hb] at z; exact z
    have l1 : LtE P0 H0 P1 (upd H1 a (xo a C dx false)) := ⟨l.n, l.io, l.bd, l.bm, fun b o eb nb => by
      rw [zar (fun z => by rw [z, n0] at eb; cases eb)]
      exact l.keep b o eb nb, fun b z => l.sure b (sure b z), l.nw⟩
    have h1 := h.away (H' := upd H1 a (xo a C dx false)) (fun b o eb nx => by
      rw [zar (fun z => by rw [z, ea] at eb; cases eb; exact nx _ rfl)]
      exact eb) sure
    refine zkL I ea (q P1 _ C dx l1 h1 m ?_)
    cases dx with
    | none => exact xn
    | some d =>
      obtain ⟨fs, ed, el⟩ := xn
      exact ⟨fs, by rw [zar (fun z => by rw [z, ea] at ed; cases ed)]; exact ed, el⟩⟩
  have XP : XPass (cxX P w K mg base N qual st f cdv A outer s H E) (fun P0 H0 M1 c n => P0 = Pl ∧ H0 = H ∧ M1 = M' ∧ r = .x c n) := ⟨fun pins σ H1 s1 a C dx T c n P0 H0 P1 M1 ca l h m xn ⟨e1, e2, e3, e4⟩ => by
    subst e1 e2 e3 e4
    exact ziE ca (q P1 _ C dx l h m xn)⟩
  refine ⟨_, hb cdv A outer s H E _ hr XF XP, ?_⟩
  unfold fnG endS at e
  have st0 := zh3 (N := N) hk (by omega) is
  split at e
  · rename_i d' M2 eb
    cases e
    exact ⟨Pl, H, Pl, _, _, M, _, _, st0, eb, fun P' v H' l h i => q P' v H' l h i⟩
  · rename_i env M2 eb
    cases e
    exact ⟨Pl, H, Pl, _, _, M, _, _, st0, eb, fun P' Os' H' st' _ k' => q P' .non H' k'.base k'.hk rfl⟩
  · rename_i c n M2 eb
    cases e
    exact ⟨Pl, H, Pl, _, _, M, _, _, st0, eb, ⟨rfl, rfl, rfl, rfl⟩⟩
  · cases e
end
end E3
namespace E3
open PySem PySem.Spec PyProof.Rows L2
section
variable {K : PySem.W.Frag} {P : Pl} {H : Hp}
def zgX : List D → Option (List Bool)
 | [] => some []
 | .bl b :: ds => (zgX ds).map (b :: ·)
 | _ :: _ => none
theorem zjr : ∀ {ds : List D} {bs : List Bool} {vs : List V}, zgX ds = some bs → Iss K P H ds vs → vs = bs.map V.bl
  | [], _, _, e, h => by cases e; exact h
  | d :: ds, bs, vs, e, h => by
    obtain ⟨v, r, rfl, i, h⟩ := h
    cases d with
    | bl n =>
      simp only [zgX, Option.map_eq_some_iff] at e
      obtain ⟨bs', e', rfl⟩ := e
      cases i
      rw [zjr e' h]
      rfl
    | _ => simp [zgX] at e
theorem zhZ : ∀ (bs : List Bool), zgX (bs.map D.bl) = some bs
 | [] => rfl
 | b :: bs => by simp [zgX, zhZ bs]
def zi2 : List D → Option (List Str)
 | [] => some []
 | .str z :: ds => (zi2 ds).map (z :: ·)
 | _ :: _ => none
theorem ziP : ∀ {ds : List D} {zs : List Str} {vs : List V}, zi2 ds = some zs → Iss K P H ds vs → vs = zs.map V.str
  | [], _, _, e, h => by cases e; exact h
  | d :: ds, zs, vs, e, h => by
    obtain ⟨v, r, rfl, i, h⟩ := h
    cases d with
    | str n =>
      simp only [zi2, Option.map_eq_some_iff] at e
      obtain ⟨zs', e', rfl⟩ := e
      cases i
      rw [ziP e' h]
      rfl
    | _ => simp [zi2] at e
def bStr : List D → Option D
 | [.int i] => if i.natAbs.log2 < 1920 then some (.str (toString i)) else none
 | _ => none
theorem zlC : zgJ K (fun xs H Q => ∃ i, xs = [.int i] ∧ i.natAbs.log2 < 1920 ∧ Q (.str (toString i)) H) bStr := fun P H ds z vs Q h i _ q => by
 unfold bStr at h
 split at h
 ·split at h
  ·rename_i hl
   obtain ⟨v, ws, rfl, p, rfl⟩ := i
   cases h; cases p
   exact ⟨_, rfl, hl, q _ H (Same.refl H) rfl⟩
  ·cases h
 ·cases h
def bInt : List D → Option D
 | [.str z] => if z.length ≤ 640 then (intText? z).map .int else none
 | _ => none
theorem zlq : zgJ K (fun xs H Q => ∃ z n, xs = [.str z] ∧ intText? z = some n ∧ z.length ≤ 640 ∧ Q (.int n) H) bInt := fun P H ds z vs Q h i _ q => by
 unfold bInt at h
 split at h
 ·split at h
  ·rename_i hl
   rw [Option.map_eq_some_iff] at h
   obtain ⟨n, en, rfl⟩ := h
   obtain ⟨v, ws, rfl, p, rfl⟩ := i
   cases p
   exact ⟨_, n, rfl, en, hl, q _ H (Same.refl H) rfl⟩
  ·cases h
 ·cases h
def bAny : List D → Option D
 | [.lst ds] => (zgX ds).map fun bs => .bl (bs.any id)
 | _ => none
theorem znR : zgJ K (fun xs H Q => ∃ (p : Addr) (bs : List Bool), xs = [.ref p] ∧ SqL K H p (bs.map V.bl) ∧ Q (.bl (bs.any id)) H) bAny := fun P H ds z vs Q h i _ q => by
 unfold bAny at h
 split at h
 ·rw [Option.map_eq_some_iff] at h
  obtain ⟨is, ei, rfl⟩ := h
  obtain ⟨v, ws, rfl, p, rfl⟩ := i
  obtain ⟨a, us, rfl, r, s⟩ := p
  rw [zjr ei s] at r
  exact ⟨a, is, rfl, r, q _ H (Same.refl H) rfl⟩
 ·cases h
def bTup : List D → Option D
 | [.lst ds] => some (.tup ds)
 | [.tup ds] => some (.tup ds)
 | _ => none
theorem zow : zgJ K (fun xs H Q => ∃ p ys, xs = [.ref p] ∧ ((SqL K H p ys ∧ ∀ l, H l = none → Q (.ref l) (upd H l (.tup ys))) ∨ (SqT K H p ys ∧ Q (.ref p) H))) bTup := fun P H ds z vs Q h i _ q => by
 unfold bTup at h
 split at h
 ·obtain ⟨v, ws, rfl, p, rfl⟩ := i
  cases h
  obtain ⟨a, us, rfl, r, s⟩ := p
  exact ⟨a, us, rfl, .inl ⟨r, zm0 s q⟩⟩
 ·obtain ⟨v, ws, rfl, p, rfl⟩ := i
  cases h
  obtain ⟨a, us, rfl, r, s⟩ := p
  exact ⟨a, us, rfl, .inr ⟨r, q _ H (Same.refl H) ⟨a, us, rfl, r, s⟩⟩⟩
 ·cases h
end
section
variable {X : Cx} {Wx : XW} {m : Mode} {pos : Pos}
def zlK (K : PySem.W.Frag) (r : V → List V → Hp → VK → Prop) (o : Str → List D → Option D) : Prop := ∀ (P : Pl) (H : Hp) (y : Str) (ds : List D) (z : D) (vs : List V) (Q : VK), o y ds = some z → AllW K P H ds vs → (∀ p, H p = none → ¬ P.bd p) → (∀ u H', Same H H' → Is K P H' z u → Q u H') → r (.str y) vs H Q
def sMt (o : Str → List D → Option D) (f : E) (fs : EA) : E := fun env M => bnd (f env M) fun d M1 => match d with
 | .str y => bndA (fs env M1) fun ds M2 => (o y (ds.map (vw M2))).map fun z => (.v z, M2)
 | _ => none
theorem znJ {a e : Expr} {es : List Expr} {name : Str} {id : String} {r : V → List V → Hp → VK → Prop} {o : Str → List D → Option D} {f : E} {fs : EA} {p : Pos} (slot : PySem.Slot "str" name id) (hty : typeOf (.builtin id) = pure (.type "method_descriptor")) (hm : MtR X id r) (po : zlK X.K r o) (ha : SE X Wx .val a f) (hs : SA X Wx .bor (e :: es) fs)
  (hbase : attributeBase a name X.env (eval a X.env) = eval a X.env := by rfl)
  (hfew : ((backTo pos (starEach (e :: es) X.env)).all (fun x => !x.1) && (backToKw pos (keywordEach [] X.env)).all (fun x => x.1.isSome) && decide ((e :: es).length + ([] : List Keyword).length + (if ([] : List Keyword).isEmpty then 0 else 1) < 30)) = true := by rfl)
  (hline : (p.endLine == pos.line) = true := by rfl) (hst : starEach (e :: es) X.env = (false, eval e X.env) :: starEach es X.env := by rfl) (hplain : (backTo pos (starEach es X.env)).any (·.1) = false := by rfl) :
  SE X Wx m (.Call (.Attribute a name p) (e :: es) [] pos) (sMt o f fs) := by
 refine zaR (zkm PySem.F.plainAttrs_str slot hty hm ha hs hbase hfew hline hst hplain) ?_
 rintro st H Q ⟨P0, H0, P, Os, env, M, r, M', k, e, q⟩
 unfold sMt at e
 rcases zaN e with ⟨d, M1, e1, e⟩ | ⟨c, n, e1, rfl⟩
 ·cases d <;> simp only [reduceCtorEq] at e
  rename_i y
  refine zaG k e1 fun P1 v1 H1 l1 h1 i1 => ?_
  have k1 := k.next l1 h1
  cases i1
  refine ⟨rfl, ?_⟩
  rcases zcz e with ⟨ds, M2, e2, e⟩ | ⟨c, n, e2, rfl⟩
  ·rw [Option.map_eq_some_iff] at e
   obtain ⟨z, ez, e⟩ := e
   cases e
   exact ⟨P0, H0, P1, Os, env, M1, _, _, k1, e2, fun P2 vs H2 l2 h2 i2 => po P2 H2 y _ z vs Q ez (AllM.w h2 i2) h2.new fun u H' s i => q P2 u H' (l1.trans (l2.trans (LtE.same s))) (h2.same s) (IsM.of (h2.same s) i)⟩
  ·exact ⟨P0, H0, P1, Os, env, M1, _, _, k1, e2, q⟩
 ·exact zaG k e1 q
def zgq (z : Str) : List D → Option D
 | [.str y] => some (.bl (Txt.startswith z y))
 | _ => none
theorem zjz {K : PySem.W.Frag} : zlK K ziY zgq := fun P H y ds z vs Q h i _ q => by
 unfold zgq at h
 split at h
 ·cases h
  obtain ⟨v, ws, rfl, p, rfl⟩ := i
  cases p
  exact ⟨_, _, rfl, rfl, q _ H (Same.refl H) rfl⟩
 ·cases h
def zgj (z : Str) : List D → Option D
 | [.str y] => if z.length ≤ sizeLine then some (.str (Txt.lstripChars z y)) else none
 | _ => none
theorem zjP {K : PySem.W.Frag} : zlK K zj4 zgj := fun P H y ds z vs Q h i _ q => by
 unfold zgj at h
 split at h
 ·split at h
  ·rename_i hl
   cases h
   obtain ⟨v, ws, rfl, p, rfl⟩ := i
   cases p
   exact ⟨_, _, rfl, rfl, hl, q _ H (Same.refl H) rfl⟩
  ·cases h
 ·cases h
end
end E3
namespace E3
open PySem PySem.Spec PyProof.Rows L2
def zcn (tb : List (Str × D)) (z : Str) : Option D := (tb.find? fun p => decide (p.1 = z)).map (·.2)
inductive KRows (K : PySem.W.Frag) (w : World) : List (Str × D) → List DictEntry → List (Key × Value) → Prop
 | nil : KRows K w [] [] []
 | cons {z : Str} {d : D} {t : Tok} {u : Value} {v : V} {hs : Int} {tb : List (Str × D)} {es : List DictEntry} {vs : List (Key × Value)} : hs = hashStr w z → RelV v u → (∀ P H, Is K P H d v) → KRows K w tb es vs → KRows K w ((z, d) :: tb) (⟨hs, .str z t, u⟩ :: es) ((.inr z, u) :: vs)
def KTab (K : PySem.W.Frag) (w : World) (a : Addr) (tb : List (Str × D)) : Prop := ∃ o es ep vs, K.lookup a = some o ∧ o.ExactDict ∧ o.data = .dict es ep ∧ KRows K w tb es.toList vs ∧ (tb.map (·.1)).Nodup ∧ (a == sysModules) = false
section
variable {K : PySem.W.Frag} {w : World} {prog : Program}
theorem zfP : ∀ {tb : List (Str × D)} {es : List DictEntry} {vs : List (Key × Value)}, KRows K w tb es vs → (∀ e ∈ es, ∃ k, (zcJ prog w).is k e.key = true ∧ e.hash = (zcJ prog w).hash k) ∧ Pairs (zcJ prog w) es vs ∧ vs.map (·.1) = tb.map fun p => (.inr p.1 : Key)
  | _, _, _, .nil => ⟨fun e h => (by cases h), .nil, rfl⟩
  | _, _, _, .cons (z := z) (t := t) h1 h2 h3 r => by
    obtain ⟨a, b, c⟩ := zfP r
    refine ⟨fun e he => ?_, .cons (zdA prog w z t) rfl b, by rw [List.map_cons, List.map_cons, c]⟩
    rw [List.mem_cons] at he
    rcases he with rfl | he
    · exact ⟨.inr z, zdA prog w z t, h1⟩
    · exact a e he
theorem zfe {z : Str} : ∀ {tb : List (Str × D)} {es : List DictEntry} {vs : List (Key × Value)}, KRows K w tb es vs → match zcn tb z with
    | some d => ∃ u v, valueAt vs (.inr z : Key) = some u ∧ RelV v u ∧ ∀ P H, Is K P H d v
    | none => valueAt vs (.inr z : Key) = none
  | _, _, _, .nil => rfl
  | _, _, _, .cons (z := y) (d := d) (u := u) (v := v) (tb := tb) (vs := vs) h1 h2 h3 r => by
    by_cases e : y = z
    · subst e
      have a : zcn ((y, d) :: tb) y = some d := by simp [zcn, List.find?_cons]
      have b : valueAt ((.inr y, u) :: vs) (.inr y : Key) = some u := by simp [valueAt, List.find?_cons]
      rw [a]
      exact ⟨u, v, b, h2, h3⟩
    · have a : zcn ((y, d) :: tb) z = zcn tb z := by simp [zcn, List.find?_cons, e]
      have b : valueAt ((.inr y, u) :: vs) (.inr z : Key) = valueAt vs (.inr z) := by simp [valueAt, List.find?_cons, e]
      rw [a, b]
      exact zfe r
theorem KTab.dict {a : Addr} {tb : List (Str × D)} {h : Heap} (t : KTab K w a tb) (X : K.In h) : ∃ es vs, KRows K w tb es vs ∧ h.DictOf (zcJ prog w) a vs ∧ (a == sysModules) = false := by
 obtain ⟨o, es, ep, vs, l, x, d, r, nd, ns⟩ := t
 obtain ⟨r1, r2, r3⟩ := zfP (prog := prog) r
 refine ⟨es.toList, vs, r, ⟨o, es, ep, X a o l, x, d, fun e he => r1 e (by simpa using he), r2, ?_⟩, ns⟩
 rw [r3]
 have : (tb.map fun p => (Sum.inr p.1 : Key)) = (tb.map (·.1)).map Sum.inr := by rw [List.map_map]; rfl
 rw [this]
 exact List.pairwise_map.mpr (List.Pairwise.imp (fun h q => h (Sum.inr.inj q)) nd)
end
section
variable {X : Cx} {Wx : XW} {m : Mode} {pos : Pos}
def sKIn (b : Bool) (tb : List (Str × D)) (f : E) : E := fun env M => bnd (f env M) fun d M1 => match d with
 | .str z => some (.v (.bl (if b then (zcn tb z).isSome else !(zcn tb z).isSome)), M1)
 | _ => none
def zin (tb : List (Str × D)) (f : E) : E := fun env M => bnd (f env M) fun d M1 => match d with
 | .str z => (zcn tb z).map fun y => (.v y, M1)
 | _ => none
theorem zit {z : Str} {K : PySem.W.Frag} {w : World} {tb : List (Str × D)} {es : List DictEntry} {vs : List (Key × Value)} (r : KRows K w tb es vs) : (valueAt vs (.inr z : Key)).isSome = (zcn tb z).isSome := by
 have g := zfe (z := z) r
 cases h : zcn tb z with
 | none => rw [h] at g; have g' : valueAt vs (.inr z : Key) = none := g; rw [g']; rfl
 | some d => rw [h] at g; obtain ⟨u, v, e, _⟩ := g; rw [e]; rfl
theorem znL {i : Expr} {ty : TE} {nm : Str} {p : Pos} {a : Addr} {tb : List (Str × D)} (hi : PE X i ty) (hg : Gl X nm) (hm : X.mg nm = some (.ref a)) (t : KTab X.K X.w a tb) (hdb : (nm == ("__debug__" : Str)) = false) :
  PC X .In i (.Name nm p) (fun σ H Q => ty σ H fun y H1 => ∃ z, y = .str z ∧ Q (.bl (zcn tb z).isSome) H1) := by
 intro pins s σ H Q I h
 refine thn (hi pins s σ H _ I h) fun iv s1 ⟨y, H1, I1, ry, z, ey, q⟩ => zc3 I1 hg hm ?_ hdb
 subst ey
 obtain ⟨es, vs, r, dd, ns⟩ := t.dict (prog := X.prog) I1.kIn
 refine wpAny_in_of (k := (.inr z : Key)) (kV_is (k := .inr z) ry) ns dd.mapOf ?_
 rw [zit r]
 exact ⟨.bl _, H1, I1.tok _, rfl, q⟩
theorem kin_ok {b : Bool} {tb : List (Str × D)} {f : E} {st : L2.St} {H : Hp} {Q : VK} (w : tE X.K X.mg Wx m (sKIn b tb f) st H Q) : tE X.K X.mg Wx .val f st H fun y H1 => ∃ z, y = .str z ∧ Q (.bl (if b then (zcn tb z).isSome else !(zcn tb z).isSome)) H1 := by
 obtain ⟨P0, H0, P, Os, env, M, r, M', k, e, q⟩ := w
 unfold sKIn at e
 rcases zaN e with ⟨d, N1, e1, e⟩ | ⟨c, n, e1, rfl⟩
 ·cases d <;> simp only [reduceCtorEq] at e
  rename_i z
  cases e
  exact zaG k e1 fun P1 v1 H1 l1 h1 i1 => ⟨z, i1, q P1 _ H1 l1 h1 (IsM.of h1 (show Is _ _ _ (.bl _) _ from rfl))⟩
 ·exact zaG k e1 q
theorem zlf {i : Expr} {f : E} {nm : Str} {p : Pos} {a : Addr} {tb : List (Str × D)} (hi : SE X Wx .val i f) (hg : Gl X nm) (hm : X.mg nm = some (.ref a)) (t : KTab X.K X.w a tb) (hdb : (nm == ("__debug__" : Str)) = false := by decide +kernel) (hb : behindInMarks .In (.Name nm p) = false := by rfl) : ST X Wx (.Compare i [.In] [.Name nm p] pos) (sKIn true tb f) :=
 zhV (pt_cmp (znL hi hg hm t hdb) hb) fun _ _ _ w => kin_ok (b := true) (zoa w)
theorem ziK {i : Expr} {f : E} {nm : Str} {p : Pos} {a : Addr} {tb : List (Str × D)} (hi : SE X Wx .val i f) (hg : Gl X nm) (hm : X.mg nm = some (.ref a)) (t : KTab X.K X.w a tb) (hdb : (nm == ("__debug__" : Str)) = false := by decide +kernel) (hs : NoSl i := by exact fun _ _ => rfl) : SE X Wx m (.Subscript (.Name nm p) i pos) (zin tb f) := by
 have h' : PE X (.Subscript (.Name nm p) i pos) (fun σ H Q => tE X.K X.mg Wx .val f σ H fun y H1 => ∃ z d, y = .str z ∧ zcn tb z = some d ∧ ∀ v, (∀ P H, Is X.K P H d v) → Q v H1) := by
  intro pins s σ H Q I h
  refine zlS PySem.F.slot_dict_getitem.lookup hs (zc3 I hg hm ?_ hdb)
  refine thn (hi pins s σ H _ I h) fun iv s2 ⟨y, H2, I2, ry, z, d, ey, ed, q2⟩ => ?_
  subst ey
  obtain ⟨es, vs, r, dd, ns⟩ := t.dict (prog := X.prog) I2.kIn
  have g := zfe (z := z) r
  rw [ed] at g
  obtain ⟨u, v, e1, e2, e3⟩ := g
  exact ⟨dd.typeIs, wpAny_getItem_of (k := (.inr z : Key)) (kV_is (k := .inr z) ry) dd.mapOf e1 ⟨v, H2, I2.tok _, e2, q2 v e3⟩⟩
 refine zaR h' ?_
 rintro st H Q ⟨P0, H0, P, Os, env, M, r, M', k, e, q⟩
 unfold zin at e
 rcases zaN e with ⟨d, N1, e1, e⟩ | ⟨c, n, e1, rfl⟩
 ·cases d <;> simp only [reduceCtorEq] at e
  rename_i z
  rw [Option.map_eq_some_iff] at e
  obtain ⟨y, ey, e⟩ := e
  cases e
  exact zaG k e1 fun P1 v1 H1 l1 h1 i1 => ⟨z, y, i1, ey, fun v iv => q P1 v H1 l1 h1 (IsM.of h1 (iv P1 H1))⟩
 ·exact zaG k e1 q
end
end E3
namespace E3
open PySem PySem.Spec PyProof.Rows L2
section
variable {X : Cx} {Wx : XW} {pos : Pos}
def iTx (f : E) : EA := fun env M => match f env M with
 | some (.v (.str z), M1) => some (.v (z.cps.toList.map fun c => .str ⟨#[c]⟩), M1)
 | some (.x c n, M1) => some (.x c n, M1)
 | _ => none
theorem si_tx {tg e : Expr} {f : E} (h : SE X Wx .val e f) : SI X Wx tg e (iTx f) := by
 refine zgu (zn7 h) ?_
 rintro st H R ⟨P0, H0, P, Os, env, M, r, M', k, e, q⟩
 unfold iTx at e
 split at e
 ·rename_i z M1 ef
  cases e
  refine ⟨P0, H0, P, Os, env, M, _, _, k, ef, fun P1 v1 H1 l1 h1 i1 => ⟨z, i1, q P1 H1 _ l1 h1 fun P2 H2 l2 => ?_⟩⟩
  have hl : (z.cps.toList.map fun c => (D.str ⟨#[c]⟩)).length = z.cps.size := by simp
  rw [hl]
  refine ⟨fun j hj => hj, fun j h1 h2 => Nat.le_antisymm h2 h1, fun j x H' y hj => ⟨y.1, ?_⟩⟩
  obtain ⟨c, ec, rfl⟩ := y.2
  refine ⟨.str ⟨#[c]⟩, ?_, rfl⟩
  rw [List.getElem?_map, Array.getElem?_toList, ec]
  rfl
 ·rename_i c n M1 ef
  cases e
  exact ⟨P0, H0, P, Os, env, M, _, _, k, ef, q⟩
 ·cases e
def iRv (fs : EA) : EA := fun env M => match fs env M with
 | some (.v [.lst ds], M1) => some (.v ds.reverse, M1)
 | some (.x c n, M1) => some (.x c n, M1)
 | _ => none
theorem si_rv {tg a : Expr} {fs : EA} {p : Pos} (hg : Gl X "reversed") (hm : X.mg "reversed" = none) (ha : SA X Wx .val [a] fs) (hs : starEach [a] X.env = [(false, eval a X.env)] := by rfl) : SI X Wx tg (.Call (.Name "reversed" p) [a] [] pos) (iRv fs) := by
 refine zgu (zlk hg hm ha hs) ?_
 rintro st H R ⟨P0, H0, P, Os, env, M, r, M', k, e, q⟩
 unfold iRv at e
 split at e
 ·rename_i ds M1 ef
  cases e
  refine ⟨P0, H0, P, Os, env, M, _, _, k, ef, fun P1 vs H1 l1 h1 i1 => ?_⟩
  obtain ⟨v, ws, rfl, i1, rfl⟩ := i1
  obtain ⟨a, us, rfl, ra, is⟩ := i1
  refine ⟨a, us, rfl, ra.imp (·.2) id, q P1 H1 _ l1 h1 fun P2 H2 l2 => ?_⟩
  have ra2 := l2.rda ra
  have is2 := Iss.lt l2 is
  have sq : SqL X.K H2 a us := ra2.imp (·.2) id
  have hn : us.length = ds.length := is2.len
  rw [List.length_reverse]
  refine ⟨fun j hj => ⟨by omega, us, sq, rfl⟩, fun j h1 h2 => by show j = us.length; omega, fun j x H' y hj => ⟨y.1, ?_⟩⟩
  have hj' : ds.length - 1 - j < ds.length := by omega
  obtain ⟨v, ev, iv⟩ := Iss.get is2 (List.getElem?_eq_getElem hj')
  have := y.2 us sq
  rw [hn, ev] at this
  cases this
  exact ⟨_, by rw [List.getElem?_reverse hj, List.getElem?_eq_getElem hj'], iv⟩
 ·rename_i c n M1 ef
  cases e
  exact ⟨P0, H0, P, Os, env, M, _, _, k, ef, q⟩
 ·cases e
end
end E3
namespace L2
open PySem PySem.Spec PyProof.Rows
theorem zhU : Manifest.owners.lookup (String.ofList ['d', 'e', 's', 'r', 'e', 'v', 'e', 'r'].reverse) = some Manifest.sig_reversed := by kernel_rfl
theorem zmm : Slot "reversed" "__init__" "object.__init__" :=
 .of (owner := "object") (n := "__init__") (by rw [typeLookup_type, builtinLookup_eq_fast]; kernel_rfl) (by decide +kernel) (by decide +kernel) (by decide +kernel)
  (by first | exact .inl (by decide +kernel) | exact .inr (by decide +kernel)) (by rw [isSubtype_type]; kernel_rfl)
theorem zff : Slot "reversed" "__next__" "reversed.__next__" :=
 .of (owner := "reversed") (n := "__next__") (by rw [typeLookup_type, builtinLookup_eq_fast]; kernel_rfl) (by decide +kernel) (by decide +kernel) (by decide +kernel)
  (by first | exact .inl (by decide +kernel) | exact .inr (by decide +kernel)) (by rw [isSubtype_type]; kernel_rfl)
theorem zjh : Slot "reversed" "__iter__" "reversed.__iter__" :=
 .of (owner := "reversed") (n := "__iter__") (by rw [typeLookup_type, builtinLookup_eq_fast]; kernel_rfl) (by decide +kernel) (by decide +kernel) (by decide +kernel)
  (by first | exact .inl (by decide +kernel) | exact .inr (by decide +kernel)) (by rw [isSubtype_type]; kernel_rfl)
theorem zdY : entryFor table "reversed.__next__" = some Builtin.«reversed.__next__» := entryFor_of_tree (by kernel_rfl)
theorem zer (a : Value) : argsOk "reversed.__next__" ⟨[a], []⟩ := by
 unfold argsOk; rw [signature?_of (id := "reversed.__next__") (n := ['_', '_', 't', 'x', 'e', 'n', '_', '_']) (o := ['d', 'e', 's', 'r', 'e', 'v', 'e', 'r']) (by kernel_rfl) zhU]; kernel_rfl
theorem zgh : entryFor table "reversed.__iter__" = some Builtin.«dict_keyiterator.__iter__» :=
 entryFor_alias (id' := "dict_keyiterator.__iter__") (by kernel_rfl) (by first | rfl | decide +kernel | (unfold String.splitOn; simp +decide [String.splitOnAux])) (by decide +kernel) (by kernel_rfl)
theorem zgZ (a : Value) : argsOk "reversed.__iter__" ⟨[a], []⟩ := by
 unfold argsOk; rw [signature?_of (id := "reversed.__iter__") (n := ['_', '_', 'r', 'e', 't', 'i', '_', '_']) (o := ['d', 'e', 's', 'r', 'e', 'v', 'e', 'r']) (by kernel_rfl) zhU]; kernel_rfl
theorem zjR : TypeCalled "reversed" "reversed.__new__" "object.__init__" :=
 ⟨by decide +kernel, by decide +kernel, ⟨_, _, F.mro_reversed⟩, F.made_reversed, F.plain_reversed_new, F.sub_reversed_self, zmm⟩
theorem zmq : typeLookup (.type "tuple") "__reversed__" = pure none := by rw [typeLookup_type, builtinLookup_eq_fast]; kernel_rfl
theorem zmK : isSubtype (.type "tuple") (.type "dict") = pure false := by rw [isSubtype_type]; kernel_rfl
def rvT (a : Addr) (i : Int) : Obj := { cls := .type "reversed", data := .fields #[.ref a, rawInt i] }
def zef (h : Heap) (a t : Addr) (i : Int) : Prop := ∃ o, h.get? a = some o ∧ o.cls = .type "reversed" ∧ o.data = .fields #[.ref t, rawInt i]
theorem zef.typeIs {s : Shared} {a l : Addr} {i : Int} (x : zef s.heap a l i) : s.TypeIs (.ref a) "reversed" := let ⟨o, ho, hc, _⟩ := x; ⟨o, ho, hc⟩
theorem zef.at {h h' : Heap} {a l : Addr} {i : Int} (x : zef h a l i) (e : ∀ o, h.get? a = some o → h'.get? a = some o) : zef h' a l i := let ⟨o, ho, r⟩ := x; ⟨o, e _ ho, r⟩
theorem rt_new (t : Addr) (items : Array Value) : Meets (Builtin.«reversed.__new__» ⟨[.type "reversed", .ref t], []⟩) (fun _ R s => IsTup s.heap t items ∧ (items.size : Int) < 2 ^ 63 ∧
    R (.ok (.ret (.ref s.heap.objs.size))) { s with heap := s.heap.push (rvT t ((items.size : Int) - 1)), toks := s.toks + 1 + 1 }) :=
  .of_wp fun prog w A R s ⟨ht, hf, h⟩ => by
    unfold Builtin.«reversed.__new__»
    refine wpAny_bind (wpAny_of_eq (newClass_reversed _) ?_)
    try dsimp only
    refine wpAny_bind (wpAny_of_eq (a := ()) (by first | rfl | kernel_rfl) ?_)
    refine wpAny_bind (wpAny_of_eq (a := ()) (by first | rfl | kernel_rfl) ?_)
    try dsimp only
    refine wpAny_bind (wpAny_specialOf ht.typeIs zmq ?_)
    try dsimp only
    refine wpAny_bind ?_
    show wpAny _ _ (do
      if ← isInstance (.ref t) (.type "dict") then return false
      match ← specialOf (.ref t) "__getitem__" with
      | none => return false
      | some (.builtin id) =>
        if ["tuple.__getitem__", "str.__getitem__", "bytes.__getitem__", "bytearray.__getitem__", "memoryview.__getitem__", "numpy.ndarray.__getitem__", "sqlite3.Row.__getitem__"].contains id then return true
        if id == "sqlite3.Blob.__getitem__" then return false
        unsupported "reversed.__new__:is-it-a-sequence"
      | some _ => return true : Sem Bool) _ _ s
    refine wpAny_bind (wpAny_isInstance ht.typeIs zmK ?_)
    rw [if_neg (by decide)]
    refine wpAny_bind (wpAny_specialOf ht.typeIs slot_tuple_getitem.lookup ?_)
    try dsimp only
    rw [if_pos (by decide +kernel)]
    refine wpAny_pure ?_
    rw [if_neg (by decide)]
    refine wpAny_bind (len_tuple ht hf ?_)
    refine wpAny_bind (m := asInt? _) (wpAny_of_eq (a := some (items.size : Int)) (by first | rfl | kernel_rfl) ?_)
    try dsimp only
    unfold Builtin.SmallTypes.newRecord
    try dsimp only
    refine wpAny_bind (wpAny_newObj_type ?_ (by size_fits))
    exact wpAny_pure ⟨_, rfl, h⟩
section
variable {prog : Program} {w : World} {A : Around} {E : Value → Shared → Prop} {s : Shared}
theorem zkI {t : Addr} {items : Array Value} {Q : Value → Shared → Prop} (ht : IsTup s.heap t items) (hf : (items.size : Int) < 2 ^ 63)
  (h : Q (.ref s.heap.objs.size) { s with heap := s.heap.push (rvT t ((items.size : Int) - 1)), toks := s.toks + 1 + 1 }) : wpAny (model prog w) A (call (.type "reversed") [.ref t]) Q E s :=
 callType_new zjR (by decide) (F.typeCall_reversed_1 _) (F.newCall_reversed_1 _) (fun obj => F.args_object_init_2 obj _) F.entry_reversed_new (rt_new t items) ⟨ht, hf, ⟨_, Heap.get?_push_size _ rfl, rfl⟩, h⟩
theorem zie {it l : Addr} {i : Int} {Q : Value → Shared → Prop} (hit : zef s.heap it l i) (h : Q (.ref it) s) : wpAny (model prog w) A (pyIter (.ref it)) Q E s := by
 refine wpAny_pyIter_slot hit.typeIs zjh (wpAny_call_entry zjh hit.typeIs zgh ?_ (zgZ _))
 show wpAny _ _ (ret (.ref it)) _ _ s
 exact wpAny_pure ⟨_, rfl, "reversed", _, hit.typeIs, zff.lookup, h⟩
theorem zkp {it l : Addr} {i : Nat} {items : Array Value} {x : Value} {Q : Option Value → Shared → Prop} (hit : zef s.heap it l (i : Int)) (hl : IsTup s.heap l items) (hx : items[i]? = some x) (hf : (items.size : Int) < 2 ^ 63)
  (hQ : ∀ h', zef h' it l ((i : Int) - 1) → Heap.SameBut it s.heap h' → Q (some x) { s with heap := h', toks := s.toks + 1 }) : wpAny (model prog w) A (pyNext (.ref it)) Q E s := by
 obtain ⟨o, ho, hc, hd⟩ := id hit
 have hi : i < items.size := by
  rcases Nat.lt_or_ge i items.size with z | z
  ·exact z
  ·rw [Array.getElem?_eq_none z] at hx; cases hx
 unfold pyNext
 refine wpAny_bind (wpAny_attempt (wpAny_callSpecial?_slot (name := Str.ofString "__next__") hit.typeIs zff
  (wpAny_call_entry zff hit.typeIs zdY ?_ (zer _))))
 unfold Builtin.«reversed.__next__»
 refine wpAny_bind (wpAny_of_eq (a := (Value.ref it, [])) rfl ?_)
 try dsimp only
 refine wpAny_bind (wpAny_field ho hd (x := .ref l) rfl ?_)
 refine wpAny_bind (wpAny_field ho hd (x := rawInt (i : Int)) rfl ?_)
 show wpAny _ _ (if (i : Int) < 0 then _ else _) _ _ s
 rw [if_neg (by omega)]
 refine wpAny_bind (wpAny_specialOf hl.typeIs slot_tuple_getitem.lookup ?_)
 rw [if_neg (by simp)]
 refine wpAny_bind (wpAny_mkInt ?_)
 refine wpAny_bind (wpAny_attempt (getItem_tuple (k := (i : Int)) (j := i) (s := { s with toks := s.toks + 1 }) hl (by omega) (by omega) ?_ hx ?_))
 ·exact seqIndex_of (by omega) (by omega)
 show wpAny _ _ (field (Value.ref it) 1 >>= _) _ _ _
 refine wpAny_bind (wpAny_field (s := { s with toks := s.toks + 1 }) ho hd (x := rawInt (i : Int)) rfl ?_)
 show wpAny _ _ (setField (Value.ref it) 1 (rawInt ((i : Int) - 1)) >>= _) _ _ _
 refine wpAny_bind (wpAny_setField (s := { s with toks := s.toks + 1 }) ho hd (by simp) ?_)
 refine wpAny_pure ⟨x, rfl, wpAny_pure (hQ _ ?_ (Heap.SameBut.update ..))⟩
 exact ⟨_, Heap.get?_update_self _ ho (Obj.isFreed_of_fields (Obj.data_mapFields hd _)), (Obj.cls_mapFields ..).trans hc, by
  rw [Obj.data_mapFields hd]; simp⟩
theorem zmM {it l : Addr} {Q : Option Value → Shared → Prop} (hh : A.handled = none) (hit : zef s.heap it l (-1))
  (hQ : ∀ h', Heap.ExtBut it s.heap h' → Q none { s with heap := h' }) : wpAny (model prog w) A (pyNext (.ref it)) Q E s := by
 obtain ⟨o, ho, hc, hd⟩ := id hit
 unfold pyNext
 refine wpAny_bind (wpAny_attempt (wpAny_callSpecial?_slot (name := Str.ofString "__next__") hit.typeIs zff
  (wpAny_call_entry zff hit.typeIs zdY ?_ (zer _))))
 unfold Builtin.«reversed.__next__»
 refine wpAny_bind (wpAny_of_eq (a := (Value.ref it, [])) rfl ?_)
 try dsimp only
 refine wpAny_bind (wpAny_field ho hd (x := .ref l) rfl ?_)
 refine wpAny_bind (wpAny_field ho hd (x := rawInt (-1)) rfl ?_)
 show wpAny _ _ (if (-1 : Int) < 0 then _ else _) _ _ s
 rw [if_pos (by decide)]
 refine wpAny_bind (wpAny_rule ?_)
 refine wpAny_bind ?_
 show wpAny _ _ (setField (.ref it) 1 (rawInt (-1)) >>= fun _ => setField (.ref it) 0 .none) _ _ s
 refine wpAny_bind (wpAny_setField ho hd (by simp) ?_)
 refine wpAny_setField (Heap.get?_update_self _ ho (Obj.isFreed_of_fields (Obj.data_mapFields hd _))) (Obj.data_mapFields hd _) (by simp) ?_
 refine wpAny_bind ?_
 show wpAny _ _ (newExc (.type "StopIteration") [] >>= _) _ _ _
 refine wpAny_bind ?_
 simp only [newExc, newTuple]
 refine wpAny_bind (wpAny_newObj_type ?_ (by size_fits))
 refine wpAny_bind (m := firstArgMember _ _) (wpAny_of_eq (a := Value.none) (by first | rfl | (simp only [firstArgMember]; rfl)) ?_)
 refine wpAny_newObj_type ?_ (by size_fits)
 simp only [raiseNew]
 refine wpAny_bind (wpAny_handled ?_)
 first | rw [show A.in1.handled = none from hh] | rw [hh]
 refine wpAny_bind (wpAny_pure (wpAny_throw ?_))
 refine wpAny_bind (wpAny_isInstance (T := "StopIteration") (b := true) ⟨_, Heap.get?_push_size _ rfl, rfl⟩ isSubtype_stop ?_)
 exact wpAny_pure (hQ _ ((((Heap.SameBut.update _ _ _).extBut).trans ((Heap.SameBut.update _ _ _).extBut)).push _ |>.push _))
end
def Itw (K : PySem.W.Frag) (a : Addr) (n : Nat) : It :=
 ⟨fun i H => i < n ∧ ∃ xs, SqT K H a xs ∧ xs.length = n, fun i H x H' => H' = H ∧ ∀ xs, SqT K H a xs → xs[n - 1 - i]? = some x, fun i _ => i = n⟩
theorem zkW {P : Program} {w : World} {K : PySem.W.Frag} {tg : Expr} (a it : Addr) (n : Nat) : Turn P w K tg (Itw K a n) [it] it (fun i h => zef h it a ((n : Int) - 1 - (i : Int))) where
 mem := by simp
 obj := fun i h st b hb => by
  have e : b = it := by simpa using hb
  subst e
  obtain ⟨o, e, c, d⟩ := st
  exact ⟨o, e, fun v z => by rw [d] at z; cases z⟩
 keep := fun i h h' st k => st.at fun o e => k it (by simp) o e
 item := by
  intro X hP hw hK hc i pins s σ H E I hf st hg
  subst hP hw hK
  obtain ⟨hi, xs, hq, hlen⟩ := hg
  obtain ⟨its, rv, p, hz⟩ := I.tuple hq
  have hx : xs[n - 1 - i]? = some (xs[n - 1 - i]'(by omega)) := List.getElem?_eq_getElem (by omega)
  obtain ⟨u, hu, ru⟩ := rv.get hx
  obtain ⟨f0, f1, f2, f3, f4, f5⟩ := hf it (by simp)
  have e : (n : Int) - 1 - (i : Int) = ((n - 1 - i : Nat) : Int) := by omega
  have st0 : zef s.heap it a ((n - 1 - i : Nat) : Int) := by rw [← e]; exact st
  have hn := zdP
  have hl := rv.length
  refine zkp st0 p (x := u) (by simpa using hu) (by simp only [List.size_toArray]; omega) fun h' st' sb => ?_
  have e2 : ((n - 1 - i : Nat) : Int) - 1 = (n : Int) - 1 - ((i + 1 : Nat) : Int) := by omega
  rw [e2] at st'
  have I1 : Inv X pins σ H { s with heap := h', toks := s.toks + 1 } := I.turned (t' := s.toks + 1) (fun b o hb e => (sb.2 b hb).trans e) f0 f1 f3 f4 f5
  obtain ⟨o, eo, c, d⟩ := id st'
  exact ⟨u, rfl, zkR (s := { s with heap := h', toks := s.toks + 1 }) eo c d (by decide) ⟨_, H, I1, ru, ⟨rfl, fun ys hy => by rw [I.tuple_inj hy hq]; exact hx⟩, st', fun b hb => (hf b hb).1⟩⟩
 done := by
  intro X hP hw hK hc i pins s σ H E I hf st hg
  subst hP hw hK
  have hg' : i = n := hg
  subst hg'
  obtain ⟨f0, f1, f2, f3, f4, f5⟩ := hf it (by simp)
  have e : (i : Int) - 1 - (i : Int) = -1 := by omega
  have st0 : zef s.heap it a (-1) := by rw [← e]; exact st
  exact zmM (I.ok.hd hc) st0 fun h' eb => ⟨rfl, I.turned (t' := s.toks) (fun b o hb e => eb b o hb e) f0 f1 f3 f4 f5⟩
 self := fun _ _ _ _ _ st h => zie st h
section
variable {X : Cx} {tg : Expr}
def iRevT (K : PySem.W.Frag) (ta : TA) : TI := fun σ H R => ta σ H fun vs H1 => ∃ a xs, vs = [.ref a] ∧ SqT K H1 a xs ∧ R (Itw K a xs.length) H1
theorem pi_rvT {a : Expr} {ta : TA} {p pos : Pos} (hg : Gl X "reversed") (hm : X.mg "reversed" = none) (ha : PA X [a] ta) (hs : starEach [a] X.env = [(false, eval a X.env)] := by rfl) : PI X tg (.Call (.Name "reversed" p) [a] [] pos) (iRevT X.K ta) := by
 intro pins s σ H R I h
 refine Call_ (zfV I hg hm boot_reversed (PyProof.Rows.callWith_type1 (thn (ha pos pins s σ H _ I h) fun us s1 ⟨vs, H1, I1, r1, q1⟩ => ?_) hs rfl))
 obtain ⟨b, xs, e, hq, q⟩ := q1
 subst e
 obtain ⟨u, e, ru⟩ := vals1 r1
 subst e
 cases ru
 obtain ⟨its, rv, pl, hz⟩ := I1.tuple hq
 have hlen : its.toArray.size = xs.length := by rw [List.size_toArray]; exact rv.length.symm
 have hn := zdP
 refine zkI pl (by rw [hlen]; omega) ?_
 rw [hlen]
 refine zie (l := b) (i := (xs.length : Int) - 1) ⟨_, Heap.get?_push_size _ rfl, rfl, rfl⟩ ?_
 refine ⟨s1.heap.objs.size, [s1.heap.objs.size], _, _, H1, rfl, I1.kept (t' := s1.toks + 1 + 1) fun b o e => Heap.get?_push_of_some _ e, zkW b _ xs.length, ?_, fun c hc => ?_, q⟩
 ·have e : (xs.length : Int) - 1 - ((0 : Nat) : Int) = (xs.length : Int) - 1 := by omega
  show zef _ _ b ((xs.length : Int) - 1 - ((0 : Nat) : Int))
  rw [e]
  exact ⟨_, Heap.get?_push_size _ rfl, rfl, rfl⟩
 ·have e : c = s1.heap.objs.size := by simpa using hc
  subst e
  exact I1.fpOk (Nat.le_refl _) (I1.hok.fresh (Nat.le_refl _))
end
end L2
namespace E3
open PySem PySem.Spec PyProof.Rows L2
section
variable {X : Cx} {Wx : XW} {m : Mode} {pos : Pos}
def oCat : D → D → Option D
 | .lst xs, .lst ys => if xs.length + ys.length ≤ sizeLine then some (.lst (xs ++ ys)) else none
 | _, _ => none
theorem zkt {K : PySem.W.Frag} {P : Pl} {H : Hp} {d e z : D} {v w : V} (h : oCat d e = some z) (h1 : IsW K P H d v) (h2 : IsW K P H e w) : ∃ ds a b vs ws, z = .lst ds ∧ v = .ref a ∧ w = .ref b ∧ SqL K H a vs ∧ SqL K H b ws ∧ vs.length + ws.length ≤ sizeLine ∧ Iss K P H ds (vs ++ ws) := by
 unfold oCat at h
 split at h
 ·split at h
  ·rename_i hl
   cases h
   obtain ⟨a, vs, rfl, r1, s1⟩ := h1
   obtain ⟨b, ws, rfl, r2, s2⟩ := h2
   exact ⟨_, a, b, vs, ws, rfl, rfl, rfl, r1, r2, by rw [s1.len, s2.len]; exact hl, s1.append s2⟩
  ·cases h
 ·cases h
theorem zj5 {a b : Expr} {f g : E} (ha : SE X Wx .bor a f) (hb : SE X Wx .bor b g) : SN X Wx (.BinOp a .Add b pos) (s2 oCat f g) := by
 refine zaR (zoB zjs ha hb) ?_
 rintro st H Q ⟨P0, H0, P, Os, env, M, r, M', k, e, q⟩
 unfold s2 at e
 rcases zaN e with ⟨d, M1, e1, e⟩ | ⟨c, n, e1, rfl⟩
 ·refine zaG k e1 fun P1 v1 H1 l1 h1 i1 => ?_
  have k1 := k.next l1 h1
  rcases zaN e with ⟨d2, M2, e2, e⟩ | ⟨c, n, e2, rfl⟩
  ·refine zaG k1 e2 fun P2 v2 H2 l2 h2 i2 => ?_
   rw [Option.map_eq_some_iff] at e
   obtain ⟨z, ez, e⟩ := e
   cases e
   obtain ⟨ds', e', q⟩ := q
   obtain ⟨ds, a, b, vs, ws, ed, ea, eb, r1, r2, hl, is⟩ := zkt ez (IsB.vw h2 (IsB.lt l2 h1 i1)) (IsB.vw h2 i2)
   cases ed.symm.trans e'
   refine ⟨a, b, vs, ws, ea, eb, r1, r2, hl, fun p hp => ?_⟩
   obtain ⟨l3, h3, nc⟩ := zgo (vs := vs ++ ws) h2 hp
   exact q (P2.bar p) p (vs ++ ws) _ (l1.trans (l2.trans l3)) h3 (l1.sure p (l2.sure p hp)) (.inr rfl) nc zaC (Iss.lt (l3.lt h2) is)
  ·exact zaG k1 e2 q
 ·exact zaG k e1 q
def repS (i : Str) (n : Nat) : Str := ⟨(List.replicate n i.cps).foldl (· ++ ·) #[]⟩
def oRep : D → D → Option D
 | .str i, .int j => if 1 < j ∧ j < 100000 ∧ 0 < i.length ∧ i.length * j.toNat ≤ sizeLine then some (.str (repS i j.toNat)) else none
 | _, _ => none
def jRep (f : E) (ps : EJ) : EJ := fun out env M => bnd (f env M) fun d M1 => match d with
 | .str z => if (reprText z).length ≤ sizeLine ∧ (out ++ reprText z).length ≤ sizeLine then ps (out ++ reprText z) env M1 else none
 | _ => none
theorem pj_rep {e : Expr} {vs : List Expr} {te : TE} {tj : TJ} (he : PE X e te) (hv : PJ X vs tj) : PJ X (.FormattedValue e 114 none pos :: vs) (fun out σ H Q => te σ H fun v H1 => ∃ z, v = .str z ∧ (reprText z).length ≤ sizeLine ∧ (out ++ reprText z).length ≤ sizeLine ∧ tj (out ++ reprText z) σ H1 Q) := fun pins s σ H out Q I h => by
 refine joinParts_cons (wpAny_FormattedValue_repr (thn (he pins s σ H _ I h) fun u s1 ⟨x, H1, I1, r1, z, ez, hz, hl, q⟩ => ?_))
 subst ez
 obtain ⟨t, rfl⟩ := r1
 refine pyReprObj_str ?_ hz
 exact formatField_str (fun t' tk => ⟨hl, hv pins _ σ H1 _ Q (I1.tok _) q⟩) hz
theorem znN {e : Expr} {f : E} {vs : List Expr} {ps : EJ} (he : SE X Wx .val e f) (h : SJ X Wx vs ps) : SJ X Wx (.FormattedValue e 114 none pos :: vs) (jRep f ps) := by
 refine zh7 (pj_rep he h) ?_
 rintro out st H Q ⟨P0, H0, P, Os, env, M, r, M', k, e, q⟩
 unfold jRep at e
 rcases zaN e with ⟨d, M1, e1, e⟩ | ⟨c, n, e1, rfl⟩
 ·cases d <;> simp only [reduceCtorEq] at e
  rename_i z
  split at e
  ·rename_i hl
   exact zaG k e1 fun P1 v1 H1 l1 h1 i1 => ⟨z, i1, hl.1, hl.2, P0, H0, P1, Os, env, M1, r, M', k.next l1 h1, e, RQ.imp l1 q⟩
  ·cases e
 ·exact zaG k e1 q
theorem se_gd {nm : Str} {p : Pos} {a : Addr} {d : D} (hg : Gl X nm) (hm : X.mg nm = some (.ref a)) (hd : ∀ P H, Is X.K P H d (.ref a)) (hdb : (nm == ("__debug__" : Str)) = false := by decide +kernel) : SE X Wx m (.Name nm p) (sCon d) :=
 (zhR (zdv hg hm (v := .ref a) rfl hdb) hd).bor
theorem zcv {K : PySem.W.Frag} {a : Addr} {o : Obj} {its : Array Value} {n : Nat} {ds : List D} {vs : List V} (l : K.lookup a = some o) (c : o.cls = .type "tuple") (e : o.data = .seq its n) (z : its.size ≤ sizeLine) (r : Vals vs its.toList) (i : ∀ P H, Iss K P H ds vs) : ∀ P H, Is K P H (.tup ds) (.ref a) :=
 fun P H => ⟨a, vs, rfl, .inr ⟨o, its, n, l, c, e, z, r⟩, i P H⟩
def AtMD (P : Program) (w : World) (K : PySem.W.Frag) (mg : Str → Option Value) (base : Heap) (k : Nat) (C : Addr) (m : Str) (n : Nat) (g : G) : Prop :=
 ∃ f fd ps ds dvs sp, Meth K C m f ∧ FnOk P w K mg base CX0 k f fd ps sp ∧ Binds K fd ps ds ∧ Vals dvs ds ∧ ∀ vs H Q E, spG K mg n g vs H Q E → sp (vs ++ dvs) H Q E
structure OwnIs (K : PySem.W.Frag) (C : Addr) : Prop where
 ca : PySem.W.findIn K (.ref C) "__class__" = some (some (.builtin "object.__class__"))
 gt : PySem.W.specialIn K (.builtin "object.__class__") "__get__" = some (some (.builtin "getset_descriptor.__get__"))
 tk : PySem.W.takesIn K (.builtin "object.__class__") = some true
 mr : PySem.W.mroIn K C (.type "object") = some true
 me : PySem.W.kitOne K (.ref C) (.ref C) = some true
def sIsO (c : Str) (f : E) : E := fun env M => bnd (f env M) fun d M1 => match zhg M1 c d with
 | some _ => some (.v (.bl true), M1)
 | none => none
theorem zkE {C : Addr} (cl : Cls X.K C) (w : OwnIs X.K C) : zcO X (.builtin "isinstance") (fun xs H Q => ∃ a dx fs, xs = [.ref a, .ref C] ∧ H a = some (.ins C dx fs) ∧ Q (.bl true) H) := by
 intro pins s σ H xs us Q I r h
 obtain ⟨a, dx, fs, rfl, ea, q⟩ := h
 obtain ⟨u, w', rfl, rx, rT⟩ := vals2 r
 cases rT
 exact zc7 I rx (.ins ea cl w.ca w.gt w.tk w.mr) w.me fun tk => ⟨.bl true, H, I.tok _, rfl, q⟩
theorem zku {e : Expr} {f : E} {c : Str} {C : Addr} {p p' : Pos} (hc : ClsOk X.K X.mg c C) (w : OwnIs X.K C) (he : SE X Wx .val e f) (hg : Gl X "isinstance") (hm : X.mg "isinstance" = none) (hg' : Gl X c) (hdb : (c == ("__debug__" : Str)) = false := by decide +kernel) (hs : starEach [e, .Name c p'] X.env = (false, eval e X.env) :: starEach [.Name c p'] X.env := by rfl) :
  SE X Wx m (.Call (.Name "isinstance" p) [e, .Name c p'] [] pos) (sIsO c f) := by
 refine zaR (zbf (zkE hc.cl w) hg hm boot_isinstance (zbR he (zbR (zdv hg' hc.mg (v := .ref C) rfl hdb) zd2) hs) (by decide +kernel) (by decide +kernel) hs rfl) ?_
 rintro st H Q ⟨P0, H0, P, Os, env, M, r, M', k, e, q⟩
 unfold sIsO at e
 rcases zaN e with ⟨d, M1, e1, e⟩ | ⟨c, n, e1, rfl⟩
 ·split at e
  ·rename_i j eo
   cases e
   obtain ⟨rfl, em⟩ := zc6 eo
   refine zaG k e1 fun P1 v1 H1 l1 h1 i1 => ?_
   obtain ⟨jl, rfl⟩ : j.1 < P1.n ∧ v1 = .ref (P1.io j.1) := i1
   obtain ⟨C', dx, vs, ec, eh, en, is⟩ := h1.cell j.1 _ em
   have eC : C' = C := by
    have := ec.symm.trans hc.mg
    cases this
    rfl
   subst eC
   exact ⟨_, dx, vs, rfl, eh, q P1 _ H1 l1 h1 (IsM.of h1 (show Is _ _ _ (.bl true) _ from rfl))⟩
  ·cases e
 ·exact zaG k e1 q
def iRvT (fs : EA) : EA := fun env M => match fs env M with
 | some (.v [.tup ds], M1) => some (.v ds.reverse, M1)
 | some (.x c n, M1) => some (.x c n, M1)
 | _ => none
theorem si_rvT {tg a : Expr} {fs : EA} {p : Pos} (hg : Gl X "reversed") (hm : X.mg "reversed" = none) (ha : SA X Wx .val [a] fs) (hs : starEach [a] X.env = [(false, eval a X.env)] := by rfl) : SI X Wx tg (.Call (.Name "reversed" p) [a] [] pos) (iRvT fs) := by
 refine zgu (pi_rvT hg hm ha hs) ?_
 rintro st H R ⟨P0, H0, P, Os, env, M, r, M', k, e, q⟩
 unfold iRvT at e
 split at e
 ·rename_i ds M1 ef
  cases e
  refine ⟨P0, H0, P, Os, env, M, _, _, k, ef, fun P1 vs H1 l1 h1 i1 => ?_⟩
  obtain ⟨v, ws, rfl, i1, rfl⟩ := i1
  obtain ⟨a, us, rfl, ra, is⟩ := i1
  refine ⟨a, us, rfl, ra, q P1 H1 _ l1 h1 fun P2 H2 l2 => ?_⟩
  have ra2 := l2.tup ra
  have is2 := Iss.lt l2 is
  have hn : us.length = ds.length := is2.len
  rw [List.length_reverse]
  refine ⟨fun j hj => ⟨by omega, us, ra2, rfl⟩, fun j h1 h2 => by show j = us.length; omega, fun j x H' y hj => ⟨y.1, ?_⟩⟩
  have hj' : ds.length - 1 - j < ds.length := by omega
  obtain ⟨v, ev, iv⟩ := Iss.get is2 (List.getElem?_eq_getElem hj')
  have := y.2 us ra2
  rw [hn, ev] at this
  cases this
  exact ⟨_, by rw [List.getElem?_reverse hj, List.getElem?_eq_getElem hj'], iv⟩
 ·rename_i c n M1 ef
  cases e
  exact ⟨P0, H0, P, Os, env, M, _, _, k, ef, q⟩
 ·cases e
end
end E3
namespace E3
open PySem L2
def dg (n : Nat) : List Nat := (Nat.toDigits 10 n).map Char.toNat
theorem zje (n : Nat) : NumText.AllDigits (dg n) := fun c hc => by
 obtain ⟨d, hd, rfl⟩ := List.mem_map.mp hc
 have h := Nat.isDigit_of_mem_toDigits (by decide) (by decide) hd
 simp only [Char.isDigit, Bool.and_eq_true, decide_eq_true_eq] at h
 exact ⟨h.1, h.2⟩
theorem dg_ne (n : Nat) : dg n ≠ [] := fun e => Nat.toDigits_ne_nil (List.map_eq_nil_iff.mp e)
theorem zjQ {n k : Nat} (h1 : 1 ≤ k) (h : n < 10 ^ k) : (dg n).length ≤ k := by
 rw [dg, List.length_map]
 exact toDigits_len_pow (by decide) h1 h
theorem zmw : dg 0 = [48] := by decide +kernel
theorem zjL (n : Nat) (h : n ≠ 0) : ∃ c r, dg n = c :: r ∧ 49 ≤ c := by
  induction n using Nat.strongRecOn with
  | ind n ih =>
    unfold dg
    rw [Nat.toDigits_eq_if (by decide)]
    by_cases hn : n < 10
    · rw [if_pos hn]
      refine ⟨(Nat.digitChar n).toNat, [], rfl, ?_⟩
      have : n = 1 ∨ n = 2 ∨ n = 3 ∨ n = 4 ∨ n = 5 ∨ n = 6 ∨ n = 7 ∨ n = 8 ∨ n = 9 := by omega
      rcases this with h | h | h | h | h | h | h | h | h <;> subst h <;> decide
    · rw [if_neg hn]
      obtain ⟨c, r, e, hc⟩ := ih (n / 10) (by omega) (by omega)
      unfold dg at e
      exact ⟨c, r ++ _, by rw [List.map_append, e]; rfl, hc⟩
def shw (i : Int) : Str := Str.ofString (toString i)
theorem zhT {i : Int} (h : 0 ≤ i) : (shw i).cps.toList = dg i.toNat := by
 have := W.KIN.signs_num i.toNat
 rw [Int.toNat_of_nonneg h] at this
 exact this
theorem zm9 {i : Int} (h : i < 0) : (shw i).cps.toList = 45 :: dg i.natAbs := by
 obtain ⟨m, rfl⟩ : ∃ m, i = Int.negSucc m := by
  cases i with
  | ofNat n => exact absurd h (by simp)
  | negSucc m => exact ⟨m, rfl⟩
 unfold shw dg
 rw [PyProof.Rows.signs_ofString]
 show List.map Char.toNat ("-" ++ toString (m + 1)).toList = _
 rw [String.toList_append, List.map_append, Nat.toString_eq_ofList_toDigits]
 simp
theorem zmy {i : Int} {k : Nat} (h1 : 1 ≤ k) (h : i.natAbs < 10 ^ k) : (shw i).length ≤ k + 1 := by
 show (shw i).cps.size ≤ k + 1
 rw [← Array.length_toList]
 by_cases h0 : 0 ≤ i
 ·rw [zhT h0]
  have := zjQ (n := i.toNat) h1 (by rw [← Int.natAbs_of_nonneg h0] at *; simpa using h)
  omega
 ·rw [zm9 (by omega), List.length_cons]
  have := zjQ h1 h
  omega
def cd (s : Str) : List Nat := s.cps.toList
theorem cd_inj {a b : Str} (h : cd a = cd b) : a = b := by
 obtain ⟨x⟩ := a
 obtain ⟨y⟩ := b
 have : x = y := Array.toList_inj.mp h
 rw [this]
theorem zk3 (a b : Str) : cd (a ++ b) = cd a ++ cd b := by
 unfold cd
 rw [Str.cps_append, Array.toList_append]
end E3
namespace E3
open PySem L2
theorem zki {x : Str} {c : Nat} {r : List Nat} (h : cd x = c :: r) : cd (Txt.slice x (some 1) none) = r := by
 have hl : (cd x).length = r.length + 1 := by rw [h]; rfl
 have := PyProof.Rows.slice_closes_from (x := x) (i := 1) ⟨by decide, by show (1 : Int) ≤ ((cd x).length : Int); omega⟩
 have e := eq_of_beq this
 rw [e]
 show List.take (((cd x).length : Int) - 1).toNat (List.drop (1 : Int).toNat (cd x)) = r
 rw [h]
 simp
theorem zi4 {x : Str} {c : Nat} {r : List Nat} (h : cd x = c :: r) : Txt.startswith x (Str.ofString "-") = decide (c = 45) := by
 have hl : x.length = r.length + 1 := by
  show x.cps.size = _
  rw [← Array.length_toList]
  show (cd x).length = _
  rw [h]; rfl
 have e1 : (Str.ofString "-").cps = #[45] := by decide +kernel
 have e2 : (Str.ofString "-").length = 1 := by decide +kernel
 unfold Txt.startswith Builtin.Str.subAt
 rw [e1, e2, hl]
 have e3 : x.cps = (c :: r).toArray := by
  rw [← h]; simp [cd]
 rw [e3, decide_eq_true (by omega), Bool.true_and]
 have e4 : ((c :: r).toArray).extract 0 (0 + 1) = #[c] := by simp
 rw [e4]
 rw [Bool.eq_iff_iff]
 simp
theorem zeV (x : Str) : x.length = (cd x).length := by
 show x.cps.size = x.cps.toList.length
 simp
end E3
namespace E3
open PySem L2
theorem znk {x y : Str} : x = y ↔ cd x = cd y := ⟨fun h => by rw [h], cd_inj⟩
theorem eq_e {x : Str} : (x = Str.ofString "") = (cd x = []) := propext (znk.trans (by rw [show cd (Str.ofString "") = [] by decide +kernel]))
theorem eq_0 {x : Str} : (x = Str.ofString "0") = (cd x = [48]) := propext (znk.trans (by rw [show cd (Str.ofString "0") = [48] by decide +kernel]))
theorem eq_m0 {x : Str} : (x = Str.ofString "-0") = (cd x = [45, 48]) := propext (znk.trans (by rw [show cd (Str.ofString "-0") = [45, 48] by decide +kernel]))
theorem zla (c : Nat) : cd ⟨#[c]⟩ = [c] := rfl
def dgc (c : Nat) : Bool := decide (48 ≤ c) && decide (c ≤ 57)
theorem znV (c : Nat) : zf0 ⟨#[c]⟩ (Str.ofString "0123456789") = dgc c := by
 unfold zf0 dgc
 rw [StrLaws.found_one, show (Str.ofString "0123456789").cps.toList = [48, 49, 50, 51, 52, 53, 54, 55, 56, 57] by decide +kernel, Bool.eq_iff_iff]
 simp only [List.mem_cons, List.not_mem_nil, or_false, decide_eq_true_eq, Bool.and_eq_true]
 omega
def figB (cs : List Nat) : Bool := !decide (cs = []) && cs.all dgc && (decide (cs = [48]) || !decide (cs.head? = some 48))
theorem zlR (cs : List Nat) : ((cs.map fun c => !dgc c).any id) = !cs.all dgc := by
 induction cs with
 | nil => rfl
 | cons c r ih => simp only [List.map_cons, List.any_cons, List.all_cons, ih, id, Bool.not_and]
def fgs (cs : List Nat) : List Nat := if cs.head? = some 45 then cs.tail else cs
def good (cs : List Nat) : Bool := !decide (cs = [45, 48]) && figB (fgs cs)
def vlc (cs : List Nat) : Int := if cs.head? = some 45 then -((NumText.digitsVal cs.tail : Nat) : Int) else ((NumText.digitsVal cs : Nat) : Int)
theorem st_cd (x : Str) : Txt.startswith x (Str.ofString "-") = decide ((cd x).head? = some 45) := by
  cases h : cd x with
  | nil =>
    have : x = Str.ofString "" := by rw [eq_e]; exact h
    rw [this]
    decide +kernel
  | cons c r =>
    rw [zi4 h]
    simp
theorem dg_of {cs : List Nat} (h : cs.all dgc = true) : NumText.AllDigits cs := fun c hc => by
 have := List.all_eq_true.mp h c hc
 unfold dgc at this
 simpa using this
theorem zhl {cs : List Nat} (h : figB cs = true) : cs ≠ [] ∧ NumText.AllDigits cs ∧ (cs = [48] ∨ cs.head? ≠ some 48) := by
 unfold figB at h
 simp only [Bool.and_eq_true, Bool.or_eq_true, Bool.not_eq_true', decide_eq_true_eq, decide_eq_false_iff_not] at h
 exact ⟨h.1.1, dg_of h.1.2, h.2⟩
theorem zig {x : Str} (h : figB (fgs (cd x)) = true) (hl : x.length ≤ 600) : intText? x = some (vlc (cd x)) := by
 obtain ⟨h1, h2, h3⟩ := zhl h
 unfold fgs at h1 h2
 unfold vlc
 by_cases hh : (cd x).head? = some 45
 ·rw [if_pos hh] at h1 h2 ⊢
  obtain ⟨r, e⟩ : ∃ r, cd x = 45 :: r := by
   cases hc : cd x with
   | nil => rw [hc] at hh; cases hh
   | cons c r => rw [hc] at hh; simp at hh; exact ⟨r, by rw [hh]⟩
  rw [e, List.tail_cons] at h1 h2 ⊢
  exact intText_neg e h2 h1 (by omega)
 ·rw [if_neg hh] at h1 h2 ⊢
  exact intText_digits h2 h1 (by omega)
end E3
namespace E3
open PySem L2
theorem znK (x : Str) : (Txt.lstripChars x (Str.ofString "-")).length = x.length - ((cd x).takeWhile fun c => decide (c = 45)).length := by
 have hg : (fun c => ((Str.ofString "-").cps.contains c : Bool)) = fun c => decide (c = 45) := by
  funext c
  rw [show (Str.ofString "-").cps = #[45] by decide +kernel]
  simp
 have hlo : stripLo (Str.ofString "-").cps.contains true x = ((cd x).takeWhile fun c => decide (c = 45)).length := by
  unfold stripLo
  rw [if_pos rfl]
  show ((cd x).takeWhile fun c => ((Str.ofString "-").cps.contains c : Bool)).length = _
  rw [hg]
 have hle := PyProof.Rows.takeWhile_len_le (fun c => decide (c = 45)) (cd x)
 unfold Txt.lstripChars Txt.stripBy
 split
 ·rename_i h
  unfold stripSame at h
  rw [Bool.and_eq_true, beq_iff_eq, hlo] at h
  omega
 ·unfold stripped
  rw [hlo]
  show (x.cps.extract _ (stripHi _ false x _)).size = _
  unfold stripHi
  rw [if_neg (by decide), Array.size_extract]
  show min x.cps.size x.cps.size - _ = x.cps.size - _
  omega
theorem zmt {x : Str} (h : good (cd x) = true) : (Txt.lstripChars x (Str.ofString "-")).length = (fgs (cd x)).length := by
  unfold good at h
  rw [Bool.and_eq_true] at h
  obtain ⟨h1, h2, h3⟩ := zhl h.2
  rw [znK, zeV]
  have no : ∀ cs : List Nat, NumText.AllDigits cs → (cs.takeWhile fun c => decide (c = 45)) = [] := fun cs hd => by
    cases cs with
    | nil => rfl
    | cons c r =>
      have := hd c List.mem_cons_self
      rw [List.takeWhile_cons, if_neg (by simp; omega)]
  unfold fgs at h1 h2 ⊢
  by_cases hh : (cd x).head? = some 45
  · rw [if_pos hh] at h1 h2 ⊢
    obtain ⟨r, e⟩ : ∃ r, cd x = 45 :: r := by
      cases hc : cd x with
      | nil => rw [hc] at hh; cases hh
      | cons c r => rw [hc] at hh; simp at hh; exact ⟨r, by rw [hh]⟩
    rw [e, List.tail_cons] at h1 h2 ⊢
    rw [List.takeWhile_cons, if_pos (by simp), no _ h2]
    simp
  · rw [if_neg hh] at h1 h2 ⊢
    rw [no _ h2]
    simp
theorem zme {n : Nat} (h : n < 340282366920938463463374607431768211456) : n.log2 < 1920 := by
 by_cases h0 : n = 0
 ·rw [h0]; decide
 ·have := (Nat.log2_lt h0 (k := 128)).mpr h
  omega
end E3
namespace E3
open PySem L2
section
variable {env : Env} {M M1 : Mm} {f g h c : E} {d e : D} {i j : Int} {n k : Nat} {z : Str} {b : Bool} {ds es : List D} {s t : S} {x : Str} {fa : EA} {u : G}
theorem zlY {q : D → Mm → OS} : bndT q (some (.x x i, M)) = some (.ex x i, M) := rfl
theorem zm4 {q : D → Mm → O} : bndK q (some (.x x i, M)) = some (.x x i, M) := rfl
theorem zmF {q : List D → Mm → O} : argK q (some (.x x i, M)) = some (.x x i, M) := rfl
theorem znh {q : Mm → Option (ResA × Mm)} : zkC q (some (.x x i, M)) = some (.x x i, M) := rfl
theorem zmR : conA d (some (.x x i, M)) = some (.x x i, M) := rfl
def lsC (q : List D → O) : Option Cl → O
 | some (.lst ds) => q ds
 | _ => none
theorem r_lsC {q : List D → O} : lsC q (some (.lst ds)) = q ds := rfl
def popZ (M : Mm) (k : Nat) (ds : List D) : Option D → O
 | some z => some (.v z, M.set k (.lst ds.dropLast))
 | none => none
theorem zlj : popZ M k ds (some d) = some (.v d, M.set k (.lst ds.dropLast)) := rfl
def popC (M : Mm) : D → O
 | .ref k => lsC (fun ds => popZ M k ds ds[ds.length - 1]?) M[k]?
 | _ => none
theorem znD : popC M (.ref k) = lsC (fun ds => popZ M k ds ds[ds.length - 1]?) M[k]? := rfl
theorem q_pop : sPop f env M = bndK (fun d M1 => popC M1 d) (f env M) := by
  unfold sPop bndK bnd
  cases f env M with
  | none => rfl
  | some p =>
    obtain ⟨r, M'⟩ := p
    cases r with
    | x c n => rfl
    | v d =>
      cases d <;> rfl
def lsS (q : List D → OS) : Option Cl → OS
 | some (.lst ds) => q ds
 | _ => none
theorem zoj {q : List D → OS} : lsS q (some (.lst ds)) = q ds := rfl
def appC (env : Env) (g : Mm → O) (M : Mm) : D → OS
 | .ref k => lsS (fun _ => bndT (fun y M2 => lsS (fun ds => if ds.length < sizeLine then some (.nx env, M2.set k (.lst (ds ++ [y]))) else none) M2[k]?) (g M)) M[k]?
 | _ => none
theorem zoI {q : Mm → O} : appC env q M (.ref k) = lsS (fun _ => bndT (fun y M2 => lsS (fun ds => if ds.length < sizeLine then some (.nx env, M2.set k (.lst (ds ++ [y]))) else none) M2[k]?) (q M)) M[k]? := rfl
theorem q_appC : zdD f g env M = bndT (fun d M1 => appC env (g env) M1 d) (f env M) := by
  unfold zdD bndT bndS
  cases f env M with
  | none => rfl
  | some p =>
    obtain ⟨r, M'⟩ := p
    cases r with
    | x c n => rfl
    | v d =>
      cases d <;> rfl
theorem zi5 (h : M[k]? = some (.lst ds)) : vw M (.ref k) = .lst ds := by unfold vw; simp only [h]
def argX (q : List D → Mm → O) : Option (ResA × Mm) → O
 | some (.v ds, M) => q ds M
 | _ => none
theorem r_argX {q : List D → Mm → O} : argX q (some (.v ds, M)) = q ds M := rfl
theorem zlO : zfn u fa env M = argX (fun ds M1 => u ds M1) (fa env M) := by
 unfold zfn argX
 rfl
theorem zhp : zdJ x f env M = bndT (fun _ M1 => some (.ex x 0, M1)) (f env M) := rfl
def unE (k : Nat) (M : Mm) (env : Env) : Option Slot → OS
 | some (.exc _ _) => some (.nx (env.set k .un), M)
 | _ => none
theorem r_unE {e' : Env} : unE k M e' (some (.exc x i)) = some (.nx (e'.set k .un), M) := rfl
def tryH (k : Nat) : OS → OS
 | some (.nx e, M2) => unE k M2 e e[k]?
 | some (.rt d, M2) => some (.rt d, M2)
 | _ => none
theorem zlT {e' : Env} : tryH k (some (.nx e', M)) = unE k M e' e'[k]? := rfl
theorem zmP : tryH k (some (.rt d, M)) = some (.rt d, M) := rfl
def tryR (k : Nat) (cat : Str → Bool) (q : S) (env : Env) : OS → OS
 | some (.ex c n, M1) => if cat c = true then (if k < env.length then tryH k (q (env.set k (.exc c n)) M1) else none) else none
 | o => o
theorem znu {cat : Str → Bool} {e' : Env} : tryR k cat t env (some (.nx e', M)) = some (.nx e', M) := rfl
theorem zl8 {cat : Str → Bool} : tryR k cat t env (some (.rt d, M)) = some (.rt d, M) := rfl
theorem r_tryX {cat : Str → Bool} : tryR k cat t env (some (.ex x i, M)) = if cat x = true then (if k < env.length then tryH k (t (env.set k (.exc x i)) M) else none) else none := rfl
theorem q_try {cat : Str → Bool} : sTry k cat s t env M = tryR k cat t env (s env M) := by
  unfold sTry tryR
  cases s env M with
  | none => rfl
  | some p =>
    obtain ⟨o, M1⟩ := p
    cases o <;> rfl
def isxR (tb : Str → Option Bool) (M : Mm) : Option Slot → O
 | some (.exc c _) => (tb c).map fun b => (.v (.bl b), M)
 | _ => none
theorem r_isx {tb : Str → Option Bool} : isxR tb M (some (.exc x i)) = (tb x).map fun b => (.v (.bl b), M) := rfl
theorem q_isx {tb : Str → Option Bool} : sIsX k tb env M = isxR tb M env[k]? := by
 unfold sIsX isxR
 cases env[k]? with
 | none => rfl
 | some sl => cases sl <;> rfl
def kinD (b : Bool) (tb : List (Str × D)) (M : Mm) : D → O
 | .str z => some (.v (.bl (if b then (zcn tb z).isSome else !(zcn tb z).isSome)), M)
 | _ => none
theorem r_kin {tb : List (Str × D)} : kinD b tb M (.str z) = some (.v (.bl (if b then (zcn tb z).isSome else !(zcn tb z).isSome)), M) := rfl
theorem q_kin {tb : List (Str × D)} : sKIn b tb f env M = bndK (fun d M1 => kinD b tb M1 d) (f env M) := by
  unfold sKIn bndK bnd
  cases f env M with
  | none => rfl
  | some p => obtain ⟨r, M'⟩ := p; cases r with
    | x c n => rfl
    | v d => cases d <;> rfl
def kgetD (tb : List (Str × D)) (M : Mm) : D → O
 | .str z => (zcn tb z).map fun y => (.v y, M)
 | _ => none
theorem zn4 {tb : List (Str × D)} : kgetD tb M (.str z) = (zcn tb z).map fun y => (.v y, M) := rfl
theorem znA {tb : List (Str × D)} : zin tb f env M = bndK (fun d M1 => kgetD tb M1 d) (f env M) := by
  unfold zin bndK bnd
  cases f env M with
  | none => rfl
  | some p => obtain ⟨r, M'⟩ := p; cases r with
    | x c n => rfl
    | v d => cases d <;> rfl
def txR : O → Option (ResA × Mm)
 | some (.v (.str z), M1) => some (.v (z.cps.toList.map fun c => .str ⟨#[c]⟩), M1)
 | some (.x c n, M1) => some (.x c n, M1)
 | _ => none
theorem q_itx : iTx f env M = txR (f env M) := by
  unfold iTx txR
  cases f env M with
  | none => rfl
  | some p => obtain ⟨r, M'⟩ := p; cases r with
    | x c n => rfl
    | v d => cases d <;> rfl
theorem r_itx : txR (some (.v (.str z), M)) = some (.v (z.cps.toList.map fun c => .str ⟨#[c]⟩), M) := rfl
def rvR : Option (ResA × Mm) → Option (ResA × Mm)
 | some (.v [.lst ds], M1) => some (.v ds.reverse, M1)
 | some (.x c n, M1) => some (.x c n, M1)
 | _ => none
theorem q_irv : iRv fa env M = rvR (fa env M) := by unfold iRv rvR; rfl
theorem r_irv : rvR (some (.v [.lst ds], M)) = some (.v ds.reverse, M) := rfl
def rvtR : Option (ResA × Mm) → Option (ResA × Mm)
 | some (.v [.tup ds], M1) => some (.v ds.reverse, M1)
 | some (.x c n, M1) => some (.x c n, M1)
 | _ => none
theorem q_irvT : iRvT fa env M = rvtR (fa env M) := by unfold iRvT rvtR; rfl
theorem znz : rvtR (some (.v [.tup ds], M)) = some (.v ds.reverse, M) := rfl
def mtD (o : Str → List D → Option D) (q : Mm → Option (ResA × Mm)) (M : Mm) : D → O
 | .str y => argR (o y) (q M)
 | _ => none
theorem r_mt {o : Str → List D → Option D} {q : Mm → Option (ResA × Mm)} : mtD o q M (.str z) = argR (o z) (q M) := rfl
theorem q_mt {o : Str → List D → Option D} : sMt o f fa env M = bndK (fun d M1 => mtD o (fa env) M1 d) (f env M) := by
  unfold sMt bndK bnd
  cases f env M with
  | none => rfl
  | some p => obtain ⟨r, M'⟩ := p; cases r with
    | x c n => rfl
    | v d =>
      cases d <;> try rfl
      dsimp only [mtD]
      unfold argR bndA
      cases fa env M' with
      | none => rfl
      | some p => obtain ⟨r, M2⟩ := p; cases r with
        | x c n => rfl
        | v ds => dsimp only; cases o _ (ds.map (vw M2)) <;> rfl
theorem t_st {y : Str} : zgq z [.str y] = some (.bl (Txt.startswith z y)) := rfl
theorem t_ls {y : Str} : zgj z [.str y] = if z.length ≤ sizeLine then some (.str (Txt.lstripChars z y)) else none := rfl
theorem znc {ps : EJ} : sFst ps env M = ps Str.empty env M := rfl
theorem zjf {out : Str} : jEnd out env M = if out.length ≤ sizeLine then some (.v (.str out), M) else none := rfl
theorem zj0 {ps : EJ} {out : Str} : jCon z ps out env M = if (out ++ z).length ≤ sizeLine then ps (out ++ z) env M else none := rfl
def jvR (ps : EJ) (out : Str) (env : Env) (M : Mm) : Option Str → O
 | some y => if (out ++ y).length ≤ sizeLine then ps (out ++ y) env M else none
 | none => none
theorem r_jv {ps : EJ} {out y : Str} : jvR ps out env M (some y) = if (out ++ y).length ≤ sizeLine then ps (out ++ y) env M else none := rfl
theorem zll {ps : EJ} {out : Str} : jVal f ps out env M = bndK (fun d M1 => jvR ps out env M1 (zhu d)) (f env M) := by
  unfold jVal bndK bnd
  cases f env M with
  | none => rfl
  | some p => obtain ⟨r, M'⟩ := p; cases r with
    | x c n => rfl
    | v d => dsimp only; cases zhu d <;> rfl
theorem t_txS : zhu (.str z) = if z.length ≤ sizeLine then some z else none := rfl
theorem t_txI : zhu (.int i) = if i.natAbs.log2 < 1920 then some (Str.ofString (toString i)) else none := rfl
def jrD (ps : EJ) (out : Str) (env : Env) (M : Mm) : D → O
 | .str z => if (reprText z).length ≤ sizeLine ∧ (out ++ reprText z).length ≤ sizeLine then ps (out ++ reprText z) env M else none
 | _ => none
theorem r_jr {ps : EJ} {out : Str} : jrD ps out env M (.str z) = if (reprText z).length ≤ sizeLine ∧ (out ++ reprText z).length ≤ sizeLine then ps (out ++ reprText z) env M else none := rfl
theorem zkZ {ps : EJ} {out : Str} : jRep f ps out env M = bndK (fun d M1 => jrD ps out env M1 d) (f env M) := by
  unfold jRep bndK bnd
  cases f env M with
  | none => rfl
  | some p => obtain ⟨r, M'⟩ := p; cases r with
    | x c n => rfl
    | v d => cases d <;> rfl
theorem o_cat : oCat (.lst ds) (.lst es) = if ds.length + es.length ≤ sizeLine then some (.lst (ds ++ es)) else none := rfl
theorem znU {y : Str} : oAdd (.str z) (.str y) = if z.length + y.length ≤ sizeLine then some (.str (z ++ y)) else none := rfl
theorem o_rep : oRep (.str z) (.int i) = if 1 < i ∧ i < 100000 ∧ 0 < z.length ∧ z.length * i.toNat ≤ sizeLine then some (.str (repS z i.toNat)) else none := rfl
theorem o_ixS : oIx (.str z) (.int i) = if z.length ≤ sizeLine then (atI z.cps.toList i).map fun c => .str ⟨#[c]⟩ else none := rfl
theorem zos : bLen [.str z] = if z.length ≤ sizeLine then some (.int z.length) else none := rfl
theorem o_str : bStr [.int i] = if i.natAbs.log2 < 1920 then some (.str (toString i)) else none := rfl
theorem o_int : bInt [.str z] = if z.length ≤ 640 then (intText? z).map .int else none := rfl
theorem o_any : bAny [.lst ds] = (zgX ds).map fun bs => .bl (bs.any id) := rfl
theorem znG : bTup [.lst ds] = some (.tup ds) := rfl
theorem o_inS {y : Str} : oCmp .isin (.str z) (.str y) = some (.bl (zf0 z y)) := rfl
theorem znM {y : Str} : oCmp .notin (.str z) (.str y) = some (.bl (!zf0 z y)) := rfl
theorem o_eqS {y : Str} : oCmp .eq (.str z) (.str y) = some (.bl (decide (z = y))) := by
 unfold oCmp cmpD cEq
 rw [if_pos (by constructor <;> first | rfl | simp [D.dep])]
 have : (z == y) = decide (z = y) := by rw [Bool.eq_iff_iff]; simp
 simp [D.eq, this]
theorem o_neS {y : Str} : oCmp .ne (.str z) (.str y) = some (.bl (!decide (z = y))) := by
 unfold oCmp cmpD cNe
 rw [if_pos (by constructor <;> first | rfl | simp [D.dep])]
 have : (z == y) = decide (z = y) := by rw [Bool.eq_iff_iff]; simp
 simp [D.eq, this]
theorem o_isNn : oCmp .same .non .non = some (.bl true) := rfl
theorem zn1 : oCmp .other (.int i) .non = some (.bl true) := rfl
theorem o_isnN : oCmp .other .non .non = some (.bl false) := rfl
theorem zht {α : Type} {e : E} (A B : α → D) : ∀ (as : List α) (acc : List D), (∀ a ∈ as, e (.val (A a) :: env) M = some (.v (B a), M)) → acc.length + as.length < sizeLine → zeI (sCon (.bl true)) e env (as.map A) acc M = some (acc ++ as.map B, M)
  | [], acc, _, _ => by simp [zeI]
  | a :: as, acc, h, hl => by
    rw [List.length_cons] at hl
    have hr := zht A B as (acc ++ [B a]) (fun a' ha' => h a' (by simp [ha'])) (by rw [List.length_append, List.length_singleton]; omega)
    rw [List.map_cons]
    unfold zeI
    rw [show sCon (.bl true) (.val (A a) :: env) M = some (.v (.bl true), M) from rfl]
    dsimp only
    rw [h a List.mem_cons_self]
    dsimp only
    rw [if_pos (by omega), hr]
    simp
def zhn (k : Nat) (t : S) (ds : List D) : OS → OS
 | some (.nx e, M1) => loopS k t ds e M1
 | some (.ct e, M1) => loopS k t ds e M1
 | some (.bk e, M1) => some (.nx e, M1)
 | some (.rt d, M1) => some (.rt d, M1)
 | some (.ex c n, M1) => some (.ex c n, M1)
 | none => none
theorem zlM : loopS k t [] env M = some (.nx env, M) := rfl
theorem zmQ : loopS k t (d :: ds) env M = if k < env.length then zhn k t ds (t (env.set k (.val d)) M) else none := by
 unfold loopS zhn
 rfl
theorem znQ {e' : Env} : zhn k t ds (some (.nx e', M)) = loopS k t ds e' M := rfl
theorem r_stC {e' : Env} : zhn k t ds (some (.ct e', M)) = loopS k t ds e' M := rfl
theorem r_stB {e' : Env} : zhn k t ds (some (.bk e', M)) = some (.nx e', M) := rfl
theorem r_stR : zhn k t ds (some (.rt d, M)) = some (.rt d, M) := rfl
theorem r_stX : zhn k t ds (some (.ex x i, M)) = some (.ex x i, M) := rfl
theorem zdH {α β : Type} (F : α → β) (xs : List α) (i : Int) : atI (xs.map F) i = (atI xs i).map F := by
 unfold atI
 rw [List.length_map]
 cases ixN xs.length i <;> simp
theorem zob {α : Type} {xs : List α} {i : Int} (d : α) (h0 : 0 ≤ i) (h1 : i < xs.length) : atI xs i = some (xs.getD i.toNat d) := by
 obtain ⟨k, rfl⟩ : ∃ k : Nat, i = k := ⟨i.toNat, by omega⟩
 have hk : k < xs.length := by omega
 exact zby (by simp [hk])
theorem at0 {α : Type} {a : α} {xs : List α} : atI (a :: xs) 0 = some a := zby (j := 0) rfl
theorem at1 {α : Type} {a b : α} {xs : List α} : atI (a :: b :: xs) 1 = some b := zby (j := 1) rfl
theorem at2 {α : Type} {a b c : α} {xs : List α} : atI (a :: b :: c :: xs) 2 = some c := zby (j := 2) rfl
theorem at3 {α : Type} {a b c d : α} {xs : List α} : atI (a :: b :: c :: d :: xs) 3 = some d := zby (j := 3) rfl
theorem zhy {M : Mm} {cl : Cl} : (M ++ [cl])[M.length]? = some cl := List.getElem?_concat_length ..
theorem s_end {M : Mm} {cl cl' : Cl} : (M ++ [cl]).set M.length cl' = M ++ [cl'] := by simp
theorem w_end {M : Mm} : vw (M ++ [.lst ds]) (.ref M.length) = .lst ds := zi5 zhy
theorem zia {α : Type} (xs : List α) {i : Int} (h : 0 ≤ i) : cutL xs (some i) none = xs.drop i.toNat := by
 obtain ⟨k, rfl⟩ : ∃ k : Nat, i = k := ⟨i.toNat, by omega⟩
 unfold cutL
 rw [HT.zif, HT.zjv]
 rw [List.take_of_length_le (by rw [List.length_drop]; omega), Int.toNat_natCast]
 by_cases hk : k ≤ xs.length
 ·rw [Nat.min_eq_left hk]
 ·rw [Nat.min_eq_right (by omega), List.drop_length, List.drop_of_length_le (by omega)]
theorem znT {α : Type} (xs : List α) {i : Int} (h : 0 ≤ i) : cutL xs none (some i) = xs.take i.toNat := by
 obtain ⟨k, rfl⟩ : ∃ k : Nat, i = k := ⟨i.toNat, by omega⟩
 unfold cutL
 rw [HT.zif, HT.zjv, List.drop_zero, Nat.sub_zero, Int.toNat_natCast]
 by_cases hk : k ≤ xs.length
 ·rw [Nat.min_eq_left hk]
 ·rw [Nat.min_eq_right (by omega), List.take_length, List.take_of_length_le (by omega)]
theorem cut_m1 {α : Type} (xs : List α) (a : α) : cutL (xs ++ [a]) none (some (-1)) = xs := by
 unfold cutL
 rw [show HT.sIx (xs ++ [a]).length 0 none = 0 from rfl, show HT.sIx (xs ++ [a]).length (xs ++ [a]).length (some (-1)) = xs.length by simp only [HT.sIx]; simp; omega]
 simp
end
end E3
namespace L2
open PySem PySem.Spec PyProof.Rows
def rXiT (K : PySem.W.Frag) : List V → Hp → VK → Prop := fun xs H Q => ∃ a C dx b0 tp cs us b, xs = [.ref a, .ref tp] ∧ H a = some (xo a C dx b0) ∧ zf2 K C = true ∧ (∀ d, dx = some d → ∃ fs, H d = some (.xd fs)) ∧ H tp = some (.tup cs) ∧ cs.mapM absU = some us ∧ PySem.W.kitAny K (.ref C) us = some b ∧ Q (.bl b) H
theorem zkr {X : Cx} : zcO X (.builtin "isinstance") (rXiT X.K) := by
  intro pins s σ H vs us Q I r h
  obtain ⟨a, C, dx, b0, tp, cs, ws2, b, rfl, ea, q, hdx, ht, hc, hk, hq⟩ := h
  simp only [zf2, Bool.and_eq_true, beq_iff_eq] at q
  obtain ⟨q1, q2, q3, q4, q5, q6⟩ := q
  obtain ⟨oe, ws, t, e1, e2, e3, e4, _⟩ := zh0 I.hok ea
  have J : ∃ od, PySem.W.InstAt s.heap a oe C od := by
    cases dx with
    | none => exact ⟨none, e1, e2, by unfold PySem.W.notCls; rw [e4], by rw [e3]; exact True.intro⟩
    | some d =>
      obtain ⟨fs, ed⟩ := hdx d rfl
      obtain ⟨mA, n, _⟩ := (show zbZ X.prog X.w H s.heap d (.xd fs) from I.hok d _ ed)
      obtain ⟨od, d1, _⟩ := zg2 n
      exact ⟨some od, e1, e2, by unfold PySem.W.notCls; rw [e4], by rw [e3]; exact d1⟩
  obtain ⟨od, J⟩ := J
  have Z : PySem.W.KitX X.K (.ref a) (.ref C) (fun h => PySem.W.InstAt h a oe C od) := by
    obtain ⟨cd0, hc0, _⟩ := PySem.W.any_some q2
    have lk0 : ∃ c' d' cd' sl', X.K.lookup C = some ⟨c', d', .cls cd', sl'⟩ := by
      unfold PySem.W.clsIn at hc0
      split at hc0
      · rename_i ho; exact ⟨_, _, _, _, ho⟩
      · cases hc0
    obtain ⟨c', d', cd', sl', ho⟩ := lk0
    refine ⟨fun _ _ _ I => I.type, fun _ _ XX _ => ?_, fun h tp dd its n sl XX ht => Bool.eq_false_iff.mpr fun z => ?_, fun XX I k => zkf XX q1 I q2 q3 q4 q5 q6 k⟩
    · intro A' Q' E' s' k z
      unfold isType loadHead
      exact wpAny_bind (wpAny_loadPart (k _ _ (XX _ _ ho)) (wpAny_pure z))
    · have z := beq_iff_eq.mp z
      cases z
      have y := (XX _ _ ho).symm.trans ht
      cases y
  cases r with
  | cons r1 r2 =>
    cases r2 with
    | cons r3 r4 =>
      cases r4
      cases r1
      cases r3
      obtain ⟨_, its, rv, p⟩ := (show zbZ X.prog X.w H s.heap tp (.tup cs) from I.hok tp _ ht)
      have := zgv rv hc
      subst this
      obtain ⟨o, h1, h2, n2, h3⟩ := p
      obtain ⟨oc, odd, oda, osl⟩ := o
      dsimp only at h2 h3
      subst h2 h3
      exact PySem.W.kia_tup Z I.kIn J h1 hk (fun z => nomatch z) fun tk => ⟨.bl b, H, I.tok tk, rfl, hq⟩
end L2
namespace E3
open PySem PySem.Spec PyProof.Rows L2
section
variable {X : Cx} {Wx : XW} {m : Mode} {pos : Pos}
def or2 (f g : Str → Option Bool) (c : Str) : Option Bool := match f c, g c with
 | some a, some b => some (a || b)
 | _, _ => none
theorem zm7 {i : Nat} {x cn dn : Str} {c d : Addr} {tb td : Str → Option Bool} {p p' p2 p3 pt : Pos} {kt : Nat} (hN : X.N[i]? = some x) (hv : X.env.scope.names.lookup x = some .local) (ht : SupT X (.ref c) tb) (hu : SupT X (.ref d) td) (hg : Gl X "isinstance") (hm : X.mg "isinstance" = none) (hg' : Gl X cn) (hm' : X.mg cn = some (.ref c)) (hg2 : Gl X dn) (hm2 : X.mg dn = some (.ref d)) (hd : (x == ("__debug__" : Str)) = false := by decide +kernel) (hcd : (x == ("__classdict__" : Str)) = false := by decide +kernel) (hd' : (cn == ("__debug__" : Str)) = false := by decide +kernel) (hd2 : (dn == ("__debug__" : Str)) = false := by decide +kernel)
  (hs : starEach [.Name x p2, .Tuple [.Name cn p', .Name dn p3] kt pt] X.env = (false, eval (.Name x p2) X.env) :: starEach [.Tuple [.Name cn p', .Name dn p3] kt pt] X.env := by rfl) : SE X Wx m (.Call (.Name "isinstance" p) [.Name x p2, .Tuple [.Name cn p', .Name dn p3] kt pt] [] pos) (sIsX i (or2 tb td)) := by
 refine zaR (zbf zkr hg hm boot_isinstance (zbR (zh8 hN (.inl hv) hd hcd) (zbR (pe_tup (zbR (zdv hg' hm' (v := .ref c) rfl hd') (zbR (zdv hg2 hm2 (v := .ref d) rfl hd2) zd2 rfl) rfl)) zd2 rfl) hs) (by decide +kernel) (by decide +kernel) hs rfl) ?_
 rintro st H Q ⟨P0, H0, P, Os, env, M, r, M', k, e, q⟩
 unfold sIsX at e
 split at e
 ·rename_i cc n hs
  rw [Option.map_eq_some_iff] at e
  obtain ⟨b, eb, e⟩ := e
  cases e
  obtain ⟨v, ev, a, C, dx, rfl, m1, ea, xn⟩ := k.slot i _ hs
  unfold or2 at eb
  split at eb
  ·rename_i b1 b2 t1 t2
   cases eb
   obtain ⟨C2, m2, x2, k2⟩ := ht cc b1 t1
   cases m1.symm.trans m2
   obtain ⟨C3, m3, x3, k3⟩ := hu cc b2 t2
   cases m1.symm.trans m3
   have ka : PySem.W.kitAny X.K (.ref C) [.ref c, .ref d] = some (b1 || b2) := by
    unfold PySem.W.kitAny
    rw [k2]
    cases b1
    ·unfold PySem.W.kitAny
     simp only [k3]
     cases b2 <;> rfl
    ·rfl
   refine ⟨_, zbN ev, by show 2 ≤ sizeLine; decide, fun pp hp => ?_⟩
   have s := zdn (o := .tup [.ref c, .ref d]) hp
   refine ⟨a, C, dx, false, pp, [.ref c, .ref d], [.ref c, .ref d], b1 || b2, rfl, s _ _ ea, x2, fun dd hdd => ?_, zaC, rfl, ka, q P _ _ (LtE.same s) (k.hk.same s) (IsM.of (k.hk.same s) (show Is _ _ _ (.bl _) _ from rfl))⟩
   subst hdd
   obtain ⟨fs, ed, _⟩ := xn
   exact ⟨fs, s _ _ ed⟩
  ·cases eb
 ·cases e
def zeG (i j n : Nat) (body : S) : Nat → Env → Mm → OS
  | 0, env, M => some (.nx env, M)
  | r + 1, env, M => match M[j]? with
    | some (.lst ds) => if ds.length = n then (match ds[r]? with
      | none => none
      | some d => if i < env.length then (match body (env.set i (.val d)) M with
        | some (.nx e, M1) => zeG i j n body r e M1
        | some (.ct e, M1) => zeG i j n body r e M1
        | some (.bk e, M1) => some (.nx e, M1)
        | some (.rt d, M1) => some (.rt d, M1)
        | some (.ex c k, M1) => some (.ex c k, M1)
        | none => none) else none) else none
    | _ => none
theorem ziH {K : PySem.W.Frag} {mg : Str → Option Value} {P0 P1 : Pl} {H0 H1 : Hp} {Os : List (Option Addr)} {M M' : Mm} {st : L2.St} {env : Env} {i j n : Nat} {b : S} {out : Out} {D : Ends} (k : Ok K mg P0 H0 P1 Os H1 M st env) (hj : j < P1.n)
    (h : zeG i j n b n env M = some (out, M')) (q : Post K mg Wx P0 H0 P1 H1 M' D out) :
    ∃ W : Nat → Nat → L2.St → Hp → Prop, (∃ m, W 0 m st H1) ∧ ∀ t m σ H, W t m σ H →
      ((Itv K (P1.io j) n).stop t H ∧ D.nx σ H) ∨ ((Itv K (P1.io j) n).go t H ∧ ∃ Nn : L2.St → Hp → Prop, (∀ σ' H', Nn σ' H' → ∃ m', m' < m ∧ W (t + 1) m' σ' H') ∧ ∀ x H', (Itv K (P1.io j) n).yld t H x H' → zkY i x σ H' fun σ2 H2 => tS K mg Wx b { D with nx := Nn, ct := Nn, bk := D.nx } σ2 H2) := by
  refine ⟨fun t m σ H => t + m = n ∧ ∃ P Os' M1 env', Lt P1 H1 P H ∧ Ok K mg P0 H0 P Os' H M1 σ env' ∧ zeG i j n b m env' M1 = some (out, M'), ⟨n, Nat.zero_add n, P1, Os, M, env, Lt.refl _ _, k, h⟩, ?_⟩
  rintro t m σ H ⟨htm, P, Os', M1, env', lt, k', h'⟩
  cases m with
  | zero =>
    cases h'
    exact .inl ⟨by show t = n; omega, q P Os' H σ lt k'⟩
  | succ m =>
    simp only [zeG] at h'
    split at h'
    · rename_i ds em
      obtain ⟨vs, ev, is⟩ := k'.hk.cell j _ em
      rw [lt.io j hj] at ev
      have sq : SqL K H (P1.io j) vs := .inl (.inl ev)
      split at h'
      · rename_i hln
        split at h'
        · cases h'
        · rename_i d et
          obtain ⟨v, evt, iv⟩ := is.get et
          have hvl : vs.length = n := by rw [is.len]; exact hln
          split at h'
          · rename_i hi
            refine .inr ⟨⟨by omega, vs, sq, hvl⟩, fun σ' H' => t + 1 + m = n ∧ ∃ P Os' M1 env', Lt P1 H1 P H' ∧ Ok K mg P0 H0 P Os' H' M1 σ' env' ∧ zeG i j n b m env' M1 = some (out, M'), fun σ' H' z => ⟨m, Nat.lt_succ_self m, z⟩, fun x H' y => ?_⟩
            obtain ⟨rfl, y⟩ := y
            have ex := y vs sq
            rw [show n - 1 - t = m by omega, evt] at ex
            cases ex
            have k2 := k'.asg hi iv
            split at h'
            · rename_i e M2 eb
              exact ⟨P0, H0, P, _, _, M1, _, _, k2, eb, fun P' Os2 H2 st2 l2 k3 => ⟨by omega, P', Os2, _, e, lt.trans l2, k3, h'⟩⟩
            · rename_i e M2 eb
              exact ⟨P0, H0, P, _, _, M1, _, _, k2, eb, fun P' Os2 H2 st2 l2 k3 => ⟨by omega, P', Os2, _, e, lt.trans l2, k3, h'⟩⟩
            · rename_i e M2 eb
              cases h'
              exact ⟨P0, H0, P, _, _, M1, _, _, k2, eb, fun P' Os2 H2 st2 l2 k3 => q P' Os2 H2 st2 (lt.trans l2) k3⟩
            · rename_i e M2 eb
              cases h'
              exact ⟨P0, H0, P, _, _, M1, _, _, k2, eb, q⟩
            · rename_i c n M2 eb
              cases h'
              exact ⟨P0, H0, P, _, _, M1, _, _, k2, eb, q⟩
            · cases h'
          · cases h'
      · cases h'
    · cases h'
def zj9 (i : Nat) (fs : EA) (body : S) : S := fun env M => match fs env M with
  | some (.v [.lst ds], M1) => loopS i body ds.reverse env M1
  | some (.v [.ref j], M1) => (match M1[j]? with
    | some (.lst ds) => zeG i j ds.length body ds.length env M1
    | _ => none)
  | some (.x c n, M1) => some (.ex c n, M1)
  | _ => none
theorem zmD {i : Nat} {x : Str} {p pr pc : Pos} {a : Expr} {body : List Stmt} {fs : EA} {b : S} (hp : PassesOwn (model X.prog X.w) X.A X.env X.xe) (hc : X.calm = true) (hN : X.N.Nodup) (hi : X.N[i]? = some x) (hx : Loc X.env.scope x) (hg : Gl X "reversed") (hm : X.mg "reversed" = none) (ha : SA X Wx .val [a] fs) (hb : SB X Wx body b)
  (hst : starEach [a] X.env = [(false, eval a X.env)] := by rfl) (hf : X.fn x = true ∨ X.env.scope.names.lookup x = some .local := by first | exact .inl rfl | exact .inr rfl) (hs : ∀ x, foldedSetIterable (.Call (.Name "reversed" pr) [a] [] pc) X.env x = pure x := by intro _; rfl) : SS X Wx (.For (.Name x p) (.Call (.Name "reversed" pr) [a] [] pc) body [] pos) (zj9 i fs b) := by
 refine zcy (zlc hp hc (zlk hg hm ha hst) (zja hN hi hx hf) hb hs) ?_
 rintro D st H ⟨P0, H0, P, Os, env, M, out, M', k, e, q⟩
 unfold zj9 at e
 split at e
 ·rename_i ds M1 ef
  refine ⟨P0, H0, P, Os, env, M, _, _, k, ef, fun P1 vs H1 l1 h1 i1 => ?_⟩
  obtain ⟨v, ws, rfl, i1, rfl⟩ := i1
  obtain ⟨a, us, rfl, ra, is⟩ := i1
  refine ⟨a, us, rfl, ra.imp (·.2) id, zg9 (k.next l1 h1) (fun P2 H2 l2 => ?_) e (q.lt (l1.lt k.hk))⟩
  have ra2 := l2.rda ra
  have is2 := Iss.lt l2 is
  have sq : SqL X.K H2 a us := ra2.imp (·.2) id
  have hn : us.length = ds.length := is2.len
  rw [List.length_reverse]
  refine ⟨fun j hj => ⟨by omega, us, sq, rfl⟩, fun j h1 h2 => by show j = us.length; omega, fun j x H' y hj => ⟨y.1, ?_⟩⟩
  have hj' : ds.length - 1 - j < ds.length := by omega
  obtain ⟨v, ev, iv⟩ := Iss.get is2 (List.getElem?_eq_getElem hj')
  have := y.2 us sq
  rw [hn, ev] at this
  cases this
  exact ⟨_, by rw [List.getElem?_reverse hj, List.getElem?_eq_getElem hj'], iv⟩
 ·rename_i j M1 ef
  split at e
  ·rename_i ds em
   refine ⟨P0, H0, P, Os, env, M, _, _, k, ef, fun P1 vs H1 l1 h1 i1 => ?_⟩
   obtain ⟨v, ws, rfl, i1, rfl⟩ := i1
   obtain ⟨jl, rfl⟩ : j < P1.n ∧ v = .ref (P1.io j) := i1
   obtain ⟨us, ev, is⟩ := h1.cell j _ em
   refine ⟨P1.io j, us, rfl, .inl (.inl ev), ?_⟩
   rw [show us.length = ds.length from is.len]
   exact ziH (k.next l1 h1) jl e (q.lt (l1.lt k.hk))
  ·cases e
 ·rename_i c n M1 ef
  cases e
  exact ⟨P0, H0, P, Os, env, M, _, _, k, ef, q⟩
 ·cases e
end
section
variable {env : Env} {M : Mm} {ds : List D} {d : D} {i j k n : Nat} {t : S} {fa : EA} {x : Str}
def forV (i : Nat) (t : S) (env : Env) : Option (ResA × Mm) → OS
 | some (.v [.lst ds], M1) => loopS i t ds.reverse env M1
 | some (.v [.ref j], M1) => lsS (fun ds => zeG i j ds.length t ds.length env M1) M1[j]?
 | some (.x c n, M1) => some (.ex c n, M1)
 | _ => none
theorem zoE : zj9 i fa t env M = forV i t env (fa env M) := by
 unfold zj9 forV
 split <;> rfl
theorem zjF : forV i t env (some (.v [.lst ds], M)) = loopS i t ds.reverse env M := rfl
theorem zjk : forV i t env (some (.v [.ref j], M)) = lsS (fun ds => zeG i j ds.length t ds.length env M) M[j]? := rfl
theorem zkw {body : S} {env : Env} {M : Mm} (Q : OS → Prop) (J : Nat → Env → Mm → Prop) (h0 : J ds.length env M)
    (hs : ∀ (r : Nat) d env M, ds[r]? = some d → J (r + 1) env M → M[j]? = some (.lst ds) ∧ i < env.length ∧ Step (J r) Q (body (env.set i (.val d)) M)) (hd : ∀ env M, J 0 env M → Q (some (.nx env, M))) : Q (zeG i j ds.length body ds.length env M) := by
  have key : ∀ (r : Nat) (env : Env) (M : Mm), r ≤ ds.length → J r env M → Q (zeG i j ds.length body r env M) := by
    intro r
    induction r with
    | zero => intro env M _ hJ; exact hd env M hJ
    | succ r ih =>
      intro env M hr hJ
      obtain ⟨hM, hi, h1⟩ := hs r ds[r] env M (List.getElem?_eq_getElem (by omega)) hJ
      simp only [zeG, hM, if_true, List.getElem?_eq_getElem (show r < ds.length by omega), hi]
      cases e : body (env.set i (.val ds[r])) M with
      | none => rw [e] at h1; exact h1.elim
      | some o =>
        rw [e] at h1
        obtain ⟨o, M'⟩ := o
        cases o with
        | nx e' => exact ih e' M' (by omega) h1
        | ct e' => exact ih e' M' (by omega) h1
        | bk e' => exact h1
        | rt d => exact h1
        | ex c n => exact h1
  exact key ds.length env M (Nat.le_refl _) h0
end
end E3
namespace L2
open PySem PySem.Spec PyProof.Rows
theorem mt_lix {X : Cx} : MtR X "list.index" (fun x xs H Q => ∃ (p : Addr) (zs : List Str) (y : Str) (j : Nat), x = .ref p ∧ xs = [.str y] ∧ SqL X.K H p (zs.map V.str) ∧ zs.findIdx? (fun z => decide (z = y)) = some j ∧ Q (.int j) H) := by
 intro pins s σ H x xs v us Q I rx rs h
 obtain ⟨p, zs, y, j, rfl, rfl, hq, hj, q⟩ := h
 cases rx
 obtain ⟨u, rfl, t, rfl⟩ := vals1 rs
 obtain ⟨its, rv, ⟨⟨cls, dd, data, sl⟩, n, ho, hc, hdn, hd⟩, hz⟩ := I.list hq
 simp only at hc hd
 subst hc hd
 have hl : its.length = zs.length := by rw [← rv.length, List.length_map]
 have item : ∀ (m : Nat) (hm : m < its.length), ∃ t', its[m] = .str (zs[m]'(by omega)) t' := fun m hm => by
  obtain ⟨u, hu, ru⟩ := rv.get (i := m) (x := .str (zs[m]'(by omega))) (by rw [List.getElem?_map, List.getElem?_eq_getElem (by omega)]; rfl)
  obtain ⟨t', ru⟩ := ru
  rw [List.getElem?_eq_getElem hm] at hu
  exact ⟨t', by rw [Option.some.inj hu, ru]⟩
 rw [List.findIdx?_eq_some_iff_getElem] at hj
 obtain ⟨hj1, hj2, hj3⟩ := hj
 have hn := zdP
 rw [List.length_map] at hz
 refine call_meets PySem.F.slot_list_index ⟨_, ho, rfl⟩ PySem.F.entry_list_index (PySem.F.args_list_index_2 _ _)
  (PySem.SeqAt.list_indexAt p its.toArray n dd sl (.str y t) (fun u => match u with | .str z _ => z == y | _ => false) j (by simp only [List.size_toArray]; omega) (by omega) ?_ ?_) ⟨ho, fun u hu => ?_, ⟨.int j, H, I.tok _, ⟨_, rfl⟩, q⟩⟩
 ·obtain ⟨t', e⟩ := item j (by omega)
  simp only [List.getElem_toArray, e]
  exact beq_iff_eq.mpr (of_decide_eq_true hj2)
 ·intro m hm hlt
  simp only [List.size_toArray] at hm
  obtain ⟨t', e⟩ := item m hm
  simp only [List.getElem_toArray, e]
  have := hj3 m hlt
  simpa using this
 ·have hu' : u ∈ its := by simpa using hu
  obtain ⟨m, hm, rfl⟩ := List.getElem_of_mem hu'
  obtain ⟨t', e⟩ := item m hm
  rw [e]
  exact (eqGives_str _ _ _ _).at _ _
end L2
namespace E3
open PySem PySem.Spec PyProof.Rows L2
section
variable {X : Cx} {Wx : XW} {m : Mode} {pos : Pos}
def lixD (ds : List D) : List D → Option D
  | [.str y] => match zi2 ds with
    | some zs => (zs.findIdx? (fun z => decide (z = y))).map fun (j : Nat) => D.int (j : Int)
    | none => none
  | _ => none
def sLix (f : E) (fs : EA) : E := fun env M => bnd (f env M) fun d M1 => match d with
 | .lst ds => bndA (fs env M1) fun es M2 => (lixD ds es).map fun z => (.v z, M2)
 | _ => none
theorem se_lix {a e : Expr} {es : List Expr} {f : E} {fs : EA} {p : Pos} (ha : SE X Wx .val a f) (hs : SA X Wx .val (e :: es) fs)
  (hbase : attributeBase a "index" X.env (eval a X.env) = eval a X.env := by rfl)
  (hfew : ((backTo pos (starEach (e :: es) X.env)).all (fun x => !x.1) && (backToKw pos (keywordEach [] X.env)).all (fun x => x.1.isSome) && decide ((e :: es).length + ([] : List Keyword).length + (if ([] : List Keyword).isEmpty then 0 else 1) < 30)) = true := by rfl)
  (hline : (p.endLine == pos.line) = true := by rfl) (hst : starEach (e :: es) X.env = (false, eval e X.env) :: starEach es X.env := by rfl) (hplain : (backTo pos (starEach es X.env)).any (·.1) = false := by rfl) :
  SE X Wx m (.Call (.Attribute a "index" p) (e :: es) [] pos) (sLix f fs) := by
 refine zaR (zkm PySem.F.plainAttrs_list PySem.F.slot_list_index PySem.F.type_list_index mt_lix ha hs hbase hfew hline hst hplain) ?_
 rintro st H Q ⟨P0, H0, P, Os, env, M, r, M', k, e, q⟩
 unfold sLix at e
 rcases zaN e with ⟨d, M1, e1, e⟩ | ⟨c, n, e1, rfl⟩
 ·cases d <;> simp only [reduceCtorEq] at e
  rename_i ds
  refine zaG k e1 fun P1 v1 H1 l1 h1 i1 => ?_
  have k1 := k.next l1 h1
  obtain ⟨a, us, rfl, ra, is⟩ := i1
  refine ⟨.inl ⟨rfl, us, ra.imp (·.2) id⟩, ?_⟩
  rcases zcz e with ⟨es, M2, e2, e⟩ | ⟨c, n, e2, rfl⟩
  ·rw [Option.map_eq_some_iff] at e
   obtain ⟨z, ez, e⟩ := e
   cases e
   refine ⟨P0, H0, P1, Os, env, M1, _, _, k1, e2, fun P2 vs H2 l2 h2 i2 => ?_⟩
   unfold lixD at ez
   split at ez
   ·rename_i y
    split at ez
    ·rename_i zs ey
     rw [Option.map_eq_some_iff] at ez
     obtain ⟨j, ej, rfl⟩ := ez
     obtain ⟨w, ws, rfl, iw, rfl⟩ := i2
     cases (show w = .str y from iw)
     have ra2 := (l2.lt h1).rda ra
     have is2 := Iss.lt (l2.lt h1) is
     refine ⟨a, zs, y, j, rfl, rfl, ?_, ej, q P2 _ H2 (l1.trans l2) h2 (IsM.of h2 (show Is _ _ _ (.int _) _ from rfl))⟩
     rw [ziP ey is2] at ra2
     exact ra2.imp (·.2) id
    ·cases ez
   ·cases ez
  ·exact ⟨P0, H0, P1, Os, env, M1, _, _, k1, e2, q⟩
 ·exact zaG k e1 q
end
section
variable {env : Env} {M : Mm} {ds es : List D} {f : E} {fa : EA}
def lixK (q : Mm → Option (ResA × Mm)) (M : Mm) : D → O
 | .lst ds => argK (fun es M2 => mapR M2 (lixD ds es)) (q M)
 | _ => none
theorem r_lix {q : Mm → Option (ResA × Mm)} : lixK q M (.lst ds) = argK (fun es M2 => mapR M2 (lixD ds es)) (q M) := rfl
theorem q_lix : sLix f fa env M = bndK (fun d M1 => lixK (fa env) M1 d) (f env M) := by
  unfold sLix bndK bnd
  cases f env M with
  | none => rfl
  | some p => obtain ⟨r, M'⟩ := p; cases r with
    | x c n => rfl
    | v d =>
      cases d <;> try rfl
      dsimp only [lixK]
      unfold argK bndA
      cases fa env M' with
      | none => rfl
      | some p => obtain ⟨r, M2⟩ := p; cases r with
        | x c n => rfl
        | v ds => dsimp only; cases lixD _ ds <;> rfl
end
end E3
namespace My
open PySem PySem.Spec PyProof.Rows L2 E3
def zcu : List (Str × D) := [("+", (.tup [(.str "number"), (.str "number"), (.int 2)])), ("-", (.tup [(.str "number"), (.str "number"), (.int 2)])), ("*", (.tup [(.str "number"), (.str "number"), (.int 2)])), ("least", (.tup [(.str "number"), (.str "number"), (.int 2)])), ("most", (.tup [(.str "number"), (.str "number"), (.int 2)])), ("<", (.tup [(.str "truth"), (.str "number"), (.int 2)])), ("=", (.tup [(.str "truth"), (.str "number"), (.int 2)])), ("not", (.tup [(.str "truth"), (.str "truth"), (.int 1)])), ("and", (.tup [(.str "truth"), (.str "truth"), (.int 2)])), ("or", (.tup [(.str "truth"), (.str "truth"), (.int 2)]))]
def top (i : Nat) : Stmt := PySem.Challenge.pw_rowdam_k12_conditions.main.body.getD i (.Pass ⟨0, 0, 0, 0⟩)
def blts : List Str := ["any", "len", "range", "reversed", "max", "min", "int", "str", "isinstance", "bool", "list", "tuple"]
def zmV (s : Stmt) (j : Nat) : Stmt := match s with
 | .ClassDef _ _ _ body _ _ _ _ _ _ _ => body.getD j s
 | _ => s
structure Ad where
 Cond : Addr
 DamError : Addr
 NoExpr : Addr
 NoItem : Addr
 NoName : Addr
structure Txt (K : PySem.W.Frag) (mg : Str → Option Value) (C : Ad) (w : World) : Prop where
 blt : ∀ b ∈ blts, mg b = none
 cl_Cond : ClsOk K mg "Cond" C.Cond
 na_Cond_parts : zd5 K C.Cond "parts"
 xm_DamError : mg "DamError" = some (.ref C.DamError)
 xc_DamError : xcIn K C.DamError = true
 xm_NoExpr : mg "NoExpr" = some (.ref C.NoExpr)
 xc_NoExpr : xcIn K C.NoExpr = true
 xm_NoItem : mg "NoItem" = some (.ref C.NoItem)
 xc_NoItem : xcIn K C.NoItem = true
 xm_NoName : mg "NoName" = some (.ref C.NoName)
 xc_NoName : xcIn K C.NoName = true
 oi_Cond : OwnIs K C.Cond
 xn_NoExpr : ziT K C.NoExpr = true
 xk_NoExpr : PySem.W.keepIn K (.ref C.NoExpr) = true
 xs_NoExpr : zf2 K C.NoExpr = true
 pk_NoExpr_NoItem : PySem.W.kitOne K (.ref C.NoExpr) (.ref C.NoItem) = some false
 pk_NoExpr_NoName : PySem.W.kitOne K (.ref C.NoExpr) (.ref C.NoName) = some false
 qk_NoExpr_NoExpr : zhA K C.NoExpr C.NoExpr = true
 k_ALL_LETTERS : ∃ a, mg "ALL_LETTERS" = some (.ref a) ∧ ∀ P H, Is K P H (.tup [(.str "t"), (.str "v"), (.str "w")]) (.ref a)
 k_NEEDS : ∃ a, mg "NEEDS" = some (.ref a) ∧ KTab K w a zcu
 k_FIGURES : ∃ t, mg "FIGURES" = some (.str "0123456789" t)
 k_MOST_FIGURES : ∃ t, mg "MOST_FIGURES" = some (.int 20 t)
 k_COND_LETTERS : ∃ t, mg "COND_LETTERS" = some (.str "tv" t)
structure MetAt (K : PySem.W.Frag) (C : Addr) (x q : Str) (st : Stmt) (ps : List Str) (f : Addr) (fd : FuncData) : Prop where
 M : Meth K C x f
 F : FunD K x q st f fd
 b : Binds K fd ps []
structure IniAt (K : PySem.W.Frag) (C : Addr) (q : Str) (st : Stmt) (ps : List Str) (f : Addr) (fd : FuncData) : Prop where
 M : Mk K C f
 F : FunD K "__init__" q st f fd
 b : Binds K fd ps []
structure MetAtD (K : PySem.W.Frag) (C : Addr) (x q : Str) (st : Stmt) (ps : List Str) (dd : List D) (f : Addr) (fd : FuncData) : Prop where
 M : Meth K C x f
 F : FunD K x q st f fd
 b : Binds K fd ps []
 bd : ∃ (dv : List V) (du : List Value), Binds K fd ps du ∧ Vals dv du ∧ (∀ P H, Iss K P H dd dv) ∧ dv.length = dd.length
structure DefAt (K : PySem.W.Frag) (mg : Str → Option Value) (x : Str) (st : Stmt) (ps : List Str) (f : Addr) (fd : FuncData) : Prop where
 mg : mg x = some (.ref f)
 F : FunD K x x st f fd
 b : Binds K fd ps []
def zdN (c : Str) : Option Bool := if c = "NoExpr" then some false else none
theorem zgS {K : PySem.W.Frag} {mg : Str → Option Value} {C : Ad} {w : World} (T : Txt K mg C w) : ∀ c b, zdN c = some b → ∃ D, mg c = some (.ref D) ∧ zf2 K D = true ∧ PySem.W.kitOne K (.ref D) (.ref C.NoItem) = some b := by
 intro c b h
 unfold zdN at h
 split at h
 ·rename_i e; subst e; cases h; exact ⟨_, T.xm_NoExpr, T.xs_NoExpr, T.pk_NoExpr_NoItem⟩
 cases h
def zdU (c : Str) : Option Bool := if c = "NoExpr" then some false else none
theorem zgC {K : PySem.W.Frag} {mg : Str → Option Value} {C : Ad} {w : World} (T : Txt K mg C w) : ∀ c b, zdU c = some b → ∃ D, mg c = some (.ref D) ∧ zf2 K D = true ∧ PySem.W.kitOne K (.ref D) (.ref C.NoName) = some b := by
 intro c b h
 unfold zdU at h
 split at h
 ·rename_i e; subst e; cases h; exact ⟨_, T.xm_NoExpr, T.xs_NoExpr, T.pk_NoExpr_NoName⟩
 cases h
def zdg (c : Str) : Bool := if c = "NoExpr" then true else false
theorem zgf {K : PySem.W.Frag} {mg : Str → Option Value} {C : Ad} {w : World} (T : Txt K mg C w) : ∀ c, zdg c = true → ∃ D, mg c = some (.ref D) ∧ xcIn K D = true ∧ zhA K D C.NoExpr = true := by
 intro c h
 unfold zdg at h
 split at h
 ·rename_i e; subst e; exact ⟨_, T.xm_NoExpr, T.xc_NoExpr, T.qk_NoExpr_NoExpr⟩
 cases h
def zgl (t : String) : Option Bool := if t = "int" then some false else if t = "bool" then some true else if t = "str" then some false else if t = "list" then some false else if t = "tuple" then some false else if t = "NoneType" then some false else if t = "dict" then some false else none
theorem zhL {K : PySem.W.Frag} : ∀ t b, zgl t = some b → PySem.W.kitOne K (.type t) (.type "bool") = some b := by
 intro t b h
 unfold zgl at h
 split at h
 ·rename_i e; subst e; cases h; kernel_rfl
 split at h
 ·rename_i e; subst e; cases h; kernel_rfl
 split at h
 ·rename_i e; subst e; cases h; kernel_rfl
 split at h
 ·rename_i e; subst e; cases h; kernel_rfl
 split at h
 ·rename_i e; subst e; cases h; kernel_rfl
 split at h
 ·rename_i e; subst e; cases h; kernel_rfl
 split at h
 ·rename_i e; subst e; cases h; kernel_rfl
 cases h
def isiT (t T : String) : Option Bool := if T = "bool" then zgl t else none
theorem zix : isiT "int" "bool" = some false := by decide +kernel
theorem zhF : isiT "bool" "bool" = some true := by decide +kernel
theorem zno : isiT "str" "bool" = some false := by decide +kernel
theorem zms : isiT "list" "bool" = some false := by decide +kernel
theorem zk7 : isiT "tuple" "bool" = some false := by decide +kernel
theorem ziL : isiT "NoneType" "bool" = some false := by decide +kernel
theorem zlU : isiT "dict" "bool" = some false := by decide +kernel
theorem zmW {K : PySem.W.Frag} : ∀ t T b, isiT t T = some b → PySem.W.kitOne K (.type t) (.type T) = some b := by
 intro t T b h
 unfold isiT at h
 split at h
 ·rename_i e; subst e; exact zhL t b h
 cases h
abbrev zaM : Stmt := top 8
theorem zdQ : FnScope ["text"] ["text"] (zaa zaM) := ⟨rfl, rfl, rfl, by decide +kernel, rfl, by decide +kernel, by decide +kernel⟩
theorem zbB : (zaa zaM).names.lookup ("text" : Str) = some .local := by kernel_rfl
def zcI : E := (s2 (oCmp .notin) (sVar 0) (sCon (.str "0123456789")))
def zcH : S := (sSeq (sIf (sOr (s2 (oCmp .eq) (sVar 0) (sCon (.str ""))) (sTru (sN bAny (zag (zgb [] (iTx (sVar 0)) (sCon (.bl true)) zcI) sNil)))) (sSeq (sRet (sCon (.bl false))) sEnd) sEnd) (sSeq (sRet (sOr (s2 (oCmp .eq) (sVar 0) (sCon (.str "0"))) (s2 (oCmp .ne) (s2 oIx (sVar 0) (sCon (.int 0))) (sCon (.str "0"))))) sEnd))
def zbY : G := fnG 1 zcH
theorem zg5 {P : Program} {w : World} {K : PySem.W.Frag} {mg : Str → Option Value} {C : Ad} {base : Heap} {k : Nat} {f : Addr} (T : Txt K mg C w) (cdv : Value) (A : Around) (outer : List PySem.Env) (s : Shared) (H : Hp) (E : XK) (hr : Room k (A.deeper (envOfC "is_figures" (zaa zaM) s.heap.objs.size f cdv))) :
  SB (cx0 P w K mg base ["text"] "is_figures" zaM f cdv A outer s H E) W0 (zal zaM) zcH := by
 have hu : (cx0 P w K mg base ["text"] "is_figures" zaM f cdv A outer s H E).A.units + 60 < cLine := Nat.lt_of_le_of_lt (Nat.add_le_add_left (by decide) _) hr.units
 have nd := (zdQ).nd
 obtain ⟨t_FIGURES, m_FIGURES⟩ := T.k_FIGURES
 refine zab ?_ ?_
 ·exact (zbb (SW.st (zhq (zat (zaJ hu .eq) zao (se_v rfl (zbB)) (se_s zah)) (zfW (zc9 (zc2 (fun t ha => zbf (zkh rfl) rfl (T.blt "any" (by decide +kernel)) boot_any ha (by decide +kernel) (by decide +kernel)) znR (zac (SN.sem (zjw "sign" [] rfl (by decide +kernel) (si_tx (se_v rfl (zbB))) (fun _ _ _ _ _ _ => zi8) (fun _ _ _ _ _ _ => (zc5 (zaJ (X := zb1 _ _ _ _ _ _ _ _ _) hu .notin) zao (zjx rfl (.inl (by kernel_rfl))) (se_s (zdv (v := (.str "0123456789")) rfl m_FIGURES ⟨t_FIGURES, rfl⟩))))) ziJ) zaj zhC)))))) (zab (zau (se_b zf5)) zae) zae)
 refine zab ?_ ?_
 ·exact (zau (zkl (zc5 (zaJ hu .eq) zao (se_v rfl (zbB)) (se_s zah)) (zdZ (zc5 (zaJ hu .ne) zao (zb2 zbt zb3 (se_v rfl (zbB)) (se_i zaf)) (se_s zah)))))
 exact zae
abbrev zak : Stmt := top 9
theorem zb8 : FnScope ["text", "figures"] ["text"] (zaa zak) := ⟨rfl, rfl, rfl, by decide +kernel, rfl, by decide +kernel, by decide +kernel⟩
theorem zaU : (zaa zak).names.lookup ("text" : Str) = some .local := by kernel_rfl
theorem zbA : (zaa zak).names.lookup ("figures" : Str) = some .local := by kernel_rfl
def zbr : S := (sSeq (sAsg 1 (sIte (sTru (sMt zgq (sVar 0) (zag (sCon (.str "-")) sNil))) (sSl (sVar 0) (pAt (sCon (.int 1))) pNo) (sVar 0))) (sSeq (sRet (sAnd (s2 (oCmp .ne) (sVar 0) (sCon (.str "-0"))) (zb5 zbY (zag (sVar 1) sNil)))) sEnd))
def za4 : G := fnG 2 zbr
theorem zdB {P : Program} {w : World} {K : PySem.W.Frag} {mg : Str → Option Value} {C : Ad} {base : Heap} {k : Nat} {f : Addr} (T : Txt K mg C w) (a_is_figures : AtG P w K mg base k "is_figures" 1 zbY) (cdv : Value) (A : Around) (outer : List PySem.Env) (s : Shared) (H : Hp) (E : XK) (hr : Room k (A.deeper (envOfC "is_signed_figures" (zaa zak) s.heap.objs.size f cdv))) :
  SB (cx0 P w K mg base ["text", "figures"] "is_signed_figures" zak f cdv A outer s H E) W0 (zal zak) zbr := by
 have hu : (cx0 P w K mg base ["text", "figures"] "is_signed_figures" zak f cdv A outer s H E).A.units + 60 < cLine := Nat.lt_of_le_of_lt (Nat.add_le_add_left (by decide) _) hr.units
 have nd := (zb8).nd
 refine zab ?_ ?_
 ·exact (zaE (i := 1) nd rfl (.inl zbA) (se_ite (zc9 (znJ PySem.F.slot_str_startswith PySem.F.type_str_startswith ziI zjz (se_v rfl (zaU)) (zac (se_s zah) zaj zad))) (zjG (se_v rfl (zaU)) (ziN (Wx := W0) (se_i zaf)) zjb) (se_v rfl (zaU))))
 refine zab ?_ ?_
 ·exact (zau (zg1 (zc5 (zaJ hu .ne) zao (se_v rfl (zaU)) (se_s zah)) (zdZ (zbc a_is_figures hr rfl (zac (se_v rfl (zbA)) zaj zai) (cnt_cons cnt_nil)))))
 exact zae
abbrev zaY : Stmt := top 10
theorem zew : FnScope ["text"] ["text"] (zaa zaY) := ⟨rfl, rfl, rfl, by decide +kernel, rfl, by decide +kernel, by decide +kernel⟩
theorem zcZ : (zaa zaY).names.lookup ("text" : Str) = some .local := by kernel_rfl
def zcT : S := (sSeq (sRet (sAnd (zb5 za4 (zag (sVar 0) sNil)) (s2 (oCmp .le) (sN bLen (zag (sMt zgj (sVar 0) (zag (sCon (.str "-")) sNil)) sNil)) (sCon (.int 20))))) sEnd)
def zco : G := fnG 1 zcT
theorem zhG {P : Program} {w : World} {K : PySem.W.Frag} {mg : Str → Option Value} {C : Ad} {base : Heap} {k : Nat} {f : Addr} (T : Txt K mg C w) (a_is_signed_figures : AtG P w K mg base k "is_signed_figures" 1 za4) (cdv : Value) (A : Around) (outer : List PySem.Env) (s : Shared) (H : Hp) (E : XK) (hr : Room k (A.deeper (envOfC "is_number" (zaa zaY) s.heap.objs.size f cdv))) :
  SB (cx0 P w K mg base ["text"] "is_number" zaY f cdv A outer s H E) W0 (zal zaY) zcT := by
 have hu : (cx0 P w K mg base ["text"] "is_number" zaY f cdv A outer s H E).A.units + 60 < cLine := Nat.lt_of_le_of_lt (Nat.add_le_add_left (by decide) _) hr.units
 have nd := (zew).nd
 obtain ⟨t_MOST_FIGURES, m_MOST_FIGURES⟩ := T.k_MOST_FIGURES
 refine zab ?_ ?_
 ·exact (zau (zg1 (zbc a_is_signed_figures hr rfl (zac (se_v rfl (zcZ)) zaj zai) (cnt_cons cnt_nil)) (zdZ (zc5 (zaJ hu .le) zao (zc2 (fun t ha => zbf zcp rfl (T.blt "len" (by decide +kernel)) PySem.boot_len ha (by decide +kernel) (by decide +kernel)) zeR (zac (znJ PySem.F.slot_str_lstrip PySem.F.type_str_lstrip zi9 zjP (se_v rfl (zcZ)) (zac (se_s zah) zaj zad)) zaj zfh)) (se_i (zdv (v := (.int 20)) rfl m_MOST_FIGURES ⟨t_MOST_FIGURES, rfl⟩))))))
 exact zae
abbrev zbi : Stmt := top 15
theorem zfz : FnScope ["word", "letters"] ["word", "letters"] (zaa zbi) := ⟨rfl, rfl, rfl, by decide +kernel, rfl, by decide +kernel, by decide +kernel⟩
theorem zcK : (zaa zbi).names.lookup ("word" : Str) = some .local := by kernel_rfl
theorem zed : (zaa zbi).names.lookup ("letters" : Str) = some .local := by kernel_rfl
def zd3 : S := (sSeq (sRet (sOr (zb5 zco (zag (sVar 0) sNil)) (sAnd (s2 (oCmp .isin) (sVar 0) (sCon (.tup [(.str "t"), (.str "v"), (.str "w")]))) (s2 (oCmp .isin) (sVar 0) (sVar 1))))) sEnd)
def zda : G := fnG 2 zd3
theorem zjK {P : Program} {w : World} {K : PySem.W.Frag} {mg : Str → Option Value} {C : Ad} {base : Heap} {k : Nat} {f : Addr} (T : Txt K mg C w) (a_is_number : AtG P w K mg base k "is_number" 1 zco) (cdv : Value) (A : Around) (outer : List PySem.Env) (s : Shared) (H : Hp) (E : XK) (hr : Room k (A.deeper (envOfC "is_leaf" (zaa zbi) s.heap.objs.size f cdv))) :
  SB (cx0 P w K mg base ["word", "letters"] "is_leaf" zbi f cdv A outer s H E) W0 (zal zbi) zd3 := by
 have hu : (cx0 P w K mg base ["word", "letters"] "is_leaf" zbi f cdv A outer s H E).A.units + 60 < cLine := Nat.lt_of_le_of_lt (Nat.add_le_add_left (by decide) _) hr.units
 have nd := (zfz).nd
 obtain ⟨t_ALL_LETTERS, m_ALL_LETTERS⟩ := T.k_ALL_LETTERS
 refine zab ?_ ?_
 ·exact (zau (zkl (zbc a_is_number hr rfl (zac (se_v rfl (zcK)) zaj zai) (cnt_cons cnt_nil)) (zdZ (zg1 (zc5 (zaJ hu .isin) zao (se_v rfl (zcK)) (se_gd rfl m_ALL_LETTERS.1 m_ALL_LETTERS.2)) (zdZ (zc5 (zaJ hu .isin) zao (se_v rfl (zcK)) (se_v rfl (zed))))))))
 exact zae
abbrev zap : Stmt := top 16
theorem zds : FnScope ["word", "kinds", "needed", "place"] ["word", "kinds"] (zaa zap) := ⟨rfl, rfl, rfl, by decide +kernel, rfl, by decide +kernel, by decide +kernel⟩
theorem zcA : (zaa zap).names.lookup ("word" : Str) = some .local := by kernel_rfl
theorem zcx : (zaa zap).names.lookup ("kinds" : Str) = some .local := by kernel_rfl
theorem zbH : (zaa zap).names.lookup ("needed" : Str) = some .local := by kernel_rfl
theorem zdy : (zaa zap).names.lookup ("place" : Str) = some .local := by kernel_rfl
def zcq : S := (sSeq (sIf (sOr (sNot (sTru (sVar 1))) (s2 (oCmp .ne) (sPop (sVar 1)) (s2 oIx (sVar 2) (sCon (.int 1))))) (sSeq (zdJ "NoExpr" (sFst (jVal (sVar 0) (jCon " needs other words behind it" jEnd)))) sEnd) sEnd) sEnd)
def zcg : S := (sSeq (sAsg 2 (zin zcu (sVar 0))) (sSeq (sFor 3 (zfw (zag (s2 oIx (sVar 2) (sCon (.int 2))) sNil)) zcq) sEnd))
def zbD : G := fnG 4 zcg
theorem zfY {P : Program} {w : World} {K : PySem.W.Frag} {mg : Str → Option Value} {C : Ad} {base : Heap} {k : Nat} {f : Addr} (T : Txt K mg C w) (cdv : Value) (A : Around) (outer : List PySem.Env) (s : Shared) (H : Hp) (E : XK) (Wx : XW) (hr : Room k (A.deeper (envOfC "take_needed" (zaa zap) s.heap.objs.size f cdv))) (XF : XFit (cxX P w K mg base ["word", "kinds", "needed", "place"] "take_needed" zap f cdv A outer s H E) Wx) (XP : XPass (cxX P w K mg base ["word", "kinds", "needed", "place"] "take_needed" zap f cdv A outer s H E) Wx) :
  SB (cxX P w K mg base ["word", "kinds", "needed", "place"] "take_needed" zap f cdv A outer s H E) Wx (zal zap) zcg := by
 have hu : (cxX P w K mg base ["word", "kinds", "needed", "place"] "take_needed" zap f cdv A outer s H E).A.units + 60 < cLine := Nat.lt_of_le_of_lt (Nat.add_le_add_left (by decide) _) hr.units
 have nd := (zds).nd
 obtain ⟨t_NEEDS, m_NEEDS⟩ := T.k_NEEDS
 refine zab ?_ ?_
 ·exact (zaE (i := 2) nd rfl (.inl zbH) (ziK (se_v rfl (zcA)) rfl m_NEEDS.1 m_NEEDS.2))
 refine zab ?_ ?_
 ·exact (zfQ PassesOwn.leaving rfl nd rfl (.inl zdy) (zgn rfl (T.blt "range" (by decide +kernel)) (zac (zb2 zbt zb3 (se_v rfl (zbH)) (se_i zaf)) zaj zbU)) (zab (zbb (SW.st (zhq (zex (zc9 (se_v rfl (zcx)))) (zfW (zat (zaJ hu .ne) zao (zeC (se_v rfl (zcx))) (zb2 zbt zb3 (se_v rfl (zbH)) (se_i zaf)))))) (zab (zf4 XF rfl T.xm_NoExpr T.xc_NoExpr T.xn_NoExpr T.xk_NoExpr rfl (zlx (znW (se_v rfl (zcA)) (zlu zk2)))) zae) zae) zae))
 exact zae
abbrev zan : Stmt := top 17
theorem zdr : FnScope ["words", "letters", "wanted", "kinds", "word"] ["words", "letters", "wanted"] (zaa zan) := ⟨rfl, rfl, rfl, by decide +kernel, rfl, by decide +kernel, by decide +kernel⟩
theorem zdw : (zaa zan).names.lookup ("words" : Str) = some .local := by kernel_rfl
theorem zc4 : (zaa zan).names.lookup ("letters" : Str) = some .local := by kernel_rfl
theorem zdo : (zaa zan).names.lookup ("wanted" : Str) = some .local := by kernel_rfl
theorem za5 : (zaa zan).names.lookup ("kinds" : Str) = some .local := by kernel_rfl
theorem zaV : (zaa zan).names.lookup ("word" : Str) = some .local := by kernel_rfl
def zaA : S := (sSeq (sIf (sKIn true zcu (sVar 4)) (sSeq (zg6 (zfn zbD (zag (sVar 4) (zag (sVar 3) sNil)))) (sSeq (zdD (sVar 3) (s2 oIx (zin zcu (sVar 4)) (sCon (.int 0)))) sEnd)) (sSeq (sIf (sTru (zb5 zda (zag (sVar 4) (zag (sVar 1) sNil)))) (sSeq (zdD (sVar 3) (sCon (.str "number"))) sEnd) (sSeq (zdJ "NoExpr" (sFst (jRep (sVar 4) (jCon " may not stand here" jEnd)))) sEnd)) sEnd)) sEnd)
def zcf : S := (sSeq (sAsg 3 (zeg (sLst sNil))) (sSeq (zj9 4 (zag (sVar 0) sNil) zaA) (sSeq (sIf (s2 (oCmp .ne) (sVar 3) (sLst (zag (sVar 2) sNil))) (sSeq (zdJ "NoExpr" (sCon (.str "too many words, or too few"))) sEnd) sEnd) sEnd)))
def zbE : G := fnG 5 zcf
theorem zfX {P : Program} {w : World} {K : PySem.W.Frag} {mg : Str → Option Value} {C : Ad} {base : Heap} {k : Nat} {f : Addr} (T : Txt K mg C w) (a_is_leaf : AtG P w K mg base k "is_leaf" 2 zda) (x_take_needed : AtX P w K mg base k "take_needed" 2 zbD) (cdv : Value) (A : Around) (outer : List PySem.Env) (s : Shared) (H : Hp) (E : XK) (Wx : XW) (hr : Room k (A.deeper (envOfC "check_words" (zaa zan) s.heap.objs.size f cdv))) (XF : XFit (cxX P w K mg base ["words", "letters", "wanted", "kinds", "word"] "check_words" zan f cdv A outer s H E) Wx) (XP : XPass (cxX P w K mg base ["words", "letters", "wanted", "kinds", "word"] "check_words" zan f cdv A outer s H E) Wx) :
  SB (cxX P w K mg base ["words", "letters", "wanted", "kinds", "word"] "check_words" zan f cdv A outer s H E) Wx (zal zan) zcf := by
 have hu : (cxX P w K mg base ["words", "letters", "wanted", "kinds", "word"] "check_words" zan f cdv A outer s H E).A.units + 60 < cLine := Nat.lt_of_le_of_lt (Nat.add_le_add_left (by decide) _) hr.units
 have nd := (zdr).nd
 obtain ⟨t_NEEDS, m_NEEDS⟩ := T.k_NEEDS
 refine zab ?_ ?_
 ·exact (zaE (i := 3) nd rfl (.inl za5) (zcX (zbk zaj)))
 refine zab ?_ ?_
 ·exact (zmD PassesOwn.leaving rfl nd rfl (.inl zaV) rfl (T.blt "reversed" (by decide +kernel)) (zac (se_v rfl (zdw)) zaj zai) (zab (zbb (zlf (se_v rfl (zaV)) rfl m_NEEDS.1 m_NEEDS.2) (zab (zjA (SX.se XP (zhx x_take_needed hr rfl (zac (se_v rfl (zaV)) (zac (se_v rfl (za5)) zaj zai) zai) (cnt_cons (cnt_cons cnt_nil))))) (zab (zcm (se_v rfl (za5)) (zb2 zbt zb3 (ziK (se_v rfl (zaV)) rfl m_NEEDS.1 m_NEEDS.2) (se_i zaf))) zae)) (zab (zbb (zc9 (zbc a_is_leaf hr rfl (zac (se_v rfl (zaV)) (zac (se_v rfl (zc4)) zaj zai) zai) (cnt_cons (cnt_cons cnt_nil)))) (zab (zcm (se_v rfl (za5)) (se_s zah)) zae) (zab (zf4 XF rfl T.xm_NoExpr T.xc_NoExpr T.xn_NoExpr T.xk_NoExpr rfl (zlx (znN (se_v rfl (zaV)) (zlu zk2)))) zae)) zae)) zae))
 refine zab ?_ ?_
 ·exact (zbb (zat (zaJ hu .ne) zao (se_v rfl (za5)) (SN.sem (zbk (zac (se_v rfl (zdo)) zaj zai)) lst_is)) (zab (zf4 XF rfl T.xm_NoExpr T.xc_NoExpr T.xn_NoExpr T.xk_NoExpr rfl (se_s zah)) zae) zae)
 exact zae
abbrev zaW : Stmt := top 18
theorem ze9 : FnScope ["word", "left", "right"] ["word", "left", "right"] (zaa zaW) := ⟨rfl, rfl, rfl, by decide +kernel, rfl, by decide +kernel, by decide +kernel⟩
theorem zaS : (zaa zaW).names.lookup ("word" : Str) = some .local := by kernel_rfl
theorem zaI : (zaa zaW).names.lookup ("left" : Str) = some .local := by kernel_rfl
theorem zaB : (zaa zaW).names.lookup ("right" : Str) = some .local := by kernel_rfl
def zdf : S := (sSeq (sIf (s2 (oCmp .eq) (sVar 0) (sCon (.str "+"))) (sSeq (sRet (s2 oAdd (sVar 1) (sVar 2))) sEnd) sEnd) (sSeq (sIf (s2 (oCmp .eq) (sVar 0) (sCon (.str "-"))) (sSeq (sRet (s2 oSub (sVar 1) (sVar 2))) sEnd) sEnd) (sSeq (sIf (s2 (oCmp .eq) (sVar 0) (sCon (.str "*"))) (sSeq (sRet (s2 oMul (sVar 1) (sVar 2))) sEnd) sEnd) (sSeq (sIf (s2 (oCmp .eq) (sVar 0) (sCon (.str "least"))) (sSeq (sRet (sN bMin (zag (sVar 1) (zag (sVar 2) sNil)))) sEnd) sEnd) (sSeq (sIf (s2 (oCmp .eq) (sVar 0) (sCon (.str "most"))) (sSeq (sRet (sN bMax (zag (sVar 1) (zag (sVar 2) sNil)))) sEnd) sEnd) (sSeq (sIf (s2 (oCmp .eq) (sVar 0) (sCon (.str "<"))) (sSeq (sRet (s2 (oCmp .lt) (sVar 1) (sVar 2))) sEnd) sEnd) (sSeq (sIf (s2 (oCmp .eq) (sVar 0) (sCon (.str "="))) (sSeq (sRet (s2 (oCmp .eq) (sVar 1) (sVar 2))) sEnd) sEnd) (sSeq (sIf (s2 (oCmp .eq) (sVar 0) (sCon (.str "and"))) (sSeq (sRet (sAnd (sVar 1) (sVar 2))) sEnd) sEnd) (sSeq (sRet (sOr (sVar 1) (sVar 2))) sEnd)))))))))
def zcQ : G := fnG 3 zdf
theorem ziG {P : Program} {w : World} {K : PySem.W.Frag} {mg : Str → Option Value} {C : Ad} {base : Heap} {k : Nat} {f : Addr} (T : Txt K mg C w) (cdv : Value) (A : Around) (outer : List PySem.Env) (s : Shared) (H : Hp) (E : XK) (hr : Room k (A.deeper (envOfC "combined" (zaa zaW) s.heap.objs.size f cdv))) :
  SB (cx0 P w K mg base ["word", "left", "right"] "combined" zaW f cdv A outer s H E) W0 (zal zaW) zdf := by
 have hu : (cx0 P w K mg base ["word", "left", "right"] "combined" zaW f cdv A outer s H E).A.units + 60 < cLine := Nat.lt_of_le_of_lt (Nat.add_le_add_left (by decide) _) hr.units
 have nd := (ze9).nd
 refine zab ?_ ?_
 ·exact (zbb (zat (zaJ hu .eq) zao (se_v rfl (zaS)) (se_s zah)) (zab (zau (zam zaK za8 (se_v rfl (zaI)) (se_v rfl (zaB)))) zae) zae)
 refine zab ?_ ?_
 ·exact (zbb (zat (zaJ hu .eq) zao (se_v rfl (zaS)) (se_s zah)) (zab (zau (zam zdV zd9 (se_v rfl (zaI)) (se_v rfl (zaB)))) zae) zae)
 refine zab ?_ ?_
 ·exact (zbb (zat (zaJ hu .eq) zao (se_v rfl (zaS)) (se_s zah)) (zab (zau (zam zbI zcl (se_v rfl (zaI)) (se_v rfl (zaB)))) zae) zae)
 refine zab ?_ ?_
 ·exact (zbb (zat (zaJ hu .eq) zao (se_v rfl (zaS)) (se_s zah)) (zab (zau (zc2 (fun t ha => zbf (ze8 rfl) rfl (T.blt "min" (by decide +kernel)) boot_min ha (by decide +kernel) (by decide +kernel)) zj6 (zac (se_v rfl (zaI)) (zac (se_v rfl (zaB)) zaj zai) zai))) zae) zae)
 refine zab ?_ ?_
 ·exact (zbb (zat (zaJ hu .eq) zao (se_v rfl (zaS)) (se_s zah)) (zab (zau (zc2 (fun t ha => zbf (zgP rfl) rfl (T.blt "max" (by decide +kernel)) boot_max ha (by decide +kernel) (by decide +kernel)) zlb (zac (se_v rfl (zaI)) (zac (se_v rfl (zaB)) zaj zai) zai))) zae) zae)
 refine zab ?_ ?_
 ·exact (zbb (zat (zaJ hu .eq) zao (se_v rfl (zaS)) (se_s zah)) (zab (zau (zc5 (zaJ hu .lt) zao (se_v rfl (zaI)) (se_v rfl (zaB)))) zae) zae)
 refine zab ?_ ?_
 ·exact (zbb (zat (zaJ hu .eq) zao (se_v rfl (zaS)) (se_s zah)) (zab (zau (zc5 (zaJ hu .eq) zao (se_v rfl (zaI)) (se_v rfl (zaB)))) zae) zae)
 refine zab ?_ ?_
 ·exact (zbb (zat (zaJ hu .eq) zao (se_v rfl (zaS)) (se_s zah)) (zab (zau (zg1 (se_v rfl (zaI)) (zdZ (se_v rfl (zaB))))) zae) zae)
 refine zab ?_ ?_
 ·exact (zau (zkl (se_v rfl (zaI)) (zdZ (se_v rfl (zaB)))))
 exact zae
abbrev zav : Stmt := top 19
theorem zdX : FnScope ["word", "time", "value", "other"] ["word", "time", "value", "other"] (zaa zav) := ⟨rfl, rfl, rfl, by decide +kernel, rfl, by decide +kernel, by decide +kernel⟩
theorem zbC : (zaa zav).names.lookup ("word" : Str) = some .local := by kernel_rfl
theorem zea : (zaa zav).names.lookup ("time" : Str) = some .local := by kernel_rfl
theorem zd0 : (zaa zav).names.lookup ("value" : Str) = some .local := by kernel_rfl
theorem zdO : (zaa zav).names.lookup ("other" : Str) = some .local := by kernel_rfl
def zcD : S := (sSeq (sIf (s2 (oCmp .eq) (sVar 0) (sCon (.str "t"))) (sSeq (sRet (sVar 1)) sEnd) sEnd) (sSeq (sIf (s2 (oCmp .eq) (sVar 0) (sCon (.str "v"))) (sSeq (sRet (sVar 2)) sEnd) sEnd) (sSeq (sIf (s2 (oCmp .eq) (sVar 0) (sCon (.str "w"))) (sSeq (sRet (sVar 3)) sEnd) sEnd) (sSeq (sRet (sN bInt (zag (sVar 0) sNil))) sEnd))))
def zbW : G := fnG 4 zcD
theorem zgR {P : Program} {w : World} {K : PySem.W.Frag} {mg : Str → Option Value} {C : Ad} {base : Heap} {k : Nat} {f : Addr} (T : Txt K mg C w) (cdv : Value) (A : Around) (outer : List PySem.Env) (s : Shared) (H : Hp) (E : XK) (hr : Room k (A.deeper (envOfC "leaf_value" (zaa zav) s.heap.objs.size f cdv))) :
  SB (cx0 P w K mg base ["word", "time", "value", "other"] "leaf_value" zav f cdv A outer s H E) W0 (zal zav) zcD := by
 have hu : (cx0 P w K mg base ["word", "time", "value", "other"] "leaf_value" zav f cdv A outer s H E).A.units + 60 < cLine := Nat.lt_of_le_of_lt (Nat.add_le_add_left (by decide) _) hr.units
 have nd := (zdX).nd
 refine zab ?_ ?_
 ·exact (zbb (zat (zaJ hu .eq) zao (se_v rfl (zbC)) (se_s zah)) (zab (zau (se_v rfl (zea))) zae) zae)
 refine zab ?_ ?_
 ·exact (zbb (zat (zaJ hu .eq) zao (se_v rfl (zbC)) (se_s zah)) (zab (zau (se_v rfl (zd0))) zae) zae)
 refine zab ?_ ?_
 ·exact (zbb (zat (zaJ hu .eq) zao (se_v rfl (zbC)) (se_s zah)) (zab (zau (se_v rfl (zdO))) zae) zae)
 refine zab ?_ ?_
 ·exact (zau (zc2 (fun t ha => zcN zep rfl (T.blt "int" (by decide +kernel)) boot_int ha (by decide +kernel) (by decide +kernel)) zlq (zac (se_v rfl (zbC)) zaj zai)))
 exact zae
abbrev zax : Stmt := top 20
theorem zfl : FnScope ["words", "time", "value", "other", "results", "word", "left", "right"] ["words", "time", "value", "other"] (zaa zax) := ⟨rfl, rfl, rfl, by decide +kernel, rfl, by decide +kernel, by decide +kernel⟩
theorem zeH : (zaa zax).names.lookup ("words" : Str) = some .local := by kernel_rfl
theorem ze6 : (zaa zax).names.lookup ("time" : Str) = some .local := by kernel_rfl
theorem zeF : (zaa zax).names.lookup ("value" : Str) = some .local := by kernel_rfl
theorem zeK : (zaa zax).names.lookup ("other" : Str) = some .local := by kernel_rfl
theorem zay : (zaa zax).names.lookup ("results" : Str) = some .local := by kernel_rfl
theorem zbz : (zaa zax).names.lookup ("word" : Str) = some .local := by kernel_rfl
theorem zdc : (zaa zax).names.lookup ("left" : Str) = some .local := by kernel_rfl
theorem zc0 : (zaa zax).names.lookup ("right" : Str) = some .local := by kernel_rfl
def zbX : S := (sSeq (sIf (s2 (oCmp .eq) (sVar 5) (sCon (.str "not"))) (sSeq (zdD (sVar 4) (zis (sPop (sVar 4)))) sEnd) (sSeq (sIf (sKIn true zcu (sVar 5)) (sSeq (sAsg 6 (sPop (sVar 4))) (sSeq (sAsg 7 (sPop (sVar 4))) (sSeq (zdD (sVar 4) (zb5 zcQ (zag (sVar 5) (zag (sVar 6) (zag (sVar 7) sNil))))) sEnd))) (sSeq (zdD (sVar 4) (zb5 zbW (zag (sVar 5) (zag (sVar 1) (zag (sVar 2) (zag (sVar 3) sNil)))))) sEnd)) sEnd)) sEnd)
def zdi : S := (sSeq (sAsg 4 (zeg (sLst sNil))) (sSeq (sFor 5 (iRvT (zag (sVar 0) sNil)) zbX) (sSeq (sRet (s2 oIx (sVar 4) (sCon (.int 0)))) sEnd)))
def zcj : G := fnG 8 zdi
theorem ziD {P : Program} {w : World} {K : PySem.W.Frag} {mg : Str → Option Value} {C : Ad} {base : Heap} {k : Nat} {f : Addr} (T : Txt K mg C w) (a_combined : AtG P w K mg base k "combined" 3 zcQ) (a_leaf_value : AtG P w K mg base k "leaf_value" 4 zbW) (cdv : Value) (A : Around) (outer : List PySem.Env) (s : Shared) (H : Hp) (E : XK) (hr : Room k (A.deeper (envOfC "reckoned" (zaa zax) s.heap.objs.size f cdv))) :
  SB (cx0 P w K mg base ["words", "time", "value", "other", "results", "word", "left", "right"] "reckoned" zax f cdv A outer s H E) W0 (zal zax) zdi := by
 have hu : (cx0 P w K mg base ["words", "time", "value", "other", "results", "word", "left", "right"] "reckoned" zax f cdv A outer s H E).A.units + 60 < cLine := Nat.lt_of_le_of_lt (Nat.add_le_add_left (by decide) _) hr.units
 have nd := (zfl).nd
 obtain ⟨t_NEEDS, m_NEEDS⟩ := T.k_NEEDS
 refine zab ?_ ?_
 ·exact (zaE (i := 4) nd rfl (.inl zay) (zcX (zbk zaj)))
 refine zab ?_ ?_
 ·exact (zfQ PassesOwn.never rfl nd rfl (.inl zbz) (si_rvT rfl (T.blt "reversed" (by decide +kernel)) (zac (se_v rfl (zeH)) zaj zai)) (zab (zbb (zat (zaJ hu .eq) zao (se_v rfl (zbz)) (se_s zah)) (zab (zcm (se_v rfl (zay)) (zjO (zeC (se_v rfl (zay))))) zae) (zab (zbb (zlf (se_v rfl (zbz)) rfl m_NEEDS.1 m_NEEDS.2) (zab (zaE (i := 6) nd rfl (.inl zdc) (zeC (se_v rfl (zay)))) (zab (zaE (i := 7) nd rfl (.inl zc0) (zeC (se_v rfl (zay)))) (zab (zcm (se_v rfl (zay)) (zbc a_combined hr rfl (zac (se_v rfl (zbz)) (zac (se_v rfl (zdc)) (zac (se_v rfl (zc0)) zaj zai) zai) zai) (cnt_cons (cnt_cons (cnt_cons cnt_nil))))) zae))) (zab (zcm (se_v rfl (zay)) (zbc a_leaf_value hr rfl (zac (se_v rfl (zbz)) (zac (se_v rfl (ze6)) (zac (se_v rfl (zeF)) (zac (se_v rfl (zeK)) zaj zai) zai) zai) zai) (cnt_cons (cnt_cons (cnt_cons (cnt_cons cnt_nil)))))) zae)) zae)) zae))
 refine zab ?_ ?_
 ·exact (zau (zb2 zbt zb3 (se_v rfl (zay)) (se_i zaf)))
 exact zae
abbrev zaq : Stmt := zmV (top 21) 0
theorem zc1 : FnScope ["self", "words"] ["self", "words"] (zaa zaq) := ⟨rfl, rfl, rfl, by decide +kernel, rfl, by decide +kernel, by decide +kernel⟩
theorem zdp : (zaa zaq).names.lookup ("self" : Str) = some .local := by kernel_rfl
theorem zc8 : (zaa zaq).names.lookup ("words" : Str) = some .local := by kernel_rfl
def zbM : S := (sSeq (zjN "Cond" "parts" (sVar 0) (sN bTup (zag (sVar 1) sNil))) sEnd)
def zbx : G := fnG 2 zbM
theorem zeZ {P : Program} {w : World} {K : PySem.W.Frag} {mg : Str → Option Value} {C : Ad} {base : Heap} {k : Nat} {f : Addr} (T : Txt K mg C w) (cdv : Value) (A : Around) (outer : List PySem.Env) (s : Shared) (H : Hp) (E : XK) (hr : Room k (A.deeper (envOfC "Cond.__init__" (zaa zaq) s.heap.objs.size f cdv))) :
  SB (cx0 P w K mg base ["self", "words"] "Cond.__init__" zaq f cdv A outer s H E) W0 (zal zaq) zbM := by
 have hu : (cx0 P w K mg base ["self", "words"] "Cond.__init__" zaq f cdv A outer s H E).A.units + 60 < cLine := Nat.lt_of_le_of_lt (Nat.add_le_add_left (by decide) _) hr.units
 have nd := (zc1).nd
 refine zab ?_ ?_
 ·exact (zmh T.cl_Cond T.na_Cond_parts (se_v rfl (zdp)) (zc2 (fun t ha => zcN zga rfl (T.blt "tuple" (by decide +kernel)) boot_tuple ha (by decide +kernel) (by decide +kernel)) zow (zac (se_v rfl (zc8)) zaj zai)))
 exact zae
abbrev zaF : Stmt := top 22
theorem zeq : FnScope ["words"] ["words"] (zaa zaF) := ⟨rfl, rfl, rfl, by decide +kernel, rfl, by decide +kernel, by decide +kernel⟩
theorem zcS : (zaa zaF).names.lookup ("words" : Str) = some .local := by kernel_rfl
def zct : S := (sSeq (zg6 (zfn zbE (zag (sVar 0) (zag (sCon (.str "tv")) (zag (sCon (.str "truth")) sNil))))) (sSeq (sRet (zjo "Cond" zbx (zag (sVar 0) sNil))) sEnd))
def zbs : G := fnG 1 zct
theorem zhv {P : Program} {w : World} {K : PySem.W.Frag} {mg : Str → Option Value} {C : Ad} {base : Heap} {k k0 : Nat} {f : Addr} (T : Txt K mg C w) (hk0 : k0 + 1 = k) (a_Cond___init__ : AtI P w K mg base k0 C.Cond 2 zbx) (x_check_words : AtX P w K mg base k "check_words" 3 zbE) (cdv : Value) (A : Around) (outer : List PySem.Env) (s : Shared) (H : Hp) (E : XK) (Wx : XW) (hr : Room k (A.deeper (envOfC "read_cond" (zaa zaF) s.heap.objs.size f cdv))) (XF : XFit (cxX P w K mg base ["words"] "read_cond" zaF f cdv A outer s H E) Wx) (XP : XPass (cxX P w K mg base ["words"] "read_cond" zaF f cdv A outer s H E) Wx) :
  SB (cxX P w K mg base ["words"] "read_cond" zaF f cdv A outer s H E) Wx (zal zaF) zct := by
 have hu : (cxX P w K mg base ["words"] "read_cond" zaF f cdv A outer s H E).A.units + 60 < cLine := Nat.lt_of_le_of_lt (Nat.add_le_add_left (by decide) _) hr.units
 have hr1 : Room (k0 + 1) (cxX P w K mg base ["words"] "read_cond" zaF f cdv A outer s H E).A := by rw [hk0]; exact hr
 have nd := (zeq).nd
 obtain ⟨t_COND_LETTERS, m_COND_LETTERS⟩ := T.k_COND_LETTERS
 refine zab ?_ ?_
 ·exact (zjA (SX.se XP (zhx x_check_words hr rfl (zac (se_v rfl (zcS)) (zac (se_s (zdv (v := (.str "tv")) rfl m_COND_LETTERS ⟨t_COND_LETTERS, rfl⟩)) (zac (se_s zah) zaj zad) zai) zai) (cnt_cons (cnt_cons (cnt_cons cnt_nil))))))
 refine zab ?_ ?_
 ·exact (zau (zm8 T.cl_Cond a_Cond___init__ hr1 rfl (zac (se_v rfl (zcS)) zaj zai) (cnt_cons cnt_nil)))
 exact zae
abbrev zbg : Stmt := top 24
theorem zgT : FnScope ["_law_number", "_law_many", "_law_found", "_law_x", "_law_k"] ["_law_number", "_law_many"] (zaa zbg) := ⟨rfl, rfl, rfl, by decide +kernel, rfl, by decide +kernel, by decide +kernel⟩
theorem zeL : (zaa zbg).names.lookup ("_law_number" : Str) = some .local := by kernel_rfl
theorem zfx : (zaa zbg).names.lookup ("_law_many" : Str) = some .local := by kernel_rfl
theorem zcr : (zaa zbg).names.lookup ("_law_found" : Str) = some .local := by kernel_rfl
theorem zbQ : (zaa zbg).names.lookup ("_law_x" : Str) = some .local := by kernel_rfl
theorem ze3 : (zaa zbg).names.lookup ("_law_k" : Str) = some .local := by kernel_rfl
def zde : S := (sSeq (sAsg 3 (s2 oMod (s2 oAdd (s2 oAdd (s2 oAdd (s2 oMul (sVar 3) (sVar 3)) (s2 oMul (sCon (.int 40692)) (sVar 3))) (s2 oMul (sCon (.int 2)) (sVar 4))) (sCon (.int 1))) (sCon (.int 2147483629)))) (sSeq (sApp 2 (s2 zdR (sVar 3) (sCon (.int 3)))) sEnd))
def zeP : S := (sSeq (zhm 2 (sLst sNil)) (sSeq (sAsg 3 (s2 oMod (sVar 0) (sCon (.int 2147483629)))) (sSeq (sFor 4 (zfw (zag (sVar 1) sNil)) zde) (sSeq (sFrz 2) (sSeq (sRet (sVar 2)) sEnd)))))
def zdh : G := fnG 5 zeP
theorem zkF {P : Program} {w : World} {K : PySem.W.Frag} {mg : Str → Option Value} {C : Ad} {base : Heap} {k : Nat} {f : Addr} (T : Txt K mg C w) (cdv : Value) (A : Around) (outer : List PySem.Env) (s : Shared) (H : Hp) (E : XK) (hr : Room k (A.deeper (envOfC "_law_drawn" (zaa zbg) s.heap.objs.size f cdv))) :
  SB (cx0 P w K mg base ["_law_number", "_law_many", "_law_found", "_law_x", "_law_k"] "_law_drawn" zbg f cdv A outer s H E) W0 (zal zbg) zeP := by
 have hu : (cx0 P w K mg base ["_law_number", "_law_many", "_law_found", "_law_x", "_law_k"] "_law_drawn" zbg f cdv A outer s H E).A.units + 60 < cLine := Nat.lt_of_le_of_lt (Nat.add_le_add_left (by decide) _) hr.units
 have nd := (zgT).nd
 refine zab ?_ ?_
 ·exact (zhK (i := 2) nd rfl (.inl zcr) (zbk zaj))
 refine zab ?_ ?_
 ·exact (zaE (i := 3) nd rfl (.inl zbQ) (zam zbe zbd (se_v rfl (zeL)) (se_i zaf)))
 refine zab ?_ ?_
 ·exact (zfQ PassesOwn.never rfl nd rfl (.inl ze3) (zgn rfl (T.blt "range" (by decide +kernel)) (zac (se_v rfl (zfx)) zaj zai)) (zab (zaE (i := 3) nd rfl (.inl zbQ) (zam zbe zbd (zam zaK za8 (zam zaK za8 (zam zaK za8 (zam zbI zcl (se_v rfl (zbQ)) (se_v rfl (zbQ))) (zam zbI zcl (se_i zaf) (se_v rfl (zbQ)))) (zam zbI zcl (se_i zaf) (se_v rfl (ze3)))) (se_i zaf)) (se_i zaf))) (zab (zet rfl (.inl zcr) (zam zb6 zb4 (se_v rfl (zbQ)) (se_i zaf))) zae)))
 refine zjV ?_
 refine zab ?_ ?_
 ·exact (zau (se_v rfl (zcr)))
 exact zae
abbrev zbP : Stmt := top 25
theorem zh9 : FnScope ["_law_x", "_law_letters", "_law_number"] ["_law_x", "_law_letters"] (zaa zbP) := ⟨rfl, rfl, rfl, by decide +kernel, rfl, by decide +kernel, by decide +kernel⟩
theorem zcR : (zaa zbP).names.lookup ("_law_x" : Str) = some .local := by kernel_rfl
theorem zb7 : (zaa zbP).names.lookup ("_law_letters" : Str) = some .local := by kernel_rfl
theorem zbO : (zaa zbP).names.lookup ("_law_number" : Str) = some .local := by kernel_rfl
def zgA : S := (sSeq (sRet (sN bStr (zag (sVar 2) sNil))) sEnd)
def zd8 : S := (sSeq (sIf (sAnd (s2 (oCmp .eq) (s2 oMod (s2 zdR (sVar 0) (sCon (.int 2))) (sCon (.int 2))) (sCon (.int 1))) (s2 (oCmp .gt) (sVar 2) (sCon (.int 0)))) (sSeq (sRet (s2 oAdd (sCon (.str "-")) (sN bStr (zag (sVar 2) sNil)))) sEnd) sEnd) zgA)
def zha : S := (sSeq (sAsg 2 (s2 oMod (s2 oMul (s2 oMul (s2 oMul (sVar 0) (sCon (.int 1000003))) (sCon (.int 104729))) (sCon (.int 7919))) (s2 oIx (sLst (zag (sCon (.int 10)) (zag (sCon (.int 100)) (zag (s2 oPow (sCon (.int 10)) (sCon (.int 6))) (zag (s2 oPow (sCon (.int 10)) (sCon (.int 12))) (zag (s2 oPow (sCon (.int 10)) (sCon (.int 20))) sNil)))))) (s2 oMod (s2 zdR (sVar 0) (sCon (.int 9))) (sCon (.int 5)))))) zd8)
def zfm : S := (sSeq (sIf (sAnd (s2 (oCmp .gt) (s2 oMod (sVar 0) (sCon (.int 3))) (sCon (.int 0))) (s2 (oCmp .ne) (sVar 1) (sCon (.str "")))) (sSeq (sRet (s2 oIx (sVar 1) (s2 oMod (s2 zdR (sVar 0) (sCon (.int 3))) (sN bLen (zag (sVar 1) sNil))))) sEnd) sEnd) zha)
def zcU : G := fnG 3 zfm
theorem zm5 {P : Program} {w : World} {K : PySem.W.Frag} {mg : Str → Option Value} {C : Ad} {base : Heap} {k : Nat} {f : Addr} (T : Txt K mg C w) (cdv : Value) (A : Around) (outer : List PySem.Env) (s : Shared) (H : Hp) (E : XK) (hr : Room k (A.deeper (envOfC "_law_leaf" (zaa zbP) s.heap.objs.size f cdv))) :
  SB (cx0 P w K mg base ["_law_x", "_law_letters", "_law_number"] "_law_leaf" zbP f cdv A outer s H E) W0 (zal zbP) zfm := by
 have hu : (cx0 P w K mg base ["_law_x", "_law_letters", "_law_number"] "_law_leaf" zbP f cdv A outer s H E).A.units + 60 < cLine := Nat.lt_of_le_of_lt (Nat.add_le_add_left (by decide) _) hr.units
 have nd := (zh9).nd
 refine zab ?_ ?_
 ·exact (zbb (SW.st (zes (zat (zaJ hu .gt) zao (zam zbe zbd (se_v rfl (zcR)) (se_i zaf)) (se_i zaf)) (zei (zat (zaJ hu .ne) zao (se_v rfl (zb7)) (se_s zah))))) (zab (zau (zb2 zbt zb3 (se_v rfl (zb7)) (zam zbe zbd (zam zb6 zb4 (se_v rfl (zcR)) (se_i zaf)) (zc2 (fun t ha => zbf zcp rfl (T.blt "len" (by decide +kernel)) PySem.boot_len ha (by decide +kernel) (by decide +kernel)) zeR (zac (se_v rfl (zb7)) zaj zai))))) zae) zae)
 refine zab ?_ ?_
 ·exact (zaE (i := 2) nd rfl (.inl zbO) (zam zbe zbd (zam zbI zcl (zam zbI zcl (zam zbI zcl (se_v rfl (zcR)) (se_i zaf)) (se_i zaf)) (se_i zaf)) (zb2 zbt zb3 (SN.sem (zbk (zac (se_i zaf) (zac (se_i zaf) (zac (zam zfJ zfB (se_i zaf) (se_i zaf)) (zac (zam zfJ zfB (se_i zaf) (se_i zaf)) (zac (zam zfJ zfB (se_i zaf) (se_i zaf)) zaj zcd) zcd) zcd) zad) zad)) lst_is) (zam zbe zbd (zam zb6 zb4 (se_v rfl (zcR)) (se_i zaf)) (se_i zaf)))))
 refine zab ?_ ?_
 ·exact (zbb (SW.st (zes (zat (zaJ hu .eq) zao (zam zbe zbd (zam zb6 zb4 (se_v rfl (zcR)) (se_i zaf)) (se_i zaf)) (se_i zaf)) (zei (zat (zaJ hu .gt) zao (se_v rfl (zbO)) (se_i zaf))))) (zab (zau (zam zaK za8 (se_s zah) (zc2 (fun t ha => zcN zeu rfl (T.blt "str" (by decide +kernel)) boot_str ha (by decide +kernel) (by decide +kernel)) zlC (zac (se_v rfl (zbO)) zaj zai)))) zae) zae)
 refine zab ?_ ?_
 ·exact (zau (zc2 (fun t ha => zcN zeu rfl (T.blt "str" (by decide +kernel)) boot_str ha (by decide +kernel) (by decide +kernel)) zlC (zac (se_v rfl (zbO)) zaj zai)))
 exact zae
abbrev zbw : Stmt := top 26
theorem zic : FnScope ["_law_number", "_law_letters", "_law_most", "_law_words", "_law_need", "_law_x", "_law_pick"] ["_law_number", "_law_letters", "_law_most"] (zaa zbw) := ⟨rfl, rfl, rfl, by decide +kernel, rfl, by decide +kernel, by decide +kernel⟩
theorem zfs : (zaa zbw).names.lookup ("_law_number" : Str) = some .local := by kernel_rfl
theorem zeJ : (zaa zbw).names.lookup ("_law_letters" : Str) = some .local := by kernel_rfl
theorem zf8 : (zaa zbw).names.lookup ("_law_most" : Str) = some .local := by kernel_rfl
theorem zbv : (zaa zbw).names.lookup ("_law_words" : Str) = some .local := by kernel_rfl
theorem zbq : (zaa zbw).names.lookup ("_law_need" : Str) = some .local := by kernel_rfl
theorem zci : (zaa zbw).names.lookup ("_law_x" : Str) = some .local := by kernel_rfl
theorem zb9 : (zaa zbw).names.lookup ("_law_pick" : Str) = some .local := by kernel_rfl
def zeS : E := (s2 (oCmp .gt) (sVar 4) (sCon (.int 0)))
def zcM : S := (sSeq (sAsg 5 (s2 oMod (s2 oAdd (s2 oAdd (s2 oAdd (s2 oMul (sVar 5) (sVar 5)) (s2 oMul (sCon (.int 40692)) (sVar 5))) (sN bLen (zag (zgt 3) sNil))) (sCon (.int 1))) (sCon (.int 2147483629)))) (sSeq (sAsg 6 (s2 zdR (sVar 5) (sCon (.int 7)))) (sSeq (sIf (sAnd (s2 (oCmp .eq) (s2 oMod (sVar 6) (sCon (.int 2))) (sCon (.int 1))) (s2 (oCmp .le) (s2 oAdd (s2 oAdd (sN bLen (zag (zgt 3) sNil)) (sVar 4)) (sCon (.int 2))) (sVar 2))) (sSeq (sApp 3 (s2 oIx (sLst (zag (sCon (.str "+")) (zag (sCon (.str "-")) (zag (sCon (.str "*")) (zag (sCon (.str "least")) (zag (sCon (.str "most")) sNil)))))) (s2 oMod (s2 zdR (sVar 6) (sCon (.int 2))) (sCon (.int 5))))) (sSeq (sAsg 4 (s2 oAdd (sVar 4) (sCon (.int 1)))) sEnd)) (sSeq (sApp 3 (zb5 zcU (zag (s2 zdR (sVar 6) (sCon (.int 2))) (zag (sVar 1) sNil)))) (sSeq (sAsg 4 (s2 oSub (sVar 4) (sCon (.int 1)))) sEnd))) sEnd)))
def zgr : S := (sSeq (zhm 3 (sLst sNil)) (sSeq (sAsg 4 (sCon (.int 1))) (sSeq (sAsg 5 (s2 oMod (sVar 0) (sCon (.int 2147483629)))) (sSeq (zfN 1000 zeS zcM) (sSeq (sFrz 3) (sSeq (sRet (sVar 3)) sEnd))))))
def zft : G := fnG 7 zgr
theorem znm {P : Program} {w : World} {K : PySem.W.Frag} {mg : Str → Option Value} {C : Ad} {base : Heap} {k : Nat} {f : Addr} (T : Txt K mg C w) (a__leaf : AtG P w K mg base k "_law_leaf" 2 zcU) (cdv : Value) (A : Around) (outer : List PySem.Env) (s : Shared) (H : Hp) (E : XK) (hr : Room k (A.deeper (envOfC "_law_expr" (zaa zbw) s.heap.objs.size f cdv))) :
  SB (cx0 P w K mg base ["_law_number", "_law_letters", "_law_most", "_law_words", "_law_need", "_law_x", "_law_pick"] "_law_expr" zbw f cdv A outer s H E) W0 (zal zbw) zgr := by
 have hu : (cx0 P w K mg base ["_law_number", "_law_letters", "_law_most", "_law_words", "_law_need", "_law_x", "_law_pick"] "_law_expr" zbw f cdv A outer s H E).A.units + 60 < cLine := Nat.lt_of_le_of_lt (Nat.add_le_add_left (by decide) _) hr.units
 have nd := (zic).nd
 refine zab ?_ ?_
 ·exact (zhK (i := 3) nd rfl (.inl zbv) (zbk zaj))
 refine zab ?_ ?_
 ·exact (zaE (i := 4) nd rfl (.inl zbq) (se_i zaf))
 refine zab ?_ ?_
 ·exact (zaE (i := 5) nd rfl (.inl zci) (zam zbe zbd (se_v rfl (zfs)) (se_i zaf)))
 refine zab ?_ ?_
 ·exact (zii 1000 PassesOwn.never (zat (zaJ hu .gt) zao (se_v rfl (zbq)) (se_i zaf)) (zab (zaE (i := 5) nd rfl (.inl zci) (zam zbe zbd (zam zaK za8 (zam zaK za8 (zam zaK za8 (zam zbI zcl (se_v rfl (zci)) (se_v rfl (zci))) (zam zbI zcl (se_i zaf) (se_v rfl (zci)))) (zc2 (fun t ha => zbf zcp rfl (T.blt "len" (by decide +kernel)) PySem.boot_len ha (by decide +kernel) (by decide +kernel)) zeR (zac (zmX rfl (zbv)) zaj zai))) (se_i zaf)) (se_i zaf))) (zab (zaE (i := 6) nd rfl (.inl zb9) (zam zb6 zb4 (se_v rfl (zci)) (se_i zaf))) (zab (zbb (SW.st (zes (zat (zaJ hu .eq) zao (zam zbe zbd (se_v rfl (zb9)) (se_i zaf)) (se_i zaf)) (zei (zat (zaJ hu .le) zao (zam zaK za8 (zam zaK za8 (zc2 (fun t ha => zbf zcp rfl (T.blt "len" (by decide +kernel)) PySem.boot_len ha (by decide +kernel) (by decide +kernel)) zeR (zac (zmX rfl (zbv)) zaj zai)) (se_v rfl (zbq))) (se_i zaf)) (se_v rfl (zf8)))))) (zab (zet rfl (.inl zbv) (zb2 zbt zb3 (SN.sem (zbk (zac (se_s zah) (zac (se_s zah) (zac (se_s zah) (zac (se_s zah) (zac (se_s zah) zaj zad) zad) zad) zad) zad)) lst_is) (zam zbe zbd (zam zb6 zb4 (se_v rfl (zb9)) (se_i zaf)) (se_i zaf)))) (zab (zaE (i := 4) nd rfl (.inl zbq) (zam zaK za8 (se_v rfl (zbq)) (se_i zaf))) zae)) (zab (zet rfl (.inl zbv) (zbc a__leaf hr rfl (zac (zam zb6 zb4 (se_v rfl (zb9)) (se_i zaf)) (zac (se_v rfl (zeJ)) zaj zai) zcd) (cnt_cons (cnt_cons cnt_nil)))) (zab (zaE (i := 4) nd rfl (.inl zbq) (zam zdV zd9 (se_v rfl (zbq)) (se_i zaf))) zae))) zae))))
 refine zjV ?_
 refine zab ?_ ?_
 ·exact (zau (se_v rfl (zbv)))
 exact zae
abbrev zbo : Stmt := top 27
theorem zhX : FnScope ["_law_number", "_law_most", "_law_words", "_law_pending", "_law_room", "_law_x", "_law_pick", "_law_kind"] ["_law_number", "_law_most"] (zaa zbo) := ⟨rfl, rfl, rfl, by decide +kernel, rfl, by decide +kernel, by decide +kernel⟩
theorem zeW : (zaa zbo).names.lookup ("_law_number" : Str) = some .local := by kernel_rfl
theorem zgd : (zaa zbo).names.lookup ("_law_most" : Str) = some .local := by kernel_rfl
theorem za1 : (zaa zbo).names.lookup ("_law_words" : Str) = some .local := by kernel_rfl
theorem zaw : (zaa zbo).names.lookup ("_law_pending" : Str) = some .local := by kernel_rfl
theorem zaP : (zaa zbo).names.lookup ("_law_room" : Str) = some .local := by kernel_rfl
theorem zch : (zaa zbo).names.lookup ("_law_x" : Str) = some .local := by kernel_rfl
theorem za9 : (zaa zbo).names.lookup ("_law_pick" : Str) = some .local := by kernel_rfl
theorem zcc : (zaa zbo).names.lookup ("_law_kind" : Str) = some .local := by kernel_rfl
def zgw : S := (sSeq (sFrz 2) (sSeq (sRet (sVar 2)) sEnd))
def zbm : S := (sSeq (sIf (sAnd (s2 (oCmp .eq) (sVar 7) (sCon (.str "cond"))) (sAnd (s2 (oCmp .ge) (sVar 4) (sCon (.int 4))) (s2 (oCmp .eq) (s2 oMod (sVar 6) (sCon (.int 4))) (sCon (.int 1))))) (sSeq (sApp 2 (s2 oIx (sLst (zag (sCon (.str "and")) (zag (sCon (.str "or")) sNil))) (s2 oMod (s2 zdR (sVar 6) (sCon (.int 4))) (sCon (.int 2))))) (sSeq (sAsg 3 (zeg (s2 oCat (sVar 3) (sLst (zag (sCon (.str "cond")) (zag (sCon (.str "cond")) sNil)))))) (sSeq (sAsg 4 (s2 oSub (sVar 4) (sCon (.int 4)))) sEnd))) (sSeq (sIf (sAnd (s2 (oCmp .eq) (sVar 7) (sCon (.str "cond"))) (sAnd (s2 (oCmp .ge) (sVar 4) (sCon (.int 1))) (s2 (oCmp .eq) (s2 oMod (sVar 6) (sCon (.int 4))) (sCon (.int 2))))) (sSeq (sApp 2 (sCon (.str "not"))) (sSeq (zdD (sVar 3) (sCon (.str "cond"))) (sSeq (sAsg 4 (s2 oSub (sVar 4) (sCon (.int 1)))) sEnd))) (sSeq (sIf (s2 (oCmp .eq) (sVar 7) (sCon (.str "cond"))) (sSeq (sApp 2 (s2 oIx (sLst (zag (sCon (.str "<")) (zag (sCon (.str "=")) sNil))) (s2 oMod (s2 zdR (sVar 6) (sCon (.int 4))) (sCon (.int 2))))) (sSeq (sAsg 3 (zeg (s2 oCat (sVar 3) (sLst (zag (sCon (.str "expr")) (zag (sCon (.str "expr")) sNil)))))) sEnd)) (sSeq (sIf (sAnd (s2 (oCmp .ge) (sVar 4) (sCon (.int 2))) (s2 (oCmp .eq) (s2 oMod (sVar 6) (sCon (.int 3))) (sCon (.int 1)))) (sSeq (sApp 2 (s2 oIx (sLst (zag (sCon (.str "+")) (zag (sCon (.str "-")) (zag (sCon (.str "*")) (zag (sCon (.str "least")) (zag (sCon (.str "most")) sNil)))))) (s2 oMod (s2 zdR (sVar 6) (sCon (.int 3))) (sCon (.int 5))))) (sSeq (sAsg 3 (zeg (s2 oCat (sVar 3) (sLst (zag (sCon (.str "expr")) (zag (sCon (.str "expr")) sNil)))))) (sSeq (sAsg 4 (s2 oSub (sVar 4) (sCon (.int 2)))) sEnd))) (sSeq (sApp 2 (zb5 zcU (zag (s2 zdR (sVar 6) (sCon (.int 3))) (zag (sCon (.str "tv")) sNil)))) sEnd)) sEnd)) sEnd)) sEnd)) sEnd)
def zbJ : S := (sSeq (sAsg 7 (sPop (sVar 3))) zbm)
def zeE : S := (sSeq (sAsg 6 (s2 zdR (sVar 5) (sCon (.int 7)))) zbJ)
def zeX : E := (s2 (oCmp .ne) (sVar 3) (sLst sNil))
def zdb : S := (sSeq (sAsg 5 (s2 oMod (s2 oAdd (s2 oAdd (s2 oAdd (s2 oMul (sVar 5) (sVar 5)) (s2 oMul (sCon (.int 40692)) (sVar 5))) (sN bLen (zag (zgt 2) sNil))) (sCon (.int 1))) (sCon (.int 2147483629)))) zeE)
def zhf : S := (sSeq (zfN 1000 zeX zdb) zgw)
def zg0 : S := (sSeq (sAsg 5 (s2 oMod (sVar 0) (sCon (.int 2147483629)))) zhf)
def zgE : S := (sSeq (sAsg 4 (s2 oSub (sVar 1) (sCon (.int 3)))) zg0)
def zgV : S := (sSeq (sAsg 3 (zeg (sLst (zag (sCon (.str "cond")) sNil)))) zgE)
def zf1 : S := (sSeq (zhm 2 (sLst sNil)) zgV)
def zfu : G := fnG 8 zf1
theorem zlN {P : Program} {w : World} {K : PySem.W.Frag} {mg : Str → Option Value} {C : Ad} {base : Heap} {k : Nat} {f : Addr} (T : Txt K mg C w) (a__leaf : AtG P w K mg base k "_law_leaf" 2 zcU) (cdv : Value) (A : Around) (outer : List PySem.Env) (s : Shared) (H : Hp) (E : XK) (hr : Room k (A.deeper (envOfC "_law_cond" (zaa zbo) s.heap.objs.size f cdv))) :
    SB (cx0 P w K mg base ["_law_number", "_law_most", "_law_words", "_law_pending", "_law_room", "_law_x", "_law_pick", "_law_kind"] "_law_cond" zbo f cdv A outer s H E) W0 (zal zbo) zf1 := by
  have hu : (cx0 P w K mg base ["_law_number", "_law_most", "_law_words", "_law_pending", "_law_room", "_law_x", "_law_pick", "_law_kind"] "_law_cond" zbo f cdv A outer s H E).A.units + 60 < cLine := Nat.lt_of_le_of_lt (Nat.add_le_add_left (by decide) _) hr.units
  have nd := (zhX).nd
  refine zab ?_ ?_
  · refine zhK (i := 2) ?_ ?_ ?_ ?_
    · exact nd
    · exact rfl
    · exact (.inl za1)
    · refine zbk ?_
      · exact zaj
  refine zab ?_ ?_
  · refine zaE (i := 3) ?_ ?_ ?_ ?_
    · exact nd
    · exact rfl
    · exact (.inl zaw)
    · refine zcX ?_
      · refine zbk ?_
        · refine zac ?_ ?_ ?_
          · refine se_s ?_
            · exact zah
          · exact zaj
          · exact zad
  refine zab ?_ ?_
  · refine zaE (i := 4) ?_ ?_ ?_ ?_
    · exact nd
    · exact rfl
    · exact (.inl zaP)
    · refine zam zdV zd9 ?_ ?_
      · refine se_v ?_ ?_
        · exact rfl
        · exact zgd
      · refine se_i ?_
        · exact zaf
  refine zab ?_ ?_
  · refine zaE (i := 5) ?_ ?_ ?_ ?_
    · exact nd
    · exact rfl
    · exact (.inl zch)
    · refine zam zbe zbd ?_ ?_
      · refine se_v ?_ ?_
        · exact rfl
        · exact zeW
      · refine se_i ?_
        · exact zaf
  refine zab ?_ ?_
  · refine zii 1000 PassesOwn.never ?_ ?_
    · refine zat (zaJ hu .ne) zao ?_ ?_
      · refine se_v ?_ ?_
        · exact rfl
        · exact zaw
      · refine SN.sem ?_ ?_
        · refine zbk ?_
          · exact zaj
        · exact lst_is
    · refine zab ?_ ?_
      · refine zaE (i := 5) ?_ ?_ ?_ ?_
        · exact nd
        · exact rfl
        · exact (.inl zch)
        · refine zam zbe zbd ?_ ?_
          · refine zam zaK za8 ?_ ?_
            · refine zam zaK za8 ?_ ?_
              · refine zam zaK za8 ?_ ?_
                · refine zam zbI zcl ?_ ?_
                  · refine se_v ?_ ?_
                    · exact rfl
                    · exact zch
                  · refine se_v ?_ ?_
                    · exact rfl
                    · exact zch
                · refine zam zbI zcl ?_ ?_
                  · refine se_i ?_
                    · exact zaf
                  · refine se_v ?_ ?_
                    · exact rfl
                    · exact zch
              · refine zc2 (fun t ha => zbf zcp rfl (T.blt "len" (by decide +kernel)) PySem.boot_len ha (by decide +kernel) (by decide +kernel)) zeR ?_
                · refine zac ?_ ?_ ?_
                  · refine zmX ?_ ?_
                    · exact rfl
                    · exact za1
                  · exact zaj
                  · exact zai
            · refine se_i ?_
              · exact zaf
          · refine se_i ?_
            · exact zaf
      · refine zab ?_ ?_
        · refine zaE (i := 6) ?_ ?_ ?_ ?_
          · exact nd
          · exact rfl
          · exact (.inl za9)
          · refine zam zb6 zb4 ?_ ?_
            · refine se_v ?_ ?_
              · exact rfl
              · exact zch
            · refine se_i ?_
              · exact zaf
        · refine zab ?_ ?_
          · refine zaE (i := 7) ?_ ?_ ?_ ?_
            · exact nd
            · exact rfl
            · exact (.inl zcc)
            · refine zeC ?_
              · refine se_v ?_ ?_
                · exact rfl
                · exact zaw
          · refine zab ?_ ?_
            · refine zbb ?_ ?_ ?_
              · refine SW.st ?_
                · refine zes ?_ ?_
                  · refine zat (zaJ hu .eq) zao ?_ ?_
                    · refine se_v ?_ ?_
                      · exact rfl
                      · exact zcc
                    · refine se_s ?_
                      · exact zah
                  · refine zes ?_ ?_
                    · refine zat (zaJ hu .ge) zao ?_ ?_
                      · refine se_v ?_ ?_
                        · exact rfl
                        · exact zaP
                      · refine se_i ?_
                        · exact zaf
                    · refine zei ?_
                      · refine zat (zaJ hu .eq) zao ?_ ?_
                        · refine zam zbe zbd ?_ ?_
                          · refine se_v ?_ ?_
                            · exact rfl
                            · exact za9
                          · refine se_i ?_
                            · exact zaf
                        · refine se_i ?_
                          · exact zaf
              · refine zab ?_ ?_
                · refine zet ?_ ?_ ?_
                  · exact rfl
                  · exact (.inl za1)
                  · refine zb2 zbt zb3 ?_ ?_
                    · refine SN.sem ?_ ?_
                      · refine zbk ?_
                        · refine zac ?_ ?_ ?_
                          · refine se_s ?_
                            · exact zah
                          · refine zac ?_ ?_ ?_
                            · refine se_s ?_
                              · exact zah
                            · exact zaj
                            · exact zad
                          · exact zad
                      · exact lst_is
                    · refine zam zbe zbd ?_ ?_
                      · refine zam zb6 zb4 ?_ ?_
                        · refine se_v ?_ ?_
                          · exact rfl
                          · exact za9
                        · refine se_i ?_
                          · exact zaf
                      · refine se_i ?_
                        · exact zaf
                · refine zab ?_ ?_
                  · refine zaE (i := 3) ?_ ?_ ?_ ?_
                    · exact nd
                    · exact rfl
                    · exact (.inl zaw)
                    · refine zcX ?_
                      · refine zj5 ?_ ?_
                        · refine se_v ?_ ?_
                          · exact rfl
                          · exact zaw
                        · refine SN.sem ?_ ?_
                          · refine zbk ?_
                            · refine zac ?_ ?_ ?_
                              · refine se_s ?_
                                · exact zah
                              · refine zac ?_ ?_ ?_
                                · refine se_s ?_
                                  · exact zah
                                · exact zaj
                                · exact zad
                              · exact zad
                          · exact lst_is
                  · refine zab ?_ ?_
                    · refine zaE (i := 4) ?_ ?_ ?_ ?_
                      · exact nd
                      · exact rfl
                      · exact (.inl zaP)
                      · refine zam zdV zd9 ?_ ?_
                        · refine se_v ?_ ?_
                          · exact rfl
                          · exact zaP
                        · refine se_i ?_
                          · exact zaf
                    · exact zae
              · refine zab ?_ ?_
                · refine zbb ?_ ?_ ?_
                  · refine SW.st ?_
                    · refine zes ?_ ?_
                      · refine zat (zaJ hu .eq) zao ?_ ?_
                        · refine se_v ?_ ?_
                          · exact rfl
                          · exact zcc
                        · refine se_s ?_
                          · exact zah
                      · refine zes ?_ ?_
                        · refine zat (zaJ hu .ge) zao ?_ ?_
                          · refine se_v ?_ ?_
                            · exact rfl
                            · exact zaP
                          · refine se_i ?_
                            · exact zaf
                        · refine zei ?_
                          · refine zat (zaJ hu .eq) zao ?_ ?_
                            · refine zam zbe zbd ?_ ?_
                              · refine se_v ?_ ?_
                                · exact rfl
                                · exact za9
                              · refine se_i ?_
                                · exact zaf
                            · refine se_i ?_
                              · exact zaf
                  · refine zab ?_ ?_
                    · refine zet ?_ ?_ ?_
                      · exact rfl
                      · exact (.inl za1)
                      · refine se_s ?_
                        · exact zah
                    · refine zab ?_ ?_
                      · refine zcm ?_ ?_
                        · refine se_v ?_ ?_
                          · exact rfl
                          · exact zaw
                        · refine se_s ?_
                          · exact zah
                      · refine zab ?_ ?_
                        · refine zaE (i := 4) ?_ ?_ ?_ ?_
                          · exact nd
                          · exact rfl
                          · exact (.inl zaP)
                          · refine zam zdV zd9 ?_ ?_
                            · refine se_v ?_ ?_
                              · exact rfl
                              · exact zaP
                            · refine se_i ?_
                              · exact zaf
                        · exact zae
                  · refine zab ?_ ?_
                    · refine zbb ?_ ?_ ?_
                      · refine zat (zaJ hu .eq) zao ?_ ?_
                        · refine se_v ?_ ?_
                          · exact rfl
                          · exact zcc
                        · refine se_s ?_
                          · exact zah
                      · refine zab ?_ ?_
                        · refine zet ?_ ?_ ?_
                          · exact rfl
                          · exact (.inl za1)
                          · refine zb2 zbt zb3 ?_ ?_
                            · refine SN.sem ?_ ?_
                              · refine zbk ?_
                                · refine zac ?_ ?_ ?_
                                  · refine se_s ?_
                                    · exact zah
                                  · refine zac ?_ ?_ ?_
                                    · refine se_s ?_
                                      · exact zah
                                    · exact zaj
                                    · exact zad
                                  · exact zad
                              · exact lst_is
                            · refine zam zbe zbd ?_ ?_
                              · refine zam zb6 zb4 ?_ ?_
                                · refine se_v ?_ ?_
                                  · exact rfl
                                  · exact za9
                                · refine se_i ?_
                                  · exact zaf
                              · refine se_i ?_
                                · exact zaf
                        · refine zab ?_ ?_
                          · refine zaE (i := 3) ?_ ?_ ?_ ?_
                            · exact nd
                            · exact rfl
                            · exact (.inl zaw)
                            · refine zcX ?_
                              · refine zj5 ?_ ?_
                                · refine se_v ?_ ?_
                                  · exact rfl
                                  · exact zaw
                                · refine SN.sem ?_ ?_
                                  · refine zbk ?_
                                    · refine zac ?_ ?_ ?_
                                      · refine se_s ?_
                                        · exact zah
                                      · refine zac ?_ ?_ ?_
                                        · refine se_s ?_
                                          · exact zah
                                        · exact zaj
                                        · exact zad
                                      · exact zad
                                  · exact lst_is
                          · exact zae
                      · refine zab ?_ ?_
                        · refine zbb ?_ ?_ ?_
                          · refine SW.st ?_
                            · refine zes ?_ ?_
                              · refine zat (zaJ hu .ge) zao ?_ ?_
                                · refine se_v ?_ ?_
                                  · exact rfl
                                  · exact zaP
                                · refine se_i ?_
                                  · exact zaf
                              · refine zei ?_
                                · refine zat (zaJ hu .eq) zao ?_ ?_
                                  · refine zam zbe zbd ?_ ?_
                                    · refine se_v ?_ ?_
                                      · exact rfl
                                      · exact za9
                                    · refine se_i ?_
                                      · exact zaf
                                  · refine se_i ?_
                                    · exact zaf
                          · refine zab ?_ ?_
                            · refine zet ?_ ?_ ?_
                              · exact rfl
                              · exact (.inl za1)
                              · refine zb2 zbt zb3 ?_ ?_
                                · refine SN.sem ?_ ?_
                                  · refine zbk ?_
                                    · refine zac ?_ ?_ ?_
                                      · refine se_s ?_
                                        · exact zah
                                      · refine zac ?_ ?_ ?_
                                        · refine se_s ?_
                                          · exact zah
                                        · refine zac ?_ ?_ ?_
                                          · refine se_s ?_
                                            · exact zah
                                          · refine zac ?_ ?_ ?_
                                            · refine se_s ?_
                                              · exact zah
                                            · refine zac ?_ ?_ ?_
                                              · refine se_s ?_
                                                · exact zah
                                              · exact zaj
                                              · exact zad
                                            · exact zad
                                          · exact zad
                                        · exact zad
                                      · exact zad
                                  · exact lst_is
                                · refine zam zbe zbd ?_ ?_
                                  · refine zam zb6 zb4 ?_ ?_
                                    · refine se_v ?_ ?_
                                      · exact rfl
                                      · exact za9
                                    · refine se_i ?_
                                      · exact zaf
                                  · refine se_i ?_
                                    · exact zaf
                            · refine zab ?_ ?_
                              · refine zaE (i := 3) ?_ ?_ ?_ ?_
                                · exact nd
                                · exact rfl
                                · exact (.inl zaw)
                                · refine zcX ?_
                                  · refine zj5 ?_ ?_
                                    · refine se_v ?_ ?_
                                      · exact rfl
                                      · exact zaw
                                    · refine SN.sem ?_ ?_
                                      · refine zbk ?_
                                        · refine zac ?_ ?_ ?_
                                          · refine se_s ?_
                                            · exact zah
                                          · refine zac ?_ ?_ ?_
                                            · refine se_s ?_
                                              · exact zah
                                            · exact zaj
                                            · exact zad
                                          · exact zad
                                      · exact lst_is
                              · refine zab ?_ ?_
                                · refine zaE (i := 4) ?_ ?_ ?_ ?_
                                  · exact nd
                                  · exact rfl
                                  · exact (.inl zaP)
                                  · refine zam zdV zd9 ?_ ?_
                                    · refine se_v ?_ ?_
                                      · exact rfl
                                      · exact zaP
                                    · refine se_i ?_
                                      · exact zaf
                                · exact zae
                          · refine zab ?_ ?_
                            · refine zet ?_ ?_ ?_
                              · exact rfl
                              · exact (.inl za1)
                              · refine zbc a__leaf hr rfl ?_ ?_
                                · refine zac ?_ ?_ ?_
                                  · refine zam zb6 zb4 ?_ ?_
                                    · refine se_v ?_ ?_
                                      · exact rfl
                                      · exact za9
                                    · refine se_i ?_
                                      · exact zaf
                                  · refine zac ?_ ?_ ?_
                                    · refine se_s ?_
                                      · exact zah
                                    · exact zaj
                                    · exact zad
                                  · exact zcd
                                · refine cnt_cons ?_
                                  · refine cnt_cons ?_
                                    · exact cnt_nil
                            · exact zae
                        · exact zae
                    · exact zae
                · exact zae
            · exact zae
  refine zjV ?_
  refine zab ?_ ?_
  · refine zau ?_
    · refine se_v ?_ ?_
      · exact rfl
      · exact za1
  exact zae
abbrev zcC : Stmt := top 28
theorem ziQ : FnScope ["_law_word", "_law_one", "_law_two_here"] ["_law_word", "_law_one", "_law_two_here"] (zaa zcC) := ⟨rfl, rfl, rfl, by decide +kernel, rfl, by decide +kernel, by decide +kernel⟩
theorem zbl : (zaa zcC).names.lookup ("_law_word" : Str) = some .local := by kernel_rfl
theorem zbp : (zaa zcC).names.lookup ("_law_one" : Str) = some .local := by kernel_rfl
theorem zaD : (zaa zcC).names.lookup ("_law_two_here" : Str) = some .local := by kernel_rfl
def zh4 : S := (sSeq (sIf (s2 (oCmp .eq) (sVar 0) (sCon (.str "+"))) (sSeq (sRet (s2 oAdd (sVar 1) (sVar 2))) sEnd) sEnd) (sSeq (sIf (s2 (oCmp .eq) (sVar 0) (sCon (.str "-"))) (sSeq (sRet (s2 oSub (sVar 1) (sVar 2))) sEnd) sEnd) (sSeq (sIf (s2 (oCmp .eq) (sVar 0) (sCon (.str "*"))) (sSeq (sRet (s2 oMul (sVar 1) (sVar 2))) sEnd) sEnd) (sSeq (sIf (s2 (oCmp .eq) (sVar 0) (sCon (.str "least"))) (sSeq (sRet (sN bMin (zag (sVar 1) (zag (sVar 2) sNil)))) sEnd) sEnd) (sSeq (sIf (s2 (oCmp .eq) (sVar 0) (sCon (.str "most"))) (sSeq (sRet (sN bMax (zag (sVar 1) (zag (sVar 2) sNil)))) sEnd) sEnd) (sSeq (sIf (s2 (oCmp .eq) (sVar 0) (sCon (.str "and"))) (sSeq (sRet (sAnd (sVar 1) (sVar 2))) sEnd) sEnd) (sSeq (sIf (s2 (oCmp .eq) (sVar 0) (sCon (.str "or"))) (sSeq (sRet (sOr (sVar 1) (sVar 2))) sEnd) sEnd) (sSeq (sIf (s2 (oCmp .eq) (sVar 0) (sCon (.str "<"))) (sSeq (sRet (s2 (oCmp .lt) (sVar 1) (sVar 2))) sEnd) sEnd) (sSeq (sRet (s2 (oCmp .eq) (sVar 1) (sVar 2))) sEnd)))))))))
def zgI : G := fnG 3 zh4
theorem zn2 {P : Program} {w : World} {K : PySem.W.Frag} {mg : Str → Option Value} {C : Ad} {base : Heap} {k : Nat} {f : Addr} (T : Txt K mg C w) (cdv : Value) (A : Around) (outer : List PySem.Env) (s : Shared) (H : Hp) (E : XK) (hr : Room k (A.deeper (envOfC "_law_two" (zaa zcC) s.heap.objs.size f cdv))) :
  SB (cx0 P w K mg base ["_law_word", "_law_one", "_law_two_here"] "_law_two" zcC f cdv A outer s H E) W0 (zal zcC) zh4 := by
 have hu : (cx0 P w K mg base ["_law_word", "_law_one", "_law_two_here"] "_law_two" zcC f cdv A outer s H E).A.units + 60 < cLine := Nat.lt_of_le_of_lt (Nat.add_le_add_left (by decide) _) hr.units
 have nd := (ziQ).nd
 refine zab ?_ ?_
 ·exact (zbb (zat (zaJ hu .eq) zao (se_v rfl (zbl)) (se_s zah)) (zab (zau (zam zaK za8 (se_v rfl (zbp)) (se_v rfl (zaD)))) zae) zae)
 refine zab ?_ ?_
 ·exact (zbb (zat (zaJ hu .eq) zao (se_v rfl (zbl)) (se_s zah)) (zab (zau (zam zdV zd9 (se_v rfl (zbp)) (se_v rfl (zaD)))) zae) zae)
 refine zab ?_ ?_
 ·exact (zbb (zat (zaJ hu .eq) zao (se_v rfl (zbl)) (se_s zah)) (zab (zau (zam zbI zcl (se_v rfl (zbp)) (se_v rfl (zaD)))) zae) zae)
 refine zab ?_ ?_
 ·exact (zbb (zat (zaJ hu .eq) zao (se_v rfl (zbl)) (se_s zah)) (zab (zau (zc2 (fun t ha => zbf (ze8 rfl) rfl (T.blt "min" (by decide +kernel)) boot_min ha (by decide +kernel) (by decide +kernel)) zj6 (zac (se_v rfl (zbp)) (zac (se_v rfl (zaD)) zaj zai) zai))) zae) zae)
 refine zab ?_ ?_
 ·exact (zbb (zat (zaJ hu .eq) zao (se_v rfl (zbl)) (se_s zah)) (zab (zau (zc2 (fun t ha => zbf (zgP rfl) rfl (T.blt "max" (by decide +kernel)) boot_max ha (by decide +kernel) (by decide +kernel)) zlb (zac (se_v rfl (zbp)) (zac (se_v rfl (zaD)) zaj zai) zai))) zae) zae)
 refine zab ?_ ?_
 ·exact (zbb (zat (zaJ hu .eq) zao (se_v rfl (zbl)) (se_s zah)) (zab (zau (zg1 (se_v rfl (zbp)) (zdZ (se_v rfl (zaD))))) zae) zae)
 refine zab ?_ ?_
 ·exact (zbb (zat (zaJ hu .eq) zao (se_v rfl (zbl)) (se_s zah)) (zab (zau (zkl (se_v rfl (zbp)) (zdZ (se_v rfl (zaD))))) zae) zae)
 refine zab ?_ ?_
 ·exact (zbb (zat (zaJ hu .eq) zao (se_v rfl (zbl)) (se_s zah)) (zab (zau (zc5 (zaJ hu .lt) zao (se_v rfl (zbp)) (se_v rfl (zaD)))) zae) zae)
 refine zab ?_ ?_
 ·exact (zau (zc5 (zaJ hu .eq) zao (se_v rfl (zbp)) (se_v rfl (zaD))))
 exact zae
abbrev za6 : Stmt := top 29
theorem zgx : FnScope ["_law_words", "_law_time", "_law_value", "_law_other", "_law_kept", "_law_word", "_law_one"] ["_law_words", "_law_time", "_law_value", "_law_other"] (zaa za6) := ⟨rfl, rfl, rfl, by decide +kernel, rfl, by decide +kernel, by decide +kernel⟩
theorem zeY : (zaa za6).names.lookup ("_law_words" : Str) = some .local := by kernel_rfl
theorem zfv : (zaa za6).names.lookup ("_law_time" : Str) = some .local := by kernel_rfl
theorem zfa : (zaa za6).names.lookup ("_law_value" : Str) = some .local := by kernel_rfl
theorem zfr : (zaa za6).names.lookup ("_law_other" : Str) = some .local := by kernel_rfl
theorem zaO : (zaa za6).names.lookup ("_law_kept" : Str) = some .local := by kernel_rfl
theorem zba : (zaa za6).names.lookup ("_law_word" : Str) = some .local := by kernel_rfl
theorem zdI : (zaa za6).names.lookup ("_law_one" : Str) = some .local := by kernel_rfl
def zcP : S := (sSeq (sIf (s2 (oCmp .isin) (sVar 5) (sLst (zag (sCon (.str "+")) (zag (sCon (.str "-")) (zag (sCon (.str "*")) (zag (sCon (.str "least")) (zag (sCon (.str "most")) (zag (sCon (.str "and")) (zag (sCon (.str "or")) (zag (sCon (.str "<")) (zag (sCon (.str "=")) sNil))))))))))) (sSeq (sAsg 6 (sPop (sVar 4))) (sSeq (zdD (sVar 4) (zb5 zgI (zag (sVar 5) (zag (sVar 6) (zag (sPop (sVar 4)) sNil))))) sEnd)) (sSeq (sIf (s2 (oCmp .eq) (sVar 5) (sCon (.str "not"))) (sSeq (zdD (sVar 4) (zis (sPop (sVar 4)))) sEnd) (sSeq (sIf (s2 (oCmp .isin) (sVar 5) (sLst (zag (sCon (.str "t")) (zag (sCon (.str "v")) (zag (sCon (.str "w")) sNil))))) (sSeq (zdD (sVar 4) (s2 oIx (sLst (zag (sVar 1) (zag (sVar 2) (zag (sVar 3) sNil)))) (sLix (sLst (zag (sCon (.str "t")) (zag (sCon (.str "v")) (zag (sCon (.str "w")) sNil)))) (zag (sVar 5) sNil)))) sEnd) (sSeq (zdD (sVar 4) (sN bInt (zag (sVar 5) sNil))) sEnd)) sEnd)) sEnd)) sEnd)
def zeN : S := (sSeq (sAsg 4 (zeg (sLst sNil))) (sSeq (sFor 5 (iRv (zag (sVar 0) sNil)) zcP) (sSeq (sRet (s2 oIx (sVar 4) (sCon (.int 0)))) sEnd)))
def zdL : G := fnG 7 zeN
theorem zke {P : Program} {w : World} {K : PySem.W.Frag} {mg : Str → Option Value} {C : Ad} {base : Heap} {k : Nat} {f : Addr} (T : Txt K mg C w) (a__two : AtG P w K mg base k "_law_two" 3 zgI) (cdv : Value) (A : Around) (outer : List PySem.Env) (s : Shared) (H : Hp) (E : XK) (hr : Room k (A.deeper (envOfC "_law_worth" (zaa za6) s.heap.objs.size f cdv))) :
    SB (cx0 P w K mg base ["_law_words", "_law_time", "_law_value", "_law_other", "_law_kept", "_law_word", "_law_one"] "_law_worth" za6 f cdv A outer s H E) W0 (zal za6) zeN := by
  have hu : (cx0 P w K mg base ["_law_words", "_law_time", "_law_value", "_law_other", "_law_kept", "_law_word", "_law_one"] "_law_worth" za6 f cdv A outer s H E).A.units + 60 < cLine := Nat.lt_of_le_of_lt (Nat.add_le_add_left (by decide) _) hr.units
  have nd := (zgx).nd
  refine zab ?_ ?_
  · refine zaE (i := 4) ?_ ?_ ?_ ?_
    · exact nd
    · exact rfl
    · exact (.inl zaO)
    · refine zcX ?_
      · refine zbk ?_
        · exact zaj
  refine zab ?_ ?_
  · refine zfQ ?_ ?_ ?_ ?_ ?_ ?_ ?_
    · exact PassesOwn.never
    · exact rfl
    · exact nd
    · exact rfl
    · exact (.inl zba)
    · refine si_rv ?_ ?_ ?_
      · exact rfl
      · exact (T.blt "reversed" (by decide +kernel))
      · refine zac ?_ ?_ ?_
        · refine se_v ?_ ?_
          · exact rfl
          · exact zeY
        · exact zaj
        · exact zai
    · refine zab ?_ ?_
      · refine zbb ?_ ?_ ?_
        · refine zat (zaJ hu .isin) zao ?_ ?_
          · refine se_v ?_ ?_
            · exact rfl
            · exact zba
          · refine SN.sem ?_ ?_
            · refine zbk ?_
              · refine zac ?_ ?_ ?_
                · refine se_s ?_
                  · exact zah
                · refine zac ?_ ?_ ?_
                  · refine se_s ?_
                    · exact zah
                  · refine zac ?_ ?_ ?_
                    · refine se_s ?_
                      · exact zah
                    · refine zac ?_ ?_ ?_
                      · refine se_s ?_
                        · exact zah
                      · refine zac ?_ ?_ ?_
                        · refine se_s ?_
                          · exact zah
                        · refine zac ?_ ?_ ?_
                          · refine se_s ?_
                            · exact zah
                          · refine zac ?_ ?_ ?_
                            · refine se_s ?_
                              · exact zah
                            · refine zac ?_ ?_ ?_
                              · refine se_s ?_
                                · exact zah
                              · refine zac ?_ ?_ ?_
                                · refine se_s ?_
                                  · exact zah
                                · exact zaj
                                · exact zad
                              · exact zad
                            · exact zad
                          · exact zad
                        · exact zad
                      · exact zad
                    · exact zad
                  · exact zad
                · exact zad
            · exact lst_is
        · refine zab ?_ ?_
          · refine zaE (i := 6) ?_ ?_ ?_ ?_
            · exact nd
            · exact rfl
            · exact (.inl zdI)
            · refine zeC ?_
              · refine se_v ?_ ?_
                · exact rfl
                · exact zaO
          · refine zab ?_ ?_
            · refine zcm ?_ ?_
              · refine se_v ?_ ?_
                · exact rfl
                · exact zaO
              · refine zbc a__two hr rfl ?_ ?_
                · refine zac ?_ ?_ ?_
                  · refine se_v ?_ ?_
                    · exact rfl
                    · exact zba
                  · refine zac ?_ ?_ ?_
                    · refine se_v ?_ ?_
                      · exact rfl
                      · exact zdI
                    · refine zac ?_ ?_ ?_
                      · refine zeC ?_
                        · refine se_v ?_ ?_
                          · exact rfl
                          · exact zaO
                      · exact zaj
                      · exact zfh
                    · exact zai
                  · exact zai
                · refine cnt_cons ?_
                  · refine cnt_cons ?_
                    · refine cnt_cons ?_
                      · exact cnt_nil
            · exact zae
        · refine zab ?_ ?_
          · refine zbb ?_ ?_ ?_
            · refine zat (zaJ hu .eq) zao ?_ ?_
              · refine se_v ?_ ?_
                · exact rfl
                · exact zba
              · refine se_s ?_
                · exact zah
            · refine zab ?_ ?_
              · refine zcm ?_ ?_
                · refine se_v ?_ ?_
                  · exact rfl
                  · exact zaO
                · refine zjO ?_
                  · refine zeC ?_
                    · refine se_v ?_ ?_
                      · exact rfl
                      · exact zaO
              · exact zae
            · refine zab ?_ ?_
              · refine zbb ?_ ?_ ?_
                · refine zat (zaJ hu .isin) zao ?_ ?_
                  · refine se_v ?_ ?_
                    · exact rfl
                    · exact zba
                  · refine SN.sem ?_ ?_
                    · refine zbk ?_
                      · refine zac ?_ ?_ ?_
                        · refine se_s ?_
                          · exact zah
                        · refine zac ?_ ?_ ?_
                          · refine se_s ?_
                            · exact zah
                          · refine zac ?_ ?_ ?_
                            · refine se_s ?_
                              · exact zah
                            · exact zaj
                            · exact zad
                          · exact zad
                        · exact zad
                    · exact lst_is
                · refine zab ?_ ?_
                  · refine zcm ?_ ?_
                    · refine se_v ?_ ?_
                      · exact rfl
                      · exact zaO
                    · refine zb2 zbt zb3 ?_ ?_
                      · refine SN.sem ?_ ?_
                        · refine zbk ?_
                          · refine zac ?_ ?_ ?_
                            · refine se_v ?_ ?_
                              · exact rfl
                              · exact zfv
                            · refine zac ?_ ?_ ?_
                              · refine se_v ?_ ?_
                                · exact rfl
                                · exact zfa
                              · refine zac ?_ ?_ ?_
                                · refine se_v ?_ ?_
                                  · exact rfl
                                  · exact zfr
                                · exact zaj
                                · exact zai
                              · exact zai
                            · exact zai
                        · exact lst_is
                      · refine se_lix ?_ ?_
                        · refine SN.sem ?_ ?_
                          · refine zbk ?_
                            · refine zac ?_ ?_ ?_
                              · refine se_s ?_
                                · exact zah
                              · refine zac ?_ ?_ ?_
                                · refine se_s ?_
                                  · exact zah
                                · refine zac ?_ ?_ ?_
                                  · refine se_s ?_
                                    · exact zah
                                  · exact zaj
                                  · exact zad
                                · exact zad
                              · exact zad
                          · exact lst_is
                        · refine zac ?_ ?_ ?_
                          · refine se_v ?_ ?_
                            · exact rfl
                            · exact zba
                          · exact zaj
                          · exact zai
                  · exact zae
                · refine zab ?_ ?_
                  · refine zcm ?_ ?_
                    · refine se_v ?_ ?_
                      · exact rfl
                      · exact zaO
                    · refine zc2 (fun t ha => zcN zep rfl (T.blt "int" (by decide +kernel)) boot_int ha (by decide +kernel) (by decide +kernel)) zlq ?_
                      · refine zac ?_ ?_ ?_
                        · refine se_v ?_ ?_
                          · exact rfl
                          · exact zba
                        · exact zaj
                        · exact zai
                  · exact zae
              · exact zae
          · exact zae
      · exact zae
  refine zab ?_ ?_
  · refine zau ?_
    · refine zb2 zbt zb3 ?_ ?_
      · refine se_v ?_ ?_
        · exact rfl
        · exact zaO
      · refine se_i ?_
        · exact zaf
  exact zae
abbrev zaT : Stmt := top 30
theorem zfc : FnScope ["_law_words", "_law_refused_here", "e"] ["_law_words"] (zaa zaT) := ⟨rfl, rfl, rfl, by decide +kernel, rfl, by decide +kernel, by decide +kernel⟩
theorem zee : (zaa zaT).names.lookup ("_law_words" : Str) = some .local := by kernel_rfl
theorem zbh : (zaa zaT).names.lookup ("_law_refused_here" : Str) = some .local := by kernel_rfl
theorem zeA : (zaa zaT).names.lookup ("e" : Str) = some .local := by kernel_rfl
def zeB : S := (zg6 (zfn zbs (zag (sVar 0) sNil)))
def zez : S := (sSeq (sAsg 1 (zis (sIsX 2 (or2 zdN zdU)))) sEnd)
def zdl : S := (sSeq (sAsg 1 (sCon (.bl false))) (sSeq (sTry 2 zdg zeB zez) (sSeq (sRet (sVar 1)) sEnd)))
def zbj : G := fnG 3 zdl
theorem ziA {P : Program} {w : World} {K : PySem.W.Frag} {mg : Str → Option Value} {C : Ad} {base : Heap} {k : Nat} {f : Addr} (T : Txt K mg C w) (x_read_cond : AtX P w K mg base k "read_cond" 1 zbs) (cdv : Value) (A : Around) (outer : List PySem.Env) (s : Shared) (H : Hp) (E : XK) (hr : Room k (A.deeper (envOfC "_law_refused" (zaa zaT) s.heap.objs.size f cdv))) :
  SB (cx0 P w K mg base ["_law_words", "_law_refused_here", "e"] "_law_refused" zaT f cdv A outer s H E) W0 (zal zaT) zdl := by
 have hu : (cx0 P w K mg base ["_law_words", "_law_refused_here", "e"] "_law_refused" zaT f cdv A outer s H E).A.units + 60 < cLine := Nat.lt_of_le_of_lt (Nat.add_le_add_left (by decide) _) hr.units
 have nd := (zfc).nd
 refine zab ?_ ?_
 ·exact (zaE (i := 1) nd rfl (.inl zbh) (se_b zf5))
 refine zab ?_ ?_
 ·exact (zn6 (i := 2) rfl rfl rfl nd rfl zeA rfl T.xm_NoExpr T.xc_NoExpr (fun c h => zgf T c h) (fun pins E' => (bx_one (zm3 (zhx x_read_cond hr rfl (zac (se_v rfl (zee)) zaj zai) (cnt_cons cnt_nil))))) (fun e' => (zab (zaE (i := 1) nd rfl (.inl zbh) (zjO (zm7 rfl zeA (fun c b h => zgS T c b h) (fun c b h => zgC T c b h) rfl (T.blt "isinstance" (by decide +kernel)) rfl T.xm_NoItem rfl T.xm_NoName))) zae)))
 refine zab ?_ ?_
 ·exact (zau (se_v rfl (zbh)))
 exact zae
abbrev zaz : Stmt := zmV (top 21) 1
theorem zdG : FnScope ["self", "time", "value"] ["self", "time", "value"] (zaa zaz) := ⟨rfl, rfl, rfl, by decide +kernel, rfl, by decide +kernel, by decide +kernel⟩
theorem zel : (zaa zaz).names.lookup ("self" : Str) = some .local := by kernel_rfl
theorem zeh : (zaa zaz).names.lookup ("time" : Str) = some .local := by kernel_rfl
theorem zdS : (zaa zaz).names.lookup ("value" : Str) = some .local := by kernel_rfl
def zcG : S := (sSeq (sRet (zb5 zcj (zag (ziu "Cond" "parts" (sVar 0)) (zag (sVar 1) (zag (sVar 2) (zag (sCon (.int 0)) sNil)))))) sEnd)
def zbK : G := fnG 3 zcG
theorem zgN {P : Program} {w : World} {K : PySem.W.Frag} {mg : Str → Option Value} {C : Ad} {base : Heap} {k : Nat} {f : Addr} (T : Txt K mg C w) (a_reckoned : AtG P w K mg base k "reckoned" 4 zcj) (cdv : Value) (A : Around) (outer : List PySem.Env) (s : Shared) (H : Hp) (E : XK) (hr : Room k (A.deeper (envOfC "Cond.holds" (zaa zaz) s.heap.objs.size f cdv))) :
  SB (cx0 P w K mg base ["self", "time", "value"] "Cond.holds" zaz f cdv A outer s H E) W0 (zal zaz) zcG := by
 have hu : (cx0 P w K mg base ["self", "time", "value"] "Cond.holds" zaz f cdv A outer s H E).A.units + 60 < cLine := Nat.lt_of_le_of_lt (Nat.add_le_add_left (by decide) _) hr.units
 have nd := (zdG).nd
 refine zab ?_ ?_
 ·exact (zau (zbc a_reckoned hr rfl (zac (zly T.cl_Cond T.na_Cond_parts (se_v rfl (zel))) (zac (se_v rfl (zeh)) (zac (se_v rfl (zdS)) (zac (se_i zaf) zaj zad) zai) zai) zgM) (cnt_cons (cnt_cons (cnt_cons (cnt_cons cnt_nil))))))
 exact zae
abbrev za0 : Stmt := top 31
theorem zhc : FnScope ["_law_cond_here", "_law_words", "_law_cell", "_law_xs", "_law_turn", "_law_time", "_law_value", "_law_found"] ["_law_cond_here", "_law_words", "_law_cell", "_law_xs"] (zaa za0) := ⟨rfl, rfl, rfl, by decide +kernel, rfl, by decide +kernel, by decide +kernel⟩
theorem zdC : (zaa za0).names.lookup ("_law_cond_here" : Str) = some .local := by kernel_rfl
theorem ze7 : (zaa za0).names.lookup ("_law_words" : Str) = some .local := by kernel_rfl
theorem zdq : (zaa za0).names.lookup ("_law_cell" : Str) = some .local := by kernel_rfl
theorem zcF : (zaa za0).names.lookup ("_law_xs" : Str) = some .local := by kernel_rfl
theorem zbu : (zaa za0).names.lookup ("_law_turn" : Str) = some .local := by kernel_rfl
theorem zbT : (zaa za0).names.lookup ("_law_time" : Str) = some .local := by kernel_rfl
theorem zbL : (zaa za0).names.lookup ("_law_value" : Str) = some .local := by kernel_rfl
theorem zcw : (zaa za0).names.lookup ("_law_found" : Str) = some .local := by kernel_rfl
def zdj : S := (sSeq (sRet (sCon (.bl true))) sEnd)
def zd7 : S := (sSeq (sIf (sOr (sNot (sTru (sIsi isiT "bool" (sVar 7)))) (s2 (oCmp .ne) (sVar 7) (zb5 zdL (zag (sVar 1) (zag (sVar 5) (zag (sVar 6) (zag (sCon (.int 0)) sNil))))))) (sSeq (sRet (sCon (.bl false))) sEnd) sEnd) sEnd)
def zcW : S := (sSeq (sAsg 7 (zd4 "Cond" "holds" zbK (sVar 0) (zag (sVar 5) (zag (sVar 6) sNil)))) zd7)
def zce : S := (sSeq (sIf (s2 (oCmp .eq) (s2 oMod (sVar 4) (sCon (.int 2))) (sCon (.int 1))) (sSeq (sAsg 5 (s2 oMod (s2 oIx (sVar 3) (sVar 4)) (sCon (.int 9)))) (sSeq (sAsg 6 (s2 oSub (s2 oMod (s2 oIx (sVar 3) (s2 oAdd (sVar 4) (sCon (.int 1)))) (sCon (.int 19))) (sCon (.int 9)))) sEnd)) sEnd) zcW)
def zdW : S := (sSeq (sAsg 6 (s2 oSub (s2 oMod (s2 oAdd (s2 oMul (sVar 2) (sCon (.int 48271))) (s2 oIx (sVar 3) (s2 oAdd (sVar 4) (sCon (.int 1))))) (s2 oAdd (s2 oMul (sCon (.int 2)) (s2 oPow (sCon (.int 10)) (sCon (.int 60)))) (sCon (.int 1)))) (s2 oPow (sCon (.int 10)) (sCon (.int 60))))) zce)
def zck : S := (sSeq (sAsg 5 (s2 oMod (s2 oAdd (sVar 2) (s2 oIx (sVar 3) (sVar 4))) (s2 oAdd (s2 oPow (sCon (.int 10)) (sCon (.int 12))) (sCon (.int 1))))) zdW)
def zeO : S := (sSeq (sFor 4 (zfw (zag (sCon (.int 4)) sNil)) zck) zdj)
def zdF : G := fnG 8 zeO
theorem zkj {P : Program} {w : World} {K : PySem.W.Frag} {mg : Str → Option Value} {C : Ad} {base : Heap} {k : Nat} {f : Addr} (T : Txt K mg C w) (a__worth : AtG P w K mg base k "_law_worth" 4 zdL) (a_Cond_holds : AtM P w K mg base k C.Cond "holds" 3 zbK) (cdv : Value) (A : Around) (outer : List PySem.Env) (s : Shared) (H : Hp) (E : XK) (hr : Room k (A.deeper (envOfC "_law_asked" (zaa za0) s.heap.objs.size f cdv))) :
  SB (cx0 P w K mg base ["_law_cond_here", "_law_words", "_law_cell", "_law_xs", "_law_turn", "_law_time", "_law_value", "_law_found"] "_law_asked" za0 f cdv A outer s H E) W0 (zal za0) zeO := by
 have hu : (cx0 P w K mg base ["_law_cond_here", "_law_words", "_law_cell", "_law_xs", "_law_turn", "_law_time", "_law_value", "_law_found"] "_law_asked" za0 f cdv A outer s H E).A.units + 60 < cLine := Nat.lt_of_le_of_lt (Nat.add_le_add_left (by decide) _) hr.units
 have nd := (zhc).nd
 refine zab ?_ ?_
 ·exact (zfQ PassesOwn.never rfl nd rfl (.inl zbu) (zgn rfl (T.blt "range" (by decide +kernel)) (zac (se_i zaf) zaj zad)) (zab (zaE (i := 5) nd rfl (.inl zbT) (zam zbe zbd (zam zaK za8 (se_v rfl (zdq)) (zb2 zbt zb3 (se_v rfl (zcF)) (se_v rfl (zbu)))) (zam zaK za8 (zam zfJ zfB (se_i zaf) (se_i zaf)) (se_i zaf)))) (zab (zaE (i := 6) nd rfl (.inl zbL) (zam zdV zd9 (zam zbe zbd (zam zaK za8 (zam zbI zcl (se_v rfl (zdq)) (se_i zaf)) (zb2 zbt zb3 (se_v rfl (zcF)) (zam zaK za8 (se_v rfl (zbu)) (se_i zaf)))) (zam zaK za8 (zam zbI zcl (se_i zaf) (zam zfJ zfB (se_i zaf) (se_i zaf))) (se_i zaf))) (zam zfJ zfB (se_i zaf) (se_i zaf)))) (zab (zbb (zat (zaJ hu .eq) zao (zam zbe zbd (se_v rfl (zbu)) (se_i zaf)) (se_i zaf)) (zab (zaE (i := 5) nd rfl (.inl zbT) (zam zbe zbd (zb2 zbt zb3 (se_v rfl (zcF)) (se_v rfl (zbu))) (se_i zaf))) (zab (zaE (i := 6) nd rfl (.inl zbL) (zam zdV zd9 (zam zbe zbd (zb2 zbt zb3 (se_v rfl (zcF)) (zam zaK za8 (se_v rfl (zbu)) (se_i zaf))) (se_i zaf)) (se_i zaf))) zae)) zae) (zab (zaE (i := 7) nd rfl (.inl zcw) (znb T.cl_Cond a_Cond_holds hr (se_v rfl (zdC)) (zac (se_v rfl (zbT)) (zac (se_v rfl (zbL)) zaj zai) zai) (cnt_cons (cnt_cons cnt_nil)))) (zab (zbb (SW.st (zhq (zex (zc9 (zna (T := "bool") (fun t b h => zmW t "bool" b h) (se_v rfl (zcw)) rfl (T.blt "isinstance" (by decide +kernel)) rfl (T.blt "bool" (by decide +kernel)) boot_bool))) (zfW (zat (zaJ hu .ne) zao (se_v rfl (zcw)) (zbc a__worth hr rfl (zac (se_v rfl (ze7)) (zac (se_v rfl (zbT)) (zac (se_v rfl (zbL)) (zac (se_i zaf) zaj zad) zai) zai) zai) (cnt_cons (cnt_cons (cnt_cons (cnt_cons cnt_nil))))))))) (zab (zau (se_b zf5)) zae) zae) zae))))))
 refine zab ?_ ?_
 ·exact (zau (se_b zf5))
 exact zae
abbrev zaL : Stmt := zmV (top 21) 2
theorem zdT : FnScope ["self"] ["self"] (zaa zaL) := ⟨rfl, rfl, rfl, by decide +kernel, rfl, by decide +kernel, by decide +kernel⟩
theorem zej : (zaa zaL).names.lookup ("self" : Str) = some .local := by kernel_rfl
def zcB : S := (sSeq (sRet (zeg (zfO (ziu "Cond" "parts" (sVar 0))))) sEnd)
def za2 : G := fnG 1 zcB
theorem zgs {P : Program} {w : World} {K : PySem.W.Frag} {mg : Str → Option Value} {C : Ad} {base : Heap} {k : Nat} {f : Addr} (T : Txt K mg C w) (cdv : Value) (A : Around) (outer : List PySem.Env) (s : Shared) (H : Hp) (E : XK) (hr : Room k (A.deeper (envOfC "Cond.words" (zaa zaL) s.heap.objs.size f cdv))) :
  SB (cx0 P w K mg base ["self"] "Cond.words" zaL f cdv A outer s H E) W0 (zal zaL) zcB := by
 have hu : (cx0 P w K mg base ["self"] "Cond.words" zaL f cdv A outer s H E).A.units + 60 < cLine := Nat.lt_of_le_of_lt (Nat.add_le_add_left (by decide) _) hr.units
 have nd := (zdT).nd
 refine zab ?_ ?_
 ·exact (zau (zcX (ziW rfl (T.blt "list" (by decide +kernel)) (zly T.cl_Cond T.na_Cond_parts (se_v rfl (zej))))))
 exact zae
abbrev zcs : Stmt := top 32
theorem zk8 : FnScope ["_law_script", "_law_cell", "_law_xs", "_law_words", "_law_handed", "_law_cond_here", "_law_at", "_law_word"] ["_law_script"] (zaa zcs) := ⟨rfl, rfl, rfl, by decide +kernel, rfl, by decide +kernel, by decide +kernel⟩
theorem zge : (zaa zcs).names.lookup ("_law_script" : Str) = some .cell := by kernel_rfl
theorem zdE : (zaa zcs).names.lookup ("_law_cell" : Str) = some .local := by kernel_rfl
theorem zbV : (zaa zcs).names.lookup ("_law_xs" : Str) = some .local := by kernel_rfl
theorem zaQ : (zaa zcs).names.lookup ("_law_words" : Str) = some .local := by kernel_rfl
theorem zca : (zaa zcs).names.lookup ("_law_handed" : Str) = some .local := by kernel_rfl
theorem zaX : (zaa zcs).names.lookup ("_law_cond_here" : Str) = some .local := by kernel_rfl
theorem ze2 : (zaa zcs).names.lookup ("_law_at" : Str) = some .local := by kernel_rfl
theorem zfi : (zaa zcs).names.lookup ("_law_word" : Str) = some .local := by kernel_rfl
def zhk : S := (sSeq (sRet (zb5 zbj (zag (sLst sNil) sNil))) sEnd)
def zfb : S := (sSeq (sIf (sNot (sTru (zb5 zbj (zag (zb5 zft (zag (s2 oIx (sVar 2) (sCon (.int 5))) (zag (sCon (.str "tv")) (zag (s2 oAdd (sCon (.int 1)) (s2 oMod (s2 oIx (sVar 2) (sCon (.int 6))) (sCon (.int 9)))) sNil)))) sNil)))) (sSeq (sRet (sCon (.bl false))) sEnd) sEnd) sEnd)
def ze0 : S := (sSeq (sIf (sOr (sNot (sTru (zb5 zbj (zag (sSl (sVar 3) pNo (pAt (s1 oNeg (sCon (.int 1))))) sNil)))) (sNot (sTru (zb5 zbj (zag (s2 oAdd (sVar 3) (sLst (zag (sCon (.str "t")) sNil))) sNil))))) (sSeq (sRet (sCon (.bl false))) sEnd) sEnd) zfb)
def zdz : S := (sSeq (sIf (sNot (sTru (zb5 zbj (zag (s2 oAdd (s2 oAdd (sSl (sVar 3) pNo (pAt (sVar 6))) (sLst (zag (sVar 7) sNil))) (sSl (sVar 3) (pAt (s2 oAdd (sVar 6) (sCon (.int 1)))) pNo)) sNil)))) (sSeq (sRet (sCon (.bl false))) sEnd) sEnd) ze0)
def zfk : S := (sSeq (sAsg 7 (s2 oIx (sLst (zag (sCon (.str "w")) (zag (sCon (.str "x")) (zag (sCon (.str "")) (zag (sCon (.str "tv")) (zag (sCon (.str ">")) (zag (sCon (.str "AND")) (zag (sCon (.str "sum")) (zag (sCon (.str "-0")) (zag (sCon (.str "1.5")) sNil)))))))))) (s2 oMod (s2 oIx (sVar 2) (sCon (.int 4))) (sCon (.int 9))))) zdz)
def zfU : S := (sSeq (sAsg 6 (s2 oMod (s2 oIx (sVar 2) (sCon (.int 3))) (sN bLen (zag (sVar 3) sNil)))) zfk)
def zeb : S := (sSeq (sIf (sOr (sNot (sTru (zb5 zdF (zag (sVar 5) (zag (sVar 3) (zag (sVar 1) (zag (sSl (sVar 2) (pAt (sCon (.int 4))) pNo) sNil))))))) (s2 (oCmp .ne) (zd4 "Cond" "words" za2 (sVar 5) sNil) (sVar 3))) (sSeq (sRet (sCon (.bl false))) sEnd) sEnd) zfU)
def zfK : S := (sSeq (zil (zd4 "Cond" "words" za2 (sVar 5) sNil)) zeb)
def zfH : S := (sSeq (zdD (zd4 "Cond" "words" za2 (sVar 5) sNil) (sCon (.str "t"))) zfK)
def zfR : S := (sSeq (zil (sVar 4)) zfH)
def zfT : S := (sSeq (sIf (sOr (s2 (oCmp .ne) (sVar 4) (sVar 3)) (sOr (sNot (sTru (sIsO "Cond" (sVar 5)))) (s2 (oCmp .ne) (zd4 "Cond" "words" za2 (sVar 5) sNil) (sVar 3)))) (sSeq (sRet (sCon (.bl false))) sEnd) sEnd) zfR)
def zfS : S := (sSeq (sAsg 5 (zb5 zbs (zag (sVar 4) sNil))) zfT)
def zfL : S := (sSeq (sAsg 4 (zeg (zfO (sVar 3)))) zfS)
def zfG : S := (sSeq (sAsg 3 (zb5 zfu (zag (s2 oIx (sVar 2) (sCon (.int 1))) (zag (s2 oAdd (sCon (.int 3)) (s2 oMod (s2 oIx (sVar 2) (sCon (.int 2))) (sCon (.int 34)))) sNil)))) zfL)
def zf9 : S := (sSeq (sAsg 2 (zb5 zdh (zag (sVar 1) (zag (sCon (.int 10)) sNil)))) zfG)
def zjX : E := (s2 oAdd (s2 oIx (sVar 1) (sVar 0)) (s2 oMul (sCon (.int 1009)) (sVar 0)))
def zko : S := (sSeq (sFor 1 (iLst (s2 oAdd (sLst (zag (sCon (.int 7)) sNil)) (zgb [("_law_script", 0)] (zfw (zag (sN bMin (zag (sCon (.int 6)) (zag (sN bLen (zag (sVar 0) sNil)) sNil))) sNil)) (sCon (.bl true)) zjX))) zf9) zhk)
def g_law : G := fnG 8 zko
theorem r_law {P : Program} {w : World} {K : PySem.W.Frag} {mg : Str → Option Value} {C : Ad} {base : Heap} {k : Nat} {f : Addr} (T : Txt K mg C w) (a_read_cond : AtG P w K mg base k "read_cond" 1 zbs) (a__drawn : AtG P w K mg base k "_law_drawn" 2 zdh) (a__expr : AtG P w K mg base k "_law_expr" 3 zft) (a__cond : AtG P w K mg base k "_law_cond" 2 zfu) (a__refused : AtG P w K mg base k "_law_refused" 1 zbj) (a__asked : AtG P w K mg base k "_law_asked" 4 zdF) (a_Cond_words : AtM P w K mg base k C.Cond "words" 1 za2) (cdv : Value) (A : Around) (outer : List PySem.Env) (s : Shared) (H : Hp) (E : XK) (hr : Room k (A.deeper (envOfC "law" (zaa zcs) s.heap.objs.size f cdv))) :
    SB (cx0 P w K mg base ["_law_script", "_law_cell", "_law_xs", "_law_words", "_law_handed", "_law_cond_here", "_law_at", "_law_word"] "law" zcs f cdv A outer s H E) W0 (zal zcs) zko := by
  have hu : (cx0 P w K mg base ["_law_script", "_law_cell", "_law_xs", "_law_words", "_law_handed", "_law_cond_here", "_law_at", "_law_word"] "law" zcs f cdv A outer s H E).A.units + 60 < cLine := Nat.lt_of_le_of_lt (Nat.add_le_add_left (by decide) _) hr.units
  have nd := (zk8).nd
  refine zab ?_ ?_
  · refine zfQ ?_ ?_ ?_ ?_ ?_ ?_ ?_
    · exact PassesOwn.never
    · exact rfl
    · exact nd
    · exact rfl
    · exact (.inl zdE)
    · refine zn8 ?_
      · refine zam zaK za8 ?_ ?_
        · refine SN.sem ?_ ?_
          · refine zbk ?_
            · refine zac ?_ ?_ ?_
              · refine se_i ?_
                · exact zaf
              · exact zaj
              · exact zad
          · exact lst_is
        · refine SN.sem ?_ ?_
          · exact (zjw "_law_k" [("_law_script", 0)] rfl (by decide +kernel) (zgn rfl (T.blt "range" (by decide +kernel)) (zac (zc2 (fun t ha => zbf (ze8 rfl) rfl (T.blt "min" (by decide +kernel)) boot_min ha (by decide +kernel) (by decide +kernel)) zj6 (zac (se_i zaf) (zac (zc2 (fun t ha => zbf zcp rfl (T.blt "len" (by decide +kernel)) PySem.boot_len ha (by decide +kernel) (by decide +kernel)) zeR (zac (zjx rfl (.inr (.inl zge))) zaj zai)) zaj zfh) zad)) zaj zfh)) (fun _ _ _ _ _ _ => zi8) (fun _ _ _ _ _ _ => (zam zaK za8 (zb2 zbt zb3 (zjx rfl (.inr (.inl (by kernel_rfl)))) (zjx rfl (.inl (by kernel_rfl)))) (zam zbI zcl (se_i zaf) (zjx rfl (.inl (by kernel_rfl)))))))
          · exact ziJ
    · refine zab ?_ ?_
      · refine zaE (i := 2) ?_ ?_ ?_ ?_
        · exact nd
        · exact rfl
        · exact (.inl zbV)
        · refine zbc a__drawn hr rfl ?_ ?_
          · refine zac ?_ ?_ ?_
            · refine se_v ?_ ?_
              · exact rfl
              · exact zdE
            · refine zac ?_ ?_ ?_
              · refine se_i ?_
                · exact zaf
              · exact zaj
              · exact zad
            · exact zai
          · refine cnt_cons ?_
            · refine cnt_cons ?_
              · exact cnt_nil
      · refine zab ?_ ?_
        · refine zaE (i := 3) ?_ ?_ ?_ ?_
          · exact nd
          · exact rfl
          · exact (.inl zaQ)
          · refine zbc a__cond hr rfl ?_ ?_
            · refine zac ?_ ?_ ?_
              · refine zb2 zbt zb3 ?_ ?_
                · refine se_v ?_ ?_
                  · exact rfl
                  · exact zbV
                · refine se_i ?_
                  · exact zaf
              · refine zac ?_ ?_ ?_
                · refine zam zaK za8 ?_ ?_
                  · refine se_i ?_
                    · exact zaf
                  · refine zam zbe zbd ?_ ?_
                    · refine zb2 zbt zb3 ?_ ?_
                      · refine se_v ?_ ?_
                        · exact rfl
                        · exact zbV
                      · refine se_i ?_
                        · exact zaf
                    · refine se_i ?_
                      · exact zaf
                · exact zaj
                · exact zcd
              · exact zbU
            · refine cnt_cons ?_
              · refine cnt_cons ?_
                · exact cnt_nil
        · refine zab ?_ ?_
          · refine zaE (i := 4) ?_ ?_ ?_ ?_
            · exact nd
            · exact rfl
            · exact (.inl zca)
            · refine zcX ?_
              · refine ziW ?_ ?_ ?_
                · exact rfl
                · exact (T.blt "list" (by decide +kernel))
                · refine se_v ?_ ?_
                  · exact rfl
                  · exact zaQ
          · refine zab ?_ ?_
            · refine zaE (i := 5) ?_ ?_ ?_ ?_
              · exact nd
              · exact rfl
              · exact (.inl zaX)
              · refine zbc a_read_cond hr rfl ?_ ?_
                · refine zac ?_ ?_ ?_
                  · refine se_v ?_ ?_
                    · exact rfl
                    · exact zca
                  · exact zaj
                  · exact zai
                · refine cnt_cons ?_
                  · exact cnt_nil
            · refine zab ?_ ?_
              · refine zbb ?_ ?_ ?_
                · refine SW.st ?_
                  · refine zhq ?_ ?_
                    · refine zat (zaJ hu .ne) zao ?_ ?_
                      · refine se_v ?_ ?_
                        · exact rfl
                        · exact zca
                      · refine se_v ?_ ?_
                        · exact rfl
                        · exact zaQ
                    · refine zhq ?_ ?_
                      · refine zex ?_
                        · refine zc9 ?_
                          · refine zku T.cl_Cond T.oi_Cond ?_ rfl (T.blt "isinstance" (by decide +kernel)) rfl
                            · refine se_v ?_ ?_
                              · exact rfl
                              · exact zaX
                      · refine zfW ?_
                        · refine zat (zaJ hu .ne) zao ?_ ?_
                          · refine zeQ T.cl_Cond a_Cond_words hr ?_
                            · refine se_v ?_ ?_
                              · exact rfl
                              · exact zaX
                          · refine se_v ?_ ?_
                            · exact rfl
                            · exact zaQ
                · refine zab ?_ ?_
                  · refine zau ?_
                    · refine se_b ?_
                      · exact zf5
                  · exact zae
                · exact zae
              · refine zab ?_ ?_
                · refine zjW ?_
                  · refine se_v ?_ ?_
                    · exact rfl
                    · exact zca
                · refine zab ?_ ?_
                  · refine zcm ?_ ?_
                    · refine zeQ T.cl_Cond a_Cond_words hr ?_
                      · refine se_v ?_ ?_
                        · exact rfl
                        · exact zaX
                    · refine se_s ?_
                      · exact zah
                  · refine zab ?_ ?_
                    · refine zjW ?_
                      · refine zeQ T.cl_Cond a_Cond_words hr ?_
                        · refine se_v ?_ ?_
                          · exact rfl
                          · exact zaX
                    · refine zab ?_ ?_
                      · refine zbb ?_ ?_ ?_
                        · refine SW.st ?_
                          · refine zhq ?_ ?_
                            · refine zex ?_
                              · refine zc9 ?_
                                · refine zbc a__asked hr rfl ?_ ?_
                                  · refine zac ?_ ?_ ?_
                                    · refine se_v ?_ ?_
                                      · exact rfl
                                      · exact zaX
                                    · refine zac ?_ ?_ ?_
                                      · refine se_v ?_ ?_
                                        · exact rfl
                                        · exact zaQ
                                      · refine zac ?_ ?_ ?_
                                        · refine se_v ?_ ?_
                                          · exact rfl
                                          · exact zdE
                                        · refine zac ?_ ?_ ?_
                                          · refine zjG ?_ ?_ ?_
                                            · refine se_v ?_ ?_
                                              · exact rfl
                                              · exact zbV
                                            · refine ziN (Wx := W0) ?_
                                              · refine se_i ?_
                                                · exact zaf
                                            · exact zjb
                                          · exact zaj
                                          · exact zbU
                                        · exact zai
                                      · exact zai
                                    · exact zai
                                  · refine cnt_cons ?_
                                    · refine cnt_cons ?_
                                      · refine cnt_cons ?_
                                        · refine cnt_cons ?_
                                          · exact cnt_nil
                            · refine zfW ?_
                              · refine zat (zaJ hu .ne) zao ?_ ?_
                                · refine zeQ T.cl_Cond a_Cond_words hr ?_
                                  · refine se_v ?_ ?_
                                    · exact rfl
                                    · exact zaX
                                · refine se_v ?_ ?_
                                  · exact rfl
                                  · exact zaQ
                        · refine zab ?_ ?_
                          · refine zau ?_
                            · refine se_b ?_
                              · exact zf5
                          · exact zae
                        · exact zae
                      · refine zab ?_ ?_
                        · refine zaE (i := 6) ?_ ?_ ?_ ?_
                          · exact nd
                          · exact rfl
                          · exact (.inl ze2)
                          · refine zam zbe zbd ?_ ?_
                            · refine zb2 zbt zb3 ?_ ?_
                              · refine se_v ?_ ?_
                                · exact rfl
                                · exact zbV
                              · refine se_i ?_
                                · exact zaf
                            · refine zc2 (fun t ha => zbf zcp rfl (T.blt "len" (by decide +kernel)) PySem.boot_len ha (by decide +kernel) (by decide +kernel)) zeR ?_
                              · refine zac ?_ ?_ ?_
                                · refine se_v ?_ ?_
                                  · exact rfl
                                  · exact zaQ
                                · exact zaj
                                · exact zai
                        · refine zab ?_ ?_
                          · refine zaE (i := 7) ?_ ?_ ?_ ?_
                            · exact nd
                            · exact rfl
                            · exact (.inl zfi)
                            · refine zb2 zbt zb3 ?_ ?_
                              · refine SN.sem ?_ ?_
                                · refine zbk ?_
                                  · refine zac ?_ ?_ ?_
                                    · refine se_s ?_
                                      · exact zah
                                    · refine zac ?_ ?_ ?_
                                      · refine se_s ?_
                                        · exact zah
                                      · refine zac ?_ ?_ ?_
                                        · refine se_s ?_
                                          · exact zah
                                        · refine zac ?_ ?_ ?_
                                          · refine se_s ?_
                                            · exact zah
                                          · refine zac ?_ ?_ ?_
                                            · refine se_s ?_
                                              · exact zah
                                            · refine zac ?_ ?_ ?_
                                              · refine se_s ?_
                                                · exact zah
                                              · refine zac ?_ ?_ ?_
                                                · refine se_s ?_
                                                  · exact zah
                                                · refine zac ?_ ?_ ?_
                                                  · refine se_s ?_
                                                    · exact zah
                                                  · refine zac ?_ ?_ ?_
                                                    · refine se_s ?_
                                                      · exact zah
                                                    · exact zaj
                                                    · exact zad
                                                  · exact zad
                                                · exact zad
                                              · exact zad
                                            · exact zad
                                          · exact zad
                                        · exact zad
                                      · exact zad
                                    · exact zad
                                · exact lst_is
                              · refine zam zbe zbd ?_ ?_
                                · refine zb2 zbt zb3 ?_ ?_
                                  · refine se_v ?_ ?_
                                    · exact rfl
                                    · exact zbV
                                  · refine se_i ?_
                                    · exact zaf
                                · refine se_i ?_
                                  · exact zaf
                          · refine zab ?_ ?_
                            · refine zbb ?_ ?_ ?_
                              · refine zex ?_
                                · refine zc9 ?_
                                  · refine zbc a__refused hr rfl ?_ ?_
                                    · refine zac ?_ ?_ ?_
                                      · refine zam zaK za8 ?_ ?_
                                        · refine zam zaK za8 ?_ ?_
                                          · refine zjG ?_ ?_ ?_
                                            · refine se_v ?_ ?_
                                              · exact rfl
                                              · exact zaQ
                                            · exact zjb
                                            · refine ziN (Wx := W0) ?_
                                              · refine se_v ?_ ?_
                                                · exact rfl
                                                · exact ze2
                                          · refine SN.sem ?_ ?_
                                            · refine zbk ?_
                                              · refine zac ?_ ?_ ?_
                                                · refine se_v ?_ ?_
                                                  · exact rfl
                                                  · exact zfi
                                                · exact zaj
                                                · exact zai
                                            · exact lst_is
                                        · refine zjG ?_ ?_ ?_
                                          · refine se_v ?_ ?_
                                            · exact rfl
                                            · exact zaQ
                                          · refine ziN (Wx := W0) ?_
                                            · refine zam zaK za8 ?_ ?_
                                              · refine se_v ?_ ?_
                                                · exact rfl
                                                · exact ze2
                                              · refine se_i ?_
                                                · exact zaf
                                          · exact zjb
                                      · exact zaj
                                      · exact zcd
                                    · refine cnt_cons ?_
                                      · exact cnt_nil
                              · refine zab ?_ ?_
                                · refine zau ?_
                                  · refine se_b ?_
                                    · exact zf5
                                · exact zae
                              · exact zae
                            · refine zab ?_ ?_
                              · refine zbb ?_ ?_ ?_
                                · refine SW.st ?_
                                  · refine zhq ?_ ?_
                                    · refine zex ?_
                                      · refine zc9 ?_
                                        · refine zbc a__refused hr rfl ?_ ?_
                                          · refine zac ?_ ?_ ?_
                                            · refine zjG ?_ ?_ ?_
                                              · refine se_v ?_ ?_
                                                · exact rfl
                                                · exact zaQ
                                              · exact zjb
                                              · refine ziN (Wx := W0) ?_
                                                · refine se_un znI pu_neg ?_
                                                  · refine se_i ?_
                                                    · exact zaf
                                            · exact zaj
                                            · exact zbU
                                          · refine cnt_cons ?_
                                            · exact cnt_nil
                                    · refine zfW ?_
                                      · refine zex ?_
                                        · refine zc9 ?_
                                          · refine zbc a__refused hr rfl ?_ ?_
                                            · refine zac ?_ ?_ ?_
                                              · refine zam zaK za8 ?_ ?_
                                                · refine se_v ?_ ?_
                                                  · exact rfl
                                                  · exact zaQ
                                                · refine SN.sem ?_ ?_
                                                  · refine zbk ?_
                                                    · refine zac ?_ ?_ ?_
                                                      · refine se_s ?_
                                                        · exact zah
                                                      · exact zaj
                                                      · exact zad
                                                  · exact lst_is
                                              · exact zaj
                                              · exact zcd
                                            · refine cnt_cons ?_
                                              · exact cnt_nil
                                · refine zab ?_ ?_
                                  · refine zau ?_
                                    · refine se_b ?_
                                      · exact zf5
                                  · exact zae
                                · exact zae
                              · refine zab ?_ ?_
                                · refine zbb ?_ ?_ ?_
                                  · refine zex ?_
                                    · refine zc9 ?_
                                      · refine zbc a__refused hr rfl ?_ ?_
                                        · refine zac ?_ ?_ ?_
                                          · refine zbc a__expr hr rfl ?_ ?_
                                            · refine zac ?_ ?_ ?_
                                              · refine zb2 zbt zb3 ?_ ?_
                                                · refine se_v ?_ ?_
                                                  · exact rfl
                                                  · exact zbV
                                                · refine se_i ?_
                                                  · exact zaf
                                              · refine zac ?_ ?_ ?_
                                                · refine se_s ?_
                                                  · exact zah
                                                · refine zac ?_ ?_ ?_
                                                  · refine zam zaK za8 ?_ ?_
                                                    · refine se_i ?_
                                                      · exact zaf
                                                    · refine zam zbe zbd ?_ ?_
                                                      · refine zb2 zbt zb3 ?_ ?_
                                                        · refine se_v ?_ ?_
                                                          · exact rfl
                                                          · exact zbV
                                                        · refine se_i ?_
                                                          · exact zaf
                                                      · refine se_i ?_
                                                        · exact zaf
                                                  · exact zaj
                                                  · exact zcd
                                                · exact zad
                                              · exact zbU
                                            · refine cnt_cons ?_
                                              · refine cnt_cons ?_
                                                · refine cnt_cons ?_
                                                  · exact cnt_nil
                                          · exact zaj
                                          · exact zfh
                                        · refine cnt_cons ?_
                                          · exact cnt_nil
                                  · refine zab ?_ ?_
                                    · refine zau ?_
                                      · refine se_b ?_
                                        · exact zf5
                                    · exact zae
                                  · exact zae
                                · exact zae
  refine zab ?_ ?_
  · refine zau ?_
    · refine zbc a__refused hr rfl ?_ ?_
      · refine zac ?_ ?_ ?_
        · refine SN.sem ?_ ?_
          · refine zbk ?_
            · exact zaj
          · exact lst_is
        · exact zaj
        · exact zl1
      · refine cnt_cons ?_
        · exact cnt_nil
  exact zae
def lawK : Nat := 8
def lawG : G := g_law
local macro_rules | `(tactic| walk_at "all") => `(tactic| try simp only [zm6, r_nx, r_rt, r_bk, r_ct, r_ex, q_end, q_v, q_vb, r_v, r_vb, r_vo, q_con, r_map, q_1, r_1, q_2, r_2, r_2s, w_int, w_str, w_bl, w_non, w_tup, w_lst, q_tru, zox, q_not, r_not, q_and, q_or, q_ite, r_ite, q_nil, q_cons, znC, r_conA, q_n, r_n, r_argK, q_tup, q_lst, zl6, znp, ziS, zlL, zny, zlI, q_list, q_srt, q_sl, r_slL, r_slH, q_pno, q_pat, r_pat, zog, q_asg, zoh, znE, q_ret, q_retN, zoz, r_if, q_if, q_frz, r_frz, q_app, r_app, q_for, r_for, zoi, znX, zlv, q_fn, znB, r_endN, zop, zoD, o_sub, zod, o_mod, o_pow, o_neg, o_lt, o_le, o_gt, o_ge, o_eqI, o_neI, o_ixL, o_ixT, zns, o_lenT, o_min, o_max, znH, o_truB, o_slS, o_slL, o_isiL, sizeLine_eq, Option.map_some, Option.map_none, List.getElem?_cons_zero, List.getElem?_cons_succ, List.set_cons_zero, List.set_cons_succ, List.map_cons, List.map_nil, List.length_cons, List.length_nil, List.length_map, List.replicate, List.cons_append, List.nil_append, List.append_nil, reduceCtorEq, if_true, if_false, reduceIte, Bool.not_true, Bool.not_false, Nat.reduceSub, Nat.reduceAdd, Nat.reduceLeDiff, Nat.reduceLT, Int.reduceLT, Int.reduceLE, Int.reduceAdd, Int.reduceSub, Int.reduceMul, Int.reduceNeg, Int.reduceAbs, Int.reduceEq, Int.reducePow, Int.reduceMod, Int.reduceDiv, Int.reduceToNat, Nat.zero_le, and_true, true_and, and_self, or_true, true_or, Bool.false_eq_true, decide_eq_true_eq, decide_true, decide_false, Bool.not_eq_true', decide_eq_false_iff_not, not_true_eq_false, not_false_eq_true, eq_self, zoG, r_comp, zmJ, q_capN, q_capC, Option.getD_some, q_isi, r_isi, ty_int, ty_str, ty_bl, znZ, znY, ty_lst, v_int, v_str, v_bl, v_non, v_tup, v_lst, v_dct, q_unp, r_unp, zmU, zmI, q_itp, r_itp, zn9, o_mul, o_abs, List.isEmpty_cons, List.isEmpty_nil, Bool.true_eq_false, Bool.and_self, Bool.and_true, Bool.true_and, Bool.and_false, Bool.false_and, zlY, zm4, zmF, znh, zmR, r_lsC, zlj, znD, q_pop, zoj, zoI, q_appC, r_argX, zlO, r_unE, zlT, zmP, znu, zl8, r_tryX, q_try, r_isx, q_isx, r_kin, q_kin, zn4, znA, q_itx, r_itx, q_irv, r_irv, q_irvT, znz, r_mt, q_mt, t_st, znc, zjf, zj0, r_jv, zll, r_jr, zkZ, o_cat, znU, o_rep, o_ixS, zos, o_str, o_int, o_any, znG, o_inS, znM, o_eqS, o_neS, o_isNn, zn1, o_isnN, t_ls, t_txS, t_txI, Bool.true_or, Bool.false_or, Bool.or_true, Bool.or_false, at0, at1, at2, at3, zhy, s_end, w_end, zlM, zmQ, znQ, r_stC, r_stB, r_stR, r_stX, zhF, zix, zoE, zjF, zjk, q_lix, r_lix])
variable {M : Mm}
theorem t_fig (c : Nat) : zcI [.val (.str ⟨#[c]⟩)] M = some (.v (.bl (!dgc c)), M) := by
 unfold zcI
 walk_at "all"
 rw [znV]
theorem zoo (x : Str) (hx : x.length ≤ 100000) : zbY [.str x] M = some (.v (.bl (figB (cd x))), M) := by
 unfold zbY zcH
 walk_at "all"
 rw [show x.cps.toList = cd x from rfl]
 simp only [eq_e, eq_0]
 have hl : (cd x).length ≤ 100000 := by rw [← zeV]; exact hx
 by_cases h : cd x = []
 ·simp only [h]
  walk_at "all"
  rfl
 ·simp only [h]
  rw [zht (fun c => D.str ⟨#[c]⟩) (fun c => D.bl (!dgc c)) (cd x) [] (fun c _ => t_fig c) (by rw [sizeLine_eq]; simp; omega)]
  walk_at "all"
  rw [show ((cd x).map fun c => D.bl (!dgc c)) = ((cd x).map fun c => !dgc c).map D.bl by rw [List.map_map]; rfl, zhZ]
  walk_at "all"
  simp only [zlR]
  obtain ⟨c, r, e⟩ := List.exists_cons_of_ne_nil h
  unfold figB
  cases hd : (cd x).all dgc
  ·walk_at "all"
  ·walk_at "all"
   rw [if_pos (show x.length ≤ 16777216 by omega), show x.cps.toList = cd x from rfl]
   simp only [h, eq_0]
   rw [e, show atI (c :: r) 0 = some c by simp [atI, ixN]]
   by_cases h0 : (c :: r) = [48]
   ·simp only [h0]
    walk_at "all"
   ·simp only [h0]
    walk_at "all"
    simp only [eq_0, zla, List.head?_cons, Option.some.injEq, List.cons.injEq]
    walk_at "all"
theorem g_sig (x : Str) (hx : x.length ≤ 10000) : za4 [.str x] M = some (.v (.bl (good (cd x))), M) := by
 unfold za4 zbr
 walk_at "all"
 rw [st_cd]
 have hl := zeV x
 by_cases h : (cd x).head? = some 45
 ·obtain ⟨r, e⟩ : ∃ r, cd x = 45 :: r := by
   cases hc : cd x with
   | nil => rw [hc] at h; cases h
   | cons c r => rw [hc] at h; simp at h; exact ⟨r, by rw [h]⟩
  have hs := zki e
  have hr : (Txt.slice x (some 1) none).length ≤ 10000 := by
   rw [zeV, hs]
   rw [e] at hl
   simp at hl
   omega
  simp only [h]
  walk_at "all"
  rw [if_pos (show x.length ≤ 16777216 by omega)]
  walk_at "all"
  simp only [eq_m0, zoo _ (show (Txt.slice x (some 1) none).length ≤ 100000 by omega), hs]
  unfold good fgs
  rw [if_pos h]
  simp only [e, List.tail_cons]
  by_cases h2 : 45 :: r = [45, 48]
  ·simp only [h2]
   walk_at "all"
  ·simp only [h2]
   walk_at "all"
 ·simp only [h]
  walk_at "all"
  simp only [eq_m0, zoo _ (show x.length ≤ 100000 by omega)]
  unfold good fgs
  rw [if_neg h]
  by_cases h2 : cd x = [45, 48]
  ·simp only [h2]
   walk_at "all"
  ·simp only [h2]
   walk_at "all"
def isn (x : Str) : Bool := good (cd x) && decide ((fgs (cd x)).length ≤ 20)
theorem g_num (x : Str) (hx : x.length ≤ 10000) : zco [.str x] M = some (.v (.bl (isn x)), M) := by
 unfold zco zcT isn
 walk_at "all"
 simp only [g_sig x hx]
 walk_at "all"
 rw [if_pos (show x.length ≤ 16777216 by omega)]
 walk_at "all"
 cases hg : good (cd x)
 ·walk_at "all"
 ·have hl := zmt hg
  have := PyProof.Rows.len_lstripChars x (Str.ofString "-")
  walk_at "all"
  rw [if_pos (by omega), hl]
  walk_at "all"
  congr 4
  rw [Bool.eq_iff_iff]
  simp only [decide_eq_true_eq]
  omega
def tvw (x : Str) : Bool := decide (x = "t") || decide (x = "v") || decide (x = "w")
def lf (x L : Str) : Bool := isn x || (tvw x && zf0 x L)
theorem o_tvw {x : Str} : oCmp .isin (.str x) (.tup [.str "t", .str "v", .str "w"]) = some (.bl (tvw x)) := by
 have q : ∀ y : Str, D.eq (.str y) (.str x) = decide (x = y) := fun y => by
  simp only [D.eq]
  rw [Bool.eq_iff_iff]
  simp
  exact eq_comm
 unfold oCmp cmpD cIn tvw
 simp only [D.flat, List.all_cons, List.all_nil, Bool.and_self, if_true, List.any_cons, List.any_nil, Bool.or_false, q, Option.map_some]
 rw [Bool.or_assoc]
theorem zld (x L : Str) (hx : x.length ≤ 10000) : zda [.str x, .str L] M = some (.v (.bl (lf x L)), M) := by
 unfold zda zd3 lf
 walk_at "all"
 simp only [g_num x hx]
 cases isn x
 ·walk_at "all"
  rw [o_tvw]
  cases tvw x
  ·walk_at "all"
  ·walk_at "all"
 ·walk_at "all"
theorem msg_v {x z c : Str} {env : E3.Env} {k : Nat} (he : env[k]? = some (.val (.str x))) (hx : x.length ≤ 100000) (hz : z.length ≤ 1000) : zdJ c (sFst (jVal (sVar k) (jCon z jEnd))) env M = some (.ex c 0, M) := by
 rw [zhp, znc, zll, q_v, he, r_v, ziS, t_txS, sizeLine_eq, if_pos (show x.length ≤ 16777216 by omega), r_jv, sizeLine_eq]
 have e : (Str.empty ++ x).length = x.length := by rw [strLen_append, show Str.empty.length = 0 from rfl]; omega
 rw [if_pos (by omega), zj0, sizeLine_eq, if_pos (by rw [strLen_append]; omega), zjf, sizeLine_eq, if_pos (by rw [strLen_append]; omega)]
 rfl
theorem msg_r {x z c : Str} {env : E3.Env} {k : Nat} (he : env[k]? = some (.val (.str x))) (hx : (reprText x).length ≤ 100000) (hz : z.length ≤ 1000) : zdJ c (sFst (jRep (sVar k) (jCon z jEnd))) env M = some (.ex c 0, M) := by
 rw [zhp, znc, zkZ, q_v, he, r_v, ziS]
 have e : (Str.empty ++ reprText x).length = (reprText x).length := by rw [strLen_append, show Str.empty.length = 0 from rfl]; omega
 rw [r_jr, sizeLine_eq, if_pos ⟨by omega, by omega⟩, zj0, sizeLine_eq, if_pos (by rw [strLen_append]; omega), zjf, sizeLine_eq, if_pos (by rw [strLen_append]; omega)]
 rfl
def sm (x : Str) : Prop := x.length ≤ 9000 ∧ ∀ c ∈ cd x, c < 4294967296
theorem sm.rp {x : Str} (h : sm x) : (reprText x).length ≤ 100000 := by
 have := StrLaws.reprText_len x (fun c hc => h.2 c hc)
 have := h.1
 omega
def NT : List (Str × (Str × Str × Nat)) := [("+", "number", "number", 2), ("-", "number", "number", 2), ("*", "number", "number", 2), ("least", "number", "number", 2), ("most", "number", "number", 2), ("<", "truth", "number", 2), ("=", "truth", "number", 2), ("not", "truth", "truth", 1), ("and", "truth", "truth", 2), ("or", "truth", "truth", 2)]
def ndl (x : Str) : Option (Str × Str × Nat) := (NT.find? fun p => decide (p.1 = x)).map (·.2)
def ndD (q : Str × Str × Nat) : D := .tup [.str q.1, .str q.2.1, .int q.2.2]
theorem tbl_eq : zcu = NT.map fun p => (p.1, ndD p.2) := rfl
theorem zdd {x : Str} : zcn zcu x = (ndl x).map ndD := by
 rw [tbl_eq]
 unfold zcn ndl
 rw [List.find?_map]
 show Option.map _ (Option.map _ (NT.find? fun p => decide (p.1 = x))) = _
 cases NT.find? fun p => decide (p.1 = x) <;> rfl
theorem zjy {x : Str} {q : Str × Str × Nat} (h : ndl x = some q) : (x, q) ∈ NT := by
 unfold ndl at h
 rw [Option.map_eq_some_iff] at h
 obtain ⟨p, hp, rfl⟩ := h
 have h1 := List.find?_some hp
 have h2 := List.mem_of_find?_eq_some hp
 rw [← of_decide_eq_true h1]
 exact h2
theorem zol : NT.all (fun p => (decide (p.2.2.2 = 1) || decide (p.2.2.2 = 2)) && (!isn p.1 && (!tvw p.1 && decide (p.1.length ≤ 5)))) = true := by decide +kernel
theorem zjq {x : Str} {q : Str × Str × Nat} (h : ndl x = some q) : (q.2.2 = 1 ∨ q.2.2 = 2) ∧ isn x = false ∧ tvw x = false ∧ x.length ≤ 5 := by
 have := List.all_eq_true.mp zol _ (zjy h)
 simp only [Bool.and_eq_true, Bool.or_eq_true, decide_eq_true_eq, Bool.not_eq_true'] at this
 exact this
theorem zmi {x : Str} (h : isn x = true ∨ tvw x = true) : ndl x = none := by
  cases hn : ndl x with
  | none => rfl
  | some d =>
    obtain ⟨_, h1, h2, _⟩ := zjq hn
    rw [h1, h2] at h
    rcases h with h | h <;> cases h
theorem zmv {x L : Str} (h : lf x L = true) : ndl x = none := by
 unfold lf at h
 rw [Bool.or_eq_true, Bool.and_eq_true] at h
 exact zmi (h.imp id (·.1))
def zcb (a : Str) : Nat → List Str → Option (List Str)
 | 0, ks => some ks
 | _ + 1, [] => none
 | n + 1, b :: ks => if b = a then zcb a n ks else none
def stepK (L x : Str) (ks : List Str) : Option (List Str) := match ndl x with
 | some q => (zcb q.2.1 q.2.2 ks).map (q.1 :: ·)
 | none => if lf x L = true then some ("number" :: ks) else none
def runK (L : Str) : List Str → List Str → Option (List Str)
 | [], ks => some ks
 | x :: xs, ks => (stepK L x ks).bind (runK L xs)
theorem zcY {L : Str} : ∀ {xs ys ks : List Str}, runK L (xs ++ ys) ks = (runK L xs ks).bind (runK L ys)
  | [], _, _ => rfl
  | x :: xs, ys, ks => by
    rw [List.cons_append, runK, runK]
    cases stepK L x ks with
    | none => rfl
    | some k => exact zcY
abbrev kc (ks : List Str) : E3.Cl := .lst (ks.map D.str).reverse
theorem zd6 {k : Nat} {d : D} {ds : List D} : popZ M k (d :: ds).reverse (d :: ds).reverse[(d :: ds).reverse.length - 1]? = some (.v d, M.set k (.lst ds.reverse)) := by
 have e1 : (d :: ds).reverse[(d :: ds).reverse.length - 1]? = some d := by simp
 have e2 : (d :: ds).reverse.dropLast = ds.reverse := by simp
 rw [e1, zlj, e2]
theorem zhB {x : Str} {q : Str × Str × Nat} {i : Int} {ks : List Str} (hl : x.length ≤ 5) : zcq [.val (.str x), .val (.ref M.length), .val (ndD q), .val (.int i)] (M ++ [kc ks]) = match ks with
    | [] => some (.ex "NoExpr" 0, M ++ [kc []])
    | b :: ks => if b = q.2.1 then some (.nx [.val (.str x), .val (.ref M.length), .val (ndD q), .val (.int i)], M ++ [kc ks]) else some (.ex "NoExpr" 0, M ++ [kc ks]) := by
  have mg : ∀ N : Mm, zdJ "NoExpr" (sFst (jVal (sVar 0) (jCon " needs other words behind it" jEnd))) [.val (.str x), .val (.ref M.length), .val (ndD q), .val (.int i)] N = some (.ex "NoExpr" 0, N) := fun N => msg_v (M := N) (k := 0) rfl (show x.length ≤ 100000 by omega) (by decide +kernel)
  unfold zcq kc ndD
  unfold ndD at mg
  cases ks with
  | nil =>
    walk_at "all"
    rw [show ([] : List D).reverse = [] from rfl]
    walk_at "all"
    rw [mg]
    rfl
  | cons b ks =>
    walk_at "all"
    rw [List.isEmpty_reverse]
    walk_at "all"
    rw [zd6]
    walk_at "all"
    by_cases h : b = q.2.1
    · simp only [h]
      walk_at "all"
    · simp only [h]
      walk_at "all"
      rw [mg]
      rfl
theorem tk_go {x : Str} {q : Str × Str × Nat} (h : ndl x = some q) (ks : List Str) : (∃ ks', zcb q.2.1 q.2.2 ks = some ks' ∧ zbD [.str x, .ref M.length] (M ++ [kc ks]) = some (.v .non, M ++ [kc ks'])) ∨ (zcb q.2.1 q.2.2 ks = none ∧ ∃ ks', zbD [.str x, .ref M.length] (M ++ [kc ks]) = some (.x "NoExpr" 0, M ++ [kc ks'])) := by
  obtain ⟨hn, _, _, hl⟩ := zjq h
  unfold zbD zcg
  walk_at "all"
  rw [zdd, h]
  walk_at "all"
  have i2 : ∀ N : Mm, mapR N (oIx (ndD q) (.int 2)) = some (.v (.int q.2.2), N) := fun N => by
    unfold ndD
    walk_at "all"
  have w0 : ∀ N : Mm, vw N (ndD q) = ndD q := fun N => rfl
  simp only [w0, i2]
  walk_at "all"
  rcases hn with hn | hn
  · rw [hn, zg3 (by omega), show ((List.range ((1 : Nat) : Int).toNat).map fun (k : Nat) => D.int (0 + k)) = [.int 0] from rfl]
    walk_at "all"
    rw [zhB hl]
    cases ks with
    | nil => exact .inr ⟨rfl, [], rfl⟩
    | cons b ks =>
      dsimp only
      unfold zcb
      by_cases hb : b = q.2.1
      · rw [if_pos hb, if_pos hb]
        exact .inl ⟨ks, rfl, rfl⟩
      · rw [if_neg hb, if_neg hb]
        exact .inr ⟨rfl, ks, rfl⟩
  · rw [hn, zg3 (by omega), show ((List.range ((2 : Nat) : Int).toNat).map fun (k : Nat) => D.int (0 + k)) = [.int 0, .int 1] from rfl]
    walk_at "all"
    rw [zhB hl]
    cases ks with
    | nil => exact .inr ⟨rfl, [], rfl⟩
    | cons b ks =>
      dsimp only
      unfold zcb
      by_cases hb : b = q.2.1
      · rw [if_pos hb, if_pos hb]
        walk_at "all"
        rw [zhB hl]
        cases ks with
        | nil => exact .inr ⟨rfl, [], rfl⟩
        | cons b ks =>
          dsimp only
          unfold zcb
          by_cases hb : b = q.2.1
          · rw [if_pos hb, if_pos hb]
            exact .inl ⟨ks, rfl, rfl⟩
          · rw [if_neg hb, if_neg hb]
            exact .inr ⟨rfl, ks, rfl⟩
      · rw [if_neg hb, if_neg hb]
        exact .inr ⟨rfl, ks, rfl⟩
theorem zlz {ks : List Str} {y : Str} : (ks.map D.str).reverse ++ [D.str y] = ((y :: ks).map D.str).reverse := by rw [List.map_cons, List.reverse_cons]
theorem zlJ {d0 : D} {x L wt : Str} {ks : List Str} (hx : sm x) (hk : ks.length < 1000) : (∃ ks', stepK L x ks = some ks' ∧ zaA [.val d0, .val (.str L), .val (.str wt), .val (.ref M.length), .val (.str x)] (M ++ [kc ks]) = some (.nx [.val d0, .val (.str L), .val (.str wt), .val (.ref M.length), .val (.str x)], M ++ [kc ks'])) ∨ (stepK L x ks = none ∧ ∃ ks', zaA [.val d0, .val (.str L), .val (.str wt), .val (.ref M.length), .val (.str x)] (M ++ [kc ks]) = some (.ex "NoExpr" 0, M ++ [kc ks'])) := by
  have mg := msg_r (M := M ++ [kc ks]) (c := "NoExpr") (z := " may not stand here") (k := 4) (env := [.val d0, .val (.str L), .val (.str wt), .val (.ref M.length), .val (.str x)]) rfl hx.rp (by decide +kernel)
  unfold zaA stepK
  cases hn : ndl x with
  | some q =>
    have i0 : ∀ N : Mm, mapR N (oIx (ndD q) (.int 0)) = some (.v (.str q.1), N) := fun N => by
      unfold ndD
      walk_at "all"
    have w0 : ∀ N : Mm, vw N (ndD q) = ndD q := fun N => rfl
    dsimp only
    rcases tk_go (M := M) hn ks with ⟨ks', e1, e2⟩ | ⟨e1, ks', e2⟩
    · have hk' : ks'.length ≤ ks.length := by
        have : ∀ (n : Nat) (ks ks' : List Str), zcb q.2.1 n ks = some ks' → ks'.length ≤ ks.length := fun n => by
          induction n with
          | zero => intro ks ks' h; cases h; exact Nat.le_refl _
          | succ n ih =>
            intro ks ks' h
            cases ks with
            | nil => cases h
            | cons b ks =>
              unfold zcb at h
              split at h
              · have := ih ks ks' h
                rw [List.length_cons]
                omega
              · cases h
        exact this _ _ _ e1
      refine .inl ⟨q.1 :: ks', by rw [e1]; rfl, ?_⟩
      walk_at "all"
      rw [zdd, hn]
      simp only [Option.map_some, Option.isSome_some]
      walk_at "all"
      rw [e2]
      walk_at "all"
      rw [zdd, hn]
      walk_at "all"
      simp only [w0, i0]
      unfold kc
      walk_at "all"
      rw [List.length_reverse, List.length_map, if_pos (by omega), zlz]
      walk_at "all"
    · refine .inr ⟨by rw [e1]; rfl, ks', ?_⟩
      walk_at "all"
      rw [zdd, hn]
      simp only [Option.map_some, Option.isSome_some]
      walk_at "all"
      rw [e2]
      rfl
  | none =>
    dsimp only
    cases hf : lf x L
    · refine .inr ⟨rfl, ks, ?_⟩
      walk_at "all"
      rw [zdd, hn]
      simp only [Option.map_none, Option.isSome_none]
      walk_at "all"
      rw [zld x L (by have := hx.1; omega), hf]
      walk_at "all"
      rw [mg]
      rfl
    · refine .inl ⟨"number" :: ks, rfl, ?_⟩
      walk_at "all"
      rw [zdd, hn]
      simp only [Option.map_none, Option.isSome_none]
      walk_at "all"
      rw [zld x L (by have := hx.1; omega), hf]
      unfold kc
      walk_at "all"
      rw [List.length_reverse, List.length_map, if_pos (by omega), zlz]
      walk_at "all"
theorem zjm {L x : Str} {ks ks' : List Str} (h : stepK L x ks = some ks') : ks'.length ≤ ks.length + 1 := by
  have tk : ∀ (a : Str) (n : Nat) (ks ks' : List Str), zcb a n ks = some ks' → ks'.length ≤ ks.length := fun a n => by
    induction n with
    | zero => intro ks ks' h; cases h; exact Nat.le_refl _
    | succ n ih =>
      intro ks ks' h
      cases ks with
      | nil => cases h
      | cons b ks =>
        unfold zcb at h
        split at h
        · have := ih ks ks' h
          rw [List.length_cons]
          omega
        · cases h
  unfold stepK at h
  split at h
  · rw [Option.map_eq_some_iff] at h
    obtain ⟨k1, h1, rfl⟩ := h
    have := tk _ _ _ _ h1
    rw [List.length_cons]
    omega
  · split at h
    · cases h; rw [List.length_cons]; omega
    · cases h
theorem zeM {L : Str} : ∀ {xs ks ks' : List Str}, runK L xs ks = some ks' → ks'.length ≤ ks.length + xs.length
  | [], _, _, h => by cases h; exact Nat.le_add_right _ _
  | x :: xs, ks, ks', h => by
    unfold runK at h
    rw [Option.bind_eq_some_iff] at h
    obtain ⟨k1, h1, h2⟩ := h
    have := zjm h1
    have := zeM h2
    rw [List.length_cons]
    omega
theorem ziR : ∀ ys : List Str, D.deps (ys.map D.str) = 0
 | [] => by simp [D.deps]
 | y :: ys => by simp [D.deps, D.dep, ziR ys]
theorem zlh : ∀ (as bs : List Str), D.eqs (as.map D.str) (bs.map D.str) = decide (as = bs)
  | [], [] => by simp [D.eqs]
  | [], b :: bs => by simp [D.eqs]
  | a :: as, [] => by simp [D.eqs]
  | a :: as, b :: bs => by
    simp only [List.map_cons, D.eqs, D.eq, zlh as bs]
    rw [Bool.eq_iff_iff]
    simp
theorem zid {as bs : List Str} : oCmp .ne (.lst (as.map D.str)) (.lst (bs.map D.str)) = some (.bl (!decide (as = bs))) := by
 unfold oCmp cmpD cNe
 rw [if_pos ⟨by simp [eqOk, D.flat, D.dep, ziR], by simp [D.dep, ziR]⟩]
 simp only [D.eq, zlh, Option.map_some]
theorem o_neK {ks : List Str} {wt : Str} : oCmp .ne (.lst (ks.map D.str).reverse) (.lst [.str wt]) = some (.bl (!decide (ks = [wt]))) := by
 rw [← List.map_reverse, show [D.str wt] = [wt].map D.str from rfl, zid]
 have : (ks.reverse = [wt]) = (ks = [wt]) := propext ⟨fun h => by rw [← List.reverse_reverse ks, h]; rfl, fun h => by rw [h]; rfl⟩
 simp only [this]
def CkQ (M : Mm) (d0 : D) (L wt : Str) (ws : List Str) (o : E3.OS) : Prop := (∃ ks s4, o = some (.nx [.val d0, .val (.str L), .val (.str wt), .val (.ref M.length), s4], M ++ [kc ks]) ∧ runK L ws.reverse [] = some ks) ∨ (runK L ws.reverse [] = none ∧ ∃ ks, o = some (.ex "NoExpr" 0, M ++ [kc ks]))
def Wds (M : Mm) (d0 : D) (ws : List Str) : Prop := d0 = .lst (ws.map D.str) ∨ ∃ j, d0 = .ref j ∧ M[j]? = some (.lst (ws.map D.str))
theorem take_snoc {ws : List Str} {k : Nat} {x : Str} (h : ws[k]? = some x) : ws.take (k + 1) = ws.take k ++ [x] := by
 rw [List.take_add_one, h]; rfl
theorem zmN {d0 : D} {L wt : Str} {ws : List Str} (hd : Wds M d0 ws) (hs : ∀ x ∈ ws, sm x) (hl : ws.length ≤ 900) : CkQ M d0 L wt ws (forV 4 zaA [.val d0, .val (.str L), .val (.str wt), .val (.ref M.length), .un] (some (.v [d0], M ++ [kc []]))) := by
  -- a turn
  have turn : ∀ (k : Nat) (x : Str) (env : E3.Env) (N : Mm), ws.reverse[k]? = some x → (∃ ks s4, env = [.val d0, .val (.str L), .val (.str wt), .val (.ref M.length), s4] ∧ N = M ++ [kc ks] ∧ runK L (ws.reverse.take k) [] = some ks) → 4 < env.length ∧ Step (fun env N => ∃ ks s4, env = [.val d0, .val (.str L), .val (.str wt), .val (.ref M.length), s4] ∧ N = M ++ [kc ks] ∧ runK L (ws.reverse.take (k + 1)) [] = some ks) (CkQ M d0 L wt ws) (zaA (env.set 4 (.val (.str x))) N) := by
    rintro k x env N hx ⟨ks, s4, rfl, rfl, hk⟩
    refine ⟨by show 4 < 5; decide, ?_⟩
    have hlen := zeM hk
    have hkl : (ws.reverse.take k).length ≤ ws.length := by rw [List.length_take, List.length_reverse]; exact Nat.min_le_right _ _
    rw [List.length_nil] at hlen
    show Step _ _ (zaA [.val d0, .val (.str L), .val (.str wt), .val (.ref M.length), .val (.str x)] (M ++ [kc ks]))
    rcases zlJ (M := M) (d0 := d0) (L := L) (wt := wt) (ks := ks) (hs x (by have := List.mem_of_getElem? hx; simpa using this)) (by omega) with ⟨ks', e1, e2⟩ | ⟨e1, ks', e2⟩
    · rw [e2]
      refine ⟨ks', _, rfl, rfl, ?_⟩
      rw [take_snoc hx, zcY, hk]
      show (stepK L x ks).bind _ = _
      rw [e1]
      rfl
    · rw [e2]
      refine .inr ⟨?_, ks', rfl⟩
      have : ws.reverse = ws.reverse.take k ++ x :: ws.reverse.drop (k + 1) := by
        have hlt := (List.getElem?_eq_some_iff.mp hx).1
        have hxe := (List.getElem?_eq_some_iff.mp hx).2
        rw [← hxe, ← List.drop_eq_getElem_cons hlt, List.take_append_drop]
      rw [this, zcY, hk]
      show (stepK L x ks).bind _ = _
      rw [e1]
      rfl
  rcases hd with rfl | ⟨j, rfl, hj⟩
  · rw [zjF]
    refine zek (CkQ M _ L wt ws) (fun k env N => ∃ ks s4, env = [.val (.lst (ws.map D.str)), .val (.str L), .val (.str wt), .val (.ref M.length), s4] ∧ N = M ++ [kc ks] ∧ runK L (ws.reverse.take k) [] = some ks) ⟨[], .un, rfl, rfl, by rw [List.take_zero]; rfl⟩ ?_ ?_
    · intro k d env N hd hJ
      rw [← List.map_reverse, List.getElem?_map, Option.map_eq_some_iff] at hd
      obtain ⟨x, hx, rfl⟩ := hd
      exact turn k x env N hx hJ
    · rintro env N ⟨ks, s4, rfl, rfl, hk⟩
      rw [List.length_reverse, List.length_map, ← List.length_reverse, List.take_length] at hk
      exact .inl ⟨ks, s4, rfl, hk⟩
  · have hjl : j < M.length := (List.getElem?_eq_some_iff.mp hj).1
    have hjN : ∀ c : E3.Cl, (M ++ [c])[j]? = some (.lst (ws.map D.str)) := fun c => by rw [List.getElem?_append_left hjl]; exact hj
    rw [zjk, hjN, zoj]
    refine zkw (ds := ws.map D.str) (CkQ M _ L wt ws) (fun r env N => r ≤ ws.length ∧ ∃ ks s4, env = [.val (.ref j), .val (.str L), .val (.str wt), .val (.ref M.length), s4] ∧ N = M ++ [kc ks] ∧ runK L (ws.reverse.take (ws.length - r)) [] = some ks) ⟨by rw [List.length_map]; exact Nat.le_refl _, [], .un, rfl, rfl, by rw [List.length_map, Nat.sub_self, List.take_zero]; rfl⟩ ?_ ?_
    · rintro r d env N hd ⟨hr, hJ⟩
      rw [List.getElem?_map, Option.map_eq_some_iff] at hd
      obtain ⟨x, hx, rfl⟩ := hd
      have hx' : ws.reverse[ws.length - (r + 1)]? = some x := by
        rw [List.getElem?_reverse (by omega), show ws.length - 1 - (ws.length - (r + 1)) = r by omega]
        exact hx
      have t := turn _ x env N hx' hJ
      obtain ⟨ks, s4, _, rfl, _⟩ := hJ
      refine ⟨hjN _, t.1, ?_⟩
      have t2 := t.2
      rw [show ws.length - (r + 1) + 1 = ws.length - r by omega] at t2
      revert t2
      cases zaA (env.set 4 (.val (.str x))) (M ++ [kc ks]) with
      | none => exact id
      | some o =>
        obtain ⟨o, N⟩ := o
        cases o with
        | nx e => exact fun z => ⟨by omega, z⟩
        | ct e => exact fun z => ⟨by omega, z⟩
        | bk e => exact id
        | rt d => exact id
        | ex c n => exact id
    · rintro env N ⟨_, ks, s4, rfl, rfl, hk⟩
      rw [Nat.sub_zero, ← List.length_reverse, List.take_length] at hk
      exact .inl ⟨ks, s4, rfl, hk⟩
theorem zlg {d0 : D} {L wt : Str} {ws : List Str} (hd : Wds M d0 ws) (hs : ∀ x ∈ ws, sm x) (hl : ws.length ≤ 900) : (runK L ws.reverse [] = some [wt] ∧ zbE [d0, .str L, .str wt] M = some (.v .non, M ++ [kc [wt]])) ∨ (runK L ws.reverse [] ≠ some [wt] ∧ ∃ ks, zbE [d0, .str L, .str wt] M = some (.x "NoExpr" 0, M ++ [kc ks])) := by
 have lp := zmN (M := M) (L := L) (wt := wt) hd hs hl
 unfold zbE zcf
 walk_at "all"
 have e0 : forV 4 zaA [.val d0, .val (.str L), .val (.str wt), .val (.ref M.length), .un] (some (.v [d0], M ++ [.lst []])) = forV 4 zaA [.val d0, .val (.str L), .val (.str wt), .val (.ref M.length), .un] (some (.v [d0], M ++ [kc []])) := rfl
 rw [e0]
 rcases lp with ⟨ks, s4, e, hk⟩ | ⟨hk, ks, e⟩
 ·rw [e]
  unfold kc
  walk_at "all"
  rw [o_neK]
  by_cases h : ks = [wt]
  ·subst h
   refine .inl ⟨hk, ?_⟩
   walk_at "all"
  ·refine .inr ⟨fun z => h (by rw [hk] at z; exact Option.some.inj z), ks, ?_⟩
   simp only [h]
   walk_at "all"
   rw [zhp]
   walk_at "all"
 ·rw [e]
  refine .inr ⟨by rw [hk]; exact nofun, ks, rfl⟩
def Vk (k : Str) (d : D) (m : Nat) : Prop := (k = "number" ∧ ∃ i : Int, d = .int i ∧ i.natAbs < 2 ^ (210 * m)) ∨ (k = "truth" ∧ ∃ b, d = .bl b)
inductive TyS : List Str → List D → Nat → Prop
 | nil : TyS [] [] 0
 | cons {k : Str} {d : D} {ks : List Str} {ds : List D} {m n : Nat} : Vk k d m → TyS ks ds n → TyS (k :: ks) (d :: ds) (m + n)
def opD (x : Str) (a b : D) : D := match a, b with
 | .int i, .int j => if x = "+" then .int (i + j) else if x = "-" then .int (i - j) else if x = "*" then .int (i * j) else if x = "least" then .int (if j < i then j else i) else if x = "most" then .int (if j > i then j else i) else if x = "<" then .bl (decide (i < j)) else .bl (decide (i = j))
 | .bl p, .bl q => if x = "and" then .bl (p && q) else .bl (p || q)
 | _, _ => .non
theorem zhQ {n m : Nat} (hm : m ≤ 47) (h : n < 2 ^ (210 * m)) : n.log2 < 10000 := by
 by_cases h0 : n = 0
 ·rw [h0]; decide
 ·have := (Nat.log2_lt h0).mpr h
  omega
theorem zen {n a b : Nat} (h : n < 2 ^ (210 * a)) (hab : a ≤ b) : n < 2 ^ (210 * b) := Nat.lt_of_lt_of_le h (Nat.pow_le_pow_right (by decide) (by omega))
theorem pw_add {i j : Int} {a b : Nat} (hi : i.natAbs < 2 ^ (210 * a)) (hj : j.natAbs < 2 ^ (210 * b)) : (i + j).natAbs < 2 ^ (210 * (a + b + 1)) ∧ (i - j).natAbs < 2 ^ (210 * (a + b + 1)) ∧ (i * j).natAbs < 2 ^ (210 * (a + b + 1)) := by
 have h1 := zen hi (Nat.le_add_right a b)
 have h2 := zen hj (Nat.le_add_left b a)
 have h3 : 2 ^ (210 * (a + b)) + 2 ^ (210 * (a + b)) ≤ 2 ^ (210 * (a + b + 1)) := by
  rw [← Nat.two_mul, ← Nat.pow_succ']
  exact Nat.pow_le_pow_right (by decide) (by omega)
 refine ⟨by omega, by omega, ?_⟩
 rw [Int.natAbs_mul]
 have h4 : i.natAbs * j.natAbs < 2 ^ (210 * a) * 2 ^ (210 * b) := Nat.mul_lt_mul_of_lt_of_le hi (Nat.le_of_lt hj) (Nat.pos_of_ne_zero (by intro z; rw [z] at hj; exact absurd hj (Nat.not_lt_zero _)))
 rw [← Nat.pow_add, show 210 * a + 210 * b = 210 * (a + b) by omega] at h4
 exact Nat.lt_of_lt_of_le h4 (Nat.pow_le_pow_right (by decide) (by omega))
theorem zkH {x : Str} {q : Str × Str × Nat} (h : ndl x = some q) (h2 : q.2.2 = 2) : (x = "+" ∨ x = "-" ∨ x = "*" ∨ x = "least" ∨ x = "most") ∧ q.1 = "number" ∧ q.2.1 = "number" ∨ (x = "<" ∨ x = "=") ∧ q.1 = "truth" ∧ q.2.1 = "number" ∨ (x = "and" ∨ x = "or") ∧ q.1 = "truth" ∧ q.2.1 = "truth" := by
 have := zjy h
 unfold NT at this
 simp only [List.mem_cons, List.not_mem_nil, or_false, Prod.mk.injEq] at this
 rcases this with ⟨rfl, rfl⟩ | ⟨rfl, rfl⟩ | ⟨rfl, rfl⟩ | ⟨rfl, rfl⟩ | ⟨rfl, rfl⟩ | ⟨rfl, rfl⟩ | ⟨rfl, rfl⟩ | ⟨rfl, rfl⟩ | ⟨rfl, rfl⟩ | ⟨rfl, rfl⟩
 ·exact .inl ⟨.inl rfl, rfl, rfl⟩
 ·exact .inl ⟨.inr (.inl rfl), rfl, rfl⟩
 ·exact .inl ⟨.inr (.inr (.inl rfl)), rfl, rfl⟩
 ·exact .inl ⟨.inr (.inr (.inr (.inl rfl))), rfl, rfl⟩
 ·exact .inl ⟨.inr (.inr (.inr (.inr rfl))), rfl, rfl⟩
 ·exact .inr (.inl ⟨.inl rfl, rfl, rfl⟩)
 ·exact .inr (.inl ⟨.inr rfl, rfl, rfl⟩)
 ·cases h2
 ·exact .inr (.inr ⟨.inl rfl, rfl, rfl⟩)
 ·exact .inr (.inr ⟨.inr rfl, rfl, rfl⟩)
theorem ndl_1 {x : Str} {q : Str × Str × Nat} (h : ndl x = some q) (h1 : q.2.2 = 1) : x = "not" ∧ q.1 = "truth" ∧ q.2.1 = "truth" := by
 have := zjy h
 unfold NT at this
 simp only [List.mem_cons, List.not_mem_nil, or_false, Prod.mk.injEq] at this
 rcases this with ⟨rfl, rfl⟩ | ⟨rfl, rfl⟩ | ⟨rfl, rfl⟩ | ⟨rfl, rfl⟩ | ⟨rfl, rfl⟩ | ⟨rfl, rfl⟩ | ⟨rfl, rfl⟩ | ⟨rfl, rfl⟩ | ⟨rfl, rfl⟩ | ⟨rfl, rfl⟩ <;> first | (cases h1; done) | exact ⟨rfl, rfl, rfl⟩
theorem op_vk {x : Str} {q : Str × Str × Nat} {a b : D} {m n : Nat} (h : ndl x = some q) (h2 : q.2.2 = 2) (ha : Vk q.2.1 a m) (hb : Vk q.2.1 b n) : Vk q.1 (opD x a b) (m + n + 1) := by
 have nt : ¬ (("number" : Str) = "truth") := by decide +kernel
 have tn : ¬ (("truth" : Str) = "number") := by decide +kernel
 rcases zkH h h2 with ⟨hx, e1, e2⟩ | ⟨hx, e1, e2⟩ | ⟨hx, e1, e2⟩
 ·rw [e2] at ha hb
  rcases ha with ⟨_, i, rfl, hi⟩ | ⟨z, _⟩
  ·rcases hb with ⟨_, j, rfl, hj⟩ | ⟨z, _⟩
   ·obtain ⟨p1, p2, p3⟩ := pw_add hi hj
    rw [e1]
    refine .inl ⟨rfl, ?_⟩
    have dd : ∀ {a b : Str}, decide (a = b) = false → ¬ a = b := fun h => of_decide_eq_false h
    unfold opD
    dsimp only
    rcases hx with rfl | rfl | rfl | rfl | rfl
    ·rw [if_pos rfl]; exact ⟨_, rfl, p1⟩
    ·rw [if_neg (dd (by decide +kernel)), if_pos rfl]; exact ⟨_, rfl, p2⟩
    ·rw [if_neg (dd (by decide +kernel)), if_neg (dd (by decide +kernel)), if_pos rfl]; exact ⟨_, rfl, p3⟩
    ·rw [if_neg (dd (by decide +kernel)), if_neg (dd (by decide +kernel)), if_neg (dd (by decide +kernel)), if_pos rfl]
     refine ⟨_, rfl, ?_⟩
     split
     ·exact zen hj (by omega)
     ·exact zen hi (by omega)
    ·rw [if_neg (dd (by decide +kernel)), if_neg (dd (by decide +kernel)), if_neg (dd (by decide +kernel)), if_neg (dd (by decide +kernel)), if_pos rfl]
     refine ⟨_, rfl, ?_⟩
     split
     ·exact zen hj (by omega)
     ·exact zen hi (by omega)
   ·exact absurd z nt
  ·exact absurd z nt
 ·rw [e2] at ha hb
  rcases ha with ⟨_, i, rfl, hi⟩ | ⟨z, _⟩
  ·rcases hb with ⟨_, j, rfl, hj⟩ | ⟨z, _⟩
   ·rw [e1]
    refine .inr ⟨rfl, ?_⟩
    unfold opD
    dsimp only
    have d1 : ¬ (x = "+") := by rcases hx with rfl | rfl <;> decide +kernel
    have d2 : ¬ (x = "-") := by rcases hx with rfl | rfl <;> decide +kernel
    have d3 : ¬ (x = "*") := by rcases hx with rfl | rfl <;> decide +kernel
    have d4 : ¬ (x = "least") := by rcases hx with rfl | rfl <;> decide +kernel
    have d5 : ¬ (x = "most") := by rcases hx with rfl | rfl <;> decide +kernel
    rw [if_neg d1, if_neg d2, if_neg d3, if_neg d4, if_neg d5]
    split <;> exact ⟨_, rfl⟩
   ·exact absurd z nt
  ·exact absurd z nt
 ·rw [e2] at ha hb
  rcases ha with ⟨z, _⟩ | ⟨_, p, rfl⟩
  ·exact absurd z tn
  ·rcases hb with ⟨z, _⟩ | ⟨_, p', rfl⟩
   ·exact absurd z tn
   ·rw [e1]
    refine .inr ⟨rfl, ?_⟩
    unfold opD
    dsimp only
    split <;> exact ⟨_, rfl⟩
theorem zaZ {a b : Str} (h : decide (a = b) = false) : (a = b) = False := eq_false (of_decide_eq_false h)
theorem nq0 : (Str.ofString "-" = Str.ofString "+") = False := zaZ (by decide +kernel)
theorem nq1 : (Str.ofString "*" = Str.ofString "+") = False := zaZ (by decide +kernel)
theorem nq2 : (Str.ofString "*" = Str.ofString "-") = False := zaZ (by decide +kernel)
theorem nq3 : (Str.ofString "least" = Str.ofString "+") = False := zaZ (by decide +kernel)
theorem nq4 : (Str.ofString "least" = Str.ofString "-") = False := zaZ (by decide +kernel)
theorem nq5 : (Str.ofString "least" = Str.ofString "*") = False := zaZ (by decide +kernel)
theorem nq6 : (Str.ofString "most" = Str.ofString "+") = False := zaZ (by decide +kernel)
theorem nq7 : (Str.ofString "most" = Str.ofString "-") = False := zaZ (by decide +kernel)
theorem nq8 : (Str.ofString "most" = Str.ofString "*") = False := zaZ (by decide +kernel)
theorem nq9 : (Str.ofString "most" = Str.ofString "least") = False := zaZ (by decide +kernel)
theorem nq10 : (Str.ofString "<" = Str.ofString "+") = False := zaZ (by decide +kernel)
theorem nq11 : (Str.ofString "<" = Str.ofString "-") = False := zaZ (by decide +kernel)
theorem nq12 : (Str.ofString "<" = Str.ofString "*") = False := zaZ (by decide +kernel)
theorem nq13 : (Str.ofString "<" = Str.ofString "least") = False := zaZ (by decide +kernel)
theorem nq14 : (Str.ofString "<" = Str.ofString "most") = False := zaZ (by decide +kernel)
theorem nq15 : (Str.ofString "=" = Str.ofString "+") = False := zaZ (by decide +kernel)
theorem nq16 : (Str.ofString "=" = Str.ofString "-") = False := zaZ (by decide +kernel)
theorem nq17 : (Str.ofString "=" = Str.ofString "*") = False := zaZ (by decide +kernel)
theorem nq18 : (Str.ofString "=" = Str.ofString "least") = False := zaZ (by decide +kernel)
theorem nq19 : (Str.ofString "=" = Str.ofString "most") = False := zaZ (by decide +kernel)
theorem nq20 : (Str.ofString "=" = Str.ofString "<") = False := zaZ (by decide +kernel)
theorem nq21 : (Str.ofString "and" = Str.ofString "+") = False := zaZ (by decide +kernel)
theorem nq22 : (Str.ofString "and" = Str.ofString "-") = False := zaZ (by decide +kernel)
theorem nq23 : (Str.ofString "and" = Str.ofString "*") = False := zaZ (by decide +kernel)
theorem nq24 : (Str.ofString "and" = Str.ofString "least") = False := zaZ (by decide +kernel)
theorem nq25 : (Str.ofString "and" = Str.ofString "most") = False := zaZ (by decide +kernel)
theorem nq26 : (Str.ofString "and" = Str.ofString "<") = False := zaZ (by decide +kernel)
theorem nq27 : (Str.ofString "and" = Str.ofString "=") = False := zaZ (by decide +kernel)
theorem nq28 : (Str.ofString "or" = Str.ofString "+") = False := zaZ (by decide +kernel)
theorem nq29 : (Str.ofString "or" = Str.ofString "-") = False := zaZ (by decide +kernel)
theorem nq30 : (Str.ofString "or" = Str.ofString "*") = False := zaZ (by decide +kernel)
theorem nq31 : (Str.ofString "or" = Str.ofString "least") = False := zaZ (by decide +kernel)
theorem nq32 : (Str.ofString "or" = Str.ofString "most") = False := zaZ (by decide +kernel)
theorem nq33 : (Str.ofString "or" = Str.ofString "<") = False := zaZ (by decide +kernel)
theorem nq34 : (Str.ofString "or" = Str.ofString "=") = False := zaZ (by decide +kernel)
theorem nq35 : (Str.ofString "or" = Str.ofString "and") = False := zaZ (by decide +kernel)
theorem nq36 : (Str.ofString "<" = Str.ofString "and") = False := zaZ (by decide +kernel)
theorem nq37 : (Str.ofString "<" = Str.ofString "or") = False := zaZ (by decide +kernel)
theorem nq38 : (Str.ofString "=" = Str.ofString "and") = False := zaZ (by decide +kernel)
theorem nq39 : (Str.ofString "=" = Str.ofString "or") = False := zaZ (by decide +kernel)
theorem nq40 : (Str.ofString "+" = Str.ofString "not") = False := zaZ (by decide +kernel)
theorem nq41 : (Str.ofString "-" = Str.ofString "not") = False := zaZ (by decide +kernel)
theorem nq42 : (Str.ofString "*" = Str.ofString "not") = False := zaZ (by decide +kernel)
theorem nq43 : (Str.ofString "least" = Str.ofString "not") = False := zaZ (by decide +kernel)
theorem nq44 : (Str.ofString "most" = Str.ofString "not") = False := zaZ (by decide +kernel)
theorem nq45 : (Str.ofString "<" = Str.ofString "not") = False := zaZ (by decide +kernel)
theorem nq46 : (Str.ofString "=" = Str.ofString "not") = False := zaZ (by decide +kernel)
theorem nq47 : (Str.ofString "and" = Str.ofString "not") = False := zaZ (by decide +kernel)
theorem nq48 : (Str.ofString "or" = Str.ofString "not") = False := zaZ (by decide +kernel)
local macro_rules | `(tactic| walk_at "ops") => `(tactic| try simp only [nq0, nq1, nq2, nq3, nq4, nq5, nq6, nq7, nq8, nq9, nq10, nq11, nq12, nq13, nq14, nq15, nq16, nq17, nq18, nq19, nq20, nq21, nq22, nq23, nq24, nq25, nq26, nq27, nq28, nq29, nq30, nq31, nq32, nq33, nq34, nq35, nq36, nq37, nq38, nq39, nq40, nq41, nq42, nq43, nq44, nq45, nq46, nq47, nq48])
theorem cb_ok {x : Str} {q : Str × Str × Nat} {a b : D} {m n : Nat} (h : ndl x = some q) (h2 : q.2.2 = 2) (ha : Vk q.2.1 a m) (hb : Vk q.2.1 b n) (hm : m ≤ 47) (hn : n ≤ 47) : zcQ [.str x, a, b] M = some (.v (opD x a b), M) := by
 have nt : ¬ (("number" : Str) = "truth") := by decide +kernel
 have tn : ¬ (("truth" : Str) = "number") := by decide +kernel
 unfold zcQ zdf
 rcases zkH h h2 with ⟨hx, e1, e2⟩ | ⟨hx, e1, e2⟩ | ⟨hx, e1, e2⟩
 ·rw [e2] at ha hb
  rcases ha with ⟨_, i, rfl, hi⟩ | ⟨z, _⟩
  ·rcases hb with ⟨_, j, rfl, hj⟩ | ⟨z, _⟩
   ·have li := zhQ hm hi
    have lj := zhQ hn hj
    unfold opD
    dsimp only
    rcases hx with rfl | rfl | rfl | rfl | rfl
    all_goals
     iterate 5 (walk_at "all"; walk_at "ops")
     try rw [if_pos (.inr (.inr ⟨li, lj⟩))]
     try walk_at "all"
   ·exact absurd z nt
  ·exact absurd z nt
 ·rw [e2] at ha hb
  rcases ha with ⟨_, i, rfl, hi⟩ | ⟨z, _⟩
  ·rcases hb with ⟨_, j, rfl, hj⟩ | ⟨z, _⟩
   ·unfold opD
    dsimp only
    rcases hx with rfl | rfl
    all_goals
     iterate 9 (walk_at "all"; walk_at "ops")
     try walk_at "all"
   ·exact absurd z nt
  ·exact absurd z nt
 ·rw [e2] at ha hb
  rcases ha with ⟨z, _⟩ | ⟨_, p, rfl⟩
  ·exact absurd z tn
  ·rcases hb with ⟨z, _⟩ | ⟨_, p', rfl⟩
   ·exact absurd z tn
   ·unfold opD
    dsimp only
    rcases hx with rfl | rfl
    all_goals
     iterate 9 (walk_at "all"; walk_at "ops")
     cases p <;> cases p'
     all_goals (try walk_at "all"; try rfl)
theorem tw_ok {x : Str} {q : Str × Str × Nat} {a b : D} {m n : Nat} (h : ndl x = some q) (h2 : q.2.2 = 2) (ha : Vk q.2.1 a m) (hb : Vk q.2.1 b n) (hm : m ≤ 47) (hn : n ≤ 47) : zgI [.str x, a, b] M = some (.v (opD x a b), M) := by
 have nt : ¬ (("number" : Str) = "truth") := by decide +kernel
 have tn : ¬ (("truth" : Str) = "number") := by decide +kernel
 unfold zgI zh4
 rcases zkH h h2 with ⟨hx, e1, e2⟩ | ⟨hx, e1, e2⟩ | ⟨hx, e1, e2⟩
 ·rw [e2] at ha hb
  rcases ha with ⟨_, i, rfl, hi⟩ | ⟨z, _⟩
  ·rcases hb with ⟨_, j, rfl, hj⟩ | ⟨z, _⟩
   ·have li := zhQ hm hi
    have lj := zhQ hn hj
    unfold opD
    dsimp only
    rcases hx with rfl | rfl | rfl | rfl | rfl
    all_goals
     iterate 5 (walk_at "all"; walk_at "ops")
     try rw [if_pos (.inr (.inr ⟨li, lj⟩))]
     try walk_at "all"
   ·exact absurd z nt
  ·exact absurd z nt
 ·rw [e2] at ha hb
  rcases ha with ⟨_, i, rfl, hi⟩ | ⟨z, _⟩
  ·rcases hb with ⟨_, j, rfl, hj⟩ | ⟨z, _⟩
   ·unfold opD
    dsimp only
    rcases hx with rfl | rfl
    all_goals
     iterate 9 (walk_at "all"; walk_at "ops")
     try walk_at "all"
   ·exact absurd z nt
  ·exact absurd z nt
 ·rw [e2] at ha hb
  rcases ha with ⟨z, _⟩ | ⟨_, p, rfl⟩
  ·exact absurd z tn
  ·rcases hb with ⟨z, _⟩ | ⟨_, p', rfl⟩
   ·exact absurd z tn
   ·unfold opD
    dsimp only
    rcases hx with rfl | rfl
    all_goals
     iterate 9 (walk_at "all"; walk_at "ops")
     cases p <;> cases p'
     all_goals (try walk_at "all"; try rfl)
theorem zln : ∀ (cs : List Nat) (acc : Nat), NumText.AllDigits cs → cs.foldl (fun acc c => acc * 10 + (c - 48)) acc < (acc + 1) * 10 ^ cs.length
  | [], acc, _ => by simp
  | c :: cs, acc, h => by
    have hc := h c List.mem_cons_self
    have := zln cs (acc * 10 + (c - 48)) fun d hd => h d (List.mem_cons_of_mem _ hd)
    rw [List.foldl_cons, List.length_cons, Nat.pow_succ]
    refine Nat.lt_of_lt_of_le this ?_
    rw [Nat.mul_comm (10 ^ cs.length) 10, ← Nat.mul_assoc]
    exact Nat.mul_le_mul_right _ (by omega)
theorem dv_lt (cs : List Nat) (h : NumText.AllDigits cs) : NumText.digitsVal cs < 10 ^ cs.length := by
 have := zln cs 0 h
 rw [Nat.zero_add, Nat.one_mul] at this
 exact this
def vl1 (x : Str) (t v o : D) : D := if x = "t" then t else if x = "v" then v else if x = "w" then o else .int (vlc (cd x))
theorem zhE {x : Str} (h : isn x = true) : x.length ≤ 600 ∧ figB (fgs (cd x)) = true ∧ (fgs (cd x)).length ≤ 20 := by
 unfold isn good at h
 simp only [Bool.and_eq_true, decide_eq_true_eq] at h
 refine ⟨?_, h.1.2, h.2⟩
 have := h.2
 rw [zeV]
 unfold fgs at this
 split at this
 ·rw [List.length_tail] at this; omega
 ·omega
theorem g_lv {x : Str} {t v o : D} (h : isn x = true ∨ tvw x = true) : zbW [.str x, t, v, o] M = some (.v (vl1 x t v o), M) := by
 unfold zbW zcD vl1
 walk_at "all"
 by_cases h1 : x = "t"
 ·simp only [h1]
  walk_at "all"
 ·simp only [h1]
  walk_at "all"
  by_cases h2 : x = "v"
  ·simp only [h2]
   walk_at "all"
  ·simp only [h2]
   walk_at "all"
   by_cases h3 : x = "w"
   ·simp only [h3]
    walk_at "all"
   ·simp only [h3]
    walk_at "all"
    have hh : isn x = true := by
     rcases h with h | h
     ·exact h
     ·unfold tvw at h
      simp [h1, h2, h3] at h
    obtain ⟨hl, hf, _⟩ := zhE hh
    rw [if_pos (show x.length ≤ 640 by omega), zig hf hl]
    walk_at "all"
def Sn (d : D) : Prop := ∃ i : Int, d = .int i ∧ i.natAbs < 2 ^ 210
theorem Sn.vk {d : D} (h : Sn d) : Vk "number" d 1 := by
 obtain ⟨i, rfl, hi⟩ := h
 exact .inl ⟨rfl, i, rfl, hi⟩
theorem vl_sn {x : Str} {t v o : D} (h : isn x = true ∨ tvw x = true) (ht : Sn t) (hv : Sn v) (ho : Sn o) : Sn (vl1 x t v o) := by
 unfold vl1
 by_cases h1 : x = "t"
 ·rw [if_pos h1]; exact ht
 ·rw [if_neg h1]
  by_cases h2 : x = "v"
  ·rw [if_pos h2]; exact hv
  ·rw [if_neg h2]
   by_cases h3 : x = "w"
   ·rw [if_pos h3]; exact ho
   ·rw [if_neg h3]
    have hh : isn x = true := by
     rcases h with h | h
     ·exact h
     ·unfold tvw at h
      simp [h1, h2, h3] at h
    obtain ⟨_, hf, hl⟩ := zhE hh
    obtain ⟨_, hd, _⟩ := zhl hf
    have b := dv_lt _ hd
    have b2 : 10 ^ (fgs (cd x)).length ≤ 10 ^ 20 := Nat.pow_le_pow_right (by decide) hl
    have b3 : (10 : Nat) ^ 20 < 2 ^ 210 := by decide +kernel
    refine ⟨_, rfl, ?_⟩
    unfold vlc
    unfold fgs at b b2
    split
    ·rename_i hh
     rw [if_pos hh] at b b2
     omega
    ·rename_i hh
     rw [if_neg hh] at b b2
     omega
def stepV (t v o : D) (x : Str) (rs : List D) : List D := match ndl x with
  | some q => if q.2.2 = 2 then (match rs with
    | a :: b :: r => opD x a b :: r
    | _ => []) else (match rs with
    | .bl p :: r => .bl (!p) :: r
    | _ => [])
  | none => vl1 x t v o :: rs
def runV (t v o : D) : List Str → List D → List D
 | [], rs => rs
 | x :: xs, rs => runV t v o xs (stepV t v o x rs)
theorem zgc {t v o : D} : ∀ {xs ys : List Str} {rs : List D}, runV t v o (xs ++ ys) rs = runV t v o ys (runV t v o xs rs)
 | [], _, _ => rfl
 | _ :: xs, _, _ => zgc (xs := xs)
theorem ze4 {L x : Str} {ks ks' : List Str} {rs : List D} {n : Nat} (h : stepK L x ks = some ks') (ty : TyS ks rs n) :
    (∃ q a b r m m', ndl x = some q ∧ q.2.2 = 2 ∧ rs = a :: b :: r ∧ Vk q.2.1 a m ∧ Vk q.2.1 b m' ∧ m ≤ n ∧ m' ≤ n ∧ ∃ ks'' n'', ks' = q.1 :: ks'' ∧ TyS ks'' r n'' ∧ m + m' + n'' = n) ∨ (x = "not" ∧ ∃ p r, rs = .bl p :: r ∧ ∃ ks'' n'' m, ks' = ("truth" : Str) :: ks'' ∧ TyS ks'' r n'' ∧ m + n'' = n) ∨ (ndl x = none ∧ lf x L = true ∧ ks' = ("number" : Str) :: ks) := by
  unfold stepK at h
  cases hn : ndl x with
  | none =>
    rw [hn] at h
    dsimp only at h
    split at h
    · rename_i hf
      cases h
      exact .inr (.inr ⟨rfl, hf, rfl⟩)
    · cases h
  | some q =>
    rw [hn] at h
    dsimp only at h
    rw [Option.map_eq_some_iff] at h
    obtain ⟨k1, h1, rfl⟩ := h
    rcases (zjq hn).1 with e | e
    · obtain ⟨hx, e1, e2⟩ := ndl_1 hn e
      rw [e] at h1
      cases ty with
      | nil => cases h1
      | cons vk ty' =>
        rename_i k d ks0 ds0 m n0
        simp only [zcb] at h1
        split at h1
        · rename_i hk
          cases h1
          rw [hk, e2] at vk
          rcases vk with ⟨z, _⟩ | ⟨_, p, rfl⟩
          · exact absurd z (by decide +kernel)
          · exact .inr (.inl ⟨hx, p, _, rfl, _, _, _, by rw [e1], ty', rfl⟩)
        · cases h1
    · rw [e] at h1
      cases ty with
      | nil => cases h1
      | cons vk ty' =>
        rename_i k d ks0 ds0 m n0
        simp only [zcb] at h1
        split at h1
        · rename_i hk
          cases ty' with
          | nil => cases h1
          | cons vk2 ty2 =>
            rename_i k' d' ks2 ds2 m' n2
            simp only [zcb] at h1
            split at h1
            · rename_i hk2
              cases h1
              exact .inl ⟨q, _, _, _, m, m', rfl, e, rfl, hk ▸ vk, hk2 ▸ vk2, by omega, by omega, _, n2, rfl, ty2, by omega⟩
            · cases h1
        · cases h1
theorem zeo : ndl "not" = some (Str.ofString "truth", Str.ofString "truth", 1) := by decide +kernel
theorem zmS {L x : Str} {ks ks' : List Str} {rs : List D} {n : Nat} {t v o : D} (h : stepK L x ks = some ks') (ty : TyS ks rs n) (ht : Sn t) (hv : Sn v) (ho : Sn o) : ∃ n', TyS ks' (stepV t v o x rs) n' ∧ n' ≤ n + 1 := by
 unfold stepV
 rcases ze4 h ty with ⟨q, a, b, r, m, m', hn, h2, rfl, va, vb, _, _, ks2, n2, rfl, ty2, hs⟩ | ⟨rfl, p, r, rfl, ks2, n2, m, rfl, ty2, hs⟩ | ⟨hn, hf, rfl⟩
 ·rw [hn]
  dsimp only
  rw [if_pos h2]
  exact ⟨_, .cons (op_vk hn h2 va vb) ty2, by omega⟩
 ·rw [zeo]
  exact ⟨0 + n2, .cons (.inr ⟨rfl, _, rfl⟩) ty2, by omega⟩
 ·rw [hn]
  refine ⟨1 + n, .cons (vl_sn ?_ ht hv ho).vk ty, by omega⟩
  unfold lf at hf
  rw [Bool.or_eq_true, Bool.and_eq_true] at hf
  exact hf.imp id (·.1)
theorem zd1 {rs : List D} {y : D} : rs.reverse ++ [y] = (y :: rs).reverse := by rw [List.reverse_cons]
theorem lf_or {x L : Str} (hf : lf x L = true) : isn x = true ∨ tvw x = true := by
 unfold lf at hf
 rw [Bool.or_eq_true, Bool.and_eq_true] at hf
 exact hf.imp id (·.1)
theorem zmg {L x : Str} {ks ks' : List Str} {rs : List D} {n : Nat} {w0 t v o : D} {s6 s7 : E3.Slot} (h : stepK L x ks = some ks') (ty : TyS ks rs n) (hn : n ≤ 46) (hr : rs.length ≤ 1000) : ∃ t6 t7, zbX [.val w0, .val t, .val v, .val o, .val (.ref M.length), .val (.str x), s6, s7] (M ++ [.lst rs.reverse]) = some (.nx [.val w0, .val t, .val v, .val o, .val (.ref M.length), .val (.str x), t6, t7], M ++ [.lst (stepV t v o x rs).reverse]) := by
 unfold zbX stepV
 rcases ze4 h ty with ⟨q, a, b, r, m, m', hq, h2, rfl, va, vb, hm, hm', _⟩ | ⟨rfl, p, r, rfl, _⟩ | ⟨hq, hf, _⟩
 ·refine ⟨.val a, .val b, ?_⟩
  have nx : (x = Str.ofString "not") = False := eq_false fun z => by
   rw [z, zeo] at hq
   cases hq
   cases h2
  rw [hq]
  dsimp only
  rw [if_pos h2]
  walk_at "all"
  simp only [nx]
  walk_at "all"
  rw [zdd, hq]
  simp only [Option.map_some, Option.isSome_some]
  walk_at "all"
  rw [zd6]
  walk_at "all"
  rw [zd6]
  walk_at "all"
  rw [cb_ok hq h2 va vb (by omega) (by omega)]
  walk_at "all"
  rw [List.length_reverse, if_pos (by simp only [List.length_cons] at hr; omega), zd1]
  walk_at "all"
 ·refine ⟨s6, s7, ?_⟩
  rw [zeo]
  dsimp only
  walk_at "all"
  rw [zd6]
  walk_at "all"
  rw [List.length_reverse, if_pos (by simp only [List.length_cons] at hr; omega), zd1]
  walk_at "all"
  rfl
 ·refine ⟨s6, s7, ?_⟩
  have nx : (x = Str.ofString "not") = False := eq_false fun z => by
   rw [z, zeo] at hq
   cases hq
  rw [hq]
  dsimp only
  walk_at "all"
  simp only [nx]
  walk_at "all"
  rw [zdd, hq]
  simp only [Option.map_none, Option.isSome_none]
  walk_at "all"
  rw [g_lv (lf_or hf)]
  walk_at "all"
  rw [List.length_reverse, if_pos (by omega), zd1]
  walk_at "all"
theorem zib {x : Str} {ys : List Str} : oCmp .isin (.str x) (.lst (ys.map D.str)) = some (.bl (decide (x ∈ ys))) := by
 have fl : (ys.map D.str).all D.flat = true := by
  rw [List.all_map]
  exact List.all_eq_true.mpr fun y _ => rfl
 have an : ((ys.map D.str).any fun y => D.eq y (.str x)) = decide (x ∈ ys) := by
  rw [List.any_map, Bool.eq_iff_iff, List.any_eq_true, decide_eq_true_eq]
  constructor
  ·rintro ⟨y, hy, e⟩
   have : y = x := by simpa [D.eq] using e
   rw [← this]; exact hy
  ·intro hy
   exact ⟨x, hy, by simp [D.eq]⟩
 unfold oCmp cmpD cIn
 simp only [fl, an, D.flat, Bool.and_self, if_true, Option.map_some]
def nine : List Str := ["+", "-", "*", "least", "most", "and", "or", "<", "="]
theorem in_9 {x : Str} {q : Str × Str × Nat} (h : ndl x = some q) (h2 : q.2.2 = 2) : decide (x ∈ nine) = true := by
 rcases zkH h h2 with ⟨hx, _⟩ | ⟨hx, _⟩ | ⟨hx, _⟩
 ·rcases hx with rfl | rfl | rfl | rfl | rfl <;> decide +kernel
 ·rcases hx with rfl | rfl <;> decide +kernel
 ·rcases hx with rfl | rfl <;> decide +kernel
theorem out_9 {x : Str} (h : ndl x = none) : decide (x ∈ nine) = false := by
 rw [decide_eq_false_iff_not]
 intro hx
 have : nine.all (fun y => (ndl y).isSome) = true := by decide +kernel
 have := List.all_eq_true.mp this x hx
 rw [h] at this
 cases this
theorem tvw_in {x : Str} : decide (x ∈ [Str.ofString "t", Str.ofString "v", Str.ofString "w"]) = tvw x := by
 unfold tvw
 rw [Bool.eq_iff_iff]
 simp [or_assoc]
theorem zmj {L x : Str} {ks ks' : List Str} {rs : List D} {n : Nat} {w0 t v o : D} {s6 : E3.Slot} (h : stepK L x ks = some ks') (ty : TyS ks rs n) (hn : n ≤ 46) (hr : rs.length ≤ 1000) : ∃ t6, zcP [.val w0, .val t, .val v, .val o, .val (.ref M.length), .val (.str x), s6] (M ++ [.lst rs.reverse]) = some (.nx [.val w0, .val t, .val v, .val o, .val (.ref M.length), .val (.str x), t6], M ++ [.lst (stepV t v o x rs).reverse]) := by
 have e9 : (sLst (zag (sCon (.str "+")) (zag (sCon (.str "-")) (zag (sCon (.str "*")) (zag (sCon (.str "least")) (zag (sCon (.str "most")) (zag (sCon (.str "and")) (zag (sCon (.str "or")) (zag (sCon (.str "<")) (zag (sCon (.str "=")) sNil))))))))) : E3.E) = fun _ M => some (.v (.lst (nine.map D.str)), M) := rfl
 have e3 : (sLst (zag (sCon (.str "t")) (zag (sCon (.str "v")) (zag (sCon (.str "w")) sNil))) : E3.E) = fun _ M => some (.v (.lst ([Str.ofString "t", Str.ofString "v", Str.ofString "w"].map D.str)), M) := rfl
 unfold zcP
 rw [e9, e3]
 generalize hk : ([Str.ofString "t", Str.ofString "v", Str.ofString "w"] : List Str) = tl
 have tin : decide (x ∈ tl) = tvw x := by rw [← hk]; exact tvw_in
 rcases ze4 h ty with ⟨q, a, b, r, m, m', hq, h2, rfl, va, vb, hm, hm', _⟩ | ⟨rfl, p, r, rfl, _⟩ | ⟨hq, hf, _⟩
 ·refine ⟨.val a, ?_⟩
  unfold stepV
  rw [hq]
  dsimp only
  rw [if_pos h2]
  walk_at "all"
  rw [zib, in_9 hq h2]
  walk_at "all"
  rw [zd6]
  walk_at "all"
  rw [zd6]
  walk_at "all"
  rw [tw_ok hq h2 va vb (by omega) (by omega)]
  walk_at "all"
  rw [List.length_reverse, if_pos (by simp only [List.length_cons] at hr; omega), zd1]
  walk_at "all"
 ·refine ⟨s6, ?_⟩
  unfold stepV
  rw [zeo]
  dsimp only
  walk_at "all"
  rw [zib, show decide (Str.ofString "not" ∈ nine) = false by decide +kernel]
  walk_at "all"
  rw [zd6]
  walk_at "all"
  rw [List.length_reverse, if_pos (by simp only [List.length_cons] at hr; omega), zd1]
  walk_at "all"
  rfl
 ·refine ⟨s6, ?_⟩
  have nx : (x = Str.ofString "not") = False := eq_false fun z => by
   rw [z, zeo] at hq
   cases hq
  unfold stepV
  rw [hq]
  dsimp only
  walk_at "all"
  rw [zib, out_9 hq]
  walk_at "all"
  simp only [nx]
  walk_at "all"
  rw [zib, tin]
  unfold vl1
  cases ht : tvw x
  ·have hs : isn x = true := by
    rcases lf_or hf with z | z
    ·exact z
    ·rw [ht] at z; cases z
   obtain ⟨hl, hg, _⟩ := zhE hs
   walk_at "all"
   rw [if_pos (show x.length ≤ 640 by omega), zig hg hl]
   walk_at "all"
   unfold tvw at ht
   simp only [Bool.or_eq_false_iff, decide_eq_false_iff_not] at ht
   rw [List.length_reverse, if_pos (by omega), zd1, if_neg ht.1.1, if_neg ht.1.2, if_neg ht.2]
   walk_at "all"
  ·walk_at "all"
   rw [← hk]
   have ht' : x = "t" ∨ x = "v" ∨ x = "w" := by
    unfold tvw at ht
    simp only [Bool.or_eq_true, decide_eq_true_eq] at ht
    rcases ht with (ht | ht) | ht
    ·exact .inl ht
    ·exact .inr (.inl ht)
    ·exact .inr (.inr ht)
   rcases ht' with rfl | rfl | rfl
   ·rw [show lixD ([Str.ofString "t", Str.ofString "v", Str.ofString "w"].map D.str) [.str "t"] = some (.int 0) by kernel_rfl]
    walk_at "all"
    rw [List.length_reverse, if_pos (by omega), zd1]
    walk_at "all"
   ·rw [show lixD ([Str.ofString "t", Str.ofString "v", Str.ofString "w"].map D.str) [.str "v"] = some (.int 1) by kernel_rfl]
    walk_at "all"
    rw [List.length_reverse, if_pos (by omega), zd1, if_neg (show ¬ (Str.ofString "v" = Str.ofString "t") by decide +kernel)]
    walk_at "all"
   ·rw [show lixD ([Str.ofString "t", Str.ofString "v", Str.ofString "w"].map D.str) [.str "w"] = some (.int 2) by kernel_rfl]
    walk_at "all"
    rw [List.length_reverse, if_pos (by omega), zd1, if_neg (show ¬ (Str.ofString "w" = Str.ofString "t") by decide +kernel), if_neg (show ¬ (Str.ofString "w" = Str.ofString "v") by decide +kernel)]
    walk_at "all"
theorem TyS.len {ks : List Str} {rs : List D} {n : Nat} (h : TyS ks rs n) : rs.length = ks.length := by
 induction h with
 | nil => rfl
 | cons _ _ ih => rw [List.length_cons, List.length_cons, ih]
theorem zhh {L : Str} {t v o : D} (ht : Sn t) (hv : Sn v) (ho : Sn o) : ∀ {xs ks ks' : List Str} {rs : List D} {n : Nat}, runK L xs ks = some ks' → TyS ks rs n → ∃ n', TyS ks' (runV t v o xs rs) n' ∧ n' ≤ n + xs.length
  | [], _, _, _, n, h, ty => by cases h; exact ⟨n, ty, Nat.le_refl _⟩
  | x :: xs, ks, ks', rs, n, h, ty => by
    unfold runK at h
    rw [Option.bind_eq_some_iff] at h
    obtain ⟨k1, h1, h2⟩ := h
    obtain ⟨n1, ty1, hn1⟩ := zmS h1 ty ht hv ho
    obtain ⟨n2, ty2, hn2⟩ := zhh ht hv ho h2 ty1
    exact ⟨n2, ty2, by rw [List.length_cons]; omega⟩
theorem zlF {L : Str} {xs : List Str} {k : Nat} {ks : List Str} (h : runK L xs [] = some ks) : ∃ k1, runK L (xs.take k) [] = some k1 := by
 rw [← List.take_append_drop k xs, zcY] at h
 cases e : runK L (xs.take k) [] with
 | none => rw [e] at h; cases h
 | some k1 => exact ⟨k1, rfl⟩
theorem zli {L : Str} {xs : List Str} {k : Nat} {x : Str} {k1 ks : List Str} (h : runK L xs [] = some ks) (hk : runK L (xs.take k) [] = some k1) (hx : xs[k]? = some x) : ∃ k2, stepK L x k1 = some k2 ∧ runK L (xs.take (k + 1)) [] = some k2 := by
 obtain ⟨k2, h2⟩ := zlF (k := k + 1) h
 refine ⟨k2, ?_, h2⟩
 rw [take_snoc hx, zcY, hk] at h2
 have h3 : (stepK L x k1).bind (runK L []) = some k2 := h2
 cases e : stepK L x k1 with
 | none => rw [e] at h3; cases h3
 | some k3 => rw [e] at h3; exact h3
theorem rk_ok {L wt : Str} {ws : List Str} {t v o : D} (h : runK L ws.reverse [] = some [wt]) (hl : ws.length ≤ 46) (ht : Sn t) (hv : Sn v) (ho : Sn o) : ∃ d n, runV t v o ws.reverse [] = [d] ∧ Vk wt d n ∧ n ≤ 46 ∧ ∀ M : Mm, zcj [.tup (ws.map D.str), t, v, o] M = some (.v d, M ++ [.lst [d]]) := by
  obtain ⟨n, ty, hn⟩ := zhh ht hv ho h .nil
  rw [List.length_reverse] at hn
  generalize er : runV t v o ws.reverse [] = rs at ty
  cases ty with
  | cons vk ty' =>
    cases ty' with
    | nil =>
      rename_i d m
      refine ⟨d, m, rfl, vk, by omega, fun M => ?_⟩
      have lp : ∃ s5 s6 s7, loopS 5 zbX (ws.map D.str).reverse [.val (.tup (ws.map D.str)), .val t, .val v, .val o, .val (.ref M.length), .un, .un, .un] (M ++ [.lst ([] : List D).reverse]) = some (.nx [.val (.tup (ws.map D.str)), .val t, .val v, .val o, .val (.ref M.length), s5, s6, s7], M ++ [.lst (runV t v o ws.reverse []).reverse]) := by
        refine zek (fun q => ∃ s5 s6 s7, q = some (.nx [.val (.tup (ws.map D.str)), .val t, .val v, .val o, .val (.ref M.length), s5, s6, s7], M ++ [.lst (runV t v o ws.reverse []).reverse])) (fun k env N => ∃ s5 s6 s7 k1, env = [.val (.tup (ws.map D.str)), .val t, .val v, .val o, .val (.ref M.length), s5, s6, s7] ∧ N = M ++ [.lst (runV t v o (ws.reverse.take k) []).reverse] ∧ runK L (ws.reverse.take k) [] = some k1) ⟨_, _, _, [], rfl, rfl, by rw [List.take_zero]; rfl⟩ ?_ ?_
        · rintro k d env N hd ⟨s5, s6, s7, k1, rfl, rfl, hk⟩
          rw [← List.map_reverse, List.getElem?_map, Option.map_eq_some_iff] at hd
          obtain ⟨x, hx, rfl⟩ := hd
          refine ⟨by show 5 < 8; decide, ?_⟩
          obtain ⟨k2, st, hk2⟩ := zli h hk hx
          obtain ⟨n1, ty1, hn1⟩ := zhh ht hv ho hk .nil
          have hkl : k < ws.length := by have := (List.getElem?_eq_some_iff.mp hx).1; rwa [List.length_reverse] at this
          have hl1 : (ws.reverse.take k).length = k := by rw [List.length_take, List.length_reverse]; omega
          rw [hl1] at hn1
          have hlr := ty1.len
          have hlk := zeM hk
          rw [List.length_nil, hl1] at hlk
          show Step _ _ (zbX [.val (.tup (ws.map D.str)), .val t, .val v, .val o, .val (.ref M.length), .val (.str x), s6, s7] _)
          obtain ⟨t6, t7, e⟩ := zmg (M := M) (w0 := .tup (ws.map D.str)) (t := t) (v := v) (o := o) (s6 := s6) (s7 := s7) st ty1 (by omega) (by omega)
          rw [e]
          refine ⟨_, _, _, k2, rfl, ?_, hk2⟩
          rw [take_snoc hx, zgc]
          rfl
        · rintro env N ⟨s5, s6, s7, k1, rfl, rfl, hk⟩
          rw [show (ws.map D.str).reverse.length = ws.reverse.length by simp, List.take_length]
          exact ⟨_, _, _, rfl⟩
      obtain ⟨s5, s6, s7, lp⟩ := lp
      rw [er] at lp
      unfold zcj zdi
      walk_at "all"
      rw [show (Cl.lst ([] : List D)) = .lst ([] : List D).reverse from rfl, lp]
      walk_at "all"
      rw [show [d].reverse = [d] from rfl]
      walk_at "all"
theorem wo_ok {L wt : Str} {ws : List Str} {t v o : D} (h : runK L ws.reverse [] = some [wt]) (hl : ws.length ≤ 46) (ht : Sn t) (hv : Sn v) (ho : Sn o) : ∃ d n, runV t v o ws.reverse [] = [d] ∧ Vk wt d n ∧ n ≤ 46 ∧ ∀ M : Mm, zdL [.lst (ws.map D.str), t, v, o] M = some (.v d, M ++ [.lst [d]]) := by
  obtain ⟨n, ty, hn⟩ := zhh ht hv ho h .nil
  rw [List.length_reverse] at hn
  generalize er : runV t v o ws.reverse [] = rs at ty
  cases ty with
  | cons vk ty' =>
    cases ty' with
    | nil =>
      rename_i d m
      refine ⟨d, m, rfl, vk, by omega, fun M => ?_⟩
      have lp : ∃ s5 s6, loopS 5 zcP (ws.map D.str).reverse [.val (.lst (ws.map D.str)), .val t, .val v, .val o, .val (.ref M.length), .un, .un] (M ++ [.lst ([] : List D).reverse]) = some (.nx [.val (.lst (ws.map D.str)), .val t, .val v, .val o, .val (.ref M.length), s5, s6], M ++ [.lst (runV t v o ws.reverse []).reverse]) := by
        refine zek (fun q => ∃ s5 s6, q = some (.nx [.val (.lst (ws.map D.str)), .val t, .val v, .val o, .val (.ref M.length), s5, s6], M ++ [.lst (runV t v o ws.reverse []).reverse])) (fun k env N => ∃ s5 s6 k1, env = [.val (.lst (ws.map D.str)), .val t, .val v, .val o, .val (.ref M.length), s5, s6] ∧ N = M ++ [.lst (runV t v o (ws.reverse.take k) []).reverse] ∧ runK L (ws.reverse.take k) [] = some k1) ⟨_, _, [], rfl, rfl, by rw [List.take_zero]; rfl⟩ ?_ ?_
        · rintro k d env N hd ⟨s5, s6, k1, rfl, rfl, hk⟩
          rw [← List.map_reverse, List.getElem?_map, Option.map_eq_some_iff] at hd
          obtain ⟨x, hx, rfl⟩ := hd
          refine ⟨by show 5 < 7; decide, ?_⟩
          obtain ⟨k2, st, hk2⟩ := zli h hk hx
          obtain ⟨n1, ty1, hn1⟩ := zhh ht hv ho hk .nil
          have hkl : k < ws.length := by have := (List.getElem?_eq_some_iff.mp hx).1; rwa [List.length_reverse] at this
          have hl1 : (ws.reverse.take k).length = k := by rw [List.length_take, List.length_reverse]; omega
          rw [hl1] at hn1
          have hlr := ty1.len
          have hlk := zeM hk
          rw [List.length_nil, hl1] at hlk
          show Step _ _ (zcP [.val (.lst (ws.map D.str)), .val t, .val v, .val o, .val (.ref M.length), .val (.str x), s6] _)
          obtain ⟨t6, e⟩ := zmj (M := M) (w0 := .lst (ws.map D.str)) (t := t) (v := v) (o := o) (s6 := s6) st ty1 (by omega) (by omega)
          rw [e]
          refine ⟨_, _, k2, rfl, ?_, hk2⟩
          rw [take_snoc hx, zgc]
          rfl
        · rintro env N ⟨s5, s6, k1, rfl, rfl, hk⟩
          rw [show (ws.map D.str).reverse.length = ws.reverse.length by simp, List.take_length]
          exact ⟨_, _, rfl⟩
      obtain ⟨s5, s6, lp⟩ := lp
      rw [er] at lp
      unfold zdL zeN
      walk_at "all"
      rw [show (Cl.lst ([] : List D)) = .lst ([] : List D).reverse from rfl, lp]
      walk_at "all"
      rw [show [d].reverse = [d] from rfl]
      walk_at "all"
def dwn (xs : List Int) : Prop := ∀ x ∈ xs, 0 ≤ x ∧ x < 715827877
theorem g_dr {n : Int} {m : Nat} (hm : m ≤ 1000) : ∃ xs : List Int, xs.length = m ∧ dwn xs ∧ ∀ M : Mm, zdh [.int n, .int m] M = some (.v (.lst (xs.map .int)), M) := by
  let P : E3.OS → Mm → List Int → Prop := fun o M xs => ∃ s3 s4, o = some (.nx [.val (.int n), .val (.int m), .own (xs.map .int), s3, s4], M)
  have key : ∃ xs : List Int, xs.length = m ∧ dwn xs ∧ ∀ M : Mm, P (loopS 4 zde ((List.range m).map fun (k : Nat) => D.int (0 + k)) [.val (.int n), .val (.int m), .own [], .val (.int (n % 2147483629)), .un] M) M xs := by
    -- the numbers by themselves
    let st : Int × List Int → Nat → Int × List Int := fun p k => let x := (p.1 * p.1 + 40692 * p.1 + 2 * (0 + (k : Int)) + 1) % 2147483629; (x, p.2 ++ [x / 3])
    let at_ : Nat → Int × List Int := fun k => (List.range k).foldl st (n % 2147483629, [])
    have hst : ∀ k, at_ (k + 1) = st (at_ k) k := fun k => by simp only [at_, List.range_succ, List.foldl_append, List.foldl_cons, List.foldl_nil]
    have hb : ∀ k, 0 ≤ (at_ k).1 ∧ (at_ k).1 < 2147483629 ∧ (at_ k).2.length = k ∧ dwn (at_ k).2 := fun k => by
      induction k with
      | zero => exact ⟨Int.emod_nonneg _ (by decide), Int.emod_lt_of_pos _ (by decide), rfl, fun x hx => by cases hx⟩
      | succ k ih =>
        rw [hst]
        refine ⟨Int.emod_nonneg _ (by decide), Int.emod_lt_of_pos _ (by decide), by simp only [st, List.length_append, ih.2.2.1, List.length_singleton], fun x hx => ?_⟩
        simp only [st, List.mem_append, List.mem_singleton] at hx
        rcases hx with hx | hx
        · exact ih.2.2.2 x hx
        · have h1 := Int.emod_nonneg ((at_ k).1 * (at_ k).1 + 40692 * (at_ k).1 + 2 * (0 + (k : Int)) + 1) (show (2147483629 : Int) ≠ 0 by decide)
          have h2 := Int.emod_lt_of_pos ((at_ k).1 * (at_ k).1 + 40692 * (at_ k).1 + 2 * (0 + (k : Int)) + 1) (show (0 : Int) < 2147483629 by decide)
          subst hx
          omega
    refine ⟨(at_ m).2, (hb m).2.2.1, (hb m).2.2.2, fun M => ?_⟩
    refine zek (fun o => P o M (at_ m).2) (fun k env M' => M' = M ∧ ∃ s4, env = [.val (.int n), .val (.int m), .own ((at_ k).2.map .int), .val (.int (at_ k).1), s4]) ⟨rfl, .un, rfl⟩ ?_ ?_
    · rintro k d env M' hd ⟨rfl, s4, rfl⟩
      have hk : k < m := by
        have := (List.getElem?_eq_some_iff.mp hd).1
        simpa using this
      rw [List.getElem?_map, List.getElem?_range hk, Option.map_some] at hd
      cases hd
      refine ⟨by show 4 < 5; decide, ?_⟩
      have hx := hb k
      have hq := hb (k + 1)
      rw [hst] at hq
      show Step _ _ (zde [.val (.int n), .val (.int m), .own ((at_ k).2.map .int), .val (.int (at_ k).1), .val (.int (0 + k))] M')
      generalize e1 : (at_ k).1 = x at *
      generalize e2 : (at_ k).2 = xs at *
      unfold zde
      walk_at "all"
      rw [if_pos (.inl (by omega))]
      walk_at "all"
      rw [if_pos (show xs.length < 16777216 by omega)]
      refine ⟨rfl, .val (.int (0 + k)), ?_⟩
      rw [hst]
      simp only [st, e1, e2, List.map_append, List.map_cons, List.map_nil]
    · rintro env M' ⟨rfl, s4, rfl⟩
      rw [List.length_map, List.length_range]
      exact ⟨_, _, rfl⟩
  obtain ⟨xs, h1, h2, h3⟩ := key
  refine ⟨xs, h1, h2, fun M => ?_⟩
  obtain ⟨s3, s4, h3⟩ := h3 M
  unfold zdh zeP
  walk_at "all"
  rw [zg3 (by omega), Int.toNat_natCast]
  walk_at "all"
  rw [h3]
  walk_at "all"
theorem zoq {x y : Str} (hx : x.length ≤ 4000) (hy : y.length ≤ 4000) (h1 : ∀ c ∈ cd x, c < 4294967296) (h2 : ∀ c ∈ cd y, c < 4294967296) : sm (x ++ y) := by
 refine ⟨by rw [strLen_append]; omega, fun c hc => ?_⟩
 rw [zk3, List.mem_append] at hc
 exact hc.elim (h1 c) (h2 c)
theorem dg_sm {i : Int} (h0 : 0 ≤ i) (h1 : i < 1000000000000000000000) : (shw i).length ≤ 22 ∧ ∀ c ∈ cd (shw i), c < 4294967296 := by
 refine ⟨zmy (k := 21) (by decide) (by rw [show (10 : Nat) ^ 21 = 1000000000000000000000 by decide]; omega), fun c hc => ?_⟩
 unfold cd at hc
 rw [zhT h0] at hc
 have := zje i.toNat c hc
 omega
theorem zlw {n : Nat} : figB (dg n) = true := by
 have hall : (dg n).all dgc = true := List.all_eq_true.mpr fun c hc => by
  have := zje n c hc
  unfold dgc
  rw [decide_eq_true this.1, decide_eq_true this.2]
  rfl
 unfold figB
 rw [hall, decide_eq_false (dg_ne n)]
 by_cases h0 : n = 0
 ·subst h0
  rw [zmw]
  rfl
 ·obtain ⟨c, r, e, hc⟩ := zjL n h0
  rw [e, List.head?_cons, decide_eq_false (show ¬ (some c = some 48) from fun z => by have := Option.some.inj z; omega)]
  simp
theorem znx {n : Int} (h0 : 0 ≤ n) (h1 : n < 100000000000000000000) : (dg n.toNat).length ≤ 20 := zjQ (by decide) (by rw [show (10 : Nat) ^ 20 = 100000000000000000000 by decide]; omega)
theorem znP {n : Nat} : (dg n).head? ≠ some 45 := fun h => by
  cases e : dg n with
  | nil => exact dg_ne n e
  | cons c r =>
    rw [e] at h
    have := zje n c (by rw [e]; exact List.mem_cons_self)
    simp at h
    omega
theorem zmO {n : Int} (h0 : 0 ≤ n) (h1 : n < 100000000000000000000) : isn (shw n) = true := by
 have e : cd (shw n) = dg n.toNat := zhT h0
 have ef : fgs (dg n.toNat) = dg n.toNat := by unfold fgs; rw [if_neg znP]
 unfold isn good
 rw [e, ef, zlw, decide_eq_true (znx h0 h1), decide_eq_false (fun z => znP (n := n.toNat) (by rw [z]; rfl))]
 rfl
theorem zng {n : Int} (h0 : 0 < n) (h1 : n < 100000000000000000000) : isn (Str.ofString "-" ++ shw n) = true := by
 have e : cd (Str.ofString "-" ++ shw n) = 45 :: dg n.toNat := by
  rw [zk3, show cd (Str.ofString "-") = [45] by decide +kernel, show cd (shw n) = dg n.toNat from zhT (by omega)]
  rfl
 have ef : fgs (45 :: dg n.toNat) = dg n.toNat := by unfold fgs; rw [if_pos (show (45 :: dg n.toNat).head? = some 45 from rfl)]; rfl
 unfold isn good
 rw [e, ef, zlw, decide_eq_true (znx (by omega) h1), decide_eq_false (fun z => by
  have z2 : dg n.toNat = [48] := by simpa using z
  obtain ⟨c, r, e2, hc⟩ := zjL n.toNat (by omega)
  rw [e2] at z2
  simp at z2
  omega)]
 rfl
def LG (L : Str) : Prop := L.length ≤ 10 ∧ ∀ c ∈ cd L, c = 116 ∨ c = 118 ∨ c = 119
theorem in_one {c : Nat} {L : Str} : zf0 ⟨#[c]⟩ L = decide (c ∈ cd L) := by
 unfold zf0
 rw [StrLaws.found_one]
 rfl
theorem lf_one {c : Nat} {L : Str} (hL : LG L) (hc : c ∈ cd L) : lf ⟨#[c]⟩ L = true := by
 unfold lf
 rw [in_one, decide_eq_true hc]
 have : tvw ⟨#[c]⟩ = true := by
  rcases hL.2 c hc with rfl | rfl | rfl <;> decide +kernel
 rw [this]
 simp
theorem sm_one {c : Nat} (h : c < 4294967296) : sm ⟨#[c]⟩ := ⟨by show 1 ≤ 9000; decide, fun d hd => by rw [zla, List.mem_singleton] at hd; rw [hd]; exact h⟩
theorem zj2 {x : Int} {L : Str} (hL : LG L) : ∃ w, lf w L = true ∧ sm w ∧ ∀ M : Mm, zcU [.int x, .str L] M = some (.v (.str w), M) := by
 have hll := hL.1
 by_cases h : 0 < x % 3 ∧ L ≠ Str.ofString ""
 ·have hp : 0 < L.length := by
   rcases Nat.eq_zero_or_pos L.length with z | z
   ·exfalso
    apply h.2
    rw [eq_e]
    exact List.length_eq_zero_iff.mp (by rw [← zeV]; exact z)
   ·exact z
  have p0 := Int.emod_nonneg (x / 3) (show (L.length : Int) ≠ 0 by omega)
  have p1 := Int.emod_lt_of_pos (x / 3) (show (0 : Int) < (L.length : Int) by omega)
  have hl := zeV L
  have hx := List.getElem?_eq_getElem (show ((x / 3) % (L.length : Int)).toNat < (cd L).length by omega)
  generalize (cd L)[((x / 3) % (L.length : Int)).toNat] = c at hx
  have hc := List.mem_of_getElem? hx
  have ha := zby hx
  rw [Int.toNat_of_nonneg p0] at ha
  refine ⟨⟨#[c]⟩, lf_one hL hc, sm_one (by rcases hL.2 c hc with z | z | z <;> omega), fun M => ?_⟩
  unfold zcU zfm
  walk_at "all"
  simp only [h.1, h.2]
  walk_at "all"
  rw [if_pos (show L.length ≤ 16777216 by omega)]
  walk_at "all"
  rw [if_pos (show (0 : Int) < (L.length : Int) by omega)]
  walk_at "all"
  rw [if_pos (show L.length ≤ 16777216 by omega), show L.cps.toList = cd L from rfl, ha]
  walk_at "all"
 ·have hm : ∃ q : Int, 0 < q ∧ q ≤ 100000000000000000000 ∧ atI [D.int 10, .int 100, .int 1000000, .int 1000000000000, .int 100000000000000000000] (x / 9 % 5) = some (.int q) := by
   have : x / 9 % 5 = 0 ∨ x / 9 % 5 = 1 ∨ x / 9 % 5 = 2 ∨ x / 9 % 5 = 3 ∨ x / 9 % 5 = 4 := by omega
   rcases this with e | e | e | e | e <;> rw [e]
   ·exact ⟨_, by decide, by decide, at0⟩
   ·exact ⟨_, by decide, by decide, at1⟩
   ·exact ⟨_, by decide, by decide, at2⟩
   ·exact ⟨_, by decide, by decide, at3⟩
   ·exact ⟨_, by decide, by decide, zby (j := 4) rfl⟩
  obtain ⟨q, q0, q1, eq⟩ := hm
  have n0 := Int.emod_nonneg (x * 1000003 * 104729 * 7919) (show q ≠ 0 by omega)
  have n1 := Int.emod_lt_of_pos (x * 1000003 * 104729 * 7919) q0
  generalize en : (x * 1000003 * 104729 * 7919) % q = n at n0 n1
  obtain ⟨wl, ws⟩ := dg_sm (i := n) n0 (by omega)
  have lg : n.natAbs.log2 < 1920 := zme (by omega)
  have go : ∀ M : Mm, zcU [.int x, .str L] M = endS (zd8 [.val (.int x), .val (.str L), .val (.int n)] M) := fun M => by
   unfold zcU zfm
   walk_at "all"
   have st : (if 0 < x % 3 then some (Res.v (D.bl (!decide (L = Str.ofString ""))), M) else some (Res.v (D.bl false), M)) = some (Res.v (D.bl false), M) := by
    by_cases z : 0 < x % 3
    ·have z2 : L = Str.ofString "" := Classical.byContradiction fun z2 => h ⟨z, z2⟩
     rw [if_pos z, decide_eq_true z2]
     rfl
    ·rw [if_neg z]
   rw [st]
   walk_at "all"
   unfold zha
   walk_at "all"
   rw [eq]
   walk_at "all"
   rw [if_pos q0, en]
   walk_at "all"
  simp only [go]
  by_cases h2 : x / 2 % 2 = 1 ∧ 0 < n
  ·refine ⟨Str.ofString "-" ++ shw n, ?_, zoq (by decide +kernel) (by omega) (fun c hc => by revert c; decide +kernel) ws, fun M => ?_⟩
   ·unfold lf
    rw [zng h2.2 (by omega)]
    rfl
   ·unfold zd8
    walk_at "all"
    simp only [h2.1, h2.2]
    walk_at "all"
    rw [if_pos lg]
    walk_at "all"
    rw [show (Str.ofString "-").length = 1 by decide +kernel, if_pos (show 1 + (Str.ofString (toString n)).length ≤ 16777216 from by have : (Str.ofString (toString n)).length ≤ 22 := wl; omega)]
    rfl
  ·refine ⟨shw n, ?_, ⟨by omega, ws⟩, fun M => ?_⟩
   ·unfold lf
    rw [zmO n0 (by omega)]
    rfl
   ·unfold zd8
    walk_at "all"
    have st : (if x / 2 % 2 = 1 then some (Res.v (D.bl (decide (0 < n))), M) else some (Res.v (D.bl false), M)) = some (Res.v (D.bl false), M) := by
     by_cases z : x / 2 % 2 = 1
     ·rw [if_pos z, decide_eq_false (fun z2 => h2 ⟨z, z2⟩)]
     ·rw [if_neg z]
    rw [st]
    unfold zgA
    walk_at "all"
    rw [if_pos lg]
    walk_at "all"
    rfl
def NW (L x : Str) : Prop := (ndl x = some (Str.ofString "number", Str.ofString "number", 2) ∨ (ndl x = none ∧ lf x L = true)) ∧ sm x
def nums (n : Nat) : List Str := List.replicate n "number"
theorem zh2 {x : Str} (h : (decide (x.length ≤ 9000) && (cd x).all fun c => decide (c < 4294967296)) = true) : sm x := by
 rw [Bool.and_eq_true, decide_eq_true_eq, List.all_eq_true] at h
 exact ⟨h.1, fun c hc => of_decide_eq_true (h.2 c hc)⟩
theorem zjI {L : Str} {k : Int} : ∃ x : Str, NW L x ∧ ndl x = some (Str.ofString "number", Str.ofString "number", 2) ∧ atI [D.str "+", .str "-", .str "*", .str "least", .str "most"] (k % 5) = some (.str x) := by
 have mk : ∀ x : Str, ndl x = some (Str.ofString "number", Str.ofString "number", 2) → (decide (x.length ≤ 9000) && (cd x).all fun c => decide (c < 4294967296)) = true → NW L x ∧ ndl x = some (Str.ofString "number", Str.ofString "number", 2) := fun x h s => ⟨⟨.inl h, zh2 s⟩, h⟩
 have : k % 5 = 0 ∨ k % 5 = 1 ∨ k % 5 = 2 ∨ k % 5 = 3 ∨ k % 5 = 4 := by omega
 rcases this with e | e | e | e | e <;> rw [e]
 ·obtain ⟨a, b⟩ := mk "+" (by decide +kernel) (by decide +kernel); exact ⟨_, a, b, at0⟩
 ·obtain ⟨a, b⟩ := mk "-" (by decide +kernel) (by decide +kernel); exact ⟨_, a, b, at1⟩
 ·obtain ⟨a, b⟩ := mk "*" (by decide +kernel) (by decide +kernel); exact ⟨_, a, b, at2⟩
 ·obtain ⟨a, b⟩ := mk "least" (by decide +kernel) (by decide +kernel); exact ⟨_, a, b, at3⟩
 ·obtain ⟨a, b⟩ := mk "most" (by decide +kernel) (by decide +kernel); exact ⟨_, a, b, zby (j := 4) rfl⟩
theorem st_op {L x : Str} {n : Nat} (h : ndl x = some (Str.ofString "number", Str.ofString "number", 2)) (hn : 1 ≤ n) : stepK L x (nums (n + 1)) = some (nums n) := by
 obtain ⟨m, rfl⟩ : ∃ m, n = m + 1 := ⟨n - 1, by omega⟩
 unfold stepK
 rw [h]
 unfold nums
 simp only [List.replicate_succ, zcb, if_true, Option.map_some]
theorem st_lf {L x : Str} {n : Nat} (h : lf x L = true) (hn : 1 ≤ n) : stepK L x (nums (n - 1)) = some (nums n) := by
 obtain ⟨m, rfl⟩ : ∃ m, n = m + 1 := ⟨n - 1, by omega⟩
 unfold stepK
 rw [zmv h]
 dsimp only
 rw [if_pos h]
 unfold nums
 rw [Nat.add_sub_cancel, List.replicate_succ]
theorem gen_ok {L : Str} {num : Int} {most : Nat} (hL : LG L) (hm : 1 ≤ most ∧ most ≤ 45) : ∃ ws : List Str, runK L ws.reverse [] = some [Str.ofString "number"] ∧ (∀ w ∈ ws, NW L w) ∧ 1 ≤ ws.length ∧ ws.length ≤ most ∧ zft [.int num, .str L, .int most] M = some (.v (.lst (ws.map D.str)), M) := by
  have lp : ∃ ws : List Str, ∃ s5 s6, runK L ws.reverse [] = some [Str.ofString "number"] ∧ (∀ w ∈ ws, NW L w) ∧ 1 ≤ ws.length ∧ ws.length ≤ most ∧ zfN 1000 zeS zcM [.val (.int num), .val (.str L), .val (.int most), .own [], .val (.int 1), .val (.int (num % 2147483629)), .un] M = some (.nx [.val (.int num), .val (.str L), .val (.int most), .own (ws.map D.str), .val (.int 0), s5, s6], M) := by
    refine zfZ (Q := fun o => ∃ ws : List Str, ∃ s5 s6, runK L ws.reverse [] = some [Str.ofString "number"] ∧ (∀ w ∈ ws, NW L w) ∧ 1 ≤ ws.length ∧ ws.length ≤ most ∧ o = some (.nx [.val (.int num), .val (.str L), .val (.int most), .own (ws.map D.str), .val (.int 0), s5, s6], M)) (fun m env N => N = M ∧ ∃ (ws : List Str) (need : Nat) (x : Int) (s6 : E3.Slot), env = [.val (.int num), .val (.str L), .val (.int most), .own (ws.map D.str), .val (.int need), .val (.int x), s6] ∧ m = most - ws.length ∧ ws.length + need ≤ most ∧ runK L ws.reverse (nums need) = some [Str.ofString "number"] ∧ (∀ w ∈ ws, NW L w) ∧ 0 ≤ x ∧ x < 2147483629) ⟨most, by omega, rfl, [], 1, _, .un, rfl, rfl, by simpa using hm.1, rfl, (fun w hw => by cases hw), Int.emod_nonneg _ (by decide), Int.emod_lt_of_pos _ (by decide)⟩ ?_
    rintro m env N ⟨rfl, ws, need, x, s6, rfl, rfl, hb, hr, hw, x0, x1⟩
    refine ⟨decide (0 < (need : Int)), N, ?_, ?_⟩
    · unfold zeS
      walk_at "all"
    · by_cases hn : 0 < (need : Int)
      · rw [decide_eq_true hn, if_pos rfl]
        have y0 := Int.emod_nonneg (x * x + 40692 * x + ((ws.length : Nat) : Int) + 1) (show (2147483629 : Int) ≠ 0 by decide)
        have y1 := Int.emod_lt_of_pos (x * x + 40692 * x + ((ws.length : Nat) : Int) + 1) (show (0 : Int) < 2147483629 by decide)
        generalize ey : (x * x + 40692 * x + ((ws.length : Nat) : Int) + 1) % 2147483629 = y at y0 y1
        obtain ⟨op, nwo, ndo, eo⟩ := zjI (L := L) (k := y / 7 / 2)
        obtain ⟨w, lw, sw, ew⟩ := zj2 (x := y / 7 / 2) hL
        have hx64 : x.natAbs < 18446744073709551616 := by omega
        by_cases c : y / 7 % 2 = 1 ∧ ((ws.length : Nat) : Int) + (need : Int) + 2 ≤ (most : Int)
        · have e : zcM [.val (.int num), .val (.str L), .val (.int most), .own (ws.map D.str), .val (.int need), .val (.int x), s6] N = some (.nx [.val (.int num), .val (.str L), .val (.int most), .own ((ws ++ [op]).map D.str), .val (.int ((need + 1 : Nat) : Int)), .val (.int y), .val (.int (y / 7))], N) := by
            unfold zcM
            walk_at "all"
            rw [if_pos (.inl hx64)]
            walk_at "all"
            rw [ey]
            walk_at "all"
            simp only [c.1, c.2]
            walk_at "all"
            rw [eo]
            walk_at "all"
            rw [if_pos (by omega)]
            walk_at "all"
            rw [List.map_append]
            rfl
          rw [e]
          refine ⟨most - (ws ++ [op]).length, by rw [List.length_append, List.length_singleton]; omega, rfl, ws ++ [op], need + 1, y, _, rfl, rfl, by rw [List.length_append, List.length_singleton]; omega, ?_, fun u hu => ?_, y0, y1⟩
          · rw [List.reverse_append, show [op].reverse = [op] from rfl, List.singleton_append]
            show (stepK L op (nums (need + 1))).bind (runK L ws.reverse) = _
            rw [st_op ndo (by omega)]
            exact hr
          · rw [List.mem_append, List.mem_singleton] at hu
            rcases hu with hu | rfl
            · exact hw u hu
            · exact nwo
        · have e : zcM [.val (.int num), .val (.str L), .val (.int most), .own (ws.map D.str), .val (.int need), .val (.int x), s6] N = some (.nx [.val (.int num), .val (.str L), .val (.int most), .own ((ws ++ [w]).map D.str), .val (.int ((need - 1 : Nat) : Int)), .val (.int y), .val (.int (y / 7))], N) := by
            have st : (if y / 7 % 2 = 1 then some (Res.v (D.bl (decide (((ws.length : Nat) : Int) + (need : Int) + 2 ≤ (most : Int)))), N) else some (Res.v (D.bl false), N)) = some (Res.v (D.bl false), N) := by
              by_cases z : y / 7 % 2 = 1
              · rw [if_pos z, decide_eq_false (fun z2 => c ⟨z, z2⟩)]
              · rw [if_neg z]
            unfold zcM
            walk_at "all"
            rw [if_pos (.inl hx64)]
            walk_at "all"
            rw [ey]
            walk_at "all"
            rw [st]
            walk_at "all"
            rw [ew]
            walk_at "all"
            rw [if_pos (by omega)]
            walk_at "all"
            rw [List.map_append, show (need : Int) - 1 = ((need - 1 : Nat) : Int) by omega]
            rfl
          rw [e]
          refine ⟨most - (ws ++ [w]).length, by rw [List.length_append, List.length_singleton]; omega, rfl, ws ++ [w], need - 1, y, _, rfl, rfl, by rw [List.length_append, List.length_singleton]; omega, ?_, fun u hu => ?_, y0, y1⟩
          · rw [List.reverse_append, show [w].reverse = [w] from rfl, List.singleton_append]
            show (stepK L w (nums (need - 1))).bind (runK L ws.reverse) = _
            rw [st_lf lw (by omega)]
            exact hr
          · rw [List.mem_append, List.mem_singleton] at hu
            rcases hu with hu | rfl
            · exact hw u hu
            · exact ⟨.inr ⟨zmv lw, lw⟩, sw⟩
      · rw [decide_eq_false hn, if_neg (by decide)]
        have hz : need = 0 := by omega
        subst hz
        refine ⟨ws, _, _, hr, hw, ?_, by omega, rfl⟩
        cases ws with
        | nil => cases hr
        | cons a b => simp
  obtain ⟨ws, s5, s6, h1, h2, h3, h4, lp⟩ := lp
  refine ⟨ws, h1, h2, h3, h4, ?_⟩
  unfold zft zgr
  walk_at "all"
  rw [lp]
  walk_at "all"
def isop (x : Str) : Nat := match ndl x with
 | some q => q.2.2 - 1
 | none => 0
def islf (x : Str) : Nat := match ndl x with
 | some _ => 0
 | none => 1
def ops (xs : List Str) : Nat := (xs.map isop).sum
def lvs (xs : List Str) : Nat := (xs.map islf).sum
theorem zk0 {a : Str} : ∀ {n : Nat} {ks ks' : List Str}, zcb a n ks = some ks' → ks'.length + n = ks.length
  | 0, _, _, h => by cases h; rfl
  | n + 1, [], _, h => by cases h
  | n + 1, b :: ks, ks', h => by
    unfold zcb at h
    split at h
    · have := zk0 h
      rw [List.length_cons]
      omega
    · cases h
theorem st_bal {L x : Str} {ks ks' : List Str} (h : stepK L x ks = some ks') : ks'.length + isop x = ks.length + islf x := by
  unfold stepK at h
  unfold isop islf
  cases hn : ndl x with
  | some q =>
    rw [hn] at h
    dsimp only at h ⊢
    rw [Option.map_eq_some_iff] at h
    obtain ⟨k1, h1, rfl⟩ := h
    have := zk0 h1
    have := (zjq hn).1
    rw [List.length_cons]
    omega
  | none =>
    rw [hn] at h
    dsimp only at h ⊢
    split at h
    · cases h; rw [List.length_cons]
    · cases h
theorem zhd {L : Str} : ∀ {xs ks ks' : List Str}, runK L xs ks = some ks' → ks'.length + ops xs = ks.length + lvs xs
  | [], _, _, h => by cases h; rfl
  | x :: xs, ks, ks', h => by
    unfold runK at h
    rw [Option.bind_eq_some_iff] at h
    obtain ⟨k1, h1, h2⟩ := h
    have := st_bal h1
    have := zhd h2
    simp only [ops, lvs, List.map_cons, List.sum_cons] at *
    omega
theorem st_nil {L x : Str} {ks : List Str} (h : stepK L x [] = some ks) : ndl x = none := by
  cases hn : ndl x with
  | none => rfl
  | some q =>
    unfold stepK at h
    rw [hn] at h
    dsimp only at h
    rcases (zjq hn).1 with e | e <;> (rw [e] at h; cases h)
theorem zlQ {L wt wt' : Str} {ws : List Str} {a : Str} (h : runK L (ws ++ [a]).reverse [] = some [wt]) : runK L ws.reverse [] ≠ some [wt'] := fun h2 => by
 rw [List.reverse_append, show [a].reverse = [a] from rfl, List.singleton_append] at h
 have b1 := zhd h
 have b2 := zhd h2
 unfold runK at h
 rw [Option.bind_eq_some_iff] at h
 obtain ⟨k1, h1, _⟩ := h
 have hn := st_nil h1
 simp only [ops, lvs, List.map_cons, List.sum_cons, isop, islf, hn, List.length_cons, List.length_nil] at b1 b2
 omega
theorem zmp {L wt wt' : Str} {ws : List Str} {a : Str} (h : runK L ws.reverse [] = some [wt]) (ha : ndl a = none) : runK L (ws ++ [a]).reverse [] ≠ some [wt'] := fun h2 => by
 rw [List.reverse_append, show [a].reverse = [a] from rfl, List.singleton_append] at h2
 have b1 := zhd h
 have b2 := zhd h2
 simp only [ops, lvs, List.map_cons, List.sum_cons, isop, islf, ha, List.length_cons, List.length_nil] at b1 b2
 omega
theorem zhW {L : Str} : ∀ {xs ks ks' : List Str}, (∀ x ∈ xs, NW L x) → (∀ k ∈ ks, k = "number") → runK L xs ks = some ks' → ∀ k ∈ ks', k = "number"
  | [], _, _, _, hk, h => by cases h; exact hk
  | x :: xs, ks, ks', hw, hk, h => by
    unfold runK at h
    rw [Option.bind_eq_some_iff] at h
    obtain ⟨k1, h1, h2⟩ := h
    refine zhW (fun y hy => hw y (List.mem_cons_of_mem _ hy)) ?_ h2
    have tk : ∀ (n : Nat) (ks ks' : List Str), (∀ k ∈ ks, k = "number") → zcb "number" n ks = some ks' → ∀ k ∈ ks', k = "number" := fun n => by
      induction n with
      | zero => intro ks ks' hk h; cases h; exact hk
      | succ n ih =>
        intro ks ks' hk h
        cases ks with
        | nil => cases h
        | cons b ks =>
          unfold zcb at h
          split at h
          · exact ih ks ks' (fun k hk' => hk k (List.mem_cons_of_mem _ hk')) h
          · cases h
    unfold stepK at h1
    rcases (hw x List.mem_cons_self).1 with hn | ⟨hn, hf⟩
    · rw [hn] at h1
      dsimp only at h1
      rw [Option.map_eq_some_iff] at h1
      obtain ⟨k2, h3, rfl⟩ := h1
      intro k hk'
      rcases List.mem_cons.mp hk' with rfl | hk'
      · rfl
      · exact tk _ _ _ hk h3 k hk'
    · rw [hn] at h1
      dsimp only at h1
      rw [if_pos hf] at h1
      cases h1
      intro k hk'
      rcases List.mem_cons.mp hk' with rfl | hk'
      · rfl
      · exact hk k hk'
theorem no_odd {L wt : Str} {p s : List Str} {x : Str} (hs : ∀ y ∈ s, NW L y) (hx : (ndl x = none ∧ lf x L = false) ∨ x = "not") : runK L (p ++ [x] ++ s).reverse [] ≠ some [wt] := fun h => by
  rw [List.reverse_append, List.reverse_append, show [x].reverse = [x] from rfl, zcY] at h
  cases e : runK L s.reverse [] with
  | none => rw [e] at h; cases h
  | some ks =>
    rw [e] at h
    have hk := zhW (fun y hy => hs y (by simpa using hy)) (fun k hk => by cases hk) e
    have : stepK L x ks = none := by
      rcases hx with ⟨hn, hf⟩ | rfl
      · unfold stepK
        rw [hn]
        dsimp only
        rw [hf]
        rfl
      · unfold stepK
        rw [zeo]
        dsimp only
        cases ks with
        | nil => rfl
        | cons b ks =>
          unfold zcb
          rw [if_neg (by rw [hk b List.mem_cons_self]; decide +kernel)]
          rfl
    have h' : (stepK L x ks).bind (runK L p.reverse) = some [wt] := h
    rw [this] at h'
    cases h'
theorem zmk {L wt : Str} {p s : List Str} {x : Str} (hn : ndl x = none) (hf : lf x L = false) : runK L (p ++ [x] ++ s).reverse [] ≠ some [wt] := fun h => by
  rw [List.reverse_append, List.reverse_append, show [x].reverse = [x] from rfl, zcY] at h
  cases e : runK L s.reverse [] with
  | none => rw [e] at h; cases h
  | some ks =>
    rw [e] at h
    have : stepK L x ks = none := by
      unfold stepK
      rw [hn]
      dsimp only
      rw [hf]
      rfl
    have h' : (stepK L x ks).bind (runK L p.reverse) = some [wt] := h
    rw [this] at h'
    cases h'
def pdS (p : Bool) : D := .str (if p then "cond" else "expr")
def pdK (p : Bool) : Str := if p then "truth" else "number"
def pc (pd : List Bool) : E3.Cl := .lst (pd.map pdS).reverse
def pw (pd : List Bool) : Nat := (pd.map fun p => if p then 3 else 1).sum
theorem zlp {a b : Str} {k : Int} : ∃ x : Str, (x = a ∨ x = b) ∧ atI [D.str a, .str b] (k % 2) = some (.str x) := by
 have : k % 2 = 0 ∨ k % 2 = 1 := by omega
 rcases this with e | e <;> rw [e]
 ·exact ⟨a, .inl rfl, at0⟩
 ·exact ⟨b, .inr rfl, at1⟩
theorem st_tt {L x : Str} {ks : List Str} (h : x = "and" ∨ x = "or") : stepK L x ((("truth" : Str) :: ("truth" : Str) :: ks) : List Str) = some (("truth" : Str) :: ks) := by
 have : ndl x = some (Str.ofString "truth", Str.ofString "truth", 2) := by rcases h with rfl | rfl <;> decide +kernel
 unfold stepK
 rw [this]
 simp only [zcb, if_true, Option.map_some]
theorem st_no {L : Str} {ks : List Str} : stepK L "not" (("truth" : Str) :: ks) = some (("truth" : Str) :: ks) := by
 unfold stepK
 rw [zeo]
 simp only [zcb, if_true, Option.map_some]
theorem st_nn {L x : Str} {ks : List Str} (h : x = "<" ∨ x = "=") : stepK L x (("number" : Str) :: ("number" : Str) :: ks) = some (("truth" : Str) :: ks) := by
 have : ndl x = some (Str.ofString "truth", Str.ofString "number", 2) := by rcases h with rfl | rfl <;> decide +kernel
 unfold stepK
 rw [this]
 simp only [zcb, if_true, Option.map_some]
theorem st_n5 {L x : Str} {ks : List Str} (h : ndl x = some (Str.ofString "number", Str.ofString "number", 2)) : stepK L x (("number" : Str) :: ("number" : Str) :: ks) = some (("number" : Str) :: ks) := by
 unfold stepK
 rw [h]
 simp only [zcb, if_true, Option.map_some]
theorem st_l {L x : Str} {ks : List Str} (h : lf x L = true) : stepK L x ks = some (("number" : Str) :: ks) := by
 unfold stepK
 rw [zmv h]
 dsimp only
 rw [if_pos h]
theorem eq_cc : (Str.ofString "cond" = Str.ofString "cond") = True := eq_true rfl
theorem ziz : (Str.ofString "expr" = Str.ofString "cond") = False := zaZ (by decide +kernel)
theorem pc2t {ds : List D} : ds.reverse ++ [D.str "cond", .str "cond"] = (pdS true :: pdS true :: ds).reverse := by simp [pdS]
theorem pc2f {ds : List D} : ds.reverse ++ [D.str "expr", .str "expr"] = (pdS false :: pdS false :: ds).reverse := by simp [pdS]
theorem pc1t {ds : List D} : ds.reverse ++ [D.str "cond"] = (pdS true :: ds).reverse := by simp [pdS]
theorem zgQ {ws : List Str} {w : Str} : ws.map D.str ++ [D.str w] = (ws ++ [w]).map D.str := by simp
theorem pc_t {pd : List Bool} : pc (true :: pd) = .lst (D.str "cond" :: pd.map pdS).reverse := rfl
theorem pc_f {pd : List Bool} : pc (false :: pd) = .lst (D.str "expr" :: pd.map pdS).reverse := rfl
theorem zmA {num most x : Int} {ws : List Str} {p : Bool} {pd : List Bool} {room : Nat} {s6 s7 : E3.Slot} (hw : ws.length ≤ 100) (hp : pd.length ≤ 100) (x0 : 0 ≤ x) (x1 : x < 2147483629) : ∃ (y : Int) (w : Str) (pd' : List Bool) (room' : Nat) (t6 t7 : E3.Slot) (E : Mm), zdb [.val (.int num), .val (.int most), .own (ws.map D.str), .val (.ref M.length), .val (.int room), .val (.int x), s6, s7] (M ++ [pc (p :: pd)]) = some (.nx [.val (.int num), .val (.int most), .own ((ws ++ [w]).map D.str), .val (.ref (M ++ E).length), .val (.int room'), .val (.int y), t6, t7], M ++ E ++ [pc pd']) ∧ 0 ≤ y ∧ y < 2147483629 ∧ sm w ∧ stepK "tv" w (pd'.map pdK) = some (pdK p :: pd.map pdK) ∧ pw pd' + room' + 1 = pw (p :: pd) + room := by
  have y0 := Int.emod_nonneg (x * x + 40692 * x + ((ws.length : Nat) : Int) + 1) (show (2147483629 : Int) ≠ 0 by decide)
  have y1 := Int.emod_lt_of_pos (x * x + 40692 * x + ((ws.length : Nat) : Int) + 1) (show (0 : Int) < 2147483629 by decide)
  generalize ey : (x * x + 40692 * x + ((ws.length : Nat) : Int) + 1) % 2147483629 = y at y0 y1
  have hx64 : x.natAbs < 18446744073709551616 := by omega
  have go : ∀ N : Mm, zdb [.val (.int num), .val (.int most), .own (ws.map D.str), .val (.ref M.length), .val (.int room), .val (.int x), s6, s7] N = zbJ [.val (.int num), .val (.int most), .own (ws.map D.str), .val (.ref M.length), .val (.int room), .val (.int y), .val (.int (y / 7)), s7] N := fun N => by
    unfold zdb
    walk_at "all"
    rw [if_pos (.inl hx64)]
    walk_at "all"
    rw [ey]
    unfold zeE
    walk_at "all"
  rw [go]
  generalize y / 7 = z
  have wl : (ws.map D.str).length < 16777216 := by rw [List.length_map]; omega
  have smw : ∀ w : Str, (decide (w.length ≤ 9000) && (cd w).all fun c => decide (c < 4294967296)) = true → sm w := fun w h => zh2 h
  cases p with
  | true =>
    have go2 : zbJ [.val (.int num), .val (.int most), .own (ws.map D.str), .val (.ref M.length), .val (.int room), .val (.int y), .val (.int z), s7] (M ++ [pc (true :: pd)]) = zbm [.val (.int num), .val (.int most), .own (ws.map D.str), .val (.ref M.length), .val (.int room), .val (.int y), .val (.int z), .val (.str "cond")] (M ++ [pc pd]) := by
      rw [pc_t]
      unfold zbJ
      walk_at "all"
      rw [zd6]
      walk_at "all"
      rfl
    rw [go2]
    by_cases c1 : (4 : Int) ≤ room ∧ z % 4 = 1
    · obtain ⟨w, hw2, ew⟩ := zlp (a := "and") (b := "or") (k := z / 4)
      refine ⟨y, w, true :: true :: pd, room - 4, .val (.int z), .val (.str "cond"), [pc pd], ?_, y0, y1, ?_, ?_, ?_⟩
      · unfold zbm
        walk_at "all"
        simp only [c1.1, c1.2]
        walk_at "all"
        rw [ew]
        walk_at "all"
        rw [if_pos (by omega)]
        unfold pc
        walk_at "all"
        rw [List.length_reverse, List.length_map, if_pos (by omega)]
        walk_at "all"
        rw [pc2t, zgQ, show (room : Int) - 4 = ((room - 4 : Nat) : Int) by omega]
        try rfl
      · rcases hw2 with rfl | rfl <;> exact smw _ (by decide +kernel)
      · exact st_tt hw2
      · simp only [pw, List.map_cons, List.sum_cons, if_true]
        omega
    · have s1 : (if (4 : Int) ≤ (room : Int) then some (Res.v (D.bl (decide (z % 4 = 1))), M ++ [pc pd]) else some (Res.v (D.bl false), M ++ [pc pd])) = some (Res.v (D.bl false), M ++ [pc pd]) := by
        by_cases q : (4 : Int) ≤ room
        · rw [if_pos q, decide_eq_false (fun q2 => c1 ⟨q, q2⟩)]
        · rw [if_neg q]
      by_cases c2 : (1 : Int) ≤ room ∧ z % 4 = 2
      · refine ⟨y, "not", true :: pd, room - 1, .val (.int z), .val (.str "cond"), [], ?_, y0, y1, smw _ (by decide +kernel), st_no, ?_⟩
        · unfold zbm
          walk_at "all"
          rw [s1]
          walk_at "all"
          simp only [c2.1, c2.2]
          walk_at "all"
          rw [if_pos (by omega)]
          unfold pc
          walk_at "all"
          rw [List.length_reverse, List.length_map, if_pos (by omega)]
          walk_at "all"
          rw [pc1t, zgQ, show (room : Int) - 1 = ((room - 1 : Nat) : Int) by omega]
          try rfl
        · simp only [pw, List.map_cons, List.sum_cons, if_true]
          omega
      · have s2 : (if (1 : Int) ≤ (room : Int) then some (Res.v (D.bl (decide (z % 4 = 2))), M ++ [pc pd]) else some (Res.v (D.bl false), M ++ [pc pd])) = some (Res.v (D.bl false), M ++ [pc pd]) := by
          by_cases q : (1 : Int) ≤ room
          · rw [if_pos q, decide_eq_false (fun q2 => c2 ⟨q, q2⟩)]
          · rw [if_neg q]
        obtain ⟨w, hw2, ew⟩ := zlp (a := "<") (b := "=") (k := z / 4)
        refine ⟨y, w, false :: false :: pd, room, .val (.int z), .val (.str "cond"), [pc pd], ?_, y0, y1, ?_, ?_, ?_⟩
        · unfold zbm
          walk_at "all"
          rw [s1]
          walk_at "all"
          rw [s2]
          walk_at "all"
          rw [ew]
          walk_at "all"
          rw [if_pos (by omega)]
          unfold pc
          walk_at "all"
          rw [List.length_reverse, List.length_map, if_pos (by omega)]
          walk_at "all"
          rw [pc2f, zgQ]
          try rfl
        · rcases hw2 with rfl | rfl <;> exact smw _ (by decide +kernel)
        · exact st_nn hw2
        · simp only [pw, List.map_cons, List.sum_cons, if_true]
          simp
          omega
  | false =>
    have go2 : zbJ [.val (.int num), .val (.int most), .own (ws.map D.str), .val (.ref M.length), .val (.int room), .val (.int y), .val (.int z), s7] (M ++ [pc (false :: pd)]) = zbm [.val (.int num), .val (.int most), .own (ws.map D.str), .val (.ref M.length), .val (.int room), .val (.int y), .val (.int z), .val (.str "expr")] (M ++ [pc pd]) := by
      rw [pc_f]
      unfold zbJ
      walk_at "all"
      rw [zd6]
      walk_at "all"
      rfl
    rw [go2]
    by_cases c1 : (2 : Int) ≤ room ∧ z % 3 = 1
    · obtain ⟨w, nw, nd, ew⟩ := zjI (L := "tv") (k := z / 3)
      refine ⟨y, w, false :: false :: pd, room - 2, .val (.int z), .val (.str "expr"), [pc pd], ?_, y0, y1, nw.2, st_n5 nd, ?_⟩
      · unfold zbm
        walk_at "all"
        simp only [ziz]
        walk_at "all"
        simp only [ziz]
        walk_at "all"
        simp only [ziz]
        walk_at "all"
        simp only [c1.1, c1.2]
        walk_at "all"
        rw [ew]
        walk_at "all"
        rw [if_pos (by omega)]
        unfold pc
        walk_at "all"
        rw [List.length_reverse, List.length_map, if_pos (by omega)]
        walk_at "all"
        rw [pc2f, zgQ, show (room : Int) - 2 = ((room - 2 : Nat) : Int) by omega]
        try rfl
      · simp only [pw, List.map_cons, List.sum_cons]
        simp
        omega
    · have s1 : (if (2 : Int) ≤ (room : Int) then some (Res.v (D.bl (decide (z % 3 = 1))), M ++ [pc pd]) else some (Res.v (D.bl false), M ++ [pc pd])) = some (Res.v (D.bl false), M ++ [pc pd]) := by
        by_cases q : (2 : Int) ≤ room
        · rw [if_pos q, decide_eq_false (fun q2 => c1 ⟨q, q2⟩)]
        · rw [if_neg q]
      obtain ⟨w, lw, sw, ew⟩ := zj2 (x := z / 3) (L := "tv") ⟨by decide +kernel, fun c hc => by revert c; decide +kernel⟩
      refine ⟨y, w, pd, room, .val (.int z), .val (.str "expr"), [], ?_, y0, y1, sw, st_l lw, ?_⟩
      · unfold zbm
        walk_at "all"
        simp only [ziz]
        walk_at "all"
        simp only [ziz]
        walk_at "all"
        simp only [ziz]
        walk_at "all"
        rw [s1]
        walk_at "all"
        rw [ew]
        walk_at "all"
        rw [if_pos (by omega), zgQ]
        walk_at "all"
      · simp only [pw, List.map_cons, List.sum_cons]
        simp
        omega
theorem cd_ok {num : Int} {most : Nat} (hm : 3 ≤ most ∧ most ≤ 40) : ∃ (ws : List Str) (E : Mm), runK "tv" ws.reverse [] = some [Str.ofString "truth"] ∧ (∀ w ∈ ws, sm w) ∧ 1 ≤ ws.length ∧ ws.length ≤ most ∧ zfu [.int num, .int most] M = some (.v (.lst (ws.map D.str)), M ++ E) := by
  have lp : ∃ (ws : List Str) (E : Mm) (s3 s4 s5 s6 s7 : E3.Slot), runK "tv" ws.reverse [] = some [Str.ofString "truth"] ∧ (∀ w ∈ ws, sm w) ∧ 1 ≤ ws.length ∧ ws.length ≤ most ∧ zfN 1000 zeX zdb [.val (.int num), .val (.int most), .own [], .val (.ref M.length), .val (.int ((most - 3 : Nat) : Int)), .val (.int (num % 2147483629)), .un, .un] (M ++ [pc [true]]) = some (.nx [.val (.int num), .val (.int most), .own (ws.map D.str), s3, s4, s5, s6, s7], M ++ E) := by
    refine zfZ (Q := fun o => ∃ (ws : List Str) (E : Mm) (s3 s4 s5 s6 s7 : E3.Slot), runK "tv" ws.reverse [] = some [Str.ofString "truth"] ∧ (∀ w ∈ ws, sm w) ∧ 1 ≤ ws.length ∧ ws.length ≤ most ∧ o = some (.nx [.val (.int num), .val (.int most), .own (ws.map D.str), s3, s4, s5, s6, s7], M ++ E)) (fun m env N => ∃ (ws : List Str) (E : Mm) (pd : List Bool) (room : Nat) (x : Int) (s6 s7 : E3.Slot), env = [.val (.int num), .val (.int most), .own (ws.map D.str), .val (.ref (M ++ E).length), .val (.int room), .val (.int x), s6, s7] ∧ N = M ++ E ++ [pc pd] ∧ m = pw pd + room ∧ ws.length + pw pd + room = most ∧ runK "tv" ws.reverse (pd.map pdK) = some [Str.ofString "truth"] ∧ (∀ w ∈ ws, sm w) ∧ 0 ≤ x ∧ x < 2147483629) ⟨pw [true] + (most - 3), by simp only [pw, List.map_cons, List.map_nil, List.sum_cons, List.sum_nil, if_true]; omega, [], [], [true], most - 3, _, .un, .un, by rw [List.append_nil]; rfl, by rw [List.append_nil], rfl, by simp only [pw, List.map_cons, List.map_nil, List.sum_cons, List.sum_nil, if_true, List.length_nil]; omega, rfl, (fun w hw => by cases hw), Int.emod_nonneg _ (by decide), Int.emod_lt_of_pos _ (by decide)⟩ ?_
    rintro m env N ⟨ws, E, pd, room, x, s6, s7, rfl, rfl, rfl, hb, hr, hw, x0, x1⟩
    have hlp : pd.length ≤ pw pd := by
      clear hr hb
      induction pd with
      | nil => exact Nat.le_refl _
      | cons p pd ih =>
        simp only [pw, List.map_cons, List.sum_cons, List.length_cons] at *
        cases p <;> simp <;> omega
    refine ⟨!pd.isEmpty, M ++ E ++ [pc pd], ?_, ?_⟩
    · unfold zeX pc
      walk_at "all"
      rw [o_neE]
      · walk_at "all"
        rw [List.isEmpty_reverse, List.isEmpty_map]
      · have : ∀ ds : List D, (∀ d ∈ ds, d.dep = 0) → D.deps ds = 0 := fun ds => by
          induction ds with
          | nil => intro _; rfl
          | cons d ds ih => intro h; simp only [D.deps, h d List.mem_cons_self, ih (fun e he => h e (List.mem_cons_of_mem _ he))]; rfl
        rw [this _ (fun d hd => by
          rw [List.mem_reverse, List.mem_map] at hd
          obtain ⟨p, _, rfl⟩ := hd
          rfl)]
        omega
    · cases pd with
      | nil =>
        rw [if_neg (by simp)]
        refine ⟨ws, E ++ [pc []], _, _, _, _, _, hr, hw, ?_, by omega, by rw [List.append_assoc]⟩
        cases ws with
        | nil => cases hr
        | cons a b => simp
      | cons p pd =>
        rw [if_pos (by simp)]
        obtain ⟨y, w, pd', room', t6, t7, E2, e, y0, y1, sw, st, hpw⟩ := zmA (M := M ++ E) (num := num) (most := most) (s6 := s6) (s7 := s7) (ws := ws) (p := p) (pd := pd) (room := room) (by omega) (by rw [List.length_cons] at hlp; omega) x0 x1
        rw [e]
        refine ⟨pw pd' + room', by omega, ws ++ [w], E ++ E2, pd', room', y, t6, t7, by rw [List.append_assoc], by rw [List.append_assoc M E E2], rfl, by rw [List.length_append, List.length_singleton]; omega, ?_, fun u hu => ?_, y0, y1⟩
        · rw [List.reverse_append, show [w].reverse = [w] from rfl, List.singleton_append]
          show (stepK "tv" w (pd'.map pdK)).bind (runK "tv" ws.reverse) = _
          rw [st]
          exact hr
        · rw [List.mem_append, List.mem_singleton] at hu
          rcases hu with hu | rfl
          · exact hw u hu
          · exact sw
  obtain ⟨ws, E, s3, s4, s5, s6, s7, h1, h2, h3, h4, lp⟩ := lp
  refine ⟨ws, E, h1, h2, h3, h4, ?_⟩
  have e0 : M ++ [Cl.lst [.str "cond"]] = M ++ [pc [true]] := rfl
  unfold zfu zf1
  walk_at "all"
  unfold zgV
  walk_at "all"
  unfold zgE
  walk_at "all"
  unfold zg0
  walk_at "all"
  unfold zhf
  rw [zm6, e0, show (most : Int) - 3 = ((most - 3 : Nat) : Int) by omega, lp]
  unfold zgw
  walk_at "all"
def xow (ws : List Str) : E3.Cl := .obj "Cond" [("parts", .tup (ws.map D.str))]
theorem wd_vw {d0 : D} {ws : List Str} (h : Wds M d0 ws) : vw M d0 = .lst (ws.map D.str) := by
 rcases h with rfl | ⟨j, rfl, hj⟩
 ·rfl
 ·exact zi5 hj
theorem Wds.app {d0 : D} {ws : List Str} {c : E3.Cl} (h : Wds M d0 ws) : Wds (M ++ [c]) d0 ws := by
 rcases h with rfl | ⟨j, rfl, hj⟩
 ·exact .inl rfl
 ·exact .inr ⟨j, rfl, by rw [List.getElem?_append_left (List.getElem?_eq_some_iff.mp hj).1]; exact hj⟩
theorem in_ok {d0 : D} {ws : List Str} (h : Wds M d0 ws) : zbx [.ref M.length, d0] (M ++ [.obj "Cond" []]) = some (.v .non, M ++ [xow ws]) := by
 unfold zbx zbM
 walk_at "all"
 rw [f_set (k := M.length) (fs := []) (M1 := M ++ [.obj "Cond" []]) (M2 := M ++ [.obj "Cond" []]) (x := .tup (ws.map D.str)) ?_ ?_ zhy (by decide), s_end]
 ·rfl
 ·walk_at "all"
  rw [wd_vw h.app]
  walk_at "all"
 ·walk_at "all"
theorem rd_ok {d0 : D} {ws : List Str} (hd : Wds M d0 ws) (hs : ∀ x ∈ ws, sm x) (hl : ws.length ≤ 900) (h : runK "tv" ws.reverse [] = some [Str.ofString "truth"]) : zbs [d0] M = some (.v (.ref (M ++ [kc ["truth"]]).length), M ++ [kc ["truth"]] ++ [xow ws]) := by
 rcases zlg (M := M) (L := "tv") (wt := "truth") hd hs hl with ⟨_, e⟩ | ⟨z, _⟩
 ·unfold zbs zct
  walk_at "all"
  rw [e]
  walk_at "all"
  rw [m_make (ds := [d0]) (M1 := M ++ [kc ["truth"]]) (by walk_at "all") (in_ok hd.app)]
  rfl
 ·exact absurd h z
theorem rd_no {d0 : D} {ws : List Str} (hd : Wds M d0 ws) (hs : ∀ x ∈ ws, sm x) (hl : ws.length ≤ 900) (h : runK "tv" ws.reverse [] ≠ some [Str.ofString "truth"]) : ∃ c, zbs [d0] M = some (.x "NoExpr" 0, M ++ [c]) := by
 rcases zlg (M := M) (L := "tv") (wt := "truth") hd hs hl with ⟨z, _⟩ | ⟨_, ks, e⟩
 ·exact absurd z h
 ·refine ⟨kc ks, ?_⟩
  unfold zbs zct
  walk_at "all"
  rw [e]
  rfl
theorem g_wd {ws : List Str} {k : Nat} (hM : M[k]? = some (xow ws)) : za2 [.ref k] M = some (.v (.ref M.length), M ++ [.lst (ws.map D.str)]) := by
 unfold za2 zcB
 walk_at "all"
 rw [f_get (k := k) (M1 := M) (by walk_at "all") hM rfl]
 rfl
theorem g_hl {ws : List Str} {k : Nat} {t v d : D} (hM : M[k]? = some (xow ws)) (hr : ∀ M : Mm, zcj [.tup (ws.map D.str), t, v, .int 0] M = some (.v d, M ++ [.lst [d]])) : zbK [.ref k, t, v] M = some (.v d, M ++ [.lst [d]]) := by
 unfold zbK zcG
 walk_at "all"
 rw [f_get (k := k) (M1 := M) (by walk_at "all") hM rfl]
 walk_at "all"
 rw [hr]
 walk_at "all"
theorem zjU {ws : List Str} (hs : ∀ x ∈ ws, sm x) (hl : ws.length ≤ 900) (h : runK "tv" ws.reverse [] ≠ some [Str.ofString "truth"]) : ∃ c, zbj [.lst (ws.map D.str)] M = some (.v (.bl true), M ++ [c]) := by
 obtain ⟨c, e⟩ := rd_no (M := M) (d0 := .lst (ws.map D.str)) (.inl rfl) hs hl h
 refine ⟨c, ?_⟩
 unfold zbj zdl zeB zez
 walk_at "all"
 rw [e]
 walk_at "all"
 rw [show zdg "NoExpr" = true by decide +kernel]
 walk_at "all"
 rw [show or2 zdN zdU "NoExpr" = some false by decide +kernel]
 walk_at "all"
theorem zjB {i : Int} (h : i.natAbs < 2 ^ 210) : Sn (.int i) := ⟨i, rfl, h⟩
theorem zcL {N E : Mm} {k : Nat} {c : E3.Cl} (h : N[k]? = some c) : (N ++ E)[k]? = some c := by rw [List.getElem?_append_left (List.getElem?_eq_some_iff.mp h).1]; exact h
theorem zlA {ws : List Str} {k : Nat} {s2 s3 s4 s7 : E3.Slot} {t v : Int} (hM : M[k]? = some (xow ws)) (hr : runK "tv" ws.reverse [] = some [Str.ofString "truth"]) (hl : ws.length ≤ 46) (st : Sn (.int t)) (sv : Sn (.int v)) : ∃ t7 E, zcW [.val (.ref k), .val (.lst (ws.map D.str)), s2, s3, s4, .val (.int t), .val (.int v), s7] M = some (.nx [.val (.ref k), .val (.lst (ws.map D.str)), s2, s3, s4, .val (.int t), .val (.int v), t7], M ++ E) := by
 have sz : Sn (.int 0) := zjB (by decide)
 obtain ⟨d1, n1, r1, k1, _, g1⟩ := rk_ok hr hl st sv sz
 obtain ⟨d1', n1', r1', k1', _, w1⟩ := wo_ok hr hl st sv sz
 rw [r1] at r1'
 cases r1'
 obtain ⟨b, rfl⟩ : ∃ b, d1 = .bl b := by
  rcases k1 with ⟨z, _⟩ | ⟨_, b, e⟩
  ·exact absurd z (by decide +kernel)
  ·exact ⟨b, e⟩
 have a1 : zd4 "Cond" "holds" zbK (sVar 0) (zag (sVar 5) (zag (sVar 6) sNil)) [.val (.ref k), .val (.lst (ws.map D.str)), s2, s3, s4, .val (.int t), .val (.int v), s7] M = some (.v (.bl b), M ++ [.lst [.bl b]]) :=
  zne (M1 := M) (M2 := M) (k := k) (ds := [.int t, .int v]) rfl hM (by kernel_rfl) rfl (g_hl hM g1)
 refine ⟨.val (.bl b), [.lst [.bl b]] ++ [.lst [.bl b]], ?_⟩
 unfold zcW
 walk_at "all"
 rw [a1]
 walk_at "all"
 unfold zd7
 walk_at "all"
 rw [w1]
 walk_at "all"
 rw [o_neR (by simp [D.dep])]
 walk_at "all"
 simp only [List.append_assoc, List.cons_append, List.nil_append]
theorem zlW {ws : List Str} {k j : Nat} {cell : Int} {as : List Int} {s5 s6 s7 : E3.Slot} (hM : M[k]? = some (xow ws)) (hr : runK "tv" ws.reverse [] = some [Str.ofString "truth"]) (hl : ws.length ≤ 46) (ha : as.length = 6) (hj : j < 4) : ∃ t5 t6 t7 E, zck [.val (.ref k), .val (.lst (ws.map D.str)), .val (.int cell), .val (.lst (as.map D.int)), .val (.int j), s5, s6, s7] M = some (.nx [.val (.ref k), .val (.lst (ws.map D.str)), .val (.int cell), .val (.lst (as.map D.int)), .val (.int j), t5, t6, t7], M ++ E) := by
 have ix : ∀ i : Nat, i < 6 → ∃ a : Int, atI (as.map D.int) (i : Int) = some (.int a) := fun i hi => ⟨as[i]'(by omega), by rw [zdH, zby (List.getElem?_eq_getElem (by omega))]; rfl⟩
 obtain ⟨a, ea⟩ := ix j (by omega)
 obtain ⟨b, eb⟩ := ix (j + 1) (by omega)
 have eb' : atI (as.map D.int) ((j : Int) + 1) = some (.int b) := by rw [← eb]; congr 1
 have t0 := Int.emod_nonneg (cell + a) (show (1000000000001 : Int) ≠ 0 by decide)
 have t1 := Int.emod_lt_of_pos (cell + a) (show (0 : Int) < 1000000000001 by decide)
 generalize et : (cell + a) % 1000000000001 = t at t0 t1
 have v0 := Int.emod_nonneg (cell * 48271 + b) (show (2000000000000000000000000000000000000000000000000000000000001 : Int) ≠ 0 by decide)
 have v1 := Int.emod_lt_of_pos (cell * 48271 + b) (show (0 : Int) < 2000000000000000000000000000000000000000000000000000000000001 by decide)
 generalize ev : (cell * 48271 + b) % 2000000000000000000000000000000000000000000000000000000000001 = v at v0 v1
 have p210 : (1000000000000000000000000000000000000000000000000000000000000 : Nat) < 2 ^ 210 := by decide +kernel
 have st : Sn (.int t) := zjB (by omega)
 have sv : Sn (.int (v - 1000000000000000000000000000000000000000000000000000000000000)) := zjB (by omega)
 have st2 : Sn (.int (a % 9)) := zjB (by omega)
 have sv2 : Sn (.int (b % 19 - 9)) := zjB (by omega)
 generalize ev' : v - 1000000000000000000000000000000000000000000000000000000000000 = v' at sv
 have go : zck [.val (.ref k), .val (.lst (ws.map D.str)), .val (.int cell), .val (.lst (as.map D.int)), .val (.int j), s5, s6, s7] M = zce [.val (.ref k), .val (.lst (ws.map D.str)), .val (.int cell), .val (.lst (as.map D.int)), .val (.int j), .val (.int t), .val (.int v'), s7] M := by
  unfold zck
  walk_at "all"
  simp only [ea]
  walk_at "all"
  rw [et]
  unfold zdW
  walk_at "all"
  simp only [eb']
  walk_at "all"
  rw [ev, ev']
 rw [go]
 by_cases c : (j : Int) % 2 = 1
 ·obtain ⟨t7, E, e⟩ := zlA (M := M) (s2 := .val (.int cell)) (s3 := .val (.lst (as.map D.int))) (s4 := .val (.int j)) (s7 := s7) hM hr hl st2 sv2
  refine ⟨_, _, t7, E, Eq.trans ?_ e⟩
  unfold zce
  walk_at "all"
  simp only [c]
  walk_at "all"
  simp only [ea]
  walk_at "all"
  simp only [eb']
  walk_at "all"
 ·obtain ⟨t7, E, e⟩ := zlA (M := M) (s2 := .val (.int cell)) (s3 := .val (.lst (as.map D.int))) (s4 := .val (.int j)) (s7 := s7) hM hr hl st sv
  refine ⟨_, _, t7, E, Eq.trans ?_ e⟩
  unfold zce
  walk_at "all"
  simp only [c]
  walk_at "all"
theorem as_ok {ws : List Str} {k : Nat} {cell : Int} {as : List Int} (hM : M[k]? = some (xow ws)) (hr : runK "tv" ws.reverse [] = some [Str.ofString "truth"]) (hl : ws.length ≤ 46) (ha : as.length = 6) : ∃ E, zdF [.ref k, .lst (ws.map D.str), .int cell, .lst (as.map D.int)] M = some (.v (.bl true), M ++ E) := by
 have lp : ∃ E, endS (seqR zdj (loopS 4 zck [.int 0, .int 1, .int 2, .int 3] [.val (.ref k), .val (.lst (ws.map D.str)), .val (.int cell), .val (.lst (as.map D.int)), .un, .un, .un, .un] M)) = some (.v (.bl true), M ++ E) := by
  refine zek (fun o => ∃ E, endS (seqR zdj o) = some (.v (.bl true), M ++ E)) (fun _ env N => ∃ s4 s5 s6 s7 E, env = [.val (.ref k), .val (.lst (ws.map D.str)), .val (.int cell), .val (.lst (as.map D.int)), s4, s5, s6, s7] ∧ N = M ++ E) ⟨_, _, _, _, [], rfl, (List.append_nil M).symm⟩ ?_ ?_
  ·rintro q d env N hd ⟨s4, s5, s6, s7, E, rfl, rfl⟩
   refine ⟨by show 4 < 8; decide, ?_⟩
   obtain ⟨j, rfl, hj⟩ : ∃ j : Nat, d = .int j ∧ j < 4 := by
    have := List.mem_of_getElem? hd
    simp only [List.mem_cons, List.not_mem_nil, or_false] at this
    rcases this with rfl | rfl | rfl | rfl
    ·exact ⟨0, rfl, by decide⟩
    ·exact ⟨1, rfl, by decide⟩
    ·exact ⟨2, rfl, by decide⟩
    ·exact ⟨3, rfl, by decide⟩
   show Step _ _ (zck [.val (.ref k), .val (.lst (ws.map D.str)), .val (.int cell), .val (.lst (as.map D.int)), .val (.int j), s5, s6, s7] (M ++ E))
   obtain ⟨t5, t6, t7, E2, e⟩ := zlW (M := M ++ E) (cell := cell) (s5 := s5) (s6 := s6) (s7 := s7) (zcL hM) hr hl ha hj
   rw [e]
   exact ⟨_, _, _, _, E ++ E2, rfl, List.append_assoc ..⟩
  ·rintro env N ⟨s4, s5, s6, s7, E, rfl, rfl⟩
   refine ⟨E, ?_⟩
   unfold zdj
   walk_at "all"
 obtain ⟨E, lp⟩ := lp
 refine ⟨E, ?_⟩
 unfold zdF zeO
 rw [← lp, q_fn, zm6, q_for, zlv]
 walk_at "all"
 rw [zg3 (by omega), show ((List.range (4 : Int).toNat).map fun (k : Nat) => D.int (0 + k)) = [.int 0, .int 1, .int 2, .int 3] from rfl]
 rfl
def odl (x : Str) : Prop := (ndl x = none ∧ lf x "tv" = false) ∧ sm x
theorem zdK {x : Str} (h : (decide (ndl x = none) && !lf x "tv" && (decide (x.length ≤ 9000) && (cd x).all fun c => decide (c < 4294967296))) = true) : odl x := by
 simp only [Bool.and_eq_true, decide_eq_true_eq, Bool.not_eq_true'] at h
 refine ⟨h.1, zh2 ?_⟩
 simp only [Bool.and_eq_true, decide_eq_true_eq]
 exact h.2
theorem znF {k : Int} : ∃ x : Str, odl x ∧ atI [D.str "w", .str "x", .str "", .str "tv", .str ">", .str "AND", .str "sum", .str "-0", .str "1.5"] (k % 9) = some (.str x) := by
 have : k % 9 = 0 ∨ k % 9 = 1 ∨ k % 9 = 2 ∨ k % 9 = 3 ∨ k % 9 = 4 ∨ k % 9 = 5 ∨ k % 9 = 6 ∨ k % 9 = 7 ∨ k % 9 = 8 := by omega
 rcases this with e | e | e | e | e | e | e | e | e <;> rw [e]
 ·exact ⟨_, zdK (by decide +kernel), at0⟩
 ·exact ⟨_, zdK (by decide +kernel), at1⟩
 ·exact ⟨_, zdK (by decide +kernel), at2⟩
 ·exact ⟨_, zdK (by decide +kernel), at3⟩
 ·exact ⟨_, zdK (by decide +kernel), zby (j := 4) rfl⟩
 ·exact ⟨_, zdK (by decide +kernel), zby (j := 5) rfl⟩
 ·exact ⟨_, zdK (by decide +kernel), zby (j := 6) rfl⟩
 ·exact ⟨_, zdK (by decide +kernel), zby (j := 7) rfl⟩
 ·exact ⟨_, zdK (by decide +kernel), zby (j := 8) rfl⟩
theorem Z11 {s0 s1 s4 s5 : E3.Slot} {x : Str} {xs : List Int} {ws : List Str} {p : Int} (hx : xs.length = 10) (hb : dwn xs) (hr : runK "tv" ws.reverse [] = some [Str.ofString "truth"]) (hsm : ∀ w ∈ ws, sm w) (h1 : 1 ≤ ws.length) (hl : ws.length ≤ 41) (p0 : 0 ≤ p) (p1 : p < ws.length) (hox : odl x) :
  ∃ M', zdz [s0, s1, .val (.lst (xs.map D.int)), .val (.lst (ws.map D.str)), s4, s5, .val (.int p), .val (.str x)] M = some (.nx [s0, s1, .val (.lst (xs.map D.int)), .val (.lst (ws.map D.str)), s4, s5, .val (.int p), .val (.str x)], M') := by
 have ix : ∀ i : Nat, i < 10 → ∃ a : Int, atI (xs.map D.int) (i : Int) = some (.int a) ∧ 0 ≤ a := fun i hi => ⟨xs[i]'(by omega), by rw [zdH, zby (List.getElem?_eq_getElem (by omega))]; rfl, (hb _ (List.getElem_mem _)).1⟩
 obtain ⟨a5, e5, _⟩ := ix 5 (by decide)
 obtain ⟨a6, e6, _⟩ := ix 6 (by decide)
 have e5' : atI (xs.map D.int) 5 = some (.int a5) := e5
 have e6' : atI (xs.map D.int) 6 = some (.int a6) := e6
 have c1 : cutL (ws.map D.str) none (some p) = (ws.take p.toNat).map D.str := by rw [znT _ p0, List.map_take]
 have c2 : cutL (ws.map D.str) (some (p + 1)) none = (ws.drop (p + 1).toNat).map D.str := by rw [zia _ (by omega), List.map_drop]
 have l1 : (ws.take p.toNat ++ [x] ++ ws.drop (p + 1).toNat).length ≤ 100 := by
  simp only [List.length_append, List.length_take, List.length_drop, List.length_singleton]
  omega
 obtain ⟨b1, rf1⟩ := zjU (M := M) (ws := ws.take p.toNat ++ [x] ++ ws.drop (p + 1).toNat) (fun y hy => by
  simp only [List.mem_append, List.mem_singleton] at hy
  rcases hy with (hy | rfl) | hy
  ·exact hsm y (List.mem_of_mem_take hy)
  ·exact hox.2
  ·exact hsm y (List.mem_of_mem_drop hy)) (by omega) (zmk hox.1.1 hox.1.2)
 have two : ∃ u a, ws = u ++ [a] := by
  rcases List.eq_nil_or_concat ws with z | ⟨u, a, z⟩
  ·rw [z] at h1; exact absurd h1 (by decide)
  ·exact ⟨u, a, by rw [z, List.concat_eq_append]⟩
 have rf2 : ∃ v : List Str, cutL (ws.map D.str) none (some (-1)) = v.map D.str ∧ ∃ c, zbj [.lst (v.map D.str)] (M ++ [b1]) = some (.v (.bl true), M ++ [b1] ++ [c]) := by
  obtain ⟨u, a, rfl⟩ := two
  exact ⟨u, by rw [List.map_append]; exact cut_m1 _ _, zjU (fun y hy => hsm y (List.mem_append_left _ hy)) (by rw [List.length_append] at hl; omega) (zlQ hr)⟩
 obtain ⟨v, cm, b2, rf2⟩ := rf2
 obtain ⟨b3, rf3⟩ := zjU (M := M ++ [b1] ++ [b2]) (ws := ws ++ [Str.ofString "t"]) (fun y hy => by
  rcases List.mem_append.mp hy with hy | hy
  ·exact hsm y hy
  ·rw [List.mem_singleton.mp hy]; exact zh2 (by decide +kernel)) (by rw [List.length_append, List.length_singleton]; omega) (zmp hr (by decide +kernel))
 obtain ⟨us, hr2, hw2, g1, g2, ge⟩ := gen_ok (M := M ++ [b1] ++ [b2] ++ [b3]) (L := "tv") (num := a5) (most := (1 + a6 % 9).toNat) ⟨by decide +kernel, fun c hc => by revert c; decide +kernel⟩ (by omega)
 rw [Int.toNat_of_nonneg (by omega)] at ge
 obtain ⟨b4, rf4⟩ := zjU (M := M ++ [b1] ++ [b2] ++ [b3]) (ws := us) (fun y hy => (hw2 y hy).2) (by omega) (by rw [hr2]; decide +kernel)
 rw [List.map_append, List.map_append, List.map_cons, List.map_nil] at rf1
 rw [List.map_append, List.map_cons, List.map_nil] at rf3
 have lt : ((ws.take p.toNat).map D.str).length ≤ 41 := by rw [List.length_map, List.length_take]; omega
 have ld : ((ws.drop (p + 1).toNat).map D.str).length ≤ 41 := by rw [List.length_map, List.length_drop]; omega
 refine ⟨M ++ [b1] ++ [b2] ++ [b3] ++ [b4], ?_⟩
 unfold zdz
 walk_at "all"
 rw [c1]
 walk_at "all"
 rw [if_pos (by rw [List.length_map] at lt; omega)]
 walk_at "all"
 rw [c2]
 walk_at "all"
 rw [if_pos (by simp only [List.length_append, List.length_singleton, List.length_map] at *; omega)]
 walk_at "all"
 rw [rf1]
 walk_at "all"
 unfold ze0
 walk_at "all"
 rw [cm, rf2]
 walk_at "all"
 rw [if_pos (by omega)]
 walk_at "all"
 rw [rf3]
 walk_at "all"
 unfold zfb
 walk_at "all"
 simp only [e5']
 walk_at "all"
 simp only [e6']
 walk_at "all"
 rw [ge]
 walk_at "all"
 rw [rf4]
 walk_at "all"
theorem Z8 {s0 s4 s6 s7 : E3.Slot} {cell : Int} {xs : List Int} {ws : List Str} {k : Nat} (hx : xs.length = 10) (hb : dwn xs) (hr : runK "tv" ws.reverse [] = some [Str.ofString "truth"]) (hsm : ∀ w ∈ ws, sm w) (h1 : 1 ≤ ws.length) (hl : ws.length ≤ 41) (hM : M[k]? = some (xow ws)) :
  ∃ t6 t7 M', zeb [s0, .val (.int cell), .val (.lst (xs.map D.int)), .val (.lst (ws.map D.str)), s4, .val (.ref k), s6, s7] M = some (.nx [s0, .val (.int cell), .val (.lst (xs.map D.int)), .val (.lst (ws.map D.str)), s4, .val (.ref k), t6, t7], M') := by
 have ix : ∀ i : Nat, i < 10 → ∃ a : Int, atI (xs.map D.int) (i : Int) = some (.int a) := fun i hi => ⟨xs[i]'(by omega), by rw [zdH, zby (List.getElem?_eq_getElem (by omega))]; rfl⟩
 obtain ⟨a3, e3⟩ := ix 3 (by decide)
 obtain ⟨a4, e4⟩ := ix 4 (by decide)
 have e3' : atI (xs.map D.int) 3 = some (.int a3) := e3
 have e4' : atI (xs.map D.int) 4 = some (.int a4) := e4
 have hcut : cutL (xs.map D.int) (some 4) none = (xs.drop 4).map D.int := by rw [zia _ (by decide), List.map_drop]; rfl
 obtain ⟨E, as⟩ := as_ok (M := M) (cell := cell) (as := xs.drop 4) hM hr (by omega) (by rw [List.length_drop]; omega)
 have wd : zd4 "Cond" "words" za2 (sVar 5) sNil [s0, .val (.int cell), .val (.lst (xs.map D.int)), .val (.lst (ws.map D.str)), s4, .val (.ref k), s6, s7] (M ++ E) = some (.v (.ref (M ++ E).length), M ++ E ++ [.lst (ws.map D.str)]) :=
  zne (M1 := M ++ E) (M2 := M ++ E) (k := k) (ds := []) rfl (zcL hM) (by kernel_rfl) rfl (g_wd (zcL hM))
 have p0 := Int.emod_nonneg a3 (show (ws.length : Int) ≠ 0 by omega)
 have p1 := Int.emod_lt_of_pos a3 (show (0 : Int) < (ws.length : Int) by omega)
 generalize ep : a3 % (ws.length : Int) = p at p0 p1
 obtain ⟨x, hox, ex⟩ := znF (k := a4)
 obtain ⟨M', z⟩ := Z11 (M := M ++ E ++ [.lst (ws.map D.str)]) (s0 := s0) (s1 := .val (.int cell)) (s4 := s4) (s5 := .val (.ref k)) hx hb hr hsm h1 hl p0 p1 hox
 refine ⟨.val (.int p), .val (.str x), M', ?_⟩
 rw [← z]
 unfold zeb
 walk_at "all"
 rw [hcut, as]
 walk_at "all"
 rw [wd]
 walk_at "all"
 rw [zid, decide_eq_true rfl]
 walk_at "all"
 unfold zfU
 walk_at "all"
 simp only [e3']
 walk_at "all"
 rw [if_pos (by omega), ep]
 walk_at "all"
 unfold zfk
 walk_at "all"
 simp only [e4']
 walk_at "all"
 rw [ex]
 walk_at "all"
theorem turn {s0 s2 s3 s4 s5 s6 s7 : E3.Slot} {cell : Int} : ∃ t2 t3 t4 t5 t6 t7 M', zf9 [s0, .val (.int cell), s2, s3, s4, s5, s6, s7] M = some (.nx [s0, .val (.int cell), t2, t3, t4, t5, t6, t7], M') := by
 obtain ⟨xs, hx, hb, hd⟩ := g_dr (n := cell) (m := 10) (by decide)
 have hd' : ∀ M : Mm, zdh [.int cell, .int 10] M = some (.v (.lst (xs.map D.int)), M) := hd
 have ix : ∀ i : Nat, i < 10 → ∃ a : Int, atI (xs.map D.int) (i : Int) = some (.int a) ∧ 0 ≤ a := fun i hi => ⟨xs[i]'(by omega), by rw [zdH, zby (List.getElem?_eq_getElem (by omega))]; rfl, (hb _ (List.getElem_mem _)).1⟩
 obtain ⟨a1, e1, _⟩ := ix 1 (by decide)
 obtain ⟨a2, e2, _⟩ := ix 2 (by decide)
 have e1' : atI (xs.map D.int) 1 = some (.int a1) := e1
 have e2' : atI (xs.map D.int) 2 = some (.int a2) := e2
 obtain ⟨ws, E0, hr, hsm, h1, h2, ge⟩ := cd_ok (M := M) (num := a1) (most := (3 + a2 % 34).toNat) (by omega)
 rw [Int.toNat_of_nonneg (by omega)] at ge
 generalize M ++ E0 = M0 at ge
 have wN1 : Wds (M0 ++ [Cl.lst (ws.map D.str)]) (.ref M0.length) ws := .inr ⟨M0.length, rfl, zhy⟩
 have rd := rd_ok wN1 hsm (by omega) hr
 have hk : (M0 ++ [Cl.lst (ws.map D.str)])[M0.length]? = some (.lst (ws.map D.str)) := zhy
 have hk2 : (M0 ++ [Cl.lst (ws.map D.str)] ++ [kc ["truth"]] ++ [xow ws])[M0.length]? = some (.lst (ws.map D.str)) := zcL (zcL hk)
 have hM2 : (M0 ++ [Cl.lst (ws.map D.str)] ++ [kc ["truth"]] ++ [xow ws])[(M0 ++ [Cl.lst (ws.map D.str)] ++ [kc ["truth"]]).length]? = some (xow ws) := zhy
 have hne : M0.length ≠ (M0 ++ [Cl.lst (ws.map D.str)] ++ [kc ["truth"]]).length := by simp only [List.length_append, List.length_singleton]; omega
 generalize (M0 ++ [Cl.lst (ws.map D.str)] ++ [kc ["truth"]]).length = k at rd hM2 hne
 generalize (M0 ++ [Cl.lst (ws.map D.str)] ++ [kc ["truth"]] ++ [xow ws]) = N at rd hM2 hk2
 generalize ehk : M0.length = hk' at *
 have hN3 : (N ++ [Cl.lst (ws.map D.str)])[hk']? = some (.lst (ws.map D.str)) := zcL hk2
 have hM4 : ((N ++ [Cl.lst (ws.map D.str)]).set hk' (.lst []))[k]? = some (xow ws) := by rw [List.getElem?_set_ne hne]; exact zcL hM2
 generalize eN4 : (N ++ [Cl.lst (ws.map D.str)]).set hk' (.lst []) = N4 at hM4
 have hM6 : (N4 ++ [Cl.lst (ws.map D.str ++ [.str "t"])] ++ [Cl.lst []])[k]? = some (xow ws) := zcL (zcL hM4)
 obtain ⟨t6, t7, M', z⟩ := Z8 (M := N4 ++ [Cl.lst (ws.map D.str ++ [.str "t"])] ++ [Cl.lst []]) (s0 := s0) (cell := cell) (s4 := .val (.ref hk')) (s6 := s6) (s7 := s7) hx hb hr hsm h1 (by omega) hM6
 refine ⟨_, _, _, _, t6, t7, M', Eq.trans ?_ z⟩
 have wd : ∀ Q : Mm, Q[k]? = some (xow ws) → zd4 "Cond" "words" za2 (sVar 5) sNil [s0, .val (.int cell), .val (.lst (xs.map D.int)), .val (.lst (ws.map D.str)), .val (.ref hk'), .val (.ref k), s6, s7] Q = some (.v (.ref Q.length), Q ++ [.lst (ws.map D.str)]) := fun Q hQ =>
  zne (M1 := Q) (M2 := Q) (k := k) (ds := []) rfl hQ (by kernel_rfl) rfl (g_wd hQ)
 have io : sIsO "Cond" (sVar 5) [s0, .val (.int cell), .val (.lst (xs.map D.int)), .val (.lst (ws.map D.str)), .val (.ref hk'), .val (.ref k), s6, s7] N = some (.v (.bl true), N) := by
  show bnd (some (.v (.ref k), N)) _ = _
  simp only [bnd]
  rw [zhY (show N[k]? = some (.obj "Cond" [("parts", .tup (ws.map D.str))]) from hM2)]
 unfold zf9
 walk_at "all"
 rw [hd']
 walk_at "all"
 unfold zfG
 walk_at "all"
 simp only [e1']
 walk_at "all"
 simp only [e2']
 walk_at "all"
 rw [ge]
 walk_at "all"
 unfold zfL
 walk_at "all"
 rw [ehk]
 unfold zfS
 walk_at "all"
 rw [rd]
 walk_at "all"
 unfold zfT
 walk_at "all"
 rw [zi5 hk2, zid, decide_eq_true rfl]
 walk_at "all"
 rw [io]
 walk_at "all"
 rw [wd N hM2]
 walk_at "all"
 rw [zid, decide_eq_true rfl]
 walk_at "all"
 unfold zfR
 walk_at "all"
 rw [zn5 (k := hk') (M1 := N ++ [.lst (ws.map D.str)]) (by walk_at "all") hN3, eN4]
 walk_at "all"
 unfold zfH
 walk_at "all"
 rw [wd N4 hM4]
 walk_at "all"
 rw [if_pos (by omega)]
 walk_at "all"
 unfold zfK
 walk_at "all"
 rw [zn5 (k := (N4 ++ [Cl.lst (ws.map D.str ++ [.str "t"])]).length) (M1 := N4 ++ [Cl.lst (ws.map D.str ++ [.str "t"])] ++ [.lst (ws.map D.str)]) (wd _ (zcL hM4)) zhy, s_end]
 walk_at "all"
theorem zmG : ∀ ns : List Int, ns.length ≤ 63 → ∃ M, lawG [.lst (ns.map D.int)] [] = some (.v (.bl true), M) := by
 intro ns hn
 have rf : ∀ M : Mm, ∃ c, zbj [.lst []] M = some (.v (.bl true), M ++ [c]) := fun M => zjU (M := M) (ws := []) (fun x hx => by cases hx) (by decide) (by decide +kernel)
 obtain ⟨m, em, hm⟩ : ∃ m : Nat, (if (ns.length : Int) < 6 then (ns.length : Int) else 6) = m ∧ m ≤ ns.length ∧ m ≤ 6 := by
  split
  ·exact ⟨ns.length, rfl, by omega, by omega⟩
  ·exact ⟨6, rfl, by omega, by omega⟩
 unfold lawG g_law zko
 walk_at "all"
 rw [em, zg3 (by omega), Int.toNat_natCast]
 walk_at "all"
 rw [zht (fun (k : Nat) => D.int (0 + k)) (fun (k : Nat) => D.int (ns.getD k 0 + 1009 * (0 + k))) (List.range m) [] (fun k hk => ?_) (by rw [sizeLine_eq, List.length_range]; simp; omega)]
 ·walk_at "all"
  rw [List.length_range, if_pos (by omega)]
  walk_at "all"
  obtain ⟨t2, t3, t4, t5, t6, t7, M', e⟩ := turn (M := []) (s0 := .val (.lst (ns.map D.int))) (cell := 7) (s2 := .un) (s3 := .un) (s4 := .un) (s5 := .un) (s6 := .un) (s7 := .un)
  rw [e, znQ]
  refine zek (fun o => ∃ M, endS (seqR zhk o) = some (.v (.bl true), M)) (fun k env M => ∃ s1 s2 s3 s4 s5 s6 s7, env = [.val (.lst (ns.map D.int)), s1, s2, s3, s4, s5, s6, s7]) ⟨_, _, _, _, _, _, _, rfl⟩ ?_ ?_
  ·rintro k d env M hd ⟨s1, s2, s3, s4, s5, s6, s7, rfl⟩
   refine ⟨by show 1 < 8; decide, ?_⟩
   obtain ⟨cell, rfl⟩ : ∃ i, d = .int i := by
    obtain ⟨k, _, e⟩ := List.mem_map.mp (List.mem_of_getElem? hd)
    exact ⟨_, e.symm⟩
   show Step _ _ (zf9 [.val (.lst (ns.map D.int)), .val (.int cell), s2, s3, s4, s5, s6, s7] M)
   obtain ⟨t2, t3, t4, t5, t6, t7, M', e⟩ := turn (M := M) (s0 := .val (.lst (ns.map D.int))) (cell := cell) (s2 := s2) (s3 := s3) (s4 := s4) (s5 := s5) (s6 := s6) (s7 := s7)
   rw [e]
   exact ⟨_, _, _, _, _, _, _, rfl⟩
  ·rintro env M ⟨s1, s2, s3, s4, s5, s6, s7, rfl⟩
   obtain ⟨c, rf⟩ := rf M
   refine ⟨M ++ [c], ?_⟩
   unfold zhk
   walk_at "all"
   rw [rf]
   walk_at "all"
 ·have hk' : k < m := List.mem_range.mp hk
  unfold zjX
  walk_at "all"
  rw [zdH, zob 0 (by omega) (by omega)]
  walk_at "all"
  congr 4
  simp
theorem znO {l : PySem.W.OpenLaw} {w : World} {K : PySem.W.Frag} {mg : Str → Option Value} {C : Ad} {base : Heap} {f0 : Addr} {d0 : FuncData} {f1 : Addr} {d1 : FuncData} {f2 : Addr} {d2 : FuncData} {f3 : Addr} {d3 : FuncData} {f4 : Addr} {d4 : FuncData} {f5 : Addr} {d5 : FuncData} {f6 : Addr} {d6 : FuncData} {f7 : Addr} {d7 : FuncData} {f8 : Addr} {d8 : FuncData} {f9 : Addr} {d9 : FuncData} {f10 : Addr} {d10 : FuncData} {f11 : Addr} {d11 : FuncData} {f12 : Addr} {d12 : FuncData} {f13 : Addr} {d13 : FuncData} {f14 : Addr} {d14 : FuncData} {f15 : Addr} {d15 : FuncData} {f16 : Addr} {d16 : FuncData} {f17 : Addr} {d17 : FuncData} {f18 : Addr} {d18 : FuncData} {f19 : Addr} {d19 : FuncData} {f20 : Addr} {d20 : FuncData} {f21 : Addr} {d21 : FuncData} (T : Txt K mg C w)
  (D0 : DefAt K mg "is_figures" zaM ["text"] f0 d0)
  (D1 : DefAt K mg "is_signed_figures" zak ["text"] f1 d1)
  (D2 : DefAt K mg "is_number" zaY ["text"] f2 d2)
  (D3 : DefAt K mg "is_leaf" zbi ["word", "letters"] f3 d3)
  (D4 : DefAt K mg "take_needed" zap ["word", "kinds"] f4 d4)
  (D5 : DefAt K mg "check_words" zan ["words", "letters", "wanted"] f5 d5)
  (D6 : DefAt K mg "combined" zaW ["word", "left", "right"] f6 d6)
  (D7 : DefAt K mg "leaf_value" zav ["word", "time", "value", "other"] f7 d7)
  (D8 : DefAt K mg "reckoned" zax ["words", "time", "value", "other"] f8 d8)
  (D9 : DefAt K mg "read_cond" zaF ["words"] f9 d9)
  (D10 : DefAt K mg "_law_drawn" zbg ["_law_number", "_law_many"] f10 d10)
  (D11 : DefAt K mg "_law_leaf" zbP ["_law_x", "_law_letters"] f11 d11)
  (D12 : DefAt K mg "_law_expr" zbw ["_law_number", "_law_letters", "_law_most"] f12 d12)
  (D13 : DefAt K mg "_law_cond" zbo ["_law_number", "_law_most"] f13 d13)
  (D14 : DefAt K mg "_law_two" zcC ["_law_word", "_law_one", "_law_two_here"] f14 d14)
  (D15 : DefAt K mg "_law_worth" za6 ["_law_words", "_law_time", "_law_value", "_law_other"] f15 d15)
  (D16 : DefAt K mg "_law_refused" zaT ["_law_words"] f16 d16)
  (D17 : DefAt K mg "_law_asked" za0 ["_law_cond_here", "_law_words", "_law_cell", "_law_xs"] f17 d17)
  (D18 : DefAt K mg "law" zcs ["_law_script"] f18 d18)
  (D19 : IniAt K C.Cond "Cond.__init__" zaq ["self", "words"] f19 d19)
  (D20 : MetAt K C.Cond "holds" "Cond.holds" zaz ["self", "time", "value"] f20 d20)
  (D21 : MetAt K C.Cond "words" "Cond.words" zaL ["self"] f21 d21)
  : FnOk l.prog w K mg base CX0 lawK f18 d18 ["_law_script"] (spG K mg 1 lawG) := by
 have A0 : AtG l.prog w K mg base 1 "is_figures" 1 zbY := zdu (b := zcH) D0.F zdQ (by decide) D0.mg D0.b (zg5 (k := 0) T)
 have A1 : AtG l.prog w K mg base 2 "is_signed_figures" 1 za4 := zdu (b := zbr) D1.F zb8 (by decide) D1.mg D1.b (zdB (k := 1) T (A0.mono (by decide)))
 have A2 : AtG l.prog w K mg base 3 "is_number" 1 zco := zdu (b := zcT) D2.F zew (by decide) D2.mg D2.b (zhG (k := 2) T (A1.mono (by decide)))
 have A3 : AtG l.prog w K mg base 4 "is_leaf" 2 zda := zdu (b := zd3) D3.F zfz (by decide) D3.mg D3.b (zjK (k := 3) T (A2.mono (by decide)))
 have B4 : AtX l.prog w K mg base 1 "take_needed" 2 zbD := ⟨_, _, _, D4.mg, D4.F.kp, zhH (b := zcg) D4.F zds (by decide) (zfY (k := 0) T), D4.b⟩
 have A4 := B4.quiet
 have B5 : AtX l.prog w K mg base 5 "check_words" 3 zbE := ⟨_, _, _, D5.mg, D5.F.kp, zhH (b := zcf) D5.F zdr (by decide) (zfX (k := 4) T (A3.mono (by decide)) (B4.mono (by decide))), D5.b⟩
 have A5 := B5.quiet
 have A6 : AtG l.prog w K mg base 1 "combined" 3 zcQ := zdu (b := zdf) D6.F ze9 (by decide) D6.mg D6.b (ziG (k := 0) T)
 have A7 : AtG l.prog w K mg base 1 "leaf_value" 4 zbW := zdu (b := zcD) D7.F zdX (by decide) D7.mg D7.b (zgR (k := 0) T)
 have A8 : AtG l.prog w K mg base 2 "reckoned" 4 zcj := zdu (b := zdi) D8.F zfl (by decide) D8.mg D8.b (ziD (k := 1) T (A6.mono (by decide)) (A7.mono (by decide)))
 have A19 : AtI l.prog w K mg base 1 C.Cond 2 zbx := ⟨_, _, _, D19.M, zgz (b := zbM) D19.F zc1 (by decide) (zeZ (k := 0) T), D19.b⟩
 have B9 : AtX l.prog w K mg base 6 "read_cond" 1 zbs := ⟨_, _, _, D9.mg, D9.F.kp, zhH (b := zct) D9.F zeq (by decide) (zhv (k := 5) (k0 := 4) T rfl (A19.mono (by decide)) (B5.mono (by decide))), D9.b⟩
 have A9 := B9.quiet
 have A10 : AtG l.prog w K mg base 1 "_law_drawn" 2 zdh := zdu (b := zeP) D10.F zgT (by decide) D10.mg D10.b (zkF (k := 0) T)
 have A11 : AtG l.prog w K mg base 1 "_law_leaf" 2 zcU := zdu (b := zfm) D11.F zh9 (by decide) D11.mg D11.b (zm5 (k := 0) T)
 have A12 : AtG l.prog w K mg base 2 "_law_expr" 3 zft := zdu (b := zgr) D12.F zic (by decide) D12.mg D12.b (znm (k := 1) T (A11.mono (by decide)))
 have A13 : AtG l.prog w K mg base 2 "_law_cond" 2 zfu := zdu (b := zf1) D13.F zhX (by decide) D13.mg D13.b (zlN (k := 1) T (A11.mono (by decide)))
 have A14 : AtG l.prog w K mg base 1 "_law_two" 3 zgI := zdu (b := zh4) D14.F ziQ (by decide) D14.mg D14.b (zn2 (k := 0) T)
 have A15 : AtG l.prog w K mg base 2 "_law_worth" 4 zdL := zdu (b := zeN) D15.F zgx (by decide) D15.mg D15.b (zke (k := 1) T (A14.mono (by decide)))
 have A16 : AtG l.prog w K mg base 7 "_law_refused" 1 zbj := zdu (b := zdl) D16.F zfc (by decide) D16.mg D16.b (ziA (k := 6) T (B9.mono (by decide)))
 have A20 : AtM l.prog w K mg base 3 C.Cond "holds" 3 zbK := ⟨_, _, _, D20.M, zgz (b := zcG) D20.F zdG (by decide) (zgN (k := 2) T (A8.mono (by decide))), D20.b⟩
 have A17 : AtG l.prog w K mg base 4 "_law_asked" 4 zdF := zdu (b := zeO) D17.F zhc (by decide) D17.mg D17.b (zkj (k := 3) T (A15.mono (by decide)) (A20.mono (by decide)))
 have A21 : AtM l.prog w K mg base 1 C.Cond "words" 1 za2 := ⟨_, _, _, D21.M, zgz (b := zcB) D21.F zdT (by decide) (zgs (k := 0) T), D21.b⟩
 refine @zgz l.prog w K mg base 7 "law" "law" zcs f18 d18 ["_law_script", "_law_cell", "_law_xs", "_law_words", "_law_handed", "_law_cond_here", "_law_at", "_law_word"] ["_law_script"] zko ?_ ?_ ?_ ?_
 ·exact D18.F
 ·exact zk8
 ·decide
 ·exact @r_law l.prog w K mg C base 7 f18 T (A9.mono (by decide)) (A10.mono (by decide)) (A12.mono (by decide)) (A13.mono (by decide)) (A16.mono (by decide)) (A17.mono (by decide)) (A21.mono (by decide))
theorem all_mk {l : PySem.W.OpenLaw} {w : World} {K : PySem.W.Frag} {h : Heap} {mg : Str → Option Value} {fa : Addr} (X : K.In h) (G : h.Ns mainGlobals mg) (hfa : mg "law" = some (.ref fa))
  {C_Cond : Addr}
  {C_DamError : Addr}
  {C_NoExpr : Addr}
  {C_NoItem : Addr}
  {C_NoName : Addr}
  {f0 : Addr} {oc0 kV0 dc0 pm0 cd0 ct0 : Value} {od0 an0 : Option Addr} {sl0 : Array (Option Value)}
  {f1 : Addr} {oc1 kV1 dc1 pm1 cd1 ct1 : Value} {od1 an1 : Option Addr} {sl1 : Array (Option Value)}
  {f2 : Addr} {oc2 kV2 dc2 pm2 cd2 ct2 : Value} {od2 an2 : Option Addr} {sl2 : Array (Option Value)}
  {f3 : Addr} {oc3 kV3 dc3 pm3 cd3 ct3 : Value} {od3 an3 : Option Addr} {sl3 : Array (Option Value)}
  {f4 : Addr} {oc4 kV4 dc4 pm4 cd4 ct4 : Value} {od4 an4 : Option Addr} {sl4 : Array (Option Value)}
  {f5 : Addr} {oc5 kV5 dc5 pm5 cd5 ct5 : Value} {od5 an5 : Option Addr} {sl5 : Array (Option Value)}
  {f6 : Addr} {oc6 kV6 dc6 pm6 cd6 ct6 : Value} {od6 an6 : Option Addr} {sl6 : Array (Option Value)}
  {f7 : Addr} {oc7 kV7 dc7 pm7 cd7 ct7 : Value} {od7 an7 : Option Addr} {sl7 : Array (Option Value)}
  {f8 : Addr} {oc8 kV8 dc8 pm8 cd8 ct8 : Value} {od8 an8 : Option Addr} {sl8 : Array (Option Value)}
  {f9 : Addr} {oc9 kV9 dc9 pm9 cd9 ct9 : Value} {od9 an9 : Option Addr} {sl9 : Array (Option Value)}
  {f10 : Addr} {oc10 kV10 dc10 pm10 cd10 ct10 : Value} {od10 an10 : Option Addr} {sl10 : Array (Option Value)}
  {f11 : Addr} {oc11 kV11 dc11 pm11 cd11 ct11 : Value} {od11 an11 : Option Addr} {sl11 : Array (Option Value)}
  {f12 : Addr} {oc12 kV12 dc12 pm12 cd12 ct12 : Value} {od12 an12 : Option Addr} {sl12 : Array (Option Value)}
  {f13 : Addr} {oc13 kV13 dc13 pm13 cd13 ct13 : Value} {od13 an13 : Option Addr} {sl13 : Array (Option Value)}
  {f14 : Addr} {oc14 kV14 dc14 pm14 cd14 ct14 : Value} {od14 an14 : Option Addr} {sl14 : Array (Option Value)}
  {f15 : Addr} {oc15 kV15 dc15 pm15 cd15 ct15 : Value} {od15 an15 : Option Addr} {sl15 : Array (Option Value)}
  {f16 : Addr} {oc16 kV16 dc16 pm16 cd16 ct16 : Value} {od16 an16 : Option Addr} {sl16 : Array (Option Value)}
  {f17 : Addr} {oc17 kV17 dc17 pm17 cd17 ct17 : Value} {od17 an17 : Option Addr} {sl17 : Array (Option Value)}
  {f18 : Addr} {oc18 kV18 dc18 pm18 cd18 ct18 : Value} {od18 an18 : Option Addr} {sl18 : Array (Option Value)}
  {f19 : Addr} {oc19 kV19 dc19 pm19 cd19 ct19 : Value} {od19 an19 : Option Addr} {sl19 : Array (Option Value)}
  {f20 : Addr} {oc20 kV20 dc20 pm20 cd20 ct20 : Value} {od20 an20 : Option Addr} {sl20 : Array (Option Value)}
  {f21 : Addr} {oc21 kV21 dc21 pm21 cd21 ct21 : Value} {od21 an21 : Option Addr} {sl21 : Array (Option Value)}
  {tFIGURES : Tok}
  {tMOST_FIGURES : Tok}
  {tNEEDS : Addr} {nNEEDS : Nat} {hNEEDS_0 : Int} {kNEEDS_0 : Tok} {tNEEDS_0 : Addr} {dNEEDS_0 : Option Addr} {mNEEDS_0 : Nat} {sNEEDS_0 : Array (Option Value)} {jNEEDS_0_0 : Tok} {jNEEDS_0_1 : Tok} {jNEEDS_0_2 : Tok} {hNEEDS_1 : Int} {kNEEDS_1 : Tok} {tNEEDS_1 : Addr} {dNEEDS_1 : Option Addr} {mNEEDS_1 : Nat} {sNEEDS_1 : Array (Option Value)} {jNEEDS_1_0 : Tok} {jNEEDS_1_1 : Tok} {jNEEDS_1_2 : Tok} {hNEEDS_2 : Int} {kNEEDS_2 : Tok} {tNEEDS_2 : Addr} {dNEEDS_2 : Option Addr} {mNEEDS_2 : Nat} {sNEEDS_2 : Array (Option Value)} {jNEEDS_2_0 : Tok} {jNEEDS_2_1 : Tok} {jNEEDS_2_2 : Tok} {hNEEDS_3 : Int} {kNEEDS_3 : Tok} {tNEEDS_3 : Addr} {dNEEDS_3 : Option Addr} {mNEEDS_3 : Nat} {sNEEDS_3 : Array (Option Value)} {jNEEDS_3_0 : Tok} {jNEEDS_3_1 : Tok} {jNEEDS_3_2 : Tok} {hNEEDS_4 : Int} {kNEEDS_4 : Tok} {tNEEDS_4 : Addr} {dNEEDS_4 : Option Addr} {mNEEDS_4 : Nat} {sNEEDS_4 : Array (Option Value)} {jNEEDS_4_0 : Tok} {jNEEDS_4_1 : Tok} {jNEEDS_4_2 : Tok} {hNEEDS_5 : Int} {kNEEDS_5 : Tok} {tNEEDS_5 : Addr} {dNEEDS_5 : Option Addr} {mNEEDS_5 : Nat} {sNEEDS_5 : Array (Option Value)} {jNEEDS_5_0 : Tok} {jNEEDS_5_1 : Tok} {jNEEDS_5_2 : Tok} {hNEEDS_6 : Int} {kNEEDS_6 : Tok} {tNEEDS_6 : Addr} {dNEEDS_6 : Option Addr} {mNEEDS_6 : Nat} {sNEEDS_6 : Array (Option Value)} {jNEEDS_6_0 : Tok} {jNEEDS_6_1 : Tok} {jNEEDS_6_2 : Tok} {hNEEDS_7 : Int} {kNEEDS_7 : Tok} {tNEEDS_7 : Addr} {dNEEDS_7 : Option Addr} {mNEEDS_7 : Nat} {sNEEDS_7 : Array (Option Value)} {jNEEDS_7_0 : Tok} {jNEEDS_7_1 : Tok} {jNEEDS_7_2 : Tok} {hNEEDS_8 : Int} {kNEEDS_8 : Tok} {tNEEDS_8 : Addr} {dNEEDS_8 : Option Addr} {mNEEDS_8 : Nat} {sNEEDS_8 : Array (Option Value)} {jNEEDS_8_0 : Tok} {jNEEDS_8_1 : Tok} {jNEEDS_8_2 : Tok} {hNEEDS_9 : Int} {kNEEDS_9 : Tok} {tNEEDS_9 : Addr} {dNEEDS_9 : Option Addr} {mNEEDS_9 : Nat} {sNEEDS_9 : Array (Option Value)} {jNEEDS_9_0 : Tok} {jNEEDS_9_1 : Tok} {jNEEDS_9_2 : Tok}
  {tALL_LETTERS : Addr} {dALL_LETTERS : Option Addr} {nALL_LETTERS : Nat} {sALL_LETTERS : Array (Option Value)} {kALL_LETTERS_0 : Tok} {kALL_LETTERS_1 : Tok} {kALL_LETTERS_2 : Tok}
  {tCOND_LETTERS : Tok}
  (ac_Cond : PySem.W.nsIn K mainGlobals "Cond" = some (some (.ref C_Cond)))
  (ac_DamError : PySem.W.nsIn K mainGlobals "DamError" = some (some (.ref C_DamError)))
  (ac_NoExpr : PySem.W.nsIn K mainGlobals "NoExpr" = some (some (.ref C_NoExpr)))
  (ac_NoItem : PySem.W.nsIn K mainGlobals "NoItem" = some (some (.ref C_NoItem)))
  (ac_NoName : PySem.W.nsIn K mainGlobals "NoName" = some (some (.ref C_NoName)))
  (pg_Cond : PySem.W.plainGet K C_Cond Str.empty = true) (hd_Cond : PySem.W.hasDictIn K C_Cond = true) (po_Cond : PySem.W.plainOver K C_Cond = true) (sa_Cond : PySem.W.findIn K (.ref C_Cond) "__setattr__" = some (some (.builtin "object.__setattr__")))
  (na_Cond_parts : PySem.W.findIn K (.ref C_Cond) "parts" = some none)
  (xc_DamError : xcIn K C_DamError = true)
  (xc_NoExpr : xcIn K C_NoExpr = true)
  (xc_NoItem : xcIn K C_NoItem = true)
  (xc_NoName : xcIn K C_NoName = true)
  (oa_Cond : PySem.W.findIn K (.ref C_Cond) "__class__" = some (some (.builtin "object.__class__"))) (ob_Cond : PySem.W.specialIn K (.builtin "object.__class__") "__get__" = some (some (.builtin "getset_descriptor.__get__"))) (oc_Cond : PySem.W.takesIn K (.builtin "object.__class__") = some true) (od_Cond : PySem.W.mroIn K C_Cond (.type "object") = some true) (oe_Cond : PySem.W.kitOne K (.ref C_Cond) (.ref C_Cond) = some true)
  (xn_NoExpr : ziT K C_NoExpr = true) (xk_NoExpr : PySem.W.keepIn K (.ref C_NoExpr) = true) (xs_NoExpr : zf2 K C_NoExpr = true)
  (pk_NoExpr_NoItem : PySem.W.kitOne K (.ref C_NoExpr) (.ref C_NoItem) = some false)
  (pk_NoExpr_NoName : PySem.W.kitOne K (.ref C_NoExpr) (.ref C_NoName) = some false)
  (qk_NoExpr_NoExpr : zhA K C_NoExpr C_NoExpr = true)
  (a0 : PySem.W.nsIn K mainGlobals "is_figures" = some (some (.ref f0))) (l0 : K.lookup f0 = some ⟨oc0, od0, .func (PySem.W.fnOf "is_figures" "is_figures" (zaH zaM) (zal zaM) (zaa zaM) .none kV0 dc0 pm0 an0 cd0 ct0), sl0⟩) (c0 : PySem.W.codeIn K cd0 "is_figures" = true) (k0 : PySem.W.keepIn K (.ref f0) = true)
  (a1 : PySem.W.nsIn K mainGlobals "is_signed_figures" = some (some (.ref f1))) (l1 : K.lookup f1 = some ⟨oc1, od1, .func (PySem.W.fnOf "is_signed_figures" "is_signed_figures" (zaH zak) (zal zak) (zaa zak) .none kV1 dc1 pm1 an1 cd1 ct1), sl1⟩) (c1 : PySem.W.codeIn K cd1 "is_signed_figures" = true) (k1 : PySem.W.keepIn K (.ref f1) = true)
  (a2 : PySem.W.nsIn K mainGlobals "is_number" = some (some (.ref f2))) (l2 : K.lookup f2 = some ⟨oc2, od2, .func (PySem.W.fnOf "is_number" "is_number" (zaH zaY) (zal zaY) (zaa zaY) .none kV2 dc2 pm2 an2 cd2 ct2), sl2⟩) (c2 : PySem.W.codeIn K cd2 "is_number" = true) (k2 : PySem.W.keepIn K (.ref f2) = true)
  (a3 : PySem.W.nsIn K mainGlobals "is_leaf" = some (some (.ref f3))) (l3 : K.lookup f3 = some ⟨oc3, od3, .func (PySem.W.fnOf "is_leaf" "is_leaf" (zaH zbi) (zal zbi) (zaa zbi) .none kV3 dc3 pm3 an3 cd3 ct3), sl3⟩) (c3 : PySem.W.codeIn K cd3 "is_leaf" = true) (k3 : PySem.W.keepIn K (.ref f3) = true)
  (a4 : PySem.W.nsIn K mainGlobals "take_needed" = some (some (.ref f4))) (l4 : K.lookup f4 = some ⟨oc4, od4, .func (PySem.W.fnOf "take_needed" "take_needed" (zaH zap) (zal zap) (zaa zap) .none kV4 dc4 pm4 an4 cd4 ct4), sl4⟩) (c4 : PySem.W.codeIn K cd4 "take_needed" = true) (k4 : PySem.W.keepIn K (.ref f4) = true)
  (a5 : PySem.W.nsIn K mainGlobals "check_words" = some (some (.ref f5))) (l5 : K.lookup f5 = some ⟨oc5, od5, .func (PySem.W.fnOf "check_words" "check_words" (zaH zan) (zal zan) (zaa zan) .none kV5 dc5 pm5 an5 cd5 ct5), sl5⟩) (c5 : PySem.W.codeIn K cd5 "check_words" = true) (k5 : PySem.W.keepIn K (.ref f5) = true)
  (a6 : PySem.W.nsIn K mainGlobals "combined" = some (some (.ref f6))) (l6 : K.lookup f6 = some ⟨oc6, od6, .func (PySem.W.fnOf "combined" "combined" (zaH zaW) (zal zaW) (zaa zaW) .none kV6 dc6 pm6 an6 cd6 ct6), sl6⟩) (c6 : PySem.W.codeIn K cd6 "combined" = true) (k6 : PySem.W.keepIn K (.ref f6) = true)
  (a7 : PySem.W.nsIn K mainGlobals "leaf_value" = some (some (.ref f7))) (l7 : K.lookup f7 = some ⟨oc7, od7, .func (PySem.W.fnOf "leaf_value" "leaf_value" (zaH zav) (zal zav) (zaa zav) .none kV7 dc7 pm7 an7 cd7 ct7), sl7⟩) (c7 : PySem.W.codeIn K cd7 "leaf_value" = true) (k7 : PySem.W.keepIn K (.ref f7) = true)
  (a8 : PySem.W.nsIn K mainGlobals "reckoned" = some (some (.ref f8))) (l8 : K.lookup f8 = some ⟨oc8, od8, .func (PySem.W.fnOf "reckoned" "reckoned" (zaH zax) (zal zax) (zaa zax) .none kV8 dc8 pm8 an8 cd8 ct8), sl8⟩) (c8 : PySem.W.codeIn K cd8 "reckoned" = true) (k8 : PySem.W.keepIn K (.ref f8) = true)
  (a9 : PySem.W.nsIn K mainGlobals "read_cond" = some (some (.ref f9))) (l9 : K.lookup f9 = some ⟨oc9, od9, .func (PySem.W.fnOf "read_cond" "read_cond" (zaH zaF) (zal zaF) (zaa zaF) .none kV9 dc9 pm9 an9 cd9 ct9), sl9⟩) (c9 : PySem.W.codeIn K cd9 "read_cond" = true) (k9 : PySem.W.keepIn K (.ref f9) = true)
  (a10 : PySem.W.nsIn K mainGlobals "_law_drawn" = some (some (.ref f10))) (l10 : K.lookup f10 = some ⟨oc10, od10, .func (PySem.W.fnOf "_law_drawn" "_law_drawn" (zaH zbg) (zal zbg) (zaa zbg) .none kV10 dc10 pm10 an10 cd10 ct10), sl10⟩) (c10 : PySem.W.codeIn K cd10 "_law_drawn" = true) (k10 : PySem.W.keepIn K (.ref f10) = true)
  (a11 : PySem.W.nsIn K mainGlobals "_law_leaf" = some (some (.ref f11))) (l11 : K.lookup f11 = some ⟨oc11, od11, .func (PySem.W.fnOf "_law_leaf" "_law_leaf" (zaH zbP) (zal zbP) (zaa zbP) .none kV11 dc11 pm11 an11 cd11 ct11), sl11⟩) (c11 : PySem.W.codeIn K cd11 "_law_leaf" = true) (k11 : PySem.W.keepIn K (.ref f11) = true)
  (a12 : PySem.W.nsIn K mainGlobals "_law_expr" = some (some (.ref f12))) (l12 : K.lookup f12 = some ⟨oc12, od12, .func (PySem.W.fnOf "_law_expr" "_law_expr" (zaH zbw) (zal zbw) (zaa zbw) .none kV12 dc12 pm12 an12 cd12 ct12), sl12⟩) (c12 : PySem.W.codeIn K cd12 "_law_expr" = true) (k12 : PySem.W.keepIn K (.ref f12) = true)
  (a13 : PySem.W.nsIn K mainGlobals "_law_cond" = some (some (.ref f13))) (l13 : K.lookup f13 = some ⟨oc13, od13, .func (PySem.W.fnOf "_law_cond" "_law_cond" (zaH zbo) (zal zbo) (zaa zbo) .none kV13 dc13 pm13 an13 cd13 ct13), sl13⟩) (c13 : PySem.W.codeIn K cd13 "_law_cond" = true) (k13 : PySem.W.keepIn K (.ref f13) = true)
  (a14 : PySem.W.nsIn K mainGlobals "_law_two" = some (some (.ref f14))) (l14 : K.lookup f14 = some ⟨oc14, od14, .func (PySem.W.fnOf "_law_two" "_law_two" (zaH zcC) (zal zcC) (zaa zcC) .none kV14 dc14 pm14 an14 cd14 ct14), sl14⟩) (c14 : PySem.W.codeIn K cd14 "_law_two" = true) (k14 : PySem.W.keepIn K (.ref f14) = true)
  (a15 : PySem.W.nsIn K mainGlobals "_law_worth" = some (some (.ref f15))) (l15 : K.lookup f15 = some ⟨oc15, od15, .func (PySem.W.fnOf "_law_worth" "_law_worth" (zaH za6) (zal za6) (zaa za6) .none kV15 dc15 pm15 an15 cd15 ct15), sl15⟩) (c15 : PySem.W.codeIn K cd15 "_law_worth" = true) (k15 : PySem.W.keepIn K (.ref f15) = true)
  (a16 : PySem.W.nsIn K mainGlobals "_law_refused" = some (some (.ref f16))) (l16 : K.lookup f16 = some ⟨oc16, od16, .func (PySem.W.fnOf "_law_refused" "_law_refused" (zaH zaT) (zal zaT) (zaa zaT) .none kV16 dc16 pm16 an16 cd16 ct16), sl16⟩) (c16 : PySem.W.codeIn K cd16 "_law_refused" = true) (k16 : PySem.W.keepIn K (.ref f16) = true)
  (a17 : PySem.W.nsIn K mainGlobals "_law_asked" = some (some (.ref f17))) (l17 : K.lookup f17 = some ⟨oc17, od17, .func (PySem.W.fnOf "_law_asked" "_law_asked" (zaH za0) (zal za0) (zaa za0) .none kV17 dc17 pm17 an17 cd17 ct17), sl17⟩) (c17 : PySem.W.codeIn K cd17 "_law_asked" = true) (k17 : PySem.W.keepIn K (.ref f17) = true)
  (a18 : PySem.W.nsIn K mainGlobals "law" = some (some (.ref f18))) (l18 : K.lookup f18 = some ⟨oc18, od18, .func (PySem.W.fnOf "law" "law" (zaH zcs) (zal zcs) (zaa zcs) .none kV18 dc18 pm18 an18 cd18 ct18), sl18⟩) (c18 : PySem.W.codeIn K cd18 "law" = true) (k18 : PySem.W.keepIn K (.ref f18) = true)
  (a19 : PySem.W.findIn K (.ref C_Cond) "__init__" = some (some (.ref f19))) (l19 : K.lookup f19 = some ⟨oc19, od19, .func (PySem.W.fnOf "__init__" "Cond.__init__" (zaH zaq) (zal zaq) (zaa zaq) .none kV19 dc19 pm19 an19 cd19 ct19), sl19⟩) (c19 : PySem.W.codeIn K cd19 "Cond.__init__" = true) (k19 : PySem.W.keepIn K (.ref f19) = true)
  (n19 : PySem.W.isFn K (.ref f19) = true)
  (w19 : PySem.W.makesIn K C_Cond = true) (y19 : PySem.W.keepIn K (.ref C_Cond) = true)
  (a20 : PySem.W.findIn K (.ref C_Cond) "holds" = some (some (.ref f20))) (l20 : K.lookup f20 = some ⟨oc20, od20, .func (PySem.W.fnOf "holds" "Cond.holds" (zaH zaz) (zal zaz) (zaa zaz) .none kV20 dc20 pm20 an20 cd20 ct20), sl20⟩) (c20 : PySem.W.codeIn K cd20 "Cond.holds" = true) (k20 : PySem.W.keepIn K (.ref f20) = true)
  (n20 : PySem.W.isFn K (.ref f20) = true)
  (a21 : PySem.W.findIn K (.ref C_Cond) "words" = some (some (.ref f21))) (l21 : K.lookup f21 = some ⟨oc21, od21, .func (PySem.W.fnOf "words" "Cond.words" (zaH zaL) (zal zaL) (zaa zaL) .none kV21 dc21 pm21 an21 cd21 ct21), sl21⟩) (c21 : PySem.W.codeIn K cd21 "Cond.words" = true) (k21 : PySem.W.keepIn K (.ref f21) = true)
  (n21 : PySem.W.isFn K (.ref f21) = true)
  (z_any : PySem.W.nsIn K mainGlobals "any" = some none)
  (z_len : PySem.W.nsIn K mainGlobals "len" = some none)
  (z_range : PySem.W.nsIn K mainGlobals "range" = some none)
  (z_reversed : PySem.W.nsIn K mainGlobals "reversed" = some none)
  (z_max : PySem.W.nsIn K mainGlobals "max" = some none)
  (z_min : PySem.W.nsIn K mainGlobals "min" = some none)
  (z_int : PySem.W.nsIn K mainGlobals "int" = some none)
  (z_str : PySem.W.nsIn K mainGlobals "str" = some none)
  (z_isinstance : PySem.W.nsIn K mainGlobals "isinstance" = some none)
  (z_bool : PySem.W.nsIn K mainGlobals "bool" = some none)
  (z_list : PySem.W.nsIn K mainGlobals "list" = some none)
  (z_tuple : PySem.W.nsIn K mainGlobals "tuple" = some none)
  (y_ALL_LETTERS : PySem.W.nsIn K mainGlobals "ALL_LETTERS" = some (some (.ref tALL_LETTERS))) (x_ALL_LETTERS : K.lookup tALL_LETTERS = some ⟨.type "tuple", dALL_LETTERS, .seq #[.str "t" kALL_LETTERS_0, .str "v" kALL_LETTERS_1, .str "w" kALL_LETTERS_2] nALL_LETTERS, sALL_LETTERS⟩)
  (y_NEEDS : PySem.W.nsIn K mainGlobals "NEEDS" = some (some (.ref tNEEDS)))
  (kd_NEEDS : K.lookup tNEEDS = some ⟨.type "dict", none, .dict #[⟨hNEEDS_0, .str "+" kNEEDS_0, .ref tNEEDS_0⟩, ⟨hNEEDS_1, .str "-" kNEEDS_1, .ref tNEEDS_1⟩, ⟨hNEEDS_2, .str "*" kNEEDS_2, .ref tNEEDS_2⟩, ⟨hNEEDS_3, .str "least" kNEEDS_3, .ref tNEEDS_3⟩, ⟨hNEEDS_4, .str "most" kNEEDS_4, .ref tNEEDS_4⟩, ⟨hNEEDS_5, .str "<" kNEEDS_5, .ref tNEEDS_5⟩, ⟨hNEEDS_6, .str "=" kNEEDS_6, .ref tNEEDS_6⟩, ⟨hNEEDS_7, .str "not" kNEEDS_7, .ref tNEEDS_7⟩, ⟨hNEEDS_8, .str "and" kNEEDS_8, .ref tNEEDS_8⟩, ⟨hNEEDS_9, .str "or" kNEEDS_9, .ref tNEEDS_9⟩] nNEEDS, #[]⟩) (ks_NEEDS : (tNEEDS == sysModules) = false)
  (kh_NEEDS_0 : hNEEDS_0 = hashStr w "+")
  (kt_NEEDS_0 : K.lookup tNEEDS_0 = some ⟨.type "tuple", dNEEDS_0, .seq #[.str "number" jNEEDS_0_0, .str "number" jNEEDS_0_1, .int 2 jNEEDS_0_2] mNEEDS_0, sNEEDS_0⟩)
  (kh_NEEDS_1 : hNEEDS_1 = hashStr w "-")
  (kt_NEEDS_1 : K.lookup tNEEDS_1 = some ⟨.type "tuple", dNEEDS_1, .seq #[.str "number" jNEEDS_1_0, .str "number" jNEEDS_1_1, .int 2 jNEEDS_1_2] mNEEDS_1, sNEEDS_1⟩)
  (kh_NEEDS_2 : hNEEDS_2 = hashStr w "*")
  (kt_NEEDS_2 : K.lookup tNEEDS_2 = some ⟨.type "tuple", dNEEDS_2, .seq #[.str "number" jNEEDS_2_0, .str "number" jNEEDS_2_1, .int 2 jNEEDS_2_2] mNEEDS_2, sNEEDS_2⟩)
  (kh_NEEDS_3 : hNEEDS_3 = hashStr w "least")
  (kt_NEEDS_3 : K.lookup tNEEDS_3 = some ⟨.type "tuple", dNEEDS_3, .seq #[.str "number" jNEEDS_3_0, .str "number" jNEEDS_3_1, .int 2 jNEEDS_3_2] mNEEDS_3, sNEEDS_3⟩)
  (kh_NEEDS_4 : hNEEDS_4 = hashStr w "most")
  (kt_NEEDS_4 : K.lookup tNEEDS_4 = some ⟨.type "tuple", dNEEDS_4, .seq #[.str "number" jNEEDS_4_0, .str "number" jNEEDS_4_1, .int 2 jNEEDS_4_2] mNEEDS_4, sNEEDS_4⟩)
  (kh_NEEDS_5 : hNEEDS_5 = hashStr w "<")
  (kt_NEEDS_5 : K.lookup tNEEDS_5 = some ⟨.type "tuple", dNEEDS_5, .seq #[.str "truth" jNEEDS_5_0, .str "number" jNEEDS_5_1, .int 2 jNEEDS_5_2] mNEEDS_5, sNEEDS_5⟩)
  (kh_NEEDS_6 : hNEEDS_6 = hashStr w "=")
  (kt_NEEDS_6 : K.lookup tNEEDS_6 = some ⟨.type "tuple", dNEEDS_6, .seq #[.str "truth" jNEEDS_6_0, .str "number" jNEEDS_6_1, .int 2 jNEEDS_6_2] mNEEDS_6, sNEEDS_6⟩)
  (kh_NEEDS_7 : hNEEDS_7 = hashStr w "not")
  (kt_NEEDS_7 : K.lookup tNEEDS_7 = some ⟨.type "tuple", dNEEDS_7, .seq #[.str "truth" jNEEDS_7_0, .str "truth" jNEEDS_7_1, .int 1 jNEEDS_7_2] mNEEDS_7, sNEEDS_7⟩)
  (kh_NEEDS_8 : hNEEDS_8 = hashStr w "and")
  (kt_NEEDS_8 : K.lookup tNEEDS_8 = some ⟨.type "tuple", dNEEDS_8, .seq #[.str "truth" jNEEDS_8_0, .str "truth" jNEEDS_8_1, .int 2 jNEEDS_8_2] mNEEDS_8, sNEEDS_8⟩)
  (kh_NEEDS_9 : hNEEDS_9 = hashStr w "or")
  (kt_NEEDS_9 : K.lookup tNEEDS_9 = some ⟨.type "tuple", dNEEDS_9, .seq #[.str "truth" jNEEDS_9_0, .str "truth" jNEEDS_9_1, .int 2 jNEEDS_9_2] mNEEDS_9, sNEEDS_9⟩)
  (y_FIGURES : PySem.W.nsIn K mainGlobals "FIGURES" = some (some (.str "0123456789" tFIGURES)))
  (y_MOST_FIGURES : PySem.W.nsIn K mainGlobals "MOST_FIGURES" = some (some (.int 20 tMOST_FIGURES)))
  (y_COND_LETTERS : PySem.W.nsIn K mainGlobals "COND_LETTERS" = some (some (.str "tv" tCOND_LETTERS)))
  : ∃ fd : FuncData, (∀ (s : Shared) (v : Value), BindsTo s fd ⟨[v], []⟩ [("_law_script", v)]) ∧ ∀ base : Heap, K.In base → base.Ns mainGlobals mg → FnOk l.prog w K mg base CX0 lawK fa fd ["_law_script"] (spL K lawG) := by
 have e := hfa.symm.trans (PySem.W.mg_of X G a18)
 cases e
 have T : Txt (w := w) K mg ⟨C_Cond, C_DamError, C_NoExpr, C_NoItem, C_NoName⟩ := ⟨by simp only [blts, List.mem_cons, List.not_mem_nil, or_false, forall_eq_or_imp, forall_eq]; exact ⟨PySem.W.mg_none_of X G z_any, PySem.W.mg_none_of X G z_len, PySem.W.mg_none_of X G z_range, PySem.W.mg_none_of X G z_reversed, PySem.W.mg_none_of X G z_max, PySem.W.mg_none_of X G z_min, PySem.W.mg_none_of X G z_int, PySem.W.mg_none_of X G z_str, PySem.W.mg_none_of X G z_isinstance, PySem.W.mg_none_of X G z_bool, PySem.W.mg_none_of X G z_list, PySem.W.mg_none_of X G z_tuple⟩, ⟨PySem.W.mg_of X G ac_Cond, pg_Cond, hd_Cond, po_Cond, sa_Cond⟩, na_Cond_parts, PySem.W.mg_of X G ac_DamError, xc_DamError, PySem.W.mg_of X G ac_NoExpr, xc_NoExpr, PySem.W.mg_of X G ac_NoItem, xc_NoItem, PySem.W.mg_of X G ac_NoName, xc_NoName, ⟨oa_Cond, ob_Cond, oc_Cond, od_Cond, oe_Cond⟩, xn_NoExpr, xk_NoExpr, xs_NoExpr, pk_NoExpr_NoItem, pk_NoExpr_NoName, qk_NoExpr_NoExpr, ⟨_, PySem.W.mg_of X G y_ALL_LETTERS, zcv (vs := [(.str "t"), (.str "v"), (.str "w")]) (its := #[.str "t" _, .str "v" _, .str "w" _]) (o := ⟨.type "tuple", _, .seq #[.str "t" _, .str "v" _, .str "w" _] _, _⟩) x_ALL_LETTERS rfl rfl (by show 3 ≤ sizeLine; decide) (.cons ⟨_, rfl⟩ (.cons ⟨_, rfl⟩ (.cons ⟨_, rfl⟩ (.nil)))) (fun _ _ => ⟨_, _, rfl, rfl, ⟨_, _, rfl, rfl, ⟨_, _, rfl, rfl, rfl⟩⟩⟩)⟩, ⟨_, PySem.W.mg_of X G y_NEEDS, _, _, _, _, kd_NEEDS, ⟨rfl, rfl, rfl⟩, rfl, .cons (v := .ref tNEEDS_0) kh_NEEDS_0 rfl (zcv (vs := [(.str "number"), (.str "number"), (.int 2)]) (its := #[.str "number" _, .str "number" _, .int 2 _]) (o := ⟨.type "tuple", _, .seq #[.str "number" _, .str "number" _, .int 2 _] _, _⟩) kt_NEEDS_0 rfl rfl (by show 3 ≤ sizeLine; decide) (.cons ⟨_, rfl⟩ (.cons ⟨_, rfl⟩ (.cons ⟨_, rfl⟩ (.nil)))) (fun _ _ => ⟨_, _, rfl, rfl, ⟨_, _, rfl, rfl, ⟨_, _, rfl, rfl, rfl⟩⟩⟩)) (.cons (v := .ref tNEEDS_1) kh_NEEDS_1 rfl (zcv (vs := [(.str "number"), (.str "number"), (.int 2)]) (its := #[.str "number" _, .str "number" _, .int 2 _]) (o := ⟨.type "tuple", _, .seq #[.str "number" _, .str "number" _, .int 2 _] _, _⟩) kt_NEEDS_1 rfl rfl (by show 3 ≤ sizeLine; decide) (.cons ⟨_, rfl⟩ (.cons ⟨_, rfl⟩ (.cons ⟨_, rfl⟩ (.nil)))) (fun _ _ => ⟨_, _, rfl, rfl, ⟨_, _, rfl, rfl, ⟨_, _, rfl, rfl, rfl⟩⟩⟩)) (.cons (v := .ref tNEEDS_2) kh_NEEDS_2 rfl (zcv (vs := [(.str "number"), (.str "number"), (.int 2)]) (its := #[.str "number" _, .str "number" _, .int 2 _]) (o := ⟨.type "tuple", _, .seq #[.str "number" _, .str "number" _, .int 2 _] _, _⟩) kt_NEEDS_2 rfl rfl (by show 3 ≤ sizeLine; decide) (.cons ⟨_, rfl⟩ (.cons ⟨_, rfl⟩ (.cons ⟨_, rfl⟩ (.nil)))) (fun _ _ => ⟨_, _, rfl, rfl, ⟨_, _, rfl, rfl, ⟨_, _, rfl, rfl, rfl⟩⟩⟩)) (.cons (v := .ref tNEEDS_3) kh_NEEDS_3 rfl (zcv (vs := [(.str "number"), (.str "number"), (.int 2)]) (its := #[.str "number" _, .str "number" _, .int 2 _]) (o := ⟨.type "tuple", _, .seq #[.str "number" _, .str "number" _, .int 2 _] _, _⟩) kt_NEEDS_3 rfl rfl (by show 3 ≤ sizeLine; decide) (.cons ⟨_, rfl⟩ (.cons ⟨_, rfl⟩ (.cons ⟨_, rfl⟩ (.nil)))) (fun _ _ => ⟨_, _, rfl, rfl, ⟨_, _, rfl, rfl, ⟨_, _, rfl, rfl, rfl⟩⟩⟩)) (.cons (v := .ref tNEEDS_4) kh_NEEDS_4 rfl (zcv (vs := [(.str "number"), (.str "number"), (.int 2)]) (its := #[.str "number" _, .str "number" _, .int 2 _]) (o := ⟨.type "tuple", _, .seq #[.str "number" _, .str "number" _, .int 2 _] _, _⟩) kt_NEEDS_4 rfl rfl (by show 3 ≤ sizeLine; decide) (.cons ⟨_, rfl⟩ (.cons ⟨_, rfl⟩ (.cons ⟨_, rfl⟩ (.nil)))) (fun _ _ => ⟨_, _, rfl, rfl, ⟨_, _, rfl, rfl, ⟨_, _, rfl, rfl, rfl⟩⟩⟩)) (.cons (v := .ref tNEEDS_5) kh_NEEDS_5 rfl (zcv (vs := [(.str "truth"), (.str "number"), (.int 2)]) (its := #[.str "truth" _, .str "number" _, .int 2 _]) (o := ⟨.type "tuple", _, .seq #[.str "truth" _, .str "number" _, .int 2 _] _, _⟩) kt_NEEDS_5 rfl rfl (by show 3 ≤ sizeLine; decide) (.cons ⟨_, rfl⟩ (.cons ⟨_, rfl⟩ (.cons ⟨_, rfl⟩ (.nil)))) (fun _ _ => ⟨_, _, rfl, rfl, ⟨_, _, rfl, rfl, ⟨_, _, rfl, rfl, rfl⟩⟩⟩)) (.cons (v := .ref tNEEDS_6) kh_NEEDS_6 rfl (zcv (vs := [(.str "truth"), (.str "number"), (.int 2)]) (its := #[.str "truth" _, .str "number" _, .int 2 _]) (o := ⟨.type "tuple", _, .seq #[.str "truth" _, .str "number" _, .int 2 _] _, _⟩) kt_NEEDS_6 rfl rfl (by show 3 ≤ sizeLine; decide) (.cons ⟨_, rfl⟩ (.cons ⟨_, rfl⟩ (.cons ⟨_, rfl⟩ (.nil)))) (fun _ _ => ⟨_, _, rfl, rfl, ⟨_, _, rfl, rfl, ⟨_, _, rfl, rfl, rfl⟩⟩⟩)) (.cons (v := .ref tNEEDS_7) kh_NEEDS_7 rfl (zcv (vs := [(.str "truth"), (.str "truth"), (.int 1)]) (its := #[.str "truth" _, .str "truth" _, .int 1 _]) (o := ⟨.type "tuple", _, .seq #[.str "truth" _, .str "truth" _, .int 1 _] _, _⟩) kt_NEEDS_7 rfl rfl (by show 3 ≤ sizeLine; decide) (.cons ⟨_, rfl⟩ (.cons ⟨_, rfl⟩ (.cons ⟨_, rfl⟩ (.nil)))) (fun _ _ => ⟨_, _, rfl, rfl, ⟨_, _, rfl, rfl, ⟨_, _, rfl, rfl, rfl⟩⟩⟩)) (.cons (v := .ref tNEEDS_8) kh_NEEDS_8 rfl (zcv (vs := [(.str "truth"), (.str "truth"), (.int 2)]) (its := #[.str "truth" _, .str "truth" _, .int 2 _]) (o := ⟨.type "tuple", _, .seq #[.str "truth" _, .str "truth" _, .int 2 _] _, _⟩) kt_NEEDS_8 rfl rfl (by show 3 ≤ sizeLine; decide) (.cons ⟨_, rfl⟩ (.cons ⟨_, rfl⟩ (.cons ⟨_, rfl⟩ (.nil)))) (fun _ _ => ⟨_, _, rfl, rfl, ⟨_, _, rfl, rfl, ⟨_, _, rfl, rfl, rfl⟩⟩⟩)) (.cons (v := .ref tNEEDS_9) kh_NEEDS_9 rfl (zcv (vs := [(.str "truth"), (.str "truth"), (.int 2)]) (its := #[.str "truth" _, .str "truth" _, .int 2 _]) (o := ⟨.type "tuple", _, .seq #[.str "truth" _, .str "truth" _, .int 2 _] _, _⟩) kt_NEEDS_9 rfl rfl (by show 3 ≤ sizeLine; decide) (.cons ⟨_, rfl⟩ (.cons ⟨_, rfl⟩ (.cons ⟨_, rfl⟩ (.nil)))) (fun _ _ => ⟨_, _, rfl, rfl, ⟨_, _, rfl, rfl, ⟨_, _, rfl, rfl, rfl⟩⟩⟩)) (.nil)))))))))), by decide +kernel, ks_NEEDS⟩, ⟨_, PySem.W.mg_of X G y_FIGURES⟩, ⟨_, PySem.W.mg_of X G y_MOST_FIGURES⟩, ⟨_, PySem.W.mg_of X G y_COND_LETTERS⟩⟩
 have D0 : DefAt K mg "is_figures" zaM ["text"] _ _ := ⟨PySem.W.mg_of X G a0, za7 l0 c0 k0, (zbG (st := zaM) l0 c0 k0).binds (ps := ["text"]) fun _ _ _ _ _ _ us hl => match us, hl with | [_], _ => rfl⟩
 have D1 : DefAt K mg "is_signed_figures" zak ["text"] _ _ := ⟨PySem.W.mg_of X G a1, za7 l1 c1 k1, (zbG (st := zak) l1 c1 k1).binds (ps := ["text"]) fun _ _ _ _ _ _ us hl => match us, hl with | [_], _ => rfl⟩
 have D2 : DefAt K mg "is_number" zaY ["text"] _ _ := ⟨PySem.W.mg_of X G a2, za7 l2 c2 k2, (zbG (st := zaY) l2 c2 k2).binds (ps := ["text"]) fun _ _ _ _ _ _ us hl => match us, hl with | [_], _ => rfl⟩
 have D3 : DefAt K mg "is_leaf" zbi ["word", "letters"] _ _ := ⟨PySem.W.mg_of X G a3, za7 l3 c3 k3, (zbG (st := zbi) l3 c3 k3).binds (ps := ["word", "letters"]) fun _ _ _ _ _ _ us hl => match us, hl with | [_, _], _ => rfl⟩
 have D4 : DefAt K mg "take_needed" zap ["word", "kinds"] _ _ := ⟨PySem.W.mg_of X G a4, za7 l4 c4 k4, (zbG (st := zap) l4 c4 k4).binds (ps := ["word", "kinds"]) fun _ _ _ _ _ _ us hl => match us, hl with | [_, _], _ => rfl⟩
 have D5 : DefAt K mg "check_words" zan ["words", "letters", "wanted"] _ _ := ⟨PySem.W.mg_of X G a5, za7 l5 c5 k5, (zbG (st := zan) l5 c5 k5).binds (ps := ["words", "letters", "wanted"]) fun _ _ _ _ _ _ us hl => match us, hl with | [_, _, _], _ => rfl⟩
 have D6 : DefAt K mg "combined" zaW ["word", "left", "right"] _ _ := ⟨PySem.W.mg_of X G a6, za7 l6 c6 k6, (zbG (st := zaW) l6 c6 k6).binds (ps := ["word", "left", "right"]) fun _ _ _ _ _ _ us hl => match us, hl with | [_, _, _], _ => rfl⟩
 have D7 : DefAt K mg "leaf_value" zav ["word", "time", "value", "other"] _ _ := ⟨PySem.W.mg_of X G a7, za7 l7 c7 k7, (zbG (st := zav) l7 c7 k7).binds (ps := ["word", "time", "value", "other"]) fun _ _ _ _ _ _ us hl => match us, hl with | [_, _, _, _], _ => rfl⟩
 have D8 : DefAt K mg "reckoned" zax ["words", "time", "value", "other"] _ _ := ⟨PySem.W.mg_of X G a8, za7 l8 c8 k8, (zbG (st := zax) l8 c8 k8).binds (ps := ["words", "time", "value", "other"]) fun _ _ _ _ _ _ us hl => match us, hl with | [_, _, _, _], _ => rfl⟩
 have D9 : DefAt K mg "read_cond" zaF ["words"] _ _ := ⟨PySem.W.mg_of X G a9, za7 l9 c9 k9, (zbG (st := zaF) l9 c9 k9).binds (ps := ["words"]) fun _ _ _ _ _ _ us hl => match us, hl with | [_], _ => rfl⟩
 have D10 : DefAt K mg "_law_drawn" zbg ["_law_number", "_law_many"] _ _ := ⟨PySem.W.mg_of X G a10, za7 l10 c10 k10, (zbG (st := zbg) l10 c10 k10).binds (ps := ["_law_number", "_law_many"]) fun _ _ _ _ _ _ us hl => match us, hl with | [_, _], _ => rfl⟩
 have D11 : DefAt K mg "_law_leaf" zbP ["_law_x", "_law_letters"] _ _ := ⟨PySem.W.mg_of X G a11, za7 l11 c11 k11, (zbG (st := zbP) l11 c11 k11).binds (ps := ["_law_x", "_law_letters"]) fun _ _ _ _ _ _ us hl => match us, hl with | [_, _], _ => rfl⟩
 have D12 : DefAt K mg "_law_expr" zbw ["_law_number", "_law_letters", "_law_most"] _ _ := ⟨PySem.W.mg_of X G a12, za7 l12 c12 k12, (zbG (st := zbw) l12 c12 k12).binds (ps := ["_law_number", "_law_letters", "_law_most"]) fun _ _ _ _ _ _ us hl => match us, hl with | [_, _, _], _ => rfl⟩
 have D13 : DefAt K mg "_law_cond" zbo ["_law_number", "_law_most"] _ _ := ⟨PySem.W.mg_of X G a13, za7 l13 c13 k13, (zbG (st := zbo) l13 c13 k13).binds (ps := ["_law_number", "_law_most"]) fun _ _ _ _ _ _ us hl => match us, hl with | [_, _], _ => rfl⟩
 have D14 : DefAt K mg "_law_two" zcC ["_law_word", "_law_one", "_law_two_here"] _ _ := ⟨PySem.W.mg_of X G a14, za7 l14 c14 k14, (zbG (st := zcC) l14 c14 k14).binds (ps := ["_law_word", "_law_one", "_law_two_here"]) fun _ _ _ _ _ _ us hl => match us, hl with | [_, _, _], _ => rfl⟩
 have D15 : DefAt K mg "_law_worth" za6 ["_law_words", "_law_time", "_law_value", "_law_other"] _ _ := ⟨PySem.W.mg_of X G a15, za7 l15 c15 k15, (zbG (st := za6) l15 c15 k15).binds (ps := ["_law_words", "_law_time", "_law_value", "_law_other"]) fun _ _ _ _ _ _ us hl => match us, hl with | [_, _, _, _], _ => rfl⟩
 have D16 : DefAt K mg "_law_refused" zaT ["_law_words"] _ _ := ⟨PySem.W.mg_of X G a16, za7 l16 c16 k16, (zbG (st := zaT) l16 c16 k16).binds (ps := ["_law_words"]) fun _ _ _ _ _ _ us hl => match us, hl with | [_], _ => rfl⟩
 have D17 : DefAt K mg "_law_asked" za0 ["_law_cond_here", "_law_words", "_law_cell", "_law_xs"] _ _ := ⟨PySem.W.mg_of X G a17, za7 l17 c17 k17, (zbG (st := za0) l17 c17 k17).binds (ps := ["_law_cond_here", "_law_words", "_law_cell", "_law_xs"]) fun _ _ _ _ _ _ us hl => match us, hl with | [_, _, _, _], _ => rfl⟩
 have D18 : DefAt K mg "law" zcs ["_law_script"] _ _ := ⟨PySem.W.mg_of X G a18, za7 l18 c18 k18, (zbG (st := zcs) l18 c18 k18).binds (ps := ["_law_script"]) fun _ _ _ _ _ _ us hl => match us, hl with | [_], _ => rfl⟩
 have D19 : IniAt K C_Cond "Cond.__init__" zaq ["self", "words"] _ _ := ⟨⟨w19, a19, n19, y19⟩, za7 l19 c19 k19, (zbG (st := zaq) l19 c19 k19).binds (ps := ["self", "words"]) fun _ _ _ _ _ _ us hl => match us, hl with | [_, _], _ => rfl⟩
 have D20 : MetAt K C_Cond "holds" "Cond.holds" zaz ["self", "time", "value"] _ _ := ⟨⟨a20, n20, k20⟩, za7 l20 c20 k20, (zbG (st := zaz) l20 c20 k20).binds (ps := ["self", "time", "value"]) fun _ _ _ _ _ _ us hl => match us, hl with | [_, _, _], _ => rfl⟩
 have D21 : MetAt K C_Cond "words" "Cond.words" zaL ["self"] _ _ := ⟨⟨a21, n21, k21⟩, za7 l21 c21 k21, (zbG (st := zaL) l21 c21 k21).binds (ps := ["self"]) fun _ _ _ _ _ _ us hl => match us, hl with | [_], _ => rfl⟩
 refine ⟨PySem.W.fnOf "law" "law" (zaH zcs) (zal zcs) (zaa zcs) .none kV18 dc18 pm18 an18 cd18 ct18, fun s v => .of_eq rfl, fun base _ _ => fnok_L ?_⟩
 exact znO T D0 D1 D2 D3 D4 D5 D6 D7 D8 D9 D10 D11 D12 D13 D14 D15 D16 D17 D18 D19 D20 D21
end My
open PySem PySem.W PyProof.Rows
set_option maxRecDepth 100000 in
set_option maxHeartbeats 0 in
theorem PySem.Challenge.cw_rowdam_k12_conditions_holds : PySem.Challenge.rw_rowdam_k12_conditions.Holds := by
 w_on; refine My.left2 "special-get-raises" My.hdAll My.hl0 My.hl1 ?_
 k_fill
 refine E3.zl4 (l := PySem.Challenge.rw_rowdam_k12_conditions) (k := My.lawK) (g := My.lawG) (x := "_law_script") rfl rfl ⟨rfl, by decide, by decide⟩ (fun w h Y => PySem.W.kIn_of Y) ?F My.zmG
 case F =>
  intro w mg fa h KX G hmg
  refine' My.all_mk KX G hmg ?ac_Cond ?ac_DamError ?ac_NoExpr ?ac_NoItem ?ac_NoName ?pg_Cond ?hd_Cond ?po_Cond ?sa_Cond ?na_Cond_parts ?xc_DamError ?xc_NoExpr ?xc_NoItem ?xc_NoName ?oa_Cond ?ob_Cond ?oc_Cond ?od_Cond ?oe_Cond ?xn_NoExpr ?xk_NoExpr ?xs_NoExpr ?pk_NoExpr_NoItem ?pk_NoExpr_NoName ?qk_NoExpr_NoExpr ?a0 ?l0 ?c0 ?k0 ?a1 ?l1 ?c1 ?k1 ?a2 ?l2 ?c2 ?k2 ?a3 ?l3 ?c3 ?k3 ?a4 ?l4 ?c4 ?k4 ?a5 ?l5 ?c5 ?k5 ?a6 ?l6 ?c6 ?k6 ?a7 ?l7 ?c7 ?k7 ?a8 ?l8 ?c8 ?k8 ?a9 ?l9 ?c9 ?k9 ?a10 ?l10 ?c10 ?k10 ?a11 ?l11 ?c11 ?k11 ?a12 ?l12 ?c12 ?k12 ?a13 ?l13 ?c13 ?k13 ?a14 ?l14 ?c14 ?k14 ?a15 ?l15 ?c15 ?k15 ?a16 ?l16 ?c16 ?k16 ?a17 ?l17 ?c17 ?k17 ?a18 ?l18 ?c18 ?k18 ?a19 ?l19 ?c19 ?k19 ?n19 ?w19 ?y19 ?a20 ?l20 ?c20 ?k20 ?n20 ?a21 ?l21 ?c21 ?k21 ?n21 ?z_any ?z_len ?z_range ?z_reversed ?z_max ?z_min ?z_int ?z_str ?z_isinstance ?z_bool ?z_list ?z_tuple ?y_ALL_LETTERS ?x_ALL_LETTERS ?y_NEEDS ?kd_NEEDS ?ks_NEEDS ?kh_NEEDS_0 ?kt_NEEDS_0 ?kh_NEEDS_1 ?kt_NEEDS_1 ?kh_NEEDS_2 ?kt_NEEDS_2 ?kh_NEEDS_3 ?kt_NEEDS_3 ?kh_NEEDS_4 ?kt_NEEDS_4 ?kh_NEEDS_5 ?kt_NEEDS_5 ?kh_NEEDS_6 ?kt_NEEDS_6 ?kh_NEEDS_7 ?kt_NEEDS_7 ?kh_NEEDS_8 ?kt_NEEDS_8 ?kh_NEEDS_9 ?kt_NEEDS_9 ?y_FIGURES ?y_MOST_FIGURES ?y_COND_LETTERS
  (case ac_Cond => k_is); (case ac_DamError => k_is); (case ac_NoExpr => k_is); (case ac_NoItem => k_is); (case ac_NoName => k_is); (case pg_Cond => k_is); (case hd_Cond => k_is); (case po_Cond => k_is); (case sa_Cond => k_is); (case na_Cond_parts => k_is); (case xc_DamError => kernel_rfl); (case xc_NoExpr => kernel_rfl); (case xc_NoItem => kernel_rfl); (case xc_NoName => kernel_rfl); (case oa_Cond => k_is); (case ob_Cond => k_is); (case oc_Cond => k_is); (case od_Cond => k_is); (case oe_Cond => kernel_rfl); (case xn_NoExpr => kernel_rfl); (case xk_NoExpr => k_is); (case xs_NoExpr => refine E3.xis_mk (E3.znq ?_ ?_ ?_) ?_ ?_ ?_ ?_ ?_ <;> k_is); (case pk_NoExpr_NoItem => kernel_rfl); (case pk_NoExpr_NoName => kernel_rfl); (case qk_NoExpr_NoExpr => kernel_rfl); (case a0 => k_is); (case l0 => k_is); (case c0 => k_is); (case k0 => k_is); (case a1 => k_is); (case l1 => k_is); (case c1 => k_is); (case k1 => k_is); (case a2 => k_is); (case l2 => k_is); (case c2 => k_is); (case k2 => k_is); (case a3 => k_is); (case l3 => k_is); (case c3 => k_is); (case k3 => k_is); (case a4 => k_is); (case l4 => k_is); (case c4 => k_is); (case k4 => k_is); (case a5 => k_is); (case l5 => k_is); (case c5 => k_is); (case k5 => k_is); (case a6 => k_is); (case l6 => k_is); (case c6 => k_is); (case k6 => k_is); (case a7 => k_is); (case l7 => k_is); (case c7 => k_is); (case k7 => k_is); (case a8 => k_is); (case l8 => k_is); (case c8 => k_is); (case k8 => k_is); (case a9 => k_is); (case l9 => k_is); (case c9 => k_is); (case k9 => k_is); (case a10 => k_is); (case l10 => k_is); (case c10 => k_is); (case k10 => k_is); (case a11 => k_is); (case l11 => k_is); (case c11 => k_is); (case k11 => k_is); (case a12 => k_is); (case l12 => k_is); (case c12 => k_is); (case k12 => k_is); (case a13 => k_is); (case l13 => k_is); (case c13 => k_is); (case k13 => k_is); (case a14 => k_is); (case l14 => k_is); (case c14 => k_is); (case k14 => k_is); (case a15 => k_is); (case l15 => k_is); (case c15 => k_is); (case k15 => k_is); (case a16 => k_is); (case l16 => k_is); (case c16 => k_is); (case k16 => k_is); (case a17 => k_is); (case l17 => k_is); (case c17 => k_is); (case k17 => k_is); (case a18 => k_is); (case l18 => k_is); (case c18 => k_is); (case k18 => k_is); (case a19 => k_is); (case l19 => k_is); (case c19 => k_is); (case k19 => k_is); (case n19 => kernel_rfl); (case w19 => kernel_rfl); (case y19 => k_is); (case a20 => k_is); (case l20 => k_is); (case c20 => k_is); (case k20 => k_is); (case n20 => kernel_rfl); (case a21 => k_is); (case l21 => k_is); (case c21 => k_is); (case k21 => k_is); (case n21 => kernel_rfl); (case z_any => k_is); (case z_len => k_is); (case z_range => k_is); (case z_reversed => k_is); (case z_max => k_is); (case z_min => k_is); (case z_int => k_is); (case z_str => k_is); (case z_isinstance => k_is); (case z_bool => k_is); (case z_list => k_is); (case z_tuple => k_is); (case y_ALL_LETTERS => k_is); (case x_ALL_LETTERS => k_is); (case y_NEEDS => k_is); (case kd_NEEDS => k_is); (case ks_NEEDS => first | decide +kernel | kernel_rfl); (case kh_NEEDS_0 => rfl); (case kt_NEEDS_0 => k_is); (case kh_NEEDS_1 => rfl); (case kt_NEEDS_1 => k_is); (case kh_NEEDS_2 => rfl); (case kt_NEEDS_2 => k_is); (case kh_NEEDS_3 => rfl); (case kt_NEEDS_3 => k_is); (case kh_NEEDS_4 => rfl); (case kt_NEEDS_4 => k_is); (case kh_NEEDS_5 => rfl); (case kt_NEEDS_5 => k_is); (case kh_NEEDS_6 => rfl); (case kt_NEEDS_6 => k_is); (case kh_NEEDS_7 => rfl); (case kt_NEEDS_7 => k_is); (case kh_NEEDS_8 => rfl); (case kt_NEEDS_8 => k_is); (case kh_NEEDS_9 => rfl); (case kt_NEEDS_9 => k_is); (case y_FIGURES => k_is); (case y_MOST_FIGURES => k_is); (case y_COND_LETTERS => k_is)
