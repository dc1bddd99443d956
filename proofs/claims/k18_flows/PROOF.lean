import PyProof.Rows.All
import Wide.All
import OpenK.AllK
import Wide.FinOn
import Lean
import PyProof.EqAt
import PyProof.EqKinds
import PyProof.TupleCall
import KE.KIsAll
import KE.KMinKey
import KE.KTupSum
import KE.KxSplit
import KE.KxAffix
import KE.KIntText
import PyProof.NeKinds
import PyProof.Rows.EqBoolInt
import KE.KSortTup
import PySem.Challenge.RW_rowdam_k18_flows
noncomputable section
set_option Elab.async false
set_option linter.all false
set_option maxRecDepth 100000
section
open PySem PySem.W PyProof.Rows
local macro_rules
  | `(tactic| refine $f:term $as:term*) => do
    let mut bs := #[]
    let mut hit := false
    for a in as do
      if a.raw.isOfKind ``Lean.Parser.Term.syntheticHole && a.raw[1].getId == `hl then
        hit := true
        bs := bs.push (← `((fun _ => by kernel_rfl)))
      else bs := bs.push a
    if hit then `(tactic| refine $f $bs*) else Lean.Macro.throwUnsupported
set_option maxHeartbeats 0 in
open_top My.hdTop for PySem.Challenge.rw_rowdam_k18_flows
end
namespace L2
open PySem PySem.Spec PyProof.Rows
abbrev Key := Sum Int Str
def keyIs : Key → Value → Bool
 | .inl k, v => Value.isInt k v
 | .inr x, v => Value.isStrOf x v
def keyH (w : World) : Key → Int
 | .inl k => hashInt k
 | .inr x => hashStr w x
theorem keyIs_shape : ∀ {k : Key} {v : Value}, keyIs k v = true → (∃ i t, k = Sum.inl i ∧ v = Value.int i t) ∨ (∃ x t, k = Sum.inr x ∧ v = Value.str x t)
  | .inl i, v, h => by
    obtain ⟨t, e⟩ := Value.isInt_shape (k := i) (v := v) h
    exact .inl ⟨i, t, rfl, e⟩
  | .inr x, v, h => by
    obtain ⟨t, e⟩ := Value.isStrOf_shape (x := x) (v := v) h
    exact .inr ⟨x, t, rfl, e⟩
theorem keyIs_int (i : Int) (t : Tok) : keyIs (.inl i) (.int i t) = true := by simp [keyIs, Value.isInt]
theorem keyIs_str (x : Str) (t : Tok) : keyIs (.inr x) (.str x t) = true := by simp [keyIs, Value.isStrOf]
theorem key_ll (a b : Int) : decide ((Sum.inl a : Key) = Sum.inl b) = (a == b) := by
 by_cases e : a = b
 ·subst e; simp
 ·have h : ¬ (Sum.inl a : Key) = Sum.inl b := fun q => e (Sum.inl.inj q)
  rw [decide_eq_false h]
  exact (beq_eq_false_iff_ne.mpr e).symm
theorem key_rr (a b : Str) : decide ((Sum.inr a : Key) = Sum.inr b) = decide (a = b) := by
 by_cases e : a = b
 ·subst e; simp
 ·have h : ¬ (Sum.inr a : Key) = Sum.inr b := fun q => e (Sum.inr.inj q)
  rw [decide_eq_false h, decide_eq_false e]
theorem key_lr (a : Int) (b : Str) : decide ((Sum.inl a : Key) = Sum.inr b) = false := decide_eq_false (fun q => nomatch q)
theorem key_rl (a : Str) (b : Int) : decide ((Sum.inr a : Key) = Sum.inl b) = false := decide_eq_false (fun q => nomatch q)
def mixKind (prog : Program) (w : World) : PySem.KeyKind prog w Key where
 is := keyIs
 hash := keyH w
 inj := fun v a b ha hb => by
  rcases keyIs_shape ha with ⟨i, t, rfl, rfl⟩ | ⟨x, t, rfl, rfl⟩
  ·rcases keyIs_shape hb with ⟨j, u, rfl, e⟩ | ⟨y, u, rfl, e⟩
   ·injection e with e1 _; rw [e1]
   ·exact nomatch e
  ·rcases keyIs_shape hb with ⟨j, u, rfl, e⟩ | ⟨y, u, rfl, e⟩
   ·exact nomatch e
   ·injection e with e1 _; rw [e1]
 byValue := fun k v h => by
  rcases keyIs_shape h with ⟨i, t, rfl, rfl⟩ | ⟨x, t, rfl, rfl⟩ <;> rfl
 pyHash := fun hv h => by
  rcases keyIs_shape hv with ⟨i, t, rfl, rfl⟩ | ⟨x, t, rfl, rfl⟩
  ·exact wpAny_pyHash_int h
  ·exact wpAny_pyHash_str h
 eqBool := fun hu hv h => by
  rcases keyIs_shape hu with ⟨i, t, rfl, rfl⟩ | ⟨x, t, rfl, rfl⟩
  ·rcases keyIs_shape hv with ⟨j, u, rfl, rfl⟩ | ⟨y, u, rfl, rfl⟩
   ·rw [key_ll] at h; exact wpAny_eqBool_int h
   ·rw [key_lr] at h; exact SeqAt.EqAt.int_str i t y u _ _ _ _ h
  ·rcases keyIs_shape hv with ⟨j, u, rfl, rfl⟩ | ⟨y, u, rfl, rfl⟩
   ·rw [key_rl] at h; exact SeqAt.EqAt.str_int x t j u _ _ _ _ h
   ·rw [key_rr] at h; exact wpAny_eqBool_str h
 «strs» := fun k x t v h => by
  rcases keyIs_shape h with ⟨i, u, rfl, e⟩ | ⟨y, u, rfl, e⟩
  ·exact nomatch e
  ·injection e with e1 _
   subst e1
   cases v <;> rfl
theorem mixKind_int (prog : Program) (w : World) (i : Int) (t : Tok) : (mixKind prog w).is (.inl i) (.int i t) = true := keyIs_int i t
theorem mixKind_str (prog : Program) (w : World) (x : Str) (t : Tok) : (mixKind prog w).is (.inr x) (.str x t) = true := keyIs_str x t
end L2
namespace L2
open PySem PySem.Spec PyProof.Rows
inductive V where
 | non | bl (b : Bool) | int (i : Int) | str (x : Str) | byt (b : Array UInt8) | flt (b : UInt64) | ref (a : Addr) | ty (n : String)
 deriving DecidableEq
def RelV : V → Value → Prop
 | .non, u => u = Value.none
 | .bl b, u => u = Value.bool b
 | .int i, u => ∃ t, u = Value.int i t
 | .str x, u => ∃ t, u = Value.str x t
 | .byt b, u => ∃ t, u = Value.bytes b t
 | .flt b, u => ∃ t, u = Value.float b t
 | .ref a, u => u = Value.ref a
 | .ty n, u => u = Value.type n
abbrev Vals : List V → List Value → Prop := Paired RelV
theorem Vals.length {xs : List V} {us : List Value} (r : Vals xs us) : xs.length = us.length := Paired.length r
theorem Vals.get : ∀ {xs : List V} {us : List Value} {i : Nat} {x : V}, Vals xs us → xs[i]? = some x → ∃ u, us[i]? = some u ∧ RelV x u
  | _, _, _, _, .nil, e => by simp at e
  | _, _, 0, _, .cons r _, e => by simp at e; subst e; exact ⟨_, rfl, r⟩
  | _, _, i + 1, x, .cons _ t, e => by
    obtain ⟨u, h1, h2⟩ := Vals.get (i := i) (x := x) t (by simpa using e)
    exact ⟨u, by simpa using h1, h2⟩
theorem Vals.set {x : V} {u : Value} (r : RelV x u) : ∀ {xs : List V} {us : List Value} (i : Nat), Vals xs us → Vals (xs.set i x) (us.set i u)
 | _, _, _, .nil => .nil
 | _, _, 0, .cons _ t => .cons r t
 | _, _, i + 1, .cons q t => .cons q (Vals.set r i t)
theorem Vals.append : ∀ {xs ys : List V} {us ws : List Value}, Vals xs us → Vals ys ws → Vals (xs ++ ys) (us ++ ws)
 | _, _, _, _, .nil, s => s
 | _, _, _, _, .cons r t, s => .cons r (Vals.append t s)
theorem Vals.take : ∀ {xs : List V} {us : List Value} (n : Nat), Vals xs us → Vals (xs.take n) (us.take n)
 | _, _, 0, _ => .nil
 | _, _, _ + 1, .nil => .nil
 | _, _, n + 1, .cons r t => .cons r (Vals.take n t)
theorem Vals.drop : ∀ {xs : List V} {us : List Value} (n : Nat), Vals xs us → Vals (xs.drop n) (us.drop n)
 | _, _, 0, r => r
 | _, _, _ + 1, .nil => .nil
 | _, _, n + 1, .cons _ t => Vals.drop n t
def RelO : Option V → Option Value → Prop
 | some v, some u => RelV v u
 | none, none => True
 | _, _ => False
def KV {κ : Type} : List (κ × V) → List (κ × Value) → Prop := Paired fun (p : κ × V) (q : κ × Value) => p.1 = q.1 ∧ RelV p.2 q.2
def kV : Key → V
 | .inl i => .int i
 | .inr x => .str x
inductive HO where
  | lst (xs : List V)
  | tup (xs : List V)
  | dK (kvs : List (Key × V)) | dT (kvs : List (List Key × V))
  | set (S : Int → Bool) (n : Nat)
  | ins (C dx : Addr) (fs : List (Str × V))
  | own (x : Addr)
  | xd (fs : List (Str × V))
  | met (f x : Addr)
  | rng (lo hi : Int)
  | frz (o : Obj) (u : HO)
  | tbl (ps : Array Value)
  | ext (φ : Heap → Prop)
abbrev Hp := Addr → Option HO
def upd (H : Hp) (a : Addr) (o : HO) : Hp := fun b => if b = a then some o else H b
theorem upd_same {H : Hp} {a : Addr} {o : HO} : upd H a o a = some o := by unfold upd; rw [if_pos rfl]
theorem upd_ne {H : Hp} {a b : Addr} {o : HO} (h : b ≠ a) : upd H a o b = H b := by unfold upd; rw [if_neg h]
theorem upd_upd {H : Hp} {a : Addr} {o u : HO} : upd (upd H a o) a u = upd H a u := by
 funext b; unfold upd; split <;> rfl
theorem ne_of {H : Hp} {a b : Addr} {o u : HO} (h : H a = some o) (h' : H b = some u) (d : o ≠ u) : a ≠ b := by
 intro e; subst e; rw [h] at h'; exact d (Option.some.inj h')
theorem ne_of_none {H : Hp} {a b : Addr} {o : HO} (h : H a = some o) (h' : H b = none) : a ≠ b := by
 intro e; subst e; rw [h] at h'; cases h'
section
variable (P : Program) (w : World)
def ObjOk (H : Hp) (h : Heap) (a : Addr) : HO → Prop
 | .lst xs => xs.length ≤ sizeLine ∧ ∃ (its : List Value) (n : Nat), Vals xs its ∧ h.get? a = some { cls := .type "list", data := .seq its.toArray n }
 | .tup xs => xs.length ≤ sizeLine ∧ ∃ its : List Value, Vals xs its ∧ IsTup h a its.toArray
 | .dK kvs => kvs.length ≤ sizeLine ∧ (a == sysModules) = false ∧ ∃ vs, KV kvs vs ∧ h.DictOf (mixKind P w) a vs
 | .dT kvs => kvs.length ≤ sizeLine ∧ (a == sysModules) = false ∧ ∃ xs : List (List Key × Addr × Value),
   Paired (fun (p : List Key × V) (q : List Key × Addr × Value) => p.1 = q.1 ∧ H q.2.1 = some (.tup (p.1.map kV)) ∧ RelV p.2 q.2.2) kvs xs ∧
   ∃ o es ep, h.get? a = some o ∧ o.ExactDict ∧ o.data = .dict es ep ∧ es.toList = xs.map (entryOfKey (tupleKind (mixKind P w))) ∧ (xs.map (·.1)).Nodup
 | .set S n => h.SetOf (intKind P w) a S n
 | .ins C dx fs => H dx = some (.own a) ∧ fs.length ≤ 1000 ∧ dx ≠ a ∧ h.get? a = some (PySem.W.instObj C dx) ∧
   ∃ mA, h.Ns1 dx mA ∧ (∀ f, RelO (fs.lookup f) (mA f)) ∧ PySem.Within mA (fs.map (·.1))
 | .own _ => ∃ o, h.get? a = some o
 | .xd fs => ∃ mA, h.Ns1 a mA ∧ ∀ f, RelO (fs.lookup f) (mA f)
 | .rng lo hi => ∃ t u v, h.get? a = some { cls := .type "range", data := .fields #[.int lo t, .int hi u, .int 1 v] }
 | .frz o u => h.get? a = some o ∧ ObjOk H h a u
 | .tbl ps => h.get? a = some { cls := .none, data := .fields ps }
 | .met f x => h.get? a = some (PySem.W.methodObj (.ref f) (.ref x))
 | .ext φ => φ h ∧ (∃ o, h.get? a = some o) ∧ ∀ h1 h2 : Heap, φ h1 → (∀ o, h1.get? a = some o → h2.get? a = some o) → φ h2
def HOk (H : Hp) (h : Heap) : Prop := ∀ a o, H a = some o → ObjOk P w H h a o
end
section
variable {P : Program} {w : World} {H H' : Hp} {h h' : Heap} {a : Addr} {o : HO}
theorem ObjOk.lt (x : ObjOk P w H h a o) : a < h.objs.size := by
 cases o with
 | lst xs => obtain ⟨_, _, _, _, e⟩ := x; exact Heap.lt_size e
 | tup xs => obtain ⟨_, _, _, p⟩ := x; exact p.lt
 | dK kvs => obtain ⟨_, _, _, _, o, _, _, e, _⟩ := x; exact Heap.lt_size e
 | dT kvs => obtain ⟨_, _, _, _, o, _, _, e, _⟩ := x; exact Heap.lt_size e
 | set S n => obtain ⟨o, _, _, _, e, _⟩ := x; exact Heap.lt_size e
 | ins C dx fs => obtain ⟨_, _, _, e, _⟩ := x; exact Heap.lt_size e
 | own y => obtain ⟨_, e⟩ := x; exact Heap.lt_size e
 | xd fs => obtain ⟨_, ⟨_, _, _, e, _⟩, _⟩ := x; exact Heap.lt_size e
 | rng lo hi => obtain ⟨_, _, _, e⟩ := x; exact Heap.lt_size e
 | frz ob u => obtain ⟨e, _⟩ := x; exact Heap.lt_size e
 | tbl ps => exact Heap.lt_size (show h.get? a = some _ from x)
 | met f y => exact Heap.lt_size (show h.get? a = some _ from x)
 | ext φ => obtain ⟨_, ⟨_, e⟩, _⟩ := x; exact Heap.lt_size e
theorem Paired.mapP {α β : Type} {F G : α → β → Prop} : ∀ {l₁ : List α} {l₂ : List β}, Paired F l₁ l₂ → (∀ a b, F a b → G a b) → Paired G l₁ l₂
 | _, _, .nil, _ => .nil
 | _, _, .cons r t, f => .cons (f _ _ r) (Paired.mapP t f)
theorem ObjOk.stay (x : ObjOk P w H h a o) (k : ∀ b u, (b = a ∨ H b = some (.own a)) → h.get? b = some u → h'.get? b = some u)
    (ho : ∀ b, H b = some (.own a) → H' b = some (.own a)) (ht : ∀ b xs, H b = some (.tup xs) → H' b = some (.tup xs)) : ObjOk P w H' h' a o := by
  induction o with
  | lst xs => obtain ⟨z, its, n, r, e⟩ := x; exact ⟨z, its, n, r, k _ _ (.inl rfl) e⟩
  | tup xs => obtain ⟨z, its, r, ob, e, c⟩ := x; exact ⟨z, its, r, ob, k _ _ (.inl rfl) e, c⟩
  | dK kvs => obtain ⟨z, y, vs, r, ob, es, ep, e, c⟩ := x; exact ⟨z, y, vs, r, ob, es, ep, k _ _ (.inl rfl) e, c⟩
  | dT kvs =>
    obtain ⟨z, y, xs, r, ob, es, ep, e, c⟩ := x
    exact ⟨z, y, xs, Paired.mapP r fun p q z => ⟨z.1, ht _ _ z.2.1, z.2.2⟩, ob, es, ep, k _ _ (.inl rfl) e, c⟩
  | set S n => obtain ⟨ob, es, ep, t, e, c⟩ := x; exact ⟨ob, es, ep, t, k _ _ (.inl rfl) e, c⟩
  | ins C dx fs =>
    obtain ⟨d, z, ne, e, mA, ⟨od, es, ep, e2, c⟩, r⟩ := x
    exact ⟨ho _ d, z, ne, k _ _ (.inl rfl) e, mA, ⟨od, es, ep, k _ _ (.inr d) e2, c⟩, r⟩
  | own y => obtain ⟨ob, e⟩ := x; exact ⟨ob, k _ _ (.inl rfl) e⟩
  | xd fs => obtain ⟨mA, ⟨od, es, ep, e, c⟩, r⟩ := x; exact ⟨mA, ⟨od, es, ep, k _ _ (.inl rfl) e, c⟩, r⟩
  | rng lo hi => obtain ⟨t, u, v, e⟩ := x; exact ⟨t, u, v, k _ _ (.inl rfl) e⟩
  | frz ob u ih => obtain ⟨e, q⟩ := x; exact ⟨k _ _ (.inl rfl) e, ih q⟩
  | tbl ps =>
    have e : h.get? a = some { cls := .none, data := .fields ps } := x
    show h'.get? a = some { cls := .none, data := .fields ps }
    exact k a _ (.inl rfl) e
  | met f y =>
    have e : h.get? a = some (PySem.W.methodObj (.ref f) (.ref y)) := x
    show h'.get? a = some (PySem.W.methodObj (.ref f) (.ref y))
    exact k a _ (.inl rfl) e
  | ext φ => obtain ⟨p, ⟨o, e⟩, st⟩ := x; exact ⟨st _ _ p fun o q => k _ _ (.inl rfl) q, ⟨o, k _ _ (.inl rfl) e⟩, st⟩
theorem HOk.lt (x : HOk P w H h) (e : H a = some o) : a < h.objs.size := (x a o e).lt
theorem HOk.fresh (x : HOk P w H h) (e : h.objs.size ≤ a) : H a = none := by
 cases q : H a with
 | none => rfl
 | some u => exact absurd (Nat.lt_of_lt_of_le (x.lt q) e) (Nat.lt_irrefl _)
theorem HOk.kept (x : HOk P w H h) (k : ∀ b u, h.get? b = some u → h'.get? b = some u) : HOk P w H h' := fun a o e =>
 (x a o e).stay (fun b u _ q => k b u q) (fun _ q => q) fun _ _ q => q
theorem HOk.laid (x : HOk P w H h) (k : ∀ b u, h.get? b = some u → h'.get? b = some u) (hp : h.objs.size ≤ a) (new : ObjOk P w (upd H a o) h' a o) : HOk P w (upd H a o) h' := fun b u e => by
 have hn := x.fresh hp
 by_cases hb : b = a
 ·subst hb; rw [upd_same] at e; cases e; exact new
 ·rw [upd_ne hb] at e
  exact (x b u e).stay (fun c v _ q => k c v q) (fun c q => by rw [upd_ne (ne_of_none q hn)]; exact q) fun c xs q => by rw [upd_ne (ne_of_none q hn)]; exact q
end
def Rd (H : Hp) (a : Addr) (u : HO) : Prop := H a = some u ∨ ∃ o, H a = some (.frz o u)
theorem Rd.ok {P : Program} {w : World} {H : Hp} {h : Heap} {a : Addr} {u : HO} (r : Rd H a u) (x : HOk P w H h) : ObjOk P w H h a u := by
 rcases r with r | ⟨o, r⟩
 ·exact x a u r
 ·obtain ⟨_, q⟩ := x a _ r
  exact q
def Mut : Option HO → Prop
 | some (.lst _) => True
 | some (.dK _) => True
 | some (.dT _) => True
 | some (.set _ _) => True
 | some (.ins _ _ _) => True
 | some (.ext _) => True
 | _ => False
section
variable {P : Program} {w : World} {H : Hp} {h h' : Heap} {x e : Addr} {o' : HO}
theorem HOk.write (ok : HOk P w H h) (mu : Mut (H x)) (he : e = x ∨ H e = some (.own x)) (k : ∀ b u, b ≠ e → h.get? b = some u → h'.get? b = some u) (heo : ∃ u, h'.get? e = some u)
  (new : ObjOk P w (upd H x o') h' x o') : HOk P w (upd H x o') h' := fun b u q => by
 have nown : ∀ c y, H c = some (.own y) → c ≠ x := fun c y r z => by subst z; rw [r] at mu; exact mu
 have ntup : ∀ c xs, H c = some (.tup xs) → c ≠ x := fun c xs r z => by subst z; rw [r] at mu; exact mu
 by_cases hb : b = x
 ·subst hb; rw [upd_same] at q; cases q; exact new
 ·rw [upd_ne hb] at q
  by_cases hbe : b = e
  ·have q' : H b = some (.own x) := by
    rcases he with z | z
    ·exact absurd (hbe.trans z) hb
    ·rw [hbe]; exact z
   rw [q] at q'; cases q'
   obtain ⟨v, hv⟩ := heo
   exact ⟨v, by rw [hbe]; exact hv⟩
  ·refine (ok b u q).stay (fun c v hc r => k c v ?_ r) (fun c r => by rw [upd_ne (nown c b r)]; exact r) fun c xs r => by rw [upd_ne (ntup c xs r)]; exact r
   rcases hc with rfl | hc
   ·exact hbe
   ·rintro rfl
    rcases he with z | z
    ·exact nown c b hc z
    ·rw [hc] at z; cases z; exact hb rfl
end
structure Un (fs ex : List Addr) (H H' : Hp) (h h' : Heap) : Prop where
 keep : ∀ b o, h.get? b = some o → H b = none → b ∉ fs → b ∉ ex → h'.get? b = some o
 slot : ∀ b o, h.get? b = some o → H b = none → b ∈ fs → b ∉ ex → ∃ sl, h'.get? b = some { o with slots := sl }
 free : ∀ b o, h.get? b = some o → H b = none → b ∉ ex → H' b = none
 there : ∀ b o, h.get? b = some o → b ∉ ex → ∃ o', h'.get? b = some o'
 tups : ∀ b xs, H b = some (.tup xs) → H' b = some (.tup xs)
 frzs : ∀ b o u, H b = some (.frz o u) → H' b = some (.frz o u)
 tbls : ∀ b ps, H b = some (.tbl ps) → ∃ more, H' b = some (.tbl (ps ++ more))
section
variable {fs fs' ex ex' : List Addr} {H H1 H2 : Hp} {h h1 h2 h' : Heap} {a x e : Addr} {o : HO}
theorem Un.any (u : Un fs ex H H1 h h1) {b : Addr} {ob : Obj} (q : h.get? b = some ob) (n : H b = none) (hx : b ∉ ex) : ∃ sl, h1.get? b = some { ob with slots := sl } := by
 by_cases hb : b ∈ fs
 ·exact u.slot b ob q n hb hx
 ·exact ⟨ob.slots, u.keep b ob q n hb hx⟩
theorem Un.trans (a : Un fs ex H H1 h h1) (b : Un fs ex H1 H2 h1 h2) : Un fs ex H H2 h h2 where
 keep := fun c ob q n hc hx => b.keep c ob (a.keep c ob q n hc hx) (a.free c ob q n hx) hc hx
 slot := fun c ob q n hc hx => by
  obtain ⟨sl, e1⟩ := a.slot c ob q n hc hx
  obtain ⟨sl', e2⟩ := b.slot c _ e1 (a.free c ob q n hx) hc hx
  exact ⟨sl', e2⟩
 free := fun c ob q n hx => by
  obtain ⟨o', e1⟩ := a.there c ob q hx
  exact b.free c o' e1 (a.free c ob q n hx) hx
 there := fun c ob q hx => by
  obtain ⟨o', e1⟩ := a.there c ob q hx
  exact b.there c o' e1 hx
 tups := fun c xs q => b.tups c xs (a.tups c xs q)
 frzs := fun c ob xs q => b.frzs c ob xs (a.frzs c ob xs q)
 tbls := fun c ps q => by
  obtain ⟨m1, e1⟩ := a.tbls c ps q
  obtain ⟨m2, e2⟩ := b.tbls c _ e1
  exact ⟨m1 ++ m2, by rw [e2, Array.append_assoc]⟩
theorem Un.kept (k : ∀ b u, h.get? b = some u → h'.get? b = some u) : Un fs ex H H h h' :=
 ⟨fun b ob q _ _ _ => k b ob q, fun b ob q _ _ _ => ⟨ob.slots, k b ob q⟩, fun _ _ _ n _ => n, fun b ob q _ => ⟨ob, k b ob q⟩, fun _ _ q => q, fun _ _ _ q => q, fun _ ps q => ⟨#[], by rw [q]; simp⟩⟩
theorem Un.refl : Un fs ex H H h h := Un.kept fun _ _ q => q
theorem Un.laid (k : ∀ b u, h.get? b = some u → h'.get? b = some u) (hp : h.objs.size ≤ a) (hn : H a = none) : Un fs ex H (upd H a o) h h' where
 keep := fun b u q _ _ _ => k b u q
 slot := fun b u q _ _ _ => ⟨u.slots, k b u q⟩
 free := fun b u q n _ => by rw [upd_ne (Nat.ne_of_lt (Nat.lt_of_lt_of_le (Heap.lt_size q) hp))]; exact n
 there := fun b u q _ => ⟨u, k b u q⟩
 tups := fun b xs q => by rw [upd_ne (ne_of_none q hn)]; exact q
 frzs := fun b u xs q => by rw [upd_ne (ne_of_none q hn)]; exact q
 tbls := fun b ps q => ⟨#[], by rw [upd_ne (ne_of_none q hn), q]; simp⟩
theorem Un.write (mu : Mut (H x)) (he : e = x ∨ H e = some (.own x)) (k : ∀ b u, b ≠ e → h.get? b = some u → h'.get? b = some u) (heo : ∃ u, h'.get? e = some u) : Un fs ex H (upd H x o) h h' := by
 have hx : ∀ b, H b = none → b ≠ x := fun b n z => by subst z; rw [n] at mu; exact mu
 have hb : ∀ b, H b = none → b ≠ e := fun b n z => by
  subst z
  rcases he with r | r
  ·exact hx b n r
  ·rw [n] at r; cases r
 have hm : ∀ b u, H b = some u → ¬ Mut (some u) → b ≠ x := fun b u q nm z => by subst z; rw [q] at mu; exact nm mu
 refine ⟨fun b u q n _ _ => k b u (hb b n) q, fun b u q n _ _ => ⟨u.slots, k b u (hb b n) q⟩, fun b u q n _ => by rw [upd_ne (hx b n)]; exact n, fun b u q _ => ?_,
  fun b xs q => by rw [upd_ne (hm b _ q fun z => z)]; exact q, fun b u xs q => by rw [upd_ne (hm b _ q fun z => z)]; exact q, fun b ps q => ⟨#[], by rw [upd_ne (hm b _ q fun z => z), q]; simp⟩⟩
 by_cases hbe : b = e
 ·subst hbe; exact heo
 ·exact ⟨u, k b u hbe q⟩
theorem Un.mono (u : Un fs ex H H1 h h1) (hs : ∀ b ∈ fs, b ∈ fs') (hx : ∀ b ∈ ex, b ∈ ex') : Un fs' ex' H H1 h h1 :=
 ⟨fun b ob q n hb he => u.keep b ob q n (fun z => hb (hs b z)) fun z => he (hx b z), fun _ _ q n _ he => u.any q n fun z => he (hx _ z), fun b ob q n he => u.free b ob q n fun z => he (hx b z), fun b ob q he => u.there b ob q fun z => he (hx b z), u.tups, u.frzs, u.tbls⟩
end
def trk (h : Heap) (H : Hp) : List Addr := (List.range h.objs.size).filter fun a => (H a).isSome
def hidT (h : Heap) (H : Hp) : Heap := PySem.W.hideAll h (trk h H)
theorem hidT_size (h : Heap) (H : Hp) : (hidT h H).objs.size = h.objs.size := PySem.W.hideAll_size _ _
theorem hidT_get {h : Heap} {H : Hp} {b : Addr} {o : Obj} (e : h.get? b = some o) (n : H b = none) : (hidT h H).get? b = some o :=
 PySem.W.hideAll_get _ e fun hm => by
  have q : (H b).isSome = true := (List.mem_filter.mp hm).2
  rw [n] at q; simp at q
theorem of_hidT {h : Heap} {H : Hp} {b : Addr} {o : Obj} (e : (hidT h H).get? b = some o) : h.get? b = some o ∧ H b = none := by
  have e' : h.get? b = some o := PySem.W.of_hideAll (trk h H) e
  refine ⟨e', ?_⟩
  cases q : H b with
  | none => rfl
  | some x =>
    have hm : b ∈ trk h H := List.mem_filter.mpr ⟨List.mem_range.mpr (Heap.lt_size e'), by simp [q]⟩
    have z : (hidT h H).get? b = none := PySem.W.hideAll_none (trk h H) hm
    rw [z] at e; cases e
end L2
namespace L2
open PySem PySem.Spec PyProof.Rows
structure Mod (K : PySem.W.Frag) (mg : Str → Option Value) (base : Heap) : Prop where
 kin : K.In base
 glob : base.Ns mainGlobals mg
 blt : ∃ mb, base.Ns builtinsNs mb ∧ ∀ x : Str, x ≠ "__name__" → mb x = bootBuiltins x
 nolimit : base.NoLimit
structure Cx where
 prog : Program
 w : World
 K : PySem.W.Frag
 mg : Str → Option Value
 base : Heap
 A : Around
 N : List Str
 s₀ : Shared
 H₀ : Hp
 env : Env
 outer : List Env
 stack : List Env
 ex : List Addr
 fn : Str → Bool
 calm : Bool
 pn : List (Addr × Obj)
 xe : Value → Shared → Prop
def frs (l : List Env) : List Addr := l.filterMap (·.frame)
abbrev Cx.fs (X : Cx) : List Addr := frs X.outer
def Vis (sc : Scope) (x : Str) : Prop := sc.names.lookup x = some .local ∨ sc.names.lookup x = some .cell ∨ sc.names.lookup x = some .free
def Loc (sc : Scope) (x : Str) : Prop := sc.names.lookup x = some .local ∨ sc.names.lookup x = some .cell
def Look (env : Env) (h : Heap) (m : Str → Option Value) (x : Str) (u : Value) : Prop :=
 (env.kindOf x = some .local ∧ m x = some u) ∨ ((env.kindOf x = some .cell ∨ env.kindOf x = some .free) ∧ ∃ c, env.cells.lookup x = some c ∧ h.IsCell c (some u))
structure Cx.Ok (X : Cx) : Prop where
 mod : Mod X.K X.mg X.base
 kind : X.env.scope.kind = .function
 glob : X.env.globals = mainGlobals
 blt : X.env.builtins = builtinsNs
 above : X.s₀.heap.objs.size ≤ X.env.locals
 inj : ∀ x y c, X.env.cells.lookup x = some c → X.env.cells.lookup y = some c → x = y
 has : ∀ x, (X.env.kindOf x = some .cell ∨ X.env.kindOf x = some .free) → ∃ c, X.env.cells.lookup x = some c
 cab : ∀ x c, X.fn x = true → X.env.cells.lookup x = some c → X.s₀.heap.objs.size ≤ c
 hd : X.calm = true → X.A.handled = none
 frames : X.A.frames = some X.stack
 stk : X.stack = X.outer ∨ (X.stack = X.env :: X.outer ∧ X.env.frame = some X.env.locals)
 exf : ∀ b ∈ X.ex, b ≠ X.env.locals ∧ ∀ x c, X.env.cells.lookup x = some c → c ≠ b
 bs : ∀ b o, X.base.get? b = some o → X.s₀.heap.get? b = some o ∧ X.H₀ b = none
 bsz : X.base.objs.size ≤ X.s₀.heap.objs.size
 noex : ∀ b o, X.base.get? b = some o → b ∉ X.ex
 exfs : ∀ b ∈ X.ex, b ∉ X.fs
 funs : X.s₀.heap.FunFrames X.base X.outer
 frf : ∀ b ∈ X.fs, X.H₀ b = none
structure Inv (X : Cx) (pins : List (Addr × Obj)) (σ : List (Option V)) (H : Hp) (s : Shared) : Prop where
 ok : X.Ok
 os : s.os = X.s₀.os
 bare : AllBare s.gens
 base : Un X.fs X.ex X.H₀ H X.s₀.heap s.heap
 loc : ∃ m, s.heap.Ns X.env.locals m ∧ ∀ (i : Nat) (x : Str) (v : V), X.N[i]? = some x → σ[i]? = some (some v) → Vis X.env.scope x → ∃ u, RelV v u ∧ Look X.env s.heap m x u
 cell : ∀ x c, X.env.cells.lookup x = some c → ∃ v, s.heap.IsCell c v
 free : H X.env.locals = none
 freeC : ∀ x c, X.env.cells.lookup x = some c → H c = none
 pin : ∀ p ∈ X.pn ++ pins, s.heap.get? p.1 = some p.2 ∧ H p.1 = none ∧ p.1 ≠ X.env.locals ∧ p.1 ∉ X.fs ∧ ∀ v, p.2.data ≠ .cell v
 hok : HOk X.prog X.w H s.heap
 len : σ.length = X.N.length
section
variable {X : Cx} {pins : List (Addr × Obj)} {σ : List (Option V)} {H H' : Hp} {s : Shared} {h' : Heap}
theorem Cx.Ok.nofr (ok : X.Ok) {b : Addr} {o : Obj} (e : X.base.get? b = some o) : b ∉ X.fs := fun hb => by
 have := (ok.funs.mem hb).1
 rw [e] at this; cases this
theorem Inv.bs (I : Inv X pins σ H s) : ∀ b o, X.base.get? b = some o → s.heap.get? b = some o ∧ H b = none := fun b o e =>
 ⟨I.base.keep b o (I.ok.bs b o e).1 (I.ok.bs b o e).2 (I.ok.nofr e) (I.ok.noex b o e), I.base.free b o (I.ok.bs b o e).1 (I.ok.bs b o e).2 (I.ok.noex b o e)⟩
theorem Inv.bk (I : Inv X pins σ H s) : ∀ b o, X.base.get? b = some o → s.heap.get? b = some o := fun b o e => (I.bs b o e).1
theorem Inv.mod (I : Inv X pins σ H s) : Mod X.K X.mg X.base := I.ok.mod
theorem Inv.kIn (I : Inv X pins σ H s) : X.K.In s.heap := I.ok.mod.kin.keeps I.bk
theorem Inv.fr (I : Inv X pins σ H s) : ∃ m, Fr X.base X.env.locals s.heap m :=
 let ⟨m, hn, _⟩ := I.loc
 ⟨m, hn, I.bk, Nat.le_trans I.ok.bsz I.ok.above⟩
theorem Inv.lt (I : Inv X pins σ H s) : X.env.locals < s.heap.objs.size := let ⟨_, hn, _⟩ := I.loc; hn.lt
theorem Inv.sz (I : Inv X pins σ H s) : X.s₀.heap.objs.size ≤ s.heap.objs.size := Nat.le_trans I.ok.above (Nat.le_of_lt I.lt)
theorem Inv.nofs (I : Inv X pins σ H s) {a : Addr} (h : s.heap.objs.size ≤ a) : a ∉ X.fs := fun hb => by
 obtain ⟨_, o, ho, _⟩ := I.ok.funs.mem hb
 exact absurd (Nat.lt_of_lt_of_le (Heap.lt_size ho) (Nat.le_trans I.sz h)) (Nat.lt_irrefl _)
theorem Inv.cne (I : Inv X pins σ H s) : ∀ x c, X.env.cells.lookup x = some c → c ≠ X.env.locals := fun x c e z => by
 obtain ⟨v, o, ho, hd⟩ := I.cell x c e
 obtain ⟨m, ⟨o', es, ep, ho', hd', _⟩, _⟩ := I.loc
 rw [z, ho'] at ho; cases ho; rw [hd'] at hd; cases hd
theorem Inv.funs (I : Inv X pins σ H s) : s.heap.FunFrames X.base X.outer := by
  have all : ∀ (l : List Env), (∀ b ∈ frs l, b ∈ X.fs) → X.s₀.heap.FunFrames X.base l → s.heap.FunFrames X.base l := by
    intro l
    induction l with
    | nil => intro _ _; trivial
    | cons env r ih =>
      intro hs hl
      obtain ⟨hk, ⟨L, o, hf, hn, ho, hd⟩, hr⟩ := hl
      have hL : L ∈ X.fs := hs L (by unfold frs; rw [List.filterMap_cons, hf]; exact List.mem_cons_self)
      obtain ⟨sl, e⟩ := I.base.slot L o ho (I.ok.frf L hL) hL fun z => I.ok.exfs L z hL
      exact ⟨hk, ⟨L, _, hf, hn, e, hd⟩, ih (fun b hb => hs b (by unfold frs; rw [List.filterMap_cons, hf]; exact List.mem_cons_of_mem _ hb)) hr⟩
  exact all X.outer (fun _ hb => hb) I.ok.funs
theorem Inv.stack (I : Inv X pins σ H s) : s.heap.FunFrames X.base X.stack := by
 rcases I.ok.stk with e | ⟨e, hf⟩
 ·rw [e]; exact I.funs
 ·rw [e]
  obtain ⟨m, hn, _⟩ := I.loc
  refine .cons (by rw [I.ok.kind]; decide) hf hn ?_ I.funs
  exact Heap.get?_none_of_le (Nat.le_trans I.ok.bsz I.ok.above)
theorem Inv.stkSub (I : Inv X pins σ H s) : ∀ b ∈ frs X.stack, b ∈ X.env.locals :: X.fs := fun b hb => by
 rcases I.ok.stk with e | ⟨e, hf⟩
 ·rw [e] at hb; exact List.mem_cons_of_mem _ hb
 ·rw [e] at hb
  unfold frs at hb
  rw [List.filterMap_cons, hf] at hb
  exact hb
theorem Inv.stkFree (I : Inv X pins σ H s) : ∀ b ∈ frs X.stack, H b = none := fun b hb => by
 rcases List.mem_cons.mp (I.stkSub b hb) with e | hb
 ·rw [e]; exact I.free
 ·obtain ⟨_, o, ho, _⟩ := I.ok.funs.mem hb
  exact I.base.free b o ho (I.ok.frf b hb) fun z => I.ok.exfs b z hb
theorem Inv.step {g' : Array GenState} {t' : Nat} {d' : Drawn} {ch : List Addr} (I : Inv X pins σ H s)
  (hch : ∀ b ∈ ch, (b ∈ X.ex ∨ X.s₀.heap.objs.size ≤ b) ∧ b ≠ X.env.locals ∧ (∀ x c, X.env.cells.lookup x = some c → c ≠ b) ∧ ∀ p ∈ X.pn ++ pins, p.1 ≠ b)
  (keep : ∀ b o, b ≠ X.env.locals → b ∉ X.fs → b ∉ ch → s.heap.get? b = some o → H b = none → h'.get? b = some o)
  (slot : ∀ b o, b ≠ X.env.locals → b ∈ X.fs → b ∉ ch → s.heap.get? b = some o → H b = none → ∃ sl, h'.get? b = some { o with slots := sl }) (free : ∀ b o, b ∉ ch → s.heap.get? b = some o → H b = none → H' b = none)
  (there : ∀ b o, b ∉ ch → s.heap.get? b = some o → ∃ o', h'.get? b = some o')
  (tups : ∀ b xs, H b = some (.tup xs) → H' b = some (.tup xs)) (frzs : ∀ b o u, H b = some (.frz o u) → H' b = some (.frz o u)) (tbls : ∀ b ps, H b = some (.tbl ps) → ∃ more, H' b = some (.tbl (ps ++ more)))
  (ns : ∀ m, s.heap.Ns X.env.locals m → h'.Ns X.env.locals m) (hok : HOk X.prog X.w H' h') (hg : AllBare g') :
  Inv X pins σ H' { s with heap := h', gens := g', drawn := d', toks := t' } := by
 have neL : ∀ b o, X.s₀.heap.get? b = some o → b ≠ X.env.locals := fun b o e => Nat.ne_of_lt (Nat.lt_of_lt_of_le (Heap.lt_size e) I.ok.above)
 have neC : ∀ b o, X.s₀.heap.get? b = some o → b ∉ X.ex → b ∉ ch := fun b o e hx hb => by
  rcases (hch b hb).1 with z | z
  ·exact hx z
  ·exact absurd (Nat.lt_of_lt_of_le (Heap.lt_size e) z) (Nat.lt_irrefl _)
 have cellK : ∀ x c, X.env.cells.lookup x = some c → ∀ v, s.heap.IsCell c v → h'.IsCell c v := fun x c e v ⟨o, ho, hd⟩ => by
  have nch : c ∉ ch := fun z => (hch c z).2.2.1 x c e rfl
  by_cases hc : c ∈ X.fs
  ·obtain ⟨sl, q⟩ := slot c o (I.cne x c e) hc nch ho (I.freeC x c e)
   exact ⟨_, q, hd⟩
  ·exact ⟨o, keep c o (I.cne x c e) hc nch ho (I.freeC x c e), hd⟩
 refine ⟨I.ok, I.os, hg, ⟨fun b o e n hb hx => ?_, fun b o e n hb hx => ?_, fun b o e n hx => ?_, fun b o e hx => ?_, fun b xs e => tups b xs (I.base.tups b xs e), fun b o xs e => frzs b o xs (I.base.frzs b o xs e), fun b ps e => ?_⟩, ?_, fun x c e => ?_, ?_, fun x c e => ?_, fun p hp => ?_, hok, I.len⟩
 ·exact keep b o (neL b o e) hb (neC b o e hx) (I.base.keep b o e n hb hx) (I.base.free b o e n hx)
 ·obtain ⟨sl, e1⟩ := I.base.slot b o e n hb hx
  obtain ⟨sl', e2⟩ := slot b _ (neL b o e) hb (neC b o e hx) e1 (I.base.free b o e n hx)
  exact ⟨sl', e2⟩
 ·obtain ⟨o', e1⟩ := I.base.there b o e hx
  exact free b o' (neC b o e hx) e1 (I.base.free b o e n hx)
 ·obtain ⟨o', e1⟩ := I.base.there b o e hx
  exact there b o' (neC b o e hx) e1
 ·obtain ⟨m1, e1⟩ := I.base.tbls b ps e
  obtain ⟨m2, e2⟩ := tbls b _ e1
  exact ⟨m1 ++ m2, by rw [e2, Array.append_assoc]⟩
 ·obtain ⟨m, hn, hl⟩ := I.loc
  refine ⟨m, ns m hn, fun i x v e1 e2 e3 => ?_⟩
  obtain ⟨u, r, l⟩ := hl i x v e1 e2 e3
  refine ⟨u, r, ?_⟩
  rcases l with l | ⟨k, c, e, z⟩
  ·exact .inl l
  ·exact .inr ⟨k, c, e, cellK x c e _ z⟩
 ·obtain ⟨v, z⟩ := I.cell x c e
  exact ⟨v, cellK x c e v z⟩
 ·obtain ⟨m, ⟨o, _, _, ho, _⟩, _⟩ := I.loc
  exact free _ o (fun z => (hch _ z).2.1 rfl) ho I.free
 ·obtain ⟨v, o, ho, hd⟩ := I.cell x c e
  exact free c o (fun z => (hch c z).2.2.1 x c e rfl) ho (I.freeC x c e)
 ·obtain ⟨e, n, ne, nf, d⟩ := I.pin p hp
  have nch : p.1 ∉ ch := fun z => (hch p.1 z).2.2.2 p hp rfl
  exact ⟨keep p.1 p.2 ne nf nch e n, free p.1 p.2 nch e n, ne, nf, d⟩
theorem Inv.un {t' : Nat} (I : Inv X pins σ H s) (u : Un X.fs [] H H' s.heap h') (hok : HOk X.prog X.w H' h') : Inv X pins σ H' { s with heap := h', toks := t' } := by
 obtain ⟨m, ⟨o, es, ep, ho, r⟩, _⟩ := id I.loc
 obtain ⟨sl, hL⟩ := u.any ho I.free (by simp)
 exact I.step (g' := s.gens) (d' := s.drawn) (ch := []) (fun _ z => nomatch z) (fun b o _ hb _ e n => u.keep b o e n hb (by simp)) (fun b o _ hb _ e n => u.slot b o e n hb (by simp)) (fun b o _ e n => u.free b o e n (by simp)) (fun b o _ e => u.there b o e (by simp)) u.tups u.frzs u.tbls (fun m' hm => by
  obtain ⟨o', es', ep', ho', r'⟩ := hm
  rw [ho] at ho'; cases ho'
  exact ⟨_, es', ep', hL, r'⟩) hok I.bare
theorem Inv.call {g' : Array GenState} {t' : Nat} {d' : Drawn} {ch : List Addr} (I : Inv X pins σ H s) (u : Un (frs X.stack) ch H H' s.heap h') (hok : HOk X.prog X.w H' h') (hg : AllBare g')
  (hch : ∀ b ∈ ch, (b ∈ X.ex ∨ X.s₀.heap.objs.size ≤ b) ∧ b ≠ X.env.locals ∧ (∀ x c, X.env.cells.lookup x = some c → c ≠ b) ∧ ∀ p ∈ X.pn ++ pins, p.1 ≠ b) :
  Inv X pins σ H' { s with heap := h', gens := g', drawn := d', toks := t' } := by
 obtain ⟨m, ⟨o, es, ep, ho, r⟩, _⟩ := id I.loc
 obtain ⟨sl, hL⟩ := u.any ho I.free fun z => (hch _ z).2.1 rfl
 exact I.step (ch := ch) hch (fun b o hL hb hc e n => u.keep b o e n (fun z => (List.mem_cons.mp (I.stkSub b z)).elim hL hb) hc) (fun b o _ _ hc e n => u.any e n hc) (fun b o hc e n => u.free b o e n hc) (fun b o hc e => u.there b o e hc) u.tups u.frzs u.tbls (fun m' hm => by
  obtain ⟨o', es', ep', ho', r'⟩ := hm
  rw [ho] at ho'; cases ho'
  exact ⟨_, es', ep', hL, r'⟩) hok hg
theorem Inv.turned {t' : Nat} {it : Addr} (I : Inv X pins σ H s) (k : ∀ b o, b ≠ it → s.heap.get? b = some o → h'.get? b = some o) (hn : H it = none) (hL : it ≠ X.env.locals)
  (h1 : it ∈ X.ex ∨ X.s₀.heap.objs.size ≤ it) (h2 : ∀ x c, X.env.cells.lookup x = some c → c ≠ it) (h3 : ∀ p ∈ X.pn ++ pins, p.1 ≠ it) : Inv X pins σ H { s with heap := h', toks := t' } := by
 have nit : ∀ b u, H b = some u → b ≠ it := fun b u e z => by rw [z, hn] at e; cases e
 refine I.step (g' := s.gens) (d' := s.drawn) (ch := [it]) (fun b hb => ?_) (fun b o _ _ hc e _ => k b o (fun z => hc (by simp [z])) e) (fun b o _ _ hc e _ => ⟨o.slots, k b o (fun z => hc (by simp [z])) e⟩) (fun _ _ _ _ n => n)
  (fun b o hc e => ⟨o, k b o (fun z => hc (by simp [z])) e⟩) (fun _ _ e => e) (fun _ _ _ e => e) (fun b ps e => ⟨#[], by rw [e]; simp⟩) (fun m hm => ?_) (fun b u e => ?_) I.bare
 ·have e : b = it := by simpa using hb
  subst e
  exact ⟨h1, hL, h2, h3⟩
 ·obtain ⟨o, es, ep, ho, r⟩ := hm
  exact ⟨o, es, ep, k _ o (Ne.symm hL) ho, r⟩
 ·refine (I.hok b u e).stay (fun c v hc q => k c v ?_ q) (fun _ q => q) fun _ _ q => q
  rcases hc with z | z
  ·rw [z]; exact nit b u e
  ·exact nit c _ z
theorem Inv.tok (I : Inv X pins σ H s) (t : Nat) : Inv X pins σ H { s with toks := t } := I.un (h' := s.heap) (t' := t) Un.refl I.hok
theorem Inv.kept {t' : Nat} (I : Inv X pins σ H s) (k : ∀ b u, s.heap.get? b = some u → h'.get? b = some u) : Inv X pins σ H { s with heap := h', toks := t' } := I.un (Un.kept k) (I.hok.kept k)
theorem Inv.laid {a : Addr} {o : HO} {t' : Nat} (I : Inv X pins σ H s) (k : ∀ b u, s.heap.get? b = some u → h'.get? b = some u) (hp : s.heap.objs.size ≤ a) (new : ObjOk X.prog X.w (upd H a o) h' a o) :
  Inv X pins σ (upd H a o) { s with heap := h', toks := t' } := I.un (Un.laid k hp (I.hok.fresh hp)) (I.hok.laid k hp new)
theorem Inv.write {x e : Addr} {o : HO} {t' : Nat} (I : Inv X pins σ H s) (mu : Mut (H x)) (he : e = x ∨ H e = some (.own x)) (k : ∀ b u, b ≠ e → s.heap.get? b = some u → h'.get? b = some u) (heo : ∃ u, h'.get? e = some u)
  (new : ObjOk X.prog X.w (upd H x o) h' x o) : Inv X pins σ (upd H x o) { s with heap := h', toks := t' } := I.un (Un.write mu he k heo) (I.hok.write mu he k heo new)
theorem Inv.pins_of {pins' : List (Addr × Obj)} (I : Inv X pins σ H s) (h : ∀ p ∈ pins', s.heap.get? p.1 = some p.2 ∧ H p.1 = none ∧ p.1 ≠ X.env.locals ∧ p.1 ∉ X.fs ∧ ∀ v, p.2.data ≠ .cell v) : Inv X pins' σ H s :=
 ⟨I.ok, I.os, I.bare, I.base, I.loc, I.cell, I.free, I.freeC, fun p hp => (List.mem_append.mp hp).elim (fun z => I.pin p (List.mem_append_left _ z)) (h p), I.hok, I.len⟩
theorem nodup_ix {N : List Str} (hN : N.Nodup) {i j : Nat} {x : Str} (a : N[i]? = some x) (b : N[j]? = some x) : i = j := by
 obtain ⟨h1, e1⟩ := List.getElem?_eq_some_iff.mp a
 obtain ⟨h2, e2⟩ := List.getElem?_eq_some_iff.mp b
 exact (List.getElem_inj hN).mp (e1.trans e2.symm)
theorem store_ok2 {M : Model} {A : Around} {E : Value → Shared → Prop} {i : Nat} {x : Str} {v : V} {u : Value} {Q : Unit → Shared → Prop} (I : Inv X pins σ H s) (hN : X.N.Nodup) (hi : X.N[i]? = some x) (hx : Loc X.env.scope x) (r : RelV v u)
    (h : ∀ s', Inv X pins (σ.set i (some v)) H s' → (∃ a, Heap.SameBut a s.heap s'.heap ∧ (a = X.env.locals ∨ X.env.cells.lookup x = some a)) → Q () s') (hf : X.fn x = true ∨ X.env.scope.names.lookup x = some .local := by first | exact .inl rfl | exact .inr rfl | assumption) : wpAny M A (storeName X.env x u) Q E s := by
  obtain ⟨m, hn, hl⟩ := id I.loc
  have hcls : (X.env.scope.kind == .class || (X.env.scope.kind == .module && X.env.locals != X.env.globals)) = false := by rw [I.ok.kind]; rfl
  have hiσ : i < σ.length := by rw [I.len]; exact (List.getElem?_eq_some_iff.mp hi).1
  have cne := I.cne
  have tracked : ∀ {a : Addr} {h' : Heap}, (∃ o, s.heap.get? a = some o ∧ H a = none) → Heap.SameBut a s.heap h' → HOk X.prog X.w H h' := fun {a h'} ha hs b ob e => by
    obtain ⟨_, _, hfree⟩ := ha
    refine (I.hok b ob e).stay (fun c w' hc q => (hs.2 c ?_).trans q) (fun _ q => q) fun _ _ q => q
    rintro rfl
    rcases hc with rfl | hc
    · rw [hfree] at e; cases e
    · rw [hfree] at hc; cases hc
  rcases hx with hk | hk
  · refine wpAny_storeName_local hk hn (fun h' hn' hs => ?_) hcls
    obtain ⟨oL, _, _, hoL, _⟩ := id hn
    refine h _ ⟨I.ok, I.os, I.bare, ⟨fun b o e n hb hx => ?_, fun b o e n hb hx => ?_, I.base.free, fun b o e hx => ?_, I.base.tups, I.base.frzs, I.base.tbls⟩, ⟨_, hn', fun j y v' e1 e2 e3 => ?_⟩, fun y c e => ?_, I.free, I.freeC, fun p hp => ?_, tracked ⟨oL, hoL, I.free⟩ hs, by simpa using I.len⟩ ⟨_, hs, .inl rfl⟩
    · exact (hs.2 b (Nat.ne_of_lt (Nat.lt_of_lt_of_le (Heap.lt_size e) I.ok.above))).trans (I.base.keep b o e n hb hx)
    · obtain ⟨sl, e1⟩ := I.base.slot b o e n hb hx
      exact ⟨sl, (hs.2 b (Nat.ne_of_lt (Nat.lt_of_lt_of_le (Heap.lt_size e) I.ok.above))).trans e1⟩
    · obtain ⟨o', e1⟩ := I.base.there b o e hx
      exact ⟨o', (hs.2 b (Nat.ne_of_lt (Nat.lt_of_lt_of_le (Heap.lt_size e) I.ok.above))).trans e1⟩
    · by_cases hj : j = i
      · subst hj
        rw [hi] at e1; cases e1
        rw [List.getElem?_set_self hiσ] at e2
        cases e2
        exact ⟨u, r, .inl ⟨hk, by simp⟩⟩
      · rw [List.getElem?_set_ne (Ne.symm hj)] at e2
        obtain ⟨u', r', q⟩ := hl j y v' e1 e2 e3
        refine ⟨u', r', ?_⟩
        rcases q with ⟨k, e⟩ | ⟨k, c, e, z⟩
        · refine .inl ⟨k, ?_⟩
          have : y ≠ x := fun e => hj (nodup_ix hN e1 (e ▸ hi))
          simp [this, e]
        · exact .inr ⟨k, c, e, z.sameBut hs (cne y c e)⟩
    · obtain ⟨w', z⟩ := I.cell y c e
      exact ⟨w', z.sameBut hs (cne y c e)⟩
    · obtain ⟨e, n, ne, nf, d⟩ := I.pin p hp
      exact ⟨(hs.2 p.1 ne).trans e, n, ne, nf, d⟩
  · have hfn : X.fn x = true := by
      rcases hf with z | z
      · exact z
      · rw [z] at hk; cases hk
    obtain ⟨c, hc⟩ := I.ok.has x (.inl hk)
    obtain ⟨w', z⟩ := I.cell x c hc
    refine wpAny_storeName_cell I.ok.kind hk hc z (fun h' hc' hs => ?_)
    obtain ⟨oc, hoc, hocd⟩ := id z
    refine h { s with heap := h' } ⟨I.ok, I.os, I.bare, ⟨fun b o e n hb hx => ?_, fun b o e n hb hx => ?_, I.base.free, fun b o e hx => ?_, I.base.tups, I.base.frzs, I.base.tbls⟩, ⟨m, hn.sameBut hs (Ne.symm (cne x c hc)), fun j y v' e1 e2 e3 => ?_⟩, fun y c' e => ?_, I.free, I.freeC, fun p hp => ?_, tracked ⟨oc, hoc, I.freeC x c hc⟩ hs, by simpa using I.len⟩ ⟨c, hs, .inr hc⟩
    · exact (hs.2 b (Nat.ne_of_lt (Nat.lt_of_lt_of_le (Heap.lt_size e) (I.ok.cab x c hfn hc)))).trans (I.base.keep b o e n hb hx)
    · obtain ⟨sl, e1⟩ := I.base.slot b o e n hb hx
      exact ⟨sl, (hs.2 b (Nat.ne_of_lt (Nat.lt_of_lt_of_le (Heap.lt_size e) (I.ok.cab x c hfn hc)))).trans e1⟩
    · obtain ⟨o', e1⟩ := I.base.there b o e hx
      exact ⟨o', (hs.2 b (Nat.ne_of_lt (Nat.lt_of_lt_of_le (Heap.lt_size e) (I.ok.cab x c hfn hc)))).trans e1⟩
    · by_cases hj : j = i
      · subst hj
        rw [hi] at e1; cases e1
        rw [List.getElem?_set_self hiσ] at e2
        cases e2
        exact ⟨u, r, .inr ⟨.inl hk, c, hc, hc'⟩⟩
      · rw [List.getElem?_set_ne (Ne.symm hj)] at e2
        obtain ⟨u', r', q⟩ := hl j y v' e1 e2 e3
        refine ⟨u', r', ?_⟩
        rcases q with q | ⟨k, c', e, z'⟩
        · exact .inl q
        · refine .inr ⟨k, c', e, z'.sameBut hs ?_⟩
          rintro rfl
          exact hj (nodup_ix hN e1 (I.ok.inj _ _ _ e hc ▸ hi))
    · by_cases hcc : c' = c
      · subst hcc; exact ⟨_, hc'⟩
      · obtain ⟨w2, z2⟩ := I.cell y c' e
        exact ⟨w2, z2.sameBut hs hcc⟩
    · obtain ⟨e, n, ne, nf, d⟩ := I.pin p hp
      refine ⟨(hs.2 p.1 ?_).trans e, n, ne, nf, d⟩
      intro q
      rw [q, hoc] at e
      have q' : oc = p.2 := Option.some.inj e
      exact d w' (by rw [← q']; exact hocd)
theorem store_ok {M : Model} {A : Around} {E : Value → Shared → Prop} {i : Nat} {x : Str} {v : V} {u : Value} {Q : Unit → Shared → Prop} (I : Inv X pins σ H s) (hN : X.N.Nodup) (hi : X.N[i]? = some x) (hx : Loc X.env.scope x) (r : RelV v u)
  (h : ∀ s', Inv X pins (σ.set i (some v)) H s' → Q () s') (hf : X.fn x = true ∨ X.env.scope.names.lookup x = some .local := by first | exact .inl rfl | exact .inr rfl | assumption) : wpAny M A (storeName X.env x u) Q E s :=
 store_ok2 I hN hi hx r (fun s' I' _ => h s' I') hf
theorem Inv.call' {s' : Shared} {ch : List Addr} (I : Inv X pins σ H s) (ho : s'.os = s.os) (u : Un (frs X.stack) ch H H' s.heap s'.heap) (hok : HOk X.prog X.w H' s'.heap) (hg : AllBare s'.gens)
  (hch : ∀ b ∈ ch, (b ∈ X.ex ∨ X.s₀.heap.objs.size ≤ b) ∧ b ≠ X.env.locals ∧ (∀ x c, X.env.cells.lookup x = some c → c ≠ b) ∧ ∀ p ∈ X.pn ++ pins, p.1 ≠ b) : Inv X pins σ H' s' := by
 obtain ⟨h', g', d', t', o'⟩ := s'
 have e : o' = s.os := ho
 subst e
 exact I.call (g' := g') (t' := t') (d' := d') u hok hg hch
end
abbrev XK := Value → Option Addr → Hp → Prop
abbrev St := List (Option V)
abbrev VK := V → Hp → Prop
abbrev TE := St → Hp → VK → Prop
abbrev TT := St → Hp → (Bool → Hp → Prop) → Prop
abbrev TA := St → Hp → (List V → Hp → Prop) → Prop
structure Ends where
 nx : St → Hp → Prop
 rt : VK
 bk : St → Hp → Prop := fun _ _ => False
 ct : St → Hp → Prop := fun _ _ => False
abbrev TS := Ends → St → Hp → Prop
def EP (X : Cx) (pins : List (Addr × Obj)) (σ : St) (Q : VK) (u : Value) (s' : Shared) : Prop := ∃ v H', Inv X pins σ H' s' ∧ RelV v u ∧ Q v H'
def TP (X : Cx) (pins : List (Addr × Obj)) (σ : St) (Q : Bool → Hp → Prop) (b : Bool) (s' : Shared) : Prop := ∃ H', Inv X pins σ H' s' ∧ Q b H'
def AP (X : Cx) (pins : List (Addr × Obj)) (σ : St) (Q : List V → Hp → Prop) (us : List Value) (s' : Shared) : Prop := ∃ vs H', Inv X pins σ H' s' ∧ Vals vs us ∧ Q vs H'
def SP (X : Cx) (pins : List (Addr × Obj)) (D : Ends) (f : Flow) (s' : Shared) : Prop :=
 match f with
 | .next => ∃ σ' H', Inv X pins σ' H' s' ∧ D.nx σ' H'
 | .brk => ∃ σ' H', Inv X pins σ' H' s' ∧ D.bk σ' H'
 | .cont => ∃ σ' H', Inv X pins σ' H' s' ∧ D.ct σ' H'
 | .ret u => ∃ v σ' H', Inv X pins σ' H' s' ∧ RelV v u ∧ D.rt v H'
def PE (X : Cx) (e : Expr) (t : TE) : Prop :=
 ∀ (pins : List (Addr × Obj)) (s : Shared) (σ : St) (H : Hp) (Q : VK), Inv X pins σ H s → t σ H Q → wpAny (model X.prog X.w) X.A (eval e X.env) (EP X pins σ Q) X.xe s
def PT (X : Cx) (e : Expr) (t : TT) : Prop :=
 ∀ (pins : List (Addr × Obj)) (s : Shared) (σ : St) (H : Hp) (Q : Bool → Hp → Prop), Inv X pins σ H s → t σ H Q → wpAny (model X.prog X.w) X.A (isTrue e X.env (eval e X.env)) (TP X pins σ Q) X.xe s
def PW (X : Cx) (e : Expr) (t : TT) : Prop :=
 ∀ (whole : Sem Value) (pins : List (Addr × Obj)) (s : Shared) (σ : St) (H : Hp) (Q : Bool → Hp → Prop), Inv X pins σ H s → t σ H Q → wpAny (model X.prog X.w) X.A (isTrue e X.env whole) (TP X pins σ Q) X.xe s
theorem PW.pt {X : Cx} {e : Expr} {t : TT} (h : PW X e t) : PT X e t := h _
def PA (X : Cx) (es : List Expr) (t : TA) : Prop :=
 ∀ (pos : Pos) (pins : List (Addr × Obj)) (s : Shared) (σ : St) (H : Hp) (Q : List V → Hp → Prop), Inv X pins σ H s → t σ H Q → wpAny (model X.prog X.w) X.A (spliced (backTo pos (starEach es X.env))) (AP X pins σ Q) X.xe s
def PS (X : Cx) (st : Stmt) (t : TS) : Prop :=
 ∀ (pins : List (Addr × Obj)) (s : Shared) (σ : St) (H : Hp) (D : Ends), Inv X pins σ H s → t D σ H → wpAny (model X.prog X.w) X.A (exec st X.env) (SP X pins D) X.xe s
def PSs (X : Cx) (st : List Stmt) (t : TS) : Prop :=
 ∀ (pins : List (Addr × Obj)) (s : Shared) (σ : St) (H : Hp) (D : Ends), Inv X pins σ H s → t D σ H → wpAny (model X.prog X.w) X.A (execs st X.env) (SP X pins D) X.xe s
theorem thn {α : Type} {t : Sem α} {Q Q' : α → Shared → Prop} {M : Model} {A : Around} {E : Value → Shared → Prop} {s : Shared} (h : wpAny M A t Q E s) (hQ : ∀ a s, Q a s → Q' a s) : wpAny M A t Q' E s := wpAny_mono h hQ fun _ _ x => x
end L2
namespace L2
open PySem PySem.Spec PyProof.Rows
section
variable {X : Cx}
def tVar (i : Nat) : TE := fun σ H Q => ∃ v, σ[i]? = some (some v) ∧ Q v H
def tC (v : V) : TE := fun _ H Q => Q v H
theorem pe_var {i : Nat} {x : Str} {pos : Pos} (hN : X.N[i]? = some x) (hv : Vis X.env.scope x) (hd : (x == ("__debug__" : Str)) = false := by decide) (hcd : (x == ("__classdict__" : Str)) = false := by decide) : PE X (.Name x pos) (tVar i) := by
 intro pins s σ H Q I h
 obtain ⟨v, e, h⟩ := h
 obtain ⟨m, hn, hl⟩ := I.loc
 obtain ⟨u, r, l⟩ := hl i x v hN e hv
 have fin : EP X pins σ Q u s := ⟨v, H, I, r, h⟩
 rcases l with ⟨hk, hm⟩ | ⟨hk, c, hc, hcell⟩
 ·exact wpAny_Name (wpAny_loadName_local I.ok.kind hk hn hm fin) hd
 ·rcases hk with hk | hk
  ·exact wpAny_Name (wpAny_loadName_cell I.ok.kind hk hc hcell fin) hd
  ·exact wpAny_Name (wpAny_loadName_free I.ok.kind hk hc hcell fin hcd) hd
theorem pe_int {i j pos} : PE X (.Constant (.int i) j pos) (tC (.int i)) := fun _ _ _ H _ I h => wpAny_Constant_int ⟨.int i, H, I.tok _, ⟨_, rfl⟩, h⟩
theorem pe_bl {b j pos} : PE X (.Constant (.bool b) j pos) (tC (.bl b)) := fun _ _ _ H _ I h => Constant_bool ⟨.bl b, H, I, rfl, h⟩
theorem pe_non {j pos} : PE X (.Constant .none j pos) (tC .non) := fun _ _ _ H _ I h => Constant_none ⟨.non, H, I, rfl, h⟩
theorem pe_str {x j pos} : PE X (.Constant (.str x) j pos) (tC (.str x)) := fun _ _ _ H _ I h => Calls.Constant_str ⟨.str x, H, I.tok _, ⟨_, rfl⟩, h⟩
def Gl (X : Cx) (x : Str) : Prop := X.env.kindOf x = some .globalImplicit
theorem ld_glob {E : Value → Shared → Prop} {pins : List (Addr × Obj)} {s : Shared} {σ : St} {H : Hp} {x : Str} {u : Value} {pos : Pos} {Q : Value → Shared → Prop} (I : Inv X pins σ H s) (hg : Gl X x) (hm : X.mg x = some u) (h : Q u s)
  (hd : (x == ("__debug__" : Str)) = false := by decide) : wpAny (model X.prog X.w) X.A (eval (.Name x pos) X.env) Q E s :=
 Calls.Name_function_global I.ok.kind hg (Calls.loadGlobal_global (by rw [I.ok.glob]; exact I.mod.glob.keeps I.bk) hm h) hd
theorem ld_blt {E : Value → Shared → Prop} {pins : List (Addr × Obj)} {s : Shared} {σ : St} {H : Hp} {x : Str} {u : Value} {pos : Pos} {Q : Value → Shared → Prop} (I : Inv X pins σ H s) (hg : Gl X x) (hm : X.mg x = none) (hv : bootBuiltins x = some u) (h : Q u s)
  (hn : x ≠ "__name__" := by decide) (hd : (x == ("__debug__" : Str)) = false := by decide) : wpAny (model X.prog X.w) X.A (eval (.Name x pos) X.env) Q E s := by
 obtain ⟨mb, h1, h2⟩ := I.mod.blt
 exact Calls.Name_function_global I.ok.kind hg (Calls.loadGlobal_builtin (by rw [I.ok.glob]; exact I.mod.glob.keeps I.bk) hm (by rw [I.ok.blt]; exact h1.keeps I.bk) ((h2 x hn).trans hv) h) hd
theorem pe_glob {x : Str} {v : V} {u : Value} {pos : Pos} (hg : Gl X x) (hm : X.mg x = some u) (r : RelV v u) (hd : (x == ("__debug__" : Str)) = false := by decide) : PE X (.Name x pos) (tC v) :=
 fun _ _ _ H _ I h => ld_glob I hg hm ⟨v, H, I, r, h⟩ hd
theorem pe_bltn {x : Str} {v : V} {u : Value} {pos : Pos} (hg : Gl X x) (hm : X.mg x = none) (hv : bootBuiltins x = some u) (r : RelV v u) (hn : x ≠ "__name__" := by decide) (hd : (x == ("__debug__" : Str)) = false := by decide) : PE X (.Name x pos) (tC v) :=
 fun _ _ _ H _ I h => ld_blt I hg hm hv ⟨v, H, I, r, h⟩ hn hd
variable {a b : Expr} {ta tb : TE} {pos : Pos}
def PC (X : Cx) (op : CmpOp) (a b : Expr) (t : TE) : Prop :=
 ∀ (pins : List (Addr × Obj)) (s : Shared) (σ : St) (H : Hp) (Q : VK), Inv X pins σ H s → t σ H Q →
  wpAny (model X.prog X.w) X.A (eval a X.env) (fun v s₁ => wpAny (model X.prog X.w) X.A (eval b X.env) (fun u s₂ => wpAny (model X.prog X.w) X.A (compareOp op v u) (EP X pins σ Q) X.xe s₂) X.xe s₁) X.xe s
theorem nobehind (b : Expr) {op : CmpOp} (h : op ≠ .In) (h2 : op ≠ .NotIn) : behindInMarks op b = false := by
 have e1 : (op == CmpOp.In) = false := by cases op <;> first | rfl | exact absurd rfl h
 have e2 : (op == CmpOp.NotIn) = false := by cases op <;> first | rfl | exact absurd rfl h2
 cases b <;> simp [behindInMarks, e1, e2]
def tB (t : TE) : TT := fun σ H Q => t σ H fun x H1 => ∃ c, x = .bl c ∧ Q c H1
theorem pe_cmp {op : CmpOp} {t : TE} (h : PC X op a b t) (h1 : behindInMarks op b = false := by first | exact nobehind _ (by decide) (by decide) | rfl) : PE X (.Compare a [op] [b] pos) t := fun pins s σ H Q I hw => wpAny_Compare1 (h pins s σ H Q I hw) h1
theorem pt_cmp {op : CmpOp} {t : TE} (h : PC X op a b t) (h1 : behindInMarks op b = false := by first | exact nobehind _ (by decide) (by decide) | rfl) : PT X (.Compare a [op] [b] pos) (tB t) := by
 intro pins s σ H Q I hw
 refine wpAny_isTrue_Compare1 (thn (h pins s σ H _ I hw) fun v s1 h1 => thn h1 fun u s2 h2 => thn h2 fun c s3 ⟨x, H1, I1, r1, q1⟩ => ?_) h1
 obtain ⟨d, rfl, q⟩ := q1
 cases r1
 exact wpAny_truthy_bool ⟨H1, I1, q⟩
variable {tA tB' : TT} {rest : List Expr}
def tAnd (t u : TT) : TT := fun σ H Q => t σ H fun c H1 => if c = true then u σ H1 Q else Q false H1
def tOr (t u : TT) : TT := fun σ H Q => t σ H fun c H1 => if c = true then Q true H1 else u σ H1 Q
def tNot (t : TT) : TT := fun σ H Q => t σ H fun c H1 => Q (!c) H1
theorem pw_and1 (ha : PT X a tA) : PW X (.BoolOp .And [a] pos) tA := by
 intro wh pins s σ H Q I h
 refine isTrue_and (thn (ha pins s σ H Q I h) fun c s1 e => ?_)
 cases c with
 | true => exact isTrue_and_nil e
 | false => exact e
theorem pw_or1 (ha : PT X a tA) : PW X (.BoolOp .Or [a] pos) tA := by
 intro wh pins s σ H Q I h
 refine isTrue_or (thn (ha pins s σ H Q I h) fun c s1 e => ?_)
 cases c with
 | false => exact isTrue_or_nil e
 | true => exact e
theorem pw_and (ha : PT X a tA) (hb : PW X (.BoolOp .And (b :: rest) pos) tB') : PW X (.BoolOp .And (a :: b :: rest) pos) (tAnd tA tB') := by
 intro wh pins s σ H Q I h
 refine isTrue_and (thn (ha pins s σ H _ I h) fun c s1 ⟨H1, I1, q1⟩ => ?_)
 cases c with
 | true => exact hb wh pins s1 σ H1 Q I1 q1
 | false => exact ⟨H1, I1, q1⟩
theorem pw_or (ha : PT X a tA) (hb : PW X (.BoolOp .Or (b :: rest) pos) tB') : PW X (.BoolOp .Or (a :: b :: rest) pos) (tOr tA tB') := by
 intro wh pins s σ H Q I h
 refine isTrue_or (thn (ha pins s σ H _ I h) fun c s1 ⟨H1, I1, q1⟩ => ?_)
 cases c with
 | true => exact ⟨H1, I1, q1⟩
 | false => exact hb wh pins s1 σ H1 Q I1 q1
theorem pt_not (ha : PT X a tA) : PT X (.UnaryOp .Not a pos) (tNot tA) := by
 intro pins s σ H Q I h
 exact isTrue_not (ha pins s σ H (fun c H1 => Q (!c) H1) I h)
def tAndV (ta tb : TE) : TE := fun σ H Q => ta σ H fun x H1 => ∃ c, x = .bl c ∧ if c = true then tb σ H1 Q else Q (.bl false) H1
theorem pe_one {op} {t : TE} (h : PE X a t) : PE X (.BoolOp op [a] pos) t := fun pins s σ H Q I hw => BoolOp_one (h pins s σ H Q I hw)
theorem pe_and (ha : PE X a ta) (hb : PE X (.BoolOp .And (b :: rest) pos) tb) : PE X (.BoolOp .And (a :: b :: rest) pos) (tAndV ta tb) := by
 intro pins s σ H Q I h
 refine BoolOp_and (thn (ha pins s σ H _ I h) fun v s1 ⟨x, H1, I1, r1, q1⟩ => ?_)
 obtain ⟨c, rfl, q1⟩ := q1
 cases r1
 refine wpAny_truthy_bool ?_
 cases c with
 | true => exact hb pins s1 σ H1 Q I1 q1
 | false => exact ⟨.bl false, H1, I1, rfl, q1⟩
def tIf (t : TT) (ta tb : TE) : TE := fun σ H Q => t σ H fun c H1 => if c = true then ta σ H1 Q else tb σ H1 Q
theorem pe_ifExp {c : Expr} (hc : PT X c tA) (ha : PE X a ta) (hb : PE X b tb) : PE X (.IfExp c a b pos) (tIf tA ta tb) := by
 intro pins s σ H Q I h
 refine wpAny_IfExp (thn (hc pins s σ H _ I h) fun d s1 ⟨H1, I1, q1⟩ => ?_)
 cases d with
 | true => exact ha pins s1 σ H1 Q I1 q1
 | false => exact hb pins s1 σ H1 Q I1 q1
end
end L2
namespace L2
open PySem PySem.Spec PyProof.Rows
def SqL (K : PySem.W.Frag) (H : Hp) (a : Addr) (xs : List V) : Prop :=
 Rd H a (.lst xs) ∨
  ∃ (o : Obj) (its : Array Value) (n : Nat), K.lookup a = some o ∧ o.cls = .type "list" ∧ o.dict = none ∧ o.data = .seq its n ∧ its.size ≤ sizeLine ∧ Vals xs its.toList
def SqT (K : PySem.W.Frag) (H : Hp) (a : Addr) (xs : List V) : Prop :=
 Rd H a (.tup xs) ∨
  ∃ (o : Obj) (its : Array Value) (n : Nat), K.lookup a = some o ∧ o.cls = .type "tuple" ∧ o.data = .seq its n ∧ its.size ≤ sizeLine ∧ Vals xs its.toList
def absV : Value → Option V
 | .none => some .non
 | .bool b => some (.bl b)
 | .int i _ => some (.int i)
 | .str x _ => some (.str x)
 | .bytes b _ => some (.byt b)
 | .float b _ => some (.flt b)
 | .ref a => some (.ref a)
 | .type n => some (.ty n)
 | _ => none
theorem RelV.abs {x : V} {u : Value} (r : RelV x u) : absV u = some x := by
 cases x with
 | non => cases r; rfl
 | bl _ => cases r; rfl
 | int _ => obtain ⟨t, rfl⟩ := r; rfl
 | str _ => obtain ⟨t, rfl⟩ := r; rfl
 | byt _ => obtain ⟨t, rfl⟩ := r; rfl
 | flt _ => obtain ⟨t, rfl⟩ := r; rfl
 | ref _ => cases r; rfl
 | ty _ => cases r; rfl
theorem RelV.inj {x y : V} {u : Value} (r : RelV x u) (q : RelV y u) : x = y := Option.some.inj (r.abs.symm.trans q.abs)
theorem Vals.inj : ∀ {xs ys : List V} {us : List Value}, Vals xs us → Vals ys us → xs = ys
 | _, _, _, .nil, .nil => rfl
 | _, _, _, .cons r t, .cons r' t' => by rw [r.inj r', Vals.inj t t']
section
variable {X : Cx} {pins : List (Addr × Obj)} {σ : St} {H : Hp} {s : Shared} {a : Addr} {xs ys : List V}
theorem SqT.of {K : PySem.W.Frag} (h : H a = some (.tup xs)) : SqT K H a xs := .inl (.inl h)
theorem Inv.list (I : Inv X pins σ H s) (h : SqL X.K H a xs) : ∃ its : List Value, Vals xs its ∧ PlainL s.heap a its.toArray ∧ xs.length ≤ sizeLine := by
 rcases h with h | ⟨o, its, n, hk, hc, hd, hs, hz, r⟩
 ·obtain ⟨z, its, n, r, e⟩ := h.ok I.hok
  exact ⟨its, r, ⟨_, n, e, rfl, rfl, rfl⟩, z⟩
 ·refine ⟨its.toList, r, ⟨o, n, I.kIn a o hk, hc, hd, by simpa using hs⟩, ?_⟩
  have e := r.length
  simp only [Array.length_toList] at e
  omega
theorem Inv.tuple (I : Inv X pins σ H s) (h : SqT X.K H a xs) : ∃ its : List Value, Vals xs its ∧ IsTup s.heap a its.toArray ∧ xs.length ≤ sizeLine := by
 rcases h with h | ⟨o, its, n, hk, hc, hs, hz, r⟩
 ·obtain ⟨z, its, r, p⟩ := h.ok I.hok
  exact ⟨its, r, p, z⟩
 ·refine ⟨its.toList, r, ⟨o, I.kIn a o hk, hc, n, by simpa using hs⟩, ?_⟩
  have e := r.length
  simp only [Array.length_toList] at e
  omega
theorem Inv.list_inj (I : Inv X pins σ H s) (h : SqL X.K H a xs) (h' : SqL X.K H a ys) : xs = ys := by
 obtain ⟨its, r, ⟨o, n, e, _, _, d⟩, _⟩ := I.list h
 obtain ⟨its', r', ⟨o', n', e', _, _, d'⟩, _⟩ := I.list h'
 rw [e] at e'; cases e'
 rw [d] at d'
 injection d' with d1 _
 have : its = its' := by simpa using congrArg Array.toList d1
 subst this
 exact r.inj r'
theorem Inv.tuple_inj (I : Inv X pins σ H s) (h : SqT X.K H a xs) (h' : SqT X.K H a ys) : xs = ys := by
 obtain ⟨its, r, ⟨o, e, _, n, d⟩, _⟩ := I.tuple h
 obtain ⟨its', r', ⟨o', e', _, n', d'⟩, _⟩ := I.tuple h'
 rw [e] at e'; cases e'
 rw [d] at d'
 injection d' with d1 _
 have : its = its' := by simpa using congrArg Array.toList d1
 subst this
 exact r.inj r'
end
abbrev Cx.wish (X : Cx) (E : Value → Shared → Prop) : Cx := { X with xe := E }
abbrev Cx.nox (X : Cx) : Cx := X.wish fun _ _ => False
theorem Cx.Ok.wish {X : Cx} (ok : X.Ok) (E : Value → Shared → Prop) : (X.wish E).Ok :=
 ⟨ok.mod, ok.kind, ok.glob, ok.blt, ok.above, ok.inj, ok.has, ok.cab, ok.hd, ok.frames, ok.stk, ok.exf, ok.bs, ok.bsz, ok.noex, ok.exfs, ok.funs, ok.frf⟩
theorem Cx.Ok.unwish {X : Cx} {E : Value → Shared → Prop} (ok : (X.wish E).Ok) : X.Ok :=
 ⟨ok.mod, ok.kind, ok.glob, ok.blt, ok.above, ok.inj, ok.has, ok.cab, ok.hd, ok.frames, ok.stk, ok.exf, ok.bs, ok.bsz, ok.noex, ok.exfs, ok.funs, ok.frf⟩
section
variable {X : Cx} {pins : List (Addr × Obj)} {σ : St} {H : Hp} {s : Shared} {E : Value → Shared → Prop}
theorem Inv.wish (I : Inv X pins σ H s) (E : Value → Shared → Prop) : Inv (X.wish E) pins σ H s := ⟨I.ok.wish E, I.os, I.bare, I.base, I.loc, I.cell, I.free, I.freeC, I.pin, I.hok, I.len⟩
theorem Inv.unwish (I : Inv (X.wish E) pins σ H s) : Inv X pins σ H s := ⟨I.ok.unwish, I.os, I.bare, I.base, I.loc, I.cell, I.free, I.freeC, I.pin, I.hok, I.len⟩
theorem SP.unwish {D : Ends} {f : Flow} {s' : Shared} (h : SP (X.wish E) pins D f s') : SP X pins D f s' := by
 cases f with
 | next => obtain ⟨σ', H', I, q⟩ := h; exact ⟨σ', H', I.unwish, q⟩
 | brk => obtain ⟨σ', H', I, q⟩ := h; exact ⟨σ', H', I.unwish, q⟩
 | cont => obtain ⟨σ', H', I, q⟩ := h; exact ⟨σ', H', I.unwish, q⟩
 | ret u => obtain ⟨v, σ', H', I, r, q⟩ := h; exact ⟨v, σ', H', I.unwish, r, q⟩
theorem PSs.nox {st : List Stmt} {t : TS} (h : PSs X.nox st t) : PSs X st t := fun pins s σ H D I hw =>
 wpAny_mono (h pins s σ H D (I.wish _) hw) (fun _ _ q => q.unwish) fun _ _ z => False.elim z
end
section
variable {X : Cx} {st : Stmt} {rest : List Stmt} {t u : TS} {e : Expr} {te : TE} {pos : Pos}
def tNext : TS := fun D σ H => D.nx σ H
def tSeq (t u : TS) : TS := fun D σ H => t { D with nx := u D } σ H
theorem pss_nil : PSs X [] tNext := fun _ _ σ H _ I h => wpAny_execs_nil ⟨σ, H, I, h⟩
theorem pss_cons (h1 : PS X st t) (h2 : PSs X rest u) : PSs X (st :: rest) (tSeq t u) := by
  intro pins s σ H D I h
  refine wpAny_execs_cons (thn (h1 pins s σ H { D with nx := u D } I h) fun f s1 q => ?_)
  cases f with
  | next =>
    obtain ⟨σ', H', I', q⟩ := q
    exact h2 pins s1 σ' H' D I' q
  | ret v => exact q
  | brk => exact q
  | cont => exact q
theorem pss_one (h1 : PS X st t) : PSs X [st] t := by
 intro pins s σ H D I h
 refine wpAny_execs_cons (thn (h1 pins s σ H D I h) fun f s1 q => ?_)
 cases f with
 | next => exact wpAny_execs_nil q
 | ret v => exact q
 | brk => exact q
 | cont => exact q
theorem Inv.quiet {pins : List (Addr × Obj)} {σ : St} {H : Hp} {s : Shared} (I : Inv X pins σ H s) : interactive X.env = false := by simp [interactive, I.ok.kind]
def tDrop (te : TE) : TS := fun D σ H => te σ H fun _ H1 => D.nx σ H1
theorem ps_expr (he : PE X e te) (hs : swapsWith e none pos.line X.env = pure false := by rfl) : PS X (.Expr e pos) (tDrop te) := by
 intro pins s σ H D I h
 exact wpAny_Expr_any (thn (he pins s σ H _ I h) fun v s1 ⟨x, H1, I1, r1, q1⟩ => ⟨σ, H1, I1, q1⟩) I.quiet hs
def tRet (te : TE) : TS := fun D σ H => te σ H D.rt
theorem ps_ret (he : PE X e te) : PS X (.Return (some e) pos) (tRet te) := by
 intro pins s σ H D I h
 exact wpAny_Return_some (thn (he pins s σ H _ I h) fun v s1 ⟨x, H1, I1, r1, q1⟩ => ⟨x, σ, H1, I1, r1, q1⟩)
def tIfS (c : TT) (t u : TS) : TS := fun D σ H => c σ H fun b H1 => if b = true then t D σ H1 else u D σ H1
theorem ps_if {c : Expr} {a b : List Stmt} {tc : TT} (hc : PT X c tc) (ha : PSs X a t) (hb : PSs X b u) : PS X (.If c a b pos) (tIfS tc t u) := by
 intro pins s σ H D I h
 refine wpAny_If (thn (hc pins s σ H _ I h) fun d s1 ⟨H1, I1, q1⟩ => ?_)
 cases d with
 | true => exact ha pins s1 σ H1 D I1 q1
 | false => exact hb pins s1 σ H1 D I1 q1
end
abbrev TG := V → St → Hp → (St → Hp → Prop) → Prop
def PG (X : Cx) (target : Expr) (t : TG) : Prop :=
 ∀ (pins : List (Addr × Obj)) (s : Shared) (σ : St) (H : Hp) (v : V) (u : Value) (Q : St → Hp → Prop), Inv X pins σ H s → RelV v u → t v σ H Q →
  wpAny (model X.prog X.w) X.A (assign target X.env u) (fun _ s' => ∃ σ' H', Inv X pins σ' H' s' ∧ Q σ' H') X.xe s
section
variable {X : Cx} {pos : Pos}
def gName (i : Nat) : TG := fun v σ H Q => Q (σ.set i (some v)) H
theorem pg_name {i : Nat} {x : Str} (hN : X.N.Nodup) (hi : X.N[i]? = some x) (hx : Loc X.env.scope x) (hf : X.fn x = true ∨ X.env.scope.names.lookup x = some .local := by first | exact .inl rfl | exact .inr rfl | assumption) : PG X (.Name x pos) (gName i) := by
 intro pins s σ H v u Q I r h
 exact wpAny_assign_Name (store_ok I hN hi hx r (fun s' I' => ⟨_, H, I', h⟩) hf)
def tAsg (te : TE) (g : TG) : TS := fun D σ H => te σ H fun x H1 => g x σ H1 D.nx
theorem ps_set {i : Nat} {x : Str} {e : Expr} {te : TE} {pos' : Pos} (hN : X.N.Nodup) (hi : X.N[i]? = some x) (hx : Loc X.env.scope x) (he : PE X e te) (hs : swapsWith e (some (.Name x pos')) pos.line X.env = pure false := by rfl) (hf : X.fn x = true ∨ X.env.scope.names.lookup x = some .local := by first | exact .inl rfl | exact .inr rfl | assumption) :
  PS X (.Assign [.Name x pos'] e pos) (tAsg te (gName i)) := by
 intro pins s σ H D I h
 refine wpAny_Assign_Name (thn (he pins s σ H _ I h) fun v s1 ⟨y, H1, I1, r1, q1⟩ => ?_) hs
 exact store_ok I1 hN hi hx r1 (fun s2 I2 => ⟨_, H1, I2, q1⟩) hf
end
section
variable {X : Cx} {pos : Pos}
def tWhile (c : TT) (tb : TS) : TS := fun D σ H => ∃ W : Nat → St → Hp → Prop, (∃ m, W m σ H) ∧ ∀ m σ H, W m σ H →
 c σ H fun b H1 => if b = true then ∃ N : St → Hp → Prop, (∀ σ' H', N σ' H' → ∃ m', m' < m ∧ W m' σ' H') ∧ tb { D with nx := N, ct := N, bk := D.nx } σ H1 else D.nx σ H1
theorem ps_while {c : Expr} {body : List Stmt} {tc : TT} {tb : TS} (hp : PassesOwn (model X.prog X.w) X.A X.env X.xe) (hc : PT X c tc) (hb : PSs X body tb) : PS X (.While c body [] pos) (tWhile tc tb) := by
  intro pins s σ H D I h
  obtain ⟨W, ⟨m0, w0⟩, turn⟩ := h
  refine wpAny_While (codeAny_whileLoop (fun n s' => ∃ σ' H', Inv X pins σ' H' s' ∧ W n σ' H') ?_ m0 ⟨σ, H, I, w0⟩)
  rintro n s1 ⟨σ1, H1, I1, w1⟩
  refine wpAny_passesOwn hp (thn (hc pins s1 σ1 H1 _ I1 (turn n σ1 H1 w1)) fun b s2 ⟨H2, I2, q2⟩ => ?_)
  cases b with
  | true =>
    obtain ⟨N, hN, q2⟩ := q2
    rw [if_pos rfl]
    refine wpAny_passesOwn hp (thn (hb pins s2 σ1 H2 _ I2 q2) fun f s3 q3 => ?_)
    cases f with
    | next =>
      obtain ⟨σ3, H3, I3, n3⟩ := q3
      obtain ⟨m', hm, w3⟩ := hN σ3 H3 n3
      exact ⟨m', hm, σ3, H3, I3, w3⟩
    | cont =>
      obtain ⟨σ3, H3, I3, n3⟩ := q3
      obtain ⟨m', hm, w3⟩ := hN σ3 H3 n3
      exact ⟨m', hm, σ3, H3, I3, w3⟩
    | brk => exact q3
    | ret v => exact q3
  | false =>
    rw [if_neg Bool.false_ne_true]
    exact wpAny_execs_nil ⟨σ1, H2, I2, q2⟩
end
structure It where
 go : Nat → Hp → Prop
 yld : Nat → Hp → V → Hp → Prop
 stop : Nat → Hp → Prop
def FpOk (X : Cx) (pins : List (Addr × Obj)) (H : Hp) (b : Addr) : Prop :=
 H b = none ∧ b ≠ X.env.locals ∧ b ∉ X.fs ∧ (b ∈ X.ex ∨ X.s₀.heap.objs.size ≤ b) ∧ (∀ x c, X.env.cells.lookup x = some c → c ≠ b) ∧ ∀ p ∈ X.pn ++ pins, p.1 ≠ b
theorem Inv.fpOk {X : Cx} {pins : List (Addr × Obj)} {σ : St} {H H' : Hp} {s : Shared} {b : Addr} (I : Inv X pins σ H s) (hb : s.heap.objs.size ≤ b) (hn : H' b = none) : FpOk X pins H' b := by
 refine ⟨hn, Nat.ne_of_gt (Nat.lt_of_lt_of_le I.lt hb), I.nofs hb, .inr (Nat.le_trans I.sz hb), fun x c e z => ?_, fun p hp z => ?_⟩
 ·obtain ⟨v, q⟩ := I.cell x c e
  exact absurd (Nat.lt_of_lt_of_le q.lt (by rw [z]; exact hb)) (Nat.lt_irrefl _)
 ·exact absurd (Nat.lt_of_lt_of_le (Heap.lt_size (I.pin p hp).1) (by rw [z]; exact hb)) (Nat.lt_irrefl _)
structure Turn (P : Program) (w : World) (K : PySem.W.Frag) (tg : Expr) (J : It) (fp : List Addr) (it : Addr) (tn : Nat → Heap → Prop) : Prop where
 mem : it ∈ fp
 obj : ∀ i h, tn i h → ∀ b ∈ fp, ∃ o, h.get? b = some o ∧ ∀ v, o.data ≠ .cell v
 keep : ∀ i h h', tn i h → (∀ b ∈ fp, ∀ o, h.get? b = some o → h'.get? b = some o) → tn i h'
 item : ∀ (X : Cx), X.prog = P → X.w = w → X.K = K → X.calm = true → ∀ (i : Nat) (pins : List (Addr × Obj)) (s : Shared) (σ : St) (H : Hp) (E : Value → Shared → Prop), Inv X pins σ H s → (∀ b ∈ fp, FpOk X pins H b) → tn i s.heap → J.go i H →
  wpAny (model P w) X.A (pyNext (.ref it)) (fun r s1 => ∃ u, r = some u ∧
   wpAny (model P w) X.A (letOwnedTupleGo tg (.ref it) u) (fun _ s2 => ∃ x H', Inv X pins σ H' s2 ∧ RelV x u ∧ J.yld i H x H' ∧ tn (i + 1) s2.heap ∧ ∀ b ∈ fp, H' b = none) E s1) E s
 done : ∀ (X : Cx), X.prog = P → X.w = w → X.K = K → X.calm = true → ∀ (i : Nat) (pins : List (Addr × Obj)) (s : Shared) (σ : St) (H : Hp) (E : Value → Shared → Prop), Inv X pins σ H s → (∀ b ∈ fp, FpOk X pins H b) → tn i s.heap → J.stop i H →
  wpAny (model P w) X.A (pyNext (.ref it)) (fun r s1 => r = none ∧ Inv X pins σ H s1) E s
 self : ∀ (A : Around) (i : Nat) (s : Shared) (Q : Value → Shared → Prop) (E : Value → Shared → Prop), tn i s.heap → Q (.ref it) s → wpAny (model P w) A (pyIter (.ref it)) Q E s
abbrev TI := St → Hp → (It → Hp → Prop) → Prop
def PIE (X : Cx) (pins : List (Addr × Obj)) (σ : St) (tg : Expr) (R : It → Hp → Prop) (itv : Value) (s2 : Shared) : Prop :=
 ∃ (it : Addr) (fp : List Addr) (tn : Nat → Heap → Prop) (J : It) (H' : Hp), itv = .ref it ∧ Inv X pins σ H' s2 ∧ Turn X.prog X.w X.K tg J fp it tn ∧ tn 0 s2.heap ∧ (∀ b ∈ fp, FpOk X pins H' b) ∧ R J H'
def PI (X : Cx) (tg iter : Expr) (wi : TI) : Prop :=
 ∀ (pins : List (Addr × Obj)) (s : Shared) (σ : St) (H : Hp) (R : It → Hp → Prop), Inv X pins σ H s → wi σ H R →
  wpAny (model X.prog X.w) X.A (eval iter X.env) (fun v s1 => wpAny (model X.prog X.w) X.A (pyIter v) (PIE X pins σ tg R) X.xe s1) X.xe s
theorem go_of {M : Model} {A : Around} {E : Value → Shared → Prop} {s : Shared} {tg : Expr} {it : Addr} {u : Value} {o : Obj} {n : String} {vs : Array Value} {Q : Unit → Shared → Prop} (ho : s.heap.get? it = some o) (hc : o.cls = .type n) (hd : o.data = .fields vs)
    (hn : ["enumerate", "zip", "dict_itemiterator", "dict_reverseitemiterator", "odict_iterator", "itertools.zip_longest", "itertools.pairwise"].contains n = false) (hQ : Q () s) : wpAny M A (letOwnedTupleGo tg (.ref it) u) Q E s := by
  unfold letOwnedTupleGo
  cases tg <;> first
    | exact wpAny_pure hQ
    | (cases u <;> first
        | exact wpAny_pure hQ
        | (refine wpAny_bind (wpAny_load ho ?_)
           rw [hc, hd]
           show wpAny M A (if (["enumerate", "zip", "dict_itemiterator", "dict_reverseitemiterator", "odict_iterator", "itertools.zip_longest", "itertools.pairwise"].contains n && vs[0]? == some (rawInt _)) = true then _ else _) Q E s
           rw [if_neg (by intro h; rw [hn, Bool.false_and] at h; cases h)]
           exact wpAny_pure hQ))
def Itl (K : PySem.W.Frag) (a : Addr) : It :=
 ⟨fun i H => ∃ xs x, SqL K H a xs ∧ xs[i]? = some x, fun i H x H' => H' = H ∧ ∀ xs, SqL K H a xs → xs[i]? = some x, fun i H => ∃ xs, SqL K H a xs ∧ xs.length ≤ i⟩
def Itt (K : PySem.W.Frag) (a : Addr) : It :=
 ⟨fun i H => ∃ xs x, SqT K H a xs ∧ xs[i]? = some x, fun i H x H' => H' = H ∧ ∀ xs, SqT K H a xs → xs[i]? = some x, fun i H => ∃ xs, SqT K H a xs ∧ xs.length ≤ i⟩
def Itr (lo : Int) (n : Nat) : It := ⟨fun i _ => i < n, fun i H x H' => H' = H ∧ x = .int (lo + i), fun i _ => n ≤ i⟩
theorem turn_list {P : Program} {w : World} {K : PySem.W.Frag} {tg : Expr} (a it : Addr) : Turn P w K tg (Itl K a) [it] it (fun i h => h.IsListIter it a i) where
 mem := by simp
 obj := fun i h st b hb => by
  have e : b = it := by simpa using hb
  subst e
  obtain ⟨o, e, c, d⟩ := st
  exact ⟨o, e, fun v z => by rw [d] at z; cases z⟩
 keep := fun i h h' st k => st.at fun o e => k it (by simp) o e
 item := by
  intro X hP hw hK hc i pins s σ H E I hf st hg
  subst hP hw hK
  obtain ⟨xs, x, hq, hx⟩ := hg
  obtain ⟨its, rv, p, hz⟩ := I.list hq
  obtain ⟨u, hu, ru⟩ := rv.get hx
  obtain ⟨f0, f1, f2, f3, f4, f5⟩ := hf it (by simp)
  refine wpAny_pyNext_list_item st p.isList (x := u) (by simpa using hu) fun h' st' sb => ?_
  have I1 : Inv X pins σ H { s with heap := h' } := I.turned (t' := s.toks) (fun b o hb e => (sb.2 b hb).trans e) f0 f1 f3 f4 f5
  obtain ⟨o, e, c, d⟩ := id st'
  exact ⟨u, rfl, go_of (s := { s with heap := h' }) e c d (by decide) ⟨x, H, I1, ru, ⟨rfl, fun ys hy => by rw [I.list_inj hy hq]; exact hx⟩, st', fun b hb => (hf b hb).1⟩⟩
 done := by
  intro X hP hw hK hc i pins s σ H E I hf st hg
  subst hP hw hK
  obtain ⟨xs, hq, hx⟩ := hg
  obtain ⟨its, rv, p, hz⟩ := I.list hq
  obtain ⟨f0, f1, f2, f3, f4, f5⟩ := hf it (by simp)
  have hl := rv.length
  exact wpAny_pyNext_list_end (I.ok.hd hc) st p.isList (by simp; omega) fun h' eb => ⟨rfl, I.turned (t' := s.toks) (fun b o hb e => eb b o hb e) f0 f1 f3 f4 f5⟩
 self := fun _ _ _ _ _ st h => wpAny_pyIter_listiter st h
theorem turn_tuple {P : Program} {w : World} {K : PySem.W.Frag} {tg : Expr} (a it : Addr) : Turn P w K tg (Itt K a) [it] it (fun i h => h.IsTupleIter it a i) where
 mem := by simp
 obj := fun i h st b hb => by
  have e : b = it := by simpa using hb
  subst e
  obtain ⟨o, e, c, d⟩ := st
  exact ⟨o, e, fun v z => by rw [d] at z; cases z⟩
 keep := fun i h h' st k => st.at fun o e => k it (by simp) o e
 item := by
  intro X hP hw hK hc i pins s σ H E I hf st hg
  subst hP hw hK
  obtain ⟨xs, x, hq, hx⟩ := hg
  obtain ⟨its, rv, p, hz⟩ := I.tuple hq
  obtain ⟨u, hu, ru⟩ := rv.get hx
  obtain ⟨f0, f1, f2, f3, f4, f5⟩ := hf it (by simp)
  refine wpAny_pyNext_tuple_item st (show s.heap.IsTuple a its.toArray from p) (x := u) (by simpa using hu) fun h' st' sb => ?_
  have I1 : Inv X pins σ H { s with heap := h' } := I.turned (t' := s.toks) (fun b o hb e => (sb.2 b hb).trans e) f0 f1 f3 f4 f5
  obtain ⟨o, e, c, d⟩ := id st'
  exact ⟨u, rfl, go_of (s := { s with heap := h' }) e c d (by decide) ⟨x, H, I1, ru, ⟨rfl, fun ys hy => by rw [I.tuple_inj hy hq]; exact hx⟩, st', fun b hb => (hf b hb).1⟩⟩
 done := by
  intro X hP hw hK hc i pins s σ H E I hf st hg
  subst hP hw hK
  obtain ⟨xs, hq, hx⟩ := hg
  obtain ⟨its, rv, p, hz⟩ := I.tuple hq
  obtain ⟨f0, f1, f2, f3, f4, f5⟩ := hf it (by simp)
  have hl := rv.length
  exact wpAny_pyNext_tuple_end (I.ok.hd hc) st (show s.heap.IsTuple a its.toArray from p) (by simp; omega) fun h' eb => ⟨rfl, I.turned (t' := s.toks) (fun b o hb e => eb b o hb e) f0 f1 f3 f4 f5⟩
 self := fun _ _ _ _ _ st h => wpAny_pyIter_tupleiter st h
theorem turn_range {P : Program} {w : World} {K : PySem.W.Frag} {tg : Expr} (it : Addr) (lo : Int) (n : Nat) : Turn P w K tg (Itr lo n) [it] it (fun i h => IsRangeIter h it (lo + (i : Nat) * 1) ((n : Int) - (i : Nat)) 1) where
 mem := by simp
 obj := fun i h st b hb => by
  have e : b = it := by simpa using hb
  subst e
  exact ⟨_, st, fun v z => by
   have z' : Data.fields _ = Data.cell v := z
   cases z'⟩
 keep := fun i h h' st k => k it (by simp) _ st
 item := by
  intro X hP hw hK hc i pins s σ H E I hf st hg
  subst hP hw hK
  obtain ⟨f0, f1, f2, f3, f4, f5⟩ := hf it (by simp)
  have W := Walks.range (prog := X.prog) (w := X.w) (I.ok.hd hc) it lo 1 n
  refine W.item i s _ _ hg st fun v h' tk hv st' kk => ?_
  obtain ⟨t, rfl⟩ := hv
  have I1 : Inv X pins σ H { s with heap := h', toks := tk } := I.turned (fun b o hb e => kk b o (by simpa using hb) e) f0 f1 f3 f4 f5
  refine ⟨_, rfl, go_of (s := { s with heap := h', toks := tk }) (n := "range_iterator") st' rfl rfl (by decide) ⟨.int (lo + i), H, I1, ⟨t, ?_⟩, ⟨rfl, rfl⟩, st', fun b hb => (hf b hb).1⟩⟩
  rw [Int.mul_one]
 done := by
  intro X hP hw hK hc i pins s σ H E I hf st hg
  subst hP hw hK
  obtain ⟨f0, f1, f2, f3, f4, f5⟩ := hf it (by simp)
  exact wpAny_pyNext_range_end (I.ok.hd hc) st (by have : n ≤ i := hg; omega) fun h' eb => ⟨rfl, I.turned (t' := s.toks) (fun b o hb e => eb b o hb e) f0 f1 f3 f4 f5⟩
 self := fun _ _ _ _ _ st h => wpAny_pyIter_rangeiter st h
end L2
namespace L2
open PySem PySem.Spec PyProof.Rows
section
variable {X : Cx} {tg : Expr}
def iList (K : PySem.W.Frag) (tl : TE) : TI := fun σ H R => tl σ H fun x H1 => ∃ a, x = .ref a ∧ (∃ xs, SqL K H1 a xs) ∧ R (Itl K a) H1
def iTup (K : PySem.W.Frag) (tl : TE) : TI := fun σ H R => tl σ H fun x H1 => ∃ a, x = .ref a ∧ (∃ xs, SqT K H1 a xs) ∧ R (Itt K a) H1
theorem pi_list {l : Expr} {tl : TE} (hl : PE X l tl) : PI X tg l (iList X.K tl) := by
 intro pins s σ H R I h
 refine thn (hl pins s σ H _ I h) fun v s1 ⟨x, H1, I1, r1, q1⟩ => ?_
 obtain ⟨a, e, ⟨xs, hq⟩, q⟩ := q1
 subst e
 cases r1
 obtain ⟨its, rv, p, hz⟩ := I1.list hq
 refine wpAny_pyIter_list p.isList ?_
 refine ⟨s1.heap.objs.size, [s1.heap.objs.size], _, _, H1, rfl, I1.kept (t' := s1.toks) fun b o e => Heap.get?_push_of_some _ e, turn_list a _, ⟨_, Heap.get?_push_size _ rfl, rfl, rfl⟩, fun b hb => ?_, q⟩
 have e : b = s1.heap.objs.size := by simpa using hb
 subst e
 exact I1.fpOk (Nat.le_refl _) (I1.hok.fresh (Nat.le_refl _))
theorem pi_tup {l : Expr} {tl : TE} (hl : PE X l tl) : PI X tg l (iTup X.K tl) := by
 intro pins s σ H R I h
 refine thn (hl pins s σ H _ I h) fun v s1 ⟨x, H1, I1, r1, q1⟩ => ?_
 obtain ⟨a, e, ⟨xs, hq⟩, q⟩ := q1
 subst e
 cases r1
 obtain ⟨its, rv, p, hz⟩ := I1.tuple hq
 refine wpAny_pyIter_tuple (show s1.heap.IsTuple a its.toArray from p) ?_
 refine ⟨s1.heap.objs.size, [s1.heap.objs.size], _, _, H1, rfl, I1.kept (t' := s1.toks) fun b o e => Heap.get?_push_of_some _ e, turn_tuple a _, ⟨_, Heap.get?_push_size _ rfl, rfl, rfl⟩, fun b hb => ?_, q⟩
 have e : b = s1.heap.objs.size := by simpa using hb
 subst e
 exact I1.fpOk (Nat.le_refl _) (I1.hok.fresh (Nat.le_refl _))
theorem range_it {pins : List (Addr × Obj)} {σ : St} {H : Hp} {s : Shared} {R : It → Hp → Prop} {E : Value → Shared → Prop} {lo hi : Int} {t u v : Tok} {tk : Nat} (I : Inv X pins σ H s) (h1 : -(2 ^ 62) ≤ lo) (h2 : lo < 2 ^ 62) (h3 : -(2 ^ 62) ≤ hi) (h4 : hi < 2 ^ 62)
  (q : R (Itr lo (hi - lo).toNat) H) : wpAny (model X.prog X.w) X.A (pyIter (.ref s.heap.objs.size)) (PIE X pins σ tg R) E { s with heap := s.heap.push { cls := .type "range", data := .fields #[.int lo t, .int hi u, .int 1 v] }, toks := tk } := by
 refine wpAny_pyIter_range (IsRange.new ..) (small_one h1 h2 h3 h4) ?_
 have I1 : Inv X pins σ H { s with heap := s.heap.push { cls := .type "range", data := .fields #[.int lo t, .int hi u, .int 1 v] }, toks := tk } := I.kept fun b o e => Heap.get?_push_of_some _ e
 refine ⟨(s.heap.push { cls := .type "range", data := .fields #[.int lo t, .int hi u, .int 1 v] }).objs.size, [(s.heap.push { cls := .type "range", data := .fields #[.int lo t, .int hi u, .int 1 v] }).objs.size], _, _, H, rfl,
  I1.kept (t' := tk) fun b o e => Heap.get?_push_of_some _ e, turn_range _ lo (hi - lo).toNat, ?_, fun b hb => ?_, q⟩
 ·have e1 : lo + ((0 : Nat) : Int) * 1 = lo := by simp
  have e2 : (((hi - lo).toNat : Nat) : Int) - ((0 : Nat) : Int) = Builtin.Range.rangeSize lo hi 1 := by rw [rangeSize_one]; split <;> omega
  show IsRangeIter _ _ (lo + ((0 : Nat) : Int) * 1) ((((hi - lo).toNat : Nat) : Int) - ((0 : Nat) : Int)) 1
  rw [e1, e2]
  exact Heap.get?_push_size _ rfl
 ·have e : b = (s.heap.push { cls := .type "range", data := .fields #[.int lo t, .int hi u, .int 1 v] }).objs.size := by simpa using hb
  subst e
  exact I1.fpOk (Nat.le_refl _) (I1.hok.fresh (Nat.le_refl _))
def iRng1 (ta : TA) : TI := fun σ H R => ta σ H fun vs H1 => ∃ j : Int, vs = [.int j] ∧ -(2 ^ 62) ≤ j ∧ j < 2 ^ 62 ∧ R (Itr 0 j.toNat) H1
theorem pi_range1 {a : Expr} {ta : TA} {p pos : Pos} (hg : Gl X "range") (hm : X.mg "range" = none) (ha : PA X [a] ta) (hs : starEach [a] X.env = [(false, eval a X.env)] := by rfl) : PI X tg (.Call (.Name "range" p) [a] [] pos) (iRng1 ta) := by
  intro pins s σ H R I h
  refine Call_ (ld_blt I hg hm boot_range (PyProof.Rows.callWith_type1 (thn (ha pos pins s σ H _ I h) fun us s1 ⟨vs, H1, I1, r1, q1⟩ => ?_) hs rfl))
  obtain ⟨j, e, q1, q2, q⟩ := q1
  subst e
  cases r1 with
  | cons r rr =>
    cases rr
    obtain ⟨t, rfl⟩ := r
    exact call_range_1 (range_it I1 (by omega) (by omega) q1 q2 (by simpa using q))
def tFor (wi : TI) (g : TG) (tb : TS) : TS := fun D σ H => wi σ H fun J H1 => ∃ W : Nat → Nat → St → Hp → Prop, (∃ m, W 0 m σ H1) ∧ ∀ i m σ H, W i m σ H →
 (J.stop i H ∧ D.nx σ H) ∨ (J.go i H ∧ ∃ N : St → Hp → Prop, (∀ σ' H', N σ' H' → ∃ m', m' < m ∧ W (i + 1) m' σ' H') ∧ ∀ x H', J.yld i H x H' → g x σ H' fun σ2 H2 => tb { D with nx := N, ct := N, bk := D.nx } σ2 H2)
def pinsAt (fp : List Addr) (h : Heap) : List (Addr × Obj) := fp.filterMap fun b => (h.get? b).map fun o => (b, o)
theorem mem_pinsAt {fp : List Addr} {h : Heap} {b : Addr} {o : Obj} (hb : b ∈ fp) (e : h.get? b = some o) : (b, o) ∈ pinsAt fp h := List.mem_filterMap.mpr ⟨b, hb, by rw [e]; rfl⟩
theorem of_pinsAt {fp : List Addr} {h : Heap} {p : Addr × Obj} (hp : p ∈ pinsAt fp h) : p.1 ∈ fp ∧ h.get? p.1 = some p.2 := by
  obtain ⟨b, hb, e⟩ := List.mem_filterMap.mp hp
  cases q : h.get? b with
  | none => rw [q] at e; cases e
  | some o =>
    rw [q] at e
    have e' : (b, o) = p := Option.some.inj e
    subst e'
    exact ⟨hb, q⟩
theorem Inv.pinned {pins : List (Addr × Obj)} {σ : St} {H : Hp} {s : Shared} {fp : List Addr} (I : Inv X pins σ H s) (hf : ∀ b ∈ fp, FpOk X pins H b) (ho : ∀ b ∈ fp, ∃ o, s.heap.get? b = some o ∧ ∀ v, o.data ≠ .cell v) : Inv X (pins ++ pinsAt fp s.heap) σ H s :=
 I.pins_of fun p hp => (List.mem_append.mp hp).elim (fun z => I.pin p (List.mem_append_right _ z)) fun z => by
  obtain ⟨hb, e⟩ := of_pinsAt z
  obtain ⟨f0, f1, f2, _⟩ := hf p.1 hb
  obtain ⟨o, e', d⟩ := ho p.1 hb
  rw [e] at e'; cases e'
  exact ⟨e, f0, f1, f2, d⟩
theorem Inv.unpinned {pins pl : List (Addr × Obj)} {σ : St} {H : Hp} {s : Shared} (I : Inv X (pins ++ pl) σ H s) : Inv X pins σ H s := I.pins_of fun p hp => I.pin p (List.mem_append_right _ (List.mem_append_left _ hp))
theorem ps_for {iter : Expr} {body : List Stmt} {wi : TI} {g : TG} {tb : TS} {pos : Pos} (hp : PassesOwn (model X.prog X.w) X.A X.env X.xe) (hc : X.calm = true) (hi : PI X tg iter wi) (hg : PG X tg g) (hb : PSs X body tb)
  (hs : ∀ x, foldedSetIterable iter X.env x = pure x := by intro _; rfl) : PS X (.For tg iter body [] pos) (tFor wi g tb) := by
 intro pins s σ H D I h
 refine wpAny_For (thn (hi pins s σ H _ I h) fun v s1 h1 => thn h1 fun itv s2 h2 => ?_) hs
 obtain ⟨it, fp, tn, J, H2, e, I2, T, st2, f2, W, ⟨m0, w0⟩, turn⟩ := h2
 subst e
 -- what stays true of the iterator's objects through the loop
 have stat : ∀ {H' : Hp}, (∀ b ∈ fp, H' b = none) → ∀ b ∈ fp, FpOk X pins H' b := fun hn b hb => ⟨hn b hb, (f2 b hb).2⟩
 refine codeAny_forLoop_any (fun n s' => ∃ i σ' H', Inv X pins σ' H' s' ∧ tn i s'.heap ∧ (∀ b ∈ fp, H' b = none) ∧ W i n σ' H') ?_ m0 ⟨0, σ, H2, I2, st2, fun b hb => (f2 b hb).1, w0⟩
 rintro n s3 ⟨i, σ3, H3, I3, st3, fr3, w3⟩
 rcases turn i n σ3 H3 w3 with ⟨stop, qn⟩ | ⟨go, N, hN, step⟩
 ·refine wpAny_passesOwn hp (thn (T.done X rfl rfl rfl hc i pins s3 σ3 H3 X.xe I3 (stat fr3) st3 stop) fun r s4 ⟨hr, I4⟩ => ?_)
  subst hr
  exact wpAny_execs_nil ⟨σ3, H3, I4, qn⟩
 ·refine wpAny_passesOwn hp (thn (T.item X rfl rfl rfl hc i pins s3 σ3 H3 X.xe I3 (stat fr3) st3 go) fun r s4 ⟨u, hr, h4⟩ => ?_)
  subst hr
  refine wpAny_passesOwn hp (thn h4 fun _ s5 ⟨x, H5, I5, r5, y5, st5, fr5⟩ => ?_)
  have I5' := I5.pinned (stat fr5) (T.obj _ _ st5)
  refine wpAny_passesOwn hp (thn (hg _ s5 σ3 H5 x u _ I5' r5 (step x H5 y5)) fun _ s6 ⟨σ6, H6, I6, q6⟩ => ?_)
  refine wpAny_passesOwn hp (thn (hb _ s6 σ6 H6 _ I6 q6) fun f s7 q7 => ?_)
  have again : ∀ {σ7 : St} {H7 : Hp}, Inv X (pins ++ pinsAt fp s5.heap) σ7 H7 s7 → N σ7 H7 → ∃ m, m < n ∧ ∃ i σ' H', Inv X pins σ' H' s7 ∧ tn i s7.heap ∧ (∀ b ∈ fp, H' b = none) ∧ W i m σ' H' := fun {σ7 H7} I7 n7 => by
   obtain ⟨m', hm, w7⟩ := hN σ7 H7 n7
   refine ⟨m', hm, i + 1, σ7, H7, I7.unpinned, T.keep _ _ _ st5 fun b hb o e => (I7.pin (b, o) (List.mem_append_right _ (List.mem_append_right _ (mem_pinsAt hb e)))).1, fun b hb => ?_, w7⟩
   obtain ⟨o, e, d⟩ := T.obj _ _ st5 b hb
   exact (I7.pin (b, o) (List.mem_append_right _ (List.mem_append_right _ (mem_pinsAt hb e)))).2.1
  cases f with
  | next => obtain ⟨σ7, H7, I7, n7⟩ := q7; exact again I7 n7
  | cont => obtain ⟨σ7, H7, I7, n7⟩ := q7; exact again I7 n7
  | brk => obtain ⟨σ7, H7, I7, q7⟩ := q7; exact ⟨σ7, H7, I7.unpinned, q7⟩
  | ret v => obtain ⟨x7, σ7, H7, I7, r7, q7⟩ := q7; exact ⟨x7, σ7, H7, I7.unpinned, r7, q7⟩
end
theorem while_by {c : TT} {tb : TS} {D : Ends} {σ : St} {H : Hp} (Pv : St → Hp → Prop) (μ : St → Hp → Nat) (h0 : Pv σ H)
  (hs : ∀ σ H, Pv σ H → c σ H fun b H1 => if b = true then tb { D with nx := fun σ' H' => Pv σ' H' ∧ μ σ' H' < μ σ H, ct := fun σ' H' => Pv σ' H' ∧ μ σ' H' < μ σ H, bk := D.nx } σ H1 else D.nx σ H1)
  (mono : ∀ σ H Q Q', (∀ b H1, Q b H1 → Q' b H1) → c σ H Q → c σ H Q') : tWhile c tb D σ H := by
 refine ⟨fun m σ H => m = μ σ H ∧ Pv σ H, ⟨_, rfl, h0⟩, ?_⟩
 rintro m σ H ⟨rfl, p⟩
 refine mono σ H _ _ (fun b H1 q => ?_) (hs σ H p)
 cases b with
 | true => exact ⟨_, fun σ' H' ⟨p', l⟩ => ⟨_, l, rfl, p'⟩, q⟩
 | false => exact q
end L2
namespace L2
open PySem PySem.Spec PyProof.Rows
abbrev R2 := V → V → Hp → VK → Prop
def OpR (X : Cx) (f : Value → Value → Sem Value) (r : R2) : Prop :=
 ∀ (pins : List (Addr × Obj)) (s : Shared) (σ : St) (H : Hp) (x y : V) (v u : Value) (Q : VK), Inv X pins σ H s → RelV x v → RelV y u → r x y H Q →
  wpAny (model X.prog X.w) X.A (f v u) (EP X pins σ Q) X.xe s
def UnR (X : Cx) (f : Value → Sem Value) (r : V → Hp → VK → Prop) : Prop :=
 ∀ (pins : List (Addr × Obj)) (s : Shared) (σ : St) (H : Hp) (x : V) (v : Value) (Q : VK), Inv X pins σ H s → RelV x v → r x H Q →
  wpAny (model X.prog X.w) X.A (f v) (EP X pins σ Q) X.xe s
def CallR (X : Cx) (f : Value) (r : List V → Hp → VK → Prop) : Prop :=
 ∀ (pins : List (Addr × Obj)) (s : Shared) (σ : St) (H : Hp) (xs : List V) (us : List Value) (Q : VK), Inv X pins σ H s → Vals xs us → r xs H Q →
  wpAny (model X.prog X.w) X.A (call f us) (EP X pins σ Q) X.xe s
def TruR (X : Cx) (r : V → Hp → (Bool → Hp → Prop) → Prop) : Prop :=
 ∀ (pins : List (Addr × Obj)) (s : Shared) (σ : St) (H : Hp) (x : V) (v : Value) (Q : Bool → Hp → Prop), Inv X pins σ H s → RelV x v → r x H Q →
  wpAny (model X.prog X.w) X.A (truthy v) (TP X pins σ Q) X.xe s
def tOp (r : R2) (ta tb : TE) : TE := fun σ H Q => ta σ H fun x H1 => tb σ H1 fun y H2 => r x y H2 Q
def tUn (r : V → Hp → VK → Prop) (ta : TE) : TE := fun σ H Q => ta σ H fun x H1 => r x H1 Q
def rI (C : Int → Int → Prop) (g : Int → Int → V) : R2 := fun x y H Q => ∃ i j, x = .int i ∧ y = .int j ∧ C i j ∧ Q (g i j) H
def rI0 (g : Int → Int → V) : R2 := fun x y H Q => ∃ i j, x = .int i ∧ y = .int j ∧ Q (g i j) H
def rU (g : Int → V) : V → Hp → VK → Prop := fun x H Q => ∃ i, x = .int i ∧ Q (g i) H
section
variable {X : Cx} {a b c : Expr} {ta tb tc : TE} {pos : Pos}
theorem binT (ha : PE X a ta) (hb : PE X b tb) {pins : List (Addr × Obj)} {s : Shared} {σ : St} {H : Hp} {R : V → V → Hp → Prop} (I : Inv X pins σ H s)
  (h : ta σ H fun x H1 => tb σ H1 fun y H2 => R x y H2) {Q : Value → Shared → Prop} {f : Value → Value → Sem Value}
  (hf : ∀ v u s2 x y H2, Inv X pins σ H2 s2 → RelV x v → RelV y u → R x y H2 → wpAny (model X.prog X.w) X.A (f v u) Q X.xe s2) :
  wpAny (model X.prog X.w) X.A (eval a X.env) (fun v s₁ => wpAny (model X.prog X.w) X.A (eval b X.env) (fun u s₂ => wpAny (model X.prog X.w) X.A (f v u) Q X.xe s₂) X.xe s₁) X.xe s := by
 refine thn (ha pins s σ H _ I h) fun v s1 ⟨x, H1, I1, r1, q1⟩ => ?_
 refine thn (hb pins s1 σ H1 _ I1 q1) fun u s2 ⟨y, H2, I2, r2, q2⟩ => ?_
 exact hf v u s2 x y H2 I2 r1 r2 q2
theorem pe_op {op : Operator} {r : R2} (ho : OpR X (binaryOp op) r) (ha : PE X a ta) (hb : PE X b tb) : PE X (.BinOp a op b pos) (tOp r ta tb) := by
 intro pins s σ H Q I h
 exact wpAny_BinOp (binT ha hb I h fun v u s2 x y H2 I2 rx ry q => ho pins s2 σ H2 x y v u Q I2 rx ry q)
theorem pe_un {op : UnaryOp} {r : V → Hp → VK → Prop} (ho : UnR X (unaryOp op) r) (ha : PE X a ta) : PE X (.UnaryOp op a pos) (tUn r ta) := by
 intro pins s σ H Q I h
 exact UnaryOp_ (thn (ha pins s σ H _ I h) fun v s1 ⟨x, H1, I1, r1, q1⟩ => ho pins s1 σ H1 x v Q I1 r1 q1)
theorem opI {f : Value → Value → Sem Value} {C : Int → Int → Prop} {g : Int → Int → Int}
  (rule : ∀ (i j : Int) (t u : Tok) (s : Shared) (Q : Value → Shared → Prop) (E : Value → Shared → Prop), C i j → Q (.int (g i j) s.toks) { s with toks := s.toks + 1 } → wpAny (model X.prog X.w) X.A (f (.int i t) (.int j u)) Q E s) :
  OpR X f (rI C fun i j => .int (g i j)) := by
 intro pins s σ H x y v u Q I rx ry h
 obtain ⟨i, j, rfl, rfl, hc, q⟩ := h
 obtain ⟨t, rfl⟩ := rx
 obtain ⟨t', rfl⟩ := ry
 exact rule i j t t' s _ _ hc ⟨.int (g i j), H, I.tok _, ⟨_, rfl⟩, q⟩
theorem opI0 {f : Value → Value → Sem Value} {g : Int → Int → Int}
  (rule : ∀ (i j : Int) (t u : Tok) (s : Shared) (Q : Value → Shared → Prop) (E : Value → Shared → Prop), Q (.int (g i j) s.toks) { s with toks := s.toks + 1 } → wpAny (model X.prog X.w) X.A (f (.int i t) (.int j u)) Q E s) :
  OpR X f (rI0 fun i j => .int (g i j)) := by
 intro pins s σ H x y v u Q I rx ry h
 obtain ⟨i, j, rfl, rfl, q⟩ := h
 obtain ⟨t, rfl⟩ := rx
 obtain ⟨t', rfl⟩ := ry
 exact rule i j t t' s _ _ ⟨.int (g i j), H, I.tok _, ⟨_, rfl⟩, q⟩
theorem opB0 {f : Value → Value → Sem Value} {g : Int → Int → Bool}
  (rule : ∀ (i j : Int) (t u : Tok) (s : Shared) (Q : Value → Shared → Prop) (E : Value → Shared → Prop), Q (.bool (g i j)) s → wpAny (model X.prog X.w) X.A (f (.int i t) (.int j u)) Q E s) :
  OpR X f (rI0 fun i j => .bl (g i j)) := by
 intro pins s σ H x y v u Q I rx ry h
 obtain ⟨i, j, rfl, rfl, q⟩ := h
 obtain ⟨t, rfl⟩ := rx
 obtain ⟨t', rfl⟩ := ry
 exact rule i j t t' s _ _ ⟨.bl (g i j), H, I, rfl, q⟩
def CDiv (i j : Int) : Prop := 0 < j ∧ j < 1073741824
def CPow (i j : Int) : Prop := 0 ≤ j ∧ j ≤ 1000000 ∧ i.natAbs < 2 ^ 64
def CMul (i j : Int) : Prop := (-(2 ^ 64) < i ∧ i < 2 ^ 64) ∨ (-(2 ^ 64) < j ∧ j < 2 ^ 64)
theorem CMul.ok {i j : Int} (h : CMul i j) : IntMulOk i j := by
 rcases h with ⟨h1, h2⟩ | ⟨h1, h2⟩
 ·exact .of_left (intBits_le_64 h1 h2)
 ·exact .of_right (intBits_le_64 h1 h2)
theorem op_add : OpR X (binaryOp .Add) (rI0 fun i j => .int (i + j)) := opI0 fun _ _ _ _ _ _ _ q => add_int q
theorem op_sub : OpR X (binaryOp .Sub) (rI0 fun i j => .int (i - j)) := opI0 fun _ _ _ _ _ _ _ q => sub_int q
theorem op_fdiv : OpR X (binaryOp .FloorDiv) (rI CDiv fun i j => .int (i / j)) := opI fun i j _ _ _ _ _ hc q => by
 have h1 : (0 : Int) < j := hc.1
 have h2 : j < 1073741824 := hc.2
 exact floordiv_int (by omega) (by rw [Int.fdiv_eq_ediv_of_nonneg i (by omega)]; exact q) (.inl (PyProof.noPylong_small (by omega)))
theorem op_mod : OpR X (binaryOp .Mod) (rI (fun _ j => 0 < j) fun i j => .int (i % j)) := opI fun i j _ _ _ _ _ hc q => by
 have h1 : (0 : Int) < j := hc
 exact mod_int' (by omega) (by rw [Int.fmod_eq_emod_of_nonneg i (by omega)]; exact q)
theorem op_pow : OpR X (binaryOp .Pow) (rI CPow fun i j => .int (i ^ j.toNat)) := opI fun _ _ _ _ _ _ _ hc q => pow_int_small hc.1 hc.2.1 hc.2.2 q
theorem unI {f : Value → Sem Value} {g : Int → Int}
  (rule : ∀ (i : Int) (t : Tok) (s : Shared) (Q : Value → Shared → Prop) (E : Value → Shared → Prop), Q (.int (g i) s.toks) { s with toks := s.toks + 1 } → wpAny (model X.prog X.w) X.A (f (.int i t)) Q E s) :
  UnR X f (rU fun i => .int (g i)) := by
 intro pins s σ H x v Q I rx h
 obtain ⟨i, rfl, q⟩ := h
 obtain ⟨t, rfl⟩ := rx
 exact rule i t s _ _ ⟨.int (g i), H, I.tok _, ⟨_, rfl⟩, q⟩
theorem un_neg : UnR X (unaryOp .USub) (rU fun i => .int (-i)) := unI fun _ _ _ _ _ q => neg_int q
end
def scal : V → V → Bool
 | .non, .non => true | .non, .int _ => true | .int _, .non => true | .non, .bl _ => true | .bl _, .non => true | .non, .str _ => true | .str _, .non => true
 | .int _, .int _ => true | .bl _, .bl _ => true | .str _, .str _ => true | .byt _, .byt _ => true
 | .int _, .str _ => true | .str _, .int _ => true | .bl _, .str _ => true | .str _, .bl _ => true
 | _, _ => false
def rEq : R2 := fun x y H Q => scal x y = true ∧ Q (.bl (decide (x = y))) H
def rNe : R2 := fun x y H Q => scal x y = true ∧ Q (.bl (!decide (x = y))) H
theorem dec_int {i j : Int} : decide (V.int i = V.int j) = (i == j) := by
 rw [Bool.eq_iff_iff]
 simp
theorem dec_bl {i j : Bool} : decide (V.bl i = V.bl j) = (i == j) := by
 rw [Bool.eq_iff_iff]
 simp
theorem dec_str {i j : Str} : decide (V.str i = V.str j) = (i == j) := by
 rw [Bool.eq_iff_iff]
 simp
theorem dec_byt {i j : Array UInt8} : decide (V.byt i = V.byt j) = (i.toList == j.toList) := by
 rw [Bool.eq_iff_iff]
 cases i
 cases j
 simp
section
variable {X : Cx} {a b c : Expr} {ta tb tc : TE} {pos : Pos}
theorem fin_bl {pins : List (Addr × Obj)} {σ : St} {H : Hp} {s : Shared} {Q : VK} {k k' : Bool} (I : Inv X pins σ H s) (q : Q (.bl k) H) (e : k = k') : EP X pins σ Q (.bool k') s := by
 subst e
 exact ⟨.bl k, H, I, rfl, q⟩
theorem op_eq : OpR X (compareOp .Eq) rEq := by
  intro pins s σ H x y v u Q I rx ry h
  obtain ⟨hs, q⟩ := h
  cases x with
  | non =>
    cases rx
    cases y with
    | non => cases ry; exact PySem.EqNone.eq_none_none (fin_bl I q (by simp))
    | bl j => cases ry; exact PySem.EqNone.eq_none_bool (fin_bl I q (by simp))
    | int j => obtain ⟨t', rfl⟩ := ry; exact PySem.EqNone.eq_none_int (fin_bl I q (by simp))
    | str j => obtain ⟨t', rfl⟩ := ry; exact PySem.EqNone.eq_none_str (fin_bl I q (by simp))
    | _ => exact absurd (show false = true from hs) Bool.false_ne_true
  | bl i =>
    cases rx
    cases y with
    | non => cases ry; exact PySem.EqNone.eq_bool_none (fin_bl I q (by simp))
    | bl j => cases ry; exact eq_bool (fin_bl I q dec_bl)
    | str j => obtain ⟨t', rfl⟩ := ry; exact PySem.EqMixed.eq_bool_str (fin_bl I q (by simp))
    | _ => exact absurd (show false = true from hs) Bool.false_ne_true
  | int i =>
    obtain ⟨t, rfl⟩ := rx
    cases y with
    | non => cases ry; exact PySem.EqNone.eq_int_none (fin_bl I q (by simp))
    | int j => obtain ⟨t', rfl⟩ := ry; exact eq_int (fin_bl I q dec_int)
    | str j => obtain ⟨t', rfl⟩ := ry; exact PySem.EqMixed.eq_int_str (fin_bl I q (by simp))
    | _ => exact absurd (show false = true from hs) Bool.false_ne_true
  | str i =>
    obtain ⟨t, rfl⟩ := rx
    cases y with
    | non => cases ry; exact PySem.EqNone.eq_str_none (fin_bl I q (by simp))
    | bl j => cases ry; exact PySem.EqMixed.eq_str_bool (fin_bl I q (by simp))
    | int j => obtain ⟨t', rfl⟩ := ry; exact PySem.EqMixed.eq_str_int (fin_bl I q (by simp))
    | str j => obtain ⟨t', rfl⟩ := ry; exact eq_str (fin_bl I q dec_str)
    | _ => exact absurd (show false = true from hs) Bool.false_ne_true
  | byt i =>
    obtain ⟨t, rfl⟩ := rx
    cases y with
    | byt j => obtain ⟨t', rfl⟩ := ry; exact PySem.W.eq_bytes (fin_bl I q dec_byt)
    | _ => exact absurd (show false = true from hs) Bool.false_ne_true
  | _ => cases y <;> exact absurd (show false = true from hs) Bool.false_ne_true
theorem op_ne : OpR X (compareOp .NotEq) rNe := by
  intro pins s σ H x y v u Q I rx ry h
  obtain ⟨hs, q⟩ := h
  cases x with
  | non =>
    cases rx
    cases y with
    | non => cases ry; exact PySem.EqNone.ne_none_none (fin_bl I q (by simp))
    | bl j => cases ry; exact PySem.EqNone.ne_none_bool (fin_bl I q (by simp))
    | int j => obtain ⟨t', rfl⟩ := ry; exact PySem.EqNone.ne_none_int (fin_bl I q (by simp))
    | str j => obtain ⟨t', rfl⟩ := ry; exact PySem.EqNone.ne_none_str (fin_bl I q (by simp))
    | _ => exact absurd (show false = true from hs) Bool.false_ne_true
  | bl i =>
    cases rx
    cases y with
    | non => cases ry; exact PySem.EqNone.ne_bool_none (fin_bl I q (by simp))
    | bl j => cases ry; exact ne_bool (fin_bl I q (congrArg not dec_bl))
    | str j => obtain ⟨t', rfl⟩ := ry; exact PySem.EqMixed.ne_bool_str (fin_bl I q (by simp))
    | _ => exact absurd (show false = true from hs) Bool.false_ne_true
  | int i =>
    obtain ⟨t, rfl⟩ := rx
    cases y with
    | non => cases ry; exact PySem.EqNone.ne_int_none (fin_bl I q (by simp))
    | int j => obtain ⟨t', rfl⟩ := ry; exact ne_int (fin_bl I q (congrArg not dec_int))
    | str j => obtain ⟨t', rfl⟩ := ry; exact PySem.EqMixed.ne_int_str (fin_bl I q (by simp))
    | _ => exact absurd (show false = true from hs) Bool.false_ne_true
  | str i =>
    obtain ⟨t, rfl⟩ := rx
    cases y with
    | non => cases ry; exact PySem.EqNone.ne_str_none (fin_bl I q (by simp))
    | bl j => cases ry; exact PySem.EqMixed.ne_str_bool (fin_bl I q (by simp))
    | int j => obtain ⟨t', rfl⟩ := ry; exact PySem.EqMixed.ne_str_int (fin_bl I q (by simp))
    | str j => obtain ⟨t', rfl⟩ := ry; exact ne_str (fin_bl I q (congrArg not dec_str))
    | _ => exact absurd (show false = true from hs) Bool.false_ne_true
  | byt i =>
    obtain ⟨t, rfl⟩ := rx
    cases y with
    | byt j => obtain ⟨t', rfl⟩ := ry; exact PySem.W.ne_bytes (fin_bl I q (congrArg not dec_byt))
    | _ => exact absurd (show false = true from hs) Bool.false_ne_true
  | _ => cases y <;> exact absurd (show false = true from hs) Bool.false_ne_true
theorem op_lt : OpR X (compareOp .Lt) (rI0 fun i j => .bl (decide (i < j))) := opB0 fun _ _ _ _ _ _ _ q => lt_int q
theorem op_le : OpR X (compareOp .LtE) (rI0 fun i j => .bl (decide (i ≤ j))) := opB0 fun _ _ _ _ _ _ _ q => le_int q
theorem op_gt : OpR X (compareOp .Gt) (rI0 fun i j => .bl (decide (j < i))) := opB0 fun _ _ _ _ _ _ _ q => gt_int q
theorem op_ge : OpR X (compareOp .GtE) (rI0 fun i j => .bl (decide (j ≤ i))) := opB0 fun _ _ _ _ _ _ _ q => ge_int q
theorem op_in_str : OpR X (compareOp .In) (fun x y H Q => ∃ i j, x = .str i ∧ y = .str j ∧ Q (.bl (!(Builtin.Str.occurrences j i 0 j.length 1).isEmpty)) H) := by
 intro pins s σ H x y v u Q I rx ry h
 obtain ⟨i, j, rfl, rfl, q⟩ := h
 obtain ⟨t, rfl⟩ := rx
 obtain ⟨t', rfl⟩ := ry
 exact in_str (fin_bl I q rfl)
theorem op_isN : OpR X (compareOp .Is) (fun x y H Q => y = .non ∧ Q (.bl (decide (x = .non))) H) := by
 intro pins s σ H x y v u Q I rx ry h
 obtain ⟨rfl, q⟩ := h
 cases ry
 refine is_none_gen (fin_bl I q ?_)
 cases x <;> first
  | (cases rx; rfl)
  | (obtain ⟨t, rfl⟩ := rx; rfl)
theorem op_notN : OpR X (compareOp .IsNot) (fun x y H Q => y = .non ∧ Q (.bl (!decide (x = .non))) H) := by
 intro pins s σ H x y v u Q I rx ry h
 obtain ⟨rfl, q⟩ := h
 cases ry
 refine isnot_none_gen (fin_bl I q ?_)
 cases x <;> first
  | (cases rx; rfl)
  | (obtain ⟨t, rfl⟩ := rx; rfl)
theorem op_notin_str : OpR X (compareOp .NotIn) (fun x y H Q => ∃ i j, x = .str i ∧ y = .str j ∧ Q (.bl (!(!(Builtin.Str.occurrences j i 0 j.length 1).isEmpty))) H) := by
 intro pins s σ H x y v u Q I rx ry h
 obtain ⟨i, j, rfl, rfl, q⟩ := h
 obtain ⟨t, rfl⟩ := rx
 obtain ⟨t', rfl⟩ := ry
 exact notIn_str (fin_bl I q rfl)
theorem OpR.or {f : Value → Value → Sem Value} {r r' : R2} (h : OpR X f r) (h' : OpR X f r') : OpR X f (fun x y H Q => r x y H Q ∨ r' x y H Q) := by
 intro pins s σ H x y v u Q I rx ry q
 rcases q with q | q
 ·exact h pins s σ H x y v u Q I rx ry q
 ·exact h' pins s σ H x y v u Q I rx ry q
def tTest (t : TE) : TT := fun σ H Q => t σ H fun x H' => ∃ k, x = .bl k ∧ Q k H'
theorem pt_cmpR {op : CmpOp} {r : R2} (ho : OpR X (compareOp op) r) (ha : PE X a ta) (hb : PE X b tb) (hm : behindInMarks op b = false) : PT X (.Compare a [op] [b] pos) (tTest (tOp r ta tb)) := by
 intro pins s σ H Q I h
 refine wpAny_isTrue_Compare1 (thn (ha pins s σ H _ I h) fun v s1 ⟨x, H1, I1, r1, q1⟩ => thn (hb pins s1 σ H1 _ I1 q1) fun u s2 ⟨y, H2, I2, r2, q2⟩ =>
  thn (ho pins s2 σ H2 x y v u _ I2 r1 r2 q2) fun c s3 ⟨z, H3, I3, r3, k, e, q3⟩ => ?_) hm
 subst e
 cases r3
 exact wpAny_truthy_bool ⟨H3, I3, q3⟩
def TruV (K : PySem.W.Frag) (x : V) (H : Hp) (k : Bool) : Prop :=
 match x with
 | .non => k = false
 | .bl b => k = b
 | .int i => k = (i != 0)
 | .str y => y.length ≤ sizeLine ∧ k = ((y.length : Int) != 0)
 | .byt y => y.size ≤ sizeLine ∧ k = ((y.size : Int) != 0)
 | .ref p => (∃ xs, SqL K H p xs ∧ k = !xs.isEmpty) ∨ (∃ xs, SqT K H p xs ∧ k = !xs.isEmpty) ∨ ∃ kvs, H p = some (.dK kvs) ∧ k = !kvs.isEmpty
 | _ => False
theorem isEmpty_kv {κ : Type} {kvs : List (κ × V)} {vs : List (κ × Value)} (r : KV kvs vs) : (!vs.isEmpty) = !kvs.isEmpty := by
 cases r <;> rfl
theorem isEmpty_of {xs : List V} {its : List Value} (r : Vals xs its) : (!its.toArray.isEmpty) = !xs.isEmpty := by
 cases r <;> simp
theorem line63 : (sizeLine : Nat) < 2 ^ 63 := by rw [sizeLine_eq]; decide
theorem tru_ok : TruR X (fun x H Q => ∃ k, TruV X.K x H k ∧ Q k H) := by
  intro pins s σ H x v Q I rx h
  obtain ⟨k, e, q⟩ := h
  have hl := line63
  have hs : sizeLine = 16777216 := sizeLine_eq
  cases x with
  | non =>
    cases rx
    have e' : k = false := e
    subst e'
    exact truthy_none ⟨H, I, q⟩
  | bl b =>
    cases rx
    have e' : k = b := e
    subst e'
    exact wpAny_truthy_bool ⟨H, I, q⟩
  | int i =>
    obtain ⟨t, rfl⟩ := rx
    have e' : k = (i != 0) := e
    subst e'
    exact PySem.P.truthy_int ⟨H, I, q⟩
  | str y =>
    obtain ⟨t, rfl⟩ := rx
    obtain ⟨hy, e'⟩ : y.length ≤ sizeLine ∧ k = ((y.length : Int) != 0) := e
    subst e'
    exact PySem.P.truthy_str (by omega) ⟨H, I.tok _, q⟩
  | byt y =>
    obtain ⟨t, rfl⟩ := rx
    obtain ⟨hy, e'⟩ : y.size ≤ sizeLine ∧ k = ((y.size : Int) != 0) := e
    subst e'
    exact PySem.W.truthy_bytes (by omega) ⟨H, I.tok _, q⟩
  | ref p =>
    cases rx
    have e' : (∃ xs, SqL X.K H p xs ∧ k = !xs.isEmpty) ∨ (∃ xs, SqT X.K H p xs ∧ k = !xs.isEmpty) ∨ ∃ kvs, H p = some (.dK kvs) ∧ k = !kvs.isEmpty := e
    rcases e' with ⟨xs, hx, e'⟩ | ⟨xs, hx, e'⟩ | ⟨kvs, hx, e'⟩
    · subst e'
      obtain ⟨its, r, pl, hz⟩ := I.list hx
      have hlen := r.length
      exact wpAny_truthy_list pl.isList (by simp only [List.size_toArray]; omega) ⟨H, I.tok _, by rw [isEmpty_of r]; exact q⟩
    · subst e'
      obtain ⟨its, r, pl, hz⟩ := I.tuple hx
      have hlen := r.length
      exact truthy_tuple pl (by simp only [List.size_toArray]; omega) ⟨H, I.tok _, by rw [isEmpty_of r]; exact q⟩
    · subst e'
      obtain ⟨hz, hS, vs, r, m⟩ : kvs.length ≤ sizeLine ∧ (p == sysModules) = false ∧ ∃ vs, KV kvs vs ∧ s.heap.DictOf (mixKind X.prog X.w) p vs := I.hok p _ hx
      have hlen : kvs.length = vs.length := Paired.length r
      exact wpAny_truthy_dict hS m (by omega) ⟨H, I.tok _, by rw [isEmpty_kv r]; exact q⟩
  | _ => exact (show False from e).elim
theorem pt_truth (ha : PE X a ta) (he : ∀ whole, isTrue a X.env whole = (do let v ← whole; standAt a.pos; holding [v] (truthy v))) :
  PT X a (fun σ H Q => ta σ H fun x H' => ∃ k, TruV X.K x H' k ∧ Q k H') := by
 intro pins s σ H Q I h
 exact isTrue_plain (thn (ha pins s σ H _ I h) fun v s1 ⟨x, H1, I1, r1, q1⟩ => tru_ok pins s1 σ H1 x v Q I1 r1 q1) (he _)
theorem op_add_str : OpR X (binaryOp .Add) (fun x y H Q => ∃ i j, x = .str i ∧ y = .str j ∧ i.length + j.length ≤ sizeLine ∧ Q (.str (i ++ j)) H) := by
 intro pins s σ H x y v u Q I rx ry h
 obtain ⟨i, j, rfl, rfl, hz, q⟩ := h
 obtain ⟨t, rfl⟩ := rx
 obtain ⟨t', rfl⟩ := ry
 exact add_str (fun t' tk => ⟨.str (i ++ j), H, I.tok _, ⟨_, rfl⟩, q⟩) hz
theorem vals1 {x : V} {us : List Value} (r : Vals [x] us) : ∃ u, us = [u] ∧ RelV x u := by
 cases r with
 | cons r1 r2 => cases r2; exact ⟨_, rfl, r1⟩
theorem vals2 {x y : V} {us : List Value} (r : Vals [x, y] us) : ∃ u w', us = [u, w'] ∧ RelV x u ∧ RelV y w' := by
  cases r with
  | cons r1 r2 =>
    cases r2 with
    | cons r3 r4 => cases r4; exact ⟨_, _, rfl, r1, r3⟩
theorem call_min2 (hc : X.calm = true) : CallR X (.builtin "min") (fun xs H Q => ∃ i j, xs = [.int i, .int j] ∧ Q (.int (if j < i then j else i)) H) := by
 intro pins s σ H xs us Q I r h
 obtain ⟨i, j, rfl, q⟩ := h
 obtain ⟨u, w', rfl, ⟨t, rfl⟩, ⟨t', rfl⟩⟩ := vals2 r
 refine min_two_ints (I.ok.hd hc) fun h' tk k => ⟨_, H, I.kept k, ?_, q⟩
 by_cases hj : j < i
 ·rw [if_pos hj, if_pos hj]; exact ⟨_, rfl⟩
 ·rw [if_neg hj, if_neg hj]; exact ⟨_, rfl⟩
theorem call_str_int : CallR X (.type "str") (fun xs H Q => ∃ i, xs = [.int i] ∧ i.natAbs.log2 < 1920 ∧ Q (.str (toString i)) H) := by
 intro pins s σ H xs us Q I r h
 obtain ⟨i, rfl, hz, q⟩ := h
 obtain ⟨u, rfl, t, rfl⟩ := vals1 r
 exact PySem.P.str_of_int hz ⟨.str _, H, I.tok _, ⟨_, rfl⟩, q⟩
end
end L2
namespace L2
open PySem PySem.Spec PyProof.Rows
structure ObjM (h : Heap) (x dx C : Addr) (mA : Str → Option Value) : Prop where
 obj : h.get? x = some (PySem.W.instObj C dx)
 ns : h.Ns1 dx mA
 ne : dx ≠ x
theorem lookIn_ns {h : Heap} {dx : Addr} {mA : Str → Option Value} (n : h.Ns1 dx mA) : ∃ od, h.get? dx = some od ∧ ∀ name, PySem.W.lookIn name od = some (mA name) := by
 obtain ⟨o, es, ep, ho, hd, hk, _, hm⟩ := n
 refine ⟨o, ho, fun name => ?_⟩
 have e := hm name
 unfold nsFind findBy at e
 rw [← Array.find?_toList] at e
 unfold PySem.W.lookIn
 rw [hd]
 dsimp only
 split
 ·rename_i y q
  rw [q] at e
  exact congrArg some e
 ·rename_i q
  rw [q] at e
  have a : es.toList.any (·.refKey) = false := by
   rw [List.any_eq_false]
   intro y hy
   obtain ⟨z, t, hkey⟩ := hk y (Array.mem_toList_iff.mp hy)
   simp [DictEntry.refKey, hkey]
  have a' : ¬ es.toList.any (·.refKey) = true := by rw [a]; exact Bool.false_ne_true
  rw [if_neg a']
  exact congrArg some e
theorem ObjM.look {h : Heap} {x dx C : Addr} {mA : Str → Option Value} (I : ObjM h x dx C mA) : ∃ od, PySem.W.InstAt h x (PySem.W.instObj C dx) C (some od) ∧ ∀ name, PySem.W.lookIn name od = some (mA name) :=
 let ⟨od, ho, hl⟩ := lookIn_ns I.ns
 ⟨od, ⟨I.obj, rfl, rfl, ho⟩, hl⟩
section
variable {prog : Program} {w : World} {A : Around} {E : Value → Shared → Prop} {s : Shared} {K : PySem.W.Frag} {x dx C f : Addr} {mA : Str → Option Value} {name : Str} {v : Value}
end
theorem RelO.some_of {v : V} {o : Option Value} (r : RelO (some v) o) : ∃ u, o = some u ∧ RelV v u := by
 cases o with
 | none => exact (show False from r).elim
 | some u => exact ⟨u, rfl, r⟩
section
variable {P : Program} {w : World} {H H' : Hp} {h h' : Heap} {a C dx : Addr} {fs fs' : List (Str × V)}
theorem ins_get (hok : HOk P w H h) (e : H a = some (.ins C dx fs)) : ∃ mA, ObjM h a dx C mA ∧ (∀ f, RelO (fs.lookup f) (mA f)) ∧ PySem.Within mA (fs.map (·.1)) ∧ fs.length ≤ 1000 ∧ H dx = some (.own a) := by
 obtain ⟨d, z, ne, ob, mA, n, r, q⟩ := (show ObjOk P w H h a (.ins C dx fs) from hok a _ e)
 exact ⟨mA, ⟨ob, n, ne⟩, r, q, z, d⟩
end
structure Cls (K : PySem.W.Frag) (C : Addr) : Prop where
 pg : PySem.W.plainGet K C Str.empty = true
 hd : PySem.W.hasDictIn K C = true
 po : PySem.W.plainOver K C = true
 sa : PySem.W.findIn K (.ref C) "__setattr__" = some (some (.builtin "object.__setattr__"))
theorem Cls.get {K : PySem.W.Frag} {C : Addr} (c : Cls K C) (f : Str) : PySem.W.plainGet K C f = true := c.pg
structure Con (K : PySem.W.Frag) (C : Addr) (f : Str) (v : V) (u : Value) : Prop where
 at_ : PySem.W.findIn K (.ref C) f = some (some u)
 rel : RelV v u
 get : PySem.W.specialIn K u "__get__" = some none
 cp : PySem.W.copiedNames.contains f = false
structure Meth (K : PySem.W.Frag) (C : Addr) (m : Str) (f : Addr) : Prop where
 at_ : PySem.W.findIn K (.ref C) m = some (some (.ref f))
 fn : PySem.W.isFn K (.ref f) = true
 kp : PySem.W.keepIn K (.ref f) = true
section
variable {X : Cx} {pins : List (Addr × Obj)} {σ : St} {H : Hp} {s : Shared} {a C dx : Addr} {fs : List (Str × V)} {f : Str} {v : V} {A : Around} {E : Value → Shared → Prop}
theorem Inv.made (I : Inv X pins σ H s) : Inv X pins σ (upd (upd H s.heap.objs.size (.own (s.heap.objs.size + 1))) (s.heap.objs.size + 1) (.ins C s.heap.objs.size []))
  { s with heap := (s.heap.push PySem.W.emptyDict).push (PySem.W.instObj C s.heap.objs.size) } := by
 have e1 : (s.heap.push PySem.W.emptyDict).get? s.heap.objs.size = some PySem.W.emptyDict := Heap.get?_push_size s.heap rfl
 have e2 : ((s.heap.push PySem.W.emptyDict).push (PySem.W.instObj C s.heap.objs.size)).get? (s.heap.objs.size + 1) = some (PySem.W.instObj C s.heap.objs.size) := by
  have := Heap.get?_push_size (s.heap.push PySem.W.emptyDict) (o := PySem.W.instObj C s.heap.objs.size) rfl
  rwa [Heap.size_push] at this
 have e3 : (s.heap.push PySem.W.emptyDict).Ns s.heap.objs.size (fun _ => none) := ⟨PySem.W.emptyDict, #[], _, e1, rfl, (fun e he => absurd he (by simp)), fun _ => rfl⟩
 have I1 := I.laid (a := s.heap.objs.size) (o := .own (s.heap.objs.size + 1)) (h' := s.heap.push PySem.W.emptyDict) (t' := s.toks) (fun b u q => Heap.get?_push_of_some _ q) (Nat.le_refl _) ⟨_, e1⟩
 refine I1.laid (a := s.heap.objs.size + 1) (o := .ins C s.heap.objs.size []) (t' := s.toks) (fun b u q => Heap.get?_push_of_some _ q) (Nat.le_of_eq (Heap.size_push _ _)) ?_
 have ne : s.heap.objs.size ≠ s.heap.objs.size + 1 := Nat.ne_of_lt (Nat.lt_succ_self _)
 refine ⟨by rw [upd_ne ne, upd_same], Nat.zero_le _, ne, e2, fun _ => none, (Heap.Ns1.of_empty e3).at fun o q => Heap.get?_push_of_some _ q, fun _ => True.intro, fun y hy => absurd rfl hy⟩
end
section
variable {X : Cx} {o e value : Expr} {f : Str} {pos pos' tpos : Pos} {ta tv : TE}
def rAdd : V → V → Hp → VK → Prop := fun x y H Q => ∃ i j, x = .int i ∧ y = .int j ∧ Q (.int (i + j)) H
end
section
variable {X : Cx} {pins : List (Addr × Obj)} {σ : St} {H : Hp} {s : Shared} {A : Around} {E : Value → Shared → Prop} {Q : Value → Shared → Prop} {c : Value} {b : Bool}
inductive TyOf (K : PySem.W.Frag) (H : Hp) : V → Value → Prop where
 | non : TyOf K H .non (.type "NoneType")
 | bl (x : Bool) : TyOf K H (.bl x) (.type "bool")
 | int (i : Int) : TyOf K H (.int i) (.type "int")
 | str (x : Str) : TyOf K H (.str x) (.type "str")
 | flt (x : UInt64) : TyOf K H (.flt x) (.type "float")
 | lst {a : Addr} {xs : List V} (e : H a = some (.lst xs)) : TyOf K H (.ref a) (.type "list")
 | frz {a : Addr} {o : Obj} {xs : List V} (e : H a = some (.frz o (.lst xs))) : TyOf K H (.ref a) (.type "list")
 | tup {a : Addr} {xs : List V} (e : H a = some (.tup xs)) : TyOf K H (.ref a) (.type "tuple")
 | dK {a : Addr} {kvs : List (Key × V)} (e : H a = some (.dK kvs)) : TyOf K H (.ref a) (.type "dict")
 | dT {a : Addr} {kvs : List (List Key × V)} (e : H a = some (.dT kvs)) : TyOf K H (.ref a) (.type "dict")
 | ins {a C dx : Addr} {fs : List (Str × V)} (e : H a = some (.ins C dx fs)) (cl : Cls K C) (ha : PySem.W.findIn K (.ref C) "__class__" = some (some (.builtin "object.__class__")))
   (hn : PySem.W.specialIn K (.builtin "object.__class__") "__get__" = some (some (.builtin "getset_descriptor.__get__"))) (htk : PySem.W.takesIn K (.builtin "object.__class__") = some true)
   (hm : PySem.W.mroIn K C (.type "object") = some true) : TyOf K H (.ref a) (.ref C)
theorem isinst_ok {x : V} {u t : Value} (I : Inv X pins σ H s) (rx : RelV x u) (ty : TyOf X.K H x t) (e : PySem.W.kitOne X.K t c = some b) (h : ∀ tk, Q (.bool b) { s with toks := tk }) :
    wpAny (model X.prog X.w) A (call (.builtin "isinstance") [u, c]) Q E s := by
  cases ty with
  | non => cases (show u = Value.none from rx); exact PySem.W.kia_one PySem.W.kitx_none I.kIn True.intro e (fun z => nomatch z) h
  | bl y => cases (show u = Value.bool y from rx); exact PySem.W.kia_one PySem.W.kitx_bool I.kIn True.intro e (fun z => nomatch z) h
  | int i => obtain ⟨t, q⟩ := (show ∃ t, u = Value.int i t from rx); cases q; exact PySem.W.kia_one PySem.W.kitx_int I.kIn True.intro e (fun z => nomatch z) h
  | str y => obtain ⟨t, q⟩ := (show ∃ t, u = Value.str y t from rx); cases q; exact PySem.W.kia_one PySem.W.kitx_str I.kIn True.intro e (fun z => nomatch z) h
  | flt y => obtain ⟨t, q⟩ := (show ∃ t, u = Value.float y t from rx); cases q; exact PySem.W.kia_one PySem.W.kitx_float I.kIn True.intro e (fun z => nomatch z) h
  | @lst a xs ea =>
    cases (show u = Value.ref a from rx)
    obtain ⟨_, _, n, _, h1⟩ := (show ObjOk X.prog X.w H s.heap a (.lst xs) from I.hok a _ ea)
    exact PySem.W.kia_one PySem.W.kitx_list I.kIn ⟨_, h1, rfl⟩ e (fun z => nomatch z) h
  | @frz a ob xs ea =>
    cases (show u = Value.ref a from rx)
    obtain ⟨_, _, _, n, _, h1⟩ := (show ObjOk X.prog X.w H s.heap a (.frz ob (.lst xs)) from I.hok a _ ea)
    exact PySem.W.kia_one PySem.W.kitx_list I.kIn ⟨_, h1, rfl⟩ e (fun z => nomatch z) h
  | @tup a xs ea =>
    cases (show u = Value.ref a from rx)
    obtain ⟨_, _, _, p⟩ := (show ObjOk X.prog X.w H s.heap a (.tup xs) from I.hok a _ ea)
    obtain ⟨o, h1, h2, _⟩ := p
    exact PySem.W.kia_one PySem.W.kitx_tuple I.kIn ⟨o, h1, h2⟩ e (fun z => nomatch z) h
  | @dK a kvs ea =>
    cases (show u = Value.ref a from rx)
    obtain ⟨_, _, vs, _, p⟩ := (show ObjOk X.prog X.w H s.heap a (.dK kvs) from I.hok a _ ea)
    obtain ⟨o, es, ep, h1, h2, _⟩ := p
    exact PySem.W.kia_one PySem.W.kitx_dict I.kIn ⟨o, h1, h2.1⟩ e (fun z => nomatch z) h
  | @dT a kvs ea =>
    cases (show u = Value.ref a from rx)
    obtain ⟨_, _, xs, _, o, es, ep, h1, h2, _⟩ := (show ObjOk X.prog X.w H s.heap a (.dT kvs) from I.hok a _ ea)
    exact PySem.W.kia_one PySem.W.kitx_dict I.kIn ⟨o, h1, h2.1⟩ e (fun z => nomatch z) h
  | @ins a C dx fs ea cl ha hn htk hm =>
    cases (show u = Value.ref a from rx)
    obtain ⟨mA, O, _⟩ := ins_get I.hok ea
    obtain ⟨od, J, _⟩ := O.look
    exact PySem.W.kia_one (PySem.W.kitx_own (cl.get _) cl.hd ha hn htk hm) I.kIn J e (fun z => nomatch z) h
end
end L2
namespace L2
open PySem PySem.Spec PyProof.Rows
structure Room (k : Nat) (A : Around) : Prop where
 hd : A.handled = none
 dp : A.depth + 3 * k + 5 < recursionLimit
 un : A.units + 16 * k + 200 < cLine
theorem Room.mono {j k : Nat} {A : Around} (r : Room k A) (h : j ≤ k) : Room j A := ⟨r.hd, by have := r.dp; omega, by have := r.un; omega⟩
theorem Room.deeper {k : Nat} {A : Around} (r : Room (k + 1) A) (env : Env) : Room k (A.deeper env) :=
 ⟨r.hd, by have := r.dp; show A.depth + 1 + 3 * k + 5 < _; omega, by have := r.un; show A.units + 3 + 16 * k + 200 < _; omega⟩
theorem Room.depth {k : Nat} {A : Around} (r : Room k A) : A.depth < recursionLimit := by have := r.dp; omega
theorem Room.units {k : Nat} {A : Around} (r : Room k A) : A.units + 64 < cLine := by have := r.un; omega
def tNil : TA := fun _ H Q => Q [] H
def tCons (ta : TE) (tr : TA) : TA := fun σ H Q => ta σ H fun x H1 => tr σ H1 fun xs H2 => Q (x :: xs) H2
section
variable {X : Cx} {e : Expr} {es : List Expr} {te : TE} {t : TA} {pos : Pos}
theorem pa_nil : PA X [] tNil := fun _ _ _ _ H Q I h => Calls.spliced_nil ⟨[], H, I, .nil, h⟩
theorem pa_cons (ha : PE X e te) (hr : PA X es t) (hs : starEach (e :: es) X.env = (false, eval e X.env) :: starEach es X.env := by rfl) : PA X (e :: es) (tCons te t) := by
 intro pos pins s σ H Q I h
 rw [hs]
 show wpAny _ _ (spliced ((false, eval e X.env) :: backTo pos (starEach es X.env))) _ _ s
 refine Calls.spliced_cons (thn (ha pins s σ H _ I h) fun u s1 ⟨x, H1, I1, r1, q1⟩ => ?_)
 exact thn (hr pos pins s1 σ H1 _ I1 q1) fun us s2 ⟨xs, H2, I2, r2, q2⟩ => ⟨x :: xs, H2, I2, .cons r1 r2, q2⟩
def tTup (t : TA) : TE := fun σ H Q => t σ H fun xs H1 => xs.length ≤ sizeLine ∧ ∀ p, H1 p = none → Q (.ref p) (upd H1 p (.tup xs))
def tLst (t : TA) : TE := fun σ H Q => t σ H fun xs H1 => xs.length ≤ sizeLine ∧ ∀ p, H1 p = none → Q (.ref p) (upd H1 p (.lst xs))
theorem pe_tup {x1} (h : PA X es t) : PE X (.Tuple es x1 pos) (tTup t) := by
 intro pins s σ H Q I hq
 refine wpAny_Tuple_spliced (thn (h pos pins s σ H _ I hq) fun us s1 ⟨xs, H1, I1, r, z, q⟩ => ⟨by rw [← r.length]; exact z, ?_⟩)
 have hf : H1 s1.heap.objs.size = none := I1.hok.fresh (Nat.le_refl _)
 refine ⟨.ref s1.heap.objs.size, upd H1 s1.heap.objs.size (.tup xs), I1.laid (t' := s1.toks) (fun b u e => Heap.get?_push_of_some _ e) (Nat.le_refl _) ?_, rfl, q _ hf⟩
 exact ⟨z, us, r, ⟨_, Heap.get?_push_size _ rfl, rfl, _, rfl⟩⟩
theorem pe_lst (h : PA X es t) : PE X (.List es pos) (tLst t) := by
 intro pins s σ H Q I hq
 refine wpAny_List_spliced (thn (h pos pins s σ H _ I hq) fun us s1 ⟨xs, H1, I1, r, z, q⟩ => ⟨by rw [← r.length]; exact z, ?_⟩)
 have hf : H1 s1.heap.objs.size = none := I1.hok.fresh (Nat.le_refl _)
 refine ⟨.ref s1.heap.objs.size, upd H1 s1.heap.objs.size (.lst xs), I1.laid (t' := s1.toks) (fun b u e => Heap.get?_push_of_some _ e) (Nat.le_refl _) ?_, rfl, q _ hf⟩
 exact ⟨z, us, 0, r, Heap.get?_push_size _ rfl⟩
end
abbrev Sp := List V → Hp → VK → XK → Prop
abbrev CXT := List Env → Hp → Shared → XK → Value → Shared → Prop
structure Env0 (P : Program) (w : World) (K : PySem.W.Frag) (mg : Str → Option Value) (base : Heap) (A : Around) (outer : List Env) (s : Shared) (H : Hp) : Prop where
 frames : A.frames = some outer
 mod : Mod K mg base
 bs : ∀ b o, base.get? b = some o → s.heap.get? b = some o ∧ H b = none
 bsz : base.objs.size ≤ s.heap.objs.size
 funs : s.heap.FunFrames base outer
 frf : ∀ b ∈ frs outer, H b = none
 hok : HOk P w H s.heap
 bare : AllBare s.gens
def CE (outer : List Env) (P : Program) (w : World) (H : Hp) (s : Shared) (Q : VK) (u : Value) (s' : Shared) : Prop :=
 ∃ v H', s'.os = s.os ∧ AllBare s'.gens ∧ Un (frs outer) [] H H' s.heap s'.heap ∧ HOk P w H' s'.heap ∧ RelV v u ∧ Q v H'
def CR (CX : CXT) (outer : List Env) (P : Program) (w : World) (H : Hp) (s : Shared) (Q : VK) (E : XK) (r : Result) (s' : Shared) : Prop :=
 match r with
 | .ok (.ret u) => CE outer P w H s Q u s'
 | .ok _ => False
 | .error e => CX outer H s E e s'
structure FnOk (P : Program) (w : World) (K : PySem.W.Frag) (mg : Str → Option Value) (base : Heap) (CX : CXT) (k : Nat) (f : Addr) (fd : FuncData) (ps : List Str) (sp : Sp) : Prop where
 len : ∀ vs H Q E, sp vs H Q E → vs.length = ps.length
 run : ∀ (A : Around) (outer : List Env) (s : Shared) (H : Hp) (args : Args) (us : List Value) (vs : List V) (Q : VK) (E : XK), Room k A → Env0 P w K mg base A outer s H → BindsTo s fd args (ps.zip us) → Vals vs us → sp vs H Q E →
  codeAny (model P w) A (.call (.ref f) args) (CR CX outer P w H s Q E) s
theorem FnOk.mono {P : Program} {w : World} {K : PySem.W.Frag} {mg : Str → Option Value} {base : Heap} {CX : CXT} {j k : Nat} {f : Addr} {fd : FuncData} {ps : List Str} {sp : Sp} (F : FnOk P w K mg base CX j f fd ps sp) (h : j ≤ k) :
  FnOk P w K mg base CX k f fd ps sp := ⟨F.len, fun A outer s H args us vs Q E hr => F.run A outer s H args us vs Q E (hr.mono h)⟩
section
variable {X : Cx} {pins : List (Addr × Obj)} {σ : St} {H : Hp} {s s' : Shared}
theorem Inv.env0 (I : Inv X pins σ H s) : Env0 X.prog X.w X.K X.mg X.base X.A X.stack s H :=
 ⟨I.ok.frames, I.ok.mod, I.bs, Nat.le_trans I.ok.bsz I.sz, I.stack, I.stkFree, I.hok, I.bare⟩
theorem Inv.after {Q : VK} {u : Value} (I : Inv X pins σ H s) (h : CE X.stack X.prog X.w H s Q u s') : EP X pins σ Q u s' := by
 obtain ⟨v, H', os, bare, un, hok, r, q⟩ := h
 obtain ⟨hh, g, d, t, os'⟩ := s'
 obtain rfl : os' = s.os := os
 exact ⟨v, H', I.call (h' := hh) (g' := g) (d' := d) (t' := t) (ch := []) un hok bare (fun b z => absurd z (by simp)), r, q⟩
end
def tCall (sp : Sp) (dvs : List V) (E : XK) (t : TA) : TE := fun σ H Q => t σ H fun vs H1 => sp (vs ++ dvs) H1 Q E
def Binds (K : PySem.W.Frag) (fd : FuncData) (ps : List Str) (ds : List Value) : Prop :=
 ∀ (s : Shared) (us : List Value), K.In s.heap → (us ++ ds).length = ps.length → BindsTo s fd ⟨us, []⟩ (ps.zip (us ++ ds))
theorem Binds.all {K : PySem.W.Frag} {fd : FuncData} {ps : List Str} (h : ∀ us : List Value, us.length = ps.length → bindArgs fd ⟨us, []⟩ = pure (ps.zip us)) : Binds K fd ps [] := fun s us _ hl => by
 rw [List.append_nil] at hl ⊢
 exact .of_eq (h us hl)
def Passes (CX : CXT) (X : Cx) (E : XK) : Prop := ∀ (pins : List (Addr × Obj)) (σ : St) (H : Hp) (s : Shared) (e : Value) (s' : Shared), Inv X pins σ H s → CX X.stack H s E e s' → X.xe e s'
section
variable {X : Cx} {CX : CXT} {k : Nat} {f C : Addr} {fd : FuncData} {ps : List Str} {sp : Sp} {dvs : List V} {ds : List Value} {E : XK} {x m : Str} {p pos apos : Pos} {e o : Expr} {es : List Expr} {ta : TE} {t : TA}
theorem run_fn {pins : List (Addr × Obj)} {σ : St} {H : Hp} {s : Shared} {Q : VK} {us : List Value} {vs : List V} (F : FnOk X.prog X.w X.K X.mg X.base CX k f fd ps sp) (hr : Room k X.A) (hb : Binds X.K fd ps ds) (hd : Vals dvs ds) (hx : Passes CX X E)
    (I : Inv X pins σ H s) (r : Vals vs us) (h : sp (vs ++ dvs) H Q E) : wpAny (model X.prog X.w) X.A (call (.ref f) us) (EP X pins σ Q) X.xe s := by
  have r2 : Vals (vs ++ dvs) (us ++ ds) := r.append hd
  have hl : (us ++ ds).length = ps.length := by rw [← r2.length]; exact F.len _ _ _ _ h
  refine wpAny_call (codeAny_mono (F.run X.A X.stack s H ⟨us, []⟩ (us ++ ds) (vs ++ dvs) Q E hr I.env0 (hb s us I.kIn hl) r2 h) fun r s' hq => ?_)
  cases r with
  | error e => exact hx pins σ H s e s' I hq
  | ok fl =>
    cases fl with
    | ret u => exact I.after hq
    | next => exact False.elim hq
    | brk => exact False.elim hq
    | cont => exact False.elim hq
theorem pe_call (F : FnOk X.prog X.w X.K X.mg X.base CX k f fd ps sp) (hr : Room k X.A) (hg : Gl X x) (hm : X.mg x = some (.ref f)) (hk : PySem.W.keepIn X.K (.ref f) = true) (hb : Binds X.K fd ps ds) (hd : Vals dvs ds) (hx : Passes CX X E)
  (ha : PA X (e :: es) t) (hdb : (x == ("__debug__" : Str)) = false := by decide) (he : starEach (e :: es) X.env = (false, eval e X.env) :: starEach es X.env := by rfl) (hpl : (backTo pos (starEach es X.env)).any (·.1) = false := by rfl) :
  PE X (.Call (.Name x p) (e :: es) [] pos) (tCall sp dvs E t) := by
 intro pins s σ H Q I h
 refine wpAny_Call_Name_kw (ld_glob I hg hm ?_ hdb)
 refine PySem.W.callWith_K (h₀ := X.base) I.ok.mod.kin hk (thn (ha pos pins s σ H _ I h) fun us s1 ⟨vs, H1, I1, r, q⟩ => ⟨I1.kIn, ?_⟩) he hpl
 exact run_fn F hr hb hd hx I1 r q
structure Mk (K : PySem.W.Frag) (C f : Addr) : Prop where
 makes : PySem.W.makesIn K C = true
 init : PySem.W.findIn K (.ref C) "__init__" = some (some (.ref f))
 fn : PySem.W.isFn K (.ref f) = true
 kp : PySem.W.keepIn K (.ref C) = true
end
section
variable {X : Cx} {CX : CXT} {k : Nat} {f C : Addr} {fd : FuncData} {ps ks : List Str} {sp : Sp} {E : XK} {x m : Str} {p pos apos kpos : Pos} {e o : Expr} {es : List Expr} {kws : List Keyword} {te ta : TE} {t tk : TA} {nm : Option Str}
structure KBinds (K : PySem.W.Frag) (fd : FuncData) (ps ks : List Str) (g : List Value → List Value → List Value) (gV : List V → List V → List V) : Prop where
 to : ∀ (s : Shared) (us ws : List Value), K.In s.heap → (g us ws).length = ps.length → BindsTo s fd ⟨us, ks.zip ws⟩ (ps.zip (g us ws))
 rel : ∀ {vs : List V} {us : List Value} {zs : List V} {ws : List Value}, Vals vs us → Vals zs ws → Vals (gV vs zs) (g us ws)
variable {g : List Value → List Value → List Value} {gV : List V → List V → List V}
end
structure FnScope (N P : List Str) (sc : Scope) : Prop where
 kind : sc.kind = .function
 co : sc.isCoroutine = false
 gen : sc.isGenerator = false
 nd : N.Nodup
 pre : N.take P.length = P
 par : ∀ x ∈ P, sc.names.lookup x = some .local ∨ sc.names.lookup x = some .cell
 nofree : ∀ y ∈ sc.names, y.2 ≠ .free
theorem bindL_out {kindOf : Str → Option NameKind} {x : Str} : ∀ {binds : List (Str × Value)} {m : Str → Option Value}, (∀ v, (x, v) ∉ binds) → bindL kindOf binds m x = m x
  | [], _, _ => rfl
  | (n, v) :: r, m, h => by
    unfold bindL
    rw [bindL_out fun w hw => h w (List.mem_cons_of_mem _ hw)]
    split
    · have : x ≠ n := by rintro rfl; exact h v List.mem_cons_self
      simp [this]
    · rfl
theorem bindC_out {kindOf : Str → Option NameKind} {x : Str} : ∀ {binds : List (Str × Value)} {m : Str → Option Value}, (∀ v, (x, v) ∉ binds) → bindC kindOf binds m x = m x
  | [], _, _ => rfl
  | (n, v) :: r, m, h => by
    unfold bindC
    rw [bindC_out fun w hw => h w (List.mem_cons_of_mem _ hw)]
    split
    · rfl
    · have : x ≠ n := by rintro rfl; exact h v List.mem_cons_self
      simp [this]
theorem bindL_get {kindOf : Str → Option NameKind} {x : Str} {v : Value} : ∀ {P : List Str} {vs : List Value} {i : Nat} {m : Str → Option Value}, P.Nodup → P[i]? = some x → vs[i]? = some v → kindOf x = some .local →
    bindL kindOf (P.zip vs) m x = some v
  | [], _, _, _, _, h, _, _ => by simp at h
  | _ :: _, [], _, _, _, _, h, _ => by simp at h
  | p :: P, w :: vs, 0, m, nd, h1, h2, hk => by
    simp at h1 h2; subst h1; subst h2
    show bindL kindOf ((p, w) :: P.zip vs) m p = _
    unfold bindL
    rw [bindL_out fun v hv => (List.nodup_cons.mp nd).1 (List.of_mem_zip hv).1, if_pos hk]
    simp
  | p :: P, w :: vs, i + 1, m, nd, h1, h2, hk => by
    show bindL kindOf ((p, w) :: P.zip vs) m x = _
    unfold bindL
    exact bindL_get (i := i) (List.nodup_cons.mp nd).2 (by simpa using h1) (by simpa using h2) hk
theorem bindC_get {kindOf : Str → Option NameKind} {x : Str} {v : Value} : ∀ {P : List Str} {vs : List Value} {i : Nat} {m : Str → Option Value}, P.Nodup → P[i]? = some x → vs[i]? = some v → kindOf x ≠ some .local →
    bindC kindOf (P.zip vs) m x = some v
  | [], _, _, _, _, h, _, _ => by simp at h
  | _ :: _, [], _, _, _, _, h, _ => by simp at h
  | p :: P, w :: vs, 0, m, nd, h1, h2, hk => by
    simp at h1 h2; subst h1; subst h2
    show bindC kindOf ((p, w) :: P.zip vs) m p = _
    unfold bindC
    rw [bindC_out fun v hv => (List.nodup_cons.mp nd).1 (List.of_mem_zip hv).1, if_neg hk]
    simp
  | p :: P, w :: vs, i + 1, m, nd, h1, h2, hk => by
    show bindC kindOf ((p, w) :: P.zip vs) m x = _
    unfold bindC
    exact bindC_get (i := i) (List.nodup_cons.mp nd).2 (by simpa using h1) (by simpa using h2) hk
def start (N : List Str) (vs : List V) : St := vs.map some ++ List.replicate (N.length - vs.length) none
def cxOf (CX : CXT) (P : Program) (w : World) (K : PySem.W.Frag) (mg : Str → Option Value) (base : Heap) (N : List Str) (qual : Str) (scope : Scope) (f : Addr) (cd : Value) (A : Around) (outer : List Env) (s : Shared) (H : Hp) (E : XK) : Cx where
 prog := P
 w := w
 K := K
 mg := mg
 base := base
 A := A.deeper (envOfC qual scope s.heap.objs.size f cd)
 N := N
 s₀ := s
 H₀ := H
 env := envOfC qual scope s.heap.objs.size f cd
 outer := outer
 stack := envOfC qual scope s.heap.objs.size f cd :: outer
 ex := []
 calm := true
 fn := fun _ => true
 pn := []
 xe := fun e s' => wpAny (model P w) (A.deeper (envOfC qual scope s.heap.objs.size f cd)) (leaving (envOfC qual scope s.heap.objs.size f cd) e) (fun _ s'' => CX outer H s E e s'') (fun e' s'' => CX outer H s E e' s'') s'
theorem cell_has {sc : Scope} {n : Nat} {x : Str} (h : sc.names.lookup x = some .cell) : ∃ c, (cellsFrom n sc.names []).lookup x = some c := by
 have q := PySem.W.cellsFrom_some sc.names n [] (.inl h)
 exact Option.isSome_iff_exists.mp q
theorem inv_start {CX : CXT} {P : Program} {w : World} {K : PySem.W.Frag} {mg : Str → Option Value} {base : Heap} {N ps : List Str} {qual : Str} {scope : Scope} {f : Addr} {cd : Value} {A : Around} {outer : List Env} {s s1 : Shared} {H : Hp} {E : XK} {us : List Value} {vs : List V}
  (S : FnScope N ps scope) (hd : A.handled = none) (e0 : Env0 P w K mg base A outer s H) (hl : vs.length = ps.length) (r : Vals vs us)
  (x : InCallC s s.heap.objs.size (bindL (envOfC qual scope s.heap.objs.size f cd).kindOf (ps.zip us) fun _ => none) (cellsFrom (s.heap.objs.size + 1) scope.names []) (bindC (envOfC qual scope s.heap.objs.size f cd).kindOf (ps.zip us) fun _ => none) s1) :
  Inv (cxOf CX P w K mg base N qual scope f cd A outer s H E) [] (start N vs) H s1 := by
 have hpl : ps.length ≤ N.length := by have := congrArg List.length S.pre; rw [List.length_take] at this; omega
 obtain ⟨h1, tk, rfl, hk⟩ := x.done
 have noA : ∀ b : Addr, b ∉ (cxOf CX P w K mg base N qual scope f cd A outer s H E).ex := fun b z => absurd (show b ∈ ([] : List Addr) from z) (by simp)
 refine ⟨⟨e0.mod, S.kind, rfl, rfl, Nat.le_refl _, fun y z c h1 h2 => ?_, fun y hy => ?_, fun y c _ h => ?_, fun _ => hd, Around.frames_deeper e0.frames, .inr ⟨rfl, rfl⟩, fun b z => absurd z (noA b), e0.bs, e0.bsz, fun b _ _ => noA b, fun b z => absurd z (noA b), e0.funs, e0.frf⟩,
  rfl, e0.bare, Un.kept hk, ⟨_, x.toInCall.ns, fun i y v h1 h2 h3 => ?_⟩, fun y c h => ⟨_, x.cell y c h⟩, e0.hok.fresh (Nat.le_refl _), fun y c h => ?_, fun p hp => absurd (show p ∈ ([] : List (Addr × Obj)) from hp) (by simp), e0.hok.kept hk, ?_⟩
 ·exact name_of_addr x.apart (PySem.mem_of_lookup h1) (PySem.mem_of_lookup h2)
 ·have hy : scope.names.lookup y = some .cell ∨ scope.names.lookup y = some .free := hy
  rcases hy with hy | hy
  ·exact cell_has hy
  ·exact absurd rfl (S.nofree _ (PySem.mem_of_lookup hy))
 ·exact Nat.le_of_lt (x.above y c (PySem.mem_of_lookup h))
 ·have hi : i < vs.length := by
   unfold start at h2
   by_cases hi : i < vs.length
   ·exact hi
   ·rw [List.getElem?_append_right (by simpa using hi)] at h2
    rw [List.getElem?_replicate] at h2
    split at h2 <;> cases h2
  have ha : vs[i]? = some v := by
   unfold start at h2
   rw [List.getElem?_append_left (by simpa using hi), List.getElem?_map] at h2
   cases e : vs[i]? with
   | none => rw [e] at h2; cases h2
   | some a => rw [e] at h2; cases h2; rfl
  obtain ⟨u, hu, rv⟩ := r.get ha
  have hp : ps[i]? = some y := by
   rw [← S.pre, List.getElem?_take_of_lt (by omega)]; exact h1
  have ndP : ps.Nodup := by rw [← S.pre]; exact S.nd.sublist (List.take_sublist _ _)
  refine ⟨u, rv, ?_⟩
  rcases S.par y (List.mem_of_getElem? hp) with k | k
  ·exact .inl ⟨k, bindL_get ndP hp hu k⟩
  ·obtain ⟨c, e⟩ := cell_has (n := s.heap.objs.size + 1) k
   refine .inr ⟨.inl k, c, e, ?_⟩
   have q := x.cell y c e
   rw [bindC_get ndP hp hu (by show scope.names.lookup y ≠ _; rw [k]; decide)] at q
   exact q
 ·exact e0.hok.fresh (Nat.le_of_lt (x.above y c (PySem.mem_of_lookup h)))
 ·unfold start
  show _ = N.length
  rw [List.length_append, List.length_map, List.length_replicate]
  omega
theorem fn_of {CX : CXT} {P : Program} {w : World} {K : PySem.W.Frag} {mg : Str → Option Value} {base : Heap} {k : Nat} {f : Addr} {name qual : Str} {params : Arguments} {body : List Stmt} {scope : Scope} {dV kV doc pm cdv ct oc : Value} {an od : Option Addr}
    {osl : Array (Option Value)} {N ps : List Str} {sp : Sp} (lk : K.lookup f = some ⟨oc, od, .func (PySem.W.fnOf name qual params body scope dV kV doc pm an cdv ct), osl⟩) (hcd : PySem.W.codeIn K cdv qual = true) (S : FnScope N ps scope)
    (len : ∀ vs H Q E, sp vs H Q E → vs.length = ps.length)
    (hbody : ∀ (A : Around) (outer : List Env) (s : Shared) (H : Hp) (vs : List V) (Q : VK) (E : XK), Room k (A.deeper (envOfC qual scope s.heap.objs.size f cdv)) → sp vs H Q E →
      ∃ t, PSs (cxOf CX P w K mg base N qual scope f cdv A outer s H E) body t ∧ t { nx := fun _ H' => Q .non H', rt := Q } (start N vs) H) :
    FnOk P w K mg base CX (k + 1) f (PySem.W.fnOf name qual params body scope dV kV doc pm an cdv ct) ps sp := by
  refine ⟨len, fun A outer s H args us vs Q E hr e0 hb r hsp => ?_⟩
  have hl := len _ _ _ _ hsp
  have KX : K.In s.heap := e0.mod.kin.keeps fun b o e => (e0.bs b o e).1
  have lim : s.heap.NoLimit := e0.mod.nolimit.keeps fun b o e => (e0.bs b o e).1
  have hkind : ∀ y ∈ ps.zip us, scope.names.lookup y.1 = some .local ∨ (scope.names.lookup y.1 = some .cell ∧ ((cellsFrom (s.heap.objs.size + 1) scope.names []).lookup y.1).isSome = true) := fun ⟨n, v⟩ hy => by
    rcases S.par n (List.of_mem_zip hy).1 with q | q
    · exact .inl q
    · exact .inr ⟨q, PySem.W.cellsFrom_some _ _ _ (.inl q)⟩
  refine codeAny_call_function hr.depth (KX _ _ lk) rfl S.co S.gen rfl (PySem.W.codeRec_of KX hcd) (hb _ _ _ _ ?_)
  refine wpAny_newFunctionEnv_cells S.kind hkind fun env he s1 x => ?_
  subst he
  refine ⟨lim.keeps x.toInCall.keep, codeAny_func ?_⟩
  obtain ⟨t, ht, hq⟩ := hbody A outer s H vs Q E (hr.deeper _) hsp
  have I : Inv (cxOf CX P w K mg base N qual scope f cdv A outer s H E) [] (start N vs) H s1 := inv_start S hr.hd e0 hl r x
  refine wpAny_mono (ht [] s1 (start N vs) H _ I hq) (fun fl s' hs => ?_) fun e s' hs => hs
  have fin : ∀ {σ' : St} {H' : Hp} {v : V} {u : Value}, Inv (cxOf CX P w K mg base N qual scope f cdv A outer s H E) [] σ' H' s' → RelV v u → Q v H' → CE outer P w H s Q u s' :=
    fun {σ' H' v u} J rv q => ⟨v, H', J.os, J.bare, J.base, J.hok, rv, q⟩
  cases fl with
  | ret u =>
    obtain ⟨v, σ', H', J, rv, q⟩ := hs
    exact fin J rv q
  | next =>
    obtain ⟨σ', H', J, q⟩ := hs
    exact fin (v := V.non) (u := Value.none) J rfl q
  | brk =>
    obtain ⟨_, _, _, q⟩ := hs
    exact False.elim q
  | cont =>
    obtain ⟨_, _, _, q⟩ := hs
    exact False.elim q
end L2
namespace L2
open PySem PySem.Spec PyProof.Rows
section
variable {X : Cx} {x : Str} {p pos : Pos} {e : Expr} {es : List Expr} {t : TA} {id T : String} {r : List V → Hp → VK → Prop}
def tCB (r : List V → Hp → VK → Prop) (t : TA) : TE := fun σ H Q => t σ H fun vs H1 => r vs H1 Q
theorem pe_callB (hc : CallR X (.builtin id) r) (hg : Gl X x) (hm : X.mg x = none) (hv : bootBuiltins x = some (.builtin id)) (ha : PA X (e :: es) t) (hn : x ≠ "__name__" := by decide) (hdb : (x == ("__debug__" : Str)) = false := by decide)
  (he : starEach (e :: es) X.env = (false, eval e X.env) :: starEach es X.env := by rfl) (hpl : (backTo pos (starEach es X.env)).any (·.1) = false := by rfl) : PE X (.Call (.Name x p) (e :: es) [] pos) (tCB r t) := by
 intro pins s σ H Q I h
 refine wpAny_Call_Name_kw (ld_blt I hg hm hv ?_ hn hdb)
 exact PyProof.Rows.callWith_builtin1 (thn (ha pos pins s σ H _ I h) fun us s1 ⟨vs, H1, I1, r1, q1⟩ => hc pins s1 σ H1 vs us Q I1 r1 q1) he hpl
theorem pe_callTy (hc : CallR X (.type T) r) (hg : Gl X x) (hm : X.mg x = none) (hv : bootBuiltins x = some (.type T)) (ha : PA X (e :: es) t) (hn : x ≠ "__name__" := by decide) (hdb : (x == ("__debug__" : Str)) = false := by decide)
  (he : starEach (e :: es) X.env = (false, eval e X.env) :: starEach es X.env := by rfl) (hpl : (backTo pos (starEach es X.env)).any (·.1) = false := by rfl) : PE X (.Call (.Name x p) (e :: es) [] pos) (tCB r t) := by
 intro pins s σ H Q I h
 refine wpAny_Call_Name_kw (ld_blt I hg hm hv ?_ hn hdb)
 exact PyProof.Rows.callWith_type1 (thn (ha pos pins s σ H _ I h) fun us s1 ⟨vs, H1, I1, r1, q1⟩ => hc pins s1 σ H1 vs us Q I1 r1 q1) he hpl
end
end L2
namespace HT
open PySem PyProof.Rows
section
open PySem.SeqAt
open PySem.AutoSeq1 (wpAny_loadPart')
open PySem.MeetsSeq PySem.MeetsSeq2 PySem.MeetsSeq3
end
section
variable {prog : Program} {w : World} {A : Around} {E : Value → Shared → Prop} {s : Shared}
def sIx (n d : Nat) : Option Int → Nat
 | none => d
 | some v => if v < 0 then (v + (n : Int)).toNat else min v.toNat n
theorem sIx_none (n d : Nat) : sIx n d none = d := rfl
theorem sIx_nat (n d k : Nat) : sIx n d (some (k : Int)) = min k n := by
 show (if (k : Int) < 0 then ((k : Int) + (n : Int)).toNat else min (k : Int).toNat n) = min k n
 rw [if_neg (by omega), Int.toNat_natCast]
end
end HT
namespace L2
open PySem PySem.Spec PyProof.Rows
abbrev TO := St → Hp → (Option Int → Hp → Prop) → Prop
def PO (X : Cx) (e : Option Expr) (t : TO) : Prop :=
 ∀ (pins : List (Addr × Obj)) (s : Shared) (σ : St) (H : Hp) (Q : Option Int → Hp → Prop), Inv X pins σ H s → t σ H Q →
  wpAny (model X.prog X.w) X.A (evalPart e X.env) (fun u s' => ∃ o H', Inv X pins σ H' s' ∧ IsPart u o ∧ Q o H') X.xe s
def tNoPart : TO := fun _ H Q => Q none H
def tPart (t : TE) : TO := fun σ H Q => t σ H fun x H1 => ∃ i, x = .int i ∧ Q (some i) H1
section
variable {X : Cx} {e : Expr} {te : TE} {lo hi : Option Expr} {tl th : TO} {pos p2 : Pos}
theorem po_none : PO X none tNoPart := by
 intro pins s σ H Q I h
 rw [evalPart_none]
 exact wpAny_pure ⟨none, H, I, .none, h⟩
theorem po_some (h : PE X e te) : PO X (some e) (tPart te) := by
 intro pins s σ H Q I hw
 rw [evalPart_some]
 refine thn (h pins s σ H _ I hw) fun u s1 ⟨x, H1, I1, r1, q1⟩ => ?_
 obtain ⟨i, rfl, q⟩ := q1
 obtain ⟨t, rfl⟩ := r1
 exact ⟨some i, H1, I1, .int i t, q⟩
def SlR (X : Cx) (r : V → Option Int → Option Int → Hp → VK → Prop) : Prop :=
 ∀ (pins : List (Addr × Obj)) (s : Shared) (σ : St) (H : Hp) (x : V) (v vl vu : Value) (lo hi : Option Int) (sl : Addr) (Q : VK), Inv X pins σ H s → RelV x v → s.heap.IsSliceOf sl vl vu .none → IsPart vl lo → IsPart vu hi → r x lo hi H Q →
  ∃ T id, typeLookup (.type T) "__getitem__" = pure (some (.builtin id)) ∧ s.TypeIs v T ∧ wpAny (model X.prog X.w) X.A (getItem v (.ref sl)) (EP X pins σ Q) X.xe s
theorem SlR.or {r r' : V → Option Int → Option Int → Hp → VK → Prop} (h : SlR X r) (h' : SlR X r') : SlR X (fun x lo hi H Q => r x lo hi H Q ∨ r' x lo hi H Q) := by
 intro pins s σ H x v vl vu lo hi sl Q I rx hs pl pu q
 rcases q with q | q
 ·exact h pins s σ H x v vl vu lo hi sl Q I rx hs pl pu q
 ·exact h' pins s σ H x v vl vu lo hi sl Q I rx hs pl pu q
def tSl (r : V → Option Int → Option Int → Hp → VK → Prop) (te : TE) (tl th : TO) : TE := fun σ H Q => te σ H fun x H1 => tl σ H1 fun l H2 => th σ H2 fun u H3 => r x l u H3 Q
theorem pe_slice {r : V → Option Int → Option Int → Hp → VK → Prop} (hr : SlR X r) (he : PE X e te) (hl : PO X lo tl) (hu : PO X hi th) : PE X (.Subscript e (.Slice lo hi none p2) pos) (tSl r te tl th) := by
 intro pins s σ H Q I h
 refine Subscript_ (thn (he pins s σ H _ I h) fun v s1 ⟨x, H1, I1, r1, q1⟩ => ?_)
 refine wpAny_Slice (thn (hl pins s1 σ H1 _ I1 q1) fun vl s2 ⟨l, H2, I2, pl, q2⟩ => thn (hu pins s2 σ H2 _ I2 q2) fun vu s3 ⟨u, H3, I3, pu, q3⟩ => ?_)
 rw [evalPart_none]
 refine wpAny_pure ?_
 have I4 : Inv X pins σ H3 { s3 with heap := s3.heap.push { cls := .type "slice", data := .fields #[vl, vu, .none] } } := I3.kept (t' := s3.toks) fun b ob q => Heap.get?_push_of_some _ q
 obtain ⟨T, id, hT, ht, hg⟩ := hr pins { s3 with heap := s3.heap.push { cls := .type "slice", data := .fields #[vl, vu, .none] } } σ H3 x v vl vu l u s3.heap.objs.size Q I4 r1 (Heap.IsSliceOf.new ..) pl pu q3
 show wpAny (model X.prog X.w) X.A (subscriptTail e (.Slice lo hi none p2) v (.ref s3.heap.objs.size)) (EP X pins σ Q) X.xe { s3 with heap := s3.heap.push { cls := .type "slice", data := .fields #[vl, vu, .none] } }
 exact tail_any (ops := [.ref s3.heap.objs.size, v]) ht hT hg (by with_unfolding_all rfl)
def cutV (xs : List V) (lo hi : Option Int) : List V := (xs.drop (HT.sIx xs.length 0 lo)).take (HT.sIx xs.length xs.length hi - HT.sIx xs.length 0 lo)
theorem cutV_length (xs : List V) (lo hi : Option Int) : (cutV xs lo hi).length ≤ xs.length := by
 unfold cutV
 rw [List.length_take, List.length_drop]
 omega
end
end L2
namespace L2
open PySem PySem.Spec PyProof.Rows
def ixN (n : Nat) (i : Int) : Option Nat := if 0 ≤ i then (if i < n then some i.toNat else none) else if -(n : Int) ≤ i then some (i + n).toNat else none
def atI {α : Type} (xs : List α) (i : Int) : Option α := (ixN xs.length i).bind fun j => xs[j]?
theorem ixN_seq {n : Nat} {i : Int} {j : Nat} (h : ixN n i = some j) : seqIndex? i n = some j ∧ j < n ∧ -(n : Int) ≤ i ∧ i < n := by
 unfold ixN at h
 by_cases h0 : 0 ≤ i
 ·rw [if_pos h0] at h
  by_cases h1 : i < n
  ·rw [if_pos h1] at h
   have e : i.toNat = j := Option.some.inj h
   exact ⟨by rw [seqIndex_of h0 h1, e], by omega, by omega, h1⟩
  ·rw [if_neg h1] at h; cases h
 ·rw [if_neg h0] at h
  by_cases h1 : -(n : Int) ≤ i
  ·rw [if_pos h1] at h
   have e : (i + n).toNat = j := Option.some.inj h
   exact ⟨by rw [seqIndex_neg (by omega) h1, e], by omega, h1, by omega⟩
  ·rw [if_neg h1] at h; cases h
theorem atI_get {α : Type} {xs : List α} {i : Int} {v : α} (h : atI xs i = some v) : ∃ j, seqIndex? i xs.length = some j ∧ xs[j]? = some v ∧ j < xs.length ∧ -(xs.length : Int) ≤ i ∧ i < xs.length := by
  unfold atI at h
  cases e : ixN xs.length i with
  | none => rw [e] at h; cases h
  | some j =>
    rw [e] at h
    obtain ⟨h1, h2, h3, h4⟩ := ixN_seq e
    exact ⟨j, h1, h, h2, h3, h4⟩
theorem atI_nat {α : Type} {xs : List α} {j : Nat} {v : α} (h : xs[j]? = some v) : atI xs (j : Int) = some v := by
 have hj : j < xs.length := (List.getElem?_eq_some_iff.mp h).1
 have e : ixN xs.length (j : Int) = some j := by
  unfold ixN
  rw [if_pos (by omega), if_pos (by omega)]; simp
 unfold atI; rw [e]; exact h
def PlainIx (b : Expr) : Prop := ∀ o i, subscripted b false o i = operate [o, i] (getItem o i)
def IxR (X : Cx) (r : R2) : Prop :=
 ∀ (value slice : Expr) (pins : List (Addr × Obj)) (s : Shared) (σ : St) (H : Hp) (x y : V) (v u : Value) (Q : VK), Inv X pins σ H s → RelV x v → RelV y u → r x y H Q →
  subscripted slice false v u = operate [v, u] (getItem v u) → wpAny (model X.prog X.w) X.A (subscriptTail value slice v u) (EP X pins σ Q) X.xe s
def MtR (X : Cx) (id : String) (r : V → List V → Hp → VK → Prop) : Prop :=
 ∀ (pins : List (Addr × Obj)) (s : Shared) (σ : St) (H : Hp) (x : V) (xs : List V) (v : Value) (us : List Value) (Q : VK), Inv X pins σ H s → RelV x v → Vals xs us → r x xs H Q →
  wpAny (model X.prog X.w) X.A (call (.builtin id) (v :: us)) (EP X pins σ Q) X.xe s
section
variable {X : Cx} {a b : Expr} {ta tb : TE} {pos : Pos}
theorem IxR.or {r r' : R2} (h : IxR X r) (h' : IxR X r') : IxR X (fun x y H Q => r x y H Q ∨ r' x y H Q) := by
 intro value slice pins s σ H x y v u Q I rx ry q hs
 rcases q with q | q
 ·exact h value slice pins s σ H x y v u Q I rx ry q hs
 ·exact h' value slice pins s σ H x y v u Q I rx ry q hs
theorem pe_ix {r : R2} (hr : IxR X r) (ha : PE X a ta) (hb : PE X b tb) (hs : PlainIx b) : PE X (.Subscript a b pos) (tOp r ta tb) := by
 intro pins s σ H Q I h
 exact Subscript_ (binT ha hb I h fun v u s2 x y H2 I2 rx ry q => hr a b pins s2 σ H2 x y v u Q I2 rx ry q (hs _ _))
def rIxL (K : PySem.W.Frag) : R2 := fun x y H Q => ∃ p xs i v, x = .ref p ∧ y = .int i ∧ SqL K H p xs ∧ atI xs i = some v ∧ Q v H
def rIxT (K : PySem.W.Frag) : R2 := fun x y H Q => ∃ p xs i v, x = .ref p ∧ y = .int i ∧ SqT K H p xs ∧ atI xs i = some v ∧ Q v H
def rIxS : R2 := fun x y H Q => ∃ z i c, x = .str z ∧ y = .int i ∧ z.length ≤ sizeLine ∧ atI z.cps.toList i = some c ∧ Q (.str ⟨#[c]⟩) H
theorem ix_list : IxR X (rIxL X.K) := by
 intro value slice pins s σ H x y v u Q I rx ry h hs
 obtain ⟨p, xs, i, z, rfl, rfl, hq, he, q⟩ := h
 cases rx
 obtain ⟨t, rfl⟩ := ry
 obtain ⟨its, r, pl, hz⟩ := I.list hq
 obtain ⟨j, h1, h2, h3, h4, h5⟩ := atI_get he
 obtain ⟨w, ew, rw'⟩ := r.get h2
 have hl := r.length
 have hn := line63
 have fin : EP X pins σ Q w s := ⟨z, H, I, rw', q⟩
 by_cases h0 : 0 ≤ i
 ·have hj : i.toNat = j := by
   rw [seqIndex_of h0 h5] at h1
   exact Option.some.inj h1
  exact item_listR pl.isList h0 (by omega) (by rw [hj]; simpa using ew) fin hs
 ·have hj : (i + (its.toArray.size : Int)).toNat = j := by
   rw [seqIndex_neg (by omega) h4] at h1
   rw [List.size_toArray, ← hl]
   exact Option.some.inj h1
  exact subscriptTail_builtinR (x := w) pl.isList.typeIs slot_list_getitem.lookup
   (wpAny_getItem_list_neg (Q := fun r s' => r = w ∧ EP X pins σ Q r s') pl.isList (by omega) (by rw [List.size_toArray] <;> omega) (by omega) (by rw [hj]; simpa using ew) ⟨rfl, fin⟩) hs
theorem ix_tup : IxR X (rIxT X.K) := by
 intro value slice pins s σ H x y v u Q I rx ry h hs
 obtain ⟨p, xs, i, z, rfl, rfl, hq, he, q⟩ := h
 cases rx
 obtain ⟨t, rfl⟩ := ry
 obtain ⟨its, r, pl, hz⟩ := I.tuple hq
 obtain ⟨j, h1, h2, h3, h4, h5⟩ := atI_get he
 obtain ⟨w, ew, rw'⟩ := r.get h2
 have hl := r.length
 have hn := line63
 have fin : EP X pins σ Q w s := ⟨z, H, I, rw', q⟩
 exact subscriptTail_builtinR (x := w) pl.typeIs slot_tuple_getitem.lookup
  (getItem_tuple (j := j) (Q := fun r s' => r = w ∧ EP X pins σ Q r s') pl (by omega) (by omega) (by rw [List.size_toArray, ← hl]; exact h1) (by simpa using ew) ⟨rfl, fin⟩) hs
theorem ix_str : IxR X rIxS := by
 intro value slice pins s σ H x y v u Q I rx ry h hs
 obtain ⟨z, i, c, rfl, rfl, hz, he, q⟩ := h
 obtain ⟨t, rfl⟩ := rx
 obtain ⟨t', rfl⟩ := ry
 obtain ⟨j, h1, h2, h3, h4, h5⟩ := atI_get he
 have hl : z.cps.toList.length = z.length := by simp [Str.length]
 rw [hl] at h1 h4 h5
 have hn := line63
 exact tail_any (typeIs_str s z t) slot_str_getitem.lookup (getItem_str (c := c) (by
  have e1 : decide (i < -(2 ^ 63 : Int)) = false := decide_eq_false (by omega)
  have e2 : decide (i ≥ 2 ^ 63) = false := decide_eq_false (by omega)
  rw [e1, e2, Bool.or_false]) (by rw [h1]; simpa using h2) ⟨.str ⟨#[c]⟩, H, I.tok _, ⟨_, rfl⟩, q⟩) hs
def rIx (K : PySem.W.Frag) : R2 := fun x y H Q => rIxL K x y H Q ∨ rIxT K x y H Q ∨ rIxS x y H Q
theorem Inv.lst {pins : List (Addr × Obj)} {σ : St} {H : Hp} {s : Shared} {p : Addr} {xs : List V} (I : Inv X pins σ H s) (h : H p = some (.lst xs)) :
  ∃ (its : List Value) (n : Nat), Vals xs its ∧ s.heap.get? p = some { cls := .type "list", data := .seq its.toArray n } ∧ xs.length ≤ sizeLine := by
 obtain ⟨z, its, n, r, e⟩ := I.hok p _ h
 exact ⟨its, n, r, e, z⟩
theorem slice_bounds (lo hi : Option Int) (n : Nat) : (sliceBounds lo hi none n).1 = ((HT.sIx n 0 lo : Nat) : Int) ∧ (sliceBounds lo hi none n).2.1 = ((HT.sIx n n hi : Nat) : Int) ∧ (sliceBounds lo hi none n).2.2 = 1 := by
  refine ⟨?_, ?_, rfl⟩
  · cases lo with
    | none => simp [sliceBounds, HT.sIx]
    | some i =>
      simp only [sliceBounds, HT.sIx, Option.getD_none, show (1 : Int) > 0 by decide, if_true]
      by_cases h : i < 0
      · simp only [h, if_true] <;> omega
      · simp only [h, if_false] <;> omega
  · cases hi with
    | none => simp [sliceBounds, HT.sIx]
    | some i =>
      simp only [sliceBounds, HT.sIx, Option.getD_none, show (1 : Int) > 0 by decide, if_true]
      by_cases h : i < 0
      · simp only [h, if_true] <;> omega
      · simp only [h, if_false] <;> omega
theorem slicePick_cut (its : List Value) (lo hi : Option Int) : slicePick its.toArray lo hi none = ((its.drop (HT.sIx its.length 0 lo)).take (HT.sIx its.length its.length hi - HT.sIx its.length 0 lo)).toArray := by
 obtain ⟨h1, h2, h3⟩ := slice_bounds lo hi its.toArray.size
 unfold slicePick
 rw [h1, h2, h3]
 simp only [sliceRange_one, pick_run, List.size_toArray] <;> rfl
def rSlL (K : PySem.W.Frag) : V → Option Int → Option Int → Hp → VK → Prop := fun x lo hi H Q => ∃ a xs, x = .ref a ∧ SqL K H a xs ∧ ∀ p, H p = none → Q (.ref p) (upd H p (.lst (cutV xs lo hi)))
theorem sl_list : SlR X (rSlL X.K) := by
 intro pins s σ H x v vl vu lo hi sl Q I rx hs pl pu h
 obtain ⟨a, xs, rfl, hx, q⟩ := h
 cases rx
 obtain ⟨its, r, ht, hz⟩ := I.list hx
 have hlen := r.length
 refine ⟨"list", _, slot_list_getitem.lookup, ht.isList.typeIs, ?_⟩
 refine wpAny_getItem_list_slice ht.isList hs pl pu .none (by simp) ?_ (by rw [List.size_toArray] <;> omega)
 rw [slicePick_cut, ← hlen]
 refine ⟨.ref s.heap.objs.size, _, I.laid (t' := s.toks) (o := .lst (cutV xs lo hi)) (fun b ob q => Heap.get?_push_of_some _ q) (Nat.le_refl _) ?_, rfl, q _ (I.hok.fresh (Nat.le_refl _))⟩
 exact ⟨Nat.le_trans (cutV_length xs lo hi) hz, _, 0, (r.drop (HT.sIx xs.length 0 lo)).take (HT.sIx xs.length xs.length hi - HT.sIx xs.length 0 lo), Heap.get?_push_size _ rfl⟩
def flatV : V → Bool
 | .non => true
 | .bl _ => true
 | .int _ => true
 | .str _ => true
 | _ => false
def eqV : V → V → Bool
 | .non, .non => true
 | .bl a, .bl b => a == b
 | .bl a, .int b => (if a then 1 else 0) == b
 | .int a, .bl b => a == (if b then 1 else 0)
 | .int a, .int b => a == b
 | .str a, .str b => a == b
 | _, _ => false
theorem eqAt_V {A : Around} {s : Shared} {y x : V} {u v : Value} (ry : RelV y u) (rx : RelV x v) (fy : flatV y = true) (fx : flatV x = true) : SeqAt.EqAt A s u v (eqV y x) := by
  cases y with
  | non =>
    cases ry
    cases x with
    | non => cases rx; exact SeqAt.EqAt.same _
    | bl b => cases rx; exact SeqAt.EqAt.none_bool b
    | int b => obtain ⟨t, rfl⟩ := rx; exact SeqAt.EqAt.none_int b t
    | str b => obtain ⟨t, rfl⟩ := rx; exact SeqAt.EqAt.none_str b t
    | _ => exact absurd (show false = true from fx) Bool.false_ne_true
  | bl a =>
    cases ry
    cases x with
    | non => cases rx; exact SeqAt.EqAt.bool_none a
    | bl b => cases rx; exact SeqAt.EqAt.bool_bool a b
    | int b => obtain ⟨t, rfl⟩ := rx; exact SeqAt.EqAt.bool_int a b t
    | str b => obtain ⟨t, rfl⟩ := rx; exact SeqAt.EqAt.bool_str a b t
    | _ => exact absurd (show false = true from fx) Bool.false_ne_true
  | int a =>
    obtain ⟨t', rfl⟩ := ry
    cases x with
    | non => cases rx; exact SeqAt.EqAt.int_none a t'
    | bl b => cases rx; exact SeqAt.EqAt.int_bool a t' b
    | int b => obtain ⟨t, rfl⟩ := rx; exact SeqAt.EqAt.int_int a t' b t
    | str b => obtain ⟨t, rfl⟩ := rx; exact SeqAt.EqAt.int_str a t' b t
    | _ => exact absurd (show false = true from fx) Bool.false_ne_true
  | str a =>
    obtain ⟨t', rfl⟩ := ry
    cases x with
    | non => cases rx; exact SeqAt.EqAt.str_none a t'
    | bl b => cases rx; exact SeqAt.EqAt.str_bool a t' b
    | int b => obtain ⟨t, rfl⟩ := rx; exact SeqAt.EqAt.str_int a t' b t
    | str b => obtain ⟨t, rfl⟩ := rx; exact SeqAt.EqAt.str_str a t' b t
    | _ => exact absurd (show false = true from fx) Bool.false_ne_true
  | _ => exact absurd (show false = true from fy) Bool.false_ne_true
def eqU (x : V) (u : Value) : Bool := match u with
 | .none => eqV .non x
 | .bool b => eqV (.bl b) x
 | .int i _ => eqV (.int i) x
 | .str z _ => eqV (.str z) x
 | _ => false
theorem eqU_of {x y : V} {u : Value} (r : RelV y u) (f : flatV y = true) : eqU x u = eqV y x := by
 cases y with
 | non => cases r; rfl
 | bl b => cases r; rfl
 | int i => obtain ⟨t, rfl⟩ := r; rfl
 | str z => obtain ⟨t, rfl⟩ := r; rfl
 | _ => exact absurd (show false = true from f) Bool.false_ne_true
theorem any_eqU {x : V} : ∀ {xs : List V} {us : List Value}, Vals xs us → xs.all flatV = true → us.any (eqU x) = xs.any fun y => eqV y x
  | _, _, .nil, _ => rfl
  | y :: xs, u :: us, .cons r t, f => by
    rw [List.all_cons, Bool.and_eq_true] at f
    rw [List.any_cons, List.any_cons, eqU_of r f.1, any_eqU t f.2]
theorem mem_eqAt {A : Around} {s : Shared} {x : V} {v : Value} (rx : RelV x v) (fx : flatV x = true) : ∀ {xs : List V} {us : List Value}, Vals xs us → xs.all flatV = true → ∀ u ∈ us, SeqAt.EqAt A s u v (eqU x u)
  | _, _, .nil, _ => fun u hu => by cases hu
  | y :: xs, u :: us, .cons r t, f => fun u' hu => by
    rw [List.all_cons, Bool.and_eq_true] at f
    rcases List.mem_cons.mp hu with rfl | hu
    · rw [eqU_of r f.1]; exact eqAt_V r rx f.1 fx
    · exact mem_eqAt rx fx t f.2 u' hu
def inV (x : V) (xs : List V) : Bool := xs.any fun y => eqV y x
def rIn (K : PySem.W.Frag) (neg : Bool) : R2 := fun x y H Q => ∃ p xs, y = .ref p ∧ (SqL K H p xs ∨ SqT K H p xs) ∧ flatV x = true ∧ xs.all flatV = true ∧ Q (.bl (if neg then !inV x xs else inV x xs)) H
theorem op_in_seq : OpR X (compareOp .In) (rIn X.K false) := by
 intro pins s σ H x y v u Q I rx ry h
 obtain ⟨p, xs, rfl, hq, fx, fs, q⟩ := h
 cases ry
 rcases hq with hq | hq
 ·obtain ⟨its, r, pl, hz⟩ := I.list hq
  refine SeqAt.in_listAt (eqU x) pl.isList (fun w hw => mem_eqAt rx fx r fs w (by simpa using hw)) ⟨.bl _, H, I, rfl, ?_⟩
  rw [show its.toArray.any (eqU x) = its.any (eqU x) by simp, any_eqU r fs]
  exact q
 ·obtain ⟨its, r, pl, hz⟩ := I.tuple hq
  refine SeqAt.in_tupleAt (eqU x) pl (fun w hw => mem_eqAt rx fx r fs w (by simpa using hw)) ⟨.bl _, H, I, rfl, ?_⟩
  rw [show its.toArray.any (eqU x) = its.any (eqU x) by simp, any_eqU r fs]
  exact q
theorem op_notIn_seq : OpR X (compareOp .NotIn) (rIn X.K true) := by
 intro pins s σ H x y v u Q I rx ry h
 obtain ⟨p, xs, rfl, hq, fx, fs, q⟩ := h
 cases ry
 rcases hq with hq | hq
 ·obtain ⟨its, r, pl, hz⟩ := I.list hq
  refine SeqAt.notIn_listAt (eqU x) pl.isList (fun w hw => mem_eqAt rx fx r fs w (by simpa using hw)) ⟨.bl _, H, I, rfl, ?_⟩
  rw [show its.toArray.any (eqU x) = its.any (eqU x) by simp, any_eqU r fs]
  exact q
 ·obtain ⟨its, r, pl, hz⟩ := I.tuple hq
  refine SeqAt.notIn_tupleAt (eqU x) pl (fun w hw => mem_eqAt rx fx r fs w (by simpa using hw)) ⟨.bl _, H, I, rfl, ?_⟩
  rw [show its.toArray.any (eqU x) = its.any (eqU x) by simp, any_eqU r fs]
  exact q
theorem call_len_seq : CallR X (.builtin "len") (fun xs H Q => ∃ p ys, xs = [.ref p] ∧ (SqL X.K H p ys ∨ SqT X.K H p ys) ∧ Q (.int ys.length) H) := by
 intro pins s σ H xs us Q I r h
 obtain ⟨p, ys, rfl, hq, q⟩ := h
 obtain ⟨u, rfl, rx⟩ := vals1 r
 cases rx
 have hn := line63
 rcases hq with hq | hq
 ·obtain ⟨its, r', pl, hz⟩ := I.list hq
  have hlen := r'.length
  exact Calls.call_len_list pl.isList (by simp only [List.size_toArray] <;> omega) ⟨.int ys.length, H, I.tok _, ⟨s.toks + 1, by rw [List.size_toArray, hlen]⟩, q⟩
 ·obtain ⟨its, r', pl, hz⟩ := I.tuple hq
  have hlen := r'.length
  exact len_tuple pl (by simp only [List.size_toArray] <;> omega) ⟨.int ys.length, H, I.tok _, ⟨s.toks + 1, by rw [List.size_toArray, hlen]⟩, q⟩
theorem call_len_str : CallR X (.builtin "len") (fun xs H Q => ∃ z, xs = [.str z] ∧ z.length ≤ sizeLine ∧ Q (.int z.length) H) := by
 intro pins s σ H xs us Q I r h
 obtain ⟨z, rfl, hz, q⟩ := h
 obtain ⟨u, rfl, t, rfl⟩ := vals1 r
 have hn := line63
 exact len_str (by omega) ⟨.int z.length, H, I.tok _, ⟨_, rfl⟩, q⟩
theorem CallR.or {f : Value} {r r' : List V → Hp → VK → Prop} (h : CallR X f r) (h' : CallR X f r') : CallR X f (fun xs H Q => r xs H Q ∨ r' xs H Q) := by
 intro pins s σ H xs us Q I rs q
 rcases q with q | q
 ·exact h pins s σ H xs us Q I rs q
 ·exact h' pins s σ H xs us Q I rs q
theorem call_list_of : CallR X (.type "list") (fun xs H Q => ∃ p ys, xs = [.ref p] ∧ (SqL X.K H p ys ∨ SqT X.K H p ys) ∧ ∀ l, H l = none → Q (.ref l) (upd H l (.lst ys))) := by
 intro pins s σ H xs us Q I r h
 obtain ⟨p, ys, rfl, hq, q⟩ := h
 obtain ⟨u, rfl, rx⟩ := vals1 r
 cases rx
 have fin : ∀ (its : List Value), Vals ys its → ys.length ≤ sizeLine → ∀ (h' : Heap) (c' : Nat), (∀ b o', s.heap.get? b = some o' → h'.get? b = some o') →
   h'.get? s.heap.objs.size = some { cls := .type "list", dict := none, data := .seq its.toArray c', slots := #[] } → EP X pins σ Q (.ref s.heap.objs.size) { s with heap := h' } := fun its r' hz h' c' kp e =>
  ⟨.ref s.heap.objs.size, _, I.laid (t' := s.toks) kp (Nat.le_refl _) (show ObjOk X.prog X.w _ h' _ (.lst ys) from ⟨hz, its, c', r', e⟩), rfl, q _ (I.hok.fresh (Nat.le_refl _))⟩
 rcases hq with hq | hq
 ·obtain ⟨its, r', pl, hz⟩ := I.list hq
  have hlen := r'.length
  obtain ⟨o, ho, hc, n, hd⟩ := pl.isList
  exact call_list_seq p (.inl rfl) ho hc hd (fun h' c' kp e => fin its r' hz h' c' kp e) (by simp only [List.size_toArray] <;> omega)
 ·obtain ⟨its, r', pl, hz⟩ := I.tuple hq
  have hlen := r'.length
  obtain ⟨o, ho, hc, n, hd⟩ := pl
  exact call_list_seq p (.inr rfl) ho hc hd (fun h' c' kp e => fin its r' hz h' c' kp e) (by simp only [List.size_toArray] <;> omega)
theorem call_tuple_of : CallR X (.type "tuple") (fun xs H Q => ∃ p ys, xs = [.ref p] ∧ ((SqL X.K H p ys ∧ ∀ l, H l = none → Q (.ref l) (upd H l (.tup ys))) ∨ (SqT X.K H p ys ∧ Q (.ref p) H))) := by
 intro pins s σ H xs us Q I r h
 obtain ⟨p, ys, rfl, h⟩ := h
 obtain ⟨u, rfl, rx⟩ := vals1 r
 cases rx
 rcases h with ⟨hq, q⟩ | ⟨hq, q⟩
 ·obtain ⟨its, r', pl, hz⟩ := I.list hq
  have hlen := r'.length
  refine call_tuple_list pl.isList (fun h' kp => ?_) (by simp only [List.size_toArray] <;> omega)
  have I1 : Inv X pins σ H { s with heap := h' } := I.kept (t' := s.toks) kp
  have I2 : Inv X pins σ (upd H h'.objs.size (.tup ys)) { s with heap := h'.push { cls := .type "tuple", data := .seq its.toArray } } :=
   I1.laid (t' := s.toks) (fun b o e => Heap.get?_push_of_some _ e) (Nat.le_refl _) (show ObjOk X.prog X.w _ _ _ (.tup ys) from ⟨hz, its, r', IsTup.new _ _⟩)
  exact ⟨.ref h'.objs.size, _, I2, rfl, q _ (I1.hok.fresh (Nat.le_refl _))⟩
 ·obtain ⟨its, r', pl, hz⟩ := I.tuple hq
  exact call_tuple_same pl ⟨.ref p, H, I, rfl, q⟩
def tyV (K : PySem.W.Frag) (T : String) (x : V) (H : Hp) : Prop := match x with
 | .str _ => T = "str"
 | .int _ => T = "int"
 | .ref p => (T = "list" ∧ ∃ xs, SqL K H p xs) ∨ (T = "tuple" ∧ ∃ o, K.lookup p = some o ∧ o.cls = .type "tuple" ∧ o.dict = none) ∨
   (T = "dict" ∧ ((∃ kvs, H p = some (.dK kvs)) ∨ ∃ kvs, H p = some (.dT kvs))) ∨ (T = "set" ∧ ∃ S n, H p = some (.set S n))
 | _ => False
theorem tyV_is {pins : List (Addr × Obj)} {σ : St} {H : Hp} {s : Shared} {T : String} {x : V} {v : Value} (I : Inv X pins σ H s) (r : RelV x v) (ty : tyV X.K T x H) :
    s.TypeIs v T ∧ ∀ a, v = .ref a → ∃ ob, s.heap.get? a = some ob ∧ ob.dict = none := by
  cases x with
  | str z =>
    obtain ⟨t, rfl⟩ := r
    cases (show T = "str" from ty)
    exact ⟨typeIs_str s z t, fun _ e => nomatch e⟩
  | int i =>
    obtain ⟨t, rfl⟩ := r
    cases (show T = "int" from ty)
    exact ⟨typeIs_int s i t, fun _ e => nomatch e⟩
  | ref p =>
    cases r
    rcases ty with ⟨rfl, xs, hq⟩ | ⟨rfl, o, hk, hc, hd⟩ | ⟨rfl, hk⟩ | ⟨rfl, S, n, hk⟩
    · obtain ⟨its, _, pl, _⟩ := I.list hq
      refine ⟨pl.isList.typeIs, fun a e => ?_⟩
      cases e
      obtain ⟨o, n, e, c, hd, _⟩ := pl
      exact ⟨o, e, hd⟩
    · refine ⟨⟨o, I.kIn p o hk, hc⟩, fun a e => ?_⟩
      cases e
      exact ⟨o, I.kIn _ o hk, hd⟩
    · have z : ∃ o, s.heap.get? p = some o ∧ o.ExactDict := by
        rcases hk with ⟨kvs, hk⟩ | ⟨kvs, hk⟩
        · obtain ⟨_, _, _, _, o, _, _, e, ex, _⟩ := I.hok p _ hk
          exact ⟨o, e, ex⟩
        · obtain ⟨_, _, _, _, o, _, _, e, ex, _⟩ := I.hok p _ hk
          exact ⟨o, e, ex⟩
      obtain ⟨o, e, ex⟩ := z
      refine ⟨⟨o, e, ex.1⟩, fun a e2 => ?_⟩
      cases e2
      exact ⟨o, e, ex.2.1⟩
    · obtain ⟨o, _, _, _, e, ex, _⟩ := I.hok p _ hk
      refine ⟨⟨o, e, ex.1⟩, fun a e2 => ?_⟩
      cases e2
      exact ⟨o, e, ex.2.1⟩
  | _ => exact False.elim ty
def tBM0 (K : PySem.W.Frag) (T : String) (r : V → List V → Hp → VK → Prop) (to : TE) : TE := fun σ H Q => to σ H fun x H1 => tyV K T x H1 ∧ r x [] H1 Q
def tBM (K : PySem.W.Frag) (T : String) (r : V → List V → Hp → VK → Prop) (to : TE) (t : TA) : TE := fun σ H Q => to σ H fun x H1 => tyV K T x H1 ∧ t σ H1 fun xs H2 => r x xs H2 Q
variable {o e : Expr} {es : List Expr} {to : TE} {t : TA} {name : Str} {apos cpos : Pos} {T id : String} {r : V → List V → Hp → VK → Prop}
theorem pe_bm0 (pa : PlainAttrs T) (slot : Slot T name id) (hty : typeOf (.builtin id) = pure (.type "method_descriptor")) (hm : MtR X id r) (ho : PE X o to)
  (hbase : attributeBase o name X.env (eval o X.env) = eval o X.env := by rfl) (hline : (apos.endLine == cpos.line) = true := by rfl) : PE X (.Call (.Attribute o name apos) [] [] cpos) (tBM0 X.K T r to) := by
 intro pins s σ H Q I h
 refine wpAny_Call_method0_late hbase hline (thn (ho pins s σ H _ I h) fun v s1 ⟨x, H1, I1, r1, ty, q1⟩ => ?_)
 obtain ⟨h1, h2⟩ := tyV_is I1 r1 ty
 exact ⟨T, id, pa, slot, hty, h1, h2, Calls.callWith_builtin rfl (PySem.evalArgs_none (hm pins s1 σ H1 x [] v [] Q I1 r1 .nil q1))⟩
theorem pe_bm (pa : PlainAttrs T) (slot : Slot T name id) (hty : typeOf (.builtin id) = pure (.type "method_descriptor")) (hm : MtR X id r) (ho : PE X o to) (ha : PA X (e :: es) t)
  (hbase : attributeBase o name X.env (eval o X.env) = eval o X.env := by rfl)
  (hfew : ((backTo cpos (starEach (e :: es) X.env)).all (fun x => !x.1) && (backToKw cpos (keywordEach [] X.env)).all (fun x => x.1.isSome)
   && decide ((e :: es).length + ([] : List Keyword).length + (if ([] : List Keyword).isEmpty then 0 else 1) < 30)) = true := by rfl)
  (hline : (apos.endLine == cpos.line) = true := by rfl) (hs : starEach (e :: es) X.env = (false, eval e X.env) :: starEach es X.env := by rfl) (hplain : (backTo cpos (starEach es X.env)).any (·.1) = false := by rfl) :
  PE X (.Call (.Attribute o name apos) (e :: es) [] cpos) (tBM X.K T r to t) := by
 intro pins s σ H Q I h
 refine wpAny_Call_method_late hbase hfew hline rfl (thn (ho pins s σ H _ I h) fun v s1 ⟨x, H1, I1, r1, ty, q1⟩ => ?_)
 obtain ⟨h1, h2⟩ := tyV_is I1 r1 ty
 refine ⟨T, id, pa, slot, hty, h1, h2, ?_⟩
 have hA := ha cpos pins s1 σ H1 _ I1 q1
 rw [hs] at hA ⊢
 refine Calls.callWith_builtin (by show (false || (backTo cpos (starEach es X.env)).any (·.1)) = false; rw [hplain] <;> rfl) (Calls.evalArgs_plain ?_)
 exact thn hA fun us s2 ⟨vs, H2, I2, r2, q2⟩ => hm pins s2 σ H2 x vs v us Q I2 r1 r2 q2
end
end L2
namespace L2
open PySem PySem.Spec PyProof.Rows
def MtM (X : Cx) (id : String) (r : V → List V → Hp → VK → Prop) : Prop :=
 ∀ (pins : List (Addr × Obj)) (s : Shared) (σ : St) (H : Hp) (x : V) (xs : List V) (v : Value) (us : List Value) (Q : VK), Inv X pins σ H s → RelV x v → Vals xs us → r x xs H Q →
  wpAny (model X.prog X.w) X.A (call (.builtin id) (v :: us)) (EP X pins σ Q) X.xe s
theorem Vals.one : ∀ {x : V} {us : List Value}, Vals [x] us → ∃ u, us = [u] ∧ RelV x u
 | _, _, .cons r .nil => ⟨_, rfl, r⟩
theorem Vals.zero : ∀ {us : List Value}, Vals [] us → us = []
 | _, .nil => rfl
theorem Vals.dropLast {xs : List V} {us : List Value} (h : Vals xs us) : Vals xs.dropLast us.dropLast := by
  induction h with
  | nil => exact .nil
  | cons r t ih =>
    cases t with
    | nil => exact .nil
    | cons q t' => exact .cons r ih
theorem Vals.eraseIdx : ∀ {xs : List V} {us : List Value} (i : Nat), Vals xs us → Vals (xs.eraseIdx i) (us.eraseIdx i)
 | _, _, _, .nil => .nil
 | _, _, 0, .cons _ t => t
 | _, _, i + 1, .cons r t => .cons r (Vals.eraseIdx i t)
theorem erase_last {α : Type} (l : List α) : l.eraseIdx (l.length - 1) = l.dropLast := by
  induction l with
  | nil => rfl
  | cons a r ih =>
    cases r with
    | nil => rfl
    | cons b r =>
      have e : (a :: b :: r).length - 1 = ((b :: r).length - 1) + 1 := by
        have h1 : (a :: b :: r).length = r.length + 2 := rfl
        have h2 : (b :: r).length = r.length + 1 := rfl
        omega
      rw [e, List.eraseIdx_cons_succ, ih]
      all_goals rfl
section
variable {X : Cx} {pins : List (Addr × Obj)} {σ : St} {H : Hp} {s : Shared} {l b : Addr} {xs ys zs : List V}
theorem Inv.lset {its its' : List Value} {n : Nat} {f : Array Value → Array Value} {t' : Nat} (I : Inv X pins σ H s) (hH : H l = some (.lst xs))
  (e : s.heap.get? l = some { cls := .type "list", data := .seq its.toArray n }) (hf : f its.toArray = its'.toArray) (hv : Vals ys its') (hz : ys.length ≤ sizeLine) :
  Inv X pins σ (upd H l (.lst ys)) { s with heap := s.heap.update l (Obj.mapSeq f), toks := t' } := by
 have q := PySem.IsL.update e f
 rw [hf] at q
 refine I.write (x := l) (e := l) (by rw [hH]; exact trivial) (.inl rfl) (fun b' u hb hu => (Heap.get?_update_other s.heap (Obj.mapSeq f) (Ne.symm hb)).trans hu) ⟨_, q⟩ ?_
 exact ⟨hz, its', _, hv, q⟩
theorem Inv.lnew {its : List Value} {t' : Nat} (I : Inv X pins σ H s) (hv : Vals ys its) (hz : ys.length ≤ sizeLine) :
  Inv X pins σ (upd H s.heap.objs.size (.lst ys)) { s with heap := s.heap.push { cls := .type "list", data := .seq its.toArray }, toks := t' } :=
 I.laid (fun _ _ q => Heap.get?_push_of_some _ q) (Nat.le_refl _) ⟨hz, its, 0, hv, Heap.get?_push_size _ rfl⟩
theorem Inv.fresh (I : Inv X pins σ H s) : H s.heap.objs.size = none := I.hok.fresh (Nat.le_refl _)
theorem Inv.lstM (I : Inv X pins σ H s) (hH : H l = some (.lst xs)) : xs.length ≤ sizeLine ∧ ∃ (its : List Value) (n : Nat), Vals xs its ∧ xs.length = its.length ∧ s.heap.get? l = some { cls := .type "list", data := .seq its.toArray n } := by
 obtain ⟨z, its, n, r, e⟩ := I.hok l _ hH
 exact ⟨z, its, n, r, r.length, e⟩
end
section
variable {X : Cx}
def rAppend : V → List V → Hp → VK → Prop := fun x vs H Q => ∃ l xs y, x = .ref l ∧ vs = [y] ∧ H l = some (.lst xs) ∧ xs.length < sizeLine ∧ Q .non (upd H l (.lst (xs ++ [y])))
theorem mt_append : MtM X "list.append" rAppend := by
 intro pins s σ H x vs v us Q I rx rv h
 obtain ⟨l, xs, y, rfl, rfl, hH, hz, q⟩ := h
 cases rx
 obtain ⟨u, rfl, ru⟩ := rv.one
 obtain ⟨z, its, n, r, hl, e⟩ := I.lstM hH
 refine call_meets F.slot_list_append ⟨_, e, rfl⟩ F.entry_list_append (F.args_list_append_2 _ _) (PySem.list_append l its.toArray n u (by rw [List.size_toArray]; omega)) ⟨e, ?_⟩
 refine ⟨.non, _, I.lset (its' := its ++ [u]) hH e (by simp) (r.append (.cons ru .nil)) ?_, rfl, q⟩
 rw [List.length_append, List.length_singleton]
 omega
def rPop : V → List V → Hp → VK → Prop := fun x vs H Q => ∃ l xs y, x = .ref l ∧ vs = [] ∧ H l = some (.lst xs) ∧ xs[xs.length - 1]? = some y ∧ Q y (upd H l (.lst xs.dropLast))
theorem mt_pop : MtM X "list.pop" rPop := by
 intro pins s σ H x vs v us Q I rx rv h
 obtain ⟨l, xs, y, rfl, rfl, hH, hy, q⟩ := h
 cases rx
 have hus := rv.zero
 subst hus
 obtain ⟨z, its, n, r, hl, e⟩ := I.lstM hH
 obtain ⟨u, hu, ru⟩ := r.get hy
 have hy' : its.toArray[its.toArray.size - 1]? = some u := by
  show its.toArray[its.length - 1]? = some u
  rw [← Array.getElem?_toList, ← hl]
  exact hu
 refine call_meets F.slot_list_pop ⟨_, e, rfl⟩ F.entry_list_pop (F.args_list_pop_1 _) (MeetsSeq.list_pop_last l its.toArray n u hy' (by rw [List.size_toArray]; omega)) ⟨e, ?_⟩
 refine ⟨y, _, I.lset (its' := its.dropLast) hH e ?_ r.dropLast ?_, ru, q⟩
 ·show its.toArray.eraseIdxIfInBounds (its.toArray.size - 1) = its.dropLast.toArray
  rw [List.size_toArray, List.eraseIdxIfInBounds_toArray, erase_last]
 ·rw [List.length_dropLast]
  omega
end
section
variable {prog : Program} {w : World} {A : Around} {E : Value → Shared → Prop} {s : Shared}
end
section
variable {X : Cx}
end
end L2
namespace Att
open PySem PySem.W PySem.Calls PyProof.Rows
theorem ints_of_wellAll {P : Params} {h : Heap} : ∀ (ns : List Int) (vs : List Value), WellAll P h vs (ns.map WData.int) → IntsAre vs ns := by
  intro ns
  induction ns with
  | nil =>
    intro vs w
    rw [List.map_nil] at w
    cases w
    exact .nil
  | cons n ns ih =>
    intro vs w
    rw [List.map_cons] at w
    cases w with
    | cons a b =>
      cases a
      exact .cons _ _ (ih _ b)
theorem script_of {l : OpenLaw} {n : Nat} (hn : l.most = some n) {P : Params} {h : Heap} {args : List WData} {vals : List Value}
    (hpre : l.row.toRowW.claim.pre args = true) (hwl : WellAll P h vals args) :
    ∃ a vs ns, vals = [Value.ref a] ∧ args = [WData.list (ns.map WData.int)] ∧ h.get? a = some { cls := .type "list", data := .seq vs.toArray } ∧ IntsAre vs ns ∧ ns.length ≤ n := by
  have hsh : WShape.hasAll [] args [.list .int] = true := (pre_splitW hpre).1
  have hc : l.pre.holds [] { args := args } = true := (pre_splitW hpre).2
  obtain ⟨d, r, rfl, h1, h2⟩ := hasAllW_cons hsh
  obtain rfl := hasAllW_nil h2
  obtain ⟨xs, rfl, h3⟩ := hasW_list h1
  obtain ⟨ns, rfl⟩ := items_int h3
  have hlen : ns.length ≤ n := by
    unfold OpenLaw.pre at hc
    have h4 : (WTm.not (.lt (.lit (.int (n : Int))) (.len (.arg 0)))).holds [] { args := [.list (ns.map .int)] } = true := by
      have h4 := (holds_andW hc).1
      rw [hn] at h4
      exact h4
    have h5 := condW_of h4 (w_not (w_lt w_lit (w_len_list (w_arg rfl))))
    rw [List.length_map] at h5
    refine Nat.le_of_not_lt fun q => ?_
    have q' : (n : Int) < ((ns.length : Nat) : Int) := by omega
    first
      | (rw [decide_eq_true q'] at h5; exact absurd h5 (by decide))
      | (simp at h5; omega)
  cases hwl with
  | cons w1 w2 =>
    cases w2
    cases w1 with
    | list ho hall => exact ⟨_, _, ns, rfl, rfl, ho, ints_of_wellAll ns _ hall, hlen⟩
theorem post_true (l : OpenLaw) (args : List WData) : l.row.toRowW.claim.post args (.bool true) args = true :=
 postW_of (r := l.row.toRowW) (X := (true == true))
  (show WShape.has [] (.bool true) .bool = true by first | rfl | decide | simp [WShape.has, WShape.arms, WShape.armsAll])
  (show (WTm.eq .res (.lit (.bool true))).value [] { args := args, res := some (.bool true), after := args } = some (.bool (true == true)) from w_eq_bool (w_res rfl) w_lit) rfl
theorem attach_call {l : OpenLaw} {n : Nat} {q : Program} {loose : List Str} {XP : (Str → Option Value) → Heap → Prop} {YP : World → Heap → Prop} {d : DefRec}
  (hn : l.most = some n) (hdf : d.params.defaults = [])
  (call : ∀ (w : World) (s₀ s₁ : Shared) (mg mb : Str → Option Value) (fa : Addr) (o : Obj) (pm cd doc : Value) (a : Addr) (vs : List Value) (ns : List Int),
   Ground q loose [] XP w s₀ mg mb s₁.heap → YP w s₁.heap →
   s₁.heap.get? fa = some o → o.data = .func (docDef d.name d.params d.body d.scope pm cd doc) → s₁.heap.CodeRec cd d.name → mg d.name = some (.ref fa) →
   s₁.heap.get? a = some { cls := .type "list", data := .seq vs.toArray } → IntsAre vs ns → ns.length ≤ n → s₁.gens = #[] →
   codeAny (model l.prog w) callerA (.call (.ref fa) ⟨[.ref a], []⟩) (fun r s' => r = .ok (.ret (.bool true)) ∧ OldK s₁.heap s'.heap ∧ s'.os = s₁.os ∧ AllBare s'.gens) s₁) :
  WalkO q loose XP YP l.row.toRowW d [] (fun f vs => PySem.call f vs) := by
 intro w s₀ s₁ mg mb G Y fa o pm cd doc dV kV ho hd hcd hD hmg hg args vals as hpre hlay hrd hwl hlo
 obtain rfl : dV = .none := Dflts.none hD hdf
 obtain rfl : kV = .none := Dflts.noKw hD
 obtain ⟨a, vs, ns, rfl, rfl, hobj, hints, hlen⟩ := script_of hn hpre hwl
 refine enter_call (codeAny_mono (call w s₀ s₁ mg mb fa o pm cd doc a vs ns G Y ho (fd_plain hd) hcd hmg hobj hints hlen hg) fun r s' hq => ?_)
 obtain ⟨rfl, h2, h3, h4⟩ := hq
 exact ⟨.inl ⟨.bool true, .bool true, [], rfl, fun _ => rfl, .bool true, post_true l _, fun _ => ⟨List.Pairwise.nil, fun _ hm => (nomatch hm)⟩⟩, h2, h3, h4⟩
section
variable {prog : Program} {w : World} {A : Around} {E : Value → Shared → Prop} {s : Shared} {K : Frag}
end
end Att
namespace L2
open PySem PySem.Spec PyProof.Rows
theorem vals_ints : ∀ {vs : List Value} {ns : List Int}, IntsAre vs ns → Vals (ns.map V.int) vs
 | _, _, .nil => .nil
 | _, _, .cons n t h => .cons ⟨t, rfl⟩ (vals_ints h)
def Only (H : Hp) : Prop := ∀ b, H b = none ∨ ∃ o xs, H b = some (.frz o (.lst xs))
theorem law_call {P : Program} {w : World} {K : PySem.W.Frag} {mg mb : Str → Option Value} {CX : CXT} {k : Nat} {fa a : Addr} {fd : FuncData} {x : Str} {sp : Sp} {s₁ : Shared} {vs : List Value} {ns : List Int}
    (KX : K.In s₁.heap) (hns : s₁.heap.Ns mainGlobals mg) (hb : s₁.heap.Ns builtinsNs mb) (hbb : ∀ x : Str, x ≠ "__name__" → mb x = bootBuiltins x) (hlim : s₁.heap.NoLimit) (hg : s₁.gens = #[])
    (ha : s₁.heap.get? a = some { cls := .type "list", data := .seq vs.toArray }) (hi : IntsAre vs ns) (hl : ns.length ≤ sizeLine) (hr : Room k callerA)
    (F : ∀ base : Heap, K.In base → base.Ns mainGlobals mg → FnOk P w K mg base CX k fa fd [x] sp) (hbind : ∀ (s : Shared) (u : Value), BindsTo s fd ⟨[u], []⟩ [(x, u)])
    (hsp : ∀ H : Hp, Only H → SqL K H a (ns.map V.int) → sp [.ref a] H (fun v _ => v = .bl true) fun _ _ _ => False)
    (hCX : ∀ H e s', CX [] H s₁ (fun _ _ _ => False) e s' → False) :
    codeAny (model P w) callerA (.call (.ref fa) ⟨[.ref a], []⟩) (fun r s' => r = .ok (.ret (.bool true)) ∧ OldK s₁.heap s'.heap ∧ s'.os = s₁.os ∧ AllBare s'.gens) s₁ := by
  have rv := vals_ints hi
  have lenV := hi.length
  -- from an abstract heap in which nothing but the script may be tracked
  have core : ∀ H : Hp, Only H → SqL K H a (ns.map V.int) → HOk P w H s₁.heap → (∀ b, H b ≠ none → b = a) → (H a ≠ none → K.lookup a = none) →
      codeAny (model P w) callerA (.call (.ref fa) ⟨[.ref a], []⟩) (fun r s' => r = .ok (.ret (.bool true)) ∧ OldK s₁.heap s'.heap ∧ s'.os = s₁.os ∧ AllBare s'.gens) s₁ := by
    intro H hO hS hok hA hK
    have base_of : ∀ {b : Addr} {o : Obj}, s₁.heap.get? b = some o → H b = none → (hidT s₁.heap H).get? b = some o := fun e n => hidT_get e n
    have noA : ∀ {b : Addr} {o : Obj} {es : Array DictEntry} {ep : Nat}, s₁.heap.get? b = some o → o.data = .dict es ep → H b = none := fun {b o es ep} e d => by
      cases q : H b with
      | none => rfl
      | some u =>
        have e' : b = a := hA b (by rw [q]; simp)
        subst e'
        rw [ha] at e; cases e
        have d' : Data.seq vs.toArray _ = Data.dict es ep := d
        cases d'
    have nsK : ∀ {b : Addr} {m : Str → Option Value}, s₁.heap.Ns b m → (hidT s₁.heap H).Ns b m := fun {b m} ⟨o, es, ep, e, d, r⟩ => ⟨o, es, ep, base_of e (noA e d), d, r⟩
    have hKb : K.In (hidT s₁.heap H) := fun b o e => base_of (KX b o e) (by
      cases q : H b with
      | none => rfl
      | some u =>
        have e' : b = a := hA b (by rw [q]; simp)
        subst e'
        rw [hK (by rw [q]; simp)] at e; cases e)
    have hM : Mod K mg (hidT s₁.heap H) := ⟨hKb, nsK hns, ⟨mb, nsK hb, hbb⟩, let ⟨mc, h1, h2⟩ := hlim; ⟨mc, nsK h1, h2⟩⟩
    have e0 : Env0 P w K mg (hidT s₁.heap H) callerA [] s₁ H := ⟨rfl, hM, fun b o e => of_hidT e, Nat.le_of_eq (hidT_size _ _), trivial, fun b hb => absurd (show b ∈ ([] : List Addr) from hb) (by simp), hok, .of_eq hg⟩
    refine codeAny_mono ((F _ hKb (nsK hns)).run callerA [] s₁ H ⟨[.ref a], []⟩ [.ref a] [.ref a] _ _ hr e0 (hbind s₁ (.ref a)) (.cons rfl .nil) (hsp H hO hS)) fun r s' h => ?_
    cases r with
    | error e => exact (hCX H e s' h).elim
    | ok fl =>
      cases fl with
      | next => exact False.elim h
      | brk => exact False.elim h
      | cont => exact False.elim h
      | ret u =>
        obtain ⟨v, H', os, bare, un, hok', r', q⟩ := h
        have q' : v = .bl true := q
        subst q'
        obtain rfl : u = Value.bool true := r'
        refine ⟨rfl, OldK.of_keep fun b o e => ?_, os, bare⟩
        cases q : H b with
        | none => exact un.keep b o e q (by intro z; exact absurd (show b ∈ ([] : List Addr) from z) (by simp)) (by simp)
        | some u =>
          rcases hO b with z | ⟨ob, xs, z⟩
          · rw [q] at z; cases z
          · have z2 := un.frzs b ob _ z
            obtain ⟨e1, _⟩ := hok b _ z
            obtain ⟨e2, _⟩ := hok' b _ z2
            rw [e] at e1; cases e1
            exact e2
  cases hk : K.lookup a with
  | some o =>
    -- the script is one of the module's own objects
    have e := KX a o hk
    rw [ha] at e
    cases e
    refine core (fun _ => none) (fun _ => .inl rfl) (.inr ⟨_, vs.toArray, _, hk, rfl, rfl, rfl, by rw [List.size_toArray, lenV]; exact hl, by simpa using rv⟩) (fun b u z => by have z' : (none : Option HO) = some u := z; cases z') (fun b z => absurd rfl z) fun z => absurd rfl z
  | none =>
    refine core (fun b => if b = a then some (.frz { cls := .type "list", data := .seq vs.toArray } (.lst (ns.map V.int))) else none) (fun b => ?_) (.inl (.inr ⟨{ cls := .type "list", data := .seq vs.toArray }, if_pos rfl⟩)) (fun b u z => ?_) (fun b z => ?_) fun _ => hk
    · by_cases hb : b = a
      · exact .inr ⟨_, _, if_pos hb⟩
      · exact .inl (if_neg hb)
    · by_cases hb : b = a
      · have z' := (if_pos hb).symm.trans z
        cases z'
        subst hb
        exact ⟨ha, by rw [List.length_map]; exact hl, vs, _, rv, ha⟩
      · have z' := (if_neg hb).symm.trans z
        cases z'
    · by_cases hb : b = a
      · exact hb
      · exact absurd (if_neg hb) z
end L2
namespace L2
open PySem PySem.Spec PyProof.Rows
theorem walk_of {l : PySem.W.OpenLaw} {n k : Nat} {q : Program} {loose : List Str} {XP : (Str → Option Value) → Heap → Prop} {YP : World → Heap → Prop} {d : DefRec} {K : Params → PySem.W.Frag} {CX : World → CXT} {sp : World → Sp} {x : Str}
  (hn : l.most = some n) (hn2 : n ≤ sizeLine) (hdf : d.params.defaults = []) (hr : Room k callerA)
  (hY : ∀ (w : World) (h : Heap), YP w h → (K w.params).In h)
  (F : ∀ (w : World) (mg : Str → Option Value) (fa : Addr) (h : Heap), (K w.params).In h → h.Ns mainGlobals mg → mg d.name = some (.ref fa) →
   ∃ fd : FuncData, (∀ (s : Shared) (u : Value), BindsTo s fd ⟨[u], []⟩ [(x, u)]) ∧
    ∀ base : Heap, (K w.params).In base → base.Ns mainGlobals mg → FnOk l.prog w (K w.params) mg base (CX w) k fa fd [x] (sp w))
  (hsp : ∀ (w : World) (H : Hp) (a : Addr) (ns : List Int), ns.length ≤ n → Only H → SqL (K w.params) H a (ns.map V.int) → sp w [.ref a] H (fun v _ => v = .bl true) fun _ _ _ => False)
  (hCX : ∀ (w : World) (H : Hp) (s : Shared) (e : Value) (s' : Shared), CX w [] H s (fun _ _ _ => False) e s' → False) :
  PySem.W.WalkO q loose XP YP l.row.toRowW d [] (fun f vs => PySem.call f vs) := by
 refine Att.attach_call hn hdf fun w s₀ s₁ mg mb fa o pm cd doc a vs ns G Y ho hd hcd hmg hobj hints hlen hg => ?_
 have KX := hY w _ Y
 obtain ⟨fd, hb, hF⟩ := F w mg fa _ KX G.T.g hmg
 exact law_call KX G.T.g G.T.b G.T.builtins G.T.nolimit hg hobj hints (Nat.le_trans hlen hn2) hr hF hb (fun H hO hS => hsp w H a ns hlen hO hS) fun H e s' => hCX w H s₁ e s'
theorem walk_ofK {l : PySem.W.OpenLaw} {n k : Nat} {q : Program} {loose : List Str} {XP : (Str → Option Value) → Heap → Prop} {YP : World → Heap → Prop} {d : DefRec} {K : Params → PySem.W.Frag} {CX : CXT} {sp : PySem.W.Frag → Sp} {x : Str}
  (hn : l.most = some n) (hn2 : n ≤ sizeLine) (hdf : d.params.defaults = []) (hr : Room k callerA)
  (hY : ∀ (w : World) (h : Heap), YP w h → (K w.params).In h)
  (F : ∀ (w : World) (mg : Str → Option Value) (fa : Addr) (h : Heap), (K w.params).In h → h.Ns mainGlobals mg → mg d.name = some (.ref fa) →
   ∃ fd : FuncData, (∀ (s : Shared) (u : Value), BindsTo s fd ⟨[u], []⟩ [(x, u)]) ∧
    ∀ base : Heap, (K w.params).In base → base.Ns mainGlobals mg → FnOk l.prog w (K w.params) mg base CX k fa fd [x] (sp (K w.params)))
  (hsp : ∀ (K : PySem.W.Frag) (H : Hp) (a : Addr) (ns : List Int), ns.length ≤ n → Only H → SqL K H a (ns.map V.int) → sp K [.ref a] H (fun v _ => v = .bl true) fun _ _ _ => False)
  (hCX : ∀ (H : Hp) (s : Shared) (e : Value) (s' : Shared), CX [] H s (fun _ _ _ => False) e s' → False) :
  PySem.W.WalkO q loose XP YP l.row.toRowW d [] (fun f vs => PySem.call f vs) :=
 walk_of (K := K) (CX := fun _ => CX) (sp := fun w => sp (K w.params)) hn hn2 hdf hr hY F (fun w H a ns h1 h2 h3 => hsp (K w.params) H a ns h1 h2 h3) fun _ H s e s' => hCX H s e s'
end L2
namespace L2
open PySem PySem.Spec PyProof.Rows
def defArgs (s : Stmt) : Arguments := match s with
 | .FunctionDef _ a _ _ _ _ _ _ _ _ => a
 | _ => { posonlyargs := [], args := [], vararg := none, kwonlyargs := [], kw_defaults := [], kwarg := none, defaults := [] }
def defBody (s : Stmt) : List Stmt := match s with
 | .FunctionDef _ _ b _ _ _ _ _ _ _ => b
 | _ => []
def defScope (s : Stmt) : Scope := match s with
 | .FunctionDef _ _ _ _ _ _ sc _ _ _ => sc
 | _ => { kind := .function, names := [], isGenerator := false, isCoroutine := false }
abbrev CX0 : CXT := fun _ _ _ _ _ _ => False
abbrev E0 : XK := fun _ _ _ => False
theorem pass0 {X : Cx} : Passes CX0 X E0 := fun _ _ _ _ _ _ _ h => h.elim
structure Fun (K : PySem.W.Frag) (x qual : Str) (st : Stmt) (f : Addr) (fd : FuncData) : Prop where
 ex : ∃ (oc : Value) (od : Option Addr) (kV doc pm : Value) (an : Option Addr) (cdv ct : Value) (osl : Array (Option Value)),
  fd = PySem.W.fnOf x qual (defArgs st) (defBody st) (defScope st) .none kV doc pm an cdv ct ∧ K.lookup f = some ⟨oc, od, .func fd, osl⟩ ∧ PySem.W.codeIn K cdv qual = true
 kp : PySem.W.keepIn K (.ref f) = true
section
variable {P : Program} {w : World} {K : PySem.W.Frag} {mg : Str → Option Value} {base : Heap}
theorem Fun.binds {x qual : Str} {st : Stmt} {f : Addr} {fd : FuncData} {ps : List Str} (F : Fun K x qual st f fd)
  (h : ∀ (kV doc pm : Value) (an : Option Addr) (cdv ct : Value) (us : List Value), us.length = ps.length → bindArgs (PySem.W.fnOf x qual (defArgs st) (defBody st) (defScope st) .none kV doc pm an cdv ct) ⟨us, []⟩ = pure (ps.zip us)) : Binds K fd ps [] := by
 obtain ⟨oc, od, kV, doc, pm, an, cdv, ct, osl, rfl, lk, hcd⟩ := F.ex
 exact .all (h kV doc pm an cdv ct)
theorem fun_mk {x qual : Str} {st : Stmt} {f : Addr} {oc : Value} {od an : Option Addr} {osl : Array (Option Value)} {kV doc pm cdv ct : Value} (l : K.lookup f = some ⟨oc, od, .func (PySem.W.fnOf x qual (defArgs st) (defBody st) (defScope st) .none kV doc pm an cdv ct), osl⟩)
  (c : PySem.W.codeIn K cdv qual = true) (k : PySem.W.keepIn K (.ref f) = true) : Fun K x qual st f (PySem.W.fnOf x qual (defArgs st) (defBody st) (defScope st) .none kV doc pm an cdv ct) := ⟨⟨oc, od, kV, doc, pm, an, cdv, ct, osl, rfl, l, c⟩, k⟩
end
section
variable {X : Cx}
end
def Same (H H' : Hp) : Prop := ∀ b o, H b = some o → H' b = some o
theorem Same.refl (H : Hp) : Same H H := fun _ _ h => h
theorem Same.trans {H H1 H2 : Hp} (a : Same H H1) (b : Same H1 H2) : Same H H2 := fun c o h => b c o (a c o h)
theorem Same.free {H H' : Hp} (e : Same H H') {l : Addr} (h : H' l = Option.none) : H l = Option.none := by
  cases q : H l with
  | none => rfl
  | some o =>
    rw [e l o q] at h
    cases h
theorem Same.seq {K : PySem.W.Frag} {H H' : Hp} {a : Addr} {xs : List V} (e : Same H H') (h : SqL K H a xs) : SqL K H' a xs := by
 rcases h with (h | ⟨o, h⟩) | h
 ·exact .inl (.inl (e _ _ h))
 ·exact .inl (.inr ⟨o, e _ _ h⟩)
 ·exact .inr h
end L2
set_option maxHeartbeats 4000000
namespace L2
open PySem PySem.Spec PyProof.Rows
end L2
namespace L2
open PySem PySem.Spec PyProof.Rows
section
variable (P : Program) (w : World)
end
section
variable {P : Program} {w : World} {H H' : Hp} {h h' : Heap} {a : Addr} {o : HO}
end
section
variable {P : Program} {w : World} {H : Hp} {h h' : Heap} {x e : Addr} {o' : HO}
end
section
variable {fs fs' ex ex' : List Addr} {H H1 H2 : Hp} {h h1 h2 h' : Heap} {a x e : Addr} {o : HO}
end
end L2
namespace L2
open PySem PySem.Spec PyProof.Rows
section
variable {X : Cx} {pins : List (Addr × Obj)} {σ : List (Option V)} {H H' : Hp} {s : Shared} {h' : Heap}
end
end L2
namespace L2
open PySem PySem.Spec PyProof.Rows
section
variable {X : Cx}
variable {a b : Expr} {ta tb : TE} {pos : Pos}
variable {tA tB' : TT} {rest : List Expr}
end
end L2
namespace L2
open PySem PySem.Spec PyProof.Rows
section
variable {X : Cx} {pins : List (Addr × Obj)} {σ : St} {H : Hp} {s : Shared} {a : Addr} {xs ys : List V}
end
section
variable {X : Cx} {pins : List (Addr × Obj)} {σ : St} {H : Hp} {s : Shared} {E : Value → Shared → Prop}
end
section
variable {X : Cx} {st : Stmt} {rest : List Stmt} {t u : TS} {e : Expr} {te : TE} {pos : Pos}
end
section
variable {X : Cx} {pos : Pos}
end
section
variable {X : Cx} {pos : Pos}
end
end L2
namespace L2
open PySem PySem.Spec PyProof.Rows
section
variable {X : Cx} {tg : Expr}
end
end L2
namespace L2
open PySem PySem.Spec PyProof.Rows
section
variable {X : Cx} {a b c : Expr} {ta tb tc : TE} {pos : Pos}
end
section
variable {X : Cx} {a b c : Expr} {ta tb tc : TE} {pos : Pos}
end
end L2
namespace L2
open PySem PySem.Spec PyProof.Rows
section
variable {prog : Program} {w : World} {A : Around} {E : Value → Shared → Prop} {s : Shared} {K : PySem.W.Frag} {x dx C f : Addr} {mA : Str → Option Value} {name : Str} {v : Value}
end
section
variable {P : Program} {w : World} {H H' : Hp} {h h' : Heap} {a C dx : Addr} {fs fs' : List (Str × V)}
end
section
variable {X : Cx} {pins : List (Addr × Obj)} {σ : St} {H : Hp} {s : Shared} {a C dx : Addr} {fs : List (Str × V)} {f : Str} {v : V} {A : Around} {E : Value → Shared → Prop}
end
section
variable {X : Cx} {o e value : Expr} {f : Str} {pos pos' tpos : Pos} {ta tv : TE}
end
section
variable {X : Cx} {pins : List (Addr × Obj)} {σ : St} {H : Hp} {s : Shared} {A : Around} {E : Value → Shared → Prop} {Q : Value → Shared → Prop} {c : Value} {b : Bool}
end
end L2
namespace L2
open PySem PySem.Spec PyProof.Rows
section
variable {X : Cx} {e : Expr} {es : List Expr} {te : TE} {t : TA} {pos : Pos}
end
section
variable {X : Cx} {pins : List (Addr × Obj)} {σ : St} {H : Hp} {s s' : Shared}
end
section
variable {X : Cx} {CX : CXT} {k : Nat} {f C : Addr} {fd : FuncData} {ps : List Str} {sp : Sp} {dvs : List V} {ds : List Value} {E : XK} {x m : Str} {p pos apos : Pos} {e o : Expr} {es : List Expr} {ta : TE} {t : TA}
end
section
variable {X : Cx} {CX : CXT} {k : Nat} {f C : Addr} {fd : FuncData} {ps ks : List Str} {sp : Sp} {E : XK} {x m : Str} {p pos apos kpos : Pos} {e o : Expr} {es : List Expr} {kws : List Keyword} {te ta : TE} {t tk : TA} {nm : Option Str}
variable {g : List Value → List Value → List Value} {gV : List V → List V → List V}
end
end L2
namespace L2
open PySem PySem.Spec PyProof.Rows
section
variable {X : Cx} {x : Str} {p pos : Pos} {e : Expr} {es : List Expr} {t : TA} {id T : String} {r : List V → Hp → VK → Prop}
end
end L2
namespace L2
open PySem PySem.Spec PyProof.Rows
section
variable {κ : Type} [DecidableEq κ]
def valV (kvs : List (κ × V)) (k : κ) : Option V := (kvs.find? fun kv => decide (kv.1 = k)).map (·.2)
def putK (kvs : List (κ × V)) (k : κ) (v : V) : List (κ × V) :=
 if (kvs.any fun kv => decide (kv.1 = k)) = true then kvs.map (fun kv => if kv.1 = k then (kv.1, v) else kv) else kvs ++ [(k, v)]
theorem valV_pos {p : κ × V} {r : List (κ × V)} {k : κ} (e : p.1 = k) : valV (p :: r) k = some p.2 := by simp [valV, List.find?_cons, e]
theorem valV_neg {p : κ × V} {r : List (κ × V)} {k : κ} (e : ¬ p.1 = k) : valV (p :: r) k = valV r k := by simp [valV, List.find?_cons, e]
theorem valV_any (k : κ) : ∀ kvs : List (κ × V), (kvs.any fun kv => decide (kv.1 = k)) = (valV kvs k).isSome
  | [] => rfl
  | p :: r => by
    rw [List.any_cons]
    by_cases e : p.1 = k
    · simp only [valV_pos e, decide_eq_true e, Bool.true_or, Option.isSome_some]
    · rw [valV_neg e, decide_eq_false e, Bool.false_or]; exact valV_any k r
theorem length_putK (kvs : List (κ × V)) (k : κ) (v : V) : (putK kvs k v).length ≤ kvs.length + 1 := by
 unfold putK
 split
 ·rw [List.length_map]; omega
 ·rw [List.length_append, List.length_cons, List.length_nil]; omega
theorem RelO.isSome_eq {o : Option V} {u : Option Value} (r : RelO o u) : o.isSome = u.isSome := by
  cases o with
  | none => cases u with
    | none => rfl
    | some _ => exact (show False from r).elim
  | some _ => cases u with
    | none => exact (show False from r).elim
    | some _ => rfl
theorem RelO.getD {o : Option V} {u : Option Value} {d : V} {d' : Value} (r : RelO o u) (rd : RelV d d') : RelV (o.getD d) (u.getD d') := by
  cases o with
  | none => cases u with
    | none => exact rd
    | some _ => exact (show False from r).elim
  | some _ => cases u with
    | none => exact (show False from r).elim
    | some _ => exact r
theorem KV.val {kvs : List (κ × V)} {vs : List (κ × Value)} (r : KV kvs vs) (k : κ) : RelO (valV kvs k) (valueAt vs k) := by
  unfold KV at r
  induction r with
  | nil => exact True.intro
  | @cons p q ps qs h t ih =>
    obtain ⟨h1, h2⟩ := h
    by_cases e : p.1 = k
    · have e' : q.1 = k := h1.symm.trans e
      have b : valueAt (q :: qs) k = some q.2 := by simp [valueAt, List.find?_cons, e']
      rw [valV_pos e, b]; exact h2
    · have e' : ¬ q.1 = k := fun z => e (h1.trans z)
      have b : valueAt (q :: qs) k = valueAt qs k := by simp [valueAt, List.find?_cons, e']
      rw [valV_neg e, b]; exact ih
theorem KV.any {kvs : List (κ × V)} {vs : List (κ × Value)} (r : KV kvs vs) (k : κ) : (kvs.any fun kv => decide (kv.1 = k)) = vs.any fun kv => decide (kv.1 = k) := by
 unfold KV at r
 induction r with
 | nil => rfl
 | cons h t ih => rw [List.any_cons, List.any_cons, ih, h.1]
theorem KV.repl {kvs : List (κ × V)} {vs : List (κ × Value)} (r : KV kvs vs) (k : κ) {y : V} {u : Value} (ry : RelV y u) :
    KV (kvs.map fun kv => if kv.1 = k then (kv.1, y) else kv) (vs.map fun kv => if kv.1 = k then (kv.1, u) else kv) := by
  unfold KV at r ⊢
  induction r with
  | nil => exact .nil
  | @cons p q ps qs h t ih =>
    rw [List.map_cons, List.map_cons]
    refine .cons ?_ ih
    obtain ⟨h1, h2⟩ := h
    by_cases e : p.1 = k
    · rw [if_pos e, if_pos (h1.symm.trans e)]; exact ⟨h1, ry⟩
    · rw [if_neg e, if_neg (fun z => e (h1.trans z))]; exact ⟨h1, h2⟩
theorem KV.put {kvs : List (κ × V)} {vs : List (κ × Value)} (r : KV kvs vs) (k : κ) {y : V} {u : Value} (ry : RelV y u) : KV (putK kvs k y) (stored vs k u) := by
 unfold putK stored
 rw [r.any k]
 by_cases e : (vs.any fun kv => decide (kv.1 = k)) = true
 ·rw [if_pos e, if_pos e]; exact r.repl k ry
 ·rw [if_neg e, if_neg e]; exact Paired.snoc r ⟨rfl, ry⟩
theorem KV.keys {kvs : List (κ × V)} {vs : List (κ × Value)} (r : KV kvs vs) : kvs.map (·.1) = vs.map (·.1) := by
 unfold KV at r
 induction r with
 | nil => rfl
 | cons h t ih => rw [List.map_cons, List.map_cons, ih, h.1]
theorem KV.length {kvs : List (κ × V)} {vs : List (κ × Value)} (r : KV kvs vs) : kvs.length = vs.length := Paired.length r
end
theorem kV_is {P : Program} {w : World} {k : Key} {u : Value} (r : RelV (kV k) u) : (mixKind P w).is k u = true := by
 cases k with
 | inl i => obtain ⟨t, e⟩ := (show ∃ t, u = Value.int i t from r); subst e; exact mixKind_int P w i t
 | inr x => obtain ⟨t, e⟩ := (show ∃ t, u = Value.str x t from r); subst e; exact mixKind_str P w x t
theorem items_are {P : Program} {w : World} : ∀ {ks : List Key} {us : List Value}, Vals (ks.map kV) us → ItemsAre (mixKind P w) ks us
  | [], _, r => by rw [List.map_nil] at r; cases r; exact .nil
  | k :: ks, _, r => by
    rw [List.map_cons] at r
    cases r with
    | cons h t => exact .cons (kV_is h) (items_are t)
abbrev KT (H : Hp) : List (List Key × V) → List (List Key × Addr × Value) → Prop := Paired fun p q => p.1 = q.1 ∧ H q.2.1 = some (.tup (p.1.map kV)) ∧ RelV p.2 q.2.2
theorem KT.val {H : Hp} {kvs : List (List Key × V)} {xs : List (List Key × Addr × Value)} (r : KT H kvs xs) (k : List Key) : RelO (valV kvs k) ((atKey xs k).map (·.2)) := by
  induction r with
  | nil => exact True.intro
  | @cons p q ps qs h t ih =>
    obtain ⟨h1, _, h2⟩ := h
    by_cases e : p.1 = k
    · have e' : q.1 = k := h1.symm.trans e
      have b : atKey (q :: qs) k = some q.2 := by simp [atKey, List.find?_cons, e']
      rw [valV_pos e, b]; exact h2
    · have e' : ¬ q.1 = k := fun z => e (h1.trans z)
      have b : atKey (q :: qs) k = atKey qs k := by simp [atKey, List.find?_cons, e']
      rw [valV_neg e, b]; exact ih
theorem KT.repl {H : Hp} {kvs : List (List Key × V)} {xs : List (List Key × Addr × Value)} (r : KT H kvs xs) (k : List Key) {y : V} {u : Value} (ry : RelV y u) :
    KT H (kvs.map fun kv => if kv.1 = k then (kv.1, y) else kv) (xs.map (putAt k u)) := by
  induction r with
  | nil => exact .nil
  | @cons p q ps qs h t ih =>
    rw [List.map_cons, List.map_cons]
    refine .cons ?_ ih
    obtain ⟨h1, h2, h3⟩ := h
    unfold putAt
    by_cases e : p.1 = k
    · rw [if_pos e, if_pos (h1.symm.trans e)]; exact ⟨h1, h2, ry⟩
    · rw [if_neg e, if_neg (fun z => e (h1.trans z))]; exact ⟨h1, h2, h3⟩
theorem KT.put {H : Hp} {kvs : List (List Key × V)} {xs : List (List Key × Addr × Value)} (r : KT H kvs xs) (k : List Key) {b : Addr} {y : V} {u : Value} (hb : H b = some (.tup (k.map kV))) (ry : RelV y u) :
  KT H (putK kvs k y) (storedH xs k b u) := by
 have e : (kvs.any fun kv => decide (kv.1 = k)) = (atKey xs k).isSome := by
  rw [valV_any, (r.val k).isSome_eq, Option.isSome_map]
 unfold putK storedH
 rw [e]
 by_cases q : (atKey xs k).isSome = true
 ·rw [if_pos q, if_pos q]; exact r.repl k ry
 ·rw [if_neg q, if_neg q]; exact Paired.snoc r ⟨rfl, hb, ry⟩
theorem KT.keeps {H H' : Hp} {kvs : List (List Key × V)} {xs : List (List Key × Addr × Value)} (r : KT H kvs xs) (ht : ∀ b ys, H b = some (.tup ys) → H' b = some (.tup ys)) : KT H' kvs xs :=
 Paired.mapP r fun _ _ z => ⟨z.1, ht _ _ z.2.1, z.2.2⟩
section
variable {P : Program} {w : World} {H : Hp} {h : Heap} {a : Addr}
theorem rd_of {u : HO} (ok : HOk P w H h) (e : Rd H a u) : ObjOk P w H h a u := e.ok ok
theorem dk_rd {kvs : List (Key × V)} (ok : HOk P w H h) (e : Rd H a (.dK kvs)) : kvs.length ≤ sizeLine ∧ (a == sysModules) = false ∧ ∃ vs, KV kvs vs ∧ h.DictOf (mixKind P w) a vs :=
 show ObjOk P w H h a (.dK kvs) from rd_of ok e
theorem dk_of {kvs : List (Key × V)} (ok : HOk P w H h) (e : H a = some (.dK kvs)) : kvs.length ≤ sizeLine ∧ (a == sysModules) = false ∧ ∃ vs, KV kvs vs ∧ h.DictOf (mixKind P w) a vs := dk_rd ok (.inl e)
theorem key_of {ks : List Key} (ok : HOk P w H h) (e : H a = some (.tup (ks.map kV))) : (tupleKind (mixKind P w)).is h ks a := by
 obtain ⟨_, its, r, o, h1, h2, n, h3⟩ := (show ObjOk P w H h a (.tup (ks.map kV)) from ok a _ e)
 exact ⟨o, its.toArray, n, h1, h2, h3, by simpa using items_are r⟩
theorem dt_rd {kvs : List (List Key × V)} (ok : HOk P w H h) (e : Rd H a (.dT kvs)) : kvs.length ≤ sizeLine ∧ (a == sysModules) = false ∧
    ∃ xs, KT H kvs xs ∧ h.DictOfH (tupleKind (mixKind P w)) a xs := by
  obtain ⟨z, y, xs, r, o, es, ep, h1, h2, h3, h4, h5⟩ := (show ObjOk P w H h a (.dT kvs) from rd_of ok e)
  refine ⟨z, y, xs, r, o, es, ep, h1, h2, h3, h4, fun x hx => ?_, h5⟩
  have all : ∀ {l : List (List Key × V)} {m : List (List Key × Addr × Value)}, KT H l m → ∀ x ∈ m, (tupleKind (mixKind P w)).is h x.1 x.2.1 := by
    intro l m q
    induction q with
    | nil => intro x hx; exact nomatch hx
    | @cons p q ps qs hq t ih =>
      intro x hx
      rcases List.mem_cons.mp hx with e | hx
      · subst e
        exact key_of ok (by rw [← hq.1]; exact hq.2.1)
      · exact ih x hx
  exact all r x hx
theorem dt_of {kvs : List (List Key × V)} (ok : HOk P w H h) (e : H a = some (.dT kvs)) : kvs.length ≤ sizeLine ∧ (a == sysModules) = false ∧
  ∃ xs, KT H kvs xs ∧ h.DictOfH (tupleKind (mixKind P w)) a xs := dt_rd ok (.inl e)
end
def DGet (H : Hp) (a : Addr) (y : V) (r : Option V) : Prop :=
 (∃ kvs k, Rd H a (.dK kvs) ∧ y = kV k ∧ r = valV kvs k) ∨ ∃ kvs k b, Rd H a (.dT kvs) ∧ y = .ref b ∧ H b = some (.tup (k.map kV)) ∧ r = valV kvs k
def DPut (H : Hp) (a : Addr) (y v : V) (H' : Hp) : Prop :=
 (∃ kvs k, H a = some (.dK kvs) ∧ y = kV k ∧ kvs.length < sizeLine ∧ H' = upd H a (.dK (putK kvs k v))) ∨
 ∃ kvs k b, H a = some (.dT kvs) ∧ y = .ref b ∧ H b = some (.tup (k.map kV)) ∧ kvs.length < sizeLine ∧ H' = upd H a (.dT (putK kvs k v))
theorem DGet.k {H : Hp} {a : Addr} {kvs : List (Key × V)} {k : Key} (e : H a = some (.dK kvs)) : DGet H a (kV k) (valV kvs k) := .inl ⟨kvs, k, .inl e, rfl, rfl⟩
theorem DGet.t {H : Hp} {a b : Addr} {kvs : List (List Key × V)} {k : List Key} (e : H a = some (.dT kvs)) (eb : H b = some (.tup (k.map kV))) : DGet H a (.ref b) (valV kvs k) := .inr ⟨kvs, k, b, .inl e, rfl, eb, rfl⟩
theorem DPut.k {H : Hp} {a : Addr} {kvs : List (Key × V)} {k : Key} {v : V} (e : H a = some (.dK kvs)) (hl : kvs.length < sizeLine) : DPut H a (kV k) v (upd H a (.dK (putK kvs k v))) := .inl ⟨kvs, k, e, rfl, hl, rfl⟩
theorem DPut.t {H : Hp} {a b : Addr} {kvs : List (List Key × V)} {k : List Key} {v : V} (e : H a = some (.dT kvs)) (eb : H b = some (.tup (k.map kV))) (hl : kvs.length < sizeLine) :
  DPut H a (.ref b) v (upd H a (.dT (putK kvs k v))) := .inr ⟨kvs, k, b, e, rfl, eb, hl, rfl⟩
section
variable {X : Cx} {pins : List (Addr × Obj)} {σ : St} {H : Hp} {s : Shared} {a : Addr} {y v : V} {u r : Value} {o : Option V} {A : Around} {E : Value → Shared → Prop}
theorem Inv.big (I : Inv X pins σ H s) : sysModules < s.heap.objs.size := by
 have h : mainGlobals < s.heap.objs.size := (I.mod.glob.keeps I.bk).lt
 exact Nat.lt_trans (by decide) h
theorem d_getItem {Q : Value → Shared → Prop} (hu : A.units + 1 < cLine) (I : Inv X pins σ H s) (g : DGet H a y (some v)) (ry : RelV y u) (h : ∀ w' s', Inv X pins σ H s' → RelV v w' → Q w' s') :
  wpAny (model X.prog X.w) A (getItem (.ref a) u) Q E s := by
 rcases g with ⟨kvs, k, e, ey, l⟩ | ⟨kvs, k, b, e, ey, eb, l⟩
 ·subst ey
  obtain ⟨z, hd, vs, rel, dd⟩ := dk_rd I.hok e
  obtain ⟨w', hw, rw'⟩ := RelO.some_of (v := v) (o := valueAt vs k) (by rw [l]; exact rel.val k)
  exact wpAny_getItem_of (kV_is ry) dd.mapOf hw (h w' _ (I.tok _) rw')
 ·subst ey
  cases (show u = Value.ref b from ry)
  obtain ⟨z, hd, xs, rel, dd⟩ := dt_rd I.hok e
  obtain ⟨w', hw, rw'⟩ := RelO.some_of (v := v) (o := (atKey xs k).map (·.2)) (by rw [l]; exact rel.val k)
  obtain ⟨p, hp, hp2⟩ := Option.map_eq_some_iff.mp hw
  refine wpAny_getItem_heap (tupleKind_room_in1 hu) (key_of I.hok eb) dd hp ?_
  rw [hp2]
  exact h w' _ (I.tok _) rw'
theorem d_write {h' : Heap} {t' : Nat} {ob : HO} (I : Inv X pins σ H s) (mu : Mut (H a)) (hs : Heap.SameBut a s.heap h') (he : ∃ q, h'.get? a = some q) (new : ObjOk X.prog X.w (upd H a ob) h' a ob) :
  Inv X pins σ (upd H a ob) { s with heap := h', toks := t' } :=
 I.write (x := a) (e := a) mu (.inl rfl) (fun b q hb z => (hs.2 b hb).trans z) he new
theorem dk_new {P : Program} {w : World} {H' : Hp} {h' : Heap} {kvs : List (Key × V)} {vs : List (Key × Value)} (z : kvs.length ≤ sizeLine) (hd : (a == sysModules) = false) (rel : KV kvs vs) (dd : h'.DictOf (mixKind P w) a vs) :
  ObjOk P w H' h' a (.dK kvs) := ⟨z, hd, vs, rel, dd⟩
theorem d_setItem {H' : Hp} {Q : Unit → Shared → Prop} (hu : A.units + 1 < cLine) (I : Inv X pins σ H s) (g : DPut H a y v H') (ry : RelV y u) (rv : RelV v r) (h : ∀ s', Inv X pins σ H' s' → Q () s') :
  wpAny (model X.prog X.w) A (setItem (.ref a) u r) Q E s := by
 rcases g with ⟨kvs, k, e, ey, l, eH⟩ | ⟨kvs, k, b, e, ey, eb, l, eH⟩
 ·subst ey eH
  obtain ⟨z, hd, vs, rel, dd⟩ := dk_of I.hok e
  have hz : vs.length ≤ sizeLine := by rw [← rel.length]; exact z
  have hl : (putK kvs k v).length ≤ sizeLine := by have := length_putK kvs k v; omega
  refine wpAny_setItem_pairs (hsz := hz) (kV_is ry) dd fun h' dd' hs => h _ ?_
  have he : ∃ q, h'.get? a = some q := let ⟨q, _, _, hq, _⟩ := dd'; ⟨q, hq⟩
  exact d_write I (by rw [e]; exact True.intro) hs he (dk_new hl hd (rel.put k rv) dd')
 ·subst ey eH
  cases (show u = Value.ref b from ry)
  obtain ⟨z, hd, xs, rel, dd⟩ := dt_of I.hok e
  have hz : xs.length ≤ sizeLine := by rw [← Paired.length rel]; exact z
  have hl : (putK kvs k v).length ≤ sizeLine := by have := length_putK kvs k v; omega
  refine wpAny_setItem_heap (hsz := hz) (tupleKind_room_in1 hu) (key_of I.hok eb) dd fun h' dd' hs => h _ ?_
  obtain ⟨q, es, ep, hq, h2, h3, h4, _, h5⟩ := dd'
  refine d_write I (by rw [e]; exact True.intro) hs ⟨q, hq⟩ ⟨hl, hd, _, (rel.put k eb rv).keeps fun c ys ec => ?_, q, es, ep, hq, h2, h3, h4, h5⟩
  rw [upd_ne (ne_of ec e (fun z => nomatch z))]
  exact ec
end
section
variable {X : Cx} {pins : List (Addr × Obj)} {σ : St} {H : Hp} {s : Shared} {a : Addr} {kvs : List (Key × V)} {k : Key} {u : Value} {A : Around} {E : Value → Shared → Prop}
end
def NoSl (i : Expr) : Prop := ∀ ov iv, subscripted i false ov iv = operate [ov, iv] (getItem ov iv)
theorem subD_of {prog : Program} {w : World} {A : Around} {E : Value → Shared → Prop} {s : Shared} {env : Env} {value slice : Expr} {pos : Pos} {T id : String} {Q : Value → Shared → Prop}
  (hl : typeLookup (.type T) "__getitem__" = pure (some (.builtin id))) (hs : NoSl slice)
  (h : wpAny (model prog w) A (eval value env) (fun o s₁ => wpAny (model prog w) A (eval slice env) (fun i s₂ => s₂.TypeIs o T ∧ wpAny (model prog w) A (getItem o i) Q E s₂) E s₁) E s) :
  wpAny (model prog w) A (eval (.Subscript value slice pos) env) Q E s := by
 refine Subscript_ (wpAny_mono h (fun o s₁ h₁ => wpAny_mono h₁ (fun i s₂ h₂ => ?_) fun _ _ x => x) fun _ _ x => x)
 obtain ⟨hT, h₂⟩ := h₂
 unfold subscriptTail
 refine wpAny_bind ?_
 rw [getitemInPython_of_ne hT.not_modules]
 refine wpAny_bind (wpAny_specialOf hT hl ?_)
 have fin : wpAny (model prog w) A (subscripted slice false o i) (fun r s₃ => wpAny (model prog w) A (letTemporaryGo value o r >>= fun _ => pure r) Q E s₃) E s₂ := by
  rw [hs o i]
  exact wpAny_operating (wpAny_mono h₂ (fun r s₃ h₃ => wpAny_bind (wpAny_letTemporaryGo (wpAny_pure h₃))) fun _ _ x => x)
 first
  | exact wpAny_pure (wpAny_bind fin)
  | exact wpAny_bind (wpAny_pure (wpAny_bind fin))
  | exact wpAny_bind fin
theorem dict_typeIs {X : Cx} {pins : List (Addr × Obj)} {σ : St} {H : Hp} {s : Shared} {a : Addr} {y : V} {o : Option V} (I : Inv X pins σ H s) (g : DGet H a y o) : s.TypeIs (.ref a) "dict" := by
 rcases g with ⟨kvs, k, e, _, _⟩ | ⟨kvs, k, b, e, _, _, _⟩
 ·obtain ⟨_, _, vs, _, dd⟩ := dk_rd I.hok e
  exact dd.typeIs
 ·obtain ⟨_, _, xs, _, dd⟩ := dt_rd I.hok e
  exact dd.typeIs
def tDGet (td ty : TE) : TE := fun σ H Q => td σ H fun x H1 => ty σ H1 fun y H2 => ∃ a v, x = .ref a ∧ DGet H2 a y (some v) ∧ Q v H2
def sDPut (td ty tv : TE) : TS := fun D σ H => tv σ H fun v H1 => td σ H1 fun x H2 => ty σ H2 fun y H3 => ∃ a H4, x = .ref a ∧ DPut H3 a y v H4 ∧ D.nx σ H4
section
variable {X : Cx} {o i e value : Expr} {pos pos' tpos : Pos} {td ty tv : TE}
theorem pe_dget (hu : X.A.units + 1 < cLine) (ho : PE X o td) (hi : PE X i ty) (hs : NoSl i) : PE X (.Subscript o i pos) (tDGet td ty) := by
 intro pins s σ H Q I h
 refine subD_of PySem.F.slot_dict_getitem.lookup hs (thn (ho pins s σ H _ I h) fun u s1 ⟨x, H1, I1, rx, q1⟩ => thn (hi pins s1 σ H1 _ I1 q1) fun iv s2 ⟨y, H2, I2, ry, a, v, ex, g, q2⟩ => ?_)
 subst ex
 obtain rfl : u = Value.ref a := rx
 exact ⟨dict_typeIs I2 g, d_getItem hu I2 g ry fun w' s3 I3 rw' => ⟨v, H2, I3, rw', q2⟩⟩
theorem ps_dput (hu : X.A.units + 1 < cLine) (ho : PE X o td) (hi : PE X i ty) (hv : PE X value tv) (hs : swapsWith value (some (.Subscript o i pos')) pos.line X.env = pure false) :
  PS X (.Assign [.Subscript o i pos'] value pos) (sDPut td ty tv) := by
 intro pins s σ H D I h
 refine wpAny_Assign_Subscript (thn (hv pins s σ H _ I h) fun r s1 ⟨v, H1, I1, rv, q1⟩ => thn (ho pins s1 σ H1 _ I1 q1) fun u s2 ⟨x, H2, I2, rx, q2⟩ => thn (hi pins s2 σ H2 _ I2 q2) fun iv s3 ⟨y, H3, I3, ry, a, H4, ex, g, q3⟩ => ?_) hs
 subst ex
 obtain rfl : u = Value.ref a := rx
 exact d_setItem hu I3 g ry rv fun s4 I4 => ⟨σ, H4, I4, q3⟩
end
theorem dk_empty {P : Program} {w : World} {H : Hp} (h : Heap) (hb : sysModules < h.objs.size) : ObjOk P w H (h.push { cls := .type "dict", data := .dict #[] }) h.objs.size (.dK []) :=
 ⟨Nat.zero_le _, beq_eq_false_iff_ne.mpr (Ne.symm (Nat.ne_of_lt hb)), [], .nil, Heap.DictOf.new h⟩
def tDNewK : TE := fun _ H Q => ∀ p, H p = none → Q (.ref p) (upd H p (.dK []))
section
variable {X : Cx} {pos : Pos}
theorem pe_dnewK : PE X (.Dict [] [] pos) tDNewK := fun pins s σ H Q I h =>
 wpAny_Dict_empty ⟨.ref s.heap.objs.size, _, I.laid (a := s.heap.objs.size) (o := .dK []) (t' := s.toks) (fun _ _ q => Heap.get?_push_of_some _ q) (Nat.le_refl _) (dk_empty s.heap I.big), rfl, h _ (I.hok.fresh (Nat.le_refl _))⟩
end
def tPairs : List (TE × TE) → St → Hp → (List (V × V) → Hp → Prop) → Prop
 | [], _, H, Q => Q [] H
 | (tk, tv) :: r, σ, H, Q => tk σ H fun x H1 => tv σ H1 fun y H2 => tPairs r σ H2 fun ps H3 => Q ((x, y) :: ps) H3
abbrev VV : List (V × V) → List (Value × Value) → Prop := Paired fun p q => RelV p.1 q.1 ∧ RelV p.2 q.2
def PPs (X : Cx) (pos : Pos) (keys : List (Option Expr)) (values : List Expr) (trs : List (TE × TE)) : Prop :=
 ∀ (pins : List (Addr × Obj)) (s : Shared) (σ : St) (H : Hp) (Q : List (V × V) → Hp → Prop), Inv X pins σ H s → tPairs trs σ H Q →
  wpAny (model X.prog X.w) X.A (evalPairs (pairTrees keys values X.env pos)) (fun vs s' => ∃ ps H', Inv X pins σ H' s' ∧ VV ps vs ∧ Q ps H') X.xe s
theorem pps_nil {X : Cx} {pos : Pos} : PPs X pos [] [] [] := fun pins s σ H Q I h => pairTrees_nil_walk ⟨[], H, I, .nil, h⟩
theorem pps_cons {X : Cx} {pos : Pos} {k v : Expr} {ks : List (Option Expr)} {vs : List Expr} {tk tv : TE} {trs : List (TE × TE)} (hk : PE X k tk) (hv : PE X v tv) (hr : PPs X pos ks vs trs) :
  PPs X pos (some k :: ks) (v :: vs) ((tk, tv) :: trs) := fun pins s σ H Q I h =>
 pairTrees_cons_walk (thn (hk pins s σ H _ I h) fun u s1 ⟨x, H1, I1, rx, q1⟩ => thn (hv pins s1 σ H1 _ I1 q1) fun w2 s2 ⟨y, H2, I2, ry, q2⟩ =>
  thn (hr pins s2 σ H2 _ I2 q2) fun ws s3 ⟨ps, H3, I3, rel, q3⟩ => ⟨(x, y) :: ps, H3, I3, .cons ⟨rx, ry⟩ rel, q3⟩)
def mergeK (kvs more : List (Key × V)) : List (Key × V) := more.foldl (fun acc kv => putK acc kv.1 kv.2) kvs
theorem KV.merge : ∀ {more : List (Key × V)} {rs : List (Key × Value)} {kvs : List (Key × V)} {vs : List (Key × Value)}, KV more rs → KV kvs vs → KV (mergeK kvs more) (merged vs rs) := by
  intro more rs kvs vs r
  unfold KV at r
  induction r generalizing kvs vs with
  | nil => intro q; exact q
  | @cons p q ps qs h t ih =>
    intro r0
    have e : KV (putK kvs p.1 p.2) (stored vs q.1 q.2) := by
      have := r0.put p.1 h.2
      rw [← h.1]; exact this
    exact ih e
theorem length_mergeK : ∀ (more kvs : List (Key × V)), (mergeK kvs more).length ≤ kvs.length + more.length
  | [], kvs => by show kvs.length ≤ kvs.length + 0; omega
  | p :: r, kvs => by
    have h1 := length_mergeK r (putK kvs p.1 p.2)
    have h2 := length_putK kvs p.1 p.2
    show (mergeK (putK kvs p.1 p.2) r).length ≤ _
    rw [List.length_cons]; omega
theorem carries_of {P : Program} {w : World} : ∀ {kvs : List (Key × V)} {ws : List (Value × Value)}, VV (kvs.map fun kv => (kV kv.1, kv.2)) ws → ∃ rs, Carries (mixKind P w) ws rs ∧ KV kvs rs
  | [], _, r => by rw [List.map_nil] at r; cases r; exact ⟨[], True.intro, .nil⟩
  | p :: kvs, _, r => by
    rw [List.map_cons] at r
    cases r with
    | @cons a b as bs h t =>
      obtain ⟨rs, c, q⟩ := carries_of (P := P) (w := w) t
      obtain ⟨b1, b2⟩ := b
      exact ⟨(p.1, b2) :: rs, ⟨kV_is h.1, rfl, c⟩, .cons ⟨rfl, h.2⟩ q⟩
def tDisp (trs : List (TE × TE)) : TE := fun σ H Q => ∀ p, H p = none → tPairs trs σ (upd H p (.dK [])) fun ps H2 => H2 p = some (.dK []) ∧ ∃ kvs : List (Key × V), ps = kvs.map (fun kv => (kV kv.1, kv.2)) ∧ kvs.length ≤ 15 ∧ Q (.ref p) (upd H2 p (.dK (mergeK [] kvs)))
theorem pe_disp {X : Cx} {pos : Pos} {keys : List (Option Expr)} {values : List Expr} {trs : List (TE × TE)} (h : PPs X pos keys values trs) (hall : keys.all (·.isSome) = true) (hl : keys.length = values.length) (h0 : keys ≠ [])
  (h15 : keys.length ≤ 15) : PE X (.Dict keys values pos) (tDisp trs) := by
 intro pins s σ H Q I q
 have hn := I.hok.fresh (Nat.le_refl s.heap.objs.size)
 have I1 := I.laid (a := s.heap.objs.size) (o := .dK []) (h' := s.heap.push { cls := .type "dict", data := .dict #[] }) (t' := s.toks) (fun _ _ q => Heap.get?_push_of_some _ q) (Nat.le_refl _) (dk_empty s.heap I.big)
 refine wpAny_Dict_walk (knd := mixKind X.prog X.w) hall hl h0 h15 (thn (h pins _ σ _ _ I1 (q _ hn)) fun ws s2 ⟨ps, H2, I2, rel, e, kvs, ep, lk, q2⟩ => ?_)
 subst ep
 obtain ⟨rs, c, rk⟩ := carries_of (P := X.prog) (w := X.w) rel
 obtain ⟨z, hd, vs0, r0, dd⟩ := dk_of I2.hok e
 cases r0
 refine ⟨rs, c, dd, fun h' dd' hs => ⟨.ref s.heap.objs.size, _, ?_, rfl, q2⟩⟩
 have hz : (mergeK [] kvs).length ≤ sizeLine := by
  have h1 := length_mergeK kvs []
  rw [List.length_nil] at h1
  rw [sizeLine_eq]; omega
 have he : ∃ q, h'.get? s.heap.objs.size = some q := let ⟨q, _, _, hq, _⟩ := dd'; ⟨q, hq⟩
 exact d_write I2 (by rw [e]; exact True.intro) hs he (dk_new hz hd (rk.merge .nil) dd')
structure M1 (X : Cx) (o : Expr) (m : Str) (apos : Pos) (e : Expr) (cpos : Pos) : Prop where
 base : attributeBase o m X.env (eval o X.env) = eval o X.env
 few : ((backTo cpos (starEach [e] X.env)).all (fun x => !x.1) && (backToKw cpos (keywordEach [] X.env)).all (fun x => x.1.isSome)
  && decide (([e] : List Expr).length + ([] : List Keyword).length + (if ([] : List Keyword).isEmpty then 0 else 1) < 30)) = true
 line : (apos.endLine == cpos.line) = true
 trees : backTo cpos (starEach [e] X.env) = [(false, eval e X.env)]
structure M2 (X : Cx) (o : Expr) (m : Str) (apos : Pos) (e f : Expr) (cpos : Pos) : Prop where
 base : attributeBase o m X.env (eval o X.env) = eval o X.env
 few : ((backTo cpos (starEach [e, f] X.env)).all (fun x => !x.1) && (backToKw cpos (keywordEach [] X.env)).all (fun x => x.1.isSome)
  && decide (([e, f] : List Expr).length + ([] : List Keyword).length + (if ([] : List Keyword).isEmpty then 0 else 1) < 30)) = true
 line : (apos.endLine == cpos.line) = true
 trees : backTo cpos (starEach [e, f] X.env) = [(false, eval e X.env), (false, eval f X.env)]
def IsD (H : Hp) (a : Addr) : Prop := (∃ kvs, Rd H a (.dK kvs)) ∨ ∃ kvs, Rd H a (.dT kvs)
theorem isD_at {X : Cx} {pins : List (Addr × Obj)} {σ : St} {H : Hp} {s : Shared} {a : Addr} (I : Inv X pins σ H s) (d : IsD H a) :
  s.TypeIs (.ref a) "dict" ∧ (∀ b, Value.ref a = .ref b → ∃ ob, s.heap.get? b = some ob ∧ ob.dict = none) ∧ (a == sysModules) = false := by
 rcases d with ⟨kvs, e⟩ | ⟨kvs, e⟩
 ·obtain ⟨_, hd, vs, _, dd⟩ := dk_rd I.hok e
  refine ⟨dd.typeIs, fun b q => ?_, hd⟩
  cases q
  obtain ⟨ob, _, _, h1, h2, _⟩ := dd
  exact ⟨ob, h1, h2.2.1⟩
 ·obtain ⟨_, hd, xs, _, dd⟩ := dt_rd I.hok e
  refine ⟨dd.typeIs, fun b q => ?_, hd⟩
  cases q
  obtain ⟨ob, _, _, h1, h2, _⟩ := dd
  exact ⟨ob, h1, h2.2.1⟩
section
variable {X : Cx} {pins : List (Addr × Obj)} {σ : St} {H : Hp} {s : Shared} {a : Addr} {y d : V} {u r : Value} {o : Option V} {A : Around} {E : Value → Shared → Prop}
theorem d_get2 {Q : Value → Shared → Prop} (hu : A.units + 1 < cLine) (I : Inv X pins σ H s) (g : DGet H a y o) (ry : RelV y u) (rd : RelV d r) (h : ∀ w' s', Inv X pins σ H s' → RelV (o.getD d) w' → Q w' s') :
  wpAny (model X.prog X.w) A (call (.builtin "dict.get") [.ref a, u, r]) Q E s := by
 rcases g with ⟨kvs, k, e, ey, l⟩ | ⟨kvs, k, b, e, ey, eb, l⟩
 ·subst ey
  obtain ⟨z, hd, vs, rel, dd⟩ := dk_rd I.hok e
  refine call_meetsIn PySem.F.slot_dict_get dd.typeIs PySem.F.entry_dict_get (PySem.F.args_dict_get_3 _ _ _) (meets_dict_get_default (mixKind X.prog X.w) a (kV_is ry) hd r) ⟨_, dd.mapOf, h _ _ (I.tok _) ?_⟩
  rw [l]
  exact (rel.val k).getD rd
 ·subst ey
  cases (show u = Value.ref b from ry)
  obtain ⟨z, hd, xs, rel, dd⟩ := dt_rd I.hok e
  refine call_meetsIn PySem.F.slot_dict_get dd.typeIs PySem.F.entry_dict_get (PySem.F.args_dict_get_3 _ _ _) (meetsH_dict_get_default (tupleKind (mixKind X.prog X.w)) a b hd r) ⟨tupleKind_room_in1 hu, k, xs, key_of I.hok eb, dd, h _ _ (I.tok _) ?_⟩
  rw [l]
  exact (rel.val k).getD rd
end
def tDGet2 (td ty tx : TE) : TE := fun σ H Q => td σ H fun x H1 => ∃ a, x = .ref a ∧ IsD H1 a ∧ ty σ H1 fun y H2 => tx σ H2 fun z H3 => ∃ o, DGet H3 a y o ∧ Q (o.getD z) H3
section
variable {X : Cx} {o e f : Expr} {apos cpos : Pos} {td ty tx : TE}
theorem pe_dget2 (hu : X.A.units + 1 < cLine) (ho : PE X o td) (he : PE X e ty) (hf : PE X f tx) (m : M2 X o "get" apos e f cpos) : PE X (.Call (.Attribute o "get" apos) [e, f] [] cpos) (tDGet2 td ty tx) := by
 intro pins s σ H Q I h
 refine wpAny_Call_method m.base m.few m.line PySem.F.plainAttrs_dict PySem.F.slot_dict_get PySem.F.type_dict_get (thn (ho pins s σ H _ I h) fun u s1 ⟨x, H1, I1, rx, a, ex, d, q1⟩ => ?_)
 subst ex
 obtain rfl : u = Value.ref a := rx
 obtain ⟨t1, t2, _⟩ := isD_at I1 d
 refine ⟨t1, t2, ?_⟩
 rw [m.trees]
 refine Calls.callWith_builtin rfl (Calls.evalArgs_plain (Calls.spliced_cons (thn (he pins s1 σ H1 _ I1 q1) fun iv s2 ⟨y, H2, I2, ry, q2⟩ =>
  Calls.spliced_cons (thn (hf pins s2 σ H2 _ I2 q2) fun fv s3 ⟨z, H3, I3, rz, ov, g, q3⟩ => Calls.spliced_nil ?_))))
 exact d_get2 hu I3 g ry rz fun w' s4 I4 rw' => ⟨_, H3, I4, rw', q3⟩
end
section
variable {X : Cx} {pins : List (Addr × Obj)} {σ : St} {H : Hp} {s : Shared} {a : Addr} {kvs : List (Key × V)} {A : Around} {E : Value → Shared → Prop}
theorem d_copyOf {Q : Value → Shared → Prop} (I : Inv X pins σ H s) (e : Rd H a (.dK kvs)) (h : ∀ p s', H p = none → Inv X pins σ (upd H p (.dK kvs)) s' → Q (.ref p) s') : wpAny (model X.prog X.w) A (call (.type "dict") [.ref a]) Q E s := by
 obtain ⟨z, hd, vs, rel, dd⟩ := dk_rd I.hok e
 refine kt_call_dict hd dd (by rw [← rel.length]; exact z) fun h' dd' hs => ?_
 refine h _ _ (I.hok.fresh (Nat.le_refl _)) (I.laid (a := s.heap.objs.size) (o := .dK kvs) (t' := s.toks) (fun b q hq => ?_) (Nat.le_refl _) (dk_new z (beq_eq_false_iff_ne.mpr (Ne.symm (Nat.ne_of_lt I.big))) rel dd'))
 exact (hs.2 b (Nat.ne_of_lt (Heap.lt_size hq))).trans (Heap.get?_push_of_some _ hq)
end
section
variable {X : Cx} {pins : List (Addr × Obj)} {σ : St} {H : Hp} {s : Shared} {a : Addr} {y : V} {u : Value} {A : Around} {E : Value → Shared → Prop}
end
end L2
namespace Att
open PySem PySem.W PySem.Calls PyProof.Rows
section
variable {prog : Program} {w : World} {A : Around} {E : Value → Shared → Prop} {s : Shared} {K : Frag}
end
end Att
namespace L2
open PySem PySem.Spec PyProof.Rows
end L2
namespace L2
open PySem PySem.Spec PyProof.Rows
end L2
namespace L2
open PySem PySem.Spec PyProof.Rows
section
variable {P : Program} {w : World} {K : PySem.W.Frag} {mg : Str → Option Value} {base : Heap}
end
section
variable {X : Cx}
end
section
variable {κ : Type} [DecidableEq κ]
end
end L2
namespace L2
open PySem PySem.Spec PyProof.Rows
section
variable {X : Cx} {tg : Expr}
end
section
variable {X : Cx} {tg : Expr}
end
theorem strsAre_of {ys : List Str} : ∀ {us : List Value}, Vals (ys.map V.str) us → StrsAre us ys := by
  induction ys with
  | nil => intro us r; rw [List.map_nil] at r; cases r; exact .nil
  | cons n ns ih =>
    intro us r
    rw [List.map_cons] at r
    cases r with
    | cons r1 r2 =>
      obtain ⟨t, e⟩ := r1
      subst e
      exact .cons n t (ih r2)
section
variable {X : Cx}
def rJoin (K : PySem.W.Frag) : V → List V → Hp → VK → Prop := fun x vs H Q => ∃ z l ys, x = .str z ∧ vs = [.ref l] ∧ SqL K H l (ys.map V.str) ∧ z.length ≤ 16 ∧ (ys.map (·.length)).sum + ys.length ≤ 1048576 ∧ Q (.str (Txt.join z ys)) H
theorem mt_join : MtR X "str.join" (rJoin X.K) := by
 intro pins s σ H x vs v us Q I rx rv h
 obtain ⟨z, l, ys, rfl, rfl, hq, h1, h2, q⟩ := h
 obtain ⟨t, rfl⟩ := rx
 obtain ⟨u, rfl, ru⟩ := rv.one
 cases ru
 obtain ⟨its, r, pl, hz⟩ := I.list hq
 exact join_listW pl.isList (by simpa using strsAre_of r) h1 h2 fun t' k => ⟨.str _, H, I.tok _, ⟨_, rfl⟩, q⟩
def rSlS : V → Option Int → Option Int → Hp → VK → Prop := fun x lo hi H Q => ∃ z, x = .str z ∧ z.length ≤ sizeLine ∧ Q (.str (Txt.slice z lo hi)) H
theorem sl_str : SlR X rSlS := by
 intro pins s σ H x v vl vu lo hi sl Q I rx hs pl pu h
 obtain ⟨z, rfl, hz, q⟩ := h
 obtain ⟨t, rfl⟩ := rx
 refine ⟨"str", _, F.slot_str_getitem.lookup, typeIs_str _ _ _, ?_⟩
 obtain ⟨o, ho, hc, hd⟩ := hs
 cases pl <;> cases pu
 ·exact wpAny_getItem_str_slice (l := none) (u := none) (st := none) ⟨o, ho, hc, hd⟩ rfl (post_val_or_str ⟨Nat.le_trans (Txt.slice_le z none none) hz, fun t' k => ⟨.str _, H, I.tok _, ⟨_, rfl⟩, q⟩⟩)
 ·rename_i j uj
  exact wpAny_getItem_str_slice (l := none) (u := some (j, uj)) (st := none) ⟨o, ho, hc, hd⟩ rfl (post_val_or_str ⟨Nat.le_trans (Txt.slice_le z none (some j)) hz, fun t' k => ⟨.str _, H, I.tok _, ⟨_, rfl⟩, q⟩⟩)
 ·rename_i i ui
  exact wpAny_getItem_str_slice (l := some (i, ui)) (u := none) (st := none) ⟨o, ho, hc, hd⟩ rfl (post_val_or_str ⟨Nat.le_trans (Txt.slice_le z (some i) none) hz, fun t' k => ⟨.str _, H, I.tok _, ⟨_, rfl⟩, q⟩⟩)
 ·rename_i i ui j uj
  exact wpAny_getItem_str_slice (l := some (i, ui)) (u := some (j, uj)) (st := none) ⟨o, ho, hc, hd⟩ rfl (post_val_or_str ⟨Nat.le_trans (Txt.slice_le z (some i) (some j)) hz, fun t' k => ⟨.str _, H, I.tok _, ⟨_, rfl⟩, q⟩⟩)
theorem op_isB : OpR X (compareOp .Is) (fun x y H Q => ∃ b, y = .bl b ∧ Q (.bl (decide (x = .bl b))) H) := by
 intro pins s σ H x y v u Q I rx ry h
 obtain ⟨b, rfl, q⟩ := h
 cases ry
 cases x with
 | bl c => cases rx; exact wpAny_pure (fin_bl I q (by cases b <;> cases c <;> rfl))
 | non => cases rx; exact wpAny_pure (fin_bl I q (by simp))
 | int _ => obtain ⟨t, rfl⟩ := rx; exact wpAny_pure (fin_bl I q (by simp))
 | str _ => obtain ⟨t, rfl⟩ := rx; exact wpAny_pure (fin_bl I q (by simp))
 | byt _ => obtain ⟨t, rfl⟩ := rx; exact wpAny_pure (fin_bl I q (by simp))
 | flt _ => obtain ⟨t, rfl⟩ := rx; exact wpAny_pure (fin_bl I q (by simp))
 | ref _ => cases rx; exact wpAny_pure (fin_bl I q (by simp))
 | ty _ => cases rx; exact wpAny_pure (fin_bl I q (by simp))
theorem op_isnotB : OpR X (compareOp .IsNot) (fun x y H Q => ∃ b, y = .bl b ∧ Q (.bl (!decide (x = .bl b))) H) := by
 intro pins s σ H x y v u Q I rx ry h
 obtain ⟨b, rfl, q⟩ := h
 cases ry
 cases x with
 | bl c => cases rx; exact wpAny_pure (fin_bl I q (by cases b <;> cases c <;> rfl))
 | non => cases rx; exact wpAny_pure (fin_bl I q (by simp))
 | int _ => obtain ⟨t, rfl⟩ := rx; exact wpAny_pure (fin_bl I q (by simp))
 | str _ => obtain ⟨t, rfl⟩ := rx; exact wpAny_pure (fin_bl I q (by simp))
 | byt _ => obtain ⟨t, rfl⟩ := rx; exact wpAny_pure (fin_bl I q (by simp))
 | flt _ => obtain ⟨t, rfl⟩ := rx; exact wpAny_pure (fin_bl I q (by simp))
 | ref _ => cases rx; exact wpAny_pure (fin_bl I q (by simp))
 | ty _ => cases rx; exact wpAny_pure (fin_bl I q (by simp))
theorem range_any (bs : List Bool) : (List.range bs.length).any (fun i => (bs[i]?).getD false) = bs.any id := by
 rw [Bool.eq_iff_iff, List.any_eq_true, List.any_eq_true]
 constructor
 ·rintro ⟨i, hi, h⟩
  have hi' := List.mem_range.mp hi
  rw [List.getElem?_eq_getElem hi'] at h
  exact ⟨_, List.getElem_mem hi', h⟩
 ·rintro ⟨b, hb, h⟩
  obtain ⟨i, hi, e⟩ := List.mem_iff_getElem.mp hb
  refine ⟨i, List.mem_range.mpr hi, ?_⟩
  rw [List.getElem?_eq_getElem hi, e]
  exact h
theorem bool_at {bs : List Bool} {its : List Value} (r : Vals (bs.map V.bl) its) {i : Nat} {v : Value} (h : its.toArray[i]? = some v) : v = .bool ((bs[i]?).getD false) := by
 have h' : its[i]? = some v := by simpa using h
 have hl := r.length
 rw [List.length_map] at hl
 have hi : i < bs.length := by
  have := (List.getElem?_eq_some_iff.mp h').1
  omega
 have hx : (bs.map V.bl)[i]? = some (V.bl bs[i]) := by rw [List.getElem?_map, List.getElem?_eq_getElem hi]; rfl
 obtain ⟨u, hu, ru⟩ := r.get hx
 rw [h'] at hu
 cases hu
 rw [List.getElem?_eq_getElem hi]
 exact ru
theorem call_any (hc : X.calm = true) : CallR X (.builtin "any") (fun xs H Q => ∃ (p : Addr) (bs : List Bool), xs = [.ref p] ∧ SqL X.K H p (bs.map V.bl) ∧ Q (.bl (bs.any id)) H) := by
 intro pins s σ H xs us Q I r h
 obtain ⟨p, bs, rfl, hq, q⟩ := h
 obtain ⟨u, rfl, ru⟩ := vals1 r
 cases ru
 obtain ⟨its, rv, pl, hz⟩ := I.list hq
 have hp : p < s.heap.objs.size := by obtain ⟨o, ho, _⟩ := pl.isList; exact Heap.lt_size ho
 have hn : its.toArray.size = bs.length := by rw [List.size_toArray, ← rv.length, List.length_map]
 refine call_any_walk (wpAny_pyIter_list pl.isList ⟨s.heap.objs.size, _, _, its.toArray.size, _, _, fun i => (bs[i]?).getD false, rfl, Walks.list (A := X.A.in1) (show X.A.in1.handled = none from I.ok.hd hc) _ p (Nat.ne_of_lt hp) its.toArray,
  ⟨⟨_, Heap.get?_push_size _ rfl, rfl, rfl⟩, pl.isList.at fun o e => Heap.get?_push_of_some _ e⟩, fun i v s' Q' E' hv hQ => ?_, fun h' tk kk => ?_⟩)
 ·rw [bool_at rv hv]
  exact wpAny_truthy_bool hQ
 ·rw [hn, range_any]
  refine ⟨.bl _, H, I.kept fun b o e => kk b o ?_ (Heap.get?_push_of_some _ e), rfl, q⟩
  intro z
  have z' : b = s.heap.objs.size := by simpa using z
  exact Nat.lt_irrefl _ (z' ▸ Heap.lt_size e)
end
end L2
namespace L2
open PySem PySem.Spec PyProof.Rows
section
variable {prog : Program} {w : World} {A : Around} {R : Result → Shared → Prop} {I : Addr} {fp wr : List Addr} {n : Nat} {P : Nat → Value → Prop} {St : Nat → Heap → Prop} {kw : List (Str × Value)}
end
section
variable {prog : Program} {w : World} {A : Around} {E : Value → Shared → Prop} {s : Shared}
end
end L2
namespace L2
open PySem PySem.Spec PyProof.Rows
section
variable {X : Cx} {pins : List (Addr × Obj)} {σ : St} {H : Hp} {s : Shared}
def newsOf (base h : Heap) (L : Addr) : List (Addr × Obj) := (List.range h.objs.size).filterMap fun b => if b = L then none else if (base.get? b).isSome then none else (h.get? b).map fun o => (b, o)
theorem mem_newsOf {base h : Heap} {L b : Addr} {o : Obj} (hL : b ≠ L) (hb : base.get? b = none) (e : h.get? b = some o) : (b, o) ∈ newsOf base h L := by
 unfold newsOf
 rw [List.mem_filterMap]
 refine ⟨b, List.mem_range.mpr (Heap.lt_size e), ?_⟩
 rw [if_neg hL, hb, e]
 simp
theorem of_mem_newsOf {base h : Heap} {L : Addr} {p : Addr × Obj} (hp : p ∈ newsOf base h L) : h.get? p.1 = some p.2 ∧ p.1 ≠ L ∧ base.get? p.1 = none := by
  unfold newsOf at hp
  rw [List.mem_filterMap] at hp
  obtain ⟨b, _, e⟩ := hp
  by_cases hL : b = L
  · rw [if_pos hL] at e; cases e
  · rw [if_neg hL] at e
    cases hb : base.get? b with
    | some u => rw [hb] at e; simp at e
    | none =>
      rw [hb] at e
      cases hh : h.get? b with
      | none => rw [hh] at e; simp at e
      | some u =>
        rw [hh] at e
        simp at e
        subst e
        exact ⟨hh, hL, hb⟩
theorem Inv.but {h' : Heap} {tk : Nat} (I : Inv X pins σ H s) (k : ∀ b o, b ≠ X.env.locals → s.heap.get? b = some o → h'.get? b = some o) (ns : ∀ m, s.heap.Ns X.env.locals m → h'.Ns X.env.locals m) : Inv X pins σ H { s with heap := h', toks := tk } := by
 have hok : HOk X.prog X.w H h' := fun a o e => (I.hok a o e).stay (fun b u hb q => k b u (fun z => by
  subst z
  have hn := I.free
  rcases hb with hb | hb
  ·rw [← hb] at e; rw [hn] at e; cases e
  ·rw [hn] at hb; cases hb) q) (fun _ q => q) fun _ _ q => q
 exact I.step (g' := s.gens) (d' := s.drawn) (ch := []) (fun _ z => nomatch z) (fun b o hL _ _ e _ => k b o hL e) (fun b o hL _ _ e _ => ⟨o.slots, k b o hL e⟩) (fun b o _ _ n => n) (fun b o _ e => by
  by_cases hL : b = X.env.locals
  ·subst hL
   obtain ⟨m, hn, _⟩ := I.loc
   obtain ⟨o', _, _, e', _⟩ := ns m hn
   exact ⟨o', e'⟩
  ·exact ⟨o, k b o hL e⟩) (fun _ _ q => q) (fun _ _ _ q => q) (fun _ ps q => ⟨#[], by simpa using q⟩) ns hok I.bare
theorem Inv.via (I : Inv X pins σ H s) : ∃ m news, Fr X.base X.env.locals s.heap m ∧ News X.base X.env.locals s.heap news ∧
    (∀ b o, b ≠ X.env.locals → X.base.get? b = none → s.heap.get? b = some o → (b, o) ∈ news) ∧
    ∀ (h' : Heap) (tk : Nat), Fr X.base X.env.locals h' m → News X.base X.env.locals h' news → (∀ b o, b ≠ X.env.locals → s.heap.get? b = some o → h'.get? b = some o) ∧ Inv X pins σ H { s with heap := h', toks := tk } := by
  obtain ⟨m, F⟩ := I.fr
  refine ⟨m, newsOf X.base s.heap X.env.locals, F, fun p hp => of_mem_newsOf hp, fun b o hL hb e => mem_newsOf hL hb e, fun h' tk F' N' => ?_⟩
  have k : ∀ b o, b ≠ X.env.locals → s.heap.get? b = some o → h'.get? b = some o := fun b o hL e => by
    cases hb : X.base.get? b with
    | some u =>
      have e1 := I.bk b u hb
      rw [e] at e1; cases e1
      exact F'.keep b o hb
    | none => exact (N' (b, o) (mem_newsOf hL hb e)).1
  refine ⟨k, I.but k fun m' hm => ?_⟩
  have : m' = m := by
    obtain ⟨o, es, ep, e, d, _, f⟩ := hm
    obtain ⟨o', es', ep', e', d', _, f'⟩ := F.ns
    rw [e] at e'; cases e'
    rw [d] at d'; cases d'
    funext x
    rw [← f x, ← f' x]
  subst this
  exact F'.ns
theorem intsAreV {ns : List Int} : ∀ {us : List Value}, Vals (ns.map V.int) us → IntsAre us ns := by
  induction ns with
  | nil => intro us h; cases us with
    | nil => exact .nil
    | cons u us => cases h
  | cons n ns ih => intro us h; cases us with
    | nil => cases h
    | cons u us =>
      cases h with
      | cons a b =>
        obtain ⟨t, rfl⟩ := a
        exact .cons _ _ (ih b)
theorem call_sum : X.calm = true → CallR X (.builtin "sum") (fun xs H Q => ∃ (p : Addr) (is : List Int), xs = [.ref p] ∧ SqL X.K H p (is.map V.int) ∧ Q (.int is.sum) H) := by
 intro hc pins s σ H xs us Q I r h
 obtain ⟨p, is, rfl, hq, q⟩ := h
 obtain ⟨u, rfl, rx⟩ := vals1 r
 cases rx
 obtain ⟨its, rv, pl, hz⟩ := I.list hq
 obtain ⟨m, news, F, N, _, back⟩ := I.via
 refine LSm.sum_ints F N (I.ok.hd hc) pl.isList (intsAreV rv) fun h' tk t' F' N' => ?_
 exact ⟨.int is.sum, H, (back h' tk F' N').2, ⟨t', rfl⟩, q⟩
end
end L2
namespace L2
open PySem PySem.Spec PyProof.Rows
section
variable {prog : Program} {w : World} {A : Around} {s : Shared}
end
section
variable {X : Cx}
end
end L2
namespace L2
open PySem PySem.Spec PyProof.Rows
section
variable {X : Cx} {pins : List (Addr × Obj)} {σ : St} {H : Hp} {s : Shared}
theorem ObjOk.get {P : Program} {w : World} {H : Hp} {h : Heap} {a : Addr} {o : HO} (x : ObjOk P w H h a o) : ∃ u, h.get? a = some u := by
 cases o with
 | lst xs => obtain ⟨_, _, _, _, e⟩ := x; exact ⟨_, e⟩
 | tup xs => obtain ⟨_, _, _, u, e, _⟩ := x; exact ⟨_, e⟩
 | dK kvs => obtain ⟨_, _, _, _, o, _, _, e, _⟩ := x; exact ⟨_, e⟩
 | dT kvs => obtain ⟨_, _, _, _, o, _, _, e, _⟩ := x; exact ⟨_, e⟩
 | set S n => obtain ⟨o, _, _, _, e, _⟩ := x; exact ⟨_, e⟩
 | ins C dx fs => obtain ⟨_, _, _, e, _⟩ := x; exact ⟨_, e⟩
 | own y => exact x
 | xd fs => obtain ⟨_, ⟨_, _, _, e, _⟩, _⟩ := x; exact ⟨_, e⟩
 | rng lo hi => obtain ⟨_, _, _, e⟩ := x; exact ⟨_, e⟩
 | frz ob u => obtain ⟨e, _⟩ := x; exact ⟨_, e⟩
 | tbl ps => exact ⟨_, x⟩
 | met f y => exact ⟨_, x⟩
 | ext φ => obtain ⟨_, e, _⟩ := x; exact e
theorem call_int_txt : CallR X (.type "int") (fun xs H Q => ∃ z n, xs = [.str z] ∧ intText? z = some n ∧ z.length ≤ 640 ∧ Q (.int n) H) := by
 intro pins s σ H xs us Q I r h
 obtain ⟨z, n, rfl, h1, h2, q⟩ := h
 obtain ⟨u, rfl, t, rfl⟩ := vals1 r
 exact W.KIN.call_text h1 h2 ⟨.int n, H, I.tok _, ⟨_, rfl⟩, q⟩
end
end L2
namespace L2
open PySem PySem.Spec PyProof.Rows
section
variable {prog : Program} {w : World} {A : Around} {E : Value → Shared → Prop} {s : Shared}
end
section
variable {X : Cx} {pins : List (Addr × Obj)} {σ : St} {H : Hp} {s : Shared} {h' : Heap}
end
section
variable {X : Cx} {es : List Expr} {k : Nat} {tpos : Pos}
end
end L2
namespace L2
open PySem PySem.Spec PyProof.Rows
section
variable {X : Cx} {es : List Expr} {k : Nat} {tpos : Pos}
end
def textV : V → Option Str
 | .str z => if z.length ≤ sizeLine then some z else none
 | .int i => if i.natAbs.log2 < 1920 then some (toString i) else none
 | _ => none
abbrev TJ := Str → St → Hp → VK → Prop
def PJ (X : Cx) (vs : List Expr) (t : TJ) : Prop := ∀ (pins : List (Addr × Obj)) (s : Shared) (σ : St) (H : Hp) (out : Str) (Q : VK), Inv X pins σ H s → t out σ H Q → wpAny (model X.prog X.w) X.A (joinParts out (evalEach vs X.env)) (EP X pins σ Q) X.xe s
def jNil : TJ := fun out _ H Q => out.length ≤ sizeLine ∧ Q (.str out) H
def jCons (te : TE) (tj : TJ) : TJ := fun out σ H Q => te σ H fun v H1 => ∃ y, textV v = some y ∧ (out ++ y).length ≤ sizeLine ∧ tj (out ++ y) σ H1 Q
section
variable {X : Cx} {vs : List Expr} {te : TE} {tj : TJ}
theorem pj_nil : PJ X [] jNil := fun pins s σ H out Q I h => joinParts_nil ⟨.str out, H, I.tok _, ⟨_, rfl⟩, h.2⟩ h.1
theorem pj_con {z : Str} {k : Nat} {pos : Pos} (hv : PJ X vs tj) (hz : z.length ≤ sizeLine) : PJ X (.Constant (.str z) k pos :: vs) (fun out σ H Q => (out ++ z).length ≤ sizeLine ∧ tj (out ++ z) σ H Q) := fun pins s σ H out Q I h => by
 refine joinParts_cons (Calls.Constant_str ?_)
 exact ⟨h.1, hv pins _ σ H _ Q (I.tok _) h.2⟩
theorem pj_val {e : Expr} {pos : Pos} (he : PE X e te) (hv : PJ X vs tj) : PJ X (.FormattedValue e (-1) none pos :: vs) (jCons te tj) := fun pins s σ H out Q I h => by
 refine joinParts_cons (FormattedValue_plain (thn (he pins s σ H _ I h) fun u s1 ⟨x, H1, I1, r1, y, ey, hl, q⟩ => ?_))
 cases x <;> simp only [textV, reduceCtorEq] at ey
 case int i =>
  split at ey
  ·rename_i hd
   cases ey
   obtain ⟨t, rfl⟩ := r1
   exact formatField_int_small hd ⟨hl, hv pins _ σ H1 _ Q (I1.tok _) q⟩
  ·cases ey
 case str z =>
  split at ey
  ·rename_i hz
   cases ey
   obtain ⟨t, rfl⟩ := r1
   exact formatField_str (fun t' tk => ⟨hl, hv pins _ σ H1 _ Q (I1.tok _) q⟩) hz
  ·cases ey
theorem pe_fst {v w : Expr} {pos : Pos} (h : PJ X (v :: w :: vs) tj) : PE X (.JoinedStr (v :: w :: vs) pos) (fun σ H Q => tj Str.empty σ H Q) := fun pins s σ H Q I q => JoinedStr_many (h pins s σ H _ Q I q)
end
end L2
namespace L2
open PySem PySem.Spec PyProof.Rows
section
variable {prog : Program} {w : World} {A : Around} {E : Value → Shared → Prop} {s : Shared} {z P O j1 j2 l t : Addr}
end
section
variable {X : Cx} {es : List Expr} {k : Nat} {tpos : Pos}
end
end L2
namespace L2
open PySem PySem.Spec PyProof.Rows
theorem forIn_fold {α β : Type} {f : α → β → Sem (ForInStep β)} (g : α → β → β) : ∀ (l : List α) (b : β), (∀ x ∈ l, ∀ b, f x b = pure (.yield (g x b))) → (forIn l b f : Sem β) = pure (l.foldl (fun b x => g x b) b)
  | [], b, _ => rfl
  | x :: l, b, h => by
    rw [List.forIn_cons, h x List.mem_cons_self b]
    simp only [pure_bind, List.foldl_cons]
    exact forIn_fold g l (g x b) fun y hy => h y (List.mem_cons_of_mem _ hy)
def closStep (cells : List (Str × Addr)) (cs : List (Str × Addr)) (x : Str × NameKind) : List (Str × Addr) := if x.2 = .free then (x.1, (cells.lookup x.1).getD 0) :: cs else cs
def closOf (cells : List (Str × Addr)) (names : List (Str × NameKind)) : List (Str × Addr) := names.foldl (closStep cells) []
theorem closureFor_eq {scope : Scope} {env : Env} (h : ∀ y ∈ scope.names, y.2 = .free → ∃ c, env.cells.lookup y.1 = some c) : closureFor scope env = pure (closOf env.cells scope.names) := by
 simp only [closureFor]
 rw [forIn_fold (fun x cs => closStep env.cells cs x) scope.names [] (fun x hx c => by
  obtain ⟨n, kind⟩ := x
  by_cases hk : kind = .free
  ·obtain ⟨a, ha⟩ := h _ hx hk
   subst hk
   have ha' : env.cells.lookup n = some a := ha
   simp [cellOf, ha', closStep]
  ·have hk' : (kind == NameKind.free) = false := by simpa using hk
   simp [hk', hk, closStep])]
 rfl
theorem clos_in {cells : List (Str × Addr)} : ∀ (names : List (Str × NameKind)) (acc : List (Str × Addr)), (∀ y ∈ names, y.2 = .free → ∃ c, cells.lookup y.1 = some c) →
    (∀ x c, acc.lookup x = some c → cells.lookup x = some c) → ∀ x c, (names.foldl (closStep cells) acc).lookup x = some c → cells.lookup x = some c
  | [], _, _, h, x, c, e => h x c e
  | (n, k) :: r, acc, hc, h, x, c, e => by
    rw [List.foldl_cons] at e
    refine clos_in r _ (fun y hy => hc y (List.mem_cons_of_mem _ hy)) ?_ x c e
    intro y d hd
    unfold closStep at hd
    by_cases hk : k = .free
    · obtain ⟨a, ha⟩ := hc (n, k) List.mem_cons_self hk
      have ha' : cells.lookup n = some a := ha
      simp only [hk, if_true, ha', Option.getD_some, List.lookup_cons] at hd
      cases hyn : y == n with
      | true =>
        rw [hyn] at hd
        have e2 := eq_of_beq hyn
        subst e2
        exact ha'.trans hd
      | false =>
        rw [hyn] at hd
        exact h y d hd
    · simp only [hk, if_false] at hd
      exact h y d hd
theorem clos_has {cells : List (Str × Addr)} : ∀ (names : List (Str × NameKind)) (acc : List (Str × Addr)) (x : Str), ((x, NameKind.free) ∈ names ∨ ∃ c, acc.lookup x = some c) → ∃ c, (names.foldl (closStep cells) acc).lookup x = some c
  | [], acc, x, h => by
    rcases h with h | h
    · exact absurd h (by simp)
    · exact h
  | (n, k) :: r, acc, x, h => by
    rw [List.foldl_cons]
    refine clos_has r _ x ?_
    have keep : (∃ c, acc.lookup x = some c) → ∃ c, (closStep cells acc (n, k)).lookup x = some c := fun ⟨c, hc⟩ => by
      unfold closStep
      by_cases hk : k = .free
      · simp only [hk, if_true, List.lookup_cons]
        cases hxn : x == n with
        | true => exact ⟨_, rfl⟩
        | false => exact ⟨c, hc⟩
      · simp only [hk, if_false]
        exact ⟨c, hc⟩
    rcases h with h | h
    · rcases List.mem_cons.mp h with h | h
      · cases h
        refine .inr ?_
        unfold closStep
        simp only [if_true, List.lookup_cons, beq_self_eq_true]
        exact ⟨_, rfl⟩
      · exact .inl h
    · exact .inr (keep h)
def relN (psc : Scope) (names : List (Str × NameKind)) : List (Str × NameKind) := names.map fun (n, k) => if (k == .free && psc.kind == .function && psc.names.lookup n == some .cell) then (n, .cell) else (n, k)
theorem rel_mem {psc : Scope} : ∀ {names : List (Str × NameKind)} {x : Str} {k' : NameKind}, (relN psc names).lookup x = some k' → (k' = .cell ∨ k' = .free) → (∀ y ∈ names, y.2 ≠ .cell) → (x, NameKind.free) ∈ names
  | [], _, _, h, _, _ => by simp [relN] at h
  | (n, k) :: r, x, k', h, hk, hn => by
    have ih := @rel_mem psc r x k'
    have h' : List.lookup x ((if (k == NameKind.free && psc.kind == .function && psc.names.lookup n == some .cell) = true then (n, NameKind.cell) else (n, k)) :: relN psc r) = some k' := h
    cases hx : x == n with
    | true =>
      have e := eq_of_beq hx
      subst e
      by_cases hc : (k == NameKind.free && psc.kind == .function && psc.names.lookup x == some .cell) = true
      · have hkf : k = .free := by
          cases k <;> first | rfl | (exfalso; simp at hc)
        rw [hkf]
        exact List.mem_cons_self
      · rw [if_neg hc] at h'
        simp only [List.lookup_cons, beq_self_eq_true] at h'
        have e2 : k = k' := Option.some.inj h'
        subst e2
        rcases hk with hk | hk
        · exact absurd hk (hn (x, k) List.mem_cons_self)
        · rw [hk]
          exact List.mem_cons_self
    | false =>
      refine List.mem_cons_of_mem _ (ih ?_ hk fun y hy => hn y (List.mem_cons_of_mem _ hy))
      by_cases hc : (k == NameKind.free && psc.kind == .function && psc.names.lookup n == some .cell) = true
      · rw [if_pos hc] at h'
        simp only [List.lookup_cons, hx] at h'
        exact h'
      · rw [if_neg hc] at h'
        simp only [List.lookup_cons, hx] at h'
        exact h'
def capSt (cs : List (Str × Nat)) (σ : St) : St := cs.map fun p => (σ[p.2]?).join
abbrev compCx (X : Cx) (Nc : List Str) (scope : Scope) (cl : List (Str × Addr)) (C : Addr) (s₀ : Shared) (H₀ : Hp) (ex : List Addr) (pn : List (Addr × Obj)) : Cx :=
 { X with N := Nc, s₀ := s₀, H₀ := H₀, env := compEnvC scope cl C X.env, outer := X.stack, ex := ex, fn := fun _ => false, pn := pn, xe := fun _ _ => False }
def compOkB (N : List Str) (psc : Scope) (x : Str) (cs : List (Str × Nat)) (scope : Scope) : Bool :=
 scope.kind == .function && scope.names.lookup x == some .local && decide ((x :: cs.map (·.1)).Nodup) &&
 scope.names.all (fun y => y.2 != .cell && (y.2 != .local || scope.names.lookup y.1 == some .local) && (y.2 != .free || (psc.names.lookup y.1 == some .cell || psc.names.lookup y.1 == some .free))) &&
 cs.all (fun p => N[p.2]? == some p.1 && (psc.names.lookup p.1 == some .cell || psc.names.lookup p.1 == some .free) && ((relN psc scope.names).lookup p.1 == some .cell || (relN psc scope.names).lookup p.1 == some .free))
structure CompOk (N : List Str) (psc : Scope) (x : Str) (cs : List (Str × Nat)) (scope : Scope) : Prop where
 kind : scope.kind = .function
 own : scope.names.lookup x = some .local
 nd : (x :: cs.map (·.1)).Nodup
 cell : ∀ y ∈ scope.names, y.2 ≠ .cell
 names : ∀ y ∈ scope.names, y.2 = .local → scope.names.lookup y.1 = some .local
 has : ∀ y ∈ scope.names, y.2 = .free → psc.names.lookup y.1 = some .cell ∨ psc.names.lookup y.1 = some .free
 cap : ∀ p ∈ cs, N[p.2]? = some p.1 ∧ (psc.names.lookup p.1 = some .cell ∨ psc.names.lookup p.1 = some .free) ∧ ((relN psc scope.names).lookup p.1 = some .cell ∨ (relN psc scope.names).lookup p.1 = some .free)
theorem CompOk.of {N : List Str} {psc : Scope} {x : Str} {cs : List (Str × Nat)} {scope : Scope} (h : compOkB N psc x cs scope = true) : CompOk N psc x cs scope := by
 unfold compOkB at h
 simp only [Bool.and_eq_true, Bool.or_eq_true, List.all_eq_true, beq_iff_eq, decide_eq_true_eq, bne_iff_ne, ne_eq] at h
 obtain ⟨⟨⟨⟨h1, h2⟩, h3⟩, h4⟩, h5⟩ := h
 refine ⟨h1, h2, h3, fun y hy => (h4 y hy).1.1, fun y hy e => ?_, fun y hy e => ?_, fun p hp => ⟨(h5 p hp).1.1, (h5 p hp).1.2, (h5 p hp).2⟩⟩
 ·rcases (h4 y hy).1.2 with z | z
  ·exact absurd e z
  ·exact z
 ·rcases (h4 y hy).2 with z | z
  ·exact absurd e z
  ·exact z
def PIfs (X : Cx) (ifs : List Expr) (t : TT) : Prop :=
 ∀ (pins : List (Addr × Obj)) (s : Shared) (σ : St) (H : Hp) (Q : Bool → Hp → Prop), Inv X pins σ H s → t σ H Q →
  wpAny (model X.prog X.w) X.A (forIn ifs true fun c r => if r = true then do let ok ← isTrue c X.env (eval c X.env); pure (ForInStep.yield ok) else pure (ForInStep.yield r)) (TP X pins σ Q) X.xe s
def tYes : TT := fun _ H Q => Q true H
theorem pifs_none {X : Cx} : PIfs X [] tYes := fun _ _ _ H _ I h => wpAny_tests_nil ⟨H, I, h⟩
def tCompR (wi : TI) (tq : TT) (te : TE) (cs : List (Str × Nat)) : St → Hp → (Addr → Hp → Prop) → Prop := fun σ H R => wi σ H fun J H1 => ∀ D, H1 D = none →
  ∃ W : Nat → Nat → List V → Hp → Prop, (∃ m, W 0 m [] (upd H1 D (.lst []))) ∧ ∀ i m ys H2, W i m ys H2 → H2 D = some (.lst ys) ∧
    ((J.stop i H2 ∧ R D H2) ∨ (J.go i H2 ∧ ys.length < sizeLine ∧ ∃ N : List V → Hp → Prop, (∀ ys' H', N ys' H' → ∃ m', m' < m ∧ W (i + 1) m' ys' H') ∧ ∀ v H3, J.yld i H2 v H3 → tq (some v :: capSt cs σ) H3 fun b H4 =>
      if b = true then te (some v :: capSt cs σ) H4 fun y H5 => H5 D = some (.lst ys) ∧ N (ys ++ [y]) (upd H5 D (.lst (ys ++ [y]))) else N ys H4))
section
variable {prog : Program} {w : World} {A : Around} {R : Result → Shared → Prop} {s : Shared}
theorem codeAny_compLoop_go {elt target iter : Expr} {ifs : List Expr} {scope : Scope} {pos : Pos} {it acc : Value} {env : Env} (I : Nat → Shared → Prop)
    (turn : ∀ n s, I n s → wpAny (model prog w) A (pyNext it) (fun r s₁ => match r with
      | none => R (.ok .next) s₁
      | some v => wpAny (model prog w) A (letOwnedTupleGo target it v) (fun _ s₁' => wpAny (model prog w) A (assign target env v) (fun _ s₂ =>
          wpAny (model prog w) A (forIn ifs true fun c r => if r = true then do let ok ← isTrue c env (eval c env); pure (ForInStep.yield ok) else pure (ForInStep.yield r)) (fun ok s₃ =>
            if ok = true then wpAny (model prog w) A (eval elt env) (fun x s₄ =>
              wpAny (model prog w) A (call (.builtin "list.append") [acc, x]) (fun _ s₅ => ∃ m, m < n ∧ I m s₅) (fun _ _ => False) s₄) (fun _ _ => False) s₃
            else ∃ m, m < n ∧ I m s₃) (fun _ _ => False) s₂) (fun _ _ => False) s₁') (fun _ _ => False) s₁) (fun _ _ => False) s)
    (n : Nat) (h : I n s) :
    codeAny (model prog w) A (.compLoop (.ListComp elt [⟨target, iter, ifs, 0⟩] scope pos) 0 it acc env) R s := by
  refine codeAny_loop rfl I (fun n s hI => ?_) n h
  show wpAny _ A ((compTurn (.ListComp elt [⟨target, iter, ifs, 0⟩] scope pos) 0 it acc env).onRaise (fun x => do noteFrame x env; theTreesLotGoes x)) _ _ s
  refine wpAny_noted ?_
  rw [compTurn_list]
  refine wpAny_bind (wpAny_standAt (wpAny_bind (wpAny_mono (turn n s hI) (fun r s₁ h₁ => ?_) fun _ _ h' => h'.elim)))
  cases r with
  | none => exact wpAny_pure h₁
  | some v =>
    refine wpAny_bind (wpAny_mono h₁ (fun _ s₁' h₁' => ?_) fun _ _ h' => h'.elim)
    refine wpAny_bind (wpAny_mono h₁' (fun _ s₂ h₂ => wpAny_bind (wpAny_mono h₂ (fun ok s₃ h₃ => ?_) fun _ _ h' => h'.elim)) fun _ _ h' => h'.elim)
    cases ok with
    | false => exact wpAny_pure ⟨rfl, h₃⟩
    | true =>
      exact wpAny_bind (wpAny_bind (wpAny_mono h₃ (fun x s₄ h₄ => wpAny_bind (wpAny_mono h₄ (fun _ s₅ h₅ => wpAny_pure (wpAny_pure ⟨rfl, h₅⟩)) fun _ _ h' => h'.elim)) fun _ _ h' => h'.elim))
end
section
variable {X : Cx} {elt iter : Expr} {ifs : List Expr} {x : Str} {px : Pos} {scope : Scope} {pos : Pos} {wi : TI} {tq : TT} {te : TE} {cs : List (Str × Nat)}
theorem comp_core (hc : X.calm = true) (hi : PI X (.Name x px) iter wi)
    (hq : ∀ (cl : List (Str × Addr)) (C : Addr) (s₀ : Shared) (H₀ : Hp) (ex : List Addr) (pn : List (Addr × Obj)), PIfs (compCx X (x :: cs.map (·.1)) scope cl C s₀ H₀ ex pn) ifs tq)
    (he : ∀ (cl : List (Str × Addr)) (C : Addr) (s₀ : Shared) (H₀ : Hp) (ex : List Addr) (pn : List (Addr × Obj)), PE (compCx X (x :: cs.map (·.1)) scope cl C s₀ H₀ ex pn) elt te)
    (ok : CompOk X.N X.env.scope x cs scope) {pins : List (Addr × Obj)} {s : Shared} {σ : St} {H : Hp} {R : Addr → Hp → Prop} (I : Inv X pins σ H s) (h : tCompR wi tq te cs σ H R)
    {RR : Value → Addr → Result → Shared → Prop}
    (hRR : ∀ (D C : Addr) (oC : Obj) (H' : Hp) (s' : Shared), Inv X (pins ++ [(C, oC)]) σ H' s' → (∀ h' : Heap, h'.get? C = some oC → ∃ m, h'.Ns C m) → FpOk X pins H' C → R D H' → RR (.ref D) C (.ok .next) s') :
    wpAny (model X.prog X.w) X.A (eval iter X.env) (fun xv s₁ => wpAny (model X.prog X.w) X.A (pyIter xv) (fun itv s₂ => wpAny (model X.prog X.w) X.A (newList []) (fun acc s₃ =>
      wpAny (model X.prog X.w) X.A (newFunctionEnv scope X.env.globals (closOf X.env.cells scope.names) [] X.env.qual none .none (some X.env)) (fun cenv s₄ =>
        codeAny (model X.prog X.w) X.A (.compStart (.ListComp elt [⟨.Name x px, iter, ifs, 0⟩] scope pos) 0 itv acc { cenv with scope := relabel scope X.env }) (RR acc cenv.locals) s₄) X.xe s₃) X.xe s₂) X.xe s₁) X.xe s := by
  refine thn (hi pins s σ H _ I h) fun v s1 h1 => thn h1 fun itv s2 h2 => ?_
  obtain ⟨it, fp, tn, J, H2, e, I2, T, st2, f2, h2⟩ := h2
  subst e
  have hhas : ∀ y ∈ scope.names, y.2 = .free → ∃ c, X.env.cells.lookup y.1 = some c := fun y hy hk => I2.ok.has y.1 (ok.has y hy hk)
  refine wpAny_newObj_type (wpAny_newFunctionEnv ok.cell (by intro y hy; simp at hy) (fun h₁ hns₁ hsb₁ => ?_) ok.kind)
  dsimp only at hns₁ hsb₁ ⊢
  generalize hHH : s2.heap.push { cls := .type "list", dict := none, data := .seq ([] : List Value).toArray } = HH at hns₁ hsb₁ ⊢
  have hC : HH.objs.size = s2.heap.objs.size + 1 := by rw [← hHH, Heap.size_push]
  have hDC : s2.heap.objs.size ≠ HH.objs.size := by rw [hC]; exact Nat.ne_of_lt (Nat.lt_succ_self _)
  have hCle : s2.heap.objs.size ≤ HH.objs.size := by rw [hC]; exact Nat.le_succ _
  have below : ∀ b, b < s2.heap.objs.size → b ≠ HH.objs.size := fun b hb => by rw [hC]; exact Nat.ne_of_lt (Nat.lt_succ_of_lt hb)
  have old : ∀ b o, s2.heap.get? b = some o → h₁.get? b = some o := fun b o e => hsb₁.extBut b o (below b (Heap.lt_size e)) (Heap.get?_push_of_some _ (hHH ▸ Heap.get?_push_of_some _ e))
  have hacc : h₁.get? s2.heap.objs.size = some { cls := .type "list", dict := none, data := .seq ([] : List Value).toArray } := hsb₁.extBut _ _ hDC (Heap.get?_push_of_some _ (hHH ▸ Heap.get?_push_size _ rfl))
  have nD : H2 s2.heap.objs.size = none := I2.hok.fresh (Nat.le_refl _)
  have nC : H2 HH.objs.size = none := I2.hok.fresh hCle
  obtain ⟨W, ⟨m0, w0⟩, turn⟩ := h2 s2.heap.objs.size nD
  -- the block's context
  have fpC : ∀ b ∈ fp, b ≠ HH.objs.size := fun b hb => by
    obtain ⟨o, ho, _⟩ := T.obj 0 _ st2 b hb
    exact below b (Heap.lt_size ho)
  have fpD : ∀ b ∈ fp, b ≠ s2.heap.objs.size := fun b hb => by
    obtain ⟨o, ho, _⟩ := T.obj 0 _ st2 b hb
    exact Nat.ne_of_lt (Heap.lt_size ho)
  have pinC : ∀ p ∈ X.pn ++ pins, p.1 ≠ HH.objs.size := fun p hp => below _ (Heap.lt_size (I2.pin p hp).1)
  have clIn : ∀ y c, (closOf X.env.cells scope.names).lookup y = some c → X.env.cells.lookup y = some c := clos_in scope.names [] hhas (fun y c e => by cases e)
  have kindRel : ∀ y, (relabel scope X.env).names.lookup y = (relN X.env.scope scope.names).lookup y := fun _ => rfl
  have okC : (compCx X (x :: cs.map (·.1)) scope (closOf X.env.cells scope.names) HH.objs.size s2 H2 fp (X.pn ++ pins)).Ok :=
    { mod := I2.ok.mod
      kind := ok.kind
      glob := I2.ok.glob
      blt := I2.ok.blt
      above := hCle
      inj := fun y z c e1 e2 => I2.ok.inj y z c (clIn y c e1) (clIn z c e2)
      has := fun y hk => by
        have hm : (y, NameKind.free) ∈ scope.names := by
          rcases hk with hk | hk
          · exact rel_mem (psc := X.env.scope) (k' := .cell) hk (.inl rfl) ok.cell
          · exact rel_mem (psc := X.env.scope) (k' := .free) hk (.inr rfl) ok.cell
        exact clos_has scope.names [] y (.inl hm)
      cab := fun y c hf _ => by cases hf
      hd := I2.ok.hd
      frames := I2.ok.frames
      stk := .inl rfl
      exf := fun b hb => ⟨fpC b hb, fun y c e z => (f2 b hb).2.2.2.2.1 y c (clIn y c e) z⟩
      bs := fun b o e => I2.bs b o e
      bsz := Nat.le_trans I2.ok.bsz I2.sz
      noex := fun b o e hb => by
        rcases (f2 b hb).2.2.2.1 with z | z
        · exact I2.ok.noex b o e z
        · exact absurd (Nat.lt_of_lt_of_le (Heap.lt_size e) (Nat.le_trans I2.ok.bsz z)) (Nat.lt_irrefl _)
      exfs := fun b hb z => by
        rcases List.mem_cons.mp (I2.stkSub b z) with q | q
        · exact (f2 b hb).2.1 q
        · exact (f2 b hb).2.2.1 q
      funs := I2.stack
      frf := I2.stkFree }
  have IC : Inv (compCx X (x :: cs.map (·.1)) scope (closOf X.env.cells scope.names) HH.objs.size s2 H2 fp (X.pn ++ pins)) [] (none :: capSt cs σ) (upd H2 s2.heap.objs.size (.lst [])) { s2 with heap := h₁, toks := s2.toks + ([] : List (Str × Value)).length } :=
    { ok := okC
      os := rfl
      bare := I2.bare
      base := Un.laid old (Nat.le_refl _) nD
      loc := by
        refine ⟨_, hns₁, fun i y u e1 e2 _ => ?_⟩
        cases i with
        | zero =>
          have e2' : (none : Option V) = some u := Option.some.inj e2
          cases e2'
        | succ i =>
          have e1' : (cs.map (·.1))[i]? = some y := e1
          have e2' : (capSt cs σ)[i]? = some (some u) := e2
          rw [List.getElem?_map] at e1'
          unfold capSt at e2'
          rw [List.getElem?_map] at e2'
          cases ep : cs[i]? with
          | none => rw [ep] at e1'; cases e1'
          | some p =>
            rw [ep] at e1' e2'
            have e1'' : p.1 = y := Option.some.inj e1'
            have e2'' : (σ[p.2]?).join = some u := Option.some.inj e2'
            have e3 : σ[p.2]? = some (some u) := by
              cases q : σ[p.2]? with
              | none => rw [q] at e2''; cases e2''
              | some z => rw [q] at e2''; exact congrArg some e2''
            subst e1''
            obtain ⟨hN, hkp, hkc⟩ := ok.cap p (List.mem_of_getElem? ep)
            obtain ⟨mP, _, hl⟩ := I2.loc
            obtain ⟨u', ru, lk⟩ := hl p.2 p.1 u hN e3 (.inr hkp)
            refine ⟨u', ru, .inr ⟨hkc, ?_⟩⟩
            rcases lk with ⟨k0, _⟩ | ⟨_, c, hcell, his⟩
            · exfalso
              have k0' : X.env.scope.names.lookup p.1 = some .local := k0
              rcases hkp with z | z <;> (rw [k0'] at z; cases z)
            · have hm : (p.1, NameKind.free) ∈ scope.names := by
                rcases hkc with z | z
                · exact rel_mem z (.inl rfl) ok.cell
                · exact rel_mem z (.inr rfl) ok.cell
              obtain ⟨c', hc'⟩ := clos_has (cells := X.env.cells) scope.names [] p.1 (.inl hm)
              have e5 : c' = c := Option.some.inj ((clIn p.1 c' hc').symm.trans hcell)
              exact ⟨c', hc', by rw [e5]; exact his.keeps old⟩
      cell := fun y c e => by
        obtain ⟨v', q⟩ := I2.cell y c (clIn y c e)
        exact ⟨v', q.keeps old⟩
      free := by
        show upd H2 s2.heap.objs.size (.lst []) HH.objs.size = none
        rw [upd_ne hDC.symm]
        exact nC
      freeC := fun y c e => by
        have hcl : c < s2.heap.objs.size := by
          obtain ⟨_, q⟩ := I2.cell y c (clIn y c e)
          exact q.lt
        rw [upd_ne (Nat.ne_of_lt hcl)]
        exact I2.freeC y c (clIn y c e)
      pin := fun p hp => by
        have hp' : p ∈ X.pn ++ pins := by
          rcases List.mem_append.mp hp with z | z
          · exact z
          · cases z
        obtain ⟨e1, e2, e3, e4, e5⟩ := I2.pin p hp'
        refine ⟨old _ _ e1, ?_, pinC p hp', fun z => ?_, e5⟩
        · rw [upd_ne (Nat.ne_of_lt (Heap.lt_size e1))]
          exact e2
        · rcases List.mem_cons.mp (I2.stkSub p.1 z) with q | q
          · exact e3 q
          · exact e4 q
      hok := I2.hok.laid old (Nat.le_refl _) ⟨Nat.zero_le _, [], 0, .nil, hacc⟩
      len := by simp [capSt] }
  have stC : tn 0 h₁ := T.keep 0 _ _ st2 fun b _ o e => old b o e
  have frC : ∀ b ∈ fp, upd H2 s2.heap.objs.size (HO.lst []) b = none := fun b hb => by
    rw [upd_ne (fpD b hb)]
    exact (f2 b hb).1
  -- what stays true of the iterator's objects in the block
  have stat : ∀ {H' : Hp}, (∀ b ∈ fp, H' b = none) → ∀ b ∈ fp, FpOk (compCx X (x :: cs.map (·.1)) scope (closOf X.env.cells scope.names) HH.objs.size s2 H2 fp (X.pn ++ pins)) [] H' b := fun {H'} hn b hb =>
    ⟨hn b hb, fpC b hb, okC.exfs b hb, .inl hb, fun y c e => (okC.exf b hb).2 y c e, fun p hp => (f2 b hb).2.2.2.2.2 p (by
      rcases List.mem_append.mp hp with z | z
      · exact z
      · cases z)⟩
  have loop : ∀ s₃ : Shared, s₃ = { s2 with heap := h₁, toks := s2.toks + ([] : List (Str × Value)).length } →
      codeAny (model X.prog X.w) X.A (.compLoop (.ListComp elt [⟨.Name x px, iter, ifs, 0⟩] scope pos) 0 (.ref it) (.ref s2.heap.objs.size) (compEnvC scope (closOf X.env.cells scope.names) HH.objs.size X.env)) (RR (.ref s2.heap.objs.size) HH.objs.size) s₃ := by
    rintro s₃ rfl
    refine codeAny_compLoop_go (fun n s' => ∃ (i : Nat) (v : Option V) (ys : List V) (H' : Hp), Inv (compCx X (x :: cs.map (·.1)) scope (closOf X.env.cells scope.names) HH.objs.size s2 H2 fp (X.pn ++ pins)) [] (v :: capSt cs σ) H' s' ∧ tn i s'.heap ∧ (∀ b ∈ fp, H' b = none) ∧ W i n ys H')
      ?_ m0 ⟨0, none, [], _, IC, stC, frC, w0⟩
    rintro n s3 ⟨i, v3, ys, H3, I3, st3, fr3, w3⟩
    obtain ⟨hD3, tr⟩ := turn i n ys H3 w3
    rcases tr with ⟨stop, qn⟩ | ⟨go, hsz, N, hN, step⟩
    · refine thn (T.done (compCx X (x :: cs.map (·.1)) scope (closOf X.env.cells scope.names) HH.objs.size s2 H2 fp (X.pn ++ pins)) rfl rfl rfl hc i [] s3 _ H3 _ I3 (stat fr3) st3 stop) fun r s4 ⟨hr, I4⟩ => ?_
      subst hr
      show RR (.ref s2.heap.objs.size) HH.objs.size (.ok .next) s4
      have IP : Inv X pins σ H3 s4 := I2.call' (ch := fp) I4.os I4.base I4.hok I4.bare fun b hb => ⟨(f2 b hb).2.2.2.1, (f2 b hb).2.1, (f2 b hb).2.2.2.2.1, (f2 b hb).2.2.2.2.2⟩
      obtain ⟨m4, ⟨oC, es, ep, hoC, hdC, hk1, hk2⟩, _⟩ := I4.loc
      have nC3 : H3 HH.objs.size = none := I4.free
      have fC : FpOk X pins H3 HH.objs.size := I2.fpOk hCle nC3
      refine hRR _ _ oC H3 s4 (IP.pins_of fun p hp => ?_) (fun h' e => ⟨m4, oC, es, ep, e, hdC, hk1, hk2⟩) fC qn
      rcases List.mem_append.mp hp with z | z
      · exact IP.pin p (List.mem_append_right _ z)
      · have e : p = (HH.objs.size, oC) := by simpa using z
        subst e
        exact ⟨hoC, nC3, fC.2.1, fC.2.2.1, fun v z => by
          have z' : oC.data = .cell v := z
          rw [hdC] at z'
          cases z'⟩
    · refine thn (T.item (compCx X (x :: cs.map (·.1)) scope (closOf X.env.cells scope.names) HH.objs.size s2 H2 fp (X.pn ++ pins)) rfl rfl rfl hc i [] s3 _ H3 _ I3 (stat fr3) st3 go) fun r s4 ⟨u, hr, h4⟩ => ?_
      subst hr
      refine thn h4 fun _ s5 ⟨y, H5, I5, r5, y5, st5, fr5⟩ => ?_
      have I5' := I5.pinned (stat fr5) (T.obj _ _ st5)
      have hloc : Loc (compCx X (x :: cs.map (·.1)) scope (closOf X.env.cells scope.names) HH.objs.size s2 H2 fp (X.pn ++ pins)).env.scope x := .inl (lookup_relabel_local ok.own)
      refine wpAny_assign_Name (store_ok (i := 0) I5' ok.nd rfl hloc r5 (fun s6 I6 => ?_) (.inr (lookup_relabel_local ok.own)))
      refine thn (hq _ _ _ _ _ _ _ s6 _ H5 _ I6 (step y H5 y5)) fun b s7 ⟨H7, I7, q7⟩ => ?_
      have again : ∀ {v' : Option V} {H8 : Hp} {s8 : Shared} {ys' : List V} {m' : Nat}, Inv (compCx X (x :: cs.map (·.1)) scope (closOf X.env.cells scope.names) HH.objs.size s2 H2 fp (X.pn ++ pins)) ([] ++ pinsAt fp s5.heap) (v' :: capSt cs σ) H8 s8 → W (i + 1) m' ys' H8 →
          ∃ (i : Nat) (v : Option V) (ys : List V) (H' : Hp), Inv (compCx X (x :: cs.map (·.1)) scope (closOf X.env.cells scope.names) HH.objs.size s2 H2 fp (X.pn ++ pins)) [] (v :: capSt cs σ) H' s8 ∧ tn i s8.heap ∧ (∀ b ∈ fp, H' b = none) ∧ W i m' ys H' := fun {v' H8 s8 ys' m'} I8 w8 => by
        refine ⟨i + 1, v', ys', H8, I8.unpinned, T.keep _ _ _ st5 fun b hb o e => (I8.pin (b, o) (List.mem_append_right _ (List.mem_append_right _ (mem_pinsAt hb e)))).1, fun b hb => ?_, w8⟩
        obtain ⟨o, e, d⟩ := T.obj _ _ st5 b hb
        exact (I8.pin (b, o) (List.mem_append_right _ (List.mem_append_right _ (mem_pinsAt hb e)))).2.1
      cases b with
      | false =>
        rw [if_neg Bool.false_ne_true] at q7
        rw [if_neg Bool.false_ne_true]
        obtain ⟨m', hm, w8⟩ := hN _ _ q7
        exact ⟨m', hm, again I7 w8⟩
      | true =>
        rw [if_pos rfl] at q7
        rw [if_pos rfl]
        refine thn (he _ _ _ _ _ _ _ s7 _ H7 _ I7 q7) fun z s8 ⟨zv, H8, I8, r8, hD8, n8⟩ => ?_
        obtain ⟨m', hm, w8⟩ := hN _ _ n8
        refine thn (mt_append (X := compCx X (x :: cs.map (·.1)) scope (closOf X.env.cells scope.names) HH.objs.size s2 H2 fp (X.pn ++ pins)) _ s8 _ H8 (.ref s2.heap.objs.size) [zv] (.ref s2.heap.objs.size) [z] (fun _ H9 => H9 = upd H8 s2.heap.objs.size (.lst (ys ++ [zv]))) I8 rfl (.cons r8 .nil) ⟨_, ys, zv, rfl, rfl, hD8, hsz, rfl⟩) fun _ s9 ⟨_, H9, I9, _, e9⟩ => ?_
        subst e9
        exact ⟨m', hm, again I9 w8⟩
  exact codeAny_compStart_list (loop _ rfl) (T.self _ 0 _ _ _ stC (loop _ rfl))
def tComp (wi : TI) (tq : TT) (te : TE) (cs : List (Str × Nat)) : TE := fun σ H Q => tCompR wi tq te cs σ H fun D H' => Q (.ref D) H'
theorem pe_comp (x : Str) (cs : List (Str × Nat)) {px : Pos} (hc : X.calm = true) (hi : PI X (.Name x px) iter wi)
  (hq : ∀ (cl : List (Str × Addr)) (C : Addr) (s₀ : Shared) (H₀ : Hp) (ex : List Addr) (pn : List (Addr × Obj)), PIfs (compCx X (x :: cs.map (·.1)) scope cl C s₀ H₀ ex pn) ifs tq)
  (he : ∀ (cl : List (Str × Addr)) (C : Addr) (s₀ : Shared) (H₀ : Hp) (ex : List Addr) (pn : List (Addr × Obj)), PE (compCx X (x :: cs.map (·.1)) scope cl C s₀ H₀ ex pn) elt te)
  (ok : compOkB X.N X.env.scope x cs scope = true := by kernel_rfl) (hs : ∀ x, foldedSetIterable iter X.env x = pure x := by intro _; rfl) :
  PE X (.ListComp elt [⟨.Name x px, iter, ifs, 0⟩] scope pos) (tComp wi tq te cs) := by
 intro pins s σ H Q I h
 have ok' := CompOk.of ok
 rw [eval_ListComp]
 refine wpAny_comprehension_free (use := none) rfl hs (closureFor_eq fun y hy hk => I.ok.has y.1 (ok'.has y hy hk)) ok'.kind ok'.names ?_
 refine comp_core (RR := fun acc C => compPost (model X.prog X.w) X.A X.xe none (EP X pins σ Q) acc C) hc hi hq he ok' I h ?_
 intro D C oC H' s' I' hns fC q
 refine ⟨_, (hns _ (I'.pin (C, oC) (List.mem_append_right _ (List.mem_append_right _ (by simp)))).1).choose_spec, fun h' hs' => ?_⟩
 have I1 : Inv X pins σ H' s' := I'.unpinned
 exact ⟨.ref D, H', I1.turned (t' := s'.toks) (fun b o hb e => (hs'.2 b hb).trans e) fC.1 fC.2.1 fC.2.2.2.1 fC.2.2.2.2.1 fC.2.2.2.2.2, rfl, q⟩
def tAsgC (k : Nat) (wi : TI) (tq : TT) (te : TE) (cs : List (Str × Nat)) : TS := fun D σ H => tCompR wi tq te cs σ H fun l H' => D.nx (σ.set k (some (.ref l))) H'
theorem ps_setC (x : Str) (cs : List (Str × Nat)) {px py spos : Pos} {y : Str} {k : Nat} (hN : X.N.Nodup) (hk : X.N[k]? = some y) (hy : Loc X.env.scope y) (hc : X.calm = true) (hi : PI X (.Name x px) iter wi)
  (hq : ∀ (cl : List (Str × Addr)) (C : Addr) (s₀ : Shared) (H₀ : Hp) (ex : List Addr) (pn : List (Addr × Obj)), PIfs (compCx X (x :: cs.map (·.1)) scope cl C s₀ H₀ ex pn) ifs tq)
  (he : ∀ (cl : List (Str × Addr)) (C : Addr) (s₀ : Shared) (H₀ : Hp) (ex : List Addr) (pn : List (Addr × Obj)), PE (compCx X (x :: cs.map (·.1)) scope cl C s₀ H₀ ex pn) elt te)
  (ok : compOkB X.N X.env.scope x cs scope = true := by kernel_rfl) (hs : ∀ x, foldedSetIterable iter X.env x = pure x := by intro _; rfl)
  (hsw : swapsWith (.ListComp elt [⟨.Name x px, iter, ifs, 0⟩] scope pos) (some (.Name y py)) spos.line X.env = pure true := by rfl)
  (hf : X.fn y = true ∨ X.env.scope.names.lookup y = some .local := by first | exact .inl rfl | exact .inr rfl | assumption) :
  PS X (.Assign [.Name y py] (.ListComp elt [⟨.Name x px, iter, ifs, 0⟩] scope pos) spos) (tAsgC k wi tq te cs) := by
 intro pins s σ H D I h
 have ok' := CompOk.of ok
 rw [exec_Assign_Name_used _ _ _ _ hsw]
 refine wpAny_bind (wpAny_standAt (wpAny_bind ?_))
 show wpAny _ X.A (do let _ ← comprehension (.ListComp elt [⟨.Name x px, iter, ifs, 0⟩] scope pos) scope X.env _ (newList []) false (eval iter X.env) (some (assign (.Name y py) X.env))) _ _ s
 refine wpAny_bind (wpAny_mono (wpAny_comprehension_free (use := some (assign (.Name y py) X.env)) (Q := fun _ s' => SP X pins D .next s') rfl hs (closureFor_eq fun y hy hk => I.ok.has y.1 (ok'.has y hy hk)) ok'.kind ok'.names
  (comp_core (RR := fun acc C => compPost (model X.prog X.w) X.A X.xe (some (assign (.Name y py) X.env)) (fun _ s' => SP X pins D .next s') acc C) hc hi hq he ok' I h ?_)) (fun _ s' hq => wpAny_pure (wpAny_pure hq)) fun _ _ e => e)
 intro l C oC H' s' I' hns fC q
 show wpAny _ X.A (assign (.Name y py) X.env (.ref l)) _ _ _
 refine wpAny_assign_Name (store_ok (v := .ref l) I' hN hk hy rfl (fun s'' I'' => ?_) hf)
 refine ⟨_, (hns _ (I''.pin (C, oC) (List.mem_append_right _ (List.mem_append_right _ (by simp)))).1).choose_spec, fun h' hs' => ?_⟩
 have I1 : Inv X pins _ H' s'' := I''.unpinned
 exact ⟨_, H', I1.turned (t' := s''.toks) (fun b o hb e => (hs'.2 b hb).trans e) fC.1 fC.2.1 fC.2.2.2.1 fC.2.2.2.2.1 fC.2.2.2.2.2, q⟩
end
def CompW (J : It) (tq : TT) (te : TE) (cs : List (Str × Nat)) (σ : St) (H1 : Hp) (R : Addr → Hp → Prop) : Prop := ∀ D, H1 D = none →
  ∃ W : Nat → Nat → List V → Hp → Prop, (∃ m, W 0 m [] (upd H1 D (.lst []))) ∧ ∀ i m ys H2, W i m ys H2 → H2 D = some (.lst ys) ∧
    ((J.stop i H2 ∧ R D H2) ∨ (J.go i H2 ∧ ys.length < sizeLine ∧ ∃ N : List V → Hp → Prop, (∀ ys' H', N ys' H' → ∃ m', m' < m ∧ W (i + 1) m' ys' H') ∧ ∀ v H3, J.yld i H2 v H3 → tq (some v :: capSt cs σ) H3 fun b H4 =>
      if b = true then te (some v :: capSt cs σ) H4 fun y H5 => H5 D = some (.lst ys) ∧ N (ys ++ [y]) (upd H5 D (.lst (ys ++ [y]))) else N ys H4))
theorem comp_it {J : It} {tq : TT} {te : TE} {cs : List (Str × Nat)} {σ : St} {H1 : Hp} {R : Addr → Hp → Prop} (n : Nat) (P : Addr → Nat → List V → Hp → Prop)
  (h0 : ∀ D, H1 D = none → P D 0 [] (upd H1 D (.lst []))) (hl : ∀ D i ys H2, i ≤ n → P D i ys H2 → H2 D = some (.lst ys) ∧ ys.length < sizeLine)
  (hgo : ∀ D i ys H2, i < n → P D i ys H2 → J.go i H2) (hst : ∀ D ys H2, H1 D = none → P D n ys H2 → J.stop n H2 ∧ R D H2)
  (hs : ∀ D i v ys H2 H3, i < n → P D i ys H2 → J.yld i H2 v H3 → tq (some v :: capSt cs σ) H3 fun b H4 => if b = true then te (some v :: capSt cs σ) H4 fun y H5 => H5 D = some (.lst ys) ∧ P D (i + 1) (ys ++ [y]) (upd H5 D (.lst (ys ++ [y]))) else P D (i + 1) ys H4) :
  CompW J tq te cs σ H1 R := by
 intro D hD
 refine ⟨fun i m ys H => m = n - i ∧ i ≤ n ∧ P D i ys H, ⟨n, by simp, Nat.zero_le _, h0 D hD⟩, ?_⟩
 rintro i m ys H2 ⟨rfl, hi, p⟩
 obtain ⟨q2, q3⟩ := hl D i ys H2 hi p
 refine ⟨q2, ?_⟩
 by_cases hlt : i < n
 ·exact .inr ⟨hgo D i ys H2 hlt p, q3, P D (i + 1), fun ys' H' p' => ⟨n - (i + 1), by omega, rfl, hlt, p'⟩, fun v H3 y => hs D i v ys H2 H3 hlt p y⟩
 ·have e : i = n := by omega
  subst e
  exact .inl (hst D ys H2 hD p)
theorem same_new {H : Hp} {D : Addr} {o : HO} (hD : H D = none) : Same H (upd H D o) := fun b ob e => by
 rw [upd_ne (ne_of_none e hD)]
 exact e
end L2
namespace L2
open PySem PySem.Spec PyProof.Rows
structure Noted (fs : List Addr) (z : Addr) (h h' : Heap) (e : Addr) (oe : Obj) (T : Addr) (fl : Value) : Prop where
 keep : ∀ b o, b ∉ fs → b ≠ e → b ≠ z → h.get? b = some o → h'.get? b = some o
 slot : ∀ b o, b ∈ fs → b ≠ e → b ≠ z → h.get? b = some o → ∃ sl, h'.get? b = some { o with slots := sl }
 exc : h'.get? e = some (oe.mapFields (·.setIfInBounds 1 (.ref T)))
 new : h.objs.size ≤ T
 tb : ∃ oT ts, h'.get? T = some oT ∧ oT.data = .fields ts ∧ ts[3]? = some fl
section
variable {M : Model} {A : Around} {E : Value → Shared → Prop} {s : Shared} {base : Heap} {env : Env} {outer : List Env} {L e z : Addr} {oe : Obj} {vs : Array Value} {Q : Unit → Shared → Prop}
theorem note_core {head : Value} {hadNext : Bool} (a1 : A.frames = some (env :: outer)) (a2 : s.heap.FunFrames base (env :: outer)) (a3 : env.frame = some L)
  (a4 : s.heap.get? e = some oe) (a5 : oe.data = .fields vs) (a6 : 1 < vs.size)
  (k : ∀ h' T, Noted (frs (env :: outer)) e s.heap h' e oe T (rawInt L) → Q () { s with heap := h' }) :
  wpAny M A (do
   let a ← frameOf env
   let pl ← entryPlaceOf L hadNext
   let b ← EntryCells.newEntry head a .none (rawInt L) .none pl
   setField (.ref e) 1 b) Q E s := by
 have ne : e ∉ frs (env :: outer) := fun m => by
  obtain ⟨_, o, e1, e2⟩ := a2.mem m
  rw [a4] at e1
  cases e1
  exact e2 vs a5
 refine wpAny_bind (wpAny_frameOf_fun a1 a2 a3 fun h1 S => ?_)
 refine wpAny_bind (wpAny_entryPlaceOf fun pl hpl => ?_)
 unfold EntryCells.newEntry newFields
 refine wpAny_bind (wpAny_newObj_type ?_ (hpl.sizeOk5 _ _ _ _ _))
 have b1 : h1.get? e = some oe := (S.2.1 e ne).trans a4
 have b2 := Heap.get?_push_of_some (h := h1) { cls := .type "traceback", dict := none, data := .fields ([head, .ref L, .none, rawInt L, .none] ++ (if pl.isEmpty then List.replicate 6 Value.none else pl)).toArray } b1
 refine wpAny_setField b2 a5 a6 (k _ h1.objs.size ?_)
 have n1 : h1.objs.size ≠ e := Nat.ne_of_gt (Heap.lt_size b1)
 have frd := Obj.isFreed_of_fields (Obj.data_mapFields a5 (·.setIfInBounds 1 (Value.ref h1.objs.size)))
 refine ⟨fun b o nb nbe _ hb => ?_, fun b o _ nbe _ hb => ?_, Heap.get?_update_self _ b2 frd, Nat.le_of_eq S.1.symm, ?_⟩
 ·rw [Heap.get?_update_other _ _ (Ne.symm nbe)]
  exact Heap.get?_push_of_some _ ((S.2.1 b nb).trans hb)
 ·obtain ⟨sl, q⟩ := S.2.2 b o hb
  refine ⟨sl, ?_⟩
  rw [Heap.get?_update_other _ _ (Ne.symm nbe)]
  exact Heap.get?_push_of_some _ q
 ·refine ⟨_, _, (Heap.get?_update_other _ _ (Ne.symm n1)).trans (Heap.get?_push_size h1 rfl), rfl, ?_⟩
  rcases hpl with rfl | ⟨_, _, _, _, _, _, _, rfl⟩ <;> simp
theorem flight_off {T : Addr} {oT : Obj} {ts : Array Value} (b1 : s.heap.get? e = some oe) (b2 : oe.data = .fields vs) (b3 : vs[1]? = some (.ref T)) (b4 : s.heap.get? T = some oT) (b5 : oT.data = .fields ts) (b6 : 3 < ts.size)
  (k : Q () { s with heap := s.heap.update T (Obj.mapFields (·.setIfInBounds 3 .none)) }) : wpAny M A (setFlight (.ref e) none) Q E s := by
 unfold setFlight
 refine wpAny_bind (wpAny_field b1 b2 b3 ?_)
 rw [if_pos (by simp)]
 exact wpAny_setField b4 b5 b6 k
theorem noted_off {fs : List Addr} {h h1 : Heap} {T : Addr} {fl : Value} (N : Noted fs z h h1 e oe T fl) (a4 : h.get? e = some oe) (a5 : oe.data = .fields vs) : Noted fs z h (h1.update T (Obj.mapFields (·.setIfInBounds 3 .none))) e oe T .none := by
 obtain ⟨oT, ts, t1, t2, t3⟩ := N.tb
 have ne : ∀ b o, h.get? b = some o → b ≠ T := fun b o q => Nat.ne_of_lt (Nat.lt_of_lt_of_le (Heap.lt_size q) N.new)
 refine ⟨fun b o n1 n2 n3 hb => ?_, fun b o n1 n2 n3 hb => ?_, ?_, N.new, ?_⟩
 ·rw [Heap.get?_update_other _ _ (Ne.symm (ne b o hb))]
  exact N.keep b o n1 n2 n3 hb
 ·obtain ⟨sl, q⟩ := N.slot b o n1 n2 n3 hb
  exact ⟨sl, by rw [Heap.get?_update_other _ _ (Ne.symm (ne b o hb))]; exact q⟩
 ·rw [Heap.get?_update_other _ _ (Ne.symm (ne e oe a4))]
  exact N.exc
 ·have z3 : 3 < ts.size := (Array.getElem?_eq_some_iff.mp t3).1
  exact ⟨_, _, Heap.get?_update_self _ t1 (Obj.isFreed_of_fields (Obj.data_mapFields t2 _)), Obj.data_mapFields t2 _, by simp [z3]⟩
theorem noted_flight {fs : List Addr} {h : Heap} {T : Addr} {fl : Value} (N : Noted fs z h s.heap e oe T fl) (a4 : h.get? e = some oe) (a5 : oe.data = .fields vs) (a6 : 1 < vs.size)
  (k : ∀ h', Noted fs z h h' e oe T .none → Q () { s with heap := h' }) : wpAny M A (setFlight (.ref e) none) Q E s := by
 obtain ⟨oT, ts, t1, t2, t3⟩ := N.tb
 refine flight_off N.exc (Obj.data_mapFields a5 _) (by simp [a6]) t1 t2 (Array.getElem?_eq_some_iff.mp t3).1 (k _ (noted_off N a4 a5))
theorem leave_first (a1 : A.frames = some (env :: outer)) (a2 : s.heap.FunFrames base (env :: outer)) (a3 : env.frame = some L)
  (a4 : s.heap.get? e = some oe) (a5 : oe.data = .fields vs) (a6 : vs[1]? = some .none) (k : ∀ h' T, Noted (frs (env :: outer)) e s.heap h' e oe T .none → Q () { s with heap := h' }) : wpAny M A (leaving env (.ref e)) Q E s := by
 have z1 := (Array.getElem?_eq_some_iff.mp a6).1
 unfold leaving noteFrame
 simp only [a3]
 refine wpAny_bind (wpAny_bind (wpAny_field a4 a5 a6 ?_))
 rw [if_neg (by decide)]
 exact note_core a1 a2 a3 a4 a5 z1 fun h' T N => noted_flight (s := { s with heap := h' }) N a4 a5 z1 fun h2 N2 => k h2 T N2
theorem note_next {T0 : Addr} {oT : Obj} {ts : Array Value} (a1 : A.frames = some (env :: outer)) (a2 : s.heap.FunFrames base (env :: outer)) (a3 : env.frame = some L)
  (a4 : s.heap.get? e = some oe) (a5 : oe.data = .fields vs) (a6 : vs[1]? = some (.ref T0)) (b1 : T0 ≠ e) (b2 : s.heap.get? T0 = some oT) (b3 : oT.data = .fields ts) (b4 : ts[3]? = some .none)
  (k : ∀ h' T, Noted (frs (env :: outer)) T0 s.heap h' e oe T (rawInt L) → Q () { s with heap := h' }) : wpAny M A (noteFrame (.ref e) env) Q E s := by
 have z1 := (Array.getElem?_eq_some_iff.mp a6).1
 unfold noteFrame
 simp only [a3]
 refine wpAny_bind (wpAny_field a4 a5 a6 ?_)
 rw [if_pos (by simp)]
 refine wpAny_bind (wpAny_field b2 b3 b4 ?_)
 rw [if_neg (by simp [rawInt])]
 refine wpAny_bind (wpAny_setField b2 b3 (Array.getElem?_eq_some_iff.mp b4).1 ?_)
 have oth : ∀ b, b ≠ T0 → (s.heap.update T0 (Obj.mapFields (·.setIfInBounds 3 Value.none))).get? b = s.heap.get? b := fun b hb => Heap.get?_update_other _ _ (Ne.symm hb)
 have fr : ∀ b o, s.heap.get? b = some o → (∀ us, o.data ≠ .fields us) → b ≠ T0 := fun b o hb n r => by
  rw [r, b2] at hb
  cases hb
  exact n ts b3
 refine note_core (s := { s with heap := s.heap.update T0 (Obj.mapFields (·.setIfInBounds 3 Value.none)) }) a1 (a2.of_keeps fun b o hb n => ⟨o, (oth b (fr b o hb n)).trans hb, rfl⟩) a3 ((oth e (Ne.symm b1)).trans a4) a5 z1 fun h' T N => k h' T ?_
 exact ⟨fun b o n1 n2 n3 hb => N.keep b o n1 n2 n2 ((oth b n3).trans hb), fun b o n1 n2 n3 hb => N.slot b o n1 n2 n2 ((oth b n3).trans hb), N.exc, by rw [← Heap.size_after_update s.heap T0 (Obj.mapFields (·.setIfInBounds 3 Value.none))]; exact N.new, N.tb⟩
end
end L2
namespace L2
open PySem PySem.Spec PyProof.Rows
section
variable {prog : Program} {w : World} {A : Around} {E : Value → Shared → Prop} {h : Heap} {g : Array GenState} {d : Drawn} {t : Nat} {os : OsState}
variable {nm q : Str} {C N : Addr} {bs bm bmB : List Value} {hdct : Bool} {sn : List Str} {sub : List Value} {ab : Bool} {col : Option Bool} {dd : Option Addr} {k0 k1 k2 k3 k5 : Option Value} {B newId initId : String}
theorem raise_made {s : Shared} {env : Env} {x : Sem Value} {Q : Flow → Shared → Prop} (hh : A.handled = none)
  (k : wpAny (model prog w) A x (fun v s₁ => ∃ e oe vs, v = .ref e ∧ (∃ C nm q N bs bm hdct sn sub ab col dd k0 k1 k2 k3 k5 newId, s₁.heap.get? C = some (excClassObj nm q C N bs bm hdct sn sub ab col dd k0 k1 k2 k3 k5 newId) ∧ bm.contains (.type "BaseException") = true ∧ oe.cls = .ref C) ∧
   s₁.heap.get? e = some oe ∧ oe.data = .fields vs ∧ vs[1]? = some .none ∧ E (.ref e) s₁) E s) :
  wpAny (model prog w) A (raiseStmt env (some x) none) Q E s := by
 unfold raiseStmt
 refine wpAny_bind (wpAny_mono k (fun v s₁ h₁ => ?_) fun _ _ x => x)
 obtain ⟨e, oe, vs, rfl, ⟨C, nm, q, N, bs, bm, hdct, sn, sub, ab, col, dd, k0, k1, k2, k3, k5, newId, hC, hb, hc⟩, he, hd, h1, hE⟩ := h₁
 have hcB : (Value.ref C :: bm).contains (.type "BaseException") = true := by rw [List.contains_cons, hb, Bool.or_true]
 obtain ⟨oc, od, odt, osl⟩ := oe
 dsimp only at hc hd
 subst hc hd
 obtain ⟨hp, g, d, tk, os⟩ := s₁
 repeat (first | with_reducible refine wpAny_loadPart_at he ?_ | with_reducible refine wpAny_loadPart_at hC ?_ | (with_reducible refine wpAny_isSubtype_exc hC ?_; rw [hcB]) | with_reducible refine wpAny_field he rfl h1 ?_ | wp_step)
 exact wpAny_raiseNew_none hh hE
end
section
variable {prog : Program} {w : World} {A : Around} {E : Value → Shared → Prop} {h : Heap} {g : Array GenState} {d : Drawn} {t : Nat} {os : OsState}
variable {nm q : Str} {C N : Addr} {bs bm bmB : List Value} {hdct : Bool} {sn : List Str} {sub : List Value} {ab : Bool} {col : Option Bool} {dd : Option Addr} {k0 k1 k2 k3 k5 : Option Value} {B newId initId : String}
theorem x_match {e c : Addr} {oe : Obj} {Q : Bool → Shared → Prop} {nm' q' : Str} {N' : Addr} {bs' bm' : List Value} {hdct' : Bool} {sn' : List Str} {sub' : List Value} {ab' : Bool} {col' : Option Bool} {dd' : Option Addr} {j0 j1 j2 j3 j5 : Option Value}
  (c1 : h.get? C = some (excClassObj nm q C N bs bm hdct sn sub ab col dd k0 k1 k2 k3 k5 newId)) (c2 : h.get? c = some (excClassObj nm' q' c N' bs' bm' hdct' sn' sub' ab' col' dd' j0 j1 j2 j3 j5 newId)) (e1 : h.get? e = some oe) (e2 : oe.cls = .ref C)
  (hb : bm'.contains (.type "BaseException") = true) (k : Q ((Value.ref C :: bm).contains (.ref c)) ⟨h, g, d, t, os⟩) : wpAny (model prog w) A (excMatches (.ref e) (.ref c)) Q E ⟨h, g, d, t, os⟩ := by
 have hcB : (Value.ref c :: bm').contains (.type "BaseException") = true := by rw [List.contains_cons, hb, Bool.or_true]
 have f := tc_notTuple
 unfold excMatches
 generalize hr : (Value.ref C :: bm).contains (.ref c) = r at k
 repeat (first | (with_reducible refine wpAny_loadPart_at e1 ?_; rw [e2]) | with_reducible refine wpAny_loadPart_at c2 ?_ | (with_reducible refine wpAny_isSubtype_exc c2 ?_; rw [hcB]) | (with_reducible refine wpAny_isSubtype_exc c1 ?_; rw [hr]) | wp_step)
 cases r <;> (wp_walk; exact k)
end
end L2
namespace L2
open PySem PySem.Spec PyProof.Rows
abbrev veTail : List Value := [.type "ValueError", .type "Exception", .type "BaseException", .type "object"]
def veOver : List Value → Bool
 | .ref _ :: r => veOver r
 | l => l == veTail
def xcIn (K : PySem.W.Frag) (C : Addr) : Bool := match K.lookup C with
  | some ⟨.type "type", _, .cls cd, sl⟩ => (match cd.mro, sl.toList with
    | .ref c :: bm, [_, _, _, _, some (.builtin n), _] => c == C && (n == "ValueError.__new__" && (!cd.hasDel && (PySem.W.tailIn K veTail bm && (PySem.W.nsOkIn K cd.ns && (cd.hasDict && veOver bm)))))
    | _, _ => false)
  | _ => false
structure XCls (h : Heap) (C : Addr) (nm qn : Str) (N : Addr) (bs bm : List Value) (sn : List Str) (sub : List Value) (ab : Bool) (col : Option Bool) (dd : Option Addr) (k0 k1 k2 k3 k5 : Option Value) : Prop where
 obj : h.get? C = some (excClassObj nm qn C N bs bm true sn sub ab col dd k0 k1 k2 k3 k5 "ValueError.__new__")
 tail : OwnTail h veTail bm
 ns : h.Ns N (h.nsMap N)
 over : veOver bm = true
theorem xc_of {K : PySem.W.Frag} {h : Heap} {C : Addr} (X : K.In h) (q : xcIn K C = true) : ∃ nm qn N bs bm sn sub ab col dd k0 k1 k2 k3 k5,
  XCls h C nm qn N bs bm sn sub ab col dd k0 k1 k2 k3 k5 ∧ K.lookup C = some (excClassObj nm qn C N bs bm true sn sub ab col dd k0 k1 k2 k3 k5 "ValueError.__new__") := by
 unfold xcIn at q
 split at q
 ·rename_i dd cd sl ho
  split at q
  ·rename_i c bm k0 k1 k2 k3 n k5 hm hs
   simp only [Bool.and_eq_true, beq_iff_eq, Bool.not_eq_true'] at q
   obtain ⟨q1, q2, q3, q4, q5, q6, q7⟩ := q
   obtain ⟨nm, bs, mro, ns, qn, hd, sn, sub, ab, col, del⟩ := cd
   obtain ⟨sl⟩ := sl
   dsimp only at hm hs q3 q5 q6
   subst q1 q2 hm q3 q6 hs
   exact ⟨nm, qn, ns, bs, bm, sn, sub, ab, col, dd, k0, k1, k2, k3, k5, ⟨X _ _ ho, PySem.W.tail_of_in X q4, .of_isNs (PySem.W.isNs_of_in X q5), q7⟩, ho⟩
  ·cases q
 ·cases q
def xnoIn (K : PySem.W.Frag) (C : Addr) : Bool := match K.lookup C with
 | some ⟨_, _, .cls cd, _⟩ => PySem.W.nsIn K cd.ns "__init__" == some none
 | _ => false
def xgaIn (K : PySem.W.Frag) (C : Addr) : Bool := PySem.W.findIn K (.ref C) "__getattribute__" == some (some (.builtin "BaseException.__getattribute__")) &&
 (PySem.W.findIn K (.ref C) "__getattr__" == some none && PySem.W.mroIn K C (.type "BaseException") == some true)
section
variable {prog : Program} {w : World} {A : Around} {E : Value → Shared → Prop} {s : Shared} {K : PySem.W.Frag} {x C : Addr} {ox : Obj} {od : Option Obj} {name : Str} {tk : Tok}
theorem x_by {fill expr : Bool} {Q : Value → Shared → Prop} (X : K.In s.heap) (q : xgaIn K C = true) (I : PySem.W.InstAt s.heap x ox C od)
  (h : wpAny (model prog w) A.in1 (Builtin.«object.__getattribute__» ⟨[.ref x, .str name tk], []⟩) (fun fin s' => match fin with
   | .done (.ret v) => wpAny (model prog w) A (handedOut v) Q E s'
   | _ => False) (fun _ _ => False) s) : wpAny (model prog w) A (getAttrBy (.ref x) (.str name tk) fill expr) Q E s := by
 simp only [xgaIn, Bool.and_eq_true, beq_iff_eq] at q
 obtain ⟨g1, g2, g3⟩ := q
 have M0 := I.type (M := model prog w)
 have M1 := PySem.W.looks_findIn (M := model prog w) X g1
 have M2 := PySem.W.looks_findIn (M := model prog w) X g2
 have M3 : PySem.W.Looks (model prog w) s.heap (isInstance (.ref x) (.type "BaseException")) true := M0.andThen (PySem.W.looks_mroIn X g3)
 have FB := PySem.F.excAttr_ValueError
 unfold getAttrBy
 refine wpAny_holding (wpAny_bind (M0.here (wpAny_bind (M1.here ?_))))
 dsimp only
 rw [show (Value.builtin "BaseException.__getattribute__" == Value.builtin "object.__getattribute__") = false from by decide +kernel, Bool.and_false, if_neg Bool.false_ne_true]
 unfold getAttrByItsOwn
 refine wpAny_bind (m := hookBefore (.ref C)) (M2.here (wpAny_bind (wpAny_attempt (wpAny_holding ?_))))
 unfold callGetattribute
 rw [if_neg (by cases expr <;> decide +kernel)]
 unfold boundAndCalled
 rw [FB.ga.bind]
 refine wpAny_bind (wpAny_pure ?_)
 refine wpAny_call (codeAny_call_builtin FB.ga.plain PySem.F.entry_bexc_ga (@PySem.W.check_slot (model prog w) _ _ s "BaseException.__getattribute__" "BaseException" "__getattribute__" (.ref x) [.str name tk] [] _ (by decide +kernel) (by decide +kernel) M3 (PySem.F.args_bexc_ga _ _) ?_))
 refine wpAny_mono h (fun fin s' z => ?_) fun _ _ z => z.elim
 rcases fin with (v | _ | _ | _) | c <;> first | exact z | exact z.elim
theorem x_bound {g a : Value} {P : Value → Shared → Prop} (X : K.In s.heap) (I : PySem.W.InstAt s.heap x ox C od) (hf : PySem.W.findObj K C od name = some (.bind g a)) (k : wpAny (model prog w) A (call g [a, .ref x, .ref C]) P E s) :
  wpAny (model prog w) A (Builtin.«object.__getattribute__» ⟨[.ref x, .str name tk], []⟩) (fun fin s' => match fin with
   | .done (.ret v) => P v s'
   | _ => False) E s := by
 have M0 := I.type (M := model prog w)
 have M1 := PySem.W.looks_find (M := model prog w) X I hf
 refine wpAny_bind (wpAny_pure (wpAny_bind (wpAny_pure (wpAny_bind (M0.here (wpAny_bind (M1.here ?_)))))))
 show wpAny _ _ (holding [a] (call g [a, .ref x, .ref C]) >>= ret) _ _ _
 exact wpAny_bind (wpAny_holding (wpAny_mono k (fun v s' z => wpAny_pure z) fun _ _ z => z))
end
section
variable {prog : Program} {w : World} {A : Around} {E : Value → Shared → Prop} {s : Shared} {K : PySem.W.Frag} {x dx C : Addr} {ox : Obj} {vs : Array Value} {name : Str} {v : Value}
end
end L2
namespace L2
open PySem PySem.Spec PyProof.Rows
def xo (a C : Addr) (dx : Option Addr) (b : Bool) : HO := .ext fun h => ∃ oe vs t, h.get? a = some oe ∧ oe.cls = .ref C ∧ oe.dict = dx ∧ oe.data = .fields vs ∧ vs.size = 6 ∧ vs[0]? = some (.ref t) ∧ (b = true → vs[1]? = some .none)
theorem xo_ok {P : Program} {w : World} {H : Hp} {h : Heap} {a C : Addr} {dx : Option Addr} {b : Bool} (x : ∃ oe vs t, h.get? a = some oe ∧ oe.cls = .ref C ∧ oe.dict = dx ∧ oe.data = .fields vs ∧ vs.size = 6 ∧ vs[0]? = some (.ref t) ∧ (b = true → vs[1]? = some .none)) :
  ObjOk P w H h a (xo a C dx b) := by
 obtain ⟨oe, vs, t, e, r⟩ := x
 exact ⟨⟨oe, vs, t, e, r⟩, ⟨oe, e⟩, fun h1 h2 ⟨oe, vs, t, e, r⟩ k => ⟨oe, vs, t, k _ e, r⟩⟩
def Flies (h : Heap) (a T : Addr) : Prop := ∃ oe vs oT ts, h.get? a = some oe ∧ oe.data = .fields vs ∧ vs[1]? = some (.ref T) ∧ T ≠ a ∧ h.get? T = some oT ∧ oT.data = .fields ts ∧ ts[3]? = some .none
section
variable {P : Program} {w : World} {H : Hp} {h h' : Heap} {fs ch : List Addr} {z a C T : Addr} {oe : Obj} {fl : Value} {dx : Option Addr} {b : Bool} {vs : Array Value}
theorem noted_flies (N : Noted fs z h h' a oe T .none) (e1 : h.get? a = some oe) (e2 : oe.data = .fields vs) (e3 : vs.size = 6) : Flies h' a T := by
 obtain ⟨oT, ts, t1, t2, t3⟩ := N.tb
 refine ⟨_, _, oT, ts, N.exc, Obj.data_mapFields e2 _, by simp [e3], fun q => ?_, t1, t2, t3⟩
 have z := Nat.lt_of_lt_of_le (Heap.lt_size e1) N.new
 rw [q] at z
 exact absurd z (Nat.lt_irrefl _)
theorem noted_xo (N : Noted fs z h h' a oe T fl) (x : ∃ vs t, oe.cls = .ref C ∧ oe.dict = dx ∧ oe.data = .fields vs ∧ vs.size = 6 ∧ vs[0]? = some (.ref t)) : ∃ oe vs t, h'.get? a = some oe ∧ oe.cls = .ref C ∧ oe.dict = dx ∧ oe.data = .fields vs ∧ vs.size = 6 ∧ vs[0]? = some (.ref t) ∧ (false = true → vs[1]? = some .none) := by
 obtain ⟨vs, t, c1, c2, c3, c4, c5⟩ := x
 refine ⟨_, _, t, N.exc, (Obj.cls_mapFields _ _).trans c1, ?_, Obj.data_mapFields c3 _, by simp [c4], ?_, fun q => by cases q⟩
 ·obtain ⟨_, _, od, _⟩ := oe
  dsimp only at c3
  subst c3
  exact c2
 ·rw [Array.getElem?_setIfInBounds_ne (by decide)]
  exact c5
theorem un_noted (N : Noted fs z h h' a oe T fl) (ha : H a = some (xo a C dx b)) (hz : z = a ∨ z ∈ ch) : Un fs ch H (upd H a (xo a C dx false)) h h' := by
 have n1 : ∀ c, H c = none → c ≠ a := fun c n q => by rw [q, ha] at n; cases n
 have n2 : ∀ c, c ≠ a → c ∉ ch → c ≠ z := fun c n m q => by
  rcases hz with r | r
  ·exact n (q.trans r)
  ·exact m (q ▸ r)
 have n3 : ∀ c u, H c = some u → (∀ φ, u ≠ .ext φ) → c ≠ a := fun c u q m r => by
  rw [r, ha] at q
  exact m _ (Option.some.inj q).symm
 refine ⟨fun c o q n hc hx => N.keep c o hc (n1 c n) (n2 c (n1 c n) hx) q, fun c o q n hc hx => N.slot c o hc (n1 c n) (n2 c (n1 c n) hx) q, fun c o q n hx => by rw [upd_ne (n1 c n)]; exact n, fun c o q hx => ?_,
  fun c xs q => by rw [upd_ne (n3 c _ q (by intro _ z; cases z))]; exact q, fun c o u q => by rw [upd_ne (n3 c _ q (by intro _ z; cases z))]; exact q, fun c ps q => ⟨#[], by rw [upd_ne (n3 c _ q (by intro _ z; cases z)), q]; simp⟩⟩
 by_cases ca : c = a
 ·rw [ca]; exact ⟨_, N.exc⟩
 ·by_cases cf : c ∈ fs
  ·obtain ⟨sl, r⟩ := N.slot c o cf ca (n2 c ca hx) q
   exact ⟨_, r⟩
  ·exact ⟨o, N.keep c o cf ca (n2 c ca hx) q⟩
theorem hok_noted (ok : HOk P w H h) (N : Noted fs z h h' a oe T fl) (ha : H a = some (xo a C dx b)) (hz : z = a ∨ H z = none) (hf : ∀ c ∈ fs, H c = none)
  (x : ∃ vs t, oe.cls = .ref C ∧ oe.dict = dx ∧ oe.data = .fields vs ∧ vs.size = 6 ∧ vs[0]? = some (.ref t)) : HOk P w (upd H a (xo a C dx false)) h' := fun c u q => by
 have n3 : ∀ c u, H c = some u → (∀ φ, u ≠ .ext φ) → c ≠ a := fun c u q m r => by
  rw [r, ha] at q
  exact m _ (Option.some.inj q).symm
 by_cases hc : c = a
 ·subst hc
  rw [upd_same] at q
  cases q
  exact xo_ok (noted_xo N x)
 ·rw [upd_ne hc] at q
  have kp : ∀ d u v, H d = some u → d ≠ a → h.get? d = some v → h'.get? d = some v := fun d u v q nd r => N.keep d v (fun m => by rw [hf d m] at q; cases q) nd (fun e => by
   rcases hz with g | g
   ·exact nd (e.trans g)
   ·rw [e, g] at q; cases q) r
  refine (ok c u q).stay (fun d v hd r => ?_) (fun d r => by rw [upd_ne (n3 d _ r (by intro _ z; cases z))]; exact r) fun d xs r => by rw [upd_ne (n3 d _ r (by intro _ z; cases z))]; exact r
  rcases hd with rfl | hd
  ·exact kp d u v q hc r
  ·exact kp d _ v hd (n3 d _ hd (by intro _ z; cases z)) r
theorem Un.less {L : Addr} {H' : Hp} (u : Un (L :: fs) ch H H' h h') (n : h.get? L = none) : Un fs ch H H' h h' := by
 have m : ∀ c o, h.get? c = some o → c ≠ L := fun c o q e => by rw [e, n] at q; cases q
 exact ⟨fun c o q k hc hx => u.keep c o q k (fun z => (List.mem_cons.mp z).elim (m c o q) hc) hx, fun c o q k hc hx => u.slot c o q k (List.mem_cons_of_mem _ hc) hx, u.free, u.there, u.tups, u.frzs, u.tbls⟩
end
def CX1 (P : Program) (w : World) : CXT := fun outer H s E e s' => ∃ a C dx H' T, e = .ref a ∧ s'.os = s.os ∧ AllBare s'.gens ∧ Un (frs outer) [] H H' s.heap s'.heap ∧ HOk P w H' s'.heap ∧ H' a = some (xo a C dx false) ∧ H' T = none ∧ s.heap.objs.size ≤ T ∧ Flies s'.heap a T ∧ E (.ref C) dx H'
section
variable {X : Cx} {pins : List (Addr × Obj)} {σ : St} {H : Hp} {s : Shared}
theorem leave_cx {P : Program} {w : World} {K : PySem.W.Frag} {mg : Str → Option Value} {base : Heap} {N : List Str} {qual : Str} {scope : Scope} {f : Addr} {cd : Value} {A : Around} {outer : List PySem.Env} {E : XK} {H1 : Hp} {s1 : Shared} {a C : Addr} {dx : Option Addr}
  (I : Inv (cxOf (CX1 P w) P w K mg base N qual scope f cd A outer s H E) pins σ H1 s1) (ha : H1 a = some (xo a C dx true)) (hE : E (.ref C) dx (upd H1 a (xo a C dx false))) : (cxOf (CX1 P w) P w K mg base N qual scope f cd A outer s H E).xe (.ref a) s1 := by
 obtain ⟨oe, vs, t, e1, e2, e3, e4, e5, e6, e7⟩ := (I.hok a _ ha).1
 have fr := I.ok.frames
 have st := I.stack
 refine leave_first fr st rfl e1 e4 (e7 rfl) fun h' T Nn => ?_
 have hL : s.heap.get? (envOfC qual scope s.heap.objs.size f cd).locals = none := Heap.get?_none_of_le I.ok.above
 have u1 : Un (s.heap.objs.size :: frs outer) [] H H1 s.heap s1.heap := Un.mono (fs' := s.heap.objs.size :: frs outer) (ex' := []) I.base (fun b hb => List.mem_cons_of_mem _ hb) fun b hb => hb
 have u2 : Un (s.heap.objs.size :: frs outer) [] H1 (upd H1 a (xo a C dx false)) s1.heap h' := un_noted Nn ha (.inl rfl)
 have hT : H1 T = none := I.hok.fresh Nn.new
 have nT : T ≠ a := fun q => by rw [q, ha] at hT; cases hT
 refine ⟨a, C, dx, _, T, rfl, I.os, I.bare, (u1.trans u2).less hL, hok_noted I.hok Nn ha (.inl rfl) (fun c hc => I.stkFree c hc) ⟨vs, t, e2, e3, e4, e5, e6⟩, upd_same, by rw [upd_ne nT]; exact hT, Nat.le_trans I.sz Nn.new, noted_flies Nn e1 e4 e5, hE⟩
end
end L2
namespace L2
open PySem PySem.Spec PyProof.Rows
theorem ObjOk.some_of {P : Program} {w : World} {H : Hp} {h : Heap} {a : Addr} {o : HO} (x : ObjOk P w H h a o) : ∃ u, h.get? a = some u := by
 cases o with
 | lst xs => obtain ⟨_, _, _, _, e⟩ := x; exact ⟨_, e⟩
 | tup xs => obtain ⟨_, _, _, u, e, _⟩ := x; exact ⟨u, e⟩
 | dK kvs => obtain ⟨_, _, _, _, u, _, _, e, _⟩ := x; exact ⟨u, e⟩
 | dT kvs => obtain ⟨_, _, _, _, u, _, _, e, _⟩ := x; exact ⟨u, e⟩
 | set S n => obtain ⟨u, _, _, _, e, _⟩ := x; exact ⟨u, e⟩
 | ins C dx fs => obtain ⟨_, _, _, e, _⟩ := x; exact ⟨_, e⟩
 | own y => exact x
 | xd fs => obtain ⟨_, ⟨u, _, _, e, _⟩, _⟩ := x; exact ⟨u, e⟩
 | rng lo hi => obtain ⟨_, _, _, e⟩ := x; exact ⟨_, e⟩
 | frz ob u => obtain ⟨e, _⟩ := x; exact ⟨_, e⟩
 | tbl ps => exact ⟨_, x⟩
 | met f y => exact ⟨_, x⟩
 | ext φ => exact x.2.1
theorem upd_id {H : Hp} {a : Addr} {o : HO} (e : H a = some o) : upd H a o = H := by
 funext b
 unfold upd
 split
 ·subst_vars; exact e.symm
 ·rfl
theorem xo_get {P : Program} {w : World} {H : Hp} {h : Heap} {a C : Addr} {dx : Option Addr} {b : Bool} (ok : HOk P w H h) (e : H a = some (xo a C dx b)) :
  ∃ oe vs t, h.get? a = some oe ∧ oe.cls = .ref C ∧ oe.dict = dx ∧ oe.data = .fields vs ∧ vs.size = 6 ∧ vs[0]? = some (.ref t) ∧ (b = true → vs[1]? = some .none) := (ok a _ e).1
section
variable {X : Cx} {pins : List (Addr × Obj)} {σ : St} {H : Hp} {s : Shared}
theorem Inv.laidN {a : Addr} {o : HO} {h' : Heap} {t' : Nat} (I : Inv X pins σ H s) (k : ∀ b u, s.heap.get? b = some u → h'.get? b = some u) (n : s.heap.get? a = none) (new : ObjOk X.prog X.w (upd H a o) h' a o) :
    H a = none ∧ Inv X pins σ (upd H a o) { s with heap := h', toks := t' } := by
  have hn : H a = none := by
    cases q : H a with
    | none => rfl
    | some u =>
      obtain ⟨v, e⟩ := (I.hok a u q).some_of
      rw [n] at e
      cases e
  refine ⟨hn, I.un ⟨fun b u q _ _ _ => k b u q, fun b u q _ _ _ => ⟨u.slots, k b u q⟩, fun b u q m _ => ?_, fun b u q _ => ⟨u, k b u q⟩, fun b xs q => by rw [upd_ne (ne_of_none q hn)]; exact q, fun b u xs q => by rw [upd_ne (ne_of_none q hn)]; exact q,
    fun b ps q => ⟨#[], by rw [upd_ne (ne_of_none q hn), q]; simp⟩⟩ fun b u q => ?_⟩
  · rw [upd_ne (fun z => by rw [z, n] at q; cases q)]
    exact m
  · by_cases hb : b = a
    · subst hb
      rw [upd_same] at q
      cases q
      exact new
    · rw [upd_ne hb] at q
      exact (I.hok b u q).stay (fun c v _ r => k c v r) (fun c r => by rw [upd_ne (ne_of_none r hn)]; exact r) fun c xs r => by rw [upd_ne (ne_of_none r hn)]; exact r
theorem ps_raise {e : Expr} {te : TE} {pos : Pos} {W : Addr → Addr → Option Addr → Hp → Prop} (he : PE X e te) (hc : X.calm = true)
  (hx : ∀ pins σ H s a C dx, Inv X pins σ H s → H a = some (xo a C dx true) → W a C dx H → X.xe (.ref a) s) :
  PS X (.Raise (some e) none pos) (fun _ σ H => te σ H fun v H1 => ∃ a C dx, v = .ref a ∧ H1 a = some (xo a C dx true) ∧ xcIn X.K C = true ∧ W a C dx H1) := by
 intro pins s σ H D I h
 rw [arm_exec_Raise]
 refine wpAny_bind (wpAny_standAt (raise_made (I.ok.hd hc) (wpAny_bind (thn (he pins s σ H _ I h) fun u s1 ⟨v, H1, I1, rv, a, C, dx, ev, ea, q1, w⟩ => wpAny_bind (wpAny_standAt (wpAny_pure ?_))))))
 subst ev
 cases rv
 obtain ⟨nm, qn, N, bs, bm, sn, sub, ab, col, dd, k0, k1, k2, k3, k5, Y, lk⟩ := xc_of I1.kIn q1
 obtain ⟨oe, vs, t, e1, e2, e3, e4, e5, e6, e7⟩ := xo_get I1.hok ea
 exact ⟨a, oe, vs, rfl, ⟨C, nm, qn, N, bs, bm, _, sn, sub, ab, col, dd, k0, k1, k2, k3, k5, _, Y.obj, Y.tail.hasType PySem.F.excBase_ValueError.hasBase, e2⟩, e1, e4, e7 rfl, hx pins σ H1 s1 a C dx I1 ea w⟩
def xisIn (K : PySem.W.Frag) (C : Addr) : Bool := xgaIn K C && (PySem.W.hasDictIn K C && (PySem.W.findIn K (.ref C) "__class__" == some (some (.builtin "object.__class__")) &&
 (PySem.W.specialIn K (.builtin "object.__class__") "__get__" == some (some (.builtin "getset_descriptor.__get__")) && (PySem.W.takesIn K (.builtin "object.__class__") == some true && PySem.W.mroIn K C (.type "object") == some true))))
def absU : V → Option Value
 | .ref a => some (.ref a)
 | .ty n => some (.type n)
 | _ => none
theorem absU_of {v : V} {u c : Value} (r : RelV v u) (h : absU v = some c) : u = c := by
 cases v <;> simp only [absU, reduceCtorEq] at h
 ·cases h; exact r
 ·cases h; exact r
end
end L2
namespace L2
open PySem PySem.Spec PyProof.Rows
section
variable {X : Cx} {pins : List (Addr × Obj)} {σ : St} {H : Hp} {s : Shared}
theorem Inv.del {M : Model} {A : Around} {E : Value → Shared → Prop} {i : Nat} {x : Str} {v : V} {Q : Unit → Shared → Prop} (I : Inv X pins σ H s) (hN : X.N.Nodup) (hi : X.N[i]? = some x) (hk : X.env.scope.names.lookup x = some .local) (hv : σ[i]? = some (some v))
  (k : ∀ s', Inv X pins (σ.set i none) H s' → Q () s') : wpAny M A (unbindName X.env x) Q E s := by
 obtain ⟨m, hn, hl⟩ := id I.loc
 obtain ⟨u, r, q⟩ := hl i x v hi hv (.inl hk)
 have hk' : X.env.kindOf x = some .local := hk
 have hm : m x = some u := by
  rcases q with ⟨_, e⟩ | ⟨z, _⟩
  ·exact e
  ·rw [hk'] at z
   rcases z with z | z <;> cases z
 have hcls : (X.env.scope.kind == .class || (X.env.scope.kind == .module && X.env.locals != X.env.globals)) = false := by rw [I.ok.kind]; rfl
 refine wpAny_unbindName_local hk' hn hm hcls fun h' u' hn' hs => k _ ?_
 obtain ⟨oL, _, _, hoL, _⟩ := id hn
 have above : ∀ b o, X.s₀.heap.get? b = some o → b ≠ X.env.locals := fun b o e => Nat.ne_of_lt (Nat.lt_of_lt_of_le (Heap.lt_size e) I.ok.above)
 refine ⟨I.ok, I.os, I.bare, ⟨fun b o e n hb hx => (hs.2 b (above b o e)).trans (I.base.keep b o e n hb hx), fun b o e n hb hx => ?_, I.base.free, fun b o e hx => ?_, I.base.tups, I.base.frzs, I.base.tbls⟩, ⟨_, hn', fun j y v' e1 e2 e3 => ?_⟩, fun y c e => ?_, I.free, I.freeC, fun p hp => ?_, fun b ob e => ?_, by simpa using I.len⟩
 ·obtain ⟨sl, e1⟩ := I.base.slot b o e n hb hx
  exact ⟨sl, (hs.2 b (above b o e)).trans e1⟩
 ·obtain ⟨o', e1⟩ := I.base.there b o e hx
  exact ⟨o', (hs.2 b (above b o e)).trans e1⟩
 ·have hj : j ≠ i := by
   rintro rfl
   rw [List.getElem?_set] at e2
   split at e2
   ·split at e2 <;> cases e2
   ·rename_i z; exact z rfl
  rw [List.getElem?_set_ne (Ne.symm hj)] at e2
  obtain ⟨u2, r2, q2⟩ := hl j y v' e1 e2 e3
  refine ⟨u2, r2, ?_⟩
  rcases q2 with ⟨k2, e⟩ | ⟨k2, c, e, z⟩
  ·have ne : y ≠ x := fun e => hj (nodup_ix hN e1 (e ▸ hi))
   exact .inl ⟨k2, (if_neg ne).trans e⟩
  ·exact .inr ⟨k2, c, e, z.sameBut hs (I.cne y c e)⟩
 ·obtain ⟨w', z⟩ := I.cell y c e
  exact ⟨w', z.sameBut hs (I.cne y c e)⟩
 ·obtain ⟨e, n, ne, nf, d⟩ := I.pin p hp
  exact ⟨(hs.2 p.1 ne).trans e, n, ne, nf, d⟩
 ·refine (I.hok b ob e).stay (fun c w' hc q => (hs.2 c ?_).trans q) (fun _ q => q) fun _ _ q => q
  rintro rfl
  rcases hc with rfl | hc
  ·rw [I.free] at e; cases e
  ·rw [I.free] at hc; cases hc
structure Caught (X : Cx) (pins : List (Addr × Obj)) (σ : St) (H : Hp) (s : Shared) (a C : Addr) (dx : Option Addr) (T : Addr) : Prop where
 inv : Inv X pins σ H s
 obj : H a = some (xo a C dx false)
 fl : Flies s.heap a T
 hT : H T = none
 t1 : X.s₀.heap.objs.size ≤ T
 t2 : T ≠ X.env.locals
 t3 : ∀ x c, X.env.cells.lookup x = some c → c ≠ T
 t4 : ∀ p ∈ X.pn ++ pins, p.1 ≠ T
theorem caught_new {T : Addr} (I : Inv X pins σ H s) (h : s.heap.objs.size ≤ T) : X.s₀.heap.objs.size ≤ T ∧ T ≠ X.env.locals ∧ (∀ x c, X.env.cells.lookup x = some c → c ≠ T) ∧ ∀ p ∈ X.pn ++ pins, p.1 ≠ T := by
 refine ⟨Nat.le_trans I.sz h, Nat.ne_of_gt (Nat.lt_of_lt_of_le I.lt h), fun x c e => ?_, fun p hp => ?_⟩
 ·obtain ⟨v, o, ho, _⟩ := I.cell x c e
  exact Nat.ne_of_lt (Nat.lt_of_lt_of_le (Heap.lt_size ho) h)
 ·exact Nat.ne_of_lt (Nat.lt_of_lt_of_le (Heap.lt_size (I.pin p hp).1) h)
theorem caught_of {E : XK} {e : Value} {s' : Shared} (I : Inv X pins σ H s) (h : CX1 X.prog X.w X.stack H s E e s') : ∃ a C dx H' T, e = .ref a ∧ Caught X pins σ H' s' a C dx T ∧ E (.ref C) dx H' := by
 obtain ⟨a, C, dx, H', T, rfl, os, bare, un, hok, ha, hT, hz, fl, hE⟩ := h
 have I2 := I.call' os un hok bare (fun b z => nomatch z)
 obtain ⟨z1, z2, z3, z4⟩ := caught_new I hz
 exact ⟨a, C, dx, H', T, rfl, ⟨I2, ha, fl, hT, z1, z2, z3, z4⟩, hE⟩
variable {a C T : Addr} {dx : Option Addr} {Q : Unit → Shared → Prop} {E : Value → Shared → Prop} {M : Model}
theorem Caught.note (c : Caught X pins σ H s a C dx T) (hs : X.stack = X.env :: X.outer) (hf : X.env.frame = some X.env.locals) (k : ∀ s' T', Caught X pins σ H s' a C dx T' → Q () s') :
  wpAny M X.A (noteFrame (.ref a) X.env) (fun _ s2 => wpAny M X.A (setFlight (.ref a) none) Q E s2) E s := by
 obtain ⟨oe, vs, t, e1, e2, e3, e4, e5, e6, _⟩ := xo_get c.inv.hok c.obj
 obtain ⟨oe', vs', oT, ts, f1, f2, f3, f4, f5, f6, f7⟩ := c.fl
 rw [e1] at f1
 cases f1
 rw [e4] at f2
 cases f2
 have fr := c.inv.ok.frames
 have st := c.inv.stack
 rw [hs] at fr st
 refine note_next fr st hf e1 e4 f3 f4 f5 f6 f7 fun h' T' N => noted_flight (s := { s with heap := h' }) N e1 e4 (by omega) fun h2 N2 => k _ T' ?_
 have hx : ∃ vs t, oe.cls = .ref C ∧ oe.dict = dx ∧ oe.data = .fields vs ∧ vs.size = 6 ∧ vs[0]? = some (.ref t) := ⟨vs, t, e2, e3, e4, e5, e6⟩
 rw [← hs] at N2
 have u := un_noted (ch := [T]) N2 c.obj (.inr (List.mem_singleton.mpr rfl))
 have hk := hok_noted c.inv.hok N2 c.obj (.inr c.hT) (fun b hb => c.inv.stkFree b hb) hx
 rw [upd_id c.obj] at u hk
 have I2 : Inv X pins σ H { s with heap := h2 } := c.inv.call' (s' := { s with heap := h2 }) rfl u hk c.inv.bare (fun b hb => by
  rw [List.mem_singleton.mp hb]
  exact ⟨.inr c.t1, c.t2, c.t3, c.t4⟩)
 obtain ⟨z1, z2, z3, z4⟩ := caught_new c.inv N2.new
 exact ⟨I2, c.obj, noted_flies N2 e1 e4 e5, c.inv.hok.fresh N2.new, z1, z2, z3, z4⟩
theorem Caught.off {A : Around} (c : Caught X pins σ H s a C dx T) (k : ∀ s', Caught X pins σ H s' a C dx T → Q () s') : wpAny M A (setFlight (.ref a) none) Q E s := by
 obtain ⟨oe, vs, oT, ts, f1, f2, f3, f4, f5, f6, f7⟩ := c.fl
 have z3 : 3 < ts.size := (Array.getElem?_eq_some_iff.mp f7).1
 refine flight_off f1 f2 f3 f5 f6 z3 (k _ ?_)
 have kp : ∀ b o, b ≠ T → s.heap.get? b = some o → (s.heap.update T (Obj.mapFields (·.setIfInBounds 3 .none))).get? b = some o := fun b o n e => (Heap.get?_update_other _ _ (Ne.symm n)).trans e
 have I2 := c.inv.turned (t' := s.toks) kp c.hT c.t2 (.inr c.t1) c.t3 c.t4
 exact ⟨I2, c.obj, ⟨oe, vs, _, _, kp a oe (Ne.symm f4) f1, f2, f3, f4, Heap.get?_update_self _ f5 (Obj.isFreed_of_fields (Obj.data_mapFields f6 _)), Obj.data_mapFields f6 _, by simp [z3]⟩, c.hT, c.t1, c.t2, c.t3, c.t4⟩
end
abbrev Cx.pin (X : Cx) (pins : List (Addr × Obj)) (E : Value → Shared → Prop) : Cx := { X with pn := X.pn ++ pins, xe := E }
abbrev Cx.suite (X : Cx) (e : Value) : Cx := { X with A := X.A.mark (some e), calm := false, xe := fun _ _ => False }
section
variable {X : Cx} {pins ps : List (Addr × Obj)} {σ : St} {H : Hp} {s : Shared} {E : Value → Shared → Prop} {e : Value}
theorem Inv.to_pin (I : Inv X pins σ H s) (E : Value → Shared → Prop) : Inv (X.pin pins E) [] σ H s :=
  ⟨⟨I.ok.mod, I.ok.kind, I.ok.glob, I.ok.blt, I.ok.above, I.ok.inj, I.ok.has, I.ok.cab, I.ok.hd, I.ok.frames, I.ok.stk, I.ok.exf, I.ok.bs, I.ok.bsz, I.ok.noex, I.ok.exfs, I.ok.funs, I.ok.frf⟩, I.os, I.bare, I.base, I.loc, I.cell, I.free, I.freeC,
    fun p hp => I.pin p (by simpa using hp), I.hok, I.len⟩
theorem Inv.of_pin (I : Inv (X.pin pins E) ps σ H s) : Inv X pins σ H s :=
  ⟨⟨I.ok.mod, I.ok.kind, I.ok.glob, I.ok.blt, I.ok.above, I.ok.inj, I.ok.has, I.ok.cab, I.ok.hd, I.ok.frames, I.ok.stk, I.ok.exf, I.ok.bs, I.ok.bsz, I.ok.noex, I.ok.exfs, I.ok.funs, I.ok.frf⟩, I.os, I.bare, I.base, I.loc, I.cell, I.free, I.freeC,
    fun p hp => I.pin p (List.mem_append_left _ hp), I.hok, I.len⟩
theorem Inv.to_suite (I : Inv X pins σ H s) (e : Value) : Inv (X.suite e) pins σ H s :=
 ⟨⟨I.ok.mod, I.ok.kind, I.ok.glob, I.ok.blt, I.ok.above, I.ok.inj, I.ok.has, I.ok.cab, (fun z => by cases z), I.ok.frames, I.ok.stk, I.ok.exf, I.ok.bs, I.ok.bsz, I.ok.noex, I.ok.exfs, I.ok.funs, I.ok.frf⟩, I.os, I.bare, I.base, I.loc, I.cell, I.free, I.freeC, I.pin, I.hok, I.len⟩
theorem Inv.of_suite (I : Inv (X.suite e) pins σ H s) (hd : X.A.handled = none) : Inv X pins σ H s :=
 ⟨⟨I.ok.mod, I.ok.kind, I.ok.glob, I.ok.blt, I.ok.above, I.ok.inj, I.ok.has, I.ok.cab, fun _ => hd, I.ok.frames, I.ok.stk, I.ok.exf, I.ok.bs, I.ok.bsz, I.ok.noex, I.ok.exfs, I.ok.funs, I.ok.frf⟩, I.os, I.bare, I.base, I.loc, I.cell, I.free, I.freeC, I.pin, I.hok, I.len⟩
end
def supIn (K : PySem.W.Frag) (C c : Addr) : Bool := match K.lookup C with
 | some ⟨_, _, .cls cd, _⟩ => cd.mro.contains (.ref c)
 | _ => false
theorem pe_callX {X : Cx} {CX : CXT} {k : Nat} {f : Addr} {fd : FuncData} {ps : List Str} {sp : Sp} {dvs : List V} {ds : List Value} {x : Str} {p pos : Pos} {e : Expr} {es : List Expr} {t : TA} {Ex : St → XK} (F : FnOk X.prog X.w X.K X.mg X.base CX k f fd ps sp) (hr : Room k X.A) (hg : Gl X x)
    (hm : X.mg x = some (.ref f)) (hk : PySem.W.keepIn X.K (.ref f) = true) (hb : Binds X.K fd ps ds) (hd : Vals dvs ds) (hx : ∀ pins σ H s e s', Inv X pins σ H s → CX X.stack H s (Ex σ) e s' → X.xe e s') (ha : PA X (e :: es) t)
    (hdb : (x == ("__debug__" : Str)) = false) (he : starEach (e :: es) X.env = (false, eval e X.env) :: starEach es X.env) (hpl : (backTo pos (starEach es X.env)).any (·.1) = false) :
    PE X (.Call (.Name x p) (e :: es) [] pos) (fun σ H Q => t σ H fun vs H1 => sp (vs ++ dvs) H1 Q (Ex σ)) := by
  intro pins s σ H Q I h
  refine wpAny_Call_Name_kw (ld_glob I hg hm ?_ hdb)
  refine PySem.W.callWith_K (h₀ := X.base) I.ok.mod.kin hk (thn (ha pos pins s σ H _ I h) fun us s1 ⟨vs, H1, I1, r, q⟩ => ⟨I1.kIn, ?_⟩) he hpl
  have r2 : Vals (vs ++ dvs) (us ++ ds) := r.append hd
  have hl : (us ++ ds).length = ps.length := by rw [← r2.length]; exact F.len _ _ _ _ q
  refine wpAny_call (codeAny_mono (F.run X.A X.stack s1 H1 ⟨us, []⟩ (us ++ ds) (vs ++ dvs) Q (Ex σ) hr I1.env0 (hb s1 us I1.kIn hl) r2 q) fun rr s' hq => ?_)
  cases rr with
  | error e => exact hx pins σ H1 s1 e s' I1 hq
  | ok fl =>
    cases fl with
    | ret u => exact I1.after hq
    | next => exact False.elim hq
    | brk => exact False.elim hq
    | cont => exact False.elim hq
end L2
namespace L2
open PySem PySem.Spec PyProof.Rows
theorem ns_none_of {K : PySem.W.Frag} {h : Heap} {N : Addr} {mg : Str → Option Value} {n : Str} (X : K.In h) (G : h.Ns N mg) (e : PySem.W.nsIn K N n = some none) : mg n = none := by
 obtain ⟨o, es, ep, ho, hd, _, hf⟩ := G
 unfold PySem.W.nsIn at e
 split at e
 ·rename_i q
  have z := X _ _ q
  rw [ho] at z
  cases z
  cases hd
  split at e
  ·cases e
  ·rename_i he
   rw [← hf]
   unfold nsFind findBy
   rw [← Array.find?_toList, he]
   rfl
 ·cases e
section
variable {X : Cx}
def tpC (C : Addr) (Q : VK) (vs : List V) (H : Hp) : Prop := vs.length = 1 ∧ ∀ a, H a = none → Q (.ref a) (upd H a (xo a C none true))
def tPlain (C : Addr) (te : TE) : TE := fun σ H Q => te σ H fun v H1 => tpC C Q [v] H1
theorem pe_plain {C : Addr} {x : Str} {p pos : Pos} {e : Expr} {te : TE} (q1 : xcIn X.K C = true) (q2 : xnoIn X.K C = true) (kp : PySem.W.keepIn X.K (.ref C) = true) (hg : Gl X x) (hm : X.mg x = some (.ref C)) (he : PE X e te) (hdb : (x == ("__debug__" : Str)) = false)
  (hs : starEach [e] X.env = [(false, eval e X.env)]) : PE X (.Call (.Name x p) [e] [] pos) (tPlain C te) := by
 intro pins s σ H Q I h
 refine wpAny_Call_Name_kw (ld_glob I hg hm ?_ hdb)
 refine PySem.W.callWith_K (h₀ := X.base) I.ok.mod.kin kp (thn (pa_cons he pa_nil hs pos pins s σ H (tpC C Q) I h) fun us s1 ⟨vs, H1, I1, r, q⟩ => ⟨I1.kIn, ?_⟩) hs rfl
 obtain ⟨nm, qn, N, bs, bm, sn, sub, ab, col, dd, k0, k1, k2, k3, k5, Y, lk⟩ := xc_of I1.kIn q1
 unfold xnoIn at q2
 rw [lk] at q2
 simp only [beq_iff_eq] at q2
 have c3 := ns_none_of I1.kIn Y.ns q2
 have hl : us.length = 1 := by
  rw [← r.length, q.1]
 obtain ⟨hh, g, d, t, os⟩ := s1
 refine wpAny_call_exc_subU PySem.F.excBase_ValueError (by decide +kernel) PySem.F.excBase_ValueError Y.tail Y.obj Y.ns c3 (fun h' a M => ?_) (by show us.length ≤ sizeLine; rw [hl, sizeLine_eq]; decide)
 obtain ⟨t0, m1, _, _⟩ := M.there
 obtain ⟨hn, I2⟩ := I1.laidN (a := a) (o := xo a C none true) (t' := t) M.keeps M.new (xo_ok ⟨_, _, t0, m1, rfl, rfl, rfl, rfl, rfl, fun _ => rfl⟩)
 exact ⟨V.ref a, _, I2, rfl, q.2 a hn⟩
end
theorem ps_tryR {X : Cx} {body suite : List Stmt} {b0 : Stmt} {cn n : Str} {np hp pos : Pos} {c : Addr} {i : Nat} {tb : Ends → TS} {th : TS}
    (hs : X.stack = X.env :: X.outer) (hf : X.env.frame = some X.env.locals) (hc : X.calm = true) (hN : X.N.Nodup) (hi : X.N[i]? = some n) (hl : X.env.scope.names.lookup n = some .local) (hg : Gl X cn) (hm : X.mg cn = some (.ref c)) (q : xcIn X.K c = true) (hdb : (cn == ("__debug__" : Str)) = false)
    (hb : ∀ (pins : List (Addr × Obj)) (D : Ends), PSs (X.pin pins fun e s' => ∃ σ' H' a C dx T, e = .ref a ∧ Caught X pins σ' H' s' a C dx T ∧ xcIn X.K C = true ∧ supIn X.K C c = true ∧
      th { D with nx := fun σ H => ∃ v, σ[i]? = some (some v) ∧ D.nx (σ.set i none) H, bk := fun _ _ => False, ct := fun _ _ => False } (σ'.set i (some (.ref a))) H') body (tb D))
    (hh : ∀ e, PSs (X.suite e) (b0 :: suite) th) :
    PS X (.Try body [.ExceptHandler (some (.Name cn np)) (some n) (b0 :: suite) hp] [] [] pos) (fun D σ H => tb D D σ H) := by
  intro pins s σ H D I h
  refine wpAny_Try_except (wpAny_mono (hb pins D [] s σ H D (I.to_pin _) h) (fun f s1 z => ?_) fun e s1 z => ?_)
  · cases f with
    | next => obtain ⟨σ', H', J, q⟩ := z; exact wpAny_execs_nil ⟨σ', H', J.of_pin, q⟩
    | brk => obtain ⟨σ', H', J, q⟩ := z; exact ⟨σ', H', J.of_pin, q⟩
    | cont => obtain ⟨σ', H', J, q⟩ := z; exact ⟨σ', H', J.of_pin, q⟩
    | ret u => obtain ⟨v, σ', H', J, r, q⟩ := z; exact ⟨v, σ', H', J.of_pin, r, q⟩
  · obtain ⟨σ', H', a, C, dx, T, rfl, K1, q1, q2, z⟩ := z
    refine K1.note hs hf fun s2 T2 K2 => ?_
    have hd := I.ok.hd hc
    refine wpAny_handleBy_cons (codeAny_handlers_test ?_) (by intro z; cases z)
    refine ld_glob (X := X.suite (.ref a)) (K2.inv.to_suite _) hg hm ?_ hdb
    obtain ⟨nm, qn, N, bs, bm, sn, sub, ab, col, dd, k0, k1, k2, k3, k5, Y, lk⟩ := xc_of K2.inv.kIn q1
    obtain ⟨nm', qn', N', bs', bm', sn', sub', ab', col', dd', j0, j1, j2, j3, j5, Y', lk'⟩ := xc_of K2.inv.kIn q
    obtain ⟨oe, vs, t, e1, e2, e3, e4, e5, e6, _⟩ := xo_get K2.inv.hok K2.obj
    have hit : (Value.ref C :: bm).contains (.ref c) = true := by
      unfold supIn at q2
      rw [lk] at q2
      exact q2
    obtain ⟨hh2, g, d, tk, os⟩ := s2
    refine x_match Y.obj Y'.obj e1 e2 (Y'.tail.hasType PySem.F.excBase_ValueError.hasBase) ?_
    rw [hit]
    refine codeAny_handlers_suite_as (K2.off fun s3 K3 => ?_)
    refine store_ok (X := X.suite (.ref a)) (v := .ref a) (K3.inv.to_suite _) hN hi (.inl hl) rfl (fun s4 I4 => ?_) (.inr hl)
    refine wpAny_mono (hh (.ref a) pins s4 _ H' _ I4 z) (fun f s5 y => ?_) fun _ _ y => False.elim y
    cases f with
    | next =>
      obtain ⟨σ5, H5, I5, v, ev, y⟩ := y
      have I5' := I5.of_suite hd
      refine wpAny_bind (wpAny_bindName (store_ok (v := .non) I5' hN hi (.inl hl) rfl (fun s6 I6 => ?_) (.inr hl)))
      unfold unbindBehindTheSuite
      refine wpAny_onRaise (I6.del (v := .non) hN hi hl ?_ fun s7 I7 => ?_)
      · rw [List.getElem?_set_self]
        rw [I5'.len]
        exact (List.getElem?_eq_some_iff.mp hi).1
      · rw [List.set_set] at I7
        exact ⟨_, H5, I7, y⟩
    | brk => obtain ⟨_, _, _, y⟩ := y; exact False.elim y
    | cont => obtain ⟨_, _, _, y⟩ := y; exact False.elim y
    | ret u =>
      obtain ⟨v, σ5, H5, I5, rv, y⟩ := y
      have I5' := I5.of_suite hd
      refine wpAny_bind (wpAny_bindName (store_ok (v := .non) I5' hN hi (.inl hl) rfl (fun s6 I6 => ?_) (.inr hl)))
      unfold unbindBehindTheSuite
      refine wpAny_onRaise (I6.del (v := .non) hN hi hl ?_ fun s7 I7 => ?_)
      · rw [List.getElem?_set_self]
        rw [I5'.len]
        exact (List.getElem?_eq_some_iff.mp hi).1
      · rw [List.set_set] at I7
        exact ⟨v, _, H5, I7, rv, y⟩
end L2
namespace E3
open PySem PySem.Spec PyProof.Rows L2
inductive D where
 | non | bl (b : Bool) | int (i : Int) | str (s : Str) | tup (xs : List D) | lst (xs : List D) | ref (n : Nat)
inductive Cl where
 | lst (ds : List D) | obj (c : Str) (fs : List (Str × D)) | dct (kvs : List (L2.Key × D))
abbrev Mm := List Cl
inductive Slot where
 | un | val (d : D) | own (ds : List D) | exc (c : Str) (n : Int)
abbrev Env := List Slot
mutual
def D.lf : D → Bool
 | .tup xs => D.lfs xs
 | .lst _ => false
 | .ref _ => false
 | _ => true
def D.lfs : List D → Bool
 | [] => true
 | a :: as => D.lf a && D.lfs as
end
def KL (K : PySem.W.Frag) (a : Addr) (vs : List V) : Prop := ∃ (o : Obj) (its : Array Value) (n : Nat), K.lookup a = some o ∧ o.cls = .type "list" ∧ o.dict = none ∧ o.data = .seq its n ∧ its.size ≤ sizeLine ∧ Vals vs its.toList
structure Pl where
 io : Nat → Addr
 n : Nat
 bd : Addr → Prop
def RdA (K : PySem.W.Frag) (P : Pl) (H : Hp) (a : Addr) (vs : List V) : Prop := (¬ P.bd a ∧ Rd H a (.lst vs)) ∨ KL K a vs
def RdK (K : PySem.W.Frag) (P : Pl) (H : Hp) (a : Addr) (vs : List V) : Prop := ((∀ k, k < P.n → P.io k ≠ a) ∧ Rd H a (.lst vs)) ∨ KL K a vs
mutual
def Is (K : PySem.W.Frag) (P : Pl) (H : Hp) : D → V → Prop
 | .non, v => v = .non
 | .bl b, v => v = .bl b
 | .int i, v => v = .int i
 | .str s, v => v = .str s
 | .tup ds, v => ∃ a vs, v = .ref a ∧ SqT K H a vs ∧ Iss K P H ds vs
 | .lst ds, v => ∃ a vs, v = .ref a ∧ RdA K P H a vs ∧ Iss K P H ds vs
 | .ref k, v => k < P.n ∧ v = .ref (P.io k)
def Iss (K : PySem.W.Frag) (P : Pl) (H : Hp) : List D → List V → Prop
 | [], vs => vs = []
 | d :: ds, vs => ∃ v r, vs = v :: r ∧ Is K P H d v ∧ Iss K P H ds r
end
def Fx (o : HO) : Prop := (∃ xs, o = .tup xs) ∨ (∃ u w, o = .frz u w) ∨ (∃ g, o = .ext g) ∨ ∃ fs, o = .xd fs
structure Lt (P : Pl) (H : Hp) (P' : Pl) (H' : Hp) : Prop where
 n : P.n ≤ P'.n
 io : ∀ k, k < P.n → P'.io k = P.io k
 bd : ∀ a, P'.bd a → P.bd a ∨ H a = none
 keep : ∀ a o, H a = some o → (Fx o ∨ ¬ P.bd a) → H' a = some o
 sure : ∀ a, H' a = none → H a = none
section
variable {K : PySem.W.Frag} {P P' P'' : Pl} {H H' H'' : Hp}
theorem Lt.refl (P : Pl) (H : Hp) : Lt P H P H := ⟨Nat.le_refl _, fun _ _ => rfl, fun _ z => .inl z, fun _ _ e _ => e, fun _ z => z⟩
theorem Lt.not (l : Lt P H P' H') {a : Addr} {o : HO} (e : H a = some o) (n : ¬ P.bd a) : ¬ P'.bd a := fun z => (l.bd a z).elim n fun z => by rw [e] at z; cases z
theorem Lt.trans (l : Lt P H P' H') (m : Lt P' H' P'' H'') : Lt P H P'' H'' where
 n := Nat.le_trans l.n m.n
 io := fun k h => (m.io k (Nat.lt_of_lt_of_le h l.n)).trans (l.io k h)
 bd := fun a z => (m.bd a z).elim (l.bd a) fun z => .inr (l.sure a z)
 keep := fun a o e h => m.keep a o (l.keep a o e h) (h.imp id fun n => l.not e n)
 sure := fun a z => l.sure a (m.sure a z)
theorem Lt.rd (l : Lt P H P' H') {a : Addr} {xs : List V} (n : ¬ P.bd a) (h : Rd H a (.lst xs)) : Rd H' a (.lst xs) := by
 rcases h with h | ⟨o, h⟩
 ·exact .inl (l.keep _ _ h (.inr n))
 ·exact .inr ⟨o, l.keep _ _ h (.inr n)⟩
theorem rd_some {a : Addr} {o : HO} (h : Rd H a o) : ∃ o', H a = some o' := h.elim (fun h => ⟨_, h⟩) fun ⟨_, h⟩ => ⟨_, h⟩
theorem Lt.rda (l : Lt P H P' H') {a : Addr} {xs : List V} (h : RdA K P H a xs) : RdA K P' H' a xs := h.imp (fun ⟨n, h⟩ => ⟨by obtain ⟨o, e⟩ := rd_some h; exact l.not e n, l.rd n h⟩) id
theorem Lt.tup (l : Lt P H P' H') {a : Addr} {xs : List V} (h : SqT K H a xs) : SqT K H' a xs := by
 rcases h with (h | ⟨o, h⟩) | h
 ·exact .inl (.inl (l.keep _ _ h (.inl (.inl ⟨_, rfl⟩))))
 ·exact .inl (.inr ⟨o, l.keep _ _ h (.inl (.inr (.inl ⟨_, _, rfl⟩)))⟩)
 ·exact .inr h
mutual
theorem Is.lt (l : Lt P H P' H') : ∀ {d : D} {v : V}, Is K P H d v → Is K P' H' d v
  | .non, _, h => h
  | .bl _, _, h => h
  | .int _, _, h => h
  | .str _, _, h => h
  | .tup ds, _, h => by
    obtain ⟨a, vs, e, s, r⟩ := h
    exact ⟨a, vs, e, l.tup s, Iss.lt l r⟩
  | .lst ds, _, h => by
    obtain ⟨a, vs, e, s, r⟩ := h
    exact ⟨a, vs, e, l.rda s, Iss.lt l r⟩
  | .ref k, _, h => ⟨Nat.lt_of_lt_of_le h.1 l.n, by rw [l.io k h.1]; exact h.2⟩
theorem Iss.lt (l : Lt P H P' H') : ∀ {ds : List D} {vs : List V}, Iss K P H ds vs → Iss K P' H' ds vs
  | [], _, h => h
  | _ :: _, _, h => by
    obtain ⟨v, r, e, p, q⟩ := h
    exact ⟨v, r, e, Is.lt l p, Iss.lt l q⟩
end
def Pl.less (P : Pl) (B : Addr → Prop) : Pl := { P with bd := fun a => P.bd a ∧ B a }
mutual
theorem Is.less {B : Addr → Prop} : ∀ {d : D} {v : V}, Is K P H d v → Is K (P.less B) H d v
  | .non, _, h => h
  | .bl _, _, h => h
  | .int _, _, h => h
  | .str _, _, h => h
  | .tup ds, _, h => by
    obtain ⟨a, vs, e, s, r⟩ := h
    exact ⟨a, vs, e, s, Iss.less r⟩
  | .lst ds, _, h => by
    obtain ⟨a, vs, e, s, r⟩ := h
    exact ⟨a, vs, e, s.imp (fun ⟨n, h⟩ => ⟨fun z => n z.1, h⟩) id, Iss.less r⟩
  | .ref k, _, h => h
theorem Iss.less {B : Addr → Prop} : ∀ {ds : List D} {vs : List V}, Iss K P H ds vs → Iss K (P.less B) H ds vs
  | [], _, h => h
  | _ :: _, _, h => by
    obtain ⟨v, r, e, p, q⟩ := h
    exact ⟨v, r, e, Is.less p, Iss.less q⟩
end
mutual
theorem Is.free (P' : Pl) : ∀ {d : D} {v : V}, d.lf = true → Is K P H d v → Is K P' H d v
  | .non, _, _, h => h
  | .bl _, _, _, h => h
  | .int _, _, _, h => h
  | .str _, _, _, h => h
  | .tup ds, _, l, h => by
    obtain ⟨a, vs, e, s, r⟩ := h
    exact ⟨a, vs, e, s, Iss.free P' (by simpa only [D.lf] using l) r⟩
  | .lst _, _, l, _ => by simp [D.lf] at l
  | .ref _, _, l, _ => by simp [D.lf] at l
theorem Iss.free (P' : Pl) : ∀ {ds : List D} {vs : List V}, D.lfs ds = true → Iss K P H ds vs → Iss K P' H ds vs
  | [], _, _, h => h
  | _ :: _, _, l, h => by
    obtain ⟨v, r, e, p, q⟩ := h
    simp only [D.lfs, Bool.and_eq_true] at l
    exact ⟨v, r, e, Is.free P' l.1 p, Iss.free P' l.2 q⟩
end
theorem Iss.len : ∀ {ds : List D} {vs : List V}, Iss K P H ds vs → vs.length = ds.length
  | [], _, h => by rw [show _ = [] from h]; rfl
  | d :: ds, _, h => by
    obtain ⟨v, r, e, _, q⟩ := h
    subst e
    simp [Iss.len q]
theorem Iss.get : ∀ {ds : List D} {vs : List V} {i : Nat} {d : D}, Iss K P H ds vs → ds[i]? = some d → ∃ v, vs[i]? = some v ∧ Is K P H d v
  | [], _, _, _, _, e => by simp at e
  | d :: ds, _, 0, _, h, e => by
    obtain ⟨v, r, e', p, _⟩ := h
    simp at e
    subst e e'
    exact ⟨v, rfl, p⟩
  | d :: ds, _, i + 1, _, h, e => by
    obtain ⟨v, r, e', _, q⟩ := h
    subst e'
    simpa using Iss.get (i := i) q (by simpa using e)
theorem Iss.append : ∀ {ds es : List D} {vs ws : List V}, Iss K P H ds vs → Iss K P H es ws → Iss K P H (ds ++ es) (vs ++ ws)
  | [], _, _, _, h, q => by rw [show _ = [] from h]; exact q
  | d :: ds, _, _, _, h, q => by
    obtain ⟨v, r, e, p, h⟩ := h
    subst e
    exact ⟨v, r ++ _, rfl, p, Iss.append h q⟩
theorem Iss.take : ∀ {ds : List D} {vs : List V} (n : Nat), Iss K P H ds vs → Iss K P H (ds.take n) (vs.take n)
  | _, _, 0, _ => rfl
  | [], _, n + 1, h => by rw [show _ = [] from h]; rfl
  | d :: ds, _, n + 1, h => by
    obtain ⟨v, r, e, p, h⟩ := h
    subst e
    exact ⟨v, _, rfl, p, Iss.take n h⟩
theorem Iss.drop : ∀ {ds : List D} {vs : List V} (n : Nat), Iss K P H ds vs → Iss K P H (ds.drop n) (vs.drop n)
  | _, _, 0, h => h
  | [], _, n + 1, h => by rw [show _ = [] from h]; rfl
  | d :: ds, _, n + 1, h => by
    obtain ⟨v, r, e, p, h⟩ := h
    subst e
    exact Iss.drop n h
theorem Iss.one {d : D} {v : V} (h : Is K P H d v) : Iss K P H [d] [v] := ⟨v, [], rfl, h, rfl⟩
theorem Iss.cons {d : D} {v : V} {ds : List D} {vs : List V} (h : Is K P H d v) (q : Iss K P H ds vs) : Iss K P H (d :: ds) (v :: vs) := ⟨v, vs, rfl, h, q⟩
theorem Iss.set : ∀ {ds : List D} {vs : List V} {d : D} {v : V} (n : Nat), Iss K P H ds vs → Is K P H d v → Iss K P H (ds.set n d) (vs.set n v)
  | [], _, _, _, _, h, _ => by rw [show _ = [] from h]; rfl
  | d :: ds, _, _, _, 0, h, p => by
    obtain ⟨v, r, e, _, h⟩ := h
    subst e
    exact ⟨_, r, rfl, p, h⟩
  | d :: ds, _, _, _, n + 1, h, p => by
    obtain ⟨v, r, e, q, h⟩ := h
    subst e
    exact ⟨v, _, rfl, q, Iss.set n h p⟩
end
def CellOk (K : PySem.W.Frag) (mg : Str → Option Value) (P : Pl) (H : Hp) (a : Addr) : Cl → Prop
 | .lst ds => ∃ vs, H a = some (.lst vs) ∧ Iss K P H ds vs
 | .obj c fs => ∃ C dx gs, mg c = some (.ref C) ∧ H a = some (.ins C dx gs) ∧ gs.map (·.1) = fs.map (·.1) ∧ Iss K P H (fs.map (·.2)) (gs.map (·.2))
 | .dct kvs => ∃ vs : List (L2.Key × V), H a = some (.dK vs) ∧ vs.map (·.1) = kvs.map (·.1) ∧ Iss K P H (kvs.map (·.2)) (vs.map (·.2))
structure Hk (K : PySem.W.Frag) (mg : Str → Option Value) (P : Pl) (H : Hp) (M : Mm) : Prop where
 n : P.n = M.length
 cell : ∀ (k : Nat) c, M[k]? = some c → CellOk K mg P H (P.io k) c
 inj : ∀ j k, j < P.n → k < P.n → P.io j = P.io k → j = k
 bd : ∀ k, k < P.n → P.bd (P.io k)
 here : ∀ a, P.bd a → H a ≠ none
structure LtE (P : Pl) (H : Hp) (P' : Pl) (H' : Hp) : Prop where
 n : P.n ≤ P'.n
 io : ∀ k, k < P.n → P'.io k = P.io k
 bd : ∀ a, P'.bd a → P.bd a ∨ H a = none
 bm : ∀ a, P.bd a → P'.bd a
 keep : ∀ a o, H a = some o → (∀ k, k < P.n → P.io k ≠ a) → H' a = some o
 sure : ∀ a, H' a = none → H a = none
 nw : ∀ k, P.n ≤ k → k < P'.n → H (P'.io k) = none
section
variable {K : PySem.W.Frag} {mg : Str → Option Value} {P P' P'' : Pl} {H H' H'' : Hp} {M M' : Mm}
theorem LtE.refl (P : Pl) (H : Hp) : LtE P H P H := ⟨Nat.le_refl _, fun _ _ => rfl, fun _ z => .inl z, fun _ z => z, fun _ _ e _ => e, fun _ z => z, fun k h1 h2 => absurd h1 (Nat.not_le.mpr h2)⟩
theorem LtE.same (s : Same H H') : LtE P H P H' := ⟨Nat.le_refl _, fun _ _ => rfl, fun _ z => .inl z, fun _ z => z, fun a o e _ => s a o e, fun a z => s.free z, fun k h1 h2 => absurd h1 (Nat.not_le.mpr h2)⟩
theorem Hk.cellAt (h : Hk K mg P H M) {k : Nat} (hk : k < P.n) : ∃ o, H (P.io k) = some o ∧ ¬ Fx o := by
  obtain ⟨c, hc⟩ : ∃ c, M[k]? = some c := ⟨_, List.getElem?_eq_getElem (by rw [← h.n]; exact hk)⟩
  have := h.cell k c hc
  cases c with
  | lst ds =>
    obtain ⟨vs, e, _⟩ := this
    exact ⟨_, e, fun z => by rcases z with ⟨_, z⟩ | ⟨_, _, z⟩ | ⟨_, z⟩ | ⟨_, z⟩ <;> cases z⟩
  | obj c fs =>
    obtain ⟨C, dx, gs, _, e, _⟩ := this
    exact ⟨_, e, fun z => by rcases z with ⟨_, z⟩ | ⟨_, _, z⟩ | ⟨_, z⟩ | ⟨_, z⟩ <;> cases z⟩
  | dct kvs =>
    obtain ⟨vs, e, _⟩ := this
    exact ⟨_, e, fun z => by rcases z with ⟨_, z⟩ | ⟨_, _, z⟩ | ⟨_, z⟩ | ⟨_, z⟩ <;> cases z⟩
theorem LtE.lt (l : LtE P H P' H') (h : Hk K mg P H M) : Lt P H P' H' where
 n := l.n
 io := l.io
 bd := l.bd
 sure := l.sure
 keep := fun a o e z => l.keep a o e fun k hk q => by
  subst q
  rcases z with z | z
  ·obtain ⟨o', e', nf⟩ := h.cellAt hk
   rw [e] at e'
   cases e'
   exact nf z
  ·exact z (h.bd k hk)
theorem LtE.trans (l : LtE P H P' H') (m : LtE P' H' P'' H'') : LtE P H P'' H'' where
 n := Nat.le_trans l.n m.n
 io := fun k h => (m.io k (Nat.lt_of_lt_of_le h l.n)).trans (l.io k h)
 bd := fun a z => (m.bd a z).elim (l.bd a) fun z => .inr (l.sure a z)
 bm := fun a z => m.bm a (l.bm a z)
 keep := fun a o e h => m.keep a o (l.keep a o e h) fun k hk q => by
  rcases Nat.lt_or_ge k P.n with z | z
  ·rw [l.io k z] at q
   exact h k z q
  ·rw [← q, l.nw k z hk] at e
   cases e
 sure := fun a z => l.sure a (m.sure a z)
 nw := fun k h1 h2 => by
  rcases Nat.lt_or_ge k P'.n with z | z
  ·rw [m.io k z]
   exact l.nw k h1 z
  ·exact l.sure _ (m.nw k z h2)
end
end E3
namespace E3
open PySem PySem.Spec PyProof.Rows L2
inductive Cp where
 | eq | ne | lt | le | gt | ge | isin | notin | same | other
mutual
def D.eq : D → D → Bool
 | .non, .non => true
 | .bl a, .bl b => a == b
 | .bl a, .int b => (if a then 1 else 0) == b
 | .int a, .bl b => a == (if b then 1 else 0)
 | .int a, .int b => a == b
 | .str a, .str b => a == b
 | .tup a, .tup b => D.eqs a b
 | .lst a, .lst b => D.eqs a b
 | .ref a, .ref b => a == b
 | _, _ => false
def D.eqs : List D → List D → Bool
 | [], [] => true
 | a :: as, b :: bs => D.eq a b && D.eqs as bs
 | _, _ => false
end
mutual
def D.dep : D → Nat
 | .tup xs => D.deps xs + 1
 | .lst xs => D.deps xs + 1
 | .ref _ => 101
 | _ => 0
def D.deps : List D → Nat
 | [] => 0
 | a :: as => max (D.dep a) (D.deps as)
end
def D.flat : D → Bool
 | .tup _ => false
 | .lst _ => false
 | .ref _ => false
 | _ => true
def inStr (i j : Str) : Bool := !(Builtin.Str.occurrences j i 0 j.length 1).isEmpty
def eqOk (a b : D) : Bool := a.flat == b.flat && decide (b.dep ≤ 50)
def cEq (a b : D) : Option Bool := if eqOk a b = true ∧ a.dep ≤ 50 then some (D.eq a b) else none
def cNe (a b : D) : Option Bool := if eqOk a b = true ∧ a.dep ≤ 50 then some (!D.eq a b) else none
def cOrd (f : Int → Int → Bool) (a b : D) : Option Bool := match a with
 | .int i => (match b with | .int j => some (f i j) | _ => none)
 | _ => none
def cIn (a b : D) : Option Bool := match b with
 | .str j => (match a with | .str i => some (inStr i j) | _ => none)
 | .lst xs => if (a.flat && xs.all D.flat) = true then some (xs.any fun y => D.eq y a) else none
 | .tup xs => if (a.flat && xs.all D.flat) = true then some (xs.any fun y => D.eq y a) else none
 | _ => none
def cNin (a b : D) : Option Bool := match b with
 | .str j => (match a with | .str i => some (!inStr i j) | _ => none)
 | .lst xs => if (a.flat && xs.all D.flat) = true then some (!xs.any fun y => D.eq y a) else none
 | .tup xs => if (a.flat && xs.all D.flat) = true then some (!xs.any fun y => D.eq y a) else none
 | _ => none
def cSame (a b : D) : Option Bool := match b with
 | .bl b => (match a with | .bl a => some (a == b) | _ => some false)
 | .non => (match a with | .non => some true | _ => some false)
 | _ => none
def cOther (a b : D) : Option Bool := match b with
 | .bl b => (match a with | .bl a => some (!(a == b)) | _ => some true)
 | .non => (match a with | .non => some false | _ => some true)
 | _ => none
def cmpD (c : Cp) (a b : D) : Option Bool := match c with
 | .eq => cEq a b
 | .ne => cNe a b
 | .lt => cOrd (fun i j => decide (i < j)) a b
 | .le => cOrd (fun i j => decide (i ≤ j)) a b
 | .gt => cOrd (fun i j => decide (j < i)) a b
 | .ge => cOrd (fun i j => decide (j ≤ i)) a b
 | .isin => cIn a b
 | .notin => cNin a b
 | .same => cSame a b
 | .other => cOther a b
def IsB (K : PySem.W.Frag) (P : Pl) (H : Hp) : D → V → Prop
 | .lst ds, v => ∃ a vs, v = .ref a ∧ RdK K P H a vs ∧ Iss K P H ds vs
 | d, v => Is K P H d v
section
variable {X : Cx} {pins : List (Addr × Obj)} {σ : L2.St} {H : Hp} {s : Shared}
theorem sqlOf {K : PySem.W.Frag} {P : Pl} {a : Addr} {xs : List V} (h : RdK K P H a xs) : SqL K H a xs := h.imp (·.2) id
def IsW (K : PySem.W.Frag) (P : Pl) (H : Hp) : D → V → Prop
 | .lst ds, v => ∃ a vs, v = .ref a ∧ SqL K H a vs ∧ Iss K P H ds vs
 | d, v => Is K P H d v
theorem IsB.w {K : PySem.W.Frag} {P : Pl} {d : D} {v : V} (h : IsB K P H d v) : IsW K P H d v := by
 cases d <;> first | exact h | (obtain ⟨a, vs, e, r, q⟩ := h; exact ⟨a, vs, e, sqlOf r, q⟩)
theorem Is.w {K : PySem.W.Frag} {P : Pl} {d : D} {v : V} (h : Is K P H d v) : IsW K P H d v := by
 cases d <;> first | exact h | (obtain ⟨a, vs, e, r, q⟩ := h; exact ⟨a, vs, e, r.imp (·.2) id, q⟩)
theorem sql {l : Addr} {xs : List V} (I : Inv X pins σ H s) (h : SqL X.K H l xs) : xs.length ≤ sizeLine ∧ ∃ its : List Value, Vals xs its ∧ s.heap.IsList l its.toArray := by
 obtain ⟨its, r, p, z⟩ := I.list h
 exact ⟨z, its, r, p.isList⟩
mutual
theorem Is.inj (I : Inv X pins σ H s) {A B : Pl} : ∀ (d e : D) (v : V), IsW X.K A H d v → IsW X.K B H e v → d.dep ≤ 100 → e.dep ≤ 100 → d = e
  | .ref _, e, v, h, h', hd, he => by simp [D.dep] at hd
  | .non, e, v, h, h', hd, he => by
    have hv : v = .non := h
    subst hv
    cases e <;> first | (simp [D.dep] at he; done) | (simp [IsW, Is] at h' <;> rfl)
  | .bl b, e, v, h, h', hd, he => by
    have hv : v = .bl b := h
    subst hv
    cases e <;> first | (simp [D.dep] at he; done) | (simp [IsW, Is] at h' <;> simp [h'])
  | .int b, e, v, h, h', hd, he => by
    have hv : v = .int b := h
    subst hv
    cases e <;> first | (simp [D.dep] at he; done) | (simp [IsW, Is] at h' <;> simp [h'])
  | .str b, e, v, h, h', hd, he => by
    have hv : v = .str b := h
    subst hv
    cases e <;> first | (simp [D.dep] at he; done) | (simp [IsW, Is] at h' <;> simp [h'])
  | .tup ds, e, v, h, h', hd, he => by
    simp only [D.dep] at hd
    simp only [IsW, Is] at h
    obtain ⟨a, vs, rfl, t, r⟩ := h
    cases e with
    | tup es =>
      simp only [IsW, Is] at h'
      obtain ⟨b, ws, e1, t', r'⟩ := h'
      cases e1
      have e2 := I.tuple_inj t t'
      subst e2
      simp only [D.dep] at he
      rw [Iss.inj I ds es vs r r' (by omega) (by omega)]
    | lst es =>
      obtain ⟨b, ws, e1, t', r'⟩ := h'
      cases e1
      obtain ⟨_, its, _, o2, e2, c2, _⟩ := sql I t'
      obtain ⟨its2, _, ⟨o, e3, c3, _⟩, _⟩ := I.tuple t
      rw [e2] at e3
      cases e3
      rw [c2] at c3
      exact absurd c3 (by simp)
    | ref _ => simp [D.dep] at he
    | _ => simp [IsW, Is] at h'
  | .lst ds, e, v, h, h', hd, he => by
    simp only [D.dep] at hd
    obtain ⟨a, vs, rfl, t, r⟩ := h
    cases e with
    | lst es =>
      obtain ⟨b, ws, e1, t', r'⟩ := h'
      cases e1
      have e2 := I.list_inj (t) (t')
      subst e2
      simp only [D.dep] at he
      rw [Iss.inj I ds es vs r r' (by omega) (by omega)]
    | tup es =>
      simp only [IsW, Is] at h'
      obtain ⟨b, ws, e1, t', r'⟩ := h'
      cases e1
      obtain ⟨_, its, _, o2, e2, c2, _⟩ := sql I t
      obtain ⟨its2, _, ⟨o, e3, c3, _⟩, _⟩ := I.tuple t'
      rw [e2] at e3
      cases e3
      rw [c2] at c3
      exact absurd c3 (by simp)
    | ref _ => simp [D.dep] at he
    | _ => simp [IsW, Is] at h'
theorem Iss.inj (I : Inv X pins σ H s) {A B : Pl} : ∀ (ds es : List D) (vs : List V), Iss X.K A H ds vs → Iss X.K B H es vs → D.deps ds ≤ 100 → D.deps es ≤ 100 → ds = es
  | [], es, vs, h, h', hd, he => by
    have hv : vs = [] := h
    subst hv
    cases es with
    | nil => rfl
    | cons => simp [Iss] at h'
  | d :: ds, es, vs, h, h', hd, he => by
    simp only [D.deps] at hd
    obtain ⟨v, r, rfl, p, q⟩ := h
    cases es with
    | nil => simp [Iss] at h'
    | cons e es =>
      obtain ⟨v', r', e1, p', q'⟩ := h'
      cases e1
      simp only [D.deps] at he
      rw [Is.inj I d e v p.w p'.w (by omega) (by omega), Iss.inj I ds es r q q' (by omega) (by omega)]
end
mutual
theorem D.eq_refl : ∀ d : D, D.eq d d = true
 | .non => rfl
 | .bl b => by simp [D.eq]
 | .int b => by simp [D.eq]
 | .str b => by simp [D.eq]
 | .tup ds => by simp only [D.eq]; exact D.eqs_refl ds
 | .lst ds => by simp only [D.eq]; exact D.eqs_refl ds
 | .ref n => by simp [D.eq]
theorem D.eqs_refl : ∀ d : List D, D.eqs d d = true
 | [] => rfl
 | d :: ds => by simp only [D.eqs, D.eq_refl d, D.eqs_refl ds, Bool.and_self]
end
theorem D.eqs_len : ∀ (ds es : List D), ds.length ≠ es.length → D.eqs ds es = false
  | [], [], h => absurd rfl h
  | [], _ :: _, _ => rfl
  | _ :: _, [], _ => rfl
  | d :: ds, e :: es, h => by
    simp only [D.eqs, D.eqs_len ds es (by simpa using h), Bool.and_false]
theorem D.eqs_all : ∀ (ds es : List D), ds.length = es.length → D.eqs ds es = (List.range ds.length).all fun j => D.eq (ds.getD j .non) (es.getD j .non)
  | [], [], _ => rfl
  | d :: ds, e :: es, h => by
    rw [D.eqs, D.eqs_all ds es (by simpa using h), List.length_cons, List.range_succ_eq_map, List.all_cons, List.all_map]
    rfl
mutual
theorem eqAt (I : Inv X pins σ H s) {A B : Pl} {Ar : Around} : ∀ (d e : D) (v w : V) (u u' : Value), IsW X.K A H d v → IsW X.K B H e w → RelV v u → RelV w u' → Ar.units + d.dep < cLine → d.dep ≤ 100 → e.dep ≤ 100 → SeqAt.EqAt Ar s u u' (D.eq d e)
  | .ref _, e, v, w, u, u', h1, h2, r1, r2, hu, hd, he => by simp [D.dep] at hd
  | .non, e, v, w, u, u', h1, h2, r1, r2, hu, hd, he => by
    have hv : v = .non := h1
    subst hv
    cases r1
    have hu' : Ar.units < cLine := by omega
    cases e with
    | ref _ => simp [D.dep] at he
    | non => have hw : w = .non := h2; subst hw; cases r2; exact SeqAt.EqAt.same _
    | bl b => have hw : w = .bl b := h2; subst hw; cases r2; exact SeqAt.EqAt.none_bool _
    | int b => have hw : w = .int b := h2; subst hw; obtain ⟨t, rfl⟩ := r2; exact SeqAt.EqAt.none_int _ _
    | str b => have hw : w = .str b := h2; subst hw; obtain ⟨t, rfl⟩ := r2; exact SeqAt.EqAt.none_str _ _
    | tup es => obtain ⟨a, vs, rfl, t, _⟩ := h2; cases r2; obtain ⟨its, _, p, _⟩ := I.tuple t; exact SeqAt.EqAt.none_tuple p hu'
    | lst es => obtain ⟨a, vs, rfl, t, _⟩ := h2; cases r2; obtain ⟨_, its, _, p⟩ := sql I t; exact SeqAt.EqAt.none_list p hu'
  | .bl x, e, v, w, u, u', h1, h2, r1, r2, hu, hd, he => by
    have hv : v = .bl x := h1
    subst hv
    cases r1
    have hu' : Ar.units < cLine := by omega
    cases e with
    | ref _ => simp [D.dep] at he
    | non => have hw : w = .non := h2; subst hw; cases r2; exact SeqAt.EqAt.bool_none _
    | bl b => have hw : w = .bl b := h2; subst hw; cases r2; exact SeqAt.EqAt.bool_bool _ _
    | int b => have hw : w = .int b := h2; subst hw; obtain ⟨t, rfl⟩ := r2; exact SeqAt.EqAt.bool_int _ _ _
    | str b => have hw : w = .str b := h2; subst hw; obtain ⟨t, rfl⟩ := r2; exact SeqAt.EqAt.bool_str _ _ _
    | tup es => obtain ⟨a, vs, rfl, t, _⟩ := h2; cases r2; obtain ⟨its, _, p, _⟩ := I.tuple t; exact SeqAt.EqAt.bool_tuple _ p hu'
    | lst es => obtain ⟨a, vs, rfl, t, _⟩ := h2; cases r2; obtain ⟨_, its, _, p⟩ := sql I t; exact SeqAt.EqAt.bool_list _ p hu'
  | .int x, e, v, w, u, u', h1, h2, r1, r2, hu, hd, he => by
    have hv : v = .int x := h1
    subst hv
    obtain ⟨t0, rfl⟩ := r1
    have hu' : Ar.units < cLine := by omega
    cases e with
    | ref _ => simp [D.dep] at he
    | non => have hw : w = .non := h2; subst hw; cases r2; exact SeqAt.EqAt.int_none _ _
    | bl b => have hw : w = .bl b := h2; subst hw; cases r2; exact SeqAt.EqAt.int_bool _ _ _
    | int b => have hw : w = .int b := h2; subst hw; obtain ⟨t, rfl⟩ := r2; exact SeqAt.EqAt.int_int _ _ _ _
    | str b => have hw : w = .str b := h2; subst hw; obtain ⟨t, rfl⟩ := r2; exact SeqAt.EqAt.int_str _ _ _ _
    | tup es => obtain ⟨a, vs, rfl, t, _⟩ := h2; cases r2; obtain ⟨its, _, p, _⟩ := I.tuple t; exact SeqAt.EqAt.int_tuple _ _ p hu'
    | lst es => obtain ⟨a, vs, rfl, t, _⟩ := h2; cases r2; obtain ⟨_, its, _, p⟩ := sql I t; exact SeqAt.EqAt.int_list _ _ p hu'
  | .str x, e, v, w, u, u', h1, h2, r1, r2, hu, hd, he => by
    have hv : v = .str x := h1
    subst hv
    obtain ⟨t0, rfl⟩ := r1
    have hu' : Ar.units < cLine := by omega
    cases e with
    | ref _ => simp [D.dep] at he
    | non => have hw : w = .non := h2; subst hw; cases r2; exact SeqAt.EqAt.str_none _ _
    | bl b => have hw : w = .bl b := h2; subst hw; cases r2; exact SeqAt.EqAt.str_bool _ _ _
    | int b => have hw : w = .int b := h2; subst hw; obtain ⟨t, rfl⟩ := r2; exact SeqAt.EqAt.str_int _ _ _ _
    | str b => have hw : w = .str b := h2; subst hw; obtain ⟨t, rfl⟩ := r2; exact SeqAt.EqAt.str_str _ _ _ _
    | tup es => obtain ⟨a, vs, rfl, t, _⟩ := h2; cases r2; obtain ⟨its, _, p, _⟩ := I.tuple t; exact SeqAt.EqAt.str_tuple _ _ p hu'
    | lst es => obtain ⟨a, vs, rfl, t, _⟩ := h2; cases r2; obtain ⟨_, its, _, p⟩ := sql I t; exact SeqAt.EqAt.str_list _ _ p hu'
  | .tup ds, e, v, w, u, u', h1, h2, r1, r2, hu, hd, he => by
    have h1' := h1
    have hd' := hd
    simp only [D.dep] at hu hd
    have hu' : Ar.units < cLine := by omega
    obtain ⟨a, vs, rfl, t, q⟩ := h1
    cases r1
    obtain ⟨its, rv, p, hz⟩ := I.tuple t
    cases e with
    | ref _ => simp [D.dep] at he
    | non => have hw : w = .non := h2; subst hw; cases r2; exact SeqAt.EqAt.tuple_none p hu'
    | bl b => have hw : w = .bl b := h2; subst hw; cases r2; exact SeqAt.EqAt.tuple_bool _ p hu'
    | int b => have hw : w = .int b := h2; subst hw; obtain ⟨t, rfl⟩ := r2; exact SeqAt.EqAt.tuple_int _ _ p hu'
    | str b => have hw : w = .str b := h2; subst hw; obtain ⟨t, rfl⟩ := r2; exact SeqAt.EqAt.tuple_str _ _ p hu'
    | tup es =>
      have h2' := h2
      have he' := he
      simp only [D.dep] at he
      obtain ⟨b, ws, rfl, t', q'⟩ := h2
      cases r2
      by_cases hab : a = b
      · subst hab
        rw [Is.inj I _ _ _ h1' h2' hd' he', D.eq_refl]
        exact SeqAt.EqAt.same _
      · obtain ⟨its', rv', p', hz'⟩ := I.tuple t'
        refine SeqAt.EqAt.of_refs hab ?_
        have l1 : its.toArray.size = ds.length := by rw [List.size_toArray, ← rv.length, q.len]
        have l2 : its'.toArray.size = es.length := by rw [List.size_toArray, ← rv'.length, q'.len]
        have key := SeqAt.RcAt.tuples (A := Ar) (s := s) (e := fun j => D.eq (ds.getD j .non) (es.getD j .non)) p p' hu' fun j j1 j2 => by
          simpa using eqAts I ds es vs ws its its' q q' rv rv' (Ar := Ar.in1) (by show Ar.units + 1 + _ < _; omega) (by omega) (by omega) j (by simpa using j1) (by simpa using j2)
        rw [l1, l2] at key
        by_cases hl : ds.length = es.length
        · rw [show D.eq (.tup ds) (.tup es) = D.eqs ds es from rfl, D.eqs_all ds es hl]
          rw [hl, Nat.min_self, beq_self_eq_true, Bool.and_true] at key
          rw [hl]
          exact key
        · rw [show D.eq (.tup ds) (.tup es) = D.eqs ds es from rfl, D.eqs_len ds es hl]
          rw [beq_eq_false_iff_ne.mpr hl, Bool.and_false] at key
          exact key
    | lst es => obtain ⟨b, ws, rfl, t', _⟩ := h2; cases r2; obtain ⟨_, its', _, p'⟩ := sql I t'; exact SeqAt.EqAt.tuple_list p p' hu'
  | .lst ds, e, v, w, u, u', h1, h2, r1, r2, hu, hd, he => by
    have h1' := h1
    have hd' := hd
    simp only [D.dep] at hu hd
    have hu' : Ar.units < cLine := by omega
    obtain ⟨a, vs, rfl, t, q⟩ := h1
    cases r1
    obtain ⟨hz, its, rv, p⟩ := sql I t
    cases e with
    | ref _ => simp [D.dep] at he
    | non => have hw : w = .non := h2; subst hw; cases r2; exact SeqAt.EqAt.list_none p hu'
    | bl b => have hw : w = .bl b := h2; subst hw; cases r2; exact SeqAt.EqAt.list_bool _ p hu'
    | int b => have hw : w = .int b := h2; subst hw; obtain ⟨t, rfl⟩ := r2; exact SeqAt.EqAt.list_int _ _ p hu'
    | str b => have hw : w = .str b := h2; subst hw; obtain ⟨t, rfl⟩ := r2; exact SeqAt.EqAt.list_str _ _ p hu'
    | tup es => obtain ⟨b, ws, rfl, t', _⟩ := h2; cases r2; obtain ⟨its', _, p', _⟩ := I.tuple t'; exact SeqAt.EqAt.list_tuple p p' hu'
    | lst es =>
      have h2' := h2
      have he' := he
      simp only [D.dep] at he
      obtain ⟨b, ws, rfl, t', q'⟩ := h2
      cases r2
      by_cases hab : a = b
      · subst hab
        rw [Is.inj I _ _ _ h1' h2' hd' he', D.eq_refl]
        exact SeqAt.EqAt.same _
      · obtain ⟨hz', its', rv', p'⟩ := sql I t'
        refine SeqAt.EqAt.of_refs hab ?_
        have l1 : its.toArray.size = ds.length := by rw [List.size_toArray, ← rv.length, q.len]
        have l2 : its'.toArray.size = es.length := by rw [List.size_toArray, ← rv'.length, q'.len]
        by_cases hl : ds.length = es.length
        · have key := SeqAt.RcAt.lists (A := Ar) (s := s) (e := fun j => D.eq (ds.getD j .non) (es.getD j .non)) p p' (by rw [l1, l2, hl]) hu' fun j j1 j2 => by
            simpa using eqAts I ds es vs ws its its' q q' rv rv' (Ar := Ar.in1) (by show Ar.units + 1 + _ < _; omega) (by omega) (by omega) j (by simpa using j1) (by simpa using j2)
          rw [show D.eq (.lst ds) (.lst es) = D.eqs ds es from rfl, D.eqs_all ds es hl]
          rw [l1] at key
          exact key
        · rw [show D.eq (.lst ds) (.lst es) = D.eqs ds es from rfl, D.eqs_len ds es hl]
          exact SeqAt.RcAt.lists_lengths p p' (by rw [l1, l2]; simpa using hl) hu'
theorem eqAts (I : Inv X pins σ H s) {A B : Pl} {Ar : Around} : ∀ (ds es : List D) (vs ws : List V) (its its' : List Value), Iss X.K A H ds vs → Iss X.K B H es ws → Vals vs its → Vals ws its' → Ar.units + D.deps ds < cLine → D.deps ds ≤ 100 → D.deps es ≤ 100 →
    ∀ (j : Nat) (h1 : j < its.length) (h2 : j < its'.length), SeqAt.EqAt Ar s its[j] its'[j] (D.eq (ds.getD j .non) (es.getD j .non))
  | [], es, vs, ws, its, its', h, h', r, r', hu, hd, he, j, j1, j2 => by
    have hv : vs = [] := h
    subst hv
    cases r
    exact absurd j1 (Nat.not_lt_zero _)
  | d :: ds, [], vs, ws, its, its', h, h', r, r', hu, hd, he, j, j1, j2 => by
    have hv : ws = [] := h'
    subst hv
    cases r'
    exact absurd j2 (Nat.not_lt_zero _)
  | d :: ds, e :: es, vs, ws, its, its', h, h', r, r', hu, hd, he, j, j1, j2 => by
    obtain ⟨v, vr, rfl, p, q⟩ := h
    obtain ⟨w, wr, rfl, p', q'⟩ := h'
    simp only [D.deps] at hu hd he
    cases r with
    | cons r1 r2 =>
      cases r' with
      | cons r1' r2' =>
        cases j with
        | zero => exact eqAt I d e v w _ _ p.w p'.w r1 r1' (by omega) (by omega) (by omega)
        | succ j => exact eqAts I ds es vr wr _ _ q q' r2 r2' (by omega) (by omega) (by omega) j (by simpa using j1) (by simpa using j2)
end
theorem scal_flat {d e : D} {A B : Pl} {K : PySem.W.Frag} {v w : V} (fd : d.flat = true) (fe : e.flat = true) (h1 : IsW K A H d v) (h2 : IsW K B H e w) :
  (scal v w = true ∧ D.eq d e = decide (v = w)) ∨ (∃ a i, v = .bl a ∧ w = .int i ∧ D.eq d e = ((if a then 1 else 0) == i)) ∨ ∃ a i, v = .int i ∧ w = .bl a ∧ D.eq d e = (i == (if a then 1 else 0)) := by
 cases d <;> cases e <;> simp only [D.flat, Bool.false_eq_true] at fd fe <;> simp only [IsW, Is] at h1 h2 <;> subst h1 h2 <;> simp [scal, D.eq]
 all_goals first | rfl | (rw [Bool.eq_iff_iff]; simp)
def rEqD (K : PySem.W.Frag) (neg : Bool) : R2 := fun x y H Q => ∃ (A B : Pl) (d e : D), IsW K A H d x ∧ IsW K B H e y ∧ eqOk d e = true ∧ d.dep ≤ 50 ∧ Q (.bl (if neg then !D.eq d e else D.eq d e)) H
theorem op_eqD (hu : X.A.units + 60 < cLine) : OpR X (compareOp .Eq) (rEqD X.K false) := by
  intro pins s σ H x y v u Q I rx ry h
  obtain ⟨A, B, d, e, h1, h2, hk, hd, q⟩ := h
  have q : Q (.bl (D.eq d e)) H := q
  have fin : SeqAt.RcAt X.A s v u (D.eq d e) → wpAny (model X.prog X.w) X.A (compareOp .Eq v u) (EP X pins σ Q) X.xe s := fun r => EqBoolInt.of_rc r ⟨.bl _, H, I, rfl, q⟩
  have hu' : X.A.units < cLine := by omega
  cases fd : d.flat with
  | true =>
    simp only [eqOk, Bool.and_eq_true, decide_eq_true_eq, beq_iff_eq] at hk
    have fe : e.flat = true := hk.1.symm.trans fd
    rcases scal_flat fd fe h1 h2 with ⟨sc, eq⟩ | ⟨a, i, rfl, rfl, eq⟩ | ⟨a, i, rfl, rfl, eq⟩
    · exact op_eq pins s σ H x y v u Q I rx ry ⟨sc, by rw [← eq]; exact q⟩
    · cases rx
      obtain ⟨t, rfl⟩ := ry
      exact EqBoolInt.eq_bool_int ⟨.bl _, H, I, rfl, by rw [← eq]; exact q⟩
    · cases ry
      obtain ⟨t, rfl⟩ := rx
      exact EqBoolInt.eq_int_bool ⟨.bl _, H, I, rfl, by rw [← eq]; exact q⟩
  | false =>
    simp only [eqOk, Bool.and_eq_true, decide_eq_true_eq, beq_iff_eq] at hk
    have he := hk.2
    have fe : e.flat = false := hk.1.symm.trans fd
    cases d with
    | tup ds =>
      obtain ⟨a, vs, rfl, t, p⟩ := h1
      cases rx
      obtain ⟨its, rv, pt, hz⟩ := I.tuple t
      simp only [D.dep] at hd
      cases e with
      | tup es =>
        obtain ⟨b, ws, rfl, t', p'⟩ := h2
        cases ry
        obtain ⟨its', rv', pt', hz'⟩ := I.tuple t'
        have l1 : its.toArray.size = ds.length := by rw [List.size_toArray, ← rv.length, p.len]
        have l2 : its'.toArray.size = es.length := by rw [List.size_toArray, ← rv'.length, p'.len]
        have key := SeqAt.RcAt.tuples (A := X.A) (s := s) (e := fun j => D.eq (ds.getD j .non) (es.getD j .non)) pt pt' hu' fun j j1 j2 => by
          simpa using eqAts I ds es vs ws its its' p p' rv rv' (Ar := X.A.in1) (by show X.A.units + 1 + _ < _; omega) (by omega) (by simp only [D.dep] at he; omega) j (by simpa using j1) (by simpa using j2)
        rw [l1, l2] at key
        refine fin ?_
        by_cases hl : ds.length = es.length
        · rw [show D.eq (.tup ds) (.tup es) = D.eqs ds es from rfl, D.eqs_all ds es hl]
          rw [hl, Nat.min_self, beq_self_eq_true, Bool.and_true] at key
          rw [hl]
          exact key
        · rw [show D.eq (.tup ds) (.tup es) = D.eqs ds es from rfl, D.eqs_len ds es hl]
          rw [beq_eq_false_iff_ne.mpr hl, Bool.and_false] at key
          exact key
      | lst es =>
        obtain ⟨b, ws, rfl, t', p'⟩ := h2
        cases ry
        obtain ⟨_, its', rv', e'⟩ := sql I t'
        exact fin (SeqAt.RcAt.tuple_list pt e' hu')
      | ref _ => simp [D.dep] at he
      | _ => cases fe
    | lst ds =>
      obtain ⟨a, vs, rfl, t, p⟩ := h1
      cases rx
      obtain ⟨hz, its, rv, pt⟩ := sql I t
      simp only [D.dep] at hd
      cases e with
      | tup es =>
        obtain ⟨b, ws, rfl, t', p'⟩ := h2
        cases ry
        obtain ⟨its', rv', pt', hz'⟩ := I.tuple t'
        exact fin (SeqAt.RcAt.list_tuple pt pt' hu')
      | lst es =>
        obtain ⟨b, ws, rfl, t', p'⟩ := h2
        cases ry
        obtain ⟨_, its', rv', pt'⟩ := sql I t'
        have l1 : its.toArray.size = ds.length := by rw [List.size_toArray, ← rv.length, p.len]
        have l2 : its'.toArray.size = es.length := by rw [List.size_toArray, ← rv'.length, p'.len]
        refine fin ?_
        by_cases hl : ds.length = es.length
        · have key := SeqAt.RcAt.lists (A := X.A) (s := s) (e := fun j => D.eq (ds.getD j .non) (es.getD j .non)) pt pt' (by rw [l1, l2, hl]) hu' fun j j1 j2 => by
            simpa using eqAts I ds es vs ws its its' p p' rv rv' (Ar := X.A.in1) (by show X.A.units + 1 + _ < _; omega) (by omega) (by simp only [D.dep] at he; omega) j (by simpa using j1) (by simpa using j2)
          rw [show D.eq (.lst ds) (.lst es) = D.eqs ds es from rfl, D.eqs_all ds es hl]
          rw [l1] at key
          exact key
        · rw [show D.eq (.lst ds) (.lst es) = D.eqs ds es from rfl, D.eqs_len ds es hl]
          exact SeqAt.RcAt.lists_lengths pt pt' (by rw [l1, l2]; simpa using hl) hu'
      | ref _ => simp [D.dep] at he
      | _ => cases fe
    | ref _ => simp [D.dep] at hd
    | _ => cases fd
theorem op_neD (hu : X.A.units + 60 < cLine) : OpR X (compareOp .NotEq) (rEqD X.K true) := by
  intro pins s σ H x y v u Q I rx ry h
  obtain ⟨A, B, d, e, h1, h2, hk, hd, q⟩ := h
  have q : Q (.bl (!D.eq d e)) H := q
  have fin : SeqAt.RcNeAt X.A s v u (!D.eq d e) → wpAny (model X.prog X.w) X.A (compareOp .NotEq v u) (EP X pins σ Q) X.xe s := fun r => EqBoolInt.of_rcne r ⟨.bl _, H, I, rfl, q⟩
  have hu' : X.A.units < cLine := by omega
  cases fd : d.flat with
  | true =>
    simp only [eqOk, Bool.and_eq_true, decide_eq_true_eq, beq_iff_eq] at hk
    have fe : e.flat = true := hk.1.symm.trans fd
    rcases scal_flat fd fe h1 h2 with ⟨sc, eq⟩ | ⟨a, i, rfl, rfl, eq⟩ | ⟨a, i, rfl, rfl, eq⟩
    · exact op_ne pins s σ H x y v u Q I rx ry ⟨sc, by rw [← eq]; exact q⟩
    · cases rx
      obtain ⟨t, rfl⟩ := ry
      exact EqBoolInt.ne_bool_int ⟨.bl _, H, I, rfl, by rw [← eq]; exact q⟩
    · cases ry
      obtain ⟨t, rfl⟩ := rx
      exact EqBoolInt.ne_int_bool ⟨.bl _, H, I, rfl, by rw [← eq]; exact q⟩
  | false =>
    simp only [eqOk, Bool.and_eq_true, decide_eq_true_eq, beq_iff_eq] at hk
    have he := hk.2
    have fe : e.flat = false := hk.1.symm.trans fd
    cases d with
    | tup ds =>
      obtain ⟨a, vs, rfl, t, p⟩ := h1
      cases rx
      obtain ⟨its, rv, pt, hz⟩ := I.tuple t
      simp only [D.dep] at hd
      cases e with
      | tup es =>
        obtain ⟨b, ws, rfl, t', p'⟩ := h2
        cases ry
        obtain ⟨its', rv', pt', hz'⟩ := I.tuple t'
        have l1 : its.toArray.size = ds.length := by rw [List.size_toArray, ← rv.length, p.len]
        have l2 : its'.toArray.size = es.length := by rw [List.size_toArray, ← rv'.length, p'.len]
        have key := SeqAt.RcNeAt.tuples (A := X.A) (s := s) (e := fun j => D.eq (ds.getD j .non) (es.getD j .non)) pt pt' hu' fun j j1 j2 => by
          simpa using eqAts I ds es vs ws its its' p p' rv rv' (Ar := X.A.in1) (by show X.A.units + 1 + _ < _; omega) (by omega) (by simp only [D.dep] at he; omega) j (by simpa using j1) (by simpa using j2)
        rw [l1, l2] at key
        refine fin ?_
        by_cases hl : ds.length = es.length
        · rw [show D.eq (.tup ds) (.tup es) = D.eqs ds es from rfl, D.eqs_all ds es hl]
          rw [hl, Nat.min_self, beq_self_eq_true, Bool.and_true] at key
          rw [hl]
          exact key
        · rw [show D.eq (.tup ds) (.tup es) = D.eqs ds es from rfl, D.eqs_len ds es hl]
          rw [beq_eq_false_iff_ne.mpr hl, Bool.and_false] at key
          exact key
      | lst es =>
        obtain ⟨b, ws, rfl, t', p'⟩ := h2
        cases ry
        obtain ⟨_, its', rv', e'⟩ := sql I t'
        exact fin (SeqAt.RcNeAt.tuple_list pt e' hu')
      | ref _ => simp [D.dep] at he
      | _ => cases fe
    | lst ds =>
      obtain ⟨a, vs, rfl, t, p⟩ := h1
      cases rx
      obtain ⟨hz, its, rv, pt⟩ := sql I t
      simp only [D.dep] at hd
      cases e with
      | tup es =>
        obtain ⟨b, ws, rfl, t', p'⟩ := h2
        cases ry
        obtain ⟨its', rv', pt', hz'⟩ := I.tuple t'
        exact fin (SeqAt.RcNeAt.list_tuple pt pt' hu')
      | lst es =>
        obtain ⟨b, ws, rfl, t', p'⟩ := h2
        cases ry
        obtain ⟨_, its', rv', pt'⟩ := sql I t'
        have l1 : its.toArray.size = ds.length := by rw [List.size_toArray, ← rv.length, p.len]
        have l2 : its'.toArray.size = es.length := by rw [List.size_toArray, ← rv'.length, p'.len]
        refine fin ?_
        by_cases hl : ds.length = es.length
        · have key := SeqAt.RcNeAt.lists (A := X.A) (s := s) (e := fun j => D.eq (ds.getD j .non) (es.getD j .non)) pt pt' (by rw [l1, l2, hl]) hu' fun j j1 j2 => by
            simpa using eqAts I ds es vs ws its its' p p' rv rv' (Ar := X.A.in1) (by show X.A.units + 1 + _ < _; omega) (by omega) (by simp only [D.dep] at he; omega) j (by simpa using j1) (by simpa using j2)
          rw [show D.eq (.lst ds) (.lst es) = D.eqs ds es from rfl, D.eqs_all ds es hl]
          rw [l1] at key
          exact key
        · rw [show D.eq (.lst ds) (.lst es) = D.eqs ds es from rfl, D.eqs_len ds es hl]
          exact SeqAt.RcNeAt.lists_lengths pt pt' (by rw [l1, l2]; simpa using hl) hu'
      | ref _ => simp [D.dep] at he
      | _ => cases fe
    | ref _ => simp [D.dep] at hd
    | _ => cases fd
def cpP : Cp → CmpOp
 | .eq => .Eq
 | .ne => .NotEq
 | .lt => .Lt
 | .le => .LtE
 | .gt => .Gt
 | .ge => .GtE
 | .isin => .In
 | .notin => .NotIn
 | .same => .Is
 | .other => .IsNot
def rCp (K : PySem.W.Frag) : Cp → R2
 | .eq => rEqD K false
 | .ne => rEqD K true
 | .lt => rI0 fun i j => .bl (decide (i < j))
 | .le => rI0 fun i j => .bl (decide (i ≤ j))
 | .gt => rI0 fun i j => .bl (decide (j < i))
 | .ge => rI0 fun i j => .bl (decide (j ≤ i))
 | .isin => fun x y H Q => (∃ i j, x = .str i ∧ y = .str j ∧ Q (.bl (!(Builtin.Str.occurrences j i 0 j.length 1).isEmpty)) H) ∨ rIn K false x y H Q
 | .notin => fun x y H Q => (∃ i j, x = .str i ∧ y = .str j ∧ Q (.bl (!(!(Builtin.Str.occurrences j i 0 j.length 1).isEmpty))) H) ∨ rIn K true x y H Q
 | .same => fun x y H Q => (y = .non ∧ Q (.bl (decide (x = .non))) H) ∨ (∃ b, y = .bl b ∧ Q (.bl (decide (x = .bl b))) H)
 | .other => fun x y H Q => (y = .non ∧ Q (.bl (!decide (x = .non))) H) ∨ (∃ b, y = .bl b ∧ Q (.bl (!decide (x = .bl b))) H)
theorem cp_ok (hu : X.A.units + 60 < cLine) : ∀ c : Cp, OpR X (compareOp (cpP c)) (rCp X.K c)
 | .eq => op_eqD hu
 | .ne => op_neD hu
 | .lt => op_lt
 | .le => op_le
 | .gt => op_gt
 | .ge => op_ge
 | .isin => op_in_str.or op_in_seq
 | .notin => op_notin_str.or op_notIn_seq
 | .same => op_isN.or op_isB
 | .other => op_notN.or op_isnotB
theorem flat_V {K : PySem.W.Frag} {A : Pl} {d : D} {v : V} (f : d.flat = true) (h : Is K A H d v) : flatV v = true := by
 cases d <;> simp only [D.flat, Bool.false_eq_true] at f <;> simp only [Is] at h <;> subst h <;> rfl
theorem eq_V {K : PySem.W.Frag} {A B : Pl} {d e : D} {v w : V} (f : d.flat = true) (g : e.flat = true) (h : Is K A H d v) (h' : Is K B H e w) : eqV v w = D.eq d e := by
 cases d <;> cases e <;> simp only [D.flat, Bool.false_eq_true] at f g <;> simp only [Is] at h h' <;> subst h h' <;> rfl
theorem flats_V {K : PySem.W.Frag} {A : Pl} : ∀ {ds : List D} {vs : List V}, ds.all D.flat = true → Iss K A H ds vs → vs.all flatV = true
  | [], _, _, h => by rw [show _ = [] from h]; rfl
  | d :: ds, _, f, h => by
    obtain ⟨v, r, rfl, p, q⟩ := h
    rw [List.all_cons, Bool.and_eq_true] at f
    rw [List.all_cons, flat_V f.1 p, flats_V f.2 q]
    rfl
theorem in_V {K : PySem.W.Frag} {A B : Pl} {e : D} {w : V} (g : e.flat = true) (h' : Is K B H e w) : ∀ {ds : List D} {vs : List V}, ds.all D.flat = true → Iss K A H ds vs → inV w vs = ds.any fun y => D.eq y e
  | [], _, _, h => by rw [show _ = [] from h]; rfl
  | d :: ds, _, f, h => by
    obtain ⟨v, r, rfl, p, q⟩ := h
    rw [List.all_cons, Bool.and_eq_true] at f
    have := in_V g h' f.2 q
    unfold inV at this ⊢
    rw [List.any_cons, List.any_cons, this, eq_V f.1 g p h']
theorem cmp_ok {K : PySem.W.Frag} {A B : Pl} {c : Cp} {d e : D} {v w : V} {b : Bool} {Q : VK} (h : cmpD c d e = some b) (h1 : IsW K A H d v) (h2 : IsW K B H e w) (q : Q (.bl b) H) : rCp K c v w H Q := by
  cases c
  case eq =>
    simp only [cmpD, cEq, cNe] at h
    split at h
    · rename_i hc; cases h; exact ⟨A, B, d, e, h1, h2, hc.1, hc.2, q⟩
    · cases h
  case ne =>
    simp only [cmpD, cEq, cNe] at h
    split at h
    · rename_i hc; cases h; exact ⟨A, B, d, e, h1, h2, hc.1, hc.2, q⟩
    · cases h
  case isin =>
    cases e with
    | str j =>
      cases d <;> simp only [cmpD, cOrd, cIn, cNin, cSame, cOther, reduceCtorEq] at h
      simp only [IsW, Is] at h1 h2
      subst h1 h2
      cases h
      exact .inl ⟨_, _, rfl, rfl, q⟩
    | lst xs =>
      have h' : (if (d.flat && xs.all D.flat) = true then some (xs.any fun y => D.eq y d) else none) = some b := by cases d <;> exact h
      split at h'
      · rename_i hc
        rw [Bool.and_eq_true] at hc
        cases h'
        obtain ⟨a, vs, rfl, t, p⟩ := h2
        have h1' : Is K A H d v := by cases d <;> first | exact h1 | cases hc.1
        refine .inr ⟨a, vs, rfl, .inl (t), flat_V hc.1 h1', flats_V hc.2 p, ?_⟩
        rw [in_V hc.1 h1' hc.2 p]
        exact q
      · cases h'
    | tup xs =>
      have h' : (if (d.flat && xs.all D.flat) = true then some (xs.any fun y => D.eq y d) else none) = some b := by cases d <;> exact h
      split at h'
      · rename_i hc
        rw [Bool.and_eq_true] at hc
        cases h'
        obtain ⟨a, vs, rfl, t, p⟩ := h2
        have h1' : Is K A H d v := by cases d <;> first | exact h1 | cases hc.1
        refine .inr ⟨a, vs, rfl, .inr t, flat_V hc.1 h1', flats_V hc.2 p, ?_⟩
        rw [in_V hc.1 h1' hc.2 p]
        exact q
      · cases h'
    | _ => cases d <;> simp only [cmpD, cOrd, cIn, cNin, cSame, cOther, reduceCtorEq] at h
  case notin =>
    cases e with
    | str j =>
      cases d <;> simp only [cmpD, cOrd, cIn, cNin, cSame, cOther, reduceCtorEq] at h
      simp only [IsW, Is] at h1 h2
      subst h1 h2
      cases h
      exact .inl ⟨_, _, rfl, rfl, q⟩
    | lst xs =>
      have h' : (if (d.flat && xs.all D.flat) = true then some (!xs.any fun y => D.eq y d) else none) = some b := by cases d <;> exact h
      split at h'
      · rename_i hc
        rw [Bool.and_eq_true] at hc
        cases h'
        obtain ⟨a, vs, rfl, t, p⟩ := h2
        have h1' : Is K A H d v := by cases d <;> first | exact h1 | cases hc.1
        refine .inr ⟨a, vs, rfl, .inl (t), flat_V hc.1 h1', flats_V hc.2 p, ?_⟩
        rw [in_V hc.1 h1' hc.2 p]
        exact q
      · cases h'
    | tup xs =>
      have h' : (if (d.flat && xs.all D.flat) = true then some (!xs.any fun y => D.eq y d) else none) = some b := by cases d <;> exact h
      split at h'
      · rename_i hc
        rw [Bool.and_eq_true] at hc
        cases h'
        obtain ⟨a, vs, rfl, t, p⟩ := h2
        have h1' : Is K A H d v := by cases d <;> first | exact h1 | cases hc.1
        refine .inr ⟨a, vs, rfl, .inr t, flat_V hc.1 h1', flats_V hc.2 p, ?_⟩
        rw [in_V hc.1 h1' hc.2 p]
        exact q
      · cases h'
    | _ => cases d <;> simp only [cmpD, cOrd, cIn, cNin, cSame, cOther, reduceCtorEq] at h
  case same =>
    cases d <;> cases e <;> simp only [cmpD, cOrd, cIn, cNin, cSame, cOther, reduceCtorEq] at h <;> cases h <;> simp only [IsW, Is] at h1 h2
    all_goals first
      | (subst h1 h2; first | exact .inr ⟨_, rfl, by rw [dec_bl]; exact q⟩ | exact .inl ⟨rfl, by simpa using q⟩ | exact .inr ⟨_, rfl, by simpa using q⟩)
      | (obtain ⟨a, vs, rfl, _⟩ := h1; subst h2; first | exact .inl ⟨rfl, by simpa using q⟩ | exact .inr ⟨_, rfl, by simpa using q⟩)
  case other =>
    cases d <;> cases e <;> simp only [cmpD, cOrd, cIn, cNin, cSame, cOther, reduceCtorEq] at h <;> cases h <;> simp only [IsW, Is] at h1 h2
    all_goals first
      | (subst h1 h2; first | exact .inr ⟨_, rfl, by rw [dec_bl]; exact q⟩ | exact .inl ⟨rfl, by simpa using q⟩ | exact .inr ⟨_, rfl, by simpa using q⟩)
      | (obtain ⟨a, vs, rfl, _⟩ := h1; subst h2; first | exact .inl ⟨rfl, by simpa using q⟩ | exact .inr ⟨_, rfl, by simpa using q⟩)
  all_goals
    cases d <;> cases e <;> simp only [cmpD, cOrd, cIn, cNin, cSame, cOther, reduceCtorEq] at h
    simp only [IsW, Is] at h1 h2
    subst h1 h2
    cases h
    exact ⟨_, _, rfl, rfl, q⟩
end
end E3
namespace E3
open PySem PySem.Spec PyProof.Rows L2
inductive Mode where
 | val | bor
def XOk (mg : Str → Option Value) (H : Hp) (c : Str) (n : Int) (v : V) : Prop := ∃ a C dx, v = .ref a ∧ mg c = some (.ref C) ∧ H a = some (xo a C dx false) ∧
 match dx with
 | none => n = 0
 | some d => ∃ fs, H d = some (.xd fs) ∧ fs.lookup ("at" : Str) = some (.int n)
theorem XOk.lt {mg : Str → Option Value} {P P' : Pl} {H H' : Hp} {c : Str} {n : Int} {v : V} (l : Lt P H P' H') (h : XOk mg H c n v) : XOk mg H' c n v := by
  obtain ⟨a, C, dx, e, m, ea, q⟩ := h
  refine ⟨a, C, dx, e, m, l.keep _ _ ea (.inl (.inr (.inr (.inl ⟨_, rfl⟩)))), ?_⟩
  cases dx with
  | none => exact q
  | some d =>
    obtain ⟨fs, ed, el⟩ := q
    exact ⟨fs, l.keep _ _ ed (.inl (.inr (.inr (.inr ⟨_, rfl⟩)))), el⟩
def SlotOk (K : PySem.W.Frag) (mg : Str → Option Value) (P : Pl) (H : Hp) (o : Option Addr) (sv : Option V) : Slot → Prop
 | .un => True
 | .val d => ∃ v, sv = some v ∧ Is K P H d v
 | .own ds => ∃ a vs, o = some a ∧ sv = some (.ref a) ∧ H a = some (.lst vs) ∧ Iss K P H ds vs
 | .exc c n => ∃ v, sv = some v ∧ XOk mg H c n v
structure Ok (K : PySem.W.Frag) (mg : Str → Option Value) (P0 : Pl) (H0 : Hp) (P : Pl) (O : List (Option Addr)) (H : Hp) (M : Mm) (st : L2.St) (env : Env) : Prop where
 hk : Hk K mg P H M
 base : LtE P0 H0 P H
 b0 : ∀ a, P0.bd a → H0 a ≠ none
 slot : ∀ (i : Nat) s, env[i]? = some s → SlotOk K mg P H (O[i]?).join (st[i]?).join s
 own : ∀ a, some a ∈ O → P.bd a ∧ (∀ k, k < P.n → P.io k ≠ a) ∧ H0 a = none
 inj : ∀ (i j : Nat) a, O[i]? = some (some a) → O[j]? = some (some a) → i = j
 olen : O.length = env.length
 slen : st.length = env.length
def IsM (K : PySem.W.Frag) (P : Pl) (H : Hp) (m : Mode) (d : D) (v : V) : Prop := match m with
 | .val => Is K P H d v
 | .bor => IsB K P H d v
inductive Res where
 | v (d : D) | x (c : Str) (n : Int)
abbrev O := Option (Res × Mm)
abbrev E := Env → Mm → O
def bnd (o : O) (k : D → Mm → O) : O := match o with
 | some (.v d, M) => k d M
 | some (.x c n, M) => some (.x c n, M)
 | none => none
theorem bnd_inv {o : O} {k : D → Mm → O} {r : Res} {M' : Mm} (h : bnd o k = some (r, M')) : (∃ d M, o = some (.v d, M) ∧ k d M = some (r, M')) ∨ ∃ c n, o = some (.x c n, M') ∧ r = .x c n := by
 unfold bnd at h
 split at h
 ·exact .inl ⟨_, _, rfl, h⟩
 ·cases h; exact .inr ⟨_, _, rfl, rfl⟩
 ·cases h
abbrev XW := Pl → Hp → Mm → Str → Int → Prop
section
variable {K : PySem.W.Frag} {mg : Str → Option Value} {P0 P P' : Pl} {H0 H H' : Hp} {M M' : Mm} {Os : List (Option Addr)} {st : L2.St} {env : Env} {d : D} {v : V} {m : Mode}
theorem Is.b (h : Hk K mg P H M) (i : Is K P H d v) : IsB K P H d v := by
  cases d with
  | lst ds =>
    obtain ⟨a, vs, e, r, q⟩ := i
    exact ⟨a, vs, e, r.imp (fun ⟨n, r⟩ => ⟨fun k hk z => n (z ▸ h.bd k hk), r⟩) id, q⟩
  | _ => exact i
theorem IsM.of (h : Hk K mg P H M) (i : Is K P H d v) : IsM K P H m d v := by
 cases m with
 | val => exact i
 | bor => exact i.b h
theorem IsM.b (h : Hk K mg P H M) (i : IsM K P H m d v) : IsB K P H d v := by
 cases m with
 | val => exact Is.b h i
 | bor => exact i
theorem LtE.nc (l : LtE P H P' H') {a : Addr} {o : HO} (e : H a = some o) (n : ∀ k, k < P.n → P.io k ≠ a) : ∀ k, k < P'.n → P'.io k ≠ a := fun k hk z => by
 rcases Nat.lt_or_ge k P.n with q | q
 ·rw [l.io k q] at z
  exact n k q z
 ·rw [← z, l.nw k q hk] at e
  cases e
theorem IsB.lt (l : LtE P H P' H') (h : Hk K mg P H M) (i : IsB K P H d v) : IsB K P' H' d v := by
  cases d with
  | lst ds =>
    obtain ⟨a, vs, e, r, q⟩ := i
    refine ⟨a, vs, e, r.imp (fun ⟨n, r⟩ => ?_) id, Iss.lt (l.lt h) q⟩
    obtain ⟨o, eo⟩ := rd_some r
    refine ⟨l.nc eo n, ?_⟩
    rcases r with r | ⟨o', r⟩
    · exact .inl (l.keep _ _ r n)
    · exact .inr ⟨o', l.keep _ _ r n⟩
  | _ => exact Is.lt (l.lt h) i
theorem Ok.next (k : Ok K mg P0 H0 P Os H M st env) (l : LtE P H P' H') (h : Hk K mg P' H' M') : Ok K mg P0 H0 P' Os H' M' st env where
  hk := h
  base := k.base.trans l
  b0 := k.b0
  slot := fun i s e => by
    have q := k.slot i s e
    cases s with
    | un => exact True.intro
    | val d =>
      obtain ⟨v, e1, q⟩ := q
      exact ⟨v, e1, Is.lt (l.lt k.hk) q⟩
    | own ds =>
      obtain ⟨a, vs, e1, e2, e3, q⟩ := q
      have ho := k.own a (by
        cases hx : Os[i]? with
        | none => rw [hx] at e1; cases e1
        | some o => rw [hx] at e1; cases o with
          | none => cases e1
          | some b => cases e1; exact List.mem_of_getElem? hx)
      exact ⟨a, vs, e1, e2, l.keep _ _ e3 ho.2.1, Iss.lt (l.lt k.hk) q⟩
    | exc c n =>
      obtain ⟨v, e1, q⟩ := q
      exact ⟨v, e1, q.lt (l.lt k.hk)⟩
  own := fun a z => by
    have ho := k.own a z
    refine ⟨l.bm a ho.1, ?_, ho.2.2⟩
    obtain ⟨o, eo⟩ : ∃ o, H a = some o := by
      cases e : H a with
      | none => exact absurd e (k.hk.here a ho.1)
      | some o => exact ⟨o, rfl⟩
    exact l.nc eo ho.2.1
  inj := k.inj
  olen := k.olen
  slen := k.slen
theorem Hk.same (h : Hk K mg P H M) (s : Same H H') : Hk K mg P H' M := by
  have l : Lt P H P H' := (LtE.same s).lt h
  refine ⟨h.n, fun k c e => ?_, h.inj, h.bd, fun a z q => h.here a z (s.free q)⟩
  have := h.cell k c e
  cases c with
  | lst ds =>
    obtain ⟨vs, e1, q⟩ := this
    exact ⟨vs, s _ _ e1, Iss.lt l q⟩
  | obj c fs =>
    obtain ⟨C, dx, gs, e1, e2, e3, q⟩ := this
    exact ⟨C, dx, gs, e1, s _ _ e2, e3, Iss.lt l q⟩
  | dct kvs =>
    obtain ⟨vs, e1, e2, q⟩ := this
    exact ⟨vs, s _ _ e1, e2, Iss.lt l q⟩
end
def RQ (K : PySem.W.Frag) (mg : Str → Option Value) (Wx : XW) (m : Mode) (P0 : Pl) (H0 : Hp) (P : Pl) (H : Hp) (M' : Mm) (Q : VK) : Res → Prop
 | .v d => ∀ P' v H', LtE P H P' H' → Hk K mg P' H' M' → IsM K P' H' m d v → Q v H'
 | .x c n => Wx P0 H0 M' c n
theorem pe_imp {X : Cx} {e : Expr} {t t' : TE} (h : PE X e t) (i : ∀ st H Q, t' st H Q → t st H Q) : PE X e t' := fun pins s σ H Q I z => h pins s σ H Q I (i _ _ _ z)
def tE (K : PySem.W.Frag) (mg : Str → Option Value) (Wx : XW) (m : Mode) (f : E) : TE := fun st H Q => ∃ P0 H0 P Os env M r M', Ok K mg P0 H0 P Os H M st env ∧ f env M = some (r, M') ∧ RQ K mg Wx m P0 H0 P H M' Q r
structure Fit (X : Cx) (Wx : XW) : Prop where
 calm : X.calm = true
 room : X.A.units + 60 < cLine
section
variable {X : Cx} {Wx : XW} {m : Mode}
def SE (X : Cx) (Wx : XW) (m : Mode) (e : Expr) (f : E) : Prop := PE X e (tE X.K X.mg Wx m f)
theorem SE.bor {e : Expr} {f : E} (h : SE X Wx .val e f) : SE X Wx m e f := pe_imp h fun st H Q ⟨P0, H0, P, Os, env, M, r, M', k, e, q⟩ => ⟨P0, H0, P, Os, env, M, r, M', k, e, by
 cases r with
 | v d => exact fun P' v H' l h i => q P' v H' l h (IsM.of h i)
 | x c n => exact q⟩
theorem tE_go {f : E} {K : PySem.W.Frag} {mg : Str → Option Value} {P0 P : Pl} {H0 H : Hp} {Os : List (Option Addr)} {M M' : Mm} {st : L2.St} {env : Env} {r : Res} {Q : VK} (k : Ok K mg P0 H0 P Os H M st env) (e : f env M = some (r, M'))
  (q : RQ K mg Wx m P0 H0 P H M' Q r) : tE K mg Wx m f st H Q := ⟨P0, H0, P, Os, env, M, r, M', k, e, q⟩
def sVar (i : Nat) : E := fun env M => match env[i]? with
 | some (.val d) => some (.v d, M)
 | _ => none
def sVarB (i : Nat) : E := fun env M => match env[i]? with
 | some (.val d) => some (.v d, M)
 | some (.own ds) => some (.v (.lst ds), M)
 | _ => none
def sCon (d : D) : E := fun _ M => some (.v d, M)
theorem join_get {α : Type} {l : List (Option α)} {i : Nat} {a : α} (h : (l[i]?).join = some a) : l[i]? = some (some a) := by
  cases e : l[i]? with
  | none => rw [e] at h; cases h
  | some o => rw [e] at h; cases o with
    | none => cases h
    | some b => cases h; rfl
theorem se_var {i : Nat} {x : Str} {pos : Pos} (hN : X.N[i]? = some x) (hv : Vis X.env.scope x) (hd : (x == ("__debug__" : Str)) = false := by decide +kernel) (hcd : (x == ("__classdict__" : Str)) = false := by decide +kernel) : SE X Wx .val (.Name x pos) (sVar i) := by
 refine pe_imp (pe_var hN hv hd hcd) ?_
 rintro st H Q ⟨P0, H0, P, Os, env, M, r, M', k, e, q⟩
 unfold sVar at e
 split at e
 ·rename_i d hs
  cases e
  obtain ⟨v, e1, i1⟩ := k.slot i _ hs
  exact ⟨v, join_get e1, q P v H (LtE.refl P H) k.hk i1⟩
 ·cases e
theorem se_varB {i : Nat} {x : Str} {pos : Pos} (hN : X.N[i]? = some x) (hv : Vis X.env.scope x) (hd : (x == ("__debug__" : Str)) = false := by decide +kernel) (hcd : (x == ("__classdict__" : Str)) = false := by decide +kernel) : SE X Wx .bor (.Name x pos) (sVarB i) := by
 refine pe_imp (pe_var hN hv hd hcd) ?_
 rintro st H Q ⟨P0, H0, P, Os, env, M, r, M', k, e, q⟩
 unfold sVarB at e
 split at e
 ·rename_i d hs
  cases e
  obtain ⟨v, e1, i1⟩ := k.slot i _ hs
  exact ⟨v, join_get e1, q P v H (LtE.refl P H) k.hk (IsM.of k.hk i1)⟩
 ·rename_i ds hs
  cases e
  obtain ⟨a, vs, e1, e2, e3, i1⟩ := k.slot i _ hs
  exact ⟨.ref a, join_get e2, q P _ H (LtE.refl P H) k.hk ⟨a, vs, rfl, .inl ⟨(k.own a (List.mem_of_getElem? (join_get e1))).2.1, .inl e3⟩, i1⟩⟩
 ·cases e
theorem se_con {e : Expr} {v : V} {d : D} (h : PE X e (tC v)) (hd : ∀ P H, Is X.K P H d v) : SE X Wx .val e (sCon d) := by
 refine pe_imp h ?_
 rintro st H Q ⟨P0, H0, P, Os, env, M, r, M', k, e, q⟩
 cases e
 exact q P v H (LtE.refl P H) k.hk (hd P H)
def vw (M : Mm) (d : D) : D := match d with
  | .ref k => (match M[k]? with
    | some (.lst ds) => .lst ds
    | _ => .ref k)
  | d => d
theorem IsB.vw {K : PySem.W.Frag} {mg : Str → Option Value} {P : Pl} {H : Hp} {M : Mm} {d : D} {v : V} (h : Hk K mg P H M) (i : IsB K P H d v) : IsW K P H (vw M d) v := by
  cases d with
  | ref k =>
    unfold E3.vw
    dsimp only
    split
    · rename_i ds e
      obtain ⟨i1, i2⟩ : k < P.n ∧ v = .ref (P.io k) := i
      obtain ⟨vs, e1, q⟩ := h.cell k _ e
      exact ⟨_, vs, i2, .inl (.inl e1), q⟩
    · exact i
  | lst ds => exact i.w
  | _ => exact i
def s1 (o : D → Option D) (f : E) : E := fun env M => bnd (f env M) fun d M1 => (o (vw M1 d)).map fun z => (.v z, M1)
def s2 (o : D → D → Option D) (f g : E) : E := fun env M => bnd (f env M) fun d M1 => bnd (g env M1) fun e M2 => (o (vw M2 d) (vw M2 e)).map fun z => (.v z, M2)
def Pure2 (K : PySem.W.Frag) (r : R2) (o : D → D → Option D) : Prop := ∀ (P : Pl) (H : Hp) (d e z : D) (v w : V) (Q : VK), o d e = some z → IsW K P H d v → IsW K P H e w → (∀ p, H p = none → ¬ P.bd p) → (∀ u H', Same H H' → Is K P H' z u → Q u H') → r v w H Q
def Pure1 (K : PySem.W.Frag) (r : V → Hp → VK → Prop) (o : D → Option D) : Prop := ∀ (P : Pl) (H : Hp) (d z : D) (v : V) (Q : VK), o d = some z → IsW K P H d v → (∀ p, H p = none → ¬ P.bd p) → (∀ u H', Same H H' → Is K P H' z u → Q u H') → r v H Q
theorem Hk.new {K : PySem.W.Frag} {mg : Str → Option Value} {P : Pl} {H : Hp} {M : Mm} (h : Hk K mg P H M) : ∀ p, H p = none → ¬ P.bd p := fun p hp z => h.here p z hp
theorem t2_ok {f g : E} {o : D → D → Option D} {r : R2} {st : L2.St} {H : Hp} {Q : VK} (po : Pure2 X.K r o) (h : tE X.K X.mg Wx m (s2 o f g) st H Q) : tOp r (tE X.K X.mg Wx .bor f) (tE X.K X.mg Wx .bor g) st H Q := by
 obtain ⟨P0, H0, P, Os, env, M, rr, M', k, e, q⟩ := h
 unfold s2 at e
 rcases bnd_inv e with ⟨d, M1, e1, e⟩ | ⟨c, n, e1, rfl⟩
 ·refine tE_go k e1 fun P1 v1 H1 l1 h1 i1 => ?_
  have k1 := k.next l1 h1
  rcases bnd_inv e with ⟨d2, M2, e2, e⟩ | ⟨c, n, e2, rfl⟩
  ·refine tE_go k1 e2 fun P2 v2 H2 l2 h2 i2 => ?_
   rw [Option.map_eq_some_iff] at e
   obtain ⟨z, ez, e⟩ := e
   cases e
   exact po P2 H2 _ _ z v1 v2 Q ez (IsB.vw h2 (IsB.lt l2 h1 i1)) (IsB.vw h2 i2) h2.new fun u H' s i => q P2 u H' (l1.trans (l2.trans (LtE.same s))) (h2.same s) (IsM.of (h2.same s) i)
  ·exact tE_go k1 e2 q
 ·exact tE_go k e1 q
theorem t1_ok {f : E} {o : D → Option D} {r : V → Hp → VK → Prop} {st : L2.St} {H : Hp} {Q : VK} (po : Pure1 X.K r o) (h : tE X.K X.mg Wx m (s1 o f) st H Q) : tUn r (tE X.K X.mg Wx .bor f) st H Q := by
 obtain ⟨P0, H0, P, Os, env, M, rr, M', k, e, q⟩ := h
 unfold s1 at e
 rcases bnd_inv e with ⟨d, M1, e1, e⟩ | ⟨c, n, e1, rfl⟩
 ·refine tE_go k e1 fun P1 v1 H1 l1 h1 i1 => ?_
  rw [Option.map_eq_some_iff] at e
  obtain ⟨z, ez, e⟩ := e
  cases e
  exact po P1 H1 _ z v1 Q ez (IsB.vw h1 i1) h1.new fun u H' s i => q P1 u H' (l1.trans (LtE.same s)) (h1.same s) (IsM.of (h1.same s) i)
 ·exact tE_go k e1 q
theorem se_op {a b : Expr} {op : Operator} {pos : Pos} {f g : E} {o : D → D → Option D} {r : R2} (ho : OpR X (binaryOp op) r) (po : Pure2 X.K r o) (ha : SE X Wx .bor a f) (hb : SE X Wx .bor b g) : SE X Wx m (.BinOp a op b pos) (s2 o f g) :=
 pe_imp (pe_op ho ha hb) fun _ _ _ h => t2_ok po h
theorem se_ix {a b : Expr} {pos : Pos} {f g : E} {o : D → D → Option D} {r : R2} (ho : IxR X r) (po : Pure2 X.K r o) (ha : SE X Wx .bor a f) (hb : SE X Wx .bor b g) (hs : PlainIx b := by exact fun _ _ => rfl) : SE X Wx m (.Subscript a b pos) (s2 o f g) :=
 pe_imp (pe_ix ho ha hb hs) fun _ _ _ h => t2_ok po h
def TQ (K : PySem.W.Frag) (mg : Str → Option Value) (Wx : XW) (P0 : Pl) (H0 : Hp) (P : Pl) (H : Hp) (M' : Mm) (Q : Bool → Hp → Prop) : Res → Prop
 | .v d => ∃ b, d = .bl b ∧ ∀ P' H', LtE P H P' H' → Hk K mg P' H' M' → Q b H'
 | .x c n => Wx P0 H0 M' c n
def tTt (K : PySem.W.Frag) (mg : Str → Option Value) (Wx : XW) (f : E) : TT := fun st H Q => ∃ P0 H0 P Os env M r M', Ok K mg P0 H0 P Os H M st env ∧ f env M = some (r, M') ∧ TQ K mg Wx P0 H0 P H M' Q r
def ST (X : Cx) (Wx : XW) (e : Expr) (f : E) : Prop := PT X e (tTt X.K X.mg Wx f)
theorem pt_imp {e : Expr} {t t' : TT} (h : PT X e t) (i : ∀ st H Q, t' st H Q → t st H Q) : PT X e t' := fun pins s σ H Q I z => h pins s σ H Q I (i _ _ _ z)
theorem tTt_go {f : E} {K : PySem.W.Frag} {mg : Str → Option Value} {P0 P : Pl} {H0 H : Hp} {Os : List (Option Addr)} {M M' : Mm} {st : L2.St} {env : Env} {r : Res} {Q : Bool → Hp → Prop} (k : Ok K mg P0 H0 P Os H M st env) (e : f env M = some (r, M'))
  (q : TQ K mg Wx P0 H0 P H M' Q r) : tTt K mg Wx f st H Q := ⟨P0, H0, P, Os, env, M, r, M', k, e, q⟩
theorem tt_of {f : E} {st : L2.St} {H : Hp} {Q : Bool → Hp → Prop} (h : tTt X.K X.mg Wx f st H Q) : tTest (tE X.K X.mg Wx .val f) st H Q := by
  obtain ⟨P0, H0, P, Os, env, M, r, M', k, e, q⟩ := h
  refine tE_go k e ?_
  cases r with
  | v d =>
    obtain ⟨b, rfl, q⟩ := q
    exact fun P' v H' l h i => ⟨b, i, q P' H' l h⟩
  | x c n => exact q
theorem st_cmp {a b : Expr} {op : CmpOp} {pos : Pos} {f g : E} {o : D → D → Option D} {r : R2} (ho : OpR X (compareOp op) r) (po : Pure2 X.K r o) (ha : SE X Wx .bor a f) (hb : SE X Wx .bor b g) (hm : behindInMarks op b = false := by rfl) : ST X Wx (.Compare a [op] [b] pos) (s2 o f g) :=
 pt_imp (pt_cmpR ho ha hb hm) fun _ _ _ h => t2_ok po (tt_of h)
def truD : D → Option Bool
 | .non => some false
 | .bl b => some b
 | .int i => some (i != 0)
 | .str s => if s.length ≤ sizeLine then some ((s.length : Int) != 0) else none
 | .lst ds => some (!ds.isEmpty)
 | .tup ds => some (!ds.isEmpty)
 | .ref _ => none
def sTru (f : E) : E := s1 (fun d => (truD d).map .bl) f
def sNot (f : E) : E := fun env M => bnd (f env M) fun d M1 => match d with
 | .bl b => some (.v (.bl (!b)), M1)
 | _ => none
def sAnd (f g : E) : E := fun env M => bnd (f env M) fun d M1 => match d with
 | .bl b => if b = true then g env M1 else some (.v (.bl false), M1)
 | _ => none
def sOr (f g : E) : E := fun env M => bnd (f env M) fun d M1 => match d with
 | .bl b => if b = true then some (.v (.bl true), M1) else g env M1
 | _ => none
def sIte (c f g : E) : E := fun env M => bnd (c env M) fun d M1 => match d with
 | .bl b => if b = true then f env M1 else g env M1
 | _ => none
def SW (X : Cx) (Wx : XW) (e : Expr) (f : E) : Prop := PW X e (tTt X.K X.mg Wx f)
theorem pw_imp {e : Expr} {t t' : TT} (h : PW X e t) (i : ∀ st H Q, t' st H Q → t st H Q) : PW X e t' := fun wh pins s σ H Q I z => h wh pins s σ H Q I (i _ _ _ z)
theorem st_not {a : Expr} {pos : Pos} {f : E} (ha : ST X Wx a f) : ST X Wx (.UnaryOp .Not a pos) (sNot f) := by
 refine pt_imp (pt_not ha) ?_
 rintro st H Q ⟨P0, H0, P, Os, env, M, r, M', k, e, q⟩
 unfold sNot at e
 rcases bnd_inv e with ⟨d, M1, e1, e⟩ | ⟨c, n, e1, rfl⟩
 ·cases d <;> simp only [reduceCtorEq] at e
  cases e
  obtain ⟨b, e2, q⟩ := q
  cases e2
  exact tTt_go k e1 ⟨_, rfl, q⟩
 ·exact tTt_go k e1 q
theorem sw_and1 {a : Expr} {pos : Pos} {f : E} (ha : ST X Wx a f) : SW X Wx (.BoolOp .And [a] pos) f := pw_and1 ha
theorem sw_or1 {a : Expr} {pos : Pos} {f : E} (ha : ST X Wx a f) : SW X Wx (.BoolOp .Or [a] pos) f := pw_or1 ha
theorem sw_and {a b : Expr} {rest : List Expr} {pos : Pos} {f g : E} (ha : ST X Wx a f) (hb : SW X Wx (.BoolOp .And (b :: rest) pos) g) : SW X Wx (.BoolOp .And (a :: b :: rest) pos) (sAnd f g) := by
  refine pw_imp (pw_and ha hb) ?_
  rintro st H Q ⟨P0, H0, P, Os, env, M, r, M', k, e, q⟩
  unfold sAnd at e
  rcases bnd_inv e with ⟨d, M1, e1, e⟩ | ⟨c, n, e1, rfl⟩
  · cases d <;> simp only [reduceCtorEq] at e
    rename_i b
    refine tTt_go k e1 ⟨b, rfl, fun P1 H1 l1 h1 => ?_⟩
    cases b with
    | true =>
      rw [if_pos rfl] at e ⊢
      refine tTt_go (k.next l1 h1) e ?_
      cases r with
      | v d => obtain ⟨b, e2, q⟩ := q; exact ⟨b, e2, fun P' H' l h => q P' H' (l1.trans l) h⟩
      | x c n => exact q
    | false =>
      rw [if_neg (by decide)] at e ⊢
      cases e
      obtain ⟨b, e2, q⟩ := q
      cases e2
      exact q P1 H1 l1 h1
  · exact tTt_go k e1 q
theorem sw_or {a b : Expr} {rest : List Expr} {pos : Pos} {f g : E} (ha : ST X Wx a f) (hb : SW X Wx (.BoolOp .Or (b :: rest) pos) g) : SW X Wx (.BoolOp .Or (a :: b :: rest) pos) (sOr f g) := by
  refine pw_imp (pw_or ha hb) ?_
  rintro st H Q ⟨P0, H0, P, Os, env, M, r, M', k, e, q⟩
  unfold sOr at e
  rcases bnd_inv e with ⟨d, M1, e1, e⟩ | ⟨c, n, e1, rfl⟩
  · cases d <;> simp only [reduceCtorEq] at e
    rename_i b
    refine tTt_go k e1 ⟨b, rfl, fun P1 H1 l1 h1 => ?_⟩
    cases b with
    | false =>
      rw [if_neg (by decide)] at e ⊢
      refine tTt_go (k.next l1 h1) e ?_
      cases r with
      | v d => obtain ⟨b, e2, q⟩ := q; exact ⟨b, e2, fun P' H' l h => q P' H' (l1.trans l) h⟩
      | x c n => exact q
    | true =>
      rw [if_pos rfl] at e ⊢
      cases e
      obtain ⟨b, e2, q⟩ := q
      cases e2
      exact q P1 H1 l1 h1
  · exact tTt_go k e1 q
theorem SW.st {e : Expr} {f : E} (h : SW X Wx e f) : ST X Wx e f := h.pt
end
end E3
namespace E3
open PySem PySem.Spec PyProof.Rows L2
section
variable {X : Cx} {Wx : XW} {m : Mode}
theorem RQ.imp {K : PySem.W.Frag} {mg : Str → Option Value} {P0 P P1 : Pl} {H0 H H1 : Hp} {M' : Mm} {Q : VK} {r : Res} (l : LtE P H P1 H1) (q : RQ K mg Wx m P0 H0 P H M' Q r) : RQ K mg Wx m P0 H0 P1 H1 M' Q r := by
 cases r with
 | v d => exact fun P' v H' l' h i => q P' v H' (l.trans l') h i
 | x c n => exact q
theorem se_one {a : Expr} {op : BoolOp} {pos : Pos} {f : E} (ha : SE X Wx m a f) : SE X Wx m (.BoolOp op [a] pos) f := pe_one ha
theorem se_and {a b : Expr} {rest : List Expr} {pos : Pos} {f g : E} (ha : SE X Wx .val a f) (hb : SE X Wx m (.BoolOp .And (b :: rest) pos) g) : SE X Wx m (.BoolOp .And (a :: b :: rest) pos) (sAnd f g) := by
  refine pe_imp (pe_and ha hb) ?_
  rintro st H Q ⟨P0, H0, P, Os, env, M, r, M', k, e, q⟩
  unfold sAnd at e
  rcases bnd_inv e with ⟨d, M1, e1, e⟩ | ⟨c, n, e1, rfl⟩
  · cases d <;> simp only [reduceCtorEq] at e
    rename_i b
    refine tE_go k e1 fun P1 v1 H1 l1 h1 i1 => ⟨b, i1, ?_⟩
    cases b with
    | true =>
      rw [if_pos rfl] at e ⊢
      exact tE_go (k.next l1 h1) e (RQ.imp l1 q)
    | false =>
      rw [if_neg (by decide)] at e ⊢
      cases e
      exact q P1 _ H1 l1 h1 (IsM.of h1 (show Is _ _ _ (.bl false) _ from rfl))
  · exact tE_go k e1 q
theorem se_ite {c a b : Expr} {pos : Pos} {t f g : E} (hc : ST X Wx c t) (ha : SE X Wx m a f) (hb : SE X Wx m b g) : SE X Wx m (.IfExp c a b pos) (sIte t f g) := by
  refine pe_imp (pe_ifExp hc ha hb) ?_
  rintro st H Q ⟨P0, H0, P, Os, env, M, r, M', k, e, q⟩
  unfold sIte at e
  rcases bnd_inv e with ⟨d, M1, e1, e⟩ | ⟨c, n, e1, rfl⟩
  · cases d <;> simp only [reduceCtorEq] at e
    rename_i b
    refine tTt_go k e1 ⟨b, rfl, fun P1 H1 l1 h1 => ?_⟩
    cases b with
    | true =>
      rw [if_pos rfl] at e ⊢
      exact tE_go (k.next l1 h1) e (RQ.imp l1 q)
    | false =>
      rw [if_neg (by decide)] at e ⊢
      exact tE_go (k.next l1 h1) e (RQ.imp l1 q)
  · exact tTt_go k e1 q
theorem tru_V {K : PySem.W.Frag} {P : Pl} {H : Hp} {d : D} {v : V} {b : Bool} (h : truD d = some b) (i : IsW K P H d v) : TruV K v H b := by
  cases d with
  | non => have e : v = .non := i; subst e; cases h; rfl
  | bl c => have e : v = .bl c := i; subst e; cases h; rfl
  | int c => have e : v = .int c := i; subst e; cases h; rfl
  | str c =>
    have e : v = .str c := i
    subst e
    simp only [truD] at h
    split at h
    · rename_i hl
      cases h
      exact ⟨hl, rfl⟩
    · cases h
  | lst ds =>
    obtain ⟨a, vs, rfl, r, q⟩ := i
    cases h
    refine .inl ⟨vs, r, ?_⟩
    cases ds with
    | nil => rw [show vs = [] from q]; rfl
    | cons d ds => obtain ⟨w, r', rfl, _⟩ := q; rfl
  | tup ds =>
    obtain ⟨a, vs, rfl, r, q⟩ := i
    cases h
    refine .inr (.inl ⟨vs, r, ?_⟩)
    cases ds with
    | nil => rw [show vs = [] from q]; rfl
    | cons d ds => obtain ⟨w, r', rfl, _⟩ := q; rfl
  | ref k => cases h
theorem st_tru {a : Expr} {f : E} (ha : SE X Wx .bor a f) (he : ∀ whole, isTrue a X.env whole = (do let v ← whole; standAt a.pos; holding [v] (truthy v)) := by exact fun _ => rfl) : ST X Wx a (sTru f) := by
 refine pt_imp (pt_truth ha he) ?_
 rintro st H Q ⟨P0, H0, P, Os, env, M, r, M', k, e, q⟩
 unfold sTru s1 at e
 rcases bnd_inv e with ⟨d, M1, e1, e⟩ | ⟨c, n, e1, rfl⟩
 ·rw [Option.map_eq_some_iff] at e
  obtain ⟨z, ez, e⟩ := e
  cases e
  rw [Option.map_eq_some_iff] at ez
  obtain ⟨b, eb, rfl⟩ := ez
  obtain ⟨b', e2, q⟩ := q
  cases e2
  exact tE_go k e1 fun P1 v1 H1 l1 h1 i1 => ⟨b, tru_V eb (IsB.vw h1 i1), q P1 H1 l1 h1⟩
 ·exact tE_go k e1 q
theorem pe_notv {X : Cx} {a : Expr} {ta : TE} {pos : Pos} (ha : PE X a ta) : PE X (.UnaryOp .Not a pos) (fun σ H Q => ta σ H fun x H1 => ∃ k, TruV X.K x H1 k ∧ Q (.bl (!k)) H1) := by
 intro pins s σ H Q I h
 refine UnaryOp_ (thn (ha pins s σ H _ I h) fun v s1 ⟨x, H1, I1, r1, k, tv, q⟩ => ?_)
 exact not_of (thn (tru_ok pins s1 σ H1 x v (fun b H' => b = k ∧ H' = H1) I1 r1 ⟨k, tv, rfl, rfl⟩) fun b s2 ⟨H2, I2, e1, e2⟩ => by
  subst e1 e2
  exact ⟨.bl (!b), H2, I2, rfl, q⟩)
def sNotV (f : E) : E := s1 (fun d => (truD d).map fun b => .bl (!b)) f
theorem se_not {a : Expr} {pos : Pos} {f : E} (ha : SE X Wx .bor a f) : SE X Wx m (.UnaryOp .Not a pos) (sNotV f) := by
 refine pe_imp (pe_notv ha) ?_
 rintro st H Q ⟨P0, H0, P, Os, env, M, r, M', k, e, q⟩
 unfold sNotV s1 at e
 rcases bnd_inv e with ⟨d, M1, e1, e⟩ | ⟨c, n, e1, rfl⟩
 ·rw [Option.map_eq_some_iff] at e
  obtain ⟨z, ez, e⟩ := e
  cases e
  rw [Option.map_eq_some_iff] at ez
  obtain ⟨b, eb, rfl⟩ := ez
  exact tE_go k e1 fun P1 v1 H1 l1 h1 i1 => ⟨b, tru_V eb (IsB.vw h1 i1), q P1 _ H1 l1 h1 (IsM.of h1 (show Is _ _ _ (.bl _) _ from rfl))⟩
 ·exact tE_go k e1 q
inductive ResA where
 | v (ds : List D) | x (c : Str) (n : Int)
abbrev EA := Env → Mm → Option (ResA × Mm)
def sNil : EA := fun _ M => some (.v [], M)
def sCons (f : E) (fs : EA) : EA := fun env M => match f env M with
  | some (.v d, M1) => (match fs env M1 with
    | some (.v ds, M2) => some (.v (d :: ds), M2)
    | some (.x c n, M2) => some (.x c n, M2)
    | none => none)
  | some (.x c n, M1) => some (.x c n, M1)
  | none => none
def bndA (o : Option (ResA × Mm)) (k : List D → Mm → O) : O := match o with
 | some (.v ds, M) => k ds M
 | some (.x c n, M) => some (.x c n, M)
 | none => none
theorem bndA_inv {o : Option (ResA × Mm)} {k : List D → Mm → O} {r : Res} {M' : Mm} (h : bndA o k = some (r, M')) : (∃ ds M, o = some (.v ds, M) ∧ k ds M = some (r, M')) ∨ ∃ c n, o = some (.x c n, M') ∧ r = .x c n := by
 unfold bndA at h
 split at h
 ·exact .inl ⟨_, _, rfl, h⟩
 ·cases h; exact .inr ⟨_, _, rfl, rfl⟩
 ·cases h
def AllM (K : PySem.W.Frag) (P : Pl) (H : Hp) (m : Mode) : List D → List V → Prop
 | [], vs => vs = []
 | d :: ds, vs => ∃ v ws, vs = v :: ws ∧ IsM K P H m d v ∧ AllM K P H m ds ws
theorem AllM.iss {K : PySem.W.Frag} {P : Pl} {H : Hp} : ∀ {ds : List D} {vs : List V}, AllM K P H .val ds vs → Iss K P H ds vs
  | [], _, h => h
  | _ :: _, _, h => by
    obtain ⟨v, ws, e, p, q⟩ := h
    exact ⟨v, ws, e, p, AllM.iss q⟩
def AQ (K : PySem.W.Frag) (mg : Str → Option Value) (Wx : XW) (m : Mode) (P0 : Pl) (H0 : Hp) (P : Pl) (H : Hp) (M' : Mm) (Q : List V → Hp → Prop) : ResA → Prop
 | .v ds => ∀ P' vs H', LtE P H P' H' → Hk K mg P' H' M' → AllM K P' H' m ds vs → Q vs H'
 | .x c n => Wx P0 H0 M' c n
def tAs (K : PySem.W.Frag) (mg : Str → Option Value) (Wx : XW) (m : Mode) (fs : EA) : TA := fun st H Q => ∃ P0 H0 P Os env M r M', Ok K mg P0 H0 P Os H M st env ∧ fs env M = some (r, M') ∧ AQ K mg Wx m P0 H0 P H M' Q r
def SA (X : Cx) (Wx : XW) (m : Mode) (es : List Expr) (fs : EA) : Prop := PA X es (tAs X.K X.mg Wx m fs)
theorem pa_imp {es : List Expr} {t t' : TA} (h : PA X es t) (w : ∀ σ H Q, t' σ H Q → t σ H Q) : PA X es t' := fun pos pins s σ H Q I hw => h pos pins s σ H Q I (w σ H Q hw)
theorem sa_nil : SA X Wx m [] sNil := by
 refine pa_imp pa_nil ?_
 rintro st H Q ⟨P0, H0, P, Os, env, M, r, M', k, e, q⟩
 cases e
 exact q P [] H (LtE.refl P H) k.hk rfl
theorem sa_cons {e : Expr} {es : List Expr} {f : E} {fs : EA} (ha : SE X Wx m e f) (hr : SA X Wx m es fs) (hs : starEach (e :: es) X.env = (false, eval e X.env) :: starEach es X.env := by rfl) : SA X Wx m (e :: es) (sCons f fs) := by
 refine pa_imp (pa_cons ha hr hs) ?_
 rintro st H Q ⟨P0, H0, P, Os, env, M, r, M', k, e, q⟩
 unfold sCons at e
 split at e
 ·rename_i d M1 e1
  refine tE_go k e1 fun P1 v1 H1 l1 h1 i1 => ?_
  split at e
  ·rename_i ds M2 e2
   cases e
   refine ⟨P0, H0, P1, Os, env, M1, _, _, k.next l1 h1, e2, fun P2 vs H2 l2 h2 i2 => q P2 _ H2 (l1.trans l2) h2 ⟨v1, vs, rfl, ?_, i2⟩⟩
   cases m with
   | val => exact Is.lt (l2.lt h1) i1
   | bor => exact IsB.lt l2 h1 i1
  ·rename_i c n M2 e2
   cases e
   exact ⟨P0, H0, P1, Os, env, M1, _, _, k.next l1 h1, e2, q⟩
  ·cases e
 ·rename_i c n M1 e1
  cases e
  exact tE_go k e1 q
 ·cases e
def sN (o : List D → Option D) (fs : EA) : E := fun env M => bndA (fs env M) fun ds M1 => (o (ds.map (vw M1))).map fun z => (.v z, M1)
def AllW (K : PySem.W.Frag) (P : Pl) (H : Hp) : List D → List V → Prop
 | [], vs => vs = []
 | d :: ds, vs => ∃ v ws, vs = v :: ws ∧ IsW K P H d v ∧ AllW K P H ds ws
theorem AllM.w {K : PySem.W.Frag} {mg : Str → Option Value} {P : Pl} {H : Hp} {M : Mm} (h : Hk K mg P H M) : ∀ {ds : List D} {vs : List V}, AllM K P H m ds vs → AllW K P H (ds.map (vw M)) vs
  | [], _, q => q
  | d :: ds, _, q => by
    obtain ⟨v, ws, e, p, q⟩ := q
    exact ⟨v, ws, e, IsB.vw h (p.b h), AllM.w h q⟩
def PureN (K : PySem.W.Frag) (r : List V → Hp → VK → Prop) (o : List D → Option D) : Prop := ∀ (P : Pl) (H : Hp) (ds : List D) (z : D) (vs : List V) (Q : VK), o ds = some z → AllW K P H ds vs → (∀ p, H p = none → ¬ P.bd p) → (∀ u H', Same H H' → Is K P H' z u → Q u H') → r vs H Q
theorem se_cb {ex e : Expr} {es : List Expr} {r : List V → Hp → VK → Prop} {o : List D → Option D} {fs : EA} (h : ∀ t, PA X (e :: es) t → PE X ex (tCB r t)) (po : PureN X.K r o) (ha : SA X Wx .bor (e :: es) fs) : SE X Wx m ex (sN o fs) := by
 refine pe_imp (h _ ha) ?_
 rintro st H Q ⟨P0, H0, P, Os, env, M, r, M', k, e, q⟩
 unfold sN at e
 rcases bndA_inv e with ⟨ds, M1, e1, e⟩ | ⟨c, n, e1, rfl⟩
 ·rw [Option.map_eq_some_iff] at e
  obtain ⟨z, ez, e⟩ := e
  cases e
  exact ⟨P0, H0, P, Os, env, M, _, _, k, e1, fun P1 vs H1 l1 h1 i1 => po P1 H1 _ z vs Q ez (AllM.w h1 i1) h1.new fun u H' s i => q P1 u H' (l1.trans (LtE.same s)) (h1.same s) (IsM.of (h1.same s) i)⟩
 ·exact ⟨P0, H0, P, Os, env, M, _, _, k, e1, q⟩
def sTup (fs : EA) : E := fun env M => bndA (fs env M) fun ds M1 => if ds.length ≤ sizeLine then some (.v (.tup ds), M1) else none
theorem se_tup {es : List Expr} {x1 : Nat} {pos : Pos} {fs : EA} (ha : SA X Wx .val es fs) : SE X Wx m (.Tuple es x1 pos) (sTup fs) := by
 refine pe_imp (pe_tup ha) ?_
 rintro st H Q ⟨P0, H0, P, Os, env, M, r, M', k, e, q⟩
 unfold sTup at e
 rcases bndA_inv e with ⟨ds, M1, e1, e⟩ | ⟨c, n, e1, rfl⟩
 ·split at e
  ·rename_i hl
   cases e
   refine ⟨P0, H0, P, Os, env, M, _, _, k, e1, fun P1 vs H1 l1 h1 i1 => ⟨by rw [i1.iss.len]; exact hl, fun p hp => ?_⟩⟩
   have s := same_new (o := .tup vs) hp
   exact q P1 _ _ (l1.trans (LtE.same s)) (h1.same s) (IsM.of (h1.same s) ⟨p, vs, rfl, .inl (.inl upd_same), Iss.lt ((LtE.same s).lt h1) i1.iss⟩)
  ·cases e
 ·exact ⟨P0, H0, P, Os, env, M, _, _, k, e1, q⟩
def NQ (K : PySem.W.Frag) (mg : Str → Option Value) (Wx : XW) (P0 : Pl) (H0 : Hp) (P : Pl) (H : Hp) (M' : Mm) (Q : VK) : Res → Prop
 | .v d => ∃ ds, d = .lst ds ∧ ∀ P' a vs H', LtE P H P' H' → Hk K mg P' H' M' → H a = none → P'.bd a → (∀ k, k < P'.n → P'.io k ≠ a) → H' a = some (.lst vs) → Iss K P' H' ds vs → Q (.ref a) H'
 | .x c n => Wx P0 H0 M' c n
def tN (K : PySem.W.Frag) (mg : Str → Option Value) (Wx : XW) (f : E) : TE := fun st H Q => ∃ P0 H0 P Os env M r M', Ok K mg P0 H0 P Os H M st env ∧ f env M = some (r, M') ∧ NQ K mg Wx P0 H0 P H M' Q r
def SN (X : Cx) (Wx : XW) (e : Expr) (f : E) : Prop := PE X e (tN X.K X.mg Wx f)
def Pl.bar (P : Pl) (p : Addr) : Pl := { P with bd := fun a => P.bd a ∨ a = p }
theorem bar_new {K : PySem.W.Frag} {mg : Str → Option Value} {P : Pl} {H : Hp} {M : Mm} {p : Addr} {vs : List V} (h : Hk K mg P H M) (hp : H p = none) : LtE P H (P.bar p) (upd H p (.lst vs)) ∧ Hk K mg (P.bar p) (upd H p (.lst vs)) M ∧ ∀ k, k < P.n → P.io k ≠ p := by
  have s := same_new (o := .lst vs) hp
  have nc : ∀ k, k < P.n → P.io k ≠ p := fun k hk z => h.here _ (h.bd k hk) (z ▸ hp)
  have l : LtE P H (P.bar p) (upd H p (.lst vs)) := ⟨Nat.le_refl _, fun _ _ => rfl, fun a z => Or.imp (fun q => q) (fun (q : a = p) => by rw [q]; exact hp) z, fun a z => .inl z, fun a o e _ => s a o e, fun a z => s.free z, fun k h1 h2 => absurd h1 (Nat.not_le.mpr h2)⟩
  have lt := l.lt h
  refine ⟨l, ⟨h.n, fun k c e => ?_, h.inj, fun k hk => .inl (h.bd k hk), fun a z q => ?_⟩, nc⟩
  · have := h.cell k c e
    cases c with
    | lst ds =>
      obtain ⟨vs, e1, q⟩ := this
      exact ⟨vs, s _ _ e1, Iss.lt lt q⟩
    | obj c fs =>
      obtain ⟨C, dx, gs, e1, e2, e3, q⟩ := this
      exact ⟨C, dx, gs, e1, s _ _ e2, e3, Iss.lt lt q⟩
    | dct kvs =>
      obtain ⟨vs, e1, e2, q⟩ := this
      exact ⟨vs, s _ _ e1, e2, Iss.lt lt q⟩
  · rcases z with z | z
    · exact h.here a z (s.free q)
    · subst z; rw [upd_same] at q; cases q
theorem SN.se {e : Expr} {f : E} (h : SN X Wx e f) (hf : ∀ env M r M', f env M = some (.v r, M') → ∃ ds, r = .lst ds) : SE X Wx .val e f := by
  refine pe_imp h ?_
  rintro st H Q ⟨P0, H0, P, Os, env, M, r, M', k, e, q⟩
  refine ⟨P0, H0, P, Os, env, M, r, M', k, e, ?_⟩
  cases r with
  | x c n => exact q
  | v d =>
    obtain ⟨ds, rfl⟩ := hf _ _ _ _ e
    refine ⟨ds, rfl, fun P' a vs H' l h ha ba nc ea is => q (P'.less (· ≠ a)) _ H' ?_ ?_ ⟨a, vs, rfl, .inl ⟨fun z => z.2 rfl, .inl ea⟩, Iss.less is⟩⟩
    · exact ⟨l.n, l.io, fun b z => l.bd b z.1, fun b z => ⟨l.bm b z, fun q => k.hk.here b z (q ▸ ha)⟩, l.keep, l.sure, l.nw⟩
    · refine ⟨h.n, fun j c e => ?_, h.inj, fun j hj => ⟨h.bd j hj, nc j hj⟩, fun b z => h.here b z.1⟩
      have := h.cell j c e
      cases c with
      | lst ds =>
        obtain ⟨vs, e1, q⟩ := this
        exact ⟨vs, e1, Iss.less q⟩
      | obj c fs =>
        obtain ⟨C, dx, gs, e1, e2, e3, q⟩ := this
        exact ⟨C, dx, gs, e1, e2, e3, Iss.less q⟩
      | dct kvs =>
        obtain ⟨vs, e1, e2, q⟩ := this
        exact ⟨vs, e1, e2, Iss.less q⟩
def sLst (fs : EA) : E := fun env M => bndA (fs env M) fun ds M1 => if ds.length ≤ sizeLine then some (.v (.lst ds), M1) else none
theorem sn_lst {es : List Expr} {pos : Pos} {fs : EA} (ha : SA X Wx .val es fs) : SN X Wx (.List es pos) (sLst fs) := by
 refine pe_imp (pe_lst ha) ?_
 rintro st H Q ⟨P0, H0, P, Os, env, M, r, M', k, e, q⟩
 unfold sLst at e
 rcases bndA_inv e with ⟨ds, M1, e1, e⟩ | ⟨c, n, e1, rfl⟩
 ·split at e
  ·rename_i hl
   cases e
   obtain ⟨ds', e', q⟩ := q
   cases e'
   refine ⟨P0, H0, P, Os, env, M, _, _, k, e1, fun P1 vs H1 l1 h1 i1 => ⟨by rw [i1.iss.len]; exact hl, fun p hp => ?_⟩⟩
   obtain ⟨l2, h2, nc⟩ := bar_new (vs := vs) h1 hp
   exact q (P1.bar p) p vs _ (l1.trans l2) h2 (l1.sure p hp) (.inr rfl) nc upd_same (Iss.lt (l2.lt h1) i1.iss)
  ·cases e
 ·exact ⟨P0, H0, P, Os, env, M, _, _, k, e1, q⟩
theorem lst_is {fs : EA} : ∀ env M r M', sLst fs env M = some (.v r, M') → ∃ ds, r = .lst ds := fun env M r M' e => by
 unfold sLst at e
 rcases bndA_inv e with ⟨ds, M1, e1, e⟩ | ⟨c, n, e1, e⟩
 ·split at e
  ·cases e; exact ⟨_, rfl⟩
  ·cases e
 ·cases e
end
end E3
namespace E3
open PySem PySem.Spec PyProof.Rows L2
inductive Out where
 | nx (env : Env) | bk (env : Env) | ct (env : Env) | rt (d : D) | ex (c : Str) (n : Int)
abbrev OS := Option (Out × Mm)
abbrev S := Env → Mm → OS
def Post (K : PySem.W.Frag) (mg : Str → Option Value) (Wx : XW) (P0 : Pl) (H0 : Hp) (P : Pl) (H : Hp) (M' : Mm) (D : Ends) : Out → Prop
 | .nx env => ∀ P' Os' H' st', Lt P H P' H' → Ok K mg P0 H0 P' Os' H' M' st' env → D.nx st' H'
 | .bk env => ∀ P' Os' H' st', Lt P H P' H' → Ok K mg P0 H0 P' Os' H' M' st' env → D.bk st' H'
 | .ct env => ∀ P' Os' H' st', Lt P H P' H' → Ok K mg P0 H0 P' Os' H' M' st' env → D.ct st' H'
 | .rt d => ∀ P' v H', LtE P0 H0 P' H' → Hk K mg P' H' M' → Is K P' H' d v → D.rt v H'
 | .ex c n => Wx P0 H0 M' c n
def tS (K : PySem.W.Frag) (mg : Str → Option Value) (Wx : XW) (f : S) : TS := fun D st H => ∃ P0 H0 P Os env M out M', Ok K mg P0 H0 P Os H M st env ∧ f env M = some (out, M') ∧ Post K mg Wx P0 H0 P H M' D out
def SS (X : Cx) (Wx : XW) (s : Stmt) (f : S) : Prop := PS X s (tS X.K X.mg Wx f)
def SB (X : Cx) (Wx : XW) (s : List Stmt) (f : S) : Prop := PSs X s (tS X.K X.mg Wx f)
def bndS (o : O) (k : D → Mm → OS) : OS := match o with
 | some (.v d, M) => k d M
 | some (.x c n, M) => some (.ex c n, M)
 | none => none
theorem bndS_inv {o : O} {k : D → Mm → OS} {r : Out} {M' : Mm} (h : bndS o k = some (r, M')) : (∃ d M, o = some (.v d, M) ∧ k d M = some (r, M')) ∨ ∃ c n, o = some (.x c n, M') ∧ r = .ex c n := by
 unfold bndS at h
 split at h
 ·exact .inl ⟨_, _, rfl, h⟩
 ·cases h; exact .inr ⟨_, _, rfl, rfl⟩
 ·cases h
section
variable {K : PySem.W.Frag} {mg : Str → Option Value} {Wx : XW} {P0 P P' P1 : Pl} {H0 H H' H1 : Hp} {M M' : Mm} {Os : List (Option Addr)} {st : L2.St} {env : Env} {d : D} {v : V} {i : Nat}
theorem set_join {α : Type} (l : List (Option α)) (i j : Nat) (x : Option α) (hi : i < l.length) : ((l.set i x)[j]?).join = if i = j then x else (l[j]?).join := by
 rw [List.getElem?_set]
 by_cases h : i = j
 ·subst h
  rw [if_pos rfl, if_pos hi, if_pos rfl]
  rfl
 ·rw [if_neg h, if_neg h]
theorem Ok.asg (k : Ok K mg P0 H0 P Os H M st env) (hi : i < env.length) (h : Is K P H d v) : Ok K mg P0 H0 P (Os.set i none) H M (st.set i (some v)) (env.set i (.val d)) where
 hk := k.hk
 base := k.base
 b0 := k.b0
 slot := fun j s e => by
  rw [set_join _ _ _ _ (by rw [k.olen]; exact hi), set_join _ _ _ _ (by rw [k.slen]; exact hi)]
  rw [List.getElem?_set] at e
  split at e
  ·rename_i ij
   subst ij
   cases e
   rw [if_pos rfl, if_pos rfl]
   exact ⟨v, rfl, h⟩
  ·rename_i ij
   rw [if_neg ij, if_neg ij]
   exact k.slot j s e
 own := fun a h => k.own a (by
  rcases List.mem_or_eq_of_mem_set h with h | h
  ·exact h
  ·cases h)
 inj := fun j l a e1 e2 => by
  rw [List.getElem?_set] at e1 e2
  split at e1
  ·split at e1 <;> cases e1
  ·split at e2
   ·split at e2 <;> cases e2
   ·exact k.inj j l a e1 e2
 olen := by rw [List.length_set, List.length_set, k.olen]
 slen := by rw [List.length_set, List.length_set, k.slen]
theorem Ok.here (k : Ok K mg P0 H0 P Os H M st env) {a : Addr} (h : some a ∈ Os) : H a ≠ none := k.hk.here a (k.own a h).1
theorem Ok.mine {a : Addr} {vs : List V} {ds : List D} (k0 : Ok K mg P0 H0 P Os H M st env) (l : LtE P H P' H') (hk : Hk K mg P' H' M') (hi : i < env.length) (ha : H a = none) (ba : P'.bd a) (nc : ∀ j, j < P'.n → P'.io j ≠ a) (e : H' a = some (.lst vs)) (h : Iss K P' H' ds vs) :
  Ok K mg P0 H0 P' (Os.set i (some a)) H' M' (st.set i (some (.ref a))) (env.set i (.own ds)) := by
 have k := k0.next l hk
 have nO : ∀ j, Os[j]? ≠ some (some a) := fun j z => k0.here (List.mem_of_getElem? z) ha
 exact {
  hk := k.hk
  base := k.base
  b0 := k.b0
  slot := fun j s e' => by
   rw [set_join _ _ _ _ (by rw [k.olen]; exact hi), set_join _ _ _ _ (by rw [k.slen]; exact hi)]
   rw [List.getElem?_set] at e'
   split at e'
   ·rename_i ij
    subst ij
    cases e'
    rw [if_pos rfl, if_pos rfl]
    exact ⟨a, vs, rfl, rfl, e, h⟩
   ·rename_i ij
    rw [if_neg ij, if_neg ij]
    exact k.slot j s e'
  own := fun b hb => by
   rcases List.mem_or_eq_of_mem_set hb with hb | hb
   ·exact k.own b hb
   ·cases hb
    exact ⟨ba, nc, k0.base.sure a ha⟩
  inj := fun j l b e1 e2 => by
   rw [List.getElem?_set] at e1 e2
   split at e1
   ·split at e1
    ·cases e1
     split at e2
     ·rename_i z1 _ z2; exact z1.symm.trans z2
     ·exact absurd e2 (nO l)
    ·cases e1
   ·split at e2
    ·split at e2
     ·cases e2; exact absurd e1 (nO j)
     ·cases e2
    ·exact k.inj j l b e1 e2
  olen := by rw [List.length_set, List.length_set, k.olen]
  slen := by rw [List.length_set, List.length_set, k.slen] }
theorem lt_chg {a : Addr} {o o' : HO} (b : P.bd a) (e : H a = some o) (nf : ¬ Fx o) : Lt P H P (upd H a o') := ⟨Nat.le_refl _, fun _ _ => rfl, fun _ z => .inl z, fun c u ec z => by
  by_cases h : c = a
  ·subst h
   rw [e] at ec
   cases ec
   exact (z.elim nf fun n => n b).elim
  ·rw [upd_ne h]; exact ec, fun c z => by
  by_cases h : c = a
  ·subst h; rw [upd_same] at z; cases z
  ·rw [upd_ne h] at z; exact z⟩
theorem nf_lst {vs : List V} : ¬ Fx (.lst vs) := fun z => by rcases z with ⟨_, z⟩ | ⟨_, _, z⟩ | ⟨_, z⟩ | ⟨_, z⟩ <;> cases z
theorem CellOk.lt {a : Addr} {c : Cl} (l : Lt P H P' H') (e : ∀ o, H a = some o → H' a = some o) (h : CellOk K mg P H a c) : CellOk K mg P' H' a c := by
  cases c with
  | lst ds =>
    obtain ⟨vs, e1, q⟩ := h
    exact ⟨vs, e _ e1, Iss.lt l q⟩
  | obj c fs =>
    obtain ⟨C, dx, gs, e1, e2, e3, q⟩ := h
    exact ⟨C, dx, gs, e1, e _ e2, e3, Iss.lt l q⟩
  | dct kvs =>
    obtain ⟨vs, e1, e2, q⟩ := h
    exact ⟨vs, e _ e1, e2, Iss.lt l q⟩
theorem Ok.chg {a : Addr} {vs vs' : List V} {ds ds' : List D} (k : Ok K mg P0 H0 P Os H M st env) (hi : env[i]? = some (.own ds)) (ho : Os[i]? = some (some a)) (e : H a = some (.lst vs)) (h : Iss K P H ds' vs') :
    Lt P H P (upd H a (.lst vs')) ∧ Ok K mg P0 H0 P Os (upd H a (.lst vs')) M st (env.set i (.own ds')) := by
  obtain ⟨b1, b2, b3⟩ := k.own a (List.mem_of_getElem? ho)
  have l : Lt P H P (upd H a (.lst vs')) := lt_chg b1 e nf_lst
  have ilt : i < env.length := (List.getElem?_eq_some_iff.mp hi).1
  refine ⟨l, ?_⟩
  exact {
    hk := ⟨k.hk.n, fun j c ej => (k.hk.cell j c ej).lt l fun o eo => by rw [upd_ne (b2 j (by rw [k.hk.n]; exact (List.getElem?_eq_some_iff.mp ej).1))]; exact eo, k.hk.inj, k.hk.bd, fun c z q => k.hk.here c z (l.sure c q)⟩
    base := ⟨k.base.n, k.base.io, k.base.bd, k.base.bm, fun c o ec n => by
      have := k.base.keep c o ec n
      rw [upd_ne (fun z => by subst z; rw [b3] at ec; cases ec)]
      exact this, fun c z => k.base.sure c (l.sure c z), k.base.nw⟩
    b0 := k.b0
    slot := fun j s ej => by
      rw [List.getElem?_set] at ej
      split at ej
      · rename_i ij
        subst ij
        cases ej
        obtain ⟨a', vs0, e1, e2, e3, q⟩ := k.slot i _ hi
        rw [ho] at e1
        cases e1
        exact ⟨a, vs', by rw [ho]; rfl, e2, upd_same, Iss.lt l h⟩
      · rename_i ij
        have q := k.slot j s ej
        cases s with
        | un => exact True.intro
        | val d => obtain ⟨v, e1, q⟩ := q; exact ⟨v, e1, Is.lt l q⟩
        | own es =>
          obtain ⟨a', ws, e1, e2, e3, q⟩ := q
          refine ⟨a', ws, e1, e2, ?_, Iss.lt l q⟩
          rw [upd_ne (fun z => ij (k.inj i j a ho (by rw [← z]; exact join_get e1)))]
          exact e3
        | exc c n => obtain ⟨v, e1, q⟩ := q; exact ⟨v, e1, q.lt l⟩
    own := k.own
    inj := k.inj
    olen := by rw [List.length_set, k.olen]
    slen := by rw [List.length_set, k.slen] }
theorem Hk.set {j : Nat} {c c' : Cl} {o' : HO} (h : Hk K mg P H M) (e : M[j]? = some c) (w : CellOk K mg P (upd H (P.io j) o') (P.io j) c') : Lt P H P (upd H (P.io j) o') ∧ LtE P H P (upd H (P.io j) o') ∧ Hk K mg P (upd H (P.io j) o') (M.set j c') := by
 have jl : j < P.n := by rw [h.n]; exact (List.getElem?_eq_some_iff.mp e).1
 obtain ⟨o, eo, nf⟩ := h.cellAt jl
 have l : Lt P H P (upd H (P.io j) o') := lt_chg (h.bd j jl) eo nf
 refine ⟨l, ⟨Nat.le_refl _, fun _ _ => rfl, fun _ z => .inl z, fun _ z => z, fun a u ea n => by rw [upd_ne (fun z => n j jl z.symm)]; exact ea, l.sure, fun k h1 h2 => absurd h1 (Nat.not_le.mpr h2)⟩, ⟨by rw [List.length_set, h.n], fun k b ek => ?_, h.inj, h.bd, fun a z q => h.here a z (l.sure a q)⟩⟩
 rw [List.getElem?_set] at ek
 split at ek
 ·rename_i jk
  subst jk
  rw [if_pos (by rw [← h.n]; exact jl)] at ek
  cases ek
  exact w
 ·rename_i jk
  have kl : k < P.n := by rw [h.n]; exact (List.getElem?_eq_some_iff.mp ek).1
  exact (h.cell k b ek).lt l fun u eu => by rw [upd_ne (fun z => jk (h.inj j k jl kl z.symm))]; exact eu
theorem Ok.frz {ds : List D} (k : Ok K mg P0 H0 P Os H M st env) (hi : env[i]? = some (.own ds)) : ∃ P' Os', Lt P H P' H ∧ Ok K mg P0 H0 P' Os' H M st (env.set i (.val (.lst ds))) := by
 obtain ⟨a, vs, e1, e2, e3, q⟩ := k.slot i _ hi
 have ho := join_get e1
 obtain ⟨b1, b2, b3⟩ := k.own a (List.mem_of_getElem? ho)
 have ilt : i < env.length := (List.getElem?_eq_some_iff.mp hi).1
 have nO : ∀ b, some b ∈ Os.set i none → some b ∈ Os ∧ b ≠ a := fun b z => by
  obtain ⟨j, hj⟩ := List.mem_iff_getElem?.mp z
  rw [List.getElem?_set] at hj
  split at hj
  ·split at hj <;> cases hj
  ·rename_i ij
   exact ⟨List.mem_of_getElem? hj, fun z => by subst z; exact ij (k.inj i j b ho hj)⟩
 have l : Lt P H (P.less (· ≠ a)) H := ⟨Nat.le_refl _, fun _ _ => rfl, fun c z => .inl z.1, fun _ _ e _ => e, fun _ z => z⟩
 refine ⟨P.less (· ≠ a), Os.set i none, l, {
  hk := ⟨k.hk.n, fun j c ej => (k.hk.cell j c ej).lt l fun _ z => z, k.hk.inj, fun j hj => ⟨k.hk.bd j hj, b2 j hj⟩, fun c z => k.hk.here c z.1⟩
  base := ⟨k.base.n, k.base.io, fun c z => k.base.bd c z.1, fun c z => ⟨k.base.bm c z, fun q => k.b0 c z (q ▸ b3)⟩, k.base.keep, k.base.sure, k.base.nw⟩
  b0 := k.b0
  slot := fun j s ej => ?_
  own := fun c z => ?_
  inj := fun j l b z1 z2 => ?_
  olen := by rw [List.length_set, List.length_set, k.olen]
  slen := by rw [List.length_set, k.slen] }⟩
 ·rw [set_join _ _ _ _ (by rw [k.olen]; exact ilt)]
  rw [List.getElem?_set] at ej
  split at ej
  ·rename_i ij
   subst ij
   cases ej
   exact ⟨.ref a, e2, a, vs, rfl, .inl ⟨fun z => z.2 rfl, .inl e3⟩, Iss.less q⟩
  ·rename_i ij
   rw [if_neg ij]
   have q := k.slot j s ej
   cases s with
   | un => exact True.intro
   | val d => obtain ⟨v, e1, q⟩ := q; exact ⟨v, e1, Is.less q⟩
   | own es => obtain ⟨a', ws, e1, e2, e3, q⟩ := q; exact ⟨a', ws, e1, e2, e3, Iss.less q⟩
   | exc c n => obtain ⟨v, e1, q⟩ := q; exact ⟨v, e1, q.lt l⟩
 ·obtain ⟨z1, z2⟩ := nO c z
  obtain ⟨c1, c2, c3⟩ := k.own c z1
  exact ⟨⟨c1, z2⟩, c2, c3⟩
 ·rw [List.getElem?_set] at z1 z2
  split at z1
  ·split at z1 <;> cases z1
  ·split at z2
   ·split at z2 <;> cases z2
   ·exact k.inj j l b z1 z2
end
end E3
namespace E3
open PySem PySem.Spec PyProof.Rows L2
section
variable {X : Cx} {Wx : XW} {pos : Pos}
theorem ps_imp {s : Stmt} {t t' : TS} (h : PS X s t) (w : ∀ D σ H, t' D σ H → t D σ H) : PS X s t' := fun pins s σ H D I hw => h pins s σ H D I (w D σ H hw)
theorem pss_imp {s : List Stmt} {t t' : TS} (h : PSs X s t) (w : ∀ D σ H, t' D σ H → t D σ H) : PSs X s t' := fun pins s σ H D I hw => h pins s σ H D I (w D σ H hw)
def sEnd : S := fun env M => some (.nx env, M)
def sSeq (f g : S) : S := fun env M => match f env M with
 | some (.nx e, M1) => g e M1
 | o => o
theorem sb_nil : SB X Wx [] sEnd := by
 refine pss_imp pss_nil ?_
 rintro D st H ⟨P0, H0, P, Os, env, M, out, M', k, e, q⟩
 cases e
 exact q P Os H st (Lt.refl P H) k
theorem Post.lt {K : PySem.W.Frag} {mg : Str → Option Value} {P0 P P1 : Pl} {H0 H H1 : Hp} {M' : Mm} {D : Ends} {o : Out} (l : Lt P H P1 H1) (q : Post K mg Wx P0 H0 P H M' D o) : Post K mg Wx P0 H0 P1 H1 M' D o := by
 cases o with
 | nx env => exact fun P' Os' H' st' l' k => q P' Os' H' st' (l.trans l') k
 | bk env => exact fun P' Os' H' st' l' k => q P' Os' H' st' (l.trans l') k
 | ct env => exact fun P' Os' H' st' l' k => q P' Os' H' st' (l.trans l') k
 | rt d => exact q
 | ex c n => exact q
theorem sb_cons {s : Stmt} {ss : List Stmt} {f g : S} (h1 : SS X Wx s f) (h2 : SB X Wx ss g) : SB X Wx (s :: ss) (sSeq f g) := by
  refine pss_imp (pss_cons h1 h2) ?_
  rintro D st H ⟨P0, H0, P, Os, env, M, out, M', k, e, q⟩
  unfold sSeq at e
  split at e
  · rename_i e1 M1 ef
    refine ⟨P0, H0, P, Os, env, M, _, _, k, ef, fun P1 Os1 H1 st1 l1 k1 => ?_⟩
    exact ⟨P0, H0, P1, Os1, e1, M1, _, _, k1, e, q.lt l1⟩
  · rename_i o ho
    cases ef : f env M with
    | none => rw [ef] at e; cases e
    | some om =>
      obtain ⟨o1, M1⟩ := om
      rw [ef] at e
      cases e
      refine ⟨P0, H0, P, Os, env, M, _, _, k, ef, ?_⟩
      cases out with
      | nx env' => exact (ho _ _ ef).elim
      | bk env' => exact q
      | ct env' => exact q
      | rt d => exact q
      | ex c n => exact q
def sAsg (i : Nat) (f : E) : S := fun env M => bndS (f env M) fun d M1 => if i < env.length then some (.nx (env.set i (.val d)), M1) else none
theorem ss_asg {i : Nat} {x : Str} {e : Expr} {f : E} {pos' : Pos} (hN : X.N.Nodup) (hi : X.N[i]? = some x) (hx : Loc X.env.scope x) (he : SE X Wx .val e f) (hs : swapsWith e (some (.Name x pos')) pos.line X.env = pure false := by rfl)
  (hf : X.fn x = true ∨ X.env.scope.names.lookup x = some .local := by first | exact .inl rfl | exact .inr rfl) : SS X Wx (.Assign [.Name x pos'] e pos) (sAsg i f) := by
 refine ps_imp (ps_set hN hi hx he hs hf) ?_
 rintro D st H ⟨P0, H0, P, Os, env, M, out, M', k, e, q⟩
 unfold sAsg at e
 rcases bndS_inv e with ⟨d, M1, e1, e⟩ | ⟨c, n, e1, rfl⟩
 ·split at e
  ·rename_i hl
   cases e
   exact ⟨P0, H0, P, Os, env, M, _, _, k, e1, fun P1 v1 H1 l1 h1 i1 => q _ _ _ _ (l1.lt k.hk) ((k.next l1 h1).asg hl i1)⟩
  ·cases e
 ·exact ⟨P0, H0, P, Os, env, M, _, _, k, e1, q⟩
def sMine (i : Nat) (f : E) : S := fun env M => bndS (f env M) fun d M1 => match d with
 | .lst ds => if i < env.length then some (.nx (env.set i (.own ds)), M1) else none
 | _ => none
theorem ss_mine {i : Nat} {x : Str} {e : Expr} {f : E} {pos' : Pos} (hN : X.N.Nodup) (hi : X.N[i]? = some x) (hx : Loc X.env.scope x) (he : SN X Wx e f) (hs : swapsWith e (some (.Name x pos')) pos.line X.env = pure false := by rfl)
  (hf : X.fn x = true ∨ X.env.scope.names.lookup x = some .local := by first | exact .inl rfl | exact .inr rfl) : SS X Wx (.Assign [.Name x pos'] e pos) (sMine i f) := by
 refine ps_imp (ps_set hN hi hx he hs hf) ?_
 rintro D st H ⟨P0, H0, P, Os, env, M, out, M', k, e, q⟩
 unfold sMine at e
 rcases bndS_inv e with ⟨d, M1, e1, e⟩ | ⟨c, n, e1, rfl⟩
 ·cases d <;> simp only [reduceCtorEq] at e
  rename_i ds
  split at e
  ·rename_i hl
   cases e
   exact ⟨P0, H0, P, Os, env, M, _, _, k, e1, ds, rfl, fun P1 a vs H1 l1 h1 ha ba nc ea is => q _ _ _ _ (l1.lt k.hk) (k.mine l1 h1 hl ha ba nc ea is)⟩
  ·cases e
 ·exact ⟨P0, H0, P, Os, env, M, _, _, k, e1, q⟩
def sRet (f : E) : S := fun env M => bndS (f env M) fun d M1 => some (.rt d, M1)
theorem ss_ret {e : Expr} {f : E} (he : SE X Wx .val e f) : SS X Wx (.Return (some e) pos) (sRet f) := by
 refine ps_imp (ps_ret he) ?_
 rintro D st H ⟨P0, H0, P, Os, env, M, out, M', k, e, q⟩
 unfold sRet at e
 rcases bndS_inv e with ⟨d, M1, e1, e⟩ | ⟨c, n, e1, rfl⟩
 ·cases e
  exact ⟨P0, H0, P, Os, env, M, _, _, k, e1, fun P1 v1 H1 l1 h1 i1 => q P1 v1 H1 (k.base.trans l1) h1 i1⟩
 ·exact ⟨P0, H0, P, Os, env, M, _, _, k, e1, q⟩
def sDrop (f : E) : S := fun env M => bndS (f env M) fun _ M1 => some (.nx env, M1)
def sIf (c : E) (f g : S) : S := fun env M => bndS (c env M) fun d M1 => match d with
 | .bl b => if b = true then f env M1 else g env M1
 | _ => none
theorem ss_if {c : Expr} {a b : List Stmt} {t : E} {f g : S} (hc : ST X Wx c t) (ha : SB X Wx a f) (hb : SB X Wx b g) : SS X Wx (.If c a b pos) (sIf t f g) := by
  refine ps_imp (ps_if hc ha hb) ?_
  rintro D st H ⟨P0, H0, P, Os, env, M, out, M', k, e, q⟩
  unfold sIf at e
  rcases bndS_inv e with ⟨d, M1, e1, e⟩ | ⟨c, n, e1, rfl⟩
  · cases d <;> simp only [reduceCtorEq] at e
    rename_i b
    refine tTt_go k e1 ⟨b, rfl, fun P1 H1 l1 h1 => ?_⟩
    cases b with
    | true =>
      rw [if_pos rfl] at e ⊢
      exact ⟨P0, H0, P1, Os, env, M1, _, _, k.next l1 h1, e, q.lt (l1.lt k.hk)⟩
    | false =>
      rw [if_neg (by decide)] at e ⊢
      exact ⟨P0, H0, P1, Os, env, M1, _, _, k.next l1 h1, e, q.lt (l1.lt k.hk)⟩
  · exact tTt_go k e1 q
def sFrz (i : Nat) : S := fun env M => match env[i]? with
 | some (.own ds) => some (.nx (env.set i (.val (.lst ds))), M)
 | _ => none
theorem sb_frz {ss : List Stmt} {i : Nat} {g : S} (h : SB X Wx ss g) : SB X Wx ss (sSeq (sFrz i) g) := by
 refine pss_imp h ?_
 rintro D st H ⟨P0, H0, P, Os, env, M, out, M', k, e, q⟩
 unfold sSeq sFrz at e
 split at e
 ·rename_i e1 M1 ef
  split at ef
  ·rename_i ds es
   cases ef
   obtain ⟨P1, Os1, l1, k1⟩ := k.frz es
   exact ⟨P0, H0, P1, Os1, _, _, _, _, k1, e, q.lt l1⟩
  ·cases ef
 ·rename_i ho
  split at e
  ·rename_i es
   exact (ho _ _ (by rw [es])).elim
  ·cases e
def sApp (i : Nat) (f : E) : S := fun env M => match env[i]? with
 | some (.own ds) => bndS (f env M) fun d M1 => if ds.length < sizeLine then some (.nx (env.set i (.own (ds ++ [d]))), M1) else none
 | _ => none
theorem ss_app {i : Nat} {x : Str} {e : Expr} {f : E} {p0 p q : Pos} (hN : X.N[i]? = some x) (hv : Vis X.env.scope x) (he : SE X Wx .val e f) (hd : (x == ("__debug__" : Str)) = false := by decide +kernel) (hcd : (x == ("__classdict__" : Str)) = false := by decide +kernel)
  (hfew : ((backTo q (starEach [e] X.env)).all (fun x => !x.1) && (backToKw q (keywordEach [] X.env)).all (fun x => x.1.isSome) && decide ([e].length + ([] : List Keyword).length + (if ([] : List Keyword).isEmpty then 0 else 1) < 30)) = true := by rfl)
  (hline : (p.endLine == q.line) = true := by rfl) (hs : starEach [e] X.env = (false, eval e X.env) :: starEach [] X.env := by rfl) (hw : swapsWith (.Call (.Attribute (.Name x p0) "append" p) [e] [] q) none pos.line X.env = pure false := by rfl) :
  SS X Wx (.Expr (.Call (.Attribute (.Name x p0) "append" p) [e] [] q) pos) (sApp i f) := by
 refine ps_imp (ps_expr (pe_bm PySem.F.plainAttrs_list PySem.F.slot_list_append PySem.F.type_list_append mt_append (pe_var hN hv hd hcd) (pa_cons he pa_nil hs) rfl hfew hline hs rfl) hw) ?_
 rintro D st H ⟨P0, H0, P, Os, env, M, out, M', k, e, q⟩
 unfold sApp at e
 split at e
 ·rename_i ds es
  obtain ⟨a, vs, o1, o2, o3, o4⟩ := k.slot i _ es
  refine ⟨.ref a, join_get o2, .inl ⟨rfl, vs, .inl (.inl o3)⟩, ?_⟩
  rcases bndS_inv e with ⟨d, M1, e1, e⟩ | ⟨c, n, e1, rfl⟩
  ·split at e
   ·rename_i hz
    cases e
    refine tE_go k e1 fun P1 v1 H1 l1 h1 i1 => ?_
    have k1 := k.next l1 h1
    obtain ⟨a', vs', o1', o2', o3', o4'⟩ := k1.slot i _ es
    have ea : a' = a := by
     have z := o2'.symm.trans o2
     cases z
     rfl
    subst ea
    refine ⟨a', vs', v1, rfl, rfl, o3', by rw [o4'.len]; exact hz, ?_⟩
    obtain ⟨l2, k2⟩ := k1.chg es (join_get o1') o3' (Iss.append o4' (Iss.one i1))
    exact q _ _ _ _ ((l1.lt k.hk).trans l2) k2
   ·cases e
  ·exact tE_go k e1 q
 ·cases e
def Wk (K : PySem.W.Frag) (P1 : Pl) (H1 : Hp) (J : It) (ds : List D) : Prop := ∀ P H, Lt P1 H1 P H → (∀ k, k < ds.length → J.go k H) ∧ (∀ k, ds.length ≤ k → k ≤ ds.length → J.stop k H) ∧ ∀ k x H', J.yld k H x H' → k < ds.length → H' = H ∧ ∃ d, ds[k]? = some d ∧ Is K P H d x
def IQ (K : PySem.W.Frag) (mg : Str → Option Value) (Wx : XW) (P0 : Pl) (H0 : Hp) (P : Pl) (H : Hp) (M' : Mm) (R : It → Hp → Prop) : ResA → Prop
 | .v ds => ∀ P' H' J, LtE P H P' H' → Hk K mg P' H' M' → Wk K P' H' J ds → R J H'
 | .x c n => Wx P0 H0 M' c n
def tI (K : PySem.W.Frag) (mg : Str → Option Value) (Wx : XW) (fs : EA) : TI := fun st H R => ∃ P0 H0 P Os env M r M', Ok K mg P0 H0 P Os H M st env ∧ fs env M = some (r, M') ∧ IQ K mg Wx P0 H0 P H M' R r
def SI (X : Cx) (Wx : XW) (tg iter : Expr) (fs : EA) : Prop := PI X tg iter (tI X.K X.mg Wx fs)
theorem pi_imp {tg iter : Expr} {t t' : TI} (h : PI X tg iter t) (w : ∀ σ H R, t' σ H R → t σ H R) : PI X tg iter t' := fun pins s σ H R I hw => h pins s σ H R I (w σ H R hw)
def loopS (i : Nat) (body : S) : List D → Env → Mm → OS
  | [], env, M => some (.nx env, M)
  | d :: ds, env, M => if i < env.length then (match body (env.set i (.val d)) M with
    | some (.nx e, M1) => loopS i body ds e M1
    | some (.ct e, M1) => loopS i body ds e M1
    | some (.bk e, M1) => some (.nx e, M1)
    | some (.rt d, M1) => some (.rt d, M1)
    | some (.ex c n, M1) => some (.ex c n, M1)
    | none => none) else none
def sFor (i : Nat) (fs : EA) (body : S) : S := fun env M => match fs env M with
 | some (.v ds, M1) => loopS i body ds env M1
 | some (.x c n, M1) => some (.ex c n, M1)
 | none => none
theorem loop_read {K : PySem.W.Frag} {mg : Str → Option Value} {P0 P1 : Pl} {H0 H1 : Hp} {Os : List (Option Addr)} {M M' : Mm} {st : L2.St} {env : Env} {i : Nat} {b : S} {J : It} {ds : List D} {out : Out} {D : Ends} (k : Ok K mg P0 H0 P1 Os H1 M st env) (wk : Wk K P1 H1 J ds)
  (h : loopS i b ds env M = some (out, M')) (q : Post K mg Wx P0 H0 P1 H1 M' D out) :
  ∃ W : Nat → Nat → L2.St → Hp → Prop, (∃ m, W 0 m st H1) ∧ ∀ j m σ H, W j m σ H →
   (J.stop j H ∧ D.nx σ H) ∨ (J.go j H ∧ ∃ Nn : L2.St → Hp → Prop, (∀ σ' H', Nn σ' H' → ∃ m', m' < m ∧ W (j + 1) m' σ' H') ∧ ∀ x H', J.yld j H x H' → gName i x σ H' fun σ2 H2 => tS K mg Wx b { D with nx := Nn, ct := Nn, bk := D.nx } σ2 H2) := by
 refine ⟨fun j m σ H => m = ds.length - j ∧ j ≤ ds.length ∧ ∃ P Os' M1 env', Lt P1 H1 P H ∧ Ok K mg P0 H0 P Os' H M1 σ env' ∧ loopS i b (ds.drop j) env' M1 = some (out, M'), ⟨ds.length, by simp, Nat.zero_le _, P1, Os, M, env, Lt.refl _ _, k, h⟩, ?_⟩
 rintro j m σ H ⟨rfl, hj, P, Os', M1, env', lt, k', h'⟩
 obtain ⟨w1, w2, w3⟩ := wk P H lt
 by_cases hlt : j < ds.length
 ·refine .inr ⟨w1 j hlt, fun σ' H' => ∃ P Os' M1 env', Lt P1 H1 P H' ∧ Ok K mg P0 H0 P Os' H' M1 σ' env' ∧ loopS i b (ds.drop (j + 1)) env' M1 = some (out, M'), fun σ' H' z => ⟨ds.length - (j + 1), by omega, rfl, hlt, z⟩, fun x H' y => ?_⟩
  obtain ⟨e3, d, ed, iv⟩ := w3 j x H' y hlt
  subst e3
  have ed' : ds.drop j = d :: ds.drop (j + 1) := by
   rw [List.drop_eq_getElem_cons hlt]
   rw [List.getElem?_eq_getElem hlt] at ed
   rw [Option.some.inj ed]
  rw [ed'] at h'
  simp only [loopS] at h'
  split at h'
  ·rename_i hi
   have k2 := k'.asg hi iv
   split at h'
   ·rename_i e M2 eb
    exact ⟨P0, H0, P, _, _, M1, _, _, k2, eb, fun P' Os2 H2 st2 l2 k3 => ⟨P', Os2, _, e, lt.trans l2, k3, h'⟩⟩
   ·rename_i e M2 eb
    exact ⟨P0, H0, P, _, _, M1, _, _, k2, eb, fun P' Os2 H2 st2 l2 k3 => ⟨P', Os2, _, e, lt.trans l2, k3, h'⟩⟩
   ·rename_i e M2 eb
    cases h'
    exact ⟨P0, H0, P, _, _, M1, _, _, k2, eb, fun P' Os2 H2 st2 l2 k3 => q P' Os2 H2 st2 (lt.trans l2) k3⟩
   ·rename_i e M2 eb
    cases h'
    exact ⟨P0, H0, P, _, _, M1, _, _, k2, eb, q⟩
   ·rename_i c n M2 eb
    cases h'
    exact ⟨P0, H0, P, _, _, M1, _, _, k2, eb, q⟩
   ·cases h'
  ·cases h'
 ·have ej : j = ds.length := by omega
  subst ej
  rw [List.drop_length] at h'
  cases h'
  exact .inl ⟨w2 _ (Nat.le_refl _) (Nat.le_refl _), q P Os' H σ lt k'⟩
theorem ss_for {i : Nat} {x : Str} {p : Pos} {iter : Expr} {body : List Stmt} {fs : EA} {b : S} (hp : PassesOwn (model X.prog X.w) X.A X.env X.xe) (hc : X.calm = true) (hN : X.N.Nodup) (hi : X.N[i]? = some x) (hx : Loc X.env.scope x) (hI : SI X Wx (.Name x p) iter fs) (hb : SB X Wx body b)
  (hf : X.fn x = true ∨ X.env.scope.names.lookup x = some .local := by first | exact .inl rfl | exact .inr rfl) (hs : ∀ x, foldedSetIterable iter X.env x = pure x := by intro _; rfl) : SS X Wx (.For (.Name x p) iter body [] pos) (sFor i fs b) := by
 refine ps_imp (ps_for hp hc hI (pg_name hN hi hx hf) hb hs) ?_
 rintro D st H ⟨P0, H0, P, Os, env, M, out, M', k, e, q⟩
 unfold sFor at e
 split at e
 ·rename_i ds M1 ef
  exact ⟨P0, H0, P, Os, env, M, _, _, k, ef, fun P1 H1 J l1 h1 wk => loop_read (k.next l1 h1) wk e (q.lt (l1.lt k.hk))⟩
 ·rename_i c n M1 ef
  cases e
  exact ⟨P0, H0, P, Os, env, M, _, _, k, ef, q⟩
 ·cases e
def iLst (f : E) : EA := fun env M => match f env M with
 | some (.v (.lst ds), M1) => some (.v ds, M1)
 | some (.x c n, M1) => some (.x c n, M1)
 | _ => none
theorem si_lst {tg e : Expr} {f : E} (h : SE X Wx .val e f) : SI X Wx tg e (iLst f) := by
 refine pi_imp (pi_list h) ?_
 rintro st H R ⟨P0, H0, P, Os, env, M, r, M', k, e, q⟩
 unfold iLst at e
 split at e
 ·rename_i ds M1 ef
  cases e
  refine ⟨P0, H0, P, Os, env, M, _, _, k, ef, fun P1 v1 H1 l1 h1 i1 => ?_⟩
  obtain ⟨a, vs, rfl, ra, is⟩ := i1
  refine ⟨a, rfl, ⟨vs, ra.imp (·.2) id⟩, q P1 H1 _ l1 h1 fun P2 H2 l2 => ?_⟩
  have ra2 := l2.rda ra
  have is2 := Iss.lt l2 is
  have sq : SqL X.K H2 a vs := ra2.imp (·.2) id
  refine ⟨fun j hj => ?_, fun j h1 h2 => ⟨vs, sq, by rw [is2.len]; exact h1⟩, fun j x H' y hj => ⟨y.1, ?_⟩⟩
  ·obtain ⟨v, ev, _⟩ := Iss.get is2 (List.getElem?_eq_getElem hj)
   exact ⟨vs, v, sq, ev⟩
  ·obtain ⟨v, ev, iv⟩ := Iss.get is2 (List.getElem?_eq_getElem hj)
   have := y.2 vs sq
   rw [ev] at this
   cases this
   exact ⟨_, List.getElem?_eq_getElem hj, iv⟩
 ·rename_i c n M1 ef
  cases e
  exact ⟨P0, H0, P, Os, env, M, _, _, k, ef, q⟩
 ·cases e
end
end E3
namespace E3
open PySem PySem.Spec PyProof.Rows L2
abbrev G := List D → Mm → O
def spG (K : PySem.W.Frag) (mg : Str → Option Value) (n : Nat) (g : G) : Sp := fun vs H Q _ => vs.length = n ∧ ∃ P M ds d M', Hk K mg P H M ∧ Iss K P H ds vs ∧ g ds M = some (.v d, M') ∧ ∀ P' v H', LtE P H P' H' → Hk K mg P' H' M' → Is K P' H' d v → Q v H'
def endS (o : OS) : O := match o with
 | some (.rt d, M) => some (.v d, M)
 | some (.nx _, M) => some (.v .non, M)
 | some (.ex c n, M) => some (.x c n, M)
 | _ => none
def fnG (n : Nat) (b : S) : G := fun ds M => endS (b (ds.map .val ++ List.replicate (n - ds.length) .un) M)
theorem start_ok {K : PySem.W.Frag} {mg : Str → Option Value} {P : Pl} {H : Hp} {M : Mm} {N : List Str} {ds : List D} {vs : List V} (hk : Hk K mg P H M) (hl : vs.length ≤ N.length) (h : Iss K P H ds vs) :
  Ok K mg P H P (List.replicate N.length none) H M (L2.start N vs) (ds.map .val ++ List.replicate (N.length - ds.length) .un) := by
 have hd := h.len
 refine ⟨hk, LtE.refl P H, hk.here, fun i s e => ?_, fun a z => ?_, fun i j a e1 _ => ?_, by simp; omega, by simp [L2.start]; omega⟩
 ·have e0 : ((List.replicate N.length (none : Option Addr))[i]?).join = none := by
   rw [List.getElem?_replicate]
   split <;> rfl
  rw [e0]
  by_cases hi : i < ds.length
  ·rw [List.getElem?_append_left (by simpa using hi), List.getElem?_map, List.getElem?_eq_getElem hi] at e
   simp only [Option.map_some, Option.some.injEq] at e
   subst e
   obtain ⟨v, ev, p⟩ := h.get (List.getElem?_eq_getElem hi)
   refine ⟨v, ?_, p⟩
   unfold L2.start
   rw [List.getElem?_append_left (by rw [List.length_map]; omega), List.getElem?_map, ev]
   rfl
  ·rw [List.getElem?_append_right (by simpa using hi), List.getElem?_replicate] at e
   split at e
   ·cases e; exact True.intro
   ·cases e
 ·exact absurd (List.eq_of_mem_replicate z) (by simp)
 ·rw [List.getElem?_replicate] at e1
  split at e1 <;> cases e1
structure FunD (K : PySem.W.Frag) (x qual : Str) (st : Stmt) (f : Addr) (fd : FuncData) : Prop where
 ex : ∃ (oc : Value) (od : Option Addr) (dV kV doc pm : Value) (an : Option Addr) (cdv ct : Value) (osl : Array (Option Value)),
  fd = PySem.W.fnOf x qual (defArgs st) (defBody st) (defScope st) dV kV doc pm an cdv ct ∧ K.lookup f = some ⟨oc, od, .func fd, osl⟩ ∧ PySem.W.codeIn K cdv qual = true
 kp : PySem.W.keepIn K (.ref f) = true
theorem funD_mk {K : PySem.W.Frag} {x qual : Str} {st : Stmt} {f : Addr} {oc : Value} {od an : Option Addr} {osl : Array (Option Value)} {dV kV doc pm cdv ct : Value} (l : K.lookup f = some ⟨oc, od, .func (PySem.W.fnOf x qual (defArgs st) (defBody st) (defScope st) dV kV doc pm an cdv ct), osl⟩)
  (c : PySem.W.codeIn K cdv qual = true) (k : PySem.W.keepIn K (.ref f) = true) : FunD K x qual st f (PySem.W.fnOf x qual (defArgs st) (defBody st) (defScope st) dV kV doc pm an cdv ct) := ⟨⟨oc, od, dV, kV, doc, pm, an, cdv, ct, osl, rfl, l, c⟩, k⟩
section
variable {P : Program} {w : World} {K : PySem.W.Frag} {mg : Str → Option Value} {base : Heap} {k : Nat} {x qual : Str} {st : Stmt} {f : Addr} {fd : FuncData} {N ps : List Str} {b : S}
def W0 : XW := fun _ _ _ _ _ => False
abbrev cx0 (P : Program) (w : World) (K : PySem.W.Frag) (mg : Str → Option Value) (base : Heap) (N : List Str) (qual : Str) (st : Stmt) (f : Addr) (cdv : Value) (A : Around) (outer : List PySem.Env) (s : Shared) (H : Hp) (E : XK) : Cx := (cxOf CX0 P w K mg base N qual (defScope st) f cdv A outer s H E).nox
theorem fn_run (F : FunD K x qual st f fd) (S : FnScope N ps (defScope st)) (hp : ps.length ≤ N.length)
  (hb : ∀ cdv A outer s H E, Room k (A.deeper (envOfC qual (defScope st) s.heap.objs.size f cdv)) → SB (cx0 P w K mg base N qual st f cdv A outer s H E) W0 (defBody st) b) : FnOk P w K mg base CX0 (k + 1) f fd ps (spG K mg ps.length (fnG N.length b)) := by
 obtain ⟨oc, od, dV, kV, doc, pm, an, cdv, ct, osl, rfl, lk, hcd⟩ := F.ex
 refine fn_of lk hcd S (fun vs H Q E h => h.1) fun A outer s H vs Q E hr h => ?_
 obtain ⟨hl, Pl, M, ds, d, M', hk, is, e, q⟩ := h
 refine ⟨_, PSs.nox (hb cdv A outer s H E hr), ?_⟩
 unfold fnG endS at e
 have st0 := start_ok (N := N) hk (by omega) is
 split at e
 ·rename_i d' M2 eb
  cases e
  exact ⟨Pl, H, Pl, _, _, M, _, _, st0, eb, fun P' v H' l h i => q P' v H' l h i⟩
 ·rename_i env M2 eb
  cases e
  exact ⟨Pl, H, Pl, _, _, M, _, _, st0, eb, fun P' Os' H' st' _ k' => q P' .non H' k'.base k'.hk rfl⟩
 ·rename_i c n M2 eb
  cases e
 ·cases e
def AtG (P : Program) (w : World) (K : PySem.W.Frag) (mg : Str → Option Value) (base : Heap) (k : Nat) (f : Str) (n : Nat) (g : G) : Prop :=
 ∃ fa fd ps ds dvs sp, mg f = some (.ref fa) ∧ PySem.W.keepIn K (.ref fa) = true ∧ FnOk P w K mg base CX0 k fa fd ps sp ∧ Binds K fd ps ds ∧ Vals dvs ds ∧ ∀ vs H Q E, spG K mg n g vs H Q E → sp (vs ++ dvs) H Q E
theorem fn_at (F : FunD K x qual st f fd) (S : FnScope N ps (defScope st)) (hp : ps.length ≤ N.length) (hm : mg x = some (.ref f)) (hd : Binds K fd ps [])
  (hb : ∀ cdv A outer s H E, Room k (A.deeper (envOfC qual (defScope st) s.heap.objs.size f cdv)) → SB (cx0 P w K mg base N qual st f cdv A outer s H E) W0 (defBody st) b) : AtG P w K mg base (k + 1) x ps.length (fnG N.length b) :=
 ⟨f, fd, ps, [], [], _, hm, F.kp, fn_run F S hp hb, hd, .nil, fun vs H Q E h => by rw [List.append_nil]; exact h⟩
theorem AtG.mono {j : Nat} {n : Nat} {g : G} (a : AtG P w K mg base j x n g) (h : j ≤ k) : AtG P w K mg base k x n g := by
 obtain ⟨fa, fd, ps, ds, dvs, sp, h1, h2, h3, h4⟩ := a
 exact ⟨fa, fd, ps, ds, dvs, sp, h1, h2, h3.mono h, h4⟩
end
section
variable {X : Cx} {Wx : XW} {m : Mode}
def sCall (g : G) (fs : EA) : E := fun env M => bndA (fs env M) fun ds M1 => match g ds M1 with
 | some (.v d, M2) => some (.v d, M2)
 | _ => none
theorem AllM.len {K : PySem.W.Frag} {P : Pl} {H : Hp} : ∀ {ds : List D} {vs : List V}, AllM K P H m ds vs → vs.length = ds.length
  | [], _, h => by rw [show _ = [] from h]; rfl
  | d :: ds, _, h => by
    obtain ⟨v, r, e, _, q⟩ := h
    subst e
    simp [AllM.len q]
def Cnt (n : Nat) (fs : EA) : Prop := ∀ env M ds M', fs env M = some (.v ds, M') → ds.length = n
theorem cnt_nil : Cnt 0 sNil := fun env M ds M' e => by cases e; rfl
theorem cnt_cons {n : Nat} {f : E} {fs : EA} (h : Cnt n fs) : Cnt (n + 1) (sCons f fs) := fun env M ds M' e => by
 unfold sCons at e
 split at e
 ·split at e
  ·rename_i ef
   cases e
   rw [List.length_cons, h _ _ _ _ ef]
  ·cases e
  ·cases e
 ·cases e
 ·cases e
theorem se_call {k n : Nat} {f : Str} {g : G} {e : Expr} {es : List Expr} {fs : EA} {p pos : Pos} (a : AtG X.prog X.w X.K X.mg X.base k f n g) (hr : Room k X.A) (hg : Gl X f) (ha : SA X Wx .val (e :: es) fs) (hn : Cnt n fs) (hdb : (f == ("__debug__" : Str)) = false := by decide +kernel)
  (he : starEach (e :: es) X.env = (false, eval e X.env) :: starEach es X.env := by rfl) (hpl : (backTo pos (starEach es X.env)).any (·.1) = false := by rfl) : SE X Wx m (.Call (.Name f p) (e :: es) [] pos) (sCall g fs) := by
 obtain ⟨fa, fd, ps, ds, dvs, sp, hm, hk, F, hb, hv, himp⟩ := a
 refine pe_imp (pe_call F hr hg hm hk hb hv pass0 ha hdb he hpl) ?_
 rintro st H Q ⟨P0, H0, P, Os, env, M, r, M', k, e, q⟩
 unfold sCall at e
 rcases bndA_inv e with ⟨ds, M1, e1, e⟩ | ⟨c, n, e1, rfl⟩
 ·split at e
  ·rename_i d M2 eg
   cases e
   exact ⟨P0, H0, P, Os, env, M, _, _, k, e1, fun P1 vs H1 l1 h1 i1 => himp _ _ _ _ ⟨by rw [i1.len]; exact hn _ _ _ _ e1, P1, M1, ds, d, _, h1, i1.iss, eg, fun P2 v H2 l2 h2 i2 => q P2 v H2 (l1.trans l2) h2 (IsM.of h2 i2)⟩⟩
  ·cases e
 ·exact ⟨P0, H0, P, Os, env, M, _, _, k, e1, q⟩
end
end E3
namespace E3
open PySem PySem.Spec PyProof.Rows L2
def CMulB (i j : Int) : Prop := CMul i j ∨ (i.natAbs.log2 < 10000 ∧ j.natAbs.log2 < 10000)
theorem bits_log {i : Int} (h : i.natAbs.log2 < 10000) : Builtin.Int.intBits i ≤ 10001 := by
 unfold Builtin.Int.intBits
 split <;> omega
theorem CMulB.ok {i j : Int} (h : CMulB i j) : IntMulOk i j := by
 rcases h with h | ⟨h1, h2⟩
 ·exact h.ok
 ·exact mulOk_of_bits (bits_log h1) (bits_log h2) (by decide)
theorem op_mulB {X : Cx} : OpR X (binaryOp .Mult) (rI CMulB fun i j => .int (i * j)) := opI fun _ _ _ _ _ _ _ hc q => mul_int q hc.ok
section
variable {X : Cx} {pins : List (Addr × Obj)} {σ : L2.St} {H : Hp} {s : Shared} {K : PySem.W.Frag}
def rCatR (K : PySem.W.Frag) : R2 := fun x y H Q => ∃ l b xs zs, x = .ref l ∧ y = .ref b ∧ SqL K H l xs ∧ SqL K H b zs ∧ xs.length + zs.length ≤ sizeLine ∧ ∀ p, H p = none → Q (.ref p) (upd H p (.lst (xs ++ zs)))
theorem op_catR : OpR X (binaryOp .Add) (rCatR X.K) := by
 intro pins s σ H x y v u Q I rx ry h
 obtain ⟨l, b, xs, zs, rfl, rfl, hH, hB, hz, q⟩ := h
 cases rx
 cases ry
 obtain ⟨z, its, r, ⟨cls, dd, data, sl⟩, ho, hc, n, hd⟩ := sql I hH
 obtain ⟨z2, its2, r2, ⟨cls2, dd2, data2, sl2⟩, ho2, hc2, n2, hd2⟩ := sql I hB
 simp only at hc hd hc2 hd2
 subst hc hd hc2 hd2
 have hl := r.length
 have hl2 := r2.length
 refine concat_meets ⟨_, ho, rfl⟩ ⟨_, ho2, rfl⟩ noFill_list_add seq_list_add F.slot_list_add F.entry_list_add (F.args_list_add_2 _ _) (list_addW l b its.toArray its2.toArray n n2 dd dd2 sl sl2 (by rw [List.size_toArray, List.size_toArray]; omega)) ⟨ho, ho2, ?_⟩
 have ea : its.toArray ++ its2.toArray = (its ++ its2).toArray := by simp
 rw [ea]
 exact ⟨.ref _, _, I.lnew (t' := s.toks) (r.append r2) (by rw [List.length_append]; omega), rfl, q _ I.fresh⟩
theorem new_lst {P : Pl} {H : Hp} {ds : List D} {vs : List V} {Q : VK} (hn : ∀ p, H p = none → ¬ P.bd p) (h : Iss K P H ds vs) (q : ∀ u H', Same H H' → Is K P H' (.lst ds) u → Q u H') : ∀ p, H p = none → Q (.ref p) (upd H p (.lst vs)) := fun p hp => by
 have s := same_new (o := .lst vs) hp
 exact q _ _ s ⟨p, vs, rfl, .inl ⟨hn p hp, .inl upd_same⟩, Iss.lt ⟨Nat.le_refl _, fun _ _ => rfl, fun _ z => .inl z, fun a o e _ => s a o e, fun a z => s.free z⟩ h⟩
theorem new_tup {P : Pl} {H : Hp} {ds : List D} {vs : List V} {Q : VK} (h : Iss K P H ds vs) (q : ∀ u H', Same H H' → Is K P H' (.tup ds) u → Q u H') : ∀ p, H p = none → Q (.ref p) (upd H p (.tup vs)) := fun p hp => by
 have s := same_new (o := .tup vs) hp
 exact q _ _ s ⟨p, vs, rfl, .inl (.inl upd_same), Iss.lt ⟨Nat.le_refl _, fun _ _ => rfl, fun _ z => .inl z, fun a o e _ => s a o e, fun a z => s.free z⟩ h⟩
def oAdd : D → D → Option D
 | .int i, .int j => some (.int (i + j))
 | .str i, .str j => if i.length + j.length ≤ sizeLine then some (.str (i ++ j)) else none
 | .lst xs, .lst ys => if xs.length + ys.length ≤ sizeLine then some (.lst (xs ++ ys)) else none
 | _, _ => none
def rAdd (K : PySem.W.Frag) : R2 := fun x y H Q => rI0 (fun i j => .int (i + j)) x y H Q ∨ (∃ i j, x = .str i ∧ y = .str j ∧ i.length + j.length ≤ sizeLine ∧ Q (.str (i ++ j)) H) ∨ rCatR K x y H Q
theorem op_addA : OpR X (binaryOp .Add) (rAdd X.K) := op_add.or (op_add_str.or op_catR)
theorem pu_add : Pure2 K (rAdd K) oAdd := fun P H d e z v w Q h h1 h2 hn q => by
 unfold oAdd at h
 split at h
 ·cases h; cases h1; cases h2; exact .inl ⟨_, _, rfl, rfl, q _ H (Same.refl H) rfl⟩
 ·split at h
  ·rename_i hl; cases h; cases h1; cases h2; exact .inr (.inl ⟨_, _, rfl, rfl, hl, q _ H (Same.refl H) rfl⟩)
  ·cases h
 ·split at h
  ·rename_i hl
   cases h
   obtain ⟨a, vs, rfl, r1, s1⟩ := h1
   obtain ⟨b, ws, rfl, r2, s2⟩ := h2
   exact .inr (.inr ⟨a, b, vs, ws, rfl, rfl, r1, r2, by rw [s1.len, s2.len]; exact hl, new_lst hn (s1.append s2) q⟩)
  ·cases h
 ·cases h
def oI (g : Int → Int → Option D) : D → D → Option D
 | .int i, .int j => g i j
 | _, _ => none
theorem oI_inv {g : Int → Int → Option D} {P : Pl} {H : Hp} {d e z : D} {v w : V} (h : oI g d e = some z) (h1 : IsW K P H d v) (h2 : IsW K P H e w) : ∃ i j, v = .int i ∧ w = .int j ∧ g i j = some z := by
 unfold oI at h
 split at h
 ·cases h1; cases h2; exact ⟨_, _, rfl, rfl, h⟩
 ·cases h
def oSub := oI fun i j => some (.int (i - j))
theorem pu_sub : Pure2 K (rI0 fun i j => .int (i - j)) oSub := fun P H d e z v w Q h h1 h2 _ q => by
 obtain ⟨i, j, rfl, rfl, h⟩ := oI_inv h h1 h2
 cases h
 exact ⟨i, j, rfl, rfl, q _ H (Same.refl H) rfl⟩
def oMul := oI fun i j => if i.natAbs < 18446744073709551616 ∨ j.natAbs < 18446744073709551616 ∨ (i.natAbs.log2 < 10000 ∧ j.natAbs.log2 < 10000) then some (.int (i * j)) else none
theorem pu_mul : Pure2 K (rI CMulB fun i j => .int (i * j)) oMul := fun P H d e z v w Q h h1 h2 _ q => by
 obtain ⟨i, j, rfl, rfl, h⟩ := oI_inv h h1 h2
 split at h
 ·rename_i hg
  cases h
  exact ⟨i, j, rfl, rfl, by unfold CMulB CMul; rw [show (2 : Int) ^ 64 = 18446744073709551616 from rfl]; exact hg.elim (fun z => .inl (.inl ⟨by omega, by omega⟩)) (fun z => z.elim (fun z => .inl (.inr ⟨by omega, by omega⟩)) .inr), q _ H (Same.refl H) rfl⟩
 ·cases h
def oFdiv := oI fun i j => if 0 < j ∧ j.natAbs < 1073741824 then some (.int (i / j)) else none
theorem pu_fdiv : Pure2 K (rI CDiv fun i j => .int (i / j)) oFdiv := fun P H d e z v w Q h h1 h2 _ q => by
 obtain ⟨i, j, rfl, rfl, h⟩ := oI_inv h h1 h2
 split at h
 ·rename_i hg
  cases h
  exact ⟨i, j, rfl, rfl, ⟨hg.1, by omega⟩, q _ H (Same.refl H) rfl⟩
 ·cases h
def oMod := oI fun i j => if 0 < j then some (.int (i % j)) else none
theorem pu_mod : Pure2 K (rI (fun _ j => 0 < j) fun i j => .int (i % j)) oMod := fun P H d e z v w Q h h1 h2 _ q => by
 obtain ⟨i, j, rfl, rfl, h⟩ := oI_inv h h1 h2
 split at h
 ·rename_i hg
  cases h
  exact ⟨i, j, rfl, rfl, hg, q _ H (Same.refl H) rfl⟩
 ·cases h
def oPow := oI fun i j => if 0 ≤ j ∧ j.natAbs ≤ 1000000 ∧ i.natAbs < 18446744073709551616 then some (.int (i ^ j.toNat)) else none
theorem pu_pow : Pure2 K (rI CPow fun i j => .int (i ^ j.toNat)) oPow := fun P H d e z v w Q h h1 h2 _ q => by
 obtain ⟨i, j, rfl, rfl, h⟩ := oI_inv h h1 h2
 split at h
 ·rename_i hg
  cases h
  exact ⟨i, j, rfl, rfl, by unfold CPow; rw [show (2 : Nat) ^ 64 = 18446744073709551616 from rfl]; exact ⟨hg.1, by omega, hg.2.2⟩, q _ H (Same.refl H) rfl⟩
 ·cases h
def oCmp (c : Cp) (a b : D) : Option D := (cmpD c a b).map .bl
theorem pu_cmp {c : Cp} : Pure2 K (rCp K c) (oCmp c) := fun P H d e z v w Q h h1 h2 _ q => by
 unfold oCmp at h
 rw [Option.map_eq_some_iff] at h
 obtain ⟨b, h, rfl⟩ := h
 exact cmp_ok h h1 h2 (q _ H (Same.refl H) rfl)
def oIx : D → D → Option D
 | .lst ds, .int i => atI ds i
 | .tup ds, .int i => atI ds i
 | .str z, .int i => if z.length ≤ sizeLine then (atI z.cps.toList i).map fun c => .str ⟨#[c]⟩ else none
 | _, _ => none
def rIx (K : PySem.W.Frag) : R2 := fun x y H Q => rIxL K x y H Q ∨ rIxT K x y H Q ∨ rIxS x y H Q
theorem ix_all : IxR X (rIx X.K) := ix_list.or (ix_tup.or ix_str)
theorem atI_map {P : Pl} {H : Hp} {ds : List D} {vs : List V} {d : D} {i : Int} (h : atI ds i = some d) (q : Iss K P H ds vs) : ∃ u, atI vs i = some u ∧ Is K P H d u := by
 unfold atI at h ⊢
 rw [q.len]
 cases e : ixN ds.length i with
 | none => rw [e] at h; cases h
 | some j => rw [e] at h; exact q.get h
theorem pu_ix : Pure2 K (rIx K) oIx := fun P H d e z v w Q h h1 h2 _ q => by
 unfold oIx at h
 split at h
 ·obtain ⟨a, vs, rfl, r, s⟩ := h1
  cases h2
  obtain ⟨u, e, p⟩ := atI_map h s
  exact .inl ⟨a, vs, _, u, rfl, rfl, r, e, q _ H (Same.refl H) p⟩
 ·obtain ⟨a, vs, rfl, r, s⟩ := h1
  cases h2
  obtain ⟨u, e, p⟩ := atI_map h s
  exact .inr (.inl ⟨a, vs, _, u, rfl, rfl, r, e, q _ H (Same.refl H) p⟩)
 ·split at h
  ·rename_i hl
   rw [Option.map_eq_some_iff] at h
   obtain ⟨c, h, e⟩ := h
   cases e
   cases h1
   cases h2
   exact .inr (.inr ⟨_, _, c, rfl, rfl, hl, h, q _ H (Same.refl H) rfl⟩)
  ·cases h
 ·cases h
def bLen : List D → Option D
 | [.lst ds] => some (.int ds.length)
 | [.tup ds] => some (.int ds.length)
 | [.str z] => if z.length ≤ sizeLine then some (.int z.length) else none
 | _ => none
def rLen (K : PySem.W.Frag) : List V → Hp → VK → Prop := fun xs H Q => (∃ p ys, xs = [.ref p] ∧ (SqL K H p ys ∨ SqT K H p ys) ∧ Q (.int ys.length) H) ∨ ∃ z, xs = [.str z] ∧ z.length ≤ sizeLine ∧ Q (.int z.length) H
theorem call_lenA : CallR X (.builtin "len") (rLen X.K) := call_len_seq.or call_len_str
theorem pu_len : PureN K (rLen K) bLen := fun P H ds z vs Q h i _ q => by
 unfold bLen at h
 split at h
 ·obtain ⟨v, ws, rfl, p, rfl⟩ := i
  cases h
  obtain ⟨a, us, rfl, r, s⟩ := p
  exact .inl ⟨a, us, rfl, .inl r, q _ H (Same.refl H) (by rw [s.len]; rfl)⟩
 ·obtain ⟨v, ws, rfl, p, rfl⟩ := i
  cases h
  obtain ⟨a, us, rfl, r, s⟩ := p
  exact .inl ⟨a, us, rfl, .inr r, q _ H (Same.refl H) (by rw [s.len]; rfl)⟩
 ·split at h
  ·rename_i hl
   obtain ⟨v, ws, rfl, p, rfl⟩ := i
   cases h
   cases p
   exact .inr ⟨_, rfl, hl, q _ H (Same.refl H) rfl⟩
  ·cases h
 ·cases h
def bMin : List D → Option D
 | [.int i, .int j] => some (.int (if j < i then j else i))
 | _ => none
def bMax : List D → Option D
 | [.int i, .int j] => some (.int (if j > i then j else i))
 | _ => none
theorem pu_min : PureN K (fun xs H Q => ∃ i j, xs = [.int i, .int j] ∧ Q (.int (if j < i then j else i)) H) bMin := fun P H ds z vs Q h i _ q => by
 unfold bMin at h
 split at h
 ·obtain ⟨v, ws, rfl, p, v', ws', rfl, p', rfl⟩ := i
  cases h; cases p; cases p'
  exact ⟨_, _, rfl, q _ H (Same.refl H) rfl⟩
 ·cases h
end
end E3
namespace E3
open PySem PySem.Spec PyProof.Rows L2
section
variable {X : Cx} {Wx : XW} {m : Mode}
def tyD : D → String
 | .non => "NoneType"
 | .bl _ => "bool"
 | .int _ => "int"
 | .str _ => "str"
 | .tup _ => "tuple"
 | .lst _ => "list"
 | .ref _ => ""
theorem call_isiD : CallR X (.builtin "isinstance") (fun xs H Q => ∃ (x : V) (T : String) (d : D) (P : Pl) (b : Bool), xs = [x, .ty T] ∧ IsW X.K P H d x ∧ tyD d ≠ "" ∧ PySem.W.kitOne X.K (.type (tyD d)) (.type T) = some b ∧ Q (.bl b) H) := by
  intro pins s σ H xs us Q I r h
  obtain ⟨x, T, d, A, b, rfl, i, ne, e, q⟩ := h
  obtain ⟨u, w', rfl, rx, rT⟩ := vals2 r
  cases rT
  have fin : ∀ tk, EP X pins σ Q (.bool b) { s with toks := tk } := fun tk => ⟨.bl b, H, I.tok _, rfl, q⟩
  cases d with
  | non => have hv : x = .non := i; subst hv; exact isinst_ok I rx (TyOf.non) e fin
  | bl y => have hv : x = .bl y := i; subst hv; exact isinst_ok I rx (TyOf.bl y) e fin
  | int y => have hv : x = .int y := i; subst hv; exact isinst_ok I rx (TyOf.int y) e fin
  | str y => have hv : x = .str y := i; subst hv; exact isinst_ok I rx (TyOf.str y) e fin
  | ref n => exact absurd rfl ne
  | tup ds =>
    obtain ⟨a, vs, rfl, t, _⟩ := i
    cases rx
    obtain ⟨its, _, p, _⟩ := I.tuple t
    obtain ⟨o, h1, h2, _⟩ := p
    exact PySem.W.kia_one PySem.W.kitx_tuple I.kIn ⟨o, h1, h2⟩ e (fun z => nomatch z) fin
  | lst ds =>
    obtain ⟨a, vs, rfl, t, _⟩ := i
    cases rx
    obtain ⟨_, its, _, o, h1, h2, _⟩ := sql I t
    exact PySem.W.kia_one PySem.W.kitx_list I.kIn ⟨o, h1, h2⟩ e (fun z => nomatch z) fin
def isiO (tb : String → String → Option Bool) (T : String) (d : D) : Option D := if tyD d = "" then none else (tb (tyD d) T).map .bl
theorem wk_range {K : PySem.W.Frag} {P : Pl} {H : Hp} {lo : Int} {n : Nat} : Wk K P H (Itr lo n) ((List.range n).map fun (k : Nat) => .int (lo + k)) := fun P' H' l => by
 rw [List.length_map, List.length_range]
 refine ⟨fun k hk => hk, fun k h1 _ => h1, fun k x H2 y hk => ⟨y.1, .int (lo + k), ?_, y.2⟩⟩
 rw [List.getElem?_map, List.getElem?_range hk]
 rfl
def iRng1 (fs : EA) : EA := fun env M => match fs env M with
 | some (.v [.int j], M1) => if -1000000000 ≤ j ∧ j ≤ 1000000000 then some (.v ((List.range j.toNat).map fun (k : Nat) => .int (0 + k)), M1) else none
 | some (.x c n, M1) => some (.x c n, M1)
 | _ => none
theorem si_rng1 {tg a : Expr} {fs : EA} {p pos : Pos} (hg : Gl X "range") (hm : X.mg "range" = none) (ha : SA X Wx .val [a] fs) (hs : starEach [a] X.env = [(false, eval a X.env)] := by rfl) : SI X Wx tg (.Call (.Name "range" p) [a] [] pos) (iRng1 fs) := by
 refine pi_imp (pi_range1 hg hm ha hs) ?_
 rintro st H R ⟨P0, H0, P, Os, env, M, r, M', k, e, q⟩
 unfold iRng1 at e
 split at e
 ·rename_i j M1 ef
  split at e
  ·rename_i hj
   cases e
   refine ⟨P0, H0, P, Os, env, M, _, _, k, ef, fun P1 vs H1 l1 h1 i1 => ?_⟩
   obtain ⟨v, ws, rfl, p, rfl⟩ := i1
   exact ⟨j, by rw [show v = .int j from p], by omega, by omega, q P1 H1 _ l1 h1 wk_range⟩
  ·cases e
 ·rename_i c n M1 ef
  cases e
  exact ⟨P0, H0, P, Os, env, M, _, _, k, ef, q⟩
 ·cases e
def pNo : Env → Mm → Option (Option Int × Mm) := fun _ M => some (none, M)
def pAt (f : E) : Env → Mm → Option (Option Int × Mm) := fun env M => match f env M with
 | some (.v (.int i), M1) => some (some i, M1)
 | _ => none
def tP (K : PySem.W.Frag) (mg : Str → Option Value) (f : Env → Mm → Option (Option Int × Mm)) : TO := fun st H Q => ∃ P0 H0 P Os env M i M', Ok K mg P0 H0 P Os H M st env ∧ f env M = some (i, M') ∧ ∀ P' H', LtE P H P' H' → Hk K mg P' H' M' → Q i H'
def SP3 (X : Cx) (e : Option Expr) (f : Env → Mm → Option (Option Int × Mm)) : Prop := PO X e (tP X.K X.mg f)
theorem po_imp {e : Option Expr} {t t' : TO} (h : PO X e t) (w : ∀ σ H Q, t' σ H Q → t σ H Q) : PO X e t' := fun pins s σ H Q I hw => h pins s σ H Q I (w σ H Q hw)
theorem sp_no : SP3 X none pNo := by
 refine po_imp po_none ?_
 rintro st H Q ⟨P0, H0, P, Os, env, M, i, M', k, e, q⟩
 cases e
 exact q P H (LtE.refl P H) k.hk
theorem sp_at {e : Expr} {f : E} (h : SE X Wx .val e f) : SP3 X (some e) (pAt f) := by
 refine po_imp (po_some h) ?_
 rintro st H Q ⟨P0, H0, P, Os, env, M, i, M', k, e, q⟩
 unfold pAt at e
 split at e
 ·rename_i j M1 ef
  cases e
  exact ⟨P0, H0, P, Os, env, M, _, _, k, ef, fun P1 v H1 l1 h1 i1 => ⟨j, i1, q P1 H1 l1 h1⟩⟩
 ·cases e
def cutL {α : Type} (xs : List α) (lo hi : Option Int) : List α := (xs.drop (HT.sIx xs.length 0 lo)).take (HT.sIx xs.length xs.length hi - HT.sIx xs.length 0 lo)
theorem cut_iss {K : PySem.W.Frag} {P : Pl} {H : Hp} {ds : List D} {vs : List V} {lo hi : Option Int} (q : Iss K P H ds vs) : Iss K P H (cutL ds lo hi) (cutV vs lo hi) := by
 unfold cutL cutV
 rw [q.len]
 exact (q.drop _).take _
def slD (d : D) (lo hi : Option Int) : Option D := match d with
 | .lst ds => some (.lst (cutL ds lo hi))
 | .str z => if z.length ≤ sizeLine then some (.str (Txt.slice z lo hi)) else none
 | _ => none
def sSl (f : E) (l h : Env → Mm → Option (Option Int × Mm)) : E := fun env M => bnd (f env M) fun d M1 => match l env M1 with
  | some (lo, M2) => (match h env M2 with
    | some (hi, M3) => (slD (vw M3 d) lo hi).map fun z => (.v z, M3)
    | none => none)
  | none => none
theorem se_sl {e : Expr} {lo hi : Option Expr} {p2 pos : Pos} {f : E} {l h : Env → Mm → Option (Option Int × Mm)} (he : SE X Wx .bor e f) (hl : SP3 X lo l) (hh : SP3 X hi h) : SE X Wx m (.Subscript e (.Slice lo hi none p2) pos) (sSl f l h) := by
 refine pe_imp (pe_slice (sl_list.or sl_str) he hl hh) ?_
 rintro st H Q ⟨P0, H0, P, Os, env, M, r, M', k, e, q⟩
 unfold sSl at e
 rcases bnd_inv e with ⟨d, M1, e1, e⟩ | ⟨c, n, e1, rfl⟩
 ·split at e
  ·rename_i lo' M2 el
   split at e
   ·rename_i hi' M3 eh
    rw [Option.map_eq_some_iff] at e
    obtain ⟨z, ez, e⟩ := e
    cases e
    refine tE_go k e1 fun P1 v1 H1 l1 h1 i1 => ⟨P0, H0, P1, Os, env, M1, _, _, k.next l1 h1, el, fun P2 H2 l2 h2 => ⟨P0, H0, P2, Os, env, M2, _, _, (k.next l1 h1).next l2 h2, eh, fun P3 H3 l3 h3 => ?_⟩⟩
    have i3 := IsB.vw h3 (IsB.lt l3 h2 (IsB.lt l2 h1 i1))
    have fin : ∀ u H', Same H3 H' → Is X.K P3 H' z u → Q u H' := fun u H' s i => q P3 u H' (l1.trans (l2.trans (l3.trans (LtE.same s)))) (h3.same s) (IsM.of (h3.same s) i)
    generalize vw M' d = d' at i3 ez
    unfold slD at ez
    split at ez
    ·cases ez
     obtain ⟨a, vs, rfl, r, s⟩ := i3
     exact .inl ⟨a, vs, rfl, r, new_lst h3.new (cut_iss s) fin⟩
    ·split at ez
     ·rename_i hz
      cases ez
      cases i3
      exact .inr ⟨_, rfl, hz, fin _ _ (Same.refl _) rfl⟩
     ·cases ez
    ·cases ez
   ·cases e
  ·cases e
 ·exact tE_go k e1 q
def sCell (f : E) : E := fun env M => bnd (f env M) fun d M1 => match d with
 | .lst ds => some (.v (.ref M1.length), M1 ++ [.lst ds])
 | _ => none
theorem se_cell {e : Expr} {f : E} (h : SN X Wx e f) : SE X Wx m e (sCell f) := by
  refine pe_imp h ?_
  rintro st H Q ⟨P0, H0, P, Os, env, M, r, M', k, e, q⟩
  unfold sCell at e
  rcases bnd_inv e with ⟨d, M1, e1, e⟩ | ⟨c, n, e1, rfl⟩
  · cases d <;> simp only [reduceCtorEq] at e
    rename_i ds
    cases e
    refine ⟨P0, H0, P, Os, env, M, _, _, k, e1, ds, rfl, fun P1 a vs H1 l1 h1 ha ba nc ea is => ?_⟩
    have hn : P1.n = M1.length := h1.n
    let P2 : Pl := { io := fun j => if j = P1.n then a else P1.io j, n := P1.n + 1, bd := P1.bd }
    have io : ∀ j, j < P1.n → P2.io j = P1.io j := fun j hj => if_neg (by omega)
    have ioN : P2.io P1.n = a := if_pos rfl
    have l2 : Lt P1 H1 P2 H1 := ⟨Nat.le_succ _, io, fun _ z => .inl z, fun _ _ e _ => e, fun _ z => z⟩
    have le : LtE P H P2 H1 := ⟨Nat.le_succ_of_le l1.n, fun j hj => (io j (Nat.lt_of_lt_of_le hj l1.n)).trans (l1.io j hj), l1.bd, l1.bm, l1.keep, l1.sure, fun j h2 h3 => by
      rcases Nat.lt_or_ge j P1.n with z | z
      · rw [io j z]; exact l1.nw j h2 z
      · have : j = P1.n := Nat.le_antisymm (Nat.le_of_lt_succ h3) z
        rw [this, ioN]
        exact ha⟩
    have hk2 : Hk X.K X.mg P2 H1 (M1 ++ [.lst ds]) := by
      refine ⟨by rw [List.length_append, ← hn]; rfl, fun j c ej => ?_, fun i j hi hj e => ?_, fun j hj => ?_, h1.here⟩
      · rcases Nat.lt_or_ge j P1.n with z | z
        · rw [List.getElem?_append_left (by rw [← hn]; exact z)] at ej
          rw [io j z]
          exact (h1.cell j c ej).lt l2 fun _ z => z
        · have jl := (List.getElem?_eq_some_iff.mp ej).1
          rw [List.length_append, List.length_singleton, ← hn] at jl
          have : j = P1.n := by omega
          subst this
          rw [List.getElem?_append_right (by rw [hn]; exact Nat.le_refl _), hn, Nat.sub_self] at ej
          cases ej
          rw [ioN]
          exact ⟨vs, ea, Iss.lt l2 is⟩
      · rcases Nat.lt_or_ge i P1.n with z | z
        · rcases Nat.lt_or_ge j P1.n with y | y
          · rw [io i z, io j y] at e
            exact h1.inj i j z y e
          · have : j = P1.n := Nat.le_antisymm (Nat.le_of_lt_succ hj) y
            rw [io i z, this, ioN] at e
            exact absurd e (nc i z)
        · have iN : i = P1.n := Nat.le_antisymm (Nat.le_of_lt_succ hi) z
          rcases Nat.lt_or_ge j P1.n with y | y
          · rw [iN, ioN, io j y] at e
            exact absurd e.symm (nc j y)
          · rw [iN]
            exact Nat.le_antisymm y (Nat.le_of_lt_succ hj)
      · rcases Nat.lt_or_ge j P1.n with z | z
        · rw [io j z]; exact h1.bd j z
        · have : j = P1.n := Nat.le_antisymm (Nat.le_of_lt_succ hj) z
          rw [this, ioN]
          exact ba
    exact q P2 _ H1 le hk2 (IsM.of hk2 (show Is _ _ _ (.ref _) _ from ⟨by show _ < P1.n + 1; rw [hn]; exact Nat.lt_succ_self _, by rw [← hn, ioN]⟩))
  · exact ⟨P0, H0, P, Os, env, M, _, _, k, e1, q⟩
def sAppC (f g : E) : S := fun env M => bndS (f env M) fun d M1 => match d with
  | .ref j => (match M1[j]? with
    | some (.lst _) => bndS (g env M1) fun y M2 => (match M2[j]? with
      | some (.lst ds) => if ds.length < sizeLine then some (.nx env, M2.set j (.lst (ds ++ [y]))) else none
      | _ => none)
    | _ => none)
  | _ => none
theorem ss_appC {o e : Expr} {f g : E} {p q pos : Pos} (ho : SE X Wx .val o f) (he : SE X Wx .val e g) (hbase : attributeBase o "append" X.env (eval o X.env) = eval o X.env := by rfl)
  (hfew : ((backTo q (starEach [e] X.env)).all (fun x => !x.1) && (backToKw q (keywordEach [] X.env)).all (fun x => x.1.isSome) && decide ([e].length + ([] : List Keyword).length + (if ([] : List Keyword).isEmpty then 0 else 1) < 30)) = true := by rfl)
  (hline : (p.endLine == q.line) = true := by rfl) (hs : starEach [e] X.env = (false, eval e X.env) :: starEach [] X.env := by rfl) (hw : swapsWith (.Call (.Attribute o "append" p) [e] [] q) none pos.line X.env = pure false := by rfl) :
  SS X Wx (.Expr (.Call (.Attribute o "append" p) [e] [] q) pos) (sAppC f g) := by
 refine ps_imp (ps_expr (pe_bm PySem.F.plainAttrs_list PySem.F.slot_list_append PySem.F.type_list_append mt_append ho (pa_cons he pa_nil hs) hbase hfew hline hs rfl) hw) ?_
 rintro D st H ⟨P0, H0, P, Os, env, M, out, M', k, e, q⟩
 unfold sAppC at e
 rcases bndS_inv e with ⟨d, M1, e1, e⟩ | ⟨c, n, e1, rfl⟩
 ·cases d <;> simp only [reduceCtorEq] at e
  rename_i j
  split at e
  rotate_left
  ·cases e
  rename_i ds0 em0
  refine ⟨P0, H0, P, Os, env, M, _, _, k, e1, fun P1 v1 H1 l1 h1 i1 => ?_⟩
  have k1 := k.next l1 h1
  obtain ⟨jl, rfl⟩ : j < P1.n ∧ v1 = .ref (P1.io j) := i1
  obtain ⟨vs0, ev0, _⟩ := h1.cell j _ em0
  refine ⟨.inl ⟨rfl, vs0, .inl (.inl ev0)⟩, ?_⟩
  rcases bndS_inv e with ⟨y, M2, e2, e⟩ | ⟨c, n, e2, rfl⟩
  ·split at e
   ·rename_i ds em
    split at e
    ·rename_i hz
     cases e
     refine tE_go k1 e2 fun P2 v2 H2 l2 h2 i2 => ?_
     obtain ⟨vs, ev, is⟩ := h2.cell j _ em
     rw [l2.io j jl] at ev
     have i3 := Is.lt (Lt.refl P2 H2) i2
     refine ⟨P1.io j, vs, v2, rfl, rfl, ev, by rw [is.len]; exact hz, ?_⟩
     have eio : P2.io j = P1.io j := l2.io j jl
     have jl2 : j < P2.n := Nat.lt_of_lt_of_le jl l2.n
     obtain ⟨o0, eo0, nf0⟩ := h2.cellAt jl2
     have lc : Lt P2 H2 P2 (upd H2 (P2.io j) (.lst (vs ++ [v2]))) := lt_chg (h2.bd j jl2) eo0 nf0
     obtain ⟨l3, l3e, h3⟩ := h2.set (c' := .lst (ds ++ [y])) (o' := .lst (vs ++ [v2])) em ⟨vs ++ [v2], upd_same, Iss.append (Iss.lt lc is) (Iss.one (Is.lt lc i2))⟩
     rw [eio] at l3 l3e h3
     exact q _ _ _ _ ((l1.lt k.hk).trans ((l2.lt h1).trans l3)) ((k1.next l2 h2).next l3e h3)
    ·cases e
   ·cases e
  ·exact tE_go k1 e2 q
 ·exact ⟨P0, H0, P, Os, env, M, _, _, k, e1, q⟩
end
end E3
namespace E3
open PySem PySem.Spec PyProof.Rows L2
section
variable {X : Cx} {Wx : XW} {m : Mode} {pos : Pos}
def oNeg : D → Option D
 | .int i => some (.int (-i))
 | _ => none
theorem pu_neg {K : PySem.W.Frag} : Pure1 K (rU fun i => .int (-i)) oNeg := fun P H d z v Q h i _ q => by
 unfold oNeg at h
 split at h
 ·cases h; cases i; exact ⟨_, rfl, q _ H (Same.refl H) rfl⟩
 ·cases h
theorem se_un {a : Expr} {op : UnaryOp} {f : E} {o : D → Option D} {r : V → Hp → VK → Prop} (ho : UnR X (unaryOp op) r) (po : Pure1 X.K r o) (ha : SE X Wx .bor a f) : SE X Wx m (.UnaryOp op a pos) (s1 o f) :=
 pe_imp (pe_un ho ha) fun _ _ _ h => t1_ok po h
def sRetN : S := fun _ M => some (.rt .non, M)
def sListN (f : E) : E := fun env M => bnd (f env M) fun d M1 => match vw M1 d with
 | .lst ds => some (.v (.lst ds), M1)
 | .tup ds => some (.v (.lst ds), M1)
 | _ => none
theorem sn_list {e : Expr} {f : E} {p : Pos} (hg : Gl X "list") (hm : X.mg "list" = none) (he : SE X Wx .bor e f) (hs : starEach [e] X.env = (false, eval e X.env) :: starEach [] X.env := by rfl) : SN X Wx (.Call (.Name "list" p) [e] [] pos) (sListN f) := by
 refine pe_imp (pe_callTy call_list_of hg hm boot_list (pa_cons he pa_nil hs) (by decide +kernel) (by decide +kernel) hs rfl) ?_
 rintro st H Q ⟨P0, H0, P, Os, env, M, r, M', k, e, q⟩
 unfold sListN at e
 rcases bnd_inv e with ⟨d, M1, e1, e⟩ | ⟨c, n, e1, rfl⟩
 ·refine tE_go k e1 ?_
  have key : ∀ ds, r = .v (.lst ds) → M' = M1 → (∀ P1 v1 H1, IsW X.K P1 H1 (vw M1 d) v1 → ∃ a vs, v1 = .ref a ∧ (SqL X.K H1 a vs ∨ SqT X.K H1 a vs) ∧ Iss X.K P1 H1 ds vs) → ∀ P1 v1 H1, LtE P H P1 H1 → Hk X.K X.mg P1 H1 M1 → IsM X.K P1 H1 .bor d v1 →
    ∃ p ys, [v1] = [V.ref p] ∧ (SqL X.K H1 p ys ∨ SqT X.K H1 p ys) ∧ ∀ l, H1 l = none → Q (.ref l) (upd H1 l (.lst ys)) := by
   rintro ds rfl rfl hv P1 v1 H1 l1 h1 i1
   obtain ⟨ds', e', q⟩ := q
   cases e'
   obtain ⟨a, vs, rfl, sq, is⟩ := hv P1 v1 H1 (IsB.vw h1 i1)
   refine ⟨a, vs, rfl, sq, fun p hp => ?_⟩
   obtain ⟨l2, h2, nc⟩ := bar_new (vs := vs) h1 hp
   exact q (P1.bar p) p vs _ (l1.trans l2) h2 (l1.sure p hp) (.inr rfl) nc upd_same (Iss.lt (l2.lt h1) is)
  split at e
  ·rename_i ds ev
   cases e
   exact key ds rfl rfl fun P1 v1 H1 i => by
    rw [ev] at i
    obtain ⟨a, vs, e, s, is⟩ := i
    exact ⟨a, vs, e, .inl s, is⟩
  ·rename_i ds ev
   cases e
   exact key ds rfl rfl fun P1 v1 H1 i => by
    rw [ev] at i
    obtain ⟨a, vs, e, s, is⟩ := i
    exact ⟨a, vs, e, .inr s, is⟩
  ·cases e
 ·exact tE_go k e1 q
theorem list_is {f : E} : ∀ env M r M', sListN f env M = some (.v r, M') → ∃ ds, r = .lst ds := fun env M r M' e => by
 unfold sListN at e
 rcases bnd_inv e with ⟨ds, M1, e1, e⟩ | ⟨c, n, e1, e⟩
 ·split at e
  ·cases e; exact ⟨_, rfl⟩
  ·cases e; exact ⟨_, rfl⟩
  ·cases e
 ·cases e
end
end E3
namespace E3
open PySem PySem.Spec PyProof.Rows L2
def spL (K : PySem.W.Frag) (g : G) : Sp := fun vs H Q E => ∀ mg, spG K mg 1 g vs H Q E
theorem fnok_L {P : Program} {w : World} {K : PySem.W.Frag} {mg : Str → Option Value} {base : Heap} {k : Nat} {f : Addr} {fd : FuncData} {ps : List Str} {g : G} (F : FnOk P w K mg base CX0 k f fd ps (spG K mg 1 g)) : FnOk P w K mg base CX0 k f fd ps (spL K g) :=
 ⟨fun vs H Q E h => F.len vs H Q E (h mg), fun A outer s H args us vs Q E hr he hb hv hs => F.run A outer s H args us vs Q E hr he hb hv (hs mg)⟩
theorem iss_ints {K : PySem.W.Frag} {P : Pl} {H : Hp} : ∀ ns : List Int, Iss K P H (ns.map D.int) (ns.map V.int)
 | [] => rfl
 | n :: ns => ⟨.int n, _, rfl, rfl, iss_ints ns⟩
theorem law_sp {K : PySem.W.Frag} {g : G} {H : Hp} {a : Addr} {ns : List Int} (hg : ∃ M, g [.lst (ns.map D.int)] [] = some (.v (.bl true), M)) (hS : SqL K H a (ns.map V.int)) : spL K g [.ref a] H (fun v _ => v = .bl true) fun _ _ _ => False := by
 intro mg
 obtain ⟨M, e⟩ := hg
 refine ⟨rfl, ⟨fun _ => 0, 0, fun _ => False⟩, [], [.lst (ns.map D.int)], .bl true, M, ⟨rfl, fun k c e => (by cases e), fun j k h => absurd h (Nat.not_lt_zero _), fun k h => absurd h (Nat.not_lt_zero _), fun a z => z.elim⟩, ⟨.ref a, [], rfl, ⟨a, ns.map V.int, rfl, ?_, iss_ints ns⟩, rfl⟩, e, fun P' v H' _ _ i => i⟩
 rcases hS with h | h
 ·exact .inl ⟨fun z => z, h⟩
 ·exact .inr h
theorem walk_e3 {l : PySem.W.OpenLaw} {k : Nat} {q : Program} {loose : List Str} {XP : (Str → Option Value) → Heap → Prop} {YP : World → Heap → Prop} {d : DefRec} {K : Params → PySem.W.Frag} {x : Str} {g : G}
  (hn : l.most = some 63) (hdf : d.params.defaults = []) (hr : Room k callerA) (hY : ∀ (w : World) (h : Heap), YP w h → (K w.params).In h)
  (F : ∀ (w : World) (mg : Str → Option Value) (fa : Addr) (h : Heap), (K w.params).In h → h.Ns mainGlobals mg → mg d.name = some (.ref fa) →
   ∃ fd : FuncData, (∀ (s : Shared) (u : Value), BindsTo s fd ⟨[u], []⟩ [(x, u)]) ∧
    ∀ base : Heap, (K w.params).In base → base.Ns mainGlobals mg → FnOk l.prog w (K w.params) mg base CX0 k fa fd [x] (spL (K w.params) g))
  (hg : ∀ ns : List Int, ns.length ≤ 63 → ∃ M, g [.lst (ns.map D.int)] [] = some (.v (.bl true), M)) : PySem.W.WalkO q loose XP YP l.row.toRowW d [] (fun f vs => PySem.call f vs) :=
 L2.walk_ofK (sp := fun K => spL K g) hn (by decide) hdf hr hY F (fun K H a ns hl _ hS => law_sp (hg ns hl) hS) fun _ _ _ _ z => z
end E3
namespace E3
open PySem PySem.Spec PyProof.Rows L2
section
variable {X : Cx} {Wx : XW} {m : Mode} {e : Expr}
theorem se_i {i : Int} (h : PE X e (tC (.int i))) : SE X Wx m e (sCon (.int i)) := (se_con (d := .int i) h fun _ _ => rfl).bor
theorem se_s {z : Str} (h : PE X e (tC (.str z))) : SE X Wx m e (sCon (.str z)) := (se_con (d := .str z) h fun _ _ => rfl).bor
theorem se_b {b : Bool} (h : PE X e (tC (.bl b))) : SE X Wx m e (sCon (.bl b)) := (se_con (d := .bl b) h fun _ _ => rfl).bor
theorem se_n (h : PE X e (tC .non)) : SE X Wx m e (sCon .non) := (se_con (d := .non) h fun _ _ => rfl).bor
theorem se_v {i : Nat} {x : Str} {pos : Pos} (hN : X.N[i]? = some x) (hv : X.env.scope.names.lookup x = some .local) (hd : (x == ("__debug__" : Str)) = false := by decide +kernel) (hcd : (x == ("__classdict__" : Str)) = false := by decide +kernel) : SE X Wx m (.Name x pos) (sVar i) := (se_var hN (.inl hv) hd hcd).bor
theorem se_vb {i : Nat} {x : Str} {pos : Pos} (hN : X.N[i]? = some x) (hv : X.env.scope.names.lookup x = some .local) (hd : (x == ("__debug__" : Str)) = false := by decide +kernel) (hcd : (x == ("__classdict__" : Str)) = false := by decide +kernel) : SE X Wx .bor (.Name x pos) (sVarB i) := se_varB hN (.inl hv) hd hcd
theorem SN.sem {f : E} (h : SN X Wx e f) (hf : ∀ env M r M', f env M = some (.v r, M') → ∃ ds, r = .lst ds) : SE X Wx m e f := (SN.se h hf).bor
end
end E3
namespace E3
open PySem PySem.Spec PyProof.Rows L2
section
variable {K : PySem.W.Frag} {mg : Str → Option Value} {P : Pl} {H : Hp} {M : Mm}
end
structure ClsOk (K : PySem.W.Frag) (mg : Str → Option Value) (c : Str) (C : Addr) : Prop where
 mg : mg c = some (.ref C)
 cl : Cls K C
section
variable {X : Cx} {Wx : XW} {m : Mode} {pos : Pos}
def AtM (P : Program) (w : World) (K : PySem.W.Frag) (mg : Str → Option Value) (base : Heap) (k : Nat) (C : Addr) (m : Str) (n : Nat) (g : G) : Prop :=
 ∃ f fd ps, Meth K C m f ∧ FnOk P w K mg base CX0 k f fd ps (spG K mg n g) ∧ Binds K fd ps []
theorem AtM.mono {P : Program} {w : World} {K : PySem.W.Frag} {mg : Str → Option Value} {base : Heap} {j k : Nat} {C : Addr} {m : Str} {n : Nat} {g : G} (a : AtM P w K mg base j C m n g) (h : j ≤ k) : AtM P w K mg base k C m n g := by
 obtain ⟨f, fd, ps, h1, h2, h3⟩ := a
 exact ⟨f, fd, ps, h1, h2.mono h, h3⟩
end
end E3
namespace E3
open PySem PySem.Spec PyProof.Rows L2
section
variable {X : Cx} {Wx : XW} {m : Mode} {pos : Pos}
def AtI (P : Program) (w : World) (K : PySem.W.Frag) (mg : Str → Option Value) (base : Heap) (k : Nat) (C : Addr) (n : Nat) (g : G) : Prop :=
 ∃ f fd ps, Mk K C f ∧ FnOk P w K mg base CX0 k f fd ps (spG K mg n g) ∧ Binds K fd ps []
end
end E3
namespace E3
open PySem PySem.Spec PyProof.Rows L2 PySem.W
def runT {α : Type} (lt : Nat → Nat → Option Bool) : KasT α → Option α
  | .ret a => some a
  | .ask i j k => match lt i j with
    | some b => runT lt (k b)
    | none => none
def Stays (a : Addr) (h h' : Heap) : Prop := ∀ b o, b ≠ a → h.get? b = some o → h'.get? b = some o
theorem Stays.upd (h : Heap) (a : Addr) (f : Obj → Obj) : Stays a h (h.update a f) := fun b o nb e => by rw [(Heap.SameBut.update h a f).2 b nb]; exact e
theorem Stays.push {h h' : Heap} {a : Addr} (s : Stays a h h') (o : Obj) : Stays a h (h'.push o) := fun b u nb e => Heap.get?_push_of_some _ (s b u nb e)
section
variable {prog : Program} {w : World} {A : Around} {E : Value → Shared → Prop} {s : Shared}
end
end E3
namespace E3
open PySem PySem.Spec PyProof.Rows L2 PySem.W
def ltT : List D → List D → Option Bool
 | [], [] => some false
 | .int i :: ps, .int j :: qs => if i = j then ltT ps qs else some (decide (i < j))
 | .str a :: ps, .str b :: qs => if a = b then ltT ps qs else none
 | _, _ => none
def ltD (ds : List D) (i j : Nat) : Option Bool := match ds.getD i .non with
  | .tup xs => (match ds.getD j .non with
    | .tup ys => ltT xs ys
    | _ => none)
  | _ => none
section
variable {prog : Program} {w : World} {A : Around} {s : Shared} {K : PySem.W.Frag} {P : Pl} {H : Hp}
end
def tupI : D → Bool
 | .tup (.int _ :: _) => true
 | _ => false
section
variable {X : Cx} {pins : List (Addr × Obj)} {σ : L2.St} {H : Hp} {s : Shared}
end
end E3
namespace E3
open PySem PySem.Spec PyProof.Rows L2 PySem.W
section
variable {prog : Program} {w : World} {A : Around} {E : Value → Shared → Prop} {s : Shared}
end
section
variable {X : Cx} {Wx : XW}
def sortD (ds : List D) : Option (List D) := if ds.length < 2 then some ds else if ds.length < 64 ∧ ds.all tupI = true then (runT (ltD ds) (kas_sort ds.length)).map fun p => p.toList.map fun i => ds.getD i .non else none
def sSorted (f : E) : E := fun env M => bnd (f env M) fun d M1 => match vw M1 d with
 | .lst ds => (sortD ds).map fun es => (.v (.lst es), M1)
 | _ => none
end
def Low (n : Nat) (p : Array Nat) : Prop := p.size = n ∧ ∀ x ∈ p.toList, x < n
theorem Low.get {n : Nat} {p : Array Nat} (h : Low n p) (hn : 0 < n) (i : Nat) : p.getD i 0 < n := by
 rw [Array.getD_eq_getD_getElem?]
 cases e : p[i]? with
 | none => exact hn
 | some x => exact h.2 x (by rw [Array.mem_toList_iff]; exact Array.mem_of_getElem? e)
section
variable {n : Nat} {lt : Nat → Nat → Option Bool} (hn : 0 < n) (tot : ∀ i j, i < n → j < n → ∃ b, lt i j = some b)
include hn tot
end
end E3
namespace E3
open PySem L2
section
variable {env : Env} {M M1 : Mm} {f g h c : E} {d e : D} {i j : Int} {n k : Nat} {z : Str} {b : Bool} {ds es : List D} {s t : S} {x : Str}
def seqR (g : S) : OS → OS
 | some (.nx e, M1) => g e M1
 | o => o
theorem q_seq : sSeq s t env M = seqR t (s env M) := by
 unfold sSeq seqR
 cases s env M with
 | none => rfl
 | some p => obtain ⟨o, M⟩ := p; cases o <;> rfl
theorem r_nx {e : Env} : seqR t (some (.nx e, M)) = t e M := rfl
theorem r_rt : seqR t (some (.rt d, M)) = some (.rt d, M) := rfl
theorem r_bk {e : Env} : seqR t (some (.bk e, M)) = some (.bk e, M) := rfl
theorem r_ct {e : Env} : seqR t (some (.ct e, M)) = some (.ct e, M) := rfl
theorem r_ex {a : Int} : seqR t (some (.ex x a, M)) = some (.ex x a, M) := rfl
theorem q_end : sEnd env M = some (.nx env, M) := rfl
def varR (M : Mm) : Option Slot → O
 | some (.val d) => some (.v d, M)
 | _ => none
def varB (M : Mm) : Option Slot → O
 | some (.val d) => some (.v d, M)
 | some (.own ds) => some (.v (.lst ds), M)
 | _ => none
theorem q_v : sVar k env M = varR M env[k]? := by
 unfold sVar varR; split <;> simp_all
theorem q_vb : sVarB k env M = varB M env[k]? := by
 unfold sVarB varB; split <;> simp_all
theorem r_v : varR M (some (.val d)) = some (.v d, M) := rfl
theorem r_vb : varB M (some (.val d)) = some (.v d, M) := rfl
theorem r_vo : varB M (some (.own ds)) = some (.v (.lst ds), M) := rfl
theorem q_con : sCon d env M = some (.v d, M) := rfl
def mapR (M : Mm) : Option D → O
 | some z => some (.v z, M)
 | none => none
theorem r_map : mapR M (some d) = some (.v d, M) := rfl
def oneR (o : D → Option D) : O → O
 | some (.v d, M) => mapR M (o (vw M d))
 | some (.x c n, M) => some (.x c n, M)
 | none => none
theorem q_1 {o : D → Option D} : s1 o f env M = oneR o (f env M) := by
  unfold s1 oneR bnd
  cases f env M with
  | none => rfl
  | some p => obtain ⟨r, M'⟩ := p; cases r with
    | v d => dsimp only; cases o (vw M' d) <;> rfl
    | x c n => rfl
theorem r_1 {o : D → Option D} : oneR o (some (.v d, M)) = mapR M (o (vw M d)) := rfl
def twoS (o : D → D → Option D) (d : D) : O → O
 | some (.v e, M) => mapR M (o (vw M d) (vw M e))
 | some (.x c n, M) => some (.x c n, M)
 | none => none
def twoK (o : D → D → Option D) (k : Mm → O) : O → O
 | some (.v d, M) => twoS o d (k M)
 | some (.x c n, M) => some (.x c n, M)
 | none => none
theorem q_2 {o : D → D → Option D} : s2 o f g env M = twoK o (g env) (f env M) := by
  unfold s2 twoK bnd
  cases f env M with
  | none => rfl
  | some p => obtain ⟨r, M'⟩ := p; cases r with
    | x c n => rfl
    | v d =>
      dsimp only
      unfold twoS
      cases g env M' with
      | none => rfl
      | some p => obtain ⟨r, M2⟩ := p; cases r with
        | x c n => rfl
        | v e => dsimp only; cases o (vw M2 d) (vw M2 e) <;> rfl
theorem r_2 {o : D → D → Option D} {q : Mm → O} : twoK o q (some (.v d, M)) = twoS o d (q M) := rfl
theorem r_2s {o : D → D → Option D} : twoS o d (some (.v e, M)) = mapR M (o (vw M d) (vw M e)) := rfl
theorem w_int : vw M (.int i) = .int i := rfl
theorem w_str : vw M (.str z) = .str z := rfl
theorem w_bl : vw M (.bl b) = .bl b := rfl
theorem w_non : vw M .non = .non := rfl
theorem w_tup : vw M (.tup ds) = .tup ds := rfl
theorem w_lst : vw M (.lst ds) = .lst ds := rfl
theorem q_tru : sTru f env M = oneR (fun d => (truD d).map .bl) (f env M) := q_1
theorem q_notv : sNotV f env M = oneR (fun d => (truD d).map fun b => .bl (!b)) (f env M) := q_1
def notR : O → O
 | some (.v (.bl b), M) => some (.v (.bl (!b)), M)
 | some (.x c n, M) => some (.x c n, M)
 | _ => none
theorem q_not : sNot f env M = notR (f env M) := by
  unfold sNot notR bnd
  cases f env M with
  | none => rfl
  | some p => obtain ⟨r, M'⟩ := p; cases r with
    | x c n => rfl
    | v d => cases d <;> rfl
theorem r_not : notR (some (.v (.bl b), M)) = some (.v (.bl (!b)), M) := rfl
def iteR (k1 k2 : Mm → O) : O → O
 | some (.v (.bl b), M) => if b = true then k1 M else k2 M
 | some (.x c n, M) => some (.x c n, M)
 | _ => none
theorem q_and : sAnd f g env M = iteR (g env) (fun M => some (.v (.bl false), M)) (f env M) := by
  unfold sAnd iteR bnd
  cases f env M with
  | none => rfl
  | some p => obtain ⟨r, M'⟩ := p; cases r with
    | x c n => rfl
    | v d => cases d <;> rfl
theorem q_or : sOr f g env M = iteR (fun M => some (.v (.bl true), M)) (g env) (f env M) := by
  unfold sOr iteR bnd
  cases f env M with
  | none => rfl
  | some p => obtain ⟨r, M'⟩ := p; cases r with
    | x c n => rfl
    | v d => cases d <;> rfl
theorem q_ite : sIte c f g env M = iteR (f env) (g env) (c env M) := by
  unfold sIte iteR bnd
  cases c env M with
  | none => rfl
  | some p => obtain ⟨r, M'⟩ := p; cases r with
    | x c n => rfl
    | v d => cases d <;> rfl
theorem r_ite {k1 k2 : Mm → O} : iteR k1 k2 (some (.v (.bl b), M)) = if b = true then k1 M else k2 M := rfl
def conA (d : D) : Option (ResA × Mm) → Option (ResA × Mm)
 | some (.v ds, M2) => some (.v (d :: ds), M2)
 | some (.x c n, M2) => some (.x c n, M2)
 | none => none
def consK (k : Mm → Option (ResA × Mm)) : O → Option (ResA × Mm)
 | some (.v d, M1) => conA d (k M1)
 | some (.x c n, M1) => some (.x c n, M1)
 | none => none
theorem q_nil : sNil env M = some (.v [], M) := rfl
theorem q_cons {fs : EA} : sCons f fs env M = consK (fs env) (f env M) := by
  unfold sCons consK
  cases f env M with
  | none => rfl
  | some p => obtain ⟨r, M'⟩ := p; cases r with
    | x c n => rfl
    | v d =>
      dsimp only
      unfold conA
      cases fs env M' with
      | none => rfl
      | some p => obtain ⟨r, M2⟩ := p; cases r <;> rfl
theorem r_cons {q : Mm → Option (ResA × Mm)} : consK q (some (.v d, M)) = conA d (q M) := rfl
theorem r_conA : conA d (some (.v ds, M)) = some (.v (d :: ds), M) := rfl
def argR (o : List D → Option D) : Option (ResA × Mm) → O
 | some (.v ds, M) => mapR M (o (ds.map (vw M)))
 | some (.x c n, M) => some (.x c n, M)
 | none => none
theorem q_n {o : List D → Option D} {fs : EA} : sN o fs env M = argR o (fs env M) := by
  unfold sN argR bndA
  cases fs env M with
  | none => rfl
  | some p => obtain ⟨r, M'⟩ := p; cases r with
    | x c n => rfl
    | v d => dsimp only; cases o (d.map (vw M')) <;> rfl
theorem r_n {o : List D → Option D} : argR o (some (.v ds, M)) = mapR M (o (ds.map (vw M))) := rfl
def argK (k : List D → Mm → O) : Option (ResA × Mm) → O
 | some (.v ds, M) => k ds M
 | some (.x c n, M) => some (.x c n, M)
 | none => none
theorem r_argK {q : List D → Mm → O} : argK q (some (.v ds, M)) = q ds M := rfl
theorem q_tup {fs : EA} : sTup fs env M = argK (fun ds M1 => if ds.length ≤ sizeLine then some (.v (.tup ds), M1) else none) (fs env M) := rfl
theorem q_lst {fs : EA} : sLst fs env M = argK (fun ds M1 => if ds.length ≤ sizeLine then some (.v (.lst ds), M1) else none) (fs env M) := rfl
def callR : O → O
 | some (.v d, M) => some (.v d, M)
 | _ => none
theorem r_callR : callR (some (.v d, M)) = some (.v d, M) := rfl
theorem q_call {u : G} {fs : EA} : sCall u fs env M = argK (fun ds M1 => callR (u ds M1)) (fs env M) := by
  unfold sCall argK bndA
  cases fs env M with
  | none => rfl
  | some p => obtain ⟨r, M'⟩ := p; cases r with
    | x c n => rfl
    | v d =>
      dsimp only
      unfold callR
      cases u d M' with
      | none => rfl
      | some p => obtain ⟨r, M2⟩ := p; cases r <;> rfl
def bndK (k : D → Mm → O) : O → O
 | some (.v d, M) => k d M
 | some (.x c n, M) => some (.x c n, M)
 | none => none
theorem r_bndK {q : D → Mm → O} : bndK q (some (.v d, M)) = q d M := rfl
def cellD (M : Mm) : D → O
 | .lst ds => some (.v (.ref M.length), M ++ [.lst ds])
 | _ => none
theorem r_cellD : cellD M (.lst ds) = some (.v (.ref M.length), M ++ [.lst ds]) := rfl
theorem q_cell : sCell f env M = bndK (fun d M1 => cellD M1 d) (f env M) := by
  unfold sCell bndK bnd
  cases f env M with
  | none => rfl
  | some p => obtain ⟨r, M'⟩ := p; cases r with
    | x c n => rfl
    | v d => cases d <;> rfl
def listD (M : Mm) : D → O
 | .lst ds => some (.v (.lst ds), M)
 | .tup ds => some (.v (.lst ds), M)
 | _ => none
theorem r_listL : listD M (.lst ds) = some (.v (.lst ds), M) := rfl
theorem q_list : sListN f env M = bndK (fun d M1 => listD M1 (vw M1 d)) (f env M) := by
  unfold sListN bndK bnd
  cases f env M with
  | none => rfl
  | some p => obtain ⟨r, M'⟩ := p; cases r with
    | x c n => rfl
    | v d => dsimp only; cases vw M' d <;> rfl
def srtD (M : Mm) : D → O
 | .lst ds => mapR M ((sortD ds).map .lst)
 | _ => none
theorem q_srt : sSorted f env M = bndK (fun d M1 => srtD M1 (vw M1 d)) (f env M) := by
  unfold sSorted bndK bnd
  cases f env M with
  | none => rfl
  | some p => obtain ⟨r, M'⟩ := p; cases r with
    | x c n => rfl
    | v d =>
      dsimp only
      unfold srtD
      cases vw M' d <;> try rfl
      dsimp only
      cases sortD _ <;> rfl
def slH (d : D) (lo : Option Int) : Option (Option Int × Mm) → O
 | some (hi, M3) => mapR M3 (slD (vw M3 d) lo hi)
 | none => none
def slL (d : D) (k : Mm → Option (Option Int × Mm)) : Option (Option Int × Mm) → O
 | some (lo, M2) => slH d lo (k M2)
 | none => none
theorem q_sl {l u : Env → Mm → Option (Option Int × Mm)} : sSl f l u env M = bndK (fun d M1 => slL d (u env) (l env M1)) (f env M) := by
  unfold sSl bndK bnd
  cases f env M with
  | none => rfl
  | some p => obtain ⟨r, M'⟩ := p; cases r with
    | x c n => rfl
    | v d =>
      dsimp only
      unfold slL
      cases l env M' with
      | none => rfl
      | some p =>
        obtain ⟨lo, M2⟩ := p
        dsimp only
        unfold slH
        cases u env M2 with
        | none => rfl
        | some p => obtain ⟨hi, M3⟩ := p; dsimp only; cases slD (vw M3 d) lo hi <;> rfl
theorem r_slL {lo : Option Int} {q : Mm → Option (Option Int × Mm)} : slL d q (some (lo, M)) = slH d lo (q M) := rfl
theorem r_slH {lo hi : Option Int} : slH d lo (some (hi, M)) = mapR M (slD (vw M d) lo hi) := rfl
theorem q_pno : pNo env M = some (none, M) := rfl
def patR : O → Option (Option Int × Mm)
 | some (.v (.int i), M) => some (some i, M)
 | _ => none
theorem q_pat : pAt f env M = patR (f env M) := by
  unfold pAt patR
  cases f env M with
  | none => rfl
  | some p => obtain ⟨r, M'⟩ := p; cases r with
    | x c n => rfl
    | v d => cases d <;> rfl
theorem r_pat : patR (some (.v (.int i), M)) = some (some i, M) := rfl
def bndT (k : D → Mm → OS) : O → OS
 | some (.v d, M) => k d M
 | some (.x c n, M) => some (.ex c n, M)
 | none => none
theorem r_bndT {q : D → Mm → OS} : bndT q (some (.v d, M)) = q d M := rfl
theorem q_asg : sAsg k f env M = bndT (fun d M1 => if k < env.length then some (.nx (env.set k (.val d)), M1) else none) (f env M) := rfl
def mineD (k : Nat) (env : Env) (M : Mm) : D → OS
 | .lst ds => if k < env.length then some (.nx (env.set k (.own ds)), M) else none
 | _ => none
theorem r_mine : mineD k env M (.lst ds) = if k < env.length then some (.nx (env.set k (.own ds)), M) else none := rfl
theorem q_mine : sMine k f env M = bndT (fun d M1 => mineD k env M1 d) (f env M) := by
  unfold sMine bndT bndS
  cases f env M with
  | none => rfl
  | some p => obtain ⟨r, M'⟩ := p; cases r with
    | x c n => rfl
    | v d => cases d <;> rfl
theorem q_ret : sRet f env M = bndT (fun d M1 => some (.rt d, M1)) (f env M) := rfl
theorem q_retN : sRetN env M = some (.rt .non, M) := rfl
theorem q_drop : sDrop f env M = bndT (fun _ M1 => some (.nx env, M1)) (f env M) := rfl
def ifD (s t : Mm → OS) (M : Mm) : D → OS
 | .bl b => if b = true then s M else t M
 | _ => none
theorem r_if {q r : Mm → OS} : ifD q r M (.bl b) = if b = true then q M else r M := rfl
theorem q_if : sIf c s t env M = bndT (fun d M1 => ifD (s env) (t env) M1 d) (c env M) := by
  unfold sIf bndT bndS
  cases c env M with
  | none => rfl
  | some p => obtain ⟨r, M'⟩ := p; cases r with
    | x c n => rfl
    | v d => cases d <;> rfl
def frzR (k : Nat) (env : Env) (M : Mm) : Option Slot → OS
 | some (.own ds) => some (.nx (env.set k (.val (.lst ds))), M)
 | _ => none
theorem q_frz : sFrz k env M = frzR k env M env[k]? := by
 unfold sFrz frzR; split <;> simp_all
theorem r_frz : frzR k env M (some (.own ds)) = some (.nx (env.set k (.val (.lst ds))), M) := rfl
def appR (k : Nat) (env : Env) (o : O) : Option Slot → OS
 | some (.own ds) => bndT (fun d M1 => if ds.length < sizeLine then some (.nx (env.set k (.own (ds ++ [d]))), M1) else none) o
 | _ => none
theorem q_app : sApp k f env M = appR k env (f env M) env[k]? := by
 unfold sApp appR
 cases env[k]? with
 | none => rfl
 | some s => cases s <;> rfl
theorem r_app {o : O} : appR k env o (some (.own ds)) = bndT (fun d M1 => if ds.length < sizeLine then some (.nx (env.set k (.own (ds ++ [d]))), M1) else none) o := rfl
def forR (k : Nat) (t : S) (env : Env) : Option (ResA × Mm) → OS
 | some (.v ds, M1) => loopS k t ds env M1
 | some (.x c n, M1) => some (.ex c n, M1)
 | none => none
theorem q_for {fs : EA} : sFor k fs t env M = forR k t env (fs env M) := by
 unfold sFor forR
 cases fs env M with
 | none => rfl
 | some p => obtain ⟨r, M'⟩ := p; cases r <;> rfl
theorem r_for : forR k t env (some (.v ds, M)) = loopS k t ds env M := rfl
def lstR : O → Option (ResA × Mm)
 | some (.v (.lst ds), M1) => some (.v ds, M1)
 | some (.x c n, M1) => some (.x c n, M1)
 | _ => none
theorem q_ilst : iLst f env M = lstR (f env M) := by
  unfold iLst lstR
  cases f env M with
  | none => rfl
  | some p => obtain ⟨r, M'⟩ := p; cases r with
    | x c n => rfl
    | v d => cases d <;> rfl
theorem r_ilst : lstR (some (.v (.lst ds), M)) = some (.v ds, M) := rfl
def rng1R : Option (ResA × Mm) → Option (ResA × Mm)
 | some (.v [.int j], M1) => if -1000000000 ≤ j ∧ j ≤ 1000000000 then some (.v ((List.range j.toNat).map fun (k : Nat) => .int (0 + k)), M1) else none
 | some (.x c n, M1) => some (.x c n, M1)
 | _ => none
theorem q_rng1 {fs : EA} : iRng1 fs env M = rng1R (fs env M) := by
 unfold iRng1 rng1R
 rfl
theorem r_rng1 (h : -1000000000 ≤ i ∧ i ≤ 1000000000) : rng1R (some (.v [.int i], M)) = some (.v ((List.range i.toNat).map fun (k : Nat) => .int (0 + k)), M) := if_pos h
theorem q_fn {m : Nat} {t : S} : fnG m t ds M = endS (t (ds.map .val ++ List.replicate (m - ds.length) .un) M) := rfl
theorem r_endR : endS (some (.rt d, M)) = some (.v d, M) := rfl
theorem r_endN {e : Env} : endS (some (.nx e, M)) = some (.v .non, M) := rfl
theorem o_addI : oAdd (.int i) (.int j) = some (.int (i + j)) := rfl
theorem o_addL : oAdd (.lst ds) (.lst es) = if ds.length + es.length ≤ sizeLine then some (.lst (ds ++ es)) else none := rfl
theorem o_sub : oSub (.int i) (.int j) = some (.int (i - j)) := rfl
theorem o_mul : oMul (.int i) (.int j) = if i.natAbs < 18446744073709551616 ∨ j.natAbs < 18446744073709551616 ∨ (i.natAbs.log2 < 10000 ∧ j.natAbs.log2 < 10000) then some (.int (i * j)) else none := rfl
theorem o_fdiv : oFdiv (.int i) (.int j) = if 0 < j ∧ j.natAbs < 1073741824 then some (.int (i / j)) else none := rfl
theorem o_mod : oMod (.int i) (.int j) = if 0 < j then some (.int (i % j)) else none := rfl
theorem o_pow : oPow (.int i) (.int j) = if 0 ≤ j ∧ j.natAbs ≤ 1000000 ∧ i.natAbs < 18446744073709551616 then some (.int (i ^ j.toNat)) else none := rfl
theorem o_neg : oNeg (.int i) = some (.int (-i)) := rfl
theorem o_lt : oCmp .lt (.int i) (.int j) = some (.bl (decide (i < j))) := rfl
theorem o_le : oCmp .le (.int i) (.int j) = some (.bl (decide (i ≤ j))) := rfl
theorem o_gt : oCmp .gt (.int i) (.int j) = some (.bl (decide (j < i))) := rfl
theorem o_ge : oCmp .ge (.int i) (.int j) = some (.bl (decide (j ≤ i))) := rfl
theorem o_eqI : oCmp .eq (.int i) (.int j) = some (.bl (decide (i = j))) := by
 show (cEq _ _).map D.bl = _
 simp [cEq, eqOk, D.flat, D.dep, D.eq]
 rw [Bool.eq_iff_iff]; simp
theorem o_neI : oCmp .ne (.int i) (.int j) = some (.bl (!decide (i = j))) := by
 show (cNe _ _).map D.bl = _
 simp [cNe, eqOk, D.flat, D.dep, D.eq]
 rw [Bool.eq_iff_iff]; simp
theorem o_eqE (h : D.deps ds ≤ 49) : oCmp .eq (.lst ds) (.lst []) = some (.bl ds.isEmpty) := by
 show (cEq _ _).map D.bl = _
 unfold cEq
 rw [if_pos ⟨by simp [eqOk, D.flat, D.dep, D.deps], by show D.deps ds + 1 ≤ 50; omega⟩]
 cases ds <;> rfl
theorem o_neE (h : D.deps ds ≤ 49) : oCmp .ne (.lst ds) (.lst []) = some (.bl (!ds.isEmpty)) := by
 show (cNe _ _).map D.bl = _
 unfold cNe
 rw [if_pos ⟨by simp [eqOk, D.flat, D.dep, D.deps], by show D.deps ds + 1 ≤ 50; omega⟩]
 cases ds <;> rfl
theorem o_ixL : oIx (.lst ds) (.int i) = atI ds i := rfl
theorem o_ixT : oIx (.tup ds) (.int i) = atI ds i := rfl
theorem o_lenL : bLen [.lst ds] = some (.int ds.length) := rfl
theorem o_lenT : bLen [.tup ds] = some (.int ds.length) := rfl
theorem o_min : bMin [.int i, .int j] = some (.int (if j < i then j else i)) := rfl
theorem o_max : bMax [.int i, .int j] = some (.int (if j > i then j else i)) := rfl
theorem o_truL : truD (.lst ds) = some (!ds.isEmpty) := rfl
theorem o_truB : truD (.bl b) = some b := rfl
theorem o_slS {lo hi : Option Int} : slD (.str z) lo hi = if z.length ≤ sizeLine then some (.str (Txt.slice z lo hi)) else none := rfl
theorem o_slL {lo hi : Option Int} : slD (.lst ds) lo hi = some (.lst (cutL ds lo hi)) := rfl
theorem o_isiL {tb : String → String → Option Bool} {T : String} : isiO tb T (.lst ds) = (tb "list" T).map .bl := if_neg (show ¬ ("list" = "") by decide)
end
def Step (J : Env → Mm → Prop) (Q : OS → Prop) : OS → Prop
 | some (.nx e, M) => J e M
 | some (.ct e, M) => J e M
 | some (.bk e, M) => Q (some (.nx e, M))
 | some (.rt d, M) => Q (some (.rt d, M))
 | some (.ex c n, M) => Q (some (.ex c n, M))
 | none => False
theorem loop_by {i : Nat} {body : S} {ds : List D} {env : Env} {M : Mm} (Q : OS → Prop) (J : Nat → Env → Mm → Prop) (h0 : J 0 env M)
    (hs : ∀ (k : Nat) d env M, ds[k]? = some d → J k env M → i < env.length ∧ Step (J (k + 1)) Q (body (env.set i (.val d)) M)) (hd : ∀ env M, J ds.length env M → Q (some (.nx env, M))) : Q (loopS i body ds env M) := by
  have key : ∀ (m k : Nat) (env : Env) (M : Mm), m + k = ds.length → J k env M → Q (loopS i body (ds.drop k) env M) := by
    intro m
    induction m with
    | zero =>
      intro k env M hk hJ
      have e : k = ds.length := by omega
      subst e
      rw [List.drop_length]
      exact hd env M hJ
    | succ m ih =>
      intro k env M hk hJ
      have hlt : k < ds.length := by omega
      obtain ⟨hi, h1⟩ := hs k ds[k] env M (List.getElem?_eq_getElem hlt) hJ
      rw [List.drop_eq_getElem_cons hlt]
      simp only [loopS, hi, if_true]
      cases e : body (env.set i (.val ds[k])) M with
      | none => rw [e] at h1; exact h1.elim
      | some o =>
        rw [e] at h1
        obtain ⟨o, M'⟩ := o
        cases o with
        | nx e' => exact ih (k + 1) e' M' (by omega) h1
        | ct e' => exact ih (k + 1) e' M' (by omega) h1
        | bk e' => exact h1
        | rt d => exact h1
        | ex c n => exact h1
  have := key ds.length 0 env M (by omega) h0
  rwa [List.drop_zero] at this
end E3
namespace E3
open PySem PySem.Spec PyProof.Rows L2
def XN (H : Hp) (n : Int) : Option Addr → Prop
 | none => n = 0
 | some d => ∃ fs, H d = some (.xd fs) ∧ fs.lookup ("at" : Str) = some (.int n)
def XQ (K : PySem.W.Frag) (mg : Str → Option Value) (P : Pl) (H : Hp) (M' : Mm) (Q : VK) (E : XK) : Res → Prop
 | .v d => ∀ P' v H', LtE P H P' H' → Hk K mg P' H' M' → Is K P' H' d v → Q v H'
 | .x c n => ∀ P' H' C dx, LtE P H P' H' → Hk K mg P' H' M' → mg c = some (.ref C) → XN H' n dx → E (.ref C) dx H'
def spX (K : PySem.W.Frag) (mg : Str → Option Value) (n : Nat) (g : G) : Sp := fun vs H Q E => vs.length = n ∧ ∃ P M ds r M', Hk K mg P H M ∧ Iss K P H ds vs ∧ g ds M = some (r, M') ∧ XQ K mg P H M' Q E r
mutual
theorem Is.away {K : PySem.W.Frag} {P : Pl} {H H' : Hp} (s : ∀ b o, H b = some o → (∀ g, o ≠ .ext g) → H' b = some o) : ∀ {d : D} {v : V}, Is K P H d v → Is K P H' d v
  | .non, _, h => h
  | .bl _, _, h => h
  | .int _, _, h => h
  | .str _, _, h => h
  | .tup ds, _, h => by
    obtain ⟨a, vs, e, q, r⟩ := h
    refine ⟨a, vs, e, ?_, Iss.away s r⟩
    rcases q with (q | ⟨o, q⟩) | q
    · exact .inl (.inl (s _ _ q fun _ z => nomatch z))
    · exact .inl (.inr ⟨o, s _ _ q fun _ z => nomatch z⟩)
    · exact .inr q
  | .lst ds, _, h => by
    obtain ⟨a, vs, e, q, r⟩ := h
    refine ⟨a, vs, e, ?_, Iss.away s r⟩
    rcases q with ⟨n, q | ⟨o, q⟩⟩ | q
    · exact .inl ⟨n, .inl (s _ _ q fun _ z => nomatch z)⟩
    · exact .inl ⟨n, .inr ⟨o, s _ _ q fun _ z => nomatch z⟩⟩
    · exact .inr q
  | .ref k, _, h => h
theorem Iss.away {K : PySem.W.Frag} {P : Pl} {H H' : Hp} (s : ∀ b o, H b = some o → (∀ g, o ≠ .ext g) → H' b = some o) : ∀ {ds : List D} {vs : List V}, Iss K P H ds vs → Iss K P H' ds vs
  | [], _, h => h
  | _ :: _, _, h => by
    obtain ⟨v, r, e, p, q⟩ := h
    exact ⟨v, r, e, Is.away s p, Iss.away s q⟩
end
theorem Hk.away {K : PySem.W.Frag} {mg : Str → Option Value} {P : Pl} {H H' : Hp} {M : Mm} (h : Hk K mg P H M) (s : ∀ b o, H b = some o → (∀ g, o ≠ .ext g) → H' b = some o) (t : ∀ b, H' b = none → H b = none) : Hk K mg P H' M := by
  refine ⟨h.n, fun k c e => ?_, h.inj, h.bd, fun a z q => h.here a z (t a q)⟩
  have := h.cell k c e
  cases c with
  | lst ds =>
    obtain ⟨vs, e1, q⟩ := this
    exact ⟨vs, s _ _ e1 (fun _ z => nomatch z), Iss.away s q⟩
  | obj c fs =>
    obtain ⟨C, dx, gs, e1, e2, e3, q⟩ := this
    exact ⟨C, dx, gs, e1, s _ _ e2 (fun _ z => nomatch z), e3, Iss.away s q⟩
  | dct kvs =>
    obtain ⟨vs, e1, e2, q⟩ := this
    exact ⟨vs, s _ _ e1 (fun _ z => nomatch z), e2, Iss.away s q⟩
structure XFit (X : Cx) (Wx : XW) : Prop where
 xr : ∀ pins σ H s a C dx c n P0 H0 P M, Inv X pins σ H s → H a = some (xo a C dx true) → ¬ P.bd a → H0 a = none → LtE P0 H0 P H → Hk X.K X.mg P H M → X.mg c = some (.ref C) → XN H n dx → Wx P0 H0 M c n → X.xe (.ref a) s
section
variable {X : Cx} {Wx : XW} {pos : Pos}
def sRaise (c : Str) (f : E) : S := fun env M => bndS (f env M) fun _ M1 => some (.ex c 0, M1)
theorem ss_raise {c : Str} {C : Addr} {e : Expr} {f : E} {p q : Pos} (F : XFit X Wx) (hc : X.calm = true) (m : X.mg c = some (.ref C)) (q1 : xcIn X.K C = true) (q2 : xnoIn X.K C = true) (kp : PySem.W.keepIn X.K (.ref C) = true) (hg : Gl X c) (he : SE X Wx .val e f) (hdb : (c == ("__debug__" : Str)) = false := by decide +kernel)
  (hs : starEach [e] X.env = [(false, eval e X.env)] := by rfl) : SS X Wx (.Raise (some (.Call (.Name c p) [e] [] q)) none pos) (sRaise c f) := by
 refine ps_imp (ps_raise (W := fun a C' dx H => dx = none ∧ C' = C ∧ ∃ P0 H0 P M, ¬ P.bd a ∧ H0 a = none ∧ LtE P0 H0 P H ∧ Hk X.K X.mg P H M ∧ Wx P0 H0 M c 0) (pe_plain q1 q2 kp hg m he hdb hs) hc fun pins σ H s a C' dx I ea ⟨e1, e2, P0, H0, P, M, b, n, l, h, w⟩ => ?_) ?_
 ·subst e1 e2
  exact F.xr pins σ H s a _ none c 0 P0 H0 P M I ea b n l h m rfl w
 ·rintro D st H ⟨P0, H0, P, Os, env, M, out, M', k, e, q⟩
  unfold sRaise at e
  rcases bndS_inv e with ⟨d, M1, e1, e⟩ | ⟨c, n, e1, rfl⟩
  ·cases e
   refine ⟨P0, H0, P, Os, env, M, _, _, k, e1, fun P1 v H1 l1 h1 i1 => ⟨rfl, fun a ha => ⟨a, C, none, rfl, upd_same, q1, rfl, rfl, P0, H0, P1, _, h1.new a ha, ?_, ?_, ?_, q⟩⟩⟩
   ·exact k.base.sure a (l1.sure a ha)
   ·exact k.base.trans (l1.trans (LtE.same (same_new ha)))
   ·exact h1.same (same_new ha)
  ·exact ⟨P0, H0, P, Os, env, M, _, _, k, e1, q⟩
end
section
variable {P : Program} {w : World} {K : PySem.W.Frag} {mg : Str → Option Value} {base : Heap} {k : Nat} {x qual : Str} {st : Stmt} {f : Addr} {fd : FuncData} {N ps : List Str} {b : S}
abbrev cxX (P : Program) (w : World) (K : PySem.W.Frag) (mg : Str → Option Value) (base : Heap) (N : List Str) (qual : Str) (st : Stmt) (f : Addr) (cdv : Value) (A : Around) (outer : List PySem.Env) (s : Shared) (H : Hp) (E : XK) : Cx := cxOf (CX1 P w) P w K mg base N qual (defScope st) f cdv A outer s H E
end
section
variable {P : Program} {w : World} {K : PySem.W.Frag} {mg : Str → Option Value} {base : Heap} {k : Nat} {x qual : Str} {st : Stmt} {f : Addr} {fd : FuncData} {N ps : List Str} {b : S}
theorem fnok_still {sp : Sp} (F : FnOk P w K mg base (CX1 P w) k f fd ps sp) : FnOk P w K mg base CX0 k f fd ps (fun vs H Q _ => sp vs H Q E0) :=
 ⟨fun vs H Q E h => F.len vs H Q E0 h, fun A outer s H args us vs Q E hr he hb hv hs => codeAny_mono (F.run A outer s H args us vs Q E0 hr he hb hv hs) fun r s' z => by
  cases r with
  | error e => obtain ⟨_, _, _, _, _, _, _, _, _, _, _, _, _, _, z⟩ := z; exact z
  | ok fl => cases fl <;> exact z⟩
theorem fnok_quiet {n : Nat} {g : G} (F : FnOk P w K mg base (CX1 P w) k f fd ps (spX K mg n g)) : FnOk P w K mg base CX0 k f fd ps (spG K mg n g) := by
 have F0 := fnok_still F
 refine ⟨fun vs H Q E h => F0.len vs H Q E ?_, fun A outer s H args us vs Q E hr he hb hv hs => F0.run A outer s H args us vs Q E hr he hb hv ?_⟩
 ·obtain ⟨hl, P, M, ds, d, M', hk, is, e, q⟩ := h
  exact ⟨hl, P, M, ds, .v d, M', hk, is, e, q⟩
 ·obtain ⟨hl, P, M, ds, d, M', hk, is, e, q⟩ := hs
  exact ⟨hl, P, M, ds, .v d, M', hk, is, e, q⟩
def AtMX (P : Program) (w : World) (K : PySem.W.Frag) (mg : Str → Option Value) (base : Heap) (k : Nat) (C : Addr) (m : Str) (n : Nat) (g : G) : Prop :=
 ∃ f fd ps, Meth K C m f ∧ FnOk P w K mg base (CX1 P w) k f fd ps (spX K mg n g) ∧ Binds K fd ps []
def AtIX (P : Program) (w : World) (K : PySem.W.Frag) (mg : Str → Option Value) (base : Heap) (k : Nat) (C : Addr) (n : Nat) (g : G) : Prop :=
 ∃ f fd ps, Mk K C f ∧ FnOk P w K mg base (CX1 P w) k f fd ps (spX K mg n g) ∧ Binds K fd ps []
def AtX (P : Program) (w : World) (K : PySem.W.Frag) (mg : Str → Option Value) (base : Heap) (k : Nat) (f : Str) (n : Nat) (g : G) : Prop :=
 ∃ fa fd ps, mg f = some (.ref fa) ∧ PySem.W.keepIn K (.ref fa) = true ∧ FnOk P w K mg base (CX1 P w) k fa fd ps (spX K mg n g) ∧ Binds K fd ps []
theorem AtMX.quiet {C : Addr} {m : Str} {n : Nat} {g : G} (a : AtMX P w K mg base k C m n g) : AtM P w K mg base k C m n g := by
 obtain ⟨f, fd, ps, h1, h2, h3⟩ := a
 exact ⟨f, fd, ps, h1, fnok_quiet h2, h3⟩
theorem AtIX.quiet {C : Addr} {n : Nat} {g : G} (a : AtIX P w K mg base k C n g) : AtI P w K mg base k C n g := by
 obtain ⟨f, fd, ps, h1, h2, h3⟩ := a
 exact ⟨f, fd, ps, h1, fnok_quiet h2, h3⟩
theorem AtX.quiet {n : Nat} {g : G} (a : AtX P w K mg base k x n g) : AtG P w K mg base k x n g := by
 obtain ⟨fa, fd, ps, h1, h2, h3, h4⟩ := a
 exact ⟨fa, fd, ps, [], [], _, h1, h2, fnok_quiet h3, h4, .nil, fun vs H Q E h => by rw [List.append_nil]; exact h⟩
theorem AtMX.mono {j : Nat} {C : Addr} {m : Str} {n : Nat} {g : G} (a : AtMX P w K mg base j C m n g) (h : j ≤ k) : AtMX P w K mg base k C m n g := by
 obtain ⟨f, fd, ps, h1, h2, h3⟩ := a
 exact ⟨f, fd, ps, h1, h2.mono h, h3⟩
theorem AtIX.mono {j : Nat} {C : Addr} {n : Nat} {g : G} (a : AtIX P w K mg base j C n g) (h : j ≤ k) : AtIX P w K mg base k C n g := by
 obtain ⟨f, fd, ps, h1, h2, h3⟩ := a
 exact ⟨f, fd, ps, h1, h2.mono h, h3⟩
theorem AtX.mono {j : Nat} {n : Nat} {g : G} (a : AtX P w K mg base j x n g) (h : j ≤ k) : AtX P w K mg base k x n g := by
 obtain ⟨f, fd, ps, h1, h2, h3, h4⟩ := a
 exact ⟨f, fd, ps, h1, h2, h3.mono h, h4⟩
end
end E3
namespace L2
open PySem PySem.Spec PyProof.Rows
section
variable {X : Cx} {CX : CXT} {k : Nat} {f C : Addr} {fd : FuncData} {ps : List Str} {sp : Sp} {x m : Str} {p pos apos : Pos} {e o : Expr} {es : List Expr} {ta : TE} {t : TA} {Ex : St → XK}
def PassX (CX : CXT) (X : Cx) (Ex : St → XK) : Prop := ∀ pins σ H s e s', Inv X pins σ H s → CX X.stack H s (Ex σ) e s' → X.xe e s'
end
end L2
namespace E3
open PySem PySem.Spec PyProof.Rows L2
section
variable {X : Cx} {Wx : XW} {pos : Pos}
def SX (X : Cx) (e : Expr) (f : E) : Prop := ∀ Ex : L2.St → XK, PassX (CX1 X.prog X.w) X Ex → PE X e fun st H Q => ∃ P0 H0 P Os env M r M', Ok X.K X.mg P0 H0 P Os H M st env ∧ f env M = some (r, M') ∧ XQ X.K X.mg P H M' Q (Ex st) r
theorem XQ.lt {K : PySem.W.Frag} {mg : Str → Option Value} {P P1 : Pl} {H H1 : Hp} {M' : Mm} {Q : VK} {E : XK} {r : Res} (l : LtE P H P1 H1) (q : XQ K mg P H M' Q E r) : XQ K mg P1 H1 M' Q E r := by
 cases r with
 | v d => exact fun P' v H' l' h i => q P' v H' (l.trans l') h i
 | x c n => exact fun P' H' C dx l' h m xn => q P' H' C dx (l.trans l') h m xn
def sCallX (g : G) (fs : EA) : E := fun env M => match fs env M with
 | some (.v ds, M1) => g ds M1
 | _ => none
theorem sx_call {k n : Nat} {f : Str} {g : G} {e : Expr} {es : List Expr} {fs : EA} {p : Pos} (a : AtX X.prog X.w X.K X.mg X.base k f n g) (hr : Room k X.A) (hg : Gl X f) (ha : SA X W0 .val (e :: es) fs) (hn : Cnt n fs) (hdb : (f == ("__debug__" : Str)) = false := by decide +kernel)
  (he : starEach (e :: es) X.env = (false, eval e X.env) :: starEach es X.env := by rfl) (hpl : (backTo pos (starEach es X.env)).any (·.1) = false := by rfl) : SX X (.Call (.Name f p) (e :: es) [] pos) (sCallX g fs) := by
 obtain ⟨fa, fd, ps, hm, hk, F, hb⟩ := a
 intro Ex hx
 refine pe_imp (pe_callX F hr hg hm hk hb .nil hx ha hdb he hpl) ?_
 rintro st H Q ⟨P0, H0, P, Os, env, M, r, M', k, e, q⟩
 unfold sCallX at e
 split at e
 ·rename_i ds M1 e1
  exact ⟨P0, H0, P, Os, env, M, _, _, k, e1, fun P1 vs H1 l1 h1 i1 => by
   dsimp only
   rw [List.append_nil]
   exact ⟨by rw [i1.len]; exact hn _ _ _ _ e1, P1, M1, ds, r, _, h1, i1.iss, e, q.lt l1⟩⟩
 ·cases e
def PostX (K : PySem.W.Frag) (mg : Str → Option Value) (E : XK) (P0 : Pl) (H0 : Hp) (P : Pl) (H : Hp) (M' : Mm) (D : Ends) : Out → Prop
 | .ex c n => ∀ P' H' C dx, LtE P H P' H' → Hk K mg P' H' M' → mg c = some (.ref C) → XN H' n dx → E (.ref C) dx H'
 | .nx env => Post K mg W0 P0 H0 P H M' D (.nx env)
 | .bk env => Post K mg W0 P0 H0 P H M' D (.bk env)
 | .ct env => Post K mg W0 P0 H0 P H M' D (.ct env)
 | .rt d => Post K mg W0 P0 H0 P H M' D (.rt d)
theorem PostX.lt {K : PySem.W.Frag} {mg : Str → Option Value} {E : XK} {P0 P P1 : Pl} {H0 H H1 : Hp} {M M' : Mm} {D : Ends} {o : Out} (h : Hk K mg P H M) (l : LtE P H P1 H1) (q : PostX K mg E P0 H0 P H M' D o) : PostX K mg E P0 H0 P1 H1 M' D o := by
 cases o with
 | ex c n => exact fun P' H' C dx l' h m xn => q P' H' C dx (l.trans l') h m xn
 | nx env => exact Post.lt (Wx := W0) (o := .nx env) (l.lt h) q
 | bk env => exact Post.lt (Wx := W0) (o := .bk env) (l.lt h) q
 | ct env => exact Post.lt (Wx := W0) (o := .ct env) (l.lt h) q
 | rt d => exact Post.lt (Wx := W0) (o := .rt d) (l.lt h) q
def tBX (K : PySem.W.Frag) (mg : Str → Option Value) (Ex : L2.St → XK) (b : S) : TS := fun D st H => ∃ P0 H0 P Os env M out M', Ok K mg P0 H0 P Os H M st env ∧ b env M = some (out, M') ∧ PostX K mg (Ex st) P0 H0 P H M' D out
def SXs (X : Cx) (s : Stmt) (b : S) : Prop := ∀ Ex : L2.St → XK, PassX (CX1 X.prog X.w) X Ex → PS X s (tBX X.K X.mg Ex b)
def BX (X : Cx) (ss : List Stmt) (b : S) : Prop := ∀ Ex : L2.St → XK, PassX (CX1 X.prog X.w) X Ex → PSs X ss (tBX X.K X.mg Ex b)
theorem bx_one {s : Stmt} {b : S} (h : SXs X s b) : BX X [s] b := fun Ex hx => pss_one (h Ex hx)
theorem sx_drop {e : Expr} {f : E} (h : SX X e f) (hs : swapsWith e none pos.line X.env = pure false := by rfl) : SXs X (.Expr e pos) (sDrop f) := by
 intro Ex hx
 refine ps_imp (ps_expr (h Ex hx) hs) ?_
 rintro D st H ⟨P0, H0, P, Os, env, M, out, M', k, e, q⟩
 unfold sDrop at e
 rcases bndS_inv e with ⟨d, M1, e1, e⟩ | ⟨c, n, e1, rfl⟩
 ·cases e
  exact ⟨P0, H0, P, Os, env, M, _, _, k, e1, fun P1 v H1 l1 h1 i1 => q _ _ _ _ (l1.lt k.hk) (k.next l1 h1)⟩
 ·exact ⟨P0, H0, P, Os, env, M, _, _, k, e1, q⟩
end
end E3
namespace L2
open PySem PySem.Spec PyProof.Rows
section
variable {prog : Program} {w : World} {A : Around} {E : Value → Shared → Prop} {s : Shared} {K : PySem.W.Frag} {x C : Addr} {ox : Obj} {od : Option Obj} {name : Str} {tk : Tok}
theorem findObj_any {a g : Value} (hc : (PySem.W.clsIn K C).isSome = true) (ha : PySem.W.findIn K (.ref C) name = some (some a)) (hg : PySem.W.specialIn K a "__get__" = some (some g)) (ht : PySem.W.takesIn K a = some true) : PySem.W.findObj K C od name = some (.bind g a) := by
 obtain ⟨cd, hc⟩ := Option.isSome_iff_exists.mp hc
 unfold PySem.W.findObj
 rw [hc, Option.bind_some, ha, Option.bind_some]
 simp [hg, ht]
theorem x_classO {Q : Option Value → Shared → Prop} (X : K.In s.heap) (q : xgaIn K C = true) (I : PySem.W.InstAt s.heap x ox C od) (h1 : PySem.W.hasDictIn K C = true) (h2 : PySem.W.findIn K (.ref C) "__class__" = some (some (.builtin "object.__class__")))
  (h3 : PySem.W.specialIn K (.builtin "object.__class__") "__get__" = some (some (.builtin "getset_descriptor.__get__"))) (h4 : PySem.W.takesIn K (.builtin "object.__class__") = some true) (h5 : PySem.W.mroIn K C (.type "object") = some true)
  (k : Q (some (.ref C)) { s with toks := s.toks + 1 }) : wpAny (model prog w) A (getAttr? (.ref x) "__class__") Q E s := by
 have hf : PySem.W.findObj K C od "__class__" = some (.bind (.builtin "getset_descriptor.__get__") (.builtin "object.__class__")) := findObj_any (by obtain ⟨cd, hc, _⟩ := PySem.W.any_some h1; rw [hc]; rfl) h2 h3 h4
 unfold getAttr? getAttrBy?
 refine wpAny_bind (wpAny_mkText (wpAny_bind (wpAny_attempt (x_by (s := { s with toks := s.toks + 1 }) X q I ?_))))
 refine x_bound (s := { s with toks := s.toks + 1 }) X I hf (wpAny_call (PySem.W.class_get (s := { s with toks := s.toks + 1 }) X I h5 ?_))
 exact PySem.W.handed_on rfl (wpAny_pure k)
end
def rXi (K : PySem.W.Frag) : List V → Hp → VK → Prop := fun xs H Q => ∃ a C dx b0 c cv b, xs = [.ref a, cv] ∧ H a = some (xo a C dx b0) ∧ xisIn K C = true ∧ (∀ d, dx = some d → ∃ fs, H d = some (.xd fs)) ∧ absU cv = some c ∧ PySem.W.kitOne K (.ref C) c = some b ∧ Q (.bl b) H
theorem call_xi {X : Cx} : CallR X (.builtin "isinstance") (rXi X.K) := by
  intro pins s σ H vs us Q I r h
  obtain ⟨a, C, dx, b0, c, cv, b, rfl, ea, q, hdx, hc, hk, hq⟩ := h
  simp only [xisIn, Bool.and_eq_true, beq_iff_eq] at q
  obtain ⟨q1, q2, q3, q4, q5, q6⟩ := q
  obtain ⟨oe, ws, t, e1, e2, e3, e4, _⟩ := xo_get I.hok ea
  have J : ∃ od, PySem.W.InstAt s.heap a oe C od := by
    cases dx with
    | none => exact ⟨none, e1, e2, by unfold PySem.W.notCls; rw [e4], by rw [e3]; exact True.intro⟩
    | some d =>
      obtain ⟨fs, ed⟩ := hdx d rfl
      obtain ⟨mA, n, _⟩ := (show ObjOk X.prog X.w H s.heap d (.xd fs) from I.hok d _ ed)
      obtain ⟨od, d1, _⟩ := lookIn_ns n
      exact ⟨some od, e1, e2, by unfold PySem.W.notCls; rw [e4], by rw [e3]; exact d1⟩
  obtain ⟨od, J⟩ := J
  have Z : PySem.W.KitX X.K (.ref a) (.ref C) (fun h => PySem.W.InstAt h a oe C od) := by
    obtain ⟨cd0, hc0, _⟩ := PySem.W.any_some q2
    have lk0 : ∃ c' d' cd' sl', X.K.lookup C = some ⟨c', d', .cls cd', sl'⟩ := by
      unfold PySem.W.clsIn at hc0
      split at hc0
      · rename_i ho; exact ⟨_, _, _, _, ho⟩
      · cases hc0
    obtain ⟨c', d', cd', sl', ho⟩ := lk0
    refine ⟨fun _ _ _ I => I.type, fun _ _ XX _ => ?_, fun h tp dd its n sl XX ht => Bool.eq_false_iff.mpr fun z => ?_, fun XX I k => x_classO XX q1 I q2 q3 q4 q5 q6 k⟩
    · intro A' Q' E' s' k z
      unfold isType loadHead
      exact wpAny_bind (wpAny_loadPart (k _ _ (XX _ _ ho)) (wpAny_pure z))
    · have z := beq_iff_eq.mp z
      cases z
      have y := (XX _ _ ho).symm.trans ht
      cases y
  cases r with
  | cons r1 r2 =>
    cases r2 with
    | cons r3 r4 =>
      cases r4
      cases r1
      rw [absU_of r3 hc]
      exact PySem.W.kia_one Z I.kIn J hk (fun z => nomatch z) fun tk => ⟨.bl b, H, I.tok tk, rfl, hq⟩
end L2
namespace E3
open PySem PySem.Spec PyProof.Rows L2
section
variable {K : PySem.W.Frag} {mg : Str → Option Value} {P0 P : Pl} {H0 H : Hp} {M : Mm} {Os : List (Option Addr)} {st : L2.St} {env : Env} {i : Nat}
theorem Ok.put {s : Slot} {sv : Option V} (k : Ok K mg P0 H0 P Os H M st env) (hi : i < env.length) (h : SlotOk K mg P H none sv s) : Ok K mg P0 H0 P (Os.set i none) H M (st.set i sv) (env.set i s) where
 hk := k.hk
 base := k.base
 b0 := k.b0
 slot := fun j s e => by
  rw [set_join _ _ _ _ (by rw [k.olen]; exact hi), set_join _ _ _ _ (by rw [k.slen]; exact hi)]
  rw [List.getElem?_set] at e
  split at e
  ·rename_i ij
   subst ij
   cases e
   rw [if_pos rfl, if_pos rfl]
   exact h
  ·rename_i ij
   rw [if_neg ij, if_neg ij]
   exact k.slot j s e
 own := fun a h => k.own a (by
  rcases List.mem_or_eq_of_mem_set h with h | h
  ·exact h
  ·cases h)
 inj := fun j l a e1 e2 => by
  rw [List.getElem?_set] at e1 e2
  split at e1
  ·split at e1 <;> cases e1
  ·split at e2
   ·split at e2 <;> cases e2
   ·exact k.inj j l a e1 e2
 olen := by rw [List.length_set, List.length_set, k.olen]
 slen := by rw [List.length_set, List.length_set, k.slen]
end
section
variable {X : Cx} {Wx : XW} {m : Mode} {pos : Pos}
def sTry (i : Nat) (cat : Str → Bool) (b h : S) : S := fun env M => match b env M with
  | some (.ex c n, M1) => if cat c = true then (if i < env.length then (match h (env.set i (.exc c n)) M1 with
    | some (.nx env', M2) => (match env'[i]? with
      | some (.exc _ _) => some (.nx (env'.set i .un), M2)
      | _ => none)
    | some (.rt d, M2) => some (.rt d, M2)
    | _ => none) else none) else none
  | o => o
theorem ss_try {body suite : List Stmt} {b0 : Stmt} {cn n : Str} {np hp : Pos} {c : Addr} {i : Nat} {b h : S} {cat : Str → Bool}
    (hs : X.stack = X.env :: X.outer) (hf : X.env.frame = some X.env.locals) (hc : X.calm = true) (hN : X.N.Nodup) (hi : X.N[i]? = some n) (hl : X.env.scope.names.lookup n = some .local) (hg : Gl X cn) (hm : X.mg cn = some (.ref c)) (q : xcIn X.K c = true)
    (hcat : ∀ c', cat c' = true → ∃ C, X.mg c' = some (.ref C) ∧ xcIn X.K C = true ∧ supIn X.K C c = true) (hb : ∀ pins E, BX (X.pin pins E) body b) (hh : ∀ e, SB (X.suite e) W0 (b0 :: suite) h) (hdb : (cn == ("__debug__" : Str)) = false := by decide +kernel) :
    SS X Wx (.Try body [.ExceptHandler (some (.Name cn np)) (some n) (b0 :: suite) hp] [] [] pos) (sTry i cat b h) := by
  let Ex : Ends → L2.St → XK := fun D σ Cv dx H' => ∀ a C, Cv = .ref C → H' a = some (xo a C dx false) → xcIn X.K C = true ∧ supIn X.K C c = true ∧ tS X.K X.mg W0 h { D with nx := fun σ H => ∃ v, σ[i]? = some (some v) ∧ D.nx (σ.set i none) H, bk := fun _ _ => False, ct := fun _ _ => False } (σ.set i (some (.ref a))) H'
  refine ps_imp (ps_tryR (tb := fun D => tBX X.K X.mg (Ex D) b) (th := tS X.K X.mg W0 h) hs hf hc hN hi hl hg hm q hdb (fun pins D => hb pins _ (Ex D) fun pins' σ H s e s' I z => ?_) hh) ?_
  · obtain ⟨a, C, dx, H', T, rfl, K1, hE⟩ := caught_of (X := X) I.of_pin z
    obtain ⟨z1, z2, z3⟩ := hE a C rfl K1.obj
    exact ⟨σ, H', a, C, dx, T, rfl, K1, z1, z2, z3⟩
  · rintro D st H ⟨P0, H0, P, Os, env, M, out, M', k, e, q⟩
    unfold sTry at e
    split at e
    · rename_i c' n' M1 e1
      split at e
      · rename_i hct
        split at e
        · rename_i hil
          obtain ⟨C, hmC, x1, x2⟩ := hcat c' hct
          refine ⟨P0, H0, P, Os, env, M, _, _, k, e1, fun P1 H1 C1 dx l1 h1 m1 xn a C2 eC ea => ?_⟩
          cases eC
          cases hmC.symm.trans m1
          have k1 := (k.next l1 h1).put (s := .exc c' n') (sv := some (.ref a)) hil ⟨_, rfl, a, C, dx, rfl, m1, ea, xn⟩
          refine ⟨x1, x2, ?_⟩
          split at e
          · rename_i env' M2 e2
            split at e
            · rename_i c3 n3 ex
              cases e
              refine ⟨P0, H0, P1, _, _, M1, _, _, k1, e2, fun P2 Os2 H2 st2 l2 k2 => ?_⟩
              obtain ⟨v, ev, _⟩ := k2.slot i _ ex
              exact ⟨v, join_get ev, q P2 _ H2 _ ((l1.lt k.hk).trans l2) (k2.put (s := .un) (sv := none) (List.getElem?_eq_some_iff.mp ex).1 True.intro)⟩
            · cases e
          · rename_i d M2 e2
            cases e
            exact ⟨P0, H0, P1, _, _, M1, _, _, k1, e2, q⟩
          · cases e
        · cases e
      · cases e
    · rename_i o hne
      refine ⟨P0, H0, P, Os, env, M, _, _, k, e, ?_⟩
      cases out with
      | ex c n => exact absurd e (hne c n M')
      | nx env => exact q
      | bk env => exact q
      | ct env => exact q
      | rt d => exact q
def sIsX (i : Nat) (tb : Str → Option Bool) : E := fun env M => match env[i]? with
 | some (.exc c _) => (tb c).map fun b => (.v (.bl b), M)
 | _ => none
def SupT (X : Cx) (u : Value) (tb : Str → Option Bool) : Prop := ∀ c b, tb c = some b → ∃ C, X.mg c = some (.ref C) ∧ xisIn X.K C = true ∧ PySem.W.kitOne X.K (.ref C) u = some b
theorem isx_go {i : Nat} {tb : Str → Option Bool} {u : Value} {cv : V} {st : L2.St} {H : Hp} {Q : VK} (hu : absU cv = some u) (ht : SupT X u tb) (w : tE X.K X.mg Wx m (sIsX i tb) st H Q) : ∃ v, st[i]? = some (some v) ∧ rXi X.K [v, cv] H Q := by
 obtain ⟨P0, H0, P, Os, env, M, r, M', k, e, q⟩ := w
 unfold sIsX at e
 split at e
 ·rename_i c n hs
  rw [Option.map_eq_some_iff] at e
  obtain ⟨b, eb, e⟩ := e
  cases e
  obtain ⟨v, ev, a, C, dx, rfl, m1, ea, xn⟩ := k.slot i _ hs
  obtain ⟨C2, m2, x2, k2⟩ := ht c b eb
  cases m1.symm.trans m2
  refine ⟨_, join_get ev, a, C, dx, false, u, cv, b, rfl, ea, x2, fun d hd => ?_, hu, k2, q P _ H (LtE.refl P H) k.hk (IsM.of k.hk (show Is _ _ _ (.bl b) _ from rfl))⟩
  subst hd
  obtain ⟨fs, ed, _⟩ := xn
  exact ⟨fs, ed⟩
 ·cases e
theorem se_isx {i : Nat} {x cn : Str} {c : Addr} {tb : Str → Option Bool} {p p' p2 : Pos} (hN : X.N[i]? = some x) (hv : X.env.scope.names.lookup x = some .local) (ht : SupT X (.ref c) tb) (hg : Gl X "isinstance") (hm : X.mg "isinstance" = none) (hg' : Gl X cn) (hm' : X.mg cn = some (.ref c)) (hd : (x == ("__debug__" : Str)) = false := by decide +kernel) (hcd : (x == ("__classdict__" : Str)) = false := by decide +kernel) (hd' : (cn == ("__debug__" : Str)) = false := by decide +kernel)
  (hs : starEach [.Name x p2, .Name cn p'] X.env = (false, eval (.Name x p2) X.env) :: starEach [.Name cn p'] X.env := by rfl) : SE X Wx m (.Call (.Name "isinstance" p) [.Name x p2, .Name cn p'] [] pos) (sIsX i tb) := by
 refine pe_imp (pe_callB call_xi hg hm boot_isinstance (pa_cons (pe_var hN (.inl hv) hd hcd) (pa_cons (pe_glob hg' hm' (v := .ref c) rfl hd') pa_nil) hs) (by decide +kernel) (by decide +kernel) hs rfl) ?_
 intro st H Q w
 exact isx_go rfl ht w
theorem se_isxB {i : Nat} {x : Str} {T : String} {tb : Str → Option Bool} {p p' p2 : Pos} (hN : X.N[i]? = some x) (hv : X.env.scope.names.lookup x = some .local) (ht : SupT X (.type T) tb) (hg : Gl X "isinstance") (hm : X.mg "isinstance" = none) (hg' : Gl X (Str.ofString T)) (hm' : X.mg (Str.ofString T) = none) (hT : bootBuiltins (Str.ofString T) = some (.type T)) (hd : (x == ("__debug__" : Str)) = false := by decide +kernel) (hcd : (x == ("__classdict__" : Str)) = false := by decide +kernel)
  (n1 : Str.ofString T ≠ "__name__" := by decide +kernel) (n2 : (Str.ofString T == ("__debug__" : Str)) = false := by decide +kernel)
  (hs : starEach [.Name x p2, .Name (Str.ofString T) p'] X.env = (false, eval (.Name x p2) X.env) :: starEach [.Name (Str.ofString T) p'] X.env := by rfl) : SE X Wx m (.Call (.Name "isinstance" p) [.Name x p2, .Name (Str.ofString T) p'] [] pos) (sIsX i tb) := by
 refine pe_imp (pe_callB call_xi hg hm boot_isinstance (pa_cons (pe_var hN (.inl hv) hd hcd) (pa_cons (pe_bltn hg' hm' hT (v := .ty T) rfl n1 n2) pa_nil) hs) (by decide +kernel) (by decide +kernel) hs rfl) ?_
 intro st H Q w
 exact isx_go rfl ht w
end
end E3
namespace E3
open PySem PySem.Spec PyProof.Rows L2
section
variable {X : Cx} {Wx : XW} {m : Mode} {pos : Pos}
end
section
variable {X : Cx} {Wx : XW}
def iTp (f : E) : EA := fun env M => match f env M with
 | some (.v (.tup ds), M1) => some (.v ds, M1)
 | some (.x c n, M1) => some (.x c n, M1)
 | _ => none
theorem si_tp {tg e : Expr} {f : E} (h : SE X Wx .val e f) : SI X Wx tg e (iTp f) := by
 refine pi_imp (pi_tup h) ?_
 rintro st H R ⟨P0, H0, P, Os, env, M, r, M', k, e, q⟩
 unfold iTp at e
 split at e
 ·rename_i ds M1 ef
  cases e
  refine ⟨P0, H0, P, Os, env, M, _, _, k, ef, fun P1 v1 H1 l1 h1 i1 => ?_⟩
  obtain ⟨a, vs, rfl, ra, is⟩ := i1
  refine ⟨a, rfl, ⟨vs, ra⟩, q P1 H1 _ l1 h1 fun P2 H2 l2 => ?_⟩
  have sq : SqT X.K H2 a vs := l2.tup ra
  have is2 := Iss.lt l2 is
  refine ⟨fun j hj => ?_, fun j h1 h2 => ⟨vs, sq, by rw [is2.len]; exact h1⟩, fun j x H' y hj => ⟨y.1, ?_⟩⟩
  ·obtain ⟨v, ev, _⟩ := Iss.get is2 (List.getElem?_eq_getElem hj)
   exact ⟨vs, v, sq, ev⟩
  ·obtain ⟨v, ev, iv⟩ := Iss.get is2 (List.getElem?_eq_getElem hj)
   have := y.2 vs sq
   rw [ev] at this
   cases this
   exact ⟨_, List.getElem?_eq_getElem hj, iv⟩
 ·rename_i c n M1 ef
  cases e
  exact ⟨P0, H0, P, Os, env, M, _, _, k, ef, q⟩
 ·cases e
end
theorem xga_mk {K : PySem.W.Frag} {C : Addr} (h1 : PySem.W.findIn K (.ref C) "__getattribute__" = some (some (.builtin "BaseException.__getattribute__"))) (h2 : PySem.W.findIn K (.ref C) "__getattr__" = some none) (h3 : PySem.W.mroIn K C (.type "BaseException") = some true) : xgaIn K C = true := by
 simp only [xgaIn, h1, h2, h3, beq_self_eq_true, Bool.and_self]
theorem xis_mk {K : PySem.W.Frag} {C : Addr} (h1 : xgaIn K C = true) (h2 : PySem.W.hasDictIn K C = true) (h3 : PySem.W.findIn K (.ref C) "__class__" = some (some (.builtin "object.__class__"))) (h4 : PySem.W.specialIn K (.builtin "object.__class__") "__get__" = some (some (.builtin "getset_descriptor.__get__")))
  (h5 : PySem.W.takesIn K (.builtin "object.__class__") = some true) (h6 : PySem.W.mroIn K C (.type "object") = some true) : xisIn K C = true := by
 simp only [xisIn, h1, h2, h3, h4, h5, h6, beq_self_eq_true, Bool.and_self]
end E3
namespace E3
open PySem L2
section
variable {env : Env} {M M1 M2 : Mm} {f g o v : E} {d e x : D} {i : Int} {k : Nat} {ds : List D} {s t : S} {c me fl : Str} {fs : List (Str × D)} {gg : G} {fa : EA}
theorem r_endX {a : Int} : endS (some (.ex c a, M)) = some (.x c a, M) := rfl
def tpR : O → Option (ResA × Mm)
 | some (.v (.tup ds), M1) => some (.v ds, M1)
 | some (.x c n, M1) => some (.x c n, M1)
 | _ => none
theorem q_itp : iTp f env M = tpR (f env M) := by
  unfold iTp tpR
  cases f env M with
  | none => rfl
  | some p => obtain ⟨r, M'⟩ := p; cases r with
    | x c n => rfl
    | v d => cases d <;> rfl
theorem r_itp : tpR (some (.v (.tup ds), M)) = some (.v ds, M) := rfl
end
theorem AtI.mono {P : Program} {w : World} {K : PySem.W.Frag} {mg : Str → Option Value} {base : Heap} {j k : Nat} {C : Addr} {n : Nat} {g : G} (a : AtI P w K mg base j C n g) (h : j ≤ k) : AtI P w K mg base k C n g := by
 obtain ⟨f, fd, ps, h1, h2, h3⟩ := a
 exact ⟨f, fd, ps, h1, h2.mono h, h3⟩
end E3
namespace E3
open PySem PySem.Spec PyProof.Rows L2
theorem se_vV {X : Cx} {Wx : XW} {m : Mode} {i : Nat} {x : Str} {pos : Pos} (hN : X.N[i]? = some x) (hv : Vis X.env.scope x) (hd : (x == ("__debug__" : Str)) = false := by decide +kernel) (hcd : (x == ("__classdict__" : Str)) = false := by decide +kernel) : SE X Wx m (.Name x pos) (sVar i) := (se_var hN hv hd hcd).bor
def capE (cs : List (Str × Nat)) (env : Env) : Env := cs.map fun p => (env[p.2]?).getD .un
def capO (cs : List (Str × Nat)) (Os : List (Option Addr)) : List (Option Addr) := cs.map fun p => (Os[p.2]?).join
section
variable {K : PySem.W.Frag} {mg : Str → Option Value} {P0 P : Pl} {H0 H : Hp} {M : Mm} {Os : List (Option Addr)} {st : L2.St} {env : Env} {d : D} {v : V}
theorem capO_get {cs : List (Str × Nat)} {i : Nat} {a : Addr} (h : (capO cs Os)[i]? = some (some a)) : ∃ p, cs[i]? = some p ∧ Os[p.2]? = some (some a) := by
 unfold capO at h
 rw [List.getElem?_map, Option.map_eq_some_iff] at h
 obtain ⟨p, e, h⟩ := h
 exact ⟨p, e, join_get h⟩
theorem Ok.cap {cs : List (Str × Nat)} (k : Ok K mg P0 H0 P Os H M st env) (nd : (cs.map (·.2)).Nodup) (h : Is K P H d v) : Ok K mg P0 H0 P (none :: capO cs Os) H M (some v :: capSt cs st) (.val d :: capE cs env) where
  hk := k.hk
  base := k.base
  b0 := k.b0
  slot := fun i s e => by
    cases i with
    | zero => cases e; exact ⟨v, rfl, h⟩
    | succ i =>
      rw [List.getElem?_cons_succ] at e ⊢
      rw [List.getElem?_cons_succ]
      unfold capE at e
      rw [List.getElem?_map, Option.map_eq_some_iff] at e
      obtain ⟨p, ep, e⟩ := e
      have eo : ((capO cs Os)[i]?).join = (Os[p.2]?).join := by unfold capO; rw [List.getElem?_map, ep]; rfl
      have es : ((capSt cs st)[i]?).join = (st[p.2]?).join := by unfold capSt; rw [List.getElem?_map, ep]; rfl
      rw [eo, es]
      cases e' : env[p.2]? with
      | none => rw [e'] at e; cases e; exact True.intro
      | some s' => rw [e'] at e; cases e; exact k.slot _ _ e'
  own := fun a h => by
    rw [List.mem_cons] at h
    rcases h with h | h
    · cases h
    · obtain ⟨i, hi⟩ := List.mem_iff_getElem?.mp h
      obtain ⟨p, _, e⟩ := capO_get hi
      exact k.own a (List.mem_of_getElem? e)
  inj := fun i j a e1 e2 => by
    cases i with
    | zero => cases e1
    | succ i =>
      cases j with
      | zero => cases e2
      | succ j =>
        rw [List.getElem?_cons_succ] at e1 e2
        obtain ⟨p, h1, h2⟩ := capO_get e1
        obtain ⟨q, h3, h4⟩ := capO_get e2
        have e := k.inj _ _ a h2 h4
        congr 1
        have hi : (cs.map (·.2))[i]? = some p.2 := by rw [List.getElem?_map, h1]; rfl
        have hj : (cs.map (·.2))[j]? = some p.2 := by rw [List.getElem?_map, h3, e]; rfl
        have il := (List.getElem?_eq_some_iff.mp hi).1
        exact (List.getElem?_inj il nd).mp (hi.trans hj.symm)
  olen := by simp [capO, capE]
  slen := by simp [capSt, capE]
end
section
variable {X : Cx} {Wx : XW} {m : Mode} {pos : Pos}
def compL (q e : E) (env : Env) : List D → List D → Mm → Option (List D × Mm)
  | [], acc, M => some (acc, M)
  | d :: ds, acc, M => match q (.val d :: env) M with
    | some (.v (.bl true), M1) => (match e (.val d :: env) M1 with
      | some (.v y, M2) => if acc.length + 1 < sizeLine then compL q e env ds (acc ++ [y]) M2 else none
      | _ => none)
    | some (.v (.bl false), M1) => compL q e env ds acc M1
    | _ => none
def sComp (cs : List (Str × Nat)) (fs : EA) (q e : E) : E := fun env M => match fs env M with
  | some (.v ds, M1) => (match compL q e (capE cs env) ds [] M1 with
    | some (ys, M2) => some (.v (.lst ys), M2)
    | none => none)
  | some (.x c n, M1) => some (.x c n, M1)
  | none => none
theorem comp_is {cs : List (Str × Nat)} {fs : EA} {q e : E} : ∀ env M r M', sComp cs fs q e env M = some (.v r, M') → ∃ ds, r = .lst ds := fun env M r M' h => by
 unfold sComp at h
 split at h
 ·split at h
  ·cases h; exact ⟨_, rfl⟩
  ·cases h
 ·cases h
 ·cases h
theorem grow_ok {K : PySem.W.Frag} {mg : Str → Option Value} {P1 P : Pl} {H1 H : Hp} {M : Mm} {D : Addr} {vs vs' : List V} (l : LtE P1 H1 P H) (h : Hk K mg P H M) (hD : H1 D = none) (bD : P.bd D) (nc : ∀ k, k < P.n → P.io k ≠ D) (e : H D = some (.lst vs)) :
  Lt P H P (upd H D (.lst vs')) ∧ LtE P1 H1 P (upd H D (.lst vs')) ∧ Hk K mg P (upd H D (.lst vs')) M := by
 have lc : Lt P H P (upd H D (.lst vs')) := lt_chg bD e nf_lst
 refine ⟨lc, ⟨l.n, l.io, l.bd, l.bm, fun c o ec n => ?_, fun c z => l.sure c (lc.sure c z), l.nw⟩, ⟨h.n, fun j c ej => (h.cell j c ej).lt lc fun o eo => ?_, h.inj, h.bd, fun c z q => h.here c z (lc.sure c q)⟩⟩
 ·rw [upd_ne (fun z => by subst z; rw [hD] at ec; cases ec)]
  exact l.keep c o ec n
 ·rw [upd_ne (nc j (by rw [h.n]; exact (List.getElem?_eq_some_iff.mp ej).1))]
  exact eo
def NR (K : PySem.W.Frag) (mg : Str → Option Value) (Wx : XW) (P0 : Pl) (H0 : Hp) (P : Pl) (H : Hp) (M' : Mm) (R : Addr → Hp → Prop) : Res → Prop
 | .v d => ∃ ds, d = .lst ds ∧ ∀ P' a vs H', LtE P H P' H' → Hk K mg P' H' M' → H a = none → P'.bd a → (∀ k, k < P'.n → P'.io k ≠ a) → H' a = some (.lst vs) → Iss K P' H' ds vs → R a H'
 | .x c n => Wx P0 H0 M' c n
theorem comp_read {K : PySem.W.Frag} {mg : Str → Option Value} {cs : List (Str × Nat)} {fs : EA} {q e : E} {P0 P : Pl} {H0 H : Hp} {Os : List (Option Addr)} {M M' : Mm} {st : L2.St} {env : Env} {r : Res} {R : Addr → Hp → Prop} (nd : (cs.map (·.2)).Nodup)
    (k : Ok K mg P0 H0 P Os H M st env) (h : sComp cs fs q e env M = some (r, M')) (w : NR K mg Wx P0 H0 P H M' R r) : tCompR (tI K mg Wx fs) (tTt K mg W0 q) (tE K mg W0 .val e) cs st H R := by
  unfold sComp at h
  split at h
  · rename_i ds M1 ef
    split at h
    rotate_left
    · cases h
    rename_i ys M2 ec
    cases h
    obtain ⟨ds', e', w⟩ := w
    cases e'
    refine ⟨P0, H0, P, Os, env, M, _, _, k, ef, fun P1 H1 J l1 h1 wk D hD => ?_⟩
    obtain ⟨l2, h2, nc⟩ := bar_new (vs := []) h1 hD
    refine ⟨fun i m vs H2 => m = ds.length - i ∧ i ≤ ds.length ∧ ∃ P2 M3 acc, LtE P1 H1 P2 H2 ∧ Hk K mg P2 H2 M3 ∧ P2.bd D ∧ (∀ k, k < P2.n → P2.io k ≠ D) ∧ H2 D = some (.lst vs) ∧ Iss K P2 H2 acc vs ∧ acc.length < sizeLine ∧ compL q e (capE cs env) (ds.drop i) acc M3 = some (ys, M'),
      ⟨ds.length, by simp, Nat.zero_le _, P1.bar D, M1, [], l2, h2, .inr rfl, nc, upd_same, rfl, by decide +kernel, by rw [List.drop_zero]; exact ec⟩, ?_⟩
    rintro i m vs H2 ⟨rfl, hi, P2, M3, acc, l3, h3, bD, nD, eD, is, hz, ec⟩
    refine ⟨eD, ?_⟩
    obtain ⟨w1, w2, w3⟩ := wk P2 H2 (l3.lt h1)
    by_cases hlt : i < ds.length
    · refine .inr ⟨w1 i hlt, by rw [is.len]; exact hz, fun vs' H' => ∃ P2 M3 acc, LtE P1 H1 P2 H' ∧ Hk K mg P2 H' M3 ∧ P2.bd D ∧ (∀ k, k < P2.n → P2.io k ≠ D) ∧ H' D = some (.lst vs') ∧ Iss K P2 H' acc vs' ∧ acc.length < sizeLine ∧ compL q e (capE cs env) (ds.drop (i + 1)) acc M3 = some (ys, M'),
        fun vs' H' z => ⟨ds.length - (i + 1), by omega, rfl, hlt, z⟩, fun x H' y => ?_⟩
      obtain ⟨e3, d, ed, iv⟩ := w3 i x H' y hlt
      subst e3
      have ed' : ds.drop i = d :: ds.drop (i + 1) := by
        rw [List.drop_eq_getElem_cons hlt]
        rw [List.getElem?_eq_getElem hlt] at ed
        rw [Option.some.inj ed]
      rw [ed'] at ec
      have kk := ((k.next l1 h1).next l3 h3).cap (cs := cs) nd iv
      simp only [compL] at ec
      split at ec
      · rename_i M4 eq
        refine tTt_go kk eq ⟨true, rfl, fun P4 H4 l4 h4 => ?_⟩
        dsimp only
        rw [if_pos rfl]
        split at ec
        · rename_i y' M5 ee
          split at ec
          · rename_i hz'
            refine tE_go (kk.next l4 h4) ee fun P5 v5 H5 l5 h5 i5 => ?_
            have l45 := l4.trans l5
            have eD5 : H5 D = some (.lst vs) := l45.keep D _ eD nD
            have nD5 : ∀ k, k < P5.n → P5.io k ≠ D := l45.nc eD nD
            obtain ⟨g1, g2, g3⟩ := grow_ok (vs' := vs ++ [v5]) (l3.trans l45) h5 hD (l45.bm D bD) nD5 eD5
            refine ⟨eD5, P5, M5, acc ++ [y'], g2, g3, l45.bm D bD, nD5, upd_same, Iss.append (Iss.lt ((l45.lt h3).trans g1) is) (Iss.one (Is.lt g1 i5)), by rw [List.length_append]; exact hz', ec⟩
          · cases ec
        · cases ec
      · rename_i M4 eq
        refine tTt_go kk eq ⟨false, rfl, fun P4 H4 l4 h4 => ?_⟩
        dsimp only
        rw [if_neg (by decide)]
        exact ⟨P4, M4, acc, l3.trans l4, h4, l4.bm D bD, l4.nc eD nD, l4.keep D _ eD nD, Iss.lt (l4.lt h3) is, hz, ec⟩
      · cases ec
    · have ei : i = ds.length := by omega
      subst ei
      rw [List.drop_length] at ec
      cases ec
      exact .inl ⟨w2 _ (Nat.le_refl _) (Nat.le_refl _), w P2 D vs H2 (l1.trans l3) h3 (l1.sure D hD) bD nD eD is⟩
  · rename_i c n M1 ef
    cases h
    exact ⟨P0, H0, P, Os, env, M, _, _, k, ef, w⟩
  · cases h
def SQ (X : Cx) (ifs : List Expr) (q : E) : Prop := PIfs X ifs (tTt X.K X.mg W0 q)
theorem sq_none : SQ X [] (sCon (.bl true)) := fun pins s σ H Q I h => by
 obtain ⟨P0, H0, P, Os, env, M, r, M', k, e, q⟩ := h
 cases e
 obtain ⟨b, e2, q⟩ := q
 cases e2
 exact pifs_none pins s σ H Q I (q P H (LtE.refl P H) k.hk)
section
variable {elt iter : Expr} {ifs : List Expr} {scope : Scope} {fs : EA} {q e : E}
theorem sn_comp (x : Str) (cs : List (Str × Nat)) {px : Pos} (hc : X.calm = true) (nd : (cs.map (·.2)).Nodup) (hi : SI X Wx (.Name x px) iter fs)
  (hq : ∀ (cl : List (Str × Addr)) (C : Addr) (s₀ : Shared) (H₀ : Hp) (ex : List Addr) (pn : List (Addr × Obj)), SQ (compCx X (x :: cs.map (·.1)) scope cl C s₀ H₀ ex pn) ifs q)
  (he : ∀ (cl : List (Str × Addr)) (C : Addr) (s₀ : Shared) (H₀ : Hp) (ex : List Addr) (pn : List (Addr × Obj)), SE (compCx X (x :: cs.map (·.1)) scope cl C s₀ H₀ ex pn) W0 .val elt e)
  (ok : compOkB X.N X.env.scope x cs scope = true := by kernel_rfl) (hs : ∀ x, foldedSetIterable iter X.env x = pure x := by intro _; rfl) :
  SN X Wx (.ListComp elt [⟨.Name x px, iter, ifs, 0⟩] scope pos) (sComp cs fs q e) := by
 refine pe_imp (pe_comp (tq := tTt X.K X.mg W0 q) (te := tE X.K X.mg W0 .val e) x cs hc hi hq he ok hs) ?_
 rintro st H Q ⟨P0, H0, P, Os, env, M, r, M', k, e, w⟩
 refine comp_read nd k e ?_
 cases r with
 | v d => exact w
 | x c n => exact w
theorem frz_new {K : PySem.W.Frag} {mg : Str → Option Value} {P P' : Pl} {H H' : Hp} {M M' : Mm} {a : Addr} {vs : List V} {ds : List D} (k : Hk K mg P H M) (l : LtE P H P' H') (h : Hk K mg P' H' M') (ha : H a = none) (nc : ∀ j, j < P'.n → P'.io j ≠ a) (ea : H' a = some (.lst vs)) (is : Iss K P' H' ds vs) :
  LtE P H (P'.less (· ≠ a)) H' ∧ Hk K mg (P'.less (· ≠ a)) H' M' ∧ Is K (P'.less (· ≠ a)) H' (.lst ds) (.ref a) := by
 have l2 : Lt P' H' (P'.less (· ≠ a)) H' := ⟨Nat.le_refl _, fun _ _ => rfl, fun c z => .inl z.1, fun _ _ e _ => e, fun _ z => z⟩
 exact ⟨⟨l.n, l.io, fun b z => l.bd b z.1, fun b z => ⟨l.bm b z, fun q => k.here b z (q ▸ ha)⟩, l.keep, l.sure, l.nw⟩,
  ⟨h.n, fun j c e => (h.cell j c e).lt l2 fun _ z => z, h.inj, fun j hj => ⟨h.bd j hj, nc j hj⟩, fun b z => h.here b z.1⟩,
  a, vs, rfl, .inl ⟨fun z => z.2 rfl, .inl ea⟩, Iss.less is⟩
theorem ss_asgC (x : Str) (cs : List (Str × Nat)) {px py spos : Pos} {y : Str} {i : Nat} (hN : X.N.Nodup) (hk : X.N[i]? = some y) (hy : Loc X.env.scope y) (hc : X.calm = true) (nd : (cs.map (·.2)).Nodup) (hi : SI X Wx (.Name x px) iter fs)
  (hq : ∀ (cl : List (Str × Addr)) (C : Addr) (s₀ : Shared) (H₀ : Hp) (ex : List Addr) (pn : List (Addr × Obj)), SQ (compCx X (x :: cs.map (·.1)) scope cl C s₀ H₀ ex pn) ifs q)
  (he : ∀ (cl : List (Str × Addr)) (C : Addr) (s₀ : Shared) (H₀ : Hp) (ex : List Addr) (pn : List (Addr × Obj)), SE (compCx X (x :: cs.map (·.1)) scope cl C s₀ H₀ ex pn) W0 .val elt e)
  (ok : compOkB X.N X.env.scope x cs scope = true := by kernel_rfl) (hs : ∀ x, foldedSetIterable iter X.env x = pure x := by intro _; rfl)
  (hsw : swapsWith (.ListComp elt [⟨.Name x px, iter, ifs, 0⟩] scope pos) (some (.Name y py)) spos.line X.env = pure true := by rfl)
  (hf : X.fn y = true ∨ X.env.scope.names.lookup y = some .local := by first | exact .inl rfl | exact .inr rfl) :
  SS X Wx (.Assign [.Name y py] (.ListComp elt [⟨.Name x px, iter, ifs, 0⟩] scope pos) spos) (sAsg i (sComp cs fs q e)) := by
 refine ps_imp (ps_setC (tq := tTt X.K X.mg W0 q) (te := tE X.K X.mg W0 .val e) x cs hN hk hy hc hi hq he ok hs hsw hf) ?_
 rintro D st H ⟨P0, H0, P, Os, env, M, out, M', k, ee, w⟩
 unfold sAsg at ee
 rcases bndS_inv ee with ⟨d, M1, e1, ee⟩ | ⟨c, n, e1, rfl⟩
 ·obtain ⟨ds, rfl⟩ := comp_is _ _ _ _ e1
  split at ee
  ·rename_i hl
   cases ee
   refine comp_read nd k e1 ⟨ds, rfl, fun P1 a vs H1 l1 h1 ha ba nc ea is => ?_⟩
   obtain ⟨l2, h2, i2⟩ := frz_new k.hk l1 h1 ha nc ea is
   exact w _ _ _ _ (l2.lt k.hk) ((k.next l2 h2).asg hl i2)
  ·cases ee
 ·exact comp_read nd k e1 w
end
end
end E3
namespace E3
open PySem PySem.Spec PyProof.Rows L2
section
variable {X : Cx} {Wx : XW} {m : Mode} {pos : Pos}
def sPop (f : E) : E := fun env M => bnd (f env M) fun d M1 => match d with
  | .ref j => (match M1[j]? with
    | some (.lst ds) => (match ds[ds.length - 1]? with
      | some z => some (.v z, M1.set j (.lst ds.dropLast))
      | none => none)
    | _ => none)
  | _ => none
theorem Iss.dropLast {K : PySem.W.Frag} {P : Pl} {H : Hp} {ds : List D} {vs : List V} (h : Iss K P H ds vs) : Iss K P H ds.dropLast vs.dropLast := by
 rw [List.dropLast_eq_take, List.dropLast_eq_take, h.len]
 exact h.take _
theorem se_pop {o : Expr} {f : E} {p : Pos} (ho : SE X Wx .val o f) (hbase : attributeBase o "pop" X.env (eval o X.env) = eval o X.env := by rfl) (hline : (p.endLine == pos.line) = true := by rfl) :
  SE X Wx m (.Call (.Attribute o "pop" p) [] [] pos) (sPop f) := by
 refine pe_imp (pe_bm0 PySem.F.plainAttrs_list PySem.F.slot_list_pop PySem.F.type_list_pop mt_pop ho hbase hline) ?_
 rintro st H Q ⟨P0, H0, P, Os, env, M, r, M', k, e, q⟩
 unfold sPop at e
 rcases bnd_inv e with ⟨d, M1, e1, e⟩ | ⟨c, n, e1, rfl⟩
 ·cases d <;> simp only [reduceCtorEq] at e
  rename_i j
  split at e
  rotate_left
  ·cases e
  rename_i ds em
  split at e
  rotate_left
  ·cases e
  rename_i z ez
  cases e
  refine tE_go k e1 fun P1 v1 H1 l1 h1 i1 => ?_
  obtain ⟨jl, rfl⟩ : j < P1.n ∧ v1 = .ref (P1.io j) := i1
  obtain ⟨vs, ev, is⟩ := h1.cell j _ em
  obtain ⟨v, evt, iv⟩ := is.get ez
  have lc : Lt P1 H1 P1 (upd H1 (P1.io j) (.lst vs.dropLast)) := lt_chg (h1.bd j jl) ev nf_lst
  obtain ⟨l3, l3e, h3⟩ := h1.set (c' := .lst ds.dropLast) (o' := .lst vs.dropLast) em ⟨_, upd_same, (Iss.lt lc is).dropLast⟩
  refine ⟨.inl ⟨rfl, vs, .inl (.inl ev)⟩, P1.io j, vs, v, rfl, rfl, ev, by rw [is.len]; exact evt, ?_⟩
  exact q P1 v _ (l1.trans l3e) h3 (IsM.of h3 (Is.lt l3 iv))
 ·exact tE_go k e1 q
end
def toKey : D → Option Key
 | .int i => some (.inl i)
 | .str z => some (.inr z)
 | _ => none
def valD (kvs : List (Key × D)) (k : Key) : Option D := (kvs.find? fun kv => decide (kv.1 = k)).map (·.2)
def putT (kvs : List (Key × D)) (k : Key) (v : D) : List (Key × D) :=
 if (kvs.any fun kv => decide (kv.1 = k)) = true then kvs.map (fun kv => if kv.1 = k then (kv.1, v) else kv) else kvs ++ [(k, v)]
section
variable {K : PySem.W.Frag} {mg : Str → Option Value} {P : Pl} {H : Hp} {M : Mm}
def TbOk (K : PySem.W.Frag) (P : Pl) (H : Hp) (kvs : List (Key × D)) (vs : List (Key × V)) : Prop := vs.map (·.1) = kvs.map (·.1) ∧ Iss K P H (kvs.map (·.2)) (vs.map (·.2))
theorem key_is {d : D} {v : V} {k : Key} (h : toKey d = some k) (i : Is K P H d v) : v = kV k := by
 unfold toKey at h
 split at h
 ·cases h; cases i; rfl
 ·cases h; cases i; rfl
 ·cases h
theorem tb_cons {p : Key × D} {q : Key × V} {kvs : List (Key × D)} {vs : List (Key × V)} : TbOk K P H (p :: kvs) (q :: vs) ↔ q.1 = p.1 ∧ Is K P H p.2 q.2 ∧ TbOk K P H kvs vs := by
 constructor
 ·rintro ⟨h1, v, r, e1, i, q⟩
  simp only [List.map_cons, List.cons.injEq] at h1 e1
  obtain ⟨rfl, rfl⟩ := e1
  exact ⟨h1.1, i, h1.2, q⟩
 ·rintro ⟨h1, i, h2, q⟩
  exact ⟨by simp [h1, h2], _, _, rfl, i, q⟩
theorem tb_get {k : Key} : ∀ {kvs : List (Key × D)} {vs : List (Key × V)}, TbOk K P H kvs vs → match valD kvs k with
    | some d => ∃ v, valV vs k = some v ∧ Is K P H d v
    | none => valV vs k = none
  | [], [], _ => rfl
  | [], _ :: _, h => by cases h.1
  | _ :: _, [], h => by cases h.1
  | p :: kvs, q :: vs, h => by
    obtain ⟨h1, i, h2⟩ := tb_cons.mp h
    by_cases e : p.1 = k
    · have e' : q.1 = k := h1.trans e
      have a : valD (p :: kvs) k = some p.2 := by simp [valD, List.find?_cons, e]
      rw [a]
      exact ⟨q.2, valV_pos e', i⟩
    · have e' : ¬ q.1 = k := fun z => e (h1.symm.trans z)
      have a : valD (p :: kvs) k = valD kvs k := by simp [valD, List.find?_cons, e]
      rw [a, valV_neg e']
      exact tb_get h2
theorem tb_any {k : Key} : ∀ {kvs : List (Key × D)} {vs : List (Key × V)}, vs.map (·.1) = kvs.map (·.1) → (vs.any fun kv => decide (kv.1 = k)) = (kvs.any fun kv => decide (kv.1 = k))
  | [], [], _ => rfl
  | [], _ :: _, h => by cases h
  | _ :: _, [], h => by cases h
  | p :: kvs, q :: vs, h => by
    simp only [List.map_cons, List.cons.injEq] at h
    rw [List.any_cons, List.any_cons, h.1, tb_any h.2]
theorem tb_map {k : Key} {d : D} {v : V} (i : Is K P H d v) : ∀ {kvs : List (Key × D)} {vs : List (Key × V)}, TbOk K P H kvs vs → TbOk K P H (kvs.map fun kv => if kv.1 = k then (kv.1, d) else kv) (vs.map fun kv => if kv.1 = k then (kv.1, v) else kv)
  | [], [], h => h
  | [], _ :: _, h => by cases h.1
  | _ :: _, [], h => by cases h.1
  | p :: kvs, q :: vs, h => by
    obtain ⟨h1, i1, h2⟩ := tb_cons.mp h
    rw [List.map_cons, List.map_cons]
    refine tb_cons.mpr ⟨?_, ?_, tb_map i h2⟩
    · split <;> split <;> exact h1
    · rw [h1]
      split
      · exact i
      · exact i1
theorem tb_put {k : Key} {d : D} {v : V} {kvs : List (Key × D)} {vs : List (Key × V)} (i : Is K P H d v) (h : TbOk K P H kvs vs) : TbOk K P H (putT kvs k d) (putK vs k v) := by
 unfold putT putK
 rw [tb_any h.1]
 split
 ·exact tb_map i h
 ·refine ⟨by rw [List.map_append, List.map_append, h.1]; rfl, ?_⟩
  rw [List.map_append, List.map_append]
  exact Iss.append h.2 (Iss.one i)
theorem tb_len {kvs : List (Key × D)} {vs : List (Key × V)} (h : TbOk K P H kvs vs) : vs.length = kvs.length := by
 have := congrArg List.length h.1
 simpa using this
theorem nf_dK {vs : List (Key × V)} : ¬ Fx (.dK vs) := fun z => by rcases z with ⟨_, z⟩ | ⟨_, _, z⟩ | ⟨_, z⟩ | ⟨_, z⟩ <;> cases z
end
section
variable {X : Cx} {Wx : XW} {m : Mode} {pos : Pos}
def dctAt (M : Mm) (d : D) : Option (Nat × List (Key × D)) := match d with
  | .ref k => (match M[k]? with
    | some (.dct kvs) => some (k, kvs)
    | _ => none)
  | _ => none
theorem dctAt_inv {M : Mm} {d : D} {k : Nat} {kvs : List (Key × D)} (h : dctAt M d = some (k, kvs)) : d = .ref k ∧ M[k]? = some (.dct kvs) := by
 unfold dctAt at h
 split at h
 ·split at h
  ·cases h; rename_i e; exact ⟨rfl, e⟩
  ·cases h
 ·cases h
def dk (M : Mm) (d y : D) : Option (Nat × List (Key × D) × Key) := match dctAt M d with
 | some p => (toKey y).map fun k => (p.1, p.2, k)
 | none => none
theorem dk_inv {M : Mm} {d y : D} {j : Nat} {kvs : List (Key × D)} {k : Key} (h : dk M d y = some (j, kvs, k)) : d = .ref j ∧ M[j]? = some (.dct kvs) ∧ toKey y = some k := by
 unfold dk at h
 split at h
 ·rename_i p ep
  rw [Option.map_eq_some_iff] at h
  obtain ⟨k', ek, h⟩ := h
  cases h
  obtain ⟨h1, h2⟩ := dctAt_inv (k := p.1) (kvs := p.2) ep
  exact ⟨h1, h2, ek⟩
 ·cases h
def sDGet (f g : E) : E := fun env M => bnd (f env M) fun d M1 => bnd (g env M1) fun y M2 => match dk M2 d y with
 | some (_, kvs, k) => (valD kvs k).map fun z => (.v z, M2)
 | none => none
theorem se_dget {o i : Expr} {f g : E} (hu : X.A.units + 60 < cLine) (ho : SE X Wx .val o f) (hi : SE X Wx .val i g) (hs : NoSl i := by exact fun _ _ => rfl) : SE X Wx m (.Subscript o i pos) (sDGet f g) := by
 refine pe_imp (pe_dget (Nat.lt_of_le_of_lt (Nat.add_le_add_left (by decide) _) hu) ho hi hs) ?_
 rintro st H Q ⟨P0, H0, P, Os, env, M, r, M', k, e, q⟩
 unfold sDGet at e
 rcases bnd_inv e with ⟨d, M1, e1, e⟩ | ⟨c, n, e1, rfl⟩
 ·refine tE_go k e1 fun P1 v1 H1 l1 h1 i1 => ?_
  have k1 := k.next l1 h1
  rcases bnd_inv e with ⟨y, M2, e2, e⟩ | ⟨c, n, e2, rfl⟩
  ·refine tE_go k1 e2 fun P2 v2 H2 l2 h2 i2 => ?_
   split at e
   ·rename_i j kvs key ed
    rw [Option.map_eq_some_iff] at e
    obtain ⟨z, ez, e⟩ := e
    cases e
    obtain ⟨rfl, em, ek⟩ := dk_inv ed
    obtain ⟨jl, rfl⟩ : j < P1.n ∧ v1 = .ref (P1.io j) := i1
    obtain ⟨vs, ev, en, is⟩ := h2.cell j _ em
    have g := tb_get (k := key) (kvs := kvs) (vs := vs) ⟨en, is⟩
    rw [ez] at g
    obtain ⟨v, gv, iv⟩ := g
    rw [l2.io j jl] at ev
    refine ⟨_, v, rfl, ?_, q P2 v H2 (l1.trans l2) h2 (IsM.of h2 iv)⟩
    rw [← gv, key_is ek i2]
    exact DGet.k ev
   ·cases e
  ·exact tE_go k1 e2 q
 ·exact tE_go k e1 q
def sDPutS (f g v : E) : S := fun env M => bndS (v env M) fun x M1 => bndS (f env M1) fun d M2 => bndS (g env M2) fun y M3 => match dk M3 d y with
 | some (j, kvs, k) => if kvs.length < sizeLine then some (.nx env, M3.set j (.dct (putT kvs k x))) else none
 | none => none
theorem ss_dput {o i e : Expr} {f g v : E} {pos' : Pos} (hu : X.A.units + 60 < cLine) (ho : SE X Wx .val o f) (hi : SE X Wx .val i g) (he : SE X Wx .val e v) (hs : swapsWith e (some (.Subscript o i pos')) pos.line X.env = pure false := by rfl) :
  SS X Wx (.Assign [.Subscript o i pos'] e pos) (sDPutS f g v) := by
 refine ps_imp (ps_dput (Nat.lt_of_le_of_lt (Nat.add_le_add_left (by decide) _) hu) ho hi he hs) ?_
 rintro D st H ⟨P0, H0, P, Os, env, M, out, M', k, e, q⟩
 unfold sDPutS at e
 rcases bndS_inv e with ⟨x, M1, e1, e⟩ | ⟨c, n, e1, rfl⟩
 ·refine tE_go k e1 fun P1 v1 H1 l1 h1 i1 => ?_
  have k1 := k.next l1 h1
  rcases bndS_inv e with ⟨d, M2, e2, e⟩ | ⟨c, n, e2, rfl⟩
  ·refine tE_go k1 e2 fun P2 v2 H2 l2 h2 i2 => ?_
   have k2 := k1.next l2 h2
   rcases bndS_inv e with ⟨y, M3, e3, e⟩ | ⟨c, n, e3, rfl⟩
   ·refine tE_go k2 e3 fun P3 v3 H3 l3 h3 i3 => ?_
    split at e
    ·rename_i j kvs key ed
     split at e
     ·rename_i hl
      cases e
      obtain ⟨rfl, em, ek⟩ := dk_inv ed
      obtain ⟨jl, rfl⟩ : j < P2.n ∧ v2 = .ref (P2.io j) := i2
      obtain ⟨vs, ev, en, is⟩ := h3.cell j _ em
      have jl3 : j < P3.n := Nat.lt_of_lt_of_le jl l3.n
      have eio : P3.io j = P2.io j := l3.io j jl
      have ix := Is.lt ((l2.lt h1).trans (l3.lt h2)) i1
      have lc : Lt P3 H3 P3 (upd H3 (P3.io j) (.dK (putK vs key v1))) := lt_chg (h3.bd j jl3) ev nf_dK
      have tp := tb_put (k := key) ix ⟨en, is⟩
      obtain ⟨l4, l4e, h4⟩ := h3.set (c' := .dct (putT kvs key x)) (o' := .dK (putK vs key v1)) em ⟨_, upd_same, tp.1, Iss.lt lc tp.2⟩
      rw [eio] at l4 l4e h4 ev
      refine ⟨_, _, rfl, by rw [key_is ek i3]; exact DPut.k ev (by rw [tb_len ⟨en, is⟩]; exact hl), ?_⟩
      exact q _ _ _ _ ((l1.lt k.hk).trans ((l2.lt h1).trans ((l3.lt h2).trans l4))) ((k2.next l3 h3).next l4e h4)
     ·cases e
    ·cases e
   ·exact tE_go k2 e3 q
  ·exact tE_go k1 e2 q
 ·exact tE_go k e1 q
inductive ResP where
 | v (ps : List (D × D)) | x (c : Str) (n : Int)
abbrev EPs := Env → Mm → Option (ResP × Mm)
def pNil : EPs := fun _ M => some (.v [], M)
def pCons (f g : E) (ps : EPs) : EPs := fun env M => match f env M with
  | some (.v x, M1) => (match g env M1 with
    | some (.v y, M2) => (match ps env M2 with
      | some (.v r, M3) => some (.v ((x, y) :: r), M3)
      | some (.x c n, M3) => some (.x c n, M3)
      | none => none)
    | some (.x c n, M2) => some (.x c n, M2)
    | none => none)
  | some (.x c n, M1) => some (.x c n, M1)
  | none => none
def AllP (K : PySem.W.Frag) (P : Pl) (H : Hp) : List (D × D) → List (V × V) → Prop
 | [], vs => vs = []
 | p :: ps, vs => ∃ v r, vs = v :: r ∧ Is K P H p.1 v.1 ∧ Is K P H p.2 v.2 ∧ AllP K P H ps r
def PQ (K : PySem.W.Frag) (mg : Str → Option Value) (Wx : XW) (P0 : Pl) (H0 : Hp) (P : Pl) (H : Hp) (M' : Mm) (Q : List (V × V) → Hp → Prop) : ResP → Prop
 | .v ds => ∀ P' vs H', LtE P H P' H' → Hk K mg P' H' M' → AllP K P' H' ds vs → Q vs H'
 | .x c n => Wx P0 H0 M' c n
def SPs (X : Cx) (Wx : XW) (cpos : Pos) (keys : List (Option Expr)) (values : List Expr) (ps : EPs) : Prop := ∃ trs, PPs X cpos keys values trs ∧ ∀ P0 H0 P Os st H M env r M' Q, Ok X.K X.mg P0 H0 P Os H M st env → ps env M = some (r, M') → PQ X.K X.mg Wx P0 H0 P H M' Q r → tPairs trs st H Q
theorem sps_nil {cpos : Pos} : SPs X Wx cpos [] [] pNil := ⟨[], pps_nil, fun P0 H0 P Os st H M env r M' Q k e q => by
 cases e
 exact q P [] H (LtE.refl P H) k.hk rfl⟩
theorem sps_cons {cpos : Pos} {a b : Expr} {ks : List (Option Expr)} {vs : List Expr} {f g : E} {ps : EPs} (ha : SE X Wx .val a f) (hb : SE X Wx .val b g) (hr : SPs X Wx cpos ks vs ps) : SPs X Wx cpos (some a :: ks) (b :: vs) (pCons f g ps) := by
 obtain ⟨trs, h1, h2⟩ := hr
 refine ⟨_, pps_cons ha hb h1, fun P0 H0 P Os st H M env r M' Q k e q => ?_⟩
 unfold pCons at e
 split at e
 ·rename_i x M1 e1
  refine tE_go k e1 fun P1 v1 H1 l1 hk1 i1 => ?_
  have k1 := k.next l1 hk1
  split at e
  ·rename_i y M2 e2
   refine tE_go k1 e2 fun P2 v2 H2 l2 hk2 i2 => ?_
   have k2 := k1.next l2 hk2
   split at e
   ·rename_i rr M3 e3
    cases e
    exact h2 _ _ _ _ _ _ _ _ _ _ _ k2 e3 fun P3 us H3 l3 hk3 al => q P3 _ H3 (l1.trans (l2.trans l3)) hk3 ⟨(v1, v2), us, rfl, Is.lt ((l2.lt hk1).trans (l3.lt hk2)) i1, Is.lt (l3.lt hk2) i2, al⟩
   ·rename_i c n M3 e3
    cases e
    exact h2 _ _ _ _ _ _ _ _ _ _ _ k2 e3 q
   ·cases e
  ·rename_i c n M2 e2
   cases e
   exact tE_go k1 e2 q
  ·cases e
 ·rename_i c n M1 e1
  cases e
  exact tE_go k e1 q
 ·cases e
def keysOf : List (D × D) → Option (List (Key × D))
  | [] => some []
  | p :: ps => match toKey p.1, keysOf ps with
    | some k, some r => some ((k, p.2) :: r)
    | _, _ => none
def mergeT (kvs more : List (Key × D)) : List (Key × D) := more.foldl (fun acc kv => putT acc kv.1 kv.2) kvs
def sDct (ps : EPs) : E := fun env M => match ps env M with
  | some (.v ds, M1) => (match keysOf ds with
    | some kvs => if kvs.length ≤ 15 then some (.v (.ref M1.length), M1 ++ [.dct (mergeT [] kvs)]) else none
    | none => none)
  | some (.x c n, M1) => some (.x c n, M1)
  | none => none
theorem keys_ok {K : PySem.W.Frag} {P : Pl} {H : Hp} : ∀ {ds : List (D × D)} {kvs : List (Key × D)} {vs : List (V × V)}, keysOf ds = some kvs → AllP K P H ds vs → ∃ us : List (Key × V), vs = us.map (fun kv => (kV kv.1, kv.2)) ∧ us.length = kvs.length ∧ TbOk K P H kvs us
  | [], kvs, vs, e, h => by
    cases e
    exact ⟨[], h, rfl, rfl, rfl⟩
  | p :: ps, kvs, vs, e, h => by
    obtain ⟨v, r, rfl, i1, i2, h⟩ := h
    simp only [keysOf] at e
    split at e
    · rename_i k r' ek er
      cases e
      obtain ⟨us, e1, e2, e3⟩ := keys_ok er h
      refine ⟨(k, v.2) :: us, ?_, by simp [e2], tb_cons.mpr ⟨rfl, i2, e3⟩⟩
      rw [List.map_cons, ← e1, ← key_is ek i1]
    · cases e
theorem merge_ok {K : PySem.W.Frag} {P : Pl} {H : Hp} : ∀ {more : List (Key × D)} {us : List (Key × V)} {kvs : List (Key × D)} {vs : List (Key × V)}, TbOk K P H more us → TbOk K P H kvs vs → TbOk K P H (mergeT kvs more) (mergeK vs us)
  | [], [], _, _, _, q => q
  | [], _ :: _, _, _, h, _ => by cases h.1
  | _ :: _, [], _, _, h, _ => by cases h.1
  | p :: more, u :: us, kvs, vs, h, q => by
    obtain ⟨h1, i, h2⟩ := tb_cons.mp h
    show TbOk K P H (mergeT (putT kvs p.1 p.2) more) (mergeK (putK vs u.1 u.2) us)
    rw [h1]
    exact merge_ok h2 (tb_put i q)
theorem bar_any {K : PySem.W.Frag} {mg : Str → Option Value} {P : Pl} {H : Hp} {M : Mm} {p : Addr} {o : HO} (h : Hk K mg P H M) (hp : H p = none) : LtE P H (P.bar p) (upd H p o) ∧ Hk K mg (P.bar p) (upd H p o) M ∧ ∀ k, k < P.n → P.io k ≠ p := by
 have s := same_new (o := o) hp
 have nc : ∀ k, k < P.n → P.io k ≠ p := fun k hk z => h.here _ (h.bd k hk) (z ▸ hp)
 have l : LtE P H (P.bar p) (upd H p o) := ⟨Nat.le_refl _, fun _ _ => rfl, fun a z => Or.imp (fun q => q) (fun (q : a = p) => by rw [q]; exact hp) z, fun a z => .inl z, fun a o e _ => s a o e, fun a z => s.free z, fun k h1 h2 => absurd h1 (Nat.not_le.mpr h2)⟩
 refine ⟨l, ⟨h.n, fun k c e => (h.cell k c e).lt (l.lt h) fun u eu => s _ _ eu, h.inj, fun k hk => .inl (h.bd k hk), fun a z q => ?_⟩, nc⟩
 rcases z with z | z
 ·exact h.here a z (s.free q)
 ·subst z; rw [upd_same] at q; cases q
theorem cell_made {K : PySem.W.Frag} {mg : Str → Option Value} {P0 P : Pl} {H0 H : Hp} {M : Mm} {a : Addr} {o o' : HO} {c : Cl} (l : LtE P0 H0 P H) (h : Hk K mg P H M) (ha : H0 a = none) (ba : P.bd a) (nc : ∀ k, k < P.n → P.io k ≠ a) (ea : H a = some o) (nf : ¬ Fx o) (hc : ∀ P', Lt P H P' (upd H a o') → CellOk K mg P' (upd H a o') a c) :
  ∃ P', LtE P0 H0 P' (upd H a o') ∧ Hk K mg P' (upd H a o') (M ++ [c]) ∧ Is K P' (upd H a o') (.ref M.length) (.ref a) := by
 have hn : P.n = M.length := h.n
 let P2 : Pl := { io := fun j => if j = P.n then a else P.io j, n := P.n + 1, bd := P.bd }
 have io : ∀ j, j < P.n → P2.io j = P.io j := fun j hj => if_neg (by omega)
 have ioN : P2.io P.n = a := if_pos rfl
 have lc : Lt P H P (upd H a o') := lt_chg ba ea nf
 have l2 : Lt P H P2 (upd H a o') := ⟨Nat.le_succ _, io, fun _ z => .inl z, lc.keep, lc.sure⟩
 refine ⟨P2, ⟨Nat.le_succ_of_le l.n, fun j hj => (io j (Nat.lt_of_lt_of_le hj l.n)).trans (l.io j hj), l.bd, l.bm, fun b u e z => ?_, fun b z => l.sure b (lc.sure b z), fun j h2 h3 => ?_⟩, ⟨by rw [List.length_append, ← hn]; rfl, fun j d ej => ?_, fun i j hi hj e => ?_, fun j hj => ?_, fun b z q => h.here b z (lc.sure b q)⟩, ?_⟩
 ·rw [upd_ne (fun z => by subst z; rw [ha] at e; cases e)]
  exact l.keep b u e z
 ·rcases Nat.lt_or_ge j P.n with z | z
  ·rw [io j z]; exact l.nw j h2 z
  ·have : j = P.n := Nat.le_antisymm (Nat.le_of_lt_succ h3) z
   rw [this, ioN]
   exact ha
 ·rcases Nat.lt_or_ge j P.n with z | z
  ·rw [List.getElem?_append_left (by rw [← hn]; exact z)] at ej
   rw [io j z]
   exact (h.cell j d ej).lt l2 fun u eu => by rw [upd_ne (nc j z)]; exact eu
  ·have jl := (List.getElem?_eq_some_iff.mp ej).1
   rw [List.length_append, List.length_singleton, ← hn] at jl
   have : j = P.n := by omega
   subst this
   rw [List.getElem?_append_right (by rw [hn]; exact Nat.le_refl _), hn, Nat.sub_self] at ej
   cases ej
   rw [ioN]
   exact hc P2 l2
 ·rcases Nat.lt_or_ge i P.n with z | z
  ·rcases Nat.lt_or_ge j P.n with y | y
   ·rw [io i z, io j y] at e
    exact h.inj i j z y e
   ·have : j = P.n := Nat.le_antisymm (Nat.le_of_lt_succ hj) y
    rw [io i z, this, ioN] at e
    exact absurd e (nc i z)
  ·have iN : i = P.n := Nat.le_antisymm (Nat.le_of_lt_succ hi) z
   rcases Nat.lt_or_ge j P.n with y | y
   ·rw [iN, ioN, io j y] at e
    exact absurd e.symm (nc j y)
   ·rw [iN]
    exact Nat.le_antisymm y (Nat.le_of_lt_succ hj)
 ·rcases Nat.lt_or_ge j P.n with z | z
  ·rw [io j z]; exact h.bd j z
  ·have : j = P.n := Nat.le_antisymm (Nat.le_of_lt_succ hj) z
   rw [this, ioN]
   exact ba
 ·exact ⟨by show _ < P.n + 1; rw [hn]; exact Nat.lt_succ_self _, by rw [← hn, ioN]⟩
theorem se_dct0 : SE X Wx m (.Dict [] [] pos) (sDct pNil) := by
 refine pe_imp pe_dnewK ?_
 rintro st H Q ⟨P0, H0, P, Os, env, M, r, M', k, e, q⟩
 cases e
 intro p hp
 obtain ⟨l1, h1, nc⟩ := bar_any (o := .dK []) k.hk hp
 obtain ⟨P2, l2, h2, i2⟩ := cell_made (o' := .dK []) (c := .dct []) l1 h1 hp (.inr rfl) nc upd_same nf_dK fun P' _ => ⟨[], upd_same, rfl, rfl⟩
 rw [upd_upd] at l2 h2 i2
 exact q P2 _ _ l2 h2 (IsM.of h2 i2)
theorem se_dct {keys : List (Option Expr)} {values : List Expr} {ps : EPs} (h : SPs X Wx pos keys values ps) (hall : keys.all (·.isSome) = true := by rfl) (hl : keys.length = values.length := by rfl) (h0 : keys ≠ [] := by exact fun z => nomatch z) (h15 : keys.length ≤ 15 := by decide) : SE X Wx m (.Dict keys values pos) (sDct ps) := by
 obtain ⟨trs, hp, ht⟩ := h
 refine pe_imp (pe_disp hp hall hl h0 h15) ?_
 rintro st H Q ⟨P0, H0, P, Os, env, M, r, M', k, e, q⟩
 intro p hp
 obtain ⟨l1, h1, nc⟩ := bar_any (o := .dK []) k.hk hp
 have k1 := k.next l1 h1
 unfold sDct at e
 split at e
 ·rename_i ds M1 e1
  split at e
  rotate_left
  ·cases e
  rename_i kvs ek
  split at e
  rotate_left
  ·cases e
  rename_i h15'
  cases e
  refine ht _ _ _ _ _ _ _ _ _ _ _ k1 e1 fun P2 vs H2 l2 h2 al => ?_
  have ep : H2 p = some (.dK []) := l2.keep p _ upd_same nc
  have nc2 := l2.nc upd_same nc
  obtain ⟨us, e3, e4, tb⟩ := keys_ok ek al
  refine ⟨ep, us, e3, by rw [e4]; exact h15', ?_⟩
  obtain ⟨P3, l3, h3, i3⟩ := cell_made (o' := .dK (mergeK [] us)) (c := .dct (mergeT [] kvs)) (l1.trans l2) h2 hp (l2.bm p (.inr rfl)) nc2 ep nf_dK fun P' l' => by
   have tm := merge_ok (kvs := []) (vs := []) tb ⟨rfl, rfl⟩
   exact ⟨_, upd_same, tm.1, Iss.lt l' tm.2⟩
  exact q P3 _ _ l3 h3 (IsM.of h3 i3)
 ·rename_i c n M1 e1
  cases e
  exact ht _ _ _ _ _ _ _ _ _ _ _ k1 e1 q
 ·cases e
def tyM (M : Mm) (d : D) : String := match d with
  | .ref k => (match M[k]? with
    | some (.lst _) => "list"
    | some (.dct _) => "dict"
    | _ => "")
  | d => tyD d
def sIsi (tb : String → String → Option Bool) (T : String) (f : E) : E := fun env M => bnd (f env M) fun d M1 => if tyM M1 d = "" then none else (tb (tyM M1 d) T).map fun b => (.v (.bl b), M1)
theorem call_isiM : CallR X (.builtin "isinstance") (fun xs H Q => ∃ (x : V) (T : String) (d : D) (P : Pl) (M : Mm) (b : Bool), xs = [x, .ty T] ∧ Hk X.K X.mg P H M ∧ IsB X.K P H d x ∧ tyM M d ≠ "" ∧ PySem.W.kitOne X.K (.type (tyM M d)) (.type T) = some b ∧ Q (.bl b) H) := by
  intro pins s σ H xs us Q I r h
  obtain ⟨x, T, d, P, M, b, rfl, hk, i, ne, e, q⟩ := h
  have old : tyM M d = tyD (vw M d) → wpAny (model X.prog X.w) X.A (call (.builtin "isinstance") us) (EP X pins σ Q) X.xe s := fun et => by
    rw [et] at ne e
    exact call_isiD pins s σ H _ us Q I r ⟨x, T, vw M d, P, b, rfl, IsB.vw hk i, ne, e, q⟩
  cases d with
  | ref k =>
    cases em : M[k]? with
    | none => simp [tyM, em] at ne
    | some c =>
      cases c with
      | lst ds => exact old (by simp [tyM, vw, em, tyD])
      | obj c fs => simp [tyM, em] at ne
      | dct kvs =>
        obtain ⟨u, w', rfl, rx, rT⟩ := vals2 r
        cases rT
        obtain ⟨kl, rfl⟩ : k < P.n ∧ x = .ref (P.io k) := i
        cases rx
        obtain ⟨vs, ev, _⟩ := hk.cell k _ em
        obtain ⟨_, _, vs', _, o, es, ep, h1, h2, _⟩ := I.hok _ _ ev
        simp only [tyM, em] at e
        exact PySem.W.kia_one PySem.W.kitx_dict I.kIn ⟨o, h1, h2.1⟩ e (fun z => nomatch z) fun tk => ⟨.bl b, H, I.tok _, rfl, q⟩
  | non => exact old rfl
  | bl _ => exact old rfl
  | int _ => exact old rfl
  | str _ => exact old rfl
  | tup _ => exact old rfl
  | lst _ => exact old rfl
theorem se_isiM {e : Expr} {f : E} {T : String} {tb : String → String → Option Bool} {p p' : Pos} (ht : ∀ t b, tb t T = some b → PySem.W.kitOne X.K (.type t) (.type T) = some b) (he : SE X Wx .bor e f) (hg : Gl X "isinstance") (hm : X.mg "isinstance" = none) (hg' : Gl X (Str.ofString T)) (hm' : X.mg (Str.ofString T) = none) (hT : bootBuiltins (Str.ofString T) = some (.type T))
  (n1 : Str.ofString T ≠ "__name__" := by decide +kernel) (n2 : (Str.ofString T == ("__debug__" : Str)) = false := by decide +kernel) (hs : starEach [e, .Name (Str.ofString T) p'] X.env = (false, eval e X.env) :: starEach [.Name (Str.ofString T) p'] X.env := by rfl) :
  SE X Wx m (.Call (.Name "isinstance" p) [e, .Name (Str.ofString T) p'] [] pos) (sIsi tb T f) := by
 have pT : PE X (.Name (Str.ofString T) p') (tC (.ty T)) := pe_bltn hg' hm' hT rfl n1 n2
 refine pe_imp (pe_callB call_isiM hg hm boot_isinstance (pa_cons he (pa_cons pT pa_nil) hs) (by decide +kernel) (by decide +kernel) hs rfl) ?_
 rintro st H Q ⟨P0, H0, P, Os, env, M, r, M', k, e, q⟩
 unfold sIsi at e
 rcases bnd_inv e with ⟨d, M1, e1, e⟩ | ⟨c, n, e1, rfl⟩
 ·split at e
  ·cases e
  ·rename_i hne
   rw [Option.map_eq_some_iff] at e
   obtain ⟨b, eb, e⟩ := e
   cases e
   exact tE_go k e1 fun P1 v1 H1 l1 h1 i1 => ⟨v1, T, d, P1, _, b, rfl, h1, i1, hne, ht _ _ eb, q P1 _ H1 l1 h1 (IsM.of h1 (show Is _ _ _ (.bl b) _ from rfl))⟩
 ·exact tE_go k e1 q
end
end E3
namespace E3
open PySem PySem.Spec PyProof.Rows L2
section
variable {X : Cx} {Wx : XW} {m : Mode} {pos : Pos}
def textD : D → Option Str
 | .str z => if z.length ≤ sizeLine then some z else none
 | .int i => if i.natAbs.log2 < 1920 then some (toString i) else none
 | _ => none
abbrev EJ := Str → Env → Mm → O
def jEnd : EJ := fun out _ M => if out.length ≤ sizeLine then some (.v (.str out), M) else none
def jCon (z : Str) (ps : EJ) : EJ := fun out env M => if (out ++ z).length ≤ sizeLine then ps (out ++ z) env M else none
def jVal (f : E) (ps : EJ) : EJ := fun out env M => bnd (f env M) fun d M1 => match textD d with
 | some y => if (out ++ y).length ≤ sizeLine then ps (out ++ y) env M1 else none
 | none => none
def tJ (K : PySem.W.Frag) (mg : Str → Option Value) (Wx : XW) (ps : EJ) : TJ := fun out st H Q => tE K mg Wx .val (ps out) st H Q
def SJ (X : Cx) (Wx : XW) (vs : List Expr) (ps : EJ) : Prop := PJ X vs (tJ X.K X.mg Wx ps)
theorem pj_imp {vs : List Expr} {t t' : TJ} (h : PJ X vs t) (w : ∀ out σ H Q, t' out σ H Q → t out σ H Q) : PJ X vs t' := fun pins s σ H out Q I hw => h pins s σ H out Q I (w out σ H Q hw)
theorem sj_end : SJ X Wx [] jEnd := by
 refine pj_imp pj_nil ?_
 rintro out st H Q ⟨P0, H0, P, Os, env, M, r, M', k, e, q⟩
 unfold jEnd at e
 split at e
 ·rename_i hl
  cases e
  exact ⟨hl, q P _ H (LtE.refl P H) k.hk rfl⟩
 ·cases e
theorem sj_con {z : Str} {vs : List Expr} {ps : EJ} {n : Nat} (h : SJ X Wx vs ps) (hz : z.length ≤ sizeLine := by decide +kernel) : SJ X Wx (.Constant (.str z) n pos :: vs) (jCon z ps) := by
 refine pj_imp (pj_con h hz) ?_
 rintro out st H Q ⟨P0, H0, P, Os, env, M, r, M', k, e, q⟩
 unfold jCon at e
 split at e
 ·rename_i hl
  exact ⟨hl, P0, H0, P, Os, env, M, r, M', k, e, q⟩
 ·cases e
theorem text_is {K : PySem.W.Frag} {P : Pl} {H : Hp} {d : D} {v : V} {y : Str} (h : textD d = some y) (i : Is K P H d v) : textV v = some y := by
 unfold textD at h
 split at h
 ·cases i; exact h
 ·cases i; exact h
 ·cases h
theorem sj_val {e : Expr} {f : E} {vs : List Expr} {ps : EJ} (he : SE X Wx .val e f) (h : SJ X Wx vs ps) : SJ X Wx (.FormattedValue e (-1) none pos :: vs) (jVal f ps) := by
 refine pj_imp (pj_val he h) ?_
 rintro out st H Q ⟨P0, H0, P, Os, env, M, r, M', k, e, q⟩
 unfold jVal at e
 rcases bnd_inv e with ⟨d, M1, e1, e⟩ | ⟨c, n, e1, rfl⟩
 ·split at e
  ·rename_i y ey
   split at e
   ·rename_i hl
    exact tE_go k e1 fun P1 v1 H1 l1 h1 i1 => ⟨y, text_is ey i1, hl, P0, H0, P1, Os, env, M1, r, M', k.next l1 h1, e, RQ.imp l1 q⟩
   ·cases e
  ·cases e
 ·exact tE_go k e1 q
def sFst (ps : EJ) : E := ps Str.empty
theorem se_fst {v w : Expr} {vs : List Expr} {ps : EJ} (h : SJ X Wx (v :: w :: vs) ps) : SE X Wx m (.JoinedStr (v :: w :: vs) pos) (sFst ps) := by
 have h' : SE X Wx .val (.JoinedStr (v :: w :: vs) pos) (sFst ps) := pe_imp (pe_fst h) fun st H Q z => z
 exact h'.bor
def loopW (c : E) (b : S) : Nat → Env → Mm → OS
  | 0, _, _ => none
  | n + 1, env, M => match c env M with
    | some (.v (.bl true), M1) => (match b env M1 with
      | some (.nx e, M2) => loopW c b n e M2
      | some (.ct e, M2) => loopW c b n e M2
      | some (.bk e, M2) => some (.nx e, M2)
      | some (.rt d, M2) => some (.rt d, M2)
      | some (.ex x k, M2) => some (.ex x k, M2)
      | none => none)
    | some (.v (.bl false), M1) => some (.nx env, M1)
    | some (.x x k, M1) => some (.ex x k, M1)
    | _ => none
def sWhile (n : Nat) (c : E) (b : S) : S := fun env M => loopW c b n env M
theorem ss_while (n : Nat) {c : Expr} {body : List Stmt} {t : E} {b : S} (hp : PassesOwn (model X.prog X.w) X.A X.env X.xe) (hc : ST X Wx c t) (hb : SB X Wx body b) : SS X Wx (.While c body [] pos) (sWhile n t b) := by
  refine ps_imp (ps_while hp hc hb) ?_
  rintro D st H ⟨P0, H0, P, Os, env, M, out, M', k, e, q⟩
  refine ⟨fun m σ H1 => ∃ P1 Os1 M1 env1, Lt P H P1 H1 ∧ Ok X.K X.mg P0 H0 P1 Os1 H1 M1 σ env1 ∧ loopW t b m env1 M1 = some (out, M'), ⟨n, P, Os, M, env, Lt.refl _ _, k, e⟩, ?_⟩
  rintro m σ H1 ⟨P1, Os1, M1, env1, lt, k1, e1⟩
  cases m with
  | zero => cases e1
  | succ m =>
    simp only [loopW] at e1
    split at e1
    · rename_i M2 ec
      refine tTt_go k1 ec ⟨true, rfl, fun P2 H2 l2 h2 => ?_⟩
      dsimp only
      rw [if_pos rfl]
      have k2 := k1.next l2 h2
      have lt2 := lt.trans (l2.lt k1.hk)
      refine ⟨fun σ' H' => ∃ P1 Os1 M1 env1, Lt P H P1 H' ∧ Ok X.K X.mg P0 H0 P1 Os1 H' M1 σ' env1 ∧ loopW t b m env1 M1 = some (out, M'), fun σ' H' z => ⟨m, Nat.lt_succ_self m, z⟩, ?_⟩
      split at e1
      · rename_i e' M3 eb
        exact ⟨P0, H0, P2, Os1, env1, M2, _, _, k2, eb, fun P' Os2 H2 st2 l2 k3 => ⟨P', Os2, _, e', lt2.trans l2, k3, e1⟩⟩
      · rename_i e' M3 eb
        exact ⟨P0, H0, P2, Os1, env1, M2, _, _, k2, eb, fun P' Os2 H2 st2 l2 k3 => ⟨P', Os2, _, e', lt2.trans l2, k3, e1⟩⟩
      · rename_i e' M3 eb
        cases e1
        exact ⟨P0, H0, P2, Os1, env1, M2, _, _, k2, eb, fun P' Os2 H2 st2 l2 k3 => q P' Os2 H2 st2 (lt2.trans l2) k3⟩
      · rename_i d M3 eb
        cases e1
        exact ⟨P0, H0, P2, Os1, env1, M2, _, _, k2, eb, q⟩
      · rename_i x k' M3 eb
        cases e1
        exact ⟨P0, H0, P2, Os1, env1, M2, _, _, k2, eb, q⟩
      · cases e1
    · rename_i M2 ec
      cases e1
      refine tTt_go k1 ec ⟨false, rfl, fun P2 H2 l2 h2 => ?_⟩
      dsimp only
      rw [if_neg (by decide)]
      exact q P2 Os1 H2 σ (lt.trans (l2.lt k1.hk)) (k1.next l2 h2)
    · rename_i x k' M2 ec
      cases e1
      exact tTt_go k1 ec q
    · cases e1
def setE : List Nat → List D → Env → Option Env
 | [], [], env => some env
 | i :: is, d :: ds, env => if i < env.length then setE is ds (env.set i (.val d)) else none
 | _, _, _ => none
def sUnp (is : List Nat) (f : E) : S := fun env M => bndS (f env M) fun d M1 => match d with
 | .tup ds => if ds.length = is.length then (setE is ds env).map fun e => (.nx e, M1) else none
 | _ => none
def bAbs : List D → Option D
 | [.int i] => some (.int (if i < 0 then -i else i))
 | _ => none
end
end E3
namespace E3
open PySem L2
section
variable {env : Env} {M M1 M2 : Mm} {f g o v : E} {d e x : D} {i : Int} {k : Nat} {ds es : List D} {s t : S} {z : Str} {fa : EA} {b : Bool}
def compO : Option (List D × Mm) → O
 | some (ys, M) => some (.v (.lst ys), M)
 | none => none
def compR (q e : E) (env : Env) : Option (ResA × Mm) → O
 | some (.v ds, M1) => compO (compL q e env ds [] M1)
 | some (.x c n, M1) => some (.x c n, M1)
 | none => none
theorem q_comp {cs : List (Str × Nat)} {q e : E} : sComp cs fa q e env M = compR q e (capE cs env) (fa env M) := by
  unfold sComp compR
  cases fa env M with
  | none => rfl
  | some p =>
    obtain ⟨r, M'⟩ := p
    cases r with
    | x c n => rfl
    | v ds =>
      dsimp only
      unfold compO
      cases compL q e (capE cs env) ds [] M' <;> rfl
theorem r_comp {q e : E} : compR q e env (some (.v ds, M)) = compO (compL q e env ds [] M) := rfl
theorem r_compO : compO (some (ds, M)) = some (.v (.lst ds), M) := rfl
theorem q_capN : capE [] env = [] := rfl
theorem q_capC {x : Str} {n : Nat} {cs : List (Str × Nat)} : capE ((x, n) :: cs) env = (env[n]?).getD .un :: capE cs env := rfl
def isiV (tb : String → String → Option Bool) (T : String) (M : Mm) (ty : String) : O := if ty = "" then none else (tb ty T).map fun b => (.v (.bl b), M)
def isiR (tb : String → String → Option Bool) (T : String) : O → O
 | some (.v d, M) => isiV tb T M (tyM M d)
 | some (.x c n, M) => some (.x c n, M)
 | none => none
theorem q_isi {tb : String → String → Option Bool} {T : String} : sIsi tb T f env M = isiR tb T (f env M) := by
 unfold sIsi isiR bnd isiV
 cases f env M with
 | none => rfl
 | some p => obtain ⟨r, M'⟩ := p; cases r <;> rfl
theorem r_isi {tb : String → String → Option Bool} {T : String} : isiR tb T (some (.v d, M)) = isiV tb T M (tyM M d) := rfl
theorem ty_int : tyM M (.int i) = "int" := rfl
theorem ty_str : tyM M (.str z) = "str" := rfl
theorem ty_bl : tyM M (.bl b) = "bool" := rfl
theorem ty_non : tyM M .non = "NoneType" := rfl
theorem ty_tup : tyM M (.tup ds) = "tuple" := rfl
theorem ty_lst : tyM M (.lst ds) = "list" := rfl
theorem v_isi {tb : String → String → Option Bool} {T ty : String} (h : ty ≠ "" := by decide) : isiV tb T M ty = (tb ty T).map fun b => (.v (.bl b), M) := if_neg h
theorem v_int {tb : String → String → Option Bool} {T : String} : isiV tb T M "int" = (tb "int" T).map fun b => (.v (.bl b), M) := v_isi
theorem v_str {tb : String → String → Option Bool} {T : String} : isiV tb T M "str" = (tb "str" T).map fun b => (.v (.bl b), M) := v_isi
theorem v_bl {tb : String → String → Option Bool} {T : String} : isiV tb T M "bool" = (tb "bool" T).map fun b => (.v (.bl b), M) := v_isi
theorem v_non {tb : String → String → Option Bool} {T : String} : isiV tb T M "NoneType" = (tb "NoneType" T).map fun b => (.v (.bl b), M) := v_isi
theorem v_tup {tb : String → String → Option Bool} {T : String} : isiV tb T M "tuple" = (tb "tuple" T).map fun b => (.v (.bl b), M) := v_isi
theorem v_lst {tb : String → String → Option Bool} {T : String} : isiV tb T M "list" = (tb "list" T).map fun b => (.v (.bl b), M) := v_isi
theorem v_dct {tb : String → String → Option Bool} {T : String} : isiV tb T M "dict" = (tb "dict" T).map fun b => (.v (.bl b), M) := v_isi
theorem dct_at {kvs : List (Key × D)} (h : M[k]? = some (.dct kvs)) : dctAt M (.ref k) = some (k, kvs) := by unfold dctAt; simp only [h]
theorem dk_at {kvs : List (Key × D)} {key : Key} (h : M[k]? = some (.dct kvs)) (h4 : toKey e = some key) : dk M (.ref k) e = some (k, kvs, key) := by simp only [dk, dct_at h, h4, Option.map_some]
theorem d_get {kvs : List (Key × D)} {key : Key} (h1 : f env M = some (.v (.ref k), M1)) (h2 : g env M1 = some (.v e, M2)) (h3 : M2[k]? = some (.dct kvs)) (h4 : toKey e = some key) (h5 : valD kvs key = some x) : sDGet f g env M = some (.v x, M2) := by
 simp only [sDGet, bnd, h1, h2, dk_at h3 h4, h5, Option.map_some]
theorem d_put {M3 : Mm} {kvs : List (Key × D)} {key : Key} (h0 : v env M = some (.v x, M1)) (h1 : f env M1 = some (.v (.ref k), M2)) (h2 : g env M2 = some (.v e, M3)) (h3 : M3[k]? = some (.dct kvs)) (h4 : toKey e = some key) (h5 : kvs.length < sizeLine) : sDPutS f g v env M = some (.nx env, M3.set k (.dct (putT kvs key x))) := by
 simp only [sDPutS, bndS, h0, h1, h2, dk_at h3 h4, h5, if_true]
theorem while_by {c : E} {b : S} (Q : OS → Prop) (J : Nat → Env → Mm → Prop) {n : Nat} (h0 : ∃ m, m < n ∧ J m env M)
    (hs : ∀ m env M, J m env M → ∃ y M1, c env M = some (.v (.bl y), M1) ∧ if y = true then Step (fun e M => ∃ m', m' < m ∧ J m' e M) Q (b env M1) else Q (some (.nx env, M1))) : Q (sWhile n c b env M) := by
  have key : ∀ (n m : Nat) (env : Env) (M : Mm), m < n → J m env M → Q (loopW c b n env M) := by
    intro n
    induction n with
    | zero => intro m env M h; exact absurd h (Nat.not_lt_zero _)
    | succ n ih =>
      intro m env M hm hJ
      obtain ⟨y, M1, h1, h2⟩ := hs m env M hJ
      cases y with
      | false => simp only [loopW, h1]; exact h2
      | true =>
        simp only [loopW, h1]
        rw [if_pos rfl] at h2
        cases eb : b env M1 with
        | none => rw [eb] at h2; exact h2.elim
        | some o =>
          rw [eb] at h2
          obtain ⟨o, M'⟩ := o
          cases o with
          | nx e' => obtain ⟨m', h3, h4⟩ := h2; exact ih m' e' M' (by omega) h4
          | ct e' => obtain ⟨m', h3, h4⟩ := h2; exact ih m' e' M' (by omega) h4
          | bk e' => exact h2
          | rt d => exact h2
          | ex c n => exact h2
  obtain ⟨m, h1, h2⟩ := h0
  exact key n m env M h1 h2
theorem o_abs : bAbs [.int i] = some (.int (if i < 0 then -i else i)) := rfl
def unpD (is : List Nat) (env : Env) (M : Mm) : D → OS
 | .tup ds => if ds.length = is.length then (setE is ds env).map fun e => (.nx e, M) else none
 | _ => none
theorem q_unp {is : List Nat} : sUnp is f env M = bndT (fun d M1 => unpD is env M1 d) (f env M) := by
  unfold sUnp bndT bndS
  cases f env M with
  | none => rfl
  | some p => obtain ⟨r, M'⟩ := p; cases r with
    | x c n => rfl
    | v d => cases d <;> rfl
theorem r_unp {is : List Nat} : unpD is env M (.tup ds) = if ds.length = is.length then (setE is ds env).map fun e => (.nx e, M) else none := rfl
theorem q_setE0 : setE [] [] env = some env := rfl
theorem q_setE1 {n : Nat} {is : List Nat} : setE (n :: is) (d :: ds) env = if n < env.length then setE is ds (env.set n (.val d)) else none := rfl
end
end E3
namespace L2
open PySem PySem.Spec PyProof.Rows
end L2
namespace E3
open PySem PySem.Spec PyProof.Rows L2
section
variable {X : Cx} {Wx : XW} {m : Mode} {pos : Pos}
end
section
variable {env : Env} {M M1 M2 : Mm} {s t : S} {d : D} {c : Str} {cat : Str → Bool} {a : Int}
end
end E3
namespace E3
open PySem PySem.Spec PyProof.Rows L2
section
variable {es : List Expr} {env : PySem.Env} {pos : Pos}
theorem st_Constant {c : Const} {k : Nat} : starEach (.Constant c k pos :: es) env = (false, eval (.Constant c k pos) env) :: starEach es env := by rfl
theorem st_Name {x : Str} : starEach (.Name x pos :: es) env = (false, eval (.Name x pos) env) :: starEach es env := by rfl
theorem st_BinOp {a b : Expr} {o : Operator} : starEach (.BinOp a o b pos :: es) env = (false, eval (.BinOp a o b pos) env) :: starEach es env := by rfl
theorem st_Call {f : Expr} {as : List Expr} {ks : List Keyword} : starEach (.Call f as ks pos :: es) env = (false, eval (.Call f as ks pos) env) :: starEach es env := by rfl
theorem st_Subscript {a b : Expr} : starEach (.Subscript a b pos :: es) env = (false, eval (.Subscript a b pos) env) :: starEach es env := by rfl
theorem st_Tuple {as : List Expr} {k : Nat} : starEach (.Tuple as k pos :: es) env = (false, eval (.Tuple as k pos) env) :: starEach es env := by rfl
theorem st_Dict {ks : List (Option Expr)} {vs : List Expr} : starEach (.Dict ks vs pos :: es) env = (false, eval (.Dict ks vs pos) env) :: starEach es env := by rfl
theorem st_ListComp {a : Expr} {gs : List Comprehension} {sc : Scope} : starEach (.ListComp a gs sc pos :: es) env = (false, eval (.ListComp a gs sc pos) env) :: starEach es env := by rfl
end
end E3
namespace L2
open PySem PySem.Spec PyProof.Rows
theorem leave_next {P : Program} {w : World} {K : PySem.W.Frag} {mg : Str → Option Value} {base : Heap} {N : List Str} {qual : Str} {scope : Scope} {f : Addr} {cd : Value} {A : Around} {outer : List PySem.Env} {E : XK} {s : Shared} {H H1 : Hp} {s1 : Shared} {pins : List (Addr × Obj)} {σ : St} {a C T : Addr} {dx : Option Addr}
  (c : Caught (cxOf (CX1 P w) P w K mg base N qual scope f cd A outer s H E) pins σ H1 s1 a C dx T) (hE : E (.ref C) dx H1) : (cxOf (CX1 P w) P w K mg base N qual scope f cd A outer s H E).xe (.ref a) s1 := by
 show wpAny _ _ (leaving _ _) _ _ _
 unfold leaving
 refine wpAny_bind (Caught.note c rfl rfl fun s' T' c' => ?_)
 have I := c'.inv
 have hL : s.heap.get? (envOfC qual scope s.heap.objs.size f cd).locals = none := Heap.get?_none_of_le I.ok.above
 have u1 : Un (s.heap.objs.size :: frs outer) [] H H1 s.heap s'.heap := Un.mono (fs' := s.heap.objs.size :: frs outer) (ex' := []) I.base (fun b hb => List.mem_cons_of_mem _ hb) fun b hb => hb
 exact ⟨a, C, dx, H1, T', rfl, I.os, I.bare, u1.less hL, I.hok, c'.obj, c'.hT, c'.t1, c'.fl, hE⟩
end L2
namespace E3
open PySem PySem.Spec PyProof.Rows L2
structure XPass (X : Cx) (Wx : XW) : Prop where
 xc : ∀ pins σ H s a C dx T c n P0 H0 P M, Caught X pins σ H s a C dx T → LtE P0 H0 P H → Hk X.K X.mg P H M → X.mg c = some (.ref C) → XN H n dx → Wx P0 H0 M c n → X.xe (.ref a) s
section
variable {X : Cx} {Wx : XW} {m : Mode} {pos : Pos}
theorem SX.se {e : Expr} {f : E} (F : XPass X Wx) (h : SX X e f) : SE X Wx m e f := by
  have h' : SE X Wx .val e f := by
    let Ex : L2.St → XK := fun σ Cv dx H' => ∀ pins s' a C T, Cv = .ref C → Caught X pins σ H' s' a C dx T → X.xe (.ref a) s'
    refine pe_imp (h Ex fun pins σ H s e s' I z => ?_) ?_
    · obtain ⟨a, C, dx, H', T, rfl, K1, hE⟩ := caught_of I z
      exact hE pins s' a C T rfl K1
    · rintro st H Q ⟨P0, H0, P, Os, env, M, r, M', k, e, q⟩
      refine ⟨P0, H0, P, Os, env, M, r, M', k, e, ?_⟩
      cases r with
      | v d => exact q
      | x c n =>
        intro P' H' C dx l hk hm xn pins s' a C' T eC ca
        cases eC
        exact F.xc pins st H' s' a C dx T c n P0 H0 P' M' ca (k.base.trans l) hk hm xn q
  exact h'.bor
end
section
variable {P : Program} {w : World} {K : PySem.W.Frag} {mg : Str → Option Value} {base : Heap} {k : Nat} {x qual : Str} {st : Stmt} {f : Addr} {fd : FuncData} {N ps : List Str} {b : S}
theorem fn_runP (F : FunD K x qual st f fd) (S : FnScope N ps (defScope st)) (hp : ps.length ≤ N.length)
    (hb : ∀ cdv A outer s H E Wx, Room k (A.deeper (envOfC qual (defScope st) s.heap.objs.size f cdv)) → XFit (cxX P w K mg base N qual st f cdv A outer s H E) Wx → XPass (cxX P w K mg base N qual st f cdv A outer s H E) Wx → SB (cxX P w K mg base N qual st f cdv A outer s H E) Wx (defBody st) b) : FnOk P w K mg base (CX1 P w) (k + 1) f fd ps (spX K mg ps.length (fnG N.length b)) := by
  obtain ⟨oc, od, dV, kV, doc, pm, an, cdv, ct, osl, rfl, lk, hcd⟩ := F.ex
  refine fn_of lk hcd S (fun vs H Q E h => h.1) fun A outer s H vs Q E hr h => ?_
  obtain ⟨hl, Pl, M, ds, r, M', hk, is, e, q⟩ := h
  have XF : XFit (cxX P w K mg base N qual st f cdv A outer s H E) (fun P0 H0 M1 c n => P0 = Pl ∧ H0 = H ∧ M1 = M' ∧ r = .x c n) := ⟨fun pins σ H1 s1 a C dx c n P0 H0 P1 M1 I ea nb n0 l h m xn ⟨e1, e2, e3, e4⟩ => by
    subst e1 e2 e3 e4
    have sure : ∀ b, upd H1 a (xo a C dx false) b = none → H1 b = none := fun b z => by
      by_cases hb : b = a
      · subst hb; rw [upd_same] at z; cases z
      · rw [upd_ne hb] at z; exact z
    have l1 : LtE P0 H0 P1 (upd H1 a (xo a C dx false)) := ⟨l.n, l.io, l.bd, l.bm, fun b o eb nb => by
      rw [upd_ne (fun z => by rw [z, n0] at eb; cases eb)]
      exact l.keep b o eb nb, fun b z => l.sure b (sure b z), l.nw⟩
    have h1 := h.away (H' := upd H1 a (xo a C dx false)) (fun b o eb nx => by
      rw [upd_ne (fun z => by rw [z, ea] at eb; cases eb; exact nx _ rfl)]
      exact eb) sure
    refine leave_cx I ea (q P1 _ C dx l1 h1 m ?_)
    cases dx with
    | none => exact xn
    | some d =>
      obtain ⟨fs, ed, el⟩ := xn
      exact ⟨fs, by rw [upd_ne (fun z => by rw [z, ea] at ed; cases ed)]; exact ed, el⟩⟩
  have XP : XPass (cxX P w K mg base N qual st f cdv A outer s H E) (fun P0 H0 M1 c n => P0 = Pl ∧ H0 = H ∧ M1 = M' ∧ r = .x c n) := ⟨fun pins σ H1 s1 a C dx T c n P0 H0 P1 M1 ca l h m xn ⟨e1, e2, e3, e4⟩ => by
    subst e1 e2 e3 e4
    exact leave_next ca (q P1 _ C dx l h m xn)⟩
  refine ⟨_, hb cdv A outer s H E _ hr XF XP, ?_⟩
  unfold fnG endS at e
  have st0 := start_ok (N := N) hk (by omega) is
  split at e
  · rename_i d' M2 eb
    cases e
    exact ⟨Pl, H, Pl, _, _, M, _, _, st0, eb, fun P' v H' l h i => q P' v H' l h i⟩
  · rename_i env M2 eb
    cases e
    exact ⟨Pl, H, Pl, _, _, M, _, _, st0, eb, fun P' Os' H' st' _ k' => q P' .non H' k'.base k'.hk rfl⟩
  · rename_i c n M2 eb
    cases e
    exact ⟨Pl, H, Pl, _, _, M, _, _, st0, eb, ⟨rfl, rfl, rfl, rfl⟩⟩
  · cases e
end
end E3
namespace E3
open PySem PySem.Spec PyProof.Rows L2
section
variable {K : PySem.W.Frag} {P : Pl} {H : Hp}
def intsD : List D → Option (List Int)
 | [] => some []
 | .int i :: ds => (intsD ds).map (i :: ·)
 | _ :: _ => none
theorem ints_is : ∀ {ds : List D} {is : List Int} {vs : List V}, intsD ds = some is → Iss K P H ds vs → vs = is.map V.int
  | [], _, _, e, h => by cases e; exact h
  | d :: ds, is, vs, e, h => by
    obtain ⟨v, r, rfl, i, h⟩ := h
    cases d with
    | int n =>
      simp only [intsD, Option.map_eq_some_iff] at e
      obtain ⟨is', e', rfl⟩ := e
      cases i
      rw [ints_is e' h]
      rfl
    | _ => simp [intsD] at e
def bolsD : List D → Option (List Bool)
 | [] => some []
 | .bl b :: ds => (bolsD ds).map (b :: ·)
 | _ :: _ => none
theorem bols_is : ∀ {ds : List D} {bs : List Bool} {vs : List V}, bolsD ds = some bs → Iss K P H ds vs → vs = bs.map V.bl
  | [], _, _, e, h => by cases e; exact h
  | d :: ds, bs, vs, e, h => by
    obtain ⟨v, r, rfl, i, h⟩ := h
    cases d with
    | bl n =>
      simp only [bolsD, Option.map_eq_some_iff] at e
      obtain ⟨bs', e', rfl⟩ := e
      cases i
      rw [bols_is e' h]
      rfl
    | _ => simp [bolsD] at e
def strsD : List D → Option (List Str)
 | [] => some []
 | .str z :: ds => (strsD ds).map (z :: ·)
 | _ :: _ => none
theorem strs_is : ∀ {ds : List D} {zs : List Str} {vs : List V}, strsD ds = some zs → Iss K P H ds vs → vs = zs.map V.str
  | [], _, _, e, h => by cases e; exact h
  | d :: ds, zs, vs, e, h => by
    obtain ⟨v, r, rfl, i, h⟩ := h
    cases d with
    | str n =>
      simp only [strsD, Option.map_eq_some_iff] at e
      obtain ⟨zs', e', rfl⟩ := e
      cases i
      rw [strs_is e' h]
      rfl
    | _ => simp [strsD] at e
theorem strs_map : ∀ (zs : List Str), strsD (zs.map D.str) = some zs
 | [] => rfl
 | b :: bs => by simp [strsD, strs_map bs]
def bStr : List D → Option D
 | [.int i] => if i.natAbs.log2 < 1920 then some (.str (toString i)) else none
 | _ => none
theorem pu_str : PureN K (fun xs H Q => ∃ i, xs = [.int i] ∧ i.natAbs.log2 < 1920 ∧ Q (.str (toString i)) H) bStr := fun P H ds z vs Q h i _ q => by
 unfold bStr at h
 split at h
 ·split at h
  ·rename_i hl
   obtain ⟨v, ws, rfl, p, rfl⟩ := i
   cases h; cases p
   exact ⟨_, rfl, hl, q _ H (Same.refl H) rfl⟩
  ·cases h
 ·cases h
def bInt : List D → Option D
 | [.str z] => if z.length ≤ 640 then (intText? z).map .int else none
 | _ => none
theorem pu_int : PureN K (fun xs H Q => ∃ z n, xs = [.str z] ∧ intText? z = some n ∧ z.length ≤ 640 ∧ Q (.int n) H) bInt := fun P H ds z vs Q h i _ q => by
 unfold bInt at h
 split at h
 ·split at h
  ·rename_i hl
   rw [Option.map_eq_some_iff] at h
   obtain ⟨n, en, rfl⟩ := h
   obtain ⟨v, ws, rfl, p, rfl⟩ := i
   cases p
   exact ⟨_, n, rfl, en, hl, q _ H (Same.refl H) rfl⟩
  ·cases h
 ·cases h
def bSum : List D → Option D
 | [.lst ds] => (intsD ds).map fun is => .int is.sum
 | _ => none
theorem pu_sum : PureN K (fun xs H Q => ∃ (p : Addr) (is : List Int), xs = [.ref p] ∧ SqL K H p (is.map V.int) ∧ Q (.int is.sum) H) bSum := fun P H ds z vs Q h i _ q => by
 unfold bSum at h
 split at h
 ·rw [Option.map_eq_some_iff] at h
  obtain ⟨is, ei, rfl⟩ := h
  obtain ⟨v, ws, rfl, p, rfl⟩ := i
  obtain ⟨a, us, rfl, r, s⟩ := p
  rw [ints_is ei s] at r
  exact ⟨a, is, rfl, r, q _ H (Same.refl H) rfl⟩
 ·cases h
def bAny : List D → Option D
 | [.lst ds] => (bolsD ds).map fun bs => .bl (bs.any id)
 | _ => none
theorem pu_any : PureN K (fun xs H Q => ∃ (p : Addr) (bs : List Bool), xs = [.ref p] ∧ SqL K H p (bs.map V.bl) ∧ Q (.bl (bs.any id)) H) bAny := fun P H ds z vs Q h i _ q => by
 unfold bAny at h
 split at h
 ·rw [Option.map_eq_some_iff] at h
  obtain ⟨is, ei, rfl⟩ := h
  obtain ⟨v, ws, rfl, p, rfl⟩ := i
  obtain ⟨a, us, rfl, r, s⟩ := p
  rw [bols_is ei s] at r
  exact ⟨a, is, rfl, r, q _ H (Same.refl H) rfl⟩
 ·cases h
def bTup : List D → Option D
 | [.lst ds] => some (.tup ds)
 | [.tup ds] => some (.tup ds)
 | _ => none
theorem pu_tup : PureN K (fun xs H Q => ∃ p ys, xs = [.ref p] ∧ ((SqL K H p ys ∧ ∀ l, H l = none → Q (.ref l) (upd H l (.tup ys))) ∨ (SqT K H p ys ∧ Q (.ref p) H))) bTup := fun P H ds z vs Q h i _ q => by
 unfold bTup at h
 split at h
 ·obtain ⟨v, ws, rfl, p, rfl⟩ := i
  cases h
  obtain ⟨a, us, rfl, r, s⟩ := p
  exact ⟨a, us, rfl, .inl ⟨r, new_tup s q⟩⟩
 ·obtain ⟨v, ws, rfl, p, rfl⟩ := i
  cases h
  obtain ⟨a, us, rfl, r, s⟩ := p
  exact ⟨a, us, rfl, .inr ⟨r, q _ H (Same.refl H) ⟨a, us, rfl, r, s⟩⟩⟩
 ·cases h
end
section
variable {X : Cx} {Wx : XW} {m : Mode} {pos : Pos}
def PureM (K : PySem.W.Frag) (r : V → List V → Hp → VK → Prop) (o : Str → List D → Option D) : Prop := ∀ (P : Pl) (H : Hp) (y : Str) (ds : List D) (z : D) (vs : List V) (Q : VK), o y ds = some z → AllW K P H ds vs → (∀ p, H p = none → ¬ P.bd p) → (∀ u H', Same H H' → Is K P H' z u → Q u H') → r (.str y) vs H Q
def sMt (o : Str → List D → Option D) (f : E) (fs : EA) : E := fun env M => bnd (f env M) fun d M1 => match d with
 | .str y => bndA (fs env M1) fun ds M2 => (o y (ds.map (vw M2))).map fun z => (.v z, M2)
 | _ => none
theorem se_mt {a e : Expr} {es : List Expr} {name : Str} {id : String} {r : V → List V → Hp → VK → Prop} {o : Str → List D → Option D} {f : E} {fs : EA} {p : Pos} (slot : PySem.Slot "str" name id) (hty : typeOf (.builtin id) = pure (.type "method_descriptor")) (hm : MtR X id r) (po : PureM X.K r o) (ha : SE X Wx .val a f) (hs : SA X Wx .bor (e :: es) fs)
  (hbase : attributeBase a name X.env (eval a X.env) = eval a X.env := by rfl)
  (hfew : ((backTo pos (starEach (e :: es) X.env)).all (fun x => !x.1) && (backToKw pos (keywordEach [] X.env)).all (fun x => x.1.isSome) && decide ((e :: es).length + ([] : List Keyword).length + (if ([] : List Keyword).isEmpty then 0 else 1) < 30)) = true := by rfl)
  (hline : (p.endLine == pos.line) = true := by rfl) (hst : starEach (e :: es) X.env = (false, eval e X.env) :: starEach es X.env := by rfl) (hplain : (backTo pos (starEach es X.env)).any (·.1) = false := by rfl) :
  SE X Wx m (.Call (.Attribute a name p) (e :: es) [] pos) (sMt o f fs) := by
 refine pe_imp (pe_bm PySem.F.plainAttrs_str slot hty hm ha hs hbase hfew hline hst hplain) ?_
 rintro st H Q ⟨P0, H0, P, Os, env, M, r, M', k, e, q⟩
 unfold sMt at e
 rcases bnd_inv e with ⟨d, M1, e1, e⟩ | ⟨c, n, e1, rfl⟩
 ·cases d <;> simp only [reduceCtorEq] at e
  rename_i y
  refine tE_go k e1 fun P1 v1 H1 l1 h1 i1 => ?_
  have k1 := k.next l1 h1
  cases i1
  refine ⟨rfl, ?_⟩
  rcases bndA_inv e with ⟨ds, M2, e2, e⟩ | ⟨c, n, e2, rfl⟩
  ·rw [Option.map_eq_some_iff] at e
   obtain ⟨z, ez, e⟩ := e
   cases e
   exact ⟨P0, H0, P1, Os, env, M1, _, _, k1, e2, fun P2 vs H2 l2 h2 i2 => po P2 H2 y _ z vs Q ez (AllM.w h2 i2) h2.new fun u H' s i => q P2 u H' (l1.trans (l2.trans (LtE.same s))) (h2.same s) (IsM.of (h2.same s) i)⟩
  ·exact ⟨P0, H0, P1, Os, env, M1, _, _, k1, e2, q⟩
 ·exact tE_go k e1 q
def tJoin (z : Str) : List D → Option D
  | [.lst ds] => match strsD ds with
    | some ys => if z.length ≤ 16 ∧ (ys.map (·.length)).sum + ys.length ≤ 1048576 then some (.str (Txt.join z ys)) else none
    | none => none
  | _ => none
theorem pu_join {K : PySem.W.Frag} : PureM K (rJoin K) tJoin := fun P H y ds z vs Q h i _ q => by
 unfold tJoin at h
 split at h
 ·split at h
  ·rename_i ys ey
   split at h
   ·rename_i hl
    cases h
    obtain ⟨v, ws, rfl, p, rfl⟩ := i
    obtain ⟨a, us, rfl, r, s⟩ := p
    rw [strs_is ey s] at r
    exact ⟨y, a, ys, rfl, rfl, r, hl.1, hl.2, q _ H (Same.refl H) rfl⟩
   ·cases h
  ·cases h
 ·cases h
def tStarts (z : Str) : List D → Option D
 | [.str y] => some (.bl (Txt.startswith z y))
 | _ => none
def tLstrip (z : Str) : List D → Option D
 | [.str y] => if z.length ≤ sizeLine then some (.str (Txt.lstripChars z y)) else none
 | _ => none
def sDGetD (f g h : E) : E := fun env M => bnd (f env M) fun d M1 => match dctAt M1 d with
  | some _ => bnd (g env M1) fun y M2 => bnd (h env M2) fun x M3 => (match dk M3 d y with
    | some (_, kvs, k) => some (.v ((valD kvs k).getD x), M3)
    | none => none)
  | none => none
theorem se_dgetD {o e e' : Expr} {f g h : E} {p : Pos} (hu : X.A.units + 60 < cLine) (ho : SE X Wx .val o f) (he : SE X Wx .val e g) (he' : SE X Wx .val e' h) (hm : L2.M2 X o "get" p e e' pos := by exact ⟨rfl, rfl, rfl, rfl⟩) : SE X Wx m (.Call (.Attribute o "get" p) [e, e'] [] pos) (sDGetD f g h) := by
  refine pe_imp (pe_dget2 (Nat.lt_of_le_of_lt (Nat.add_le_add_left (by decide) _) hu) ho he he' hm) ?_
  rintro st H Q ⟨P0, H0, P, Os, env, M, r, M', k, ee, q⟩
  unfold sDGetD at ee
  rcases bnd_inv ee with ⟨d, N1, e1, ea⟩ | ⟨c, n, e1, rfl⟩
  · refine tE_go k e1 fun P1 v1 H1 l1 h1 i1 => ?_
    have k1 := k.next l1 h1
    split at ea
    · rename_i pr ed
      obtain ⟨j, kvs0⟩ := pr
      obtain ⟨rfl, em0⟩ := dctAt_inv ed
      obtain ⟨jl, rfl⟩ : j < P1.n ∧ v1 = .ref (P1.io j) := i1
      obtain ⟨vs0, ev0, _, _⟩ := h1.cell j _ em0
      refine ⟨_, rfl, .inl ⟨vs0, .inl ev0⟩, ?_⟩
      rcases bnd_inv ea with ⟨y, N2, e2, eb⟩ | ⟨c, n, e2, rfl⟩
      · refine tE_go k1 e2 fun P2 v2 H2 l2 h2 i2 => ?_
        have k2 := k1.next l2 h2
        rcases bnd_inv eb with ⟨x, N3, e3, ec⟩ | ⟨c, n, e3, rfl⟩
        · refine tE_go k2 e3 fun P3 v3 H3 l3 h3 i3 => ?_
          split at ec
          · rename_i j' kvs key ek
            cases ec
            obtain ⟨ej, em, et⟩ := dk_inv ek
            cases ej
            obtain ⟨vs, ev, en, is⟩ := h3.cell j _ em
            have g := tb_get (k := key) (kvs := kvs) (vs := vs) ⟨en, is⟩
            rw [l3.io j (Nat.lt_of_lt_of_le jl l2.n), l2.io j jl] at ev
            have i2' := Is.lt (l3.lt h2) i2
            refine ⟨valV vs key, by rw [key_is et i2']; exact DGet.k ev, ?_⟩
            cases hd : valD kvs key with
            | none =>
              rw [hd] at g q
              have g' : valV vs key = none := g
              rw [g']
              exact q P3 _ H3 (l1.trans (l2.trans l3)) h3 (IsM.of h3 i3)
            | some z =>
              rw [hd] at g q
              obtain ⟨v, gv, iv⟩ := g
              rw [gv]
              exact q P3 _ H3 (l1.trans (l2.trans l3)) h3 (IsM.of h3 iv)
          · cases ec
        · exact tE_go k2 e3 q
      · exact tE_go k1 e2 q
    · cases ea
  · exact tE_go k e1 q
theorem call_dictK : CallR X (.type "dict") (fun xs H Q => ∃ a kvs, xs = [.ref a] ∧ H a = some (.dK kvs) ∧ ∀ p, H p = none → Q (.ref p) (upd H p (.dK kvs))) := by
 intro pins s σ H xs us Q I r h
 obtain ⟨a, kvs, rfl, ha, q⟩ := h
 obtain ⟨u, rfl, ru⟩ := vals1 r
 cases ru
 exact d_copyOf I (.inl ha) fun p s' hp I' => ⟨.ref p, _, I', rfl, q p hp⟩
def sDCopy (f : E) : E := fun env M => bnd (f env M) fun d M1 => match dctAt M1 d with
 | some p => some (.v (.ref M1.length), M1 ++ [.dct p.2])
 | none => none
theorem se_dcopy {e : Expr} {f : E} {p : Pos} (hg : Gl X "dict") (hm : X.mg "dict" = none) (he : SE X Wx .val e f) (hs : starEach [e] X.env = (false, eval e X.env) :: starEach [] X.env := by rfl) : SE X Wx m (.Call (.Name "dict" p) [e] [] pos) (sDCopy f) := by
 refine pe_imp (pe_callTy call_dictK hg hm boot_dict (pa_cons he pa_nil hs) (by decide +kernel) (by decide +kernel) hs rfl) ?_
 rintro st H Q ⟨P0, H0, P, Os, env, M, r, M', k, ee, q⟩
 unfold sDCopy at ee
 rcases bnd_inv ee with ⟨d, N1, e1, ea⟩ | ⟨c, n, e1, rfl⟩
 ·split at ea
  ·rename_i pr ed
   obtain ⟨j, kvs⟩ := pr
   cases ea
   obtain ⟨rfl, em⟩ := dctAt_inv ed
   refine tE_go k e1 fun P1 v1 H1 l1 h1 i1 => ?_
   obtain ⟨jl, rfl⟩ : j < P1.n ∧ v1 = .ref (P1.io j) := i1
   obtain ⟨vs, ev, en, is⟩ := h1.cell j _ em
   refine ⟨_, vs, rfl, ev, fun p hp => ?_⟩
   obtain ⟨l2, h2, nc⟩ := bar_any (o := .dK vs) h1 hp
   obtain ⟨P3, l3, h3, i3⟩ := cell_made (o' := .dK vs) (c := .dct kvs) (l1.trans l2) h2 (l1.sure p hp) (.inr rfl) nc upd_same nf_dK fun P' l' => ⟨vs, upd_same, en, Iss.lt ((l2.lt h1).trans l') is⟩
   rw [upd_upd] at l3 h3 i3
   exact q P3 _ _ l3 h3 (IsM.of h3 i3)
  ·cases ea
 ·exact tE_go k e1 q
end
end E3
namespace E3
open PySem PySem.Spec PyProof.Rows L2
def lookT (tb : List (Str × D)) (z : Str) : Option D := (tb.find? fun p => decide (p.1 = z)).map (·.2)
inductive KRows (K : PySem.W.Frag) (w : World) : List (Str × D) → List DictEntry → List (Key × Value) → Prop
 | nil : KRows K w [] [] []
 | cons {z : Str} {d : D} {t : Tok} {u : Value} {v : V} {hs : Int} {tb : List (Str × D)} {es : List DictEntry} {vs : List (Key × Value)} : hs = hashStr w z → RelV v u → (∀ P H, Is K P H d v) → KRows K w tb es vs → KRows K w ((z, d) :: tb) (⟨hs, .str z t, u⟩ :: es) ((.inr z, u) :: vs)
def KTab (K : PySem.W.Frag) (w : World) (a : Addr) (tb : List (Str × D)) : Prop := ∃ o es ep vs, K.lookup a = some o ∧ o.ExactDict ∧ o.data = .dict es ep ∧ KRows K w tb es.toList vs ∧ (tb.map (·.1)).Nodup ∧ (a == sysModules) = false
section
variable {K : PySem.W.Frag} {w : World} {prog : Program}
theorem krows_keys : ∀ {tb : List (Str × D)} {es : List DictEntry} {vs : List (Key × Value)}, KRows K w tb es vs → (∀ e ∈ es, ∃ k, (mixKind prog w).is k e.key = true ∧ e.hash = (mixKind prog w).hash k) ∧ Pairs (mixKind prog w) es vs ∧ vs.map (·.1) = tb.map fun p => (.inr p.1 : Key)
  | _, _, _, .nil => ⟨fun e h => (by cases h), .nil, rfl⟩
  | _, _, _, .cons (z := z) (t := t) h1 h2 h3 r => by
    obtain ⟨a, b, c⟩ := krows_keys r
    refine ⟨fun e he => ?_, .cons (mixKind_str prog w z t) rfl b, by rw [List.map_cons, List.map_cons, c]⟩
    rw [List.mem_cons] at he
    rcases he with rfl | he
    · exact ⟨.inr z, mixKind_str prog w z t, h1⟩
    · exact a e he
theorem KTab.dict {a : Addr} {tb : List (Str × D)} {h : Heap} (t : KTab K w a tb) (X : K.In h) : ∃ es vs, KRows K w tb es vs ∧ h.DictOf (mixKind prog w) a vs ∧ (a == sysModules) = false := by
 obtain ⟨o, es, ep, vs, l, x, d, r, nd, ns⟩ := t
 obtain ⟨r1, r2, r3⟩ := krows_keys (prog := prog) r
 refine ⟨es.toList, vs, r, ⟨o, es, ep, X a o l, x, d, fun e he => r1 e (by simpa using he), r2, ?_⟩, ns⟩
 rw [r3]
 have : (tb.map fun p => (Sum.inr p.1 : Key)) = (tb.map (·.1)).map Sum.inr := by rw [List.map_map]; rfl
 rw [this]
 exact List.pairwise_map.mpr (List.Pairwise.imp (fun h q => h (Sum.inr.inj q)) nd)
end
section
variable {X : Cx} {Wx : XW} {m : Mode} {pos : Pos}
def sKIn (b : Bool) (tb : List (Str × D)) (f : E) : E := fun env M => bnd (f env M) fun d M1 => match d with
 | .str z => some (.v (.bl (if b then (lookT tb z).isSome else !(lookT tb z).isSome)), M1)
 | _ => none
def sKGet (tb : List (Str × D)) (f : E) : E := fun env M => bnd (f env M) fun d M1 => match d with
 | .str z => (lookT tb z).map fun y => (.v y, M1)
 | _ => none
end
end E3
namespace E3
open PySem PySem.Spec PyProof.Rows L2
section
variable {X : Cx} {Wx : XW} {pos : Pos}
def iTx (f : E) : EA := fun env M => match f env M with
 | some (.v (.str z), M1) => some (.v (z.cps.toList.map fun c => .str ⟨#[c]⟩), M1)
 | some (.x c n, M1) => some (.x c n, M1)
 | _ => none
def iRv (fs : EA) : EA := fun env M => match fs env M with
 | some (.v [.lst ds], M1) => some (.v ds.reverse, M1)
 | some (.x c n, M1) => some (.x c n, M1)
 | _ => none
end
end E3
namespace L2
open PySem PySem.Spec PyProof.Rows
def IsRvT (h : Heap) (a t : Addr) (i : Int) : Prop := ∃ o, h.get? a = some o ∧ o.cls = .type "reversed" ∧ o.data = .fields #[.ref t, rawInt i]
theorem IsRvT.typeIs {s : Shared} {a l : Addr} {i : Int} (x : IsRvT s.heap a l i) : s.TypeIs (.ref a) "reversed" := let ⟨o, ho, hc, _⟩ := x; ⟨o, ho, hc⟩
theorem IsRvT.at {h h' : Heap} {a l : Addr} {i : Int} (x : IsRvT h a l i) (e : ∀ o, h.get? a = some o → h'.get? a = some o) : IsRvT h' a l i := let ⟨o, ho, r⟩ := x; ⟨o, e _ ho, r⟩
section
variable {prog : Program} {w : World} {A : Around} {E : Value → Shared → Prop} {s : Shared}
end
section
variable {X : Cx} {tg : Expr}
end
end L2
namespace E3
open PySem PySem.Spec PyProof.Rows L2
section
variable {X : Cx} {Wx : XW} {m : Mode} {pos : Pos}
def oCat : D → D → Option D
 | .lst xs, .lst ys => if xs.length + ys.length ≤ sizeLine then some (.lst (xs ++ ys)) else none
 | _, _ => none
theorem oCat_inv {K : PySem.W.Frag} {P : Pl} {H : Hp} {d e z : D} {v w : V} (h : oCat d e = some z) (h1 : IsW K P H d v) (h2 : IsW K P H e w) : ∃ ds a b vs ws, z = .lst ds ∧ v = .ref a ∧ w = .ref b ∧ SqL K H a vs ∧ SqL K H b ws ∧ vs.length + ws.length ≤ sizeLine ∧ Iss K P H ds (vs ++ ws) := by
 unfold oCat at h
 split at h
 ·split at h
  ·rename_i hl
   cases h
   obtain ⟨a, vs, rfl, r1, s1⟩ := h1
   obtain ⟨b, ws, rfl, r2, s2⟩ := h2
   exact ⟨_, a, b, vs, ws, rfl, rfl, rfl, r1, r2, by rw [s1.len, s2.len]; exact hl, s1.append s2⟩
  ·cases h
 ·cases h
theorem sn_add {a b : Expr} {f g : E} (ha : SE X Wx .bor a f) (hb : SE X Wx .bor b g) : SN X Wx (.BinOp a .Add b pos) (s2 oCat f g) := by
 refine pe_imp (pe_op op_catR ha hb) ?_
 rintro st H Q ⟨P0, H0, P, Os, env, M, r, M', k, e, q⟩
 unfold s2 at e
 rcases bnd_inv e with ⟨d, M1, e1, e⟩ | ⟨c, n, e1, rfl⟩
 ·refine tE_go k e1 fun P1 v1 H1 l1 h1 i1 => ?_
  have k1 := k.next l1 h1
  rcases bnd_inv e with ⟨d2, M2, e2, e⟩ | ⟨c, n, e2, rfl⟩
  ·refine tE_go k1 e2 fun P2 v2 H2 l2 h2 i2 => ?_
   rw [Option.map_eq_some_iff] at e
   obtain ⟨z, ez, e⟩ := e
   cases e
   obtain ⟨ds', e', q⟩ := q
   obtain ⟨ds, a, b, vs, ws, ed, ea, eb, r1, r2, hl, is⟩ := oCat_inv ez (IsB.vw h2 (IsB.lt l2 h1 i1)) (IsB.vw h2 i2)
   cases ed.symm.trans e'
   refine ⟨a, b, vs, ws, ea, eb, r1, r2, hl, fun p hp => ?_⟩
   obtain ⟨l3, h3, nc⟩ := bar_new (vs := vs ++ ws) h2 hp
   exact q (P2.bar p) p (vs ++ ws) _ (l1.trans (l2.trans l3)) h3 (l1.sure p (l2.sure p hp)) (.inr rfl) nc upd_same (Iss.lt (l3.lt h2) is)
  ·exact tE_go k1 e2 q
 ·exact tE_go k e1 q
def repS (i : Str) (n : Nat) : Str := ⟨(List.replicate n i.cps).foldl (· ++ ·) #[]⟩
def oRep : D → D → Option D
 | .str i, .int j => if 1 < j ∧ j < 100000 ∧ 0 < i.length ∧ i.length * j.toNat ≤ sizeLine then some (.str (repS i j.toNat)) else none
 | _, _ => none
def jRep (f : E) (ps : EJ) : EJ := fun out env M => bnd (f env M) fun d M1 => match d with
 | .str z => if (reprText z).length ≤ sizeLine ∧ (out ++ reprText z).length ≤ sizeLine then ps (out ++ reprText z) env M1 else none
 | _ => none
def AtMD (P : Program) (w : World) (K : PySem.W.Frag) (mg : Str → Option Value) (base : Heap) (k : Nat) (C : Addr) (m : Str) (n : Nat) (g : G) : Prop :=
 ∃ f fd ps ds dvs sp, Meth K C m f ∧ FnOk P w K mg base CX0 k f fd ps sp ∧ Binds K fd ps ds ∧ Vals dvs ds ∧ ∀ vs H Q E, spG K mg n g vs H Q E → sp (vs ++ dvs) H Q E
theorem AtMD.mono {P : Program} {w : World} {K : PySem.W.Frag} {mg : Str → Option Value} {base : Heap} {j k : Nat} {C : Addr} {m : Str} {n : Nat} {g : G} (a : AtMD P w K mg base j C m n g) (h : j ≤ k) : AtMD P w K mg base k C m n g := by
 obtain ⟨f, fd, ps, ds, dvs, sp, h1, h2, h3⟩ := a
 exact ⟨f, fd, ps, ds, dvs, sp, h1, h2.mono h, h3⟩
structure OwnIs (K : PySem.W.Frag) (C : Addr) : Prop where
 ca : PySem.W.findIn K (.ref C) "__class__" = some (some (.builtin "object.__class__"))
 gt : PySem.W.specialIn K (.builtin "object.__class__") "__get__" = some (some (.builtin "getset_descriptor.__get__"))
 tk : PySem.W.takesIn K (.builtin "object.__class__") = some true
 mr : PySem.W.mroIn K C (.type "object") = some true
 me : PySem.W.kitOne K (.ref C) (.ref C) = some true
def iRvT (fs : EA) : EA := fun env M => match fs env M with
 | some (.v [.tup ds], M1) => some (.v ds.reverse, M1)
 | some (.x c n, M1) => some (.x c n, M1)
 | _ => none
end
end E3
namespace E3
open PySem L2
def dg (n : Nat) : List Nat := (Nat.toDigits 10 n).map Char.toNat
theorem dg_all (n : Nat) : NumText.AllDigits (dg n) := fun c hc => by
 obtain ⟨d, hd, rfl⟩ := List.mem_map.mp hc
 have h := Nat.isDigit_of_mem_toDigits (by decide) (by decide) hd
 simp only [Char.isDigit, Bool.and_eq_true, decide_eq_true_eq] at h
 exact ⟨h.1, h.2⟩
theorem dg_ne (n : Nat) : dg n ≠ [] := fun e => Nat.toDigits_ne_nil (List.map_eq_nil_iff.mp e)
theorem dg_len {n k : Nat} (h1 : 1 ≤ k) (h : n < 10 ^ k) : (dg n).length ≤ k := by
 rw [dg, List.length_map]
 exact toDigits_len_pow (by decide) h1 h
def shw (i : Int) : Str := Str.ofString (toString i)
theorem shw_nn {i : Int} (h : 0 ≤ i) : (shw i).cps.toList = dg i.toNat := by
 have := W.KIN.signs_num i.toNat
 rw [Int.toNat_of_nonneg h] at this
 exact this
theorem shw_neg {i : Int} (h : i < 0) : (shw i).cps.toList = 45 :: dg i.natAbs := by
 obtain ⟨m, rfl⟩ : ∃ m, i = Int.negSucc m := by
  cases i with
  | ofNat n => exact absurd h (by simp)
  | negSucc m => exact ⟨m, rfl⟩
 unfold shw dg
 rw [PyProof.Rows.signs_ofString]
 show List.map Char.toNat ("-" ++ toString (m + 1)).toList = _
 rw [String.toList_append, List.map_append, Nat.toString_eq_ofList_toDigits]
 simp
theorem shw_len {i : Int} {k : Nat} (h1 : 1 ≤ k) (h : i.natAbs < 10 ^ k) : (shw i).length ≤ k + 1 := by
 show (shw i).cps.size ≤ k + 1
 rw [← Array.length_toList]
 by_cases h0 : 0 ≤ i
 ·rw [shw_nn h0]
  have := dg_len (n := i.toNat) h1 (by rw [← Int.natAbs_of_nonneg h0] at *; simpa using h)
  omega
 ·rw [shw_neg (by omega), List.length_cons]
  have := dg_len h1 h
  omega
theorem int_shw {i : Int} (h : i.natAbs < 10 ^ 600) : intText? (shw i) = some i := by
 have hl := shw_len (by decide) h
 by_cases h0 : 0 ≤ i
 ·rw [intText_digits (by rw [shw_nn h0]; exact dg_all _) (by rw [shw_nn h0]; exact dg_ne _) (by omega), shw_nn h0]
  have := W.KIN.val_back i.toNat
  unfold dg
  rw [this, Int.toNat_of_nonneg h0]
 ·rw [intText_neg (shw_neg (by omega)) (dg_all _) (dg_ne _) (by omega)]
  have := W.KIN.val_back i.natAbs
  unfold dg
  rw [this]
  congr 1
  omega
def cd (s : Str) : List Nat := s.cps.toList
theorem cd_inj {a b : Str} (h : cd a = cd b) : a = b := by
 obtain ⟨x⟩ := a
 obtain ⟨y⟩ := b
 have : x = y := Array.toList_inj.mp h
 rw [this]
end E3
namespace E3
open PySem L2
theorem len_cd (x : Str) : x.length = (cd x).length := by
 show x.cps.size = x.cps.toList.length
 simp
end E3
namespace E3
open PySem L2
theorem cd_eq {x y : Str} : x = y ↔ cd x = cd y := ⟨fun h => by rw [h], cd_inj⟩
theorem eq_e {x : Str} : (x = Str.ofString "") = (cd x = []) := propext (cd_eq.trans (by rw [show cd (Str.ofString "") = [] by decide +kernel]))
end E3
namespace E3
open PySem L2
theorem log_nat {n : Nat} (h : n < 340282366920938463463374607431768211456) : n.log2 < 1920 := by
 by_cases h0 : n = 0
 ·rw [h0]; decide
 ·have := (Nat.log2_lt h0 (k := 128)).mpr h
  omega
end E3
namespace E3
open PySem L2
section
variable {env : Env} {M M1 : Mm} {f g h c : E} {d e : D} {i j : Int} {n k : Nat} {z : Str} {b : Bool} {ds es : List D} {s t : S} {x : Str} {fa : EA} {u : G}
theorem r_bndTx {q : D → Mm → OS} : bndT q (some (.x x i, M)) = some (.ex x i, M) := rfl
theorem r_bndKx {q : D → Mm → O} : bndK q (some (.x x i, M)) = some (.x x i, M) := rfl
theorem r_argKx {q : List D → Mm → O} : argK q (some (.x x i, M)) = some (.x x i, M) := rfl
theorem r_consx {q : Mm → Option (ResA × Mm)} : consK q (some (.x x i, M)) = some (.x x i, M) := rfl
theorem r_conAx : conA d (some (.x x i, M)) = some (.x x i, M) := rfl
def lsC (q : List D → O) : Option Cl → O
 | some (.lst ds) => q ds
 | _ => none
theorem r_lsC {q : List D → O} : lsC q (some (.lst ds)) = q ds := rfl
def popZ (M : Mm) (k : Nat) (ds : List D) : Option D → O
 | some z => some (.v z, M.set k (.lst ds.dropLast))
 | none => none
theorem r_popZ : popZ M k ds (some d) = some (.v d, M.set k (.lst ds.dropLast)) := rfl
def popC (M : Mm) : D → O
 | .ref k => lsC (fun ds => popZ M k ds ds[ds.length - 1]?) M[k]?
 | _ => none
theorem r_popC : popC M (.ref k) = lsC (fun ds => popZ M k ds ds[ds.length - 1]?) M[k]? := rfl
theorem q_pop : sPop f env M = bndK (fun d M1 => popC M1 d) (f env M) := by
  unfold sPop bndK bnd
  cases f env M with
  | none => rfl
  | some p =>
    obtain ⟨r, M'⟩ := p
    cases r with
    | x c n => rfl
    | v d =>
      cases d <;> rfl
def lsS (q : List D → OS) : Option Cl → OS
 | some (.lst ds) => q ds
 | _ => none
theorem r_lsS {q : List D → OS} : lsS q (some (.lst ds)) = q ds := rfl
def appC (env : Env) (g : Mm → O) (M : Mm) : D → OS
 | .ref k => lsS (fun _ => bndT (fun y M2 => lsS (fun ds => if ds.length < sizeLine then some (.nx env, M2.set k (.lst (ds ++ [y]))) else none) M2[k]?) (g M)) M[k]?
 | _ => none
theorem r_appC {q : Mm → O} : appC env q M (.ref k) = lsS (fun _ => bndT (fun y M2 => lsS (fun ds => if ds.length < sizeLine then some (.nx env, M2.set k (.lst (ds ++ [y]))) else none) M2[k]?) (q M)) M[k]? := rfl
theorem q_appC : sAppC f g env M = bndT (fun d M1 => appC env (g env) M1 d) (f env M) := by
  unfold sAppC bndT bndS
  cases f env M with
  | none => rfl
  | some p =>
    obtain ⟨r, M'⟩ := p
    cases r with
    | x c n => rfl
    | v d =>
      cases d <;> rfl
theorem w_refL (h : M[k]? = some (.lst ds)) : vw M (.ref k) = .lst ds := by unfold vw; simp only [h]
def argX (q : List D → Mm → O) : Option (ResA × Mm) → O
 | some (.v ds, M) => q ds M
 | _ => none
theorem r_argX {q : List D → Mm → O} : argX q (some (.v ds, M)) = q ds M := rfl
theorem q_callX : sCallX u fa env M = argX (fun ds M1 => u ds M1) (fa env M) := by
 unfold sCallX argX
 rfl
theorem q_raise : sRaise x f env M = bndT (fun _ M1 => some (.ex x 0, M1)) (f env M) := rfl
def unE (k : Nat) (M : Mm) (env : Env) : Option Slot → OS
 | some (.exc _ _) => some (.nx (env.set k .un), M)
 | _ => none
theorem r_unE {e' : Env} : unE k M e' (some (.exc x i)) = some (.nx (e'.set k .un), M) := rfl
def tryH (k : Nat) : OS → OS
 | some (.nx e, M2) => unE k M2 e e[k]?
 | some (.rt d, M2) => some (.rt d, M2)
 | _ => none
theorem r_tryHn {e' : Env} : tryH k (some (.nx e', M)) = unE k M e' e'[k]? := rfl
theorem r_tryHr : tryH k (some (.rt d, M)) = some (.rt d, M) := rfl
def tryR (k : Nat) (cat : Str → Bool) (q : S) (env : Env) : OS → OS
 | some (.ex c n, M1) => if cat c = true then (if k < env.length then tryH k (q (env.set k (.exc c n)) M1) else none) else none
 | o => o
theorem r_tryN {cat : Str → Bool} {e' : Env} : tryR k cat t env (some (.nx e', M)) = some (.nx e', M) := rfl
theorem r_tryRt {cat : Str → Bool} : tryR k cat t env (some (.rt d, M)) = some (.rt d, M) := rfl
theorem r_tryX {cat : Str → Bool} : tryR k cat t env (some (.ex x i, M)) = if cat x = true then (if k < env.length then tryH k (t (env.set k (.exc x i)) M) else none) else none := rfl
theorem q_try {cat : Str → Bool} : sTry k cat s t env M = tryR k cat t env (s env M) := by
  unfold sTry tryR
  cases s env M with
  | none => rfl
  | some p =>
    obtain ⟨o, M1⟩ := p
    cases o <;> rfl
def isxR (tb : Str → Option Bool) (M : Mm) : Option Slot → O
 | some (.exc c _) => (tb c).map fun b => (.v (.bl b), M)
 | _ => none
theorem r_isx {tb : Str → Option Bool} : isxR tb M (some (.exc x i)) = (tb x).map fun b => (.v (.bl b), M) := rfl
theorem q_isx {tb : Str → Option Bool} : sIsX k tb env M = isxR tb M env[k]? := by
 unfold sIsX isxR
 cases env[k]? with
 | none => rfl
 | some sl => cases sl <;> rfl
def kinD (b : Bool) (tb : List (Str × D)) (M : Mm) : D → O
 | .str z => some (.v (.bl (if b then (lookT tb z).isSome else !(lookT tb z).isSome)), M)
 | _ => none
theorem r_kin {tb : List (Str × D)} : kinD b tb M (.str z) = some (.v (.bl (if b then (lookT tb z).isSome else !(lookT tb z).isSome)), M) := rfl
theorem q_kin {tb : List (Str × D)} : sKIn b tb f env M = bndK (fun d M1 => kinD b tb M1 d) (f env M) := by
  unfold sKIn bndK bnd
  cases f env M with
  | none => rfl
  | some p => obtain ⟨r, M'⟩ := p; cases r with
    | x c n => rfl
    | v d => cases d <;> rfl
def kgetD (tb : List (Str × D)) (M : Mm) : D → O
 | .str z => (lookT tb z).map fun y => (.v y, M)
 | _ => none
theorem r_kget {tb : List (Str × D)} : kgetD tb M (.str z) = (lookT tb z).map fun y => (.v y, M) := rfl
theorem q_kget {tb : List (Str × D)} : sKGet tb f env M = bndK (fun d M1 => kgetD tb M1 d) (f env M) := by
  unfold sKGet bndK bnd
  cases f env M with
  | none => rfl
  | some p => obtain ⟨r, M'⟩ := p; cases r with
    | x c n => rfl
    | v d => cases d <;> rfl
def txR : O → Option (ResA × Mm)
 | some (.v (.str z), M1) => some (.v (z.cps.toList.map fun c => .str ⟨#[c]⟩), M1)
 | some (.x c n, M1) => some (.x c n, M1)
 | _ => none
theorem q_itx : iTx f env M = txR (f env M) := by
  unfold iTx txR
  cases f env M with
  | none => rfl
  | some p => obtain ⟨r, M'⟩ := p; cases r with
    | x c n => rfl
    | v d => cases d <;> rfl
theorem r_itx : txR (some (.v (.str z), M)) = some (.v (z.cps.toList.map fun c => .str ⟨#[c]⟩), M) := rfl
def rvR : Option (ResA × Mm) → Option (ResA × Mm)
 | some (.v [.lst ds], M1) => some (.v ds.reverse, M1)
 | some (.x c n, M1) => some (.x c n, M1)
 | _ => none
theorem q_irv : iRv fa env M = rvR (fa env M) := by unfold iRv rvR; rfl
theorem r_irv : rvR (some (.v [.lst ds], M)) = some (.v ds.reverse, M) := rfl
def rvtR : Option (ResA × Mm) → Option (ResA × Mm)
 | some (.v [.tup ds], M1) => some (.v ds.reverse, M1)
 | some (.x c n, M1) => some (.x c n, M1)
 | _ => none
theorem q_irvT : iRvT fa env M = rvtR (fa env M) := by unfold iRvT rvtR; rfl
theorem r_irvT : rvtR (some (.v [.tup ds], M)) = some (.v ds.reverse, M) := rfl
def mtD (o : Str → List D → Option D) (q : Mm → Option (ResA × Mm)) (M : Mm) : D → O
 | .str y => argR (o y) (q M)
 | _ => none
theorem r_mt {o : Str → List D → Option D} {q : Mm → Option (ResA × Mm)} : mtD o q M (.str z) = argR (o z) (q M) := rfl
theorem q_mt {o : Str → List D → Option D} : sMt o f fa env M = bndK (fun d M1 => mtD o (fa env) M1 d) (f env M) := by
  unfold sMt bndK bnd
  cases f env M with
  | none => rfl
  | some p => obtain ⟨r, M'⟩ := p; cases r with
    | x c n => rfl
    | v d =>
      cases d <;> try rfl
      dsimp only [mtD]
      unfold argR bndA
      cases fa env M' with
      | none => rfl
      | some p => obtain ⟨r, M2⟩ := p; cases r with
        | x c n => rfl
        | v ds => dsimp only; cases o _ (ds.map (vw M2)) <;> rfl
theorem t_st {y : Str} : tStarts z [.str y] = some (.bl (Txt.startswith z y)) := rfl
theorem t_ls {y : Str} : tLstrip z [.str y] = if z.length ≤ sizeLine then some (.str (Txt.lstripChars z y)) else none := rfl
theorem q_fst {ps : EJ} : sFst ps env M = ps Str.empty env M := rfl
theorem q_jend {out : Str} : jEnd out env M = if out.length ≤ sizeLine then some (.v (.str out), M) else none := rfl
theorem q_jcon {ps : EJ} {out : Str} : jCon z ps out env M = if (out ++ z).length ≤ sizeLine then ps (out ++ z) env M else none := rfl
def jvR (ps : EJ) (out : Str) (env : Env) (M : Mm) : Option Str → O
 | some y => if (out ++ y).length ≤ sizeLine then ps (out ++ y) env M else none
 | none => none
theorem r_jv {ps : EJ} {out y : Str} : jvR ps out env M (some y) = if (out ++ y).length ≤ sizeLine then ps (out ++ y) env M else none := rfl
theorem q_jval {ps : EJ} {out : Str} : jVal f ps out env M = bndK (fun d M1 => jvR ps out env M1 (textD d)) (f env M) := by
  unfold jVal bndK bnd
  cases f env M with
  | none => rfl
  | some p => obtain ⟨r, M'⟩ := p; cases r with
    | x c n => rfl
    | v d => dsimp only; cases textD d <;> rfl
theorem t_txS : textD (.str z) = if z.length ≤ sizeLine then some z else none := rfl
theorem t_txI : textD (.int i) = if i.natAbs.log2 < 1920 then some (Str.ofString (toString i)) else none := rfl
def jrD (ps : EJ) (out : Str) (env : Env) (M : Mm) : D → O
 | .str z => if (reprText z).length ≤ sizeLine ∧ (out ++ reprText z).length ≤ sizeLine then ps (out ++ reprText z) env M else none
 | _ => none
theorem r_jr {ps : EJ} {out : Str} : jrD ps out env M (.str z) = if (reprText z).length ≤ sizeLine ∧ (out ++ reprText z).length ≤ sizeLine then ps (out ++ reprText z) env M else none := rfl
theorem q_jrep {ps : EJ} {out : Str} : jRep f ps out env M = bndK (fun d M1 => jrD ps out env M1 d) (f env M) := by
  unfold jRep bndK bnd
  cases f env M with
  | none => rfl
  | some p => obtain ⟨r, M'⟩ := p; cases r with
    | x c n => rfl
    | v d => cases d <;> rfl
theorem o_cat : oCat (.lst ds) (.lst es) = if ds.length + es.length ≤ sizeLine then some (.lst (ds ++ es)) else none := rfl
theorem o_addS {y : Str} : oAdd (.str z) (.str y) = if z.length + y.length ≤ sizeLine then some (.str (z ++ y)) else none := rfl
theorem o_rep : oRep (.str z) (.int i) = if 1 < i ∧ i < 100000 ∧ 0 < z.length ∧ z.length * i.toNat ≤ sizeLine then some (.str (repS z i.toNat)) else none := rfl
theorem o_ixS : oIx (.str z) (.int i) = if z.length ≤ sizeLine then (atI z.cps.toList i).map fun c => .str ⟨#[c]⟩ else none := rfl
theorem o_lenS : bLen [.str z] = if z.length ≤ sizeLine then some (.int z.length) else none := rfl
theorem o_str : bStr [.int i] = if i.natAbs.log2 < 1920 then some (.str (toString i)) else none := rfl
theorem o_int : bInt [.str z] = if z.length ≤ 640 then (intText? z).map .int else none := rfl
theorem o_any : bAny [.lst ds] = (bolsD ds).map fun bs => .bl (bs.any id) := rfl
theorem o_tupL : bTup [.lst ds] = some (.tup ds) := rfl
theorem o_inS {y : Str} : oCmp .isin (.str z) (.str y) = some (.bl (inStr z y)) := rfl
theorem o_ninS {y : Str} : oCmp .notin (.str z) (.str y) = some (.bl (!inStr z y)) := rfl
theorem o_eqS {y : Str} : oCmp .eq (.str z) (.str y) = some (.bl (decide (z = y))) := by
 unfold oCmp cmpD cEq
 rw [if_pos (by constructor <;> first | rfl | simp [D.dep])]
 have : (z == y) = decide (z = y) := by rw [Bool.eq_iff_iff]; simp
 simp [D.eq, this]
theorem o_neS {y : Str} : oCmp .ne (.str z) (.str y) = some (.bl (!decide (z = y))) := by
 unfold oCmp cmpD cNe
 rw [if_pos (by constructor <;> first | rfl | simp [D.dep])]
 have : (z == y) = decide (z = y) := by rw [Bool.eq_iff_iff]; simp
 simp [D.eq, this]
theorem o_isNn : oCmp .same .non .non = some (.bl true) := rfl
theorem o_isnI : oCmp .other (.int i) .non = some (.bl true) := rfl
theorem o_isnN : oCmp .other .non .non = some (.bl false) := rfl
theorem comp_of {α : Type} {e : E} (A B : α → D) : ∀ (as : List α) (acc : List D), (∀ a ∈ as, e (.val (A a) :: env) M = some (.v (B a), M)) → acc.length + as.length < sizeLine → compL (sCon (.bl true)) e env (as.map A) acc M = some (acc ++ as.map B, M)
  | [], acc, _, _ => by simp [compL]
  | a :: as, acc, h, hl => by
    rw [List.length_cons] at hl
    have hr := comp_of A B as (acc ++ [B a]) (fun a' ha' => h a' (by simp [ha'])) (by rw [List.length_append, List.length_singleton]; omega)
    rw [List.map_cons]
    unfold compL
    rw [show sCon (.bl true) (.val (A a) :: env) M = some (.v (.bl true), M) from rfl]
    dsimp only
    rw [h a List.mem_cons_self]
    dsimp only
    rw [if_pos (by omega), hr]
    simp
def stepR (k : Nat) (t : S) (ds : List D) : OS → OS
 | some (.nx e, M1) => loopS k t ds e M1
 | some (.ct e, M1) => loopS k t ds e M1
 | some (.bk e, M1) => some (.nx e, M1)
 | some (.rt d, M1) => some (.rt d, M1)
 | some (.ex c n, M1) => some (.ex c n, M1)
 | none => none
theorem q_loop0 : loopS k t [] env M = some (.nx env, M) := rfl
theorem q_loop1 : loopS k t (d :: ds) env M = if k < env.length then stepR k t ds (t (env.set k (.val d)) M) else none := by
 unfold loopS stepR
 rfl
theorem r_stN {e' : Env} : stepR k t ds (some (.nx e', M)) = loopS k t ds e' M := rfl
theorem r_stC {e' : Env} : stepR k t ds (some (.ct e', M)) = loopS k t ds e' M := rfl
theorem r_stB {e' : Env} : stepR k t ds (some (.bk e', M)) = some (.nx e', M) := rfl
theorem r_stR : stepR k t ds (some (.rt d, M)) = some (.rt d, M) := rfl
theorem r_stX : stepR k t ds (some (.ex x i, M)) = some (.ex x i, M) := rfl
theorem at0 {α : Type} {a : α} {xs : List α} : atI (a :: xs) 0 = some a := atI_nat (j := 0) rfl
theorem at1 {α : Type} {a b : α} {xs : List α} : atI (a :: b :: xs) 1 = some b := atI_nat (j := 1) rfl
theorem at2 {α : Type} {a b c : α} {xs : List α} : atI (a :: b :: c :: xs) 2 = some c := atI_nat (j := 2) rfl
theorem at3 {α : Type} {a b c d : α} {xs : List α} : atI (a :: b :: c :: d :: xs) 3 = some d := atI_nat (j := 3) rfl
theorem g_end {M : Mm} {cl : Cl} : (M ++ [cl])[M.length]? = some cl := List.getElem?_concat_length ..
theorem s_end {M : Mm} {cl cl' : Cl} : (M ++ [cl]).set M.length cl' = M ++ [cl'] := by simp
theorem w_end {M : Mm} : vw (M ++ [.lst ds]) (.ref M.length) = .lst ds := w_refL g_end
theorem cut_mapL {α β : Type} (f : α → β) (xs : List α) (lo hi : Option Int) : cutL (xs.map f) lo hi = (cutL xs lo hi).map f := by
 unfold cutL
 rw [List.length_map, ← List.map_drop, ← List.map_take]
theorem cut_to {α : Type} (xs : List α) {i : Int} (h : 0 ≤ i) : cutL xs none (some i) = xs.take i.toNat := by
 obtain ⟨k, rfl⟩ : ∃ k : Nat, i = k := ⟨i.toNat, by omega⟩
 unfold cutL
 rw [HT.sIx_none, HT.sIx_nat, List.drop_zero, Nat.sub_zero, Int.toNat_natCast]
 by_cases hk : k ≤ xs.length
 ·rw [Nat.min_eq_left hk]
 ·rw [Nat.min_eq_right (by omega), List.take_length, List.take_of_length_le (by omega)]
theorem cut_both {α : Type} (xs : List α) {i j : Int} (h : 0 ≤ i) (h' : 0 ≤ j) : cutL xs (some i) (some j) = (xs.drop i.toNat).take (j.toNat - i.toNat) := by
 obtain ⟨k, rfl⟩ : ∃ k : Nat, i = k := ⟨i.toNat, by omega⟩
 obtain ⟨l, rfl⟩ : ∃ k : Nat, j = k := ⟨j.toNat, by omega⟩
 unfold cutL
 rw [HT.sIx_nat, HT.sIx_nat, Int.toNat_natCast, Int.toNat_natCast]
 by_cases hk : k ≤ xs.length
 ·rw [Nat.min_eq_left hk]
  by_cases hl : l ≤ xs.length
  ·rw [Nat.min_eq_left hl]
  ·rw [Nat.min_eq_right (by omega), List.take_of_length_le (by rw [List.length_drop]; omega), List.take_of_length_le (by rw [List.length_drop]; omega)]
 ·rw [show min k xs.length = xs.length from Nat.min_eq_right (by omega), List.drop_length, List.drop_of_length_le (by omega), List.take_nil, List.take_nil]
end
end E3
namespace L2
open PySem PySem.Spec PyProof.Rows
end L2
namespace E3
open PySem PySem.Spec PyProof.Rows L2
section
variable {X : Cx} {Wx : XW} {m : Mode} {pos : Pos}
def loopV (i j n : Nat) (body : S) : Nat → Env → Mm → OS
  | 0, env, M => some (.nx env, M)
  | r + 1, env, M => match M[j]? with
    | some (.lst ds) => if ds.length = n then (match ds[r]? with
      | none => none
      | some d => if i < env.length then (match body (env.set i (.val d)) M with
        | some (.nx e, M1) => loopV i j n body r e M1
        | some (.ct e, M1) => loopV i j n body r e M1
        | some (.bk e, M1) => some (.nx e, M1)
        | some (.rt d, M1) => some (.rt d, M1)
        | some (.ex c k, M1) => some (.ex c k, M1)
        | none => none) else none) else none
    | _ => none
def sForV (i : Nat) (fs : EA) (body : S) : S := fun env M => match fs env M with
  | some (.v [.lst ds], M1) => loopS i body ds.reverse env M1
  | some (.v [.ref j], M1) => (match M1[j]? with
    | some (.lst ds) => loopV i j ds.length body ds.length env M1
    | _ => none)
  | some (.x c n, M1) => some (.ex c n, M1)
  | _ => none
end
section
variable {env : Env} {M : Mm} {ds : List D} {d : D} {i j k n : Nat} {t : S} {fa : EA} {x : Str}
def forV (i : Nat) (t : S) (env : Env) : Option (ResA × Mm) → OS
 | some (.v [.lst ds], M1) => loopS i t ds.reverse env M1
 | some (.v [.ref j], M1) => lsS (fun ds => loopV i j ds.length t ds.length env M1) M1[j]?
 | some (.x c n, M1) => some (.ex c n, M1)
 | _ => none
theorem q_forV : sForV i fa t env M = forV i t env (fa env M) := by
 unfold sForV forV
 split <;> rfl
theorem r_forVl : forV i t env (some (.v [.lst ds], M)) = loopS i t ds.reverse env M := rfl
theorem r_forVr : forV i t env (some (.v [.ref j], M)) = lsS (fun ds => loopV i j ds.length t ds.length env M) M[j]? := rfl
end
end E3
namespace L2
open PySem PySem.Spec PyProof.Rows
end L2
namespace E3
open PySem PySem.Spec PyProof.Rows L2
section
variable {X : Cx} {Wx : XW} {m : Mode} {pos : Pos}
def lixD (ds : List D) : List D → Option D
  | [.str y] => match strsD ds with
    | some zs => (zs.findIdx? (fun z => decide (z = y))).map fun (j : Nat) => D.int (j : Int)
    | none => none
  | _ => none
def sLix (f : E) (fs : EA) : E := fun env M => bnd (f env M) fun d M1 => match d with
 | .lst ds => bndA (fs env M1) fun es M2 => (lixD ds es).map fun z => (.v z, M2)
 | _ => none
end
section
variable {env : Env} {M : Mm} {ds es : List D} {f : E} {fa : EA}
def lixK (q : Mm → Option (ResA × Mm)) (M : Mm) : D → O
 | .lst ds => argK (fun es M2 => mapR M2 (lixD ds es)) (q M)
 | _ => none
theorem r_lix {q : Mm → Option (ResA × Mm)} : lixK q M (.lst ds) = argK (fun es M2 => mapR M2 (lixD ds es)) (q M) := rfl
theorem q_lix : sLix f fa env M = bndK (fun d M1 => lixK (fa env) M1 d) (f env M) := by
  unfold sLix bndK bnd
  cases f env M with
  | none => rfl
  | some p => obtain ⟨r, M'⟩ := p; cases r with
    | x c n => rfl
    | v d =>
      cases d <;> try rfl
      dsimp only [lixK]
      unfold argK bndA
      cases fa env M' with
      | none => rfl
      | some p => obtain ⟨r, M2⟩ := p; cases r with
        | x c n => rfl
        | v ds => dsimp only; cases lixD _ ds <;> rfl
end
end E3
namespace L2
open PySem PySem.Spec PyProof.Rows
section
variable {X : Cx} {pos : Pos}
def tDEq (y : Bool) (ta tb : TE) : TE := fun σ H Q => ta σ H fun x H1 => tb σ H1 fun z H2 => ∃ a b ka kb, x = .ref a ∧ z = .ref b ∧ H2 a = some (.dK ka) ∧ H2 b = some (.dK kb) ∧ ka.length = kb.length ∧
 (∀ p ∈ ka, ∃ i, p.2 = .int i ∧ valV kb p.1 = some (.int i)) ∧ Q (.bl y) H2
theorem hits_of {A : Around} {s : Shared} {kb : List (Key × V)} {vb : List (Key × Value)} (rb : KV kb vb) {ka : List (Key × V)} {va : List (Key × Value)} (ra : KV ka va)
    (h : ∀ p ∈ ka, ∃ i, p.2 = .int i ∧ valV kb p.1 = some (.int i)) : PySem.W.KeqHits A s vb va true := by
  unfold KV at ra
  induction ra with
  | nil => exact .nil
  | @cons p q ps qs hh t ih =>
    obtain ⟨i, e1, e2⟩ := h p (by simp)
    have r := rb.val p.1
    rw [e2] at r
    obtain ⟨h1, h2⟩ := hh
    rw [e1] at h2
    obtain ⟨t1, e3⟩ : ∃ t, q.2 = .int i t := h2
    cases hv : valueAt vb p.1 with
    | none => rw [hv] at r; exact r.elim
    | some y =>
      rw [hv] at r
      obtain ⟨t2, e4⟩ : ∃ t, y = .int i t := r
      obtain ⟨qk, qv⟩ := q
      have e5 : p.1 = qk := h1
      have e6 : qv = .int i t1 := e3
      subst e5 e6 e4
      have z := PySem.W.KeqHits.hit hv (SeqAt.EqAt.int_int i t1 i t2 : SeqAt.EqAt A s _ _ _) (ih fun p hp => h p (by simp [hp]))
      simpa using z
theorem deq_ok {pins : List (Addr × Obj)} {s : Shared} {σ : St} {H : Hp} {a b : Addr} {ka kb : List (Key × V)} (hu : X.A.units < cLine) (I : Inv X pins σ H s) (ha : H a = some (.dK ka)) (hb : H b = some (.dK kb)) (hl : ka.length = kb.length)
  (h : ∀ p ∈ ka, ∃ i, p.2 = .int i ∧ valV kb p.1 = some (.int i)) :
  (∀ {E : Value → Shared → Prop} {Q : Value → Shared → Prop}, Q (.bool true) s → wpAny (model X.prog X.w) X.A (compareOp .Eq (.ref a) (.ref b)) Q E s) ∧
  (∀ {E : Value → Shared → Prop} {Q : Value → Shared → Prop}, Q (.bool false) s → wpAny (model X.prog X.w) X.A (compareOp .NotEq (.ref a) (.ref b)) Q E s) := by
 obtain ⟨_, sa, va, ra, da⟩ := I.hok a _ ha
 obtain ⟨_, sb, vb, rb, db⟩ := I.hok b _ hb
 have e : va.length = vb.length := by rw [← ra.length, ← rb.length]; exact hl
 refine ⟨fun {E Q} q => PySem.W.keq_eq sa sb da db hu (fun _ => hits_of rb ra h) ?_, fun {E Q} q => PySem.W.keq_ne sa sb da db hu (fun _ => hits_of rb ra h) ?_⟩
 ·rw [e]; simpa using q
 ·rw [e]; simpa using q
theorem pc_deq {i o : Expr} {ti to : TE} (hu : X.A.units < cLine) (hi : PE X i ti) (ho : PE X o to) : PC X .Eq i o (tDEq true ti to) := by
 intro pins s σ H Q I h
 refine thn (hi pins s σ H _ I h) fun u s1 ⟨x, H1, I1, rx, q1⟩ => thn (ho pins s1 σ H1 _ I1 q1) fun v s2 ⟨z, H2, I2, rz, a, b, ka, kb, ex, ez, ha, hb, hl, hh, q2⟩ => ?_
 subst ex ez
 obtain rfl : u = Value.ref a := rx
 obtain rfl : v = Value.ref b := rz
 exact (deq_ok hu I2 ha hb hl hh).1 ⟨.bl true, H2, I2, rfl, q2⟩
theorem pc_dne {i o : Expr} {ti to : TE} (hu : X.A.units < cLine) (hi : PE X i ti) (ho : PE X o to) : PC X .NotEq i o (tDEq false ti to) := by
 intro pins s σ H Q I h
 refine thn (hi pins s σ H _ I h) fun u s1 ⟨x, H1, I1, rx, q1⟩ => thn (ho pins s1 σ H1 _ I1 q1) fun v s2 ⟨z, H2, I2, rz, a, b, ka, kb, ex, ez, ha, hb, hl, hh, q2⟩ => ?_
 subst ex ez
 obtain rfl : u = Value.ref a := rx
 obtain rfl : v = Value.ref b := rz
 exact (deq_ok hu I2 ha hb hl hh).2 ⟨.bl false, H2, I2, rfl, q2⟩
end
section
variable {X : Cx} {pins : List (Addr × Obj)} {σ : St} {H : Hp} {s : Shared} {a : Addr} {u u' : HO}
theorem Inv.swap (I : Inv X pins σ H s) (ha : H a = some u) (h1 : ∀ xs, u ≠ .tup xs) (h2 : ∀ b, u ≠ .own b) (h3 : ∀ ps, u ≠ .tbl ps) (hf : ∀ o v, X.H₀ a ≠ some (.frz o v))
  (ok : ObjOk X.prog X.w (upd H a u') s.heap a u') : Inv X pins σ (upd H a u') s := by
 have ne : ∀ b, H b = none → b ≠ a := fun b e z => by rw [z, ha] at e; cases e
 refine ⟨I.ok, I.os, I.bare, ?_, I.loc, I.cell, ?_, ?_, ?_, ?_, I.len⟩
 ·refine ⟨I.base.keep, I.base.slot, fun b o e1 e2 e3 => ?_, I.base.there, fun b xs e => ?_, fun b o v e => ?_, fun b ps e => ?_⟩
  ·have := I.base.free b o e1 e2 e3
   rw [upd_ne (ne b this)]; exact this
  ·have := I.base.tups b xs e
   by_cases z : b = a
   ·rw [z, ha] at this; cases this; exact absurd rfl (h1 xs)
   ·rw [upd_ne z]; exact this
  ·have := I.base.frzs b o v e
   by_cases z : b = a
   ·rw [z] at e; exact absurd e (hf o v)
   ·rw [upd_ne z]; exact this
  ·obtain ⟨more, this⟩ := I.base.tbls b ps e
   by_cases z : b = a
   ·rw [z, ha] at this; cases this; exact absurd rfl (h3 _)
   ·exact ⟨more, by rw [upd_ne z]; exact this⟩
 ·rw [upd_ne (ne _ I.free)]; exact I.free
 ·intro x c e
  have := I.freeC x c e
  rw [upd_ne (ne _ this)]; exact this
 ·intro p hp
  obtain ⟨q1, q2, q3⟩ := I.pin p hp
  exact ⟨q1, by rw [upd_ne (ne _ q2)]; exact q2, q3⟩
 ·intro b o e
  by_cases z : b = a
  ·rw [z] at e ⊢
   rw [upd_same] at e
   cases e
   exact ok
  ·rw [upd_ne z] at e
   refine (I.hok b o e).stay (fun c v _ q => q) (fun c q => ?_) (fun c xs q => ?_)
   ·by_cases y : c = a
    ·rw [y, ha] at q; cases q; exact absurd rfl (h2 _)
    ·rw [upd_ne y]; exact q
   ·by_cases y : c = a
    ·rw [y, ha] at q; cases q; exact absurd rfl (h1 _)
    ·rw [upd_ne y]; exact q
end
def ItV (a : Addr) (ob : Obj) (kvs : List (Key × V)) : It :=
 ⟨fun i H => i < kvs.length ∧ H a = some (.frz ob (.dK kvs)), fun i H x H' => H' = H ∧ (kvs[i]?).map (·.2) = some x, fun i H => i = kvs.length ∧ H a = some (.frz ob (.dK kvs))⟩
theorem KV.get {κ : Type} : ∀ {kvs : List (κ × V)} {vs : List (κ × Value)} {i : Nat} {p : κ × V}, KV kvs vs → kvs[i]? = some p → ∃ q, vs[i]? = some q ∧ RelV p.2 q.2 := by
  intro kvs vs i p r
  unfold KV at r
  induction r generalizing i with
  | nil => intro e; simp at e
  | cons h t ih =>
    intro e
    cases i with
    | zero => simp only [List.getElem?_cons_zero] at e; cases e; exact ⟨_, rfl, h.2⟩
    | succ n => simp only [List.getElem?_cons_succ] at e ⊢; exact ih e
theorem at_frz {P : Program} {w : World} {H : Hp} {h : Heap} {a : Addr} {ob : Obj} {kvs : List (Key × V)} {es0 : Array DictEntry} {ep : Nat} (ok : HOk P w H h) (e : H a = some (.frz ob (.dK kvs))) (hd : ob.data = .dict es0 ep) :
  ∃ vs, KV kvs vs ∧ h.DictAt (mixKind P w) a vs ep := by
 obtain ⟨g, _, _, vs, r, o, es, ep', ho, hx, hdat, rest⟩ := ok a _ e
 rw [g] at ho
 cases ho
 rw [hd] at hdat
 cases hdat
 exact ⟨vs, r, ob, es0, g, hx, hd, rest⟩
theorem turn_vals {P : Program} {w : World} {K : PySem.W.Frag} {tg : Expr} (a it : Addr) (ob : Obj) (kvs : List (Key × V)) {es : Array DictEntry} {ep : Nat} (hd : ob.data = .dict es ep) : Turn P w K tg (ItV a ob kvs) [it] it (fun i h => h.IsValIter it a i kvs.length ep) where
 mem := by simp
 obj := fun i h st b hb => by
  have e : b = it := by simpa using hb
  subst e
  obtain ⟨o, e, c, d⟩ := st
  exact ⟨o, e, fun v z => by rw [d] at z; cases z⟩
 keep := fun i h h' st k => st.at fun o e => k it (by simp) o e
 item := by
  intro X hP hw hK hc i pins s σ H E I hf st hg
  subst hP hw hK
  obtain ⟨hi, hq⟩ := hg
  obtain ⟨vs, rv, dat⟩ := at_frz I.hok hq hd
  have hx : kvs[i]? = some (kvs[i]'hi) := List.getElem?_eq_getElem hi
  obtain ⟨⟨k, u⟩, hu, ru⟩ := rv.get hx
  obtain ⟨f0, f1, f2, f3, f4, f5⟩ := hf it (by simp)
  have st0 : s.heap.IsValIter it a i vs.length ep := by rw [← rv.length]; exact st
  refine wpAny_pyNext_values_item st0 dat hu fun h' st' sb => ?_
  rw [← rv.length] at st'
  have I1 : Inv X pins σ H { s with heap := h' } := I.turned (t' := s.toks) (fun b o hb e => (sb.2 b hb).trans e) f0 f1 f3 f4 f5
  obtain ⟨o, eo, c, d⟩ := id st'
  exact ⟨u, rfl, go_of (s := { s with heap := h' }) eo c d (by decide) ⟨_, H, I1, ru, ⟨rfl, by rw [hx]; rfl⟩, st', fun b hb => (hf b hb).1⟩⟩
 done := by
  intro X hP hw hK hc i pins s σ H E I hf st hg
  subst hP hw hK
  obtain ⟨hi, hq⟩ := hg
  obtain ⟨vs, rv, dat⟩ := at_frz I.hok hq hd
  obtain ⟨f0, f1, f2, f3, f4, f5⟩ := hf it (by simp)
  have st0 : s.heap.IsValIter it a i vs.length ep := by rw [← rv.length]; exact st
  exact wpAny_pyNext_values_end (I.ok.hd hc) st0 dat (List.getElem?_eq_none (by rw [hi, rv.length]; exact Nat.le_refl _)) fun h' eb => ⟨rfl, I.turned (t' := s.toks) (fun b o hb e => eb b o hb e) f0 f1 f3 f4 f5⟩
 self := fun _ _ _ _ _ st h => wpAny_pyIter_valiter st h
section
variable {X : Cx} {tg : Expr}
def iVals (X : Cx) (td : TE) : TI := fun σ H R => td σ H fun v H1 => ∃ a kvs, v = .ref a ∧ H1 a = some (.dK kvs) ∧ ∀ ob, (∀ o u, X.H₀ a ≠ some (.frz o u)) → R (ItV a ob kvs) (upd H1 a (.frz ob (.dK kvs)))
theorem pi_vals {o : Expr} {td : TE} {p q : Pos} (ho : PE X o td) (hbase : attributeBase o "values" X.env (eval o X.env) = eval o X.env := by rfl) (hline : (p.endLine == q.line) = true := by rfl) : PI X tg (.Call (.Attribute o "values" p) [] [] q) (iVals X td) := by
 intro pins s σ H R I h
 refine wpAny_Call_method0_late hbase hline (thn (ho pins s σ H _ I h) fun v s1 ⟨x, H1, I1, r1, a, kvs, ex, ha, q1⟩ => ?_)
 subst ex
 obtain rfl : v = Value.ref a := r1
 obtain ⟨sz, sa, vs, rv, dd⟩ := I1.hok a _ ha
 obtain ⟨ob, es, ep, hob, hex, hdat, rest⟩ := id dd
 have nf : ∀ o u, X.H₀ a ≠ some (.frz o u) := fun o u e => by
  have := I1.base.frzs a o u e
  rw [ha] at this; cases this
 refine ⟨"dict", "dict.values", PySem.F.plainAttrs_dict, PySem.F.slot_dict_values, PySem.F.type_dict_values, dd.typeIs, fun b e => by cases e; exact ⟨ob, hob, hex.2.1⟩, Calls.callWith_builtin rfl (PySem.evalArgs_none ?_)⟩
 refine call_meetsIn PySem.F.slot_dict_values dd.typeIs PySem.F.entry_dict_values (PySem.F.args_dict_values_1 _) (meets_dict_values (mixKind X.prog X.w) a sa) ⟨⟨vs, dd⟩, ?_⟩
 have I2 : Inv X pins σ H1 { s1 with heap := s1.heap.push { cls := .type "dict_values", data := .fields #[.ref a] } } := I1.kept (t' := s1.toks) fun b o e => Heap.get?_push_of_some _ e
 have da : Heap.DictAt (mixKind X.prog X.w) (s1.heap.push { cls := .type "dict_values", data := .fields #[.ref a] }) a vs ep := ⟨ob, es, Heap.get?_push_of_some _ hob, hex, hdat, rest⟩
 refine wpAny_pyIter_values (s := { s1 with heap := s1.heap.push { cls := .type "dict_values", data := .fields #[.ref a] } }) (v := s1.heap.objs.size) ⟨_, Heap.get?_push_size _ rfl, rfl, rfl⟩ da ?_
 have I3 : Inv X pins σ H1 { s1 with heap := (s1.heap.push { cls := .type "dict_values", data := .fields #[.ref a] }).push { cls := .type "dict_valueiterator", data := .fields #[.ref a, .int 0 0, .int vs.length 0, .int ep 0] } } := I2.kept (t' := s1.toks) fun b o e => Heap.get?_push_of_some _ e
 have I4 := I3.swap (u' := .frz ob (.dK kvs)) ha (fun _ z => by cases z) (fun _ z => by cases z) (fun _ z => by cases z) nf ⟨Heap.get?_push_of_some _ (Heap.get?_push_of_some _ hob), I3.hok a _ ha⟩
 refine ⟨_, [(s1.heap.push { cls := .type "dict_values", data := .fields #[.ref a] }).objs.size], _, ItV a ob kvs, _, rfl, I4, turn_vals a _ ob kvs hdat, ?_, fun c hc => ?_, q1 ob nf⟩
 ·rw [rv.length]
  exact ⟨_, Heap.get?_push_size _ rfl, rfl, rfl⟩
 ·have e : c = (s1.heap.push { cls := .type "dict_values", data := .fields #[.ref a] }).objs.size := by simpa using hc
  subst e
  refine I2.fpOk (Nat.le_refl _) ?_
  have := I2.hok.fresh (Nat.le_refl _)
  rw [upd_ne (ne_of_none ha this).symm]
  exact this
theorem pe_back {e : Expr} {t : TE} (h : PE X e t) : PE X e fun σ H Q => t σ H fun v H' => ∃ a ob kvs, H' a = some (.frz ob (.dK kvs)) ∧ (∀ o u, X.H₀ a ≠ some (.frz o u)) ∧ Q v (upd H' a (.dK kvs)) := by
 intro pins s σ H Q I w
 refine thn (h pins s σ H _ I w) fun v s1 ⟨x, H1, I1, r1, a, ob, kvs, ha, nf, q⟩ => ?_
 exact ⟨x, _, I1.swap (u' := .dK kvs) ha (fun _ z => by cases z) (fun _ z => by cases z) (fun _ z => by cases z) nf (I1.hok a _ ha).2, r1, q⟩
end
end L2
namespace E3
open PySem PySem.Spec PyProof.Rows L2
def DAl (a b : List (Key × D)) : Prop := a.length = b.length ∧ ∀ p ∈ a, ∃ i, p.2 = .int i ∧ valD b p.1 = some (.int i)
section
variable {X : Cx} {Wx : XW} {m : Mode} {pos : Pos}
open Classical in
def sDEq (y : Bool) (f g : E) : E := fun env M => bnd (f env M) fun d M1 => bnd (g env M1) fun z M2 => match dctAt M2 d, dctAt M2 z with
 | some p, some q => if DAl p.2 q.2 then some (.v (.bl y), M2) else none
 | _, _ => none
theorem tb_at {K : PySem.W.Frag} {P : Pl} {H : Hp} {kvs : List (Key × D)} {vs : List (Key × V)} (t : TbOk K P H kvs vs) {p : Key × V} (hp : p ∈ vs) : ∃ d, (p.1, d) ∈ kvs ∧ Is K P H d p.2 := by
 obtain ⟨i, hi, e⟩ := List.getElem_of_mem hp
 have hl : kvs.length = vs.length := by have := congrArg List.length t.1; simpa using this.symm
 have hi' : i < kvs.length := by omega
 obtain ⟨v, ev, iv⟩ := Iss.get t.2 (i := i) (d := (kvs[i]).2) (by rw [List.getElem?_map, List.getElem?_eq_getElem hi']; rfl)
 rw [List.getElem?_map, List.getElem?_eq_getElem hi, e] at ev
 cases ev
 have ek : (vs.map (·.1))[i]? = (kvs.map (·.1))[i]? := by rw [t.1]
 rw [List.getElem?_map, List.getElem?_map, List.getElem?_eq_getElem hi, List.getElem?_eq_getElem hi', e] at ek
 have ek' : p.1 = kvs[i].1 := by simpa using ek
 exact ⟨_, by rw [ek']; exact List.getElem_mem hi', iv⟩
theorem deq_read {y : Bool} {f g : E} {st : L2.St} {H : Hp} {Q : VK} (w : tE X.K X.mg Wx m (sDEq y f g) st H Q) : tDEq y (tE X.K X.mg Wx .val f) (tE X.K X.mg Wx .val g) st H Q := by
  obtain ⟨P0, H0, P, Os, env, M, r, M', k, e, q⟩ := w
  unfold sDEq at e
  rcases bnd_inv e with ⟨d, M1, e1, e⟩ | ⟨c, n, e1, rfl⟩
  · refine tE_go k e1 fun P1 v1 H1 l1 h1 i1 => ?_
    have k1 := k.next l1 h1
    rcases bnd_inv e with ⟨z, M2, e2, e⟩ | ⟨c, n, e2, rfl⟩
    · refine tE_go k1 e2 fun P2 v2 H2 l2 h2 i2 => ?_
      split at e
      · rename_i pa pb ea eb
        obtain ⟨ja, ka⟩ := pa
        obtain ⟨jb, kb⟩ := pb
        split at e
        · rename_i al
          cases e
          obtain ⟨rfl, ma⟩ := dctAt_inv ea
          obtain ⟨rfl, mb⟩ := dctAt_inv eb
          obtain ⟨jl, rfl⟩ : ja < P1.n ∧ v1 = .ref (P1.io ja) := i1
          obtain ⟨jl2, rfl⟩ : jb < P2.n ∧ v2 = .ref (P2.io jb) := i2
          obtain ⟨va, eva, ena, isa⟩ := h2.cell ja _ ma
          obtain ⟨vb, evb, enb, isb⟩ := h2.cell jb _ mb
          rw [l2.io ja jl] at eva
          refine ⟨_, _, va, vb, rfl, rfl, eva, evb, ?_, fun p hp => ?_, q P2 _ H2 (l1.trans l2) h2 (IsM.of h2 (show Is _ _ _ (.bl _) _ from rfl))⟩
          · have h1 := congrArg List.length ena
            have h2 := congrArg List.length enb
            simp only [List.length_map] at h1 h2
            rw [h1, h2]; exact al.1
          · obtain ⟨d, hd, id⟩ := tb_at (kvs := ka) (vs := va) ⟨ena, isa⟩ hp
            obtain ⟨i, ei, vi⟩ := al.2 _ hd
            have ei' : d = .int i := ei
            subst ei'
            have id' : p.2 = V.int i := id
            have g := tb_get (k := p.1) (kvs := kb) (vs := vb) ⟨enb, isb⟩
            rw [vi] at g
            obtain ⟨v, gv, iv⟩ := g
            have iv' : v = V.int i := iv
            exact ⟨i, id', by rw [gv, iv']⟩
        · cases e
      · cases e
    · exact tE_go k1 e2 q
  · exact tE_go k e1 q
theorem se_deq {o i : Expr} {f g : E} (hu : X.A.units + 60 < cLine) (hi : SE X Wx .val i f) (ho : SE X Wx .val o g) (hm : behindInMarks .Eq o = false := by rfl) : SE X Wx m (.Compare i [.Eq] [o] pos) (sDEq true f g) :=
 pe_imp (pe_cmp (pc_deq (Nat.lt_of_le_of_lt (Nat.le_add_right _ _) hu) hi ho) hm) fun _ _ _ w => deq_read w
theorem st_dne {o i : Expr} {f g : E} (hu : X.A.units + 60 < cLine) (hi : SE X Wx .val i f) (ho : SE X Wx .val o g) (hm : behindInMarks .NotEq o = false := by rfl) : ST X Wx (.Compare i [.NotEq] [o] pos) (sDEq false f g) :=
 pt_imp (pt_cmp (pc_dne (Nat.lt_of_le_of_lt (Nat.le_add_right _ _) hu) hi ho) hm) fun _ _ _ w => deq_read (tt_of w)
end
def valsB (e : E) : List (Key × D) → Option (List Bool)
  | [] => some []
  | (_, .int i) :: r => (match e [.val (.int i)] [] with
    | some (.v (.bl b), []) => (valsB e r).map (b :: ·)
    | _ => none)
  | _ :: _ => none
theorem valsB_len {e : E} : ∀ {kvs : List (Key × D)} {bs : List Bool}, valsB e kvs = some bs → bs.length = kvs.length
  | [], bs, h => by cases h; rfl
  | (k, d) :: r, bs, h => by
    unfold valsB at h
    split at h
    · cases ‹_ = []›
    · rename_i e2
      cases e2
      split at h
      · rw [Option.map_eq_some_iff] at h
        obtain ⟨cs, ec, rfl⟩ := h
        simp [valsB_len ec]
      · cases h
    · cases h
theorem valsB_at {e : E} : ∀ {kvs : List (Key × D)} {bs : List Bool} {i : Nat} (hi : i < kvs.length), valsB e kvs = some bs → ∃ n b, (kvs[i]).2 = .int n ∧ bs[i]? = some b ∧ e [.val (.int n)] [] = some (.v (.bl b), [])
  | [], bs, i, hi, h => absurd hi (Nat.not_lt_zero _)
  | (k, d) :: r, bs, i, hi, h => by
    unfold valsB at h
    split at h
    · cases ‹_ = []›
    · rename_i n r' e2
      cases e2
      split at h
      · rename_i b eb
        rw [Option.map_eq_some_iff] at h
        obtain ⟨cs, ec, rfl⟩ := h
        cases i with
        | zero => exact ⟨n, b, rfl, rfl, eb⟩
        | succ j => exact valsB_at (i := j) (by simpa using hi) ec
      · cases h
    · cases h
def sVals (f e : E) : E := fun env M => bnd (f env M) fun d M1 => match dctAt M1 d with
  | some p => (match valsB e p.2 with
    | some bs => if p.2.length < sizeLine then some (.v (.lst (bs.map .bl)), M1) else none
    | none => none)
  | none => none
theorem vals_is {f e : E} : ∀ env M r M', sVals f e env M = some (.v r, M') → ∃ ds, r = .lst ds := fun env M r M' h => by
 unfold sVals at h
 rcases bnd_inv h with ⟨d, M1, e1, h⟩ | ⟨c, n, e1, h⟩
 ·split at h
  ·split at h
   ·split at h
    ·cases h; exact ⟨_, rfl⟩
    ·cases h
   ·cases h
  ·cases h
 ·cases h
theorem bar_same {K : PySem.W.Frag} {mg : Str → Option Value} {P : Pl} {H H' : Hp} {M : Mm} {p : Addr} {vs : List V} (h : Hk K mg P H M) (hp : H p = none) (hp' : H' p = some (.lst vs)) (s : Same H H') : LtE P H (P.bar p) H' ∧ Hk K mg (P.bar p) H' M ∧ ∀ k, k < P.n → P.io k ≠ p := by
  have nc : ∀ k, k < P.n → P.io k ≠ p := fun k hk z => h.here _ (h.bd k hk) (z ▸ hp)
  have l : LtE P H (P.bar p) H' := ⟨Nat.le_refl _, fun _ _ => rfl, fun a z => Or.imp (fun q => q) (fun (q : a = p) => by rw [q]; exact hp) z, fun a z => .inl z, fun a o e _ => s a o e, fun a z => s.free z, fun k h1 h2 => absurd h1 (Nat.not_le.mpr h2)⟩
  have lt := l.lt h
  refine ⟨l, ⟨h.n, fun k c e => ?_, h.inj, fun k hk => .inl (h.bd k hk), fun a z q => ?_⟩, nc⟩
  · have := h.cell k c e
    cases c with
    | lst ds =>
      obtain ⟨vs, e1, q⟩ := this
      exact ⟨vs, s _ _ e1, Iss.lt lt q⟩
    | obj c fs =>
      obtain ⟨C, dx, gs, e1, e2, e3, q⟩ := this
      exact ⟨C, dx, gs, e1, s _ _ e2, e3, Iss.lt lt q⟩
    | dct kvs =>
      obtain ⟨vs, e1, e2, q⟩ := this
      exact ⟨vs, s _ _ e1, e2, Iss.lt lt q⟩
  · rcases z with z | z
    · exact h.here a z (s.free q)
    · have z' : a = p := z
      rw [z', hp'] at q; cases q
theorem iss_bl {K : PySem.W.Frag} {P : Pl} {H : Hp} : ∀ bs : List Bool, Iss K P H (bs.map .bl) (bs.map V.bl)
 | [] => rfl
 | b :: bs => ⟨V.bl b, bs.map V.bl, rfl, rfl, iss_bl bs⟩
section
variable {X : Cx} {Wx : XW} {pos : Pos} {scope : Scope}
theorem sn_vals (x : Str) {px p q : Pos} {o elt : Expr} {f e : E} (hc : X.calm = true) (ho : SE X Wx .val o f)
    (he : ∀ (cl : List (Str × Addr)) (C : Addr) (s₀ : Shared) (H₀ : Hp) (ex : List Addr) (pn : List (Addr × Obj)), SE (compCx X [x] scope cl C s₀ H₀ ex pn) W0 .val elt e)
    (ok : compOkB X.N X.env.scope x [] scope = true := by kernel_rfl) (hs : ∀ x, foldedSetIterable (.Call (.Attribute o "values" p) [] [] q) X.env x = pure x := by intro _; rfl)
    (hbase : attributeBase o "values" X.env (eval o X.env) = eval o X.env := by rfl) (hline : (p.endLine == q.line) = true := by rfl) :
    SN X Wx (.ListComp elt [⟨.Name x px, .Call (.Attribute o "values" p) [] [] q, [], 0⟩] scope pos) (sVals f e) := by
  refine pe_imp (pe_back (pe_comp (tq := tYes) (te := tE X.K X.mg W0 .val e) x [] hc (pi_vals ho hbase hline) (fun _ _ _ _ _ _ => pifs_none) he ok hs)) ?_
  rintro st H Q ⟨P0, H0, P, Os, env, M, r, M', k, ee, w⟩
  unfold sVals at ee
  rcases bnd_inv ee with ⟨d, M1, e1, ea⟩ | ⟨c, n, e1, rfl⟩
  · split at ea
    · rename_i pr ed
      obtain ⟨j, kvs⟩ := pr
      split at ea
      · rename_i bs eb
        split at ea
        · rename_i hlen
          cases ea
          obtain ⟨rfl, em⟩ := dctAt_inv ed
          obtain ⟨ds, e', w⟩ := w
          cases e'
          refine tE_go k e1 fun P1 v1 H1 l1 h1 i1 => ?_
          obtain ⟨jl, rfl⟩ : j < P1.n ∧ v1 = .ref (P1.io j) := i1
          obtain ⟨vs, ev, en, is⟩ := h1.cell j _ em
          refine ⟨P1.io j, vs, rfl, ev, fun ob nf => ?_⟩
          have hl : vs.length = kvs.length := by have := congrArg List.length en; simpa using this
          have hbl : bs.length = kvs.length := valsB_len eb
          have hfa : (upd H1 (P1.io j) (.frz ob (.dK vs))) (P1.io j) = some (.frz ob (.dK vs)) := upd_same
          refine comp_it (J := ItV (P1.io j) ob vs) (R := fun D H' => ∃ a ob kvs, H' a = some (.frz ob (.dK kvs)) ∧ (∀ o u, X.H₀ a ≠ some (.frz o u)) ∧ Q (.ref D) (upd H' a (.dK kvs))) vs.length
            (fun D i ys H2 => i ≤ vs.length ∧ (upd H1 (P1.io j) (.frz ob (.dK vs))) D = none ∧ ys = (bs.take i).map V.bl ∧ H2 D = some (.lst ys) ∧ Same (upd H1 (P1.io j) (.frz ob (.dK vs))) H2)
            (fun D hD => ⟨Nat.zero_le _, hD, rfl, upd_same, same_new hD⟩) ?_ ?_ ?_ ?_
          · rintro D i ys H2 hi ⟨_, hD, e1, e2, sm⟩
            refine ⟨e2, ?_⟩
            rw [e1, List.length_map, List.length_take]
            have : kvs.length < sizeLine := hlen
            omega
          · rintro D i ys H2 hi ⟨_, hD, e1, e2, sm⟩
            exact ⟨hi, sm _ _ hfa⟩
          · rintro D ys H2 hD ⟨_, _, e1, e2, sm⟩
            have hfa2 := sm _ _ hfa
            refine ⟨⟨rfl, hfa2⟩, P1.io j, ob, vs, hfa2, nf, ?_⟩
            have ne : D ≠ P1.io j := fun z => by rw [z, hfa] at hD; cases hD
            have hD1 : H1 D = none := by rw [upd_ne ne] at hD; exact hD
            have e3 : (upd H2 (P1.io j) (.dK vs)) D = some (.lst ys) := by rw [upd_ne ne]; exact e2
            obtain ⟨l2, h2, nc⟩ := bar_same (H' := upd H2 (P1.io j) (.dK vs)) h1 hD1 e3 (fun b ob' eb' => by
              by_cases z : b = P1.io j
              · rw [z] at eb' ⊢
                rw [upd_same, ← ev]; exact eb'
              · rw [upd_ne z]
                exact sm b ob' (by rw [upd_ne z]; exact eb'))
            refine w (P1.bar D) D ys _ (l1.trans l2) h2 (l1.sure D hD1) (.inr rfl) nc e3 ?_
            have e4 : bs.take vs.length = bs := List.take_of_length_le (by omega)
            rw [e1, e4]
            exact iss_bl bs
          · rintro D i v ys H2 H3 hi ⟨_, hD, e1, e2, sm⟩ ⟨rfl, yv⟩
            have hik : i < kvs.length := by omega
            obtain ⟨n, b, en', ebi, ee'⟩ := valsB_at hik eb
            obtain ⟨v', ev', iv'⟩ := Iss.get is (i := i) (d := .int n) (by rw [List.getElem?_map, List.getElem?_eq_getElem hik]; exact congrArg some en')
            rw [List.getElem?_map, yv] at ev'
            cases ev'
            have iv2 : v = V.int n := iv'
            subst iv2
            show tE X.K X.mg W0 .val e (some (V.int n) :: capSt [] st) H3 _
            refine ⟨⟨P1.io, 0, fun _ => False⟩, H3, ⟨P1.io, 0, fun _ => False⟩, [none], [.val (.int n)], [], _, _, ?_, ee', fun P' v' H' le hk' is' => ?_⟩
            · refine ⟨⟨rfl, fun k c e => by simp at e, fun j k hj => absurd hj (Nat.not_lt_zero _), fun k hk => absurd hk (Nat.not_lt_zero _), fun a z => z.elim⟩, ⟨Nat.le_refl _, fun _ _ => rfl, fun a z => z.elim, fun a z => z, fun a o e _ => e, fun a z => z, fun k h1 h2 => absurd h2 (Nat.not_lt_zero _)⟩, fun a z => z.elim, ?_, ?_, ?_, rfl, rfl⟩
              · intro i s e
                cases i with
                | zero => simp only [List.getElem?_cons_zero] at e; cases e; exact ⟨_, rfl, rfl⟩
                | succ n => simp at e
              · intro a h; simp at h
              · intro i j a h; cases i <;> simp at h
            · have sm2 : Same H3 H' := fun b o eb => le.keep b o eb fun k hk => absurd hk (Nat.not_lt_zero _)
              have ev3 : v' = V.bl b := is'
              subst ev3
              have hbt : (bs.take i).map V.bl ++ [V.bl b] = (bs.take (i + 1)).map V.bl := by rw [List.take_add_one, ebi]; simp
              refine ⟨sm2 _ _ e2, hi, hD, by rw [e1]; exact hbt, upd_same, fun c o' eo => ?_⟩
              rw [upd_ne (fun z => by rw [z, hD] at eo; cases eo)]
              exact sm2 _ _ (sm _ _ eo)
        · cases ea
      · cases ea
    · cases ea
  · exact tE_go k e1 w
end
theorem op_fdW {X : Cx} : OpR X (binaryOp .FloorDiv) (rI (fun _ j => 0 < j ∧ j < 18446744073709551616) fun i j => .int (i / j)) := opI fun i j _ _ _ _ _ hc q => by
 have h1 : (0 : Int) < j := hc.1
 have h2 : j < 18446744073709551616 := hc.2
 refine floordiv_int (by omega) (by rw [Int.fdiv_eq_ediv_of_nonneg i (by omega)]; exact q) (.inl (PyProof.noPylong_of_log2 ?_))
 have h0 : j.natAbs ≠ 0 := by omega
 have h64 : j.natAbs.log2 < 64 := (Nat.log2_lt h0).mpr (by rw [show (2 : Nat) ^ 64 = 18446744073709551616 by decide]; omega)
 omega
def oFdW := oI fun i j => if 0 < j ∧ j.natAbs < 18446744073709551616 then some (.int (i / j)) else none
theorem pu_fdW {K : PySem.W.Frag} : Pure2 K (rI (fun _ j => 0 < j ∧ j < 18446744073709551616) fun i j => .int (i / j)) oFdW := fun P H d e z v w Q h h1 h2 _ q => by
 obtain ⟨i, j, rfl, rfl, h⟩ := oI_inv h h1 h2
 split at h
 ·rename_i hg
  cases h
  exact ⟨i, j, rfl, rfl, ⟨hg.1, by omega⟩, q _ H (Same.refl H) rfl⟩
 ·cases h
theorem o_fdW {i j : Int} : oFdW (.int i) (.int j) = if 0 < j ∧ j.natAbs < 18446744073709551616 then some (.int (i / j)) else none := rfl
section
variable {f g h : E} {env : Env} {M M1 M2 M3 : Mm} {j k : Nat} {kvs kvs' : List (Key × D)} {y : Bool}
theorem d_eq (h1 : f env M = some (.v (.ref j), M1)) (h2 : g env M1 = some (.v (.ref k), M2)) (e1 : M2[j]? = some (.dct kvs)) (e2 : M2[k]? = some (.dct kvs')) (al : DAl kvs kvs') : sDEq y f g env M = some (.v (.bl y), M2) := by
 unfold sDEq
 simp only [bnd, h1, h2, dctAt, e1, e2, al, if_true]
theorem d_getD {e x : D} {key : Key} (h1 : f env M = some (.v (.ref k), M1)) (h2 : g env M1 = some (.v e, M2)) (h3 : h env M2 = some (.v x, M3)) (e1 : M1[k]? = some (.dct kvs')) (e3 : M3[k]? = some (.dct kvs)) (h4 : toKey e = some key) : sDGetD f g h env M = some (.v ((valD kvs key).getD x), M3) := by
 simp only [sDGetD, bnd, h1, h2, h3, dctAt, e1, dk_at e3 h4]
theorem d_cpy (h1 : f env M = some (.v (.ref k), M1)) (e1 : M1[k]? = some (.dct kvs)) : sDCopy f env M = some (.v (.ref M1.length), M1 ++ [.dct kvs]) := by
 simp only [sDCopy, bnd, h1, dctAt, e1]
theorem d_new : sDct pNil env M = some (.v (.ref M.length), M ++ [.dct []]) := rfl
theorem d_vals {e : E} {bs : List Bool} (h1 : f env M = some (.v (.ref k), M1)) (e1 : M1[k]? = some (.dct kvs)) (e2 : valsB e kvs = some bs) (hl : kvs.length < sizeLine) : sVals f e env M = some (.v (.lst (bs.map .bl)), M1) := by
 simp only [sVals, bnd, h1, dctAt, e1, e2, hl, if_true]
end
end E3
namespace My
open PySem PySem.Spec PyProof.Rows L2 E3
def top (i : Nat) : Stmt := PySem.Challenge.pw_rowdam_k18_flows.main.body.getD i (.Pass ⟨0, 0, 0, 0⟩)
def blts : List Str := ["int", "sum", "len", "range", "str", "tuple", "min", "isinstance", "ValueError", "bool", "any", "dict", "list"]
structure Ad where
 DamError : Addr
 NoIn : Addr
 TooMuch : Addr
structure Txt (K : PySem.W.Frag) (mg : Str → Option Value) (C : Ad) : Prop where
 blt : ∀ b ∈ blts, mg b = none
 xm_DamError : mg "DamError" = some (.ref C.DamError)
 xc_DamError : xcIn K C.DamError = true
 xm_NoIn : mg "NoIn" = some (.ref C.NoIn)
 xc_NoIn : xcIn K C.NoIn = true
 xm_TooMuch : mg "TooMuch" = some (.ref C.TooMuch)
 xc_TooMuch : xcIn K C.TooMuch = true
 xn_TooMuch : xnoIn K C.TooMuch = true
 xk_TooMuch : PySem.W.keepIn K (.ref C.TooMuch) = true
 xs_TooMuch : xisIn K C.TooMuch = true
 pk_TooMuch_NoIn : PySem.W.kitOne K (.ref C.TooMuch) (.ref C.NoIn) = some false
 pk_TooMuch_ValueError : PySem.W.kitOne K (.ref C.TooMuch) (.type "ValueError") = some true
 qk_TooMuch_DamError : supIn K C.TooMuch C.DamError = true
 qk_TooMuch_TooMuch : supIn K C.TooMuch C.TooMuch = true
 k_MOST_FLOW : ∃ t, mg "MOST_FLOW" = some (.int 2000 t)
structure MetAt (K : PySem.W.Frag) (C : Addr) (x q : Str) (st : Stmt) (ps : List Str) (f : Addr) (fd : FuncData) : Prop where
 M : Meth K C x f
 F : FunD K x q st f fd
 b : Binds K fd ps []
structure IniAt (K : PySem.W.Frag) (C : Addr) (q : Str) (st : Stmt) (ps : List Str) (f : Addr) (fd : FuncData) : Prop where
 M : Mk K C f
 F : FunD K "__init__" q st f fd
 b : Binds K fd ps []
structure MetAtD (K : PySem.W.Frag) (C : Addr) (x q : Str) (st : Stmt) (ps : List Str) (dd : List D) (f : Addr) (fd : FuncData) : Prop where
 M : Meth K C x f
 F : FunD K x q st f fd
 b : Binds K fd ps []
 bd : ∃ (dv : List V) (du : List Value), Binds K fd ps du ∧ Vals dv du ∧ (∀ P H, Iss K P H dd dv) ∧ dv.length = dd.length
structure DefAt (K : PySem.W.Frag) (mg : Str → Option Value) (x : Str) (st : Stmt) (ps : List Str) (f : Addr) (fd : FuncData) : Prop where
 mg : mg x = some (.ref f)
 F : FunD K x x st f fd
 b : Binds K fd ps []
def tb_NoIn (c : Str) : Option Bool := if c = "TooMuch" then some false else none
theorem tb_NoIn_ok {K : PySem.W.Frag} {mg : Str → Option Value} {C : Ad} (T : Txt K mg C) : ∀ c b, tb_NoIn c = some b → ∃ D, mg c = some (.ref D) ∧ xisIn K D = true ∧ PySem.W.kitOne K (.ref D) (.ref C.NoIn) = some b := by
 intro c b h
 unfold tb_NoIn at h
 split at h
 ·rename_i e; subst e; cases h; exact ⟨_, T.xm_TooMuch, T.xs_TooMuch, T.pk_TooMuch_NoIn⟩
 cases h
def tb_ValueError (c : Str) : Option Bool := if c = "TooMuch" then some true else none
theorem tb_ValueError_ok {K : PySem.W.Frag} {mg : Str → Option Value} {C : Ad} (T : Txt K mg C) : ∀ c b, tb_ValueError c = some b → ∃ D, mg c = some (.ref D) ∧ xisIn K D = true ∧ PySem.W.kitOne K (.ref D) (.type "ValueError") = some b := by
 intro c b h
 unfold tb_ValueError at h
 split at h
 ·rename_i e; subst e; cases h; exact ⟨_, T.xm_TooMuch, T.xs_TooMuch, T.pk_TooMuch_ValueError⟩
 cases h
def cat_DamError (c : Str) : Bool := if c = "TooMuch" then true else false
theorem cat_DamError_ok {K : PySem.W.Frag} {mg : Str → Option Value} {C : Ad} (T : Txt K mg C) : ∀ c, cat_DamError c = true → ∃ D, mg c = some (.ref D) ∧ xcIn K D = true ∧ supIn K D C.DamError = true := by
 intro c h
 unfold cat_DamError at h
 split at h
 ·rename_i e; subst e; exact ⟨_, T.xm_TooMuch, T.xc_TooMuch, T.qk_TooMuch_DamError⟩
 cases h
def cat_TooMuch (c : Str) : Bool := if c = "TooMuch" then true else false
theorem cat_TooMuch_ok {K : PySem.W.Frag} {mg : Str → Option Value} {C : Ad} (T : Txt K mg C) : ∀ c, cat_TooMuch c = true → ∃ D, mg c = some (.ref D) ∧ xcIn K D = true ∧ supIn K D C.TooMuch = true := by
 intro c h
 unfold cat_TooMuch at h
 split at h
 ·rename_i e; subst e; exact ⟨_, T.xm_TooMuch, T.xc_TooMuch, T.qk_TooMuch_TooMuch⟩
 cases h
def isi_bool (t : String) : Option Bool := if t = "int" then some false else if t = "bool" then some true else if t = "str" then some false else if t = "list" then some false else if t = "tuple" then some false else if t = "NoneType" then some false else if t = "dict" then some false else none
theorem isi_bool_ok {K : PySem.W.Frag} : ∀ t b, isi_bool t = some b → PySem.W.kitOne K (.type t) (.type "bool") = some b := by
 intro t b h
 unfold isi_bool at h
 split at h
 ·rename_i e; subst e; cases h; kernel_rfl
 split at h
 ·rename_i e; subst e; cases h; kernel_rfl
 split at h
 ·rename_i e; subst e; cases h; kernel_rfl
 split at h
 ·rename_i e; subst e; cases h; kernel_rfl
 split at h
 ·rename_i e; subst e; cases h; kernel_rfl
 split at h
 ·rename_i e; subst e; cases h; kernel_rfl
 split at h
 ·rename_i e; subst e; cases h; kernel_rfl
 cases h
def isi_dict (t : String) : Option Bool := if t = "int" then some false else if t = "bool" then some false else if t = "str" then some false else if t = "list" then some false else if t = "tuple" then some false else if t = "NoneType" then some false else if t = "dict" then some true else none
theorem isi_dict_ok {K : PySem.W.Frag} : ∀ t b, isi_dict t = some b → PySem.W.kitOne K (.type t) (.type "dict") = some b := by
 intro t b h
 unfold isi_dict at h
 split at h
 ·rename_i e; subst e; cases h; kernel_rfl
 split at h
 ·rename_i e; subst e; cases h; kernel_rfl
 split at h
 ·rename_i e; subst e; cases h; kernel_rfl
 split at h
 ·rename_i e; subst e; cases h; kernel_rfl
 split at h
 ·rename_i e; subst e; cases h; kernel_rfl
 split at h
 ·rename_i e; subst e; cases h; kernel_rfl
 split at h
 ·rename_i e; subst e; cases h; kernel_rfl
 cases h
def isiT (t T : String) : Option Bool := if T = "bool" then isi_bool t else if T = "dict" then isi_dict t else none
theorem j_int_bool : isiT "int" "bool" = some false := by decide +kernel
theorem j_int_dict : isiT "int" "dict" = some false := by decide +kernel
theorem j_bool_bool : isiT "bool" "bool" = some true := by decide +kernel
theorem j_bool_dict : isiT "bool" "dict" = some false := by decide +kernel
theorem j_str_bool : isiT "str" "bool" = some false := by decide +kernel
theorem j_str_dict : isiT "str" "dict" = some false := by decide +kernel
theorem j_list_bool : isiT "list" "bool" = some false := by decide +kernel
theorem j_list_dict : isiT "list" "dict" = some false := by decide +kernel
theorem j_tuple_bool : isiT "tuple" "bool" = some false := by decide +kernel
theorem j_tuple_dict : isiT "tuple" "dict" = some false := by decide +kernel
theorem j_NoneType_bool : isiT "NoneType" "bool" = some false := by decide +kernel
theorem j_NoneType_dict : isiT "NoneType" "dict" = some false := by decide +kernel
theorem j_dict_bool : isiT "dict" "bool" = some false := by decide +kernel
theorem j_dict_dict : isiT "dict" "dict" = some true := by decide +kernel
theorem isiT_ok {K : PySem.W.Frag} : ∀ t T b, isiT t T = some b → PySem.W.kitOne K (.type t) (.type T) = some b := by
 intro t T b h
 unfold isiT at h
 split at h
 ·rename_i e; subst e; exact isi_bool_ok t b h
 split at h
 ·rename_i e; subst e; exact isi_dict_ok t b h
 cases h
abbrev s_window_of : Stmt := top 5
theorem sc_window_of : FnScope ["row", "width", "step"] ["row"] (defScope s_window_of) := ⟨rfl, rfl, rfl, by decide +kernel, rfl, by decide +kernel, by decide +kernel⟩
theorem v_window_of_row : (defScope s_window_of).names.lookup ("row" : Str) = some .local := by kernel_rfl
theorem v_window_of_width : (defScope s_window_of).names.lookup ("width" : Str) = some .local := by kernel_rfl
theorem v_window_of_step : (defScope s_window_of).names.lookup ("step" : Str) = some .local := by kernel_rfl
def b_window_of : S := (sSeq (sAsg 1 (sN bInt (sCons (s2 oIx (s2 oIx (sVar 0) (sCon (.int 3))) (sCon (.int 0))) sNil))) (sSeq (sAsg 2 (sIte (s2 (oCmp .eq) (s2 oIx (sVar 0) (sCon (.int 0))) (sCon (.str "slide"))) (sN bInt (sCons (s2 oIx (s2 oIx (sVar 0) (sCon (.int 3))) (sCon (.int 1))) sNil)) (sVar 1))) (sSeq (sRet (sTup (sCons (sVar 1) (sCons (sVar 2) (sCons (s2 oIx (s2 oIx (sVar 0) (sCon (.int 3))) (s1 oNeg (sCon (.int 1)))) sNil))))) sEnd)))
def g_window_of : G := fnG 3 b_window_of
theorem r_window_of {P : Program} {w : World} {K : PySem.W.Frag} {mg : Str → Option Value} {C : Ad} {base : Heap} {k : Nat} {f : Addr} (T : Txt K mg C) (cdv : Value) (A : Around) (outer : List PySem.Env) (s : Shared) (H : Hp) (E : XK) (hr : Room k (A.deeper (envOfC "window_of" (defScope s_window_of) s.heap.objs.size f cdv))) :
  SB (cx0 P w K mg base ["row", "width", "step"] "window_of" s_window_of f cdv A outer s H E) W0 (defBody s_window_of) b_window_of := by
 have hu : (cx0 P w K mg base ["row", "width", "step"] "window_of" s_window_of f cdv A outer s H E).A.units + 60 < cLine := Nat.lt_of_le_of_lt (Nat.add_le_add_left (by decide) _) hr.units
 have nd := (sc_window_of).nd
 refine sb_cons ?_ ?_
 ·exact (ss_asg (i := 1) nd rfl (.inl v_window_of_width) (se_cb (fun t ha => pe_callTy call_int_txt rfl (T.blt "int" (by decide +kernel)) boot_int ha (by decide +kernel) (by decide +kernel)) pu_int (sa_cons (se_ix ix_all pu_ix (se_ix ix_all pu_ix (se_v rfl (v_window_of_row)) (se_i pe_int)) (se_i pe_int)) sa_nil st_Subscript)))
 refine sb_cons ?_ ?_
 ·exact (ss_asg (i := 2) nd rfl (.inl v_window_of_step) (se_ite (st_cmp (cp_ok hu .eq) pu_cmp (se_ix ix_all pu_ix (se_v rfl (v_window_of_row)) (se_i pe_int)) (se_s pe_str)) (se_cb (fun t ha => pe_callTy call_int_txt rfl (T.blt "int" (by decide +kernel)) boot_int ha (by decide +kernel) (by decide +kernel)) pu_int (sa_cons (se_ix ix_all pu_ix (se_ix ix_all pu_ix (se_v rfl (v_window_of_row)) (se_i pe_int)) (se_i pe_int)) sa_nil st_Subscript)) (se_v rfl (v_window_of_width))))
 refine sb_cons ?_ ?_
 ·exact (ss_ret (se_tup (sa_cons (se_v rfl (v_window_of_width)) (sa_cons (se_v rfl (v_window_of_step)) (sa_cons (se_ix ix_all pu_ix (se_ix ix_all pu_ix (se_v rfl (v_window_of_row)) (se_i pe_int)) (se_un un_neg pu_neg (se_i pe_int))) sa_nil st_Subscript) st_Name) st_Name)))
 exact sb_nil
abbrev s_flow_of : Stmt := top 8
theorem sc_flow_of : FnScope ["row", "lengths", "above", "froms", "window"] ["row", "lengths", "above"] (defScope s_flow_of) := ⟨rfl, rfl, rfl, by decide +kernel, rfl, by decide +kernel, by decide +kernel⟩
theorem v_flow_of_row : (defScope s_flow_of).names.lookup ("row" : Str) = some .local := by kernel_rfl
theorem v_flow_of_lengths : (defScope s_flow_of).names.lookup ("lengths" : Str) = some .local := by kernel_rfl
theorem v_flow_of_above : (defScope s_flow_of).names.lookup ("above" : Str) = some .cell := by kernel_rfl
theorem v_flow_of_froms : (defScope s_flow_of).names.lookup ("froms" : Str) = some .local := by kernel_rfl
theorem v_flow_of_window : (defScope s_flow_of).names.lookup ("window" : Str) = some .local := by kernel_rfl
def e_flow_of_1 : E := (sDGet (sVar 1) (sVar 0))
def b_flow_of : S := (sSeq (sIf (s2 (oCmp .eq) (s2 oIx (sVar 0) (sCon (.int 0))) (sCon (.str "in"))) (sSeq (sRet (sDGetD (sVar 1) (s2 oIx (sVar 0) (sCon (.int 1))) (sCon (.int 0)))) sEnd) sEnd) (sSeq (sAsg 3 (sComp [("above", 2)] (iTp (s2 oIx (sVar 0) (sCon (.int 2)))) (sCon (.bl true)) e_flow_of_1)) (sSeq (sIf (s2 (oCmp .eq) (s2 oIx (sVar 0) (sCon (.int 0))) (sCon (.str "join"))) (sSeq (sRet (s2 oMul (s2 oIx (sVar 3) (sCon (.int 0))) (s2 oIx (sVar 3) (sCon (.int 1))))) sEnd) sEnd) (sSeq (sIf (s2 (oCmp .eq) (s2 oIx (sVar 0) (sCon (.int 0))) (sCon (.str "slide"))) (sSeq (sAsg 4 (sCall g_window_of (sCons (sVar 0) sNil))) (sSeq (sRet (s2 oMul (s2 oIx (sVar 3) (sCon (.int 0))) (s2 oFdW (s2 oSub (s2 oAdd (s2 oIx (sVar 4) (sCon (.int 0))) (s2 oIx (sVar 4) (sCon (.int 1)))) (sCon (.int 1))) (s2 oIx (sVar 4) (sCon (.int 1)))))) sEnd)) sEnd) (sSeq (sRet (sN bSum (sCons (sVar 3) sNil))) sEnd)))))
def g_flow_of : G := fnG 5 b_flow_of
theorem r_flow_of {P : Program} {w : World} {K : PySem.W.Frag} {mg : Str → Option Value} {C : Ad} {base : Heap} {k : Nat} {f : Addr} (T : Txt K mg C) (a_window_of : AtG P w K mg base k "window_of" 1 g_window_of) (cdv : Value) (A : Around) (outer : List PySem.Env) (s : Shared) (H : Hp) (E : XK) (hr : Room k (A.deeper (envOfC "flow_of" (defScope s_flow_of) s.heap.objs.size f cdv))) :
  SB (cx0 P w K mg base ["row", "lengths", "above", "froms", "window"] "flow_of" s_flow_of f cdv A outer s H E) W0 (defBody s_flow_of) b_flow_of := by
 have hu : (cx0 P w K mg base ["row", "lengths", "above", "froms", "window"] "flow_of" s_flow_of f cdv A outer s H E).A.units + 60 < cLine := Nat.lt_of_le_of_lt (Nat.add_le_add_left (by decide) _) hr.units
 have nd := (sc_flow_of).nd
 refine sb_cons ?_ ?_
 ·exact (ss_if (st_cmp (cp_ok hu .eq) pu_cmp (se_ix ix_all pu_ix (se_v rfl (v_flow_of_row)) (se_i pe_int)) (se_s pe_str)) (sb_cons (ss_ret (se_dgetD hu (se_v rfl (v_flow_of_lengths)) (se_ix ix_all pu_ix (se_v rfl (v_flow_of_row)) (se_i pe_int)) (se_i pe_int))) sb_nil) sb_nil)
 refine sb_cons ?_ ?_
 ·exact (ss_asgC "name" [("above", 2)] (i := 3) nd rfl (.inl v_flow_of_froms) rfl (by decide +kernel) (si_tp (se_ix ix_all pu_ix (se_v rfl (v_flow_of_row)) (se_i pe_int))) (fun _ _ _ _ _ _ => sq_none) (fun _ _ _ _ _ _ => (se_dget hu (se_vV rfl (.inr (.inl (by kernel_rfl)))) (se_vV rfl (.inl (by kernel_rfl))))))
 refine sb_cons ?_ ?_
 ·exact (ss_if (st_cmp (cp_ok hu .eq) pu_cmp (se_ix ix_all pu_ix (se_v rfl (v_flow_of_row)) (se_i pe_int)) (se_s pe_str)) (sb_cons (ss_ret (se_op op_mulB pu_mul (se_ix ix_all pu_ix (se_v rfl (v_flow_of_froms)) (se_i pe_int)) (se_ix ix_all pu_ix (se_v rfl (v_flow_of_froms)) (se_i pe_int)))) sb_nil) sb_nil)
 refine sb_cons ?_ ?_
 ·exact (ss_if (st_cmp (cp_ok hu .eq) pu_cmp (se_ix ix_all pu_ix (se_v rfl (v_flow_of_row)) (se_i pe_int)) (se_s pe_str)) (sb_cons (ss_asg (i := 4) nd rfl (.inl v_flow_of_window) (se_call a_window_of hr rfl (sa_cons (se_v rfl (v_flow_of_row)) sa_nil st_Name) (cnt_cons cnt_nil))) (sb_cons (ss_ret (se_op op_mulB pu_mul (se_ix ix_all pu_ix (se_v rfl (v_flow_of_froms)) (se_i pe_int)) (se_op op_fdW pu_fdW (se_op op_sub pu_sub (se_op op_addA pu_add (se_ix ix_all pu_ix (se_v rfl (v_flow_of_window)) (se_i pe_int)) (se_ix ix_all pu_ix (se_v rfl (v_flow_of_window)) (se_i pe_int))) (se_i pe_int)) (se_ix ix_all pu_ix (se_v rfl (v_flow_of_window)) (se_i pe_int))))) sb_nil)) sb_nil)
 refine sb_cons ?_ ?_
 ·exact (ss_ret (se_cb (fun t ha => pe_callB (call_sum rfl) rfl (T.blt "sum" (by decide +kernel)) boot_sum ha (by decide +kernel) (by decide +kernel)) pu_sum (sa_cons (se_v rfl (v_flow_of_froms)) sa_nil st_Name)))
 exact sb_nil
abbrev s_flows : Stmt := top 9
theorem sc_flows : FnScope ["works", "lengths", "found", "row", "flow"] ["works", "lengths"] (defScope s_flows) := ⟨rfl, rfl, rfl, by decide +kernel, rfl, by decide +kernel, by decide +kernel⟩
theorem v_flows_works : (defScope s_flows).names.lookup ("works" : Str) = some .local := by kernel_rfl
theorem v_flows_lengths : (defScope s_flows).names.lookup ("lengths" : Str) = some .local := by kernel_rfl
theorem v_flows_found : (defScope s_flows).names.lookup ("found" : Str) = some .local := by kernel_rfl
theorem v_flows_row : (defScope s_flows).names.lookup ("row" : Str) = some .local := by kernel_rfl
theorem v_flows_flow : (defScope s_flows).names.lookup ("flow" : Str) = some .local := by kernel_rfl
def l_flows_1 : S := (sSeq (sAsg 4 (sCall g_flow_of (sCons (sVar 3) (sCons (sVar 1) (sCons (sVar 2) sNil))))) (sSeq (sIf (s2 (oCmp .gt) (sVar 4) (sCon (.int 2000))) (sSeq (sRaise "TooMuch" (sFst (jCon "more than " (jVal (sCon (.int 2000)) (jCon " things may be told by a row" jEnd))))) sEnd) sEnd) (sSeq (sDPutS (sVar 2) (s2 oIx (sVar 3) (sCon (.int 1))) (sVar 4)) sEnd)))
def b_flows : S := (sSeq (sAsg 2 (sDct pNil)) (sSeq (sFor 3 (iLst (sVar 0)) l_flows_1) (sSeq (sRet (sVar 2)) sEnd)))
def g_flows : G := fnG 5 b_flows
theorem r_flows {P : Program} {w : World} {K : PySem.W.Frag} {mg : Str → Option Value} {C : Ad} {base : Heap} {k : Nat} {f : Addr} (T : Txt K mg C) (a_flow_of : AtG P w K mg base k "flow_of" 3 g_flow_of) (cdv : Value) (A : Around) (outer : List PySem.Env) (s : Shared) (H : Hp) (E : XK) (Wx : XW) (hr : Room k (A.deeper (envOfC "flows" (defScope s_flows) s.heap.objs.size f cdv))) (XF : XFit (cxX P w K mg base ["works", "lengths", "found", "row", "flow"] "flows" s_flows f cdv A outer s H E) Wx) (XP : XPass (cxX P w K mg base ["works", "lengths", "found", "row", "flow"] "flows" s_flows f cdv A outer s H E) Wx) :
  SB (cxX P w K mg base ["works", "lengths", "found", "row", "flow"] "flows" s_flows f cdv A outer s H E) Wx (defBody s_flows) b_flows := by
 have hu : (cxX P w K mg base ["works", "lengths", "found", "row", "flow"] "flows" s_flows f cdv A outer s H E).A.units + 60 < cLine := Nat.lt_of_le_of_lt (Nat.add_le_add_left (by decide) _) hr.units
 have nd := (sc_flows).nd
 obtain ⟨t_MOST_FLOW, m_MOST_FLOW⟩ := T.k_MOST_FLOW
 refine sb_cons ?_ ?_
 ·exact (ss_asg (i := 2) nd rfl (.inl v_flows_found) se_dct0)
 refine sb_cons ?_ ?_
 ·exact (ss_for PassesOwn.leaving rfl nd rfl (.inl v_flows_row) (si_lst (se_v rfl (v_flows_works))) (sb_cons (ss_asg (i := 4) nd rfl (.inl v_flows_flow) (se_call a_flow_of hr rfl (sa_cons (se_v rfl (v_flows_row)) (sa_cons (se_v rfl (v_flows_lengths)) (sa_cons (se_v rfl (v_flows_found)) sa_nil st_Name) st_Name) st_Name) (cnt_cons (cnt_cons (cnt_cons cnt_nil))))) (sb_cons (ss_if (st_cmp (cp_ok hu .gt) pu_cmp (se_v rfl (v_flows_flow)) (se_i (pe_glob (v := (.int 2000)) rfl m_MOST_FLOW ⟨t_MOST_FLOW, rfl⟩))) (sb_cons (ss_raise XF rfl T.xm_TooMuch T.xc_TooMuch T.xn_TooMuch T.xk_TooMuch rfl (se_fst (sj_con (sj_val (se_i (pe_glob (v := (.int 2000)) rfl m_MOST_FLOW ⟨t_MOST_FLOW, rfl⟩)) (sj_con sj_end))))) sb_nil) sb_nil) (sb_cons (ss_dput hu (se_v rfl (v_flows_found)) (se_ix ix_all pu_ix (se_v rfl (v_flows_row)) (se_i pe_int)) (se_v rfl (v_flows_flow))) sb_nil))))
 refine sb_cons ?_ ?_
 ·exact (ss_ret (se_v rfl (v_flows_found)))
 exact sb_nil
abbrev s__cell_at : Stmt := top 11
theorem sc__cell_at : FnScope ["_law_script", "_law_k"] ["_law_script", "_law_k"] (defScope s__cell_at) := ⟨rfl, rfl, rfl, by decide +kernel, rfl, by decide +kernel, by decide +kernel⟩
theorem v__cell_at__script : (defScope s__cell_at).names.lookup ("_law_script" : Str) = some .local := by kernel_rfl
theorem v__cell_at__k : (defScope s__cell_at).names.lookup ("_law_k" : Str) = some .local := by kernel_rfl
def b__cell_at : S := (sSeq (sIf (s2 (oCmp .lt) (sVar 1) (sN bLen (sCons (sVar 0) sNil))) (sSeq (sRet (s2 oIx (sVar 0) (sVar 1))) sEnd) sEnd) (sSeq (sRet (sCon (.int 0))) sEnd))
def g__cell_at : G := fnG 2 b__cell_at
theorem r__cell_at {P : Program} {w : World} {K : PySem.W.Frag} {mg : Str → Option Value} {C : Ad} {base : Heap} {k : Nat} {f : Addr} (T : Txt K mg C) (cdv : Value) (A : Around) (outer : List PySem.Env) (s : Shared) (H : Hp) (E : XK) (hr : Room k (A.deeper (envOfC "_law_cell_at" (defScope s__cell_at) s.heap.objs.size f cdv))) :
  SB (cx0 P w K mg base ["_law_script", "_law_k"] "_law_cell_at" s__cell_at f cdv A outer s H E) W0 (defBody s__cell_at) b__cell_at := by
 have hu : (cx0 P w K mg base ["_law_script", "_law_k"] "_law_cell_at" s__cell_at f cdv A outer s H E).A.units + 60 < cLine := Nat.lt_of_le_of_lt (Nat.add_le_add_left (by decide) _) hr.units
 have nd := (sc__cell_at).nd
 refine sb_cons ?_ ?_
 ·exact (ss_if (st_cmp (cp_ok hu .lt) pu_cmp (se_v rfl (v__cell_at__k)) (se_cb (fun t ha => pe_callB call_lenA rfl (T.blt "len" (by decide +kernel)) PySem.boot_len ha (by decide +kernel) (by decide +kernel)) pu_len (sa_cons (se_v rfl (v__cell_at__script)) sa_nil st_Name))) (sb_cons (ss_ret (se_ix ix_all pu_ix (se_v rfl (v__cell_at__script)) (se_v rfl (v__cell_at__k)))) sb_nil) sb_nil)
 refine sb_cons ?_ ?_
 ·exact (ss_ret (se_i pe_int))
 exact sb_nil
abbrev s__drawn : Stmt := top 13
theorem sc__drawn : FnScope ["_law_number", "_law_many", "_law_found", "_law_x", "_law_k"] ["_law_number", "_law_many"] (defScope s__drawn) := ⟨rfl, rfl, rfl, by decide +kernel, rfl, by decide +kernel, by decide +kernel⟩
theorem v__drawn__number : (defScope s__drawn).names.lookup ("_law_number" : Str) = some .local := by kernel_rfl
theorem v__drawn__many : (defScope s__drawn).names.lookup ("_law_many" : Str) = some .local := by kernel_rfl
theorem v__drawn__found : (defScope s__drawn).names.lookup ("_law_found" : Str) = some .local := by kernel_rfl
theorem v__drawn__x : (defScope s__drawn).names.lookup ("_law_x" : Str) = some .local := by kernel_rfl
theorem v__drawn__k : (defScope s__drawn).names.lookup ("_law_k" : Str) = some .local := by kernel_rfl
def l__drawn_1 : S := (sSeq (sAsg 3 (s2 oMod (s2 oAdd (s2 oAdd (s2 oAdd (s2 oMul (sVar 3) (sVar 3)) (s2 oMul (sCon (.int 40692)) (sVar 3))) (s2 oMul (sCon (.int 2)) (sVar 4))) (sCon (.int 1))) (sCon (.int 2147483629)))) (sSeq (sApp 2 (s2 oFdiv (sVar 3) (sCon (.int 3)))) sEnd))
def b__drawn : S := (sSeq (sMine 2 (sLst sNil)) (sSeq (sAsg 3 (s2 oMod (sVar 0) (sCon (.int 2147483629)))) (sSeq (sFor 4 (iRng1 (sCons (sVar 1) sNil)) l__drawn_1) (sSeq (sFrz 2) (sSeq (sRet (sVar 2)) sEnd)))))
def g__drawn : G := fnG 5 b__drawn
theorem r__drawn {P : Program} {w : World} {K : PySem.W.Frag} {mg : Str → Option Value} {C : Ad} {base : Heap} {k : Nat} {f : Addr} (T : Txt K mg C) (cdv : Value) (A : Around) (outer : List PySem.Env) (s : Shared) (H : Hp) (E : XK) (hr : Room k (A.deeper (envOfC "_law_drawn" (defScope s__drawn) s.heap.objs.size f cdv))) :
  SB (cx0 P w K mg base ["_law_number", "_law_many", "_law_found", "_law_x", "_law_k"] "_law_drawn" s__drawn f cdv A outer s H E) W0 (defBody s__drawn) b__drawn := by
 have hu : (cx0 P w K mg base ["_law_number", "_law_many", "_law_found", "_law_x", "_law_k"] "_law_drawn" s__drawn f cdv A outer s H E).A.units + 60 < cLine := Nat.lt_of_le_of_lt (Nat.add_le_add_left (by decide) _) hr.units
 have nd := (sc__drawn).nd
 refine sb_cons ?_ ?_
 ·exact (ss_mine (i := 2) nd rfl (.inl v__drawn__found) (sn_lst sa_nil))
 refine sb_cons ?_ ?_
 ·exact (ss_asg (i := 3) nd rfl (.inl v__drawn__x) (se_op op_mod pu_mod (se_v rfl (v__drawn__number)) (se_i pe_int)))
 refine sb_cons ?_ ?_
 ·exact (ss_for PassesOwn.never rfl nd rfl (.inl v__drawn__k) (si_rng1 rfl (T.blt "range" (by decide +kernel)) (sa_cons (se_v rfl (v__drawn__many)) sa_nil st_Name)) (sb_cons (ss_asg (i := 3) nd rfl (.inl v__drawn__x) (se_op op_mod pu_mod (se_op op_addA pu_add (se_op op_addA pu_add (se_op op_addA pu_add (se_op op_mulB pu_mul (se_v rfl (v__drawn__x)) (se_v rfl (v__drawn__x))) (se_op op_mulB pu_mul (se_i pe_int) (se_v rfl (v__drawn__x)))) (se_op op_mulB pu_mul (se_i pe_int) (se_v rfl (v__drawn__k)))) (se_i pe_int)) (se_i pe_int))) (sb_cons (ss_app rfl (.inl v__drawn__found) (se_op op_fdiv pu_fdiv (se_v rfl (v__drawn__x)) (se_i pe_int))) sb_nil)))
 refine sb_frz ?_
 refine sb_cons ?_ ?_
 ·exact (ss_ret (se_v rfl (v__drawn__found)))
 exact sb_nil
abbrev s__cells : Stmt := top 12
theorem sc__cells : FnScope ["_law_script", "_law_first"] ["_law_script"] (defScope s__cells) := ⟨rfl, rfl, rfl, by decide +kernel, rfl, by decide +kernel, by decide +kernel⟩
theorem v__cells__script : (defScope s__cells).names.lookup ("_law_script" : Str) = some .local := by kernel_rfl
theorem v__cells__first : (defScope s__cells).names.lookup ("_law_first" : Str) = some .local := by kernel_rfl
def b__cells : S := (sSeq (sAsg 1 (sCall g__cell_at (sCons (sVar 0) (sCons (sCon (.int 0)) sNil)))) (sSeq (sIf (s2 (oCmp .eq) (s2 oMod (sVar 1) (sCon (.int 8))) (sCon (.int 1))) (sSeq (sRet (sCall g__drawn (sCons (s2 oFdiv (sVar 1) (sCon (.int 8))) (sCons (s2 oAdd (sCon (.int 1)) (s2 oMod (s2 oFdiv (sVar 1) (sCon (.int 8))) (sCon (.int 40)))) sNil)))) sEnd) sEnd) (sSeq (sRet (s2 oAdd (sLst (sCons (s2 oFdiv (sVar 1) (sCon (.int 8))) sNil)) (sSl (sVar 0) (pAt (sCon (.int 1))) (pAt (sCon (.int 12)))))) sEnd)))
def g__cells : G := fnG 2 b__cells
theorem r__cells {P : Program} {w : World} {K : PySem.W.Frag} {mg : Str → Option Value} {C : Ad} {base : Heap} {k : Nat} {f : Addr} (T : Txt K mg C) (a__cell_at : AtG P w K mg base k "_law_cell_at" 2 g__cell_at) (a__drawn : AtG P w K mg base k "_law_drawn" 2 g__drawn) (cdv : Value) (A : Around) (outer : List PySem.Env) (s : Shared) (H : Hp) (E : XK) (hr : Room k (A.deeper (envOfC "_law_cells" (defScope s__cells) s.heap.objs.size f cdv))) :
  SB (cx0 P w K mg base ["_law_script", "_law_first"] "_law_cells" s__cells f cdv A outer s H E) W0 (defBody s__cells) b__cells := by
 have hu : (cx0 P w K mg base ["_law_script", "_law_first"] "_law_cells" s__cells f cdv A outer s H E).A.units + 60 < cLine := Nat.lt_of_le_of_lt (Nat.add_le_add_left (by decide) _) hr.units
 have nd := (sc__cells).nd
 refine sb_cons ?_ ?_
 ·exact (ss_asg (i := 1) nd rfl (.inl v__cells__first) (se_call a__cell_at hr rfl (sa_cons (se_v rfl (v__cells__script)) (sa_cons (se_i pe_int) sa_nil st_Constant) st_Name) (cnt_cons (cnt_cons cnt_nil))))
 refine sb_cons ?_ ?_
 ·exact (ss_if (st_cmp (cp_ok hu .eq) pu_cmp (se_op op_mod pu_mod (se_v rfl (v__cells__first)) (se_i pe_int)) (se_i pe_int)) (sb_cons (ss_ret (se_call a__drawn hr rfl (sa_cons (se_op op_fdiv pu_fdiv (se_v rfl (v__cells__first)) (se_i pe_int)) (sa_cons (se_op op_addA pu_add (se_i pe_int) (se_op op_mod pu_mod (se_op op_fdiv pu_fdiv (se_v rfl (v__cells__first)) (se_i pe_int)) (se_i pe_int))) sa_nil st_BinOp) st_BinOp) (cnt_cons (cnt_cons cnt_nil)))) sb_nil) sb_nil)
 refine sb_cons ?_ ?_
 ·exact (ss_ret (se_op op_addA pu_add (SN.sem (sn_lst (sa_cons (se_op op_fdiv pu_fdiv (se_v rfl (v__cells__first)) (se_i pe_int)) sa_nil st_BinOp)) lst_is) (se_sl (se_v rfl (v__cells__script)) (sp_at (Wx := W0) (se_i pe_int)) (sp_at (Wx := W0) (se_i pe_int)))))
 exact sb_nil
abbrev s__leaf : Stmt := top 14
theorem sc__leaf : FnScope ["_law_x", "_law_letters", "_law_number"] ["_law_x", "_law_letters"] (defScope s__leaf) := ⟨rfl, rfl, rfl, by decide +kernel, rfl, by decide +kernel, by decide +kernel⟩
theorem v__leaf__x : (defScope s__leaf).names.lookup ("_law_x" : Str) = some .local := by kernel_rfl
theorem v__leaf__letters : (defScope s__leaf).names.lookup ("_law_letters" : Str) = some .local := by kernel_rfl
theorem v__leaf__number : (defScope s__leaf).names.lookup ("_law_number" : Str) = some .local := by kernel_rfl
def n__leaf_3 : S := (sSeq (sRet (sN bStr (sCons (sVar 2) sNil))) sEnd)
def n__leaf_2 : S := (sSeq (sIf (sAnd (s2 (oCmp .eq) (s2 oMod (s2 oFdiv (sVar 0) (sCon (.int 2))) (sCon (.int 2))) (sCon (.int 1))) (s2 (oCmp .gt) (sVar 2) (sCon (.int 0)))) (sSeq (sRet (s2 oAdd (sCon (.str "-")) (sN bStr (sCons (sVar 2) sNil)))) sEnd) sEnd) n__leaf_3)
def n__leaf_1 : S := (sSeq (sAsg 2 (s2 oMod (s2 oMul (s2 oMul (s2 oMul (sVar 0) (sCon (.int 1000003))) (sCon (.int 104729))) (sCon (.int 7919))) (s2 oIx (sLst (sCons (sCon (.int 10)) (sCons (sCon (.int 100)) (sCons (s2 oPow (sCon (.int 10)) (sCon (.int 6))) (sCons (s2 oPow (sCon (.int 10)) (sCon (.int 12))) (sCons (s2 oPow (sCon (.int 10)) (sCon (.int 20))) sNil)))))) (s2 oMod (s2 oFdiv (sVar 0) (sCon (.int 9))) (sCon (.int 5)))))) n__leaf_2)
def b__leaf : S := (sSeq (sIf (sAnd (s2 (oCmp .gt) (s2 oMod (sVar 0) (sCon (.int 3))) (sCon (.int 0))) (s2 (oCmp .ne) (sVar 1) (sCon (.str "")))) (sSeq (sRet (s2 oIx (sVar 1) (s2 oMod (s2 oFdiv (sVar 0) (sCon (.int 3))) (sN bLen (sCons (sVar 1) sNil))))) sEnd) sEnd) n__leaf_1)
def g__leaf : G := fnG 3 b__leaf
theorem r__leaf {P : Program} {w : World} {K : PySem.W.Frag} {mg : Str → Option Value} {C : Ad} {base : Heap} {k : Nat} {f : Addr} (T : Txt K mg C) (cdv : Value) (A : Around) (outer : List PySem.Env) (s : Shared) (H : Hp) (E : XK) (hr : Room k (A.deeper (envOfC "_law_leaf" (defScope s__leaf) s.heap.objs.size f cdv))) :
  SB (cx0 P w K mg base ["_law_x", "_law_letters", "_law_number"] "_law_leaf" s__leaf f cdv A outer s H E) W0 (defBody s__leaf) b__leaf := by
 have hu : (cx0 P w K mg base ["_law_x", "_law_letters", "_law_number"] "_law_leaf" s__leaf f cdv A outer s H E).A.units + 60 < cLine := Nat.lt_of_le_of_lt (Nat.add_le_add_left (by decide) _) hr.units
 have nd := (sc__leaf).nd
 refine sb_cons ?_ ?_
 ·exact (ss_if (SW.st (sw_and (st_cmp (cp_ok hu .gt) pu_cmp (se_op op_mod pu_mod (se_v rfl (v__leaf__x)) (se_i pe_int)) (se_i pe_int)) (sw_and1 (st_cmp (cp_ok hu .ne) pu_cmp (se_v rfl (v__leaf__letters)) (se_s pe_str))))) (sb_cons (ss_ret (se_ix ix_all pu_ix (se_v rfl (v__leaf__letters)) (se_op op_mod pu_mod (se_op op_fdiv pu_fdiv (se_v rfl (v__leaf__x)) (se_i pe_int)) (se_cb (fun t ha => pe_callB call_lenA rfl (T.blt "len" (by decide +kernel)) PySem.boot_len ha (by decide +kernel) (by decide +kernel)) pu_len (sa_cons (se_v rfl (v__leaf__letters)) sa_nil st_Name))))) sb_nil) sb_nil)
 refine sb_cons ?_ ?_
 ·exact (ss_asg (i := 2) nd rfl (.inl v__leaf__number) (se_op op_mod pu_mod (se_op op_mulB pu_mul (se_op op_mulB pu_mul (se_op op_mulB pu_mul (se_v rfl (v__leaf__x)) (se_i pe_int)) (se_i pe_int)) (se_i pe_int)) (se_ix ix_all pu_ix (SN.sem (sn_lst (sa_cons (se_i pe_int) (sa_cons (se_i pe_int) (sa_cons (se_op op_pow pu_pow (se_i pe_int) (se_i pe_int)) (sa_cons (se_op op_pow pu_pow (se_i pe_int) (se_i pe_int)) (sa_cons (se_op op_pow pu_pow (se_i pe_int) (se_i pe_int)) sa_nil st_BinOp) st_BinOp) st_BinOp) st_Constant) st_Constant)) lst_is) (se_op op_mod pu_mod (se_op op_fdiv pu_fdiv (se_v rfl (v__leaf__x)) (se_i pe_int)) (se_i pe_int)))))
 refine sb_cons ?_ ?_
 ·exact (ss_if (SW.st (sw_and (st_cmp (cp_ok hu .eq) pu_cmp (se_op op_mod pu_mod (se_op op_fdiv pu_fdiv (se_v rfl (v__leaf__x)) (se_i pe_int)) (se_i pe_int)) (se_i pe_int)) (sw_and1 (st_cmp (cp_ok hu .gt) pu_cmp (se_v rfl (v__leaf__number)) (se_i pe_int))))) (sb_cons (ss_ret (se_op op_addA pu_add (se_s pe_str) (se_cb (fun t ha => pe_callTy call_str_int rfl (T.blt "str" (by decide +kernel)) boot_str ha (by decide +kernel) (by decide +kernel)) pu_str (sa_cons (se_v rfl (v__leaf__number)) sa_nil st_Name)))) sb_nil) sb_nil)
 refine sb_cons ?_ ?_
 ·exact (ss_ret (se_cb (fun t ha => pe_callTy call_str_int rfl (T.blt "str" (by decide +kernel)) boot_str ha (by decide +kernel) (by decide +kernel)) pu_str (sa_cons (se_v rfl (v__leaf__number)) sa_nil st_Name)))
 exact sb_nil
abbrev s__expr : Stmt := top 15
theorem sc__expr : FnScope ["_law_number", "_law_letters", "_law_most", "_law_words", "_law_need", "_law_x", "_law_pick"] ["_law_number", "_law_letters", "_law_most"] (defScope s__expr) := ⟨rfl, rfl, rfl, by decide +kernel, rfl, by decide +kernel, by decide +kernel⟩
theorem v__expr__number : (defScope s__expr).names.lookup ("_law_number" : Str) = some .local := by kernel_rfl
theorem v__expr__letters : (defScope s__expr).names.lookup ("_law_letters" : Str) = some .local := by kernel_rfl
theorem v__expr__most : (defScope s__expr).names.lookup ("_law_most" : Str) = some .local := by kernel_rfl
theorem v__expr__words : (defScope s__expr).names.lookup ("_law_words" : Str) = some .local := by kernel_rfl
theorem v__expr__need : (defScope s__expr).names.lookup ("_law_need" : Str) = some .local := by kernel_rfl
theorem v__expr__x : (defScope s__expr).names.lookup ("_law_x" : Str) = some .local := by kernel_rfl
theorem v__expr__pick : (defScope s__expr).names.lookup ("_law_pick" : Str) = some .local := by kernel_rfl
def t__expr_1 : E := (s2 (oCmp .gt) (sVar 4) (sCon (.int 0)))
def l__expr_1 : S := (sSeq (sAsg 5 (s2 oMod (s2 oAdd (s2 oAdd (s2 oAdd (s2 oMul (sVar 5) (sVar 5)) (s2 oMul (sCon (.int 40692)) (sVar 5))) (sN bLen (sCons (sVarB 3) sNil))) (sCon (.int 1))) (sCon (.int 2147483629)))) (sSeq (sAsg 6 (s2 oFdiv (sVar 5) (sCon (.int 7)))) (sSeq (sIf (sAnd (s2 (oCmp .eq) (s2 oMod (sVar 6) (sCon (.int 2))) (sCon (.int 1))) (s2 (oCmp .le) (s2 oAdd (s2 oAdd (sN bLen (sCons (sVarB 3) sNil)) (sVar 4)) (sCon (.int 2))) (sVar 2))) (sSeq (sApp 3 (s2 oIx (sLst (sCons (sCon (.str "+")) (sCons (sCon (.str "-")) (sCons (sCon (.str "*")) (sCons (sCon (.str "least")) (sCons (sCon (.str "most")) sNil)))))) (s2 oMod (s2 oFdiv (sVar 6) (sCon (.int 2))) (sCon (.int 5))))) (sSeq (sAsg 4 (s2 oAdd (sVar 4) (sCon (.int 1)))) sEnd)) (sSeq (sApp 3 (sCall g__leaf (sCons (s2 oFdiv (sVar 6) (sCon (.int 2))) (sCons (sVar 1) sNil)))) (sSeq (sAsg 4 (s2 oSub (sVar 4) (sCon (.int 1)))) sEnd))) sEnd)))
def b__expr : S := (sSeq (sMine 3 (sLst sNil)) (sSeq (sAsg 4 (sCon (.int 1))) (sSeq (sAsg 5 (s2 oMod (sVar 0) (sCon (.int 2147483629)))) (sSeq (sWhile 1000 t__expr_1 l__expr_1) (sSeq (sFrz 3) (sSeq (sRet (sVar 3)) sEnd))))))
def g__expr : G := fnG 7 b__expr
theorem r__expr {P : Program} {w : World} {K : PySem.W.Frag} {mg : Str → Option Value} {C : Ad} {base : Heap} {k : Nat} {f : Addr} (T : Txt K mg C) (a__leaf : AtG P w K mg base k "_law_leaf" 2 g__leaf) (cdv : Value) (A : Around) (outer : List PySem.Env) (s : Shared) (H : Hp) (E : XK) (hr : Room k (A.deeper (envOfC "_law_expr" (defScope s__expr) s.heap.objs.size f cdv))) :
  SB (cx0 P w K mg base ["_law_number", "_law_letters", "_law_most", "_law_words", "_law_need", "_law_x", "_law_pick"] "_law_expr" s__expr f cdv A outer s H E) W0 (defBody s__expr) b__expr := by
 have hu : (cx0 P w K mg base ["_law_number", "_law_letters", "_law_most", "_law_words", "_law_need", "_law_x", "_law_pick"] "_law_expr" s__expr f cdv A outer s H E).A.units + 60 < cLine := Nat.lt_of_le_of_lt (Nat.add_le_add_left (by decide) _) hr.units
 have nd := (sc__expr).nd
 refine sb_cons ?_ ?_
 ·exact (ss_mine (i := 3) nd rfl (.inl v__expr__words) (sn_lst sa_nil))
 refine sb_cons ?_ ?_
 ·exact (ss_asg (i := 4) nd rfl (.inl v__expr__need) (se_i pe_int))
 refine sb_cons ?_ ?_
 ·exact (ss_asg (i := 5) nd rfl (.inl v__expr__x) (se_op op_mod pu_mod (se_v rfl (v__expr__number)) (se_i pe_int)))
 refine sb_cons ?_ ?_
 ·exact (ss_while 1000 PassesOwn.never (st_cmp (cp_ok hu .gt) pu_cmp (se_v rfl (v__expr__need)) (se_i pe_int)) (sb_cons (ss_asg (i := 5) nd rfl (.inl v__expr__x) (se_op op_mod pu_mod (se_op op_addA pu_add (se_op op_addA pu_add (se_op op_addA pu_add (se_op op_mulB pu_mul (se_v rfl (v__expr__x)) (se_v rfl (v__expr__x))) (se_op op_mulB pu_mul (se_i pe_int) (se_v rfl (v__expr__x)))) (se_cb (fun t ha => pe_callB call_lenA rfl (T.blt "len" (by decide +kernel)) PySem.boot_len ha (by decide +kernel) (by decide +kernel)) pu_len (sa_cons (se_vb rfl (v__expr__words)) sa_nil st_Name))) (se_i pe_int)) (se_i pe_int))) (sb_cons (ss_asg (i := 6) nd rfl (.inl v__expr__pick) (se_op op_fdiv pu_fdiv (se_v rfl (v__expr__x)) (se_i pe_int))) (sb_cons (ss_if (SW.st (sw_and (st_cmp (cp_ok hu .eq) pu_cmp (se_op op_mod pu_mod (se_v rfl (v__expr__pick)) (se_i pe_int)) (se_i pe_int)) (sw_and1 (st_cmp (cp_ok hu .le) pu_cmp (se_op op_addA pu_add (se_op op_addA pu_add (se_cb (fun t ha => pe_callB call_lenA rfl (T.blt "len" (by decide +kernel)) PySem.boot_len ha (by decide +kernel) (by decide +kernel)) pu_len (sa_cons (se_vb rfl (v__expr__words)) sa_nil st_Name)) (se_v rfl (v__expr__need))) (se_i pe_int)) (se_v rfl (v__expr__most)))))) (sb_cons (ss_app rfl (.inl v__expr__words) (se_ix ix_all pu_ix (SN.sem (sn_lst (sa_cons (se_s pe_str) (sa_cons (se_s pe_str) (sa_cons (se_s pe_str) (sa_cons (se_s pe_str) (sa_cons (se_s pe_str) sa_nil st_Constant) st_Constant) st_Constant) st_Constant) st_Constant)) lst_is) (se_op op_mod pu_mod (se_op op_fdiv pu_fdiv (se_v rfl (v__expr__pick)) (se_i pe_int)) (se_i pe_int)))) (sb_cons (ss_asg (i := 4) nd rfl (.inl v__expr__need) (se_op op_addA pu_add (se_v rfl (v__expr__need)) (se_i pe_int))) sb_nil)) (sb_cons (ss_app rfl (.inl v__expr__words) (se_call a__leaf hr rfl (sa_cons (se_op op_fdiv pu_fdiv (se_v rfl (v__expr__pick)) (se_i pe_int)) (sa_cons (se_v rfl (v__expr__letters)) sa_nil st_Name) st_BinOp) (cnt_cons (cnt_cons cnt_nil)))) (sb_cons (ss_asg (i := 4) nd rfl (.inl v__expr__need) (se_op op_sub pu_sub (se_v rfl (v__expr__need)) (se_i pe_int))) sb_nil))) sb_nil))))
 refine sb_frz ?_
 refine sb_cons ?_ ?_
 ·exact (ss_ret (se_v rfl (v__expr__words)))
 exact sb_nil
abbrev s__cond : Stmt := top 16
theorem sc__cond : FnScope ["_law_number", "_law_most", "_law_words", "_law_pending", "_law_room", "_law_x", "_law_pick", "_law_kind"] ["_law_number", "_law_most"] (defScope s__cond) := ⟨rfl, rfl, rfl, by decide +kernel, rfl, by decide +kernel, by decide +kernel⟩
theorem v__cond__number : (defScope s__cond).names.lookup ("_law_number" : Str) = some .local := by kernel_rfl
theorem v__cond__most : (defScope s__cond).names.lookup ("_law_most" : Str) = some .local := by kernel_rfl
theorem v__cond__words : (defScope s__cond).names.lookup ("_law_words" : Str) = some .local := by kernel_rfl
theorem v__cond__pending : (defScope s__cond).names.lookup ("_law_pending" : Str) = some .local := by kernel_rfl
theorem v__cond__room : (defScope s__cond).names.lookup ("_law_room" : Str) = some .local := by kernel_rfl
theorem v__cond__x : (defScope s__cond).names.lookup ("_law_x" : Str) = some .local := by kernel_rfl
theorem v__cond__pick : (defScope s__cond).names.lookup ("_law_pick" : Str) = some .local := by kernel_rfl
theorem v__cond__kind : (defScope s__cond).names.lookup ("_law_kind" : Str) = some .local := by kernel_rfl
def n__cond_5 : S := (sSeq (sFrz 2) (sSeq (sRet (sVar 2)) sEnd))
def m76__cond_3 : S := (sSeq (sIf (sAnd (s2 (oCmp .eq) (sVar 7) (sCon (.str "cond"))) (sAnd (s2 (oCmp .ge) (sVar 4) (sCon (.int 4))) (s2 (oCmp .eq) (s2 oMod (sVar 6) (sCon (.int 4))) (sCon (.int 1))))) (sSeq (sApp 2 (s2 oIx (sLst (sCons (sCon (.str "and")) (sCons (sCon (.str "or")) sNil))) (s2 oMod (s2 oFdiv (sVar 6) (sCon (.int 4))) (sCon (.int 2))))) (sSeq (sAsg 3 (sCell (s2 oCat (sVar 3) (sLst (sCons (sCon (.str "cond")) (sCons (sCon (.str "cond")) sNil)))))) (sSeq (sAsg 4 (s2 oSub (sVar 4) (sCon (.int 4)))) sEnd))) (sSeq (sIf (sAnd (s2 (oCmp .eq) (sVar 7) (sCon (.str "cond"))) (sAnd (s2 (oCmp .ge) (sVar 4) (sCon (.int 1))) (s2 (oCmp .eq) (s2 oMod (sVar 6) (sCon (.int 4))) (sCon (.int 2))))) (sSeq (sApp 2 (sCon (.str "not"))) (sSeq (sAppC (sVar 3) (sCon (.str "cond"))) (sSeq (sAsg 4 (s2 oSub (sVar 4) (sCon (.int 1)))) sEnd))) (sSeq (sIf (s2 (oCmp .eq) (sVar 7) (sCon (.str "cond"))) (sSeq (sApp 2 (s2 oIx (sLst (sCons (sCon (.str "<")) (sCons (sCon (.str "=")) sNil))) (s2 oMod (s2 oFdiv (sVar 6) (sCon (.int 4))) (sCon (.int 2))))) (sSeq (sAsg 3 (sCell (s2 oCat (sVar 3) (sLst (sCons (sCon (.str "expr")) (sCons (sCon (.str "expr")) sNil)))))) sEnd)) (sSeq (sIf (sAnd (s2 (oCmp .ge) (sVar 4) (sCon (.int 2))) (s2 (oCmp .eq) (s2 oMod (sVar 6) (sCon (.int 3))) (sCon (.int 1)))) (sSeq (sApp 2 (s2 oIx (sLst (sCons (sCon (.str "+")) (sCons (sCon (.str "-")) (sCons (sCon (.str "*")) (sCons (sCon (.str "least")) (sCons (sCon (.str "most")) sNil)))))) (s2 oMod (s2 oFdiv (sVar 6) (sCon (.int 3))) (sCon (.int 5))))) (sSeq (sAsg 3 (sCell (s2 oCat (sVar 3) (sLst (sCons (sCon (.str "expr")) (sCons (sCon (.str "expr")) sNil)))))) (sSeq (sAsg 4 (s2 oSub (sVar 4) (sCon (.int 2)))) sEnd))) (sSeq (sApp 2 (sCall g__leaf (sCons (s2 oFdiv (sVar 6) (sCon (.int 3))) (sCons (sCon (.str "tv")) sNil)))) sEnd)) sEnd)) sEnd)) sEnd)) sEnd)
def m76__cond_2 : S := (sSeq (sAsg 7 (sPop (sVar 3))) m76__cond_3)
def m76__cond_1 : S := (sSeq (sAsg 6 (s2 oFdiv (sVar 5) (sCon (.int 7)))) m76__cond_2)
def t__cond_1 : E := (s2 (oCmp .ne) (sVar 3) (sLst sNil))
def l__cond_1 : S := (sSeq (sAsg 5 (s2 oMod (s2 oAdd (s2 oAdd (s2 oAdd (s2 oMul (sVar 5) (sVar 5)) (s2 oMul (sCon (.int 40692)) (sVar 5))) (sN bLen (sCons (sVarB 2) sNil))) (sCon (.int 1))) (sCon (.int 2147483629)))) m76__cond_1)
def n__cond_4 : S := (sSeq (sWhile 1000 t__cond_1 l__cond_1) n__cond_5)
def n__cond_3 : S := (sSeq (sAsg 5 (s2 oMod (sVar 0) (sCon (.int 2147483629)))) n__cond_4)
def n__cond_2 : S := (sSeq (sAsg 4 (s2 oSub (sVar 1) (sCon (.int 3)))) n__cond_3)
def n__cond_1 : S := (sSeq (sAsg 3 (sCell (sLst (sCons (sCon (.str "cond")) sNil)))) n__cond_2)
def b__cond : S := (sSeq (sMine 2 (sLst sNil)) n__cond_1)
def g__cond : G := fnG 8 b__cond
theorem r__cond {P : Program} {w : World} {K : PySem.W.Frag} {mg : Str → Option Value} {C : Ad} {base : Heap} {k : Nat} {f : Addr} (T : Txt K mg C) (a__leaf : AtG P w K mg base k "_law_leaf" 2 g__leaf) (cdv : Value) (A : Around) (outer : List PySem.Env) (s : Shared) (H : Hp) (E : XK) (hr : Room k (A.deeper (envOfC "_law_cond" (defScope s__cond) s.heap.objs.size f cdv))) :
    SB (cx0 P w K mg base ["_law_number", "_law_most", "_law_words", "_law_pending", "_law_room", "_law_x", "_law_pick", "_law_kind"] "_law_cond" s__cond f cdv A outer s H E) W0 (defBody s__cond) b__cond := by
  have hu : (cx0 P w K mg base ["_law_number", "_law_most", "_law_words", "_law_pending", "_law_room", "_law_x", "_law_pick", "_law_kind"] "_law_cond" s__cond f cdv A outer s H E).A.units + 60 < cLine := Nat.lt_of_le_of_lt (Nat.add_le_add_left (by decide) _) hr.units
  have nd := (sc__cond).nd
  refine sb_cons ?_ ?_
  · refine ss_mine (i := 2) ?_ ?_ ?_ ?_
    · exact nd
    · exact rfl
    · exact (.inl v__cond__words)
    · refine sn_lst ?_
      · exact sa_nil
  refine sb_cons ?_ ?_
  · refine ss_asg (i := 3) ?_ ?_ ?_ ?_
    · exact nd
    · exact rfl
    · exact (.inl v__cond__pending)
    · refine se_cell ?_
      · refine sn_lst ?_
        · refine sa_cons ?_ ?_ ?_
          · refine se_s ?_
            · exact pe_str
          · exact sa_nil
          · exact st_Constant
  refine sb_cons ?_ ?_
  · refine ss_asg (i := 4) ?_ ?_ ?_ ?_
    · exact nd
    · exact rfl
    · exact (.inl v__cond__room)
    · refine se_op op_sub pu_sub ?_ ?_
      · refine se_v ?_ ?_
        · exact rfl
        · exact v__cond__most
      · refine se_i ?_
        · exact pe_int
  refine sb_cons ?_ ?_
  · refine ss_asg (i := 5) ?_ ?_ ?_ ?_
    · exact nd
    · exact rfl
    · exact (.inl v__cond__x)
    · refine se_op op_mod pu_mod ?_ ?_
      · refine se_v ?_ ?_
        · exact rfl
        · exact v__cond__number
      · refine se_i ?_
        · exact pe_int
  refine sb_cons ?_ ?_
  · refine ss_while 1000 PassesOwn.never ?_ ?_
    · refine st_cmp (cp_ok hu .ne) pu_cmp ?_ ?_
      · refine se_v ?_ ?_
        · exact rfl
        · exact v__cond__pending
      · refine SN.sem ?_ ?_
        · refine sn_lst ?_
          · exact sa_nil
        · exact lst_is
    · refine sb_cons ?_ ?_
      · refine ss_asg (i := 5) ?_ ?_ ?_ ?_
        · exact nd
        · exact rfl
        · exact (.inl v__cond__x)
        · refine se_op op_mod pu_mod ?_ ?_
          · refine se_op op_addA pu_add ?_ ?_
            · refine se_op op_addA pu_add ?_ ?_
              · refine se_op op_addA pu_add ?_ ?_
                · refine se_op op_mulB pu_mul ?_ ?_
                  · refine se_v ?_ ?_
                    · exact rfl
                    · exact v__cond__x
                  · refine se_v ?_ ?_
                    · exact rfl
                    · exact v__cond__x
                · refine se_op op_mulB pu_mul ?_ ?_
                  · refine se_i ?_
                    · exact pe_int
                  · refine se_v ?_ ?_
                    · exact rfl
                    · exact v__cond__x
              · refine se_cb (fun t ha => pe_callB call_lenA rfl (T.blt "len" (by decide +kernel)) PySem.boot_len ha (by decide +kernel) (by decide +kernel)) pu_len ?_
                · refine sa_cons ?_ ?_ ?_
                  · refine se_vb ?_ ?_
                    · exact rfl
                    · exact v__cond__words
                  · exact sa_nil
                  · exact st_Name
            · refine se_i ?_
              · exact pe_int
          · refine se_i ?_
            · exact pe_int
      · refine sb_cons ?_ ?_
        · refine ss_asg (i := 6) ?_ ?_ ?_ ?_
          · exact nd
          · exact rfl
          · exact (.inl v__cond__pick)
          · refine se_op op_fdiv pu_fdiv ?_ ?_
            · refine se_v ?_ ?_
              · exact rfl
              · exact v__cond__x
            · refine se_i ?_
              · exact pe_int
        · refine sb_cons ?_ ?_
          · refine ss_asg (i := 7) ?_ ?_ ?_ ?_
            · exact nd
            · exact rfl
            · exact (.inl v__cond__kind)
            · refine se_pop ?_
              · refine se_v ?_ ?_
                · exact rfl
                · exact v__cond__pending
          · refine sb_cons ?_ ?_
            · refine ss_if ?_ ?_ ?_
              · refine SW.st ?_
                · refine sw_and ?_ ?_
                  · refine st_cmp (cp_ok hu .eq) pu_cmp ?_ ?_
                    · refine se_v ?_ ?_
                      · exact rfl
                      · exact v__cond__kind
                    · refine se_s ?_
                      · exact pe_str
                  · refine sw_and ?_ ?_
                    · refine st_cmp (cp_ok hu .ge) pu_cmp ?_ ?_
                      · refine se_v ?_ ?_
                        · exact rfl
                        · exact v__cond__room
                      · refine se_i ?_
                        · exact pe_int
                    · refine sw_and1 ?_
                      · refine st_cmp (cp_ok hu .eq) pu_cmp ?_ ?_
                        · refine se_op op_mod pu_mod ?_ ?_
                          · refine se_v ?_ ?_
                            · exact rfl
                            · exact v__cond__pick
                          · refine se_i ?_
                            · exact pe_int
                        · refine se_i ?_
                          · exact pe_int
              · refine sb_cons ?_ ?_
                · refine ss_app ?_ ?_ ?_
                  · exact rfl
                  · exact (.inl v__cond__words)
                  · refine se_ix ix_all pu_ix ?_ ?_
                    · refine SN.sem ?_ ?_
                      · refine sn_lst ?_
                        · refine sa_cons ?_ ?_ ?_
                          · refine se_s ?_
                            · exact pe_str
                          · refine sa_cons ?_ ?_ ?_
                            · refine se_s ?_
                              · exact pe_str
                            · exact sa_nil
                            · exact st_Constant
                          · exact st_Constant
                      · exact lst_is
                    · refine se_op op_mod pu_mod ?_ ?_
                      · refine se_op op_fdiv pu_fdiv ?_ ?_
                        · refine se_v ?_ ?_
                          · exact rfl
                          · exact v__cond__pick
                        · refine se_i ?_
                          · exact pe_int
                      · refine se_i ?_
                        · exact pe_int
                · refine sb_cons ?_ ?_
                  · refine ss_asg (i := 3) ?_ ?_ ?_ ?_
                    · exact nd
                    · exact rfl
                    · exact (.inl v__cond__pending)
                    · refine se_cell ?_
                      · refine sn_add ?_ ?_
                        · refine se_v ?_ ?_
                          · exact rfl
                          · exact v__cond__pending
                        · refine SN.sem ?_ ?_
                          · refine sn_lst ?_
                            · refine sa_cons ?_ ?_ ?_
                              · refine se_s ?_
                                · exact pe_str
                              · refine sa_cons ?_ ?_ ?_
                                · refine se_s ?_
                                  · exact pe_str
                                · exact sa_nil
                                · exact st_Constant
                              · exact st_Constant
                          · exact lst_is
                  · refine sb_cons ?_ ?_
                    · refine ss_asg (i := 4) ?_ ?_ ?_ ?_
                      · exact nd
                      · exact rfl
                      · exact (.inl v__cond__room)
                      · refine se_op op_sub pu_sub ?_ ?_
                        · refine se_v ?_ ?_
                          · exact rfl
                          · exact v__cond__room
                        · refine se_i ?_
                          · exact pe_int
                    · exact sb_nil
              · refine sb_cons ?_ ?_
                · refine ss_if ?_ ?_ ?_
                  · refine SW.st ?_
                    · refine sw_and ?_ ?_
                      · refine st_cmp (cp_ok hu .eq) pu_cmp ?_ ?_
                        · refine se_v ?_ ?_
                          · exact rfl
                          · exact v__cond__kind
                        · refine se_s ?_
                          · exact pe_str
                      · refine sw_and ?_ ?_
                        · refine st_cmp (cp_ok hu .ge) pu_cmp ?_ ?_
                          · refine se_v ?_ ?_
                            · exact rfl
                            · exact v__cond__room
                          · refine se_i ?_
                            · exact pe_int
                        · refine sw_and1 ?_
                          · refine st_cmp (cp_ok hu .eq) pu_cmp ?_ ?_
                            · refine se_op op_mod pu_mod ?_ ?_
                              · refine se_v ?_ ?_
                                · exact rfl
                                · exact v__cond__pick
                              · refine se_i ?_
                                · exact pe_int
                            · refine se_i ?_
                              · exact pe_int
                  · refine sb_cons ?_ ?_
                    · refine ss_app ?_ ?_ ?_
                      · exact rfl
                      · exact (.inl v__cond__words)
                      · refine se_s ?_
                        · exact pe_str
                    · refine sb_cons ?_ ?_
                      · refine ss_appC ?_ ?_
                        · refine se_v ?_ ?_
                          · exact rfl
                          · exact v__cond__pending
                        · refine se_s ?_
                          · exact pe_str
                      · refine sb_cons ?_ ?_
                        · refine ss_asg (i := 4) ?_ ?_ ?_ ?_
                          · exact nd
                          · exact rfl
                          · exact (.inl v__cond__room)
                          · refine se_op op_sub pu_sub ?_ ?_
                            · refine se_v ?_ ?_
                              · exact rfl
                              · exact v__cond__room
                            · refine se_i ?_
                              · exact pe_int
                        · exact sb_nil
                  · refine sb_cons ?_ ?_
                    · refine ss_if ?_ ?_ ?_
                      · refine st_cmp (cp_ok hu .eq) pu_cmp ?_ ?_
                        · refine se_v ?_ ?_
                          · exact rfl
                          · exact v__cond__kind
                        · refine se_s ?_
                          · exact pe_str
                      · refine sb_cons ?_ ?_
                        · refine ss_app ?_ ?_ ?_
                          · exact rfl
                          · exact (.inl v__cond__words)
                          · refine se_ix ix_all pu_ix ?_ ?_
                            · refine SN.sem ?_ ?_
                              · refine sn_lst ?_
                                · refine sa_cons ?_ ?_ ?_
                                  · refine se_s ?_
                                    · exact pe_str
                                  · refine sa_cons ?_ ?_ ?_
                                    · refine se_s ?_
                                      · exact pe_str
                                    · exact sa_nil
                                    · exact st_Constant
                                  · exact st_Constant
                              · exact lst_is
                            · refine se_op op_mod pu_mod ?_ ?_
                              · refine se_op op_fdiv pu_fdiv ?_ ?_
                                · refine se_v ?_ ?_
                                  · exact rfl
                                  · exact v__cond__pick
                                · refine se_i ?_
                                  · exact pe_int
                              · refine se_i ?_
                                · exact pe_int
                        · refine sb_cons ?_ ?_
                          · refine ss_asg (i := 3) ?_ ?_ ?_ ?_
                            · exact nd
                            · exact rfl
                            · exact (.inl v__cond__pending)
                            · refine se_cell ?_
                              · refine sn_add ?_ ?_
                                · refine se_v ?_ ?_
                                  · exact rfl
                                  · exact v__cond__pending
                                · refine SN.sem ?_ ?_
                                  · refine sn_lst ?_
                                    · refine sa_cons ?_ ?_ ?_
                                      · refine se_s ?_
                                        · exact pe_str
                                      · refine sa_cons ?_ ?_ ?_
                                        · refine se_s ?_
                                          · exact pe_str
                                        · exact sa_nil
                                        · exact st_Constant
                                      · exact st_Constant
                                  · exact lst_is
                          · exact sb_nil
                      · refine sb_cons ?_ ?_
                        · refine ss_if ?_ ?_ ?_
                          · refine SW.st ?_
                            · refine sw_and ?_ ?_
                              · refine st_cmp (cp_ok hu .ge) pu_cmp ?_ ?_
                                · refine se_v ?_ ?_
                                  · exact rfl
                                  · exact v__cond__room
                                · refine se_i ?_
                                  · exact pe_int
                              · refine sw_and1 ?_
                                · refine st_cmp (cp_ok hu .eq) pu_cmp ?_ ?_
                                  · refine se_op op_mod pu_mod ?_ ?_
                                    · refine se_v ?_ ?_
                                      · exact rfl
                                      · exact v__cond__pick
                                    · refine se_i ?_
                                      · exact pe_int
                                  · refine se_i ?_
                                    · exact pe_int
                          · refine sb_cons ?_ ?_
                            · refine ss_app ?_ ?_ ?_
                              · exact rfl
                              · exact (.inl v__cond__words)
                              · refine se_ix ix_all pu_ix ?_ ?_
                                · refine SN.sem ?_ ?_
                                  · refine sn_lst ?_
                                    · refine sa_cons ?_ ?_ ?_
                                      · refine se_s ?_
                                        · exact pe_str
                                      · refine sa_cons ?_ ?_ ?_
                                        · refine se_s ?_
                                          · exact pe_str
                                        · refine sa_cons ?_ ?_ ?_
                                          · refine se_s ?_
                                            · exact pe_str
                                          · refine sa_cons ?_ ?_ ?_
                                            · refine se_s ?_
                                              · exact pe_str
                                            · refine sa_cons ?_ ?_ ?_
                                              · refine se_s ?_
                                                · exact pe_str
                                              · exact sa_nil
                                              · exact st_Constant
                                            · exact st_Constant
                                          · exact st_Constant
                                        · exact st_Constant
                                      · exact st_Constant
                                  · exact lst_is
                                · refine se_op op_mod pu_mod ?_ ?_
                                  · refine se_op op_fdiv pu_fdiv ?_ ?_
                                    · refine se_v ?_ ?_
                                      · exact rfl
                                      · exact v__cond__pick
                                    · refine se_i ?_
                                      · exact pe_int
                                  · refine se_i ?_
                                    · exact pe_int
                            · refine sb_cons ?_ ?_
                              · refine ss_asg (i := 3) ?_ ?_ ?_ ?_
                                · exact nd
                                · exact rfl
                                · exact (.inl v__cond__pending)
                                · refine se_cell ?_
                                  · refine sn_add ?_ ?_
                                    · refine se_v ?_ ?_
                                      · exact rfl
                                      · exact v__cond__pending
                                    · refine SN.sem ?_ ?_
                                      · refine sn_lst ?_
                                        · refine sa_cons ?_ ?_ ?_
                                          · refine se_s ?_
                                            · exact pe_str
                                          · refine sa_cons ?_ ?_ ?_
                                            · refine se_s ?_
                                              · exact pe_str
                                            · exact sa_nil
                                            · exact st_Constant
                                          · exact st_Constant
                                      · exact lst_is
                              · refine sb_cons ?_ ?_
                                · refine ss_asg (i := 4) ?_ ?_ ?_ ?_
                                  · exact nd
                                  · exact rfl
                                  · exact (.inl v__cond__room)
                                  · refine se_op op_sub pu_sub ?_ ?_
                                    · refine se_v ?_ ?_
                                      · exact rfl
                                      · exact v__cond__room
                                    · refine se_i ?_
                                      · exact pe_int
                                · exact sb_nil
                          · refine sb_cons ?_ ?_
                            · refine ss_app ?_ ?_ ?_
                              · exact rfl
                              · exact (.inl v__cond__words)
                              · refine se_call a__leaf hr rfl ?_ ?_
                                · refine sa_cons ?_ ?_ ?_
                                  · refine se_op op_fdiv pu_fdiv ?_ ?_
                                    · refine se_v ?_ ?_
                                      · exact rfl
                                      · exact v__cond__pick
                                    · refine se_i ?_
                                      · exact pe_int
                                  · refine sa_cons ?_ ?_ ?_
                                    · refine se_s ?_
                                      · exact pe_str
                                    · exact sa_nil
                                    · exact st_Constant
                                  · exact st_BinOp
                                · refine cnt_cons ?_
                                  · refine cnt_cons ?_
                                    · exact cnt_nil
                            · exact sb_nil
                        · exact sb_nil
                    · exact sb_nil
                · exact sb_nil
            · exact sb_nil
  refine sb_frz ?_
  refine sb_cons ?_ ?_
  · refine ss_ret ?_
    · refine se_v ?_ ?_
      · exact rfl
      · exact v__cond__words
  exact sb_nil
abbrev s__name : Stmt := top 17
theorem sc__name : FnScope ["_law_x", "_law_k", "_law_word", "_law_at"] ["_law_x", "_law_k"] (defScope s__name) := ⟨rfl, rfl, rfl, by decide +kernel, rfl, by decide +kernel, by decide +kernel⟩
theorem v__name__x : (defScope s__name).names.lookup ("_law_x" : Str) = some .cell := by kernel_rfl
theorem v__name__k : (defScope s__name).names.lookup ("_law_k" : Str) = some .local := by kernel_rfl
theorem v__name__word : (defScope s__name).names.lookup ("_law_word" : Str) = some .local := by kernel_rfl
theorem v__name__at : (defScope s__name).names.lookup ("_law_at" : Str) = some .local := by kernel_rfl
def e__name_1 : E := (s2 oIx (sCon (.str "abcdefghijklmnopqrstuvwxyz")) (s2 oMod (s2 oFdiv (sVar 1) (s2 oAdd (sCon (.int 3)) (s2 oMul (sCon (.int 7)) (sVar 0)))) (sCon (.int 26))))
def b__name : S := (sSeq (sAsg 2 (sMt tJoin (sCon (.str "")) (sCons (sComp [("_law_x", 0)] (iRng1 (sCons (s2 oAdd (sCon (.int 1)) (s2 oMod (sVar 0) (sCon (.int 10)))) sNil)) (sCon (.bl true)) e__name_1) sNil))) (sSeq (sAsg 3 (s2 oAdd (sCon (.int 1)) (s2 oMod (s2 oFdiv (sVar 0) (sCon (.int 11))) (sN bLen (sCons (sVar 2) sNil))))) (sSeq (sRet (s2 oAdd (s2 oAdd (sSl (sVar 2) pNo (pAt (sVar 3))) (sN bStr (sCons (sVar 1) sNil))) (sSl (sVar 2) (pAt (sVar 3)) pNo))) sEnd)))
def g__name : G := fnG 4 b__name
theorem r__name {P : Program} {w : World} {K : PySem.W.Frag} {mg : Str → Option Value} {C : Ad} {base : Heap} {k : Nat} {f : Addr} (T : Txt K mg C) (cdv : Value) (A : Around) (outer : List PySem.Env) (s : Shared) (H : Hp) (E : XK) (hr : Room k (A.deeper (envOfC "_law_name" (defScope s__name) s.heap.objs.size f cdv))) :
  SB (cx0 P w K mg base ["_law_x", "_law_k", "_law_word", "_law_at"] "_law_name" s__name f cdv A outer s H E) W0 (defBody s__name) b__name := by
 have hu : (cx0 P w K mg base ["_law_x", "_law_k", "_law_word", "_law_at"] "_law_name" s__name f cdv A outer s H E).A.units + 60 < cLine := Nat.lt_of_le_of_lt (Nat.add_le_add_left (by decide) _) hr.units
 have nd := (sc__name).nd
 refine sb_cons ?_ ?_
 ·exact (ss_asg (i := 2) nd rfl (.inl v__name__word) (se_mt PySem.F.slot_str_join PySem.F.type_str_join mt_join pu_join (se_s pe_str) (sa_cons (SN.sem (sn_comp "_law_j" [("_law_x", 0)] rfl (by decide +kernel) (si_rng1 rfl (T.blt "range" (by decide +kernel)) (sa_cons (se_op op_addA pu_add (se_i pe_int) (se_op op_mod pu_mod (se_vV rfl (.inr (.inl v__name__x))) (se_i pe_int))) sa_nil st_BinOp)) (fun _ _ _ _ _ _ => sq_none) (fun _ _ _ _ _ _ => (se_ix ix_all pu_ix (se_s pe_str) (se_op op_mod pu_mod (se_op op_fdiv pu_fdiv (se_vV rfl (.inr (.inl (by kernel_rfl)))) (se_op op_addA pu_add (se_i pe_int) (se_op op_mulB pu_mul (se_i pe_int) (se_vV rfl (.inl (by kernel_rfl)))))) (se_i pe_int))))) comp_is) sa_nil st_ListComp)))
 refine sb_cons ?_ ?_
 ·exact (ss_asg (i := 3) nd rfl (.inl v__name__at) (se_op op_addA pu_add (se_i pe_int) (se_op op_mod pu_mod (se_op op_fdiv pu_fdiv (se_vV rfl (.inr (.inl v__name__x))) (se_i pe_int)) (se_cb (fun t ha => pe_callB call_lenA rfl (T.blt "len" (by decide +kernel)) PySem.boot_len ha (by decide +kernel) (by decide +kernel)) pu_len (sa_cons (se_v rfl (v__name__word)) sa_nil st_Name)))))
 refine sb_cons ?_ ?_
 ·exact (ss_ret (se_op op_addA pu_add (se_op op_addA pu_add (se_sl (se_v rfl (v__name__word)) sp_no (sp_at (Wx := W0) (se_v rfl (v__name__at)))) (se_cb (fun t ha => pe_callTy call_str_int rfl (T.blt "str" (by decide +kernel)) boot_str ha (by decide +kernel) (by decide +kernel)) pu_str (sa_cons (se_v rfl (v__name__k)) sa_nil st_Name))) (se_sl (se_v rfl (v__name__word)) (sp_at (Wx := W0) (se_v rfl (v__name__at))) sp_no)))
 exact sb_nil
abbrev s__row : Stmt := top 18
theorem sc__row : FnScope ["_law_k", "_law_xs", "_law_above", "_law_name_here", "_law_pick", "_law_froms", "_law_fold", "_law_wide", "_law_width", "_law_words"] ["_law_k", "_law_xs", "_law_above"] (defScope s__row) := ⟨rfl, rfl, rfl, by decide +kernel, rfl, by decide +kernel, by decide +kernel⟩
theorem v__row__k : (defScope s__row).names.lookup ("_law_k" : Str) = some .local := by kernel_rfl
theorem v__row__xs : (defScope s__row).names.lookup ("_law_xs" : Str) = some .local := by kernel_rfl
theorem v__row__above : (defScope s__row).names.lookup ("_law_above" : Str) = some .cell := by kernel_rfl
theorem v__row__name_here : (defScope s__row).names.lookup ("_law_name_here" : Str) = some .local := by kernel_rfl
theorem v__row__pick : (defScope s__row).names.lookup ("_law_pick" : Str) = some .local := by kernel_rfl
theorem v__row__froms : (defScope s__row).names.lookup ("_law_froms" : Str) = some .local := by kernel_rfl
theorem v__row__fold : (defScope s__row).names.lookup ("_law_fold" : Str) = some .local := by kernel_rfl
theorem v__row__wide : (defScope s__row).names.lookup ("_law_wide" : Str) = some .local := by kernel_rfl
theorem v__row__width : (defScope s__row).names.lookup ("_law_width" : Str) = some .local := by kernel_rfl
theorem v__row__words : (defScope s__row).names.lookup ("_law_words" : Str) = some .local := by kernel_rfl
def n__row_14 : S := (sSeq (sRet (sTup (sCons (sCon (.str "out")) (sCons (sVar 3) (sCons (sTup (sCons (s2 oIx (sVar 5) (sCon (.int 0))) sNil)) (sCons (sTup sNil) sNil)))))) sEnd)
def n__row_13 : S := (sSeq (sIf (s2 (oCmp .eq) (sVar 4) (sCon (.int 9))) (sSeq (sAsg 9 (sCall g__expr (sCons (s2 oIx (sVar 1) (sCon (.int 6))) (sCons (sCon (.str "tvw")) (sCons (s2 oAdd (sCon (.int 1)) (s2 oMod (s2 oIx (sVar 1) (sCon (.int 7))) (sCon (.int 35)))) sNil))))) (sSeq (sRet (sTup (sCons (sCon (.str "join")) (sCons (sVar 3) (sCons (sTup (sCons (s2 oIx (sVar 5) (sCon (.int 0))) (sCons (s2 oIx (sVar 5) (sCon (.int 1))) sNil))) (sCons (sN bTup (sCons (s2 oAdd (sLst (sCons (sN bStr (sCons (s2 oSub (sVar 7) (sCon (.int 1))) sNil)) sNil)) (sVar 9)) sNil)) sNil)))))) sEnd)) sEnd) n__row_14)
def n__row_12 : S := (sSeq (sIf (s2 (oCmp .eq) (sVar 4) (sCon (.int 8))) (sSeq (sRet (sTup (sCons (sCon (.str "gap")) (sCons (sVar 3) (sCons (sTup (sCons (s2 oIx (sVar 5) (sCon (.int 0))) sNil)) (sCons (sTup (sCons (sN bStr (sCons (sVar 7) sNil)) (sCons (sVar 6) sNil))) sNil)))))) sEnd) sEnd) n__row_13)
def n__row_11 : S := (sSeq (sIf (s2 (oCmp .eq) (sVar 4) (sCon (.int 7))) (sSeq (sAsg 8 (sN bMin (sCons (s2 oPow (sCon (.int 10)) (sCon (.int 12))) (sCons (s2 oAdd (sVar 7) (s2 oMod (s2 oMul (s2 oMul (s2 oIx (sVar 1) (sCon (.int 7))) (sCon (.int 48271))) (sCon (.int 7919))) (s2 oAdd (s2 oMul (sCon (.int 7)) (sVar 7)) (sCon (.int 1))))) sNil)))) (sSeq (sRet (sTup (sCons (sCon (.str "slide")) (sCons (sVar 3) (sCons (sTup (sCons (s2 oIx (sVar 5) (sCon (.int 0))) sNil)) (sCons (sTup (sCons (sN bStr (sCons (sVar 8) sNil)) (sCons (sN bStr (sCons (sVar 7) sNil)) (sCons (sVar 6) sNil)))) sNil)))))) sEnd)) sEnd) n__row_12)
def n__row_10 : S := (sSeq (sIf (s2 (oCmp .eq) (sVar 4) (sCon (.int 6))) (sSeq (sRet (sTup (sCons (sCon (.str "fixed")) (sCons (sVar 3) (sCons (sTup (sCons (s2 oIx (sVar 5) (sCon (.int 0))) sNil)) (sCons (sTup (sCons (sN bStr (sCons (sVar 7) sNil)) (sCons (sVar 6) sNil))) sNil)))))) sEnd) sEnd) n__row_11)
def n__row_9 : S := (sSeq (sIf (sOr (s2 (oCmp .eq) (sVar 4) (sCon (.int 4))) (s2 (oCmp .eq) (sVar 4) (sCon (.int 5)))) (sSeq (sRet (sTup (sCons (sCon (.str "pour")) (sCons (sVar 3) (sCons (sN bTup (sCons (sSl (sVar 5) pNo (pAt (s2 oAdd (sCon (.int 2)) (s2 oMod (s2 oIx (sVar 1) (sCon (.int 4))) (sCon (.int 7)))))) sNil)) (sCons (sTup sNil) sNil)))))) sEnd) sEnd) n__row_10)
def n__row_8 : S := (sSeq (sIf (s2 (oCmp .eq) (sVar 4) (sCon (.int 3))) (sSeq (sRet (sTup (sCons (sCon (.str "share")) (sCons (sVar 3) (sCons (sTup (sCons (s2 oIx (sVar 5) (sCon (.int 0))) sNil)) (sCons (sTup (sCons (sN bStr (sCons (s2 oMod (s2 oIx (sVar 1) (sCon (.int 5))) (s2 oAdd (sCon (.int 1)) (s2 oMod (s2 oIx (sVar 1) (sCon (.int 4))) (sCon (.int 8))))) sNil)) (sCons (sN bStr (sCons (s2 oAdd (sCon (.int 1)) (s2 oMod (s2 oIx (sVar 1) (sCon (.int 4))) (sCon (.int 8)))) sNil)) sNil))) sNil)))))) sEnd) sEnd) n__row_9)
def n__row_7 : S := (sSeq (sIf (s2 (oCmp .eq) (sVar 4) (sCon (.int 2))) (sSeq (sRet (sTup (sCons (sCon (.str "turn")) (sCons (sVar 3) (sCons (sTup (sCons (s2 oIx (sVar 5) (sCon (.int 0))) sNil)) (sCons (sN bTup (sCons (sCall g__expr (sCons (s2 oIx (sVar 1) (sCon (.int 6))) (sCons (sCon (.str "tv")) (sCons (s2 oAdd (sCon (.int 1)) (s2 oMod (s2 oIx (sVar 1) (sCon (.int 7))) (sCon (.int 36)))) sNil)))) sNil)) sNil)))))) sEnd) sEnd) n__row_8)
def n__row_6 : S := (sSeq (sIf (s2 (oCmp .eq) (sVar 4) (sCon (.int 1))) (sSeq (sRet (sTup (sCons (sCon (.str "keep")) (sCons (sVar 3) (sCons (sTup (sCons (s2 oIx (sVar 5) (sCon (.int 0))) sNil)) (sCons (sN bTup (sCons (sCall g__cond (sCons (s2 oIx (sVar 1) (sCon (.int 6))) (sCons (s2 oAdd (sCon (.int 3)) (s2 oMod (s2 oIx (sVar 1) (sCon (.int 7))) (sCon (.int 34)))) sNil))) sNil)) sNil)))))) sEnd) sEnd) n__row_7)
def n__row_5 : S := (sSeq (sAsg 7 (s2 oAdd (sCon (.int 1)) (s2 oMod (s2 oMul (s2 oMul (s2 oIx (sVar 1) (sCon (.int 5))) (sCon (.int 48271))) (sCon (.int 7919))) (s2 oIx (sLst (sCons (sCon (.int 9)) (sCons (s2 oPow (sCon (.int 10)) (sCon (.int 6))) (sCons (s2 oPow (sCon (.int 10)) (sCon (.int 12))) sNil)))) (s2 oMod (s2 oIx (sVar 1) (sCon (.int 6))) (sCon (.int 3))))))) n__row_6)
def n__row_4 : S := (sSeq (sAsg 6 (s2 oIx (sLst (sCons (sCon (.str "sum")) (sCons (sCon (.str "count")) (sCons (sCon (.str "most")) (sCons (sCon (.str "least")) sNil))))) (s2 oMod (s2 oIx (sVar 1) (sCon (.int 4))) (sCon (.int 4))))) n__row_5)
def e__row_1 : E := (s2 oIx (sVar 1) (s2 oMod (sVar 0) (sN bLen (sCons (sVar 1) sNil))))
def n__row_3 : S := (sSeq (sAsg 5 (sComp [("_law_above", 2)] (iLst (sSl (sVar 1) (pAt (sCon (.int 2))) (pAt (sCon (.int 10))))) (sCon (.bl true)) e__row_1)) n__row_4)
def n__row_2 : S := (sSeq (sIf (sOr (s2 (oCmp .eq) (sVar 2) (sLst sNil)) (s2 (oCmp .eq) (sVar 4) (sCon (.int 0)))) (sSeq (sRet (sTup (sCons (sCon (.str "in")) (sCons (sVar 3) (sCons (sTup sNil) (sCons (sTup sNil) sNil)))))) sEnd) sEnd) n__row_3)
def n__row_1 : S := (sSeq (sAsg 4 (s2 oMod (s2 oIx (sVar 1) (sCon (.int 1))) (sCon (.int 11)))) n__row_2)
def b__row : S := (sSeq (sAsg 3 (sCall g__name (sCons (s2 oIx (sVar 1) (sCon (.int 0))) (sCons (sVar 0) sNil)))) n__row_1)
def g__row : G := fnG 10 b__row
theorem r__row {P : Program} {w : World} {K : PySem.W.Frag} {mg : Str → Option Value} {C : Ad} {base : Heap} {k : Nat} {f : Addr} (T : Txt K mg C) (a__expr : AtG P w K mg base k "_law_expr" 3 g__expr) (a__cond : AtG P w K mg base k "_law_cond" 2 g__cond) (a__name : AtG P w K mg base k "_law_name" 2 g__name) (cdv : Value) (A : Around) (outer : List PySem.Env) (s : Shared) (H : Hp) (E : XK) (hr : Room k (A.deeper (envOfC "_law_row" (defScope s__row) s.heap.objs.size f cdv))) :
  SB (cx0 P w K mg base ["_law_k", "_law_xs", "_law_above", "_law_name_here", "_law_pick", "_law_froms", "_law_fold", "_law_wide", "_law_width", "_law_words"] "_law_row" s__row f cdv A outer s H E) W0 (defBody s__row) b__row := by
 have hu : (cx0 P w K mg base ["_law_k", "_law_xs", "_law_above", "_law_name_here", "_law_pick", "_law_froms", "_law_fold", "_law_wide", "_law_width", "_law_words"] "_law_row" s__row f cdv A outer s H E).A.units + 60 < cLine := Nat.lt_of_le_of_lt (Nat.add_le_add_left (by decide) _) hr.units
 have nd := (sc__row).nd
 refine sb_cons ?_ ?_
 ·exact (ss_asg (i := 3) nd rfl (.inl v__row__name_here) (se_call a__name hr rfl (sa_cons (se_ix ix_all pu_ix (se_v rfl (v__row__xs)) (se_i pe_int)) (sa_cons (se_v rfl (v__row__k)) sa_nil st_Name) st_Subscript) (cnt_cons (cnt_cons cnt_nil))))
 refine sb_cons ?_ ?_
 ·exact (ss_asg (i := 4) nd rfl (.inl v__row__pick) (se_op op_mod pu_mod (se_ix ix_all pu_ix (se_v rfl (v__row__xs)) (se_i pe_int)) (se_i pe_int)))
 refine sb_cons ?_ ?_
 ·exact (ss_if (SW.st (sw_or (st_cmp (cp_ok hu .eq) pu_cmp (se_vV rfl (.inr (.inl v__row__above))) (SN.sem (sn_lst sa_nil) lst_is)) (sw_or1 (st_cmp (cp_ok hu .eq) pu_cmp (se_v rfl (v__row__pick)) (se_i pe_int))))) (sb_cons (ss_ret (se_tup (sa_cons (se_s pe_str) (sa_cons (se_v rfl (v__row__name_here)) (sa_cons (se_tup sa_nil) (sa_cons (se_tup sa_nil) sa_nil st_Tuple) st_Tuple) st_Name) st_Constant))) sb_nil) sb_nil)
 refine sb_cons ?_ ?_
 ·exact (ss_asgC "_law_x" [("_law_above", 2)] (i := 5) nd rfl (.inl v__row__froms) rfl (by decide +kernel) (si_lst (se_sl (se_v rfl (v__row__xs)) (sp_at (Wx := W0) (se_i pe_int)) (sp_at (Wx := W0) (se_i pe_int)))) (fun _ _ _ _ _ _ => sq_none) (fun _ _ _ _ _ _ => (se_ix ix_all pu_ix (se_vV rfl (.inr (.inl (by kernel_rfl)))) (se_op op_mod pu_mod (se_vV rfl (.inl (by kernel_rfl))) (se_cb (fun t ha => pe_callB call_lenA rfl (T.blt "len" (by decide +kernel)) PySem.boot_len ha (by decide +kernel) (by decide +kernel)) pu_len (sa_cons (se_vV rfl (.inr (.inl (by kernel_rfl)))) sa_nil st_Name))))))
 refine sb_cons ?_ ?_
 ·exact (ss_asg (i := 6) nd rfl (.inl v__row__fold) (se_ix ix_all pu_ix (SN.sem (sn_lst (sa_cons (se_s pe_str) (sa_cons (se_s pe_str) (sa_cons (se_s pe_str) (sa_cons (se_s pe_str) sa_nil st_Constant) st_Constant) st_Constant) st_Constant)) lst_is) (se_op op_mod pu_mod (se_ix ix_all pu_ix (se_v rfl (v__row__xs)) (se_i pe_int)) (se_i pe_int))))
 refine sb_cons ?_ ?_
 ·exact (ss_asg (i := 7) nd rfl (.inl v__row__wide) (se_op op_addA pu_add (se_i pe_int) (se_op op_mod pu_mod (se_op op_mulB pu_mul (se_op op_mulB pu_mul (se_ix ix_all pu_ix (se_v rfl (v__row__xs)) (se_i pe_int)) (se_i pe_int)) (se_i pe_int)) (se_ix ix_all pu_ix (SN.sem (sn_lst (sa_cons (se_i pe_int) (sa_cons (se_op op_pow pu_pow (se_i pe_int) (se_i pe_int)) (sa_cons (se_op op_pow pu_pow (se_i pe_int) (se_i pe_int)) sa_nil st_BinOp) st_BinOp) st_Constant)) lst_is) (se_op op_mod pu_mod (se_ix ix_all pu_ix (se_v rfl (v__row__xs)) (se_i pe_int)) (se_i pe_int))))))
 refine sb_cons ?_ ?_
 ·exact (ss_if (st_cmp (cp_ok hu .eq) pu_cmp (se_v rfl (v__row__pick)) (se_i pe_int)) (sb_cons (ss_ret (se_tup (sa_cons (se_s pe_str) (sa_cons (se_v rfl (v__row__name_here)) (sa_cons (se_tup (sa_cons (se_ix ix_all pu_ix (se_v rfl (v__row__froms)) (se_i pe_int)) sa_nil st_Subscript)) (sa_cons (se_cb (fun t ha => pe_callTy call_tuple_of rfl (T.blt "tuple" (by decide +kernel)) boot_tuple ha (by decide +kernel) (by decide +kernel)) pu_tup (sa_cons (se_call a__cond hr rfl (sa_cons (se_ix ix_all pu_ix (se_v rfl (v__row__xs)) (se_i pe_int)) (sa_cons (se_op op_addA pu_add (se_i pe_int) (se_op op_mod pu_mod (se_ix ix_all pu_ix (se_v rfl (v__row__xs)) (se_i pe_int)) (se_i pe_int))) sa_nil st_BinOp) st_Subscript) (cnt_cons (cnt_cons cnt_nil))) sa_nil st_Call)) sa_nil st_Call) st_Tuple) st_Name) st_Constant))) sb_nil) sb_nil)
 refine sb_cons ?_ ?_
 ·exact (ss_if (st_cmp (cp_ok hu .eq) pu_cmp (se_v rfl (v__row__pick)) (se_i pe_int)) (sb_cons (ss_ret (se_tup (sa_cons (se_s pe_str) (sa_cons (se_v rfl (v__row__name_here)) (sa_cons (se_tup (sa_cons (se_ix ix_all pu_ix (se_v rfl (v__row__froms)) (se_i pe_int)) sa_nil st_Subscript)) (sa_cons (se_cb (fun t ha => pe_callTy call_tuple_of rfl (T.blt "tuple" (by decide +kernel)) boot_tuple ha (by decide +kernel) (by decide +kernel)) pu_tup (sa_cons (se_call a__expr hr rfl (sa_cons (se_ix ix_all pu_ix (se_v rfl (v__row__xs)) (se_i pe_int)) (sa_cons (se_s pe_str) (sa_cons (se_op op_addA pu_add (se_i pe_int) (se_op op_mod pu_mod (se_ix ix_all pu_ix (se_v rfl (v__row__xs)) (se_i pe_int)) (se_i pe_int))) sa_nil st_BinOp) st_Constant) st_Subscript) (cnt_cons (cnt_cons (cnt_cons cnt_nil)))) sa_nil st_Call)) sa_nil st_Call) st_Tuple) st_Name) st_Constant))) sb_nil) sb_nil)
 refine sb_cons ?_ ?_
 ·exact (ss_if (st_cmp (cp_ok hu .eq) pu_cmp (se_v rfl (v__row__pick)) (se_i pe_int)) (sb_cons (ss_ret (se_tup (sa_cons (se_s pe_str) (sa_cons (se_v rfl (v__row__name_here)) (sa_cons (se_tup (sa_cons (se_ix ix_all pu_ix (se_v rfl (v__row__froms)) (se_i pe_int)) sa_nil st_Subscript)) (sa_cons (se_tup (sa_cons (se_cb (fun t ha => pe_callTy call_str_int rfl (T.blt "str" (by decide +kernel)) boot_str ha (by decide +kernel) (by decide +kernel)) pu_str (sa_cons (se_op op_mod pu_mod (se_ix ix_all pu_ix (se_v rfl (v__row__xs)) (se_i pe_int)) (se_op op_addA pu_add (se_i pe_int) (se_op op_mod pu_mod (se_ix ix_all pu_ix (se_v rfl (v__row__xs)) (se_i pe_int)) (se_i pe_int)))) sa_nil st_BinOp)) (sa_cons (se_cb (fun t ha => pe_callTy call_str_int rfl (T.blt "str" (by decide +kernel)) boot_str ha (by decide +kernel) (by decide +kernel)) pu_str (sa_cons (se_op op_addA pu_add (se_i pe_int) (se_op op_mod pu_mod (se_ix ix_all pu_ix (se_v rfl (v__row__xs)) (se_i pe_int)) (se_i pe_int))) sa_nil st_BinOp)) sa_nil st_Call) st_Call)) sa_nil st_Tuple) st_Tuple) st_Name) st_Constant))) sb_nil) sb_nil)
 refine sb_cons ?_ ?_
 ·exact (ss_if (SW.st (sw_or (st_cmp (cp_ok hu .eq) pu_cmp (se_v rfl (v__row__pick)) (se_i pe_int)) (sw_or1 (st_cmp (cp_ok hu .eq) pu_cmp (se_v rfl (v__row__pick)) (se_i pe_int))))) (sb_cons (ss_ret (se_tup (sa_cons (se_s pe_str) (sa_cons (se_v rfl (v__row__name_here)) (sa_cons (se_cb (fun t ha => pe_callTy call_tuple_of rfl (T.blt "tuple" (by decide +kernel)) boot_tuple ha (by decide +kernel) (by decide +kernel)) pu_tup (sa_cons (se_sl (se_v rfl (v__row__froms)) sp_no (sp_at (Wx := W0) (se_op op_addA pu_add (se_i pe_int) (se_op op_mod pu_mod (se_ix ix_all pu_ix (se_v rfl (v__row__xs)) (se_i pe_int)) (se_i pe_int))))) sa_nil st_Subscript)) (sa_cons (se_tup sa_nil) sa_nil st_Tuple) st_Call) st_Name) st_Constant))) sb_nil) sb_nil)
 refine sb_cons ?_ ?_
 ·exact (ss_if (st_cmp (cp_ok hu .eq) pu_cmp (se_v rfl (v__row__pick)) (se_i pe_int)) (sb_cons (ss_ret (se_tup (sa_cons (se_s pe_str) (sa_cons (se_v rfl (v__row__name_here)) (sa_cons (se_tup (sa_cons (se_ix ix_all pu_ix (se_v rfl (v__row__froms)) (se_i pe_int)) sa_nil st_Subscript)) (sa_cons (se_tup (sa_cons (se_cb (fun t ha => pe_callTy call_str_int rfl (T.blt "str" (by decide +kernel)) boot_str ha (by decide +kernel) (by decide +kernel)) pu_str (sa_cons (se_v rfl (v__row__wide)) sa_nil st_Name)) (sa_cons (se_v rfl (v__row__fold)) sa_nil st_Name) st_Call)) sa_nil st_Tuple) st_Tuple) st_Name) st_Constant))) sb_nil) sb_nil)
 refine sb_cons ?_ ?_
 ·exact (ss_if (st_cmp (cp_ok hu .eq) pu_cmp (se_v rfl (v__row__pick)) (se_i pe_int)) (sb_cons (ss_asg (i := 8) nd rfl (.inl v__row__width) (se_cb (fun t ha => pe_callB (call_min2 rfl) rfl (T.blt "min" (by decide +kernel)) boot_min ha (by decide +kernel) (by decide +kernel)) pu_min (sa_cons (se_op op_pow pu_pow (se_i pe_int) (se_i pe_int)) (sa_cons (se_op op_addA pu_add (se_v rfl (v__row__wide)) (se_op op_mod pu_mod (se_op op_mulB pu_mul (se_op op_mulB pu_mul (se_ix ix_all pu_ix (se_v rfl (v__row__xs)) (se_i pe_int)) (se_i pe_int)) (se_i pe_int)) (se_op op_addA pu_add (se_op op_mulB pu_mul (se_i pe_int) (se_v rfl (v__row__wide))) (se_i pe_int)))) sa_nil st_BinOp) st_BinOp))) (sb_cons (ss_ret (se_tup (sa_cons (se_s pe_str) (sa_cons (se_v rfl (v__row__name_here)) (sa_cons (se_tup (sa_cons (se_ix ix_all pu_ix (se_v rfl (v__row__froms)) (se_i pe_int)) sa_nil st_Subscript)) (sa_cons (se_tup (sa_cons (se_cb (fun t ha => pe_callTy call_str_int rfl (T.blt "str" (by decide +kernel)) boot_str ha (by decide +kernel) (by decide +kernel)) pu_str (sa_cons (se_v rfl (v__row__width)) sa_nil st_Name)) (sa_cons (se_cb (fun t ha => pe_callTy call_str_int rfl (T.blt "str" (by decide +kernel)) boot_str ha (by decide +kernel) (by decide +kernel)) pu_str (sa_cons (se_v rfl (v__row__wide)) sa_nil st_Name)) (sa_cons (se_v rfl (v__row__fold)) sa_nil st_Name) st_Call) st_Call)) sa_nil st_Tuple) st_Tuple) st_Name) st_Constant))) sb_nil)) sb_nil)
 refine sb_cons ?_ ?_
 ·exact (ss_if (st_cmp (cp_ok hu .eq) pu_cmp (se_v rfl (v__row__pick)) (se_i pe_int)) (sb_cons (ss_ret (se_tup (sa_cons (se_s pe_str) (sa_cons (se_v rfl (v__row__name_here)) (sa_cons (se_tup (sa_cons (se_ix ix_all pu_ix (se_v rfl (v__row__froms)) (se_i pe_int)) sa_nil st_Subscript)) (sa_cons (se_tup (sa_cons (se_cb (fun t ha => pe_callTy call_str_int rfl (T.blt "str" (by decide +kernel)) boot_str ha (by decide +kernel) (by decide +kernel)) pu_str (sa_cons (se_v rfl (v__row__wide)) sa_nil st_Name)) (sa_cons (se_v rfl (v__row__fold)) sa_nil st_Name) st_Call)) sa_nil st_Tuple) st_Tuple) st_Name) st_Constant))) sb_nil) sb_nil)
 refine sb_cons ?_ ?_
 ·exact (ss_if (st_cmp (cp_ok hu .eq) pu_cmp (se_v rfl (v__row__pick)) (se_i pe_int)) (sb_cons (ss_asg (i := 9) nd rfl (.inl v__row__words) (se_call a__expr hr rfl (sa_cons (se_ix ix_all pu_ix (se_v rfl (v__row__xs)) (se_i pe_int)) (sa_cons (se_s pe_str) (sa_cons (se_op op_addA pu_add (se_i pe_int) (se_op op_mod pu_mod (se_ix ix_all pu_ix (se_v rfl (v__row__xs)) (se_i pe_int)) (se_i pe_int))) sa_nil st_BinOp) st_Constant) st_Subscript) (cnt_cons (cnt_cons (cnt_cons cnt_nil))))) (sb_cons (ss_ret (se_tup (sa_cons (se_s pe_str) (sa_cons (se_v rfl (v__row__name_here)) (sa_cons (se_tup (sa_cons (se_ix ix_all pu_ix (se_v rfl (v__row__froms)) (se_i pe_int)) (sa_cons (se_ix ix_all pu_ix (se_v rfl (v__row__froms)) (se_i pe_int)) sa_nil st_Subscript) st_Subscript)) (sa_cons (se_cb (fun t ha => pe_callTy call_tuple_of rfl (T.blt "tuple" (by decide +kernel)) boot_tuple ha (by decide +kernel) (by decide +kernel)) pu_tup (sa_cons (se_op op_addA pu_add (SN.sem (sn_lst (sa_cons (se_cb (fun t ha => pe_callTy call_str_int rfl (T.blt "str" (by decide +kernel)) boot_str ha (by decide +kernel) (by decide +kernel)) pu_str (sa_cons (se_op op_sub pu_sub (se_v rfl (v__row__wide)) (se_i pe_int)) sa_nil st_BinOp)) sa_nil st_Call)) lst_is) (se_v rfl (v__row__words))) sa_nil st_BinOp)) sa_nil st_Call) st_Tuple) st_Name) st_Constant))) sb_nil)) sb_nil)
 refine sb_cons ?_ ?_
 ·exact (ss_ret (se_tup (sa_cons (se_s pe_str) (sa_cons (se_v rfl (v__row__name_here)) (sa_cons (se_tup (sa_cons (se_ix ix_all pu_ix (se_v rfl (v__row__froms)) (se_i pe_int)) sa_nil st_Subscript)) (sa_cons (se_tup sa_nil) sa_nil st_Tuple) st_Tuple) st_Name) st_Constant)))
 exact sb_nil
abbrev s__rows : Stmt := top 19
theorem sc__rows : FnScope ["_law_cells_here", "_law_rows_here", "_law_above", "_law_k", "_law_row_here"] ["_law_cells_here"] (defScope s__rows) := ⟨rfl, rfl, rfl, by decide +kernel, rfl, by decide +kernel, by decide +kernel⟩
theorem v__rows__cells_here : (defScope s__rows).names.lookup ("_law_cells_here" : Str) = some .local := by kernel_rfl
theorem v__rows__rows_here : (defScope s__rows).names.lookup ("_law_rows_here" : Str) = some .local := by kernel_rfl
theorem v__rows__above : (defScope s__rows).names.lookup ("_law_above" : Str) = some .local := by kernel_rfl
theorem v__rows__k : (defScope s__rows).names.lookup ("_law_k" : Str) = some .local := by kernel_rfl
theorem v__rows__row_here : (defScope s__rows).names.lookup ("_law_row_here" : Str) = some .local := by kernel_rfl
def l__rows_1 : S := (sSeq (sAsg 4 (sCall g__row (sCons (sVar 3) (sCons (sCall g__drawn (sCons (s2 oAdd (s2 oIx (sVar 0) (sVar 3)) (s2 oMul (sCon (.int 31)) (sVar 3))) (sCons (sCon (.int 11)) sNil))) (sCons (sVar 2) sNil))))) (sSeq (sApp 1 (sVar 4)) (sSeq (sIf (s2 (oCmp .ne) (s2 oIx (sVar 4) (sCon (.int 0))) (sCon (.str "out"))) (sSeq (sAppC (sVar 2) (s2 oIx (sVar 4) (sCon (.int 1)))) sEnd) sEnd) sEnd)))
def b__rows : S := (sSeq (sMine 1 (sLst sNil)) (sSeq (sAsg 2 (sCell (sLst sNil))) (sSeq (sFor 3 (iRng1 (sCons (sN bLen (sCons (sVar 0) sNil)) sNil)) l__rows_1) (sSeq (sFrz 1) (sSeq (sRet (sVar 1)) sEnd)))))
def g__rows : G := fnG 5 b__rows
theorem r__rows {P : Program} {w : World} {K : PySem.W.Frag} {mg : Str → Option Value} {C : Ad} {base : Heap} {k : Nat} {f : Addr} (T : Txt K mg C) (a__drawn : AtG P w K mg base k "_law_drawn" 2 g__drawn) (a__row : AtG P w K mg base k "_law_row" 3 g__row) (cdv : Value) (A : Around) (outer : List PySem.Env) (s : Shared) (H : Hp) (E : XK) (hr : Room k (A.deeper (envOfC "_law_rows" (defScope s__rows) s.heap.objs.size f cdv))) :
  SB (cx0 P w K mg base ["_law_cells_here", "_law_rows_here", "_law_above", "_law_k", "_law_row_here"] "_law_rows" s__rows f cdv A outer s H E) W0 (defBody s__rows) b__rows := by
 have hu : (cx0 P w K mg base ["_law_cells_here", "_law_rows_here", "_law_above", "_law_k", "_law_row_here"] "_law_rows" s__rows f cdv A outer s H E).A.units + 60 < cLine := Nat.lt_of_le_of_lt (Nat.add_le_add_left (by decide) _) hr.units
 have nd := (sc__rows).nd
 refine sb_cons ?_ ?_
 ·exact (ss_mine (i := 1) nd rfl (.inl v__rows__rows_here) (sn_lst sa_nil))
 refine sb_cons ?_ ?_
 ·exact (ss_asg (i := 2) nd rfl (.inl v__rows__above) (se_cell (sn_lst sa_nil)))
 refine sb_cons ?_ ?_
 ·exact (ss_for PassesOwn.never rfl nd rfl (.inl v__rows__k) (si_rng1 rfl (T.blt "range" (by decide +kernel)) (sa_cons (se_cb (fun t ha => pe_callB call_lenA rfl (T.blt "len" (by decide +kernel)) PySem.boot_len ha (by decide +kernel) (by decide +kernel)) pu_len (sa_cons (se_v rfl (v__rows__cells_here)) sa_nil st_Name)) sa_nil st_Call)) (sb_cons (ss_asg (i := 4) nd rfl (.inl v__rows__row_here) (se_call a__row hr rfl (sa_cons (se_v rfl (v__rows__k)) (sa_cons (se_call a__drawn hr rfl (sa_cons (se_op op_addA pu_add (se_ix ix_all pu_ix (se_v rfl (v__rows__cells_here)) (se_v rfl (v__rows__k))) (se_op op_mulB pu_mul (se_i pe_int) (se_v rfl (v__rows__k)))) (sa_cons (se_i pe_int) sa_nil st_Constant) st_BinOp) (cnt_cons (cnt_cons cnt_nil))) (sa_cons (se_v rfl (v__rows__above)) sa_nil st_Name) st_Call) st_Name) (cnt_cons (cnt_cons (cnt_cons cnt_nil))))) (sb_cons (ss_app rfl (.inl v__rows__rows_here) (se_v rfl (v__rows__row_here))) (sb_cons (ss_if (st_cmp (cp_ok hu .ne) pu_cmp (se_ix ix_all pu_ix (se_v rfl (v__rows__row_here)) (se_i pe_int)) (se_s pe_str)) (sb_cons (ss_appC (se_v rfl (v__rows__above)) (se_ix ix_all pu_ix (se_v rfl (v__rows__row_here)) (se_i pe_int))) sb_nil) sb_nil) sb_nil))))
 refine sb_frz ?_
 refine sb_cons ?_ ?_
 ·exact (ss_ret (se_v rfl (v__rows__rows_here)))
 exact sb_nil
abbrev s__lengths : Stmt := top 21
theorem sc__lengths : FnScope ["_law_rows_here", "_law_cell", "_law_start", "_law_lengths_here", "_law_k", "_law_x"] ["_law_rows_here", "_law_cell"] (defScope s__lengths) := ⟨rfl, rfl, rfl, by decide +kernel, rfl, by decide +kernel, by decide +kernel⟩
theorem v__lengths__rows_here : (defScope s__lengths).names.lookup ("_law_rows_here" : Str) = some .local := by kernel_rfl
theorem v__lengths__cell : (defScope s__lengths).names.lookup ("_law_cell" : Str) = some .local := by kernel_rfl
theorem v__lengths__start : (defScope s__lengths).names.lookup ("_law_start" : Str) = some .local := by kernel_rfl
theorem v__lengths__lengths_here : (defScope s__lengths).names.lookup ("_law_lengths_here" : Str) = some .local := by kernel_rfl
theorem v__lengths__k : (defScope s__lengths).names.lookup ("_law_k" : Str) = some .local := by kernel_rfl
theorem v__lengths__x : (defScope s__lengths).names.lookup ("_law_x" : Str) = some .local := by kernel_rfl
def n__lengths_4 : S := (sSeq (sRet (sVar 3)) sEnd)
def m145__lengths_2 : S := (sSeq (sIf (sAnd (s2 (oCmp .eq) (s2 oIx (s2 oIx (sVar 0) (sVar 4)) (sCon (.int 0))) (sCon (.str "in"))) (s2 (oCmp .eq) (s2 oMod (sVar 5) (sCon (.int 11))) (sCon (.int 3)))) (sSeq (sDPutS (sVar 3) (s2 oIx (s2 oIx (sVar 0) (sVar 4)) (sCon (.int 1))) (s2 oIx (sLst (sCons (sCon (.int 2000)) (sCons (sCon (.int 2001)) (sCons (s2 oAdd (sCon (.int 1000)) (s2 oMod (s2 oFdiv (sVar 5) (sCon (.int 11))) (sCon (.int 1004)))) (sCons (s2 oMod (s2 oAdd (sVar 1) (sVar 5)) (s2 oPow (sCon (.int 10)) (sCon (.int 60)))) sNil))))) (s2 oMod (s2 oFdiv (sVar 5) (sCon (.int 11))) (sCon (.int 4))))) sEnd) sEnd) sEnd)
def m145__lengths_1 : S := (sSeq (sIf (sAnd (s2 (oCmp .eq) (s2 oIx (s2 oIx (sVar 0) (sVar 4)) (sCon (.int 0))) (sCon (.str "in"))) (s2 (oCmp .gt) (s2 oMod (sVar 5) (sCon (.int 5))) (sCon (.int 0)))) (sSeq (sDPutS (sVar 3) (s2 oIx (s2 oIx (sVar 0) (sVar 4)) (sCon (.int 1))) (s2 oMod (s2 oFdiv (sVar 5) (sCon (.int 5))) (sCon (.int 10)))) sEnd) sEnd) m145__lengths_2)
def l__lengths_1 : S := (sSeq (sAsg 5 (s2 oIx (sCall g__drawn (sCons (s2 oAdd (sVar 1) (s2 oMul (sCon (.int 7)) (sVar 4))) (sCons (sCon (.int 3)) sNil))) (sCon (.int 2)))) m145__lengths_1)
def n__lengths_3 : S := (sSeq (sFor 4 (iRng1 (sCons (sN bLen (sCons (sVar 0) sNil)) sNil)) l__lengths_1) n__lengths_4)
def n__lengths_2 : S := (sSeq (sAsg 3 (sDct pNil)) n__lengths_3)
def n__lengths_1 : S := (sSeq (sIf (s2 (oCmp .eq) (s2 oMod (sVar 2) (sCon (.int 4))) (sCon (.int 1))) (sSeq (sRet (sDct (pCons (s2 oIx (s2 oIx (sVar 0) (sCon (.int 0))) (sCon (.int 1))) (s2 oIx (sLst (sCons (sCon (.int 2000)) (sCons (sCon (.int 1000)) (sCons (sCon (.int 500)) (sCons (sCon (.int 2001)) (sCons (sCon (.int 667)) (sCons (sCon (.int 45)) sNil))))))) (s2 oMod (s2 oFdiv (sVar 2) (sCon (.int 4))) (sCon (.int 6)))) pNil))) sEnd) sEnd) n__lengths_2)
def b__lengths : S := (sSeq (sAsg 2 (s2 oIx (sCall g__drawn (sCons (sVar 1) (sCons (sCon (.int 3)) sNil))) (sCon (.int 2)))) n__lengths_1)
def g__lengths : G := fnG 6 b__lengths
theorem r__lengths {P : Program} {w : World} {K : PySem.W.Frag} {mg : Str → Option Value} {C : Ad} {base : Heap} {k : Nat} {f : Addr} (T : Txt K mg C) (a__drawn : AtG P w K mg base k "_law_drawn" 2 g__drawn) (cdv : Value) (A : Around) (outer : List PySem.Env) (s : Shared) (H : Hp) (E : XK) (hr : Room k (A.deeper (envOfC "_law_lengths" (defScope s__lengths) s.heap.objs.size f cdv))) :
  SB (cx0 P w K mg base ["_law_rows_here", "_law_cell", "_law_start", "_law_lengths_here", "_law_k", "_law_x"] "_law_lengths" s__lengths f cdv A outer s H E) W0 (defBody s__lengths) b__lengths := by
 have hu : (cx0 P w K mg base ["_law_rows_here", "_law_cell", "_law_start", "_law_lengths_here", "_law_k", "_law_x"] "_law_lengths" s__lengths f cdv A outer s H E).A.units + 60 < cLine := Nat.lt_of_le_of_lt (Nat.add_le_add_left (by decide) _) hr.units
 have nd := (sc__lengths).nd
 refine sb_cons ?_ ?_
 ·exact (ss_asg (i := 2) nd rfl (.inl v__lengths__start) (se_ix ix_all pu_ix (se_call a__drawn hr rfl (sa_cons (se_v rfl (v__lengths__cell)) (sa_cons (se_i pe_int) sa_nil st_Constant) st_Name) (cnt_cons (cnt_cons cnt_nil))) (se_i pe_int)))
 refine sb_cons ?_ ?_
 ·exact (ss_if (st_cmp (cp_ok hu .eq) pu_cmp (se_op op_mod pu_mod (se_v rfl (v__lengths__start)) (se_i pe_int)) (se_i pe_int)) (sb_cons (ss_ret (se_dct (sps_cons (se_ix ix_all pu_ix (se_ix ix_all pu_ix (se_v rfl (v__lengths__rows_here)) (se_i pe_int)) (se_i pe_int)) (se_ix ix_all pu_ix (SN.sem (sn_lst (sa_cons (se_i pe_int) (sa_cons (se_i pe_int) (sa_cons (se_i pe_int) (sa_cons (se_i pe_int) (sa_cons (se_i pe_int) (sa_cons (se_i pe_int) sa_nil st_Constant) st_Constant) st_Constant) st_Constant) st_Constant) st_Constant)) lst_is) (se_op op_mod pu_mod (se_op op_fdiv pu_fdiv (se_v rfl (v__lengths__start)) (se_i pe_int)) (se_i pe_int))) sps_nil))) sb_nil) sb_nil)
 refine sb_cons ?_ ?_
 ·exact (ss_asg (i := 3) nd rfl (.inl v__lengths__lengths_here) se_dct0)
 refine sb_cons ?_ ?_
 ·exact (ss_for PassesOwn.never rfl nd rfl (.inl v__lengths__k) (si_rng1 rfl (T.blt "range" (by decide +kernel)) (sa_cons (se_cb (fun t ha => pe_callB call_lenA rfl (T.blt "len" (by decide +kernel)) PySem.boot_len ha (by decide +kernel) (by decide +kernel)) pu_len (sa_cons (se_v rfl (v__lengths__rows_here)) sa_nil st_Name)) sa_nil st_Call)) (sb_cons (ss_asg (i := 5) nd rfl (.inl v__lengths__x) (se_ix ix_all pu_ix (se_call a__drawn hr rfl (sa_cons (se_op op_addA pu_add (se_v rfl (v__lengths__cell)) (se_op op_mulB pu_mul (se_i pe_int) (se_v rfl (v__lengths__k)))) (sa_cons (se_i pe_int) sa_nil st_Constant) st_BinOp) (cnt_cons (cnt_cons cnt_nil))) (se_i pe_int))) (sb_cons (ss_if (SW.st (sw_and (st_cmp (cp_ok hu .eq) pu_cmp (se_ix ix_all pu_ix (se_ix ix_all pu_ix (se_v rfl (v__lengths__rows_here)) (se_v rfl (v__lengths__k))) (se_i pe_int)) (se_s pe_str)) (sw_and1 (st_cmp (cp_ok hu .gt) pu_cmp (se_op op_mod pu_mod (se_v rfl (v__lengths__x)) (se_i pe_int)) (se_i pe_int))))) (sb_cons (ss_dput hu (se_v rfl (v__lengths__lengths_here)) (se_ix ix_all pu_ix (se_ix ix_all pu_ix (se_v rfl (v__lengths__rows_here)) (se_v rfl (v__lengths__k))) (se_i pe_int)) (se_op op_mod pu_mod (se_op op_fdiv pu_fdiv (se_v rfl (v__lengths__x)) (se_i pe_int)) (se_i pe_int))) sb_nil) sb_nil) (sb_cons (ss_if (SW.st (sw_and (st_cmp (cp_ok hu .eq) pu_cmp (se_ix ix_all pu_ix (se_ix ix_all pu_ix (se_v rfl (v__lengths__rows_here)) (se_v rfl (v__lengths__k))) (se_i pe_int)) (se_s pe_str)) (sw_and1 (st_cmp (cp_ok hu .eq) pu_cmp (se_op op_mod pu_mod (se_v rfl (v__lengths__x)) (se_i pe_int)) (se_i pe_int))))) (sb_cons (ss_dput hu (se_v rfl (v__lengths__lengths_here)) (se_ix ix_all pu_ix (se_ix ix_all pu_ix (se_v rfl (v__lengths__rows_here)) (se_v rfl (v__lengths__k))) (se_i pe_int)) (se_ix ix_all pu_ix (SN.sem (sn_lst (sa_cons (se_i pe_int) (sa_cons (se_i pe_int) (sa_cons (se_op op_addA pu_add (se_i pe_int) (se_op op_mod pu_mod (se_op op_fdiv pu_fdiv (se_v rfl (v__lengths__x)) (se_i pe_int)) (se_i pe_int))) (sa_cons (se_op op_mod pu_mod (se_op op_addA pu_add (se_v rfl (v__lengths__cell)) (se_v rfl (v__lengths__x))) (se_op op_pow pu_pow (se_i pe_int) (se_i pe_int))) sa_nil st_BinOp) st_BinOp) st_Constant) st_Constant)) lst_is) (se_op op_mod pu_mod (se_op op_fdiv pu_fdiv (se_v rfl (v__lengths__x)) (se_i pe_int)) (se_i pe_int)))) sb_nil) sb_nil) sb_nil))))
 refine sb_cons ?_ ?_
 ·exact (ss_ret (se_v rfl (v__lengths__lengths_here)))
 exact sb_nil
abbrev s__times : Stmt := top 22
theorem sc__times : FnScope ["_law_rest", "_law_times_here"] ["_law_rest"] (defScope s__times) := ⟨rfl, rfl, rfl, by decide +kernel, rfl, by decide +kernel, by decide +kernel⟩
theorem v__times__rest : (defScope s__times).names.lookup ("_law_rest" : Str) = some .local := by kernel_rfl
theorem v__times__times_here : (defScope s__times).names.lookup ("_law_times_here" : Str) = some .local := by kernel_rfl
def t__times_1 : E := (s2 (oCmp .lt) (s2 oMul (sVar 1) (sN bInt (sCons (s2 oIx (sVar 0) (sCon (.int 1))) sNil))) (sN bInt (sCons (s2 oIx (sVar 0) (sCon (.int 0))) sNil)))
def l__times_1 : S := (sSeq (sAsg 1 (s2 oAdd (sVar 1) (sCon (.int 1)))) sEnd)
def b__times : S := (sSeq (sAsg 1 (sCon (.int 1))) (sSeq (sWhile 1000 t__times_1 l__times_1) (sSeq (sRet (sVar 1)) sEnd)))
def g__times : G := fnG 2 b__times
theorem r__times {P : Program} {w : World} {K : PySem.W.Frag} {mg : Str → Option Value} {C : Ad} {base : Heap} {k : Nat} {f : Addr} (T : Txt K mg C) (cdv : Value) (A : Around) (outer : List PySem.Env) (s : Shared) (H : Hp) (E : XK) (hr : Room k (A.deeper (envOfC "_law_times" (defScope s__times) s.heap.objs.size f cdv))) :
  SB (cx0 P w K mg base ["_law_rest", "_law_times_here"] "_law_times" s__times f cdv A outer s H E) W0 (defBody s__times) b__times := by
 have hu : (cx0 P w K mg base ["_law_rest", "_law_times_here"] "_law_times" s__times f cdv A outer s H E).A.units + 60 < cLine := Nat.lt_of_le_of_lt (Nat.add_le_add_left (by decide) _) hr.units
 have nd := (sc__times).nd
 refine sb_cons ?_ ?_
 ·exact (ss_asg (i := 1) nd rfl (.inl v__times__times_here) (se_i pe_int))
 refine sb_cons ?_ ?_
 ·exact (ss_while 1000 PassesOwn.never (st_cmp (cp_ok hu .lt) pu_cmp (se_op op_mulB pu_mul (se_v rfl (v__times__times_here)) (se_cb (fun t ha => pe_callTy call_int_txt rfl (T.blt "int" (by decide +kernel)) boot_int ha (by decide +kernel) (by decide +kernel)) pu_int (sa_cons (se_ix ix_all pu_ix (se_v rfl (v__times__rest)) (se_i pe_int)) sa_nil st_Subscript))) (se_cb (fun t ha => pe_callTy call_int_txt rfl (T.blt "int" (by decide +kernel)) boot_int ha (by decide +kernel) (by decide +kernel)) pu_int (sa_cons (se_ix ix_all pu_ix (se_v rfl (v__times__rest)) (se_i pe_int)) sa_nil st_Subscript))) (sb_cons (ss_asg (i := 1) nd rfl (.inl v__times__times_here) (se_op op_addA pu_add (se_v rfl (v__times__times_here)) (se_i pe_int))) sb_nil))
 refine sb_cons ?_ ?_
 ·exact (ss_ret (se_v rfl (v__times__times_here)))
 exact sb_nil
abbrev s__flow : Stmt := top 23
theorem sc__flow : FnScope ["_law_row_here", "_law_before", "_law_lengths_here", "_law_parts"] ["_law_row_here", "_law_before", "_law_lengths_here"] (defScope s__flow) := ⟨rfl, rfl, rfl, by decide +kernel, rfl, by decide +kernel, by decide +kernel⟩
theorem v__flow__row_here : (defScope s__flow).names.lookup ("_law_row_here" : Str) = some .local := by kernel_rfl
theorem v__flow__before : (defScope s__flow).names.lookup ("_law_before" : Str) = some .cell := by kernel_rfl
theorem v__flow__lengths_here : (defScope s__flow).names.lookup ("_law_lengths_here" : Str) = some .local := by kernel_rfl
theorem v__flow__parts : (defScope s__flow).names.lookup ("_law_parts" : Str) = some .local := by kernel_rfl
def e__flow_1 : E := (sDGet (sVar 1) (sVar 0))
def b__flow : S := (sSeq (sIf (s2 (oCmp .eq) (s2 oIx (sVar 0) (sCon (.int 0))) (sCon (.str "in"))) (sSeq (sRet (sDGetD (sVar 2) (s2 oIx (sVar 0) (sCon (.int 1))) (sCon (.int 0)))) sEnd) sEnd) (sSeq (sAsg 3 (sComp [("_law_before", 1)] (iTp (s2 oIx (sVar 0) (sCon (.int 2)))) (sCon (.bl true)) e__flow_1)) (sSeq (sIf (s2 (oCmp .eq) (s2 oIx (sVar 0) (sCon (.int 0))) (sCon (.str "pour"))) (sSeq (sRet (sN bSum (sCons (sVar 3) sNil))) sEnd) sEnd) (sSeq (sIf (s2 (oCmp .eq) (s2 oIx (sVar 0) (sCon (.int 0))) (sCon (.str "join"))) (sSeq (sRet (s2 oMul (s2 oIx (sVar 3) (sCon (.int 0))) (s2 oIx (sVar 3) (sCon (.int 1))))) sEnd) sEnd) (sSeq (sIf (s2 (oCmp .eq) (s2 oIx (sVar 0) (sCon (.int 0))) (sCon (.str "slide"))) (sSeq (sRet (s2 oMul (s2 oIx (sVar 3) (sCon (.int 0))) (sCall g__times (sCons (s2 oIx (sVar 0) (sCon (.int 3))) sNil)))) sEnd) sEnd) (sSeq (sRet (s2 oIx (sVar 3) (sCon (.int 0)))) sEnd))))))
def g__flow : G := fnG 4 b__flow
theorem r__flow {P : Program} {w : World} {K : PySem.W.Frag} {mg : Str → Option Value} {C : Ad} {base : Heap} {k : Nat} {f : Addr} (T : Txt K mg C) (a__times : AtG P w K mg base k "_law_times" 1 g__times) (cdv : Value) (A : Around) (outer : List PySem.Env) (s : Shared) (H : Hp) (E : XK) (hr : Room k (A.deeper (envOfC "_law_flow" (defScope s__flow) s.heap.objs.size f cdv))) :
  SB (cx0 P w K mg base ["_law_row_here", "_law_before", "_law_lengths_here", "_law_parts"] "_law_flow" s__flow f cdv A outer s H E) W0 (defBody s__flow) b__flow := by
 have hu : (cx0 P w K mg base ["_law_row_here", "_law_before", "_law_lengths_here", "_law_parts"] "_law_flow" s__flow f cdv A outer s H E).A.units + 60 < cLine := Nat.lt_of_le_of_lt (Nat.add_le_add_left (by decide) _) hr.units
 have nd := (sc__flow).nd
 refine sb_cons ?_ ?_
 ·exact (ss_if (st_cmp (cp_ok hu .eq) pu_cmp (se_ix ix_all pu_ix (se_v rfl (v__flow__row_here)) (se_i pe_int)) (se_s pe_str)) (sb_cons (ss_ret (se_dgetD hu (se_v rfl (v__flow__lengths_here)) (se_ix ix_all pu_ix (se_v rfl (v__flow__row_here)) (se_i pe_int)) (se_i pe_int))) sb_nil) sb_nil)
 refine sb_cons ?_ ?_
 ·exact (ss_asgC "_law_name_here" [("_law_before", 1)] (i := 3) nd rfl (.inl v__flow__parts) rfl (by decide +kernel) (si_tp (se_ix ix_all pu_ix (se_v rfl (v__flow__row_here)) (se_i pe_int))) (fun _ _ _ _ _ _ => sq_none) (fun _ _ _ _ _ _ => (se_dget hu (se_vV rfl (.inr (.inl (by kernel_rfl)))) (se_vV rfl (.inl (by kernel_rfl))))))
 refine sb_cons ?_ ?_
 ·exact (ss_if (st_cmp (cp_ok hu .eq) pu_cmp (se_ix ix_all pu_ix (se_v rfl (v__flow__row_here)) (se_i pe_int)) (se_s pe_str)) (sb_cons (ss_ret (se_cb (fun t ha => pe_callB (call_sum rfl) rfl (T.blt "sum" (by decide +kernel)) boot_sum ha (by decide +kernel) (by decide +kernel)) pu_sum (sa_cons (se_v rfl (v__flow__parts)) sa_nil st_Name))) sb_nil) sb_nil)
 refine sb_cons ?_ ?_
 ·exact (ss_if (st_cmp (cp_ok hu .eq) pu_cmp (se_ix ix_all pu_ix (se_v rfl (v__flow__row_here)) (se_i pe_int)) (se_s pe_str)) (sb_cons (ss_ret (se_op op_mulB pu_mul (se_ix ix_all pu_ix (se_v rfl (v__flow__parts)) (se_i pe_int)) (se_ix ix_all pu_ix (se_v rfl (v__flow__parts)) (se_i pe_int)))) sb_nil) sb_nil)
 refine sb_cons ?_ ?_
 ·exact (ss_if (st_cmp (cp_ok hu .eq) pu_cmp (se_ix ix_all pu_ix (se_v rfl (v__flow__row_here)) (se_i pe_int)) (se_s pe_str)) (sb_cons (ss_ret (se_op op_mulB pu_mul (se_ix ix_all pu_ix (se_v rfl (v__flow__parts)) (se_i pe_int)) (se_call a__times hr rfl (sa_cons (se_ix ix_all pu_ix (se_v rfl (v__flow__row_here)) (se_i pe_int)) sa_nil st_Subscript) (cnt_cons cnt_nil)))) sb_nil) sb_nil)
 refine sb_cons ?_ ?_
 ·exact (ss_ret (se_ix ix_all pu_ix (se_v rfl (v__flow__parts)) (se_i pe_int)))
 exact sb_nil
abbrev s__due : Stmt := top 24
theorem sc__due : FnScope ["_law_rows_here", "_law_lengths_here", "_law_found", "_law_row_here"] ["_law_rows_here", "_law_lengths_here"] (defScope s__due) := ⟨rfl, rfl, rfl, by decide +kernel, rfl, by decide +kernel, by decide +kernel⟩
theorem v__due__rows_here : (defScope s__due).names.lookup ("_law_rows_here" : Str) = some .local := by kernel_rfl
theorem v__due__lengths_here : (defScope s__due).names.lookup ("_law_lengths_here" : Str) = some .local := by kernel_rfl
theorem v__due__found : (defScope s__due).names.lookup ("_law_found" : Str) = some .local := by kernel_rfl
theorem v__due__row_here : (defScope s__due).names.lookup ("_law_row_here" : Str) = some .local := by kernel_rfl
def l__due_1 : S := (sSeq (sDPutS (sVar 2) (s2 oIx (sVar 3) (sCon (.int 1))) (sCall g__flow (sCons (sVar 3) (sCons (sVar 2) (sCons (sVar 1) sNil))))) (sSeq (sIf (s2 (oCmp .gt) (sDGet (sVar 2) (s2 oIx (sVar 3) (sCon (.int 1)))) (sCon (.int 2000))) (sSeq (sRet (sCon .non)) sEnd) sEnd) sEnd))
def b__due : S := (sSeq (sAsg 2 (sDct pNil)) (sSeq (sFor 3 (iLst (sVar 0)) l__due_1) (sSeq (sRet (sVar 2)) sEnd)))
def g__due : G := fnG 4 b__due
theorem r__due {P : Program} {w : World} {K : PySem.W.Frag} {mg : Str → Option Value} {C : Ad} {base : Heap} {k : Nat} {f : Addr} (T : Txt K mg C) (a__flow : AtG P w K mg base k "_law_flow" 3 g__flow) (cdv : Value) (A : Around) (outer : List PySem.Env) (s : Shared) (H : Hp) (E : XK) (hr : Room k (A.deeper (envOfC "_law_due" (defScope s__due) s.heap.objs.size f cdv))) :
  SB (cx0 P w K mg base ["_law_rows_here", "_law_lengths_here", "_law_found", "_law_row_here"] "_law_due" s__due f cdv A outer s H E) W0 (defBody s__due) b__due := by
 have hu : (cx0 P w K mg base ["_law_rows_here", "_law_lengths_here", "_law_found", "_law_row_here"] "_law_due" s__due f cdv A outer s H E).A.units + 60 < cLine := Nat.lt_of_le_of_lt (Nat.add_le_add_left (by decide) _) hr.units
 have nd := (sc__due).nd
 refine sb_cons ?_ ?_
 ·exact (ss_asg (i := 2) nd rfl (.inl v__due__found) se_dct0)
 refine sb_cons ?_ ?_
 ·exact (ss_for PassesOwn.never rfl nd rfl (.inl v__due__row_here) (si_lst (se_v rfl (v__due__rows_here))) (sb_cons (ss_dput hu (se_v rfl (v__due__found)) (se_ix ix_all pu_ix (se_v rfl (v__due__row_here)) (se_i pe_int)) (se_call a__flow hr rfl (sa_cons (se_v rfl (v__due__row_here)) (sa_cons (se_v rfl (v__due__found)) (sa_cons (se_v rfl (v__due__lengths_here)) sa_nil st_Name) st_Name) st_Name) (cnt_cons (cnt_cons (cnt_cons cnt_nil))))) (sb_cons (ss_if (st_cmp (cp_ok hu .gt) pu_cmp (se_dget hu (se_v rfl (v__due__found)) (se_ix ix_all pu_ix (se_v rfl (v__due__row_here)) (se_i pe_int))) (se_i pe_int)) (sb_cons (ss_ret (se_n pe_non)) sb_nil) sb_nil) sb_nil)))
 refine sb_cons ?_ ?_
 ·exact (ss_ret (se_v rfl (v__due__found)))
 exact sb_nil
abbrev s__refused : Stmt := top 25
theorem sc__refused : FnScope ["_law_rows_here", "_law_lengths_here", "_law_refused_here", "e", "_law_by_base"] ["_law_rows_here", "_law_lengths_here"] (defScope s__refused) := ⟨rfl, rfl, rfl, by decide +kernel, rfl, by decide +kernel, by decide +kernel⟩
theorem v__refused__rows_here : (defScope s__refused).names.lookup ("_law_rows_here" : Str) = some .local := by kernel_rfl
theorem v__refused__lengths_here : (defScope s__refused).names.lookup ("_law_lengths_here" : Str) = some .local := by kernel_rfl
theorem v__refused__refused_here : (defScope s__refused).names.lookup ("_law_refused_here" : Str) = some .local := by kernel_rfl
theorem v__refused_e : (defScope s__refused).names.lookup ("e" : Str) = some .local := by kernel_rfl
theorem v__refused__by_base : (defScope s__refused).names.lookup ("_law_by_base" : Str) = some .local := by kernel_rfl
def y__refused_1 : S := (sDrop (sCallX g_flows (sCons (sVar 0) (sCons (sVar 1) sNil))))
def h__refused_1 : S := (sSeq (sAsg 4 (sIsX 3 tb_ValueError)) sEnd)
def y__refused_2 : S := (sDrop (sCallX g_flows (sCons (sVar 0) (sCons (sVar 1) sNil))))
def h__refused_2 : S := (sSeq (sAsg 2 (sNotV (sIsX 3 tb_NoIn))) sEnd)
def b__refused : S := (sSeq (sAsg 2 (sCon (.bl false))) (sSeq (sTry 3 cat_TooMuch y__refused_2 h__refused_2) (sSeq (sAsg 4 (sCon (.bl false))) (sSeq (sTry 3 cat_DamError y__refused_1 h__refused_1) (sSeq (sRet (sAnd (sVar 2) (sVar 4))) sEnd)))))
def g__refused : G := fnG 5 b__refused
theorem r__refused {P : Program} {w : World} {K : PySem.W.Frag} {mg : Str → Option Value} {C : Ad} {base : Heap} {k : Nat} {f : Addr} (T : Txt K mg C) (x_flows : AtX P w K mg base k "flows" 2 g_flows) (cdv : Value) (A : Around) (outer : List PySem.Env) (s : Shared) (H : Hp) (E : XK) (hr : Room k (A.deeper (envOfC "_law_refused" (defScope s__refused) s.heap.objs.size f cdv))) :
  SB (cx0 P w K mg base ["_law_rows_here", "_law_lengths_here", "_law_refused_here", "e", "_law_by_base"] "_law_refused" s__refused f cdv A outer s H E) W0 (defBody s__refused) b__refused := by
 have hu : (cx0 P w K mg base ["_law_rows_here", "_law_lengths_here", "_law_refused_here", "e", "_law_by_base"] "_law_refused" s__refused f cdv A outer s H E).A.units + 60 < cLine := Nat.lt_of_le_of_lt (Nat.add_le_add_left (by decide) _) hr.units
 have nd := (sc__refused).nd
 refine sb_cons ?_ ?_
 ·exact (ss_asg (i := 2) nd rfl (.inl v__refused__refused_here) (se_b pe_bl))
 refine sb_cons ?_ ?_
 ·exact (ss_try (i := 3) rfl rfl rfl nd rfl v__refused_e rfl T.xm_TooMuch T.xc_TooMuch (fun c h => cat_TooMuch_ok T c h) (fun pins E' => (bx_one (sx_drop (sx_call x_flows hr rfl (sa_cons (se_v rfl (v__refused__rows_here)) (sa_cons (se_v rfl (v__refused__lengths_here)) sa_nil st_Name) st_Name) (cnt_cons (cnt_cons cnt_nil)))))) (fun e' => (sb_cons (ss_asg (i := 2) nd rfl (.inl v__refused__refused_here) (se_not (se_isx rfl v__refused_e (fun c b h => tb_NoIn_ok T c b h) rfl (T.blt "isinstance" (by decide +kernel)) rfl T.xm_NoIn))) sb_nil)))
 refine sb_cons ?_ ?_
 ·exact (ss_asg (i := 4) nd rfl (.inl v__refused__by_base) (se_b pe_bl))
 refine sb_cons ?_ ?_
 ·exact (ss_try (i := 3) rfl rfl rfl nd rfl v__refused_e rfl T.xm_DamError T.xc_DamError (fun c h => cat_DamError_ok T c h) (fun pins E' => (bx_one (sx_drop (sx_call x_flows hr rfl (sa_cons (se_v rfl (v__refused__rows_here)) (sa_cons (se_v rfl (v__refused__lengths_here)) sa_nil st_Name) st_Name) (cnt_cons (cnt_cons cnt_nil)))))) (fun e' => (sb_cons (ss_asg (i := 4) nd rfl (.inl v__refused__by_base) (se_isxB (T := "ValueError") rfl v__refused_e (fun c b h => tb_ValueError_ok T c b h) rfl (T.blt "isinstance" (by decide +kernel)) rfl (T.blt "ValueError" (by decide +kernel)) PyProof.Rows.Boot.«ValueError»)) sb_nil)))
 refine sb_cons ?_ ?_
 ·exact (ss_ret (se_and (se_v rfl (v__refused__refused_here)) (se_one (se_v rfl (v__refused__by_base)))))
 exact sb_nil
abbrev s_law : Stmt := top 26
theorem sc_law : FnScope ["_law_script", "_law_rows_here", "_law_cell", "_law_lengths_here", "_law_due_here", "_law_handed", "_law_found"] ["_law_script"] (defScope s_law) := ⟨rfl, rfl, rfl, by decide +kernel, rfl, by decide +kernel, by decide +kernel⟩
theorem v_law__script : (defScope s_law).names.lookup ("_law_script" : Str) = some .local := by kernel_rfl
theorem v_law__rows_here : (defScope s_law).names.lookup ("_law_rows_here" : Str) = some .local := by kernel_rfl
theorem v_law__cell : (defScope s_law).names.lookup ("_law_cell" : Str) = some .local := by kernel_rfl
theorem v_law__lengths_here : (defScope s_law).names.lookup ("_law_lengths_here" : Str) = some .local := by kernel_rfl
theorem v_law__due_here : (defScope s_law).names.lookup ("_law_due_here" : Str) = some .local := by kernel_rfl
theorem v_law__handed : (defScope s_law).names.lookup ("_law_handed" : Str) = some .local := by kernel_rfl
theorem v_law__found : (defScope s_law).names.lookup ("_law_found" : Str) = some .local := by kernel_rfl
def e_law_1 : E := (sIsi isiT "bool" (sVar 0))
def n_law_8 : S := (sSeq (sRet (sNotV (sN bAny (sCons (sVals (sVar 6) e_law_1) sNil)))) sEnd)
def n_law_7 : S := (sSeq (sIf (sOr (sNot (sTru (sIsi isiT "dict" (sVar 6)))) (sOr (sDEq false (sVar 6) (sVar 4)) (sDEq false (sVar 5) (sVar 3)))) (sSeq (sRet (sCon (.bl false))) sEnd) sEnd) n_law_8)
def n_law_6 : S := (sSeq (sAsg 6 (sCall g_flows (sCons (sListN (sVar 1)) (sCons (sVar 5) sNil)))) n_law_7)
def n_law_5 : S := (sSeq (sIf (s2 (oCmp .same) (sVar 4) (sCon .non)) (sSeq (sIf (sNot (sTru (sCall g__refused (sCons (sListN (sVar 1)) (sCons (sVar 5) sNil))))) (sSeq (sRet (sCon (.bl false))) sEnd) sEnd) (sSeq (sRet (sAnd (sDEq true (sVar 5) (sVar 3)) (sDEq true (sCall g_flows (sCons (sVar 1) (sCons (sDct pNil) sNil))) (sCall g__due (sCons (sVar 1) (sCons (sDct pNil) sNil)))))) sEnd)) sEnd) n_law_6)
def n_law_4 : S := (sSeq (sAsg 5 (sDCopy (sVar 3))) n_law_5)
def n_law_3 : S := (sSeq (sAsg 4 (sCall g__due (sCons (sVar 1) (sCons (sVar 3) sNil)))) n_law_4)
def n_law_2 : S := (sSeq (sAsg 3 (sCall g__lengths (sCons (sVar 1) (sCons (sVar 2) sNil)))) n_law_3)
def n_law_1 : S := (sSeq (sAsg 2 (s2 oAdd (s2 oAdd (sCall g__cell_at (sCons (sVar 0) (sCons (sCon (.int 12)) sNil))) (s2 oMul (sCon (.int 31)) (sCall g__cell_at (sCons (sVar 0) (sCons (sCon (.int 1)) sNil))))) (sCall g__cell_at (sCons (sVar 0) (sCons (sCon (.int 0)) sNil))))) n_law_2)
def b_law : S := (sSeq (sAsg 1 (sCall g__rows (sCons (sCall g__cells (sCons (sVar 0) sNil)) sNil))) n_law_1)
def g_law : G := fnG 7 b_law
theorem r_law {P : Program} {w : World} {K : PySem.W.Frag} {mg : Str → Option Value} {C : Ad} {base : Heap} {k : Nat} {f : Addr} (T : Txt K mg C) (a_flows : AtG P w K mg base k "flows" 2 g_flows) (a__cell_at : AtG P w K mg base k "_law_cell_at" 2 g__cell_at) (a__cells : AtG P w K mg base k "_law_cells" 1 g__cells) (a__rows : AtG P w K mg base k "_law_rows" 1 g__rows) (a__lengths : AtG P w K mg base k "_law_lengths" 2 g__lengths) (a__due : AtG P w K mg base k "_law_due" 2 g__due) (a__refused : AtG P w K mg base k "_law_refused" 2 g__refused) (cdv : Value) (A : Around) (outer : List PySem.Env) (s : Shared) (H : Hp) (E : XK) (hr : Room k (A.deeper (envOfC "law" (defScope s_law) s.heap.objs.size f cdv))) :
    SB (cx0 P w K mg base ["_law_script", "_law_rows_here", "_law_cell", "_law_lengths_here", "_law_due_here", "_law_handed", "_law_found"] "law" s_law f cdv A outer s H E) W0 (defBody s_law) b_law := by
  have hu : (cx0 P w K mg base ["_law_script", "_law_rows_here", "_law_cell", "_law_lengths_here", "_law_due_here", "_law_handed", "_law_found"] "law" s_law f cdv A outer s H E).A.units + 60 < cLine := Nat.lt_of_le_of_lt (Nat.add_le_add_left (by decide) _) hr.units
  have nd := (sc_law).nd
  refine sb_cons ?_ ?_
  · refine ss_asg (i := 1) ?_ ?_ ?_ ?_
    · exact nd
    · exact rfl
    · exact (.inl v_law__rows_here)
    · refine se_call a__rows hr rfl ?_ ?_
      · refine sa_cons ?_ ?_ ?_
        · refine se_call a__cells hr rfl ?_ ?_
          · refine sa_cons ?_ ?_ ?_
            · refine se_v ?_ ?_
              · exact rfl
              · exact v_law__script
            · exact sa_nil
            · exact st_Name
          · refine cnt_cons ?_
            · exact cnt_nil
        · exact sa_nil
        · exact st_Call
      · refine cnt_cons ?_
        · exact cnt_nil
  refine sb_cons ?_ ?_
  · refine ss_asg (i := 2) ?_ ?_ ?_ ?_
    · exact nd
    · exact rfl
    · exact (.inl v_law__cell)
    · refine se_op op_addA pu_add ?_ ?_
      · refine se_op op_addA pu_add ?_ ?_
        · refine se_call a__cell_at hr rfl ?_ ?_
          · refine sa_cons ?_ ?_ ?_
            · refine se_v ?_ ?_
              · exact rfl
              · exact v_law__script
            · refine sa_cons ?_ ?_ ?_
              · refine se_i ?_
                · exact pe_int
              · exact sa_nil
              · exact st_Constant
            · exact st_Name
          · refine cnt_cons ?_
            · refine cnt_cons ?_
              · exact cnt_nil
        · refine se_op op_mulB pu_mul ?_ ?_
          · refine se_i ?_
            · exact pe_int
          · refine se_call a__cell_at hr rfl ?_ ?_
            · refine sa_cons ?_ ?_ ?_
              · refine se_v ?_ ?_
                · exact rfl
                · exact v_law__script
              · refine sa_cons ?_ ?_ ?_
                · refine se_i ?_
                  · exact pe_int
                · exact sa_nil
                · exact st_Constant
              · exact st_Name
            · refine cnt_cons ?_
              · refine cnt_cons ?_
                · exact cnt_nil
      · refine se_call a__cell_at hr rfl ?_ ?_
        · refine sa_cons ?_ ?_ ?_
          · refine se_v ?_ ?_
            · exact rfl
            · exact v_law__script
          · refine sa_cons ?_ ?_ ?_
            · refine se_i ?_
              · exact pe_int
            · exact sa_nil
            · exact st_Constant
          · exact st_Name
        · refine cnt_cons ?_
          · refine cnt_cons ?_
            · exact cnt_nil
  refine sb_cons ?_ ?_
  · refine ss_asg (i := 3) ?_ ?_ ?_ ?_
    · exact nd
    · exact rfl
    · exact (.inl v_law__lengths_here)
    · refine se_call a__lengths hr rfl ?_ ?_
      · refine sa_cons ?_ ?_ ?_
        · refine se_v ?_ ?_
          · exact rfl
          · exact v_law__rows_here
        · refine sa_cons ?_ ?_ ?_
          · refine se_v ?_ ?_
            · exact rfl
            · exact v_law__cell
          · exact sa_nil
          · exact st_Name
        · exact st_Name
      · refine cnt_cons ?_
        · refine cnt_cons ?_
          · exact cnt_nil
  refine sb_cons ?_ ?_
  · refine ss_asg (i := 4) ?_ ?_ ?_ ?_
    · exact nd
    · exact rfl
    · exact (.inl v_law__due_here)
    · refine se_call a__due hr rfl ?_ ?_
      · refine sa_cons ?_ ?_ ?_
        · refine se_v ?_ ?_
          · exact rfl
          · exact v_law__rows_here
        · refine sa_cons ?_ ?_ ?_
          · refine se_v ?_ ?_
            · exact rfl
            · exact v_law__lengths_here
          · exact sa_nil
          · exact st_Name
        · exact st_Name
      · refine cnt_cons ?_
        · refine cnt_cons ?_
          · exact cnt_nil
  refine sb_cons ?_ ?_
  · refine ss_asg (i := 5) ?_ ?_ ?_ ?_
    · exact nd
    · exact rfl
    · exact (.inl v_law__handed)
    · refine se_dcopy ?_ ?_ ?_
      · exact rfl
      · exact (T.blt "dict" (by decide +kernel))
      · refine se_v ?_ ?_
        · exact rfl
        · exact v_law__lengths_here
  refine sb_cons ?_ ?_
  · refine ss_if ?_ ?_ ?_
    · refine st_cmp (cp_ok hu .same) pu_cmp ?_ ?_
      · refine se_v ?_ ?_
        · exact rfl
        · exact v_law__due_here
      · refine se_n ?_
        · exact pe_non
    · refine sb_cons ?_ ?_
      · refine ss_if ?_ ?_ ?_
        · refine st_not ?_
          · refine st_tru ?_
            · refine se_call a__refused hr rfl ?_ ?_
              · refine sa_cons ?_ ?_ ?_
                · refine SN.sem ?_ ?_
                  · refine sn_list ?_ ?_ ?_
                    · exact rfl
                    · exact (T.blt "list" (by decide +kernel))
                    · refine se_v ?_ ?_
                      · exact rfl
                      · exact v_law__rows_here
                  · exact list_is
                · refine sa_cons ?_ ?_ ?_
                  · refine se_v ?_ ?_
                    · exact rfl
                    · exact v_law__handed
                  · exact sa_nil
                  · exact st_Name
                · exact st_Call
              · refine cnt_cons ?_
                · refine cnt_cons ?_
                  · exact cnt_nil
        · refine sb_cons ?_ ?_
          · refine ss_ret ?_
            · refine se_b ?_
              · exact pe_bl
          · exact sb_nil
        · exact sb_nil
      · refine sb_cons ?_ ?_
        · refine ss_ret ?_
          · refine se_and ?_ ?_
            · refine se_deq ?_ ?_ ?_
              · exact hu
              · refine se_v ?_ ?_
                · exact rfl
                · exact v_law__handed
              · refine se_v ?_ ?_
                · exact rfl
                · exact v_law__lengths_here
            · refine se_one ?_
              · refine se_deq ?_ ?_ ?_
                · exact hu
                · refine se_call a_flows hr rfl ?_ ?_
                  · refine sa_cons ?_ ?_ ?_
                    · refine se_v ?_ ?_
                      · exact rfl
                      · exact v_law__rows_here
                    · refine sa_cons ?_ ?_ ?_
                      · exact se_dct0
                      · exact sa_nil
                      · exact st_Dict
                    · exact st_Name
                  · refine cnt_cons ?_
                    · refine cnt_cons ?_
                      · exact cnt_nil
                · refine se_call a__due hr rfl ?_ ?_
                  · refine sa_cons ?_ ?_ ?_
                    · refine se_v ?_ ?_
                      · exact rfl
                      · exact v_law__rows_here
                    · refine sa_cons ?_ ?_ ?_
                      · exact se_dct0
                      · exact sa_nil
                      · exact st_Dict
                    · exact st_Name
                  · refine cnt_cons ?_
                    · refine cnt_cons ?_
                      · exact cnt_nil
        · exact sb_nil
    · exact sb_nil
  refine sb_cons ?_ ?_
  · refine ss_asg (i := 6) ?_ ?_ ?_ ?_
    · exact nd
    · exact rfl
    · exact (.inl v_law__found)
    · refine se_call a_flows hr rfl ?_ ?_
      · refine sa_cons ?_ ?_ ?_
        · refine SN.sem ?_ ?_
          · refine sn_list ?_ ?_ ?_
            · exact rfl
            · exact (T.blt "list" (by decide +kernel))
            · refine se_v ?_ ?_
              · exact rfl
              · exact v_law__rows_here
          · exact list_is
        · refine sa_cons ?_ ?_ ?_
          · refine se_v ?_ ?_
            · exact rfl
            · exact v_law__handed
          · exact sa_nil
          · exact st_Name
        · exact st_Call
      · refine cnt_cons ?_
        · refine cnt_cons ?_
          · exact cnt_nil
  refine sb_cons ?_ ?_
  · refine ss_if ?_ ?_ ?_
    · refine SW.st ?_
      · refine sw_or ?_ ?_
        · refine st_not ?_
          · refine st_tru ?_
            · refine se_isiM (fun t b h => isiT_ok t "dict" b h) ?_ rfl (T.blt "isinstance" (by decide +kernel)) rfl (T.blt "dict" (by decide +kernel)) boot_dict
              · refine se_v ?_ ?_
                · exact rfl
                · exact v_law__found
        · refine sw_or ?_ ?_
          · refine st_dne ?_ ?_ ?_
            · exact hu
            · refine se_v ?_ ?_
              · exact rfl
              · exact v_law__found
            · refine se_v ?_ ?_
              · exact rfl
              · exact v_law__due_here
          · refine sw_or1 ?_
            · refine st_dne ?_ ?_ ?_
              · exact hu
              · refine se_v ?_ ?_
                · exact rfl
                · exact v_law__handed
              · refine se_v ?_ ?_
                · exact rfl
                · exact v_law__lengths_here
    · refine sb_cons ?_ ?_
      · refine ss_ret ?_
        · refine se_b ?_
          · exact pe_bl
      · exact sb_nil
    · exact sb_nil
  refine sb_cons ?_ ?_
  · refine ss_ret ?_
    · refine se_not ?_
      · refine se_cb (fun t ha => pe_callB (call_any rfl) rfl (T.blt "any" (by decide +kernel)) boot_any ha (by decide +kernel) (by decide +kernel)) pu_any ?_
        · refine sa_cons ?_ ?_ ?_
          · refine SN.sem ?_ ?_
            · exact (sn_vals "_law_many" rfl (se_v rfl (v_law__found)) (fun _ _ _ _ _ _ => (se_isiM (T := "bool") (fun t b h => isiT_ok t "bool" b h) (se_vV rfl (.inl (by kernel_rfl))) rfl (T.blt "isinstance" (by decide +kernel)) rfl (T.blt "bool" (by decide +kernel)) boot_bool)))
            · exact vals_is
          · exact sa_nil
          · exact st_ListComp
  exact sb_nil
def lawK : Nat := 5
def lawG : G := g_law
local macro_rules | `(tactic| walk_at "all") => `(tactic| try simp only [q_seq, r_nx, r_rt, r_bk, r_ct, r_ex, q_end, q_v, q_vb, r_v, r_vb, r_vo, q_con, r_map, q_1, r_1, q_2, r_2, r_2s, w_int, w_str, w_bl, w_non, w_tup, w_lst, q_tru, q_notv, q_not, r_not, q_and, q_or, q_ite, r_ite, q_nil, q_cons, r_cons, r_conA, q_n, r_n, r_argK, q_tup, q_lst, r_callR, q_call, r_bndK, r_cellD, q_cell, r_listL, q_list, q_srt, q_sl, r_slL, r_slH, q_pno, q_pat, r_pat, r_bndT, q_asg, r_mine, q_mine, q_ret, q_retN, q_drop, r_if, q_if, q_frz, r_frz, q_app, r_app, q_for, r_for, q_ilst, r_ilst, q_rng1, q_fn, r_endR, r_endN, o_addI, o_addL, o_sub, o_fdiv, o_mod, o_pow, o_neg, o_lt, o_le, o_gt, o_ge, o_eqI, o_neI, o_ixL, o_ixT, o_lenL, o_lenT, o_min, o_max, o_truL, o_truB, o_slS, o_slL, o_isiL, sizeLine_eq, Option.map_some, Option.map_none, List.getElem?_cons_zero, List.getElem?_cons_succ, List.set_cons_zero, List.set_cons_succ, List.map_cons, List.map_nil, List.length_cons, List.length_nil, List.length_map, List.replicate, List.cons_append, List.nil_append, List.append_nil, reduceCtorEq, if_true, if_false, reduceIte, Bool.not_true, Bool.not_false, Nat.reduceSub, Nat.reduceAdd, Nat.reduceLeDiff, Nat.reduceLT, Int.reduceLT, Int.reduceLE, Int.reduceAdd, Int.reduceSub, Int.reduceMul, Int.reduceNeg, Int.reduceAbs, Int.reduceEq, Int.reducePow, Int.reduceMod, Int.reduceDiv, Int.reduceToNat, Nat.zero_le, and_true, true_and, and_self, or_true, true_or, Bool.false_eq_true, decide_eq_true_eq, decide_true, decide_false, Bool.not_eq_true', decide_eq_false_iff_not, not_true_eq_false, not_false_eq_true, eq_self, q_comp, r_comp, r_compO, q_capN, q_capC, Option.getD_some, q_isi, r_isi, ty_int, ty_str, ty_bl, ty_non, ty_tup, ty_lst, v_int, v_str, v_bl, v_non, v_tup, v_lst, v_dct, q_unp, r_unp, q_setE0, q_setE1, q_itp, r_itp, r_endX, o_mul, o_abs, List.isEmpty_cons, List.isEmpty_nil, Bool.true_eq_false, Bool.and_self, Bool.and_true, Bool.true_and, Bool.and_false, Bool.false_and, r_bndTx, r_bndKx, r_argKx, r_consx, r_conAx, r_lsC, r_popZ, r_popC, q_pop, r_lsS, r_appC, q_appC, r_argX, q_callX, r_unE, r_tryHn, r_tryHr, r_tryN, r_tryRt, r_tryX, q_try, r_isx, q_isx, r_kin, q_kin, r_kget, q_kget, q_itx, r_itx, q_irv, r_irv, q_irvT, r_irvT, r_mt, q_mt, t_st, q_fst, q_jend, q_jcon, r_jv, q_jval, r_jr, q_jrep, o_cat, o_addS, o_rep, o_ixS, o_lenS, o_str, o_int, o_any, o_tupL, o_inS, o_ninS, o_eqS, o_neS, o_isNn, o_isnI, o_isnN, t_ls, t_txS, t_txI, Bool.true_or, Bool.false_or, Bool.or_true, Bool.or_false, at0, at1, at2, at3, g_end, s_end, w_end, q_loop0, q_loop1, r_stN, r_stC, r_stB, r_stR, r_stX, j_bool_bool, j_int_bool, q_forV, r_forVl, r_forVr, q_lix, r_lix])
variable {M : Mm}
def dwn (xs : List Int) : Prop := ∀ x ∈ xs, 0 ≤ x ∧ x < 715827877
theorem g_dr {n : Int} {m : Nat} (hm : m ≤ 1000) : ∃ xs : List Int, xs.length = m ∧ dwn xs ∧ ∀ M : Mm, g__drawn [.int n, .int m] M = some (.v (.lst (xs.map .int)), M) := by
  let P : E3.OS → Mm → List Int → Prop := fun o M xs => ∃ s3 s4, o = some (.nx [.val (.int n), .val (.int m), .own (xs.map .int), s3, s4], M)
  have key : ∃ xs : List Int, xs.length = m ∧ dwn xs ∧ ∀ M : Mm, P (loopS 4 l__drawn_1 ((List.range m).map fun (k : Nat) => D.int (0 + k)) [.val (.int n), .val (.int m), .own [], .val (.int (n % 2147483629)), .un] M) M xs := by
    -- the numbers by themselves
    let st : Int × List Int → Nat → Int × List Int := fun p k => let x := (p.1 * p.1 + 40692 * p.1 + 2 * (0 + (k : Int)) + 1) % 2147483629; (x, p.2 ++ [x / 3])
    let at_ : Nat → Int × List Int := fun k => (List.range k).foldl st (n % 2147483629, [])
    have hst : ∀ k, at_ (k + 1) = st (at_ k) k := fun k => by simp only [at_, List.range_succ, List.foldl_append, List.foldl_cons, List.foldl_nil]
    have hb : ∀ k, 0 ≤ (at_ k).1 ∧ (at_ k).1 < 2147483629 ∧ (at_ k).2.length = k ∧ dwn (at_ k).2 := fun k => by
      induction k with
      | zero => exact ⟨Int.emod_nonneg _ (by decide), Int.emod_lt_of_pos _ (by decide), rfl, fun x hx => by cases hx⟩
      | succ k ih =>
        rw [hst]
        refine ⟨Int.emod_nonneg _ (by decide), Int.emod_lt_of_pos _ (by decide), by simp only [st, List.length_append, ih.2.2.1, List.length_singleton], fun x hx => ?_⟩
        simp only [st, List.mem_append, List.mem_singleton] at hx
        rcases hx with hx | hx
        · exact ih.2.2.2 x hx
        · have h1 := Int.emod_nonneg ((at_ k).1 * (at_ k).1 + 40692 * (at_ k).1 + 2 * (0 + (k : Int)) + 1) (show (2147483629 : Int) ≠ 0 by decide)
          have h2 := Int.emod_lt_of_pos ((at_ k).1 * (at_ k).1 + 40692 * (at_ k).1 + 2 * (0 + (k : Int)) + 1) (show (0 : Int) < 2147483629 by decide)
          subst hx
          omega
    refine ⟨(at_ m).2, (hb m).2.2.1, (hb m).2.2.2, fun M => ?_⟩
    refine loop_by (fun o => P o M (at_ m).2) (fun k env M' => M' = M ∧ ∃ s4, env = [.val (.int n), .val (.int m), .own ((at_ k).2.map .int), .val (.int (at_ k).1), s4]) ⟨rfl, .un, rfl⟩ ?_ ?_
    · rintro k d env M' hd ⟨rfl, s4, rfl⟩
      have hk : k < m := by
        have := (List.getElem?_eq_some_iff.mp hd).1
        simpa using this
      rw [List.getElem?_map, List.getElem?_range hk, Option.map_some] at hd
      cases hd
      refine ⟨by show 4 < 5; decide, ?_⟩
      have hx := hb k
      have hq := hb (k + 1)
      rw [hst] at hq
      show Step _ _ (l__drawn_1 [.val (.int n), .val (.int m), .own ((at_ k).2.map .int), .val (.int (at_ k).1), .val (.int (0 + k))] M')
      generalize e1 : (at_ k).1 = x at *
      generalize e2 : (at_ k).2 = xs at *
      unfold l__drawn_1
      walk_at "all"
      rw [if_pos (.inl (by omega))]
      walk_at "all"
      rw [if_pos (show xs.length < 16777216 by omega)]
      refine ⟨rfl, .val (.int (0 + k)), ?_⟩
      rw [hst]
      simp only [st, e1, e2, List.map_append, List.map_cons, List.map_nil]
    · rintro env M' ⟨rfl, s4, rfl⟩
      rw [List.length_map, List.length_range]
      exact ⟨_, _, rfl⟩
  obtain ⟨xs, h1, h2, h3⟩ := key
  refine ⟨xs, h1, h2, fun M => ?_⟩
  obtain ⟨s3, s4, h3⟩ := h3 M
  unfold g__drawn b__drawn
  walk_at "all"
  rw [r_rng1 (by omega), Int.toNat_natCast]
  walk_at "all"
  rw [h3]
  walk_at "all"
theorem dg_sm {i : Int} (h0 : 0 ≤ i) (h1 : i < 1000000000000000000000) : (shw i).length ≤ 22 ∧ ∀ c ∈ cd (shw i), c < 4294967296 := by
 refine ⟨shw_len (k := 21) (by decide) (by rw [show (10 : Nat) ^ 21 = 1000000000000000000000 by decide]; omega), fun c hc => ?_⟩
 unfold cd at hc
 rw [shw_nn h0] at hc
 have := dg_all i.toNat c hc
 omega
def LG (L : Str) : Prop := L.length ≤ 10 ∧ ∀ c ∈ cd L, c = 116 ∨ c = 118 ∨ c = 119
theorem leaf_ok {x : Int} {L : Str} (hL : LG L) : ∃ w, ∀ M : Mm, g__leaf [.int x, .str L] M = some (.v (.str w), M) := by
 have hll := hL.1
 by_cases h : 0 < x % 3 ∧ L ≠ Str.ofString ""
 ·have hp : 0 < L.length := by
   rcases Nat.eq_zero_or_pos L.length with z | z
   ·exfalso
    apply h.2
    rw [eq_e]
    exact List.length_eq_zero_iff.mp (by rw [← len_cd]; exact z)
   ·exact z
  have p0 := Int.emod_nonneg (x / 3) (show (L.length : Int) ≠ 0 by omega)
  have p1 := Int.emod_lt_of_pos (x / 3) (show (0 : Int) < (L.length : Int) by omega)
  have hl := len_cd L
  have hx := List.getElem?_eq_getElem (show ((x / 3) % (L.length : Int)).toNat < (cd L).length by omega)
  generalize (cd L)[((x / 3) % (L.length : Int)).toNat] = c at hx
  have hc := List.mem_of_getElem? hx
  have ha := atI_nat hx
  rw [Int.toNat_of_nonneg p0] at ha
  refine ⟨⟨#[c]⟩, fun M => ?_⟩
  unfold g__leaf b__leaf
  walk_at "all"
  simp only [h.1, h.2]
  walk_at "all"
  rw [if_pos (show L.length ≤ 16777216 by omega)]
  walk_at "all"
  rw [if_pos (show (0 : Int) < (L.length : Int) by omega)]
  walk_at "all"
  rw [if_pos (show L.length ≤ 16777216 by omega), show L.cps.toList = cd L from rfl, ha]
  walk_at "all"
 ·have hm : ∃ q : Int, 0 < q ∧ q ≤ 100000000000000000000 ∧ atI [D.int 10, .int 100, .int 1000000, .int 1000000000000, .int 100000000000000000000] (x / 9 % 5) = some (.int q) := by
   have : x / 9 % 5 = 0 ∨ x / 9 % 5 = 1 ∨ x / 9 % 5 = 2 ∨ x / 9 % 5 = 3 ∨ x / 9 % 5 = 4 := by omega
   rcases this with e | e | e | e | e <;> rw [e]
   ·exact ⟨_, by decide, by decide, at0⟩
   ·exact ⟨_, by decide, by decide, at1⟩
   ·exact ⟨_, by decide, by decide, at2⟩
   ·exact ⟨_, by decide, by decide, at3⟩
   ·exact ⟨_, by decide, by decide, atI_nat (j := 4) rfl⟩
  obtain ⟨q, q0, q1, eq⟩ := hm
  have n0 := Int.emod_nonneg (x * 1000003 * 104729 * 7919) (show q ≠ 0 by omega)
  have n1 := Int.emod_lt_of_pos (x * 1000003 * 104729 * 7919) q0
  generalize en : (x * 1000003 * 104729 * 7919) % q = n at n0 n1
  obtain ⟨wl, ws⟩ := dg_sm (i := n) n0 (by omega)
  have lg : n.natAbs.log2 < 1920 := log_nat (by omega)
  have go : ∀ M : Mm, g__leaf [.int x, .str L] M = endS (n__leaf_2 [.val (.int x), .val (.str L), .val (.int n)] M) := fun M => by
   unfold g__leaf b__leaf
   walk_at "all"
   have st : (if 0 < x % 3 then some (Res.v (D.bl (!decide (L = Str.ofString ""))), M) else some (Res.v (D.bl false), M)) = some (Res.v (D.bl false), M) := by
    by_cases z : 0 < x % 3
    ·have z2 : L = Str.ofString "" := Classical.byContradiction fun z2 => h ⟨z, z2⟩
     rw [if_pos z, decide_eq_true z2]
     rfl
    ·rw [if_neg z]
   rw [st]
   walk_at "all"
   unfold n__leaf_1
   walk_at "all"
   rw [eq]
   walk_at "all"
   rw [if_pos q0, en]
   walk_at "all"
  simp only [go]
  by_cases h2 : x / 2 % 2 = 1 ∧ 0 < n
  ·refine ⟨Str.ofString "-" ++ shw n, fun M => ?_⟩
   ·unfold n__leaf_2
    walk_at "all"
    simp only [h2.1, h2.2]
    walk_at "all"
    rw [if_pos lg]
    walk_at "all"
    rw [show (Str.ofString "-").length = 1 by decide +kernel, if_pos (show 1 + (Str.ofString (toString n)).length ≤ 16777216 from by have : (Str.ofString (toString n)).length ≤ 22 := wl; omega)]
    rfl
  ·refine ⟨shw n, fun M => ?_⟩
   ·unfold n__leaf_2
    walk_at "all"
    have st : (if x / 2 % 2 = 1 then some (Res.v (D.bl (decide (0 < n))), M) else some (Res.v (D.bl false), M)) = some (Res.v (D.bl false), M) := by
     by_cases z : x / 2 % 2 = 1
     ·rw [if_pos z, decide_eq_false (fun z2 => h2 ⟨z, z2⟩)]
     ·rw [if_neg z]
    rw [st]
    unfold n__leaf_3
    walk_at "all"
    rw [if_pos lg]
    walk_at "all"
    rfl
variable {M : Mm}
theorem five_ok {k : Int} : ∃ x : Str, atI [D.str "+", .str "-", .str "*", .str "least", .str "most"] (k % 5) = some (.str x) := by
 have : k % 5 = 0 ∨ k % 5 = 1 ∨ k % 5 = 2 ∨ k % 5 = 3 ∨ k % 5 = 4 := by omega
 rcases this with e | e | e | e | e <;> rw [e]
 ·exact ⟨_, at0⟩
 ·exact ⟨_, at1⟩
 ·exact ⟨_, at2⟩
 ·exact ⟨_, at3⟩
 ·exact ⟨_, atI_nat (j := 4) rfl⟩
theorem gen_ok {L : Str} {num : Int} {most : Nat} (hL : LG L) (hm : 1 ≤ most ∧ most ≤ 45) : ∃ ws : List Str, ws.length ≤ most ∧ g__expr [.int num, .str L, .int most] M = some (.v (.lst (ws.map D.str)), M) := by
  have lp : ∃ ws : List Str, ∃ s5 s6, ws.length ≤ most ∧ sWhile 1000 t__expr_1 l__expr_1 [.val (.int num), .val (.str L), .val (.int most), .own [], .val (.int 1), .val (.int (num % 2147483629)), .un] M = some (.nx [.val (.int num), .val (.str L), .val (.int most), .own (ws.map D.str), .val (.int 0), s5, s6], M) := by
    refine while_by (Q := fun o => ∃ ws : List Str, ∃ s5 s6, ws.length ≤ most ∧ o = some (.nx [.val (.int num), .val (.str L), .val (.int most), .own (ws.map D.str), .val (.int 0), s5, s6], M)) (fun m env N => N = M ∧ ∃ (ws : List Str) (need : Nat) (x : Int) (s6 : E3.Slot), env = [.val (.int num), .val (.str L), .val (.int most), .own (ws.map D.str), .val (.int need), .val (.int x), s6] ∧ m = most - ws.length ∧ ws.length + need ≤ most ∧ 0 ≤ x ∧ x < 2147483629) ⟨most, by omega, rfl, [], 1, _, .un, rfl, rfl, by simpa using hm.1, Int.emod_nonneg _ (by decide), Int.emod_lt_of_pos _ (by decide)⟩ ?_
    rintro m env N ⟨rfl, ws, need, x, s6, rfl, rfl, hb, x0, x1⟩
    refine ⟨decide (0 < (need : Int)), N, ?_, ?_⟩
    · unfold t__expr_1
      walk_at "all"
    · by_cases hn : 0 < (need : Int)
      · rw [decide_eq_true hn, if_pos rfl]
        have y0 := Int.emod_nonneg (x * x + 40692 * x + ((ws.length : Nat) : Int) + 1) (show (2147483629 : Int) ≠ 0 by decide)
        have y1 := Int.emod_lt_of_pos (x * x + 40692 * x + ((ws.length : Nat) : Int) + 1) (show (0 : Int) < 2147483629 by decide)
        generalize ey : (x * x + 40692 * x + ((ws.length : Nat) : Int) + 1) % 2147483629 = y at y0 y1
        obtain ⟨op, eo⟩ := five_ok (k := y / 7 / 2)
        obtain ⟨w, ew⟩ := leaf_ok (x := y / 7 / 2) hL
        have hx64 : x.natAbs < 18446744073709551616 := by omega
        by_cases c : y / 7 % 2 = 1 ∧ ((ws.length : Nat) : Int) + (need : Int) + 2 ≤ (most : Int)
        · have e : l__expr_1 [.val (.int num), .val (.str L), .val (.int most), .own (ws.map D.str), .val (.int need), .val (.int x), s6] N = some (.nx [.val (.int num), .val (.str L), .val (.int most), .own ((ws ++ [op]).map D.str), .val (.int ((need + 1 : Nat) : Int)), .val (.int y), .val (.int (y / 7))], N) := by
            unfold l__expr_1
            walk_at "all"
            rw [if_pos (.inl hx64)]
            walk_at "all"
            rw [ey]
            walk_at "all"
            simp only [c.1, c.2]
            walk_at "all"
            rw [eo]
            walk_at "all"
            rw [if_pos (by omega)]
            walk_at "all"
            rw [List.map_append]
            rfl
          rw [e]
          refine ⟨most - (ws ++ [op]).length, by rw [List.length_append, List.length_singleton]; omega, rfl, ws ++ [op], need + 1, y, _, rfl, rfl, by rw [List.length_append, List.length_singleton]; omega, y0, y1⟩
        · have e : l__expr_1 [.val (.int num), .val (.str L), .val (.int most), .own (ws.map D.str), .val (.int need), .val (.int x), s6] N = some (.nx [.val (.int num), .val (.str L), .val (.int most), .own ((ws ++ [w]).map D.str), .val (.int ((need - 1 : Nat) : Int)), .val (.int y), .val (.int (y / 7))], N) := by
            have st : (if y / 7 % 2 = 1 then some (Res.v (D.bl (decide (((ws.length : Nat) : Int) + (need : Int) + 2 ≤ (most : Int)))), N) else some (Res.v (D.bl false), N)) = some (Res.v (D.bl false), N) := by
              by_cases z : y / 7 % 2 = 1
              · rw [if_pos z, decide_eq_false (fun z2 => c ⟨z, z2⟩)]
              · rw [if_neg z]
            unfold l__expr_1
            walk_at "all"
            rw [if_pos (.inl hx64)]
            walk_at "all"
            rw [ey]
            walk_at "all"
            rw [st]
            walk_at "all"
            rw [ew]
            walk_at "all"
            rw [if_pos (by omega)]
            walk_at "all"
            rw [List.map_append, show (need : Int) - 1 = ((need - 1 : Nat) : Int) by omega]
            rfl
          rw [e]
          refine ⟨most - (ws ++ [w]).length, by rw [List.length_append, List.length_singleton]; omega, rfl, ws ++ [w], need - 1, y, _, rfl, rfl, by rw [List.length_append, List.length_singleton]; omega, y0, y1⟩
      · rw [decide_eq_false hn, if_neg (by decide)]
        have hz : need = 0 := by omega
        subst hz
        exact ⟨ws, _, _, by omega, rfl⟩
  obtain ⟨ws, s5, s6, h4, lp⟩ := lp
  refine ⟨ws, h4, ?_⟩
  unfold g__expr b__expr
  walk_at "all"
  rw [lp]
  walk_at "all"
variable {M : Mm}
theorem st_ne {a b : Str} (h : decide (a = b) = false) : (a = b) = False := eq_false (of_decide_eq_false h)
theorem pz_rev {k : Nat} {d : D} {ds : List D} : popZ M k (d :: ds).reverse (d :: ds).reverse[(d :: ds).reverse.length - 1]? = some (.v d, M.set k (.lst ds.reverse)) := by
 have e1 : (d :: ds).reverse[(d :: ds).reverse.length - 1]? = some d := by simp
 have e2 : (d :: ds).reverse.dropLast = ds.reverse := by simp
 rw [e1, r_popZ, e2]
def pdS (p : Bool) : D := .str (if p then "cond" else "expr")
def pc (pd : List Bool) : E3.Cl := .lst (pd.map pdS).reverse
def pw (pd : List Bool) : Nat := (pd.map fun p => if p then 3 else 1).sum
theorem two_ok {a b : Str} {k : Int} : ∃ x : Str, atI [D.str a, .str b] (k % 2) = some (.str x) := by
 have : k % 2 = 0 ∨ k % 2 = 1 := by omega
 rcases this with e | e <;> rw [e]
 ·exact ⟨a, at0⟩
 ·exact ⟨b, at1⟩
theorem eq_cc : (Str.ofString "cond" = Str.ofString "cond") = True := eq_true rfl
theorem eq_ec : (Str.ofString "expr" = Str.ofString "cond") = False := st_ne (by decide +kernel)
theorem pc2t {ds : List D} : ds.reverse ++ [D.str "cond", .str "cond"] = (pdS true :: pdS true :: ds).reverse := by simp [pdS]
theorem pc2f {ds : List D} : ds.reverse ++ [D.str "expr", .str "expr"] = (pdS false :: pdS false :: ds).reverse := by simp [pdS]
theorem pc1t {ds : List D} : ds.reverse ++ [D.str "cond"] = (pdS true :: ds).reverse := by simp [pdS]
theorem ws_app {ws : List Str} {w : Str} : ws.map D.str ++ [D.str w] = (ws ++ [w]).map D.str := by simp
theorem pc_t {pd : List Bool} : pc (true :: pd) = .lst (D.str "cond" :: pd.map pdS).reverse := rfl
theorem pc_f {pd : List Bool} : pc (false :: pd) = .lst (D.str "expr" :: pd.map pdS).reverse := rfl
theorem cd_turn {num most x : Int} {ws : List Str} {p : Bool} {pd : List Bool} {room : Nat} {s6 s7 : E3.Slot} (hw : ws.length ≤ 100) (hp : pd.length ≤ 100) (x0 : 0 ≤ x) (x1 : x < 2147483629) : ∃ (y : Int) (w : Str) (pd' : List Bool) (room' : Nat) (t6 t7 : E3.Slot) (E : Mm), l__cond_1 [.val (.int num), .val (.int most), .own (ws.map D.str), .val (.ref M.length), .val (.int room), .val (.int x), s6, s7] (M ++ [pc (p :: pd)]) = some (.nx [.val (.int num), .val (.int most), .own ((ws ++ [w]).map D.str), .val (.ref (M ++ E).length), .val (.int room'), .val (.int y), t6, t7], M ++ E ++ [pc pd']) ∧ 0 ≤ y ∧ y < 2147483629 ∧ pw pd' + room' + 1 = pw (p :: pd) + room := by
  have y0 := Int.emod_nonneg (x * x + 40692 * x + ((ws.length : Nat) : Int) + 1) (show (2147483629 : Int) ≠ 0 by decide)
  have y1 := Int.emod_lt_of_pos (x * x + 40692 * x + ((ws.length : Nat) : Int) + 1) (show (0 : Int) < 2147483629 by decide)
  generalize ey : (x * x + 40692 * x + ((ws.length : Nat) : Int) + 1) % 2147483629 = y at y0 y1
  have hx64 : x.natAbs < 18446744073709551616 := by omega
  have go : ∀ N : Mm, l__cond_1 [.val (.int num), .val (.int most), .own (ws.map D.str), .val (.ref M.length), .val (.int room), .val (.int x), s6, s7] N = m76__cond_2 [.val (.int num), .val (.int most), .own (ws.map D.str), .val (.ref M.length), .val (.int room), .val (.int y), .val (.int (y / 7)), s7] N := fun N => by
    unfold l__cond_1
    walk_at "all"
    rw [if_pos (.inl hx64)]
    walk_at "all"
    rw [ey]
    unfold m76__cond_1
    walk_at "all"
  rw [go]
  generalize y / 7 = z
  have wl : (ws.map D.str).length < 16777216 := by rw [List.length_map]; omega
  cases p with
  | true =>
    have go2 : m76__cond_2 [.val (.int num), .val (.int most), .own (ws.map D.str), .val (.ref M.length), .val (.int room), .val (.int y), .val (.int z), s7] (M ++ [pc (true :: pd)]) = m76__cond_3 [.val (.int num), .val (.int most), .own (ws.map D.str), .val (.ref M.length), .val (.int room), .val (.int y), .val (.int z), .val (.str "cond")] (M ++ [pc pd]) := by
      rw [pc_t]
      unfold m76__cond_2
      walk_at "all"
      rw [pz_rev]
      walk_at "all"
      rfl
    rw [go2]
    by_cases c1 : (4 : Int) ≤ room ∧ z % 4 = 1
    · obtain ⟨w, ew⟩ := two_ok (a := "and") (b := "or") (k := z / 4)
      refine ⟨y, w, true :: true :: pd, room - 4, .val (.int z), .val (.str "cond"), [pc pd], ?_, y0, y1, ?_⟩
      · unfold m76__cond_3
        walk_at "all"
        simp only [c1.1, c1.2]
        walk_at "all"
        rw [ew]
        walk_at "all"
        rw [if_pos (by omega)]
        unfold pc
        walk_at "all"
        rw [List.length_reverse, List.length_map, if_pos (by omega)]
        walk_at "all"
        rw [pc2t, ws_app, show (room : Int) - 4 = ((room - 4 : Nat) : Int) by omega]
        try rfl
      · simp only [pw, List.map_cons, List.sum_cons, if_true]
        omega
    · have s1 : (if (4 : Int) ≤ (room : Int) then some (Res.v (D.bl (decide (z % 4 = 1))), M ++ [pc pd]) else some (Res.v (D.bl false), M ++ [pc pd])) = some (Res.v (D.bl false), M ++ [pc pd]) := by
        by_cases q : (4 : Int) ≤ room
        · rw [if_pos q, decide_eq_false (fun q2 => c1 ⟨q, q2⟩)]
        · rw [if_neg q]
      by_cases c2 : (1 : Int) ≤ room ∧ z % 4 = 2
      · refine ⟨y, "not", true :: pd, room - 1, .val (.int z), .val (.str "cond"), [], ?_, y0, y1, ?_⟩
        · unfold m76__cond_3
          walk_at "all"
          rw [s1]
          walk_at "all"
          simp only [c2.1, c2.2]
          walk_at "all"
          rw [if_pos (by omega)]
          unfold pc
          walk_at "all"
          rw [List.length_reverse, List.length_map, if_pos (by omega)]
          walk_at "all"
          rw [pc1t, ws_app, show (room : Int) - 1 = ((room - 1 : Nat) : Int) by omega]
          try rfl
        · simp only [pw, List.map_cons, List.sum_cons, if_true]
          omega
      · have s2 : (if (1 : Int) ≤ (room : Int) then some (Res.v (D.bl (decide (z % 4 = 2))), M ++ [pc pd]) else some (Res.v (D.bl false), M ++ [pc pd])) = some (Res.v (D.bl false), M ++ [pc pd]) := by
          by_cases q : (1 : Int) ≤ room
          · rw [if_pos q, decide_eq_false (fun q2 => c2 ⟨q, q2⟩)]
          · rw [if_neg q]
        obtain ⟨w, ew⟩ := two_ok (a := "<") (b := "=") (k := z / 4)
        refine ⟨y, w, false :: false :: pd, room, .val (.int z), .val (.str "cond"), [pc pd], ?_, y0, y1, ?_⟩
        · unfold m76__cond_3
          walk_at "all"
          rw [s1]
          walk_at "all"
          rw [s2]
          walk_at "all"
          rw [ew]
          walk_at "all"
          rw [if_pos (by omega)]
          unfold pc
          walk_at "all"
          rw [List.length_reverse, List.length_map, if_pos (by omega)]
          walk_at "all"
          rw [pc2f, ws_app]
          try rfl
        · simp only [pw, List.map_cons, List.sum_cons, if_true]
          simp
          omega
  | false =>
    have go2 : m76__cond_2 [.val (.int num), .val (.int most), .own (ws.map D.str), .val (.ref M.length), .val (.int room), .val (.int y), .val (.int z), s7] (M ++ [pc (false :: pd)]) = m76__cond_3 [.val (.int num), .val (.int most), .own (ws.map D.str), .val (.ref M.length), .val (.int room), .val (.int y), .val (.int z), .val (.str "expr")] (M ++ [pc pd]) := by
      rw [pc_f]
      unfold m76__cond_2
      walk_at "all"
      rw [pz_rev]
      walk_at "all"
      rfl
    rw [go2]
    by_cases c1 : (2 : Int) ≤ room ∧ z % 3 = 1
    · obtain ⟨w, ew⟩ := five_ok (k := z / 3)
      refine ⟨y, w, false :: false :: pd, room - 2, .val (.int z), .val (.str "expr"), [pc pd], ?_, y0, y1, ?_⟩
      · unfold m76__cond_3
        walk_at "all"
        simp only [eq_ec]
        walk_at "all"
        simp only [eq_ec]
        walk_at "all"
        simp only [eq_ec]
        walk_at "all"
        simp only [c1.1, c1.2]
        walk_at "all"
        rw [ew]
        walk_at "all"
        rw [if_pos (by omega)]
        unfold pc
        walk_at "all"
        rw [List.length_reverse, List.length_map, if_pos (by omega)]
        walk_at "all"
        rw [pc2f, ws_app, show (room : Int) - 2 = ((room - 2 : Nat) : Int) by omega]
        try rfl
      · simp only [pw, List.map_cons, List.sum_cons]
        simp
        omega
    · have s1 : (if (2 : Int) ≤ (room : Int) then some (Res.v (D.bl (decide (z % 3 = 1))), M ++ [pc pd]) else some (Res.v (D.bl false), M ++ [pc pd])) = some (Res.v (D.bl false), M ++ [pc pd]) := by
        by_cases q : (2 : Int) ≤ room
        · rw [if_pos q, decide_eq_false (fun q2 => c1 ⟨q, q2⟩)]
        · rw [if_neg q]
      obtain ⟨w, ew⟩ := leaf_ok (x := z / 3) (L := "tv") ⟨by decide +kernel, fun c hc => by revert c; decide +kernel⟩
      refine ⟨y, w, pd, room, .val (.int z), .val (.str "expr"), [], ?_, y0, y1, ?_⟩
      · unfold m76__cond_3
        walk_at "all"
        simp only [eq_ec]
        walk_at "all"
        simp only [eq_ec]
        walk_at "all"
        simp only [eq_ec]
        walk_at "all"
        rw [s1]
        walk_at "all"
        rw [ew]
        walk_at "all"
        rw [if_pos (by omega), ws_app]
        walk_at "all"
      · simp only [pw, List.map_cons, List.sum_cons]
        simp
        omega
variable {M : Mm}
theorem cd_ok {num : Int} {most : Nat} (hm : 3 ≤ most ∧ most ≤ 40) : ∃ (ws : List Str) (E : Mm), ws.length ≤ most ∧ g__cond [.int num, .int most] M = some (.v (.lst (ws.map D.str)), M ++ E) := by
  have lp : ∃ (ws : List Str) (E : Mm) (s3 s4 s5 s6 s7 : E3.Slot), ws.length ≤ most ∧ sWhile 1000 t__cond_1 l__cond_1 [.val (.int num), .val (.int most), .own [], .val (.ref M.length), .val (.int ((most - 3 : Nat) : Int)), .val (.int (num % 2147483629)), .un, .un] (M ++ [pc [true]]) = some (.nx [.val (.int num), .val (.int most), .own (ws.map D.str), s3, s4, s5, s6, s7], M ++ E) := by
    refine while_by (Q := fun o => ∃ (ws : List Str) (E : Mm) (s3 s4 s5 s6 s7 : E3.Slot), ws.length ≤ most ∧ o = some (.nx [.val (.int num), .val (.int most), .own (ws.map D.str), s3, s4, s5, s6, s7], M ++ E)) (fun m env N => ∃ (ws : List Str) (E : Mm) (pd : List Bool) (room : Nat) (x : Int) (s6 s7 : E3.Slot), env = [.val (.int num), .val (.int most), .own (ws.map D.str), .val (.ref (M ++ E).length), .val (.int room), .val (.int x), s6, s7] ∧ N = M ++ E ++ [pc pd] ∧ m = pw pd + room ∧ ws.length + pw pd + room = most ∧ 0 ≤ x ∧ x < 2147483629) ⟨pw [true] + (most - 3), by simp only [pw, List.map_cons, List.map_nil, List.sum_cons, List.sum_nil, if_true]; omega, [], [], [true], most - 3, _, .un, .un, by rw [List.append_nil]; rfl, by rw [List.append_nil], rfl, by simp only [pw, List.map_cons, List.map_nil, List.sum_cons, List.sum_nil, if_true, List.length_nil]; omega, Int.emod_nonneg _ (by decide), Int.emod_lt_of_pos _ (by decide)⟩ ?_
    rintro m env N ⟨ws, E, pd, room, x, s6, s7, rfl, rfl, rfl, hb, x0, x1⟩
    have hlp : pd.length ≤ pw pd := by
      clear hb
      induction pd with
      | nil => exact Nat.le_refl _
      | cons p pd ih =>
        simp only [pw, List.map_cons, List.sum_cons, List.length_cons] at *
        cases p <;> simp <;> omega
    refine ⟨!pd.isEmpty, M ++ E ++ [pc pd], ?_, ?_⟩
    · unfold t__cond_1 pc
      walk_at "all"
      rw [o_neE]
      · walk_at "all"
        rw [List.isEmpty_reverse, List.isEmpty_map]
      · have : ∀ ds : List D, (∀ d ∈ ds, d.dep = 0) → D.deps ds = 0 := fun ds => by
          induction ds with
          | nil => intro _; rfl
          | cons d ds ih => intro h; simp only [D.deps, h d List.mem_cons_self, ih (fun e he => h e (List.mem_cons_of_mem _ he))]; rfl
        rw [this _ (fun d hd => by
          rw [List.mem_reverse, List.mem_map] at hd
          obtain ⟨p, _, rfl⟩ := hd
          rfl)]
        omega
    · cases pd with
      | nil =>
        rw [if_neg (by simp)]
        exact ⟨ws, E ++ [pc []], _, _, _, _, _, by omega, by rw [List.append_assoc]⟩
      | cons p pd =>
        rw [if_pos (by simp)]
        obtain ⟨y, w, pd', room', t6, t7, E2, e, y0, y1, hpw⟩ := cd_turn (M := M ++ E) (num := num) (most := most) (s6 := s6) (s7 := s7) (ws := ws) (p := p) (pd := pd) (room := room) (by omega) (by rw [List.length_cons] at hlp; omega) x0 x1
        rw [e]
        refine ⟨pw pd' + room', by omega, ws ++ [w], E ++ E2, pd', room', y, t6, t7, by rw [List.append_assoc], by rw [List.append_assoc M E E2], rfl, by rw [List.length_append, List.length_singleton]; omega, y0, y1⟩
  obtain ⟨ws, E, s3, s4, s5, s6, s7, h4, lp⟩ := lp
  refine ⟨ws, E, h4, ?_⟩
  have e0 : M ++ [Cl.lst [.str "cond"]] = M ++ [pc [true]] := rfl
  unfold g__cond b__cond
  walk_at "all"
  unfold n__cond_1
  walk_at "all"
  unfold n__cond_2
  walk_at "all"
  unfold n__cond_3
  walk_at "all"
  unfold n__cond_4
  rw [q_seq, e0, show (most : Int) - 3 = ((most - 3 : Nat) : Int) by omega, lp]
  unfold n__cond_5
  walk_at "all"
variable {M : Mm}
structure Rw where
 w : Str
 nm : Str
 fs : List Str
 rest : List Str
def rD (r : Rw) : D := .tup [.str r.w, .str r.nm, .tup (r.fs.map .str), .tup (r.rest.map .str)]
inductive RK (ab : List Str) : Rw → Prop
 | inn {nm : Str} : RK ab ⟨"in", nm, [], []⟩
 | one {w nm f : Str} {rest : List Str} : (w = "keep" ∨ w = "turn" ∨ w = "share" ∨ w = "fixed" ∨ w = "gap" ∨ w = "out") → f ∈ ab → RK ab ⟨w, nm, [f], rest⟩
 | pour {nm : Str} {fs : List Str} : 2 ≤ fs.length → fs.length ≤ 8 → (∀ f ∈ fs, f ∈ ab) → RK ab ⟨"pour", nm, fs, []⟩
 | slide {nm f fold : Str} {a b : Int} : f ∈ ab → 1 ≤ b → b ≤ a → a ≤ 8 * b → a ≤ 1000000000000 → RK ab ⟨"slide", nm, [f], [shw a, shw b, fold]⟩
 | join {nm f g : Str} {rest : List Str} : f ∈ ab → g ∈ ab → RK ab ⟨"join", nm, [f, g], rest⟩
def RR (ab : List Str) (M : Mm) (o : E3.OS) : Prop := ∃ r E, RK ab r ∧ o = some (.rt (rD r), M ++ E)
theorem RR.no {ab : List Str} {o : E3.OS} {r : Rw} (h : RK ab r) (e : o = some (.rt (rD r), M)) : RR ab M o := ⟨r, [], h, by rw [List.append_nil]; exact e⟩
theorem lg_of {n : Int} (h0 : 0 ≤ n) (h1 : n < 10000000000000) : n.natAbs.log2 < 1920 := log_nat (by omega)
theorem tv_ok : LG "tv" := ⟨by decide +kernel, fun c hc => by revert c; decide +kernel⟩
theorem tvw_ok : LG "tvw" := ⟨by decide +kernel, fun c hc => by revert c; decide +kernel⟩
section
variable {k pick wide : Int} {xs : List D} {j : Nat} {nm fold f0 f1 : Str} {fr ab : List Str} {s8 s9 : E3.Slot} {x4 x5 x6 x7 : Int}
theorem nr14 (h0 : f0 ∈ ab) : RR ab M (n__row_14 [.val (.int k), .val (.lst xs), .val (.ref j), .val (.str nm), .val (.int pick), .val (.lst ((f0 :: f1 :: fr).map .str)), .val (.str fold), .val (.int wide), s8, s9] M) := by
 refine RR.no (r := ⟨"out", nm, [f0], []⟩) (.one (by simp) h0) ?_
 unfold n__row_14
 walk_at "all"
 rfl
theorem nr13 (h0 : f0 ∈ ab) (h1 : f1 ∈ ab) (w0 : 1 ≤ wide) (w1 : wide ≤ 1000000000000) (e6 : atI xs 6 = some (.int x6)) (e7 : atI xs 7 = some (.int x7)) : RR ab M (n__row_13 [.val (.int k), .val (.lst xs), .val (.ref j), .val (.str nm), .val (.int pick), .val (.lst ((f0 :: f1 :: fr).map .str)), .val (.str fold), .val (.int wide), s8, s9] M) := by
 by_cases h : pick = 9
 ·obtain ⟨ws, wl, e⟩ := gen_ok (M := M) (L := "tvw") (num := x6) (most := (1 + x7 % 35).toNat) tvw_ok (by omega)
  rw [show (((1 + x7 % 35).toNat : Nat) : Int) = 1 + x7 % 35 by omega] at e
  refine RR.no (r := ⟨"join", nm, [f0, f1], shw (wide - 1) :: ws⟩) (.join h0 h1) ?_
  unfold n__row_13
  walk_at "all"
  simp only [h]
  walk_at "all"
  rw [e6]
  walk_at "all"
  rw [e7]
  walk_at "all"
  rw [e]
  walk_at "all"
  rw [if_pos (lg_of (by omega) (by omega))]
  walk_at "all"
  rw [if_pos (by omega)]
  walk_at "all"
  rfl
 ·unfold n__row_13
  walk_at "all"
  simp only [h]
  walk_at "all"
  exact nr14 h0
theorem nr12 (h0 : f0 ∈ ab) (h1 : f1 ∈ ab) (w0 : 1 ≤ wide) (w1 : wide ≤ 1000000000000) (e6 : atI xs 6 = some (.int x6)) (e7 : atI xs 7 = some (.int x7)) : RR ab M (n__row_12 [.val (.int k), .val (.lst xs), .val (.ref j), .val (.str nm), .val (.int pick), .val (.lst ((f0 :: f1 :: fr).map .str)), .val (.str fold), .val (.int wide), s8, s9] M) := by
 by_cases h : pick = 8
 ·refine RR.no (r := ⟨"gap", nm, [f0], [shw wide, fold]⟩) (.one (by simp) h0) ?_
  unfold n__row_12
  walk_at "all"
  simp only [h]
  walk_at "all"
  rw [if_pos (lg_of (by omega) (by omega))]
  walk_at "all"
  rfl
 ·unfold n__row_12
  walk_at "all"
  simp only [h]
  walk_at "all"
  exact nr13 h0 h1 w0 w1 e6 e7
theorem nr11 (h0 : f0 ∈ ab) (h1 : f1 ∈ ab) (w0 : 1 ≤ wide) (w1 : wide ≤ 1000000000000) (e6 : atI xs 6 = some (.int x6)) (e7 : atI xs 7 = some (.int x7)) (p7 : 0 ≤ x7 ∧ x7 < 715827877) : RR ab M (n__row_11 [.val (.int k), .val (.lst xs), .val (.ref j), .val (.str nm), .val (.int pick), .val (.lst ((f0 :: f1 :: fr).map .str)), .val (.str fold), .val (.int wide), s8, s9] M) := by
 by_cases h : pick = 7
 ·have m0 := Int.emod_nonneg (x7 * 48271 * 7919) (show (7 * wide + 1) ≠ 0 by omega)
  have m1 := Int.emod_lt_of_pos (x7 * 48271 * 7919) (show 0 < 7 * wide + 1 by omega)
  generalize em : x7 * 48271 * 7919 % (7 * wide + 1) = q at m0 m1
  have hq : ∃ a : Int, (if wide + q < 1000000000000 then wide + q else 1000000000000) = a ∧ wide ≤ a ∧ a ≤ 8 * wide ∧ a ≤ 1000000000000 := by
   split
   ·exact ⟨_, rfl, by omega, by omega, by omega⟩
   ·exact ⟨_, rfl, by omega, by omega, by omega⟩
  obtain ⟨a, ea, a0, a1, a2⟩ := hq
  refine RR.no (r := ⟨"slide", nm, [f0], [shw a, shw wide, fold]⟩) (.slide h0 w0 a0 a1 a2) ?_
  unfold n__row_11
  walk_at "all"
  simp only [h]
  walk_at "all"
  rw [e7]
  walk_at "all"
  rw [if_pos (by omega), em]
  walk_at "all"
  rw [ea, if_pos (lg_of (by omega) (by omega))]
  walk_at "all"
  rw [if_pos (lg_of (by omega) (by omega))]
  walk_at "all"
  rfl
 ·unfold n__row_11
  walk_at "all"
  simp only [h]
  walk_at "all"
  exact nr12 h0 h1 w0 w1 e6 e7
end
variable {M : Mm}
section
variable {k pick wide : Int} {xs : List D} {j : Nat} {nm fold f0 f1 : Str} {fr ab : List Str} {s8 s9 : E3.Slot} {x4 x5 x6 x7 : Int}
theorem nr10 (h0 : f0 ∈ ab) (h1 : f1 ∈ ab) (w0 : 1 ≤ wide) (w1 : wide ≤ 1000000000000) (e6 : atI xs 6 = some (.int x6)) (e7 : atI xs 7 = some (.int x7)) (p7 : 0 ≤ x7 ∧ x7 < 715827877) : RR ab M (n__row_10 [.val (.int k), .val (.lst xs), .val (.ref j), .val (.str nm), .val (.int pick), .val (.lst ((f0 :: f1 :: fr).map .str)), .val (.str fold), .val (.int wide), s8, s9] M) := by
 by_cases h : pick = 6
 ·refine RR.no (r := ⟨"fixed", nm, [f0], [shw wide, fold]⟩) (.one (by simp) h0) ?_
  unfold n__row_10
  walk_at "all"
  simp only [h]
  walk_at "all"
  rw [if_pos (lg_of (by omega) (by omega))]
  walk_at "all"
  rfl
 ·unfold n__row_10
  walk_at "all"
  simp only [h]
  walk_at "all"
  exact nr11 h0 h1 w0 w1 e6 e7 p7
theorem nr9 (hf : ∀ f ∈ f0 :: f1 :: fr, f ∈ ab) (hl : fr.length = 6) (w0 : 1 ≤ wide) (w1 : wide ≤ 1000000000000) (e4 : atI xs 4 = some (.int x4)) (e6 : atI xs 6 = some (.int x6)) (e7 : atI xs 7 = some (.int x7)) (p4 : 0 ≤ x4 ∧ x4 < 715827877) (p7 : 0 ≤ x7 ∧ x7 < 715827877) : RR ab M (n__row_9 [.val (.int k), .val (.lst xs), .val (.ref j), .val (.str nm), .val (.int pick), .val (.lst ((f0 :: f1 :: fr).map .str)), .val (.str fold), .val (.int wide), s8, s9] M) := by
 by_cases h : pick = 4 ∨ pick = 5
 ·have hb : 2 + x4 % 7 = (((2 + x4 % 7).toNat : Nat) : Int) := by omega
  have hlen : ((f0 :: f1 :: fr).take (2 + x4 % 7).toNat).length = (2 + x4 % 7).toNat := by rw [List.length_take, List.length_cons, List.length_cons, hl]; omega
  refine RR.no (r := ⟨"pour", nm, (f0 :: f1 :: fr).take (2 + x4 % 7).toNat, []⟩) (.pour (by rw [hlen]; omega) (by rw [hlen]; omega) fun f hm => hf f (List.mem_of_mem_take hm)) ?_
  have t : (if pick = 4 then some (Res.v (D.bl true), M) else some (Res.v (D.bl (decide (pick = 5))), M)) = some (Res.v (D.bl true), M) := by
   rcases h with h | h
   ·rw [if_pos h]
   ·rw [h]; rfl
  unfold n__row_9
  generalize hG : (f0 :: f1 :: fr) = G at *
  walk_at "all"
  rw [t]
  walk_at "all"
  rw [e4]
  walk_at "all"
  rw [cut_mapL, cut_to _ (by omega)]
  walk_at "all"
  rfl
 ·have t : (if pick = 4 then some (Res.v (D.bl true), M) else some (Res.v (D.bl (decide (pick = 5))), M)) = some (Res.v (D.bl false), M) := by
   rw [if_neg (fun z => h (.inl z)), decide_eq_false (fun z => h (.inr z))]
  unfold n__row_9
  walk_at "all"
  rw [t]
  walk_at "all"
  exact nr10 (hf f0 (by simp)) (hf f1 (by simp)) w0 w1 e6 e7 p7
theorem nr8 (hf : ∀ f ∈ f0 :: f1 :: fr, f ∈ ab) (hl : fr.length = 6) (w0 : 1 ≤ wide) (w1 : wide ≤ 1000000000000) (e4 : atI xs 4 = some (.int x4)) (e5 : atI xs 5 = some (.int x5)) (e6 : atI xs 6 = some (.int x6)) (e7 : atI xs 7 = some (.int x7)) (p4 : 0 ≤ x4 ∧ x4 < 715827877) (p7 : 0 ≤ x7 ∧ x7 < 715827877) : RR ab M (n__row_8 [.val (.int k), .val (.lst xs), .val (.ref j), .val (.str nm), .val (.int pick), .val (.lst ((f0 :: f1 :: fr).map .str)), .val (.str fold), .val (.int wide), s8, s9] M) := by
 by_cases h : pick = 3
 ·have m0 := Int.emod_nonneg x5 (show 1 + x4 % 8 ≠ 0 by omega)
  have m1 := Int.emod_lt_of_pos x5 (show 0 < 1 + x4 % 8 by omega)
  refine RR.no (r := ⟨"share", nm, [f0], [shw (x5 % (1 + x4 % 8)), shw (1 + x4 % 8)]⟩) (.one (by simp) (hf f0 (by simp))) ?_
  unfold n__row_8
  walk_at "all"
  simp only [h]
  walk_at "all"
  rw [e5]
  walk_at "all"
  rw [e4]
  walk_at "all"
  rw [if_pos (by omega)]
  walk_at "all"
  rw [if_pos (lg_of m0 (by omega))]
  walk_at "all"
  rw [e4]
  walk_at "all"
  rw [if_pos (lg_of (by omega) (by omega))]
  walk_at "all"
  rfl
 ·unfold n__row_8
  walk_at "all"
  simp only [h]
  walk_at "all"
  exact nr9 hf hl w0 w1 e4 e6 e7 p4 p7
theorem nr7 (hf : ∀ f ∈ f0 :: f1 :: fr, f ∈ ab) (hl : fr.length = 6) (w0 : 1 ≤ wide) (w1 : wide ≤ 1000000000000) (e4 : atI xs 4 = some (.int x4)) (e5 : atI xs 5 = some (.int x5)) (e6 : atI xs 6 = some (.int x6)) (e7 : atI xs 7 = some (.int x7)) (p4 : 0 ≤ x4 ∧ x4 < 715827877) (p7 : 0 ≤ x7 ∧ x7 < 715827877) : RR ab M (n__row_7 [.val (.int k), .val (.lst xs), .val (.ref j), .val (.str nm), .val (.int pick), .val (.lst ((f0 :: f1 :: fr).map .str)), .val (.str fold), .val (.int wide), s8, s9] M) := by
 by_cases h : pick = 2
 ·obtain ⟨ws, wl, e⟩ := gen_ok (M := M) (L := "tv") (num := x6) (most := (1 + x7 % 36).toNat) tv_ok (by omega)
  rw [show (((1 + x7 % 36).toNat : Nat) : Int) = 1 + x7 % 36 by omega] at e
  refine RR.no (r := ⟨"turn", nm, [f0], ws⟩) (.one (by simp) (hf f0 (by simp))) ?_
  unfold n__row_7
  walk_at "all"
  simp only [h]
  walk_at "all"
  rw [e6]
  walk_at "all"
  rw [e7]
  walk_at "all"
  rw [e]
  walk_at "all"
  rfl
 ·unfold n__row_7
  walk_at "all"
  simp only [h]
  walk_at "all"
  exact nr8 hf hl w0 w1 e4 e5 e6 e7 p4 p7
theorem nr6 (hf : ∀ f ∈ f0 :: f1 :: fr, f ∈ ab) (hl : fr.length = 6) (w0 : 1 ≤ wide) (w1 : wide ≤ 1000000000000) (e4 : atI xs 4 = some (.int x4)) (e5 : atI xs 5 = some (.int x5)) (e6 : atI xs 6 = some (.int x6)) (e7 : atI xs 7 = some (.int x7)) (p4 : 0 ≤ x4 ∧ x4 < 715827877) (p7 : 0 ≤ x7 ∧ x7 < 715827877) : RR ab M (n__row_6 [.val (.int k), .val (.lst xs), .val (.ref j), .val (.str nm), .val (.int pick), .val (.lst ((f0 :: f1 :: fr).map .str)), .val (.str fold), .val (.int wide), s8, s9] M) := by
 by_cases h : pick = 1
 ·obtain ⟨ws, E, wl, e⟩ := cd_ok (M := M) (num := x6) (most := (3 + x7 % 34).toNat) (by omega)
  rw [show (((3 + x7 % 34).toNat : Nat) : Int) = 3 + x7 % 34 by omega] at e
  refine ⟨⟨"keep", nm, [f0], ws⟩, E, .one (by simp) (hf f0 (by simp)), ?_⟩
  unfold n__row_6
  walk_at "all"
  simp only [h]
  walk_at "all"
  rw [e6]
  walk_at "all"
  rw [e7]
  walk_at "all"
  rw [e]
  walk_at "all"
  rfl
 ·unfold n__row_6
  walk_at "all"
  simp only [h]
  walk_at "all"
  exact nr7 hf hl w0 w1 e4 e5 e6 e7 p4 p7
end
variable {M : Mm}
theorem pick3 {k : Int} {a b c : D} : atI [a, b, c] (k % 3) = some a ∨ atI [a, b, c] (k % 3) = some b ∨ atI [a, b, c] (k % 3) = some c := by
 have : k % 3 = 0 ∨ k % 3 = 1 ∨ k % 3 = 2 := by omega
 rcases this with e | e | e <;> rw [e]
 ·exact .inl at0
 ·exact .inr (.inl at1)
 ·exact .inr (.inr at2)
theorem pick4 {k : Int} {a b c d : Str} : ∃ x : Str, atI [D.str a, .str b, .str c, .str d] (k % 4) = some (.str x) := by
 have : k % 4 = 0 ∨ k % 4 = 1 ∨ k % 4 = 2 ∨ k % 4 = 3 := by omega
 rcases this with e | e | e | e <;> rw [e]
 ·exact ⟨_, at0⟩
 ·exact ⟨_, at1⟩
 ·exact ⟨_, at2⟩
 ·exact ⟨_, at3⟩
section
variable {k pick : Int} {xs : List D} {j : Nat} {nm f0 f1 : Str} {fr ab : List Str} {s6 s7 s8 s9 : E3.Slot} {x4 x5 x6 x7 : Int}
theorem nr4 (hf : ∀ f ∈ f0 :: f1 :: fr, f ∈ ab) (hl : fr.length = 6) (e4 : atI xs 4 = some (.int x4)) (e5 : atI xs 5 = some (.int x5)) (e6 : atI xs 6 = some (.int x6)) (e7 : atI xs 7 = some (.int x7)) (p4 : 0 ≤ x4 ∧ x4 < 715827877) (p7 : 0 ≤ x7 ∧ x7 < 715827877) : RR ab M (n__row_4 [.val (.int k), .val (.lst xs), .val (.ref j), .val (.str nm), .val (.int pick), .val (.lst ((f0 :: f1 :: fr).map .str)), s6, s7, s8, s9] M) := by
 obtain ⟨fold, ef⟩ := pick4 (k := x4) (a := "sum") (b := "count") (c := "most") (d := "least")
 have hq : ∃ q : Int, 0 < q ∧ q ≤ 1000000000000 ∧ atI [D.int 9, .int 1000000, .int 1000000000000] (x6 % 3) = some (.int q) := by
  rcases pick3 (k := x6) (a := D.int 9) (b := .int 1000000) (c := .int 1000000000000) with e | e | e
  ·exact ⟨_, by decide, by decide, e⟩
  ·exact ⟨_, by decide, by decide, e⟩
  ·exact ⟨_, by decide, by decide, e⟩
 obtain ⟨q, q0, q1, eq⟩ := hq
 have m0 := Int.emod_nonneg (x5 * 48271 * 7919) (show q ≠ 0 by omega)
 have m1 := Int.emod_lt_of_pos (x5 * 48271 * 7919) q0
 unfold n__row_4
 walk_at "all"
 rw [e4]
 walk_at "all"
 rw [ef]
 unfold n__row_5
 walk_at "all"
 rw [e5]
 walk_at "all"
 rw [e6]
 walk_at "all"
 rw [eq]
 walk_at "all"
 rw [if_pos q0]
 walk_at "all"
 exact nr6 hf hl (by omega) (by omega) e4 e5 e6 e7 p4 p7
theorem e_row {x : Int} (hj : M[j]? = some (.lst (ab.map .str))) (hn : ab ≠ []) (hlen : ab.length ≤ 1000) : ∃ f ∈ ab, e__row_1 [.val (.int x), .val (.ref j)] M = some (.v (.str f), M) := by
 have hp : 0 < ab.length := List.length_pos_iff.mpr hn
 have p0 := Int.emod_nonneg x (show (ab.length : Int) ≠ 0 by omega)
 have p1 := Int.emod_lt_of_pos x (show (0 : Int) < (ab.length : Int) by omega)
 have hx : (ab.map D.str)[(x % (ab.length : Int)).toNat]? = some (.str (ab[(x % (ab.length : Int)).toNat]'(by omega))) := by rw [List.getElem?_map, List.getElem?_eq_getElem (by omega)]; rfl
 refine ⟨_, List.getElem_mem (show (x % (ab.length : Int)).toNat < ab.length by omega), ?_⟩
 have ha := atI_nat hx
 rw [Int.toNat_of_nonneg p0] at ha
 unfold e__row_1
 have hv : vw M (.ref j) = .lst (ab.map .str) := by simp only [vw, hj]
 walk_at "all"
 simp only [hv]
 walk_at "all"
 rw [if_pos (by omega)]
 walk_at "all"
 simp only [hv]
 walk_at "all"
 rw [ha]
 walk_at "all"
theorem deps_str : ∀ l : List Str, D.deps (l.map .str) = 0
 | [] => rfl
 | a :: l => by simp only [List.map_cons, D.deps, deps_str l]; rfl
theorem nr2 (hj : M[j]? = some (.lst (ab.map .str))) (hab : ab.length ≤ 1000) {ns : List Int} (hns : ns.length = 11) (hd : dwn ns) : RR ab M (n__row_2 [.val (.int k), .val (.lst (ns.map .int)), .val (.ref j), .val (.str nm), .val (.int pick), .un, .un, .un, .un, .un] M) := by
 have hv : vw M (.ref j) = .lst (ab.map .str) := by simp only [vw, hj]
 have ix : ∀ i : Nat, i < 11 → ∃ x, atI (ns.map D.int) (i : Int) = some (.int x) ∧ 0 ≤ x ∧ x < 715827877 := fun i hi => by
  have hx : (ns.map D.int)[i]? = some (.int (ns[i]'(by omega))) := by rw [List.getElem?_map, List.getElem?_eq_getElem (by omega)]; rfl
  exact ⟨_, atI_nat hx, hd _ (List.getElem_mem (by omega))⟩
 by_cases h : ab = [] ∨ pick = 0
 ·refine RR.no (r := ⟨"in", nm, [], []⟩) .inn ?_
  unfold n__row_2
  walk_at "all"
  rw [hv, o_eqE (by rw [deps_str]; decide)]
  walk_at "all"
  have t : (if (ab.map D.str).isEmpty = true then some (Res.v (D.bl true), M) else some (Res.v (D.bl (decide (pick = 0))), M)) = some (Res.v (D.bl true), M) := by
   rcases h with h | h
   ·rw [h]; rfl
   ·rw [h]; simp
  rw [t]
  walk_at "all"
  rfl
 ·have hn : ab ≠ [] := fun z => h (.inl z)
  obtain ⟨x4, e4, p4⟩ := ix 4 (by decide)
  obtain ⟨x5, e5, p5⟩ := ix 5 (by decide)
  obtain ⟨x6, e6, p6⟩ := ix 6 (by decide)
  obtain ⟨x7, e7, p7⟩ := ix 7 (by decide)
  have t : (if (ab.map D.str).isEmpty = true then some (Res.v (D.bl true), M) else some (Res.v (D.bl (decide (pick = 0))), M)) = some (Res.v (D.bl false), M) := by
   rw [if_neg (by simpa using hn), decide_eq_false (fun z => h (.inr z))]
  have hF : ∃ F : Int → Str, ∀ x, F x ∈ ab ∧ e__row_1 [.val (.int x), .val (.ref j)] M = some (.v (.str (F x)), M) := ⟨fun x => (e_row (x := x) hj hn hab).choose, fun x => (e_row (x := x) hj hn hab).choose_spec⟩
  obtain ⟨F, hF⟩ := hF
  have hcl : ((ns.drop 2).take 8).length = 8 := by rw [List.length_take, List.length_drop]; omega
  have hG : ∃ f0 f1 fr, ((ns.drop 2).take 8).map F = f0 :: f1 :: fr ∧ fr.length = 6 := by
   generalize (ns.drop 2).take 8 = l at hcl
   match l, hcl with
   | a :: b :: r, hc => exact ⟨_, _, _, rfl, by simpa using hc⟩
  obtain ⟨f0, f1, fr, hG, hl⟩ := hG
  have hf : ∀ f ∈ f0 :: f1 :: fr, f ∈ ab := fun f hm => by
   rw [← hG, List.mem_map] at hm
   obtain ⟨x, _, rfl⟩ := hm
   exact (hF x).1
  unfold n__row_2
  walk_at "all"
  rw [hv, o_eqE (by rw [deps_str]; decide)]
  walk_at "all"
  rw [t]
  walk_at "all"
  unfold n__row_3
  walk_at "all"
  rw [cut_mapL, cut_both _ (by decide) (by decide), show ((10 : Int).toNat - (2 : Int).toNat) = 8 by decide, show (2 : Int).toNat = 2 by decide]
  rw [comp_of (fun x : Int => D.int x) (fun x => D.str (F x)) ((ns.drop 2).take 8) [] (fun x _ => (hF x).2) (by rw [sizeLine_eq, hcl]; decide)]
  walk_at "all"
  rw [show ((ns.drop 2).take 8).map (fun x => D.str (F x)) = (f0 :: f1 :: fr).map D.str by rw [← hG, List.map_map]; rfl]
  exact nr4 hf hl e4 e5 e6 e7 p4 p7
end
variable {M : Mm}
theorem sjoin_signs : ∀ cs : List Nat, Str.join (Str.ofString "") (cs.map fun c => (⟨#[c]⟩ : Str)) = (⟨cs.toArray⟩ : Str)
  | [] => rfl
  | [c] => rfl
  | c :: d :: r => by
    have ih := sjoin_signs (d :: r)
    have e0 : (Str.ofString "").cps = #[] := by decide +kernel
    show (⟨#[c]⟩ : Str) ++ Str.ofString "" ++ Str.join (Str.ofString "") ((d :: r).map fun c => (⟨#[c]⟩ : Str)) = _
    rw [ih]
    have e : ((⟨#[c]⟩ : Str) ++ Str.ofString "" ++ (⟨(d :: r).toArray⟩ : Str)).cps = (c :: d :: r).toArray := by
      rw [Str.cps_append, Str.cps_append, e0]
      simp
    exact congrArg Str.mk e
theorem join_signs (cs : List Nat) : Txt.join (Str.ofString "") (cs.map fun c => (⟨#[c]⟩ : Str)) = (⟨cs.toArray⟩ : Str) := by
 show Builtin.Str.glued (Str.ofString "") _ = _
 rw [StrLaws.glued_eq_join]
 exact sjoin_signs cs
theorem signs_len (cs : List Nat) : ((cs.map fun c => (⟨#[c]⟩ : Str)).map (·.length)).sum = cs.length := by
 induction cs with
 | nil => rfl
 | cons c r ih => simp only [List.map_cons, List.sum_cons, ih, List.length_cons]; rw [show (⟨#[c]⟩ : Str).length = 1 from rfl]; omega
theorem slice_tk {x : Str} {j : Int} (h : 0 ≤ j ∧ j ≤ x.length) : cd (Txt.slice x none (some j)) = (cd x).take j.toNat := by
 have := PyProof.Rows.slice_closes_to (x := x) (j := j) ⟨h.1, by show j ≤ ((cd x).length : Int); rw [← len_cd]; exact h.2⟩
 rw [eq_of_beq this]
 show List.take (j - 0).toNat (List.drop (0 : Int).toNat (cd x)) = _
 rw [Int.sub_zero]
 rfl
theorem slice_dr {x : Str} {j : Int} (h : 0 ≤ j ∧ j ≤ x.length) : cd (Txt.slice x (some j) none) = (cd x).drop j.toNat := by
 have := PyProof.Rows.slice_closes_from (x := x) (i := j) ⟨h.1, by show j ≤ ((cd x).length : Int); rw [← len_cd]; exact h.2⟩
 rw [eq_of_beq this]
 show List.take (((cd x).length : Int) - j).toNat (List.drop j.toNat (cd x)) = _
 rw [List.take_of_length_le]
 rw [List.length_drop]
 omega
theorem e_name {i x : Int} (i0 : 0 ≤ i) (i1 : i ≤ 10) : ∃ c : Nat, ∀ M : Mm, e__name_1 [.val (.int i), .val (.int x)] M = some (.v (.str ⟨#[c]⟩), M) := by
 have p0 := Int.emod_nonneg (x / (3 + 7 * i)) (show (26 : Int) ≠ 0 by decide)
 have p1 := Int.emod_lt_of_pos (x / (3 + 7 * i)) (show (0 : Int) < 26 by decide)
 generalize ep : x / (3 + 7 * i) % 26 = y at p0 p1
 have hl : (cd (Str.ofString "abcdefghijklmnopqrstuvwxyz")).length = 26 := by decide +kernel
 have hx := List.getElem?_eq_getElem (show y.toNat < (cd (Str.ofString "abcdefghijklmnopqrstuvwxyz")).length by omega)
 have ha := atI_nat hx
 rw [Int.toNat_of_nonneg p0] at ha
 refine ⟨(cd (Str.ofString "abcdefghijklmnopqrstuvwxyz"))[y.toNat]'(by omega), fun M => ?_⟩
 unfold e__name_1
 walk_at "all"
 rw [if_pos ⟨by omega, by omega⟩]
 walk_at "all"
 rw [ep, if_pos (by decide +kernel), show (Str.ofString "abcdefghijklmnopqrstuvwxyz").cps.toList = cd (Str.ofString "abcdefghijklmnopqrstuvwxyz") from rfl, ha]
 walk_at "all"
theorem strs_map : ∀ l : List Str, strsD (l.map .str) = some l
 | [] => rfl
 | a :: l => by simp only [List.map_cons, strsD, strs_map l]; rfl
theorem name_ok {x k : Int} (hk : 0 ≤ k ∧ k ≤ 1000) : ∃ nm : Str, ∀ M : Mm, g__name [.int x, .int k] M = some (.v (.str nm), M) := by
 have m0 := Int.emod_nonneg x (show (10 : Int) ≠ 0 by decide)
 have m1 := Int.emod_lt_of_pos x (show (0 : Int) < 10 by decide)
 have hF : ∃ F : Nat → Nat, ∀ (M : Mm) (i : Nat), i ≤ 10 → e__name_1 [.val (.int (0 + i)), .val (.int x)] M = some (.v (.str ⟨#[F i]⟩), M) := by
  refine ⟨fun i => if h : i ≤ 10 then (e_name (i := (0 : Int) + i) (x := x) (by omega) (by omega)).choose else 0, fun M i hi => ?_⟩
  simp only [hi, dif_pos]
  exact (e_name (i := (0 : Int) + i) (x := x) (by omega) (by omega)).choose_spec M
 obtain ⟨F, hF⟩ := hF
 have hn : (1 + x % 10).toNat ≤ 10 := by omega
 generalize hw : (⟨((List.range (1 + x % 10).toNat).map F).toArray⟩ : Str) = word
 have hwl : word.length = (1 + x % 10).toNat := by rw [← hw]; show (((List.range (1 + x % 10).toNat).map F).toArray).size = _; simp
 have q0 := Int.emod_nonneg (x / 11) (show (word.length : Int) ≠ 0 by omega)
 have q1 := Int.emod_lt_of_pos (x / 11) (show (0 : Int) < (word.length : Int) by omega)
 have l1 : (Txt.slice word none (some (1 + x / 11 % (word.length : Int)))).length ≤ 10 := by
  rw [len_cd, slice_tk ⟨by omega, by omega⟩, List.length_take, ← len_cd]
  omega
 have l2 : (Txt.slice word (some (1 + x / 11 % (word.length : Int))) none).length ≤ 10 := by
  rw [len_cd, slice_dr ⟨by omega, by omega⟩, List.length_drop, ← len_cd]
  omega
 obtain ⟨wl, _⟩ := dg_sm (i := k) hk.1 (by omega)
 refine ⟨Txt.slice word none (some (1 + x / 11 % (word.length : Int))) ++ shw k ++ Txt.slice word (some (1 + x / 11 % (word.length : Int))) none, fun M => ?_⟩
 unfold g__name b__name
 walk_at "all"
 rw [r_rng1 (by omega)]
 walk_at "all"
 rw [comp_of (fun (i : Nat) => D.int (0 + i)) (fun (i : Nat) => D.str ⟨#[F i]⟩) (List.range (1 + x % 10).toNat) [] (fun i hi => hF M i (by rw [List.mem_range] at hi; omega)) (by rw [sizeLine_eq, List.length_range]; simp; omega)]
 walk_at "all"
 have hj : tJoin (Str.ofString "") [.lst ((List.range (1 + x % 10).toNat).map fun (i : Nat) => D.str ⟨#[F i]⟩)] = some (.str word) := by
  rw [show ((List.range (1 + x % 10).toNat).map fun (i : Nat) => D.str ⟨#[F i]⟩) = (((List.range (1 + x % 10).toNat).map F).map fun c => (⟨#[c]⟩ : Str)).map .str by rw [List.map_map, List.map_map]; rfl]
  simp only [tJoin, strs_map, signs_len, join_signs, List.length_map, List.length_range]
  rw [if_pos ⟨by decide +kernel, by omega⟩, hw]
 rw [hj]
 walk_at "all"
 rw [if_pos (show word.length ≤ 16777216 by omega)]
 walk_at "all"
 rw [if_pos (show (0 : Int) < (word.length : Int) by omega)]
 walk_at "all"
 rw [if_pos (show word.length ≤ 16777216 by omega)]
 walk_at "all"
 rw [if_pos (lg_of hk.1 (by omega))]
 walk_at "all"
 have wl' : (Str.ofString (toString k)).length ≤ 22 := wl
 rw [if_pos (by omega)]
 walk_at "all"
 rw [if_pos (show word.length ≤ 16777216 by omega)]
 walk_at "all"
 rw [if_pos (by rw [strLen_append]; omega)]
 walk_at "all"
 rfl
theorem row_ok {k : Nat} {j : Nat} {ab : List Str} {ns : List Int} (hk : k ≤ 1000) (hj : M[j]? = some (.lst (ab.map .str))) (hab : ab.length ≤ 1000) (hns : ns.length = 11) (hd : dwn ns) : ∃ r E, RK ab r ∧ g__row [.int k, .lst (ns.map .int), .ref j] M = some (.v (rD r), M ++ E) := by
 have ix : ∀ i : Nat, i < 11 → ∃ x, atI (ns.map D.int) (i : Int) = some (.int x) := fun i hi => by
  have hx : (ns.map D.int)[i]? = some (.int (ns[i]'(by omega))) := by rw [List.getElem?_map, List.getElem?_eq_getElem (by omega)]; rfl
  exact ⟨_, atI_nat hx⟩
 obtain ⟨x0, e0⟩ := ix 0 (by decide)
 obtain ⟨x1, e1⟩ := ix 1 (by decide)
 have e0' : atI (ns.map D.int) 0 = some (.int x0) := e0
 have e1' : atI (ns.map D.int) 1 = some (.int x1) := e1
 obtain ⟨nm, en⟩ := name_ok (x := x0) (k := k) (by omega)
 obtain ⟨r, E, hr, e⟩ := nr2 (M := M) (k := k) (nm := nm) (pick := x1 % 11) hj hab hns hd
 refine ⟨r, E, hr, ?_⟩
 unfold g__row b__row
 walk_at "all"
 rw [e0']
 walk_at "all"
 rw [en]
 walk_at "all"
 unfold n__row_1
 walk_at "all"
 rw [e1']
 walk_at "all"
 rw [e]
 walk_at "all"
variable {M : Mm}
theorem vw_r {r : Rw} : vw M (rD r) = rD r := rfl
theorem ix_r0 {r : Rw} : oIx (rD r) (.int 0) = some (.str r.w) := (o_ixT).trans at0
theorem ix_r1 {r : Rw} : oIx (rD r) (.int 1) = some (.str r.nm) := (o_ixT).trans at1
theorem ix_r2 {r : Rw} : oIx (rD r) (.int 2) = some (.tup (r.fs.map .str)) := (o_ixT).trans at2
theorem ix_r3 {r : Rw} : oIx (rD r) (.int 3) = some (.tup (r.rest.map .str)) := (o_ixT).trans at3
local macro_rules | `(tactic| walk_at "all") => `(tactic| try simp only [q_seq, r_nx, r_rt, r_bk, r_ct, r_ex, q_end, q_v, q_vb, r_v, r_vb, r_vo, q_con, r_map, q_1, r_1, q_2, r_2, r_2s, w_int, w_str, w_bl, w_non, w_tup, w_lst, q_tru, q_notv, q_not, r_not, q_and, q_or, q_ite, r_ite, q_nil, q_cons, r_cons, r_conA, q_n, r_n, r_argK, q_tup, q_lst, r_callR, q_call, r_bndK, r_cellD, q_cell, r_listL, q_list, q_srt, q_sl, r_slL, r_slH, q_pno, q_pat, r_pat, r_bndT, q_asg, r_mine, q_mine, q_ret, q_retN, q_drop, r_if, q_if, q_frz, r_frz, q_app, r_app, q_for, r_for, q_ilst, r_ilst, q_rng1, q_fn, r_endR, r_endN, o_addI, o_addL, o_sub, o_fdiv, o_mod, o_pow, o_neg, o_lt, o_le, o_gt, o_ge, o_eqI, o_neI, o_ixL, o_ixT, o_lenL, o_lenT, o_min, o_max, o_truL, o_truB, o_slS, o_slL, o_isiL, sizeLine_eq, Option.map_some, Option.map_none, List.getElem?_cons_zero, List.getElem?_cons_succ, List.set_cons_zero, List.set_cons_succ, List.map_cons, List.map_nil, List.length_cons, List.length_nil, List.length_map, List.replicate, List.cons_append, List.nil_append, List.append_nil, reduceCtorEq, if_true, if_false, reduceIte, Bool.not_true, Bool.not_false, Nat.reduceSub, Nat.reduceAdd, Nat.reduceLeDiff, Nat.reduceLT, Int.reduceLT, Int.reduceLE, Int.reduceAdd, Int.reduceSub, Int.reduceMul, Int.reduceNeg, Int.reduceAbs, Int.reduceEq, Int.reducePow, Int.reduceMod, Int.reduceDiv, Int.reduceToNat, Nat.zero_le, and_true, true_and, and_self, or_true, true_or, Bool.false_eq_true, decide_eq_true_eq, decide_true, decide_false, Bool.not_eq_true', decide_eq_false_iff_not, not_true_eq_false, not_false_eq_true, eq_self, q_comp, r_comp, r_compO, q_capN, q_capC, Option.getD_some, q_isi, r_isi, ty_int, ty_str, ty_bl, ty_non, ty_tup, ty_lst, v_int, v_str, v_bl, v_non, v_tup, v_lst, v_dct, q_unp, r_unp, q_setE0, q_setE1, q_itp, r_itp, r_endX, o_mul, o_abs, List.isEmpty_cons, List.isEmpty_nil, Bool.true_eq_false, Bool.and_self, Bool.and_true, Bool.true_and, Bool.and_false, Bool.false_and, r_bndTx, r_bndKx, r_argKx, r_consx, r_conAx, r_lsC, r_popZ, r_popC, q_pop, r_lsS, r_appC, q_appC, r_argX, q_callX, r_unE, r_tryHn, r_tryHr, r_tryN, r_tryRt, r_tryX, q_try, r_isx, q_isx, r_kin, q_kin, r_kget, q_kget, q_itx, r_itx, q_irv, r_irv, q_irvT, r_irvT, r_mt, q_mt, t_st, q_fst, q_jend, q_jcon, r_jv, q_jval, r_jr, q_jrep, o_cat, o_addS, o_rep, o_ixS, o_lenS, o_str, o_int, o_any, o_tupL, o_inS, o_ninS, o_eqS, o_neS, o_isNn, o_isnI, o_isnN, t_ls, t_txS, t_txI, Bool.true_or, Bool.false_or, Bool.or_true, Bool.or_false, at0, at1, at2, at3, g_end, s_end, w_end, q_loop0, q_loop1, r_stN, r_stC, r_stB, r_stR, r_stX, j_bool_bool, j_int_bool, q_forV, r_forVl, r_forVr, q_lix, r_lix, vw_r, ix_r0, ix_r1, ix_r2, ix_r3])
def RS (rs : List Rw) : Prop := ∀ i (h : i < rs.length), RK ((rs.take i).map Rw.nm) rs[i]
theorem RK.mono {ab ac : List Str} {r : Rw} (h : RK ab r) (s : ∀ f ∈ ab, f ∈ ac) : RK ac r := by
 cases h with
 | inn => exact .inn
 | one h1 h2 => exact .one h1 (s _ h2)
 | pour h1 h2 h3 => exact .pour h1 h2 fun f hf => s f (h3 f hf)
 | slide h1 h2 h3 h4 h5 => exact .slide (s _ h1) h2 h3 h4 h5
 | join h1 h2 => exact .join (s _ h1) (s _ h2)
theorem RS.add {rs : List Rw} {r : Rw} (h : RS rs) (hr : RK (rs.map Rw.nm) r) : RS (rs ++ [r]) := fun i hi => by
 rw [List.length_append, List.length_singleton] at hi
 by_cases z : i < rs.length
 ·rw [List.getElem_append_left z, List.take_append_of_le_length (by omega)]
  exact h i z
 ·have e : i = rs.length := by omega
  subst e
  rw [List.getElem_append_right (Nat.le_refl _), List.take_append_of_le_length (Nat.le_refl _), List.take_length]
  simpa using hr
theorem rows_ok {cs : List Int} (hc : cs.length ≤ 60) : ∃ rs E, RS rs ∧ rs.length = cs.length ∧ g__rows [.lst (cs.map .int)] M = some (.v (.lst (rs.map rD)), M ++ E) := by
 have lp : ∃ rs E s3 s4, RS rs ∧ rs.length = cs.length ∧ loopS 3 l__rows_1 ((List.range cs.length).map fun (k : Nat) => D.int (0 + k)) [.val (.lst (cs.map .int)), .own [], .val (.ref M.length), .un, .un] (M ++ [.lst []]) = some (.nx [.val (.lst (cs.map .int)), .own (rs.map rD), .val (.ref M.length), s3, s4], M ++ E) := by
  refine loop_by (fun o => ∃ rs E s3 s4, RS rs ∧ rs.length = cs.length ∧ o = some (.nx [.val (.lst (cs.map .int)), .own (rs.map rD), .val (.ref M.length), s3, s4], M ++ E))
   (fun k env N => ∃ (rs : List Rw) (ab : List Str) (E : Mm) (s3 s4 : E3.Slot), RS rs ∧ rs.length = k ∧ ab.length ≤ k ∧ (∀ f ∈ ab, f ∈ rs.map Rw.nm) ∧ N = M ++ [.lst (ab.map .str)] ++ E ∧ env = [.val (.lst (cs.map .int)), .own (rs.map rD), .val (.ref M.length), s3, s4])
   ⟨[], [], [], .un, .un, fun i hi => absurd hi (Nat.not_lt_zero _), rfl, Nat.le_refl _, (by intro f hf; cases hf), (by rw [List.append_nil]; rfl), rfl⟩ ?_ ?_
  ·rintro k d env N hd ⟨rs, ab, E, s3, s4, hrs, hlen, hab, hin, rfl, rfl⟩
   have hk : k < cs.length := by
    have := (List.getElem?_eq_some_iff.mp hd).1
    simpa using this
   rw [List.getElem?_map, List.getElem?_range hk, Option.map_some] at hd
   cases hd
   refine ⟨by show 3 < 5; decide, ?_⟩
   have hx : (cs.map D.int)[k]? = some (.int (cs[k]'hk)) := by rw [List.getElem?_map, List.getElem?_eq_getElem hk]; rfl
   have ha := atI_nat hx
   obtain ⟨ns, n1, n2, n3⟩ := g_dr (n := cs[k] + 31 * (0 + (k : Int))) (m := 11) (by decide)
   have hj : (M ++ [Cl.lst (ab.map .str)] ++ E)[M.length]? = some (.lst (ab.map .str)) := by
    rw [List.getElem?_append_left (by simp), List.getElem?_append_right (Nat.le_refl _)]
    simp
   obtain ⟨r, E2, hr, er⟩ := row_ok (M := M ++ [.lst (ab.map .str)] ++ E) (k := k) (j := M.length) (ab := ab) (ns := ns) (by omega) hj (by omega) n1 n2
   have n3' := n3 (M ++ [.lst (ab.map .str)] ++ E)
   rw [show ((11 : Nat) : Int) = 11 from rfl] at n3'
   show Step _ _ (l__rows_1 [.val (.lst (cs.map .int)), .own (rs.map rD), .val (.ref M.length), .val (.int (0 + k)), s4] _)
   have hr2 : RK (rs.map Rw.nm) r := hr.mono hin
   have z : (0 : Int) + (k : Int) = k := by omega
   rw [z] at n3'
   rw [z]
   have go : l__rows_1 [.val (.lst (cs.map .int)), .own (rs.map rD), .val (.ref M.length), .val (.int k), s4] (M ++ [.lst (ab.map .str)] ++ E) = some (.nx [.val (.lst (cs.map .int)), .own ((rs ++ [r]).map rD), .val (.ref M.length), .val (.int k), .val (rD r)], M ++ [.lst ((if r.w = "out" then ab else ab ++ [r.nm]).map .str)] ++ (E ++ E2)) := by
    unfold l__rows_1
    generalize hN : M ++ [Cl.lst (ab.map .str)] ++ E = N at *
    walk_at "all"
    rw [ha]
    walk_at "all"
    rw [n3']
    walk_at "all"
    rw [er]
    walk_at "all"
    rw [if_pos (by omega)]
    walk_at "all"
    have hj2 : (N ++ E2)[M.length]? = some (.lst (ab.map .str)) := by
     rw [List.getElem?_append_left (by rw [← hN]; simp)]
     exact hj
    by_cases ho : r.w = Str.ofString "out"
    ·rw [if_neg (fun z => z ho)]
     walk_at "all"
     rw [if_pos ho, ← hN]
     simp
    ·rw [if_pos ho, hj2]
     walk_at "all"
     rw [if_pos (by omega)]
     walk_at "all"
     rw [if_neg ho, ← hN]
     have hs : (M ++ [Cl.lst (ab.map .str)] ++ E ++ E2).set M.length (.lst (ab.map .str ++ [.str r.nm])) = M ++ [Cl.lst ((ab ++ [r.nm]).map .str)] ++ (E ++ E2) := by
      rw [List.append_assoc, List.append_assoc, List.set_append_right _ _ (Nat.le_refl _), Nat.sub_self]
      simp
     rw [hs]
     simp
   rw [go]
   refine ⟨rs ++ [r], _, _, _, _, hrs.add hr2, by rw [List.length_append, List.length_singleton, hlen], ?_, ?_, rfl, rfl⟩
   ·split
    ·omega
    ·rw [List.length_append, List.length_singleton]; omega
   ·intro f hf
    rw [List.map_append, List.mem_append]
    split at hf
    ·exact .inl (hin f hf)
    ·rw [List.mem_append, List.mem_singleton] at hf
     rcases hf with hf | rfl
     ·exact .inl (hin f hf)
     ·exact .inr (by simp)
  ·rintro env N ⟨rs, ab, E, s3, s4, hrs, hlen, hab, hin, rfl, rfl⟩
   rw [List.length_map, List.length_range] at hlen
   exact ⟨rs, [.lst (ab.map .str)] ++ E, s3, s4, hrs, hlen, by rw [List.append_assoc]⟩
 obtain ⟨rs, E, s3, s4, h1, h2, lp⟩ := lp
 refine ⟨rs, E, h1, h2, ?_⟩
 unfold g__rows b__rows
 walk_at "all"
 rw [r_rng1 (by omega), Int.toNat_natCast]
 walk_at "all"
 rw [lp]
 walk_at "all"
variable {M : Mm}
def tb (t : List (Str × Int)) : List (Key × D) := t.map fun p => (.inr p.1, .int p.2)
def gt (t : List (Str × Int)) (k : Str) : Option Int := (t.find? fun p => decide (p.1 = k)).map (·.2)
def gv (t : List (Str × Int)) (k : Str) : Int := (gt t k).getD 0
def pt (t : List (Str × Int)) (k : Str) (v : Int) : List (Str × Int) := if (t.any fun p => decide (p.1 = k)) = true then t.map (fun p => if p.1 = k then (p.1, v) else p) else t ++ [(k, v)]
theorem inr_eq {a b : Str} : decide ((Sum.inr a : Key) = Sum.inr b) = decide (a = b) := by simp
theorem val_tb {k : Str} : ∀ t : List (Str × Int), valD (tb t) (.inr k) = (gt t k).map .int
  | [] => rfl
  | p :: t => by
    have ih := val_tb (k := k) t
    unfold valD tb gt at *
    rw [List.map_cons, List.find?_cons, List.find?_cons, inr_eq]
    cases decide (p.1 = k)
    · exact ih
    · rfl
theorem put_tb {k : Str} {v : Int} (t : List (Str × Int)) : putT (tb t) (.inr k) (.int v) = tb (pt t k v) := by
 have e1 : ((tb t).any fun kv => decide (kv.1 = Sum.inr k)) = t.any fun p => decide (p.1 = k) := by
  unfold tb
  rw [List.any_map]
  congr 1
  funext p
  exact inr_eq
 unfold putT pt
 rw [e1]
 split
 ·unfold tb
  rw [List.map_map, List.map_map]
  congr 1
  funext p
  simp only [Function.comp]
  by_cases h : p.1 = k
  ·rw [if_pos h, if_pos (by rw [h])]
  ·rw [if_neg h, if_neg (fun z => h (Sum.inr.inj z))]
 ·unfold tb
  rw [List.map_append]
  rfl
theorem gt_pt {k k' : Str} {v : Int} (t : List (Str × Int)) : gt (pt t k v) k' = if k' = k then some v else gt t k' := by
  unfold pt
  split
  · rename_i h
    unfold gt
    induction t with
    | nil => simp at h
    | cons p t ih =>
      rw [List.map_cons, List.find?_cons, List.find?_cons]
      by_cases e : p.1 = k
      · simp only [e, if_true]
        by_cases e2 : k' = k
        · simp [e2]
        · simp only [e2, if_false]
          rw [decide_eq_false (fun z => e2 z.symm)]
          dsimp only
          by_cases ht : (t.any fun p => decide (p.1 = k)) = true
          · have := ih ht
            rw [if_neg e2] at this
            exact this
          · have e3 : t.map (fun p => if p.1 = k then (p.1, v) else p) = t := by
              rw [List.map_congr_left (g := id) (fun q hq => ?_), List.map_id]
              rw [if_neg]
              · rfl
              · intro z
                exact ht (List.any_eq_true.mpr ⟨q, hq, decide_eq_true z⟩)
            rw [e3]
      · simp only [e, if_false]
        by_cases e2 : p.1 = k'
        · have e4 : ¬ k' = k := fun z => e (e2.trans z)
          simp [e2, e4]
        · rw [decide_eq_false e2]
          dsimp only
          refine ih ?_
          simpa [e] using h
  · rename_i h
    unfold gt
    rw [List.find?_append]
    by_cases e : k' = k
    · subst e
      have : t.find? (fun p => decide (p.1 = k')) = none := by
        rw [List.find?_eq_none]
        intro q hq z
        exact h (List.any_eq_true.mpr ⟨q, hq, z⟩)
      rw [this, if_pos rfl]
      simp
    · rw [if_neg e]
      cases t.find? (fun p => decide (p.1 = k')) with
      | some q => rfl
      | none =>
        have e' : ¬ k = k' := fun z => e z.symm
        simp [e']
def TN (t : List (Str × Int)) : Prop := (t.map (·.1)).Nodup
theorem TN.pt {t : List (Str × Int)} {k : Str} {v : Int} (h : TN t) : TN (pt t k v) := by
 unfold TN My.pt at *
 split
 ·rw [List.map_map]
  rw [show ((fun p : Str × Int => p.1) ∘ fun p => if p.1 = k then (p.1, v) else p) = fun p => p.1 by funext p; simp only [Function.comp]; split <;> rfl]
  exact h
 ·rename_i ha
  rw [List.map_append, List.nodup_append]
  refine ⟨h, by simp, fun a ha' b hb z => ?_⟩
  simp at hb
  subst hb
  subst z
  rw [List.mem_map] at ha'
  obtain ⟨q, hq, e⟩ := ha'
  exact ha (List.any_eq_true.mpr ⟨q, hq, decide_eq_true e⟩)
theorem pt_len {t : List (Str × Int)} {k : Str} {v : Int} : (pt t k v).length ≤ t.length + 1 := by
 unfold pt
 split
 ·rw [List.length_map]; omega
 ·rw [List.length_append, List.length_singleton]; exact Nat.le_refl _
theorem gt_mem : ∀ {t : List (Str × Int)} {p : Str × Int}, TN t → p ∈ t → gt t p.1 = some p.2
  | [], p, _, h => by cases h
  | q :: t, p, hn, h => by
    unfold TN at hn
    rw [List.map_cons, List.nodup_cons] at hn
    unfold gt
    rw [List.find?_cons]
    rcases List.mem_cons.mp h with rfl | h
    · simp
    · have : ¬ q.1 = p.1 := fun z => hn.1 (by rw [z]; exact List.mem_map_of_mem h)
      rw [decide_eq_false this]
      exact gt_mem (t := t) hn.2 h
theorem al_self {t : List (Str × Int)} (h : TN t) : DAl (tb t) (tb t) := by
 refine ⟨rfl, fun p hp => ?_⟩
 unfold tb at hp
 rw [List.mem_map] at hp
 obtain ⟨q, hq, rfl⟩ := hp
 exact ⟨q.2, rfl, by rw [val_tb, gt_mem h hq]; rfl⟩
theorem tb_len {t : List (Str × Int)} : (tb t).length = t.length := List.length_map ..
variable {M : Mm}
theorem sw_len {i : Int} (h0 : 0 ≤ i) (h1 : i ≤ 1000000000000) : (shw i).length ≤ 640 := by
 have := (dg_sm (i := i) h0 (by omega)).1
 omega
theorem it_shw {i : Int} (h0 : 0 ≤ i) (h1 : i ≤ 1000000000000) : intText? (shw i) = some i := int_shw (by
 refine Nat.lt_of_lt_of_le (m := 10 ^ 13) (by omega) (Nat.pow_le_pow_right (by decide) (by decide)))
theorem win_ok {nm f fold : Str} {a b : Int} (b0 : 1 ≤ b) (ab : b ≤ a) (a1 : a ≤ 1000000000000) : g_window_of [rD ⟨"slide", nm, [f], [shw a, shw b, fold]⟩] M = some (.v (.tup [.int a, .int b, .str fold]), M) := by
 unfold g_window_of b_window_of
 walk_at "all"
 rw [if_pos (sw_len (by omega) a1), it_shw (by omega) a1]
 walk_at "all"
 rw [if_pos (sw_len (by omega) (by omega)), it_shw (by omega) (by omega)]
 walk_at "all"
 rw [show atI [D.str (shw a), .str (shw b), .str fold] (-1) = some (.str fold) by simp [atI, ixN]]
 walk_at "all"
theorem tim_ok {fold : Str} {a b : Int} (b0 : 1 ≤ b) (ab : b ≤ a) (a8 : a ≤ 8 * b) (a1 : a ≤ 1000000000000) : g__times [.tup [.str (shw a), .str (shw b), .str fold]] M = some (.v (.int ((a + b - 1) / b)), M) := by
 have d1 := Int.mul_ediv_self_le (x := a + b - 1) (k := b) (by omega)
 have d2 := Int.lt_mul_ediv_self_add (x := a + b - 1) (k := b) (by omega)
 generalize (a + b - 1) / b = n at d1 d2
 have n1 : 1 ≤ n := Classical.byContradiction fun z => by
  have : b * n ≤ b * 0 := Int.mul_le_mul_of_nonneg_left (by omega) (by omega)
  omega
 have n8 : n ≤ 8 := Classical.byContradiction fun z => by
  have : b * 9 ≤ b * n := Int.mul_le_mul_of_nonneg_left (by omega) (by omega)
  omega
 have lp : sWhile 1000 t__times_1 l__times_1 [.val (.tup [.str (shw a), .str (shw b), .str fold]), .val (.int 1)] M = some (.nx [.val (.tup [.str (shw a), .str (shw b), .str fold]), .val (.int n)], M) := by
  refine while_by (Q := fun o => o = some (.nx [.val (.tup [.str (shw a), .str (shw b), .str fold]), .val (.int n)], M)) (fun m env N => N = M ∧ ∃ k : Int, 1 ≤ k ∧ k ≤ n ∧ m = (n - k).toNat ∧ env = [.val (.tup [.str (shw a), .str (shw b), .str fold]), .val (.int k)]) ⟨(n - 1).toNat, by omega, rfl, 1, by omega, n1, rfl, rfl⟩ ?_
  rintro m env N ⟨rfl, k, k1, kn, rfl, rfl⟩
  have tst : decide (k * b < a) = decide (k < n) := by
   by_cases h : k < n
   ·have : b * k ≤ b * (n - 1) := Int.mul_le_mul_of_nonneg_left (by omega) (by omega)
    rw [Int.mul_sub] at this
    rw [decide_eq_true h, decide_eq_true (by rw [Int.mul_comm]; omega)]
   ·have e : k = n := by omega
    subst e
    rw [decide_eq_false h, decide_eq_false (by rw [Int.mul_comm]; omega)]
  refine ⟨decide (k < n), N, ?_, ?_⟩
  ·unfold t__times_1
   walk_at "all"
   rw [if_pos (sw_len (by omega) (by omega)), it_shw (by omega) (by omega)]
   walk_at "all"
   rw [if_pos (.inl (by omega))]
   walk_at "all"
   rw [if_pos (sw_len (by omega) a1), it_shw (by omega) a1]
   walk_at "all"
   rw [tst]
  ·by_cases h : k < n
   ·rw [decide_eq_true h, if_pos rfl]
    unfold l__times_1
    walk_at "all"
    exact ⟨(n - (k + 1)).toNat, by omega, rfl, k + 1, by omega, by omega, rfl, rfl⟩
   ·rw [decide_eq_false h, if_neg (by decide)]
    have e : k = n := by omega
    rw [e]
 unfold g__times b__times
 walk_at "all"
 rw [lp]
 walk_at "all"
def stp (r : Rw) : Int := match r.rest with
 | [a, b, _] => ((intText? a).getD 0 + (intText? b).getD 0 - 1) / (intText? b).getD 0
 | _ => 0
def fl (L t : List (Str × Int)) (r : Rw) : Int :=
 if r.w = "in" then gv L r.nm else if r.w = "join" then gv t (r.fs.getD 0 "") * gv t (r.fs.getD 1 "") else if r.w = "slide" then gv t (r.fs.getD 0 "") * stp r else (r.fs.map (gv t)).sum
section
variable {L t : List (Str × Int)} {a b : Nat}
theorem e_fl {f : Str} {x : Int} (hB : M[b]? = some (.dct (tb t))) (h : gt t f = some x) : e_flow_of_1 [.val (.str f), .val (.ref b)] M = some (.v (.int (gv t f)), M) := by
 unfold e_flow_of_1
 refine (d_get (k := b) (e := .str f) (kvs := tb t) (key := .inr f) (x := .int x) rfl rfl hB rfl (by rw [val_tb, h]; rfl)).trans (by unfold gv; rw [h]; rfl)
theorem e_fl2 {f : Str} {x : Int} (hB : M[b]? = some (.dct (tb t))) (h : gt t f = some x) : e__flow_1 [.val (.str f), .val (.ref b)] M = some (.v (.int (gv t f)), M) := e_fl hB h
theorem sum_ints : ∀ l : List Int, intsD (l.map .int) = some l
 | [] => rfl
 | a :: l => by simp only [List.map_cons, intsD, sum_ints l]; rfl
end
variable {M : Mm}
theorem o_sum {l : List Int} : bSum [.lst (l.map .int)] = some (.int l.sum) := by simp only [bSum, sum_ints]; rfl
section
variable {L t : List (Str × Int)} {a b : Nat} {ab : List Str}
def KB (t : List (Str × Int)) (ab : List Str) : Prop := ∀ f ∈ ab, ∃ x, gt t f = some x ∧ 0 ≤ x ∧ x ≤ 2000
theorem KB.v {f : Str} (h : KB t ab) (hf : f ∈ ab) : 0 ≤ gv t f ∧ gv t f ≤ 2000 := by
 obtain ⟨x, e, h⟩ := h f hf
 unfold gv
 rw [e]
 exact h
theorem cmp1 {fs : List Str} (hB : M[b]? = some (.dct (tb t))) (hl : fs.length ≤ 8) (h : ∀ f ∈ fs, f ∈ ab) (hk : KB t ab) : compL (sCon (.bl true)) e_flow_of_1 [.val (.ref b)] (fs.map .str) [] M = some ([] ++ (fs.map (gv t)).map D.int, M) := by
 rw [List.map_map]
 exact comp_of (fun f : Str => D.str f) (fun f => D.int (gv t f)) fs [] (fun f hf => by obtain ⟨x, e, _⟩ := hk f (h f hf); exact e_fl hB e) (by rw [sizeLine_eq]; simp; omega)
theorem cmp2 {fs : List Str} (hB : M[b]? = some (.dct (tb t))) (hl : fs.length ≤ 8) (h : ∀ f ∈ fs, f ∈ ab) (hk : KB t ab) : compL (sCon (.bl true)) e__flow_1 [.val (.ref b)] (fs.map .str) [] M = some ([] ++ (fs.map (gv t)).map D.int, M) := cmp1 hB hl h hk
theorem q_in : (Str.ofString "in" = Str.ofString "in") = True := eq_true rfl
theorem fo_in {nm : Str} (hA : M[a]? = some (.dct (tb L))) : g_flow_of [rD ⟨"in", nm, [], []⟩, .ref a, .ref b] M = some (.v (.int (gv L nm)), M) := by
 have e : sDGetD (sVar 1) (s2 oIx (sVar 0) (sCon (.int 1))) (sCon (.int 0)) [.val (rD ⟨"in", nm, [], []⟩), .val (.ref a), .val (.ref b), .un, .un] M = some (.v (.int (gv L nm)), M) := by
  refine (d_getD (k := a) (e := .str nm) (x := .int 0) (key := .inr nm) (kvs := tb L) (kvs' := tb L) rfl ?_ rfl hA hA rfl).trans ?_
  ·walk_at "all"
  ·rw [val_tb]
   unfold gv
   cases gt L nm <;> rfl
 unfold g_flow_of b_flow_of
 walk_at "all"
 rw [e]
 walk_at "all"
theorem fw_in {nm : Str} (hA : M[a]? = some (.dct (tb L))) : g__flow [rD ⟨"in", nm, [], []⟩, .ref b, .ref a] M = some (.v (.int (gv L nm)), M) := by
 have e : sDGetD (sVar 2) (s2 oIx (sVar 0) (sCon (.int 1))) (sCon (.int 0)) [.val (rD ⟨"in", nm, [], []⟩), .val (.ref b), .val (.ref a), .un] M = some (.v (.int (gv L nm)), M) := by
  refine (d_getD (k := a) (e := .str nm) (x := .int 0) (key := .inr nm) (kvs := tb L) (kvs' := tb L) rfl ?_ rfl hA hA rfl).trans ?_
  ·walk_at "all"
  ·rw [val_tb]
   unfold gv
   cases gt L nm <;> rfl
 unfold g__flow b__flow
 walk_at "all"
 rw [e]
 walk_at "all"
theorem fo_sum {w nm : Str} {fs rest : List Str} (h1 : (w = Str.ofString "in") = False) (h2 : (w = Str.ofString "join") = False) (h3 : (w = Str.ofString "slide") = False) (hB : M[b]? = some (.dct (tb t))) (hl : fs.length ≤ 8) (h : ∀ f ∈ fs, f ∈ ab) (hk : KB t ab) : g_flow_of [rD ⟨w, nm, fs, rest⟩, .ref a, .ref b] M = some (.v (.int (fs.map (gv t)).sum), M) := by
 unfold g_flow_of b_flow_of
 walk_at "all"
 simp only [h1]
 walk_at "all"
 rw [cmp1 hB hl h hk]
 walk_at "all"
 simp only [h2]
 walk_at "all"
 simp only [h3]
 walk_at "all"
 rw [o_sum]
 walk_at "all"
theorem fw_pour {nm : Str} {fs rest : List Str} (hB : M[b]? = some (.dct (tb t))) (hl : fs.length ≤ 8) (h : ∀ f ∈ fs, f ∈ ab) (hk : KB t ab) : g__flow [rD ⟨"pour", nm, fs, rest⟩, .ref b, .ref a] M = some (.v (.int (fs.map (gv t)).sum), M) := by
 have h1 : (Str.ofString "pour" = Str.ofString "in") = False := st_ne (by decide +kernel)
 unfold g__flow b__flow
 walk_at "all"
 simp only [h1]
 walk_at "all"
 rw [cmp2 hB hl h hk]
 walk_at "all"
 rw [o_sum]
 walk_at "all"
theorem fw_one {w nm f : Str} {rest : List Str} (h1 : (w = Str.ofString "in") = False) (h2 : (w = Str.ofString "join") = False) (h3 : (w = Str.ofString "slide") = False) (h4 : (w = Str.ofString "pour") = False) (hB : M[b]? = some (.dct (tb t))) (h : f ∈ ab) (hk : KB t ab) : g__flow [rD ⟨w, nm, [f], rest⟩, .ref b, .ref a] M = some (.v (.int (gv t f)), M) := by
 have c := cmp2 (fs := [f]) hB (by simp) (fun g hg => by rw [List.mem_singleton] at hg; rw [hg]; exact h) hk
 unfold g__flow b__flow
 walk_at "all"
 simp only [h1]
 walk_at "all"
 simp only [List.map_cons, List.map_nil, List.nil_append] at c
 rw [c]
 walk_at "all"
 simp only [h4]
 walk_at "all"
 simp only [h2]
 walk_at "all"
 simp only [h3]
 walk_at "all"
theorem f_join {nm f g : Str} {rest : List Str} (hB : M[b]? = some (.dct (tb t))) (hf : f ∈ ab) (hg : g ∈ ab) (hk : KB t ab) : g_flow_of [rD ⟨"join", nm, [f, g], rest⟩, .ref a, .ref b] M = some (.v (.int (gv t f * gv t g)), M) ∧ g__flow [rD ⟨"join", nm, [f, g], rest⟩, .ref b, .ref a] M = some (.v (.int (gv t f * gv t g)), M) := by
 have h1 : (Str.ofString "join" = Str.ofString "in") = False := st_ne (by decide +kernel)
 have h2 : (Str.ofString "join" = Str.ofString "pour") = False := st_ne (by decide +kernel)
 have hh : ∀ x ∈ [f, g], x ∈ ab := fun x hx => by
  simp only [List.mem_cons, List.not_mem_nil, or_false] at hx
  rcases hx with rfl | rfl
  ·exact hf
  ·exact hg
 have c := cmp1 (fs := [f, g]) hB (by simp) hh hk
 have c2 := cmp2 (fs := [f, g]) hB (by simp) hh hk
 have b1 := hk.v hf
 simp only [List.map_cons, List.map_nil, List.nil_append] at c c2
 constructor
 ·unfold g_flow_of b_flow_of
  walk_at "all"
  simp only [h1]
  walk_at "all"
  rw [c]
  walk_at "all"
  rw [if_pos (.inl (by omega))]
  walk_at "all"
 ·unfold g__flow b__flow
  walk_at "all"
  simp only [h1]
  walk_at "all"
  rw [c2]
  walk_at "all"
  simp only [h2]
  walk_at "all"
  rw [if_pos (.inl (by omega))]
  walk_at "all"
theorem f_slide {nm f fold : Str} {x y : Int} (hB : M[b]? = some (.dct (tb t))) (hf : f ∈ ab) (y0 : 1 ≤ y) (yx : y ≤ x) (x8 : x ≤ 8 * y) (x1 : x ≤ 1000000000000) (hk : KB t ab) : g_flow_of [rD ⟨"slide", nm, [f], [shw x, shw y, fold]⟩, .ref a, .ref b] M = some (.v (.int (gv t f * ((x + y - 1) / y))), M) ∧ g__flow [rD ⟨"slide", nm, [f], [shw x, shw y, fold]⟩, .ref b, .ref a] M = some (.v (.int (gv t f * ((x + y - 1) / y))), M) := by
 have h1 : (Str.ofString "slide" = Str.ofString "in") = False := st_ne (by decide +kernel)
 have h2 : (Str.ofString "slide" = Str.ofString "pour") = False := st_ne (by decide +kernel)
 have h3 : (Str.ofString "slide" = Str.ofString "join") = False := st_ne (by decide +kernel)
 have hh : ∀ x ∈ [f], x ∈ ab := fun x hx => by
  rw [List.mem_singleton] at hx
  rw [hx]; exact hf
 have c := cmp1 (fs := [f]) hB (by simp) hh hk
 have c2 := cmp2 (fs := [f]) hB (by simp) hh hk
 have b1 := hk.v hf
 simp only [List.map_cons, List.map_nil, List.nil_append] at c c2
 have wn := win_ok (M := M) (nm := nm) (f := f) (fold := fold) y0 yx x1
 have tm := tim_ok (M := M) (fold := fold) y0 yx x8 x1
 constructor
 ·unfold g_flow_of b_flow_of
  walk_at "all"
  simp only [h1]
  walk_at "all"
  rw [c]
  walk_at "all"
  simp only [h3]
  walk_at "all"
  rw [wn]
  walk_at "all"
  rw [o_fdW, if_pos ⟨by omega, by omega⟩]
  walk_at "all"
  rw [if_pos (.inl (by omega))]
  walk_at "all"
 ·unfold g__flow b__flow
  walk_at "all"
  simp only [h1]
  walk_at "all"
  rw [c2]
  walk_at "all"
  simp only [h2]
  walk_at "all"
  simp only [h3]
  walk_at "all"
  rw [tm]
  walk_at "all"
  rw [if_pos (.inl (by omega))]
  walk_at "all"
end
variable {M : Mm}
section
variable {L t : List (Str × Int)} {a b : Nat} {ab : List Str}
theorem wne (x y : String) (h : decide (Str.ofString x = Str.ofString y) = false := by decide +kernel) : ¬ Str.ofString x = Str.ofString y := of_decide_eq_false h
theorem w_one {w : Str} (h1 : w = "keep" ∨ w = "turn" ∨ w = "share" ∨ w = "fixed" ∨ w = "gap" ∨ w = "out") : (w = Str.ofString "in") = False ∧ (w = Str.ofString "join") = False ∧ (w = Str.ofString "slide") = False ∧ (w = Str.ofString "pour") = False := by
 rcases h1 with rfl | rfl | rfl | rfl | rfl | rfl <;> exact ⟨st_ne (by decide +kernel), st_ne (by decide +kernel), st_ne (by decide +kernel), st_ne (by decide +kernel)⟩
theorem fl_one {w nm f : Str} {rest : List Str} (h1 : w = "keep" ∨ w = "turn" ∨ w = "share" ∨ w = "fixed" ∨ w = "gap" ∨ w = "out") : fl L t ⟨w, nm, [f], rest⟩ = gv t f := by
 obtain ⟨e1, e2, e3, e4⟩ := w_one h1
 unfold fl
 rw [if_neg (by rw [e1]; exact id), if_neg (by rw [e2]; exact id), if_neg (by rw [e3]; exact id)]
 simp
theorem fl_pour {nm : Str} {fs : List Str} : fl L t ⟨"pour", nm, fs, []⟩ = (fs.map (gv t)).sum := by
 unfold fl
 rw [if_neg (wne "pour" "in"), if_neg (wne "pour" "join"), if_neg (wne "pour" "slide")]
theorem fl_slide {nm f fold : Str} {x y : Int} (h2 : 1 ≤ y) (h3 : y ≤ x) (h5 : x ≤ 1000000000000) : fl L t ⟨"slide", nm, [f], [shw x, shw y, fold]⟩ = gv t f * ((x + y - 1) / y) := by
 unfold fl stp
 rw [if_neg (wne "slide" "in"), if_neg (wne "slide" "join"), if_pos rfl]
 dsimp only
 rw [it_shw (by omega) h5, it_shw (by omega) (by omega)]
 rfl
theorem fl_join {nm f g : Str} {rest : List Str} : fl L t ⟨"join", nm, [f, g], rest⟩ = gv t f * gv t g := by
 unfold fl
 rw [if_neg (wne "join" "in"), if_pos rfl]
 rfl
theorem flow_ok {r : Rw} (hr : RK ab r) (hk : KB t ab) (hA : M[a]? = some (.dct (tb L))) (hB : M[b]? = some (.dct (tb t))) : g_flow_of [rD r, .ref a, .ref b] M = some (.v (.int (fl L t r)), M) ∧ g__flow [rD r, .ref b, .ref a] M = some (.v (.int (fl L t r)), M) := by
  cases hr with
  | inn => exact ⟨(fo_in hA).trans rfl, (fw_in hA).trans rfl⟩
  | @one w nm f rest h1 h2 =>
    obtain ⟨e1, e2, e3, e4⟩ := w_one h1
    rw [fl_one h1]
    have s := fo_sum (a := a) (M := M) (nm := nm) (rest := rest) (fs := [f]) e1 e2 e3 hB (by simp) (fun g hg => by rw [List.mem_singleton] at hg; rw [hg]; exact h2) hk
    rw [show ([f].map (gv t)).sum = gv t f by simp] at s
    exact ⟨s, fw_one e1 e2 e3 e4 hB h2 hk⟩
  | @pour nm fs h1 h2 h3 =>
    rw [fl_pour]
    exact ⟨fo_sum (st_ne (by decide +kernel)) (st_ne (by decide +kernel)) (st_ne (by decide +kernel)) hB h2 h3 hk, fw_pour hB h2 h3 hk⟩
  | @slide nm f fold x y h1 h2 h3 h4 h5 =>
    rw [fl_slide h2 h3 h5]
    exact f_slide hB h1 h2 h3 h4 h5 hk
  | @join nm f g rest h1 h2 =>
    rw [fl_join]
    exact f_join hB h1 h2 hk
theorem stp_nn {x y : Int} (y0 : 1 ≤ y) (yx : y ≤ x) : 0 ≤ (x + y - 1) / y := Int.ediv_nonneg (by omega) (by omega)
theorem sum_nn : ∀ {l : List Int}, (∀ x ∈ l, 0 ≤ x) → 0 ≤ l.sum
  | [], _ => by simp
  | a :: l, h => by
    rw [List.sum_cons]
    have := sum_nn (l := l) fun x hx => h x (List.mem_cons_of_mem _ hx)
    have := h a List.mem_cons_self
    omega
def NN (L : List (Str × Int)) : Prop := ∀ k, 0 ≤ gv L k
theorem fl_nn {r : Rw} (hr : RK ab r) (hk : KB t ab) (hL : NN L) : 0 ≤ fl L t r := by
  cases hr with
  | inn => exact hL _
  | one h1 h2 => rw [fl_one h1]; exact (hk.v h2).1
  | pour h1 h2 h3 =>
    rw [fl_pour]
    refine sum_nn fun x hx => ?_
    rw [List.mem_map] at hx
    obtain ⟨f, hf, rfl⟩ := hx
    exact (hk.v (h3 f hf)).1
  | slide h1 h2 h3 h4 h5 => rw [fl_slide h2 h3 h5]; exact Int.mul_nonneg (hk.v h1).1 (stp_nn h2 h3)
  | join h1 h2 => rw [fl_join]; exact Int.mul_nonneg (hk.v h1).1 (hk.v h2).1
theorem fl_0 {r : Rw} (h : ∀ k, gv t k = 0) (hL : ∀ k, gv L k = 0) : fl L t r = 0 := by
 unfold fl
 split
 ·exact hL _
 ·split
  ·rw [h, Int.zero_mul]
  ·split
   ·rw [h, Int.zero_mul]
   ·have : r.fs.map (gv t) = r.fs.map fun _ => 0 := List.map_congr_left fun f _ => h f
    rw [this]
    clear this
    induction r.fs with
    | nil => rfl
    | cons a l ih => rw [List.map_cons, List.sum_cons, ih]; rfl
def run (L : List (Str × Int)) : List Rw → List (Str × Int) → Option (List (Str × Int))
 | [], t => some t
 | r :: rs, t => if 2000 < fl L t r then none else run L rs (pt t r.nm (fl L t r))
theorem KB.put {r : Rw} {v : Int} (hk : KB t ab) (h0 : 0 ≤ v) (h1 : v ≤ 2000) : KB (pt t r.nm v) (ab ++ [r.nm]) := fun f hf => by
 rw [gt_pt]
 by_cases e : f = r.nm
 ·exact ⟨v, by rw [if_pos e], h0, h1⟩
 ·rw [if_neg e]
  rw [List.mem_append, List.mem_singleton] at hf
  exact hk f (hf.resolve_right e)
inductive GR : List Str → List Rw → Prop
 | nil {ab : List Str} : GR ab []
 | cons {ab : List Str} {r : Rw} {rs : List Rw} : RK ab r → GR (ab ++ [r.nm]) rs → GR ab (r :: rs)
theorem GR.of {rs : List Rw} (h : RS rs) : GR [] rs := by
  have key : ∀ (n : Nat) (pre post : List Rw), post.length = n → rs = pre ++ post → GR (pre.map Rw.nm) post := by
    intro n
    induction n with
    | zero => intro pre post hl e; cases post with
      | nil => exact .nil
      | cons a l => cases hl
    | succ n ih => intro pre post hl e; cases post with
      | nil => cases hl
      | cons r l =>
        have hi : pre.length < rs.length := by rw [e, List.length_append, List.length_cons]; omega
        have := h pre.length hi
        have e1 : rs.take pre.length = pre := by rw [e, List.take_left]
        have e2 : rs[pre.length] = r := by
          have : rs[pre.length]? = some r := by rw [e, List.getElem?_append_right (Nat.le_refl _)]; simp
          rw [List.getElem?_eq_getElem hi] at this
          exact Option.some.inj this
        rw [e1, e2] at this
        refine .cons this ?_
        have q := ih (pre ++ [r]) l (by simpa using hl) (by rw [e, List.append_assoc]; rfl)
        rw [List.map_append] at q
        exact q
  exact key rs.length [] rs rfl rfl
end
variable {M : Mm}
section
variable {L t : List (Str × Int)} {a : Nat} {ab : List Str}
theorem at_old {N E : Mm} {k : Nat} {c : E3.Cl} (h : N[k]? = some c) : (N ++ E)[k]? = some c := by
 rw [List.getElem?_append_left]
 ·exact h
 ·exact (List.getElem?_eq_some_iff.mp h).1
theorem msg_tm {env : E3.Env} {N : Mm} : sRaise "TooMuch" (sFst (jCon "more than " (jVal (sCon (.int 2000)) (jCon " things may be told by a row" jEnd)))) env N = some (.ex "TooMuch" 0, N) := by
 rw [q_raise]
 walk_at "all"
 rw [if_pos (by decide +kernel), if_pos (show Nat.log2 2000 < 1920 by decide +kernel)]
 walk_at "all"
 rw [if_pos (by decide +kernel)]
 walk_at "all"
 rw [if_pos (by decide +kernel)]
 walk_at "all"
 rw [if_pos (by decide +kernel)]
 walk_at "all"
theorem fl_turn {r : Rw} {wk : D} {s4 : E3.Slot} (hr : RK ab r) (hk : KB t ab) (hlen : t.length ≤ 100) (hA : M[a]? = some (.dct (tb L))) : l_flows_1 [.val wk, .val (.ref a), .val (.ref M.length), .val (rD r), s4] (M ++ [.dct (tb t)]) = if 2000 < fl L t r then some (.ex "TooMuch" 0, M ++ [.dct (tb t)]) else some (.nx [.val wk, .val (.ref a), .val (.ref M.length), .val (rD r), .val (.int (fl L t r))], M ++ [.dct (tb (pt t r.nm (fl L t r)))]) := by
 have e := (flow_ok (M := M ++ [.dct (tb t)]) (a := a) (b := M.length) (L := L) hr hk (at_old hA) g_end).1
 unfold l_flows_1
 walk_at "all"
 rw [e]
 walk_at "all"
 by_cases h : 2000 < fl L t r
 ·rw [if_pos h, if_pos h]
  walk_at "all"
  rw [msg_tm]
  walk_at "all"
 ·rw [if_neg h, if_neg h]
  walk_at "all"
  rw [d_put (k := M.length) (kvs := tb t) (e := .str r.nm) (key := .inr r.nm) (x := .int (fl L t r)) (M1 := M ++ [.dct (tb t)]) (M2 := M ++ [.dct (tb t)]) (M3 := M ++ [.dct (tb t)]) rfl rfl (by walk_at "all") g_end rfl (by rw [tb_len, sizeLine_eq]; omega), put_tb]
  walk_at "all"
theorem du_turn {r : Rw} {wk : D} (hr : RK ab r) (hk : KB t ab) (hlen : t.length ≤ 100) (hA : M[a]? = some (.dct (tb L))) : l__due_1 [.val wk, .val (.ref a), .val (.ref M.length), .val (rD r)] (M ++ [.dct (tb t)]) = if 2000 < fl L t r then some (.rt .non, M ++ [.dct (tb (pt t r.nm (fl L t r)))]) else some (.nx [.val wk, .val (.ref a), .val (.ref M.length), .val (rD r)], M ++ [.dct (tb (pt t r.nm (fl L t r)))]) := by
 have e := (flow_ok (M := M ++ [.dct (tb t)]) (a := a) (b := M.length) (L := L) hr hk (at_old hA) g_end).2
 unfold l__due_1
 walk_at "all"
 rw [d_put (k := M.length) (kvs := tb t) (e := .str r.nm) (key := .inr r.nm) (x := .int (fl L t r)) (M1 := M ++ [.dct (tb t)]) (M2 := M ++ [.dct (tb t)]) (M3 := M ++ [.dct (tb t)]) (by walk_at "all"; rw [e]; walk_at "all") rfl (by walk_at "all") g_end rfl (by rw [tb_len, sizeLine_eq]; omega), put_tb]
 walk_at "all"
 rw [d_get (k := M.length) (e := .str r.nm) (kvs := tb (pt t r.nm (fl L t r))) (key := .inr r.nm) (x := .int (fl L t r)) (M1 := M ++ [.dct (tb (pt t r.nm (fl L t r)))]) (M2 := M ++ [.dct (tb (pt t r.nm (fl L t r)))]) rfl (by walk_at "all") g_end rfl (by rw [val_tb, gt_pt, if_pos rfl]; rfl)]
 walk_at "all"
 by_cases h : 2000 < fl L t r
 ·rw [if_pos h]
  walk_at "all"
 ·rw [if_neg h]
  walk_at "all"
theorem fl_loop {wk : D} {rs : List Rw} (h : GR ab rs) : ∀ {t : List (Str × Int)} {s3 s4 : E3.Slot}, KB t ab → NN L → t.length + rs.length ≤ 100 → TN t → M[a]? = some (.dct (tb L)) →
    (∃ t' s3' s4', run L rs t = some t' ∧ TN t' ∧ t'.length ≤ 100 ∧ loopS 3 l_flows_1 (rs.map rD) [.val wk, .val (.ref a), .val (.ref M.length), s3, s4] (M ++ [.dct (tb t)]) = some (.nx [.val wk, .val (.ref a), .val (.ref M.length), s3', s4'], M ++ [.dct (tb t')])) ∨
    (∃ t', run L rs t = none ∧ loopS 3 l_flows_1 (rs.map rD) [.val wk, .val (.ref a), .val (.ref M.length), s3, s4] (M ++ [.dct (tb t)]) = some (.ex "TooMuch" 0, M ++ [.dct (tb t')])) := by
  induction h with
  | nil => intro t s3 s4 hk hL hl hn hA; exact .inl ⟨t, s3, s4, rfl, hn, by simpa using hl, rfl⟩
  | @cons ab r rs hr _ ih =>
    intro t s3 s4 hk hL hl hn hA
    rw [List.length_cons] at hl
    have tu := fl_turn (M := M) (a := a) (L := L) (wk := wk) (s4 := s4) hr hk (by omega) hA
    have e : loopS 3 l_flows_1 ((r :: rs).map rD) [.val wk, .val (.ref a), .val (.ref M.length), s3, s4] (M ++ [.dct (tb t)]) = stepR 3 l_flows_1 (rs.map rD) (l_flows_1 [.val wk, .val (.ref a), .val (.ref M.length), .val (rD r), s4] (M ++ [.dct (tb t)])) := by
      rw [List.map_cons, q_loop1]
      rfl
    rw [e, tu]
    by_cases z : 2000 < fl L t r
    · refine .inr ⟨t, by unfold run; rw [if_pos z], by rw [if_pos z]; rfl⟩
    · have lp := pt_len (t := t) (k := r.nm) (v := fl L t r)
      rw [if_neg z, r_stN]
      rcases ih (t := pt t r.nm (fl L t r)) (s3 := .val (rD r)) (s4 := .val (.int (fl L t r))) (hk.put (fl_nn hr hk hL) (by omega)) hL (by omega) hn.pt hA with ⟨t', s3', s4', e1, e2, e3, e4⟩ | ⟨t', e1, e2⟩
      · exact .inl ⟨t', s3', s4', by unfold run; rw [if_neg z]; exact e1, e2, e3, e4⟩
      · exact .inr ⟨t', by unfold run; rw [if_neg z]; exact e1, e2⟩
theorem du_loop {wk : D} {rs : List Rw} (h : GR ab rs) : ∀ {t : List (Str × Int)} {s3 : E3.Slot}, KB t ab → NN L → t.length + rs.length ≤ 100 → M[a]? = some (.dct (tb L)) →
    (∃ t' s3', run L rs t = some t' ∧ loopS 3 l__due_1 (rs.map rD) [.val wk, .val (.ref a), .val (.ref M.length), s3] (M ++ [.dct (tb t)]) = some (.nx [.val wk, .val (.ref a), .val (.ref M.length), s3'], M ++ [.dct (tb t')])) ∨
    (∃ t', run L rs t = none ∧ loopS 3 l__due_1 (rs.map rD) [.val wk, .val (.ref a), .val (.ref M.length), s3] (M ++ [.dct (tb t)]) = some (.rt .non, M ++ [.dct (tb t')])) := by
  induction h with
  | nil => intro t s3 hk hL hl hA; exact .inl ⟨t, s3, rfl, rfl⟩
  | @cons ab r rs hr _ ih =>
    intro t s3 hk hL hl hA
    rw [List.length_cons] at hl
    have tu := du_turn (M := M) (a := a) (L := L) (wk := wk) hr hk (by omega) hA
    have e : loopS 3 l__due_1 ((r :: rs).map rD) [.val wk, .val (.ref a), .val (.ref M.length), s3] (M ++ [.dct (tb t)]) = stepR 3 l__due_1 (rs.map rD) (l__due_1 [.val wk, .val (.ref a), .val (.ref M.length), .val (rD r)] (M ++ [.dct (tb t)])) := by
      rw [List.map_cons, q_loop1]
      rfl
    rw [e, tu]
    by_cases z : 2000 < fl L t r
    · refine .inr ⟨_, by unfold run; rw [if_pos z], by rw [if_pos z]; rfl⟩
    · have lp := pt_len (t := t) (k := r.nm) (v := fl L t r)
      rw [if_neg z, r_stN]
      rcases ih (t := pt t r.nm (fl L t r)) (s3 := .val (rD r)) (hk.put (fl_nn hr hk hL) (by omega)) hL (by omega) hA with ⟨t', s3', e1, e4⟩ | ⟨t', e1, e2⟩
      · exact .inl ⟨t', s3', by unfold run; rw [if_neg z]; exact e1, e4⟩
      · exact .inr ⟨t', by unfold run; rw [if_neg z]; exact e1, e2⟩
theorem kb0 : KB [] [] := fun f hf => by cases hf
theorem flows_ok {rs : List Rw} (h : GR [] rs) (hL : NN L) (hl : rs.length ≤ 100) (hA : M[a]? = some (.dct (tb L))) :
  (∃ t', run L rs [] = some t' ∧ TN t' ∧ t'.length ≤ 100 ∧ g_flows [.lst (rs.map rD), .ref a] M = some (.v (.ref M.length), M ++ [.dct (tb t')])) ∨
  (∃ t', run L rs [] = none ∧ g_flows [.lst (rs.map rD), .ref a] M = some (.x "TooMuch" 0, M ++ [.dct (tb t')])) := by
 have go : g_flows [.lst (rs.map rD), .ref a] M = endS (sSeq (sFor 3 (iLst (sVar 0)) l_flows_1) (sSeq (sRet (sVar 2)) sEnd) [.val (.lst (rs.map rD)), .val (.ref a), .val (.ref M.length), .un, .un] (M ++ [.dct (tb [])])) := by
  unfold g_flows b_flows
  rw [q_fn]
  simp only [List.map_cons, List.map_nil, List.cons_append, List.nil_append, List.length_cons, List.length_nil, Nat.reduceAdd, Nat.reduceSub, List.replicate]
  rw [q_seq, q_asg, d_new]
  rfl
 rw [go]
 rcases fl_loop (M := M) (wk := .lst (rs.map rD)) h (t := []) (s3 := .un) (s4 := .un) kb0 hL (by simpa using hl) (by unfold TN; simp) hA with ⟨t', s3', s4', e1, e2, e3, e4⟩ | ⟨t', e1, e2⟩
 ·refine .inl ⟨t', e1, e2, e3, ?_⟩
  walk_at "all"
  rw [e4]
  walk_at "all"
 ·refine .inr ⟨t', e1, ?_⟩
  walk_at "all"
  rw [e2]
  walk_at "all"
theorem due_ok {rs : List Rw} (h : GR [] rs) (hL : NN L) (hl : rs.length ≤ 100) (hA : M[a]? = some (.dct (tb L))) :
  (∃ t', run L rs [] = some t' ∧ g__due [.lst (rs.map rD), .ref a] M = some (.v (.ref M.length), M ++ [.dct (tb t')])) ∨
  (∃ t', run L rs [] = none ∧ g__due [.lst (rs.map rD), .ref a] M = some (.v .non, M ++ [.dct (tb t')])) := by
 have go : g__due [.lst (rs.map rD), .ref a] M = endS (sSeq (sFor 3 (iLst (sVar 0)) l__due_1) (sSeq (sRet (sVar 2)) sEnd) [.val (.lst (rs.map rD)), .val (.ref a), .val (.ref M.length), .un] (M ++ [.dct (tb [])])) := by
  unfold g__due b__due
  rw [q_fn]
  simp only [List.map_cons, List.map_nil, List.cons_append, List.nil_append, List.length_cons, List.length_nil, Nat.reduceAdd, Nat.reduceSub, List.replicate]
  rw [q_seq, q_asg, d_new]
  rfl
 rw [go]
 rcases du_loop (M := M) (wk := .lst (rs.map rD)) h (t := []) (s3 := .un) kb0 hL (by simpa using hl) hA with ⟨t', s3', e1, e4⟩ | ⟨t', e1, e2⟩
 ·refine .inl ⟨t', e1, ?_⟩
  walk_at "all"
  rw [e4]
  walk_at "all"
 ·refine .inr ⟨t', e1, ?_⟩
  walk_at "all"
  rw [e2]
  walk_at "all"
theorem run_0 : ∀ {rs : List Rw} {t : List (Str × Int)}, (∀ k, gv t k = 0) → ∃ t', run [] rs t = some t'
  | [], t, _ => ⟨t, rfl⟩
  | r :: rs, t, h => by
    unfold run
    have e : fl [] t r = 0 := fl_0 h fun _ => rfl
    rw [e, if_neg (by decide)]
    refine run_0 fun k => ?_
    unfold gv
    rw [gt_pt]
    split
    · rfl
    · exact h k
end
variable {M : Mm}
theorem g_cell {ns : List Int} {k : Int} {M : Mm} (hk : 0 ≤ k) : g__cell_at [.lst (ns.map .int), .int k] M = some (.v (.int (ns.getD k.toNat 0)), M) := by
 unfold g__cell_at b__cell_at
 walk_at "all"
 by_cases h : k < (ns.length : Int)
 ·rw [if_pos h]
  walk_at "all"
  have e : atI (ns.map D.int) k = some (.int (ns.getD k.toNat 0)) := by
   obtain ⟨j, rfl⟩ : ∃ j : Nat, k = j := ⟨k.toNat, by omega⟩
   refine atI_nat ?_
   have : j < ns.length := by omega
   rw [List.getElem?_map, List.getElem?_eq_getElem this]
   simp [List.getD, this]
  rw [e]
  walk_at "all"
 ·rw [if_neg h]
  walk_at "all"
  simp [List.getD, List.getElem?_eq_none (show ns.length ≤ k.toNat by omega)]
theorem cells_ok {ns : List Int} (hn : ns.length ≤ 63) : ∃ cs : List Int, 1 ≤ cs.length ∧ cs.length ≤ 41 ∧ ∀ M : Mm, g__cells [.lst (ns.map .int)] M = some (.v (.lst (cs.map .int)), M) := by
 generalize hc : ns.getD 0 0 = c
 have gc : ∀ M : Mm, g__cell_at [.lst (ns.map .int), .int 0] M = some (.v (.int c), M) := fun M => by rw [g_cell (by decide), ← hc]; rfl
 by_cases h : c % 8 = 1
 ·obtain ⟨xs, h1, h2, h3⟩ := g_dr (n := c / 8) (m := (1 + c / 8 % 40).toNat) (by omega)
  refine ⟨xs, by omega, by omega, fun M => ?_⟩
  have e := h3 M
  rw [show (((1 + c / 8 % 40).toNat : Nat) : Int) = 1 + c / 8 % 40 by omega] at e
  unfold g__cells b__cells
  walk_at "all"
  rw [gc]
  walk_at "all"
  simp only [h]
  walk_at "all"
  rw [e]
  walk_at "all"
 ·refine ⟨(c / 8) :: (ns.drop 1).take 11, by simp, by rw [List.length_cons, List.length_take]; omega, fun M => ?_⟩
  unfold g__cells b__cells
  walk_at "all"
  rw [gc]
  walk_at "all"
  simp only [h]
  walk_at "all"
  rw [cut_mapL, cut_both _ (by decide) (by decide), show ((12 : Int).toNat - (1 : Int).toNat) = 11 by decide, show (1 : Int).toNat = 1 by decide]
  walk_at "all"
  rw [if_pos (by rw [List.length_take]; omega)]
  walk_at "all"
theorem dr3 {n : Int} : ∃ x : Int, 0 ≤ x ∧ x < 715827877 ∧ ∃ xs : List D, atI xs 2 = some (.int x) ∧ ∀ M : Mm, g__drawn [.int n, .int 3] M = some (.v (.lst xs), M) := by
 obtain ⟨xs, h1, h2, h3⟩ := g_dr (n := n) (m := 3) (by decide)
 have hx : (xs.map D.int)[2]? = some (.int (xs[2]'(by omega))) := by rw [List.getElem?_map, List.getElem?_eq_getElem (by omega)]; rfl
 have b := h2 _ (List.getElem_mem (show 2 < xs.length by omega))
 exact ⟨_, b.1, b.2, _, atI_nat hx, h3⟩
theorem NN.pt {L : List (Str × Int)} {k : Str} {v : Int} (h : NN L) (hv : 0 ≤ v) : NN (pt L k v) := fun q => by
 unfold gv
 rw [gt_pt]
 split
 ·exact hv
 ·exact h q
theorem d_one {f g : E} {env : E3.Env} {nm : Str} {v : Int} (h1 : f env M = some (.v (.str nm), M)) (h2 : g env M = some (.v (.int v), M)) : sDct (pCons f g pNil) env M = some (.v (.ref M.length), M ++ [.dct (tb [(nm, v)])]) := by
 unfold sDct pCons pNil
 simp only [h1, h2]
 rfl
section
variable {L : List (Str × Int)} {ds : List D} {c x2 x : Int} {k : Int} {r : Rw}
theorem le2 (hr : atI ds k = some (rD r)) (hL : NN L) (hT : TN L) (hl : L.length ≤ 200) (x0 : 0 ≤ x) : ∃ L', NN L' ∧ TN L' ∧ L'.length ≤ L.length + 1 ∧ m145__lengths_2 [.val (.lst ds), .val (.int c), .val (.int x2), .val (.ref M.length), .val (.int k), .val (.int x)] (M ++ [.dct (tb L)]) = some (.nx [.val (.lst ds), .val (.int c), .val (.int x2), .val (.ref M.length), .val (.int k), .val (.int x)], M ++ [.dct (tb L')]) := by
 by_cases h : r.w = Str.ofString "in" ∧ x % 11 = 3
 ·have hq : ∃ q : Int, 0 ≤ q ∧ atI [D.int 2000, .int 2001, .int (1000 + x / 11 % 1004), .int ((c + x) % 1000000000000000000000000000000000000000000000000000000000000)] (x / 11 % 4) = some (.int q) := by
   have m1 := Int.emod_nonneg (c + x) (show (1000000000000000000000000000000000000000000000000000000000000 : Int) ≠ 0 by decide)
   have : x / 11 % 4 = 0 ∨ x / 11 % 4 = 1 ∨ x / 11 % 4 = 2 ∨ x / 11 % 4 = 3 := by omega
   rcases this with e | e | e | e <;> rw [e]
   ·exact ⟨_, by decide, at0⟩
   ·exact ⟨_, by decide, at1⟩
   ·exact ⟨_, by omega, at2⟩
   ·exact ⟨_, m1, at3⟩
  obtain ⟨q, q0, eq⟩ := hq
  refine ⟨pt L r.nm q, hL.pt q0, hT.pt, pt_len, ?_⟩
  unfold m145__lengths_2
  walk_at "all"
  rw [hr]
  walk_at "all"
  simp only [h.1, h.2]
  walk_at "all"
  rw [d_put (k := M.length) (kvs := tb L) (e := .str r.nm) (key := .inr r.nm) (x := .int q) (M1 := M ++ [.dct (tb L)]) (M2 := M ++ [.dct (tb L)]) (M3 := M ++ [.dct (tb L)]) (by walk_at "all"; rw [eq]; walk_at "all") rfl (by walk_at "all"; rw [hr]; walk_at "all") g_end rfl (by rw [tb_len, sizeLine_eq]; omega), put_tb]
  walk_at "all"
 ·refine ⟨L, hL, hT, by omega, ?_⟩
  have t : (if r.w = Str.ofString "in" then some (Res.v (D.bl (decide (x % 11 = 3))), M ++ [Cl.dct (tb L)]) else some (Res.v (D.bl false), M ++ [Cl.dct (tb L)])) = some (Res.v (D.bl false), M ++ [Cl.dct (tb L)]) := by
   by_cases z : r.w = Str.ofString "in"
   ·rw [if_pos z, decide_eq_false (fun z2 => h ⟨z, z2⟩)]
   ·rw [if_neg z]
  unfold m145__lengths_2
  walk_at "all"
  rw [hr]
  walk_at "all"
  rw [t]
  walk_at "all"
theorem le1 (hr : atI ds k = some (rD r)) (hL : NN L) (hT : TN L) (hl : L.length ≤ 190) (x0 : 0 ≤ x) : ∃ L', NN L' ∧ TN L' ∧ L'.length ≤ L.length + 2 ∧ m145__lengths_1 [.val (.lst ds), .val (.int c), .val (.int x2), .val (.ref M.length), .val (.int k), .val (.int x)] (M ++ [.dct (tb L)]) = some (.nx [.val (.lst ds), .val (.int c), .val (.int x2), .val (.ref M.length), .val (.int k), .val (.int x)], M ++ [.dct (tb L')]) := by
 by_cases h : r.w = Str.ofString "in" ∧ 0 < x % 5
 ·have pl := pt_len (t := L) (k := r.nm) (v := x / 5 % 10)
  obtain ⟨L', a1, a2, a3, a4⟩ := le2 (M := M) (c := c) (x2 := x2) (L := pt L r.nm (x / 5 % 10)) (x := x) hr (hL.pt (by omega)) hT.pt (by omega) x0
  refine ⟨L', a1, a2, by omega, ?_⟩
  unfold m145__lengths_1
  walk_at "all"
  rw [hr]
  walk_at "all"
  simp only [h.1, h.2]
  walk_at "all"
  rw [d_put (k := M.length) (kvs := tb L) (e := .str r.nm) (key := .inr r.nm) (x := .int (x / 5 % 10)) (M1 := M ++ [.dct (tb L)]) (M2 := M ++ [.dct (tb L)]) (M3 := M ++ [.dct (tb L)]) (by walk_at "all") rfl (by walk_at "all"; rw [hr]; walk_at "all") g_end rfl (by rw [tb_len, sizeLine_eq]; omega), put_tb]
  walk_at "all"
  exact a4
 ·obtain ⟨L', a1, a2, a3, a4⟩ := le2 (M := M) (c := c) (x2 := x2) (L := L) (x := x) hr hL hT (by omega) x0
  refine ⟨L', a1, a2, by omega, ?_⟩
  have t : (if r.w = Str.ofString "in" then some (Res.v (D.bl (decide (0 < x % 5))), M ++ [Cl.dct (tb L)]) else some (Res.v (D.bl false), M ++ [Cl.dct (tb L)])) = some (Res.v (D.bl false), M ++ [Cl.dct (tb L)]) := by
   by_cases z : r.w = Str.ofString "in"
   ·rw [if_pos z, decide_eq_false (fun z2 => h ⟨z, z2⟩)]
   ·rw [if_neg z]
  unfold m145__lengths_1
  walk_at "all"
  rw [hr]
  walk_at "all"
  rw [t]
  walk_at "all"
  exact a4
end
variable {M : Mm}
theorem len_ok {rs : List Rw} {c : Int} (h1 : 1 ≤ rs.length) (h2 : rs.length ≤ 41) : ∃ L E k, NN L ∧ TN L ∧ (M ++ E)[k]? = some (.dct (tb L)) ∧ g__lengths [.lst (rs.map rD), .int c] M = some (.v (.ref k), M ++ E) := by
  obtain ⟨x, x0, x1, xs, ex, ed⟩ := dr3 (n := c)
  have i0 : atI (rs.map rD) 0 = some (rD (rs[0]'(by omega))) := atI_nat (j := 0) (by rw [List.getElem?_map, List.getElem?_eq_getElem (by omega)]; rfl)
  have go : g__lengths [.lst (rs.map rD), .int c] M = endS (n__lengths_1 [.val (.lst (rs.map rD)), .val (.int c), .val (.int x), .un, .un, .un] M) := by
    unfold g__lengths b__lengths
    walk_at "all"
    rw [ed]
    walk_at "all"
    rw [ex]
    walk_at "all"
  rw [go]
  by_cases h : x % 4 = 1
  · have hq : ∃ q : Int, 0 ≤ q ∧ atI [D.int 2000, .int 1000, .int 500, .int 2001, .int 667, .int 45] (x / 4 % 6) = some (.int q) := by
      have : x / 4 % 6 = 0 ∨ x / 4 % 6 = 1 ∨ x / 4 % 6 = 2 ∨ x / 4 % 6 = 3 ∨ x / 4 % 6 = 4 ∨ x / 4 % 6 = 5 := by omega
      rcases this with e | e | e | e | e | e <;> rw [e]
      · exact ⟨_, by decide, at0⟩
      · exact ⟨_, by decide, at1⟩
      · exact ⟨_, by decide, at2⟩
      · exact ⟨_, by decide, at3⟩
      · exact ⟨_, by decide, atI_nat (j := 4) rfl⟩
      · exact ⟨_, by decide, atI_nat (j := 5) rfl⟩
    obtain ⟨q, q0, eq⟩ := hq
    refine ⟨[((rs[0]'(by omega)).nm, q)], [.dct (tb [((rs[0]'(by omega)).nm, q)])], M.length, ?_, ?_, g_end, ?_⟩
    · intro k
      unfold gv gt
      rw [List.find?_cons]
      split
      · exact q0
      · exact Int.le_refl _
    · unfold TN; simp
    · unfold n__lengths_1
      walk_at "all"
      simp only [h]
      walk_at "all"
      rw [d_one (nm := (rs[0]'(by omega)).nm) (v := q) (by walk_at "all"; rw [i0]; walk_at "all") (by walk_at "all"; rw [eq]; walk_at "all")]
      walk_at "all"
  · have lp : ∃ L s4 s5, NN L ∧ TN L ∧ loopS 4 l__lengths_1 ((List.range rs.length).map fun (k : Nat) => D.int (0 + k)) [.val (.lst (rs.map rD)), .val (.int c), .val (.int x), .val (.ref M.length), .un, .un] (M ++ [.dct (tb [])]) = some (.nx [.val (.lst (rs.map rD)), .val (.int c), .val (.int x), .val (.ref M.length), s4, s5], M ++ [.dct (tb L)]) := by
      refine loop_by (fun o => ∃ L s4 s5, NN L ∧ TN L ∧ o = some (.nx [.val (.lst (rs.map rD)), .val (.int c), .val (.int x), .val (.ref M.length), s4, s5], M ++ [.dct (tb L)]))
        (fun k env N => ∃ (L : List (Str × Int)) (s4 s5 : E3.Slot), NN L ∧ TN L ∧ L.length ≤ 2 * k ∧ N = M ++ [.dct (tb L)] ∧ env = [.val (.lst (rs.map rD)), .val (.int c), .val (.int x), .val (.ref M.length), s4, s5])
        ⟨[], .un, .un, fun _ => Int.le_refl _, (by unfold TN; simp), Nat.le_refl _, rfl, rfl⟩ ?_ ?_
      · rintro k d env N hd ⟨L, s4, s5, n1, n2, n3, rfl, rfl⟩
        have hk : k < rs.length := by
          have := (List.getElem?_eq_some_iff.mp hd).1
          simpa using this
        rw [List.getElem?_map, List.getElem?_range hk, Option.map_some] at hd
        cases hd
        refine ⟨by show 4 < 6; decide, ?_⟩
        have ik : atI (rs.map rD) (k : Int) = some (rD (rs[k]'hk)) := atI_nat (by rw [List.getElem?_map, List.getElem?_eq_getElem hk]; rfl)
        have z : (0 : Int) + (k : Int) = k := by omega
        obtain ⟨y, y0, y1, ys, ey, edy⟩ := dr3 (n := c + 7 * (k : Int))
        obtain ⟨L', a1, a2, a3, a4⟩ := le1 (M := M) (c := c) (x2 := x) (x := y) (k := (k : Int)) ik n1 n2 (by omega) y0
        have e : l__lengths_1 [.val (.lst (rs.map rD)), .val (.int c), .val (.int x), .val (.ref M.length), .val (.int k), s5] (M ++ [.dct (tb L)]) = some (.nx [.val (.lst (rs.map rD)), .val (.int c), .val (.int x), .val (.ref M.length), .val (.int k), .val (.int y)], M ++ [.dct (tb L')]) := by
          unfold l__lengths_1
          walk_at "all"
          rw [edy]
          walk_at "all"
          rw [ey]
          walk_at "all"
          exact a4
        simp only [List.set_cons_zero, List.set_cons_succ, z, e]
        exact ⟨L', _, _, a1, a2, by omega, rfl, rfl⟩
      · rintro env N ⟨L, s4, s5, n1, n2, n3, rfl, rfl⟩
        exact ⟨L, s4, s5, n1, n2, rfl⟩
    obtain ⟨L, s4, s5, n1, n2, lp⟩ := lp
    refine ⟨L, [.dct (tb L)], M.length, n1, n2, g_end, ?_⟩
    unfold n__lengths_1
    walk_at "all"
    simp only [h]
    walk_at "all"
    unfold n__lengths_2
    rw [q_seq, q_asg, d_new]
    walk_at "all"
    unfold n__lengths_3
    walk_at "all"
    rw [r_rng1 (by omega), Int.toNat_natCast]
    walk_at "all"
    rw [show M ++ [Cl.dct []] = M ++ [Cl.dct (tb [])] from rfl, lp]
    walk_at "all"
    unfold n__lengths_4
    walk_at "all"
variable {M : Mm}
section
variable {L : List (Str × Int)} {rs : List Rw} {a : Nat}
theorem ref_ok (h : GR [] rs) (hL : NN L) (hl : rs.length ≤ 100) (hA : M[a]? = some (.dct (tb L))) (hn : run L rs [] = none) : ∃ E, g__refused [.lst (rs.map rD), .ref a] M = some (.v (.bl true), M ++ E) := by
 have go : ∀ N : Mm, N[a]? = some (.dct (tb L)) → ∃ t', g_flows [.lst (rs.map rD), .ref a] N = some (.x "TooMuch" 0, N ++ [.dct (tb t')]) := fun N hN => by
  rcases flows_ok (M := N) h hL hl hN with ⟨t', e, _⟩ | ⟨t', _, e⟩
  ·rw [hn] at e; cases e
  ·exact ⟨t', e⟩
 obtain ⟨t1, e1⟩ := go M hA
 obtain ⟨t2, e2⟩ := go (M ++ [.dct (tb t1)]) (at_old hA)
 refine ⟨[.dct (tb t1)] ++ [.dct (tb t2)], ?_⟩
 unfold g__refused b__refused y__refused_1 h__refused_1 y__refused_2 h__refused_2
 walk_at "all"
 rw [e1]
 walk_at "all"
 rw [show cat_TooMuch "TooMuch" = true by decide +kernel]
 walk_at "all"
 rw [show tb_NoIn "TooMuch" = some false by decide +kernel]
 walk_at "all"
 rw [e2]
 walk_at "all"
 rw [show cat_DamError "TooMuch" = true by decide +kernel]
 walk_at "all"
 rw [show tb_ValueError "TooMuch" = some true by decide +kernel]
 walk_at "all"
 rw [List.append_assoc]
 rfl
theorem vals_f : ∀ t : List (Str × Int), valsB e_law_1 (tb t) = some (t.map fun _ => false)
  | [] => rfl
  | p :: t => by
    have e : e_law_1 [.val (.int p.2)] [] = some (.v (.bl false), []) := by
      unfold e_law_1
      walk_at "all"
    show (match e_law_1 [.val (.int p.2)] [] with
      | some (.v (.bl b), []) => (valsB e_law_1 (tb t)).map (b :: ·)
      | _ => none) = _
    rw [e]
    dsimp only
    rw [vals_f t]
    rfl
theorem any_f : ∀ t : List (Str × Int), (t.map fun _ => false).any id = false
 | [] => rfl
 | p :: t => by rw [List.map_cons, List.any_cons, any_f t]; rfl
theorem bols_m : ∀ bs : List Bool, bolsD (bs.map .bl) = some bs
 | [] => rfl
 | b :: bs => by simp only [List.map_cons, bolsD, bols_m bs]; rfl
end
theorem lawG_ok : ∀ ns : List Int, ns.length ≤ 63 → ∃ M, lawG [.lst (ns.map D.int)] [] = some (.v (.bl true), M) := by
  intro ns hn
  obtain ⟨cs, c1, c2, ec⟩ := cells_ok hn
  obtain ⟨rs, E0, hrs, hlen, er⟩ := rows_ok (M := []) (cs := cs) (by omega)
  rw [List.nil_append] at er
  have hg := GR.of hrs
  generalize hc : (ns.getD 12 0 + 31 * ns.getD 1 0 + ns.getD 0 0) = c
  obtain ⟨L, E1, k, hL, hT, hk, el⟩ := len_ok (M := E0) (rs := rs) (c := c) (by omega) (by omega)
  generalize hM1 : E0 ++ E1 = M1 at hk el
  have go : lawG [.lst (ns.map D.int)] [] = endS (n_law_3 [.val (.lst (ns.map .int)), .val (.lst (rs.map rD)), .val (.int c), .val (.ref k), .un, .un, .un] M1) := by
    unfold lawG g_law b_law
    walk_at "all"
    rw [ec]
    walk_at "all"
    rw [er]
    walk_at "all"
    unfold n_law_1
    walk_at "all"
    rw [g_cell (by decide)]
    walk_at "all"
    rw [g_cell (by decide)]
    walk_at "all"
    rw [g_cell (by decide)]
    walk_at "all"
    rw [hc]
    unfold n_law_2
    walk_at "all"
    rw [el]
    walk_at "all"
  rw [go]
  rcases due_ok (M := M1) hg hL (by omega) hk with ⟨t, e1, e2⟩ | ⟨t, e1, e2⟩
  · -- told
    have hk2 : (M1 ++ [Cl.dct (tb t)])[k]? = some (.dct (tb L)) := at_old hk
    have cp : sDCopy (sVar 3) [.val (.lst (ns.map .int)), .val (.lst (rs.map rD)), .val (.int c), .val (.ref k), .val (.ref M1.length), .un, .un] (M1 ++ [.dct (tb t)]) = some (.v (.ref (M1 ++ [Cl.dct (tb t)]).length), M1 ++ [.dct (tb t)] ++ [.dct (tb L)]) := d_cpy rfl hk2
    generalize hM2 : M1 ++ [Cl.dct (tb t)] = M2 at cp hk2 e2
    have hd2 : M2[M1.length]? = some (.dct (tb t)) := by rw [← hM2]; exact g_end
    generalize hM3 : M2 ++ [Cl.dct (tb L)] = M3 at cp
    have hh3 : M3[M2.length]? = some (.dct (tb L)) := by rw [← hM3]; exact g_end
    have hk3 : M3[k]? = some (.dct (tb L)) := by rw [← hM3]; exact at_old hk2
    have hd3 : M3[M1.length]? = some (.dct (tb t)) := by rw [← hM3]; exact at_old hd2
    rcases flows_ok (M := M3) hg hL (by omega) hh3 with ⟨t', f1, f2, f3, f4⟩ | ⟨t', f1, _⟩
    · rw [e1] at f1
      cases f1
      generalize hM4 : M3 ++ [Cl.dct (tb t)] = M4 at f4
      have hf4 : M4[M3.length]? = some (.dct (tb t)) := by rw [← hM4]; exact g_end
      have hd4 : M4[M1.length]? = some (.dct (tb t)) := by rw [← hM4]; exact at_old hd3
      have hh4 : M4[M2.length]? = some (.dct (tb L)) := by rw [← hM4]; exact at_old hh3
      have hk4 : M4[k]? = some (.dct (tb L)) := by rw [← hM4]; exact at_old hk3
      refine ⟨M4, ?_⟩
      have q1 : sDEq false (sVar 6) (sVar 4) [.val (.lst (ns.map .int)), .val (.lst (rs.map rD)), .val (.int c), .val (.ref k), .val (.ref M1.length), .val (.ref M2.length), .val (.ref M3.length)] M4 = some (.v (.bl false), M4) := d_eq rfl rfl hf4 hd4 (al_self f2)
      have q2 : sDEq false (sVar 5) (sVar 3) [.val (.lst (ns.map .int)), .val (.lst (rs.map rD)), .val (.int c), .val (.ref k), .val (.ref M1.length), .val (.ref M2.length), .val (.ref M3.length)] M4 = some (.v (.bl false), M4) := d_eq rfl rfl hh4 hk4 (al_self hT)
      have q3 : sVals (sVar 6) e_law_1 [.val (.lst (ns.map .int)), .val (.lst (rs.map rD)), .val (.int c), .val (.ref k), .val (.ref M1.length), .val (.ref M2.length), .val (.ref M3.length)] M4 = some (.v (.lst ((t.map fun _ => false).map .bl)), M4) := d_vals rfl hf4 (vals_f t) (by rw [tb_len, sizeLine_eq]; omega)
      have sm : oCmp .same (vw M3 (.ref M1.length)) .non = some (.bl false) := by simp only [vw, hd3]; rfl
      have ty : tyM M4 (.ref M3.length) = "dict" := by simp only [tyM, hf4]
      have q4 : isiV isiT "dict" M4 (tyM M4 (.ref M3.length)) = some (.v (.bl true), M4) := by rw [ty]; rfl
      unfold n_law_3
      walk_at "all"
      rw [e2]
      walk_at "all"
      unfold n_law_4
      walk_at "all"
      rw [cp]
      walk_at "all"
      unfold n_law_5
      walk_at "all"
      rw [sm]
      walk_at "all"
      unfold n_law_6
      walk_at "all"
      rw [f4]
      walk_at "all"
      unfold n_law_7
      walk_at "all"
      rw [q4]
      walk_at "all"
      rw [q1]
      walk_at "all"
      rw [q2]
      walk_at "all"
      unfold n_law_8
      walk_at "all"
      rw [q3]
      walk_at "all"
      rw [bols_m]
      walk_at "all"
      rw [any_f]
      walk_at "all"
    · rw [e1] at f1; cases f1
  · -- refused
    have hk2 : (M1 ++ [Cl.dct (tb t)])[k]? = some (.dct (tb L)) := at_old hk
    have cp : sDCopy (sVar 3) [.val (.lst (ns.map .int)), .val (.lst (rs.map rD)), .val (.int c), .val (.ref k), .val .non, .un, .un] (M1 ++ [.dct (tb t)]) = some (.v (.ref (M1 ++ [Cl.dct (tb t)]).length), M1 ++ [.dct (tb t)] ++ [.dct (tb L)]) := d_cpy rfl hk2
    generalize hM2 : M1 ++ [Cl.dct (tb t)] = M2 at cp hk2 e2
    generalize hM3 : M2 ++ [Cl.dct (tb L)] = M3 at cp
    have hh3 : M3[M2.length]? = some (.dct (tb L)) := by rw [← hM3]; exact g_end
    have hk3 : M3[k]? = some (.dct (tb L)) := by rw [← hM3]; exact at_old hk2
    obtain ⟨E2, er2⟩ := ref_ok (M := M3) hg hL (by omega) hh3 e1
    generalize hM4 : M3 ++ E2 = M4 at er2
    have hh4 : M4[M2.length]? = some (.dct (tb L)) := by rw [← hM4]; exact at_old hh3
    have hk4 : M4[k]? = some (.dct (tb L)) := by rw [← hM4]; exact at_old hk3
    obtain ⟨t0, r0⟩ := run_0 (rs := rs) (t := []) (fun _ => rfl)
    have N0 : NN [] := fun _ => Int.le_refl _
    have F : ∃ N : Mm, TN t0 ∧ N[M4.length + 1]? = some (.dct (tb t0)) ∧ sCall g_flows (sCons (sVar 1) (sCons (sDct pNil) sNil)) [.val (.lst (ns.map .int)), .val (.lst (rs.map rD)), .val (.int c), .val (.ref k), .val .non, .val (.ref M2.length), .un] M4 = some (.v (.ref (M4.length + 1)), N) := by
      rcases flows_ok (M := M4 ++ [.dct (tb [])]) (a := M4.length) hg N0 (by omega) g_end with ⟨t', f1, f2, f3, f4⟩ | ⟨t', f1, _⟩
      · rw [r0] at f1
        cases f1
        rw [show (M4 ++ [Cl.dct (tb [])]).length = M4.length + 1 by simp] at f4
        refine ⟨M4 ++ [.dct (tb [])] ++ [.dct (tb t0)], f2, ?_, ?_⟩
        rotate_left
        · walk_at "all"
          rw [d_new]
          walk_at "all"
          rw [show M4 ++ [Cl.dct []] = M4 ++ [Cl.dct (tb [])] from rfl, f4]
          walk_at "all"
        · rw [show M4.length + 1 = (M4 ++ [Cl.dct (tb [])]).length by simp]
          exact g_end
      · rw [r0] at f1; cases f1
    obtain ⟨N, tn, hN, fN⟩ := F
    have Gd : ∃ N' : Mm, N'[M4.length + 1]? = some (.dct (tb t0)) ∧ N'[N.length + 1]? = some (.dct (tb t0)) ∧ sCall g__due (sCons (sVar 1) (sCons (sDct pNil) sNil)) [.val (.lst (ns.map .int)), .val (.lst (rs.map rD)), .val (.int c), .val (.ref k), .val .non, .val (.ref M2.length), .un] N = some (.v (.ref (N.length + 1)), N') := by
      rcases due_ok (M := N ++ [.dct (tb [])]) (a := N.length) hg N0 (by omega) g_end with ⟨t', f1, f4⟩ | ⟨t', f1, _⟩
      · rw [r0] at f1
        cases f1
        rw [show (N ++ [Cl.dct (tb [])]).length = N.length + 1 by simp] at f4
        refine ⟨N ++ [.dct (tb [])] ++ [.dct (tb t0)], ?_, ?_, ?_⟩
        rotate_left 2
        · walk_at "all"
          rw [d_new]
          walk_at "all"
          rw [show N ++ [Cl.dct []] = N ++ [Cl.dct (tb [])] from rfl, f4]
          walk_at "all"
        · exact at_old (at_old hN)
        · rw [show N.length + 1 = (N ++ [Cl.dct (tb [])]).length by simp]
          exact g_end
      · rw [r0] at f1; cases f1
    obtain ⟨N', n1, n2, gN⟩ := Gd
    have q1 : sDEq true (sVar 5) (sVar 3) [.val (.lst (ns.map .int)), .val (.lst (rs.map rD)), .val (.int c), .val (.ref k), .val .non, .val (.ref M2.length), .un] M4 = some (.v (.bl true), M4) := d_eq rfl rfl hh4 hk4 (al_self hT)
    have q2 : sDEq true (sCall g_flows (sCons (sVar 1) (sCons (sDct pNil) sNil))) (sCall g__due (sCons (sVar 1) (sCons (sDct pNil) sNil))) [.val (.lst (ns.map .int)), .val (.lst (rs.map rD)), .val (.int c), .val (.ref k), .val .non, .val (.ref M2.length), .un] M4 = some (.v (.bl true), N') := d_eq fN gN n1 n2 (al_self tn)
    refine ⟨N', ?_⟩
    unfold n_law_3
    walk_at "all"
    rw [e2]
    walk_at "all"
    unfold n_law_4
    walk_at "all"
    rw [cp]
    walk_at "all"
    unfold n_law_5
    walk_at "all"
    rw [er2]
    walk_at "all"
    rw [q1]
    walk_at "all"
    rw [q2]
    walk_at "all"
theorem law_at {l : PySem.W.OpenLaw} {w : World} {K : PySem.W.Frag} {mg : Str → Option Value} {C : Ad} {base : Heap} {f0 : Addr} {d0 : FuncData} {f1 : Addr} {d1 : FuncData} {f2 : Addr} {d2 : FuncData} {f3 : Addr} {d3 : FuncData} {f4 : Addr} {d4 : FuncData} {f5 : Addr} {d5 : FuncData} {f6 : Addr} {d6 : FuncData} {f7 : Addr} {d7 : FuncData} {f8 : Addr} {d8 : FuncData} {f9 : Addr} {d9 : FuncData} {f10 : Addr} {d10 : FuncData} {f11 : Addr} {d11 : FuncData} {f12 : Addr} {d12 : FuncData} {f13 : Addr} {d13 : FuncData} {f14 : Addr} {d14 : FuncData} {f15 : Addr} {d15 : FuncData} {f16 : Addr} {d16 : FuncData} {f17 : Addr} {d17 : FuncData} (T : Txt K mg C)
  (D0 : DefAt K mg "window_of" s_window_of ["row"] f0 d0)
  (D1 : DefAt K mg "flow_of" s_flow_of ["row", "lengths", "above"] f1 d1)
  (D2 : DefAt K mg "flows" s_flows ["works", "lengths"] f2 d2)
  (D3 : DefAt K mg "_law_cell_at" s__cell_at ["_law_script", "_law_k"] f3 d3)
  (D4 : DefAt K mg "_law_cells" s__cells ["_law_script"] f4 d4)
  (D5 : DefAt K mg "_law_drawn" s__drawn ["_law_number", "_law_many"] f5 d5)
  (D6 : DefAt K mg "_law_leaf" s__leaf ["_law_x", "_law_letters"] f6 d6)
  (D7 : DefAt K mg "_law_expr" s__expr ["_law_number", "_law_letters", "_law_most"] f7 d7)
  (D8 : DefAt K mg "_law_cond" s__cond ["_law_number", "_law_most"] f8 d8)
  (D9 : DefAt K mg "_law_name" s__name ["_law_x", "_law_k"] f9 d9)
  (D10 : DefAt K mg "_law_row" s__row ["_law_k", "_law_xs", "_law_above"] f10 d10)
  (D11 : DefAt K mg "_law_rows" s__rows ["_law_cells_here"] f11 d11)
  (D12 : DefAt K mg "_law_lengths" s__lengths ["_law_rows_here", "_law_cell"] f12 d12)
  (D13 : DefAt K mg "_law_times" s__times ["_law_rest"] f13 d13)
  (D14 : DefAt K mg "_law_flow" s__flow ["_law_row_here", "_law_before", "_law_lengths_here"] f14 d14)
  (D15 : DefAt K mg "_law_due" s__due ["_law_rows_here", "_law_lengths_here"] f15 d15)
  (D16 : DefAt K mg "_law_refused" s__refused ["_law_rows_here", "_law_lengths_here"] f16 d16)
  (D17 : DefAt K mg "law" s_law ["_law_script"] f17 d17)
  : FnOk l.prog w K mg base CX0 lawK f17 d17 ["_law_script"] (spG K mg 1 lawG) := by
 have A0 : AtG l.prog w K mg base 1 "window_of" 1 g_window_of := fn_at (b := b_window_of) D0.F sc_window_of (by decide) D0.mg D0.b (r_window_of (k := 0) T)
 have A1 : AtG l.prog w K mg base 2 "flow_of" 3 g_flow_of := fn_at (b := b_flow_of) D1.F sc_flow_of (by decide) D1.mg D1.b (r_flow_of (k := 1) T (A0.mono (by decide)))
 have B2 : AtX l.prog w K mg base 3 "flows" 2 g_flows := ⟨_, _, _, D2.mg, D2.F.kp, fn_runP (b := b_flows) D2.F sc_flows (by decide) (r_flows (k := 2) T (A1.mono (by decide))), D2.b⟩
 have A2 := B2.quiet
 have A3 : AtG l.prog w K mg base 1 "_law_cell_at" 2 g__cell_at := fn_at (b := b__cell_at) D3.F sc__cell_at (by decide) D3.mg D3.b (r__cell_at (k := 0) T)
 have A5 : AtG l.prog w K mg base 1 "_law_drawn" 2 g__drawn := fn_at (b := b__drawn) D5.F sc__drawn (by decide) D5.mg D5.b (r__drawn (k := 0) T)
 have A4 : AtG l.prog w K mg base 2 "_law_cells" 1 g__cells := fn_at (b := b__cells) D4.F sc__cells (by decide) D4.mg D4.b (r__cells (k := 1) T (A3.mono (by decide)) (A5.mono (by decide)))
 have A6 : AtG l.prog w K mg base 1 "_law_leaf" 2 g__leaf := fn_at (b := b__leaf) D6.F sc__leaf (by decide) D6.mg D6.b (r__leaf (k := 0) T)
 have A7 : AtG l.prog w K mg base 2 "_law_expr" 3 g__expr := fn_at (b := b__expr) D7.F sc__expr (by decide) D7.mg D7.b (r__expr (k := 1) T (A6.mono (by decide)))
 have A8 : AtG l.prog w K mg base 2 "_law_cond" 2 g__cond := fn_at (b := b__cond) D8.F sc__cond (by decide) D8.mg D8.b (r__cond (k := 1) T (A6.mono (by decide)))
 have A9 : AtG l.prog w K mg base 1 "_law_name" 2 g__name := fn_at (b := b__name) D9.F sc__name (by decide) D9.mg D9.b (r__name (k := 0) T)
 have A10 : AtG l.prog w K mg base 3 "_law_row" 3 g__row := fn_at (b := b__row) D10.F sc__row (by decide) D10.mg D10.b (r__row (k := 2) T (A7.mono (by decide)) (A8.mono (by decide)) (A9.mono (by decide)))
 have A11 : AtG l.prog w K mg base 4 "_law_rows" 1 g__rows := fn_at (b := b__rows) D11.F sc__rows (by decide) D11.mg D11.b (r__rows (k := 3) T (A5.mono (by decide)) (A10.mono (by decide)))
 have A12 : AtG l.prog w K mg base 2 "_law_lengths" 2 g__lengths := fn_at (b := b__lengths) D12.F sc__lengths (by decide) D12.mg D12.b (r__lengths (k := 1) T (A5.mono (by decide)))
 have A13 : AtG l.prog w K mg base 1 "_law_times" 1 g__times := fn_at (b := b__times) D13.F sc__times (by decide) D13.mg D13.b (r__times (k := 0) T)
 have A14 : AtG l.prog w K mg base 2 "_law_flow" 3 g__flow := fn_at (b := b__flow) D14.F sc__flow (by decide) D14.mg D14.b (r__flow (k := 1) T (A13.mono (by decide)))
 have A15 : AtG l.prog w K mg base 3 "_law_due" 2 g__due := fn_at (b := b__due) D15.F sc__due (by decide) D15.mg D15.b (r__due (k := 2) T (A14.mono (by decide)))
 have A16 : AtG l.prog w K mg base 4 "_law_refused" 2 g__refused := fn_at (b := b__refused) D16.F sc__refused (by decide) D16.mg D16.b (r__refused (k := 3) T (B2.mono (by decide)))
 refine @fn_run l.prog w K mg base 4 "law" "law" s_law f17 d17 ["_law_script", "_law_rows_here", "_law_cell", "_law_lengths_here", "_law_due_here", "_law_handed", "_law_found"] ["_law_script"] b_law ?_ ?_ ?_ ?_
 ·exact D17.F
 ·exact sc_law
 ·decide
 ·exact @r_law l.prog w K mg C base 4 f17 T (A2.mono (by decide)) (A3.mono (by decide)) (A4.mono (by decide)) (A11.mono (by decide)) (A12.mono (by decide)) (A15.mono (by decide)) (A16.mono (by decide))
theorem all_mk {l : PySem.W.OpenLaw} {w : World} {K : PySem.W.Frag} {h : Heap} {mg : Str → Option Value} {fa : Addr} (X : K.In h) (G : h.Ns mainGlobals mg) (hfa : mg "law" = some (.ref fa))
  {C_DamError : Addr}
  {C_NoIn : Addr}
  {C_TooMuch : Addr}
  {f0 : Addr} {oc0 kV0 dc0 pm0 cd0 ct0 : Value} {od0 an0 : Option Addr} {sl0 : Array (Option Value)}
  {f1 : Addr} {oc1 kV1 dc1 pm1 cd1 ct1 : Value} {od1 an1 : Option Addr} {sl1 : Array (Option Value)}
  {f2 : Addr} {oc2 kV2 dc2 pm2 cd2 ct2 : Value} {od2 an2 : Option Addr} {sl2 : Array (Option Value)}
  {f3 : Addr} {oc3 kV3 dc3 pm3 cd3 ct3 : Value} {od3 an3 : Option Addr} {sl3 : Array (Option Value)}
  {f4 : Addr} {oc4 kV4 dc4 pm4 cd4 ct4 : Value} {od4 an4 : Option Addr} {sl4 : Array (Option Value)}
  {f5 : Addr} {oc5 kV5 dc5 pm5 cd5 ct5 : Value} {od5 an5 : Option Addr} {sl5 : Array (Option Value)}
  {f6 : Addr} {oc6 kV6 dc6 pm6 cd6 ct6 : Value} {od6 an6 : Option Addr} {sl6 : Array (Option Value)}
  {f7 : Addr} {oc7 kV7 dc7 pm7 cd7 ct7 : Value} {od7 an7 : Option Addr} {sl7 : Array (Option Value)}
  {f8 : Addr} {oc8 kV8 dc8 pm8 cd8 ct8 : Value} {od8 an8 : Option Addr} {sl8 : Array (Option Value)}
  {f9 : Addr} {oc9 kV9 dc9 pm9 cd9 ct9 : Value} {od9 an9 : Option Addr} {sl9 : Array (Option Value)}
  {f10 : Addr} {oc10 kV10 dc10 pm10 cd10 ct10 : Value} {od10 an10 : Option Addr} {sl10 : Array (Option Value)}
  {f11 : Addr} {oc11 kV11 dc11 pm11 cd11 ct11 : Value} {od11 an11 : Option Addr} {sl11 : Array (Option Value)}
  {f12 : Addr} {oc12 kV12 dc12 pm12 cd12 ct12 : Value} {od12 an12 : Option Addr} {sl12 : Array (Option Value)}
  {f13 : Addr} {oc13 kV13 dc13 pm13 cd13 ct13 : Value} {od13 an13 : Option Addr} {sl13 : Array (Option Value)}
  {f14 : Addr} {oc14 kV14 dc14 pm14 cd14 ct14 : Value} {od14 an14 : Option Addr} {sl14 : Array (Option Value)}
  {f15 : Addr} {oc15 kV15 dc15 pm15 cd15 ct15 : Value} {od15 an15 : Option Addr} {sl15 : Array (Option Value)}
  {f16 : Addr} {oc16 kV16 dc16 pm16 cd16 ct16 : Value} {od16 an16 : Option Addr} {sl16 : Array (Option Value)}
  {f17 : Addr} {oc17 kV17 dc17 pm17 cd17 ct17 : Value} {od17 an17 : Option Addr} {sl17 : Array (Option Value)}
  {tMOST_FLOW : Tok}
  (ac_DamError : PySem.W.nsIn K mainGlobals "DamError" = some (some (.ref C_DamError)))
  (ac_NoIn : PySem.W.nsIn K mainGlobals "NoIn" = some (some (.ref C_NoIn)))
  (ac_TooMuch : PySem.W.nsIn K mainGlobals "TooMuch" = some (some (.ref C_TooMuch)))
  (xc_DamError : xcIn K C_DamError = true)
  (xc_NoIn : xcIn K C_NoIn = true)
  (xc_TooMuch : xcIn K C_TooMuch = true)
  (xn_TooMuch : xnoIn K C_TooMuch = true) (xk_TooMuch : PySem.W.keepIn K (.ref C_TooMuch) = true) (xs_TooMuch : xisIn K C_TooMuch = true)
  (pk_TooMuch_NoIn : PySem.W.kitOne K (.ref C_TooMuch) (.ref C_NoIn) = some false)
  (pk_TooMuch_ValueError : PySem.W.kitOne K (.ref C_TooMuch) (.type "ValueError") = some true)
  (qk_TooMuch_DamError : supIn K C_TooMuch C_DamError = true)
  (qk_TooMuch_TooMuch : supIn K C_TooMuch C_TooMuch = true)
  (a0 : PySem.W.nsIn K mainGlobals "window_of" = some (some (.ref f0))) (l0 : K.lookup f0 = some ⟨oc0, od0, .func (PySem.W.fnOf "window_of" "window_of" (defArgs s_window_of) (defBody s_window_of) (defScope s_window_of) .none kV0 dc0 pm0 an0 cd0 ct0), sl0⟩) (c0 : PySem.W.codeIn K cd0 "window_of" = true) (k0 : PySem.W.keepIn K (.ref f0) = true)
  (a1 : PySem.W.nsIn K mainGlobals "flow_of" = some (some (.ref f1))) (l1 : K.lookup f1 = some ⟨oc1, od1, .func (PySem.W.fnOf "flow_of" "flow_of" (defArgs s_flow_of) (defBody s_flow_of) (defScope s_flow_of) .none kV1 dc1 pm1 an1 cd1 ct1), sl1⟩) (c1 : PySem.W.codeIn K cd1 "flow_of" = true) (k1 : PySem.W.keepIn K (.ref f1) = true)
  (a2 : PySem.W.nsIn K mainGlobals "flows" = some (some (.ref f2))) (l2 : K.lookup f2 = some ⟨oc2, od2, .func (PySem.W.fnOf "flows" "flows" (defArgs s_flows) (defBody s_flows) (defScope s_flows) .none kV2 dc2 pm2 an2 cd2 ct2), sl2⟩) (c2 : PySem.W.codeIn K cd2 "flows" = true) (k2 : PySem.W.keepIn K (.ref f2) = true)
  (a3 : PySem.W.nsIn K mainGlobals "_law_cell_at" = some (some (.ref f3))) (l3 : K.lookup f3 = some ⟨oc3, od3, .func (PySem.W.fnOf "_law_cell_at" "_law_cell_at" (defArgs s__cell_at) (defBody s__cell_at) (defScope s__cell_at) .none kV3 dc3 pm3 an3 cd3 ct3), sl3⟩) (c3 : PySem.W.codeIn K cd3 "_law_cell_at" = true) (k3 : PySem.W.keepIn K (.ref f3) = true)
  (a4 : PySem.W.nsIn K mainGlobals "_law_cells" = some (some (.ref f4))) (l4 : K.lookup f4 = some ⟨oc4, od4, .func (PySem.W.fnOf "_law_cells" "_law_cells" (defArgs s__cells) (defBody s__cells) (defScope s__cells) .none kV4 dc4 pm4 an4 cd4 ct4), sl4⟩) (c4 : PySem.W.codeIn K cd4 "_law_cells" = true) (k4 : PySem.W.keepIn K (.ref f4) = true)
  (a5 : PySem.W.nsIn K mainGlobals "_law_drawn" = some (some (.ref f5))) (l5 : K.lookup f5 = some ⟨oc5, od5, .func (PySem.W.fnOf "_law_drawn" "_law_drawn" (defArgs s__drawn) (defBody s__drawn) (defScope s__drawn) .none kV5 dc5 pm5 an5 cd5 ct5), sl5⟩) (c5 : PySem.W.codeIn K cd5 "_law_drawn" = true) (k5 : PySem.W.keepIn K (.ref f5) = true)
  (a6 : PySem.W.nsIn K mainGlobals "_law_leaf" = some (some (.ref f6))) (l6 : K.lookup f6 = some ⟨oc6, od6, .func (PySem.W.fnOf "_law_leaf" "_law_leaf" (defArgs s__leaf) (defBody s__leaf) (defScope s__leaf) .none kV6 dc6 pm6 an6 cd6 ct6), sl6⟩) (c6 : PySem.W.codeIn K cd6 "_law_leaf" = true) (k6 : PySem.W.keepIn K (.ref f6) = true)
  (a7 : PySem.W.nsIn K mainGlobals "_law_expr" = some (some (.ref f7))) (l7 : K.lookup f7 = some ⟨oc7, od7, .func (PySem.W.fnOf "_law_expr" "_law_expr" (defArgs s__expr) (defBody s__expr) (defScope s__expr) .none kV7 dc7 pm7 an7 cd7 ct7), sl7⟩) (c7 : PySem.W.codeIn K cd7 "_law_expr" = true) (k7 : PySem.W.keepIn K (.ref f7) = true)
  (a8 : PySem.W.nsIn K mainGlobals "_law_cond" = some (some (.ref f8))) (l8 : K.lookup f8 = some ⟨oc8, od8, .func (PySem.W.fnOf "_law_cond" "_law_cond" (defArgs s__cond) (defBody s__cond) (defScope s__cond) .none kV8 dc8 pm8 an8 cd8 ct8), sl8⟩) (c8 : PySem.W.codeIn K cd8 "_law_cond" = true) (k8 : PySem.W.keepIn K (.ref f8) = true)
  (a9 : PySem.W.nsIn K mainGlobals "_law_name" = some (some (.ref f9))) (l9 : K.lookup f9 = some ⟨oc9, od9, .func (PySem.W.fnOf "_law_name" "_law_name" (defArgs s__name) (defBody s__name) (defScope s__name) .none kV9 dc9 pm9 an9 cd9 ct9), sl9⟩) (c9 : PySem.W.codeIn K cd9 "_law_name" = true) (k9 : PySem.W.keepIn K (.ref f9) = true)
  (a10 : PySem.W.nsIn K mainGlobals "_law_row" = some (some (.ref f10))) (l10 : K.lookup f10 = some ⟨oc10, od10, .func (PySem.W.fnOf "_law_row" "_law_row" (defArgs s__row) (defBody s__row) (defScope s__row) .none kV10 dc10 pm10 an10 cd10 ct10), sl10⟩) (c10 : PySem.W.codeIn K cd10 "_law_row" = true) (k10 : PySem.W.keepIn K (.ref f10) = true)
  (a11 : PySem.W.nsIn K mainGlobals "_law_rows" = some (some (.ref f11))) (l11 : K.lookup f11 = some ⟨oc11, od11, .func (PySem.W.fnOf "_law_rows" "_law_rows" (defArgs s__rows) (defBody s__rows) (defScope s__rows) .none kV11 dc11 pm11 an11 cd11 ct11), sl11⟩) (c11 : PySem.W.codeIn K cd11 "_law_rows" = true) (k11 : PySem.W.keepIn K (.ref f11) = true)
  (a12 : PySem.W.nsIn K mainGlobals "_law_lengths" = some (some (.ref f12))) (l12 : K.lookup f12 = some ⟨oc12, od12, .func (PySem.W.fnOf "_law_lengths" "_law_lengths" (defArgs s__lengths) (defBody s__lengths) (defScope s__lengths) .none kV12 dc12 pm12 an12 cd12 ct12), sl12⟩) (c12 : PySem.W.codeIn K cd12 "_law_lengths" = true) (k12 : PySem.W.keepIn K (.ref f12) = true)
  (a13 : PySem.W.nsIn K mainGlobals "_law_times" = some (some (.ref f13))) (l13 : K.lookup f13 = some ⟨oc13, od13, .func (PySem.W.fnOf "_law_times" "_law_times" (defArgs s__times) (defBody s__times) (defScope s__times) .none kV13 dc13 pm13 an13 cd13 ct13), sl13⟩) (c13 : PySem.W.codeIn K cd13 "_law_times" = true) (k13 : PySem.W.keepIn K (.ref f13) = true)
  (a14 : PySem.W.nsIn K mainGlobals "_law_flow" = some (some (.ref f14))) (l14 : K.lookup f14 = some ⟨oc14, od14, .func (PySem.W.fnOf "_law_flow" "_law_flow" (defArgs s__flow) (defBody s__flow) (defScope s__flow) .none kV14 dc14 pm14 an14 cd14 ct14), sl14⟩) (c14 : PySem.W.codeIn K cd14 "_law_flow" = true) (k14 : PySem.W.keepIn K (.ref f14) = true)
  (a15 : PySem.W.nsIn K mainGlobals "_law_due" = some (some (.ref f15))) (l15 : K.lookup f15 = some ⟨oc15, od15, .func (PySem.W.fnOf "_law_due" "_law_due" (defArgs s__due) (defBody s__due) (defScope s__due) .none kV15 dc15 pm15 an15 cd15 ct15), sl15⟩) (c15 : PySem.W.codeIn K cd15 "_law_due" = true) (k15 : PySem.W.keepIn K (.ref f15) = true)
  (a16 : PySem.W.nsIn K mainGlobals "_law_refused" = some (some (.ref f16))) (l16 : K.lookup f16 = some ⟨oc16, od16, .func (PySem.W.fnOf "_law_refused" "_law_refused" (defArgs s__refused) (defBody s__refused) (defScope s__refused) .none kV16 dc16 pm16 an16 cd16 ct16), sl16⟩) (c16 : PySem.W.codeIn K cd16 "_law_refused" = true) (k16 : PySem.W.keepIn K (.ref f16) = true)
  (a17 : PySem.W.nsIn K mainGlobals "law" = some (some (.ref f17))) (l17 : K.lookup f17 = some ⟨oc17, od17, .func (PySem.W.fnOf "law" "law" (defArgs s_law) (defBody s_law) (defScope s_law) .none kV17 dc17 pm17 an17 cd17 ct17), sl17⟩) (c17 : PySem.W.codeIn K cd17 "law" = true) (k17 : PySem.W.keepIn K (.ref f17) = true)
  (z_int : PySem.W.nsIn K mainGlobals "int" = some none)
  (z_sum : PySem.W.nsIn K mainGlobals "sum" = some none)
  (z_len : PySem.W.nsIn K mainGlobals "len" = some none)
  (z_range : PySem.W.nsIn K mainGlobals "range" = some none)
  (z_str : PySem.W.nsIn K mainGlobals "str" = some none)
  (z_tuple : PySem.W.nsIn K mainGlobals "tuple" = some none)
  (z_min : PySem.W.nsIn K mainGlobals "min" = some none)
  (z_isinstance : PySem.W.nsIn K mainGlobals "isinstance" = some none)
  (z_ValueError : PySem.W.nsIn K mainGlobals "ValueError" = some none)
  (z_bool : PySem.W.nsIn K mainGlobals "bool" = some none)
  (z_any : PySem.W.nsIn K mainGlobals "any" = some none)
  (z_dict : PySem.W.nsIn K mainGlobals "dict" = some none)
  (z_list : PySem.W.nsIn K mainGlobals "list" = some none)
  (y_MOST_FLOW : PySem.W.nsIn K mainGlobals "MOST_FLOW" = some (some (.int 2000 tMOST_FLOW)))
  : ∃ fd : FuncData, (∀ (s : Shared) (v : Value), BindsTo s fd ⟨[v], []⟩ [("_law_script", v)]) ∧ ∀ base : Heap, K.In base → base.Ns mainGlobals mg → FnOk l.prog w K mg base CX0 lawK fa fd ["_law_script"] (spL K lawG) := by
 have e := hfa.symm.trans (PySem.W.mg_of X G a17)
 cases e
 have T : Txt K mg ⟨C_DamError, C_NoIn, C_TooMuch⟩ := ⟨by simp only [blts, List.mem_cons, List.not_mem_nil, or_false, forall_eq_or_imp, forall_eq]; exact ⟨PySem.W.mg_none_of X G z_int, PySem.W.mg_none_of X G z_sum, PySem.W.mg_none_of X G z_len, PySem.W.mg_none_of X G z_range, PySem.W.mg_none_of X G z_str, PySem.W.mg_none_of X G z_tuple, PySem.W.mg_none_of X G z_min, PySem.W.mg_none_of X G z_isinstance, PySem.W.mg_none_of X G z_ValueError, PySem.W.mg_none_of X G z_bool, PySem.W.mg_none_of X G z_any, PySem.W.mg_none_of X G z_dict, PySem.W.mg_none_of X G z_list⟩, PySem.W.mg_of X G ac_DamError, xc_DamError, PySem.W.mg_of X G ac_NoIn, xc_NoIn, PySem.W.mg_of X G ac_TooMuch, xc_TooMuch, xn_TooMuch, xk_TooMuch, xs_TooMuch, pk_TooMuch_NoIn, pk_TooMuch_ValueError, qk_TooMuch_DamError, qk_TooMuch_TooMuch, ⟨_, PySem.W.mg_of X G y_MOST_FLOW⟩⟩
 have D0 : DefAt K mg "window_of" s_window_of ["row"] _ _ := ⟨PySem.W.mg_of X G a0, funD_mk l0 c0 k0, (fun_mk (st := s_window_of) l0 c0 k0).binds (ps := ["row"]) fun _ _ _ _ _ _ us hl => match us, hl with | [_], _ => rfl⟩
 have D1 : DefAt K mg "flow_of" s_flow_of ["row", "lengths", "above"] _ _ := ⟨PySem.W.mg_of X G a1, funD_mk l1 c1 k1, (fun_mk (st := s_flow_of) l1 c1 k1).binds (ps := ["row", "lengths", "above"]) fun _ _ _ _ _ _ us hl => match us, hl with | [_, _, _], _ => rfl⟩
 have D2 : DefAt K mg "flows" s_flows ["works", "lengths"] _ _ := ⟨PySem.W.mg_of X G a2, funD_mk l2 c2 k2, (fun_mk (st := s_flows) l2 c2 k2).binds (ps := ["works", "lengths"]) fun _ _ _ _ _ _ us hl => match us, hl with | [_, _], _ => rfl⟩
 have D3 : DefAt K mg "_law_cell_at" s__cell_at ["_law_script", "_law_k"] _ _ := ⟨PySem.W.mg_of X G a3, funD_mk l3 c3 k3, (fun_mk (st := s__cell_at) l3 c3 k3).binds (ps := ["_law_script", "_law_k"]) fun _ _ _ _ _ _ us hl => match us, hl with | [_, _], _ => rfl⟩
 have D4 : DefAt K mg "_law_cells" s__cells ["_law_script"] _ _ := ⟨PySem.W.mg_of X G a4, funD_mk l4 c4 k4, (fun_mk (st := s__cells) l4 c4 k4).binds (ps := ["_law_script"]) fun _ _ _ _ _ _ us hl => match us, hl with | [_], _ => rfl⟩
 have D5 : DefAt K mg "_law_drawn" s__drawn ["_law_number", "_law_many"] _ _ := ⟨PySem.W.mg_of X G a5, funD_mk l5 c5 k5, (fun_mk (st := s__drawn) l5 c5 k5).binds (ps := ["_law_number", "_law_many"]) fun _ _ _ _ _ _ us hl => match us, hl with | [_, _], _ => rfl⟩
 have D6 : DefAt K mg "_law_leaf" s__leaf ["_law_x", "_law_letters"] _ _ := ⟨PySem.W.mg_of X G a6, funD_mk l6 c6 k6, (fun_mk (st := s__leaf) l6 c6 k6).binds (ps := ["_law_x", "_law_letters"]) fun _ _ _ _ _ _ us hl => match us, hl with | [_, _], _ => rfl⟩
 have D7 : DefAt K mg "_law_expr" s__expr ["_law_number", "_law_letters", "_law_most"] _ _ := ⟨PySem.W.mg_of X G a7, funD_mk l7 c7 k7, (fun_mk (st := s__expr) l7 c7 k7).binds (ps := ["_law_number", "_law_letters", "_law_most"]) fun _ _ _ _ _ _ us hl => match us, hl with | [_, _, _], _ => rfl⟩
 have D8 : DefAt K mg "_law_cond" s__cond ["_law_number", "_law_most"] _ _ := ⟨PySem.W.mg_of X G a8, funD_mk l8 c8 k8, (fun_mk (st := s__cond) l8 c8 k8).binds (ps := ["_law_number", "_law_most"]) fun _ _ _ _ _ _ us hl => match us, hl with | [_, _], _ => rfl⟩
 have D9 : DefAt K mg "_law_name" s__name ["_law_x", "_law_k"] _ _ := ⟨PySem.W.mg_of X G a9, funD_mk l9 c9 k9, (fun_mk (st := s__name) l9 c9 k9).binds (ps := ["_law_x", "_law_k"]) fun _ _ _ _ _ _ us hl => match us, hl with | [_, _], _ => rfl⟩
 have D10 : DefAt K mg "_law_row" s__row ["_law_k", "_law_xs", "_law_above"] _ _ := ⟨PySem.W.mg_of X G a10, funD_mk l10 c10 k10, (fun_mk (st := s__row) l10 c10 k10).binds (ps := ["_law_k", "_law_xs", "_law_above"]) fun _ _ _ _ _ _ us hl => match us, hl with | [_, _, _], _ => rfl⟩
 have D11 : DefAt K mg "_law_rows" s__rows ["_law_cells_here"] _ _ := ⟨PySem.W.mg_of X G a11, funD_mk l11 c11 k11, (fun_mk (st := s__rows) l11 c11 k11).binds (ps := ["_law_cells_here"]) fun _ _ _ _ _ _ us hl => match us, hl with | [_], _ => rfl⟩
 have D12 : DefAt K mg "_law_lengths" s__lengths ["_law_rows_here", "_law_cell"] _ _ := ⟨PySem.W.mg_of X G a12, funD_mk l12 c12 k12, (fun_mk (st := s__lengths) l12 c12 k12).binds (ps := ["_law_rows_here", "_law_cell"]) fun _ _ _ _ _ _ us hl => match us, hl with | [_, _], _ => rfl⟩
 have D13 : DefAt K mg "_law_times" s__times ["_law_rest"] _ _ := ⟨PySem.W.mg_of X G a13, funD_mk l13 c13 k13, (fun_mk (st := s__times) l13 c13 k13).binds (ps := ["_law_rest"]) fun _ _ _ _ _ _ us hl => match us, hl with | [_], _ => rfl⟩
 have D14 : DefAt K mg "_law_flow" s__flow ["_law_row_here", "_law_before", "_law_lengths_here"] _ _ := ⟨PySem.W.mg_of X G a14, funD_mk l14 c14 k14, (fun_mk (st := s__flow) l14 c14 k14).binds (ps := ["_law_row_here", "_law_before", "_law_lengths_here"]) fun _ _ _ _ _ _ us hl => match us, hl with | [_, _, _], _ => rfl⟩
 have D15 : DefAt K mg "_law_due" s__due ["_law_rows_here", "_law_lengths_here"] _ _ := ⟨PySem.W.mg_of X G a15, funD_mk l15 c15 k15, (fun_mk (st := s__due) l15 c15 k15).binds (ps := ["_law_rows_here", "_law_lengths_here"]) fun _ _ _ _ _ _ us hl => match us, hl with | [_, _], _ => rfl⟩
 have D16 : DefAt K mg "_law_refused" s__refused ["_law_rows_here", "_law_lengths_here"] _ _ := ⟨PySem.W.mg_of X G a16, funD_mk l16 c16 k16, (fun_mk (st := s__refused) l16 c16 k16).binds (ps := ["_law_rows_here", "_law_lengths_here"]) fun _ _ _ _ _ _ us hl => match us, hl with | [_, _], _ => rfl⟩
 have D17 : DefAt K mg "law" s_law ["_law_script"] _ _ := ⟨PySem.W.mg_of X G a17, funD_mk l17 c17 k17, (fun_mk (st := s_law) l17 c17 k17).binds (ps := ["_law_script"]) fun _ _ _ _ _ _ us hl => match us, hl with | [_], _ => rfl⟩
 refine ⟨PySem.W.fnOf "law" "law" (defArgs s_law) (defBody s_law) (defScope s_law) .none kV17 dc17 pm17 an17 cd17 ct17, fun s v => .of_eq rfl, fun base _ _ => fnok_L ?_⟩
 exact law_at T D0 D1 D2 D3 D4 D5 D6 D7 D8 D9 D10 D11 D12 D13 D14 D15 D16 D17
end My
open PySem PySem.W PyProof.Rows
set_option maxRecDepth 100000 in
set_option maxHeartbeats 0 in
theorem PySem.Challenge.cw_rowdam_k18_flows_holds : PySem.Challenge.rw_rowdam_k18_flows.Holds := by
 w_on; refine My.hdTop ?_
 k_fill
 refine E3.walk_e3 (l := PySem.Challenge.rw_rowdam_k18_flows) (k := My.lawK) (g := My.lawG) (x := "_law_script") rfl rfl ⟨rfl, by decide, by decide⟩ (fun w h Y => PySem.W.kIn_of Y) ?F My.lawG_ok
 case F =>
  intro w mg fa h KX G hmg
  refine' My.all_mk KX G hmg ?ac_DamError ?ac_NoIn ?ac_TooMuch ?xc_DamError ?xc_NoIn ?xc_TooMuch ?xn_TooMuch ?xk_TooMuch ?xs_TooMuch ?pk_TooMuch_NoIn ?pk_TooMuch_ValueError ?qk_TooMuch_DamError ?qk_TooMuch_TooMuch ?a0 ?l0 ?c0 ?k0 ?a1 ?l1 ?c1 ?k1 ?a2 ?l2 ?c2 ?k2 ?a3 ?l3 ?c3 ?k3 ?a4 ?l4 ?c4 ?k4 ?a5 ?l5 ?c5 ?k5 ?a6 ?l6 ?c6 ?k6 ?a7 ?l7 ?c7 ?k7 ?a8 ?l8 ?c8 ?k8 ?a9 ?l9 ?c9 ?k9 ?a10 ?l10 ?c10 ?k10 ?a11 ?l11 ?c11 ?k11 ?a12 ?l12 ?c12 ?k12 ?a13 ?l13 ?c13 ?k13 ?a14 ?l14 ?c14 ?k14 ?a15 ?l15 ?c15 ?k15 ?a16 ?l16 ?c16 ?k16 ?a17 ?l17 ?c17 ?k17 ?z_int ?z_sum ?z_len ?z_range ?z_str ?z_tuple ?z_min ?z_isinstance ?z_ValueError ?z_bool ?z_any ?z_dict ?z_list ?y_MOST_FLOW
  (case ac_DamError => k_is); (case ac_NoIn => k_is); (case ac_TooMuch => k_is); (case xc_DamError => kernel_rfl); (case xc_NoIn => kernel_rfl); (case xc_TooMuch => kernel_rfl); (case xn_TooMuch => kernel_rfl); (case xk_TooMuch => k_is); (case xs_TooMuch => refine E3.xis_mk (E3.xga_mk ?_ ?_ ?_) ?_ ?_ ?_ ?_ ?_ <;> k_is); (case pk_TooMuch_NoIn => kernel_rfl); (case pk_TooMuch_ValueError => kernel_rfl); (case qk_TooMuch_DamError => kernel_rfl); (case qk_TooMuch_TooMuch => kernel_rfl); (case a0 => k_is); (case l0 => k_is); (case c0 => k_is); (case k0 => k_is); (case a1 => k_is); (case l1 => k_is); (case c1 => k_is); (case k1 => k_is); (case a2 => k_is); (case l2 => k_is); (case c2 => k_is); (case k2 => k_is); (case a3 => k_is); (case l3 => k_is); (case c3 => k_is); (case k3 => k_is); (case a4 => k_is); (case l4 => k_is); (case c4 => k_is); (case k4 => k_is); (case a5 => k_is); (case l5 => k_is); (case c5 => k_is); (case k5 => k_is); (case a6 => k_is); (case l6 => k_is); (case c6 => k_is); (case k6 => k_is); (case a7 => k_is); (case l7 => k_is); (case c7 => k_is); (case k7 => k_is); (case a8 => k_is); (case l8 => k_is); (case c8 => k_is); (case k8 => k_is); (case a9 => k_is); (case l9 => k_is); (case c9 => k_is); (case k9 => k_is); (case a10 => k_is); (case l10 => k_is); (case c10 => k_is); (case k10 => k_is); (case a11 => k_is); (case l11 => k_is); (case c11 => k_is); (case k11 => k_is); (case a12 => k_is); (case l12 => k_is); (case c12 => k_is); (case k12 => k_is); (case a13 => k_is); (case l13 => k_is); (case c13 => k_is); (case k13 => k_is); (case a14 => k_is); (case l14 => k_is); (case c14 => k_is); (case k14 => k_is); (case a15 => k_is); (case l15 => k_is); (case c15 => k_is); (case k15 => k_is); (case a16 => k_is); (case l16 => k_is); (case c16 => k_is); (case k16 => k_is); (case a17 => k_is); (case l17 => k_is); (case c17 => k_is); (case k17 => k_is); (case z_int => k_is); (case z_sum => k_is); (case z_len => k_is); (case z_range => k_is); (case z_str => k_is); (case z_tuple => k_is); (case z_min => k_is); (case z_isinstance => k_is); (case z_ValueError => k_is); (case z_bool => k_is); (case z_any => k_is); (case z_dict => k_is); (case z_list => k_is); (case y_MOST_FLOW => k_is)
