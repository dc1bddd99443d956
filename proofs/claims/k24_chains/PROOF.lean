import PyProof.Rows.All
import Wide.All
import OpenK.AllK
import Wide.FinOn
import Lean
import PyProof.EqAt
import PyProof.EqKinds
import PyProof.TupleCall
import KE.KIsAll
import KE.KMinKey
import KE.KTupSum
import KE.KxSplit
import KE.KxAffix
import KE.KIntText
import PyProof.NeKinds
import PyProof.Rows.EqBoolInt
import KE.KSortTup
import PySem.Challenge.RW_rowdam_k24_chains
set_option Elab.async false
set_option linter.all false
set_option maxRecDepth 100000
section
open PySem PySem.W PyProof.Rows
local macro_rules
  | `(tactic| refine $f:term $as:term*) => do
    let mut bs := #[]
    let mut hit := false
    for a in as do
      if a.raw.isOfKind ``Lean.Parser.Term.syntheticHole && a.raw[1].getId == `hl then
        hit := true
        bs := bs.push (← `((fun _ => by kernel_rfl)))
      else bs := bs.push a
    if hit then `(tactic| refine $f $bs*) else Lean.Macro.throwUnsupported
set_option maxHeartbeats 0 in
open_top My.hdTop for PySem.Challenge.rw_rowdam_k24_chains
end
/-! THE HAND LAYER, for ints, bools, texts, own classes, LISTS and tuples (index, slices, in, append, pop ..), calls, loops. Paste it whole ahead of your own text; what your proof does not reach may be deleted. -/
namespace L2
open PySem PySem.Spec PyProof.Rows

/-- a key: an int or a str -/
noncomputable abbrev Key := Sum Int Str
noncomputable def keyIs : Key → Value → Bool
  | .inl k, v => Value.isInt k v
  | .inr x, v => Value.isStrOf x v
noncomputable def keyH (w : World) : Key → Int
  | .inl k => hashInt k
  | .inr x => hashStr w x
theorem keyIs_shape : ∀ {k : Key} {v : Value}, keyIs k v = true → (∃ i t, k = Sum.inl i ∧ v = Value.int i t) ∨ (∃ x t, k = Sum.inr x ∧ v = Value.str x t)
  | .inl i, v, h => by
    obtain ⟨t, e⟩ := Value.isInt_shape (k := i) (v := v) h
    exact .inl ⟨i, t, rfl, e⟩
  | .inr x, v, h => by
    obtain ⟨t, e⟩ := Value.isStrOf_shape (x := x) (v := v) h
    exact .inr ⟨x, t, rfl, e⟩
theorem key_ll (a b : Int) : decide ((Sum.inl a : Key) = Sum.inl b) = (a == b) := by
  by_cases e : a = b
  · subst e; simp
  · have h : ¬ (Sum.inl a : Key) = Sum.inl b := fun q => e (Sum.inl.inj q)
    rw [decide_eq_false h]
    exact (beq_eq_false_iff_ne.mpr e).symm
theorem key_rr (a b : Str) : decide ((Sum.inr a : Key) = Sum.inr b) = decide (a = b) := by
  by_cases e : a = b
  · subst e; simp
  · have h : ¬ (Sum.inr a : Key) = Sum.inr b := fun q => e (Sum.inr.inj q)
    rw [decide_eq_false h, decide_eq_false e]
theorem key_lr (a : Int) (b : Str) : decide ((Sum.inl a : Key) = Sum.inr b) = false := decide_eq_false (fun q => nomatch q)
theorem key_rl (a : Str) (b : Int) : decide ((Sum.inr a : Key) = Sum.inl b) = false := decide_eq_false (fun q => nomatch q)

noncomputable def mixKind (prog : Program) (w : World) : PySem.KeyKind prog w Key where
  is := keyIs
  hash := keyH w
  inj := fun v a b ha hb => by
    rcases keyIs_shape ha with ⟨i, t, rfl, rfl⟩ | ⟨x, t, rfl, rfl⟩
    · rcases keyIs_shape hb with ⟨j, u, rfl, e⟩ | ⟨y, u, rfl, e⟩
      · injection e with e1 _; rw [e1]
      · exact nomatch e
    · rcases keyIs_shape hb with ⟨j, u, rfl, e⟩ | ⟨y, u, rfl, e⟩
      · exact nomatch e
      · injection e with e1 _; rw [e1]
  byValue := fun k v h => by
    rcases keyIs_shape h with ⟨i, t, rfl, rfl⟩ | ⟨x, t, rfl, rfl⟩ <;> rfl
  pyHash := fun hv h => by
    rcases keyIs_shape hv with ⟨i, t, rfl, rfl⟩ | ⟨x, t, rfl, rfl⟩
    · exact wpAny_pyHash_int h
    · exact wpAny_pyHash_str h
  eqBool := fun hu hv h => by
    rcases keyIs_shape hu with ⟨i, t, rfl, rfl⟩ | ⟨x, t, rfl, rfl⟩
    · rcases keyIs_shape hv with ⟨j, u, rfl, rfl⟩ | ⟨y, u, rfl, rfl⟩
      · rw [key_ll] at h; exact wpAny_eqBool_int h
      · rw [key_lr] at h; exact SeqAt.EqAt.int_str i t y u _ _ _ _ h
    · rcases keyIs_shape hv with ⟨j, u, rfl, rfl⟩ | ⟨y, u, rfl, rfl⟩
      · rw [key_rl] at h; exact SeqAt.EqAt.str_int x t j u _ _ _ _ h
      · rw [key_rr] at h; exact wpAny_eqBool_str h
  «strs» := fun k x t v h => by
    rcases keyIs_shape h with ⟨i, u, rfl, e⟩ | ⟨y, u, rfl, e⟩
    · exact nomatch e
    · injection e with e1 _
      subst e1
      cases v <;> rfl

end L2

namespace L2
open PySem PySem.Spec PyProof.Rows

/-- a value, without the heap -/
inductive V where
  | non | bl (b : Bool) | int (i : Int) | str (x : Str) | byt (b : Array UInt8) | flt (b : UInt64) | ref (a : Addr) | ty (n : String)
  deriving DecidableEq

noncomputable def RelV : V → Value → Prop
  | .non, u => u = Value.none
  | .bl b, u => u = Value.bool b
  | .int i, u => ∃ t, u = Value.int i t
  | .str x, u => ∃ t, u = Value.str x t
  | .byt b, u => ∃ t, u = Value.bytes b t
  | .flt b, u => ∃ t, u = Value.float b t
  | .ref a, u => u = Value.ref a
  | .ty n, u => u = Value.type n

noncomputable abbrev Vals : List V → List Value → Prop := Paired RelV
theorem Vals.length {xs : List V} {us : List Value} (r : Vals xs us) : xs.length = us.length := Paired.length r
theorem Vals.get : ∀ {xs : List V} {us : List Value} {i : Nat} {x : V}, Vals xs us → xs[i]? = some x → ∃ u, us[i]? = some u ∧ RelV x u
  | _, _, _, _, .nil, e => by simp at e
  | _, _, 0, _, .cons r _, e => by simp at e; subst e; exact ⟨_, rfl, r⟩
  | _, _, i + 1, x, .cons _ t, e => by
    obtain ⟨u, h1, h2⟩ := Vals.get (i := i) (x := x) t (by simpa using e)
    exact ⟨u, by simpa using h1, h2⟩
theorem Vals.set {x : V} {u : Value} (r : RelV x u) : ∀ {xs : List V} {us : List Value} (i : Nat), Vals xs us → Vals (xs.set i x) (us.set i u)
  | _, _, _, .nil => .nil
  | _, _, 0, .cons _ t => .cons r t
  | _, _, i + 1, .cons q t => .cons q (Vals.set r i t)
theorem Vals.append : ∀ {xs ys : List V} {us ws : List Value}, Vals xs us → Vals ys ws → Vals (xs ++ ys) (us ++ ws)
  | _, _, _, _, .nil, s => s
  | _, _, _, _, .cons r t, s => .cons r (Vals.append t s)
theorem Vals.take : ∀ {xs : List V} {us : List Value} (n : Nat), Vals xs us → Vals (xs.take n) (us.take n)
  | _, _, 0, _ => .nil
  | _, _, _ + 1, .nil => .nil
  | _, _, n + 1, .cons r t => .cons r (Vals.take n t)
theorem Vals.drop : ∀ {xs : List V} {us : List Value} (n : Nat), Vals xs us → Vals (xs.drop n) (us.drop n)
  | _, _, 0, r => r
  | _, _, _ + 1, .nil => .nil
  | _, _, n + 1, .cons _ t => Vals.drop n t
noncomputable def RelO : Option V → Option Value → Prop
  | some v, some u => RelV v u
  | none, none => True
  | _, _ => False
noncomputable def KV {κ : Type} : List (κ × V) → List (κ × Value) → Prop := Paired fun (p : κ × V) (q : κ × Value) => p.1 = q.1 ∧ RelV p.2 q.2

/-- a key of a dict (00_mix): an int or a text -/
noncomputable def kV : Key → V
  | .inl i => .int i
  | .inr x => .str x

/-- what stands at a tracked address -/
inductive HO where
  /-- a list -/
  | lst (xs : List V)
  /-- a tuple (never changes) -/
  | tup (xs : List V)
  /-- a dict whose keys are ints and texts; one whose keys are tuples of ints and texts (the empty one is both) -/
  | dK (kvs : List (Key × V)) | dT (kvs : List (List Key × V))
  /-- a set of ints: its members, its size -/
  | set (S : Int → Bool) (n : Nat)
  /-- an instance of the class at C, its dict at dx, its attributes -/
  | ins (C dx : Addr) (fs : List (Str × V))
  /-- the dict of the instance at x -/
  | own (x : Addr)
  /-- the dict of an exception -/
  | xd (fs : List (Str × V))
  /-- a bound method, f of x -/
  | met (f x : Addr)
  /-- a range object lo, lo + 1, .. below hi -/
  | rng (lo hi : Int)
  /-- a thing that is known to the object (the script; a dict while a loop walks it): read, never written while it is so -/
  | frz (o : Obj) (u : HO)
  /-- a code object's table -/
  | tbl (ps : Array Value)
  /-- any other thing, by what is true of its one object (a def of one's own: SetO a S n := HO.ext fun h => ..) -/
  | ext (φ : Heap → Prop)

noncomputable abbrev Hp := Addr → Option HO
noncomputable def upd (H : Hp) (a : Addr) (o : HO) : Hp := fun b => if b = a then some o else H b
theorem upd_same {H : Hp} {a : Addr} {o : HO} : upd H a o a = some o := by unfold upd; rw [if_pos rfl]
theorem upd_ne {H : Hp} {a b : Addr} {o : HO} (h : b ≠ a) : upd H a o b = H b := by unfold upd; rw [if_neg h]
theorem ne_of_none {H : Hp} {a b : Addr} {o : HO} (h : H a = some o) (h' : H b = none) : a ≠ b := by
  intro e; subst e; rw [h] at h'; cases h'

section
variable (P : Program) (w : World)
noncomputable def ObjOk (H : Hp) (h : Heap) (a : Addr) : HO → Prop
  | .lst xs => xs.length ≤ sizeLine ∧ ∃ (its : List Value) (n : Nat), Vals xs its ∧ h.get? a = some { cls := .type "list", data := .seq its.toArray n }
  | .tup xs => xs.length ≤ sizeLine ∧ ∃ its : List Value, Vals xs its ∧ IsTup h a its.toArray
  | .dK kvs => kvs.length ≤ sizeLine ∧ (a == sysModules) = false ∧ ∃ vs, KV kvs vs ∧ h.DictOf (mixKind P w) a vs
  | .dT kvs => kvs.length ≤ sizeLine ∧ (a == sysModules) = false ∧ ∃ xs : List (List Key × Addr × Value),
      Paired (fun (p : List Key × V) (q : List Key × Addr × Value) => p.1 = q.1 ∧ H q.2.1 = some (.tup (p.1.map kV)) ∧ RelV p.2 q.2.2) kvs xs ∧
      ∃ o es ep, h.get? a = some o ∧ o.ExactDict ∧ o.data = .dict es ep ∧ es.toList = xs.map (entryOfKey (tupleKind (mixKind P w))) ∧ (xs.map (·.1)).Nodup
  | .set S n => h.SetOf (intKind P w) a S n
  | .ins C dx fs => H dx = some (.own a) ∧ fs.length ≤ 1000 ∧ dx ≠ a ∧ h.get? a = some (PySem.W.instObj C dx) ∧
      ∃ mA, h.Ns1 dx mA ∧ (∀ f, RelO (fs.lookup f) (mA f)) ∧ PySem.Within mA (fs.map (·.1))
  | .own _ => ∃ o, h.get? a = some o
  | .xd fs => ∃ mA, h.Ns1 a mA ∧ ∀ f, RelO (fs.lookup f) (mA f)
  | .rng lo hi => ∃ t u v, h.get? a = some { cls := .type "range", data := .fields #[.int lo t, .int hi u, .int 1 v] }
  | .frz o u => h.get? a = some o ∧ ObjOk H h a u
  | .tbl ps => h.get? a = some { cls := .none, data := .fields ps }
  | .met f x => h.get? a = some (PySem.W.methodObj (.ref f) (.ref x))
  | .ext φ => φ h ∧ (∃ o, h.get? a = some o) ∧ ∀ h1 h2 : Heap, φ h1 → (∀ o, h1.get? a = some o → h2.get? a = some o) → φ h2
/-- the abstract heap is held -/
noncomputable def HOk (H : Hp) (h : Heap) : Prop := ∀ a o, H a = some o → ObjOk P w H h a o
end

section
variable {P : Program} {w : World} {H H' : Hp} {h h' : Heap} {a : Addr} {o : HO}
theorem ObjOk.lt (x : ObjOk P w H h a o) : a < h.objs.size := by
  cases o with
  | lst xs => obtain ⟨_, _, _, _, e⟩ := x; exact Heap.lt_size e
  | tup xs => obtain ⟨_, _, _, p⟩ := x; exact p.lt
  | dK kvs => obtain ⟨_, _, _, _, o, _, _, e, _⟩ := x; exact Heap.lt_size e
  | dT kvs => obtain ⟨_, _, _, _, o, _, _, e, _⟩ := x; exact Heap.lt_size e
  | set S n => obtain ⟨o, _, _, _, e, _⟩ := x; exact Heap.lt_size e
  | ins C dx fs => obtain ⟨_, _, _, e, _⟩ := x; exact Heap.lt_size e
  | own y => obtain ⟨_, e⟩ := x; exact Heap.lt_size e
  | xd fs => obtain ⟨_, ⟨_, _, _, e, _⟩, _⟩ := x; exact Heap.lt_size e
  | rng lo hi => obtain ⟨_, _, _, e⟩ := x; exact Heap.lt_size e
  | frz ob u => obtain ⟨e, _⟩ := x; exact Heap.lt_size e
  | tbl ps => exact Heap.lt_size (show h.get? a = some _ from x)
  | met f y => exact Heap.lt_size (show h.get? a = some _ from x)
  | ext φ => obtain ⟨_, ⟨_, e⟩, _⟩ := x; exact Heap.lt_size e
theorem Paired.mapP {α β : Type} {F G : α → β → Prop} : ∀ {l₁ : List α} {l₂ : List β}, Paired F l₁ l₂ → (∀ a b, F a b → G a b) → Paired G l₁ l₂
  | _, _, .nil, _ => .nil
  | _, _, .cons r t, f => .cons (f _ _ r) (Paired.mapP t f)
/-- what an object's description leans on: its own object, its own dict, the tuples -/
theorem ObjOk.stay (x : ObjOk P w H h a o) (k : ∀ b u, (b = a ∨ H b = some (.own a)) → h.get? b = some u → h'.get? b = some u)
    (ho : ∀ b, H b = some (.own a) → H' b = some (.own a)) (ht : ∀ b xs, H b = some (.tup xs) → H' b = some (.tup xs)) : ObjOk P w H' h' a o := by
  induction o with
  | lst xs => obtain ⟨z, its, n, r, e⟩ := x; exact ⟨z, its, n, r, k _ _ (.inl rfl) e⟩
  | tup xs => obtain ⟨z, its, r, ob, e, c⟩ := x; exact ⟨z, its, r, ob, k _ _ (.inl rfl) e, c⟩
  | dK kvs => obtain ⟨z, y, vs, r, ob, es, ep, e, c⟩ := x; exact ⟨z, y, vs, r, ob, es, ep, k _ _ (.inl rfl) e, c⟩
  | dT kvs =>
    obtain ⟨z, y, xs, r, ob, es, ep, e, c⟩ := x
    exact ⟨z, y, xs, Paired.mapP r fun p q z => ⟨z.1, ht _ _ z.2.1, z.2.2⟩, ob, es, ep, k _ _ (.inl rfl) e, c⟩
  | set S n => obtain ⟨ob, es, ep, t, e, c⟩ := x; exact ⟨ob, es, ep, t, k _ _ (.inl rfl) e, c⟩
  | ins C dx fs =>
    obtain ⟨d, z, ne, e, mA, ⟨od, es, ep, e2, c⟩, r⟩ := x
    exact ⟨ho _ d, z, ne, k _ _ (.inl rfl) e, mA, ⟨od, es, ep, k _ _ (.inr d) e2, c⟩, r⟩
  | own y => obtain ⟨ob, e⟩ := x; exact ⟨ob, k _ _ (.inl rfl) e⟩
  | xd fs => obtain ⟨mA, ⟨od, es, ep, e, c⟩, r⟩ := x; exact ⟨mA, ⟨od, es, ep, k _ _ (.inl rfl) e, c⟩, r⟩
  | rng lo hi => obtain ⟨t, u, v, e⟩ := x; exact ⟨t, u, v, k _ _ (.inl rfl) e⟩
  | frz ob u ih => obtain ⟨e, q⟩ := x; exact ⟨k _ _ (.inl rfl) e, ih q⟩
  | tbl ps =>
    have e : h.get? a = some { cls := .none, data := .fields ps } := x
    show h'.get? a = some { cls := .none, data := .fields ps }
    exact k a _ (.inl rfl) e
  | met f y =>
    have e : h.get? a = some (PySem.W.methodObj (.ref f) (.ref y)) := x
    show h'.get? a = some (PySem.W.methodObj (.ref f) (.ref y))
    exact k a _ (.inl rfl) e
  | ext φ => obtain ⟨p, ⟨o, e⟩, st⟩ := x; exact ⟨st _ _ p fun o q => k _ _ (.inl rfl) q, ⟨o, k _ _ (.inl rfl) e⟩, st⟩
theorem HOk.lt (x : HOk P w H h) (e : H a = some o) : a < h.objs.size := (x a o e).lt
theorem HOk.fresh (x : HOk P w H h) (e : h.objs.size ≤ a) : H a = none := by
  cases q : H a with
  | none => rfl
  | some u => exact absurd (Nat.lt_of_lt_of_le (x.lt q) e) (Nat.lt_irrefl _)
/-- every object of the heap is kept -/
theorem HOk.kept (x : HOk P w H h) (k : ∀ b u, h.get? b = some u → h'.get? b = some u) : HOk P w H h' := fun a o e =>
  (x a o e).stay (fun b u _ q => k b u q) (fun _ q => q) fun _ _ q => q
/-- a new object is laid and tracked -/
theorem HOk.laid (x : HOk P w H h) (k : ∀ b u, h.get? b = some u → h'.get? b = some u) (hp : h.objs.size ≤ a) (new : ObjOk P w (upd H a o) h' a o) : HOk P w (upd H a o) h' := fun b u e => by
  have hn := x.fresh hp
  by_cases hb : b = a
  · subst hb; rw [upd_same] at e; cases e; exact new
  · rw [upd_ne hb] at e
    exact (x b u e).stay (fun c v _ q => k c v q) (fun c q => by rw [upd_ne (ne_of_none q hn)]; exact q) fun c xs q => by rw [upd_ne (ne_of_none q hn)]; exact q
end

/-- what may be read as u: it is u, or a known u -/
noncomputable def Rd (H : Hp) (a : Addr) (u : HO) : Prop := H a = some u ∨ ∃ o, H a = some (.frz o u)
theorem Rd.ok {P : Program} {w : World} {H : Hp} {h : Heap} {a : Addr} {u : HO} (r : Rd H a u) (x : HOk P w H h) : ObjOk P w H h a u := by
  rcases r with r | ⟨o, r⟩
  · exact x a u r
  · obtain ⟨_, q⟩ := x a _ r
    exact q
/-- what may be written -/
noncomputable def Mut : Option HO → Prop
  | some (.lst _) => True
  | some (.dK _) => True
  | some (.dT _) => True
  | some (.set _ _) => True
  | some (.ins _ _ _) => True
  | some (.ext _) => True
  | _ => False
section
variable {P : Program} {w : World} {H : Hp} {h h' : Heap} {x e : Addr} {o' : HO}
/-- the object at e is changed: x itself, or the dict of the instance x -/
theorem HOk.write (ok : HOk P w H h) (mu : Mut (H x)) (he : e = x ∨ H e = some (.own x)) (k : ∀ b u, b ≠ e → h.get? b = some u → h'.get? b = some u) (heo : ∃ u, h'.get? e = some u)
    (new : ObjOk P w (upd H x o') h' x o') : HOk P w (upd H x o') h' := fun b u q => by
  have nown : ∀ c y, H c = some (.own y) → c ≠ x := fun c y r z => by subst z; rw [r] at mu; exact mu
  have ntup : ∀ c xs, H c = some (.tup xs) → c ≠ x := fun c xs r z => by subst z; rw [r] at mu; exact mu
  by_cases hb : b = x
  · subst hb; rw [upd_same] at q; cases q; exact new
  · rw [upd_ne hb] at q
    by_cases hbe : b = e
    · have q' : H b = some (.own x) := by
        rcases he with z | z
        · exact absurd (hbe.trans z) hb
        · rw [hbe]; exact z
      rw [q] at q'; cases q'
      obtain ⟨v, hv⟩ := heo
      exact ⟨v, by rw [hbe]; exact hv⟩
    · refine (ok b u q).stay (fun c v hc r => k c v ?_ r) (fun c r => by rw [upd_ne (nown c b r)]; exact r) fun c xs r => by rw [upd_ne (ntup c xs r)]; exact r
      rcases hc with rfl | hc
      · exact hbe
      · rintro rfl
        rcases he with z | z
        · exact nown c b hc z
        · rw [hc] at z; cases z; exact hb rfl
end

/-! ### kept unless tracked; of the frames at fs (the callers') the slots may change (an exception that passes writes there); of the records at ex (iterators) nothing is said -/
structure Un (fs ex : List Addr) (H H' : Hp) (h h' : Heap) : Prop where
  keep : ∀ b o, h.get? b = some o → H b = none → b ∉ fs → b ∉ ex → h'.get? b = some o
  slot : ∀ b o, h.get? b = some o → H b = none → b ∈ fs → b ∉ ex → ∃ sl, h'.get? b = some { o with slots := sl }
  free : ∀ b o, h.get? b = some o → H b = none → b ∉ ex → H' b = none
  there : ∀ b o, h.get? b = some o → b ∉ ex → ∃ o', h'.get? b = some o'
  tups : ∀ b xs, H b = some (.tup xs) → H' b = some (.tup xs)
  frzs : ∀ b o u, H b = some (.frz o u) → H' b = some (.frz o u)
  tbls : ∀ b ps, H b = some (.tbl ps) → ∃ more, H' b = some (.tbl (ps ++ more))
section
variable {fs fs' ex ex' : List Addr} {H H1 H2 : Hp} {h h1 h2 h' : Heap} {a x e : Addr} {o : HO}
theorem Un.any (u : Un fs ex H H1 h h1) {b : Addr} {ob : Obj} (q : h.get? b = some ob) (n : H b = none) (hx : b ∉ ex) : ∃ sl, h1.get? b = some { ob with slots := sl } := by
  by_cases hb : b ∈ fs
  · exact u.slot b ob q n hb hx
  · exact ⟨ob.slots, u.keep b ob q n hb hx⟩
theorem Un.trans (a : Un fs ex H H1 h h1) (b : Un fs ex H1 H2 h1 h2) : Un fs ex H H2 h h2 where
  keep := fun c ob q n hc hx => b.keep c ob (a.keep c ob q n hc hx) (a.free c ob q n hx) hc hx
  slot := fun c ob q n hc hx => by
    obtain ⟨sl, e1⟩ := a.slot c ob q n hc hx
    obtain ⟨sl', e2⟩ := b.slot c _ e1 (a.free c ob q n hx) hc hx
    exact ⟨sl', e2⟩
  free := fun c ob q n hx => by
    obtain ⟨o', e1⟩ := a.there c ob q hx
    exact b.free c o' e1 (a.free c ob q n hx) hx
  there := fun c ob q hx => by
    obtain ⟨o', e1⟩ := a.there c ob q hx
    exact b.there c o' e1 hx
  tups := fun c xs q => b.tups c xs (a.tups c xs q)
  frzs := fun c ob xs q => b.frzs c ob xs (a.frzs c ob xs q)
  tbls := fun c ps q => by
    obtain ⟨m1, e1⟩ := a.tbls c ps q
    obtain ⟨m2, e2⟩ := b.tbls c _ e1
    exact ⟨m1 ++ m2, by rw [e2, Array.append_assoc]⟩
theorem Un.kept (k : ∀ b u, h.get? b = some u → h'.get? b = some u) : Un fs ex H H h h' :=
  ⟨fun b ob q _ _ _ => k b ob q, fun b ob q _ _ _ => ⟨ob.slots, k b ob q⟩, fun _ _ _ n _ => n, fun b ob q _ => ⟨ob, k b ob q⟩, fun _ _ q => q, fun _ _ _ q => q, fun _ ps q => ⟨#[], by rw [q]; simp⟩⟩
theorem Un.refl : Un fs ex H H h h := Un.kept fun _ _ q => q
theorem Un.laid (k : ∀ b u, h.get? b = some u → h'.get? b = some u) (hp : h.objs.size ≤ a) (hn : H a = none) : Un fs ex H (upd H a o) h h' where
  keep := fun b u q _ _ _ => k b u q
  slot := fun b u q _ _ _ => ⟨u.slots, k b u q⟩
  free := fun b u q n _ => by rw [upd_ne (Nat.ne_of_lt (Nat.lt_of_lt_of_le (Heap.lt_size q) hp))]; exact n
  there := fun b u q _ => ⟨u, k b u q⟩
  tups := fun b xs q => by rw [upd_ne (ne_of_none q hn)]; exact q
  frzs := fun b u xs q => by rw [upd_ne (ne_of_none q hn)]; exact q
  tbls := fun b ps q => ⟨#[], by rw [upd_ne (ne_of_none q hn), q]; simp⟩
theorem Un.write (mu : Mut (H x)) (he : e = x ∨ H e = some (.own x)) (k : ∀ b u, b ≠ e → h.get? b = some u → h'.get? b = some u) (heo : ∃ u, h'.get? e = some u) : Un fs ex H (upd H x o) h h' := by
  have hx : ∀ b, H b = none → b ≠ x := fun b n z => by subst z; rw [n] at mu; exact mu
  have hb : ∀ b, H b = none → b ≠ e := fun b n z => by
    subst z
    rcases he with r | r
    · exact hx b n r
    · rw [n] at r; cases r
  have hm : ∀ b u, H b = some u → ¬ Mut (some u) → b ≠ x := fun b u q nm z => by subst z; rw [q] at mu; exact nm mu
  refine ⟨fun b u q n _ _ => k b u (hb b n) q, fun b u q n _ _ => ⟨u.slots, k b u (hb b n) q⟩, fun b u q n _ => by rw [upd_ne (hx b n)]; exact n, fun b u q _ => ?_,
    fun b xs q => by rw [upd_ne (hm b _ q fun z => z)]; exact q, fun b u xs q => by rw [upd_ne (hm b _ q fun z => z)]; exact q, fun b ps q => ⟨#[], by rw [upd_ne (hm b _ q fun z => z), q]; simp⟩⟩
  by_cases hbe : b = e
  · subst hbe; exact heo
  · exact ⟨u, k b u hbe q⟩
theorem Un.mono (u : Un fs ex H H1 h h1) (hs : ∀ b ∈ fs, b ∈ fs') (hx : ∀ b ∈ ex, b ∈ ex') : Un fs' ex' H H1 h h1 :=
  ⟨fun b ob q n hb he => u.keep b ob q n (fun z => hb (hs b z)) fun z => he (hx b z), fun _ _ q n _ he => u.any q n fun z => he (hx _ z), fun b ob q n he => u.free b ob q n fun z => he (hx b z), fun b ob q he => u.there b ob q fun z => he (hx b z), u.tups, u.frzs, u.tbls⟩
end

/-! ### the heap without what is tracked -/
noncomputable def trk (h : Heap) (H : Hp) : List Addr := (List.range h.objs.size).filter fun a => (H a).isSome
noncomputable def hidT (h : Heap) (H : Hp) : Heap := PySem.W.hideAll h (trk h H)
theorem hidT_size (h : Heap) (H : Hp) : (hidT h H).objs.size = h.objs.size := PySem.W.hideAll_size _ _
theorem hidT_get {h : Heap} {H : Hp} {b : Addr} {o : Obj} (e : h.get? b = some o) (n : H b = none) : (hidT h H).get? b = some o :=
  PySem.W.hideAll_get _ e fun hm => by
    have q : (H b).isSome = true := (List.mem_filter.mp hm).2
    rw [n] at q; simp at q
theorem of_hidT {h : Heap} {H : Hp} {b : Addr} {o : Obj} (e : (hidT h H).get? b = some o) : h.get? b = some o ∧ H b = none := by
  have e' : h.get? b = some o := PySem.W.of_hideAll (trk h H) e
  refine ⟨e', ?_⟩
  cases q : H b with
  | none => rfl
  | some x =>
    have hm : b ∈ trk h H := List.mem_filter.mpr ⟨List.mem_range.mpr (Heap.lt_size e'), by simp [q]⟩
    have z : (hidT h H).get? b = none := PySem.W.hideAll_none (trk h H) hm
    rw [z] at e; cases e

/-! ### OpenK's ledger, filled with every new object but one -/
end L2

namespace L2
open PySem PySem.Spec PyProof.Rows

/-- the module's facts, over the base: the heap at the law's entry without what is tracked there -/
structure Mod (K : PySem.W.Frag) (mg : Str → Option Value) (base : Heap) : Prop where
  kin : K.In base
  glob : base.Ns mainGlobals mg
  blt : ∃ mb, base.Ns builtinsNs mb ∧ ∀ x : Str, x ≠ "__name__" → mb x = bootBuiltins x
  nolimit : base.NoLimit

/-- the context: a def's body (or a comprehension's block) running. base: fixed through the whole law; s₀, H₀: the entry; outer: the frames whose slots others may change (a def's callers); stack: all frames that run;
   ex: iterators that were made ahead of the entry and are walked here (a comprehension's); fn: the names whose cells were made at the entry (a def: all; a comprehension's block: its own); calm: not within an except suite; pn: pins that every state bears; xe: what is wanted of an exception that leaves the code -/
structure Cx where
  prog : Program
  w : World
  K : PySem.W.Frag
  mg : Str → Option Value
  base : Heap
  A : Around
  N : List Str
  s₀ : Shared
  H₀ : Hp
  env : Env
  outer : List Env
  stack : List Env
  ex : List Addr
  fn : Str → Bool
  calm : Bool
  pn : List (Addr × Obj)
  xe : Value → Shared → Prop
/-- the callers' frames -/
noncomputable def frs (l : List Env) : List Addr := l.filterMap (·.frame)
noncomputable abbrev Cx.fs (X : Cx) : List Addr := frs X.outer

noncomputable def Vis (sc : Scope) (x : Str) : Prop := sc.names.lookup x = some .local ∨ sc.names.lookup x = some .cell ∨ sc.names.lookup x = some .free
noncomputable def Loc (sc : Scope) (x : Str) : Prop := sc.names.lookup x = some .local ∨ sc.names.lookup x = some .cell
noncomputable def Look (env : Env) (h : Heap) (m : Str → Option Value) (x : Str) (u : Value) : Prop :=
  (env.kindOf x = some .local ∧ m x = some u) ∨ ((env.kindOf x = some .cell ∨ env.kindOf x = some .free) ∧ ∃ c, env.cells.lookup x = some c ∧ h.IsCell c (some u))

structure Cx.Ok (X : Cx) : Prop where
  mod : Mod X.K X.mg X.base
  kind : X.env.scope.kind = .function
  glob : X.env.globals = mainGlobals
  blt : X.env.builtins = builtinsNs
  above : X.s₀.heap.objs.size ≤ X.env.locals
  inj : ∀ x y c, X.env.cells.lookup x = some c → X.env.cells.lookup y = some c → x = y
  has : ∀ x, (X.env.kindOf x = some .cell ∨ X.env.kindOf x = some .free) → ∃ c, X.env.cells.lookup x = some c
  cab : ∀ x c, X.fn x = true → X.env.cells.lookup x = some c → X.s₀.heap.objs.size ≤ c
  hd : X.calm = true → X.A.handled = none
  frames : X.A.frames = some X.stack
  stk : X.stack = X.outer ∨ (X.stack = X.env :: X.outer ∧ X.env.frame = some X.env.locals)
  exf : ∀ b ∈ X.ex, b ≠ X.env.locals ∧ ∀ x c, X.env.cells.lookup x = some c → c ≠ b
  bs : ∀ b o, X.base.get? b = some o → X.s₀.heap.get? b = some o ∧ X.H₀ b = none
  bsz : X.base.objs.size ≤ X.s₀.heap.objs.size
  noex : ∀ b o, X.base.get? b = some o → b ∉ X.ex
  exfs : ∀ b ∈ X.ex, b ∉ X.fs
  funs : X.s₀.heap.FunFrames X.base X.outer
  frf : ∀ b ∈ X.fs, X.H₀ b = none

structure Inv (X : Cx) (pins : List (Addr × Obj)) (σ : List (Option V)) (H : Hp) (s : Shared) : Prop where
  ok : X.Ok
  os : s.os = X.s₀.os
  bare : AllBare s.gens
  base : Un X.fs X.ex X.H₀ H X.s₀.heap s.heap
  loc : ∃ m, s.heap.Ns X.env.locals m ∧ ∀ (i : Nat) (x : Str) (v : V), X.N[i]? = some x → σ[i]? = some (some v) → Vis X.env.scope x → ∃ u, RelV v u ∧ Look X.env s.heap m x u
  cell : ∀ x c, X.env.cells.lookup x = some c → ∃ v, s.heap.IsCell c v
  free : H X.env.locals = none
  freeC : ∀ x c, X.env.cells.lookup x = some c → H c = none
  pin : ∀ p ∈ X.pn ++ pins, s.heap.get? p.1 = some p.2 ∧ H p.1 = none ∧ p.1 ≠ X.env.locals ∧ p.1 ∉ X.fs ∧ ∀ v, p.2.data ≠ .cell v
  hok : HOk X.prog X.w H s.heap
  len : σ.length = X.N.length

section
variable {X : Cx} {pins : List (Addr × Obj)} {σ : List (Option V)} {H H' : Hp} {s : Shared} {h' : Heap}

theorem Cx.Ok.nofr (ok : X.Ok) {b : Addr} {o : Obj} (e : X.base.get? b = some o) : b ∉ X.fs := fun hb => by
  have := (ok.funs.mem hb).1
  rw [e] at this; cases this
theorem Inv.bs (I : Inv X pins σ H s) : ∀ b o, X.base.get? b = some o → s.heap.get? b = some o ∧ H b = none := fun b o e =>
  ⟨I.base.keep b o (I.ok.bs b o e).1 (I.ok.bs b o e).2 (I.ok.nofr e) (I.ok.noex b o e), I.base.free b o (I.ok.bs b o e).1 (I.ok.bs b o e).2 (I.ok.noex b o e)⟩
theorem Inv.bk (I : Inv X pins σ H s) : ∀ b o, X.base.get? b = some o → s.heap.get? b = some o := fun b o e => (I.bs b o e).1
theorem Inv.mod (I : Inv X pins σ H s) : Mod X.K X.mg X.base := I.ok.mod
theorem Inv.kIn (I : Inv X pins σ H s) : X.K.In s.heap := I.ok.mod.kin.keeps I.bk
theorem Inv.lt (I : Inv X pins σ H s) : X.env.locals < s.heap.objs.size := let ⟨_, hn, _⟩ := I.loc; hn.lt
theorem Inv.sz (I : Inv X pins σ H s) : X.s₀.heap.objs.size ≤ s.heap.objs.size := Nat.le_trans I.ok.above (Nat.le_of_lt I.lt)
theorem Inv.nofs (I : Inv X pins σ H s) {a : Addr} (h : s.heap.objs.size ≤ a) : a ∉ X.fs := fun hb => by
  obtain ⟨_, o, ho, _⟩ := I.ok.funs.mem hb
  exact absurd (Nat.lt_of_lt_of_le (Heap.lt_size ho) (Nat.le_trans I.sz h)) (Nat.lt_irrefl _)
theorem Inv.cne (I : Inv X pins σ H s) : ∀ x c, X.env.cells.lookup x = some c → c ≠ X.env.locals := fun x c e z => by
  obtain ⟨v, o, ho, hd⟩ := I.cell x c e
  obtain ⟨m, ⟨o', es, ep, ho', hd', _⟩, _⟩ := I.loc
  rw [z, ho'] at ho; cases ho; rw [hd'] at hd; cases hd
theorem Inv.funs (I : Inv X pins σ H s) : s.heap.FunFrames X.base X.outer := by
  have all : ∀ (l : List Env), (∀ b ∈ frs l, b ∈ X.fs) → X.s₀.heap.FunFrames X.base l → s.heap.FunFrames X.base l := by
    intro l
    induction l with
    | nil => intro _ _; trivial
    | cons env r ih =>
      intro hs hl
      obtain ⟨hk, ⟨L, o, hf, hn, ho, hd⟩, hr⟩ := hl
      have hL : L ∈ X.fs := hs L (by unfold frs; rw [List.filterMap_cons, hf]; exact List.mem_cons_self)
      obtain ⟨sl, e⟩ := I.base.slot L o ho (I.ok.frf L hL) hL fun z => I.ok.exfs L z hL
      exact ⟨hk, ⟨L, _, hf, hn, e, hd⟩, ih (fun b hb => hs b (by unfold frs; rw [List.filterMap_cons, hf]; exact List.mem_cons_of_mem _ hb)) hr⟩
  exact all X.outer (fun _ hb => hb) I.ok.funs

/-- the frames that run, for a call -/
theorem Inv.stack (I : Inv X pins σ H s) : s.heap.FunFrames X.base X.stack := by
  rcases I.ok.stk with e | ⟨e, hf⟩
  · rw [e]; exact I.funs
  · rw [e]
    obtain ⟨m, hn, _⟩ := I.loc
    refine .cons (by rw [I.ok.kind]; decide) hf hn ?_ I.funs
    exact Heap.get?_none_of_le (Nat.le_trans I.ok.bsz I.ok.above)
theorem Inv.stkSub (I : Inv X pins σ H s) : ∀ b ∈ frs X.stack, b ∈ X.env.locals :: X.fs := fun b hb => by
  rcases I.ok.stk with e | ⟨e, hf⟩
  · rw [e] at hb; exact List.mem_cons_of_mem _ hb
  · rw [e] at hb
    unfold frs at hb
    rw [List.filterMap_cons, hf] at hb
    exact hb
theorem Inv.stkFree (I : Inv X pins σ H s) : ∀ b ∈ frs X.stack, H b = none := fun b hb => by
  rcases List.mem_cons.mp (I.stkSub b hb) with e | hb
  · rw [e]; exact I.free
  · obtain ⟨_, o, ho, _⟩ := I.ok.funs.mem hb
    exact I.base.free b o ho (I.ok.frf b hb) fun z => I.ok.exfs b z hb

/-- THE STEP: the untracked objects but the frame and the records at ch are kept (the callers' frames up to slots), the frame's map is kept, the new abstract heap is held -/
theorem Inv.step {g' : Array GenState} {t' : Nat} {d' : Drawn} {ch : List Addr} (I : Inv X pins σ H s)
    (hch : ∀ b ∈ ch, (b ∈ X.ex ∨ X.s₀.heap.objs.size ≤ b) ∧ b ≠ X.env.locals ∧ (∀ x c, X.env.cells.lookup x = some c → c ≠ b) ∧ ∀ p ∈ X.pn ++ pins, p.1 ≠ b)
    (keep : ∀ b o, b ≠ X.env.locals → b ∉ X.fs → b ∉ ch → s.heap.get? b = some o → H b = none → h'.get? b = some o)
    (slot : ∀ b o, b ≠ X.env.locals → b ∈ X.fs → b ∉ ch → s.heap.get? b = some o → H b = none → ∃ sl, h'.get? b = some { o with slots := sl }) (free : ∀ b o, b ∉ ch → s.heap.get? b = some o → H b = none → H' b = none)
    (there : ∀ b o, b ∉ ch → s.heap.get? b = some o → ∃ o', h'.get? b = some o')
    (tups : ∀ b xs, H b = some (.tup xs) → H' b = some (.tup xs)) (frzs : ∀ b o u, H b = some (.frz o u) → H' b = some (.frz o u)) (tbls : ∀ b ps, H b = some (.tbl ps) → ∃ more, H' b = some (.tbl (ps ++ more)))
    (ns : ∀ m, s.heap.Ns X.env.locals m → h'.Ns X.env.locals m) (hok : HOk X.prog X.w H' h') (hg : AllBare g') :
    Inv X pins σ H' { s with heap := h', gens := g', drawn := d', toks := t' } := by
  have neL : ∀ b o, X.s₀.heap.get? b = some o → b ≠ X.env.locals := fun b o e => Nat.ne_of_lt (Nat.lt_of_lt_of_le (Heap.lt_size e) I.ok.above)
  have neC : ∀ b o, X.s₀.heap.get? b = some o → b ∉ X.ex → b ∉ ch := fun b o e hx hb => by
    rcases (hch b hb).1 with z | z
    · exact hx z
    · exact absurd (Nat.lt_of_lt_of_le (Heap.lt_size e) z) (Nat.lt_irrefl _)
  have cellK : ∀ x c, X.env.cells.lookup x = some c → ∀ v, s.heap.IsCell c v → h'.IsCell c v := fun x c e v ⟨o, ho, hd⟩ => by
    have nch : c ∉ ch := fun z => (hch c z).2.2.1 x c e rfl
    by_cases hc : c ∈ X.fs
    · obtain ⟨sl, q⟩ := slot c o (I.cne x c e) hc nch ho (I.freeC x c e)
      exact ⟨_, q, hd⟩
    · exact ⟨o, keep c o (I.cne x c e) hc nch ho (I.freeC x c e), hd⟩
  refine ⟨I.ok, I.os, hg, ⟨fun b o e n hb hx => ?_, fun b o e n hb hx => ?_, fun b o e n hx => ?_, fun b o e hx => ?_, fun b xs e => tups b xs (I.base.tups b xs e), fun b o xs e => frzs b o xs (I.base.frzs b o xs e), fun b ps e => ?_⟩, ?_, fun x c e => ?_, ?_, fun x c e => ?_, fun p hp => ?_, hok, I.len⟩
  · exact keep b o (neL b o e) hb (neC b o e hx) (I.base.keep b o e n hb hx) (I.base.free b o e n hx)
  · obtain ⟨sl, e1⟩ := I.base.slot b o e n hb hx
    obtain ⟨sl', e2⟩ := slot b _ (neL b o e) hb (neC b o e hx) e1 (I.base.free b o e n hx)
    exact ⟨sl', e2⟩
  · obtain ⟨o', e1⟩ := I.base.there b o e hx
    exact free b o' (neC b o e hx) e1 (I.base.free b o e n hx)
  · obtain ⟨o', e1⟩ := I.base.there b o e hx
    exact there b o' (neC b o e hx) e1
  · obtain ⟨m1, e1⟩ := I.base.tbls b ps e
    obtain ⟨m2, e2⟩ := tbls b _ e1
    exact ⟨m1 ++ m2, by rw [e2, Array.append_assoc]⟩
  · obtain ⟨m, hn, hl⟩ := I.loc
    refine ⟨m, ns m hn, fun i x v e1 e2 e3 => ?_⟩
    obtain ⟨u, r, l⟩ := hl i x v e1 e2 e3
    refine ⟨u, r, ?_⟩
    rcases l with l | ⟨k, c, e, z⟩
    · exact .inl l
    · exact .inr ⟨k, c, e, cellK x c e _ z⟩
  · obtain ⟨v, z⟩ := I.cell x c e
    exact ⟨v, cellK x c e v z⟩
  · obtain ⟨m, ⟨o, _, _, ho, _⟩, _⟩ := I.loc
    exact free _ o (fun z => (hch _ z).2.1 rfl) ho I.free
  · obtain ⟨v, o, ho, hd⟩ := I.cell x c e
    exact free c o (fun z => (hch c z).2.2.1 x c e rfl) ho (I.freeC x c e)
  · obtain ⟨e, n, ne, nf, d⟩ := I.pin p hp
    have nch : p.1 ∉ ch := fun z => (hch p.1 z).2.2.2 p hp rfl
    exact ⟨keep p.1 p.2 ne nf nch e n, free p.1 p.2 nch e n, ne, nf, d⟩
/-- .. where the frame's own object is kept too -/
theorem Inv.un {t' : Nat} (I : Inv X pins σ H s) (u : Un X.fs [] H H' s.heap h') (hok : HOk X.prog X.w H' h') : Inv X pins σ H' { s with heap := h', toks := t' } := by
  obtain ⟨m, ⟨o, es, ep, ho, r⟩, _⟩ := id I.loc
  obtain ⟨sl, hL⟩ := u.any ho I.free (by simp)
  exact I.step (g' := s.gens) (d' := s.drawn) (ch := []) (fun _ z => nomatch z) (fun b o _ hb _ e n => u.keep b o e n hb (by simp)) (fun b o _ hb _ e n => u.slot b o e n hb (by simp)) (fun b o _ e n => u.free b o e n (by simp)) (fun b o _ e => u.there b o e (by simp)) u.tups u.frzs u.tbls (fun m' hm => by
    obtain ⟨o', es', ep', ho', r'⟩ := hm
    rw [ho] at ho'; cases ho'
    exact ⟨_, es', ep', hL, r'⟩) hok I.bare
/-- behind a call (or a comprehension's block): the slots of this frame may have changed too, the records at ch may have turned -/
theorem Inv.call {g' : Array GenState} {t' : Nat} {d' : Drawn} {ch : List Addr} (I : Inv X pins σ H s) (u : Un (frs X.stack) ch H H' s.heap h') (hok : HOk X.prog X.w H' h') (hg : AllBare g')
    (hch : ∀ b ∈ ch, (b ∈ X.ex ∨ X.s₀.heap.objs.size ≤ b) ∧ b ≠ X.env.locals ∧ (∀ x c, X.env.cells.lookup x = some c → c ≠ b) ∧ ∀ p ∈ X.pn ++ pins, p.1 ≠ b) :
    Inv X pins σ H' { s with heap := h', gens := g', drawn := d', toks := t' } := by
  obtain ⟨m, ⟨o, es, ep, ho, r⟩, _⟩ := id I.loc
  obtain ⟨sl, hL⟩ := u.any ho I.free fun z => (hch _ z).2.1 rfl
  exact I.step (ch := ch) hch (fun b o hL hb hc e n => u.keep b o e n (fun z => (List.mem_cons.mp (I.stkSub b z)).elim hL hb) hc) (fun b o _ _ hc e n => u.any e n hc) (fun b o hc e n => u.free b o e n hc) (fun b o hc e => u.there b o e hc) u.tups u.frzs u.tbls (fun m' hm => by
    obtain ⟨o', es', ep', ho', r'⟩ := hm
    rw [ho] at ho'; cases ho'
    exact ⟨_, es', ep', hL, r'⟩) hok hg
/-- an untracked record of ours (an iterator) has turned -/
theorem Inv.turned {t' : Nat} {it : Addr} (I : Inv X pins σ H s) (k : ∀ b o, b ≠ it → s.heap.get? b = some o → h'.get? b = some o) (hn : H it = none) (hL : it ≠ X.env.locals)
    (h1 : it ∈ X.ex ∨ X.s₀.heap.objs.size ≤ it) (h2 : ∀ x c, X.env.cells.lookup x = some c → c ≠ it) (h3 : ∀ p ∈ X.pn ++ pins, p.1 ≠ it) : Inv X pins σ H { s with heap := h', toks := t' } := by
  have nit : ∀ b u, H b = some u → b ≠ it := fun b u e z => by rw [z, hn] at e; cases e
  refine I.step (g' := s.gens) (d' := s.drawn) (ch := [it]) (fun b hb => ?_) (fun b o _ _ hc e _ => k b o (fun z => hc (by simp [z])) e) (fun b o _ _ hc e _ => ⟨o.slots, k b o (fun z => hc (by simp [z])) e⟩) (fun _ _ _ _ n => n)
    (fun b o hc e => ⟨o, k b o (fun z => hc (by simp [z])) e⟩) (fun _ _ e => e) (fun _ _ _ e => e) (fun b ps e => ⟨#[], by rw [e]; simp⟩) (fun m hm => ?_) (fun b u e => ?_) I.bare
  · have e : b = it := by simpa using hb
    subst e
    exact ⟨h1, hL, h2, h3⟩
  · obtain ⟨o, es, ep, ho, r⟩ := hm
    exact ⟨o, es, ep, k _ o (Ne.symm hL) ho, r⟩
  · refine (I.hok b u e).stay (fun c v hc q => k c v ?_ q) (fun _ q => q) fun _ _ q => q
    rcases hc with z | z
    · rw [z]; exact nit b u e
    · exact nit c _ z
theorem Inv.tok (I : Inv X pins σ H s) (t : Nat) : Inv X pins σ H { s with toks := t } := I.un (h' := s.heap) (t' := t) Un.refl I.hok
/-- all objects kept -/
theorem Inv.kept {t' : Nat} (I : Inv X pins σ H s) (k : ∀ b u, s.heap.get? b = some u → h'.get? b = some u) : Inv X pins σ H { s with heap := h', toks := t' } := I.un (Un.kept k) (I.hok.kept k)
/-- a new object laid and tracked -/
theorem Inv.laid {a : Addr} {o : HO} {t' : Nat} (I : Inv X pins σ H s) (k : ∀ b u, s.heap.get? b = some u → h'.get? b = some u) (hp : s.heap.objs.size ≤ a) (new : ObjOk X.prog X.w (upd H a o) h' a o) :
    Inv X pins σ (upd H a o) { s with heap := h', toks := t' } := I.un (Un.laid k hp (I.hok.fresh hp)) (I.hok.laid k hp new)
/-- an object written -/
theorem Inv.write {x e : Addr} {o : HO} {t' : Nat} (I : Inv X pins σ H s) (mu : Mut (H x)) (he : e = x ∨ H e = some (.own x)) (k : ∀ b u, b ≠ e → s.heap.get? b = some u → h'.get? b = some u) (heo : ∃ u, h'.get? e = some u)
    (new : ObjOk X.prog X.w (upd H x o) h' x o) : Inv X pins σ (upd H x o) { s with heap := h', toks := t' } := I.un (Un.write mu he k heo) (I.hok.write mu he k heo new)
theorem Inv.pins_of {pins' : List (Addr × Obj)} (I : Inv X pins σ H s) (h : ∀ p ∈ pins', s.heap.get? p.1 = some p.2 ∧ H p.1 = none ∧ p.1 ≠ X.env.locals ∧ p.1 ∉ X.fs ∧ ∀ v, p.2.data ≠ .cell v) : Inv X pins' σ H s :=
  ⟨I.ok, I.os, I.bare, I.base, I.loc, I.cell, I.free, I.freeC, fun p hp => (List.mem_append.mp hp).elim (fun z => I.pin p (List.mem_append_left _ z)) (h p), I.hok, I.len⟩

theorem nodup_ix {N : List Str} (hN : N.Nodup) {i j : Nat} {x : Str} (a : N[i]? = some x) (b : N[j]? = some x) : i = j := by
  obtain ⟨h1, e1⟩ := List.getElem?_eq_some_iff.mp a
  obtain ⟨h2, e2⟩ := List.getElem?_eq_some_iff.mp b
  exact (List.getElem_inj hN).mp (e1.trans e2.symm)

/-- a name is stored; what changed -/
theorem store_ok2 {M : Model} {A : Around} {E : Value → Shared → Prop} {i : Nat} {x : Str} {v : V} {u : Value} {Q : Unit → Shared → Prop} (I : Inv X pins σ H s) (hN : X.N.Nodup) (hi : X.N[i]? = some x) (hx : Loc X.env.scope x) (r : RelV v u)
    (h : ∀ s', Inv X pins (σ.set i (some v)) H s' → (∃ a, Heap.SameBut a s.heap s'.heap ∧ (a = X.env.locals ∨ X.env.cells.lookup x = some a)) → Q () s') (hf : X.fn x = true ∨ X.env.scope.names.lookup x = some .local := by first | exact .inl rfl | exact .inr rfl | assumption) : wpAny M A (storeName X.env x u) Q E s := by
  obtain ⟨m, hn, hl⟩ := id I.loc
  have hcls : (X.env.scope.kind == .class || (X.env.scope.kind == .module && X.env.locals != X.env.globals)) = false := by rw [I.ok.kind]; rfl
  have hiσ : i < σ.length := by rw [I.len]; exact (List.getElem?_eq_some_iff.mp hi).1
  have cne := I.cne
  have tracked : ∀ {a : Addr} {h' : Heap}, (∃ o, s.heap.get? a = some o ∧ H a = none) → Heap.SameBut a s.heap h' → HOk X.prog X.w H h' := fun {a h'} ha hs b ob e => by
    obtain ⟨_, _, hfree⟩ := ha
    refine (I.hok b ob e).stay (fun c w' hc q => (hs.2 c ?_).trans q) (fun _ q => q) fun _ _ q => q
    rintro rfl
    rcases hc with rfl | hc
    · rw [hfree] at e; cases e
    · rw [hfree] at hc; cases hc
  rcases hx with hk | hk
  · refine wpAny_storeName_local hk hn (fun h' hn' hs => ?_) hcls
    obtain ⟨oL, _, _, hoL, _⟩ := id hn
    refine h _ ⟨I.ok, I.os, I.bare, ⟨fun b o e n hb hx => ?_, fun b o e n hb hx => ?_, I.base.free, fun b o e hx => ?_, I.base.tups, I.base.frzs, I.base.tbls⟩, ⟨_, hn', fun j y v' e1 e2 e3 => ?_⟩, fun y c e => ?_, I.free, I.freeC, fun p hp => ?_, tracked ⟨oL, hoL, I.free⟩ hs, by simpa using I.len⟩ ⟨_, hs, .inl rfl⟩
    · exact (hs.2 b (Nat.ne_of_lt (Nat.lt_of_lt_of_le (Heap.lt_size e) I.ok.above))).trans (I.base.keep b o e n hb hx)
    · obtain ⟨sl, e1⟩ := I.base.slot b o e n hb hx
      exact ⟨sl, (hs.2 b (Nat.ne_of_lt (Nat.lt_of_lt_of_le (Heap.lt_size e) I.ok.above))).trans e1⟩
    · obtain ⟨o', e1⟩ := I.base.there b o e hx
      exact ⟨o', (hs.2 b (Nat.ne_of_lt (Nat.lt_of_lt_of_le (Heap.lt_size e) I.ok.above))).trans e1⟩
    · by_cases hj : j = i
      · subst hj
        rw [hi] at e1; cases e1
        rw [List.getElem?_set_self hiσ] at e2
        cases e2
        exact ⟨u, r, .inl ⟨hk, by simp⟩⟩
      · rw [List.getElem?_set_ne (Ne.symm hj)] at e2
        obtain ⟨u', r', q⟩ := hl j y v' e1 e2 e3
        refine ⟨u', r', ?_⟩
        rcases q with ⟨k, e⟩ | ⟨k, c, e, z⟩
        · refine .inl ⟨k, ?_⟩
          have : y ≠ x := fun e => hj (nodup_ix hN e1 (e ▸ hi))
          simp [this, e]
        · exact .inr ⟨k, c, e, z.sameBut hs (cne y c e)⟩
    · obtain ⟨w', z⟩ := I.cell y c e
      exact ⟨w', z.sameBut hs (cne y c e)⟩
    · obtain ⟨e, n, ne, nf, d⟩ := I.pin p hp
      exact ⟨(hs.2 p.1 ne).trans e, n, ne, nf, d⟩
  · have hfn : X.fn x = true := by
      rcases hf with z | z
      · exact z
      · rw [z] at hk; cases hk
    obtain ⟨c, hc⟩ := I.ok.has x (.inl hk)
    obtain ⟨w', z⟩ := I.cell x c hc
    refine wpAny_storeName_cell I.ok.kind hk hc z (fun h' hc' hs => ?_)
    obtain ⟨oc, hoc, hocd⟩ := id z
    refine h { s with heap := h' } ⟨I.ok, I.os, I.bare, ⟨fun b o e n hb hx => ?_, fun b o e n hb hx => ?_, I.base.free, fun b o e hx => ?_, I.base.tups, I.base.frzs, I.base.tbls⟩, ⟨m, hn.sameBut hs (Ne.symm (cne x c hc)), fun j y v' e1 e2 e3 => ?_⟩, fun y c' e => ?_, I.free, I.freeC, fun p hp => ?_, tracked ⟨oc, hoc, I.freeC x c hc⟩ hs, by simpa using I.len⟩ ⟨c, hs, .inr hc⟩
    · exact (hs.2 b (Nat.ne_of_lt (Nat.lt_of_lt_of_le (Heap.lt_size e) (I.ok.cab x c hfn hc)))).trans (I.base.keep b o e n hb hx)
    · obtain ⟨sl, e1⟩ := I.base.slot b o e n hb hx
      exact ⟨sl, (hs.2 b (Nat.ne_of_lt (Nat.lt_of_lt_of_le (Heap.lt_size e) (I.ok.cab x c hfn hc)))).trans e1⟩
    · obtain ⟨o', e1⟩ := I.base.there b o e hx
      exact ⟨o', (hs.2 b (Nat.ne_of_lt (Nat.lt_of_lt_of_le (Heap.lt_size e) (I.ok.cab x c hfn hc)))).trans e1⟩
    · by_cases hj : j = i
      · subst hj
        rw [hi] at e1; cases e1
        rw [List.getElem?_set_self hiσ] at e2
        cases e2
        exact ⟨u, r, .inr ⟨.inl hk, c, hc, hc'⟩⟩
      · rw [List.getElem?_set_ne (Ne.symm hj)] at e2
        obtain ⟨u', r', q⟩ := hl j y v' e1 e2 e3
        refine ⟨u', r', ?_⟩
        rcases q with q | ⟨k, c', e, z'⟩
        · exact .inl q
        · refine .inr ⟨k, c', e, z'.sameBut hs ?_⟩
          rintro rfl
          exact hj (nodup_ix hN e1 (I.ok.inj _ _ _ e hc ▸ hi))
    · by_cases hcc : c' = c
      · subst hcc; exact ⟨_, hc'⟩
      · obtain ⟨w2, z2⟩ := I.cell y c' e
        exact ⟨w2, z2.sameBut hs hcc⟩
    · obtain ⟨e, n, ne, nf, d⟩ := I.pin p hp
      refine ⟨(hs.2 p.1 ?_).trans e, n, ne, nf, d⟩
      intro q
      rw [q, hoc] at e
      have q' : oc = p.2 := Option.some.inj e
      exact d w' (by rw [← q']; exact hocd)
theorem store_ok {M : Model} {A : Around} {E : Value → Shared → Prop} {i : Nat} {x : Str} {v : V} {u : Value} {Q : Unit → Shared → Prop} (I : Inv X pins σ H s) (hN : X.N.Nodup) (hi : X.N[i]? = some x) (hx : Loc X.env.scope x) (r : RelV v u)
    (h : ∀ s', Inv X pins (σ.set i (some v)) H s' → Q () s') (hf : X.fn x = true ∨ X.env.scope.names.lookup x = some .local := by first | exact .inl rfl | exact .inr rfl | assumption) : wpAny M A (storeName X.env x u) Q E s :=
  store_ok2 I hN hi hx r (fun s' I' _ => h s' I') hf
end

/-! ### the judgements -/
/-- an exception: its class, its own dict's address (where it has one), the abstract heap behind it -/
noncomputable abbrev XK := Value → Option Addr → Hp → Prop
noncomputable abbrev St := List (Option V)
noncomputable abbrev VK := V → Hp → Prop
/-- an expression's reading; a test's; an argument list's -/
noncomputable abbrev TE := St → Hp → VK → Prop
noncomputable abbrev TT := St → Hp → (Bool → Hp → Prop) → Prop
noncomputable abbrev TA := St → Hp → (List V → Hp → Prop) → Prop
/-- what is wanted behind a statement -/
structure Ends where
  nx : St → Hp → Prop
  rt : VK
  bk : St → Hp → Prop := fun _ _ => False
  ct : St → Hp → Prop := fun _ _ => False
noncomputable abbrev TS := Ends → St → Hp → Prop

noncomputable def EP (X : Cx) (pins : List (Addr × Obj)) (σ : St) (Q : VK) (u : Value) (s' : Shared) : Prop := ∃ v H', Inv X pins σ H' s' ∧ RelV v u ∧ Q v H'
noncomputable def TP (X : Cx) (pins : List (Addr × Obj)) (σ : St) (Q : Bool → Hp → Prop) (b : Bool) (s' : Shared) : Prop := ∃ H', Inv X pins σ H' s' ∧ Q b H'
noncomputable def AP (X : Cx) (pins : List (Addr × Obj)) (σ : St) (Q : List V → Hp → Prop) (us : List Value) (s' : Shared) : Prop := ∃ vs H', Inv X pins σ H' s' ∧ Vals vs us ∧ Q vs H'
noncomputable def SP (X : Cx) (pins : List (Addr × Obj)) (D : Ends) (f : Flow) (s' : Shared) : Prop :=
  match f with
  | .next => ∃ σ' H', Inv X pins σ' H' s' ∧ D.nx σ' H'
  | .brk => ∃ σ' H', Inv X pins σ' H' s' ∧ D.bk σ' H'
  | .cont => ∃ σ' H', Inv X pins σ' H' s' ∧ D.ct σ' H'
  | .ret u => ∃ v σ' H', Inv X pins σ' H' s' ∧ RelV v u ∧ D.rt v H'

noncomputable def PE (X : Cx) (e : Expr) (t : TE) : Prop :=
  ∀ (pins : List (Addr × Obj)) (s : Shared) (σ : St) (H : Hp) (Q : VK), Inv X pins σ H s → t σ H Q → wpAny (model X.prog X.w) X.A (eval e X.env) (EP X pins σ Q) X.xe s
noncomputable def PT (X : Cx) (e : Expr) (t : TT) : Prop :=
  ∀ (pins : List (Addr × Obj)) (s : Shared) (σ : St) (H : Hp) (Q : Bool → Hp → Prop), Inv X pins σ H s → t σ H Q → wpAny (model X.prog X.w) X.A (isTrue e X.env (eval e X.env)) (TP X pins σ Q) X.xe s
/-- a test whatever its 'whole' is (and, or) -/
noncomputable def PW (X : Cx) (e : Expr) (t : TT) : Prop :=
  ∀ (whole : Sem Value) (pins : List (Addr × Obj)) (s : Shared) (σ : St) (H : Hp) (Q : Bool → Hp → Prop), Inv X pins σ H s → t σ H Q → wpAny (model X.prog X.w) X.A (isTrue e X.env whole) (TP X pins σ Q) X.xe s
theorem PW.pt {X : Cx} {e : Expr} {t : TT} (h : PW X e t) : PT X e t := h _
/-- an argument list (no star), from the left -/
noncomputable def PA (X : Cx) (es : List Expr) (t : TA) : Prop :=
  ∀ (pos : Pos) (pins : List (Addr × Obj)) (s : Shared) (σ : St) (H : Hp) (Q : List V → Hp → Prop), Inv X pins σ H s → t σ H Q → wpAny (model X.prog X.w) X.A (spliced (backTo pos (starEach es X.env))) (AP X pins σ Q) X.xe s
noncomputable def PS (X : Cx) (st : Stmt) (t : TS) : Prop :=
  ∀ (pins : List (Addr × Obj)) (s : Shared) (σ : St) (H : Hp) (D : Ends), Inv X pins σ H s → t D σ H → wpAny (model X.prog X.w) X.A (exec st X.env) (SP X pins D) X.xe s
noncomputable def PSs (X : Cx) (st : List Stmt) (t : TS) : Prop :=
  ∀ (pins : List (Addr × Obj)) (s : Shared) (σ : St) (H : Hp) (D : Ends), Inv X pins σ H s → t D σ H → wpAny (model X.prog X.w) X.A (execs st X.env) (SP X pins D) X.xe s
/-- weaken the end -/
theorem thn {α : Type} {t : Sem α} {Q Q' : α → Shared → Prop} {M : Model} {A : Around} {E : Value → Shared → Prop} {s : Shared} (h : wpAny M A t Q E s) (hQ : ∀ a s, Q a s → Q' a s) : wpAny M A t Q' E s := wpAny_mono h hQ fun _ _ x => x
end L2

namespace L2
open PySem PySem.Spec PyProof.Rows
section
variable {X : Cx}

/-! ### names and constants -/
noncomputable def tVar (i : Nat) : TE := fun σ H Q => ∃ v, σ[i]? = some (some v) ∧ Q v H
noncomputable def tC (v : V) : TE := fun _ H Q => Q v H
theorem pe_var {i : Nat} {x : Str} {pos : Pos} (hN : X.N[i]? = some x) (hv : Vis X.env.scope x) (hd : (x == ("__debug__" : Str)) = false := by decide) (hcd : (x == ("__classdict__" : Str)) = false := by decide) : PE X (.Name x pos) (tVar i) := by
  intro pins s σ H Q I h
  obtain ⟨v, e, h⟩ := h
  obtain ⟨m, hn, hl⟩ := I.loc
  obtain ⟨u, r, l⟩ := hl i x v hN e hv
  have fin : EP X pins σ Q u s := ⟨v, H, I, r, h⟩
  rcases l with ⟨hk, hm⟩ | ⟨hk, c, hc, hcell⟩
  · exact wpAny_Name (wpAny_loadName_local I.ok.kind hk hn hm fin) hd
  · rcases hk with hk | hk
    · exact wpAny_Name (wpAny_loadName_cell I.ok.kind hk hc hcell fin) hd
    · exact wpAny_Name (wpAny_loadName_free I.ok.kind hk hc hcell fin hcd) hd
theorem pe_int {i j pos} : PE X (.Constant (.int i) j pos) (tC (.int i)) := fun _ _ _ H _ I h => wpAny_Constant_int ⟨.int i, H, I.tok _, ⟨_, rfl⟩, h⟩
theorem pe_bl {b j pos} : PE X (.Constant (.bool b) j pos) (tC (.bl b)) := fun _ _ _ H _ I h => Constant_bool ⟨.bl b, H, I, rfl, h⟩
theorem pe_str {x j pos} : PE X (.Constant (.str x) j pos) (tC (.str x)) := fun _ _ _ H _ I h => Calls.Constant_str ⟨.str x, H, I.tok _, ⟨_, rfl⟩, h⟩

/-- a global name of the def -/
noncomputable def Gl (X : Cx) (x : Str) : Prop := X.env.kindOf x = some .globalImplicit
theorem ld_glob {E : Value → Shared → Prop} {pins : List (Addr × Obj)} {s : Shared} {σ : St} {H : Hp} {x : Str} {u : Value} {pos : Pos} {Q : Value → Shared → Prop} (I : Inv X pins σ H s) (hg : Gl X x) (hm : X.mg x = some u) (h : Q u s)
    (hd : (x == ("__debug__" : Str)) = false := by decide) : wpAny (model X.prog X.w) X.A (eval (.Name x pos) X.env) Q E s :=
  Calls.Name_function_global I.ok.kind hg (Calls.loadGlobal_global (by rw [I.ok.glob]; exact I.mod.glob.keeps I.bk) hm h) hd
theorem ld_blt {E : Value → Shared → Prop} {pins : List (Addr × Obj)} {s : Shared} {σ : St} {H : Hp} {x : Str} {u : Value} {pos : Pos} {Q : Value → Shared → Prop} (I : Inv X pins σ H s) (hg : Gl X x) (hm : X.mg x = none) (hv : bootBuiltins x = some u) (h : Q u s)
    (hn : x ≠ "__name__" := by decide) (hd : (x == ("__debug__" : Str)) = false := by decide) : wpAny (model X.prog X.w) X.A (eval (.Name x pos) X.env) Q E s := by
  obtain ⟨mb, h1, h2⟩ := I.mod.blt
  exact Calls.Name_function_global I.ok.kind hg (Calls.loadGlobal_builtin (by rw [I.ok.glob]; exact I.mod.glob.keeps I.bk) hm (by rw [I.ok.blt]; exact h1.keeps I.bk) ((h2 x hn).trans hv) h) hd
theorem pe_bltn {x : Str} {v : V} {u : Value} {pos : Pos} (hg : Gl X x) (hm : X.mg x = none) (hv : bootBuiltins x = some u) (r : RelV v u) (hn : x ≠ "__name__" := by decide) (hd : (x == ("__debug__" : Str)) = false := by decide) : PE X (.Name x pos) (tC v) :=
  fun _ _ _ H _ I h => ld_blt I hg hm hv ⟨v, H, I, r, h⟩ hn hd

/-! ### arithmetic -/
variable {a b : Expr} {ta tb : TE} {pos : Pos}
/-! ### comparisons -/
/-! ### and, or, not -/
variable {tA tB' : TT} {rest : List Expr}
noncomputable def tAnd (t u : TT) : TT := fun σ H Q => t σ H fun c H1 => if c = true then u σ H1 Q else Q false H1
noncomputable def tOr (t u : TT) : TT := fun σ H Q => t σ H fun c H1 => if c = true then Q true H1 else u σ H1 Q
noncomputable def tNot (t : TT) : TT := fun σ H Q => t σ H fun c H1 => Q (!c) H1
theorem pw_and1 (ha : PT X a tA) : PW X (.BoolOp .And [a] pos) tA := by
  intro wh pins s σ H Q I h
  refine isTrue_and (thn (ha pins s σ H Q I h) fun c s1 e => ?_)
  cases c with
  | true => exact isTrue_and_nil e
  | false => exact e
theorem pw_or1 (ha : PT X a tA) : PW X (.BoolOp .Or [a] pos) tA := by
  intro wh pins s σ H Q I h
  refine isTrue_or (thn (ha pins s σ H Q I h) fun c s1 e => ?_)
  cases c with
  | false => exact isTrue_or_nil e
  | true => exact e
theorem pw_and (ha : PT X a tA) (hb : PW X (.BoolOp .And (b :: rest) pos) tB') : PW X (.BoolOp .And (a :: b :: rest) pos) (tAnd tA tB') := by
  intro wh pins s σ H Q I h
  refine isTrue_and (thn (ha pins s σ H _ I h) fun c s1 ⟨H1, I1, q1⟩ => ?_)
  cases c with
  | true => exact hb wh pins s1 σ H1 Q I1 q1
  | false => exact ⟨H1, I1, q1⟩
theorem pw_or (ha : PT X a tA) (hb : PW X (.BoolOp .Or (b :: rest) pos) tB') : PW X (.BoolOp .Or (a :: b :: rest) pos) (tOr tA tB') := by
  intro wh pins s σ H Q I h
  refine isTrue_or (thn (ha pins s σ H _ I h) fun c s1 ⟨H1, I1, q1⟩ => ?_)
  cases c with
  | true => exact ⟨H1, I1, q1⟩
  | false => exact hb wh pins s1 σ H1 Q I1 q1
theorem pt_not (ha : PT X a tA) : PT X (.UnaryOp .Not a pos) (tNot tA) := by
  intro pins s σ H Q I h
  exact isTrue_not (ha pins s σ H (fun c H1 => Q (!c) H1) I h)
/-- .. as values (bools) -/
noncomputable def tAndV (ta tb : TE) : TE := fun σ H Q => ta σ H fun x H1 => ∃ c, x = .bl c ∧ if c = true then tb σ H1 Q else Q (.bl false) H1
theorem pe_one {op} {t : TE} (h : PE X a t) : PE X (.BoolOp op [a] pos) t := fun pins s σ H Q I hw => BoolOp_one (h pins s σ H Q I hw)
theorem pe_and (ha : PE X a ta) (hb : PE X (.BoolOp .And (b :: rest) pos) tb) : PE X (.BoolOp .And (a :: b :: rest) pos) (tAndV ta tb) := by
  intro pins s σ H Q I h
  refine BoolOp_and (thn (ha pins s σ H _ I h) fun v s1 ⟨x, H1, I1, r1, q1⟩ => ?_)
  obtain ⟨c, rfl, q1⟩ := q1
  cases r1
  refine wpAny_truthy_bool ?_
  cases c with
  | true => exact hb pins s1 σ H1 Q I1 q1
  | false => exact ⟨.bl false, H1, I1, rfl, q1⟩
end
end L2

namespace L2
open PySem PySem.Spec PyProof.Rows

/-! ### a list, a tuple that is read: tracked, frozen, or an object of the module -/
noncomputable def SqL (K : PySem.W.Frag) (H : Hp) (a : Addr) (xs : List V) : Prop :=
  Rd H a (.lst xs) ∨
    ∃ (o : Obj) (its : Array Value) (n : Nat), K.lookup a = some o ∧ o.cls = .type "list" ∧ o.dict = none ∧ o.data = .seq its n ∧ its.size ≤ sizeLine ∧ Vals xs its.toList
noncomputable def SqT (K : PySem.W.Frag) (H : Hp) (a : Addr) (xs : List V) : Prop :=
  Rd H a (.tup xs) ∨
    ∃ (o : Obj) (its : Array Value) (n : Nat), K.lookup a = some o ∧ o.cls = .type "tuple" ∧ o.data = .seq its n ∧ its.size ≤ sizeLine ∧ Vals xs its.toList
noncomputable def absV : Value → Option V
  | .none => some .non
  | .bool b => some (.bl b)
  | .int i _ => some (.int i)
  | .str x _ => some (.str x)
  | .bytes b _ => some (.byt b)
  | .float b _ => some (.flt b)
  | .ref a => some (.ref a)
  | .type n => some (.ty n)
  | _ => none
theorem RelV.abs {x : V} {u : Value} (r : RelV x u) : absV u = some x := by
  cases x with
  | non => cases r; rfl
  | bl _ => cases r; rfl
  | int _ => obtain ⟨t, rfl⟩ := r; rfl
  | str _ => obtain ⟨t, rfl⟩ := r; rfl
  | byt _ => obtain ⟨t, rfl⟩ := r; rfl
  | flt _ => obtain ⟨t, rfl⟩ := r; rfl
  | ref _ => cases r; rfl
  | ty _ => cases r; rfl
theorem RelV.inj {x y : V} {u : Value} (r : RelV x u) (q : RelV y u) : x = y := Option.some.inj (r.abs.symm.trans q.abs)
theorem Vals.inj : ∀ {xs ys : List V} {us : List Value}, Vals xs us → Vals ys us → xs = ys
  | _, _, _, .nil, .nil => rfl
  | _, _, _, .cons r t, .cons r' t' => by rw [r.inj r', Vals.inj t t']
section
variable {X : Cx} {pins : List (Addr × Obj)} {σ : St} {H : Hp} {s : Shared} {a : Addr} {xs ys : List V}
theorem SqT.of {K : PySem.W.Frag} (h : H a = some (.tup xs)) : SqT K H a xs := .inl (.inl h)
theorem Inv.list (I : Inv X pins σ H s) (h : SqL X.K H a xs) : ∃ its : List Value, Vals xs its ∧ PlainL s.heap a its.toArray ∧ xs.length ≤ sizeLine := by
  rcases h with h | ⟨o, its, n, hk, hc, hd, hs, hz, r⟩
  · obtain ⟨z, its, n, r, e⟩ := h.ok I.hok
    exact ⟨its, r, ⟨_, n, e, rfl, rfl, rfl⟩, z⟩
  · refine ⟨its.toList, r, ⟨o, n, I.kIn a o hk, hc, hd, by simpa using hs⟩, ?_⟩
    have e := r.length
    simp only [Array.length_toList] at e
    omega
theorem Inv.tuple (I : Inv X pins σ H s) (h : SqT X.K H a xs) : ∃ its : List Value, Vals xs its ∧ IsTup s.heap a its.toArray ∧ xs.length ≤ sizeLine := by
  rcases h with h | ⟨o, its, n, hk, hc, hs, hz, r⟩
  · obtain ⟨z, its, r, p⟩ := h.ok I.hok
    exact ⟨its, r, p, z⟩
  · refine ⟨its.toList, r, ⟨o, I.kIn a o hk, hc, n, by simpa using hs⟩, ?_⟩
    have e := r.length
    simp only [Array.length_toList] at e
    omega
theorem Inv.list_inj (I : Inv X pins σ H s) (h : SqL X.K H a xs) (h' : SqL X.K H a ys) : xs = ys := by
  obtain ⟨its, r, ⟨o, n, e, _, _, d⟩, _⟩ := I.list h
  obtain ⟨its', r', ⟨o', n', e', _, _, d'⟩, _⟩ := I.list h'
  rw [e] at e'; cases e'
  rw [d] at d'
  injection d' with d1 _
  have : its = its' := by simpa using congrArg Array.toList d1
  subst this
  exact r.inj r'
theorem Inv.tuple_inj (I : Inv X pins σ H s) (h : SqT X.K H a xs) (h' : SqT X.K H a ys) : xs = ys := by
  obtain ⟨its, r, ⟨o, e, _, n, d⟩, _⟩ := I.tuple h
  obtain ⟨its', r', ⟨o', e', _, n', d'⟩, _⟩ := I.tuple h'
  rw [e] at e'; cases e'
  rw [d] at d'
  injection d' with d1 _
  have : its = its' := by simpa using congrArg Array.toList d1
  subst this
  exact r.inj r'
end

/-! ### another wish about exceptions -/
noncomputable abbrev Cx.wish (X : Cx) (E : Value → Shared → Prop) : Cx := { X with xe := E }
/-- no exception leaves -/
noncomputable abbrev Cx.nox (X : Cx) : Cx := X.wish fun _ _ => False
theorem Cx.Ok.wish {X : Cx} (ok : X.Ok) (E : Value → Shared → Prop) : (X.wish E).Ok :=
  ⟨ok.mod, ok.kind, ok.glob, ok.blt, ok.above, ok.inj, ok.has, ok.cab, ok.hd, ok.frames, ok.stk, ok.exf, ok.bs, ok.bsz, ok.noex, ok.exfs, ok.funs, ok.frf⟩
theorem Cx.Ok.unwish {X : Cx} {E : Value → Shared → Prop} (ok : (X.wish E).Ok) : X.Ok :=
  ⟨ok.mod, ok.kind, ok.glob, ok.blt, ok.above, ok.inj, ok.has, ok.cab, ok.hd, ok.frames, ok.stk, ok.exf, ok.bs, ok.bsz, ok.noex, ok.exfs, ok.funs, ok.frf⟩
section
variable {X : Cx} {pins : List (Addr × Obj)} {σ : St} {H : Hp} {s : Shared} {E : Value → Shared → Prop}
theorem Inv.wish (I : Inv X pins σ H s) (E : Value → Shared → Prop) : Inv (X.wish E) pins σ H s := ⟨I.ok.wish E, I.os, I.bare, I.base, I.loc, I.cell, I.free, I.freeC, I.pin, I.hok, I.len⟩
theorem Inv.unwish (I : Inv (X.wish E) pins σ H s) : Inv X pins σ H s := ⟨I.ok.unwish, I.os, I.bare, I.base, I.loc, I.cell, I.free, I.freeC, I.pin, I.hok, I.len⟩
theorem SP.unwish {D : Ends} {f : Flow} {s' : Shared} (h : SP (X.wish E) pins D f s') : SP X pins D f s' := by
  cases f with
  | next => obtain ⟨σ', H', I, q⟩ := h; exact ⟨σ', H', I.unwish, q⟩
  | brk => obtain ⟨σ', H', I, q⟩ := h; exact ⟨σ', H', I.unwish, q⟩
  | cont => obtain ⟨σ', H', I, q⟩ := h; exact ⟨σ', H', I.unwish, q⟩
  | ret u => obtain ⟨v, σ', H', I, r, q⟩ := h; exact ⟨v, σ', H', I.unwish, r, q⟩
theorem PSs.nox {st : List Stmt} {t : TS} (h : PSs X.nox st t) : PSs X st t := fun pins s σ H D I hw =>
  wpAny_mono (h pins s σ H D (I.wish _) hw) (fun _ _ q => q.unwish) fun _ _ z => False.elim z
end

/-! ### blocks and small statements -/
section
variable {X : Cx} {st : Stmt} {rest : List Stmt} {t u : TS} {e : Expr} {te : TE} {pos : Pos}
noncomputable def tNext : TS := fun D σ H => D.nx σ H
noncomputable def tSeq (t u : TS) : TS := fun D σ H => t { D with nx := u D } σ H
theorem pss_nil : PSs X [] tNext := fun _ _ σ H _ I h => wpAny_execs_nil ⟨σ, H, I, h⟩
theorem pss_cons (h1 : PS X st t) (h2 : PSs X rest u) : PSs X (st :: rest) (tSeq t u) := by
  intro pins s σ H D I h
  refine wpAny_execs_cons (thn (h1 pins s σ H { D with nx := u D } I h) fun f s1 q => ?_)
  cases f with
  | next =>
    obtain ⟨σ', H', I', q⟩ := q
    exact h2 pins s1 σ' H' D I' q
  | ret v => exact q
  | brk => exact q
  | cont => exact q
/-- in a def's body nothing is shown -/
theorem Inv.quiet {pins : List (Addr × Obj)} {σ : St} {H : Hp} {s : Shared} (I : Inv X pins σ H s) : interactive X.env = false := by simp [interactive, I.ok.kind]
/-- an expression whose value is dropped -/
noncomputable def tDrop (te : TE) : TS := fun D σ H => te σ H fun _ H1 => D.nx σ H1
theorem ps_expr (he : PE X e te) (hs : swapsWith e none pos.line X.env = pure false := by rfl) : PS X (.Expr e pos) (tDrop te) := by
  intro pins s σ H D I h
  exact wpAny_Expr_any (thn (he pins s σ H _ I h) fun v s1 ⟨x, H1, I1, r1, q1⟩ => ⟨σ, H1, I1, q1⟩) I.quiet hs
noncomputable def tRet (te : TE) : TS := fun D σ H => te σ H D.rt
theorem ps_ret (he : PE X e te) : PS X (.Return (some e) pos) (tRet te) := by
  intro pins s σ H D I h
  exact wpAny_Return_some (thn (he pins s σ H _ I h) fun v s1 ⟨x, H1, I1, r1, q1⟩ => ⟨x, σ, H1, I1, r1, q1⟩)
noncomputable def tIfS (c : TT) (t u : TS) : TS := fun D σ H => c σ H fun b H1 => if b = true then t D σ H1 else u D σ H1
theorem ps_if {c : Expr} {a b : List Stmt} {tc : TT} (hc : PT X c tc) (ha : PSs X a t) (hb : PSs X b u) : PS X (.If c a b pos) (tIfS tc t u) := by
  intro pins s σ H D I h
  refine wpAny_If (thn (hc pins s σ H _ I h) fun d s1 ⟨H1, I1, q1⟩ => ?_)
  cases d with
  | true => exact ha pins s1 σ H1 D I1 q1
  | false => exact hb pins s1 σ H1 D I1 q1
end

/-! ### targets -/
noncomputable abbrev TG := V → St → Hp → (St → Hp → Prop) → Prop
noncomputable def PG (X : Cx) (target : Expr) (t : TG) : Prop :=
  ∀ (pins : List (Addr × Obj)) (s : Shared) (σ : St) (H : Hp) (v : V) (u : Value) (Q : St → Hp → Prop), Inv X pins σ H s → RelV v u → t v σ H Q →
    wpAny (model X.prog X.w) X.A (assign target X.env u) (fun _ s' => ∃ σ' H', Inv X pins σ' H' s' ∧ Q σ' H') X.xe s
section
variable {X : Cx} {pos : Pos}
noncomputable def gName (i : Nat) : TG := fun v σ H Q => Q (σ.set i (some v)) H
theorem pg_name {i : Nat} {x : Str} (hN : X.N.Nodup) (hi : X.N[i]? = some x) (hx : Loc X.env.scope x) (hf : X.fn x = true ∨ X.env.scope.names.lookup x = some .local := by first | exact .inl rfl | exact .inr rfl | assumption) : PG X (.Name x pos) (gName i) := by
  intro pins s σ H v u Q I r h
  exact wpAny_assign_Name (store_ok I hN hi hx r (fun s' I' => ⟨_, H, I', h⟩) hf)
/-- target = value -/
noncomputable def tAsg (te : TE) (g : TG) : TS := fun D σ H => te σ H fun x H1 => g x σ H1 D.nx
/-- name = value -/
theorem ps_set {i : Nat} {x : Str} {e : Expr} {te : TE} {pos' : Pos} (hN : X.N.Nodup) (hi : X.N[i]? = some x) (hx : Loc X.env.scope x) (he : PE X e te) (hs : swapsWith e (some (.Name x pos')) pos.line X.env = pure false := by rfl) (hf : X.fn x = true ∨ X.env.scope.names.lookup x = some .local := by first | exact .inl rfl | exact .inr rfl | assumption) :
    PS X (.Assign [.Name x pos'] e pos) (tAsg te (gName i)) := by
  intro pins s σ H D I h
  refine wpAny_Assign_Name (thn (he pins s σ H _ I h) fun v s1 ⟨y, H1, I1, r1, q1⟩ => ?_) hs
  exact store_ok I1 hN hi hx r1 (fun s2 I2 => ⟨_, H1, I2, q1⟩) hf
end

/-! ### while -/
section
variable {X : Cx} {pos : Pos}
end

/-! ### what a loop or a comprehension walks -/
/-- at turn i: it yields x (the heap may grow), or it stops -/
structure It where
  go : Nat → Hp → Prop
  yld : Nat → Hp → V → Hp → Prop
  stop : Nat → Hp → Prop
/-- the iterator's own objects may turn: they are not the frame's, not pinned, younger than the entry (or a comprehension's own) -/
noncomputable def FpOk (X : Cx) (pins : List (Addr × Obj)) (H : Hp) (b : Addr) : Prop :=
  H b = none ∧ b ≠ X.env.locals ∧ b ∉ X.fs ∧ (b ∈ X.ex ∨ X.s₀.heap.objs.size ≤ b) ∧ (∀ x c, X.env.cells.lookup x = some c → c ≠ b) ∧ ∀ p ∈ X.pn ++ pins, p.1 ≠ b
theorem Inv.fpOk {X : Cx} {pins : List (Addr × Obj)} {σ : St} {H H' : Hp} {s : Shared} {b : Addr} (I : Inv X pins σ H s) (hb : s.heap.objs.size ≤ b) (hn : H' b = none) : FpOk X pins H' b := by
  refine ⟨hn, Nat.ne_of_gt (Nat.lt_of_lt_of_le I.lt hb), I.nofs hb, .inr (Nat.le_trans I.sz hb), fun x c e z => ?_, fun p hp z => ?_⟩
  · obtain ⟨v, q⟩ := I.cell x c e
    exact absurd (Nat.lt_of_lt_of_le q.lt (by rw [z]; exact hb)) (Nat.lt_irrefl _)
  · exact absurd (Nat.lt_of_lt_of_le (Heap.lt_size (I.pin p hp).1) (by rw [z]; exact hb)) (Nat.lt_irrefl _)
structure Turn (P : Program) (w : World) (K : PySem.W.Frag) (tg : Expr) (J : It) (fp : List Addr) (it : Addr) (tn : Nat → Heap → Prop) : Prop where
  mem : it ∈ fp
  obj : ∀ i h, tn i h → ∀ b ∈ fp, ∃ o, h.get? b = some o ∧ ∀ v, o.data ≠ .cell v
  keep : ∀ i h h', tn i h → (∀ b ∈ fp, ∀ o, h.get? b = some o → h'.get? b = some o) → tn i h'
  item : ∀ (X : Cx), X.prog = P → X.w = w → X.K = K → X.calm = true → ∀ (i : Nat) (pins : List (Addr × Obj)) (s : Shared) (σ : St) (H : Hp) (E : Value → Shared → Prop), Inv X pins σ H s → (∀ b ∈ fp, FpOk X pins H b) → tn i s.heap → J.go i H →
    wpAny (model P w) X.A (pyNext (.ref it)) (fun r s1 => ∃ u, r = some u ∧
      wpAny (model P w) X.A (letOwnedTupleGo tg (.ref it) u) (fun _ s2 => ∃ x H', Inv X pins σ H' s2 ∧ RelV x u ∧ J.yld i H x H' ∧ tn (i + 1) s2.heap ∧ ∀ b ∈ fp, H' b = none) E s1) E s
  done : ∀ (X : Cx), X.prog = P → X.w = w → X.K = K → X.calm = true → ∀ (i : Nat) (pins : List (Addr × Obj)) (s : Shared) (σ : St) (H : Hp) (E : Value → Shared → Prop), Inv X pins σ H s → (∀ b ∈ fp, FpOk X pins H b) → tn i s.heap → J.stop i H →
    wpAny (model P w) X.A (pyNext (.ref it)) (fun r s1 => r = none ∧ Inv X pins σ H s1) E s
  self : ∀ (A : Around) (i : Nat) (s : Shared) (Q : Value → Shared → Prop) (E : Value → Shared → Prop), tn i s.heap → Q (.ref it) s → wpAny (model P w) A (pyIter (.ref it)) Q E s
noncomputable abbrev TI := St → Hp → (It → Hp → Prop) → Prop
/-- an iterator has come -/
noncomputable def PIE (X : Cx) (pins : List (Addr × Obj)) (σ : St) (tg : Expr) (R : It → Hp → Prop) (itv : Value) (s2 : Shared) : Prop :=
  ∃ (it : Addr) (fp : List Addr) (tn : Nat → Heap → Prop) (J : It) (H' : Hp), itv = .ref it ∧ Inv X pins σ H' s2 ∧ Turn X.prog X.w X.K tg J fp it tn ∧ tn 0 s2.heap ∧ (∀ b ∈ fp, FpOk X pins H' b) ∧ R J H'
noncomputable def PI (X : Cx) (tg iter : Expr) (wi : TI) : Prop :=
  ∀ (pins : List (Addr × Obj)) (s : Shared) (σ : St) (H : Hp) (R : It → Hp → Prop), Inv X pins σ H s → wi σ H R →
    wpAny (model X.prog X.w) X.A (eval iter X.env) (fun v s1 => wpAny (model X.prog X.w) X.A (pyIter v) (PIE X pins σ tg R) X.xe s1) X.xe s

/-- the step ahead of the store is nothing for an iterator that keeps no tuple -/
theorem go_of {M : Model} {A : Around} {E : Value → Shared → Prop} {s : Shared} {tg : Expr} {it : Addr} {u : Value} {o : Obj} {n : String} {vs : Array Value} {Q : Unit → Shared → Prop} (ho : s.heap.get? it = some o) (hc : o.cls = .type n) (hd : o.data = .fields vs)
    (hn : ["enumerate", "zip", "dict_itemiterator", "dict_reverseitemiterator", "odict_iterator", "itertools.zip_longest", "itertools.pairwise"].contains n = false) (hQ : Q () s) : wpAny M A (letOwnedTupleGo tg (.ref it) u) Q E s := by
  unfold letOwnedTupleGo
  cases tg <;> first
    | exact wpAny_pure hQ
    | (cases u <;> first
        | exact wpAny_pure hQ
        | (refine wpAny_bind (wpAny_load ho ?_)
           rw [hc, hd]
           show wpAny M A (if (["enumerate", "zip", "dict_itemiterator", "dict_reverseitemiterator", "odict_iterator", "itertools.zip_longest", "itertools.pairwise"].contains n && vs[0]? == some (rawInt _)) = true then _ else _) Q E s
           rw [if_neg (by intro h; rw [hn, Bool.false_and] at h; cases h)]
           exact wpAny_pure hQ))

/-- the list at a, as it stands at each turn (a loop may append to it) -/
noncomputable def Itl (K : PySem.W.Frag) (a : Addr) : It :=
  ⟨fun i H => ∃ xs x, SqL K H a xs ∧ xs[i]? = some x, fun i H x H' => H' = H ∧ ∀ xs, SqL K H a xs → xs[i]? = some x, fun i H => ∃ xs, SqL K H a xs ∧ xs.length ≤ i⟩
/-- lo, lo + 1, .. (n of them) -/
noncomputable def Itr (lo : Int) (n : Nat) : It := ⟨fun i _ => i < n, fun i H x H' => H' = H ∧ x = .int (lo + i), fun i _ => n ≤ i⟩
theorem turn_list {P : Program} {w : World} {K : PySem.W.Frag} {tg : Expr} (a it : Addr) : Turn P w K tg (Itl K a) [it] it (fun i h => h.IsListIter it a i) where
  mem := by simp
  obj := fun i h st b hb => by
    have e : b = it := by simpa using hb
    subst e
    obtain ⟨o, e, c, d⟩ := st
    exact ⟨o, e, fun v z => by rw [d] at z; cases z⟩
  keep := fun i h h' st k => st.at fun o e => k it (by simp) o e
  item := by
    intro X hP hw hK hc i pins s σ H E I hf st hg
    subst hP hw hK
    obtain ⟨xs, x, hq, hx⟩ := hg
    obtain ⟨its, rv, p, hz⟩ := I.list hq
    obtain ⟨u, hu, ru⟩ := rv.get hx
    obtain ⟨f0, f1, f2, f3, f4, f5⟩ := hf it (by simp)
    refine wpAny_pyNext_list_item st p.isList (x := u) (by simpa using hu) fun h' st' sb => ?_
    have I1 : Inv X pins σ H { s with heap := h' } := I.turned (t' := s.toks) (fun b o hb e => (sb.2 b hb).trans e) f0 f1 f3 f4 f5
    obtain ⟨o, e, c, d⟩ := id st'
    exact ⟨u, rfl, go_of (s := { s with heap := h' }) e c d (by decide) ⟨x, H, I1, ru, ⟨rfl, fun ys hy => by rw [I.list_inj hy hq]; exact hx⟩, st', fun b hb => (hf b hb).1⟩⟩
  done := by
    intro X hP hw hK hc i pins s σ H E I hf st hg
    subst hP hw hK
    obtain ⟨xs, hq, hx⟩ := hg
    obtain ⟨its, rv, p, hz⟩ := I.list hq
    obtain ⟨f0, f1, f2, f3, f4, f5⟩ := hf it (by simp)
    have hl := rv.length
    exact wpAny_pyNext_list_end (I.ok.hd hc) st p.isList (by simp; omega) fun h' eb => ⟨rfl, I.turned (t' := s.toks) (fun b o hb e => eb b o hb e) f0 f1 f3 f4 f5⟩
  self := fun _ _ _ _ _ st h => wpAny_pyIter_listiter st h
theorem turn_range {P : Program} {w : World} {K : PySem.W.Frag} {tg : Expr} (it : Addr) (lo : Int) (n : Nat) : Turn P w K tg (Itr lo n) [it] it (fun i h => IsRangeIter h it (lo + (i : Nat) * 1) ((n : Int) - (i : Nat)) 1) where
  mem := by simp
  obj := fun i h st b hb => by
    have e : b = it := by simpa using hb
    subst e
    exact ⟨_, st, fun v z => by
      have z' : Data.fields _ = Data.cell v := z
      cases z'⟩
  keep := fun i h h' st k => k it (by simp) _ st
  item := by
    intro X hP hw hK hc i pins s σ H E I hf st hg
    subst hP hw hK
    obtain ⟨f0, f1, f2, f3, f4, f5⟩ := hf it (by simp)
    have W := Walks.range (prog := X.prog) (w := X.w) (I.ok.hd hc) it lo 1 n
    refine W.item i s _ _ hg st fun v h' tk hv st' kk => ?_
    obtain ⟨t, rfl⟩ := hv
    have I1 : Inv X pins σ H { s with heap := h', toks := tk } := I.turned (fun b o hb e => kk b o (by simpa using hb) e) f0 f1 f3 f4 f5
    refine ⟨_, rfl, go_of (s := { s with heap := h', toks := tk }) (n := "range_iterator") st' rfl rfl (by decide) ⟨.int (lo + i), H, I1, ⟨t, ?_⟩, ⟨rfl, rfl⟩, st', fun b hb => (hf b hb).1⟩⟩
    rw [Int.mul_one]
  done := by
    intro X hP hw hK hc i pins s σ H E I hf st hg
    subst hP hw hK
    obtain ⟨f0, f1, f2, f3, f4, f5⟩ := hf it (by simp)
    exact wpAny_pyNext_range_end (I.ok.hd hc) st (by have : n ≤ i := hg; omega) fun h' eb => ⟨rfl, I.turned (t' := s.toks) (fun b o hb e => eb b o hb e) f0 f1 f3 f4 f5⟩
  self := fun _ _ _ _ _ st h => wpAny_pyIter_rangeiter st h
end L2

namespace L2
open PySem PySem.Spec PyProof.Rows
section
variable {X : Cx} {tg : Expr}
noncomputable def iList (K : PySem.W.Frag) (tl : TE) : TI := fun σ H R => tl σ H fun x H1 => ∃ a, x = .ref a ∧ (∃ xs, SqL K H1 a xs) ∧ R (Itl K a) H1
theorem pi_list {l : Expr} {tl : TE} (hl : PE X l tl) : PI X tg l (iList X.K tl) := by
  intro pins s σ H R I h
  refine thn (hl pins s σ H _ I h) fun v s1 ⟨x, H1, I1, r1, q1⟩ => ?_
  obtain ⟨a, e, ⟨xs, hq⟩, q⟩ := q1
  subst e
  cases r1
  obtain ⟨its, rv, p, hz⟩ := I1.list hq
  refine wpAny_pyIter_list p.isList ?_
  refine ⟨s1.heap.objs.size, [s1.heap.objs.size], _, _, H1, rfl, I1.kept (t' := s1.toks) fun b o e => Heap.get?_push_of_some _ e, turn_list a _, ⟨_, Heap.get?_push_size _ rfl, rfl, rfl⟩, fun b hb => ?_, q⟩
  have e : b = s1.heap.objs.size := by simpa using hb
  subst e
  exact I1.fpOk (Nat.le_refl _) (I1.hok.fresh (Nat.le_refl _))
/-- a range object just made, walked -/
theorem range_it {pins : List (Addr × Obj)} {σ : St} {H : Hp} {s : Shared} {R : It → Hp → Prop} {E : Value → Shared → Prop} {lo hi : Int} {t u v : Tok} {tk : Nat} (I : Inv X pins σ H s) (h1 : -(2 ^ 62) ≤ lo) (h2 : lo < 2 ^ 62) (h3 : -(2 ^ 62) ≤ hi) (h4 : hi < 2 ^ 62)
    (q : R (Itr lo (hi - lo).toNat) H) : wpAny (model X.prog X.w) X.A (pyIter (.ref s.heap.objs.size)) (PIE X pins σ tg R) E { s with heap := s.heap.push { cls := .type "range", data := .fields #[.int lo t, .int hi u, .int 1 v] }, toks := tk } := by
  refine wpAny_pyIter_range (IsRange.new ..) (small_one h1 h2 h3 h4) ?_
  have I1 : Inv X pins σ H { s with heap := s.heap.push { cls := .type "range", data := .fields #[.int lo t, .int hi u, .int 1 v] }, toks := tk } := I.kept fun b o e => Heap.get?_push_of_some _ e
  refine ⟨(s.heap.push { cls := .type "range", data := .fields #[.int lo t, .int hi u, .int 1 v] }).objs.size, [(s.heap.push { cls := .type "range", data := .fields #[.int lo t, .int hi u, .int 1 v] }).objs.size], _, _, H, rfl,
    I1.kept (t' := tk) fun b o e => Heap.get?_push_of_some _ e, turn_range _ lo (hi - lo).toNat, ?_, fun b hb => ?_, q⟩
  · have e1 : lo + ((0 : Nat) : Int) * 1 = lo := by simp
    have e2 : (((hi - lo).toNat : Nat) : Int) - ((0 : Nat) : Int) = Builtin.Range.rangeSize lo hi 1 := by rw [rangeSize_one]; split <;> omega
    show IsRangeIter _ _ (lo + ((0 : Nat) : Int) * 1) ((((hi - lo).toNat : Nat) : Int) - ((0 : Nat) : Int)) 1
    rw [e1, e2]
    exact Heap.get?_push_size _ rfl
  · have e : b = (s.heap.push { cls := .type "range", data := .fields #[.int lo t, .int hi u, .int 1 v] }).objs.size := by simpa using hb
    subst e
    exact I1.fpOk (Nat.le_refl _) (I1.hok.fresh (Nat.le_refl _))
noncomputable def iRng1 (ta : TA) : TI := fun σ H R => ta σ H fun vs H1 => ∃ j : Int, vs = [.int j] ∧ -(2 ^ 62) ≤ j ∧ j < 2 ^ 62 ∧ R (Itr 0 j.toNat) H1
theorem pi_range1 {a : Expr} {ta : TA} {p pos : Pos} (hg : Gl X "range") (hm : X.mg "range" = none) (ha : PA X [a] ta) (hs : starEach [a] X.env = [(false, eval a X.env)] := by rfl) : PI X tg (.Call (.Name "range" p) [a] [] pos) (iRng1 ta) := by
  intro pins s σ H R I h
  refine Call_ (ld_blt I hg hm boot_range (PyProof.Rows.callWith_type1 (thn (ha pos pins s σ H _ I h) fun us s1 ⟨vs, H1, I1, r1, q1⟩ => ?_) hs rfl))
  obtain ⟨j, e, q1, q2, q⟩ := q1
  subst e
  cases r1 with
  | cons r rr =>
    cases rr
    obtain ⟨t, rfl⟩ := r
    exact call_range_1 (range_it I1 (by omega) (by omega) q1 q2 (by simpa using q))
/-! ### for -/
/-- W: the invariant by the turn and a measure; N: what the body is to reach -/
noncomputable def tFor (wi : TI) (g : TG) (tb : TS) : TS := fun D σ H => wi σ H fun J H1 => ∃ W : Nat → Nat → St → Hp → Prop, (∃ m, W 0 m σ H1) ∧ ∀ i m σ H, W i m σ H →
  (J.stop i H ∧ D.nx σ H) ∨ (J.go i H ∧ ∃ N : St → Hp → Prop, (∀ σ' H', N σ' H' → ∃ m', m' < m ∧ W (i + 1) m' σ' H') ∧ ∀ x H', J.yld i H x H' → g x σ H' fun σ2 H2 => tb { D with nx := N, ct := N, bk := D.nx } σ2 H2)
/-- the records at fp as they stand -/
noncomputable def pinsAt (fp : List Addr) (h : Heap) : List (Addr × Obj) := fp.filterMap fun b => (h.get? b).map fun o => (b, o)
theorem mem_pinsAt {fp : List Addr} {h : Heap} {b : Addr} {o : Obj} (hb : b ∈ fp) (e : h.get? b = some o) : (b, o) ∈ pinsAt fp h := List.mem_filterMap.mpr ⟨b, hb, by rw [e]; rfl⟩
theorem of_pinsAt {fp : List Addr} {h : Heap} {p : Addr × Obj} (hp : p ∈ pinsAt fp h) : p.1 ∈ fp ∧ h.get? p.1 = some p.2 := by
  obtain ⟨b, hb, e⟩ := List.mem_filterMap.mp hp
  cases q : h.get? b with
  | none => rw [q] at e; cases e
  | some o =>
    rw [q] at e
    have e' : (b, o) = p := Option.some.inj e
    subst e'
    exact ⟨hb, q⟩
theorem Inv.pinned {pins : List (Addr × Obj)} {σ : St} {H : Hp} {s : Shared} {fp : List Addr} (I : Inv X pins σ H s) (hf : ∀ b ∈ fp, FpOk X pins H b) (ho : ∀ b ∈ fp, ∃ o, s.heap.get? b = some o ∧ ∀ v, o.data ≠ .cell v) : Inv X (pins ++ pinsAt fp s.heap) σ H s :=
  I.pins_of fun p hp => (List.mem_append.mp hp).elim (fun z => I.pin p (List.mem_append_right _ z)) fun z => by
    obtain ⟨hb, e⟩ := of_pinsAt z
    obtain ⟨f0, f1, f2, _⟩ := hf p.1 hb
    obtain ⟨o, e', d⟩ := ho p.1 hb
    rw [e] at e'; cases e'
    exact ⟨e, f0, f1, f2, d⟩
theorem Inv.unpinned {pins pl : List (Addr × Obj)} {σ : St} {H : Hp} {s : Shared} (I : Inv X (pins ++ pl) σ H s) : Inv X pins σ H s := I.pins_of fun p hp => I.pin p (List.mem_append_right _ (List.mem_append_left _ hp))
theorem ps_for {iter : Expr} {body : List Stmt} {wi : TI} {g : TG} {tb : TS} {pos : Pos} (hp : PassesOwn (model X.prog X.w) X.A X.env X.xe) (hc : X.calm = true) (hi : PI X tg iter wi) (hg : PG X tg g) (hb : PSs X body tb)
    (hs : ∀ x, foldedSetIterable iter X.env x = pure x := by intro _; rfl) : PS X (.For tg iter body [] pos) (tFor wi g tb) := by
  intro pins s σ H D I h
  refine wpAny_For (thn (hi pins s σ H _ I h) fun v s1 h1 => thn h1 fun itv s2 h2 => ?_) hs
  obtain ⟨it, fp, tn, J, H2, e, I2, T, st2, f2, W, ⟨m0, w0⟩, turn⟩ := h2
  subst e
  -- what stays true of the iterator's objects through the loop
  have stat : ∀ {H' : Hp}, (∀ b ∈ fp, H' b = none) → ∀ b ∈ fp, FpOk X pins H' b := fun hn b hb => ⟨hn b hb, (f2 b hb).2⟩
  refine codeAny_forLoop_any (fun n s' => ∃ i σ' H', Inv X pins σ' H' s' ∧ tn i s'.heap ∧ (∀ b ∈ fp, H' b = none) ∧ W i n σ' H') ?_ m0 ⟨0, σ, H2, I2, st2, fun b hb => (f2 b hb).1, w0⟩
  rintro n s3 ⟨i, σ3, H3, I3, st3, fr3, w3⟩
  rcases turn i n σ3 H3 w3 with ⟨stop, qn⟩ | ⟨go, N, hN, step⟩
  · refine wpAny_passesOwn hp (thn (T.done X rfl rfl rfl hc i pins s3 σ3 H3 X.xe I3 (stat fr3) st3 stop) fun r s4 ⟨hr, I4⟩ => ?_)
    subst hr
    exact wpAny_execs_nil ⟨σ3, H3, I4, qn⟩
  · refine wpAny_passesOwn hp (thn (T.item X rfl rfl rfl hc i pins s3 σ3 H3 X.xe I3 (stat fr3) st3 go) fun r s4 ⟨u, hr, h4⟩ => ?_)
    subst hr
    refine wpAny_passesOwn hp (thn h4 fun _ s5 ⟨x, H5, I5, r5, y5, st5, fr5⟩ => ?_)
    have I5' := I5.pinned (stat fr5) (T.obj _ _ st5)
    refine wpAny_passesOwn hp (thn (hg _ s5 σ3 H5 x u _ I5' r5 (step x H5 y5)) fun _ s6 ⟨σ6, H6, I6, q6⟩ => ?_)
    refine wpAny_passesOwn hp (thn (hb _ s6 σ6 H6 _ I6 q6) fun f s7 q7 => ?_)
    have again : ∀ {σ7 : St} {H7 : Hp}, Inv X (pins ++ pinsAt fp s5.heap) σ7 H7 s7 → N σ7 H7 → ∃ m, m < n ∧ ∃ i σ' H', Inv X pins σ' H' s7 ∧ tn i s7.heap ∧ (∀ b ∈ fp, H' b = none) ∧ W i m σ' H' := fun {σ7 H7} I7 n7 => by
      obtain ⟨m', hm, w7⟩ := hN σ7 H7 n7
      refine ⟨m', hm, i + 1, σ7, H7, I7.unpinned, T.keep _ _ _ st5 fun b hb o e => (I7.pin (b, o) (List.mem_append_right _ (List.mem_append_right _ (mem_pinsAt hb e)))).1, fun b hb => ?_, w7⟩
      obtain ⟨o, e, d⟩ := T.obj _ _ st5 b hb
      exact (I7.pin (b, o) (List.mem_append_right _ (List.mem_append_right _ (mem_pinsAt hb e)))).2.1
    cases f with
    | next => obtain ⟨σ7, H7, I7, n7⟩ := q7; exact again I7 n7
    | cont => obtain ⟨σ7, H7, I7, n7⟩ := q7; exact again I7 n7
    | brk => obtain ⟨σ7, H7, I7, q7⟩ := q7; exact ⟨σ7, H7, I7.unpinned, q7⟩
    | ret v => obtain ⟨x7, σ7, H7, I7, r7, q7⟩ := q7; exact ⟨x7, σ7, H7, I7.unpinned, r7, q7⟩
end

/-! ### the forms one uses -/
end L2

namespace L2
open PySem PySem.Spec PyProof.Rows

noncomputable abbrev R2 := V → V → Hp → VK → Prop
/-- a two-place operation on values: f is binaryOp op, inplaceOp op or compareOp op -/
noncomputable def OpR (X : Cx) (f : Value → Value → Sem Value) (r : R2) : Prop :=
  ∀ (pins : List (Addr × Obj)) (s : Shared) (σ : St) (H : Hp) (x y : V) (v u : Value) (Q : VK), Inv X pins σ H s → RelV x v → RelV y u → r x y H Q →
    wpAny (model X.prog X.w) X.A (f v u) (EP X pins σ Q) X.xe s
/-- a one-place operation -/
noncomputable def UnR (X : Cx) (f : Value → Sem Value) (r : V → Hp → VK → Prop) : Prop :=
  ∀ (pins : List (Addr × Obj)) (s : Shared) (σ : St) (H : Hp) (x : V) (v : Value) (Q : VK), Inv X pins σ H s → RelV x v → r x H Q →
    wpAny (model X.prog X.w) X.A (f v) (EP X pins σ Q) X.xe s
/-- a call of a value that is known (a builtin, a type) with values -/
noncomputable def CallR (X : Cx) (f : Value) (r : List V → Hp → VK → Prop) : Prop :=
  ∀ (pins : List (Addr × Obj)) (s : Shared) (σ : St) (H : Hp) (xs : List V) (us : List Value) (Q : VK), Inv X pins σ H s → Vals xs us → r xs H Q →
    wpAny (model X.prog X.w) X.A (call f us) (EP X pins σ Q) X.xe s
/-- a value's truth -/
noncomputable def TruR (X : Cx) (r : V → Hp → (Bool → Hp → Prop) → Prop) : Prop :=
  ∀ (pins : List (Addr × Obj)) (s : Shared) (σ : St) (H : Hp) (x : V) (v : Value) (Q : Bool → Hp → Prop), Inv X pins σ H s → RelV x v → r x H Q →
    wpAny (model X.prog X.w) X.A (truthy v) (TP X pins σ Q) X.xe s

noncomputable def tOp (r : R2) (ta tb : TE) : TE := fun σ H Q => ta σ H fun x H1 => tb σ H1 fun y H2 => r x y H2 Q
noncomputable def tUn (r : V → Hp → VK → Prop) (ta : TE) : TE := fun σ H Q => ta σ H fun x H1 => r x H1 Q
/-- ints in, under C, and a value out -/
noncomputable def rI (C : Int → Int → Prop) (g : Int → Int → V) : R2 := fun x y H Q => ∃ i j, x = .int i ∧ y = .int j ∧ C i j ∧ Q (g i j) H
noncomputable def rI0 (g : Int → Int → V) : R2 := fun x y H Q => ∃ i j, x = .int i ∧ y = .int j ∧ Q (g i j) H
noncomputable def rU (g : Int → V) : V → Hp → VK → Prop := fun x H Q => ∃ i, x = .int i ∧ Q (g i) H

section
variable {X : Cx} {a b c : Expr} {ta tb tc : TE} {pos : Pos}

theorem binT (ha : PE X a ta) (hb : PE X b tb) {pins : List (Addr × Obj)} {s : Shared} {σ : St} {H : Hp} {R : V → V → Hp → Prop} (I : Inv X pins σ H s)
    (h : ta σ H fun x H1 => tb σ H1 fun y H2 => R x y H2) {Q : Value → Shared → Prop} {f : Value → Value → Sem Value}
    (hf : ∀ v u s2 x y H2, Inv X pins σ H2 s2 → RelV x v → RelV y u → R x y H2 → wpAny (model X.prog X.w) X.A (f v u) Q X.xe s2) :
    wpAny (model X.prog X.w) X.A (eval a X.env) (fun v s₁ => wpAny (model X.prog X.w) X.A (eval b X.env) (fun u s₂ => wpAny (model X.prog X.w) X.A (f v u) Q X.xe s₂) X.xe s₁) X.xe s := by
  refine thn (ha pins s σ H _ I h) fun v s1 ⟨x, H1, I1, r1, q1⟩ => ?_
  refine thn (hb pins s1 σ H1 _ I1 q1) fun u s2 ⟨y, H2, I2, r2, q2⟩ => ?_
  exact hf v u s2 x y H2 I2 r1 r2 q2

theorem pe_op {op : Operator} {r : R2} (ho : OpR X (binaryOp op) r) (ha : PE X a ta) (hb : PE X b tb) : PE X (.BinOp a op b pos) (tOp r ta tb) := by
  intro pins s σ H Q I h
  exact wpAny_BinOp (binT ha hb I h fun v u s2 x y H2 I2 rx ry q => ho pins s2 σ H2 x y v u Q I2 rx ry q)
theorem pe_un {op : UnaryOp} {r : V → Hp → VK → Prop} (ho : UnR X (unaryOp op) r) (ha : PE X a ta) : PE X (.UnaryOp op a pos) (tUn r ta) := by
  intro pins s σ H Q I h
  exact UnaryOp_ (thn (ha pins s σ H _ I h) fun v s1 ⟨x, H1, I1, r1, q1⟩ => ho pins s1 σ H1 x v Q I1 r1 q1)
/-! ### ints -/
theorem opI {f : Value → Value → Sem Value} {C : Int → Int → Prop} {g : Int → Int → Int}
    (rule : ∀ (i j : Int) (t u : Tok) (s : Shared) (Q : Value → Shared → Prop) (E : Value → Shared → Prop), C i j → Q (.int (g i j) s.toks) { s with toks := s.toks + 1 } → wpAny (model X.prog X.w) X.A (f (.int i t) (.int j u)) Q E s) :
    OpR X f (rI C fun i j => .int (g i j)) := by
  intro pins s σ H x y v u Q I rx ry h
  obtain ⟨i, j, rfl, rfl, hc, q⟩ := h
  obtain ⟨t, rfl⟩ := rx
  obtain ⟨t', rfl⟩ := ry
  exact rule i j t t' s _ _ hc ⟨.int (g i j), H, I.tok _, ⟨_, rfl⟩, q⟩
theorem opI0 {f : Value → Value → Sem Value} {g : Int → Int → Int}
    (rule : ∀ (i j : Int) (t u : Tok) (s : Shared) (Q : Value → Shared → Prop) (E : Value → Shared → Prop), Q (.int (g i j) s.toks) { s with toks := s.toks + 1 } → wpAny (model X.prog X.w) X.A (f (.int i t) (.int j u)) Q E s) :
    OpR X f (rI0 fun i j => .int (g i j)) := by
  intro pins s σ H x y v u Q I rx ry h
  obtain ⟨i, j, rfl, rfl, q⟩ := h
  obtain ⟨t, rfl⟩ := rx
  obtain ⟨t', rfl⟩ := ry
  exact rule i j t t' s _ _ ⟨.int (g i j), H, I.tok _, ⟨_, rfl⟩, q⟩
theorem opB0 {f : Value → Value → Sem Value} {g : Int → Int → Bool}
    (rule : ∀ (i j : Int) (t u : Tok) (s : Shared) (Q : Value → Shared → Prop) (E : Value → Shared → Prop), Q (.bool (g i j)) s → wpAny (model X.prog X.w) X.A (f (.int i t) (.int j u)) Q E s) :
    OpR X f (rI0 fun i j => .bl (g i j)) := by
  intro pins s σ H x y v u Q I rx ry h
  obtain ⟨i, j, rfl, rfl, q⟩ := h
  obtain ⟨t, rfl⟩ := rx
  obtain ⟨t', rfl⟩ := ry
  exact rule i j t t' s _ _ ⟨.bl (g i j), H, I, rfl, q⟩

noncomputable def CDiv (i j : Int) : Prop := 0 < j ∧ j < 1073741824
noncomputable def CPow (i j : Int) : Prop := 0 ≤ j ∧ j ≤ 1000000 ∧ i.natAbs < 2 ^ 64
noncomputable def CMul (i j : Int) : Prop := (-(2 ^ 64) < i ∧ i < 2 ^ 64) ∨ (-(2 ^ 64) < j ∧ j < 2 ^ 64)
theorem CMul.ok {i j : Int} (h : CMul i j) : IntMulOk i j := by
  rcases h with ⟨h1, h2⟩ | ⟨h1, h2⟩
  · exact .of_left (intBits_le_64 h1 h2)
  · exact .of_right (intBits_le_64 h1 h2)
theorem op_add : OpR X (binaryOp .Add) (rI0 fun i j => .int (i + j)) := opI0 fun _ _ _ _ _ _ _ q => add_int q
theorem op_sub : OpR X (binaryOp .Sub) (rI0 fun i j => .int (i - j)) := opI0 fun _ _ _ _ _ _ _ q => sub_int q
/-- // by a positive divisor -/
theorem op_fdiv : OpR X (binaryOp .FloorDiv) (rI CDiv fun i j => .int (i / j)) := opI fun i j _ _ _ _ _ hc q => by
  have h1 : (0 : Int) < j := hc.1
  have h2 : j < 1073741824 := hc.2
  exact floordiv_int (by omega) (by rw [Int.fdiv_eq_ediv_of_nonneg i (by omega)]; exact q) (.inl (PyProof.noPylong_small (by omega)))
/-- % by a positive divisor of any size -/
theorem op_mod : OpR X (binaryOp .Mod) (rI (fun _ j => 0 < j) fun i j => .int (i % j)) := opI fun i j _ _ _ _ _ hc q => by
  have h1 : (0 : Int) < j := hc
  exact mod_int' (by omega) (by rw [Int.fmod_eq_emod_of_nonneg i (by omega)]; exact q)
theorem op_pow : OpR X (binaryOp .Pow) (rI CPow fun i j => .int (i ^ j.toNat)) := opI fun _ _ _ _ _ _ _ hc q => pow_int_small hc.1 hc.2.1 hc.2.2 q
theorem unI {f : Value → Sem Value} {g : Int → Int}
    (rule : ∀ (i : Int) (t : Tok) (s : Shared) (Q : Value → Shared → Prop) (E : Value → Shared → Prop), Q (.int (g i) s.toks) { s with toks := s.toks + 1 } → wpAny (model X.prog X.w) X.A (f (.int i t)) Q E s) :
    UnR X f (rU fun i => .int (g i)) := by
  intro pins s σ H x v Q I rx h
  obtain ⟨i, rfl, q⟩ := h
  obtain ⟨t, rfl⟩ := rx
  exact rule i t s _ _ ⟨.int (g i), H, I.tok _, ⟨_, rfl⟩, q⟩
theorem un_neg : UnR X (unaryOp .USub) (rU fun i => .int (-i)) := unI fun _ _ _ _ _ q => neg_int q
/-! ### bools among ints: n += (a < b) -/
end

/-! ### comparisons -/
/-- the scalars that == tells apart as data does -/
noncomputable def scal : V → V → Bool
  | .non, .non => true | .non, .int _ => true | .int _, .non => true | .non, .bl _ => true | .bl _, .non => true | .non, .str _ => true | .str _, .non => true
  | .int _, .int _ => true | .bl _, .bl _ => true | .str _, .str _ => true | .byt _, .byt _ => true
  | .int _, .str _ => true | .str _, .int _ => true | .bl _, .str _ => true | .str _, .bl _ => true
  | _, _ => false
noncomputable def rEq : R2 := fun x y H Q => scal x y = true ∧ Q (.bl (decide (x = y))) H
noncomputable def rNe : R2 := fun x y H Q => scal x y = true ∧ Q (.bl (!decide (x = y))) H

theorem dec_int {i j : Int} : decide (V.int i = V.int j) = (i == j) := by
  rw [Bool.eq_iff_iff]
  simp
theorem dec_bl {i j : Bool} : decide (V.bl i = V.bl j) = (i == j) := by
  rw [Bool.eq_iff_iff]
  simp
theorem dec_str {i j : Str} : decide (V.str i = V.str j) = (i == j) := by
  rw [Bool.eq_iff_iff]
  simp
theorem dec_byt {i j : Array UInt8} : decide (V.byt i = V.byt j) = (i.toList == j.toList) := by
  rw [Bool.eq_iff_iff]
  cases i
  cases j
  simp

section
variable {X : Cx} {a b c : Expr} {ta tb tc : TE} {pos : Pos}
theorem fin_bl {pins : List (Addr × Obj)} {σ : St} {H : Hp} {s : Shared} {Q : VK} {k k' : Bool} (I : Inv X pins σ H s) (q : Q (.bl k) H) (e : k = k') : EP X pins σ Q (.bool k') s := by
  subst e
  exact ⟨.bl k, H, I, rfl, q⟩
theorem op_eq : OpR X (compareOp .Eq) rEq := by
  intro pins s σ H x y v u Q I rx ry h
  obtain ⟨hs, q⟩ := h
  cases x with
  | non =>
    cases rx
    cases y with
    | non => cases ry; exact PySem.EqNone.eq_none_none (fin_bl I q (by simp))
    | bl j => cases ry; exact PySem.EqNone.eq_none_bool (fin_bl I q (by simp))
    | int j => obtain ⟨t', rfl⟩ := ry; exact PySem.EqNone.eq_none_int (fin_bl I q (by simp))
    | str j => obtain ⟨t', rfl⟩ := ry; exact PySem.EqNone.eq_none_str (fin_bl I q (by simp))
    | _ => exact absurd (show false = true from hs) Bool.false_ne_true
  | bl i =>
    cases rx
    cases y with
    | non => cases ry; exact PySem.EqNone.eq_bool_none (fin_bl I q (by simp))
    | bl j => cases ry; exact eq_bool (fin_bl I q dec_bl)
    | str j => obtain ⟨t', rfl⟩ := ry; exact PySem.EqMixed.eq_bool_str (fin_bl I q (by simp))
    | _ => exact absurd (show false = true from hs) Bool.false_ne_true
  | int i =>
    obtain ⟨t, rfl⟩ := rx
    cases y with
    | non => cases ry; exact PySem.EqNone.eq_int_none (fin_bl I q (by simp))
    | int j => obtain ⟨t', rfl⟩ := ry; exact eq_int (fin_bl I q dec_int)
    | str j => obtain ⟨t', rfl⟩ := ry; exact PySem.EqMixed.eq_int_str (fin_bl I q (by simp))
    | _ => exact absurd (show false = true from hs) Bool.false_ne_true
  | str i =>
    obtain ⟨t, rfl⟩ := rx
    cases y with
    | non => cases ry; exact PySem.EqNone.eq_str_none (fin_bl I q (by simp))
    | bl j => cases ry; exact PySem.EqMixed.eq_str_bool (fin_bl I q (by simp))
    | int j => obtain ⟨t', rfl⟩ := ry; exact PySem.EqMixed.eq_str_int (fin_bl I q (by simp))
    | str j => obtain ⟨t', rfl⟩ := ry; exact eq_str (fin_bl I q dec_str)
    | _ => exact absurd (show false = true from hs) Bool.false_ne_true
  | byt i =>
    obtain ⟨t, rfl⟩ := rx
    cases y with
    | byt j => obtain ⟨t', rfl⟩ := ry; exact PySem.W.eq_bytes (fin_bl I q dec_byt)
    | _ => exact absurd (show false = true from hs) Bool.false_ne_true
  | _ => cases y <;> exact absurd (show false = true from hs) Bool.false_ne_true
theorem op_ne : OpR X (compareOp .NotEq) rNe := by
  intro pins s σ H x y v u Q I rx ry h
  obtain ⟨hs, q⟩ := h
  cases x with
  | non =>
    cases rx
    cases y with
    | non => cases ry; exact PySem.EqNone.ne_none_none (fin_bl I q (by simp))
    | bl j => cases ry; exact PySem.EqNone.ne_none_bool (fin_bl I q (by simp))
    | int j => obtain ⟨t', rfl⟩ := ry; exact PySem.EqNone.ne_none_int (fin_bl I q (by simp))
    | str j => obtain ⟨t', rfl⟩ := ry; exact PySem.EqNone.ne_none_str (fin_bl I q (by simp))
    | _ => exact absurd (show false = true from hs) Bool.false_ne_true
  | bl i =>
    cases rx
    cases y with
    | non => cases ry; exact PySem.EqNone.ne_bool_none (fin_bl I q (by simp))
    | bl j => cases ry; exact ne_bool (fin_bl I q (congrArg not dec_bl))
    | str j => obtain ⟨t', rfl⟩ := ry; exact PySem.EqMixed.ne_bool_str (fin_bl I q (by simp))
    | _ => exact absurd (show false = true from hs) Bool.false_ne_true
  | int i =>
    obtain ⟨t, rfl⟩ := rx
    cases y with
    | non => cases ry; exact PySem.EqNone.ne_int_none (fin_bl I q (by simp))
    | int j => obtain ⟨t', rfl⟩ := ry; exact ne_int (fin_bl I q (congrArg not dec_int))
    | str j => obtain ⟨t', rfl⟩ := ry; exact PySem.EqMixed.ne_int_str (fin_bl I q (by simp))
    | _ => exact absurd (show false = true from hs) Bool.false_ne_true
  | str i =>
    obtain ⟨t, rfl⟩ := rx
    cases y with
    | non => cases ry; exact PySem.EqNone.ne_str_none (fin_bl I q (by simp))
    | bl j => cases ry; exact PySem.EqMixed.ne_str_bool (fin_bl I q (by simp))
    | int j => obtain ⟨t', rfl⟩ := ry; exact PySem.EqMixed.ne_str_int (fin_bl I q (by simp))
    | str j => obtain ⟨t', rfl⟩ := ry; exact ne_str (fin_bl I q (congrArg not dec_str))
    | _ => exact absurd (show false = true from hs) Bool.false_ne_true
  | byt i =>
    obtain ⟨t, rfl⟩ := rx
    cases y with
    | byt j => obtain ⟨t', rfl⟩ := ry; exact PySem.W.ne_bytes (fin_bl I q (congrArg not dec_byt))
    | _ => exact absurd (show false = true from hs) Bool.false_ne_true
  | _ => cases y <;> exact absurd (show false = true from hs) Bool.false_ne_true

theorem op_lt : OpR X (compareOp .Lt) (rI0 fun i j => .bl (decide (i < j))) := opB0 fun _ _ _ _ _ _ _ q => lt_int q
theorem op_le : OpR X (compareOp .LtE) (rI0 fun i j => .bl (decide (i ≤ j))) := opB0 fun _ _ _ _ _ _ _ q => le_int q
theorem op_gt : OpR X (compareOp .Gt) (rI0 fun i j => .bl (decide (j < i))) := opB0 fun _ _ _ _ _ _ _ q => gt_int q
theorem op_ge : OpR X (compareOp .GtE) (rI0 fun i j => .bl (decide (j ≤ i))) := opB0 fun _ _ _ _ _ _ _ q => ge_int q
/-- the one string within the other -/
theorem op_in_str : OpR X (compareOp .In) (fun x y H Q => ∃ i j, x = .str i ∧ y = .str j ∧ Q (.bl (!(Builtin.Str.occurrences j i 0 j.length 1).isEmpty)) H) := by
  intro pins s σ H x y v u Q I rx ry h
  obtain ⟨i, j, rfl, rfl, q⟩ := h
  obtain ⟨t, rfl⟩ := rx
  obtain ⟨t', rfl⟩ := ry
  exact in_str (fin_bl I q rfl)

/-- is None, is not None: the right side a value none -/
theorem op_isN : OpR X (compareOp .Is) (fun x y H Q => y = .non ∧ Q (.bl (decide (x = .non))) H) := by
  intro pins s σ H x y v u Q I rx ry h
  obtain ⟨rfl, q⟩ := h
  cases ry
  refine is_none_gen (fin_bl I q ?_)
  cases x <;> first
    | (cases rx; rfl)
    | (obtain ⟨t, rfl⟩ := rx; rfl)
theorem op_notN : OpR X (compareOp .IsNot) (fun x y H Q => y = .non ∧ Q (.bl (!decide (x = .non))) H) := by
  intro pins s σ H x y v u Q I rx ry h
  obtain ⟨rfl, q⟩ := h
  cases ry
  refine isnot_none_gen (fin_bl I q ?_)
  cases x <;> first
    | (cases rx; rfl)
    | (obtain ⟨t, rfl⟩ := rx; rfl)

theorem op_notin_str : OpR X (compareOp .NotIn) (fun x y H Q => ∃ i j, x = .str i ∧ y = .str j ∧ Q (.bl (!(!(Builtin.Str.occurrences j i 0 j.length 1).isEmpty))) H) := by
  intro pins s σ H x y v u Q I rx ry h
  obtain ⟨i, j, rfl, rfl, q⟩ := h
  obtain ⟨t, rfl⟩ := rx
  obtain ⟨t', rfl⟩ := ry
  exact notIn_str (fin_bl I q rfl)
/-- two rules for one operation: by cases -/
theorem OpR.or {f : Value → Value → Sem Value} {r r' : R2} (h : OpR X f r) (h' : OpR X f r') : OpR X f (fun x y H Q => r x y H Q ∨ r' x y H Q) := by
  intro pins s σ H x y v u Q I rx ry q
  rcases q with q | q
  · exact h pins s σ H x y v u Q I rx ry q
  · exact h' pins s σ H x y v u Q I rx ry q

/-- a comparison as a value; hm: nomark b, or (for in, not in) by with_unfolding_all rfl -/
theorem pe_cmpR {op : CmpOp} {r : R2} (ho : OpR X (compareOp op) r) (ha : PE X a ta) (hb : PE X b tb) (hm : behindInMarks op b = false) : PE X (.Compare a [op] [b] pos) (tOp r ta tb) := by
  intro pins s σ H Q I h
  exact wpAny_Compare1 (binT ha hb I h fun v u s2 x y H2 I2 rx ry q => ho pins s2 σ H2 x y v u Q I2 rx ry q) hm
/-- a reading of a value as a test -/
noncomputable def tTest (t : TE) : TT := fun σ H Q => t σ H fun x H' => ∃ k, x = .bl k ∧ Q k H'
theorem pt_cmpR {op : CmpOp} {r : R2} (ho : OpR X (compareOp op) r) (ha : PE X a ta) (hb : PE X b tb) (hm : behindInMarks op b = false) : PT X (.Compare a [op] [b] pos) (tTest (tOp r ta tb)) := by
  intro pins s σ H Q I h
  refine wpAny_isTrue_Compare1 (thn (ha pins s σ H _ I h) fun v s1 ⟨x, H1, I1, r1, q1⟩ => thn (hb pins s1 σ H1 _ I1 q1) fun u s2 ⟨y, H2, I2, r2, q2⟩ =>
    thn (ho pins s2 σ H2 x y v u _ I2 r1 r2 q2) fun c s3 ⟨z, H3, I3, r3, k, e, q3⟩ => ?_) hm
  subst e
  cases r3
  exact wpAny_truthy_bool ⟨H3, I3, q3⟩
/-! ### truth -/
/-- a value's truth by the abstract heap -/
noncomputable def TruV (K : PySem.W.Frag) (x : V) (H : Hp) (k : Bool) : Prop :=
  match x with
  | .non => k = false
  | .bl b => k = b
  | .int i => k = (i != 0)
  | .str y => y.length ≤ sizeLine ∧ k = ((y.length : Int) != 0)
  | .byt y => y.size ≤ sizeLine ∧ k = ((y.size : Int) != 0)
  | .ref p => (∃ xs, SqL K H p xs ∧ k = !xs.isEmpty) ∨ (∃ xs, SqT K H p xs ∧ k = !xs.isEmpty) ∨ ∃ kvs, H p = some (.dK kvs) ∧ k = !kvs.isEmpty
  | _ => False
theorem isEmpty_kv {κ : Type} {kvs : List (κ × V)} {vs : List (κ × Value)} (r : KV kvs vs) : (!vs.isEmpty) = !kvs.isEmpty := by
  cases r <;> rfl
theorem isEmpty_of {xs : List V} {its : List Value} (r : Vals xs its) : (!its.toArray.isEmpty) = !xs.isEmpty := by
  cases r <;> simp
theorem line63 : (sizeLine : Nat) < 2 ^ 63 := by rw [sizeLine_eq]; decide
theorem tru_ok : TruR X (fun x H Q => ∃ k, TruV X.K x H k ∧ Q k H) := by
  intro pins s σ H x v Q I rx h
  obtain ⟨k, e, q⟩ := h
  have hl := line63
  have hs : sizeLine = 16777216 := sizeLine_eq
  cases x with
  | non =>
    cases rx
    have e' : k = false := e
    subst e'
    exact truthy_none ⟨H, I, q⟩
  | bl b =>
    cases rx
    have e' : k = b := e
    subst e'
    exact wpAny_truthy_bool ⟨H, I, q⟩
  | int i =>
    obtain ⟨t, rfl⟩ := rx
    have e' : k = (i != 0) := e
    subst e'
    exact PySem.P.truthy_int ⟨H, I, q⟩
  | str y =>
    obtain ⟨t, rfl⟩ := rx
    obtain ⟨hy, e'⟩ : y.length ≤ sizeLine ∧ k = ((y.length : Int) != 0) := e
    subst e'
    exact PySem.P.truthy_str (by omega) ⟨H, I.tok _, q⟩
  | byt y =>
    obtain ⟨t, rfl⟩ := rx
    obtain ⟨hy, e'⟩ : y.size ≤ sizeLine ∧ k = ((y.size : Int) != 0) := e
    subst e'
    exact PySem.W.truthy_bytes (by omega) ⟨H, I.tok _, q⟩
  | ref p =>
    cases rx
    have e' : (∃ xs, SqL X.K H p xs ∧ k = !xs.isEmpty) ∨ (∃ xs, SqT X.K H p xs ∧ k = !xs.isEmpty) ∨ ∃ kvs, H p = some (.dK kvs) ∧ k = !kvs.isEmpty := e
    rcases e' with ⟨xs, hx, e'⟩ | ⟨xs, hx, e'⟩ | ⟨kvs, hx, e'⟩
    · subst e'
      obtain ⟨its, r, pl, hz⟩ := I.list hx
      have hlen := r.length
      exact wpAny_truthy_list pl.isList (by simp only [List.size_toArray]; omega) ⟨H, I.tok _, by rw [isEmpty_of r]; exact q⟩
    · subst e'
      obtain ⟨its, r, pl, hz⟩ := I.tuple hx
      have hlen := r.length
      exact truthy_tuple pl (by simp only [List.size_toArray]; omega) ⟨H, I.tok _, by rw [isEmpty_of r]; exact q⟩
    · subst e'
      obtain ⟨hz, hS, vs, r, m⟩ : kvs.length ≤ sizeLine ∧ (p == sysModules) = false ∧ ∃ vs, KV kvs vs ∧ s.heap.DictOf (mixKind X.prog X.w) p vs := I.hok p _ hx
      have hlen : kvs.length = vs.length := Paired.length r
      exact wpAny_truthy_dict hS m (by omega) ⟨H, I.tok _, by rw [isEmpty_kv r]; exact q⟩
  | _ => exact (show False from e).elim
/-- any expression whose test is its value's truth (a name, a call, a subscript, a field ..: he by fun _ => rfl) -/
theorem pt_truth (ha : PE X a ta) (he : ∀ whole, isTrue a X.env whole = (do let v ← whole; standAt a.pos; holding [v] (truthy v))) :
    PT X a (fun σ H Q => ta σ H fun x H' => ∃ k, TruV X.K x H' k ∧ Q k H') := by
  intro pins s σ H Q I h
  exact isTrue_plain (thn (ha pins s σ H _ I h) fun v s1 ⟨x, H1, I1, r1, q1⟩ => tru_ok pins s1 σ H1 x v Q I1 r1 q1) (he _)

/-! ### strs and bytes -/
theorem op_add_str : OpR X (binaryOp .Add) (fun x y H Q => ∃ i j, x = .str i ∧ y = .str j ∧ i.length + j.length ≤ sizeLine ∧ Q (.str (i ++ j)) H) := by
  intro pins s σ H x y v u Q I rx ry h
  obtain ⟨i, j, rfl, rfl, hz, q⟩ := h
  obtain ⟨t, rfl⟩ := rx
  obtain ⟨t', rfl⟩ := ry
  exact add_str (fun t' tk => ⟨.str (i ++ j), H, I.tok _, ⟨_, rfl⟩, q⟩) hz
/-! ### scalar builtins, by CallR -/
theorem vals1 {x : V} {us : List Value} (r : Vals [x] us) : ∃ u, us = [u] ∧ RelV x u := by
  cases r with
  | cons r1 r2 => cases r2; exact ⟨_, rfl, r1⟩
theorem vals2 {x y : V} {us : List Value} (r : Vals [x, y] us) : ∃ u w', us = [u, w'] ∧ RelV x u ∧ RelV y w' := by
  cases r with
  | cons r1 r2 =>
    cases r2 with
    | cons r3 r4 => cases r4; exact ⟨_, _, rfl, r1, r3⟩
theorem call_min2 (hc : X.calm = true) : CallR X (.builtin "min") (fun xs H Q => ∃ i j, xs = [.int i, .int j] ∧ Q (.int (if j < i then j else i)) H) := by
  intro pins s σ H xs us Q I r h
  obtain ⟨i, j, rfl, q⟩ := h
  obtain ⟨u, w', rfl, ⟨t, rfl⟩, ⟨t', rfl⟩⟩ := vals2 r
  refine min_two_ints (I.ok.hd hc) fun h' tk k => ⟨_, H, I.kept k, ?_, q⟩
  by_cases hj : j < i
  · rw [if_pos hj, if_pos hj]; exact ⟨_, rfl⟩
  · rw [if_neg hj, if_neg hj]; exact ⟨_, rfl⟩
end
end L2

namespace L2
open PySem PySem.Spec PyProof.Rows

/-! ### an instance, its attributes a map -/
structure ObjM (h : Heap) (x dx C : Addr) (mA : Str → Option Value) : Prop where
  obj : h.get? x = some (PySem.W.instObj C dx)
  ns : h.Ns1 dx mA
  ne : dx ≠ x

theorem lookIn_ns {h : Heap} {dx : Addr} {mA : Str → Option Value} (n : h.Ns1 dx mA) : ∃ od, h.get? dx = some od ∧ ∀ name, PySem.W.lookIn name od = some (mA name) := by
  obtain ⟨o, es, ep, ho, hd, hk, _, hm⟩ := n
  refine ⟨o, ho, fun name => ?_⟩
  have e := hm name
  unfold nsFind findBy at e
  rw [← Array.find?_toList] at e
  unfold PySem.W.lookIn
  rw [hd]
  dsimp only
  split
  · rename_i y q
    rw [q] at e
    exact congrArg some e
  · rename_i q
    rw [q] at e
    have a : es.toList.any (·.refKey) = false := by
      rw [List.any_eq_false]
      intro y hy
      obtain ⟨z, t, hkey⟩ := hk y (Array.mem_toList_iff.mp hy)
      simp [DictEntry.refKey, hkey]
    have a' : ¬ es.toList.any (·.refKey) = true := by rw [a]; exact Bool.false_ne_true
    rw [if_neg a']
    exact congrArg some e

theorem ObjM.look {h : Heap} {x dx C : Addr} {mA : Str → Option Value} (I : ObjM h x dx C mA) : ∃ od, PySem.W.InstAt h x (PySem.W.instObj C dx) C (some od) ∧ ∀ name, PySem.W.lookIn name od = some (mA name) :=
  let ⟨od, ho, hl⟩ := lookIn_ns I.ns
  ⟨od, ⟨I.obj, rfl, rfl, ho⟩, hl⟩

section
variable {prog : Program} {w : World} {A : Around} {E : Value → Shared → Prop} {s : Shared} {K : PySem.W.Frag} {x dx C f : Addr} {mA : Str → Option Value} {name : Str} {v : Value}

end

/-! ### the attributes as a list of pairs -/
section
variable {P : Program} {w : World} {H H' : Hp} {h h' : Heap} {a C dx : Addr} {fs fs' : List (Str × V)}
theorem ins_get (hok : HOk P w H h) (e : H a = some (.ins C dx fs)) : ∃ mA, ObjM h a dx C mA ∧ (∀ f, RelO (fs.lookup f) (mA f)) ∧ PySem.Within mA (fs.map (·.1)) ∧ fs.length ≤ 1000 ∧ H dx = some (.own a) := by
  obtain ⟨d, z, ne, ob, mA, n, r, q⟩ := (show ObjOk P w H h a (.ins C dx fs) from hok a _ e)
  exact ⟨mA, ⟨ob, n, ne⟩, r, q, z, d⟩
end

/-! ### what of the text a class must have -/
structure Cls (K : PySem.W.Frag) (C : Addr) : Prop where
  pg : PySem.W.plainGet K C Str.empty = true
  hd : PySem.W.hasDictIn K C = true
  po : PySem.W.plainOver K C = true
  sa : PySem.W.findIn K (.ref C) "__setattr__" = some (some (.builtin "object.__setattr__"))
theorem Cls.get {K : PySem.W.Frag} {C : Addr} (c : Cls K C) (f : Str) : PySem.W.plainGet K C f = true := c.pg
/-- a constant of the class -/
structure Con (K : PySem.W.Frag) (C : Addr) (f : Str) (v : V) (u : Value) : Prop where
  at_ : PySem.W.findIn K (.ref C) f = some (some u)
  rel : RelV v u
  get : PySem.W.specialIn K u "__get__" = some none
  cp : PySem.W.copiedNames.contains f = false
/-- a method: a plain def of the class or of one above it -/
structure Meth (K : PySem.W.Frag) (C : Addr) (m : Str) (f : Addr) : Prop where
  at_ : PySem.W.findIn K (.ref C) m = some (some (.ref f))
  fn : PySem.W.isFn K (.ref f) = true
  kp : PySem.W.keepIn K (.ref f) = true

section
variable {X : Cx} {pins : List (Addr × Obj)} {σ : St} {H : Hp} {s : Shared} {a C dx : Addr} {fs : List (Str × V)} {f : Str} {v : V} {A : Around} {E : Value → Shared → Prop}

end

/-! ### readings and rules -/
section
variable {X : Cx} {o e value : Expr} {f : Str} {pos pos' tpos : Pos} {ta tv : TE}
end

/-! ### isinstance -/
section
variable {X : Cx} {pins : List (Addr × Obj)} {σ : St} {H : Hp} {s : Shared} {A : Around} {E : Value → Shared → Prop} {Q : Value → Shared → Prop} {c : Value} {b : Bool}
/-- the type of a value, as the fragment's deciders take it; for an instance its class -/
inductive TyOf (K : PySem.W.Frag) (H : Hp) : V → Value → Prop where
  | non : TyOf K H .non (.type "NoneType")
  | bl (x : Bool) : TyOf K H (.bl x) (.type "bool")
  | int (i : Int) : TyOf K H (.int i) (.type "int")
  | str (x : Str) : TyOf K H (.str x) (.type "str")
  | flt (x : UInt64) : TyOf K H (.flt x) (.type "float")
  | lst {a : Addr} {xs : List V} (e : H a = some (.lst xs)) : TyOf K H (.ref a) (.type "list")
  | frz {a : Addr} {o : Obj} {xs : List V} (e : H a = some (.frz o (.lst xs))) : TyOf K H (.ref a) (.type "list")
  | tup {a : Addr} {xs : List V} (e : H a = some (.tup xs)) : TyOf K H (.ref a) (.type "tuple")
  | dK {a : Addr} {kvs : List (Key × V)} (e : H a = some (.dK kvs)) : TyOf K H (.ref a) (.type "dict")
  | dT {a : Addr} {kvs : List (List Key × V)} (e : H a = some (.dT kvs)) : TyOf K H (.ref a) (.type "dict")
  | ins {a C dx : Addr} {fs : List (Str × V)} (e : H a = some (.ins C dx fs)) (cl : Cls K C) (ha : PySem.W.findIn K (.ref C) "__class__" = some (some (.builtin "object.__class__")))
      (hn : PySem.W.specialIn K (.builtin "object.__class__") "__get__" = some (some (.builtin "getset_descriptor.__get__"))) (htk : PySem.W.takesIn K (.builtin "object.__class__") = some true)
      (hm : PySem.W.mroIn K C (.type "object") = some true) : TyOf K H (.ref a) (.ref C)
/-- isinstance(x, c) for one class c, a built-in or an own one: kitOne's answer -/
theorem isinst_ok {x : V} {u t : Value} (I : Inv X pins σ H s) (rx : RelV x u) (ty : TyOf X.K H x t) (e : PySem.W.kitOne X.K t c = some b) (h : ∀ tk, Q (.bool b) { s with toks := tk }) :
    wpAny (model X.prog X.w) A (call (.builtin "isinstance") [u, c]) Q E s := by
  cases ty with
  | non => cases (show u = Value.none from rx); exact PySem.W.kia_one PySem.W.kitx_none I.kIn True.intro e (fun z => nomatch z) h
  | bl y => cases (show u = Value.bool y from rx); exact PySem.W.kia_one PySem.W.kitx_bool I.kIn True.intro e (fun z => nomatch z) h
  | int i => obtain ⟨t, q⟩ := (show ∃ t, u = Value.int i t from rx); cases q; exact PySem.W.kia_one PySem.W.kitx_int I.kIn True.intro e (fun z => nomatch z) h
  | str y => obtain ⟨t, q⟩ := (show ∃ t, u = Value.str y t from rx); cases q; exact PySem.W.kia_one PySem.W.kitx_str I.kIn True.intro e (fun z => nomatch z) h
  | flt y => obtain ⟨t, q⟩ := (show ∃ t, u = Value.float y t from rx); cases q; exact PySem.W.kia_one PySem.W.kitx_float I.kIn True.intro e (fun z => nomatch z) h
  | @lst a xs ea =>
    cases (show u = Value.ref a from rx)
    obtain ⟨_, _, n, _, h1⟩ := (show ObjOk X.prog X.w H s.heap a (.lst xs) from I.hok a _ ea)
    exact PySem.W.kia_one PySem.W.kitx_list I.kIn ⟨_, h1, rfl⟩ e (fun z => nomatch z) h
  | @frz a ob xs ea =>
    cases (show u = Value.ref a from rx)
    obtain ⟨_, _, _, n, _, h1⟩ := (show ObjOk X.prog X.w H s.heap a (.frz ob (.lst xs)) from I.hok a _ ea)
    exact PySem.W.kia_one PySem.W.kitx_list I.kIn ⟨_, h1, rfl⟩ e (fun z => nomatch z) h
  | @tup a xs ea =>
    cases (show u = Value.ref a from rx)
    obtain ⟨_, _, _, p⟩ := (show ObjOk X.prog X.w H s.heap a (.tup xs) from I.hok a _ ea)
    obtain ⟨o, h1, h2, _⟩ := p
    exact PySem.W.kia_one PySem.W.kitx_tuple I.kIn ⟨o, h1, h2⟩ e (fun z => nomatch z) h
  | @dK a kvs ea =>
    cases (show u = Value.ref a from rx)
    obtain ⟨_, _, vs, _, p⟩ := (show ObjOk X.prog X.w H s.heap a (.dK kvs) from I.hok a _ ea)
    obtain ⟨o, es, ep, h1, h2, _⟩ := p
    exact PySem.W.kia_one PySem.W.kitx_dict I.kIn ⟨o, h1, h2.1⟩ e (fun z => nomatch z) h
  | @dT a kvs ea =>
    cases (show u = Value.ref a from rx)
    obtain ⟨_, _, xs, _, o, es, ep, h1, h2, _⟩ := (show ObjOk X.prog X.w H s.heap a (.dT kvs) from I.hok a _ ea)
    exact PySem.W.kia_one PySem.W.kitx_dict I.kIn ⟨o, h1, h2.1⟩ e (fun z => nomatch z) h
  | @ins a C dx fs ea cl ha hn htk hm =>
    cases (show u = Value.ref a from rx)
    obtain ⟨mA, O, _⟩ := ins_get I.hok ea
    obtain ⟨od, J, _⟩ := O.look
    exact PySem.W.kia_one (PySem.W.kitx_own (cl.get _) cl.hd ha hn htk hm) I.kIn J e (fun z => nomatch z) h
end
end L2

namespace L2
open PySem PySem.Spec PyProof.Rows

/-! ### room -/
structure Room (k : Nat) (A : Around) : Prop where
  hd : A.handled = none
  dp : A.depth + 3 * k + 5 < recursionLimit
  un : A.units + 16 * k + 200 < cLine
theorem Room.mono {j k : Nat} {A : Around} (r : Room k A) (h : j ≤ k) : Room j A := ⟨r.hd, by have := r.dp; omega, by have := r.un; omega⟩
theorem Room.deeper {k : Nat} {A : Around} (r : Room (k + 1) A) (env : Env) : Room k (A.deeper env) :=
  ⟨r.hd, by have := r.dp; show A.depth + 1 + 3 * k + 5 < _; omega, by have := r.un; show A.units + 3 + 16 * k + 200 < _; omega⟩
theorem Room.depth {k : Nat} {A : Around} (r : Room k A) : A.depth < recursionLimit := by have := r.dp; omega
theorem Room.units {k : Nat} {A : Around} (r : Room k A) : A.units + 64 < cLine := by have := r.un; omega
/-! ### argument lists and displays -/
noncomputable def tNil : TA := fun _ H Q => Q [] H
noncomputable def tCons (ta : TE) (tr : TA) : TA := fun σ H Q => ta σ H fun x H1 => tr σ H1 fun xs H2 => Q (x :: xs) H2
section
variable {X : Cx} {e : Expr} {es : List Expr} {te : TE} {t : TA} {pos : Pos}
theorem pa_nil : PA X [] tNil := fun _ _ _ _ H Q I h => Calls.spliced_nil ⟨[], H, I, .nil, h⟩
theorem pa_cons (ha : PE X e te) (hr : PA X es t) (hs : starEach (e :: es) X.env = (false, eval e X.env) :: starEach es X.env := by rfl) : PA X (e :: es) (tCons te t) := by
  intro pos pins s σ H Q I h
  rw [hs]
  show wpAny _ _ (spliced ((false, eval e X.env) :: backTo pos (starEach es X.env))) _ _ s
  refine Calls.spliced_cons (thn (ha pins s σ H _ I h) fun u s1 ⟨x, H1, I1, r1, q1⟩ => ?_)
  exact thn (hr pos pins s1 σ H1 _ I1 q1) fun us s2 ⟨xs, H2, I2, r2, q2⟩ => ⟨x :: xs, H2, I2, .cons r1 r2, q2⟩

/-- a tuple, a list of written items -/
noncomputable def tTup (t : TA) : TE := fun σ H Q => t σ H fun xs H1 => xs.length ≤ sizeLine ∧ ∀ p, H1 p = none → Q (.ref p) (upd H1 p (.tup xs))
noncomputable def tLst (t : TA) : TE := fun σ H Q => t σ H fun xs H1 => xs.length ≤ sizeLine ∧ ∀ p, H1 p = none → Q (.ref p) (upd H1 p (.lst xs))
theorem pe_tup {x1} (h : PA X es t) : PE X (.Tuple es x1 pos) (tTup t) := by
  intro pins s σ H Q I hq
  refine wpAny_Tuple_spliced (thn (h pos pins s σ H _ I hq) fun us s1 ⟨xs, H1, I1, r, z, q⟩ => ⟨by rw [← r.length]; exact z, ?_⟩)
  have hf : H1 s1.heap.objs.size = none := I1.hok.fresh (Nat.le_refl _)
  refine ⟨.ref s1.heap.objs.size, upd H1 s1.heap.objs.size (.tup xs), I1.laid (t' := s1.toks) (fun b u e => Heap.get?_push_of_some _ e) (Nat.le_refl _) ?_, rfl, q _ hf⟩
  exact ⟨z, us, r, ⟨_, Heap.get?_push_size _ rfl, rfl, _, rfl⟩⟩
theorem pe_lst (h : PA X es t) : PE X (.List es pos) (tLst t) := by
  intro pins s σ H Q I hq
  refine wpAny_List_spliced (thn (h pos pins s σ H _ I hq) fun us s1 ⟨xs, H1, I1, r, z, q⟩ => ⟨by rw [← r.length]; exact z, ?_⟩)
  have hf : H1 s1.heap.objs.size = none := I1.hok.fresh (Nat.le_refl _)
  refine ⟨.ref s1.heap.objs.size, upd H1 s1.heap.objs.size (.lst xs), I1.laid (t' := s1.toks) (fun b u e => Heap.get?_push_of_some _ e) (Nat.le_refl _) ?_, rfl, q _ hf⟩
  exact ⟨z, us, 0, r, Heap.get?_push_size _ rfl⟩
end

/-! ### what a def promises -/
/-- a def's promise: the bound arguments in the parameters' order, the heap, the wanted end, the wanted exception -/
noncomputable abbrev Sp := List V → Hp → VK → XK → Prop
/-- how an exception lies behind a call (file 08 gives it): the callers' frames, abstract heap and state ahead of the call, the wish, the exception, the state -/
noncomputable abbrev CXT := List Env → Hp → Shared → XK → Value → Shared → Prop

/-- the state at a call -/
structure Env0 (P : Program) (w : World) (K : PySem.W.Frag) (mg : Str → Option Value) (base : Heap) (A : Around) (outer : List Env) (s : Shared) (H : Hp) : Prop where
  frames : A.frames = some outer
  mod : Mod K mg base
  bs : ∀ b o, base.get? b = some o → s.heap.get? b = some o ∧ H b = none
  bsz : base.objs.size ≤ s.heap.objs.size
  funs : s.heap.FunFrames base outer
  frf : ∀ b ∈ frs outer, H b = none
  hok : HOk P w H s.heap
  bare : AllBare s.gens
/-- a call's end -/
noncomputable def CE (outer : List Env) (P : Program) (w : World) (H : Hp) (s : Shared) (Q : VK) (u : Value) (s' : Shared) : Prop :=
  ∃ v H', s'.os = s.os ∧ AllBare s'.gens ∧ Un (frs outer) [] H H' s.heap s'.heap ∧ HOk P w H' s'.heap ∧ RelV v u ∧ Q v H'
noncomputable def CR (CX : CXT) (outer : List Env) (P : Program) (w : World) (H : Hp) (s : Shared) (Q : VK) (E : XK) (r : Result) (s' : Shared) : Prop :=
  match r with
  | .ok (.ret u) => CE outer P w H s Q u s'
  | .ok _ => False
  | .error e => CX outer H s E e s'
structure FnOk (P : Program) (w : World) (K : PySem.W.Frag) (mg : Str → Option Value) (base : Heap) (CX : CXT) (k : Nat) (f : Addr) (fd : FuncData) (ps : List Str) (sp : Sp) : Prop where
  len : ∀ vs H Q E, sp vs H Q E → vs.length = ps.length
  run : ∀ (A : Around) (outer : List Env) (s : Shared) (H : Hp) (args : Args) (us : List Value) (vs : List V) (Q : VK) (E : XK), Room k A → Env0 P w K mg base A outer s H → BindsTo s fd args (ps.zip us) → Vals vs us → sp vs H Q E →
    codeAny (model P w) A (.call (.ref f) args) (CR CX outer P w H s Q E) s
theorem FnOk.mono {P : Program} {w : World} {K : PySem.W.Frag} {mg : Str → Option Value} {base : Heap} {CX : CXT} {j k : Nat} {f : Addr} {fd : FuncData} {ps : List Str} {sp : Sp} (F : FnOk P w K mg base CX j f fd ps sp) (h : j ≤ k) :
    FnOk P w K mg base CX k f fd ps sp := ⟨F.len, fun A outer s H args us vs Q E hr => F.run A outer s H args us vs Q E (hr.mono h)⟩
section
variable {X : Cx} {pins : List (Addr × Obj)} {σ : St} {H : Hp} {s s' : Shared}
/-- from a body: what a callee wants -/
theorem Inv.env0 (I : Inv X pins σ H s) : Env0 X.prog X.w X.K X.mg X.base X.A X.stack s H :=
  ⟨I.ok.frames, I.ok.mod, I.bs, Nat.le_trans I.ok.bsz I.sz, I.stack, I.stkFree, I.hok, I.bare⟩
/-- behind a call -/
theorem Inv.after {Q : VK} {u : Value} (I : Inv X pins σ H s) (h : CE X.stack X.prog X.w H s Q u s') : EP X pins σ Q u s' := by
  obtain ⟨v, H', os, bare, un, hok, r, q⟩ := h
  obtain ⟨hh, g, d, t, os'⟩ := s'
  obtain rfl : os' = s.os := os
  exact ⟨v, H', I.call (h' := hh) (g' := g) (d' := d) (t' := t) (ch := []) un hok bare (fun b z => absurd z (by simp)), r, q⟩
end

/-! ### calls -/
/-- f(..): the written arguments, then the defaults dvs; E: what is wanted of an exception -/
noncomputable def tCall (sp : Sp) (dvs : List V) (E : XK) (t : TA) : TE := fun σ H Q => t σ H fun vs H1 => sp (vs ++ dvs) H1 Q E
/-- how the parameters are bound: us the positional arguments, kw the keywords' values by name, ds the defaults that fill up -/
noncomputable def Binds (K : PySem.W.Frag) (fd : FuncData) (ps : List Str) (ds : List Value) : Prop :=
  ∀ (s : Shared) (us : List Value), K.In s.heap → (us ++ ds).length = ps.length → BindsTo s fd ⟨us, []⟩ (ps.zip (us ++ ds))
/-- every parameter is given -/
theorem Binds.all {K : PySem.W.Frag} {fd : FuncData} {ps : List Str} (h : ∀ us : List Value, us.length = ps.length → bindArgs fd ⟨us, []⟩ = pure (ps.zip us)) : Binds K fd ps [] := fun s us _ hl => by
  rw [List.append_nil] at hl ⊢
  exact .of_eq (h us hl)

/-- an exception of a callee reaches what this body wants of exceptions -/
noncomputable def Passes (CX : CXT) (X : Cx) (E : XK) : Prop := ∀ (pins : List (Addr × Obj)) (σ : St) (H : Hp) (s : Shared) (e : Value) (s' : Shared), Inv X pins σ H s → CX X.stack H s E e s' → X.xe e s'

section
variable {X : Cx} {CX : CXT} {k : Nat} {f C : Addr} {fd : FuncData} {ps : List Str} {sp : Sp} {dvs : List V} {ds : List Value} {E : XK} {x m : Str} {p pos apos : Pos} {e o : Expr} {es : List Expr} {ta : TE} {t : TA}

/-- the callee runs -/
theorem run_fn {pins : List (Addr × Obj)} {σ : St} {H : Hp} {s : Shared} {Q : VK} {us : List Value} {vs : List V} (F : FnOk X.prog X.w X.K X.mg X.base CX k f fd ps sp) (hr : Room k X.A) (hb : Binds X.K fd ps ds) (hd : Vals dvs ds) (hx : Passes CX X E)
    (I : Inv X pins σ H s) (r : Vals vs us) (h : sp (vs ++ dvs) H Q E) : wpAny (model X.prog X.w) X.A (call (.ref f) us) (EP X pins σ Q) X.xe s := by
  have r2 : Vals (vs ++ dvs) (us ++ ds) := r.append hd
  have hl : (us ++ ds).length = ps.length := by rw [← r2.length]; exact F.len _ _ _ _ h
  refine wpAny_call (codeAny_mono (F.run X.A X.stack s H ⟨us, []⟩ (us ++ ds) (vs ++ dvs) Q E hr I.env0 (hb s us I.kIn hl) r2 h) fun r s' hq => ?_)
  cases r with
  | error e => exact hx pins σ H s e s' I hq
  | ok fl =>
    cases fl with
    | ret u => exact I.after hq
    | next => exact False.elim hq
    | brk => exact False.elim hq
    | cont => exact False.elim hq

theorem pe_call (F : FnOk X.prog X.w X.K X.mg X.base CX k f fd ps sp) (hr : Room k X.A) (hg : Gl X x) (hm : X.mg x = some (.ref f)) (hk : PySem.W.keepIn X.K (.ref f) = true) (hb : Binds X.K fd ps ds) (hd : Vals dvs ds) (hx : Passes CX X E)
    (ha : PA X (e :: es) t) (hdb : (x == ("__debug__" : Str)) = false := by decide) (he : starEach (e :: es) X.env = (false, eval e X.env) :: starEach es X.env := by rfl) (hpl : (backTo pos (starEach es X.env)).any (·.1) = false := by rfl) :
    PE X (.Call (.Name x p) (e :: es) [] pos) (tCall sp dvs E t) := by
  intro pins s σ H Q I h
  refine wpAny_Call_Name_kw (ld_glob I hg hm ?_ hdb)
  refine PySem.W.callWith_K (h₀ := X.base) I.ok.mod.kin hk (thn (ha pos pins s σ H _ I h) fun us s1 ⟨vs, H1, I1, r, q⟩ => ⟨I1.kIn, ?_⟩) he hpl
  exact run_fn F hr hb hd hx I1 r q
/-- what a class must have to be made -/
structure Mk (K : PySem.W.Frag) (C f : Addr) : Prop where
  makes : PySem.W.makesIn K C = true
  init : PySem.W.findIn K (.ref C) "__init__" = some (some (.ref f))
  fn : PySem.W.isFn K (.ref f) = true
  kp : PySem.W.keepIn K (.ref C) = true

end

/-! ### keywords -/
section
variable {X : Cx} {CX : CXT} {k : Nat} {f C : Addr} {fd : FuncData} {ps ks : List Str} {sp : Sp} {E : XK} {x m : Str} {p pos apos kpos : Pos} {e o : Expr} {es : List Expr} {kws : List Keyword} {te ta : TE} {t tk : TA} {nm : Option Str}
/-- how a call with keywords binds: g puts the positional values us and the keywords' values ws (names ks) in the parameters' order, defaults among them -/
structure KBinds (K : PySem.W.Frag) (fd : FuncData) (ps ks : List Str) (g : List Value → List Value → List Value) (gV : List V → List V → List V) : Prop where
  to : ∀ (s : Shared) (us ws : List Value), K.In s.heap → (g us ws).length = ps.length → BindsTo s fd ⟨us, ks.zip ws⟩ (ps.zip (g us ws))
  rel : ∀ {vs : List V} {us : List Value} {zs : List V} {ws : List Value}, Vals vs us → Vals zs ws → Vals (gV vs zs) (g us ws)
variable {g : List Value → List Value → List Value} {gV : List V → List V → List V}
end

/-! ### a def's body keeps its promise -/
/-- names: the parameters first -/
structure FnScope (N P : List Str) (sc : Scope) : Prop where
  kind : sc.kind = .function
  co : sc.isCoroutine = false
  gen : sc.isGenerator = false
  nd : N.Nodup
  pre : N.take P.length = P
  par : ∀ x ∈ P, sc.names.lookup x = some .local ∨ sc.names.lookup x = some .cell
  nofree : ∀ y ∈ sc.names, y.2 ≠ .free

theorem bindL_out {kindOf : Str → Option NameKind} {x : Str} : ∀ {binds : List (Str × Value)} {m : Str → Option Value}, (∀ v, (x, v) ∉ binds) → bindL kindOf binds m x = m x
  | [], _, _ => rfl
  | (n, v) :: r, m, h => by
    unfold bindL
    rw [bindL_out fun w hw => h w (List.mem_cons_of_mem _ hw)]
    split
    · have : x ≠ n := by rintro rfl; exact h v List.mem_cons_self
      simp [this]
    · rfl
theorem bindC_out {kindOf : Str → Option NameKind} {x : Str} : ∀ {binds : List (Str × Value)} {m : Str → Option Value}, (∀ v, (x, v) ∉ binds) → bindC kindOf binds m x = m x
  | [], _, _ => rfl
  | (n, v) :: r, m, h => by
    unfold bindC
    rw [bindC_out fun w hw => h w (List.mem_cons_of_mem _ hw)]
    split
    · rfl
    · have : x ≠ n := by rintro rfl; exact h v List.mem_cons_self
      simp [this]
theorem bindL_get {kindOf : Str → Option NameKind} {x : Str} {v : Value} : ∀ {P : List Str} {vs : List Value} {i : Nat} {m : Str → Option Value}, P.Nodup → P[i]? = some x → vs[i]? = some v → kindOf x = some .local →
    bindL kindOf (P.zip vs) m x = some v
  | [], _, _, _, _, h, _, _ => by simp at h
  | _ :: _, [], _, _, _, _, h, _ => by simp at h
  | p :: P, w :: vs, 0, m, nd, h1, h2, hk => by
    simp at h1 h2; subst h1; subst h2
    show bindL kindOf ((p, w) :: P.zip vs) m p = _
    unfold bindL
    rw [bindL_out fun v hv => (List.nodup_cons.mp nd).1 (List.of_mem_zip hv).1, if_pos hk]
    simp
  | p :: P, w :: vs, i + 1, m, nd, h1, h2, hk => by
    show bindL kindOf ((p, w) :: P.zip vs) m x = _
    unfold bindL
    exact bindL_get (i := i) (List.nodup_cons.mp nd).2 (by simpa using h1) (by simpa using h2) hk
theorem bindC_get {kindOf : Str → Option NameKind} {x : Str} {v : Value} : ∀ {P : List Str} {vs : List Value} {i : Nat} {m : Str → Option Value}, P.Nodup → P[i]? = some x → vs[i]? = some v → kindOf x ≠ some .local →
    bindC kindOf (P.zip vs) m x = some v
  | [], _, _, _, _, h, _, _ => by simp at h
  | _ :: _, [], _, _, _, _, h, _ => by simp at h
  | p :: P, w :: vs, 0, m, nd, h1, h2, hk => by
    simp at h1 h2; subst h1; subst h2
    show bindC kindOf ((p, w) :: P.zip vs) m p = _
    unfold bindC
    rw [bindC_out fun v hv => (List.nodup_cons.mp nd).1 (List.of_mem_zip hv).1, if_neg hk]
    simp
  | p :: P, w :: vs, i + 1, m, nd, h1, h2, hk => by
    show bindC kindOf ((p, w) :: P.zip vs) m x = _
    unfold bindC
    exact bindC_get (i := i) (List.nodup_cons.mp nd).2 (by simpa using h1) (by simpa using h2) hk

/-- the names' values at the entry -/
noncomputable def start (N : List Str) (vs : List V) : St := vs.map some ++ List.replicate (N.length - vs.length) none

/-- the context of a def's body, at its entry; an exception leaves the frame, then lies as CX says -/
noncomputable def cxOf (CX : CXT) (P : Program) (w : World) (K : PySem.W.Frag) (mg : Str → Option Value) (base : Heap) (N : List Str) (qual : Str) (scope : Scope) (f : Addr) (cd : Value) (A : Around) (outer : List Env) (s : Shared) (H : Hp) (E : XK) : Cx where
  prog := P
  w := w
  K := K
  mg := mg
  base := base
  A := A.deeper (envOfC qual scope s.heap.objs.size f cd)
  N := N
  s₀ := s
  H₀ := H
  env := envOfC qual scope s.heap.objs.size f cd
  outer := outer
  stack := envOfC qual scope s.heap.objs.size f cd :: outer
  ex := []
  calm := true
  fn := fun _ => true
  pn := []
  xe := fun e s' => wpAny (model P w) (A.deeper (envOfC qual scope s.heap.objs.size f cd)) (leaving (envOfC qual scope s.heap.objs.size f cd) e) (fun _ s'' => CX outer H s E e s'') (fun e' s'' => CX outer H s E e' s'') s'

theorem cell_has {sc : Scope} {n : Nat} {x : Str} (h : sc.names.lookup x = some .cell) : ∃ c, (cellsFrom n sc.names []).lookup x = some c := by
  have q := PySem.W.cellsFrom_some sc.names n [] (.inl h)
  exact Option.isSome_iff_exists.mp q

theorem inv_start {CX : CXT} {P : Program} {w : World} {K : PySem.W.Frag} {mg : Str → Option Value} {base : Heap} {N ps : List Str} {qual : Str} {scope : Scope} {f : Addr} {cd : Value} {A : Around} {outer : List Env} {s s1 : Shared} {H : Hp} {E : XK} {us : List Value} {vs : List V}
    (S : FnScope N ps scope) (hd : A.handled = none) (e0 : Env0 P w K mg base A outer s H) (hl : vs.length = ps.length) (r : Vals vs us)
    (x : InCallC s s.heap.objs.size (bindL (envOfC qual scope s.heap.objs.size f cd).kindOf (ps.zip us) fun _ => none) (cellsFrom (s.heap.objs.size + 1) scope.names []) (bindC (envOfC qual scope s.heap.objs.size f cd).kindOf (ps.zip us) fun _ => none) s1) :
    Inv (cxOf CX P w K mg base N qual scope f cd A outer s H E) [] (start N vs) H s1 := by
  have hpl : ps.length ≤ N.length := by have := congrArg List.length S.pre; rw [List.length_take] at this; omega
  obtain ⟨h1, tk, rfl, hk⟩ := x.done
  have noA : ∀ b : Addr, b ∉ (cxOf CX P w K mg base N qual scope f cd A outer s H E).ex := fun b z => absurd (show b ∈ ([] : List Addr) from z) (by simp)
  refine ⟨⟨e0.mod, S.kind, rfl, rfl, Nat.le_refl _, fun y z c h1 h2 => ?_, fun y hy => ?_, fun y c _ h => ?_, fun _ => hd, Around.frames_deeper e0.frames, .inr ⟨rfl, rfl⟩, fun b z => absurd z (noA b), e0.bs, e0.bsz, fun b _ _ => noA b, fun b z => absurd z (noA b), e0.funs, e0.frf⟩,
    rfl, e0.bare, Un.kept hk, ⟨_, x.toInCall.ns, fun i y v h1 h2 h3 => ?_⟩, fun y c h => ⟨_, x.cell y c h⟩, e0.hok.fresh (Nat.le_refl _), fun y c h => ?_, fun p hp => absurd (show p ∈ ([] : List (Addr × Obj)) from hp) (by simp), e0.hok.kept hk, ?_⟩
  · exact name_of_addr x.apart (PySem.mem_of_lookup h1) (PySem.mem_of_lookup h2)
  · have hy : scope.names.lookup y = some .cell ∨ scope.names.lookup y = some .free := hy
    rcases hy with hy | hy
    · exact cell_has hy
    · exact absurd rfl (S.nofree _ (PySem.mem_of_lookup hy))
  · exact Nat.le_of_lt (x.above y c (PySem.mem_of_lookup h))
  · have hi : i < vs.length := by
      unfold start at h2
      by_cases hi : i < vs.length
      · exact hi
      · rw [List.getElem?_append_right (by simpa using hi)] at h2
        rw [List.getElem?_replicate] at h2
        split at h2 <;> cases h2
    have ha : vs[i]? = some v := by
      unfold start at h2
      rw [List.getElem?_append_left (by simpa using hi), List.getElem?_map] at h2
      cases e : vs[i]? with
      | none => rw [e] at h2; cases h2
      | some a => rw [e] at h2; cases h2; rfl
    obtain ⟨u, hu, rv⟩ := r.get ha
    have hp : ps[i]? = some y := by
      rw [← S.pre, List.getElem?_take_of_lt (by omega)]; exact h1
    have ndP : ps.Nodup := by rw [← S.pre]; exact S.nd.sublist (List.take_sublist _ _)
    refine ⟨u, rv, ?_⟩
    rcases S.par y (List.mem_of_getElem? hp) with k | k
    · exact .inl ⟨k, bindL_get ndP hp hu k⟩
    · obtain ⟨c, e⟩ := cell_has (n := s.heap.objs.size + 1) k
      refine .inr ⟨.inl k, c, e, ?_⟩
      have q := x.cell y c e
      rw [bindC_get ndP hp hu (by show scope.names.lookup y ≠ _; rw [k]; decide)] at q
      exact q
  · exact e0.hok.fresh (Nat.le_of_lt (x.above y c (PySem.mem_of_lookup h)))
  · unfold start
    show _ = N.length
    rw [List.length_append, List.length_map, List.length_replicate]
    omega

/-- THE RULE: a def (or a method) of the text, by its body. The body's reading t is chosen for each entry; it is run at the parameters' values -/
theorem fn_of {CX : CXT} {P : Program} {w : World} {K : PySem.W.Frag} {mg : Str → Option Value} {base : Heap} {k : Nat} {f : Addr} {name qual : Str} {params : Arguments} {body : List Stmt} {scope : Scope} {dV kV doc pm cdv ct oc : Value} {an od : Option Addr}
    {osl : Array (Option Value)} {N ps : List Str} {sp : Sp} (lk : K.lookup f = some ⟨oc, od, .func (PySem.W.fnOf name qual params body scope dV kV doc pm an cdv ct), osl⟩) (hcd : PySem.W.codeIn K cdv qual = true) (S : FnScope N ps scope)
    (len : ∀ vs H Q E, sp vs H Q E → vs.length = ps.length)
    (hbody : ∀ (A : Around) (outer : List Env) (s : Shared) (H : Hp) (vs : List V) (Q : VK) (E : XK), Room k (A.deeper (envOfC qual scope s.heap.objs.size f cdv)) → sp vs H Q E →
      ∃ t, PSs (cxOf CX P w K mg base N qual scope f cdv A outer s H E) body t ∧ t { nx := fun _ H' => Q .non H', rt := Q } (start N vs) H) :
    FnOk P w K mg base CX (k + 1) f (PySem.W.fnOf name qual params body scope dV kV doc pm an cdv ct) ps sp := by
  refine ⟨len, fun A outer s H args us vs Q E hr e0 hb r hsp => ?_⟩
  have hl := len _ _ _ _ hsp
  have KX : K.In s.heap := e0.mod.kin.keeps fun b o e => (e0.bs b o e).1
  have lim : s.heap.NoLimit := e0.mod.nolimit.keeps fun b o e => (e0.bs b o e).1
  have hkind : ∀ y ∈ ps.zip us, scope.names.lookup y.1 = some .local ∨ (scope.names.lookup y.1 = some .cell ∧ ((cellsFrom (s.heap.objs.size + 1) scope.names []).lookup y.1).isSome = true) := fun ⟨n, v⟩ hy => by
    rcases S.par n (List.of_mem_zip hy).1 with q | q
    · exact .inl q
    · exact .inr ⟨q, PySem.W.cellsFrom_some _ _ _ (.inl q)⟩
  refine codeAny_call_function hr.depth (KX _ _ lk) rfl S.co S.gen rfl (PySem.W.codeRec_of KX hcd) (hb _ _ _ _ ?_)
  refine wpAny_newFunctionEnv_cells S.kind hkind fun env he s1 x => ?_
  subst he
  refine ⟨lim.keeps x.toInCall.keep, codeAny_func ?_⟩
  obtain ⟨t, ht, hq⟩ := hbody A outer s H vs Q E (hr.deeper _) hsp
  have I : Inv (cxOf CX P w K mg base N qual scope f cdv A outer s H E) [] (start N vs) H s1 := inv_start S hr.hd e0 hl r x
  refine wpAny_mono (ht [] s1 (start N vs) H _ I hq) (fun fl s' hs => ?_) fun e s' hs => hs
  have fin : ∀ {σ' : St} {H' : Hp} {v : V} {u : Value}, Inv (cxOf CX P w K mg base N qual scope f cdv A outer s H E) [] σ' H' s' → RelV v u → Q v H' → CE outer P w H s Q u s' :=
    fun {σ' H' v u} J rv q => ⟨v, H', J.os, J.bare, J.base, J.hok, rv, q⟩
  cases fl with
  | ret u =>
    obtain ⟨v, σ', H', J, rv, q⟩ := hs
    exact fin J rv q
  | next =>
    obtain ⟨σ', H', J, q⟩ := hs
    exact fin (v := V.non) (u := Value.none) J rfl q
  | brk =>
    obtain ⟨_, _, _, q⟩ := hs
    exact False.elim q
  | cont =>
    obtain ⟨_, _, _, q⟩ := hs
    exact False.elim q
end L2

namespace L2
open PySem PySem.Spec PyProof.Rows
section
variable {X : Cx} {x : Str} {p pos : Pos} {e : Expr} {es : List Expr} {t : TA} {id T : String} {r : List V → Hp → VK → Prop}

noncomputable def tCB (r : List V → Hp → VK → Prop) (t : TA) : TE := fun σ H Q => t σ H fun vs H1 => r vs H1 Q
/-- f(e, ..), f a built-in function -/
theorem pe_callB (hc : CallR X (.builtin id) r) (hg : Gl X x) (hm : X.mg x = none) (hv : bootBuiltins x = some (.builtin id)) (ha : PA X (e :: es) t) (hn : x ≠ "__name__" := by decide) (hdb : (x == ("__debug__" : Str)) = false := by decide)
    (he : starEach (e :: es) X.env = (false, eval e X.env) :: starEach es X.env := by rfl) (hpl : (backTo pos (starEach es X.env)).any (·.1) = false := by rfl) : PE X (.Call (.Name x p) (e :: es) [] pos) (tCB r t) := by
  intro pins s σ H Q I h
  refine wpAny_Call_Name_kw (ld_blt I hg hm hv ?_ hn hdb)
  exact PyProof.Rows.callWith_builtin1 (thn (ha pos pins s σ H _ I h) fun us s1 ⟨vs, H1, I1, r1, q1⟩ => hc pins s1 σ H1 vs us Q I1 r1 q1) he hpl
/-- T(e, ..), T a built-in type -/
theorem pe_callTy (hc : CallR X (.type T) r) (hg : Gl X x) (hm : X.mg x = none) (hv : bootBuiltins x = some (.type T)) (ha : PA X (e :: es) t) (hn : x ≠ "__name__" := by decide) (hdb : (x == ("__debug__" : Str)) = false := by decide)
    (he : starEach (e :: es) X.env = (false, eval e X.env) :: starEach es X.env := by rfl) (hpl : (backTo pos (starEach es X.env)).any (·.1) = false := by rfl) : PE X (.Call (.Name x p) (e :: es) [] pos) (tCB r t) := by
  intro pins s σ H Q I h
  refine wpAny_Call_Name_kw (ld_blt I hg hm hv ?_ hn hdb)
  exact PyProof.Rows.callWith_type1 (thn (ha pos pins s σ H _ I h) fun us s1 ⟨vs, H1, I1, r1, q1⟩ => hc pins s1 σ H1 vs us Q I1 r1 q1) he hpl
end
end L2

namespace HT
open PySem PyProof.Rows

section
open PySem.SeqAt
open PySem.AutoSeq1 (wpAny_loadPart')
open PySem.MeetsSeq PySem.MeetsSeq2 PySem.MeetsSeq3

end

section
variable {prog : Program} {w : World} {A : Around} {E : Value → Shared → Prop} {s : Shared}

/-! ### t[a:b], not the whole -/
/-- a slice's bound as a place among n (d where it is left out) -/
noncomputable def sIx (n d : Nat) : Option Int → Nat
  | none => d
  | some v => if v < 0 then (v + (n : Int)).toNat else min v.toNat n
end
end HT

namespace L2
open PySem PySem.Spec PyProof.Rows

/-! ### the parts of a slice -/
noncomputable abbrev TO := St → Hp → (Option Int → Hp → Prop) → Prop
/-- a slice's part (left out, or an int) -/
noncomputable def PO (X : Cx) (e : Option Expr) (t : TO) : Prop :=
  ∀ (pins : List (Addr × Obj)) (s : Shared) (σ : St) (H : Hp) (Q : Option Int → Hp → Prop), Inv X pins σ H s → t σ H Q →
    wpAny (model X.prog X.w) X.A (evalPart e X.env) (fun u s' => ∃ o H', Inv X pins σ H' s' ∧ IsPart u o ∧ Q o H') X.xe s
noncomputable def tNoPart : TO := fun _ H Q => Q none H
noncomputable def tPart (t : TE) : TO := fun σ H Q => t σ H fun x H1 => ∃ i, x = .int i ∧ Q (some i) H1

section
variable {X : Cx} {e : Expr} {te : TE} {lo hi : Option Expr} {tl th : TO} {pos p2 : Pos}

theorem po_none : PO X none tNoPart := by
  intro pins s σ H Q I h
  rw [evalPart_none]
  exact wpAny_pure ⟨none, H, I, .none, h⟩
theorem po_some (h : PE X e te) : PO X (some e) (tPart te) := by
  intro pins s σ H Q I hw
  rw [evalPart_some]
  refine thn (h pins s σ H _ I hw) fun u s1 ⟨x, H1, I1, r1, q1⟩ => ?_
  obtain ⟨i, rfl, q⟩ := q1
  obtain ⟨t, rfl⟩ := r1
  exact ⟨some i, H1, I1, .int i t, q⟩

/-- what a slice of a value is, by values: the slice object stands at sl -/
noncomputable def SlR (X : Cx) (r : V → Option Int → Option Int → Hp → VK → Prop) : Prop :=
  ∀ (pins : List (Addr × Obj)) (s : Shared) (σ : St) (H : Hp) (x : V) (v vl vu : Value) (lo hi : Option Int) (sl : Addr) (Q : VK), Inv X pins σ H s → RelV x v → s.heap.IsSliceOf sl vl vu .none → IsPart vl lo → IsPart vu hi → r x lo hi H Q →
    ∃ T id, typeLookup (.type T) "__getitem__" = pure (some (.builtin id)) ∧ s.TypeIs v T ∧ wpAny (model X.prog X.w) X.A (getItem v (.ref sl)) (EP X pins σ Q) X.xe s
theorem SlR.or {r r' : V → Option Int → Option Int → Hp → VK → Prop} (h : SlR X r) (h' : SlR X r') : SlR X (fun x lo hi H Q => r x lo hi H Q ∨ r' x lo hi H Q) := by
  intro pins s σ H x v vl vu lo hi sl Q I rx hs pl pu q
  rcases q with q | q
  · exact h pins s σ H x v vl vu lo hi sl Q I rx hs pl pu q
  · exact h' pins s σ H x v vl vu lo hi sl Q I rx hs pl pu q
noncomputable def tSl (r : V → Option Int → Option Int → Hp → VK → Prop) (te : TE) (tl th : TO) : TE := fun σ H Q => te σ H fun x H1 => tl σ H1 fun l H2 => th σ H2 fun u H3 => r x l u H3 Q
/-- a[lo:hi], any a -/
theorem pe_slice {r : V → Option Int → Option Int → Hp → VK → Prop} (hr : SlR X r) (he : PE X e te) (hl : PO X lo tl) (hu : PO X hi th) : PE X (.Subscript e (.Slice lo hi none p2) pos) (tSl r te tl th) := by
  intro pins s σ H Q I h
  refine Subscript_ (thn (he pins s σ H _ I h) fun v s1 ⟨x, H1, I1, r1, q1⟩ => ?_)
  refine wpAny_Slice (thn (hl pins s1 σ H1 _ I1 q1) fun vl s2 ⟨l, H2, I2, pl, q2⟩ => thn (hu pins s2 σ H2 _ I2 q2) fun vu s3 ⟨u, H3, I3, pu, q3⟩ => ?_)
  rw [evalPart_none]
  refine wpAny_pure ?_
  have I4 : Inv X pins σ H3 { s3 with heap := s3.heap.push { cls := .type "slice", data := .fields #[vl, vu, .none] } } := I3.kept (t' := s3.toks) fun b ob q => Heap.get?_push_of_some _ q
  obtain ⟨T, id, hT, ht, hg⟩ := hr pins { s3 with heap := s3.heap.push { cls := .type "slice", data := .fields #[vl, vu, .none] } } σ H3 x v vl vu l u s3.heap.objs.size Q I4 r1 (Heap.IsSliceOf.new ..) pl pu q3
  show wpAny (model X.prog X.w) X.A (subscriptTail e (.Slice lo hi none p2) v (.ref s3.heap.objs.size)) (EP X pins σ Q) X.xe { s3 with heap := s3.heap.push { cls := .type "slice", data := .fields #[vl, vu, .none] } }
  exact tail_any (ops := [.ref s3.heap.objs.size, v]) ht hT hg (by with_unfolding_all rfl)

/-- the items of xs[lo:hi] -/
noncomputable def cutV (xs : List V) (lo hi : Option Int) : List V := (xs.drop (HT.sIx xs.length 0 lo)).take (HT.sIx xs.length xs.length hi - HT.sIx xs.length 0 lo)
theorem cutV_length (xs : List V) (lo hi : Option Int) : (cutV xs lo hi).length ≤ xs.length := by
  unfold cutV
  rw [List.length_take, List.length_drop]
  omega
/-! ### t < u, t + u -/
end
end L2

namespace L2
open PySem PySem.Spec PyProof.Rows

/-! ### places -/
/-- the place that an index of any sign means -/
noncomputable def ixN (n : Nat) (i : Int) : Option Nat := if 0 ≤ i then (if i < n then some i.toNat else none) else if -(n : Int) ≤ i then some (i + n).toNat else none
noncomputable def atI {α : Type} (xs : List α) (i : Int) : Option α := (ixN xs.length i).bind fun j => xs[j]?
theorem ixN_seq {n : Nat} {i : Int} {j : Nat} (h : ixN n i = some j) : seqIndex? i n = some j ∧ j < n ∧ -(n : Int) ≤ i ∧ i < n := by
  unfold ixN at h
  by_cases h0 : 0 ≤ i
  · rw [if_pos h0] at h
    by_cases h1 : i < n
    · rw [if_pos h1] at h
      have e : i.toNat = j := Option.some.inj h
      exact ⟨by rw [seqIndex_of h0 h1, e], by omega, by omega, h1⟩
    · rw [if_neg h1] at h; cases h
  · rw [if_neg h0] at h
    by_cases h1 : -(n : Int) ≤ i
    · rw [if_pos h1] at h
      have e : (i + n).toNat = j := Option.some.inj h
      exact ⟨by rw [seqIndex_neg (by omega) h1, e], by omega, h1, by omega⟩
    · rw [if_neg h1] at h; cases h
theorem atI_get {α : Type} {xs : List α} {i : Int} {v : α} (h : atI xs i = some v) : ∃ j, seqIndex? i xs.length = some j ∧ xs[j]? = some v ∧ j < xs.length ∧ -(xs.length : Int) ≤ i ∧ i < xs.length := by
  unfold atI at h
  cases e : ixN xs.length i with
  | none => rw [e] at h; cases h
  | some j =>
    rw [e] at h
    obtain ⟨h1, h2, h3, h4⟩ := ixN_seq e
    exact ⟨j, h1, h, h2, h3, h4⟩
theorem atI_nat {α : Type} {xs : List α} {j : Nat} {v : α} (h : xs[j]? = some v) : atI xs (j : Int) = some v := by
  have hj : j < xs.length := (List.getElem?_eq_some_iff.mp h).1
  have e : ixN xs.length (j : Int) = some j := by
    unfold ixN
    rw [if_pos (by omega), if_pos (by omega)]; simp
  unfold atI; rw [e]; exact h
theorem atI_last {α : Type} (xs : List α) (v : α) : atI (xs ++ [v]) (-1) = some v := by
  have hl : (xs ++ [v]).length = xs.length + 1 := by simp
  have e : ixN (xs ++ [v]).length (-1) = some xs.length := by
    unfold ixN
    rw [hl, if_neg (by decide), if_pos (by omega)]
    congr 1
    omega
  unfold atI
  rw [e]
  show (xs ++ [v])[xs.length]? = some v
  simp

/-! ### what may be subscripted -/
/-- what stands as an index of a plain subscript -/
noncomputable def PlainIx (b : Expr) : Prop := ∀ o i, subscripted b false o i = operate [o, i] (getItem o i)
/-- a subscript by values -/
noncomputable def IxR (X : Cx) (r : R2) : Prop :=
  ∀ (value slice : Expr) (pins : List (Addr × Obj)) (s : Shared) (σ : St) (H : Hp) (x y : V) (v u : Value) (Q : VK), Inv X pins σ H s → RelV x v → RelV y u → r x y H Q →
    subscripted slice false v u = operate [v, u] (getItem v u) → wpAny (model X.prog X.w) X.A (subscriptTail value slice v u) (EP X pins σ Q) X.xe s
/-- a call of a builtin's method by values: the receiver, the arguments -/
noncomputable def MtR (X : Cx) (id : String) (r : V → List V → Hp → VK → Prop) : Prop :=
  ∀ (pins : List (Addr × Obj)) (s : Shared) (σ : St) (H : Hp) (x : V) (xs : List V) (v : Value) (us : List Value) (Q : VK), Inv X pins σ H s → RelV x v → Vals xs us → r x xs H Q →
    wpAny (model X.prog X.w) X.A (call (.builtin id) (v :: us)) (EP X pins σ Q) X.xe s
section
variable {X : Cx} {a b : Expr} {ta tb : TE} {pos : Pos}
theorem IxR.or {r r' : R2} (h : IxR X r) (h' : IxR X r') : IxR X (fun x y H Q => r x y H Q ∨ r' x y H Q) := by
  intro value slice pins s σ H x y v u Q I rx ry q hs
  rcases q with q | q
  · exact h value slice pins s σ H x y v u Q I rx ry q hs
  · exact h' value slice pins s σ H x y v u Q I rx ry q hs
/-- a[b] -/
theorem pe_ix {r : R2} (hr : IxR X r) (ha : PE X a ta) (hb : PE X b tb) (hs : PlainIx b) : PE X (.Subscript a b pos) (tOp r ta tb) := by
  intro pins s σ H Q I h
  exact Subscript_ (binT ha hb I h fun v u s2 x y H2 I2 rx ry q => hr a b pins s2 σ H2 x y v u Q I2 rx ry q (hs _ _))

noncomputable def rIxL (K : PySem.W.Frag) : R2 := fun x y H Q => ∃ p xs i v, x = .ref p ∧ y = .int i ∧ SqL K H p xs ∧ atI xs i = some v ∧ Q v H
noncomputable def rIxT (K : PySem.W.Frag) : R2 := fun x y H Q => ∃ p xs i v, x = .ref p ∧ y = .int i ∧ SqT K H p xs ∧ atI xs i = some v ∧ Q v H
noncomputable def rIxS : R2 := fun x y H Q => ∃ z i c, x = .str z ∧ y = .int i ∧ z.length ≤ sizeLine ∧ atI z.cps.toList i = some c ∧ Q (.str ⟨#[c]⟩) H
theorem ix_list : IxR X (rIxL X.K) := by
  intro value slice pins s σ H x y v u Q I rx ry h hs
  obtain ⟨p, xs, i, z, rfl, rfl, hq, he, q⟩ := h
  cases rx
  obtain ⟨t, rfl⟩ := ry
  obtain ⟨its, r, pl, hz⟩ := I.list hq
  obtain ⟨j, h1, h2, h3, h4, h5⟩ := atI_get he
  obtain ⟨w, ew, rw'⟩ := r.get h2
  have hl := r.length
  have hn := line63
  have fin : EP X pins σ Q w s := ⟨z, H, I, rw', q⟩
  by_cases h0 : 0 ≤ i
  · have hj : i.toNat = j := by
      rw [seqIndex_of h0 h5] at h1
      exact Option.some.inj h1
    exact item_listR pl.isList h0 (by omega) (by rw [hj]; simpa using ew) fin hs
  · have hj : (i + (its.toArray.size : Int)).toNat = j := by
      rw [seqIndex_neg (by omega) h4] at h1
      rw [List.size_toArray, ← hl]
      exact Option.some.inj h1
    exact subscriptTail_builtinR (x := w) pl.isList.typeIs slot_list_getitem.lookup
      (wpAny_getItem_list_neg (Q := fun r s' => r = w ∧ EP X pins σ Q r s') pl.isList (by omega) (by rw [List.size_toArray] <;> omega) (by omega) (by rw [hj]; simpa using ew) ⟨rfl, fin⟩) hs
theorem ix_tup : IxR X (rIxT X.K) := by
  intro value slice pins s σ H x y v u Q I rx ry h hs
  obtain ⟨p, xs, i, z, rfl, rfl, hq, he, q⟩ := h
  cases rx
  obtain ⟨t, rfl⟩ := ry
  obtain ⟨its, r, pl, hz⟩ := I.tuple hq
  obtain ⟨j, h1, h2, h3, h4, h5⟩ := atI_get he
  obtain ⟨w, ew, rw'⟩ := r.get h2
  have hl := r.length
  have hn := line63
  have fin : EP X pins σ Q w s := ⟨z, H, I, rw', q⟩
  exact subscriptTail_builtinR (x := w) pl.typeIs slot_tuple_getitem.lookup
    (getItem_tuple (j := j) (Q := fun r s' => r = w ∧ EP X pins σ Q r s') pl (by omega) (by omega) (by rw [List.size_toArray, ← hl]; exact h1) (by simpa using ew) ⟨rfl, fin⟩) hs
theorem ix_str : IxR X rIxS := by
  intro value slice pins s σ H x y v u Q I rx ry h hs
  obtain ⟨z, i, c, rfl, rfl, hz, he, q⟩ := h
  obtain ⟨t, rfl⟩ := rx
  obtain ⟨t', rfl⟩ := ry
  obtain ⟨j, h1, h2, h3, h4, h5⟩ := atI_get he
  have hl : z.cps.toList.length = z.length := by simp [Str.length]
  rw [hl] at h1 h4 h5
  have hn := line63
  exact tail_any (typeIs_str s z t) slot_str_getitem.lookup (getItem_str (c := c) (by
    have e1 : decide (i < -(2 ^ 63 : Int)) = false := decide_eq_false (by omega)
    have e2 : decide (i ≥ 2 ^ 63) = false := decide_eq_false (by omega)
    rw [e1, e2, Bool.or_false]) (by rw [h1]; simpa using h2) ⟨.str ⟨#[c]⟩, H, I.tok _, ⟨_, rfl⟩, q⟩) hs
/-- list, tuple or str -/
noncomputable def rIx (K : PySem.W.Frag) : R2 := fun x y H Q => rIxL K x y H Q ∨ rIxT K x y H Q ∨ rIxS x y H Q
/-! ### xs[i] = v, any sign -/
theorem Inv.lst {pins : List (Addr × Obj)} {σ : St} {H : Hp} {s : Shared} {p : Addr} {xs : List V} (I : Inv X pins σ H s) (h : H p = some (.lst xs)) :
    ∃ (its : List Value) (n : Nat), Vals xs its ∧ s.heap.get? p = some { cls := .type "list", data := .seq its.toArray n } ∧ xs.length ≤ sizeLine := by
  obtain ⟨z, its, n, r, e⟩ := I.hok p _ h
  exact ⟨its, n, r, e, z⟩
/-! ### slices -/
theorem slice_bounds (lo hi : Option Int) (n : Nat) : (sliceBounds lo hi none n).1 = ((HT.sIx n 0 lo : Nat) : Int) ∧ (sliceBounds lo hi none n).2.1 = ((HT.sIx n n hi : Nat) : Int) ∧ (sliceBounds lo hi none n).2.2 = 1 := by
  refine ⟨?_, ?_, rfl⟩
  · cases lo with
    | none => simp [sliceBounds, HT.sIx]
    | some i =>
      simp only [sliceBounds, HT.sIx, Option.getD_none, show (1 : Int) > 0 by decide, if_true]
      by_cases h : i < 0
      · simp only [h, if_true] <;> omega
      · simp only [h, if_false] <;> omega
  · cases hi with
    | none => simp [sliceBounds, HT.sIx]
    | some i =>
      simp only [sliceBounds, HT.sIx, Option.getD_none, show (1 : Int) > 0 by decide, if_true]
      by_cases h : i < 0
      · simp only [h, if_true] <;> omega
      · simp only [h, if_false] <;> omega
theorem slicePick_cut (its : List Value) (lo hi : Option Int) : slicePick its.toArray lo hi none = ((its.drop (HT.sIx its.length 0 lo)).take (HT.sIx its.length its.length hi - HT.sIx its.length 0 lo)).toArray := by
  obtain ⟨h1, h2, h3⟩ := slice_bounds lo hi its.toArray.size
  unfold slicePick
  rw [h1, h2, h3]
  simp only [sliceRange_one, pick_run, List.size_toArray] <;> rfl
/-- xs[lo:hi] of a list: a new list -/
noncomputable def rSlL (K : PySem.W.Frag) : V → Option Int → Option Int → Hp → VK → Prop := fun x lo hi H Q => ∃ a xs, x = .ref a ∧ SqL K H a xs ∧ ∀ p, H p = none → Q (.ref p) (upd H p (.lst (cutV xs lo hi)))
theorem sl_list : SlR X (rSlL X.K) := by
  intro pins s σ H x v vl vu lo hi sl Q I rx hs pl pu h
  obtain ⟨a, xs, rfl, hx, q⟩ := h
  cases rx
  obtain ⟨its, r, ht, hz⟩ := I.list hx
  have hlen := r.length
  refine ⟨"list", _, slot_list_getitem.lookup, ht.isList.typeIs, ?_⟩
  refine wpAny_getItem_list_slice ht.isList hs pl pu .none (by simp) ?_ (by rw [List.size_toArray] <;> omega)
  rw [slicePick_cut, ← hlen]
  refine ⟨.ref s.heap.objs.size, _, I.laid (t' := s.toks) (o := .lst (cutV xs lo hi)) (fun b ob q => Heap.get?_push_of_some _ q) (Nat.le_refl _) ?_, rfl, q _ (I.hok.fresh (Nat.le_refl _))⟩
  exact ⟨Nat.le_trans (cutV_length xs lo hi) hz, _, 0, (r.drop (HT.sIx xs.length 0 lo)).take (HT.sIx xs.length xs.length hi - HT.sIx xs.length 0 lo), Heap.get?_push_size _ rfl⟩

/-! ### in, not in: flat items -/
noncomputable def flatV : V → Bool
  | .non => true
  | .bl _ => true
  | .int _ => true
  | .str _ => true
  | _ => false
/-- == of flat values -/
noncomputable def eqV : V → V → Bool
  | .non, .non => true
  | .bl a, .bl b => a == b
  | .bl a, .int b => (if a then 1 else 0) == b
  | .int a, .bl b => a == (if b then 1 else 0)
  | .int a, .int b => a == b
  | .str a, .str b => a == b
  | _, _ => false
theorem eqAt_V {A : Around} {s : Shared} {y x : V} {u v : Value} (ry : RelV y u) (rx : RelV x v) (fy : flatV y = true) (fx : flatV x = true) : SeqAt.EqAt A s u v (eqV y x) := by
  cases y with
  | non =>
    cases ry
    cases x with
    | non => cases rx; exact SeqAt.EqAt.same _
    | bl b => cases rx; exact SeqAt.EqAt.none_bool b
    | int b => obtain ⟨t, rfl⟩ := rx; exact SeqAt.EqAt.none_int b t
    | str b => obtain ⟨t, rfl⟩ := rx; exact SeqAt.EqAt.none_str b t
    | _ => exact absurd (show false = true from fx) Bool.false_ne_true
  | bl a =>
    cases ry
    cases x with
    | non => cases rx; exact SeqAt.EqAt.bool_none a
    | bl b => cases rx; exact SeqAt.EqAt.bool_bool a b
    | int b => obtain ⟨t, rfl⟩ := rx; exact SeqAt.EqAt.bool_int a b t
    | str b => obtain ⟨t, rfl⟩ := rx; exact SeqAt.EqAt.bool_str a b t
    | _ => exact absurd (show false = true from fx) Bool.false_ne_true
  | int a =>
    obtain ⟨t', rfl⟩ := ry
    cases x with
    | non => cases rx; exact SeqAt.EqAt.int_none a t'
    | bl b => cases rx; exact SeqAt.EqAt.int_bool a t' b
    | int b => obtain ⟨t, rfl⟩ := rx; exact SeqAt.EqAt.int_int a t' b t
    | str b => obtain ⟨t, rfl⟩ := rx; exact SeqAt.EqAt.int_str a t' b t
    | _ => exact absurd (show false = true from fx) Bool.false_ne_true
  | str a =>
    obtain ⟨t', rfl⟩ := ry
    cases x with
    | non => cases rx; exact SeqAt.EqAt.str_none a t'
    | bl b => cases rx; exact SeqAt.EqAt.str_bool a t' b
    | int b => obtain ⟨t, rfl⟩ := rx; exact SeqAt.EqAt.str_int a t' b t
    | str b => obtain ⟨t, rfl⟩ := rx; exact SeqAt.EqAt.str_str a t' b t
    | _ => exact absurd (show false = true from fx) Bool.false_ne_true
  | _ => exact absurd (show false = true from fy) Bool.false_ne_true
/-- the items' answers, read off the values (a value's own answer does not lean on its token) -/
noncomputable def eqU (x : V) (u : Value) : Bool := match u with
  | .none => eqV .non x
  | .bool b => eqV (.bl b) x
  | .int i _ => eqV (.int i) x
  | .str z _ => eqV (.str z) x
  | _ => false
theorem eqU_of {x y : V} {u : Value} (r : RelV y u) (f : flatV y = true) : eqU x u = eqV y x := by
  cases y with
  | non => cases r; rfl
  | bl b => cases r; rfl
  | int i => obtain ⟨t, rfl⟩ := r; rfl
  | str z => obtain ⟨t, rfl⟩ := r; rfl
  | _ => exact absurd (show false = true from f) Bool.false_ne_true
theorem any_eqU {x : V} : ∀ {xs : List V} {us : List Value}, Vals xs us → xs.all flatV = true → us.any (eqU x) = xs.any fun y => eqV y x
  | _, _, .nil, _ => rfl
  | y :: xs, u :: us, .cons r t, f => by
    rw [List.all_cons, Bool.and_eq_true] at f
    rw [List.any_cons, List.any_cons, eqU_of r f.1, any_eqU t f.2]
theorem mem_eqAt {A : Around} {s : Shared} {x : V} {v : Value} (rx : RelV x v) (fx : flatV x = true) : ∀ {xs : List V} {us : List Value}, Vals xs us → xs.all flatV = true → ∀ u ∈ us, SeqAt.EqAt A s u v (eqU x u)
  | _, _, .nil, _ => fun u hu => by cases hu
  | y :: xs, u :: us, .cons r t, f => fun u' hu => by
    rw [List.all_cons, Bool.and_eq_true] at f
    rcases List.mem_cons.mp hu with rfl | hu
    · rw [eqU_of r f.1]; exact eqAt_V r rx f.1 fx
    · exact mem_eqAt rx fx t f.2 u' hu
noncomputable def inV (x : V) (xs : List V) : Bool := xs.any fun y => eqV y x
/-- x in a list or tuple of flat items -/
noncomputable def rIn (K : PySem.W.Frag) (neg : Bool) : R2 := fun x y H Q => ∃ p xs, y = .ref p ∧ (SqL K H p xs ∨ SqT K H p xs) ∧ flatV x = true ∧ xs.all flatV = true ∧ Q (.bl (if neg then !inV x xs else inV x xs)) H
theorem op_in_seq : OpR X (compareOp .In) (rIn X.K false) := by
  intro pins s σ H x y v u Q I rx ry h
  obtain ⟨p, xs, rfl, hq, fx, fs, q⟩ := h
  cases ry
  rcases hq with hq | hq
  · obtain ⟨its, r, pl, hz⟩ := I.list hq
    refine SeqAt.in_listAt (eqU x) pl.isList (fun w hw => mem_eqAt rx fx r fs w (by simpa using hw)) ⟨.bl _, H, I, rfl, ?_⟩
    rw [show its.toArray.any (eqU x) = its.any (eqU x) by simp, any_eqU r fs]
    exact q
  · obtain ⟨its, r, pl, hz⟩ := I.tuple hq
    refine SeqAt.in_tupleAt (eqU x) pl (fun w hw => mem_eqAt rx fx r fs w (by simpa using hw)) ⟨.bl _, H, I, rfl, ?_⟩
    rw [show its.toArray.any (eqU x) = its.any (eqU x) by simp, any_eqU r fs]
    exact q
theorem op_notIn_seq : OpR X (compareOp .NotIn) (rIn X.K true) := by
  intro pins s σ H x y v u Q I rx ry h
  obtain ⟨p, xs, rfl, hq, fx, fs, q⟩ := h
  cases ry
  rcases hq with hq | hq
  · obtain ⟨its, r, pl, hz⟩ := I.list hq
    refine SeqAt.notIn_listAt (eqU x) pl.isList (fun w hw => mem_eqAt rx fx r fs w (by simpa using hw)) ⟨.bl _, H, I, rfl, ?_⟩
    rw [show its.toArray.any (eqU x) = its.any (eqU x) by simp, any_eqU r fs]
    exact q
  · obtain ⟨its, r, pl, hz⟩ := I.tuple hq
    refine SeqAt.notIn_tupleAt (eqU x) pl (fun w hw => mem_eqAt rx fx r fs w (by simpa using hw)) ⟨.bl _, H, I, rfl, ?_⟩
    rw [show its.toArray.any (eqU x) = its.any (eqU x) by simp, any_eqU r fs]
    exact q
/-! ### len, list(x), tuple(x) of any list or tuple that is read -/
theorem call_len_seq : CallR X (.builtin "len") (fun xs H Q => ∃ p ys, xs = [.ref p] ∧ (SqL X.K H p ys ∨ SqT X.K H p ys) ∧ Q (.int ys.length) H) := by
  intro pins s σ H xs us Q I r h
  obtain ⟨p, ys, rfl, hq, q⟩ := h
  obtain ⟨u, rfl, rx⟩ := vals1 r
  cases rx
  have hn := line63
  rcases hq with hq | hq
  · obtain ⟨its, r', pl, hz⟩ := I.list hq
    have hlen := r'.length
    exact Calls.call_len_list pl.isList (by simp only [List.size_toArray] <;> omega) ⟨.int ys.length, H, I.tok _, ⟨s.toks + 1, by rw [List.size_toArray, hlen]⟩, q⟩
  · obtain ⟨its, r', pl, hz⟩ := I.tuple hq
    have hlen := r'.length
    exact len_tuple pl (by simp only [List.size_toArray] <;> omega) ⟨.int ys.length, H, I.tok _, ⟨s.toks + 1, by rw [List.size_toArray, hlen]⟩, q⟩
theorem call_len_str : CallR X (.builtin "len") (fun xs H Q => ∃ z, xs = [.str z] ∧ z.length ≤ sizeLine ∧ Q (.int z.length) H) := by
  intro pins s σ H xs us Q I r h
  obtain ⟨z, rfl, hz, q⟩ := h
  obtain ⟨u, rfl, t, rfl⟩ := vals1 r
  have hn := line63
  exact len_str (by omega) ⟨.int z.length, H, I.tok _, ⟨_, rfl⟩, q⟩
theorem CallR.or {f : Value} {r r' : List V → Hp → VK → Prop} (h : CallR X f r) (h' : CallR X f r') : CallR X f (fun xs H Q => r xs H Q ∨ r' xs H Q) := by
  intro pins s σ H xs us Q I rs q
  rcases q with q | q
  · exact h pins s σ H xs us Q I rs q
  · exact h' pins s σ H xs us Q I rs q
theorem call_list_of : CallR X (.type "list") (fun xs H Q => ∃ p ys, xs = [.ref p] ∧ (SqL X.K H p ys ∨ SqT X.K H p ys) ∧ ∀ l, H l = none → Q (.ref l) (upd H l (.lst ys))) := by
  intro pins s σ H xs us Q I r h
  obtain ⟨p, ys, rfl, hq, q⟩ := h
  obtain ⟨u, rfl, rx⟩ := vals1 r
  cases rx
  have fin : ∀ (its : List Value), Vals ys its → ys.length ≤ sizeLine → ∀ (h' : Heap) (c' : Nat), (∀ b o', s.heap.get? b = some o' → h'.get? b = some o') →
      h'.get? s.heap.objs.size = some { cls := .type "list", dict := none, data := .seq its.toArray c', slots := #[] } → EP X pins σ Q (.ref s.heap.objs.size) { s with heap := h' } := fun its r' hz h' c' kp e =>
    ⟨.ref s.heap.objs.size, _, I.laid (t' := s.toks) kp (Nat.le_refl _) (show ObjOk X.prog X.w _ h' _ (.lst ys) from ⟨hz, its, c', r', e⟩), rfl, q _ (I.hok.fresh (Nat.le_refl _))⟩
  rcases hq with hq | hq
  · obtain ⟨its, r', pl, hz⟩ := I.list hq
    have hlen := r'.length
    obtain ⟨o, ho, hc, n, hd⟩ := pl.isList
    exact call_list_seq p (.inl rfl) ho hc hd (fun h' c' kp e => fin its r' hz h' c' kp e) (by simp only [List.size_toArray] <;> omega)
  · obtain ⟨its, r', pl, hz⟩ := I.tuple hq
    have hlen := r'.length
    obtain ⟨o, ho, hc, n, hd⟩ := pl
    exact call_list_seq p (.inr rfl) ho hc hd (fun h' c' kp e => fin its r' hz h' c' kp e) (by simp only [List.size_toArray] <;> omega)
/-! ### the call of a builtin's method: o.m(..) -/
/-- the value is of that builtin type -/
noncomputable def tyV (K : PySem.W.Frag) (T : String) (x : V) (H : Hp) : Prop := match x with
  | .str _ => T = "str"
  | .int _ => T = "int"
  | .ref p => (T = "list" ∧ ∃ xs, SqL K H p xs) ∨ (T = "tuple" ∧ ∃ o, K.lookup p = some o ∧ o.cls = .type "tuple" ∧ o.dict = none) ∨
      (T = "dict" ∧ ((∃ kvs, H p = some (.dK kvs)) ∨ ∃ kvs, H p = some (.dT kvs))) ∨ (T = "set" ∧ ∃ S n, H p = some (.set S n))
  | _ => False
theorem tyV_is {pins : List (Addr × Obj)} {σ : St} {H : Hp} {s : Shared} {T : String} {x : V} {v : Value} (I : Inv X pins σ H s) (r : RelV x v) (ty : tyV X.K T x H) :
    s.TypeIs v T ∧ ∀ a, v = .ref a → ∃ ob, s.heap.get? a = some ob ∧ ob.dict = none := by
  cases x with
  | str z =>
    obtain ⟨t, rfl⟩ := r
    cases (show T = "str" from ty)
    exact ⟨typeIs_str s z t, fun _ e => nomatch e⟩
  | int i =>
    obtain ⟨t, rfl⟩ := r
    cases (show T = "int" from ty)
    exact ⟨typeIs_int s i t, fun _ e => nomatch e⟩
  | ref p =>
    cases r
    rcases ty with ⟨rfl, xs, hq⟩ | ⟨rfl, o, hk, hc, hd⟩ | ⟨rfl, hk⟩ | ⟨rfl, S, n, hk⟩
    · obtain ⟨its, _, pl, _⟩ := I.list hq
      refine ⟨pl.isList.typeIs, fun a e => ?_⟩
      cases e
      obtain ⟨o, n, e, c, hd, _⟩ := pl
      exact ⟨o, e, hd⟩
    · refine ⟨⟨o, I.kIn p o hk, hc⟩, fun a e => ?_⟩
      cases e
      exact ⟨o, I.kIn _ o hk, hd⟩
    · have z : ∃ o, s.heap.get? p = some o ∧ o.ExactDict := by
        rcases hk with ⟨kvs, hk⟩ | ⟨kvs, hk⟩
        · obtain ⟨_, _, _, _, o, _, _, e, ex, _⟩ := I.hok p _ hk
          exact ⟨o, e, ex⟩
        · obtain ⟨_, _, _, _, o, _, _, e, ex, _⟩ := I.hok p _ hk
          exact ⟨o, e, ex⟩
      obtain ⟨o, e, ex⟩ := z
      refine ⟨⟨o, e, ex.1⟩, fun a e2 => ?_⟩
      cases e2
      exact ⟨o, e, ex.2.1⟩
    · obtain ⟨o, _, _, _, e, ex, _⟩ := I.hok p _ hk
      refine ⟨⟨o, e, ex.1⟩, fun a e2 => ?_⟩
      cases e2
      exact ⟨o, e, ex.2.1⟩
  | _ => exact False.elim ty
noncomputable def tBM (K : PySem.W.Frag) (T : String) (r : V → List V → Hp → VK → Prop) (to : TE) (t : TA) : TE := fun σ H Q => to σ H fun x H1 => tyV K T x H1 ∧ t σ H1 fun xs H2 => r x xs H2 Q
variable {o e : Expr} {es : List Expr} {to : TE} {t : TA} {name : Str} {apos cpos : Pos} {T id : String} {r : V → List V → Hp → VK → Prop}
theorem pe_bm (pa : PlainAttrs T) (slot : Slot T name id) (hty : typeOf (.builtin id) = pure (.type "method_descriptor")) (hm : MtR X id r) (ho : PE X o to) (ha : PA X (e :: es) t)
    (hbase : attributeBase o name X.env (eval o X.env) = eval o X.env := by rfl)
    (hfew : ((backTo cpos (starEach (e :: es) X.env)).all (fun x => !x.1) && (backToKw cpos (keywordEach [] X.env)).all (fun x => x.1.isSome)
      && decide ((e :: es).length + ([] : List Keyword).length + (if ([] : List Keyword).isEmpty then 0 else 1) < 30)) = true := by rfl)
    (hline : (apos.endLine == cpos.line) = true := by rfl) (hs : starEach (e :: es) X.env = (false, eval e X.env) :: starEach es X.env := by rfl) (hplain : (backTo cpos (starEach es X.env)).any (·.1) = false := by rfl) :
    PE X (.Call (.Attribute o name apos) (e :: es) [] cpos) (tBM X.K T r to t) := by
  intro pins s σ H Q I h
  refine wpAny_Call_method_late hbase hfew hline rfl (thn (ho pins s σ H _ I h) fun v s1 ⟨x, H1, I1, r1, ty, q1⟩ => ?_)
  obtain ⟨h1, h2⟩ := tyV_is I1 r1 ty
  refine ⟨T, id, pa, slot, hty, h1, h2, ?_⟩
  have hA := ha cpos pins s1 σ H1 _ I1 q1
  rw [hs] at hA ⊢
  refine Calls.callWith_builtin (by show (false || (backTo cpos (starEach es X.env)).any (·.1)) = false; rw [hplain] <;> rfl) (Calls.evalArgs_plain ?_)
  exact thn hA fun us s2 ⟨vs, H2, I2, r2, q2⟩ => hm pins s2 σ H2 x vs v us Q I2 r1 r2 q2
/- xs.append(e), list.index on a module's tuple .. are MtR facts of 06m -/
end
end L2

namespace L2
open PySem PySem.Spec PyProof.Rows

noncomputable def MtM (X : Cx) (id : String) (r : V → List V → Hp → VK → Prop) : Prop :=
  ∀ (pins : List (Addr × Obj)) (s : Shared) (σ : St) (H : Hp) (x : V) (xs : List V) (v : Value) (us : List Value) (Q : VK), Inv X pins σ H s → RelV x v → Vals xs us → r x xs H Q →
    wpAny (model X.prog X.w) X.A (call (.builtin id) (v :: us)) (EP X pins σ Q) X.xe s

/-! ### lists of values -/
theorem Vals.one : ∀ {x : V} {us : List Value}, Vals [x] us → ∃ u, us = [u] ∧ RelV x u
  | _, _, .cons r .nil => ⟨_, rfl, r⟩
theorem Vals.zero : ∀ {us : List Value}, Vals [] us → us = []
  | _, .nil => rfl
section
variable {X : Cx} {pins : List (Addr × Obj)} {σ : St} {H : Hp} {s : Shared} {l b : Addr} {xs ys zs : List V}

/-! ### the two steps: a tracked list is rewritten, a new list is laid -/
theorem Inv.lset {its its' : List Value} {n : Nat} {f : Array Value → Array Value} {t' : Nat} (I : Inv X pins σ H s) (hH : H l = some (.lst xs))
    (e : s.heap.get? l = some { cls := .type "list", data := .seq its.toArray n }) (hf : f its.toArray = its'.toArray) (hv : Vals ys its') (hz : ys.length ≤ sizeLine) :
    Inv X pins σ (upd H l (.lst ys)) { s with heap := s.heap.update l (Obj.mapSeq f), toks := t' } := by
  have q := PySem.IsL.update e f
  rw [hf] at q
  refine I.write (x := l) (e := l) (by rw [hH]; exact trivial) (.inl rfl) (fun b' u hb hu => (Heap.get?_update_other s.heap (Obj.mapSeq f) (Ne.symm hb)).trans hu) ⟨_, q⟩ ?_
  exact ⟨hz, its', _, hv, q⟩
theorem Inv.lnew {its : List Value} {t' : Nat} (I : Inv X pins σ H s) (hv : Vals ys its) (hz : ys.length ≤ sizeLine) :
    Inv X pins σ (upd H s.heap.objs.size (.lst ys)) { s with heap := s.heap.push { cls := .type "list", data := .seq its.toArray }, toks := t' } :=
  I.laid (fun _ _ q => Heap.get?_push_of_some _ q) (Nat.le_refl _) ⟨hz, its, 0, hv, Heap.get?_push_size _ rfl⟩
theorem Inv.fresh (I : Inv X pins σ H s) : H s.heap.objs.size = none := I.hok.fresh (Nat.le_refl _)
theorem Inv.lstM (I : Inv X pins σ H s) (hH : H l = some (.lst xs)) : xs.length ≤ sizeLine ∧ ∃ (its : List Value) (n : Nat), Vals xs its ∧ xs.length = its.length ∧ s.heap.get? l = some { cls := .type "list", data := .seq its.toArray n } := by
  obtain ⟨z, its, n, r, e⟩ := I.hok l _ hH
  exact ⟨z, its, n, r, r.length, e⟩

end

section
variable {X : Cx}

/-! ### methods -/
noncomputable def rAppend : V → List V → Hp → VK → Prop := fun x vs H Q => ∃ l xs y, x = .ref l ∧ vs = [y] ∧ H l = some (.lst xs) ∧ xs.length < sizeLine ∧ Q .non (upd H l (.lst (xs ++ [y])))
theorem mt_append : MtM X "list.append" rAppend := by
  intro pins s σ H x vs v us Q I rx rv h
  obtain ⟨l, xs, y, rfl, rfl, hH, hz, q⟩ := h
  cases rx
  obtain ⟨u, rfl, ru⟩ := rv.one
  obtain ⟨z, its, n, r, hl, e⟩ := I.lstM hH
  refine call_meets F.slot_list_append ⟨_, e, rfl⟩ F.entry_list_append (F.args_list_append_2 _ _) (PySem.list_append l its.toArray n u (by rw [List.size_toArray]; omega)) ⟨e, ?_⟩
  refine ⟨.non, _, I.lset (its' := its ++ [u]) hH e (by simp) (r.append (.cons ru .nil)) ?_, rfl, q⟩
  rw [List.length_append, List.length_singleton]
  omega

/-! ### list + list, list += list, list * int -/
/-! ### del xs[i] -/
end

/-! ### xs[a:b] = ys -/
section
variable {prog : Program} {w : World} {A : Around} {E : Value → Shared → Prop} {s : Shared}
end

section
variable {X : Cx}
end
end L2

namespace Att
open PySem PySem.W PySem.Calls PyProof.Rows

/-! ### the script -/
theorem ints_of_wellAll {P : Params} {h : Heap} : ∀ (ns : List Int) (vs : List Value), WellAll P h vs (ns.map WData.int) → IntsAre vs ns := by
  intro ns
  induction ns with
  | nil =>
    intro vs w
    rw [List.map_nil] at w
    cases w
    exact .nil
  | cons n ns ih =>
    intro vs w
    rw [List.map_cons] at w
    cases w with
    | cons a b =>
      cases a
      exact .cons _ _ (ih _ b)

theorem script_of {l : OpenLaw} {n : Nat} (hn : l.most = some n) {P : Params} {h : Heap} {args : List WData} {vals : List Value}
    (hpre : l.row.toRowW.claim.pre args = true) (hwl : WellAll P h vals args) :
    ∃ a vs ns, vals = [Value.ref a] ∧ args = [WData.list (ns.map WData.int)] ∧ h.get? a = some { cls := .type "list", data := .seq vs.toArray } ∧ IntsAre vs ns ∧ ns.length ≤ n := by
  have hsh : WShape.hasAll [] args [.list .int] = true := (pre_splitW hpre).1
  have hc : l.pre.holds [] { args := args } = true := (pre_splitW hpre).2
  obtain ⟨d, r, rfl, h1, h2⟩ := hasAllW_cons hsh
  obtain rfl := hasAllW_nil h2
  obtain ⟨xs, rfl, h3⟩ := hasW_list h1
  obtain ⟨ns, rfl⟩ := items_int h3
  have hlen : ns.length ≤ n := by
    unfold OpenLaw.pre at hc
    have h4 : (WTm.not (.lt (.lit (.int (n : Int))) (.len (.arg 0)))).holds [] { args := [.list (ns.map .int)] } = true := by
      have h4 := (holds_andW hc).1
      rw [hn] at h4
      exact h4
    have h5 := condW_of h4 (w_not (w_lt w_lit (w_len_list (w_arg rfl))))
    rw [List.length_map] at h5
    refine Nat.le_of_not_lt fun q => ?_
    have q' : (n : Int) < ((ns.length : Nat) : Int) := by omega
    first
      | (rw [decide_eq_true q'] at h5; exact absurd h5 (by decide))
      | (simp at h5; omega)
  cases hwl with
  | cons w1 w2 =>
    cases w2
    cases w1 with
    | list ho hall => exact ⟨_, _, ns, rfl, rfl, ho, ints_of_wellAll ns _ hall, hlen⟩

theorem post_true (l : OpenLaw) (args : List WData) : l.row.toRowW.claim.post args (.bool true) args = true :=
  postW_of (r := l.row.toRowW) (X := (true == true))
    (show WShape.has [] (.bool true) .bool = true by first | rfl | decide | simp [WShape.has, WShape.arms, WShape.armsAll])
    (show (WTm.eq .res (.lit (.bool true))).value [] { args := args, res := some (.bool true), after := args } = some (.bool (true == true)) from w_eq_bool (w_res rfl) w_lit) rfl

/-! ### the attachment: holds_open's last premise (the goal 'hc' behind k_head) from a wpAny of the law's body -/
/-- the same from a codeAny of the CALL (for a layer whose function contracts speak of calls) -/
theorem attach_call {l : OpenLaw} {n : Nat} {q : Program} {loose : List Str} {XP : (Str → Option Value) → Heap → Prop} {YP : World → Heap → Prop} {d : DefRec}
    (hn : l.most = some n) (hdf : d.params.defaults = [])
    (call : ∀ (w : World) (s₀ s₁ : Shared) (mg mb : Str → Option Value) (fa : Addr) (o : Obj) (pm cd doc : Value) (a : Addr) (vs : List Value) (ns : List Int),
      Ground q loose [] XP w s₀ mg mb s₁.heap → YP w s₁.heap →
      s₁.heap.get? fa = some o → o.data = .func (docDef d.name d.params d.body d.scope pm cd doc) → s₁.heap.CodeRec cd d.name → mg d.name = some (.ref fa) →
      s₁.heap.get? a = some { cls := .type "list", data := .seq vs.toArray } → IntsAre vs ns → ns.length ≤ n → s₁.gens = #[] →
      codeAny (model l.prog w) callerA (.call (.ref fa) ⟨[.ref a], []⟩) (fun r s' => r = .ok (.ret (.bool true)) ∧ OldK s₁.heap s'.heap ∧ s'.os = s₁.os ∧ AllBare s'.gens) s₁) :
    WalkO q loose XP YP l.row.toRowW d [] (fun f vs => PySem.call f vs) := by
  intro w s₀ s₁ mg mb G Y fa o pm cd doc dV kV ho hd hcd hD hmg hg args vals as hpre hlay hrd hwl hlo
  obtain rfl : dV = .none := Dflts.none hD hdf
  obtain rfl : kV = .none := Dflts.noKw hD
  obtain ⟨a, vs, ns, rfl, rfl, hobj, hints, hlen⟩ := script_of hn hpre hwl
  refine enter_call (codeAny_mono (call w s₀ s₁ mg mb fa o pm cd doc a vs ns G Y ho (fd_plain hd) hcd hmg hobj hints hlen hg) fun r s' hq => ?_)
  obtain ⟨rfl, h2, h3, h4⟩ := hq
  exact ⟨.inl ⟨.bool true, .bool true, [], rfl, fun _ => rfl, .bool true, post_true l _, fun _ => ⟨List.Pairwise.nil, fun _ hm => (nomatch hm)⟩⟩, h2, h3, h4⟩

/-! ### rules over ANY heap (no ledger) from facts about the written part K: the library's own take a ledger (News) for what they write -/
section
variable {prog : Program} {w : World} {A : Around} {E : Value → Shared → Prop} {s : Shared} {K : Frag}

/-! the whole heap as the ledger: makes every rule that writes through a ledger a rule over any heap -/
end
end Att

namespace L2
open PySem PySem.Spec PyProof.Rows

theorem vals_ints : ∀ {vs : List Value} {ns : List Int}, IntsAre vs ns → Vals (ns.map V.int) vs
  | _, _, .nil => .nil
  | _, _, .cons n t h => .cons ⟨t, rfl⟩ (vals_ints h)

/-- nothing is tracked but the script, known to the object (or it is an object of the module) -/
noncomputable def Only (H : Hp) : Prop := ∀ b, H b = none ∨ ∃ o xs, H b = some (.frz o (.lst xs))

/-- THE HEAD: the law's promise, at the heap behind the top. F, the promise of the law's def, may use that base is part of the heap (so K.In base, base.Ns mainGlobals mg stand in Mod) -/
theorem law_call {P : Program} {w : World} {K : PySem.W.Frag} {mg mb : Str → Option Value} {CX : CXT} {k : Nat} {fa a : Addr} {fd : FuncData} {x : Str} {sp : Sp} {s₁ : Shared} {vs : List Value} {ns : List Int}
    (KX : K.In s₁.heap) (hns : s₁.heap.Ns mainGlobals mg) (hb : s₁.heap.Ns builtinsNs mb) (hbb : ∀ x : Str, x ≠ "__name__" → mb x = bootBuiltins x) (hlim : s₁.heap.NoLimit) (hg : s₁.gens = #[])
    (ha : s₁.heap.get? a = some { cls := .type "list", data := .seq vs.toArray }) (hi : IntsAre vs ns) (hl : ns.length ≤ sizeLine) (hr : Room k callerA)
    (F : ∀ base : Heap, K.In base → base.Ns mainGlobals mg → FnOk P w K mg base CX k fa fd [x] sp) (hbind : ∀ (s : Shared) (u : Value), BindsTo s fd ⟨[u], []⟩ [(x, u)])
    (hsp : ∀ H : Hp, Only H → SqL K H a (ns.map V.int) → sp [.ref a] H (fun v _ => v = .bl true) fun _ _ _ => False)
    (hCX : ∀ H e s', CX [] H s₁ (fun _ _ _ => False) e s' → False) :
    codeAny (model P w) callerA (.call (.ref fa) ⟨[.ref a], []⟩) (fun r s' => r = .ok (.ret (.bool true)) ∧ OldK s₁.heap s'.heap ∧ s'.os = s₁.os ∧ AllBare s'.gens) s₁ := by
  have rv := vals_ints hi
  have lenV := hi.length
  -- from an abstract heap in which nothing but the script may be tracked
  have core : ∀ H : Hp, Only H → SqL K H a (ns.map V.int) → HOk P w H s₁.heap → (∀ b, H b ≠ none → b = a) → (H a ≠ none → K.lookup a = none) →
      codeAny (model P w) callerA (.call (.ref fa) ⟨[.ref a], []⟩) (fun r s' => r = .ok (.ret (.bool true)) ∧ OldK s₁.heap s'.heap ∧ s'.os = s₁.os ∧ AllBare s'.gens) s₁ := by
    intro H hO hS hok hA hK
    have base_of : ∀ {b : Addr} {o : Obj}, s₁.heap.get? b = some o → H b = none → (hidT s₁.heap H).get? b = some o := fun e n => hidT_get e n
    have noA : ∀ {b : Addr} {o : Obj} {es : Array DictEntry} {ep : Nat}, s₁.heap.get? b = some o → o.data = .dict es ep → H b = none := fun {b o es ep} e d => by
      cases q : H b with
      | none => rfl
      | some u =>
        have e' : b = a := hA b (by rw [q]; simp)
        subst e'
        rw [ha] at e; cases e
        have d' : Data.seq vs.toArray _ = Data.dict es ep := d
        cases d'
    have nsK : ∀ {b : Addr} {m : Str → Option Value}, s₁.heap.Ns b m → (hidT s₁.heap H).Ns b m := fun {b m} ⟨o, es, ep, e, d, r⟩ => ⟨o, es, ep, base_of e (noA e d), d, r⟩
    have hKb : K.In (hidT s₁.heap H) := fun b o e => base_of (KX b o e) (by
      cases q : H b with
      | none => rfl
      | some u =>
        have e' : b = a := hA b (by rw [q]; simp)
        subst e'
        rw [hK (by rw [q]; simp)] at e; cases e)
    have hM : Mod K mg (hidT s₁.heap H) := ⟨hKb, nsK hns, ⟨mb, nsK hb, hbb⟩, let ⟨mc, h1, h2⟩ := hlim; ⟨mc, nsK h1, h2⟩⟩
    have e0 : Env0 P w K mg (hidT s₁.heap H) callerA [] s₁ H := ⟨rfl, hM, fun b o e => of_hidT e, Nat.le_of_eq (hidT_size _ _), trivial, fun b hb => absurd (show b ∈ ([] : List Addr) from hb) (by simp), hok, .of_eq hg⟩
    refine codeAny_mono ((F _ hKb (nsK hns)).run callerA [] s₁ H ⟨[.ref a], []⟩ [.ref a] [.ref a] _ _ hr e0 (hbind s₁ (.ref a)) (.cons rfl .nil) (hsp H hO hS)) fun r s' h => ?_
    cases r with
    | error e => exact (hCX H e s' h).elim
    | ok fl =>
      cases fl with
      | next => exact False.elim h
      | brk => exact False.elim h
      | cont => exact False.elim h
      | ret u =>
        obtain ⟨v, H', os, bare, un, hok', r', q⟩ := h
        have q' : v = .bl true := q
        subst q'
        obtain rfl : u = Value.bool true := r'
        refine ⟨rfl, OldK.of_keep fun b o e => ?_, os, bare⟩
        cases q : H b with
        | none => exact un.keep b o e q (by intro z; exact absurd (show b ∈ ([] : List Addr) from z) (by simp)) (by simp)
        | some u =>
          rcases hO b with z | ⟨ob, xs, z⟩
          · rw [q] at z; cases z
          · have z2 := un.frzs b ob _ z
            obtain ⟨e1, _⟩ := hok b _ z
            obtain ⟨e2, _⟩ := hok' b _ z2
            rw [e] at e1; cases e1
            exact e2
  cases hk : K.lookup a with
  | some o =>
    -- the script is one of the module's own objects
    have e := KX a o hk
    rw [ha] at e
    cases e
    refine core (fun _ => none) (fun _ => .inl rfl) (.inr ⟨_, vs.toArray, _, hk, rfl, rfl, rfl, by rw [List.size_toArray, lenV]; exact hl, by simpa using rv⟩) (fun b u z => by have z' : (none : Option HO) = some u := z; cases z') (fun b z => absurd rfl z) fun z => absurd rfl z
  | none =>
    refine core (fun b => if b = a then some (.frz { cls := .type "list", data := .seq vs.toArray } (.lst (ns.map V.int))) else none) (fun b => ?_) (.inl (.inr ⟨{ cls := .type "list", data := .seq vs.toArray }, if_pos rfl⟩)) (fun b u z => ?_) (fun b z => ?_) fun _ => hk
    · by_cases hb : b = a
      · exact .inr ⟨_, _, if_pos hb⟩
      · exact .inl (if_neg hb)
    · by_cases hb : b = a
      · have z' := (if_pos hb).symm.trans z
        cases z'
        subst hb
        exact ⟨ha, by rw [List.length_map]; exact hl, vs, _, rv, ha⟩
      · have z' := (if_neg hb).symm.trans z
        cases z'
    · by_cases hb : b = a
      · exact hb
      · exact absurd (if_neg hb) z
end L2

namespace L2
open PySem PySem.Spec PyProof.Rows

/-- the goal that k_head leaves (case hc), from the law's promise. F gives the function object fd (K's own) once, then the promise over every base -/
theorem walk_of {l : PySem.W.OpenLaw} {n k : Nat} {q : Program} {loose : List Str} {XP : (Str → Option Value) → Heap → Prop} {YP : World → Heap → Prop} {d : DefRec} {K : Params → PySem.W.Frag} {CX : World → CXT} {sp : World → Sp} {x : Str}
    (hn : l.most = some n) (hn2 : n ≤ sizeLine) (hdf : d.params.defaults = []) (hr : Room k callerA)
    (hY : ∀ (w : World) (h : Heap), YP w h → (K w.params).In h)
    (F : ∀ (w : World) (mg : Str → Option Value) (fa : Addr) (h : Heap), (K w.params).In h → h.Ns mainGlobals mg → mg d.name = some (.ref fa) →
      ∃ fd : FuncData, (∀ (s : Shared) (u : Value), BindsTo s fd ⟨[u], []⟩ [(x, u)]) ∧
        ∀ base : Heap, (K w.params).In base → base.Ns mainGlobals mg → FnOk l.prog w (K w.params) mg base (CX w) k fa fd [x] (sp w))
    (hsp : ∀ (w : World) (H : Hp) (a : Addr) (ns : List Int), ns.length ≤ n → Only H → SqL (K w.params) H a (ns.map V.int) → sp w [.ref a] H (fun v _ => v = .bl true) fun _ _ _ => False)
    (hCX : ∀ (w : World) (H : Hp) (s : Shared) (e : Value) (s' : Shared), CX w [] H s (fun _ _ _ => False) e s' → False) :
    PySem.W.WalkO q loose XP YP l.row.toRowW d [] (fun f vs => PySem.call f vs) := by
  refine Att.attach_call hn hdf fun w s₀ s₁ mg mb fa o pm cd doc a vs ns G Y ho hd hcd hmg hobj hints hlen hg => ?_
  have KX := hY w _ Y
  obtain ⟨fd, hb, hF⟩ := F w mg fa _ KX G.T.g hmg
  exact law_call KX G.T.g G.T.b G.T.builtins G.T.nolimit hg hobj hints (Nat.le_trans hlen hn2) hr hF hb (fun H hO hS => hsp w H a ns hlen hO hS) fun H e s' => hCX w H s₁ e s'
/-- the same where the promise hangs on the written part alone: (sp := My.sp_law), no hole under a binder -/
theorem walk_ofK {l : PySem.W.OpenLaw} {n k : Nat} {q : Program} {loose : List Str} {XP : (Str → Option Value) → Heap → Prop} {YP : World → Heap → Prop} {d : DefRec} {K : Params → PySem.W.Frag} {CX : CXT} {sp : PySem.W.Frag → Sp} {x : Str}
    (hn : l.most = some n) (hn2 : n ≤ sizeLine) (hdf : d.params.defaults = []) (hr : Room k callerA)
    (hY : ∀ (w : World) (h : Heap), YP w h → (K w.params).In h)
    (F : ∀ (w : World) (mg : Str → Option Value) (fa : Addr) (h : Heap), (K w.params).In h → h.Ns mainGlobals mg → mg d.name = some (.ref fa) →
      ∃ fd : FuncData, (∀ (s : Shared) (u : Value), BindsTo s fd ⟨[u], []⟩ [(x, u)]) ∧
        ∀ base : Heap, (K w.params).In base → base.Ns mainGlobals mg → FnOk l.prog w (K w.params) mg base CX k fa fd [x] (sp (K w.params)))
    (hsp : ∀ (K : PySem.W.Frag) (H : Hp) (a : Addr) (ns : List Int), ns.length ≤ n → Only H → SqL K H a (ns.map V.int) → sp K [.ref a] H (fun v _ => v = .bl true) fun _ _ _ => False)
    (hCX : ∀ (H : Hp) (s : Shared) (e : Value) (s' : Shared), CX [] H s (fun _ _ _ => False) e s' → False) :
    PySem.W.WalkO q loose XP YP l.row.toRowW d [] (fun f vs => PySem.call f vs) :=
  walk_of (K := K) (CX := fun _ => CX) (sp := fun w => sp (K w.params)) hn hn2 hdf hr hY F (fun w H a ns h1 h2 h3 => hsp (K w.params) H a ns h1 h2 h3) fun _ H s e s' => hCX H s e s'
end L2

/- THE LAST THEOREM (shape; LID, My.* are yours):
   My.Adr: a structure of the addresses that your layer names (classes, functions); My.Txt K t: a structure (Prop) of the equations over K;
   My.txt_mk : {K} {implicit addresses ..} (e1 : nsIn K mainGlobals "law" = some (some (.ref f))) (e2 : K.lookup f = some ⟨oc, od, .func (fnOf "law" "law" params body scope dV kV doc pm an cdv ct), sl⟩) (e3 : codeIn K cdv "law" = true) .. : ∃ t, My.Txt K t

(the tactic k_is has no namespace: write k_is) -/

/-! SHORT WORDS over the layer: a def of the text, its body, what a loop and a test want. -/
namespace L2
open PySem PySem.Spec PyProof.Rows

/-! ### the text by places -/
noncomputable def defArgs (s : Stmt) : Arguments := match s with
  | .FunctionDef _ a _ _ _ _ _ _ _ _ => a
  | _ => { posonlyargs := [], args := [], vararg := none, kwonlyargs := [], kw_defaults := [], kwarg := none, defaults := [] }
noncomputable def defBody (s : Stmt) : List Stmt := match s with
  | .FunctionDef _ _ b _ _ _ _ _ _ _ => b
  | _ => []
noncomputable def defScope (s : Stmt) : Scope := match s with
  | .FunctionDef _ _ _ _ _ _ sc _ _ _ => sc
  | _ => { kind := .function, names := [], isGenerator := false, isCoroutine := false }

/-! ### no exception leaves a def -/
noncomputable abbrev CX0 : CXT := fun _ _ _ _ _ _ => False
noncomputable abbrev E0 : XK := fun _ _ _ => False
theorem pass0 {X : Cx} : Passes CX0 X E0 := fun _ _ _ _ _ _ _ h => h.elim

/-! ### a def (or method) of the text as it stands behind the top -/
structure Fun (K : PySem.W.Frag) (x qual : Str) (st : Stmt) (f : Addr) (fd : FuncData) : Prop where
  ex : ∃ (oc : Value) (od : Option Addr) (kV doc pm : Value) (an : Option Addr) (cdv ct : Value) (osl : Array (Option Value)),
    fd = PySem.W.fnOf x qual (defArgs st) (defBody st) (defScope st) .none kV doc pm an cdv ct ∧ K.lookup f = some ⟨oc, od, .func fd, osl⟩ ∧ PySem.W.codeIn K cdv qual = true
  kp : PySem.W.keepIn K (.ref f) = true
section
variable {P : Program} {w : World} {K : PySem.W.Frag} {mg : Str → Option Value} {base : Heap}
/-- how its arguments bind (no defaults): h is «fun _ _ _ _ _ _ us hl => match us, hl with | [_, _], _ => rfl», one _ a parameter -/
theorem Fun.binds {x qual : Str} {st : Stmt} {f : Addr} {fd : FuncData} {ps : List Str} (F : Fun K x qual st f fd)
    (h : ∀ (kV doc pm : Value) (an : Option Addr) (cdv ct : Value) (us : List Value), us.length = ps.length → bindArgs (PySem.W.fnOf x qual (defArgs st) (defBody st) (defScope st) .none kV doc pm an cdv ct) ⟨us, []⟩ = pure (ps.zip us)) : Binds K fd ps [] := by
  obtain ⟨oc, od, kV, doc, pm, an, cdv, ct, osl, rfl, lk, hcd⟩ := F.ex
  exact .all (h kV doc pm an cdv ct)
theorem fun_mk {x qual : Str} {st : Stmt} {f : Addr} {oc : Value} {od an : Option Addr} {osl : Array (Option Value)} {kV doc pm cdv ct : Value} (l : K.lookup f = some ⟨oc, od, .func (PySem.W.fnOf x qual (defArgs st) (defBody st) (defScope st) .none kV doc pm an cdv ct), osl⟩)
    (c : PySem.W.codeIn K cdv qual = true) (k : PySem.W.keepIn K (.ref f) = true) : Fun K x qual st f (PySem.W.fnOf x qual (defArgs st) (defBody st) (defScope st) .none kV doc pm an cdv ct) := ⟨⟨oc, od, kV, doc, pm, an, cdv, ct, osl, rfl, l, c⟩, k⟩
end
/-! ### expressions in short: the name that stands in the i-th slot -/
section
variable {X : Cx}
end

/-! ### tests -/
/-! ### heaps -/
/-- all that was tracked is as it was -/
noncomputable def Same (H H' : Hp) : Prop := ∀ b o, H b = some o → H' b = some o
theorem Same.refl (H : Hp) : Same H H := fun _ _ h => h
theorem Same.trans {H H1 H2 : Hp} (a : Same H H1) (b : Same H1 H2) : Same H H2 := fun c o h => b c o (a c o h)
theorem Same.free {H H' : Hp} (e : Same H H') {l : Addr} (h : H' l = Option.none) : H l = Option.none := by
  cases q : H l with
  | none => rfl
  | some o =>
    rw [e l o q] at h
    cases h
theorem Same.seq {K : PySem.W.Frag} {H H' : Hp} {a : Addr} {xs : List V} (e : Same H H') (h : SqL K H a xs) : SqL K H' a xs := by
  rcases h with (h | ⟨o, h⟩) | h
  · exact .inl (.inl (e _ _ h))
  · exact .inl (.inr ⟨o, e _ _ h⟩)
  · exact .inr h

end L2


set_option maxHeartbeats 4000000
/-! Rules of our own over the guide's hand layer (namespace L2): a text walked sign by sign, reversed, join, index, a text's slice, all, any, is, isinstance, a list comprehension. -/
namespace L2
open PySem PySem.Spec PyProof.Rows

/-! ### a text, sign by sign -/
section
variable {X : Cx} {tg : Expr}
end
/-! ### reversed(xs) of a list -/
section
variable {X : Cx} {tg : Expr}
end
/-! ### texts -/
section
variable {X : Cx}
/-- z[lo:hi] -/
noncomputable def rSlS : V → Option Int → Option Int → Hp → VK → Prop := fun x lo hi H Q => ∃ z, x = .str z ∧ z.length ≤ sizeLine ∧ Q (.str (Txt.slice z lo hi)) H
theorem sl_str : SlR X rSlS := by
  intro pins s σ H x v vl vu lo hi sl Q I rx hs pl pu h
  obtain ⟨z, rfl, hz, q⟩ := h
  obtain ⟨t, rfl⟩ := rx
  refine ⟨"str", _, F.slot_str_getitem.lookup, typeIs_str _ _ _, ?_⟩
  obtain ⟨o, ho, hc, hd⟩ := hs
  cases pl <;> cases pu
  · exact wpAny_getItem_str_slice (l := none) (u := none) (st := none) ⟨o, ho, hc, hd⟩ rfl (post_val_or_str ⟨Nat.le_trans (Txt.slice_le z none none) hz, fun t' k => ⟨.str _, H, I.tok _, ⟨_, rfl⟩, q⟩⟩)
  · rename_i j uj
    exact wpAny_getItem_str_slice (l := none) (u := some (j, uj)) (st := none) ⟨o, ho, hc, hd⟩ rfl (post_val_or_str ⟨Nat.le_trans (Txt.slice_le z none (some j)) hz, fun t' k => ⟨.str _, H, I.tok _, ⟨_, rfl⟩, q⟩⟩)
  · rename_i i ui
    exact wpAny_getItem_str_slice (l := some (i, ui)) (u := none) (st := none) ⟨o, ho, hc, hd⟩ rfl (post_val_or_str ⟨Nat.le_trans (Txt.slice_le z (some i) none) hz, fun t' k => ⟨.str _, H, I.tok _, ⟨_, rfl⟩, q⟩⟩)
  · rename_i i ui j uj
    exact wpAny_getItem_str_slice (l := some (i, ui)) (u := some (j, uj)) (st := none) ⟨o, ho, hc, hd⟩ rfl (post_val_or_str ⟨Nat.le_trans (Txt.slice_le z (some i) (some j)) hz, fun t' k => ⟨.str _, H, I.tok _, ⟨_, rfl⟩, q⟩⟩)

/-! ### is, is not: one side a bool -/
theorem op_isB : OpR X (compareOp .Is) (fun x y H Q => ∃ b, y = .bl b ∧ Q (.bl (decide (x = .bl b))) H) := by
  intro pins s σ H x y v u Q I rx ry h
  obtain ⟨b, rfl, q⟩ := h
  cases ry
  cases x with
  | bl c => cases rx; exact wpAny_pure (fin_bl I q (by cases b <;> cases c <;> rfl))
  | non => cases rx; exact wpAny_pure (fin_bl I q (by simp))
  | int _ => obtain ⟨t, rfl⟩ := rx; exact wpAny_pure (fin_bl I q (by simp))
  | str _ => obtain ⟨t, rfl⟩ := rx; exact wpAny_pure (fin_bl I q (by simp))
  | byt _ => obtain ⟨t, rfl⟩ := rx; exact wpAny_pure (fin_bl I q (by simp))
  | flt _ => obtain ⟨t, rfl⟩ := rx; exact wpAny_pure (fin_bl I q (by simp))
  | ref _ => cases rx; exact wpAny_pure (fin_bl I q (by simp))
  | ty _ => cases rx; exact wpAny_pure (fin_bl I q (by simp))
theorem op_isnotB : OpR X (compareOp .IsNot) (fun x y H Q => ∃ b, y = .bl b ∧ Q (.bl (!decide (x = .bl b))) H) := by
  intro pins s σ H x y v u Q I rx ry h
  obtain ⟨b, rfl, q⟩ := h
  cases ry
  cases x with
  | bl c => cases rx; exact wpAny_pure (fin_bl I q (by cases b <;> cases c <;> rfl))
  | non => cases rx; exact wpAny_pure (fin_bl I q (by simp))
  | int _ => obtain ⟨t, rfl⟩ := rx; exact wpAny_pure (fin_bl I q (by simp))
  | str _ => obtain ⟨t, rfl⟩ := rx; exact wpAny_pure (fin_bl I q (by simp))
  | byt _ => obtain ⟨t, rfl⟩ := rx; exact wpAny_pure (fin_bl I q (by simp))
  | flt _ => obtain ⟨t, rfl⟩ := rx; exact wpAny_pure (fin_bl I q (by simp))
  | ref _ => cases rx; exact wpAny_pure (fin_bl I q (by simp))
  | ty _ => cases rx; exact wpAny_pure (fin_bl I q (by simp))

/-! ### isinstance(x, T), T a built-in type -/
/-! ### all, any of a list of bools -/
end
end L2


/-! A list comprehension of one clause, its element (and its test) read in a context of its own (our own rule over the guide's hand layer) -/
namespace L2
open PySem PySem.Spec PyProof.Rows

/-! ### the cells that a block takes over -/
/-- a block's names as it sees them -/
noncomputable def relN (psc : Scope) (names : List (Str × NameKind)) : List (Str × NameKind) := names.map fun (n, k) => if (k == .free && psc.kind == .function && psc.names.lookup n == some .cell) then (n, .cell) else (n, k)
/-! ### the block's context -/
/-- what is asked of the block's table: x its own name, cs the names that it takes over, with their slots -/
noncomputable def compOkB (N : List Str) (psc : Scope) (x : Str) (cs : List (Str × Nat)) (scope : Scope) : Bool :=
  scope.kind == .function && scope.names.lookup x == some .local && decide ((x :: cs.map (·.1)).Nodup) &&
  scope.names.all (fun y => y.2 != .cell && (y.2 != .local || scope.names.lookup y.1 == some .local) && (y.2 != .free || (psc.names.lookup y.1 == some .cell || psc.names.lookup y.1 == some .free))) &&
  cs.all (fun p => N[p.2]? == some p.1 && (psc.names.lookup p.1 == some .cell || psc.names.lookup p.1 == some .free) && ((relN psc scope.names).lookup p.1 == some .cell || (relN psc scope.names).lookup p.1 == some .free))
structure CompOk (N : List Str) (psc : Scope) (x : Str) (cs : List (Str × Nat)) (scope : Scope) : Prop where
  kind : scope.kind = .function
  own : scope.names.lookup x = some .local
  nd : (x :: cs.map (·.1)).Nodup
  cell : ∀ y ∈ scope.names, y.2 ≠ .cell
  names : ∀ y ∈ scope.names, y.2 = .local → scope.names.lookup y.1 = some .local
  has : ∀ y ∈ scope.names, y.2 = .free → psc.names.lookup y.1 = some .cell ∨ psc.names.lookup y.1 = some .free
  cap : ∀ p ∈ cs, N[p.2]? = some p.1 ∧ (psc.names.lookup p.1 = some .cell ∨ psc.names.lookup p.1 = some .free) ∧ ((relN psc scope.names).lookup p.1 = some .cell ∨ (relN psc scope.names).lookup p.1 = some .free)
theorem CompOk.of {N : List Str} {psc : Scope} {x : Str} {cs : List (Str × Nat)} {scope : Scope} (h : compOkB N psc x cs scope = true) : CompOk N psc x cs scope := by
  unfold compOkB at h
  simp only [Bool.and_eq_true, Bool.or_eq_true, List.all_eq_true, beq_iff_eq, decide_eq_true_eq, bne_iff_ne, ne_eq] at h
  obtain ⟨⟨⟨⟨h1, h2⟩, h3⟩, h4⟩, h5⟩ := h
  refine ⟨h1, h2, h3, fun y hy => (h4 y hy).1.1, fun y hy e => ?_, fun y hy e => ?_, fun p hp => ⟨(h5 p hp).1.1, (h5 p hp).1.2, (h5 p hp).2⟩⟩
  · rcases (h4 y hy).1.2 with z | z
    · exact absurd e z
    · exact z
  · rcases (h4 y hy).2 with z | z
    · exact absurd e z
    · exact z

section
variable {prog : Program} {w : World} {A : Around} {R : Result → Shared → Prop} {s : Shared}
end

section
variable {X : Cx} {elt iter : Expr} {ifs : List Expr} {x : Str} {px : Pos} {scope : Scope} {pos : Pos} {wi : TI} {tq : TT} {te : TE} {cs : List (Str × Nat)}

end

/-! ### the forms one uses -/
theorem same_new {H : Hp} {D : Addr} {o : HO} (hD : H D = none) : Same H (upd H D o) := fun b ob e => by
  rw [upd_ne (ne_of_none e hD)]
  exact e
end L2


/-! Data with references to cells; what it means that the heap holds them (our own) -/
namespace E3
open PySem PySem.Spec PyProof.Rows L2
/-- a datum: lists by value never change any more; ref n is the cell n -/
inductive D where
  | non | bl (b : Bool) | int (i : Int) | str (s : Str) | tup (xs : List D) | lst (xs : List D) | ref (n : Nat)
inductive Cl where
  | lst (ds : List D) | obj (c : Str) (fs : List (Str × D))
noncomputable abbrev Mm := List Cl
inductive Slot where
  | un | val (d : D) | own (ds : List D)
noncomputable abbrev Env := List Slot
mutual
/-- no list, no cell within -/
noncomputable def D.lf : D → Bool
  | .tup xs => D.lfs xs
  | .lst _ => false
  | .ref _ => false
  | _ => true
noncomputable def D.lfs : List D → Bool
  | [] => true
  | a :: as => D.lf a && D.lfs as
end
/-- a list of the module's own -/
noncomputable def KL (K : PySem.W.Frag) (a : Addr) (vs : List V) : Prop := ∃ (o : Obj) (its : Array Value) (n : Nat), K.lookup a = some o ∧ o.cls = .type "list" ∧ o.dict = none ∧ o.data = .seq its n ∧ its.size ≤ sizeLine ∧ Vals vs its.toList
/-- where cells stand, how many there are, what is barred -/
structure Pl where
  io : Nat → Addr
  n : Nat
  bd : Addr → Prop
noncomputable def RdA (K : PySem.W.Frag) (P : Pl) (H : Hp) (a : Addr) (vs : List V) : Prop := (¬ P.bd a ∧ Rd H a (.lst vs)) ∨ KL K a vs
noncomputable def RdK (K : PySem.W.Frag) (P : Pl) (H : Hp) (a : Addr) (vs : List V) : Prop := ((∀ k, k < P.n → P.io k ≠ a) ∧ Rd H a (.lst vs)) ∨ KL K a vs
mutual
noncomputable def Is (K : PySem.W.Frag) (P : Pl) (H : Hp) : D → V → Prop
  | .non, v => v = .non
  | .bl b, v => v = .bl b
  | .int i, v => v = .int i
  | .str s, v => v = .str s
  | .tup ds, v => ∃ a vs, v = .ref a ∧ SqT K H a vs ∧ Iss K P H ds vs
  | .lst ds, v => ∃ a vs, v = .ref a ∧ RdA K P H a vs ∧ Iss K P H ds vs
  | .ref k, v => k < P.n ∧ v = .ref (P.io k)
noncomputable def Iss (K : PySem.W.Frag) (P : Pl) (H : Hp) : List D → List V → Prop
  | [], vs => vs = []
  | d :: ds, vs => ∃ v r, vs = v :: r ∧ Is K P H d v ∧ Iss K P H ds r
end
/-- a thing of the heap that never changes -/
noncomputable def Fx (o : HO) : Prop := (∃ xs, o = .tup xs) ∨ ∃ u w, o = .frz u w
/-- later: what is no cell and not barred stays -/
structure Lt (P : Pl) (H : Hp) (P' : Pl) (H' : Hp) : Prop where
  n : P.n ≤ P'.n
  io : ∀ k, k < P.n → P'.io k = P.io k
  bd : ∀ a, P'.bd a → P.bd a ∨ H a = none
  keep : ∀ a o, H a = some o → (Fx o ∨ ¬ P.bd a) → H' a = some o
  sure : ∀ a, H' a = none → H a = none
section
variable {K : PySem.W.Frag} {P P' P'' : Pl} {H H' H'' : Hp}
theorem Lt.refl (P : Pl) (H : Hp) : Lt P H P H := ⟨Nat.le_refl _, fun _ _ => rfl, fun _ z => .inl z, fun _ _ e _ => e, fun _ z => z⟩
theorem Lt.not (l : Lt P H P' H') {a : Addr} {o : HO} (e : H a = some o) (n : ¬ P.bd a) : ¬ P'.bd a := fun z => (l.bd a z).elim n fun z => by rw [e] at z; cases z
theorem Lt.trans (l : Lt P H P' H') (m : Lt P' H' P'' H'') : Lt P H P'' H'' where
  n := Nat.le_trans l.n m.n
  io := fun k h => (m.io k (Nat.lt_of_lt_of_le h l.n)).trans (l.io k h)
  bd := fun a z => (m.bd a z).elim (l.bd a) fun z => .inr (l.sure a z)
  keep := fun a o e h => m.keep a o (l.keep a o e h) (h.imp id fun n => l.not e n)
  sure := fun a z => l.sure a (m.sure a z)
theorem Lt.rd (l : Lt P H P' H') {a : Addr} {xs : List V} (n : ¬ P.bd a) (h : Rd H a (.lst xs)) : Rd H' a (.lst xs) := by
  rcases h with h | ⟨o, h⟩
  · exact .inl (l.keep _ _ h (.inr n))
  · exact .inr ⟨o, l.keep _ _ h (.inr n)⟩
theorem rd_some {a : Addr} {o : HO} (h : Rd H a o) : ∃ o', H a = some o' := h.elim (fun h => ⟨_, h⟩) fun ⟨_, h⟩ => ⟨_, h⟩
theorem Lt.rda (l : Lt P H P' H') {a : Addr} {xs : List V} (h : RdA K P H a xs) : RdA K P' H' a xs := h.imp (fun ⟨n, h⟩ => ⟨by obtain ⟨o, e⟩ := rd_some h; exact l.not e n, l.rd n h⟩) id
theorem Lt.tup (l : Lt P H P' H') {a : Addr} {xs : List V} (h : SqT K H a xs) : SqT K H' a xs := by
  rcases h with (h | ⟨o, h⟩) | h
  · exact .inl (.inl (l.keep _ _ h (.inl (.inl ⟨_, rfl⟩))))
  · exact .inl (.inr ⟨o, l.keep _ _ h (.inl (.inr ⟨_, _, rfl⟩))⟩)
  · exact .inr h
mutual
theorem Is.lt (l : Lt P H P' H') : ∀ {d : D} {v : V}, Is K P H d v → Is K P' H' d v
  | .non, _, h => h
  | .bl _, _, h => h
  | .int _, _, h => h
  | .str _, _, h => h
  | .tup ds, _, h => by
    obtain ⟨a, vs, e, s, r⟩ := h
    exact ⟨a, vs, e, l.tup s, Iss.lt l r⟩
  | .lst ds, _, h => by
    obtain ⟨a, vs, e, s, r⟩ := h
    exact ⟨a, vs, e, l.rda s, Iss.lt l r⟩
  | .ref k, _, h => ⟨Nat.lt_of_lt_of_le h.1 l.n, by rw [l.io k h.1]; exact h.2⟩
theorem Iss.lt (l : Lt P H P' H') : ∀ {ds : List D} {vs : List V}, Iss K P H ds vs → Iss K P' H' ds vs
  | [], _, h => h
  | _ :: _, _, h => by
    obtain ⟨v, r, e, p, q⟩ := h
    exact ⟨v, r, e, Is.lt l p, Iss.lt l q⟩
end
/-- fewer barred places -/
noncomputable def Pl.less (P : Pl) (B : Addr → Prop) : Pl := { P with bd := fun a => P.bd a ∧ B a }
mutual
theorem Is.less {B : Addr → Prop} : ∀ {d : D} {v : V}, Is K P H d v → Is K (P.less B) H d v
  | .non, _, h => h
  | .bl _, _, h => h
  | .int _, _, h => h
  | .str _, _, h => h
  | .tup ds, _, h => by
    obtain ⟨a, vs, e, s, r⟩ := h
    exact ⟨a, vs, e, s, Iss.less r⟩
  | .lst ds, _, h => by
    obtain ⟨a, vs, e, s, r⟩ := h
    exact ⟨a, vs, e, s.imp (fun ⟨n, h⟩ => ⟨fun z => n z.1, h⟩) id, Iss.less r⟩
  | .ref k, _, h => h
theorem Iss.less {B : Addr → Prop} : ∀ {ds : List D} {vs : List V}, Iss K P H ds vs → Iss K (P.less B) H ds vs
  | [], _, h => h
  | _ :: _, _, h => by
    obtain ⟨v, r, e, p, q⟩ := h
    exact ⟨v, r, e, Is.less p, Iss.less q⟩
end
mutual
/-- what holds no list and no cell is so anywhere -/
theorem Is.free (P' : Pl) : ∀ {d : D} {v : V}, d.lf = true → Is K P H d v → Is K P' H d v
  | .non, _, _, h => h
  | .bl _, _, _, h => h
  | .int _, _, _, h => h
  | .str _, _, _, h => h
  | .tup ds, _, l, h => by
    obtain ⟨a, vs, e, s, r⟩ := h
    exact ⟨a, vs, e, s, Iss.free P' (by simpa only [D.lf] using l) r⟩
  | .lst _, _, l, _ => by simp [D.lf] at l
  | .ref _, _, l, _ => by simp [D.lf] at l
theorem Iss.free (P' : Pl) : ∀ {ds : List D} {vs : List V}, D.lfs ds = true → Iss K P H ds vs → Iss K P' H ds vs
  | [], _, _, h => h
  | _ :: _, _, l, h => by
    obtain ⟨v, r, e, p, q⟩ := h
    simp only [D.lfs, Bool.and_eq_true] at l
    exact ⟨v, r, e, Is.free P' l.1 p, Iss.free P' l.2 q⟩
end
theorem Iss.len : ∀ {ds : List D} {vs : List V}, Iss K P H ds vs → vs.length = ds.length
  | [], _, h => by rw [show _ = [] from h]; rfl
  | d :: ds, _, h => by
    obtain ⟨v, r, e, _, q⟩ := h
    subst e
    simp [Iss.len q]
theorem Iss.get : ∀ {ds : List D} {vs : List V} {i : Nat} {d : D}, Iss K P H ds vs → ds[i]? = some d → ∃ v, vs[i]? = some v ∧ Is K P H d v
  | [], _, _, _, _, e => by simp at e
  | d :: ds, _, 0, _, h, e => by
    obtain ⟨v, r, e', p, _⟩ := h
    simp at e
    subst e e'
    exact ⟨v, rfl, p⟩
  | d :: ds, _, i + 1, _, h, e => by
    obtain ⟨v, r, e', _, q⟩ := h
    subst e'
    simpa using Iss.get (i := i) q (by simpa using e)
theorem Iss.append : ∀ {ds es : List D} {vs ws : List V}, Iss K P H ds vs → Iss K P H es ws → Iss K P H (ds ++ es) (vs ++ ws)
  | [], _, _, _, h, q => by rw [show _ = [] from h]; exact q
  | d :: ds, _, _, _, h, q => by
    obtain ⟨v, r, e, p, h⟩ := h
    subst e
    exact ⟨v, r ++ _, rfl, p, Iss.append h q⟩
theorem Iss.take : ∀ {ds : List D} {vs : List V} (n : Nat), Iss K P H ds vs → Iss K P H (ds.take n) (vs.take n)
  | _, _, 0, _ => rfl
  | [], _, n + 1, h => by rw [show _ = [] from h]; rfl
  | d :: ds, _, n + 1, h => by
    obtain ⟨v, r, e, p, h⟩ := h
    subst e
    exact ⟨v, _, rfl, p, Iss.take n h⟩
theorem Iss.drop : ∀ {ds : List D} {vs : List V} (n : Nat), Iss K P H ds vs → Iss K P H (ds.drop n) (vs.drop n)
  | _, _, 0, h => h
  | [], _, n + 1, h => by rw [show _ = [] from h]; rfl
  | d :: ds, _, n + 1, h => by
    obtain ⟨v, r, e, p, h⟩ := h
    subst e
    exact Iss.drop n h
theorem Iss.one {d : D} {v : V} (h : Is K P H d v) : Iss K P H [d] [v] := ⟨v, [], rfl, h, rfl⟩
theorem Iss.cons {d : D} {v : V} {ds : List D} {vs : List V} (h : Is K P H d v) (q : Iss K P H ds vs) : Iss K P H (d :: ds) (v :: vs) := ⟨v, vs, rfl, h, q⟩
theorem Iss.set : ∀ {ds : List D} {vs : List V} {d : D} {v : V} (n : Nat), Iss K P H ds vs → Is K P H d v → Iss K P H (ds.set n d) (vs.set n v)
  | [], _, _, _, _, h, _ => by rw [show _ = [] from h]; rfl
  | d :: ds, _, _, _, 0, h, p => by
    obtain ⟨v, r, e, _, h⟩ := h
    subst e
    exact ⟨_, r, rfl, p, h⟩
  | d :: ds, _, _, _, n + 1, h, p => by
    obtain ⟨v, r, e, q, h⟩ := h
    subst e
    exact ⟨v, _, rfl, q, Iss.set n h p⟩
end
/-! ### the cells -/
noncomputable def CellOk (K : PySem.W.Frag) (mg : Str → Option Value) (P : Pl) (H : Hp) (a : Addr) : Cl → Prop
  | .lst ds => ∃ vs, H a = some (.lst vs) ∧ Iss K P H ds vs
  | .obj c fs => ∃ C dx gs, mg c = some (.ref C) ∧ H a = some (.ins C dx gs) ∧ gs.map (·.1) = fs.map (·.1) ∧ Iss K P H (fs.map (·.2)) (gs.map (·.2))
structure Hk (K : PySem.W.Frag) (mg : Str → Option Value) (P : Pl) (H : Hp) (M : Mm) : Prop where
  n : P.n = M.length
  cell : ∀ (k : Nat) c, M[k]? = some c → CellOk K mg P H (P.io k) c
  inj : ∀ j k, j < P.n → k < P.n → P.io j = P.io k → j = k
  bd : ∀ k, k < P.n → P.bd (P.io k)
  here : ∀ a, P.bd a → H a ≠ none
/-- later, as an expression does it: what is no cell stays -/
structure LtE (P : Pl) (H : Hp) (P' : Pl) (H' : Hp) : Prop where
  n : P.n ≤ P'.n
  io : ∀ k, k < P.n → P'.io k = P.io k
  bd : ∀ a, P'.bd a → P.bd a ∨ H a = none
  bm : ∀ a, P.bd a → P'.bd a
  keep : ∀ a o, H a = some o → (∀ k, k < P.n → P.io k ≠ a) → H' a = some o
  sure : ∀ a, H' a = none → H a = none
  nw : ∀ k, P.n ≤ k → k < P'.n → H (P'.io k) = none
section
variable {K : PySem.W.Frag} {mg : Str → Option Value} {P P' P'' : Pl} {H H' H'' : Hp} {M M' : Mm}
theorem LtE.refl (P : Pl) (H : Hp) : LtE P H P H := ⟨Nat.le_refl _, fun _ _ => rfl, fun _ z => .inl z, fun _ z => z, fun _ _ e _ => e, fun _ z => z, fun k h1 h2 => absurd h1 (Nat.not_le.mpr h2)⟩
theorem LtE.same (s : Same H H') : LtE P H P H' := ⟨Nat.le_refl _, fun _ _ => rfl, fun _ z => .inl z, fun _ z => z, fun a o e _ => s a o e, fun a z => s.free z, fun k h1 h2 => absurd h1 (Nat.not_le.mpr h2)⟩
theorem Hk.cellAt (h : Hk K mg P H M) {k : Nat} (hk : k < P.n) : ∃ o, H (P.io k) = some o ∧ ¬ Fx o := by
  obtain ⟨c, hc⟩ : ∃ c, M[k]? = some c := ⟨_, List.getElem?_eq_getElem (by rw [← h.n]; exact hk)⟩
  have := h.cell k c hc
  cases c with
  | lst ds =>
    obtain ⟨vs, e, _⟩ := this
    exact ⟨_, e, fun z => by rcases z with ⟨_, z⟩ | ⟨_, _, z⟩ <;> cases z⟩
  | obj c fs =>
    obtain ⟨C, dx, gs, _, e, _⟩ := this
    exact ⟨_, e, fun z => by rcases z with ⟨_, z⟩ | ⟨_, _, z⟩ <;> cases z⟩
theorem LtE.lt (l : LtE P H P' H') (h : Hk K mg P H M) : Lt P H P' H' where
  n := l.n
  io := l.io
  bd := l.bd
  sure := l.sure
  keep := fun a o e z => l.keep a o e fun k hk q => by
    subst q
    rcases z with z | z
    · obtain ⟨o', e', nf⟩ := h.cellAt hk
      rw [e] at e'
      cases e'
      exact nf z
    · exact z (h.bd k hk)
theorem LtE.trans (l : LtE P H P' H') (m : LtE P' H' P'' H'') : LtE P H P'' H'' where
  n := Nat.le_trans l.n m.n
  io := fun k h => (m.io k (Nat.lt_of_lt_of_le h l.n)).trans (l.io k h)
  bd := fun a z => (m.bd a z).elim (l.bd a) fun z => .inr (l.sure a z)
  bm := fun a z => m.bm a (l.bm a z)
  keep := fun a o e h => m.keep a o (l.keep a o e h) fun k hk q => by
    rcases Nat.lt_or_ge k P.n with z | z
    · rw [l.io k z] at q
      exact h k z q
    · rw [← q, l.nw k z hk] at e
      cases e
  sure := fun a z => l.sure a (m.sure a z)
  nw := fun k h1 h2 => by
    rcases Nat.lt_or_ge k P'.n with z | z
    · rw [m.io k z]
      exact l.nw k h1 z
    · exact l.sure _ (m.nw k z h2)
end
end E3


/-! == and other comparisons of data (our own) -/
namespace E3
open PySem PySem.Spec PyProof.Rows L2
inductive Cp where
  | eq | ne | lt | le | gt | ge | isin | notin | same | other
mutual
/-- == of Python -/
noncomputable def D.eq : D → D → Bool
  | .non, .non => true
  | .bl a, .bl b => a == b
  | .bl a, .int b => (if a then 1 else 0) == b
  | .int a, .bl b => a == (if b then 1 else 0)
  | .int a, .int b => a == b
  | .str a, .str b => a == b
  | .tup a, .tup b => D.eqs a b
  | .lst a, .lst b => D.eqs a b
  | .ref a, .ref b => a == b
  | _, _ => false
noncomputable def D.eqs : List D → List D → Bool
  | [], [] => true
  | a :: as, b :: bs => D.eq a b && D.eqs as bs
  | _, _ => false
end
mutual
noncomputable def D.dep : D → Nat
  | .tup xs => D.deps xs + 1
  | .lst xs => D.deps xs + 1
  | .ref _ => 101
  | _ => 0
noncomputable def D.deps : List D → Nat
  | [] => 0
  | a :: as => max (D.dep a) (D.deps as)
end
noncomputable def D.flat : D → Bool
  | .tup _ => false
  | .lst _ => false
  | .ref _ => false
  | _ => true
noncomputable def inStr (i j : Str) : Bool := !(Builtin.Str.occurrences j i 0 j.length 1).isEmpty
/-- both flat, or neither -/
noncomputable def eqOk (a b : D) : Bool := a.flat == b.flat && decide (b.dep ≤ 50)
noncomputable def cEq (a b : D) : Option Bool := if eqOk a b = true ∧ a.dep ≤ 50 then some (D.eq a b) else none
noncomputable def cNe (a b : D) : Option Bool := if eqOk a b = true ∧ a.dep ≤ 50 then some (!D.eq a b) else none
noncomputable def cOrd (f : Int → Int → Bool) (a b : D) : Option Bool := match a with
  | .int i => (match b with | .int j => some (f i j) | _ => none)
  | _ => none
noncomputable def cIn (a b : D) : Option Bool := match b with
  | .str j => (match a with | .str i => some (inStr i j) | _ => none)
  | .lst xs => if (a.flat && xs.all D.flat) = true then some (xs.any fun y => D.eq y a) else none
  | .tup xs => if (a.flat && xs.all D.flat) = true then some (xs.any fun y => D.eq y a) else none
  | _ => none
noncomputable def cNin (a b : D) : Option Bool := match b with
  | .str j => (match a with | .str i => some (!inStr i j) | _ => none)
  | .lst xs => if (a.flat && xs.all D.flat) = true then some (!xs.any fun y => D.eq y a) else none
  | .tup xs => if (a.flat && xs.all D.flat) = true then some (!xs.any fun y => D.eq y a) else none
  | _ => none
noncomputable def cSame (a b : D) : Option Bool := match b with
  | .bl b => (match a with | .bl a => some (a == b) | _ => some false)
  | .non => (match a with | .non => some true | _ => some false)
  | _ => none
noncomputable def cOther (a b : D) : Option Bool := match b with
  | .bl b => (match a with | .bl a => some (!(a == b)) | _ => some true)
  | .non => (match a with | .non => some false | _ => some true)
  | _ => none
noncomputable def cmpD (c : Cp) (a b : D) : Option Bool := match c with
  | .eq => cEq a b
  | .ne => cNe a b
  | .lt => cOrd (fun i j => decide (i < j)) a b
  | .le => cOrd (fun i j => decide (i ≤ j)) a b
  | .gt => cOrd (fun i j => decide (j < i)) a b
  | .ge => cOrd (fun i j => decide (j ≤ i)) a b
  | .isin => cIn a b
  | .notin => cNin a b
  | .same => cSame a b
  | .other => cOther a b
/-- a value that is only looked at: a list may stand where no cell does -/
noncomputable def IsB (K : PySem.W.Frag) (P : Pl) (H : Hp) : D → V → Prop
  | .lst ds, v => ∃ a vs, v = .ref a ∧ RdK K P H a vs ∧ Iss K P H ds vs
  | d, v => Is K P H d v
section
variable {X : Cx} {pins : List (Addr × Obj)} {σ : L2.St} {H : Hp} {s : Shared}
theorem sqlOf {K : PySem.W.Frag} {P : Pl} {a : Addr} {xs : List V} (h : RdK K P H a xs) : SqL K H a xs := h.imp (·.2) id
/-- a list as it is looked at -/
noncomputable def IsW (K : PySem.W.Frag) (P : Pl) (H : Hp) : D → V → Prop
  | .lst ds, v => ∃ a vs, v = .ref a ∧ SqL K H a vs ∧ Iss K P H ds vs
  | d, v => Is K P H d v
theorem IsB.w {K : PySem.W.Frag} {P : Pl} {d : D} {v : V} (h : IsB K P H d v) : IsW K P H d v := by
  cases d <;> first | exact h | (obtain ⟨a, vs, e, r, q⟩ := h; exact ⟨a, vs, e, sqlOf r, q⟩)
theorem Is.w {K : PySem.W.Frag} {P : Pl} {d : D} {v : V} (h : Is K P H d v) : IsW K P H d v := by
  cases d <;> first | exact h | (obtain ⟨a, vs, e, r, q⟩ := h; exact ⟨a, vs, e, r.imp (·.2) id, q⟩)
theorem sql {l : Addr} {xs : List V} (I : Inv X pins σ H s) (h : SqL X.K H l xs) : xs.length ≤ sizeLine ∧ ∃ its : List Value, Vals xs its ∧ s.heap.IsList l its.toArray := by
  obtain ⟨its, r, p, z⟩ := I.list h
  exact ⟨z, its, r, p.isList⟩
mutual
theorem Is.inj (I : Inv X pins σ H s) {A B : Pl} : ∀ (d e : D) (v : V), IsW X.K A H d v → IsW X.K B H e v → d.dep ≤ 100 → e.dep ≤ 100 → d = e
  | .ref _, e, v, h, h', hd, he => by simp [D.dep] at hd
  | .non, e, v, h, h', hd, he => by
    have hv : v = .non := h
    subst hv
    cases e <;> first | (simp [D.dep] at he; done) | (simp [IsW, Is] at h' <;> rfl)
  | .bl b, e, v, h, h', hd, he => by
    have hv : v = .bl b := h
    subst hv
    cases e <;> first | (simp [D.dep] at he; done) | (simp [IsW, Is] at h' <;> simp [h'])
  | .int b, e, v, h, h', hd, he => by
    have hv : v = .int b := h
    subst hv
    cases e <;> first | (simp [D.dep] at he; done) | (simp [IsW, Is] at h' <;> simp [h'])
  | .str b, e, v, h, h', hd, he => by
    have hv : v = .str b := h
    subst hv
    cases e <;> first | (simp [D.dep] at he; done) | (simp [IsW, Is] at h' <;> simp [h'])
  | .tup ds, e, v, h, h', hd, he => by
    simp only [D.dep] at hd
    simp only [IsW, Is] at h
    obtain ⟨a, vs, rfl, t, r⟩ := h
    cases e with
    | tup es =>
      simp only [IsW, Is] at h'
      obtain ⟨b, ws, e1, t', r'⟩ := h'
      cases e1
      have e2 := I.tuple_inj t t'
      subst e2
      simp only [D.dep] at he
      rw [Iss.inj I ds es vs r r' (by omega) (by omega)]
    | lst es =>
      obtain ⟨b, ws, e1, t', r'⟩ := h'
      cases e1
      obtain ⟨_, its, _, o2, e2, c2, _⟩ := sql I t'
      obtain ⟨its2, _, ⟨o, e3, c3, _⟩, _⟩ := I.tuple t
      rw [e2] at e3
      cases e3
      rw [c2] at c3
      exact absurd c3 (by simp)
    | ref _ => simp [D.dep] at he
    | _ => simp [IsW, Is] at h'
  | .lst ds, e, v, h, h', hd, he => by
    simp only [D.dep] at hd
    obtain ⟨a, vs, rfl, t, r⟩ := h
    cases e with
    | lst es =>
      obtain ⟨b, ws, e1, t', r'⟩ := h'
      cases e1
      have e2 := I.list_inj (t) (t')
      subst e2
      simp only [D.dep] at he
      rw [Iss.inj I ds es vs r r' (by omega) (by omega)]
    | tup es =>
      simp only [IsW, Is] at h'
      obtain ⟨b, ws, e1, t', r'⟩ := h'
      cases e1
      obtain ⟨_, its, _, o2, e2, c2, _⟩ := sql I t
      obtain ⟨its2, _, ⟨o, e3, c3, _⟩, _⟩ := I.tuple t'
      rw [e2] at e3
      cases e3
      rw [c2] at c3
      exact absurd c3 (by simp)
    | ref _ => simp [D.dep] at he
    | _ => simp [IsW, Is] at h'
theorem Iss.inj (I : Inv X pins σ H s) {A B : Pl} : ∀ (ds es : List D) (vs : List V), Iss X.K A H ds vs → Iss X.K B H es vs → D.deps ds ≤ 100 → D.deps es ≤ 100 → ds = es
  | [], es, vs, h, h', hd, he => by
    have hv : vs = [] := h
    subst hv
    cases es with
    | nil => rfl
    | cons => simp [Iss] at h'
  | d :: ds, es, vs, h, h', hd, he => by
    simp only [D.deps] at hd
    obtain ⟨v, r, rfl, p, q⟩ := h
    cases es with
    | nil => simp [Iss] at h'
    | cons e es =>
      obtain ⟨v', r', e1, p', q'⟩ := h'
      cases e1
      simp only [D.deps] at he
      rw [Is.inj I d e v p.w p'.w (by omega) (by omega), Iss.inj I ds es r q q' (by omega) (by omega)]
end
mutual
theorem D.eq_refl : ∀ d : D, D.eq d d = true
  | .non => rfl
  | .bl b => by simp [D.eq]
  | .int b => by simp [D.eq]
  | .str b => by simp [D.eq]
  | .tup ds => by simp only [D.eq]; exact D.eqs_refl ds
  | .lst ds => by simp only [D.eq]; exact D.eqs_refl ds
  | .ref n => by simp [D.eq]
theorem D.eqs_refl : ∀ d : List D, D.eqs d d = true
  | [] => rfl
  | d :: ds => by simp only [D.eqs, D.eq_refl d, D.eqs_refl ds, Bool.and_self]
end
theorem D.eqs_len : ∀ (ds es : List D), ds.length ≠ es.length → D.eqs ds es = false
  | [], [], h => absurd rfl h
  | [], _ :: _, _ => rfl
  | _ :: _, [], _ => rfl
  | d :: ds, e :: es, h => by
    simp only [D.eqs, D.eqs_len ds es (by simpa using h), Bool.and_false]
theorem D.eqs_all : ∀ (ds es : List D), ds.length = es.length → D.eqs ds es = (List.range ds.length).all fun j => D.eq (ds.getD j .non) (es.getD j .non)
  | [], [], _ => rfl
  | d :: ds, e :: es, h => by
    rw [D.eqs, D.eqs_all ds es (by simpa using h), List.length_cons, List.range_succ_eq_map, List.all_cons, List.all_map]
    rfl

mutual
theorem eqAt (I : Inv X pins σ H s) {A B : Pl} {Ar : Around} : ∀ (d e : D) (v w : V) (u u' : Value), IsW X.K A H d v → IsW X.K B H e w → RelV v u → RelV w u' → Ar.units + d.dep < cLine → d.dep ≤ 100 → e.dep ≤ 100 → SeqAt.EqAt Ar s u u' (D.eq d e)
  | .ref _, e, v, w, u, u', h1, h2, r1, r2, hu, hd, he => by simp [D.dep] at hd
  | .non, e, v, w, u, u', h1, h2, r1, r2, hu, hd, he => by
    have hv : v = .non := h1
    subst hv
    cases r1
    have hu' : Ar.units < cLine := by omega
    cases e with
    | ref _ => simp [D.dep] at he
    | non => have hw : w = .non := h2; subst hw; cases r2; exact SeqAt.EqAt.same _
    | bl b => have hw : w = .bl b := h2; subst hw; cases r2; exact SeqAt.EqAt.none_bool _
    | int b => have hw : w = .int b := h2; subst hw; obtain ⟨t, rfl⟩ := r2; exact SeqAt.EqAt.none_int _ _
    | str b => have hw : w = .str b := h2; subst hw; obtain ⟨t, rfl⟩ := r2; exact SeqAt.EqAt.none_str _ _
    | tup es => obtain ⟨a, vs, rfl, t, _⟩ := h2; cases r2; obtain ⟨its, _, p, _⟩ := I.tuple t; exact SeqAt.EqAt.none_tuple p hu'
    | lst es => obtain ⟨a, vs, rfl, t, _⟩ := h2; cases r2; obtain ⟨_, its, _, p⟩ := sql I t; exact SeqAt.EqAt.none_list p hu'
  | .bl x, e, v, w, u, u', h1, h2, r1, r2, hu, hd, he => by
    have hv : v = .bl x := h1
    subst hv
    cases r1
    have hu' : Ar.units < cLine := by omega
    cases e with
    | ref _ => simp [D.dep] at he
    | non => have hw : w = .non := h2; subst hw; cases r2; exact SeqAt.EqAt.bool_none _
    | bl b => have hw : w = .bl b := h2; subst hw; cases r2; exact SeqAt.EqAt.bool_bool _ _
    | int b => have hw : w = .int b := h2; subst hw; obtain ⟨t, rfl⟩ := r2; exact SeqAt.EqAt.bool_int _ _ _
    | str b => have hw : w = .str b := h2; subst hw; obtain ⟨t, rfl⟩ := r2; exact SeqAt.EqAt.bool_str _ _ _
    | tup es => obtain ⟨a, vs, rfl, t, _⟩ := h2; cases r2; obtain ⟨its, _, p, _⟩ := I.tuple t; exact SeqAt.EqAt.bool_tuple _ p hu'
    | lst es => obtain ⟨a, vs, rfl, t, _⟩ := h2; cases r2; obtain ⟨_, its, _, p⟩ := sql I t; exact SeqAt.EqAt.bool_list _ p hu'
  | .int x, e, v, w, u, u', h1, h2, r1, r2, hu, hd, he => by
    have hv : v = .int x := h1
    subst hv
    obtain ⟨t0, rfl⟩ := r1
    have hu' : Ar.units < cLine := by omega
    cases e with
    | ref _ => simp [D.dep] at he
    | non => have hw : w = .non := h2; subst hw; cases r2; exact SeqAt.EqAt.int_none _ _
    | bl b => have hw : w = .bl b := h2; subst hw; cases r2; exact SeqAt.EqAt.int_bool _ _ _
    | int b => have hw : w = .int b := h2; subst hw; obtain ⟨t, rfl⟩ := r2; exact SeqAt.EqAt.int_int _ _ _ _
    | str b => have hw : w = .str b := h2; subst hw; obtain ⟨t, rfl⟩ := r2; exact SeqAt.EqAt.int_str _ _ _ _
    | tup es => obtain ⟨a, vs, rfl, t, _⟩ := h2; cases r2; obtain ⟨its, _, p, _⟩ := I.tuple t; exact SeqAt.EqAt.int_tuple _ _ p hu'
    | lst es => obtain ⟨a, vs, rfl, t, _⟩ := h2; cases r2; obtain ⟨_, its, _, p⟩ := sql I t; exact SeqAt.EqAt.int_list _ _ p hu'
  | .str x, e, v, w, u, u', h1, h2, r1, r2, hu, hd, he => by
    have hv : v = .str x := h1
    subst hv
    obtain ⟨t0, rfl⟩ := r1
    have hu' : Ar.units < cLine := by omega
    cases e with
    | ref _ => simp [D.dep] at he
    | non => have hw : w = .non := h2; subst hw; cases r2; exact SeqAt.EqAt.str_none _ _
    | bl b => have hw : w = .bl b := h2; subst hw; cases r2; exact SeqAt.EqAt.str_bool _ _ _
    | int b => have hw : w = .int b := h2; subst hw; obtain ⟨t, rfl⟩ := r2; exact SeqAt.EqAt.str_int _ _ _ _
    | str b => have hw : w = .str b := h2; subst hw; obtain ⟨t, rfl⟩ := r2; exact SeqAt.EqAt.str_str _ _ _ _
    | tup es => obtain ⟨a, vs, rfl, t, _⟩ := h2; cases r2; obtain ⟨its, _, p, _⟩ := I.tuple t; exact SeqAt.EqAt.str_tuple _ _ p hu'
    | lst es => obtain ⟨a, vs, rfl, t, _⟩ := h2; cases r2; obtain ⟨_, its, _, p⟩ := sql I t; exact SeqAt.EqAt.str_list _ _ p hu'
  | .tup ds, e, v, w, u, u', h1, h2, r1, r2, hu, hd, he => by
    have h1' := h1
    have hd' := hd
    simp only [D.dep] at hu hd
    have hu' : Ar.units < cLine := by omega
    obtain ⟨a, vs, rfl, t, q⟩ := h1
    cases r1
    obtain ⟨its, rv, p, hz⟩ := I.tuple t
    cases e with
    | ref _ => simp [D.dep] at he
    | non => have hw : w = .non := h2; subst hw; cases r2; exact SeqAt.EqAt.tuple_none p hu'
    | bl b => have hw : w = .bl b := h2; subst hw; cases r2; exact SeqAt.EqAt.tuple_bool _ p hu'
    | int b => have hw : w = .int b := h2; subst hw; obtain ⟨t, rfl⟩ := r2; exact SeqAt.EqAt.tuple_int _ _ p hu'
    | str b => have hw : w = .str b := h2; subst hw; obtain ⟨t, rfl⟩ := r2; exact SeqAt.EqAt.tuple_str _ _ p hu'
    | tup es =>
      have h2' := h2
      have he' := he
      simp only [D.dep] at he
      obtain ⟨b, ws, rfl, t', q'⟩ := h2
      cases r2
      by_cases hab : a = b
      · subst hab
        rw [Is.inj I _ _ _ h1' h2' hd' he', D.eq_refl]
        exact SeqAt.EqAt.same _
      · obtain ⟨its', rv', p', hz'⟩ := I.tuple t'
        refine SeqAt.EqAt.of_refs hab ?_
        have l1 : its.toArray.size = ds.length := by rw [List.size_toArray, ← rv.length, q.len]
        have l2 : its'.toArray.size = es.length := by rw [List.size_toArray, ← rv'.length, q'.len]
        have key := SeqAt.RcAt.tuples (A := Ar) (s := s) (e := fun j => D.eq (ds.getD j .non) (es.getD j .non)) p p' hu' fun j j1 j2 => by
          simpa using eqAts I ds es vs ws its its' q q' rv rv' (Ar := Ar.in1) (by show Ar.units + 1 + _ < _; omega) (by omega) (by omega) j (by simpa using j1) (by simpa using j2)
        rw [l1, l2] at key
        by_cases hl : ds.length = es.length
        · rw [show D.eq (.tup ds) (.tup es) = D.eqs ds es from rfl, D.eqs_all ds es hl]
          rw [hl, Nat.min_self, beq_self_eq_true, Bool.and_true] at key
          rw [hl]
          exact key
        · rw [show D.eq (.tup ds) (.tup es) = D.eqs ds es from rfl, D.eqs_len ds es hl]
          rw [beq_eq_false_iff_ne.mpr hl, Bool.and_false] at key
          exact key
    | lst es => obtain ⟨b, ws, rfl, t', _⟩ := h2; cases r2; obtain ⟨_, its', _, p'⟩ := sql I t'; exact SeqAt.EqAt.tuple_list p p' hu'
  | .lst ds, e, v, w, u, u', h1, h2, r1, r2, hu, hd, he => by
    have h1' := h1
    have hd' := hd
    simp only [D.dep] at hu hd
    have hu' : Ar.units < cLine := by omega
    obtain ⟨a, vs, rfl, t, q⟩ := h1
    cases r1
    obtain ⟨hz, its, rv, p⟩ := sql I t
    cases e with
    | ref _ => simp [D.dep] at he
    | non => have hw : w = .non := h2; subst hw; cases r2; exact SeqAt.EqAt.list_none p hu'
    | bl b => have hw : w = .bl b := h2; subst hw; cases r2; exact SeqAt.EqAt.list_bool _ p hu'
    | int b => have hw : w = .int b := h2; subst hw; obtain ⟨t, rfl⟩ := r2; exact SeqAt.EqAt.list_int _ _ p hu'
    | str b => have hw : w = .str b := h2; subst hw; obtain ⟨t, rfl⟩ := r2; exact SeqAt.EqAt.list_str _ _ p hu'
    | tup es => obtain ⟨b, ws, rfl, t', _⟩ := h2; cases r2; obtain ⟨its', _, p', _⟩ := I.tuple t'; exact SeqAt.EqAt.list_tuple p p' hu'
    | lst es =>
      have h2' := h2
      have he' := he
      simp only [D.dep] at he
      obtain ⟨b, ws, rfl, t', q'⟩ := h2
      cases r2
      by_cases hab : a = b
      · subst hab
        rw [Is.inj I _ _ _ h1' h2' hd' he', D.eq_refl]
        exact SeqAt.EqAt.same _
      · obtain ⟨hz', its', rv', p'⟩ := sql I t'
        refine SeqAt.EqAt.of_refs hab ?_
        have l1 : its.toArray.size = ds.length := by rw [List.size_toArray, ← rv.length, q.len]
        have l2 : its'.toArray.size = es.length := by rw [List.size_toArray, ← rv'.length, q'.len]
        by_cases hl : ds.length = es.length
        · have key := SeqAt.RcAt.lists (A := Ar) (s := s) (e := fun j => D.eq (ds.getD j .non) (es.getD j .non)) p p' (by rw [l1, l2, hl]) hu' fun j j1 j2 => by
            simpa using eqAts I ds es vs ws its its' q q' rv rv' (Ar := Ar.in1) (by show Ar.units + 1 + _ < _; omega) (by omega) (by omega) j (by simpa using j1) (by simpa using j2)
          rw [show D.eq (.lst ds) (.lst es) = D.eqs ds es from rfl, D.eqs_all ds es hl]
          rw [l1] at key
          exact key
        · rw [show D.eq (.lst ds) (.lst es) = D.eqs ds es from rfl, D.eqs_len ds es hl]
          exact SeqAt.RcAt.lists_lengths p p' (by rw [l1, l2]; simpa using hl) hu'
theorem eqAts (I : Inv X pins σ H s) {A B : Pl} {Ar : Around} : ∀ (ds es : List D) (vs ws : List V) (its its' : List Value), Iss X.K A H ds vs → Iss X.K B H es ws → Vals vs its → Vals ws its' → Ar.units + D.deps ds < cLine → D.deps ds ≤ 100 → D.deps es ≤ 100 →
    ∀ (j : Nat) (h1 : j < its.length) (h2 : j < its'.length), SeqAt.EqAt Ar s its[j] its'[j] (D.eq (ds.getD j .non) (es.getD j .non))
  | [], es, vs, ws, its, its', h, h', r, r', hu, hd, he, j, j1, j2 => by
    have hv : vs = [] := h
    subst hv
    cases r
    exact absurd j1 (Nat.not_lt_zero _)
  | d :: ds, [], vs, ws, its, its', h, h', r, r', hu, hd, he, j, j1, j2 => by
    have hv : ws = [] := h'
    subst hv
    cases r'
    exact absurd j2 (Nat.not_lt_zero _)
  | d :: ds, e :: es, vs, ws, its, its', h, h', r, r', hu, hd, he, j, j1, j2 => by
    obtain ⟨v, vr, rfl, p, q⟩ := h
    obtain ⟨w, wr, rfl, p', q'⟩ := h'
    simp only [D.deps] at hu hd he
    cases r with
    | cons r1 r2 =>
      cases r' with
      | cons r1' r2' =>
        cases j with
        | zero => exact eqAt I d e v w _ _ p.w p'.w r1 r1' (by omega) (by omega) (by omega)
        | succ j => exact eqAts I ds es vr wr _ _ q q' r2 r2' (by omega) (by omega) (by omega) j (by simpa using j1) (by simpa using j2)
end
theorem scal_flat {d e : D} {A B : Pl} {K : PySem.W.Frag} {v w : V} (fd : d.flat = true) (fe : e.flat = true) (h1 : IsW K A H d v) (h2 : IsW K B H e w) :
    (scal v w = true ∧ D.eq d e = decide (v = w)) ∨ (∃ a i, v = .bl a ∧ w = .int i ∧ D.eq d e = ((if a then 1 else 0) == i)) ∨ ∃ a i, v = .int i ∧ w = .bl a ∧ D.eq d e = (i == (if a then 1 else 0)) := by
  cases d <;> cases e <;> simp only [D.flat, Bool.false_eq_true] at fd fe <;> simp only [IsW, Is] at h1 h2 <;> subst h1 h2 <;> simp [scal, D.eq]
  all_goals first | rfl | (rw [Bool.eq_iff_iff]; simp)
/-- a == b, a != b of data -/
noncomputable def rEqD (K : PySem.W.Frag) (neg : Bool) : R2 := fun x y H Q => ∃ (A B : Pl) (d e : D), IsW K A H d x ∧ IsW K B H e y ∧ eqOk d e = true ∧ d.dep ≤ 50 ∧ Q (.bl (if neg then !D.eq d e else D.eq d e)) H
theorem op_eqD (hu : X.A.units + 60 < cLine) : OpR X (compareOp .Eq) (rEqD X.K false) := by
  intro pins s σ H x y v u Q I rx ry h
  obtain ⟨A, B, d, e, h1, h2, hk, hd, q⟩ := h
  have q : Q (.bl (D.eq d e)) H := q
  have fin : SeqAt.RcAt X.A s v u (D.eq d e) → wpAny (model X.prog X.w) X.A (compareOp .Eq v u) (EP X pins σ Q) X.xe s := fun r => EqBoolInt.of_rc r ⟨.bl _, H, I, rfl, q⟩
  have hu' : X.A.units < cLine := by omega
  cases fd : d.flat with
  | true =>
    simp only [eqOk, Bool.and_eq_true, decide_eq_true_eq, beq_iff_eq] at hk
    have fe : e.flat = true := hk.1.symm.trans fd
    rcases scal_flat fd fe h1 h2 with ⟨sc, eq⟩ | ⟨a, i, rfl, rfl, eq⟩ | ⟨a, i, rfl, rfl, eq⟩
    · exact op_eq pins s σ H x y v u Q I rx ry ⟨sc, by rw [← eq]; exact q⟩
    · cases rx
      obtain ⟨t, rfl⟩ := ry
      exact EqBoolInt.eq_bool_int ⟨.bl _, H, I, rfl, by rw [← eq]; exact q⟩
    · cases ry
      obtain ⟨t, rfl⟩ := rx
      exact EqBoolInt.eq_int_bool ⟨.bl _, H, I, rfl, by rw [← eq]; exact q⟩
  | false =>
    simp only [eqOk, Bool.and_eq_true, decide_eq_true_eq, beq_iff_eq] at hk
    have he := hk.2
    have fe : e.flat = false := hk.1.symm.trans fd
    cases d with
    | tup ds =>
      obtain ⟨a, vs, rfl, t, p⟩ := h1
      cases rx
      obtain ⟨its, rv, pt, hz⟩ := I.tuple t
      simp only [D.dep] at hd
      cases e with
      | tup es =>
        obtain ⟨b, ws, rfl, t', p'⟩ := h2
        cases ry
        obtain ⟨its', rv', pt', hz'⟩ := I.tuple t'
        have l1 : its.toArray.size = ds.length := by rw [List.size_toArray, ← rv.length, p.len]
        have l2 : its'.toArray.size = es.length := by rw [List.size_toArray, ← rv'.length, p'.len]
        have key := SeqAt.RcAt.tuples (A := X.A) (s := s) (e := fun j => D.eq (ds.getD j .non) (es.getD j .non)) pt pt' hu' fun j j1 j2 => by
          simpa using eqAts I ds es vs ws its its' p p' rv rv' (Ar := X.A.in1) (by show X.A.units + 1 + _ < _; omega) (by omega) (by simp only [D.dep] at he; omega) j (by simpa using j1) (by simpa using j2)
        rw [l1, l2] at key
        refine fin ?_
        by_cases hl : ds.length = es.length
        · rw [show D.eq (.tup ds) (.tup es) = D.eqs ds es from rfl, D.eqs_all ds es hl]
          rw [hl, Nat.min_self, beq_self_eq_true, Bool.and_true] at key
          rw [hl]
          exact key
        · rw [show D.eq (.tup ds) (.tup es) = D.eqs ds es from rfl, D.eqs_len ds es hl]
          rw [beq_eq_false_iff_ne.mpr hl, Bool.and_false] at key
          exact key
      | lst es =>
        obtain ⟨b, ws, rfl, t', p'⟩ := h2
        cases ry
        obtain ⟨_, its', rv', e'⟩ := sql I t'
        exact fin (SeqAt.RcAt.tuple_list pt e' hu')
      | ref _ => simp [D.dep] at he
      | _ => cases fe
    | lst ds =>
      obtain ⟨a, vs, rfl, t, p⟩ := h1
      cases rx
      obtain ⟨hz, its, rv, pt⟩ := sql I t
      simp only [D.dep] at hd
      cases e with
      | tup es =>
        obtain ⟨b, ws, rfl, t', p'⟩ := h2
        cases ry
        obtain ⟨its', rv', pt', hz'⟩ := I.tuple t'
        exact fin (SeqAt.RcAt.list_tuple pt pt' hu')
      | lst es =>
        obtain ⟨b, ws, rfl, t', p'⟩ := h2
        cases ry
        obtain ⟨_, its', rv', pt'⟩ := sql I t'
        have l1 : its.toArray.size = ds.length := by rw [List.size_toArray, ← rv.length, p.len]
        have l2 : its'.toArray.size = es.length := by rw [List.size_toArray, ← rv'.length, p'.len]
        refine fin ?_
        by_cases hl : ds.length = es.length
        · have key := SeqAt.RcAt.lists (A := X.A) (s := s) (e := fun j => D.eq (ds.getD j .non) (es.getD j .non)) pt pt' (by rw [l1, l2, hl]) hu' fun j j1 j2 => by
            simpa using eqAts I ds es vs ws its its' p p' rv rv' (Ar := X.A.in1) (by show X.A.units + 1 + _ < _; omega) (by omega) (by simp only [D.dep] at he; omega) j (by simpa using j1) (by simpa using j2)
          rw [show D.eq (.lst ds) (.lst es) = D.eqs ds es from rfl, D.eqs_all ds es hl]
          rw [l1] at key
          exact key
        · rw [show D.eq (.lst ds) (.lst es) = D.eqs ds es from rfl, D.eqs_len ds es hl]
          exact SeqAt.RcAt.lists_lengths pt pt' (by rw [l1, l2]; simpa using hl) hu'
      | ref _ => simp [D.dep] at he
      | _ => cases fe
    | ref _ => simp [D.dep] at hd
    | _ => cases fd
theorem op_neD (hu : X.A.units + 60 < cLine) : OpR X (compareOp .NotEq) (rEqD X.K true) := by
  intro pins s σ H x y v u Q I rx ry h
  obtain ⟨A, B, d, e, h1, h2, hk, hd, q⟩ := h
  have q : Q (.bl (!D.eq d e)) H := q
  have fin : SeqAt.RcNeAt X.A s v u (!D.eq d e) → wpAny (model X.prog X.w) X.A (compareOp .NotEq v u) (EP X pins σ Q) X.xe s := fun r => EqBoolInt.of_rcne r ⟨.bl _, H, I, rfl, q⟩
  have hu' : X.A.units < cLine := by omega
  cases fd : d.flat with
  | true =>
    simp only [eqOk, Bool.and_eq_true, decide_eq_true_eq, beq_iff_eq] at hk
    have fe : e.flat = true := hk.1.symm.trans fd
    rcases scal_flat fd fe h1 h2 with ⟨sc, eq⟩ | ⟨a, i, rfl, rfl, eq⟩ | ⟨a, i, rfl, rfl, eq⟩
    · exact op_ne pins s σ H x y v u Q I rx ry ⟨sc, by rw [← eq]; exact q⟩
    · cases rx
      obtain ⟨t, rfl⟩ := ry
      exact EqBoolInt.ne_bool_int ⟨.bl _, H, I, rfl, by rw [← eq]; exact q⟩
    · cases ry
      obtain ⟨t, rfl⟩ := rx
      exact EqBoolInt.ne_int_bool ⟨.bl _, H, I, rfl, by rw [← eq]; exact q⟩
  | false =>
    simp only [eqOk, Bool.and_eq_true, decide_eq_true_eq, beq_iff_eq] at hk
    have he := hk.2
    have fe : e.flat = false := hk.1.symm.trans fd
    cases d with
    | tup ds =>
      obtain ⟨a, vs, rfl, t, p⟩ := h1
      cases rx
      obtain ⟨its, rv, pt, hz⟩ := I.tuple t
      simp only [D.dep] at hd
      cases e with
      | tup es =>
        obtain ⟨b, ws, rfl, t', p'⟩ := h2
        cases ry
        obtain ⟨its', rv', pt', hz'⟩ := I.tuple t'
        have l1 : its.toArray.size = ds.length := by rw [List.size_toArray, ← rv.length, p.len]
        have l2 : its'.toArray.size = es.length := by rw [List.size_toArray, ← rv'.length, p'.len]
        have key := SeqAt.RcNeAt.tuples (A := X.A) (s := s) (e := fun j => D.eq (ds.getD j .non) (es.getD j .non)) pt pt' hu' fun j j1 j2 => by
          simpa using eqAts I ds es vs ws its its' p p' rv rv' (Ar := X.A.in1) (by show X.A.units + 1 + _ < _; omega) (by omega) (by simp only [D.dep] at he; omega) j (by simpa using j1) (by simpa using j2)
        rw [l1, l2] at key
        refine fin ?_
        by_cases hl : ds.length = es.length
        · rw [show D.eq (.tup ds) (.tup es) = D.eqs ds es from rfl, D.eqs_all ds es hl]
          rw [hl, Nat.min_self, beq_self_eq_true, Bool.and_true] at key
          rw [hl]
          exact key
        · rw [show D.eq (.tup ds) (.tup es) = D.eqs ds es from rfl, D.eqs_len ds es hl]
          rw [beq_eq_false_iff_ne.mpr hl, Bool.and_false] at key
          exact key
      | lst es =>
        obtain ⟨b, ws, rfl, t', p'⟩ := h2
        cases ry
        obtain ⟨_, its', rv', e'⟩ := sql I t'
        exact fin (SeqAt.RcNeAt.tuple_list pt e' hu')
      | ref _ => simp [D.dep] at he
      | _ => cases fe
    | lst ds =>
      obtain ⟨a, vs, rfl, t, p⟩ := h1
      cases rx
      obtain ⟨hz, its, rv, pt⟩ := sql I t
      simp only [D.dep] at hd
      cases e with
      | tup es =>
        obtain ⟨b, ws, rfl, t', p'⟩ := h2
        cases ry
        obtain ⟨its', rv', pt', hz'⟩ := I.tuple t'
        exact fin (SeqAt.RcNeAt.list_tuple pt pt' hu')
      | lst es =>
        obtain ⟨b, ws, rfl, t', p'⟩ := h2
        cases ry
        obtain ⟨_, its', rv', pt'⟩ := sql I t'
        have l1 : its.toArray.size = ds.length := by rw [List.size_toArray, ← rv.length, p.len]
        have l2 : its'.toArray.size = es.length := by rw [List.size_toArray, ← rv'.length, p'.len]
        refine fin ?_
        by_cases hl : ds.length = es.length
        · have key := SeqAt.RcNeAt.lists (A := X.A) (s := s) (e := fun j => D.eq (ds.getD j .non) (es.getD j .non)) pt pt' (by rw [l1, l2, hl]) hu' fun j j1 j2 => by
            simpa using eqAts I ds es vs ws its its' p p' rv rv' (Ar := X.A.in1) (by show X.A.units + 1 + _ < _; omega) (by omega) (by simp only [D.dep] at he; omega) j (by simpa using j1) (by simpa using j2)
          rw [show D.eq (.lst ds) (.lst es) = D.eqs ds es from rfl, D.eqs_all ds es hl]
          rw [l1] at key
          exact key
        · rw [show D.eq (.lst ds) (.lst es) = D.eqs ds es from rfl, D.eqs_len ds es hl]
          exact SeqAt.RcNeAt.lists_lengths pt pt' (by rw [l1, l2]; simpa using hl) hu'
      | ref _ => simp [D.dep] at he
      | _ => cases fe
    | ref _ => simp [D.dep] at hd
    | _ => cases fd
/-! ### the other comparisons -/
noncomputable def cpP : Cp → CmpOp
  | .eq => .Eq
  | .ne => .NotEq
  | .lt => .Lt
  | .le => .LtE
  | .gt => .Gt
  | .ge => .GtE
  | .isin => .In
  | .notin => .NotIn
  | .same => .Is
  | .other => .IsNot
noncomputable def rCp (K : PySem.W.Frag) : Cp → R2
  | .eq => rEqD K false
  | .ne => rEqD K true
  | .lt => rI0 fun i j => .bl (decide (i < j))
  | .le => rI0 fun i j => .bl (decide (i ≤ j))
  | .gt => rI0 fun i j => .bl (decide (j < i))
  | .ge => rI0 fun i j => .bl (decide (j ≤ i))
  | .isin => fun x y H Q => (∃ i j, x = .str i ∧ y = .str j ∧ Q (.bl (!(Builtin.Str.occurrences j i 0 j.length 1).isEmpty)) H) ∨ rIn K false x y H Q
  | .notin => fun x y H Q => (∃ i j, x = .str i ∧ y = .str j ∧ Q (.bl (!(!(Builtin.Str.occurrences j i 0 j.length 1).isEmpty))) H) ∨ rIn K true x y H Q
  | .same => fun x y H Q => (y = .non ∧ Q (.bl (decide (x = .non))) H) ∨ (∃ b, y = .bl b ∧ Q (.bl (decide (x = .bl b))) H)
  | .other => fun x y H Q => (y = .non ∧ Q (.bl (!decide (x = .non))) H) ∨ (∃ b, y = .bl b ∧ Q (.bl (!decide (x = .bl b))) H)
theorem cp_ok (hu : X.A.units + 60 < cLine) : ∀ c : Cp, OpR X (compareOp (cpP c)) (rCp X.K c)
  | .eq => op_eqD hu
  | .ne => op_neD hu
  | .lt => op_lt
  | .le => op_le
  | .gt => op_gt
  | .ge => op_ge
  | .isin => op_in_str.or op_in_seq
  | .notin => op_notin_str.or op_notIn_seq
  | .same => op_isN.or op_isB
  | .other => op_notN.or op_isnotB
theorem flat_V {K : PySem.W.Frag} {A : Pl} {d : D} {v : V} (f : d.flat = true) (h : Is K A H d v) : flatV v = true := by
  cases d <;> simp only [D.flat, Bool.false_eq_true] at f <;> simp only [Is] at h <;> subst h <;> rfl
theorem eq_V {K : PySem.W.Frag} {A B : Pl} {d e : D} {v w : V} (f : d.flat = true) (g : e.flat = true) (h : Is K A H d v) (h' : Is K B H e w) : eqV v w = D.eq d e := by
  cases d <;> cases e <;> simp only [D.flat, Bool.false_eq_true] at f g <;> simp only [Is] at h h' <;> subst h h' <;> rfl
theorem flats_V {K : PySem.W.Frag} {A : Pl} : ∀ {ds : List D} {vs : List V}, ds.all D.flat = true → Iss K A H ds vs → vs.all flatV = true
  | [], _, _, h => by rw [show _ = [] from h]; rfl
  | d :: ds, _, f, h => by
    obtain ⟨v, r, rfl, p, q⟩ := h
    rw [List.all_cons, Bool.and_eq_true] at f
    rw [List.all_cons, flat_V f.1 p, flats_V f.2 q]
    rfl
theorem in_V {K : PySem.W.Frag} {A B : Pl} {e : D} {w : V} (g : e.flat = true) (h' : Is K B H e w) : ∀ {ds : List D} {vs : List V}, ds.all D.flat = true → Iss K A H ds vs → inV w vs = ds.any fun y => D.eq y e
  | [], _, _, h => by rw [show _ = [] from h]; rfl
  | d :: ds, _, f, h => by
    obtain ⟨v, r, rfl, p, q⟩ := h
    rw [List.all_cons, Bool.and_eq_true] at f
    have := in_V g h' f.2 q
    unfold inV at this ⊢
    rw [List.any_cons, List.any_cons, this, eq_V f.1 g p h']
theorem cmp_ok {K : PySem.W.Frag} {A B : Pl} {c : Cp} {d e : D} {v w : V} {b : Bool} {Q : VK} (h : cmpD c d e = some b) (h1 : IsW K A H d v) (h2 : IsW K B H e w) (q : Q (.bl b) H) : rCp K c v w H Q := by
  cases c
  case eq =>
    simp only [cmpD, cEq, cNe] at h
    split at h
    · rename_i hc; cases h; exact ⟨A, B, d, e, h1, h2, hc.1, hc.2, q⟩
    · cases h
  case ne =>
    simp only [cmpD, cEq, cNe] at h
    split at h
    · rename_i hc; cases h; exact ⟨A, B, d, e, h1, h2, hc.1, hc.2, q⟩
    · cases h
  case isin =>
    cases e with
    | str j =>
      cases d <;> simp only [cmpD, cOrd, cIn, cNin, cSame, cOther, reduceCtorEq] at h
      simp only [IsW, Is] at h1 h2
      subst h1 h2
      cases h
      exact .inl ⟨_, _, rfl, rfl, q⟩
    | lst xs =>
      have h' : (if (d.flat && xs.all D.flat) = true then some (xs.any fun y => D.eq y d) else none) = some b := by cases d <;> exact h
      split at h'
      · rename_i hc
        rw [Bool.and_eq_true] at hc
        cases h'
        obtain ⟨a, vs, rfl, t, p⟩ := h2
        have h1' : Is K A H d v := by cases d <;> first | exact h1 | cases hc.1
        refine .inr ⟨a, vs, rfl, .inl (t), flat_V hc.1 h1', flats_V hc.2 p, ?_⟩
        rw [in_V hc.1 h1' hc.2 p]
        exact q
      · cases h'
    | tup xs =>
      have h' : (if (d.flat && xs.all D.flat) = true then some (xs.any fun y => D.eq y d) else none) = some b := by cases d <;> exact h
      split at h'
      · rename_i hc
        rw [Bool.and_eq_true] at hc
        cases h'
        obtain ⟨a, vs, rfl, t, p⟩ := h2
        have h1' : Is K A H d v := by cases d <;> first | exact h1 | cases hc.1
        refine .inr ⟨a, vs, rfl, .inr t, flat_V hc.1 h1', flats_V hc.2 p, ?_⟩
        rw [in_V hc.1 h1' hc.2 p]
        exact q
      · cases h'
    | _ => cases d <;> simp only [cmpD, cOrd, cIn, cNin, cSame, cOther, reduceCtorEq] at h
  case notin =>
    cases e with
    | str j =>
      cases d <;> simp only [cmpD, cOrd, cIn, cNin, cSame, cOther, reduceCtorEq] at h
      simp only [IsW, Is] at h1 h2
      subst h1 h2
      cases h
      exact .inl ⟨_, _, rfl, rfl, q⟩
    | lst xs =>
      have h' : (if (d.flat && xs.all D.flat) = true then some (!xs.any fun y => D.eq y d) else none) = some b := by cases d <;> exact h
      split at h'
      · rename_i hc
        rw [Bool.and_eq_true] at hc
        cases h'
        obtain ⟨a, vs, rfl, t, p⟩ := h2
        have h1' : Is K A H d v := by cases d <;> first | exact h1 | cases hc.1
        refine .inr ⟨a, vs, rfl, .inl (t), flat_V hc.1 h1', flats_V hc.2 p, ?_⟩
        rw [in_V hc.1 h1' hc.2 p]
        exact q
      · cases h'
    | tup xs =>
      have h' : (if (d.flat && xs.all D.flat) = true then some (!xs.any fun y => D.eq y d) else none) = some b := by cases d <;> exact h
      split at h'
      · rename_i hc
        rw [Bool.and_eq_true] at hc
        cases h'
        obtain ⟨a, vs, rfl, t, p⟩ := h2
        have h1' : Is K A H d v := by cases d <;> first | exact h1 | cases hc.1
        refine .inr ⟨a, vs, rfl, .inr t, flat_V hc.1 h1', flats_V hc.2 p, ?_⟩
        rw [in_V hc.1 h1' hc.2 p]
        exact q
      · cases h'
    | _ => cases d <;> simp only [cmpD, cOrd, cIn, cNin, cSame, cOther, reduceCtorEq] at h
  case same =>
    cases d <;> cases e <;> simp only [cmpD, cOrd, cIn, cNin, cSame, cOther, reduceCtorEq] at h <;> cases h <;> simp only [IsW, Is] at h1 h2
    all_goals first
      | (subst h1 h2; first | exact .inr ⟨_, rfl, by rw [dec_bl]; exact q⟩ | exact .inl ⟨rfl, by simpa using q⟩ | exact .inr ⟨_, rfl, by simpa using q⟩)
      | (obtain ⟨a, vs, rfl, _⟩ := h1; subst h2; first | exact .inl ⟨rfl, by simpa using q⟩ | exact .inr ⟨_, rfl, by simpa using q⟩)
  case other =>
    cases d <;> cases e <;> simp only [cmpD, cOrd, cIn, cNin, cSame, cOther, reduceCtorEq] at h <;> cases h <;> simp only [IsW, Is] at h1 h2
    all_goals first
      | (subst h1 h2; first | exact .inr ⟨_, rfl, by rw [dec_bl]; exact q⟩ | exact .inl ⟨rfl, by simpa using q⟩ | exact .inr ⟨_, rfl, by simpa using q⟩)
      | (obtain ⟨a, vs, rfl, _⟩ := h1; subst h2; first | exact .inl ⟨rfl, by simpa using q⟩ | exact .inr ⟨_, rfl, by simpa using q⟩)
  all_goals
    cases d <;> cases e <;> simp only [cmpD, cOrd, cIn, cNin, cSame, cOther, reduceCtorEq] at h
    simp only [IsW, Is] at h1 h2
    subst h1 h2
    cases h
    exact ⟨_, _, rfl, rfl, q⟩
end
end E3


/-! Frames as data; an expression by its value (our own) -/
namespace E3
open PySem PySem.Spec PyProof.Rows L2
inductive Mode where
  | val | bor
noncomputable def SlotOk (K : PySem.W.Frag) (P : Pl) (H : Hp) (o : Option Addr) (sv : Option V) : Slot → Prop
  | .un => True
  | .val d => ∃ v, sv = some v ∧ Is K P H d v
  | .own ds => ∃ a vs, o = some a ∧ sv = some (.ref a) ∧ H a = some (.lst vs) ∧ Iss K P H ds vs
structure Ok (K : PySem.W.Frag) (mg : Str → Option Value) (P0 : Pl) (H0 : Hp) (P : Pl) (O : List (Option Addr)) (H : Hp) (M : Mm) (st : L2.St) (env : Env) : Prop where
  hk : Hk K mg P H M
  base : LtE P0 H0 P H
  b0 : ∀ a, P0.bd a → H0 a ≠ none
  slot : ∀ (i : Nat) s, env[i]? = some s → SlotOk K P H (O[i]?).join (st[i]?).join s
  own : ∀ a, some a ∈ O → P.bd a ∧ (∀ k, k < P.n → P.io k ≠ a) ∧ H0 a = none
  inj : ∀ (i j : Nat) a, O[i]? = some (some a) → O[j]? = some (some a) → i = j
  olen : O.length = env.length
  slen : st.length = env.length
noncomputable def IsM (K : PySem.W.Frag) (P : Pl) (H : Hp) (m : Mode) (d : D) (v : V) : Prop := match m with
  | .val => Is K P H d v
  | .bor => IsB K P H d v
/-- a value, or an exception -/
inductive Res where
  | v (d : D) | x (c : Str) (n : Int)
noncomputable abbrev O := Option (Res × Mm)
noncomputable abbrev E := Env → Mm → O
noncomputable def bnd (o : O) (k : D → Mm → O) : O := match o with
  | some (.v d, M) => k d M
  | some (.x c n, M) => some (.x c n, M)
  | none => none
theorem bnd_inv {o : O} {k : D → Mm → O} {r : Res} {M' : Mm} (h : bnd o k = some (r, M')) : (∃ d M, o = some (.v d, M) ∧ k d M = some (r, M')) ∨ ∃ c n, o = some (.x c n, M') ∧ r = .x c n := by
  unfold bnd at h
  split at h
  · exact .inl ⟨_, _, rfl, h⟩
  · cases h; exact .inr ⟨_, _, rfl, rfl⟩
  · cases h
/-- what is wanted of an exception that flies: by the entry of the def, the cells, its class and its number -/
noncomputable abbrev XW := Pl → Hp → Mm → Str → Int → Prop
section
variable {K : PySem.W.Frag} {mg : Str → Option Value} {P0 P P' : Pl} {H0 H H' : Hp} {M M' : Mm} {Os : List (Option Addr)} {st : L2.St} {env : Env} {d : D} {v : V} {m : Mode}
theorem Is.b (h : Hk K mg P H M) (i : Is K P H d v) : IsB K P H d v := by
  cases d with
  | lst ds =>
    obtain ⟨a, vs, e, r, q⟩ := i
    exact ⟨a, vs, e, r.imp (fun ⟨n, r⟩ => ⟨fun k hk z => n (z ▸ h.bd k hk), r⟩) id, q⟩
  | _ => exact i
theorem IsM.of (h : Hk K mg P H M) (i : Is K P H d v) : IsM K P H m d v := by
  cases m with
  | val => exact i
  | bor => exact i.b h
theorem IsM.b (h : Hk K mg P H M) (i : IsM K P H m d v) : IsB K P H d v := by
  cases m with
  | val => exact Is.b h i
  | bor => exact i
theorem LtE.nc (l : LtE P H P' H') {a : Addr} {o : HO} (e : H a = some o) (n : ∀ k, k < P.n → P.io k ≠ a) : ∀ k, k < P'.n → P'.io k ≠ a := fun k hk z => by
  rcases Nat.lt_or_ge k P.n with q | q
  · rw [l.io k q] at z
    exact n k q z
  · rw [← z, l.nw k q hk] at e
    cases e
theorem IsB.lt (l : LtE P H P' H') (h : Hk K mg P H M) (i : IsB K P H d v) : IsB K P' H' d v := by
  cases d with
  | lst ds =>
    obtain ⟨a, vs, e, r, q⟩ := i
    refine ⟨a, vs, e, r.imp (fun ⟨n, r⟩ => ?_) id, Iss.lt (l.lt h) q⟩
    obtain ⟨o, eo⟩ := rd_some r
    refine ⟨l.nc eo n, ?_⟩
    rcases r with r | ⟨o', r⟩
    · exact .inl (l.keep _ _ r n)
    · exact .inr ⟨o', l.keep _ _ r n⟩
  | _ => exact Is.lt (l.lt h) i
/-- behind an expression -/
theorem Ok.next (k : Ok K mg P0 H0 P Os H M st env) (l : LtE P H P' H') (h : Hk K mg P' H' M') : Ok K mg P0 H0 P' Os H' M' st env where
  hk := h
  base := k.base.trans l
  b0 := k.b0
  slot := fun i s e => by
    have q := k.slot i s e
    cases s with
    | un => exact True.intro
    | val d =>
      obtain ⟨v, e1, q⟩ := q
      exact ⟨v, e1, Is.lt (l.lt k.hk) q⟩
    | own ds =>
      obtain ⟨a, vs, e1, e2, e3, q⟩ := q
      have ho := k.own a (by
        cases hx : Os[i]? with
        | none => rw [hx] at e1; cases e1
        | some o => rw [hx] at e1; cases o with
          | none => cases e1
          | some b => cases e1; exact List.mem_of_getElem? hx)
      exact ⟨a, vs, e1, e2, l.keep _ _ e3 ho.2.1, Iss.lt (l.lt k.hk) q⟩
  own := fun a z => by
    have ho := k.own a z
    refine ⟨l.bm a ho.1, ?_, ho.2.2⟩
    obtain ⟨o, eo⟩ : ∃ o, H a = some o := by
      cases e : H a with
      | none => exact absurd e (k.hk.here a ho.1)
      | some o => exact ⟨o, rfl⟩
    exact l.nc eo ho.2.1
  inj := k.inj
  olen := k.olen
  slen := k.slen
theorem Hk.same (h : Hk K mg P H M) (s : Same H H') : Hk K mg P H' M := by
  have l : Lt P H P H' := (LtE.same s).lt h
  refine ⟨h.n, fun k c e => ?_, h.inj, h.bd, fun a z q => h.here a z (s.free q)⟩
  have := h.cell k c e
  cases c with
  | lst ds =>
    obtain ⟨vs, e1, q⟩ := this
    exact ⟨vs, s _ _ e1, Iss.lt l q⟩
  | obj c fs =>
    obtain ⟨C, dx, gs, e1, e2, e3, q⟩ := this
    exact ⟨C, dx, gs, e1, s _ _ e2, e3, Iss.lt l q⟩
end
/-- what is wanted of an answer -/
noncomputable def RQ (K : PySem.W.Frag) (mg : Str → Option Value) (Wx : XW) (m : Mode) (P0 : Pl) (H0 : Hp) (P : Pl) (H : Hp) (M' : Mm) (Q : VK) : Res → Prop
  | .v d => ∀ P' v H', LtE P H P' H' → Hk K mg P' H' M' → IsM K P' H' m d v → Q v H'
  | .x c n => Wx P0 H0 M' c n
theorem pe_imp {X : Cx} {e : Expr} {t t' : TE} (h : PE X e t) (i : ∀ st H Q, t' st H Q → t st H Q) : PE X e t' := fun pins s σ H Q I z => h pins s σ H Q I (i _ _ _ z)
/-- the reading of an expression by its value -/
noncomputable def tE (K : PySem.W.Frag) (mg : Str → Option Value) (Wx : XW) (m : Mode) (f : E) : TE := fun st H Q => ∃ P0 H0 P Os env M r M', Ok K mg P0 H0 P Os H M st env ∧ f env M = some (r, M') ∧ RQ K mg Wx m P0 H0 P H M' Q r
/-- what a context must tell -/
structure Fit (X : Cx) (Wx : XW) : Prop where
  calm : X.calm = true
  room : X.A.units + 60 < cLine
section
variable {X : Cx} {Wx : XW} {m : Mode}
noncomputable def SE (X : Cx) (Wx : XW) (m : Mode) (e : Expr) (f : E) : Prop := PE X e (tE X.K X.mg Wx m f)
theorem SE.bor {e : Expr} {f : E} (h : SE X Wx .val e f) : SE X Wx m e f := pe_imp h fun st H Q ⟨P0, H0, P, Os, env, M, r, M', k, e, q⟩ => ⟨P0, H0, P, Os, env, M, r, M', k, e, by
  cases r with
  | v d => exact fun P' v H' l h i => q P' v H' l h (IsM.of h i)
  | x c n => exact q⟩
/-- a first part, then the rest -/
theorem tE_go {f : E} {K : PySem.W.Frag} {mg : Str → Option Value} {P0 P : Pl} {H0 H : Hp} {Os : List (Option Addr)} {M M' : Mm} {st : L2.St} {env : Env} {r : Res} {Q : VK} (k : Ok K mg P0 H0 P Os H M st env) (e : f env M = some (r, M'))
    (q : RQ K mg Wx m P0 H0 P H M' Q r) : tE K mg Wx m f st H Q := ⟨P0, H0, P, Os, env, M, r, M', k, e, q⟩
/-! ### names and constants -/
noncomputable def sVar (i : Nat) : E := fun env M => match env[i]? with
  | some (.val d) => some (.v d, M)
  | _ => none
noncomputable def sVarB (i : Nat) : E := fun env M => match env[i]? with
  | some (.val d) => some (.v d, M)
  | some (.own ds) => some (.v (.lst ds), M)
  | _ => none
noncomputable def sCon (d : D) : E := fun _ M => some (.v d, M)
theorem join_get {α : Type} {l : List (Option α)} {i : Nat} {a : α} (h : (l[i]?).join = some a) : l[i]? = some (some a) := by
  cases e : l[i]? with
  | none => rw [e] at h; cases h
  | some o => rw [e] at h; cases o with
    | none => cases h
    | some b => cases h; rfl
theorem se_var {i : Nat} {x : Str} {pos : Pos} (hN : X.N[i]? = some x) (hv : Vis X.env.scope x) (hd : (x == ("__debug__" : Str)) = false := by decide +kernel) (hcd : (x == ("__classdict__" : Str)) = false := by decide +kernel) : SE X Wx .val (.Name x pos) (sVar i) := by
  refine pe_imp (pe_var hN hv hd hcd) ?_
  rintro st H Q ⟨P0, H0, P, Os, env, M, r, M', k, e, q⟩
  unfold sVar at e
  split at e
  · rename_i d hs
    cases e
    obtain ⟨v, e1, i1⟩ := k.slot i _ hs
    exact ⟨v, join_get e1, q P v H (LtE.refl P H) k.hk i1⟩
  · cases e
theorem se_varB {i : Nat} {x : Str} {pos : Pos} (hN : X.N[i]? = some x) (hv : Vis X.env.scope x) (hd : (x == ("__debug__" : Str)) = false := by decide +kernel) (hcd : (x == ("__classdict__" : Str)) = false := by decide +kernel) : SE X Wx .bor (.Name x pos) (sVarB i) := by
  refine pe_imp (pe_var hN hv hd hcd) ?_
  rintro st H Q ⟨P0, H0, P, Os, env, M, r, M', k, e, q⟩
  unfold sVarB at e
  split at e
  · rename_i d hs
    cases e
    obtain ⟨v, e1, i1⟩ := k.slot i _ hs
    exact ⟨v, join_get e1, q P v H (LtE.refl P H) k.hk (IsM.of k.hk i1)⟩
  · rename_i ds hs
    cases e
    obtain ⟨a, vs, e1, e2, e3, i1⟩ := k.slot i _ hs
    exact ⟨.ref a, join_get e2, q P _ H (LtE.refl P H) k.hk ⟨a, vs, rfl, .inl ⟨(k.own a (List.mem_of_getElem? (join_get e1))).2.1, .inl e3⟩, i1⟩⟩
  · cases e
theorem se_con {e : Expr} {v : V} {d : D} (h : PE X e (tC v)) (hd : ∀ P H, Is X.K P H d v) : SE X Wx .val e (sCon d) := by
  refine pe_imp h ?_
  rintro st H Q ⟨P0, H0, P, Os, env, M, r, M', k, e, q⟩
  cases e
  exact q P v H (LtE.refl P H) k.hk (hd P H)
/-! ### operations -/
/-- a cell that holds a list, as it stands now -/
noncomputable def vw (M : Mm) (d : D) : D := match d with
  | .ref k => (match M[k]? with
    | some (.lst ds) => .lst ds
    | _ => .ref k)
  | d => d
theorem IsB.vw {K : PySem.W.Frag} {mg : Str → Option Value} {P : Pl} {H : Hp} {M : Mm} {d : D} {v : V} (h : Hk K mg P H M) (i : IsB K P H d v) : IsW K P H (vw M d) v := by
  cases d with
  | ref k =>
    unfold E3.vw
    dsimp only
    split
    · rename_i ds e
      obtain ⟨i1, i2⟩ : k < P.n ∧ v = .ref (P.io k) := i
      obtain ⟨vs, e1, q⟩ := h.cell k _ e
      exact ⟨_, vs, i2, .inl (.inl e1), q⟩
    · exact i
  | lst ds => exact i.w
  | _ => exact i
noncomputable def s1 (o : D → Option D) (f : E) : E := fun env M => bnd (f env M) fun d M1 => (o (vw M1 d)).map fun z => (.v z, M1)
noncomputable def s2 (o : D → D → Option D) (f g : E) : E := fun env M => bnd (f env M) fun d M1 => bnd (g env M1) fun e M2 => (o (vw M2 d) (vw M2 e)).map fun z => (.v z, M2)
/-- what an operation of two values tells, whatever stands in the heap -/
noncomputable def Pure2 (K : PySem.W.Frag) (r : R2) (o : D → D → Option D) : Prop := ∀ (P : Pl) (H : Hp) (d e z : D) (v w : V) (Q : VK), o d e = some z → IsW K P H d v → IsW K P H e w → (∀ p, H p = none → ¬ P.bd p) → (∀ u H', Same H H' → Is K P H' z u → Q u H') → r v w H Q
noncomputable def Pure1 (K : PySem.W.Frag) (r : V → Hp → VK → Prop) (o : D → Option D) : Prop := ∀ (P : Pl) (H : Hp) (d z : D) (v : V) (Q : VK), o d = some z → IsW K P H d v → (∀ p, H p = none → ¬ P.bd p) → (∀ u H', Same H H' → Is K P H' z u → Q u H') → r v H Q
theorem Hk.new {K : PySem.W.Frag} {mg : Str → Option Value} {P : Pl} {H : Hp} {M : Mm} (h : Hk K mg P H M) : ∀ p, H p = none → ¬ P.bd p := fun p hp z => h.here p z hp
theorem t2_ok {f g : E} {o : D → D → Option D} {r : R2} {st : L2.St} {H : Hp} {Q : VK} (po : Pure2 X.K r o) (h : tE X.K X.mg Wx m (s2 o f g) st H Q) : tOp r (tE X.K X.mg Wx .bor f) (tE X.K X.mg Wx .bor g) st H Q := by
  obtain ⟨P0, H0, P, Os, env, M, rr, M', k, e, q⟩ := h
  unfold s2 at e
  rcases bnd_inv e with ⟨d, M1, e1, e⟩ | ⟨c, n, e1, rfl⟩
  · refine tE_go k e1 fun P1 v1 H1 l1 h1 i1 => ?_
    have k1 := k.next l1 h1
    rcases bnd_inv e with ⟨d2, M2, e2, e⟩ | ⟨c, n, e2, rfl⟩
    · refine tE_go k1 e2 fun P2 v2 H2 l2 h2 i2 => ?_
      rw [Option.map_eq_some_iff] at e
      obtain ⟨z, ez, e⟩ := e
      cases e
      exact po P2 H2 _ _ z v1 v2 Q ez (IsB.vw h2 (IsB.lt l2 h1 i1)) (IsB.vw h2 i2) h2.new fun u H' s i => q P2 u H' (l1.trans (l2.trans (LtE.same s))) (h2.same s) (IsM.of (h2.same s) i)
    · exact tE_go k1 e2 q
  · exact tE_go k e1 q
theorem t1_ok {f : E} {o : D → Option D} {r : V → Hp → VK → Prop} {st : L2.St} {H : Hp} {Q : VK} (po : Pure1 X.K r o) (h : tE X.K X.mg Wx m (s1 o f) st H Q) : tUn r (tE X.K X.mg Wx .bor f) st H Q := by
  obtain ⟨P0, H0, P, Os, env, M, rr, M', k, e, q⟩ := h
  unfold s1 at e
  rcases bnd_inv e with ⟨d, M1, e1, e⟩ | ⟨c, n, e1, rfl⟩
  · refine tE_go k e1 fun P1 v1 H1 l1 h1 i1 => ?_
    rw [Option.map_eq_some_iff] at e
    obtain ⟨z, ez, e⟩ := e
    cases e
    exact po P1 H1 _ z v1 Q ez (IsB.vw h1 i1) h1.new fun u H' s i => q P1 u H' (l1.trans (LtE.same s)) (h1.same s) (IsM.of (h1.same s) i)
  · exact tE_go k e1 q
theorem se_op {a b : Expr} {op : Operator} {pos : Pos} {f g : E} {o : D → D → Option D} {r : R2} (ho : OpR X (binaryOp op) r) (po : Pure2 X.K r o) (ha : SE X Wx .bor a f) (hb : SE X Wx .bor b g) : SE X Wx m (.BinOp a op b pos) (s2 o f g) :=
  pe_imp (pe_op ho ha hb) fun _ _ _ h => t2_ok po h
theorem se_cmp {a b : Expr} {op : CmpOp} {pos : Pos} {f g : E} {o : D → D → Option D} {r : R2} (ho : OpR X (compareOp op) r) (po : Pure2 X.K r o) (ha : SE X Wx .bor a f) (hb : SE X Wx .bor b g) (hm : behindInMarks op b = false := by rfl) : SE X Wx m (.Compare a [op] [b] pos) (s2 o f g) :=
  pe_imp (pe_cmpR ho ha hb hm) fun _ _ _ h => t2_ok po h
theorem se_ix {a b : Expr} {pos : Pos} {f g : E} {o : D → D → Option D} {r : R2} (ho : IxR X r) (po : Pure2 X.K r o) (ha : SE X Wx .bor a f) (hb : SE X Wx .bor b g) (hs : PlainIx b := by exact fun _ _ => rfl) : SE X Wx m (.Subscript a b pos) (s2 o f g) :=
  pe_imp (pe_ix ho ha hb hs) fun _ _ _ h => t2_ok po h
/-! ### tests -/
noncomputable def TQ (K : PySem.W.Frag) (mg : Str → Option Value) (Wx : XW) (P0 : Pl) (H0 : Hp) (P : Pl) (H : Hp) (M' : Mm) (Q : Bool → Hp → Prop) : Res → Prop
  | .v d => ∃ b, d = .bl b ∧ ∀ P' H', LtE P H P' H' → Hk K mg P' H' M' → Q b H'
  | .x c n => Wx P0 H0 M' c n
noncomputable def tTt (K : PySem.W.Frag) (mg : Str → Option Value) (Wx : XW) (f : E) : TT := fun st H Q => ∃ P0 H0 P Os env M r M', Ok K mg P0 H0 P Os H M st env ∧ f env M = some (r, M') ∧ TQ K mg Wx P0 H0 P H M' Q r
noncomputable def ST (X : Cx) (Wx : XW) (e : Expr) (f : E) : Prop := PT X e (tTt X.K X.mg Wx f)
theorem pt_imp {e : Expr} {t t' : TT} (h : PT X e t) (i : ∀ st H Q, t' st H Q → t st H Q) : PT X e t' := fun pins s σ H Q I z => h pins s σ H Q I (i _ _ _ z)
theorem tTt_go {f : E} {K : PySem.W.Frag} {mg : Str → Option Value} {P0 P : Pl} {H0 H : Hp} {Os : List (Option Addr)} {M M' : Mm} {st : L2.St} {env : Env} {r : Res} {Q : Bool → Hp → Prop} (k : Ok K mg P0 H0 P Os H M st env) (e : f env M = some (r, M'))
    (q : TQ K mg Wx P0 H0 P H M' Q r) : tTt K mg Wx f st H Q := ⟨P0, H0, P, Os, env, M, r, M', k, e, q⟩
/-- a value that is True or False, as a test -/
theorem tt_of {f : E} {st : L2.St} {H : Hp} {Q : Bool → Hp → Prop} (h : tTt X.K X.mg Wx f st H Q) : tTest (tE X.K X.mg Wx .val f) st H Q := by
  obtain ⟨P0, H0, P, Os, env, M, r, M', k, e, q⟩ := h
  refine tE_go k e ?_
  cases r with
  | v d =>
    obtain ⟨b, rfl, q⟩ := q
    exact fun P' v H' l h i => ⟨b, i, q P' H' l h⟩
  | x c n => exact q
theorem st_cmp {a b : Expr} {op : CmpOp} {pos : Pos} {f g : E} {o : D → D → Option D} {r : R2} (ho : OpR X (compareOp op) r) (po : Pure2 X.K r o) (ha : SE X Wx .bor a f) (hb : SE X Wx .bor b g) (hm : behindInMarks op b = false := by rfl) : ST X Wx (.Compare a [op] [b] pos) (s2 o f g) :=
  pt_imp (pt_cmpR ho ha hb hm) fun _ _ _ h => t2_ok po (tt_of h)
noncomputable def truD : D → Option Bool
  | .non => some false
  | .bl b => some b
  | .int i => some (i != 0)
  | .str s => if s.length ≤ sizeLine then some ((s.length : Int) != 0) else none
  | .lst ds => some (!ds.isEmpty)
  | .tup ds => some (!ds.isEmpty)
  | .ref _ => none
noncomputable def sTru (f : E) : E := s1 (fun d => (truD d).map .bl) f
noncomputable def sNot (f : E) : E := fun env M => bnd (f env M) fun d M1 => match d with
  | .bl b => some (.v (.bl (!b)), M1)
  | _ => none
noncomputable def sAnd (f g : E) : E := fun env M => bnd (f env M) fun d M1 => match d with
  | .bl b => if b = true then g env M1 else some (.v (.bl false), M1)
  | _ => none
noncomputable def sOr (f g : E) : E := fun env M => bnd (f env M) fun d M1 => match d with
  | .bl b => if b = true then some (.v (.bl true), M1) else g env M1
  | _ => none
noncomputable def sIte (c f g : E) : E := fun env M => bnd (c env M) fun d M1 => match d with
  | .bl b => if b = true then f env M1 else g env M1
  | _ => none
noncomputable def SW (X : Cx) (Wx : XW) (e : Expr) (f : E) : Prop := PW X e (tTt X.K X.mg Wx f)
theorem pw_imp {e : Expr} {t t' : TT} (h : PW X e t) (i : ∀ st H Q, t' st H Q → t st H Q) : PW X e t' := fun wh pins s σ H Q I z => h wh pins s σ H Q I (i _ _ _ z)
theorem st_not {a : Expr} {pos : Pos} {f : E} (ha : ST X Wx a f) : ST X Wx (.UnaryOp .Not a pos) (sNot f) := by
  refine pt_imp (pt_not ha) ?_
  rintro st H Q ⟨P0, H0, P, Os, env, M, r, M', k, e, q⟩
  unfold sNot at e
  rcases bnd_inv e with ⟨d, M1, e1, e⟩ | ⟨c, n, e1, rfl⟩
  · cases d <;> simp only [reduceCtorEq] at e
    cases e
    obtain ⟨b, e2, q⟩ := q
    cases e2
    exact tTt_go k e1 ⟨_, rfl, q⟩
  · exact tTt_go k e1 q
theorem sw_and1 {a : Expr} {pos : Pos} {f : E} (ha : ST X Wx a f) : SW X Wx (.BoolOp .And [a] pos) f := pw_and1 ha
theorem sw_or1 {a : Expr} {pos : Pos} {f : E} (ha : ST X Wx a f) : SW X Wx (.BoolOp .Or [a] pos) f := pw_or1 ha
theorem sw_and {a b : Expr} {rest : List Expr} {pos : Pos} {f g : E} (ha : ST X Wx a f) (hb : SW X Wx (.BoolOp .And (b :: rest) pos) g) : SW X Wx (.BoolOp .And (a :: b :: rest) pos) (sAnd f g) := by
  refine pw_imp (pw_and ha hb) ?_
  rintro st H Q ⟨P0, H0, P, Os, env, M, r, M', k, e, q⟩
  unfold sAnd at e
  rcases bnd_inv e with ⟨d, M1, e1, e⟩ | ⟨c, n, e1, rfl⟩
  · cases d <;> simp only [reduceCtorEq] at e
    rename_i b
    refine tTt_go k e1 ⟨b, rfl, fun P1 H1 l1 h1 => ?_⟩
    cases b with
    | true =>
      rw [if_pos rfl] at e ⊢
      refine tTt_go (k.next l1 h1) e ?_
      cases r with
      | v d => obtain ⟨b, e2, q⟩ := q; exact ⟨b, e2, fun P' H' l h => q P' H' (l1.trans l) h⟩
      | x c n => exact q
    | false =>
      rw [if_neg (by decide)] at e ⊢
      cases e
      obtain ⟨b, e2, q⟩ := q
      cases e2
      exact q P1 H1 l1 h1
  · exact tTt_go k e1 q
theorem sw_or {a b : Expr} {rest : List Expr} {pos : Pos} {f g : E} (ha : ST X Wx a f) (hb : SW X Wx (.BoolOp .Or (b :: rest) pos) g) : SW X Wx (.BoolOp .Or (a :: b :: rest) pos) (sOr f g) := by
  refine pw_imp (pw_or ha hb) ?_
  rintro st H Q ⟨P0, H0, P, Os, env, M, r, M', k, e, q⟩
  unfold sOr at e
  rcases bnd_inv e with ⟨d, M1, e1, e⟩ | ⟨c, n, e1, rfl⟩
  · cases d <;> simp only [reduceCtorEq] at e
    rename_i b
    refine tTt_go k e1 ⟨b, rfl, fun P1 H1 l1 h1 => ?_⟩
    cases b with
    | false =>
      rw [if_neg (by decide)] at e ⊢
      refine tTt_go (k.next l1 h1) e ?_
      cases r with
      | v d => obtain ⟨b, e2, q⟩ := q; exact ⟨b, e2, fun P' H' l h => q P' H' (l1.trans l) h⟩
      | x c n => exact q
    | true =>
      rw [if_pos rfl] at e ⊢
      cases e
      obtain ⟨b, e2, q⟩ := q
      cases e2
      exact q P1 H1 l1 h1
  · exact tTt_go k e1 q
theorem SW.st {e : Expr} {f : E} (h : SW X Wx e f) : ST X Wx e f := h.pt
end
end E3


/-! More of expressions: as values, arguments, displays, built-in functions (our own) -/
namespace E3
open PySem PySem.Spec PyProof.Rows L2
section
variable {X : Cx} {Wx : XW} {m : Mode}
theorem RQ.imp {K : PySem.W.Frag} {mg : Str → Option Value} {P0 P P1 : Pl} {H0 H H1 : Hp} {M' : Mm} {Q : VK} {r : Res} (l : LtE P H P1 H1) (q : RQ K mg Wx m P0 H0 P H M' Q r) : RQ K mg Wx m P0 H0 P1 H1 M' Q r := by
  cases r with
  | v d => exact fun P' v H' l' h i => q P' v H' (l.trans l') h i
  | x c n => exact q
/-! ### and, or, not, if as values -/
theorem se_one {a : Expr} {op : BoolOp} {pos : Pos} {f : E} (ha : SE X Wx m a f) : SE X Wx m (.BoolOp op [a] pos) f := pe_one ha
theorem se_and {a b : Expr} {rest : List Expr} {pos : Pos} {f g : E} (ha : SE X Wx .val a f) (hb : SE X Wx m (.BoolOp .And (b :: rest) pos) g) : SE X Wx m (.BoolOp .And (a :: b :: rest) pos) (sAnd f g) := by
  refine pe_imp (pe_and ha hb) ?_
  rintro st H Q ⟨P0, H0, P, Os, env, M, r, M', k, e, q⟩
  unfold sAnd at e
  rcases bnd_inv e with ⟨d, M1, e1, e⟩ | ⟨c, n, e1, rfl⟩
  · cases d <;> simp only [reduceCtorEq] at e
    rename_i b
    refine tE_go k e1 fun P1 v1 H1 l1 h1 i1 => ⟨b, i1, ?_⟩
    cases b with
    | true =>
      rw [if_pos rfl] at e ⊢
      exact tE_go (k.next l1 h1) e (RQ.imp l1 q)
    | false =>
      rw [if_neg (by decide)] at e ⊢
      cases e
      exact q P1 _ H1 l1 h1 (IsM.of h1 (show Is _ _ _ (.bl false) _ from rfl))
  · exact tE_go k e1 q
theorem tru_V {K : PySem.W.Frag} {P : Pl} {H : Hp} {d : D} {v : V} {b : Bool} (h : truD d = some b) (i : IsW K P H d v) : TruV K v H b := by
  cases d with
  | non => have e : v = .non := i; subst e; cases h; rfl
  | bl c => have e : v = .bl c := i; subst e; cases h; rfl
  | int c => have e : v = .int c := i; subst e; cases h; rfl
  | str c =>
    have e : v = .str c := i
    subst e
    simp only [truD] at h
    split at h
    · rename_i hl
      cases h
      exact ⟨hl, rfl⟩
    · cases h
  | lst ds =>
    obtain ⟨a, vs, rfl, r, q⟩ := i
    cases h
    refine .inl ⟨vs, r, ?_⟩
    cases ds with
    | nil => rw [show vs = [] from q]; rfl
    | cons d ds => obtain ⟨w, r', rfl, _⟩ := q; rfl
  | tup ds =>
    obtain ⟨a, vs, rfl, r, q⟩ := i
    cases h
    refine .inr (.inl ⟨vs, r, ?_⟩)
    cases ds with
    | nil => rw [show vs = [] from q]; rfl
    | cons d ds => obtain ⟨w, r', rfl, _⟩ := q; rfl
  | ref k => cases h
/-- a name, a call, a subscript, a field as a test -/
theorem st_tru {a : Expr} {f : E} (ha : SE X Wx .bor a f) (he : ∀ whole, isTrue a X.env whole = (do let v ← whole; standAt a.pos; holding [v] (truthy v)) := by exact fun _ => rfl) : ST X Wx a (sTru f) := by
  refine pt_imp (pt_truth ha he) ?_
  rintro st H Q ⟨P0, H0, P, Os, env, M, r, M', k, e, q⟩
  unfold sTru s1 at e
  rcases bnd_inv e with ⟨d, M1, e1, e⟩ | ⟨c, n, e1, rfl⟩
  · rw [Option.map_eq_some_iff] at e
    obtain ⟨z, ez, e⟩ := e
    cases e
    rw [Option.map_eq_some_iff] at ez
    obtain ⟨b, eb, rfl⟩ := ez
    obtain ⟨b', e2, q⟩ := q
    cases e2
    exact tE_go k e1 fun P1 v1 H1 l1 h1 i1 => ⟨b, tru_V eb (IsB.vw h1 i1), q P1 H1 l1 h1⟩
  · exact tE_go k e1 q
/-- not e as a value -/
noncomputable def sNotV (f : E) : E := s1 (fun d => (truD d).map fun b => .bl (!b)) f
/-! ### arguments -/
inductive ResA where
  | v (ds : List D) | x (c : Str) (n : Int)
noncomputable abbrev EA := Env → Mm → Option (ResA × Mm)
noncomputable def sNil : EA := fun _ M => some (.v [], M)
noncomputable def sCons (f : E) (fs : EA) : EA := fun env M => match f env M with
  | some (.v d, M1) => (match fs env M1 with
    | some (.v ds, M2) => some (.v (d :: ds), M2)
    | some (.x c n, M2) => some (.x c n, M2)
    | none => none)
  | some (.x c n, M1) => some (.x c n, M1)
  | none => none
noncomputable def bndA (o : Option (ResA × Mm)) (k : List D → Mm → O) : O := match o with
  | some (.v ds, M) => k ds M
  | some (.x c n, M) => some (.x c n, M)
  | none => none
theorem bndA_inv {o : Option (ResA × Mm)} {k : List D → Mm → O} {r : Res} {M' : Mm} (h : bndA o k = some (r, M')) : (∃ ds M, o = some (.v ds, M) ∧ k ds M = some (r, M')) ∨ ∃ c n, o = some (.x c n, M') ∧ r = .x c n := by
  unfold bndA at h
  split at h
  · exact .inl ⟨_, _, rfl, h⟩
  · cases h; exact .inr ⟨_, _, rfl, rfl⟩
  · cases h
noncomputable def AllM (K : PySem.W.Frag) (P : Pl) (H : Hp) (m : Mode) : List D → List V → Prop
  | [], vs => vs = []
  | d :: ds, vs => ∃ v ws, vs = v :: ws ∧ IsM K P H m d v ∧ AllM K P H m ds ws
theorem AllM.iss {K : PySem.W.Frag} {P : Pl} {H : Hp} : ∀ {ds : List D} {vs : List V}, AllM K P H .val ds vs → Iss K P H ds vs
  | [], _, h => h
  | _ :: _, _, h => by
    obtain ⟨v, ws, e, p, q⟩ := h
    exact ⟨v, ws, e, p, AllM.iss q⟩
noncomputable def AQ (K : PySem.W.Frag) (mg : Str → Option Value) (Wx : XW) (m : Mode) (P0 : Pl) (H0 : Hp) (P : Pl) (H : Hp) (M' : Mm) (Q : List V → Hp → Prop) : ResA → Prop
  | .v ds => ∀ P' vs H', LtE P H P' H' → Hk K mg P' H' M' → AllM K P' H' m ds vs → Q vs H'
  | .x c n => Wx P0 H0 M' c n
noncomputable def tAs (K : PySem.W.Frag) (mg : Str → Option Value) (Wx : XW) (m : Mode) (fs : EA) : TA := fun st H Q => ∃ P0 H0 P Os env M r M', Ok K mg P0 H0 P Os H M st env ∧ fs env M = some (r, M') ∧ AQ K mg Wx m P0 H0 P H M' Q r
noncomputable def SA (X : Cx) (Wx : XW) (m : Mode) (es : List Expr) (fs : EA) : Prop := PA X es (tAs X.K X.mg Wx m fs)
theorem pa_imp {es : List Expr} {t t' : TA} (h : PA X es t) (w : ∀ σ H Q, t' σ H Q → t σ H Q) : PA X es t' := fun pos pins s σ H Q I hw => h pos pins s σ H Q I (w σ H Q hw)
theorem sa_nil : SA X Wx m [] sNil := by
  refine pa_imp pa_nil ?_
  rintro st H Q ⟨P0, H0, P, Os, env, M, r, M', k, e, q⟩
  cases e
  exact q P [] H (LtE.refl P H) k.hk rfl
theorem sa_cons {e : Expr} {es : List Expr} {f : E} {fs : EA} (ha : SE X Wx m e f) (hr : SA X Wx m es fs) (hs : starEach (e :: es) X.env = (false, eval e X.env) :: starEach es X.env := by rfl) : SA X Wx m (e :: es) (sCons f fs) := by
  refine pa_imp (pa_cons ha hr hs) ?_
  rintro st H Q ⟨P0, H0, P, Os, env, M, r, M', k, e, q⟩
  unfold sCons at e
  split at e
  · rename_i d M1 e1
    refine tE_go k e1 fun P1 v1 H1 l1 h1 i1 => ?_
    split at e
    · rename_i ds M2 e2
      cases e
      refine ⟨P0, H0, P1, Os, env, M1, _, _, k.next l1 h1, e2, fun P2 vs H2 l2 h2 i2 => q P2 _ H2 (l1.trans l2) h2 ⟨v1, vs, rfl, ?_, i2⟩⟩
      cases m with
      | val => exact Is.lt (l2.lt h1) i1
      | bor => exact IsB.lt l2 h1 i1
    · rename_i c n M2 e2
      cases e
      exact ⟨P0, H0, P1, Os, env, M1, _, _, k.next l1 h1, e2, q⟩
    · cases e
  · rename_i c n M1 e1
    cases e
    exact tE_go k e1 q
  · cases e
/-! ### built-in functions -/
noncomputable def sN (o : List D → Option D) (fs : EA) : E := fun env M => bndA (fs env M) fun ds M1 => (o (ds.map (vw M1))).map fun z => (.v z, M1)
noncomputable def AllW (K : PySem.W.Frag) (P : Pl) (H : Hp) : List D → List V → Prop
  | [], vs => vs = []
  | d :: ds, vs => ∃ v ws, vs = v :: ws ∧ IsW K P H d v ∧ AllW K P H ds ws
theorem AllM.w {K : PySem.W.Frag} {mg : Str → Option Value} {P : Pl} {H : Hp} {M : Mm} (h : Hk K mg P H M) : ∀ {ds : List D} {vs : List V}, AllM K P H m ds vs → AllW K P H (ds.map (vw M)) vs
  | [], _, q => q
  | d :: ds, _, q => by
    obtain ⟨v, ws, e, p, q⟩ := q
    exact ⟨v, ws, e, IsB.vw h (p.b h), AllM.w h q⟩
noncomputable def PureN (K : PySem.W.Frag) (r : List V → Hp → VK → Prop) (o : List D → Option D) : Prop := ∀ (P : Pl) (H : Hp) (ds : List D) (z : D) (vs : List V) (Q : VK), o ds = some z → AllW K P H ds vs → (∀ p, H p = none → ¬ P.bd p) → (∀ u H', Same H H' → Is K P H' z u → Q u H') → r vs H Q
theorem se_cb {ex e : Expr} {es : List Expr} {r : List V → Hp → VK → Prop} {o : List D → Option D} {fs : EA} (h : ∀ t, PA X (e :: es) t → PE X ex (tCB r t)) (po : PureN X.K r o) (ha : SA X Wx .bor (e :: es) fs) : SE X Wx m ex (sN o fs) := by
  refine pe_imp (h _ ha) ?_
  rintro st H Q ⟨P0, H0, P, Os, env, M, r, M', k, e, q⟩
  unfold sN at e
  rcases bndA_inv e with ⟨ds, M1, e1, e⟩ | ⟨c, n, e1, rfl⟩
  · rw [Option.map_eq_some_iff] at e
    obtain ⟨z, ez, e⟩ := e
    cases e
    exact ⟨P0, H0, P, Os, env, M, _, _, k, e1, fun P1 vs H1 l1 h1 i1 => po P1 H1 _ z vs Q ez (AllM.w h1 i1) h1.new fun u H' s i => q P1 u H' (l1.trans (LtE.same s)) (h1.same s) (IsM.of (h1.same s) i)⟩
  · exact ⟨P0, H0, P, Os, env, M, _, _, k, e1, q⟩
/-! ### displays -/
noncomputable def sTup (fs : EA) : E := fun env M => bndA (fs env M) fun ds M1 => if ds.length ≤ sizeLine then some (.v (.tup ds), M1) else none
theorem se_tup {es : List Expr} {x1 : Nat} {pos : Pos} {fs : EA} (ha : SA X Wx .val es fs) : SE X Wx m (.Tuple es x1 pos) (sTup fs) := by
  refine pe_imp (pe_tup ha) ?_
  rintro st H Q ⟨P0, H0, P, Os, env, M, r, M', k, e, q⟩
  unfold sTup at e
  rcases bndA_inv e with ⟨ds, M1, e1, e⟩ | ⟨c, n, e1, rfl⟩
  · split at e
    · rename_i hl
      cases e
      refine ⟨P0, H0, P, Os, env, M, _, _, k, e1, fun P1 vs H1 l1 h1 i1 => ⟨by rw [i1.iss.len]; exact hl, fun p hp => ?_⟩⟩
      have s := same_new (o := .tup vs) hp
      exact q P1 _ _ (l1.trans (LtE.same s)) (h1.same s) (IsM.of (h1.same s) ⟨p, vs, rfl, .inl (.inl upd_same), Iss.lt ((LtE.same s).lt h1) i1.iss⟩)
    · cases e
  · exact ⟨P0, H0, P, Os, env, M, _, _, k, e1, q⟩
/-- an expression that lays a new list -/
noncomputable def NQ (K : PySem.W.Frag) (mg : Str → Option Value) (Wx : XW) (P0 : Pl) (H0 : Hp) (P : Pl) (H : Hp) (M' : Mm) (Q : VK) : Res → Prop
  | .v d => ∃ ds, d = .lst ds ∧ ∀ P' a vs H', LtE P H P' H' → Hk K mg P' H' M' → H a = none → P'.bd a → (∀ k, k < P'.n → P'.io k ≠ a) → H' a = some (.lst vs) → Iss K P' H' ds vs → Q (.ref a) H'
  | .x c n => Wx P0 H0 M' c n
noncomputable def tN (K : PySem.W.Frag) (mg : Str → Option Value) (Wx : XW) (f : E) : TE := fun st H Q => ∃ P0 H0 P Os env M r M', Ok K mg P0 H0 P Os H M st env ∧ f env M = some (r, M') ∧ NQ K mg Wx P0 H0 P H M' Q r
noncomputable def SN (X : Cx) (Wx : XW) (e : Expr) (f : E) : Prop := PE X e (tN X.K X.mg Wx f)
/-- one place more is barred -/
noncomputable def Pl.bar (P : Pl) (p : Addr) : Pl := { P with bd := fun a => P.bd a ∨ a = p }
theorem bar_new {K : PySem.W.Frag} {mg : Str → Option Value} {P : Pl} {H : Hp} {M : Mm} {p : Addr} {vs : List V} (h : Hk K mg P H M) (hp : H p = none) : LtE P H (P.bar p) (upd H p (.lst vs)) ∧ Hk K mg (P.bar p) (upd H p (.lst vs)) M ∧ ∀ k, k < P.n → P.io k ≠ p := by
  have s := same_new (o := .lst vs) hp
  have nc : ∀ k, k < P.n → P.io k ≠ p := fun k hk z => h.here _ (h.bd k hk) (z ▸ hp)
  have l : LtE P H (P.bar p) (upd H p (.lst vs)) := ⟨Nat.le_refl _, fun _ _ => rfl, fun a z => Or.imp (fun q => q) (fun (q : a = p) => by rw [q]; exact hp) z, fun a z => .inl z, fun a o e _ => s a o e, fun a z => s.free z, fun k h1 h2 => absurd h1 (Nat.not_le.mpr h2)⟩
  have lt := l.lt h
  refine ⟨l, ⟨h.n, fun k c e => ?_, h.inj, fun k hk => .inl (h.bd k hk), fun a z q => ?_⟩, nc⟩
  · have := h.cell k c e
    cases c with
    | lst ds =>
      obtain ⟨vs, e1, q⟩ := this
      exact ⟨vs, s _ _ e1, Iss.lt lt q⟩
    | obj c fs =>
      obtain ⟨C, dx, gs, e1, e2, e3, q⟩ := this
      exact ⟨C, dx, gs, e1, s _ _ e2, e3, Iss.lt lt q⟩
  · rcases z with z | z
    · exact h.here a z (s.free q)
    · subst z; rw [upd_same] at q; cases q
theorem SN.se {e : Expr} {f : E} (h : SN X Wx e f) (hf : ∀ env M r M', f env M = some (.v r, M') → ∃ ds, r = .lst ds) : SE X Wx .val e f := by
  refine pe_imp h ?_
  rintro st H Q ⟨P0, H0, P, Os, env, M, r, M', k, e, q⟩
  refine ⟨P0, H0, P, Os, env, M, r, M', k, e, ?_⟩
  cases r with
  | x c n => exact q
  | v d =>
    obtain ⟨ds, rfl⟩ := hf _ _ _ _ e
    refine ⟨ds, rfl, fun P' a vs H' l h ha ba nc ea is => q (P'.less (· ≠ a)) _ H' ?_ ?_ ⟨a, vs, rfl, .inl ⟨fun z => z.2 rfl, .inl ea⟩, Iss.less is⟩⟩
    · exact ⟨l.n, l.io, fun b z => l.bd b z.1, fun b z => ⟨l.bm b z, fun q => k.hk.here b z (q ▸ ha)⟩, l.keep, l.sure, l.nw⟩
    · refine ⟨h.n, fun j c e => ?_, h.inj, fun j hj => ⟨h.bd j hj, nc j hj⟩, fun b z => h.here b z.1⟩
      have := h.cell j c e
      cases c with
      | lst ds =>
        obtain ⟨vs, e1, q⟩ := this
        exact ⟨vs, e1, Iss.less q⟩
      | obj c fs =>
        obtain ⟨C, dx, gs, e1, e2, e3, q⟩ := this
        exact ⟨C, dx, gs, e1, e2, e3, Iss.less q⟩
noncomputable def sLst (fs : EA) : E := fun env M => bndA (fs env M) fun ds M1 => if ds.length ≤ sizeLine then some (.v (.lst ds), M1) else none
theorem sn_lst {es : List Expr} {pos : Pos} {fs : EA} (ha : SA X Wx .val es fs) : SN X Wx (.List es pos) (sLst fs) := by
  refine pe_imp (pe_lst ha) ?_
  rintro st H Q ⟨P0, H0, P, Os, env, M, r, M', k, e, q⟩
  unfold sLst at e
  rcases bndA_inv e with ⟨ds, M1, e1, e⟩ | ⟨c, n, e1, rfl⟩
  · split at e
    · rename_i hl
      cases e
      obtain ⟨ds', e', q⟩ := q
      cases e'
      refine ⟨P0, H0, P, Os, env, M, _, _, k, e1, fun P1 vs H1 l1 h1 i1 => ⟨by rw [i1.iss.len]; exact hl, fun p hp => ?_⟩⟩
      obtain ⟨l2, h2, nc⟩ := bar_new (vs := vs) h1 hp
      exact q (P1.bar p) p vs _ (l1.trans l2) h2 (l1.sure p hp) (.inr rfl) nc upd_same (Iss.lt (l2.lt h1) i1.iss)
    · cases e
  · exact ⟨P0, H0, P, Os, env, M, _, _, k, e1, q⟩
theorem lst_is {fs : EA} : ∀ env M r M', sLst fs env M = some (.v r, M') → ∃ ds, r = .lst ds := fun env M r M' e => by
  unfold sLst at e
  rcases bndA_inv e with ⟨ds, M1, e1, e⟩ | ⟨c, n, e1, e⟩
  · split at e
    · cases e; exact ⟨_, rfl⟩
    · cases e
  · cases e
end
end E3


/-! Statements (our own) -/
namespace E3
open PySem PySem.Spec PyProof.Rows L2
inductive Out where
  | nx (env : Env) | bk (env : Env) | ct (env : Env) | rt (d : D) | ex (c : Str) (n : Int)
noncomputable abbrev OS := Option (Out × Mm)
noncomputable abbrev S := Env → Mm → OS
noncomputable def Post (K : PySem.W.Frag) (mg : Str → Option Value) (Wx : XW) (P0 : Pl) (H0 : Hp) (P : Pl) (H : Hp) (M' : Mm) (D : Ends) : Out → Prop
  | .nx env => ∀ P' Os' H' st', Lt P H P' H' → Ok K mg P0 H0 P' Os' H' M' st' env → D.nx st' H'
  | .bk env => ∀ P' Os' H' st', Lt P H P' H' → Ok K mg P0 H0 P' Os' H' M' st' env → D.bk st' H'
  | .ct env => ∀ P' Os' H' st', Lt P H P' H' → Ok K mg P0 H0 P' Os' H' M' st' env → D.ct st' H'
  | .rt d => ∀ P' v H', LtE P0 H0 P' H' → Hk K mg P' H' M' → Is K P' H' d v → D.rt v H'
  | .ex c n => Wx P0 H0 M' c n
noncomputable def tS (K : PySem.W.Frag) (mg : Str → Option Value) (Wx : XW) (f : S) : TS := fun D st H => ∃ P0 H0 P Os env M out M', Ok K mg P0 H0 P Os H M st env ∧ f env M = some (out, M') ∧ Post K mg Wx P0 H0 P H M' D out
noncomputable def SS (X : Cx) (Wx : XW) (s : Stmt) (f : S) : Prop := PS X s (tS X.K X.mg Wx f)
noncomputable def SB (X : Cx) (Wx : XW) (s : List Stmt) (f : S) : Prop := PSs X s (tS X.K X.mg Wx f)
noncomputable def bndS (o : O) (k : D → Mm → OS) : OS := match o with
  | some (.v d, M) => k d M
  | some (.x c n, M) => some (.ex c n, M)
  | none => none
theorem bndS_inv {o : O} {k : D → Mm → OS} {r : Out} {M' : Mm} (h : bndS o k = some (r, M')) : (∃ d M, o = some (.v d, M) ∧ k d M = some (r, M')) ∨ ∃ c n, o = some (.x c n, M') ∧ r = .ex c n := by
  unfold bndS at h
  split at h
  · exact .inl ⟨_, _, rfl, h⟩
  · cases h; exact .inr ⟨_, _, rfl, rfl⟩
  · cases h
section
variable {K : PySem.W.Frag} {mg : Str → Option Value} {Wx : XW} {P0 P P' P1 : Pl} {H0 H H' H1 : Hp} {M M' : Mm} {Os : List (Option Addr)} {st : L2.St} {env : Env} {d : D} {v : V} {i : Nat}
theorem set_join {α : Type} (l : List (Option α)) (i j : Nat) (x : Option α) (hi : i < l.length) : ((l.set i x)[j]?).join = if i = j then x else (l[j]?).join := by
  rw [List.getElem?_set]
  by_cases h : i = j
  · subst h
    rw [if_pos rfl, if_pos hi, if_pos rfl]
    rfl
  · rw [if_neg h, if_neg h]
theorem Ok.asg (k : Ok K mg P0 H0 P Os H M st env) (hi : i < env.length) (h : Is K P H d v) : Ok K mg P0 H0 P (Os.set i none) H M (st.set i (some v)) (env.set i (.val d)) where
  hk := k.hk
  base := k.base
  b0 := k.b0
  slot := fun j s e => by
    rw [set_join _ _ _ _ (by rw [k.olen]; exact hi), set_join _ _ _ _ (by rw [k.slen]; exact hi)]
    rw [List.getElem?_set] at e
    split at e
    · rename_i ij
      subst ij
      cases e
      rw [if_pos rfl, if_pos rfl]
      exact ⟨v, rfl, h⟩
    · rename_i ij
      rw [if_neg ij, if_neg ij]
      exact k.slot j s e
  own := fun a h => k.own a (by
    rcases List.mem_or_eq_of_mem_set h with h | h
    · exact h
    · cases h)
  inj := fun j l a e1 e2 => by
    rw [List.getElem?_set] at e1 e2
    split at e1
    · split at e1 <;> cases e1
    · split at e2
      · split at e2 <;> cases e2
      · exact k.inj j l a e1 e2
  olen := by rw [List.length_set, List.length_set, k.olen]
  slen := by rw [List.length_set, List.length_set, k.slen]
theorem Ok.here (k : Ok K mg P0 H0 P Os H M st env) {a : Addr} (h : some a ∈ Os) : H a ≠ none := k.hk.here a (k.own a h).1
theorem Ok.mine {a : Addr} {vs : List V} {ds : List D} (k0 : Ok K mg P0 H0 P Os H M st env) (l : LtE P H P' H') (hk : Hk K mg P' H' M') (hi : i < env.length) (ha : H a = none) (ba : P'.bd a) (nc : ∀ j, j < P'.n → P'.io j ≠ a) (e : H' a = some (.lst vs)) (h : Iss K P' H' ds vs) :
    Ok K mg P0 H0 P' (Os.set i (some a)) H' M' (st.set i (some (.ref a))) (env.set i (.own ds)) := by
  have k := k0.next l hk
  have nO : ∀ j, Os[j]? ≠ some (some a) := fun j z => k0.here (List.mem_of_getElem? z) ha
  exact {
    hk := k.hk
    base := k.base
    b0 := k.b0
    slot := fun j s e' => by
      rw [set_join _ _ _ _ (by rw [k.olen]; exact hi), set_join _ _ _ _ (by rw [k.slen]; exact hi)]
      rw [List.getElem?_set] at e'
      split at e'
      · rename_i ij
        subst ij
        cases e'
        rw [if_pos rfl, if_pos rfl]
        exact ⟨a, vs, rfl, rfl, e, h⟩
      · rename_i ij
        rw [if_neg ij, if_neg ij]
        exact k.slot j s e'
    own := fun b hb => by
      rcases List.mem_or_eq_of_mem_set hb with hb | hb
      · exact k.own b hb
      · cases hb
        exact ⟨ba, nc, k0.base.sure a ha⟩
    inj := fun j l b e1 e2 => by
      rw [List.getElem?_set] at e1 e2
      split at e1
      · split at e1
        · cases e1
          split at e2
          · rename_i z1 _ z2; exact z1.symm.trans z2
          · exact absurd e2 (nO l)
        · cases e1
      · split at e2
        · split at e2
          · cases e2; exact absurd e1 (nO j)
          · cases e2
        · exact k.inj j l b e1 e2
    olen := by rw [List.length_set, List.length_set, k.olen]
    slen := by rw [List.length_set, List.length_set, k.slen] }
/-- a change of what is barred -/
theorem lt_chg {a : Addr} {o o' : HO} (b : P.bd a) (e : H a = some o) (nf : ¬ Fx o) : Lt P H P (upd H a o') := ⟨Nat.le_refl _, fun _ _ => rfl, fun _ z => .inl z, fun c u ec z => by
    by_cases h : c = a
    · subst h
      rw [e] at ec
      cases ec
      exact (z.elim nf fun n => n b).elim
    · rw [upd_ne h]; exact ec, fun c z => by
    by_cases h : c = a
    · subst h; rw [upd_same] at z; cases z
    · rw [upd_ne h] at z; exact z⟩
theorem nf_lst {vs : List V} : ¬ Fx (.lst vs) := fun z => by rcases z with ⟨_, z⟩ | ⟨_, _, z⟩ <;> cases z
theorem CellOk.lt {a : Addr} {c : Cl} (l : Lt P H P' H') (e : ∀ o, H a = some o → H' a = some o) (h : CellOk K mg P H a c) : CellOk K mg P' H' a c := by
  cases c with
  | lst ds =>
    obtain ⟨vs, e1, q⟩ := h
    exact ⟨vs, e _ e1, Iss.lt l q⟩
  | obj c fs =>
    obtain ⟨C, dx, gs, e1, e2, e3, q⟩ := h
    exact ⟨C, dx, gs, e1, e _ e2, e3, Iss.lt l q⟩
/-- the own list in slot i becomes another one -/
theorem Ok.chg {a : Addr} {vs vs' : List V} {ds ds' : List D} (k : Ok K mg P0 H0 P Os H M st env) (hi : env[i]? = some (.own ds)) (ho : Os[i]? = some (some a)) (e : H a = some (.lst vs)) (h : Iss K P H ds' vs') :
    Lt P H P (upd H a (.lst vs')) ∧ Ok K mg P0 H0 P Os (upd H a (.lst vs')) M st (env.set i (.own ds')) := by
  obtain ⟨b1, b2, b3⟩ := k.own a (List.mem_of_getElem? ho)
  have l : Lt P H P (upd H a (.lst vs')) := lt_chg b1 e nf_lst
  have ilt : i < env.length := (List.getElem?_eq_some_iff.mp hi).1
  refine ⟨l, ?_⟩
  exact {
    hk := ⟨k.hk.n, fun j c ej => (k.hk.cell j c ej).lt l fun o eo => by rw [upd_ne (b2 j (by rw [k.hk.n]; exact (List.getElem?_eq_some_iff.mp ej).1))]; exact eo, k.hk.inj, k.hk.bd, fun c z q => k.hk.here c z (l.sure c q)⟩
    base := ⟨k.base.n, k.base.io, k.base.bd, k.base.bm, fun c o ec n => by
      have := k.base.keep c o ec n
      rw [upd_ne (fun z => by subst z; rw [b3] at ec; cases ec)]
      exact this, fun c z => k.base.sure c (l.sure c z), k.base.nw⟩
    b0 := k.b0
    slot := fun j s ej => by
      rw [List.getElem?_set] at ej
      split at ej
      · rename_i ij
        subst ij
        cases ej
        obtain ⟨a', vs0, e1, e2, e3, q⟩ := k.slot i _ hi
        rw [ho] at e1
        cases e1
        exact ⟨a, vs', by rw [ho]; rfl, e2, upd_same, Iss.lt l h⟩
      · rename_i ij
        have q := k.slot j s ej
        cases s with
        | un => exact True.intro
        | val d => obtain ⟨v, e1, q⟩ := q; exact ⟨v, e1, Is.lt l q⟩
        | own es =>
          obtain ⟨a', ws, e1, e2, e3, q⟩ := q
          refine ⟨a', ws, e1, e2, ?_, Iss.lt l q⟩
          rw [upd_ne (fun z => ij (k.inj i j a ho (by rw [← z]; exact join_get e1)))]
          exact e3
    own := k.own
    inj := k.inj
    olen := by rw [List.length_set, k.olen]
    slen := by rw [List.length_set, k.slen] }
/-- a cell becomes another one -/
theorem Hk.set {j : Nat} {c c' : Cl} {o' : HO} (h : Hk K mg P H M) (e : M[j]? = some c) (w : CellOk K mg P (upd H (P.io j) o') (P.io j) c') : Lt P H P (upd H (P.io j) o') ∧ LtE P H P (upd H (P.io j) o') ∧ Hk K mg P (upd H (P.io j) o') (M.set j c') := by
  have jl : j < P.n := by rw [h.n]; exact (List.getElem?_eq_some_iff.mp e).1
  obtain ⟨o, eo, nf⟩ := h.cellAt jl
  have l : Lt P H P (upd H (P.io j) o') := lt_chg (h.bd j jl) eo nf
  refine ⟨l, ⟨Nat.le_refl _, fun _ _ => rfl, fun _ z => .inl z, fun _ z => z, fun a u ea n => by rw [upd_ne (fun z => n j jl z.symm)]; exact ea, l.sure, fun k h1 h2 => absurd h1 (Nat.not_le.mpr h2)⟩, ⟨by rw [List.length_set, h.n], fun k b ek => ?_, h.inj, h.bd, fun a z q => h.here a z (l.sure a q)⟩⟩
  rw [List.getElem?_set] at ek
  split at ek
  · rename_i jk
    subst jk
    rw [if_pos (by rw [← h.n]; exact jl)] at ek
    cases ek
    exact w
  · rename_i jk
    have kl : k < P.n := by rw [h.n]; exact (List.getElem?_eq_some_iff.mp ek).1
    exact (h.cell k b ek).lt l fun u eu => by rw [upd_ne (fun z => jk (h.inj j k jl kl z.symm))]; exact eu
/-- an own list is frozen -/
theorem Ok.frz {ds : List D} (k : Ok K mg P0 H0 P Os H M st env) (hi : env[i]? = some (.own ds)) : ∃ P' Os', Lt P H P' H ∧ Ok K mg P0 H0 P' Os' H M st (env.set i (.val (.lst ds))) := by
  obtain ⟨a, vs, e1, e2, e3, q⟩ := k.slot i _ hi
  have ho := join_get e1
  obtain ⟨b1, b2, b3⟩ := k.own a (List.mem_of_getElem? ho)
  have ilt : i < env.length := (List.getElem?_eq_some_iff.mp hi).1
  have nO : ∀ b, some b ∈ Os.set i none → some b ∈ Os ∧ b ≠ a := fun b z => by
    obtain ⟨j, hj⟩ := List.mem_iff_getElem?.mp z
    rw [List.getElem?_set] at hj
    split at hj
    · split at hj <;> cases hj
    · rename_i ij
      exact ⟨List.mem_of_getElem? hj, fun z => by subst z; exact ij (k.inj i j b ho hj)⟩
  have l : Lt P H (P.less (· ≠ a)) H := ⟨Nat.le_refl _, fun _ _ => rfl, fun c z => .inl z.1, fun _ _ e _ => e, fun _ z => z⟩
  refine ⟨P.less (· ≠ a), Os.set i none, l, {
    hk := ⟨k.hk.n, fun j c ej => (k.hk.cell j c ej).lt l fun _ z => z, k.hk.inj, fun j hj => ⟨k.hk.bd j hj, b2 j hj⟩, fun c z => k.hk.here c z.1⟩
    base := ⟨k.base.n, k.base.io, fun c z => k.base.bd c z.1, fun c z => ⟨k.base.bm c z, fun q => k.b0 c z (q ▸ b3)⟩, k.base.keep, k.base.sure, k.base.nw⟩
    b0 := k.b0
    slot := fun j s ej => ?_
    own := fun c z => ?_
    inj := fun j l b z1 z2 => ?_
    olen := by rw [List.length_set, List.length_set, k.olen]
    slen := by rw [List.length_set, k.slen] }⟩
  · rw [set_join _ _ _ _ (by rw [k.olen]; exact ilt)]
    rw [List.getElem?_set] at ej
    split at ej
    · rename_i ij
      subst ij
      cases ej
      exact ⟨.ref a, e2, a, vs, rfl, .inl ⟨fun z => z.2 rfl, .inl e3⟩, Iss.less q⟩
    · rename_i ij
      rw [if_neg ij]
      have q := k.slot j s ej
      cases s with
      | un => exact True.intro
      | val d => obtain ⟨v, e1, q⟩ := q; exact ⟨v, e1, Is.less q⟩
      | own es => obtain ⟨a', ws, e1, e2, e3, q⟩ := q; exact ⟨a', ws, e1, e2, e3, Iss.less q⟩
  · obtain ⟨z1, z2⟩ := nO c z
    obtain ⟨c1, c2, c3⟩ := k.own c z1
    exact ⟨⟨c1, z2⟩, c2, c3⟩
  · rw [List.getElem?_set] at z1 z2
    split at z1
    · split at z1 <;> cases z1
    · split at z2
      · split at z2 <;> cases z2
      · exact k.inj j l b z1 z2
end
end E3


/-! Rules for statements (our own) -/
namespace E3
open PySem PySem.Spec PyProof.Rows L2
section
variable {X : Cx} {Wx : XW} {pos : Pos}
theorem ps_imp {s : Stmt} {t t' : TS} (h : PS X s t) (w : ∀ D σ H, t' D σ H → t D σ H) : PS X s t' := fun pins s σ H D I hw => h pins s σ H D I (w D σ H hw)
theorem pss_imp {s : List Stmt} {t t' : TS} (h : PSs X s t) (w : ∀ D σ H, t' D σ H → t D σ H) : PSs X s t' := fun pins s σ H D I hw => h pins s σ H D I (w D σ H hw)
/-! ### one after the other -/
noncomputable def sEnd : S := fun env M => some (.nx env, M)
noncomputable def sSeq (f g : S) : S := fun env M => match f env M with
  | some (.nx e, M1) => g e M1
  | o => o
theorem sb_nil : SB X Wx [] sEnd := by
  refine pss_imp pss_nil ?_
  rintro D st H ⟨P0, H0, P, Os, env, M, out, M', k, e, q⟩
  cases e
  exact q P Os H st (Lt.refl P H) k
theorem Post.lt {K : PySem.W.Frag} {mg : Str → Option Value} {P0 P P1 : Pl} {H0 H H1 : Hp} {M' : Mm} {D : Ends} {o : Out} (l : Lt P H P1 H1) (q : Post K mg Wx P0 H0 P H M' D o) : Post K mg Wx P0 H0 P1 H1 M' D o := by
  cases o with
  | nx env => exact fun P' Os' H' st' l' k => q P' Os' H' st' (l.trans l') k
  | bk env => exact fun P' Os' H' st' l' k => q P' Os' H' st' (l.trans l') k
  | ct env => exact fun P' Os' H' st' l' k => q P' Os' H' st' (l.trans l') k
  | rt d => exact q
  | ex c n => exact q
theorem sb_cons {s : Stmt} {ss : List Stmt} {f g : S} (h1 : SS X Wx s f) (h2 : SB X Wx ss g) : SB X Wx (s :: ss) (sSeq f g) := by
  refine pss_imp (pss_cons h1 h2) ?_
  rintro D st H ⟨P0, H0, P, Os, env, M, out, M', k, e, q⟩
  unfold sSeq at e
  split at e
  · rename_i e1 M1 ef
    refine ⟨P0, H0, P, Os, env, M, _, _, k, ef, fun P1 Os1 H1 st1 l1 k1 => ?_⟩
    exact ⟨P0, H0, P1, Os1, e1, M1, _, _, k1, e, q.lt l1⟩
  · rename_i o ho
    cases ef : f env M with
    | none => rw [ef] at e; cases e
    | some om =>
      obtain ⟨o1, M1⟩ := om
      rw [ef] at e
      cases e
      refine ⟨P0, H0, P, Os, env, M, _, _, k, ef, ?_⟩
      cases out with
      | nx env' => exact (ho _ _ ef).elim
      | bk env' => exact q
      | ct env' => exact q
      | rt d => exact q
      | ex c n => exact q
/-! ### name = e -/
noncomputable def sAsg (i : Nat) (f : E) : S := fun env M => bndS (f env M) fun d M1 => if i < env.length then some (.nx (env.set i (.val d)), M1) else none
theorem ss_asg {i : Nat} {x : Str} {e : Expr} {f : E} {pos' : Pos} (hN : X.N.Nodup) (hi : X.N[i]? = some x) (hx : Loc X.env.scope x) (he : SE X Wx .val e f) (hs : swapsWith e (some (.Name x pos')) pos.line X.env = pure false := by rfl)
    (hf : X.fn x = true ∨ X.env.scope.names.lookup x = some .local := by first | exact .inl rfl | exact .inr rfl) : SS X Wx (.Assign [.Name x pos'] e pos) (sAsg i f) := by
  refine ps_imp (ps_set hN hi hx he hs hf) ?_
  rintro D st H ⟨P0, H0, P, Os, env, M, out, M', k, e, q⟩
  unfold sAsg at e
  rcases bndS_inv e with ⟨d, M1, e1, e⟩ | ⟨c, n, e1, rfl⟩
  · split at e
    · rename_i hl
      cases e
      exact ⟨P0, H0, P, Os, env, M, _, _, k, e1, fun P1 v1 H1 l1 h1 i1 => q _ _ _ _ (l1.lt k.hk) ((k.next l1 h1).asg hl i1)⟩
    · cases e
  · exact ⟨P0, H0, P, Os, env, M, _, _, k, e1, q⟩
noncomputable def sMine (i : Nat) (f : E) : S := fun env M => bndS (f env M) fun d M1 => match d with
  | .lst ds => if i < env.length then some (.nx (env.set i (.own ds)), M1) else none
  | _ => none
theorem ss_mine {i : Nat} {x : Str} {e : Expr} {f : E} {pos' : Pos} (hN : X.N.Nodup) (hi : X.N[i]? = some x) (hx : Loc X.env.scope x) (he : SN X Wx e f) (hs : swapsWith e (some (.Name x pos')) pos.line X.env = pure false := by rfl)
    (hf : X.fn x = true ∨ X.env.scope.names.lookup x = some .local := by first | exact .inl rfl | exact .inr rfl) : SS X Wx (.Assign [.Name x pos'] e pos) (sMine i f) := by
  refine ps_imp (ps_set hN hi hx he hs hf) ?_
  rintro D st H ⟨P0, H0, P, Os, env, M, out, M', k, e, q⟩
  unfold sMine at e
  rcases bndS_inv e with ⟨d, M1, e1, e⟩ | ⟨c, n, e1, rfl⟩
  · cases d <;> simp only [reduceCtorEq] at e
    rename_i ds
    split at e
    · rename_i hl
      cases e
      exact ⟨P0, H0, P, Os, env, M, _, _, k, e1, ds, rfl, fun P1 a vs H1 l1 h1 ha ba nc ea is => q _ _ _ _ (l1.lt k.hk) (k.mine l1 h1 hl ha ba nc ea is)⟩
    · cases e
  · exact ⟨P0, H0, P, Os, env, M, _, _, k, e1, q⟩
/-! ### return, an expression alone, if -/
noncomputable def sRet (f : E) : S := fun env M => bndS (f env M) fun d M1 => some (.rt d, M1)
theorem ss_ret {e : Expr} {f : E} (he : SE X Wx .val e f) : SS X Wx (.Return (some e) pos) (sRet f) := by
  refine ps_imp (ps_ret he) ?_
  rintro D st H ⟨P0, H0, P, Os, env, M, out, M', k, e, q⟩
  unfold sRet at e
  rcases bndS_inv e with ⟨d, M1, e1, e⟩ | ⟨c, n, e1, rfl⟩
  · cases e
    exact ⟨P0, H0, P, Os, env, M, _, _, k, e1, fun P1 v1 H1 l1 h1 i1 => q P1 v1 H1 (k.base.trans l1) h1 i1⟩
  · exact ⟨P0, H0, P, Os, env, M, _, _, k, e1, q⟩
noncomputable def sDrop (f : E) : S := fun env M => bndS (f env M) fun _ M1 => some (.nx env, M1)
noncomputable def sIf (c : E) (f g : S) : S := fun env M => bndS (c env M) fun d M1 => match d with
  | .bl b => if b = true then f env M1 else g env M1
  | _ => none
theorem ss_if {c : Expr} {a b : List Stmt} {t : E} {f g : S} (hc : ST X Wx c t) (ha : SB X Wx a f) (hb : SB X Wx b g) : SS X Wx (.If c a b pos) (sIf t f g) := by
  refine ps_imp (ps_if hc ha hb) ?_
  rintro D st H ⟨P0, H0, P, Os, env, M, out, M', k, e, q⟩
  unfold sIf at e
  rcases bndS_inv e with ⟨d, M1, e1, e⟩ | ⟨c, n, e1, rfl⟩
  · cases d <;> simp only [reduceCtorEq] at e
    rename_i b
    refine tTt_go k e1 ⟨b, rfl, fun P1 H1 l1 h1 => ?_⟩
    cases b with
    | true =>
      rw [if_pos rfl] at e ⊢
      exact ⟨P0, H0, P1, Os, env, M1, _, _, k.next l1 h1, e, q.lt (l1.lt k.hk)⟩
    | false =>
      rw [if_neg (by decide)] at e ⊢
      exact ⟨P0, H0, P1, Os, env, M1, _, _, k.next l1 h1, e, q.lt (l1.lt k.hk)⟩
  · exact tTt_go k e1 q
/-- an own list is frozen (no row of the text) -/
noncomputable def sFrz (i : Nat) : S := fun env M => match env[i]? with
  | some (.own ds) => some (.nx (env.set i (.val (.lst ds))), M)
  | _ => none
theorem sb_frz {ss : List Stmt} {i : Nat} {g : S} (h : SB X Wx ss g) : SB X Wx ss (sSeq (sFrz i) g) := by
  refine pss_imp h ?_
  rintro D st H ⟨P0, H0, P, Os, env, M, out, M', k, e, q⟩
  unfold sSeq sFrz at e
  split at e
  · rename_i e1 M1 ef
    split at ef
    · rename_i ds es
      cases ef
      obtain ⟨P1, Os1, l1, k1⟩ := k.frz es
      exact ⟨P0, H0, P1, Os1, _, _, _, _, k1, e, q.lt l1⟩
    · cases ef
  · rename_i ho
    split at e
    · rename_i es
      exact (ho _ _ (by rw [es])).elim
    · cases e
/-! ### own.append(e) -/
noncomputable def sApp (i : Nat) (f : E) : S := fun env M => match env[i]? with
  | some (.own ds) => bndS (f env M) fun d M1 => if ds.length < sizeLine then some (.nx (env.set i (.own (ds ++ [d]))), M1) else none
  | _ => none
theorem ss_app {i : Nat} {x : Str} {e : Expr} {f : E} {p0 p q : Pos} (hN : X.N[i]? = some x) (hv : Vis X.env.scope x) (he : SE X Wx .val e f) (hd : (x == ("__debug__" : Str)) = false := by decide +kernel) (hcd : (x == ("__classdict__" : Str)) = false := by decide +kernel)
    (hfew : ((backTo q (starEach [e] X.env)).all (fun x => !x.1) && (backToKw q (keywordEach [] X.env)).all (fun x => x.1.isSome) && decide ([e].length + ([] : List Keyword).length + (if ([] : List Keyword).isEmpty then 0 else 1) < 30)) = true := by rfl)
    (hline : (p.endLine == q.line) = true := by rfl) (hs : starEach [e] X.env = (false, eval e X.env) :: starEach [] X.env := by rfl) (hw : swapsWith (.Call (.Attribute (.Name x p0) "append" p) [e] [] q) none pos.line X.env = pure false := by rfl) :
    SS X Wx (.Expr (.Call (.Attribute (.Name x p0) "append" p) [e] [] q) pos) (sApp i f) := by
  refine ps_imp (ps_expr (pe_bm PySem.F.plainAttrs_list PySem.F.slot_list_append PySem.F.type_list_append mt_append (pe_var hN hv hd hcd) (pa_cons he pa_nil hs) rfl hfew hline hs rfl) hw) ?_
  rintro D st H ⟨P0, H0, P, Os, env, M, out, M', k, e, q⟩
  unfold sApp at e
  split at e
  · rename_i ds es
    obtain ⟨a, vs, o1, o2, o3, o4⟩ := k.slot i _ es
    refine ⟨.ref a, join_get o2, .inl ⟨rfl, vs, .inl (.inl o3)⟩, ?_⟩
    rcases bndS_inv e with ⟨d, M1, e1, e⟩ | ⟨c, n, e1, rfl⟩
    · split at e
      · rename_i hz
        cases e
        refine tE_go k e1 fun P1 v1 H1 l1 h1 i1 => ?_
        have k1 := k.next l1 h1
        obtain ⟨a', vs', o1', o2', o3', o4'⟩ := k1.slot i _ es
        have ea : a' = a := by
          have z := o2'.symm.trans o2
          cases z
          rfl
        subst ea
        refine ⟨a', vs', v1, rfl, rfl, o3', by rw [o4'.len]; exact hz, ?_⟩
        obtain ⟨l2, k2⟩ := k1.chg es (join_get o1') o3' (Iss.append o4' (Iss.one i1))
        exact q _ _ _ _ ((l1.lt k.hk).trans l2) k2
      · cases e
    · exact tE_go k e1 q
  · cases e
/-! ### loops -/
/-- an iterator that walks the data ds, whatever changes but what is barred -/
noncomputable def Wk (K : PySem.W.Frag) (P1 : Pl) (H1 : Hp) (J : It) (ds : List D) : Prop := ∀ P H, Lt P1 H1 P H → (∀ k, k < ds.length → J.go k H) ∧ (∀ k, ds.length ≤ k → k ≤ ds.length → J.stop k H) ∧ ∀ k x H', J.yld k H x H' → k < ds.length → H' = H ∧ ∃ d, ds[k]? = some d ∧ Is K P H d x
noncomputable def IQ (K : PySem.W.Frag) (mg : Str → Option Value) (Wx : XW) (P0 : Pl) (H0 : Hp) (P : Pl) (H : Hp) (M' : Mm) (R : It → Hp → Prop) : ResA → Prop
  | .v ds => ∀ P' H' J, LtE P H P' H' → Hk K mg P' H' M' → Wk K P' H' J ds → R J H'
  | .x c n => Wx P0 H0 M' c n
noncomputable def tI (K : PySem.W.Frag) (mg : Str → Option Value) (Wx : XW) (fs : EA) : TI := fun st H R => ∃ P0 H0 P Os env M r M', Ok K mg P0 H0 P Os H M st env ∧ fs env M = some (r, M') ∧ IQ K mg Wx P0 H0 P H M' R r
noncomputable def SI (X : Cx) (Wx : XW) (tg iter : Expr) (fs : EA) : Prop := PI X tg iter (tI X.K X.mg Wx fs)
theorem pi_imp {tg iter : Expr} {t t' : TI} (h : PI X tg iter t) (w : ∀ σ H R, t' σ H R → t σ H R) : PI X tg iter t' := fun pins s σ H R I hw => h pins s σ H R I (w σ H R hw)
noncomputable def loopS (i : Nat) (body : S) : List D → Env → Mm → OS
  | [], env, M => some (.nx env, M)
  | d :: ds, env, M => if i < env.length then (match body (env.set i (.val d)) M with
    | some (.nx e, M1) => loopS i body ds e M1
    | some (.ct e, M1) => loopS i body ds e M1
    | some (.bk e, M1) => some (.nx e, M1)
    | some (.rt d, M1) => some (.rt d, M1)
    | some (.ex c n, M1) => some (.ex c n, M1)
    | none => none) else none
noncomputable def sFor (i : Nat) (fs : EA) (body : S) : S := fun env M => match fs env M with
  | some (.v ds, M1) => loopS i body ds env M1
  | some (.x c n, M1) => some (.ex c n, M1)
  | none => none
theorem loop_read {K : PySem.W.Frag} {mg : Str → Option Value} {P0 P1 : Pl} {H0 H1 : Hp} {Os : List (Option Addr)} {M M' : Mm} {st : L2.St} {env : Env} {i : Nat} {b : S} {J : It} {ds : List D} {out : Out} {D : Ends} (k : Ok K mg P0 H0 P1 Os H1 M st env) (wk : Wk K P1 H1 J ds)
    (h : loopS i b ds env M = some (out, M')) (q : Post K mg Wx P0 H0 P1 H1 M' D out) :
    ∃ W : Nat → Nat → L2.St → Hp → Prop, (∃ m, W 0 m st H1) ∧ ∀ j m σ H, W j m σ H →
      (J.stop j H ∧ D.nx σ H) ∨ (J.go j H ∧ ∃ Nn : L2.St → Hp → Prop, (∀ σ' H', Nn σ' H' → ∃ m', m' < m ∧ W (j + 1) m' σ' H') ∧ ∀ x H', J.yld j H x H' → gName i x σ H' fun σ2 H2 => tS K mg Wx b { D with nx := Nn, ct := Nn, bk := D.nx } σ2 H2) := by
  refine ⟨fun j m σ H => m = ds.length - j ∧ j ≤ ds.length ∧ ∃ P Os' M1 env', Lt P1 H1 P H ∧ Ok K mg P0 H0 P Os' H M1 σ env' ∧ loopS i b (ds.drop j) env' M1 = some (out, M'), ⟨ds.length, by simp, Nat.zero_le _, P1, Os, M, env, Lt.refl _ _, k, h⟩, ?_⟩
  rintro j m σ H ⟨rfl, hj, P, Os', M1, env', lt, k', h'⟩
  obtain ⟨w1, w2, w3⟩ := wk P H lt
  by_cases hlt : j < ds.length
  · refine .inr ⟨w1 j hlt, fun σ' H' => ∃ P Os' M1 env', Lt P1 H1 P H' ∧ Ok K mg P0 H0 P Os' H' M1 σ' env' ∧ loopS i b (ds.drop (j + 1)) env' M1 = some (out, M'), fun σ' H' z => ⟨ds.length - (j + 1), by omega, rfl, hlt, z⟩, fun x H' y => ?_⟩
    obtain ⟨e3, d, ed, iv⟩ := w3 j x H' y hlt
    subst e3
    have ed' : ds.drop j = d :: ds.drop (j + 1) := by
      rw [List.drop_eq_getElem_cons hlt]
      rw [List.getElem?_eq_getElem hlt] at ed
      rw [Option.some.inj ed]
    rw [ed'] at h'
    simp only [loopS] at h'
    split at h'
    · rename_i hi
      have k2 := k'.asg hi iv
      split at h'
      · rename_i e M2 eb
        exact ⟨P0, H0, P, _, _, M1, _, _, k2, eb, fun P' Os2 H2 st2 l2 k3 => ⟨P', Os2, _, e, lt.trans l2, k3, h'⟩⟩
      · rename_i e M2 eb
        exact ⟨P0, H0, P, _, _, M1, _, _, k2, eb, fun P' Os2 H2 st2 l2 k3 => ⟨P', Os2, _, e, lt.trans l2, k3, h'⟩⟩
      · rename_i e M2 eb
        cases h'
        exact ⟨P0, H0, P, _, _, M1, _, _, k2, eb, fun P' Os2 H2 st2 l2 k3 => q P' Os2 H2 st2 (lt.trans l2) k3⟩
      · rename_i e M2 eb
        cases h'
        exact ⟨P0, H0, P, _, _, M1, _, _, k2, eb, q⟩
      · rename_i c n M2 eb
        cases h'
        exact ⟨P0, H0, P, _, _, M1, _, _, k2, eb, q⟩
      · cases h'
    · cases h'
  · have ej : j = ds.length := by omega
    subst ej
    rw [List.drop_length] at h'
    cases h'
    exact .inl ⟨w2 _ (Nat.le_refl _) (Nat.le_refl _), q P Os' H σ lt k'⟩
theorem ss_for {i : Nat} {x : Str} {p : Pos} {iter : Expr} {body : List Stmt} {fs : EA} {b : S} (hp : PassesOwn (model X.prog X.w) X.A X.env X.xe) (hc : X.calm = true) (hN : X.N.Nodup) (hi : X.N[i]? = some x) (hx : Loc X.env.scope x) (hI : SI X Wx (.Name x p) iter fs) (hb : SB X Wx body b)
    (hf : X.fn x = true ∨ X.env.scope.names.lookup x = some .local := by first | exact .inl rfl | exact .inr rfl) (hs : ∀ x, foldedSetIterable iter X.env x = pure x := by intro _; rfl) : SS X Wx (.For (.Name x p) iter body [] pos) (sFor i fs b) := by
  refine ps_imp (ps_for hp hc hI (pg_name hN hi hx hf) hb hs) ?_
  rintro D st H ⟨P0, H0, P, Os, env, M, out, M', k, e, q⟩
  unfold sFor at e
  split at e
  · rename_i ds M1 ef
    exact ⟨P0, H0, P, Os, env, M, _, _, k, ef, fun P1 H1 J l1 h1 wk => loop_read (k.next l1 h1) wk e (q.lt (l1.lt k.hk))⟩
  · rename_i c n M1 ef
    cases e
    exact ⟨P0, H0, P, Os, env, M, _, _, k, ef, q⟩
  · cases e
/-- a list that never changes any more -/
noncomputable def iLst (f : E) : EA := fun env M => match f env M with
  | some (.v (.lst ds), M1) => some (.v ds, M1)
  | some (.x c n, M1) => some (.x c n, M1)
  | _ => none
theorem si_lst {tg e : Expr} {f : E} (h : SE X Wx .val e f) : SI X Wx tg e (iLst f) := by
  refine pi_imp (pi_list h) ?_
  rintro st H R ⟨P0, H0, P, Os, env, M, r, M', k, e, q⟩
  unfold iLst at e
  split at e
  · rename_i ds M1 ef
    cases e
    refine ⟨P0, H0, P, Os, env, M, _, _, k, ef, fun P1 v1 H1 l1 h1 i1 => ?_⟩
    obtain ⟨a, vs, rfl, ra, is⟩ := i1
    refine ⟨a, rfl, ⟨vs, ra.imp (·.2) id⟩, q P1 H1 _ l1 h1 fun P2 H2 l2 => ?_⟩
    have ra2 := l2.rda ra
    have is2 := Iss.lt l2 is
    have sq : SqL X.K H2 a vs := ra2.imp (·.2) id
    refine ⟨fun j hj => ?_, fun j h1 h2 => ⟨vs, sq, by rw [is2.len]; exact h1⟩, fun j x H' y hj => ⟨y.1, ?_⟩⟩
    · obtain ⟨v, ev, _⟩ := Iss.get is2 (List.getElem?_eq_getElem hj)
      exact ⟨vs, v, sq, ev⟩
    · obtain ⟨v, ev, iv⟩ := Iss.get is2 (List.getElem?_eq_getElem hj)
      have := y.2 vs sq
      rw [ev] at this
      cases this
      exact ⟨_, List.getElem?_eq_getElem hj, iv⟩
  · rename_i c n M1 ef
    cases e
    exact ⟨P0, H0, P, Os, env, M, _, _, k, ef, q⟩
  · cases e
end
end E3


/-! Defs and their calls (our own) -/
namespace E3
open PySem PySem.Spec PyProof.Rows L2
noncomputable abbrev G := List D → Mm → O
noncomputable def spG (K : PySem.W.Frag) (mg : Str → Option Value) (n : Nat) (g : G) : Sp := fun vs H Q _ => vs.length = n ∧ ∃ P M ds d M', Hk K mg P H M ∧ Iss K P H ds vs ∧ g ds M = some (.v d, M') ∧ ∀ P' v H', LtE P H P' H' → Hk K mg P' H' M' → Is K P' H' d v → Q v H'
noncomputable def endS (o : OS) : O := match o with
  | some (.rt d, M) => some (.v d, M)
  | some (.nx _, M) => some (.v .non, M)
  | some (.ex c n, M) => some (.x c n, M)
  | _ => none
noncomputable def fnG (n : Nat) (b : S) : G := fun ds M => endS (b (ds.map .val ++ List.replicate (n - ds.length) .un) M)
theorem start_ok {K : PySem.W.Frag} {mg : Str → Option Value} {P : Pl} {H : Hp} {M : Mm} {N : List Str} {ds : List D} {vs : List V} (hk : Hk K mg P H M) (hl : vs.length ≤ N.length) (h : Iss K P H ds vs) :
    Ok K mg P H P (List.replicate N.length none) H M (L2.start N vs) (ds.map .val ++ List.replicate (N.length - ds.length) .un) := by
  have hd := h.len
  refine ⟨hk, LtE.refl P H, hk.here, fun i s e => ?_, fun a z => ?_, fun i j a e1 _ => ?_, by simp; omega, by simp [L2.start]; omega⟩
  · have e0 : ((List.replicate N.length (none : Option Addr))[i]?).join = none := by
      rw [List.getElem?_replicate]
      split <;> rfl
    rw [e0]
    by_cases hi : i < ds.length
    · rw [List.getElem?_append_left (by simpa using hi), List.getElem?_map, List.getElem?_eq_getElem hi] at e
      simp only [Option.map_some, Option.some.injEq] at e
      subst e
      obtain ⟨v, ev, p⟩ := h.get (List.getElem?_eq_getElem hi)
      refine ⟨v, ?_, p⟩
      unfold L2.start
      rw [List.getElem?_append_left (by rw [List.length_map]; omega), List.getElem?_map, ev]
      rfl
    · rw [List.getElem?_append_right (by simpa using hi), List.getElem?_replicate] at e
      split at e
      · cases e; exact True.intro
      · cases e
  · exact absurd (List.eq_of_mem_replicate z) (by simp)
  · rw [List.getElem?_replicate] at e1
    split at e1 <;> cases e1
/-- a def as it stands, with or without defaults -/
structure FunD (K : PySem.W.Frag) (x qual : Str) (st : Stmt) (f : Addr) (fd : FuncData) : Prop where
  ex : ∃ (oc : Value) (od : Option Addr) (dV kV doc pm : Value) (an : Option Addr) (cdv ct : Value) (osl : Array (Option Value)),
    fd = PySem.W.fnOf x qual (defArgs st) (defBody st) (defScope st) dV kV doc pm an cdv ct ∧ K.lookup f = some ⟨oc, od, .func fd, osl⟩ ∧ PySem.W.codeIn K cdv qual = true
  kp : PySem.W.keepIn K (.ref f) = true
theorem funD_mk {K : PySem.W.Frag} {x qual : Str} {st : Stmt} {f : Addr} {oc : Value} {od an : Option Addr} {osl : Array (Option Value)} {dV kV doc pm cdv ct : Value} (l : K.lookup f = some ⟨oc, od, .func (PySem.W.fnOf x qual (defArgs st) (defBody st) (defScope st) dV kV doc pm an cdv ct), osl⟩)
    (c : PySem.W.codeIn K cdv qual = true) (k : PySem.W.keepIn K (.ref f) = true) : FunD K x qual st f (PySem.W.fnOf x qual (defArgs st) (defBody st) (defScope st) dV kV doc pm an cdv ct) := ⟨⟨oc, od, dV, kV, doc, pm, an, cdv, ct, osl, rfl, l, c⟩, k⟩
section
variable {P : Program} {w : World} {K : PySem.W.Frag} {mg : Str → Option Value} {base : Heap} {k : Nat} {x qual : Str} {st : Stmt} {f : Addr} {fd : FuncData} {N ps : List Str} {b : S}
noncomputable def W0 : XW := fun _ _ _ _ _ => False
/-- what a body is proved in -/
noncomputable abbrev cx0 (P : Program) (w : World) (K : PySem.W.Frag) (mg : Str → Option Value) (base : Heap) (N : List Str) (qual : Str) (st : Stmt) (f : Addr) (cdv : Value) (A : Around) (outer : List PySem.Env) (s : Shared) (H : Hp) (E : XK) : Cx := (cxOf CX0 P w K mg base N qual (defScope st) f cdv A outer s H E).nox
theorem fn_run (F : FunD K x qual st f fd) (S : FnScope N ps (defScope st)) (hp : ps.length ≤ N.length)
    (hb : ∀ cdv A outer s H E, Room k (A.deeper (envOfC qual (defScope st) s.heap.objs.size f cdv)) → SB (cx0 P w K mg base N qual st f cdv A outer s H E) W0 (defBody st) b) : FnOk P w K mg base CX0 (k + 1) f fd ps (spG K mg ps.length (fnG N.length b)) := by
  obtain ⟨oc, od, dV, kV, doc, pm, an, cdv, ct, osl, rfl, lk, hcd⟩ := F.ex
  refine fn_of lk hcd S (fun vs H Q E h => h.1) fun A outer s H vs Q E hr h => ?_
  obtain ⟨hl, Pl, M, ds, d, M', hk, is, e, q⟩ := h
  refine ⟨_, PSs.nox (hb cdv A outer s H E hr), ?_⟩
  unfold fnG endS at e
  have st0 := start_ok (N := N) hk (by omega) is
  split at e
  · rename_i d' M2 eb
    cases e
    exact ⟨Pl, H, Pl, _, _, M, _, _, st0, eb, fun P' v H' l h i => q P' v H' l h i⟩
  · rename_i env M2 eb
    cases e
    exact ⟨Pl, H, Pl, _, _, M, _, _, st0, eb, fun P' Os' H' st' _ k' => q P' .non H' k'.base k'.hk rfl⟩
  · rename_i c n M2 eb
    cases e
  · cases e
noncomputable def AtG (P : Program) (w : World) (K : PySem.W.Frag) (mg : Str → Option Value) (base : Heap) (k : Nat) (f : Str) (n : Nat) (g : G) : Prop :=
  ∃ fa fd ps ds dvs sp, mg f = some (.ref fa) ∧ PySem.W.keepIn K (.ref fa) = true ∧ FnOk P w K mg base CX0 k fa fd ps sp ∧ Binds K fd ps ds ∧ Vals dvs ds ∧ ∀ vs H Q E, spG K mg n g vs H Q E → sp (vs ++ dvs) H Q E
theorem fn_at (F : FunD K x qual st f fd) (S : FnScope N ps (defScope st)) (hp : ps.length ≤ N.length) (hm : mg x = some (.ref f)) (hd : Binds K fd ps [])
    (hb : ∀ cdv A outer s H E, Room k (A.deeper (envOfC qual (defScope st) s.heap.objs.size f cdv)) → SB (cx0 P w K mg base N qual st f cdv A outer s H E) W0 (defBody st) b) : AtG P w K mg base (k + 1) x ps.length (fnG N.length b) :=
  ⟨f, fd, ps, [], [], _, hm, F.kp, fn_run F S hp hb, hd, .nil, fun vs H Q E h => by rw [List.append_nil]; exact h⟩
theorem AtG.mono {j : Nat} {n : Nat} {g : G} (a : AtG P w K mg base j x n g) (h : j ≤ k) : AtG P w K mg base k x n g := by
  obtain ⟨fa, fd, ps, ds, dvs, sp, h1, h2, h3, h4⟩ := a
  exact ⟨fa, fd, ps, ds, dvs, sp, h1, h2, h3.mono h, h4⟩
end
section
variable {X : Cx} {Wx : XW} {m : Mode}
noncomputable def sCall (g : G) (fs : EA) : E := fun env M => bndA (fs env M) fun ds M1 => match g ds M1 with
  | some (.v d, M2) => some (.v d, M2)
  | _ => none
theorem AllM.len {K : PySem.W.Frag} {P : Pl} {H : Hp} : ∀ {ds : List D} {vs : List V}, AllM K P H m ds vs → vs.length = ds.length
  | [], _, h => by rw [show _ = [] from h]; rfl
  | d :: ds, _, h => by
    obtain ⟨v, r, e, _, q⟩ := h
    subst e
    simp [AllM.len q]
/-- as many arguments as are written -/
noncomputable def Cnt (n : Nat) (fs : EA) : Prop := ∀ env M ds M', fs env M = some (.v ds, M') → ds.length = n
theorem cnt_nil : Cnt 0 sNil := fun env M ds M' e => by cases e; rfl
theorem cnt_cons {n : Nat} {f : E} {fs : EA} (h : Cnt n fs) : Cnt (n + 1) (sCons f fs) := fun env M ds M' e => by
  unfold sCons at e
  split at e
  · split at e
    · rename_i ef
      cases e
      rw [List.length_cons, h _ _ _ _ ef]
    · cases e
    · cases e
  · cases e
  · cases e
theorem se_call {k n : Nat} {f : Str} {g : G} {e : Expr} {es : List Expr} {fs : EA} {p pos : Pos} (a : AtG X.prog X.w X.K X.mg X.base k f n g) (hr : Room k X.A) (hg : Gl X f) (ha : SA X Wx .val (e :: es) fs) (hn : Cnt n fs) (hdb : (f == ("__debug__" : Str)) = false := by decide +kernel)
    (he : starEach (e :: es) X.env = (false, eval e X.env) :: starEach es X.env := by rfl) (hpl : (backTo pos (starEach es X.env)).any (·.1) = false := by rfl) : SE X Wx m (.Call (.Name f p) (e :: es) [] pos) (sCall g fs) := by
  obtain ⟨fa, fd, ps, ds, dvs, sp, hm, hk, F, hb, hv, himp⟩ := a
  refine pe_imp (pe_call F hr hg hm hk hb hv pass0 ha hdb he hpl) ?_
  rintro st H Q ⟨P0, H0, P, Os, env, M, r, M', k, e, q⟩
  unfold sCall at e
  rcases bndA_inv e with ⟨ds, M1, e1, e⟩ | ⟨c, n, e1, rfl⟩
  · split at e
    · rename_i d M2 eg
      cases e
      exact ⟨P0, H0, P, Os, env, M, _, _, k, e1, fun P1 vs H1 l1 h1 i1 => himp _ _ _ _ ⟨by rw [i1.len]; exact hn _ _ _ _ e1, P1, M1, ds, d, _, h1, i1.iss, eg, fun P2 v H2 l2 h2 i2 => q P2 v H2 (l1.trans l2) h2 (IsM.of h2 i2)⟩⟩
    · cases e
  · exact ⟨P0, H0, P, Os, env, M, _, _, k, e1, q⟩
end
end E3


/-! Operations over data (our own) -/
namespace E3
open PySem PySem.Spec PyProof.Rows L2
noncomputable def CMulB (i j : Int) : Prop := CMul i j ∨ (i.natAbs.log2 < 10000 ∧ j.natAbs.log2 < 10000)
theorem bits_log {i : Int} (h : i.natAbs.log2 < 10000) : Builtin.Int.intBits i ≤ 10001 := by
  unfold Builtin.Int.intBits
  split <;> omega
theorem CMulB.ok {i j : Int} (h : CMulB i j) : IntMulOk i j := by
  rcases h with h | ⟨h1, h2⟩
  · exact h.ok
  · exact mulOk_of_bits (bits_log h1) (bits_log h2) (by decide)
section
variable {X : Cx} {pins : List (Addr × Obj)} {σ : L2.St} {H : Hp} {s : Shared} {K : PySem.W.Frag}
/-- a list and a list -/
noncomputable def rCatR (K : PySem.W.Frag) : R2 := fun x y H Q => ∃ l b xs zs, x = .ref l ∧ y = .ref b ∧ SqL K H l xs ∧ SqL K H b zs ∧ xs.length + zs.length ≤ sizeLine ∧ ∀ p, H p = none → Q (.ref p) (upd H p (.lst (xs ++ zs)))
theorem op_catR : OpR X (binaryOp .Add) (rCatR X.K) := by
  intro pins s σ H x y v u Q I rx ry h
  obtain ⟨l, b, xs, zs, rfl, rfl, hH, hB, hz, q⟩ := h
  cases rx
  cases ry
  obtain ⟨z, its, r, ⟨cls, dd, data, sl⟩, ho, hc, n, hd⟩ := sql I hH
  obtain ⟨z2, its2, r2, ⟨cls2, dd2, data2, sl2⟩, ho2, hc2, n2, hd2⟩ := sql I hB
  simp only at hc hd hc2 hd2
  subst hc hd hc2 hd2
  have hl := r.length
  have hl2 := r2.length
  refine concat_meets ⟨_, ho, rfl⟩ ⟨_, ho2, rfl⟩ noFill_list_add seq_list_add F.slot_list_add F.entry_list_add (F.args_list_add_2 _ _) (list_addW l b its.toArray its2.toArray n n2 dd dd2 sl sl2 (by rw [List.size_toArray, List.size_toArray]; omega)) ⟨ho, ho2, ?_⟩
  have ea : its.toArray ++ its2.toArray = (its ++ its2).toArray := by simp
  rw [ea]
  exact ⟨.ref _, _, I.lnew (t' := s.toks) (r.append r2) (by rw [List.length_append]; omega), rfl, q _ I.fresh⟩
theorem new_lst {P : Pl} {H : Hp} {ds : List D} {vs : List V} {Q : VK} (hn : ∀ p, H p = none → ¬ P.bd p) (h : Iss K P H ds vs) (q : ∀ u H', Same H H' → Is K P H' (.lst ds) u → Q u H') : ∀ p, H p = none → Q (.ref p) (upd H p (.lst vs)) := fun p hp => by
  have s := same_new (o := .lst vs) hp
  exact q _ _ s ⟨p, vs, rfl, .inl ⟨hn p hp, .inl upd_same⟩, Iss.lt ⟨Nat.le_refl _, fun _ _ => rfl, fun _ z => .inl z, fun a o e _ => s a o e, fun a z => s.free z⟩ h⟩
/-! ### +, -, and so on -/
noncomputable def oAdd : D → D → Option D
  | .int i, .int j => some (.int (i + j))
  | .str i, .str j => if i.length + j.length ≤ sizeLine then some (.str (i ++ j)) else none
  | .lst xs, .lst ys => if xs.length + ys.length ≤ sizeLine then some (.lst (xs ++ ys)) else none
  | _, _ => none
noncomputable def rAdd (K : PySem.W.Frag) : R2 := fun x y H Q => rI0 (fun i j => .int (i + j)) x y H Q ∨ (∃ i j, x = .str i ∧ y = .str j ∧ i.length + j.length ≤ sizeLine ∧ Q (.str (i ++ j)) H) ∨ rCatR K x y H Q
theorem op_addA : OpR X (binaryOp .Add) (rAdd X.K) := op_add.or (op_add_str.or op_catR)
theorem pu_add : Pure2 K (rAdd K) oAdd := fun P H d e z v w Q h h1 h2 hn q => by
  unfold oAdd at h
  split at h
  · cases h; cases h1; cases h2; exact .inl ⟨_, _, rfl, rfl, q _ H (Same.refl H) rfl⟩
  · split at h
    · rename_i hl; cases h; cases h1; cases h2; exact .inr (.inl ⟨_, _, rfl, rfl, hl, q _ H (Same.refl H) rfl⟩)
    · cases h
  · split at h
    · rename_i hl
      cases h
      obtain ⟨a, vs, rfl, r1, s1⟩ := h1
      obtain ⟨b, ws, rfl, r2, s2⟩ := h2
      exact .inr (.inr ⟨a, b, vs, ws, rfl, rfl, r1, r2, by rw [s1.len, s2.len]; exact hl, new_lst hn (s1.append s2) q⟩)
    · cases h
  · cases h
noncomputable def oI (g : Int → Int → Option D) : D → D → Option D
  | .int i, .int j => g i j
  | _, _ => none
theorem oI_inv {g : Int → Int → Option D} {P : Pl} {H : Hp} {d e z : D} {v w : V} (h : oI g d e = some z) (h1 : IsW K P H d v) (h2 : IsW K P H e w) : ∃ i j, v = .int i ∧ w = .int j ∧ g i j = some z := by
  unfold oI at h
  split at h
  · cases h1; cases h2; exact ⟨_, _, rfl, rfl, h⟩
  · cases h
noncomputable def oSub := oI fun i j => some (.int (i - j))
theorem pu_sub : Pure2 K (rI0 fun i j => .int (i - j)) oSub := fun P H d e z v w Q h h1 h2 _ q => by
  obtain ⟨i, j, rfl, rfl, h⟩ := oI_inv h h1 h2
  cases h
  exact ⟨i, j, rfl, rfl, q _ H (Same.refl H) rfl⟩
noncomputable def oFdiv := oI fun i j => if 0 < j ∧ j.natAbs < 1073741824 then some (.int (i / j)) else none
theorem pu_fdiv : Pure2 K (rI CDiv fun i j => .int (i / j)) oFdiv := fun P H d e z v w Q h h1 h2 _ q => by
  obtain ⟨i, j, rfl, rfl, h⟩ := oI_inv h h1 h2
  split at h
  · rename_i hg
    cases h
    exact ⟨i, j, rfl, rfl, ⟨hg.1, by omega⟩, q _ H (Same.refl H) rfl⟩
  · cases h
noncomputable def oMod := oI fun i j => if 0 < j then some (.int (i % j)) else none
theorem pu_mod : Pure2 K (rI (fun _ j => 0 < j) fun i j => .int (i % j)) oMod := fun P H d e z v w Q h h1 h2 _ q => by
  obtain ⟨i, j, rfl, rfl, h⟩ := oI_inv h h1 h2
  split at h
  · rename_i hg
    cases h
    exact ⟨i, j, rfl, rfl, hg, q _ H (Same.refl H) rfl⟩
  · cases h
noncomputable def oPow := oI fun i j => if 0 ≤ j ∧ j.natAbs ≤ 1000000 ∧ i.natAbs < 18446744073709551616 then some (.int (i ^ j.toNat)) else none
theorem pu_pow : Pure2 K (rI CPow fun i j => .int (i ^ j.toNat)) oPow := fun P H d e z v w Q h h1 h2 _ q => by
  obtain ⟨i, j, rfl, rfl, h⟩ := oI_inv h h1 h2
  split at h
  · rename_i hg
    cases h
    exact ⟨i, j, rfl, rfl, by unfold CPow; rw [show (2 : Nat) ^ 64 = 18446744073709551616 from rfl]; exact ⟨hg.1, by omega, hg.2.2⟩, q _ H (Same.refl H) rfl⟩
  · cases h
/-! ### comparisons -/
noncomputable def oCmp (c : Cp) (a b : D) : Option D := (cmpD c a b).map .bl
theorem pu_cmp {c : Cp} : Pure2 K (rCp K c) (oCmp c) := fun P H d e z v w Q h h1 h2 _ q => by
  unfold oCmp at h
  rw [Option.map_eq_some_iff] at h
  obtain ⟨b, h, rfl⟩ := h
  exact cmp_ok h h1 h2 (q _ H (Same.refl H) rfl)
/-! ### items -/
noncomputable def oIx : D → D → Option D
  | .lst ds, .int i => atI ds i
  | .tup ds, .int i => atI ds i
  | .str z, .int i => if z.length ≤ sizeLine then (atI z.cps.toList i).map fun c => .str ⟨#[c]⟩ else none
  | _, _ => none
noncomputable def rIx (K : PySem.W.Frag) : R2 := fun x y H Q => rIxL K x y H Q ∨ rIxT K x y H Q ∨ rIxS x y H Q
theorem ix_all : IxR X (rIx X.K) := ix_list.or (ix_tup.or ix_str)
theorem atI_map {P : Pl} {H : Hp} {ds : List D} {vs : List V} {d : D} {i : Int} (h : atI ds i = some d) (q : Iss K P H ds vs) : ∃ u, atI vs i = some u ∧ Is K P H d u := by
  unfold atI at h ⊢
  rw [q.len]
  cases e : ixN ds.length i with
  | none => rw [e] at h; cases h
  | some j => rw [e] at h; exact q.get h
theorem pu_ix : Pure2 K (rIx K) oIx := fun P H d e z v w Q h h1 h2 _ q => by
  unfold oIx at h
  split at h
  · obtain ⟨a, vs, rfl, r, s⟩ := h1
    cases h2
    obtain ⟨u, e, p⟩ := atI_map h s
    exact .inl ⟨a, vs, _, u, rfl, rfl, r, e, q _ H (Same.refl H) p⟩
  · obtain ⟨a, vs, rfl, r, s⟩ := h1
    cases h2
    obtain ⟨u, e, p⟩ := atI_map h s
    exact .inr (.inl ⟨a, vs, _, u, rfl, rfl, r, e, q _ H (Same.refl H) p⟩)
  · split at h
    · rename_i hl
      rw [Option.map_eq_some_iff] at h
      obtain ⟨c, h, e⟩ := h
      cases e
      cases h1
      cases h2
      exact .inr (.inr ⟨_, _, c, rfl, rfl, hl, h, q _ H (Same.refl H) rfl⟩)
    · cases h
  · cases h
/-! ### built-in functions -/
noncomputable def bLen : List D → Option D
  | [.lst ds] => some (.int ds.length)
  | [.tup ds] => some (.int ds.length)
  | [.str z] => if z.length ≤ sizeLine then some (.int z.length) else none
  | _ => none
noncomputable def rLen (K : PySem.W.Frag) : List V → Hp → VK → Prop := fun xs H Q => (∃ p ys, xs = [.ref p] ∧ (SqL K H p ys ∨ SqT K H p ys) ∧ Q (.int ys.length) H) ∨ ∃ z, xs = [.str z] ∧ z.length ≤ sizeLine ∧ Q (.int z.length) H
theorem call_lenA : CallR X (.builtin "len") (rLen X.K) := call_len_seq.or call_len_str
theorem pu_len : PureN K (rLen K) bLen := fun P H ds z vs Q h i _ q => by
  unfold bLen at h
  split at h
  · obtain ⟨v, ws, rfl, p, rfl⟩ := i
    cases h
    obtain ⟨a, us, rfl, r, s⟩ := p
    exact .inl ⟨a, us, rfl, .inl r, q _ H (Same.refl H) (by rw [s.len]; rfl)⟩
  · obtain ⟨v, ws, rfl, p, rfl⟩ := i
    cases h
    obtain ⟨a, us, rfl, r, s⟩ := p
    exact .inl ⟨a, us, rfl, .inr r, q _ H (Same.refl H) (by rw [s.len]; rfl)⟩
  · split at h
    · rename_i hl
      obtain ⟨v, ws, rfl, p, rfl⟩ := i
      cases h
      cases p
      exact .inr ⟨_, rfl, hl, q _ H (Same.refl H) rfl⟩
    · cases h
  · cases h
noncomputable def bMin : List D → Option D
  | [.int i, .int j] => some (.int (if j < i then j else i))
  | _ => none
noncomputable def bMax : List D → Option D
  | [.int i, .int j] => some (.int (if j > i then j else i))
  | _ => none
theorem pu_min : PureN K (fun xs H Q => ∃ i j, xs = [.int i, .int j] ∧ Q (.int (if j < i then j else i)) H) bMin := fun P H ds z vs Q h i _ q => by
  unfold bMin at h
  split at h
  · obtain ⟨v, ws, rfl, p, v', ws', rfl, p', rfl⟩ := i
    cases h; cases p; cases p'
    exact ⟨_, _, rfl, q _ H (Same.refl H) rfl⟩
  · cases h
end
end E3


/-! isinstance, slices, range, cells (our own) -/
namespace E3
open PySem PySem.Spec PyProof.Rows L2
section
variable {X : Cx} {Wx : XW} {m : Mode}
noncomputable def tyD : D → String
  | .non => "NoneType"
  | .bl _ => "bool"
  | .int _ => "int"
  | .str _ => "str"
  | .tup _ => "tuple"
  | .lst _ => "list"
  | .ref _ => ""
theorem call_isiD : CallR X (.builtin "isinstance") (fun xs H Q => ∃ (x : V) (T : String) (d : D) (P : Pl) (b : Bool), xs = [x, .ty T] ∧ IsW X.K P H d x ∧ tyD d ≠ "" ∧ PySem.W.kitOne X.K (.type (tyD d)) (.type T) = some b ∧ Q (.bl b) H) := by
  intro pins s σ H xs us Q I r h
  obtain ⟨x, T, d, A, b, rfl, i, ne, e, q⟩ := h
  obtain ⟨u, w', rfl, rx, rT⟩ := vals2 r
  cases rT
  have fin : ∀ tk, EP X pins σ Q (.bool b) { s with toks := tk } := fun tk => ⟨.bl b, H, I.tok _, rfl, q⟩
  cases d with
  | non => have hv : x = .non := i; subst hv; exact isinst_ok I rx (TyOf.non) e fin
  | bl y => have hv : x = .bl y := i; subst hv; exact isinst_ok I rx (TyOf.bl y) e fin
  | int y => have hv : x = .int y := i; subst hv; exact isinst_ok I rx (TyOf.int y) e fin
  | str y => have hv : x = .str y := i; subst hv; exact isinst_ok I rx (TyOf.str y) e fin
  | ref n => exact absurd rfl ne
  | tup ds =>
    obtain ⟨a, vs, rfl, t, _⟩ := i
    cases rx
    obtain ⟨its, _, p, _⟩ := I.tuple t
    obtain ⟨o, h1, h2, _⟩ := p
    exact PySem.W.kia_one PySem.W.kitx_tuple I.kIn ⟨o, h1, h2⟩ e (fun z => nomatch z) fin
  | lst ds =>
    obtain ⟨a, vs, rfl, t, _⟩ := i
    cases rx
    obtain ⟨_, its, _, o, h1, h2, _⟩ := sql I t
    exact PySem.W.kia_one PySem.W.kitx_list I.kIn ⟨o, h1, h2⟩ e (fun z => nomatch z) fin
/-- which kinds are which: by the table of the program's classes -/
noncomputable def isiO (tb : String → String → Option Bool) (T : String) (d : D) : Option D := if tyD d = "" then none else (tb (tyD d) T).map .bl
theorem se_isi {e : Expr} {f : E} {T : String} {tb : String → String → Option Bool} {p p' pos : Pos} (ht : ∀ t b, tb t T = some b → PySem.W.kitOne X.K (.type t) (.type T) = some b) (he : SE X Wx .bor e f) (hg : Gl X "isinstance") (hm : X.mg "isinstance" = none) (hg' : Gl X (Str.ofString T)) (hm' : X.mg (Str.ofString T) = none) (hT : bootBuiltins (Str.ofString T) = some (.type T))
    (n1 : Str.ofString T ≠ "__name__" := by decide +kernel) (n2 : (Str.ofString T == ("__debug__" : Str)) = false := by decide +kernel) (hs : starEach [e, .Name (Str.ofString T) p'] X.env = (false, eval e X.env) :: starEach [.Name (Str.ofString T) p'] X.env := by rfl) :
    SE X Wx m (.Call (.Name "isinstance" p) [e, .Name (Str.ofString T) p'] [] pos) (s1 (isiO tb T) f) := by
  have pT : PE X (.Name (Str.ofString T) p') (tC (.ty T)) := pe_bltn hg' hm' hT rfl n1 n2
  refine pe_imp (pe_callB call_isiD hg hm boot_isinstance (pa_cons he (pa_cons pT pa_nil) hs) (by decide +kernel) (by decide +kernel) hs rfl) ?_
  rintro st H Q ⟨P0, H0, P, Os, env, M, r, M', k, e, q⟩
  unfold s1 at e
  rcases bnd_inv e with ⟨d, M1, e1, e⟩ | ⟨c, n, e1, rfl⟩
  · rw [Option.map_eq_some_iff] at e
    obtain ⟨z, ez, e⟩ := e
    cases e
    unfold isiO at ez
    split at ez
    · cases ez
    · rename_i hne
      rw [Option.map_eq_some_iff] at ez
      obtain ⟨b, eb, rfl⟩ := ez
      exact tE_go k e1 fun P1 v1 H1 l1 h1 i1 => ⟨v1, T, _, P1, b, rfl, IsB.vw h1 i1, hne, ht _ _ eb, q P1 _ H1 l1 h1 (IsM.of h1 (show Is _ _ _ (.bl b) _ from rfl))⟩
  · exact tE_go k e1 q
/-! ### range -/
theorem wk_range {K : PySem.W.Frag} {P : Pl} {H : Hp} {lo : Int} {n : Nat} : Wk K P H (Itr lo n) ((List.range n).map fun (k : Nat) => .int (lo + k)) := fun P' H' l => by
  rw [List.length_map, List.length_range]
  refine ⟨fun k hk => hk, fun k h1 _ => h1, fun k x H2 y hk => ⟨y.1, .int (lo + k), ?_, y.2⟩⟩
  rw [List.getElem?_map, List.getElem?_range hk]
  rfl
noncomputable def iRng1 (fs : EA) : EA := fun env M => match fs env M with
  | some (.v [.int j], M1) => if -1000000000 ≤ j ∧ j ≤ 1000000000 then some (.v ((List.range j.toNat).map fun (k : Nat) => .int (0 + k)), M1) else none
  | some (.x c n, M1) => some (.x c n, M1)
  | _ => none
theorem si_rng1 {tg a : Expr} {fs : EA} {p pos : Pos} (hg : Gl X "range") (hm : X.mg "range" = none) (ha : SA X Wx .val [a] fs) (hs : starEach [a] X.env = [(false, eval a X.env)] := by rfl) : SI X Wx tg (.Call (.Name "range" p) [a] [] pos) (iRng1 fs) := by
  refine pi_imp (pi_range1 hg hm ha hs) ?_
  rintro st H R ⟨P0, H0, P, Os, env, M, r, M', k, e, q⟩
  unfold iRng1 at e
  split at e
  · rename_i j M1 ef
    split at e
    · rename_i hj
      cases e
      refine ⟨P0, H0, P, Os, env, M, _, _, k, ef, fun P1 vs H1 l1 h1 i1 => ?_⟩
      obtain ⟨v, ws, rfl, p, rfl⟩ := i1
      exact ⟨j, by rw [show v = .int j from p], by omega, by omega, q P1 H1 _ l1 h1 wk_range⟩
    · cases e
  · rename_i c n M1 ef
    cases e
    exact ⟨P0, H0, P, Os, env, M, _, _, k, ef, q⟩
  · cases e
/-! ### slices -/
/-- a bound of a slice -/
noncomputable def pNo : Env → Mm → Option (Option Int × Mm) := fun _ M => some (none, M)
noncomputable def pAt (f : E) : Env → Mm → Option (Option Int × Mm) := fun env M => match f env M with
  | some (.v (.int i), M1) => some (some i, M1)
  | _ => none
noncomputable def tP (K : PySem.W.Frag) (mg : Str → Option Value) (f : Env → Mm → Option (Option Int × Mm)) : TO := fun st H Q => ∃ P0 H0 P Os env M i M', Ok K mg P0 H0 P Os H M st env ∧ f env M = some (i, M') ∧ ∀ P' H', LtE P H P' H' → Hk K mg P' H' M' → Q i H'
noncomputable def SP3 (X : Cx) (e : Option Expr) (f : Env → Mm → Option (Option Int × Mm)) : Prop := PO X e (tP X.K X.mg f)
theorem po_imp {e : Option Expr} {t t' : TO} (h : PO X e t) (w : ∀ σ H Q, t' σ H Q → t σ H Q) : PO X e t' := fun pins s σ H Q I hw => h pins s σ H Q I (w σ H Q hw)
theorem sp_no : SP3 X none pNo := by
  refine po_imp po_none ?_
  rintro st H Q ⟨P0, H0, P, Os, env, M, i, M', k, e, q⟩
  cases e
  exact q P H (LtE.refl P H) k.hk
theorem sp_at {e : Expr} {f : E} (h : SE X Wx .val e f) : SP3 X (some e) (pAt f) := by
  refine po_imp (po_some h) ?_
  rintro st H Q ⟨P0, H0, P, Os, env, M, i, M', k, e, q⟩
  unfold pAt at e
  split at e
  · rename_i j M1 ef
    cases e
    exact ⟨P0, H0, P, Os, env, M, _, _, k, ef, fun P1 v H1 l1 h1 i1 => ⟨j, i1, q P1 H1 l1 h1⟩⟩
  · cases e
noncomputable def cutL {α : Type} (xs : List α) (lo hi : Option Int) : List α := (xs.drop (HT.sIx xs.length 0 lo)).take (HT.sIx xs.length xs.length hi - HT.sIx xs.length 0 lo)
theorem cut_iss {K : PySem.W.Frag} {P : Pl} {H : Hp} {ds : List D} {vs : List V} {lo hi : Option Int} (q : Iss K P H ds vs) : Iss K P H (cutL ds lo hi) (cutV vs lo hi) := by
  unfold cutL cutV
  rw [q.len]
  exact (q.drop _).take _
noncomputable def slD (d : D) (lo hi : Option Int) : Option D := match d with
  | .lst ds => some (.lst (cutL ds lo hi))
  | .str z => if z.length ≤ sizeLine then some (.str (Txt.slice z lo hi)) else none
  | _ => none
noncomputable def sSl (f : E) (l h : Env → Mm → Option (Option Int × Mm)) : E := fun env M => bnd (f env M) fun d M1 => match l env M1 with
  | some (lo, M2) => (match h env M2 with
    | some (hi, M3) => (slD (vw M3 d) lo hi).map fun z => (.v z, M3)
    | none => none)
  | none => none
theorem se_sl {e : Expr} {lo hi : Option Expr} {p2 pos : Pos} {f : E} {l h : Env → Mm → Option (Option Int × Mm)} (he : SE X Wx .bor e f) (hl : SP3 X lo l) (hh : SP3 X hi h) : SE X Wx m (.Subscript e (.Slice lo hi none p2) pos) (sSl f l h) := by
  refine pe_imp (pe_slice (sl_list.or sl_str) he hl hh) ?_
  rintro st H Q ⟨P0, H0, P, Os, env, M, r, M', k, e, q⟩
  unfold sSl at e
  rcases bnd_inv e with ⟨d, M1, e1, e⟩ | ⟨c, n, e1, rfl⟩
  · split at e
    · rename_i lo' M2 el
      split at e
      · rename_i hi' M3 eh
        rw [Option.map_eq_some_iff] at e
        obtain ⟨z, ez, e⟩ := e
        cases e
        refine tE_go k e1 fun P1 v1 H1 l1 h1 i1 => ⟨P0, H0, P1, Os, env, M1, _, _, k.next l1 h1, el, fun P2 H2 l2 h2 => ⟨P0, H0, P2, Os, env, M2, _, _, (k.next l1 h1).next l2 h2, eh, fun P3 H3 l3 h3 => ?_⟩⟩
        have i3 := IsB.vw h3 (IsB.lt l3 h2 (IsB.lt l2 h1 i1))
        have fin : ∀ u H', Same H3 H' → Is X.K P3 H' z u → Q u H' := fun u H' s i => q P3 u H' (l1.trans (l2.trans (l3.trans (LtE.same s)))) (h3.same s) (IsM.of (h3.same s) i)
        generalize vw M' d = d' at i3 ez
        unfold slD at ez
        split at ez
        · cases ez
          obtain ⟨a, vs, rfl, r, s⟩ := i3
          exact .inl ⟨a, vs, rfl, r, new_lst h3.new (cut_iss s) fin⟩
        · split at ez
          · rename_i hz
            cases ez
            cases i3
            exact .inr ⟨_, rfl, hz, fin _ _ (Same.refl _) rfl⟩
          · cases ez
        · cases ez
      · cases e
    · cases e
  · exact tE_go k e1 q
/-! ### cells -/
/-- a new list as a new cell -/
noncomputable def sCell (f : E) : E := fun env M => bnd (f env M) fun d M1 => match d with
  | .lst ds => some (.v (.ref M1.length), M1 ++ [.lst ds])
  | _ => none
theorem se_cell {e : Expr} {f : E} (h : SN X Wx e f) : SE X Wx m e (sCell f) := by
  refine pe_imp h ?_
  rintro st H Q ⟨P0, H0, P, Os, env, M, r, M', k, e, q⟩
  unfold sCell at e
  rcases bnd_inv e with ⟨d, M1, e1, e⟩ | ⟨c, n, e1, rfl⟩
  · cases d <;> simp only [reduceCtorEq] at e
    rename_i ds
    cases e
    refine ⟨P0, H0, P, Os, env, M, _, _, k, e1, ds, rfl, fun P1 a vs H1 l1 h1 ha ba nc ea is => ?_⟩
    have hn : P1.n = M1.length := h1.n
    let P2 : Pl := { io := fun j => if j = P1.n then a else P1.io j, n := P1.n + 1, bd := P1.bd }
    have io : ∀ j, j < P1.n → P2.io j = P1.io j := fun j hj => if_neg (by omega)
    have ioN : P2.io P1.n = a := if_pos rfl
    have l2 : Lt P1 H1 P2 H1 := ⟨Nat.le_succ _, io, fun _ z => .inl z, fun _ _ e _ => e, fun _ z => z⟩
    have le : LtE P H P2 H1 := ⟨Nat.le_succ_of_le l1.n, fun j hj => (io j (Nat.lt_of_lt_of_le hj l1.n)).trans (l1.io j hj), l1.bd, l1.bm, l1.keep, l1.sure, fun j h2 h3 => by
      rcases Nat.lt_or_ge j P1.n with z | z
      · rw [io j z]; exact l1.nw j h2 z
      · have : j = P1.n := Nat.le_antisymm (Nat.le_of_lt_succ h3) z
        rw [this, ioN]
        exact ha⟩
    have hk2 : Hk X.K X.mg P2 H1 (M1 ++ [.lst ds]) := by
      refine ⟨by rw [List.length_append, ← hn]; rfl, fun j c ej => ?_, fun i j hi hj e => ?_, fun j hj => ?_, h1.here⟩
      · rcases Nat.lt_or_ge j P1.n with z | z
        · rw [List.getElem?_append_left (by rw [← hn]; exact z)] at ej
          rw [io j z]
          exact (h1.cell j c ej).lt l2 fun _ z => z
        · have jl := (List.getElem?_eq_some_iff.mp ej).1
          rw [List.length_append, List.length_singleton, ← hn] at jl
          have : j = P1.n := by omega
          subst this
          rw [List.getElem?_append_right (by rw [hn]; exact Nat.le_refl _), hn, Nat.sub_self] at ej
          cases ej
          rw [ioN]
          exact ⟨vs, ea, Iss.lt l2 is⟩
      · rcases Nat.lt_or_ge i P1.n with z | z
        · rcases Nat.lt_or_ge j P1.n with y | y
          · rw [io i z, io j y] at e
            exact h1.inj i j z y e
          · have : j = P1.n := Nat.le_antisymm (Nat.le_of_lt_succ hj) y
            rw [io i z, this, ioN] at e
            exact absurd e (nc i z)
        · have iN : i = P1.n := Nat.le_antisymm (Nat.le_of_lt_succ hi) z
          rcases Nat.lt_or_ge j P1.n with y | y
          · rw [iN, ioN, io j y] at e
            exact absurd e.symm (nc j y)
          · rw [iN]
            exact Nat.le_antisymm y (Nat.le_of_lt_succ hj)
      · rcases Nat.lt_or_ge j P1.n with z | z
        · rw [io j z]; exact h1.bd j z
        · have : j = P1.n := Nat.le_antisymm (Nat.le_of_lt_succ hj) z
          rw [this, ioN]
          exact ba
    exact q P2 _ H1 le hk2 (IsM.of hk2 (show Is _ _ _ (.ref _) _ from ⟨by show _ < P1.n + 1; rw [hn]; exact Nat.lt_succ_self _, by rw [← hn, ioN]⟩))
  · exact ⟨P0, H0, P, Os, env, M, _, _, k, e1, q⟩
/-- e.append(e'), e a cell -/
noncomputable def sAppC (f g : E) : S := fun env M => bndS (f env M) fun d M1 => match d with
  | .ref j => (match M1[j]? with
    | some (.lst _) => bndS (g env M1) fun y M2 => (match M2[j]? with
      | some (.lst ds) => if ds.length < sizeLine then some (.nx env, M2.set j (.lst (ds ++ [y]))) else none
      | _ => none)
    | _ => none)
  | _ => none
theorem ss_appC {o e : Expr} {f g : E} {p q pos : Pos} (ho : SE X Wx .val o f) (he : SE X Wx .val e g) (hbase : attributeBase o "append" X.env (eval o X.env) = eval o X.env := by rfl)
    (hfew : ((backTo q (starEach [e] X.env)).all (fun x => !x.1) && (backToKw q (keywordEach [] X.env)).all (fun x => x.1.isSome) && decide ([e].length + ([] : List Keyword).length + (if ([] : List Keyword).isEmpty then 0 else 1) < 30)) = true := by rfl)
    (hline : (p.endLine == q.line) = true := by rfl) (hs : starEach [e] X.env = (false, eval e X.env) :: starEach [] X.env := by rfl) (hw : swapsWith (.Call (.Attribute o "append" p) [e] [] q) none pos.line X.env = pure false := by rfl) :
    SS X Wx (.Expr (.Call (.Attribute o "append" p) [e] [] q) pos) (sAppC f g) := by
  refine ps_imp (ps_expr (pe_bm PySem.F.plainAttrs_list PySem.F.slot_list_append PySem.F.type_list_append mt_append ho (pa_cons he pa_nil hs) hbase hfew hline hs rfl) hw) ?_
  rintro D st H ⟨P0, H0, P, Os, env, M, out, M', k, e, q⟩
  unfold sAppC at e
  rcases bndS_inv e with ⟨d, M1, e1, e⟩ | ⟨c, n, e1, rfl⟩
  · cases d <;> simp only [reduceCtorEq] at e
    rename_i j
    split at e
    rotate_left
    · cases e
    rename_i ds0 em0
    refine ⟨P0, H0, P, Os, env, M, _, _, k, e1, fun P1 v1 H1 l1 h1 i1 => ?_⟩
    have k1 := k.next l1 h1
    obtain ⟨jl, rfl⟩ : j < P1.n ∧ v1 = .ref (P1.io j) := i1
    obtain ⟨vs0, ev0, _⟩ := h1.cell j _ em0
    refine ⟨.inl ⟨rfl, vs0, .inl (.inl ev0)⟩, ?_⟩
    rcases bndS_inv e with ⟨y, M2, e2, e⟩ | ⟨c, n, e2, rfl⟩
    · split at e
      · rename_i ds em
        split at e
        · rename_i hz
          cases e
          refine tE_go k1 e2 fun P2 v2 H2 l2 h2 i2 => ?_
          obtain ⟨vs, ev, is⟩ := h2.cell j _ em
          rw [l2.io j jl] at ev
          have i3 := Is.lt (Lt.refl P2 H2) i2
          refine ⟨P1.io j, vs, v2, rfl, rfl, ev, by rw [is.len]; exact hz, ?_⟩
          have eio : P2.io j = P1.io j := l2.io j jl
          have jl2 : j < P2.n := Nat.lt_of_lt_of_le jl l2.n
          obtain ⟨o0, eo0, nf0⟩ := h2.cellAt jl2
          have lc : Lt P2 H2 P2 (upd H2 (P2.io j) (.lst (vs ++ [v2]))) := lt_chg (h2.bd j jl2) eo0 nf0
          obtain ⟨l3, l3e, h3⟩ := h2.set (c' := .lst (ds ++ [y])) (o' := .lst (vs ++ [v2])) em ⟨vs ++ [v2], upd_same, Iss.append (Iss.lt lc is) (Iss.one (Is.lt lc i2))⟩
          rw [eio] at l3 l3e h3
          exact q _ _ _ _ ((l1.lt k.hk).trans ((l2.lt h1).trans l3)) ((k1.next l2 h2).next l3e h3)
        · cases e
      · cases e
    · exact tE_go k1 e2 q
  · exact ⟨P0, H0, P, Os, env, M, _, _, k, e1, q⟩
end
end E3


/-! Chains, signs, small statements, loops over a cell, list( ) (our own) -/
namespace E3
open PySem PySem.Spec PyProof.Rows L2
section
variable {X : Cx} {Wx : XW} {m : Mode} {pos : Pos}
noncomputable def oNeg : D → Option D
  | .int i => some (.int (-i))
  | _ => none
theorem pu_neg {K : PySem.W.Frag} : Pure1 K (rU fun i => .int (-i)) oNeg := fun P H d z v Q h i _ q => by
  unfold oNeg at h
  split at h
  · cases h; cases i; exact ⟨_, rfl, q _ H (Same.refl H) rfl⟩
  · cases h
theorem se_un {a : Expr} {op : UnaryOp} {f : E} {o : D → Option D} {r : V → Hp → VK → Prop} (ho : UnR X (unaryOp op) r) (po : Pure1 X.K r o) (ha : SE X Wx .bor a f) : SE X Wx m (.UnaryOp op a pos) (s1 o f) :=
  pe_imp (pe_un ho ha) fun _ _ _ h => t1_ok po h
/-! ### a op b op' c -/
/-! ### small statements -/
noncomputable def sRetN : S := fun _ M => some (.rt .non, M)
/-! ### list(e) -/
noncomputable def sListN (f : E) : E := fun env M => bnd (f env M) fun d M1 => match vw M1 d with
  | .lst ds => some (.v (.lst ds), M1)
  | .tup ds => some (.v (.lst ds), M1)
  | _ => none
theorem sn_list {e : Expr} {f : E} {p : Pos} (hg : Gl X "list") (hm : X.mg "list" = none) (he : SE X Wx .bor e f) (hs : starEach [e] X.env = (false, eval e X.env) :: starEach [] X.env := by rfl) : SN X Wx (.Call (.Name "list" p) [e] [] pos) (sListN f) := by
  refine pe_imp (pe_callTy call_list_of hg hm boot_list (pa_cons he pa_nil hs) (by decide +kernel) (by decide +kernel) hs rfl) ?_
  rintro st H Q ⟨P0, H0, P, Os, env, M, r, M', k, e, q⟩
  unfold sListN at e
  rcases bnd_inv e with ⟨d, M1, e1, e⟩ | ⟨c, n, e1, rfl⟩
  · refine tE_go k e1 ?_
    have key : ∀ ds, r = .v (.lst ds) → M' = M1 → (∀ P1 v1 H1, IsW X.K P1 H1 (vw M1 d) v1 → ∃ a vs, v1 = .ref a ∧ (SqL X.K H1 a vs ∨ SqT X.K H1 a vs) ∧ Iss X.K P1 H1 ds vs) → ∀ P1 v1 H1, LtE P H P1 H1 → Hk X.K X.mg P1 H1 M1 → IsM X.K P1 H1 .bor d v1 →
        ∃ p ys, [v1] = [V.ref p] ∧ (SqL X.K H1 p ys ∨ SqT X.K H1 p ys) ∧ ∀ l, H1 l = none → Q (.ref l) (upd H1 l (.lst ys)) := by
      rintro ds rfl rfl hv P1 v1 H1 l1 h1 i1
      obtain ⟨ds', e', q⟩ := q
      cases e'
      obtain ⟨a, vs, rfl, sq, is⟩ := hv P1 v1 H1 (IsB.vw h1 i1)
      refine ⟨a, vs, rfl, sq, fun p hp => ?_⟩
      obtain ⟨l2, h2, nc⟩ := bar_new (vs := vs) h1 hp
      exact q (P1.bar p) p vs _ (l1.trans l2) h2 (l1.sure p hp) (.inr rfl) nc upd_same (Iss.lt (l2.lt h1) is)
    split at e
    · rename_i ds ev
      cases e
      exact key ds rfl rfl fun P1 v1 H1 i => by
        rw [ev] at i
        obtain ⟨a, vs, e, s, is⟩ := i
        exact ⟨a, vs, e, .inl s, is⟩
    · rename_i ds ev
      cases e
      exact key ds rfl rfl fun P1 v1 H1 i => by
        rw [ev] at i
        obtain ⟨a, vs, e, s, is⟩ := i
        exact ⟨a, vs, e, .inr s, is⟩
    · cases e
  · exact tE_go k e1 q
theorem list_is {f : E} : ∀ env M r M', sListN f env M = some (.v r, M') → ∃ ds, r = .lst ds := fun env M r M' e => by
  unfold sListN at e
  rcases bnd_inv e with ⟨ds, M1, e1, e⟩ | ⟨c, n, e1, e⟩
  · split at e
    · cases e; exact ⟨_, rfl⟩
    · cases e; exact ⟨_, rfl⟩
    · cases e
  · cases e
/-! ### for x in a cell: the list as it stands at each turn -/
noncomputable def loopC (i j : Nat) (body : S) : Nat → Nat → Env → Mm → OS
  | 0, _, _, _ => none
  | n + 1, t, env, M => match M[j]? with
    | some (.lst ds) => (match ds[t]? with
      | none => some (.nx env, M)
      | some d => if i < env.length then (match body (env.set i (.val d)) M with
        | some (.nx e, M1) => loopC i j body n (t + 1) e M1
        | some (.ct e, M1) => loopC i j body n (t + 1) e M1
        | some (.bk e, M1) => some (.nx e, M1)
        | some (.rt d, M1) => some (.rt d, M1)
        | some (.ex c k, M1) => some (.ex c k, M1)
        | none => none) else none)
    | _ => none
noncomputable def sForC (n i : Nat) (f : E) (body : S) : S := fun env M => bndS (f env M) fun d M1 => match d with
  | .ref j => loopC i j body n 0 env M1
  | _ => none
theorem loopC_read {K : PySem.W.Frag} {mg : Str → Option Value} {P0 P1 : Pl} {H0 H1 : Hp} {Os : List (Option Addr)} {M M' : Mm} {st : L2.St} {env : Env} {i j n : Nat} {b : S} {out : Out} {D : Ends} (k : Ok K mg P0 H0 P1 Os H1 M st env) (hj : j < P1.n)
    (h : loopC i j b n 0 env M = some (out, M')) (q : Post K mg Wx P0 H0 P1 H1 M' D out) :
    ∃ W : Nat → Nat → L2.St → Hp → Prop, (∃ m, W 0 m st H1) ∧ ∀ t m σ H, W t m σ H →
      ((Itl K (P1.io j)).stop t H ∧ D.nx σ H) ∨ ((Itl K (P1.io j)).go t H ∧ ∃ Nn : L2.St → Hp → Prop, (∀ σ' H', Nn σ' H' → ∃ m', m' < m ∧ W (t + 1) m' σ' H') ∧ ∀ x H', (Itl K (P1.io j)).yld t H x H' → gName i x σ H' fun σ2 H2 => tS K mg Wx b { D with nx := Nn, ct := Nn, bk := D.nx } σ2 H2) := by
  refine ⟨fun t m σ H => ∃ P Os' M1 env', Lt P1 H1 P H ∧ Ok K mg P0 H0 P Os' H M1 σ env' ∧ loopC i j b m t env' M1 = some (out, M'), ⟨n, P1, Os, M, env, Lt.refl _ _, k, h⟩, ?_⟩
  rintro t m σ H ⟨P, Os', M1, env', lt, k', h'⟩
  cases m with
  | zero => cases h'
  | succ m =>
    simp only [loopC] at h'
    split at h'
    · rename_i ds em
      obtain ⟨vs, ev, is⟩ := k'.hk.cell j _ em
      rw [lt.io j hj] at ev
      have sq : SqL K H (P1.io j) vs := .inl (.inl ev)
      split at h'
      · rename_i et
        cases h'
        refine .inl ⟨⟨vs, sq, by rw [is.len]; exact List.getElem?_eq_none_iff.mp et⟩, q P Os' H σ lt k'⟩
      · rename_i d et
        obtain ⟨v, evt, iv⟩ := is.get et
        split at h'
        · rename_i hi
          refine .inr ⟨⟨vs, v, sq, evt⟩, fun σ' H' => ∃ P Os' M1 env', Lt P1 H1 P H' ∧ Ok K mg P0 H0 P Os' H' M1 σ' env' ∧ loopC i j b m (t + 1) env' M1 = some (out, M'), fun σ' H' z => ⟨m, Nat.lt_succ_self m, z⟩, fun x H' y => ?_⟩
          obtain ⟨rfl, y⟩ := y
          have ex := y vs sq
          rw [evt] at ex
          cases ex
          have k2 := k'.asg hi iv
          split at h'
          · rename_i e M2 eb
            exact ⟨P0, H0, P, _, _, M1, _, _, k2, eb, fun P' Os2 H2 st2 l2 k3 => ⟨P', Os2, _, e, lt.trans l2, k3, h'⟩⟩
          · rename_i e M2 eb
            exact ⟨P0, H0, P, _, _, M1, _, _, k2, eb, fun P' Os2 H2 st2 l2 k3 => ⟨P', Os2, _, e, lt.trans l2, k3, h'⟩⟩
          · rename_i e M2 eb
            cases h'
            exact ⟨P0, H0, P, _, _, M1, _, _, k2, eb, fun P' Os2 H2 st2 l2 k3 => q P' Os2 H2 st2 (lt.trans l2) k3⟩
          · rename_i e M2 eb
            cases h'
            exact ⟨P0, H0, P, _, _, M1, _, _, k2, eb, q⟩
          · rename_i c n M2 eb
            cases h'
            exact ⟨P0, H0, P, _, _, M1, _, _, k2, eb, q⟩
          · cases h'
        · cases h'
    · cases h'
theorem ss_forC (n : Nat) {i : Nat} {x : Str} {p : Pos} {e : Expr} {body : List Stmt} {f : E} {b : S} (hp : PassesOwn (model X.prog X.w) X.A X.env X.xe) (hc : X.calm = true) (hN : X.N.Nodup) (hi : X.N[i]? = some x) (hx : Loc X.env.scope x) (he : SE X Wx .val e f) (hb : SB X Wx body b)
    (hf : X.fn x = true ∨ X.env.scope.names.lookup x = some .local := by first | exact .inl rfl | exact .inr rfl) (hs : ∀ x, foldedSetIterable e X.env x = pure x := by intro _; rfl) : SS X Wx (.For (.Name x p) e body [] pos) (sForC n i f b) := by
  refine ps_imp (ps_for hp hc (pi_list he) (pg_name hN hi hx hf) hb hs) ?_
  rintro D st H ⟨P0, H0, P, Os, env, M, out, M', k, e, q⟩
  unfold sForC at e
  rcases bndS_inv e with ⟨d, M1, e1, e⟩ | ⟨c, n, e1, rfl⟩
  · cases d <;> simp only [reduceCtorEq] at e
    rename_i j
    refine ⟨P0, H0, P, Os, env, M, _, _, k, e1, fun P1 v1 H1 l1 h1 i1 => ?_⟩
    obtain ⟨jl, rfl⟩ : j < P1.n ∧ v1 = .ref (P1.io j) := i1
    have k1 := k.next l1 h1
    have hl : ∃ vs, SqL X.K H1 (P1.io j) vs := by
      cases n with
      | zero => cases e
      | succ n =>
        simp only [loopC] at e
        split at e
        · rename_i ds em
          obtain ⟨vs, ev, is⟩ := h1.cell j _ em
          exact ⟨vs, .inl (.inl ev)⟩
        · cases e
    exact ⟨P1.io j, rfl, hl, loopC_read k1 jl e (q.lt (l1.lt k.hk))⟩
  · exact ⟨P0, H0, P, Os, env, M, _, _, k, e1, q⟩
end
end E3


/-! The law's end (our own) -/
namespace E3
open PySem PySem.Spec PyProof.Rows L2
noncomputable def spL (K : PySem.W.Frag) (g : G) : Sp := fun vs H Q E => ∀ mg, spG K mg 1 g vs H Q E
theorem fnok_L {P : Program} {w : World} {K : PySem.W.Frag} {mg : Str → Option Value} {base : Heap} {k : Nat} {f : Addr} {fd : FuncData} {ps : List Str} {g : G} (F : FnOk P w K mg base CX0 k f fd ps (spG K mg 1 g)) : FnOk P w K mg base CX0 k f fd ps (spL K g) :=
  ⟨fun vs H Q E h => F.len vs H Q E (h mg), fun A outer s H args us vs Q E hr he hb hv hs => F.run A outer s H args us vs Q E hr he hb hv (hs mg)⟩
theorem iss_ints {K : PySem.W.Frag} {P : Pl} {H : Hp} : ∀ ns : List Int, Iss K P H (ns.map D.int) (ns.map V.int)
  | [] => rfl
  | n :: ns => ⟨.int n, _, rfl, rfl, iss_ints ns⟩
theorem law_sp {K : PySem.W.Frag} {g : G} {H : Hp} {a : Addr} {ns : List Int} (hg : ∃ M, g [.lst (ns.map D.int)] [] = some (.v (.bl true), M)) (hS : SqL K H a (ns.map V.int)) : spL K g [.ref a] H (fun v _ => v = .bl true) fun _ _ _ => False := by
  intro mg
  obtain ⟨M, e⟩ := hg
  refine ⟨rfl, ⟨fun _ => 0, 0, fun _ => False⟩, [], [.lst (ns.map D.int)], .bl true, M, ⟨rfl, fun k c e => (by cases e), fun j k h => absurd h (Nat.not_lt_zero _), fun k h => absurd h (Nat.not_lt_zero _), fun a z => z.elim⟩, ⟨.ref a, [], rfl, ⟨a, ns.map V.int, rfl, ?_, iss_ints ns⟩, rfl⟩, e, fun P' v H' _ _ i => i⟩
  rcases hS with h | h
  · exact .inl ⟨fun z => z, h⟩
  · exact .inr h
theorem walk_e3 {l : PySem.W.OpenLaw} {k : Nat} {q : Program} {loose : List Str} {XP : (Str → Option Value) → Heap → Prop} {YP : World → Heap → Prop} {d : DefRec} {K : Params → PySem.W.Frag} {x : Str} {g : G}
    (hn : l.most = some 63) (hdf : d.params.defaults = []) (hr : Room k callerA) (hY : ∀ (w : World) (h : Heap), YP w h → (K w.params).In h)
    (F : ∀ (w : World) (mg : Str → Option Value) (fa : Addr) (h : Heap), (K w.params).In h → h.Ns mainGlobals mg → mg d.name = some (.ref fa) →
      ∃ fd : FuncData, (∀ (s : Shared) (u : Value), BindsTo s fd ⟨[u], []⟩ [(x, u)]) ∧
        ∀ base : Heap, (K w.params).In base → base.Ns mainGlobals mg → FnOk l.prog w (K w.params) mg base CX0 k fa fd [x] (spL (K w.params) g))
    (hg : ∀ ns : List Int, ns.length ≤ 63 → ∃ M, g [.lst (ns.map D.int)] [] = some (.v (.bl true), M)) : PySem.W.WalkO q loose XP YP l.row.toRowW d [] (fun f vs => PySem.call f vs) :=
  L2.walk_ofK (sp := fun K => spL K g) hn (by decide) hdf hr hY F (fun K H a ns hl _ hS => law_sp (hg ns hl) hS) fun _ _ _ _ z => z
end E3


/-! Rules in either mode (our own) -/
namespace E3
open PySem PySem.Spec PyProof.Rows L2
section
variable {X : Cx} {Wx : XW} {m : Mode} {e : Expr}
theorem se_i {i : Int} (h : PE X e (tC (.int i))) : SE X Wx m e (sCon (.int i)) := (se_con (d := .int i) h fun _ _ => rfl).bor
theorem se_s {z : Str} (h : PE X e (tC (.str z))) : SE X Wx m e (sCon (.str z)) := (se_con (d := .str z) h fun _ _ => rfl).bor
theorem se_b {b : Bool} (h : PE X e (tC (.bl b))) : SE X Wx m e (sCon (.bl b)) := (se_con (d := .bl b) h fun _ _ => rfl).bor
theorem se_v {i : Nat} {x : Str} {pos : Pos} (hN : X.N[i]? = some x) (hv : X.env.scope.names.lookup x = some .local) (hd : (x == ("__debug__" : Str)) = false := by decide +kernel) (hcd : (x == ("__classdict__" : Str)) = false := by decide +kernel) : SE X Wx m (.Name x pos) (sVar i) := (se_var hN (.inl hv) hd hcd).bor
theorem se_vb {i : Nat} {x : Str} {pos : Pos} (hN : X.N[i]? = some x) (hv : X.env.scope.names.lookup x = some .local) (hd : (x == ("__debug__" : Str)) = false := by decide +kernel) (hcd : (x == ("__classdict__" : Str)) = false := by decide +kernel) : SE X Wx .bor (.Name x pos) (sVarB i) := se_varB hN (.inl hv) hd hcd
theorem SN.sem {f : E} (h : SN X Wx e f) (hf : ∀ env M r M', f env M = some (.v r, M') → ∃ ds, r = .lst ds) : SE X Wx m e f := (SN.se h hf).bor
end
end E3


/-! sorted(e), fewer than 64 tuples (our own) -/
namespace E3
open PySem PySem.Spec PyProof.Rows L2 PySem.W
/-- a tree of questions, answered -/
noncomputable def runT {α : Type} (lt : Nat → Nat → Option Bool) : KasT α → Option α
  | .ret a => some a
  | .ask i j k => match lt i j with
    | some b => runT lt (k b)
    | none => none
theorem wp_run {α : Type} {cmp : Nat → Nat → (Bool → Shared → Prop) → Shared → Prop} {lt : Nat → Nat → Option Bool} {R : Shared → Prop} (hc : ∀ i j b s C, lt i j = some b → R s → (∀ s', R s' → C b s') → cmp i j C s) : ∀ (t : KasT α) (a : α) (s : Shared) (Q : α → Shared → Prop), runT lt t = some a → R s → (∀ s', R s' → Q a s') → t.kasWp cmp Q s
  | .ret a', a, s, Q, e, r, q => by
    cases e
    exact q s r
  | .ask i j k, a, s, Q, e, r, q => by
    unfold runT at e
    split at e
    · rename_i b eb
      exact hc i j b s _ eb r fun s' r' => wp_run hc (k b) a s' Q e r' q
    · cases e
/-- all that stands stays, but at a -/
noncomputable def Stays (a : Addr) (h h' : Heap) : Prop := ∀ b o, b ≠ a → h.get? b = some o → h'.get? b = some o
noncomputable def Grows (h h' : Heap) : Prop := ∀ b o, h.get? b = some o → h'.get? b = some o
/-- while it is sorted: the list empty, its items in a tuple beside it -/
noncomputable def midH (h : Heap) (a : Addr) (vs : List Value) : Heap := ((h.update a (Obj.mapSeq fun _ => #[])).push (seqObj "tuple" vs.toArray 0)).push (seqObj "list" #[] 0)
/-- the copy that is sorted -/
noncomputable def cpyH (h : Heap) (vs : List Value) : Heap := ((h.push (seqObj "list" #[] 0)).update h.objs.size (Obj.mapSeq (· ++ vs.toArray))).push (seqObj "list" vs.toArray 0)
theorem Stays.upd (h : Heap) (a : Addr) (f : Obj → Obj) : Stays a h (h.update a f) := fun b o nb e => by rw [(Heap.SameBut.update h a f).2 b nb]; exact e
theorem Stays.push {h h' : Heap} {a : Addr} (s : Stays a h h') (o : Obj) : Stays a h (h'.push o) := fun b u nb e => Heap.get?_push_of_some _ (s b u nb e)
theorem midH_stays (h : Heap) (a : Addr) (vs : List Value) : Stays a h (midH h a vs) := ((Stays.upd h a _).push _).push _
theorem cpyH_size (h : Heap) (vs : List Value) : ((h.push (seqObj "list" #[] 0)).update h.objs.size (Obj.mapSeq (· ++ vs.toArray))).objs.size = h.objs.size + 1 := (Heap.size_update ..).trans (size_push' h _)
theorem cpyH_grows (h : Heap) (vs : List Value) : Grows h (cpyH h vs) := fun b o e => by
  have lt := Heap.lt_size e
  unfold cpyH
  rw [Heap.get?_push_ne _ _ _ (by rw [cpyH_size]; exact Nat.ne_of_lt (Nat.lt_succ_of_lt lt)), Heap.get?_update_ne _ _ _ _ (Nat.ne_of_lt lt), Heap.get?_push_ne _ _ _ (Nat.ne_of_lt lt)]
  exact e
theorem cpyH_at (h : Heap) (vs : List Value) : (cpyH h vs).get? (h.objs.size + 1) = some (seqObj "list" vs.toArray 0) := by
  rw [← cpyH_size h vs]
  exact Heap.get?_push_size _ rfl
/-- the items by a permutation -/
noncomputable def byP (vs : List Value) (p : Array Nat) : Array Value := List.toArray (p.toList.map fun i => vs.getD i Value.none)
section
variable {prog : Program} {w : World} {A : Around} {E : Value → Shared → Prop} {s : Shared}
theorem sort_own {a : Addr} {n : Nat} {vs : List Value} {κ : SortKind} {lt : Nat → Nat → Option Bool} {p : Array Nat} {P : PySem.Fin → Shared → Prop} (ho : s.heap.get? a = some (seqObj "list" vs.toArray n)) (h2 : 2 ≤ vs.length) (h64 : vs.length < 64)
    (hk : ∀ (h' : Heap) (Q' : SortKind → Shared → Prop), Stays a s.heap h' → Q' κ { s with heap := h' } → wpAny (model prog w) A (keyKind' vs.toArray) Q' (fun _ _ => False) { s with heap := h' })
    (hc : ∀ (h' : Heap), Stays a s.heap h' → ∀ i j b tk C, lt i j = some b → (∀ tk, C b { s with heap := h', toks := tk }) → kas_ask prog w A κ vs i j C { s with heap := h', toks := tk })
    (hr : runT lt (kas_sort vs.length) = some p)
    (q : ∀ (h' : Heap) tk c, p.size = vs.length → Stays a s.heap h' → h'.get? a = some (seqObj "list" (byP vs p) c) → P (.done (.ret .none)) { s with heap := h', toks := tk }) :
    wpAny (model prog w) A (Builtin.«list.sort» ⟨[.ref a], []⟩) P E s := by
  have hz : vs.length ≤ sizeLine := by rw [sizeLine_eq]; omega
  have st := midH_stays s.heap a vs
  obtain ⟨e1, z1⟩ : ∃ e1, (s.heap.update a (Obj.mapSeq fun _ => (#[] : Array Value))).get? a = some (seqObj "list" #[] e1) := ⟨_, get?_update_seq ho fun _ => #[]⟩
  have z2 : (midH s.heap a vs).get? a = some (seqObj "list" #[] e1) := Heap.get?_push_of_some _ (Heap.get?_push_of_some _ z1)
  rw [list_sort_plain]
  refine wpAny_bind (listItems_at ho rfl (wpAny_bind (listUpdate_at ho rfl (wpAny_bind (seqEpoch_at z1 rfl (wpAny_bind (wpAny_newTuple (wpAny_bind (wpAny_newList (wpAny_holding ?_) (Nat.zero_le _))) hz)))) (by simpa using hz) (Nat.zero_le _))))
  show wpAny (model prog w) A _ P E { s with heap := midH s.heap a vs }
  dsimp only
  have two : ¬ vs.toArray.size < 2 := by simpa using h2
  rw [if_neg two, if_neg two]
  generalize midH s.heap a vs = h1 at st z2 ⊢
  have kind := hk h1 (fun κ' s' => κ' = κ ∧ s' = { s with heap := h1 }) st ⟨rfl, rfl⟩
  refine wpAny_bind (wpAny_mono kind (fun κ' s0 z => ?_) fun _ _ x => x.elim)
  obtain ⟨rfl, rfl⟩ := z
  have tree := wp_run (cmp := kas_ask prog w A κ' vs) (R := fun s' => ∃ tk, s' = { s with heap := h1, toks := tk }) (fun i j b s' C el ⟨tk, es⟩ hC => by
    subst es
    exact hc h1 st i j b tk C el fun tk' => hC _ ⟨tk', rfl⟩) (kas_sort vs.length) p { s with heap := h1 } (fun p' s' => p' = p ∧ ∃ tk, s' = { s with heap := h1, toks := tk }) hr ⟨s.toks, rfl⟩ fun s' r => ⟨rfl, r⟩
  have runs := kat_run (E := E) (Q := fun st' s' => p.size = vs.length ∧ arrOf st' = p.map (kas_item (vs.toArray.zip vs.toArray)) ∧ failedOf st' = none ∧ ∃ tk, s' = { s with heap := h1, toks := tk }) rfl h2 h64
    (fun p' st' s' a1 a2 a3 a4 => by obtain ⟨rfl, a4⟩ := a4; exact ⟨a1, a2, a3, a4⟩) tree
  refine wpAny_bind (wpAny_mono runs ?_ fun _ _ e => e)
  rintro ⟨⟨⟩, st'⟩ s' ⟨hp, har, hf, tk, rfl⟩
  dsimp only
  have hsz : (byP vs p).size = vs.length := by unfold byP; simp [hp]
  rw [kat_snds rfl har]
  obtain ⟨c2, z3⟩ : ∃ c2, (h1.update a (Obj.mapSeq fun _ => byP vs p)).get? a = some (seqObj "list" (byP vs p) c2) := ⟨_, get?_update_seq z2 fun _ => byP vs p⟩
  refine wpAny_bind (seqEpoch_at z2 rfl (wpAny_bind (listUpdate_at z2 rfl ?_ (Nat.zero_le _) (by show (byP vs p).size ≤ sizeLine + 1; rw [hsz]; exact Nat.le_succ_of_le hz))))
  rw [hf]
  simp only [bne_self_eq_false, Bool.false_eq_true, if_false]
  exact wpAny_pure (q _ tk c2 hp (fun b o nb e => Stays.upd h1 a _ b o nb (st b o nb e)) z3)
theorem sorted_own {l : Addr} {vs : List Value} {κ : SortKind} {lt : Nat → Nat → Option Bool} {p : Array Nat} {Q : Value → Shared → Prop} (hl : s.heap.IsList l vs.toArray) (h2 : 2 ≤ vs.length) (h64 : vs.length < 64)
    (hk : ∀ (h' : Heap) (Q' : SortKind → Shared → Prop), Grows s.heap h' → Q' κ { s with heap := h' } → wpAny (model prog w) A.in1.in1 (keyKind' vs.toArray) Q' (fun _ _ => False) { s with heap := h' })
    (hc : ∀ (h' : Heap), Grows s.heap h' → ∀ i j b tk C, lt i j = some b → (∀ tk, C b { s with heap := h', toks := tk }) → kas_ask prog w A.in1.in1 κ vs i j C { s with heap := h', toks := tk })
    (hr : runT lt (kas_sort vs.length) = some p)
    (q : ∀ (h' : Heap) tk c a, p.size = vs.length → Grows s.heap h' → s.heap.objs.size ≤ a → h'.get? a = some (seqObj "list" (byP vs p) c) → Q (.ref a) { s with heap := h', toks := tk }) :
    wpAny (model prog w) A (call (.builtin "sorted") [.ref l]) Q E s := by
  have hz : vs.length ≤ sizeLine := by rw [sizeLine_eq]; omega
  have up : ∀ h', Stays (s.heap.objs.size + 1) (cpyH s.heap vs) h' → Grows s.heap h' := fun h' st b o e => st b o (Nat.ne_of_lt (Nat.lt_succ_of_lt (Heap.lt_size e))) (cpyH_grows s.heap vs b o e)
  refine Calls.call_function_entry kind_sorted plain_sorted entry_sorted (args_sorted1 _) ?_
  unfold Builtin.«sorted»
  refine wpAny_bind (m := checkCount "sorted" 1 1 _) (wpAny_pure (wpAny_bind (collect_list hl (wpAny_bind (wpAny_newList ?_ hz)) (by simpa using hz))))
  rw [cpyH_size]
  show wpAny _ _ _ _ _ { s with heap := cpyH s.heap vs }
  refine wpAny_bind (wpAny_holding (wpAny_call_entry slot_list_sort ⟨_, cpyH_at s.heap vs, rfl⟩ entry_list_sort (sort_own (s := { s with heap := cpyH s.heap vs }) (cpyH_at s.heap vs) h2 h64 (fun h' Q' st => hk h' Q' (up h' st)) (fun h' st => hc h' (up h' st)) hr fun h' tk c hp st e => ?_) (args_list_sort _)))
  exact ⟨_, rfl, wpAny_pure ⟨_, rfl, q h' tk c _ hp (up h' st) (Nat.le_succ _) e⟩⟩
end
end E3


/-! sorted(e) over data (our own) -/
namespace E3
open PySem PySem.Spec PyProof.Rows L2 PySem.W
/-- which of two tuples of ints and texts comes first (texts that differ are not told) -/
noncomputable def ltT : List D → List D → Option Bool
  | [], [] => some false
  | .int i :: ps, .int j :: qs => if i = j then ltT ps qs else some (decide (i < j))
  | .str a :: ps, .str b :: qs => if a = b then ltT ps qs else none
  | _, _ => none
noncomputable def ltD (ds : List D) (i j : Nat) : Option Bool := match ds.getD i .non with
  | .tup xs => (match ds.getD j .non with
    | .tup ys => ltT xs ys
    | _ => none)
  | _ => none
section
variable {prog : Program} {w : World} {A : Around} {s : Shared} {K : PySem.W.Frag} {P : Pl} {H : Hp}
theorem lex_ok {fin b : Bool} {Q : Bool → Shared → Prop} (hq : Q b s) : ∀ (xs ys : List D) (vs ws : List V) (us zs : List Value) (n : Nat), Iss K P H xs vs → Iss K P H ys ws → Vals vs us → Vals ws zs → ltT xs ys = some b → (us.length = zs.length → fin = false) → KatLex prog w A true fin Q (us.zip zs) n s
  | [], ys, vs, ws, us, zs, n, i1, i2, r1, r2, e, hf => by
    cases ys with
    | cons y ys => cases e
    | nil =>
      rw [show vs = [] from i1] at r1
      rw [show ws = [] from i2] at r2
      cases r1
      cases r2
      cases e
      rw [hf rfl]
      exact hq
  | x :: xs, [], vs, ws, us, zs, n, i1, i2, r1, r2, e, hf => by cases x <;> cases e
  | x :: xs, y :: ys, vs, ws, us, zs, n, i1, i2, r1, r2, e, hf => by
    obtain ⟨v, vr, rfl, p, i1⟩ := i1
    obtain ⟨u, wr, rfl, p', i2⟩ := i2
    cases r1 with
    | cons a1 r1 =>
      cases r2 with
      | cons a2 r2 =>
        have rest : ltT xs ys = some b → ∀ n, KatLex prog w A true fin Q (List.zip _ _) n s := fun e n => lex_ok hq xs ys _ _ _ _ n i1 i2 r1 r2 e fun z => hf (by simp [z])
        rw [List.zip_cons_cons]
        cases x <;> cases y <;> simp only [ltT, reduceCtorEq] at e
        · rename_i i j
          cases p
          cases p'
          obtain ⟨t1, rfl⟩ := a1
          obtain ⟨t2, rfl⟩ := a2
          refine kat_cons (SeqAt.EqAt.int_int _ _ _ _ prog w _ _ ?_)
          split at e
          · rename_i hij
            subst hij
            rw [show (i == i) = true from beq_self_eq_true i]
            exact kat_yes (rest e _)
          · rename_i hij
            cases e
            rw [show (i == j) = false from beq_eq_false_iff_ne.mpr hij]
            refine kat_no ?_
            cases n with
            | zero => exact oneLt_int hq
            | succ n => exact kat_one _ _ (lt_int (show PySem.W.BoolBack Q (.bool _) s from hq))
        · rename_i a c
          cases p
          cases p'
          obtain ⟨t1, rfl⟩ := a1
          obtain ⟨t2, rfl⟩ := a2
          refine kat_cons (SeqAt.EqAt.str_str _ _ _ _ prog w _ _ ?_)
          split at e
          · rename_i hij
            subst hij
            rw [show (a == a) = true from beq_self_eq_true a]
            exact kat_yes (rest e _)
          · cases e
end
/-- tuples whose first item is an int -/
noncomputable def tupI : D → Bool
  | .tup (.int _ :: _) => true
  | _ => false
noncomputable def rSrt (K : PySem.W.Frag) : List V → Hp → VK → Prop := fun xs H Q => ∃ (P : Pl) (a : Addr) (vs : List V) (ds : List D) (p : Array Nat), xs = [.ref a] ∧ SqL K H a vs ∧ Iss K P H ds vs ∧ 2 ≤ ds.length ∧ ds.length < 64 ∧ ds.all tupI = true ∧ runT (ltD ds) (kas_sort ds.length) = some p ∧
  ∀ l, H l = none → Q (.ref l) (upd H l (.lst (p.toList.map fun i => vs.getD i .non)))
section
variable {X : Cx} {pins : List (Addr × Obj)} {σ : L2.St} {H : Hp} {s : Shared}
theorem tup_item {P : Pl} (I : Inv X pins σ H s) {h' : Heap} (g : Grows s.heap h') {xs : List D} {v : V} {u : Value} (i : Is X.K P H (.tup xs) v) (r : RelV v u) : ∃ a o its n ws, u = .ref a ∧ h'.get? a = some o ∧ o.cls = .type "tuple" ∧ o.data = .seq its n ∧ Iss X.K P H xs ws ∧ Vals ws its.toList := by
  obtain ⟨a, ws, rfl, t, is⟩ := i
  cases r
  obtain ⟨its, rv, ⟨o, e1, e2, n, e3⟩, _⟩ := I.tuple t
  exact ⟨a, o, its.toArray, n, ws, rfl, g _ _ e1, e2, e3, is, by simpa using rv⟩
theorem tups_of {P : Pl} (I : Inv X pins σ H s) {h' : Heap} (g : Grows s.heap h') : ∀ (ds : List D) (vs : List V) (us : List Value), ds.all tupI = true → Iss X.K P H ds vs → Vals vs us → ∃ fs, KatTups h' us fs ∧ fs.length = us.length ∧ ∀ f ∈ fs, ∃ i t, f = Value.int i t
  | [], vs, us, _, i, r => by
    rw [show vs = [] from i] at r
    cases r
    exact ⟨[], KatTups.nil, rfl, fun f h => nomatch h⟩
  | d :: ds, vs, us, hd, i, r => by
    obtain ⟨v, vr, rfl, p, i⟩ := i
    rw [List.all_cons, Bool.and_eq_true] at hd
    cases r with
    | cons a1 r =>
      obtain ⟨fs, k, kl, kf⟩ := tups_of I g ds _ _ hd.2 i r
      cases d with
      | tup xs =>
        cases xs with
        | nil => cases (show false = true from hd.1)
        | cons x xs =>
          cases x with
          | int z =>
            obtain ⟨a, o, its, n, ws, rfl, e1, e2, e3, is, rv⟩ := tup_item I g p a1
            obtain ⟨w, wr, rfl, pw, is⟩ := is
            cases pw
            obtain ⟨its⟩ := its
            cases rv with
            | cons b1 rv =>
              obtain ⟨t, rfl⟩ := b1
              refine ⟨.int z t :: fs, KatTups.cons e1 e2 e3 rfl k, by simp [kl], fun f hf => ?_⟩
              rcases List.mem_cons.mp hf with rfl | hf
              · exact ⟨z, t, rfl⟩
              · exact kf f hf
          | _ => cases (show false = true from hd.1)
      | _ => cases (show false = true from hd.1)
theorem vals_get {vs : List V} {us : List Value} (r : Vals vs us) (i : Nat) : RelV (vs.getD i .non) (us.getD i Value.none) := by
  induction r generalizing i with
  | nil => exact rfl
  | cons a r ih => cases i with
    | zero => simpa using a
    | succ i => simpa using ih i
theorem call_srt : CallR X (.builtin "sorted") (rSrt X.K) := by
  intro pins s σ H xs us Q I r h
  obtain ⟨P, a, vs, ds, p, rfl, hl, is, h2, h64, ht, hr, q⟩ := h
  obtain ⟨u, rfl, rx⟩ := vals1 r
  cases rx
  obtain ⟨its, rv, pl, hz⟩ := I.list hl
  have l1 : its.length = ds.length := by rw [← rv.length, is.len]
  refine sorted_own (κ := tuples' true) (lt := ltD ds) (p := p) pl.isList (by omega) (by omega) (fun h' Q' g hq => ?_) (fun h' g i j b tk C el hC => ?_) (by rw [l1]; exact hr) fun h' tk c D hp g hD eD => ?_
  · obtain ⟨fs, k, kl, kf⟩ := tups_of I g ds vs its ht is rv
    exact kat_kind (T := .type "int") k (by omega) (fun f hf => by
      obtain ⟨i, t, rfl⟩ := kf f hf
      intro A Q E s _ q
      exact wpAny_pure q) (by decide +kernel) hq
  · unfold kas_ask
    unfold ltD at el
    split at el
    · rename_i xs ei
      split at el
      · rename_i ys ej
        have gi : ∀ k zs, ds.getD k .non = .tup zs → Is X.K P H (.tup zs) (vs.getD k .non) := fun k zs ek => by
          rw [List.getD_eq_getElem?_getD] at ek
          cases e : ds[k]? with
          | none => rw [e] at ek; cases ek
          | some d =>
            rw [e] at ek
            obtain ⟨v, ev, iv⟩ := is.get e
            rw [List.getD_eq_getElem?_getD, ev]
            simp only [Option.getD_some] at ek ⊢
            rw [← ek]
            exact iv
        obtain ⟨a1, o1, t1, n1, w1, e1, f1, f2, f3, f4, f5⟩ := tup_item I g (gi i xs ei) (vals_get rv i)
        obtain ⟨a2, o2, t2, n2, w2, e2, g1, g2, g3, g4, g5⟩ := tup_item I g (gi j ys ej) (vals_get rv j)
        rw [e1, e2]
        refine kat_lt (s := { s with heap := h', toks := tk }) f1 f3 g1 g3 (lex_ok (hC tk) xs ys w1 w2 _ _ 0 f4 g4 f5 g5 el fun z => ?_)
        simp only [Array.length_toList] at z
        simp [z]
      · cases el
    · cases el
  · have hv : Vals (p.toList.map fun i => vs.getD i .non) (p.toList.map fun i => its.getD i Value.none) := by
      induction p.toList with
      | nil => exact .nil
      | cons i r ih => exact .cons (vals_get rv i) ih
    have hlen : (p.toList.map fun i => vs.getD i V.non).length ≤ sizeLine := by
      rw [List.length_map, Array.length_toList, hp, ← rv.length]; exact hz
    exact ⟨.ref D, _, I.laid (o := .lst (p.toList.map fun i => vs.getD i .non)) g hD ⟨hlen, _, c, hv, eD⟩, rfl, q D (I.hok.fresh hD)⟩
end
end E3


/-! sorted(e) as a new list (our own) -/
namespace E3
open PySem PySem.Spec PyProof.Rows L2 PySem.W
section
variable {prog : Program} {w : World} {A : Around} {E : Value → Shared → Prop} {s : Shared}
theorem sort_few {a : Addr} {n : Nat} {vs : List Value} {P : PySem.Fin → Shared → Prop} (ho : s.heap.get? a = some (seqObj "list" vs.toArray n)) (h2 : vs.length < 2)
    (q : ∀ (h' : Heap) c, Stays a s.heap h' → h'.get? a = some (seqObj "list" vs.toArray c) → P (.done (.ret .none)) { s with heap := h' }) :
    wpAny (model prog w) A (Builtin.«list.sort» ⟨[.ref a], []⟩) P E s := by
  have hz : vs.length ≤ sizeLine := by rw [sizeLine_eq]; omega
  have st := midH_stays s.heap a vs
  obtain ⟨e1, z1⟩ : ∃ e1, (s.heap.update a (Obj.mapSeq fun _ => (#[] : Array Value))).get? a = some (seqObj "list" #[] e1) := ⟨_, get?_update_seq ho fun _ => #[]⟩
  have z2 : (midH s.heap a vs).get? a = some (seqObj "list" #[] e1) := Heap.get?_push_of_some _ (Heap.get?_push_of_some _ z1)
  rw [list_sort_plain]
  refine wpAny_bind (listItems_at ho rfl (wpAny_bind (listUpdate_at ho rfl (wpAny_bind (seqEpoch_at z1 rfl (wpAny_bind (wpAny_newTuple (wpAny_bind (wpAny_newList (wpAny_holding ?_) (Nat.zero_le _))) hz)))) (by simpa using hz) (Nat.zero_le _))))
  show wpAny (model prog w) A _ P E { s with heap := midH s.heap a vs }
  dsimp only
  have two : vs.toArray.size < 2 := by simpa using h2
  rw [if_pos two, if_pos two]
  generalize midH s.heap a vs = h1 at st z2 ⊢
  refine wpAny_bind (wpAny_pure (wpAny_bind (m := (pure () : StateT SortSt Sem Unit).run _) (wpAny_pure ?_)))
  dsimp only
  have out : (arrOf (SortSt.mk' general' (vs.toArray.zip vs.toArray) #[] 7 none)).map (·.2) = vs.toArray := by
    show (vs.toArray.zip vs.toArray).map (·.2) = vs.toArray
    apply Array.toList_inj.mp
    simp only [Array.toList_map, Array.toList_zip]
    exact List.map_snd_zip (Nat.le_refl _)
  rw [out]
  obtain ⟨c2, z3⟩ : ∃ c2, (h1.update a (Obj.mapSeq fun _ => vs.toArray)).get? a = some (seqObj "list" vs.toArray c2) := ⟨_, get?_update_seq z2 fun _ => vs.toArray⟩
  refine wpAny_bind (seqEpoch_at z2 rfl (wpAny_bind (listUpdate_at z2 rfl ?_ (Nat.zero_le _) (by rw [List.size_toArray]; exact Nat.le_succ_of_le hz))))
  simp only [bne_self_eq_false, Bool.false_eq_true, if_false]
  exact wpAny_pure (q _ c2 (fun b o nb e => Stays.upd h1 a _ b o nb (st b o nb e)) z3)
theorem sorted_few {l : Addr} {vs : List Value} {Q : Value → Shared → Prop} (hl : s.heap.IsList l vs.toArray) (h2 : vs.length < 2)
    (q : ∀ (h' : Heap) c a, Grows s.heap h' → s.heap.objs.size ≤ a → h'.get? a = some (seqObj "list" vs.toArray c) → Q (.ref a) { s with heap := h' }) :
    wpAny (model prog w) A (call (.builtin "sorted") [.ref l]) Q E s := by
  have hz : vs.length ≤ sizeLine := by rw [sizeLine_eq]; omega
  have up : ∀ h', Stays (s.heap.objs.size + 1) (cpyH s.heap vs) h' → Grows s.heap h' := fun h' st b o e => st b o (Nat.ne_of_lt (Nat.lt_succ_of_lt (Heap.lt_size e))) (cpyH_grows s.heap vs b o e)
  refine Calls.call_function_entry kind_sorted plain_sorted entry_sorted (args_sorted1 _) ?_
  unfold Builtin.«sorted»
  refine wpAny_bind (m := checkCount "sorted" 1 1 _) (wpAny_pure (wpAny_bind (collect_list hl (wpAny_bind (wpAny_newList ?_ hz)) (by simpa using hz))))
  rw [cpyH_size]
  show wpAny _ _ _ _ _ { s with heap := cpyH s.heap vs }
  refine wpAny_bind (wpAny_holding (wpAny_call_entry slot_list_sort ⟨_, cpyH_at s.heap vs, rfl⟩ entry_list_sort (sort_few (s := { s with heap := cpyH s.heap vs }) (cpyH_at s.heap vs) h2 fun h' c st e => ?_) (args_list_sort _)))
  exact ⟨_, rfl, wpAny_pure ⟨_, rfl, q h' c _ (up h' st) (Nat.le_succ _) e⟩⟩
end
section
variable {X : Cx} {Wx : XW}
noncomputable def rFew (K : PySem.W.Frag) : List V → Hp → VK → Prop := fun xs H Q => ∃ (a : Addr) (vs : List V), xs = [.ref a] ∧ SqL K H a vs ∧ vs.length < 2 ∧ ∀ l, H l = none → Q (.ref l) (upd H l (.lst vs))
theorem call_few : CallR X (.builtin "sorted") (rFew X.K) := by
  intro pins s σ H xs us Q I r h
  obtain ⟨a, vs, rfl, hl, h2, q⟩ := h
  obtain ⟨u, rfl, rx⟩ := vals1 r
  cases rx
  obtain ⟨its, rv, pl, hz⟩ := I.list hl
  refine sorted_few pl.isList (by rw [← rv.length]; exact h2) fun h' c D g hD eD => ?_
  exact ⟨.ref D, _, I.laid (t' := s.toks) (o := .lst vs) g hD ⟨hz, its, c, rv, eD⟩, rfl, q D (I.hok.fresh hD)⟩
noncomputable def sortD (ds : List D) : Option (List D) := if ds.length < 2 then some ds else if ds.length < 64 ∧ ds.all tupI = true then (runT (ltD ds) (kas_sort ds.length)).map fun p => p.toList.map fun i => ds.getD i .non else none
theorem sort_iss {K : PySem.W.Frag} {P : Pl} {H : Hp} {ds : List D} {vs : List V} (is : Iss K P H ds vs) : ∀ l : List Nat, Iss K P H (l.map fun i => ds.getD i .non) (l.map fun i => vs.getD i .non)
  | [] => rfl
  | i :: l => by
    refine ⟨_, _, rfl, ?_, sort_iss is l⟩
    dsimp only
    rw [List.getD_eq_getElem?_getD, List.getD_eq_getElem?_getD]
    cases e : ds[i]? with
    | none =>
      have : vs[i]? = none := List.getElem?_eq_none_iff.mpr (by rw [is.len]; exact List.getElem?_eq_none_iff.mp e)
      rw [this]
      rfl
    | some d =>
      obtain ⟨v, ev, iv⟩ := is.get e
      rw [ev]
      exact iv
noncomputable def sSorted (f : E) : E := fun env M => bnd (f env M) fun d M1 => match vw M1 d with
  | .lst ds => (sortD ds).map fun es => (.v (.lst es), M1)
  | _ => none
theorem boot_sorted : bootBuiltins "sorted" = some (.builtin "sorted") := by kernel_rfl
theorem sn_sorted {e : Expr} {f : E} {p pos : Pos} (hg : Gl X "sorted") (hm : X.mg "sorted" = none) (he : SE X Wx .bor e f) (hs : starEach [e] X.env = (false, eval e X.env) :: starEach [] X.env := by rfl) : SN X Wx (.Call (.Name "sorted" p) [e] [] pos) (sSorted f) := by
  refine pe_imp (pe_callB (call_few.or call_srt) hg hm boot_sorted (pa_cons he pa_nil hs) (by decide +kernel) (by decide +kernel) hs rfl) ?_
  rintro st H Q ⟨P0, H0, P, Os, env, M, r, M', k, e, q⟩
  unfold sSorted at e
  rcases bnd_inv e with ⟨d, M1, e1, e⟩ | ⟨c, n, e1, rfl⟩
  · refine tE_go k e1 fun P1 v1 H1 l1 h1 i1 => ?_
    have iw := IsB.vw h1 i1
    split at e
    · rename_i ds ev
      rw [Option.map_eq_some_iff] at e
      obtain ⟨es, ez, e⟩ := e
      cases e
      obtain ⟨ds', e', q⟩ := q
      cases e'
      rw [ev] at iw
      obtain ⟨a, vs, rfl, sq, is⟩ := iw
      have fin : ∀ ws, Iss X.K P1 H1 es ws → ∀ l, H1 l = none → Q (.ref l) (upd H1 l (.lst ws)) := fun ws iws l hl => by
        obtain ⟨l2, h2, nc⟩ := bar_new (vs := ws) h1 hl
        exact q (P1.bar l) l ws _ (l1.trans l2) h2 (l1.sure l hl) (.inr rfl) nc upd_same (Iss.lt (l2.lt h1) iws)
      unfold sortD at ez
      split at ez
      · rename_i hlt
        cases ez
        exact .inl ⟨a, vs, rfl, sq, by rw [is.len]; exact hlt, fin vs is⟩
      · split at ez
        · rename_i h2 h3
          rw [Option.map_eq_some_iff] at ez
          obtain ⟨p, ep, rfl⟩ := ez
          exact .inr ⟨P1, a, vs, ds, p, rfl, sq, is, by omega, h3.1, h3.2, ep, fin _ (sort_iss is _)⟩
        · cases ez
    · cases e
  · exact tE_go k e1 q
theorem sorted_is {f : E} : ∀ env M r M', sSorted f env M = some (.v r, M') → ∃ ds, r = .lst ds := fun env M r M' e => by
  unfold sSorted at e
  rcases bnd_inv e with ⟨ds, M1, e1, e⟩ | ⟨c, n, e1, e⟩
  · split at e
    · rw [Option.map_eq_some_iff] at e
      obtain ⟨es, _, e⟩ := e
      cases e
      exact ⟨_, rfl⟩
    · cases e
  · cases e
end
/-! ### what is sorted is of what was there -/
noncomputable def Low (n : Nat) (p : Array Nat) : Prop := p.size = n ∧ ∀ x ∈ p.toList, x < n
theorem Low.get {n : Nat} {p : Array Nat} (h : Low n p) (hn : 0 < n) (i : Nat) : p.getD i 0 < n := by
  rw [Array.getD_eq_getD_getElem?]
  cases e : p[i]? with
  | none => exact hn
  | some x => exact h.2 x (by rw [Array.mem_toList_iff]; exact Array.mem_of_getElem? e)
theorem Low.perm {n : Nat} {p q : Array Nat} (h : Low n p) (e : q.Perm p) : Low n q := ⟨e.size_eq.trans h.1, fun x hx => h.2 x ((e.toList).mem_iff.mp hx)⟩
theorem Low.rev {n i j : Nat} {p : Array Nat} (h : Low n p) : Low n (kas_rev p i j) := h.perm (mirror_perm _ _ _ _)
theorem Low.bub {n i j : Nat} {p : Array Nat} (h : Low n p) : Low n (bubble p i j) := h.perm (bubble_perm _ _ _)
theorem run_bind {α β : Type} {lt : Nat → Nat → Option Bool} {f : α → KasT β} : ∀ t : KasT α, runT lt (t.bind f) = (runT lt t).bind fun a => runT lt (f a)
  | .ret a => rfl
  | .ask i j k => by
    show runT lt (.ask i j fun b => (k b).bind f) = _
    simp only [runT]
    cases lt i j with
    | none => rfl
    | some b => exact run_bind (k b)
section
variable {n : Nat} {lt : Nat → Nat → Option Bool} (hn : 0 < n) (tot : ∀ i j, i < n → j < n → ∃ b, lt i j = some b)
include hn tot
theorem run_asc {p : Array Nat} (h : Low n p) : ∀ f m, ∃ r, runT lt (kas_asc p f m) = some r
  | 0, m => ⟨m, rfl⟩
  | f + 1, m => by
    obtain ⟨b, eb⟩ := tot _ _ (h.get hn m) (h.get hn (m - 1))
    simp only [kas_asc, runT, eb]
    cases b
    · exact run_asc h f (m + 1)
    · exact ⟨m, rfl⟩
theorem run_desc : ∀ f {p : Array Nat} m q, Low n p → ∃ r, runT lt (kas_desc f p m q) = some r ∧ Low n r.1
  | 0, p, m, q, h => ⟨_, rfl, h⟩
  | f + 1, p, m, q, h => by
    obtain ⟨b, eb⟩ := tot _ _ (h.get hn m) (h.get hn (m - 1))
    obtain ⟨c, ec⟩ := tot _ _ (h.get hn (m - 1)) (h.get hn m)
    simp only [kas_desc, runT, eb]
    cases b
    · simp only [Bool.false_eq_true, if_false, runT, ec]
      cases c
      · exact run_desc f (m + 1) (q + 1) h
      · exact ⟨_, rfl, h⟩
    · simp only [if_true]
      split
      · exact run_desc f (m + 1) 0 h.rev
      · exact run_desc f (m + 1) 0 h
theorem run_tail3 {p : Array Nat} {a b : Nat} (h : Low n p) : ∃ r, runT lt (kas_tail3 a b p) = some r ∧ Low n r.2 := by
  unfold kas_tail3
  obtain ⟨r, er⟩ := run_asc hn tot (p := kas_rev p 0 a) h.rev (b - a) a
  rw [run_bind, er]
  exact ⟨_, rfl, h.rev⟩
theorem run_part {p : Array Nat} {a b : Nat} (h : Low n p) : ∃ r, runT lt (kas_descPart a b p) = some r ∧ Low n r.2 := by
  unfold kas_descPart
  obtain ⟨r, er, hr⟩ := run_desc hn tot (b - (a + 1)) (a + 1) 0 h
  rw [run_bind, er, Option.bind_some]
  split
  · exact run_tail3 hn tot hr.rev
  · exact run_tail3 hn tot hr
theorem run_count {p : Array Nat} {b : Nat} (h : Low n p) : ∃ r, runT lt (kas_count b p) = some r ∧ Low n r.2 := by
  unfold kas_count
  obtain ⟨r, er⟩ := run_asc hn tot h (b - 1) 1
  rw [run_bind, er, Option.bind_some]
  split
  · exact ⟨_, rfl, h⟩
  · split
    · obtain ⟨c, ec⟩ := tot _ _ (h.get hn 0) (h.get hn (r - 1))
      simp only [runT, ec]
      cases c
      · exact run_part hn tot h.rev
      · exact ⟨_, rfl, h⟩
    · exact run_part hn tot h
theorem run_place {p : Array Nat} {k : Nat} (h : Low n p) : ∀ f l r, ∃ x, runT lt (kas_place p k f l r) = some x
  | 0, l, r => ⟨l, rfl⟩
  | f + 1, l, r => by
    unfold kas_place
    split
    · exact ⟨l, rfl⟩
    · obtain ⟨c, ec⟩ := tot _ _ (h.get hn k) (h.get hn ((l + r) / 2))
      simp only [runT, ec]
      cases c
      · exact run_place h f _ _
      · exact run_place h f _ _
theorem run_bin : ∀ f {p : Array Nat} k, Low n p → ∃ r, runT lt (kas_bin f p k) = some r ∧ Low n r
  | 0, p, k, h => ⟨p, rfl, h⟩
  | f + 1, p, k, h => by
    unfold kas_bin
    obtain ⟨x, ex⟩ := run_place hn tot (k := k) h k 0 k
    rw [run_bind, ex, Option.bind_some]
    exact run_bin f (k + 1) h.bub
theorem run_sort : ∃ p, runT lt (kas_sort n) = some p ∧ Low n p := by
  unfold kas_sort
  have h0 : Low n (List.toArray (List.range n)) := ⟨by simp, fun x hx => by simpa using hx⟩
  obtain ⟨r, er, hr⟩ := run_count hn tot (b := n) h0
  rw [run_bind, er, Option.bind_some]
  split
  · exact run_bin hn tot _ _ hr
  · exact ⟨_, rfl, hr⟩
end
/-- sorted tells items of the list -/
theorem sort_mem {ds : List D} (h64 : ds.length < 64) (ht : ds.all tupI = true) (tot : ∀ i j, i < ds.length → j < ds.length → ∃ b, ltD ds i j = some b) : ∃ es, sortD ds = some es ∧ es.length = ds.length ∧ ∀ e ∈ es, e ∈ ds := by
  unfold sortD
  split
  · exact ⟨ds, rfl, rfl, fun e h => h⟩
  · rename_i h2
    rw [if_pos ⟨h64, ht⟩]
    obtain ⟨p, ep, hp⟩ := run_sort (n := ds.length) (by omega) tot
    refine ⟨_, by rw [ep]; rfl, by rw [List.length_map, Array.length_toList, hp.1], fun e he => ?_⟩
    obtain ⟨i, hi, rfl⟩ := List.mem_map.mp he
    have := hp.2 i hi
    rw [List.getD_eq_getElem?_getD, List.getElem?_eq_getElem this]
    exact List.getElem_mem this
end E3


/-! Equations for walking (our own) -/
namespace E3
open PySem L2
section
variable {env : Env} {M M1 : Mm} {f g h c : E} {d e : D} {i j : Int} {n k : Nat} {z : Str} {b : Bool} {ds es : List D} {s t : S} {x : Str}
noncomputable def seqR (g : S) : OS → OS
  | some (.nx e, M1) => g e M1
  | o => o
theorem q_seq : sSeq s t env M = seqR t (s env M) := by
  unfold sSeq seqR
  cases s env M with
  | none => rfl
  | some p => obtain ⟨o, M⟩ := p; cases o <;> rfl
theorem r_nx {e : Env} : seqR t (some (.nx e, M)) = t e M := rfl
theorem r_rt : seqR t (some (.rt d, M)) = some (.rt d, M) := rfl
theorem r_bk {e : Env} : seqR t (some (.bk e, M)) = some (.bk e, M) := rfl
theorem r_ct {e : Env} : seqR t (some (.ct e, M)) = some (.ct e, M) := rfl
theorem r_ex {a : Int} : seqR t (some (.ex x a, M)) = some (.ex x a, M) := rfl
theorem q_end : sEnd env M = some (.nx env, M) := rfl
/-! expressions -/
noncomputable def varR (M : Mm) : Option Slot → O
  | some (.val d) => some (.v d, M)
  | _ => none
noncomputable def varB (M : Mm) : Option Slot → O
  | some (.val d) => some (.v d, M)
  | some (.own ds) => some (.v (.lst ds), M)
  | _ => none
theorem q_v : sVar k env M = varR M env[k]? := by
  unfold sVar varR; split <;> simp_all
theorem q_vb : sVarB k env M = varB M env[k]? := by
  unfold sVarB varB; split <;> simp_all
theorem r_v : varR M (some (.val d)) = some (.v d, M) := rfl
theorem r_vb : varB M (some (.val d)) = some (.v d, M) := rfl
theorem r_vo : varB M (some (.own ds)) = some (.v (.lst ds), M) := rfl
theorem q_con : sCon d env M = some (.v d, M) := rfl
noncomputable def mapR (M : Mm) : Option D → O
  | some z => some (.v z, M)
  | none => none
theorem r_map : mapR M (some d) = some (.v d, M) := rfl
noncomputable def oneR (o : D → Option D) : O → O
  | some (.v d, M) => mapR M (o (vw M d))
  | some (.x c n, M) => some (.x c n, M)
  | none => none
theorem q_1 {o : D → Option D} : s1 o f env M = oneR o (f env M) := by
  unfold s1 oneR bnd
  cases f env M with
  | none => rfl
  | some p => obtain ⟨r, M'⟩ := p; cases r with
    | v d => dsimp only; cases o (vw M' d) <;> rfl
    | x c n => rfl
theorem r_1 {o : D → Option D} : oneR o (some (.v d, M)) = mapR M (o (vw M d)) := rfl
noncomputable def twoS (o : D → D → Option D) (d : D) : O → O
  | some (.v e, M) => mapR M (o (vw M d) (vw M e))
  | some (.x c n, M) => some (.x c n, M)
  | none => none
noncomputable def twoK (o : D → D → Option D) (k : Mm → O) : O → O
  | some (.v d, M) => twoS o d (k M)
  | some (.x c n, M) => some (.x c n, M)
  | none => none
theorem q_2 {o : D → D → Option D} : s2 o f g env M = twoK o (g env) (f env M) := by
  unfold s2 twoK bnd
  cases f env M with
  | none => rfl
  | some p => obtain ⟨r, M'⟩ := p; cases r with
    | x c n => rfl
    | v d =>
      dsimp only
      unfold twoS
      cases g env M' with
      | none => rfl
      | some p => obtain ⟨r, M2⟩ := p; cases r with
        | x c n => rfl
        | v e => dsimp only; cases o (vw M2 d) (vw M2 e) <;> rfl
theorem r_2 {o : D → D → Option D} {q : Mm → O} : twoK o q (some (.v d, M)) = twoS o d (q M) := rfl
theorem r_2s {o : D → D → Option D} : twoS o d (some (.v e, M)) = mapR M (o (vw M d) (vw M e)) := rfl
theorem w_int : vw M (.int i) = .int i := rfl
theorem w_str : vw M (.str z) = .str z := rfl
theorem w_bl : vw M (.bl b) = .bl b := rfl
theorem w_non : vw M .non = .non := rfl
theorem w_tup : vw M (.tup ds) = .tup ds := rfl
theorem w_lst : vw M (.lst ds) = .lst ds := rfl
theorem w_ref (h : M[k]? = some (.lst ds)) : vw M (.ref k) = .lst ds := by unfold vw; simp only [h]
/-! tests -/
theorem q_tru : sTru f env M = oneR (fun d => (truD d).map .bl) (f env M) := q_1
theorem q_notv : sNotV f env M = oneR (fun d => (truD d).map fun b => .bl (!b)) (f env M) := q_1
noncomputable def notR : O → O
  | some (.v (.bl b), M) => some (.v (.bl (!b)), M)
  | some (.x c n, M) => some (.x c n, M)
  | _ => none
theorem q_not : sNot f env M = notR (f env M) := by
  unfold sNot notR bnd
  cases f env M with
  | none => rfl
  | some p => obtain ⟨r, M'⟩ := p; cases r with
    | x c n => rfl
    | v d => cases d <;> rfl
theorem r_not : notR (some (.v (.bl b), M)) = some (.v (.bl (!b)), M) := rfl
noncomputable def iteR (k1 k2 : Mm → O) : O → O
  | some (.v (.bl b), M) => if b = true then k1 M else k2 M
  | some (.x c n, M) => some (.x c n, M)
  | _ => none
theorem q_and : sAnd f g env M = iteR (g env) (fun M => some (.v (.bl false), M)) (f env M) := by
  unfold sAnd iteR bnd
  cases f env M with
  | none => rfl
  | some p => obtain ⟨r, M'⟩ := p; cases r with
    | x c n => rfl
    | v d => cases d <;> rfl
theorem q_or : sOr f g env M = iteR (fun M => some (.v (.bl true), M)) (g env) (f env M) := by
  unfold sOr iteR bnd
  cases f env M with
  | none => rfl
  | some p => obtain ⟨r, M'⟩ := p; cases r with
    | x c n => rfl
    | v d => cases d <;> rfl
theorem q_ite : sIte c f g env M = iteR (f env) (g env) (c env M) := by
  unfold sIte iteR bnd
  cases c env M with
  | none => rfl
  | some p => obtain ⟨r, M'⟩ := p; cases r with
    | x c n => rfl
    | v d => cases d <;> rfl
theorem r_ite {k1 k2 : Mm → O} : iteR k1 k2 (some (.v (.bl b), M)) = if b = true then k1 M else k2 M := rfl
/-! arguments -/
noncomputable def conA (d : D) : Option (ResA × Mm) → Option (ResA × Mm)
  | some (.v ds, M2) => some (.v (d :: ds), M2)
  | some (.x c n, M2) => some (.x c n, M2)
  | none => none
noncomputable def consK (k : Mm → Option (ResA × Mm)) : O → Option (ResA × Mm)
  | some (.v d, M1) => conA d (k M1)
  | some (.x c n, M1) => some (.x c n, M1)
  | none => none
theorem q_nil : sNil env M = some (.v [], M) := rfl
theorem q_cons {fs : EA} : sCons f fs env M = consK (fs env) (f env M) := by
  unfold sCons consK
  cases f env M with
  | none => rfl
  | some p => obtain ⟨r, M'⟩ := p; cases r with
    | x c n => rfl
    | v d =>
      dsimp only
      unfold conA
      cases fs env M' with
      | none => rfl
      | some p => obtain ⟨r, M2⟩ := p; cases r <;> rfl
theorem r_cons {q : Mm → Option (ResA × Mm)} : consK q (some (.v d, M)) = conA d (q M) := rfl
theorem r_conA : conA d (some (.v ds, M)) = some (.v (d :: ds), M) := rfl
noncomputable def argR (o : List D → Option D) : Option (ResA × Mm) → O
  | some (.v ds, M) => mapR M (o (ds.map (vw M)))
  | some (.x c n, M) => some (.x c n, M)
  | none => none
theorem q_n {o : List D → Option D} {fs : EA} : sN o fs env M = argR o (fs env M) := by
  unfold sN argR bndA
  cases fs env M with
  | none => rfl
  | some p => obtain ⟨r, M'⟩ := p; cases r with
    | x c n => rfl
    | v d => dsimp only; cases o (d.map (vw M')) <;> rfl
theorem r_n {o : List D → Option D} : argR o (some (.v ds, M)) = mapR M (o (ds.map (vw M))) := rfl
noncomputable def argK (k : List D → Mm → O) : Option (ResA × Mm) → O
  | some (.v ds, M) => k ds M
  | some (.x c n, M) => some (.x c n, M)
  | none => none
theorem r_argK {q : List D → Mm → O} : argK q (some (.v ds, M)) = q ds M := rfl
theorem q_tup {fs : EA} : sTup fs env M = argK (fun ds M1 => if ds.length ≤ sizeLine then some (.v (.tup ds), M1) else none) (fs env M) := rfl
theorem q_lst {fs : EA} : sLst fs env M = argK (fun ds M1 => if ds.length ≤ sizeLine then some (.v (.lst ds), M1) else none) (fs env M) := rfl
noncomputable def callR : O → O
  | some (.v d, M) => some (.v d, M)
  | _ => none
theorem r_callR : callR (some (.v d, M)) = some (.v d, M) := rfl
theorem q_call {u : G} {fs : EA} : sCall u fs env M = argK (fun ds M1 => callR (u ds M1)) (fs env M) := by
  unfold sCall argK bndA
  cases fs env M with
  | none => rfl
  | some p => obtain ⟨r, M'⟩ := p; cases r with
    | x c n => rfl
    | v d =>
      dsimp only
      unfold callR
      cases u d M' with
      | none => rfl
      | some p => obtain ⟨r, M2⟩ := p; cases r <;> rfl
/-- a value handed on -/
noncomputable def bndK (k : D → Mm → O) : O → O
  | some (.v d, M) => k d M
  | some (.x c n, M) => some (.x c n, M)
  | none => none
theorem r_bndK {q : D → Mm → O} : bndK q (some (.v d, M)) = q d M := rfl
noncomputable def cellD (M : Mm) : D → O
  | .lst ds => some (.v (.ref M.length), M ++ [.lst ds])
  | _ => none
theorem r_cellD : cellD M (.lst ds) = some (.v (.ref M.length), M ++ [.lst ds]) := rfl
theorem q_cell : sCell f env M = bndK (fun d M1 => cellD M1 d) (f env M) := by
  unfold sCell bndK bnd
  cases f env M with
  | none => rfl
  | some p => obtain ⟨r, M'⟩ := p; cases r with
    | x c n => rfl
    | v d => cases d <;> rfl
noncomputable def listD (M : Mm) : D → O
  | .lst ds => some (.v (.lst ds), M)
  | .tup ds => some (.v (.lst ds), M)
  | _ => none
theorem r_listL : listD M (.lst ds) = some (.v (.lst ds), M) := rfl
theorem q_list : sListN f env M = bndK (fun d M1 => listD M1 (vw M1 d)) (f env M) := by
  unfold sListN bndK bnd
  cases f env M with
  | none => rfl
  | some p => obtain ⟨r, M'⟩ := p; cases r with
    | x c n => rfl
    | v d => dsimp only; cases vw M' d <;> rfl
noncomputable def srtD (M : Mm) : D → O
  | .lst ds => mapR M ((sortD ds).map .lst)
  | _ => none
theorem q_srt : sSorted f env M = bndK (fun d M1 => srtD M1 (vw M1 d)) (f env M) := by
  unfold sSorted bndK bnd
  cases f env M with
  | none => rfl
  | some p => obtain ⟨r, M'⟩ := p; cases r with
    | x c n => rfl
    | v d =>
      dsimp only
      unfold srtD
      cases vw M' d <;> try rfl
      dsimp only
      cases sortD _ <;> rfl
theorem r_srt (h : sortD ds = some es) : srtD M (.lst ds) = some (.v (.lst es), M) := by show mapR M ((sortD ds).map D.lst) = _; rw [h]; rfl
/-! slices -/
noncomputable def slH (d : D) (lo : Option Int) : Option (Option Int × Mm) → O
  | some (hi, M3) => mapR M3 (slD (vw M3 d) lo hi)
  | none => none
noncomputable def slL (d : D) (k : Mm → Option (Option Int × Mm)) : Option (Option Int × Mm) → O
  | some (lo, M2) => slH d lo (k M2)
  | none => none
theorem q_sl {l u : Env → Mm → Option (Option Int × Mm)} : sSl f l u env M = bndK (fun d M1 => slL d (u env) (l env M1)) (f env M) := by
  unfold sSl bndK bnd
  cases f env M with
  | none => rfl
  | some p => obtain ⟨r, M'⟩ := p; cases r with
    | x c n => rfl
    | v d =>
      dsimp only
      unfold slL
      cases l env M' with
      | none => rfl
      | some p =>
        obtain ⟨lo, M2⟩ := p
        dsimp only
        unfold slH
        cases u env M2 with
        | none => rfl
        | some p => obtain ⟨hi, M3⟩ := p; dsimp only; cases slD (vw M3 d) lo hi <;> rfl
theorem r_slL {lo : Option Int} {q : Mm → Option (Option Int × Mm)} : slL d q (some (lo, M)) = slH d lo (q M) := rfl
theorem r_slH {lo hi : Option Int} : slH d lo (some (hi, M)) = mapR M (slD (vw M d) lo hi) := rfl
theorem q_pno : pNo env M = some (none, M) := rfl
noncomputable def patR : O → Option (Option Int × Mm)
  | some (.v (.int i), M) => some (some i, M)
  | _ => none
theorem q_pat : pAt f env M = patR (f env M) := by
  unfold pAt patR
  cases f env M with
  | none => rfl
  | some p => obtain ⟨r, M'⟩ := p; cases r with
    | x c n => rfl
    | v d => cases d <;> rfl
theorem r_pat : patR (some (.v (.int i), M)) = some (some i, M) := rfl
/-! statements -/
noncomputable def bndT (k : D → Mm → OS) : O → OS
  | some (.v d, M) => k d M
  | some (.x c n, M) => some (.ex c n, M)
  | none => none
theorem r_bndT {q : D → Mm → OS} : bndT q (some (.v d, M)) = q d M := rfl
theorem q_asg : sAsg k f env M = bndT (fun d M1 => if k < env.length then some (.nx (env.set k (.val d)), M1) else none) (f env M) := rfl
noncomputable def mineD (k : Nat) (env : Env) (M : Mm) : D → OS
  | .lst ds => if k < env.length then some (.nx (env.set k (.own ds)), M) else none
  | _ => none
theorem r_mine : mineD k env M (.lst ds) = if k < env.length then some (.nx (env.set k (.own ds)), M) else none := rfl
theorem q_mine : sMine k f env M = bndT (fun d M1 => mineD k env M1 d) (f env M) := by
  unfold sMine bndT bndS
  cases f env M with
  | none => rfl
  | some p => obtain ⟨r, M'⟩ := p; cases r with
    | x c n => rfl
    | v d => cases d <;> rfl
theorem q_ret : sRet f env M = bndT (fun d M1 => some (.rt d, M1)) (f env M) := rfl
theorem q_retN : sRetN env M = some (.rt .non, M) := rfl
theorem q_drop : sDrop f env M = bndT (fun _ M1 => some (.nx env, M1)) (f env M) := rfl
noncomputable def ifD (s t : Mm → OS) (M : Mm) : D → OS
  | .bl b => if b = true then s M else t M
  | _ => none
theorem r_if {q r : Mm → OS} : ifD q r M (.bl b) = if b = true then q M else r M := rfl
theorem q_if : sIf c s t env M = bndT (fun d M1 => ifD (s env) (t env) M1 d) (c env M) := by
  unfold sIf bndT bndS
  cases c env M with
  | none => rfl
  | some p => obtain ⟨r, M'⟩ := p; cases r with
    | x c n => rfl
    | v d => cases d <;> rfl
noncomputable def frzR (k : Nat) (env : Env) (M : Mm) : Option Slot → OS
  | some (.own ds) => some (.nx (env.set k (.val (.lst ds))), M)
  | _ => none
theorem q_frz : sFrz k env M = frzR k env M env[k]? := by
  unfold sFrz frzR; split <;> simp_all
theorem r_frz : frzR k env M (some (.own ds)) = some (.nx (env.set k (.val (.lst ds))), M) := rfl
noncomputable def appR (k : Nat) (env : Env) (o : O) : Option Slot → OS
  | some (.own ds) => bndT (fun d M1 => if ds.length < sizeLine then some (.nx (env.set k (.own (ds ++ [d]))), M1) else none) o
  | _ => none
theorem q_app : sApp k f env M = appR k env (f env M) env[k]? := by
  unfold sApp appR
  cases env[k]? with
  | none => rfl
  | some s => cases s <;> rfl
theorem r_app {o : O} : appR k env o (some (.own ds)) = bndT (fun d M1 => if ds.length < sizeLine then some (.nx (env.set k (.own (ds ++ [d]))), M1) else none) o := rfl
theorem a_ref {ds0 : List D} {M2 : Mm} (h1 : f env M = some (.v (.ref k), M1)) (h2 : M1[k]? = some (.lst ds0)) (h3 : g env M1 = some (.v d, M2)) (h4 : M2[k]? = some (.lst ds)) (hl : ds.length < sizeLine) : sAppC f g env M = some (.nx env, M2.set k (.lst (ds ++ [d]))) := by
  simp only [sAppC, bndS, h1, h2, h3, h4, hl, if_true]
noncomputable def forR (k : Nat) (t : S) (env : Env) : Option (ResA × Mm) → OS
  | some (.v ds, M1) => loopS k t ds env M1
  | some (.x c n, M1) => some (.ex c n, M1)
  | none => none
theorem q_for {fs : EA} : sFor k fs t env M = forR k t env (fs env M) := by
  unfold sFor forR
  cases fs env M with
  | none => rfl
  | some p => obtain ⟨r, M'⟩ := p; cases r <;> rfl
theorem r_for : forR k t env (some (.v ds, M)) = loopS k t ds env M := rfl
noncomputable def lstR : O → Option (ResA × Mm)
  | some (.v (.lst ds), M1) => some (.v ds, M1)
  | some (.x c n, M1) => some (.x c n, M1)
  | _ => none
theorem q_ilst : iLst f env M = lstR (f env M) := by
  unfold iLst lstR
  cases f env M with
  | none => rfl
  | some p => obtain ⟨r, M'⟩ := p; cases r with
    | x c n => rfl
    | v d => cases d <;> rfl
theorem r_ilst : lstR (some (.v (.lst ds), M)) = some (.v ds, M) := rfl
noncomputable def rng1R : Option (ResA × Mm) → Option (ResA × Mm)
  | some (.v [.int j], M1) => if -1000000000 ≤ j ∧ j ≤ 1000000000 then some (.v ((List.range j.toNat).map fun (k : Nat) => .int (0 + k)), M1) else none
  | some (.x c n, M1) => some (.x c n, M1)
  | _ => none
theorem q_rng1 {fs : EA} : iRng1 fs env M = rng1R (fs env M) := by
  unfold iRng1 rng1R
  rfl
theorem r_rng1 (h : -1000000000 ≤ i ∧ i ≤ 1000000000) : rng1R (some (.v [.int i], M)) = some (.v ((List.range i.toNat).map fun (k : Nat) => .int (0 + k)), M) := if_pos h
theorem q_fn {m : Nat} {t : S} : fnG m t ds M = endS (t (ds.map .val ++ List.replicate (m - ds.length) .un) M) := rfl
theorem r_endR : endS (some (.rt d, M)) = some (.v d, M) := rfl
theorem r_endN {e : Env} : endS (some (.nx e, M)) = some (.v .non, M) := rfl
/-! operations -/
theorem o_addI : oAdd (.int i) (.int j) = some (.int (i + j)) := rfl
theorem o_addL : oAdd (.lst ds) (.lst es) = if ds.length + es.length ≤ sizeLine then some (.lst (ds ++ es)) else none := rfl
theorem o_sub : oSub (.int i) (.int j) = some (.int (i - j)) := rfl
theorem o_fdiv : oFdiv (.int i) (.int j) = if 0 < j ∧ j.natAbs < 1073741824 then some (.int (i / j)) else none := rfl
theorem o_mod : oMod (.int i) (.int j) = if 0 < j then some (.int (i % j)) else none := rfl
theorem o_pow : oPow (.int i) (.int j) = if 0 ≤ j ∧ j.natAbs ≤ 1000000 ∧ i.natAbs < 18446744073709551616 then some (.int (i ^ j.toNat)) else none := rfl
theorem o_neg : oNeg (.int i) = some (.int (-i)) := rfl
theorem o_lt : oCmp .lt (.int i) (.int j) = some (.bl (decide (i < j))) := rfl
theorem o_le : oCmp .le (.int i) (.int j) = some (.bl (decide (i ≤ j))) := rfl
theorem o_gt : oCmp .gt (.int i) (.int j) = some (.bl (decide (j < i))) := rfl
theorem o_ge : oCmp .ge (.int i) (.int j) = some (.bl (decide (j ≤ i))) := rfl
theorem o_eqI : oCmp .eq (.int i) (.int j) = some (.bl (decide (i = j))) := by
  show (cEq _ _).map D.bl = _
  simp [cEq, eqOk, D.flat, D.dep, D.eq]
  rw [Bool.eq_iff_iff]; simp
theorem o_neI : oCmp .ne (.int i) (.int j) = some (.bl (!decide (i = j))) := by
  show (cNe _ _).map D.bl = _
  simp [cNe, eqOk, D.flat, D.dep, D.eq]
  rw [Bool.eq_iff_iff]; simp
theorem o_eqE (h : D.deps ds ≤ 49) : oCmp .eq (.lst ds) (.lst []) = some (.bl ds.isEmpty) := by
  show (cEq _ _).map D.bl = _
  unfold cEq
  rw [if_pos ⟨by simp [eqOk, D.flat, D.dep, D.deps], by show D.deps ds + 1 ≤ 50; omega⟩]
  cases ds <;> rfl
theorem o_neE (h : D.deps ds ≤ 49) : oCmp .ne (.lst ds) (.lst []) = some (.bl (!ds.isEmpty)) := by
  show (cNe _ _).map D.bl = _
  unfold cNe
  rw [if_pos ⟨by simp [eqOk, D.flat, D.dep, D.deps], by show D.deps ds + 1 ≤ 50; omega⟩]
  cases ds <;> rfl
theorem o_eqR (h : d.dep ≤ 50) : oCmp .eq d d = some (.bl true) := by
  show (cEq d d).map D.bl = _
  unfold cEq
  rw [if_pos ⟨by simp [eqOk, h], h⟩, D.eq_refl]
  rfl
theorem o_neR (h : d.dep ≤ 50) : oCmp .ne d d = some (.bl false) := by
  show (cNe d d).map D.bl = _
  unfold cNe
  rw [if_pos ⟨by simp [eqOk, h], h⟩, D.eq_refl]
  rfl
theorem o_ixL : oIx (.lst ds) (.int i) = atI ds i := rfl
theorem o_ixT : oIx (.tup ds) (.int i) = atI ds i := rfl
theorem o_lenL : bLen [.lst ds] = some (.int ds.length) := rfl
theorem o_lenT : bLen [.tup ds] = some (.int ds.length) := rfl
theorem o_min : bMin [.int i, .int j] = some (.int (if j < i then j else i)) := rfl
theorem o_max : bMax [.int i, .int j] = some (.int (if j > i then j else i)) := rfl
theorem o_truL : truD (.lst ds) = some (!ds.isEmpty) := rfl
theorem o_truB : truD (.bl b) = some b := rfl
theorem o_slS {lo hi : Option Int} : slD (.str z) lo hi = if z.length ≤ sizeLine then some (.str (Txt.slice z lo hi)) else none := rfl
theorem o_slL {lo hi : Option Int} : slD (.lst ds) lo hi = some (.lst (cutL ds lo hi)) := rfl
theorem o_isiL {tb : String → String → Option Bool} {T : String} : isiO tb T (.lst ds) = (tb "list" T).map .bl := if_neg (show ¬ ("list" = "") by decide)
end
/-! ### loops by what holds between two turns -/
noncomputable def Step (J : Env → Mm → Prop) (Q : OS → Prop) : OS → Prop
  | some (.nx e, M) => J e M
  | some (.ct e, M) => J e M
  | some (.bk e, M) => Q (some (.nx e, M))
  | some (.rt d, M) => Q (some (.rt d, M))
  | some (.ex c n, M) => Q (some (.ex c n, M))
  | none => False
theorem loop_by {i : Nat} {body : S} {ds : List D} {env : Env} {M : Mm} (Q : OS → Prop) (J : Nat → Env → Mm → Prop) (h0 : J 0 env M)
    (hs : ∀ (k : Nat) d env M, ds[k]? = some d → J k env M → i < env.length ∧ Step (J (k + 1)) Q (body (env.set i (.val d)) M)) (hd : ∀ env M, J ds.length env M → Q (some (.nx env, M))) : Q (loopS i body ds env M) := by
  have key : ∀ (m k : Nat) (env : Env) (M : Mm), m + k = ds.length → J k env M → Q (loopS i body (ds.drop k) env M) := by
    intro m
    induction m with
    | zero =>
      intro k env M hk hJ
      have e : k = ds.length := by omega
      subst e
      rw [List.drop_length]
      exact hd env M hJ
    | succ m ih =>
      intro k env M hk hJ
      have hlt : k < ds.length := by omega
      obtain ⟨hi, h1⟩ := hs k ds[k] env M (List.getElem?_eq_getElem hlt) hJ
      rw [List.drop_eq_getElem_cons hlt]
      simp only [loopS, hi, if_true]
      cases e : body (env.set i (.val ds[k])) M with
      | none => rw [e] at h1; exact h1.elim
      | some o =>
        rw [e] at h1
        obtain ⟨o, M'⟩ := o
        cases o with
        | nx e' => exact ih (k + 1) e' M' (by omega) h1
        | ct e' => exact ih (k + 1) e' M' (by omega) h1
        | bk e' => exact h1
        | rt d => exact h1
        | ex c n => exact h1
  have := key ds.length 0 env M (by omega) h0
  rwa [List.drop_zero] at this
theorem loopC_by {i j n : Nat} {body : S} {ds : List D} {env : Env} {M : Mm} (Q : OS → Prop) (J : Nat → Env → Mm → Prop) (h0 : J 0 env M) (hn : ds.length < n) (hm : ∀ k env M, J k env M → M[j]? = some (.lst ds))
    (hs : ∀ (k : Nat) d env M, ds[k]? = some d → J k env M → i < env.length ∧ Step (J (k + 1)) Q (body (env.set i (.val d)) M)) (hd : ∀ env M, J ds.length env M → Q (some (.nx env, M))) : Q (loopC i j body n 0 env M) := by
  have key : ∀ (m k : Nat) (env : Env) (M : Mm), ds.length - k < m → k ≤ ds.length → J k env M → Q (loopC i j body m k env M) := by
    intro m
    induction m with
    | zero => intro k env M h; exact absurd h (Nat.not_lt_zero _)
    | succ m ih =>
      intro k env M hk hle hJ
      simp only [loopC, hm k env M hJ]
      cases e : ds[k]? with
      | none =>
        have : k = ds.length := Nat.le_antisymm hle (List.getElem?_eq_none_iff.mp e)
        subst this
        exact hd env M hJ
      | some d =>
        obtain ⟨hi, h1⟩ := hs k d env M e hJ
        have hlt := (List.getElem?_eq_some_iff.mp e).1
        simp only [hi, if_true]
        cases eb : body (env.set i (.val d)) M with
        | none => rw [eb] at h1; exact h1.elim
        | some o =>
          rw [eb] at h1
          obtain ⟨o, M'⟩ := o
          cases o with
          | nx e' => exact ih (k + 1) e' M' (by omega) hlt h1
          | ct e' => exact ih (k + 1) e' M' (by omega) hlt h1
          | bk e' => exact h1
          | rt d => exact h1
          | ex c n => exact h1
  exact key n 0 env M (by omega) (Nat.zero_le _) h0
end E3


namespace My
open PySem PySem.Spec PyProof.Rows L2 E3
/-! the text by places, its values, its rules (printed by tools/ev3.py) -/
noncomputable def top (i : Nat) : Stmt := PySem.Challenge.pw_rowdam_k24_chains.main.body.getD i (.Pass ⟨0, 0, 0, 0⟩)
noncomputable def blts : List Str := ["len", "sorted", "min", "range", "isinstance", "list"]
structure Txt (K : PySem.W.Frag) (mg : Str → Option Value) : Prop where
  blt : ∀ b ∈ blts, mg b = none
structure DefAt (K : PySem.W.Frag) (mg : Str → Option Value) (x : Str) (st : Stmt) (ps : List Str) (f : Addr) (fd : FuncData) : Prop where
  mg : mg x = some (.ref f)
  F : FunD K x x st f fd
  b : Binds K fd ps []
noncomputable def isiT (t T : String) : Option Bool := if t = "int" ∧ T = "list" then some false else if t = "bool" ∧ T = "list" then some false else if t = "str" ∧ T = "list" then some false else if t = "list" ∧ T = "list" then some true else if t = "tuple" ∧ T = "list" then some false else if t = "NoneType" ∧ T = "list" then some false else none
theorem j_int_list : isiT "int" "list" = some false := by decide +kernel
theorem j_bool_list : isiT "bool" "list" = some false := by decide +kernel
theorem j_str_list : isiT "str" "list" = some false := by decide +kernel
theorem j_list_list : isiT "list" "list" = some true := by decide +kernel
theorem j_tuple_list : isiT "tuple" "list" = some false := by decide +kernel
theorem j_NoneType_list : isiT "NoneType" "list" = some false := by decide +kernel
theorem isiT_ok {K : PySem.W.Frag} : ∀ t T b, isiT t T = some b → PySem.W.kitOne K (.type t) (.type T) = some b := by
  intro t T b h
  unfold isiT at h
  split at h
  · rename_i e; obtain ⟨rfl, rfl⟩ := e; cases h; kernel_rfl
  rename_i e0; clear e0
  split at h
  · rename_i e; obtain ⟨rfl, rfl⟩ := e; cases h; kernel_rfl
  rename_i e1; clear e1
  split at h
  · rename_i e; obtain ⟨rfl, rfl⟩ := e; cases h; kernel_rfl
  rename_i e2; clear e2
  split at h
  · rename_i e; obtain ⟨rfl, rfl⟩ := e; cases h; kernel_rfl
  rename_i e3; clear e3
  split at h
  · rename_i e; obtain ⟨rfl, rfl⟩ := e; cases h; kernel_rfl
  rename_i e4; clear e4
  split at h
  · rename_i e; obtain ⟨rfl, rfl⟩ := e; cases h; kernel_rfl
  rename_i e5; clear e5
  cases h
noncomputable abbrev s_chains : Stmt := top 1
theorem sc_chains : FnScope ["things", "gap", "found", "thing"] ["things", "gap"] (defScope s_chains) := ⟨rfl, rfl, rfl, by decide +kernel, rfl, by decide +kernel, by decide +kernel⟩
theorem v_chains_things : (defScope s_chains).names.lookup ("things" : Str) = some .local := by kernel_rfl
theorem v_chains_gap : (defScope s_chains).names.lookup ("gap" : Str) = some .local := by kernel_rfl
theorem v_chains_found : (defScope s_chains).names.lookup ("found" : Str) = some .local := by kernel_rfl
theorem v_chains_thing : (defScope s_chains).names.lookup ("thing" : Str) = some .local := by kernel_rfl
noncomputable def l_chains_1 : S := (sSeq (sIf (sAnd (sTru (sVar 2)) (s2 (oCmp .lt) (s2 oSub (s2 oIx (sVar 3) (sCon (.int 0))) (s2 oIx (s2 oIx (s2 oIx (sVar 2) (s1 oNeg (sCon (.int 1)))) (s1 oNeg (sCon (.int 1)))) (sCon (.int 0)))) (sVar 1))) (sSeq (sAppC (s2 oIx (sVar 2) (s1 oNeg (sCon (.int 1)))) (sVar 3)) sEnd) (sSeq (sAppC (sVar 2) (sCell (sLst (sCons (sVar 3) sNil)))) sEnd)) sEnd)
noncomputable def b_chains : S := (sSeq (sAsg 2 (sCell (sLst sNil))) (sSeq (sFor 3 (iLst (sVar 0)) l_chains_1) (sSeq (sRet (sVar 2)) sEnd)))
noncomputable def g_chains : G := fnG 4 b_chains
theorem r_chains {P : Program} {w : World} {K : PySem.W.Frag} {mg : Str → Option Value} {base : Heap} {k : Nat} {f : Addr} (T : Txt K mg) (cdv : Value) (A : Around) (outer : List PySem.Env) (s : Shared) (H : Hp) (E : XK) (hr : Room k (A.deeper (envOfC "chains" (defScope s_chains) s.heap.objs.size f cdv))) :
    SB (cx0 P w K mg base ["things", "gap", "found", "thing"] "chains" s_chains f cdv A outer s H E) W0 (defBody s_chains) b_chains := by
  have hu : (cx0 P w K mg base ["things", "gap", "found", "thing"] "chains" s_chains f cdv A outer s H E).A.units + 60 < cLine := Nat.lt_of_le_of_lt (Nat.add_le_add_left (by decide) _) hr.units
  have nd := (sc_chains).nd
  exact (sb_cons (ss_asg (i := 2) nd rfl (.inl v_chains_found) (se_cell (sn_lst sa_nil))) (sb_cons (ss_for PassesOwn.never rfl nd rfl (.inl v_chains_thing) (si_lst (se_v rfl (v_chains_things))) (sb_cons (ss_if (SW.st (sw_and (st_tru (se_v rfl (v_chains_found))) (sw_and1 (st_cmp (cp_ok hu .lt) pu_cmp (se_op op_sub pu_sub (se_ix ix_all pu_ix (se_v rfl (v_chains_thing)) (se_i pe_int)) (se_ix ix_all pu_ix (se_ix ix_all pu_ix (se_ix ix_all pu_ix (se_v rfl (v_chains_found)) (se_un un_neg pu_neg (se_i pe_int))) (se_un un_neg pu_neg (se_i pe_int))) (se_i pe_int))) (se_v rfl (v_chains_gap)))))) (sb_cons (ss_appC (se_ix ix_all pu_ix (se_v rfl (v_chains_found)) (se_un un_neg pu_neg (se_i pe_int))) (se_v rfl (v_chains_thing))) sb_nil) (sb_cons (ss_appC (se_v rfl (v_chains_found)) (se_cell (sn_lst (sa_cons (se_v rfl (v_chains_thing)) sa_nil)))) sb_nil)) sb_nil)) (sb_cons (ss_ret (se_v rfl (v_chains_found))) sb_nil)))
noncomputable abbrev s__law_cell_at : Stmt := top 3
theorem sc__law_cell_at : FnScope ["_law_script", "_law_k"] ["_law_script", "_law_k"] (defScope s__law_cell_at) := ⟨rfl, rfl, rfl, by decide +kernel, rfl, by decide +kernel, by decide +kernel⟩
theorem v__law_cell_at__law_script : (defScope s__law_cell_at).names.lookup ("_law_script" : Str) = some .local := by kernel_rfl
theorem v__law_cell_at__law_k : (defScope s__law_cell_at).names.lookup ("_law_k" : Str) = some .local := by kernel_rfl
noncomputable def b__law_cell_at : S := (sSeq (sIf (s2 (oCmp .lt) (sVar 1) (sN bLen (sCons (sVar 0) sNil))) (sSeq (sRet (s2 oIx (sVar 0) (sVar 1))) sEnd) sEnd) (sSeq (sRet (sCon (.int 0))) sEnd))
noncomputable def g__law_cell_at : G := fnG 2 b__law_cell_at
theorem r__law_cell_at {P : Program} {w : World} {K : PySem.W.Frag} {mg : Str → Option Value} {base : Heap} {k : Nat} {f : Addr} (T : Txt K mg) (cdv : Value) (A : Around) (outer : List PySem.Env) (s : Shared) (H : Hp) (E : XK) (hr : Room k (A.deeper (envOfC "_law_cell_at" (defScope s__law_cell_at) s.heap.objs.size f cdv))) :
    SB (cx0 P w K mg base ["_law_script", "_law_k"] "_law_cell_at" s__law_cell_at f cdv A outer s H E) W0 (defBody s__law_cell_at) b__law_cell_at := by
  have hu : (cx0 P w K mg base ["_law_script", "_law_k"] "_law_cell_at" s__law_cell_at f cdv A outer s H E).A.units + 60 < cLine := Nat.lt_of_le_of_lt (Nat.add_le_add_left (by decide) _) hr.units
  have nd := (sc__law_cell_at).nd
  exact (sb_cons (ss_if (st_cmp (cp_ok hu .lt) pu_cmp (se_v rfl (v__law_cell_at__law_k)) (se_cb (fun t ha => pe_callB call_lenA rfl (T.blt "len" (by decide +kernel)) PySem.boot_len ha (by decide +kernel) (by decide +kernel)) pu_len (sa_cons (se_v rfl (v__law_cell_at__law_script)) sa_nil))) (sb_cons (ss_ret (se_ix ix_all pu_ix (se_v rfl (v__law_cell_at__law_script)) (se_v rfl (v__law_cell_at__law_k)))) sb_nil) sb_nil) (sb_cons (ss_ret (se_i pe_int)) sb_nil))
noncomputable abbrev s__law_things : Stmt := top 4
theorem sc__law_things : FnScope ["_law_script", "_law_gap", "_law_time", "_law_key", "_law_found", "_law_cell"] ["_law_script", "_law_gap"] (defScope s__law_things) := ⟨rfl, rfl, rfl, by decide +kernel, rfl, by decide +kernel, by decide +kernel⟩
theorem v__law_things__law_script : (defScope s__law_things).names.lookup ("_law_script" : Str) = some .local := by kernel_rfl
theorem v__law_things__law_gap : (defScope s__law_things).names.lookup ("_law_gap" : Str) = some .local := by kernel_rfl
theorem v__law_things__law_time : (defScope s__law_things).names.lookup ("_law_time" : Str) = some .local := by kernel_rfl
theorem v__law_things__law_key : (defScope s__law_things).names.lookup ("_law_key" : Str) = some .local := by kernel_rfl
theorem v__law_things__law_found : (defScope s__law_things).names.lookup ("_law_found" : Str) = some .local := by kernel_rfl
theorem v__law_things__law_cell : (defScope s__law_things).names.lookup ("_law_cell" : Str) = some .local := by kernel_rfl
noncomputable def l__law_things_1 : S := (sSeq (sAsg 2 (sN bMin (sCons (s2 oAdd (sVar 2) (s2 oIx (sLst (sCons (sCon (.int 0)) (sCons (s2 oSub (sVar 1) (sCon (.int 1))) (sCons (sVar 1) (sCons (s2 oAdd (sVar 1) (sCon (.int 1))) (sCons (s2 oMod (s2 oFdiv (sVar 5) (sCon (.int 5))) (sCon (.int 11))) sNil)))))) (s2 oMod (sVar 5) (sCon (.int 5))))) (sCons (s2 oPow (sCon (.int 10)) (sCon (.int 12))) sNil)))) (sSeq (sApp 4 (sTup (sCons (sVar 2) (sCons (sVar 3) (sCons (s2 oSub (s2 oMod (s2 oFdiv (sVar 5) (sCon (.int 55))) (sCon (.int 41))) (sCon (.int 20))) sNil))))) sEnd))
noncomputable def b__law_things : S := (sSeq (sAsg 2 (s2 oMod (sCall g__law_cell_at (sCons (sVar 0) (sCons (sCon (.int 1)) sNil))) (sCon (.int 30)))) (sSeq (sAsg 3 (sSl (sSl (sCon (.str "pqrstuvwxyz")) (pAt (s2 oMod (s2 oFdiv (sCall g__law_cell_at (sCons (sVar 0) (sCons (sCon (.int 1)) sNil))) (sCon (.int 30))) (sCon (.int 7)))) pNo) pNo (pAt (s2 oAdd (s2 oMod (s2 oFdiv (sCall g__law_cell_at (sCons (sVar 0) (sCons (sCon (.int 1)) sNil))) (sCon (.int 210))) (sCon (.int 4))) (sCon (.int 1)))))) (sSeq (sMine 4 (sLst sNil)) (sSeq (sFor 5 (iLst (sSl (sVar 0) (pAt (sCon (.int 2))) (pAt (sCon (.int 20))))) l__law_things_1) (sSeq (sFrz 4) (sSeq (sRet (sSorted (sVar 4))) sEnd))))))
noncomputable def g__law_things : G := fnG 6 b__law_things
theorem r__law_things {P : Program} {w : World} {K : PySem.W.Frag} {mg : Str → Option Value} {base : Heap} {k : Nat} {f : Addr} (T : Txt K mg) (a__law_cell_at : AtG P w K mg base k "_law_cell_at" 2 g__law_cell_at) (cdv : Value) (A : Around) (outer : List PySem.Env) (s : Shared) (H : Hp) (E : XK) (hr : Room k (A.deeper (envOfC "_law_things" (defScope s__law_things) s.heap.objs.size f cdv))) :
    SB (cx0 P w K mg base ["_law_script", "_law_gap", "_law_time", "_law_key", "_law_found", "_law_cell"] "_law_things" s__law_things f cdv A outer s H E) W0 (defBody s__law_things) b__law_things := by
  have hu : (cx0 P w K mg base ["_law_script", "_law_gap", "_law_time", "_law_key", "_law_found", "_law_cell"] "_law_things" s__law_things f cdv A outer s H E).A.units + 60 < cLine := Nat.lt_of_le_of_lt (Nat.add_le_add_left (by decide) _) hr.units
  have nd := (sc__law_things).nd
  exact (sb_cons (ss_asg (i := 2) nd rfl (.inl v__law_things__law_time) (se_op op_mod pu_mod (se_call a__law_cell_at hr rfl (sa_cons (se_v rfl (v__law_things__law_script)) (sa_cons (se_i pe_int) sa_nil)) (cnt_cons (cnt_cons cnt_nil))) (se_i pe_int))) (sb_cons (ss_asg (i := 3) nd rfl (.inl v__law_things__law_key) (se_sl (se_sl (se_s pe_str) (sp_at (Wx := W0) (se_op op_mod pu_mod (se_op op_fdiv pu_fdiv (se_call a__law_cell_at hr rfl (sa_cons (se_v rfl (v__law_things__law_script)) (sa_cons (se_i pe_int) sa_nil)) (cnt_cons (cnt_cons cnt_nil))) (se_i pe_int)) (se_i pe_int))) sp_no) sp_no (sp_at (Wx := W0) (se_op op_addA pu_add (se_op op_mod pu_mod (se_op op_fdiv pu_fdiv (se_call a__law_cell_at hr rfl (sa_cons (se_v rfl (v__law_things__law_script)) (sa_cons (se_i pe_int) sa_nil)) (cnt_cons (cnt_cons cnt_nil))) (se_i pe_int)) (se_i pe_int)) (se_i pe_int))))) (sb_cons (ss_mine (i := 4) nd rfl (.inl v__law_things__law_found) (sn_lst sa_nil)) (sb_cons (ss_for PassesOwn.never rfl nd rfl (.inl v__law_things__law_cell) (si_lst (se_sl (se_v rfl (v__law_things__law_script)) (sp_at (Wx := W0) (se_i pe_int)) (sp_at (Wx := W0) (se_i pe_int)))) (sb_cons (ss_asg (i := 2) nd rfl (.inl v__law_things__law_time) (se_cb (fun t ha => pe_callB (call_min2 rfl) rfl (T.blt "min" (by decide +kernel)) boot_min ha (by decide +kernel) (by decide +kernel)) pu_min (sa_cons (se_op op_addA pu_add (se_v rfl (v__law_things__law_time)) (se_ix ix_all pu_ix (SN.sem (sn_lst (sa_cons (se_i pe_int) (sa_cons (se_op op_sub pu_sub (se_v rfl (v__law_things__law_gap)) (se_i pe_int)) (sa_cons (se_v rfl (v__law_things__law_gap)) (sa_cons (se_op op_addA pu_add (se_v rfl (v__law_things__law_gap)) (se_i pe_int)) (sa_cons (se_op op_mod pu_mod (se_op op_fdiv pu_fdiv (se_v rfl (v__law_things__law_cell)) (se_i pe_int)) (se_i pe_int)) sa_nil)))))) lst_is) (se_op op_mod pu_mod (se_v rfl (v__law_things__law_cell)) (se_i pe_int)))) (sa_cons (se_op op_pow pu_pow (se_i pe_int) (se_i pe_int)) sa_nil)))) (sb_cons (ss_app rfl (.inl v__law_things__law_found) (se_tup (sa_cons (se_v rfl (v__law_things__law_time)) (sa_cons (se_v rfl (v__law_things__law_key)) (sa_cons (se_op op_sub pu_sub (se_op op_mod pu_mod (se_op op_fdiv pu_fdiv (se_v rfl (v__law_things__law_cell)) (se_i pe_int)) (se_i pe_int)) (se_i pe_int)) sa_nil))))) sb_nil))) (sb_frz (sb_cons (ss_ret (SN.sem (sn_sorted rfl (T.blt "sorted" (by decide +kernel)) (se_v rfl (v__law_things__law_found))) sorted_is)) sb_nil))))))
noncomputable abbrev s__law_right : Stmt := top 5
theorem sc__law_right : FnScope ["_law_found", "_law_things_here", "_law_gap", "_law_laid", "_law_chain", "_law_k"] ["_law_found", "_law_things_here", "_law_gap"] (defScope s__law_right) := ⟨rfl, rfl, rfl, by decide +kernel, rfl, by decide +kernel, by decide +kernel⟩
theorem v__law_right__law_found : (defScope s__law_right).names.lookup ("_law_found" : Str) = some .local := by kernel_rfl
theorem v__law_right__law_things_here : (defScope s__law_right).names.lookup ("_law_things_here" : Str) = some .local := by kernel_rfl
theorem v__law_right__law_gap : (defScope s__law_right).names.lookup ("_law_gap" : Str) = some .local := by kernel_rfl
theorem v__law_right__law_laid : (defScope s__law_right).names.lookup ("_law_laid" : Str) = some .local := by kernel_rfl
theorem v__law_right__law_chain : (defScope s__law_right).names.lookup ("_law_chain" : Str) = some .local := by kernel_rfl
theorem v__law_right__law_k : (defScope s__law_right).names.lookup ("_law_k" : Str) = some .local := by kernel_rfl
noncomputable def l__law_right_1 : S := (sSeq (sIf (sAnd (s2 (oCmp .gt) (sVar 5) (sCon (.int 0))) (s2 (oCmp .ge) (s2 oSub (s2 oIx (s2 oIx (sVar 4) (sVar 5)) (sCon (.int 0))) (s2 oIx (s2 oIx (sVar 4) (s2 oSub (sVar 5) (sCon (.int 1)))) (sCon (.int 0)))) (sVar 2))) (sSeq (sRet (sCon (.bl false))) sEnd) sEnd) (sSeq (sIf (sAnd (s2 (oCmp .eq) (sVar 5) (sCon (.int 0))) (sAnd (s2 (oCmp .ne) (sVarB 3) (sLst sNil)) (s2 (oCmp .lt) (s2 oSub (s2 oIx (s2 oIx (sVar 4) (sCon (.int 0))) (sCon (.int 0))) (s2 oIx (s2 oIx (sVarB 3) (s1 oNeg (sCon (.int 1)))) (sCon (.int 0)))) (sVar 2)))) (sSeq (sRet (sCon (.bl false))) sEnd) sEnd) (sSeq (sApp 3 (s2 oIx (sVar 4) (sVar 5))) sEnd)))
noncomputable def l__law_right_2 : S := (sSeq (sIf (sOr (sNot (sTru (s1 (isiO isiT "list") (sVar 4)))) (s2 (oCmp .eq) (sVar 4) (sLst sNil))) (sSeq (sRet (sCon (.bl false))) sEnd) sEnd) (sSeq (sFor 5 (iRng1 (sCons (sN bLen (sCons (sVar 4) sNil)) sNil)) l__law_right_1) sEnd))
noncomputable def b__law_right : S := (sSeq (sIf (sNot (sTru (s1 (isiO isiT "list") (sVar 0)))) (sSeq (sRet (sCon (.bl false))) sEnd) sEnd) (sSeq (sMine 3 (sLst sNil)) (sSeq (sForC 1000 4 (sVar 0) l__law_right_2) (sSeq (sFrz 3) (sSeq (sRet (s2 (oCmp .eq) (sVar 3) (sVar 1))) sEnd)))))
noncomputable def g__law_right : G := fnG 6 b__law_right
theorem r__law_right {P : Program} {w : World} {K : PySem.W.Frag} {mg : Str → Option Value} {base : Heap} {k : Nat} {f : Addr} (T : Txt K mg) (cdv : Value) (A : Around) (outer : List PySem.Env) (s : Shared) (H : Hp) (E : XK) (hr : Room k (A.deeper (envOfC "_law_right" (defScope s__law_right) s.heap.objs.size f cdv))) :
    SB (cx0 P w K mg base ["_law_found", "_law_things_here", "_law_gap", "_law_laid", "_law_chain", "_law_k"] "_law_right" s__law_right f cdv A outer s H E) W0 (defBody s__law_right) b__law_right := by
  have hu : (cx0 P w K mg base ["_law_found", "_law_things_here", "_law_gap", "_law_laid", "_law_chain", "_law_k"] "_law_right" s__law_right f cdv A outer s H E).A.units + 60 < cLine := Nat.lt_of_le_of_lt (Nat.add_le_add_left (by decide) _) hr.units
  have nd := (sc__law_right).nd
  exact (sb_cons (ss_if (st_not (st_tru (se_isi (T := "list") (fun t b h => isiT_ok t "list" b h) (se_v rfl (v__law_right__law_found)) rfl (T.blt "isinstance" (by decide +kernel)) rfl (T.blt "list" (by decide +kernel)) boot_list))) (sb_cons (ss_ret (se_b pe_bl)) sb_nil) sb_nil) (sb_cons (ss_mine (i := 3) nd rfl (.inl v__law_right__law_laid) (sn_lst sa_nil)) (sb_cons (ss_forC 1000 PassesOwn.never rfl nd rfl (.inl v__law_right__law_chain) (se_v rfl (v__law_right__law_found)) (sb_cons (ss_if (SW.st (sw_or (st_not (st_tru (se_isi (T := "list") (fun t b h => isiT_ok t "list" b h) (se_v rfl (v__law_right__law_chain)) rfl (T.blt "isinstance" (by decide +kernel)) rfl (T.blt "list" (by decide +kernel)) boot_list))) (sw_or1 (st_cmp (cp_ok hu .eq) pu_cmp (se_v rfl (v__law_right__law_chain)) (SN.sem (sn_lst sa_nil) lst_is))))) (sb_cons (ss_ret (se_b pe_bl)) sb_nil) sb_nil) (sb_cons (ss_for PassesOwn.never rfl nd rfl (.inl v__law_right__law_k) (si_rng1 rfl (T.blt "range" (by decide +kernel)) (sa_cons (se_cb (fun t ha => pe_callB call_lenA rfl (T.blt "len" (by decide +kernel)) PySem.boot_len ha (by decide +kernel) (by decide +kernel)) pu_len (sa_cons (se_v rfl (v__law_right__law_chain)) sa_nil)) sa_nil)) (sb_cons (ss_if (SW.st (sw_and (st_cmp (cp_ok hu .gt) pu_cmp (se_v rfl (v__law_right__law_k)) (se_i pe_int)) (sw_and1 (st_cmp (cp_ok hu .ge) pu_cmp (se_op op_sub pu_sub (se_ix ix_all pu_ix (se_ix ix_all pu_ix (se_v rfl (v__law_right__law_chain)) (se_v rfl (v__law_right__law_k))) (se_i pe_int)) (se_ix ix_all pu_ix (se_ix ix_all pu_ix (se_v rfl (v__law_right__law_chain)) (se_op op_sub pu_sub (se_v rfl (v__law_right__law_k)) (se_i pe_int))) (se_i pe_int))) (se_v rfl (v__law_right__law_gap)))))) (sb_cons (ss_ret (se_b pe_bl)) sb_nil) sb_nil) (sb_cons (ss_if (SW.st (sw_and (st_cmp (cp_ok hu .eq) pu_cmp (se_v rfl (v__law_right__law_k)) (se_i pe_int)) (sw_and (st_cmp (cp_ok hu .ne) pu_cmp (se_vb rfl (v__law_right__law_laid)) (SN.sem (sn_lst sa_nil) lst_is)) (sw_and1 (st_cmp (cp_ok hu .lt) pu_cmp (se_op op_sub pu_sub (se_ix ix_all pu_ix (se_ix ix_all pu_ix (se_v rfl (v__law_right__law_chain)) (se_i pe_int)) (se_i pe_int)) (se_ix ix_all pu_ix (se_ix ix_all pu_ix (se_vb rfl (v__law_right__law_laid)) (se_un un_neg pu_neg (se_i pe_int))) (se_i pe_int))) (se_v rfl (v__law_right__law_gap))))))) (sb_cons (ss_ret (se_b pe_bl)) sb_nil) sb_nil) (sb_cons (ss_app rfl (.inl v__law_right__law_laid) (se_ix ix_all pu_ix (se_v rfl (v__law_right__law_chain)) (se_v rfl (v__law_right__law_k)))) sb_nil)))) sb_nil))) (sb_frz (sb_cons (ss_ret (se_cmp (cp_ok hu .eq) pu_cmp (se_v rfl (v__law_right__law_laid)) (se_v rfl (v__law_right__law_things_here)))) sb_nil)))))
noncomputable abbrev s_law : Stmt := top 6
theorem sc_law : FnScope ["_law_script", "_law_gap", "_law_things_here", "_law_handed", "_law_found", "_law_chain"] ["_law_script"] (defScope s_law) := ⟨rfl, rfl, rfl, by decide +kernel, rfl, by decide +kernel, by decide +kernel⟩
theorem v_law__law_script : (defScope s_law).names.lookup ("_law_script" : Str) = some .local := by kernel_rfl
theorem v_law__law_gap : (defScope s_law).names.lookup ("_law_gap" : Str) = some .local := by kernel_rfl
theorem v_law__law_things_here : (defScope s_law).names.lookup ("_law_things_here" : Str) = some .local := by kernel_rfl
theorem v_law__law_handed : (defScope s_law).names.lookup ("_law_handed" : Str) = some .local := by kernel_rfl
theorem v_law__law_found : (defScope s_law).names.lookup ("_law_found" : Str) = some .local := by kernel_rfl
theorem v_law__law_chain : (defScope s_law).names.lookup ("_law_chain" : Str) = some .local := by kernel_rfl
noncomputable def l_law_1 : S := (sSeq (sAppC (sVar 5) (sTup (sCons (sCon (.int 0)) (sCons (sCon (.str "a")) (sCons (sCon (.int 0)) sNil))))) sEnd)
noncomputable def b_law : S := (sSeq (sAsg 1 (s2 oAdd (sCon (.int 1)) (s2 oMod (s2 oFdiv (sCall g__law_cell_at (sCons (sVar 0) (sCons (sCon (.int 0)) sNil))) (sCon (.int 4))) (sCon (.int 9))))) (sSeq (sIf (s2 (oCmp .eq) (s2 oMod (sCall g__law_cell_at (sCons (sVar 0) (sCons (sCon (.int 0)) sNil))) (sCon (.int 4))) (sCon (.int 3))) (sSeq (sAsg 1 (s2 oAdd (sCon (.int 1)) (s2 oMod (s2 oFdiv (sCall g__law_cell_at (sCons (sVar 0) (sCons (sCon (.int 0)) sNil))) (sCon (.int 4))) (s2 oPow (sCon (.int 10)) (sCon (.int 12)))))) sEnd) sEnd) (sSeq (sAsg 2 (sCall g__law_things (sCons (sVar 0) (sCons (sVar 1) sNil)))) (sSeq (sAsg 3 (sListN (sVar 2))) (sSeq (sAsg 4 (sCall g_chains (sCons (sVar 3) (sCons (sVar 1) sNil)))) (sSeq (sIf (sOr (s2 (oCmp .ne) (sVar 3) (sVar 2)) (sNot (sTru (sCall g__law_right (sCons (sVar 4) (sCons (sVar 2) (sCons (sVar 1) sNil))))))) (sSeq (sRet (sCon (.bl false))) sEnd) sEnd) (sSeq (sForC 1000 5 (sVar 4) l_law_1) (sSeq (sAppC (sVar 4) (sCell (sLst sNil))) (sSeq (sRet (sAnd (s2 (oCmp .eq) (sVar 3) (sVar 2)) (sCall g__law_right (sCons (sCall g_chains (sCons (sVar 3) (sCons (sVar 1) sNil))) (sCons (sVar 2) (sCons (sVar 1) sNil)))))) sEnd)))))))))
noncomputable def g_law : G := fnG 6 b_law
theorem r_law {P : Program} {w : World} {K : PySem.W.Frag} {mg : Str → Option Value} {base : Heap} {k : Nat} {f : Addr} (T : Txt K mg) (a_chains : AtG P w K mg base k "chains" 2 g_chains) (a__law_cell_at : AtG P w K mg base k "_law_cell_at" 2 g__law_cell_at) (a__law_things : AtG P w K mg base k "_law_things" 2 g__law_things) (a__law_right : AtG P w K mg base k "_law_right" 3 g__law_right) (cdv : Value) (A : Around) (outer : List PySem.Env) (s : Shared) (H : Hp) (E : XK) (hr : Room k (A.deeper (envOfC "law" (defScope s_law) s.heap.objs.size f cdv))) :
    SB (cx0 P w K mg base ["_law_script", "_law_gap", "_law_things_here", "_law_handed", "_law_found", "_law_chain"] "law" s_law f cdv A outer s H E) W0 (defBody s_law) b_law := by
  have hu : (cx0 P w K mg base ["_law_script", "_law_gap", "_law_things_here", "_law_handed", "_law_found", "_law_chain"] "law" s_law f cdv A outer s H E).A.units + 60 < cLine := Nat.lt_of_le_of_lt (Nat.add_le_add_left (by decide) _) hr.units
  have nd := (sc_law).nd
  exact (sb_cons (ss_asg (i := 1) nd rfl (.inl v_law__law_gap) (se_op op_addA pu_add (se_i pe_int) (se_op op_mod pu_mod (se_op op_fdiv pu_fdiv (se_call a__law_cell_at hr rfl (sa_cons (se_v rfl (v_law__law_script)) (sa_cons (se_i pe_int) sa_nil)) (cnt_cons (cnt_cons cnt_nil))) (se_i pe_int)) (se_i pe_int)))) (sb_cons (ss_if (st_cmp (cp_ok hu .eq) pu_cmp (se_op op_mod pu_mod (se_call a__law_cell_at hr rfl (sa_cons (se_v rfl (v_law__law_script)) (sa_cons (se_i pe_int) sa_nil)) (cnt_cons (cnt_cons cnt_nil))) (se_i pe_int)) (se_i pe_int)) (sb_cons (ss_asg (i := 1) nd rfl (.inl v_law__law_gap) (se_op op_addA pu_add (se_i pe_int) (se_op op_mod pu_mod (se_op op_fdiv pu_fdiv (se_call a__law_cell_at hr rfl (sa_cons (se_v rfl (v_law__law_script)) (sa_cons (se_i pe_int) sa_nil)) (cnt_cons (cnt_cons cnt_nil))) (se_i pe_int)) (se_op op_pow pu_pow (se_i pe_int) (se_i pe_int))))) sb_nil) sb_nil) (sb_cons (ss_asg (i := 2) nd rfl (.inl v_law__law_things_here) (se_call a__law_things hr rfl (sa_cons (se_v rfl (v_law__law_script)) (sa_cons (se_v rfl (v_law__law_gap)) sa_nil)) (cnt_cons (cnt_cons cnt_nil)))) (sb_cons (ss_asg (i := 3) nd rfl (.inl v_law__law_handed) (SN.sem (sn_list rfl (T.blt "list" (by decide +kernel)) (se_v rfl (v_law__law_things_here))) list_is)) (sb_cons (ss_asg (i := 4) nd rfl (.inl v_law__law_found) (se_call a_chains hr rfl (sa_cons (se_v rfl (v_law__law_handed)) (sa_cons (se_v rfl (v_law__law_gap)) sa_nil)) (cnt_cons (cnt_cons cnt_nil)))) (sb_cons (ss_if (SW.st (sw_or (st_cmp (cp_ok hu .ne) pu_cmp (se_v rfl (v_law__law_handed)) (se_v rfl (v_law__law_things_here))) (sw_or1 (st_not (st_tru (se_call a__law_right hr rfl (sa_cons (se_v rfl (v_law__law_found)) (sa_cons (se_v rfl (v_law__law_things_here)) (sa_cons (se_v rfl (v_law__law_gap)) sa_nil))) (cnt_cons (cnt_cons (cnt_cons cnt_nil))))))))) (sb_cons (ss_ret (se_b pe_bl)) sb_nil) sb_nil) (sb_cons (ss_forC 1000 PassesOwn.never rfl nd rfl (.inl v_law__law_chain) (se_v rfl (v_law__law_found)) (sb_cons (ss_appC (se_v rfl (v_law__law_chain)) (se_tup (sa_cons (se_i pe_int) (sa_cons (se_s pe_str) (sa_cons (se_i pe_int) sa_nil))))) sb_nil)) (sb_cons (ss_appC (se_v rfl (v_law__law_found)) (se_cell (sn_lst sa_nil))) (sb_cons (ss_ret (se_and (se_cmp (cp_ok hu .eq) pu_cmp (se_v rfl (v_law__law_handed)) (se_v rfl (v_law__law_things_here))) (se_one (se_call a__law_right hr rfl (sa_cons (se_call a_chains hr rfl (sa_cons (se_v rfl (v_law__law_handed)) (sa_cons (se_v rfl (v_law__law_gap)) sa_nil)) (cnt_cons (cnt_cons cnt_nil))) (sa_cons (se_v rfl (v_law__law_things_here)) (sa_cons (se_v rfl (v_law__law_gap)) sa_nil))) (cnt_cons (cnt_cons (cnt_cons cnt_nil))))))) sb_nil)))))))))
noncomputable def lawK : Nat := 3
noncomputable def lawG : G := g_law

--CELL chains []
--CELL chains [thing]
--CELL law []
--CELLVAR chains found
--CELLVAR law _law_found
--CELLVAR law _law_chain
--CELLVAR _law_right _law_found
--FUEL 1000
local macro_rules | `(tactic| walk_at "all") => `(tactic| try simp only [q_seq, r_nx, r_rt, r_bk, r_ct, r_ex, q_end, q_v, q_vb, r_v, r_vb, r_vo, q_con, r_map, q_1, r_1, q_2, r_2, r_2s, w_int, w_str, w_bl, w_non, w_tup, w_lst, q_tru, q_notv, q_not, r_not, q_and, q_or, q_ite, r_ite, q_nil, q_cons, r_cons, r_conA, q_n, r_n, r_argK, q_tup, q_lst, r_callR, q_call, r_bndK, r_cellD, q_cell, r_listL, q_list, q_srt, q_sl, r_slL, r_slH, q_pno, q_pat, r_pat, r_bndT, q_asg, r_mine, q_mine, q_ret, q_retN, q_drop, r_if, q_if, q_frz, r_frz, q_app, r_app, q_for, r_for, q_ilst, r_ilst, q_rng1, q_fn, r_endR, r_endN, o_addI, o_addL, o_sub, o_fdiv, o_mod, o_pow, o_neg, o_lt, o_le, o_gt, o_ge, o_eqI, o_neI, o_ixL, o_ixT, o_lenL, o_lenT, o_min, o_max, o_truL, o_truB, o_slS, o_slL, o_isiL, j_list_list, sizeLine_eq, Option.map_some, Option.map_none, List.getElem?_cons_zero, List.getElem?_cons_succ, List.set_cons_zero, List.set_cons_succ, List.map_cons, List.map_nil, List.length_cons, List.length_nil, List.length_map, List.replicate, List.cons_append, List.nil_append, List.append_nil, reduceCtorEq, if_true, if_false, reduceIte, Bool.not_true, Bool.not_false, Nat.reduceSub, Nat.reduceAdd, Nat.reduceLeDiff, Nat.reduceLT, Int.reduceLT, Int.reduceLE, Int.reduceAdd, Int.reduceSub, Int.reduceMul, Int.reduceNeg, Int.reduceAbs, Int.reduceEq, Int.reducePow, Int.reduceMod, Int.reduceDiv, Int.reduceToNat, Nat.zero_le, and_true, true_and, and_self, or_true, true_or, Bool.false_eq_true, decide_eq_true_eq, decide_true, decide_false, Bool.not_eq_true', decide_eq_false_iff_not, not_true_eq_false, not_false_eq_true, eq_self])
theorem g_cell {ns : List Int} {k : Int} {M : Mm} (hk : 0 ≤ k) : g__law_cell_at [.lst (ns.map .int), .int k] M = some (.v (.int (ns.getD k.toNat 0)), M) := by
  unfold g__law_cell_at b__law_cell_at
  walk_at "all"
  by_cases h : k < (ns.length : Int)
  · rw [if_pos h]
    walk_at "all"
    have e : atI (ns.map D.int) k = some (.int (ns.getD k.toNat 0)) := by
      obtain ⟨j, rfl⟩ : ∃ j : Nat, k = j := ⟨k.toNat, by omega⟩
      refine atI_nat ?_
      have : j < ns.length := by omega
      rw [List.getElem?_map, List.getElem?_eq_getElem this]
      simp [List.getD, this]
    rw [e]
    walk_at "all"
  · rw [if_neg h]
    walk_at "all"
    simp [List.getD, List.getElem?_eq_none (show ns.length ≤ k.toNat by omega)]
/-- a thing: time, key, value -/
noncomputable def th (z : Str) (d : D) : Prop := ∃ t v : Int, d = .tup [.int t, .str z, .int v]
theorem ix5 {a b c d e : D} {x : Int} : ∃ y ∈ [a, b, c, d, e], atI [a, b, c, d, e] (x % 5) = some y := by
  have h : x % 5 = 0 ∨ x % 5 = 1 ∨ x % 5 = 2 ∨ x % 5 = 3 ∨ x % 5 = 4 := by omega
  rcases h with h | h | h | h | h <;> rw [h]
  · exact ⟨a, by simp, atI_nat (j := 0) rfl⟩
  · exact ⟨b, by simp, atI_nat (j := 1) rfl⟩
  · exact ⟨c, by simp, atI_nat (j := 2) rfl⟩
  · exact ⟨d, by simp, atI_nat (j := 3) rfl⟩
  · exact ⟨e, by simp, atI_nat (j := 4) rfl⟩
theorem t_things {s0 : Slot} {gap t c : Int} {z : Str} {ds : List D} {M : Mm} (hl : ds.length ≤ 100) : ∃ (t' : Int) (d : D), th z d ∧ l__law_things_1 [s0, .val (.int gap), .val (.int t), .val (.str z), .own ds, .val (.int c)] M = some (.nx [s0, .val (.int gap), .val (.int t'), .val (.str z), .own (ds ++ [d]), .val (.int c)], M) := by
  unfold l__law_things_1
  walk_at "all"
  obtain ⟨y, hy, ey⟩ := ix5 (a := .int 0) (b := .int (gap - 1)) (c := .int gap) (d := .int (gap + 1)) (e := .int (c / 5 % 11)) (x := c)
  rw [ey]
  obtain ⟨i, rfl⟩ : ∃ i, y = .int i := by
    simp only [List.mem_cons, List.not_mem_nil, or_false] at hy
    rcases hy with rfl | rfl | rfl | rfl | rfl <;> exact ⟨_, rfl⟩
  walk_at "all"
  rw [if_pos (by omega)]
  walk_at "all"
  exact ⟨_, _, ⟨_, _, rfl⟩, rfl⟩
theorem sl_len (z : Str) (a b : Option Int) (h : z.length ≤ 100) : (Txt.slice z a b).length ≤ 100 := Nat.le_trans (Txt.slice_le z a b) h
theorem ltD_th {z : Str} {ds : List D} (h : ∀ d ∈ ds, th z d) (i j : Nat) (hi : i < ds.length) (hj : j < ds.length) : ∃ b, ltD ds i j = some b := by
  obtain ⟨t, v, e⟩ := h ds[i] (List.getElem_mem hi)
  obtain ⟨t', v', e'⟩ := h ds[j] (List.getElem_mem hj)
  unfold ltD
  rw [List.getD_eq_getElem?_getD, List.getElem?_eq_getElem hi, List.getD_eq_getElem?_getD, List.getElem?_eq_getElem hj, Option.getD_some, Option.getD_some, e, e']
  simp only [ltT, if_true]
  split
  · split
    · exact ⟨_, rfl⟩
    · exact ⟨_, rfl⟩
  · exact ⟨_, rfl⟩
theorem cut_len {α : Type} (xs : List α) : (cutL xs (some 2) (some 20)).length ≤ 18 := by
  unfold cutL
  rw [List.length_take]
  have : HT.sIx xs.length xs.length (some 20) - HT.sIx xs.length 0 (some 2) ≤ 18 := by
    simp [HT.sIx]
    omega
  omega
theorem cut_map {α β : Type} (f : α → β) (xs : List α) (lo hi : Option Int) : cutL (xs.map f) lo hi = (cutL xs lo hi).map f := by
  unfold cutL
  rw [List.length_map, ← List.map_drop, ← List.map_take]
theorem g_things {ns : List Int} {gap : Int} {M : Mm} : ∃ (es : List D) (z : Str), g__law_things [.lst (ns.map .int), .int gap] M = some (.v (.lst es), M) ∧ es.length ≤ 18 ∧ ∀ d ∈ es, th z d := by
  have hz := sl_len (Str.ofString "pqrstuvwxyz")
  unfold g__law_things b__law_things
  walk_at "all"
  have gc := fun M => g_cell (ns := ns) (k := 1) (M := M) (by omega)
  simp only [gc]
  walk_at "all"
  simp only [gc]
  walk_at "all"
  rw [if_pos (show (Str.ofString "pqrstuvwxyz").length ≤ 16777216 by decide +kernel)]
  walk_at "all"
  generalize ns.getD 1 0 = c
  rw [if_pos (by have := hz (some (c / 30 % 7)) none (by decide +kernel); omega)]
  walk_at "all"
  generalize Txt.slice (Txt.slice (Str.ofString "pqrstuvwxyz") (some (c / 30 % 7)) none) none _ = z
  rw [cut_map]
  have hc := cut_len ns
  generalize cutL ns (some 2) (some 20) = cs at *
  refine loop_by (Q := fun o => ∃ (es : List D) (z : Str), endS (seqR _ o) = some (.v (.lst es), M) ∧ es.length ≤ 18 ∧ ∀ d ∈ es, th z d) (fun k env M' => M' = M ∧ ∃ (s0 : E3.Slot) (t : Int) (ds : List D) (s5 : E3.Slot), env = [s0, .val (.int gap), .val (.int t), .val (.str z), .own ds, s5] ∧ ds.length = k ∧ ∀ d ∈ ds, th z d) ?_ ?_ ?_
  · exact ⟨rfl, _, _, [], _, rfl, rfl, fun d h => nomatch h⟩
  · rintro k d env M' hd ⟨rfl, s0, t, ds, s5, rfl, hl, ht⟩
    refine ⟨by simp, ?_⟩
    rw [List.getElem?_map, Option.map_eq_some_iff] at hd
    obtain ⟨x, hx, rfl⟩ := hd
    have kl := (List.getElem?_eq_some_iff.mp hx).1
    obtain ⟨t', d, hd, e⟩ := t_things (s0 := s0) (gap := gap) (t := t) (c := x) (z := z) (ds := ds) (M := M') (by omega)
    simp only [List.set_cons_zero, List.set_cons_succ]
    rw [e]
    refine ⟨rfl, s0, t', ds ++ [d], _, rfl, by rw [List.length_append, hl]; rfl, fun y hy => ?_⟩
    rcases List.mem_append.mp hy with h | h
    · exact ht y h
    · rw [List.mem_singleton.mp h]; exact hd
  · rintro env M' ⟨rfl, s0, t, ds, s5, rfl, hl, ht⟩
    rw [List.length_map] at hl
    obtain ⟨es, e1, e2, e3⟩ := sort_mem (ds := ds) (by omega) (List.all_eq_true.mpr fun d hd => by obtain ⟨t, v, rfl⟩ := ht d hd; rfl) (ltD_th ht)
    walk_at "all"
    rw [r_srt e1]
    walk_at "all"
    exact ⟨es, z, rfl, by omega, fun d hd => ht d (e3 d hd)⟩
noncomputable def tm : D → Int
  | .tup (.int t :: _) => t
  | _ => 0
noncomputable def refs (b n : Nat) : List D := (List.range n).map fun i => .ref (b + 1 + i)
noncomputable def mk (M : Mm) (chs : List (List D)) : Mm := M ++ .lst (refs M.length chs.length) :: chs.map .lst
theorem mk_len (M : Mm) (chs : List (List D)) : (mk M chs).length = M.length + 1 + chs.length := by
  simp only [mk, List.length_append, List.length_cons, List.length_map]
  omega
theorem mk_b (M : Mm) (chs : List (List D)) : (mk M chs)[M.length]? = some (.lst (refs M.length chs.length)) := by
  unfold mk
  rw [List.getElem?_append_right (Nat.le_refl _), Nat.sub_self]
  rfl
theorem mk_c {M : Mm} {chs : List (List D)} {i : Nat} {c : List D} (h : chs[i]? = some c) : (mk M chs)[M.length + 1 + i]? = some (.lst c) := by
  unfold mk
  rw [List.getElem?_append_right (by omega), show M.length + 1 + i - M.length = i + 1 by omega, List.getElem?_cons_succ, List.getElem?_map, h]
  rfl
theorem mk_new (M : Mm) (chs : List (List D)) (c : List D) : (mk M chs ++ [Cl.lst c]).set M.length (Cl.lst (refs M.length chs.length ++ [D.ref (M.length + 1 + chs.length)])) = mk M (chs ++ [c]) := by
  unfold mk
  rw [List.append_assoc, List.cons_append, List.set_append_right _ _ (Nat.le_refl _), Nat.sub_self, List.set_cons_zero, List.map_append, List.length_append]
  congr 1
  congr 1
  unfold refs
  simp [List.range_succ]
theorem mk_app (M : Mm) (pre : List (List D)) (c c' : List D) : (mk M (pre ++ [c])).set (M.length + 1 + pre.length) (Cl.lst c') = mk M (pre ++ [c']) := by
  unfold mk
  rw [List.set_append_right _ _ (by omega), show M.length + 1 + pre.length - M.length = pre.length + 1 by omega, List.set_cons_succ, List.map_append, List.set_append_right _ _ (by simp), List.length_map, Nat.sub_self, List.map_append]
  simp
theorem atI_last {α : Type} (l : List α) (x : α) : atI (l ++ [x]) (-1) = some x := by
  unfold atI ixN
  rw [if_neg (by decide)]
  simp only [List.length_append, List.length_cons, List.length_nil, Nat.zero_add, Int.natCast_add, Int.natCast_one]
  rw [if_pos (by omega), Option.bind_some, show ((-1 : Int) + ((l.length : Int) + 1)).toNat = l.length by omega]
  simp
theorem refs_last (b n : Nat) : atI (refs b (n + 1)) (-1) = some (.ref (b + 1 + n)) := by
  unfold refs
  rw [List.range_succ, List.map_append]
  exact atI_last _ _
noncomputable def InC (gap : Int) (c : List D) : Prop := ∀ (i : Nat) x y, c[i]? = some x → c[i + 1]? = some y → tm y - tm x < gap
noncomputable def BtC (gap : Int) (chs : List (List D)) : Prop := ∀ (i : Nat) c c' x y, chs[i]? = some c → chs[i + 1]? = some c' → c.getLast? = some x → c'.head? = some y → gap ≤ tm y - tm x
structure Chs (gap : Int) (chs : List (List D)) (ds : List D) : Prop where
  fl : chs.flatten = ds
  ne : ∀ c ∈ chs, c ≠ []
  inn : ∀ c ∈ chs, InC gap c
  bt : BtC gap chs
theorem chs_nil (gap : Int) : Chs gap [] [] := ⟨rfl, fun c h => (nomatch h), fun c h => (nomatch h), fun i c c' x y h => by simp at h⟩
theorem in_one (gap : Int) (x : D) : InC gap [x] := fun i a b h1 h2 => by
  simp at h2
theorem chs_new {gap : Int} {chs : List (List D)} {ds : List D} {x : D} (h : Chs gap chs ds) (hx : ∀ pre c' y, chs = pre ++ [c' ++ [y]] → gap ≤ tm x - tm y) : Chs gap (chs ++ [[x]]) (ds ++ [x]) := by
  refine ⟨by rw [List.flatten_append, h.fl]; rfl, fun c hc => ?_, fun c hc => ?_, fun i c c' a b e1 e2 l1 l2 => ?_⟩
  · rcases List.mem_append.mp hc with hc | hc
    · exact h.ne c hc
    · rw [List.mem_singleton.mp hc]; simp
  · rcases List.mem_append.mp hc with hc | hc
    · exact h.inn c hc
    · rw [List.mem_singleton.mp hc]; exact in_one gap x
  · rcases Nat.lt_or_ge (i + 1) chs.length with hi | hi
    · rw [List.getElem?_append_left (by omega)] at e1
      rw [List.getElem?_append_left hi] at e2
      exact h.bt i c c' a b e1 e2 l1 l2
    · have hl := (List.getElem?_eq_some_iff.mp e2).1
      rw [List.length_append, List.length_singleton] at hl
      have hi' : i + 1 = chs.length := by omega
      rw [List.getElem?_append_left (by omega)] at e1
      rw [List.getElem?_append_right (by omega), hi', Nat.sub_self] at e2
      cases e2
      cases l2
      obtain ⟨c0, rfl⟩ := List.getLast?_eq_some_iff.mp l1
      have : chs = chs.take i ++ [c0 ++ [a]] := by
        have hlt : i < chs.length := by omega
        rw [List.getElem?_eq_getElem hlt] at e1
        have e3 := List.take_append_getElem hlt
        rw [Option.some.inj e1] at e3
        rw [e3, List.take_of_length_le (by omega)]
      exact hx _ _ _ this
theorem chs_app {gap : Int} {pre : List (List D)} {c : List D} {ds : List D} {x y : D} (h : Chs gap (pre ++ [c ++ [y]]) ds) (hx : tm x - tm y < gap) : Chs gap (pre ++ [c ++ [y] ++ [x]]) (ds ++ [x]) := by
  refine ⟨by rw [← h.fl]; simp, fun d hd => ?_, fun d hd => ?_, fun i d d' a b e1 e2 l1 l2 => ?_⟩
  · rcases List.mem_append.mp hd with hd | hd
    · exact h.ne d (List.mem_append_left _ hd)
    · rw [List.mem_singleton.mp hd]; simp
  · rcases List.mem_append.mp hd with hd | hd
    · exact h.inn d (List.mem_append_left _ hd)
    · rw [List.mem_singleton.mp hd]
      have h0 := h.inn (c ++ [y]) (List.mem_append_right _ (List.mem_singleton.mpr rfl))
      intro i a b e1 e2
      rcases Nat.lt_or_ge (i + 1) (c ++ [y]).length with hi | hi
      · rw [List.getElem?_append_left (by omega)] at e1
        rw [List.getElem?_append_left hi] at e2
        exact h0 i a b e1 e2
      · have hl := (List.getElem?_eq_some_iff.mp e2).1
        rw [List.length_append, List.length_singleton] at hl
        have hi' : i + 1 = (c ++ [y]).length := by omega
        have hc : i = c.length := by rw [List.length_append, List.length_singleton] at hi'; omega
        rw [List.getElem?_append_left (by omega), hc, List.getElem?_append_right (Nat.le_refl _), Nat.sub_self] at e1
        rw [List.getElem?_append_right (by omega), hi', Nat.sub_self] at e2
        cases e1
        cases e2
        exact hx
  · rcases Nat.lt_or_ge (i + 1) pre.length with hi | hi
    · rw [List.getElem?_append_left (by omega)] at e1 e2
      exact h.bt i d d' a b (by rw [List.getElem?_append_left (by omega)]; exact e1) (by rw [List.getElem?_append_left hi]; exact e2) l1 l2
    · have hl := (List.getElem?_eq_some_iff.mp e2).1
      rw [List.length_append, List.length_singleton] at hl
      have hi' : i + 1 = pre.length := by omega
      rw [List.getElem?_append_left (by omega)] at e1
      rw [List.getElem?_append_right (by omega), hi', Nat.sub_self] at e2
      cases e2
      refine h.bt i d (c ++ [y]) a b (by rw [List.getElem?_append_left (by omega)]; exact e1) (by rw [List.getElem?_append_right (by omega), hi', Nat.sub_self]; rfl) l1 ?_
      cases c with
      | nil => exact l2
      | cons z c => exact l2
theorem at0 {α : Type} {a : α} {xs : List α} : atI (a :: xs) 0 = some a := atI_nat (j := 0) rfl
theorem ap_new {s0 : Slot} {gap : Int} {x : D} {M : Mm} {chs : List (List D)} (hl : chs.length ≤ 1000) : sAppC (sVar 2) (sCell (sLst (sCons (sVar 3) sNil))) [s0, .val (.int gap), .val (.ref M.length), .val x] (mk M chs) = some (.nx [s0, .val (.int gap), .val (.ref M.length), .val x], mk M (chs ++ [[x]])) := by
  have rl : (refs M.length chs.length).length = chs.length := by simp [refs]
  rw [a_ref (k := M.length) (M1 := mk M chs) (ds0 := refs M.length chs.length) (d := .ref (M.length + 1 + chs.length)) (M2 := mk M chs ++ [.lst [x]]) (ds := refs M.length chs.length) (by walk_at "all") (mk_b M chs) (by walk_at "all"; rw [mk_len]) (by rw [List.getElem?_append_left (by rw [mk_len]; omega)]; exact mk_b M chs) (by rw [rl, sizeLine_eq]; omega), mk_new]
theorem ap_app {s0 : Slot} {gap : Int} {x : D} {M : Mm} {pre : List (List D)} {c : List D} (hl : c.length ≤ 1000) : sAppC (s2 oIx (sVar 2) (s1 oNeg (sCon (.int 1)))) (sVar 3) [s0, .val (.int gap), .val (.ref M.length), .val x] (mk M (pre ++ [c])) = some (.nx [s0, .val (.int gap), .val (.ref M.length), .val x], mk M (pre ++ [c ++ [x]])) := by
  have hc := mk_c (M := M) (chs := pre ++ [c]) (i := pre.length) (c := c) (by rw [List.getElem?_append_right (Nat.le_refl _), Nat.sub_self]; rfl)
  rw [a_ref (k := M.length + 1 + pre.length) (M1 := mk M (pre ++ [c])) (ds0 := c) (d := x) (M2 := mk M (pre ++ [c])) (ds := c) (by
    walk_at "all"
    rw [w_ref (mk_b M _), o_ixL, List.length_append, List.length_singleton, refs_last]
    rfl) hc (by walk_at "all") hc (by rw [sizeLine_eq]; omega), mk_app]
theorem t_chains {s0 : Slot} {gap : Int} {z : Str} {x : D} {M : Mm} {chs : List (List D)} {ds : List D} (hx : th z x) (hds : ∀ d ∈ ds, th z d) (h : Chs gap chs ds) (hl : chs.length ≤ 1000) (hl2 : ds.length ≤ 1000) : ∃ chs', Chs gap chs' (ds ++ [x]) ∧ chs'.length ≤ chs.length + 1 ∧
    l_chains_1 [s0, .val (.int gap), .val (.ref M.length), .val x] (mk M chs) = some (.nx [s0, .val (.int gap), .val (.ref M.length), .val x], mk M chs') := by
  obtain ⟨t, v, rfl⟩ := hx
  have new := ap_new (s0 := s0) (gap := gap) (x := .tup [.int t, .str z, .int v]) (M := M) hl
  rcases List.eq_nil_or_concat chs with rfl | ⟨pre, c, rfl⟩
  · refine ⟨_, chs_new h (fun pre c' y e => by simp at e), by simp, ?_⟩
    unfold l_chains_1
    walk_at "all"
    rw [w_ref (mk_b M [])]
    walk_at "all"
    simp only [refs, List.length_nil, List.range_zero, List.map_nil, List.isEmpty_nil]
    walk_at "all"
    rw [new]
    walk_at "all"
  · rw [List.concat_eq_append] at *
    have hc := mk_c (M := M) (chs := pre ++ [c]) (i := pre.length) (c := c) (by rw [List.getElem?_append_right (Nat.le_refl _), Nat.sub_self]; rfl)
    rcases List.eq_nil_or_concat c with rfl | ⟨c', y, rfl⟩
    · exact absurd rfl (h.ne [] (by simp))
    · rw [List.concat_eq_append] at *
      have hy : y ∈ ds := by rw [← h.fl]; simp
      obtain ⟨t', v', rfl⟩ := hds y hy
      have hcl : (c' ++ [D.tup [.int t', .str z, .int v']]).length ≤ 1000 := by
        have := congrArg List.length h.fl
        simp at this
        simp
        omega
      have app := ap_app (s0 := s0) (gap := gap) (x := .tup [.int t, .str z, .int v]) (M := M) (pre := pre) hcl
      have ev : ∀ (k1 k2 : S), sIf (sAnd (sTru (sVar 2)) (s2 (oCmp .lt) (s2 oSub (s2 oIx (sVar 3) (sCon (.int 0))) (s2 oIx (s2 oIx (s2 oIx (sVar 2) (s1 oNeg (sCon (.int 1)))) (s1 oNeg (sCon (.int 1)))) (sCon (.int 0)))) (sVar 1))) k1 k2 [s0, .val (.int gap), .val (.ref M.length), .val (.tup [.int t, .str z, .int v])] (mk M (pre ++ [c' ++ [D.tup [.int t', .str z, .int v']]])) =
          if t - t' < gap then k1 [s0, .val (.int gap), .val (.ref M.length), .val (.tup [.int t, .str z, .int v])] (mk M (pre ++ [c' ++ [D.tup [.int t', .str z, .int v']]])) else k2 [s0, .val (.int gap), .val (.ref M.length), .val (.tup [.int t, .str z, .int v])] (mk M (pre ++ [c' ++ [D.tup [.int t', .str z, .int v']]])) := fun k1 k2 => by
        have mb := w_ref (mk_b M (pre ++ [c' ++ [D.tup [.int t', .str z, .int v']]]))
        rw [List.length_append, List.length_singleton] at mb
        have mc := w_ref hc
        have rl := refs_last M.length pre.length
        have re : (refs M.length (pre.length + 1)).isEmpty = false := by simp [refs, List.range_succ]
        generalize mk M (pre ++ [c' ++ [D.tup [.int t', .str z, .int v']]]) = MM at mb mc ⊢
        generalize refs M.length (pre.length + 1) = RR at mb rl re
        walk_at "all"
        simp only [mb]
        walk_at "all"
        simp only [re]
        walk_at "all"
        simp only [at0]
        walk_at "all"
        simp only [mb]
        walk_at "all"
        simp only [rl]
        walk_at "all"
        simp only [mc]
        walk_at "all"
        simp only [atI_last]
        walk_at "all"
        simp only [at0]
        walk_at "all"
      by_cases hlt : t - t' < gap
      · refine ⟨_, chs_app h hlt, by simp, ?_⟩
        unfold l_chains_1
        rw [q_seq, ev, if_pos hlt]
        walk_at "all"
        rw [app]
        walk_at "all"
      · refine ⟨_, chs_new h (fun pre2 c2 y2 e => ?_), by simp, ?_⟩
        · have e1 := List.append_inj' e rfl
          have e2 := List.append_inj' (List.cons.inj e1.2).1 rfl
          rw [← (List.cons.inj e2.2).1]
          show gap ≤ t - t'
          omega
        · unfold l_chains_1
          rw [q_seq, ev, if_neg hlt]
          walk_at "all"
          rw [new]
          walk_at "all"
theorem g_chains_ok {gap : Int} {z : Str} {ds : List D} {M : Mm} (hds : ∀ d ∈ ds, th z d) (hl : ds.length ≤ 100) : ∃ chs, Chs gap chs ds ∧ chs.length ≤ 100 ∧ g_chains [.lst ds, .int gap] M = some (.v (.ref M.length), mk M chs) := by
  unfold g_chains b_chains
  walk_at "all"
  have e0 : M ++ [Cl.lst []] = mk M [] := rfl
  rw [e0]
  refine loop_by (Q := fun o => ∃ chs, Chs gap chs ds ∧ chs.length ≤ 100 ∧ endS (seqR _ o) = some (.v (.ref M.length), mk M chs)) (fun k env M' => ∃ (s0 s3 : E3.Slot) (chs : List (List D)), env = [s0, .val (.int gap), .val (.ref M.length), s3] ∧ M' = mk M chs ∧ chs.length ≤ k ∧ Chs gap chs (ds.take k)) ?_ ?_ ?_
  · exact ⟨_, _, [], rfl, rfl, Nat.zero_le _, by rw [List.take_zero]; exact chs_nil gap⟩
  · rintro k d env M' hd ⟨s0, s3, chs, rfl, rfl, hk, hC⟩
    refine ⟨by simp, ?_⟩
    have kl := (List.getElem?_eq_some_iff.mp hd).1
    obtain ⟨chs', h1, h2, h3⟩ := t_chains (s0 := s0) (gap := gap) (z := z) (x := d) (M := M) (hds d (List.mem_of_getElem? hd)) (fun y hy => hds y (List.mem_of_mem_take hy)) hC (by omega) (by rw [List.length_take]; omega)
    simp only [List.set_cons_zero, List.set_cons_succ]
    rw [h3]
    refine ⟨s0, _, chs', rfl, rfl, by omega, ?_⟩
    rw [List.take_add_one, hd]
    exact h1
  · rintro env M' ⟨s0, s3, chs, rfl, rfl, hk, hC⟩
    walk_at "all"
    rw [List.take_length] at hC
    exact ⟨chs, hC, by omega, rfl⟩
theorem deps_th {z : Str} {ds : List D} (h : ∀ d ∈ ds, th z d) : D.deps ds ≤ 1 := by
  induction ds with
  | nil => simp [D.deps]
  | cons d r ih =>
    obtain ⟨t, v, rfl⟩ := h d List.mem_cons_self
    have := ih fun q hq => h q (List.mem_cons_of_mem _ hq)
    simp only [D.deps, D.dep]
    omega
theorem t_r1 {s0 s1 : Slot} {gap : Int} {z : Str} {laid c : List D} {n k : Nat} {x : D} {M : Mm} (hM : M[n]? = some (.lst c)) (hx : c[k]? = some x) (hc : ∀ d ∈ c, th z d) (hl : ∀ d ∈ laid, th z d) (h1 : InC gap c) (h2 : k = 0 → ∀ y, laid.getLast? = some y → gap ≤ tm x - tm y) (hn : laid.length ≤ 1000) :
    l__law_right_1 [s0, s1, .val (.int gap), .own laid, .val (.ref n), .val (.int (0 + (k : Int)))] M = some (.nx [s0, s1, .val (.int gap), .own (laid ++ [x]), .val (.ref n), .val (.int (0 + (k : Int)))], M) := by
  have w := w_ref hM
  have ax := atI_nat hx
  obtain ⟨t, v, ex⟩ := hc x (List.mem_of_getElem? hx)
  rw [Int.zero_add]
  unfold l__law_right_1
  cases k with
  | zero =>
    rw [show ((0 : Nat) : Int) = 0 from rfl] at ax ⊢
    walk_at "all"
    rw [o_neE (by have := deps_th hl; omega)]
    walk_at "all"
    rcases List.eq_nil_or_concat laid with rfl | ⟨l', y, rfl⟩
    · simp only [List.isEmpty_nil]
      walk_at "all"
      try simp only [w]
      walk_at "all"
      simp only [ax]
      walk_at "all"
    · rw [List.concat_eq_append] at *
      obtain ⟨t', v', ey⟩ := hl y (by simp)
      have hg := h2 rfl y (by simp)
      rw [ex, ey] at hg
      have hg' : gap ≤ t - t' := hg
      rw [show (l' ++ [y]).isEmpty = false by simp]
      iterate 6 (walk_at "all"; try simp only [w, ax, ex, ey, at0, atI_last])
      walk_at "all"
      simp only [show (t - t' < gap) = False from eq_false (by omega)]
      iterate 4 (walk_at "all"; try simp only [w, ax, ex])
      walk_at "all"
      rw [if_pos (by simp at hn ⊢; omega)]
      walk_at "all"
  | succ k =>
    obtain ⟨y, hy⟩ : ∃ y, c[k]? = some y := ⟨_, List.getElem?_eq_getElem (by have := (List.getElem?_eq_some_iff.mp hx).1; omega)⟩
    have ay := atI_nat hy
    obtain ⟨t', v', ey⟩ := hc y (List.mem_of_getElem? hy)
    have hg := h1 k y x hy hx
    rw [ex, ey] at hg
    have hg' : t - t' < gap := hg
    have e1 : (((k + 1 : Nat) : Int)) - 1 = (k : Int) := by omega
    have p1 : (0 : Int) < ((k + 1 : Nat) : Int) := by omega
    have p2 : ¬ ((k + 1 : Nat) : Int) = 0 := by omega
    generalize ((k + 1 : Nat) : Int) = q at *
    walk_at "all"
    simp only [p1]
    iterate 7 (walk_at "all"; try simp only [w, ax, ex, e1, ay, ey, at0])
    walk_at "all"
    simp only [show (gap ≤ t - t') = False from eq_false (by omega)]
    walk_at "all"
    simp only [p2]
    iterate 4 (walk_at "all"; try simp only [w, ax, ex])
    walk_at "all"
    rw [if_pos (by omega)]
    walk_at "all"
theorem t_r2 {s0 s1 s5 : Slot} {gap : Int} {z : Str} {laid c : List D} {n : Nat} {M : Mm} (hM : M[n]? = some (.lst c)) (hne : c ≠ []) (hc : ∀ d ∈ c, th z d) (hl : ∀ d ∈ laid, th z d) (h1 : InC gap c) (h2 : ∀ x y, c.head? = some x → laid.getLast? = some y → gap ≤ tm x - tm y) (hn : laid.length + c.length ≤ 1000) :
    ∃ s5', l__law_right_2 [s0, s1, .val (.int gap), .own laid, .val (.ref n), s5] M = some (.nx [s0, s1, .val (.int gap), .own (laid ++ c), .val (.ref n), s5'], M) := by
  have w := w_ref hM
  have ce : c.isEmpty = false := by cases c with
    | nil => exact absurd rfl hne
    | cons a b => rfl
  unfold l__law_right_2
  walk_at "all"
  simp only [w]
  walk_at "all"
  simp only [w]
  rw [o_eqE (by have := deps_th hc; omega)]
  simp only [ce]
  walk_at "all"
  simp only [w]
  walk_at "all"
  rw [r_rng1 (by omega)]
  walk_at "all"
  refine loop_by (Q := fun o => ∃ s5', seqR _ o = some (.nx [s0, s1, .val (.int gap), .own (laid ++ c), .val (.ref n), s5'], M)) (fun k env M' => M' = M ∧ ∃ s5, env = [s0, s1, .val (.int gap), .own (laid ++ c.take k), .val (.ref n), s5]) ?_ ?_ ?_
  · exact ⟨rfl, _, by rw [List.take_zero, List.append_nil]⟩
  · rintro k d env M' hd ⟨rfl, s5, rfl⟩
    refine ⟨by simp, ?_⟩
    have kl := (List.getElem?_eq_some_iff.mp hd).1
    rw [List.length_map, List.length_range] at kl
    rw [List.getElem?_map, List.getElem?_range kl] at hd
    cases hd
    have kc : k < c.length := by omega
    have hx := List.getElem?_eq_getElem kc
    simp only [List.set_cons_zero, List.set_cons_succ]
    rw [t_r1 (z := z) hM hx hc (fun d hd => by
      rcases List.mem_append.mp hd with h | h
      · exact hl d h
      · exact hc d (List.mem_of_mem_take h)) h1 (fun k0 y hy => by
        subst k0
        rw [List.take_zero, List.append_nil] at hy
        exact h2 _ y (by rw [List.head?_eq_getElem?]; exact hx) hy) (by rw [List.length_append, List.length_take]; omega)]
    refine ⟨rfl, .val (.int (0 + (k : Int))), ?_⟩
    rw [List.append_assoc, List.take_add_one, hx]
    rfl
  · rintro env M' ⟨rfl, s5, rfl⟩
    rw [List.length_map, List.length_range, show ((c.length : Int)).toNat = c.length by omega, List.take_length]
    exact ⟨_, rfl⟩
theorem g_right {gap : Int} {z : Str} {ds : List D} {chs : List (List D)} {b : Nat} {ns : List Nat} {M : Mm} (hC : Chs gap chs ds) (hds : ∀ d ∈ ds, th z d) (hl : ds.length ≤ 100) (hb : M[b]? = some (.lst (ns.map .ref))) (hn : ns.length = chs.length) (hl2 : chs.length ≤ 100)
    (hm : ∀ (i n : Nat) c, ns[i]? = some n → chs[i]? = some c → M[n]? = some (.lst c)) : g__law_right [.ref b, .lst ds, .int gap] M = some (.v (.bl true), M) := by
  have w := w_ref hb
  have mem : ∀ c ∈ chs, ∀ d ∈ c, th z d := fun c hc d hd => hds d (by rw [← hC.fl]; exact List.mem_flatten.mpr ⟨c, hc, hd⟩)
  have lens : ∀ k, (chs.take k).flatten.length ≤ 100 := fun k => by
    have e : chs.flatten = (chs.take k).flatten ++ (chs.drop k).flatten := by rw [← List.flatten_append, List.take_append_drop]
    have := congrArg List.length e
    rw [hC.fl, List.length_append] at this
    omega
  unfold g__law_right b__law_right
  walk_at "all"
  simp only [w]
  walk_at "all"
  have ef : ∀ env M', sForC 1000 4 (sVar 0) l__law_right_2 (.val (.ref b) :: env) M' = loopC 4 b l__law_right_2 1000 0 (.val (.ref b) :: env) M' := fun env M' => rfl
  rw [ef]
  refine loopC_by (ds := ns.map .ref) (Q := fun o => endS (seqR _ o) = some (.v (.bl true), M)) (fun k env M' => M' = M ∧ ∃ s4 s5, env = [.val (.ref b), .val (.lst ds), .val (.int gap), .own (chs.take k).flatten, s4, s5]) ?_ (by rw [List.length_map]; omega) (fun k env M' h => by rw [h.1]; exact hb) ?_ ?_
  · exact ⟨rfl, _, _, rfl⟩
  · rintro k d env M' hd ⟨rfl, s4, s5, rfl⟩
    refine ⟨by simp, ?_⟩
    rw [List.getElem?_map, Option.map_eq_some_iff] at hd
    obtain ⟨n, hk, rfl⟩ := hd
    have kl := (List.getElem?_eq_some_iff.mp hk).1
    have hc := List.getElem?_eq_getElem (l := chs) (i := k) (by omega)
    have hmem : chs[k]'(by omega) ∈ chs := List.getElem_mem _
    have e2 : (chs.take (k + 1)).flatten = (chs.take k).flatten ++ chs[k]'(by omega) := by
      rw [List.take_add_one, hc, Option.toList_some, List.flatten_append, List.flatten_singleton]
    obtain ⟨s5', e⟩ := t_r2 (s0 := .val (.ref b)) (s1 := .val (.lst ds)) (s5 := s5) (gap := gap) (z := z) (laid := (chs.take k).flatten) (hm k n _ hk hc) (hC.ne _ hmem) (mem _ hmem) (fun d hd => by
      obtain ⟨c, h1, h2⟩ := List.mem_flatten.mp hd
      exact mem c (List.mem_of_mem_take h1) d h2) (hC.inn _ hmem) (fun x y hx hy => by
        cases k with
        | zero => simp at hy
        | succ k =>
          have hc' := List.getElem?_eq_getElem (l := chs) (i := k) (by omega)
          refine hC.bt k _ _ y x hc' hc ?_ hx
          rw [List.take_add_one, hc', Option.toList_some, List.flatten_append, List.flatten_singleton] at hy
          have ne := hC.ne _ (List.getElem_mem (l := chs) (n := k) (by omega))
          rw [List.getLast?_append] at hy
          cases hz : (chs[k]'(by omega)).getLast? with
          | none => exact absurd (List.getLast?_eq_none_iff.mp hz) ne
          | some a =>
            rw [hz] at hy
            exact hy) (by have := lens (k + 1); rw [e2, List.length_append] at this; omega)
    simp only [List.set_cons_zero, List.set_cons_succ]
    rw [e]
    exact ⟨rfl, _, _, by rw [e2]⟩
  · rintro env M' ⟨rfl, s4, s5, rfl⟩
    rw [List.length_map, hn, List.take_length, hC.fl]
    walk_at "all"
    rw [o_eqR (by show D.deps ds + 1 ≤ 50; have := deps_th hds; omega)]
    walk_at "all"
theorem mk_set (M : Mm) (chs : List (List D)) (i : Nat) (c : List D) : (mk M chs).set (M.length + 1 + i) (Cl.lst c) = mk M (chs.set i c) := by
  unfold mk
  rw [List.set_append_right _ _ (by omega), show M.length + 1 + i - M.length = i + 1 by omega, List.set_cons_succ, ← List.map_set, List.length_set]
theorem right_mk {gap : Int} {z : Str} {ds : List D} {chs : List (List D)} {M : Mm} (hC : Chs gap chs ds) (hds : ∀ d ∈ ds, th z d) (hl : ds.length ≤ 100) (hl2 : chs.length ≤ 100) : g__law_right [.ref M.length, .lst ds, .int gap] (mk M chs) = some (.v (.bl true), mk M chs) := by
  refine g_right (z := z) (ns := (List.range chs.length).map (M.length + 1 + ·)) hC hds hl ?_ (by simp) hl2 fun i n c h1 h2 => ?_
  · rw [mk_b, List.map_map]
    rfl
  · have hi := (List.getElem?_eq_some_iff.mp h2).1
    rw [List.getElem?_map, List.getElem?_range hi] at h1
    cases h1
    exact mk_c h2
theorem t_law {s0 s1 s2 s3 s4 : Slot} {c : List D} {n : Nat} {M : Mm} (hM : M[n]? = some (.lst c)) (hl : c.length ≤ 1000) : l_law_1 [s0, s1, s2, s3, s4, .val (.ref n)] M = some (.nx [s0, s1, s2, s3, s4, .val (.ref n)], M.set n (.lst (c ++ [.tup [.int 0, .str "a", .int 0]]))) := by
  unfold l_law_1
  rw [q_seq, a_ref (k := n) (M1 := M) (ds0 := c) (M2 := M) (ds := c) (d := .tup [.int 0, .str "a", .int 0]) (by walk_at "all") hM (by walk_at "all") hM (by rw [sizeLine_eq]; omega)]
  walk_at "all"
theorem flat_len {chs : List (List D)} {c : List D} (h : c ∈ chs) : c.length ≤ chs.flatten.length := by
  induction chs with
  | nil => exact nomatch h
  | cons a r ih =>
    rw [List.flatten_cons, List.length_append]
    rcases List.mem_cons.mp h with rfl | h
    · omega
    · have := ih h
      omega
noncomputable def law_rest : S := (sSeq (sAsg 2 (sCall g__law_things (sCons (sVar 0) (sCons (sVar 1) sNil)))) (sSeq (sAsg 3 (sListN (sVar 2))) (sSeq (sAsg 4 (sCall g_chains (sCons (sVar 3) (sCons (sVar 1) sNil)))) (sSeq (sIf (sOr (s2 (oCmp .ne) (sVar 3) (sVar 2)) (sNot (sTru (sCall g__law_right (sCons (sVar 4) (sCons (sVar 2) (sCons (sVar 1) sNil))))))) (sSeq (sRet (sCon (.bl false))) sEnd) sEnd) (sSeq (sForC 1000 5 (sVar 4) l_law_1) (sSeq (sAppC (sVar 4) (sCell (sLst sNil))) (sSeq (sRet (sAnd (s2 (oCmp .eq) (sVar 3) (sVar 2)) (sCall g__law_right (sCons (sCall g_chains (sCons (sVar 3) (sCons (sVar 1) sNil))) (sCons (sVar 2) (sCons (sVar 1) sNil)))))) sEnd)))))))
theorem ap_e {s0 s1 s2 s3 s5 : Slot} {M : Mm} {chs : List (List D)} (hl : chs.length ≤ 1000) : sAppC (sVar 4) (sCell (sLst sNil)) [s0, s1, s2, s3, .val (.ref M.length), s5] (mk M chs) = some (.nx [s0, s1, s2, s3, .val (.ref M.length), s5], mk M (chs ++ [[]])) := by
  have rl : (refs M.length chs.length).length = chs.length := by simp [refs]
  rw [a_ref (k := M.length) (M1 := mk M chs) (ds0 := refs M.length chs.length) (d := .ref (M.length + 1 + chs.length)) (M2 := mk M chs ++ [.lst []]) (ds := refs M.length chs.length) (by walk_at "all") (mk_b M chs) (by walk_at "all"; rw [mk_len]) (by rw [List.getElem?_append_left (by rw [mk_len]; omega)]; exact mk_b M chs) (by rw [rl, sizeLine_eq]; omega), mk_new]
theorem law_rest_ok {ns : List Int} {gap : Int} : ∃ M, endS (law_rest [.val (.lst (ns.map .int)), .val (.int gap), .un, .un, .un, .un] []) = some (.v (.bl true), M) := by
  obtain ⟨ds, z, e1, hl, ht⟩ := g_things (ns := ns) (gap := gap) (M := [])
  obtain ⟨chs, hC, hl2, e2⟩ := g_chains_ok (gap := gap) (M := []) ht (by omega)
  have e3 := right_mk (M := []) hC ht (by omega) hl2
  have hdep : (D.lst ds).dep ≤ 50 := by show D.deps ds + 1 ≤ 50; have := deps_th ht; omega
  unfold law_rest
  walk_at "all"
  rw [e1]
  walk_at "all"
  rw [e2]
  walk_at "all"
  rw [o_neR hdep]
  walk_at "all"
  rw [show (List.length ([] : Mm)) = 0 from rfl] at e3
  rw [e3]
  walk_at "all"
  have ef : ∀ (s0 s1 s2 s3 s5 : E3.Slot) M', sForC 1000 5 (sVar 4) l_law_1 [s0, s1, s2, s3, .val (.ref 0), s5] M' = loopC 5 0 l_law_1 1000 0 [s0, s1, s2, s3, .val (.ref 0), s5] M' := fun _ _ _ _ _ _ => rfl
  rw [ef]
  refine loopC_by (ds := refs 0 chs.length) (Q := fun o => ∃ M, endS (seqR _ o) = some (.v (.bl true), M)) (fun k env M' => ∃ (s0 : E3.Slot) (s5 : E3.Slot) (chs' : List (List D)), env = [s0, .val (.int gap), .val (.lst ds), .val (.lst ds), .val (.ref 0), s5] ∧ M' = mk [] chs' ∧ chs'.length = chs.length ∧ ∀ (i : Nat) c, chs'[i]? = some c → c.length ≤ 100 + k) ?_ (by simp [refs]; omega) ?_ ?_ ?_
  · refine ⟨_, _, chs, rfl, rfl, rfl, fun i c h => ?_⟩
    have := flat_len (List.mem_of_getElem? h)
    rw [hC.fl] at this
    omega
  · rintro k env M' ⟨s0, s5, chs', rfl, rfl, hlen, hc⟩
    have := mk_b [] chs'
    rw [hlen] at this
    exact this
  · rintro k d env M' hd ⟨s0, s5, chs', rfl, rfl, hlen, hc⟩
    refine ⟨by simp, ?_⟩
    have kl := (List.getElem?_eq_some_iff.mp hd).1
    simp only [refs, List.length_map, List.length_range] at kl
    unfold refs at hd
    rw [List.getElem?_map, List.getElem?_range kl] at hd
    cases hd
    have hk := List.getElem?_eq_getElem (l := chs') (i := k) (by omega)
    have hm : (mk [] chs')[0 + 1 + k]? = some (.lst (chs'[k]'(by omega))) := mk_c (M := []) hk
    have hcl := hc k _ hk
    simp only [List.set_cons_zero, List.set_cons_succ]
    rw [t_law hm (by omega), show 0 + 1 + k = (List.length ([] : Mm)) + 1 + k from rfl, mk_set]
    refine ⟨s0, _, _, rfl, rfl, by rw [List.length_set, hlen], fun i c h => ?_⟩
    rw [List.getElem?_set] at h
    split at h
    · split at h
      · cases h
        rw [List.length_append, List.length_singleton]
        omega
      · cases h
    · exact Nat.le_succ_of_le (hc i c h)
  · rintro env M' ⟨s0, s5, chs', rfl, rfl, hlen, hc⟩
    have ap := ap_e (s0 := s0) (s1 := .val (.int gap)) (s2 := .val (.lst ds)) (s3 := .val (.lst ds)) (s5 := s5) (M := []) (chs := chs') (by omega)
    rw [show (List.length ([] : Mm)) = 0 from rfl] at ap
    walk_at "all"
    rw [ap]
    walk_at "all"
    rw [o_eqR hdep]
    walk_at "all"
    obtain ⟨chs2, hC2, hl3, e4⟩ := g_chains_ok (gap := gap) (M := mk [] (chs' ++ [[]])) ht (by omega)
    rw [e4]
    walk_at "all"
    rw [right_mk hC2 ht (by omega) hl3]
    walk_at "all"
    exact ⟨_, rfl⟩
theorem lawG_ok : ∀ ns : List Int, ns.length ≤ 63 → ∃ M, lawG [.lst (ns.map D.int)] [] = some (.v (.bl true), M) := by
  intro ns hn
  have gc := fun M => g_cell (ns := ns) (k := 0) (M := M) (by omega)
  have key := fun gap => law_rest_ok (ns := ns) (gap := gap)
  unfold law_rest at key
  unfold lawG g_law b_law
  generalize (sSeq (sAsg 2 _) _) = R at key ⊢
  walk_at "all"
  simp only [gc]
  walk_at "all"
  simp only [gc]
  walk_at "all"
  by_cases h : ns.getD 0 0 % 4 = 3
  · rw [if_pos h]
    simp only [gc]
    walk_at "all"
    exact key _
  · rw [if_neg h]
    walk_at "all"
    exact key _

theorem law_at {l : PySem.W.OpenLaw} {w : World} {K : PySem.W.Frag} {mg : Str → Option Value} {base : Heap} {f0 : Addr} {d0 : FuncData} {f1 : Addr} {d1 : FuncData} {f2 : Addr} {d2 : FuncData} {f3 : Addr} {d3 : FuncData} {f4 : Addr} {d4 : FuncData} (T : Txt K mg)
    (D0 : DefAt K mg "chains" s_chains ["things", "gap"] f0 d0)
    (D1 : DefAt K mg "_law_cell_at" s__law_cell_at ["_law_script", "_law_k"] f1 d1)
    (D2 : DefAt K mg "_law_things" s__law_things ["_law_script", "_law_gap"] f2 d2)
    (D3 : DefAt K mg "_law_right" s__law_right ["_law_found", "_law_things_here", "_law_gap"] f3 d3)
    (D4 : DefAt K mg "law" s_law ["_law_script"] f4 d4)
    : FnOk l.prog w K mg base CX0 lawK f4 d4 ["_law_script"] (spG K mg 1 lawG) := by
  have A0 : AtG l.prog w K mg base 1 "chains" 2 g_chains := fn_at D0.F sc_chains (by decide) D0.mg D0.b (r_chains (k := 0) T)
  have A1 : AtG l.prog w K mg base 1 "_law_cell_at" 2 g__law_cell_at := fn_at D1.F sc__law_cell_at (by decide) D1.mg D1.b (r__law_cell_at (k := 0) T)
  have A2 : AtG l.prog w K mg base 2 "_law_things" 2 g__law_things := fn_at D2.F sc__law_things (by decide) D2.mg D2.b (r__law_things (k := 1) T (A1.mono (by decide)))
  have A3 : AtG l.prog w K mg base 1 "_law_right" 3 g__law_right := fn_at D3.F sc__law_right (by decide) D3.mg D3.b (r__law_right (k := 0) T)
  exact fn_run D4.F sc_law (by decide) (r_law (k := 2) T (A0.mono (by decide)) (A1.mono (by decide)) (A2.mono (by decide)) (A3.mono (by decide)))
theorem all_mk {l : PySem.W.OpenLaw} {w : World} {K : PySem.W.Frag} {h : Heap} {mg : Str → Option Value} {fa : Addr} (X : K.In h) (G : h.Ns mainGlobals mg) (hfa : mg "law" = some (.ref fa))
    {f0 : Addr} {oc0 kV0 dc0 pm0 cd0 ct0 : Value} {od0 an0 : Option Addr} {sl0 : Array (Option Value)}
    {f1 : Addr} {oc1 kV1 dc1 pm1 cd1 ct1 : Value} {od1 an1 : Option Addr} {sl1 : Array (Option Value)}
    {f2 : Addr} {oc2 kV2 dc2 pm2 cd2 ct2 : Value} {od2 an2 : Option Addr} {sl2 : Array (Option Value)}
    {f3 : Addr} {oc3 kV3 dc3 pm3 cd3 ct3 : Value} {od3 an3 : Option Addr} {sl3 : Array (Option Value)}
    {f4 : Addr} {oc4 kV4 dc4 pm4 cd4 ct4 : Value} {od4 an4 : Option Addr} {sl4 : Array (Option Value)}
    (a0 : PySem.W.nsIn K mainGlobals "chains" = some (some (.ref f0))) (l0 : K.lookup f0 = some ⟨oc0, od0, .func (PySem.W.fnOf "chains" "chains" (defArgs s_chains) (defBody s_chains) (defScope s_chains) .none kV0 dc0 pm0 an0 cd0 ct0), sl0⟩) (c0 : PySem.W.codeIn K cd0 "chains" = true) (k0 : PySem.W.keepIn K (.ref f0) = true)
    (a1 : PySem.W.nsIn K mainGlobals "_law_cell_at" = some (some (.ref f1))) (l1 : K.lookup f1 = some ⟨oc1, od1, .func (PySem.W.fnOf "_law_cell_at" "_law_cell_at" (defArgs s__law_cell_at) (defBody s__law_cell_at) (defScope s__law_cell_at) .none kV1 dc1 pm1 an1 cd1 ct1), sl1⟩) (c1 : PySem.W.codeIn K cd1 "_law_cell_at" = true) (k1 : PySem.W.keepIn K (.ref f1) = true)
    (a2 : PySem.W.nsIn K mainGlobals "_law_things" = some (some (.ref f2))) (l2 : K.lookup f2 = some ⟨oc2, od2, .func (PySem.W.fnOf "_law_things" "_law_things" (defArgs s__law_things) (defBody s__law_things) (defScope s__law_things) .none kV2 dc2 pm2 an2 cd2 ct2), sl2⟩) (c2 : PySem.W.codeIn K cd2 "_law_things" = true) (k2 : PySem.W.keepIn K (.ref f2) = true)
    (a3 : PySem.W.nsIn K mainGlobals "_law_right" = some (some (.ref f3))) (l3 : K.lookup f3 = some ⟨oc3, od3, .func (PySem.W.fnOf "_law_right" "_law_right" (defArgs s__law_right) (defBody s__law_right) (defScope s__law_right) .none kV3 dc3 pm3 an3 cd3 ct3), sl3⟩) (c3 : PySem.W.codeIn K cd3 "_law_right" = true) (k3 : PySem.W.keepIn K (.ref f3) = true)
    (a4 : PySem.W.nsIn K mainGlobals "law" = some (some (.ref f4))) (l4 : K.lookup f4 = some ⟨oc4, od4, .func (PySem.W.fnOf "law" "law" (defArgs s_law) (defBody s_law) (defScope s_law) .none kV4 dc4 pm4 an4 cd4 ct4), sl4⟩) (c4 : PySem.W.codeIn K cd4 "law" = true) (k4 : PySem.W.keepIn K (.ref f4) = true)
    (z_len : PySem.W.nsIn K mainGlobals "len" = some none)
    (z_sorted : PySem.W.nsIn K mainGlobals "sorted" = some none)
    (z_min : PySem.W.nsIn K mainGlobals "min" = some none)
    (z_range : PySem.W.nsIn K mainGlobals "range" = some none)
    (z_isinstance : PySem.W.nsIn K mainGlobals "isinstance" = some none)
    (z_list : PySem.W.nsIn K mainGlobals "list" = some none)
    : ∃ fd : FuncData, (∀ (s : Shared) (v : Value), BindsTo s fd ⟨[v], []⟩ [("_law_script", v)]) ∧ ∀ base : Heap, K.In base → base.Ns mainGlobals mg → FnOk l.prog w K mg base CX0 lawK fa fd ["_law_script"] (spL K lawG) := by
  have e := hfa.symm.trans (PySem.W.mg_of X G a4)
  cases e
  have T : Txt K mg := ⟨by simp only [blts, List.mem_cons, List.not_mem_nil, or_false, forall_eq_or_imp, forall_eq]; exact ⟨PySem.W.mg_none_of X G z_len, PySem.W.mg_none_of X G z_sorted, PySem.W.mg_none_of X G z_min, PySem.W.mg_none_of X G z_range, PySem.W.mg_none_of X G z_isinstance, PySem.W.mg_none_of X G z_list⟩⟩
  have D0 : DefAt K mg "chains" s_chains ["things", "gap"] _ _ := ⟨PySem.W.mg_of X G a0, funD_mk l0 c0 k0, (fun_mk (st := s_chains) l0 c0 k0).binds (ps := ["things", "gap"]) fun _ _ _ _ _ _ us hl => match us, hl with | [_, _], _ => rfl⟩
  have D1 : DefAt K mg "_law_cell_at" s__law_cell_at ["_law_script", "_law_k"] _ _ := ⟨PySem.W.mg_of X G a1, funD_mk l1 c1 k1, (fun_mk (st := s__law_cell_at) l1 c1 k1).binds (ps := ["_law_script", "_law_k"]) fun _ _ _ _ _ _ us hl => match us, hl with | [_, _], _ => rfl⟩
  have D2 : DefAt K mg "_law_things" s__law_things ["_law_script", "_law_gap"] _ _ := ⟨PySem.W.mg_of X G a2, funD_mk l2 c2 k2, (fun_mk (st := s__law_things) l2 c2 k2).binds (ps := ["_law_script", "_law_gap"]) fun _ _ _ _ _ _ us hl => match us, hl with | [_, _], _ => rfl⟩
  have D3 : DefAt K mg "_law_right" s__law_right ["_law_found", "_law_things_here", "_law_gap"] _ _ := ⟨PySem.W.mg_of X G a3, funD_mk l3 c3 k3, (fun_mk (st := s__law_right) l3 c3 k3).binds (ps := ["_law_found", "_law_things_here", "_law_gap"]) fun _ _ _ _ _ _ us hl => match us, hl with | [_, _, _], _ => rfl⟩
  have D4 : DefAt K mg "law" s_law ["_law_script"] _ _ := ⟨PySem.W.mg_of X G a4, funD_mk l4 c4 k4, (fun_mk (st := s_law) l4 c4 k4).binds (ps := ["_law_script"]) fun _ _ _ _ _ _ us hl => match us, hl with | [_], _ => rfl⟩
  refine ⟨PySem.W.fnOf "law" "law" (defArgs s_law) (defBody s_law) (defScope s_law) .none kV4 dc4 pm4 an4 cd4 ct4, fun s v => .of_eq rfl, fun base _ _ => fnok_L ?_⟩
  exact law_at T D0 D1 D2 D3 D4
end My
open PySem PySem.W PyProof.Rows
set_option maxRecDepth 100000 in
set_option maxHeartbeats 0 in
theorem PySem.Challenge.cw_rowdam_k24_chains_holds : PySem.Challenge.rw_rowdam_k24_chains.Holds := by
  w_on; refine My.hdTop ?_
  k_fill
  refine E3.walk_e3 (l := PySem.Challenge.rw_rowdam_k24_chains) (k := My.lawK) (g := My.lawG) (x := "_law_script") rfl rfl ⟨rfl, by decide, by decide⟩ (fun w h Y => PySem.W.kIn_of Y) ?F My.lawG_ok
  case F =>
    intro w mg fa h KX G hmg
    refine' My.all_mk KX G hmg ?a0 ?l0 ?c0 ?k0 ?a1 ?l1 ?c1 ?k1 ?a2 ?l2 ?c2 ?k2 ?a3 ?l3 ?c3 ?k3 ?a4 ?l4 ?c4 ?k4 ?z_len ?z_sorted ?z_min ?z_range ?z_isinstance ?z_list
    (case a0 => k_is); (case l0 => k_is); (case c0 => k_is); (case k0 => k_is); (case a1 => k_is); (case l1 => k_is); (case c1 => k_is); (case k1 => k_is); (case a2 => k_is); (case l2 => k_is); (case c2 => k_is); (case k2 => k_is); (case a3 => k_is); (case l3 => k_is); (case c3 => k_is); (case k3 => k_is); (case a4 => k_is); (case l4 => k_is); (case c4 => k_is); (case k4 => k_is); (case z_len => k_is); (case z_sorted => k_is); (case z_min => k_is); (case z_range => k_is); (case z_isinstance => k_is); (case z_list => k_is)
