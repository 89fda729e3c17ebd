import PyProof.Rows.All
import Wide.All
import OpenK.AllK
import Wide.FinOn
import Lean
import PyProof.EqAt
import PyProof.EqKinds
import PyProof.TupleCall
import PyProof.ListNew
import PyProof.WalksMore
import PyProof.ReprLoop
import PyProof.FactsAll.list
import PyProof.FactsAll.tuple
import KE.KRevIter
import PyProof.NeKinds
import PyProof.ConsumeWalk
import KE.LcSums
import PyProof.SliceSyntax
import PyProof.EnumFor
import PyProof.EnumMake
import PyProof.EnumStmt
import PyProof.ListRange
import PyProof.ZipIter
import PyProof.FactsAll.range_2
import PyProof.Rows.FactsN_divmod
import PyProof.Rows.SumAny
import PySem.Challenge.RW_liftwave_k15_laid_opened
set_option Elab.async false
set_option linter.all false
set_option maxRecDepth 100000
/-! THE HAND LAYER, for ints, bools, texts, own classes, LISTS and tuples (index, slices, in, append, pop ..), calls, loops. Paste it whole ahead of your own text; what your proof does not reach may be deleted. -/
namespace L2
open PySem PySem.Spec PyProof.Rows

/-- a key: an int or a str -/
abbrev Key := Sum Int Str
def keyIs : Key → Value → Bool
  | .inl k, v => Value.isInt k v
  | .inr x, v => Value.isStrOf x v
def keyH (w : World) : Key → Int
  | .inl k => hashInt k
  | .inr x => hashStr w x
theorem keyIs_shape : ∀ {k : Key} {v : Value}, keyIs k v = true → (∃ i t, k = Sum.inl i ∧ v = Value.int i t) ∨ (∃ x t, k = Sum.inr x ∧ v = Value.str x t)
  | .inl i, v, h => by
    obtain ⟨t, e⟩ := Value.isInt_shape (k := i) (v := v) h
    exact .inl ⟨i, t, rfl, e⟩
  | .inr x, v, h => by
    obtain ⟨t, e⟩ := Value.isStrOf_shape (x := x) (v := v) h
    exact .inr ⟨x, t, rfl, e⟩
theorem keyIs_int (i : Int) (t : Tok) : keyIs (.inl i) (.int i t) = true := by simp [keyIs, Value.isInt]
theorem keyIs_str (x : Str) (t : Tok) : keyIs (.inr x) (.str x t) = true := by simp [keyIs, Value.isStrOf]
theorem key_ll (a b : Int) : decide ((Sum.inl a : Key) = Sum.inl b) = (a == b) := by
  by_cases e : a = b
  · subst e; simp
  · have h : ¬ (Sum.inl a : Key) = Sum.inl b := fun q => e (Sum.inl.inj q)
    rw [decide_eq_false h]
    exact (beq_eq_false_iff_ne.mpr e).symm
theorem key_rr (a b : Str) : decide ((Sum.inr a : Key) = Sum.inr b) = decide (a = b) := by
  by_cases e : a = b
  · subst e; simp
  · have h : ¬ (Sum.inr a : Key) = Sum.inr b := fun q => e (Sum.inr.inj q)
    rw [decide_eq_false h, decide_eq_false e]
theorem key_lr (a : Int) (b : Str) : decide ((Sum.inl a : Key) = Sum.inr b) = false := decide_eq_false (fun q => nomatch q)
theorem key_rl (a : Str) (b : Int) : decide ((Sum.inr a : Key) = Sum.inl b) = false := decide_eq_false (fun q => nomatch q)

def mixKind (prog : Program) (w : World) : PySem.KeyKind prog w Key where
  is := keyIs
  hash := keyH w
  inj := fun v a b ha hb => by
    rcases keyIs_shape ha with ⟨i, t, rfl, rfl⟩ | ⟨x, t, rfl, rfl⟩
    · rcases keyIs_shape hb with ⟨j, u, rfl, e⟩ | ⟨y, u, rfl, e⟩
      · injection e with e1 _; rw [e1]
      · exact nomatch e
    · rcases keyIs_shape hb with ⟨j, u, rfl, e⟩ | ⟨y, u, rfl, e⟩
      · exact nomatch e
      · injection e with e1 _; rw [e1]
  byValue := fun k v h => by
    rcases keyIs_shape h with ⟨i, t, rfl, rfl⟩ | ⟨x, t, rfl, rfl⟩ <;> rfl
  pyHash := fun hv h => by
    rcases keyIs_shape hv with ⟨i, t, rfl, rfl⟩ | ⟨x, t, rfl, rfl⟩
    · exact wpAny_pyHash_int h
    · exact wpAny_pyHash_str h
  eqBool := fun hu hv h => by
    rcases keyIs_shape hu with ⟨i, t, rfl, rfl⟩ | ⟨x, t, rfl, rfl⟩
    · rcases keyIs_shape hv with ⟨j, u, rfl, rfl⟩ | ⟨y, u, rfl, rfl⟩
      · rw [key_ll] at h; exact wpAny_eqBool_int h
      · rw [key_lr] at h; exact SeqAt.EqAt.int_str i t y u _ _ _ _ h
    · rcases keyIs_shape hv with ⟨j, u, rfl, rfl⟩ | ⟨y, u, rfl, rfl⟩
      · rw [key_rl] at h; exact SeqAt.EqAt.str_int x t j u _ _ _ _ h
      · rw [key_rr] at h; exact wpAny_eqBool_str h
  «strs» := fun k x t v h => by
    rcases keyIs_shape h with ⟨i, u, rfl, e⟩ | ⟨y, u, rfl, e⟩
    · exact nomatch e
    · injection e with e1 _
      subst e1
      cases v <;> rfl

theorem mixKind_is (prog : Program) (w : World) (k : Key) (v : Value) : (mixKind prog w).is k v = keyIs k v := rfl
theorem mixKind_int (prog : Program) (w : World) (i : Int) (t : Tok) : (mixKind prog w).is (.inl i) (.int i t) = true := keyIs_int i t
theorem mixKind_str (prog : Program) (w : World) (x : Str) (t : Tok) : (mixKind prog w).is (.inr x) (.str x t) = true := keyIs_str x t
end L2

namespace L2
open PySem PySem.Spec PyProof.Rows

/-- a value, without the heap -/
inductive V where
  | non | bl (b : Bool) | int (i : Int) | str (x : Str) | byt (b : Array UInt8) | flt (b : UInt64) | ref (a : Addr) | ty (n : String)
  deriving DecidableEq

def RelV : V → Value → Prop
  | .non, u => u = Value.none
  | .bl b, u => u = Value.bool b
  | .int i, u => ∃ t, u = Value.int i t
  | .str x, u => ∃ t, u = Value.str x t
  | .byt b, u => ∃ t, u = Value.bytes b t
  | .flt b, u => ∃ t, u = Value.float b t
  | .ref a, u => u = Value.ref a
  | .ty n, u => u = Value.type n

abbrev Vals : List V → List Value → Prop := Paired RelV
theorem Vals.length {xs : List V} {us : List Value} (r : Vals xs us) : xs.length = us.length := Paired.length r
theorem Vals.get : ∀ {xs : List V} {us : List Value} {i : Nat} {x : V}, Vals xs us → xs[i]? = some x → ∃ u, us[i]? = some u ∧ RelV x u
  | _, _, _, _, .nil, e => by simp at e
  | _, _, 0, _, .cons r _, e => by simp at e; subst e; exact ⟨_, rfl, r⟩
  | _, _, i + 1, x, .cons _ t, e => by
    obtain ⟨u, h1, h2⟩ := Vals.get (i := i) (x := x) t (by simpa using e)
    exact ⟨u, by simpa using h1, h2⟩
theorem Vals.set {x : V} {u : Value} (r : RelV x u) : ∀ {xs : List V} {us : List Value} (i : Nat), Vals xs us → Vals (xs.set i x) (us.set i u)
  | _, _, _, .nil => .nil
  | _, _, 0, .cons _ t => .cons r t
  | _, _, i + 1, .cons q t => .cons q (Vals.set r i t)
theorem Vals.append : ∀ {xs ys : List V} {us ws : List Value}, Vals xs us → Vals ys ws → Vals (xs ++ ys) (us ++ ws)
  | _, _, _, _, .nil, s => s
  | _, _, _, _, .cons r t, s => .cons r (Vals.append t s)
theorem Vals.take : ∀ {xs : List V} {us : List Value} (n : Nat), Vals xs us → Vals (xs.take n) (us.take n)
  | _, _, 0, _ => .nil
  | _, _, _ + 1, .nil => .nil
  | _, _, n + 1, .cons r t => .cons r (Vals.take n t)
theorem Vals.drop : ∀ {xs : List V} {us : List Value} (n : Nat), Vals xs us → Vals (xs.drop n) (us.drop n)
  | _, _, 0, r => r
  | _, _, _ + 1, .nil => .nil
  | _, _, n + 1, .cons _ t => Vals.drop n t
theorem Vals.none_of : ∀ {xs : List V} {us : List Value} {i : Nat}, Vals xs us → xs[i]? = none → us[i]? = none := fun {xs us i} r e => by
  have h1 := r.length
  have h2 : xs.length ≤ i := List.getElem?_eq_none_iff.mp e
  exact List.getElem?_eq_none_iff.mpr (by omega)

def RelO : Option V → Option Value → Prop
  | some v, some u => RelV v u
  | none, none => True
  | _, _ => False
def KV {κ : Type} : List (κ × V) → List (κ × Value) → Prop := Paired fun (p : κ × V) (q : κ × Value) => p.1 = q.1 ∧ RelV p.2 q.2

/-- a key of a dict (00_mix): an int or a text -/
def kV : Key → V
  | .inl i => .int i
  | .inr x => .str x

/-- what stands at a tracked address -/
inductive HO where
  /-- a list -/
  | lst (xs : List V)
  /-- a tuple (never changes) -/
  | tup (xs : List V)
  /-- a dict whose keys are ints and texts; one whose keys are tuples of ints and texts (the empty one is both) -/
  | dK (kvs : List (Key × V)) | dT (kvs : List (List Key × V))
  /-- a set of ints: its members, its size -/
  | set (S : Int → Bool) (n : Nat)
  /-- an instance of the class at C, its dict at dx, its attributes -/
  | ins (C dx : Addr) (fs : List (Str × V))
  /-- the dict of the instance at x -/
  | own (x : Addr)
  /-- the dict of an exception -/
  | xd (fs : List (Str × V))
  /-- a bound method, f of x -/
  | met (f x : Addr)
  /-- a range object lo, lo + 1, .. below hi -/
  | rng (lo hi : Int)
  /-- a thing that is known to the object (the script; a dict while a loop walks it): read, never written while it is so -/
  | frz (o : Obj) (u : HO)
  /-- a code object's table -/
  | tbl (ps : Array Value)
  /-- any other thing, by what is true of its one object (a def of one's own: SetO a S n := HO.ext fun h => ..) -/
  | ext (φ : Heap → Prop)

abbrev Hp := Addr → Option HO
def upd (H : Hp) (a : Addr) (o : HO) : Hp := fun b => if b = a then some o else H b
theorem upd_same {H : Hp} {a : Addr} {o : HO} : upd H a o a = some o := by unfold upd; rw [if_pos rfl]
theorem upd_ne {H : Hp} {a b : Addr} {o : HO} (h : b ≠ a) : upd H a o b = H b := by unfold upd; rw [if_neg h]
theorem upd_upd {H : Hp} {a : Addr} {o u : HO} : upd (upd H a o) a u = upd H a u := by
  funext b; unfold upd; split <;> rfl
/-- two objects of different content stand apart -/
theorem ne_of {H : Hp} {a b : Addr} {o u : HO} (h : H a = some o) (h' : H b = some u) (d : o ≠ u) : a ≠ b := by
  intro e; subst e; rw [h] at h'; exact d (Option.some.inj h')
theorem ne_of_none {H : Hp} {a b : Addr} {o : HO} (h : H a = some o) (h' : H b = none) : a ≠ b := by
  intro e; subst e; rw [h] at h'; cases h'

section
variable (P : Program) (w : World)
def ObjOk (H : Hp) (h : Heap) (a : Addr) : HO → Prop
  | .lst xs => xs.length ≤ sizeLine ∧ ∃ (its : List Value) (n : Nat), Vals xs its ∧ h.get? a = some { cls := .type "list", data := .seq its.toArray n }
  | .tup xs => xs.length ≤ sizeLine ∧ ∃ its : List Value, Vals xs its ∧ IsTup h a its.toArray
  | .dK kvs => kvs.length ≤ sizeLine ∧ (a == sysModules) = false ∧ ∃ vs, KV kvs vs ∧ h.DictOf (mixKind P w) a vs
  | .dT kvs => kvs.length ≤ sizeLine ∧ (a == sysModules) = false ∧ ∃ xs : List (List Key × Addr × Value),
      Paired (fun (p : List Key × V) (q : List Key × Addr × Value) => p.1 = q.1 ∧ H q.2.1 = some (.tup (p.1.map kV)) ∧ RelV p.2 q.2.2) kvs xs ∧
      ∃ o es ep, h.get? a = some o ∧ o.ExactDict ∧ o.data = .dict es ep ∧ es.toList = xs.map (entryOfKey (tupleKind (mixKind P w))) ∧ (xs.map (·.1)).Nodup
  | .set S n => h.SetOf (intKind P w) a S n
  | .ins C dx fs => H dx = some (.own a) ∧ fs.length ≤ 1000 ∧ dx ≠ a ∧ h.get? a = some (PySem.W.instObj C dx) ∧
      ∃ mA, h.Ns1 dx mA ∧ (∀ f, RelO (fs.lookup f) (mA f)) ∧ PySem.Within mA (fs.map (·.1))
  | .own _ => ∃ o, h.get? a = some o
  | .xd fs => ∃ mA, h.Ns1 a mA ∧ ∀ f, RelO (fs.lookup f) (mA f)
  | .rng lo hi => ∃ t u v, h.get? a = some { cls := .type "range", data := .fields #[.int lo t, .int hi u, .int 1 v] }
  | .frz o u => h.get? a = some o ∧ ObjOk H h a u
  | .tbl ps => h.get? a = some { cls := .none, data := .fields ps }
  | .met f x => h.get? a = some (PySem.W.methodObj (.ref f) (.ref x))
  | .ext φ => φ h ∧ (∃ o, h.get? a = some o) ∧ ∀ h1 h2 : Heap, φ h1 → (∀ o, h1.get? a = some o → h2.get? a = some o) → φ h2
/-- the abstract heap is held -/
def HOk (H : Hp) (h : Heap) : Prop := ∀ a o, H a = some o → ObjOk P w H h a o
end

section
variable {P : Program} {w : World} {H H' : Hp} {h h' : Heap} {a : Addr} {o : HO}
theorem ObjOk.lt (x : ObjOk P w H h a o) : a < h.objs.size := by
  cases o with
  | lst xs => obtain ⟨_, _, _, _, e⟩ := x; exact Heap.lt_size e
  | tup xs => obtain ⟨_, _, _, p⟩ := x; exact p.lt
  | dK kvs => obtain ⟨_, _, _, _, o, _, _, e, _⟩ := x; exact Heap.lt_size e
  | dT kvs => obtain ⟨_, _, _, _, o, _, _, e, _⟩ := x; exact Heap.lt_size e
  | set S n => obtain ⟨o, _, _, _, e, _⟩ := x; exact Heap.lt_size e
  | ins C dx fs => obtain ⟨_, _, _, e, _⟩ := x; exact Heap.lt_size e
  | own y => obtain ⟨_, e⟩ := x; exact Heap.lt_size e
  | xd fs => obtain ⟨_, ⟨_, _, _, e, _⟩, _⟩ := x; exact Heap.lt_size e
  | rng lo hi => obtain ⟨_, _, _, e⟩ := x; exact Heap.lt_size e
  | frz ob u => obtain ⟨e, _⟩ := x; exact Heap.lt_size e
  | tbl ps => exact Heap.lt_size (show h.get? a = some _ from x)
  | met f y => exact Heap.lt_size (show h.get? a = some _ from x)
  | ext φ => obtain ⟨_, ⟨_, e⟩, _⟩ := x; exact Heap.lt_size e
theorem Paired.mapP {α β : Type} {F G : α → β → Prop} : ∀ {l₁ : List α} {l₂ : List β}, Paired F l₁ l₂ → (∀ a b, F a b → G a b) → Paired G l₁ l₂
  | _, _, .nil, _ => .nil
  | _, _, .cons r t, f => .cons (f _ _ r) (Paired.mapP t f)
theorem Paired.imp' {α β : Type} {F G : α → β → Prop} (f : ∀ a b, F a b → G a b) {l₁ : List α} {l₂ : List β} (r : Paired F l₁ l₂) : Paired G l₁ l₂ := Paired.mapP r f
/-- what an object's description leans on: its own object, its own dict, the tuples -/
theorem ObjOk.stay (x : ObjOk P w H h a o) (k : ∀ b u, (b = a ∨ H b = some (.own a)) → h.get? b = some u → h'.get? b = some u)
    (ho : ∀ b, H b = some (.own a) → H' b = some (.own a)) (ht : ∀ b xs, H b = some (.tup xs) → H' b = some (.tup xs)) : ObjOk P w H' h' a o := by
  induction o with
  | lst xs => obtain ⟨z, its, n, r, e⟩ := x; exact ⟨z, its, n, r, k _ _ (.inl rfl) e⟩
  | tup xs => obtain ⟨z, its, r, ob, e, c⟩ := x; exact ⟨z, its, r, ob, k _ _ (.inl rfl) e, c⟩
  | dK kvs => obtain ⟨z, y, vs, r, ob, es, ep, e, c⟩ := x; exact ⟨z, y, vs, r, ob, es, ep, k _ _ (.inl rfl) e, c⟩
  | dT kvs =>
    obtain ⟨z, y, xs, r, ob, es, ep, e, c⟩ := x
    exact ⟨z, y, xs, Paired.mapP r fun p q z => ⟨z.1, ht _ _ z.2.1, z.2.2⟩, ob, es, ep, k _ _ (.inl rfl) e, c⟩
  | set S n => obtain ⟨ob, es, ep, t, e, c⟩ := x; exact ⟨ob, es, ep, t, k _ _ (.inl rfl) e, c⟩
  | ins C dx fs =>
    obtain ⟨d, z, ne, e, mA, ⟨od, es, ep, e2, c⟩, r⟩ := x
    exact ⟨ho _ d, z, ne, k _ _ (.inl rfl) e, mA, ⟨od, es, ep, k _ _ (.inr d) e2, c⟩, r⟩
  | own y => obtain ⟨ob, e⟩ := x; exact ⟨ob, k _ _ (.inl rfl) e⟩
  | xd fs => obtain ⟨mA, ⟨od, es, ep, e, c⟩, r⟩ := x; exact ⟨mA, ⟨od, es, ep, k _ _ (.inl rfl) e, c⟩, r⟩
  | rng lo hi => obtain ⟨t, u, v, e⟩ := x; exact ⟨t, u, v, k _ _ (.inl rfl) e⟩
  | frz ob u ih => obtain ⟨e, q⟩ := x; exact ⟨k _ _ (.inl rfl) e, ih q⟩
  | tbl ps =>
    have e : h.get? a = some { cls := .none, data := .fields ps } := x
    show h'.get? a = some { cls := .none, data := .fields ps }
    exact k a _ (.inl rfl) e
  | met f y =>
    have e : h.get? a = some (PySem.W.methodObj (.ref f) (.ref y)) := x
    show h'.get? a = some (PySem.W.methodObj (.ref f) (.ref y))
    exact k a _ (.inl rfl) e
  | ext φ => obtain ⟨p, ⟨o, e⟩, st⟩ := x; exact ⟨st _ _ p fun o q => k _ _ (.inl rfl) q, ⟨o, k _ _ (.inl rfl) e⟩, st⟩
theorem HOk.lt (x : HOk P w H h) (e : H a = some o) : a < h.objs.size := (x a o e).lt
theorem HOk.fresh (x : HOk P w H h) (e : h.objs.size ≤ a) : H a = none := by
  cases q : H a with
  | none => rfl
  | some u => exact absurd (Nat.lt_of_lt_of_le (x.lt q) e) (Nat.lt_irrefl _)
/-- every object of the heap is kept -/
theorem HOk.kept (x : HOk P w H h) (k : ∀ b u, h.get? b = some u → h'.get? b = some u) : HOk P w H h' := fun a o e =>
  (x a o e).stay (fun b u _ q => k b u q) (fun _ q => q) fun _ _ q => q
/-- a new object is laid and tracked -/
theorem HOk.laid (x : HOk P w H h) (k : ∀ b u, h.get? b = some u → h'.get? b = some u) (hp : h.objs.size ≤ a) (new : ObjOk P w (upd H a o) h' a o) : HOk P w (upd H a o) h' := fun b u e => by
  have hn := x.fresh hp
  by_cases hb : b = a
  · subst hb; rw [upd_same] at e; cases e; exact new
  · rw [upd_ne hb] at e
    exact (x b u e).stay (fun c v _ q => k c v q) (fun c q => by rw [upd_ne (ne_of_none q hn)]; exact q) fun c xs q => by rw [upd_ne (ne_of_none q hn)]; exact q
end

/-- what may be read as u: it is u, or a known u -/
def Rd (H : Hp) (a : Addr) (u : HO) : Prop := H a = some u ∨ ∃ o, H a = some (.frz o u)
theorem Rd.of {H : Hp} {a : Addr} {u : HO} (h : H a = some u) : Rd H a u := .inl h
theorem Rd.ok {P : Program} {w : World} {H : Hp} {h : Heap} {a : Addr} {u : HO} (r : Rd H a u) (x : HOk P w H h) : ObjOk P w H h a u := by
  rcases r with r | ⟨o, r⟩
  · exact x a u r
  · obtain ⟨_, q⟩ := x a _ r
    exact q
/-- what may be written -/
def Mut : Option HO → Prop
  | some (.lst _) => True
  | some (.dK _) => True
  | some (.dT _) => True
  | some (.set _ _) => True
  | some (.ins _ _ _) => True
  | some (.ext _) => True
  | _ => False
section
variable {P : Program} {w : World} {H : Hp} {h h' : Heap} {x e : Addr} {o' : HO}
/-- the object at e is changed: x itself, or the dict of the instance x -/
theorem HOk.write (ok : HOk P w H h) (mu : Mut (H x)) (he : e = x ∨ H e = some (.own x)) (k : ∀ b u, b ≠ e → h.get? b = some u → h'.get? b = some u) (heo : ∃ u, h'.get? e = some u)
    (new : ObjOk P w (upd H x o') h' x o') : HOk P w (upd H x o') h' := fun b u q => by
  have nown : ∀ c y, H c = some (.own y) → c ≠ x := fun c y r z => by subst z; rw [r] at mu; exact mu
  have ntup : ∀ c xs, H c = some (.tup xs) → c ≠ x := fun c xs r z => by subst z; rw [r] at mu; exact mu
  by_cases hb : b = x
  · subst hb; rw [upd_same] at q; cases q; exact new
  · rw [upd_ne hb] at q
    by_cases hbe : b = e
    · have q' : H b = some (.own x) := by
        rcases he with z | z
        · exact absurd (hbe.trans z) hb
        · rw [hbe]; exact z
      rw [q] at q'; cases q'
      obtain ⟨v, hv⟩ := heo
      exact ⟨v, by rw [hbe]; exact hv⟩
    · refine (ok b u q).stay (fun c v hc r => k c v ?_ r) (fun c r => by rw [upd_ne (nown c b r)]; exact r) fun c xs r => by rw [upd_ne (ntup c xs r)]; exact r
      rcases hc with rfl | hc
      · exact hbe
      · rintro rfl
        rcases he with z | z
        · exact nown c b hc z
        · rw [hc] at z; cases z; exact hb rfl
end

/-! ### kept unless tracked; of the frames at fs (the callers') the slots may change (an exception that passes writes there); of the records at ex (iterators) nothing is said -/
structure Un (fs ex : List Addr) (H H' : Hp) (h h' : Heap) : Prop where
  keep : ∀ b o, h.get? b = some o → H b = none → b ∉ fs → b ∉ ex → h'.get? b = some o
  slot : ∀ b o, h.get? b = some o → H b = none → b ∈ fs → b ∉ ex → ∃ sl, h'.get? b = some { o with slots := sl }
  free : ∀ b o, h.get? b = some o → H b = none → b ∉ ex → H' b = none
  there : ∀ b o, h.get? b = some o → b ∉ ex → ∃ o', h'.get? b = some o'
  tups : ∀ b xs, H b = some (.tup xs) → H' b = some (.tup xs)
  frzs : ∀ b o u, H b = some (.frz o u) → H' b = some (.frz o u)
  tbls : ∀ b ps, H b = some (.tbl ps) → ∃ more, H' b = some (.tbl (ps ++ more))
section
variable {fs fs' ex ex' : List Addr} {H H1 H2 : Hp} {h h1 h2 h' : Heap} {a x e : Addr} {o : HO}
theorem Un.any (u : Un fs ex H H1 h h1) {b : Addr} {ob : Obj} (q : h.get? b = some ob) (n : H b = none) (hx : b ∉ ex) : ∃ sl, h1.get? b = some { ob with slots := sl } := by
  by_cases hb : b ∈ fs
  · exact u.slot b ob q n hb hx
  · exact ⟨ob.slots, u.keep b ob q n hb hx⟩
theorem Un.trans (a : Un fs ex H H1 h h1) (b : Un fs ex H1 H2 h1 h2) : Un fs ex H H2 h h2 where
  keep := fun c ob q n hc hx => b.keep c ob (a.keep c ob q n hc hx) (a.free c ob q n hx) hc hx
  slot := fun c ob q n hc hx => by
    obtain ⟨sl, e1⟩ := a.slot c ob q n hc hx
    obtain ⟨sl', e2⟩ := b.slot c _ e1 (a.free c ob q n hx) hc hx
    exact ⟨sl', e2⟩
  free := fun c ob q n hx => by
    obtain ⟨o', e1⟩ := a.there c ob q hx
    exact b.free c o' e1 (a.free c ob q n hx) hx
  there := fun c ob q hx => by
    obtain ⟨o', e1⟩ := a.there c ob q hx
    exact b.there c o' e1 hx
  tups := fun c xs q => b.tups c xs (a.tups c xs q)
  frzs := fun c ob xs q => b.frzs c ob xs (a.frzs c ob xs q)
  tbls := fun c ps q => by
    obtain ⟨m1, e1⟩ := a.tbls c ps q
    obtain ⟨m2, e2⟩ := b.tbls c _ e1
    exact ⟨m1 ++ m2, by rw [e2, Array.append_assoc]⟩
theorem Un.kept (k : ∀ b u, h.get? b = some u → h'.get? b = some u) : Un fs ex H H h h' :=
  ⟨fun b ob q _ _ _ => k b ob q, fun b ob q _ _ _ => ⟨ob.slots, k b ob q⟩, fun _ _ _ n _ => n, fun b ob q _ => ⟨ob, k b ob q⟩, fun _ _ q => q, fun _ _ _ q => q, fun _ ps q => ⟨#[], by rw [q]; simp⟩⟩
theorem Un.refl : Un fs ex H H h h := Un.kept fun _ _ q => q
theorem Un.laid (k : ∀ b u, h.get? b = some u → h'.get? b = some u) (hp : h.objs.size ≤ a) (hn : H a = none) : Un fs ex H (upd H a o) h h' where
  keep := fun b u q _ _ _ => k b u q
  slot := fun b u q _ _ _ => ⟨u.slots, k b u q⟩
  free := fun b u q n _ => by rw [upd_ne (Nat.ne_of_lt (Nat.lt_of_lt_of_le (Heap.lt_size q) hp))]; exact n
  there := fun b u q _ => ⟨u, k b u q⟩
  tups := fun b xs q => by rw [upd_ne (ne_of_none q hn)]; exact q
  frzs := fun b u xs q => by rw [upd_ne (ne_of_none q hn)]; exact q
  tbls := fun b ps q => ⟨#[], by rw [upd_ne (ne_of_none q hn), q]; simp⟩
theorem Un.write (mu : Mut (H x)) (he : e = x ∨ H e = some (.own x)) (k : ∀ b u, b ≠ e → h.get? b = some u → h'.get? b = some u) (heo : ∃ u, h'.get? e = some u) : Un fs ex H (upd H x o) h h' := by
  have hx : ∀ b, H b = none → b ≠ x := fun b n z => by subst z; rw [n] at mu; exact mu
  have hb : ∀ b, H b = none → b ≠ e := fun b n z => by
    subst z
    rcases he with r | r
    · exact hx b n r
    · rw [n] at r; cases r
  have hm : ∀ b u, H b = some u → ¬ Mut (some u) → b ≠ x := fun b u q nm z => by subst z; rw [q] at mu; exact nm mu
  refine ⟨fun b u q n _ _ => k b u (hb b n) q, fun b u q n _ _ => ⟨u.slots, k b u (hb b n) q⟩, fun b u q n _ => by rw [upd_ne (hx b n)]; exact n, fun b u q _ => ?_,
    fun b xs q => by rw [upd_ne (hm b _ q fun z => z)]; exact q, fun b u xs q => by rw [upd_ne (hm b _ q fun z => z)]; exact q, fun b ps q => ⟨#[], by rw [upd_ne (hm b _ q fun z => z), q]; simp⟩⟩
  by_cases hbe : b = e
  · subst hbe; exact heo
  · exact ⟨u, k b u hbe q⟩
theorem Un.mono (u : Un fs ex H H1 h h1) (hs : ∀ b ∈ fs, b ∈ fs') (hx : ∀ b ∈ ex, b ∈ ex') : Un fs' ex' H H1 h h1 :=
  ⟨fun b ob q n hb he => u.keep b ob q n (fun z => hb (hs b z)) fun z => he (hx b z), fun _ _ q n _ he => u.any q n fun z => he (hx _ z), fun b ob q n he => u.free b ob q n fun z => he (hx b z), fun b ob q he => u.there b ob q fun z => he (hx b z), u.tups, u.frzs, u.tbls⟩
end

/-! ### the heap without what is tracked -/
def trk (h : Heap) (H : Hp) : List Addr := (List.range h.objs.size).filter fun a => (H a).isSome
def hidT (h : Heap) (H : Hp) : Heap := PySem.W.hideAll h (trk h H)
theorem hidT_size (h : Heap) (H : Hp) : (hidT h H).objs.size = h.objs.size := PySem.W.hideAll_size _ _
theorem hidT_get {h : Heap} {H : Hp} {b : Addr} {o : Obj} (e : h.get? b = some o) (n : H b = none) : (hidT h H).get? b = some o :=
  PySem.W.hideAll_get _ e fun hm => by
    have q : (H b).isSome = true := (List.mem_filter.mp hm).2
    rw [n] at q; simp at q
theorem of_hidT {h : Heap} {H : Hp} {b : Addr} {o : Obj} (e : (hidT h H).get? b = some o) : h.get? b = some o ∧ H b = none := by
  have e' : h.get? b = some o := PySem.W.of_hideAll (trk h H) e
  refine ⟨e', ?_⟩
  cases q : H b with
  | none => rfl
  | some x =>
    have hm : b ∈ trk h H := List.mem_filter.mpr ⟨List.mem_range.mpr (Heap.lt_size e'), by simp [q]⟩
    have z : (hidT h H).get? b = none := PySem.W.hideAll_none (trk h H) hm
    rw [z] at e; cases e

/-! ### OpenK's ledger, filled with every new object but one -/
def allNews (g h : Heap) (L : Addr) : List (Addr × Obj) := (List.range h.objs.size).filterMap fun a => if a = L ∨ (g.get? a).isSome = true then none else (h.get? a).map fun o => (a, o)
theorem mem_allNews {g h : Heap} {L a : Addr} {o : Obj} (h1 : a ≠ L) (h2 : g.get? a = none) (h3 : h.get? a = some o) : (a, o) ∈ allNews g h L :=
  List.mem_filterMap.mpr ⟨a, List.mem_range.mpr (Heap.lt_size h3), by simp [h1, h2, h3]⟩
theorem of_mem_allNews {g h : Heap} {L : Addr} {p : Addr × Obj} (hp : p ∈ allNews g h L) : p.1 ≠ L ∧ g.get? p.1 = none ∧ h.get? p.1 = some p.2 := by
  obtain ⟨b, _, e⟩ := List.mem_filterMap.mp hp
  split at e
  · cases e
  · rename_i hn
    cases q : h.get? b with
    | none => rw [q] at e; simp at e
    | some u =>
      rw [q] at e
      simp only [Option.map_some, Option.some.injEq] at e
      subst e
      refine ⟨fun z => hn (.inl z), ?_, q⟩
      show g.get? b = none
      cases r : g.get? b with
      | none => rfl
      | some v => exact (hn (.inr (by simp [r]))).elim
def rest (g h : Heap) (L d : Addr) : List (Addr × Obj) := (allNews g h L).filter fun p => decide (p.1 ≠ d)
theorem rest_ne {g h : Heap} {L d : Addr} : ∀ p ∈ rest g h L d, p.1 ≠ d := fun p hp => of_decide_eq_true (List.mem_filter.mp hp).2
theorem mem_rest {g h : Heap} {L d a : Addr} {o : Obj} (h1 : a ≠ L) (h2 : g.get? a = none) (h3 : h.get? a = some o) (h4 : a ≠ d) : (a, o) ∈ rest g h L d :=
  List.mem_filter.mpr ⟨mem_allNews h1 h2 h3, decide_eq_true h4⟩
theorem news_all {g h : Heap} {L : Addr} : News g L h (allNews g h L) := fun p hp => let ⟨a, b, c⟩ := of_mem_allNews hp; ⟨c, a, b⟩
theorem news_at {g h : Heap} {L d : Addr} {o : Obj} (h1 : d ≠ L) (h2 : g.get? d = none) (h3 : h.get? d = some o) : News g L h ((d, o) :: rest g h L d) := fun p hp => by
  rcases List.mem_cons.mp hp with rfl | hp
  · exact ⟨h3, h1, h2⟩
  · exact news_all p (List.mem_filter.mp hp).1
/-- behind a rule that changed d alone: all else but the frame is kept -/
theorem kept_of_news {g h h' : Heap} {L d : Addr} {m : Str → Option Value} (k : ∀ b o, g.get? b = some o → h.get? b = some o) (F : Fr g L h' m) (N : News g L h' (rest g h L d)) :
    ∀ b o, b ≠ L → b ≠ d → h.get? b = some o → h'.get? b = some o := fun b o h1 h2 e => by
  cases q : g.get? b with
  | some u =>
    have := k b u q
    rw [e] at this; cases this
    exact F.keep b _ q
  | none => exact (N (b, o) (mem_rest h1 q e h2)).1
end L2

namespace L2
open PySem PySem.Spec PyProof.Rows

/-- the module's facts, over the base: the heap at the law's entry without what is tracked there -/
structure Mod (K : PySem.W.Frag) (mg : Str → Option Value) (base : Heap) : Prop where
  kin : K.In base
  glob : base.Ns mainGlobals mg
  blt : ∃ mb, base.Ns builtinsNs mb ∧ ∀ x : Str, x ≠ "__name__" → mb x = bootBuiltins x
  nolimit : base.NoLimit

/-- the context: a def's body (or a comprehension's block) running. base: fixed through the whole law; s₀, H₀: the entry; outer: the frames whose slots others may change (a def's callers); stack: all frames that run;
   ex: iterators that were made ahead of the entry and are walked here (a comprehension's); fn: the names whose cells were made at the entry (a def: all; a comprehension's block: its own); calm: not within an except suite; pn: pins that every state bears; xe: what is wanted of an exception that leaves the code -/
structure Cx where
  prog : Program
  w : World
  K : PySem.W.Frag
  mg : Str → Option Value
  base : Heap
  A : Around
  N : List Str
  s₀ : Shared
  H₀ : Hp
  env : Env
  outer : List Env
  stack : List Env
  ex : List Addr
  fn : Str → Bool
  calm : Bool
  pn : List (Addr × Obj)
  xe : Value → Shared → Prop
/-- the callers' frames -/
def frs (l : List Env) : List Addr := l.filterMap (·.frame)
abbrev Cx.fs (X : Cx) : List Addr := frs X.outer

def Vis (sc : Scope) (x : Str) : Prop := sc.names.lookup x = some .local ∨ sc.names.lookup x = some .cell ∨ sc.names.lookup x = some .free
def Loc (sc : Scope) (x : Str) : Prop := sc.names.lookup x = some .local ∨ sc.names.lookup x = some .cell
def Look (env : Env) (h : Heap) (m : Str → Option Value) (x : Str) (u : Value) : Prop :=
  (env.kindOf x = some .local ∧ m x = some u) ∨ ((env.kindOf x = some .cell ∨ env.kindOf x = some .free) ∧ ∃ c, env.cells.lookup x = some c ∧ h.IsCell c (some u))

structure Cx.Ok (X : Cx) : Prop where
  mod : Mod X.K X.mg X.base
  kind : X.env.scope.kind = .function
  glob : X.env.globals = mainGlobals
  blt : X.env.builtins = builtinsNs
  above : X.s₀.heap.objs.size ≤ X.env.locals
  inj : ∀ x y c, X.env.cells.lookup x = some c → X.env.cells.lookup y = some c → x = y
  has : ∀ x, (X.env.kindOf x = some .cell ∨ X.env.kindOf x = some .free) → ∃ c, X.env.cells.lookup x = some c
  cab : ∀ x c, X.fn x = true → X.env.cells.lookup x = some c → X.s₀.heap.objs.size ≤ c
  hd : X.calm = true → X.A.handled = none
  frames : X.A.frames = some X.stack
  stk : X.stack = X.outer ∨ (X.stack = X.env :: X.outer ∧ X.env.frame = some X.env.locals)
  exf : ∀ b ∈ X.ex, b ≠ X.env.locals ∧ ∀ x c, X.env.cells.lookup x = some c → c ≠ b
  bs : ∀ b o, X.base.get? b = some o → X.s₀.heap.get? b = some o ∧ X.H₀ b = none
  bsz : X.base.objs.size ≤ X.s₀.heap.objs.size
  noex : ∀ b o, X.base.get? b = some o → b ∉ X.ex
  exfs : ∀ b ∈ X.ex, b ∉ X.fs
  funs : X.s₀.heap.FunFrames X.base X.outer
  frf : ∀ b ∈ X.fs, X.H₀ b = none

structure Inv (X : Cx) (pins : List (Addr × Obj)) (σ : List (Option V)) (H : Hp) (s : Shared) : Prop where
  ok : X.Ok
  os : s.os = X.s₀.os
  bare : AllBare s.gens
  base : Un X.fs X.ex X.H₀ H X.s₀.heap s.heap
  loc : ∃ m, s.heap.Ns X.env.locals m ∧ ∀ (i : Nat) (x : Str) (v : V), X.N[i]? = some x → σ[i]? = some (some v) → Vis X.env.scope x → ∃ u, RelV v u ∧ Look X.env s.heap m x u
  cell : ∀ x c, X.env.cells.lookup x = some c → ∃ v, s.heap.IsCell c v
  free : H X.env.locals = none
  freeC : ∀ x c, X.env.cells.lookup x = some c → H c = none
  pin : ∀ p ∈ X.pn ++ pins, s.heap.get? p.1 = some p.2 ∧ H p.1 = none ∧ p.1 ≠ X.env.locals ∧ p.1 ∉ X.fs ∧ ∀ v, p.2.data ≠ .cell v
  hok : HOk X.prog X.w H s.heap
  len : σ.length = X.N.length

section
variable {X : Cx} {pins : List (Addr × Obj)} {σ : List (Option V)} {H H' : Hp} {s : Shared} {h' : Heap}

theorem Cx.Ok.nofr (ok : X.Ok) {b : Addr} {o : Obj} (e : X.base.get? b = some o) : b ∉ X.fs := fun hb => by
  have := (ok.funs.mem hb).1
  rw [e] at this; cases this
theorem Inv.bs (I : Inv X pins σ H s) : ∀ b o, X.base.get? b = some o → s.heap.get? b = some o ∧ H b = none := fun b o e =>
  ⟨I.base.keep b o (I.ok.bs b o e).1 (I.ok.bs b o e).2 (I.ok.nofr e) (I.ok.noex b o e), I.base.free b o (I.ok.bs b o e).1 (I.ok.bs b o e).2 (I.ok.noex b o e)⟩
theorem Inv.bk (I : Inv X pins σ H s) : ∀ b o, X.base.get? b = some o → s.heap.get? b = some o := fun b o e => (I.bs b o e).1
theorem Inv.mod (I : Inv X pins σ H s) : Mod X.K X.mg X.base := I.ok.mod
theorem Inv.kIn (I : Inv X pins σ H s) : X.K.In s.heap := I.ok.mod.kin.keeps I.bk
theorem Inv.nolimit (I : Inv X pins σ H s) : s.heap.NoLimit := I.ok.mod.nolimit.keeps I.bk
/-- the frame over the base: for OpenK's rules (K.In X.base is I.mod.kin) -/
theorem Inv.fr (I : Inv X pins σ H s) : ∃ m, Fr X.base X.env.locals s.heap m :=
  let ⟨m, hn, _⟩ := I.loc
  ⟨m, hn, I.bk, Nat.le_trans I.ok.bsz I.ok.above⟩
theorem Inv.lt (I : Inv X pins σ H s) : X.env.locals < s.heap.objs.size := let ⟨_, hn, _⟩ := I.loc; hn.lt
theorem Inv.sz (I : Inv X pins σ H s) : X.s₀.heap.objs.size ≤ s.heap.objs.size := Nat.le_trans I.ok.above (Nat.le_of_lt I.lt)
theorem Inv.nofs (I : Inv X pins σ H s) {a : Addr} (h : s.heap.objs.size ≤ a) : a ∉ X.fs := fun hb => by
  obtain ⟨_, o, ho, _⟩ := I.ok.funs.mem hb
  exact absurd (Nat.lt_of_lt_of_le (Heap.lt_size ho) (Nat.le_trans I.sz h)) (Nat.lt_irrefl _)
theorem Inv.cne (I : Inv X pins σ H s) : ∀ x c, X.env.cells.lookup x = some c → c ≠ X.env.locals := fun x c e z => by
  obtain ⟨v, o, ho, hd⟩ := I.cell x c e
  obtain ⟨m, ⟨o', es, ep, ho', hd', _⟩, _⟩ := I.loc
  rw [z, ho'] at ho; cases ho; rw [hd'] at hd; cases hd
theorem Inv.funs (I : Inv X pins σ H s) : s.heap.FunFrames X.base X.outer := by
  have all : ∀ (l : List Env), (∀ b ∈ frs l, b ∈ X.fs) → X.s₀.heap.FunFrames X.base l → s.heap.FunFrames X.base l := by
    intro l
    induction l with
    | nil => intro _ _; trivial
    | cons env r ih =>
      intro hs hl
      obtain ⟨hk, ⟨L, o, hf, hn, ho, hd⟩, hr⟩ := hl
      have hL : L ∈ X.fs := hs L (by unfold frs; rw [List.filterMap_cons, hf]; exact List.mem_cons_self)
      obtain ⟨sl, e⟩ := I.base.slot L o ho (I.ok.frf L hL) hL fun z => I.ok.exfs L z hL
      exact ⟨hk, ⟨L, _, hf, hn, e, hd⟩, ih (fun b hb => hs b (by unfold frs; rw [List.filterMap_cons, hf]; exact List.mem_cons_of_mem _ hb)) hr⟩
  exact all X.outer (fun _ hb => hb) I.ok.funs

/-- the frames that run, for a call -/
theorem Inv.stack (I : Inv X pins σ H s) : s.heap.FunFrames X.base X.stack := by
  rcases I.ok.stk with e | ⟨e, hf⟩
  · rw [e]; exact I.funs
  · rw [e]
    obtain ⟨m, hn, _⟩ := I.loc
    refine .cons (by rw [I.ok.kind]; decide) hf hn ?_ I.funs
    exact Heap.get?_none_of_le (Nat.le_trans I.ok.bsz I.ok.above)
theorem Inv.stkSub (I : Inv X pins σ H s) : ∀ b ∈ frs X.stack, b ∈ X.env.locals :: X.fs := fun b hb => by
  rcases I.ok.stk with e | ⟨e, hf⟩
  · rw [e] at hb; exact List.mem_cons_of_mem _ hb
  · rw [e] at hb
    unfold frs at hb
    rw [List.filterMap_cons, hf] at hb
    exact hb
theorem Inv.stkFree (I : Inv X pins σ H s) : ∀ b ∈ frs X.stack, H b = none := fun b hb => by
  rcases List.mem_cons.mp (I.stkSub b hb) with e | hb
  · rw [e]; exact I.free
  · obtain ⟨_, o, ho, _⟩ := I.ok.funs.mem hb
    exact I.base.free b o ho (I.ok.frf b hb) fun z => I.ok.exfs b z hb

/-- THE STEP: the untracked objects but the frame and the records at ch are kept (the callers' frames up to slots), the frame's map is kept, the new abstract heap is held -/
theorem Inv.step {g' : Array GenState} {t' : Nat} {d' : Drawn} {ch : List Addr} (I : Inv X pins σ H s)
    (hch : ∀ b ∈ ch, (b ∈ X.ex ∨ X.s₀.heap.objs.size ≤ b) ∧ b ≠ X.env.locals ∧ (∀ x c, X.env.cells.lookup x = some c → c ≠ b) ∧ ∀ p ∈ X.pn ++ pins, p.1 ≠ b)
    (keep : ∀ b o, b ≠ X.env.locals → b ∉ X.fs → b ∉ ch → s.heap.get? b = some o → H b = none → h'.get? b = some o)
    (slot : ∀ b o, b ≠ X.env.locals → b ∈ X.fs → b ∉ ch → s.heap.get? b = some o → H b = none → ∃ sl, h'.get? b = some { o with slots := sl }) (free : ∀ b o, b ∉ ch → s.heap.get? b = some o → H b = none → H' b = none)
    (there : ∀ b o, b ∉ ch → s.heap.get? b = some o → ∃ o', h'.get? b = some o')
    (tups : ∀ b xs, H b = some (.tup xs) → H' b = some (.tup xs)) (frzs : ∀ b o u, H b = some (.frz o u) → H' b = some (.frz o u)) (tbls : ∀ b ps, H b = some (.tbl ps) → ∃ more, H' b = some (.tbl (ps ++ more)))
    (ns : ∀ m, s.heap.Ns X.env.locals m → h'.Ns X.env.locals m) (hok : HOk X.prog X.w H' h') (hg : AllBare g') :
    Inv X pins σ H' { s with heap := h', gens := g', drawn := d', toks := t' } := by
  have neL : ∀ b o, X.s₀.heap.get? b = some o → b ≠ X.env.locals := fun b o e => Nat.ne_of_lt (Nat.lt_of_lt_of_le (Heap.lt_size e) I.ok.above)
  have neC : ∀ b o, X.s₀.heap.get? b = some o → b ∉ X.ex → b ∉ ch := fun b o e hx hb => by
    rcases (hch b hb).1 with z | z
    · exact hx z
    · exact absurd (Nat.lt_of_lt_of_le (Heap.lt_size e) z) (Nat.lt_irrefl _)
  have cellK : ∀ x c, X.env.cells.lookup x = some c → ∀ v, s.heap.IsCell c v → h'.IsCell c v := fun x c e v ⟨o, ho, hd⟩ => by
    have nch : c ∉ ch := fun z => (hch c z).2.2.1 x c e rfl
    by_cases hc : c ∈ X.fs
    · obtain ⟨sl, q⟩ := slot c o (I.cne x c e) hc nch ho (I.freeC x c e)
      exact ⟨_, q, hd⟩
    · exact ⟨o, keep c o (I.cne x c e) hc nch ho (I.freeC x c e), hd⟩
  refine ⟨I.ok, I.os, hg, ⟨fun b o e n hb hx => ?_, fun b o e n hb hx => ?_, fun b o e n hx => ?_, fun b o e hx => ?_, fun b xs e => tups b xs (I.base.tups b xs e), fun b o xs e => frzs b o xs (I.base.frzs b o xs e), fun b ps e => ?_⟩, ?_, fun x c e => ?_, ?_, fun x c e => ?_, fun p hp => ?_, hok, I.len⟩
  · exact keep b o (neL b o e) hb (neC b o e hx) (I.base.keep b o e n hb hx) (I.base.free b o e n hx)
  · obtain ⟨sl, e1⟩ := I.base.slot b o e n hb hx
    obtain ⟨sl', e2⟩ := slot b _ (neL b o e) hb (neC b o e hx) e1 (I.base.free b o e n hx)
    exact ⟨sl', e2⟩
  · obtain ⟨o', e1⟩ := I.base.there b o e hx
    exact free b o' (neC b o e hx) e1 (I.base.free b o e n hx)
  · obtain ⟨o', e1⟩ := I.base.there b o e hx
    exact there b o' (neC b o e hx) e1
  · obtain ⟨m1, e1⟩ := I.base.tbls b ps e
    obtain ⟨m2, e2⟩ := tbls b _ e1
    exact ⟨m1 ++ m2, by rw [e2, Array.append_assoc]⟩
  · obtain ⟨m, hn, hl⟩ := I.loc
    refine ⟨m, ns m hn, fun i x v e1 e2 e3 => ?_⟩
    obtain ⟨u, r, l⟩ := hl i x v e1 e2 e3
    refine ⟨u, r, ?_⟩
    rcases l with l | ⟨k, c, e, z⟩
    · exact .inl l
    · exact .inr ⟨k, c, e, cellK x c e _ z⟩
  · obtain ⟨v, z⟩ := I.cell x c e
    exact ⟨v, cellK x c e v z⟩
  · obtain ⟨m, ⟨o, _, _, ho, _⟩, _⟩ := I.loc
    exact free _ o (fun z => (hch _ z).2.1 rfl) ho I.free
  · obtain ⟨v, o, ho, hd⟩ := I.cell x c e
    exact free c o (fun z => (hch c z).2.2.1 x c e rfl) ho (I.freeC x c e)
  · obtain ⟨e, n, ne, nf, d⟩ := I.pin p hp
    have nch : p.1 ∉ ch := fun z => (hch p.1 z).2.2.2 p hp rfl
    exact ⟨keep p.1 p.2 ne nf nch e n, free p.1 p.2 nch e n, ne, nf, d⟩
/-- .. where the frame's own object is kept too -/
theorem Inv.un {t' : Nat} (I : Inv X pins σ H s) (u : Un X.fs [] H H' s.heap h') (hok : HOk X.prog X.w H' h') : Inv X pins σ H' { s with heap := h', toks := t' } := by
  obtain ⟨m, ⟨o, es, ep, ho, r⟩, _⟩ := id I.loc
  obtain ⟨sl, hL⟩ := u.any ho I.free (by simp)
  exact I.step (g' := s.gens) (d' := s.drawn) (ch := []) (fun _ z => nomatch z) (fun b o _ hb _ e n => u.keep b o e n hb (by simp)) (fun b o _ hb _ e n => u.slot b o e n hb (by simp)) (fun b o _ e n => u.free b o e n (by simp)) (fun b o _ e => u.there b o e (by simp)) u.tups u.frzs u.tbls (fun m' hm => by
    obtain ⟨o', es', ep', ho', r'⟩ := hm
    rw [ho] at ho'; cases ho'
    exact ⟨_, es', ep', hL, r'⟩) hok I.bare
/-- behind a call (or a comprehension's block): the slots of this frame may have changed too, the records at ch may have turned -/
theorem Inv.call {g' : Array GenState} {t' : Nat} {d' : Drawn} {ch : List Addr} (I : Inv X pins σ H s) (u : Un (frs X.stack) ch H H' s.heap h') (hok : HOk X.prog X.w H' h') (hg : AllBare g')
    (hch : ∀ b ∈ ch, (b ∈ X.ex ∨ X.s₀.heap.objs.size ≤ b) ∧ b ≠ X.env.locals ∧ (∀ x c, X.env.cells.lookup x = some c → c ≠ b) ∧ ∀ p ∈ X.pn ++ pins, p.1 ≠ b) :
    Inv X pins σ H' { s with heap := h', gens := g', drawn := d', toks := t' } := by
  obtain ⟨m, ⟨o, es, ep, ho, r⟩, _⟩ := id I.loc
  obtain ⟨sl, hL⟩ := u.any ho I.free fun z => (hch _ z).2.1 rfl
  exact I.step (ch := ch) hch (fun b o hL hb hc e n => u.keep b o e n (fun z => (List.mem_cons.mp (I.stkSub b z)).elim hL hb) hc) (fun b o _ _ hc e n => u.any e n hc) (fun b o hc e n => u.free b o e n hc) (fun b o hc e => u.there b o e hc) u.tups u.frzs u.tbls (fun m' hm => by
    obtain ⟨o', es', ep', ho', r'⟩ := hm
    rw [ho] at ho'; cases ho'
    exact ⟨_, es', ep', hL, r'⟩) hok hg
/-- an untracked record of ours (an iterator) has turned -/
theorem Inv.turned {t' : Nat} {it : Addr} (I : Inv X pins σ H s) (k : ∀ b o, b ≠ it → s.heap.get? b = some o → h'.get? b = some o) (hn : H it = none) (hL : it ≠ X.env.locals)
    (h1 : it ∈ X.ex ∨ X.s₀.heap.objs.size ≤ it) (h2 : ∀ x c, X.env.cells.lookup x = some c → c ≠ it) (h3 : ∀ p ∈ X.pn ++ pins, p.1 ≠ it) : Inv X pins σ H { s with heap := h', toks := t' } := by
  have nit : ∀ b u, H b = some u → b ≠ it := fun b u e z => by rw [z, hn] at e; cases e
  refine I.step (g' := s.gens) (d' := s.drawn) (ch := [it]) (fun b hb => ?_) (fun b o _ _ hc e _ => k b o (fun z => hc (by simp [z])) e) (fun b o _ _ hc e _ => ⟨o.slots, k b o (fun z => hc (by simp [z])) e⟩) (fun _ _ _ _ n => n)
    (fun b o hc e => ⟨o, k b o (fun z => hc (by simp [z])) e⟩) (fun _ _ e => e) (fun _ _ _ e => e) (fun b ps e => ⟨#[], by rw [e]; simp⟩) (fun m hm => ?_) (fun b u e => ?_) I.bare
  · have e : b = it := by simpa using hb
    subst e
    exact ⟨h1, hL, h2, h3⟩
  · obtain ⟨o, es, ep, ho, r⟩ := hm
    exact ⟨o, es, ep, k _ o (Ne.symm hL) ho, r⟩
  · refine (I.hok b u e).stay (fun c v hc q => k c v ?_ q) (fun _ q => q) fun _ _ q => q
    rcases hc with z | z
    · rw [z]; exact nit b u e
    · exact nit c _ z
theorem Inv.tok (I : Inv X pins σ H s) (t : Nat) : Inv X pins σ H { s with toks := t } := I.un (h' := s.heap) (t' := t) Un.refl I.hok
/-- all objects kept -/
theorem Inv.kept {t' : Nat} (I : Inv X pins σ H s) (k : ∀ b u, s.heap.get? b = some u → h'.get? b = some u) : Inv X pins σ H { s with heap := h', toks := t' } := I.un (Un.kept k) (I.hok.kept k)
/-- a new object laid and tracked -/
theorem Inv.laid {a : Addr} {o : HO} {t' : Nat} (I : Inv X pins σ H s) (k : ∀ b u, s.heap.get? b = some u → h'.get? b = some u) (hp : s.heap.objs.size ≤ a) (new : ObjOk X.prog X.w (upd H a o) h' a o) :
    Inv X pins σ (upd H a o) { s with heap := h', toks := t' } := I.un (Un.laid k hp (I.hok.fresh hp)) (I.hok.laid k hp new)
/-- an object written -/
theorem Inv.write {x e : Addr} {o : HO} {t' : Nat} (I : Inv X pins σ H s) (mu : Mut (H x)) (he : e = x ∨ H e = some (.own x)) (k : ∀ b u, b ≠ e → s.heap.get? b = some u → h'.get? b = some u) (heo : ∃ u, h'.get? e = some u)
    (new : ObjOk X.prog X.w (upd H x o) h' x o) : Inv X pins σ (upd H x o) { s with heap := h', toks := t' } := I.un (Un.write mu he k heo) (I.hok.write mu he k heo new)
/-- forgetting slots, pins -/
theorem Inv.weak {σ' : List (Option V)} (I : Inv X pins σ H s) (hl : σ'.length = σ.length) (w : ∀ (i : Nat) v, σ'[i]? = some (some v) → σ[i]? = some (some v)) : Inv X pins σ' H s :=
  ⟨I.ok, I.os, I.bare, I.base, let ⟨m, hn, hl'⟩ := I.loc; ⟨m, hn, fun i x v e1 e2 e3 => hl' i x v e1 (w i v e2) e3⟩, I.cell, I.free, I.freeC, I.pin, I.hok, hl.trans I.len⟩
theorem Inv.pins_of {pins' : List (Addr × Obj)} (I : Inv X pins σ H s) (h : ∀ p ∈ pins', s.heap.get? p.1 = some p.2 ∧ H p.1 = none ∧ p.1 ≠ X.env.locals ∧ p.1 ∉ X.fs ∧ ∀ v, p.2.data ≠ .cell v) : Inv X pins' σ H s :=
  ⟨I.ok, I.os, I.bare, I.base, I.loc, I.cell, I.free, I.freeC, fun p hp => (List.mem_append.mp hp).elim (fun z => I.pin p (List.mem_append_left _ z)) (h p), I.hok, I.len⟩

theorem nodup_ix {N : List Str} (hN : N.Nodup) {i j : Nat} {x : Str} (a : N[i]? = some x) (b : N[j]? = some x) : i = j := by
  obtain ⟨h1, e1⟩ := List.getElem?_eq_some_iff.mp a
  obtain ⟨h2, e2⟩ := List.getElem?_eq_some_iff.mp b
  exact (List.getElem_inj hN).mp (e1.trans e2.symm)

/-- a name is stored; what changed -/
theorem store_ok2 {M : Model} {A : Around} {E : Value → Shared → Prop} {i : Nat} {x : Str} {v : V} {u : Value} {Q : Unit → Shared → Prop} (I : Inv X pins σ H s) (hN : X.N.Nodup) (hi : X.N[i]? = some x) (hx : Loc X.env.scope x) (r : RelV v u)
    (h : ∀ s', Inv X pins (σ.set i (some v)) H s' → (∃ a, Heap.SameBut a s.heap s'.heap ∧ (a = X.env.locals ∨ X.env.cells.lookup x = some a)) → Q () s') (hf : X.fn x = true ∨ X.env.scope.names.lookup x = some .local := by first | exact .inl rfl | exact .inr rfl | assumption) : wpAny M A (storeName X.env x u) Q E s := by
  obtain ⟨m, hn, hl⟩ := id I.loc
  have hcls : (X.env.scope.kind == .class || (X.env.scope.kind == .module && X.env.locals != X.env.globals)) = false := by rw [I.ok.kind]; rfl
  have hiσ : i < σ.length := by rw [I.len]; exact (List.getElem?_eq_some_iff.mp hi).1
  have cne := I.cne
  have tracked : ∀ {a : Addr} {h' : Heap}, (∃ o, s.heap.get? a = some o ∧ H a = none) → Heap.SameBut a s.heap h' → HOk X.prog X.w H h' := fun {a h'} ha hs b ob e => by
    obtain ⟨_, _, hfree⟩ := ha
    refine (I.hok b ob e).stay (fun c w' hc q => (hs.2 c ?_).trans q) (fun _ q => q) fun _ _ q => q
    rintro rfl
    rcases hc with rfl | hc
    · rw [hfree] at e; cases e
    · rw [hfree] at hc; cases hc
  rcases hx with hk | hk
  · refine wpAny_storeName_local hk hn (fun h' hn' hs => ?_) hcls
    obtain ⟨oL, _, _, hoL, _⟩ := id hn
    refine h _ ⟨I.ok, I.os, I.bare, ⟨fun b o e n hb hx => ?_, fun b o e n hb hx => ?_, I.base.free, fun b o e hx => ?_, I.base.tups, I.base.frzs, I.base.tbls⟩, ⟨_, hn', fun j y v' e1 e2 e3 => ?_⟩, fun y c e => ?_, I.free, I.freeC, fun p hp => ?_, tracked ⟨oL, hoL, I.free⟩ hs, by simpa using I.len⟩ ⟨_, hs, .inl rfl⟩
    · exact (hs.2 b (Nat.ne_of_lt (Nat.lt_of_lt_of_le (Heap.lt_size e) I.ok.above))).trans (I.base.keep b o e n hb hx)
    · obtain ⟨sl, e1⟩ := I.base.slot b o e n hb hx
      exact ⟨sl, (hs.2 b (Nat.ne_of_lt (Nat.lt_of_lt_of_le (Heap.lt_size e) I.ok.above))).trans e1⟩
    · obtain ⟨o', e1⟩ := I.base.there b o e hx
      exact ⟨o', (hs.2 b (Nat.ne_of_lt (Nat.lt_of_lt_of_le (Heap.lt_size e) I.ok.above))).trans e1⟩
    · by_cases hj : j = i
      · subst hj
        rw [hi] at e1; cases e1
        rw [List.getElem?_set_self hiσ] at e2
        cases e2
        exact ⟨u, r, .inl ⟨hk, by simp⟩⟩
      · rw [List.getElem?_set_ne (Ne.symm hj)] at e2
        obtain ⟨u', r', q⟩ := hl j y v' e1 e2 e3
        refine ⟨u', r', ?_⟩
        rcases q with ⟨k, e⟩ | ⟨k, c, e, z⟩
        · refine .inl ⟨k, ?_⟩
          have : y ≠ x := fun e => hj (nodup_ix hN e1 (e ▸ hi))
          simp [this, e]
        · exact .inr ⟨k, c, e, z.sameBut hs (cne y c e)⟩
    · obtain ⟨w', z⟩ := I.cell y c e
      exact ⟨w', z.sameBut hs (cne y c e)⟩
    · obtain ⟨e, n, ne, nf, d⟩ := I.pin p hp
      exact ⟨(hs.2 p.1 ne).trans e, n, ne, nf, d⟩
  · have hfn : X.fn x = true := by
      rcases hf with z | z
      · exact z
      · rw [z] at hk; cases hk
    obtain ⟨c, hc⟩ := I.ok.has x (.inl hk)
    obtain ⟨w', z⟩ := I.cell x c hc
    refine wpAny_storeName_cell I.ok.kind hk hc z (fun h' hc' hs => ?_)
    obtain ⟨oc, hoc, hocd⟩ := id z
    refine h { s with heap := h' } ⟨I.ok, I.os, I.bare, ⟨fun b o e n hb hx => ?_, fun b o e n hb hx => ?_, I.base.free, fun b o e hx => ?_, I.base.tups, I.base.frzs, I.base.tbls⟩, ⟨m, hn.sameBut hs (Ne.symm (cne x c hc)), fun j y v' e1 e2 e3 => ?_⟩, fun y c' e => ?_, I.free, I.freeC, fun p hp => ?_, tracked ⟨oc, hoc, I.freeC x c hc⟩ hs, by simpa using I.len⟩ ⟨c, hs, .inr hc⟩
    · exact (hs.2 b (Nat.ne_of_lt (Nat.lt_of_lt_of_le (Heap.lt_size e) (I.ok.cab x c hfn hc)))).trans (I.base.keep b o e n hb hx)
    · obtain ⟨sl, e1⟩ := I.base.slot b o e n hb hx
      exact ⟨sl, (hs.2 b (Nat.ne_of_lt (Nat.lt_of_lt_of_le (Heap.lt_size e) (I.ok.cab x c hfn hc)))).trans e1⟩
    · obtain ⟨o', e1⟩ := I.base.there b o e hx
      exact ⟨o', (hs.2 b (Nat.ne_of_lt (Nat.lt_of_lt_of_le (Heap.lt_size e) (I.ok.cab x c hfn hc)))).trans e1⟩
    · by_cases hj : j = i
      · subst hj
        rw [hi] at e1; cases e1
        rw [List.getElem?_set_self hiσ] at e2
        cases e2
        exact ⟨u, r, .inr ⟨.inl hk, c, hc, hc'⟩⟩
      · rw [List.getElem?_set_ne (Ne.symm hj)] at e2
        obtain ⟨u', r', q⟩ := hl j y v' e1 e2 e3
        refine ⟨u', r', ?_⟩
        rcases q with q | ⟨k, c', e, z'⟩
        · exact .inl q
        · refine .inr ⟨k, c', e, z'.sameBut hs ?_⟩
          rintro rfl
          exact hj (nodup_ix hN e1 (I.ok.inj _ _ _ e hc ▸ hi))
    · by_cases hcc : c' = c
      · subst hcc; exact ⟨_, hc'⟩
      · obtain ⟨w2, z2⟩ := I.cell y c' e
        exact ⟨w2, z2.sameBut hs hcc⟩
    · obtain ⟨e, n, ne, nf, d⟩ := I.pin p hp
      refine ⟨(hs.2 p.1 ?_).trans e, n, ne, nf, d⟩
      intro q
      rw [q, hoc] at e
      have q' : oc = p.2 := Option.some.inj e
      exact d w' (by rw [← q']; exact hocd)
theorem store_ok {M : Model} {A : Around} {E : Value → Shared → Prop} {i : Nat} {x : Str} {v : V} {u : Value} {Q : Unit → Shared → Prop} (I : Inv X pins σ H s) (hN : X.N.Nodup) (hi : X.N[i]? = some x) (hx : Loc X.env.scope x) (r : RelV v u)
    (h : ∀ s', Inv X pins (σ.set i (some v)) H s' → Q () s') (hf : X.fn x = true ∨ X.env.scope.names.lookup x = some .local := by first | exact .inl rfl | exact .inr rfl | assumption) : wpAny M A (storeName X.env x u) Q E s :=
  store_ok2 I hN hi hx r (fun s' I' _ => h s' I') hf
/-- behind a call or a block, the state as it is -/
theorem Inv.call' {s' : Shared} {ch : List Addr} (I : Inv X pins σ H s) (ho : s'.os = s.os) (u : Un (frs X.stack) ch H H' s.heap s'.heap) (hok : HOk X.prog X.w H' s'.heap) (hg : AllBare s'.gens)
    (hch : ∀ b ∈ ch, (b ∈ X.ex ∨ X.s₀.heap.objs.size ≤ b) ∧ b ≠ X.env.locals ∧ (∀ x c, X.env.cells.lookup x = some c → c ≠ b) ∧ ∀ p ∈ X.pn ++ pins, p.1 ≠ b) : Inv X pins σ H' s' := by
  obtain ⟨h', g', d', t', o'⟩ := s'
  have e : o' = s.os := ho
  subst e
  exact I.call (g' := g') (t' := t') (d' := d') u hok hg hch
end

/-! ### the judgements -/
/-- an exception: its class, its own dict's address (where it has one), the abstract heap behind it -/
abbrev XK := Value → Option Addr → Hp → Prop
abbrev St := List (Option V)
abbrev VK := V → Hp → Prop
/-- an expression's reading; a test's; an argument list's -/
abbrev TE := St → Hp → VK → Prop
abbrev TT := St → Hp → (Bool → Hp → Prop) → Prop
abbrev TA := St → Hp → (List V → Hp → Prop) → Prop
/-- what is wanted behind a statement -/
structure Ends where
  nx : St → Hp → Prop
  rt : VK
  bk : St → Hp → Prop := fun _ _ => False
  ct : St → Hp → Prop := fun _ _ => False
abbrev TS := Ends → St → Hp → Prop

def EP (X : Cx) (pins : List (Addr × Obj)) (σ : St) (Q : VK) (u : Value) (s' : Shared) : Prop := ∃ v H', Inv X pins σ H' s' ∧ RelV v u ∧ Q v H'
def TP (X : Cx) (pins : List (Addr × Obj)) (σ : St) (Q : Bool → Hp → Prop) (b : Bool) (s' : Shared) : Prop := ∃ H', Inv X pins σ H' s' ∧ Q b H'
def AP (X : Cx) (pins : List (Addr × Obj)) (σ : St) (Q : List V → Hp → Prop) (us : List Value) (s' : Shared) : Prop := ∃ vs H', Inv X pins σ H' s' ∧ Vals vs us ∧ Q vs H'
def SP (X : Cx) (pins : List (Addr × Obj)) (D : Ends) (f : Flow) (s' : Shared) : Prop :=
  match f with
  | .next => ∃ σ' H', Inv X pins σ' H' s' ∧ D.nx σ' H'
  | .brk => ∃ σ' H', Inv X pins σ' H' s' ∧ D.bk σ' H'
  | .cont => ∃ σ' H', Inv X pins σ' H' s' ∧ D.ct σ' H'
  | .ret u => ∃ v σ' H', Inv X pins σ' H' s' ∧ RelV v u ∧ D.rt v H'

def PE (X : Cx) (e : Expr) (t : TE) : Prop :=
  ∀ (pins : List (Addr × Obj)) (s : Shared) (σ : St) (H : Hp) (Q : VK), Inv X pins σ H s → t σ H Q → wpAny (model X.prog X.w) X.A (eval e X.env) (EP X pins σ Q) X.xe s
def PT (X : Cx) (e : Expr) (t : TT) : Prop :=
  ∀ (pins : List (Addr × Obj)) (s : Shared) (σ : St) (H : Hp) (Q : Bool → Hp → Prop), Inv X pins σ H s → t σ H Q → wpAny (model X.prog X.w) X.A (isTrue e X.env (eval e X.env)) (TP X pins σ Q) X.xe s
/-- a test whatever its 'whole' is (and, or) -/
def PW (X : Cx) (e : Expr) (t : TT) : Prop :=
  ∀ (whole : Sem Value) (pins : List (Addr × Obj)) (s : Shared) (σ : St) (H : Hp) (Q : Bool → Hp → Prop), Inv X pins σ H s → t σ H Q → wpAny (model X.prog X.w) X.A (isTrue e X.env whole) (TP X pins σ Q) X.xe s
theorem PW.pt {X : Cx} {e : Expr} {t : TT} (h : PW X e t) : PT X e t := h _
/-- an argument list (no star), from the left -/
def PA (X : Cx) (es : List Expr) (t : TA) : Prop :=
  ∀ (pos : Pos) (pins : List (Addr × Obj)) (s : Shared) (σ : St) (H : Hp) (Q : List V → Hp → Prop), Inv X pins σ H s → t σ H Q → wpAny (model X.prog X.w) X.A (spliced (backTo pos (starEach es X.env))) (AP X pins σ Q) X.xe s
def PS (X : Cx) (st : Stmt) (t : TS) : Prop :=
  ∀ (pins : List (Addr × Obj)) (s : Shared) (σ : St) (H : Hp) (D : Ends), Inv X pins σ H s → t D σ H → wpAny (model X.prog X.w) X.A (exec st X.env) (SP X pins D) X.xe s
def PSs (X : Cx) (st : List Stmt) (t : TS) : Prop :=
  ∀ (pins : List (Addr × Obj)) (s : Shared) (σ : St) (H : Hp) (D : Ends), Inv X pins σ H s → t D σ H → wpAny (model X.prog X.w) X.A (execs st X.env) (SP X pins D) X.xe s
/-- weaken the end -/
theorem thn {α : Type} {t : Sem α} {Q Q' : α → Shared → Prop} {M : Model} {A : Around} {E : Value → Shared → Prop} {s : Shared} (h : wpAny M A t Q E s) (hQ : ∀ a s, Q a s → Q' a s) : wpAny M A t Q' E s := wpAny_mono h hQ fun _ _ x => x
end L2

namespace L2
open PySem PySem.Spec PyProof.Rows
section
variable {X : Cx}

/-- two expressions in a row -/
theorem bin {a b : Expr} {ta tb : TE} (ha : PE X a ta) (hb : PE X b tb) {pins : List (Addr × Obj)} {s : Shared} {σ : St} {H : Hp} {R : V → V → Hp → Prop} (I : Inv X pins σ H s) (h : ta σ H fun x H1 => tb σ H1 fun y H2 => R x y H2)
    {α : Type} {Q : α → Shared → Prop} {f : Value → Value → Sem α}
    (hf : ∀ v u s2 x y H2, Inv X pins σ H2 s2 → RelV x v → RelV y u → R x y H2 → wpAny (model X.prog X.w) X.A (f v u) Q X.xe s2) :
    wpAny (model X.prog X.w) X.A (eval a X.env) (fun v s₁ => wpAny (model X.prog X.w) X.A (eval b X.env) (fun u s₂ => wpAny (model X.prog X.w) X.A (f v u) Q X.xe s₂) X.xe s₁) X.xe s := by
  refine thn (ha pins s σ H _ I h) fun v s1 ⟨x, H1, I1, r1, q1⟩ => ?_
  refine thn (hb pins s1 σ H1 _ I1 q1) fun u s2 ⟨y, H2, I2, r2, q2⟩ => ?_
  exact hf v u s2 x y H2 I2 r1 r2 q2

/-! ### names and constants -/
def tVar (i : Nat) : TE := fun σ H Q => ∃ v, σ[i]? = some (some v) ∧ Q v H
def tC (v : V) : TE := fun _ H Q => Q v H
theorem pe_var {i : Nat} {x : Str} {pos : Pos} (hN : X.N[i]? = some x) (hv : Vis X.env.scope x) (hd : (x == ("__debug__" : Str)) = false := by decide) (hcd : (x == ("__classdict__" : Str)) = false := by decide) : PE X (.Name x pos) (tVar i) := by
  intro pins s σ H Q I h
  obtain ⟨v, e, h⟩ := h
  obtain ⟨m, hn, hl⟩ := I.loc
  obtain ⟨u, r, l⟩ := hl i x v hN e hv
  have fin : EP X pins σ Q u s := ⟨v, H, I, r, h⟩
  rcases l with ⟨hk, hm⟩ | ⟨hk, c, hc, hcell⟩
  · exact wpAny_Name (wpAny_loadName_local I.ok.kind hk hn hm fin) hd
  · rcases hk with hk | hk
    · exact wpAny_Name (wpAny_loadName_cell I.ok.kind hk hc hcell fin) hd
    · exact wpAny_Name (wpAny_loadName_free I.ok.kind hk hc hcell fin hcd) hd
theorem pe_int {i j pos} : PE X (.Constant (.int i) j pos) (tC (.int i)) := fun _ _ _ H _ I h => wpAny_Constant_int ⟨.int i, H, I.tok _, ⟨_, rfl⟩, h⟩
theorem pe_bl {b j pos} : PE X (.Constant (.bool b) j pos) (tC (.bl b)) := fun _ _ _ H _ I h => Constant_bool ⟨.bl b, H, I, rfl, h⟩
theorem pe_non {j pos} : PE X (.Constant .none j pos) (tC .non) := fun _ _ _ H _ I h => Constant_none ⟨.non, H, I, rfl, h⟩
theorem pe_str {x j pos} : PE X (.Constant (.str x) j pos) (tC (.str x)) := fun _ _ _ H _ I h => Calls.Constant_str ⟨.str x, H, I.tok _, ⟨_, rfl⟩, h⟩

/-- a global name of the def -/
def Gl (X : Cx) (x : Str) : Prop := X.env.kindOf x = some .globalImplicit
theorem ld_glob {E : Value → Shared → Prop} {pins : List (Addr × Obj)} {s : Shared} {σ : St} {H : Hp} {x : Str} {u : Value} {pos : Pos} {Q : Value → Shared → Prop} (I : Inv X pins σ H s) (hg : Gl X x) (hm : X.mg x = some u) (h : Q u s)
    (hd : (x == ("__debug__" : Str)) = false := by decide) : wpAny (model X.prog X.w) X.A (eval (.Name x pos) X.env) Q E s :=
  Calls.Name_function_global I.ok.kind hg (Calls.loadGlobal_global (by rw [I.ok.glob]; exact I.mod.glob.keeps I.bk) hm h) hd
theorem ld_blt {E : Value → Shared → Prop} {pins : List (Addr × Obj)} {s : Shared} {σ : St} {H : Hp} {x : Str} {u : Value} {pos : Pos} {Q : Value → Shared → Prop} (I : Inv X pins σ H s) (hg : Gl X x) (hm : X.mg x = none) (hv : bootBuiltins x = some u) (h : Q u s)
    (hn : x ≠ "__name__" := by decide) (hd : (x == ("__debug__" : Str)) = false := by decide) : wpAny (model X.prog X.w) X.A (eval (.Name x pos) X.env) Q E s := by
  obtain ⟨mb, h1, h2⟩ := I.mod.blt
  exact Calls.Name_function_global I.ok.kind hg (Calls.loadGlobal_builtin (by rw [I.ok.glob]; exact I.mod.glob.keeps I.bk) hm (by rw [I.ok.blt]; exact h1.keeps I.bk) ((h2 x hn).trans hv) h) hd
/-- a module's constant, a class, a function, as a value -/
theorem pe_glob {x : Str} {v : V} {u : Value} {pos : Pos} (hg : Gl X x) (hm : X.mg x = some u) (r : RelV v u) (hd : (x == ("__debug__" : Str)) = false := by decide) : PE X (.Name x pos) (tC v) :=
  fun _ _ _ H _ I h => ld_glob I hg hm ⟨v, H, I, r, h⟩ hd
theorem pe_bltn {x : Str} {v : V} {u : Value} {pos : Pos} (hg : Gl X x) (hm : X.mg x = none) (hv : bootBuiltins x = some u) (r : RelV v u) (hn : x ≠ "__name__" := by decide) (hd : (x == ("__debug__" : Str)) = false := by decide) : PE X (.Name x pos) (tC v) :=
  fun _ _ _ H _ I h => ld_blt I hg hm hv ⟨v, H, I, r, h⟩ hn hd

/-! ### arithmetic -/
/-- two ints -/
def t2I (ta tb : TE) (k : Int → Int → Hp → Prop) : St → Hp → Prop := fun σ H => ta σ H fun x H1 => tb σ H1 fun y H2 => ∃ i j, x = .int i ∧ y = .int j ∧ k i j H2
def tAdd (ta tb : TE) : TE := fun σ H Q => t2I ta tb (fun i j H2 => Q (.int (i + j)) H2) σ H
def tSub (ta tb : TE) : TE := fun σ H Q => t2I ta tb (fun i j H2 => Q (.int (i - j)) H2) σ H
/-- the left factor below 2^64 -/
def tMul (ta tb : TE) : TE := fun σ H Q => t2I ta tb (fun i j H2 => (-(2 ^ 64) < i ∧ i < 2 ^ 64) ∧ Q (.int (i * j)) H2) σ H
variable {a b : Expr} {ta tb : TE} {pos : Pos}
theorem pe_add (ha : PE X a ta) (hb : PE X b tb) : PE X (.BinOp a .Add b pos) (tAdd ta tb) := by
  intro pins s σ H Q I h
  refine wpAny_BinOp (bin ha hb I h fun v u s2 x y H2 I2 rx ry q => ?_)
  obtain ⟨i, j, rfl, rfl, q⟩ := q
  obtain ⟨t, rfl⟩ := rx
  obtain ⟨t', rfl⟩ := ry
  exact add_int ⟨.int _, H2, I2.tok _, ⟨_, rfl⟩, q⟩
theorem pe_sub (ha : PE X a ta) (hb : PE X b tb) : PE X (.BinOp a .Sub b pos) (tSub ta tb) := by
  intro pins s σ H Q I h
  refine wpAny_BinOp (bin ha hb I h fun v u s2 x y H2 I2 rx ry q => ?_)
  obtain ⟨i, j, rfl, rfl, q⟩ := q
  obtain ⟨t, rfl⟩ := rx
  obtain ⟨t', rfl⟩ := ry
  exact sub_int ⟨.int _, H2, I2.tok _, ⟨_, rfl⟩, q⟩
theorem pe_mul (ha : PE X a ta) (hb : PE X b tb) : PE X (.BinOp a .Mult b pos) (tMul ta tb) := by
  intro pins s σ H Q I h
  refine wpAny_BinOp (bin ha hb I h fun v u s2 x y H2 I2 rx ry q => ?_)
  obtain ⟨i, j, rfl, rfl, ⟨q1, q2⟩, q⟩ := q
  obtain ⟨t, rfl⟩ := rx
  obtain ⟨t', rfl⟩ := ry
  exact mul_int ⟨.int _, H2, I2.tok _, ⟨_, rfl⟩, q⟩ (.of_left (intBits_le_64 q1 q2))

/-! ### comparisons -/
def PC (X : Cx) (op : CmpOp) (a b : Expr) (t : TE) : Prop :=
  ∀ (pins : List (Addr × Obj)) (s : Shared) (σ : St) (H : Hp) (Q : VK), Inv X pins σ H s → t σ H Q →
    wpAny (model X.prog X.w) X.A (eval a X.env) (fun v s₁ => wpAny (model X.prog X.w) X.A (eval b X.env) (fun u s₂ => wpAny (model X.prog X.w) X.A (compareOp op v u) (EP X pins σ Q) X.xe s₂) X.xe s₁) X.xe s
theorem nobehind (b : Expr) {op : CmpOp} (h : op ≠ .In) (h2 : op ≠ .NotIn) : behindInMarks op b = false := by
  have e1 : (op == CmpOp.In) = false := by cases op <;> first | rfl | exact absurd rfl h
  have e2 : (op == CmpOp.NotIn) = false := by cases op <;> first | rfl | exact absurd rfl h2
  cases b <;> simp [behindInMarks, e1, e2]
def tCmp (p : Int → Int → Bool) (ta tb : TE) : TE := fun σ H Q => t2I ta tb (fun i j H2 => Q (.bl (p i j)) H2) σ H
abbrev tLt : TE → TE → TE := tCmp fun i j => decide (i < j)
abbrev tLe : TE → TE → TE := tCmp fun i j => decide (i ≤ j)
abbrev tGt : TE → TE → TE := tCmp fun i j => decide (j < i)
abbrev tGe : TE → TE → TE := tCmp fun i j => decide (j ≤ i)
abbrev tEqI : TE → TE → TE := tCmp fun i j => decide (i = j)
abbrev tNeI : TE → TE → TE := tCmp fun i j => !decide (i = j)
/-- a comparison of two ints, by its rule -/
theorem pc_int {op : CmpOp} {p : Int → Int → Bool} (ha : PE X a ta) (hb : PE X b tb)
    (rule : ∀ (i j : Int) (t u : Tok) (Q : Value → Shared → Prop) (s : Shared), Q (.bool (p i j)) s → wpAny (model X.prog X.w) X.A (compareOp op (.int i t) (.int j u)) Q X.xe s) : PC X op a b (tCmp p ta tb) := by
  intro pins s σ H Q I h
  refine bin ha hb I h fun v u s2 x y H2 I2 rx ry q => ?_
  obtain ⟨i, j, rfl, rfl, q⟩ := q
  obtain ⟨t, rfl⟩ := rx
  obtain ⟨t', rfl⟩ := ry
  exact rule i j t t' _ s2 ⟨.bl _, H2, I2, rfl, q⟩
theorem pc_lt (ha : PE X a ta) (hb : PE X b tb) : PC X .Lt a b (tLt ta tb) := pc_int ha hb fun _ _ _ _ _ _ h => lt_int h
theorem pc_le (ha : PE X a ta) (hb : PE X b tb) : PC X .LtE a b (tLe ta tb) := pc_int ha hb fun _ _ _ _ _ _ h => le_int h
theorem pc_gt (ha : PE X a ta) (hb : PE X b tb) : PC X .Gt a b (tGt ta tb) := pc_int ha hb fun _ _ _ _ _ _ h => gt_int h
theorem pc_ge (ha : PE X a ta) (hb : PE X b tb) : PC X .GtE a b (tGe ta tb) := pc_int ha hb fun _ _ _ _ _ _ h => ge_int h
theorem pc_eqI (ha : PE X a ta) (hb : PE X b tb) : PC X .Eq a b (tEqI ta tb) := pc_int ha hb fun _ _ _ _ _ _ h => eq_int (by rw [Bool.beq_eq_decide_eq]; exact h)
theorem pc_neI (ha : PE X a ta) (hb : PE X b tb) : PC X .NotEq a b (tNeI ta tb) := pc_int ha hb fun _ _ _ _ _ _ h => ne_int (by rw [bne, Bool.beq_eq_decide_eq]; exact h)
/-- is None -/
def tIsN (ta : TE) : TE := fun σ H Q => ta σ H fun x H1 => Q (.bl (decide (x = .non))) H1
def tNotN (ta : TE) : TE := fun σ H Q => ta σ H fun x H1 => Q (.bl (!decide (x = .non))) H1
theorem RelV.none_iff {x : V} {v : Value} (r : RelV x v) : (v == Value.none) = decide (x = .non) := by
  cases x with
  | non => cases r; rfl
  | bl _ => cases r; rfl
  | int _ => obtain ⟨t, rfl⟩ := r; rfl
  | str _ => obtain ⟨t, rfl⟩ := r; rfl
  | byt _ => obtain ⟨t, rfl⟩ := r; rfl
  | flt _ => obtain ⟨t, rfl⟩ := r; rfl
  | ref _ => cases r; rfl
  | ty _ => cases r; rfl
theorem pc_isN {j pos'} (ha : PE X a ta) : PC X .Is a (.Constant .none j pos') (tIsN ta) := by
  intro pins s σ H Q I h
  refine thn (ha pins s σ H _ I h) fun v s1 ⟨x, H1, I1, r1, q1⟩ => ?_
  exact Constant_none (is_none_gen ⟨.bl _, H1, I1, by rw [r1.none_iff]; rfl, q1⟩)
theorem pc_notN {j pos'} (ha : PE X a ta) : PC X .IsNot a (.Constant .none j pos') (tNotN ta) := by
  intro pins s σ H Q I h
  refine thn (ha pins s σ H _ I h) fun v s1 ⟨x, H1, I1, r1, q1⟩ => ?_
  exact Constant_none (isnot_none_gen ⟨.bl _, H1, I1, by rw [r1.none_iff]; rfl, q1⟩)
/-- a comparison as a value, as a test -/
def tB (t : TE) : TT := fun σ H Q => t σ H fun x H1 => ∃ c, x = .bl c ∧ Q c H1
theorem pe_cmp {op : CmpOp} {t : TE} (h : PC X op a b t) (h1 : behindInMarks op b = false := by first | exact nobehind _ (by decide) (by decide) | rfl) : PE X (.Compare a [op] [b] pos) t := fun pins s σ H Q I hw => wpAny_Compare1 (h pins s σ H Q I hw) h1
theorem pt_cmp {op : CmpOp} {t : TE} (h : PC X op a b t) (h1 : behindInMarks op b = false := by first | exact nobehind _ (by decide) (by decide) | rfl) : PT X (.Compare a [op] [b] pos) (tB t) := by
  intro pins s σ H Q I hw
  refine wpAny_isTrue_Compare1 (thn (h pins s σ H _ I hw) fun v s1 h1 => thn h1 fun u s2 h2 => thn h2 fun c s3 ⟨x, H1, I1, r1, q1⟩ => ?_) h1
  obtain ⟨d, rfl, q⟩ := q1
  cases r1
  exact wpAny_truthy_bool ⟨H1, I1, q⟩
/-- an expression whose value is a bool, as a test -/
theorem pt_val {e : Expr} {t : TE} (h : PE X e t) (he : ∀ whole, isTrue e X.env whole = (do let v ← whole; standAt e.pos; holding [v] (truthy v)) := by intro _; rfl) : PT X e (tB t) := by
  intro pins s σ H Q I hw
  refine isTrue_plain (thn (h pins s σ H _ I hw) fun v s1 ⟨x, H1, I1, r1, q1⟩ => ?_) (he _)
  obtain ⟨d, rfl, q⟩ := q1
  cases r1
  exact wpAny_truthy_bool ⟨H1, I1, q⟩

/-! ### and, or, not -/
variable {tA tB' : TT} {rest : List Expr}
def tAnd (t u : TT) : TT := fun σ H Q => t σ H fun c H1 => if c = true then u σ H1 Q else Q false H1
def tOr (t u : TT) : TT := fun σ H Q => t σ H fun c H1 => if c = true then Q true H1 else u σ H1 Q
def tNot (t : TT) : TT := fun σ H Q => t σ H fun c H1 => Q (!c) H1
theorem pw_and1 (ha : PT X a tA) : PW X (.BoolOp .And [a] pos) tA := by
  intro wh pins s σ H Q I h
  refine isTrue_and (thn (ha pins s σ H Q I h) fun c s1 e => ?_)
  cases c with
  | true => exact isTrue_and_nil e
  | false => exact e
theorem pw_or1 (ha : PT X a tA) : PW X (.BoolOp .Or [a] pos) tA := by
  intro wh pins s σ H Q I h
  refine isTrue_or (thn (ha pins s σ H Q I h) fun c s1 e => ?_)
  cases c with
  | false => exact isTrue_or_nil e
  | true => exact e
theorem pw_and (ha : PT X a tA) (hb : PW X (.BoolOp .And (b :: rest) pos) tB') : PW X (.BoolOp .And (a :: b :: rest) pos) (tAnd tA tB') := by
  intro wh pins s σ H Q I h
  refine isTrue_and (thn (ha pins s σ H _ I h) fun c s1 ⟨H1, I1, q1⟩ => ?_)
  cases c with
  | true => exact hb wh pins s1 σ H1 Q I1 q1
  | false => exact ⟨H1, I1, q1⟩
theorem pw_or (ha : PT X a tA) (hb : PW X (.BoolOp .Or (b :: rest) pos) tB') : PW X (.BoolOp .Or (a :: b :: rest) pos) (tOr tA tB') := by
  intro wh pins s σ H Q I h
  refine isTrue_or (thn (ha pins s σ H _ I h) fun c s1 ⟨H1, I1, q1⟩ => ?_)
  cases c with
  | true => exact ⟨H1, I1, q1⟩
  | false => exact hb wh pins s1 σ H1 Q I1 q1
theorem pt_not (ha : PT X a tA) : PT X (.UnaryOp .Not a pos) (tNot tA) := by
  intro pins s σ H Q I h
  exact isTrue_not (ha pins s σ H (fun c H1 => Q (!c) H1) I h)
/-- .. as values (bools) -/
def tAndV (ta tb : TE) : TE := fun σ H Q => ta σ H fun x H1 => ∃ c, x = .bl c ∧ if c = true then tb σ H1 Q else Q (.bl false) H1
def tOrV (ta tb : TE) : TE := fun σ H Q => ta σ H fun x H1 => ∃ c, x = .bl c ∧ if c = true then Q (.bl true) H1 else tb σ H1 Q
def tNotV (ta : TE) : TE := fun σ H Q => ta σ H fun x H1 => ∃ c, x = .bl c ∧ Q (.bl (!c)) H1
theorem pe_one {op} {t : TE} (h : PE X a t) : PE X (.BoolOp op [a] pos) t := fun pins s σ H Q I hw => BoolOp_one (h pins s σ H Q I hw)
theorem pe_and (ha : PE X a ta) (hb : PE X (.BoolOp .And (b :: rest) pos) tb) : PE X (.BoolOp .And (a :: b :: rest) pos) (tAndV ta tb) := by
  intro pins s σ H Q I h
  refine BoolOp_and (thn (ha pins s σ H _ I h) fun v s1 ⟨x, H1, I1, r1, q1⟩ => ?_)
  obtain ⟨c, rfl, q1⟩ := q1
  cases r1
  refine wpAny_truthy_bool ?_
  cases c with
  | true => exact hb pins s1 σ H1 Q I1 q1
  | false => exact ⟨.bl false, H1, I1, rfl, q1⟩
theorem pe_or (ha : PE X a ta) (hb : PE X (.BoolOp .Or (b :: rest) pos) tb) : PE X (.BoolOp .Or (a :: b :: rest) pos) (tOrV ta tb) := by
  intro pins s σ H Q I h
  refine BoolOp_or (thn (ha pins s σ H _ I h) fun v s1 ⟨x, H1, I1, r1, q1⟩ => ?_)
  obtain ⟨c, rfl, q1⟩ := q1
  cases r1
  refine wpAny_truthy_bool ?_
  cases c with
  | false => exact hb pins s1 σ H1 Q I1 q1
  | true => exact ⟨.bl true, H1, I1, rfl, q1⟩
theorem pe_not (ha : PE X a ta) : PE X (.UnaryOp .Not a pos) (tNotV ta) := by
  intro pins s σ H Q I h
  refine UnaryOp_ (thn (ha pins s σ H _ I h) fun v s1 ⟨x, H1, I1, r1, q1⟩ => ?_)
  obtain ⟨c, rfl, q1⟩ := q1
  cases r1
  exact not_of (wpAny_truthy_bool ⟨.bl (!c), H1, I1, rfl, q1⟩)
/-- a if t else b -/
def tIf (t : TT) (ta tb : TE) : TE := fun σ H Q => t σ H fun c H1 => if c = true then ta σ H1 Q else tb σ H1 Q
theorem pe_ifExp {c : Expr} (hc : PT X c tA) (ha : PE X a ta) (hb : PE X b tb) : PE X (.IfExp c a b pos) (tIf tA ta tb) := by
  intro pins s σ H Q I h
  refine wpAny_IfExp (thn (hc pins s σ H _ I h) fun d s1 ⟨H1, I1, q1⟩ => ?_)
  cases d with
  | true => exact ha pins s1 σ H1 Q I1 q1
  | false => exact hb pins s1 σ H1 Q I1 q1
end
end L2

namespace L2
open PySem PySem.Spec PyProof.Rows

/-! ### a list, a tuple that is read: tracked, frozen, or an object of the module -/
def SqL (K : PySem.W.Frag) (H : Hp) (a : Addr) (xs : List V) : Prop :=
  Rd H a (.lst xs) ∨
    ∃ (o : Obj) (its : Array Value) (n : Nat), K.lookup a = some o ∧ o.cls = .type "list" ∧ o.dict = none ∧ o.data = .seq its n ∧ its.size ≤ sizeLine ∧ Vals xs its.toList
def SqT (K : PySem.W.Frag) (H : Hp) (a : Addr) (xs : List V) : Prop :=
  Rd H a (.tup xs) ∨
    ∃ (o : Obj) (its : Array Value) (n : Nat), K.lookup a = some o ∧ o.cls = .type "tuple" ∧ o.data = .seq its n ∧ its.size ≤ sizeLine ∧ Vals xs its.toList
def absV : Value → Option V
  | .none => some .non
  | .bool b => some (.bl b)
  | .int i _ => some (.int i)
  | .str x _ => some (.str x)
  | .bytes b _ => some (.byt b)
  | .float b _ => some (.flt b)
  | .ref a => some (.ref a)
  | .type n => some (.ty n)
  | _ => none
theorem RelV.abs {x : V} {u : Value} (r : RelV x u) : absV u = some x := by
  cases x with
  | non => cases r; rfl
  | bl _ => cases r; rfl
  | int _ => obtain ⟨t, rfl⟩ := r; rfl
  | str _ => obtain ⟨t, rfl⟩ := r; rfl
  | byt _ => obtain ⟨t, rfl⟩ := r; rfl
  | flt _ => obtain ⟨t, rfl⟩ := r; rfl
  | ref _ => cases r; rfl
  | ty _ => cases r; rfl
theorem RelV.inj {x y : V} {u : Value} (r : RelV x u) (q : RelV y u) : x = y := Option.some.inj (r.abs.symm.trans q.abs)
theorem Vals.inj : ∀ {xs ys : List V} {us : List Value}, Vals xs us → Vals ys us → xs = ys
  | _, _, _, .nil, .nil => rfl
  | _, _, _, .cons r t, .cons r' t' => by rw [r.inj r', Vals.inj t t']
section
variable {X : Cx} {pins : List (Addr × Obj)} {σ : St} {H : Hp} {s : Shared} {a : Addr} {xs ys : List V}
theorem SqL.of {K : PySem.W.Frag} (h : H a = some (.lst xs)) : SqL K H a xs := .inl (.inl h)
theorem SqT.of {K : PySem.W.Frag} (h : H a = some (.tup xs)) : SqT K H a xs := .inl (.inl h)
theorem Inv.list (I : Inv X pins σ H s) (h : SqL X.K H a xs) : ∃ its : List Value, Vals xs its ∧ PlainL s.heap a its.toArray ∧ xs.length ≤ sizeLine := by
  rcases h with h | ⟨o, its, n, hk, hc, hd, hs, hz, r⟩
  · obtain ⟨z, its, n, r, e⟩ := h.ok I.hok
    exact ⟨its, r, ⟨_, n, e, rfl, rfl, rfl⟩, z⟩
  · refine ⟨its.toList, r, ⟨o, n, I.kIn a o hk, hc, hd, by simpa using hs⟩, ?_⟩
    have e := r.length
    simp only [Array.length_toList] at e
    omega
theorem Inv.tuple (I : Inv X pins σ H s) (h : SqT X.K H a xs) : ∃ its : List Value, Vals xs its ∧ IsTup s.heap a its.toArray ∧ xs.length ≤ sizeLine := by
  rcases h with h | ⟨o, its, n, hk, hc, hs, hz, r⟩
  · obtain ⟨z, its, r, p⟩ := h.ok I.hok
    exact ⟨its, r, p, z⟩
  · refine ⟨its.toList, r, ⟨o, I.kIn a o hk, hc, n, by simpa using hs⟩, ?_⟩
    have e := r.length
    simp only [Array.length_toList] at e
    omega
theorem Inv.list_inj (I : Inv X pins σ H s) (h : SqL X.K H a xs) (h' : SqL X.K H a ys) : xs = ys := by
  obtain ⟨its, r, ⟨o, n, e, _, _, d⟩, _⟩ := I.list h
  obtain ⟨its', r', ⟨o', n', e', _, _, d'⟩, _⟩ := I.list h'
  rw [e] at e'; cases e'
  rw [d] at d'
  injection d' with d1 _
  have : its = its' := by simpa using congrArg Array.toList d1
  subst this
  exact r.inj r'
theorem Inv.tuple_inj (I : Inv X pins σ H s) (h : SqT X.K H a xs) (h' : SqT X.K H a ys) : xs = ys := by
  obtain ⟨its, r, ⟨o, e, _, n, d⟩, _⟩ := I.tuple h
  obtain ⟨its', r', ⟨o', e', _, n', d'⟩, _⟩ := I.tuple h'
  rw [e] at e'; cases e'
  rw [d] at d'
  injection d' with d1 _
  have : its = its' := by simpa using congrArg Array.toList d1
  subst this
  exact r.inj r'
end

/-! ### another wish about exceptions -/
abbrev Cx.wish (X : Cx) (E : Value → Shared → Prop) : Cx := { X with xe := E }
/-- no exception leaves -/
abbrev Cx.nox (X : Cx) : Cx := X.wish fun _ _ => False
theorem Cx.Ok.wish {X : Cx} (ok : X.Ok) (E : Value → Shared → Prop) : (X.wish E).Ok :=
  ⟨ok.mod, ok.kind, ok.glob, ok.blt, ok.above, ok.inj, ok.has, ok.cab, ok.hd, ok.frames, ok.stk, ok.exf, ok.bs, ok.bsz, ok.noex, ok.exfs, ok.funs, ok.frf⟩
theorem Cx.Ok.unwish {X : Cx} {E : Value → Shared → Prop} (ok : (X.wish E).Ok) : X.Ok :=
  ⟨ok.mod, ok.kind, ok.glob, ok.blt, ok.above, ok.inj, ok.has, ok.cab, ok.hd, ok.frames, ok.stk, ok.exf, ok.bs, ok.bsz, ok.noex, ok.exfs, ok.funs, ok.frf⟩
section
variable {X : Cx} {pins : List (Addr × Obj)} {σ : St} {H : Hp} {s : Shared} {E : Value → Shared → Prop}
theorem Inv.wish (I : Inv X pins σ H s) (E : Value → Shared → Prop) : Inv (X.wish E) pins σ H s := ⟨I.ok.wish E, I.os, I.bare, I.base, I.loc, I.cell, I.free, I.freeC, I.pin, I.hok, I.len⟩
theorem Inv.unwish (I : Inv (X.wish E) pins σ H s) : Inv X pins σ H s := ⟨I.ok.unwish, I.os, I.bare, I.base, I.loc, I.cell, I.free, I.freeC, I.pin, I.hok, I.len⟩
theorem SP.unwish {D : Ends} {f : Flow} {s' : Shared} (h : SP (X.wish E) pins D f s') : SP X pins D f s' := by
  cases f with
  | next => obtain ⟨σ', H', I, q⟩ := h; exact ⟨σ', H', I.unwish, q⟩
  | brk => obtain ⟨σ', H', I, q⟩ := h; exact ⟨σ', H', I.unwish, q⟩
  | cont => obtain ⟨σ', H', I, q⟩ := h; exact ⟨σ', H', I.unwish, q⟩
  | ret u => obtain ⟨v, σ', H', I, r, q⟩ := h; exact ⟨v, σ', H', I.unwish, r, q⟩
theorem PE.nox {e : Expr} {t : TE} (h : PE X.nox e t) : PE X e t := fun pins s σ H Q I hw =>
  wpAny_mono (h pins s σ H Q (I.wish _) hw) (fun _ _ ⟨v, H', I', r, q⟩ => ⟨v, H', I'.unwish, r, q⟩) fun _ _ z => False.elim z
theorem PT.nox {e : Expr} {t : TT} (h : PT X.nox e t) : PT X e t := fun pins s σ H Q I hw =>
  wpAny_mono (h pins s σ H Q (I.wish _) hw) (fun _ _ ⟨H', I', q⟩ => ⟨H', I'.unwish, q⟩) fun _ _ z => False.elim z
theorem PSs.nox {st : List Stmt} {t : TS} (h : PSs X.nox st t) : PSs X st t := fun pins s σ H D I hw =>
  wpAny_mono (h pins s σ H D (I.wish _) hw) (fun _ _ q => q.unwish) fun _ _ z => False.elim z
end

/-! ### blocks and small statements -/
section
variable {X : Cx} {st : Stmt} {rest : List Stmt} {t u : TS} {e : Expr} {te : TE} {pos : Pos}
def tNext : TS := fun D σ H => D.nx σ H
def tSeq (t u : TS) : TS := fun D σ H => t { D with nx := u D } σ H
theorem pss_nil : PSs X [] tNext := fun _ _ σ H _ I h => wpAny_execs_nil ⟨σ, H, I, h⟩
theorem pss_cons (h1 : PS X st t) (h2 : PSs X rest u) : PSs X (st :: rest) (tSeq t u) := by
  intro pins s σ H D I h
  refine wpAny_execs_cons (thn (h1 pins s σ H { D with nx := u D } I h) fun f s1 q => ?_)
  cases f with
  | next =>
    obtain ⟨σ', H', I', q⟩ := q
    exact h2 pins s1 σ' H' D I' q
  | ret v => exact q
  | brk => exact q
  | cont => exact q
theorem pss_one (h1 : PS X st t) : PSs X [st] t := by
  intro pins s σ H D I h
  refine wpAny_execs_cons (thn (h1 pins s σ H D I h) fun f s1 q => ?_)
  cases f with
  | next => exact wpAny_execs_nil q
  | ret v => exact q
  | brk => exact q
  | cont => exact q
def tBreak : TS := fun D σ H => D.bk σ H
def tCont : TS := fun D σ H => D.ct σ H
theorem ps_pass : PS X (.Pass pos) tNext := fun _ _ σ H _ I h => wpAny_Pass ⟨σ, H, I, h⟩
theorem ps_break : PS X (.Break pos) tBreak := fun _ _ σ H _ I h => wpAny_Break ⟨σ, H, I, h⟩
theorem ps_continue : PS X (.Continue pos) tCont := fun _ _ σ H _ I h => wpAny_Continue ⟨σ, H, I, h⟩
/-- in a def's body nothing is shown -/
theorem Inv.quiet {pins : List (Addr × Obj)} {σ : St} {H : Hp} {s : Shared} (I : Inv X pins σ H s) : interactive X.env = false := by simp [interactive, I.ok.kind]
/-- a docstring -/
theorem ps_doc {x j pos pos'} : PS X (.Expr (.Constant (.str x) j pos) pos') tNext := fun _ s σ H _ I h => wpAny_Expr (Calls.Constant_str (show SP X _ _ .next { s with toks := s.toks + 1 } from ⟨σ, H, I.tok _, h⟩)) I.quiet
/-- an expression whose value is dropped -/
def tDrop (te : TE) : TS := fun D σ H => te σ H fun _ H1 => D.nx σ H1
theorem ps_expr (he : PE X e te) (hs : swapsWith e none pos.line X.env = pure false := by rfl) : PS X (.Expr e pos) (tDrop te) := by
  intro pins s σ H D I h
  exact wpAny_Expr_any (thn (he pins s σ H _ I h) fun v s1 ⟨x, H1, I1, r1, q1⟩ => ⟨σ, H1, I1, q1⟩) I.quiet hs
def tRet (te : TE) : TS := fun D σ H => te σ H D.rt
theorem ps_ret (he : PE X e te) : PS X (.Return (some e) pos) (tRet te) := by
  intro pins s σ H D I h
  exact wpAny_Return_some (thn (he pins s σ H _ I h) fun v s1 ⟨x, H1, I1, r1, q1⟩ => ⟨x, σ, H1, I1, r1, q1⟩)
def tRetN : TS := fun D _ H => D.rt .non H
theorem ps_retN : PS X (.Return none pos) tRetN := fun _ _ σ H _ I h => wpAny_Return_none ⟨.non, σ, H, I, rfl, h⟩
def tIfS (c : TT) (t u : TS) : TS := fun D σ H => c σ H fun b H1 => if b = true then t D σ H1 else u D σ H1
theorem ps_if {c : Expr} {a b : List Stmt} {tc : TT} (hc : PT X c tc) (ha : PSs X a t) (hb : PSs X b u) : PS X (.If c a b pos) (tIfS tc t u) := by
  intro pins s σ H D I h
  refine wpAny_If (thn (hc pins s σ H _ I h) fun d s1 ⟨H1, I1, q1⟩ => ?_)
  cases d with
  | true => exact ha pins s1 σ H1 D I1 q1
  | false => exact hb pins s1 σ H1 D I1 q1
/-- code that the proof never comes to -/
def tNever : TS := fun _ _ _ => False
theorem ps_never : PS X st tNever := fun _ _ _ _ _ _ h => h.elim
theorem pss_never {sts : List Stmt} : PSs X sts tNever := fun _ _ _ _ _ _ h => h.elim
end

/-! ### targets -/
abbrev TG := V → St → Hp → (St → Hp → Prop) → Prop
abbrev TGs := List V → St → Hp → (St → Hp → Prop) → Prop
def PG (X : Cx) (target : Expr) (t : TG) : Prop :=
  ∀ (pins : List (Addr × Obj)) (s : Shared) (σ : St) (H : Hp) (v : V) (u : Value) (Q : St → Hp → Prop), Inv X pins σ H s → RelV v u → t v σ H Q →
    wpAny (model X.prog X.w) X.A (assign target X.env u) (fun _ s' => ∃ σ' H', Inv X pins σ' H' s' ∧ Q σ' H') X.xe s
/-- several targets, one after another -/
def PGs (X : Cx) (ts : List Expr) (t : TGs) : Prop :=
  ∀ (pins : List (Addr × Obj)) (s : Shared) (σ : St) (H : Hp) (vs : List V) (us : List Value) (Q : St → Hp → Prop), Inv X pins σ H s → Vals vs us → t vs σ H Q →
    wpAny (model X.prog X.w) X.A (assignInOrder ((assignEach ts X.env).map (·.2)) us) (fun _ s' => ∃ σ' H', Inv X pins σ' H' s' ∧ Q σ' H') X.xe s
/-- o[i] = v, by values -/
abbrev TSet := V → V → V → Hp → (Hp → Prop) → Prop
def PSet (X : Cx) (t : TSet) : Prop :=
  ∀ (pins : List (Addr × Obj)) (s : Shared) (σ : St) (H : Hp) (o i v : V) (ov iv u : Value) (Q : Hp → Prop), Inv X pins σ H s → RelV o ov → RelV i iv → RelV v u → t o i v H Q →
    wpAny (model X.prog X.w) X.A (setItem ov iv u) (fun _ s' => ∃ H', Inv X pins σ H' s' ∧ Q H') X.xe s
/-- a op= b, by values -/
abbrev TIp := V → V → Hp → VK → Prop
def PIp (X : Cx) (op : Operator) (t : TIp) : Prop :=
  ∀ (pins : List (Addr × Obj)) (s : Shared) (σ : St) (H : Hp) (x y : V) (v u : Value) (Q : VK), Inv X pins σ H s → RelV x v → RelV y u → t x y H Q →
    wpAny (model X.prog X.w) X.A (inplaceOp op v u) (EP X pins σ Q) X.xe s
section
variable {X : Cx} {pos : Pos}
def gName (i : Nat) : TG := fun v σ H Q => Q (σ.set i (some v)) H
theorem pg_name {i : Nat} {x : Str} (hN : X.N.Nodup) (hi : X.N[i]? = some x) (hx : Loc X.env.scope x) (hf : X.fn x = true ∨ X.env.scope.names.lookup x = some .local := by first | exact .inl rfl | exact .inr rfl | assumption) : PG X (.Name x pos) (gName i) := by
  intro pins s σ H v u Q I r h
  exact wpAny_assign_Name (store_ok I hN hi hx r (fun s' I' => ⟨_, H, I', h⟩) hf)
def gNil : TGs := fun vs σ H Q => vs = [] ∧ Q σ H
def gCons (t : TG) (u : TGs) : TGs := fun vs σ H Q => ∃ v r, vs = v :: r ∧ t v σ H fun σ' H' => u r σ' H' Q
theorem pgs_nil : PGs X [] gNil := by
  intro pins s σ H vs us Q I r h
  obtain ⟨e, h⟩ := h
  subst e
  cases r
  exact assignInOrder_nil ⟨σ, H, I, h⟩
theorem pgs_cons {e : Expr} {es : List Expr} {t : TG} {u : TGs} (h1 : PG X e t) (h2 : PGs X es u)
    (hs : (assignEach (e :: es) X.env).map (·.2) = assign e X.env :: (assignEach es X.env).map (·.2) := by rfl) : PGs X (e :: es) (gCons t u) := by
  intro pins s σ H vs us Q I r h
  obtain ⟨v, vr, e1, h⟩ := h
  subst e1
  cases r with
  | cons r rr =>
    rw [hs]
    refine assignInOrder_cons (thn (h1 pins s σ H _ _ _ I r h) fun _ s1 ⟨σ1, H1, I1, q1⟩ => ?_)
    exact h2 pins s1 σ1 H1 _ _ Q I1 rr q1
/-- (a, b, ..) = a tuple of that length -/
def gTup (K : PySem.W.Frag) (n : Nat) (t : TGs) : TG := fun v σ H Q => ∃ a xs, v = .ref a ∧ SqT K H a xs ∧ xs.length = n ∧ t xs σ H Q
theorem pg_tup {es : List Expr} {k : Nat} {t : TGs} {n : Nat} (hc : X.calm = true) (h : PGs X es t)
    (hn : (assignEach es X.env).length = n := by rfl) (hst : (assignEach es X.env).findIdx? (·.1) = none := by rfl) : PG X (.Tuple es k pos) (gTup X.K n t) := by
  intro pins s σ H v u Q I r hw
  obtain ⟨a, xs, e1, hq, hl, hw⟩ := hw
  subst e1
  cases r
  obtain ⟨its, rv, ht, hz⟩ := I.tuple hq
  refine assign_Tuple_tuple (I.ok.hd hc) ht (by simp [hn, ← hl, rv.length]) hst fun h' hx => ?_
  have I1 : Inv X pins σ H { s with heap := h' } := I.kept (t' := s.toks) fun b o e => hx b o (Nat.ne_of_lt (Heap.lt_size e)) e
  exact h pins _ σ H xs _ Q I1 (by simpa using rv) hw
/-- o[i] = .. -/
def gSub (to ti : TE) (t : TSet) : TG := fun v σ H Q => to σ H fun o H1 => ti σ H1 fun i H2 => t o i v H2 fun H3 => Q σ H3
theorem pg_sub {o i : Expr} {to ti : TE} {t : TSet} (ho : PE X o to) (hi : PE X i ti) (hs : PSet X t)
    (ha : ∀ v, assign (.Subscript o i pos) X.env v = (do
      let ov ← holding [v] (eval o X.env)
      let iv ← holding [v, ov] (eval i X.env)
      standAt pos
      holding [v, ov, iv] (setItem ov iv v)
      release [v, ov, iv] []) := by intro _; rfl) : PG X (.Subscript o i pos) (gSub to ti t) := by
  intro pins s σ H v u Q I r h
  rw [ha]
  refine wpAny_bind (wpAny_holding (thn (ho pins s σ H _ I h) fun ov s1 ⟨x, H1, I1, r1, q1⟩ => ?_))
  refine wpAny_bind (wpAny_holding (thn (hi pins s1 σ H1 _ I1 q1) fun iv s2 ⟨y, H2, I2, r2, q2⟩ => ?_))
  refine wpAny_bind (wpAny_standAt (wpAny_bind (wpAny_holding (thn (hs pins s2 σ H2 x y v ov iv u _ I2 r1 r2 r q2) fun _ s3 ⟨H3, I3, q3⟩ => ?_))))
  exact wpAny_release ⟨σ, H3, I3, q3⟩
/-- target = value -/
def tAsg (te : TE) (g : TG) : TS := fun D σ H => te σ H fun x H1 => g x σ H1 D.nx
theorem ps_asg {tg e : Expr} {te : TE} {g : TG} (he : PE X e te) (hg : PG X tg g) (hs : swapsWithSole [tg] e pos.line X.env = pure false := by rfl) (hw : swappedStores [tg] e X.env = pure none := by rfl)
    (h1 : (assignEach [tg] X.env).map (·.2) = [assign tg X.env] := by rfl) : PS X (.Assign [tg] e pos) (tAsg te g) := by
  intro pins s σ H D I h
  refine wpAny_Assign_stores (thn (he pins s σ H _ I h) fun v s1 ⟨x, H1, I1, r1, q1⟩ => ?_) hs hw
  rw [h1]
  exact thn (hg pins s1 σ H1 x v _ I1 r1 q1) fun _ s2 q => q
/-- name = value -/
theorem ps_set {i : Nat} {x : Str} {e : Expr} {te : TE} {pos' : Pos} (hN : X.N.Nodup) (hi : X.N[i]? = some x) (hx : Loc X.env.scope x) (he : PE X e te) (hs : swapsWith e (some (.Name x pos')) pos.line X.env = pure false := by rfl) (hf : X.fn x = true ∨ X.env.scope.names.lookup x = some .local := by first | exact .inl rfl | exact .inr rfl | assumption) :
    PS X (.Assign [.Name x pos'] e pos) (tAsg te (gName i)) := by
  intro pins s σ H D I h
  refine wpAny_Assign_Name (thn (he pins s σ H _ I h) fun v s1 ⟨y, H1, I1, r1, q1⟩ => ?_) hs
  exact store_ok I1 hN hi hx r1 (fun s2 I2 => ⟨_, H1, I2, q1⟩) hf
/-- a, b = x, y with plain local names: stored from the right; the pair itself is not tracked (the opening rows as in PyProof/Rows/TupAssign.lean:23) -/
def tPar (i j : Nat) (ta : TA) : TS := fun D σ H => ta σ H fun vs H1 => ∃ v w, vs = [v, w] ∧ D.nx ((σ.set i (some v)).set j (some w)) H1
theorem ps_par {i j : Nat} {x y : Str} {a b : Expr} {ta : TA} {px py pt : Pos} {kt k2 pt2} (hc : X.calm = true) (hN : X.N.Nodup) (hi : X.N[i]? = some x) (hj : X.N[j]? = some y) (hij : i ≠ j)
    (hx : X.env.scope.names.lookup x = some .local) (hy : X.env.scope.names.lookup y = some .local) (ha : PA X [a, b] ta)
    (hw : swappedStores [.Tuple [.Name x px, .Name y py] kt pt] (.Tuple [a, b] k2 pt2) X.env = pure (some [x, y]))
    (hs : swapsWithSole [.Tuple [.Name x px, .Name y py] kt pt] (.Tuple [a, b] k2 pt2) pos.line X.env = pure false := by rfl) :
    PS X (.Assign [.Tuple [.Name x px, .Name y py] kt pt] (.Tuple [a, b] k2 pt2) pos) (tPar i j ta) := by
  intro pins s σ H D I h
  rw [exec_Assign_arm]
  refine wpAny_bind (wpAny_standAt ?_)
  rw [hs]
  refine wpAny_bind (wpAny_pure ?_)
  rw [if_neg (by decide)]
  refine wpAny_bind (Tuple_ (thn (ha _ pins s σ H _ I h) fun us s1 ⟨vs, H1, I1, r1, q1⟩ => ?_))
  obtain ⟨v, w, e1, q1⟩ := q1
  subst e1
  obtain ⟨u1, u2, rfl, rv, rw'⟩ : ∃ u1 u2, us = [u1, u2] ∧ RelV v u1 ∧ RelV w u2 := by
    cases r1 with
    | cons p q =>
      cases q with
      | cons p' q' =>
        cases q'
        exact ⟨_, _, rfl, p, p'⟩
  refine wpAny_newObj_type ?_ (by show 2 ≤ sizeLine; decide)
  have I2 : Inv X pins σ H1 { s1 with heap := s1.heap.push { cls := .type "tuple", data := .seq [u1, u2].toArray } } := I1.kept (t' := s1.toks) fun b o e => Heap.get?_push_of_some _ e
  rw [hw]
  refine wpAny_bind (wpAny_pure ?_)
  show wpAny (model X.prog X.w) X.A (do rule "assign.swapped-stores"; let items ← unpackItems (.ref s1.heap.objs.size) 2 none; assignInOrder [fun v => bindName X.env y v, fun v => bindName X.env x v] items.reverse; pure Flow.next) _ _ _
  refine wpAny_bind (wpAny_rule (wpAny_bind (unpackItems_tuple (items := #[u1, u2]) (I.ok.hd hc) (IsTup.new s1.heap _) fun h' hx' => ?_)))
  have I3 := I2.kept (h' := h') (t' := s1.toks) fun b o e => hx' b o (Nat.ne_of_lt (Heap.lt_size e)) e
  show wpAny _ _ (assignInOrder [fun v => bindName X.env y v, fun v => bindName X.env x v] [u2, u1] >>= fun _ => pure Flow.next) _ _ _
  refine wpAny_bind (assignInOrder_cons (wpAny_bindName (store_ok I3 hN hj (.inl hy) rw' (fun s2 I4 => ?_) (.inr hy))))
  refine assignInOrder_cons (wpAny_bindName (store_ok I4 hN hi (.inl hx) rv (fun s3 I5 => assignInOrder_nil (wpAny_pure ?_)) (.inr hx)))
  rw [List.set_comm _ _ (Ne.symm hij)] at I5
  exact ⟨_, H1, I5, q1⟩
/-- name op= e -/
def tAug (i : Nat) (te : TE) (ti : TIp) : TS := fun D σ H => ∃ x, σ[i]? = some (some x) ∧ te σ H fun y H1 => ti x y H1 fun z H2 => D.nx (σ.set i (some z)) H2
theorem ps_aug {i : Nat} {x : Str} {e : Expr} {te : TE} {op : Operator} {ti : TIp} {pos' : Pos} (hN : X.N.Nodup) (hi : X.N[i]? = some x) (hx : Loc X.env.scope x) (he : PE X e te) (ho : PIp X op ti) (hf : X.fn x = true ∨ X.env.scope.names.lookup x = some .local := by first | exact .inl rfl | exact .inr rfl | assumption) :
    PS X (.AugAssign (.Name x pos') op e pos) (tAug i te ti) := by
  intro pins s σ H D I h
  obtain ⟨v, e1, h⟩ := h
  obtain ⟨m, hn, hl⟩ := I.loc
  have vis : Vis X.env.scope x := by rcases hx with k | k; exact .inl k; exact .inr (.inl k)
  obtain ⟨u, r, l⟩ := hl i x v hi e1 vis
  refine wpAny_AugAssign_Name ?_
  have go : wpAny (model X.prog X.w) X.A (eval e X.env) (fun w s₂ => wpAny (model X.prog X.w) X.A (inplaceOp op u w) (fun r s₃ => wpAny (model X.prog X.w) X.A (storeName X.env x r) (fun _ => SP X pins D .next) X.xe s₃) X.xe s₂) X.xe s := by
    refine thn (he pins s σ H _ I h) fun w s1 ⟨y, H1, I1, r1, q1⟩ => ?_
    refine thn (ho pins s1 σ H1 v y u w _ I1 r r1 q1) fun z s2 ⟨zv, H2, I2, r2, q2⟩ => ?_
    exact store_ok I2 hN hi hx r2 (fun s3 I3 => ⟨_, H2, I3, q2⟩) hf
  rcases l with ⟨hk, hm⟩ | ⟨hk, c, hc, hcell⟩
  · exact wpAny_loadName_local I.ok.kind hk hn hm go
  · rcases hk with hk | hk
    · exact wpAny_loadName_cell I.ok.kind hk hc hcell go
    · rcases hx with k | k
      · have : X.env.scope.names.lookup x = some .free := hk
        rw [k] at this; cases this
      · have : X.env.scope.names.lookup x = some .free := hk
        rw [k] at this; cases this
/-- o[i] op= e -/
def tAugS (to ti te : TE) (tget : V → V → Hp → VK → Prop) (tip : TIp) (tset : TSet) : TS := fun D σ H => to σ H fun o H1 => ti σ H1 fun i H2 => tget o i H2 fun x H3 => te σ H3 fun y H4 => tip x y H4 fun z H5 => tset o i z H5 fun H6 => D.nx σ H6
/-- o[i], by values -/
def PGet (X : Cx) (t : V → V → Hp → VK → Prop) : Prop :=
  ∀ (pins : List (Addr × Obj)) (s : Shared) (σ : St) (H : Hp) (o i : V) (ov iv : Value) (Q : VK), Inv X pins σ H s → RelV o ov → RelV i iv → t o i H Q →
    wpAny (model X.prog X.w) X.A (getItem ov iv) (EP X pins σ Q) X.xe s
theorem ps_augS {o i e : Expr} {to ti te : TE} {tget : V → V → Hp → VK → Prop} {tip : TIp} {tset : TSet} {op : Operator} {tpos : Pos} (ho : PE X o to) (hi : PE X i ti) (hg : PGet X tget) (he : PE X e te) (hp : PIp X op tip) (hs : PSet X tset)
    (ha : ∀ ov iv new, augStore i ov iv new = (do holding [new, ov, iv] (setItem ov iv new); release [new, ov, iv] []; pure .next) := by intros; rfl) : PS X (.AugAssign (.Subscript o i tpos) op e pos) (tAugS to ti te tget tip tset) := by
  intro pins s σ H D I h
  refine wpAny_AugAssign_SubscriptAny (thn (ho pins s σ H _ I h) fun ov s1 ⟨x1, H1, I1, r1, q1⟩ => ?_) ha
  refine thn (hi pins s1 σ H1 _ I1 q1) fun iv s2 ⟨x2, H2, I2, r2, q2⟩ => ?_
  refine thn (hg pins s2 σ H2 x1 x2 ov iv _ I2 r1 r2 q2) fun old s3 ⟨x3, H3, I3, r3, q3⟩ => ?_
  refine thn (he pins s3 σ H3 _ I3 q3) fun v s4 ⟨x4, H4, I4, r4, q4⟩ => ?_
  refine thn (hp pins s4 σ H4 x3 x4 old v _ I4 r3 r4 q4) fun new s5 ⟨x5, H5, I5, r5, q5⟩ => ?_
  exact thn (hs pins s5 σ H5 x1 x2 x5 ov iv new _ I5 r1 r2 r5 q5) fun _ s6 ⟨H6, I6, q6⟩ => ⟨σ, H6, I6, q6⟩
/-- ints -/
def ipI (f : Int → Int → Int) : TIp := fun x y H Q => ∃ i j, x = .int i ∧ y = .int j ∧ Q (.int (f i j)) H
theorem ip_add : PIp X .Add (ipI fun i j => i + j) := by
  intro pins s σ H x y v u Q I r1 r2 h
  obtain ⟨i, j, e1, e2, q⟩ := h
  subst e1; subst e2
  obtain ⟨t, rfl⟩ := r1
  obtain ⟨t', rfl⟩ := r2
  exact iadd_int ⟨.int _, H, I.tok _, ⟨_, rfl⟩, q⟩
theorem ip_sub : PIp X .Sub (ipI fun i j => i - j) := by
  intro pins s σ H x y v u Q I r1 r2 h
  obtain ⟨i, j, e1, e2, q⟩ := h
  subst e1; subst e2
  obtain ⟨t, rfl⟩ := r1
  obtain ⟨t', rfl⟩ := r2
  exact isub_int ⟨.int _, H, I.tok _, ⟨_, rfl⟩, q⟩
end

/-! ### while -/
section
variable {X : Cx} {pos : Pos}
/-- the invariant W with its measure -/
def tWhile (c : TT) (tb : TS) : TS := fun D σ H => ∃ W : Nat → St → Hp → Prop, (∃ m, W m σ H) ∧ ∀ m σ H, W m σ H →
  c σ H fun b H1 => if b = true then ∃ N : St → Hp → Prop, (∀ σ' H', N σ' H' → ∃ m', m' < m ∧ W m' σ' H') ∧ tb { D with nx := N, ct := N, bk := D.nx } σ H1 else D.nx σ H1
theorem ps_while {c : Expr} {body : List Stmt} {tc : TT} {tb : TS} (hp : PassesOwn (model X.prog X.w) X.A X.env X.xe) (hc : PT X c tc) (hb : PSs X body tb) : PS X (.While c body [] pos) (tWhile tc tb) := by
  intro pins s σ H D I h
  obtain ⟨W, ⟨m0, w0⟩, turn⟩ := h
  refine wpAny_While (codeAny_whileLoop (fun n s' => ∃ σ' H', Inv X pins σ' H' s' ∧ W n σ' H') ?_ m0 ⟨σ, H, I, w0⟩)
  rintro n s1 ⟨σ1, H1, I1, w1⟩
  refine wpAny_passesOwn hp (thn (hc pins s1 σ1 H1 _ I1 (turn n σ1 H1 w1)) fun b s2 ⟨H2, I2, q2⟩ => ?_)
  cases b with
  | true =>
    obtain ⟨N, hN, q2⟩ := q2
    rw [if_pos rfl]
    refine wpAny_passesOwn hp (thn (hb pins s2 σ1 H2 _ I2 q2) fun f s3 q3 => ?_)
    cases f with
    | next =>
      obtain ⟨σ3, H3, I3, n3⟩ := q3
      obtain ⟨m', hm, w3⟩ := hN σ3 H3 n3
      exact ⟨m', hm, σ3, H3, I3, w3⟩
    | cont =>
      obtain ⟨σ3, H3, I3, n3⟩ := q3
      obtain ⟨m', hm, w3⟩ := hN σ3 H3 n3
      exact ⟨m', hm, σ3, H3, I3, w3⟩
    | brk => exact q3
    | ret v => exact q3
  | false =>
    rw [if_neg Bool.false_ne_true]
    exact wpAny_execs_nil ⟨σ1, H2, I2, q2⟩
end

/-! ### what a loop or a comprehension walks -/
/-- at turn i: it yields x (the heap may grow), or it stops -/
structure It where
  go : Nat → Hp → Prop
  yld : Nat → Hp → V → Hp → Prop
  stop : Nat → Hp → Prop
/-- the iterator's own objects may turn: they are not the frame's, not pinned, younger than the entry (or a comprehension's own) -/
def FpOk (X : Cx) (pins : List (Addr × Obj)) (H : Hp) (b : Addr) : Prop :=
  H b = none ∧ b ≠ X.env.locals ∧ b ∉ X.fs ∧ (b ∈ X.ex ∨ X.s₀.heap.objs.size ≤ b) ∧ (∀ x c, X.env.cells.lookup x = some c → c ≠ b) ∧ ∀ p ∈ X.pn ++ pins, p.1 ≠ b
theorem Inv.fpOk {X : Cx} {pins : List (Addr × Obj)} {σ : St} {H H' : Hp} {s : Shared} {b : Addr} (I : Inv X pins σ H s) (hb : s.heap.objs.size ≤ b) (hn : H' b = none) : FpOk X pins H' b := by
  refine ⟨hn, Nat.ne_of_gt (Nat.lt_of_lt_of_le I.lt hb), I.nofs hb, .inr (Nat.le_trans I.sz hb), fun x c e z => ?_, fun p hp z => ?_⟩
  · obtain ⟨v, q⟩ := I.cell x c e
    exact absurd (Nat.lt_of_lt_of_le q.lt (by rw [z]; exact hb)) (Nat.lt_irrefl _)
  · exact absurd (Nat.lt_of_lt_of_le (Heap.lt_size (I.pin p hp).1) (by rw [z]; exact hb)) (Nat.lt_irrefl _)
structure Turn (P : Program) (w : World) (K : PySem.W.Frag) (tg : Expr) (J : It) (fp : List Addr) (it : Addr) (tn : Nat → Heap → Prop) : Prop where
  mem : it ∈ fp
  obj : ∀ i h, tn i h → ∀ b ∈ fp, ∃ o, h.get? b = some o ∧ ∀ v, o.data ≠ .cell v
  keep : ∀ i h h', tn i h → (∀ b ∈ fp, ∀ o, h.get? b = some o → h'.get? b = some o) → tn i h'
  item : ∀ (X : Cx), X.prog = P → X.w = w → X.K = K → X.calm = true → ∀ (i : Nat) (pins : List (Addr × Obj)) (s : Shared) (σ : St) (H : Hp) (E : Value → Shared → Prop), Inv X pins σ H s → (∀ b ∈ fp, FpOk X pins H b) → tn i s.heap → J.go i H →
    wpAny (model P w) X.A (pyNext (.ref it)) (fun r s1 => ∃ u, r = some u ∧
      wpAny (model P w) X.A (letOwnedTupleGo tg (.ref it) u) (fun _ s2 => ∃ x H', Inv X pins σ H' s2 ∧ RelV x u ∧ J.yld i H x H' ∧ tn (i + 1) s2.heap ∧ ∀ b ∈ fp, H' b = none) E s1) E s
  done : ∀ (X : Cx), X.prog = P → X.w = w → X.K = K → X.calm = true → ∀ (i : Nat) (pins : List (Addr × Obj)) (s : Shared) (σ : St) (H : Hp) (E : Value → Shared → Prop), Inv X pins σ H s → (∀ b ∈ fp, FpOk X pins H b) → tn i s.heap → J.stop i H →
    wpAny (model P w) X.A (pyNext (.ref it)) (fun r s1 => r = none ∧ Inv X pins σ H s1) E s
  self : ∀ (A : Around) (i : Nat) (s : Shared) (Q : Value → Shared → Prop) (E : Value → Shared → Prop), tn i s.heap → Q (.ref it) s → wpAny (model P w) A (pyIter (.ref it)) Q E s
abbrev TI := St → Hp → (It → Hp → Prop) → Prop
/-- an iterator has come -/
def PIE (X : Cx) (pins : List (Addr × Obj)) (σ : St) (tg : Expr) (R : It → Hp → Prop) (itv : Value) (s2 : Shared) : Prop :=
  ∃ (it : Addr) (fp : List Addr) (tn : Nat → Heap → Prop) (J : It) (H' : Hp), itv = .ref it ∧ Inv X pins σ H' s2 ∧ Turn X.prog X.w X.K tg J fp it tn ∧ tn 0 s2.heap ∧ (∀ b ∈ fp, FpOk X pins H' b) ∧ R J H'
def PI (X : Cx) (tg iter : Expr) (wi : TI) : Prop :=
  ∀ (pins : List (Addr × Obj)) (s : Shared) (σ : St) (H : Hp) (R : It → Hp → Prop), Inv X pins σ H s → wi σ H R →
    wpAny (model X.prog X.w) X.A (eval iter X.env) (fun v s1 => wpAny (model X.prog X.w) X.A (pyIter v) (PIE X pins σ tg R) X.xe s1) X.xe s

/-- the step ahead of the store is nothing for an iterator that keeps no tuple -/
theorem go_of {M : Model} {A : Around} {E : Value → Shared → Prop} {s : Shared} {tg : Expr} {it : Addr} {u : Value} {o : Obj} {n : String} {vs : Array Value} {Q : Unit → Shared → Prop} (ho : s.heap.get? it = some o) (hc : o.cls = .type n) (hd : o.data = .fields vs)
    (hn : ["enumerate", "zip", "dict_itemiterator", "dict_reverseitemiterator", "odict_iterator", "itertools.zip_longest", "itertools.pairwise"].contains n = false) (hQ : Q () s) : wpAny M A (letOwnedTupleGo tg (.ref it) u) Q E s := by
  unfold letOwnedTupleGo
  cases tg <;> first
    | exact wpAny_pure hQ
    | (cases u <;> first
        | exact wpAny_pure hQ
        | (refine wpAny_bind (wpAny_load ho ?_)
           rw [hc, hd]
           show wpAny M A (if (["enumerate", "zip", "dict_itemiterator", "dict_reverseitemiterator", "odict_iterator", "itertools.zip_longest", "itertools.pairwise"].contains n && vs[0]? == some (rawInt _)) = true then _ else _) Q E s
           rw [if_neg (by intro h; rw [hn, Bool.false_and] at h; cases h)]
           exact wpAny_pure hQ))

/-- the list at a, as it stands at each turn (a loop may append to it) -/
def Itl (K : PySem.W.Frag) (a : Addr) : It :=
  ⟨fun i H => ∃ xs x, SqL K H a xs ∧ xs[i]? = some x, fun i H x H' => H' = H ∧ ∀ xs, SqL K H a xs → xs[i]? = some x, fun i H => ∃ xs, SqL K H a xs ∧ xs.length ≤ i⟩
def Itt (K : PySem.W.Frag) (a : Addr) : It :=
  ⟨fun i H => ∃ xs x, SqT K H a xs ∧ xs[i]? = some x, fun i H x H' => H' = H ∧ ∀ xs, SqT K H a xs → xs[i]? = some x, fun i H => ∃ xs, SqT K H a xs ∧ xs.length ≤ i⟩
/-- lo, lo + 1, .. (n of them) -/
def Itr (lo : Int) (n : Nat) : It := ⟨fun i _ => i < n, fun i H x H' => H' = H ∧ x = .int (lo + i), fun i _ => n ≤ i⟩
theorem turn_list {P : Program} {w : World} {K : PySem.W.Frag} {tg : Expr} (a it : Addr) : Turn P w K tg (Itl K a) [it] it (fun i h => h.IsListIter it a i) where
  mem := by simp
  obj := fun i h st b hb => by
    have e : b = it := by simpa using hb
    subst e
    obtain ⟨o, e, c, d⟩ := st
    exact ⟨o, e, fun v z => by rw [d] at z; cases z⟩
  keep := fun i h h' st k => st.at fun o e => k it (by simp) o e
  item := by
    intro X hP hw hK hc i pins s σ H E I hf st hg
    subst hP hw hK
    obtain ⟨xs, x, hq, hx⟩ := hg
    obtain ⟨its, rv, p, hz⟩ := I.list hq
    obtain ⟨u, hu, ru⟩ := rv.get hx
    obtain ⟨f0, f1, f2, f3, f4, f5⟩ := hf it (by simp)
    refine wpAny_pyNext_list_item st p.isList (x := u) (by simpa using hu) fun h' st' sb => ?_
    have I1 : Inv X pins σ H { s with heap := h' } := I.turned (t' := s.toks) (fun b o hb e => (sb.2 b hb).trans e) f0 f1 f3 f4 f5
    obtain ⟨o, e, c, d⟩ := id st'
    exact ⟨u, rfl, go_of (s := { s with heap := h' }) e c d (by decide) ⟨x, H, I1, ru, ⟨rfl, fun ys hy => by rw [I.list_inj hy hq]; exact hx⟩, st', fun b hb => (hf b hb).1⟩⟩
  done := by
    intro X hP hw hK hc i pins s σ H E I hf st hg
    subst hP hw hK
    obtain ⟨xs, hq, hx⟩ := hg
    obtain ⟨its, rv, p, hz⟩ := I.list hq
    obtain ⟨f0, f1, f2, f3, f4, f5⟩ := hf it (by simp)
    have hl := rv.length
    exact wpAny_pyNext_list_end (I.ok.hd hc) st p.isList (by simp; omega) fun h' eb => ⟨rfl, I.turned (t' := s.toks) (fun b o hb e => eb b o hb e) f0 f1 f3 f4 f5⟩
  self := fun _ _ _ _ _ st h => wpAny_pyIter_listiter st h
theorem turn_tuple {P : Program} {w : World} {K : PySem.W.Frag} {tg : Expr} (a it : Addr) : Turn P w K tg (Itt K a) [it] it (fun i h => h.IsTupleIter it a i) where
  mem := by simp
  obj := fun i h st b hb => by
    have e : b = it := by simpa using hb
    subst e
    obtain ⟨o, e, c, d⟩ := st
    exact ⟨o, e, fun v z => by rw [d] at z; cases z⟩
  keep := fun i h h' st k => st.at fun o e => k it (by simp) o e
  item := by
    intro X hP hw hK hc i pins s σ H E I hf st hg
    subst hP hw hK
    obtain ⟨xs, x, hq, hx⟩ := hg
    obtain ⟨its, rv, p, hz⟩ := I.tuple hq
    obtain ⟨u, hu, ru⟩ := rv.get hx
    obtain ⟨f0, f1, f2, f3, f4, f5⟩ := hf it (by simp)
    refine wpAny_pyNext_tuple_item st (show s.heap.IsTuple a its.toArray from p) (x := u) (by simpa using hu) fun h' st' sb => ?_
    have I1 : Inv X pins σ H { s with heap := h' } := I.turned (t' := s.toks) (fun b o hb e => (sb.2 b hb).trans e) f0 f1 f3 f4 f5
    obtain ⟨o, e, c, d⟩ := id st'
    exact ⟨u, rfl, go_of (s := { s with heap := h' }) e c d (by decide) ⟨x, H, I1, ru, ⟨rfl, fun ys hy => by rw [I.tuple_inj hy hq]; exact hx⟩, st', fun b hb => (hf b hb).1⟩⟩
  done := by
    intro X hP hw hK hc i pins s σ H E I hf st hg
    subst hP hw hK
    obtain ⟨xs, hq, hx⟩ := hg
    obtain ⟨its, rv, p, hz⟩ := I.tuple hq
    obtain ⟨f0, f1, f2, f3, f4, f5⟩ := hf it (by simp)
    have hl := rv.length
    exact wpAny_pyNext_tuple_end (I.ok.hd hc) st (show s.heap.IsTuple a its.toArray from p) (by simp; omega) fun h' eb => ⟨rfl, I.turned (t' := s.toks) (fun b o hb e => eb b o hb e) f0 f1 f3 f4 f5⟩
  self := fun _ _ _ _ _ st h => wpAny_pyIter_tupleiter st h
theorem turn_range {P : Program} {w : World} {K : PySem.W.Frag} {tg : Expr} (it : Addr) (lo : Int) (n : Nat) : Turn P w K tg (Itr lo n) [it] it (fun i h => IsRangeIter h it (lo + (i : Nat) * 1) ((n : Int) - (i : Nat)) 1) where
  mem := by simp
  obj := fun i h st b hb => by
    have e : b = it := by simpa using hb
    subst e
    exact ⟨_, st, fun v z => by
      have z' : Data.fields _ = Data.cell v := z
      cases z'⟩
  keep := fun i h h' st k => k it (by simp) _ st
  item := by
    intro X hP hw hK hc i pins s σ H E I hf st hg
    subst hP hw hK
    obtain ⟨f0, f1, f2, f3, f4, f5⟩ := hf it (by simp)
    have W := Walks.range (prog := X.prog) (w := X.w) (I.ok.hd hc) it lo 1 n
    refine W.item i s _ _ hg st fun v h' tk hv st' kk => ?_
    obtain ⟨t, rfl⟩ := hv
    have I1 : Inv X pins σ H { s with heap := h', toks := tk } := I.turned (fun b o hb e => kk b o (by simpa using hb) e) f0 f1 f3 f4 f5
    refine ⟨_, rfl, go_of (s := { s with heap := h', toks := tk }) (n := "range_iterator") st' rfl rfl (by decide) ⟨.int (lo + i), H, I1, ⟨t, ?_⟩, ⟨rfl, rfl⟩, st', fun b hb => (hf b hb).1⟩⟩
    rw [Int.mul_one]
  done := by
    intro X hP hw hK hc i pins s σ H E I hf st hg
    subst hP hw hK
    obtain ⟨f0, f1, f2, f3, f4, f5⟩ := hf it (by simp)
    exact wpAny_pyNext_range_end (I.ok.hd hc) st (by have : n ≤ i := hg; omega) fun h' eb => ⟨rfl, I.turned (t' := s.toks) (fun b o hb e => eb b o hb e) f0 f1 f3 f4 f5⟩
  self := fun _ _ _ _ _ st h => wpAny_pyIter_rangeiter st h
end L2

namespace L2
open PySem PySem.Spec PyProof.Rows
section
variable {X : Cx} {tg : Expr}
def iList (K : PySem.W.Frag) (tl : TE) : TI := fun σ H R => tl σ H fun x H1 => ∃ a, x = .ref a ∧ (∃ xs, SqL K H1 a xs) ∧ R (Itl K a) H1
def iTup (K : PySem.W.Frag) (tl : TE) : TI := fun σ H R => tl σ H fun x H1 => ∃ a, x = .ref a ∧ (∃ xs, SqT K H1 a xs) ∧ R (Itt K a) H1
theorem pi_list {l : Expr} {tl : TE} (hl : PE X l tl) : PI X tg l (iList X.K tl) := by
  intro pins s σ H R I h
  refine thn (hl pins s σ H _ I h) fun v s1 ⟨x, H1, I1, r1, q1⟩ => ?_
  obtain ⟨a, e, ⟨xs, hq⟩, q⟩ := q1
  subst e
  cases r1
  obtain ⟨its, rv, p, hz⟩ := I1.list hq
  refine wpAny_pyIter_list p.isList ?_
  refine ⟨s1.heap.objs.size, [s1.heap.objs.size], _, _, H1, rfl, I1.kept (t' := s1.toks) fun b o e => Heap.get?_push_of_some _ e, turn_list a _, ⟨_, Heap.get?_push_size _ rfl, rfl, rfl⟩, fun b hb => ?_, q⟩
  have e : b = s1.heap.objs.size := by simpa using hb
  subst e
  exact I1.fpOk (Nat.le_refl _) (I1.hok.fresh (Nat.le_refl _))
theorem pi_tup {l : Expr} {tl : TE} (hl : PE X l tl) : PI X tg l (iTup X.K tl) := by
  intro pins s σ H R I h
  refine thn (hl pins s σ H _ I h) fun v s1 ⟨x, H1, I1, r1, q1⟩ => ?_
  obtain ⟨a, e, ⟨xs, hq⟩, q⟩ := q1
  subst e
  cases r1
  obtain ⟨its, rv, p, hz⟩ := I1.tuple hq
  refine wpAny_pyIter_tuple (show s1.heap.IsTuple a its.toArray from p) ?_
  refine ⟨s1.heap.objs.size, [s1.heap.objs.size], _, _, H1, rfl, I1.kept (t' := s1.toks) fun b o e => Heap.get?_push_of_some _ e, turn_tuple a _, ⟨_, Heap.get?_push_size _ rfl, rfl, rfl⟩, fun b hb => ?_, q⟩
  have e : b = s1.heap.objs.size := by simpa using hb
  subst e
  exact I1.fpOk (Nat.le_refl _) (I1.hok.fresh (Nat.le_refl _))
/-- a range object just made, walked -/
theorem range_it {pins : List (Addr × Obj)} {σ : St} {H : Hp} {s : Shared} {R : It → Hp → Prop} {E : Value → Shared → Prop} {lo hi : Int} {t u v : Tok} {tk : Nat} (I : Inv X pins σ H s) (h1 : -(2 ^ 62) ≤ lo) (h2 : lo < 2 ^ 62) (h3 : -(2 ^ 62) ≤ hi) (h4 : hi < 2 ^ 62)
    (q : R (Itr lo (hi - lo).toNat) H) : wpAny (model X.prog X.w) X.A (pyIter (.ref s.heap.objs.size)) (PIE X pins σ tg R) E { s with heap := s.heap.push { cls := .type "range", data := .fields #[.int lo t, .int hi u, .int 1 v] }, toks := tk } := by
  refine wpAny_pyIter_range (IsRange.new ..) (small_one h1 h2 h3 h4) ?_
  have I1 : Inv X pins σ H { s with heap := s.heap.push { cls := .type "range", data := .fields #[.int lo t, .int hi u, .int 1 v] }, toks := tk } := I.kept fun b o e => Heap.get?_push_of_some _ e
  refine ⟨(s.heap.push { cls := .type "range", data := .fields #[.int lo t, .int hi u, .int 1 v] }).objs.size, [(s.heap.push { cls := .type "range", data := .fields #[.int lo t, .int hi u, .int 1 v] }).objs.size], _, _, H, rfl,
    I1.kept (t' := tk) fun b o e => Heap.get?_push_of_some _ e, turn_range _ lo (hi - lo).toNat, ?_, fun b hb => ?_, q⟩
  · have e1 : lo + ((0 : Nat) : Int) * 1 = lo := by simp
    have e2 : (((hi - lo).toNat : Nat) : Int) - ((0 : Nat) : Int) = Builtin.Range.rangeSize lo hi 1 := by rw [rangeSize_one]; split <;> omega
    show IsRangeIter _ _ (lo + ((0 : Nat) : Int) * 1) ((((hi - lo).toNat : Nat) : Int) - ((0 : Nat) : Int)) 1
    rw [e1, e2]
    exact Heap.get?_push_size _ rfl
  · have e : b = (s.heap.push { cls := .type "range", data := .fields #[.int lo t, .int hi u, .int 1 v] }).objs.size := by simpa using hb
    subst e
    exact I1.fpOk (Nat.le_refl _) (I1.hok.fresh (Nat.le_refl _))
def iRng1 (ta : TA) : TI := fun σ H R => ta σ H fun vs H1 => ∃ j : Int, vs = [.int j] ∧ -(2 ^ 62) ≤ j ∧ j < 2 ^ 62 ∧ R (Itr 0 j.toNat) H1
def iRng2 (ta : TA) : TI := fun σ H R => ta σ H fun vs H1 => ∃ i j : Int, vs = [.int i, .int j] ∧ (-(2 ^ 62) ≤ i ∧ i < 2 ^ 62 ∧ -(2 ^ 62) ≤ j ∧ j < 2 ^ 62) ∧ R (Itr i (j - i).toNat) H1
theorem pi_range1 {a : Expr} {ta : TA} {p pos : Pos} (hg : Gl X "range") (hm : X.mg "range" = none) (ha : PA X [a] ta) (hs : starEach [a] X.env = [(false, eval a X.env)] := by rfl) : PI X tg (.Call (.Name "range" p) [a] [] pos) (iRng1 ta) := by
  intro pins s σ H R I h
  refine Call_ (ld_blt I hg hm boot_range (PyProof.Rows.callWith_type1 (thn (ha pos pins s σ H _ I h) fun us s1 ⟨vs, H1, I1, r1, q1⟩ => ?_) hs rfl))
  obtain ⟨j, e, q1, q2, q⟩ := q1
  subst e
  cases r1 with
  | cons r rr =>
    cases rr
    obtain ⟨t, rfl⟩ := r
    exact call_range_1 (range_it I1 (by omega) (by omega) q1 q2 (by simpa using q))
theorem pi_range2 {a b : Expr} {ta : TA} {p pos : Pos} (hg : Gl X "range") (hm : X.mg "range" = none) (ha : PA X [a, b] ta) (hs : starEach [a, b] X.env = [(false, eval a X.env), (false, eval b X.env)] := by rfl) (hs2 : starEach [b] X.env = [(false, eval b X.env)] := by rfl) :
    PI X tg (.Call (.Name "range" p) [a, b] [] pos) (iRng2 ta) := by
  intro pins s σ H R I h
  refine Call_ (ld_blt I hg hm boot_range (PyProof.Rows.callWith_type1 (thn (ha pos pins s σ H _ I h) fun us s1 ⟨vs, H1, I1, r1, q1⟩ => ?_) (by rw [hs, hs2]) (by rw [hs2]; rfl)))
  obtain ⟨i, j, e, ⟨q1, q2, q3, q4⟩, q⟩ := q1
  subst e
  cases r1 with
  | cons r rr =>
    cases rr with
    | cons r' rr =>
      cases rr
      obtain ⟨t, rfl⟩ := r
      obtain ⟨t', rfl⟩ := r'
      exact call_range_2 (range_it I1 q1 q2 q3 q4 q)

/-! ### for -/
/-- W: the invariant by the turn and a measure; N: what the body is to reach -/
def tFor (wi : TI) (g : TG) (tb : TS) : TS := fun D σ H => wi σ H fun J H1 => ∃ W : Nat → Nat → St → Hp → Prop, (∃ m, W 0 m σ H1) ∧ ∀ i m σ H, W i m σ H →
  (J.stop i H ∧ D.nx σ H) ∨ (J.go i H ∧ ∃ N : St → Hp → Prop, (∀ σ' H', N σ' H' → ∃ m', m' < m ∧ W (i + 1) m' σ' H') ∧ ∀ x H', J.yld i H x H' → g x σ H' fun σ2 H2 => tb { D with nx := N, ct := N, bk := D.nx } σ2 H2)
/-- the records at fp as they stand -/
def pinsAt (fp : List Addr) (h : Heap) : List (Addr × Obj) := fp.filterMap fun b => (h.get? b).map fun o => (b, o)
theorem mem_pinsAt {fp : List Addr} {h : Heap} {b : Addr} {o : Obj} (hb : b ∈ fp) (e : h.get? b = some o) : (b, o) ∈ pinsAt fp h := List.mem_filterMap.mpr ⟨b, hb, by rw [e]; rfl⟩
theorem of_pinsAt {fp : List Addr} {h : Heap} {p : Addr × Obj} (hp : p ∈ pinsAt fp h) : p.1 ∈ fp ∧ h.get? p.1 = some p.2 := by
  obtain ⟨b, hb, e⟩ := List.mem_filterMap.mp hp
  cases q : h.get? b with
  | none => rw [q] at e; cases e
  | some o =>
    rw [q] at e
    have e' : (b, o) = p := Option.some.inj e
    subst e'
    exact ⟨hb, q⟩
theorem Inv.pinned {pins : List (Addr × Obj)} {σ : St} {H : Hp} {s : Shared} {fp : List Addr} (I : Inv X pins σ H s) (hf : ∀ b ∈ fp, FpOk X pins H b) (ho : ∀ b ∈ fp, ∃ o, s.heap.get? b = some o ∧ ∀ v, o.data ≠ .cell v) : Inv X (pins ++ pinsAt fp s.heap) σ H s :=
  I.pins_of fun p hp => (List.mem_append.mp hp).elim (fun z => I.pin p (List.mem_append_right _ z)) fun z => by
    obtain ⟨hb, e⟩ := of_pinsAt z
    obtain ⟨f0, f1, f2, _⟩ := hf p.1 hb
    obtain ⟨o, e', d⟩ := ho p.1 hb
    rw [e] at e'; cases e'
    exact ⟨e, f0, f1, f2, d⟩
theorem Inv.unpinned {pins pl : List (Addr × Obj)} {σ : St} {H : Hp} {s : Shared} (I : Inv X (pins ++ pl) σ H s) : Inv X pins σ H s := I.pins_of fun p hp => I.pin p (List.mem_append_right _ (List.mem_append_left _ hp))
theorem ps_for {iter : Expr} {body : List Stmt} {wi : TI} {g : TG} {tb : TS} {pos : Pos} (hp : PassesOwn (model X.prog X.w) X.A X.env X.xe) (hc : X.calm = true) (hi : PI X tg iter wi) (hg : PG X tg g) (hb : PSs X body tb)
    (hs : ∀ x, foldedSetIterable iter X.env x = pure x := by intro _; rfl) : PS X (.For tg iter body [] pos) (tFor wi g tb) := by
  intro pins s σ H D I h
  refine wpAny_For (thn (hi pins s σ H _ I h) fun v s1 h1 => thn h1 fun itv s2 h2 => ?_) hs
  obtain ⟨it, fp, tn, J, H2, e, I2, T, st2, f2, W, ⟨m0, w0⟩, turn⟩ := h2
  subst e
  -- what stays true of the iterator's objects through the loop
  have stat : ∀ {H' : Hp}, (∀ b ∈ fp, H' b = none) → ∀ b ∈ fp, FpOk X pins H' b := fun hn b hb => ⟨hn b hb, (f2 b hb).2⟩
  refine codeAny_forLoop_any (fun n s' => ∃ i σ' H', Inv X pins σ' H' s' ∧ tn i s'.heap ∧ (∀ b ∈ fp, H' b = none) ∧ W i n σ' H') ?_ m0 ⟨0, σ, H2, I2, st2, fun b hb => (f2 b hb).1, w0⟩
  rintro n s3 ⟨i, σ3, H3, I3, st3, fr3, w3⟩
  rcases turn i n σ3 H3 w3 with ⟨stop, qn⟩ | ⟨go, N, hN, step⟩
  · refine wpAny_passesOwn hp (thn (T.done X rfl rfl rfl hc i pins s3 σ3 H3 X.xe I3 (stat fr3) st3 stop) fun r s4 ⟨hr, I4⟩ => ?_)
    subst hr
    exact wpAny_execs_nil ⟨σ3, H3, I4, qn⟩
  · refine wpAny_passesOwn hp (thn (T.item X rfl rfl rfl hc i pins s3 σ3 H3 X.xe I3 (stat fr3) st3 go) fun r s4 ⟨u, hr, h4⟩ => ?_)
    subst hr
    refine wpAny_passesOwn hp (thn h4 fun _ s5 ⟨x, H5, I5, r5, y5, st5, fr5⟩ => ?_)
    have I5' := I5.pinned (stat fr5) (T.obj _ _ st5)
    refine wpAny_passesOwn hp (thn (hg _ s5 σ3 H5 x u _ I5' r5 (step x H5 y5)) fun _ s6 ⟨σ6, H6, I6, q6⟩ => ?_)
    refine wpAny_passesOwn hp (thn (hb _ s6 σ6 H6 _ I6 q6) fun f s7 q7 => ?_)
    have again : ∀ {σ7 : St} {H7 : Hp}, Inv X (pins ++ pinsAt fp s5.heap) σ7 H7 s7 → N σ7 H7 → ∃ m, m < n ∧ ∃ i σ' H', Inv X pins σ' H' s7 ∧ tn i s7.heap ∧ (∀ b ∈ fp, H' b = none) ∧ W i m σ' H' := fun {σ7 H7} I7 n7 => by
      obtain ⟨m', hm, w7⟩ := hN σ7 H7 n7
      refine ⟨m', hm, i + 1, σ7, H7, I7.unpinned, T.keep _ _ _ st5 fun b hb o e => (I7.pin (b, o) (List.mem_append_right _ (List.mem_append_right _ (mem_pinsAt hb e)))).1, fun b hb => ?_, w7⟩
      obtain ⟨o, e, d⟩ := T.obj _ _ st5 b hb
      exact (I7.pin (b, o) (List.mem_append_right _ (List.mem_append_right _ (mem_pinsAt hb e)))).2.1
    cases f with
    | next => obtain ⟨σ7, H7, I7, n7⟩ := q7; exact again I7 n7
    | cont => obtain ⟨σ7, H7, I7, n7⟩ := q7; exact again I7 n7
    | brk => obtain ⟨σ7, H7, I7, q7⟩ := q7; exact ⟨σ7, H7, I7.unpinned, q7⟩
    | ret v => obtain ⟨x7, σ7, H7, I7, r7, q7⟩ := q7; exact ⟨x7, σ7, H7, I7.unpinned, r7, q7⟩
end

/-! ### the forms one uses -/
/-- over a list that the body leaves as it is -/
theorem for_list {K : PySem.W.Frag} {a : Addr} {xs : List V} {g : TG} {tb : TS} {D : Ends} {σ : St} {H : Hp} (Pv : Nat → St → Hp → Prop) (h0 : Pv 0 σ H) (hl : ∀ i σ H, i ≤ xs.length → Pv i σ H → SqL K H a xs)
    (hs : ∀ i x σ H, xs[i]? = some x → Pv i σ H → g x σ H fun σ2 H2 => tb { D with nx := Pv (i + 1), ct := Pv (i + 1), bk := D.nx } σ2 H2) (hd : ∀ σ H, Pv xs.length σ H → D.nx σ H) :
    ∃ W : Nat → Nat → St → Hp → Prop, (∃ m, W 0 m σ H) ∧ ∀ i m σ H, W i m σ H →
      ((Itl K a).stop i H ∧ D.nx σ H) ∨ ((Itl K a).go i H ∧ ∃ N : St → Hp → Prop, (∀ σ' H', N σ' H' → ∃ m', m' < m ∧ W (i + 1) m' σ' H') ∧ ∀ x H', (Itl K a).yld i H x H' → g x σ H' fun σ2 H2 => tb { D with nx := N, ct := N, bk := D.nx } σ2 H2) := by
  refine ⟨fun i m σ H => m = xs.length - i ∧ i ≤ xs.length ∧ Pv i σ H, ⟨xs.length, by simp, Nat.zero_le _, h0⟩, ?_⟩
  rintro i m σ H ⟨rfl, hi, p⟩
  have q := hl i σ H hi p
  by_cases hlt : i < xs.length
  · refine .inr ⟨⟨xs, xs[i], q, by simp [hlt]⟩, Pv (i + 1), fun σ' H' p' => ⟨xs.length - (i + 1), by omega, rfl, hlt, p'⟩, fun x H' y => ?_⟩
    obtain ⟨e, y⟩ := y
    subst e
    exact hs i x σ _ (y xs q) p
  · have e : i = xs.length := by omega
    subst e
    exact .inl ⟨⟨xs, q, Nat.le_refl _⟩, hd σ H p⟩
theorem for_tup {K : PySem.W.Frag} {a : Addr} {xs : List V} {g : TG} {tb : TS} {D : Ends} {σ : St} {H : Hp} (Pv : Nat → St → Hp → Prop) (h0 : Pv 0 σ H) (hl : ∀ i σ H, i ≤ xs.length → Pv i σ H → SqT K H a xs)
    (hs : ∀ i x σ H, xs[i]? = some x → Pv i σ H → g x σ H fun σ2 H2 => tb { D with nx := Pv (i + 1), ct := Pv (i + 1), bk := D.nx } σ2 H2) (hd : ∀ σ H, Pv xs.length σ H → D.nx σ H) :
    ∃ W : Nat → Nat → St → Hp → Prop, (∃ m, W 0 m σ H) ∧ ∀ i m σ H, W i m σ H →
      ((Itt K a).stop i H ∧ D.nx σ H) ∨ ((Itt K a).go i H ∧ ∃ N : St → Hp → Prop, (∀ σ' H', N σ' H' → ∃ m', m' < m ∧ W (i + 1) m' σ' H') ∧ ∀ x H', (Itt K a).yld i H x H' → g x σ H' fun σ2 H2 => tb { D with nx := N, ct := N, bk := D.nx } σ2 H2) := by
  refine ⟨fun i m σ H => m = xs.length - i ∧ i ≤ xs.length ∧ Pv i σ H, ⟨xs.length, by simp, Nat.zero_le _, h0⟩, ?_⟩
  rintro i m σ H ⟨rfl, hi, p⟩
  have q := hl i σ H hi p
  by_cases hlt : i < xs.length
  · refine .inr ⟨⟨xs, xs[i], q, by simp [hlt]⟩, Pv (i + 1), fun σ' H' p' => ⟨xs.length - (i + 1), by omega, rfl, hlt, p'⟩, fun x H' y => ?_⟩
    obtain ⟨e, y⟩ := y
    subst e
    exact hs i x σ _ (y xs q) p
  · have e : i = xs.length := by omega
    subst e
    exact .inl ⟨⟨xs, q, Nat.le_refl _⟩, hd σ H p⟩
theorem for_range {lo : Int} {n : Nat} {g : TG} {tb : TS} {D : Ends} {σ : St} {H : Hp} (Pv : Nat → St → Hp → Prop) (h0 : Pv 0 σ H)
    (hs : ∀ i σ H, i < n → Pv i σ H → g (.int (lo + i)) σ H fun σ2 H2 => tb { D with nx := Pv (i + 1), ct := Pv (i + 1), bk := D.nx } σ2 H2) (hd : ∀ σ H, Pv n σ H → D.nx σ H) :
    ∃ W : Nat → Nat → St → Hp → Prop, (∃ m, W 0 m σ H) ∧ ∀ i m σ H, W i m σ H →
      ((Itr lo n).stop i H ∧ D.nx σ H) ∨ ((Itr lo n).go i H ∧ ∃ N : St → Hp → Prop, (∀ σ' H', N σ' H' → ∃ m', m' < m ∧ W (i + 1) m' σ' H') ∧ ∀ x H', (Itr lo n).yld i H x H' → g x σ H' fun σ2 H2 => tb { D with nx := N, ct := N, bk := D.nx } σ2 H2) := by
  refine ⟨fun i m σ H => m = n - i ∧ i ≤ n ∧ Pv i σ H, ⟨n, by simp, Nat.zero_le _, h0⟩, ?_⟩
  rintro i m σ H ⟨rfl, hi, p⟩
  by_cases hlt : i < n
  · refine .inr ⟨hlt, Pv (i + 1), fun σ' H' p' => ⟨n - (i + 1), by omega, rfl, hlt, p'⟩, fun x H' y => ?_⟩
    obtain ⟨e, y⟩ := y
    subst e y
    exact hs i σ _ hlt p
  · have e : i = n := by omega
    subst e
    exact .inl ⟨Nat.le_refl _, hd σ H p⟩
/-- while, by a word and a measure of the state -/
theorem while_by {c : TT} {tb : TS} {D : Ends} {σ : St} {H : Hp} (Pv : St → Hp → Prop) (μ : St → Hp → Nat) (h0 : Pv σ H)
    (hs : ∀ σ H, Pv σ H → c σ H fun b H1 => if b = true then tb { D with nx := fun σ' H' => Pv σ' H' ∧ μ σ' H' < μ σ H, ct := fun σ' H' => Pv σ' H' ∧ μ σ' H' < μ σ H, bk := D.nx } σ H1 else D.nx σ H1)
    (mono : ∀ σ H Q Q', (∀ b H1, Q b H1 → Q' b H1) → c σ H Q → c σ H Q') : tWhile c tb D σ H := by
  refine ⟨fun m σ H => m = μ σ H ∧ Pv σ H, ⟨_, rfl, h0⟩, ?_⟩
  rintro m σ H ⟨rfl, p⟩
  refine mono σ H _ _ (fun b H1 q => ?_) (hs σ H p)
  cases b with
  | true => exact ⟨_, fun σ' H' ⟨p', l⟩ => ⟨_, l, rfl, p'⟩, q⟩
  | false => exact q
end L2

namespace L2
open PySem PySem.Spec PyProof.Rows

abbrev R2 := V → V → Hp → VK → Prop
/-- a two-place operation on values: f is binaryOp op, inplaceOp op or compareOp op -/
def OpR (X : Cx) (f : Value → Value → Sem Value) (r : R2) : Prop :=
  ∀ (pins : List (Addr × Obj)) (s : Shared) (σ : St) (H : Hp) (x y : V) (v u : Value) (Q : VK), Inv X pins σ H s → RelV x v → RelV y u → r x y H Q →
    wpAny (model X.prog X.w) X.A (f v u) (EP X pins σ Q) X.xe s
/-- a one-place operation -/
def UnR (X : Cx) (f : Value → Sem Value) (r : V → Hp → VK → Prop) : Prop :=
  ∀ (pins : List (Addr × Obj)) (s : Shared) (σ : St) (H : Hp) (x : V) (v : Value) (Q : VK), Inv X pins σ H s → RelV x v → r x H Q →
    wpAny (model X.prog X.w) X.A (f v) (EP X pins σ Q) X.xe s
/-- a call of a value that is known (a builtin, a type) with values -/
def CallR (X : Cx) (f : Value) (r : List V → Hp → VK → Prop) : Prop :=
  ∀ (pins : List (Addr × Obj)) (s : Shared) (σ : St) (H : Hp) (xs : List V) (us : List Value) (Q : VK), Inv X pins σ H s → Vals xs us → r xs H Q →
    wpAny (model X.prog X.w) X.A (call f us) (EP X pins σ Q) X.xe s
/-- a value's truth -/
def TruR (X : Cx) (r : V → Hp → (Bool → Hp → Prop) → Prop) : Prop :=
  ∀ (pins : List (Addr × Obj)) (s : Shared) (σ : St) (H : Hp) (x : V) (v : Value) (Q : Bool → Hp → Prop), Inv X pins σ H s → RelV x v → r x H Q →
    wpAny (model X.prog X.w) X.A (truthy v) (TP X pins σ Q) X.xe s

def tOp (r : R2) (ta tb : TE) : TE := fun σ H Q => ta σ H fun x H1 => tb σ H1 fun y H2 => r x y H2 Q
def tUn (r : V → Hp → VK → Prop) (ta : TE) : TE := fun σ H Q => ta σ H fun x H1 => r x H1 Q
/-- ints in, under C, and a value out -/
def rI (C : Int → Int → Prop) (g : Int → Int → V) : R2 := fun x y H Q => ∃ i j, x = .int i ∧ y = .int j ∧ C i j ∧ Q (g i j) H
def rI0 (g : Int → Int → V) : R2 := fun x y H Q => ∃ i j, x = .int i ∧ y = .int j ∧ Q (g i j) H
def rU (g : Int → V) : V → Hp → VK → Prop := fun x H Q => ∃ i, x = .int i ∧ Q (g i) H

section
variable {X : Cx} {a b c : Expr} {ta tb tc : TE} {pos : Pos}

theorem binT (ha : PE X a ta) (hb : PE X b tb) {pins : List (Addr × Obj)} {s : Shared} {σ : St} {H : Hp} {R : V → V → Hp → Prop} (I : Inv X pins σ H s)
    (h : ta σ H fun x H1 => tb σ H1 fun y H2 => R x y H2) {Q : Value → Shared → Prop} {f : Value → Value → Sem Value}
    (hf : ∀ v u s2 x y H2, Inv X pins σ H2 s2 → RelV x v → RelV y u → R x y H2 → wpAny (model X.prog X.w) X.A (f v u) Q X.xe s2) :
    wpAny (model X.prog X.w) X.A (eval a X.env) (fun v s₁ => wpAny (model X.prog X.w) X.A (eval b X.env) (fun u s₂ => wpAny (model X.prog X.w) X.A (f v u) Q X.xe s₂) X.xe s₁) X.xe s := by
  refine thn (ha pins s σ H _ I h) fun v s1 ⟨x, H1, I1, r1, q1⟩ => ?_
  refine thn (hb pins s1 σ H1 _ I1 q1) fun u s2 ⟨y, H2, I2, r2, q2⟩ => ?_
  exact hf v u s2 x y H2 I2 r1 r2 q2

theorem pe_op {op : Operator} {r : R2} (ho : OpR X (binaryOp op) r) (ha : PE X a ta) (hb : PE X b tb) : PE X (.BinOp a op b pos) (tOp r ta tb) := by
  intro pins s σ H Q I h
  exact wpAny_BinOp (binT ha hb I h fun v u s2 x y H2 I2 rx ry q => ho pins s2 σ H2 x y v u Q I2 rx ry q)
theorem pe_un {op : UnaryOp} {r : V → Hp → VK → Prop} (ho : UnR X (unaryOp op) r) (ha : PE X a ta) : PE X (.UnaryOp op a pos) (tUn r ta) := by
  intro pins s σ H Q I h
  exact UnaryOp_ (thn (ha pins s σ H _ I h) fun v s1 ⟨x, H1, I1, r1, q1⟩ => ho pins s1 σ H1 x v Q I1 r1 q1)
/-- a op= e at a name: the name's slot i -/
theorem augR {op : Operator} {r : R2} (ho : OpR X (inplaceOp op) r) {pins : List (Addr × Obj)} {s : Shared} {σ : St} {H : Hp} {x y : V} {v u : Value} {Q : VK} (I : Inv X pins σ H s)
    (rx : RelV x v) (ry : RelV y u) (q : r x y H Q) : wpAny (model X.prog X.w) X.A (inplaceOp op v u) (EP X pins σ Q) X.xe s := ho pins s σ H x y v u Q I rx ry q

/-! ### ints -/
theorem opI {f : Value → Value → Sem Value} {C : Int → Int → Prop} {g : Int → Int → Int}
    (rule : ∀ (i j : Int) (t u : Tok) (s : Shared) (Q : Value → Shared → Prop) (E : Value → Shared → Prop), C i j → Q (.int (g i j) s.toks) { s with toks := s.toks + 1 } → wpAny (model X.prog X.w) X.A (f (.int i t) (.int j u)) Q E s) :
    OpR X f (rI C fun i j => .int (g i j)) := by
  intro pins s σ H x y v u Q I rx ry h
  obtain ⟨i, j, rfl, rfl, hc, q⟩ := h
  obtain ⟨t, rfl⟩ := rx
  obtain ⟨t', rfl⟩ := ry
  exact rule i j t t' s _ _ hc ⟨.int (g i j), H, I.tok _, ⟨_, rfl⟩, q⟩
theorem opI0 {f : Value → Value → Sem Value} {g : Int → Int → Int}
    (rule : ∀ (i j : Int) (t u : Tok) (s : Shared) (Q : Value → Shared → Prop) (E : Value → Shared → Prop), Q (.int (g i j) s.toks) { s with toks := s.toks + 1 } → wpAny (model X.prog X.w) X.A (f (.int i t) (.int j u)) Q E s) :
    OpR X f (rI0 fun i j => .int (g i j)) := by
  intro pins s σ H x y v u Q I rx ry h
  obtain ⟨i, j, rfl, rfl, q⟩ := h
  obtain ⟨t, rfl⟩ := rx
  obtain ⟨t', rfl⟩ := ry
  exact rule i j t t' s _ _ ⟨.int (g i j), H, I.tok _, ⟨_, rfl⟩, q⟩
theorem opB0 {f : Value → Value → Sem Value} {g : Int → Int → Bool}
    (rule : ∀ (i j : Int) (t u : Tok) (s : Shared) (Q : Value → Shared → Prop) (E : Value → Shared → Prop), Q (.bool (g i j)) s → wpAny (model X.prog X.w) X.A (f (.int i t) (.int j u)) Q E s) :
    OpR X f (rI0 fun i j => .bl (g i j)) := by
  intro pins s σ H x y v u Q I rx ry h
  obtain ⟨i, j, rfl, rfl, q⟩ := h
  obtain ⟨t, rfl⟩ := rx
  obtain ⟨t', rfl⟩ := ry
  exact rule i j t t' s _ _ ⟨.bl (g i j), H, I, rfl, q⟩

def CDiv (i j : Int) : Prop := 0 < j ∧ j < 1073741824
def CDivN (i j : Int) : Prop := j ≠ 0 ∧ j.natAbs < 1073741824
def CPow (i j : Int) : Prop := 0 ≤ j ∧ j ≤ 1000000 ∧ i.natAbs < 2 ^ 64
def CMul (i j : Int) : Prop := (-(2 ^ 64) < i ∧ i < 2 ^ 64) ∨ (-(2 ^ 64) < j ∧ j < 2 ^ 64)
theorem CMul.ok {i j : Int} (h : CMul i j) : IntMulOk i j := by
  rcases h with ⟨h1, h2⟩ | ⟨h1, h2⟩
  · exact .of_left (intBits_le_64 h1 h2)
  · exact .of_right (intBits_le_64 h1 h2)
theorem two_pow_nn (k : Nat) : (0 : Int) ≤ 2 ^ k := by
  rw [two_pow_cast]
  exact Int.natCast_nonneg _

theorem op_add : OpR X (binaryOp .Add) (rI0 fun i j => .int (i + j)) := opI0 fun _ _ _ _ _ _ _ q => add_int q
theorem op_sub : OpR X (binaryOp .Sub) (rI0 fun i j => .int (i - j)) := opI0 fun _ _ _ _ _ _ _ q => sub_int q
theorem op_mul : OpR X (binaryOp .Mult) (rI CMul fun i j => .int (i * j)) := opI fun _ _ _ _ _ _ _ hc q => mul_int q hc.ok
/-- // by a positive divisor -/
theorem op_fdiv : OpR X (binaryOp .FloorDiv) (rI CDiv fun i j => .int (i / j)) := opI fun i j _ _ _ _ _ hc q => by
  have h1 : (0 : Int) < j := hc.1
  have h2 : j < 1073741824 := hc.2
  exact floordiv_int (by omega) (by rw [Int.fdiv_eq_ediv_of_nonneg i (by omega)]; exact q) (.inl (PyProof.noPylong_small (by omega)))
theorem op_fdivN : OpR X (binaryOp .FloorDiv) (rI CDivN fun i j => .int (i.fdiv j)) := opI fun _ _ _ _ _ _ _ hc q => floordiv_int hc.1 q (.inl (PyProof.noPylong_small hc.2))
/-- % by a positive divisor of any size -/
theorem op_mod : OpR X (binaryOp .Mod) (rI (fun _ j => 0 < j) fun i j => .int (i % j)) := opI fun i j _ _ _ _ _ hc q => by
  have h1 : (0 : Int) < j := hc
  exact mod_int' (by omega) (by rw [Int.fmod_eq_emod_of_nonneg i (by omega)]; exact q)
theorem op_modN : OpR X (binaryOp .Mod) (rI (fun _ j => j ≠ 0) fun i j => .int (i.fmod j)) := opI fun _ _ _ _ _ _ _ hc q => mod_int' hc q
theorem op_pow : OpR X (binaryOp .Pow) (rI CPow fun i j => .int (i ^ j.toNat)) := opI fun _ _ _ _ _ _ _ hc q => pow_int_small hc.1 hc.2.1 hc.2.2 q
theorem op_shl : OpR X (binaryOp .LShift) (rI CPow fun i j => .int (i * 2 ^ j.toNat)) := opI fun _ _ _ _ _ _ _ hc q => lshift_int_small hc.1 hc.2.1 hc.2.2 q
theorem op_shr : OpR X (binaryOp .RShift) (rI (fun _ j => 0 ≤ j) fun i j => .int (i / 2 ^ j.toNat)) := opI fun i j _ _ _ _ _ hc q =>
  rshift_int hc (by rw [Int.fdiv_eq_ediv_of_nonneg i (two_pow_nn _)]; exact q)
theorem op_and : OpR X (binaryOp .BitAnd) (rI0 fun i j => .int (Builtin.bitAnd i j)) := opI0 fun _ _ _ _ _ _ _ q => and_int q
theorem op_or : OpR X (binaryOp .BitOr) (rI0 fun i j => .int (Builtin.bitOr i j)) := opI0 fun _ _ _ _ _ _ _ q => or_int q
theorem op_xor : OpR X (binaryOp .BitXor) (rI0 fun i j => .int (Builtin.bitXor i j)) := opI0 fun _ _ _ _ _ _ _ q => xor_int q

theorem iop_add : OpR X (inplaceOp .Add) (rI0 fun i j => .int (i + j)) := opI0 fun _ _ _ _ _ _ _ q => iadd_int q
theorem iop_sub : OpR X (inplaceOp .Sub) (rI0 fun i j => .int (i - j)) := opI0 fun _ _ _ _ _ _ _ q => isub_int q
theorem iop_mul : OpR X (inplaceOp .Mult) (rI CMul fun i j => .int (i * j)) := opI fun _ _ _ _ _ _ _ hc q => imul_int q hc.ok
theorem iop_fdiv : OpR X (inplaceOp .FloorDiv) (rI CDiv fun i j => .int (i / j)) := opI fun i j _ _ _ _ _ hc q => by
  have h1 : (0 : Int) < j := hc.1
  have h2 : j < 1073741824 := hc.2
  exact ifloordiv_int (by omega) (by rw [Int.fdiv_eq_ediv_of_nonneg i (by omega)]; exact q) (.inl (PyProof.noPylong_small (by omega)))
theorem iop_mod : OpR X (inplaceOp .Mod) (rI (fun _ j => 0 < j) fun i j => .int (i % j)) := opI fun i j _ _ _ _ _ hc q => by
  have h1 : (0 : Int) < j := hc
  exact imod_int (by omega) (by rw [Int.fmod_eq_emod_of_nonneg i (by omega)]; exact q)
theorem iop_shl : OpR X (inplaceOp .LShift) (rI CPow fun i j => .int (i * 2 ^ j.toNat)) := opI fun _ _ _ _ _ _ _ hc q => ilshift_int_small hc.1 hc.2.1 hc.2.2 q
theorem iop_shr : OpR X (inplaceOp .RShift) (rI (fun _ j => 0 ≤ j) fun i j => .int (i / 2 ^ j.toNat)) := opI fun i j _ _ _ _ _ hc q =>
  irshift_int hc (by rw [Int.fdiv_eq_ediv_of_nonneg i (two_pow_nn _)]; exact q)
theorem iop_and : OpR X (inplaceOp .BitAnd) (rI0 fun i j => .int (Builtin.bitAnd i j)) := opI0 fun _ _ _ _ _ _ _ q => iand_int q
theorem iop_or : OpR X (inplaceOp .BitOr) (rI0 fun i j => .int (Builtin.bitOr i j)) := opI0 fun _ _ _ _ _ _ _ q => ior_int q
theorem iop_xor : OpR X (inplaceOp .BitXor) (rI0 fun i j => .int (Builtin.bitXor i j)) := opI0 fun _ _ _ _ _ _ _ q => ixor_int q

theorem unI {f : Value → Sem Value} {g : Int → Int}
    (rule : ∀ (i : Int) (t : Tok) (s : Shared) (Q : Value → Shared → Prop) (E : Value → Shared → Prop), Q (.int (g i) s.toks) { s with toks := s.toks + 1 } → wpAny (model X.prog X.w) X.A (f (.int i t)) Q E s) :
    UnR X f (rU fun i => .int (g i)) := by
  intro pins s σ H x v Q I rx h
  obtain ⟨i, rfl, q⟩ := h
  obtain ⟨t, rfl⟩ := rx
  exact rule i t s _ _ ⟨.int (g i), H, I.tok _, ⟨_, rfl⟩, q⟩
theorem un_neg : UnR X (unaryOp .USub) (rU fun i => .int (-i)) := unI fun _ _ _ _ _ q => neg_int q
theorem un_inv : UnR X (unaryOp .Invert) (rU fun i => .int (Builtin.bitNot i)) := unI fun _ _ _ _ _ q => invert_int q

/-! ### bools among ints: n += (a < b) -/
theorem op_add_ib : OpR X (binaryOp .Add) (fun x y H Q => ∃ i k, x = .int i ∧ y = .bl k ∧ Q (.int (i + b2i k)) H) := by
  intro pins s σ H x y v u Q I rx ry h
  obtain ⟨i, k, rfl, rfl, q⟩ := h
  obtain ⟨t, rfl⟩ := rx
  cases ry
  exact add_int_bool ⟨.int (i + b2i k), H, I.tok _, ⟨_, rfl⟩, q⟩
end

/-! ### comparisons -/
/-- the scalars that == tells apart as data does -/
def scal : V → V → Bool
  | .non, .non => true | .non, .int _ => true | .int _, .non => true | .non, .bl _ => true | .bl _, .non => true | .non, .str _ => true | .str _, .non => true
  | .int _, .int _ => true | .bl _, .bl _ => true | .str _, .str _ => true | .byt _, .byt _ => true
  | .int _, .str _ => true | .str _, .int _ => true | .bl _, .str _ => true | .str _, .bl _ => true
  | _, _ => false
def rEq : R2 := fun x y H Q => scal x y = true ∧ Q (.bl (decide (x = y))) H
def rNe : R2 := fun x y H Q => scal x y = true ∧ Q (.bl (!decide (x = y))) H

theorem dec_int {i j : Int} : decide (V.int i = V.int j) = (i == j) := by
  rw [Bool.eq_iff_iff]
  simp
theorem dec_bl {i j : Bool} : decide (V.bl i = V.bl j) = (i == j) := by
  rw [Bool.eq_iff_iff]
  simp
theorem dec_str {i j : Str} : decide (V.str i = V.str j) = (i == j) := by
  rw [Bool.eq_iff_iff]
  simp
theorem dec_byt {i j : Array UInt8} : decide (V.byt i = V.byt j) = (i.toList == j.toList) := by
  rw [Bool.eq_iff_iff]
  cases i
  cases j
  simp

section
variable {X : Cx} {a b c : Expr} {ta tb tc : TE} {pos : Pos}
theorem fin_bl {pins : List (Addr × Obj)} {σ : St} {H : Hp} {s : Shared} {Q : VK} {k k' : Bool} (I : Inv X pins σ H s) (q : Q (.bl k) H) (e : k = k') : EP X pins σ Q (.bool k') s := by
  subst e
  exact ⟨.bl k, H, I, rfl, q⟩
theorem op_eq : OpR X (compareOp .Eq) rEq := by
  intro pins s σ H x y v u Q I rx ry h
  obtain ⟨hs, q⟩ := h
  cases x with
  | non =>
    cases rx
    cases y with
    | non => cases ry; exact PySem.EqNone.eq_none_none (fin_bl I q (by simp))
    | bl j => cases ry; exact PySem.EqNone.eq_none_bool (fin_bl I q (by simp))
    | int j => obtain ⟨t', rfl⟩ := ry; exact PySem.EqNone.eq_none_int (fin_bl I q (by simp))
    | str j => obtain ⟨t', rfl⟩ := ry; exact PySem.EqNone.eq_none_str (fin_bl I q (by simp))
    | _ => exact absurd (show false = true from hs) Bool.false_ne_true
  | bl i =>
    cases rx
    cases y with
    | non => cases ry; exact PySem.EqNone.eq_bool_none (fin_bl I q (by simp))
    | bl j => cases ry; exact eq_bool (fin_bl I q dec_bl)
    | str j => obtain ⟨t', rfl⟩ := ry; exact PySem.EqMixed.eq_bool_str (fin_bl I q (by simp))
    | _ => exact absurd (show false = true from hs) Bool.false_ne_true
  | int i =>
    obtain ⟨t, rfl⟩ := rx
    cases y with
    | non => cases ry; exact PySem.EqNone.eq_int_none (fin_bl I q (by simp))
    | int j => obtain ⟨t', rfl⟩ := ry; exact eq_int (fin_bl I q dec_int)
    | str j => obtain ⟨t', rfl⟩ := ry; exact PySem.EqMixed.eq_int_str (fin_bl I q (by simp))
    | _ => exact absurd (show false = true from hs) Bool.false_ne_true
  | str i =>
    obtain ⟨t, rfl⟩ := rx
    cases y with
    | non => cases ry; exact PySem.EqNone.eq_str_none (fin_bl I q (by simp))
    | bl j => cases ry; exact PySem.EqMixed.eq_str_bool (fin_bl I q (by simp))
    | int j => obtain ⟨t', rfl⟩ := ry; exact PySem.EqMixed.eq_str_int (fin_bl I q (by simp))
    | str j => obtain ⟨t', rfl⟩ := ry; exact eq_str (fin_bl I q dec_str)
    | _ => exact absurd (show false = true from hs) Bool.false_ne_true
  | byt i =>
    obtain ⟨t, rfl⟩ := rx
    cases y with
    | byt j => obtain ⟨t', rfl⟩ := ry; exact PySem.W.eq_bytes (fin_bl I q dec_byt)
    | _ => exact absurd (show false = true from hs) Bool.false_ne_true
  | _ => cases y <;> exact absurd (show false = true from hs) Bool.false_ne_true
theorem op_ne : OpR X (compareOp .NotEq) rNe := by
  intro pins s σ H x y v u Q I rx ry h
  obtain ⟨hs, q⟩ := h
  cases x with
  | non =>
    cases rx
    cases y with
    | non => cases ry; exact PySem.EqNone.ne_none_none (fin_bl I q (by simp))
    | bl j => cases ry; exact PySem.EqNone.ne_none_bool (fin_bl I q (by simp))
    | int j => obtain ⟨t', rfl⟩ := ry; exact PySem.EqNone.ne_none_int (fin_bl I q (by simp))
    | str j => obtain ⟨t', rfl⟩ := ry; exact PySem.EqNone.ne_none_str (fin_bl I q (by simp))
    | _ => exact absurd (show false = true from hs) Bool.false_ne_true
  | bl i =>
    cases rx
    cases y with
    | non => cases ry; exact PySem.EqNone.ne_bool_none (fin_bl I q (by simp))
    | bl j => cases ry; exact ne_bool (fin_bl I q (congrArg not dec_bl))
    | str j => obtain ⟨t', rfl⟩ := ry; exact PySem.EqMixed.ne_bool_str (fin_bl I q (by simp))
    | _ => exact absurd (show false = true from hs) Bool.false_ne_true
  | int i =>
    obtain ⟨t, rfl⟩ := rx
    cases y with
    | non => cases ry; exact PySem.EqNone.ne_int_none (fin_bl I q (by simp))
    | int j => obtain ⟨t', rfl⟩ := ry; exact ne_int (fin_bl I q (congrArg not dec_int))
    | str j => obtain ⟨t', rfl⟩ := ry; exact PySem.EqMixed.ne_int_str (fin_bl I q (by simp))
    | _ => exact absurd (show false = true from hs) Bool.false_ne_true
  | str i =>
    obtain ⟨t, rfl⟩ := rx
    cases y with
    | non => cases ry; exact PySem.EqNone.ne_str_none (fin_bl I q (by simp))
    | bl j => cases ry; exact PySem.EqMixed.ne_str_bool (fin_bl I q (by simp))
    | int j => obtain ⟨t', rfl⟩ := ry; exact PySem.EqMixed.ne_str_int (fin_bl I q (by simp))
    | str j => obtain ⟨t', rfl⟩ := ry; exact ne_str (fin_bl I q (congrArg not dec_str))
    | _ => exact absurd (show false = true from hs) Bool.false_ne_true
  | byt i =>
    obtain ⟨t, rfl⟩ := rx
    cases y with
    | byt j => obtain ⟨t', rfl⟩ := ry; exact PySem.W.ne_bytes (fin_bl I q (congrArg not dec_byt))
    | _ => exact absurd (show false = true from hs) Bool.false_ne_true
  | _ => cases y <;> exact absurd (show false = true from hs) Bool.false_ne_true

theorem op_lt : OpR X (compareOp .Lt) (rI0 fun i j => .bl (decide (i < j))) := opB0 fun _ _ _ _ _ _ _ q => lt_int q
theorem op_le : OpR X (compareOp .LtE) (rI0 fun i j => .bl (decide (i ≤ j))) := opB0 fun _ _ _ _ _ _ _ q => le_int q
theorem op_gt : OpR X (compareOp .Gt) (rI0 fun i j => .bl (decide (j < i))) := opB0 fun _ _ _ _ _ _ _ q => gt_int q
theorem op_ge : OpR X (compareOp .GtE) (rI0 fun i j => .bl (decide (j ≤ i))) := opB0 fun _ _ _ _ _ _ _ q => ge_int q
theorem op_lt_str : OpR X (compareOp .Lt) (fun x y H Q => ∃ i j, x = .str i ∧ y = .str j ∧ Q (.bl (decide (i.cps.toList < j.cps.toList))) H) := by
  intro pins s σ H x y v u Q I rx ry h
  obtain ⟨i, j, rfl, rfl, q⟩ := h
  obtain ⟨t, rfl⟩ := rx
  obtain ⟨t', rfl⟩ := ry
  exact lt_str (fin_bl I q rfl)
/-- the one string within the other -/
theorem op_in_str : OpR X (compareOp .In) (fun x y H Q => ∃ i j, x = .str i ∧ y = .str j ∧ Q (.bl (!(Builtin.Str.occurrences j i 0 j.length 1).isEmpty)) H) := by
  intro pins s σ H x y v u Q I rx ry h
  obtain ⟨i, j, rfl, rfl, q⟩ := h
  obtain ⟨t, rfl⟩ := rx
  obtain ⟨t', rfl⟩ := ry
  exact in_str (fin_bl I q rfl)

/-- is None, is not None: the right side a value none -/
theorem op_isN : OpR X (compareOp .Is) (fun x y H Q => y = .non ∧ Q (.bl (decide (x = .non))) H) := by
  intro pins s σ H x y v u Q I rx ry h
  obtain ⟨rfl, q⟩ := h
  cases ry
  refine is_none_gen (fin_bl I q ?_)
  cases x <;> first
    | (cases rx; rfl)
    | (obtain ⟨t, rfl⟩ := rx; rfl)
theorem op_notN : OpR X (compareOp .IsNot) (fun x y H Q => y = .non ∧ Q (.bl (!decide (x = .non))) H) := by
  intro pins s σ H x y v u Q I rx ry h
  obtain ⟨rfl, q⟩ := h
  cases ry
  refine isnot_none_gen (fin_bl I q ?_)
  cases x <;> first
    | (cases rx; rfl)
    | (obtain ⟨t, rfl⟩ := rx; rfl)

theorem op_notin_str : OpR X (compareOp .NotIn) (fun x y H Q => ∃ i j, x = .str i ∧ y = .str j ∧ Q (.bl (!(!(Builtin.Str.occurrences j i 0 j.length 1).isEmpty))) H) := by
  intro pins s σ H x y v u Q I rx ry h
  obtain ⟨i, j, rfl, rfl, q⟩ := h
  obtain ⟨t, rfl⟩ := rx
  obtain ⟨t', rfl⟩ := ry
  exact notIn_str (fin_bl I q rfl)
/-- is, is not of two objects that are tracked lists or instances -/
def isObj : HO → Bool
  | .lst _ => true
  | .ins _ _ _ => true
  | _ => false
theorem obj_there {pins : List (Addr × Obj)} {s : Shared} {σ : St} {H : Hp} {a : Addr} {o : HO} (I : Inv X pins σ H s) (h : H a = some o) (p : isObj o = true) : ∃ ob, s.heap.get? a = some ob ∧ ob.cls ≠ .type "tuple" := by
  cases o with
  | lst xs =>
    obtain ⟨_, its, n, _, e⟩ : xs.length ≤ sizeLine ∧ ∃ (its : List Value) (n : Nat), Vals xs its ∧ s.heap.get? a = some { cls := .type "list", data := .seq its.toArray n } := I.hok a _ h
    exact ⟨_, e, (by show Value.type "list" ≠ .type "tuple"; decide +kernel)⟩
  | ins C dx fs =>
    have x := I.hok a _ h
    obtain ⟨_, _, _, e, _⟩ := x
    exact ⟨_, e, (by show Value.ref C ≠ .type "tuple"; exact fun z => by cases z)⟩
  | _ => exact absurd (show false = true from p) Bool.false_ne_true
theorem op_is_ref : OpR X (compareOp .Is) (fun x y H Q => ∃ a b oa ob, x = .ref a ∧ y = .ref b ∧ H a = some oa ∧ isObj oa = true ∧ H b = some ob ∧ isObj ob = true ∧ Q (.bl (decide (a = b))) H) := by
  intro pins s σ H x y v u Q I rx ry h
  obtain ⟨a, b, oa, ob, rfl, rfl, ha, pa, hb, pb, q⟩ := h
  cases rx
  cases ry
  obtain ⟨o1, e1, n1⟩ := obj_there I ha pa
  obtain ⟨o2, e2, _⟩ := obj_there I hb pb
  by_cases z : a = b
  · subst z
    exact wpAny_is_ref_self (fin_bl I q (by simp))
  · exact wpAny_is_ref_other z e1 e2 n1 (fin_bl I q (by simp [z]))
theorem op_isnot_ref : OpR X (compareOp .IsNot) (fun x y H Q => ∃ a b oa ob, x = .ref a ∧ y = .ref b ∧ H a = some oa ∧ isObj oa = true ∧ H b = some ob ∧ isObj ob = true ∧ Q (.bl (!decide (a = b))) H) := by
  intro pins s σ H x y v u Q I rx ry h
  obtain ⟨a, b, oa, ob, rfl, rfl, ha, pa, hb, pb, q⟩ := h
  cases rx
  cases ry
  obtain ⟨o1, e1, n1⟩ := obj_there I ha pa
  obtain ⟨o2, e2, _⟩ := obj_there I hb pb
  by_cases z : a = b
  · subst z
    exact wpAny_isNot_ref_self (fin_bl I q (by simp))
  · exact wpAny_isNot_ref_other z e1 e2 n1 (fin_bl I q (by simp [z]))

/-- two rules for one operation: by cases -/
theorem OpR.or {f : Value → Value → Sem Value} {r r' : R2} (h : OpR X f r) (h' : OpR X f r') : OpR X f (fun x y H Q => r x y H Q ∨ r' x y H Q) := by
  intro pins s σ H x y v u Q I rx ry q
  rcases q with q | q
  · exact h pins s σ H x y v u Q I rx ry q
  · exact h' pins s σ H x y v u Q I rx ry q

theorem nomark (b : Expr) {op : CmpOp} (h : op ≠ .In := by decide) (h2 : op ≠ .NotIn := by decide) : behindInMarks op b = false := by
  have e1 : (op == CmpOp.In) = false := by cases op <;> first | rfl | exact absurd rfl h
  have e2 : (op == CmpOp.NotIn) = false := by cases op <;> first | rfl | exact absurd rfl h2
  cases b <;> simp [behindInMarks, e1, e2]
/-- a comparison as a value; hm: nomark b, or (for in, not in) by with_unfolding_all rfl -/
theorem pe_cmpR {op : CmpOp} {r : R2} (ho : OpR X (compareOp op) r) (ha : PE X a ta) (hb : PE X b tb) (hm : behindInMarks op b = false) : PE X (.Compare a [op] [b] pos) (tOp r ta tb) := by
  intro pins s σ H Q I h
  exact wpAny_Compare1 (binT ha hb I h fun v u s2 x y H2 I2 rx ry q => ho pins s2 σ H2 x y v u Q I2 rx ry q) hm
/-- a reading of a value as a test -/
def tTest (t : TE) : TT := fun σ H Q => t σ H fun x H' => ∃ k, x = .bl k ∧ Q k H'
theorem pt_cmpR {op : CmpOp} {r : R2} (ho : OpR X (compareOp op) r) (ha : PE X a ta) (hb : PE X b tb) (hm : behindInMarks op b = false) : PT X (.Compare a [op] [b] pos) (tTest (tOp r ta tb)) := by
  intro pins s σ H Q I h
  refine wpAny_isTrue_Compare1 (thn (ha pins s σ H _ I h) fun v s1 ⟨x, H1, I1, r1, q1⟩ => thn (hb pins s1 σ H1 _ I1 q1) fun u s2 ⟨y, H2, I2, r2, q2⟩ =>
    thn (ho pins s2 σ H2 x y v u _ I2 r1 r2 q2) fun c s3 ⟨z, H3, I3, r3, k, e, q3⟩ => ?_) hm
  subst e
  cases r3
  exact wpAny_truthy_bool ⟨H3, I3, q3⟩
/-- a op1 b op2 c -/
def tChain (r r' : R2) (ta tb tc : TE) : TE := fun σ H Q => ta σ H fun x H1 => tb σ H1 fun y H2 => r x y H2 fun z H3 => ∃ k, z = .bl k ∧
  (if k = true then tc σ H3 fun w' H4 => r' y w' H4 Q else Q (.bl false) H3)
theorem pe_chain {op op' : CmpOp} {r r' : R2} (ho : OpR X (compareOp op) r) (ho' : OpR X (compareOp op') r') (ha : PE X a ta) (hb : PE X b tb) (hc : PE X c tc)
    (hm : lastMarks [op, op'] [b, c] = false := by with_unfolding_all rfl) : PE X (.Compare a [op, op'] [b, c] pos) (tChain r r' ta tb tc) := by
  intro pins s σ H Q I h
  refine Compare_chain (thn (ha pins s σ H _ I h) fun v s1 ⟨x, H1, I1, r1, q1⟩ => chain_link (thn (hb pins s1 σ H1 _ I1 q1) fun u s2 ⟨y, H2, I2, r2, q2⟩ =>
    thn (ho pins s2 σ H2 x y v u _ I2 r1 r2 q2) fun d s3 ⟨z, H3, I3, r3, k, e, q3⟩ => ?_)) hm
  subst e
  cases r3
  refine wpAny_truthy_bool ?_
  cases k with
  | false => exact ite_ff ⟨.bl false, H3, I3, rfl, q3⟩
  | true => exact ite_tt (chain_last (thn (hc pins s3 σ H3 _ I3 q3) fun w' s4 ⟨z', H4, I4, r4, q4⟩ => ho' pins s4 σ H4 y z' u w' Q I4 r2 r4 q4))
theorem pt_chain {op op' : CmpOp} {r r' : R2} (ho : OpR X (compareOp op) r) (ho' : OpR X (compareOp op') r') (ha : PE X a ta) (hb : PE X b tb) (hc : PE X c tc)
    (hm : lastMarks [op, op'] [b, c] = false := by with_unfolding_all rfl) : PT X (.Compare a [op, op'] [b, c] pos) (tTest (tChain r r' ta tb tc)) := by
  intro pins s σ H Q I h
  refine isTrue_chain (thn (ha pins s σ H _ I h) fun v s1 ⟨x, H1, I1, r1, q1⟩ => test_link (thn (hb pins s1 σ H1 _ I1 q1) fun u s2 ⟨y, H2, I2, r2, q2⟩ =>
    thn (ho pins s2 σ H2 x y v u _ I2 r1 r2 q2) fun d s3 ⟨z, H3, I3, r3, k, e, q3⟩ => ?_)) hm
  subst e
  cases r3
  refine wpAny_truthy_bool ?_
  cases k with
  | false =>
    obtain ⟨k', e', q'⟩ := q3
    cases e'
    exact ite_ff ⟨H3, I3, q'⟩
  | true =>
    refine ite_tt (test_last (thn (hc pins s3 σ H3 _ I3 q3) fun w' s4 ⟨z', H4, I4, r4, q4⟩ => thn (ho' pins s4 σ H4 y z' u w' _ I4 r2 r4 q4) fun d' s5 ⟨z2, H5, I5, r5, k2, e2, q5⟩ => ?_))
    subst e2
    cases r5
    exact wpAny_truthy_bool ⟨H5, I5, q5⟩

/-! ### truth -/
/-- a value's truth by the abstract heap -/
def TruV (K : PySem.W.Frag) (x : V) (H : Hp) (k : Bool) : Prop :=
  match x with
  | .non => k = false
  | .bl b => k = b
  | .int i => k = (i != 0)
  | .str y => y.length ≤ sizeLine ∧ k = ((y.length : Int) != 0)
  | .byt y => y.size ≤ sizeLine ∧ k = ((y.size : Int) != 0)
  | .ref p => (∃ xs, SqL K H p xs ∧ k = !xs.isEmpty) ∨ (∃ xs, SqT K H p xs ∧ k = !xs.isEmpty) ∨ ∃ kvs, H p = some (.dK kvs) ∧ k = !kvs.isEmpty
  | _ => False
theorem isEmpty_kv {κ : Type} {kvs : List (κ × V)} {vs : List (κ × Value)} (r : KV kvs vs) : (!vs.isEmpty) = !kvs.isEmpty := by
  cases r <;> rfl
theorem isEmpty_of {xs : List V} {its : List Value} (r : Vals xs its) : (!its.toArray.isEmpty) = !xs.isEmpty := by
  cases r <;> simp
theorem line63 : (sizeLine : Nat) < 2 ^ 63 := by rw [sizeLine_eq]; decide
theorem tru_ok : TruR X (fun x H Q => ∃ k, TruV X.K x H k ∧ Q k H) := by
  intro pins s σ H x v Q I rx h
  obtain ⟨k, e, q⟩ := h
  have hl := line63
  have hs : sizeLine = 16777216 := sizeLine_eq
  cases x with
  | non =>
    cases rx
    have e' : k = false := e
    subst e'
    exact truthy_none ⟨H, I, q⟩
  | bl b =>
    cases rx
    have e' : k = b := e
    subst e'
    exact wpAny_truthy_bool ⟨H, I, q⟩
  | int i =>
    obtain ⟨t, rfl⟩ := rx
    have e' : k = (i != 0) := e
    subst e'
    exact PySem.P.truthy_int ⟨H, I, q⟩
  | str y =>
    obtain ⟨t, rfl⟩ := rx
    obtain ⟨hy, e'⟩ : y.length ≤ sizeLine ∧ k = ((y.length : Int) != 0) := e
    subst e'
    exact PySem.P.truthy_str (by omega) ⟨H, I.tok _, q⟩
  | byt y =>
    obtain ⟨t, rfl⟩ := rx
    obtain ⟨hy, e'⟩ : y.size ≤ sizeLine ∧ k = ((y.size : Int) != 0) := e
    subst e'
    exact PySem.W.truthy_bytes (by omega) ⟨H, I.tok _, q⟩
  | ref p =>
    cases rx
    have e' : (∃ xs, SqL X.K H p xs ∧ k = !xs.isEmpty) ∨ (∃ xs, SqT X.K H p xs ∧ k = !xs.isEmpty) ∨ ∃ kvs, H p = some (.dK kvs) ∧ k = !kvs.isEmpty := e
    rcases e' with ⟨xs, hx, e'⟩ | ⟨xs, hx, e'⟩ | ⟨kvs, hx, e'⟩
    · subst e'
      obtain ⟨its, r, pl, hz⟩ := I.list hx
      have hlen := r.length
      exact wpAny_truthy_list pl.isList (by simp only [List.size_toArray]; omega) ⟨H, I.tok _, by rw [isEmpty_of r]; exact q⟩
    · subst e'
      obtain ⟨its, r, pl, hz⟩ := I.tuple hx
      have hlen := r.length
      exact truthy_tuple pl (by simp only [List.size_toArray]; omega) ⟨H, I.tok _, by rw [isEmpty_of r]; exact q⟩
    · subst e'
      obtain ⟨hz, hS, vs, r, m⟩ : kvs.length ≤ sizeLine ∧ (p == sysModules) = false ∧ ∃ vs, KV kvs vs ∧ s.heap.DictOf (mixKind X.prog X.w) p vs := I.hok p _ hx
      have hlen : kvs.length = vs.length := Paired.length r
      exact wpAny_truthy_dict hS m (by omega) ⟨H, I.tok _, by rw [isEmpty_kv r]; exact q⟩
  | _ => exact (show False from e).elim
/-- any expression whose test is its value's truth (a name, a call, a subscript, a field ..: he by fun _ => rfl) -/
theorem pt_truth (ha : PE X a ta) (he : ∀ whole, isTrue a X.env whole = (do let v ← whole; standAt a.pos; holding [v] (truthy v))) :
    PT X a (fun σ H Q => ta σ H fun x H' => ∃ k, TruV X.K x H' k ∧ Q k H') := by
  intro pins s σ H Q I h
  exact isTrue_plain (thn (ha pins s σ H _ I h) fun v s1 ⟨x, H1, I1, r1, q1⟩ => tru_ok pins s1 σ H1 x v Q I1 r1 q1) (he _)

/-! ### strs and bytes -/
theorem pe_byt {x : List UInt8} {k : Nat} : PE X (.Constant (.bytes x) k pos) (fun _ H Q => Q (.byt x.toArray) H) := fun _ _ _ H _ I h => PySem.W.Constant_bytes ⟨.byt x.toArray, H, I.tok _, ⟨_, rfl⟩, h⟩
theorem op_add_str : OpR X (binaryOp .Add) (fun x y H Q => ∃ i j, x = .str i ∧ y = .str j ∧ i.length + j.length ≤ sizeLine ∧ Q (.str (i ++ j)) H) := by
  intro pins s σ H x y v u Q I rx ry h
  obtain ⟨i, j, rfl, rfl, hz, q⟩ := h
  obtain ⟨t, rfl⟩ := rx
  obtain ⟨t', rfl⟩ := ry
  exact add_str (fun t' tk => ⟨.str (i ++ j), H, I.tok _, ⟨_, rfl⟩, q⟩) hz
theorem iop_add_str : OpR X (inplaceOp .Add) (fun x y H Q => ∃ i j, x = .str i ∧ y = .str j ∧ i.length + j.length ≤ sizeLine ∧ Q (.str (i ++ j)) H) := by
  intro pins s σ H x y v u Q I rx ry h
  obtain ⟨i, j, rfl, rfl, hz, q⟩ := h
  obtain ⟨t, rfl⟩ := rx
  obtain ⟨t', rfl⟩ := ry
  exact iadd_str (fun t' tk => ⟨.str (i ++ j), H, I.tok _, ⟨_, rfl⟩, q⟩) hz
theorem op_add_byt : OpR X (binaryOp .Add) (fun x y H Q => ∃ i j, x = .byt i ∧ y = .byt j ∧ i.size + j.size ≤ 16777216 ∧ Q (.byt (i ++ j)) H) := by
  intro pins s σ H x y v u Q I rx ry h
  obtain ⟨i, j, rfl, rfl, hz, q⟩ := h
  obtain ⟨t, rfl⟩ := rx
  obtain ⟨t', rfl⟩ := ry
  exact PySem.W.KBy.add_bytes hz (fun t' tk => ⟨.byt (i ++ j), H, I.tok _, ⟨_, rfl⟩, q⟩)

def PlainIxT (b : Expr) : Prop := ∀ o i, subscripted b false o i = operate [o, i] (getItem o i)
/-- s[i], 0 ≤ i < len -/
theorem pe_item_str (ha : PE X a ta) (hb : PE X b tb) (hs : PlainIxT b) :
    PE X (.Subscript a b pos) (tOp (fun x y H Q => ∃ z i c, x = .str z ∧ y = .int i ∧ 0 ≤ i ∧ i < 2 ^ 63 ∧ i < z.length ∧ z.cps[i.toNat]? = some c ∧ Q (.str ⟨#[c]⟩) H) ta tb) := by
  intro pins s σ H Q I h
  refine Subscript_ (binT ha hb I h fun v u s2 x y H2 I2 rx ry q => ?_)
  obtain ⟨z, i, c, rfl, rfl, h0, h63, h1, hc, q⟩ := q
  obtain ⟨t, rfl⟩ := rx
  obtain ⟨t', rfl⟩ := ry
  have e : seqIndex? i z.length = some i.toNat := PySem.StrLaws.seqIndex_nonneg h0 h1
  exact tail_any (typeIs_str s2 z t) slot_str_getitem.lookup (getItem_str (c := c) (by
    have e1 : decide (i < -(2 ^ 63 : Int)) = false := decide_eq_false (by omega)
    have e2 : decide (i ≥ 2 ^ 63) = false := decide_eq_false (by omega)
    rw [e1, e2] <;> rfl) (by rw [e]; exact hc) ⟨.str ⟨#[c]⟩, H2, I2.tok _, ⟨_, rfl⟩, q⟩) (hs _ _)
/-- b[i], 0 ≤ i < len -/
theorem pe_item_byt (ha : PE X a ta) (hb : PE X b tb) (hs : PlainIxT b) :
    PE X (.Subscript a b pos) (tOp (fun x y H Q => ∃ (z : List UInt8) (i : Int), x = .byt z.toArray ∧ y = .int i ∧ z.length ≤ sizeLine ∧ 0 ≤ i ∧ i < z.length ∧ Q (.int ((z.getD i.toNat 0).toNat : Nat)) H) ta tb) := by
  intro pins s σ H Q I h
  refine Subscript_ (binT ha hb I h fun v u s2 x y H2 I2 rx ry q => ?_)
  obtain ⟨z, i, rfl, rfl, hz, h0, h1, q⟩ := q
  obtain ⟨t, rfl⟩ := rx
  obtain ⟨t', rfl⟩ := ry
  have hl : sizeLine = 16777216 := sizeLine_eq
  exact tail_any (PySem.W.typeIs_bytes s2 z.toArray t) PySem.W.FB.slot_bytes_getitem.lookup (PySem.W.getItem_bytes (by omega) h0 h1 ⟨.int ((z.getD i.toNat 0).toNat : Nat), H2, I2.tok _, ⟨_, rfl⟩, q⟩) (hs _ _)

/-! ### scalar builtins, by CallR -/
theorem vals1 {x : V} {us : List Value} (r : Vals [x] us) : ∃ u, us = [u] ∧ RelV x u := by
  cases r with
  | cons r1 r2 => cases r2; exact ⟨_, rfl, r1⟩
theorem vals2 {x y : V} {us : List Value} (r : Vals [x, y] us) : ∃ u w', us = [u, w'] ∧ RelV x u ∧ RelV y w' := by
  cases r with
  | cons r1 r2 =>
    cases r2 with
    | cons r3 r4 => cases r4; exact ⟨_, _, rfl, r1, r3⟩
theorem call_abs : CallR X (.builtin "abs") (fun xs H Q => ∃ i, xs = [.int i] ∧ Q (.int (if i < 0 then -i else i)) H) := by
  intro pins s σ H xs us Q I r h
  obtain ⟨i, rfl, q⟩ := h
  obtain ⟨u, rfl, t, rfl⟩ := vals1 r
  exact call_abs_int fun u tk => ⟨.int (if i < 0 then -i else i), H, I.tok _, ⟨_, rfl⟩, q⟩
theorem call_max2 (hc : X.calm = true) : CallR X (.builtin "max") (fun xs H Q => ∃ i j, xs = [.int i, .int j] ∧ Q (.int (if j > i then j else i)) H) := by
  intro pins s σ H xs us Q I r h
  obtain ⟨i, j, rfl, q⟩ := h
  obtain ⟨u, w', rfl, ⟨t, rfl⟩, ⟨t', rfl⟩⟩ := vals2 r
  refine max_two_ints (I.ok.hd hc) fun h' tk k => ⟨_, H, I.kept k, ?_, q⟩
  by_cases hj : j > i
  · rw [if_pos hj, if_pos hj]; exact ⟨_, rfl⟩
  · rw [if_neg hj, if_neg hj]; exact ⟨_, rfl⟩
theorem call_min2 (hc : X.calm = true) : CallR X (.builtin "min") (fun xs H Q => ∃ i j, xs = [.int i, .int j] ∧ Q (.int (if j < i then j else i)) H) := by
  intro pins s σ H xs us Q I r h
  obtain ⟨i, j, rfl, q⟩ := h
  obtain ⟨u, w', rfl, ⟨t, rfl⟩, ⟨t', rfl⟩⟩ := vals2 r
  refine min_two_ints (I.ok.hd hc) fun h' tk k => ⟨_, H, I.kept k, ?_, q⟩
  by_cases hj : j < i
  · rw [if_pos hj, if_pos hj]; exact ⟨_, rfl⟩
  · rw [if_neg hj, if_neg hj]; exact ⟨_, rfl⟩
theorem call_int1 : CallR X (.type "int") (fun xs H Q => (∃ i, xs = [.int i] ∧ Q (.int i) H) ∨ ∃ k, xs = [.bl k] ∧ Q (.int (if k then 1 else 0)) H) := by
  intro pins s σ H xs us Q I r h
  rcases h with ⟨i, rfl, q⟩ | ⟨k, rfl, q⟩
  · obtain ⟨u, rfl, t, rfl⟩ := vals1 r
    exact call_int_int ⟨.int i, H, I, ⟨_, rfl⟩, q⟩
  · obtain ⟨u, rfl, r1⟩ := vals1 r
    cases r1
    exact call_int_bool ⟨.int (if k then 1 else 0), H, I.tok _, ⟨_, rfl⟩, q⟩
theorem call_bool1 : CallR X (.type "bool") (fun xs H Q => (∃ i, xs = [.int i] ∧ Q (.bl (i != 0)) H) ∨ ∃ k, xs = [.bl k] ∧ Q (.bl k) H) := by
  intro pins s σ H xs us Q I r h
  rcases h with ⟨i, rfl, q⟩ | ⟨k, rfl, q⟩
  · obtain ⟨u, rfl, t, rfl⟩ := vals1 r
    exact call_bool_int ⟨.bl (i != 0), H, I, rfl, q⟩
  · obtain ⟨u, rfl, r1⟩ := vals1 r
    cases r1
    exact call_bool_bool ⟨.bl k, H, I, rfl, q⟩
theorem call_str_int : CallR X (.type "str") (fun xs H Q => ∃ i, xs = [.int i] ∧ i.natAbs.log2 < 1920 ∧ Q (.str (toString i)) H) := by
  intro pins s σ H xs us Q I r h
  obtain ⟨i, rfl, hz, q⟩ := h
  obtain ⟨u, rfl, t, rfl⟩ := vals1 r
  exact PySem.P.str_of_int hz ⟨.str _, H, I.tok _, ⟨_, rfl⟩, q⟩
theorem call_ord : CallR X (.builtin "ord") (fun xs H Q => ∃ x, xs = [.str x] ∧ x.length = 1 ∧ Q (.int (x.cps.getD 0 0 : Nat)) H) := by
  intro pins s σ H xs us Q I r h
  obtain ⟨x, rfl, hz, q⟩ := h
  obtain ⟨u, rfl, t, rfl⟩ := vals1 r
  exact ord_of_one hz ⟨.int _, H, I.tok _, ⟨_, rfl⟩, q⟩
theorem call_chr : CallR X (.builtin "chr") (fun xs H Q => ∃ i, xs = [.int i] ∧ 0 ≤ i ∧ i ≤ 1114111 ∧ Q (.str ⟨#[i.toNat]⟩) H) := by
  intro pins s σ H xs us Q I r h
  obtain ⟨i, rfl, h0, h1, q⟩ := h
  obtain ⟨u, rfl, t, rfl⟩ := vals1 r
  exact chr_of_range h0 h1 ⟨.str _, H, I.tok _, ⟨_, rfl⟩, q⟩
/-- len of a str, a bytes, a list, a tuple -/
def LenV (K : PySem.W.Frag) (x : V) (H : Hp) (n : Nat) : Prop :=
  match x with
  | .str y => y.length ≤ sizeLine ∧ n = y.length
  | .byt y => y.size ≤ sizeLine ∧ n = y.size
  | .ref p => (∃ xs, SqL K H p xs ∧ n = xs.length) ∨ ∃ xs, SqT K H p xs ∧ n = xs.length
  | _ => False
theorem call_len : CallR X (.builtin "len") (fun xs H Q => ∃ x n, xs = [x] ∧ LenV X.K x H n ∧ Q (.int n) H) := by
  intro pins s σ H xs us Q I r h
  obtain ⟨x, n, rfl, e, q⟩ := h
  obtain ⟨u, rfl, rx⟩ := vals1 r
  have hl := line63
  have hs : sizeLine = 16777216 := sizeLine_eq
  cases x with
  | str y =>
    obtain ⟨t, rfl⟩ := rx
    obtain ⟨hy, e'⟩ : y.length ≤ sizeLine ∧ n = y.length := e
    subst e'
    exact len_str (by omega) ⟨.int _, H, I.tok _, ⟨_, rfl⟩, q⟩
  | byt y =>
    obtain ⟨t, rfl⟩ := rx
    obtain ⟨hy, e'⟩ : y.size ≤ sizeLine ∧ n = y.size := e
    subst e'
    exact PySem.W.len_bytes (by omega) ⟨.int _, H, I.tok _, ⟨_, rfl⟩, q⟩
  | ref p =>
    cases rx
    have e' : (∃ xs, SqL X.K H p xs ∧ n = xs.length) ∨ ∃ xs, SqT X.K H p xs ∧ n = xs.length := e
    rcases e' with ⟨xs, hx, e'⟩ | ⟨xs, hx, e'⟩
    · subst e'
      obtain ⟨its, r', pl, hz⟩ := I.list hx
      have hlen := r'.length
      exact Calls.call_len_list pl.isList (by simp only [List.size_toArray]; omega) ⟨.int xs.length, H, I.tok _, ⟨_, by simp only [List.size_toArray]; rw [hlen]⟩, q⟩
    · subst e'
      obtain ⟨its, r', pl, hz⟩ := I.tuple hx
      have hlen := r'.length
      exact len_tuple pl (by simp only [List.size_toArray]; omega) ⟨.int xs.length, H, I.tok _, ⟨_, by simp only [List.size_toArray]; rw [hlen]⟩, q⟩
  | _ => exact (show False from e).elim
/-- divmod: a new tuple -/
theorem call_divmod : CallR X (.builtin "divmod") (fun xs H Q => ∃ i j, xs = [.int i, .int j] ∧ CDiv i j ∧ ∀ p, H p = none → Q (.ref p) (upd H p (.tup [.int (i / j), .int (i % j)]))) := by
  intro pins s σ H xs us Q I r h
  obtain ⟨i, j, rfl, ⟨h1, h2⟩, q⟩ := h
  obtain ⟨u, w', rfl, ⟨t, rfl⟩, ⟨t', rfl⟩⟩ := vals2 r
  refine divmod_int (by omega) ?_ (.inl (PyProof.noPylong_small (by omega)))
  rw [Int.fdiv_eq_ediv_of_nonneg i (by omega), Int.fmod_eq_emod_of_nonneg i (by omega)]
  have hn : H s.heap.objs.size = none := I.hok.fresh (Nat.le_refl _)
  refine ⟨.ref s.heap.objs.size, _, ?_, rfl, q _ hn⟩
  refine I.laid (fun b o e => Heap.get?_push_of_some _ e) (Nat.le_refl _) ⟨by simp only [List.length_cons, List.length_nil]; rw [sizeLine_eq]; decide, [.int (i / j) s.toks, .int (i % j) (s.toks + 1)], .cons ⟨_, rfl⟩ (.cons ⟨_, rfl⟩ .nil), ?_⟩
  exact ⟨_, Heap.get?_push_size s.heap rfl, rfl, 0, rfl⟩
end
end L2

namespace L2
open PySem PySem.Spec PyProof.Rows

/-! ### an instance, its attributes a map -/
structure ObjM (h : Heap) (x dx C : Addr) (mA : Str → Option Value) : Prop where
  obj : h.get? x = some (PySem.W.instObj C dx)
  ns : h.Ns1 dx mA
  ne : dx ≠ x

theorem lookIn_ns {h : Heap} {dx : Addr} {mA : Str → Option Value} (n : h.Ns1 dx mA) : ∃ od, h.get? dx = some od ∧ ∀ name, PySem.W.lookIn name od = some (mA name) := by
  obtain ⟨o, es, ep, ho, hd, hk, _, hm⟩ := n
  refine ⟨o, ho, fun name => ?_⟩
  have e := hm name
  unfold nsFind findBy at e
  rw [← Array.find?_toList] at e
  unfold PySem.W.lookIn
  rw [hd]
  dsimp only
  split
  · rename_i y q
    rw [q] at e
    exact congrArg some e
  · rename_i q
    rw [q] at e
    have a : es.toList.any (·.refKey) = false := by
      rw [List.any_eq_false]
      intro y hy
      obtain ⟨z, t, hkey⟩ := hk y (Array.mem_toList_iff.mp hy)
      simp [DictEntry.refKey, hkey]
    have a' : ¬ es.toList.any (·.refKey) = true := by rw [a]; exact Bool.false_ne_true
    rw [if_neg a']
    exact congrArg some e

theorem ObjM.look {h : Heap} {x dx C : Addr} {mA : Str → Option Value} (I : ObjM h x dx C mA) : ∃ od, PySem.W.InstAt h x (PySem.W.instObj C dx) C (some od) ∧ ∀ name, PySem.W.lookIn name od = some (mA name) :=
  let ⟨od, ho, hl⟩ := lookIn_ns I.ns
  ⟨od, ⟨I.obj, rfl, rfl, ho⟩, hl⟩

section
variable {prog : Program} {w : World} {A : Around} {E : Value → Shared → Prop} {s : Shared} {K : PySem.W.Frag} {x dx C f : Addr} {mA : Str → Option Value} {name : Str} {v : Value}

theorem get_map {expr : Bool} {Q : Value → Shared → Prop} (X : K.In s.heap) (I : ObjM s.heap x dx C mA) (hg : PySem.W.plainGet K C name = true) (hh : PySem.W.hasDictIn K C = true)
    (ha : PySem.W.findIn K (.ref C) name = some none) (hv : mA name = some v) (hv' : PySem.W.handedIn v = true) (h : Q v { s with toks := s.toks + 1 }) :
    wpAny (model prog w) A (getAttr (.ref x) name expr) Q E s := by
  obtain ⟨od, J, hl⟩ := I.look
  exact PySem.W.get_value X J (PySem.W.plainGet_of hg).1 (PySem.W.findObj_own hh ha rfl (by rw [hl, hv])) hv' h

theorem get_const {expr : Bool} {a : Value} {Q : Value → Shared → Prop} (X : K.In s.heap) (I : ObjM s.heap x dx C mA) (hg : PySem.W.plainGet K C name = true) (hh : PySem.W.hasDictIn K C = true)
    (ha : PySem.W.findIn K (.ref C) name = some (some a)) (hn : PySem.W.specialIn K a "__get__" = some none) (hc : PySem.W.copiedNames.contains name = false) (hv : mA name = none) (hv' : PySem.W.handedIn a = true)
    (h : Q a { s with toks := s.toks + 1 }) : wpAny (model prog w) A (getAttr (.ref x) name expr) Q E s := by
  obtain ⟨od, J, hl⟩ := I.look
  exact PySem.W.get_value X J (PySem.W.plainGet_of hg).1 (PySem.W.findObj_cls hh ha hn hv' hc (by rw [hl, hv])) hv' h

theorem get_meth {pl : Sem Bool} {Q : Value × List Value → Shared → Prop} (X : K.In s.heap) (I : ObjM s.heap x dx C mA) (hg : PySem.W.plainGet K C name = true)
    (hf : PySem.W.findIn K (.ref C) name = some (some (.ref f))) (ht : PySem.W.isFn K (.ref f) = true) (hv : mA name = none) (h : Q (.ref f, [.ref x]) s) :
    wpAny (model prog w) A (getMethod (.ref x) name pl) Q E s := by
  obtain ⟨od, J, hl⟩ := I.look
  exact PySem.W.method_fn X J (PySem.W.plainGet_of hg).1 (PySem.W.plainGet_of hg).2 hf (beq_iff_eq.mp ht) (by show (PySem.W.lookIn name od).map (·.isSome) = some false; rw [hl, hv]; rfl) h

theorem set_map {ns : List Str} {Q : Unit → Shared → Prop} (X : K.In s.heap) (I : ObjM s.heap x dx C mA)
    (hs : PySem.W.findIn K (.ref C) "__setattr__" = some (some (.builtin "object.__setattr__"))) (hp : PySem.W.plainOver K C = true) (ht : PySem.W.takerIn K C name = some none) (hh : PySem.W.hasDictIn K C = true)
    (hw : PySem.Within mA ns) (hsz : ns.length ≤ sizeLine)
    (h : ∀ h', ObjM h' x dx C (fun y => if y = name then some v else mA y) → Heap.SameBut dx s.heap h' → Q () { s with heap := h', toks := s.toks + 2 }) :
    wpAny (model prog w) A (setAttr (.ref x) name v) Q E s := by
  obtain ⟨od, J, hl⟩ := I.look
  refine PySem.W.set_plain X J hs (PySem.W.osa_open (s := { s with toks := s.toks + 1 }) (r := none) X J hp ht fun b => ?_)
  obtain ⟨cd, hc, hd'⟩ := PySem.W.any_some hh
  have hx : s.heap.get? x = some ⟨.ref C, some dx, .plain, #[]⟩ := I.obj
  refine wpAny_bind (wpAny_pure (wpAny_bind (wpAny_bind (wpAny_loadPart hx (wpAny_bind (PySem.W.Looks.here (s := { s with toks := s.toks + 1 }) (PySem.W.looks_clsIn X hc) ?_))))))
  rw [hd']
  refine wpAny_pure (a := some dx) (wpAny_bind (wpAny_pure (wpAny_bind ?_)))
  refine wpAny_nsSet1 (s := { s with toks := s.toks + 1 }) I.ns fun h' hn2 hs2 => ?_
  obtain ⟨oD, esD, epD, hoD, hdD, hcD⟩ := hn2.count (PySem.Within.cons name v hw)
  refine wpAny_bind (wpAny_lookBehind hoD (by rw [hdD]; exact pastItsLine_dict (Nat.le_trans hcD (by rw [List.length_cons]; omega))) ?_)
  exact wpAny_pure (h _ ⟨(hs2.2 _ (Ne.symm I.ne)).trans I.obj, hn2, I.ne⟩ hs2)

/-- C(..): the dict at the heap's end, the instance behind it; then its __init__ -/
theorem make_map {R : Result → Shared → Prop} {vs : List Value} {kw : List (Str × Value)} (X : K.In s.heap) (hm : PySem.W.makesIn K C = true)
    (hi : PySem.W.findIn K (.ref C) "__init__" = some (some (.ref f))) (hf : PySem.W.typeIn K (.ref f) = some (.type "function"))
    (h : codeAny (model prog w) (A.under (.builtin "type.__call__" ⟨.ref C :: vs, kw⟩)) (.call (.ref f) ⟨.ref (s.heap.objs.size + 1) :: vs, kw⟩) (PySem.W.InitBack (s.heap.objs.size + 1) R)
      { s with heap := (s.heap.push PySem.W.emptyDict).push (PySem.W.instObj C s.heap.objs.size) }) :
    codeAny (model prog w) A (.call (.ref C) ⟨vs, kw⟩) R s := by
  obtain ⟨hh, g, d, t, os⟩ := s
  exact PySem.W.make_core (PySem.W.makes_of X hm) (PySem.W.looks_findIn X hi) (fun self => PySem.W.bind_fn X self hf) (.inl rfl) h
/-- C() where there is no __init__ but object's -/
theorem make_map0 {R : Result → Shared → Prop} (X : K.In s.heap) (hm : PySem.W.makesIn K C = true)
    (hi : PySem.W.findIn K (.ref C) "__init__" = some (some (.builtin "object.__init__")))
    (hb : ∀ self, PySem.W.Looks (model prog w) s.heap (bindSpecial (.builtin "object.__init__") self) (.builtin "object.__init__", [self]))
    (h : codeAny (model prog w) (A.under (.builtin "type.__call__" ⟨[.ref C], []⟩)) (.call (.builtin "object.__init__") ⟨[.ref (s.heap.objs.size + 1)], []⟩) (PySem.W.InitBack (s.heap.objs.size + 1) R)
      { s with heap := (s.heap.push PySem.W.emptyDict).push (PySem.W.instObj C s.heap.objs.size) }) :
    codeAny (model prog w) A (.call (.ref C) ⟨[], []⟩) R s := by
  obtain ⟨hh, g, d, t, os⟩ := s
  exact PySem.W.make_core (PySem.W.makes_of X hm) (PySem.W.looks_findIn X hi) hb (.inr ⟨rfl, rfl⟩) h
end

/-! ### the attributes as a list of pairs -/
def putF (f : Str) (v : V) : List (Str × V) → List (Str × V)
  | [] => [(f, v)]
  | (g, x) :: r => if g = f then (g, v) :: r else (g, x) :: putF f v r
theorem lookup_putF (f g : Str) (v : V) : ∀ fs : List (Str × V), (putF f v fs).lookup g = if g = f then some v else fs.lookup g
  | [] => by
    show List.lookup g [(f, v)] = _
    by_cases h : g = f
    · have hb : (g == f) = true := beq_iff_eq.mpr h
      simp only [List.lookup, hb, if_pos h]
    · have hb : (g == f) = false := beq_eq_false_iff_ne.mpr h
      simp only [List.lookup, hb, if_neg h]
  | (k, x) :: r => by
    have ih := lookup_putF f g v r
    rw [show putF f v ((k, x) :: r) = (if k = f then (k, v) :: r else (k, x) :: putF f v r) from rfl]
    by_cases hk : k = f
    · rw [if_pos hk]
      by_cases h : g = k
      · have hb : (g == k) = true := beq_iff_eq.mpr h
        simp only [List.lookup, hb, if_pos (h.trans hk)]
      · have hb : (g == k) = false := beq_eq_false_iff_ne.mpr h
        simp only [List.lookup, hb, if_neg (fun e : g = f => h (e.trans hk.symm))]
    · rw [if_neg hk]
      by_cases h : g = k
      · have hb : (g == k) = true := beq_iff_eq.mpr h
        simp only [List.lookup, hb, if_neg (fun e : g = f => hk (h.symm.trans e))]
      · have hb : (g == k) = false := beq_eq_false_iff_ne.mpr h
        simp only [List.lookup, hb]
        exact ih
theorem keys_putF (f : Str) (v : V) : ∀ fs : List (Str × V), f ∈ (putF f v fs).map (·.1) ∧ ∀ g, g ∈ fs.map (·.1) → g ∈ (putF f v fs).map (·.1)
  | [] => ⟨by simp [putF], fun g h => by simp at h⟩
  | (k, x) :: r => by
    obtain ⟨i1, i2⟩ := keys_putF f v r
    rw [show putF f v ((k, x) :: r) = (if k = f then (k, v) :: r else (k, x) :: putF f v r) from rfl]
    by_cases hk : k = f
    · rw [if_pos hk]
      subst hk
      exact ⟨by simp, fun g h => by simpa using h⟩
    · rw [if_neg hk]
      refine ⟨?_, fun g h => ?_⟩
      · rw [List.map_cons]
        exact List.mem_cons_of_mem _ i1
      · rw [List.map_cons] at h ⊢
        rcases List.mem_cons.mp h with e | e
        · exact List.mem_cons.mpr (.inl e)
        · exact List.mem_cons_of_mem _ (i2 g e)
theorem length_putF (f : Str) (v : V) : ∀ fs : List (Str × V), (putF f v fs).length ≤ fs.length + 1
  | [] => by simp [putF]
  | (k, x) :: r => by
    have ih := length_putF f v r
    rw [show putF f v ((k, x) :: r) = (if k = f then (k, v) :: r else (k, x) :: putF f v r) from rfl]
    by_cases hk : k = f
    · rw [if_pos hk, List.length_cons, List.length_cons]; omega
    · rw [if_neg hk, List.length_cons, List.length_cons]; omega

theorem RelO.some_of {v : V} {o : Option Value} (r : RelO (some v) o) : ∃ u, o = some u ∧ RelV v u := by
  cases o with
  | none => exact (show False from r).elim
  | some u => exact ⟨u, rfl, r⟩
theorem RelO.none_of {o : Option Value} (r : RelO none o) : o = none := by
  cases o with
  | none => rfl
  | some u => exact (show False from r).elim
theorem handed_of {v : V} {u : Value} (r : RelV v u) : PySem.W.handedIn u = true := by
  cases v with
  | non => cases (show u = Value.none from r); rfl
  | bl b => cases (show u = Value.bool b from r); rfl
  | int i => obtain ⟨t, e⟩ := (show ∃ t, u = Value.int i t from r); cases e; rfl
  | str x => obtain ⟨t, e⟩ := (show ∃ t, u = Value.str x t from r); cases e; rfl
  | byt b => obtain ⟨t, e⟩ := (show ∃ t, u = Value.bytes b t from r); cases e; rfl
  | flt b => obtain ⟨t, e⟩ := (show ∃ t, u = Value.float b t from r); cases e; rfl
  | ref a => cases (show u = Value.ref a from r); rfl
  | ty n => cases (show u = Value.type n from r); rfl

section
variable {P : Program} {w : World} {H H' : Hp} {h h' : Heap} {a C dx : Addr} {fs fs' : List (Str × V)}
theorem ins_get (hok : HOk P w H h) (e : H a = some (.ins C dx fs)) : ∃ mA, ObjM h a dx C mA ∧ (∀ f, RelO (fs.lookup f) (mA f)) ∧ PySem.Within mA (fs.map (·.1)) ∧ fs.length ≤ 1000 ∧ H dx = some (.own a) := by
  obtain ⟨d, z, ne, ob, mA, n, r, q⟩ := (show ObjOk P w H h a (.ins C dx fs) from hok a _ e)
  exact ⟨mA, ⟨ob, n, ne⟩, r, q, z, d⟩
end

/-! ### what of the text a class must have -/
structure Cls (K : PySem.W.Frag) (C : Addr) : Prop where
  pg : PySem.W.plainGet K C Str.empty = true
  hd : PySem.W.hasDictIn K C = true
  po : PySem.W.plainOver K C = true
  sa : PySem.W.findIn K (.ref C) "__setattr__" = some (some (.builtin "object.__setattr__"))
theorem Cls.get {K : PySem.W.Frag} {C : Addr} (c : Cls K C) (f : Str) : PySem.W.plainGet K C f = true := c.pg
/-- no class of it has the name -/
def NoAttr (K : PySem.W.Frag) (C : Addr) (f : Str) : Prop := PySem.W.findIn K (.ref C) f = some none
theorem NoAttr.taker {K : PySem.W.Frag} {C : Addr} {f : Str} (n : NoAttr K C f) : PySem.W.takerIn K C f = some none := by
  unfold PySem.W.takerIn
  rw [show PySem.W.findIn K (.ref C) f = some none from n]
  rfl
/-- a constant of the class -/
structure Con (K : PySem.W.Frag) (C : Addr) (f : Str) (v : V) (u : Value) : Prop where
  at_ : PySem.W.findIn K (.ref C) f = some (some u)
  rel : RelV v u
  get : PySem.W.specialIn K u "__get__" = some none
  cp : PySem.W.copiedNames.contains f = false
/-- a method: a plain def of the class or of one above it -/
structure Meth (K : PySem.W.Frag) (C : Addr) (m : Str) (f : Addr) : Prop where
  at_ : PySem.W.findIn K (.ref C) m = some (some (.ref f))
  fn : PySem.W.isFn K (.ref f) = true
  kp : PySem.W.keepIn K (.ref f) = true

section
variable {X : Cx} {pins : List (Addr × Obj)} {σ : St} {H : Hp} {s : Shared} {a C dx : Addr} {fs : List (Str × V)} {f : Str} {v : V} {A : Around} {E : Value → Shared → Prop}

theorem getattr_ok {b : Bool} {Q : Value → Shared → Prop} (I : Inv X pins σ H s) (e : H a = some (.ins C dx fs)) (c : Cls X.K C) (n : NoAttr X.K C f) (l : fs.lookup f = some v)
    (h : ∀ u s', Inv X pins σ H s' → RelV v u → Q u s') : wpAny (model X.prog X.w) A (getAttr (.ref a) f b) Q E s := by
  obtain ⟨mA, O, r, _, _, _⟩ := ins_get I.hok e
  obtain ⟨u, hu, ru⟩ := RelO.some_of (v := v) (o := mA f) (by rw [← l]; exact r f)
  exact get_map I.kIn O (c.get f) c.hd n hu (handed_of ru) (h u _ (I.tok _) ru)

theorem getcon_ok {b : Bool} {u : Value} {Q : Value → Shared → Prop} (I : Inv X pins σ H s) (e : H a = some (.ins C dx fs)) (c : Cls X.K C) (k : Con X.K C f v u) (l : fs.lookup f = none)
    (h : ∀ s', Inv X pins σ H s' → Q u s') : wpAny (model X.prog X.w) A (getAttr (.ref a) f b) Q E s := by
  obtain ⟨mA, O, r, _, _, _⟩ := ins_get I.hok e
  have hn : mA f = none := RelO.none_of (by rw [← l]; exact r f)
  exact get_const I.kIn O (c.get f) c.hd k.at_ k.get k.cp hn (handed_of k.rel) (h _ (I.tok _))

theorem getmeth_ok {m : Str} {g : Addr} {pl : Sem Bool} {Q : Value × List Value → Shared → Prop} (I : Inv X pins σ H s) (e : H a = some (.ins C dx fs)) (c : Cls X.K C) (k : Meth X.K C m g) (l : fs.lookup m = none)
    (h : Q (.ref g, [.ref a]) s) : wpAny (model X.prog X.w) A (getMethod (.ref a) m pl) Q E s := by
  obtain ⟨mA, O, r, _, _, _⟩ := ins_get I.hok e
  have hn : mA m = none := RelO.none_of (by rw [← l]; exact r m)
  exact get_meth I.kIn O (c.get m) k.at_ k.fn hn h

theorem setattr_ok {y : V} {u : Value} {Q : Unit → Shared → Prop} (I : Inv X pins σ H s) (e : H a = some (.ins C dx fs)) (c : Cls X.K C) (n : NoAttr X.K C f) (hl : fs.length < 1000) (ry : RelV y u)
    (h : ∀ s', Inv X pins σ (upd H a (.ins C dx (putF f y fs))) s' → Q () s') : wpAny (model X.prog X.w) A (setAttr (.ref a) f u) Q E s := by
  obtain ⟨mA, O, r, wi, _, ho⟩ := ins_get I.hok e
  have hz : (fs.map (·.1)).length ≤ sizeLine := by rw [List.length_map, sizeLine_eq]; omega
  refine set_map I.kIn O c.sa c.po n.taker c.hd wi hz fun h' O' sb => h _ ?_
  have hd : ∃ o, h'.get? dx = some o := let ⟨o, _, _, e', _⟩ := O'.ns; ⟨o, e'⟩
  refine I.write (x := a) (e := dx) (by rw [e]; exact True.intro) (.inr ho) (fun b q hb z => (sb.2 b hb).trans z) hd ?_
  refine ⟨by rw [upd_ne O.ne]; exact ho, ?_, O.ne, O'.obj, _, O'.ns, fun g => ?_, fun g hg => ?_⟩
  · have := length_putF f y fs; omega
  · show RelO ((putF f y fs).lookup g) (if g = f then some u else mA g)
    rw [lookup_putF]
    by_cases q : g = f
    · rw [if_pos q, if_pos q]; exact ry
    · rw [if_neg q, if_neg q]; exact r g
  · by_cases q : g = f
    · rw [q]; exact (keys_putF f y fs).1
    · refine (keys_putF f y fs).2 g (wi g fun z => hg ?_)
      show (if g = f then some u else mA g) = none
      rw [if_neg q]; exact z

/-- a new instance, tracked, without attributes -/
theorem Inv.made (I : Inv X pins σ H s) : Inv X pins σ (upd (upd H s.heap.objs.size (.own (s.heap.objs.size + 1))) (s.heap.objs.size + 1) (.ins C s.heap.objs.size []))
    { s with heap := (s.heap.push PySem.W.emptyDict).push (PySem.W.instObj C s.heap.objs.size) } := by
  have e1 : (s.heap.push PySem.W.emptyDict).get? s.heap.objs.size = some PySem.W.emptyDict := Heap.get?_push_size s.heap rfl
  have e2 : ((s.heap.push PySem.W.emptyDict).push (PySem.W.instObj C s.heap.objs.size)).get? (s.heap.objs.size + 1) = some (PySem.W.instObj C s.heap.objs.size) := by
    have := Heap.get?_push_size (s.heap.push PySem.W.emptyDict) (o := PySem.W.instObj C s.heap.objs.size) rfl
    rwa [Heap.size_push] at this
  have e3 : (s.heap.push PySem.W.emptyDict).Ns s.heap.objs.size (fun _ => none) := ⟨PySem.W.emptyDict, #[], _, e1, rfl, (fun e he => absurd he (by simp)), fun _ => rfl⟩
  have I1 := I.laid (a := s.heap.objs.size) (o := .own (s.heap.objs.size + 1)) (h' := s.heap.push PySem.W.emptyDict) (t' := s.toks) (fun b u q => Heap.get?_push_of_some _ q) (Nat.le_refl _) ⟨_, e1⟩
  refine I1.laid (a := s.heap.objs.size + 1) (o := .ins C s.heap.objs.size []) (t' := s.toks) (fun b u q => Heap.get?_push_of_some _ q) (Nat.le_of_eq (Heap.size_push _ _)) ?_
  have ne : s.heap.objs.size ≠ s.heap.objs.size + 1 := Nat.ne_of_lt (Nat.lt_succ_self _)
  refine ⟨by rw [upd_ne ne, upd_same], Nat.zero_le _, ne, e2, fun _ => none, (Heap.Ns1.of_empty e3).at fun o q => Heap.get?_push_of_some _ q, fun _ => True.intro, fun y hy => absurd rfl hy⟩

/-- e.f where nothing but the object is asked: through attributeBase (super) and the last hold -/
theorem attr_of {prog : Program} {w : World} {env : Env} {e : Expr} {f : Str} {pos : Pos} {s : Shared} {Q : Value → Shared → Prop} (hb : attributeBase e f env (eval e env) = eval e env)
    (h : wpAny (model prog w) A (eval e env) (fun o s₁ => wpAny (model prog w) A (getAttr o f true) Q E s₁) E s) : wpAny (model prog w) A (eval (.Attribute e f pos) env) Q E s :=
  Attribute_any_ h (by rw [arm_eval_Attribute, hb])
end

/-! ### readings and rules -/
/-- e.f, an attribute of the instance -/
def tFld (K : PySem.W.Frag) (ta : TE) (f : Str) : TE := fun σ H Q => ta σ H fun x H1 => ∃ a C dx fs v, x = .ref a ∧ H1 a = some (.ins C dx fs) ∧ Cls K C ∧ NoAttr K C f ∧ fs.lookup f = some v ∧ Q v H1
/-- e.f, a constant of the class -/
def tCon (K : PySem.W.Frag) (ta : TE) (f : Str) : TE := fun σ H Q => ta σ H fun x H1 => ∃ a C dx fs v u, x = .ref a ∧ H1 a = some (.ins C dx fs) ∧ Cls K C ∧ Con K C f v u ∧ fs.lookup f = none ∧ Q v H1
/-- e.f = value -/
def sFld (K : PySem.W.Frag) (ta tv : TE) (f : Str) : TS := fun D σ H => tv σ H fun y H1 => ta σ H1 fun x H2 => ∃ a C dx fs, x = .ref a ∧ H2 a = some (.ins C dx fs) ∧ Cls K C ∧ NoAttr K C f ∧ fs.length < 1000 ∧
  D.nx σ (upd H2 a (.ins C dx (putF f y fs)))
/-- an augmented operator on two values -/
def InOp (X : Cx) (op : Operator) (rd : V → V → Hp → VK → Prop) : Prop :=
  ∀ (pins : List (Addr × Obj)) (s : Shared) (σ : St) (H : Hp) (x y : V) (u v : Value) (Q : VK), Inv X pins σ H s → RelV x u → RelV y v → rd x y H Q → wpAny (model X.prog X.w) X.A (inplaceOp op u v) (EP X pins σ Q) X.xe s
/-- e.f op= value -/
def sFldAug (K : PySem.W.Frag) (ta tv : TE) (rd : V → V → Hp → VK → Prop) (f : Str) : TS := fun D σ H => ta σ H fun x H1 => ∃ a C dx fs v, x = .ref a ∧ H1 a = some (.ins C dx fs) ∧ Cls K C ∧ NoAttr K C f ∧ fs.lookup f = some v ∧
  tv σ H1 fun y H2 => rd v y H2 fun z H3 => ∃ dx' fs', H3 a = some (.ins C dx' fs') ∧ fs'.length < 1000 ∧ D.nx σ (upd H3 a (.ins C dx' (putF f z fs')))

section
variable {X : Cx} {o e value : Expr} {f : Str} {pos pos' tpos : Pos} {ta tv : TE}
theorem pe_fld (he : PE X e ta) (hb : attributeBase e f X.env (eval e X.env) = eval e X.env) : PE X (.Attribute e f pos) (tFld X.K ta f) := by
  intro pins s σ H Q I h
  refine attr_of hb (thn (he pins s σ H _ I h) fun u s1 ⟨x, H1, I1, rx, a, C, dx, fs, v, ex, ea, c, n, l, q⟩ => ?_)
  subst ex
  obtain rfl : u = Value.ref a := rx
  exact getattr_ok I1 ea c n l fun u' s2 I2 ru => ⟨v, H1, I2, ru, q⟩
theorem pe_con (he : PE X e ta) (hb : attributeBase e f X.env (eval e X.env) = eval e X.env) : PE X (.Attribute e f pos) (tCon X.K ta f) := by
  intro pins s σ H Q I h
  refine attr_of hb (thn (he pins s σ H _ I h) fun u s1 ⟨x, H1, I1, rx, a, C, dx, fs, v, u0, ex, ea, c, k, l, q⟩ => ?_)
  subst ex
  obtain rfl : u = Value.ref a := rx
  exact getcon_ok I1 ea c k l fun s2 I2 => ⟨v, H1, I2, k.rel, q⟩
theorem ps_fld (ha : PE X o ta) (hv : PE X value tv) (hs : swapsWith value (some (.Attribute o f pos')) pos.line X.env = pure false) : PS X (.Assign [.Attribute o f pos'] value pos) (sFld X.K ta tv f) := by
  intro pins s σ H D I h
  refine plainObj_wpAny_Assign_Attribute (thn (hv pins s σ H _ I h) fun u s1 ⟨y, H1, I1, ry, q⟩ => thn (ha pins s1 σ H1 _ I1 q) fun ov s2 ⟨x, H2, I2, rx, a, C, dx, fs, ex, ea, c, n, l, q2⟩ => ?_) hs
  subst ex
  obtain rfl : ov = Value.ref a := rx
  exact setattr_ok I2 ea c n l ry fun s3 I3 => ⟨σ, _, I3, q2⟩
theorem ps_fldaug {op : Operator} {rd : V → V → Hp → VK → Prop} (ha : PE X o ta) (hv : PE X value tv) (hop : InOp X op rd) : PS X (.AugAssign (.Attribute o f tpos) op value pos) (sFldAug X.K ta tv rd f) := by
  intro pins s σ H D I h
  refine wpAny_AugAssign_AttributeAny (thn (ha pins s σ H _ I h) fun ov s1 ⟨x, H1, I1, rx, a, C, dx, fs, v, ex, ea, c, n, l, q⟩ => ?_)
  subst ex
  obtain rfl : ov = Value.ref a := rx
  refine getattr_ok I1 ea c n l fun u s2 I2 ru => thn (hv pins s2 σ H1 _ I2 q) fun w3 s3 ⟨y, H2, I3, ry, q3⟩ => thn (hop pins s3 σ H2 v y u w3 _ I3 ru ry q3) fun w4 s4 ⟨z, H3, I4, rz, dx', fs', ea', l', q4⟩ => ?_
  exact setattr_ok I4 ea' c n l' rz fun s5 I5 => ⟨σ, _, I5, q4⟩
def rAdd : V → V → Hp → VK → Prop := fun x y H Q => ∃ i j, x = .int i ∧ y = .int j ∧ Q (.int (i + j)) H
def rSub : V → V → Hp → VK → Prop := fun x y H Q => ∃ i j, x = .int i ∧ y = .int j ∧ Q (.int (i - j)) H
theorem in_add : InOp X .Add rAdd := by
  rintro pins s σ H x y u v Q I rx ry ⟨i, j, rfl, rfl, q⟩
  obtain ⟨t, rfl⟩ := (show ∃ t, u = Value.int i t from rx)
  obtain ⟨t', rfl⟩ := (show ∃ t', v = Value.int j t' from ry)
  exact PyProof.Rows.iadd_int ⟨.int (i + j), H, I.tok _, ⟨_, rfl⟩, q⟩
theorem in_sub : InOp X .Sub rSub := by
  rintro pins s σ H x y u v Q I rx ry ⟨i, j, rfl, rfl, q⟩
  obtain ⟨t, rfl⟩ := (show ∃ t, u = Value.int i t from rx)
  obtain ⟨t', rfl⟩ := (show ∃ t', v = Value.int j t' from ry)
  exact PyProof.Rows.isub_int ⟨.int (i - j), H, I.tok _, ⟨_, rfl⟩, q⟩

/-- what is between an instance and its method: the tree of a method call -/
theorem methcall_of {pl : Sem Bool} {m : Str} {apos : Pos} {args : List Expr} {pins : List (Addr × Obj)} {s : Shared} {σ : St} {H : Hp} {Q : Value → Shared → Prop} {te : TE} (he : PE X e te) (I : Inv X pins σ H s)
    (h : te σ H fun x H1 => ∃ a C dx fs g, x = .ref a ∧ H1 a = some (.ins C dx fs) ∧ Cls X.K C ∧ Meth X.K C m g ∧ fs.lookup m = none ∧
      ∀ s1, Inv X pins σ H1 s1 → wpAny (model X.prog X.w) X.A (callWith pos (.ref g) [.ref a] (backTo pos (starEach args X.env)) (backToKw pos (keywordEach [] X.env))) Q X.xe s1)
    (ht : eval (.Call (.Attribute e m apos) args [] pos) X.env = (do
      let ov ← eval e X.env
      standAt apos.atName
      let (f, first) ← holding [ov] (getMethod ov m pl)
      callWith pos f first (backTo pos (starEach args X.env)) (backToKw pos (keywordEach [] X.env)))) :
    wpAny (model X.prog X.w) X.A (eval (.Call (.Attribute e m apos) args [] pos) X.env) Q X.xe s := by
  refine PySem.W.methodCall_KW (pl := pl) (thn (he pins s σ H _ I h) fun u s1 ⟨x, H1, I1, rx, a, C, dx, fs, g, ex, ea, c, k, l, q⟩ => ?_) ht
  subst ex
  obtain rfl : u = Value.ref a := rx
  exact getmeth_ok I1 ea c k l (q s1 I1)
end

/-! ### isinstance -/
section
variable {X : Cx} {pins : List (Addr × Obj)} {σ : St} {H : Hp} {s : Shared} {A : Around} {E : Value → Shared → Prop} {Q : Value → Shared → Prop} {c : Value} {b : Bool}
/-- the type of a value, as the fragment's deciders take it; for an instance its class -/
inductive TyOf (K : PySem.W.Frag) (H : Hp) : V → Value → Prop where
  | non : TyOf K H .non (.type "NoneType")
  | bl (x : Bool) : TyOf K H (.bl x) (.type "bool")
  | int (i : Int) : TyOf K H (.int i) (.type "int")
  | str (x : Str) : TyOf K H (.str x) (.type "str")
  | flt (x : UInt64) : TyOf K H (.flt x) (.type "float")
  | lst {a : Addr} {xs : List V} (e : H a = some (.lst xs)) : TyOf K H (.ref a) (.type "list")
  | frz {a : Addr} {o : Obj} {xs : List V} (e : H a = some (.frz o (.lst xs))) : TyOf K H (.ref a) (.type "list")
  | tup {a : Addr} {xs : List V} (e : H a = some (.tup xs)) : TyOf K H (.ref a) (.type "tuple")
  | dK {a : Addr} {kvs : List (Key × V)} (e : H a = some (.dK kvs)) : TyOf K H (.ref a) (.type "dict")
  | dT {a : Addr} {kvs : List (List Key × V)} (e : H a = some (.dT kvs)) : TyOf K H (.ref a) (.type "dict")
  | ins {a C dx : Addr} {fs : List (Str × V)} (e : H a = some (.ins C dx fs)) (cl : Cls K C) (ha : PySem.W.findIn K (.ref C) "__class__" = some (some (.builtin "object.__class__")))
      (hn : PySem.W.specialIn K (.builtin "object.__class__") "__get__" = some (some (.builtin "getset_descriptor.__get__"))) (htk : PySem.W.takesIn K (.builtin "object.__class__") = some true)
      (hm : PySem.W.mroIn K C (.type "object") = some true) : TyOf K H (.ref a) (.ref C)
/-- isinstance(x, c) for one class c, a built-in or an own one: kitOne's answer -/
theorem isinst_ok {x : V} {u t : Value} (I : Inv X pins σ H s) (rx : RelV x u) (ty : TyOf X.K H x t) (e : PySem.W.kitOne X.K t c = some b) (h : ∀ tk, Q (.bool b) { s with toks := tk }) :
    wpAny (model X.prog X.w) A (call (.builtin "isinstance") [u, c]) Q E s := by
  cases ty with
  | non => cases (show u = Value.none from rx); exact PySem.W.kia_one PySem.W.kitx_none I.kIn True.intro e (fun z => nomatch z) h
  | bl y => cases (show u = Value.bool y from rx); exact PySem.W.kia_one PySem.W.kitx_bool I.kIn True.intro e (fun z => nomatch z) h
  | int i => obtain ⟨t, q⟩ := (show ∃ t, u = Value.int i t from rx); cases q; exact PySem.W.kia_one PySem.W.kitx_int I.kIn True.intro e (fun z => nomatch z) h
  | str y => obtain ⟨t, q⟩ := (show ∃ t, u = Value.str y t from rx); cases q; exact PySem.W.kia_one PySem.W.kitx_str I.kIn True.intro e (fun z => nomatch z) h
  | flt y => obtain ⟨t, q⟩ := (show ∃ t, u = Value.float y t from rx); cases q; exact PySem.W.kia_one PySem.W.kitx_float I.kIn True.intro e (fun z => nomatch z) h
  | @lst a xs ea =>
    cases (show u = Value.ref a from rx)
    obtain ⟨_, _, n, _, h1⟩ := (show ObjOk X.prog X.w H s.heap a (.lst xs) from I.hok a _ ea)
    exact PySem.W.kia_one PySem.W.kitx_list I.kIn ⟨_, h1, rfl⟩ e (fun z => nomatch z) h
  | @frz a ob xs ea =>
    cases (show u = Value.ref a from rx)
    obtain ⟨_, _, _, n, _, h1⟩ := (show ObjOk X.prog X.w H s.heap a (.frz ob (.lst xs)) from I.hok a _ ea)
    exact PySem.W.kia_one PySem.W.kitx_list I.kIn ⟨_, h1, rfl⟩ e (fun z => nomatch z) h
  | @tup a xs ea =>
    cases (show u = Value.ref a from rx)
    obtain ⟨_, _, _, p⟩ := (show ObjOk X.prog X.w H s.heap a (.tup xs) from I.hok a _ ea)
    obtain ⟨o, h1, h2, _⟩ := p
    exact PySem.W.kia_one PySem.W.kitx_tuple I.kIn ⟨o, h1, h2⟩ e (fun z => nomatch z) h
  | @dK a kvs ea =>
    cases (show u = Value.ref a from rx)
    obtain ⟨_, _, vs, _, p⟩ := (show ObjOk X.prog X.w H s.heap a (.dK kvs) from I.hok a _ ea)
    obtain ⟨o, es, ep, h1, h2, _⟩ := p
    exact PySem.W.kia_one PySem.W.kitx_dict I.kIn ⟨o, h1, h2.1⟩ e (fun z => nomatch z) h
  | @dT a kvs ea =>
    cases (show u = Value.ref a from rx)
    obtain ⟨_, _, xs, _, o, es, ep, h1, h2, _⟩ := (show ObjOk X.prog X.w H s.heap a (.dT kvs) from I.hok a _ ea)
    exact PySem.W.kia_one PySem.W.kitx_dict I.kIn ⟨o, h1, h2.1⟩ e (fun z => nomatch z) h
  | @ins a C dx fs ea cl ha hn htk hm =>
    cases (show u = Value.ref a from rx)
    obtain ⟨mA, O, _⟩ := ins_get I.hok ea
    obtain ⟨od, J, _⟩ := O.look
    exact PySem.W.kia_one (PySem.W.kitx_own (cl.get _) cl.hd ha hn htk hm) I.kIn J e (fun z => nomatch z) h
end
end L2

namespace L2
open PySem PySem.Spec PyProof.Rows

/-! ### room -/
structure Room (k : Nat) (A : Around) : Prop where
  hd : A.handled = none
  dp : A.depth + 3 * k + 5 < recursionLimit
  un : A.units + 16 * k + 200 < cLine
theorem Room.mono {j k : Nat} {A : Around} (r : Room k A) (h : j ≤ k) : Room j A := ⟨r.hd, by have := r.dp; omega, by have := r.un; omega⟩
theorem Room.deeper {k : Nat} {A : Around} (r : Room (k + 1) A) (env : Env) : Room k (A.deeper env) :=
  ⟨r.hd, by have := r.dp; show A.depth + 1 + 3 * k + 5 < _; omega, by have := r.un; show A.units + 3 + 16 * k + 200 < _; omega⟩
theorem Room.in1 {k : Nat} {A : Around} (r : Room (k + 1) A) : Room k A.in1 :=
  ⟨r.hd, by have := r.dp; show A.depth + 3 * k + 5 < _; omega, by have := r.un; show A.units + 1 + 16 * k + 200 < _; omega⟩
theorem make_depth {A : Around} {C : Addr} {us : List Value} {kw : List (Str × Value)} : (A.under (.builtin "type.__call__" ⟨.ref C :: us, kw⟩)).depth = A.depth + 1 := by
  first | rfl | simp [Around.under, Code.weight, Code.isCreation, Code.isGuard, Code.isCaller, Code.frames, Code.isFrame, guardIds]
theorem make_units {A : Around} {C : Addr} {us : List Value} {kw : List (Str × Value)} : (A.under (.builtin "type.__call__" ⟨.ref C :: us, kw⟩)).units = A.units + 1 := by
  first | rfl | simp [Around.under, Code.cUnits, Code.frames, Code.isFrame]
theorem Room.make {k : Nat} {A : Around} (r : Room (k + 1) A) (C : Addr) (us : List Value) (kw : List (Str × Value)) : Room k (A.under (.builtin "type.__call__" ⟨.ref C :: us, kw⟩)) :=
  ⟨r.hd, by have := r.dp; rw [make_depth]; omega, by have := r.un; rw [make_units]; omega⟩
theorem Room.depth {k : Nat} {A : Around} (r : Room k A) : A.depth < recursionLimit := by have := r.dp; omega
theorem Room.units {k : Nat} {A : Around} (r : Room k A) : A.units + 64 < cLine := by have := r.un; omega
theorem Room.units0 {k : Nat} {A : Around} (r : Room k A) : A.units < cLine := by have := r.un; omega

/-! ### argument lists and displays -/
def tNil : TA := fun _ H Q => Q [] H
def tCons (ta : TE) (tr : TA) : TA := fun σ H Q => ta σ H fun x H1 => tr σ H1 fun xs H2 => Q (x :: xs) H2
section
variable {X : Cx} {e : Expr} {es : List Expr} {te : TE} {t : TA} {pos : Pos}
theorem pa_nil : PA X [] tNil := fun _ _ _ _ H Q I h => Calls.spliced_nil ⟨[], H, I, .nil, h⟩
theorem pa_cons (ha : PE X e te) (hr : PA X es t) (hs : starEach (e :: es) X.env = (false, eval e X.env) :: starEach es X.env := by rfl) : PA X (e :: es) (tCons te t) := by
  intro pos pins s σ H Q I h
  rw [hs]
  show wpAny _ _ (spliced ((false, eval e X.env) :: backTo pos (starEach es X.env))) _ _ s
  refine Calls.spliced_cons (thn (ha pins s σ H _ I h) fun u s1 ⟨x, H1, I1, r1, q1⟩ => ?_)
  exact thn (hr pos pins s1 σ H1 _ I1 q1) fun us s2 ⟨xs, H2, I2, r2, q2⟩ => ⟨x :: xs, H2, I2, .cons r1 r2, q2⟩

/-- a tuple, a list of written items -/
def tTup (t : TA) : TE := fun σ H Q => t σ H fun xs H1 => xs.length ≤ sizeLine ∧ ∀ p, H1 p = none → Q (.ref p) (upd H1 p (.tup xs))
def tLst (t : TA) : TE := fun σ H Q => t σ H fun xs H1 => xs.length ≤ sizeLine ∧ ∀ p, H1 p = none → Q (.ref p) (upd H1 p (.lst xs))
theorem pe_tup {x1} (h : PA X es t) : PE X (.Tuple es x1 pos) (tTup t) := by
  intro pins s σ H Q I hq
  refine wpAny_Tuple_spliced (thn (h pos pins s σ H _ I hq) fun us s1 ⟨xs, H1, I1, r, z, q⟩ => ⟨by rw [← r.length]; exact z, ?_⟩)
  have hf : H1 s1.heap.objs.size = none := I1.hok.fresh (Nat.le_refl _)
  refine ⟨.ref s1.heap.objs.size, upd H1 s1.heap.objs.size (.tup xs), I1.laid (t' := s1.toks) (fun b u e => Heap.get?_push_of_some _ e) (Nat.le_refl _) ?_, rfl, q _ hf⟩
  exact ⟨z, us, r, ⟨_, Heap.get?_push_size _ rfl, rfl, _, rfl⟩⟩
theorem pe_lst (h : PA X es t) : PE X (.List es pos) (tLst t) := by
  intro pins s σ H Q I hq
  refine wpAny_List_spliced (thn (h pos pins s σ H _ I hq) fun us s1 ⟨xs, H1, I1, r, z, q⟩ => ⟨by rw [← r.length]; exact z, ?_⟩)
  have hf : H1 s1.heap.objs.size = none := I1.hok.fresh (Nat.le_refl _)
  refine ⟨.ref s1.heap.objs.size, upd H1 s1.heap.objs.size (.lst xs), I1.laid (t' := s1.toks) (fun b u e => Heap.get?_push_of_some _ e) (Nat.le_refl _) ?_, rfl, q _ hf⟩
  exact ⟨z, us, 0, r, Heap.get?_push_size _ rfl⟩
end

/-! ### what a def promises -/
/-- a def's promise: the bound arguments in the parameters' order, the heap, the wanted end, the wanted exception -/
abbrev Sp := List V → Hp → VK → XK → Prop
/-- how an exception lies behind a call (file 08 gives it): the callers' frames, abstract heap and state ahead of the call, the wish, the exception, the state -/
abbrev CXT := List Env → Hp → Shared → XK → Value → Shared → Prop

/-- the state at a call -/
structure Env0 (P : Program) (w : World) (K : PySem.W.Frag) (mg : Str → Option Value) (base : Heap) (A : Around) (outer : List Env) (s : Shared) (H : Hp) : Prop where
  frames : A.frames = some outer
  mod : Mod K mg base
  bs : ∀ b o, base.get? b = some o → s.heap.get? b = some o ∧ H b = none
  bsz : base.objs.size ≤ s.heap.objs.size
  funs : s.heap.FunFrames base outer
  frf : ∀ b ∈ frs outer, H b = none
  hok : HOk P w H s.heap
  bare : AllBare s.gens
/-- a call's end -/
def CE (outer : List Env) (P : Program) (w : World) (H : Hp) (s : Shared) (Q : VK) (u : Value) (s' : Shared) : Prop :=
  ∃ v H', s'.os = s.os ∧ AllBare s'.gens ∧ Un (frs outer) [] H H' s.heap s'.heap ∧ HOk P w H' s'.heap ∧ RelV v u ∧ Q v H'
def CR (CX : CXT) (outer : List Env) (P : Program) (w : World) (H : Hp) (s : Shared) (Q : VK) (E : XK) (r : Result) (s' : Shared) : Prop :=
  match r with
  | .ok (.ret u) => CE outer P w H s Q u s'
  | .ok _ => False
  | .error e => CX outer H s E e s'
structure FnOk (P : Program) (w : World) (K : PySem.W.Frag) (mg : Str → Option Value) (base : Heap) (CX : CXT) (k : Nat) (f : Addr) (fd : FuncData) (ps : List Str) (sp : Sp) : Prop where
  len : ∀ vs H Q E, sp vs H Q E → vs.length = ps.length
  run : ∀ (A : Around) (outer : List Env) (s : Shared) (H : Hp) (args : Args) (us : List Value) (vs : List V) (Q : VK) (E : XK), Room k A → Env0 P w K mg base A outer s H → BindsTo s fd args (ps.zip us) → Vals vs us → sp vs H Q E →
    codeAny (model P w) A (.call (.ref f) args) (CR CX outer P w H s Q E) s
theorem FnOk.mono {P : Program} {w : World} {K : PySem.W.Frag} {mg : Str → Option Value} {base : Heap} {CX : CXT} {j k : Nat} {f : Addr} {fd : FuncData} {ps : List Str} {sp : Sp} (F : FnOk P w K mg base CX j f fd ps sp) (h : j ≤ k) :
    FnOk P w K mg base CX k f fd ps sp := ⟨F.len, fun A outer s H args us vs Q E hr => F.run A outer s H args us vs Q E (hr.mono h)⟩
/-- a weaker promise -/
theorem FnOk.imp {P : Program} {w : World} {K : PySem.W.Frag} {mg : Str → Option Value} {base : Heap} {CX : CXT} {k : Nat} {f : Addr} {fd : FuncData} {ps : List Str} {sp sp' : Sp} (F : FnOk P w K mg base CX k f fd ps sp)
    (h : ∀ vs H Q E, sp' vs H Q E → sp vs H Q E) : FnOk P w K mg base CX k f fd ps sp' :=
  ⟨fun vs H Q E q => F.len vs H Q E (h _ _ _ _ q), fun A outer s H args us vs Q E hr he hb hv hs => F.run A outer s H args us vs Q E hr he hb hv (h _ _ _ _ hs)⟩

theorem Env0.make {P : Program} {w : World} {K : PySem.W.Frag} {mg : Str → Option Value} {base : Heap} {A : Around} {outer : List Env} {s : Shared} {H : Hp} (e : Env0 P w K mg base A outer s H) (C : Addr) (us : List Value) (kw : List (Str × Value)) :
    Env0 P w K mg base (A.under (.builtin "type.__call__" ⟨.ref C :: us, kw⟩)) outer s H := ⟨by first | exact e.frames | (simpa [Around.under, Code.envs, Code.isFrame, pushEnvs] using e.frames), e.mod, e.bs, e.bsz, e.funs, e.frf, e.hok, e.bare⟩
theorem Env0.in1 {P : Program} {w : World} {K : PySem.W.Frag} {mg : Str → Option Value} {base : Heap} {A : Around} {outer : List Env} {s : Shared} {H : Hp} (e : Env0 P w K mg base A outer s H) :
    Env0 P w K mg base A.in1 outer s H := ⟨e.frames, e.mod, e.bs, e.bsz, e.funs, e.frf, e.hok, e.bare⟩

section
variable {X : Cx} {pins : List (Addr × Obj)} {σ : St} {H : Hp} {s s' : Shared}
/-- from a body: what a callee wants -/
theorem Inv.env0 (I : Inv X pins σ H s) : Env0 X.prog X.w X.K X.mg X.base X.A X.stack s H :=
  ⟨I.ok.frames, I.ok.mod, I.bs, Nat.le_trans I.ok.bsz I.sz, I.stack, I.stkFree, I.hok, I.bare⟩
/-- behind a call -/
theorem Inv.after {Q : VK} {u : Value} (I : Inv X pins σ H s) (h : CE X.stack X.prog X.w H s Q u s') : EP X pins σ Q u s' := by
  obtain ⟨v, H', os, bare, un, hok, r, q⟩ := h
  obtain ⟨hh, g, d, t, os'⟩ := s'
  obtain rfl : os' = s.os := os
  exact ⟨v, H', I.call (h' := hh) (g' := g) (d' := d) (t' := t) (ch := []) un hok bare (fun b z => absurd z (by simp)), r, q⟩
end

/-! ### calls -/
/-- f(..): the written arguments, then the defaults dvs; E: what is wanted of an exception -/
def tCall (sp : Sp) (dvs : List V) (E : XK) (t : TA) : TE := fun σ H Q => t σ H fun vs H1 => sp (vs ++ dvs) H1 Q E
/-- o.m(..) of an instance of the class at C -/
def tMeth (C : Addr) (m : Str) (sp : Sp) (dvs : List V) (E : XK) (ta : TE) (t : TA) : TE := fun σ H Q => ta σ H fun x H1 => ∃ a dx fs, x = .ref a ∧ H1 a = some (.ins C dx fs) ∧ fs.lookup m = none ∧
  t σ H1 fun vs H2 => sp (x :: (vs ++ dvs)) H2 Q E
/-- C(..): a new instance and its dict, then __init__ -/
def tMake (C : Addr) (sp : Sp) (dvs : List V) (E : XK) (t : TA) : TE := fun σ H Q => t σ H fun vs H1 => ∀ x dx, H1 x = none → H1 dx = none → dx ≠ x →
  sp (.ref x :: (vs ++ dvs)) (upd (upd H1 dx (.own x)) x (.ins C dx [])) (fun v H2 => v = .non ∧ Q (.ref x) H2) E

/-- how the parameters are bound: us the positional arguments, kw the keywords' values by name, ds the defaults that fill up -/
def Binds (K : PySem.W.Frag) (fd : FuncData) (ps : List Str) (ds : List Value) : Prop :=
  ∀ (s : Shared) (us : List Value), K.In s.heap → (us ++ ds).length = ps.length → BindsTo s fd ⟨us, []⟩ (ps.zip (us ++ ds))
/-- every parameter is given -/
theorem Binds.all {K : PySem.W.Frag} {fd : FuncData} {ps : List Str} (h : ∀ us : List Value, us.length = ps.length → bindArgs fd ⟨us, []⟩ = pure (ps.zip us)) : Binds K fd ps [] := fun s us _ hl => by
  rw [List.append_nil] at hl ⊢
  exact .of_eq (h us hl)

/-- an exception of a callee reaches what this body wants of exceptions -/
def Passes (CX : CXT) (X : Cx) (E : XK) : Prop := ∀ (pins : List (Addr × Obj)) (σ : St) (H : Hp) (s : Shared) (e : Value) (s' : Shared), Inv X pins σ H s → CX X.stack H s E e s' → X.xe e s'

section
variable {X : Cx} {CX : CXT} {k : Nat} {f C : Addr} {fd : FuncData} {ps : List Str} {sp : Sp} {dvs : List V} {ds : List Value} {E : XK} {x m : Str} {p pos apos : Pos} {e o : Expr} {es : List Expr} {ta : TE} {t : TA}

/-- the callee runs -/
theorem run_fn {pins : List (Addr × Obj)} {σ : St} {H : Hp} {s : Shared} {Q : VK} {us : List Value} {vs : List V} (F : FnOk X.prog X.w X.K X.mg X.base CX k f fd ps sp) (hr : Room k X.A) (hb : Binds X.K fd ps ds) (hd : Vals dvs ds) (hx : Passes CX X E)
    (I : Inv X pins σ H s) (r : Vals vs us) (h : sp (vs ++ dvs) H Q E) : wpAny (model X.prog X.w) X.A (call (.ref f) us) (EP X pins σ Q) X.xe s := by
  have r2 : Vals (vs ++ dvs) (us ++ ds) := r.append hd
  have hl : (us ++ ds).length = ps.length := by rw [← r2.length]; exact F.len _ _ _ _ h
  refine wpAny_call (codeAny_mono (F.run X.A X.stack s H ⟨us, []⟩ (us ++ ds) (vs ++ dvs) Q E hr I.env0 (hb s us I.kIn hl) r2 h) fun r s' hq => ?_)
  cases r with
  | error e => exact hx pins σ H s e s' I hq
  | ok fl =>
    cases fl with
    | ret u => exact I.after hq
    | next => exact False.elim hq
    | brk => exact False.elim hq
    | cont => exact False.elim hq

theorem pe_call (F : FnOk X.prog X.w X.K X.mg X.base CX k f fd ps sp) (hr : Room k X.A) (hg : Gl X x) (hm : X.mg x = some (.ref f)) (hk : PySem.W.keepIn X.K (.ref f) = true) (hb : Binds X.K fd ps ds) (hd : Vals dvs ds) (hx : Passes CX X E)
    (ha : PA X (e :: es) t) (hdb : (x == ("__debug__" : Str)) = false := by decide) (he : starEach (e :: es) X.env = (false, eval e X.env) :: starEach es X.env := by rfl) (hpl : (backTo pos (starEach es X.env)).any (·.1) = false := by rfl) :
    PE X (.Call (.Name x p) (e :: es) [] pos) (tCall sp dvs E t) := by
  intro pins s σ H Q I h
  refine wpAny_Call_Name_kw (ld_glob I hg hm ?_ hdb)
  refine PySem.W.callWith_K (h₀ := X.base) I.ok.mod.kin hk (thn (ha pos pins s σ H _ I h) fun us s1 ⟨vs, H1, I1, r, q⟩ => ⟨I1.kIn, ?_⟩) he hpl
  exact run_fn F hr hb hd hx I1 r q
theorem pe_call0 (F : FnOk X.prog X.w X.K X.mg X.base CX k f fd ps sp) (hr : Room k X.A) (hg : Gl X x) (hm : X.mg x = some (.ref f)) (hk : PySem.W.keepIn X.K (.ref f) = true) (hb : Binds X.K fd ps ds) (hd : Vals dvs ds) (hx : Passes CX X E)
    (hdb : (x == ("__debug__" : Str)) = false := by decide) : PE X (.Call (.Name x p) [] [] pos) (tCall sp dvs E tNil) := by
  intro pins s σ H Q I h
  refine wpAny_Call_Name_kw (ld_glob I hg hm ?_ hdb)
  exact PySem.W.callWith_K0 I.kIn hk (run_fn (us := []) F hr hb hd hx I .nil h)

/-- o.m(e, ..) -/
theorem pe_meth {pl : Sem Bool} (he : PE X o ta) (c : Cls X.K C) (hm : Meth X.K C m f) (F : FnOk X.prog X.w X.K X.mg X.base CX k f fd ps sp) (hr : Room k X.A) (hb : Binds X.K fd ps ds) (hd : Vals dvs ds) (hx : Passes CX X E) (ha : PA X (e :: es) t)
    (hst : starEach (e :: es) X.env = (false, eval e X.env) :: starEach es X.env := by rfl) (hpl : (backTo pos (starEach es X.env)).any (·.1) = false := by rfl)
    (ht : eval (.Call (.Attribute o m apos) (e :: es) [] pos) X.env = (do
      let ov ← eval o X.env
      standAt apos.atName
      let (f, first) ← holding [ov] (getMethod ov m pl)
      callWith pos f first (backTo pos (starEach (e :: es) X.env)) (backToKw pos (keywordEach [] X.env))) := by rfl) :
    PE X (.Call (.Attribute o m apos) (e :: es) [] pos) (tMeth C m sp dvs E ta t) := by
  intro pins s σ H Q I h
  refine PySem.W.methodCall_KW (pl := pl) (thn (he pins s σ H _ I h) fun u s1 ⟨x, H1, I1, rx, a, dx, fs, ex, ea, l, q⟩ => ?_) ht
  subst ex
  obtain rfl : u = Value.ref a := rx
  refine getmeth_ok I1 ea c hm l ?_
  refine PySem.W.callWith_K (first := [.ref a]) (h₀ := X.base) I.ok.mod.kin hm.kp (thn (ha pos pins s1 σ H1 _ I1 q) fun us s2 ⟨vs, H2, I2, r, q2⟩ => ⟨I2.kIn, ?_⟩) hst hpl
  exact run_fn (us := .ref a :: us) (vs := .ref a :: vs) F hr hb hd hx I2 (.cons rfl r) q2
/-- o.m() -/
theorem pe_meth0 {pl : Sem Bool} (he : PE X o ta) (c : Cls X.K C) (hm : Meth X.K C m f) (F : FnOk X.prog X.w X.K X.mg X.base CX k f fd ps sp) (hr : Room k X.A) (hb : Binds X.K fd ps ds) (hd : Vals dvs ds) (hx : Passes CX X E)
    (ht : eval (.Call (.Attribute o m apos) [] [] pos) X.env = (do
      let ov ← eval o X.env
      standAt apos.atName
      let (f, first) ← holding [ov] (getMethod ov m pl)
      callWith pos f first (backTo pos (starEach [] X.env)) (backToKw pos (keywordEach [] X.env))) := by rfl) :
    PE X (.Call (.Attribute o m apos) [] [] pos) (tMeth C m sp dvs E ta tNil) := by
  intro pins s σ H Q I h
  refine PySem.W.methodCall_KW (pl := pl) (thn (he pins s σ H _ I h) fun u s1 ⟨x, H1, I1, rx, a, dx, fs, ex, ea, l, q⟩ => ?_) ht
  subst ex
  obtain rfl : u = Value.ref a := rx
  refine getmeth_ok I1 ea c hm l ?_
  exact PySem.W.callWith_K0 (first := [.ref a]) I1.kIn hm.kp (run_fn (us := [.ref a]) (vs := [.ref a]) F hr hb hd hx I1 (.cons rfl .nil) q)

/-- what a class must have to be made -/
structure Mk (K : PySem.W.Frag) (C f : Addr) : Prop where
  makes : PySem.W.makesIn K C = true
  init : PySem.W.findIn K (.ref C) "__init__" = some (some (.ref f))
  fn : PySem.W.isFn K (.ref f) = true
  kp : PySem.W.keepIn K (.ref C) = true

theorem run_make {pins : List (Addr × Obj)} {σ : St} {H : Hp} {s : Shared} {Q : VK} {us : List Value} {vs : List V} (M : Mk X.K C f) (F : FnOk X.prog X.w X.K X.mg X.base CX k f fd ps sp) (hr : Room (k + 1) X.A) (hb : Binds X.K fd ps ds) (hd : Vals dvs ds)
    (hx : Passes CX X E) (I : Inv X pins σ H s) (r : Vals vs us)
    (h : ∀ x dx, H x = none → H dx = none → dx ≠ x → sp (.ref x :: (vs ++ dvs)) (upd (upd H dx (.own x)) x (.ins C dx [])) (fun v H2 => v = .non ∧ Q (.ref x) H2) E) :
    wpAny (model X.prog X.w) X.A (call (.ref C) us) (EP X pins σ Q) X.xe s := by
  have hq := h (s.heap.objs.size + 1) s.heap.objs.size (I.hok.fresh (Nat.le_succ _)) (I.hok.fresh (Nat.le_refl _)) (Nat.ne_of_lt (Nat.lt_succ_self _))
  have I2 := Inv.made (C := C) I
  have r2 : Vals (V.ref (s.heap.objs.size + 1) :: (vs ++ dvs)) (Value.ref (s.heap.objs.size + 1) :: (us ++ ds)) := .cons rfl (r.append hd)
  have hl : (Value.ref (s.heap.objs.size + 1) :: us ++ ds).length = ps.length := by
    have e := r2.length
    rw [F.len _ _ _ _ hq] at e
    exact e.symm
  refine wpAny_call (make_map (f := f) I.kIn M.makes M.init (beq_iff_eq.mp M.fn) (codeAny_mono (F.run _ X.stack _ _ ⟨Value.ref (s.heap.objs.size + 1) :: us, []⟩ (Value.ref (s.heap.objs.size + 1) :: (us ++ ds)) _ _ E (hr.make C us [])
    (I2.env0.make C us []) (hb _ (Value.ref (s.heap.objs.size + 1) :: us) I2.kIn hl) r2 hq) fun r s' hq' => ?_))
  cases r with
  | error e => exact hx pins σ _ _ e s' I2 hq'
  | ok fl =>
    cases fl with
    | ret u =>
      obtain ⟨v, H', I3, rv, ev, q3⟩ := I2.after hq'
      subst ev
      exact ⟨rv, ⟨V.ref (s.heap.objs.size + 1), H', I3, rfl, q3⟩⟩
    | next => exact False.elim hq'
    | brk => exact False.elim hq'
    | cont => exact False.elim hq'
theorem pe_make (M : Mk X.K C f) (F : FnOk X.prog X.w X.K X.mg X.base CX k f fd ps sp) (hr : Room (k + 1) X.A) (hg : Gl X x) (hm : X.mg x = some (.ref C)) (hb : Binds X.K fd ps ds) (hd : Vals dvs ds) (hx : Passes CX X E)
    (ha : PA X (e :: es) t) (hdb : (x == ("__debug__" : Str)) = false := by decide) (he : starEach (e :: es) X.env = (false, eval e X.env) :: starEach es X.env := by rfl) (hpl : (backTo pos (starEach es X.env)).any (·.1) = false := by rfl) :
    PE X (.Call (.Name x p) (e :: es) [] pos) (tMake C sp dvs E t) := by
  intro pins s σ H Q I h
  refine wpAny_Call_Name_kw (ld_glob I hg hm ?_ hdb)
  refine PySem.W.callWith_K (h₀ := X.base) I.ok.mod.kin M.kp (thn (ha pos pins s σ H _ I h) fun us s1 ⟨vs, H1, I1, r, q⟩ => ⟨I1.kIn, ?_⟩) he hpl
  exact run_make M F hr hb hd hx I1 r q
theorem pe_make0 (M : Mk X.K C f) (F : FnOk X.prog X.w X.K X.mg X.base CX k f fd ps sp) (hr : Room (k + 1) X.A) (hg : Gl X x) (hm : X.mg x = some (.ref C)) (hb : Binds X.K fd ps ds) (hd : Vals dvs ds) (hx : Passes CX X E)
    (hdb : (x == ("__debug__" : Str)) = false := by decide) : PE X (.Call (.Name x p) [] [] pos) (tMake C sp dvs E tNil) := by
  intro pins s σ H Q I h
  refine wpAny_Call_Name_kw (ld_glob I hg hm ?_ hdb)
  exact PySem.W.callWith_K0 I.kIn M.kp (run_make (us := []) M F hr hb hd hx I .nil h)
end

/-! ### keywords -/
/-- the values of the keywords, from the left -/
def PK (X : Cx) (kws : List Keyword) (t : TA) : Prop :=
  ∀ (pos : Pos) (pins : List (Addr × Obj)) (s : Shared) (σ : St) (H : Hp) (Q : List V → Hp → Prop), Inv X pins σ H s → t σ H Q → wpAny (model X.prog X.w) X.A (evalAll ((backToKw pos (keywordEach kws X.env)).map (·.2))) (AP X pins σ Q) X.xe s
section
variable {X : Cx} {CX : CXT} {k : Nat} {f C : Addr} {fd : FuncData} {ps ks : List Str} {sp : Sp} {E : XK} {x m : Str} {p pos apos kpos : Pos} {e o : Expr} {es : List Expr} {kws : List Keyword} {te ta : TE} {t tk : TA} {nm : Option Str}
theorem pk_nil : PK X [] tNil := fun _ _ _ _ H Q I h => wpAny_evalAll_nil ⟨[], H, I, .nil, h⟩
theorem pk_cons (ha : PE X e te) (hr : PK X kws t) : PK X (⟨nm, e, kpos⟩ :: kws) (tCons te t) := by
  intro pos pins s σ H Q I h
  show wpAny _ _ (evalAll ((do let v ← eval e X.env; standAt pos; pure v) :: (backToKw pos (keywordEach kws X.env)).map (·.2))) _ _ s
  refine wpAny_evalAll_cons (wpAny_bind (thn (ha pins s σ H _ I h) fun u s1 ⟨x, H1, I1, r1, q1⟩ => wpAny_bind (wpAny_standAt (wpAny_pure ?_))))
  exact thn (hr pos pins s1 σ H1 _ I1 q1) fun us s2 ⟨xs, H2, I2, r2, q2⟩ => ⟨x :: xs, H2, I2, .cons r1 r2, q2⟩

/-- how a call with keywords binds: g puts the positional values us and the keywords' values ws (names ks) in the parameters' order, defaults among them -/
structure KBinds (K : PySem.W.Frag) (fd : FuncData) (ps ks : List Str) (g : List Value → List Value → List Value) (gV : List V → List V → List V) : Prop where
  to : ∀ (s : Shared) (us ws : List Value), K.In s.heap → (g us ws).length = ps.length → BindsTo s fd ⟨us, ks.zip ws⟩ (ps.zip (g us ws))
  rel : ∀ {vs : List V} {us : List Value} {zs : List V} {ws : List Value}, Vals vs us → Vals zs ws → Vals (gV vs zs) (g us ws)
def tCallK (sp : Sp) (gV : List V → List V → List V) (E : XK) (t tk : TA) : TE := fun σ H Q => t σ H fun vs H1 => tk σ H1 fun zs H2 => sp (gV vs zs) H2 Q E
variable {g : List Value → List Value → List Value} {gV : List V → List V → List V}
theorem run_fnk {pins : List (Addr × Obj)} {σ : St} {H : Hp} {s : Shared} {Q : VK} {us ws : List Value} {vs zs : List V} (F : FnOk X.prog X.w X.K X.mg X.base CX k f fd ps sp) (hr : Room k X.A) (hb : KBinds X.K fd ps ks g gV) (hx : Passes CX X E)
    (I : Inv X pins σ H s) (r : Vals vs us) (rz : Vals zs ws) (h : sp (gV vs zs) H Q E) : wpAny (model X.prog X.w) X.A (call (.ref f) us (ks.zip ws)) (EP X pins σ Q) X.xe s := by
  have r2 := hb.rel r rz
  have hl : (g us ws).length = ps.length := by rw [← r2.length]; exact F.len _ _ _ _ h
  refine wpAny_call (codeAny_mono (F.run X.A X.stack s H ⟨us, ks.zip ws⟩ (g us ws) (gV vs zs) Q E hr I.env0 (hb.to s us ws I.kIn hl) r2 h) fun r s' hq => ?_)
  cases r with
  | error e => exact hx pins σ H s e s' I hq
  | ok fl =>
    cases fl with
    | ret u => exact I.after hq
    | next => exact False.elim hq
    | brk => exact False.elim hq
    | cont => exact False.elim hq
/-- f(e, .., k = v, ..) -/
theorem pe_callK (F : FnOk X.prog X.w X.K X.mg X.base CX k f fd ps sp) (hr : Room k X.A) (hg : Gl X x) (hm : X.mg x = some (.ref f)) (hk : PySem.W.keepIn X.K (.ref f) = true) (hb : KBinds X.K fd ps ks g gV) (hx : Passes CX X E)
    (ha : PA X (e :: es) t) (hkw : PK X kws tk) (hall : (backToKw pos (keywordEach kws X.env)).all (·.1.isSome) = true := by rfl) (hks : (backToKw pos (keywordEach kws X.env)).filterMap (·.1) = ks := by rfl)
    (hdb : (x == ("__debug__" : Str)) = false := by decide) (he : starEach (e :: es) X.env = (false, eval e X.env) :: starEach es X.env := by rfl)
    (hpl : ((backTo pos (starEach (e :: es) X.env)).any (·.1) || (backToKw pos (keywordEach kws X.env)).any (·.1.isNone)) = false := by rfl) :
    PE X (.Call (.Name x p) (e :: es) kws pos) (tCallK sp gV E t tk) := by
  intro pins s σ H Q I h
  refine wpAny_Call_Name_kw (ld_glob I hg hm ?_ hdb)
  refine PySem.W.callWith_KW (h₀ := X.base) I.ok.mod.kin hk hall (thn (ha pos pins s σ H _ I h) fun us s1 ⟨vs, H1, I1, r, q⟩ => ?_) hpl he
  refine thn (hkw pos pins s1 σ H1 _ I1 q) fun ws s2 ⟨zs, H2, I2, rz, q2⟩ => ⟨I2.kIn, ?_⟩
  rw [hks]
  exact run_fnk F hr hb hx I2 r rz q2
end

/-! ### a def's body keeps its promise -/
/-- names: the parameters first -/
structure FnScope (N P : List Str) (sc : Scope) : Prop where
  kind : sc.kind = .function
  co : sc.isCoroutine = false
  gen : sc.isGenerator = false
  nd : N.Nodup
  pre : N.take P.length = P
  par : ∀ x ∈ P, sc.names.lookup x = some .local ∨ sc.names.lookup x = some .cell
  nofree : ∀ y ∈ sc.names, y.2 ≠ .free

theorem bindL_out {kindOf : Str → Option NameKind} {x : Str} : ∀ {binds : List (Str × Value)} {m : Str → Option Value}, (∀ v, (x, v) ∉ binds) → bindL kindOf binds m x = m x
  | [], _, _ => rfl
  | (n, v) :: r, m, h => by
    unfold bindL
    rw [bindL_out fun w hw => h w (List.mem_cons_of_mem _ hw)]
    split
    · have : x ≠ n := by rintro rfl; exact h v List.mem_cons_self
      simp [this]
    · rfl
theorem bindC_out {kindOf : Str → Option NameKind} {x : Str} : ∀ {binds : List (Str × Value)} {m : Str → Option Value}, (∀ v, (x, v) ∉ binds) → bindC kindOf binds m x = m x
  | [], _, _ => rfl
  | (n, v) :: r, m, h => by
    unfold bindC
    rw [bindC_out fun w hw => h w (List.mem_cons_of_mem _ hw)]
    split
    · rfl
    · have : x ≠ n := by rintro rfl; exact h v List.mem_cons_self
      simp [this]
theorem bindL_get {kindOf : Str → Option NameKind} {x : Str} {v : Value} : ∀ {P : List Str} {vs : List Value} {i : Nat} {m : Str → Option Value}, P.Nodup → P[i]? = some x → vs[i]? = some v → kindOf x = some .local →
    bindL kindOf (P.zip vs) m x = some v
  | [], _, _, _, _, h, _, _ => by simp at h
  | _ :: _, [], _, _, _, _, h, _ => by simp at h
  | p :: P, w :: vs, 0, m, nd, h1, h2, hk => by
    simp at h1 h2; subst h1; subst h2
    show bindL kindOf ((p, w) :: P.zip vs) m p = _
    unfold bindL
    rw [bindL_out fun v hv => (List.nodup_cons.mp nd).1 (List.of_mem_zip hv).1, if_pos hk]
    simp
  | p :: P, w :: vs, i + 1, m, nd, h1, h2, hk => by
    show bindL kindOf ((p, w) :: P.zip vs) m x = _
    unfold bindL
    exact bindL_get (i := i) (List.nodup_cons.mp nd).2 (by simpa using h1) (by simpa using h2) hk
theorem bindC_get {kindOf : Str → Option NameKind} {x : Str} {v : Value} : ∀ {P : List Str} {vs : List Value} {i : Nat} {m : Str → Option Value}, P.Nodup → P[i]? = some x → vs[i]? = some v → kindOf x ≠ some .local →
    bindC kindOf (P.zip vs) m x = some v
  | [], _, _, _, _, h, _, _ => by simp at h
  | _ :: _, [], _, _, _, _, h, _ => by simp at h
  | p :: P, w :: vs, 0, m, nd, h1, h2, hk => by
    simp at h1 h2; subst h1; subst h2
    show bindC kindOf ((p, w) :: P.zip vs) m p = _
    unfold bindC
    rw [bindC_out fun v hv => (List.nodup_cons.mp nd).1 (List.of_mem_zip hv).1, if_neg hk]
    simp
  | p :: P, w :: vs, i + 1, m, nd, h1, h2, hk => by
    show bindC kindOf ((p, w) :: P.zip vs) m x = _
    unfold bindC
    exact bindC_get (i := i) (List.nodup_cons.mp nd).2 (by simpa using h1) (by simpa using h2) hk

/-- the names' values at the entry -/
def start (N : List Str) (vs : List V) : St := vs.map some ++ List.replicate (N.length - vs.length) none

/-- the context of a def's body, at its entry; an exception leaves the frame, then lies as CX says -/
def cxOf (CX : CXT) (P : Program) (w : World) (K : PySem.W.Frag) (mg : Str → Option Value) (base : Heap) (N : List Str) (qual : Str) (scope : Scope) (f : Addr) (cd : Value) (A : Around) (outer : List Env) (s : Shared) (H : Hp) (E : XK) : Cx where
  prog := P
  w := w
  K := K
  mg := mg
  base := base
  A := A.deeper (envOfC qual scope s.heap.objs.size f cd)
  N := N
  s₀ := s
  H₀ := H
  env := envOfC qual scope s.heap.objs.size f cd
  outer := outer
  stack := envOfC qual scope s.heap.objs.size f cd :: outer
  ex := []
  calm := true
  fn := fun _ => true
  pn := []
  xe := fun e s' => wpAny (model P w) (A.deeper (envOfC qual scope s.heap.objs.size f cd)) (leaving (envOfC qual scope s.heap.objs.size f cd) e) (fun _ s'' => CX outer H s E e s'') (fun e' s'' => CX outer H s E e' s'') s'

theorem cell_has {sc : Scope} {n : Nat} {x : Str} (h : sc.names.lookup x = some .cell) : ∃ c, (cellsFrom n sc.names []).lookup x = some c := by
  have q := PySem.W.cellsFrom_some sc.names n [] (.inl h)
  exact Option.isSome_iff_exists.mp q

theorem inv_start {CX : CXT} {P : Program} {w : World} {K : PySem.W.Frag} {mg : Str → Option Value} {base : Heap} {N ps : List Str} {qual : Str} {scope : Scope} {f : Addr} {cd : Value} {A : Around} {outer : List Env} {s s1 : Shared} {H : Hp} {E : XK} {us : List Value} {vs : List V}
    (S : FnScope N ps scope) (hd : A.handled = none) (e0 : Env0 P w K mg base A outer s H) (hl : vs.length = ps.length) (r : Vals vs us)
    (x : InCallC s s.heap.objs.size (bindL (envOfC qual scope s.heap.objs.size f cd).kindOf (ps.zip us) fun _ => none) (cellsFrom (s.heap.objs.size + 1) scope.names []) (bindC (envOfC qual scope s.heap.objs.size f cd).kindOf (ps.zip us) fun _ => none) s1) :
    Inv (cxOf CX P w K mg base N qual scope f cd A outer s H E) [] (start N vs) H s1 := by
  have hpl : ps.length ≤ N.length := by have := congrArg List.length S.pre; rw [List.length_take] at this; omega
  obtain ⟨h1, tk, rfl, hk⟩ := x.done
  have noA : ∀ b : Addr, b ∉ (cxOf CX P w K mg base N qual scope f cd A outer s H E).ex := fun b z => absurd (show b ∈ ([] : List Addr) from z) (by simp)
  refine ⟨⟨e0.mod, S.kind, rfl, rfl, Nat.le_refl _, fun y z c h1 h2 => ?_, fun y hy => ?_, fun y c _ h => ?_, fun _ => hd, Around.frames_deeper e0.frames, .inr ⟨rfl, rfl⟩, fun b z => absurd z (noA b), e0.bs, e0.bsz, fun b _ _ => noA b, fun b z => absurd z (noA b), e0.funs, e0.frf⟩,
    rfl, e0.bare, Un.kept hk, ⟨_, x.toInCall.ns, fun i y v h1 h2 h3 => ?_⟩, fun y c h => ⟨_, x.cell y c h⟩, e0.hok.fresh (Nat.le_refl _), fun y c h => ?_, fun p hp => absurd (show p ∈ ([] : List (Addr × Obj)) from hp) (by simp), e0.hok.kept hk, ?_⟩
  · exact name_of_addr x.apart (PySem.mem_of_lookup h1) (PySem.mem_of_lookup h2)
  · have hy : scope.names.lookup y = some .cell ∨ scope.names.lookup y = some .free := hy
    rcases hy with hy | hy
    · exact cell_has hy
    · exact absurd rfl (S.nofree _ (PySem.mem_of_lookup hy))
  · exact Nat.le_of_lt (x.above y c (PySem.mem_of_lookup h))
  · have hi : i < vs.length := by
      unfold start at h2
      by_cases hi : i < vs.length
      · exact hi
      · rw [List.getElem?_append_right (by simpa using hi)] at h2
        rw [List.getElem?_replicate] at h2
        split at h2 <;> cases h2
    have ha : vs[i]? = some v := by
      unfold start at h2
      rw [List.getElem?_append_left (by simpa using hi), List.getElem?_map] at h2
      cases e : vs[i]? with
      | none => rw [e] at h2; cases h2
      | some a => rw [e] at h2; cases h2; rfl
    obtain ⟨u, hu, rv⟩ := r.get ha
    have hp : ps[i]? = some y := by
      rw [← S.pre, List.getElem?_take_of_lt (by omega)]; exact h1
    have ndP : ps.Nodup := by rw [← S.pre]; exact S.nd.sublist (List.take_sublist _ _)
    refine ⟨u, rv, ?_⟩
    rcases S.par y (List.mem_of_getElem? hp) with k | k
    · exact .inl ⟨k, bindL_get ndP hp hu k⟩
    · obtain ⟨c, e⟩ := cell_has (n := s.heap.objs.size + 1) k
      refine .inr ⟨.inl k, c, e, ?_⟩
      have q := x.cell y c e
      rw [bindC_get ndP hp hu (by show scope.names.lookup y ≠ _; rw [k]; decide)] at q
      exact q
  · exact e0.hok.fresh (Nat.le_of_lt (x.above y c (PySem.mem_of_lookup h)))
  · unfold start
    show _ = N.length
    rw [List.length_append, List.length_map, List.length_replicate]
    omega

/-- THE RULE: a def (or a method) of the text, by its body. The body's reading t is chosen for each entry; it is run at the parameters' values -/
theorem fn_of {CX : CXT} {P : Program} {w : World} {K : PySem.W.Frag} {mg : Str → Option Value} {base : Heap} {k : Nat} {f : Addr} {name qual : Str} {params : Arguments} {body : List Stmt} {scope : Scope} {dV kV doc pm cdv ct oc : Value} {an od : Option Addr}
    {osl : Array (Option Value)} {N ps : List Str} {sp : Sp} (lk : K.lookup f = some ⟨oc, od, .func (PySem.W.fnOf name qual params body scope dV kV doc pm an cdv ct), osl⟩) (hcd : PySem.W.codeIn K cdv qual = true) (S : FnScope N ps scope)
    (len : ∀ vs H Q E, sp vs H Q E → vs.length = ps.length)
    (hbody : ∀ (A : Around) (outer : List Env) (s : Shared) (H : Hp) (vs : List V) (Q : VK) (E : XK), Room k (A.deeper (envOfC qual scope s.heap.objs.size f cdv)) → sp vs H Q E →
      ∃ t, PSs (cxOf CX P w K mg base N qual scope f cdv A outer s H E) body t ∧ t { nx := fun _ H' => Q .non H', rt := Q } (start N vs) H) :
    FnOk P w K mg base CX (k + 1) f (PySem.W.fnOf name qual params body scope dV kV doc pm an cdv ct) ps sp := by
  refine ⟨len, fun A outer s H args us vs Q E hr e0 hb r hsp => ?_⟩
  have hl := len _ _ _ _ hsp
  have KX : K.In s.heap := e0.mod.kin.keeps fun b o e => (e0.bs b o e).1
  have lim : s.heap.NoLimit := e0.mod.nolimit.keeps fun b o e => (e0.bs b o e).1
  have hkind : ∀ y ∈ ps.zip us, scope.names.lookup y.1 = some .local ∨ (scope.names.lookup y.1 = some .cell ∧ ((cellsFrom (s.heap.objs.size + 1) scope.names []).lookup y.1).isSome = true) := fun ⟨n, v⟩ hy => by
    rcases S.par n (List.of_mem_zip hy).1 with q | q
    · exact .inl q
    · exact .inr ⟨q, PySem.W.cellsFrom_some _ _ _ (.inl q)⟩
  refine codeAny_call_function hr.depth (KX _ _ lk) rfl S.co S.gen rfl (PySem.W.codeRec_of KX hcd) (hb _ _ _ _ ?_)
  refine wpAny_newFunctionEnv_cells S.kind hkind fun env he s1 x => ?_
  subst he
  refine ⟨lim.keeps x.toInCall.keep, codeAny_func ?_⟩
  obtain ⟨t, ht, hq⟩ := hbody A outer s H vs Q E (hr.deeper _) hsp
  have I : Inv (cxOf CX P w K mg base N qual scope f cdv A outer s H E) [] (start N vs) H s1 := inv_start S hr.hd e0 hl r x
  refine wpAny_mono (ht [] s1 (start N vs) H _ I hq) (fun fl s' hs => ?_) fun e s' hs => hs
  have fin : ∀ {σ' : St} {H' : Hp} {v : V} {u : Value}, Inv (cxOf CX P w K mg base N qual scope f cdv A outer s H E) [] σ' H' s' → RelV v u → Q v H' → CE outer P w H s Q u s' :=
    fun {σ' H' v u} J rv q => ⟨v, H', J.os, J.bare, J.base, J.hok, rv, q⟩
  cases fl with
  | ret u =>
    obtain ⟨v, σ', H', J, rv, q⟩ := hs
    exact fin J rv q
  | next =>
    obtain ⟨σ', H', J, q⟩ := hs
    exact fin (v := V.non) (u := Value.none) J rfl q
  | brk =>
    obtain ⟨_, _, _, q⟩ := hs
    exact False.elim q
  | cont =>
    obtain ⟨_, _, _, q⟩ := hs
    exact False.elim q
end L2

namespace L2
open PySem PySem.Spec PyProof.Rows
section
variable {X : Cx} {x : Str} {p pos : Pos} {e : Expr} {es : List Expr} {t : TA} {id T : String} {r : List V → Hp → VK → Prop}

def tCB (r : List V → Hp → VK → Prop) (t : TA) : TE := fun σ H Q => t σ H fun vs H1 => r vs H1 Q
/-- f(e, ..), f a built-in function -/
theorem pe_callB (hc : CallR X (.builtin id) r) (hg : Gl X x) (hm : X.mg x = none) (hv : bootBuiltins x = some (.builtin id)) (ha : PA X (e :: es) t) (hn : x ≠ "__name__" := by decide) (hdb : (x == ("__debug__" : Str)) = false := by decide)
    (he : starEach (e :: es) X.env = (false, eval e X.env) :: starEach es X.env := by rfl) (hpl : (backTo pos (starEach es X.env)).any (·.1) = false := by rfl) : PE X (.Call (.Name x p) (e :: es) [] pos) (tCB r t) := by
  intro pins s σ H Q I h
  refine wpAny_Call_Name_kw (ld_blt I hg hm hv ?_ hn hdb)
  exact PyProof.Rows.callWith_builtin1 (thn (ha pos pins s σ H _ I h) fun us s1 ⟨vs, H1, I1, r1, q1⟩ => hc pins s1 σ H1 vs us Q I1 r1 q1) he hpl
/-- T(e, ..), T a built-in type -/
theorem pe_callTy (hc : CallR X (.type T) r) (hg : Gl X x) (hm : X.mg x = none) (hv : bootBuiltins x = some (.type T)) (ha : PA X (e :: es) t) (hn : x ≠ "__name__" := by decide) (hdb : (x == ("__debug__" : Str)) = false := by decide)
    (he : starEach (e :: es) X.env = (false, eval e X.env) :: starEach es X.env := by rfl) (hpl : (backTo pos (starEach es X.env)).any (·.1) = false := by rfl) : PE X (.Call (.Name x p) (e :: es) [] pos) (tCB r t) := by
  intro pins s σ H Q I h
  refine wpAny_Call_Name_kw (ld_blt I hg hm hv ?_ hn hdb)
  exact PyProof.Rows.callWith_type1 (thn (ha pos pins s σ H _ I h) fun us s1 ⟨vs, H1, I1, r1, q1⟩ => hc pins s1 σ H1 vs us Q I1 r1 q1) he hpl
/-- T() -/
theorem pe_callTy0 (hc : CallR X (.type T) r) (hg : Gl X x) (hm : X.mg x = none) (hv : bootBuiltins x = some (.type T)) (hn : x ≠ "__name__" := by decide) (hdb : (x == ("__debug__" : Str)) = false := by decide) :
    PE X (.Call (.Name x p) [] [] pos) (tCB r tNil) := by
  intro pins s σ H Q I h
  refine wpAny_Call_Name_kw (ld_blt I hg hm hv ?_ hn hdb)
  exact PyProof.Rows.callWith_type0 (hc pins s σ H [] [] Q I .nil h)
end
end L2

namespace HT
open PySem PyProof.Rows

/-- t < u of tuples of ints -/
def lexLt : List Int → List Int → Bool
  | [], [] => false
  | [], _ :: _ => true
  | _ :: _, [] => false
  | x :: xs, y :: ys => if x = y then lexLt xs ys else decide (x < y)
theorem lexLt_cons (x y : Int) (xs ys : List Int) : lexLt (x :: xs) (y :: ys) = if x = y then lexLt xs ys else decide (x < y) := rfl
theorem lexLt_nil_nil : lexLt [] [] = false := rfl
theorem lexLt_nil_cons (y : Int) (ys : List Int) : lexLt [] (y :: ys) = true := rfl
theorem lexLt_cons_nil (x : Int) (xs : List Int) : lexLt (x :: xs) [] = false := rfl

theorem eqAt_int (A : Around) (s : Shared) (a : Int) (t : Tok) (c : Int) (u : Tok) : ∃ e, SeqAt.EqAt A s (.int a t) (.int c u) e ∧ (e = true ↔ a = c) :=
  ⟨(a == c), SeqAt.EqAt.int_int a t c u, by simp⟩
theorem rcLt_int (A : Around) (s : Shared) (a : Int) (t : Tok) (c : Int) (u : Tok) (prog : Program) (w : World) (E : Value → Shared → Prop) (Q : Value → Shared → Prop) (h : Q (.bool (decide (a < c))) s) :
    wpAny (model prog w) A (richCompare .Lt (.int a t) (.int c u)) Q E s :=
  (PyProof.Rows.lt_int h : wpAny (model prog w) A (compareOp .Lt (.int a t) (.int c u)) Q E s)

section
open PySem.SeqAt
open PySem.AutoSeq1 (wpAny_loadPart')
open PySem.MeetsSeq PySem.MeetsSeq2 PySem.MeetsSeq3

theorem tuple_lt_ints (l b : Addr) (items items2 : Array Value) (n n2 : Nat) (dd dd2 : Option Addr) (sl sl2 : Array (Option Value)) (ns ms : List Int) (hi : IntsAre items.toList ns) (hj : IntsAre items2.toList ms) :
    Meets (Builtin.«tuple.__lt__» ⟨[.ref l, .ref b], []⟩)
      (fun _ R s => s.heap.get? l = some { cls := .type "tuple", dict := dd, data := .seq items n, slots := sl } ∧ s.heap.get? b = some { cls := .type "tuple", dict := dd2, data := .seq items2 n2, slots := sl2 } ∧
        R (.ok (.ret (.bool (lexLt ns ms)))) s) :=
  .of_wp fun prog w A R s h => by
    obtain ⟨hp, g, d, tk, os⟩ := s; obtain ⟨hl, hb, h⟩ := h
    have f2 := AutoSeq1.sub_tuple_tuple
    have z1 : items.size = ns.length := by rw [← hi.length]; simp
    have z2 : items2.size = ms.length := by rw [← hj.length]; simp
    wp_walk using wpAny_loadPart' hl, wpAny_loadPart' hb, wpAny_forIn_list _ (fun rest b s' => b.1 = none ∧ s' = ⟨hp, g, d, tk, os⟩ ∧ ∃ (vs ws : List Value) (ns' ms' : List Int), rest = vs.zip ws ∧
      IntsAre vs ns' ∧ IntsAre ws ms' ∧ ns'.length + items2.size = ms'.length + items.size ∧ R (.ok (.ret (.bool (lexLt ns' ms')))) ⟨hp, g, d, tk, os⟩) _
    case turn =>
      rintro ⟨y, x⟩ rest b s' ⟨hb', rfl, vs, ws, ns', ms', hz, hvi, hwi, hlen, hR⟩
      cases hvi with
      | nil => rw [List.zip_nil_left] at hz; cases hz
      | cons a t hvi' =>
        cases hwi with
        | nil => rw [List.zip_nil_right] at hz; cases hz
        | cons c u hwi' =>
          rw [List.zip_cons_cons] at hz
          injection hz with hyx hrest
          injection hyx with hy hx
          subst hy hx
          rw [lexLt_cons] at hR
          simp only [List.length_cons] at hlen
          obtain ⟨e, he, hiff⟩ := eqAt_int A.in1 ⟨hp, g, d, tk, os⟩ a t c u
          refine wpAny_bind (he prog w _ _ ?_)
          cases e with
          | true =>
            rw [if_pos (hiff.mp rfl)] at hR
            wp_walk
            exact ⟨rfl, rfl, _, _, _, _, hrest, hvi', hwi', by omega, hR⟩
          | false =>
            rw [if_neg (fun q => absurd (hiff.mpr q) Bool.false_ne_true)] at hR
            have hri := rcLt_int A.in1 ⟨hp, g, d, tk, os⟩ a t c u prog w
            wp_walk using hri
            exact ⟨_, rfl, by simpa using hR⟩
    case fin =>
      rintro ⟨b1, b2⟩ s' ⟨hb', rfl, vs, ws, ns', ms', hz, hvi, hwi, hlen, hR⟩
      simp only at hb'
      subst hb'
      have hv : lexLt ns' ms' = decide (items.size < items2.size) := by
        cases hvi with
        | nil =>
          cases hwi with
          | nil =>
            simp only [List.length_nil] at hlen
            rw [lexLt_nil_nil]
            exact (decide_eq_false (by omega)).symm
          | cons c u hw =>
            simp only [List.length_nil, List.length_cons] at hlen
            rw [lexLt_nil_cons]
            exact (decide_eq_true (by omega)).symm
        | cons a t hv =>
          cases hwi with
          | nil =>
            simp only [List.length_nil, List.length_cons] at hlen
            rw [lexLt_cons_nil]
            exact (decide_eq_false (by omega)).symm
          | cons c u hw =>
            rw [List.zip_cons_cons] at hz
            cases hz
      rw [hv] at hR
      wp_walk
      exact ⟨_, rfl, by simpa [Builtin.Tuple.tupleCompareSizes] using hR⟩
    case h =>
      exact ⟨rfl, rfl, items.toList, items2.toList, ns, ms, rfl, hi, hj, by omega, h⟩
end

section
variable {prog : Program} {w : World} {A : Around} {E : Value → Shared → Prop} {s : Shared}

theorem lt_tupInts {l b : Addr} {items items2 : Array Value} {ns ms : List Int} {Q : Value → Shared → Prop} (hl : IsTup s.heap l items) (hb : IsTup s.heap b items2) (hi : IntsAre items.toList ns) (hj : IntsAre items2.toList ms)
    (hu : A.units < cLine) (h : Q (.bool (lexLt ns ms)) s) : wpAny (model prog w) A (compareOp .Lt (.ref l) (.ref b)) Q E s := by
  obtain ⟨⟨cls, dd, data, sl⟩, ho, hc, n, hd⟩ := id hl
  obtain ⟨⟨cls2, dd2, data2, sl2⟩, ho2, hc2, n2, hd2⟩ := id hb
  simp only at hc hd hc2 hd2
  subst hc hd hc2 hd2
  exact richCompare_meets_room (op := .Lt) ⟨_, ho, rfl⟩ ⟨_, ho2, rfl⟩ PySem.F.slot_tuple_lt PySem.F.entry_tuple_lt (PySem.F.args_tuple_lt_2 _ _) (tuple_lt_ints l b items items2 n n2 dd dd2 sl sl2 ns ms hi hj)
    ⟨ho, ho2, show Value.bool (lexLt ns ms) ≠ Value.notImplemented ∧ Q (.bool (lexLt ns ms)) s from ⟨(fun x => nomatch x), h⟩⟩ hu

/-- t + u, t not empty -/
theorem cat_tup {t b : Addr} {vs ws : List Value} {Q : Value → Shared → Prop} (ht : IsTup s.heap t vs.toArray) (hb : IsTup s.heap b ws.toArray) (hv : vs ≠ [])
    (h1 : ws = [] → Q (.ref t) s) (h2 : ws ≠ [] → Q (.ref s.heap.objs.size) { s with heap := s.heap.push { cls := .type "tuple", data := .seq (vs ++ ws).toArray } })
    (hsz : vs.length + ws.length ≤ sizeLine) : wpAny (model prog w) A (binaryOp .Add (.ref t) (.ref b)) Q E s := by
  obtain ⟨⟨cls, dd, data, sl⟩, ho, hc, n, hd⟩ := id ht
  obtain ⟨⟨cls2, dd2, data2, sl2⟩, ho2, hc2, n2, hd2⟩ := id hb
  simp only at hc hd hc2 hd2
  subst hc hd hc2 hd2
  have e : vs.toArray ++ ws.toArray = (vs ++ ws).toArray := by simp
  by_cases hw : ws = []
  · exact concat_meets ⟨_, ho, rfl⟩ ⟨_, ho2, rfl⟩ noFill_tuple_add seq_tuple_add PySem.F.slot_tuple_add PySem.F.entry_tuple_add (PySem.F.args_tuple_add_2 _ _)
      (tuple_addW1 t b vs.toArray ws.toArray n n2 dd dd2 sl sl2 (by simpa using hv) (by simp [hw])) ⟨ho, ho2, h1 hw⟩
  · refine concat_meets ⟨_, ho, rfl⟩ ⟨_, ho2, rfl⟩ noFill_tuple_add seq_tuple_add PySem.F.slot_tuple_add PySem.F.entry_tuple_add (PySem.F.args_tuple_add_2 _ _)
      (tuple_addW2 t b vs.toArray ws.toArray n n2 dd dd2 sl sl2 (by simpa using hv) (by simpa using hw) (by rw [List.size_toArray, List.size_toArray]; exact hsz)) ⟨ho, ho2, ?_⟩
    rw [e]
    exact h2 hw

/-! ### t[a:b], not the whole -/
/-- a slice's bound as a place among n (d where it is left out) -/
def sIx (n d : Nat) : Option Int → Nat
  | none => d
  | some v => if v < 0 then (v + (n : Int)).toNat else min v.toNat n
theorem sIx_none (n d : Nat) : sIx n d none = d := rfl
theorem sIx_nat (n d k : Nat) : sIx n d (some (k : Int)) = min k n := by
  show (if (k : Int) < 0 then ((k : Int) + (n : Int)).toNat else min (k : Int).toNat n) = min k n
  rw [if_neg (by omega), Int.toNat_natCast]
theorem sIx_le (n d : Nat) (hd : d ≤ n) (o : Option Int) : sIx n d o ≤ n := by
  cases o with
  | none => exact hd
  | some v =>
    show (if v < 0 then (v + (n : Int)).toNat else min v.toNat n) ≤ n
    by_cases hv : v < 0
    · rw [if_pos hv]; omega
    · rw [if_neg hv]; exact Nat.min_le_right _ _
theorem clip_eq (v : Int) (n d : Nat) : (if v < 0 then max (v + (n : Int)) 0 else min v (n : Int)) = ((sIx n d (some v) : Nat) : Int) := by
  show (if v < 0 then max (v + (n : Int)) 0 else min v (n : Int)) = (((if v < 0 then (v + (n : Int)).toNat else min v.toNat n) : Nat) : Int)
  by_cases hv : v < 0
  · simp only [if_pos hv]; omega
  · simp only [if_neg hv]; omega
theorem adjust_gen (lo hi : Option Int) (n : Nat) : Builtin.Slice.sliceAdjust lo hi 1 (n : Int) = (((sIx n 0 lo : Nat) : Int), ((sIx n n hi : Nat) : Int)) := by
  have h1 : ¬ ((1 : Int) < 0) := by omega
  unfold Builtin.Slice.sliceAdjust
  simp only [h1, if_false]
  refine Prod.ext ?_ ?_
  · cases lo with
    | none => rfl
    | some v => exact clip_eq v n 0
  · cases hi with
    | none => rfl
    | some v => exact clip_eq v n n
theorem places_gen (i j : Nat) : Builtin.Slice.slicePlaces (i : Int) (j : Int) 1 = j - i := by
  unfold Builtin.Slice.slicePlaces
  have h1 : (1 : Int) > 0 := by omega
  simp only [h1, if_true, Int.ediv_one]
  split <;> omega
theorem slicePart_ {v : Value} {o : Option Int} {Q : Option Int → Shared → Prop} (p : IsPart v o) (h : Q o s) : wpAny (model prog w) A (Builtin.Slice.slicePartIndex v) Q E s := by
  cases p with
  | none => exact slicePart_none h
  | int i t => exact slicePart_int h
theorem sliceApplied_gen {sl : Addr} {vl vu : Value} {lo hi : Option Int} {n : Nat} {Q : Int × Int × Nat → Shared → Prop} (hs : s.heap.IsSliceOf sl vl vu .none) (pl : IsPart vl lo) (pu : IsPart vu hi)
    (h : Q (((sIx n 0 lo : Nat) : Int), 1, sIx n n hi - sIx n 0 lo) s) : wpAny (model prog w) A (Builtin.Slice.sliceApplied (.ref sl) (pure (n : Int))) Q E s := by
  obtain ⟨os, hos, hcs, hds⟩ := id hs
  unfold Builtin.Slice.sliceApplied Builtin.Slice.sliceFields
  refine wpAny_bind (wpAny_bind (wpAny_field hos hds (x := vl) rfl (wpAny_bind (wpAny_field hos hds (x := vu) rfl (wpAny_bind (wpAny_field hos hds (x := .none) rfl (wpAny_pure ?_)))))))
  refine wpAny_bind (slicePart_none ?_)
  show wpAny _ _ (if ((1 : Int) == 0) = true then _ else _) _ _ s
  rw [if_neg (by decide)]
  refine wpAny_bind (slicePart_ pl (wpAny_bind (slicePart_ pu (wpAny_bind (wpAny_pure ?_)))))
  show wpAny _ _ (match Builtin.Slice.sliceAdjust lo hi 1 (n : Int) with | (lo, hi) => pure (lo, (1 : Int), Builtin.Slice.slicePlaces lo hi 1)) _ _ s
  rw [adjust_gen lo hi n]
  show wpAny _ _ (pure (((sIx n 0 lo : Nat) : Int), (1 : Int), Builtin.Slice.slicePlaces ((sIx n 0 lo : Nat) : Int) ((sIx n n hi : Nat) : Int) 1)) _ _ s
  rw [places_gen]
  exact wpAny_pure h
theorem pick_gen (xs : Array Value) (i k : Nat) : ((List.range k).filterMap fun (m : Nat) => xs[((i : Int) + (m : Int) * 1).toNat]?).toArray = ((xs.toList.drop i).take k).toArray := by
  have e : (fun (m : Nat) => xs[((i : Int) + (m : Int) * 1).toNat]?) = fun m => xs[i + m]? := by
    funext m
    have : ((i : Int) + (m : Int) * 1).toNat = i + m := by omega
    rw [this]
  rw [e]
  have := pick_run xs i k
  rw [List.filterMap_map] at this
  have e2 : ((fun x => xs[x]?) ∘ fun x => i + x) = fun m => xs[i + m]? := rfl
  rw [e2] at this
  rw [this]

theorem getItem_tuple_cut {t sl : Addr} {items : Array Value} {vl vu : Value} {lo hi : Option Int} {Q : Value → Shared → Prop} (ht : IsTup s.heap t items) (hs : s.heap.IsSliceOf sl vl vu .none) (pl : IsPart vl lo) (pu : IsPart vu hi)
    (hw : ¬ (sIx items.size 0 lo = 0 ∧ sIx items.size items.size hi = items.size))
    (h : Q (.ref s.heap.objs.size) { s with heap := s.heap.push { cls := .type "tuple", data := .seq ((items.toList.drop (sIx items.size 0 lo)).take (sIx items.size items.size hi - sIx items.size 0 lo)).toArray } })
    (hsz : items.size ≤ sizeLine) : wpAny (model prog w) A (getItem (.ref t) (.ref sl)) Q E s := by
  have htake : sizeOk (.seq ((items.toList.drop (sIx items.size 0 lo)).take (sIx items.size items.size hi - sIx items.size 0 lo)).toArray) := by
    show ((items.toList.drop (sIx items.size 0 lo)).take (sIx items.size items.size hi - sIx items.size 0 lo)).toArray.size ≤ sizeLine
    rw [List.size_toArray, List.length_take, List.length_drop, Array.length_toList]
    omega
  have hj : sIx items.size items.size hi ≤ items.size := sIx_le _ _ (Nat.le_refl _) hi
  obtain ⟨os, hos, hcs, hds⟩ := id hs
  have hTs : s.TypeIs (.ref sl) "slice" := ⟨os, hos, hcs⟩
  unfold getItem
  try with_reducible refine wpAny_holding ?_
  first | refine wpAny_bind (wpAny_pure ?_) | skip
  refine wpAny_bind (wpAny_sequenceKey ht.typeIs (by decide) ?_)
  refine wpAny_bind (wpAny_callSpecial?_slot (name := Str.ofString "__getitem__") ht.typeIs PyProof.Rows.slot_tuple_getitem
    (wpAny_call_entry PyProof.Rows.slot_tuple_getitem ht.typeIs entry_tuple_getitem ?_ (args_tuple_getitem _ _)))
  show wpAny _ _ (Builtin.Tuple.tupleItemsOf (.ref t) >>= _) _ _ s
  refine wpAny_bind (tupleItemsOf_ ht ?_)
  refine wpAny_bind (wpAny_typeOf hTs ?_)
  rw [if_pos (by decide)]
  refine wpAny_bind (sliceApplied_gen hs pl pu ?_)
  have hno : ¬ ((((sIx items.size 0 lo : Nat) : Int) == 0 && (1 : Int) == 1 && (sIx items.size items.size hi - sIx items.size 0 lo) == items.size) = true) := by
    intro q
    rw [Bool.and_eq_true, Bool.and_eq_true] at q
    have q1 : ((sIx items.size 0 lo : Nat) : Int) = 0 := eq_of_beq q.1.1
    have q2 : sIx items.size items.size hi - sIx items.size 0 lo = items.size := eq_of_beq q.2
    exact hw ⟨by omega, by omega⟩
  show wpAny _ _ (if (((sIx items.size 0 lo : Nat) : Int) == 0 && (1 : Int) == 1 && (sIx items.size items.size hi - sIx items.size 0 lo) == items.size) = true then _ else _) _ _ s
  rw [if_neg hno, pick_gen]
  first
    | exact wpAny_bind (m := Builtin.Tuple.tupleExact _) (wpAny_newObj_type (wpAny_pure ⟨_, rfl, wpAny_pure h⟩) htake)
    | exact wpAny_bind (m := Builtin.Tuple.tupleExact _) (wpAny_newObj_type (wpAny_bind (wpAny_pure (wpAny_pure ⟨_, rfl, wpAny_pure h⟩))) htake)
    | exact wpAny_bind (wpAny_bind (m := Builtin.Tuple.tupleExact _) (wpAny_newObj_type (wpAny_pure (wpAny_pure ⟨_, rfl, wpAny_pure h⟩)) htake))
    | exact wpAny_bind (wpAny_bind (m := Builtin.Tuple.tupleExact _) (wpAny_newObj_type (wpAny_pure ⟨_, rfl, wpAny_pure h⟩) htake))
end
end HT

namespace L2
open PySem PySem.Spec PyProof.Rows

/-! ### the parts of a slice -/
abbrev TO := St → Hp → (Option Int → Hp → Prop) → Prop
/-- a slice's part (left out, or an int) -/
def PO (X : Cx) (e : Option Expr) (t : TO) : Prop :=
  ∀ (pins : List (Addr × Obj)) (s : Shared) (σ : St) (H : Hp) (Q : Option Int → Hp → Prop), Inv X pins σ H s → t σ H Q →
    wpAny (model X.prog X.w) X.A (evalPart e X.env) (fun u s' => ∃ o H', Inv X pins σ H' s' ∧ IsPart u o ∧ Q o H') X.xe s
def tNoPart : TO := fun _ H Q => Q none H
def tPart (t : TE) : TO := fun σ H Q => t σ H fun x H1 => ∃ i, x = .int i ∧ Q (some i) H1

theorem intsAre_of {ns : List Int} : ∀ {us : List Value}, Vals (ns.map V.int) us → IntsAre us ns := by
  induction ns with
  | nil => intro us r; rw [List.map_nil] at r; cases r; exact .nil
  | cons n ns ih =>
    intro us r
    rw [List.map_cons] at r
    cases r with
    | cons r1 r2 =>
      obtain ⟨t, e⟩ := r1
      subst e
      exact .cons n t (ih r2)

section
variable {X : Cx} {e : Expr} {te : TE} {lo hi : Option Expr} {tl th : TO} {pos p2 : Pos}

theorem po_none : PO X none tNoPart := by
  intro pins s σ H Q I h
  rw [evalPart_none]
  exact wpAny_pure ⟨none, H, I, .none, h⟩
theorem po_some (h : PE X e te) : PO X (some e) (tPart te) := by
  intro pins s σ H Q I hw
  rw [evalPart_some]
  refine thn (h pins s σ H _ I hw) fun u s1 ⟨x, H1, I1, r1, q1⟩ => ?_
  obtain ⟨i, rfl, q⟩ := q1
  obtain ⟨t, rfl⟩ := r1
  exact ⟨some i, H1, I1, .int i t, q⟩

/-- what a slice of a value is, by values: the slice object stands at sl -/
def SlR (X : Cx) (r : V → Option Int → Option Int → Hp → VK → Prop) : Prop :=
  ∀ (pins : List (Addr × Obj)) (s : Shared) (σ : St) (H : Hp) (x : V) (v vl vu : Value) (lo hi : Option Int) (sl : Addr) (Q : VK), Inv X pins σ H s → RelV x v → s.heap.IsSliceOf sl vl vu .none → IsPart vl lo → IsPart vu hi → r x lo hi H Q →
    ∃ T id, typeLookup (.type T) "__getitem__" = pure (some (.builtin id)) ∧ s.TypeIs v T ∧ wpAny (model X.prog X.w) X.A (getItem v (.ref sl)) (EP X pins σ Q) X.xe s
theorem SlR.or {r r' : V → Option Int → Option Int → Hp → VK → Prop} (h : SlR X r) (h' : SlR X r') : SlR X (fun x lo hi H Q => r x lo hi H Q ∨ r' x lo hi H Q) := by
  intro pins s σ H x v vl vu lo hi sl Q I rx hs pl pu q
  rcases q with q | q
  · exact h pins s σ H x v vl vu lo hi sl Q I rx hs pl pu q
  · exact h' pins s σ H x v vl vu lo hi sl Q I rx hs pl pu q
def tSl (r : V → Option Int → Option Int → Hp → VK → Prop) (te : TE) (tl th : TO) : TE := fun σ H Q => te σ H fun x H1 => tl σ H1 fun l H2 => th σ H2 fun u H3 => r x l u H3 Q
/-- a[lo:hi], any a -/
theorem pe_slice {r : V → Option Int → Option Int → Hp → VK → Prop} (hr : SlR X r) (he : PE X e te) (hl : PO X lo tl) (hu : PO X hi th) : PE X (.Subscript e (.Slice lo hi none p2) pos) (tSl r te tl th) := by
  intro pins s σ H Q I h
  refine Subscript_ (thn (he pins s σ H _ I h) fun v s1 ⟨x, H1, I1, r1, q1⟩ => ?_)
  refine wpAny_Slice (thn (hl pins s1 σ H1 _ I1 q1) fun vl s2 ⟨l, H2, I2, pl, q2⟩ => thn (hu pins s2 σ H2 _ I2 q2) fun vu s3 ⟨u, H3, I3, pu, q3⟩ => ?_)
  rw [evalPart_none]
  refine wpAny_pure ?_
  have I4 : Inv X pins σ H3 { s3 with heap := s3.heap.push { cls := .type "slice", data := .fields #[vl, vu, .none] } } := I3.kept (t' := s3.toks) fun b ob q => Heap.get?_push_of_some _ q
  obtain ⟨T, id, hT, ht, hg⟩ := hr pins { s3 with heap := s3.heap.push { cls := .type "slice", data := .fields #[vl, vu, .none] } } σ H3 x v vl vu l u s3.heap.objs.size Q I4 r1 (Heap.IsSliceOf.new ..) pl pu q3
  show wpAny (model X.prog X.w) X.A (subscriptTail e (.Slice lo hi none p2) v (.ref s3.heap.objs.size)) (EP X pins σ Q) X.xe { s3 with heap := s3.heap.push { cls := .type "slice", data := .fields #[vl, vu, .none] } }
  exact tail_any (ops := [.ref s3.heap.objs.size, v]) ht hT hg (by with_unfolding_all rfl)

/-- the items of xs[lo:hi] -/
def cutV (xs : List V) (lo hi : Option Int) : List V := (xs.drop (HT.sIx xs.length 0 lo)).take (HT.sIx xs.length xs.length hi - HT.sIx xs.length 0 lo)
theorem cutV_length (xs : List V) (lo hi : Option Int) : (cutV xs lo hi).length ≤ xs.length := by
  unfold cutV
  rw [List.length_take, List.length_drop]
  omega
/-- t[lo:hi], not the whole of it (the whole would be t itself) -/
def rSlT (K : PySem.W.Frag) : V → Option Int → Option Int → Hp → VK → Prop := fun x lo hi H Q => ∃ a xs, x = .ref a ∧ SqT K H a xs ∧
  ¬ (HT.sIx xs.length 0 lo = 0 ∧ HT.sIx xs.length xs.length hi = xs.length) ∧ ∀ p, H p = none → Q (.ref p) (upd H p (.tup (cutV xs lo hi)))
theorem sl_tup : SlR X (rSlT X.K) := by
  intro pins s σ H x v vl vu lo hi sl Q I rx hs pl pu h
  obtain ⟨a, xs, rfl, hx, hw, q⟩ := h
  cases rx
  obtain ⟨its, r, ht, hz⟩ := I.tuple hx
  have hlen : its.toArray.size = xs.length := by rw [List.size_toArray]; exact r.length.symm
  refine ⟨"tuple", _, PyProof.Rows.slot_tuple_getitem.lookup, ht.typeIs, ?_⟩
  refine HT.getItem_tuple_cut ht hs pl pu (by rw [hlen]; exact hw) ?_ (by rw [hlen]; exact hz)
  rw [hlen]
  refine ⟨.ref s.heap.objs.size, _, I.laid (t' := s.toks) (o := .tup (cutV xs lo hi)) (fun b ob q => Heap.get?_push_of_some _ q) (Nat.le_refl _) ?_, rfl, q _ (I.hok.fresh (Nat.le_refl _))⟩
  exact ⟨Nat.le_trans (cutV_length xs lo hi) hz, _, (r.drop (HT.sIx xs.length 0 lo)).take (HT.sIx xs.length xs.length hi - HT.sIx xs.length 0 lo), IsTup.new _ _⟩

/-! ### t < u, t + u -/
def rLtT (K : PySem.W.Frag) : R2 := fun x y H Q => ∃ a b ns ms, x = .ref a ∧ y = .ref b ∧ SqT K H a (ns.map V.int) ∧ SqT K H b (ms.map V.int) ∧ Q (.bl (HT.lexLt ns ms)) H
theorem op_ltT (hu : X.A.units < cLine) : OpR X (compareOp .Lt) (rLtT X.K) := by
  intro pins s σ H x y v u Q I rx ry h
  obtain ⟨a, b, ns, ms, rfl, rfl, ha, hb, q⟩ := h
  cases rx
  cases ry
  obtain ⟨its, r1, p1, _⟩ := I.tuple ha
  obtain ⟨its2, r2, p2, _⟩ := I.tuple hb
  have i1 : IntsAre its.toArray.toList ns := intsAre_of r1
  have i2 : IntsAre its2.toArray.toList ms := intsAre_of r2
  exact HT.lt_tupInts p1 p2 i1 i2 hu ⟨.bl (HT.lexLt ns ms), H, I, rfl, q⟩
/-- t + u, t not empty: u empty gives t itself -/
def rCatT (K : PySem.W.Frag) : R2 := fun x y H Q => ∃ a b xs ys, x = .ref a ∧ y = .ref b ∧ SqT K H a xs ∧ SqT K H b ys ∧ xs ≠ [] ∧ xs.length + ys.length ≤ sizeLine ∧
  (ys = [] → Q (.ref a) H) ∧ (ys ≠ [] → ∀ p, H p = none → Q (.ref p) (upd H p (.tup (xs ++ ys))))
theorem Vals.nil_iff {xs : List V} {us : List Value} (r : Vals xs us) : us = [] ↔ xs = [] := by
  cases r with
  | nil => simp
  | cons _ _ => simp
theorem op_catT : OpR X (binaryOp .Add) (rCatT X.K) := by
  intro pins s σ H x y v u Q I rx ry h
  obtain ⟨a, b, xs, ys, rfl, rfl, ha, hb, hx, hz, q1, q2⟩ := h
  cases rx
  cases ry
  obtain ⟨its, r1, p1, _⟩ := I.tuple ha
  obtain ⟨its2, r2, p2, _⟩ := I.tuple hb
  refine HT.cat_tup p1 p2 (fun z => hx (r1.nil_iff.mp z)) (fun z => ⟨.ref a, H, I, rfl, q1 (r2.nil_iff.mp z)⟩) (fun z => ?_) (by rw [← r1.length, ← r2.length]; exact hz)
  refine ⟨.ref s.heap.objs.size, _, I.laid (t' := s.toks) (o := .tup (xs ++ ys)) (fun b ob q => Heap.get?_push_of_some _ q) (Nat.le_refl _) ?_, rfl, q2 (fun w => z (r2.nil_iff.mpr w)) _ (I.hok.fresh (Nat.le_refl _))⟩
  exact ⟨by rw [List.length_append]; exact hz, _, r1.append r2, IsTup.new _ _⟩
/-- tuple(t) -/
theorem call_tupleT : CallR X (.type "tuple") (fun xs H Q => ∃ a ys, xs = [.ref a] ∧ SqT X.K H a ys ∧ Q (.ref a) H) := by
  intro pins s σ H xs us Q I r h
  obtain ⟨a, ys, rfl, ha, q⟩ := h
  obtain ⟨u, rfl, ru⟩ := vals1 r
  cases ru
  obtain ⟨its, _, p1, _⟩ := I.tuple ha
  exact call_tuple_same (items := its.toArray) p1 ⟨.ref a, H, I, rfl, q⟩
end
end L2

namespace L2
open PySem PySem.Spec PyProof.Rows

/-! ### places -/
/-- the place that an index of any sign means -/
def ixN (n : Nat) (i : Int) : Option Nat := if 0 ≤ i then (if i < n then some i.toNat else none) else if -(n : Int) ≤ i then some (i + n).toNat else none
def atI {α : Type} (xs : List α) (i : Int) : Option α := (ixN xs.length i).bind fun j => xs[j]?
theorem ixN_seq {n : Nat} {i : Int} {j : Nat} (h : ixN n i = some j) : seqIndex? i n = some j ∧ j < n ∧ -(n : Int) ≤ i ∧ i < n := by
  unfold ixN at h
  by_cases h0 : 0 ≤ i
  · rw [if_pos h0] at h
    by_cases h1 : i < n
    · rw [if_pos h1] at h
      have e : i.toNat = j := Option.some.inj h
      exact ⟨by rw [seqIndex_of h0 h1, e], by omega, by omega, h1⟩
    · rw [if_neg h1] at h; cases h
  · rw [if_neg h0] at h
    by_cases h1 : -(n : Int) ≤ i
    · rw [if_pos h1] at h
      have e : (i + n).toNat = j := Option.some.inj h
      exact ⟨by rw [seqIndex_neg (by omega) h1, e], by omega, h1, by omega⟩
    · rw [if_neg h1] at h; cases h
theorem atI_get {α : Type} {xs : List α} {i : Int} {v : α} (h : atI xs i = some v) : ∃ j, seqIndex? i xs.length = some j ∧ xs[j]? = some v ∧ j < xs.length ∧ -(xs.length : Int) ≤ i ∧ i < xs.length := by
  unfold atI at h
  cases e : ixN xs.length i with
  | none => rw [e] at h; cases h
  | some j =>
    rw [e] at h
    obtain ⟨h1, h2, h3, h4⟩ := ixN_seq e
    exact ⟨j, h1, h, h2, h3, h4⟩
theorem atI_nat {α : Type} {xs : List α} {j : Nat} {v : α} (h : xs[j]? = some v) : atI xs (j : Int) = some v := by
  have hj : j < xs.length := (List.getElem?_eq_some_iff.mp h).1
  have e : ixN xs.length (j : Int) = some j := by
    unfold ixN
    rw [if_pos (by omega), if_pos (by omega)]; simp
  unfold atI; rw [e]; exact h
theorem atI_last {α : Type} (xs : List α) (v : α) : atI (xs ++ [v]) (-1) = some v := by
  have hl : (xs ++ [v]).length = xs.length + 1 := by simp
  have e : ixN (xs ++ [v]).length (-1) = some xs.length := by
    unfold ixN
    rw [hl, if_neg (by decide), if_pos (by omega)]
    congr 1
    omega
  unfold atI
  rw [e]
  show (xs ++ [v])[xs.length]? = some v
  simp

/-! ### what may be subscripted -/
/-- what stands as an index of a plain subscript -/
def PlainIx (b : Expr) : Prop := ∀ o i, subscripted b false o i = operate [o, i] (getItem o i)
/-- a subscript by values -/
def IxR (X : Cx) (r : R2) : Prop :=
  ∀ (value slice : Expr) (pins : List (Addr × Obj)) (s : Shared) (σ : St) (H : Hp) (x y : V) (v u : Value) (Q : VK), Inv X pins σ H s → RelV x v → RelV y u → r x y H Q →
    subscripted slice false v u = operate [v, u] (getItem v u) → wpAny (model X.prog X.w) X.A (subscriptTail value slice v u) (EP X pins σ Q) X.xe s
/-- a call of a builtin's method by values: the receiver, the arguments -/
def MtR (X : Cx) (id : String) (r : V → List V → Hp → VK → Prop) : Prop :=
  ∀ (pins : List (Addr × Obj)) (s : Shared) (σ : St) (H : Hp) (x : V) (xs : List V) (v : Value) (us : List Value) (Q : VK), Inv X pins σ H s → RelV x v → Vals xs us → r x xs H Q →
    wpAny (model X.prog X.w) X.A (call (.builtin id) (v :: us)) (EP X pins σ Q) X.xe s
section
variable {X : Cx} {a b : Expr} {ta tb : TE} {pos : Pos}
theorem IxR.or {r r' : R2} (h : IxR X r) (h' : IxR X r') : IxR X (fun x y H Q => r x y H Q ∨ r' x y H Q) := by
  intro value slice pins s σ H x y v u Q I rx ry q hs
  rcases q with q | q
  · exact h value slice pins s σ H x y v u Q I rx ry q hs
  · exact h' value slice pins s σ H x y v u Q I rx ry q hs
theorem MtR.or {id : String} {r r' : V → List V → Hp → VK → Prop} (h : MtR X id r) (h' : MtR X id r') : MtR X id (fun x xs H Q => r x xs H Q ∨ r' x xs H Q) := by
  intro pins s σ H x xs v us Q I rx rs q
  rcases q with q | q
  · exact h pins s σ H x xs v us Q I rx rs q
  · exact h' pins s σ H x xs v us Q I rx rs q
/-- a[b] -/
theorem pe_ix {r : R2} (hr : IxR X r) (ha : PE X a ta) (hb : PE X b tb) (hs : PlainIx b) : PE X (.Subscript a b pos) (tOp r ta tb) := by
  intro pins s σ H Q I h
  exact Subscript_ (binT ha hb I h fun v u s2 x y H2 I2 rx ry q => hr a b pins s2 σ H2 x y v u Q I2 rx ry q (hs _ _))

def rIxL (K : PySem.W.Frag) : R2 := fun x y H Q => ∃ p xs i v, x = .ref p ∧ y = .int i ∧ SqL K H p xs ∧ atI xs i = some v ∧ Q v H
def rIxT (K : PySem.W.Frag) : R2 := fun x y H Q => ∃ p xs i v, x = .ref p ∧ y = .int i ∧ SqT K H p xs ∧ atI xs i = some v ∧ Q v H
def rIxS : R2 := fun x y H Q => ∃ z i c, x = .str z ∧ y = .int i ∧ z.length ≤ sizeLine ∧ atI z.cps.toList i = some c ∧ Q (.str ⟨#[c]⟩) H
theorem ix_list : IxR X (rIxL X.K) := by
  intro value slice pins s σ H x y v u Q I rx ry h hs
  obtain ⟨p, xs, i, z, rfl, rfl, hq, he, q⟩ := h
  cases rx
  obtain ⟨t, rfl⟩ := ry
  obtain ⟨its, r, pl, hz⟩ := I.list hq
  obtain ⟨j, h1, h2, h3, h4, h5⟩ := atI_get he
  obtain ⟨w, ew, rw'⟩ := r.get h2
  have hl := r.length
  have hn := line63
  have fin : EP X pins σ Q w s := ⟨z, H, I, rw', q⟩
  by_cases h0 : 0 ≤ i
  · have hj : i.toNat = j := by
      rw [seqIndex_of h0 h5] at h1
      exact Option.some.inj h1
    exact item_listR pl.isList h0 (by omega) (by rw [hj]; simpa using ew) fin hs
  · have hj : (i + (its.toArray.size : Int)).toNat = j := by
      rw [seqIndex_neg (by omega) h4] at h1
      rw [List.size_toArray, ← hl]
      exact Option.some.inj h1
    exact subscriptTail_builtinR (x := w) pl.isList.typeIs slot_list_getitem.lookup
      (wpAny_getItem_list_neg (Q := fun r s' => r = w ∧ EP X pins σ Q r s') pl.isList (by omega) (by rw [List.size_toArray] <;> omega) (by omega) (by rw [hj]; simpa using ew) ⟨rfl, fin⟩) hs
theorem ix_tup : IxR X (rIxT X.K) := by
  intro value slice pins s σ H x y v u Q I rx ry h hs
  obtain ⟨p, xs, i, z, rfl, rfl, hq, he, q⟩ := h
  cases rx
  obtain ⟨t, rfl⟩ := ry
  obtain ⟨its, r, pl, hz⟩ := I.tuple hq
  obtain ⟨j, h1, h2, h3, h4, h5⟩ := atI_get he
  obtain ⟨w, ew, rw'⟩ := r.get h2
  have hl := r.length
  have hn := line63
  have fin : EP X pins σ Q w s := ⟨z, H, I, rw', q⟩
  exact subscriptTail_builtinR (x := w) pl.typeIs slot_tuple_getitem.lookup
    (getItem_tuple (j := j) (Q := fun r s' => r = w ∧ EP X pins σ Q r s') pl (by omega) (by omega) (by rw [List.size_toArray, ← hl]; exact h1) (by simpa using ew) ⟨rfl, fin⟩) hs
theorem ix_str : IxR X rIxS := by
  intro value slice pins s σ H x y v u Q I rx ry h hs
  obtain ⟨z, i, c, rfl, rfl, hz, he, q⟩ := h
  obtain ⟨t, rfl⟩ := rx
  obtain ⟨t', rfl⟩ := ry
  obtain ⟨j, h1, h2, h3, h4, h5⟩ := atI_get he
  have hl : z.cps.toList.length = z.length := by simp [Str.length]
  rw [hl] at h1 h4 h5
  have hn := line63
  exact tail_any (typeIs_str s z t) slot_str_getitem.lookup (getItem_str (c := c) (by
    have e1 : decide (i < -(2 ^ 63 : Int)) = false := decide_eq_false (by omega)
    have e2 : decide (i ≥ 2 ^ 63) = false := decide_eq_false (by omega)
    rw [e1, e2, Bool.or_false]) (by rw [h1]; simpa using h2) ⟨.str ⟨#[c]⟩, H, I.tok _, ⟨_, rfl⟩, q⟩) hs
/-- list, tuple or str -/
def rIx (K : PySem.W.Frag) : R2 := fun x y H Q => rIxL K x y H Q ∨ rIxT K x y H Q ∨ rIxS x y H Q
theorem ix_seq : IxR X (rIx X.K) := ix_list.or (ix_tup.or ix_str)

/-! ### xs[i] = v, any sign -/
/-- the list's object behind a store -/
theorem mapSeq_set (its : List Value) (n j : Nat) (u : Value) : Obj.mapSeq (·.setIfInBounds j u) { cls := .type "list", data := .seq its.toArray n } = { cls := .type "list", data := .seq (its.set j u).toArray n } := by
  simp [Obj.mapSeq]
theorem Inv.lst {pins : List (Addr × Obj)} {σ : St} {H : Hp} {s : Shared} {p : Addr} {xs : List V} (I : Inv X pins σ H s) (h : H p = some (.lst xs)) :
    ∃ (its : List Value) (n : Nat), Vals xs its ∧ s.heap.get? p = some { cls := .type "list", data := .seq its.toArray n } ∧ xs.length ≤ sizeLine := by
  obtain ⟨z, its, n, r, e⟩ := I.hok p _ h
  exact ⟨its, n, r, e, z⟩
/-- the list at p is written by an update of its object -/
theorem Inv.lstUpd {pins : List (Addr × Obj)} {σ : St} {H : Hp} {s : Shared} {p : Addr} {xs ys : List V} {its its' : List Value} {n n' : Nat} {f : Obj → Obj} (I : Inv X pins σ H s) (h : H p = some (.lst xs))
    (ho : s.heap.get? p = some { cls := .type "list", data := .seq its.toArray n }) (hf : f { cls := .type "list", data := .seq its.toArray n } = { cls := .type "list", data := .seq its'.toArray n' }) (r : Vals ys its') (hz : ys.length ≤ sizeLine) (t : Nat) :
    Inv X pins σ (upd H p (.lst ys)) { s with heap := s.heap.update p f, toks := t } := by
  have e : (s.heap.update p f).get? p = some { cls := .type "list", data := .seq its'.toArray n' } := by
    rw [Heap.get?_update_self f ho (by rw [hf] <;> rfl), hf]
  refine I.write (x := p) (e := p) (by rw [h]; trivial) (.inl rfl) (fun b u hb q => (Heap.get?_update_other _ _ (Ne.symm hb)).trans q) ⟨_, e⟩ ?_
  exact ⟨hz, its', n', r, e⟩
def rSetL : V → V → V → Hp → (Hp → Prop) → Prop := fun o i v H Q => ∃ p xs k j, o = .ref p ∧ i = .int k ∧ H p = some (.lst xs) ∧ ixN xs.length k = some j ∧ Q (upd H p (.lst (xs.set j v)))
theorem set_list : PSet X rSetL := by
  intro pins s σ H o i v ov iv u Q I ro ri rv h
  obtain ⟨p, xs, k, j, rfl, rfl, hp, hj, q⟩ := h
  cases ro
  obtain ⟨t, rfl⟩ := ri
  obtain ⟨its, n, r, ho, hz⟩ := I.lst hp
  obtain ⟨h1, h2, h3, h4⟩ := ixN_seq hj
  have hl := r.length
  have hn := line63
  have I' : Inv X pins σ (upd H p (.lst (xs.set j v))) { s with heap := s.heap.update p (Obj.mapSeq (·.setIfInBounds j u)) } :=
    I.lstUpd hp ho (mapSeq_set its n j u) (r.set rv j) (by rw [List.length_set]; exact hz) s.toks
  by_cases h0 : 0 ≤ k
  · have hk : k.toNat = j := by
      rw [seqIndex_of h0 h4] at h1
      exact Option.some.inj h1
    exact PySem.W.ki_setAt ho h0 (by omega) (by rw [List.size_toArray, ← hl]; exact h4) (by rw [hk]; exact ⟨_, I', q⟩)
  · have hk : (k + (its.toArray.size : Int)).toNat = j := by
      rw [seqIndex_neg (by omega) h3] at h1
      rw [List.size_toArray, ← hl]
      exact Option.some.inj h1
    exact PySem.W.ki_setBack ho (by omega) (by rw [List.size_toArray, ← hl]; exact h3) (by omega) (by rw [hk]; exact ⟨_, I', q⟩)

/-! ### slices -/
theorem slice_bounds (lo hi : Option Int) (n : Nat) : (sliceBounds lo hi none n).1 = ((HT.sIx n 0 lo : Nat) : Int) ∧ (sliceBounds lo hi none n).2.1 = ((HT.sIx n n hi : Nat) : Int) ∧ (sliceBounds lo hi none n).2.2 = 1 := by
  refine ⟨?_, ?_, rfl⟩
  · cases lo with
    | none => simp [sliceBounds, HT.sIx]
    | some i =>
      simp only [sliceBounds, HT.sIx, Option.getD_none, show (1 : Int) > 0 by decide, if_true]
      by_cases h : i < 0
      · simp only [h, if_true] <;> omega
      · simp only [h, if_false] <;> omega
  · cases hi with
    | none => simp [sliceBounds, HT.sIx]
    | some i =>
      simp only [sliceBounds, HT.sIx, Option.getD_none, show (1 : Int) > 0 by decide, if_true]
      by_cases h : i < 0
      · simp only [h, if_true] <;> omega
      · simp only [h, if_false] <;> omega
theorem slicePick_cut (its : List Value) (lo hi : Option Int) : slicePick its.toArray lo hi none = ((its.drop (HT.sIx its.length 0 lo)).take (HT.sIx its.length its.length hi - HT.sIx its.length 0 lo)).toArray := by
  obtain ⟨h1, h2, h3⟩ := slice_bounds lo hi its.toArray.size
  unfold slicePick
  rw [h1, h2, h3]
  simp only [sliceRange_one, pick_run, List.size_toArray] <;> rfl
/-- xs[lo:hi] of a list: a new list -/
def rSlL (K : PySem.W.Frag) : V → Option Int → Option Int → Hp → VK → Prop := fun x lo hi H Q => ∃ a xs, x = .ref a ∧ SqL K H a xs ∧ ∀ p, H p = none → Q (.ref p) (upd H p (.lst (cutV xs lo hi)))
theorem sl_list : SlR X (rSlL X.K) := by
  intro pins s σ H x v vl vu lo hi sl Q I rx hs pl pu h
  obtain ⟨a, xs, rfl, hx, q⟩ := h
  cases rx
  obtain ⟨its, r, ht, hz⟩ := I.list hx
  have hlen := r.length
  refine ⟨"list", _, slot_list_getitem.lookup, ht.isList.typeIs, ?_⟩
  refine wpAny_getItem_list_slice ht.isList hs pl pu .none (by simp) ?_ (by rw [List.size_toArray] <;> omega)
  rw [slicePick_cut, ← hlen]
  refine ⟨.ref s.heap.objs.size, _, I.laid (t' := s.toks) (o := .lst (cutV xs lo hi)) (fun b ob q => Heap.get?_push_of_some _ q) (Nat.le_refl _) ?_, rfl, q _ (I.hok.fresh (Nat.le_refl _))⟩
  exact ⟨Nat.le_trans (cutV_length xs lo hi) hz, _, 0, (r.drop (HT.sIx xs.length 0 lo)).take (HT.sIx xs.length xs.length hi - HT.sIx xs.length 0 lo), Heap.get?_push_size _ rfl⟩

/-! ### in, not in: flat items -/
def flatV : V → Bool
  | .non => true
  | .bl _ => true
  | .int _ => true
  | .str _ => true
  | _ => false
/-- == of flat values -/
def eqV : V → V → Bool
  | .non, .non => true
  | .bl a, .bl b => a == b
  | .bl a, .int b => (if a then 1 else 0) == b
  | .int a, .bl b => a == (if b then 1 else 0)
  | .int a, .int b => a == b
  | .str a, .str b => a == b
  | _, _ => false
theorem eqAt_V {A : Around} {s : Shared} {y x : V} {u v : Value} (ry : RelV y u) (rx : RelV x v) (fy : flatV y = true) (fx : flatV x = true) : SeqAt.EqAt A s u v (eqV y x) := by
  cases y with
  | non =>
    cases ry
    cases x with
    | non => cases rx; exact SeqAt.EqAt.same _
    | bl b => cases rx; exact SeqAt.EqAt.none_bool b
    | int b => obtain ⟨t, rfl⟩ := rx; exact SeqAt.EqAt.none_int b t
    | str b => obtain ⟨t, rfl⟩ := rx; exact SeqAt.EqAt.none_str b t
    | _ => exact absurd (show false = true from fx) Bool.false_ne_true
  | bl a =>
    cases ry
    cases x with
    | non => cases rx; exact SeqAt.EqAt.bool_none a
    | bl b => cases rx; exact SeqAt.EqAt.bool_bool a b
    | int b => obtain ⟨t, rfl⟩ := rx; exact SeqAt.EqAt.bool_int a b t
    | str b => obtain ⟨t, rfl⟩ := rx; exact SeqAt.EqAt.bool_str a b t
    | _ => exact absurd (show false = true from fx) Bool.false_ne_true
  | int a =>
    obtain ⟨t', rfl⟩ := ry
    cases x with
    | non => cases rx; exact SeqAt.EqAt.int_none a t'
    | bl b => cases rx; exact SeqAt.EqAt.int_bool a t' b
    | int b => obtain ⟨t, rfl⟩ := rx; exact SeqAt.EqAt.int_int a t' b t
    | str b => obtain ⟨t, rfl⟩ := rx; exact SeqAt.EqAt.int_str a t' b t
    | _ => exact absurd (show false = true from fx) Bool.false_ne_true
  | str a =>
    obtain ⟨t', rfl⟩ := ry
    cases x with
    | non => cases rx; exact SeqAt.EqAt.str_none a t'
    | bl b => cases rx; exact SeqAt.EqAt.str_bool a t' b
    | int b => obtain ⟨t, rfl⟩ := rx; exact SeqAt.EqAt.str_int a t' b t
    | str b => obtain ⟨t, rfl⟩ := rx; exact SeqAt.EqAt.str_str a t' b t
    | _ => exact absurd (show false = true from fx) Bool.false_ne_true
  | _ => exact absurd (show false = true from fy) Bool.false_ne_true
/-- the items' answers, read off the values (a value's own answer does not lean on its token) -/
def eqU (x : V) (u : Value) : Bool := match u with
  | .none => eqV .non x
  | .bool b => eqV (.bl b) x
  | .int i _ => eqV (.int i) x
  | .str z _ => eqV (.str z) x
  | _ => false
theorem eqU_of {x y : V} {u : Value} (r : RelV y u) (f : flatV y = true) : eqU x u = eqV y x := by
  cases y with
  | non => cases r; rfl
  | bl b => cases r; rfl
  | int i => obtain ⟨t, rfl⟩ := r; rfl
  | str z => obtain ⟨t, rfl⟩ := r; rfl
  | _ => exact absurd (show false = true from f) Bool.false_ne_true
theorem any_eqU {x : V} : ∀ {xs : List V} {us : List Value}, Vals xs us → xs.all flatV = true → us.any (eqU x) = xs.any fun y => eqV y x
  | _, _, .nil, _ => rfl
  | y :: xs, u :: us, .cons r t, f => by
    rw [List.all_cons, Bool.and_eq_true] at f
    rw [List.any_cons, List.any_cons, eqU_of r f.1, any_eqU t f.2]
theorem mem_eqAt {A : Around} {s : Shared} {x : V} {v : Value} (rx : RelV x v) (fx : flatV x = true) : ∀ {xs : List V} {us : List Value}, Vals xs us → xs.all flatV = true → ∀ u ∈ us, SeqAt.EqAt A s u v (eqU x u)
  | _, _, .nil, _ => fun u hu => by cases hu
  | y :: xs, u :: us, .cons r t, f => fun u' hu => by
    rw [List.all_cons, Bool.and_eq_true] at f
    rcases List.mem_cons.mp hu with rfl | hu
    · rw [eqU_of r f.1]; exact eqAt_V r rx f.1 fx
    · exact mem_eqAt rx fx t f.2 u' hu
def inV (x : V) (xs : List V) : Bool := xs.any fun y => eqV y x
/-- x in a list or tuple of flat items -/
def rIn (K : PySem.W.Frag) (neg : Bool) : R2 := fun x y H Q => ∃ p xs, y = .ref p ∧ (SqL K H p xs ∨ SqT K H p xs) ∧ flatV x = true ∧ xs.all flatV = true ∧ Q (.bl (if neg then !inV x xs else inV x xs)) H
theorem op_in_seq : OpR X (compareOp .In) (rIn X.K false) := by
  intro pins s σ H x y v u Q I rx ry h
  obtain ⟨p, xs, rfl, hq, fx, fs, q⟩ := h
  cases ry
  rcases hq with hq | hq
  · obtain ⟨its, r, pl, hz⟩ := I.list hq
    refine SeqAt.in_listAt (eqU x) pl.isList (fun w hw => mem_eqAt rx fx r fs w (by simpa using hw)) ⟨.bl _, H, I, rfl, ?_⟩
    rw [show its.toArray.any (eqU x) = its.any (eqU x) by simp, any_eqU r fs]
    exact q
  · obtain ⟨its, r, pl, hz⟩ := I.tuple hq
    refine SeqAt.in_tupleAt (eqU x) pl (fun w hw => mem_eqAt rx fx r fs w (by simpa using hw)) ⟨.bl _, H, I, rfl, ?_⟩
    rw [show its.toArray.any (eqU x) = its.any (eqU x) by simp, any_eqU r fs]
    exact q
theorem op_notIn_seq : OpR X (compareOp .NotIn) (rIn X.K true) := by
  intro pins s σ H x y v u Q I rx ry h
  obtain ⟨p, xs, rfl, hq, fx, fs, q⟩ := h
  cases ry
  rcases hq with hq | hq
  · obtain ⟨its, r, pl, hz⟩ := I.list hq
    refine SeqAt.notIn_listAt (eqU x) pl.isList (fun w hw => mem_eqAt rx fx r fs w (by simpa using hw)) ⟨.bl _, H, I, rfl, ?_⟩
    rw [show its.toArray.any (eqU x) = its.any (eqU x) by simp, any_eqU r fs]
    exact q
  · obtain ⟨its, r, pl, hz⟩ := I.tuple hq
    refine SeqAt.notIn_tupleAt (eqU x) pl (fun w hw => mem_eqAt rx fx r fs w (by simpa using hw)) ⟨.bl _, H, I, rfl, ?_⟩
    rw [show its.toArray.any (eqU x) = its.any (eqU x) by simp, any_eqU r fs]
    exact q
theorem op_notIn_str : OpR X (compareOp .NotIn) (fun x y H Q => ∃ i j, x = .str i ∧ y = .str j ∧ Q (.bl (!(!(Builtin.Str.occurrences j i 0 j.length 1).isEmpty))) H) := by
  intro pins s σ H x y v u Q I rx ry h
  obtain ⟨i, j, rfl, rfl, q⟩ := h
  obtain ⟨t, rfl⟩ := rx
  obtain ⟨t', rfl⟩ := ry
  exact notIn_str ⟨.bl _, H, I, rfl, q⟩

/-! ### len, list(x), tuple(x) of any list or tuple that is read -/
theorem call_len_seq : CallR X (.builtin "len") (fun xs H Q => ∃ p ys, xs = [.ref p] ∧ (SqL X.K H p ys ∨ SqT X.K H p ys) ∧ Q (.int ys.length) H) := by
  intro pins s σ H xs us Q I r h
  obtain ⟨p, ys, rfl, hq, q⟩ := h
  obtain ⟨u, rfl, rx⟩ := vals1 r
  cases rx
  have hn := line63
  rcases hq with hq | hq
  · obtain ⟨its, r', pl, hz⟩ := I.list hq
    have hlen := r'.length
    exact Calls.call_len_list pl.isList (by simp only [List.size_toArray] <;> omega) ⟨.int ys.length, H, I.tok _, ⟨s.toks + 1, by rw [List.size_toArray, hlen]⟩, q⟩
  · obtain ⟨its, r', pl, hz⟩ := I.tuple hq
    have hlen := r'.length
    exact len_tuple pl (by simp only [List.size_toArray] <;> omega) ⟨.int ys.length, H, I.tok _, ⟨s.toks + 1, by rw [List.size_toArray, hlen]⟩, q⟩
theorem call_len_str : CallR X (.builtin "len") (fun xs H Q => ∃ z, xs = [.str z] ∧ z.length ≤ sizeLine ∧ Q (.int z.length) H) := by
  intro pins s σ H xs us Q I r h
  obtain ⟨z, rfl, hz, q⟩ := h
  obtain ⟨u, rfl, t, rfl⟩ := vals1 r
  have hn := line63
  exact len_str (by omega) ⟨.int z.length, H, I.tok _, ⟨_, rfl⟩, q⟩
theorem CallR.or {f : Value} {r r' : List V → Hp → VK → Prop} (h : CallR X f r) (h' : CallR X f r') : CallR X f (fun xs H Q => r xs H Q ∨ r' xs H Q) := by
  intro pins s σ H xs us Q I rs q
  rcases q with q | q
  · exact h pins s σ H xs us Q I rs q
  · exact h' pins s σ H xs us Q I rs q
theorem call_list_of : CallR X (.type "list") (fun xs H Q => ∃ p ys, xs = [.ref p] ∧ (SqL X.K H p ys ∨ SqT X.K H p ys) ∧ ∀ l, H l = none → Q (.ref l) (upd H l (.lst ys))) := by
  intro pins s σ H xs us Q I r h
  obtain ⟨p, ys, rfl, hq, q⟩ := h
  obtain ⟨u, rfl, rx⟩ := vals1 r
  cases rx
  have fin : ∀ (its : List Value), Vals ys its → ys.length ≤ sizeLine → ∀ (h' : Heap) (c' : Nat), (∀ b o', s.heap.get? b = some o' → h'.get? b = some o') →
      h'.get? s.heap.objs.size = some { cls := .type "list", dict := none, data := .seq its.toArray c', slots := #[] } → EP X pins σ Q (.ref s.heap.objs.size) { s with heap := h' } := fun its r' hz h' c' kp e =>
    ⟨.ref s.heap.objs.size, _, I.laid (t' := s.toks) kp (Nat.le_refl _) (show ObjOk X.prog X.w _ h' _ (.lst ys) from ⟨hz, its, c', r', e⟩), rfl, q _ (I.hok.fresh (Nat.le_refl _))⟩
  rcases hq with hq | hq
  · obtain ⟨its, r', pl, hz⟩ := I.list hq
    have hlen := r'.length
    obtain ⟨o, ho, hc, n, hd⟩ := pl.isList
    exact call_list_seq p (.inl rfl) ho hc hd (fun h' c' kp e => fin its r' hz h' c' kp e) (by simp only [List.size_toArray] <;> omega)
  · obtain ⟨its, r', pl, hz⟩ := I.tuple hq
    have hlen := r'.length
    obtain ⟨o, ho, hc, n, hd⟩ := pl
    exact call_list_seq p (.inr rfl) ho hc hd (fun h' c' kp e => fin its r' hz h' c' kp e) (by simp only [List.size_toArray] <;> omega)
theorem call_tuple_of : CallR X (.type "tuple") (fun xs H Q => ∃ p ys, xs = [.ref p] ∧ ((SqL X.K H p ys ∧ ∀ l, H l = none → Q (.ref l) (upd H l (.tup ys))) ∨ (SqT X.K H p ys ∧ Q (.ref p) H))) := by
  intro pins s σ H xs us Q I r h
  obtain ⟨p, ys, rfl, h⟩ := h
  obtain ⟨u, rfl, rx⟩ := vals1 r
  cases rx
  rcases h with ⟨hq, q⟩ | ⟨hq, q⟩
  · obtain ⟨its, r', pl, hz⟩ := I.list hq
    have hlen := r'.length
    refine call_tuple_list pl.isList (fun h' kp => ?_) (by simp only [List.size_toArray] <;> omega)
    have I1 : Inv X pins σ H { s with heap := h' } := I.kept (t' := s.toks) kp
    have I2 : Inv X pins σ (upd H h'.objs.size (.tup ys)) { s with heap := h'.push { cls := .type "tuple", data := .seq its.toArray } } :=
      I1.laid (t' := s.toks) (fun b o e => Heap.get?_push_of_some _ e) (Nat.le_refl _) (show ObjOk X.prog X.w _ _ _ (.tup ys) from ⟨hz, its, r', IsTup.new _ _⟩)
    exact ⟨.ref h'.objs.size, _, I2, rfl, q _ (I1.hok.fresh (Nat.le_refl _))⟩
  · obtain ⟨its, r', pl, hz⟩ := I.tuple hq
    exact call_tuple_same pl ⟨.ref p, H, I, rfl, q⟩

/-! ### the call of a builtin's method: o.m(..) -/
/-- the value is of that builtin type -/
def tyV (K : PySem.W.Frag) (T : String) (x : V) (H : Hp) : Prop := match x with
  | .str _ => T = "str"
  | .int _ => T = "int"
  | .ref p => (T = "list" ∧ ∃ xs, SqL K H p xs) ∨ (T = "tuple" ∧ ∃ o, K.lookup p = some o ∧ o.cls = .type "tuple" ∧ o.dict = none) ∨
      (T = "dict" ∧ ((∃ kvs, H p = some (.dK kvs)) ∨ ∃ kvs, H p = some (.dT kvs))) ∨ (T = "set" ∧ ∃ S n, H p = some (.set S n))
  | _ => False
theorem tyV_is {pins : List (Addr × Obj)} {σ : St} {H : Hp} {s : Shared} {T : String} {x : V} {v : Value} (I : Inv X pins σ H s) (r : RelV x v) (ty : tyV X.K T x H) :
    s.TypeIs v T ∧ ∀ a, v = .ref a → ∃ ob, s.heap.get? a = some ob ∧ ob.dict = none := by
  cases x with
  | str z =>
    obtain ⟨t, rfl⟩ := r
    cases (show T = "str" from ty)
    exact ⟨typeIs_str s z t, fun _ e => nomatch e⟩
  | int i =>
    obtain ⟨t, rfl⟩ := r
    cases (show T = "int" from ty)
    exact ⟨typeIs_int s i t, fun _ e => nomatch e⟩
  | ref p =>
    cases r
    rcases ty with ⟨rfl, xs, hq⟩ | ⟨rfl, o, hk, hc, hd⟩ | ⟨rfl, hk⟩ | ⟨rfl, S, n, hk⟩
    · obtain ⟨its, _, pl, _⟩ := I.list hq
      refine ⟨pl.isList.typeIs, fun a e => ?_⟩
      cases e
      obtain ⟨o, n, e, c, hd, _⟩ := pl
      exact ⟨o, e, hd⟩
    · refine ⟨⟨o, I.kIn p o hk, hc⟩, fun a e => ?_⟩
      cases e
      exact ⟨o, I.kIn _ o hk, hd⟩
    · have z : ∃ o, s.heap.get? p = some o ∧ o.ExactDict := by
        rcases hk with ⟨kvs, hk⟩ | ⟨kvs, hk⟩
        · obtain ⟨_, _, _, _, o, _, _, e, ex, _⟩ := I.hok p _ hk
          exact ⟨o, e, ex⟩
        · obtain ⟨_, _, _, _, o, _, _, e, ex, _⟩ := I.hok p _ hk
          exact ⟨o, e, ex⟩
      obtain ⟨o, e, ex⟩ := z
      refine ⟨⟨o, e, ex.1⟩, fun a e2 => ?_⟩
      cases e2
      exact ⟨o, e, ex.2.1⟩
    · obtain ⟨o, _, _, _, e, ex, _⟩ := I.hok p _ hk
      refine ⟨⟨o, e, ex.1⟩, fun a e2 => ?_⟩
      cases e2
      exact ⟨o, e, ex.2.1⟩
  | _ => exact False.elim ty
def tBM0 (K : PySem.W.Frag) (T : String) (r : V → List V → Hp → VK → Prop) (to : TE) : TE := fun σ H Q => to σ H fun x H1 => tyV K T x H1 ∧ r x [] H1 Q
def tBM (K : PySem.W.Frag) (T : String) (r : V → List V → Hp → VK → Prop) (to : TE) (t : TA) : TE := fun σ H Q => to σ H fun x H1 => tyV K T x H1 ∧ t σ H1 fun xs H2 => r x xs H2 Q
variable {o e : Expr} {es : List Expr} {to : TE} {t : TA} {name : Str} {apos cpos : Pos} {T id : String} {r : V → List V → Hp → VK → Prop}
theorem pe_bm0 (pa : PlainAttrs T) (slot : Slot T name id) (hty : typeOf (.builtin id) = pure (.type "method_descriptor")) (hm : MtR X id r) (ho : PE X o to)
    (hbase : attributeBase o name X.env (eval o X.env) = eval o X.env := by rfl) (hline : (apos.endLine == cpos.line) = true := by rfl) : PE X (.Call (.Attribute o name apos) [] [] cpos) (tBM0 X.K T r to) := by
  intro pins s σ H Q I h
  refine wpAny_Call_method0_late hbase hline (thn (ho pins s σ H _ I h) fun v s1 ⟨x, H1, I1, r1, ty, q1⟩ => ?_)
  obtain ⟨h1, h2⟩ := tyV_is I1 r1 ty
  exact ⟨T, id, pa, slot, hty, h1, h2, Calls.callWith_builtin rfl (PySem.evalArgs_none (hm pins s1 σ H1 x [] v [] Q I1 r1 .nil q1))⟩
theorem pe_bm (pa : PlainAttrs T) (slot : Slot T name id) (hty : typeOf (.builtin id) = pure (.type "method_descriptor")) (hm : MtR X id r) (ho : PE X o to) (ha : PA X (e :: es) t)
    (hbase : attributeBase o name X.env (eval o X.env) = eval o X.env := by rfl)
    (hfew : ((backTo cpos (starEach (e :: es) X.env)).all (fun x => !x.1) && (backToKw cpos (keywordEach [] X.env)).all (fun x => x.1.isSome)
      && decide ((e :: es).length + ([] : List Keyword).length + (if ([] : List Keyword).isEmpty then 0 else 1) < 30)) = true := by rfl)
    (hline : (apos.endLine == cpos.line) = true := by rfl) (hs : starEach (e :: es) X.env = (false, eval e X.env) :: starEach es X.env := by rfl) (hplain : (backTo cpos (starEach es X.env)).any (·.1) = false := by rfl) :
    PE X (.Call (.Attribute o name apos) (e :: es) [] cpos) (tBM X.K T r to t) := by
  intro pins s σ H Q I h
  refine wpAny_Call_method_late hbase hfew hline rfl (thn (ho pins s σ H _ I h) fun v s1 ⟨x, H1, I1, r1, ty, q1⟩ => ?_)
  obtain ⟨h1, h2⟩ := tyV_is I1 r1 ty
  refine ⟨T, id, pa, slot, hty, h1, h2, ?_⟩
  have hA := ha cpos pins s1 σ H1 _ I1 q1
  rw [hs] at hA ⊢
  refine Calls.callWith_builtin (by show (false || (backTo cpos (starEach es X.env)).any (·.1)) = false; rw [hplain] <;> rfl) (Calls.evalArgs_plain ?_)
  exact thn hA fun us s2 ⟨vs, H2, I2, r2, q2⟩ => hm pins s2 σ H2 x vs v us Q I2 r1 r2 q2
/- xs.append(e), list.index on a module's tuple .. are MtR facts of 06m -/
end
end L2

namespace L2
open PySem PySem.Spec PyProof.Rows

def MtM (X : Cx) (id : String) (r : V → List V → Hp → VK → Prop) : Prop :=
  ∀ (pins : List (Addr × Obj)) (s : Shared) (σ : St) (H : Hp) (x : V) (xs : List V) (v : Value) (us : List Value) (Q : VK), Inv X pins σ H s → RelV x v → Vals xs us → r x xs H Q →
    wpAny (model X.prog X.w) X.A (call (.builtin id) (v :: us)) (EP X pins σ Q) X.xe s

/-! ### lists of values -/
theorem Vals.one : ∀ {x : V} {us : List Value}, Vals [x] us → ∃ u, us = [u] ∧ RelV x u
  | _, _, .cons r .nil => ⟨_, rfl, r⟩
theorem Vals.two : ∀ {x y : V} {us : List Value}, Vals [x, y] us → ∃ u v, us = [u, v] ∧ RelV x u ∧ RelV y v
  | _, _, _, .cons r (.cons q .nil) => ⟨_, _, rfl, r, q⟩
theorem Vals.zero : ∀ {us : List Value}, Vals [] us → us = []
  | _, .nil => rfl
theorem Vals.dropLast {xs : List V} {us : List Value} (h : Vals xs us) : Vals xs.dropLast us.dropLast := by
  induction h with
  | nil => exact .nil
  | cons r t ih =>
    cases t with
    | nil => exact .nil
    | cons q t' => exact .cons r ih
theorem Vals.eraseIdx : ∀ {xs : List V} {us : List Value} (i : Nat), Vals xs us → Vals (xs.eraseIdx i) (us.eraseIdx i)
  | _, _, _, .nil => .nil
  | _, _, 0, .cons _ t => t
  | _, _, i + 1, .cons r t => .cons r (Vals.eraseIdx i t)
theorem Vals.reverse {xs : List V} {us : List Value} (h : Vals xs us) : Vals xs.reverse us.reverse := by
  induction h with
  | nil => exact .nil
  | cons r t ih => rw [List.reverse_cons, List.reverse_cons]; exact Vals.append ih (.cons r .nil)
theorem Vals.rep {xs : List V} {us : List Value} (h : Vals xs us) : ∀ k : Nat, Vals (List.replicate k xs).flatten (List.replicate k us).flatten
  | 0 => .nil
  | k + 1 => by
    rw [List.replicate_succ, List.replicate_succ, List.flatten_cons, List.flatten_cons]
    exact Vals.append h (Vals.rep h k)
theorem erase_last {α : Type} (l : List α) : l.eraseIdx (l.length - 1) = l.dropLast := by
  induction l with
  | nil => rfl
  | cons a r ih =>
    cases r with
    | nil => rfl
    | cons b r =>
      have e : (a :: b :: r).length - 1 = ((b :: r).length - 1) + 1 := by
        have h1 : (a :: b :: r).length = r.length + 2 := rfl
        have h2 : (b :: r).length = r.length + 1 := rfl
        omega
      rw [e, List.eraseIdx_cons_succ, ih]
      all_goals rfl
theorem len_erase {α : Type} : ∀ (l : List α) (i : Nat), (l.eraseIdx i).length ≤ l.length
  | [], _ => Nat.le_refl _
  | _ :: _, 0 => Nat.le_succ _
  | _ :: r, i + 1 => Nat.succ_le_succ (len_erase r i)
theorem foldl_rep (its : List Value) : ∀ (k : Nat) (acc : List Value),
    List.foldl (fun x1 x2 => x1 ++ x2) acc.toArray (List.replicate k its.toArray) = (acc ++ (List.replicate k its).flatten).toArray
  | 0, acc => by simp
  | k + 1, acc => by
    have e : acc.toArray ++ its.toArray = (acc ++ its).toArray := by simp
    have e2 : (acc ++ its) ++ (List.replicate k its).flatten = acc ++ (List.replicate (k + 1) its).flatten := by
      rw [List.replicate_succ, List.flatten_cons, List.append_assoc]
    rw [← e2, ← foldl_rep its k (acc ++ its), ← e, List.replicate_succ, List.foldl_cons]

section
variable {X : Cx} {pins : List (Addr × Obj)} {σ : St} {H : Hp} {s : Shared} {l b : Addr} {xs ys zs : List V}

/-! ### the two steps: a tracked list is rewritten, a new list is laid -/
theorem Inv.lset {its its' : List Value} {n : Nat} {f : Array Value → Array Value} {t' : Nat} (I : Inv X pins σ H s) (hH : H l = some (.lst xs))
    (e : s.heap.get? l = some { cls := .type "list", data := .seq its.toArray n }) (hf : f its.toArray = its'.toArray) (hv : Vals ys its') (hz : ys.length ≤ sizeLine) :
    Inv X pins σ (upd H l (.lst ys)) { s with heap := s.heap.update l (Obj.mapSeq f), toks := t' } := by
  have q := PySem.IsL.update e f
  rw [hf] at q
  refine I.write (x := l) (e := l) (by rw [hH]; exact trivial) (.inl rfl) (fun b' u hb hu => (Heap.get?_update_other s.heap (Obj.mapSeq f) (Ne.symm hb)).trans hu) ⟨_, q⟩ ?_
  exact ⟨hz, its', _, hv, q⟩
theorem Inv.lnew {its : List Value} {t' : Nat} (I : Inv X pins σ H s) (hv : Vals ys its) (hz : ys.length ≤ sizeLine) :
    Inv X pins σ (upd H s.heap.objs.size (.lst ys)) { s with heap := s.heap.push { cls := .type "list", data := .seq its.toArray }, toks := t' } :=
  I.laid (fun _ _ q => Heap.get?_push_of_some _ q) (Nat.le_refl _) ⟨hz, its, 0, hv, Heap.get?_push_size _ rfl⟩
theorem Inv.fresh (I : Inv X pins σ H s) : H s.heap.objs.size = none := I.hok.fresh (Nat.le_refl _)
theorem Inv.lstM (I : Inv X pins σ H s) (hH : H l = some (.lst xs)) : xs.length ≤ sizeLine ∧ ∃ (its : List Value) (n : Nat), Vals xs its ∧ xs.length = its.length ∧ s.heap.get? l = some { cls := .type "list", data := .seq its.toArray n } := by
  obtain ⟨z, its, n, r, e⟩ := I.hok l _ hH
  exact ⟨z, its, n, r, r.length, e⟩

theorem notLongL {n : Nat} (h : n ≤ sizeLine) : Builtin.List.listTooLong n = false := by
  unfold Builtin.List.listTooLong
  exact decide_eq_false (by omega)
end

section
variable {X : Cx}

/-! ### methods -/
def rAppend : V → List V → Hp → VK → Prop := fun x vs H Q => ∃ l xs y, x = .ref l ∧ vs = [y] ∧ H l = some (.lst xs) ∧ xs.length < sizeLine ∧ Q .non (upd H l (.lst (xs ++ [y])))
theorem mt_append : MtM X "list.append" rAppend := by
  intro pins s σ H x vs v us Q I rx rv h
  obtain ⟨l, xs, y, rfl, rfl, hH, hz, q⟩ := h
  cases rx
  obtain ⟨u, rfl, ru⟩ := rv.one
  obtain ⟨z, its, n, r, hl, e⟩ := I.lstM hH
  refine call_meets F.slot_list_append ⟨_, e, rfl⟩ F.entry_list_append (F.args_list_append_2 _ _) (PySem.list_append l its.toArray n u (by rw [List.size_toArray]; omega)) ⟨e, ?_⟩
  refine ⟨.non, _, I.lset (its' := its ++ [u]) hH e (by simp) (r.append (.cons ru .nil)) ?_, rfl, q⟩
  rw [List.length_append, List.length_singleton]
  omega

def rExtend : V → List V → Hp → VK → Prop := fun x vs H Q => ∃ l b xs zs, x = .ref l ∧ vs = [.ref b] ∧ H l = some (.lst xs) ∧ H b = some (.lst zs) ∧ xs.length + zs.length ≤ sizeLine ∧ Q .non (upd H l (.lst (xs ++ zs)))
theorem mt_extend : MtM X "list.extend" rExtend := by
  intro pins s σ H x vs v us Q I rx rv h
  obtain ⟨l, b, xs, zs, rfl, rfl, hH, hB, hz, q⟩ := h
  cases rx
  obtain ⟨u, rfl, ru⟩ := rv.one
  cases ru
  obtain ⟨z, its, n, r, hl, e⟩ := I.lstM hH
  obtain ⟨z2, its2, n2, r2, hl2, e2⟩ := I.lstM hB
  have hsz : its.toArray.size + its2.toArray.size ≤ sizeLine := by rw [List.size_toArray, List.size_toArray]; omega
  have hlong : ¬ (!its.toArray.isEmpty && Builtin.List.listTooLong (its.toArray.size + its2.toArray.size)) = true := by
    rw [notLongL hsz, Bool.and_false]
    exact Bool.false_ne_true
  refine call_meets F.slot_list_extend ⟨_, e, rfl⟩ F.entry_list_extend (F.args_list_extend_2 _ _)
    (AutoSeq1.list_extend_list_list_0 l its.toArray n b its2.toArray n2 hlong (by rw [List.size_toArray]; omega) (by omega)) ⟨e, e2, ?_⟩
  refine ⟨.non, _, I.lset (its' := its ++ its2) hH e (by simp) (r.append r2) ?_, rfl, q⟩
  rw [List.length_append]
  omega

def rPop : V → List V → Hp → VK → Prop := fun x vs H Q => ∃ l xs y, x = .ref l ∧ vs = [] ∧ H l = some (.lst xs) ∧ xs[xs.length - 1]? = some y ∧ Q y (upd H l (.lst xs.dropLast))
theorem mt_pop : MtM X "list.pop" rPop := by
  intro pins s σ H x vs v us Q I rx rv h
  obtain ⟨l, xs, y, rfl, rfl, hH, hy, q⟩ := h
  cases rx
  have hus := rv.zero
  subst hus
  obtain ⟨z, its, n, r, hl, e⟩ := I.lstM hH
  obtain ⟨u, hu, ru⟩ := r.get hy
  have hy' : its.toArray[its.toArray.size - 1]? = some u := by
    show its.toArray[its.length - 1]? = some u
    rw [← Array.getElem?_toList, ← hl]
    exact hu
  refine call_meets F.slot_list_pop ⟨_, e, rfl⟩ F.entry_list_pop (F.args_list_pop_1 _) (MeetsSeq.list_pop_last l its.toArray n u hy' (by rw [List.size_toArray]; omega)) ⟨e, ?_⟩
  refine ⟨y, _, I.lset (its' := its.dropLast) hH e ?_ r.dropLast ?_, ru, q⟩
  · show its.toArray.eraseIdxIfInBounds (its.toArray.size - 1) = its.dropLast.toArray
    rw [List.size_toArray, List.eraseIdxIfInBounds_toArray, erase_last]
  · rw [List.length_dropLast]
    omega

def rPopAt : V → List V → Hp → VK → Prop := fun x vs H Q => ∃ l xs i k y, x = .ref l ∧ vs = [.int i] ∧ H l = some (.lst xs) ∧ -(2 ^ 63) ≤ i ∧ i < 2 ^ 63 ∧ seqIndex? i xs.length = some k ∧ xs[k]? = some y ∧ Q y (upd H l (.lst (xs.eraseIdx k)))
theorem mt_popAt : MtM X "list.pop" rPopAt := by
  intro pins s σ H x vs v us Q I rx rv h
  obtain ⟨l, xs, i, k, y, rfl, rfl, hH, h1, h2, hk, hy, q⟩ := h
  cases rx
  obtain ⟨u, rfl, ru⟩ := rv.one
  obtain ⟨t, rfl⟩ := ru
  obtain ⟨z, its, n, r, hl, e⟩ := I.lstM hH
  obtain ⟨w, hw, rw'⟩ := r.get hy
  refine call_meets F.slot_list_pop ⟨_, e, rfl⟩ F.entry_list_pop (F.args_list_pop_2 _ _)
    (MeetsSeq.list_pop_at l its.toArray n i t k w (fitsIndex_both h1 h2) (by rw [List.size_toArray, ← hl]; exact hk) (by rw [← Array.getElem?_toList]; exact hw) (by rw [List.size_toArray]; omega)) ⟨e, ?_⟩
  refine ⟨y, _, I.lset (its' := its.eraseIdx k) hH e ?_ (r.eraseIdx k) ?_, rw', q⟩
  · show its.toArray.eraseIdxIfInBounds k = (its.eraseIdx k).toArray
    rw [List.eraseIdxIfInBounds_toArray]
  · have := len_erase xs k
    omega

def rReverse : V → List V → Hp → VK → Prop := fun x vs H Q => ∃ l xs, x = .ref l ∧ vs = [] ∧ H l = some (.lst xs) ∧ Q .non (upd H l (.lst xs.reverse))
theorem mt_reverse : MtM X "list.reverse" rReverse := by
  intro pins s σ H x vs v us Q I rx rv h
  obtain ⟨l, xs, rfl, rfl, hH, q⟩ := h
  cases rx
  have hus := rv.zero
  subst hus
  obtain ⟨z, its, n, r, hl, e⟩ := I.lstM hH
  refine call_meets F.slot_list_reverse ⟨_, e, rfl⟩ F.entry_list_reverse (F.args_list_reverse_1 _) (AutoSeq1.list_reverse_list_0 l its.toArray n (by rw [List.size_toArray]; omega)) ⟨e, ?_⟩
  refine ⟨.non, _, I.lset (its' := its.reverse) hH e (by simp) r.reverse ?_, rfl, q⟩
  rw [List.length_reverse]
  omega

def rClear : V → List V → Hp → VK → Prop := fun x vs H Q => ∃ l xs, x = .ref l ∧ vs = [] ∧ H l = some (.lst xs) ∧ Q .non (upd H l (.lst []))
theorem mt_clear : MtM X "list.clear" rClear := by
  intro pins s σ H x vs v us Q I rx rv h
  obtain ⟨l, xs, rfl, rfl, hH, q⟩ := h
  cases rx
  have hus := rv.zero
  subst hus
  obtain ⟨z, its, n, r, hl, e⟩ := I.lstM hH
  refine call_meets F.slot_list_clear ⟨_, e, rfl⟩ F.entry_list_clear (F.args_list_clear_1 _) (AutoSeq1.list_clear_list_0 l its.toArray n (by rw [List.size_toArray]; omega)) ⟨e, ?_⟩
  exact ⟨.non, _, I.lset (its' := []) (ys := []) hH e rfl .nil (Nat.zero_le _), rfl, q⟩

/-! ### list + list, list += list, list * int -/
def rCat : R2 := fun x y H Q => ∃ l b xs zs, x = .ref l ∧ y = .ref b ∧ H l = some (.lst xs) ∧ H b = some (.lst zs) ∧ xs.length + zs.length ≤ sizeLine ∧ ∀ p, H p = none → Q (.ref p) (upd H p (.lst (xs ++ zs)))
theorem op_cat : OpR X (binaryOp .Add) rCat := by
  intro pins s σ H x y v u Q I rx ry h
  obtain ⟨l, b, xs, zs, rfl, rfl, hH, hB, hz, q⟩ := h
  cases rx
  cases ry
  obtain ⟨z, its, n, r, hl, e⟩ := I.lstM hH
  obtain ⟨z2, its2, n2, r2, hl2, e2⟩ := I.lstM hB
  refine PySem.P.add_list e e2 ?_ (by rw [List.size_toArray, List.size_toArray]; omega)
  have ea : its.toArray ++ its2.toArray = (its ++ its2).toArray := by simp
  rw [ea]
  exact ⟨.ref _, _, I.lnew (t' := s.toks) (r.append r2) (by rw [List.length_append]; omega), rfl, q _ I.fresh⟩
/-- a list times an int (a negative one is nothing) -/
def rRep : R2 := fun x y H Q => ∃ l k xs, x = .ref l ∧ y = .int k ∧ H l = some (.lst xs) ∧ -(2 ^ 63) ≤ k ∧ k < 2 ^ 63 ∧ xs.length * k.toNat ≤ sizeLine ∧
  ∀ p, H p = none → Q (.ref p) (upd H p (.lst (List.replicate k.toNat xs).flatten))
theorem len_rep {α : Type} (xs : List α) (k : Nat) : (List.replicate k xs).flatten.length = k * xs.length := by
  induction k with
  | zero => simp
  | succ k ih => rw [List.replicate_succ, List.flatten_cons, List.length_append, ih, Nat.succ_mul, Nat.add_comm]
theorem op_rep : OpR X (binaryOp .Mult) rRep := by
  intro pins s σ H x y v u Q I rx ry h
  obtain ⟨l, k, xs, rfl, rfl, hH, h1, h2, hz, q⟩ := h
  cases rx
  obtain ⟨t, rfl⟩ := ry
  obtain ⟨z, its, n, r, hl, e⟩ := I.lstM hH
  have hlen : its.toArray.size * k.toNat ≤ sizeLine := by rw [List.size_toArray, ← hl]; exact hz
  have hcap : ¬ its.toArray.size * k.toNat > (2 ^ 63 - 1) / 8 := by
    have : (sizeLine : Nat) ≤ (2 ^ 63 - 1) / 8 := by decide
    omega
  have hfit : ¬ (!Builtin.List.listFitsIndex k) = true := by
    rw [fitsIndex_both h1 h2]
    exact Bool.false_ne_true
  have hlong : ¬ Builtin.List.listTooLong (its.toArray.size * k.toNat) = true := by
    rw [notLongL hlen]
    exact Bool.false_ne_true
  have hnew : List.foldl (fun x1 x2 => x1 ++ x2) #[] (List.replicate (if its.toArray.isEmpty = true then 0 else k.toNat) its.toArray) = (List.replicate k.toNat its).flatten.toArray := by
    have f0 : ∀ m : Nat, List.foldl (fun x1 x2 => x1 ++ x2) #[] (List.replicate m its.toArray) = (List.replicate m its).flatten.toArray := fun m => by
      have := foldl_rep its m []
      rw [List.nil_append] at this
      exact this
    rw [f0]
    cases its with
    | nil => simp
    | cons a r' => rw [if_neg (by simp)]
  refine wpAny_binaryOp_repeat_ref (T := "list") (U := "int") (by decide) ⟨_, e, rfl⟩ (fun s' => typeIs_int s' k t) noFill_list_mul F.fills_int_mul F.slot_int_rmul repeat_list F.slot_int_index.lookup
    (call_meets F.slot_int_rmul (typeIs_int s k t) F.entry_int_rmul (F.args_int_rmul_2 _ _) (int___rmul___int_list k t l its.toArray n)
      ⟨e, rfl, ⟨_, e, rfl⟩, call_meets F.slot_list_mul ⟨_, e, rfl⟩ F.entry_list_mul (F.args_list_mul_2 _ _) (AutoListH.list___mul___list_int_3 l its.toArray n k t hfit hcap hlong) ⟨e, ?_⟩⟩)
  rw [hnew]
  exact ⟨.ref _, _, I.lnew (t' := s.toks) (r.rep k.toNat) (by rw [len_rep, Nat.mul_comm]; exact hz), rfl, q _ I.fresh⟩

/-! ### del xs[i] -/
theorem del_list {pins : List (Addr × Obj)} {s : Shared} {σ : St} {H : Hp} {l : Addr} {xs : List V} {i : Int} {t : Tok} {k : Nat} {Q : Unit → Shared → Prop} (I : Inv X pins σ H s) (hH : H l = some (.lst xs))
    (h1 : -(2 ^ 63) ≤ i) (h2 : i < 2 ^ 63) (hk : seqIndex? i xs.length = some k) (h : ∀ s', Inv X pins σ (upd H l (.lst (xs.eraseIdx k))) s' → Q () s') :
    wpAny (model X.prog X.w) X.A (delItem (.ref l) (.int i t)) Q X.xe s := by
  obtain ⟨z, its, n, r, hl, e⟩ := I.lstM hH
  refine PySem.P.delItem_list (k := k) e (fitsIndex_both h1 h2) (by rw [List.size_toArray, ← hl]; exact hk) (h _ ?_) (by rw [List.size_toArray]; omega)
  refine I.lset (its' := its.eraseIdx k) (t' := s.toks) hH e ?_ (r.eraseIdx k) ?_
  · show its.toArray.eraseIdxIfInBounds k = (its.eraseIdx k).toArray
    rw [List.eraseIdxIfInBounds_toArray]
  · have := len_erase xs k
    omega
end

/-! ### xs[a:b] = ys -/
section
variable {prog : Program} {w : World} {A : Around} {E : Value → Shared → Prop} {s : Shared}
theorem splice_eq (its its2 : List Value) (a c : Nat) : its.toArray.extract 0 a ++ its2.toArray ++ its.toArray.extract c its.toArray.size = (its.take a ++ its2 ++ its.drop c).toArray := by
  apply Array.toList_inj.mp
  first
    | (simp
       exact List.take_of_length_le (by simp))
    | simp [List.take_of_length_le]
    | simp
theorem bounds_run {a c n : Nat} (hac : a ≤ c) (hc : c ≤ n) : sliceBounds (some (a : Int)) (some (c : Int)) none n = ((a : Int), (c : Int), 1) := by
  simp only [sliceBounds, Option.getD_none]
  have h1 : ¬ ((a : Int) < 0) := by omega
  have h2 : ¬ ((c : Int) < 0) := by omega
  simp only [h1, h2, if_false, show (1 : Int) > 0 by decide, if_true]
  congr 1
  · omega
  · congr 1; omega
set_option maxRecDepth 100000 in
/-- list.__setitem__ with a slice of step one and another list -/
theorem setItem_slice {l b sl : Addr} {items new : Array Value} {n n2 : Nat} {vl vu : Value} {a c : Nat} {Q : Unit → Shared → Prop}
    (e : s.heap.get? l = some { cls := .type "list", data := .seq items n }) (e2 : s.heap.get? b = some { cls := .type "list", data := .seq new n2 }) (hne : l ≠ b)
    (hs : s.heap.IsSliceOf sl vl vu .none) (pl : IsPart vl (some (a : Int))) (pu : IsPart vu (some (c : Int))) (hac : a ≤ c) (hc : c ≤ items.size)
    (hsz : items.size + new.size ≤ sizeLine) (h : Q () { s with heap := s.heap.update l (Obj.mapSeq fun xs => xs.extract 0 a ++ new ++ xs.extract c xs.size) }) :
    wpAny (model prog w) A (setItem (.ref l) (.ref sl) (.ref b)) Q E s := by
  have hl : s.heap.IsList l items := PySem.IsL.isList e
  have hb : s.heap.IsList b new := PySem.IsL.isList e2
  obtain ⟨os, hos, hcs, hds⟩ := id hs
  have hTs : s.TypeIs (.ref sl) "slice" := ⟨os, hos, hcs⟩
  have hstep : ¬ ((rawPart none == rawInt 0) = true) := Bool.false_ne_true
  have hsame : Builtin.List.listSameRef (.ref l) (.ref b) = false := by
    unfold Builtin.List.listSameRef
    exact beq_eq_false_iff_ne.mpr hne
  have hmax : (max (a : Int) (c : Int)).toNat = c := by omega
  have hz' : ((fun xs : Array Value => xs.extract 0 a ++ new ++ xs.extract c xs.size) items).size ≤ sizeLine + 1 := by
    simp only [Array.size_append, Array.size_extract]
    omega
  unfold setItem
  try with_reducible refine wpAny_holding ?_
  first | refine wpAny_bind (wpAny_pure ?_) | skip
  refine wpAny_bind (wpAny_sequenceKey hl.typeIs (by decide) ?_)
  refine wpAny_bind (wpAny_callSpecial?_slot (name := Str.ofString "__setitem__") hl.typeIs slot_list_setitem
    (wpAny_call_entry slot_list_setitem hl.typeIs entry_list_setitem ?_ (args_list_setitem _ _ _)))
  show wpAny _ _ (Builtin.List.listSubscript? (.ref sl) >>= _) _ _ s
  refine wpAny_bind ?_
  unfold Builtin.List.listSubscript?
  refine wpAny_bind (wpAny_specialOf hTs slice_no_index ?_)
  simp only [Option.isNone_none, if_true]
  refine wpAny_pure ?_
  show wpAny _ _ (typeOf (.ref sl) >>= _) _ _ s
  refine wpAny_bind (wpAny_typeOf hTs ?_)
  first
    | rw [if_neg (by decide)]
    | refine PySem.W.KFB.if_not (by decide) ?_
  rw [listSliceParts_eq]
  refine wpAny_bind (wpAny_bind (wpAny_field hos hds (x := .none) rfl (wpAny_bind (wpAny_listPart .none ?_))))
  rw [if_neg hstep]
  refine wpAny_bind (wpAny_field hos hds (x := vl) rfl (wpAny_bind (wpAny_listPart pl ?_)))
  refine wpAny_bind (wpAny_field hos hds (x := vu) rfl (wpAny_bind (wpAny_listPart pu (wpAny_pure ?_))))
  first
    | simp only [hsame, Bool.false_eq_true, if_false]
    | refine PySem.W.KFB.if_not hsame ?_
    | (dsimp only
       rw [if_neg (by rw [hsame]; exact Bool.false_ne_true)])
  refine wpAny_bind (m := Builtin.List.listAllItems (.ref b) "must assign iterable to extended slice") ?_
  unfold Builtin.List.listAllItems
  refine wpAny_bind (wpAny_typeOf hb.typeIs ?_)
  first
    | refine PySem.W.KFB.if_so (by decide) ?_
    | rw [if_pos (by decide)]
    | simp only [beq_self_eq_true, Bool.true_or, if_true]
  unfold Builtin.List.listItems
  refine wpAny_bind (wpAny_seqItems e2 rfl (wpAny_pure ?_))
  refine wpAny_bind (wpAny_bind (wpAny_seqItems e rfl (wpAny_pure ?_)))
  refine wpAny_bind (wpAny_of_eq ((sliceIndices_raw (some (a : Int)) (some (c : Int)) none items.size (by simp)).trans (congrArg (pure : Int × Int × Int → Sem (Int × Int × Int)) (bounds_run hac hc))) ?_)
  show wpAny _ _ (if ((1 : Int) == 1) = true then _ else _) _ _ s
  rw [if_pos (by decide)]
  refine wpAny_bind (wpAny_rule ?_)
  first
    | simp only [notLongL hsz, Bool.false_eq_true, if_false]
    | refine PySem.W.KFB.if_not (notLongL hsz) ?_
  first | refine wpAny_bind (wpAny_pure ?_) | skip
  show wpAny _ _ (updateSeq l (fun xs => xs.extract 0 ((a : Int)).toNat ++ new ++ xs.extract (max (a : Int) (c : Int)).toNat xs.size) >>= _) _ _ s
  rw [hmax, Int.toNat_natCast]
  refine wpAny_bind (wpAny_updateSeq (hz := Nat.le_trans (Nat.le_add_right _ _) hsz) (_hz' := hz') e rfl ?_)
  refine wpAny_bind (wpAny_letGo ?_)
  first
    | exact wpAny_bind (wpAny_pure (wpAny_pure ⟨.none, rfl, wpAny_pure h⟩))
    | exact wpAny_pure ⟨.none, rfl, wpAny_pure h⟩
end

section
variable {X : Cx}
/-- xs[a:c] = ys of another list, at the value level: sl is the slice object that was just made -/
theorem set_slice {pins : List (Addr × Obj)} {s : Shared} {σ : St} {H : Hp} {l b sl : Addr} {xs ys : List V} {a c : Int} {vl vu : Value} {Q : Unit → Shared → Prop} (I : Inv X pins σ H s)
    (hH : H l = some (.lst xs)) (hB : H b = some (.lst ys)) (hne : l ≠ b) (hs : s.heap.IsSliceOf sl vl vu .none) (ra : RelV (.int a) vl) (rc : RelV (.int c) vu) (h0 : 0 ≤ a) (hac : a ≤ c) (hc : c ≤ xs.length)
    (hz : xs.length + ys.length ≤ sizeLine) (h : ∀ s', Inv X pins σ (upd H l (.lst (xs.take a.toNat ++ ys ++ xs.drop c.toNat))) s' → Q () s') :
    wpAny (model X.prog X.w) X.A (setItem (.ref l) (.ref sl) (.ref b)) Q X.xe s := by
  obtain ⟨ta, rfl⟩ := ra
  obtain ⟨tc, rfl⟩ := rc
  obtain ⟨z, its, n, r, hl, e⟩ := I.lstM hH
  obtain ⟨z2, its2, n2, r2, hl2, e2⟩ := I.lstM hB
  obtain ⟨a', rfl⟩ := Int.eq_ofNat_of_zero_le h0
  obtain ⟨c', rfl⟩ := Int.eq_ofNat_of_zero_le (Int.le_trans h0 hac)
  simp only [Int.toNat_natCast] at h
  refine setItem_slice (a := a') (c := c') e e2 hne hs (.int _ _) (.int _ _) (by omega) (by rw [List.size_toArray]; omega) (by rw [List.size_toArray, List.size_toArray]; omega) (h _ ?_)
  refine I.lset (its' := its.take a' ++ its2 ++ its.drop c') (t' := s.toks) hH e ?_ (Vals.append (Vals.append (r.take _) r2) (r.drop _)) ?_
  · exact splice_eq its its2 a' c'
  · rw [List.length_append, List.length_append, List.length_take, List.length_drop]
    omega
end
end L2

namespace Att
open PySem PySem.W PySem.Calls PyProof.Rows

/-! ### the script -/
theorem ints_of_wellAll {P : Params} {h : Heap} : ∀ (ns : List Int) (vs : List Value), WellAll P h vs (ns.map WData.int) → IntsAre vs ns := by
  intro ns
  induction ns with
  | nil =>
    intro vs w
    rw [List.map_nil] at w
    cases w
    exact .nil
  | cons n ns ih =>
    intro vs w
    rw [List.map_cons] at w
    cases w with
    | cons a b =>
      cases a
      exact .cons _ _ (ih _ b)

theorem script_of {l : OpenLaw} {n : Nat} (hn : l.most = some n) {P : Params} {h : Heap} {args : List WData} {vals : List Value}
    (hpre : l.row.toRowW.claim.pre args = true) (hwl : WellAll P h vals args) :
    ∃ a vs ns, vals = [Value.ref a] ∧ args = [WData.list (ns.map WData.int)] ∧ h.get? a = some { cls := .type "list", data := .seq vs.toArray } ∧ IntsAre vs ns ∧ ns.length ≤ n := by
  have hsh : WShape.hasAll [] args [.list .int] = true := (pre_splitW hpre).1
  have hc : l.pre.holds [] { args := args } = true := (pre_splitW hpre).2
  obtain ⟨d, r, rfl, h1, h2⟩ := hasAllW_cons hsh
  obtain rfl := hasAllW_nil h2
  obtain ⟨xs, rfl, h3⟩ := hasW_list h1
  obtain ⟨ns, rfl⟩ := items_int h3
  have hlen : ns.length ≤ n := by
    unfold OpenLaw.pre at hc
    have h4 : (WTm.not (.lt (.lit (.int (n : Int))) (.len (.arg 0)))).holds [] { args := [.list (ns.map .int)] } = true := by
      have h4 := (holds_andW hc).1
      rw [hn] at h4
      exact h4
    have h5 := condW_of h4 (w_not (w_lt w_lit (w_len_list (w_arg rfl))))
    rw [List.length_map] at h5
    refine Nat.le_of_not_lt fun q => ?_
    have q' : (n : Int) < ((ns.length : Nat) : Int) := by omega
    first
      | (rw [decide_eq_true q'] at h5; exact absurd h5 (by decide))
      | (simp at h5; omega)
  cases hwl with
  | cons w1 w2 =>
    cases w2
    cases w1 with
    | list ho hall => exact ⟨_, _, ns, rfl, rfl, ho, ints_of_wellAll ns _ hall, hlen⟩

theorem post_true (l : OpenLaw) (args : List WData) : l.row.toRowW.claim.post args (.bool true) args = true :=
  postW_of (r := l.row.toRowW) (X := (true == true))
    (show WShape.has [] (.bool true) .bool = true by first | rfl | decide | simp [WShape.has, WShape.arms, WShape.armsAll])
    (show (WTm.eq .res (.lit (.bool true))).value [] { args := args, res := some (.bool true), after := args } = some (.bool (true == true)) from w_eq_bool (w_res rfl) w_lit) rfl

/-! ### the attachment: holds_open's last premise (the goal 'hc' behind k_head) from a wpAny of the law's body -/
theorem attach {l : OpenLaw} {n : Nat} {q : Program} {loose : List Str} {XP : (Str → Option Value) → Heap → Prop} {YP : World → Heap → Prop} {d : DefRec} {x : Str}
    (hn : l.most = some n) (hdf : d.params.defaults = [])
    (hbind : ∀ pm cd doc v : Value, bindArgs (docDef d.name d.params d.body d.scope pm cd doc) ⟨[v], []⟩ = pure [(x, v)])
    (hx : d.scope.names.lookup x = some .local ∨ d.scope.names.lookup x = some .cell)
    (hk : d.scope.kind = .function) (hco : d.scope.isCoroutine = false) (hgen : d.scope.isGenerator = false)
    (body : ∀ (w : World) (s₀ s₁ s : Shared) (mg mb : Str → Option Value) (fa : Addr) (o : Obj) (pm cd doc : Value) (a : Addr) (vs : List Value) (ns : List Int),
      Ground q loose [] XP w s₀ mg mb s₁.heap → YP w s₁.heap →
      s₁.heap.get? fa = some o → o.data = .func (docDef d.name d.params d.body d.scope pm cd doc) → s₁.heap.CodeRec cd d.name → mg d.name = some (.ref fa) →
      s₁.heap.get? a = some { cls := .type "list", data := .seq vs.toArray } → IntsAre vs ns → ns.length ≤ n →
      s.gens = #[] → s.os = s₁.os →
      Fr s₁.heap s₁.heap.objs.size s.heap (bindL (envOfC d.name d.scope s₁.heap.objs.size fa cd).kindOf [(x, .ref a)] fun _ => none) →
      Cl s₁.heap.objs.size (cellsFrom (s₁.heap.objs.size + 1) d.scope.names []) s.heap (bindC (envOfC d.name d.scope s₁.heap.objs.size fa cd).kindOf [(x, .ref a)] fun _ => none) →
      wpAny (model l.prog w) (callerA.deeper (envOfC d.name d.scope s₁.heap.objs.size fa cd)) (execs d.body (envOfC d.name d.scope s₁.heap.objs.size fa cd))
        (fun f s' => f = .ret (.bool true) ∧ OldK s₁.heap s'.heap ∧ s'.os = s₁.os ∧ AllBare s'.gens) (fun _ _ => False) s) :
    WalkO q loose XP YP l.row.toRowW d [] (fun f vs => PySem.call f vs) := by
  intro w s₀ s₁ mg mb G Y fa o pm cd doc dV kV ho hd hcd hD hmg hg args vals as hpre hlay hrd hwl hlo
  obtain rfl : dV = .none := Dflts.none hD hdf
  obtain rfl : kV = .none := Dflts.noKw hD
  obtain ⟨a, vs, ns, rfl, rfl, hobj, hints, hlen⟩ := script_of hn hpre hwl
  refine enter_call ?_
  refine call_cells_ret (o := o) (by rw [depth_caller]; decide) ho (fd_plain hd) G.T.nolimit hcd (hbind pm cd doc (.ref a)) (fun y hy => ?_) (fun h₁ tk F X => ?_) hco hgen hk
  · obtain rfl : y = (x, Value.ref a) := List.mem_singleton.mp hy
    rcases hx with e | e
    · exact .inl e
    · exact .inr ⟨e, cellsFrom_some _ _ _ (.inl e)⟩
  · refine wpAny_mono (body w s₀ s₁ { s₁ with heap := h₁, toks := tk } mg mb fa o pm cd doc a vs ns G Y ho (fd_plain hd) hcd hmg hobj hints hlen hg rfl F X) (fun f s' hq => ?_) (fun _ _ hq => hq)
    obtain ⟨rfl, h2, h3, h4⟩ := hq
    exact ⟨.inl ⟨.bool true, .bool true, [], rfl, fun _ => rfl, .bool true, post_true l _, fun _ => ⟨List.Pairwise.nil, fun _ hm => (nomatch hm)⟩⟩, h2, h3, h4⟩

/-- the same from a codeAny of the CALL (for a layer whose function contracts speak of calls) -/
theorem attach_call {l : OpenLaw} {n : Nat} {q : Program} {loose : List Str} {XP : (Str → Option Value) → Heap → Prop} {YP : World → Heap → Prop} {d : DefRec}
    (hn : l.most = some n) (hdf : d.params.defaults = [])
    (call : ∀ (w : World) (s₀ s₁ : Shared) (mg mb : Str → Option Value) (fa : Addr) (o : Obj) (pm cd doc : Value) (a : Addr) (vs : List Value) (ns : List Int),
      Ground q loose [] XP w s₀ mg mb s₁.heap → YP w s₁.heap →
      s₁.heap.get? fa = some o → o.data = .func (docDef d.name d.params d.body d.scope pm cd doc) → s₁.heap.CodeRec cd d.name → mg d.name = some (.ref fa) →
      s₁.heap.get? a = some { cls := .type "list", data := .seq vs.toArray } → IntsAre vs ns → ns.length ≤ n → s₁.gens = #[] →
      codeAny (model l.prog w) callerA (.call (.ref fa) ⟨[.ref a], []⟩) (fun r s' => r = .ok (.ret (.bool true)) ∧ OldK s₁.heap s'.heap ∧ s'.os = s₁.os ∧ AllBare s'.gens) s₁) :
    WalkO q loose XP YP l.row.toRowW d [] (fun f vs => PySem.call f vs) := by
  intro w s₀ s₁ mg mb G Y fa o pm cd doc dV kV ho hd hcd hD hmg hg args vals as hpre hlay hrd hwl hlo
  obtain rfl : dV = .none := Dflts.none hD hdf
  obtain rfl : kV = .none := Dflts.noKw hD
  obtain ⟨a, vs, ns, rfl, rfl, hobj, hints, hlen⟩ := script_of hn hpre hwl
  refine enter_call (codeAny_mono (call w s₀ s₁ mg mb fa o pm cd doc a vs ns G Y ho (fd_plain hd) hcd hmg hobj hints hlen hg) fun r s' hq => ?_)
  obtain ⟨rfl, h2, h3, h4⟩ := hq
  exact ⟨.inl ⟨.bool true, .bool true, [], rfl, fun _ => rfl, .bool true, post_true l _, fun _ => ⟨List.Pairwise.nil, fun _ hm => (nomatch hm)⟩⟩, h2, h3, h4⟩

/-- the same where the top left finished generators (o_head chose holds_openN): nothing may have changed at all and no generator may be left -/
theorem attachN {l : OpenLaw} {n : Nat} {q : Program} {loose : List Str} {XP : (Str → Option Value) → Heap → Prop} {YP : World → Heap → Prop} {d : DefRec} {x : Str}
    (hn : l.most = some n) (hdf : d.params.defaults = [])
    (hbind : ∀ pm cd doc v : Value, bindArgs (docDef d.name d.params d.body d.scope pm cd doc) ⟨[v], []⟩ = pure [(x, v)])
    (hx : d.scope.names.lookup x = some .local ∨ d.scope.names.lookup x = some .cell)
    (hk : d.scope.kind = .function) (hco : d.scope.isCoroutine = false) (hgen : d.scope.isGenerator = false)
    (body : ∀ (w : World) (s₀ s₁ s : Shared) (mg mb : Str → Option Value) (fa : Addr) (o : Obj) (pm cd doc : Value) (a : Addr) (vs : List Value) (ns : List Int),
      Ground q loose [] XP w s₀ mg mb s₁.heap → YP w s₁.heap →
      s₁.heap.get? fa = some o → o.data = .func (docDef d.name d.params d.body d.scope pm cd doc) → s₁.heap.CodeRec cd d.name → mg d.name = some (.ref fa) →
      s₁.heap.get? a = some { cls := .type "list", data := .seq vs.toArray } → IntsAre vs ns → ns.length ≤ n →
      s.gens = #[] → s.os = s₁.os →
      Fr s₁.heap s₁.heap.objs.size s.heap (bindL (envOfC d.name d.scope s₁.heap.objs.size fa cd).kindOf [(x, .ref a)] fun _ => none) →
      Cl s₁.heap.objs.size (cellsFrom (s₁.heap.objs.size + 1) d.scope.names []) s.heap (bindC (envOfC d.name d.scope s₁.heap.objs.size fa cd).kindOf [(x, .ref a)] fun _ => none) →
      wpAny (model l.prog w) (callerA.deeper (envOfC d.name d.scope s₁.heap.objs.size fa cd)) (execs d.body (envOfC d.name d.scope s₁.heap.objs.size fa cd))
        (fun f s' => f = .ret (.bool true) ∧ (∀ b o, s₁.heap.get? b = some o → s'.heap.get? b = some o) ∧ s'.os = s₁.os ∧ s'.gens = #[]) (fun _ _ => False) s) :
    WalkN q loose XP YP l.row.toRowW d [] (fun f vs => PySem.call f vs) := by
  intro w s₀ s₁ mg mb G Y fa o pm cd doc dV kV ho hd hcd hD hmg hg args vals as hpre hlay hrd hwl hlo
  obtain rfl : dV = .none := Dflts.none hD hdf
  obtain rfl : kV = .none := Dflts.noKw hD
  obtain ⟨a, vs, ns, rfl, rfl, hobj, hints, hlen⟩ := script_of hn hpre hwl
  refine enter_callW ?_
  refine call_cells_ret (o := o) (by rw [depth_caller]; decide) ho (fd_plain hd) G.T.nolimit hcd (hbind pm cd doc (.ref a)) (fun y hy => ?_) (fun h₁ tk F X => ?_) hco hgen hk
  · obtain rfl : y = (x, Value.ref a) := List.mem_singleton.mp hy
    rcases hx with e | e
    · exact .inl e
    · exact .inr ⟨e, cellsFrom_some _ _ _ (.inl e)⟩
  · refine wpAny_mono (body w s₀ s₁ { s₁ with heap := h₁, toks := tk } mg mb fa o pm cd doc a vs ns G Y ho (fd_plain hd) hcd hmg hobj hints hlen hg rfl F X) (fun f s' hq => ?_) (fun _ _ hq => hq)
    obtain ⟨rfl, h2, h3, h4⟩ := hq
    exact ⟨.inl ⟨.bool true, .bool true, [], rfl, fun _ => rfl, .bool true, post_true l _, fun _ => ⟨List.Pairwise.nil, fun _ hm => (nomatch hm)⟩⟩, h2, h3, h4⟩

/-! ### rules over ANY heap (no ledger) from facts about the written part K: the library's own take a ledger (News) for what they write -/
section
variable {prog : Program} {w : World} {A : Around} {E : Value → Shared → Prop} {s : Shared} {K : Frag}

/-- a def of the module, or a method (qual 'C.m'), entered: the frame is the next address; cells behind it -/
theorem call_fn {R : Result → Shared → Prop} {name qual : Str} {params : Arguments} {body : List Stmt} {scope : Scope} {dV kV doc pm cdv ct oc : Value} {an od : Option Addr} {osl : Array (Option Value)} {f : Addr} {args : Args} {binds : List (Str × Value)}
    (X : K.In s.heap) (hlim : s.heap.NoLimit) (ho : K.lookup f = some ⟨oc, od, .func (fnOf name qual params body scope dV kV doc pm an cdv ct), osl⟩) (hcd : codeIn K cdv qual = true) (hroom : A.depth < recursionLimit)
    (hbind : BindsTo s (fnOf name qual params body scope dV kV doc pm an cdv ct) args binds)
    (hkind : (binds.all fun y => scope.names.lookup y.1 == some .local || scope.names.lookup y.1 == some .cell) = true)
    (h : ∀ s₁, InCallC s s.heap.objs.size (bindL (envOfC qual scope s.heap.objs.size f cdv).kindOf binds fun _ => none) (cellsFrom (s.heap.objs.size + 1) scope.names [])
        (bindC (envOfC qual scope s.heap.objs.size f cdv).kindOf binds fun _ => none) s₁ →
      wpAny (model prog w) (A.deeper (envOfC qual scope s.heap.objs.size f cdv)) (execs body (envOfC qual scope s.heap.objs.size f cdv))
        (fun fl s' => R (.ok (.ret (match fl with | .ret v => v | _ => .none))) s')
        (fun e s' => wpAny (model prog w) (A.deeper (envOfC qual scope s.heap.objs.size f cdv)) (leaving (envOfC qual scope s.heap.objs.size f cdv) e) (fun _ s'' => R (.error e) s'') (fun e' s'' => R (.error e') s'') s') s₁)
    (hco : scope.isCoroutine = false) (hgen : scope.isGenerator = false) (hk : scope.kind = .function) : codeAny (model prog w) A (.call (.ref f) args) R s := by
  refine codeAny_call_function hroom (X _ _ ho) rfl hco hgen rfl (codeRec_of X hcd) (hbind _ _ _ _ ?_)
  refine wpAny_newFunctionEnv_cells hk (kindsX hkind _) fun env he s₁ x => ?_
  subst he
  exact ⟨hlim.keeps x.toInCall.keep, codeAny_func (h s₁ x)⟩

/-- C(..): dict at size, instance at size + 1, then __init__ -/
theorem make_obj {R : Result → Shared → Prop} {C fI : Addr} {rest : List Value} {kw : List (Str × Value)}
    (X : K.In s.heap) (hm : makesIn K C = true) (hi : findIn K (.ref C) "__init__" = some (some (.ref fI))) (hf : isFn K (.ref fI) = true)
    (h : codeAny (model prog w) (A.under (.builtin "type.__call__" ⟨.ref C :: rest, kw⟩)) (.call (.ref fI) ⟨.ref (s.heap.objs.size + 1) :: rest, kw⟩) (InitBack (s.heap.objs.size + 1) R)
      { s with heap := (s.heap.push emptyDict).push (instObj C s.heap.objs.size) }) : codeAny (model prog w) A (.call (.ref C) ⟨rest, kw⟩) R s := by
  obtain ⟨hh, g, d, t, os⟩ := s
  exact make_core (makes_of X hm) (looks_findIn X hi) (fun self => bind_fn X self (beq_iff_eq.mp hf)) (.inl rfl) h

/-- x.name where the instance's dict holds the name and the class does not -/
theorem get_field {x C : Addr} {ox : Obj} {es : List DictEntry} {n : Nat} {name : Str} {expr : Bool} {v : Value} {Q : Value → Shared → Prop}
    (X : K.In s.heap) (I : PySem.W.InstAt s.heap x ox C (some (dictOf es n))) (hg : plainGet K C name = true) (hh : hasDictIn K C = true) (ha : findIn K (.ref C) name = some none)
    (hl : getL name es = some (some v)) (hv : handedIn v = true) (h : Q v { s with toks := s.toks + 1 }) : wpAny (model prog w) A (getAttr (.ref x) name expr) Q E s :=
  get_value X I (plainGet_of hg).1 (findObj_own hh ha rfl hl) hv h

/-- x.m(..): the method found in the class -/
theorem get_method {x C f : Addr} {ox : Obj} {es : List DictEntry} {n : Nat} {name : Str} {pl : Sem Bool} {Q : Value × List Value → Shared → Prop}
    (X : K.In s.heap) (I : PySem.W.InstAt s.heap x ox C (some (dictOf es n))) (hg : plainGet K C name = true) (hf : findIn K (.ref C) name = some (some (.ref f))) (ht : isFn K (.ref f) = true)
    (hl : getL name es = some none) (h : Q (.ref f, [.ref x]) s) : wpAny (model prog w) A (getMethod (.ref x) name pl) Q E s :=
  method_fn X I (plainGet_of hg).1 (plainGet_of hg).2 hf (beq_iff_eq.mp ht) (by show (lookIn name (dictOf es n)).map _ = _; rw [lookIn_dict, hl]; rfl) h

/-! the whole heap as the ledger: makes every rule that writes through a ledger a rule over any heap -/
def noObjs (h : Heap) : Heap := { h with objs := #[] }
theorem noObjs_get (h : Heap) (b : Addr) : (noObjs h).get? b = none := by
  cases e : (noObjs h).get? b with
  | none => rfl
  | some o => exact absurd (Heap.lt_size e) (Nat.not_lt_zero _)
def ledger (h : Heap) (L d : Addr) : List (Addr × Obj) := (List.range h.objs.size).filterMap fun a => if a = L ∨ a = d then none else (h.get? a).map fun o => (a, o)
theorem mem_ledger {h : Heap} {L d a : Addr} {o : Obj} : (a, o) ∈ ledger h L d ↔ a ≠ L ∧ a ≠ d ∧ h.get? a = some o := by
  unfold ledger
  rw [List.mem_filterMap]
  constructor
  · rintro ⟨b, _, e⟩
    split at e
    · cases e
    · rename_i hb
      obtain ⟨o', ho, e'⟩ := Option.map_eq_some_iff.mp e
      cases e'
      exact ⟨fun q => hb (.inl q), fun q => hb (.inr q), ho⟩
  · rintro ⟨n1, n2, ho⟩
    refine ⟨a, List.mem_range.mpr (Heap.lt_size ho), ?_⟩
    rw [if_neg (show ¬ (a = L ∨ a = d) from fun q => q.elim n1 n2), ho] <;> rfl
theorem news_ledger {h : Heap} {L d : Addr} {od : Obj} (hne : d ≠ L) (ho : h.get? d = some od) : News (noObjs h) L h ([] ++ (d, od) :: ledger h L d) := by
  rintro ⟨a, o⟩ hp
  rcases List.mem_cons.mp hp with e | hp
  · cases e
    exact ⟨ho, hne, noObjs_get _ _⟩
  · obtain ⟨n1, n2, e⟩ := mem_ledger.mp hp
    exact ⟨e, n1, noObjs_get _ _⟩
theorem fr_all {h : Heap} {L : Addr} {m : Str → Option Value} (n : h.Ns L m) : Fr (noObjs h) L h m :=
  ⟨n, fun b o e => (by rw [noObjs_get] at e; cases e), Nat.zero_le _⟩
/-- Upd of the head entry (for append_K, setItem_K ..) -/
theorem upd_ledger {h : Heap} {L d : Addr} {o o' : Obj} : Upd d o o' ((d, o) :: ledger h L d) ((d, o') :: ledger h L d) :=
  .head fun ⟨_, _⟩ hp => (mem_ledger.mp hp).2.1

/-- x.name = v over any heap: L is any namespace of the heap (the frame's, say): its map stays, its object is not told; all else but the dict stays -/
theorem set_field {x C dx L : Addr} {ox : Obj} {m : Str → Option Value} {es es' : List DictEntry} {n n' : Nat} {name : Str} {v : Value} {Q : Unit → Shared → Prop}
    (X : K.In s.heap) (I : PySem.W.InstAt s.heap x ox C (some (dictOf es n))) (hd : ox.dict = some dx) (hL : s.heap.Ns L m) (hne : dx ≠ L)
    (hs : findIn K (.ref C) "__setattr__" = some (some (.builtin "object.__setattr__"))) (hp : plainOver K C = true) (ht : takerIn K C name = some none) (hh : hasDictIn K C = true) (hl : (getL name es).isSome = true)
    (e : (putL name (PyData.keyHash w.params name) (.str name (s.toks + 1)) v es, putN name es n) = (es', n')) (hz : es'.length ≤ 1000)
    (h : ∀ h' : Heap, h'.Ns L m → h'.get? dx = some (dictOf es' n') → (∀ b o, b ≠ dx → b ≠ L → s.heap.get? b = some o → h'.get? b = some o) → Q () { s with heap := h', toks := s.toks + 2 }) :
    wpAny (model prog w) A (setAttr (.ref x) name v) Q E s := by
  obtain ⟨e1, e2⟩ := Prod.mk.inj e
  have hdx : s.heap.get? dx = some (dictOf es n) := by
    have := I.dict
    rw [hd] at this
    exact this
  refine set_plain X I hs (osa_dict (s := { s with toks := s.toks + 1 }) (h₀ := noObjs s.heap) (L := L) (m := m) (od := dictOf es n) (od' := dictOf es' n') (es := es') (n := n') (pre := []) (post := ledger s.heap L dx)
    (fr_all hL) (news_ledger hne hdx) X I hd hp ht hh hl (fun _ q => nomatch q) (fun ⟨_, _⟩ q => (mem_ledger.mp q).2.1) (by rw [putName_dict, e1, e2]) rfl hz fun h' F' N' => ?_)
  exact h h' F'.ns (N'.get (List.Mem.head _)) fun b o n1 n2 ho => N'.get (List.Mem.tail _ (mem_ledger.mpr ⟨n2, n1, ho⟩))
end
end Att

namespace L2
open PySem PySem.Spec PyProof.Rows

theorem vals_ints : ∀ {vs : List Value} {ns : List Int}, IntsAre vs ns → Vals (ns.map V.int) vs
  | _, _, .nil => .nil
  | _, _, .cons n t h => .cons ⟨t, rfl⟩ (vals_ints h)

/-- nothing is tracked but the script, known to the object (or it is an object of the module) -/
def Only (H : Hp) : Prop := ∀ b, H b = none ∨ ∃ o xs, H b = some (.frz o (.lst xs))

/-- THE HEAD: the law's promise, at the heap behind the top. F, the promise of the law's def, may use that base is part of the heap (so K.In base, base.Ns mainGlobals mg stand in Mod) -/
theorem law_call {P : Program} {w : World} {K : PySem.W.Frag} {mg mb : Str → Option Value} {CX : CXT} {k : Nat} {fa a : Addr} {fd : FuncData} {x : Str} {sp : Sp} {s₁ : Shared} {vs : List Value} {ns : List Int}
    (KX : K.In s₁.heap) (hns : s₁.heap.Ns mainGlobals mg) (hb : s₁.heap.Ns builtinsNs mb) (hbb : ∀ x : Str, x ≠ "__name__" → mb x = bootBuiltins x) (hlim : s₁.heap.NoLimit) (hg : s₁.gens = #[])
    (ha : s₁.heap.get? a = some { cls := .type "list", data := .seq vs.toArray }) (hi : IntsAre vs ns) (hl : ns.length ≤ sizeLine) (hr : Room k callerA)
    (F : ∀ base : Heap, K.In base → base.Ns mainGlobals mg → FnOk P w K mg base CX k fa fd [x] sp) (hbind : ∀ (s : Shared) (u : Value), BindsTo s fd ⟨[u], []⟩ [(x, u)])
    (hsp : ∀ H : Hp, Only H → SqL K H a (ns.map V.int) → sp [.ref a] H (fun v _ => v = .bl true) fun _ _ _ => False)
    (hCX : ∀ H e s', CX [] H s₁ (fun _ _ _ => False) e s' → False) :
    codeAny (model P w) callerA (.call (.ref fa) ⟨[.ref a], []⟩) (fun r s' => r = .ok (.ret (.bool true)) ∧ OldK s₁.heap s'.heap ∧ s'.os = s₁.os ∧ AllBare s'.gens) s₁ := by
  have rv := vals_ints hi
  have lenV := hi.length
  -- from an abstract heap in which nothing but the script may be tracked
  have core : ∀ H : Hp, Only H → SqL K H a (ns.map V.int) → HOk P w H s₁.heap → (∀ b, H b ≠ none → b = a) → (H a ≠ none → K.lookup a = none) →
      codeAny (model P w) callerA (.call (.ref fa) ⟨[.ref a], []⟩) (fun r s' => r = .ok (.ret (.bool true)) ∧ OldK s₁.heap s'.heap ∧ s'.os = s₁.os ∧ AllBare s'.gens) s₁ := by
    intro H hO hS hok hA hK
    have base_of : ∀ {b : Addr} {o : Obj}, s₁.heap.get? b = some o → H b = none → (hidT s₁.heap H).get? b = some o := fun e n => hidT_get e n
    have noA : ∀ {b : Addr} {o : Obj} {es : Array DictEntry} {ep : Nat}, s₁.heap.get? b = some o → o.data = .dict es ep → H b = none := fun {b o es ep} e d => by
      cases q : H b with
      | none => rfl
      | some u =>
        have e' : b = a := hA b (by rw [q]; simp)
        subst e'
        rw [ha] at e; cases e
        have d' : Data.seq vs.toArray _ = Data.dict es ep := d
        cases d'
    have nsK : ∀ {b : Addr} {m : Str → Option Value}, s₁.heap.Ns b m → (hidT s₁.heap H).Ns b m := fun {b m} ⟨o, es, ep, e, d, r⟩ => ⟨o, es, ep, base_of e (noA e d), d, r⟩
    have hKb : K.In (hidT s₁.heap H) := fun b o e => base_of (KX b o e) (by
      cases q : H b with
      | none => rfl
      | some u =>
        have e' : b = a := hA b (by rw [q]; simp)
        subst e'
        rw [hK (by rw [q]; simp)] at e; cases e)
    have hM : Mod K mg (hidT s₁.heap H) := ⟨hKb, nsK hns, ⟨mb, nsK hb, hbb⟩, let ⟨mc, h1, h2⟩ := hlim; ⟨mc, nsK h1, h2⟩⟩
    have e0 : Env0 P w K mg (hidT s₁.heap H) callerA [] s₁ H := ⟨rfl, hM, fun b o e => of_hidT e, Nat.le_of_eq (hidT_size _ _), trivial, fun b hb => absurd (show b ∈ ([] : List Addr) from hb) (by simp), hok, .of_eq hg⟩
    refine codeAny_mono ((F _ hKb (nsK hns)).run callerA [] s₁ H ⟨[.ref a], []⟩ [.ref a] [.ref a] _ _ hr e0 (hbind s₁ (.ref a)) (.cons rfl .nil) (hsp H hO hS)) fun r s' h => ?_
    cases r with
    | error e => exact (hCX H e s' h).elim
    | ok fl =>
      cases fl with
      | next => exact False.elim h
      | brk => exact False.elim h
      | cont => exact False.elim h
      | ret u =>
        obtain ⟨v, H', os, bare, un, hok', r', q⟩ := h
        have q' : v = .bl true := q
        subst q'
        obtain rfl : u = Value.bool true := r'
        refine ⟨rfl, OldK.of_keep fun b o e => ?_, os, bare⟩
        cases q : H b with
        | none => exact un.keep b o e q (by intro z; exact absurd (show b ∈ ([] : List Addr) from z) (by simp)) (by simp)
        | some u =>
          rcases hO b with z | ⟨ob, xs, z⟩
          · rw [q] at z; cases z
          · have z2 := un.frzs b ob _ z
            obtain ⟨e1, _⟩ := hok b _ z
            obtain ⟨e2, _⟩ := hok' b _ z2
            rw [e] at e1; cases e1
            exact e2
  cases hk : K.lookup a with
  | some o =>
    -- the script is one of the module's own objects
    have e := KX a o hk
    rw [ha] at e
    cases e
    refine core (fun _ => none) (fun _ => .inl rfl) (.inr ⟨_, vs.toArray, _, hk, rfl, rfl, rfl, by rw [List.size_toArray, lenV]; exact hl, by simpa using rv⟩) (fun b u z => by have z' : (none : Option HO) = some u := z; cases z') (fun b z => absurd rfl z) fun z => absurd rfl z
  | none =>
    refine core (fun b => if b = a then some (.frz { cls := .type "list", data := .seq vs.toArray } (.lst (ns.map V.int))) else none) (fun b => ?_) (.inl (.inr ⟨{ cls := .type "list", data := .seq vs.toArray }, if_pos rfl⟩)) (fun b u z => ?_) (fun b z => ?_) fun _ => hk
    · by_cases hb : b = a
      · exact .inr ⟨_, _, if_pos hb⟩
      · exact .inl (if_neg hb)
    · by_cases hb : b = a
      · have z' := (if_pos hb).symm.trans z
        cases z'
        subst hb
        exact ⟨ha, by rw [List.length_map]; exact hl, vs, _, rv, ha⟩
      · have z' := (if_neg hb).symm.trans z
        cases z'
    · by_cases hb : b = a
      · exact hb
      · exact absurd (if_neg hb) z
end L2

namespace L2
open PySem PySem.Spec PyProof.Rows

abbrev KOf {K : PySem.W.Frag} {h : Heap} (_ : K.In h) : PySem.W.Frag := K

/-- the goal that k_head leaves (case hc), from the law's promise. F gives the function object fd (K's own) once, then the promise over every base -/
theorem walk_of {l : PySem.W.OpenLaw} {n k : Nat} {q : Program} {loose : List Str} {XP : (Str → Option Value) → Heap → Prop} {YP : World → Heap → Prop} {d : DefRec} {K : Params → PySem.W.Frag} {CX : World → CXT} {sp : World → Sp} {x : Str}
    (hn : l.most = some n) (hn2 : n ≤ sizeLine) (hdf : d.params.defaults = []) (hr : Room k callerA)
    (hY : ∀ (w : World) (h : Heap), YP w h → (K w.params).In h)
    (F : ∀ (w : World) (mg : Str → Option Value) (fa : Addr) (h : Heap), (K w.params).In h → h.Ns mainGlobals mg → mg d.name = some (.ref fa) →
      ∃ fd : FuncData, (∀ (s : Shared) (u : Value), BindsTo s fd ⟨[u], []⟩ [(x, u)]) ∧
        ∀ base : Heap, (K w.params).In base → base.Ns mainGlobals mg → FnOk l.prog w (K w.params) mg base (CX w) k fa fd [x] (sp w))
    (hsp : ∀ (w : World) (H : Hp) (a : Addr) (ns : List Int), ns.length ≤ n → Only H → SqL (K w.params) H a (ns.map V.int) → sp w [.ref a] H (fun v _ => v = .bl true) fun _ _ _ => False)
    (hCX : ∀ (w : World) (H : Hp) (s : Shared) (e : Value) (s' : Shared), CX w [] H s (fun _ _ _ => False) e s' → False) :
    PySem.W.WalkO q loose XP YP l.row.toRowW d [] (fun f vs => PySem.call f vs) := by
  refine Att.attach_call hn hdf fun w s₀ s₁ mg mb fa o pm cd doc a vs ns G Y ho hd hcd hmg hobj hints hlen hg => ?_
  have KX := hY w _ Y
  obtain ⟨fd, hb, hF⟩ := F w mg fa _ KX G.T.g hmg
  exact law_call KX G.T.g G.T.b G.T.builtins G.T.nolimit hg hobj hints (Nat.le_trans hlen hn2) hr hF hb (fun H hO hS => hsp w H a ns hlen hO hS) fun H e s' => hCX w H s₁ e s'
/-- the same where the promise hangs on the written part alone: (sp := My.sp_law), no hole under a binder -/
theorem walk_ofK {l : PySem.W.OpenLaw} {n k : Nat} {q : Program} {loose : List Str} {XP : (Str → Option Value) → Heap → Prop} {YP : World → Heap → Prop} {d : DefRec} {K : Params → PySem.W.Frag} {CX : CXT} {sp : PySem.W.Frag → Sp} {x : Str}
    (hn : l.most = some n) (hn2 : n ≤ sizeLine) (hdf : d.params.defaults = []) (hr : Room k callerA)
    (hY : ∀ (w : World) (h : Heap), YP w h → (K w.params).In h)
    (F : ∀ (w : World) (mg : Str → Option Value) (fa : Addr) (h : Heap), (K w.params).In h → h.Ns mainGlobals mg → mg d.name = some (.ref fa) →
      ∃ fd : FuncData, (∀ (s : Shared) (u : Value), BindsTo s fd ⟨[u], []⟩ [(x, u)]) ∧
        ∀ base : Heap, (K w.params).In base → base.Ns mainGlobals mg → FnOk l.prog w (K w.params) mg base CX k fa fd [x] (sp (K w.params)))
    (hsp : ∀ (K : PySem.W.Frag) (H : Hp) (a : Addr) (ns : List Int), ns.length ≤ n → Only H → SqL K H a (ns.map V.int) → sp K [.ref a] H (fun v _ => v = .bl true) fun _ _ _ => False)
    (hCX : ∀ (H : Hp) (s : Shared) (e : Value) (s' : Shared), CX [] H s (fun _ _ _ => False) e s' → False) :
    PySem.W.WalkO q loose XP YP l.row.toRowW d [] (fun f vs => PySem.call f vs) :=
  walk_of (K := K) (CX := fun _ => CX) (sp := fun w => sp (K w.params)) hn hn2 hdf hr hY F (fun w H a ns h1 h2 h3 => hsp (K w.params) H a ns h1 h2 h3) fun _ H s e s' => hCX H s e s'
end L2

/- THE LAST THEOREM (shape; LID, My.* are yours):
   My.Adr: a structure of the addresses that your layer names (classes, functions); My.Txt K t: a structure (Prop) of the equations over K;
   My.txt_mk : {K} {implicit addresses ..} (e1 : nsIn K mainGlobals "law" = some (some (.ref f))) (e2 : K.lookup f = some ⟨oc, od, .func (fnOf "law" "law" params body scope dV kV doc pm an cdv ct), sl⟩) (e3 : codeIn K cdv "law" = true) .. : ∃ t, My.Txt K t

set_option maxRecDepth 100000 in
set_option maxHeartbeats 0 in
theorem PySem.Challenge.cw_LID_holds : PySem.Challenge.rw_LID.Holds := by
  w_on; o_law; k_head; (case hw => w_witness2)
  k_fill
  refine L2.walk_of (l := PySem.Challenge.rw_LID) (n := 63) (k := 40) (x := "script") (CX := fun w => ..) (sp := fun _ => My.sp_law) rfl (by decide) rfl ⟨rfl, by decide, by decide⟩ (fun w h Y => PySem.W.kIn_of Y) ?F ?S ?C
  case F =>
    intro w mg fa h KX G hmg
    have T : ∃ t, My.Txt (L2.KOf KX) t := by
      dsimp only [L2.KOf]                          -- K must stand as «<heap const> w.params» for k_is
      refine' My.txt_mk ?e1 ?e2 ?e3 ..
      (case e1 => PySem.W.k_is)                    -- in the order: a name -> its address -> its object -> its parts
      (case e2 => PySem.W.k_is)
      ..
    obtain ⟨t, T⟩ := T
    have e0 := hmg.symm.trans (PySem.W.mg_of KX G T.law)
    cases e0                                       -- fa is the law's own address
    exact ⟨_, fun s u => .of_eq rfl, fun base kb nb => My.law_fn T kb nb⟩     -- if «.of_eq rfl» comes too early: refine' ⟨_, ?b, fun base kb nb => My.law_fn T kb nb⟩; exact fun s u => .of_eq rfl
  case S => exact fun w H a ns hl hO hS => ..
  case C => exact ..
(the tactic k_is has no namespace: write k_is) -/

/-! SHORT WORDS over the layer: a def of the text, its body, what a loop and a test want. -/
namespace L2
open PySem PySem.Spec PyProof.Rows

/-! ### the text by places -/
/-- the j-th statement of a class's body -/
def inClass (s : Stmt) (j : Nat) : Stmt := match s with
  | .ClassDef _ _ _ body _ _ _ _ _ _ _ => body.getD j (.Pass ⟨0, 0, 0, 0⟩)
  | _ => .Pass ⟨0, 0, 0, 0⟩
def defArgs (s : Stmt) : Arguments := match s with
  | .FunctionDef _ a _ _ _ _ _ _ _ _ => a
  | _ => { posonlyargs := [], args := [], vararg := none, kwonlyargs := [], kw_defaults := [], kwarg := none, defaults := [] }
def defBody (s : Stmt) : List Stmt := match s with
  | .FunctionDef _ _ b _ _ _ _ _ _ _ => b
  | _ => []
def defScope (s : Stmt) : Scope := match s with
  | .FunctionDef _ _ _ _ _ _ sc _ _ _ => sc
  | _ => { kind := .function, names := [], isGenerator := false, isCoroutine := false }

/-! ### no exception leaves a def -/
abbrev CX0 : CXT := fun _ _ _ _ _ _ => False
abbrev E0 : XK := fun _ _ _ => False
theorem pass0 {X : Cx} : Passes CX0 X E0 := fun _ _ _ _ _ _ _ h => h.elim

/-! ### a def (or method) of the text as it stands behind the top -/
structure Fun (K : PySem.W.Frag) (x qual : Str) (st : Stmt) (f : Addr) (fd : FuncData) : Prop where
  ex : ∃ (oc : Value) (od : Option Addr) (kV doc pm : Value) (an : Option Addr) (cdv ct : Value) (osl : Array (Option Value)),
    fd = PySem.W.fnOf x qual (defArgs st) (defBody st) (defScope st) .none kV doc pm an cdv ct ∧ K.lookup f = some ⟨oc, od, .func fd, osl⟩ ∧ PySem.W.codeIn K cdv qual = true
  kp : PySem.W.keepIn K (.ref f) = true
section
variable {P : Program} {w : World} {K : PySem.W.Frag} {mg : Str → Option Value} {base : Heap}
/-- THE RULE for a def: its body as a term of rules, and the reading of that term -/
theorem Fun.ok {x qual : Str} {st : Stmt} {f : Addr} {fd : FuncData} {N ps : List Str} {k : Nat} {sp : Sp} (F : Fun K x qual st f fd) (S : FnScope N ps (defScope st)) (len : ∀ vs H Q E, sp vs H Q E → vs.length = ps.length)
    (hbody : ∀ (cdv : Value) (A : Around) (outer : List Env) (s : Shared) (H : Hp) (vs : List V) (Q : VK) (E : XK), Room k (A.deeper (envOfC qual (defScope st) s.heap.objs.size f cdv)) → sp vs H Q E →
      ∃ t, PSs (cxOf CX0 P w K mg base N qual (defScope st) f cdv A outer s H E).nox (defBody st) t ∧ t { nx := fun _ H' => Q .non H', rt := Q } (start N vs) H) : FnOk P w K mg base CX0 (k + 1) f fd ps sp := by
  obtain ⟨oc, od, kV, doc, pm, an, cdv, ct, osl, rfl, lk, hcd⟩ := F.ex
  refine fn_of lk hcd S len fun A outer s H vs Q E hr hsp => ?_
  obtain ⟨t, h, q⟩ := hbody cdv A outer s H vs Q E hr hsp
  exact ⟨t, h.nox, q⟩
/-- how its arguments bind (no defaults): h is «fun _ _ _ _ _ _ us hl => match us, hl with | [_, _], _ => rfl», one _ a parameter -/
theorem Fun.binds {x qual : Str} {st : Stmt} {f : Addr} {fd : FuncData} {ps : List Str} (F : Fun K x qual st f fd)
    (h : ∀ (kV doc pm : Value) (an : Option Addr) (cdv ct : Value) (us : List Value), us.length = ps.length → bindArgs (PySem.W.fnOf x qual (defArgs st) (defBody st) (defScope st) .none kV doc pm an cdv ct) ⟨us, []⟩ = pure (ps.zip us)) : Binds K fd ps [] := by
  obtain ⟨oc, od, kV, doc, pm, an, cdv, ct, osl, rfl, lk, hcd⟩ := F.ex
  exact .all (h kV doc pm an cdv ct)
theorem fun_mk {x qual : Str} {st : Stmt} {f : Addr} {oc : Value} {od an : Option Addr} {osl : Array (Option Value)} {kV doc pm cdv ct : Value} (l : K.lookup f = some ⟨oc, od, .func (PySem.W.fnOf x qual (defArgs st) (defBody st) (defScope st) .none kV doc pm an cdv ct), osl⟩)
    (c : PySem.W.codeIn K cdv qual = true) (k : PySem.W.keepIn K (.ref f) = true) : Fun K x qual st f (PySem.W.fnOf x qual (defArgs st) (defBody st) (defScope st) .none kV doc pm an cdv ct) := ⟨⟨oc, od, kV, doc, pm, an, cdv, ct, osl, rfl, l, c⟩, k⟩
end
theorem hu_of {A : Around} {k : Nat} (hr : Room k A) : A.units + 1 < cLine := Nat.lt_of_le_of_lt (Nat.add_le_add_left (by decide : 1 ≤ 64) _) hr.units
theorem small1000 {n : Nat} (h : n ≤ 1000) : n < sizeLine := Nat.lt_of_le_of_lt h (by decide)

/-! ### expressions in short: the name that stands in the i-th slot -/
section
variable {X : Cx}
theorem pv (i : Nat) {x : Str} {pos : Pos} (hN : X.N[i]? = some x := by rfl) (hv : Vis X.env.scope x := by first | exact Or.inl rfl | exact Or.inr (Or.inl rfl) | exact Or.inr (Or.inr rfl)) (hd : (x == ("__debug__" : Str)) = false := by decide)
    (hcd : (x == ("__classdict__" : Str)) = false := by decide) : PE X (.Name x pos) (tVar i) := pe_var hN hv hd hcd
end

/-! ### tests -/
theorem iteF {A B : Prop} (h : B) : if false = true then A else B := by
  rw [if_neg Bool.false_ne_true]
  exact h
theorem iteT {A B : Prop} (h : A) : if true = true then A else B := by
  rw [if_pos rfl]
  exact h
theorem ite2 {c A B : Prop} [Decidable c] (h1 : c → A) (h2 : ¬ c → B) : if c then A else B := by
  by_cases h : c
  · rw [if_pos h]
    exact h1 h
  · rw [if_neg h]
    exact h2 h
theorem iteNS {c A B : Prop} [Decidable c] (hc : c) (h : B) : if (!decide c) = true then A else B := by
  rw [decide_eq_true hc]
  exact iteF h

/-! ### heaps -/
/-- all that was tracked is as it was -/
def Same (H H' : Hp) : Prop := ∀ b o, H b = some o → H' b = some o
theorem Same.refl (H : Hp) : Same H H := fun _ _ h => h
theorem Same.trans {H H1 H2 : Hp} (a : Same H H1) (b : Same H1 H2) : Same H H2 := fun c o h => b c o (a c o h)
theorem Same.free {H H' : Hp} (e : Same H H') {l : Addr} (h : H' l = Option.none) : H l = Option.none := by
  cases q : H l with
  | none => rfl
  | some o =>
    rw [e l o q] at h
    cases h
theorem Same.seq {K : PySem.W.Frag} {H H' : Hp} {a : Addr} {xs : List V} (e : Same H H') (h : SqL K H a xs) : SqL K H' a xs := by
  rcases h with (h | ⟨o, h⟩) | h
  · exact .inl (.inl (e _ _ h))
  · exact .inl (.inr ⟨o, e _ _ h⟩)
  · exact .inr h

end L2

set_option maxHeartbeats 4000000

/-! ## OWN WORDS: a def of the text as callers see it -/
namespace L2
open PySem PySem.Spec PyProof.Rows
structure DefAt (K : PySem.W.Frag) (mg : Str → Option Value) (x : Str) (st : Stmt) (f : Addr) (fd : FuncData) : Prop where
  fn : Fun K x x st f fd
  here : mg x = some (.ref f)
structure Cal (P : Program) (w : World) (K : PySem.W.Frag) (mg : Str → Option Value) (base : Heap) (x : Str) (k : Nat) (ps : List Str) (sp : Sp) : Prop where
  ex : ∃ f fd, FnOk P w K mg base CX0 k f fd ps sp ∧ mg x = some (.ref f) ∧ PySem.W.keepIn K (.ref f) = true ∧ Binds K fd ps []
theorem Cal.of {P : Program} {w : World} {K : PySem.W.Frag} {mg : Str → Option Value} {base : Heap} {x : Str} {st : Stmt} {f : Addr} {fd : FuncData} {N ps : List Str} {k : Nat} {sp : Sp} (D : DefAt K mg x st f fd) (S : FnScope N ps (defScope st))
    (hb : ∀ (kV doc pm : Value) (an : Option Addr) (cdv ct : Value) (us : List Value), us.length = ps.length → bindArgs (PySem.W.fnOf x x (defArgs st) (defBody st) (defScope st) .none kV doc pm an cdv ct) ⟨us, []⟩ = pure (ps.zip us))
    (len : ∀ vs H Q E, sp vs H Q E → vs.length = ps.length)
    (hbody : ∀ (cdv : Value) (A : Around) (outer : List Env) (s : Shared) (H : Hp) (vs : List V) (Q : VK) (E : XK), Room k (A.deeper (envOfC x (defScope st) s.heap.objs.size f cdv)) → sp vs H Q E →
      ∃ t, PSs (cxOf CX0 P w K mg base N x (defScope st) f cdv A outer s H E).nox (defBody st) t ∧ t { nx := fun _ H' => Q .non H', rt := Q } (start N vs) H) : Cal P w K mg base x (k + 1) ps sp :=
  ⟨f, fd, D.fn.ok S len hbody, D.here, D.fn.kp, D.fn.binds hb⟩
theorem pe_cal {X : Cx} {x : Str} {k : Nat} {ps : List Str} {sp : Sp} {e : Expr} {es : List Expr} {t : TA} {p pos : Pos} (C : Cal X.prog X.w X.K X.mg X.base x k ps sp) (hr : Room k X.A) (hg : Gl X x) (ha : PA X (e :: es) t)
    (hdb : (x == ("__debug__" : Str)) = false := by decide) (he : starEach (e :: es) X.env = (false, eval e X.env) :: starEach es X.env := by rfl) (hpl : (backTo pos (starEach es X.env)).any (·.1) = false := by rfl) :
    PE X (.Call (.Name x p) (e :: es) [] pos) (tCall sp [] E0 t) := by
  obtain ⟨f, fd, F, hm, hk, hb⟩ := C.ex
  exact pe_call F hr hg hm hk hb .nil pass0 ha hdb he hpl
/-- a promise over n arguments -/
def spL (n : Nat) (R : List V → Hp → VK → Prop) : Sp := fun vs H Q _ => vs.length = n ∧ R vs H Q
/-- what the text's own names leave of the built-in ones -/
structure Blt (mg : Str → Option Value) : Prop where
  len : mg "len" = none
  range : mg "range" = none
  max : mg "max" = none
  min : mg "min" = none
  isinstance : mg "isinstance" = none
  int : mg "int" = none
  bool : mg "bool" = none
  tuple : mg "tuple" = none
  list : mg "list" = none
  all : mg "all" = none
  zip : mg "zip" = none
  reversed : mg "reversed" = none
structure Kit (K : PySem.W.Frag) : Prop where
  int_int : PySem.W.kitOne K (.type "int") (.type "int") = some true
  int_bool : PySem.W.kitOne K (.type "int") (.type "bool") = some false
  bool_int : PySem.W.kitOne K (.type "bool") (.type "int") = some true
  bool_bool : PySem.W.kitOne K (.type "bool") (.type "bool") = some true
  tuple_tuple : PySem.W.kitOne K (.type "tuple") (.type "tuple") = some true
  list_list : PySem.W.kitOne K (.type "list") (.type "list") = some true
theorem Same.new {H : Hp} {p : Addr} {o : HO} (h : H p = none) : Same H (upd H p o) := fun b u e => by rw [upd_ne (ne_of_none e h)]; exact e
/-- the promise of a law -/
def spLaw (K : PySem.W.Frag) : Sp := spL 1 fun vs H Q => ∃ (a : Addr) (ns : List Int), vs = [.ref a] ∧ SqL K H a (ns.map V.int) ∧ ns.length ≤ 63 ∧ ∀ H', Q (.bl true) H'
theorem law_walk {l : PySem.W.OpenLaw} {k : Nat} {q : Program} {loose : List Str} {XP : (Str → Option Value) → Heap → Prop} {YP : World → Heap → Prop} {d : DefRec} {K : Params → PySem.W.Frag} (hn : l.most = some 63) (hdf : d.params.defaults = []) (hr : Room k callerA)
    (hY : ∀ (w : World) (h : Heap), YP w h → (K w.params).In h)
    (F : ∀ (w : World) (mg : Str → Option Value) (fa : Addr) (h : Heap), (K w.params).In h → h.Ns mainGlobals mg → mg d.name = some (.ref fa) →
      ∃ fd : FuncData, (∀ (s : Shared) (u : Value), BindsTo s fd ⟨[u], []⟩ [("_law_script", u)]) ∧ ∀ base : Heap, (K w.params).In base → base.Ns mainGlobals mg → FnOk l.prog w (K w.params) mg base CX0 k fa fd ["_law_script"] (spLaw (K w.params))) :
    PySem.W.WalkO q loose XP YP l.row.toRowW d [] (fun f vs => PySem.call f vs) :=
  L2.walk_of (n := 63) (k := k) (x := "_law_script") (CX := fun _ => CX0) (sp := fun w => spLaw (K w.params)) hn (by decide) hdf hr hY F (fun _ _ a ns hl _ hS => ⟨rfl, a, ns, rfl, hS, hl, fun _ => rfl⟩) fun _ _ _ _ _ z => z
end L2
/-! ### displays: the heap behind them is a letter -/
namespace L2
open PySem PySem.Spec PyProof.Rows
section
variable {X : Cx} {e : Expr} {es : List Expr} {te : TE} {t : TA} {pos : Pos}
def tTupS (t : TA) : TE := fun σ H Q => t σ H fun xs H1 => xs.length ≤ sizeLine ∧ ∀ p H', H1 p = none → Same H1 H' → H' p = some (.tup xs) → Q (.ref p) H'
def tLstS (t : TA) : TE := fun σ H Q => t σ H fun xs H1 => xs.length ≤ sizeLine ∧ ∀ p H', H1 p = none → Same H1 H' → H' p = some (.lst xs) → Q (.ref p) H'
theorem pe_tupS {x1} (h : PA X es t) : PE X (.Tuple es x1 pos) (tTupS t) := by
  intro pins s σ H Q I hq
  refine wpAny_Tuple_spliced (thn (h pos pins s σ H _ I hq) fun us s1 ⟨xs, H1, I1, r, z, q⟩ => ⟨by rw [← r.length]; exact z, ?_⟩)
  have hf : H1 s1.heap.objs.size = none := I1.hok.fresh (Nat.le_refl _)
  refine ⟨.ref s1.heap.objs.size, upd H1 s1.heap.objs.size (.tup xs), I1.laid (t' := s1.toks) (fun b u e => Heap.get?_push_of_some _ e) (Nat.le_refl _) ?_, rfl, q _ _ hf (Same.new hf) upd_same⟩
  exact ⟨z, us, r, ⟨_, Heap.get?_push_size _ rfl, rfl, _, rfl⟩⟩
theorem pe_lstS (h : PA X es t) : PE X (.List es pos) (tLstS t) := by
  intro pins s σ H Q I hq
  refine wpAny_List_spliced (thn (h pos pins s σ H _ I hq) fun us s1 ⟨xs, H1, I1, r, z, q⟩ => ⟨by rw [← r.length]; exact z, ?_⟩)
  have hf : H1 s1.heap.objs.size = none := I1.hok.fresh (Nat.le_refl _)
  refine ⟨.ref s1.heap.objs.size, upd H1 s1.heap.objs.size (.lst xs), I1.laid (t' := s1.toks) (fun b u e => Heap.get?_push_of_some _ e) (Nat.le_refl _) ?_, rfl, q _ _ hf (Same.new hf) upd_same⟩
  exact ⟨z, us, 0, r, Heap.get?_push_size _ rfl⟩
end
theorem iteB {c : Bool} {A B : Prop} (hc : c = false) (h : B) : if c = true then A else B := by
  rw [hc]; exact iteF h
theorem iteA {c : Bool} {A B : Prop} (hc : c = true) (h : A) : if c = true then A else B := by
  rw [hc]; exact iteT h
end L2

/-! ## OWN RULES over the layer: stepped ranges, isinstance, == of tuples, list comprehensions -/
namespace L2
open PySem PySem.Spec PyProof.Rows

/-! ### range with a step -/
def Itrs (lo c : Int) (n : Nat) : It := ⟨fun i _ => i < n, fun i H x H' => H' = H ∧ x = .int (lo + i * c), fun i _ => n ≤ i⟩
theorem turn_rangeS {P : Program} {w : World} {K : PySem.W.Frag} {tg : Expr} (it : Addr) (lo c : Int) (n : Nat) : Turn P w K tg (Itrs lo c n) [it] it (fun i h => IsRangeIter h it (lo + (i : Nat) * c) ((n : Int) - (i : Nat)) c) where
  mem := by simp
  obj := fun i h st b hb => by
    have e : b = it := by simpa using hb
    subst e
    exact ⟨_, st, fun v z => by
      have z' : Data.fields _ = Data.cell v := z
      cases z'⟩
  keep := fun i h h' st k => k it (by simp) _ st
  item := by
    intro X hP hw hK hc i pins s σ H E I hf st hg
    subst hP hw hK
    obtain ⟨f0, f1, f2, f3, f4, f5⟩ := hf it (by simp)
    have W := Walks.range (prog := X.prog) (w := X.w) (I.ok.hd hc) it lo c n
    refine W.item i s _ _ hg st fun v h' tk hv st' kk => ?_
    obtain ⟨t, rfl⟩ := hv
    have I1 : Inv X pins σ H { s with heap := h', toks := tk } := I.turned (fun b o hb e => kk b o (by simpa using hb) e) f0 f1 f3 f4 f5
    exact ⟨_, rfl, go_of (s := { s with heap := h', toks := tk }) (n := "range_iterator") st' rfl rfl (by decide) ⟨.int (lo + i * c), H, I1, ⟨t, rfl⟩, ⟨rfl, rfl⟩, st', fun b hb => (hf b hb).1⟩⟩
  done := by
    intro X hP hw hK hc i pins s σ H E I hf st hg
    subst hP hw hK
    obtain ⟨f0, f1, f2, f3, f4, f5⟩ := hf it (by simp)
    exact wpAny_pyNext_range_end (I.ok.hd hc) st (by have : n ≤ i := hg; omega) fun h' eb => ⟨rfl, I.turned (t' := s.toks) (fun b o hb e => eb b o hb e) f0 f1 f3 f4 f5⟩
  self := fun _ _ _ _ _ st h => wpAny_pyIter_rangeiter st h
theorem small_step {a b c : Int} (ha : -(2 ^ 61) ≤ a) (ha' : a < 2 ^ 61) (hb : -(2 ^ 61) ≤ b) (hb' : b < 2 ^ 61) (hc : 0 < c) (hc' : c < 2 ^ 61) : Builtin.Range.small a b c = true := by
  have h1 : 0 ≤ Builtin.Range.rangeSize a b c ∧ Builtin.Range.rangeSize a b c ≤ 2 ^ 62 := by
    unfold Builtin.Range.rangeSize
    rw [if_pos (show c > 0 from hc)]
    split
    · have e1 : (b - a - 1) / c ≤ b - a - 1 := Int.ediv_le_self _ (by omega)
      have e2 : 0 ≤ (b - a - 1) / c := Int.ediv_nonneg (by omega) (by omega)
      omega
    · omega
  unfold Builtin.Range.small
  generalize Builtin.Range.rangeSize a b c = z at h1
  simp only [Builtin.Range.rangeFitsLong, Bool.and_eq_true, Bool.or_eq_true, decide_eq_true_eq, beq_iff_eq, show c > 0 from hc, if_true]
  omega
section
variable {X : Cx} {tg : Expr}
/-- how many numbers range(i, j, c) has, c above 0 -/
def rngN (i j c : Int) : Nat := (Builtin.Range.rangeSize i j c).toNat
def iRng3 (ta : TA) : TI := fun σ H R => ta σ H fun vs H1 => ∃ i j c : Int, vs = [.int i, .int j, .int c] ∧ (-(2 ^ 61) ≤ i ∧ i < 2 ^ 61 ∧ -(2 ^ 61) ≤ j ∧ j < 2 ^ 61 ∧ 0 < c ∧ c < 2 ^ 29) ∧ R (Itrs i c (rngN i j c)) H1
theorem pi_range3 {a b d : Expr} {ta : TA} {p pos : Pos} (hg : Gl X "range") (hm : X.mg "range" = none) (ha : PA X [a, b, d] ta) (hs : starEach [a, b, d] X.env = (false, eval a X.env) :: starEach [b, d] X.env := by rfl)
    (hpl : (backTo pos (starEach [b, d] X.env)).any (·.1) = false := by rfl) :
    PI X tg (.Call (.Name "range" p) [a, b, d] [] pos) (iRng3 ta) := by
  intro pins s σ H R I h
  refine Call_ (ld_blt I hg hm boot_range (PyProof.Rows.callWith_type1 (thn (ha pos pins s σ H _ I h) fun us s1 ⟨vs, H1, I1, r1, q1⟩ => ?_) hs hpl))
  obtain ⟨i, j, c, e, ⟨q1, q2, q3, q4, q5, q6⟩, q⟩ := q1
  subst e
  cases r1 with
  | cons r rr =>
    cases rr with
    | cons r' rr =>
      cases rr with
      | cons r'' rr =>
        cases rr
        obtain ⟨t, rfl⟩ := r
        obtain ⟨t', rfl⟩ := r'
        obtain ⟨t'', rfl⟩ := r''
        refine PySem.call_range_3 (by omega) ?_ (.inl (PyProof.noPylong_small (by omega)))
        refine wpAny_pyIter_range (IsRange.new ..) (small_step q1 q2 q3 q4 q5 (by omega)) ?_
        have I2 : Inv X pins σ H1 { s1 with heap := s1.heap.push { cls := .type "range", data := .fields #[.int i t, .int j t', .int c t''] }, toks := s1.toks } := I1.kept fun b o e => Heap.get?_push_of_some _ e
        refine ⟨(s1.heap.push { cls := .type "range", data := .fields #[.int i t, .int j t', .int c t''] }).objs.size, [(s1.heap.push { cls := .type "range", data := .fields #[.int i t, .int j t', .int c t''] }).objs.size], _, _, H1, rfl,
          I2.kept (t' := s1.toks) fun b o e => Heap.get?_push_of_some _ e, turn_rangeS _ i c (rngN i j c), ?_, fun b hb => ?_, q⟩
        · have e1 : i + ((0 : Nat) : Int) * c = i := by simp
          have e2 : ((rngN i j c : Nat) : Int) - ((0 : Nat) : Int) = Builtin.Range.rangeSize i j c := by
            have z : 0 ≤ Builtin.Range.rangeSize i j c := by
              unfold Builtin.Range.rangeSize
              rw [if_pos (show c > 0 from q5)]
              split
              · have e2 : 0 ≤ (j - i - 1) / c := Int.ediv_nonneg (by omega) (by omega)
                omega
              · omega
            unfold rngN; omega
          show IsRangeIter _ _ (i + ((0 : Nat) : Int) * c) (((rngN i j c : Nat) : Int) - ((0 : Nat) : Int)) c
          rw [e1, e2]
          exact Heap.get?_push_size _ rfl
        · have e : b = (s1.heap.push { cls := .type "range", data := .fields #[.int i t, .int j t', .int c t''] }).objs.size := by simpa using hb
          subst e
          exact I2.fpOk (Nat.le_refl _) (I2.hok.fresh (Nat.le_refl _))
end
theorem for_rangeS {lo c : Int} {n : Nat} {g : TG} {tb : TS} {D : Ends} {σ : St} {H : Hp} (Pv : Nat → St → Hp → Prop) (h0 : Pv 0 σ H)
    (hs : ∀ i σ H, i < n → Pv i σ H → g (.int (lo + i * c)) σ H fun σ2 H2 => tb { D with nx := Pv (i + 1), ct := Pv (i + 1), bk := D.nx } σ2 H2) (hd : ∀ σ H, Pv n σ H → D.nx σ H) :
    ∃ W : Nat → Nat → St → Hp → Prop, (∃ m, W 0 m σ H) ∧ ∀ i m σ H, W i m σ H →
      ((Itrs lo c n).stop i H ∧ D.nx σ H) ∨ ((Itrs lo c n).go i H ∧ ∃ N : St → Hp → Prop, (∀ σ' H', N σ' H' → ∃ m', m' < m ∧ W (i + 1) m' σ' H') ∧ ∀ x H', (Itrs lo c n).yld i H x H' → g x σ H' fun σ2 H2 => tb { D with nx := N, ct := N, bk := D.nx } σ2 H2) := by
  refine ⟨fun i m σ H => m = n - i ∧ i ≤ n ∧ Pv i σ H, ⟨n, by simp, Nat.zero_le _, h0⟩, ?_⟩
  rintro i m σ H ⟨rfl, hi, p⟩
  by_cases hlt : i < n
  · refine .inr ⟨hlt, Pv (i + 1), fun σ' H' p' => ⟨n - (i + 1), by omega, rfl, hlt, p'⟩, fun x H' y => ?_⟩
    obtain ⟨e, y⟩ := y
    subst e y
    exact hs i σ _ hlt p
  · have e : i = n := by omega
    subst e
    exact .inl ⟨Nat.le_refl _, hd σ H p⟩

/-! ### isinstance(x, T), T a built-in type -/
section
variable {X : Cx}
def rIsI (K : PySem.W.Frag) : List V → Hp → VK → Prop := fun xs H Q => ∃ x t n b, xs = [x, .ty n] ∧ TyOf K H x t ∧ PySem.W.kitOne K t (.type n) = some b ∧ Q (.bl b) H
theorem call_isinst : CallR X (.builtin "isinstance") (rIsI X.K) := by
  intro pins s σ H xs us Q I r h
  obtain ⟨x, t, n, b, rfl, ty, e, q⟩ := h
  obtain ⟨u, w', rfl, r1, r2⟩ := vals2 r
  cases r2
  exact isinst_ok I r1 ty e fun tk => ⟨.bl b, H, I.tok tk, rfl, q⟩

/-! ### == of two tuples of flat things -/
def eAt (xs ys : List V) (j : Nat) : Bool := match xs[j]?, ys[j]? with
  | some x, some y => eqV x y
  | _, _ => true
def eqVs (xs ys : List V) : Bool := (List.range (min xs.length ys.length)).all (eAt xs ys) && xs.length == ys.length
theorem Vals.at {xs : List V} {its : List Value} (r : Vals xs its) {j : Nat} (h : j < its.toArray.size) : ∃ x, xs[j]? = some x ∧ RelV x its.toArray[j] := by
  have hl := r.length
  have hj : j < xs.length := by rw [List.size_toArray] at h; omega
  obtain ⟨u, hu, ru⟩ := r.get (i := j) (x := xs[j]) (by simp [hj])
  refine ⟨xs[j], by simp [hj], ?_⟩
  have e : its.toArray[j] = u := by
    have : its[j]? = some its.toArray[j] := by simp at h ⊢ <;> try exact h
    rw [this] at hu; exact Option.some.inj hu
  rw [e]; exact ru
def rEqT (K : PySem.W.Frag) : R2 := fun x y H Q => ∃ a b xs ys, x = .ref a ∧ y = .ref b ∧ SqT K H a xs ∧ SqT K H b ys ∧ xs.all flatV = true ∧ ys.all flatV = true ∧ Q (.bl (eqVs xs ys)) H
theorem op_eqT (hu : X.A.units < cLine) : OpR X (compareOp .Eq) (rEqT X.K) := by
  intro pins s σ H x y v u Q I rx ry h
  obtain ⟨a, b, xs, ys, rfl, rfl, ha, hb, fx, fy, q⟩ := h
  cases rx
  cases ry
  obtain ⟨its, r1, p1, _⟩ := I.tuple ha
  obtain ⟨its2, r2, p2, _⟩ := I.tuple hb
  refine SeqAt.eq_tupleAt (e := eAt xs ys) p1 p2 hu (fun j h1 h2 => ?_) ⟨.bl _, H, I, rfl, ?_⟩
  · obtain ⟨x, ex, rx⟩ := r1.at h1
    obtain ⟨y, ey, ry⟩ := r2.at h2
    have e : eAt xs ys j = eqV x y := by unfold eAt; rw [ex, ey]
    rw [e]
    exact eqAt_V rx ry (List.all_eq_true.mp fx x (List.mem_of_getElem? ex)) (List.all_eq_true.mp fy y (List.mem_of_getElem? ey))
  · have e1 : its.toArray.size = xs.length := by rw [List.size_toArray, r1.length]
    have e2 : its2.toArray.size = ys.length := by rw [List.size_toArray, r2.length]
    rw [e1, e2]
    exact q
theorem eqVs_int2 (a b c d : Int) : eqVs [.int a, .int b] [.int c, .int d] = (decide (a = c) && decide (b = d)) := by
  simp [eqVs, eAt, eqV, List.range_succ, Bool.beq_eq_decide_eq]
end
end L2

/-! ## list comprehensions -/
namespace L2
open PySem PySem.Spec PyProof.Rows

def freeL (scope : Scope) (env : Env) : List (Str × Addr) := ((scope.names.filter fun x => x.2 == .free).map fun x => (x.1, (env.cells.lookup x.1).getD 0)).reverse
theorem closureFor_go (env : Env) : ∀ (l : List (Str × NameKind)) (acc : List (Str × Addr)), (∀ x ∈ l, x.2 = .free → ∃ c, env.cells.lookup x.1 = some c) →
    (forIn l acc (fun (x : Str × NameKind) (r : List (Str × Addr)) => (match x with | (name, kind) => if (kind == NameKind.free) = true then do let a ← cellOf env name; pure (ForInStep.yield ((name, a) :: r)) else pure (ForInStep.yield r) : Sem (ForInStep (List (Str × Addr)))))) =
      (pure (((l.filter fun x => x.2 == .free).map fun x => (x.1, (env.cells.lookup x.1).getD 0)).reverse ++ acc) : Sem (List (Str × Addr)))
  | [], acc, _ => by simp
  | (n, k) :: l, acc, h => by
    rw [List.forIn_cons]
    by_cases hk : k = .free
    · subst hk
      obtain ⟨c, hc⟩ := h (n, .free) List.mem_cons_self rfl
      have hc' : env.cells.lookup n = some c := hc
      have ih := closureFor_go env l ((n, c) :: acc) fun x hx => h x (List.mem_cons_of_mem _ hx)
      have e : cellOf env n = pure c := by unfold cellOf; rw [hc']
      simp only [beq_self_eq_true, if_true, e, pure_bind]
      rw [ih]
      simp [hc']
    · have hb : (k == NameKind.free) = false := by simpa using hk
      have ih := closureFor_go env l acc fun x hx => h x (List.mem_cons_of_mem _ hx)
      simp only [hb, Bool.false_eq_true, if_false, pure_bind]
      rw [ih]
      simp [hb]
theorem closureFor_free {scope : Scope} {env : Env} (h : ∀ x ∈ scope.names, x.2 = .free → ∃ c, env.cells.lookup x.1 = some c) : closureFor scope env = pure (freeL scope env) := by
  have := closureFor_go env scope.names [] h
  unfold closureFor freeL
  rw [List.append_nil] at this
  simp only [bind_pure]
  exact this
theorem freeL_lookup {scope : Scope} {env : Env} (x : Str) : (freeL scope env).lookup x = if (scope.names.any fun y => y.1 == x && y.2 == .free) then some ((env.cells.lookup x).getD 0) else none := by
  have key : ∀ (l : List (Str × NameKind)), ((l.filter fun x => x.2 == .free).map fun x => (x.1, (env.cells.lookup x.1).getD 0)).lookup x = if (l.any fun y => y.1 == x && y.2 == .free) then some ((env.cells.lookup x).getD 0) else none := by
    intro l
    induction l with
    | nil => rfl
    | cons p l ih =>
      obtain ⟨n, k⟩ := p
      by_cases hk : (k == NameKind.free) = true
      · rw [List.filter_cons, if_pos (show ((n, k).2 == NameKind.free) = true from hk), List.map_cons, List.lookup_cons, ih, List.any_cons]
        by_cases hn : n = x
        · subst hn; simp [hk]
        · have h1 : (x == n) = false := by simpa using fun e => hn e.symm
          have h2 : (n == x) = false := by simpa using hn
          simp [h1, h2]
      · have hk' : (k == NameKind.free) = false := by simpa using hk
        rw [List.filter_cons, if_neg (show ¬ ((n, k).2 == NameKind.free) = true from hk), ih, List.any_cons]
        simp [hk']
  have rev : (freeL scope env) = ((scope.names.reverse.filter fun x => x.2 == .free).map fun x => (x.1, (env.cells.lookup x.1).getD 0)) := by
    unfold freeL
    rw [← List.map_reverse, ← List.filter_reverse]
  rw [rev, key, List.any_reverse]
theorem compLoop_any {prog : Program} {w : World} {A : Around} {R : Result → Shared → Prop} {s : Shared} {elt target iter : Expr} {scope : Scope} {pos : Pos} {it acc : Value} {env : Env} (I : Nat → Shared → Prop)
    (turn : ∀ n s, I n s → wpAny (model prog w) A (pyNext it) (fun r s₁ => match r with
      | none => R (.ok .next) s₁
      | some v => wpAny (model prog w) A (letOwnedTupleGo target it v) (fun _ s₂ => wpAny (model prog w) A (assign target env v) (fun _ s₃ => wpAny (model prog w) A (eval elt env) (fun x s₄ =>
          wpAny (model prog w) A (call (.builtin "list.append") [acc, x]) (fun _ s₅ => ∃ m, m < n ∧ I m s₅) (fun _ _ => False) s₄) (fun _ _ => False) s₃) (fun _ _ => False) s₂) (fun _ _ => False) s₁) (fun _ _ => False) s)
    (n : Nat) (h : I n s) : codeAny (model prog w) A (.compLoop (.ListComp elt [⟨target, iter, [], 0⟩] scope pos) 0 it acc env) R s := by
  refine codeAny_loop rfl I (fun n s hI => ?_) n h
  show wpAny _ A ((compTurn (.ListComp elt [⟨target, iter, [], 0⟩] scope pos) 0 it acc env).onRaise (fun x => do noteFrame x env; theTreesLotGoes x)) _ _ s
  refine wpAny_noted ?_
  rw [compTurn_list1]
  refine wpAny_bind (wpAny_standAt (wpAny_bind (wpAny_mono (turn n s hI) (fun r s₁ h₁ => ?_) fun _ _ f => f.elim)))
  cases r with
  | none => exact wpAny_pure h₁
  | some v =>
    refine wpAny_bind (wpAny_mono h₁ (fun _ s₂ h₂ => ?_) fun _ _ f => f.elim)
    exact wpAny_bind (wpAny_mono h₂ (fun _ s₃ h₃ => wpAny_bind (wpAny_bind (wpAny_mono h₃ (fun x s₄ h₄ => wpAny_bind (wpAny_mono h₄ (fun _ s₅ h₅ => wpAny_pure (wpAny_pure ⟨rfl, h₅⟩)) fun _ _ f => f.elim)) fun _ _ f => f.elim))) fun _ _ f => f.elim)

theorem relabel_lookup {scope : Scope} {env : Env} (x : Str) : (relabel scope env).names.lookup x = (scope.names.lookup x).map fun k => if (k == NameKind.free && env.scope.kind == .function && env.kindOf x == some .cell) = true then NameKind.cell else k := by
  have key : ∀ l : List (Str × NameKind), (l.map fun (n, k) => if (k == NameKind.free && env.scope.kind == .function && env.kindOf n == some .cell) then (n, NameKind.cell) else (n, k)).lookup x =
      (l.lookup x).map fun k => if (k == NameKind.free && env.scope.kind == .function && env.kindOf x == some .cell) = true then NameKind.cell else k := by
    intro l
    induction l with
    | nil => rfl
    | cons p l ih =>
      obtain ⟨n, k⟩ := p
      rw [List.map_cons]
      by_cases hn : x = n
      · subst hn
        by_cases hc : (k == NameKind.free && env.scope.kind == .function && env.kindOf x == some .cell) = true
        · simp only [hc, if_true, List.lookup_cons, beq_self_eq_true, Option.map_some]
        · simp only [if_neg hc, List.lookup_cons, beq_self_eq_true, Option.map_some]
      · have hb : (x == n) = false := by simpa using hn
        by_cases hc : (k == NameKind.free && env.scope.kind == .function && env.kindOf n == some .cell) = true
        · simp only [hc, if_true, List.lookup_cons, hb]; exact ih
        · simp only [if_neg hc, List.lookup_cons, hb]; exact ih
  exact key scope.names

/-- slot j of the block is slot i of the def -/
def blkσ (ix : List (Option Nat)) (σ : St) : St := ix.map fun o => o.bind fun i => (σ[i]?).join
def CapOf (X : Cx) (scope : Scope) : List Str → List (Option Nat) → Prop
  | [], [] => True
  | _ :: N, none :: ix => CapOf X scope N ix
  | x :: N, some i :: ix => (X.N[i]? = some x ∧ scope.names.lookup x = some .free ∧ (X.env.kindOf x = some .cell ∨ X.env.kindOf x = some .free)) ∧ CapOf X scope N ix
  | _, _ => False
theorem CapOf.get {X : Cx} {scope : Scope} : ∀ {N : List Str} {ix : List (Option Nat)}, CapOf X scope N ix → N.length = ix.length ∧ ∀ (j i : Nat), ix[j]? = some (some i) →
    ∃ x, N[j]? = some x ∧ X.N[i]? = some x ∧ scope.names.lookup x = some .free ∧ (X.env.kindOf x = some .cell ∨ X.env.kindOf x = some .free)
  | [], [], _ => ⟨rfl, fun j i h => by simp at h⟩
  | x :: N, none :: ix, h => by
    obtain ⟨h1, h2⟩ := CapOf.get (show CapOf X scope N ix from h)
    refine ⟨by simp [h1], fun j i e => ?_⟩
    cases j with
    | zero => simp at e
    | succ j => simpa using h2 j i (by simpa using e)
  | x :: N, some i' :: ix, h => by
    obtain ⟨h0, h⟩ := (show _ ∧ CapOf X scope N ix from h)
    obtain ⟨h1, h2⟩ := CapOf.get h
    refine ⟨by simp [h1], fun j i e => ?_⟩
    cases j with
    | zero =>
      simp at e
      subst e
      exact ⟨x, by simp, h0⟩
    | succ j => simpa using h2 j i (by simpa using e)
  | [], _ :: _, h => h.elim
  | _ :: _, [], h => by cases h

/-- the names of a comprehension's table that are fit: no cells of its own, what is free is the def's -/
structure BlkScope (outer scope : Scope) : Prop where
  kind : scope.kind = .function
  cell : ∀ y ∈ scope.names, y.2 ≠ .cell
  free : ∀ y ∈ scope.names, y.2 = .free → outer.names.lookup y.1 = some .cell ∨ outer.names.lookup y.1 = some .free
  names : ∀ y ∈ scope.names, y.2 = .local → scope.names.lookup y.1 = some .local

abbrev Cx.blk (X : Cx) (scope : Scope) (N : List Str) (fp : List Addr) (s : Shared) (H : Hp) : Cx :=
  { X with N := N, s₀ := s, H₀ := H, env := compEnvC scope (freeL scope X.env) s.heap.objs.size X.env, outer := X.stack, ex := fp, fn := fun _ => false, pn := [], xe := fun _ _ => False }

section
variable {X : Cx} {pins : List (Addr × Obj)} {σ : St} {H : Hp} {s : Shared} {scope : Scope} {N : List Str} {ix : List (Option Nat)} {fp : List Addr}

theorem blk_cell (ok : X.Ok) (S : BlkScope X.env.scope scope) {x : Str} {c : Addr} (h : (freeL scope X.env).lookup x = some c) : X.env.cells.lookup x = some c := by
  rw [freeL_lookup] at h
  split at h
  · rename_i ha
    obtain ⟨y, hy, e⟩ := List.any_eq_true.mp ha
    rw [Bool.and_eq_true, beq_iff_eq, beq_iff_eq] at e
    obtain ⟨e1, e2⟩ := e
    subst e1
    obtain ⟨c', hc'⟩ := ok.has y.1 (S.free y hy e2)
    rw [hc'] at h ⊢
    exact h
  · cases h
theorem blk_free (ok : X.Ok) {x : Str} (h : scope.names.lookup x = some .free) (hk : X.env.kindOf x = some .cell ∨ X.env.kindOf x = some .free) : ∃ c, (freeL scope X.env).lookup x = some c ∧ X.env.cells.lookup x = some c := by
  obtain ⟨c, hc⟩ := ok.has x hk
  refine ⟨c, ?_, hc⟩
  rw [freeL_lookup, if_pos, hc]
  · rfl
  · exact List.any_eq_true.mpr ⟨(x, .free), PySem.mem_of_lookup h, by simp⟩

theorem Inv.blkOk (I : Inv X pins σ H s) (S : BlkScope X.env.scope scope) (hf : ∀ b ∈ fp, FpOk X pins H b) (hlt : ∀ b ∈ fp, b < s.heap.objs.size) : (X.blk scope N fp s H).Ok where
  mod := I.ok.mod
  kind := S.kind
  glob := I.ok.glob
  blt := I.ok.blt
  above := Nat.le_refl _
  inj := fun x y c h1 h2 => I.ok.inj x y c (blk_cell I.ok S h1) (blk_cell I.ok S h2)
  has := fun x hx => by
    have hx' : (relabel scope X.env).names.lookup x = some .cell ∨ (relabel scope X.env).names.lookup x = some .free := hx
    rw [relabel_lookup] at hx'
    cases e : scope.names.lookup x with
    | none => rw [e] at hx'; simp at hx'
    | some k =>
      have hm := PySem.mem_of_lookup e
      have hk : k = .free := by
        by_cases hk : k = .free
        · exact hk
        · exfalso
          have hb : (k == NameKind.free) = false := by simpa using hk
          have hc : k ≠ .cell := S.cell _ hm
          have e2 : (if (k == NameKind.free && X.env.scope.kind == .function && X.env.kindOf x == some .cell) = true then NameKind.cell else k) = k := if_neg (by rw [hb, Bool.false_and, Bool.false_and]; exact Bool.false_ne_true)
          rw [e, Option.map_some, e2] at hx'
          rcases hx' with z | z
          · exact hc (Option.some.inj z)
          · exact hk (Option.some.inj z)
      subst hk
      obtain ⟨c, h1, _⟩ := blk_free I.ok e (S.free _ hm rfl)
      exact ⟨c, h1⟩
  cab := fun x c h _ => by cases h
  hd := I.ok.hd
  frames := I.ok.frames
  stk := .inl rfl
  exf := fun b hb => ⟨Nat.ne_of_lt (hlt b hb), fun x c h => (hf b hb).2.2.2.2.1 x c (blk_cell I.ok S h)⟩
  bs := I.bs
  bsz := Nat.le_trans I.ok.bsz I.sz
  noex := fun b o e hb => by
    rcases (hf b hb).2.2.2.1 with z | z
    · exact I.ok.noex b o e z
    · exact absurd (Nat.lt_of_lt_of_le (Heap.lt_size e) (Nat.le_trans I.ok.bsz z)) (Nat.lt_irrefl _)
  exfs := fun b hb h => by
    rcases List.mem_cons.mp (I.stkSub b h) with z | z
    · exact (hf b hb).2.1 z
    · exact (hf b hb).2.2.1 z
  funs := I.stack
  frf := I.stkFree

theorem Inv.blk {h₁ : Heap} {m : Str → Option Value} {o : Obj} {t : Nat} (I : Inv X pins σ H s) (S : BlkScope X.env.scope scope) (cap : CapOf X scope N ix) (hf : ∀ b ∈ fp, FpOk X pins H b) (hlt : ∀ b ∈ fp, b < s.heap.objs.size)
    (hns : h₁.Ns s.heap.objs.size m) (hsb : Heap.SameBut s.heap.objs.size (s.heap.push o) h₁) : Inv (X.blk scope N fp s H) [] (blkσ ix σ) H { s with heap := h₁, toks := t } := by
  have keep : ∀ b o, s.heap.get? b = some o → h₁.get? b = some o := fun b o e => hsb.extBut b o (Nat.ne_of_lt (Heap.lt_size e)) (Heap.get?_push_of_some _ e)
  obtain ⟨hl, hcap⟩ := cap.get
  refine ⟨I.blkOk S hf hlt, rfl, I.bare, Un.kept keep, ⟨m, hns, fun j x v e1 e2 e3 => ?_⟩, fun x c e => ?_, I.hok.fresh (Nat.le_refl _), fun x c e => I.freeC x c (blk_cell I.ok S e), fun p hp => absurd (show p ∈ ([] : List (Addr × Obj)) from hp) (by simp), I.hok.kept keep, by unfold blkσ; rw [List.length_map]; exact hl.symm⟩
  · obtain ⟨i, h1, h2⟩ : ∃ i, ix[j]? = some (some i) ∧ σ[i]? = some (some v) := by
      unfold blkσ at e2
      rw [List.getElem?_map] at e2
      cases q : ix[j]? with
      | none => rw [q] at e2; cases e2
      | some o =>
        rw [q] at e2
        cases o with
        | none => simp at e2
        | some i =>
          refine ⟨i, rfl, ?_⟩
          cases q2 : σ[i]? with
          | none => simp [q2] at e2
          | some o2 => simp [q2] at e2; rw [e2]
    obtain ⟨y, n1, n2, n3, n4⟩ := hcap j i h1
    have hxy : x = y := by rw [e1] at n1; exact Option.some.inj n1
    subst hxy
    obtain ⟨m', hn', hl'⟩ := I.loc
    have vis : Vis X.env.scope x := by rcases n4 with k | k; exact .inr (.inl k); exact .inr (.inr k)
    obtain ⟨u, r, l⟩ := hl' i x v n2 h2 vis
    refine ⟨u, r, .inr ⟨?_, ?_⟩⟩
    · show (relabel scope X.env).names.lookup x = some .cell ∨ (relabel scope X.env).names.lookup x = some .free
      rw [relabel_lookup, n3]
      by_cases hc : (NameKind.free == NameKind.free && X.env.scope.kind == .function && X.env.kindOf x == some .cell) = true
      · left; simp only [Option.map_some, if_pos hc]
      · right; simp only [Option.map_some, if_neg hc]
    · obtain ⟨c, c1, c2⟩ := blk_free I.ok n3 n4
      refine ⟨c, c1, ?_⟩
      rcases l with ⟨hk, _⟩ | ⟨_, c', hc', z⟩
      · exfalso
        rcases n4 with k | k
        · rw [hk] at k; cases k
        · rw [hk] at k; cases k
      · rw [c2] at hc'; cases hc'
        obtain ⟨ob, ho, hd⟩ := z
        exact ⟨ob, keep _ _ ho, hd⟩
  · obtain ⟨v, ob, ho, hd⟩ := I.cell x c (blk_cell I.ok S e)
    exact ⟨v, ob, keep _ _ ho, hd⟩
theorem Inv.unblk {pins' : List (Addr × Obj)} {σ' : St} {H' : Hp} {s' : Shared} (I : Inv X pins σ H s) (hf : ∀ b ∈ fp, FpOk X pins H b) (J : Inv (X.blk scope N fp s H) pins' σ' H' s') : Inv X pins σ H' s' :=
  I.call' (ch := fp) J.os J.base J.hok J.bare fun b hb => ⟨(hf b hb).2.2.2.1, (hf b hb).2.1, (hf b hb).2.2.2.2.1, (hf b hb).2.2.2.2.2⟩
/-- the block's frame has been let go -/
theorem Inv.frameGone {C : Addr} {h' : Heap} (I : Inv X pins σ H s) (f : FpOk X pins H C) (hs : Heap.SameBut C s.heap h') : Inv X pins σ H { s with heap := h' } :=
  I.turned (t' := s.toks) (fun b o hb e => hs.extBut b o hb e) f.1 f.2.1 f.2.2.2.1 f.2.2.2.2.1 f.2.2.2.2.2
end

/-- the turns: W the invariant (turn, measure, block's names, list so far, heap) -/
def CompW (J : It) (D : Addr) (g : TG) (te : TE) (σ₀ : St) (H₀ : Hp) (fin : Hp → Prop) : Prop :=
  ∃ W : Nat → Nat → St → List V → Hp → Prop, (∃ m, W 0 m σ₀ [] H₀) ∧ ∀ i m σ ys H, W i m σ ys H →
    (J.stop i H ∧ fin H) ∨ (ys.length < sizeLine ∧ J.go i H ∧ ∀ x H', J.yld i H x H' → g x σ H' fun σ2 H2 => te σ2 H2 fun y H3 => H3 D = some (.lst ys) ∧ ∃ m', m' < m ∧ W (i + 1) m' σ2 (ys ++ [y]) (upd H3 D (.lst (ys ++ [y]))))
def tComp (wi : TI) (ix : List (Option Nat)) (g : TG) (te : TE) : TE := fun σ H Q => wi σ H fun J H1 => ∀ D, H1 D = none → CompW J D g te (blkσ ix σ) (upd H1 D (.lst [])) fun H' => Q (.ref D) H'
/-- by a word and the number of turns; Z: what the turn is to reach -/
theorem comp_by {J : It} {D : Addr} {g : TG} {te : TE} {σ₀ : St} {H₀ : Hp} {fin : Hp → Prop} (n : Nat) (Pv : Nat → St → List V → Hp → Prop) (h0 : Pv 0 σ₀ [] H₀) (stop : ∀ σ ys H, Pv n σ ys H → J.stop n H ∧ fin H)
    (step : ∀ i σ ys H (Z : St → VK), i < n → Pv i σ ys H → (∀ σ2 y H3, H3 D = some (.lst ys) → Pv (i + 1) σ2 (ys ++ [y]) (upd H3 D (.lst (ys ++ [y]))) → Z σ2 y H3) →
      ys.length < sizeLine ∧ J.go i H ∧ ∀ x H', J.yld i H x H' → g x σ H' fun σ2 H2 => te σ2 H2 (Z σ2)) : CompW J D g te σ₀ H₀ fin := by
  refine ⟨fun i m σ ys H => m = n - i ∧ i ≤ n ∧ Pv i σ ys H, ⟨n, by simp, Nat.zero_le _, h0⟩, ?_⟩
  rintro i m σ ys H ⟨rfl, hi, p⟩
  by_cases hlt : i < n
  · exact .inr (step i σ ys H (fun σ2 y H3 => H3 D = some (.lst ys) ∧ ∃ m', m' < n - i ∧ m' = n - (i + 1) ∧ i + 1 ≤ n ∧ Pv (i + 1) σ2 (ys ++ [y]) (upd H3 D (.lst (ys ++ [y])))) hlt p
      fun σ2 y H3 q1 q2 => ⟨q1, n - (i + 1), by omega, rfl, hlt, q2⟩)
  · have e : i = n := by omega
    subst e
    exact .inl (stop σ ys H p)

section
variable {X : Cx} {tg elt iter : Expr} {scope : Scope} {N : List Str} {ix : List (Option Nat)} {wi : TI} {g : TG} {te : TE} {pos : Pos}
theorem comp_core {pins : List (Addr × Obj)} {s : Shared} {σ : St} {H : Hp} {Q : VK} {RR : Value → Addr → Result → Shared → Prop} (hc : X.calm = true) (hi : PI X tg iter wi) (S : BlkScope X.env.scope scope) (cap : CapOf X scope N ix)
    (hg : ∀ fp s H, PG (X.blk scope N fp s H) tg g) (he : ∀ fp s H, PE (X.blk scope N fp s H) elt te) (I : Inv X pins σ H s) (h : tComp wi ix g te σ H Q)
    (hRR : ∀ D C H' s', Inv X pins σ H' s' → FpOk X pins H' C → (∃ m, s'.heap.Ns C m) → Q (.ref D) H' → RR (.ref D) C (.ok .next) s') :
    wpAny (model X.prog X.w) X.A (eval iter X.env) (fun x s₁ => wpAny (model X.prog X.w) X.A (pyIter x) (fun it s₂ => wpAny (model X.prog X.w) X.A (newList []) (fun acc s₃ =>
      wpAny (model X.prog X.w) X.A (newFunctionEnv scope X.env.globals (freeL scope X.env) [] X.env.qual none .none (some X.env)) (fun cenv s₄ =>
        codeAny (model X.prog X.w) X.A (.compStart (.ListComp elt [⟨tg, iter, [], 0⟩] scope pos) 0 it acc { cenv with scope := relabel scope X.env }) (RR acc cenv.locals) s₄) X.xe s₃) X.xe s₂) X.xe s₁) X.xe s := by
  refine thn (hi pins s σ H _ I h) fun v s1 h1 => thn h1 fun itv s2 h2 => ?_
  obtain ⟨it, fp, tn, J, H2, e, I2, T, st2, f2, R⟩ := h2
  subst e
  refine wpAny_newObj_type (wpAny_newFunctionEnv S.cell (by intro y hy; simp at hy) (fun h₁ hns₁ hsb₁ => ?_) S.kind)
  dsimp only at hns₁ hsb₁ ⊢
  have I3 : Inv X pins σ (upd H2 s2.heap.objs.size (.lst [])) { s2 with heap := s2.heap.push { cls := .type "list", data := .seq ([] : List Value).toArray }, toks := s2.toks } := I2.lnew .nil (Nat.zero_le _)
  have hD : H2 s2.heap.objs.size = none := I2.fresh
  have lt2 : ∀ b ∈ fp, b < s2.heap.objs.size := fun b hb => by obtain ⟨o, e, _⟩ := T.obj 0 _ st2 b hb; exact Heap.lt_size e
  obtain ⟨W, ⟨m0, w0⟩, turn⟩ := R s2.heap.objs.size hD
  generalize hs3 : ({ s2 with heap := s2.heap.push { cls := .type "list", data := .seq ([] : List Value).toArray }, toks := s2.toks } : Shared) = s3 at I3
  have e3 : s3.heap = s2.heap.push { cls := .type "list", data := .seq ([] : List Value).toArray } := by rw [← hs3]
  have sz3 : s3.heap.objs.size = s2.heap.objs.size + 1 := by rw [e3, Heap.size_push]
  have f3 : ∀ b ∈ fp, FpOk X pins (upd H2 s2.heap.objs.size (.lst [])) b := fun b hb => ⟨by rw [upd_ne (Nat.ne_of_lt (lt2 b hb))]; exact (f2 b hb).1, (f2 b hb).2⟩
  have lt3 : ∀ b ∈ fp, b < s3.heap.objs.size := fun b hb => by rw [sz3]; exact Nat.lt_succ_of_lt (lt2 b hb)
  have hns₁' := hns₁
  rw [← e3] at hns₁'
  have hsb₁' := hsb₁
  rw [← e3] at hsb₁'
  have J0 := I3.blk (N := N) (ix := ix) (fp := fp) (t := s2.toks + ([] : List (Str × Value)).length) S cap f3 lt3 hns₁' hsb₁'
  have keep1 : ∀ b o, s2.heap.get? b = some o → h₁.get? b = some o := fun b o e => hsb₁.extBut b o (by rw [Heap.size_push]; exact Nat.ne_of_lt (Nat.lt_succ_of_lt (Heap.lt_size e))) (Heap.get?_push_of_some _ (Heap.get?_push_of_some _ e))
  have st1 : tn 0 h₁ := T.keep 0 _ _ st2 fun b _ o e => keep1 b o e
  have stat : ∀ {H' : Hp}, (∀ b ∈ fp, H' b = none) → ∀ b ∈ fp, FpOk (X.blk scope N fp s3 (upd H2 s2.heap.objs.size (.lst []))) [] H' b := fun {H'} hn b hb => by
    refine ⟨hn b hb, Nat.ne_of_lt (lt3 b hb), fun z => ?_, .inl hb, fun x c e => (f2 b hb).2.2.2.2.1 x c (blk_cell I.ok S e), fun p hp => absurd (show p ∈ ([] : List (Addr × Obj)) from hp) (by simp)⟩
    rcases List.mem_cons.mp (I3.stkSub b z) with y | y
    · exact (f2 b hb).2.1 y
    · exact (f2 b hb).2.2.1 y
  have loop : ∀ s4 : Shared, s4 = { s3 with heap := h₁, toks := s2.toks + ([] : List (Str × Value)).length } →
      codeAny (model X.prog X.w) X.A (.compLoop (.ListComp elt [⟨tg, iter, [], 0⟩] scope pos) 0 (.ref it) (.ref s2.heap.objs.size) (compEnvC scope (freeL scope X.env) s3.heap.objs.size X.env)) (RR (.ref s2.heap.objs.size) s3.heap.objs.size) s4 := by
    rintro s4 rfl
    refine compLoop_any (fun n s' => ∃ i σ' ys H', Inv (X.blk scope N fp s3 (upd H2 s2.heap.objs.size (.lst []))) [] σ' H' s' ∧ tn i s'.heap ∧ (∀ b ∈ fp, H' b = none) ∧ W i n σ' ys H') ?_ m0 ⟨0, _, [], _, J0, st1, fun b hb => (f3 b hb).1, w0⟩
    rintro n s' ⟨i, σ', ys, H', I', st', fr', w'⟩
    rcases turn i n σ' ys H' w' with ⟨stop, fin⟩ | ⟨hy, go, step⟩
    · refine thn (T.done (X.blk scope N fp s3 (upd H2 s2.heap.objs.size (.lst []))) rfl rfl rfl hc i [] s' σ' H' _ I' (stat fr') st' stop) fun r s5 ⟨hr, I5⟩ => ?_
      subst hr
      obtain ⟨m, hn, _⟩ := I5.loc
      exact hRR _ _ H' s5 (I3.unblk f3 I5) (I3.fpOk (Nat.le_refl _) I5.free) ⟨m, hn⟩ fin
    · refine thn (T.item (X.blk scope N fp s3 (upd H2 s2.heap.objs.size (.lst []))) rfl rfl rfl hc i [] s' σ' H' _ I' (stat fr') st' go) fun r s5 ⟨u, hr, h5⟩ => ?_
      subst hr
      refine thn h5 fun _ s6 ⟨x, H6, I6, r6, y6, st6, fr6⟩ => ?_
      have I6' := I6.pinned (stat fr6) (T.obj _ _ st6)
      refine thn (hg fp s3 _ _ s6 σ' H6 x u _ I6' r6 (step x H6 y6)) fun _ s7 ⟨σ7, H7, I7, q7⟩ => ?_
      refine thn (he fp s3 _ _ s7 σ7 H7 _ I7 q7) fun yv s8 ⟨y, H8, I8, r8, hl8, m', hm', w8⟩ => ?_
      refine thn (mt_append _ s8 σ7 H8 (.ref s2.heap.objs.size) [y] (.ref s2.heap.objs.size) [yv] (fun _ H9 => H9 = upd H8 s2.heap.objs.size (.lst (ys ++ [y]))) I8 rfl (.cons r8 .nil) ⟨_, ys, y, rfl, rfl, hl8, hy, rfl⟩) fun _ s9 ⟨_, H9, I9, _, e9⟩ => ?_
      subst e9
      refine ⟨m', hm', i + 1, σ7, ys ++ [y], _, I9.unpinned, T.keep _ _ _ st6 fun b hb o e => (I9.pin (b, o) (List.mem_append_right _ (List.mem_append_right _ (mem_pinsAt hb e)))).1, fun b hb => ?_, w8⟩
      obtain ⟨o, e, _⟩ := T.obj _ _ st6 b hb
      exact (I9.pin (b, o) (List.mem_append_right _ (List.mem_append_right _ (mem_pinsAt hb e)))).2.1
  have fin := loop _ rfl
  rw [← hs3] at fin
  exact codeAny_compStart_list fin (T.self _ 0 _ _ _ st1 fin)

theorem blk_clos (S : BlkScope X.env.scope scope) (ok : X.Ok) : closureFor scope X.env = pure (freeL scope X.env) := closureFor_free fun x hx e => ok.has x.1 (S.free x hx e)
/-- [elt for tg in iter] -/
theorem pe_comp (hc : X.calm = true) (hi : PI X tg iter wi) (S : BlkScope X.env.scope scope) (cap : CapOf X scope N ix) (hg : ∀ fp s H, PG (X.blk scope N fp s H) tg g) (he : ∀ fp s H, PE (X.blk scope N fp s H) elt te)
    (hs : ∀ x, foldedSetIterable iter X.env x = pure x := by intro _; rfl) : PE X (.ListComp elt [⟨tg, iter, [], 0⟩] scope pos) (tComp wi ix g te) := by
  intro pins s σ H Q I h
  rw [eval_ListComp]
  refine wpAny_comprehension_free (use := none) rfl hs (blk_clos S I.ok) S.kind S.names (comp_core (RR := fun acc C => compPost (model X.prog X.w) X.A X.xe none (EP X pins σ Q) acc C) hc hi S cap hg he I h fun D C H' s' I' f' hn q => ?_)
  obtain ⟨m, hn⟩ := hn
  exact ⟨m, hn, fun h' hs' => ⟨.ref D, H', I'.frameGone f' hs', rfl, q⟩⟩
/-- y = [elt for tg in iter], y a plain local name -/
theorem ps_setComp {i : Nat} {y : Str} {py spos : Pos} (hN : X.N.Nodup) (hiN : X.N[i]? = some y) (hy : Loc X.env.scope y) (hc : X.calm = true) (hi : PI X tg iter wi) (S : BlkScope X.env.scope scope) (cap : CapOf X scope N ix)
    (hg : ∀ fp s H, PG (X.blk scope N fp s H) tg g) (he : ∀ fp s H, PE (X.blk scope N fp s H) elt te)
    (hsw : swapsWith (.ListComp elt [⟨tg, iter, [], 0⟩] scope pos) (some (.Name y py)) spos.line X.env = pure true := by rfl)
    (hs : ∀ x, foldedSetIterable iter X.env x = pure x := by intro _; rfl) (hf : X.fn y = true ∨ X.env.scope.names.lookup y = some .local := by first | exact .inl rfl | exact .inr rfl | assumption) :
    PS X (.Assign [.Name y py] (.ListComp elt [⟨tg, iter, [], 0⟩] scope pos) spos) (tAsg (tComp wi ix g te) (gName i)) := by
  intro pins s σ H D I h
  rw [exec_Assign_Name_used _ _ _ _ hsw]
  refine wpAny_bind (wpAny_standAt (wpAny_bind ?_))
  show wpAny _ X.A (do let _ ← comprehension (.ListComp elt [⟨tg, iter, [], 0⟩] scope pos) scope X.env _ (newList []) false (eval iter X.env) (some (assign (.Name y py) X.env))) _ _ s
  refine wpAny_bind (wpAny_mono (wpAny_comprehension_free (use := some (assign (.Name y py) X.env)) (Q := fun _ s' => SP X pins D .next s') rfl hs (blk_clos S I.ok) S.kind S.names
    (comp_core (RR := fun acc C => compPost (model X.prog X.w) X.A X.xe (some (assign (.Name y py) X.env)) (fun _ s' => SP X pins D .next s') acc C) hc hi S cap hg he I h fun l C H' s' I' f' hn q => ?_)) (fun _ s' hq => wpAny_pure (wpAny_pure hq)) fun _ _ e => e)
  obtain ⟨m, hn⟩ := hn
  show wpAny _ X.A (assign (.Name y py) X.env (.ref l)) _ _ _
  refine wpAny_assign_Name (store_ok2 (v := .ref l) I' hN hiN hy rfl (fun s'' I'' ⟨a, hsb, ha⟩ => ?_) hf)
  have hCa : C ≠ a := by
    rcases ha with z | z
    · rw [z]; exact f'.2.1
    · exact Ne.symm (f'.2.2.2.2.1 y a z)
  exact ⟨m, hn.sameBut hsb hCa, fun h' hs' => ⟨_, H', I''.frameGone f' hs', q⟩⟩
end
end L2

/-! ## more own rules: products and quotients of great numbers, min and max of a list, an item by values -/
namespace L2
open PySem PySem.Spec PyProof.Rows
theorem bits_of {i : Int} {n : Nat} (h1 : -(2 ^ n) < i) (h2 : i < 2 ^ n) : Builtin.Int.intBits i ≤ n := by
  unfold Builtin.Int.intBits
  split
  · exact Nat.zero_le _
  · rename_i hz
    have hz' : i ≠ 0 := by simpa using hz
    have hp : ((2 ^ n : Nat) : Int) = (2 : Int) ^ n := by simp
    rw [← hp] at h1 h2
    have hn : i.natAbs < 2 ^ n := by omega
    have : i.natAbs.log2 < n := (Nat.log2_lt (by omega)).mpr hn
    omega
theorem mulOk_of {i j : Int} (h1 : Builtin.Int.intBits i ≤ 20000) (h2 : Builtin.Int.intBits j ≤ 20000) : IntMulOk i j := by
  unfold IntMulOk
  have e : Builtin.Int.intTooBig (Builtin.Int.intBits i + Builtin.Int.intBits j) = false := by
    unfold Builtin.Int.intTooBig
    exact decide_eq_false (by have : (bitsLine : Int) = 2 ^ 27 := rfl; omega)
  rw [e]; simp
section
variable {X : Cx}
def CMulW (i j : Int) : Prop := (-(2 ^ 4000) < i ∧ i < 2 ^ 4000) ∧ (-(2 ^ 4000) < j ∧ j < 2 ^ 4000)
theorem op_mulW : OpR X (binaryOp .Mult) (rI CMulW fun i j => .int (i * j)) := opI fun i j _ _ _ _ _ hc q => mul_int q (mulOk_of (Nat.le_trans (bits_of hc.1.1 hc.1.2) (by decide)) (Nat.le_trans (bits_of hc.2.1 hc.2.2) (by decide)))
def CDivW (_ j : Int) : Prop := 0 < j ∧ j < 2 ^ 4000
set_option exponentiation.threshold 5000 in
theorem op_fdivW : OpR X (binaryOp .FloorDiv) (rI CDivW fun i j => .int (i / j)) := opI fun i j _ _ _ _ _ hc q => by
  have h1 : (0 : Int) < j := hc.1
  have h2 : j.natAbs.log2 < 9000 := by
    have hp : ((2 ^ 4000 : Nat) : Int) = (2 : Int) ^ 4000 := by simp
    have h3 := hc.2
    rw [← hp] at h3
    have h4 : j.natAbs < 2 ^ 4000 := by omega
    have := (Nat.log2_lt (n := j.natAbs) (k := 4000) (by omega)).mpr h4
    omega
  exact floordiv_int (by omega) (by rw [Int.fdiv_eq_ediv_of_nonneg i (by omega)]; exact q) (.inl (PyProof.noPylong_of_log2 h2))
def rMinL (K : PySem.W.Frag) : List V → Hp → VK → Prop := fun xs H Q => ∃ (l : Addr) (ns : List Int), xs = [.ref l] ∧ SqL K H l (ns.map V.int) ∧ 0 < ns.length ∧ ∀ M, M ∈ ns → (∀ a, a ∈ ns → M ≤ a) → Q (.int M) H
def rMaxL (K : PySem.W.Frag) : List V → Hp → VK → Prop := fun xs H Q => ∃ (l : Addr) (ns : List Int), xs = [.ref l] ∧ SqL K H l (ns.map V.int) ∧ 0 < ns.length ∧ ∀ M, M ∈ ns → (∀ a, a ∈ ns → a ≤ M) → Q (.int M) H
theorem call_minL (hc : X.calm = true) : CallR X (.builtin "min") (rMinL X.K) := by
  intro pins s σ H xs us Q I r h
  obtain ⟨l, ns, rfl, hq, hne, q⟩ := h
  obtain ⟨u, rfl, ru⟩ := vals1 r
  cases ru
  obtain ⟨its, rv, pl, hz⟩ := I.list hq
  have hi : IntsAre its ns := intsAre_of rv
  obtain ⟨m, F⟩ := I.fr
  have hl := pl.isList
  obtain ⟨ys, e⟩ := hi.allInts.items
  have hns : ns = ys.toList.map (·.1) := by rw [← hi.numsOf, ← nums_intItems, ← e]
  have hsz : 0 < ys.size := by
    have h3 := hne; rw [hns, List.length_map, Array.length_toList] at h3; exact h3
  rw [e] at hl
  refine min_intList (I.ok.hd hc) hl hsz fun v h' tk hv hk => ?_
  obtain ⟨t, rfl⟩ := intItems_at hv
  obtain ⟨h1, h2⟩ := argBest_lt (numAt ys) (ys.size - 1)
  refine ⟨.int _, H, I.kept hk, ⟨t, rfl⟩, q _ ?_ fun a ha => ?_⟩
  · rw [hns, numAt_eq]; exact getD_mem (by rw [List.length_map, Array.length_toList]; omega)
  · rw [hns] at ha
    obtain ⟨j, hj, rfl⟩ := mem_getD ha
    rw [List.length_map, Array.length_toList] at hj
    rw [← numAt_eq]; exact h2 j (by omega)
theorem call_maxL (hc : X.calm = true) : CallR X (.builtin "max") (rMaxL X.K) := by
  intro pins s σ H xs us Q I r h
  obtain ⟨l, ns, rfl, hq, hne, q⟩ := h
  obtain ⟨u, rfl, ru⟩ := vals1 r
  cases ru
  obtain ⟨its, rv, pl, hz⟩ := I.list hq
  have hi : IntsAre its ns := intsAre_of rv
  have hl := pl.isList
  obtain ⟨ys, e⟩ := hi.allInts.items
  have hns : ns = ys.toList.map (·.1) := by rw [← hi.numsOf, ← nums_intItems, ← e]
  have hsz : 0 < ys.size := by
    have h3 := hne; rw [hns, List.length_map, Array.length_toList] at h3; exact h3
  rw [e] at hl
  refine max_intList (I.ok.hd hc) hl hsz fun v h' tk hv hk => ?_
  obtain ⟨t, rfl⟩ := intItems_at hv
  obtain ⟨h1, h2⟩ := argBest_gt (numAt ys) (ys.size - 1)
  refine ⟨.int _, H, I.kept hk, ⟨t, rfl⟩, q _ ?_ fun a ha => ?_⟩
  · rw [hns, numAt_eq]; exact getD_mem (by rw [List.length_map, Array.length_toList]; omega)
  · rw [hns] at ha
    obtain ⟨j, hj, rfl⟩ := mem_getD ha
    rw [List.length_map, Array.length_toList] at hj
    rw [← numAt_eq]; exact h2 j (by omega)
/-- an item of a list, by values (0 or more) -/
def rGetL (K : PySem.W.Frag) : V → V → Hp → VK → Prop := fun x y H Q => ∃ p xs i v, x = .ref p ∧ y = .int i ∧ SqL K H p xs ∧ 0 ≤ i ∧ xs[i.toNat]? = some v ∧ Q v H
theorem get_listV : PGet X (rGetL X.K) := by
  intro pins s σ H o i ov iv Q I ro ri h
  obtain ⟨p, xs, k, v, rfl, rfl, hq, h0, hx, q⟩ := h
  cases ro
  obtain ⟨t, rfl⟩ := ri
  obtain ⟨its, r, pl, hz⟩ := I.list hq
  obtain ⟨w', ew, rw'⟩ := r.get hx
  have hn := line63
  have hlt : k.toNat < xs.length := (List.getElem?_eq_some_iff.mp hx).1
  exact wpAny_getItem_list pl.isList h0 (by omega) (by simpa using ew) ⟨v, H, I, rw', q⟩
end
end L2

/-! ## new lists and tuples, the heap behind them a letter -/
namespace L2
open PySem PySem.Spec PyProof.Rows
section
variable {X : Cx}
theorem CallR.imp {f : Value} {r r' : List V → Hp → VK → Prop} (h : CallR X f r) (hi : ∀ xs H Q, r' xs H Q → r xs H Q) : CallR X f r' := fun pins s σ H xs us Q I rs q => h pins s σ H xs us Q I rs (hi xs H Q q)
def rListS (K : PySem.W.Frag) : List V → Hp → VK → Prop := fun xs H Q => ∃ p ys, xs = [.ref p] ∧ (SqL K H p ys ∨ SqT K H p ys) ∧ ∀ l H', H l = none → Same H H' → H' l = some (.lst ys) → Q (.ref l) H'
def rTupleS (K : PySem.W.Frag) : List V → Hp → VK → Prop := fun xs H Q => ∃ p ys, xs = [.ref p] ∧ SqL K H p ys ∧ ∀ l H', H l = none → Same H H' → H' l = some (.tup ys) → Q (.ref l) H'
theorem call_listS : CallR X (.type "list") (rListS X.K) := call_list_of.imp fun xs H Q ⟨p, ys, e, h, q⟩ => ⟨p, ys, e, h, fun l hl => q l _ hl (Same.new hl) upd_same⟩
theorem call_tupleS : CallR X (.type "tuple") (rTupleS X.K) := call_tuple_of.imp fun xs H Q ⟨p, ys, e, h, q⟩ => ⟨p, ys, e, .inl ⟨h, fun l hl => q l _ hl (Same.new hl) upd_same⟩⟩
def rSlS (K : PySem.W.Frag) : V → Option Int → Option Int → Hp → VK → Prop := fun x lo hi H Q => ∃ a xs, x = .ref a ∧ SqL K H a xs ∧ ∀ p H', H p = none → Same H H' → H' p = some (.lst (cutV xs lo hi)) → Q (.ref p) H'
theorem SlR.imp {r r' : V → Option Int → Option Int → Hp → VK → Prop} (h : SlR X r) (hi : ∀ x lo hi H Q, r' x lo hi H Q → r x lo hi H Q) : SlR X r' := fun pins s σ H x v vl vu lo hi' sl Q I rx hs pl pu q => h pins s σ H x v vl vu lo hi' sl Q I rx hs pl pu (hi _ _ _ _ _ q)
theorem sl_listS : SlR X (rSlS X.K) := sl_list.imp fun x lo hi H Q ⟨a, xs, e, h, q⟩ => ⟨a, xs, e, h, fun p hp => q p _ hp (Same.new hp) upd_same⟩
def rCatTS (K : PySem.W.Frag) : R2 := fun x y H Q => ∃ a b xs ys, x = .ref a ∧ y = .ref b ∧ SqT K H a xs ∧ SqT K H b ys ∧ xs ≠ [] ∧ ys ≠ [] ∧ xs.length + ys.length ≤ sizeLine ∧ ∀ p H', H p = none → Same H H' → H' p = some (.tup (xs ++ ys)) → Q (.ref p) H'
theorem op_catTS : OpR X (binaryOp .Add) (rCatTS X.K) := fun pins s σ H x y v u Q I rx ry ⟨a, b, xs, ys, e1, e2, h1, h2, n1, n2, hz, q⟩ =>
  op_catT pins s σ H x y v u Q I rx ry ⟨a, b, xs, ys, e1, e2, h1, h2, n1, hz, fun z => absurd z n2, fun _ p hp => q p _ hp (Same.new hp) upd_same⟩
end
end L2

/-! ## reversed of a tuple -/
namespace PySem
namespace F
theorem lwrev_owner : Manifest.owners.lookup (String.ofList ['d', 'e', 's', 'r', 'e', 'v', 'e', 'r'].reverse) = some Manifest.sig_reversed := by kernel_rfl
theorem lwrev_next : Slot "reversed" "__next__" "reversed.__next__" :=
  .of (owner := "reversed") (n := "__next__") (by rw [typeLookup_type, builtinLookup_eq_fast]; kernel_rfl) (by decide +kernel) (by decide +kernel) (by decide +kernel)
    (by first | exact .inl (by decide +kernel) | exact .inr (by decide +kernel)) (by rw [isSubtype_type]; kernel_rfl)
theorem lwrev_entry : entryFor table "reversed.__next__" = some Builtin.«reversed.__next__» := entryFor_of_tree (by kernel_rfl)
theorem lwrev_args (a : Value) : argsOk "reversed.__next__" ⟨[a], []⟩ := by
  unfold argsOk; rw [signature?_of (id := "reversed.__next__") (n := ['_', '_', 't', 'x', 'e', 'n', '_', '_']) (o := ['d', 'e', 's', 'r', 'e', 'v', 'e', 'r']) (by kernel_rfl) lwrev_owner]; kernel_rfl
theorem lwrev_iter : Slot "reversed" "__iter__" "reversed.__iter__" :=
  .of (owner := "reversed") (n := "__iter__") (by rw [typeLookup_type, builtinLookup_eq_fast]; kernel_rfl) (by decide +kernel) (by decide +kernel) (by decide +kernel)
    (by first | exact .inl (by decide +kernel) | exact .inr (by decide +kernel)) (by rw [isSubtype_type]; kernel_rfl)
theorem lwrev_iargs (a : Value) : argsOk "reversed.__iter__" ⟨[a], []⟩ := by
  unfold argsOk; rw [signature?_of (id := "reversed.__iter__") (n := ['_', '_', 'r', 'e', 't', 'i', '_', '_']) (o := ['d', 'e', 's', 'r', 'e', 'v', 'e', 'r']) (by kernel_rfl) lwrev_owner]; kernel_rfl
theorem lwrev_ientry : entryFor table "reversed.__iter__" = some Builtin.«dict_keyiterator.__iter__» :=
  entryFor_alias (id' := "dict_keyiterator.__iter__") (by kernel_rfl) (by first | rfl | decide +kernel | (unfold String.splitOn; simp +decide [String.splitOnAux])) (by decide +kernel) (by kernel_rfl)
theorem lwrev_mro : mroOf (.type "reversed") = pure [.type "reversed", .type "object"] := by rw [mroOf_type]; kernel_rfl
theorem lwrev_newAt : typeLookup (.type "reversed") "__new__" = pure (some (.builtin "reversed.__new__")) := by rw [typeLookup_type, builtinLookup_eq_fast]; kernel_rfl
theorem lwrev_made : Bind.madeBy (.type "reversed") = pure (some "reversed.__new__") := madeBy_type lwrev_mro lwrev_newAt (by decide +kernel)
theorem lwrev_typeCall (a : Value) : checkTypeCall "reversed" ⟨[a], []⟩ = pure () := by kernel_rfl
theorem lwrev_newCall (a : Value) : checkBuiltinCall "reversed.__new__" ⟨[.type "reversed", a], []⟩ = pure () := by kernel_rfl
theorem lwrev_newEntry : entryFor table "reversed.__new__" = some Builtin.«reversed.__new__» := entryFor_of_tree (by kernel_rfl)
theorem lwrev_plain : plainId "reversed.__new__" = true := by decide +kernel
theorem lwrev_create : ((Manifest.find? "reversed").bind (·.mro.findSome? fun t => (Manifest.find? t).bind fun b => if b.noNew then some true else if b.attrs.any (·.1 == "__new__") then some false else none)).getD false = false := by decide +kernel
theorem lwrev_sub : isSubtype (.type "reversed") (.type "reversed") = pure true := by rw [isSubtype_type]; kernel_rfl
theorem lwrev_noRev : typeLookup (.type "tuple") "__reversed__" = pure none := by rw [typeLookup_type, builtinLookup_eq_fast]; kernel_rfl
theorem lwrev_noDict : isSubtype (.type "tuple") (.type "dict") = pure false := by rw [isSubtype_type]; kernel_rfl
end F

section
variable {prog : Program} {w : World} {A : Around} {E : Value → Shared → Prop} {s : Shared}
def lwrevObj (t : Addr) (i : Int) : Obj := { cls := .type "reversed", data := .fields #[.ref t, rawInt i] }
def Heap.LwRev (h : Heap) (a t : Addr) (i : Int) : Prop := h.get? a = some (lwrevObj t i)
theorem Heap.LwRev.typeIs {a t : Addr} {i : Int} (x : s.heap.LwRev a t i) : s.TypeIs (.ref a) "reversed" := ⟨_, x, rfl⟩
theorem lwrev_newClass (a : Value) : Builtin.SmallTypes.newClass "reversed" ⟨[.type "reversed", a], []⟩ = pure (.type "reversed", [a]) := by
  unfold Builtin.SmallTypes.newClass
  simp only [isType, F.lwrev_sub, pure_bind, Bool.not_true, Bool.false_eq_true, if_false]
theorem F.lwrev_init : Slot "reversed" "__init__" "object.__init__" :=
  .of (owner := "object") (n := "__init__") (by rw [typeLookup_type, builtinLookup_eq_fast]; kernel_rfl) (by decide +kernel) (by decide +kernel) (by decide +kernel)
    (by first | exact .inl (by decide +kernel) | exact .inr (by decide +kernel)) (by rw [isSubtype_type]; kernel_rfl)
theorem F.lwrev_initArgs (obj a : Value) : argsOk "object.__init__" ⟨[obj, a], []⟩ := by
  first | exact F.initArgs_range_1 obj a | (unfold argsOk; kernel_rfl)
theorem F.lwrev_called : TypeCalled "reversed" "reversed.__new__" "object.__init__" := ⟨by decide +kernel, F.lwrev_create, ⟨_, _, F.lwrev_mro⟩, F.lwrev_made, F.lwrev_plain, F.lwrev_sub, F.lwrev_init⟩
theorem lwrev_in (t : Addr) (items : Array Value) :
    MeetsIn prog w (Builtin.«reversed.__new__» ⟨[.type "reversed", .ref t], []⟩) (fun A R s => (s.heap.IsTuple t items ∧ items.size ≤ sizeLine) ∧ ∀ tk, R (.ok (.ret (.ref s.heap.objs.size))) { s with heap := s.heap.push (lwrevObj t ((items.size : Int) - 1)), toks := tk }) :=
  .of_wp fun A R s h => by
    obtain ⟨⟨ht, hz⟩, h⟩ := h
    have hT : s.TypeIs (.ref t) "tuple" := PyProof.Rows.IsTup.typeIs ht
    unfold Builtin.«reversed.__new__»
    refine wpAny_bind (wpAny_of_eq (lwrev_newClass _) ?_)
    try dsimp only
    refine wpAny_bind (wpAny_of_eq (a := ()) (by first | rfl | kernel_rfl) ?_)
    refine wpAny_bind (wpAny_of_eq (a := ()) (by first | rfl | kernel_rfl) ?_)
    try dsimp only
    refine wpAny_bind (wpAny_specialOf hT F.lwrev_noRev ?_)
    try dsimp only
    refine wpAny_bind ?_
    show wpAny _ _ (isInstance (.ref t) (.type "dict") >>= _) _ _ s
    refine wpAny_bind (wpAny_isInstance hT F.lwrev_noDict ?_)
    show wpAny _ _ (specialOf (.ref t) "__getitem__" >>= _) _ _ s
    refine wpAny_bind (wpAny_specialOf hT PyProof.Rows.slot_tuple_getitem.lookup ?_)
    show wpAny _ _ (if (["tuple.__getitem__", "str.__getitem__", "bytes.__getitem__", "bytearray.__getitem__", "memoryview.__getitem__", "numpy.ndarray.__getitem__", "sqlite3.Row.__getitem__"].contains "tuple.__getitem__") = true then pure true else _) _ _ s
    rw [if_pos (by decide)]
    refine wpAny_pure ?_
    show wpAny _ _ (if (!true) = true then _ else _) _ _ s
    rw [if_neg (by decide)]
    have hn : (sizeLine : Nat) < 2 ^ 63 := by rw [sizeLine_eq]; decide
    refine wpAny_bind (PyProof.Rows.len_tuple ht (by omega) ?_)
    refine wpAny_bind (wpAny_of_eq (a := some (items.size : Int)) rfl ?_)
    show wpAny _ _ (Builtin.SmallTypes.newRecord (.type "reversed") [.ref t, rawInt ((items.size : Int) - 1)] >>= _) _ _ _
    refine wpAny_bind ?_
    show wpAny _ _ (newObj (.type "reversed") (.fields #[.ref t, rawInt ((items.size : Int) - 1)])) _ _ _
    refine wpAny_newObj_type ?_ (by size_fits)
    exact wpAny_pure ⟨_, rfl, h _⟩
theorem call_reversed_tuple {t : Addr} {items : Array Value} {Q : Value → Shared → Prop} (ht : s.heap.IsTuple t items) (hz : items.size ≤ sizeLine)
    (h : ∀ tk, Q (.ref s.heap.objs.size) { s with heap := s.heap.push (lwrevObj t ((items.size : Int) - 1)), toks := tk }) : wpAny (model prog w) A (call (.type "reversed") [.ref t]) Q E s :=
  callType_newIn F.lwrev_called (by decide) (F.lwrev_typeCall _) (F.lwrev_newCall _) (fun obj => F.lwrev_initArgs obj _) F.lwrev_newEntry (lwrev_in t items) ⟨⟨ht, hz⟩, fun tk => ⟨⟨_, Heap.get?_push_size _ rfl, rfl⟩, h tk⟩⟩
theorem lwrev_item {it t : Addr} {i : Nat} {items : Array Value} {x : Value} {Q : Option Value → Shared → Prop} (hit : s.heap.LwRev it t (i : Int)) (ht : s.heap.IsTuple t items) (hz : items.size ≤ sizeLine) (hx : items[i]? = some x)
    (hQ : ∀ h' tk, h'.LwRev it t ((i : Int) - 1) → Heap.SameBut it s.heap h' → Q (some x) { s with heap := h', toks := tk }) : wpAny (model prog w) A (pyNext (.ref it)) Q E s := by
  have hT : s.TypeIs (.ref t) "tuple" := PyProof.Rows.IsTup.typeIs ht
  have hn : (sizeLine : Nat) < 2 ^ 63 := by rw [sizeLine_eq]; decide
  have hi : i < items.size := (Array.getElem?_eq_some_iff.mp hx).1
  unfold pyNext
  refine wpAny_bind (wpAny_attempt (wpAny_callSpecial?_slot (name := Str.ofString "__next__") hit.typeIs F.lwrev_next
    (wpAny_call_entry F.lwrev_next hit.typeIs F.lwrev_entry ?_ (F.lwrev_args _))))
  unfold Builtin.«reversed.__next__»
  refine wpAny_bind (wpAny_of_eq (a := (Value.ref it, [])) rfl ?_)
  try dsimp only
  refine wpAny_bind (wpAny_field hit rfl (x := .ref t) rfl ?_)
  refine wpAny_bind (wpAny_field hit rfl (x := rawInt (i : Int)) rfl ?_)
  show wpAny _ _ (if (i : Int) < 0 then _ else _) _ _ s
  rw [if_neg (by omega)]
  show wpAny _ _ (specialOf (.ref t) "__getitem__" >>= _) _ _ s
  refine wpAny_bind (wpAny_specialOf hT PyProof.Rows.slot_tuple_getitem.lookup ?_)
  show wpAny _ _ (if (Option.isNone (some _)) = true then _ else _) _ _ s
  rw [if_neg (by decide)]
  show wpAny _ _ (mkInt (i : Int) >>= _) _ _ s
  refine wpAny_bind (wpAny_mkInt ?_)
  refine wpAny_bind (wpAny_attempt (PyProof.Rows.getItem_tuple (j := i) ht (by omega) (by omega) (PySem.StrLaws.seqIndex_nonneg (by omega) (by omega)) hx ?_))
  dsimp only
  refine wpAny_bind (wpAny_field hit rfl (x := rawInt (i : Int)) rfl ?_)
  show wpAny _ _ (setField (.ref it) 1 (rawInt ((i : Int) - 1)) >>= _) _ _ _
  refine wpAny_bind (wpAny_setField hit rfl (by simp) ?_)
  refine wpAny_pure ⟨x, rfl, wpAny_pure (hQ _ _ ?_ (Heap.SameBut.update ..))⟩
  exact (Heap.get?_update_self _ hit (Obj.isFreed_of_fields (Obj.data_mapFields rfl _))).trans rfl
theorem lwrev_end {it t : Addr} {Q : Option Value → Shared → Prop} (hh : A.handled = none) (hit : s.heap.LwRev it t (-1))
    (hQ : ∀ h', Heap.ExtBut it s.heap h' → Q none { s with heap := h' }) : wpAny (model prog w) A (pyNext (.ref it)) Q E s := by
  unfold pyNext
  refine wpAny_bind (wpAny_attempt (wpAny_callSpecial?_slot (name := Str.ofString "__next__") hit.typeIs F.lwrev_next
    (wpAny_call_entry F.lwrev_next hit.typeIs F.lwrev_entry ?_ (F.lwrev_args _))))
  unfold Builtin.«reversed.__next__»
  refine wpAny_bind (wpAny_of_eq (a := (Value.ref it, [])) rfl ?_)
  try dsimp only
  refine wpAny_bind (wpAny_field hit rfl (x := .ref t) rfl ?_)
  refine wpAny_bind (wpAny_field hit rfl (x := rawInt (-1)) rfl ?_)
  show wpAny _ _ (if (-1 : Int) < 0 then _ else _) _ _ s
  rw [if_pos (by decide)]
  refine wpAny_bind (wpAny_rule ?_)
  refine wpAny_bind ?_
  show wpAny _ _ (setField (.ref it) 1 (rawInt (-1)) >>= _) _ _ _
  refine wpAny_bind (wpAny_setField hit rfl (by simp) ?_)
  refine wpAny_setField (o := Obj.mapFields (fun a => a.setIfInBounds 1 (rawInt (-1))) (lwrevObj t (-1))) (Heap.get?_update_self _ hit (Obj.isFreed_of_fields (Obj.data_mapFields rfl _))) (Obj.data_mapFields rfl _) (by simp) ?_
  refine wpAny_bind ?_
  show wpAny _ _ (newExc (.type "StopIteration") [] >>= _) _ _ _
  refine wpAny_bind ?_
  simp only [newExc, newTuple]
  refine wpAny_bind (wpAny_newObj_type ?_ (by size_fits))
  refine wpAny_bind (m := firstArgMember _ _) (wpAny_of_eq (a := Value.none) (by first | rfl | (simp only [firstArgMember]; rfl)) ?_)
  refine wpAny_newObj_type ?_ (by size_fits)
  simp only [raiseNew]
  refine wpAny_bind (wpAny_handled ?_)
  first | rw [show A.in1.handled = none from hh] | rw [hh]
  refine wpAny_bind (wpAny_pure (wpAny_throw ?_))
  refine wpAny_bind (wpAny_isInstance (T := "StopIteration") (b := true) ⟨_, Heap.get?_push_size _ rfl, rfl⟩ isSubtype_stop ?_)
  refine wpAny_pure (hQ _ ?_)
  refine Heap.ExtBut.push (Heap.ExtBut.push ?_ _) _
  intro b o hb e
  exact (Heap.get?_update_other _ _ (Ne.symm hb)).trans ((Heap.get?_update_other _ _ (Ne.symm hb)).trans e)
theorem lwrev_self {it t : Addr} {i : Int} {Q : Value → Shared → Prop} (hit : s.heap.LwRev it t i) (h : Q (.ref it) s) : wpAny (model prog w) A (pyIter (.ref it)) Q E s := by
  refine wpAny_pyIter_slot hit.typeIs F.lwrev_iter (wpAny_call_entry F.lwrev_iter hit.typeIs F.lwrev_ientry ?_ (F.lwrev_iargs _))
  show wpAny _ _ (ret (.ref it)) _ _ s
  exact wpAny_pure ⟨_, rfl, "reversed", _, hit.typeIs, F.lwrev_next.lookup, h⟩
end
end PySem

namespace L2
open PySem PySem.Spec PyProof.Rows
/-- a tuple of n things, from behind -/
def Itv (K : PySem.W.Frag) (a : Addr) (n : Nat) : It :=
  ⟨fun i H => ∃ xs x, SqT K H a xs ∧ xs.length = n ∧ i < n ∧ xs[n - 1 - i]? = some x, fun i H x H' => H' = H ∧ ∀ xs, SqT K H a xs → xs[n - 1 - i]? = some x, fun i _ => n ≤ i⟩
theorem turn_rev {P : Program} {w : World} {K : PySem.W.Frag} {tg : Expr} (a it : Addr) (n : Nat) : Turn P w K tg (Itv K a n) [it] it (fun i h => i ≤ n ∧ h.LwRev it a ((n : Int) - 1 - (i : Nat))) where
  mem := by simp
  obj := fun i h st b hb => by
    have e : b = it := by simpa using hb
    subst e
    exact ⟨_, st.2, fun v z => by
      have z' : Data.fields _ = Data.cell v := z
      cases z'⟩
  keep := fun i h h' st k => ⟨st.1, k it (by simp) _ st.2⟩
  item := by
    intro X hP hw hK hc i pins s σ H E I hf st hg
    subst hP hw hK
    obtain ⟨xs, x, hq, hn, hi, hx⟩ := hg
    obtain ⟨its, rv, p, hz⟩ := I.tuple hq
    obtain ⟨u, hu, ru⟩ := rv.get hx
    obtain ⟨f0, f1, f2, f3, f4, f5⟩ := hf it (by simp)
    have hl := rv.length
    have st0 : s.heap.LwRev it a (((n - 1 - i : Nat)) : Int) := by
      have e : (((n - 1 - i : Nat)) : Int) = (n : Int) - 1 - (i : Nat) := by omega
      rw [e]; exact st.2
    refine lwrev_item (items := its.toArray) st0 p (by rw [List.size_toArray, ← hl]; exact hz) (x := u) (by simpa using hu) fun h' tk st' sb => ?_
    have I1 : Inv X pins σ H { s with heap := h', toks := tk } := I.turned (fun b o hb e => (sb.2 b hb).trans e) f0 f1 f3 f4 f5
    have st1 : h'.LwRev it a ((n : Int) - 1 - ((i + 1 : Nat) : Int)) := by
      have e : (n : Int) - 1 - ((i + 1 : Nat) : Int) = (((n - 1 - i : Nat)) : Int) - 1 := by omega
      rw [e]; exact st'
    exact ⟨u, rfl, go_of (s := { s with heap := h', toks := tk }) (n := "reversed") st' rfl rfl (by decide) ⟨x, H, I1, ru, ⟨rfl, fun ys hy => by rw [I.tuple_inj hy hq]; exact hx⟩, ⟨by omega, st1⟩, fun b hb => (hf b hb).1⟩⟩
  done := by
    intro X hP hw hK hc i pins s σ H E I hf st hg
    subst hP hw hK
    obtain ⟨f0, f1, f2, f3, f4, f5⟩ := hf it (by simp)
    have st0 : s.heap.LwRev it a (-1) := by
      have h1 := st.1
      have h2 : n ≤ i := hg
      have e : (-1 : Int) = (n : Int) - 1 - (i : Nat) := by omega
      rw [e]; exact st.2
    exact lwrev_end (I.ok.hd hc) st0 fun h' eb => ⟨rfl, I.turned (t' := s.toks) (fun b o hb e => eb b o hb e) f0 f1 f3 f4 f5⟩
  self := fun _ _ _ _ _ st h => lwrev_self st.2 h
section
variable {X : Cx} {tg : Expr}
def iRev (K : PySem.W.Frag) (ta : TA) : TI := fun σ H R => ta σ H fun vs H1 => ∃ a xs, vs = [.ref a] ∧ SqT K H1 a xs ∧ R (Itv K a xs.length) H1
theorem pi_reversed {l : Expr} {ta : TA} {p pos : Pos} (hg : Gl X "reversed") (hm : X.mg "reversed" = none) (ha : PA X [l] ta) (hs : starEach [l] X.env = [(false, eval l X.env)] := by rfl) : PI X tg (.Call (.Name "reversed" p) [l] [] pos) (iRev X.K ta) := by
  intro pins s σ H R I h
  refine Call_ (ld_blt I hg hm PyProof.Rows.boot_reversed (PyProof.Rows.callWith_type1 (thn (ha pos pins s σ H _ I h) fun us s1 ⟨vs, H1, I1, r1, q1⟩ => ?_) hs rfl))
  obtain ⟨a, xs, e, hq, q⟩ := q1
  subst e
  obtain ⟨u, rfl, ru⟩ := vals1 r1
  cases ru
  obtain ⟨its, rv, pt, hz⟩ := I1.tuple hq
  have hl := rv.length
  refine call_reversed_tuple (items := its.toArray) pt (by rw [List.size_toArray, ← hl]; exact hz) fun tk => ?_
  have e0 : (s1.heap.push (lwrevObj a ((its.toArray.size : Int) - 1))).LwRev s1.heap.objs.size a ((xs.length : Int) - 1 - ((0 : Nat) : Int)) := by
    have e : (xs.length : Int) - 1 - ((0 : Nat) : Int) = (its.toArray.size : Int) - 1 := by rw [List.size_toArray, hl]; omega
    rw [e]
    exact Heap.get?_push_size _ rfl
  refine lwrev_self e0 ?_
  refine ⟨s1.heap.objs.size, [s1.heap.objs.size], _, _, H1, rfl, I1.kept fun b o e => Heap.get?_push_of_some _ e, turn_rev a _ xs.length, ⟨Nat.zero_le _, e0⟩, fun b hb => ?_, q⟩
  have e : b = s1.heap.objs.size := by simpa using hb
  subst e
  exact I1.fpOk (Nat.le_refl _) (I1.hok.fresh (Nat.le_refl _))
end
theorem for_rev {K : PySem.W.Frag} {a : Addr} {xs : List V} {g : TG} {tb : TS} {D : Ends} {σ : St} {H : Hp} (Pv : Nat → St → Hp → Prop) (h0 : Pv 0 σ H) (hl : ∀ i σ H, i ≤ xs.length → Pv i σ H → SqT K H a xs)
    (hs : ∀ i x σ H, i < xs.length → xs[xs.length - 1 - i]? = some x → Pv i σ H → g x σ H fun σ2 H2 => tb { D with nx := Pv (i + 1), ct := Pv (i + 1), bk := D.nx } σ2 H2) (hd : ∀ σ H, Pv xs.length σ H → D.nx σ H) :
    ∃ W : Nat → Nat → St → Hp → Prop, (∃ m, W 0 m σ H) ∧ ∀ i m σ H, W i m σ H →
      ((Itv K a xs.length).stop i H ∧ D.nx σ H) ∨ ((Itv K a xs.length).go i H ∧ ∃ N : St → Hp → Prop, (∀ σ' H', N σ' H' → ∃ m', m' < m ∧ W (i + 1) m' σ' H') ∧ ∀ x H', (Itv K a xs.length).yld i H x H' → g x σ H' fun σ2 H2 => tb { D with nx := N, ct := N, bk := D.nx } σ2 H2) := by
  refine ⟨fun i m σ H => m = xs.length - i ∧ i ≤ xs.length ∧ Pv i σ H, ⟨xs.length, by simp, Nat.zero_le _, h0⟩, ?_⟩
  rintro i m σ H ⟨rfl, hi, p⟩
  have q := hl i σ H hi p
  by_cases hlt : i < xs.length
  · refine .inr ⟨⟨xs, xs[xs.length - 1 - i]'(by omega), q, rfl, hlt, List.getElem?_eq_getElem (by omega)⟩, Pv (i + 1), fun σ' H' p' => ⟨xs.length - (i + 1), by omega, rfl, hlt, p'⟩, fun x H' y => ?_⟩
    obtain ⟨e, y⟩ := y
    subst e
    exact hs i x σ _ hlt (y xs q) p
  · have e : i = xs.length := by omega
    subst e
    exact .inl ⟨Nat.le_refl _, hd σ H p⟩
theorem Same.seqT {K : PySem.W.Frag} {H H' : Hp} {a : Addr} {xs : List V} (e : Same H H') (h : SqT K H a xs) : SqT K H' a xs := by
  rcases h with (h | ⟨o, h⟩) | h
  · exact .inl (.inl (e _ _ h))
  · exact .inl (.inr ⟨o, e _ _ h⟩)
  · exact .inr h
/-- a module's int -/
theorem pe_globI {X : Cx} {x : Str} {i : Int} {pos : Pos} (hg : Gl X x) (hm : ∃ t, X.mg x = some (.int i t)) (hd : (x == ("__debug__" : Str)) = false := by decide) : PE X (.Name x pos) (tC (.int i)) := by
  obtain ⟨t, e⟩ := hm
  exact pe_glob hg e ⟨t, rfl⟩ hd
/-- all but the one at l is as it was -/
def SameBut' (l : Addr) (H H' : Hp) : Prop := ∀ b o, b ≠ l → H b = some o → H' b = some o
theorem SameBut'.refl (l : Addr) (H : Hp) : SameBut' l H H := fun _ _ _ h => h
theorem SameBut'.trans {l : Addr} {H H1 H2 : Hp} (a : SameBut' l H H1) (b : SameBut' l H1 H2) : SameBut' l H H2 := fun c o hc h => b c o hc (a c o hc h)
theorem Same.but {l : Addr} {H H' : Hp} (s : Same H H') : SameBut' l H H' := fun b o _ e => s b o e
theorem SameBut'.upd {l : Addr} {H : Hp} {o : HO} : SameBut' l H (upd H l o) := fun b u hb e => by rw [upd_ne hb]; exact e
theorem SameBut'.same {l : Addr} {H H1 H2 : Hp} (h : H l = none) (s : Same H H1) (t : SameBut' l H1 H2) : Same H H2 := fun b o e => t b o (ne_of_none e h) (s b o e)
end L2

/-! ## THE VALUE LAYER: what a thing is worth, lists and tuples by their items; new lists are owned by one name -/
namespace L2
open PySem PySem.Spec PyProof.Rows

inductive D where
  | int (i : Int) | bl (b : Bool) | non | str (x : Str) | ty (n : String) | fn (x : Str) | tup (ds : List D) | lst (ds : List D)

mutual
/-- v is worth d, by the heap F -/
def Rep (K : PySem.W.Frag) (F : Hp) : D → V → Prop
  | .int i, v => v = .int i
  | .bl b, v => v = .bl b
  | .non, v => v = .non
  | .str x, v => v = .str x
  | .ty n, v => v = .ty n
  | .fn x, v => ∃ f, v = .ref f ∧ PySem.W.nsIn K mainGlobals x = some (some (.ref f))
  | .tup ds, v => ∃ a vs, v = .ref a ∧ SqT K F a vs ∧ Reps K F ds vs
  | .lst ds, v => ∃ a vs, v = .ref a ∧ SqL K F a vs ∧ Reps K F ds vs
def Reps (K : PySem.W.Frag) (F : Hp) : List D → List V → Prop
  | [], vs => vs = []
  | d :: ds, vs => ∃ v r, vs = v :: r ∧ Rep K F d v ∧ Reps K F ds r
end
section
variable {K : PySem.W.Frag} {F F' H H' : Hp}
mutual
theorem Rep.mono (s : Same F F') : ∀ {d : D} {v : V}, Rep K F d v → Rep K F' d v
  | .int _, _, h => h
  | .bl _, _, h => h
  | .non, _, h => h
  | .str _, _, h => h
  | .ty _, _, h => h
  | .fn _, _, h => h
  | .tup ds, v, h => by
    obtain ⟨a, vs, e, h1, h2⟩ := h
    exact ⟨a, vs, e, s.seqT h1, Reps.mono s h2⟩
  | .lst ds, v, h => by
    obtain ⟨a, vs, e, h1, h2⟩ := h
    exact ⟨a, vs, e, s.seq h1, Reps.mono s h2⟩
theorem Reps.mono (s : Same F F') : ∀ {ds : List D} {vs : List V}, Reps K F ds vs → Reps K F' ds vs
  | [], _, h => h
  | d :: ds, vs, h => by
    obtain ⟨v, r, e, h1, h2⟩ := h
    exact ⟨v, r, e, Rep.mono s h1, Reps.mono s h2⟩
end
theorem Reps.length : ∀ {ds : List D} {vs : List V}, Reps K F ds vs → ds.length = vs.length
  | [], _, h => by cases h; rfl
  | d :: ds, vs, h => by
    obtain ⟨v, r, rfl, h1, h2⟩ := h
    simp [Reps.length h2]
theorem Reps.get : ∀ {ds : List D} {vs : List V} {i : Nat} {d : D}, Reps K F ds vs → ds[i]? = some d → ∃ v, vs[i]? = some v ∧ Rep K F d v
  | [], _, _, _, _, e => by simp at e
  | d :: ds, vs, i, d', h, e => by
    obtain ⟨v, r, rfl, h1, h2⟩ := h
    cases i with
    | zero => simp at e; subst e; exact ⟨v, rfl, h1⟩
    | succ i => simpa using Reps.get h2 (by simpa using e)
theorem Reps.get' : ∀ {ds : List D} {vs : List V} {i : Nat} {v : V}, Reps K F ds vs → vs[i]? = some v → ∃ d, ds[i]? = some d ∧ Rep K F d v := fun {ds vs i v} h e => by
  have hl := h.length
  have hi := (List.getElem?_eq_some_iff.mp e).1
  obtain ⟨v', e', r⟩ := h.get (List.getElem?_eq_getElem (l := ds) (i := i) (by omega))
  rw [e] at e'; cases e'
  exact ⟨_, List.getElem?_eq_getElem (by omega), r⟩
theorem Reps.append : ∀ {ds es : List D} {vs us : List V}, Reps K F ds vs → Reps K F es us → Reps K F (ds ++ es) (vs ++ us)
  | [], _, _, _, h, g => by cases h; exact g
  | d :: ds, _, _, _, h, g => by
    obtain ⟨v, r, rfl, h1, h2⟩ := h
    exact ⟨v, r ++ _, rfl, h1, Reps.append h2 g⟩
theorem Reps.take : ∀ {ds : List D} {vs : List V} (n : Nat), Reps K F ds vs → Reps K F (ds.take n) (vs.take n)
  | [], _, n, h => by cases h; simp [Reps]
  | d :: ds, _, 0, h => by simp [Reps]
  | d :: ds, _, n + 1, h => by
    obtain ⟨v, r, rfl, h1, h2⟩ := h
    exact ⟨v, r.take n, rfl, h1, Reps.take n h2⟩
theorem Reps.drop : ∀ {ds : List D} {vs : List V} (n : Nat), Reps K F ds vs → Reps K F (ds.drop n) (vs.drop n)
  | [], _, n, h => by cases h; simp [Reps]
  | d :: ds, _, 0, h => h
  | d :: ds, _, n + 1, h => by
    obtain ⟨v, r, rfl, h1, h2⟩ := h
    simpa using Reps.drop n h2
theorem Reps.of : ∀ {ds : List D} {vs : List V}, ds.length = vs.length → (∀ (i : Nat) d v, ds[i]? = some d → vs[i]? = some v → Rep K F d v) → Reps K F ds vs
  | [], [], _, _ => rfl
  | d :: ds, v :: vs, e, h => ⟨v, vs, rfl, h 0 d v rfl rfl, Reps.of (by simpa using e) fun i d' v' e1 e2 => h (i + 1) d' v' (by simpa using e1) (by simpa using e2)⟩
  | [], _ :: _, e, _ => by simp at e
  | _ :: _, [], e, _ => by simp at e
theorem Reps.reverse {ds : List D} {vs : List V} (h : Reps K F ds vs) : Reps K F ds.reverse vs.reverse := by
  have hl := h.length
  refine Reps.of (by simp [hl]) fun i d v e1 e2 => ?_
  have h1 := (List.getElem?_eq_some_iff.mp e1).1
  rw [List.length_reverse] at h1
  rw [List.getElem?_reverse (by omega)] at e1
  rw [List.getElem?_reverse (by omega), ← hl] at e2
  obtain ⟨v', e', r⟩ := h.get e1
  rw [e2] at e'; cases e'; exact r
theorem reps_ints : ∀ {xs : List Int} {vs : List V}, Reps K F (xs.map D.int) vs ↔ vs = xs.map V.int
  | [], vs => Iff.rfl
  | x :: xs, vs => by
    constructor
    · rintro ⟨v, r, rfl, h1, h2⟩
      have h1' : v = V.int x := h1
      rw [h1', reps_ints.mp h2]; rfl
    · rintro rfl
      exact ⟨_, _, rfl, rfl, reps_ints.mpr rfl⟩
end

/-- what a name owns: a thing that never changes, or a list of its own -/
inductive OV where
  | fz (d : D)
  | nl (ts : List OV)
  | rt (a : Addr) (ts : List OV)
  | fx (v : V) (d : D)
mutual
def OV.val : OV → D
  | .fz d => d
  | .nl ts => .lst (OV.vals ts)
  | .rt _ ts => .lst (OV.vals ts)
  | .fx _ d => d
def OV.vals : List OV → List D
  | [] => []
  | t :: ts => t.val :: OV.vals ts
end
theorem OV.vals_eq : ∀ (ts : List OV), OV.vals ts = ts.map OV.val
  | [] => by simp [OV.vals]
  | t :: ts => by simp [OV.vals, OV.vals_eq ts]
mutual
def RepO (K : PySem.W.Frag) (F H : Hp) : OV → V → List Addr → Prop
  | .fz d, v, A => A = [] ∧ Rep K F d v
  | .nl ts, v, A => ∃ a vs B, v = .ref a ∧ A = a :: B ∧ H a = some (.lst vs) ∧ RepOs K F H ts vs B
  | .rt a ts, v, A => ∃ vs B, v = .ref a ∧ A = a :: B ∧ H a = some (.lst vs) ∧ RepOs K F H ts vs B
  | .fx u d, v, A => A = [] ∧ v = u ∧ Rep K F d v
def RepOs (K : PySem.W.Frag) (F H : Hp) : List OV → List V → List Addr → Prop
  | [], vs, A => vs = [] ∧ A = []
  | t :: ts, vs, A => ∃ v r B C, vs = v :: r ∧ A = B ++ C ∧ RepO K F H t v B ∧ RepOs K F H ts r C
end
section
variable {K : PySem.W.Frag} {F F' H H' : Hp}
mutual
theorem RepO.frame (s : Same F F') : ∀ {t : OV} {v : V} {A : List Addr}, (∀ a ∈ A, ∀ xs, H a = some (.lst xs) → H' a = some (.lst xs)) → RepO K F H t v A → RepO K F' H' t v A
  | .fz d, v, A, _, h => ⟨h.1, h.2.mono s⟩
  | .nl ts, v, A, hk, h => by
    obtain ⟨a, vs, B, e, rfl, h1, h2⟩ := h
    exact ⟨a, vs, B, e, rfl, hk a List.mem_cons_self _ h1, RepOs.frame s (fun b hb => hk b (List.mem_cons_of_mem _ hb)) h2⟩
  | .rt a ts, v, A, hk, h => by
    obtain ⟨vs, B, e, rfl, h1, h2⟩ := h
    exact ⟨vs, B, e, rfl, hk a List.mem_cons_self _ h1, RepOs.frame s (fun b hb => hk b (List.mem_cons_of_mem _ hb)) h2⟩
  | .fx u d, v, A, _, h => ⟨h.1, h.2.1, h.2.2.mono s⟩
theorem RepOs.frame (s : Same F F') : ∀ {ts : List OV} {vs : List V} {A : List Addr}, (∀ a ∈ A, ∀ xs, H a = some (.lst xs) → H' a = some (.lst xs)) → RepOs K F H ts vs A → RepOs K F' H' ts vs A
  | [], vs, A, _, h => h
  | t :: ts, vs, A, hk, h => by
    obtain ⟨v, r, B, C, e, rfl, h1, h2⟩ := h
    exact ⟨v, r, B, C, e, rfl, RepO.frame s (fun b hb => hk b (List.mem_append_left _ hb)) h1, RepOs.frame s (fun b hb => hk b (List.mem_append_right _ hb)) h2⟩
end
mutual
theorem RepO.isl : ∀ {t : OV} {v : V} {A : List Addr}, RepO K F H t v A → ∀ a ∈ A, ∃ xs, H a = some (.lst xs)
  | .fz d, v, A, h, a, ha => by rw [h.1] at ha; cases ha
  | .nl ts, v, A, h, a, ha => by
    obtain ⟨b, vs, B, e, rfl, h1, h2⟩ := h
    rcases List.mem_cons.mp ha with rfl | z
    · exact ⟨_, h1⟩
    · exact RepOs.isl h2 a z
  | .rt b ts, v, A, h, a, ha => by
    obtain ⟨vs, B, e, rfl, h1, h2⟩ := h
    rcases List.mem_cons.mp ha with rfl | z
    · exact ⟨_, h1⟩
    · exact RepOs.isl h2 a z
  | .fx u d, v, A, h, a, ha => by rw [h.1] at ha; cases ha
theorem RepOs.isl : ∀ {ts : List OV} {vs : List V} {A : List Addr}, RepOs K F H ts vs A → ∀ a ∈ A, ∃ xs, H a = some (.lst xs)
  | [], vs, A, h, a, ha => by rw [h.2] at ha; cases ha
  | t :: ts, vs, A, h, a, ha => by
    obtain ⟨v, r, B, C, e, rfl, h1, h2⟩ := h
    rcases List.mem_append.mp ha with z | z
    · exact RepO.isl h1 a z
    · exact RepOs.isl h2 a z
end
mutual
theorem RepO.rep (s : Same F F') : ∀ {t : OV} {v : V} {A : List Addr}, (∀ a ∈ A, ∀ xs, H a = some (.lst xs) → F' a = some (.lst xs)) → RepO K F H t v A → Rep K F' t.val v
  | .fz d, v, A, _, h => h.2.mono s
  | .nl ts, v, A, hk, h => by
    obtain ⟨a, vs, B, e, rfl, h1, h2⟩ := h
    exact ⟨a, vs, e, SqL.of (hk a List.mem_cons_self _ h1), RepOs.rep s (fun b hb => hk b (List.mem_cons_of_mem _ hb)) h2⟩
  | .fx u d, v, A, _, h => h.2.2.mono s
  | .rt a ts, v, A, hk, h => by
    obtain ⟨vs, B, e, rfl, h1, h2⟩ := h
    exact ⟨a, vs, e, SqL.of (hk a List.mem_cons_self _ h1), RepOs.rep s (fun b hb => hk b (List.mem_cons_of_mem _ hb)) h2⟩
theorem RepOs.rep (s : Same F F') : ∀ {ts : List OV} {vs : List V} {A : List Addr}, (∀ a ∈ A, ∀ xs, H a = some (.lst xs) → F' a = some (.lst xs)) → RepOs K F H ts vs A → Reps K F' (OV.vals ts) vs
  | [], vs, A, _, h => h.1
  | t :: ts, vs, A, hk, h => by
    obtain ⟨v, r, B, C, e, rfl, h1, h2⟩ := h
    exact ⟨v, r, e, RepO.rep s (fun b hb => hk b (List.mem_append_left _ hb)) h1, RepOs.rep s (fun b hb => hk b (List.mem_append_right _ hb)) h2⟩
end
theorem RepOs.length : ∀ {ts : List OV} {vs : List V} {A : List Addr}, RepOs K F H ts vs A → ts.length = vs.length
  | [], _, _, h => by rw [h.1]; rfl
  | t :: ts, _, _, h => by
    obtain ⟨v, r, B, C, rfl, rfl, h1, h2⟩ := h
    simp [RepOs.length h2]
theorem RepOs.append : ∀ {ts us : List OV} {vs ws : List V} {A B : List Addr}, RepOs K F H ts vs A → RepOs K F H us ws B → RepOs K F H (ts ++ us) (vs ++ ws) (A ++ B)
  | [], _, _, _, _, _, h, g => by obtain ⟨rfl, rfl⟩ := h; exact g
  | t :: ts, _, _, _, _, _, h, g => by
    obtain ⟨v, r, B, C, rfl, rfl, h1, h2⟩ := h
    exact ⟨v, _, B, _, rfl, by rw [List.append_assoc], h1, RepOs.append h2 g⟩
theorem RepOs.one {t : OV} {v : V} {A : List Addr} (h : RepO K F H t v A) : RepOs K F H [t] [v] A := ⟨v, [], A, [], rfl, by simp, h, rfl, rfl⟩
/-- the thing at place i, and another in its stead -/
theorem RepOs.focus : ∀ {ts : List OV} {vs : List V} {A : List Addr} {i : Nat} {t : OV}, RepOs K F H ts vs A → ts[i]? = some t → ∃ v A1 B A2, vs[i]? = some v ∧ A = A1 ++ (B ++ A2) ∧ RepO K F H t v B ∧
    ∀ F' H' t' v' B', Same F F' → (∀ a ∈ A1 ++ A2, ∀ xs, H a = some (.lst xs) → H' a = some (.lst xs)) → RepO K F' H' t' v' B' → RepOs K F' H' (ts.set i t') (vs.set i v') (A1 ++ (B' ++ A2))
  | [], _, _, _, _, _, e => by simp at e
  | t :: ts, _, _, 0, t0, h, e => by
    obtain ⟨v, r, B, C, rfl, rfl, h1, h2⟩ := h
    simp at e
    subst e
    refine ⟨v, [], B, C, rfl, rfl, h1, fun F' H' t' v' B' s hk h' => ?_⟩
    exact ⟨v', r, B', C, rfl, rfl, h', RepOs.frame s (fun a ha => hk a ha) h2⟩
  | t :: ts, _, _, i + 1, t0, h, e => by
    obtain ⟨v, r, B, C, rfl, rfl, h1, h2⟩ := h
    obtain ⟨v0, A1, B0, A2, e1, rfl, h3, h4⟩ := RepOs.focus (i := i) h2 (by simpa using e)
    refine ⟨v0, B ++ A1, B0, A2, by simpa using e1, by simp, h3, fun F' H' t' v' B' s hk h' => ?_⟩
    refine ⟨v, r.set i v', B, A1 ++ (B' ++ A2), rfl, by simp, RepO.frame s (fun a ha => hk a (by simp [ha])) h1, h4 F' H' t' v' B' s (fun a ha => hk a ?_) h'⟩
    rcases List.mem_append.mp ha with z | z <;> simp [z]
theorem RepOs.fzs : ∀ {ds : List D} {vs : List V}, Reps K F ds vs → RepOs K F H (ds.map OV.fz) vs []
  | [], _, h => ⟨h, rfl⟩
  | d :: ds, _, h => by
    obtain ⟨v, r, rfl, h1, h2⟩ := h
    exact ⟨v, r, [], [], rfl, rfl, ⟨rfl, h1⟩, RepOs.fzs h2⟩
theorem RepOs.reps : ∀ {ds : List D} {vs : List V} {A : List Addr}, RepOs K F H (ds.map OV.fz) vs A → Reps K F ds vs ∧ A = []
  | [], _, _, h => ⟨h.1, h.2⟩
  | d :: ds, _, _, h => by
    obtain ⟨v, r, B, C, rfl, rfl, h1, h2⟩ := h
    obtain ⟨e1, e2⟩ := RepOs.reps h2
    exact ⟨⟨v, r, rfl, h1.2, e1⟩, by rw [h1.1, e2]; rfl⟩
end

/-- what never changes -/
def imm : HO → Bool
  | .tup _ => true
  | .frz _ _ => true
  | _ => false
/-- from (F, H) on: nothing changes, nothing that could be changed is frozen but what is new -/
structure Ext (F H F' H' : Hp) : Prop where
  ff : Same F F'
  hh : Same H H'
  fh : Same F' H'
  no : ∀ a o, F a = none → H a = some o → imm o = false → F' a = none
theorem Ext.refl {F H : Hp} (s : Same F H) : Ext F H F H := ⟨Same.refl _, Same.refl _, s, fun _ _ h _ _ => h⟩
theorem Ext.trans {F H F' H' F'' H'' : Hp} (a : Ext F H F' H') (b : Ext F' H' F'' H'') : Ext F H F'' H'' :=
  ⟨a.ff.trans b.ff, a.hh.trans b.hh, b.fh, fun x o h1 h2 h3 => b.no x o (a.no x o h1 h2 h3) (a.hh _ _ h2) h3⟩
theorem Ext.fh0 {F H F' H' : Hp} (a : Ext F H F' H') : Same F H' := a.ff.trans a.fh
/-- r at v is new since H -/
def RepN (K : PySem.W.Frag) (H F' H' : Hp) (r : OV) (v : V) : Prop := ∃ A, RepO K F' H' r v A ∧ A.Nodup ∧ ∀ a ∈ A, H a = none ∧ F' a = none
theorem RepN.fz {K : PySem.W.Frag} {H F' H' : Hp} {d : D} {v : V} (h : Rep K F' d v) : RepN K H F' H' (.fz d) v := ⟨[], ⟨rfl, h⟩, List.nodup_nil, fun _ h => by cases h⟩
theorem RepN.old {K : PySem.W.Frag} {H0 H F' H' : Hp} {r : OV} {v : V} (s : Same H0 H) (h : RepN K H F' H' r v) : RepN K H0 F' H' r v := by
  obtain ⟨A, h1, h2, h3⟩ := h
  exact ⟨A, h1, h2, fun a ha => ⟨s.free (h3 a ha).1, (h3 a ha).2⟩⟩
theorem RepN.on {K : PySem.W.Frag} {H F' H' F'' H'' : Hp} {r : OV} {v : V} (h : RepN K H F' H' r v) (x : Ext F' H' F'' H'') : RepN K H F'' H'' r v := by
  obtain ⟨A, h1, h2, h3⟩ := h
  refine ⟨A, h1.frame x.ff fun a _ xs e => x.hh _ _ e, h2, fun a ha => ⟨(h3 a ha).1, ?_⟩⟩
  obtain ⟨xs, e⟩ := h1.isl a ha
  exact x.no a _ (h3 a ha).2 e rfl
/-- what is new may be frozen -/
theorem RepN.frz {K : PySem.W.Frag} {F H F' H' : Hp} {r : OV} {v : V} (x : Ext F H F' H') (h : RepN K H F' H' r v) : ∃ F'', Ext F H F'' H' ∧ Same F' F'' ∧ Rep K F'' r.val v := by
  obtain ⟨A, h1, h2, h3⟩ := h
  refine ⟨fun a => if a ∈ A then H' a else F' a, ⟨fun b o e => ?_, x.hh, fun b o e => ?_, fun a o e1 e2 e3 => ?_⟩, fun b o e => ?_, ?_⟩
  · have hb : b ∉ A := fun z => by rw [(x.ff.free (h3 b z).2)] at e; cases e
    rw [if_neg hb]; exact x.ff _ _ e
  · try dsimp only at e
    split at e
    · exact e
    · exact x.fh _ _ e
  · have ha : a ∉ A := fun z => by rw [(h3 a z).1] at e2; cases e2
    rw [if_neg ha]; exact x.no a o e1 e2 e3
  · have hb : b ∉ A := fun z => by rw [(h3 b z).2] at e; cases e
    try dsimp only
    rw [if_neg hb]; exact e
  · refine h1.rep (fun b o e => ?_) fun a ha xs e => ?_
    · have hb : b ∉ A := fun z => by rw [(h3 b z).2] at e; cases e
      rw [if_neg hb]; exact e
    · rw [if_pos ha]; exact e

/-- a slot: owned, or only lent (as it stood at the entry) -/
inductive Sl where
  | own (t : OV)
  | bw (d : D)
abbrev Dst := List (Option Sl)
/-- F0, H0: the entry -/
structure ER (K : PySem.W.Frag) (F0 H0 F H : Hp) (σ : St) (δ : Dst) (A : Nat → List Addr) : Prop where
  len : σ.length = δ.length
  ext : Ext F0 H0 F H
  own : ∀ (i : Nat) (t : OV), δ[i]? = some (some (.own t)) → ∃ v, σ[i]? = some (some v) ∧ RepO K F H t v (A i)
  bw : ∀ (i : Nat) (d : D), δ[i]? = some (some (.bw d)) → ∃ v, σ[i]? = some (some v) ∧ Rep K H0 d v
  nod : ∀ i, (A i).Nodup
  dis : ∀ i j a, i ≠ j → a ∈ A i → a ∉ A j
  new : ∀ i a, a ∈ A i → F a = none ∧ H0 a = none ∧ ∃ xs, H a = some (.lst xs)
def EnvR (K : PySem.W.Frag) (F0 H0 F H : Hp) (σ : St) (δ : Dst) : Prop := ∃ A, ER K F0 H0 F H σ δ A
section
variable {K : PySem.W.Frag} {F0 H0 F H F' H' : Hp} {σ : St} {δ : Dst} {A : Nat → List Addr}
theorem ER.on (e : ER K F0 H0 F H σ δ A) (x : Ext F H F' H') : ER K F0 H0 F' H' σ δ A where
  len := e.len
  ext := e.ext.trans x
  own := fun i t h => by
    obtain ⟨v, h1, h2⟩ := e.own i t h
    exact ⟨v, h1, h2.frame x.ff fun a _ xs z => x.hh _ _ z⟩
  bw := e.bw
  nod := e.nod
  dis := e.dis
  new := fun i a ha => by
    obtain ⟨h1, h2, xs, h3⟩ := e.new i a ha
    exact ⟨x.no a _ h1 h3 rfl, h2, xs, x.hh _ _ h3⟩
theorem EnvR.on (e : EnvR K F0 H0 F H σ δ) (x : Ext F H F' H') : EnvR K F0 H0 F' H' σ δ := let ⟨A, e⟩ := e; ⟨A, e.on x⟩
theorem EnvR.ext (e : EnvR K F0 H0 F H σ δ) : Ext F0 H0 F H := let ⟨_, e⟩ := e; e.ext
/-- a name is given a thing that is new -/
theorem EnvR.put (e : EnvR K F0 H0 F H σ δ) (x : Ext F H F' H') (i : Nat) {r : OV} {v : V} (h : RepN K H F' H' r v) : EnvR K F0 H0 F' H' (σ.set i (some v)) (δ.set i (some (.own r))) := by
  obtain ⟨A, e⟩ := e
  obtain ⟨B, b1, b2, b3⟩ := h
  have e' := e.on x
  refine ⟨fun j => if j = i then B else A j, by simp [e.len], e'.ext, fun j t hj => ?_, fun j d hj => ?_, fun j => ?_, fun j k a hjk h1 h2 => ?_, fun j a ha => ?_⟩
  · try dsimp only
    by_cases z : j = i
    · subst z
      rw [if_pos rfl]
      have hl : j < δ.length := by
        have := (List.getElem?_eq_some_iff.mp hj).1
        rwa [List.length_set] at this
      rw [List.getElem?_set_self hl] at hj
      cases hj
      exact ⟨v, List.getElem?_set_self (by rw [e.len]; exact hl), b1⟩
    · rw [if_neg z]
      rw [List.getElem?_set_ne (Ne.symm z)] at hj ⊢
      exact e'.own j t hj
  · by_cases z : j = i
    · subst z
      have hl : j < δ.length := by
        have := (List.getElem?_eq_some_iff.mp hj).1
        rwa [List.length_set] at this
      rw [List.getElem?_set_self hl] at hj
      cases hj
    · rw [List.getElem?_set_ne (Ne.symm z)] at hj ⊢
      exact e'.bw j d hj
  · try dsimp only
    split
    · exact b2
    · exact e.nod j
  · try dsimp only at h1 h2
    have key : ∀ k, a ∈ B → a ∈ A k → False := fun k z1 z2 => by
      obtain ⟨_, _, xs, q⟩ := e.new k a z2
      rw [(b3 a z1).1] at q; cases q
    split at h1
    · split at h2
      · omega
      · exact key _ h1 h2
    · split at h2
      · exact key _ h2 h1
      · exact e.dis j k a hjk h1 h2
  · try dsimp only at ha
    split at ha
    · exact ⟨(b3 a ha).2, e.ext.hh.free (b3 a ha).1, b1.isl a ha⟩
    · exact e'.new j a ha
theorem ER.putFz (e : ER K F0 H0 F H σ δ A) (i : Nat) {d : D} {v : V} (h : Rep K F d v) : ER K F0 H0 F H (σ.set i (some v)) (δ.set i (some (.own (.fz d)))) (fun j => if j = i then [] else A j) := by
  refine ⟨by simp [e.len], e.ext, fun j t hj => ?_, fun j d hj => ?_, fun j => ?_, fun j k a hjk h1 h2 => ?_, fun j a ha => ?_⟩
  · try dsimp only
    by_cases z : j = i
    · subst z
      rw [if_pos rfl]
      have hl : j < δ.length := by
        have := (List.getElem?_eq_some_iff.mp hj).1
        rwa [List.length_set] at this
      rw [List.getElem?_set_self hl] at hj
      cases hj
      exact ⟨v, List.getElem?_set_self (by rw [e.len]; exact hl), rfl, h⟩
    · rw [if_neg z]
      rw [List.getElem?_set_ne (Ne.symm z)] at hj ⊢
      exact e.own j t hj
  · by_cases z : j = i
    · subst z
      have hl : j < δ.length := by
        have := (List.getElem?_eq_some_iff.mp hj).1
        rwa [List.length_set] at this
      rw [List.getElem?_set_self hl] at hj
      cases hj
    · rw [List.getElem?_set_ne (Ne.symm z)] at hj ⊢
      exact e.bw j d hj
  · try dsimp only
    split
    · exact List.nodup_nil
    · exact e.nod j
  · try dsimp only at h1 h2
    split at h1
    · cases h1
    · split at h2
      · cases h2
      · exact e.dis j k a hjk h1 h2
  · try dsimp only at ha
    split at ha
    · cases ha
    · exact e.new j a ha
end
end L2

namespace L2
open PySem PySem.Spec PyProof.Rows
abbrev DE := Dst → (D → Prop) → Prop
abbrev DO := Dst → (OV → Prop) → Prop
abbrev DA := Dst → (List D → Prop) → Prop
abbrev DAO := Dst → (List OV → Prop) → Prop
abbrev DT := Dst → (Bool → Prop) → Prop
structure DEnds where
  nx : Dst → Prop
  rt : OV → Prop
  bk : Dst → Prop := fun _ => False
  ct : Dst → Prop := fun _ => False
abbrev DS := DEnds → Dst → Prop
section
variable (K : PySem.W.Frag)
/-- t does what E says: new, frozen, or lent -/
def SimO (t : TE) (E : DO) : Prop := ∀ F0 H0 F H σ δ P Q, EnvR K F0 H0 F H σ δ → E δ P → (∀ r v F' H', P r → Ext F H F' H' → RepN K H F' H' r v → Q v H') → t σ H Q
def SimF (t : TE) (E : DE) : Prop := ∀ F0 H0 F H σ δ P Q, EnvR K F0 H0 F H σ δ → E δ P → (∀ d v F' H', P d → Ext F H F' H' → Rep K F' d v → Q v H') → t σ H Q
def SimB (t : TE) (E : DE) : Prop := ∀ F0 H0 F H σ δ P Q, EnvR K F0 H0 F H σ δ → E δ P → (∀ d v F' H', P d → Ext F H F' H' → Rep K H' d v → Q v H') → t σ H Q
def SimT (t : TT) (C : DT) : Prop := ∀ F0 H0 F H σ δ P Q, EnvR K F0 H0 F H σ δ → C δ P → (∀ b F' H', P b → Ext F H F' H' → Q b H') → t σ H Q
def SimAF (t : TA) (E : DA) : Prop := ∀ F0 H0 F H σ δ P Q, EnvR K F0 H0 F H σ δ → E δ P → (∀ ds vs F' H', P ds → Ext F H F' H' → Reps K F' ds vs → Q vs H') → t σ H Q
def SimAB (t : TA) (E : DA) : Prop := ∀ F0 H0 F H σ δ P Q, EnvR K F0 H0 F H σ δ → E δ P → (∀ ds vs F' H', P ds → Ext F H F' H' → Reps K H' ds vs → Q vs H') → t σ H Q
def RepNs (H F' H' : Hp) (rs : List OV) (vs : List V) : Prop := ∃ A, RepOs K F' H' rs vs A ∧ A.Nodup ∧ ∀ a ∈ A, H a = none ∧ F' a = none
def SimAO (t : TA) (E : DAO) : Prop := ∀ F0 H0 F H σ δ P Q, EnvR K F0 H0 F H σ δ → E δ P → (∀ rs vs F' H', P rs → Ext F H F' H' → RepNs K H F' H' rs vs → Q vs H') → t σ H Q
structure Lk (F0 H0 : Hp) (De : DEnds) (E : Ends) : Prop where
  nx : ∀ F H σ δ, EnvR K F0 H0 F H σ δ → De.nx δ → E.nx σ H
  bk : ∀ F H σ δ, EnvR K F0 H0 F H σ δ → De.bk δ → E.bk σ H
  ct : ∀ F H σ δ, EnvR K F0 H0 F H σ δ → De.ct δ → E.ct σ H
  rt : ∀ F H r v, Ext F0 H0 F H → RepN K H0 F H r v → De.rt r → E.rt v H
def SimS (t : TS) (T : DS) : Prop := ∀ F0 H0 F H σ δ De E, EnvR K F0 H0 F H σ δ → Lk K F0 H0 De E → T De δ → t E σ H
def SimG (g : TG) (G : D → Dst → (Dst → Prop) → Prop) : Prop := ∀ F0 H0 F H σ δ A d v P Q, ER K F0 H0 F H σ δ A → Rep K F d v → G d δ P → (∀ σ' δ' A', P δ' → ER K F0 H0 F H σ' δ' A' → (∀ i a, a ∈ A' i → a ∈ A i) → Q σ' H) → g v σ H Q
def SimGs (g : TGs) (G : List D → Dst → (Dst → Prop) → Prop) : Prop := ∀ F0 H0 F H σ δ A ds vs P Q, ER K F0 H0 F H σ δ A → Reps K F ds vs → G ds δ P → (∀ σ' δ' A', P δ' → ER K F0 H0 F H σ' δ' A' → (∀ i a, a ∈ A' i → a ∈ A i) → Q σ' H) → g vs σ H Q
end
section
variable {K : PySem.W.Frag} {t ta tb tc : TE} {E Ea Eb Ec : DE}
def dFz (E : DE) : DO := fun δ P => E δ fun d => P (.fz d)
def dVal (E : DO) : DE := fun δ P => E δ fun r => P r.val
theorem sB_f (h : SimF K t E) : SimB K t E := fun F0 H0 F H σ δ P Q e w q => h F0 H0 F H σ δ P Q e w fun d v F' H' p x r => q d v F' H' p x (r.mono x.fh)
theorem sO_f (h : SimF K t E) : SimO K t (dFz E) := fun F0 H0 F H σ δ P Q e w q => h F0 H0 F H σ δ _ Q e w fun d v F' H' p x r => q _ v F' H' p x (.fz r)
theorem sF_o {E : DO} (h : SimO K t E) : SimF K t (dVal E) := fun F0 H0 F H σ δ P Q e w q => h F0 H0 F H σ δ _ Q e w fun d v F' H' p x r => by
  obtain ⟨F'', x', _, r'⟩ := r.frz x
  exact q _ v F'' H' p x' r'
/-! a thing without lists may be frozen -/
mutual
def D.lf : D → Bool
  | .tup ds => D.lfs ds
  | .lst _ => false
  | _ => true
def D.lfs : List D → Bool
  | [] => true
  | d :: ds => d.lf && D.lfs ds
end
/-- all that never changes is frozen too -/
def frzT (F H : Hp) : Hp := fun a => match F a with
  | some o => some o
  | none => match H a with
    | some o => if imm o = true then some o else none
    | none => none
theorem frzT_ext {F H : Hp} (s : Same F H) : Ext F H (frzT F H) H := by
  refine ⟨fun b o e => ?_, Same.refl _, fun b o e => ?_, fun a o e1 e2 e3 => ?_⟩
  · unfold frzT; rw [e]
  · unfold frzT at e
    cases q : F b with
    | some o' => rw [q] at e; rw [← e]; exact s _ _ q
    | none =>
      rw [q] at e
      cases q2 : H b with
      | none => rw [q2] at e; cases e
      | some o' =>
        rw [q2] at e
        dsimp only at e
        split at e
        · exact e
        · cases e
  · unfold frzT; rw [e1, e2]
    dsimp only
    rw [e3]; rfl
theorem frzT_imm {F H : Hp} (s : Same F H) {a : Addr} {o : HO} (h : H a = some o) (hi : imm o = true) : frzT F H a = some o := by
  unfold frzT
  cases q : F a with
  | some o' => rw [s _ _ q] at h; exact h
  | none => rw [h]; dsimp only; rw [hi]; rfl
theorem frzT_seqT {F H : Hp} (s : Same F H) {a : Addr} {xs : List V} (h : SqT K H a xs) : SqT K (frzT F H) a xs := by
  rcases h with (h | ⟨o, h⟩) | h
  · exact .inl (.inl (frzT_imm s h rfl))
  · exact .inl (.inr ⟨o, frzT_imm s h rfl⟩)
  · exact .inr h
mutual
theorem Rep.lf {F H : Hp} (s : Same F H) : ∀ {d : D} {v : V}, Rep K H d v → d.lf = true → Rep K (frzT F H) d v
  | .int _, _, h, _ => h
  | .bl _, _, h, _ => h
  | .non, _, h, _ => h
  | .str _, _, h, _ => h
  | .ty _, _, h, _ => h
  | .fn _, _, h, _ => h
  | .tup ds, v, h, z => by
    obtain ⟨a, vs, e, h1, h2⟩ := h
    exact ⟨a, vs, e, frzT_seqT s h1, Reps.lf s h2 (by simpa [D.lf] using z)⟩
  | .lst ds, v, h, z => by simp [D.lf] at z
theorem Reps.lf {F H : Hp} (s : Same F H) : ∀ {ds : List D} {vs : List V}, Reps K H ds vs → D.lfs ds = true → Reps K (frzT F H) ds vs
  | [], _, h, _ => h
  | d :: ds, vs, h, z => by
    obtain ⟨v, r, e, h1, h2⟩ := h
    simp [D.lfs] at z
    exact ⟨v, r, e, Rep.lf s h1 z.1, Reps.lf s h2 z.2⟩
end
theorem D.lfs_eq : ∀ (ds : List D), D.lfs ds = ds.all D.lf
  | [] => rfl
  | d :: ds => by simp [D.lfs, D.lfs_eq ds]
def dLf (E : DE) : DE := fun δ P => E δ fun d => d.lf = true ∧ P d
theorem sF_lf (h : SimB K t E) : SimF K t (dLf E) := fun F0 H0 F H σ δ P Q e w q => h F0 H0 F H σ δ _ Q e w fun d v F' H' p x r =>
  q d v _ H' p.2 (x.trans (frzT_ext x.fh)) (Rep.lf x.fh r p.1)
/-! ### names, constants -/
def dV (i : Nat) : DE := fun δ P => match δ[i]? with
  | some (some (.own (.fz d))) => P d
  | some (some (.own (.fx _ d))) => P d
  | _ => False
def dB (i : Nat) : DE := fun δ P => match δ[i]? with
  | some (some (.own t)) => P t.val
  | some (some (.bw d)) => P d
  | _ => False
theorem sF_var {i : Nat} : SimF K (tVar i) (dV i) := fun F0 H0 F H σ δ P Q ⟨A, e⟩ w q => by
  unfold dV at w
  split at w
  · rename_i d hd
    obtain ⟨v, h1, h2⟩ := e.own i _ hd
    exact ⟨v, h1, q d v F H w (Ext.refl e.ext.fh) h2.2⟩
  · rename_i u d hd
    obtain ⟨v, h1, h2⟩ := e.own i _ hd
    exact ⟨v, h1, q d v F H w (Ext.refl e.ext.fh) h2.2.2⟩
  · exact w.elim
theorem sB_var {i : Nat} : SimB K (tVar i) (dB i) := fun F0 H0 F H σ δ P Q ⟨A, e⟩ w q => by
  unfold dB at w
  split at w
  · rename_i t hd
    obtain ⟨v, h1, h2⟩ := e.own i _ hd
    exact ⟨v, h1, q _ v F H w (Ext.refl e.ext.fh) (h2.rep e.ext.fh fun a _ xs z => z)⟩
  · rename_i d hd
    obtain ⟨v, h1, h2⟩ := e.bw i _ hd
    exact ⟨v, h1, q _ v F H w (Ext.refl e.ext.fh) (h2.mono e.ext.hh)⟩
  · exact w.elim
def dC (d : D) : DE := fun _ P => P d
theorem sF_c {v : V} {d : D} (h : ∀ F, Rep K F d v) : SimF K (tC v) (dC d) := fun F0 H0 F H σ δ P Q e w q => q d v F H w (Ext.refl e.ext.fh) (h _)
theorem sF_int {i : Int} : SimF K (tC (.int i)) (dC (.int i)) := sF_c fun _ => rfl
theorem sF_bl {b : Bool} : SimF K (tC (.bl b)) (dC (.bl b)) := sF_c fun _ => rfl
theorem sF_non : SimF K (tC .non) (dC .non) := sF_c fun _ => rfl
theorem sF_str {x : Str} : SimF K (tC (.str x)) (dC (.str x)) := sF_c fun _ => rfl
theorem sF_ty {n : String} : SimF K (tC (.ty n)) (dC (.ty n)) := sF_c fun _ => rfl
/-! ### operations -/
abbrev DR2 := D → D → (D → Prop) → Prop
def OpS (K : PySem.W.Frag) (R : R2) (r : DR2) : Prop := ∀ F H x y v u P Q, Same F H → Rep K H x v → Rep K H y u → r x y P → (∀ d w F' H', P d → Ext F H F' H' → Rep K F' d w → Q w H') → R v u H Q
def OpB (K : PySem.W.Frag) (R : R2) (r : DR2) : Prop := ∀ H x y v u P Q, Rep K H x v → Rep K H y u → r x y P → (∀ d w, P d → Rep K H d w → Q w H) → R v u H Q
def dOp (r : DR2) (Ea Eb : DE) : DE := fun δ P => Ea δ fun x => Eb δ fun y => r x y P
theorem sF_op {R : R2} {r : DR2} (h : OpS K R r) (ha : SimB K ta Ea) (hb : SimB K tb Eb) : SimF K (tOp R ta tb) (dOp r Ea Eb) := fun F0 H0 F H σ δ P Q e w q =>
  ha F0 H0 F H σ δ _ _ e w fun x v F1 H1 w1 x1 r1 => hb F0 H0 F1 H1 σ δ _ _ (e.on x1) w1 fun y u F2 H2 w2 x2 r2 =>
    h F2 H2 x y v u P _ x2.fh (r1.mono x2.hh) r2 w2 fun d w F' H' p x' r' => q d w F' H' p (x1.trans (x2.trans x')) r'
theorem sB_op {R : R2} {r : DR2} (h : OpB K R r) (ha : SimB K ta Ea) (hb : SimB K tb Eb) : SimB K (tOp R ta tb) (dOp r Ea Eb) := fun F0 H0 F H σ δ P Q e w q =>
  ha F0 H0 F H σ δ _ _ e w fun x v F1 H1 w1 x1 r1 => hb F0 H0 F1 H1 σ δ _ _ (e.on x1) w1 fun y u F2 H2 w2 x2 r2 =>
    h H2 x y v u P _ (r1.mono x2.hh) r2 w2 fun d w p r' => q d w F2 H2 p (x1.trans x2) r'
def rI2 (g : Int → Int → D) : DR2 := fun x y P => match x, y with
  | .int i, .int j => P (g i j)
  | _, _ => False
def rI2C (C : Int → Int → Prop) (g : Int → Int → D) : DR2 := fun x y P => match x, y with
  | .int i, .int j => C i j ∧ P (g i j)
  | _, _ => False
theorem rI2_inv {g : Int → Int → D} {x y : D} {P : D → Prop} (h : rI2 g x y P) : ∃ i j, x = .int i ∧ y = .int j ∧ P (g i j) := by
  unfold rI2 at h
  split at h
  · exact ⟨_, _, rfl, rfl, h⟩
  · exact h.elim
theorem rI2C_inv {C : Int → Int → Prop} {g : Int → Int → D} {x y : D} {P : D → Prop} (h : rI2C C g x y P) : ∃ i j, x = .int i ∧ y = .int j ∧ C i j ∧ P (g i j) := by
  unfold rI2C at h
  split at h
  · exact ⟨_, _, rfl, rfl, h.1, h.2⟩
  · exact h.elim
/-- a value that stands by itself -/
def sV : D → V
  | .int i => .int i
  | .bl b => .bl b
  | .str x => .str x
  | _ => .non
theorem oS_I0 {g : Int → Int → V} {g' : Int → Int → D} (hg : ∀ F i j, Rep K F (g' i j) (g i j)) : OpS K (rI0 g) (rI2 g') := fun F H x y v u P Q s rx ry w q => by
  obtain ⟨i, j, rfl, rfl, p⟩ := rI2_inv w
  exact ⟨i, j, rx, ry, q _ _ F H p (Ext.refl s) (hg _ _ _)⟩
theorem oS_I {C : Int → Int → Prop} {g : Int → Int → V} {g' : Int → Int → D} (hg : ∀ F i j, Rep K F (g' i j) (g i j)) : OpS K (rI C g) (rI2C C g') := fun F H x y v u P Q s rx ry w q => by
  obtain ⟨i, j, rfl, rfl, c, p⟩ := rI2C_inv w
  exact ⟨i, j, rx, ry, c, q _ _ F H p (Ext.refl s) (hg _ _ _)⟩
theorem oS_i0 {g : Int → Int → Int} : OpS K (rI0 fun i j => .int (g i j)) (rI2 fun i j => .int (g i j)) := oS_I0 fun _ _ _ => rfl
theorem oS_i {C : Int → Int → Prop} {g : Int → Int → Int} : OpS K (rI C fun i j => .int (g i j)) (rI2C C fun i j => .int (g i j)) := oS_I fun _ _ _ => rfl
theorem oS_b0 {g : Int → Int → Bool} : OpS K (rI0 fun i j => .bl (g i j)) (rI2 fun i j => .bl (g i j)) := oS_I0 fun _ _ _ => rfl
/-- == of ints, truths, texts, None -/
def rEqD : DR2 := fun x y P => match x, y with
  | .int i, .int j => P (.bl (decide (i = j)))
  | .str i, .str j => P (.bl (decide (i = j)))
  | .bl i, .bl j => P (.bl (decide (i = j)))
  | _, _ => False
def rNeD : DR2 := fun x y P => match x, y with
  | .int i, .int j => P (.bl (!decide (i = j)))
  | .str i, .str j => P (.bl (!decide (i = j)))
  | .bl i, .bl j => P (.bl (!decide (i = j)))
  | _, _ => False
theorem vd_int {i j : Int} : decide (V.int i = V.int j) = decide (i = j) := by
  by_cases h : i = j
  · subst h; simp
  · rw [decide_eq_false h, decide_eq_false fun z => h (by injection z)]
theorem vd_str {i j : Str} : decide (V.str i = V.str j) = decide (i = j) := by
  by_cases h : i = j
  · subst h; simp
  · rw [decide_eq_false h, decide_eq_false fun z => h (by injection z)]
theorem vd_bl {i j : Bool} : decide (V.bl i = V.bl j) = decide (i = j) := by
  by_cases h : i = j
  · subst h; simp
  · rw [decide_eq_false h, decide_eq_false fun z => h (by injection z)]
theorem oS_eq : OpS K rEq rEqD := fun F H x y v u P Q s rx ry w q => by
  unfold rEqD at w
  split at w
  · cases rx; cases ry; exact ⟨rfl, by rw [vd_int]; exact q _ _ F H w (Ext.refl s) rfl⟩
  · cases rx; cases ry; exact ⟨rfl, by rw [vd_str]; exact q _ _ F H w (Ext.refl s) rfl⟩
  · cases rx; cases ry; exact ⟨rfl, by rw [vd_bl]; exact q _ _ F H w (Ext.refl s) rfl⟩
  · exact w.elim
theorem oS_ne : OpS K rNe rNeD := fun F H x y v u P Q s rx ry w q => by
  unfold rNeD at w
  split at w
  · cases rx; cases ry; exact ⟨rfl, by rw [vd_int]; exact q _ _ F H w (Ext.refl s) rfl⟩
  · cases rx; cases ry; exact ⟨rfl, by rw [vd_str]; exact q _ _ F H w (Ext.refl s) rfl⟩
  · cases rx; cases ry; exact ⟨rfl, by rw [vd_bl]; exact q _ _ F H w (Ext.refl s) rfl⟩
  · exact w.elim
def D.isNon : D → Bool
  | .non => true
  | _ => false
def rIsN : DR2 := fun x y P => match y with
  | .non => P (.bl x.isNon)
  | _ => False
def rNotN : DR2 := fun x y P => match y with
  | .non => P (.bl (!x.isNon))
  | _ => False
theorem isNon_rep {F : Hp} : ∀ {x : D} {v : V}, Rep K F x v → decide (v = .non) = x.isNon
  | .int _, _, h => by rw [show _ = V.int _ from h]; rfl
  | .bl _, _, h => by rw [show _ = V.bl _ from h]; rfl
  | .non, _, h => by rw [show _ = V.non from h]; rfl
  | .str _, _, h => by rw [show _ = V.str _ from h]; rfl
  | .ty _, _, h => by rw [show _ = V.ty _ from h]; rfl
  | .fn _, _, h => by obtain ⟨f, rfl, _⟩ := h; rfl
  | .tup _, _, h => by obtain ⟨a, vs, rfl, _⟩ := h; rfl
  | .lst _, _, h => by obtain ⟨a, vs, rfl, _⟩ := h; rfl
theorem oS_isN : OpS K (fun x y H Q => y = .non ∧ Q (.bl (decide (x = .non))) H) rIsN := fun F H x y v u P Q s rx ry w q => by
  unfold rIsN at w
  split at w
  · refine ⟨ry, ?_⟩
    rw [isNon_rep rx]
    exact q _ _ F H w (Ext.refl s) rfl
  · exact w.elim
theorem oS_notN : OpS K (fun x y H Q => y = .non ∧ Q (.bl (!decide (x = .non))) H) rNotN := fun F H x y v u P Q s rx ry w q => by
  unfold rNotN at w
  split at w
  · refine ⟨ry, ?_⟩
    rw [isNon_rep rx]
    exact q _ _ F H w (Ext.refl s) rfl
  · exact w.elim
def dUn (r : D → (D → Prop) → Prop) (Ea : DE) : DE := fun δ P => Ea δ fun x => r x P
def rU1 (g : Int → D) : D → (D → Prop) → Prop := fun x P => match x with
  | .int i => P (g i)
  | _ => False
theorem sF_neg {g : Int → Int} (ha : SimB K ta Ea) : SimF K (tUn (rU fun i => .int (g i)) ta) (dUn (rU1 fun i => .int (g i)) Ea) := fun F0 H0 F H σ δ P Q e w q =>
  ha F0 H0 F H σ δ _ _ e w fun x v F1 H1 w1 x1 r1 => by
    unfold rU1 at w1
    split at w1
    · exact ⟨_, r1, q _ _ F1 H1 w1 x1 rfl⟩
    · exact w1.elim
/-! ### tests -/
def dTb (E : DE) : DT := fun δ P => E δ fun d => match d with
  | .bl b => P b
  | _ => False
theorem sT_of (h : SimF K t E) : ∀ (F0 H0 F H : Hp) (σ : St) (δ : Dst) (P : Bool → Prop) (Q : Bool → Hp → Prop), EnvR K F0 H0 F H σ δ → dTb E δ P → (∀ b F' H', P b → Ext F H F' H' → Q b H') → t σ H fun x H' => ∃ k, x = .bl k ∧ Q k H' := fun F0 H0 F H σ δ P Q e w q =>
  h F0 H0 F H σ δ _ _ e w fun d v F' H' p x r => by
    try dsimp only at p
    split at p
    · exact ⟨_, r, q _ F' H' p x⟩
    · exact p.elim
theorem sT_test (h : SimF K t E) : SimT K (tTest t) (dTb E) := sT_of h
theorem sT_b (h : SimF K t E) : SimT K (tB t) (dTb E) := sT_of h
section
variable {ua ub : TT} {Ca Cb : DT}
def dNot (C : DT) : DT := fun δ P => C δ fun b => P (!b)
def dAnd (Ca Cb : DT) : DT := fun δ P => Ca δ fun b => if b = true then Cb δ P else P false
def dOr (Ca Cb : DT) : DT := fun δ P => Ca δ fun b => if b = true then P true else Cb δ P
theorem sT_not (h : SimT K ua Ca) : SimT K (tNot ua) (dNot Ca) := fun F0 H0 F H σ δ P Q e w q => h F0 H0 F H σ δ _ _ e w fun b F' H' p x => q _ F' H' p x
theorem sT_and (h : SimT K ua Ca) (g : SimT K ub Cb) : SimT K (tAnd ua ub) (dAnd Ca Cb) := fun F0 H0 F H σ δ P Q e w q => h F0 H0 F H σ δ _ _ e w fun b F' H' p x => by
  cases b with
  | true => exact iteT (g F0 H0 F' H' σ δ P Q (e.on x) p fun b F2 H2 p2 x2 => q b F2 H2 p2 (x.trans x2))
  | false => exact iteB rfl (q _ F' H' p x)
theorem sT_or (h : SimT K ua Ca) (g : SimT K ub Cb) : SimT K (tOr ua ub) (dOr Ca Cb) := fun F0 H0 F H σ δ P Q e w q => h F0 H0 F H σ δ _ _ e w fun b F' H' p x => by
  cases b with
  | true => exact iteT (q _ F' H' p x)
  | false => exact iteB rfl (g F0 H0 F' H' σ δ P Q (e.on x) p fun b F2 H2 p2 x2 => q b F2 H2 p2 (x.trans x2))
def dIf (C : DT) (Ea Eb : DE) : DE := fun δ P => C δ fun b => if b = true then Ea δ P else Eb δ P
theorem sF_if (h : SimT K ua Ca) (ha : SimF K ta Ea) (hb : SimF K tb Eb) : SimF K (tIf ua ta tb) (dIf Ca Ea Eb) := fun F0 H0 F H σ δ P Q e w q => h F0 H0 F H σ δ _ _ e w fun b F' H' p x => by
  cases b with
  | true => exact iteT (ha F0 H0 F' H' σ δ P Q (e.on x) p fun d v F2 H2 p2 x2 r => q d v F2 H2 p2 (x.trans x2) r)
  | false => exact iteB rfl (hb F0 H0 F' H' σ δ P Q (e.on x) p fun d v F2 H2 p2 x2 r => q d v F2 H2 p2 (x.trans x2) r)
end
/-- and, or, not as values: truths -/
def dAndV (Ea Eb : DE) : DE := fun δ P => Ea δ fun x => match x with
  | .bl c => if c = true then Eb δ P else P (.bl false)
  | _ => False
def dOrV (Ea Eb : DE) : DE := fun δ P => Ea δ fun x => match x with
  | .bl c => if c = true then P (.bl true) else Eb δ P
  | _ => False
def dNotV (Ea : DE) : DE := fun δ P => Ea δ fun x => match x with
  | .bl c => P (.bl (!c))
  | _ => False
theorem sF_andV (ha : SimF K ta Ea) (hb : SimF K tb Eb) : SimF K (tAndV ta tb) (dAndV Ea Eb) := fun F0 H0 F H σ δ P Q e w q => ha F0 H0 F H σ δ _ _ e w fun d v F' H' p x r => by
  try dsimp only at p
  split at p
  · rename_i c
    refine ⟨c, r, ?_⟩
    cases c with
    | true => exact iteT (hb F0 H0 F' H' σ δ P Q (e.on x) p fun d v F2 H2 p2 x2 r => q d v F2 H2 p2 (x.trans x2) r)
    | false => exact iteB rfl (q _ _ F' H' p x rfl)
  · exact p.elim
theorem sF_orV (ha : SimF K ta Ea) (hb : SimF K tb Eb) : SimF K (tOrV ta tb) (dOrV Ea Eb) := fun F0 H0 F H σ δ P Q e w q => ha F0 H0 F H σ δ _ _ e w fun d v F' H' p x r => by
  try dsimp only at p
  split at p
  · rename_i c
    refine ⟨c, r, ?_⟩
    cases c with
    | true => exact iteT (q _ _ F' H' p x rfl)
    | false => exact iteB rfl (hb F0 H0 F' H' σ δ P Q (e.on x) p fun d v F2 H2 p2 x2 r => q d v F2 H2 p2 (x.trans x2) r)
  · exact p.elim
theorem sF_notV (ha : SimF K ta Ea) : SimF K (tNotV ta) (dNotV Ea) := fun F0 H0 F H σ δ P Q e w q => ha F0 H0 F H σ δ _ _ e w fun d v F' H' p x r => by
  try dsimp only at p
  split at p
  · exact ⟨_, r, q _ _ F' H' p x rfl⟩
  · exact p.elim
def dChain (r r' : DR2) (Ea Eb Ec : DE) : DE := fun δ P => Ea δ fun x => Eb δ fun y => r x y fun z => match z with
  | .bl k => if k = true then Ec δ fun w => r' y w P else P (.bl false)
  | _ => False
theorem sF_chain {R R' : R2} {r r' : DR2} (h : OpS K R r) (h' : OpS K R' r') (ha : SimB K ta Ea) (hb : SimB K tb Eb) (hc : SimB K tc Ec) : SimF K (tChain R R' ta tb tc) (dChain r r' Ea Eb Ec) := fun F0 H0 F H σ δ P Q e w q =>
  ha F0 H0 F H σ δ _ _ e w fun x v F1 H1 w1 x1 r1 => hb F0 H0 F1 H1 σ δ _ _ (e.on x1) w1 fun y u F2 H2 w2 x2 r2 =>
    h F2 H2 x y v u _ _ x2.fh (r1.mono x2.hh) r2 w2 fun d w F3 H3 p x3 r3 => by
      have x13 := x1.trans (x2.trans x3)
      try dsimp only at p
      split at p
      · rename_i k
        refine ⟨k, r3, ?_⟩
        cases k with
        | true => exact iteT (hc F0 H0 F3 H3 σ δ _ _ (e.on x13) p fun z w4 F4 H4 p4 x4 r4 => h' F4 H4 y z u w4 P Q x4.fh (r2.mono (x3.hh.trans x4.hh)) r4 p4 fun d w F5 H5 p5 x5 r5 => q d w F5 H5 p5 (x13.trans (x4.trans x5)) r5)
        | false => exact iteB rfl (q _ _ F3 H3 p x13 rfl)
      · exact p.elim
/-! ### argument lists -/
section
variable {a : TA} {As : DA}
def dNil : DA := fun _ P => P []
def dCons (Ea : DE) (As : DA) : DA := fun δ P => Ea δ fun d => As δ fun ds => P (d :: ds)
theorem sAB_nil : SimAB K tNil dNil := fun F0 H0 F H σ δ P Q e w q => q [] [] F H w (Ext.refl e.ext.fh) rfl
theorem sAF_nil : SimAF K tNil dNil := fun F0 H0 F H σ δ P Q e w q => q [] [] F H w (Ext.refl e.ext.fh) rfl
theorem sAB_cons (ha : SimB K ta Ea) (hr : SimAB K a As) : SimAB K (tCons ta a) (dCons Ea As) := fun F0 H0 F H σ δ P Q e w q => ha F0 H0 F H σ δ _ _ e w fun d v F1 H1 w1 x1 r1 =>
  hr F0 H0 F1 H1 σ δ _ _ (e.on x1) w1 fun ds vs F2 H2 w2 x2 r2 => q (d :: ds) (v :: vs) F2 H2 w2 (x1.trans x2) ⟨v, vs, rfl, r1.mono x2.hh, r2⟩
theorem sAF_cons (ha : SimF K ta Ea) (hr : SimAF K a As) : SimAF K (tCons ta a) (dCons Ea As) := fun F0 H0 F H σ δ P Q e w q => ha F0 H0 F H σ δ _ _ e w fun d v F1 H1 w1 x1 r1 =>
  hr F0 H0 F1 H1 σ δ _ _ (e.on x1) w1 fun ds vs F2 H2 w2 x2 r2 => q (d :: ds) (v :: vs) F2 H2 w2 (x1.trans x2) ⟨v, vs, rfl, r1.mono x2.ff, r2⟩
def dNilO : DAO := fun _ P => P []
def dConsO (Ea : DO) (As : DAO) : DAO := fun δ P => Ea δ fun d => As δ fun ds => P (d :: ds)
theorem sAO_nil : SimAO K tNil dNilO := fun F0 H0 F H σ δ P Q e w q => q [] [] F H w (Ext.refl e.ext.fh) ⟨[], ⟨rfl, rfl⟩, List.nodup_nil, fun _ h => by cases h⟩
theorem sAO_cons {Eo : DO} {Ao : DAO} (ha : SimO K ta Eo) (hr : SimAO K a Ao) : SimAO K (tCons ta a) (dConsO Eo Ao) := fun F0 H0 F H σ δ P Q e w q => ha F0 H0 F H σ δ _ _ e w fun d v F1 H1 w1 x1 r1 =>
  hr F0 H0 F1 H1 σ δ _ _ (e.on x1) w1 fun ds vs F2 H2 w2 x2 r2 => q (d :: ds) (v :: vs) F2 H2 w2 (x1.trans x2) (by
    obtain ⟨A, a1, a2, a3⟩ := r1
    obtain ⟨B, b1, b2, b3⟩ := r2
    refine ⟨A ++ B, ⟨v, vs, A, B, rfl, rfl, a1.frame x2.ff fun a _ xs e => x2.hh _ _ e, b1⟩, List.nodup_append.mpr ⟨a2, b2, fun x hx y hy z => ?_⟩, fun z hz => ?_⟩
    · subst z
      obtain ⟨xs, hxs⟩ := a1.isl _ hx
      rw [(b3 _ hy).1] at hxs; cases hxs
    · rcases List.mem_append.mp hz with h | h
      · obtain ⟨xs, hxs⟩ := a1.isl _ h
        exact ⟨(a3 z h).1, x2.no z _ (a3 z h).2 hxs rfl⟩
      · exact ⟨x1.hh.free (b3 z h).1, (b3 z h).2⟩)
/-- (a, b, ..) -/
def dTup (As : DA) : DE := fun δ P => As δ fun ds => ds.length ≤ 1000000 ∧ P (.tup ds)
theorem sz_le {n : Nat} (h : n ≤ 1000000) : n ≤ sizeLine := by rw [sizeLine_eq]; omega
theorem sz_lt {n : Nat} (h : n < 1000000) : n < sizeLine := by rw [sizeLine_eq]; omega
/-- a new thing at p, frozen at once -/
theorem Ext.new {F H H' : Hp} {p : Addr} {o : HO} (s : Same F H) (hp : H p = none) (hs : Same H H') (h : H' p = some o) : Ext F H (upd F p o) H' := by
  refine ⟨fun b u e => ?_, hs, fun b u e => ?_, fun b u e1 e2 e3 => ?_⟩
  · rw [upd_ne fun z => by rw [z, s.free hp] at e; cases e]; exact e
  · by_cases hb : b = p
    · subst hb; rw [upd_same] at e; rw [← e]; exact h
    · rw [upd_ne hb] at e; exact hs _ _ (s _ _ e)
  · rw [upd_ne fun z => by rw [z, hp] at e2; cases e2]; exact e1
theorem Same.upd' {F : Hp} {p : Addr} {o : HO} (h : F p = none) : Same F (upd F p o) := Same.new h
theorem sF_tup (h : SimAF K a As) : SimF K (tTupS a) (dTup As) := fun F0 H0 F H σ δ P Q e w q => h F0 H0 F H σ δ _ _ e w fun ds vs F1 H1 w1 x1 r1 => by
  have hl := r1.length
  refine ⟨sz_le (by omega), fun p H' hp hs he => ?_⟩
  exact q _ _ _ H' w1.2 (x1.trans (Ext.new x1.fh hp hs he)) ⟨p, vs, rfl, .inl (.inl upd_same), r1.mono (Same.upd' (x1.fh.free hp))⟩
/-- [a, b, ..] -/
def dLst (As : DAO) : DO := fun δ P => As δ fun ts => ts.length ≤ 1000000 ∧ P (.nl ts)
theorem sO_lst {Ao : DAO} (h : SimAO K a Ao) : SimO K (tLstS a) (dLst Ao) := fun F0 H0 F H σ δ P Q e w q => h F0 H0 F H σ δ _ _ e w fun ts vs F1 H1 w1 x1 r1 => by
  obtain ⟨A, a1, a2, a3⟩ := r1
  have hl := a1.length
  refine ⟨sz_le (by omega), fun p H' hp hs he => ?_⟩
  refine q _ _ F1 H' w1.2 (x1.trans ⟨Same.refl _, hs, x1.fh.trans hs, fun _ _ z _ _ => z⟩) ⟨p :: A, ⟨p, vs, A, rfl, rfl, he, a1.frame (Same.refl _) fun b _ xs z => hs _ _ z⟩, List.nodup_cons.mpr ⟨fun z => ?_, a2⟩, fun b hb => ?_⟩
  · obtain ⟨xs, z⟩ := a1.isl p z
    rw [hp] at z; cases z
  · rcases List.mem_cons.mp hb with rfl | hb
    · exact ⟨x1.hh.free hp, x1.fh.free hp⟩
    · exact a3 b hb
end
end
end L2

namespace L2
open PySem PySem.Spec PyProof.Rows
section
variable {K : PySem.W.Frag} {t ta tb tc : TE} {E Ea Eb Ec : DE} {a : TA} {As : DA} {Ao : DAO}
/-! ### items -/
theorem Reps.atI {F : Hp} {ds : List D} {vs : List V} {i : Int} {d : D} (h : Reps K F ds vs) (e : L2.atI ds i = some d) : ∃ v, L2.atI vs i = some v ∧ Rep K F d v := by
  unfold L2.atI at e ⊢
  rw [h.length] at e
  cases q : ixN vs.length i with
  | none => rw [q] at e; cases e
  | some j =>
    rw [q] at e
    exact h.get e
def ixL : DR2 := fun x y P => match x, y with
  | .lst ds, .int i => ∃ d, atI ds i = some d ∧ P d
  | _, _ => False
def ixT : DR2 := fun x y P => match x, y with
  | .tup ds, .int i => ∃ d, atI ds i = some d ∧ P d
  | _, _ => False
def ixS : DR2 := fun x y P => match x, y with
  | .str z, .int i => z.length ≤ 1000000 ∧ ∃ c, atI z.cps.toList i = some c ∧ P (.str ⟨#[c]⟩)
  | _, _ => False
def OpF (K : PySem.W.Frag) (R : R2) (r : DR2) : Prop := ∀ F H x y v u P Q, Same F H → Rep K F x v → Rep K F y u → r x y P → (∀ d w, P d → Rep K F d w → Q w H) → R v u H Q
theorem OpF.b {R : R2} {r : DR2} (h : OpF K R r) : OpB K R r := fun H x y v u P Q rx ry w q => h H H x y v u P Q (Same.refl _) rx ry w q
theorem sF_opF {R : R2} {r : DR2} (h : OpF K R r) (ha : SimF K ta Ea) (hb : SimF K tb Eb) : SimF K (tOp R ta tb) (dOp r Ea Eb) := fun F0 H0 F H σ δ P Q e w q =>
  ha F0 H0 F H σ δ _ _ e w fun x v F1 H1 w1 x1 r1 => hb F0 H0 F1 H1 σ δ _ _ (e.on x1) w1 fun y u F2 H2 w2 x2 r2 =>
    h F2 H2 x y v u P _ x2.fh (r1.mono x2.ff) r2 w2 fun d w p r' => q d w F2 H2 p (x1.trans x2) r'
theorem oF_ixL : OpF K (rIxL K) ixL := fun F H x y v u P Q s rx ry w q => by
  unfold ixL at w
  split at w
  · obtain ⟨d, e, w⟩ := w
    obtain ⟨p, vs, rfl, h1, h2⟩ := rx
    obtain ⟨v', e', r⟩ := h2.atI e
    exact ⟨p, vs, _, v', rfl, ry, s.seq h1, e', q d v' w r⟩
  · exact w.elim
theorem oF_ixT : OpF K (rIxT K) ixT := fun F H x y v u P Q s rx ry w q => by
  unfold ixT at w
  split at w
  · obtain ⟨d, e, w⟩ := w
    obtain ⟨p, vs, rfl, h1, h2⟩ := rx
    obtain ⟨v', e', r⟩ := h2.atI e
    exact ⟨p, vs, _, v', rfl, ry, s.seqT h1, e', q d v' w r⟩
  · exact w.elim
theorem oF_ixS : OpF K rIxS ixS := fun F H x y v u P Q s rx ry w q => by
  unfold ixS at w
  split at w
  · obtain ⟨z, c, e, w⟩ := w
    exact ⟨_, _, c, rx, ry, sz_le z, e, q _ _ w rfl⟩
  · exact w.elim
/-! ### built-in functions -/
def CbS (K : PySem.W.Frag) (R : List V → Hp → VK → Prop) (r : List D → (D → Prop) → Prop) : Prop := ∀ F H ds vs P Q, Same F H → Reps K H ds vs → r ds P → (∀ d w F' H', P d → Ext F H F' H' → Rep K F' d w → Q w H') → R vs H Q
def CbO (K : PySem.W.Frag) (R : List V → Hp → VK → Prop) (r : List D → (OV → Prop) → Prop) : Prop := ∀ F H ds vs P Q, Same F H → Reps K F ds vs → r ds P → (∀ o w F' H', P o → Ext F H F' H' → RepN K H F' H' o w → Q w H') → R vs H Q
def dCB (r : List D → (D → Prop) → Prop) (As : DA) : DE := fun δ P => As δ fun ds => r ds P
def dCBo (r : List D → (OV → Prop) → Prop) (As : DA) : DO := fun δ P => As δ fun ds => r ds P
theorem sF_cb {R : List V → Hp → VK → Prop} {r : List D → (D → Prop) → Prop} (h : CbS K R r) (ha : SimAB K a As) : SimF K (tCB R a) (dCB r As) := fun F0 H0 F H σ δ P Q e w q =>
  ha F0 H0 F H σ δ _ _ e w fun ds vs F1 H1 w1 x1 r1 => h F1 H1 ds vs P _ x1.fh r1 w1 fun d w F' H' p x' r' => q d w F' H' p (x1.trans x') r'
theorem sO_cb {R : List V → Hp → VK → Prop} {r : List D → (OV → Prop) → Prop} (h : CbO K R r) (ha : SimAF K a As) : SimO K (tCB R a) (dCBo r As) := fun F0 H0 F H σ δ P Q e w q =>
  ha F0 H0 F H σ δ _ _ e w fun ds vs F1 H1 w1 x1 r1 => h F1 H1 ds vs P _ x1.fh r1 w1 fun d w F' H' p x' r' => q d w F' H' p (x1.trans x') (r'.old x1.hh)
theorem reps1 {F : Hp} {d : D} {vs : List V} (h : Reps K F [d] vs) : ∃ v, vs = [v] ∧ Rep K F d v := by
  obtain ⟨v, r, rfl, h1, h2⟩ := h
  exact ⟨v, by rw [show r = [] from h2], h1⟩
theorem reps2 {F : Hp} {d d' : D} {vs : List V} (h : Reps K F [d, d'] vs) : ∃ v u, vs = [v, u] ∧ Rep K F d v ∧ Rep K F d' u := by
  obtain ⟨v, r, rfl, h1, h2⟩ := h
  obtain ⟨u, rfl, h3⟩ := reps1 h2
  exact ⟨v, u, rfl, h1, h3⟩
def lenD : List D → (D → Prop) → Prop := fun ds P => match ds with
  | [.lst xs] => P (.int xs.length)
  | [.tup xs] => P (.int xs.length)
  | _ => False
def lenS : List D → (D → Prop) → Prop := fun ds P => match ds with
  | [.str x] => x.length ≤ 1000000 ∧ P (.int x.length)
  | _ => False
theorem cS_len : CbS K (fun xs H Q => ∃ p ys, xs = [.ref p] ∧ (SqL K H p ys ∨ SqT K H p ys) ∧ Q (.int ys.length) H) lenD := fun F H ds vs P Q s rs w q => by
  unfold lenD at w
  split at w
  · obtain ⟨v, rfl, p, us, rfl, h1, h2⟩ := reps1 rs
    exact ⟨p, us, rfl, .inl h1, by rw [← h2.length]; exact q _ _ F H w (Ext.refl s) rfl⟩
  · obtain ⟨v, rfl, p, us, rfl, h1, h2⟩ := reps1 rs
    exact ⟨p, us, rfl, .inr h1, by rw [← h2.length]; exact q _ _ F H w (Ext.refl s) rfl⟩
  · exact w.elim
theorem cS_lenS : CbS K (fun xs H Q => ∃ z, xs = [.str z] ∧ z.length ≤ sizeLine ∧ Q (.int z.length) H) lenS := fun F H ds vs P Q s rs w q => by
  unfold lenS at w
  split at w
  · obtain ⟨v, rfl, r⟩ := reps1 rs
    exact ⟨_, by rw [show v = _ from r], sz_le w.1, q _ _ F H w.2 (Ext.refl s) rfl⟩
  · exact w.elim
def max2 : List D → (D → Prop) → Prop := fun ds P => match ds with
  | [.int i, .int j] => P (.int (max i j))
  | _ => False
def min2 : List D → (D → Prop) → Prop := fun ds P => match ds with
  | [.int i, .int j] => P (.int (min i j))
  | _ => False
theorem cS_max2 : CbS K (fun xs H Q => ∃ i j, xs = [.int i, .int j] ∧ Q (.int (if j > i then j else i)) H) max2 := fun F H ds vs P Q s rs w q => by
  unfold max2 at w
  split at w
  · rename_i i j
    obtain ⟨v, u, rfl, r1, r2⟩ := reps2 rs
    refine ⟨i, j, by rw [show v = _ from r1, show u = _ from r2], ?_⟩
    rw [show (if j > i then j else i) = max i j by split <;> omega]
    exact q _ _ F H w (Ext.refl s) rfl
  · exact w.elim
theorem cS_min2 : CbS K (fun xs H Q => ∃ i j, xs = [.int i, .int j] ∧ Q (.int (if j < i then j else i)) H) min2 := fun F H ds vs P Q s rs w q => by
  unfold min2 at w
  split at w
  · rename_i i j
    obtain ⟨v, u, rfl, r1, r2⟩ := reps2 rs
    refine ⟨i, j, by rw [show v = _ from r1, show u = _ from r2], ?_⟩
    rw [show (if j < i then j else i) = min i j by split <;> omega]
    exact q _ _ F H w (Ext.refl s) rfl
  · exact w.elim
def intD : List D → (D → Prop) → Prop := fun ds P => match ds with
  | [.int i] => P (.int i)
  | [.bl b] => P (.int (if b then 1 else 0))
  | _ => False
theorem cS_int : CbS K (fun xs H Q => (∃ i, xs = [.int i] ∧ Q (.int i) H) ∨ ∃ k, xs = [.bl k] ∧ Q (.int (if k then 1 else 0)) H) intD := fun F H ds vs P Q s rs w q => by
  unfold intD at w
  split at w
  · obtain ⟨v, rfl, r⟩ := reps1 rs
    exact .inl ⟨_, by rw [show v = _ from r], q _ _ F H w (Ext.refl s) rfl⟩
  · obtain ⟨v, rfl, r⟩ := reps1 rs
    exact .inr ⟨_, by rw [show v = _ from r], q _ _ F H w (Ext.refl s) rfl⟩
  · exact w.elim
def absD : List D → (D → Prop) → Prop := fun ds P => match ds with
  | [.int i] => P (.int i.natAbs)
  | _ => False
theorem cS_abs : CbS K (fun xs H Q => ∃ i, xs = [.int i] ∧ Q (.int (if i < 0 then -i else i)) H) absD := fun F H ds vs P Q s rs w q => by
  unfold absD at w
  split at w
  · rename_i i
    obtain ⟨v, rfl, r⟩ := reps1 rs
    refine ⟨i, by rw [show v = _ from r], ?_⟩
    rw [show (if i < 0 then -i else i) = (i.natAbs : Int) by split <;> omega]
    exact q _ _ F H w (Ext.refl s) rfl
  · exact w.elim
/-- list(x) -/
def listD : List D → (OV → Prop) → Prop := fun ds P => match ds with
  | [.lst xs] => P (.nl (xs.map .fz))
  | [.tup xs] => P (.nl (xs.map .fz))
  | _ => False
theorem RepN.list {H F' H' : Hp} {l : Addr} {ds : List D} {vs : List V} (h0 : H l = none) (f0 : F' l = none) (h : H' l = some (.lst vs)) (r : Reps K F' ds vs) : RepN K H F' H' (.nl (ds.map .fz)) (.ref l) :=
  ⟨[l], ⟨l, vs, [], rfl, rfl, h, RepOs.fzs r⟩, by simp, fun a ha => by
    have e : a = l := by simpa using ha
    rw [e]; exact ⟨h0, f0⟩⟩
theorem Ext.grow {F H H' : Hp} (s : Same F H) (h : Same H H') : Ext F H F H' := ⟨Same.refl _, h, s.trans h, fun _ _ z _ _ => z⟩
theorem cO_list : CbO K (rListS K) listD := fun F H ds vs P Q s rs w q => by
  unfold listD at w
  split at w
  · obtain ⟨v, rfl, p, us, rfl, h1, h2⟩ := reps1 rs
    exact ⟨p, us, rfl, .inl (s.seq h1), fun l H' l0 sm l1 => q _ _ F H' w (Ext.grow s sm) (RepN.list l0 (s.free l0) l1 h2)⟩
  · obtain ⟨v, rfl, p, us, rfl, h1, h2⟩ := reps1 rs
    exact ⟨p, us, rfl, .inr (s.seqT h1), fun l H' l0 sm l1 => q _ _ F H' w (Ext.grow s sm) (RepN.list l0 (s.free l0) l1 h2)⟩
  · exact w.elim
/-- list(x) of a name's own list, whose things hold no lists -/
def dListB (As : DA) : DO := fun δ P => As δ fun ds => match ds with
  | [.lst xs] => D.lfs xs = true ∧ P (.nl (xs.map .fz))
  | [.tup xs] => D.lfs xs = true ∧ P (.nl (xs.map .fz))
  | _ => False
theorem sO_listB (ha : SimAB K a As) : SimO K (tCB (rListS K) a) (dListB As) := fun F0 H0 F H σ δ P Q e w q => ha F0 H0 F H σ δ _ _ e w fun ds vs F1 H1 w1 x1 r1 => by
  have x2 := frzT_ext x1.fh
  try dsimp only at w1
  split at w1
  · obtain ⟨v, rfl, p, us, rfl, h1, h2⟩ := reps1 r1
    exact ⟨p, us, rfl, .inl h1, fun l H' l0 sm l1 => q _ _ _ H' w1.2 (x1.trans (x2.trans (Ext.grow x2.fh sm))) (RepN.list (x1.hh.free l0) (x2.fh.free l0) l1 (Reps.lf x1.fh h2 w1.1))⟩
  · obtain ⟨v, rfl, p, us, rfl, h1, h2⟩ := reps1 r1
    exact ⟨p, us, rfl, .inr h1, fun l H' l0 sm l1 => q _ _ _ H' w1.2 (x1.trans (x2.trans (Ext.grow x2.fh sm))) (RepN.list (x1.hh.free l0) (x2.fh.free l0) l1 (Reps.lf x1.fh h2 w1.1))⟩
  · exact w1.elim
/-- tuple(x), x a list -/
def tupD : List D → (OV → Prop) → Prop := fun ds P => match ds with
  | [.lst xs] => P (.fz (.tup xs))
  | _ => False
theorem cO_tup : CbO K (rTupleS K) tupD := fun F H ds vs P Q s rs w q => by
  unfold tupD at w
  split at w
  · obtain ⟨v, rfl, p, us, rfl, h1, h2⟩ := reps1 rs
    exact ⟨p, us, rfl, s.seq h1, fun l H' l0 sm l1 => q _ _ _ H' w (Ext.new s l0 sm l1) (.fz ⟨l, us, rfl, .inl (.inl upd_same), h2.mono (Same.upd' (s.free l0))⟩)⟩
  · exact w.elim
/-! ### slices -/
abbrev DPt := Dst → (Option Int → Prop) → Prop
def SimP (K : PySem.W.Frag) (t : TO) (E : DPt) : Prop := ∀ F0 H0 F H σ δ P Q, EnvR K F0 H0 F H σ δ → E δ P → (∀ o F' H', P o → Ext F H F' H' → Q o H') → t σ H Q
def dNoPt : DPt := fun _ P => P none
def dPt (E : DE) : DPt := fun δ P => E δ fun d => match d with
  | .int i => P (some i)
  | _ => False
theorem sP_no : SimP K tNoPart dNoPt := fun F0 H0 F H σ δ P Q e w q => q none F H w (Ext.refl e.ext.fh)
theorem sP_pt (h : SimB K t E) : SimP K (tPart t) (dPt E) := fun F0 H0 F H σ δ P Q e w q => h F0 H0 F H σ δ _ _ e w fun d v F1 H1 w1 x1 r1 => by
  try dsimp only at w1
  split at w1
  · exact ⟨_, r1, q _ F1 H1 w1 x1⟩
  · exact w1.elim
def cutD (xs : List D) (lo hi : Option Int) : List D := (xs.drop (HT.sIx xs.length 0 lo)).take (HT.sIx xs.length xs.length hi - HT.sIx xs.length 0 lo)
theorem Reps.cut {F : Hp} {ds : List D} {vs : List V} (h : Reps K F ds vs) (lo hi : Option Int) : Reps K F (cutD ds lo hi) (cutV vs lo hi) := by
  unfold cutD cutV
  rw [h.length]
  exact (h.drop _).take _
def dSlL (Ea : DE) (L U : DPt) : DO := fun δ P => Ea δ fun x => L δ fun lo => U δ fun hi => match x with
  | .lst xs => P (.nl ((cutD xs lo hi).map .fz))
  | _ => False
theorem sO_slL {tl tu : TO} {L U : DPt} (ha : SimF K ta Ea) (hl : SimP K tl L) (hu : SimP K tu U) : SimO K (tSl (rSlS K) ta tl tu) (dSlL Ea L U) := fun F0 H0 F H σ δ P Q e w q =>
  ha F0 H0 F H σ δ _ _ e w fun x v F1 H1 w1 x1 r1 => hl F0 H0 F1 H1 σ δ _ _ (e.on x1) w1 fun lo F2 H2 w2 x2 => hu F0 H0 F2 H2 σ δ _ _ ((e.on x1).on x2) w2 fun hi F3 H3 w3 x3 => by
    have x13 := x1.trans (x2.trans x3)
    try dsimp only at w3
    split at w3
    · obtain ⟨p, vs, rfl, h1, h2⟩ := r1.mono (x2.ff.trans x3.ff)
      exact ⟨p, vs, rfl, x3.fh.seq h1, fun l H' l0 sm l1 => q _ _ F3 H' w3 (x13.trans (Ext.grow x3.fh sm)) (RepN.list (x13.hh.free l0) (x3.fh.free l0) l1 (h2.cut lo hi))⟩
    · exact w3.elim
/-! ### calls of the text's defs -/
mutual
def OV.lf : OV → Bool
  | .fz d => d.lf
  | .nl ts => OV.lfs ts
  | .rt _ ts => OV.lfs ts
  | .fx _ d => d.lf
def OV.lfs : List OV → Bool
  | [] => true
  | t :: ts => t.lf && OV.lfs ts
end
theorem OV.lfs_eq : ∀ (ts : List OV), OV.lfs ts = ts.all OV.lf
  | [] => rfl
  | d :: ds => by simp [OV.lfs, OV.lfs_eq ds]
mutual
theorem RepO.lf {F F' H' : Hp} (s : Same F F') : ∀ {t : OV} {v : V} {A : List Addr}, RepO K F' H' t v A → t.lf = true → RepO K (frzT F F') H' t v A
  | .fz d, v, A, h, z => ⟨h.1, Rep.lf s h.2 (by simpa [OV.lf] using z)⟩
  | .nl ts, v, A, h, z => by
    obtain ⟨a, vs, B, e, e2, h1, h2⟩ := h
    exact ⟨a, vs, B, e, e2, h1, RepOs.lf s h2 (by simpa [OV.lf] using z)⟩
  | .fx u d, v, A, h, z => ⟨h.1, h.2.1, Rep.lf s h.2.2 (by simpa [OV.lf] using z)⟩
  | .rt a ts, v, A, h, z => by
    obtain ⟨vs, B, e, e2, h1, h2⟩ := h
    exact ⟨vs, B, e, e2, h1, RepOs.lf s h2 (by simpa [OV.lf] using z)⟩
theorem RepOs.lf {F F' H' : Hp} (s : Same F F') : ∀ {ts : List OV} {vs : List V} {A : List Addr}, RepOs K F' H' ts vs A → OV.lfs ts = true → RepOs K (frzT F F') H' ts vs A
  | [], _, _, h, _ => h
  | t :: ts, vs, A, h, z => by
    obtain ⟨v, r, B, C, e1, e2, h1, h2⟩ := h
    simp [OV.lfs] at z
    exact ⟨v, r, B, C, e1, e2, RepO.lf s h1 z.1, RepOs.lf s h2 z.2⟩
end
abbrev DSp := List D → (OV → Prop) → Prop
def spV (K : PySem.W.Frag) (n : Nat) (sp : DSp) : Sp := spL n fun vs H Q => ∃ F ds P, Same F H ∧ Reps K F ds vs ∧ sp ds P ∧ ∀ r v F' H', P r → Ext F H F' H' → RepN K H F' H' r v → Q v H'
def dCall (n : Nat) (sp : DSp) (As : DA) : DO := fun δ P => As δ fun ds => ds.length = n ∧ sp ds P
def dCallB (n : Nat) (sp : DSp) (As : DA) : DO := fun δ P => As δ fun ds => ds.length = n ∧ sp ds fun r => r.lf = true ∧ P r
theorem sO_call {n : Nat} {sp : DSp} (ha : SimAF K a As) : SimO K (tCall (spV K n sp) [] E0 a) (dCall n sp As) := fun F0 H0 F H σ δ P Q e w q => ha F0 H0 F H σ δ _ _ e w fun ds vs F1 H1 w1 x1 r1 => by
  rw [List.append_nil]
  exact ⟨by rw [← r1.length]; exact w1.1, F1, ds, P, x1.fh, r1, w1.2, fun r v F' H' p x' r' => q r v F' H' p (x1.trans x') (r'.old x1.hh)⟩
theorem sO_callB {n : Nat} {sp : DSp} (ha : SimAB K a As) : SimO K (tCall (spV K n sp) [] E0 a) (dCallB n sp As) := fun F0 H0 F H σ δ P Q e w q => ha F0 H0 F H σ δ _ _ e w fun ds vs F1 H1 w1 x1 r1 => by
  rw [List.append_nil]
  refine ⟨by rw [← r1.length]; exact w1.1, H1, ds, _, Same.refl _, r1, w1.2, fun r v F' H' p x' r' => ?_⟩
  have s1 : Same F1 F' := x1.fh.trans x'.ff
  have x2 := frzT_ext s1
  obtain ⟨A, a1, a2, a3⟩ := r'
  refine q r v (frzT F1 F') H' p.2 (x1.trans ⟨x2.ff, x'.hh, x2.fh.trans x'.fh, fun b o z1 z2 z3 => ?_⟩) ⟨A, a1.lf s1 p.1, a2, fun b hb => ⟨x1.hh.free (a3 b hb).1, x2.fh.free (a3 b hb).2⟩⟩
  exact x2.no b o z1 (x'.ff _ _ z2) z3
end
end L2

namespace L2
open PySem PySem.Spec PyProof.Rows
section
variable {K : PySem.W.Frag} {te ti ta : TE} {E Ea Ei : DE} {Eo : DO} {t u : TS} {T U : DS}
/-! ### statements -/
def sNext : DS := fun De δ => De.nx δ
def sSeq (T U : DS) : DS := fun De δ => T { De with nx := U De } δ
theorem sS_next : SimS K tNext sNext := fun F0 H0 F H σ δ De E e l w => l.nx F H σ δ e w
theorem sS_seq (h : SimS K t T) (g : SimS K u U) : SimS K (tSeq t u) (sSeq T U) := fun F0 H0 F H σ δ De E e l w =>
  h F0 H0 F H σ δ { De with nx := U De } _ e ⟨fun F1 H1 σ1 δ1 e1 w1 => g F0 H0 F1 H1 σ1 δ1 De E e1 l w1, l.bk, l.ct, l.rt⟩ w
def sBreak : DS := fun De δ => De.bk δ
def sCont : DS := fun De δ => De.ct δ
theorem sS_break : SimS K tBreak sBreak := fun F0 H0 F H σ δ De E e l w => l.bk F H σ δ e w
theorem sS_cont : SimS K tCont sCont := fun F0 H0 F H σ δ De E e l w => l.ct F H σ δ e w
def sDrop (E : DE) : DS := fun De δ => E δ fun _ => De.nx δ
theorem sS_drop (h : SimB K te E) : SimS K (tDrop te) (sDrop E) := fun F0 H0 F H σ δ De En e l w => h F0 H0 F H σ δ _ _ e w fun d v F' H' p x r => l.nx F' H' σ δ (e.on x) p
def sRet (E : DO) : DS := fun De δ => E δ De.rt
theorem sS_ret (h : SimO K te Eo) : SimS K (tRet te) (sRet Eo) := fun F0 H0 F H σ δ De En e l w => h F0 H0 F H σ δ _ _ e w fun r v F' H' p x n => l.rt F' H' r v (e.ext.trans x) (n.old e.ext.hh) p
def sRetN : DS := fun De δ => De.rt (.fz .non)
theorem sS_retN : SimS K tRetN sRetN := fun F0 H0 F H σ δ De En e l w => l.rt F H (.fz .non) .non e.ext (.fz rfl) w
/-- return x, x a name's own thing -/
def sRetV (i : Nat) : DS := fun De δ => match δ[i]? with
  | some (some (.own t)) => De.rt t
  | _ => False
theorem sS_retV {i : Nat} : SimS K (tRet (tVar i)) (sRetV i) := fun F0 H0 F H σ δ De En ⟨A, e⟩ l w => by
  unfold sRetV at w
  split at w
  · rename_i t ht
    obtain ⟨v, h1, h2⟩ := e.own i t ht
    exact ⟨v, h1, l.rt F H t v e.ext ⟨A i, h2, e.nod i, fun a ha => ⟨(e.new i a ha).2.1, (e.new i a ha).1⟩⟩ w⟩
  · exact w.elim
def sIf (C : DT) (T U : DS) : DS := fun De δ => C δ fun b => if b = true then T De δ else U De δ
theorem sS_if {c : TT} {C : DT} (h : SimT K c C) (ht : SimS K t T) (hu : SimS K u U) : SimS K (tIfS c t u) (sIf C T U) := fun F0 H0 F H σ δ De En e l w => h F0 H0 F H σ δ _ _ e w fun b F' H' p x => by
  cases b with
  | true => exact iteT (ht F0 H0 F' H' σ δ De En (e.on x) l p)
  | false => exact iteB rfl (hu F0 H0 F' H' σ δ De En (e.on x) l p)
/-- x = e -/
def sSet (i : Nat) (E : DO) : DS := fun De δ => E δ fun r => De.nx (δ.set i (some (.own r)))
theorem sS_set {i : Nat} (h : SimO K te Eo) : SimS K (tAsg te (gName i)) (sSet i Eo) := fun F0 H0 F H σ δ De En e l w => h F0 H0 F H σ δ _ _ e w fun r v F' H' p x n => l.nx F' H' _ _ (e.put x i n) p
/-- x += e, of ints -/
def sAug (i : Nat) (r : DR2) (E : DE) : DS := fun De δ => dV i δ fun x => E δ fun y => r x y fun z => De.nx (δ.set i (some (.own (.fz z))))
theorem sS_aug {i : Nat} {R : R2} {r : DR2} (ho : OpS K R r) (h : SimB K te E) : SimS K (tAug i te R) (sAug i r E) := fun F0 H0 F H σ δ De En e l w => by
  obtain ⟨v, hv, w⟩ := sF_var (i := i) F0 H0 F H σ δ _ (fun v H' => te σ H' fun y H1 => R v y H1 fun z H2 => En.nx (σ.set i (some z)) H2) e w fun d v F1 H1 p x1 r1 => by
    exact h F0 H0 F1 H1 σ δ _ _ (e.on x1) p fun y u F2 H2 p2 x2 r2 => ho F2 H2 d y v u _ _ x2.fh (r1.mono (x1.fh.trans x2.hh |> fun s => s)) r2 p2 fun z w F3 H3 p3 x3 r3 => l.nx F3 H3 _ _ (((e.on x1).on x2).put x3 i (.fz r3)) p3
  exact ⟨v, hv, w⟩
/-! ### targets -/
def gN (i : Nat) : D → Dst → (Dst → Prop) → Prop := fun d δ P => P (δ.set i (some (.own (.fz d))))
theorem sG_name {i : Nat} : SimG K (gName i) (gN i) := fun F0 H0 F H σ δ A d v P Q e r w q => q _ _ _ w (e.putFz i r) fun j a ha => by
  try dsimp only at ha
  split at ha
  · cases ha
  · exact ha
def gsNil : List D → Dst → (Dst → Prop) → Prop := fun ds δ P => match ds with
  | [] => P δ
  | _ => False
def gsCons (G : D → Dst → (Dst → Prop) → Prop) (Gs : List D → Dst → (Dst → Prop) → Prop) : List D → Dst → (Dst → Prop) → Prop := fun ds δ P => match ds with
  | d :: r => G d δ fun δ' => Gs r δ' P
  | _ => False
theorem sGs_nil : SimGs K gNil gsNil := fun F0 H0 F H σ δ A ds vs P Q e r w q => by
  unfold gsNil at w
  split at w
  · exact ⟨r, q _ _ A w e fun _ _ z => z⟩
  · exact w.elim
theorem sGs_cons {g : TG} {gs : TGs} {G : D → Dst → (Dst → Prop) → Prop} {Gs : List D → Dst → (Dst → Prop) → Prop} (h : SimG K g G) (hs : SimGs K gs Gs) : SimGs K (gCons g gs) (gsCons G Gs) := fun F0 H0 F H σ δ A ds vs P Q e r w q => by
  unfold gsCons at w
  split at w
  · obtain ⟨v, r', rfl, h1, h2⟩ := r
    exact ⟨v, r', rfl, h F0 H0 F H σ δ A _ v _ _ e h1 w fun σ' δ' A' w' e' sb => hs F0 H0 F H σ' δ' A' _ r' P Q e' h2 w' fun σ2 δ2 A2 w2 e2 sb2 => q σ2 δ2 A2 w2 e2 fun i a z => sb i a (sb2 i a z)⟩
  · exact w.elim
def gT (n : Nat) (Gs : List D → Dst → (Dst → Prop) → Prop) : D → Dst → (Dst → Prop) → Prop := fun d δ P => match d with
  | .tup ds => ds.length = n ∧ Gs ds δ P
  | _ => False
theorem sG_tup {n : Nat} {gs : TGs} {Gs : List D → Dst → (Dst → Prop) → Prop} (hs : SimGs K gs Gs) : SimG K (gTup K n gs) (gT n Gs) := fun F0 H0 F H σ δ A d v P Q e r w q => by
  unfold gT at w
  split at w
  · obtain ⟨a, vs, rfl, h1, h2⟩ := r
    exact ⟨a, vs, rfl, e.ext.fh.seqT h1, by rw [← h2.length]; exact w.1, hs F0 H0 F H σ δ A _ vs P Q e h2 w.2 q⟩
  · exact w.elim
/-- a, b = e -/
def sAsg (E : DE) (G : D → Dst → (Dst → Prop) → Prop) : DS := fun De δ => E δ fun d => G d δ De.nx
theorem sS_asg {g : TG} {G : D → Dst → (Dst → Prop) → Prop} (h : SimF K te E) (hg : SimG K g G) : SimS K (tAsg te g) (sAsg E G) := fun F0 H0 F H σ δ De En e l w => h F0 H0 F H σ δ _ _ e w fun d v F' H' p x r =>
  let ⟨A, e⟩ := e
  hg F0 H0 F' H' σ δ A d v _ _ (e.on x) r p fun σ' δ' A' w' e' _ => l.nx F' H' σ' δ' ⟨A', e'⟩ w'
/-! ### a name's own list is changed -/
theorem ER.change {F0 H0 F H H' : Hp} {σ : St} {δ : Dst} {A : Nat → List Addr} (e : ER K F0 H0 F H σ δ A) (i : Nat) {t' : OV} {v : V} {B : List Addr} (hv : σ[i]? = some (some v)) (hr : RepO K F H' t' v B) (hB : B.Nodup)
    (hBn : ∀ b ∈ B, F b = none ∧ H0 b = none) (dj : ∀ j, j ≠ i → ∀ b ∈ B, b ∉ A j) (keep : ∀ b o, b ∉ A i → H b = some o → H' b = some o) : EnvR K F0 H0 F H' σ (δ.set i (some (.own t'))) := by
  have hi : i < δ.length := by rw [← e.len]; exact (List.getElem?_eq_some_iff.mp hv).1
  refine ⟨fun j => if j = i then B else A j, by simp [e.len], ⟨e.ext.ff, fun b o h => ?_, fun b o h => ?_, e.ext.no⟩, fun j t hj => ?_, fun j d hj => ?_, fun j => ?_, fun j k a hjk h1 h2 => ?_, fun j a ha => ?_⟩
  · exact keep b o (fun z => by rw [(e.new i b z).2.1] at h; cases h) (e.ext.hh _ _ h)
  · exact keep b o (fun z => by rw [(e.new i b z).1] at h; cases h) (e.ext.fh _ _ h)
  · try dsimp only
    by_cases z : j = i
    · subst z
      rw [if_pos rfl]
      rw [List.getElem?_set_self hi] at hj
      cases hj
      exact ⟨v, hv, hr⟩
    · rw [if_neg z]
      rw [List.getElem?_set_ne (Ne.symm z)] at hj
      obtain ⟨u, h1, h2⟩ := e.own j t hj
      exact ⟨u, h1, h2.frame (Same.refl _) fun a ha xs h => keep a _ (e.dis j i a z ha) h⟩
  · by_cases z : j = i
    · subst z
      rw [List.getElem?_set_self hi] at hj
      cases hj
    · rw [List.getElem?_set_ne (Ne.symm z)] at hj
      exact e.bw j d hj
  · try dsimp only
    split
    · exact hB
    · exact e.nod j
  · try dsimp only at h1 h2
    split at h1
    · split at h2
      · omega
      · rename_i z1 z2
        exact dj k z2 a h1 h2
    · split at h2
      · rename_i z1 z2
        exact dj j z1 a h2 h1
      · exact e.dis j k a hjk h1 h2
  · try dsimp only at ha
    split at ha
    · exact ⟨(hBn a ha).1, (hBn a ha).2, hr.isl a ha⟩
    · rename_i z
      obtain ⟨h1, h2, xs, h3⟩ := e.new j a ha
      exact ⟨h1, h2, xs, keep a _ (e.dis j i a z ha) h3⟩
/-- x.append(e) -/
def sApp (i : Nat) (E : DO) : DS := fun De δ => match δ[i]? with
  | some (some (.own (.nl ts))) => ts.length < 1000000 ∧ E δ fun r => De.nx (δ.set i (some (.own (.nl (ts ++ [r])))))
  | _ => False
theorem upd_off {H : Hp} {a b : Addr} {o o' : HO} (h : b ≠ a) (e : H b = some o') : upd H a o b = some o' := by rw [upd_ne h]; exact e
theorem sS_app {i : Nat} (h : SimO K te Eo) : SimS K (tDrop (tBM K "list" rAppend (tVar i) (tCons te tNil))) (sApp i Eo) := fun F0 H0 F H σ δ De En e l w => by
  obtain ⟨A, e⟩ := e
  unfold sApp at w
  split at w
  · rename_i ts hs
    obtain ⟨pl, w⟩ := w
    obtain ⟨v, hv, a, vs, B, rfl, eA, ha, hB⟩ := e.own i _ hs
    refine ⟨_, hv, .inl ⟨rfl, _, SqL.of ha⟩, ?_⟩
    refine h F0 H0 F H σ δ _ _ ⟨A, e⟩ w fun r u F1 H1 p x1 n => ?_
    obtain ⟨C, c1, c2, c3⟩ := n
    have e1 := e.on x1
    have hl := hB.length
    refine ⟨a, vs, u, rfl, rfl, x1.hh _ _ ha, sz_lt (by omega), ?_⟩
    have hB1 : RepOs K F1 H1 ts vs B := hB.frame x1.ff fun b _ xs z => x1.hh _ _ z
    have hnd := e.nod i
    rw [eA] at hnd
    obtain ⟨n1, n2⟩ := List.nodup_cons.mp hnd
    have hCA : ∀ j b, b ∈ C → b ∉ A j := fun j b hb z => by
      obtain ⟨_, _, xs, q⟩ := e.new j b z
      rw [(c3 b hb).1] at q; cases q
    have haC : a ∉ C := fun z => hCA i a z (by rw [eA]; exact List.mem_cons_self)
    refine l.nx F1 _ σ _ (e1.change i hv (t' := .nl (ts ++ [r])) (B := a :: (B ++ C)) ⟨a, vs ++ [u], B ++ C, rfl, rfl, upd_same, ?_⟩ ?_ ?_ ?_ ?_) p
    · exact RepOs.append (hB1.frame (Same.refl _) fun b hb xs z => upd_off (fun q => n1 (by rw [← q]; exact hb)) z) (RepOs.one (c1.frame (Same.refl _) fun b hb xs z => upd_off (fun q => haC (by rw [← q]; exact hb)) z))
    · refine List.nodup_cons.mpr ⟨fun z => ?_, List.nodup_append.mpr ⟨n2, c2, fun x hx y hy z => ?_⟩⟩
      · rcases List.mem_append.mp z with z | z
        · exact n1 z
        · exact haC z
      · subst z
        exact hCA i x hy (by rw [eA]; exact List.mem_cons_of_mem _ hx)
    · intro b hb
      have hb' : b ∈ A i ∨ b ∈ C := by
        rw [eA]
        rcases List.mem_cons.mp hb with z | z
        · exact .inl (by rw [z]; exact List.mem_cons_self)
        · rcases List.mem_append.mp z with z | z
          · exact .inl (List.mem_cons_of_mem _ z)
          · exact .inr z
      rcases hb' with z | z
      · exact ⟨(e1.new i b z).1, (e1.new i b z).2.1⟩
      · exact ⟨(c3 b z).2, e.ext.hh.free (c3 b z).1⟩
    · intro j hj b hb z
      rcases List.mem_cons.mp hb with q | q
      · subst q; exact e.dis j i b hj z (by rw [eA]; exact List.mem_cons_self)
      · rcases List.mem_append.mp q with q | q
        · exact e.dis j i b hj z (by rw [eA]; exact List.mem_cons_of_mem _ q)
        · exact hCA j b q z
    · intro b o hb q
      exact upd_off (fun z => hb (by rw [eA, z]; exact List.mem_cons_self)) q
  · exact w.elim
/-- x[k] = e -/
def sPut (i : Nat) (Ei : DE) (E : DO) : DS := fun De δ => E δ fun r => match δ[i]? with
  | some (some (.own (.nl ts))) => Ei δ fun k => match k with
    | .int k => ∃ j, ixN ts.length k = some j ∧ De.nx (δ.set i (some (.own (.nl (ts.set j r)))))
    | _ => False
  | _ => False
theorem sS_put {i : Nat} (h : SimO K te Eo) (hi : SimB K ti Ei) : SimS K (tAsg te (gSub (tVar i) ti rSetL)) (sPut i Ei Eo) := fun F0 H0 F H σ δ De En e l w => by
  refine h F0 H0 F H σ δ _ _ e w fun r u F1 H1 p x1 n => ?_
  obtain ⟨A, e⟩ := e
  split at p
  · rename_i ts hs
    have e1 := e.on x1
    obtain ⟨v, hv, a, vs, B, rfl, eA, ha, hB⟩ := e1.own i _ hs
    refine ⟨_, hv, ?_⟩
    refine hi F0 H0 F1 H1 σ δ _ _ ⟨A, e1⟩ p fun k kv F2 H2 p2 x2 r2 => ?_
    try dsimp only at p2
    split at p2
    · rename_i k
      obtain ⟨j, hj, p2⟩ := p2
      have e2 := e1.on x2
      have ha2 := x2.hh _ _ ha
      have hB2 : RepOs K F2 H2 ts vs B := hB.frame x2.ff fun b _ xs z => x2.hh _ _ z
      obtain ⟨C, c1, c2, c3⟩ := n
      have c1' : RepO K F2 H2 r u C := c1.frame x2.ff fun b _ xs z => x2.hh _ _ z
      have hl := hB.length
      refine ⟨a, vs, k, j, rfl, r2, ha2, by rw [← hl]; exact hj, ?_⟩
      have hjl : j < ts.length := by
        unfold ixN at hj
        split at hj
        · split at hj
          · cases hj; omega
          · cases hj
        · split at hj
          · cases hj; omega
          · cases hj
      obtain ⟨v0, A1, B0, A2, f1, rfl, f3, f4⟩ := hB2.focus (List.getElem?_eq_getElem hjl)
      have hnd := e.nod i
      rw [eA] at hnd
      obtain ⟨n1, n2⟩ := List.nodup_cons.mp hnd
      have hCA : ∀ j b, b ∈ C → b ∉ A j := fun j b hb z => by
        obtain ⟨_, _, xs, q⟩ := e.new j b z
        rw [(c3 b hb).1] at q; cases q
      have haC : a ∉ C := fun z => hCA i a z (by rw [eA]; exact List.mem_cons_self)
      have sub : ∀ b, b ∈ A1 ++ A2 → b ∈ A1 ++ (B0 ++ A2) := fun b hb => by
        rcases List.mem_append.mp hb with z | z <;> simp [z]
      have ina : ∀ b, b ∈ a :: (A1 ++ (C ++ A2)) → b ∈ A i ∨ b ∈ C := fun b hb => by
        rw [eA]
        rcases List.mem_cons.mp hb with z | z
        · exact .inl (by rw [z]; exact List.mem_cons_self)
        · rcases List.mem_append.mp z with z | z
          · exact .inl (by simp [z])
          · rcases List.mem_append.mp z with z | z
            · exact .inr z
            · exact .inl (by simp [z])
      refine l.nx F2 _ σ _ (e2.change i hv (t' := .nl (ts.set j r)) (B := a :: (A1 ++ (C ++ A2))) ⟨a, vs.set j u, _, rfl, rfl, upd_same, f4 F2 _ r u C (Same.refl _) (fun b hb xs z => ?_) (c1'.frame (Same.refl _) fun b hb xs z => upd_off (fun q => haC (by rw [← q]; exact hb)) z)⟩ ?_ ?_ ?_ ?_) p2
      · exact upd_off (fun q => n1 (by rw [← q]; exact sub b hb)) z
      · obtain ⟨m1, m2, m3⟩ := List.nodup_append.mp n2
        obtain ⟨k1, k2, k3⟩ := List.nodup_append.mp m2
        refine List.nodup_cons.mpr ⟨fun z => ?_, List.nodup_append.mpr ⟨m1, List.nodup_append.mpr ⟨c2, k2, fun x hx y hy z => ?_⟩, fun x hx y hy z => ?_⟩⟩
        · rcases List.mem_append.mp z with z | z
          · exact n1 (by simp [z])
          · rcases List.mem_append.mp z with z | z
            · exact haC z
            · exact n1 (by simp [z])
        · subst z
          exact hCA i x hx (by rw [eA]; simp [hy])
        · rcases List.mem_append.mp hy with q | q
          · subst z
            exact hCA i x q (by rw [eA]; simp [hx])
          · exact m3 x hx y (by simp [q]) z
      · intro b hb
        rcases ina b hb with z | z
        · exact ⟨(e2.new i b z).1, (e2.new i b z).2.1⟩
        · obtain ⟨xs, q⟩ := c1.isl b z
          exact ⟨x2.no b _ (c3 b z).2 q rfl, e.ext.hh.free (c3 b z).1⟩
      · intro j' hj' b hb z
        rcases ina b hb with q | q
        · exact e.dis j' i b hj' z q
        · exact hCA j' b q z
      · intro b o hb q
        exact upd_off (fun z => hb (by rw [eA, z]; exact List.mem_cons_self)) q
    · exact p2.elim
  · exact p.elim
/-- x[k] += e, x[k] -= e, of ints -/
def sAugI (i : Nat) (g : Int → Int → Int) (Ei E : DE) : DS := fun De δ => match δ[i]? with
  | some (some (.own (.nl ts))) => Ei δ fun k => match k with
    | .int k => 0 ≤ k ∧ ∃ x, ts[k.toNat]? = some (.fz (.int x)) ∧ E δ fun y => match y with
      | .int y => De.nx (δ.set i (some (.own (.nl (ts.set k.toNat (.fz (.int (g x y))))))))
      | _ => False
    | _ => False
  | _ => False
theorem sS_augI {i : Nat} {g : Int → Int → Int} (hi : SimB K ti Ei) (h : SimB K te E) : SimS K (tAugS (tVar i) ti te (rGetL K) (ipI g) rSetL) (sAugI i g Ei E) := fun F0 H0 F H σ δ De En e l w => by
  obtain ⟨A, e⟩ := e
  unfold sAugI at w
  split at w
  · rename_i ts hs
    obtain ⟨v, hv, a, vs, B, rfl, eA, ha, hB⟩ := e.own i _ hs
    refine ⟨_, hv, ?_⟩
    refine hi F0 H0 F H σ δ _ _ ⟨A, e⟩ w fun k kv F1 H1 p x1 r1 => ?_
    split at p
    · rename_i k
      obtain ⟨k0, x, hx, p⟩ := p
      have e1 := e.on x1
      have ha1 := x1.hh _ _ ha
      have hB1 : RepOs K F1 H1 ts vs B := hB.frame x1.ff fun b _ xs z => x1.hh _ _ z
      obtain ⟨v0, A1, B0, A2, f1, rfl, f3, f4⟩ := hB1.focus hx
      obtain ⟨rfl, f3⟩ := f3
      refine ⟨a, vs, k, v0, rfl, r1, SqL.of ha1, k0, f1, ?_⟩
      refine h F0 H0 F1 H1 σ δ _ _ ⟨A, e1⟩ p fun y yv F2 H2 p2 x2 r2 => ?_
      split at p2
      · rename_i y
        have e2 := e1.on x2
        have hl := hB.length
        have hjl : k.toNat < vs.length := (List.getElem?_eq_some_iff.mp f1).1
        refine ⟨x, y, f3, r2, a, vs, k, k.toNat, rfl, r1, x2.hh _ _ ha1, ?_, ?_⟩
        · unfold ixN
          rw [if_pos k0, if_pos (by omega)]
        · have hnd := e.nod i
          rw [eA] at hnd
          obtain ⟨n1, n2⟩ := List.nodup_cons.mp hnd
          refine l.nx F2 _ σ _ (e2.change i hv (t' := .nl (ts.set k.toNat (.fz (.int (g x y))))) (B := a :: (A1 ++ ([] ++ A2))) ⟨a, _, _, rfl, rfl, upd_same, f4 F2 _ (.fz (.int (g x y))) _ [] x2.ff (fun b hb xs z => upd_off (fun q => n1 (by rw [← q]; exact hb)) (x2.hh _ _ z)) ⟨rfl, rfl⟩⟩ ?_ ?_ ?_ ?_) p2
          · exact hnd
          · intro b hb
            exact ⟨(e2.new i b (by rw [eA]; exact hb)).1, (e2.new i b (by rw [eA]; exact hb)).2.1⟩
          · intro j hj b hb z
            exact e.dis j i b hj z (by rw [eA]; exact hb)
          · intro b o hb q
            exact upd_off (fun z => hb (by rw [eA, z]; exact List.mem_cons_self)) q
      · exact p2.elim
    · exact p.elim
  · exact w.elim
end
end L2

namespace L2
open PySem PySem.Spec PyProof.Rows
section
variable {K : PySem.W.Frag} {te ti ta tl : TE} {E Ea Ei El : DE} {Eo : DO} {t u : TS} {T U : DS} {a : TA} {As : DA}
/-- the entry taken anew: what is frozen now stays so -/
theorem ER.rebase {F0 H0 F H : Hp} {σ : St} {δ : Dst} {A : Nat → List Addr} (e : ER K F0 H0 F H σ δ A) : ER K F H0 F H σ δ A := ⟨e.len, ⟨Same.refl _, e.ext.hh, e.ext.fh, fun _ _ z _ _ => z⟩, e.own, e.bw, e.nod, e.dis, e.new⟩
theorem EnvR.rebase {F0 H0 F H : Hp} {σ : St} {δ : Dst} (e : EnvR K F0 H0 F H σ δ) : EnvR K F H0 F H σ δ := let ⟨A, e⟩ := e; ⟨A, e.rebase⟩
theorem Ext.unbase {F0 H0 F1 H1 F H : Hp} (x : Ext F0 H0 F1 H1) (y : Ext F1 H0 F H) : Ext F0 H0 F H := ⟨x.ff.trans y.ff, y.hh, y.fh, fun a o z1 z2 z3 => y.no a o (x.no a o z1 z2 z3) z2 z3⟩
theorem EnvR.unbase {F0 H0 F1 H1 F H : Hp} {σ : St} {δ : Dst} (x : Ext F0 H0 F1 H1) (e : EnvR K F1 H0 F H σ δ) : EnvR K F0 H0 F H σ δ := let ⟨A, e⟩ := e; ⟨A, e.len, x.unbase e.ext, e.own, e.bw, e.nod, e.dis, e.new⟩
/-! ### while -/
def sWhile (C : DT) (T : DS) : DS := fun De δ => ∃ W : Nat → Dst → Prop, (∃ m, W m δ) ∧ ∀ m δ, W m δ → C δ fun b => if b = true then T { nx := fun δ' => ∃ m', m' < m ∧ W m' δ', ct := fun δ' => ∃ m', m' < m ∧ W m' δ', bk := De.nx, rt := De.rt } δ else De.nx δ
theorem sS_while {c : TT} {C : DT} (h : SimT K c C) (ht : SimS K t T) : SimS K (tWhile c t) (sWhile C T) := fun F0 H0 F H σ δ De En e l w => by
  obtain ⟨W, ⟨m0, w0⟩, hW⟩ := w
  refine ⟨fun m σ H => ∃ F δ, EnvR K F0 H0 F H σ δ ∧ W m δ, ⟨m0, F, δ, e, w0⟩, ?_⟩
  rintro m σ1 H1 ⟨F1, δ1, e1, w1⟩
  refine h F0 H0 F1 H1 σ1 δ1 _ _ e1 (hW m δ1 w1) fun b F2 H2 p x => ?_
  cases b with
  | true =>
    refine iteT ⟨fun σ' H' => ∃ m', m' < m ∧ ∃ F δ, EnvR K F0 H0 F H' σ' δ ∧ W m' δ, fun σ' H' z => z, ?_⟩
    refine ht F0 H0 F2 H2 σ1 δ1 { nx := fun δ' => ∃ m', m' < m ∧ W m' δ', ct := fun δ' => ∃ m', m' < m ∧ W m' δ', bk := De.nx, rt := De.rt } _ (e1.on x) ⟨fun F3 H3 σ3 δ3 e3 ⟨m', hm, w3⟩ => ⟨m', hm, F3, δ3, e3, w3⟩, l.nx, fun F3 H3 σ3 δ3 e3 ⟨m', hm, w3⟩ => ⟨m', hm, F3, δ3, e3, w3⟩, l.rt⟩ p
  | false => exact iteB rfl (l.nx F2 H2 σ1 δ1 (e1.on x) p)
/-! ### what is walked -/
/-- J walks the things ds, whatever comes -/
def ItR (K : PySem.W.Frag) (F : Hp) (J : It) (ds : List D) : Prop := ∀ F1 H1, Same F F1 → Same F1 H1 → (∀ i, i < ds.length → J.go i H1) ∧ J.stop ds.length H1 ∧ ∀ i x H2, i < ds.length → J.yld i H1 x H2 → ∃ d F2, ds[i]? = some d ∧ Ext F1 H1 F2 H2 ∧ Rep K F2 d x
def SimI (K : PySem.W.Frag) (wi : TI) (I : DA) : Prop := ∀ F0 H0 F H σ δ P R, EnvR K F0 H0 F H σ δ → I δ P → (∀ ds J F' H', P ds → Ext F H F' H' → ItR K F' J ds → R J H') → wi σ H R
/-- by a word: what holds behind i turns -/
def ForW (G : D → Dst → (Dst → Prop) → Prop) (T : DS) (De : DEnds) (ds : List D) (δ : Dst) : Prop := ∃ W : Nat → Dst → Prop, W 0 δ ∧
  (∀ i d δ, ds[i]? = some d → W i δ → G d δ fun δ' => T { nx := W (i + 1), ct := W (i + 1), bk := De.nx, rt := De.rt } δ') ∧ ∀ δ, W ds.length δ → De.nx δ
def sFor (I : DA) (G : D → Dst → (Dst → Prop) → Prop) (T : DS) : DS := fun De δ => I δ fun ds => ForW G T De ds δ
theorem sS_for {wi : TI} {I : DA} {g : TG} {G : D → Dst → (Dst → Prop) → Prop} (hi : SimI K wi I) (hg : SimG K g G) (ht : SimS K t T) : SimS K (tFor wi g t) (sFor I G T) := fun F0 H0 F H σ δ De En e l w =>
  hi F0 H0 F H σ δ _ _ e w fun ds J F1 H1 p x1 hJ => by
    have b1 := (e.on x1).ext
    obtain ⟨W, w0, ws, wd⟩ := p
    refine ⟨fun i m σ H => m = ds.length - i ∧ i ≤ ds.length ∧ ∃ F δ, EnvR K F1 H0 F H σ δ ∧ W i δ, ⟨ds.length, by simp, Nat.zero_le _, F1, δ, (e.on x1).rebase, w0⟩, ?_⟩
    rintro i m σ2 H2 ⟨rfl, hil, F2, δ2, ⟨A2, e2⟩, w2⟩
    obtain ⟨j1, j2, j3⟩ := hJ F2 H2 e2.ext.ff e2.ext.fh
    by_cases hlt : i < ds.length
    · refine .inr ⟨j1 i hlt, fun σ' H' => ∃ F δ, EnvR K F1 H0 F H' σ' δ ∧ W (i + 1) δ, fun σ' H' ⟨F3, δ3, e3, w3⟩ => ⟨ds.length - (i + 1), by omega, rfl, hlt, F3, δ3, e3, w3⟩, fun x H3 y => ?_⟩
      obtain ⟨d, F3, hd, x3, r3⟩ := j3 i x H3 hlt y
      refine hg F1 H0 F3 H3 σ2 δ2 A2 d x _ _ (e2.on x3) r3 (ws i d δ2 hd w2) fun σ4 δ4 A4 w4 e4 _ => ?_
      exact ht F1 H0 F3 H3 σ4 δ4 { nx := W (i + 1), ct := W (i + 1), bk := De.nx, rt := De.rt } _ ⟨A4, e4⟩ ⟨fun F5 H5 σ5 δ5 e5 w5 => ⟨F5, δ5, e5, w5⟩, fun F5 H5 σ5 δ5 e5 w5 => l.nx F5 H5 σ5 δ5 (e5.unbase b1) w5, fun F5 H5 σ5 δ5 e5 w5 => ⟨F5, δ5, e5, w5⟩, fun F5 H5 r v x5 n5 w5 => l.rt F5 H5 r v (b1.unbase x5) n5 w5⟩ w4
    · have hi' : i = ds.length := by omega
      subst hi'
      exact .inl ⟨j2, l.nx F2 H2 σ2 δ2 (EnvR.unbase b1 ⟨A2, e2⟩) (wd _ w2)⟩
/-- turn by turn -/
def forR (G : D → Dst → (Dst → Prop) → Prop) (T : DS) (De : DEnds) : List D → Dst → Prop
  | [], δ => De.nx δ
  | d :: ds, δ => G d δ fun δ' => T { nx := forR G T De ds, ct := forR G T De ds, bk := De.nx, rt := De.rt } δ'
theorem forR.w {G : D → Dst → (Dst → Prop) → Prop} {T : DS} {De : DEnds} {ds : List D} {δ : Dst} (h : forR G T De ds δ) : ForW G T De ds δ := by
  refine ⟨fun i δ => forR G T De (ds.drop i) δ, by simpa using h, fun i d δ e w => ?_, fun δ w => ?_⟩
  · obtain ⟨hlt, e⟩ := List.getElem?_eq_some_iff.mp e
    have w' : forR G T De (ds.drop i) δ := w
    rw [List.drop_eq_getElem_cons hlt, e] at w'
    exact w'
  · have w' : forR G T De (ds.drop ds.length) δ := w
    rw [List.drop_length] at w'; exact w'
/-! ### lists, tuples, ranges -/
def dItL (El : DE) : DA := fun δ P => El δ fun d => match d with
  | .lst ds => P ds
  | _ => False
def dItT (El : DE) : DA := fun δ P => El δ fun d => match d with
  | .tup ds => P ds
  | _ => False
theorem sI_list (h : SimF K tl El) : SimI K (iList K tl) (dItL El) := fun F0 H0 F H σ δ P R e w q => h F0 H0 F H σ δ _ _ e w fun d v F' H' p x r => by
  try dsimp only at p
  split at p
  · obtain ⟨a, vs, rfl, h1, h2⟩ := r
    refine ⟨a, rfl, ⟨vs, x.fh.seq h1⟩, q _ _ F' H' p x fun F1 H1 s1 s2 => ?_⟩
    have hl := h2.length
    have hq := (s1.trans s2).seq h1
    refine ⟨fun i hi => ⟨vs, vs[i], hq, List.getElem?_eq_getElem (by omega)⟩, ⟨vs, hq, by omega⟩, fun i x H2 hi y => ?_⟩
    obtain ⟨rfl, y⟩ := y
    obtain ⟨d, hd, rd⟩ := h2.get' (y vs hq)
    exact ⟨d, F1, hd, Ext.refl s2, rd.mono s1⟩
  · exact p.elim
theorem sI_tup (h : SimF K tl El) : SimI K (iTup K tl) (dItT El) := fun F0 H0 F H σ δ P R e w q => h F0 H0 F H σ δ _ _ e w fun d v F' H' p x r => by
  try dsimp only at p
  split at p
  · obtain ⟨a, vs, rfl, h1, h2⟩ := r
    refine ⟨a, rfl, ⟨vs, x.fh.seqT h1⟩, q _ _ F' H' p x fun F1 H1 s1 s2 => ?_⟩
    have hl := h2.length
    have hq := (s1.trans s2).seqT h1
    refine ⟨fun i hi => ⟨vs, vs[i], hq, List.getElem?_eq_getElem (by omega)⟩, ⟨vs, hq, by omega⟩, fun i x H2 hi y => ?_⟩
    obtain ⟨rfl, y⟩ := y
    obtain ⟨d, hd, rd⟩ := h2.get' (y vs hq)
    exact ⟨d, F1, hd, Ext.refl s2, rd.mono s1⟩
  · exact p.elim
/-- lo, lo + c, .. -/
def rng (lo c : Int) (n : Nat) : List D := (List.range n).map fun (i : Nat) => D.int (lo + i * c)
theorem rng_len {lo c : Int} {n : Nat} : (rng lo c n).length = n := by simp [rng]
theorem rng_get {lo c : Int} {n i : Nat} (h : i < n) : (rng lo c n)[i]? = some (.int (lo + i * c)) := by simp [rng, h]
theorem rng_inv {lo c : Int} {n i : Nat} {d : D} (h : (rng lo c n)[i]? = some d) : i < n ∧ d = .int (lo + i * c) := by
  have hi : i < n := by
    have := (List.getElem?_eq_some_iff.mp h).1
    rwa [rng_len] at this
  rw [rng_get hi] at h
  exact ⟨hi, (Option.some.inj h).symm⟩
theorem itR_itr {F : Hp} {lo : Int} {n : Nat} : ItR K F (Itr lo n) (rng lo 1 n) := fun F1 H1 s1 s2 => by
  rw [rng_len]
  refine ⟨fun i hi => hi, Nat.le_refl _, fun i x H2 hi y => ?_⟩
  obtain ⟨rfl, rfl⟩ := y
  exact ⟨_, F1, rng_get hi, Ext.refl s2, by rw [Int.mul_one]; rfl⟩
theorem itR_itrs {F : Hp} {lo c : Int} {n : Nat} : ItR K F (Itrs lo c n) (rng lo c n) := fun F1 H1 s1 s2 => by
  rw [rng_len]
  refine ⟨fun i hi => hi, Nat.le_refl _, fun i x H2 hi y => ?_⟩
  obtain ⟨rfl, rfl⟩ := y
  exact ⟨_, F1, rng_get hi, Ext.refl s2, rfl⟩
def dRng1 (As : DA) : DA := fun δ P => As δ fun ds => match ds with
  | [.int j] => (-(2 ^ 62) ≤ j ∧ j < 2 ^ 62) ∧ P (rng 0 1 j.toNat)
  | _ => False
def dRng2 (As : DA) : DA := fun δ P => As δ fun ds => match ds with
  | [.int i, .int j] => (-(2 ^ 62) ≤ i ∧ i < 2 ^ 62 ∧ -(2 ^ 62) ≤ j ∧ j < 2 ^ 62) ∧ P (rng i 1 (j - i).toNat)
  | _ => False
def dRng3 (As : DA) : DA := fun δ P => As δ fun ds => match ds with
  | [.int i, .int j, .int c] => (-(2 ^ 61) ≤ i ∧ i < 2 ^ 61 ∧ -(2 ^ 61) ≤ j ∧ j < 2 ^ 61 ∧ 0 < c ∧ c < 2 ^ 29) ∧ P (rng i c (rngN i j c))
  | _ => False
theorem reps3 {F : Hp} {d d' d'' : D} {vs : List V} (h : Reps K F [d, d', d''] vs) : ∃ v u w, vs = [v, u, w] ∧ Rep K F d v ∧ Rep K F d' u ∧ Rep K F d'' w := by
  obtain ⟨v, r, rfl, h1, h2⟩ := h
  obtain ⟨u, w, rfl, h3, h4⟩ := reps2 h2
  exact ⟨v, u, w, rfl, h1, h3, h4⟩
theorem sI_rng1 (h : SimAB K a As) : SimI K (iRng1 a) (dRng1 As) := fun F0 H0 F H σ δ P R e w q => h F0 H0 F H σ δ _ _ e w fun ds vs F' H' p x r => by
  try dsimp only at p
  split at p
  · obtain ⟨v, rfl, r1⟩ := reps1 r
    exact ⟨_, by rw [show v = _ from r1], p.1.1, p.1.2, q _ _ F' H' p.2 x itR_itr⟩
  · exact p.elim
theorem sI_rng2 (h : SimAB K a As) : SimI K (iRng2 a) (dRng2 As) := fun F0 H0 F H σ δ P R e w q => h F0 H0 F H σ δ _ _ e w fun ds vs F' H' p x r => by
  try dsimp only at p
  split at p
  · obtain ⟨v, u, rfl, r1, r2⟩ := reps2 r
    exact ⟨_, _, by rw [show v = _ from r1, show u = _ from r2], p.1, q _ _ F' H' p.2 x itR_itr⟩
  · exact p.elim
theorem sI_rng3 (h : SimAB K a As) : SimI K (iRng3 a) (dRng3 As) := fun F0 H0 F H σ δ P R e w q => h F0 H0 F H σ δ _ _ e w fun ds vs F' H' p x r => by
  try dsimp only at p
  split at p
  · obtain ⟨v, u, z, rfl, r1, r2, r3⟩ := reps3 r
    exact ⟨_, _, _, by rw [show v = _ from r1, show u = _ from r2, show z = _ from r3], p.1, q _ _ F' H' p.2 x itR_itrs⟩
  · exact p.elim
/-- reversed of a tuple -/
def dRev (As : DA) : DA := fun δ P => As δ fun ds => match ds with
  | [.tup xs] => P xs.reverse
  | _ => False
theorem sI_rev (h : SimAF K a As) : SimI K (iRev K a) (dRev As) := fun F0 H0 F H σ δ P R e w q => h F0 H0 F H σ δ _ _ e w fun ds vs F' H' p x r => by
  try dsimp only at p
  split at p
  · obtain ⟨v, rfl, a, us, rfl, h1, h2⟩ := reps1 r
    have hl := h2.length
    refine ⟨a, us, rfl, x.fh.seqT h1, q _ _ F' H' p x fun F1 H1 s1 s2 => ?_⟩
    have hq := (s1.trans s2).seqT h1
    rw [List.length_reverse]
    refine ⟨fun i hi => ⟨us, us[us.length - 1 - i]'(by omega), hq, rfl, by omega, List.getElem?_eq_getElem (by omega)⟩, by show us.length ≤ _; omega, fun i x H2 hi y => ?_⟩
    obtain ⟨rfl, y⟩ := y
    obtain ⟨d, hd, rd⟩ := h2.get' (y us hq)
    refine ⟨d, F1, ?_, Ext.refl s2, rd.mono s1⟩
    rw [List.getElem?_reverse hi, hl]; exact hd
  · exact p.elim
/-! ### comprehensions -/
def blkD (ix : List (Option Nat)) (δ : Dst) : Dst := ix.map fun o => match o with
  | none => none
  | some i => match δ[i]? with
    | some (some (.own (.fz d))) => some (.own (.fz d))
    | some (some (.own (.fx _ d))) => some (.own (.fz d))
    | some (some (.own t)) => some (.bw t.val)
    | some (some (.bw d)) => some (.bw d)
    | _ => none
def CmpW (G : D → Dst → (Dst → Prop) → Prop) (Eo : DO) (ds : List D) (δ : Dst) (P : OV → Prop) : Prop := ∃ W : Nat → Dst → List OV → Prop, W 0 δ [] ∧
  (∀ i d δ ts, ds[i]? = some d → W i δ ts → ts.length < 1000000 ∧ G d δ fun δ' => Eo δ' fun r => W (i + 1) δ' (ts ++ [r])) ∧ ∀ δ ts, W ds.length δ ts → P (.nl ts)
def dComp (I : DA) (ix : List (Option Nat)) (G : D → Dst → (Dst → Prop) → Prop) (Eo : DO) : DO := fun δ P => I δ fun ds => CmpW G Eo ds (blkD ix δ) P
theorem ER.blk {F0 H0 F H H' : Hp} {σ : St} {δ : Dst} {A : Nat → List Addr} (e : ER K F0 H0 F H σ δ A) (ix : List (Option Nat)) (s : Same H H') : ER K F H F H' (blkσ ix σ) (blkD ix δ) (fun _ => []) := by
  have get : ∀ (j : Nat) (s : Sl), (blkD ix δ)[j]? = some (some s) → ∃ (i : Nat) (v : V), (blkσ ix σ)[j]? = some (some v) ∧ σ[i]? = some (some v) ∧ ((∃ d, s = .own (.fz d) ∧ Rep K F d v) ∨ ∃ d, s = .bw d ∧ Rep K H d v) := by
    intro j s hj
    unfold blkD at hj
    rw [List.getElem?_map] at hj
    cases q : ix[j]? with
    | none => rw [q] at hj; cases hj
    | some o =>
      rw [q] at hj
      cases o with
      | none => cases hj
      | some i =>
        have fin : ∀ v, σ[i]? = some (some v) → (blkσ ix σ)[j]? = some (some v) := fun v hv => by
          unfold blkσ
          rw [List.getElem?_map, q]
          simp [hv]
        have hj' := Option.some.inj hj
        dsimp only at hj'
        split at hj'
        · rename_i d hd
          cases hj'
          obtain ⟨v, h1, h2⟩ := e.own i _ hd
          exact ⟨i, v, fin v h1, h1, .inl ⟨d, rfl, h2.2⟩⟩
        · rename_i u d hd
          cases hj'
          obtain ⟨v, h1, h2⟩ := e.own i _ hd
          exact ⟨i, v, fin v h1, h1, .inl ⟨d, rfl, h2.2.2⟩⟩
        · rename_i t _ _ hd
          cases hj'
          obtain ⟨v, h1, h2⟩ := e.own i _ hd
          exact ⟨i, v, fin v h1, h1, .inr ⟨_, rfl, h2.rep e.ext.fh fun a _ xs z => z⟩⟩
        · rename_i d hd
          cases hj'
          obtain ⟨v, h1, h2⟩ := e.bw i _ hd
          exact ⟨i, v, fin v h1, h1, .inr ⟨_, rfl, h2.mono e.ext.hh⟩⟩
        · cases hj'
  refine ⟨by simp [blkσ, blkD], Ext.grow e.ext.fh s, fun j t hj => ?_, fun j d hj => ?_, fun _ => List.nodup_nil, (fun _ _ _ _ h => by cases h), (fun _ _ h => by cases h)⟩
  · obtain ⟨i, v, h1, h2, h3⟩ := get j _ hj
    rcases h3 with ⟨d, h3, h4⟩ | ⟨d, h3, _⟩
    · cases h3; exact ⟨v, h1, rfl, h4⟩
    · cases h3
  · obtain ⟨i, v, h1, h2, h3⟩ := get j _ hj
    rcases h3 with ⟨d', h3, h4⟩ | ⟨d', h3, h4⟩
    · cases h3
    · cases h3; exact ⟨v, h1, h4⟩
theorem sO_comp {wi : TI} {I : DA} {g : TG} {G : D → Dst → (Dst → Prop) → Prop} {ix : List (Option Nat)} (hi : SimI K wi I) (hg : SimG K g G) (he : SimO K te Eo) : SimO K (tComp wi ix g te) (dComp I ix G Eo) := fun F0 H0 F H σ δ P Q e w q =>
  hi F0 H0 F H σ δ _ _ e w fun ds J F1 H1 p x1 hJ => by
    intro L hL
    obtain ⟨A, e⟩ := e.on x1
    obtain ⟨W, w0, ws, wd⟩ := p
    have f1 : Same F1 H1 := x1.fh
    refine ⟨fun i m σ ys H => m = ds.length - i ∧ i ≤ ds.length ∧ ∃ F δ ts B, ER K F1 H1 F H σ δ (fun _ => []) ∧ W i δ ts ∧ F L = none ∧ H L = some (.lst ys) ∧ RepOs K F H ts ys B ∧ (L :: B).Nodup ∧ ∀ b ∈ B, H1 b = none ∧ F b = none,
      ⟨ds.length, by simp, Nat.zero_le _, F1, _, [], [], e.blk ix (Same.new hL), w0, f1.free hL, upd_same, ⟨rfl, rfl⟩, by simp, fun _ h => by cases h⟩, ?_⟩
    rintro i m σ2 ys H2 ⟨rfl, hil, F2, δ2, ts, B, e2, w2, l1, l2, hr, nd, nw⟩
    obtain ⟨j1, j2, j3⟩ := hJ F2 H2 e2.ext.ff e2.ext.fh
    by_cases hlt : i < ds.length
    · obtain ⟨d0, hd0⟩ : ∃ d, ds[i]? = some d := ⟨_, List.getElem?_eq_getElem hlt⟩
      have hl := hr.length
      refine .inr ⟨sz_lt (by have := (ws i d0 δ2 ts hd0 w2).1; omega), j1 i hlt, fun x H3 y => ?_⟩
      obtain ⟨d, F3, hd, x3, r3⟩ := j3 i x H3 hlt y
      refine hg F1 H1 F3 H3 σ2 δ2 (fun _ => []) d x _ _ (e2.on x3) r3 (ws i d δ2 ts hd w2).2 fun σ4 δ4 A4 w4 e4 sub => ?_
      have e4' : ER K F1 H1 F3 H3 σ4 δ4 (fun _ => []) := by
        have : A4 = fun _ => [] := funext fun k => List.eq_nil_iff_forall_not_mem.mpr fun b hb => by cases sub k b hb
        rw [this] at e4; exact e4
      refine he F1 H1 F3 H3 σ4 δ4 _ _ ⟨_, e4'⟩ w4 fun r v F5 H5 p5 x5 n5 => ?_
      have x25 := x3.trans x5
      have l5 := x25.hh _ _ l2
      have l5f := x25.no L _ l1 l2 rfl
      refine ⟨l5, ds.length - (i + 1), by omega, rfl, hlt, F5, δ4, ts ++ [r], ?_⟩
      obtain ⟨C, c1, c2, c3⟩ := n5
      obtain ⟨n1, n2⟩ := List.nodup_cons.mp nd
      have hLC : L ∉ C := fun z => by
        have q := (c3 L z).1
        rw [x3.hh _ _ l2] at q; cases q
      have hBC : ∀ b, b ∈ B → b ∉ C := fun b hb z => by
        obtain ⟨xs, q⟩ := hr.isl b hb
        have := (c3 b z).1
        rw [x3.hh _ _ q] at this; cases this
      have e5 := e4'.on x5
      refine ⟨B ++ C, ⟨e5.len, ⟨e5.ext.ff, fun b o h => ?_, fun b o h => ?_, e5.ext.no⟩, fun j t hj => ?_, e5.bw, e5.nod, e5.dis, fun _ _ h => by cases h⟩, p5, l5f, upd_same, ?_, ?_, fun b hb => ?_⟩
      · exact upd_off (fun z => by rw [z, hL] at h; cases h) (e5.ext.hh _ _ h)
      · exact upd_off (fun z => by rw [z, l5f] at h; cases h) (e5.ext.fh _ _ h)
      · obtain ⟨u, h1, h2⟩ := e5.own j t hj
        exact ⟨u, h1, h2.frame (Same.refl _) fun _ z => by cases z⟩
      · exact RepOs.append (hr.frame x25.ff fun b hb xs z => upd_off (fun q => n1 (by rw [← q]; exact hb)) (x25.hh _ _ z)) (RepOs.one (c1.frame (Same.refl _) fun b hb xs z => upd_off (fun q => hLC (by rw [← q]; exact hb)) z))
      · refine List.nodup_cons.mpr ⟨fun z => ?_, List.nodup_append.mpr ⟨n2, c2, fun x hx y hy z => by subst z; exact hBC x hx hy⟩⟩
        rcases List.mem_append.mp z with z | z
        · exact n1 z
        · exact hLC z
      · rcases List.mem_append.mp hb with z | z
        · obtain ⟨xs, qq⟩ := hr.isl b z
          exact ⟨(nw b z).1, x25.no b _ (nw b z).2 qq rfl⟩
        · exact ⟨(e2.ext.hh.trans x3.hh).free (c3 b z).1, (c3 b z).2⟩
    · have hi' : i = ds.length := by omega
      subst hi'
      refine .inl ⟨j2, q _ _ F2 H2 (wd _ _ w2) (x1.trans e2.ext) ⟨L :: B, ⟨L, ys, B, rfl, rfl, l2, hr⟩, nd, fun b hb => ?_⟩⟩
      rcases List.mem_cons.mp hb with rfl | z
      · exact ⟨x1.hh.free hL, l1⟩
      · exact ⟨x1.hh.free (nw b z).1, (nw b z).2⟩
/-! ### a def -/
def startV (N : List Str) (ds : List D) : Dst := ds.map (fun d => some (.own (.fz d))) ++ List.replicate (N.length - ds.length) none
theorem startV_er {H F : Hp} {N : List Str} {ds : List D} {vs : List V} (s : Same F H) (h : Reps K F ds vs) : ER K F H F H (start N vs) (startV N ds) (fun _ => []) := by
  have hl := h.length
  refine ⟨by simp [start, startV, hl], Ext.refl s, fun i t hi => ?_, fun i d hi => ?_, fun _ => List.nodup_nil, (fun _ _ _ _ h => by cases h), (fun _ _ h => by cases h)⟩
  · unfold startV at hi
    by_cases z : i < ds.length
    · rw [List.getElem?_append_left (by simpa using z), List.getElem?_map, List.getElem?_eq_getElem z] at hi
      simp at hi
      subst hi
      obtain ⟨v, h1, h2⟩ := h.get (List.getElem?_eq_getElem z)
      refine ⟨v, ?_, rfl, h2⟩
      unfold start
      rw [List.getElem?_append_left (by simp; omega), List.getElem?_map, h1]
      rfl
    · rw [List.getElem?_append_right (by simpa using z)] at hi
      have := List.mem_of_getElem? hi
      rw [List.mem_replicate] at this
      cases this.2
  · unfold startV at hi
    by_cases z : i < ds.length
    · rw [List.getElem?_append_left (by simpa using z), List.getElem?_map, List.getElem?_eq_getElem z] at hi
      simp at hi
    · rw [List.getElem?_append_right (by simpa using z)] at hi
      have := List.mem_of_getElem? hi
      rw [List.mem_replicate] at this
      cases this.2
end
theorem CalV.of {P : Program} {w : World} {K : PySem.W.Frag} {mg : Str → Option Value} {base : Heap} {x : Str} {st : Stmt} {f : Addr} {fd : FuncData} {N ps : List Str} {k n : Nat} {sp : DSp} (Df : DefAt K mg x st f fd) (S : FnScope N ps (defScope st))
    (hb : ∀ (kV doc pm : Value) (an : Option Addr) (cdv ct : Value) (us : List Value), us.length = ps.length → bindArgs (PySem.W.fnOf x x (defArgs st) (defBody st) (defScope st) .none kV doc pm an cdv ct) ⟨us, []⟩ = pure (ps.zip us)) (hn : n = ps.length)
    (hbody : ∀ (cdv : Value) (A : Around) (outer : List Env) (s : Shared) (H : Hp) (E : XK), Room k (A.deeper (envOfC x (defScope st) s.heap.objs.size f cdv)) →
      ∃ t T, PSs (cxOf CX0 P w K mg base N x (defScope st) f cdv A outer s H E).nox (defBody st) t ∧ SimS K t T ∧ ∀ ds Pr, sp ds Pr → T { nx := fun _ => Pr (.fz .non), rt := Pr } (startV N ds)) : Cal P w K mg base x (k + 1) ps (spV K n sp) :=
  Cal.of Df S hb (fun vs H Q E h => by rw [← hn]; exact h.1) fun cdv A outer s H vs Q E hr h => by
    obtain ⟨_, F, ds, Pr, hs, hr', hsp, hq⟩ := h
    obtain ⟨t, T, h1, h2, h3⟩ := hbody cdv A outer s H E hr
    refine ⟨t, h1, h2 F H F H (start N vs) (startV N ds) { nx := fun _ => Pr (.fz .non), rt := Pr } _ ⟨_, startV_er hs hr'⟩ ⟨fun F' H' σ δ e p => ?_, fun _ _ _ _ _ z => z.elim, fun _ _ _ _ _ z => z.elim, fun F' H' r v x n p => hq r v F' H' p x n⟩ (h3 ds Pr hsp)⟩
    exact hq _ _ F' H' p e.ext (.fz rfl)
/-- a law -/
theorem law_ok {P : Program} {w : World} {K : PySem.W.Frag} {mg : Str → Option Value} {base : Heap} {st : Stmt} {f : Addr} {fd : FuncData} {N : List Str} {k : Nat} (Df : DefAt K mg "law" st f fd) (S : FnScope N ["_law_script"] (defScope st))
    (hbody : ∀ (cdv : Value) (A : Around) (outer : List Env) (s : Shared) (H : Hp) (E : XK), Room k (A.deeper (envOfC "law" (defScope st) s.heap.objs.size f cdv)) →
      ∃ t T, PSs (cxOf CX0 P w K mg base N "law" (defScope st) f cdv A outer s H E).nox (defBody st) t ∧ SimS K t T ∧ ∀ ns : List Int, ns.length ≤ 63 → T { nx := fun _ => False, rt := fun r => r = .fz (.bl true) } (startV N [.lst (ns.map .int)])) : FnOk P w K mg base CX0 (k + 1) f fd ["_law_script"] (spLaw K) :=
  Df.fn.ok S (fun vs H Q E h => h.1) fun cdv A outer s H vs Q E hr h => by
    obtain ⟨_, a, ns, rfl, hS, hlen, q⟩ := h
    obtain ⟨t, T, h1, h2, h3⟩ := hbody cdv A outer s H E hr
    have hr' : Reps K H [.lst (ns.map D.int)] [.ref a] := ⟨_, _, rfl, ⟨a, _, rfl, hS, reps_ints.mpr rfl⟩, rfl⟩
    refine ⟨t, h1, h2 H H H H (start N [.ref a]) (startV N [.lst (ns.map .int)]) { nx := fun _ => False, rt := fun r => r = .fz (.bl true) } _ ⟨_, startV_er (Same.refl H) hr'⟩ ⟨fun F' H' σ δ e p => p.elim, fun _ _ _ _ _ z => z.elim, fun _ _ _ _ _ z => z.elim, fun F' H' r v x n p => ?_⟩ (h3 ns hlen)⟩
    subst p
    obtain ⟨A, n1, _⟩ := n
    have : v = .bl true := n1.2
    subst this
    exact q H'
end L2

namespace L2
open PySem PySem.Spec PyProof.Rows
section
variable {X : Cx} {K : PySem.W.Frag}
/-! ### isinstance -/
def D.tyN : D → String
  | .int _ => "int"
  | .bl _ => "bool"
  | .non => "NoneType"
  | .str _ => "str"
  | .ty _ => "type"
  | .fn _ => "function"
  | .tup _ => "tuple"
  | .lst _ => "list"
def rIsID (K : PySem.W.Frag) : List V → Hp → VK → Prop := fun xs H Q => ∃ d v n b, xs = [v, .ty n] ∧ Rep K H d v ∧ (∀ m, d ≠ .ty m) ∧ (∀ x, d ≠ .fn x) ∧ PySem.W.kitOne K (.type d.tyN) (.type n) = some b ∧ Q (.bl b) H
theorem call_isiD : CallR X (.builtin "isinstance") (rIsID X.K) := by
  intro pins s σ H xs us Q I r h
  obtain ⟨d, x, n, b, rfl, rp, hty, hfn, e, q⟩ := h
  obtain ⟨u, w', rfl, r1, r2⟩ := vals2 r
  cases r2
  have fin : ∀ tk, EP X pins σ Q (.bool b) { s with toks := tk } := fun tk => ⟨.bl b, H, I.tok tk, rfl, q⟩
  cases d with
  | int i => cases rp; exact isinst_ok I r1 (TyOf.int i) e fin
  | bl i => cases rp; exact isinst_ok I r1 (TyOf.bl i) e fin
  | non => cases rp; exact isinst_ok I r1 TyOf.non e fin
  | str i => cases rp; exact isinst_ok I r1 (TyOf.str i) e fin
  | ty i => exact absurd rfl (hty i)
  | fn i => exact absurd rfl (hfn i)
  | tup ds =>
    obtain ⟨a, vs, rfl, h1, h2⟩ := rp
    cases (show u = Value.ref a from r1)
    obtain ⟨its, rv, p, hz⟩ := I.tuple h1
    obtain ⟨o, q1, q2, _⟩ := p
    exact PySem.W.kia_one PySem.W.kitx_tuple I.kIn ⟨o, q1, q2⟩ e (fun z => nomatch z) fin
  | lst ds =>
    obtain ⟨a, vs, rfl, h1, h2⟩ := rp
    cases (show u = Value.ref a from r1)
    obtain ⟨its, rv, p, hz⟩ := I.list h1
    obtain ⟨o, q1, q2, _⟩ := p.isList
    exact PySem.W.kia_one PySem.W.kitx_list I.kIn ⟨o, q1, q2⟩ e (fun z => nomatch z) fin
/-- what isinstance says of a thing and a built-in type -/
def kitB (d : D) (n : String) : Bool := match d with
  | .int _ => n == "int"
  | .bl _ => n == "bool" || n == "int"
  | .str _ => n == "str"
  | .tup _ => n == "tuple"
  | .lst _ => n == "list"
  | _ => false
def kitNs : List String := ["int", "bool", "str", "tuple", "list"]
def kitTs : List String := ["int", "bool", "NoneType", "str", "tuple", "list"]
structure KitV (K : PySem.W.Frag) : Prop where
  all : ∀ d : D, (∀ m, d ≠ .ty m) → (∀ x, d ≠ .fn x) → ∀ n ∈ kitNs, PySem.W.kitOne K (.type d.tyN) (.type n) = some (kitB d n)
def isiD : List D → (D → Prop) → Prop := fun ds P => match ds with
  | [.ty _, .ty _] => False
  | [.fn _, .ty _] => False
  | [d, .ty n] => n ∈ kitNs ∧ P (.bl (kitB d n))
  | _ => False
theorem cS_isi (KT : KitV K) : CbS K (rIsID K) isiD := fun F H ds vs P Q s rs w q => by
  unfold isiD at w
  split at w
  · exact w.elim
  · exact w.elim
  · rename_i d n h1 h0
    obtain ⟨v, u, rfl, r1, r2⟩ := reps2 rs
    have ht : ∀ m, d ≠ .ty m := fun m z => h1 m z
    have hf : ∀ m, d ≠ .fn m := fun m z => h0 m z
    exact ⟨d, v, n, _, by rw [show u = _ from r2], r1, ht, hf, KT.all d ht hf n w.1, q _ _ F H w.2 (Ext.refl s) rfl⟩
  · exact w.elim
theorem oS_ip {g : Int → Int → Int} : OpS K (ipI g) (rI2 fun i j => .int (g i j)) := fun F H x y v u P Q s rx ry w q => by
  obtain ⟨i, j, rfl, rfl, p⟩ := rI2_inv w
  exact ⟨i, j, rx, ry, q _ _ F H p (Ext.refl s) rfl⟩
theorem atI_c0 {α : Type} {a : α} {xs : List α} : atI (a :: xs) 0 = some a := atI_nat (j := 0) rfl
theorem atI_c1 {α : Type} {a b : α} {xs : List α} : atI (a :: b :: xs) 1 = some b := atI_nat (j := 1) rfl
theorem atI_c2 {α : Type} {a b c : α} {xs : List α} : atI (a :: b :: c :: xs) 2 = some c := atI_nat (j := 2) rfl
theorem atI_c3 {α : Type} {a b c d : α} {xs : List α} : atI (a :: b :: c :: d :: xs) 3 = some d := atI_nat (j := 3) rfl
theorem atI_c4 {α : Type} {a b c d e : α} {xs : List α} : atI (a :: b :: c :: d :: e :: xs) 4 = some e := atI_nat (j := 4) rfl
theorem atI_ints {xs : List Int} {i : Int} (h0 : 0 ≤ i) (h : i < xs.length) : atI (xs.map D.int) i = some (.int (xs.getD i.toNat 0)) := by
  have hi : i.toNat < xs.length := by omega
  have e := atI_nat (xs := xs.map D.int) (j := i.toNat) (v := .int (xs.getD i.toNat 0)) (by simp [hi])
  rwa [show ((i.toNat : Nat) : Int) = i by omega] at e
theorem lfs_ints {xs : List Int} : D.lfs (xs.map D.int) = true := by
  rw [D.lfs_eq]; simp [D.lf]
theorem fzs_val {ds : List D} : OV.vals (ds.map OV.fz) = ds := by
  rw [OV.vals_eq, List.map_map]
  simp [Function.comp_def, OV.val]
theorem mulL {i j : Int} (h1 : -1000000 ≤ i) (h2 : i ≤ 1000000) : CMul i j := .inl ⟨by omega, by omega⟩
theorem mulR {i j : Int} (h1 : -1000000 ≤ j) (h2 : j ≤ 1000000) : CMul i j := .inr ⟨by omega, by omega⟩
theorem mget {α β : Type} {xs : List α} {f : α → β} {i : Nat} {d : β} (h : (xs.map f)[i]? = some d) : ∃ x, xs[i]? = some x ∧ d = f x := by
  rw [List.getElem?_map] at h
  cases q : xs[i]? with
  | none => rw [q] at h; cases h
  | some x => rw [q] at h; exact ⟨x, rfl, (Option.some.inj h).symm⟩
theorem val_fzI {xs : List Int} : List.map OV.val (xs.map fun x => OV.fz (D.int x)) = xs.map D.int := by
  rw [List.map_map]; rfl
theorem get_fzI {xs : List Int} {i : Int} (h0 : 0 ≤ i) (h : i < xs.length) : (xs.map fun x => OV.fz (D.int x))[i.toNat]? = some (.fz (.int (xs.getD i.toNat 0))) := by
  have hi : i.toNat < xs.length := by omega
  simp [hi]
theorem set_fzI {xs : List Int} {i : Nat} {v : Int} : (xs.map fun x => OV.fz (D.int x)).set i (.fz (.int v)) = (xs.set i v).map fun x => OV.fz (D.int x) := by
  rw [List.map_set]
theorem app_fzI {xs : List Int} {v : Int} : (xs.map fun x => OV.fz (D.int x)) ++ [.fz (.int v)] = (xs ++ [v]).map fun x => OV.fz (D.int x) := by
  rw [List.map_append]; rfl
theorem lfs_fzI {xs : List Int} : OV.lfs (xs.map fun x => OV.fz (D.int x)) = true := by
  rw [OV.lfs_eq]; simp [OV.lf, D.lf]
theorem fz_int {xs : List Int} : (xs.map D.int).map OV.fz = xs.map fun x => OV.fz (D.int x) := by
  rw [List.map_map]; rfl
theorem kn_int : ("int" ∈ kitNs) = True := eq_true (by decide)
theorem kn_bool : ("bool" ∈ kitNs) = True := eq_true (by decide)
theorem kn_str : ("str" ∈ kitNs) = True := eq_true (by decide)
theorem kn_tuple : ("tuple" ∈ kitNs) = True := eq_true (by decide)
theorem kn_list : ("list" ∈ kitNs) = True := eq_true (by decide)
theorem nat10 : (Int.natAbs 10 < 2 ^ 64) = True := eq_true (by decide)
theorem nat2 : (Int.natAbs 2 < 2 ^ 64) = True := eq_true (by decide)
/-- a comprehension, thing by thing -/
theorem CmpW.map {α : Type} {Eo : DO} {o : Option Sl} {rest : Dst} {P : OV → Prop} (xs : List α) (g : α → D) (f : α → OV) (hn : xs.length ≤ 1000000)
    (h : ∀ x ∈ xs, ∀ Q : OV → Prop, Q (f x) → Eo (some (.own (.fz (g x))) :: rest) Q) (k : P (.nl (xs.map f))) : CmpW (gN 0) Eo (xs.map g) (o :: rest) P := by
  refine ⟨fun i δ ts => ∃ o, δ = o :: rest ∧ ts = (xs.take i).map f, ⟨o, rfl, by simp⟩, ?_, ?_⟩
  · rintro i d δ ts hd ⟨o, rfl, rfl⟩
    obtain ⟨x, hx, rfl⟩ := mget hd
    obtain ⟨hi, e⟩ := List.getElem?_eq_some_iff.mp hx
    refine ⟨by rw [List.length_map, List.length_take]; omega, h x (List.mem_of_getElem? hx) _ ⟨_, rfl, ?_⟩⟩
    rw [List.take_succ_eq_append_getElem hi, e, List.map_append]
    rfl
  · rintro δ ts ⟨o, rfl, rfl⟩
    rw [List.length_map, List.take_length]
    exact k
theorem CmpW.rng {Eo : DO} {o : Option Sl} {rest : Dst} {P : OV → Prop} {lo c : Int} {n : Nat} (f : Nat → OV) (hn : n ≤ 1000000)
    (h : ∀ i, i < n → ∀ Q : OV → Prop, Q (f i) → Eo (some (.own (.fz (.int (lo + i * c)))) :: rest) Q) (k : P (.nl ((List.range n).map f))) : CmpW (gN 0) Eo (rng lo c n) (o :: rest) P :=
  CmpW.map (List.range n) _ f (by simpa using hn) (fun i hi Q q => h i (List.mem_range.mp hi) Q q) k
/-- one statement; what comes behind it is a letter -/
theorem sSeq_k {T U : DS} {De : DEnds} {δ : Dst} (h : ∀ N : Dst → Prop, (∀ δ', U De δ' → N δ') → T { De with nx := N } δ) : sSeq T U De δ := h _ fun _ z => z
theorem KitV.of (t1 : PySem.W.kitOne K (.type "int") (.type "int") = some true) (t2 : PySem.W.kitOne K (.type "int") (.type "bool") = some false) (t3 : PySem.W.kitOne K (.type "int") (.type "str") = some false) (t4 : PySem.W.kitOne K (.type "int") (.type "tuple") = some false) (t5 : PySem.W.kitOne K (.type "int") (.type "list") = some false) (t6 : PySem.W.kitOne K (.type "bool") (.type "int") = some true) (t7 : PySem.W.kitOne K (.type "bool") (.type "bool") = some true) (t8 : PySem.W.kitOne K (.type "bool") (.type "str") = some false) (t9 : PySem.W.kitOne K (.type "bool") (.type "tuple") = some false) (t10 : PySem.W.kitOne K (.type "bool") (.type "list") = some false) (t11 : PySem.W.kitOne K (.type "NoneType") (.type "int") = some false) (t12 : PySem.W.kitOne K (.type "NoneType") (.type "bool") = some false) (t13 : PySem.W.kitOne K (.type "NoneType") (.type "str") = some false) (t14 : PySem.W.kitOne K (.type "NoneType") (.type "tuple") = some false) (t15 : PySem.W.kitOne K (.type "NoneType") (.type "list") = some false) (t16 : PySem.W.kitOne K (.type "str") (.type "int") = some false) (t17 : PySem.W.kitOne K (.type "str") (.type "bool") = some false) (t18 : PySem.W.kitOne K (.type "str") (.type "str") = some true) (t19 : PySem.W.kitOne K (.type "str") (.type "tuple") = some false) (t20 : PySem.W.kitOne K (.type "str") (.type "list") = some false) (t21 : PySem.W.kitOne K (.type "tuple") (.type "int") = some false) (t22 : PySem.W.kitOne K (.type "tuple") (.type "bool") = some false) (t23 : PySem.W.kitOne K (.type "tuple") (.type "str") = some false) (t24 : PySem.W.kitOne K (.type "tuple") (.type "tuple") = some true) (t25 : PySem.W.kitOne K (.type "tuple") (.type "list") = some false) (t26 : PySem.W.kitOne K (.type "list") (.type "int") = some false) (t27 : PySem.W.kitOne K (.type "list") (.type "bool") = some false) (t28 : PySem.W.kitOne K (.type "list") (.type "str") = some false) (t29 : PySem.W.kitOne K (.type "list") (.type "tuple") = some false) (t30 : PySem.W.kitOne K (.type "list") (.type "list") = some true) : KitV K := by
  refine ⟨fun d hd hd2 n hn => ?_⟩
  simp only [kitNs, List.mem_cons, List.mem_nil_iff, or_false] at hn
  cases d with
  | ty m => exact absurd rfl (hd m)
  | fn m => exact absurd rfl (hd2 m)
  | int _ =>
    rcases hn with rfl | rfl | rfl | rfl | rfl
    · exact t1
    · exact t2
    · exact t3
    · exact t4
    · exact t5
  | bl _ =>
    rcases hn with rfl | rfl | rfl | rfl | rfl
    · exact t6
    · exact t7
    · exact t8
    · exact t9
    · exact t10
  | non =>
    rcases hn with rfl | rfl | rfl | rfl | rfl
    · exact t11
    · exact t12
    · exact t13
    · exact t14
    · exact t15
  | str _ =>
    rcases hn with rfl | rfl | rfl | rfl | rfl
    · exact t16
    · exact t17
    · exact t18
    · exact t19
    · exact t20
  | tup _ =>
    rcases hn with rfl | rfl | rfl | rfl | rfl
    · exact t21
    · exact t22
    · exact t23
    · exact t24
    · exact t25
  | lst _ =>
    rcases hn with rfl | rfl | rfl | rfl | rfl
    · exact t26
    · exact t27
    · exact t28
    · exact t29
    · exact t30
end
end L2

/-! ### list.extend and + of any list or tuple, whatever else its object bears -/
namespace PySem
open AutoSeq1
abbrev lwSeq (T : String) (od : Option Addr) (xs : Array Value) (k : Nat) (sl : Array (Option Value)) : Obj := { cls := .type T, dict := od, data := .seq xs k, slots := sl }
theorem lw_extend_list (l b : Addr) (xs ys : Array Value) (k m : Nat) (od : Option Addr) (sl : Array (Option Value)) (h0 : ¬(!xs.isEmpty && Builtin.List.listTooLong (xs.size + ys.size)) = true) (h1 : xs.size ≤ sizeLine) (h2 : xs.size + ys.size ≤ sizeLine + 1) :
    Meets (Builtin.«list.extend» ⟨[.ref l, .ref b], []⟩) (fun _ R s => s.heap.get? l = some (lwSeq "list" none xs k #[]) ∧ s.heap.get? b = some (lwSeq "list" od ys m sl) ∧ R (.ok (.ret .none)) { s with heap := s.heap.update l (Obj.mapSeq (· ++ ys)), toks := s.toks }) := by
  refine .of_wp fun prog w A R s hR => ?_
  obtain ⟨sh, sg, sd, st, so⟩ := s
  obtain ⟨e1, e2, fin⟩ := hR
  have i1 := idx_int
  have i2 := sub_tuple_tuple
  have i3 := sub_list_list
  have i4 := sub_tuple_list
  have i5 := sub_list_tuple
  have room : (xs ++ ys).size ≤ sizeLine + 1 := by
    rw [Array.size_append]
    exact h2
  wp_walk using (wpAny_updateSeq e1 rfl (hz := h1) (_hz' := room)), wpAny_loadPart' e1, wpAny_loadPart' e2
  exact ⟨_, rfl, fin⟩
theorem lw_extend_tuple (l b : Addr) (xs ys : Array Value) (k m : Nat) (od : Option Addr) (sl : Array (Option Value)) (h0 : ¬(!xs.isEmpty && Builtin.List.listTooLong (xs.size + ys.size)) = true) (h1 : xs.size ≤ sizeLine) (h2 : xs.size + ys.size ≤ sizeLine + 1) :
    Meets (Builtin.«list.extend» ⟨[.ref l, .ref b], []⟩) (fun _ R s => s.heap.get? l = some (lwSeq "list" none xs k #[]) ∧ s.heap.get? b = some (lwSeq "tuple" od ys m sl) ∧ R (.ok (.ret .none)) { s with heap := s.heap.update l (Obj.mapSeq (· ++ ys)), toks := s.toks }) := by
  refine .of_wp fun prog w A R s hR => ?_
  obtain ⟨sh, sg, sd, st, so⟩ := s
  obtain ⟨e1, e2, fin⟩ := hR
  have i1 := idx_int
  have i2 := sub_tuple_tuple
  have i3 := sub_list_list
  have i4 := sub_tuple_list
  have i5 := sub_list_tuple
  have room : (xs ++ ys).size ≤ sizeLine + 1 := by
    rw [Array.size_append]
    exact h2
  wp_walk using (wpAny_updateSeq e1 rfl (hz := h1) (_hz' := room)), wpAny_loadPart' e1, wpAny_loadPart' e2
  exact ⟨_, rfl, fin⟩
theorem lw_add_list (l b : Addr) (xs ys : Array Value) (k m : Nat) (od oe : Option Addr) (sl sm : Array (Option Value)) (h0 : xs.size + ys.size ≤ sizeLine) :
    Meets (Builtin.«list.__add__» ⟨[.ref l, .ref b], []⟩) (fun _ R s => s.heap.get? l = some (lwSeq "list" od xs k sl) ∧ s.heap.get? b = some (lwSeq "list" oe ys m sm) ∧ R (.ok (.ret (.ref s.heap.objs.size))) { s with heap := s.heap.push { cls := .type "list", data := .seq (xs ++ ys) }, toks := s.toks }) := by
  refine .of_wp fun prog w A R s hR => ?_
  obtain ⟨sh, sg, sd, st, so⟩ := s
  obtain ⟨e1, e2, fin⟩ := hR
  have i1 := idx_int
  have i2 := sub_tuple_tuple
  have i3 := sub_list_list
  have i4 := sub_tuple_list
  have i5 := sub_list_tuple
  wp_walk using wpAny_loadPart' e1, wpAny_loadPart' e2
  exact ⟨_, rfl, fin⟩
end PySem
namespace L2
open PySem PySem.Spec PyProof.Rows
section
variable {X : Cx} {K : PySem.W.Frag}
def rExtendS (K : PySem.W.Frag) : V → List V → Hp → VK → Prop := fun x vs H Q => ∃ l b xs zs, x = .ref l ∧ vs = [.ref b] ∧ H l = some (.lst xs) ∧ (SqL K H b zs ∨ SqT K H b zs) ∧ xs.length + zs.length ≤ sizeLine ∧ Q .non (upd H l (.lst (xs ++ zs)))
theorem mt_extendS : MtM X "list.extend" (rExtendS X.K) := by
  intro pins s σ H x vs v us Q I rx rv h
  obtain ⟨l, b, xs, zs, rfl, rfl, hH, hB, hz, q⟩ := h
  cases rx
  obtain ⟨u, rfl, ru⟩ := rv.one
  cases ru
  obtain ⟨z, its, n, r, hl, e⟩ := I.lstM hH
  have room : ∀ ys : List Value, ys.length = zs.length → its.toArray.size + ys.toArray.size ≤ sizeLine := fun ys hy => by rw [List.size_toArray, List.size_toArray]; omega
  have fits : ∀ ys : List Value, ys.length = zs.length → ¬ (!its.toArray.isEmpty && Builtin.List.listTooLong (its.toArray.size + ys.toArray.size)) = true := fun ys hy => by
    rw [notLongL (room ys hy), Bool.and_false]
    exact Bool.false_ne_true
  have fin : ∀ ys : List Value, Vals zs ys → EP X pins σ Q .none { s with heap := s.heap.update l (Obj.mapSeq (· ++ ys.toArray)), toks := s.toks } := fun ys ry =>
    ⟨.non, _, I.lset (its' := its ++ ys) hH e (by simp) (r.append ry) (by rw [List.length_append]; omega), rfl, q⟩
  rcases hB with hB | hB
  · obtain ⟨ys, ry, ⟨o, m, e2, o1, o2, o3⟩, _⟩ := I.list hB
    obtain ⟨oc, od, oda, osl⟩ := o
    dsimp only at o1 o3
    subst o1 o3
    have hy := ry.length
    exact call_meets F.slot_list_extend ⟨_, e, rfl⟩ F.entry_list_extend (F.args_list_extend_2 _ _) (lw_extend_list l b its.toArray ys.toArray n m od osl (fits ys hy.symm) (by rw [List.size_toArray]; omega) (by have := room ys hy.symm; omega)) ⟨e, e2, fin ys ry⟩
  · obtain ⟨ys, ry, ⟨o, e2, o1, m, o3⟩, _⟩ := I.tuple hB
    obtain ⟨oc, od, oda, osl⟩ := o
    dsimp only at o1 o3
    subst o1 o3
    have hy := ry.length
    exact call_meets F.slot_list_extend ⟨_, e, rfl⟩ F.entry_list_extend (F.args_list_extend_2 _ _) (lw_extend_tuple l b its.toArray ys.toArray n m od osl (fits ys hy.symm) (by rw [List.size_toArray]; omega) (by have := room ys hy.symm; omega)) ⟨e, e2, fin ys ry⟩
/-! ### list + list -/
def rCatS (K : PySem.W.Frag) : R2 := fun x y H Q => ∃ l b xs zs, x = .ref l ∧ y = .ref b ∧ SqL K H l xs ∧ SqL K H b zs ∧ xs.length + zs.length ≤ sizeLine ∧ ∀ p H', H p = none → Same H H' → H' p = some (.lst (xs ++ zs)) → Q (.ref p) H'
theorem op_catS : OpR X (binaryOp .Add) (rCatS X.K) := by
  intro pins s σ H x y v u Q I rx ry h
  obtain ⟨l, b, xs, zs, rfl, rfl, hA, hB, hz, q⟩ := h
  cases rx
  cases ry
  obtain ⟨its, r, ⟨o, n, e, o1, o2, o3⟩, _⟩ := I.list hA
  obtain ⟨its2, r2, ⟨o', n2, e2, p1, p2, p3⟩, _⟩ := I.list hB
  obtain ⟨oc, od, oda, osl⟩ := o
  obtain ⟨pc, pd, pda, psl⟩ := o'
  dsimp only at o1 o3 p1 p3
  subst o1 o3 p1 p3
  have l1 := r.length
  have l2 := r2.length
  refine PySem.concat_meets ⟨_, e, rfl⟩ ⟨_, e2, rfl⟩ PySem.noFill_list_add PySem.seq_list_add F.slot_list_add F.entry_list_add (F.args_list_add_2 _ _) (lw_add_list l b its.toArray its2.toArray n n2 od pd osl psl (by rw [List.size_toArray, List.size_toArray]; omega)) ⟨e, e2, ?_⟩
  have ea : its.toArray ++ its2.toArray = (its ++ its2).toArray := by simp
  rw [ea]
  exact ⟨.ref _, _, I.lnew (t' := s.toks) (r.append r2) (by rw [List.length_append]; omega), rfl, q _ _ I.fresh (Same.new I.fresh) upd_same⟩
def dCatL (Ea Eb : DE) : DO := fun δ P => Ea δ fun x => Eb δ fun y => match x, y with
  | .lst xs, .lst ys => xs.length + ys.length ≤ 1000000 ∧ P (.nl ((xs ++ ys).map .fz))
  | _, _ => False
theorem sO_catL {ta tb : TE} {Ea Eb : DE} (ha : SimF K ta Ea) (hb : SimF K tb Eb) : SimO K (tOp (rCatS K) ta tb) (dCatL Ea Eb) := fun F0 H0 F H σ δ P Q e w q =>
  ha F0 H0 F H σ δ _ _ e w fun x v F1 H1 w1 x1 r1 => hb F0 H0 F1 H1 σ δ _ _ (e.on x1) w1 fun y u F2 H2 w2 x2 r2 => by
    have x12 := x1.trans x2
    split at w2
    · obtain ⟨p, vs, rfl, h1, h2⟩ := r1.mono x2.ff
      obtain ⟨p', vs', rfl, h1', h2'⟩ := r2
      have l1 := h2.length
      have l2 := h2'.length
      exact ⟨p, p', vs, vs', rfl, rfl, x2.fh.seq h1, x2.fh.seq h1', sz_le (by omega), fun l H' l0 sm lq => q _ _ F2 H' w2.2 (x12.trans (Ext.grow x2.fh sm)) (RepN.list (x12.hh.free l0) (x2.fh.free l0) lq (h2.append h2'))⟩
    · exact w2.elim
/-! ### reversed of a list -/
def Itw (K : PySem.W.Frag) (a : Addr) (n : Nat) : It :=
  ⟨fun i H => ∃ xs x, SqL K H a xs ∧ xs.length = n ∧ i < n ∧ xs[n - 1 - i]? = some x, fun i H x H' => H' = H ∧ ∀ xs, SqL K H a xs → xs[n - 1 - i]? = some x, fun i _ => n ≤ i⟩
theorem turn_revL {P : Program} {w : World} {K : PySem.W.Frag} {tg : Expr} (a it : Addr) (n : Nat) : Turn P w K tg (Itw K a n) [it] it (fun i h => i ≤ n ∧ h.IsRevIter it a ((n : Int) - 1 - (i : Nat))) where
  mem := by simp
  obj := fun i h st b hb => by
    have e : b = it := by simpa using hb
    subst e
    obtain ⟨_, o, ho, _, hd⟩ := st
    exact ⟨o, ho, fun v z => by rw [hd] at z; cases z⟩
  keep := fun i h h' st k => ⟨st.1, st.2.at fun o e => k it (by simp) o e⟩
  item := by
    intro X hP hw hK hc i pins s σ H E I hf st hg
    subst hP hw hK
    obtain ⟨xs, x, hq, hn, hi, hx⟩ := hg
    obtain ⟨its, rv, p, hz⟩ := I.list hq
    obtain ⟨u, hu, ru⟩ := rv.get hx
    obtain ⟨f0, f1, f2, f3, f4, f5⟩ := hf it (by simp)
    have st0 : s.heap.IsRevIter it a (((n - 1 - i : Nat)) : Int) := by
      have e : (((n - 1 - i : Nat)) : Int) = (n : Int) - 1 - (i : Nat) := by omega
      rw [e]; exact st.2
    refine PySem.wpAny_pyNext_rev_item st0 p.isList (x := u) (by simpa using hu) fun h' st' sb => ?_
    have I1 : Inv X pins σ H { s with heap := h', toks := s.toks } := I.turned (t' := s.toks) (fun b o hb e => (sb.2 b hb).trans e) f0 f1 f3 f4 f5
    have st1 : h'.IsRevIter it a ((n : Int) - 1 - ((i + 1 : Nat) : Int)) := by
      have e : (n : Int) - 1 - ((i + 1 : Nat) : Int) = (((n - 1 - i : Nat)) : Int) - 1 := by omega
      rw [e]; exact st'
    obtain ⟨o, ho, hc', hd'⟩ := id st1
    exact ⟨u, rfl, go_of (s := { s with heap := h', toks := s.toks }) (n := "list_reverseiterator") ho hc' hd' (by decide) ⟨x, H, I1, ru, ⟨rfl, fun ys hy => by rw [I.list_inj hy hq]; exact hx⟩, ⟨by omega, st1⟩, fun b hb => (hf b hb).1⟩⟩
  done := by
    intro X hP hw hK hc i pins s σ H E I hf st hg
    subst hP hw hK
    obtain ⟨f0, f1, f2, f3, f4, f5⟩ := hf it (by simp)
    have st0 : s.heap.IsRevIter it a (-1) := by
      have h1 := st.1
      have h2 : n ≤ i := hg
      have e : (-1 : Int) = (n : Int) - 1 - (i : Nat) := by omega
      rw [e]; exact st.2
    exact PySem.wpAny_pyNext_rev_end (I.ok.hd hc) st0 fun h' eb => ⟨rfl, I.turned (t' := s.toks) (fun b o hb e => eb b o hb e) f0 f1 f3 f4 f5⟩
  self := fun _ _ _ _ _ st h => PySem.wpAny_pyIter_revIter st.2 h
def iRevL (K : PySem.W.Frag) (ta : TA) : TI := fun σ H R => ta σ H fun vs H1 => ∃ a xs, vs = [.ref a] ∧ SqL K H1 a xs ∧ R (Itw K a xs.length) H1
theorem pi_reversedL {tg l : Expr} {ta : TA} {p pos : Pos} (hg : Gl X "reversed") (hm : X.mg "reversed" = none) (ha : PA X [l] ta) (hs : starEach [l] X.env = [(false, eval l X.env)] := by rfl) : PI X tg (.Call (.Name "reversed" p) [l] [] pos) (iRevL X.K ta) := by
  intro pins s σ H R I h
  refine Call_ (ld_blt I hg hm PyProof.Rows.boot_reversed (PyProof.Rows.callWith_type1 (thn (ha pos pins s σ H _ I h) fun us s1 ⟨vs, H1, I1, r1, q1⟩ => ?_) hs rfl))
  obtain ⟨a, xs, e, hq, q⟩ := q1
  subst e
  obtain ⟨u, rfl, ru⟩ := vals1 r1
  cases ru
  obtain ⟨its, rv, pt, hz⟩ := I1.list hq
  have hl := rv.length
  refine PySem.call_reversed_list (items := its.toArray) pt.isList ?_
  have e0 : (s1.heap.push (revObj a ((its.toArray.size : Int) - 1))).IsRevIter s1.heap.objs.size a ((xs.length : Int) - 1 - ((0 : Nat) : Int)) := by
    have e : (xs.length : Int) - 1 - ((0 : Nat) : Int) = (its.toArray.size : Int) - 1 := by rw [List.size_toArray, hl]; omega
    rw [e]
    exact ⟨_, Heap.get?_push_size _ rfl, rfl, rfl⟩
  refine PySem.wpAny_pyIter_revIter e0 ?_
  refine ⟨s1.heap.objs.size, [s1.heap.objs.size], _, _, H1, rfl, I1.kept (t' := s1.toks) fun b o e => Heap.get?_push_of_some _ e, turn_revL a _ xs.length, ⟨Nat.zero_le _, e0⟩, fun b hb => ?_, q⟩
  have e : b = s1.heap.objs.size := by simpa using hb
  subst e
  exact I1.fpOk (Nat.le_refl _) (I1.hok.fresh (Nat.le_refl _))
def dRevL (As : DA) : DA := fun δ P => As δ fun ds => match ds with
  | [.lst xs] => P xs.reverse
  | _ => False
theorem sI_revL {a : TA} {As : DA} (h : SimAF K a As) : SimI K (iRevL K a) (dRevL As) := fun F0 H0 F H σ δ P R e w q => h F0 H0 F H σ δ _ _ e w fun ds vs F' H' p x r => by
  try dsimp only at p
  split at p
  · obtain ⟨v, rfl, a, us, rfl, h1, h2⟩ := reps1 r
    have hl := h2.length
    refine ⟨a, us, rfl, x.fh.seq h1, q _ _ F' H' p x fun F1 H1 s1 s2 => ?_⟩
    have hq := (s1.trans s2).seq h1
    rw [List.length_reverse]
    refine ⟨fun i hi => ⟨us, us[us.length - 1 - i]'(by omega), hq, rfl, by omega, List.getElem?_eq_getElem (by omega)⟩, by show us.length ≤ _; omega, fun i x H2 hi y => ?_⟩
    obtain ⟨rfl, y⟩ := y
    obtain ⟨d, hd, rd⟩ := h2.get' (y us hq)
    refine ⟨d, F1, ?_, Ext.refl s2, rd.mono s1⟩
    rw [List.getElem?_reverse hi, hl]; exact hd
  · exact p.elim
/-! ### a name's own list is frozen -/
theorem ER.frz {F0 H0 F H : Hp} {σ : St} {δ : Dst} {A : Nat → List Addr} (e : ER K F0 H0 F H σ δ A) (i : Nat) {t : OV} (hi : δ[i]? = some (some (.own t))) : ∃ F', EnvR K F0 H0 F' H σ (δ.set i (some (.own (.fz t.val)))) := by
  obtain ⟨v, hv, hr⟩ := e.own i t hi
  have hlt := (List.getElem?_eq_some_iff.mp hi).1
  have sm : Same F fun a => if a ∈ A i then H a else F a := fun b o z => by
    have hb : b ∉ A i := fun y => by rw [(e.new i b y).1] at z; cases z
    dsimp only
    rw [if_neg hb]; exact z
  refine ⟨fun a => if a ∈ A i then H a else F a, fun j => if j = i then [] else A j, by simp [e.len], ⟨e.ext.ff.trans sm, e.ext.hh, fun b o z => ?_, fun b o z1 z2 z3 => ?_⟩, fun j u hj => ?_, fun j d hj => ?_, fun j => ?_, fun j k a hjk h1 h2 => ?_, fun j a ha => ?_⟩
  · try dsimp only at z
    split at z
    · exact z
    · exact e.ext.fh _ _ z
  · have hb : b ∉ A i := fun y => by rw [(e.new i b y).2.1] at z2; cases z2
    rw [if_neg hb]; exact e.ext.no b o z1 z2 z3
  · try dsimp only
    by_cases z : j = i
    · subst z
      rw [if_pos rfl]
      rw [List.getElem?_set_self hlt] at hj
      cases hj
      exact ⟨v, hv, rfl, hr.rep sm fun a ha xs q => by rw [if_pos ha]; exact q⟩
    · rw [if_neg z]
      rw [List.getElem?_set_ne (Ne.symm z)] at hj
      obtain ⟨v', h1, h2⟩ := e.own j u hj
      exact ⟨v', h1, h2.frame sm fun a _ xs q => q⟩
  · by_cases z : j = i
    · subst z
      rw [List.getElem?_set_self hlt] at hj
      cases hj
    · rw [List.getElem?_set_ne (Ne.symm z)] at hj
      exact e.bw j d hj
  · try dsimp only
    split
    · exact List.nodup_nil
    · exact e.nod j
  · try dsimp only at h1 h2
    split at h1
    · cases h1
    · split at h2
      · cases h2
      · exact e.dis j k a hjk h1 h2
  · try dsimp only at ha
    split at ha
    · cases ha
    · rename_i z
      obtain ⟨h1, h2, h3⟩ := e.new j a ha
      refine ⟨?_, h2, h3⟩
      rw [if_neg fun y => e.dis j i a z ha y]; exact h1
def sFrz (i : Nat) (T : DS) : DS := fun De δ => match δ[i]? with
  | some (some (.own t)) => T De (δ.set i (some (.own (.fz t.val))))
  | _ => False
theorem sS_frz {t : TS} {T : DS} (i : Nat) (h : SimS K t T) : SimS K t (sFrz i T) := fun F0 H0 F H σ δ De En ⟨A, e⟩ l w => by
  unfold sFrz at w
  split at w
  · rename_i u hu
    obtain ⟨F', e'⟩ := e.frz i hu
    exact h F0 H0 F' H σ _ De En e' l w
  · exact w.elim
/-! ### x[k].append(e), x.extend(e) -/
/-- x[k].append(e): x a name's own list of lists of its own -/
def sApp2 (i : Nat) (Ei : DE) (E : DO) : DS := fun De δ => match δ[i]? with
  | some (some (.own (.nl ts))) => Ei δ fun k => match k with
    | .int k => 0 ≤ k ∧ ∃ us, ts[k.toNat]? = some (.nl us) ∧ us.length < 1000000 ∧ E δ fun r => De.nx (δ.set i (some (.own (.nl (ts.set k.toNat (.nl (us ++ [r])))))))
    | _ => False
  | _ => False
theorem set_self_of {α : Type} {xs : List α} {i : Nat} {v : α} (h : xs[i]? = some v) : xs.set i v = xs := by
  obtain ⟨hi, e⟩ := List.getElem?_eq_some_iff.mp h
  rw [← e]; exact List.set_getElem_self hi
theorem sS_app2 {i : Nat} {ti te : TE} {Ei : DE} {Eo : DO} (hi : SimB K ti Ei) (h : SimO K te Eo) : SimS K (tDrop (tBM K "list" rAppend (tOp (rIxL K) (tVar i) ti) (tCons te tNil))) (sApp2 i Ei Eo) := fun F0 H0 F H σ δ De En e l w => by
  obtain ⟨A, e⟩ := e
  unfold sApp2 at w
  split at w
  · rename_i ts hs
    obtain ⟨v, hv, a, vs, B, rfl, eA, ha, hB⟩ := e.own i _ hs
    refine ⟨_, hv, ?_⟩
    refine hi F0 H0 F H σ δ _ _ ⟨A, e⟩ w fun k kv F1 H1 p x1 r1 => ?_
    split at p
    · rename_i k
      obtain ⟨k0, us, hk, hus, p⟩ := p
      have e1 := e.on x1
      have ha1 := x1.hh _ _ ha
      have hB1 : RepOs K F1 H1 ts vs B := hB.frame x1.ff fun b _ xs z => x1.hh _ _ z
      obtain ⟨v0, A1, B0, A2, f1, rfl, f3, f4⟩ := hB1.focus hk
      obtain ⟨c, ws, B1, rfl, rfl, hc, hws⟩ := f3
      have at1 : atI vs k = some (.ref c) := by
        have := atI_nat f1
        rwa [show ((k.toNat : Nat) : Int) = k by omega] at this
      refine ⟨a, vs, k, .ref c, rfl, r1, SqL.of ha1, at1, .inl ⟨rfl, _, SqL.of hc⟩, ?_⟩
      refine h F0 H0 F1 H1 σ δ _ _ ⟨A, e1⟩ p fun r u F2 H2 p2 x2 n => ?_
      obtain ⟨C, c1, c2, c3⟩ := n
      have e2 := e1.on x2
      have hl := hws.length
      refine ⟨c, ws, u, rfl, rfl, x2.hh _ _ hc, sz_lt (by omega), ?_⟩
      have hnd := e.nod i
      rw [eA] at hnd
      have hA : A i = a :: (A1 ++ (c :: B1 ++ A2)) := eA
      obtain ⟨n1, n2⟩ := List.nodup_cons.mp hnd
      obtain ⟨m1, m2, m3⟩ := List.nodup_append.mp n2
      obtain ⟨q1, q2, q3⟩ := List.nodup_append.mp m2
      obtain ⟨s1, s2⟩ := List.nodup_cons.mp q1
      have hCA : ∀ j b, b ∈ C → b ∉ A j := fun j b hb z => by
        obtain ⟨_, _, xs, q⟩ := e1.new j b z
        rw [(c3 b hb).1] at q; cases q
      have hcA : c ∈ A i := by rw [hA]; simp
      have hac : a ≠ c := fun z => n1 (by rw [z]; simp)
      have hcC : c ∉ C := fun z => hCA i c z hcA
      have off : ∀ b ∈ A1 ++ A2, b ≠ c := fun b hb z => by
        subst z
        rcases List.mem_append.mp hb with y | y
        · exact m3 b y b (by simp) rfl
        · exact q3 b (by simp) b y rfl
      have ina : ∀ b, b ∈ a :: (A1 ++ (c :: (B1 ++ C) ++ A2)) → b ∈ A i ∨ b ∈ C := fun b hb => by
        rw [hA]
        simp only [List.mem_cons, List.mem_append, List.cons_append] at hb ⊢
        rcases hb with z | z | z | (z | z) | z <;> simp [z]
      have f4' := f4 F2 (upd H2 c (.lst (ws ++ [u]))) (.nl (us ++ [r])) (.ref c) (c :: (B1 ++ C)) x2.ff (fun b hb xs z => upd_off (off b hb) (x2.hh _ _ z))
        ⟨c, ws ++ [u], B1 ++ C, rfl, rfl, upd_same, RepOs.append (hws.frame x2.ff fun b hb xs z => upd_off (fun y => s1 (by rw [← y]; exact hb)) (x2.hh _ _ z)) (RepOs.one (c1.frame (Same.refl _) fun b hb xs z => upd_off (fun y => hcC (by rw [← y]; exact hb)) z))⟩
      rw [set_self_of f1] at f4'
      refine l.nx F2 _ σ _ (e2.change i hv (t' := .nl (ts.set k.toNat (.nl (us ++ [r])))) (B := a :: (A1 ++ (c :: (B1 ++ C) ++ A2))) ⟨a, vs, _, rfl, rfl, upd_off hac (x2.hh _ _ ha1), f4'⟩ ?_ ?_ ?_ ?_) p2
      · have dC : ∀ x ∈ C, ∀ y ∈ A i, x ≠ y := fun x hx y hy z => hCA i x hx (by rw [z]; exact hy)
        rw [hA] at dC
        simp only [List.cons_append, List.nodup_cons, List.nodup_append, List.mem_cons, List.mem_append, not_or, ne_eq] at hnd n1 n2 m1 m2 m3 q1 q2 q3 s1 s2 ⊢
        refine ⟨⟨n1.1, n1.2.1, ⟨n1.2.2.1, fun z => dC a z a (by simp) rfl⟩, n1.2.2.2⟩, m1, ⟨⟨⟨s1, hcC⟩, fun z => ?_⟩, ⟨s2, c2, fun x hx y hy z => dC y hy x (by simp [hx]) z.symm⟩, q2, fun x hx y hy z => ?_⟩, fun x hx y hy z => ?_⟩
        · exact q3 c (by simp) c z rfl
        · rcases hx with hx | hx
          · exact q3 x (by simp [hx]) y hy z
          · exact dC x hx y (by simp [hy]) z
        · rcases hy with hy | (hy | hy) | hy
          · exact m3 x hx y (by simp [hy]) z
          · exact m3 x hx y (by simp [hy]) z
          · exact dC y hy x (by simp [hx]) z.symm
          · exact m3 x hx y (by simp [hy]) z
      · intro b hb
        rcases ina b hb with z | z
        · exact ⟨(e2.new i b z).1, (e2.new i b z).2.1⟩
        · exact ⟨(c3 b z).2, e1.ext.hh.free (c3 b z).1⟩
      · intro j hj b hb z
        rcases ina b hb with y | y
        · exact e.dis j i b hj z y
        · exact hCA j b y z
      · intro b o hb q
        exact upd_off (fun z => hb (by rw [z]; exact hcA)) q
    · exact p.elim
  · exact w.elim
/-- x.extend(e) -/
def sExt (i : Nat) (E : DE) : DS := fun De δ => match δ[i]? with
  | some (some (.own (.nl ts))) => E δ fun d => match d with
    | .lst ds => ts.length + ds.length ≤ 1000000 ∧ De.nx (δ.set i (some (.own (.nl (ts ++ ds.map .fz)))))
    | .tup ds => ts.length + ds.length ≤ 1000000 ∧ De.nx (δ.set i (some (.own (.nl (ts ++ ds.map .fz)))))
    | _ => False
  | _ => False
theorem sS_ext {i : Nat} {te : TE} {E : DE} (h : SimF K te E) : SimS K (tDrop (tBM K "list" (rExtendS K) (tVar i) (tCons te tNil))) (sExt i E) := fun F0 H0 F H σ δ De En e l w => by
  obtain ⟨A, e⟩ := e
  unfold sExt at w
  split at w
  · rename_i ts hs
    obtain ⟨v, hv, a, vs, B, rfl, eA, ha, hB⟩ := e.own i _ hs
    refine ⟨_, hv, .inl ⟨rfl, _, SqL.of ha⟩, ?_⟩
    refine h F0 H0 F H σ δ _ _ ⟨A, e⟩ w fun d u F1 H1 p x1 r1 => ?_
    have e1 := e.on x1
    have hl := hB.length
    have hB1 : RepOs K F1 H1 ts vs B := hB.frame x1.ff fun b _ xs z => x1.hh _ _ z
    have hnd := e.nod i
    rw [eA] at hnd
    obtain ⟨n1, n2⟩ := List.nodup_cons.mp hnd
    have fin : ∀ (ds : List D) (us : List V), Reps K F1 ds us → De.nx (δ.set i (some (.own (.nl (ts ++ ds.map .fz))))) → En.nx σ (upd H1 a (.lst (vs ++ us))) := fun ds us hu p => by
      refine l.nx F1 _ σ _ (e1.change i hv (t' := .nl (ts ++ ds.map .fz)) (B := a :: (B ++ [])) ⟨a, vs ++ us, B ++ [], rfl, rfl, upd_same, ?_⟩ ?_ ?_ ?_ ?_) p
      · exact RepOs.append (hB1.frame (Same.refl _) fun b hb xs z => upd_off (fun q => n1 (by rw [← q]; exact hb)) z) (RepOs.fzs hu)
      · rw [List.append_nil]; exact hnd
      · intro b hb
        rw [List.append_nil, ← eA] at hb
        exact ⟨(e1.new i b hb).1, (e1.new i b hb).2.1⟩
      · intro j hj b hb z
        rw [List.append_nil, ← eA] at hb
        exact e.dis j i b hj z hb
      · intro b o hb q
        exact upd_off (fun z => hb (by rw [eA, z]; exact List.mem_cons_self)) q
    try dsimp only at p
    split at p
    · obtain ⟨c, us, rfl, q1, q2⟩ := r1
      have := q2.length
      exact ⟨a, c, vs, us, rfl, rfl, x1.hh _ _ ha, .inl (x1.fh.seq q1), sz_le (by omega), fin _ us q2 p.2⟩
    · obtain ⟨c, us, rfl, q1, q2⟩ := r1
      have := q2.length
      exact ⟨a, c, vs, us, rfl, rfl, x1.hh _ _ ha, .inr (x1.fh.seqT q1), sz_le (by omega), fin _ us q2 p.2⟩
    · exact p.elim
  · exact w.elim
/-! ### tuples of ints by their order -/
def ltTD : DR2 := fun x y P => ∃ ns ms : List Int, x = .tup (ns.map .int) ∧ y = .tup (ms.map .int) ∧ P (.bl (HT.lexLt ns ms))
theorem oS_ltT : OpS K (rLtT K) ltTD := fun F H x y v u P Q s rx ry w q => by
  obtain ⟨ns, ms, rfl, rfl, w⟩ := w
  obtain ⟨a, vs, rfl, h1, h2⟩ := rx
  obtain ⟨b, us, rfl, h3, h4⟩ := ry
  rw [reps_ints] at h2 h4
  subst h2 h4
  exact ⟨a, b, ns, ms, rfl, rfl, h1, h3, q _ _ F H w (Ext.refl s) rfl⟩
end
end L2

namespace L2
open PySem PySem.Spec PyProof.Rows
/-! ### more words: tuples laid together, nested ==, all, any -/
def catTD : DR2 := fun x y P => match x, y with
  | .tup xs, .tup ys => xs ≠ [] ∧ ys ≠ [] ∧ xs.length + ys.length ≤ 1000000 ∧ P (.tup (xs ++ ys))
  | _, _ => False
/-- no truths in it, no deeper than so -/
def D.fit : Nat → D → Bool
  | _, .int _ => true
  | _, .str _ => true
  | _, .non => true
  | _, .bl _ => false
  | _, .ty _ => false
  | _, .fn _ => false
  | 0, .tup _ => false
  | 0, .lst _ => false
  | n + 1, .tup ds => ds.all (D.fit n)
  | n + 1, .lst ds => ds.all (D.fit n)
mutual
def D.eqb : D → D → Bool
  | .int i, .int j => decide (i = j)
  | .str x, .str y => decide (x = y)
  | .non, .non => true
  | .tup xs, .tup ys => D.eqbs xs ys
  | .lst xs, .lst ys => D.eqbs xs ys
  | _, _ => false
def D.eqbs : List D → List D → Bool
  | [], [] => true
  | x :: xs, y :: ys => D.eqb x y && D.eqbs xs ys
  | _, _ => false
end
mutual
theorem D.eqb_refl : ∀ {d : D} {n : Nat}, d.fit n = true → D.eqb d d = true
  | .int _, _, _ => by simp [D.eqb]
  | .str _, _, _ => by simp [D.eqb]
  | .non, _, _ => by simp [D.eqb]
  | .bl _, _, h => by simp [D.fit] at h
  | .ty _, _, h => by simp [D.fit] at h
  | .fn _, _, h => by simp [D.fit] at h
  | .tup ds, 0, h => by simp [D.fit] at h
  | .lst ds, 0, h => by simp [D.fit] at h
  | .tup ds, n + 1, h => by
    simp only [D.eqb]
    exact D.eqbs_refl (n := n) (by simpa only [D.fit] using h)
  | .lst ds, n + 1, h => by
    simp only [D.eqb]
    exact D.eqbs_refl (n := n) (by simpa only [D.fit] using h)
theorem D.eqbs_refl : ∀ {ds : List D} {n : Nat}, ds.all (D.fit n) = true → D.eqbs ds ds = true
  | [], _, _ => by simp [D.eqbs]
  | d :: ds, n, h => by
    rw [List.all_cons, Bool.and_eq_true] at h
    simp only [D.eqbs, D.eqb_refl h.1, D.eqbs_refl h.2, Bool.and_self]
end
def D.same : D → D → Bool
  | .tup _, .tup _ => true
  | .lst _, .lst _ => true
  | _, _ => false
def eqND : DR2 := fun x y P => x.same y = true ∧ x.fit 4 = true ∧ y.fit 4 = true ∧ P (.bl (D.eqb x y))
def neND : DR2 := fun x y P => x.same y = true ∧ x.fit 4 = true ∧ y.fit 4 = true ∧ P (.bl (!D.eqb x y))
def allD : List D → (D → Prop) → Prop := fun ds P => match ds with
  | [.lst xs] => ∃ bs : List Bool, xs = bs.map D.bl ∧ P (.bl (bs.all id))
  | _ => False
def anyD : List D → (D → Prop) → Prop := fun ds P => match ds with
  | [.lst xs] => ∃ bs : List Bool, xs = bs.map D.bl ∧ P (.bl (bs.any id))
  | _ => False
def maxLD : List D → (D → Prop) → Prop := fun ds P => match ds with
  | [.lst xs] => ∃ ns : List Int, xs = ns.map D.int ∧ 0 < ns.length ∧ ∀ M : Int, M ∈ ns → (∀ a ∈ ns, a ≤ M) → P (.int M)
  | _ => False
def dTruth (E : DE) : DT := fun δ P => E δ fun d => match d with
  | .bl b => P b
  | .int i => P (decide (i ≠ 0))
  | .lst xs => P (!xs.isEmpty)
  | .tup xs => P (!xs.isEmpty)
  | .non => P false
  | _ => False
def CmpIfW (G : D → Dst → (Dst → Prop) → Prop) (C : DT) (Eo : DO) (ds : List D) (δ : Dst) (P : OV → Prop) : Prop := ∃ W : Nat → Dst → List OV → Prop, W 0 δ [] ∧
  (∀ i d δ ts, ds[i]? = some d → W i δ ts → ts.length < 1000000 ∧ G d δ fun δ' => C δ' fun b => if b = true then Eo δ' fun r => W (i + 1) δ' (ts ++ [r]) else W (i + 1) δ' ts) ∧ ∀ δ ts, W ds.length δ ts → P (.nl ts)
def dCompIf (I : DA) (ix : List (Option Nat)) (G : D → Dst → (Dst → Prop) → Prop) (C : DT) (Eo : DO) : DO := fun δ P => I δ fun ds => CmpIfW G C Eo ds (blkD ix δ) P
/-- x[k][m] = e, x a name's own list of lists of its own -/
def sPut2 (i : Nat) (Ek Em E : DE) : DS := fun De δ => E δ fun d => match δ[i]? with
  | some (some (.own (.nl ts))) => Ek δ fun k => match k with
    | .int k => ∃ j us, ixN ts.length k = some j ∧ ts[j]? = some (.nl us) ∧ Em δ fun m => match m with
      | .int m => ∃ l, ixN us.length m = some l ∧ De.nx (δ.set i (some (.own (.nl (ts.set j (.nl (us.set l (.fz d))))))))
      | _ => False
    | _ => False
  | _ => False
/-- every c-th thing -/
def stepG {α : Type} (xs : List α) (c : Int) : List α := (sliceRange 0 xs.length c).filterMap (xs[·]?)
/-- x[::c] -/
def dSlSt (Ea Ec : DE) : DO := fun δ P => Ea δ fun x => Ec δ fun c => match x, c with
  | .lst xs, .int c => 0 < c ∧ P (.nl ((stepG xs c).map .fz))
  | _, _ => False
def dCallD (n : Nat) (sp : DSp) (dds : List D) (As : DA) : DO := fun δ P => As δ fun ds => (ds ++ dds).length = n ∧ sp (ds ++ dds) P
def dCallDB (n : Nat) (sp : DSp) (dds : List D) (As : DA) : DO := fun δ P => As δ fun ds => (ds ++ dds).length = n ∧ sp (ds ++ dds) fun r => r.lf = true ∧ P r
end L2

namespace L2
open PySem PySem.Spec PyProof.Rows
section
variable {K : PySem.W.Frag} {X : Cx}
/-! ### tuples laid together -/
theorem sF_catT {ta tb : TE} {Ea Eb : DE} (ha : SimF K ta Ea) (hb : SimF K tb Eb) : SimF K (tOp (rCatTS K) ta tb) (dOp catTD Ea Eb) := fun F0 H0 F H σ δ P Q e w q =>
  ha F0 H0 F H σ δ _ _ e w fun x v F1 H1 w1 x1 r1 => hb F0 H0 F1 H1 σ δ _ _ (e.on x1) w1 fun y u F2 H2 w2 x2 r2 => by
    have x12 := x1.trans x2
    unfold catTD at w2
    split at w2
    · obtain ⟨p, vs, rfl, h1, h2⟩ := r1.mono x2.ff
      obtain ⟨p', vs', rfl, h1', h2'⟩ := r2
      obtain ⟨n1, n2, hz, w2⟩ := w2
      have l1 := h2.length
      have l2 := h2'.length
      have m1 : vs ≠ [] := fun z => n1 (List.length_eq_zero_iff.mp (by rw [l1, z]; rfl))
      have m2 : vs' ≠ [] := fun z => n2 (List.length_eq_zero_iff.mp (by rw [l2, z]; rfl))
      exact ⟨p, p', vs, vs', rfl, rfl, x2.fh.seqT h1, x2.fh.seqT h1', m1, m2, sz_le (by omega), fun l H' l0 sm lq => q _ _ _ H' w2 (x12.trans (Ext.new x2.fh l0 sm lq)) ⟨l, vs ++ vs', rfl, .inl (.inl upd_same), (h2.append h2').mono (Same.upd' (x2.fh.free l0))⟩⟩
    · exact w2.elim
/-! ### == of nested things -/
def eD (xs ys : List D) (j : Nat) : Bool := match xs[j]?, ys[j]? with
  | some x, some y => D.eqb x y
  | _, _ => true
theorem eqbs_rng : ∀ (xs ys : List D), D.eqbs xs ys = ((List.range (min xs.length ys.length)).all (eD xs ys) && xs.length == ys.length)
  | [], [] => by simp [D.eqbs]
  | [], _ :: _ => by simp [D.eqbs]
  | _ :: _, [] => by simp [D.eqbs]
  | x :: xs, y :: ys => by
    have ih := eqbs_rng xs ys
    simp only [D.eqbs, List.length_cons]
    rw [show min (xs.length + 1) (ys.length + 1) = min xs.length ys.length + 1 by omega, List.range_succ_eq_map, List.all_cons, List.all_map, ih]
    have e0 : eD (x :: xs) (y :: ys) 0 = D.eqb x y := rfl
    have e1 : (eD (x :: xs) (y :: ys) ∘ Nat.succ) = eD xs ys := by
      funext j
      simp [eD, Function.comp]
    rw [e0, e1, Bool.and_assoc]
    congr 2
    simp
/-- one value is worth one thing -/
theorem rep_one {pins : List (Addr × Obj)} {σ : St} {H : Hp} {s : Shared} (I : Inv X pins σ H s) : ∀ (n : Nat) {x y : D} {v : V}, x.fit n = true → y.fit n = true → Rep X.K H x v → Rep X.K H y v → D.eqb x y = true := by
  have items : ∀ (n : Nat), (∀ {x y : D} {v : V}, x.fit n = true → y.fit n = true → Rep X.K H x v → Rep X.K H y v → D.eqb x y = true) → ∀ {xs ys : List D} {vs : List V}, xs.all (D.fit n) = true → ys.all (D.fit n) = true → Reps X.K H xs vs → Reps X.K H ys vs → D.eqbs xs ys = true := by
    intro n ih xs
    induction xs with
    | nil =>
      intro ys vs _ _ r1 r2
      cases r1
      cases ys with
      | nil => rfl
      | cons y ys => obtain ⟨v, r, e, _⟩ := r2; cases e
    | cons x xs ihx =>
      intro ys vs f1 f2 r1 r2
      obtain ⟨v, r, rfl, h1, h2⟩ := r1
      cases ys with
      | nil => cases r2
      | cons y ys =>
        obtain ⟨v', r', e, h3, h4⟩ := r2
        cases e
        rw [List.all_cons, Bool.and_eq_true] at f1 f2
        simp only [D.eqbs, ih f1.1 f2.1 h1 h3, ihx f1.2 f2.2 h2 h4, Bool.and_self]
  have tl : ∀ {a : Addr} {xs ys : List V}, SqT X.K H a xs → SqL X.K H a ys → False := fun {a xs ys} h1 h2 => by
    obtain ⟨_, _, p1, _⟩ := I.tuple h1
    obtain ⟨_, _, p2, _⟩ := I.list h2
    obtain ⟨o, e1, c1, _⟩ := p1
    obtain ⟨o', e2, c2, _⟩ := p2.isList
    rw [e1] at e2; cases e2
    rw [c1] at c2; simp at c2
  intro n
  induction n with
  | zero =>
    intro x y v fx fy rx ry
    cases x <;> cases y <;> simp [D.fit] at fx fy <;> simp [D.eqb]
    all_goals first
      | (have z := (show v = _ from rx).symm.trans (show v = _ from ry); first | (injection z) | (cases z))
      | skip
  | succ n ih =>
    intro x y v fx fy rx ry
    cases x <;> cases y
    case tup.tup xs ys =>
      obtain ⟨a, vs, rfl, h1, h2⟩ := rx
      obtain ⟨b, us, e, h3, h4⟩ := ry
      cases e
      cases I.tuple_inj h1 h3
      simp only [D.eqb]
      exact items n ih (by simpa only [D.fit] using fx) (by simpa only [D.fit] using fy) h2 h4
    case lst.lst xs ys =>
      obtain ⟨a, vs, rfl, h1, h2⟩ := rx
      obtain ⟨b, us, e, h3, h4⟩ := ry
      cases e
      cases I.list_inj h1 h3
      simp only [D.eqb]
      exact items n ih (by simpa only [D.fit] using fx) (by simpa only [D.fit] using fy) h2 h4
    case tup.lst xs ys =>
      obtain ⟨a, vs, rfl, h1, h2⟩ := rx
      obtain ⟨b, us, e, h3, h4⟩ := ry
      cases e
      exact (tl h1 h3).elim
    case lst.tup xs ys =>
      obtain ⟨a, vs, rfl, h1, h2⟩ := rx
      obtain ⟨b, us, e, h3, h4⟩ := ry
      cases e
      exact (tl h3 h1).elim
    all_goals first
      | (simp [D.fit] at fx; done)
      | (simp [D.fit] at fy; done)
      | (have z := (show v = _ from rx).symm.trans (show v = _ from ry); first | (cases z; done) | (injection z with z; simp [D.eqb, z]; done) | (simp [D.eqb]; done))
      | (obtain ⟨a, vs, e, _⟩ := rx; have z := e.symm.trans (show v = _ from ry); cases z; done)
      | (obtain ⟨a, vs, e, _⟩ := ry; have z := (show v = _ from rx).symm.trans e; cases z; done)
/-- what == tells of two things -/
theorem eqAt_D {pins : List (Addr × Obj)} {σ : St} {H : Hp} {s : Shared} (I : Inv X pins σ H s) : ∀ (n : Nat) {A : Around} {x y : D} {v u : V} {a b : Value}, A.units + n < cLine → x.fit n = true → y.fit n = true → Rep X.K H x v → Rep X.K H y u → RelV v a → RelV u b → SeqAt.EqAt A s a b (D.eqb x y) := by
  intro n
  induction n with
  | zero =>
    intro A x y v u a b hu fx fy rx ry ra rb
    have key : flatV v = true ∧ flatV u = true ∧ eqV v u = D.eqb x y := by
      cases x <;> cases y <;> simp [D.fit] at fx fy
      all_goals
        have e1 : v = _ := rx
        have e2 : u = _ := ry
        subst e1 e2
        refine ⟨rfl, rfl, ?_⟩
        first | rfl | (simp [eqV, D.eqb]; done) | (simp only [eqV, D.eqb]; exact Bool.beq_eq_decide_eq _ _)
    rw [← key.2.2]
    exact eqAt_V ra rb key.1 key.2.1
  | succ n ih =>
    intro A x y v u a b hu fx fy rx ry ra rb
    have hu0 : A.units < cLine := by omega
    have hu1 : A.in1.units + n < cLine := by rw [show A.in1.units = A.units + 1 from rfl]; omega
    cases x <;> cases y
    case tup.tup xs ys =>
      obtain ⟨p, vs, rfl, h1, h2⟩ := rx
      obtain ⟨q, us, rfl, h3, h4⟩ := ry
      cases ra
      cases rb
      by_cases hpq : p = q
      · subst hpq
        have := rep_one I (n + 1) fx fy (v := .ref p) ⟨p, vs, rfl, h1, h2⟩ ⟨p, us, rfl, h3, h4⟩
        rw [this]
        exact SeqAt.EqAt.same _
      · obtain ⟨its, w1, p1, _⟩ := I.tuple h1
        obtain ⟨its2, w2, p2, _⟩ := I.tuple h3
        have l1 := h2.length
        have l2 := h4.length
        have m1 := w1.length
        have m2 := w2.length
        simp only [D.fit] at fx fy
        have := SeqAt.RcAt.tuples (e := eD xs ys) p1 p2 hu0 (fun j j1 j2 => by
          obtain ⟨z1, e1, r1⟩ := w1.at j1
          obtain ⟨z2, e2, r2⟩ := w2.at j2
          obtain ⟨d1, g1, k1⟩ := h2.get' e1
          obtain ⟨d2, g2, k2⟩ := h4.get' e2
          have e : eD xs ys j = D.eqb d1 d2 := by unfold eD; rw [g1, g2]
          rw [e]
          exact ih hu1 (List.all_eq_true.mp fx d1 (List.mem_of_getElem? g1)) (List.all_eq_true.mp fy d2 (List.mem_of_getElem? g2)) k1 k2 r1 r2)
        rw [show its.toArray.size = xs.length by rw [List.size_toArray]; omega, show its2.toArray.size = ys.length by rw [List.size_toArray]; omega, ← eqbs_rng] at this
        simp only [D.eqb]
        exact SeqAt.EqAt.of_refs hpq this
    case lst.lst xs ys =>
      obtain ⟨p, vs, rfl, h1, h2⟩ := rx
      obtain ⟨q, us, rfl, h3, h4⟩ := ry
      cases ra
      cases rb
      by_cases hpq : p = q
      · subst hpq
        have := rep_one I (n + 1) fx fy (v := .ref p) ⟨p, vs, rfl, h1, h2⟩ ⟨p, us, rfl, h3, h4⟩
        rw [this]
        exact SeqAt.EqAt.same _
      · obtain ⟨its, w1, p1, _⟩ := I.list h1
        obtain ⟨its2, w2, p2, _⟩ := I.list h3
        have l1 := h2.length
        have l2 := h4.length
        have m1 := w1.length
        have m2 := w2.length
        simp only [D.fit] at fx fy
        simp only [D.eqb]
        refine SeqAt.EqAt.of_refs hpq ?_
        by_cases hl : xs.length = ys.length
        · have := SeqAt.RcAt.lists (e := eD xs ys) p1.isList p2.isList (by rw [List.size_toArray, List.size_toArray]; omega) hu0 (fun j j1 j2 => by
            obtain ⟨z1, e1, r1⟩ := w1.at j1
            obtain ⟨z2, e2, r2⟩ := w2.at j2
            obtain ⟨d1, g1, k1⟩ := h2.get' e1
            obtain ⟨d2, g2, k2⟩ := h4.get' e2
            have e : eD xs ys j = D.eqb d1 d2 := by unfold eD; rw [g1, g2]
            rw [e]
            exact ih hu1 (List.all_eq_true.mp fx d1 (List.mem_of_getElem? g1)) (List.all_eq_true.mp fy d2 (List.mem_of_getElem? g2)) k1 k2 r1 r2)
          rw [eqbs_rng, ← hl, Nat.min_self, beq_self_eq_true, Bool.and_true]
          rw [show its.toArray.size = xs.length by rw [List.size_toArray]; omega] at this
          exact this
        · rw [eqbs_rng, show (xs.length == ys.length) = false by simpa using hl, Bool.and_false]
          exact SeqAt.RcAt.lists_lengths p1.isList p2.isList (by rw [List.size_toArray, List.size_toArray]; simp only [bne_iff_ne, ne_eq]; omega) hu0
    case tup.lst xs ys =>
      obtain ⟨p, vs, rfl, h1, h2⟩ := rx
      obtain ⟨q, us, rfl, h3, h4⟩ := ry
      cases ra
      cases rb
      obtain ⟨its, w1, p1, _⟩ := I.tuple h1
      obtain ⟨its2, w2, p2, _⟩ := I.list h3
      exact SeqAt.EqAt.tuple_list p1 p2.isList hu0
    case lst.tup xs ys =>
      obtain ⟨p, vs, rfl, h1, h2⟩ := rx
      obtain ⟨q, us, rfl, h3, h4⟩ := ry
      cases ra
      cases rb
      obtain ⟨its, w1, p1, _⟩ := I.list h1
      obtain ⟨its2, w2, p2, _⟩ := I.tuple h3
      exact SeqAt.EqAt.list_tuple p1.isList p2 hu0
    case bl.tup => simp [D.fit] at fx
    case bl.lst => simp [D.fit] at fx
    case ty.tup => simp [D.fit] at fx
    case ty.lst => simp [D.fit] at fx
    case fn.tup => simp [D.fit] at fx
    case fn.lst => simp [D.fit] at fx
    case tup.bl => simp [D.fit] at fy
    case lst.bl => simp [D.fit] at fy
    case tup.ty => simp [D.fit] at fy
    case lst.ty => simp [D.fit] at fy
    case tup.fn => simp [D.fit] at fy
    case lst.fn => simp [D.fit] at fy
    case tup.int => obtain ⟨p, vs, rfl, h1, _⟩ := rx; cases ra; cases (show u = _ from ry); obtain ⟨t, rfl⟩ := rb; obtain ⟨its, w1, p1, _⟩ := I.tuple h1; exact SeqAt.EqAt.tuple_int _ _ p1 hu0
    case tup.non => obtain ⟨p, vs, rfl, h1, _⟩ := rx; cases ra; cases (show u = _ from ry); cases rb; obtain ⟨its, w1, p1, _⟩ := I.tuple h1; exact SeqAt.EqAt.tuple_none p1 hu0
    case tup.str => obtain ⟨p, vs, rfl, h1, _⟩ := rx; cases ra; cases (show u = _ from ry); obtain ⟨t, rfl⟩ := rb; obtain ⟨its, w1, p1, _⟩ := I.tuple h1; exact SeqAt.EqAt.tuple_str _ _ p1 hu0
    case lst.int => obtain ⟨p, vs, rfl, h1, _⟩ := rx; cases ra; cases (show u = _ from ry); obtain ⟨t, rfl⟩ := rb; obtain ⟨its, w1, p1, _⟩ := I.list h1; exact SeqAt.EqAt.list_int _ _ p1.isList hu0
    case lst.non => obtain ⟨p, vs, rfl, h1, _⟩ := rx; cases ra; cases (show u = _ from ry); cases rb; obtain ⟨its, w1, p1, _⟩ := I.list h1; exact SeqAt.EqAt.list_none p1.isList hu0
    case lst.str => obtain ⟨p, vs, rfl, h1, _⟩ := rx; cases ra; cases (show u = _ from ry); obtain ⟨t, rfl⟩ := rb; obtain ⟨its, w1, p1, _⟩ := I.list h1; exact SeqAt.EqAt.list_str _ _ p1.isList hu0
    case int.tup => obtain ⟨p, vs, rfl, h1, _⟩ := ry; cases rb; cases (show v = _ from rx); obtain ⟨t, rfl⟩ := ra; obtain ⟨its, w1, p1, _⟩ := I.tuple h1; exact SeqAt.EqAt.int_tuple _ _ p1 hu0
    case non.tup => obtain ⟨p, vs, rfl, h1, _⟩ := ry; cases rb; cases (show v = _ from rx); cases ra; obtain ⟨its, w1, p1, _⟩ := I.tuple h1; exact SeqAt.EqAt.none_tuple p1 hu0
    case str.tup => obtain ⟨p, vs, rfl, h1, _⟩ := ry; cases rb; cases (show v = _ from rx); obtain ⟨t, rfl⟩ := ra; obtain ⟨its, w1, p1, _⟩ := I.tuple h1; exact SeqAt.EqAt.str_tuple _ _ p1 hu0
    case int.lst => obtain ⟨p, vs, rfl, h1, _⟩ := ry; cases rb; cases (show v = _ from rx); obtain ⟨t, rfl⟩ := ra; obtain ⟨its, w1, p1, _⟩ := I.list h1; exact SeqAt.EqAt.int_list _ _ p1.isList hu0
    case non.lst => obtain ⟨p, vs, rfl, h1, _⟩ := ry; cases rb; cases (show v = _ from rx); cases ra; obtain ⟨its, w1, p1, _⟩ := I.list h1; exact SeqAt.EqAt.none_list p1.isList hu0
    case str.lst => obtain ⟨p, vs, rfl, h1, _⟩ := ry; cases rb; cases (show v = _ from rx); obtain ⟨t, rfl⟩ := ra; obtain ⟨its, w1, p1, _⟩ := I.list h1; exact SeqAt.EqAt.str_list _ _ p1.isList hu0
    all_goals
      refine ih (by omega) ?_ ?_ rx ry ra rb
      · first | rfl | (simp [D.fit] at fx; done) | (simp [D.fit]; done)
      · first | rfl | (simp [D.fit] at fy; done) | (simp [D.fit]; done)
def rEqN (K : PySem.W.Frag) : R2 := fun v u H Q => ∃ x y, x.same y = true ∧ x.fit 4 = true ∧ y.fit 4 = true ∧ Rep K H x v ∧ Rep K H y u ∧ Q (.bl (D.eqb x y)) H
def rNeN (K : PySem.W.Frag) : R2 := fun v u H Q => ∃ x y, x.same y = true ∧ x.fit 4 = true ∧ y.fit 4 = true ∧ Rep K H x v ∧ Rep K H y u ∧ Q (.bl (!D.eqb x y)) H
theorem op_eqN (hu : X.A.units + 64 < cLine) : OpR X (compareOp .Eq) (rEqN X.K) := by
  intro pins s σ H v u a b Q I ra rb h
  obtain ⟨x, y, hs, fx, fy, rx, ry, q⟩ := h
  have hu0 : X.A.units < cLine := by omega
  have hu1 : X.A.in1.units + 3 < cLine := by rw [show X.A.in1.units = X.A.units + 1 from rfl]; omega
  cases x <;> cases y <;> first | (simp [D.same] at hs; done) | skip
  case tup.tup xs ys =>
    obtain ⟨p, vs, rfl, h1, h2⟩ := rx
    obtain ⟨p', us, rfl, h3, h4⟩ := ry
    cases ra
    cases rb
    obtain ⟨its, w1, p1, _⟩ := I.tuple h1
    obtain ⟨its2, w2, p2, _⟩ := I.tuple h3
    have l1 := h2.length
    have l2 := h4.length
    have m1 := w1.length
    have m2 := w2.length
    simp only [D.fit] at fx fy
    refine SeqAt.RcAt.tuples (e := eD xs ys) p1 p2 hu0 (fun j j1 j2 => by
      obtain ⟨z1, e1, r1⟩ := w1.at j1
      obtain ⟨z2, e2, r2⟩ := w2.at j2
      obtain ⟨d1, g1, k1⟩ := h2.get' e1
      obtain ⟨d2, g2, k2⟩ := h4.get' e2
      have e : eD xs ys j = D.eqb d1 d2 := by unfold eD; rw [g1, g2]
      rw [e]
      exact eqAt_D I 3 hu1 (List.all_eq_true.mp fx d1 (List.mem_of_getElem? g1)) (List.all_eq_true.mp fy d2 (List.mem_of_getElem? g2)) k1 k2 r1 r2) _ _ _ _ ?_
    rw [show its.toArray.size = xs.length by rw [List.size_toArray]; omega, show its2.toArray.size = ys.length by rw [List.size_toArray]; omega, ← eqbs_rng]
    simp only [D.eqb] at q
    exact ⟨.bl _, H, I, rfl, q⟩
  case lst.lst xs ys =>
    obtain ⟨p, vs, rfl, h1, h2⟩ := rx
    obtain ⟨p', us, rfl, h3, h4⟩ := ry
    cases ra
    cases rb
    obtain ⟨its, w1, p1, _⟩ := I.list h1
    obtain ⟨its2, w2, p2, _⟩ := I.list h3
    have l1 := h2.length
    have l2 := h4.length
    have m1 := w1.length
    have m2 := w2.length
    simp only [D.fit] at fx fy
    simp only [D.eqb] at q
    rw [eqbs_rng] at q
    by_cases hl : xs.length = ys.length
    · refine SeqAt.RcAt.lists (e := eD xs ys) p1.isList p2.isList (by rw [List.size_toArray, List.size_toArray]; omega) hu0 (fun j j1 j2 => by
        obtain ⟨z1, e1, r1⟩ := w1.at j1
        obtain ⟨z2, e2, r2⟩ := w2.at j2
        obtain ⟨d1, g1, k1⟩ := h2.get' e1
        obtain ⟨d2, g2, k2⟩ := h4.get' e2
        have e : eD xs ys j = D.eqb d1 d2 := by unfold eD; rw [g1, g2]
        rw [e]
        exact eqAt_D I 3 hu1 (List.all_eq_true.mp fx d1 (List.mem_of_getElem? g1)) (List.all_eq_true.mp fy d2 (List.mem_of_getElem? g2)) k1 k2 r1 r2) _ _ _ _ ?_
      rw [← hl, Nat.min_self, beq_self_eq_true, Bool.and_true] at q
      rw [show its.toArray.size = xs.length by rw [List.size_toArray]; omega]
      exact ⟨.bl _, H, I, rfl, q⟩
    · rw [show (xs.length == ys.length) = false by simpa using hl, Bool.and_false] at q
      exact SeqAt.RcAt.lists_lengths p1.isList p2.isList (by rw [List.size_toArray, List.size_toArray]; simp only [bne_iff_ne, ne_eq]; omega) hu0 _ _ _ _ ⟨.bl _, H, I, rfl, q⟩
theorem op_neN (hu : X.A.units + 64 < cLine) : OpR X (compareOp .NotEq) (rNeN X.K) := by
  intro pins s σ H v u a b Q I ra rb h
  obtain ⟨x, y, hs, fx, fy, rx, ry, q⟩ := h
  have hu0 : X.A.units < cLine := by omega
  have hu1 : X.A.in1.units + 3 < cLine := by rw [show X.A.in1.units = X.A.units + 1 from rfl]; omega
  cases x <;> cases y <;> first | (simp [D.same] at hs; done) | skip
  case tup.tup xs ys =>
    obtain ⟨p, vs, rfl, h1, h2⟩ := rx
    obtain ⟨p', us, rfl, h3, h4⟩ := ry
    cases ra
    cases rb
    obtain ⟨its, w1, p1, _⟩ := I.tuple h1
    obtain ⟨its2, w2, p2, _⟩ := I.tuple h3
    have l1 := h2.length
    have l2 := h4.length
    have m1 := w1.length
    have m2 := w2.length
    simp only [D.fit] at fx fy
    refine SeqAt.RcNeAt.tuples (e := eD xs ys) p1 p2 hu0 (fun j j1 j2 => by
      obtain ⟨z1, e1, r1⟩ := w1.at j1
      obtain ⟨z2, e2, r2⟩ := w2.at j2
      obtain ⟨d1, g1, k1⟩ := h2.get' e1
      obtain ⟨d2, g2, k2⟩ := h4.get' e2
      have e : eD xs ys j = D.eqb d1 d2 := by unfold eD; rw [g1, g2]
      rw [e]
      exact eqAt_D I 3 hu1 (List.all_eq_true.mp fx d1 (List.mem_of_getElem? g1)) (List.all_eq_true.mp fy d2 (List.mem_of_getElem? g2)) k1 k2 r1 r2) _ _ _ _ ?_
    rw [show its.toArray.size = xs.length by rw [List.size_toArray]; omega, show its2.toArray.size = ys.length by rw [List.size_toArray]; omega, ← eqbs_rng]
    simp only [D.eqb] at q
    exact ⟨.bl _, H, I, rfl, q⟩
  case lst.lst xs ys =>
    obtain ⟨p, vs, rfl, h1, h2⟩ := rx
    obtain ⟨p', us, rfl, h3, h4⟩ := ry
    cases ra
    cases rb
    obtain ⟨its, w1, p1, _⟩ := I.list h1
    obtain ⟨its2, w2, p2, _⟩ := I.list h3
    have l1 := h2.length
    have l2 := h4.length
    have m1 := w1.length
    have m2 := w2.length
    simp only [D.fit] at fx fy
    simp only [D.eqb] at q
    rw [eqbs_rng] at q
    by_cases hl : xs.length = ys.length
    · refine SeqAt.RcNeAt.lists (e := eD xs ys) p1.isList p2.isList (by rw [List.size_toArray, List.size_toArray]; omega) hu0 (fun j j1 j2 => by
        obtain ⟨z1, e1, r1⟩ := w1.at j1
        obtain ⟨z2, e2, r2⟩ := w2.at j2
        obtain ⟨d1, g1, k1⟩ := h2.get' e1
        obtain ⟨d2, g2, k2⟩ := h4.get' e2
        have e : eD xs ys j = D.eqb d1 d2 := by unfold eD; rw [g1, g2]
        rw [e]
        exact eqAt_D I 3 hu1 (List.all_eq_true.mp fx d1 (List.mem_of_getElem? g1)) (List.all_eq_true.mp fy d2 (List.mem_of_getElem? g2)) k1 k2 r1 r2) _ _ _ _ ?_
      rw [← hl, Nat.min_self, beq_self_eq_true, Bool.and_true] at q
      rw [show its.toArray.size = xs.length by rw [List.size_toArray]; omega]
      exact ⟨.bl _, H, I, rfl, q⟩
    · rw [show (xs.length == ys.length) = false by simpa using hl, Bool.and_false] at q
      exact SeqAt.RcNeAt.lists_lengths p1.isList p2.isList (by rw [List.size_toArray, List.size_toArray]; simp only [bne_iff_ne, ne_eq]; omega) hu0 _ _ _ _ ⟨.bl _, H, I, rfl, q⟩
theorem oS_eqN : OpS K (rEqN K) eqND := fun F H x y v u P Q s rx ry w q => by
  obtain ⟨hs, fx, fy, w⟩ := w
  exact ⟨x, y, hs, fx, fy, rx, ry, q _ _ F H w (Ext.refl s) rfl⟩
theorem oS_neN : OpS K (rNeN K) neND := fun F H x y v u P Q s rx ry w q => by
  obtain ⟨hs, fx, fy, w⟩ := w
  exact ⟨x, y, hs, fx, fy, rx, ry, q _ _ F H w (Ext.refl s) rfl⟩
end
end L2

namespace L2
open PySem PySem.Spec PyProof.Rows
structure BltV (mg : Str → Option Value) : Prop extends Blt mg where
  abs : mg "abs" = none
  any : mg "any" = none
  sum : mg "sum" = none
  sorted : mg "sorted" = none
  set : mg "set" = none
  enumerate : mg "enumerate" = none
  dict : mg "dict" = none
  str : mg "str" = none
  divmod : mg "divmod" = none
  ord : mg "ord" = none
/-! ### defs as values -/
abbrev DTb := List (Str × DSp)
/-- doing(e, ..), doing a name that holds one of the text's own defs -/
def dCallL (i n : Nat) (tb : DTb) (As : DA) : DO := fun δ P => match δ[i]? with
  | some (some (.own (.fz (.fn x)))) => ∃ sp, (x, sp) ∈ tb ∧ As δ fun ds => ds.length = n ∧ sp ds P
  | _ => False
def dCallLB (i n : Nat) (tb : DTb) (As : DA) : DO := fun δ P => match δ[i]? with
  | some (some (.own (.fz (.fn x)))) => ∃ sp, (x, sp) ∈ tb ∧ As δ fun ds => ds.length = n ∧ sp ds fun r => r.lf = true ∧ P r
  | _ => False
/-! ### a def that changes the list it is handed first -/
abbrev DIO := List OV → List D → (List OV → Prop) → Prop
def sCallIO (i n : Nat) (sp : DIO) (As : DA) : DS := fun De δ => match δ[i]? with
  | some (some (.own (.nl ts))) => As δ fun ds => ds.length + 1 = n ∧ sp ts ds fun ts' => De.nx (δ.set i (some (.own (.nl ts'))))
  | _ => False
def startIO (N : List Str) (a : Addr) (ts : List OV) (ds : List D) : Dst := some (.own (.rt a ts)) :: (ds.map (fun d => some (.own (.fz d))) ++ List.replicate (N.length - (ds.length + 1)) none)
/-- a statement that changes the list of name i in place, where it is the one that was handed in -/
def sTag (i : Nat) (T : DS) : DS := fun De δ => match δ[i]? with
  | some (some (.own (.rt a ts))) => T { De with nx := fun δ' => match δ'[i]? with
      | some (some (.own (.nl ts'))) => De.nx (δ'.set i (some (.own (.rt a ts'))))
      | _ => False } (δ.set i (some (.own (.nl ts))))
  | _ => False
/-- a list of the names around is walked, its things lent -/
def gB (i : Nat) : D → Dst → (Dst → Prop) → Prop := fun d δ P => P (δ.set i (some (.bw d)))
def dCompB (El : DE) (ix : List (Option Nat)) (Eo : DO) : DO := fun δ P => El δ fun d => match d with
  | .lst ds => CmpW (gB 0) Eo ds (blkD ix δ) P
  | _ => False
section
variable {K : PySem.W.Frag} {X : Cx} {mg : Str → Option Value}
def NsOf (K : PySem.W.Frag) (mg : Str → Option Value) (x : Str) : Prop := ∃ f, PySem.W.nsIn K mainGlobals x = some (some (.ref f)) ∧ mg x = some (.ref f)
def tFn (K : PySem.W.Frag) (x : Str) : TE := fun σ H Q => ∃ f, PySem.W.nsIn K mainGlobals x = some (some (.ref f)) ∧ Q (.ref f) H
theorem pe_fn {x : Str} {pos : Pos} (hg : Gl X x) (h : NsOf X.K X.mg x) (hd : (x == ("__debug__" : Str)) = false := by decide) : PE X (.Name x pos) (tFn X.K x) := by
  intro pins s σ H Q I ⟨f, e, q⟩
  obtain ⟨f', e1, e2⟩ := h
  rw [e] at e1
  cases e1
  exact pe_glob (v := .ref f) hg e2 rfl hd pins s σ H Q I q
theorem sF_fn {x : Str} (h : NsOf K mg x) : SimF K (tFn K x) (dC (.fn x)) := fun F0 H0 F H σ δ P Q e w q => by
  obtain ⟨f, e1, _⟩ := h
  exact ⟨f, e1, q _ _ F H w (Ext.refl e.ext.fh) ⟨f, rfl, e1⟩⟩
def tCallL (mg : Str → Option Value) (i : Nat) (tb : List (Str × Sp)) (t : TA) : TE := fun σ H Q => ∃ x sp f, (x, sp) ∈ tb ∧ mg x = some (.ref f) ∧ σ[i]? = some (some (.ref f)) ∧ t σ H fun vs H1 => sp vs H1 Q E0
theorem pe_calL {y : Str} {i k : Nat} {tb : List (Str × Sp)} {e : Expr} {es : List Expr} {t : TA} {p pos : Pos} (hn : PE X (.Name y p) (tVar i)) (C : ∀ x sp, (x, sp) ∈ tb → ∃ ps, Cal X.prog X.w X.K X.mg X.base x k ps sp) (hr : Room k X.A) (ha : PA X (e :: es) t)
    (he : starEach (e :: es) X.env = (false, eval e X.env) :: starEach es X.env := by rfl) (hpl : (backTo pos (starEach es X.env)).any (·.1) = false := by rfl) :
    PE X (.Call (.Name y p) (e :: es) [] pos) (tCallL X.mg i tb t) := by
  intro pins s σ H Q I ⟨x, sp, f, hm, hmg, hs, h⟩
  obtain ⟨ps, ⟨f', fd, F, hm', hk, hb⟩⟩ := C x sp hm
  rw [hmg] at hm'
  cases hm'
  refine wpAny_Call_Name_kw (thn (hn pins s σ H (fun v H1 => v = .ref f ∧ H1 = H) I ⟨_, hs, rfl, rfl⟩) fun u s1 ⟨v, H1, I1, r1, e1, e2⟩ => ?_)
  subst e1 e2
  cases r1
  refine PySem.W.callWith_K (h₀ := X.base) I1.ok.mod.kin hk (thn (ha pos pins s1 σ H1 _ I1 h) fun us s2 ⟨vs, H2, I2, r, q⟩ => ⟨I2.kIn, ?_⟩) he hpl
  exact run_fn F hr hb .nil pass0 I2 r (by rw [List.append_nil]; exact q)
theorem Cal.mono {P : Program} {w : World} {base : Heap} {x : Str} {j k : Nat} {ps : List Str} {sp : Sp} (C : Cal P w K mg base x j ps sp) (h : j ≤ k) : Cal P w K mg base x k ps sp := by
  obtain ⟨f, fd, F, a, b, c⟩ := C.ex
  exact ⟨f, fd, F.mono h, a, b, c⟩
def tbV (K : PySem.W.Frag) (n : Nat) (tb : DTb) : List (Str × Sp) := tb.map fun p => (p.1, spV K n p.2)
theorem tbV_all {P : Program} {w : World} {base : Heap} {n k : Nat} {tb : DTb} (h : ∀ p ∈ tb, ∃ ps, Cal P w K mg base p.1 k ps (spV K n p.2)) : ∀ x sp, (x, sp) ∈ tbV K n tb → ∃ ps, Cal P w K mg base x k ps sp := fun x sp hm => by
  obtain ⟨p, hp, e⟩ := List.mem_map.mp hm
  cases e
  exact h p hp
theorem sO_callL {i n : Nat} {tb : DTb} {a : TA} {As : DA} (hN : ∀ p ∈ tb, NsOf K mg p.1) (ha : SimAF K a As) : SimO K (tCallL mg i (tbV K n tb) a) (dCallL i n tb As) := fun F0 H0 F H σ δ P Q e w q => by
  unfold dCallL at w
  split at w
  · rename_i x hx
    obtain ⟨A, e⟩ := e
    obtain ⟨v, hv, _, f, rfl, hf⟩ := e.own i _ hx
    obtain ⟨sp, hm, w⟩ := w
    obtain ⟨f', n1, n2⟩ := hN _ hm
    rw [hf] at n1
    cases n1
    refine ⟨x, spV K n sp, f, List.mem_map.mpr ⟨_, hm, rfl⟩, n2, hv, ?_⟩
    refine ha F0 H0 F H σ δ _ _ ⟨A, e⟩ w fun ds vs F1 H1 w1 x1 r1 => ?_
    exact ⟨by rw [← r1.length]; exact w1.1, F1, ds, P, x1.fh, r1, w1.2, fun r v F' H' p x' r' => q r v F' H' p (x1.trans x') (r'.old x1.hh)⟩
  · exact w.elim
theorem sO_callLB {i n : Nat} {tb : DTb} {a : TA} {As : DA} (hN : ∀ p ∈ tb, NsOf K mg p.1) (ha : SimAB K a As) : SimO K (tCallL mg i (tbV K n tb) a) (dCallLB i n tb As) := fun F0 H0 F H σ δ P Q e w q => by
  unfold dCallLB at w
  split at w
  · rename_i x hx
    obtain ⟨A, e⟩ := e
    obtain ⟨v, hv, _, f, rfl, hf⟩ := e.own i _ hx
    obtain ⟨sp, hm, w⟩ := w
    obtain ⟨f', n1, n2⟩ := hN _ hm
    rw [hf] at n1
    cases n1
    refine ⟨x, spV K n sp, f, List.mem_map.mpr ⟨_, hm, rfl⟩, n2, hv, ?_⟩
    refine ha F0 H0 F H σ δ _ _ ⟨A, e⟩ w fun ds vs F1 H1 w1 x1 r1 => ?_
    refine ⟨by rw [← r1.length]; exact w1.1, H1, ds, _, Same.refl _, r1, w1.2, fun r v F' H' p x' r' => ?_⟩
    have s1 : Same F1 F' := x1.fh.trans x'.ff
    have x2 := frzT_ext s1
    obtain ⟨A, a1, a2, a3⟩ := r'
    refine q r v (frzT F1 F') H' p.2 (x1.trans ⟨x2.ff, x'.hh, x2.fh.trans x'.fh, fun b o z1 z2 z3 => ?_⟩) ⟨A, a1.lf s1 p.1, a2, fun b hb => ⟨x1.hh.free (a3 b hb).1, x2.fh.free (a3 b hb).2⟩⟩
    exact x2.no b o z1 (x'.ff _ _ z2) z3
  · exact w.elim
/-! ### changed in place by a callee -/
def spIO (K : PySem.W.Frag) (n : Nat) (sp : DIO) : Sp := spL n fun vs H Q => ∃ F a ts vs0 B rest ds P, vs = V.ref a :: rest ∧ Same F H ∧ H a = some (.lst vs0) ∧ RepOs K F H ts vs0 B ∧ (a :: B).Nodup ∧ (∀ b ∈ a :: B, F b = none) ∧ Reps K F ds rest ∧ sp ts ds P ∧
  ∀ ts' F' H' vs' B', P ts' → Same F F' → Same F' H' → (∀ b o, b ∉ a :: B → H b = some o → H' b = some o) → (∀ b o, F b = none → H b = some o → imm o = false → b ∉ a :: B → F' b = none) → H' a = some (.lst vs') → RepOs K F' H' ts' vs' B' → (a :: B').Nodup →
    (∀ b ∈ a :: B', F' b = none ∧ (b ∈ a :: B ∨ H b = none)) → Q .non H'
theorem sS_callIO {i n : Nat} {sp : DIO} {a : TA} {As : DA} (ha : SimAF K a As) : SimS K (tDrop (tCall (spIO K n sp) [] E0 (tCons (tVar i) a))) (sCallIO i n sp As) := fun F0 H0 F H σ δ De En e l w => by
  obtain ⟨A, e⟩ := e
  unfold sCallIO at w
  split at w
  · rename_i ts hs
    obtain ⟨v, hv, p, vs, B, rfl, eA, hp, hB⟩ := e.own i _ hs
    refine ⟨_, hv, ?_⟩
    refine ha F0 H0 F H σ δ _ _ ⟨A, e⟩ w fun ds us F1 H1 w1 x1 r1 => ?_
    show spIO K n sp ((V.ref p :: us) ++ []) H1 (fun _ H2 => En.nx σ H2) E0
    rw [List.append_nil]
    have e1 := e.on x1
    have hnd := e.nod i
    rw [eA] at hnd
    have hlt : i < δ.length := (List.getElem?_eq_some_iff.mp hs).1
    refine ⟨by rw [List.length_cons, ← r1.length]; exact w1.1, F1, p, ts, vs, B, us, ds, _, rfl, x1.fh, x1.hh _ _ hp, hB.frame x1.ff fun b _ xs z => x1.hh _ _ z, hnd, fun b hb => (e1.new i b (by rw [eA]; exact hb)).1, r1, w1.2, ?_⟩
    intro ts' F' H' vs' B' pt sF sH keep nofz hp' hB' nd' nw'
    refine l.nx F' H' σ _ ⟨fun j => if j = i then p :: B' else A j, ?_⟩ pt
    refine ⟨by simp [e.len], ⟨e1.ext.ff.trans sF, fun b o h => ?_, sH, fun b o h1 h2 h3 => ?_⟩, fun j t hj => ?_, fun j d hj => ?_, fun j => ?_, fun j k b hjk h1 h2 => ?_, fun j b hb => ?_⟩
    · exact keep b o (fun z => by rw [(e1.new i b (by rw [eA]; exact z)).2.1] at h; cases h) (e1.ext.hh _ _ h)
    · exact nofz b o (e1.ext.no b o h1 h2 h3) (e1.ext.hh _ _ h2) h3 (fun z => by rw [(e1.new i b (by rw [eA]; exact z)).2.1] at h2; cases h2)
    · try dsimp only
      by_cases z : j = i
      · subst z
        rw [if_pos rfl]
        rw [List.getElem?_set_self hlt] at hj
        cases hj
        exact ⟨_, hv, p, vs', B', rfl, rfl, hp', hB'⟩
      · rw [if_neg z]
        rw [List.getElem?_set_ne (Ne.symm z)] at hj
        obtain ⟨u, h1, h2⟩ := e1.own j t hj
        exact ⟨u, h1, h2.frame sF fun b hb xs q => keep b _ (fun y => e.dis j i b z hb (by rw [eA]; exact y)) q⟩
    · by_cases z : j = i
      · subst z
        rw [List.getElem?_set_self hlt] at hj
        cases hj
      · rw [List.getElem?_set_ne (Ne.symm z)] at hj
        exact e1.bw j d hj
    · try dsimp only
      split
      · exact nd'
      · exact e.nod j
    · try dsimp only at h1 h2
      have key : ∀ k, k ≠ i → b ∈ p :: B' → b ∈ A k → False := fun k hk z1 z2 => by
        rcases (nw' b z1).2 with y | y
        · exact e.dis k i b hk z2 (by rw [eA]; exact y)
        · obtain ⟨_, _, xs, q⟩ := e1.new k b z2
          rw [y] at q; cases q
      split at h1
      · split at h2
        · omega
        · rename_i z1 z2
          exact key k z2 h1 h2
      · split at h2
        · rename_i z1 z2
          exact key j z1 h2 h1
        · exact e.dis j k b hjk h1 h2
    · try dsimp only at hb
      split at hb
      · have hh : H0 b = none := by
          rcases (nw' b hb).2 with y | y
          · exact (e1.new i b (by rw [eA]; exact y)).2.1
          · exact e1.ext.hh.free y
        refine ⟨(nw' b hb).1, hh, ?_⟩
        rcases List.mem_cons.mp hb with y | y
        · rw [y]; exact ⟨_, hp'⟩
        · exact hB'.isl b y
      · rename_i z
        obtain ⟨h1, h2, xs, h3⟩ := e1.new j b hb
        have hni : b ∉ p :: B := fun y => e.dis j i b z hb (by rw [eA]; exact y)
        exact ⟨nofz b _ h1 h3 rfl hni, h2, xs, keep b _ hni h3⟩
  · exact w.elim
theorem CalIO.of {P : Program} {w : World} {base : Heap} {x : Str} {st : Stmt} {f : Addr} {fd : FuncData} {N ps : List Str} {k n : Nat} {sp : DIO} (Df : DefAt K mg x st f fd) (S : FnScope N ps (defScope st))
    (hb : ∀ (kV doc pm : Value) (an : Option Addr) (cdv ct : Value) (us : List Value), us.length = ps.length → bindArgs (PySem.W.fnOf x x (defArgs st) (defBody st) (defScope st) .none kV doc pm an cdv ct) ⟨us, []⟩ = pure (ps.zip us)) (hn : n = ps.length)
    (hbody : ∀ (cdv : Value) (A : Around) (outer : List Env) (s : Shared) (H : Hp) (E : XK), Room k (A.deeper (envOfC x (defScope st) s.heap.objs.size f cdv)) →
      ∃ t T, PSs (cxOf CX0 P w K mg base N x (defScope st) f cdv A outer s H E).nox (defBody st) t ∧ SimS K t T ∧ ∀ (a : Addr) ts ds Pr, sp ts ds Pr → T { nx := fun δ => ∃ ts', δ[0]? = some (some (.own (.rt a ts'))) ∧ Pr ts', rt := fun _ => False } (startIO N a ts ds)) : Cal P w K mg base x (k + 1) ps (spIO K n sp) :=
  Cal.of Df S hb (fun vs H Q E h => by rw [← hn]; exact h.1) fun cdv A outer s H vs Q E hr h => by
    obtain ⟨_, F, a, ts, vs0, B, rest, ds, Pr, rfl, hs, ha, hB, hnd, hnf, hr', hsp, hq⟩ := h
    obtain ⟨t, T, h1, h2, h3⟩ := hbody cdv A outer s H E hr
    have hl := hr'.length
    have er : ER K F (fun b => if b ∈ a :: B then none else H b) F H (start N (V.ref a :: rest)) (startIO N a ts ds) (fun j => if j = 0 then a :: B else []) := by
      refine ⟨by simp [start, startIO, hl], ⟨Same.refl _, fun b o z => ?_, hs, fun _ _ z _ _ => z⟩, fun i t hi => ?_, fun i d hi => ?_, fun j => ?_, fun j k b hjk y1 y2 => ?_, fun j b hb => ?_⟩
      · try dsimp only at z
        split at z
        · cases z
        · exact z
      · unfold startIO at hi
        cases i with
        | zero =>
          simp at hi
          subst hi
          exact ⟨.ref a, rfl, vs0, B, rfl, rfl, ha, hB⟩
        | succ i =>
          rw [List.getElem?_cons_succ] at hi
          try dsimp only
          rw [if_neg (by omega)]
          by_cases z : i < ds.length
          · rw [List.getElem?_append_left (by simpa using z), List.getElem?_map, List.getElem?_eq_getElem z] at hi
            simp at hi
            subst hi
            obtain ⟨v, g1, g2⟩ := hr'.get (List.getElem?_eq_getElem z)
            refine ⟨v, ?_, rfl, g2⟩
            unfold start
            rw [List.map_cons, List.cons_append, List.getElem?_cons_succ, List.getElem?_append_left (by simp; omega), List.getElem?_map, g1]
            rfl
          · rw [List.getElem?_append_right (by simpa using z)] at hi
            have := List.mem_of_getElem? hi
            rw [List.mem_replicate] at this
            cases this.2
      · unfold startIO at hi
        cases i with
        | zero => simp at hi
        | succ i =>
          rw [List.getElem?_cons_succ] at hi
          by_cases z : i < ds.length
          · rw [List.getElem?_append_left (by simpa using z), List.getElem?_map, List.getElem?_eq_getElem z] at hi
            simp at hi
          · rw [List.getElem?_append_right (by simpa using z)] at hi
            have := List.mem_of_getElem? hi
            rw [List.mem_replicate] at this
            cases this.2
      · try dsimp only
        split
        · exact hnd
        · exact List.nodup_nil
      · try dsimp only at y1 y2
        split at y1
        · split at y2
          · omega
          · cases y2
        · cases y1
      · try dsimp only at hb
        split at hb
        · refine ⟨hnf b hb, if_pos hb, ?_⟩
          rcases List.mem_cons.mp hb with y | y
          · rw [y]; exact ⟨_, ha⟩
          · exact hB.isl b y
        · cases hb
    refine ⟨t, h1, h2 F _ F H (start N (V.ref a :: rest)) (startIO N a ts ds) { nx := fun δ => ∃ ts', δ[0]? = some (some (.own (.rt a ts'))) ∧ Pr ts', rt := fun _ => False } _ ⟨_, er⟩ ⟨fun F' H' σ δ e p => ?_, fun _ _ _ _ _ z => z.elim, fun _ _ _ _ _ z => z.elim, fun _ _ _ _ _ _ z => z.elim⟩ (h3 a ts ds Pr hsp)⟩
    obtain ⟨A', e⟩ := e
    obtain ⟨ts', h0, hp⟩ := p
    obtain ⟨v, hv, vs', B', rfl, eA, g1, g2⟩ := e.own 0 _ h0
    have hn' := e.nod 0
    rw [eA] at hn'
    refine hq ts' F' H' vs' B' hp e.ext.ff e.ext.fh (fun b o y z => ?_) (fun b o y1 y2 y3 y4 => ?_) g1 g2 hn' (fun b hb => ?_)
    · exact e.ext.hh b o (by rw [if_neg y]; exact z)
    · exact e.ext.no b o y1 (by rw [if_neg y4]; exact y2) y3
    · obtain ⟨z1, z2, _⟩ := e.new 0 b (by rw [eA]; exact hb)
      refine ⟨z1, ?_⟩
      by_cases q : b ∈ a :: B
      · exact .inl q
      · rw [if_neg q] at z2; exact .inr z2
/-! ### the list that was handed in, changed -/
def LocS (t : TS) : Prop := ∀ E σ H, t { E with nx := fun σ' H' => σ' = σ → E.nx σ' H' } σ H → t E σ H
theorem nx_loc {E : Ends} {σ : St} : (fun H' => σ = σ → E.nx σ H') = E.nx σ := funext fun H' => propext ⟨fun z => z rfl, fun z _ => z⟩
theorem loc_put {te to ti : TE} {r : TSet} : LocS (tAsg te (gSub to ti r)) := fun E σ H h => by
  have h' : te σ H fun x H1 => to σ H1 fun o H2 => ti σ H2 fun i H3 => r o i x H3 (fun H' => σ = σ → E.nx σ H') := h
  rw [nx_loc] at h'
  exact h'
theorem loc_drop {te : TE} : LocS (tDrop te) := fun E σ H h => by
  have h' : te σ H fun _ => (fun H' => σ = σ → E.nx σ H') := h
  rw [nx_loc] at h'
  exact h'
theorem loc_aug {to ti te : TE} {tget : V → V → Hp → VK → Prop} {tip : TIp} {tset : TSet} : LocS (tAugS to ti te tget tip tset) := fun E σ H h => by
  have h' : to σ H fun o H1 => ti σ H1 fun i H2 => tget o i H2 fun x H3 => te σ H3 fun y H4 => tip x y H4 fun z H5 => tset o i z H5 (fun H' => σ = σ → E.nx σ H') := h
  rw [nx_loc] at h'
  exact h'
theorem EnvR.untag {F0 H0 F H : Hp} {σ : St} {δ : Dst} {i : Nat} {a : Addr} {ts : List OV} (e : EnvR K F0 H0 F H σ δ) (h : δ[i]? = some (some (.own (.rt a ts)))) : σ[i]? = some (some (.ref a)) ∧ EnvR K F0 H0 F H σ (δ.set i (some (.own (.nl ts)))) := by
  obtain ⟨A, e⟩ := e
  obtain ⟨v, hv, vs, B, rfl, eA, h1, h2⟩ := e.own i _ h
  have hlt : i < δ.length := (List.getElem?_eq_some_iff.mp h).1
  refine ⟨hv, A, by simp [e.len], e.ext, fun j t hj => ?_, fun j d hj => ?_, e.nod, e.dis, e.new⟩
  · by_cases z : j = i
    · subst z
      rw [List.getElem?_set_self hlt] at hj
      cases hj
      exact ⟨_, hv, a, vs, B, rfl, eA, h1, h2⟩
    · rw [List.getElem?_set_ne (Ne.symm z)] at hj
      exact e.own j t hj
  · by_cases z : j = i
    · subst z
      rw [List.getElem?_set_self hlt] at hj
      cases hj
    · rw [List.getElem?_set_ne (Ne.symm z)] at hj
      exact e.bw j d hj
theorem EnvR.retag {F0 H0 F H : Hp} {σ : St} {δ : Dst} {i : Nat} {a : Addr} {ts : List OV} (e : EnvR K F0 H0 F H σ δ) (h : δ[i]? = some (some (.own (.nl ts)))) (hσ : σ[i]? = some (some (.ref a))) : EnvR K F0 H0 F H σ (δ.set i (some (.own (.rt a ts)))) := by
  obtain ⟨A, e⟩ := e
  obtain ⟨v, hv, a', vs, B, rfl, eA, h1, h2⟩ := e.own i _ h
  rw [hσ] at hv
  cases hv
  have hlt : i < δ.length := (List.getElem?_eq_some_iff.mp h).1
  refine ⟨A, by simp [e.len], e.ext, fun j t hj => ?_, fun j d hj => ?_, e.nod, e.dis, e.new⟩
  · by_cases z : j = i
    · subst z
      rw [List.getElem?_set_self hlt] at hj
      cases hj
      exact ⟨_, hσ, vs, B, rfl, eA, h1, h2⟩
    · rw [List.getElem?_set_ne (Ne.symm z)] at hj
      exact e.own j t hj
  · by_cases z : j = i
    · subst z
      rw [List.getElem?_set_self hlt] at hj
      cases hj
    · rw [List.getElem?_set_ne (Ne.symm z)] at hj
      exact e.bw j d hj
theorem sS_tag {i : Nat} {t : TS} {T : DS} (hl : LocS t) (h : SimS K t T) : SimS K t (sTag i T) := fun F0 H0 F H σ δ De E e l w => by
  unfold sTag at w
  split at w
  · rename_i a ts hs
    obtain ⟨hσ, e'⟩ := e.untag hs
    have lk : Lk K F0 H0 { De with nx := fun δ' => match δ'[i]? with | some (some (.own (.nl ts'))) => De.nx (δ'.set i (some (.own (.rt a ts')))) | _ => False } { E with nx := fun σ' H' => σ' = σ → E.nx σ' H' } := by
      refine ⟨fun F1 H1 σ1 δ1 e1 p hq => ?_, l.bk, l.ct, l.rt⟩
      subst hq
      dsimp only at p
      split at p
      · rename_i ts' hs'
        exact l.nx F1 H1 _ _ (e1.retag hs' hσ) p
      · exact p.elim
    exact hl E σ H (h F0 H0 F H σ _ _ _ e' lk w)
  · exact w.elim
end
end L2

namespace L2
open PySem PySem.Spec PyProof.Rows
section
variable {K : PySem.W.Frag} {X : Cx}
/-! ### a comprehension over a list of a name's own -/
theorem ER.putBw {F0 H0 F H : Hp} {σ : St} {δ : Dst} {A : Nat → List Addr} (e : ER K F0 H0 F H σ δ A) (i : Nat) {d : D} {v : V} (h : Rep K H0 d v) : ER K F0 H0 F H (σ.set i (some v)) (δ.set i (some (.bw d))) A := by
  refine ⟨by simp [e.len], e.ext, fun j t hj => ?_, fun j d' hj => ?_, e.nod, e.dis, e.new⟩
  · by_cases z : j = i
    · subst z
      have hl0 : j < δ.length := by
        have := (List.getElem?_eq_some_iff.mp hj).1
        rwa [List.length_set] at this
      rw [List.getElem?_set_self hl0] at hj
      cases hj
    · rw [List.getElem?_set_ne (Ne.symm z)] at hj ⊢
      exact e.own j t hj
  · by_cases z : j = i
    · subst z
      have hl0 : j < δ.length := by
        have := (List.getElem?_eq_some_iff.mp hj).1
        rwa [List.length_set] at this
      rw [List.getElem?_set_self hl0] at hj
      cases hj
      exact ⟨v, List.getElem?_set_self (by rw [e.len]; exact hl0), h⟩
    · rw [List.getElem?_set_ne (Ne.symm z)] at hj ⊢
      exact e.bw j d' hj
theorem sO_compB {te tl : TE} {El : DE} {Eo : DO} {ix : List (Option Nat)} (hl : SimB K tl El) (he : SimO K te Eo) : SimO K (tComp (iList K tl) ix (gName 0) te) (dCompB El ix Eo) := fun F0 H0 F H σ δ P Q e w q =>
  hl F0 H0 F H σ δ _ _ e w fun d v F1 H1 p x1 r1 => by
    try dsimp only at p
    split at p
    case h_2 => exact p.elim
    rename_i ds
    obtain ⟨aL, vsL, rfl, hq1, hq2⟩ := r1
    have hql := hq2.length
    refine ⟨aL, rfl, ⟨vsL, hq1⟩, ?_⟩
    intro L hL
    obtain ⟨A, e⟩ := e.on x1
    obtain ⟨W, w0, ws, wd⟩ := p
    have f1 : Same F1 H1 := x1.fh
    refine ⟨fun i m σ ys H => m = ds.length - i ∧ i ≤ ds.length ∧ ∃ F δ ts B, ER K F1 H1 F H σ δ (fun _ => []) ∧ W i δ ts ∧ F L = none ∧ H L = some (.lst ys) ∧ RepOs K F H ts ys B ∧ (L :: B).Nodup ∧ ∀ b ∈ B, H1 b = none ∧ F b = none,
      ⟨ds.length, by simp, Nat.zero_le _, F1, _, [], [], e.blk ix (Same.new hL), w0, f1.free hL, upd_same, ⟨rfl, rfl⟩, by simp, fun _ h => by cases h⟩, ?_⟩
    rintro i m σ2 ys H2 ⟨rfl, hil, F2, δ2, ts, B, e2, w2, l1, l2, hr, nd, nw⟩
    have hqn := e2.ext.hh.seq hq1
    by_cases hlt : i < ds.length
    · obtain ⟨d0, hd0⟩ : ∃ d, ds[i]? = some d := ⟨_, List.getElem?_eq_getElem hlt⟩
      have hl := hr.length
      refine .inr ⟨sz_lt (by have := (ws i d0 δ2 ts hd0 w2).1; omega), ⟨vsL, vsL[i]'(by omega), hqn, List.getElem?_eq_getElem (by omega)⟩, fun x H3 y => ?_⟩
      obtain ⟨rfl, y⟩ := y
      obtain ⟨d, hd, r3⟩ := hq2.get' (y vsL hqn)
      have x3 := Ext.refl e2.ext.fh
      have F3e : F2 = F2 := rfl
      have w4 := (ws i d δ2 ts hd w2).2
      unfold gB at w4
      have e4' := e2.putBw 0 r3
      refine he F1 H1 F2 _ _ _ _ _ ⟨_, e4'⟩ w4 fun r v F5 H5 p5 x5 n5 => ?_
      have x25 := x3.trans x5
      have l5 := x25.hh _ _ l2
      have l5f := x25.no L _ l1 l2 rfl
      refine ⟨l5, ds.length - (i + 1), by omega, rfl, hlt, F5, δ2.set 0 (some (.bw d)), ts ++ [r], ?_⟩
      obtain ⟨C, c1, c2, c3⟩ := n5
      obtain ⟨n1, n2⟩ := List.nodup_cons.mp nd
      have hLC : L ∉ C := fun z => by
        have q := (c3 L z).1
        rw [x3.hh _ _ l2] at q; cases q
      have hBC : ∀ b, b ∈ B → b ∉ C := fun b hb z => by
        obtain ⟨xs, q⟩ := hr.isl b hb
        have := (c3 b z).1
        rw [x3.hh _ _ q] at this; cases this
      have e5 := e4'.on x5
      refine ⟨B ++ C, ⟨e5.len, ⟨e5.ext.ff, fun b o h => ?_, fun b o h => ?_, e5.ext.no⟩, fun j t hj => ?_, e5.bw, e5.nod, e5.dis, fun _ _ h => by cases h⟩, p5, l5f, upd_same, ?_, ?_, fun b hb => ?_⟩
      · exact upd_off (fun z => by rw [z, hL] at h; cases h) (e5.ext.hh _ _ h)
      · exact upd_off (fun z => by rw [z, l5f] at h; cases h) (e5.ext.fh _ _ h)
      · obtain ⟨u, h1, h2⟩ := e5.own j t hj
        exact ⟨u, h1, h2.frame (Same.refl _) fun _ z => by cases z⟩
      · exact RepOs.append (hr.frame x25.ff fun b hb xs z => upd_off (fun q => n1 (by rw [← q]; exact hb)) (x25.hh _ _ z)) (RepOs.one (c1.frame (Same.refl _) fun b hb xs z => upd_off (fun q => hLC (by rw [← q]; exact hb)) z))
      · refine List.nodup_cons.mpr ⟨fun z => ?_, List.nodup_append.mpr ⟨n2, c2, fun x hx y hy z => by subst z; exact hBC x hx hy⟩⟩
        rcases List.mem_append.mp z with z | z
        · exact n1 z
        · exact hLC z
      · rcases List.mem_append.mp hb with z | z
        · obtain ⟨xs, qq⟩ := hr.isl b z
          exact ⟨(nw b z).1, x25.no b _ (nw b z).2 qq rfl⟩
        · exact ⟨(e2.ext.hh.trans x3.hh).free (c3 b z).1, (c3 b z).2⟩
    · have hi' : i = ds.length := by omega
      subst hi'
      refine .inl ⟨⟨vsL, hqn, by omega⟩, q _ _ F2 H2 (wd _ _ w2) (x1.trans e2.ext) ⟨L :: B, ⟨L, ys, B, rfl, rfl, l2, hr⟩, nd, fun b hb => ?_⟩⟩
      rcases List.mem_cons.mp hb with rfl | z
      · exact ⟨x1.hh.free hL, l1⟩
      · exact ⟨x1.hh.free (nw b z).1, (nw b z).2⟩

/-! ### all, any of a list of truths -/
def rAllB (K : PySem.W.Frag) : List V → Hp → VK → Prop := fun xs H Q => ∃ (l : Addr) (bs : List Bool), xs = [.ref l] ∧ SqL K H l (bs.map V.bl) ∧ Q (.bl (bs.all id)) H
def rAnyB (K : PySem.W.Frag) : List V → Hp → VK → Prop := fun xs H Q => ∃ (l : Addr) (bs : List Bool), xs = [.ref l] ∧ SqL K H l (bs.map V.bl) ∧ Q (.bl (bs.any id)) H
theorem bools_get : ∀ {bs : List Bool} {us : List Value}, Vals (bs.map V.bl) us → ∀ {i : Nat} {v : Value}, us[i]? = some v → ∃ b, bs[i]? = some b ∧ v = .bool b
  | [], _, .nil, i, v, e => by simp at e
  | b :: bs, u :: us, .cons r t, 0, v, e => by
    simp at e
    subst e
    exact ⟨b, rfl, r⟩
  | b :: bs, u :: us, .cons r t, i + 1, v, e => by
    obtain ⟨b', h1, h2⟩ := bools_get (bs := bs) t (i := i) (by simpa using e)
    exact ⟨b', by simpa using h1, h2⟩
theorem call_allB (hc : X.calm = true) : CallR X (.builtin "all") (rAllB X.K) := by
  intro pins s σ H xs us Q I r h
  obtain ⟨l, bs, rfl, hq, q⟩ := h
  obtain ⟨u, rfl, ru⟩ := vals1 r
  cases ru
  obtain ⟨its, rv, pl, hz⟩ := I.list hq
  have hl := pl.isList
  have hn := rv.length
  rw [List.length_map] at hn
  have hlt : l < s.heap.objs.size := by obtain ⟨_, e, _⟩ := hl; exact Heap.lt_size e
  refine call_all_walk (wpAny_pyIter_list hl ?_)
  refine ⟨s.heap.objs.size, [s.heap.objs.size, l], [s.heap.objs.size], its.toArray.size, _, _, fun i => (bs[i]?).getD true, rfl, Walks.list (A := X.A.in1) (I.ok.hd hc) _ l (Nat.ne_of_lt hlt) its.toArray,
    ⟨⟨_, Heap.get?_push_size _ rfl, rfl, rfl⟩, hl.push _⟩, fun i v s' Q' E' hP hQ => ?_, fun h' tk hk => ?_⟩
  · obtain ⟨b, e, rfl⟩ := bools_get rv (i := i) (v := v) (by simpa using hP)
    simp only [e, Option.getD_some] at hQ
    exact wpAny_truthy_bool hQ
  · have e : ((List.range its.toArray.size).all fun i => (bs[i]?).getD true) = bs.all id := by
      rw [List.size_toArray, ← hn]; exact LSm.range_all bs
    rw [e]
    exact ⟨.bl _, H, I.kept (t' := tk) (LSm.kept_iter hk), rfl, q⟩
theorem call_anyB (hc : X.calm = true) : CallR X (.builtin "any") (rAnyB X.K) := by
  intro pins s σ H xs us Q I r h
  obtain ⟨l, bs, rfl, hq, q⟩ := h
  obtain ⟨u, rfl, ru⟩ := vals1 r
  cases ru
  obtain ⟨its, rv, pl, hz⟩ := I.list hq
  have hl := pl.isList
  have hn := rv.length
  rw [List.length_map] at hn
  have hlt : l < s.heap.objs.size := by obtain ⟨_, e, _⟩ := hl; exact Heap.lt_size e
  refine call_any_walk (wpAny_pyIter_list hl ?_)
  refine ⟨s.heap.objs.size, [s.heap.objs.size, l], [s.heap.objs.size], its.toArray.size, _, _, fun i => (bs[i]?).getD false, rfl, Walks.list (A := X.A.in1) (I.ok.hd hc) _ l (Nat.ne_of_lt hlt) its.toArray,
    ⟨⟨_, Heap.get?_push_size _ rfl, rfl, rfl⟩, hl.push _⟩, fun i v s' Q' E' hP hQ => ?_, fun h' tk hk => ?_⟩
  · obtain ⟨b, e, rfl⟩ := bools_get rv (i := i) (v := v) (by simpa using hP)
    simp only [e, Option.getD_some] at hQ
    exact wpAny_truthy_bool hQ
  · have e : ((List.range its.toArray.size).any fun i => (bs[i]?).getD false) = bs.any id := by
      rw [List.size_toArray, ← hn]; exact LSm.range_any bs
    rw [e]
    exact ⟨.bl _, H, I.kept (t' := tk) (LSm.kept_iter hk), rfl, q⟩
theorem reps_bools {F : Hp} : ∀ {bs : List Bool} {vs : List V}, Reps K F (bs.map D.bl) vs → vs = bs.map V.bl
  | [], vs, h => h
  | b :: bs, vs, h => by
    obtain ⟨v, r, rfl, h1, h2⟩ := h
    rw [show v = V.bl b from h1, reps_bools h2]; rfl
theorem cS_all : CbS K (rAllB K) allD := fun F H ds vs P Q s rs w q => by
  unfold allD at w
  split at w
  · obtain ⟨bs, rfl, w⟩ := w
    obtain ⟨v, rfl, p, us, rfl, h1, h2⟩ := reps1 rs
    have e := reps_bools h2
    subst e
    exact ⟨p, bs, rfl, h1, q _ _ F H w (Ext.refl s) rfl⟩
  · exact w.elim
theorem cS_any : CbS K (rAnyB K) anyD := fun F H ds vs P Q s rs w q => by
  unfold anyD at w
  split at w
  · obtain ⟨bs, rfl, w⟩ := w
    obtain ⟨v, rfl, p, us, rfl, h1, h2⟩ := reps1 rs
    have e := reps_bools h2
    subst e
    exact ⟨p, bs, rfl, h1, q _ _ F H w (Ext.refl s) rfl⟩
  · exact w.elim
/-! ### x[k][m] = e -/
theorem ixN_lt {n : Nat} {k : Int} {j : Nat} (h : ixN n k = some j) : j < n := by
  unfold ixN at h
  split at h
  · split at h
    · cases h; omega
    · cases h
  · split at h
    · cases h; omega
    · cases h
theorem sS_put2 {i : Nat} {te tk tm : TE} {E Ek Em : DE} (h : SimF K te E) (hk : SimB K tk Ek) (hm : SimB K tm Em) : SimS K (tAsg te (gSub (tOp (rIxL K) (tVar i) tk) tm rSetL)) (sPut2 i Ek Em E) := fun F0 H0 F H σ δ De En e l w => by
  refine h F0 H0 F H σ δ _ _ e w fun d u F1 H1 p x1 rd => ?_
  obtain ⟨A, e⟩ := e
  split at p
  · rename_i ts hs
    have e1 := e.on x1
    obtain ⟨v, hv, a, vs, B, rfl, eA, ha, hB⟩ := e1.own i _ hs
    refine ⟨_, hv, ?_⟩
    refine hk F0 H0 F1 H1 σ δ _ _ ⟨A, e1⟩ p fun k kv F2 H2 p2 x2 r2 => ?_
    try dsimp only at p2
    split at p2
    · rename_i k
      obtain ⟨j, us, hj, hu, p2⟩ := p2
      have e2 := e1.on x2
      have ha2 := x2.hh _ _ ha
      have hB2 : RepOs K F2 H2 ts vs B := hB.frame x2.ff fun b _ xs z => x2.hh _ _ z
      have hlv := hB2.length
      obtain ⟨v0, A1, B0, A2, f1, rfl, f3, f4⟩ := hB2.focus hu
      obtain ⟨c, ws, C0, rfl, rfl, hc, hws⟩ := f3
      have at1 : atI vs k = some (.ref c) := by
        unfold atI
        rw [← hlv, hj]; exact f1
      refine ⟨a, vs, k, .ref c, rfl, r2, SqL.of ha2, at1, ?_⟩
      refine hm F0 H0 F2 H2 σ δ _ _ ⟨A, e2⟩ p2 fun m mv F3 H3 p3 x3 r3 => ?_
      try dsimp only at p3
      split at p3
      · rename_i m
        obtain ⟨q, hq, p3⟩ := p3
        have e3 := e2.on x3
        have hlw := hws.length
        refine ⟨c, ws, m, q, rfl, r3, x3.hh _ _ hc, by rw [← hlw]; exact hq, ?_⟩
        have hql := ixN_lt hq
        have hws3 : RepOs K F3 H3 us ws C0 := hws.frame x3.ff fun b _ xs z => x3.hh _ _ z
        obtain ⟨w0, C1, D0, C2, g1, rfl, g3, g4⟩ := hws3.focus (List.getElem?_eq_getElem hql)
        have hnd := e.nod i
        rw [eA] at hnd
        have hA : A i = a :: (A1 ++ (c :: (C1 ++ (D0 ++ C2)) ++ A2)) := eA
        obtain ⟨n1, n2⟩ := List.nodup_cons.mp hnd
        obtain ⟨m1, m2, m3⟩ := List.nodup_append.mp n2
        obtain ⟨q1, q2, q3⟩ := List.nodup_append.mp m2
        obtain ⟨s1, s2⟩ := List.nodup_cons.mp q1
        have hac : a ≠ c := fun z => n1 (by rw [z]; simp)
        have off : ∀ b ∈ A1 ++ A2, b ≠ c := fun b hb z => by
          subst z
          rcases List.mem_append.mp hb with y | y
          · exact m3 b y b (by simp) rfl
          · exact q3 b (by simp) b y rfl
        have offC : ∀ b ∈ C1 ++ C2, b ≠ c := fun b hb z => by
          subst z
          apply s1
          rcases List.mem_append.mp hb with y | y <;> simp [y]
        have rd3 : Rep K F3 d u := rd.mono (x2.ff.trans x3.ff)
        have g4' := g4 F3 (upd H3 c (.lst (ws.set q u))) (.fz d) u [] (Same.refl _) (fun b hb xs z => upd_off (offC b hb) z) ⟨rfl, rd3⟩
        have f4' := f4 F3 (upd H3 c (.lst (ws.set q u))) (.nl (us.set q (.fz d))) (.ref c) (c :: (C1 ++ ([] ++ C2))) x3.ff (fun b hb xs z => upd_off (off b hb) (x3.hh _ _ z)) ⟨c, ws.set q u, _, rfl, rfl, upd_same, g4'⟩
        rw [set_self_of f1] at f4'
        have sub : (a :: (A1 ++ (c :: (C1 ++ ([] ++ C2)) ++ A2))).Sublist (A i) := by
          rw [hA]
          exact List.Sublist.cons₂ _ (List.Sublist.append (List.Sublist.refl _) (List.Sublist.append (List.Sublist.cons₂ _ (List.Sublist.append (List.Sublist.refl _) (List.Sublist.append (List.nil_sublist _) (List.Sublist.refl _)))) (List.Sublist.refl _)))
        refine l.nx F3 _ σ _ (e3.change i hv (t' := .nl (ts.set j (.nl (us.set q (.fz d))))) (B := a :: (A1 ++ (c :: (C1 ++ ([] ++ C2)) ++ A2))) ⟨a, vs, _, rfl, rfl, upd_off hac (x3.hh _ _ ha2), f4'⟩ ?_ ?_ ?_ ?_) p3
        · exact (e.nod i).sublist sub
        · intro b hb
          exact ⟨(e3.new i b (sub.subset hb)).1, (e3.new i b (sub.subset hb)).2.1⟩
        · intro j' hj' b hb z
          exact e.dis j' i b hj' z (sub.subset hb)
        · intro b o hb q'
          exact upd_off (fun z => hb (by rw [hA, z]; simp)) q'
      · exact p3.elim
    · exact p2.elim
  · exact p.elim
/-! ### x[::c] -/
def rStep (K : PySem.W.Frag) : V → Int → Hp → VK → Prop := fun x c H Q => ∃ a xs, x = .ref a ∧ SqL K H a xs ∧ 0 < c ∧ ∀ p H', H p = none → Same H H' → H' p = some (.lst (stepG xs c)) → Q (.ref p) H'
def tStep (r : V → Int → Hp → VK → Prop) (te tc : TE) : TE := fun σ H Q => te σ H fun x H1 => tc σ H1 fun c H2 => ∃ i, c = .int i ∧ r x i H2 Q
theorem vals_pick {xs : List V} {us : List Value} (h : Vals xs us) : ∀ (js : List Nat), Vals (js.filterMap (xs[·]?)) (js.filterMap (us.toArray[·]?))
  | [] => .nil
  | j :: js => by
    have ih := vals_pick h js
    by_cases hj : j < xs.length
    · have hj' : j < us.length := by rw [← h.length]; exact hj
      obtain ⟨u, hu, ru⟩ := h.get (i := j) (x := xs[j]) (by simp [hj])
      have e1 : xs[j]? = some xs[j] := by simp [hj]
      have e2 : us.toArray[j]? = some u := by simpa using hu
      rw [List.filterMap_cons_some e1, List.filterMap_cons_some e2]
      exact .cons ru ih
    · have hj' : ¬ j < us.length := by rw [← h.length]; exact hj
      have e1 : xs[j]? = none := by simp; omega
      have e2 : us.toArray[j]? = none := by simp; omega
      rw [List.filterMap_cons_none e1, List.filterMap_cons_none e2]
      exact ih
theorem pe_step {e c : Expr} {te tc : TE} {p2 pos : Pos} (he : PE X e te) (hc : PE X c tc) : PE X (.Subscript e (.Slice none none (some c) p2) pos) (tStep (rStep X.K) te tc) := by
  intro pins s σ H Q I h
  refine Subscript_ (thn (he pins s σ H _ I h) fun v s1 ⟨x, H1, I1, r1, q1⟩ => ?_)
  refine wpAny_Slice ?_
  rw [evalPart_none]
  refine wpAny_pure ?_
  rw [evalPart_some]
  refine wpAny_pure ?_
  refine thn (hc pins s1 σ H1 _ I1 q1) fun vc s3 ⟨y, H3, I3, rc, i, ey, q3⟩ => ?_
  subst ey
  obtain ⟨a, xs, rfl, hq, hi, q⟩ := q3
  obtain ⟨tk, rfl⟩ := rc
  cases r1
  have I4 : Inv X pins σ H3 { s3 with heap := s3.heap.push { cls := .type "slice", data := .fields #[.none, .none, .int i tk] } } := I3.kept (t' := s3.toks) fun b ob q => Heap.get?_push_of_some _ q
  obtain ⟨its, rv, pl, hz⟩ := I4.list hq
  have hn := rv.length
  have hbd : sliceBounds none none (some i) its.toArray.size = (0, (xs.length : Int), i) := by
    unfold sliceBounds
    simp [hi, hn]
  have hpk : slicePick its.toArray none none (some i) = ((sliceRange 0 xs.length i).filterMap (its.toArray[·]?)).toArray := by
    unfold slicePick
    rw [hbd]
  show wpAny (model X.prog X.w) X.A (subscriptTail e (.Slice none none (some c) p2) (.ref a) (.ref s3.heap.objs.size)) (EP X pins σ Q) X.xe { s3 with heap := s3.heap.push { cls := .type "slice", data := .fields #[.none, .none, .int i tk] } }
  refine tail_any (T := "list") (ops := [.ref a, .ref s3.heap.objs.size]) pl.isList.typeIs slot_list_getitem.lookup ?_ (by with_unfolding_all rfl)
  refine wpAny_getItem_list_slice pl.isList (Heap.IsSliceOf.new ..) .none .none (.int i tk) (by intro z; injection z with z; omega) ?_ (by rw [List.size_toArray] <;> omega)
  rw [hpk]
  have hle : (stepG xs i).length ≤ xs.length := by
    have h1 := slicePick_size_le its.toArray none none (some i)
    rw [hpk, List.size_toArray, List.size_toArray] at h1
    have h2 := (vals_pick rv (sliceRange 0 xs.length i)).length
    show ((sliceRange 0 xs.length i).filterMap (xs[·]?)).length ≤ _
    omega
  have hf := I4.hok.fresh (Nat.le_refl _)
  refine ⟨.ref _, _, I4.laid (t' := s3.toks) (o := .lst (stepG xs i)) (fun b ob q => Heap.get?_push_of_some _ q) (Nat.le_refl _) ?_, rfl, q _ _ hf (Same.new hf) upd_same⟩
  exact ⟨Nat.le_trans hle hz, _, 0, vals_pick rv (sliceRange 0 xs.length i), Heap.get?_push_size _ rfl⟩
theorem Reps.pick {F : Hp} {ds : List D} {vs : List V} (h : Reps K F ds vs) : ∀ (js : List Nat), Reps K F (js.filterMap (ds[·]?)) (js.filterMap (vs[·]?))
  | [] => rfl
  | j :: js => by
    have ih := Reps.pick h js
    have hl := h.length
    by_cases hj : j < ds.length
    · obtain ⟨v, hv, rv⟩ := h.get (i := j) (d := ds[j]) (by simp [hj])
      have e1 : ds[j]? = some ds[j] := by simp [hj]
      rw [List.filterMap_cons_some e1, List.filterMap_cons_some hv]
      exact ⟨v, _, rfl, rv, ih⟩
    · have e1 : ds[j]? = none := by simp; omega
      have e2 : vs[j]? = none := by simp; omega
      rw [List.filterMap_cons_none e1, List.filterMap_cons_none e2]
      exact ih
theorem Reps.step {F : Hp} {ds : List D} {vs : List V} (h : Reps K F ds vs) (c : Int) : Reps K F (stepG ds c) (stepG vs c) := by
  unfold stepG
  rw [h.length]
  exact h.pick _
theorem sO_slSt {ta tc : TE} {Ea Ec : DE} (ha : SimF K ta Ea) (hc : SimB K tc Ec) : SimO K (tStep (rStep K) ta tc) (dSlSt Ea Ec) := fun F0 H0 F H σ δ P Q e w q =>
  ha F0 H0 F H σ δ _ _ e w fun x v F1 H1 w1 x1 r1 => hc F0 H0 F1 H1 σ δ _ _ (e.on x1) w1 fun c u F2 H2 w2 x2 r2 => by
    have x12 := x1.trans x2
    try dsimp only at w2
    split at w2
    · obtain ⟨c0, w2⟩ := w2
      obtain ⟨p, vs, rfl, h1, h2⟩ := r1.mono x2.ff
      exact ⟨_, r2, p, vs, rfl, x2.fh.seq h1, c0, fun l H' l0 sm l1 => q _ _ F2 H' w2 (x12.trans (Ext.grow x2.fh sm)) (RepN.list (x12.hh.free l0) (x2.fh.free l0) l1 (h2.step _))⟩
    · exact w2.elim
/-! ### defaults -/
structure DefAtD (K : PySem.W.Frag) (mg : Str → Option Value) (x : Str) (st : Stmt) (f : Addr) (fd : FuncData) (T : Addr) (items : Array Value) : Prop where
  ex : ∃ (oc : Value) (od : Option Addr) (kV doc pm : Value) (an : Option Addr) (cdv ct : Value) (osl : Array (Option Value)),
    fd = PySem.W.fnOf x x (defArgs st) (defBody st) (defScope st) (.ref T) kV doc pm an cdv ct ∧ K.lookup f = some ⟨oc, od, .func fd, osl⟩ ∧ PySem.W.codeIn K cdv x = true
  tup : ∃ o n, K.lookup T = some o ∧ o.data = .seq items n
  kp : PySem.W.keepIn K (.ref f) = true
  here : mg x = some (.ref f)
structure CalD (P : Program) (w : World) (K : PySem.W.Frag) (mg : Str → Option Value) (base : Heap) (x : Str) (k : Nat) (ps : List Str) (sp : Sp) (dvs : List V) : Prop where
  ex : ∃ f fd ds, FnOk P w K mg base CX0 k f fd ps sp ∧ mg x = some (.ref f) ∧ PySem.W.keepIn K (.ref f) = true ∧ Binds K fd ps [] ∧ Binds K fd ps ds ∧ Vals dvs ds
theorem CalD.cal {P : Program} {w : World} {mg : Str → Option Value} {base : Heap} {x : Str} {k : Nat} {ps : List Str} {sp : Sp} {dvs : List V} (C : CalD P w K mg base x k ps sp dvs) : Cal P w K mg base x k ps sp := by
  obtain ⟨f, fd, ds, a, b, c, d, _⟩ := C.ex
  exact ⟨f, fd, a, b, c, d⟩
theorem pe_calD {x : Str} {k : Nat} {ps : List Str} {sp : Sp} {dvs : List V} {e : Expr} {es : List Expr} {t : TA} {p pos : Pos} (C : CalD X.prog X.w X.K X.mg X.base x k ps sp dvs) (hr : Room k X.A) (hg : Gl X x) (ha : PA X (e :: es) t)
    (hdb : (x == ("__debug__" : Str)) = false := by decide) (he : starEach (e :: es) X.env = (false, eval e X.env) :: starEach es X.env := by rfl) (hpl : (backTo pos (starEach es X.env)).any (·.1) = false := by rfl) :
    PE X (.Call (.Name x p) (e :: es) [] pos) (tCall sp dvs E0 t) := by
  obtain ⟨f, fd, ds, F, hm, hk, _, hb, hv⟩ := C.ex
  exact pe_call F hr hg hm hk hb hv pass0 ha hdb he hpl
/-- k: how the arguments are bound, the defaults taken out of their tuple -/
theorem CalVD.of {P : Program} {w : World} {mg : Str → Option Value} {base : Heap} {x : Str} {st : Stmt} {f T : Addr} {items : Array Value} {fd : FuncData} {N ps : List Str} {k n : Nat} {sp : DSp} {ds : List Value} {dvs : List V} (Df : DefAtD K mg x st f fd T items) (S : FnScope N ps (defScope st))
    (hb : ∀ (kV doc pm : Value) (an : Option Addr) (cdv ct : Value) (us : List Value), us.length = ps.length → ∃ k, bindArgs (PySem.W.fnOf x x (defArgs st) (defBody st) (defScope st) (.ref T) kV doc pm an cdv ct) ⟨us, []⟩ = seqItems? (.ref T) >>= k ∧ k (some items) = pure (ps.zip us))
    (hb2 : ∀ (kV doc pm : Value) (an : Option Addr) (cdv ct : Value) (us : List Value), (us ++ ds).length = ps.length → ∃ k, bindArgs (PySem.W.fnOf x x (defArgs st) (defBody st) (defScope st) (.ref T) kV doc pm an cdv ct) ⟨us, []⟩ = seqItems? (.ref T) >>= k ∧ k (some items) = pure (ps.zip (us ++ ds)))
    (hv : Vals dvs ds) (hn : n = ps.length)
    (hbody : ∀ (cdv : Value) (A : Around) (outer : List Env) (s : Shared) (H : Hp) (E : XK), Room k (A.deeper (envOfC x (defScope st) s.heap.objs.size f cdv)) →
      ∃ t T, PSs (cxOf CX0 P w K mg base N x (defScope st) f cdv A outer s H E).nox (defBody st) t ∧ SimS K t T ∧ ∀ ds Pr, sp ds Pr → T { nx := fun _ => Pr (.fz .non), rt := Pr } (startV N ds)) : CalD P w K mg base x (k + 1) ps (spV K n sp) dvs := by
  obtain ⟨oc, od, kV, doc, pm, an, cdv, ct, osl, rfl, lk, hcd⟩ := Df.ex
  obtain ⟨o, m, ht, hs⟩ := Df.tup
  refine ⟨f, _, ds, fn_of lk hcd S (fun vs H Q E h => by rw [← hn]; exact h.1) (fun A outer s H vs Q E hr h => ?_), Df.here, Df.kp, fun s us KX hl => ?_, fun s us KX hl => ?_, hv⟩
  · obtain ⟨_, F, ds', Pr, hs', hr', hsp, hq⟩ := h
    obtain ⟨t, T', h1, h2, h3⟩ := hbody cdv A outer s H E hr
    refine ⟨t, h1.nox, h2 F H F H (start N vs) (startV N ds') { nx := fun _ => Pr (.fz .non), rt := Pr } _ ⟨_, startV_er hs' hr'⟩ ⟨fun F' H' σ δ e p => ?_, fun _ _ _ _ _ z => z.elim, fun _ _ _ _ _ z => z.elim, fun F' H' r v x n p => hq r v F' H' p x n⟩ (h3 ds' Pr hsp)⟩
    exact hq _ _ F' H' p e.ext (.fz rfl)
  · rw [List.append_nil] at hl ⊢
    obtain ⟨k', e1, e2⟩ := hb kV doc pm an cdv ct us hl
    exact PySem.W.binds_K KX rfl ht hs e1 e2
  · obtain ⟨k', e1, e2⟩ := hb2 kV doc pm an cdv ct us hl
    exact PySem.W.binds_K KX rfl ht hs e1 e2
theorem sO_callD {n : Nat} {sp : DSp} {a : TA} {As : DA} {dds : List D} {dvs : List V} (hd : ∀ F, Reps K F dds dvs) (ha : SimAF K a As) : SimO K (tCall (spV K n sp) dvs E0 a) (dCallD n sp dds As) := fun F0 H0 F H σ δ P Q e w q => ha F0 H0 F H σ δ _ _ e w fun ds vs F1 H1 w1 x1 r1 => by
  have r2 := r1.append (hd F1)
  exact ⟨by rw [← r2.length]; exact w1.1, F1, ds ++ dds, P, x1.fh, r2, w1.2, fun r v F' H' p x' r' => q r v F' H' p (x1.trans x') (r'.old x1.hh)⟩
theorem sO_callDB {n : Nat} {sp : DSp} {a : TA} {As : DA} {dds : List D} {dvs : List V} (hd : ∀ F, Reps K F dds dvs) (ha : SimAB K a As) : SimO K (tCall (spV K n sp) dvs E0 a) (dCallDB n sp dds As) := fun F0 H0 F H σ δ P Q e w q => ha F0 H0 F H σ δ _ _ e w fun ds vs F1 H1 w1 x1 r1 => by
  have r2 := r1.append (hd H1)
  refine ⟨by rw [← r2.length]; exact w1.1, H1, ds ++ dds, _, Same.refl _, r2, w1.2, fun r v F' H' p x' r' => ?_⟩
  have s1 : Same F1 F' := x1.fh.trans x'.ff
  have x2 := frzT_ext s1
  obtain ⟨A, a1, a2, a3⟩ := r'
  refine q r v (frzT F1 F') H' p.2 (x1.trans ⟨x2.ff, x'.hh, x2.fh.trans x'.fh, fun b o z1 z2 z3 => ?_⟩) ⟨A, a1.lf s1 p.1, a2, fun b hb => ⟨x1.hh.free (a3 b hb).1, x2.fh.free (a3 b hb).2⟩⟩
  exact x2.no b o z1 (x'.ff _ _ z2) z3
end
end L2

namespace L2
open PySem PySem.Spec PyProof.Rows
/-! ### range(i, j, -1) -/
def dRngD (As : DA) : DA := fun δ P => As δ fun ds => match ds with
  | [.int i, .int j, .int c] => c = -1 ∧ (-(2 ^ 61) ≤ i ∧ i < 2 ^ 61 ∧ -(2 ^ 61) ≤ j ∧ j < 2 ^ 61) ∧ P (rng i (-1) (i - j).toNat)
  | _ => False
section
variable {X : Cx} {K : PySem.W.Frag} {tg : Expr}
theorem rng_down {i j : Int} : Builtin.Range.rangeSize i j (-1) = ((i - j).toNat : Int) := by
  unfold Builtin.Range.rangeSize
  rw [if_neg (by decide)]
  split
  · rw [show (-(-1) : Int) = 1 by decide, Int.ediv_one]; omega
  · omega
theorem small_down {a b : Int} (h1 : -(2 ^ 61) ≤ a) (h2 : a < 2 ^ 61) (h3 : -(2 ^ 61) ≤ b) (h4 : b < 2 ^ 61) : Builtin.Range.small a b (-1) = true := by
  unfold Builtin.Range.small
  rw [rng_down]
  generalize hz : ((a - b).toNat : Int) = z
  simp only [Builtin.Range.rangeFitsLong, Bool.and_eq_true, Bool.or_eq_true, decide_eq_true_eq, beq_iff_eq, show ¬ ((-1 : Int) > 0) from by decide, if_false]
  omega
def iRngD (ta : TA) : TI := fun σ H R => ta σ H fun vs H1 => ∃ i j : Int, vs = [.int i, .int j, .int (-1)] ∧ (-(2 ^ 61) ≤ i ∧ i < 2 ^ 61 ∧ -(2 ^ 61) ≤ j ∧ j < 2 ^ 61) ∧ R (Itrs i (-1) (i - j).toNat) H1
theorem pi_rangeD {a b d : Expr} {ta : TA} {p pos : Pos} (hg : Gl X "range") (hm : X.mg "range" = none) (ha : PA X [a, b, d] ta) (hs : starEach [a, b, d] X.env = (false, eval a X.env) :: starEach [b, d] X.env := by rfl)
    (hpl : (backTo pos (starEach [b, d] X.env)).any (·.1) = false := by rfl) :
    PI X tg (.Call (.Name "range" p) [a, b, d] [] pos) (iRngD ta) := by
  intro pins s σ H R I h
  refine Call_ (ld_blt I hg hm boot_range (PyProof.Rows.callWith_type1 (thn (ha pos pins s σ H _ I h) fun us s1 ⟨vs, H1, I1, r1, q1⟩ => ?_) hs hpl))
  obtain ⟨i, j, e, ⟨q1, q2, q3, q4⟩, q⟩ := q1
  subst e
  cases r1 with
  | cons r rr =>
    cases rr with
    | cons r' rr =>
      cases rr with
      | cons r'' rr =>
        cases rr
        obtain ⟨t, rfl⟩ := r
        obtain ⟨t', rfl⟩ := r'
        obtain ⟨t'', rfl⟩ := r''
        refine PySem.call_range_3 (by omega) ?_ (.inl (PyProof.noPylong_small (by decide)))
        refine wpAny_pyIter_range (IsRange.new ..) (small_down q1 q2 q3 q4) ?_
        have I2 : Inv X pins σ H1 { s1 with heap := s1.heap.push { cls := .type "range", data := .fields #[.int i t, .int j t', .int (-1) t''] }, toks := s1.toks } := I1.kept fun b o e => Heap.get?_push_of_some _ e
        refine ⟨(s1.heap.push { cls := .type "range", data := .fields #[.int i t, .int j t', .int (-1) t''] }).objs.size, [(s1.heap.push { cls := .type "range", data := .fields #[.int i t, .int j t', .int (-1) t''] }).objs.size], _, _, H1, rfl,
          I2.kept (t' := s1.toks) fun b o e => Heap.get?_push_of_some _ e, turn_rangeS _ i (-1) (i - j).toNat, ?_, fun b hb => ?_, q⟩
        · have e1 : i + ((0 : Nat) : Int) * (-1) = i := by simp
          have e2 : (((i - j).toNat : Nat) : Int) - ((0 : Nat) : Int) = Builtin.Range.rangeSize i j (-1) := by rw [rng_down]; simp
          show IsRangeIter _ _ (i + ((0 : Nat) : Int) * (-1)) ((((i - j).toNat : Nat) : Int) - ((0 : Nat) : Int)) (-1)
          rw [e1, e2]
          exact Heap.get?_push_size _ rfl
        · have e : b = (s1.heap.push { cls := .type "range", data := .fields #[.int i t, .int j t', .int (-1) t''] }).objs.size := by simpa using hb
          subst e
          exact I2.fpOk (Nat.le_refl _) (I2.hok.fresh (Nat.le_refl _))
theorem sI_rngD {a : TA} {As : DA} (h : SimAB K a As) : SimI K (iRngD a) (dRngD As) := fun F0 H0 F H σ δ P R e w q => h F0 H0 F H σ δ _ _ e w fun ds vs F' H' p x r => by
  try dsimp only at p
  split at p
  · obtain ⟨v, u, z, rfl, r1, r2, r3⟩ := reps3 r
    obtain ⟨rfl, p1, p2⟩ := p
    exact ⟨_, _, by rw [show v = _ from r1, show u = _ from r2, show z = _ from r3], p1, q _ _ F' H' p2 x itR_itrs⟩
  · exact p.elim
end
/-- a comprehension over a lent list, thing by thing -/
theorem CmpW.mapB {α : Type} {Eo : DO} {o : Option Sl} {rest : Dst} {P : OV → Prop} (xs : List α) (g : α → D) (f : α → OV) (hn : xs.length ≤ 1000000)
    (h : ∀ x ∈ xs, ∀ Q : OV → Prop, Q (f x) → Eo (some (.bw (g x)) :: rest) Q) (k : P (.nl (xs.map f))) : CmpW (gB 0) Eo (xs.map g) (o :: rest) P := by
  refine ⟨fun i δ ts => ∃ o, δ = o :: rest ∧ ts = (xs.take i).map f, ⟨o, rfl, by simp⟩, ?_, ?_⟩
  · rintro i d δ ts hd ⟨o, rfl, rfl⟩
    obtain ⟨x, hx, rfl⟩ := mget hd
    obtain ⟨hi, e⟩ := List.getElem?_eq_some_iff.mp hx
    refine ⟨by rw [List.length_map, List.length_take]; omega, h x (List.mem_of_getElem? hx) _ ⟨_, rfl, ?_⟩⟩
    rw [List.take_succ_eq_append_getElem hi, e, List.map_append]
    rfl
  · rintro δ ts ⟨o, rfl, rfl⟩
    rw [List.length_map, List.take_length]
    exact k
end L2

namespace L2
open PySem PySem.Spec PyProof.Rows
/-! ### how many bits a number has; a script's numbers have no more than a million -/
def ibN (i : Int) : Nat := if i = 0 then 0 else i.natAbs.log2 + 1
def CMulB (i j : Int) : Prop := ibN i ≤ 2000000 ∧ ibN j ≤ 2000000
theorem ibN_abs {i : Int} : ibN (i.natAbs : Int) = ibN i := by
  unfold ibN
  by_cases h : i = 0
  · subst h; rfl
  · rw [if_neg h, if_neg (by omega)]; rfl
theorem ibN_lt {i : Int} {n : Nat} (h1 : -(2 ^ n) < i) (h2 : i < 2 ^ n) : ibN i ≤ n := by
  unfold ibN
  split
  · exact Nat.zero_le _
  · have hp : ((2 ^ n : Nat) : Int) = (2 : Int) ^ n := by simp
    rw [← hp] at h1 h2
    have hn : i.natAbs < 2 ^ n := by omega
    have : i.natAbs.log2 < n := (Nat.log2_lt (by omega)).mpr hn
    omega
/-- x[k][m] += e, of ints -/
def sAugI2 (i : Nat) (g : Int → Int → Int) (Ek Em E : DE) : DS := fun De δ => match δ[i]? with
  | some (some (.own (.nl ts))) => Ek δ fun k => match k with
    | .int k => ∃ j us, ixN ts.length k = some j ∧ ts[j]? = some (.nl us) ∧ Em δ fun m => match m with
      | .int m => 0 ≤ m ∧ ∃ x, us[m.toNat]? = some (.fz (.int x)) ∧ E δ fun y => match y with
        | .int y => De.nx (δ.set i (some (.own (.nl (ts.set j (.nl (us.set m.toNat (.fz (.int (g x y))))))))))
        | _ => False
      | _ => False
    | _ => False
  | _ => False
section
variable {K : PySem.W.Frag} {X : Cx}
theorem ibN_eq {i : Int} : Builtin.Int.intBits i = ibN i := by
  unfold Builtin.Int.intBits ibN
  by_cases h : i = 0
  · subst h; rfl
  · simp [h]
theorem op_mulB : OpR X (binaryOp .Mult) (rI CMulB fun i j => .int (i * j)) := opI fun i j _ _ _ _ _ hc q => mul_int q (by
  unfold IntMulOk
  have e : Builtin.Int.intTooBig (Builtin.Int.intBits i + Builtin.Int.intBits j) = false := by
    unfold Builtin.Int.intTooBig
    rw [ibN_eq, ibN_eq]
    have h1 := hc.1
    have h2 := hc.2
    exact decide_eq_false (by have : (bitsLine : Int) = 2 ^ 27 := rfl; omega)
  rw [e]; simp)
theorem sS_augI2 {i : Nat} {g : Int → Int → Int} {tk tm te : TE} {Ek Em E : DE} (hk : SimB K tk Ek) (hm : SimB K tm Em) (h : SimB K te E) : SimS K (tAugS (tOp (rIxL K) (tVar i) tk) tm te (rGetL K) (ipI g) rSetL) (sAugI2 i g Ek Em E) := fun F0 H0 F H σ δ De En e l w => by
  obtain ⟨A, e⟩ := e
  unfold sAugI2 at w
  split at w
  · rename_i ts hs
    obtain ⟨v, hv, a, vs, B, rfl, eA, ha, hB⟩ := e.own i _ hs
    refine ⟨_, hv, ?_⟩
    refine hk F0 H0 F H σ δ _ _ ⟨A, e⟩ w fun k kv F2 H2 p2 x2 r2 => ?_
    split at p2
    · rename_i k
      obtain ⟨j, us, hj, hu, p2⟩ := p2
      have e2 := e.on x2
      have ha2 := x2.hh _ _ ha
      have hB2 : RepOs K F2 H2 ts vs B := hB.frame x2.ff fun b _ xs z => x2.hh _ _ z
      have hlv := hB2.length
      obtain ⟨v0, A1, B0, A2, f1, rfl, f3, f4⟩ := hB2.focus hu
      obtain ⟨c, ws, C0, rfl, rfl, hc, hws⟩ := f3
      have at1 : atI vs k = some (.ref c) := by
        unfold atI
        rw [← hlv, hj]; exact f1
      refine ⟨a, vs, k, .ref c, rfl, r2, SqL.of ha2, at1, ?_⟩
      refine hm F0 H0 F2 H2 σ δ _ _ ⟨A, e2⟩ p2 fun m mv F3 H3 p3 x3 r3 => ?_
      split at p3
      · rename_i m
        obtain ⟨m0, x, hx, p3⟩ := p3
        have e3 := e2.on x3
        have hc3 := x3.hh _ _ hc
        have hws3 : RepOs K F3 H3 us ws C0 := hws.frame x3.ff fun b _ xs z => x3.hh _ _ z
        obtain ⟨w0, C1, D0, C2, g1, rfl, g3, g4⟩ := hws3.focus hx
        obtain ⟨rfl, g3⟩ := g3
        refine ⟨c, ws, m, w0, rfl, r3, SqL.of hc3, m0, g1, ?_⟩
        refine h F0 H0 F3 H3 σ δ _ _ ⟨A, e3⟩ p3 fun y yv F4 H4 p4 x4 r4 => ?_
        split at p4
        · rename_i y
          have e4 := e3.on x4
          have hlw := hws3.length
          have hml : m.toNat < ws.length := (List.getElem?_eq_some_iff.mp g1).1
          refine ⟨x, y, g3, r4, c, ws, m, m.toNat, rfl, r3, x4.hh _ _ hc3, ?_, ?_⟩
          · unfold ixN
            rw [if_pos m0, if_pos (by omega)]
          have hnd := e.nod i
          rw [eA] at hnd
          have hA : A i = a :: (A1 ++ (c :: (C1 ++ ([] ++ C2)) ++ A2)) := eA
          obtain ⟨n1, n2⟩ := List.nodup_cons.mp hnd
          obtain ⟨m1, m2, m3⟩ := List.nodup_append.mp n2
          obtain ⟨q1, q2, q3⟩ := List.nodup_append.mp m2
          obtain ⟨s1, s2⟩ := List.nodup_cons.mp q1
          have hac : a ≠ c := fun z => n1 (by rw [z]; simp)
          have off : ∀ b ∈ A1 ++ A2, b ≠ c := fun b hb z => by
            subst z
            rcases List.mem_append.mp hb with y | y
            · exact m3 b y b (by simp) rfl
            · exact q3 b (by simp) b y rfl
          have offC : ∀ b ∈ C1 ++ C2, b ≠ c := fun b hb z => by
            subst z
            apply s1
            rcases List.mem_append.mp hb with y | y <;> simp [y]
          have g4' := g4 F4 (upd H4 c (.lst (ws.set m.toNat (.int (g x y))))) (.fz (.int (g x y))) (.int (g x y)) [] x4.ff (fun b hb xs z => upd_off (offC b hb) (x4.hh _ _ z)) ⟨rfl, rfl⟩
          have f4' := f4 F4 (upd H4 c (.lst (ws.set m.toNat (.int (g x y))))) (.nl (us.set m.toNat (.fz (.int (g x y))))) (.ref c) (c :: (C1 ++ ([] ++ C2))) (x3.ff.trans x4.ff) (fun b hb xs z => upd_off (off b hb) (x4.hh _ _ (x3.hh _ _ z))) ⟨c, _, _, rfl, rfl, upd_same, g4'⟩
          rw [set_self_of f1] at f4'
          refine l.nx F4 _ σ _ (e4.change i hv (t' := .nl (ts.set j (.nl (us.set m.toNat (.fz (.int (g x y))))))) (B := a :: (A1 ++ (c :: (C1 ++ ([] ++ C2)) ++ A2))) ⟨a, vs, _, rfl, rfl, upd_off hac (x4.hh _ _ (x3.hh _ _ ha2)), f4'⟩ ?_ ?_ ?_ ?_) p4
          · rw [← hA]; exact e.nod i
          · intro b hb
            rw [← hA] at hb
            exact ⟨(e4.new i b hb).1, (e4.new i b hb).2.1⟩
          · intro j' hj' b hb z
            rw [← hA] at hb
            exact e.dis j' i b hj' z hb
          · intro b o hb q'
            exact upd_off (fun z => hb (by rw [hA, z]; simp)) q'
        · exact p4.elim
      · exact p3.elim
    · exact p2.elim
  · exact w.elim
/-! ### a law whose script's numbers have no more than a million bits -/
def spLawB (K : PySem.W.Frag) : Sp := spL 1 fun vs H Q => ∃ (a : Addr) (ns : List Int), vs = [.ref a] ∧ SqL K H a (ns.map V.int) ∧ ns.length ≤ 63 ∧ (∀ m ∈ ns, ibN m ≤ 1048576) ∧ ∀ H', Q (.bl true) H'
theorem weight_ints : ∀ (ns : List Int), (∀ m ∈ ns, ibN m ≤ PySem.W.WData.weightAll (ns.map PySem.W.WData.int))
  | [], m, h => by cases h
  | n :: ns, m, h => by
    rw [List.map_cons]
    simp only [PySem.W.WData.weightAll]
    rcases List.mem_cons.mp h with rfl | h
    · have : ibN m = PySem.W.WData.weight (PySem.W.WData.int m) := by
        unfold ibN
        simp only [PySem.W.WData.weight]
        by_cases z : m = 0
        · subst z; rfl
        · simp [z]
      omega
    · have := weight_ints ns m h
      omega
end
end L2
namespace Att
open PySem PySem.W PySem.Calls PyProof.Rows
theorem attach_callB {l : OpenLaw} {n : Nat} {q : Program} {loose : List Str} {XP : (Str → Option Value) → Heap → Prop} {YP : World → Heap → Prop} {d : DefRec}
    (hn : l.most = some n) (hdf : d.params.defaults = [])
    (call : ∀ (w : World) (s₀ s₁ : Shared) (mg mb : Str → Option Value) (fa : Addr) (o : Obj) (pm cd doc : Value) (a : Addr) (vs : List Value) (ns : List Int),
      Ground q loose [] XP w s₀ mg mb s₁.heap → YP w s₁.heap →
      s₁.heap.get? fa = some o → o.data = .func (docDef d.name d.params d.body d.scope pm cd doc) → s₁.heap.CodeRec cd d.name → mg d.name = some (.ref fa) →
      s₁.heap.get? a = some { cls := .type "list", data := .seq vs.toArray } → IntsAre vs ns → ns.length ≤ n → (∀ m ∈ ns, L2.ibN m ≤ 1048576) → s₁.gens = #[] →
      codeAny (model l.prog w) callerA (.call (.ref fa) ⟨[.ref a], []⟩) (fun r s' => r = .ok (.ret (.bool true)) ∧ OldK s₁.heap s'.heap ∧ s'.os = s₁.os ∧ AllBare s'.gens) s₁) :
    WalkO q loose XP YP l.row.toRowW d [] (fun f vs => PySem.call f vs) := by
  intro w s₀ s₁ mg mb G Y fa o pm cd doc dV kV ho hd hcd hD hmg hg args vals as hpre hlay hrd hwl hlo
  obtain rfl : dV = .none := Dflts.none hD hdf
  obtain rfl : kV = .none := Dflts.noKw hD
  obtain ⟨a, vs, ns, rfl, rfl, hobj, hints, hlen⟩ := script_of hn hpre hwl
  have hbits : ∀ m ∈ ns, L2.ibN m ≤ 1048576 := fun m hm => by
    have h1 := L2.weight_ints ns m hm
    have h2 : WData.weight (WData.list (ns.map WData.int)) ≤ 2 ^ 20 := by
      simp only [WData.layableAll, List.all_cons, WData.layable, Bool.and_eq_true, decide_eq_true_eq] at hlay
      exact hlay.1.2
    simp only [WData.weight] at h2
    omega
  refine enter_call (codeAny_mono (call w s₀ s₁ mg mb fa o pm cd doc a vs ns G Y ho (fd_plain hd) hcd hmg hobj hints hlen hbits hg) fun r s' hq => ?_)
  obtain ⟨rfl, h2, h3, h4⟩ := hq
  exact ⟨.inl ⟨.bool true, .bool true, [], rfl, fun _ => rfl, .bool true, post_true l _, fun _ => ⟨List.Pairwise.nil, fun _ hm => (nomatch hm)⟩⟩, h2, h3, h4⟩
end Att
namespace L2
open PySem PySem.Spec PyProof.Rows
theorem law_walkB {l : PySem.W.OpenLaw} {k : Nat} {q : Program} {loose : List Str} {XP : (Str → Option Value) → Heap → Prop} {YP : World → Heap → Prop} {d : DefRec} {K : Params → PySem.W.Frag} (hn : l.most = some 63) (hdf : d.params.defaults = []) (hr : Room k callerA)
    (hY : ∀ (w : World) (h : Heap), YP w h → (K w.params).In h)
    (F : ∀ (w : World) (mg : Str → Option Value) (fa : Addr) (h : Heap), (K w.params).In h → h.Ns mainGlobals mg → mg d.name = some (.ref fa) →
      ∃ fd : FuncData, (∀ (s : Shared) (u : Value), BindsTo s fd ⟨[u], []⟩ [("_law_script", u)]) ∧ ∀ base : Heap, (K w.params).In base → base.Ns mainGlobals mg → FnOk l.prog w (K w.params) mg base CX0 k fa fd ["_law_script"] (spLawB (K w.params))) :
    PySem.W.WalkO q loose XP YP l.row.toRowW d [] (fun f vs => PySem.call f vs) := by
  refine Att.attach_callB hn hdf fun w s₀ s₁ mg mb fa o pm cd doc a vs ns G Y ho hd hcd hmg hobj hints hlen hbits hg => ?_
  have KX := hY w _ Y
  obtain ⟨fd, hb, hF⟩ := F w mg fa _ KX G.T.g hmg
  exact law_call (CX := CX0) (sp := spLawB (K w.params)) KX G.T.g G.T.b G.T.builtins G.T.nolimit hg hobj hints (Nat.le_trans hlen (by decide)) hr hF hb (fun H hO hS => ⟨rfl, a, ns, rfl, hS, hlen, hbits, fun _ => rfl⟩) fun H e s' z => z
theorem law_okB {P : Program} {w : World} {K : PySem.W.Frag} {mg : Str → Option Value} {base : Heap} {st : Stmt} {f : Addr} {fd : FuncData} {N : List Str} {k : Nat} (Df : DefAt K mg "law" st f fd) (S : FnScope N ["_law_script"] (defScope st))
    (hbody : ∀ (cdv : Value) (A : Around) (outer : List Env) (s : Shared) (H : Hp) (E : XK), Room k (A.deeper (envOfC "law" (defScope st) s.heap.objs.size f cdv)) →
      ∃ t T, PSs (cxOf CX0 P w K mg base N "law" (defScope st) f cdv A outer s H E).nox (defBody st) t ∧ SimS K t T ∧ ∀ ns : List Int, ns.length ≤ 63 → (∀ m ∈ ns, ibN m ≤ 1048576) → T { nx := fun _ => False, rt := fun r => r = .fz (.bl true) } (startV N [.lst (ns.map .int)])) : FnOk P w K mg base CX0 (k + 1) f fd ["_law_script"] (spLawB K) :=
  Df.fn.ok S (fun vs H Q E h => h.1) fun cdv A outer s H vs Q E hr h => by
    obtain ⟨_, a, ns, rfl, hS, hlen, hbits, q⟩ := h
    obtain ⟨t, T, h1, h2, h3⟩ := hbody cdv A outer s H E hr
    have hr' : Reps K H [.lst (ns.map D.int)] [.ref a] := ⟨_, _, rfl, ⟨a, _, rfl, hS, reps_ints.mpr rfl⟩, rfl⟩
    refine ⟨t, h1, h2 H H H H (start N [.ref a]) (startV N [.lst (ns.map .int)]) { nx := fun _ => False, rt := fun r => r = .fz (.bl true) } _ ⟨_, startV_er (Same.refl H) hr'⟩ ⟨fun F' H' σ δ e p => p.elim, fun _ _ _ _ _ z => z.elim, fun _ _ _ _ _ z => z.elim, fun F' H' r v x n p => ?_⟩ (h3 ns hlen hbits)⟩
    subst p
    obtain ⟨A, n1, _⟩ := n
    have : v = .bl true := n1.2
    subst this
    exact q H'
end L2

namespace L2
open PySem PySem.Spec PyProof.Rows
/-! ### enumerate of a list -/
def dEnum (As : DA) : DA := fun δ P => As δ fun ds => match ds with
  | [.lst xs] => xs.length ≤ 1000000 ∧ P ((List.range xs.length).map fun (i : Nat) => D.tup [.int i, xs.getD i .non])
  | _ => False
/-! ### a def that is handed a new list, changes it and gives it back -/
abbrev DMV := List OV → List D → (OV → Prop) → Prop
def dCallM (n : Nat) (sp : DMV) (Eo : DO) (As : DA) : DO := fun δ P => Eo δ fun r => match r with
  | .nl ts => As δ fun ds => ds.length + 1 = n ∧ sp ts ds P
  | _ => False
def startMV (N : List Str) (ts : List OV) (ds : List D) : Dst := some (.own (.nl ts)) :: (ds.map (fun d => some (.own (.fz d))) ++ List.replicate (N.length - (ds.length + 1)) none)
section
variable {X : Cx} {K : PySem.W.Frag} {mg : Str → Option Value}
theorem Inv.turned2 {pins : List (Addr × Obj)} {σ : St} {H : Hp} {s : Shared} {h' : Heap} {t' : Nat} {a1 a2 : Addr} (I : Inv X pins σ H s) (k : ∀ b o, b ≠ a1 → b ≠ a2 → s.heap.get? b = some o → h'.get? b = some o) (f1 : FpOk X pins H a1) (f2 : FpOk X pins H a2) : Inv X pins σ H { s with heap := h', toks := t' } := by
  obtain ⟨p0, p1, p2, p3, p4, p5⟩ := f1
  obtain ⟨q0, q1, q2, q3, q4, q5⟩ := f2
  have n1 : ∀ b u, H b = some u → b ≠ a1 := fun b u e z => by rw [z, p0] at e; cases e
  have n2 : ∀ b u, H b = some u → b ≠ a2 := fun b u e z => by rw [z, q0] at e; cases e
  have kk : ∀ b o, b ∉ [a1, a2] → s.heap.get? b = some o → h'.get? b = some o := fun b o hc e => k b o (fun z => hc (by simp [z])) (fun z => hc (by simp [z])) e
  refine I.step (g' := s.gens) (d' := s.drawn) (ch := [a1, a2]) (fun b hb => ?_) (fun b o _ _ hc e _ => kk b o hc e) (fun b o _ _ hc e _ => ⟨o.slots, kk b o hc e⟩) (fun _ _ _ _ n => n)
    (fun b o hc e => ⟨o, kk b o hc e⟩) (fun _ _ e => e) (fun _ _ _ e => e) (fun b ps e => ⟨#[], by rw [e]; simp⟩) (fun m hm => ?_) (fun b u e => ?_) I.bare
  · have e : b = a1 ∨ b = a2 := by simpa using hb
    rcases e with e | e
    · subst e
      exact ⟨p3, p1, p4, p5⟩
    · subst e
      exact ⟨q3, q1, q4, q5⟩
  · obtain ⟨o, es, ep, ho, r⟩ := hm
    exact ⟨o, es, ep, k _ o (Ne.symm p1) (Ne.symm q1) ho, r⟩
  · refine (I.hok b u e).stay (fun c v hc q => k c v ?_ ?_ q) (fun _ q => q) fun _ _ q => q
    · rcases hc with z | z
      · rw [z]; exact n1 b u e
      · exact n1 c _ z
    · rcases hc with z | z
      · rw [z]; exact n2 b u e
      · exact n2 c _ z
def Ite (K : PySem.W.Frag) (a : Addr) (xs : List V) : It :=
  ⟨fun i H => SqL K H a xs ∧ i < xs.length, fun i H x H' => ∃ p y, x = .ref p ∧ H p = none ∧ Same H H' ∧ xs[i]? = some y ∧ H' p = some (.tup [.int i, y]), fun i H => SqL K H a xs ∧ xs.length ≤ i⟩
theorem turn_enum {P : Program} {w : World} {K : PySem.W.Frag} {elts : List Expr} {x1 : Nat} {tpos : Pos} (a e it : Addr) (xs : List V) (hne : e ≠ it) :
    Turn P w K (.Tuple elts x1 tpos) (Ite K a xs) [e, it] e (fun i h => ∃ old, IsEnum h e it (i : Nat) old ∧ h.IsListIter it a i) where
  mem := by simp
  obj := fun i h st b hb => by
    obtain ⟨old, h1, h2⟩ := st
    have hb' : b = e ∨ b = it := by simpa using hb
    rcases hb' with z | z
    · subst z
      exact ⟨_, h1, fun v z => by cases z⟩
    · subst z
      obtain ⟨o, q1, q2, q3⟩ := h2
      exact ⟨o, q1, fun v z => by rw [q3] at z; cases z⟩
  keep := fun i h h' st k => by
    obtain ⟨old, h1, h2⟩ := st
    exact ⟨old, k e (by simp) _ h1, h2.at fun o q => k it (by simp) o q⟩
  item := by
    intro X hP hw hK hc i pins s σ H E I hf st hg
    subst hP hw hK
    obtain ⟨old, h1, h2⟩ := st
    obtain ⟨hq, hi⟩ := hg
    obtain ⟨its, rv, p, hz⟩ := I.list hq
    obtain ⟨u, hu, ru⟩ := rv.get (i := i) (x := xs[i]) (by simp [hi])
    refine wpAny_pyNext_enum_item h1 h2 p.isList (x := u) (by simpa using hu) hne fun h' g1 g2 g3 g4 g5 => ?_
    refine ⟨_, rfl, wpAny_letOwnedTupleGo_enum g1 fun h'' k1 k2 => ?_⟩
    have hf' := I.hok.fresh (Nat.le_refl _)
    have I0 : Inv X pins σ (upd H s.heap.objs.size (.tup [.int i, xs[i]])) { s with heap := s.heap.push { cls := .type "tuple", data := .seq #[.int i s.toks, u] }, toks := s.toks } :=
      I.laid (t' := s.toks) (o := .tup [.int i, xs[i]]) (fun b ob q => Heap.get?_push_of_some _ q) (Nat.le_refl _) ⟨sz_le (n := 2) (by decide), [.int i s.toks, u], .cons ⟨_, rfl⟩ (.cons ru .nil), ⟨_, Heap.get?_push_size _ rfl, rfl, _, rfl⟩⟩
    have fe : ∀ b ∈ [e, it], FpOk X pins (upd H s.heap.objs.size (.tup [.int i, xs[i]])) b := fun b hb => by
      obtain ⟨q0, q1, q2, q3, q4, q5⟩ := hf b hb
      refine ⟨?_, q1, q2, q3, q4, q5⟩
      rw [upd_ne]
      · exact q0
      · intro z
        have hb' : b = e ∨ b = it := by simpa using hb
        have hlt : b < s.heap.objs.size := by
          rcases hb' with y | y
          · rw [y]; exact Heap.lt_size h1
          · obtain ⟨o, r1, _⟩ := h2
            rw [y]; exact Heap.lt_size r1
        rw [z] at hlt
        exact Nat.lt_irrefl _ hlt
    have I1 : Inv X pins σ (upd H s.heap.objs.size (.tup [.int i, xs[i]])) { s with heap := h'', toks := s.toks + 1 } := by
      have := I0.turned2 (h' := h'') (t' := s.toks + 1) (a1 := e) (a2 := it) (fun b o b1 b2 q => ?_) (fe e (by simp)) (fe it (by simp))
      · exact this
      · have hb : h'.get? b = some o := by
          by_cases z : b = s.heap.objs.size
          · subst z
            rw [Heap.get?_push_size _ rfl] at q
            rw [← q]; exact g3
          · rw [Heap.get?_push_ne _ _ _ z] at q
            exact g5 b o b1 b2 q
        exact k2.extBut b o b1 hb
    refine ⟨.ref s.heap.objs.size, _, I1, rfl, ⟨_, xs[i], rfl, hf', Same.new hf', by simp [hi], upd_same⟩, ⟨u, ?_, ?_⟩, fun b hb => (fe b hb).1⟩
    · have : (((i + 1 : Nat) : Int)) = (i : Int) + 1 := by omega
      rw [this]; exact k1
    · exact g2.extBut k2.extBut (Ne.symm hne)
  done := by
    intro X hP hw hK hc i pins s σ H E I hf st hg
    subst hP hw hK
    obtain ⟨old, h1, h2⟩ := st
    obtain ⟨hq, hi⟩ := hg
    obtain ⟨its, rv, p, hz⟩ := I.list hq
    have hl := rv.length
    obtain ⟨f0, f1, f2, f3, f4, f5⟩ := hf it (by simp)
    exact wpAny_pyNext_enum_end (I.ok.hd hc) h1 h2 p.isList (by simp; omega) fun h' eb => ⟨rfl, I.turned (t' := s.toks) (fun b o hb q => eb b o hb q) f0 f1 f3 f4 f5⟩
  self := fun _ _ _ _ _ st h => by
    obtain ⟨old, h1, _⟩ := st
    exact wpAny_pyIter_enum h1 h
def iEnum (K : PySem.W.Frag) (ta : TA) : TI := fun σ H R => ta σ H fun vs H1 => ∃ a xs, vs = [.ref a] ∧ SqL K H1 a xs ∧ R (Ite K a xs) H1
theorem pi_enum {elts : List Expr} {x1 : Nat} {tpos : Pos} {l : Expr} {ta : TA} {p pos : Pos} (hg : Gl X "enumerate") (hm : X.mg "enumerate" = none) (ha : PA X [l] ta) (hs : starEach [l] X.env = [(false, eval l X.env)] := by rfl) : PI X (.Tuple elts x1 tpos) (.Call (.Name "enumerate" p) [l] [] pos) (iEnum X.K ta) := by
  intro pins s σ H R I h
  refine Call_ (ld_blt I hg hm PyProof.Rows.boot_enumerate (PyProof.Rows.callWith_type1 (thn (ha pos pins s σ H _ I h) fun us s1 ⟨vs, H1, I1, r1, q1⟩ => ?_) hs rfl))
  obtain ⟨a, xs, e, hq, q⟩ := q1
  subst e
  obtain ⟨u, rfl, ru⟩ := vals1 r1
  cases ru
  obtain ⟨its, rv, pt, hz⟩ := I1.list hq
  refine PySem.call_enumerate_list pt.isList fun h' g1 g2 g3 g4 => ?_
  have I2 : Inv X pins σ H1 { s1 with heap := h', toks := s1.toks } := I1.kept (t' := s1.toks) g4
  refine wpAny_pyIter_enum (s := { s1 with heap := h', toks := s1.toks }) g1 ?_
  refine ⟨s1.heap.objs.size + 1, [s1.heap.objs.size + 1, s1.heap.objs.size], _, _, H1, rfl, I2, turn_enum a _ _ xs (Nat.succ_ne_self _), ⟨_, g1, g2⟩, fun b hb => ?_, q⟩
  have hb' : b = s1.heap.objs.size + 1 ∨ b = s1.heap.objs.size := by simpa using hb
  rcases hb' with z | z
  · subst z
    exact I1.fpOk (Nat.le_succ _) (I1.hok.fresh (Nat.le_succ _))
  · subst z
    exact I1.fpOk (Nat.le_refl _) (I1.hok.fresh (Nat.le_refl _))
theorem sI_enum {a : TA} {As : DA} (h : SimAF K a As) : SimI K (iEnum K a) (dEnum As) := fun F0 H0 F H σ δ P R e w q => h F0 H0 F H σ δ _ _ e w fun ds vs F' H' p x r => by
  try dsimp only at p
  split at p
  · rename_i xs
    obtain ⟨v, rfl, a, us, rfl, h1, h2⟩ := reps1 r
    have hl := h2.length
    refine ⟨a, us, rfl, x.fh.seq h1, q _ _ F' H' p.2 x fun F1 H1 s1 s2 => ?_⟩
    have hq := (s1.trans s2).seq h1
    rw [List.length_map, List.length_range]
    refine ⟨fun i hi => ⟨hq, by omega⟩, ⟨hq, by omega⟩, fun i x H2 hi y => ?_⟩
    obtain ⟨t, y, rfl, ht, sm, hy, ht2⟩ := y
    obtain ⟨d, hd, rd⟩ := h2.get' hy
    refine ⟨.tup [.int i, d], upd F1 t (.tup [.int i, y]), ?_, Ext.new s2 ht sm ht2, t, [.int i, y], rfl, .inl (.inl upd_same), ?_⟩
    · rw [List.getElem?_map, List.getElem?_range hi]
      simp only [Option.map_some, List.getD_eq_getElem?_getD, hd, Option.getD_some]
    · exact ⟨_, _, rfl, rfl, _, _, rfl, (rd.mono s1).mono (Same.upd' (s2.free ht)), rfl⟩
  · exact p.elim
end
end L2

namespace L2
open PySem PySem.Spec PyProof.Rows
/-- x.bit_length() -/
def dBitL (E : DE) : DE := fun δ P => E δ fun d => match d with
  | .int i => P (.int (ibN i))
  | _ => False
def CPowB (i j : Int) : Prop := 0 ≤ j ∧ (ibN i : Int) * j ≤ 2 ^ 27
section
variable {X : Cx} {K : PySem.W.Frag}
def rBitL : V → List V → Hp → VK → Prop := fun x xs H Q => ∃ i, x = .int i ∧ xs = [] ∧ Q (.int (ibN i)) H
theorem mt_bitL : MtR X "int.bit_length" rBitL := by
  intro pins s σ H x vs v us Q I rx rv h
  obtain ⟨i, rfl, rfl, q⟩ := h
  obtain ⟨t, rfl⟩ := rx
  cases rv
  refine call_int_bit_length ?_
  rw [ibN_eq]
  exact ⟨.int _, H, I.tok _, ⟨_, rfl⟩, q⟩
theorem sF_bitL {to : TE} {E : DE} (h : SimB K to E) : SimF K (tBM0 K "int" rBitL to) (dBitL E) := fun F0 H0 F H σ δ P Q e w q => h F0 H0 F H σ δ _ _ e w fun d v F1 H1 w1 x1 r1 => by
  try dsimp only at w1
  split at w1
  · have e1 : v = _ := r1
    subst e1
    exact ⟨rfl, _, rfl, rfl, q _ _ F1 H1 w1 x1 rfl⟩
  · exact w1.elim
theorem op_powB : OpR X (binaryOp .Pow) (rI CPowB fun i j => .int (i ^ j.toNat)) := opI fun i j _ _ _ _ _ hc q => pow_int hc.1 (by rw [ibN_eq]; exact hc.2) q
theorem cS_maxL : CbS K (rMaxL K) maxLD := fun F H ds vs P Q s rs w q => by
  unfold maxLD at w
  split at w
  · obtain ⟨ns, rfl, hn, w⟩ := w
    obtain ⟨v, rfl, p, us, rfl, h1, h2⟩ := reps1 rs
    rw [reps_ints] at h2
    subst h2
    exact ⟨p, ns, rfl, h1, hn, fun M hM hA => q _ _ F H (w M hM hA) (Ext.refl s) rfl⟩
  · exact w.elim
end
end L2

namespace L2
open PySem PySem.Spec PyProof.Rows
/-! ### a block that changes nothing: all is frozen in it, and given back behind it -/
def fixS (v : V) : Option Sl → Option Sl
  | some (.own t) => some (.own (.fx v t.val))
  | s => s
def fixFrom (vs : Nat → V) : Nat → Dst → Dst
  | _, [] => []
  | i, s :: r => fixS (vs i) s :: fixFrom vs (i + 1) r
def unlS (v : V) : Option Sl → Option Sl → Option Sl
  | some (.own t), some (.own (.fx u _)) => if u = v then some (.own t) else none
  | _, some (.own (.fz d)) => if d.lf = true then some (.own (.fz d)) else none
  | _, _ => none
def unlFrom (vs : Nat → V) : Nat → Dst → Dst → Dst
  | i, o :: os, n :: ns => unlS (vs i) o n :: unlFrom vs (i + 1) os ns
  | _, _, _ => []
def sLend (T : DS) : DS := fun De δ => ∀ vs : Nat → V, T { nx := fun δ' => δ'.length = δ.length ∧ De.nx (unlFrom vs 0 δ δ'), rt := fun r => r.lf = true ∧ De.rt r } (fixFrom vs 0 δ)
section
variable {K : PySem.W.Frag} {mg : Str → Option Value}
theorem fix_get {vs : Nat → V} : ∀ (δ : Dst) (k i : Nat), (fixFrom vs k δ)[i]? = (δ[i]?).map (fixS (vs (k + i)))
  | [], k, i => by simp [fixFrom]
  | s :: r, k, 0 => by simp [fixFrom]
  | s :: r, k, i + 1 => by
    have := fix_get (vs := vs) r (k + 1) i
    simp only [fixFrom, List.getElem?_cons_succ, this]
    rw [show k + 1 + i = k + (i + 1) by omega]
theorem fix_len {vs : Nat → V} : ∀ (δ : Dst) (k : Nat), (fixFrom vs k δ).length = δ.length
  | [], k => rfl
  | s :: r, k => by simp [fixFrom, fix_len r]
theorem unl_get {vs : Nat → V} : ∀ (δ δ' : Dst) (k i : Nat) (s : Option Sl), (unlFrom vs k δ δ')[i]? = some s → ∃ o n, δ[i]? = some o ∧ δ'[i]? = some n ∧ s = unlS (vs (k + i)) o n
  | [], δ', k, i, s, h => by simp [unlFrom] at h
  | o :: os, [], k, i, s, h => by simp [unlFrom] at h
  | o :: os, n :: ns, k, 0, s, h => by
    simp [unlFrom] at h
    exact ⟨o, n, rfl, rfl, by simpa using h.symm⟩
  | o :: os, n :: ns, k, i + 1, s, h => by
    simp only [unlFrom, List.getElem?_cons_succ] at h
    obtain ⟨o', n', h1, h2, h3⟩ := unl_get os ns (k + 1) i s h
    exact ⟨o', n', by simpa using h1, by simpa using h2, by rw [h3, show k + 1 + i = k + (i + 1) by omega]⟩
theorem unl_len {vs : Nat → V} : ∀ (δ δ' : Dst) (k : Nat), δ.length = δ'.length → (unlFrom vs k δ δ').length = δ.length
  | [], [], k, _ => rfl
  | o :: os, n :: ns, k, h => by simp [unlFrom, unl_len os ns (k + 1) (by simpa using h)]
  | [], _ :: _, _, h => by simp at h
  | _ :: _, [], _, h => by simp at h
theorem sS_lend {t : TS} {T : DS} (h : SimS K t T) : SimS K t (sLend T) := fun F0 H0 F H σ δ De E ⟨A, e⟩ l w => by
  obtain ⟨vs, hval⟩ : ∃ vs : Nat → V, ∀ (i : Nat) (v : V), σ[i]? = some (some v) → vs i = v := ⟨fun i => match σ[i]? with | some (some v) => v | _ => V.non, fun i v hv => by dsimp only; rw [hv]⟩
  have env : ER K H H H H σ (fixFrom vs 0 δ) (fun _ => []) := by
    refine ⟨by rw [fix_len]; exact e.len, Ext.refl (Same.refl _), fun i t hi => ?_, fun i d hi => ?_, fun _ => List.nodup_nil, (fun _ _ _ _ z => by cases z), (fun _ _ z => by cases z)⟩
    · rw [fix_get] at hi
      cases q : δ[i]? with
      | none => rw [q] at hi; cases hi
      | some o =>
        rw [q] at hi
        cases o with
        | none => cases hi
        | some s =>
          cases s with
          | own t0 =>
            obtain ⟨v, hv, hr⟩ := e.own i t0 q
            have hi' := Option.some.inj (Option.some.inj hi)
            cases hi'
            refine ⟨v, hv, rfl, ?_, hr.rep e.ext.fh fun a _ xs z => z⟩
            rw [Nat.zero_add]; exact (hval i v hv).symm
          | bw d => cases hi
    · rw [fix_get] at hi
      cases q : δ[i]? with
      | none => rw [q] at hi; cases hi
      | some o =>
        rw [q] at hi
        cases o with
        | none => cases hi
        | some s =>
          cases s with
          | own t0 => cases hi
          | bw d0 =>
            have hi' := Option.some.inj (Option.some.inj hi)
            cases hi'
            obtain ⟨v, hv, hr⟩ := e.bw i d q
            exact ⟨v, hv, hr.mono e.ext.hh⟩
  have up : ∀ F' H', Ext H H F' H' → Ext F H (frzT F F') H' := fun F' H' x => by
    have s1 : Same F F' := e.ext.fh.trans x.ff
    have x2 := frzT_ext s1
    exact ⟨x2.ff, x.hh, x2.fh.trans x.fh, fun a o z1 z2 z3 => x2.no a o z1 (x.ff _ _ z2) z3⟩
  refine h H H H H σ _ { nx := fun δ' => δ'.length = δ.length ∧ De.nx (unlFrom vs 0 δ δ'), rt := fun r => r.lf = true ∧ De.rt r } E ⟨_, env⟩ ⟨fun F' H' σ' δ' e' p => ?_, fun _ _ _ _ _ z => z.elim, fun _ _ _ _ _ z => z.elim, fun F' H' r v x n p => ?_⟩ (w vs)
  · obtain ⟨A', e'⟩ := e'
    have x := e'.ext
    have xo := up F' H' x
    have s1 : Same F F' := e.ext.fh.trans x.ff
    obtain ⟨hl, p⟩ := p
    have key : ∀ (i : Nat) (t : OV), (unlFrom vs 0 δ δ')[i]? = some (some (.own t)) → (δ[i]? = some (some (.own t)) ∧ ∃ d, δ'[i]? = some (some (.own (.fx (vs i) d)))) ∨ ∃ d, t = .fz d ∧ δ'[i]? = some (some (.own (.fz d))) ∧ d.lf = true := fun i t hi => by
      obtain ⟨o, n, h1, h2, h3⟩ := unl_get _ _ _ _ _ hi
      rw [Nat.zero_add] at h3
      unfold unlS at h3
      split at h3
      · split at h3
        · rename_i z
          cases h3
          subst z
          exact .inl ⟨h1, _, h2⟩
        · cases h3
      · split at h3
        · rename_i z
          cases h3
          exact .inr ⟨_, rfl, h2, z⟩
        · cases h3
      · cases h3
    refine l.nx (frzT F F') H' σ' _ ⟨fun j => match δ'[j]? with | some (some (.own (.fx _ _))) => A j | _ => [], ?_⟩ p
    refine ⟨by rw [unl_len _ _ _ hl.symm, ← hl]; exact e'.len, e.ext.trans xo, fun i t hi => ?_, fun i d hi => ?_, fun j => ?_, fun j k b hjk y1 y2 => ?_, fun j b hb => ?_⟩
    · rcases key i t hi with ⟨h1, d, h2⟩ | ⟨d, rfl, h2, h3⟩
      · obtain ⟨v, hv, hr⟩ := e.own i t h1
        obtain ⟨v', hv', _, hvv, _⟩ := e'.own i _ h2
        rw [hval i v hv] at hvv
        subst hvv
        refine ⟨v', hv', ?_⟩
        rw [h2]
        exact hr.frame xo.ff fun a _ xs z => xo.hh _ _ z
      · obtain ⟨v', hv', _, hr⟩ := e'.own i _ h2
        refine ⟨v', hv', ?_⟩
        rw [h2]
        exact ⟨rfl, Rep.lf s1 hr h3⟩
    · obtain ⟨o, n, h1, h2, h3⟩ := unl_get _ _ _ _ _ hi
      unfold unlS at h3
      split at h3
      · split at h3 <;> cases h3
      · split at h3 <;> cases h3
      · cases h3
    · try dsimp only
      split
      · exact e.nod j
      · exact List.nodup_nil
    · try dsimp only at y1 y2
      split at y1
      · split at y2
        · exact e.dis j k b hjk y1 y2
        · cases y2
      · cases y1
    · try dsimp only at hb
      split at hb
      · obtain ⟨h1, h2, xs, h3⟩ := e.new j b hb
        exact ⟨xo.no b _ h1 h3 rfl, h2, xs, xo.hh _ _ h3⟩
      · cases hb
  · obtain ⟨B, b1, b2, b3⟩ := n
    have s1 : Same F F' := e.ext.fh.trans x.ff
    have x2 := frzT_ext s1
    refine l.rt (frzT F F') H' r v (e.ext.trans (up F' H' x)) ⟨B, b1.lf s1 p.1, b2, fun b hb => ⟨e.ext.hh.free (b3 b hb).1, x2.fh.free (b3 b hb).2⟩⟩ p.2
/-! ### a new list is handed over to a callee -/
def spMV (K : PySem.W.Frag) (n : Nat) (sp : DMV) : Sp := spL n fun vs H Q => ∃ F a ts vs0 B rest ds P, vs = V.ref a :: rest ∧ Same F H ∧ H a = some (.lst vs0) ∧ RepOs K F H ts vs0 B ∧ (a :: B).Nodup ∧ (∀ b ∈ a :: B, F b = none) ∧ Reps K F ds rest ∧ sp ts ds P ∧
  ∀ r v F' H', P r → Ext F (fun b => if b ∈ a :: B then none else H b) F' H' → RepN K (fun b => if b ∈ a :: B then none else H b) F' H' r v → Q v H'
theorem sO_callM {n : Nat} {sp : DMV} {te : TE} {Eo : DO} {a : TA} {As : DA} (h : SimO K te Eo) (ha : SimAF K a As) : SimO K (tCall (spMV K n sp) [] E0 (tCons te a)) (dCallM n sp Eo As) := fun F0 H0 F H σ δ P Q e w q =>
  h F0 H0 F H σ δ _ _ e w fun r v F1 H1 w1 x1 r1 => by
    try dsimp only at w1
    split at w1
    · rename_i ts
      obtain ⟨A0, ⟨p, vs, B, rfl, rfl, hp, hB⟩, a2, a3⟩ := r1
      refine ha F0 H0 F1 H1 σ δ _ _ (e.on x1) w1 fun ds us F2 H2 w2 x2 r2 => ?_
      show spMV K n sp ((V.ref p :: us) ++ []) H2 Q E0
      rw [List.append_nil]
      refine ⟨by rw [List.length_cons, ← r2.length]; exact w2.1, F2, p, ts, vs, B, us, ds, P, rfl, x2.fh, x2.hh _ _ hp, hB.frame x2.ff fun b _ xs z => x2.hh _ _ z, a2, fun b hb => ?_, r2, w2.2, fun r v F' H' pr x' n' => ?_⟩
      · rcases List.mem_cons.mp hb with z | z
        · rw [z]; exact x2.no p _ (a3 p List.mem_cons_self).2 hp rfl
        · obtain ⟨xs, y⟩ := hB.isl b z
          exact x2.no b _ (a3 b hb).2 y rfl
      · have sm : Same H (fun b => if b ∈ p :: B then none else H2 b) := fun b o z => by
          have hn : b ∉ p :: B := fun y => by rw [(a3 b y).1] at z; cases z
          dsimp only
          rw [if_neg hn]
          exact x2.hh _ _ (x1.hh _ _ z)
        refine q r v F' H' pr ⟨x1.ff.trans (x2.ff.trans x'.ff), sm.trans x'.hh, x'.fh, fun b o z1 z2 z3 => ?_⟩ (n'.old sm)
        exact x'.no b o (x2.no b o (x1.no b o z1 z2 z3) (x1.hh _ _ z2) z3) (sm _ _ z2) z3
    · exact w1.elim
theorem CalMV.of {P : Program} {w : World} {base : Heap} {x : Str} {st : Stmt} {f : Addr} {fd : FuncData} {N ps : List Str} {k n : Nat} {sp : DMV} (Df : DefAt K mg x st f fd) (S : FnScope N ps (defScope st))
    (hb : ∀ (kV doc pm : Value) (an : Option Addr) (cdv ct : Value) (us : List Value), us.length = ps.length → bindArgs (PySem.W.fnOf x x (defArgs st) (defBody st) (defScope st) .none kV doc pm an cdv ct) ⟨us, []⟩ = pure (ps.zip us)) (hn : n = ps.length)
    (hbody : ∀ (cdv : Value) (A : Around) (outer : List Env) (s : Shared) (H : Hp) (E : XK), Room k (A.deeper (envOfC x (defScope st) s.heap.objs.size f cdv)) →
      ∃ t T, PSs (cxOf CX0 P w K mg base N x (defScope st) f cdv A outer s H E).nox (defBody st) t ∧ SimS K t T ∧ ∀ ts ds Pr, sp ts ds Pr → T { nx := fun _ => Pr (.fz .non), rt := Pr } (startMV N ts ds)) : Cal P w K mg base x (k + 1) ps (spMV K n sp) :=
  Cal.of Df S hb (fun vs H Q E h => by rw [← hn]; exact h.1) fun cdv A outer s H vs Q E hr h => by
    obtain ⟨_, F, a, ts, vs0, B, rest, ds, Pr, rfl, hs, ha, hB, hnd, hnf, hr', hsp, hq⟩ := h
    obtain ⟨t, T, h1, h2, h3⟩ := hbody cdv A outer s H E hr
    have hl := hr'.length
    have er : ER K F (fun b => if b ∈ a :: B then none else H b) F H (start N (V.ref a :: rest)) (startMV N ts ds) (fun j => if j = 0 then a :: B else []) := by
      refine ⟨by simp [start, startMV, hl], ⟨Same.refl _, fun b o z => ?_, hs, fun _ _ z _ _ => z⟩, fun i t hi => ?_, fun i d hi => ?_, fun j => ?_, fun j k b hjk y1 y2 => ?_, fun j b hb => ?_⟩
      · try dsimp only at z
        split at z
        · cases z
        · exact z
      · unfold startMV at hi
        cases i with
        | zero =>
          simp at hi
          subst hi
          exact ⟨.ref a, rfl, a, vs0, B, rfl, rfl, ha, hB⟩
        | succ i =>
          rw [List.getElem?_cons_succ] at hi
          try dsimp only
          rw [if_neg (by omega)]
          by_cases z : i < ds.length
          · rw [List.getElem?_append_left (by simpa using z), List.getElem?_map, List.getElem?_eq_getElem z] at hi
            simp at hi
            subst hi
            obtain ⟨v, g1, g2⟩ := hr'.get (List.getElem?_eq_getElem z)
            refine ⟨v, ?_, rfl, g2⟩
            unfold start
            rw [List.map_cons, List.cons_append, List.getElem?_cons_succ, List.getElem?_append_left (by simp; omega), List.getElem?_map, g1]
            rfl
          · rw [List.getElem?_append_right (by simpa using z)] at hi
            have := List.mem_of_getElem? hi
            rw [List.mem_replicate] at this
            cases this.2
      · unfold startMV at hi
        cases i with
        | zero => simp at hi
        | succ i =>
          rw [List.getElem?_cons_succ] at hi
          by_cases z : i < ds.length
          · rw [List.getElem?_append_left (by simpa using z), List.getElem?_map, List.getElem?_eq_getElem z] at hi
            simp at hi
          · rw [List.getElem?_append_right (by simpa using z)] at hi
            have := List.mem_of_getElem? hi
            rw [List.mem_replicate] at this
            cases this.2
      · try dsimp only
        split
        · exact hnd
        · exact List.nodup_nil
      · try dsimp only at y1 y2
        split at y1
        · split at y2
          · omega
          · cases y2
        · cases y1
      · try dsimp only at hb
        split at hb
        · refine ⟨hnf b hb, if_pos hb, ?_⟩
          rcases List.mem_cons.mp hb with y | y
          · rw [y]; exact ⟨_, ha⟩
          · exact hB.isl b y
        · cases hb
    refine ⟨t, h1, h2 F _ F H (start N (V.ref a :: rest)) (startMV N ts ds) { nx := fun _ => Pr (.fz .non), rt := Pr } _ ⟨_, er⟩ ⟨fun F' H' σ δ e p => ?_, fun _ _ _ _ _ z => z.elim, fun _ _ _ _ _ z => z.elim, fun F' H' r v x n p => hq r v F' H' p x n⟩ (h3 ts ds Pr hsp)⟩
    exact hq _ _ F' H' p e.ext (.fz rfl)
end
end L2

namespace L2
open PySem PySem.Spec PyProof.Rows
/-! ### list(range(i, j, c)) -/
def dListR (As : DA) : DO := fun δ P => As δ fun ds => match ds with
  | [.int i, .int j, .int c] => (-(2 ^ 61) ≤ i ∧ i < 2 ^ 61 ∧ -(2 ^ 61) ≤ j ∧ j < 2 ^ 61 ∧ 0 < c ∧ c < 2 ^ 29) ∧ rngN i j c ≤ 1000000 ∧ P (.nl ((List.range (rngN i j c)).map fun (k : Nat) => OV.fz (.int (i + k * c))))
  | _ => False
section
variable {X : Cx} {K : PySem.W.Frag}
def tListR (ta : TA) : TE := fun σ H Q => ta σ H fun vs H1 => ∃ i j c : Int, vs = [.int i, .int j, .int c] ∧ (-(2 ^ 61) ≤ i ∧ i < 2 ^ 61 ∧ -(2 ^ 61) ≤ j ∧ j < 2 ^ 61 ∧ 0 < c ∧ c < 2 ^ 29) ∧ rngN i j c ≤ 1000000 ∧ ∀ p H', H1 p = none → Same H1 H' → H' p = some (.lst ((List.range (rngN i j c)).map fun (k : Nat) => V.int (i + k * c))) → Q (.ref p) H'
theorem vals_of_items {a c : Int} {acc : Array Value} {n : Nat} (h : ItemsOf (fun i v => ∃ t, v = .int (a + i * c) t) acc n) : Vals ((List.range n).map fun (k : Nat) => V.int (a + k * c)) acc.toList := by
  obtain ⟨h1, h2⟩ := h
  have go : ∀ (us : List Value) (k : Nat), (∀ (j : Nat) v, us[j]? = some v → ∃ t, v = .int (a + ((k + j : Nat) : Int) * c) t) → Vals ((List.range us.length).map fun (j : Nat) => V.int (a + ((k + j : Nat) : Int) * c)) us := by
    intro us
    induction us with
    | nil => intro k _; exact .nil
    | cons u us ih =>
      intro k hk
      rw [List.length_cons, List.range_succ_eq_map, List.map_cons, List.map_map]
      refine .cons (hk 0 u rfl) ?_
      have := ih (k + 1) fun j v hv => by
        obtain ⟨t, e⟩ := hk (j + 1) v (by simpa using hv)
        exact ⟨t, by rw [e, show k + (j + 1) = k + 1 + j by omega]⟩
      have e : ((fun (j : Nat) => V.int (a + ((k + j : Nat) : Int) * c)) ∘ Nat.succ) = fun (j : Nat) => V.int (a + ((k + 1 + j : Nat) : Int) * c) := by
        funext j
        simp only [Function.comp, Nat.succ_eq_add_one]
        rw [show k + (j + 1) = k + 1 + j by omega]
      rw [e]; exact this
  have := go acc.toList 0 fun j v hv => by
    rw [Nat.zero_add]
    exact h2 j v (by simpa using hv)
  simp only [Nat.zero_add, Array.length_toList, h1] at this
  exact this
theorem pe_listR {a b d : Expr} {ta : TA} {p p' pos pos' : Pos} (hg : Gl X "list") (hm : X.mg "list" = none) (hc : X.calm = true) (hm' : X.mg "range" = none) (ha : PA X [a, b, d] ta) (hg' : Gl X "range" := by rfl)
    (hs : starEach [a, b, d] X.env = (false, eval a X.env) :: starEach [b, d] X.env := by rfl) (hpl : (backTo pos' (starEach [b, d] X.env)).any (·.1) = false := by rfl)
    (hs2 : starEach [Expr.Call (.Name "range" p') [a, b, d] [] pos'] X.env = [(false, eval (Expr.Call (.Name "range" p') [a, b, d] [] pos') X.env)] := by rfl) :
    PE X (.Call (.Name "list" p) [.Call (.Name "range" p') [a, b, d] [] pos'] [] pos) (tListR ta) := by
  intro pins s σ H Q I h
  refine Call_ (ld_blt I hg hm PyProof.Rows.boot_list (PyProof.Rows.callWith_type1 ?_ hs2 rfl))
  rw [hs2]
  show wpAny _ _ (spliced [(false, eval (Expr.Call (.Name "range" p') [a, b, d] [] pos') X.env)]) _ _ s
  refine Calls.spliced_cons ?_
  refine Call_ (ld_blt I hg' hm' boot_range (PyProof.Rows.callWith_type1 (thn (ha pos' pins s σ H _ I h) fun us s1 ⟨vs, H1, I1, r1, q1⟩ => ?_) hs hpl))
  obtain ⟨i, j, c, e, ⟨q1, q2, q3, q4, q5, q6⟩, hsz, q⟩ := q1
  subst e
  cases r1 with
  | cons r rr =>
    cases rr with
    | cons r' rr =>
      cases rr with
      | cons r'' rr =>
        cases rr
        obtain ⟨t, rfl⟩ := r
        obtain ⟨t', rfl⟩ := r'
        obtain ⟨t'', rfl⟩ := r''
        refine PySem.call_range_3 (by omega) ?_ (.inl (PyProof.noPylong_small (by omega)))
        refine Calls.spliced_nil ?_
        have I2 : Inv X pins σ H1 { s1 with heap := s1.heap.push { cls := .type "range", data := .fields #[.int i t, .int j t', .int c t''] }, toks := s1.toks } := I1.kept fun b o e => Heap.get?_push_of_some _ e
        have hn : Builtin.Range.rangeSize i j c = ((rngN i j c : Nat) : Int) := by
          have z : 0 ≤ Builtin.Range.rangeSize i j c := by
            unfold Builtin.Range.rangeSize
            rw [if_pos (show c > 0 from q5)]
            split
            · have e2 : 0 ≤ (j - i - 1) / c := Int.ediv_nonneg (by omega) (by omega)
              omega
            · omega
          unfold rngN; omega
        refine PySem.call_list_range (I.ok.hd hc) (IsRange.new ..) (small_step q1 q2 q3 q4 q5 (by omega)) hn (by omega) fun h' tk acc c' hk ho hit => ?_
        have hf := I2.hok.fresh (Nat.le_refl _)
        refine ⟨.ref _, _, I2.laid (t' := tk) (o := .lst ((List.range (rngN i j c)).map fun (k : Nat) => V.int (i + k * c))) hk (Nat.le_refl _) ⟨?_, acc.toList, c', vals_of_items hit, ?_⟩, rfl, q _ _ hf (Same.new hf) upd_same⟩
        · rw [List.length_map, List.length_range]; exact sz_le hsz
        · simpa using ho
theorem sO_listR {a : TA} {As : DA} (h : SimAB K a As) : SimO K (tListR a) (dListR As) := fun F0 H0 F H σ δ P Q e w q => h F0 H0 F H σ δ _ _ e w fun ds vs F1 H1 w1 x1 r1 => by
  try dsimp only at w1
  split at w1
  · rename_i i j c
    obtain ⟨v, u, z, rfl, e1, e2, e3⟩ := reps3 r1
    obtain ⟨p1, p2, p3⟩ := w1
    refine ⟨i, j, c, by rw [show v = _ from e1, show u = _ from e2, show z = _ from e3], p1, p2, fun l H' l0 sm l1 => ?_⟩
    have hr : Reps K F1 (((List.range (rngN i j c)).map fun (k : Nat) => i + (k : Int) * c).map D.int) (((List.range (rngN i j c)).map fun (k : Nat) => i + (k : Int) * c).map V.int) := reps_ints.mpr rfl
    have n1 := RepN.list (K := K) (H := H) (H' := H') (x1.hh.free l0) (x1.fh.free l0) (by rw [List.map_map]; exact l1) hr
    rw [List.map_map, List.map_map] at n1
    exact q _ _ F1 H' p3 (x1.trans (Ext.grow x1.fh sm)) n1
  · exact w1.elim
end
end L2

namespace L2
open PySem PySem.Spec PyProof.Rows
/-- x[k].append(e), k of either sign -/
def sApp2N (i : Nat) (Ei : DE) (E : DO) : DS := fun De δ => match δ[i]? with
  | some (some (.own (.nl ts))) => Ei δ fun k => match k with
    | .int k => ∃ j us, ixN ts.length k = some j ∧ ts[j]? = some (.nl us) ∧ us.length < 1000000 ∧ E δ fun r => De.nx (δ.set i (some (.own (.nl (ts.set j (.nl (us ++ [r])))))))
    | _ => False
  | _ => False
section
variable {X : Cx} {K : PySem.W.Frag}
theorem sS_app2N {i : Nat} {ti te : TE} {Ei : DE} {Eo : DO} (hi : SimB K ti Ei) (h : SimO K te Eo) : SimS K (tDrop (tBM K "list" rAppend (tOp (rIxL K) (tVar i) ti) (tCons te tNil))) (sApp2N i Ei Eo) := fun F0 H0 F H σ δ De En e l w => by
  obtain ⟨A, e⟩ := e
  unfold sApp2N at w
  split at w
  · rename_i ts hs
    obtain ⟨v, hv, a, vs, B, rfl, eA, ha, hB⟩ := e.own i _ hs
    refine ⟨_, hv, ?_⟩
    refine hi F0 H0 F H σ δ _ _ ⟨A, e⟩ w fun k kv F1 H1 p x1 r1 => ?_
    split at p
    · rename_i k
      obtain ⟨j, us, hj, hk, hus, p⟩ := p
      have e1 := e.on x1
      have ha1 := x1.hh _ _ ha
      have hB1 : RepOs K F1 H1 ts vs B := hB.frame x1.ff fun b _ xs z => x1.hh _ _ z
      obtain ⟨v0, A1, B0, A2, f1, rfl, f3, f4⟩ := hB1.focus hk
      obtain ⟨c, ws, B1, rfl, rfl, hc, hws⟩ := f3
      have at1 : atI vs k = some (.ref c) := by
        unfold atI
        rw [← hB1.length, hj]; exact f1
      refine ⟨a, vs, k, .ref c, rfl, r1, SqL.of ha1, at1, .inl ⟨rfl, _, SqL.of hc⟩, ?_⟩
      refine h F0 H0 F1 H1 σ δ _ _ ⟨A, e1⟩ p fun r u F2 H2 p2 x2 n => ?_
      obtain ⟨C, c1, c2, c3⟩ := n
      have e2 := e1.on x2
      have hl := hws.length
      refine ⟨c, ws, u, rfl, rfl, x2.hh _ _ hc, sz_lt (by omega), ?_⟩
      have hnd := e.nod i
      rw [eA] at hnd
      have hA : A i = a :: (A1 ++ (c :: B1 ++ A2)) := eA
      obtain ⟨n1, n2⟩ := List.nodup_cons.mp hnd
      obtain ⟨m1, m2, m3⟩ := List.nodup_append.mp n2
      obtain ⟨q1, q2, q3⟩ := List.nodup_append.mp m2
      obtain ⟨s1, s2⟩ := List.nodup_cons.mp q1
      have hCA : ∀ j b, b ∈ C → b ∉ A j := fun j b hb z => by
        obtain ⟨_, _, xs, q⟩ := e1.new j b z
        rw [(c3 b hb).1] at q; cases q
      have hcA : c ∈ A i := by rw [hA]; simp
      have hac : a ≠ c := fun z => n1 (by rw [z]; simp)
      have hcC : c ∉ C := fun z => hCA i c z hcA
      have off : ∀ b ∈ A1 ++ A2, b ≠ c := fun b hb z => by
        subst z
        rcases List.mem_append.mp hb with y | y
        · exact m3 b y b (by simp) rfl
        · exact q3 b (by simp) b y rfl
      have ina : ∀ b, b ∈ a :: (A1 ++ (c :: (B1 ++ C) ++ A2)) → b ∈ A i ∨ b ∈ C := fun b hb => by
        rw [hA]
        simp only [List.mem_cons, List.mem_append, List.cons_append] at hb ⊢
        rcases hb with z | z | z | (z | z) | z <;> simp [z]
      have f4' := f4 F2 (upd H2 c (.lst (ws ++ [u]))) (.nl (us ++ [r])) (.ref c) (c :: (B1 ++ C)) x2.ff (fun b hb xs z => upd_off (off b hb) (x2.hh _ _ z))
        ⟨c, ws ++ [u], B1 ++ C, rfl, rfl, upd_same, RepOs.append (hws.frame x2.ff fun b hb xs z => upd_off (fun y => s1 (by rw [← y]; exact hb)) (x2.hh _ _ z)) (RepOs.one (c1.frame (Same.refl _) fun b hb xs z => upd_off (fun y => hcC (by rw [← y]; exact hb)) z))⟩
      rw [set_self_of f1] at f4'
      refine l.nx F2 _ σ _ (e2.change i hv (t' := .nl (ts.set j (.nl (us ++ [r])))) (B := a :: (A1 ++ (c :: (B1 ++ C) ++ A2))) ⟨a, vs, _, rfl, rfl, upd_off hac (x2.hh _ _ ha1), f4'⟩ ?_ ?_ ?_ ?_) p2
      · have dC : ∀ x ∈ C, ∀ y ∈ A i, x ≠ y := fun x hx y hy z => hCA i x hx (by rw [z]; exact hy)
        rw [hA] at dC
        simp only [List.cons_append, List.nodup_cons, List.nodup_append, List.mem_cons, List.mem_append, not_or, ne_eq] at hnd n1 n2 m1 m2 m3 q1 q2 q3 s1 s2 ⊢
        refine ⟨⟨n1.1, n1.2.1, ⟨n1.2.2.1, fun z => dC a z a (by simp) rfl⟩, n1.2.2.2⟩, m1, ⟨⟨⟨s1, hcC⟩, fun z => ?_⟩, ⟨s2, c2, fun x hx y hy z => dC y hy x (by simp [hx]) z.symm⟩, q2, fun x hx y hy z => ?_⟩, fun x hx y hy z => ?_⟩
        · exact q3 c (by simp) c z rfl
        · rcases hx with hx | hx
          · exact q3 x (by simp [hx]) y hy z
          · exact dC x hx y (by simp [hy]) z
        · rcases hy with hy | (hy | hy) | hy
          · exact m3 x hx y (by simp [hy]) z
          · exact m3 x hx y (by simp [hy]) z
          · exact dC y hy x (by simp [hx]) z.symm
          · exact m3 x hx y (by simp [hy]) z
      · intro b hb
        rcases ina b hb with z | z
        · exact ⟨(e2.new i b z).1, (e2.new i b z).2.1⟩
        · exact ⟨(c3 b z).2, e1.ext.hh.free (c3 b z).1⟩
      · intro j hj b hb z
        rcases ina b hb with y | y
        · exact e.dis j i b hj z y
        · exact hCA j b y z
      · intro b o hb q
        exact upd_off (fun z => hb (by rw [z]; exact hcA)) q
    · exact p.elim
  · exact w.elim
end
end L2

namespace L2
open PySem PySem.Spec PyProof.Rows
/-! ### zip of two lists -/
def dZip (As : DA) : DA := fun δ P => As δ fun ds => match ds with
  | [.lst xs, .lst ys] => P ((xs.zip ys).map fun p => D.tup [p.1, p.2])
  | _ => False
section
variable {X : Cx} {K : PySem.W.Frag} {mg : Str → Option Value}
theorem Inv.turnedL {pins : List (Addr × Obj)} {σ : St} {H : Hp} {s : Shared} {h' : Heap} {t' : Nat} {L : List Addr} (I : Inv X pins σ H s) (k : ∀ b o, b ∉ L → s.heap.get? b = some o → h'.get? b = some o) (f : ∀ b ∈ L, FpOk X pins H b) : Inv X pins σ H { s with heap := h', toks := t' } := by
  have nn : ∀ b u, H b = some u → b ∉ L := fun b u e z => by
    obtain ⟨p0, _⟩ := f b z
    rw [p0] at e; cases e
  refine I.step (g' := s.gens) (d' := s.drawn) (ch := L) (fun b hb => ?_) (fun b o _ _ hc e _ => k b o hc e) (fun b o _ _ hc e _ => ⟨o.slots, k b o hc e⟩) (fun _ _ _ _ n => n)
    (fun b o hc e => ⟨o, k b o hc e⟩) (fun _ _ e => e) (fun _ _ _ e => e) (fun b ps e => ⟨#[], by rw [e]; simp⟩) (fun m hm => ?_) (fun b u e => ?_) I.bare
  · obtain ⟨p0, p1, p2, p3, p4, p5⟩ := f b hb
    exact ⟨p3, p1, p4, p5⟩
  · obtain ⟨o, es, ep, ho, r⟩ := hm
    refine ⟨o, es, ep, k _ o (fun z => ?_) ho, r⟩
    obtain ⟨p0, p1, _⟩ := f _ z
    exact p1 rfl
  · refine (I.hok b u e).stay (fun c v hc q => k c v ?_ q) (fun _ q => q) fun _ _ q => q
    rcases hc with z | z
    · rw [z]; exact nn b u e
    · exact nn c _ z
def Itz (K : PySem.W.Frag) (a1 a2 : Addr) (xs ys : List V) : It :=
  ⟨fun i H => SqL K H a1 xs ∧ SqL K H a2 ys ∧ i < xs.length ∧ i < ys.length, fun i H x H' => ∃ p y1 y2, x = .ref p ∧ H p = none ∧ Same H H' ∧ xs[i]? = some y1 ∧ ys[i]? = some y2 ∧ H' p = some (.tup [y1, y2]), fun i H => SqL K H a1 xs ∧ SqL K H a2 ys ∧ (xs.length ≤ i ∨ ys.length ≤ i)⟩
theorem ne_list {h : Heap} {l z : Addr} {xs : Array Value} {o : Obj} (hl : h.IsList l xs) (e : h.get? z = some o) (hc : o.cls ≠ .type "list") : l ≠ z := fun q => by
  subst q
  obtain ⟨o', e1, e2, _⟩ := hl
  rw [e] at e1
  cases e1
  exact hc e2
structure Zip5 (z TI TO i1 i2 : Addr) : Prop where
  TIz : TI ≠ z
  TOz : TO ≠ z
  i1z : i1 ≠ z
  i2z : i2 ≠ z
  TITO : TI ≠ TO
  TIi1 : TI ≠ i1
  TIi2 : TI ≠ i2
  TOi1 : TO ≠ i1
  TOi2 : TO ≠ i2
  i12 : i1 ≠ i2
theorem zip5_at (n : Nat) : Zip5 (n + 4) (n + 2) (n + 3) n (n + 1) :=
  ⟨fun q => by have q : (n + 2 : Nat) = n + 4 := q; omega, fun q => by have q : (n + 3 : Nat) = n + 4 := q; omega, fun q => by have q : (n + 0 : Nat) = n + 4 := q; omega, fun q => by have q : (n + 1 : Nat) = n + 4 := q; omega, fun q => by have q : (n + 2 : Nat) = n + 3 := q; omega, fun q => by have q : (n + 2 : Nat) = n + 0 := q; omega, fun q => by have q : (n + 2 : Nat) = n + 1 := q; omega, fun q => by have q : (n + 3 : Nat) = n + 0 := q; omega, fun q => by have q : (n + 3 : Nat) = n + 1 := q; omega, fun q => by have q : (n + 0 : Nat) = n + 1 := q; omega⟩
theorem zip_apart {h : Heap} {z TI TO i1 i2 l1 l2 : Addr} {xs ys : Array Value} {a b : Value} {k1 k2 : Nat} {c1 c2 : Addr} (D : Zip5 z TI TO i1 i2) (hz : IsZip h z TI TO .none) (hTO : IsPair h TO a b) (h1 : h.IsListIter i1 c1 k1) (h2 : h.IsListIter i2 c2 k2) (hl1 : h.IsList l1 xs) (hl2 : h.IsList l2 ys) : ZipApart z TI TO i1 i2 l1 l2 := by
  obtain ⟨o1, e1, q1, _⟩ := h1
  obtain ⟨o2, e2, q2, _⟩ := h2
  exact ⟨D.TIz, D.TOz, D.i1z, D.i2z, D.TITO, D.TIi1, D.TIi2, D.TOi1, D.TOi2, D.i12, ne_list hl1 hz (by simp), ne_list hl1 hTO (by simp), ne_list hl1 e1 (by rw [q1]; simp), ne_list hl1 e2 (by rw [q2]; simp),
    ne_list hl2 hz (by simp), ne_list hl2 hTO (by simp), ne_list hl2 e1 (by rw [q1]; simp), ne_list hl2 e2 (by rw [q2]; simp)⟩
theorem turn_zip {P : Program} {w : World} {K : PySem.W.Frag} {elts : List Expr} {x1 : Nat} {tpos : Pos} (a1 a2 z TI TO i1 i2 : Addr) (xs ys : List V) (D : Zip5 z TI TO i1 i2) :
    Turn P w K (.Tuple elts x1 tpos) (Itz K a1 a2 xs ys) [z, TI, TO, i1, i2] z (fun i h => IsZip h z TI TO .none ∧ IsPair h TI (.ref i1) (.ref i2) ∧ (∃ a b, IsPair h TO a b) ∧ h.IsListIter i1 a1 i ∧ h.IsListIter i2 a2 i) where
  mem := by simp
  obj := fun i h st b hb => by
    obtain ⟨h1, h2, ⟨a, b', h3⟩, ⟨o4, q4, _, r4⟩, ⟨o5, q5, _, r5⟩⟩ := st
    have hb' : b = z ∨ b = TI ∨ b = TO ∨ b = i1 ∨ b = i2 := by simpa using hb
    rcases hb' with q | q | q | q | q
    · subst q; exact ⟨_, h1, fun v q => by cases q⟩
    · subst q; exact ⟨_, h2, fun v q => by cases q⟩
    · subst q; exact ⟨_, h3, fun v q => by cases q⟩
    · subst q; exact ⟨_, q4, fun v q => by rw [r4] at q; cases q⟩
    · subst q; exact ⟨_, q5, fun v q => by rw [r5] at q; cases q⟩
  keep := fun i h h' st k => by
    obtain ⟨h1, h2, ⟨a, b', h3⟩, h4, h5⟩ := st
    exact ⟨k z (by simp) _ h1, k TI (by simp) _ h2, ⟨a, b', k TO (by simp) _ h3⟩, h4.at fun o q => k i1 (by simp) o q, h5.at fun o q => k i2 (by simp) o q⟩
  item := by
    intro X hP hw hK hc i pins s σ H E I hf st hg
    subst hP hw hK
    obtain ⟨h1, h2, ⟨a, b', h3⟩, h4, h5⟩ := st
    obtain ⟨hq1, hq2, hi1, hi2⟩ := hg
    obtain ⟨its1, rv1, p1, hz1⟩ := I.list hq1
    obtain ⟨its2, rv2, p2, hz2⟩ := I.list hq2
    obtain ⟨u1, hu1, ru1⟩ := rv1.get (i := i) (x := xs[i]) (by simp [hi1])
    obtain ⟨u2, hu2, ru2⟩ := rv2.get (i := i) (x := ys[i]) (by simp [hi2])
    refine wpAny_pyNext_zip_item (zip_apart D h1 h3 h4 h5 p1.isList p2.isList) h1 h2 h3 h4 h5 p1.isList p2.isList (x := u1) (y := u2) (by simpa using hu1) (by simpa using hu2) fun h' g1 g2 g3 g4 g5 g6 g7 => ?_
    refine ⟨_, rfl, wpAny_letOwnedTupleGo_zip g1 fun h'' k1 k2 => ?_⟩
    have hf' := I.hok.fresh (Nat.le_refl _)
    have I0 : Inv X pins σ (upd H s.heap.objs.size (.tup [xs[i], ys[i]])) { s with heap := s.heap.push { cls := .type "tuple", data := .seq #[u1, u2] }, toks := s.toks } :=
      I.laid (t' := s.toks) (o := .tup [xs[i], ys[i]]) (fun b ob q => Heap.get?_push_of_some _ q) (Nat.le_refl _) ⟨sz_le (n := 2) (by decide), [u1, u2], .cons ru1 (.cons ru2 .nil), ⟨_, Heap.get?_push_size _ rfl, rfl, _, rfl⟩⟩
    have old : ∀ b ∈ [z, TI, TO, i1, i2], b ≠ s.heap.objs.size := fun b hb q => by
      have hb' : b = z ∨ b = TI ∨ b = TO ∨ b = i1 ∨ b = i2 := by simpa using hb
      have hlt : b < s.heap.objs.size := by
        rcases hb' with y | y | y | y | y
        · rw [y]; exact Heap.lt_size h1
        · rw [y]; exact Heap.lt_size h2
        · rw [y]; exact Heap.lt_size h3
        · obtain ⟨o, r1, _⟩ := h4
          rw [y]; exact Heap.lt_size r1
        · obtain ⟨o, r1, _⟩ := h5
          rw [y]; exact Heap.lt_size r1
      rw [q] at hlt
      exact Nat.lt_irrefl _ hlt
    have fe : ∀ b ∈ [z, TI, TO, i1, i2], FpOk X pins (upd H s.heap.objs.size (.tup [xs[i], ys[i]])) b := fun b hb => by
      obtain ⟨q0, q1, q2, q3, q4, q5⟩ := hf b hb
      refine ⟨?_, q1, q2, q3, q4, q5⟩
      rw [upd_ne]
      · exact q0
      · exact old b hb
    have I1 : Inv X pins σ (upd H s.heap.objs.size (.tup [xs[i], ys[i]])) { s with heap := h'', toks := s.toks } := by
      have := I0.turnedL (h' := h'') (t' := s.toks) (L := [z, TO, i1, i2]) (fun b o hb q => ?_) (fun b hb => fe b (by
        have hb' : b = z ∨ b = TO ∨ b = i1 ∨ b = i2 := by simpa using hb
        rcases hb' with y | y | y | y <;> simp [y]))
      · exact this
      · have bz : b ≠ z := fun y => hb (by simp [y])
        have hb2 : h'.get? b = some o := by
          by_cases y : b = s.heap.objs.size
          · subst y
            rw [Heap.get?_push_size _ rfl] at q
            rw [← q]; exact g5
          · rw [Heap.get?_push_ne _ _ _ y] at q
            exact g7 b o bz (fun y => hb (by simp [y])) (fun y => hb (by simp [y])) (fun y => hb (by simp [y])) q
        exact k2.extBut b o bz hb2
    have hTI' : h'.get? TI = _ := g7 TI _ D.TIz D.TITO D.TIi1 D.TIi2 h2
    refine ⟨.ref s.heap.objs.size, _, I1, rfl, ⟨_, xs[i], ys[i], rfl, hf', Same.new hf', by simp [hi1], by simp [hi2], upd_same⟩, ⟨k1, k2.extBut _ _ D.TIz hTI', ⟨_, _, k2.extBut _ _ D.TOz g2⟩, g3.extBut k2.extBut D.i1z, g4.extBut k2.extBut D.i2z⟩, fun b hb => (fe b hb).1⟩
  done := by
    intro X hP hw hK hc i pins s σ H E I hf st hg
    subst hP hw hK
    obtain ⟨h1, h2, ⟨a, b', h3⟩, h4, h5⟩ := st
    obtain ⟨hq1, hq2, hi⟩ := hg
    obtain ⟨its1, rv1, p1, hz1⟩ := I.list hq1
    obtain ⟨its2, rv2, p2, hz2⟩ := I.list hq2
    have hl1 := rv1.length
    have hl2 := rv2.length
    refine wpAny_pyNext_zip_end (I.ok.hd hc) (zip_apart D h1 h3 h4 h5 p1.isList p2.isList) h1 h2 h3 h4 h5 p1.isList p2.isList (by
      rcases hi with q | q
      · exact .inl (by simp; omega)
      · exact .inr (by simp; omega)) fun h' eb => ⟨rfl, I.turnedL (t' := s.toks) (L := [z, TO, i1, i2]) (fun b o hb q => eb b o (fun y => hb (by simp [y])) (fun y => hb (by simp [y])) (fun y => hb (by simp [y])) (fun y => hb (by simp [y])) q) (fun b hb => hf b (by
        have hb' : b = z ∨ b = TO ∨ b = i1 ∨ b = i2 := by simpa using hb
        rcases hb' with y | y | y | y <;> simp [y]))⟩
  self := fun _ _ _ _ _ st h => by
    obtain ⟨h1, _⟩ := st
    exact wpAny_pyIter_zip h1 h
def iZip (K : PySem.W.Frag) (ta : TA) : TI := fun σ H R => ta σ H fun vs H1 => ∃ a1 a2 xs ys, vs = [.ref a1, .ref a2] ∧ SqL K H1 a1 xs ∧ SqL K H1 a2 ys ∧ R (Itz K a1 a2 xs ys) H1
theorem pi_zip {elts : List Expr} {x1 : Nat} {tpos : Pos} {l m : Expr} {ta : TA} {p pos : Pos} (hg : Gl X "zip") (hm : X.mg "zip" = none) (ha : PA X [l, m] ta) (hs : starEach [l, m] X.env = (false, eval l X.env) :: starEach [m] X.env := by rfl) (hp : (backTo pos (starEach [m] X.env)).any (·.1) = false := by rfl) : PI X (.Tuple elts x1 tpos) (.Call (.Name "zip" p) [l, m] [] pos) (iZip X.K ta) := by
  intro pins s σ H R I h
  refine Call_ (ld_blt I hg hm PyProof.Rows.boot_zip (PyProof.Rows.callWith_type1 (thn (ha pos pins s σ H _ I h) fun us s1 ⟨vs, H1, I1, r1, q1⟩ => ?_) hs hp))
  obtain ⟨a1, a2, xs, ys, e, hq1, hq2, q⟩ := q1
  subst e
  obtain ⟨u1, u2, rfl, ru1, ru2⟩ := vals2 r1
  cases ru1
  cases ru2
  obtain ⟨its1, rv1, pt1, hz1⟩ := I1.list hq1
  obtain ⟨its2, rv2, pt2, hz2⟩ := I1.list hq2
  refine PySem.call_zip_2 pt1.isList pt2.isList fun h' g1 g2 g3 g4 g5 g6 g7 => ?_
  have I2 : Inv X pins σ H1 { s1 with heap := h', toks := s1.toks } := I1.kept (t' := s1.toks) g7
  refine wpAny_pyIter_zip (s := { s1 with heap := h', toks := s1.toks }) g1 ?_
  refine ⟨s1.heap.objs.size + 4, [s1.heap.objs.size + 4, s1.heap.objs.size + 2, s1.heap.objs.size + 3, s1.heap.objs.size, s1.heap.objs.size + 1], _, _, H1, rfl, I2, turn_zip a1 a2 _ _ _ _ _ xs ys ?_, ⟨g1, g2, ⟨_, _, g3⟩, g4, g5⟩, fun b hb => ?_, q⟩
  · exact zip5_at _
  have hle : s1.heap.objs.size ≤ b := by
    have hb' : b = s1.heap.objs.size + 4 ∨ b = s1.heap.objs.size + 2 ∨ b = s1.heap.objs.size + 3 ∨ b = s1.heap.objs.size ∨ b = s1.heap.objs.size + 1 := by simpa using hb
    rcases hb' with y | y | y | y | y
    · rw [y]; exact Nat.le_add_right _ _
    · rw [y]; exact Nat.le_add_right _ _
    · rw [y]; exact Nat.le_add_right _ _
    · rw [y]; exact Nat.le_refl _
    · rw [y]; exact Nat.le_add_right _ _
  exact I1.fpOk hle (I1.hok.fresh hle)
theorem sI_zip {a : TA} {As : DA} (h : SimAF K a As) : SimI K (iZip K a) (dZip As) := fun F0 H0 F H σ δ P R e w q => h F0 H0 F H σ δ _ _ e w fun ds vs F' H' p x r => by
  try dsimp only at p
  split at p
  · rename_i xs ys
    obtain ⟨v1, v2, rfl, ⟨a1, us1, rfl, h1, h2⟩, ⟨a2, us2, rfl, k1, k2⟩⟩ := reps2 r
    have hl1 := h2.length
    have hl2 := k2.length
    refine ⟨a1, a2, us1, us2, rfl, x.fh.seq h1, x.fh.seq k1, q _ _ F' H' p x fun F1 H1 s1 s2 => ?_⟩
    have hq1 := (s1.trans s2).seq h1
    have hq2 := (s1.trans s2).seq k1
    have hlen : ((xs.zip ys).map fun p => D.tup [p.1, p.2]).length = min xs.length ys.length := by simp
    rw [hlen]
    refine ⟨fun i hi => ⟨hq1, hq2, by omega, by omega⟩, ⟨hq1, hq2, by omega⟩, fun i x H2 hi y => ?_⟩
    obtain ⟨t, y1, y2, rfl, ht, sm, hy1, hy2, ht2⟩ := y
    obtain ⟨d1, hd1, rd1⟩ := h2.get' hy1
    obtain ⟨d2, hd2, rd2⟩ := k2.get' hy2
    refine ⟨.tup [d1, d2], upd F1 t (.tup [y1, y2]), ?_, Ext.new s2 ht sm ht2, t, [y1, y2], rfl, .inl (.inl upd_same), ?_⟩
    · rw [List.getElem?_map, List.getElem?_zip_eq_some (z := (d1, d2)) |>.mpr ⟨hd1, hd2⟩]
      rfl
    · exact ⟨_, _, rfl, (rd1.mono s1).mono (Same.upd' (s2.free ht)), _, _, rfl, (rd2.mono s1).mono (Same.upd' (s2.free ht)), rfl⟩
  · exact p.elim
end
end L2

namespace L2
open PySem PySem.Spec PyProof.Rows
/-! ### [x] * n -/
def dRep1 (Eo : DO) (Eb : DE) : DO := fun δ P => Eo δ fun r => match r with
  | .nl [.fz d] => Eb δ fun y => match y with
    | .int k => (0 ≤ k ∧ k ≤ 1000000) ∧ P (.nl (List.replicate k.toNat (.fz d)))
    | _ => False
  | _ => False
section
variable {X : Cx} {K : PySem.W.Frag} {mg : Str → Option Value}
theorem Reps.rep {F : Hp} {d : D} {v : V} (h : Rep K F d v) : ∀ n : Nat, Reps K F (List.replicate n d) (List.replicate n v)
  | 0 => rfl
  | n + 1 => ⟨v, List.replicate n v, rfl, h, Reps.rep h n⟩
theorem sO_rep1 {ta tb : TE} {Eo : DO} {Eb : DE} (ha : SimO K ta Eo) (hb : SimB K tb Eb) : SimO K (tOp rRep ta tb) (dRep1 Eo Eb) := fun F0 H0 F H σ δ P Q e w q =>
  ha F0 H0 F H σ δ _ _ e w fun r v F1 H1 w1 x1 r1 => by
    try dsimp only at w1
    split at w1
    · rename_i d
      obtain ⟨A0, ⟨p, vs, B, rfl, rfl, hp, hB⟩, a2, a3⟩ := r1
      obtain ⟨v0, r0, B1, C, rfl, rfl, ⟨_, rd⟩, hC, _⟩ := hB
      subst hC
      refine hb F0 H0 F1 H1 σ δ _ _ (e.on x1) w1 fun y u F2 H2 w2 x2 r2 => ?_
      try dsimp only at w2
      split at w2
      · rename_i k
        obtain ⟨⟨k0, k1⟩, pr⟩ := w2
        have x12 := x1.trans x2
        cases r2
        refine ⟨p, k, [v0], rfl, rfl, x2.hh _ _ hp, by omega, by omega, sz_le (by simp; omega), fun l l0 => ?_⟩
        have ef : (List.replicate k.toNat [v0]).flatten = List.replicate k.toNat v0 := List.flatten_replicate_singleton
        rw [ef]
        have em : (List.replicate k.toNat d).map OV.fz = List.replicate k.toNat (OV.fz d) := List.map_replicate
        refine q _ _ F2 _ pr (x12.trans (Ext.grow x2.fh (Same.new l0))) ?_
        rw [← em]
        exact RepN.list (x12.hh.free l0) (x2.fh.free l0) upd_same (Reps.rep (rd.mono x2.ff) _)
      · exact w2.elim
    · exact w1.elim
end
end L2

namespace L2
open PySem PySem.Spec PyProof.Rows
/-! ### reversed(range(n)) -/
def dRevR (As : DA) : DA := fun δ P => As δ fun ds => match ds with
  | [.int n] => (0 ≤ n ∧ n < 2 ^ 61) ∧ P (rng (n - 1) (-1) n.toNat)
  | _ => False
theorem lw_range_rev (r : Addr) (a b c : Int) (t u v : Tok) (hc0 : ¬ (!(Builtin.Range.rangeFitsLong a && Builtin.Range.rangeFitsLong b && Builtin.Range.rangeFitsLong c && Builtin.Range.rangeFitsLong (-c) && Builtin.Range.rangeFitsLong (a - c) && Builtin.Range.rangeFitsLong (Builtin.Range.rangeSize a b c))) = true) :
    Meets (Builtin.«range.__reversed__» ⟨[.ref r], []⟩) (fun _ R s => s.heap.get? r = some { cls := .type "range", dict := none, data := .fields #[.int a t, .int b u, .int c v], slots := #[] } ∧ R (.ok (.ret (Value.ref s.heap.objs.size))) { s with heap := s.heap.push { cls := Value.type (if (Builtin.Range.rangeFitsLong a && Builtin.Range.rangeFitsLong b && Builtin.Range.rangeFitsLong c && Builtin.Range.rangeFitsLong (-c) && Builtin.Range.rangeFitsLong (a - c) && Builtin.Range.rangeFitsLong (Builtin.Range.rangeSize a b c)) = true then "range_iterator" else "longrange_iterator"), data := Data.fields #[rawInt (a + (Builtin.Range.rangeSize a b c - 1) * c), rawInt (Builtin.Range.rangeSize a b c), rawInt (-c)] }, toks := s.toks }) :=
  .of_wp fun prog w A R s h => by obtain ⟨hp, g, d, tk, os⟩ := s; obtain ⟨hl, h⟩ := h; wp_walk; exact ⟨_, rfl, h⟩
theorem rng_up {n : Int} (h0 : 0 ≤ n) : Builtin.Range.rangeSize 0 n 1 = n := by
  unfold Builtin.Range.rangeSize
  rw [if_pos (by decide)]
  split
  · rw [Int.ediv_one]; omega
  · omega
theorem sub_ri_reversed : isSubtype (.type "range_iterator") (.type "reversed") = pure false := by rw [isSubtype_type]; kernel_rfl
section
variable {prog : Program} {w : World} {A : Around} {E : Value → Shared → Prop} {s : Shared}
abbrev revRObj (n : Int) : Obj := { cls := .type "range_iterator", data := .fields #[rawInt (n - 1), rawInt n, rawInt (-1)] }
theorem lw_call_rr {r : Addr} {n : Int} {t u v : Tok} {Q : Value → Shared → Prop} (hr : IsRange s.heap r 0 n 1 t u v) (h0 : 0 ≤ n) (h1 : n < 2 ^ 61)
    (h : Q (.ref s.heap.objs.size) { s with heap := s.heap.push (revRObj n) }) : wpAny (model prog w) A (call (.builtin "range.__reversed__") [.ref r]) Q E s := by
  have hs : (Builtin.Range.rangeFitsLong 0 && Builtin.Range.rangeFitsLong n && Builtin.Range.rangeFitsLong 1 && Builtin.Range.rangeFitsLong (-1) && Builtin.Range.rangeFitsLong (0 - 1) && Builtin.Range.rangeFitsLong (Builtin.Range.rangeSize 0 n 1)) = true := by
    rw [rng_up h0]
    simp only [Builtin.Range.rangeFitsLong, Bool.and_eq_true, decide_eq_true_eq]
    omega
  refine call_meets F.slot_range_reversed ⟨_, hr, rfl⟩ F.entry_range_reversed (F.args_range_reversed_1 _) (lw_range_rev r 0 n 1 t u v (by rw [hs]; simp)) ⟨hr, ?_⟩
  rw [if_pos hs, rng_up h0, show (0 : Int) + (n - 1) * 1 = n - 1 by omega]
  exact h
theorem lw_code_rev {r : Addr} {n : Int} {t u v : Tok} {Q₁ : Value → Shared → Prop} (hr : IsRange s.heap r 0 n 1 t u v) (h0 : 0 ≤ n) (h1 : n < 2 ^ 61)
    (h : Q₁ (.ref s.heap.objs.size) { s with heap := s.heap.push (revRObj n) }) :
    codeAny (model prog w) A (.call (.builtin "reversed.__new__") ⟨[.type "reversed", .ref r], []⟩) (wants Q₁ E) s := by
  refine codeAny_of_tree ?_
  show wpAny _ A.in1 (do checkBuiltinCall "reversed.__new__" ⟨[.type "reversed", .ref r], []⟩; again (.builtin "reversed.__new__" ⟨[.type "reversed", .ref r], []⟩)) _ _ s
  refine wpAny_bind (wpAny_of_eq (F.newCall_reversed_1 _) (wpAny_pure ⟨plainId_quiet F.plain_reversed_new _, codeAny_builtin F.entry_reversed_new ?_⟩))
  rw [Around.under_plainId F.plain_reversed_new _]
  unfold Builtin.«reversed.__new__»
  refine wpAny_bind (wpAny_of_eq (newClass_reversed _) ?_)
  try dsimp only
  refine wpAny_bind (wpAny_of_eq (a := ()) (by first | rfl | kernel_rfl) ?_)
  refine wpAny_bind (wpAny_of_eq (a := ()) (by first | rfl | kernel_rfl) ?_)
  try dsimp only
  refine wpAny_bind (wpAny_specialOf ⟨_, hr, rfl⟩ F.slot_range_reversed.lookup ?_)
  try dsimp only
  refine wpAny_bind (wpAny_of_eq (F.slot_range_reversed.bind _) ?_)
  try dsimp only
  first
  | rw [if_neg (show ¬ ((Value.builtin "range.__reversed__" == Value.none) = true) from Bool.false_ne_true)]
  | (show wpAny _ _ (if (Value.builtin "range.__reversed__" == Value.none) = true then _ else _) _ _ _; rw [if_neg (show ¬ ((Value.builtin "range.__reversed__" == Value.none) = true) from Bool.false_ne_true)])
  refine wpAny_bind (wpAny_rule ?_)
  refine wpAny_bind (m := runValue (.call (.builtin "range.__reversed__") ⟨[.ref r], []⟩)) (show wpAny _ _ (call (.builtin "range.__reversed__") [.ref r]) _ _ _ from lw_call_rr hr h0 h1 ?_)
  first
  | exact wpAny_pure h
  | exact wpAny_bind (wpAny_pure (wpAny_pure h))
theorem lw_call_reversed {r : Addr} {n : Int} {t u v : Tok} {Q : Value → Shared → Prop} (hr : IsRange s.heap r 0 n 1 t u v) (h0 : 0 ≤ n) (h1 : n < 2 ^ 61)
    (h : Q (.ref s.heap.objs.size) { s with heap := s.heap.push (revRObj n) }) : wpAny (model prog w) A (call (.type "reversed") [.ref r]) Q E s := by
  refine callType_other (U := "range_iterator") (Q₁ := fun obj s₁ => obj = .ref s.heap.objs.size ∧ s₁ = { s with heap := s.heap.push (revRObj n) }) (by decide +kernel) F.create_reversed ⟨_, _, F.mro_reversed⟩ F.made_reversed sub_ri_reversed (F.typeCall_reversed_1 _) (lw_code_rev hr h0 h1 ⟨rfl, rfl⟩) ?_
  rintro obj s₁ ⟨rfl, rfl⟩
  exact ⟨⟨_, Heap.get?_push_size _ rfl, rfl⟩, h⟩
end
section
variable {X : Cx} {K : PySem.W.Frag} {tg : Expr}
def iRevR (ta : TA) : TI := fun σ H R => ta σ H fun vs H1 => ∃ n : Int, vs = [.int n] ∧ (0 ≤ n ∧ n < 2 ^ 61) ∧ R (Itrs (n - 1) (-1) n.toNat) H1
theorem pi_revR {a : Expr} {ta : TA} {p p' pos pos' : Pos} (hg : Gl X "reversed") (hm : X.mg "reversed" = none) (hg' : Gl X "range") (hm' : X.mg "range" = none) (ha : PA X [a] ta) (hs : starEach [a] X.env = [(false, eval a X.env)] := by rfl)
    (hs' : starEach [.Call (.Name "range" p') [a] [] pos'] X.env = [(false, eval (.Call (.Name "range" p') [a] [] pos') X.env)] := by rfl) :
    PI X tg (.Call (.Name "reversed" p) [.Call (.Name "range" p') [a] [] pos'] [] pos) (iRevR ta) := by
  intro pins s σ H R I h
  refine Call_ (ld_blt I hg hm PyProof.Rows.boot_reversed (PyProof.Rows.callWith_type1 ?_ hs' rfl))
  rw [hs']
  show wpAny _ _ (spliced ((false, eval (.Call (.Name "range" p') [a] [] pos') X.env) :: [])) _ _ s
  refine Calls.spliced_cons (Call_ (ld_blt I hg' hm' boot_range (PyProof.Rows.callWith_type1 (thn (ha pos' pins s σ H _ I h) fun us s1 ⟨vs, H1, I1, r1, q1⟩ => ?_) hs rfl)))
  obtain ⟨n, e, ⟨q1, q2⟩, q⟩ := q1
  subst e
  obtain ⟨u, rfl, ru⟩ := vals1 r1
  obtain ⟨t, rfl⟩ := ru
  refine PySem.call_range_1 ?_
  refine Calls.spliced_nil ?_
  have I2 : Inv X pins σ H1 { s1 with heap := s1.heap.push { cls := .type "range", data := .fields #[.int 0 s1.toks, .int n t, .int 1 (s1.toks + 1)] }, toks := s1.toks + 1 + 1 } := I1.kept fun b o e => Heap.get?_push_of_some _ e
  refine lw_call_reversed (t := s1.toks) (u := t) (v := s1.toks + 1) (Heap.get?_push_size _ rfl) q1 q2 ?_
  have I3 : Inv X pins σ H1 { s1 with heap := (s1.heap.push { cls := .type "range", data := .fields #[.int 0 s1.toks, .int n t, .int 1 (s1.toks + 1)] }).push (revRObj n), toks := s1.toks + 1 + 1 } := I2.kept (t' := s1.toks + 1 + 1) fun b o e => Heap.get?_push_of_some _ e
  have hit : IsRangeIter ((s1.heap.push { cls := .type "range", data := .fields #[.int 0 s1.toks, .int n t, .int 1 (s1.toks + 1)] }).push (revRObj n)) (s1.heap.push { cls := .type "range", data := .fields #[.int 0 s1.toks, .int n t, .int 1 (s1.toks + 1)] }).objs.size (n - 1) n (-1) := Heap.get?_push_size _ rfl
  refine wpAny_pyIter_rangeiter (s := { s1 with heap := (s1.heap.push { cls := .type "range", data := .fields #[.int 0 s1.toks, .int n t, .int 1 (s1.toks + 1)] }).push (revRObj n), toks := s1.toks + 1 + 1 }) hit ?_
  refine ⟨_, [(s1.heap.push { cls := .type "range", data := .fields #[.int 0 s1.toks, .int n t, .int 1 (s1.toks + 1)] }).objs.size], _, _, H1, rfl, I3, turn_rangeS _ (n - 1) (-1) n.toNat, ?_, fun b hb => ?_, q⟩
  · have e1 : (n - 1) + ((0 : Nat) : Int) * (-1) = n - 1 := by simp
    have e2 : ((n.toNat : Nat) : Int) - ((0 : Nat) : Int) = n := by omega
    show IsRangeIter _ _ ((n - 1) + ((0 : Nat) : Int) * (-1)) (((n.toNat : Nat) : Int) - ((0 : Nat) : Int)) (-1)
    rw [e1, e2]
    exact hit
  · have e : b = (s1.heap.push { cls := .type "range", data := .fields #[.int 0 s1.toks, .int n t, .int 1 (s1.toks + 1)] }).objs.size := by simpa using hb
    subst e
    exact I2.fpOk (Nat.le_refl _) (I2.hok.fresh (Nat.le_refl _))
theorem sI_revR {a : TA} {As : DA} (h : SimAB K a As) : SimI K (iRevR a) (dRevR As) := fun F0 H0 F H σ δ P R e w q => h F0 H0 F H σ δ _ _ e w fun ds vs F' H' p x r => by
  try dsimp only at p
  split at p
  · obtain ⟨v, rfl, r1⟩ := reps1 r
    exact ⟨_, by rw [show v = _ from r1], p.1, q _ _ F' H' p.2 x itR_itrs⟩
  · exact p.elim
end
end L2

namespace L2
open PySem PySem.Spec PyProof.Rows
/-! ### divmod; a frozen thing of a name's own list -/
def divmodD : List D → (D → Prop) → Prop := fun ds P => match ds with
  | [.int i, .int j] => CDiv i j ∧ P (.tup [.int (i / j), .int (i % j)])
  | _ => False
def dIxO (i : Nat) (Eb : DE) : DE := fun δ P => match δ[i]? with
  | some (some (.own (.nl ts))) => Eb δ fun y => match y with
    | .int k => ∃ d, atI ts k = some (.fz d) ∧ P d
    | _ => False
  | _ => False
section
variable {X : Cx} {K : PySem.W.Frag}
/-- a comprehension within a comprehension that takes nothing from without -/
theorem BlkScope.nofree {outer sc : Scope} (h1 : sc.kind = .function) (h2 : ∀ y ∈ sc.names, y.2 ≠ .cell) (h3 : ∀ y ∈ sc.names, y.2 ≠ .free) (h4 : ∀ y ∈ sc.names, y.2 = .local → sc.names.lookup y.1 = some .local) : BlkScope outer sc :=
  ⟨h1, h2, fun y hy e => absurd e (h3 y hy), h4⟩
theorem cS_divmod : CbS K (fun xs H Q => ∃ i j, xs = [.int i, .int j] ∧ CDiv i j ∧ ∀ p, H p = none → Q (.ref p) (upd H p (.tup [.int (i / j), .int (i % j)]))) divmodD := fun F H ds vs P Q s rs w q => by
  unfold divmodD at w
  split at w
  · obtain ⟨v, u, rfl, r1, r2⟩ := reps2 rs
    refine ⟨_, _, by rw [show v = _ from r1, show u = _ from r2], w.1, fun p hp => ?_⟩
    exact q _ _ _ _ w.2 (Ext.new s hp (Same.new hp) upd_same) ⟨p, _, rfl, .inl (.inl upd_same), _, _, rfl, rfl, _, _, rfl, rfl, rfl⟩
  · exact w.elim
theorem sF_ixO {i : Nat} {tb : TE} {Eb : DE} (hb : SimB K tb Eb) : SimF K (tOp (rIxL K) (tVar i) tb) (dIxO i Eb) := fun F0 H0 F H σ δ P Q e w q => by
  obtain ⟨A, e⟩ := e
  unfold dIxO at w
  split at w
  · rename_i ts hs
    obtain ⟨v, hv, a, vs, B, rfl, eA, ha, hB⟩ := e.own i _ hs
    refine ⟨_, hv, hb F0 H0 F H σ δ _ _ ⟨A, e⟩ w fun y u F1 H1 w1 x1 r1 => ?_⟩
    try dsimp only at w1
    split at w1
    · rename_i k
      obtain ⟨d, hd, p⟩ := w1
      have hB1 : RepOs K F1 H1 ts vs B := hB.frame x1.ff fun b _ xs z => x1.hh _ _ z
      unfold atI at hd
      cases hj : ixN ts.length k with
      | none => rw [hj] at hd; cases hd
      | some j =>
        rw [hj] at hd
        obtain ⟨v0, A1, B0, A2, f1, _, f3, _⟩ := hB1.focus hd
        have hl := hB1.length
        refine ⟨a, vs, k, v0, rfl, r1, SqL.of (x1.hh _ _ ha), ?_, q d v0 F1 H1 p x1 f3.2⟩
        unfold atI
        rw [← hl, hj]
        exact f1
    · exact w1.elim
  · exact w.elim
end
end L2

namespace L2
open PySem PySem.Spec PyProof.Rows
/-! ### t[a:b], perhaps the whole -/
section
variable {prog : Program} {w : World} {A : Around} {E : Value → Shared → Prop} {s : Shared}
theorem lw_tup_whole {t sl : Addr} {items : Array Value} {vl vu : Value} {lo hi : Option Int} {Q : Value → Shared → Prop} (ht : IsTup s.heap t items) (hs : s.heap.IsSliceOf sl vl vu .none) (pl : IsPart vl lo) (pu : IsPart vu hi)
    (hw : HT.sIx items.size 0 lo = 0 ∧ HT.sIx items.size items.size hi = items.size) (h : Q (.ref t) s) : wpAny (model prog w) A (getItem (.ref t) (.ref sl)) Q E s := by
  obtain ⟨os, hos, hcs, hds⟩ := id hs
  have hTs : s.TypeIs (.ref sl) "slice" := ⟨os, hos, hcs⟩
  unfold getItem
  try with_reducible refine wpAny_holding ?_
  first | refine wpAny_bind (wpAny_pure ?_) | skip
  refine wpAny_bind (wpAny_sequenceKey ht.typeIs (by decide) ?_)
  refine wpAny_bind (wpAny_callSpecial?_slot (name := Str.ofString "__getitem__") ht.typeIs PyProof.Rows.slot_tuple_getitem
    (wpAny_call_entry PyProof.Rows.slot_tuple_getitem ht.typeIs entry_tuple_getitem ?_ (args_tuple_getitem _ _)))
  show wpAny _ _ (Builtin.Tuple.tupleItemsOf (.ref t) >>= _) _ _ s
  refine wpAny_bind (tupleItemsOf_ ht ?_)
  refine wpAny_bind (wpAny_typeOf hTs ?_)
  rw [if_pos (by decide)]
  refine wpAny_bind (HT.sliceApplied_gen hs pl pu ?_)
  have hyes : ((((HT.sIx items.size 0 lo : Nat) : Int) == 0 && (1 : Int) == 1 && (HT.sIx items.size items.size hi - HT.sIx items.size 0 lo) == items.size) = true) := by
    rw [hw.1, hw.2]; simp
  show wpAny _ _ (if (((HT.sIx items.size 0 lo : Nat) : Int) == 0 && (1 : Int) == 1 && (HT.sIx items.size items.size hi - HT.sIx items.size 0 lo) == items.size) = true then _ else _) _ _ s
  rw [if_pos hyes]
  obtain ⟨ob, hob, hcls, n, hdat⟩ := id ht
  refine wpAny_bind (m := Builtin.Tuple.tupleIsExact (.ref t)) ?_
  unfold Builtin.Tuple.tupleIsExact
  refine wpAny_bind (wpAny_typeOf ht.typeIs (wpAny_pure ?_))
  rw [if_pos (show (Value.type "tuple" == Value.type "tuple") = true by decide)]
  refine wpAny_bind (wpAny_rule ?_)
  exact wpAny_pure ⟨_, rfl, wpAny_pure h⟩
end
def rSlTS (K : PySem.W.Frag) : V → Option Int → Option Int → Hp → VK → Prop := fun x lo hi H Q => ∃ a xs, x = .ref a ∧ SqT K H a xs ∧ ((HT.sIx xs.length 0 lo = 0 ∧ HT.sIx xs.length xs.length hi = xs.length) → Q (.ref a) H) ∧
  (¬ (HT.sIx xs.length 0 lo = 0 ∧ HT.sIx xs.length xs.length hi = xs.length) → ∀ p, H p = none → Q (.ref p) (upd H p (.tup (cutV xs lo hi))))
theorem sl_tupS {X : Cx} : SlR X (rSlTS X.K) := by
  intro pins s σ H x v vl vu lo hi sl Q I rx hs pl pu h
  obtain ⟨a, xs, rfl, hx, q1, q2⟩ := h
  by_cases hw : HT.sIx xs.length 0 lo = 0 ∧ HT.sIx xs.length xs.length hi = xs.length
  · cases rx
    obtain ⟨its, r, ht, hz⟩ := I.tuple hx
    have hlen : its.toArray.size = xs.length := by rw [List.size_toArray]; exact r.length.symm
    refine ⟨"tuple", _, PyProof.Rows.slot_tuple_getitem.lookup, ht.typeIs, ?_⟩
    exact lw_tup_whole ht hs pl pu (by rw [hlen]; exact hw) ⟨.ref a, H, I, rfl, q1 hw⟩
  · exact sl_tup pins s σ H (.ref a) v vl vu lo hi sl Q I rx hs pl pu ⟨a, xs, rfl, hx, hw, q2 hw⟩
def dSlT (Ea : DE) (L U : DPt) : DE := fun δ P => Ea δ fun x => L δ fun lo => U δ fun hi => match x with
  | .tup xs => P (.tup (cutD xs lo hi))
  | _ => False
theorem cutD_whole {xs : List D} {lo hi : Option Int} (h : HT.sIx xs.length 0 lo = 0 ∧ HT.sIx xs.length xs.length hi = xs.length) : cutD xs lo hi = xs := by
  unfold L2.cutD
  rw [h.1, h.2, List.drop_zero, Nat.sub_zero, List.take_length]
theorem sF_slT {K : PySem.W.Frag} {ta : TE} {Ea : DE} {tl tu : TO} {L U : DPt} (ha : SimF K ta Ea) (hl : SimP K tl L) (hu : SimP K tu U) : SimF K (tSl (rSlTS K) ta tl tu) (dSlT Ea L U) := fun F0 H0 F H σ δ P Q e w q =>
  ha F0 H0 F H σ δ _ _ e w fun x v F1 H1 w1 x1 r1 => hl F0 H0 F1 H1 σ δ _ _ (e.on x1) w1 fun lo F2 H2 w2 x2 => hu F0 H0 F2 H2 σ δ _ _ ((e.on x1).on x2) w2 fun hi F3 H3 w3 x3 => by
    have x13 := x1.trans (x2.trans x3)
    try dsimp only at w3
    split at w3
    · obtain ⟨p, vs, rfl, h1, h2⟩ := r1.mono (x2.ff.trans x3.ff)
      have hln := h2.length
      refine ⟨p, vs, rfl, x3.fh.seqT h1, fun hw => ?_, fun hw l l0 => ?_⟩
      · rw [← hln] at hw
        rw [cutD_whole hw] at w3
        exact q _ _ F3 H3 w3 x13 ⟨p, vs, rfl, h1, h2⟩
      · exact q _ _ _ _ w3 (x13.trans (Ext.new x3.fh l0 (Same.new l0) upd_same)) ⟨l, _, rfl, .inl (.inl upd_same), (h2.cut lo hi).mono (Same.upd' (x3.fh.free l0))⟩
    · exact w3.elim
/-- a slice of a list that is lent: only read -/
def dSlB (Ea : DE) (L U : DPt) : DE := fun δ P => Ea δ fun x => L δ fun lo => U δ fun hi => match x with
  | .lst xs => P (.lst (cutD xs lo hi))
  | _ => False
theorem sB_slL {K : PySem.W.Frag} {ta : TE} {Ea : DE} {tl tu : TO} {L U : DPt} (ha : SimB K ta Ea) (hl : SimP K tl L) (hu : SimP K tu U) : SimB K (tSl (rSlS K) ta tl tu) (dSlB Ea L U) := fun F0 H0 F H σ δ P Q e w q =>
  ha F0 H0 F H σ δ _ _ e w fun x v F1 H1 w1 x1 r1 => hl F0 H0 F1 H1 σ δ _ _ (e.on x1) w1 fun lo F2 H2 w2 x2 => hu F0 H0 F2 H2 σ δ _ _ ((e.on x1).on x2) w2 fun hi F3 H3 w3 x3 => by
    have x13 := x1.trans (x2.trans x3)
    try dsimp only at w3
    split at w3
    · obtain ⟨p, vs, rfl, h1, h2⟩ := r1.mono (x2.hh.trans x3.hh)
      exact ⟨p, vs, rfl, h1, fun l H' l0 sm l1 => q _ _ F3 H' w3 (x13.trans (Ext.grow x3.fh sm)) ⟨l, _, rfl, SqL.of l1, (h2.mono sm).cut lo hi⟩⟩
    · exact w3.elim
/-! ### sum of a list of ints -/
def sumD : List D → (D → Prop) → Prop := fun ds P => match ds with
  | [.lst xs] => ∃ ns : List Int, xs = ns.map D.int ∧ P (.int ns.sum)
  | _ => False
/-! ### for x in [y, z, e, ..], the names' own lists handed over, each to a callee that changes it -/
abbrev DAM := Dst → (List OV → Dst → Prop) → Prop
def dMNil : DAM := fun δ P => P [] δ
def dMCons (E : DO) (As : DAM) : DAM := fun δ P => E δ fun r => As δ fun rs δ' => P (r :: rs) δ'
def dMMv (i : Nat) (As : DAM) : DAM := fun δ P => match δ[i]? with
  | some (some (.own (.nl _))) => As δ fun rs δ' => match δ'[i]? with
    | some (some (.own (.nl ts))) => P (.nl ts :: rs) (δ'.set i none)
    | _ => False
  | _ => False
def noBw : Dst → Dst := List.map fun s => match s with
  | some (.bw _) => none
  | s => s
def forMR (x : Nat) (T : DS) (De : DEnds) : List OV → Dst → Prop
  | [], δ => De.nx δ
  | r :: rs, δ => T { nx := fun δ' => forMR x T De rs (noBw δ'), ct := fun δ' => forMR x T De rs (noBw δ'), rt := De.rt } (δ.set x (some (.own r)))
def sForM (x : Nat) (As : DAM) (T : DS) : DS := fun De δ => As δ fun rs δ' => rs.length ≤ 1000000 ∧ forMR x T De rs (noBw δ')
/-- if not f(x): .., x given up -/
def sIfMv (i : Nat) (sp : DMV) (T U : DS) : DS := fun De δ => match δ[i]? with
  | some (some (.own (.nl ts))) => sp ts [] fun r => match r with
    | .fz (.bl b) => if (!b) = true then T De (δ.set i none) else U De (δ.set i none)
    | _ => False
  | _ => False
section
variable {X : Cx} {K : PySem.W.Frag} {mg : Str → Option Value}
def rSumL (K : PySem.W.Frag) : List V → Hp → VK → Prop := fun xs H Q => ∃ (l : Addr) (ns : List Int), xs = [.ref l] ∧ SqL K H l (ns.map V.int) ∧ Q (.int ns.sum) H
theorem call_sumI (hc : X.calm = true := by rfl) : CallR X (.builtin "sum") (rSumL X.K) := by
  intro pins s σ H xs us Q I r h
  obtain ⟨l, ns, rfl, hq, q⟩ := h
  obtain ⟨u, rfl, ru⟩ := vals1 r
  cases ru
  obtain ⟨its, rv, pl, hz⟩ := I.list hq
  have hi : IntsAre its ns := intsAre_of rv
  have hl := pl.isList
  obtain ⟨ys, e⟩ := hi.allInts.items
  have hns : ns = ys.toList.map (·.1) := by rw [← hi.numsOf, ← nums_intItems, ← e]
  rw [e] at hl
  refine sum_intListG (I.ok.hd hc) hl fun h' tk t' hk => ?_
  refine ⟨.int _, H, I.kept hk, ⟨t', rfl⟩, ?_⟩
  rw [preSum_eq, List.take_of_length_le (by simp), ← hns]
  exact q
theorem cS_sum : CbS K (rSumL K) sumD := fun F H ds vs P Q s rs w q => by
  unfold sumD at w
  split at w
  · obtain ⟨ns, rfl, w⟩ := w
    obtain ⟨v, rfl, p, us, rfl, h1, h2⟩ := reps1 rs
    rw [reps_ints] at h2
    subst h2
    exact ⟨p, ns, rfl, h1, q _ _ F H w (Ext.refl s) rfl⟩
  · exact w.elim
def SimAM (K : PySem.W.Frag) (t : TA) (E : DAM) : Prop := ∀ F0 H0 F H σ δ A P Q, ER K F0 H0 F H σ δ A → E δ P →
  (∀ rs vs F' H' δ' A' B, P rs δ' → Ext F H F' H' → ER K F0 H0 F' H' σ δ' A' → (∀ j b, b ∈ A' j → b ∈ A j) → RepOs K F' H' rs vs B → B.Nodup → (∀ j b, b ∈ B → b ∉ A' j) → (∀ b ∈ B, F' b = none ∧ H0 b = none ∧ ((∃ j, b ∈ A j) ∨ H b = none)) → Q vs H') → t σ H Q
theorem sAM_nil : SimAM K tNil dMNil := fun F0 H0 F H σ δ A P Q e w q =>
  q [] [] F H δ A [] w (Ext.refl e.ext.fh) e (fun _ _ z => z) ⟨rfl, rfl⟩ List.nodup_nil (fun _ _ z => by cases z) (fun _ z => by cases z)
theorem sAM_cons {ta : TE} {a : TA} {E : DO} {As : DAM} (h : SimO K ta E) (g : SimAM K a As) : SimAM K (tCons ta a) (dMCons E As) := fun F0 H0 F H σ δ A P Q e w q =>
  h F0 H0 F H σ δ _ _ ⟨A, e⟩ w fun r v F1 H1 w1 x1 n1 => g F0 H0 F1 H1 σ δ A _ _ (e.on x1) w1 fun rs vs F2 H2 δ' A' B p x2 e2 sb hr nd dj nw => by
    obtain ⟨C, c1, c2, c3⟩ := n1
    have hC1 : ∀ b ∈ C, ∃ xs, H1 b = some (.lst xs) := fun b hb => c1.isl b hb
    refine q (r :: rs) (v :: vs) F2 H2 δ' A' (C ++ B) p (x1.trans x2) e2 sb ⟨v, vs, C, B, rfl, rfl, c1.frame x2.ff fun b _ xs z => x2.hh _ _ z, hr⟩ (List.nodup_append.mpr ⟨c2, nd, fun x hx y hy z => ?_⟩) (fun j b hb z => ?_) fun b hb => ?_
    · subst z
      obtain ⟨xs, q1⟩ := hC1 x hx
      rcases (nw x hy).2.2 with ⟨j, hj⟩ | hn
      · obtain ⟨_, _, ys, q2⟩ := e.new j x hj
        rw [(c3 x hx).1] at q2; cases q2
      · rw [hn] at q1; cases q1
    · rcases List.mem_append.mp hb with y | y
      · obtain ⟨_, _, ys, q2⟩ := e.new j b (sb j b z)
        rw [(c3 b y).1] at q2; cases q2
      · exact dj j b y z
    · rcases List.mem_append.mp hb with y | y
      · obtain ⟨xs, q1⟩ := hC1 b y
        exact ⟨x2.no b _ (c3 b y).2 q1 rfl, e.ext.hh.free (c3 b y).1, .inr (c3 b y).1⟩
      · refine ⟨(nw b y).1, (nw b y).2.1, ?_⟩
        rcases (nw b y).2.2 with z | z
        · exact .inl z
        · exact .inr (x1.hh.free z)
theorem sAM_mv {i : Nat} {a : TA} {As : DAM} (g : SimAM K a As) : SimAM K (tCons (tVar i) a) (dMMv i As) := fun F0 H0 F H σ δ A P Q e w q => by
  unfold dMMv at w
  split at w
  · rename_i ts0 hs0
    obtain ⟨v, hv, _⟩ := e.own i _ hs0
    refine ⟨v, hv, g F0 H0 F H σ δ A _ _ e w fun rs vs F2 H2 δ' A' B p x2 e2 sb hr nd dj nw => ?_⟩
    try dsimp only at p
    split at p
    · rename_i ts hs
      obtain ⟨v', hv', hR⟩ := e2.own i _ hs
      rw [hv] at hv'
      cases hv'
      have hi : i < δ'.length := (List.getElem?_eq_some_iff.mp hs).1
      have e3 : ER K F0 H0 F2 H2 σ (δ'.set i none) (fun j => if j = i then [] else A' j) := by
        refine ⟨by simp [e2.len], e2.ext, fun j t hj => ?_, fun j d hj => ?_, fun j => ?_, fun j k a hjk h1 h2 => ?_, fun j a ha => ?_⟩
        · by_cases z : j = i
          · subst z
            rw [List.getElem?_set_self hi] at hj
            cases hj
          · rw [List.getElem?_set_ne (Ne.symm z)] at hj
            try dsimp only
            rw [if_neg z]
            exact e2.own j t hj
        · by_cases z : j = i
          · subst z
            rw [List.getElem?_set_self hi] at hj
            cases hj
          · rw [List.getElem?_set_ne (Ne.symm z)] at hj
            exact e2.bw j d hj
        · try dsimp only
          split
          · exact List.nodup_nil
          · exact e2.nod j
        · try dsimp only at h1 h2
          split at h1
          · cases h1
          · split at h2
            · cases h2
            · exact e2.dis j k a hjk h1 h2
        · try dsimp only at ha
          split at ha
          · cases ha
          · exact e2.new j a ha
      refine q (.nl ts :: rs) (v :: vs) F2 H2 _ _ (A' i ++ B) p x2 e3 (fun j b hb => ?_) ⟨v, vs, A' i, B, rfl, rfl, hR, hr⟩ (List.nodup_append.mpr ⟨e2.nod i, nd, fun x hx y hy z => ?_⟩) (fun j b hb hz => ?_) fun b hb => ?_
      · try dsimp only at hb
        split at hb
        · cases hb
        · exact sb j b hb
      · subst z
        exact dj i x hy hx
      · try dsimp only at hz
        split at hz
        · cases hz
        · rename_i z
          rcases List.mem_append.mp hb with y | y
          · exact e2.dis j i b z hz y
          · exact dj j b y hz
      · rcases List.mem_append.mp hb with y | y
        · exact ⟨(e2.new i b y).1, (e2.new i b y).2.1, .inl ⟨i, sb i b y⟩⟩
        · exact nw b y
    · exact p.elim
  · exact w.elim
theorem noBw_get {δ : Dst} {i : Nat} {s : Sl} (h : (noBw δ)[i]? = some (some s)) : δ[i]? = some (some s) ∧ ∃ t, s = .own t := by
  unfold noBw at h
  rw [List.getElem?_map] at h
  cases q : δ[i]? with
  | none => rw [q] at h; cases h
  | some o =>
    rw [q] at h
    cases o with
    | none => cases h
    | some s' =>
      cases s' with
      | bw d => cases h
      | own t => cases h; exact ⟨rfl, t, rfl⟩
theorem ER.noBw {F0 H0 H0' F H : Hp} {σ : St} {δ : Dst} {A : Nat → List Addr} (e : ER K F0 H0' F H σ δ A) (s : Same H0 H0') : ER K F0 H0 F H σ (L2.noBw δ) A := by
  refine ⟨by rw [e.len]; simp [L2.noBw], ⟨e.ext.ff, s.trans e.ext.hh, e.ext.fh, fun a o z1 z2 z3 => e.ext.no a o z1 (s _ _ z2) z3⟩, fun i t hi => e.own i t (noBw_get hi).1, fun i d hi => ?_, e.nod, e.dis, fun i a ha => ⟨(e.new i a ha).1, s.free (e.new i a ha).2.1, (e.new i a ha).2.2⟩⟩
  obtain ⟨_, t, z⟩ := noBw_get hi
  cases z
theorem Ext.unbase' {F0 H0 H0' F1 H1 F H : Hp} (x : Ext F0 H0 F1 H1) (s : Same H0 H0') (y : Ext F1 H0' F H) : Ext F0 H0 F H := ⟨x.ff.trans y.ff, s.trans y.hh, y.fh, fun a o z1 z2 z3 => y.no a o (x.no a o z1 z2 z3) (s _ _ z2) z3⟩
theorem sS_forM {x : Nat} {ta : TA} {As : DAM} {t : TS} {T : DS} (h : SimAM K ta As) (ht : SimS K t T) : SimS K (tFor (iList K (tLstS ta)) (gName x) t) (sForM x As T) := fun F0 H0 F H σ δ De En ⟨A, e⟩ l w => by
  refine h F0 H0 F H σ δ A _ _ e w fun rs vs F1 H1 δ1 A1 B p x1 e1 sb hr nd dj nw => ?_
  obtain ⟨hle, p⟩ := p
  have hl := hr.length
  refine ⟨sz_le (by omega), fun L H2 hL hs he => ⟨L, rfl, ⟨vs, SqL.of he⟩, ?_⟩⟩
  have e1' := (e1.on (Ext.grow e1.ext.fh hs)).noBw (Same.refl H0)
  refine ⟨fun i m σ H => m = rs.length - i ∧ i ≤ rs.length ∧ ∃ F δ A B, forMR x T De (rs.drop i) δ ∧ ER K F0 H0 F H σ δ A ∧ RepOs K F H (rs.drop i) (vs.drop i) B ∧ (L :: B).Nodup ∧ (∀ j b, b ∈ L :: B → b ∉ A j) ∧ (∀ b ∈ L :: B, F b = none ∧ H0 b = none) ∧ H L = some (.lst vs),
    ⟨rs.length, by simp, Nat.zero_le _, F1, noBw δ1, A1, B, by simpa using p, e1', by simpa using hr.frame (Same.refl _) fun b _ xs z => hs _ _ z, List.nodup_cons.mpr ⟨fun z => ?_, nd⟩, fun j b hb hz => ?_, fun b hb => ?_, he⟩, ?_⟩
  · obtain ⟨xs, q⟩ := hr.isl L z
    rw [hL] at q; cases q
  · rcases List.mem_cons.mp hb with y | y
    · subst y
      obtain ⟨_, _, xs, q⟩ := e1.new j b hz
      rw [hL] at q; cases q
    · exact dj j b y hz
  · rcases List.mem_cons.mp hb with y | y
    · subst y
      exact ⟨e1.ext.fh.free hL, e1.ext.hh.free hL⟩
    · exact ⟨(nw b y).1, (nw b y).2.1⟩
  rintro i m σ3 H3 ⟨rfl, hil, F3, δ3, A3, B3, p3, e3, hr3, nd3, dj3, nw3, hL3⟩
  have hq : SqL K H3 L vs := SqL.of hL3
  by_cases hlt : i < rs.length
  · refine .inr ⟨⟨vs, vs[i], hq, List.getElem?_eq_getElem (by omega)⟩, fun σ' H' => ∃ F δ A B, forMR x T De (rs.drop (i + 1)) δ ∧ ER K F0 H0 F H' σ' δ A ∧ RepOs K F H' (rs.drop (i + 1)) (vs.drop (i + 1)) B ∧ (L :: B).Nodup ∧ (∀ j b, b ∈ L :: B → b ∉ A j) ∧ (∀ b ∈ L :: B, F b = none ∧ H0 b = none) ∧ H' L = some (.lst vs), fun σ' H' z => ⟨rs.length - (i + 1), by omega, rfl, hlt, z⟩, fun y H4 hy => ?_⟩
    have hHe := hy.1
    have hyv := hy.2 vs hq
    rw [hHe]
    clear hHe hy
    rw [List.drop_eq_getElem_cons hlt] at p3 hr3
    rw [List.drop_eq_getElem_cons (show i < vs.length by omega)] at hr3
    obtain ⟨v, r', B1, B2, ev, rfl, hr1, hr2⟩ := hr3
    injection ev with ev1 ev2
    have hyv' : y = v := by
      rw [List.getElem?_eq_getElem (show i < vs.length by omega)] at hyv
      rw [← ev1]; exact (Option.some.inj hyv).symm
    subst hyv'
    subst ev2
    obtain ⟨n1, n2⟩ := List.nodup_cons.mp nd3
    obtain ⟨m1, m2, m3⟩ := List.nodup_append.mp n2
    have hH0 : ∀ b, b ∈ L :: B2 → H0 b = none := fun b hb => (nw3 b (by
      rcases List.mem_cons.mp hb with z | z
      · rw [z]; exact List.mem_cons_self
      · exact List.mem_cons_of_mem _ (List.mem_append_right _ z))).2
    have hFn : ∀ b, b ∈ L :: B2 → F3 b = none := fun b hb => (nw3 b (by
      rcases List.mem_cons.mp hb with z | z
      · rw [z]; exact List.mem_cons_self
      · exact List.mem_cons_of_mem _ (List.mem_append_right _ z))).1
    have hHs : ∀ b, b ∈ L :: B2 → ∃ xs, H3 b = some (.lst xs) := fun b hb => by
      rcases List.mem_cons.mp hb with z | z
      · rw [z]; exact ⟨_, hL3⟩
      · exact hr2.isl b z
    have s0 : Same H0 (fun b => if b ∈ L :: B2 then H3 b else H0 b) := fun b o z => by
      try dsimp only
      rw [if_neg fun y => by rw [hH0 b y] at z; cases z]; exact z
    have s1 : Same (fun b => if b ∈ L :: B2 then H3 b else H0 b) H3 := fun b o z => by
      try dsimp only at z
      split at z
      · exact z
      · exact e3.ext.hh _ _ z
    have e4 : ER K F3 (fun b => if b ∈ L :: B2 then H3 b else H0 b) F3 H3 (σ3.set x (some y)) (δ3.set x (some (.own rs[i]))) (fun j => if j = x then B1 else A3 j) := by
      refine ⟨by simp [e3.len], ⟨Same.refl _, s1, e3.ext.fh, fun _ _ z _ _ => z⟩, fun j t hj => ?_, fun j d hj => ?_, fun j => ?_, fun j k a hjk h1 h2 => ?_, fun j a ha => ?_⟩
      · try dsimp only
        by_cases z : j = x
        · subst z
          rw [if_pos rfl]
          have hj' : j < δ3.length := by
            have := (List.getElem?_eq_some_iff.mp hj).1
            rwa [List.length_set] at this
          rw [List.getElem?_set_self hj'] at hj
          cases hj
          exact ⟨y, List.getElem?_set_self (by rw [e3.len]; exact hj'), hr1⟩
        · rw [if_neg z]
          rw [List.getElem?_set_ne (Ne.symm z)] at hj ⊢
          exact e3.own j t hj
      · by_cases z : j = x
        · subst z
          have hj' : j < δ3.length := by
            have := (List.getElem?_eq_some_iff.mp hj).1
            rwa [List.length_set] at this
          rw [List.getElem?_set_self hj'] at hj
          cases hj
        · rw [List.getElem?_set_ne (Ne.symm z)] at hj ⊢
          obtain ⟨u, h1, h2⟩ := e3.bw j d hj
          exact ⟨u, h1, h2.mono s0⟩
      · try dsimp only
        split
        · exact m1
        · exact e3.nod j
      · try dsimp only at h1 h2
        split at h1
        · split at h2
          · omega
          · exact dj3 k a (List.mem_cons_of_mem _ (List.mem_append_left _ h1)) h2
        · split at h2
          · exact dj3 j a (List.mem_cons_of_mem _ (List.mem_append_left _ h2)) h1
          · exact e3.dis j k a hjk h1 h2
      · try dsimp only at ha ⊢
        split at ha
        · have hm : a ∈ L :: (B1 ++ B2) := List.mem_cons_of_mem _ (List.mem_append_left _ ha)
          refine ⟨(nw3 a hm).1, ?_, hr1.isl a ha⟩
          rw [if_neg fun z => ?_]
          · exact (nw3 a hm).2
          · rcases List.mem_cons.mp z with y | y
            · rw [y] at ha; exact n1 (List.mem_append_left _ ha)
            · exact m3 a ha a y rfl
        · obtain ⟨q1, q2, q3⟩ := e3.new j a ha
          refine ⟨q1, ?_, q3⟩
          rw [if_neg fun z => dj3 j a (by
            rcases List.mem_cons.mp z with y | y
            · rw [y]; exact List.mem_cons_self
            · exact List.mem_cons_of_mem _ (List.mem_append_right _ y)) ha]
          exact q2
    have fin : ∀ F5 H5 σ5 δ5, EnvR K F3 (fun b => if b ∈ L :: B2 then H3 b else H0 b) F5 H5 σ5 δ5 → forMR x T De (rs.drop (i + 1)) (noBw δ5) → ∃ F δ A B, forMR x T De (rs.drop (i + 1)) δ ∧ ER K F0 H0 F H5 σ5 δ A ∧ RepOs K F H5 (rs.drop (i + 1)) (vs.drop (i + 1)) B ∧ (L :: B).Nodup ∧ (∀ j b, b ∈ L :: B → b ∉ A j) ∧ (∀ b ∈ L :: B, F b = none ∧ H0 b = none) ∧ H5 L = some (.lst vs) := by
      rintro F5 H5 σ5 δ5 ⟨A5, e5⟩ p5
      have e6 := e5.noBw s0
      have kp : ∀ b, b ∈ L :: B2 → ∀ xs, H3 b = some (.lst xs) → H5 b = some (.lst xs) := fun b hb xs z => e5.ext.hh b _ (by (try dsimp only); rw [if_pos hb]; exact z)
      refine ⟨F5, noBw δ5, A5, B2, p5, ⟨e6.len, e3.ext.unbase e6.ext, e6.own, e6.bw, e6.nod, e6.dis, e6.new⟩, hr2.frame e5.ext.ff fun b hb xs z => kp b (List.mem_cons_of_mem _ hb) xs z, List.nodup_cons.mpr ⟨fun z => n1 (List.mem_append_right _ z), m2⟩, fun j b hb hz => ?_, fun b hb => ⟨?_, hH0 b hb⟩, kp L List.mem_cons_self vs hL3⟩
      · have q := (e5.new j b hz).2.1
        try dsimp only at q
        rw [if_pos hb] at q
        obtain ⟨xs, y⟩ := hHs b hb
        rw [y] at q; cases q
      · obtain ⟨xs, y⟩ := hHs b hb
        exact e5.ext.no b _ (hFn b hb) (by (try dsimp only); rw [if_pos hb]; exact y) rfl
    refine ht F3 (fun b => if b ∈ L :: B2 then H3 b else H0 b) F3 H3 _ _ { nx := fun δ' => forMR x T De (rs.drop (i + 1)) (noBw δ'), ct := fun δ' => forMR x T De (rs.drop (i + 1)) (noBw δ'), rt := De.rt } _ ⟨_, e4⟩ ⟨fun F5 H5 σ5 δ5 e5 w5 => fin F5 H5 σ5 δ5 e5 w5, fun F5 H5 σ5 δ5 e5 w5 => w5.elim, fun F5 H5 σ5 δ5 e5 w5 => fin F5 H5 σ5 δ5 e5 w5, fun F5 H5 r v x5 n5 w5 => l.rt F5 H5 r v (e3.ext.unbase' s0 x5) (n5.old s0) w5⟩ p3
  · have hi' : i = rs.length := by omega
    subst hi'
    rw [List.drop_length] at p3
    exact .inl ⟨⟨vs, hq, by omega⟩, l.nx F3 H3 σ3 δ3 ⟨A3, e3⟩ p3⟩
theorem sS_ifMv {i : Nat} {sp : DMV} {t u : TS} {T U : DS} (ht : SimS K t T) (hu : SimS K u U) : SimS K (tIfS (tNot (tB (tCall (spMV K 1 sp) [] E0 (tCons (tVar i) tNil)))) t u) (sIfMv i sp T U) := fun F0 H0 F H σ δ De En ⟨A, e⟩ l w => by
  unfold sIfMv at w
  split at w
  · rename_i ts hs
    obtain ⟨v, hv, p, vs, B, rfl, eA, hp, hB⟩ := e.own i _ hs
    have hi : i < δ.length := (List.getElem?_eq_some_iff.mp hs).1
    have hnd := e.nod i
    rw [eA] at hnd
    refine ⟨_, hv, ?_⟩
    refine ⟨rfl, F, p, ts, vs, B, [], [], _, rfl, e.ext.fh, hp, hB, hnd, fun b hb => (e.new i b (by rw [eA]; exact hb)).1, rfl, w, fun r v F' H' pr x' n' => ?_⟩
    try dsimp only at pr
    split at pr
    · rename_i b
      obtain ⟨C, ⟨_, c1⟩, _⟩ := n'
      have sm : Same H0 (fun c => if c ∈ p :: B then none else H c) := fun c o z => by
        have hn : c ∉ p :: B := fun y => by rw [(e.new i c (by rw [eA]; exact y)).2.1] at z; cases z
        try dsimp only
        rw [if_neg hn]; exact e.ext.hh _ _ z
      have kp : ∀ j, j ≠ i → ∀ c ∈ A j, ∀ xs, H c = some (.lst xs) → H' c = some (.lst xs) := fun j hj c hc xs z => x'.hh _ _ (by
        try dsimp only
        rw [if_neg fun y => e.dis j i c hj hc (by rw [eA]; exact y)]; exact z)
      have e' : EnvR K F0 H0 F' H' σ (δ.set i none) := by
        refine ⟨fun j => if j = i then [] else A j, by simp [e.len], ⟨e.ext.ff.trans x'.ff, sm.trans x'.hh, x'.fh, fun c o z1 z2 z3 => x'.no c o (e.ext.no c o z1 z2 z3) (sm _ _ z2) z3⟩, fun j t hj => ?_, fun j d hj => ?_, fun j => ?_, fun j k a hjk h1 h2 => ?_, fun j a ha => ?_⟩
        · by_cases z : j = i
          · subst z
            rw [List.getElem?_set_self hi] at hj
            cases hj
          · rw [List.getElem?_set_ne (Ne.symm z)] at hj
            try dsimp only
            rw [if_neg z]
            obtain ⟨u, h1, h2⟩ := e.own j t hj
            exact ⟨u, h1, h2.frame x'.ff fun c hc xs q => kp j z c hc xs q⟩
        · by_cases z : j = i
          · subst z
            rw [List.getElem?_set_self hi] at hj
            cases hj
          · rw [List.getElem?_set_ne (Ne.symm z)] at hj
            exact e.bw j d hj
        · try dsimp only
          split
          · exact List.nodup_nil
          · exact e.nod j
        · try dsimp only at h1 h2
          split at h1
          · cases h1
          · split at h2
            · cases h2
            · exact e.dis j k a hjk h1 h2
        · try dsimp only at ha
          split at ha
          · cases ha
          · rename_i z
            obtain ⟨q1, q2, xs, q3⟩ := e.new j a ha
            exact ⟨x'.no a (.lst xs) q1 (by (try dsimp only); rw [if_neg fun y => e.dis j i a z ha (by rw [eA]; exact y)]; exact q3) rfl, q2, xs, kp j z a ha xs q3⟩
      refine ⟨b, c1, ?_⟩
      cases b with
      | true => exact iteB rfl (hu F0 H0 F' H' σ _ De En e' l pr)
      | false => exact iteT (ht F0 H0 F' H' σ _ De En e' l pr)
    · exact pr.elim
  · exact w.elim
end
end L2

namespace Lw
open PySem L2 PyProof.Rows
def top (i : Nat) : Stmt := PySem.Challenge.pw_liftwave_k15_laid_opened.main.body.getD i (.Pass ⟨0, 0, 0, 0⟩)
/-! ### running a def's worth -/
abbrev vD (d : D) : Option Sl := some (.own (.fz d))
abbrev vI (i : Int) : Option Sl := some (.own (.fz (.int i)))
abbrev vL (ts : List OV) : Option Sl := some (.own (.nl ts))
local macro_rules | `(tactic| walk_at "v") => `(tactic| simp only [vD, vI, vL, startV, sNext, sSeq, sBreak, sCont, sDrop, sRet, sRetN, sRetV, sIf, sSet, sAug, sAsg, sApp, sPut, sAugI, sApp2, sExt, sFrz, dCatL, dRevL, sFor, gN, gsNil, gsCons, gT, dFz, dVal, dLf, dV, dB, dC, dOp, dUn, rU1, rI2, rI2C, rEqD, rNeD, rIsN, rNotN, D.isNon, dTb, dNot, dAnd, dOr, dIf, dAndV, dOrV, dNotV, dChain, dNil, dCons, dNilO, dConsO, dTup, dLst, ixL, ixT, ixS, dCB, dCBo, lenD, lenS, max2, min2, L2.intD, absD, listD, dListB, tupD, dNoPt, dPt, dSlL, dCall, dCallB, dItL, dItT, dRng1, dRng2, dRng3, dRev, blkD, dComp, isiD, kitB, catTD, eqND, neND, D.same, allD, anyD, maxLD, dBitL, dEnum, dZip, divmodD, dIxO, sumD, dMNil, dMCons, dMMv, noBw, forMR, sForM, sIfMv, dSlT, dSlB, dRep1, dRevR, dCallM, startMV, sLend, fixFrom, fixS, unlFrom, unlS, dListR, sApp2N, dTruth, dCompIf, sPut2, dSlSt, dCallD, dCallDB, dCallL, dCallLB, sCallIO, startIO, sTag, gB, dCompB, dRngD, sAugI2, OV.val, OV.vals, OV.vals_eq, D.lf, D.lfs, OV.lf, OV.lfs,
  List.map_cons, List.map_nil, List.cons_append, List.nil_append, List.length_cons, List.length_nil, List.replicate, Nat.reduceAdd, Nat.reduceSub, Nat.reduceLeDiff, List.getElem?_cons_zero, List.getElem?_cons_succ, List.set_cons_zero, List.set_cons_succ, Bool.not_true, Bool.not_false, Bool.true_and, Bool.and_true, Bool.false_and, Bool.and_false, true_and, and_true, if_true, if_false, Bool.false_eq_true, List.length_map, reduceIte, decide_eq_true_eq, Option.some.injEq, exists_eq_left', val_fzI, lfs_fzI, lfs_ints, fz_int, set_fzI, app_fzI, CDiv, CMul, CPow, Int.reduceLT, Int.reduceLE, Int.reduceNeg, Int.reducePow, Int.reduceToNat, Int.reduceMul, Int.reduceAdd, Int.reduceSub, true_or, or_true, nat10, nat2, kn_int, kn_bool, kn_str, kn_tuple, kn_list, String.reduceBEq, String.reduceEq, decide_true, decide_false, not_true_eq_false, Bool.not_eq_true, Bool.or_self, Bool.or_false, Bool.false_or, Bool.not_not, eq_self, ne_eq, not_true, not_false_eq_true, atI_c0, atI_c1, atI_c2, atI_c3, atI_c4, beq_self_eq_true, Bool.true_or, Bool.or_true])
set_option hygiene false
local macro_rules | `(tactic| walk_at "s") => `(tactic| (refine sSeq_k fun N hN => ?_; walk_at "v"))
local macro_rules | `(tactic| walk_at "n") => `(tactic| (refine hN _ ?_; clear hN; clear N))
set_option hygiene true
section
variable {P : Program} {w : World} {K : PySem.W.Frag} {mg : Str → Option Value} {base : Heap}

/-! ### neighbours -/
def nbL (t m s : Int) : Int := if t - s < 0 then t + s else t - s
def nbR (t m s : Int) : Int := if m ≤ t + s then t - s else t + s
abbrev s_neighbours : Stmt := top 6
theorem sc_neighbours : FnScope ["at", "many", "stride", "left", "right"] ["at", "many", "stride"] (defScope s_neighbours) := ⟨rfl, rfl, rfl, by decide +kernel, rfl, by decide +kernel, by decide +kernel⟩
def sp_neighbours : DSp := fun ds P => match ds with
  | [.int t, .int m, .int s] => if t - s < 0 ∧ m ≤ t + s then P (.fz .non) else P (.fz (.tup [.int (nbL t m s), .int (nbR t m s)]))
  | _ => False
theorem ok_neighbours {f : Addr} {fd : FuncData} (Df : DefAt K mg "neighbours" s_neighbours f fd) (B : BltV mg) (KV : KitV K) :
    Cal P w K mg base "neighbours" 1 ["at", "many", "stride"] (spV K 3 sp_neighbours) := by
  refine CalV.of Df sc_neighbours (fun _ _ _ _ _ _ us hl => match us, hl with | [_, _, _], _ => rfl) rfl (fun cdv A outer s H E hr => ⟨_, _, (pss_cons (ps_set (i := 3) sc_neighbours.nd rfl (Or.inl rfl) (pe_op op_sub (pv 0) (pv 2)))
      (pss_cons (ps_set (i := 4) sc_neighbours.nd rfl (Or.inl rfl) (pe_op op_add (pv 0) (pv 2)))
      (pss_cons (ps_if (pw_and (pt_cmpR op_lt (pv 3) pe_int (nomark _)) (pw_and1 (pt_cmpR op_ge (pv 4) (pv 1) (nomark _)))).pt (pss_one (ps_ret pe_non)) pss_nil)
      (pss_cons (ps_if (pt_cmpR op_lt (pv 3) pe_int (nomark _)) (pss_one (ps_ret (pe_tupS (pa_cons (pv 4) (pa_cons (pv 4) pa_nil))))) pss_nil)
      (pss_cons (ps_if (pt_cmpR op_ge (pv 4) (pv 1) (nomark _)) (pss_one (ps_ret (pe_tupS (pa_cons (pv 3) (pa_cons (pv 3) pa_nil))))) pss_nil)
      (pss_one (ps_ret (pe_tupS (pa_cons (pv 3) (pa_cons (pv 4) pa_nil)))))))))),
    (sS_seq (sS_set (sO_f (sF_op oS_i0 sB_var sB_var)))
      (sS_seq (sS_set (sO_f (sF_op oS_i0 sB_var sB_var)))
      (sS_seq (sS_if (sT_and (sT_test (sF_op oS_b0 sB_var (sB_f sF_int))) (sT_test (sF_op oS_b0 sB_var sB_var))) (sS_ret (sO_f sF_non)) sS_next)
      (sS_seq (sS_if (sT_test (sF_op oS_b0 sB_var (sB_f sF_int))) (sS_ret (sO_f (sF_tup (sAF_cons sF_var (sAF_cons sF_var sAF_nil))))) sS_next)
      (sS_seq (sS_if (sT_test (sF_op oS_b0 sB_var sB_var)) (sS_ret (sO_f (sF_tup (sAF_cons sF_var (sAF_cons sF_var sAF_nil))))) sS_next)
      (sS_ret (sO_f (sF_tup (sAF_cons sF_var (sAF_cons sF_var sAF_nil)))))))))), ?_⟩)
  intro ds Pr h
  unfold sp_neighbours at h
  split at h
  · rename_i t m s'
    walk_at "v"
    unfold nbL nbR at h
    by_cases h1 : t - s' < 0 <;> by_cases h2 : m ≤ t + s' <;> simpa [h1, h2] using h
  · exact h.elim

/-! ### lifts of plain rows -/
theorem getD_set (xs : List Int) (t p : Nat) (v : Int) (h : t < xs.length) : (xs.set t v).getD p 0 = if p = t then v else xs.getD p 0 := by
  rw [List.getD_eq_getElem?_getD, List.getD_eq_getElem?_getD, List.getElem?_set]
  by_cases e : p = t
  · subst e
    rw [if_pos rfl, if_pos rfl, if_pos h]; rfl
  · rw [if_neg (fun z => e z.symm), if_neg e]
theorem foldl_at {F : Nat → List Int → Int} (S : Nat → Prop) (n : Nat) (hF : ∀ t xs ys, xs.length = n → ys.length = n → S t → t < n → (∀ p, p = t ∨ ¬ S p → xs.getD p 0 = ys.getD p 0) → F t xs = F t ys) :
    ∀ (ts : List Nat) (xs : List Int), xs.length = n → ts.Nodup → (∀ t ∈ ts, S t ∧ t < n) →
      (ts.foldl (fun xs t => xs.set t (F t xs)) xs).length = n ∧ ∀ p, (ts.foldl (fun xs t => xs.set t (F t xs)) xs).getD p 0 = if p ∈ ts then F p xs else xs.getD p 0
  | [], xs, hl, _, _ => ⟨hl, fun p => by simp⟩
  | t :: ts, xs, hl, nd, hs => by
    obtain ⟨n1, n2⟩ := List.nodup_cons.mp nd
    obtain ⟨st, lt⟩ := hs t List.mem_cons_self
    obtain ⟨e1, e2⟩ := foldl_at S n hF ts (xs.set t (F t xs)) (by rw [List.length_set]; exact hl) n2 fun u hu => hs u (List.mem_cons_of_mem _ hu)
    refine ⟨e1, fun p => ?_⟩
    rw [List.foldl_cons, e2 p]
    by_cases hp : p ∈ ts
    · rw [if_pos hp, if_pos (List.mem_cons_of_mem _ hp)]
      obtain ⟨sp, lp⟩ := hs p (List.mem_cons_of_mem _ hp)
      refine hF p _ _ (by rw [List.length_set]; exact hl) hl sp lp fun q hq => ?_
      rw [getD_set _ _ _ _ (by omega), if_neg]
      rintro rfl
      rcases hq with rfl | hq
      · exact n1 hp
      · exact hq st
    · rw [if_neg hp, getD_set _ _ _ _ (by omega)]
      by_cases e : p = t
      · subst e; rw [if_pos rfl, if_pos List.mem_cons_self]
      · rw [if_neg e, if_neg]
        intro z
        rcases List.mem_cons.mp z with z | z
        · exact e z
        · exact hp z
/-- a lift: its half, weights, addend, shift -/
structure Lf where
  h : Int
  l : Int
  r : Int
  a : Int
  s : Int
structure Lf.Ok (f : Lf) : Prop where
  h : f.h = 0 ∨ f.h = 1
  l : -8 ≤ f.l ∧ f.l ≤ 8
  r : -8 ≤ f.r ∧ f.r ≤ 8
  a : -64 ≤ f.a ∧ f.a ≤ 64
  s : 0 ≤ f.s ∧ f.s ≤ 8
def gainF (f : Lf) (x y : Int) : Int := (f.l * x + f.r * y + f.a) / 2 ^ f.s.toNat
/-- how many places of a half a row of n has -/
def cntF (h n st : Int) : Nat := (if h * st < n then (n - h * st - 1) / (2 * st) + 1 else 0).toNat
theorem cnt_lt {h n st : Int} (hs : 0 < st) (i : Nat) : i < cntF h n st ↔ h * st + (i : Int) * (2 * st) < n := by
  unfold cntF
  have h2 : 0 < 2 * st := by omega
  have h0 : 0 ≤ (i : Int) * (2 * st) := Int.mul_nonneg (by omega) (by omega)
  split
  · rename_i hlt
    have e := Int.le_ediv_iff_mul_le (a := (i : Int)) (b := n - h * st - 1) h2
    have e0 : 0 ≤ (n - h * st - 1) / (2 * st) := Int.ediv_nonneg (by omega) (by omega)
    constructor
    · intro z
      have := e.mp (by omega)
      omega
    · intro z
      have := e.mpr (by omega)
      omega
  · simp only [Int.toNat_zero]
    omega
/-- the places of a lift, where there are two things or more that take part -/
def plcF (h n st : Int) : List Int := if n ≤ st then [] else (List.range (cntF h n st)).map fun (i : Nat) => h * st + (i : Int) * (2 * st)
theorem plc_mem {h n st t : Int} (hs : 0 < st) : t ∈ plcF h n st ↔ ¬ n ≤ st ∧ t < n ∧ ∃ i : Nat, t = h * st + (i : Int) * (2 * st) := by
  unfold plcF
  split
  · rename_i hn
    constructor
    · intro z; cases z
    · intro z; exact absurd hn z.1
  · rename_i hn
    rw [List.mem_map]
    constructor
    · rintro ⟨i, hi, rfl⟩
      exact ⟨hn, (cnt_lt hs i).mp (List.mem_range.mp hi), i, rfl⟩
    · rintro ⟨_, h1, i, rfl⟩
      exact ⟨i, List.mem_range.mpr ((cnt_lt hs i).mpr h1), rfl⟩
theorem plc_nodup {h n st : Int} (hs : 0 < st) : (plcF h n st).Nodup := by
  unfold plcF
  split
  · exact List.nodup_nil
  · refine List.Pairwise.map _ (fun i j hij => ?_) List.nodup_range
    intro e
    have : (i : Int) * (2 * st) = (j : Int) * (2 * st) := by omega
    have := Int.eq_of_mul_eq_mul_right (by omega) this
    omega
/-- a place's neighbours -/
theorem nb_in {h n st t : Int} (hs : 0 < st) (hh : h = 0 ∨ h = 1) (ht : t ∈ plcF h n st) : (0 ≤ t ∧ t < n) ∧ (0 ≤ nbL t n st ∧ nbL t n st < n) ∧ (0 ≤ nbR t n st ∧ nbR t n st < n) ∧ ¬ (t - st < 0 ∧ n ≤ t + st) := by
  obtain ⟨h1, h2, i, rfl⟩ := (plc_mem hs).mp ht
  have hi : 0 ≤ (i : Int) * (2 * st) := Int.mul_nonneg (by omega) (by omega)
  have hz : 0 ≤ h * st := by rcases hh with rfl | rfl <;> omega
  have key : h * st + (i : Int) * (2 * st) - st < 0 → h * st + (i : Int) * (2 * st) = 0 := by
    intro z
    rcases Nat.eq_zero_or_pos i with rfl | hp
    · rcases hh with rfl | rfl
      · simp
      · simp at z ⊢ <;> omega
    · have : 1 * (2 * st) ≤ (i : Int) * (2 * st) := Int.mul_le_mul_of_nonneg_right (by omega) (by omega)
      omega
  generalize h * st + (i : Int) * (2 * st) = t at *
  unfold nbL nbR
  refine ⟨⟨by omega, h2⟩, ?_, ?_, fun z => ?_⟩
  · split <;> rename_i z
    · have := key z; omega
    · omega
  · split
    · by_cases z : t - st < 0
      · have := key z; omega
      · omega
    · omega
  · have := key z.1; omega
theorem nb_off {h n st t u : Int} (hs : 0 < st) (ht : ∃ i : Nat, t = h * st + (i : Int) * (2 * st)) (hu : u = nbL t n st ∨ u = nbR t n st) : ¬ ∃ j : Nat, u = h * st + (j : Int) * (2 * st) := by
  rintro ⟨j, hj⟩
  obtain ⟨i, hi⟩ := ht
  have key : ∀ d : Int, d = 1 ∨ d = -1 → ¬ (t + d * st = h * st + (j : Int) * (2 * st)) := by
    intro d hd e
    have e2 : ((j : Int) - i) * (2 * st) = d * st := by rw [Int.sub_mul]; omega
    have e3 : (((j : Int) - i) * 2 - d) * st = 0 := by rw [Int.sub_mul, Int.mul_assoc]; omega
    rcases Int.mul_eq_zero.mp e3 with z | z
    · rcases hd with rfl | rfl <;> omega
    · omega
  have k1 := key 1 (.inl rfl)
  have k2 := key (-1) (.inr rfl)
  unfold nbL nbR at hu
  rcases hu with rfl | rfl
  · split at hj
    · exact k1 (by omega)
    · exact k2 (by omega)
  · split at hj
    · exact k2 (by omega)
    · exact k1 (by omega)
/-- a thing behind a lift (sg 1: done, -1: undone) -/
def thingF (sg : Int) (f : Lf) (st : Int) (xs : List Int) (t : Int) : Int :=
  xs.getD t.toNat 0 + sg * gainF f (xs.getD (nbL t xs.length st).toNat 0) (xs.getD (nbR t xs.length st).toNat 0)
/-- the turns of the program's loop -/
def turnF (sg : Int) (f : Lf) (st : Int) (xs : List Int) (t : Int) : List Int := xs.set t.toNat (thingF sg f st xs t)
def liftF (sg : Int) (f : Lf) (st : Int) (xs : List Int) : List Int := (plcF f.h xs.length st).foldl (turnF sg f st) xs
theorem foldl_nat (sg : Int) (f : Lf) (st : Int) : ∀ (ts : List Int) (xs : List Int), (∀ t ∈ ts, 0 ≤ t) → ts.foldl (turnF sg f st) xs = (ts.map Int.toNat).foldl (fun xs t => xs.set t (thingF sg f st xs (t : Int))) xs
  | [], _, _ => rfl
  | t :: ts, xs, h => by
    rw [List.map_cons, List.foldl_cons, List.foldl_cons, foldl_nat sg f st ts _ fun u hu => h u (List.mem_cons_of_mem _ hu)]
    have := h t List.mem_cons_self
    unfold turnF
    rw [show ((t.toNat : Nat) : Int) = t by omega]
/-- place by place; also after the first places -/
theorem lift_at {sg : Int} {f : Lf} {st : Int} {xs : List Int} (hs : 0 < st) (hh : f.h = 0 ∨ f.h = 1) (k : Nat) :
    (((plcF f.h xs.length st).take k).foldl (turnF sg f st) xs).length = xs.length ∧
    ∀ p : Nat, (((plcF f.h xs.length st).take k).foldl (turnF sg f st) xs).getD p 0 = if (p : Int) ∈ (plcF f.h xs.length st).take k then thingF sg f st xs p else xs.getD p 0 := by
  by_cases hn : (xs.length : Int) ≤ st
  · have e : plcF f.h xs.length st = [] := if_pos hn
    rw [e]
    exact ⟨by simp, fun p => by simp⟩
  have nn : ∀ t ∈ (plcF f.h xs.length st).take k, 0 ≤ t ∧ t < xs.length ∧ t ∈ plcF f.h xs.length st := fun t ht => by
    have hm := List.mem_of_mem_take ht
    have := (nb_in hs hh hm).1
    exact ⟨this.1, this.2, hm⟩
  rw [foldl_nat sg f st _ xs fun t ht => (nn t ht).1]
  have nd : (((plcF f.h xs.length st).take k).map Int.toNat).Nodup := by
    rw [List.Nodup, List.pairwise_map]
    refine List.Pairwise.imp_of_mem (R := fun a b => a ≠ b) (fun {a b} ha hb hab e => hab ?_) ((plc_nodup hs).sublist (List.take_sublist _ _))
    have := (nn a ha).1
    have := (nn b hb).1
    omega
  obtain ⟨e1, e2⟩ := foldl_at (F := fun t ys => thingF sg f st ys (t : Int)) (fun p => ∃ i : Nat, (p : Int) = f.h * st + (i : Int) * (2 * st)) xs.length (fun t ys zs hy hz ht hlt hp => by
      unfold thingF
      have hm : (t : Int) ∈ plcF f.h xs.length st := (plc_mem hs).mpr ⟨hn, by omega, ht⟩
      obtain ⟨_, b1, b2, _⟩ := nb_in hs hh hm
      rw [hy, hz]
      have a1 := hp (nbL t xs.length st).toNat (.inr fun z => nb_off hs ht (.inl rfl) (by rw [show (((nbL (t : Int) xs.length st).toNat : Nat) : Int) = nbL t xs.length st by omega] at z; exact z))
      have a2 := hp (nbR t xs.length st).toNat (.inr fun z => nb_off hs ht (.inr rfl) (by rw [show (((nbR (t : Int) xs.length st).toNat : Nat) : Int) = nbR t xs.length st by omega] at z; exact z))
      rw [a1, a2, hp _ (.inl (by omega))]) _ xs rfl nd (fun t ht => by
      obtain ⟨u, hu, rfl⟩ := List.mem_map.mp ht
      obtain ⟨h1, h2, h3⟩ := nn u hu
      obtain ⟨_, _, i, hi⟩ := (plc_mem hs).mp h3
      exact ⟨⟨i, by omega⟩, by omega⟩)
  refine ⟨e1, fun p => ?_⟩
  rw [e2 p]
  have : p ∈ ((plcF f.h xs.length st).take k).map Int.toNat ↔ (p : Int) ∈ (plcF f.h xs.length st).take k := by
    constructor
    · intro z
      obtain ⟨u, hu, e⟩ := List.mem_map.mp z
      have := (nn u hu).1
      rw [show (p : Int) = u by omega]; exact hu
    · intro z
      exact List.mem_map.mpr ⟨_, z, by omega⟩
  by_cases hp : (p : Int) ∈ (plcF f.h xs.length st).take k
  · rw [if_pos hp, if_pos (this.mpr hp)]
  · rw [if_neg hp, if_neg fun z => hp (this.mp z)]
theorem lift_all {sg : Int} {f : Lf} {st : Int} {xs : List Int} (hs : 0 < st) (hh : f.h = 0 ∨ f.h = 1) :
    (liftF sg f st xs).length = xs.length ∧ ∀ p : Nat, (liftF sg f st xs).getD p 0 = if (p : Int) ∈ plcF f.h xs.length st then thingF sg f st xs p else xs.getD p 0 := by
  have h := lift_at (sg := sg) (xs := xs) hs hh (plcF f.h xs.length st).length
  rw [List.take_length] at h
  exact h
theorem ext_getD {xs ys : List Int} (hl : xs.length = ys.length) (h : ∀ p : Nat, xs.getD p 0 = ys.getD p 0) : xs = ys := by
  refine List.ext_getElem hl fun i h1 h2 => ?_
  have := h i
  rw [List.getD_eq_getElem?_getD, List.getD_eq_getElem?_getD, List.getElem?_eq_getElem h1, List.getElem?_eq_getElem h2] at this
  exact this
/-- what is done is undone -/
theorem lift_back {sg : Int} {f : Lf} {st : Int} {xs : List Int} (hs : 0 < st) (hh : f.h = 0 ∨ f.h = 1) : liftF (-sg) f st (liftF sg f st xs) = xs := by
  obtain ⟨l1, g1⟩ := lift_all (sg := sg) (xs := xs) hs hh
  obtain ⟨l2, g2⟩ := lift_all (sg := -sg) (xs := liftF sg f st xs) hs hh
  refine ext_getD (l2.trans l1) fun p => ?_
  rw [g2 p, l1]
  by_cases hp : (p : Int) ∈ plcF f.h xs.length st
  · rw [if_pos hp]
    unfold thingF
    obtain ⟨b0, b1, b2, _⟩ := nb_in hs hh hp
    obtain ⟨_, _, i, hi⟩ := (plc_mem hs).mp hp
    have o1 : ¬ nbL (p : Int) xs.length st ∈ plcF f.h xs.length st := fun z => nb_off hs ⟨i, hi⟩ (.inl rfl) ((plc_mem hs).mp z).2.2
    have o2 : ¬ nbR (p : Int) xs.length st ∈ plcF f.h xs.length st := fun z => nb_off hs ⟨i, hi⟩ (.inr rfl) ((plc_mem hs).mp z).2.2
    rw [l1, g1, g1, g1]
    rw [show (((p : Int).toNat : Nat) : Int) = p by omega, if_pos hp, show (((nbL (p : Int) xs.length st).toNat : Nat) : Int) = nbL p xs.length st by omega, if_neg o1, show (((nbR (p : Int) xs.length st).toNat : Nat) : Int) = nbR p xs.length st by omega, if_neg o2]
    unfold thingF
    rw [Int.neg_mul, show ((p : Int).toNat) = p by omega]
    omega
  · rw [if_neg hp, g1 p, if_neg hp]
def raiseF (fs : List Lf) (st : Int) (xs : List Int) : List Int := fs.foldl (fun xs f => liftF 1 f st xs) xs
def lowerF (fs : List Lf) (st : Int) (xs : List Int) : List Int := fs.reverse.foldl (fun xs f => liftF (-1) f st xs) xs
theorem raise_len {st : Int} (hs : 0 < st) : ∀ {fs : List Lf} (xs : List Int), (∀ f ∈ fs, f.h = 0 ∨ f.h = 1) → (raiseF fs st xs).length = xs.length
  | [], _, _ => rfl
  | f :: fs, xs, h => by
    unfold raiseF
    rw [List.foldl_cons]
    exact (raise_len hs (liftF 1 f st xs) fun g hg => h g (List.mem_cons_of_mem _ hg)).trans (lift_all hs (h f List.mem_cons_self)).1
theorem lower_raise {st : Int} (hs : 0 < st) : ∀ {fs : List Lf} (xs : List Int), (∀ f ∈ fs, f.h = 0 ∨ f.h = 1) → lowerF fs st (raiseF fs st xs) = xs
  | [], _, _ => rfl
  | f :: fs, xs, h => by
    have ih := lower_raise hs (liftF 1 f st xs) fun g hg => h g (List.mem_cons_of_mem _ hg)
    unfold lowerF raiseF at ih ⊢
    rw [List.foldl_cons, List.reverse_cons, List.foldl_append, ih]
    exact lift_back hs (h f List.mem_cons_self)
theorem raise_lower {st : Int} (hs : 0 < st) : ∀ {fs : List Lf} (xs : List Int), (∀ f ∈ fs, f.h = 0 ∨ f.h = 1) → raiseF fs st (lowerF fs st xs) = xs
  | [], _, _ => rfl
  | f :: fs, xs, h => by
    unfold raiseF lowerF
    rw [List.foldl_cons, List.reverse_cons, List.foldl_append]
    have e := lift_back (sg := -1) (f := f) (st := st) (xs := fs.reverse.foldl (fun xs f => liftF (-1) f st xs) xs) hs (h f List.mem_cons_self)
    rw [Int.neg_neg] at e
    show fs.foldl _ (liftF 1 f st (liftF (-1) f st _)) = xs
    rw [e]
    exact raise_lower hs xs fun g hg => h g (List.mem_cons_of_mem _ hg)

/-! ### rows of any things, turn by turn -/
section GL
variable {α β : Type}
theorem getD_map {xs : List α} {g : α → β} {p : Nat} {z : α} {y : β} (h : p < xs.length) : (xs.map g).getD p y = g (xs.getD p z) := by
  simp [h]
theorem getD_setG (z : α) (xs : List α) (t p : Nat) (v : α) (h : t < xs.length) : (xs.set t v).getD p z = if p = t then v else xs.getD p z := by
  rw [List.getD_eq_getElem?_getD, List.getD_eq_getElem?_getD, List.getElem?_set]
  by_cases e : p = t
  · subst e
    rw [if_pos rfl, if_pos rfl, if_pos h]; rfl
  · rw [if_neg (fun z => e z.symm), if_neg e]
theorem ext_getDG (z : α) {xs ys : List α} (hl : xs.length = ys.length) (h : ∀ p : Nat, p < xs.length → xs.getD p z = ys.getD p z) : xs = ys := by
  refine List.ext_getElem hl fun i h1 h2 => ?_
  have := h i h1
  rw [List.getD_eq_getElem?_getD, List.getD_eq_getElem?_getD, List.getElem?_eq_getElem h1, List.getElem?_eq_getElem h2] at this
  exact this
def gThing (z : α) (G : α → α → α → α) (st : Int) (xs : List α) (t : Int) : α := G (xs.getD t.toNat z) (xs.getD (nbL t xs.length st).toNat z) (xs.getD (nbR t xs.length st).toNat z)
def gTurn (z : α) (G : α → α → α → α) (st : Int) (xs : List α) (t : Int) : List α := xs.set t.toNat (gThing z G st xs t)
def gLift (z : α) (G : α → α → α → α) (h st : Int) (xs : List α) : List α := (plcF h xs.length st).foldl (gTurn z G st) xs
theorem lift_g {sg : Int} {f : Lf} {st : Int} {xs : List Int} : liftF sg f st xs = gLift 0 (fun x l r => x + sg * gainF f l r) f.h st xs := rfl
theorem gTurn_len {z : α} {G : α → α → α → α} {st : Int} : ∀ (ts : List Int) (xs : List α), (ts.foldl (gTurn z G st) xs).length = xs.length
  | [], _ => rfl
  | t :: ts, xs => by
    rw [List.foldl_cons, gTurn_len ts]
    exact List.length_set
/-- place by place; also behind the first turns -/
theorem g_at {z : α} {G : α → α → α → α} {h st : Int} {xs : List α} (hs : 0 < st) (hh : h = 0 ∨ h = 1) : ∀ (k : Nat),
    (((plcF h xs.length st).take k).foldl (gTurn z G st) xs).length = xs.length ∧
    ∀ p : Nat, (((plcF h xs.length st).take k).foldl (gTurn z G st) xs).getD p z = if (p : Int) ∈ (plcF h xs.length st).take k then gThing z G st xs p else xs.getD p z
  | 0 => ⟨by simp, fun p => by simp⟩
  | k + 1 => by
    obtain ⟨l1, g1⟩ := g_at (z := z) (G := G) (xs := xs) hs hh k
    by_cases hk : k < (plcF h xs.length st).length
    · rw [List.take_succ_eq_append_getElem hk, List.foldl_append]
      have htm : (plcF h xs.length st)[k] ∈ plcF h xs.length st := List.getElem_mem hk
      generalize ht : (plcF h xs.length st)[k] = t at htm ⊢
      obtain ⟨b0, b1, b2, _⟩ := nb_in hs hh htm
      obtain ⟨_, _, i, hi⟩ := (plc_mem hs).mp htm
      have o1 : ¬ nbL t xs.length st ∈ (plcF h xs.length st).take k := fun z => nb_off hs ⟨i, hi⟩ (.inl rfl) ((plc_mem hs).mp (List.mem_of_mem_take z)).2.2
      have o2 : ¬ nbR t xs.length st ∈ (plcF h xs.length st).take k := fun z => nb_off hs ⟨i, hi⟩ (.inr rfl) ((plc_mem hs).mp (List.mem_of_mem_take z)).2.2
      have o0 : ¬ t ∈ (plcF h xs.length st).take k := fun z => by
        obtain ⟨q, hq, eq⟩ := List.mem_iff_getElem.mp z
        rw [List.length_take] at hq
        rw [List.getElem_take] at eq
        have hne := List.pairwise_iff_getElem.mp (plc_nodup (h := h) (n := xs.length) hs) q k (by omega) hk (by omega)
        exact hne (by rw [eq, ht])
      generalize ((plcF h xs.length st).take k).foldl (gTurn z G st) xs = wc at l1 g1
      have e0 : gThing z G st wc t = gThing z G st xs t := by
        unfold gThing
        rw [l1, g1, g1, g1, show ((t.toNat : Nat) : Int) = t by omega, if_neg o0, show (((nbL t xs.length st).toNat : Nat) : Int) = nbL t xs.length st by omega, if_neg o1, show (((nbR t xs.length st).toNat : Nat) : Int) = nbR t xs.length st by omega, if_neg o2]
      refine ⟨by rw [List.foldl_cons, List.foldl_nil]; show (wc.set _ _).length = _; rw [List.length_set]; exact l1, fun p => ?_⟩
      show (wc.set t.toNat (gThing z G st wc t)).getD p z = _
      rw [getD_setG z wc t.toNat p _ (by omega), e0, g1 p]
      by_cases e : p = t.toNat
      · have e' : (p : Int) = t := by omega
        rw [if_pos e, if_pos (by rw [e']; simp), e']
      · rw [if_neg e]
        have : ((p : Int) ∈ (plcF h xs.length st).take k ++ [t]) ↔ (p : Int) ∈ (plcF h xs.length st).take k := by
          rw [List.mem_append, List.mem_singleton]
          constructor
          · rintro (q | q)
            · exact q
            · omega
          · exact .inl
        by_cases hp : (p : Int) ∈ (plcF h xs.length st).take k
        · rw [if_pos hp, if_pos (this.mpr hp)]
        · rw [if_neg hp, if_neg fun q => hp (this.mp q)]
    · rw [List.take_of_length_le (by omega)]
      rw [List.take_of_length_le (by omega)] at l1 g1
      exact ⟨l1, g1⟩
theorem g_all {z : α} {G : α → α → α → α} {h st : Int} {xs : List α} (hs : 0 < st) (hh : h = 0 ∨ h = 1) :
    (gLift z G h st xs).length = xs.length ∧ ∀ p : Nat, (gLift z G h st xs).getD p z = if (p : Int) ∈ plcF h xs.length st then gThing z G st xs p else xs.getD p z := by
  have q := g_at (z := z) (G := G) (xs := xs) hs hh (plcF h xs.length st).length
  rw [List.take_length] at q
  exact q
/-- a turn may look at the row as it was -/
theorem g_orig {z : α} {G : α → α → α → α} {h st : Int} {xs : List α} {j : Nat} {t : Int} (hs : 0 < st) (hh : h = 0 ∨ h = 1) (ht : (plcF h xs.length st)[j]? = some t) :
    ((plcF h xs.length st).take (j + 1)).foldl (gTurn z G st) xs = (((plcF h xs.length st).take j).foldl (gTurn z G st) xs).set t.toNat (gThing z G st xs t) := by
  have htm : t ∈ plcF h xs.length st := List.mem_of_getElem? ht
  obtain ⟨hj, e⟩ := List.getElem?_eq_some_iff.mp ht
  obtain ⟨b0, _⟩ := nb_in hs hh htm
  obtain ⟨l1, g1⟩ := g_at (z := z) (G := G) (xs := xs) hs hh (j + 1)
  obtain ⟨l0, g0⟩ := g_at (z := z) (G := G) (xs := xs) hs hh j
  refine ext_getDG z (by rw [l1, List.length_set, l0]) fun p _ => ?_
  rw [g1 p, getD_setG z _ _ _ _ (by omega), g0 p, List.take_succ_eq_append_getElem hj, e]
  by_cases q : p = t.toNat
  · have e' : (p : Int) = t := by omega
    rw [if_pos q, if_pos (by rw [e']; simp), e']
  · rw [if_neg q]
    have : ((p : Int) ∈ (plcF h xs.length st).take j ++ [t]) ↔ (p : Int) ∈ (plcF h xs.length st).take j := by
      rw [List.mem_append, List.mem_singleton]
      constructor
      · rintro (q | q)
        · exact q
        · omega
      · exact .inl
    by_cases hp : (p : Int) ∈ (plcF h xs.length st).take j
    · rw [if_pos hp, if_pos (this.mpr hp)]
    · rw [if_neg hp, if_neg fun q => hp (this.mp q)]
/-- two rows go side by side -/
theorem g_rel {R : α → β → Prop} {z : α} {y : β} {G : α → α → α → α} {G' : β → β → β → β} {h st : Int} {xs : List α} {ys : List β} (hs : 0 < st) (hh : h = 0 ∨ h = 1) (hl : xs.length = ys.length)
    (hR : ∀ p : Nat, p < xs.length → R (xs.getD p z) (ys.getD p y)) (hG : ∀ a b c a' b' c', R a a' → R b b' → R c c' → R (G a b c) (G' a' b' c')) :
    ∀ p : Nat, p < xs.length → R ((gLift z G h st xs).getD p z) ((gLift y G' h st ys).getD p y) := by
  intro p hp
  obtain ⟨_, g1⟩ := g_all (z := z) (G := G) (xs := xs) hs hh
  obtain ⟨_, g2⟩ := g_all (z := y) (G := G') (xs := ys) hs hh
  rw [g1, g2, ← hl]
  by_cases hm : (p : Int) ∈ plcF h xs.length st
  · rw [if_pos hm, if_pos hm]
    obtain ⟨b0, b1, b2, _⟩ := nb_in hs hh hm
    unfold gThing
    rw [← hl]
    exact hG _ _ _ _ _ _ (hR _ (by omega)) (hR _ (by omega)) (hR _ (by omega))
  · rw [if_neg hm, if_neg hm]
    exact hR p hp
/-- lowered by a ladder; the last i lifts undone -/
def gLowerK (z : α) (G : Lf → α → α → α → α) (fs : List Lf) (i : Nat) (st : Int) (xs : List α) : List α := (fs.reverse.take i).foldl (fun xs f => gLift z (G f) f.h st xs) xs
def gLower (z : α) (G : Lf → α → α → α → α) (fs : List Lf) (st : Int) (xs : List α) : List α := fs.reverse.foldl (fun xs f => gLift z (G f) f.h st xs) xs
theorem gLowerK_zero {z : α} {G : Lf → α → α → α → α} {fs : List Lf} {st : Int} {xs : List α} : gLowerK z G fs 0 st xs = xs := rfl
theorem gLowerK_all {z : α} {G : Lf → α → α → α → α} {fs : List Lf} {st : Int} {xs : List α} : gLowerK z G fs fs.length st xs = gLower z G fs st xs := by
  unfold gLowerK gLower
  rw [List.take_of_length_le (by simp)]
theorem gLowerK_succ {z : α} {G : Lf → α → α → α → α} {fs : List Lf} {i : Nat} {st : Int} {xs : List α} {f : Lf} (hi : i < fs.length) (h : fs[fs.length - 1 - i]? = some f) : gLowerK z G fs (i + 1) st xs = gLift z (G f) f.h st (gLowerK z G fs i st xs) := by
  unfold gLowerK
  have hi' : i < fs.reverse.length := by simpa using hi
  have e : fs.reverse[i] = f := by
    have := List.getElem?_reverse hi
    rw [h, List.getElem?_eq_getElem hi'] at this
    exact Option.some.inj this
  rw [List.take_succ_eq_append_getElem hi', e, List.foldl_append]
  rfl
theorem gLift_len {z : α} {G : α → α → α → α} {h st : Int} {xs : List α} : (gLift z G h st xs).length = xs.length := gTurn_len _ _
theorem gFold_len {z : α} {G : Lf → α → α → α → α} {st : Int} : ∀ (gs : List Lf) (xs : List α), (gs.foldl (fun xs f => gLift z (G f) f.h st xs) xs).length = xs.length
  | [], _ => rfl
  | g :: gs, xs => by rw [List.foldl_cons, gFold_len gs, gLift_len]
theorem gLowerK_len {z : α} {G : Lf → α → α → α → α} {fs : List Lf} {i : Nat} {st : Int} {xs : List α} : (gLowerK z G fs i st xs).length = xs.length := gFold_len _ _
theorem gLower_len {z : α} {G : Lf → α → α → α → α} {fs : List Lf} {st : Int} {xs : List α} : (gLower z G fs st xs).length = xs.length := gFold_len _ _
theorem gFold_rel {R : α → β → Prop} {z : α} {y : β} {G : Lf → α → α → α → α} {G' : Lf → β → β → β → β} {st : Int} (hs : 0 < st) : ∀ (gs : List Lf) (xs : List α) (ys : List β), (∀ f ∈ gs, f.Ok) → xs.length = ys.length →
    (∀ p : Nat, p < xs.length → R (xs.getD p z) (ys.getD p y)) → (∀ f : Lf, f.Ok → ∀ a b c a' b' c', R a a' → R b b' → R c c' → R (G f a b c) (G' f a' b' c')) →
    ∀ p : Nat, p < xs.length → R ((gs.foldl (fun xs f => gLift z (G f) f.h st xs) xs).getD p z) ((gs.foldl (fun ys f => gLift y (G' f) f.h st ys) ys).getD p y)
  | [], xs, ys, _, _, hR, _ => hR
  | f :: gs, xs, ys, ok, hl, hR, hG => fun p hp => by
    rw [List.foldl_cons, List.foldl_cons]
    have okf := ok f List.mem_cons_self
    refine gFold_rel hs gs _ _ (fun g hg => ok g (List.mem_cons_of_mem _ hg)) (by rw [gLift_len, gLift_len, hl]) (fun q hq => ?_) hG p (by rw [gLift_len]; exact hp)
    rw [gLift_len] at hq
    exact g_rel hs okf.h hl hR (hG f okf) q hq
theorem gLower_rel {R : α → β → Prop} {z : α} {y : β} {G : Lf → α → α → α → α} {G' : Lf → β → β → β → β} {fs : List Lf} {st : Int} {xs : List α} {ys : List β} (hs : 0 < st) (ok : ∀ f ∈ fs, f.Ok) (hl : xs.length = ys.length)
    (hR : ∀ p : Nat, p < xs.length → R (xs.getD p z) (ys.getD p y)) (hG : ∀ f : Lf, f.Ok → ∀ a b c a' b' c', R a a' → R b b' → R c c' → R (G f a b c) (G' f a' b' c')) :
    ∀ p : Nat, p < xs.length → R ((gLower z G fs st xs).getD p z) ((gLower y G' fs st ys).getD p y) :=
  gFold_rel hs fs.reverse xs ys (fun f hf => ok f (List.mem_reverse.mp hf)) hl hR hG
theorem gLowerK_rel {R : α → β → Prop} {z : α} {y : β} {G : Lf → α → α → α → α} {G' : Lf → β → β → β → β} {fs : List Lf} {i : Nat} {st : Int} {xs : List α} {ys : List β} (hs : 0 < st) (ok : ∀ f ∈ fs, f.Ok) (hl : xs.length = ys.length)
    (hR : ∀ p : Nat, p < xs.length → R (xs.getD p z) (ys.getD p y)) (hG : ∀ f : Lf, f.Ok → ∀ a b c a' b' c', R a a' → R b b' → R c c' → R (G f a b c) (G' f a' b' c')) :
    ∀ p : Nat, p < xs.length → R ((gLowerK z G fs i st xs).getD p z) ((gLowerK y G' fs i st ys).getD p y) :=
  gFold_rel hs (fs.reverse.take i) xs ys (fun f hf => ok f (List.mem_reverse.mp (List.mem_of_mem_take hf))) hl hR hG
theorem lower_g {fs : List Lf} {st : Int} {xs : List Int} : lowerF fs st xs = gLower 0 (fun f x l r => x + (-1) * gainF f l r) fs st xs := rfl
end GL
/-! ### spans -/
abbrev Sp2 := Int × Int
def sGain (f : Lf) (l r : Sp2) : Sp2 :=
  let tm (s : Sp2) (m : Int) : Sp2 := if m < 0 then (s.2 * m, s.1 * m) else (s.1 * m, s.2 * m)
  (((tm l f.l).1 + (tm r f.r).1 + f.a) / 2 ^ f.s.toNat, ((tm l f.l).2 + (tm r f.r).2 + f.a) / 2 ^ f.s.toNat)
def sDown (f : Lf) (x l r : Sp2) : Sp2 := (x.1 - (sGain f l r).2, x.2 - (sGain f l r).1)
theorem mul_mono {a b m : Int} (h : a ≤ b) (hm : 0 ≤ m) : a * m ≤ b * m := Int.mul_le_mul_of_nonneg_right h hm
theorem mul_anti {a b m : Int} (h : a ≤ b) (hm : m < 0) : b * m ≤ a * m := Int.mul_le_mul_of_nonpos_right h (by omega)
theorem pow2_pos (n : Nat) : (0 : Int) < 2 ^ n := Int.pow_pos (by decide)
theorem div_mono {a b : Int} (n : Nat) (h : a ≤ b) : a / 2 ^ n ≤ b / 2 ^ n := Int.ediv_le_ediv (pow2_pos n) h
/-- numbers in spans are lowered into lowered spans; a span within a span too -/
theorem sGain_in {f : Lf} {l r l' r' : Sp2} (hl : l.1 ≤ l'.1 ∧ l'.1 ≤ l'.2 ∧ l'.2 ≤ l.2) (hr : r.1 ≤ r'.1 ∧ r'.1 ≤ r'.2 ∧ r'.2 ≤ r.2) :
    (sGain f l r).1 ≤ (sGain f l' r').1 ∧ (sGain f l' r').1 ≤ (sGain f l' r').2 ∧ (sGain f l' r').2 ≤ (sGain f l r).2 := by
  have key : ∀ (m : Int) (s s' : Sp2), s.1 ≤ s'.1 ∧ s'.1 ≤ s'.2 ∧ s'.2 ≤ s.2 → (if m < 0 then (s.2 * m, s.1 * m) else (s.1 * m, s.2 * m)).1 ≤ (if m < 0 then (s'.2 * m, s'.1 * m) else (s'.1 * m, s'.2 * m)).1 ∧
      (if m < 0 then (s'.2 * m, s'.1 * m) else (s'.1 * m, s'.2 * m)).1 ≤ (if m < 0 then (s'.2 * m, s'.1 * m) else (s'.1 * m, s'.2 * m)).2 ∧ (if m < 0 then (s'.2 * m, s'.1 * m) else (s'.1 * m, s'.2 * m)).2 ≤ (if m < 0 then (s.2 * m, s.1 * m) else (s.1 * m, s.2 * m)).2 := by
    rintro m s s' ⟨h1, h2, h3⟩
    by_cases hm : m < 0
    · simp only [hm, if_true]
      exact ⟨mul_anti h3 hm, mul_anti h2 hm, mul_anti h1 hm⟩
    · simp only [hm, if_false]
      exact ⟨mul_mono h1 (by omega), mul_mono h2 (by omega), mul_mono h3 (by omega)⟩
  obtain ⟨a1, a2, a3⟩ := key f.l l l' hl
  obtain ⟨b1, b2, b3⟩ := key f.r r r' hr
  unfold sGain
  dsimp only
  exact ⟨div_mono _ (by omega), div_mono _ (by omega), div_mono _ (by omega)⟩
def inS (s s' : Sp2) : Prop := s.1 ≤ s'.1 ∧ s'.1 ≤ s'.2 ∧ s'.2 ≤ s.2
theorem sDown_in {f : Lf} {a b c a' b' c' : Sp2} (ha : inS a a') (hb : inS b b') (hc : inS c c') : inS (sDown f a b c) (sDown f a' b' c') := by
  obtain ⟨g1, g2, g3⟩ := sGain_in (f := f) hb hc
  unfold inS at ha ⊢
  unfold sDown
  exact ⟨by dsimp only; omega, by dsimp only; omega, by dsimp only; omega⟩
/-- a number is a span of its own -/
theorem sDown_one {f : Lf} {x l r : Int} : sDown f (x, x) (l, l) (r, r) = (x + (-1) * gainF f l r, x + (-1) * gainF f l r) := by
  unfold sDown sGain gainF
  have e : ∀ m y : Int, (if m < 0 then (y * m, y * m) else (y * m, y * m)) = (m * y, m * y) := fun m y => by
    rw [Int.mul_comm y m]; split <;> rfl
  dsimp only
  rw [e, e]
  simp only [Prod.mk.injEq]
  omega

/-! ### the things that take part, as the laws reckon them -/
theorem rngN_lt {lo hi c : Int} (hc : 0 < c) (i : Nat) : i < rngN lo hi c ↔ lo + (i : Int) * c < hi := by
  unfold rngN Builtin.Range.rangeSize
  rw [if_pos (show c > 0 from hc)]
  have h0 : 0 ≤ (i : Int) * c := Int.mul_nonneg (by omega) (by omega)
  split
  · have e := Int.le_ediv_iff_mul_le (a := (i : Int)) (b := hi - lo - 1) hc
    have e0 : 0 ≤ (hi - lo - 1) / c := Int.ediv_nonneg (by omega) (by omega)
    constructor
    · intro z
      have := e.mp (by omega)
      omega
    · intro z
      have := e.mpr (by omega)
      omega
  · simp only [Int.toNat_zero]
    omega
theorem nat_eq_of_lt {a b : Nat} (h : ∀ i, i < a ↔ i < b) : a = b := by
  rcases Nat.lt_trichotomy a b with z | z | z
  · exact absurd ((h a).mpr z) (Nat.lt_irrefl _)
  · exact z
  · exact absurd ((h b).mp z) (Nat.lt_irrefl _)
section PT
variable {α : Type}
def partsG (z : α) (xs : List α) (st : Int) : List α := (List.range (rngN 0 xs.length st)).map fun (i : Nat) => xs.getD ((i : Int) * st).toNat z
theorem partsG_len {z : α} {xs : List α} {st : Int} : (partsG z xs st).length = rngN 0 xs.length st := by simp [partsG]
theorem partsG_get {z : α} {xs : List α} {st : Int} {k : Int} (h0 : 0 ≤ k) (h : k < (partsG z xs st).length) : (partsG z xs st).getD k.toNat z = xs.getD (k * st).toNat z := by
  have hk : k.toNat < rngN 0 xs.length st := by rw [partsG_len] at h; omega
  simp [partsG, hk, show max k 0 = k by omega]
theorem partsG_lt {z : α} {xs : List α} {st : Int} (s0 : 0 < st) (i : Nat) : (i : Int) < (partsG z xs st).length ↔ (i : Int) * st < xs.length := by
  have := rngN_lt (lo := 0) (hi := xs.length) s0 i
  rw [Int.zero_add] at this
  rw [partsG_len, ← this]
  omega
theorem partsG_le {z : α} {xs : List α} {st : Int} (s0 : 0 < st) : (partsG z xs st).length ≤ xs.length := by
  rcases Nat.lt_or_ge xs.length (partsG z xs st).length with q | q
  · have := (partsG_lt (z := z) (xs := xs) s0 xs.length).mp (by omega)
    have h2 : (xs.length : Int) * 1 ≤ (xs.length : Int) * st := Int.mul_le_mul_of_nonneg_left (by omega) (by omega)
    omega
  · exact q
theorem parts_cnt {z : α} {xs : List α} {st h : Int} (s0 : 0 < st) (hh : h = 0 ∨ h = 1) : rngN h (partsG z xs st).length 2 = cntF h xs.length st := nat_eq_of_lt fun i => by
  rw [rngN_lt (by decide), cnt_lt s0]
  obtain ⟨m, hm⟩ : ∃ m : Nat, h + (i : Int) * 2 = m := ⟨(h + (i : Int) * 2).toNat, by rcases hh with h | h <;> omega⟩
  rw [hm, partsG_lt s0 m, ← hm, Int.add_mul, Int.mul_assoc]
/-- a place of the law's own row: its place, its neighbours -/
theorem parts_nb {z : α} {xs : List α} {st h : Int} {j : Nat} (s0 : 0 < st) (hh : h = 0 ∨ h = 1) (hj : j < rngN h (partsG z xs st).length 2) :
    ∃ m : Nat, h + (j : Int) * 2 = m ∧ (m : Int) < (partsG z xs st).length ∧ ((1 : Int) < (partsG z xs st).length → (plcF h xs.length st)[j]? = some ((m : Int) * st) ∧
      (0 ≤ max ((m : Int) - 1) (1 - (m : Int)) ∧ max ((m : Int) - 1) (1 - (m : Int)) < (partsG z xs st).length) ∧ max ((m : Int) - 1) (1 - (m : Int)) * st = nbL ((m : Int) * st) xs.length st ∧
      (if (m : Int) + 1 < (partsG z xs st).length then ((m : Int) + 1) * st = nbR ((m : Int) * st) xs.length st else nbR ((m : Int) * st) xs.length st = nbL ((m : Int) * st) xs.length st)) := by
  obtain ⟨m, hm⟩ : ∃ m : Nat, h + (j : Int) * 2 = m := ⟨(h + (j : Int) * 2).toNat, by rcases hh with h | h <;> omega⟩
  have hmL : (m : Int) < (partsG z xs st).length := by
    rw [← hm]; exact (rngN_lt (by decide) j).mp hj
  refine ⟨m, hm, hmL, fun hL1 => ?_⟩
  have hk := fun i : Nat => partsG_lt (z := z) (xs := xs) s0 i
  have hns : ¬ (xs.length : Int) ≤ st := by
    have := (hk 1).mp hL1
    omega
  have et : (m : Int) * st = h * st + (j : Int) * (2 * st) := by rw [← hm, Int.add_mul, Int.mul_assoc]
  have e1 : ((m : Int) + 1) * st = (m : Int) * st + st := by rw [Int.add_mul, Int.one_mul]
  have hk1 : (m : Int) + 1 < (partsG z xs st).length ↔ (m : Int) * st + st < xs.length := by
    have := hk (m + 1)
    rw [← e1]
    rw [show ((m + 1 : Nat) : Int) = (m : Int) + 1 by omega] at this
    exact this
  refine ⟨?_, ⟨by omega, by omega⟩, ?_, ?_⟩
  · unfold plcF
    rw [if_neg hns, List.getElem?_map, List.getElem?_range (by rw [← parts_cnt (z := z) (xs := xs) s0 hh]; exact hj), et]
    rfl
  · unfold nbL
    rcases Nat.eq_zero_or_pos m with q | q
    · subst q
      rw [if_pos (by simp; omega), show max (((0 : Nat) : Int) - 1) (1 - ((0 : Nat) : Int)) = 1 by decide]
      simp
    · rw [show max ((m : Int) - 1) (1 - (m : Int)) = (m : Int) - 1 by omega, Int.sub_mul, Int.one_mul, if_neg]
      have : 1 * st ≤ (m : Int) * st := Int.mul_le_mul_of_nonneg_right (by omega) (by omega)
      omega
  · split
    · rename_i hr1
      unfold nbR
      rw [if_neg (by have := hk1.mp hr1; omega), e1]
    · rename_i hr1
      have hge : (xs.length : Int) ≤ (m : Int) * st + st := by
        have := mt hk1.mpr hr1; omega
      have hm0 : 1 ≤ m := by omega
      have : 1 * st ≤ (m : Int) * st := Int.mul_le_mul_of_nonneg_right (by omega) (by omega)
      unfold nbR nbL
      rw [if_pos hge, if_neg (by omega)]
theorem parts_no {z : α} {xs : List α} {st h : Int} (s0 : 0 < st) (hL1 : ¬ (1 : Int) < (partsG z xs st).length) : plcF h xs.length st = [] := if_pos (by
  have := mt (partsG_lt (z := z) (xs := xs) s0 1).mpr hL1
  omega)
end PT
theorem ixN_in {n : Nat} {i : Int} (h0 : 0 ≤ i) (h : i < n) : ixN n i = some i.toNat := by
  unfold ixN
  rw [if_pos h0, if_pos h]
theorem atI_map {α : Type} (z : α) {g : α → D} {xs : List α} {i : Int} (h0 : 0 ≤ i) (h : i < xs.length) : atI (xs.map g) i = some (g (xs.getD i.toNat z)) := by
  have hi : i.toNat < xs.length := by omega
  have e := atI_nat (xs := xs.map g) (j := i.toNat) (v := g (xs.getD i.toNat z)) (by simp [hi])
  rwa [show ((i.toNat : Nat) : Int) = i by omega] at e
theorem val_fzG {α : Type} {xs : List α} {g : α → D} : List.map OV.val (xs.map fun x => OV.fz (g x)) = xs.map g := by
  rw [List.map_map]; rfl
theorem fz_mapG {α : Type} {xs : List α} {g : α → D} : (xs.map g).map OV.fz = xs.map fun x => OV.fz (g x) := by
  rw [List.map_map]; rfl
theorem set_mapG {α β : Type} {xs : List α} {i : Nat} {v : α} {g : α → β} : (xs.map g).set i (g v) = (xs.set i v).map g := by
  rw [List.map_set]
theorem app_mapG {α β : Type} {xs : List α} {v : α} {g : α → β} : xs.map g ++ [g v] = (xs ++ [v]).map g := by
  rw [List.map_append]; rfl
theorem pow8 {s : Int} (h : 0 ≤ s ∧ s ≤ 8) : (0 : Int) < 2 ^ s.toNat ∧ (2 : Int) ^ s.toNat < 1073741824 := by
  have h1 : 0 < (2 : Nat) ^ s.toNat := Nat.pow_pos (by decide)
  have h2 : (2 : Nat) ^ s.toNat ≤ 2 ^ 8 := Nat.pow_le_pow_right (by decide) (by omega)
  have h3 : ((2 ^ s.toNat : Nat) : Int) = (2 : Int) ^ s.toNat := by simp
  omega

/-! ### lifted_places -/
theorem rng_cnt {h n st : Int} (hs : 0 < st) : rngN (h * st) n (2 * st) = cntF h n st := by
  unfold rngN cntF Builtin.Range.rangeSize
  rw [if_pos (show 2 * st > 0 by omega)]
/-- the first k places -/
def plcK (h n st : Int) (k : Nat) : List Int := if n ≤ st then [] else (List.range k).map fun (i : Nat) => h * st + (i : Int) * (2 * st)
def plD (n st : Int) (t : Int) : D := .tup [.int t, .int (nbL t n st), .int (nbR t n st)]
abbrev s_lifted_places : Stmt := top 7
theorem sc_lifted_places : FnScope ["half", "many", "stride", "found", "at", "pair"] ["half", "many", "stride"] (defScope s_lifted_places) := ⟨rfl, rfl, rfl, by decide +kernel, rfl, by decide +kernel, by decide +kernel⟩
def sp_lifted_places : DSp := fun ds P => match ds with
  | [.int h, .int n, .int st] => ((h = 0 ∨ h = 1) ∧ 0 < st ∧ st ≤ 64 ∧ 0 ≤ n ∧ n ≤ 100000) ∧ P (.nl ((plcF h n st).map fun t => .fz (plD n st t)))
  | _ => False
theorem ok_lifted_places {f : Addr} {fd : FuncData} (Df : DefAt K mg "lifted_places" s_lifted_places f fd) (B : BltV mg) (KV : KitV K) (c_neighbours : Cal P w K mg base "neighbours" 1 ["at", "many", "stride"] (spV K 3 sp_neighbours)) :
    Cal P w K mg base "lifted_places" 2 ["half", "many", "stride"] (spV K 3 sp_lifted_places) := by
  refine CalV.of Df sc_lifted_places (fun _ _ _ _ _ _ us hl => match us, hl with | [_, _, _], _ => rfl) rfl (fun cdv A outer s H E hr => ⟨_, _, (pss_cons (ps_set (i := 3) sc_lifted_places.nd rfl (Or.inl rfl) (pe_lstS pa_nil))
      (pss_cons (ps_for PassesOwn.never rfl (pi_range3 (by rfl) (by exact B.range) (pa_cons (pe_op op_mul (pv 0) (pv 2)) (pa_cons (pv 1) (pa_cons (pe_op op_mul pe_int (pv 2)) pa_nil)))) (pg_name (i := 4) sc_lifted_places.nd rfl (Or.inl rfl)) (pss_cons (ps_set (i := 5) sc_lifted_places.nd rfl (Or.inl rfl) (pe_cal c_neighbours (hr.mono (by decide)) (by rfl) (pa_cons (pv 4) (pa_cons (pv 1) (pa_cons (pv 2) pa_nil)))))
      (pss_one (ps_if (pt_cmpR op_notN (pv 5) pe_non (nomark _)) (pss_one (ps_expr (pe_bm PySem.F.plainAttrs_list PySem.F.slot_list_append PySem.F.type_list_append mt_append (pv 3) (pa_cons (pe_tupS (pa_cons (pv 4) (pa_cons (pe_ix ix_tup (pv 5) pe_int (fun _ _ => rfl)) (pa_cons (pe_ix ix_tup (pv 5) pe_int (fun _ _ => rfl)) pa_nil)))) pa_nil)))) pss_nil))))
      (pss_one (ps_ret (pv 3))))),
    (sS_seq (sS_set (sO_lst sAO_nil))
      (sS_seq (sS_for (sI_rng3 (sAB_cons (sB_f (sF_op oS_i sB_var sB_var)) (sAB_cons sB_var (sAB_cons (sB_f (sF_op oS_i (sB_f sF_int) sB_var)) sAB_nil)))) sG_name (sS_seq (sS_set (sO_f (sF_o (sO_call (sAF_cons sF_var (sAF_cons sF_var (sAF_cons sF_var sAF_nil)))))))
      (sS_if (sT_test (sF_op oS_notN sB_var (sB_f sF_non))) (sS_app (sO_f (sF_tup (sAF_cons sF_var (sAF_cons (sF_opF oF_ixT sF_var sF_int) (sAF_cons (sF_opF oF_ixT sF_var sF_int) sAF_nil)))))) sS_next)))
      sS_retV)), ?_⟩)
  intro ds Pr h
  unfold sp_lifted_places at h
  split at h
  · rename_i h' n st
    obtain ⟨⟨hh, s0, s1, n0, n1⟩, k⟩ := h
    walk_at "v"
    refine ⟨.inr ⟨by omega, by omega⟩, ⟨by rcases hh with rfl | rfl <;> omega, by rcases hh with rfl | rfl <;> omega, by omega, by omega, by omega, by omega⟩, ?_⟩
    rw [rng_cnt s0]
    refine ⟨fun i δ => i ≤ cntF h' n st ∧ ∃ o1 o2, δ = [vI h', vI n, vI st, vL ((plcK h' n st i).map fun t => .fz (plD n st t)), o1, o2], ⟨Nat.zero_le _, _, _, by unfold plcK; split <;> rfl⟩, ?_, ?_⟩
    · rintro i d δ hd ⟨hi', o1, o2, rfl⟩
      obtain ⟨hi, rfl⟩ := rng_inv hd
      have hlt := (cnt_lt (h := h') (n := n) s0 i).mp hi
      have hcnt : cntF h' n st ≤ 100001 := by
        rcases Nat.lt_or_ge 100001 (cntF h' n st) with z | z
        · have := (cnt_lt (h := h') (n := n) s0 100001).mp z
          have h0 : 0 ≤ h' * st := by rcases hh with rfl | rfl <;> omega
          omega
        · exact z
      walk_at "v"
      unfold sp_neighbours
      generalize ht : h' * st + (i : Int) * (2 * st) = t at *
      try dsimp only
      split
      · rename_i hn
        walk_at "v"
        have hns : n ≤ st := by
          rcases Int.lt_or_le st n with z | z
          · exact absurd hn (nb_in s0 hh ((plc_mem s0).mpr ⟨by omega, hlt, i, ht.symm⟩)).2.2.2
          · exact z
        have e : ∀ j, plcK h' n st j = [] := fun j => if_pos hns
        rw [e, e]
        exact ⟨hi, _, _, rfl⟩
      · rename_i hn
        walk_at "v"
        have hns : ¬ n ≤ st := fun z => hn (by
          have h0 : 0 ≤ (i : Int) * (2 * st) := Int.mul_nonneg (by omega) (by omega)
          have h1 : 0 ≤ h' * st := by rcases hh with rfl | rfl <;> omega
          constructor <;> omega)
        have el : (plcK h' n st i).length = i := by unfold plcK; rw [if_neg hns]; simp
        have e : plcK h' n st (i + 1) = plcK h' n st i ++ [t] := by
          unfold plcK
          rw [if_neg hns, if_neg hns, List.range_succ, List.map_append, ← ht]
          rfl
        rw [e, List.map_append]
        exact ⟨by omega, hi, _, _, rfl⟩
    · rintro δ ⟨_, o1, o2, rfl⟩
      walk_at "v"
      rw [rng_len]
      exact k
  · exact h.elim

/-! ### gain -/
def lfD (f : Lf) : D := .tup [.int f.h, .int f.l, .int f.r, .int f.a, .int f.s]
abbrev s_gain : Stmt := top 8
theorem sc_gain : FnScope ["lift", "left", "right"] ["lift", "left", "right"] (defScope s_gain) := ⟨rfl, rfl, rfl, by decide +kernel, rfl, by decide +kernel, by decide +kernel⟩
def sp_gain : DSp := fun ds P => ∃ (f : Lf) (x y : Int), ds = [lfD f, .int x, .int y] ∧ f.Ok ∧ P (.fz (.int (gainF f x y)))
theorem ok_gain {f : Addr} {fd : FuncData} (Df : DefAt K mg "gain" s_gain f fd) (B : BltV mg) (KV : KitV K) (g_SHIFT : ∃ t, mg "SHIFT" = some (.int 4 t)) (g_ADD : ∃ t, mg "ADD" = some (.int 3 t)) (g_LEFT : ∃ t, mg "LEFT" = some (.int 1 t)) (g_RIGHT : ∃ t, mg "RIGHT" = some (.int 2 t)) :
    Cal P w K mg base "gain" 1 ["lift", "left", "right"] (spV K 3 sp_gain) := by
  refine CalV.of Df sc_gain (fun _ _ _ _ _ _ us hl => match us, hl with | [_, _, _], _ => rfl) rfl (fun cdv A outer s H E hr => ⟨_, _, (pss_one (ps_ret (pe_op op_shr (pe_op op_add (pe_op op_add (pe_op op_mul (pe_ix ix_tup (pv 0) (pe_globI (by rfl) g_LEFT) (fun _ _ => rfl)) (pv 1)) (pe_op op_mul (pe_ix ix_tup (pv 0) (pe_globI (by rfl) g_RIGHT) (fun _ _ => rfl)) (pv 2))) (pe_ix ix_tup (pv 0) (pe_globI (by rfl) g_ADD) (fun _ _ => rfl))) (pe_ix ix_tup (pv 0) (pe_globI (by rfl) g_SHIFT) (fun _ _ => rfl))))),
    (sS_ret (sO_f (sF_op oS_i (sB_f (sF_op oS_i0 (sB_f (sF_op oS_i0 (sB_f (sF_op oS_i (sB_op (OpF.b oF_ixT) sB_var (sB_f sF_int)) sB_var)) (sB_f (sF_op oS_i (sB_op (OpF.b oF_ixT) sB_var (sB_f sF_int)) sB_var)))) (sB_op (OpF.b oF_ixT) sB_var (sB_f sF_int)))) (sB_op (OpF.b oF_ixT) sB_var (sB_f sF_int))))), ?_⟩)
  rintro ds Pr ⟨f, x, y, rfl, ok, k⟩
  have h1 := ok.l
  have h2 := ok.r
  have h3 := ok.s
  simp only [lfD]
  walk_at "v"
  exact ⟨mulL (by omega) (by omega), mulL (by omega) (by omega), h3.1, k⟩

/-! ### raised -/
def ladD (fs : List Lf) : D := .tup (fs.map lfD)
def iL (xs : List Int) : D := .lst (xs.map D.int)
def iO (xs : List Int) : OV := .nl (xs.map fun x => .fz (.int x))
theorem raise_snoc {st : Int} {xs : List Int} {fs : List Lf} {i : Nat} {f : Lf} (h : fs[i]? = some f) : raiseF (fs.take (i + 1)) st xs = liftF 1 f st (raiseF (fs.take i) st xs) := by
  obtain ⟨hi, e⟩ := List.getElem?_eq_some_iff.mp h
  rw [List.take_succ_eq_append_getElem hi, e]
  unfold raiseF
  rw [List.foldl_append]
  rfl
abbrev s_raised : Stmt := top 9
theorem sc_raised : FnScope ["row", "ladder", "stride", "things", "lift", "at", "left", "right"] ["row", "ladder", "stride"] (defScope s_raised) := ⟨rfl, rfl, rfl, by decide +kernel, rfl, by decide +kernel, by decide +kernel⟩
def sp_raised : DSp := fun ds P => ∃ (xs : List Int) (fs : List Lf) (st : Int), ds = [iL xs, ladD fs, .int st] ∧ ((∀ f ∈ fs, f.Ok) ∧ 0 < st ∧ st ≤ 64 ∧ xs.length ≤ 100000) ∧ P (iO (raiseF fs st xs))
theorem ok_raised {f : Addr} {fd : FuncData} (Df : DefAt K mg "raised" s_raised f fd) (B : BltV mg) (KV : KitV K) (g_HALF : ∃ t, mg "HALF" = some (.int 0 t)) (c_lifted_places : Cal P w K mg base "lifted_places" 2 ["half", "many", "stride"] (spV K 3 sp_lifted_places)) (c_gain : Cal P w K mg base "gain" 1 ["lift", "left", "right"] (spV K 3 sp_gain)) :
    Cal P w K mg base "raised" 3 ["row", "ladder", "stride"] (spV K 3 sp_raised) := by
  refine CalV.of Df sc_raised (fun _ _ _ _ _ _ us hl => match us, hl with | [_, _, _], _ => rfl) rfl (fun cdv A outer s H E hr => ⟨_, _, (pss_cons (ps_set (i := 3) sc_raised.nd rfl (Or.inl rfl) (pe_callTy call_listS (by rfl) B.list PyProof.Rows.boot_list (pa_cons (pv 0) pa_nil)))
      (pss_cons (ps_for PassesOwn.never rfl (pi_tup (pv 1)) (pg_name (i := 4) sc_raised.nd rfl (Or.inl rfl)) (pss_one (ps_for PassesOwn.never rfl (pi_list (pe_cal c_lifted_places (hr.mono (by decide)) (by rfl) (pa_cons (pe_ix ix_tup (pv 4) (pe_globI (by rfl) g_HALF) (fun _ _ => rfl)) (pa_cons (pe_callB call_len_seq (by rfl) B.len PySem.boot_len (pa_cons (pv 0) pa_nil)) (pa_cons (pv 2) pa_nil))))) (pg_tup (n := 3) rfl (pgs_cons (pg_name (i := 5) sc_raised.nd rfl (Or.inl rfl)) (pgs_cons (pg_name (i := 6) sc_raised.nd rfl (Or.inl rfl)) (pgs_cons (pg_name (i := 7) sc_raised.nd rfl (Or.inl rfl)) pgs_nil)))) (pss_one (ps_augS (pv 3) (pv 5) get_listV (pe_cal c_gain (hr.mono (by decide)) (by rfl) (pa_cons (pv 4) (pa_cons (pe_ix ix_list (pv 3) (pv 6) (fun _ _ => rfl)) (pa_cons (pe_ix ix_list (pv 3) (pv 7) (fun _ _ => rfl)) pa_nil)))) ip_add set_list)))))
      (pss_one (ps_ret (pv 3))))),
    (sS_seq (sS_set (sO_cb cO_list (sAF_cons sF_var sAF_nil)))
      (sS_seq (sS_for (sI_tup sF_var) sG_name (sS_for (sI_list (sF_o (sO_call (sAF_cons (sF_opF oF_ixT sF_var sF_int) (sAF_cons (sF_cb cS_len (sAB_cons sB_var sAB_nil)) (sAF_cons sF_var sAF_nil)))))) (sG_tup (sGs_cons sG_name (sGs_cons sG_name (sGs_cons sG_name sGs_nil)))) (sS_augI sB_var (sB_f (sF_o (sO_callB (sAB_cons sB_var (sAB_cons (sB_op (OpF.b oF_ixL) sB_var sB_var) (sAB_cons (sB_op (OpF.b oF_ixL) sB_var sB_var) sAB_nil)))))))))
      sS_retV)), ?_⟩)
  rintro ds Pr ⟨xs, fs, st, rfl, ⟨oks, s0, s1, hx⟩, k⟩
  simp only [iL, ladD]
  walk_at "v"
  refine ⟨fun i δ => ∃ o1 o2 o3 o4, δ = [vD (iL xs), vD (ladD fs), vI st, some (.own (iO (raiseF (fs.take i) st xs))), o1, o2, o3, o4], ⟨none, none, none, none, by simp [iL, ladD, iO, raiseF]⟩, ?_, ?_⟩
  · rintro i d δ hd ⟨o1, o2, o3, o4, rfl⟩
    obtain ⟨f, hf, rfl⟩ := mget hd
    have okf := oks f (List.mem_of_getElem? hf)
    have hlen : (raiseF (fs.take i) st xs).length = xs.length := raise_len s0 xs fun g hg => (oks g (List.mem_of_mem_take hg)).h
    dsimp only
    rw [raise_snoc hf]
    generalize hc : raiseF (fs.take i) st xs = cur at hlen
    simp only [iL, ladD, iO, lfD]
    walk_at "v"
    simp only [sp_lifted_places]
    refine ⟨⟨okf.h, s0, s1, by omega, by omega⟩, ?_⟩
    walk_at "v"
    simp only [List.map_map, Function.comp_def, OV.val]
    rw [← hlen]
    refine ⟨fun j δ => ∃ o2 o3 o4, δ = [vD (iL xs), vD (ladD fs), vI st, some (.own (iO (((plcF f.h cur.length st).take j).foldl (turnF 1 f st) cur))), vD (lfD f), o2, o3, o4], ⟨_, _, _, rfl⟩, ?_, ?_⟩
    · rintro j e δ he ⟨p2, p3, p4, rfl⟩
      obtain ⟨t, ht, rfl⟩ := mget he
      have htm : t ∈ plcF f.h cur.length st := List.mem_of_getElem? ht
      obtain ⟨hjt, htt⟩ := List.getElem?_eq_some_iff.mp ht
      obtain ⟨b0, b1, b2, _⟩ := nb_in s0 okf.h htm
      have hla := (lift_at (sg := 1) (f := f) (st := st) (xs := cur) s0 okf.h j).1
      have etake : (plcF f.h cur.length st).take (j + 1) = (plcF f.h cur.length st).take j ++ [t] := by
        rw [List.take_succ_eq_append_getElem hjt, htt]
      dsimp only
      rw [etake, List.foldl_append]
      generalize hw : ((plcF f.h cur.length st).take j).foldl (turnF 1 f st) cur = wcur at hla
      simp only [iL, ladD, iO, plD, lfD]
      walk_at "v"
      refine ⟨b0.1, _, get_fzI b0.1 (by omega), _, atI_ints b1.1 (by omega), _, atI_ints b2.1 (by omega), f, _, _, rfl, okf, ?_⟩
      walk_at "v"
      simp only [List.foldl_cons, List.foldl_nil, turnF, thingF, hla, Int.one_mul]
      exact ⟨_, _, _, rfl⟩
    · rintro δ ⟨p2, p3, p4, rfl⟩
      rw [List.length_map, List.take_length]
      exact ⟨_, _, _, _, rfl⟩
  · rintro δ ⟨o1, o2, o3, o4, rfl⟩
    walk_at "v"
    rw [List.take_length]
    exact k

/-! ### lowered -/
/-- the last i lifts undone, the last one first -/
def lowerK (fs : List Lf) (i : Nat) (st : Int) (xs : List Int) : List Int := (fs.reverse.take i).foldl (fun xs f => liftF (-1) f st xs) xs
theorem lowerK_zero {fs : List Lf} {st : Int} {xs : List Int} : lowerK fs 0 st xs = xs := rfl
theorem lowerK_all {fs : List Lf} {st : Int} {xs : List Int} : lowerK fs fs.length st xs = lowerF fs st xs := by
  unfold lowerK lowerF
  rw [List.take_of_length_le (by simp)]
theorem lowerK_succ {fs : List Lf} {i : Nat} {st : Int} {xs : List Int} {f : Lf} (hi : i < fs.length) (h : fs[fs.length - 1 - i]? = some f) : lowerK fs (i + 1) st xs = liftF (-1) f st (lowerK fs i st xs) := by
  unfold lowerK
  have hi' : i < fs.reverse.length := by simpa using hi
  have e : fs.reverse[i] = f := by
    have := List.getElem?_reverse hi
    rw [h, List.getElem?_eq_getElem hi'] at this
    exact Option.some.inj this
  rw [List.take_succ_eq_append_getElem hi', e, List.foldl_append]
  rfl
theorem lowerK_len {fs : List Lf} {st : Int} (hs : 0 < st) (xs : List Int) : ∀ (i : Nat), (∀ f ∈ fs, f.h = 0 ∨ f.h = 1) → (lowerK fs i st xs).length = xs.length
  | 0, _ => rfl
  | i + 1, h => by
    by_cases hi : i < fs.length
    · obtain ⟨f, hf⟩ : ∃ f, fs[fs.length - 1 - i]? = some f := ⟨_, List.getElem?_eq_getElem (by omega)⟩
      rw [lowerK_succ hi hf]
      exact (lift_all hs (h f (List.mem_of_getElem? hf))).1.trans (lowerK_len hs xs i h)
    · have e : lowerK fs (i + 1) st xs = lowerK fs i st xs := by
        unfold lowerK
        rw [List.take_of_length_le (by simp; omega), List.take_of_length_le (by simp; omega)]
      rw [e]; exact lowerK_len hs xs i h
abbrev s_lowered : Stmt := top 10
theorem sc_lowered : FnScope ["row", "ladder", "stride", "things", "lift", "at", "left", "right"] ["row", "ladder", "stride"] (defScope s_lowered) := ⟨rfl, rfl, rfl, by decide +kernel, rfl, by decide +kernel, by decide +kernel⟩
def sp_lowered : DSp := fun ds P => ∃ (xs : List Int) (fs : List Lf) (st : Int), ds = [iL xs, ladD fs, .int st] ∧ ((∀ f ∈ fs, f.Ok) ∧ 0 < st ∧ st ≤ 64 ∧ xs.length ≤ 100000) ∧ P (iO (lowerF fs st xs))
theorem ok_lowered {f : Addr} {fd : FuncData} (Df : DefAt K mg "lowered" s_lowered f fd) (B : BltV mg) (KV : KitV K) (g_HALF : ∃ t, mg "HALF" = some (.int 0 t)) (c_lifted_places : Cal P w K mg base "lifted_places" 2 ["half", "many", "stride"] (spV K 3 sp_lifted_places)) (c_gain : Cal P w K mg base "gain" 1 ["lift", "left", "right"] (spV K 3 sp_gain)) :
    Cal P w K mg base "lowered" 3 ["row", "ladder", "stride"] (spV K 3 sp_lowered) := by
  refine CalV.of Df sc_lowered (fun _ _ _ _ _ _ us hl => match us, hl with | [_, _, _], _ => rfl) rfl (fun cdv A outer s H E hr => ⟨_, _, (pss_cons (ps_set (i := 3) sc_lowered.nd rfl (Or.inl rfl) (pe_callTy call_listS (by rfl) B.list PyProof.Rows.boot_list (pa_cons (pv 0) pa_nil)))
      (pss_cons (ps_for PassesOwn.never rfl (pi_reversed rfl B.reversed (pa_cons (pv 1) pa_nil)) (pg_name (i := 4) sc_lowered.nd rfl (Or.inl rfl)) (pss_one (ps_for PassesOwn.never rfl (pi_list (pe_cal c_lifted_places (hr.mono (by decide)) (by rfl) (pa_cons (pe_ix ix_tup (pv 4) (pe_globI (by rfl) g_HALF) (fun _ _ => rfl)) (pa_cons (pe_callB call_len_seq (by rfl) B.len PySem.boot_len (pa_cons (pv 0) pa_nil)) (pa_cons (pv 2) pa_nil))))) (pg_tup (n := 3) rfl (pgs_cons (pg_name (i := 5) sc_lowered.nd rfl (Or.inl rfl)) (pgs_cons (pg_name (i := 6) sc_lowered.nd rfl (Or.inl rfl)) (pgs_cons (pg_name (i := 7) sc_lowered.nd rfl (Or.inl rfl)) pgs_nil)))) (pss_one (ps_augS (pv 3) (pv 5) get_listV (pe_cal c_gain (hr.mono (by decide)) (by rfl) (pa_cons (pv 4) (pa_cons (pe_ix ix_list (pv 3) (pv 6) (fun _ _ => rfl)) (pa_cons (pe_ix ix_list (pv 3) (pv 7) (fun _ _ => rfl)) pa_nil)))) ip_sub set_list)))))
      (pss_one (ps_ret (pv 3))))),
    (sS_seq (sS_set (sO_cb cO_list (sAF_cons sF_var sAF_nil)))
      (sS_seq (sS_for (sI_rev (sAF_cons sF_var sAF_nil)) sG_name (sS_for (sI_list (sF_o (sO_call (sAF_cons (sF_opF oF_ixT sF_var sF_int) (sAF_cons (sF_cb cS_len (sAB_cons sB_var sAB_nil)) (sAF_cons sF_var sAF_nil)))))) (sG_tup (sGs_cons sG_name (sGs_cons sG_name (sGs_cons sG_name sGs_nil)))) (sS_augI sB_var (sB_f (sF_o (sO_callB (sAB_cons sB_var (sAB_cons (sB_op (OpF.b oF_ixL) sB_var sB_var) (sAB_cons (sB_op (OpF.b oF_ixL) sB_var sB_var) sAB_nil)))))))))
      sS_retV)), ?_⟩)
  rintro ds Pr ⟨xs, fs, st, rfl, ⟨oks, s0, s1, hx⟩, k⟩
  simp only [iL, ladD]
  walk_at "v"
  refine ⟨fun i δ => ∃ o1 o2 o3 o4, δ = [vD (iL xs), vD (ladD fs), vI st, some (.own (iO (lowerK fs i st xs))), o1, o2, o3, o4], ⟨none, none, none, none, by simp [iL, ladD, iO, lowerK_zero]⟩, ?_, ?_⟩
  · rintro i d δ hd ⟨o1, o2, o3, o4, rfl⟩
    rw [← List.map_reverse] at hd
    obtain ⟨f, hf, rfl⟩ := mget hd
    have hil : i < fs.length := by
      have := (List.getElem?_eq_some_iff.mp hf).1
      rwa [List.length_reverse] at this
    rw [List.getElem?_reverse hil] at hf
    have okf := oks f (List.mem_of_getElem? hf)
    have hlen : (lowerK fs i st xs).length = xs.length := lowerK_len s0 xs i fun g hg => (oks g hg).h
    dsimp only
    rw [lowerK_succ hil hf]
    generalize hc : lowerK fs i st xs = cur at hlen
    simp only [iL, ladD, iO, lfD]
    walk_at "v"
    simp only [sp_lifted_places]
    refine ⟨⟨okf.h, s0, s1, by omega, by omega⟩, ?_⟩
    walk_at "v"
    simp only [List.map_map, Function.comp_def, OV.val]
    rw [← hlen]
    refine ⟨fun j δ => ∃ o2 o3 o4, δ = [vD (iL xs), vD (ladD fs), vI st, some (.own (iO (((plcF f.h cur.length st).take j).foldl (turnF (-1) f st) cur))), vD (lfD f), o2, o3, o4], ⟨_, _, _, rfl⟩, ?_, ?_⟩
    · rintro j e δ he ⟨p2, p3, p4, rfl⟩
      obtain ⟨t, ht, rfl⟩ := mget he
      have htm : t ∈ plcF f.h cur.length st := List.mem_of_getElem? ht
      obtain ⟨hjt, htt⟩ := List.getElem?_eq_some_iff.mp ht
      obtain ⟨b0, b1, b2, _⟩ := nb_in s0 okf.h htm
      have hla := (lift_at (sg := (-1)) (f := f) (st := st) (xs := cur) s0 okf.h j).1
      have etake : (plcF f.h cur.length st).take (j + 1) = (plcF f.h cur.length st).take j ++ [t] := by
        rw [List.take_succ_eq_append_getElem hjt, htt]
      dsimp only
      rw [etake, List.foldl_append]
      generalize hw : ((plcF f.h cur.length st).take j).foldl (turnF (-1) f st) cur = wcur at hla
      simp only [iL, ladD, iO, plD, lfD]
      walk_at "v"
      refine ⟨b0.1, _, get_fzI b0.1 (by omega), _, atI_ints b1.1 (by omega), _, atI_ints b2.1 (by omega), f, _, _, rfl, okf, ?_⟩
      walk_at "v"
      simp only [List.foldl_cons, List.foldl_nil, turnF, thingF, hla, show ∀ a b : Int, a + -1 * b = a - b from fun a b => by omega]
      exact ⟨_, _, _, rfl⟩
    · rintro δ ⟨p2, p3, p4, rfl⟩
      rw [List.length_map, List.take_length]
      exact ⟨_, _, _, _, rfl⟩
  · rintro δ ⟨o1, o2, o3, o4, rfl⟩
    walk_at "v"
    rw [List.length_reverse, List.length_map, lowerK_all]
    exact k

abbrev fnTb : DTb := [("raised", sp_raised), ("lowered", sp_lowered)]
/-! ### sheets by their places -/
section SH
variable {α β : Type}
def tab (n : Nat) (f : Nat → β) : List β := (List.range n).map f
theorem tab_len {n : Nat} {f : Nat → β} : (tab n f).length = n := by simp [tab]
theorem tab_get {n i : Nat} {f : Nat → β} (h : i < n) : (tab n f)[i]? = some (f i) := by simp [tab, h]
theorem tab_getD {n i : Nat} {f : Nat → β} {d : β} (h : i < n) : (tab n f).getD i d = f i := by simp [tab, h]
theorem tab_ext {n : Nat} {f g : Nat → β} (h : ∀ i, i < n → f i = g i) : tab n f = tab n g := List.map_congr_left fun i hi => h i (List.mem_range.mp hi)
theorem tab_map {γ : Type} {n : Nat} {f : Nat → β} {g : β → γ} : (tab n f).map g = tab n fun i => g (f i) := by simp [tab, Function.comp_def]
theorem tab_self (z : α) (xs : List α) : tab xs.length (fun i => xs.getD i z) = xs := by
  refine ext_getDG z (by rw [tab_len]) fun p hp => ?_
  rw [tab_len] at hp
  rw [tab_getD hp]
theorem tab_selfn (z : α) {n : Nat} {xs : List α} (h : xs.length = n) : tab n (fun i => xs.getD i z) = xs := by subst h; exact tab_self z xs
theorem tab_set {n i : Nat} {f : Nat → β} {v : β} : (tab n f).set i v = tab n fun j => if j = i then v else f j := by
  refine List.ext_getElem? fun j => ?_
  rw [List.getElem?_set, tab_len]
  by_cases hj : j < n
  · rw [tab_get hj, tab_get hj]
    by_cases e : i = j
    · subst e; simp [hj]
    · rw [if_neg e, if_neg fun z => e z.symm]
  · have e1 : (tab n f)[j]? = none := List.getElem?_eq_none (by rw [tab_len]; omega)
    have e2 : (tab n fun j => if j = i then v else f j)[j]? = none := List.getElem?_eq_none (by rw [tab_len]; omega)
    rw [e1, e2]
    split
    · rw [if_neg (by omega)]
    · rfl
theorem atI_tab {n : Nat} {f : Nat → D} {i : Int} (h0 : 0 ≤ i) (h : i < n) : atI (tab n f) i = some (f i.toNat) := by
  have e := atI_nat (xs := tab n f) (j := i.toNat) (tab_get (show i.toNat < n by omega))
  rwa [show ((i.toNat : Nat) : Int) = i by omega] at e
/-- rows by rows, columns by columns -/
def rowF (z : α) (op : List α → List α) (w st : Nat) (e : Nat → Nat → α) : Nat → Nat → α := fun i j => if i % st = 0 then (op (tab w (e i))).getD j z else e i j
def colF (z : α) (op : List α → List α) (h st : Nat) (e : Nat → Nat → α) : Nat → Nat → α := fun i j => if j % st = 0 then (op (tab h fun i => e i j)).getD i z else e i j
def eqS (h w : Nat) (e e' : Nat → Nat → α) : Prop := ∀ i j, i < h → j < w → e i j = e' i j
theorem rowF_eqS {z : α} {op : List α → List α} {h w st : Nat} {e e' : Nat → Nat → α} (q : eqS h w e e') : eqS h w (rowF z op w st e) (rowF z op w st e') := fun i j hi hj => by
  unfold rowF
  rw [tab_ext (fun j hj => q i j hi hj), q i j hi hj]
theorem colF_eqS {z : α} {op : List α → List α} {h w st : Nat} {e e' : Nat → Nat → α} (q : eqS h w e e') : eqS h w (colF z op h st e) (colF z op h st e') := fun i j hi hj => by
  unfold colF
  rw [tab_ext (fun i hi => q i j hi hj), q i j hi hj]
/-- what undoes undoes -/
theorem rowF_back {z : α} {op op' : List α → List α} {h w st : Nat} {e : Nat → Nat → α} (hl : ∀ r : List α, r.length = w → (op r).length = w) (hb : ∀ r : List α, r.length = w → op' (op r) = r) : eqS h w (rowF z op' w st (rowF z op w st e)) e := fun i j hi hj => by
  unfold rowF
  by_cases q : i % st = 0
  · simp only [q, if_true]
    rw [tab_selfn z (hl _ tab_len), hb _ tab_len, tab_getD hj]
  · simp only [q, if_false]
theorem colF_back {z : α} {op op' : List α → List α} {h w st : Nat} {e : Nat → Nat → α} (hl : ∀ r : List α, r.length = h → (op r).length = h) (hb : ∀ r : List α, r.length = h → op' (op r) = r) : eqS h w (colF z op' h st (colF z op h st e)) e := fun i j hi hj => by
  unfold colF
  by_cases q : j % st = 0
  · simp only [q, if_true]
    rw [tab_selfn z (hl _ tab_len), hb _ tab_len, tab_getD hi]
  · simp only [q, if_false]
theorem eqS.trans {h w : Nat} {a b c : Nat → Nat → α} (x : eqS h w a b) (y : eqS h w b c) : eqS h w a c := fun i j hi hj => (x i j hi hj).trans (y i j hi hj)
theorem eqS.symm {h w : Nat} {a b : Nat → Nat → α} (x : eqS h w a b) : eqS h w b a := fun i j hi hj => (x i j hi hj).symm
theorem eqS.refl {h w : Nat} {a : Nat → Nat → α} : eqS h w a a := fun _ _ _ _ => rfl
/-- laid by the levels below n; ops k: what is done at level k -/
def layF (z : α) (op : Nat → List α → List α) (h w : Nat) : Nat → (Nat → Nat → α) → Nat → Nat → α
  | 0, e => e
  | n + 1, e => colF z (op n) h (2 ^ n) (rowF z (op n) w (2 ^ n) (layF z op h w n e))
/-- the levels from d on of n undone, the last one first -/
def openF (z : α) (op : Nat → List α → List α) (h w : Nat) : Nat → Nat → (Nat → Nat → α) → Nat → Nat → α
  | 0, _, e => e
  | n + 1, d, e => if d ≤ n then openF z op h w n d (rowF z (op n) w (2 ^ n) (colF z (op n) h (2 ^ n) e)) else e
theorem openF_eqS {z : α} {op : Nat → List α → List α} {h w : Nat} : ∀ (n d : Nat) {e e' : Nat → Nat → α}, eqS h w e e' → eqS h w (openF z op h w n d e) (openF z op h w n d e')
  | 0, _, _, _, q => q
  | n + 1, d, e, e', q => by
    unfold openF
    split
    · exact openF_eqS n d (rowF_eqS (colF_eqS q))
    · exact q
theorem layF_eqS {z : α} {op : Nat → List α → List α} {h w : Nat} : ∀ (n : Nat) {e e' : Nat → Nat → α}, eqS h w e e' → eqS h w (layF z op h w n e) (layF z op h w n e')
  | 0, _, _, q => q
  | n + 1, e, e', q => colF_eqS (rowF_eqS (layF_eqS n q))
theorem open_lay {z : α} {up dn : Nat → List α → List α} {h w : Nat} (hl : ∀ k (r : List α), (up k r).length = r.length) (hb : ∀ k (r : List α), dn k (up k r) = r) :
    ∀ (n d : Nat) (e : Nat → Nat → α), d ≤ n → eqS h w (openF z dn h w n d (layF z up h w n e)) (layF z up h w d e)
  | 0, d, e, hd => by
    have : d = 0 := by omega
    subst this
    exact eqS.refl
  | n + 1, d, e, hd => by
    unfold openF
    by_cases q : d ≤ n
    · rw [if_pos q]
      refine (openF_eqS n d ?_).trans (open_lay hl hb n d e q)
      show eqS h w (rowF z (dn n) w (2 ^ n) (colF z (dn n) h (2 ^ n) (colF z (up n) h (2 ^ n) (rowF z (up n) w (2 ^ n) (layF z up h w n e))))) _
      exact (rowF_eqS (colF_back (fun r hr => by rw [hl]; exact hr) (fun r _ => hb n r))).trans (rowF_back (fun r hr => by rw [hl]; exact hr) (fun r _ => hb n r))
    · rw [if_neg q]
      have : d = n + 1 := by omega
      subst this
      exact eqS.refl
theorem lay_open {z : α} {up dn : Nat → List α → List α} {h w : Nat} (hl : ∀ k (r : List α), (dn k r).length = r.length) (hb : ∀ k (r : List α), up k (dn k r) = r) :
    ∀ (n : Nat) (e : Nat → Nat → α), eqS h w (layF z up h w n (openF z dn h w n 0 e)) e
  | 0, e => eqS.refl
  | n + 1, e => by
    show eqS h w (colF z (up n) h (2 ^ n) (rowF z (up n) w (2 ^ n) (layF z up h w n (openF z dn h w (n + 1) 0 e)))) e
    have e1 : openF z dn h w (n + 1) 0 e = openF z dn h w n 0 (rowF z (dn n) w (2 ^ n) (colF z (dn n) h (2 ^ n) e)) := by
      show (if 0 ≤ n then _ else _) = _
      rw [if_pos (Nat.zero_le _)]
    rw [e1]
    refine (colF_eqS (rowF_eqS (lay_open hl hb n _))).trans ?_
    exact (colF_eqS (rowF_back (fun r hr => by rw [hl]; exact hr) (fun r _ => hb n r))).trans (colF_back (fun r hr => by rw [hl]; exact hr) (fun r _ => hb n r))
end SH
/-- a sheet as a name owns it, as a value -/
def shT {α : Type} (g : α → D) (h w : Nat) (e : Nat → Nat → α) : List OV := tab h fun i => .nl (tab w fun j => .fz (g (e i j)))
def shV {α : Type} (g : α → D) (h w : Nat) (e : Nat → Nat → α) : List D := tab h fun i => .lst (tab w fun j => g (e i j))
theorem shT_val {α : Type} {g : α → D} {h w : Nat} {e : Nat → Nat → α} : (shT g h w e).map OV.val = shV g h w e := by
  unfold shT shV
  rw [tab_map]
  refine tab_ext fun i _ => ?_
  simp only [OV.val, OV.vals_eq, tab_map]
theorem shT_ext {α : Type} {g : α → D} {h w : Nat} {e e' : Nat → Nat → α} (q : eqS h w e e') : shT g h w e = shT g h w e' := by
  unfold shT
  exact tab_ext fun i hi => by rw [tab_ext fun j hj => by rw [q i j hi hj]]
theorem shV_ext {α : Type} {g : α → D} {h w : Nat} {e e' : Nat → Nat → α} (q : eqS h w e e') : shV g h w e = shV g h w e' := by
  rw [← shT_val, ← shT_val, shT_ext q]
theorem pow_mod {n k : Nat} (h : k ≤ n) : True := trivial

/-! ### change_rows, change_columns -/
structure OpOk (α : Type) (z : α) (g : α → D) (op : List α → List α) (n : Nat) (st : Nat) (lad : D) (sp : DSp) : Prop where
  run : ∀ r : List α, r.length = n → ∀ Q : OV → Prop, Q (.nl ((op r).map fun x => .fz (g x))) → sp [.lst (r.map g), lad, .int st] Q
  len : ∀ r : List α, r.length = n → (op r).length = n
  off : ∀ (r : List α) (i : Nat), r.length = n → i < n → i % st ≠ 0 → (op r).getD i z = r.getD i z
  lf : ∀ x, (g x).lf = true
abbrev s_change_rows : Stmt := top 12
theorem sc_change_rows : FnScope ["sheet", "doing", "ladder", "stride", "i"] ["sheet", "doing", "ladder", "stride"] (defScope s_change_rows) := ⟨rfl, rfl, rfl, by decide +kernel, rfl, by decide +kernel, by decide +kernel⟩
def sp_change_rows : DIO := fun ts ds P => ∃ (α : Type) (z : α) (g : α → D) (op : List α → List α) (x : Str) (sp : DSp) (lad : D) (h w st : Nat) (e : Nat → Nat → α), ts = shT g h w e ∧ ds = [.fn x, lad, .int st] ∧ (x, sp) ∈ fnTb ∧ OpOk α z g op w st lad sp ∧ 0 < st ∧ st ≤ 64 ∧ h ≤ 1000 ∧ P (shT g h w (rowF z op w st e))
theorem lf_row {α : Type} {g : α → D} (hg : ∀ x, (g x).lf = true) (xs : List α) : OV.lf (.nl (xs.map fun x => .fz (g x))) = true := by
  simp [OV.lf, OV.lfs_eq, hg]
theorem step_lt {h st : Nat} (s0 : 0 < st) {n : Nat} (hn : n < rngN 0 h st) : n * st < h := by
  have := (rngN_lt (lo := 0) (hi := h) (c := st) (by omega) n).mp hn
  rw [Int.zero_add] at this
  exact_mod_cast this
theorem step_all {h st i : Nat} (s0 : 0 < st) (hi : i < h) (hm : i % st = 0) : i < rngN 0 h st * st := by
  rcases Nat.lt_or_ge i (rngN 0 h st * st) with q | q
  · exact q
  · exfalso
    have e : i = i / st * st := by
      have := Nat.div_add_mod i st
      rw [hm, Nat.add_zero, Nat.mul_comm] at this
      exact this.symm
    have h1 : rngN 0 h st ≤ i / st := by
      rw [Nat.le_div_iff_mul_le s0]; exact q
    have h2 : ¬ (rngN 0 h st < rngN 0 h st) := Nat.lt_irrefl _
    apply h2
    rw [rngN_lt (by omega)]
    have h3 : rngN 0 h st * st ≤ i / st * st := Nat.mul_le_mul_right _ h1
    have h4 : rngN 0 h st * st < h := by omega
    have : ((rngN 0 h st * st : Nat) : Int) < h := by exact_mod_cast h4
    rw [Int.zero_add]
    exact_mod_cast this
theorem rngN_le {h st : Nat} (s0 : 0 < st) : rngN 0 h st ≤ h := by
  rcases Nat.lt_or_ge h (rngN 0 h st) with q | q
  · have := step_lt s0 q
    have h2 : h * 1 ≤ h * st := Nat.mul_le_mul_left _ s0
    omega
  · exact q
theorem ok_change_rows {f : Addr} {fd : FuncData} (Df : DefAt K mg "change_rows" s_change_rows f fd) (B : BltV mg) (KV : KitV K) (n_raised : NsOf K mg "raised") (n_lowered : NsOf K mg "lowered") (c_raised : Cal P w K mg base "raised" 3 ["row", "ladder", "stride"] (spV K 3 sp_raised)) (c_lowered : Cal P w K mg base "lowered" 3 ["row", "ladder", "stride"] (spV K 3 sp_lowered)) :
    Cal P w K mg base "change_rows" 4 ["sheet", "doing", "ladder", "stride"] (spIO K 4 sp_change_rows) := by
  refine CalIO.of Df sc_change_rows (fun _ _ _ _ _ _ us hl => match us, hl with | [_, _, _, _], _ => rfl) rfl (fun cdv A outer s H E hr => ⟨_, _, (pss_one (ps_for PassesOwn.never rfl (pi_range3 (by rfl) (by exact B.range) (pa_cons pe_int (pa_cons (pe_callB call_len_seq (by rfl) B.len PySem.boot_len (pa_cons (pv 0) pa_nil)) (pa_cons (pv 3) pa_nil)))) (pg_name (i := 4) sc_change_rows.nd rfl (Or.inl rfl)) (pss_one (ps_asg (pe_calL (pv 1) (tbV_all (K := K) (n := 3) (tb := fnTb) (k := 3) (by simp only [fnTb, List.forall_mem_cons]; exact ⟨⟨_, c_raised.mono (by decide)⟩, ⟨_, c_lowered.mono (by decide)⟩, fun _ h => by cases h⟩)) (hr.mono (by decide)) (pa_cons (pe_ix ix_list (pv 0) (pv 4) (fun _ _ => rfl)) (pa_cons (pv 2) (pa_cons (pv 3) pa_nil)))) (pg_sub (pv 0) (pv 4) set_list))))),
    (sS_for (sI_rng3 (sAB_cons (sB_f sF_int) (sAB_cons (sB_f (sF_cb cS_len (sAB_cons sB_var sAB_nil))) (sAB_cons sB_var sAB_nil)))) sG_name (sS_tag (i := 0) loc_put (sS_put (sO_callLB (tb := fnTb) (by simp only [fnTb, List.forall_mem_cons]; exact ⟨n_raised, n_lowered, fun _ h => by cases h⟩) (sAB_cons (sB_op (OpF.b oF_ixL) sB_var sB_var) (sAB_cons sB_var (sAB_cons sB_var sAB_nil)))) sB_var))), ?_⟩)
  rintro a ts ds Pr ⟨α, z, g, op, x, sp, lad, h, w, st, e, rfl, rfl, hm, ok, s0, s1, hh, k⟩
  walk_at "v"
  refine ⟨⟨by omega, by rw [shT, tab_len]; omega, by omega, by omega⟩, ?_⟩
  rw [show ((shT g h w e).length : Int) = (h : Int) by rw [shT, tab_len]]
  refine ⟨fun n δ => n ≤ rngN 0 h st ∧ ∃ o, δ = [some (.own (.rt a (shT g h w fun i j => if i % st = 0 ∧ i < n * st then (op (tab w (e i))).getD j z else e i j))), vD (.fn x), vD lad, vI st, o], ⟨Nat.zero_le _, none, ?_⟩, ?_, ?_⟩
  · simp only [Nat.zero_mul, Nat.not_lt_zero, and_false, if_false]
  · rintro n d δ hd ⟨hn, o, rfl⟩
    obtain ⟨hi, rfl⟩ := rng_inv hd
    have hlt := step_lt s0 hi
    have hnat : (0 + (n : Int) * (st : Int)) = ((n * st : Nat) : Int) := by rw [Int.zero_add]; exact_mod_cast rfl
    rw [hnat]
    walk_at "v"
    refine ⟨sp, hm, ?_⟩
    rw [shT_val]
    refine ⟨_, atI_tab (by omega) (by exact_mod_cast hlt), ?_⟩
    rw [show ((n * st : Nat) : Int).toNat = n * st by omega]
    have er : (D.lst (tab w fun j => g (if (n * st) % st = 0 ∧ n * st < n * st then (op (tab w (e (n * st)))).getD j z else e (n * st) j))) = .lst ((tab w (e (n * st))).map g) := by
      rw [tab_map]
      simp only [Nat.lt_irrefl, and_false, if_false]
    rw [er]
    try walk_at "v"
    refine ok.run _ tab_len _ ?_
    refine ⟨lf_row ok.lf _, n * st, ?_, ?_⟩
    · rw [shT, tab_len]
      have := ixN_in (n := h) (i := ((n * st : Nat) : Int)) (by omega) (by exact_mod_cast hlt)
      rwa [show ((n * st : Nat) : Int).toNat = n * st by omega] at this
    · try walk_at "v"
      refine ⟨hi, some (.own (.fz (.int ((n * st : Nat) : Int)))), ?_⟩
      have es : (shT g h w fun i j => if i % st = 0 ∧ i < n * st then (op (tab w (e i))).getD j z else e i j).set (n * st) (.nl ((op (tab w (e (n * st)))).map fun x => .fz (g x))) = shT g h w fun i j => if i % st = 0 ∧ i < (n + 1) * st then (op (tab w (e i))).getD j z else e i j := by
        unfold shT
        rw [tab_set]
        refine tab_ext fun i hi' => ?_
        by_cases q : i = n * st
        · subst q
          rw [if_pos rfl]
          have e1 : ∀ j, (if (n * st) % st = 0 ∧ n * st < (n + 1) * st then (op (tab w (e (n * st)))).getD j z else e (n * st) j) = (op (tab w (e (n * st)))).getD j z := fun j => if_pos ⟨Nat.mul_mod_left _ _, by rw [Nat.add_mul]; omega⟩
          simp only [e1]
          congr 1
          rw [← tab_map (f := fun j => (op (tab w (e (n * st)))).getD j z) (g := fun x => OV.fz (g x)), tab_selfn z (ok.len _ tab_len)]
        · rw [if_neg q]
          congr 1
          refine tab_ext fun j _ => ?_
          have : (i % st = 0 ∧ i < n * st) ↔ (i % st = 0 ∧ i < (n + 1) * st) := by
            constructor
            · rintro ⟨q1, q2⟩
              exact ⟨q1, by rw [Nat.add_mul]; omega⟩
            · rintro ⟨q1, q2⟩
              refine ⟨q1, ?_⟩
              have e2 : i = i / st * st := by
                have := Nat.div_add_mod i st
                rw [q1, Nat.add_zero, Nat.mul_comm] at this
                exact this.symm
              have e3 : i / st < n + 1 := by rw [Nat.div_lt_iff_lt_mul s0]; exact q2
              rcases Nat.lt_or_ge (i / st) n with y | y
              · have : (i / st + 1) * st ≤ n * st := Nat.mul_le_mul_right _ y
                rw [Nat.add_mul] at this
                omega
              · have : i / st = n := by omega
                rw [this] at e2
                exact absurd e2 q
          dsimp only
          by_cases y : i % st = 0 ∧ i < n * st
          · rw [if_pos y, if_pos (this.mp y)]
          · rw [if_neg y, if_neg fun y' => y (this.mpr y')]
      rw [es]
  · rintro δ ⟨_, o, rfl⟩
    rw [rng_len]
    refine ⟨_, rfl, ?_⟩
    rw [shT_ext (e' := rowF z op w st e)]
    · exact k
    · intro i j hi hj
      show (if i % st = 0 ∧ i < rngN 0 h st * st then _ else _) = if i % st = 0 then _ else _
      by_cases q : i % st = 0
      · rw [if_pos ⟨q, step_all s0 hi q⟩, if_pos q]
      · rw [if_neg fun y => q y.1, if_neg q]
abbrev s_change_columns : Stmt := top 13
theorem sc_change_columns : FnScope ["sheet", "doing", "ladder", "stride", "j", "column", "i"] ["sheet", "doing", "ladder", "stride"] (defScope s_change_columns) := ⟨rfl, rfl, rfl, by decide +kernel, rfl, by decide +kernel, by decide +kernel⟩
def sp_change_columns : DIO := fun ts ds P => ∃ (α : Type) (z : α) (g : α → D) (op : List α → List α) (x : Str) (sp : DSp) (lad : D) (h w st : Nat) (e : Nat → Nat → α), ts = shT g h w e ∧ ds = [.fn x, lad, .int st] ∧ (x, sp) ∈ fnTb ∧ OpOk α z g op h st lad sp ∧ 0 < st ∧ st ≤ 64 ∧ 0 < h ∧ h ≤ 1000 ∧ w ≤ 1000 ∧ P (shT g h w (colF z op h st e))
theorem mod_lt_succ {i st n : Nat} (s0 : 0 < st) (q1 : i % st = 0) (hne : i ≠ n * st) : i < n * st ↔ i < (n + 1) * st := by
  constructor
  · intro y
    rw [Nat.add_mul]; omega
  · intro q2
    have e2 : i = i / st * st := by
      have := Nat.div_add_mod i st
      rw [q1, Nat.add_zero, Nat.mul_comm] at this
      exact this.symm
    have e3 : i / st < n + 1 := by rw [Nat.div_lt_iff_lt_mul s0]; exact q2
    rcases Nat.lt_or_ge (i / st) n with y | y
    · have : (i / st + 1) * st ≤ n * st := Nat.mul_le_mul_right _ y
      rw [Nat.add_mul] at this
      omega
    · have : i / st = n := by omega
      rw [this] at e2
      exact absurd e2 hne
theorem ok_change_columns {f : Addr} {fd : FuncData} (Df : DefAt K mg "change_columns" s_change_columns f fd) (B : BltV mg) (KV : KitV K) (n_raised : NsOf K mg "raised") (n_lowered : NsOf K mg "lowered") (c_raised : Cal P w K mg base "raised" 3 ["row", "ladder", "stride"] (spV K 3 sp_raised)) (c_lowered : Cal P w K mg base "lowered" 3 ["row", "ladder", "stride"] (spV K 3 sp_lowered)) :
    Cal P w K mg base "change_columns" 4 ["sheet", "doing", "ladder", "stride"] (spIO K 4 sp_change_columns) := by
  refine CalIO.of Df sc_change_columns (fun _ _ _ _ _ _ us hl => match us, hl with | [_, _, _, _], _ => rfl) rfl (fun cdv A outer s H E hr => ⟨_, _, (pss_one (ps_for PassesOwn.never rfl (pi_range3 (by rfl) (by exact B.range) (pa_cons pe_int (pa_cons (pe_callB call_len_seq (by rfl) B.len PySem.boot_len (pa_cons (pe_ix ix_list (pv 0) pe_int (fun _ _ => rfl)) pa_nil)) (pa_cons (pv 3) pa_nil)))) (pg_name (i := 4) sc_change_columns.nd rfl (Or.inr rfl)) (pss_cons (ps_set (i := 5) sc_change_columns.nd rfl (Or.inl rfl) (pe_calL (pv 1) (tbV_all (K := K) (n := 3) (tb := fnTb) (k := 3) (by simp only [fnTb, List.forall_mem_cons]; exact ⟨⟨_, c_raised.mono (by decide)⟩, ⟨_, c_lowered.mono (by decide)⟩, fun _ h => by cases h⟩)) (hr.mono (by decide)) (pa_cons (pe_comp rfl (pi_list (pv 0)) (show BlkScope (defScope s_change_columns) _ from ⟨rfl, by decide +kernel, by decide +kernel, by decide +kernel⟩) (N := ["row", "j"]) (ix := [none, some 4]) (show CapOf _ _ _ _ from ⟨⟨rfl, rfl, .inl rfl⟩, trivial⟩) (fun _ _ _ => (pg_name (i := 0) (show List.Nodup (["row", "j"] : List Str) by decide +kernel) rfl (Or.inl rfl))) (fun _ _ _ => (pe_ix ix_list (pv 0) (pv 1) (fun _ _ => rfl)))) (pa_cons (pv 2) (pa_cons (pv 3) pa_nil)))))
      (pss_one (ps_for PassesOwn.never rfl (pi_range3 (by rfl) (by exact B.range) (pa_cons pe_int (pa_cons (pe_callB call_len_seq (by rfl) B.len PySem.boot_len (pa_cons (pv 0) pa_nil)) (pa_cons (pv 3) pa_nil)))) (pg_name (i := 6) sc_change_columns.nd rfl (Or.inl rfl)) (pss_one (ps_asg (pe_ix ix_list (pv 5) (pv 6) (fun _ _ => rfl)) (pg_sub (pe_ix ix_list (pv 0) (pv 6) (fun _ _ => rfl)) (pv 4) set_list)))))))),
    (sS_for (sI_rng3 (sAB_cons (sB_f sF_int) (sAB_cons (sB_f (sF_cb cS_len (sAB_cons (sB_op (OpF.b oF_ixL) sB_var (sB_f sF_int)) sAB_nil))) (sAB_cons sB_var sAB_nil)))) sG_name (sS_seq (sS_set (sO_f (sF_o (sO_callL (tb := fnTb) (by simp only [fnTb, List.forall_mem_cons]; exact ⟨n_raised, n_lowered, fun _ h => by cases h⟩) (sAF_cons (sF_o (sO_compB sB_var (sO_f (sF_lf (sB_op (OpF.b oF_ixL) sB_var sB_var))))) (sAF_cons sF_var (sAF_cons sF_var sAF_nil)))))))
      (sS_for (sI_rng3 (sAB_cons (sB_f sF_int) (sAB_cons (sB_f (sF_cb cS_len (sAB_cons sB_var sAB_nil))) (sAB_cons sB_var sAB_nil)))) sG_name (sS_tag (i := 0) loc_put (sS_put2 (sF_opF oF_ixL sF_var sF_var) sB_var sB_var))))), ?_⟩)
  rintro a ts ds Pr ⟨α, z, g, op, x, sp, lad, h, w, st, e, rfl, rfl, hm, ok, s0, s1, h0, hh, hw, k⟩
  walk_at "v"
  rw [shT_val]
  refine ⟨_, atI_tab (by omega) (by omega), ?_⟩
  walk_at "v"
  rw [tab_len]
  refine ⟨⟨by omega, by omega, by omega, by omega⟩, ?_⟩
  refine ⟨fun n δ => n ≤ rngN 0 w st ∧ ∃ o1 o2 o3, δ = [some (.own (.rt a (shT g h w fun i j => if j % st = 0 ∧ j < n * st then (op (tab h fun i => e i j)).getD i z else e i j))), vD (.fn x), vD lad, vI st, o1, o2, o3], ⟨Nat.zero_le _, none, none, none, ?_⟩, ?_, ?_⟩
  · simp only [Nat.zero_mul, Nat.not_lt_zero, and_false, if_false]
  · rintro n d δ hd ⟨hn, o1, o2, o3, rfl⟩
    obtain ⟨hi, rfl⟩ := rng_inv hd
    have hlt := step_lt s0 hi
    have hnat : (0 + (n : Int) * (st : Int)) = ((n * st : Nat) : Int) := by rw [Int.zero_add]; exact_mod_cast rfl
    rw [hnat]
    generalize hj : n * st = j at hlt
    walk_at "v"
    refine ⟨sp, hm, ?_⟩
    rw [shT_val]
    refine CmpW.mapB (List.range h) _ (fun i => .fz (g (e i j))) (by rw [List.length_range]; omega) (fun i hi' Q q => ?_) ?_
    · have hi'' := List.mem_range.mp hi'
      walk_at "v"
      refine ⟨_, atI_tab (by omega) (by exact_mod_cast hlt), ?_⟩
      rw [show ((j : Nat) : Int).toNat = j by omega, if_neg fun y => by omega]
      exact ⟨ok.lf _, q⟩
    · have e1 : (List.range h).map (fun i => OV.fz (g (e i j))) = (tab h fun i => e i j).map fun x => OV.fz (g x) := by rw [tab_map]; rfl
      rw [e1]
      walk_at "v"
      simp only [val_fzG]
      refine ok.run _ tab_len _ ?_
      generalize hcc : tab h (fun i => e i j) = c
      have hcl : c.length = h := by rw [← hcc]; exact tab_len
      have hol := ok.len c hcl
      walk_at "v"
      simp only [val_fzG]
      refine ⟨⟨by omega, by rw [shT, tab_len]; omega, by omega, by omega⟩, ?_⟩
      rw [show ((shT g h w fun i j' => if j' % st = 0 ∧ j' < j then (op (tab h fun i => e i j')).getD i z else e i j').length : Int) = (h : Int) by rw [shT, tab_len]]
      refine ⟨fun m δ => ∃ o3, δ = [some (.own (.rt a (shT g h w fun i j' => if j' = j ∧ i % st = 0 ∧ i < m * st then (op c).getD i z else if j' % st = 0 ∧ j' < j then (op (tab h fun i => e i j')).getD i z else e i j'))), vD (.fn x), vD lad, vI st, vI j, vD (.lst ((op c).map g)), o3], ⟨o3, ?_⟩, ?_, ?_⟩
      · simp only [Nat.zero_mul, Nat.not_lt_zero, and_false, if_false]
      · rintro m d δ hd' ⟨p3, rfl⟩
        obtain ⟨hm', rfl⟩ := rng_inv hd'
        have hlt' := step_lt s0 hm'
        have hnat' : (0 + (m : Int) * (st : Int)) = ((m * st : Nat) : Int) := by rw [Int.zero_add]; exact_mod_cast rfl
        rw [hnat']
        generalize hi0 : m * st = i at hlt'
        walk_at "v"
        refine ⟨_, atI_map z (by omega) (by rw [hol]; exact_mod_cast hlt'), ?_⟩
        rw [show ((i : Nat) : Int).toNat = i by omega]
        refine ⟨i, _, ?_, tab_get hlt', j, ?_, ?_⟩
        · rw [shT, tab_len]
          have := ixN_in (n := h) (i := ((i : Nat) : Int)) (by omega) (by exact_mod_cast hlt')
          rwa [show ((i : Nat) : Int).toNat = i by omega] at this
        · rw [tab_len]
          have := ixN_in (n := w) (i := ((j : Nat) : Int)) (by omega) (by exact_mod_cast hlt)
          rwa [show ((j : Nat) : Int).toNat = j by omega] at this
        · try walk_at "v"
          refine ⟨vI ((i : Nat) : Int), ?_⟩
          have es : (shT g h w fun i j' => if j' = j ∧ i % st = 0 ∧ i < m * st then (op c).getD i z else if j' % st = 0 ∧ j' < j then (op (tab h fun i => e i j')).getD i z else e i j').set i (.nl ((tab w fun j' => OV.fz (g (if j' = j ∧ i % st = 0 ∧ i < m * st then (op c).getD i z else if j' % st = 0 ∧ j' < j then (op (tab h fun i => e i j')).getD i z else e i j'))).set j (.fz (g ((op c).getD i z))))) =
              shT g h w fun i j' => if j' = j ∧ i % st = 0 ∧ i < (m + 1) * st then (op c).getD i z else if j' % st = 0 ∧ j' < j then (op (tab h fun i => e i j')).getD i z else e i j' := by
            unfold shT
            rw [tab_set]
            refine tab_ext fun i' hi' => ?_
            by_cases q : i' = i
            · subst q
              rw [if_pos rfl, tab_set]
              congr 1
              refine tab_ext fun j' hj' => ?_
              dsimp only
              by_cases y : j' = j
              · subst y
                rw [if_pos rfl, if_pos ⟨rfl, by rw [← hi0]; exact Nat.mul_mod_left _ _, by rw [← hi0, Nat.add_mul]; omega⟩]
              · simp only [y, false_and, if_false]
            · rw [if_neg q]
              congr 1
              refine tab_ext fun j' hj' => ?_
              dsimp only
              by_cases y : j' = j ∧ i' % st = 0
              · have hne : i' ≠ m * st := by rw [hi0]; exact q
                have := mod_lt_succ (n := m) s0 y.2 hne
                by_cases y2 : i' < m * st
                · rw [if_pos ⟨y.1, y.2, y2⟩, if_pos ⟨y.1, y.2, this.mp y2⟩]
                · rw [if_neg (show ¬ (j' = j ∧ i' % st = 0 ∧ i' < m * st) from fun y' => y2 y'.2.2), if_neg (show ¬ (j' = j ∧ i' % st = 0 ∧ i' < (m + 1) * st) from fun y' => y2 (this.mpr y'.2.2))]
              · rw [if_neg (show ¬ (j' = j ∧ i' % st = 0 ∧ i' < m * st) from fun y' => y ⟨y'.1, y'.2.1⟩), if_neg (show ¬ (j' = j ∧ i' % st = 0 ∧ i' < (m + 1) * st) from fun y' => y ⟨y'.1, y'.2.1⟩)]
          simp only [hi0] at es
          rw [es]
      · rintro δ ⟨p3, rfl⟩
        rw [rng_len]
        refine ⟨hi, vI j, vD (.lst ((op c).map g)), p3, ?_⟩
        rw [shT_ext (e' := fun i j => if j % st = 0 ∧ j < (n + 1) * st then (op (tab h fun i => e i j)).getD i z else e i j)]
        intro i j' hi' hj'
        dsimp only
        by_cases y : j' = j
        · subst y
          rw [hcc, if_pos (show j' % st = 0 ∧ j' < (n + 1) * st from ⟨by rw [← hj]; exact Nat.mul_mod_left _ _, by rw [← hj, Nat.add_mul]; omega⟩)]
          by_cases q : i % st = 0
          · rw [if_pos ⟨rfl, q, step_all s0 hi' q⟩]
          · rw [if_neg fun y' => q y'.2.1, if_neg (show ¬ (j' % st = 0 ∧ j' < j') from fun y' => by omega), ok.off c i hcl hi' q, ← hcc, tab_getD hi']
        · rw [if_neg fun y' => y y'.1]
          by_cases q : j' % st = 0
          · have hne : j' ≠ n * st := by rw [hj]; exact y
            have := mod_lt_succ (n := n) s0 q hne
            rw [hj] at this
            by_cases y2 : j' < j
            · rw [if_pos ⟨q, y2⟩, if_pos ⟨q, this.mp y2⟩]
            · rw [if_neg fun y' => y2 y'.2, if_neg fun y' => y2 (this.mpr y'.2)]
          · rw [if_neg fun y' => q y'.1, if_neg fun y' => q y'.1]
  · rintro δ ⟨_, o1, o2, o3, rfl⟩
    rw [rng_len]
    refine ⟨_, rfl, ?_⟩
    rw [shT_ext (e' := colF z op h st e)]
    · exact k
    · intro i j hi hj
      show (if j % st = 0 ∧ j < rngN 0 w st * st then _ else _) = if j % st = 0 then _ else _
      by_cases q : j % st = 0
      · rw [if_pos ⟨q, step_all s0 hj q⟩, if_pos q]
      · rw [if_neg fun y => q y.1, if_neg q]
/-! ### thinned -/
theorem sR_cnt (h st : Nat) (s0 : 0 < st) : sliceRange 0 h st = (List.range (rngN 0 h st)).map fun k => k * st := by
  unfold sliceRange rngN Builtin.Range.rangeSize
  have hs : (st : Int) > 0 := by omega
  simp only [hs, if_true]
  by_cases hh : (0 : Int) < h
  · simp only [hh, if_true]
    have e : ((h : Int) - 0 + st - 1) / st = ((h : Int) - 0 - 1) / st + 1 := by
      rw [show (h : Int) - 0 + st - 1 = ((h : Int) - 0 - 1) + 1 * st by omega, Int.add_mul_ediv_right _ _ (by omega)]
    rw [e]
    refine List.map_congr_left fun k _ => ?_
    rw [Int.zero_add, Int.mul_comm]
    exact_mod_cast rfl
  · simp only [hh, if_false]
    rfl
theorem fm_some {α β : Type} {f : α → Option β} {g : α → β} : ∀ {js : List α}, (∀ j ∈ js, f j = some (g j)) → js.filterMap f = js.map g
  | [], _ => rfl
  | j :: js, h => by
    rw [List.filterMap_cons_some (h j List.mem_cons_self), fm_some fun k hk => h k (List.mem_cons_of_mem _ hk), List.map_cons]
theorem stepG_tab {β : Type} {h st : Nat} {f : Nat → β} (s0 : 0 < st) : stepG (tab h f) st = tab (rngN 0 h st) fun k => f (k * st) := by
  unfold stepG
  rw [tab_len, sR_cnt h st s0]
  unfold tab
  rw [List.filterMap_map]
  refine fm_some fun k hk => ?_
  exact tab_get (step_lt s0 (List.mem_range.mp hk))
theorem rngN_one {h : Nat} : rngN 0 h (1 : Nat) = h := nat_eq_of_lt fun i => by
  rw [rngN_lt (by decide)]
  simp
abbrev s_thinned : Stmt := top 17
theorem sc_thinned : FnScope ["sheet", "k"] ["sheet", "k"] (defScope s_thinned) := ⟨rfl, rfl, rfl, by decide +kernel, rfl, by decide +kernel, by decide +kernel⟩
def sp_thinned : DSp := fun ds P => ∃ (α : Type) (g : α → D) (h w k : Nat) (e : Nat → Nat → α), ds = [.lst (shV g h w e), .int k] ∧ k ≤ 6 ∧ h ≤ 1000 ∧ w ≤ 1000 ∧ P (.nl (shT g (rngN 0 h (2 ^ k : Nat)) (rngN 0 w (2 ^ k : Nat)) fun i j => e (i * 2 ^ k) (j * 2 ^ k)))
theorem ok_thinned {f : Addr} {fd : FuncData} (Df : DefAt K mg "thinned" s_thinned f fd) (B : BltV mg) (KV : KitV K) :
    Cal P w K mg base "thinned" 1 ["sheet", "k"] (spV K 2 sp_thinned) := by
  refine CalV.of Df sc_thinned (fun _ _ _ _ _ _ us hl => match us, hl with | [_, _], _ => rfl) rfl (fun cdv A outer s H E hr => ⟨_, _, (pss_one (ps_ret (pe_comp rfl (pi_list (pe_step (pv 0) (pe_op op_shl pe_int (pv 1)))) (show BlkScope (defScope s_thinned) _ from ⟨rfl, by decide +kernel, by decide +kernel, by decide +kernel⟩) (N := ["row", "k"]) (ix := [none, some 1]) (show CapOf _ _ _ _ from ⟨⟨rfl, rfl, .inl rfl⟩, trivial⟩) (fun _ _ _ => (pg_name (i := 0) (show List.Nodup (["row", "k"] : List Str) by decide +kernel) rfl (Or.inl rfl))) (fun _ _ _ => (pe_step (pv 0) (pe_op op_shl pe_int (pv 1))))))),
    (sS_ret (sO_comp (sI_list (sF_o (sO_slSt sF_var (sB_f (sF_op oS_i (sB_f sF_int) sB_var))))) sG_name (sO_slSt sF_var (sB_f (sF_op oS_i (sB_f sF_int) sB_var))))), ?_⟩)
  rintro ds Pr ⟨α, g, h, w, k, e, rfl, k6, hh, hw, q⟩
  have hp : (1 : Int) * 2 ^ ((k : Int)).toNat = ((2 ^ k : Nat) : Int) := by simp
  have hp0 : 0 < 2 ^ k := Nat.pow_pos (by decide)
  walk_at "v"
  rw [hp]
  refine ⟨⟨by omega, by omega⟩, by exact_mod_cast hp0, ?_⟩
  simp only [shV]
  rw [stepG_tab hp0]
  simp only [tab_map, OV.val]
  have hle := rngN_le (h := h) hp0
  refine CmpW.map (List.range (rngN 0 h (2 ^ k : Nat))) (fun i => D.lst (tab w fun j => g (e (i * 2 ^ k) j))) (fun i => .nl (tab (rngN 0 w (2 ^ k : Nat)) fun j => .fz (g (e (i * 2 ^ k) (j * 2 ^ k))))) (by rw [List.length_range]; omega) (fun i hi Q q => ?_) ?_
  · walk_at "v"
    rw [hp]
    refine ⟨⟨by omega, by omega⟩, by exact_mod_cast hp0, ?_⟩
    rw [stepG_tab hp0, tab_map]
    exact q
  · exact q
/-! ### what no lift touches -/
theorem gLift_off {α : Type} {z : α} {G : α → α → α → α} {h : Int} {st : Nat} {xs : List α} {p : Nat} (s0 : 0 < st) (hh : h = 0 ∨ h = 1) (hp : p % st ≠ 0) : (gLift z G h st xs).getD p z = xs.getD p z := by
  rw [(g_all (z := z) (G := G) (h := h) (st := (st : Int)) (xs := xs) (by omega) hh).2 p, if_neg]
  intro hm
  obtain ⟨_, _, i, hi⟩ := (plc_mem (show (0 : Int) < st by omega)).mp hm
  apply hp
  rcases hh with rfl | rfl
  · have : p = i * 2 * st := by
      have e : (p : Int) = ((i * 2 * st : Nat) : Int) := by rw [hi, Int.zero_mul, Int.zero_add, ← Int.mul_assoc]; exact_mod_cast rfl
      exact_mod_cast e
    rw [this]; exact Nat.mul_mod_left _ _
  · have : p = (1 + i * 2) * st := by
      have e : (p : Int) = (((1 + i * 2) * st : Nat) : Int) := by rw [hi, ← Int.mul_assoc, ← Int.add_mul]; exact_mod_cast rfl
      exact_mod_cast e
    rw [this]; exact Nat.mul_mod_left _ _
theorem gFold_off {α : Type} {z : α} {G : Lf → α → α → α → α} {st : Nat} {p : Nat} (s0 : 0 < st) (hp : p % st ≠ 0) : ∀ (gs : List Lf) (xs : List α), (∀ f ∈ gs, f.Ok) → (gs.foldl (fun xs f => gLift z (G f) f.h st xs) xs).getD p z = xs.getD p z
  | [], _, _ => rfl
  | f :: gs, xs, ok => by
    rw [List.foldl_cons, gFold_off s0 hp gs _ fun g hg => ok g (List.mem_cons_of_mem _ hg)]
    exact gLift_off s0 (ok f List.mem_cons_self).h hp
theorem raise_g {fs : List Lf} {st : Int} {xs : List Int} : raiseF fs st xs = fs.foldl (fun xs f => gLift 0 ((fun (f : Lf) x l r => x + 1 * gainF f l r) f) f.h st xs) xs := rfl
theorem pow64 {k : Nat} (h : k ≤ 6) : 0 < 2 ^ k ∧ 2 ^ k ≤ 64 := ⟨Nat.pow_pos (by decide), Nat.le_trans (Nat.pow_le_pow_right (by decide) h) (by decide)⟩
theorem raised_ok {fs : List Lf} {st n : Nat} (ok : ∀ f ∈ fs, f.Ok) (s0 : 0 < st) (s1 : st ≤ 64) (hn : n ≤ 1000) : OpOk Int 0 D.int (raiseF fs st) n st (ladD fs) sp_raised where
  run := fun r hr Q q => ⟨r, fs, st, rfl, ⟨ok, by omega, by omega, by omega⟩, q⟩
  len := fun r hr => by rw [raise_g, gFold_len]; exact hr
  off := fun r i hr hi hm => gFold_off (z := (0 : Int)) (G := fun (f : Lf) x l r => x + 1 * gainF f l r) s0 hm fs r ok
  lf := fun x => rfl
theorem shT_one {α : Type} {g : α → D} {h w : Nat} {e : Nat → Nat → α} : shT g (rngN 0 h (2 ^ 0 : Nat)) (rngN 0 w (2 ^ 0 : Nat)) (fun i j => e (i * 2 ^ 0) (j * 2 ^ 0)) = shT g h w e := by
  rw [show (2 ^ 0 : Nat) = 1 by decide, rngN_one, rngN_one]
  simp only [Nat.mul_one]

/-! ### laid -/
def shI (h w : Nat) (e : Nat → Nat → Int) : D := .lst (shV D.int h w e)
abbrev s_laid : Stmt := top 14
theorem sc_laid : FnScope ["picture", "ladder", "levels", "sheet", "k"] ["picture", "ladder", "levels"] (defScope s_laid) := ⟨rfl, rfl, rfl, by decide +kernel, rfl, by decide +kernel, by decide +kernel⟩
def sp_laid : DSp := fun ds P => ∃ (h w : Nat) (e : Nat → Nat → Int) (fs : List Lf) (L : Nat), ds = [shI h w e, ladD fs, .int L] ∧ (∀ f ∈ fs, f.Ok) ∧ L ≤ 6 ∧ 0 < h ∧ h ≤ 1000 ∧ w ≤ 1000 ∧ P (.nl (shT D.int h w (layF 0 (fun k => raiseF fs (2 ^ k : Nat)) h w L e)))
theorem ok_laid {f : Addr} {fd : FuncData} (Df : DefAt K mg "laid" s_laid f fd) (B : BltV mg) (KV : KitV K) (n_raised : NsOf K mg "raised") (c_thinned : Cal P w K mg base "thinned" 1 ["sheet", "k"] (spV K 2 sp_thinned)) (c_change_rows : Cal P w K mg base "change_rows" 4 ["sheet", "doing", "ladder", "stride"] (spIO K 4 sp_change_rows)) (c_change_columns : Cal P w K mg base "change_columns" 4 ["sheet", "doing", "ladder", "stride"] (spIO K 4 sp_change_columns)) :
    Cal P w K mg base "laid" 5 ["picture", "ladder", "levels"] (spV K 3 sp_laid) := by
  refine CalV.of Df sc_laid (fun _ _ _ _ _ _ us hl => match us, hl with | [_, _, _], _ => rfl) rfl (fun cdv A outer s H E hr => ⟨_, _, (pss_cons (ps_set (i := 3) sc_laid.nd rfl (Or.inl rfl) (pe_cal c_thinned (hr.mono (by decide)) (by rfl) (pa_cons (pv 0) (pa_cons pe_int pa_nil))))
      (pss_cons (ps_for PassesOwn.never rfl (pi_range1 (by rfl) (by exact B.range) (pa_cons (pv 2) pa_nil)) (pg_name (i := 4) sc_laid.nd rfl (Or.inl rfl)) (pss_cons (ps_expr (pe_cal c_change_rows (hr.mono (by decide)) (by rfl) (pa_cons (pv 3) (pa_cons (pe_fn (by rfl) n_raised) (pa_cons (pv 1) (pa_cons (pe_op op_shl pe_int (pv 4)) pa_nil))))))
      (pss_one (ps_expr (pe_cal c_change_columns (hr.mono (by decide)) (by rfl) (pa_cons (pv 3) (pa_cons (pe_fn (by rfl) n_raised) (pa_cons (pv 1) (pa_cons (pe_op op_shl pe_int (pv 4)) pa_nil)))))))))
      (pss_one (ps_ret (pv 3))))),
    (sS_seq (sS_set (sO_call (sAF_cons sF_var (sAF_cons sF_int sAF_nil))))
      (sS_seq (sS_for (sI_rng1 (sAB_cons sB_var sAB_nil)) sG_name (sS_seq (sS_callIO (sAF_cons (sF_fn n_raised) (sAF_cons sF_var (sAF_cons (sF_op oS_i (sB_f sF_int) sB_var) sAF_nil))))
      (sS_callIO (sAF_cons (sF_fn n_raised) (sAF_cons sF_var (sAF_cons (sF_op oS_i (sB_f sF_int) sB_var) sAF_nil))))))
      sS_retV)), ?_⟩)
  rintro ds Pr ⟨h, w, e, fs, L, rfl, ok, l6, h0, hh, hw, k⟩
  simp only [shI]
  walk_at "s"
  refine ⟨Int, D.int, h, w, 0, e, rfl, by omega, hh, hw, ?_⟩
  rw [shT_one]
  walk_at "n"
  walk_at "v"
  refine ⟨⟨by omega, by omega⟩, ?_⟩
  refine ⟨fun n δ => n ≤ L ∧ ∃ o, δ = [vD (shI h w e), vD (ladD fs), vI L, some (.own (.nl (shT D.int h w (layF 0 (fun k => raiseF fs (2 ^ k : Nat)) h w n e)))), o], ⟨Nat.zero_le _, none, rfl⟩, ?_, ?_⟩
  · rintro n d δ hd ⟨hn, o, rfl⟩
    obtain ⟨hi, rfl⟩ := rng_inv hd
    have hnL : n < L := by omega
    obtain ⟨p0, p1⟩ := pow64 (show n ≤ 6 by omega)
    have hp : (1 : Int) * 2 ^ (0 + (n : Int) * 1).toNat = ((2 ^ n : Nat) : Int) := by simp
    walk_at "s"
    rw [hp]
    refine ⟨⟨by omega, by omega⟩, Int, 0, D.int, raiseF fs (2 ^ n : Nat), "raised", sp_raised, ladD fs, h, w, 2 ^ n, _, rfl, rfl, by simp [fnTb], raised_ok ok p0 p1 hw, p0, p1, hh, ?_⟩
    walk_at "n"
    walk_at "v"
    rw [hp]
    refine ⟨⟨by omega, by omega⟩, Int, 0, D.int, raiseF fs (2 ^ n : Nat), "raised", sp_raised, ladD fs, h, w, 2 ^ n, _, rfl, rfl, by simp [fnTb], raised_ok ok p0 p1 hh, p0, p1, h0, hh, hw, ?_⟩
    exact ⟨hnL, _, rfl⟩
  · rintro δ ⟨_, o, rfl⟩
    rw [rng_len, show ((L : Int)).toNat = L by omega]
    exact k

theorem lowered_ok {fs : List Lf} {st n : Nat} (ok : ∀ f ∈ fs, f.Ok) (s0 : 0 < st) (s1 : st ≤ 64) (hn : n ≤ 1000) : OpOk Int 0 D.int (lowerF fs st) n st (ladD fs) sp_lowered where
  run := fun r hr Q q => ⟨r, fs, st, rfl, ⟨ok, by omega, by omega, by omega⟩, q⟩
  len := fun r hr => by rw [lower_g, gLower_len]; exact hr
  off := fun r i hr hi hm => gFold_off (z := (0 : Int)) (G := fun (f : Lf) x l r => x + (-1) * gainF f l r) s0 hm fs.reverse r fun f hf => ok f (List.mem_reverse.mp hf)
  lf := fun x => rfl
/-! ### opened_by -/
theorem openF_stop {α : Type} {z : α} {op : Nat → List α → List α} {h w d : Nat} {e : Nat → Nat → α} : openF z op h w d d e = e := by
  cases d with
  | zero => rfl
  | succ m =>
    show (if m + 1 ≤ m then _ else e) = e
    rw [if_neg (by omega)]
theorem openF_low {α : Type} {z : α} {op : Nat → List α → List α} {h w : Nat} {e : Nat → Nat → α} : ∀ {n d : Nat}, n ≤ d → openF z op h w n d e = e
  | 0, _, _ => rfl
  | n + 1, d, hd => by
    show (if d ≤ n then _ else e) = e
    rw [if_neg (by omega)]
abbrev s_opened_by : Stmt := top 15
theorem sc_opened_by : FnScope ["lowering", "wave", "ladder", "levels", "down", "sheet", "k"] ["lowering", "wave", "ladder", "levels", "down"] (defScope s_opened_by) := ⟨rfl, rfl, rfl, by decide +kernel, rfl, by decide +kernel, by decide +kernel⟩
def sp_opened_by : DSp := fun ds P => ∃ (α : Type) (z : α) (g : α → D) (op : Nat → List α → List α) (x : Str) (sp : DSp) (lad : D) (h w L d : Nat) (e : Nat → Nat → α), ds = [.fn x, .lst (shV g h w e), lad, .int L, .int d] ∧ (x, sp) ∈ fnTb ∧ (∀ k, k < L → OpOk α z g (op k) w (2 ^ k) lad sp ∧ OpOk α z g (op k) h (2 ^ k) lad sp) ∧ L ≤ 6 ∧ d ≤ 6 ∧ 0 < h ∧ h ≤ 1000 ∧ w ≤ 1000 ∧ P (.nl (shT g h w (openF z op h w L d e)))
theorem ok_opened_by {f : Addr} {fd : FuncData} (Df : DefAt K mg "opened_by" s_opened_by f fd) (B : BltV mg) (KV : KitV K) (c_thinned : Cal P w K mg base "thinned" 1 ["sheet", "k"] (spV K 2 sp_thinned)) (c_change_columns : Cal P w K mg base "change_columns" 4 ["sheet", "doing", "ladder", "stride"] (spIO K 4 sp_change_columns)) (c_change_rows : Cal P w K mg base "change_rows" 4 ["sheet", "doing", "ladder", "stride"] (spIO K 4 sp_change_rows)) :
    Cal P w K mg base "opened_by" 5 ["lowering", "wave", "ladder", "levels", "down"] (spV K 5 sp_opened_by) := by
  refine CalV.of Df sc_opened_by (fun _ _ _ _ _ _ us hl => match us, hl with | [_, _, _, _, _], _ => rfl) rfl (fun cdv A outer s H E hr => ⟨_, _, (pss_cons (ps_set (i := 5) sc_opened_by.nd rfl (Or.inl rfl) (pe_cal c_thinned (hr.mono (by decide)) (by rfl) (pa_cons (pv 1) (pa_cons pe_int pa_nil))))
      (pss_cons (ps_for PassesOwn.never rfl (pi_rangeD rfl B.range (pa_cons (pe_op op_sub (pv 3) pe_int) (pa_cons (pe_op op_sub (pv 4) pe_int) (pa_cons (pe_un un_neg pe_int) pa_nil)))) (pg_name (i := 6) sc_opened_by.nd rfl (Or.inl rfl)) (pss_cons (ps_expr (pe_cal c_change_columns (hr.mono (by decide)) (by rfl) (pa_cons (pv 5) (pa_cons (pv 0) (pa_cons (pv 2) (pa_cons (pe_op op_shl pe_int (pv 6)) pa_nil))))))
      (pss_one (ps_expr (pe_cal c_change_rows (hr.mono (by decide)) (by rfl) (pa_cons (pv 5) (pa_cons (pv 0) (pa_cons (pv 2) (pa_cons (pe_op op_shl pe_int (pv 6)) pa_nil)))))))))
      (pss_one (ps_ret (pv 5))))),
    (sS_seq (sS_set (sO_call (sAF_cons sF_var (sAF_cons sF_int sAF_nil))))
      (sS_seq (sS_for (sI_rngD (sAB_cons (sB_f (sF_op oS_i0 sB_var (sB_f sF_int))) (sAB_cons (sB_f (sF_op oS_i0 sB_var (sB_f sF_int))) (sAB_cons (sB_f (sF_neg (sB_f sF_int))) sAB_nil)))) sG_name (sS_seq (sS_callIO (sAF_cons sF_var (sAF_cons sF_var (sAF_cons (sF_op oS_i (sB_f sF_int) sB_var) sAF_nil))))
      (sS_callIO (sAF_cons sF_var (sAF_cons sF_var (sAF_cons (sF_op oS_i (sB_f sF_int) sB_var) sAF_nil))))))
      sS_retV)), ?_⟩)
  rintro ds Pr ⟨α, z, g, op, x, sp, lad, h, w, L, d, e, rfl, hm, ok, l6, d6, h0, hh, hw, k⟩
  walk_at "s"
  refine ⟨α, g, h, w, 0, e, rfl, by omega, hh, hw, ?_⟩
  rw [shT_one]
  walk_at "n"
  walk_at "v"
  refine ⟨⟨by omega, by omega, by omega, by omega⟩, ?_⟩
  rw [show ((L : Int) - 1 - ((d : Int) - 1)).toNat = L - d by omega]
  refine ⟨fun n δ => n ≤ L - d ∧ ∃ o e', δ = [vD (.fn x), vD (.lst (shV g h w e)), vD lad, vI L, vI d, some (.own (.nl (shT g h w e'))), o] ∧ openF z op h w (L - n) d e' = openF z op h w L d e, ⟨Nat.zero_le _, none, e, rfl, rfl⟩, ?_, ?_⟩
  · rintro n d' δ hd ⟨hn, o, e', rfl, he⟩
    obtain ⟨hi, rfl⟩ := rng_inv hd
    obtain ⟨m, hm'⟩ : ∃ m, L - n = m + 1 := ⟨L - n - 1, by omega⟩
    have hmL : m < L := by omega
    obtain ⟨p0, p1⟩ := pow64 (show m ≤ 6 by omega)
    have hk : (L : Int) - 1 + (n : Int) * -1 = (m : Int) := by omega
    have hp : (1 : Int) * 2 ^ ((m : Int)).toNat = ((2 ^ m : Nat) : Int) := by simp
    rw [hk]
    walk_at "s"
    rw [hp]
    refine ⟨⟨by omega, by omega⟩, α, z, g, op m, x, sp, lad, h, w, 2 ^ m, _, rfl, rfl, hm, (ok m hmL).2, p0, p1, h0, hh, hw, ?_⟩
    walk_at "n"
    walk_at "v"
    rw [hp]
    refine ⟨⟨by omega, by omega⟩, α, z, g, op m, x, sp, lad, h, w, 2 ^ m, _, rfl, rfl, hm, (ok m hmL).1, p0, p1, hh, ?_⟩
    refine ⟨hi, _, _, rfl, ?_⟩
    rw [← he, hm', show L - (n + 1) = m by omega]
    show _ = if d ≤ m then _ else _
    rw [if_pos (by omega)]
  · rintro δ ⟨_, o, e', rfl, he⟩
    rw [rng_len] at he
    walk_at "v"
    rw [openF_low (by omega)] at he
    rw [he]
    exact k

/-! ### opened -/
abbrev s_opened : Stmt := top 16
theorem sc_opened : FnScope ["wave", "ladder", "levels", "down"] ["wave", "ladder", "levels", "down"] (defScope s_opened) := ⟨rfl, rfl, rfl, by decide +kernel, rfl, by decide +kernel, by decide +kernel⟩
def sp_opened : DSp := fun ds P => ∃ (h w : Nat) (e : Nat → Nat → Int) (fs : List Lf) (L d : Nat), ds = [shI h w e, ladD fs, .int L, .int d] ∧ (∀ f ∈ fs, f.Ok) ∧ L ≤ 6 ∧ d ≤ 6 ∧ 0 < h ∧ h ≤ 1000 ∧ w ≤ 1000 ∧ P (.nl (shT D.int h w (openF 0 (fun k => lowerF fs (2 ^ k : Nat)) h w L d e)))
theorem ok_opened {f : Addr} {fd : FuncData} {T : Addr} {tk0 : Tok} (Df : DefAtD K mg "opened" s_opened f fd T #[.int 0 tk0]) (B : BltV mg) (KV : KitV K) (n_lowered : NsOf K mg "lowered") (c_opened_by : Cal P w K mg base "opened_by" 5 ["lowering", "wave", "ladder", "levels", "down"] (spV K 5 sp_opened_by)) :
    CalD P w K mg base "opened" 6 ["wave", "ladder", "levels", "down"] (spV K 4 sp_opened) [.int 0] := by
  refine CalVD.of (ds := [.int 0 tk0]) Df sc_opened (fun _ _ _ _ _ _ us hl => match us, hl with | [_, _, _, _], _ => ⟨_, rfl, rfl⟩) (fun _ _ _ _ _ _ us hl => by have hl' : us.length = 3 := (by simpa using hl); exact match us, hl' with | [_, _, _], _ => ⟨_, rfl, rfl⟩) (.cons ⟨_, rfl⟩ (.nil)) rfl (fun cdv A outer s H E hr => ⟨_, _, (pss_one (ps_ret (pe_cal c_opened_by (hr.mono (by decide)) (by rfl) (pa_cons (pe_fn (by rfl) n_lowered) (pa_cons (pv 0) (pa_cons (pv 1) (pa_cons (pv 2) (pa_cons (pv 3) pa_nil)))))))),
    (sS_ret (sO_call (sAF_cons (sF_fn n_lowered) (sAF_cons sF_var (sAF_cons sF_var (sAF_cons sF_var (sAF_cons sF_var sAF_nil))))))), ?_⟩)
  rintro ds Pr ⟨h, w, e, fs, L, d, rfl, ok, l6, d6, h0, hh, hw, k⟩
  simp only [shI]
  walk_at "v"
  refine ⟨Int, 0, D.int, fun k => lowerF fs (2 ^ k : Nat), "lowered", sp_lowered, ladD fs, h, w, L, d, e, rfl, by simp [fnTb], fun k hk => ?_, l6, d6, h0, hh, hw, k⟩
  obtain ⟨p0, p1⟩ := pow64 (show k ≤ 6 by omega)
  exact ⟨lowered_ok ok p0 p1 hw, lowered_ok ok p0 p1 hh⟩

/-! ### cell_at -/
abbrev s_law_cell_at : Stmt := top 19
theorem sc_law_cell_at : FnScope ["_law_script", "_law_k"] ["_law_script", "_law_k"] (defScope s_law_cell_at) := ⟨rfl, rfl, rfl, by decide +kernel, rfl, by decide +kernel, by decide +kernel⟩
def sp_law_cell_at : DSp := fun ds P => ∃ (ns : List Int) (k : Int), ds = [.lst (ns.map .int), .int k] ∧ 0 ≤ k ∧ P (.fz (.int (ns.getD k.toNat 0)))
theorem ok_law_cell_at {f : Addr} {fd : FuncData} (Df : DefAt K mg "_law_cell_at" s_law_cell_at f fd) (B : BltV mg) (KV : KitV K) :
    Cal P w K mg base "_law_cell_at" 1 ["_law_script", "_law_k"] (spV K 2 sp_law_cell_at) := by
  refine CalV.of Df sc_law_cell_at (fun _ _ _ _ _ _ us hl => match us, hl with | [_, _], _ => rfl) rfl (fun cdv A outer s H E hr => ⟨_, _, (pss_cons (ps_if (pt_cmpR op_lt (pv 1) (pe_callB call_len_seq (by rfl) B.len PySem.boot_len (pa_cons (pv 0) pa_nil)) (nomark _)) (pss_one (ps_ret (pe_ix ix_list (pv 0) (pv 1) (fun _ _ => rfl)))) pss_nil)
      (pss_one (ps_ret pe_int))),
    (sS_seq (sS_if (sT_test (sF_op oS_b0 sB_var (sB_f (sF_cb cS_len (sAB_cons sB_var sAB_nil))))) (sS_ret (sO_f (sF_opF oF_ixL sF_var sF_var))) sS_next)
      (sS_ret (sO_f sF_int))), ?_⟩)
  rintro ds Pr ⟨ns, k, rfl, h0, q⟩
  walk_at "v"
  split
  · rename_i h
    exact ⟨_, atI_ints h0 h, q⟩
  · rename_i h
    have e : ns.getD k.toNat 0 = 0 := by
      have hk : ns.length ≤ k.toNat := by omega
      simp [List.getD, List.getElem?_eq_none hk]
    rw [e] at q
    exact q

/-! ### number -/
theorem ib_fac {x : Int} (h : x = 1 ∨ x = 48271 ∨ x = 10 ^ 40 + 7) : ibN x ≤ 2000000 := by
  refine Nat.le_trans (ibN_lt (n := 200) ?_ ?_) (by decide)
  · rcases h with rfl | rfl | rfl <;> decide
  · rcases h with rfl | rfl | rfl <;> decide
abbrev s_law_number : Stmt := top 20
theorem sc_law_number : FnScope ["_law_cell", "_law_k", "_law_size"] ["_law_cell", "_law_k"] (defScope s_law_number) := ⟨rfl, rfl, rfl, by decide +kernel, rfl, by decide +kernel, by decide +kernel⟩
def sp_law_number : DSp := fun ds P => ∃ c k : Int, ds = [.int c, .int k] ∧ ibN c ≤ 1048576 ∧ ∀ n : Int, P (.fz (.int n))
theorem ok_law_number {f : Addr} {fd : FuncData} (Df : DefAt K mg "_law_number" s_law_number f fd) (B : BltV mg) (KV : KitV K) :
    Cal P w K mg base "_law_number" 1 ["_law_cell", "_law_k"] (spV K 2 sp_law_number) := by
  refine CalV.of Df sc_law_number (fun _ _ _ _ _ _ us hl => match us, hl with | [_, _], _ => rfl) rfl (fun cdv A outer s H E hr => ⟨_, _, (pss_cons (ps_set (i := 2) sc_law_number.nd rfl (Or.inl rfl) (pe_op op_mod (pe_op op_mulB (pe_callB call_abs (by rfl) B.abs boot_abs (pa_cons (pv 0) pa_nil)) (pe_ix ix_list (pe_lstS (pa_cons pe_int (pa_cons pe_int (pa_cons (pe_op op_add (pe_op op_pow pe_int pe_int) pe_int) pa_nil)))) (pe_op op_mod (pv 1) pe_int) (fun _ _ => rfl))) (pe_op op_pow pe_int pe_int)))
      (pss_cons (ps_if (pt_cmpR op_eq (pe_op op_mod (pe_op op_mod (pe_op op_mul (pe_op op_add (pv 0) (pv 1)) pe_int) pe_int) pe_int) pe_int (nomark _)) (pss_one (ps_ret (pe_op op_sub pe_int (pv 2)))) pss_nil)
      (pss_one (ps_ret (pv 2))))),
    (sS_seq (sS_set (sO_f (sF_op oS_i (sB_f (sF_op oS_i (sB_f (sF_cb cS_abs (sAB_cons sB_var sAB_nil))) (sB_op (OpF.b oF_ixL) (sB_f (sF_o (sO_lst (sAO_cons (sO_f sF_int) (sAO_cons (sO_f sF_int) (sAO_cons (sO_f (sF_op oS_i0 (sB_f (sF_op oS_i (sB_f sF_int) (sB_f sF_int))) (sB_f sF_int))) sAO_nil)))))) (sB_f (sF_op oS_i sB_var (sB_f sF_int)))))) (sB_f (sF_op oS_i (sB_f sF_int) (sB_f sF_int))))))
      (sS_seq (sS_if (sT_test (sF_op oS_eq (sB_f (sF_op oS_i (sB_f (sF_op oS_i (sB_f (sF_op oS_i (sB_f (sF_op oS_i0 sB_var sB_var)) (sB_f sF_int))) (sB_f sF_int))) (sB_f sF_int))) (sB_f sF_int))) (sS_ret (sO_f (sF_op oS_i0 (sB_f sF_int) sB_var))) sS_next)
      (sS_ret (sO_f sF_var)))), ?_⟩)
  rintro ds Pr ⟨c, k, rfl, hc, q⟩
  walk_at "s"
  have hk : k % 3 = 0 ∨ k % 3 = 1 ∨ k % 3 = 2 := by omega
  have fin : ∀ x : Int, (x = 1 ∨ x = 48271 ∨ x = 10 ^ 40 + 7) → CMulB (c.natAbs : Int) x := fun x hx => ⟨by rw [ibN_abs]; omega, ib_fac hx⟩
  generalize hk3 : k % 3 = k3 at hk
  obtain ⟨x, hx, hat⟩ : ∃ x : Int, (x = 1 ∨ x = 48271 ∨ x = 10 ^ 40 + 7) ∧ atI [D.int 1, .int 48271, .int 10000000000000000000000000000000000000007] k3 = some (.int x) := by
    rcases hk with rfl | rfl | rfl
    · exact ⟨1, .inl rfl, atI_c0⟩
    · exact ⟨48271, .inr (.inl rfl), atI_c1⟩
    · exact ⟨10 ^ 40 + 7, .inr (.inr rfl), atI_c2⟩
  refine ⟨_, hat, fin x hx, ?_⟩
  walk_at "n"
  generalize (c.natAbs : Int) * x % _ = sz
  walk_at "v"
  split
  · exact q _
  · exact q _

/-! ### ladder of so many lifts -/
def lawLf (c : Int) : Lf := ⟨c % 2, c / 2 % 17 - 8, c / 34 % 17 - 8, c / 578 % 129 - 64, c / 74562 % 9⟩
theorem lawLf_ok (x : Int) : (lawLf x).Ok := by
  unfold lawLf
  exact ⟨by show x % 2 = 0 ∨ x % 2 = 1; omega, by show -8 ≤ x / 2 % 17 - 8 ∧ x / 2 % 17 - 8 ≤ 8; omega, by show -8 ≤ x / 34 % 17 - 8 ∧ x / 34 % 17 - 8 ≤ 8; omega, by show -64 ≤ x / 578 % 129 - 64 ∧ x / 578 % 129 - 64 ≤ 64; omega, by show 0 ≤ x / 74562 % 9 ∧ x / 74562 % 9 ≤ 8; omega⟩
abbrev s_law_ladder : Stmt := top 21
theorem sc_law_ladder : FnScope ["_law_script", "_law_many", "_law_found", "_law_k", "_law_cell"] ["_law_script", "_law_many"] (defScope s_law_ladder) := ⟨rfl, rfl, rfl, by decide +kernel, rfl, by decide +kernel, by decide +kernel⟩
def sp_law_ladder : DSp := fun ds P => ∃ (ns : List Int) (m : Int), ds = [.lst (ns.map .int), .int m] ∧ (0 ≤ m ∧ m ≤ 6) ∧ ∀ fs : List Lf, (∀ f ∈ fs, f.Ok) → fs.length ≤ 6 → P (.fz (ladD fs))
theorem ok_law_ladder {f : Addr} {fd : FuncData} (Df : DefAt K mg "_law_ladder" s_law_ladder f fd) (B : BltV mg) (KV : KitV K) (c_law_cell_at : Cal P w K mg base "_law_cell_at" 1 ["_law_script", "_law_k"] (spV K 2 sp_law_cell_at)) :
    Cal P w K mg base "_law_ladder" 2 ["_law_script", "_law_many"] (spV K 2 sp_law_ladder) := by
  refine CalV.of Df sc_law_ladder (fun _ _ _ _ _ _ us hl => match us, hl with | [_, _], _ => rfl) rfl (fun cdv A outer s H E hr => ⟨_, _, (pss_cons (ps_set (i := 2) sc_law_ladder.nd rfl (Or.inl rfl) (pe_lstS pa_nil))
      (pss_cons (ps_for PassesOwn.never rfl (pi_range1 (by rfl) (by exact B.range) (pa_cons (pv 1) pa_nil)) (pg_name (i := 3) sc_law_ladder.nd rfl (Or.inl rfl)) (pss_cons (ps_set (i := 4) sc_law_ladder.nd rfl (Or.inl rfl) (pe_op op_mod (pe_op op_mul (pe_cal c_law_cell_at (hr.mono (by decide)) (by rfl) (pa_cons (pv 0) (pa_cons (pe_op op_add pe_int (pv 3)) pa_nil))) pe_int) pe_int))
      (pss_one (ps_expr (pe_bm PySem.F.plainAttrs_list PySem.F.slot_list_append PySem.F.type_list_append mt_append (pv 2) (pa_cons (pe_tupS (pa_cons (pe_op op_mod (pv 4) pe_int) (pa_cons (pe_op op_sub (pe_op op_mod (pe_op op_fdiv (pv 4) pe_int) pe_int) pe_int) (pa_cons (pe_op op_sub (pe_op op_mod (pe_op op_fdiv (pv 4) pe_int) pe_int) pe_int) (pa_cons (pe_op op_sub (pe_op op_mod (pe_op op_fdiv (pv 4) pe_int) pe_int) pe_int) (pa_cons (pe_op op_mod (pe_op op_fdiv (pv 4) pe_int) pe_int) pa_nil)))))) pa_nil))))))
      (pss_one (ps_ret (pe_callTy call_tupleS (by rfl) B.tuple PyProof.Rows.boot_tuple (pa_cons (pv 2) pa_nil)))))),
    (sS_seq (sS_set (sO_lst sAO_nil))
      (sS_seq (sS_for (sI_rng1 (sAB_cons sB_var sAB_nil)) sG_name (sS_seq (sS_set (sO_f (sF_op oS_i (sB_f (sF_op oS_i (sB_f (sF_o (sO_call (sAF_cons sF_var (sAF_cons (sF_op oS_i0 (sB_f sF_int) sB_var) sAF_nil))))) (sB_f sF_int))) (sB_f sF_int))))
      (sS_app (sO_f (sF_tup (sAF_cons (sF_op oS_i sB_var (sB_f sF_int)) (sAF_cons (sF_op oS_i0 (sB_f (sF_op oS_i (sB_f (sF_op oS_i sB_var (sB_f sF_int))) (sB_f sF_int))) (sB_f sF_int)) (sAF_cons (sF_op oS_i0 (sB_f (sF_op oS_i (sB_f (sF_op oS_i sB_var (sB_f sF_int))) (sB_f sF_int))) (sB_f sF_int)) (sAF_cons (sF_op oS_i0 (sB_f (sF_op oS_i (sB_f (sF_op oS_i sB_var (sB_f sF_int))) (sB_f sF_int))) (sB_f sF_int)) (sAF_cons (sF_op oS_i (sB_f (sF_op oS_i sB_var (sB_f sF_int))) (sB_f sF_int)) sAF_nil))))))))))
      (sS_frz 2 (sS_ret (sO_cb cO_tup (sAF_cons sF_var sAF_nil)))))), ?_⟩)
  rintro ds Pr ⟨ns, m, rfl, ⟨m0, m6⟩, k⟩
  walk_at "v"
  refine ⟨⟨by omega, by omega⟩, fun i δ => ∃ (o1 o2 : Option Sl) (fs : List Lf), δ = [vD (.lst (ns.map .int)), vI m, some (.own (.nl (fs.map fun f => .fz (lfD f)))), o1, o2] ∧ (∀ f ∈ fs, f.Ok) ∧ fs.length = i, ⟨none, none, [], rfl, (fun f hf => by cases hf), rfl⟩, ?_, ?_⟩
  · rintro i d δ hd ⟨o1, o2, fs, rfl, ok, hl⟩
    obtain ⟨hi, rfl⟩ := rng_inv hd
    walk_at "s"
    refine ⟨ns, _, rfl, by omega, ?_⟩
    walk_at "v"
    walk_at "n"
    generalize ns.getD _ 0 * 48271 % 2147483647 = c
    walk_at "v"
    refine ⟨by omega, vI (0 + (i : Int) * 1), vI c, fs ++ [lawLf c], ?_, ?_, by simp [hl]⟩
    · rw [List.map_append]; rfl
    · intro f hf
      rcases List.mem_append.mp hf with y | y
      · exact ok f y
      · rw [List.mem_singleton.mp y]; exact lawLf_ok c
  · rintro δ ⟨o1, o2, fs, rfl, ok, hl⟩
    rw [rng_len] at hl
    walk_at "v"
    simp only [List.map_map, Function.comp_def, OV.val]
    exact k fs ok (by omega)

/-! ### sheet -/
theorem cut_ints' (ns : List Int) (lo hi : Option Int) : ∃ ms : List Int, cutD (ns.map D.int) lo hi = ms.map D.int ∧ ms.length ≤ ns.length ∧ (∀ m ∈ ms, m ∈ ns) := by
  refine ⟨_, by unfold L2.cutD; rw [← List.map_drop, ← List.map_take], ?_, fun m hm => List.mem_of_mem_drop (List.mem_of_mem_take hm)⟩
  rw [List.length_take, List.length_drop]
  omega
/-- a slice from a to a + w has w things at most -/
theorem cut_len {ds : List D} {a w : Int} (h0 : 0 ≤ a) (w0 : 0 ≤ w) : (cutD ds (some a) (some (a + w))).length ≤ w.toNat := by
  unfold L2.cutD
  rw [List.length_take, List.length_drop]
  have e1 : HT.sIx ds.length 0 (some a) = min a.toNat ds.length := by
    have := HT.sIx_nat ds.length 0 a.toNat
    rwa [show ((a.toNat : Nat) : Int) = a by omega] at this
  have e2 : HT.sIx ds.length ds.length (some (a + w)) = min (a + w).toNat ds.length := by
    have := HT.sIx_nat ds.length ds.length (a + w).toNat
    rwa [show (((a + w).toNat : Nat) : Int) = a + w by omega] at this
  rw [e1, e2]
  omega
abbrev s_law_sheet : Stmt := top 22
theorem sc_law_sheet : FnScope ["_law_cells", "_law_wide", "_law_rows", "_law_start", "_law_row"] ["_law_cells", "_law_wide"] (defScope s_law_sheet) := ⟨rfl, rfl, rfl, by decide +kernel, rfl, by decide +kernel, by decide +kernel⟩
def sp_law_sheet : DSp := fun ds P => ∃ (ns : List Int) (w : Nat), ds = [.lst (ns.map .int), .int w] ∧ ns.length ≤ 64 ∧ (∀ m ∈ ns, ibN m ≤ 1048576) ∧ 0 < w ∧ w ≤ 64 ∧ ∀ (h : Nat) (e : Nat → Nat → Int), 0 < h → h ≤ 64 → P (.nl (shT D.int h w e))
theorem ok_law_sheet {f : Addr} {fd : FuncData} (Df : DefAt K mg "_law_sheet" s_law_sheet f fd) (B : BltV mg) (KV : KitV K) (c_law_number : Cal P w K mg base "_law_number" 1 ["_law_cell", "_law_k"] (spV K 2 sp_law_number)) :
    Cal P w K mg base "_law_sheet" 2 ["_law_cells", "_law_wide"] (spV K 2 sp_law_sheet) := by
  refine CalV.of Df sc_law_sheet (fun _ _ _ _ _ _ us hl => match us, hl with | [_, _], _ => rfl) rfl (fun cdv A outer s H E hr => ⟨_, _, (pss_cons (ps_set (i := 2) sc_law_sheet.nd rfl (Or.inl rfl) (pe_lstS pa_nil))
      (pss_cons (ps_for PassesOwn.never rfl (pi_range3 (by rfl) (by exact B.range) (pa_cons pe_int (pa_cons (pe_callB (call_max2 rfl) (by rfl) B.max boot_max (pa_cons pe_int (pa_cons (pe_callB call_len_seq (by rfl) B.len PySem.boot_len (pa_cons (pv 0) pa_nil)) pa_nil))) (pa_cons (pv 1) pa_nil)))) (pg_name (i := 3) sc_law_sheet.nd rfl (Or.inr rfl)) (pss_cons (ps_setComp (i := 4) sc_law_sheet.nd rfl (Or.inl rfl) rfl (pi_list (pe_slice sl_listS (pv 0) (po_some (pv 3)) (po_some (pe_op op_add (pv 3) (pv 1))))) (show BlkScope (defScope s_law_sheet) _ from ⟨rfl, by decide +kernel, by decide +kernel, by decide +kernel⟩) (N := ["_law_cell", "_law_start"]) (ix := [none, some 3]) (show CapOf _ _ _ _ from ⟨⟨rfl, rfl, .inl rfl⟩, trivial⟩) (fun _ _ _ => (pg_name (i := 0) (show List.Nodup (["_law_cell", "_law_start"] : List Str) by decide +kernel) rfl (Or.inl rfl))) (fun _ _ _ => (pe_cal c_law_number (hr.mono (by decide)) (by rfl) (pa_cons (pv 0) (pa_cons (pv 1) pa_nil)))))
      (pss_one (ps_expr (pe_bm PySem.F.plainAttrs_list PySem.F.slot_list_append PySem.F.type_list_append mt_append (pv 2) (pa_cons (pe_op op_catS (pv 4) (pe_comp rfl (pi_range1 (by rfl) (by exact B.range) (pa_cons (pe_op op_sub (pv 1) (pe_callB call_len_seq (by rfl) B.len PySem.boot_len (pa_cons (pv 4) pa_nil))) pa_nil)) (show BlkScope (defScope s_law_sheet) _ from ⟨rfl, by decide +kernel, by decide +kernel, by decide +kernel⟩) (N := ["_law_k", "_law_start"]) (ix := [none, some 3]) (show CapOf _ _ _ _ from ⟨⟨rfl, rfl, .inl rfl⟩, trivial⟩) (fun _ _ _ => (pg_name (i := 0) (show List.Nodup (["_law_k", "_law_start"] : List Str) by decide +kernel) rfl (Or.inl rfl))) (fun _ _ _ => (pe_op op_add (pv 1) (pv 0))))) pa_nil))))))
      (pss_one (ps_ret (pv 2))))),
    (sS_seq (sS_set (sO_lst sAO_nil))
      (sS_seq (sS_for (sI_rng3 (sAB_cons (sB_f sF_int) (sAB_cons (sB_f (sF_cb cS_max2 (sAB_cons (sB_f sF_int) (sAB_cons (sB_f (sF_cb cS_len (sAB_cons sB_var sAB_nil))) sAB_nil)))) (sAB_cons sB_var sAB_nil)))) sG_name (sS_seq (sS_set (sO_f (sF_o (sO_comp (sI_list (sF_o (sO_slL sF_var (sP_pt sB_var) (sP_pt (sB_f (sF_op oS_i0 sB_var sB_var)))))) sG_name (sO_call (sAF_cons sF_var (sAF_cons sF_var sAF_nil)))))))
      (sS_app (sO_catL sF_var (sF_o (sO_comp (sI_rng1 (sAB_cons (sB_f (sF_op oS_i0 sB_var (sB_f (sF_cb cS_len (sAB_cons sB_var sAB_nil))))) sAB_nil)) sG_name (sO_f (sF_op oS_i0 sB_var sB_var))))))))
      sS_retV)), ?_⟩)
  rintro ds Pr ⟨ns, w, rfl, hl, hb, w0, w1, k⟩
  walk_at "s"
  walk_at "n"
  walk_at "v"
  generalize hM : max (1 : Int) (ns.length : Int) = M
  have hM1 : 1 ≤ M ∧ M ≤ 64 := by omega
  have hcnt : 0 < rngN 0 M w := by rw [rngN_lt (by omega)]; omega
  have hcnt2 : rngN 0 M w ≤ 64 := by
    rcases Nat.lt_or_ge 64 (rngN 0 M w) with q | q
    · have := (rngN_lt (lo := 0) (hi := M) (c := (w : Int)) (by omega) 64).mp q
      have h2 : (64 : Int) * 1 ≤ 64 * (w : Int) := Int.mul_le_mul_of_nonneg_left (by omega) (by omega)
      omega
    · exact q
  refine ⟨⟨by omega, by omega, by omega, by omega⟩, fun n δ => ∃ (o1 o2 : Option Sl) (e : Nat → Nat → Int), δ = [vD (.lst (ns.map .int)), vI w, some (.own (.nl (shT D.int n w e))), o1, o2], ⟨none, none, fun _ _ => 0, rfl⟩, ?_, ?_⟩
  · rintro n d δ hd ⟨o1, o2, e, rfl⟩
    obtain ⟨hi, rfl⟩ := rng_inv hd
    have hs0 : 0 ≤ (n : Int) * (w : Int) := Int.mul_nonneg (by omega) (by omega)
    rw [Int.zero_add]
    generalize (n : Int) * (w : Int) = st at hs0
    walk_at "s"
    obtain ⟨ms, hm, hml, hmm⟩ := cut_ints' ns (some st) (some (st + w))
    have hmw : ms.length ≤ w := by
      have := cut_len (ds := ns.map D.int) (a := st) (w := w) hs0 (by omega)
      rw [hm, List.length_map] at this
      omega
    simp only [hm, fz_int, val_fzI]
    refine ⟨fun i δ ts => ∃ (o : Option Sl) (zs : List Int), δ = [o, vI st] ∧ ts = zs.map (fun x => .fz (.int x)) ∧ zs.length = i, ⟨_, [], rfl, rfl, rfl⟩, ?_, ?_⟩
    · rintro i d δ ts hd ⟨o, zs, rfl, rfl, hz⟩
      obtain ⟨x, hx, rfl⟩ := mget hd
      have hi' := (List.getElem?_eq_some_iff.mp hx).1
      walk_at "v"
      refine ⟨by omega, x, st, rfl, hb x (hmm x (List.mem_of_getElem? hx)), fun y => ?_⟩
      exact ⟨_, zs ++ [y], rfl, by rw [List.map_append]; rfl, by simp [hz]⟩
    rintro δ ts ⟨o, zs, rfl, rfl, hz⟩
    rw [List.length_map] at hz
    walk_at "v"
    walk_at "n"
    walk_at "v"
    have hle : (shT D.int n w e).length = n := by rw [shT, tab_len]
    refine ⟨by omega, ⟨by omega, by omega⟩, ?_⟩
    refine CmpW.rng (fun i => .fz (.int (st + (0 + (i : Int) * 1)))) (by omega) (fun i hi' Q q => ?_) ?_
    · walk_at "v"
      exact q
    · walk_at "v"
      simp only [List.map_map, Function.comp_def, OV.val]
      refine ⟨by rw [List.length_range]; omega, ?_⟩
      have hrow : (zs.map D.int ++ (List.range ((w : Int) - (zs.length : Int)).toNat).map fun (i : Nat) => D.int (st + (0 + (i : Int) * 1))) = (zs ++ (List.range ((w : Int) - (zs.length : Int)).toNat).map fun (i : Nat) => st + (0 + (i : Int) * 1)).map D.int := by
        rw [List.map_append, List.map_map]; rfl
      have hrl : (zs ++ (List.range ((w : Int) - (zs.length : Int)).toNat).map fun (i : Nat) => st + (0 + (i : Int) * 1)).length = w := by
        rw [List.length_append, List.length_map, List.length_range]; omega
      rw [hrow]
      generalize (zs ++ (List.range ((w : Int) - (zs.length : Int)).toNat).map fun (i : Nat) => st + (0 + (i : Int) * 1)) = row at hrl
      refine ⟨vI st, vD (.lst (zs.map D.int)), fun i j => if i = n then row.getD j 0 else e i j, ?_⟩
      have es : shT D.int n w e ++ [.nl ((row.map D.int).map .fz)] = shT D.int (n + 1) w fun i j => if i = n then row.getD j 0 else e i j := by
        unfold shT
        unfold tab
        rw [List.range_succ, List.map_append]
        congr 1
        · refine List.map_congr_left fun i hi' => ?_
          have := List.mem_range.mp hi'
          simp only [show ¬ i = n by omega, if_false]
        · simp only [List.map_cons, List.map_nil, if_true]
          congr 2
          have := tab_selfn (0 : Int) hrl
          conv => lhs; rw [← this]
          unfold tab
          rw [List.map_map, List.map_map]
          rfl
      rw [es]
  · rintro δ ⟨o1, o2, e, rfl⟩
    rw [rng_len]
    walk_at "v"
    exact k _ e hcnt hcnt2

theorem fit_shV {h w : Nat} {e : Nat → Nat → Int} : (D.lst (shV D.int h w e)).fit 4 = true := by
  simp [D.fit, shV, tab]
theorem bools_true {n : Nat} : ((List.range n).map fun _ => true).all id = true := by simp
theorem kept_shI {h w : Nat} {e : Nat → Nat → Int} {Eo : DO} {o : Option Sl} {rest : Dst} {P : OV → Prop} (hh : h ≤ 1000) (hE : ∀ i, i < h → ∀ Q : OV → Prop, Q (.nl (tab w fun j => .fz (.int (e i j)))) → Eo (some (.own (.fz (.lst (tab w fun j => .int (e i j))))) :: rest) Q) (k : P (.nl (shT D.int h w e))) : CmpW (gN 0) Eo (shV D.int h w e) (o :: rest) P :=
  CmpW.map (List.range h) (fun i => D.lst (tab w fun j => D.int (e i j))) (fun i => .nl (tab w fun j => .fz (.int (e i j)))) (by simp; omega) (fun i hi Q q => hE i (List.mem_range.mp hi) Q q) k
theorem lf_shT {h w : Nat} {e : Nat → Nat → Int} : OV.lf (.nl (shT D.int h w e)) = true := by
  simp [OV.lf, OV.lfs_eq, shT, tab, D.lf]
theorem ix0_shT {α : Type} {g : α → D} {h w : Nat} {e : Nat → Nat → α} (h0 : 0 < h) : ixN (shT g h w e).length 0 = some 0 := by
  rw [shT, tab_len]
  exact ixN_in (n := h) (i := 0) (by decide) (by omega)
theorem put0 {α : Type} {g : α → D} {h w : Nat} {e : Nat → Nat → α} {v : α} : (shT g h w e).set 0 (.nl ((tab w fun j => OV.fz (g (e 0 j))).set 0 (.fz (g v)))) = shT g h w fun i j => if i = 0 ∧ j = 0 then v else e i j := by
  unfold shT
  rw [tab_set]
  refine tab_ext fun i hi => ?_
  by_cases q : i = 0
  · subst q
    rw [if_pos rfl, tab_set]
    congr 1
    refine tab_ext fun j hj => ?_
    dsimp only
    by_cases y : j = 0
    · rw [if_pos y, if_pos (show 0 = 0 ∧ j = 0 from ⟨rfl, y⟩)]
    · rw [if_neg y, if_neg (show ¬ (0 = 0 ∧ j = 0) from fun z => y z.2)]
  · rw [if_neg q]
    congr 1
    refine tab_ext fun j hj => ?_
    dsimp only
    rw [if_neg (show ¬ (i = 0 ∧ j = 0) from fun z => q z.1)]
theorem ixN_last {n h : Nat} (e : n = h) (h0 : 0 < h) : ixN n (-1) = some (h - 1) := by
  subst e
  unfold ixN
  rw [if_neg (by decide)]
  try rw [if_pos (by omega)]
  simp
  omega
theorem cut_shV {h w : Nat} {e : Nat → Nat → Int} (h0 : 0 < h) : cutD (shV D.int h w e) (some 1) none = shV D.int (h - 1) w fun i j => e (i + 1) j := by
  unfold L2.cutD shV
  rw [tab_len]
  have e1 : HT.sIx h 0 (some 1) = 1 := by
    have := HT.sIx_nat h 0 1
    rw [show min 1 h = 1 by omega] at this
    exact this
  have e2 : HT.sIx h h none = h := rfl
  rw [e1, e2]
  refine List.ext_getElem? fun i => ?_
  rw [List.getElem?_take, List.getElem?_drop]
  by_cases q : i < h - 1
  · rw [if_pos (by omega), tab_get (by omega), tab_get q, Nat.add_comm 1 i]
  · rw [if_neg (by omega), List.getElem?_eq_none (by rw [tab_len]; omega)]
theorem tab_snoc {β : Type} {n : Nat} {f : Nat → β} {x : β} : tab n f ++ [x] = tab (n + 1) fun i => if i = n then x else f i := by
  unfold tab
  rw [List.range_succ, List.map_append]
  congr 1
  · refine List.map_congr_left fun i hi => ?_
    have := List.mem_range.mp hi
    rw [if_neg (by omega)]
  · simp
theorem aboutI {h w : Nat} {e : Nat → Nat → Int} : (tab h fun i => OV.fz (.lst (tab w fun j => .int (e i j)))).map OV.val = shV D.int h w e := by
  rw [tab_map]; rfl
abbrev s_law_great : Stmt := top 23
theorem sc_law_great : FnScope ["_law_cells", "_law_cell", "_law_rows", "_law_wide", "_law_i", "_law_row", "_law_j", "_law_one"] ["_law_cells", "_law_cell"] (defScope s_law_great) := ⟨rfl, rfl, rfl, by decide +kernel, rfl, by decide +kernel, by decide +kernel⟩
def sp_law_great : DSp := fun ds P => ∃ (ns : List Int) (c : Int), ds = [.lst (ns.map .int), .int c] ∧ ∀ (h w : Nat) (e : Nat → Nat → Int), 0 < h → h ≤ 64 → 0 < w → w ≤ 64 → P (.nl (tab h fun i => .fz (.lst (tab w fun j => .int (e i j)))))
theorem ok_law_great {f : Addr} {fd : FuncData} (Df : DefAt K mg "_law_great" s_law_great f fd) (B : BltV mg) (KV : KitV K) :
    Cal P w K mg base "_law_great" 1 ["_law_cells", "_law_cell"] (spV K 2 sp_law_great) := by
  refine CalV.of Df sc_law_great (fun _ _ _ _ _ _ us hl => match us, hl with | [_, _], _ => rfl) rfl (fun cdv A outer s H E hr => ⟨_, _, (pss_cons (ps_set (i := 2) sc_law_great.nd rfl (Or.inl rfl) (pe_lstS pa_nil))
      (pss_cons (ps_set (i := 3) sc_law_great.nd rfl (Or.inl rfl) (pe_op op_add pe_int (pe_op op_mod (pe_op op_fdiv (pv 1) pe_int) pe_int)))
      (pss_cons (ps_for PassesOwn.never rfl (pi_range1 (by rfl) (by exact B.range) (pa_cons (pe_op op_add pe_int (pe_op op_mod (pv 1) pe_int)) pa_nil)) (pg_name (i := 4) sc_law_great.nd rfl (Or.inl rfl)) (pss_cons (ps_set (i := 5) sc_law_great.nd rfl (Or.inl rfl) (pe_lstS pa_nil))
      (pss_cons (ps_for PassesOwn.never rfl (pi_range1 (by rfl) (by exact B.range) (pa_cons (pv 3) pa_nil)) (pg_name (i := 6) sc_law_great.nd rfl (Or.inl rfl)) (pss_cons (ps_set (i := 7) sc_law_great.nd rfl (Or.inl rfl) (pe_slice sl_listS (pe_slice sl_listS (pv 0) (po_some (pe_op op_mod (pe_op op_add (pe_op op_mul (pv 4) (pv 3)) (pv 6)) (pe_callB (call_max2 rfl) (by rfl) B.max boot_max (pa_cons pe_int (pa_cons (pe_callB call_len_seq (by rfl) B.len PySem.boot_len (pa_cons (pv 0) pa_nil)) pa_nil))))) po_none) po_none (po_some pe_int)))
      (pss_one (ps_expr (pe_bm PySem.F.plainAttrs_list PySem.F.slot_list_append PySem.F.type_list_append mt_append (pv 5) (pa_cons (pe_op op_sub (pe_op op_mod (pe_op op_mod (pe_op op_mul (pe_op op_add (pe_op op_add (pe_op op_mul (pe_callB call_sumI (by rfl) B.sum boot_sum (pa_cons (pv 7) pa_nil)) (pe_op op_add pe_int (pv 4))) (pe_op op_mul pe_int (pv 4))) (pe_op op_mul (pv 6) (pv 6))) pe_int) pe_int) pe_int) pe_int) pa_nil))))))
      (pss_one (ps_expr (pe_bm PySem.F.plainAttrs_list PySem.F.slot_list_append PySem.F.type_list_append mt_append (pv 2) (pa_cons (pv 5) pa_nil)))))))
      (pss_one (ps_ret (pv 2)))))),
    (sS_seq (sS_set (sO_lst sAO_nil))
      (sS_seq (sS_set (sO_f (sF_op oS_i0 (sB_f sF_int) (sB_f (sF_op oS_i (sB_f (sF_op oS_i sB_var (sB_f sF_int))) (sB_f sF_int))))))
      (sS_seq (sS_for (sI_rng1 (sAB_cons (sB_f (sF_op oS_i0 (sB_f sF_int) (sB_f (sF_op oS_i sB_var (sB_f sF_int))))) sAB_nil)) sG_name (sS_seq (sS_set (sO_lst sAO_nil))
      (sS_seq (sS_for (sI_rng1 (sAB_cons sB_var sAB_nil)) sG_name (sS_seq (sS_set (sO_f (sF_o (sO_slL (sF_o (sO_slL sF_var (sP_pt (sB_f (sF_op oS_i (sB_f (sF_op oS_i0 (sB_f (sF_op oS_i sB_var sB_var)) sB_var)) (sB_f (sF_cb cS_max2 (sAB_cons (sB_f sF_int) (sAB_cons (sB_f (sF_cb cS_len (sAB_cons sB_var sAB_nil))) sAB_nil))))))) sP_no)) sP_no (sP_pt (sB_f sF_int))))))
      (sS_app (sO_f (sF_op oS_i0 (sB_f (sF_op oS_i (sB_f (sF_op oS_i (sB_f (sF_op oS_i (sB_f (sF_op oS_i0 (sB_f (sF_op oS_i0 (sB_f (sF_op oS_i (sB_f (sF_cb cS_sum (sAB_cons sB_var sAB_nil))) (sB_f (sF_op oS_i0 (sB_f sF_int) sB_var)))) (sB_f (sF_op oS_i (sB_f sF_int) sB_var)))) (sB_f (sF_op oS_i sB_var sB_var)))) (sB_f sF_int))) (sB_f sF_int))) (sB_f sF_int))) (sB_f sF_int))))))
      (sS_frz 5 (sS_app (sO_f sF_var))))))
      sS_retV))), ?_⟩)
  rintro ds Pr ⟨ns, c, rfl, k⟩
  walk_at "v"
  generalize hwi : 9 + c / 8 % 8 = wi
  obtain ⟨w, rfl⟩ : ∃ w : Nat, wi = w := ⟨wi.toNat, by omega⟩
  generalize hhi : 9 + c % 8 = hi
  obtain ⟨h, rfl⟩ : ∃ h : Nat, hi = h := ⟨hi.toNat, by omega⟩
  have hw : 0 < w ∧ w ≤ 64 := by omega
  have hh : 0 < h ∧ h ≤ 64 := by omega
  clear hwi hhi
  refine ⟨⟨by omega, by omega⟩, fun n δ => ∃ (e : Nat → Nat → Int) (o4 o5 o6 o7 : Option Sl), δ = [vD (.lst (ns.map .int)), vI c, some (.own (.nl (tab n fun i => .fz (.lst (tab w fun j => .int (e i j)))))), vI w, o4, o5, o6, o7], ⟨fun _ _ => 0, none, none, none, none, rfl⟩, ?_, ?_⟩
  · rintro n d δ hd ⟨e, o4, o5, o6, o7, rfl⟩
    obtain ⟨hn, rfl⟩ := rng_inv hd
    rw [show (0 + (n : Int) * 1) = (n : Int) by omega]
    walk_at "v"
    refine ⟨⟨by omega, by omega⟩, fun m δ => ∃ (g : Nat → Int) (o6 o7 : Option Sl), δ = [vD (.lst (ns.map .int)), vI c, some (.own (.nl (tab n fun i => .fz (.lst (tab w fun j => .int (e i j)))))), vI w, vI n, some (.own (.nl (tab m fun j => .fz (.int (g j))))), o6, o7], ⟨fun _ => 0, o6, o7, rfl⟩, ?_, ?_⟩
    · rintro m d δ hd' ⟨g, o6, o7, rfl⟩
      obtain ⟨hm, rfl⟩ := rng_inv hd'
      rw [show (0 + (m : Int) * 1) = (m : Int) by omega]
      walk_at "s"
      generalize hq : ((n : Int) * (w : Int) + (m : Int)) % max 1 (ns.length : Int) = q
      obtain ⟨ms, hms, _, _⟩ := cut_ints' ns (some q) none
      simp only [hms, fz_int, val_fzI]
      obtain ⟨ls, hls, _, _⟩ := cut_ints' ms none (some 1)
      simp only [hls, fz_int, val_fzI]
      refine ⟨.inl ⟨by omega, by omega⟩, by omega, ?_⟩
      walk_at "n"
      walk_at "v"
      refine ⟨by rw [tab_len]; omega, ls, rfl, .inr ⟨by omega, by omega⟩, .inl ⟨by omega, by omega⟩, ?_⟩
      generalize (ls.sum * (17 + (n : Int)) + 31 * (n : Int) + (m : Int) * (m : Int)) * 48271 % 65537 % 399 - 199 = x
      refine ⟨fun j => if j = m then x else g j, ?_⟩
      rw [tab_snoc]
      have et : (tab (m + 1) fun i => if i = m then OV.fz (D.int x) else OV.fz (D.int (g i))) = tab (m + 1) fun j => OV.fz (D.int (if j = m then x else g j)) := tab_ext fun i _ => by
        by_cases z : i = m
        · rw [if_pos z, if_pos z]
        · rw [if_neg z, if_neg z]
      rw [et]
      exact ⟨_, _, rfl⟩
    · rintro δ ⟨g, o6, o7, rfl⟩
      rw [rng_len]
      rw [show ((w : Int)).toNat = w by omega]
      walk_at "v"
      refine ⟨by rw [tab_len]; omega, fun i j => if i = n then g j else e i j, ?_⟩
      rw [tab_snoc]
      have et : (tab (n + 1) fun i => if i = n then OV.fz (D.lst (List.map OV.val (tab w fun j => OV.fz (D.int (g j))))) else OV.fz (D.lst (tab w fun j => D.int (e i j)))) = tab (n + 1) fun i => OV.fz (D.lst (tab w fun j => D.int (if i = n then g j else e i j))) := tab_ext fun i _ => by
        by_cases z : i = n
        · simp only [if_pos z, tab_map, OV.val]
        · simp only [if_neg z]
      rw [et]
      exact ⟨_, _, _, _, rfl⟩
  · rintro δ ⟨e, o4, o5, o6, o7, rfl⟩
    rw [rng_len, show ((h : Int)).toNat = h by omega]
    walk_at "v"
    exact k h w e hh.1 hh.2 hw.1 hw.2
abbrev s_law_numbers : Stmt := top 24
theorem sc_law_numbers : FnScope ["_law_found", "_law_high", "_law_wide", "_law_row"] ["_law_found", "_law_high", "_law_wide"] (defScope s_law_numbers) := ⟨rfl, rfl, rfl, by decide +kernel, rfl, by decide +kernel, by decide +kernel⟩
def sp_law_numbers : DSp := fun ds P => ∃ (h w : Nat) (e : Nat → Nat → Int), ds = [shI h w e, .int h, .int w] ∧ h ≤ 1000 ∧ w ≤ 1000 ∧ P (.fz (.bl true))
theorem ok_law_numbers {f : Addr} {fd : FuncData} (Df : DefAt K mg "_law_numbers" s_law_numbers f fd) (B : BltV mg) (KV : KitV K) :
    Cal P w K mg base "_law_numbers" 1 ["_law_found", "_law_high", "_law_wide"] (spV K 3 sp_law_numbers) := by
  refine CalV.of Df sc_law_numbers (fun _ _ _ _ _ _ us hl => match us, hl with | [_, _, _], _ => rfl) rfl (fun cdv A outer s H E hr => ⟨_, _, (pss_cons (ps_if (pw_or (pt_not (pt_val (pe_callB call_isiD (by rfl) B.isinstance boot_isinstance (pa_cons (pv 0) (pa_cons (pe_bltn (v := .ty "list") (by rfl) B.list PyProof.Rows.boot_list (by rfl)) pa_nil))))) (pw_or1 (pt_cmpR op_ne (pe_callB call_len_seq (by rfl) B.len PySem.boot_len (pa_cons (pv 0) pa_nil)) (pv 1) (nomark _)))).pt (pss_one (ps_ret pe_bl)) pss_nil)
      (pss_cons (ps_for PassesOwn.never rfl (pi_list (pv 0)) (pg_name (i := 3) sc_law_numbers.nd rfl (Or.inl rfl)) (pss_cons (ps_if (pw_or (pt_not (pt_val (pe_callB call_isiD (by rfl) B.isinstance boot_isinstance (pa_cons (pv 3) (pa_cons (pe_bltn (v := .ty "list") (by rfl) B.list PyProof.Rows.boot_list (by rfl)) pa_nil))))) (pw_or1 (pt_cmpR op_ne (pe_callB call_len_seq (by rfl) B.len PySem.boot_len (pa_cons (pv 3) pa_nil)) (pv 2) (nomark _)))).pt (pss_one (ps_ret pe_bl)) pss_nil)
      (pss_one (ps_if (pt_not (pt_val (pe_callB (call_allB rfl) (by rfl) B.all boot_all (pa_cons (pe_comp rfl (pi_list (pv 3)) (show BlkScope (defScope s_law_numbers) _ from ⟨rfl, by decide +kernel, by decide +kernel, by decide +kernel⟩) (N := ["_law_x"]) (ix := [none]) (show CapOf _ _ _ _ from trivial) (fun _ _ _ => (pg_name (i := 0) (show List.Nodup (["_law_x"] : List Str) by decide +kernel) rfl (Or.inl rfl))) (fun _ _ _ => (pe_and (pe_callB call_isiD (by rfl) B.isinstance boot_isinstance (pa_cons (pv 0) (pa_cons (pe_bltn (v := .ty "int") (by rfl) B.int PyProof.Rows.boot_int (by rfl)) pa_nil))) (pe_one (pe_not (pe_callB call_isiD (by rfl) B.isinstance boot_isinstance (pa_cons (pv 0) (pa_cons (pe_bltn (v := .ty "bool") (by rfl) B.bool PyProof.Rows.boot_bool (by rfl)) pa_nil)))))))) pa_nil)))) (pss_one (ps_ret pe_bl)) pss_nil))))
      (pss_one (ps_ret pe_bl)))),
    (sS_seq (sS_if (sT_or (sT_not (sT_b (sF_cb (cS_isi KV) (sAB_cons sB_var (sAB_cons (sB_f sF_ty) sAB_nil))))) (sT_test (sF_op oS_ne (sB_f (sF_cb cS_len (sAB_cons sB_var sAB_nil))) sB_var))) (sS_ret (sO_f sF_bl)) sS_next)
      (sS_seq (sS_for (sI_list sF_var) sG_name (sS_seq (sS_if (sT_or (sT_not (sT_b (sF_cb (cS_isi KV) (sAB_cons sB_var (sAB_cons (sB_f sF_ty) sAB_nil))))) (sT_test (sF_op oS_ne (sB_f (sF_cb cS_len (sAB_cons sB_var sAB_nil))) sB_var))) (sS_ret (sO_f sF_bl)) sS_next)
      (sS_if (sT_not (sT_b (sF_cb cS_all (sAB_cons (sB_f (sF_o (sO_comp (sI_list sF_var) sG_name (sO_f (sF_andV (sF_cb (cS_isi KV) (sAB_cons sB_var (sAB_cons (sB_f sF_ty) sAB_nil))) (sF_notV (sF_cb (cS_isi KV) (sAB_cons sB_var (sAB_cons (sB_f sF_ty) sAB_nil))))))))) sAB_nil)))) (sS_ret (sO_f sF_bl)) sS_next)))
      (sS_ret (sO_f sF_bl)))), ?_⟩)
  rintro ds Pr ⟨h, w, e, rfl, hh, hw, k⟩
  simp only [shI]
  have hS : (shV D.int h w e).length = h := by rw [shV, tab_len]
  walk_at "v"
  simp only [hS, decide_true, Bool.not_true, Bool.false_eq_true, if_false]
  refine ⟨fun n δ => ∃ (o3 : Option Sl), δ = [vD (.lst (shV D.int h w e)), vI h, vI w, o3], ⟨none, rfl⟩, ?_, ?_⟩
  · rintro n d δ hd ⟨o3, rfl⟩
    obtain ⟨i, hi, rfl⟩ := mget (xs := List.range h) (f := fun i => D.lst (tab w fun j => D.int (e i j))) hd
    walk_at "v"
    simp only [tab_len, decide_true, Bool.not_true, Bool.false_eq_true, if_false]
    refine CmpW.map (List.range w) (fun j => D.int (e i j)) (fun _ => .fz (.bl true)) (by simp; omega) (fun j hj Q q => ?_) ?_
    · walk_at "v"
      exact q
    walk_at "v"
    refine ⟨(List.range w).map fun _ => true, by simp only [List.map_map, Function.comp_def, OV.val], ?_⟩
    rw [bools_true]
    walk_at "v"
    exact ⟨_, rfl⟩
  · rintro δ ⟨o3, rfl⟩
    walk_at "v"
    exact k
abbrev s_law_apart : Stmt := top 25
theorem sc_law_apart : FnScope ["_law_some", "_law_behind"] ["_law_some"] (defScope s_law_apart) := ⟨rfl, rfl, rfl, by decide +kernel, rfl, by decide +kernel, by decide +kernel⟩
def sp_law_apart : DMV := fun ts ds P => ∃ (h w : Nat) (e : Nat → Nat → Int), ts = shT D.int h w e ∧ ds = [] ∧ 0 < h ∧ h ≤ 1000 ∧ 0 < w ∧ w ≤ 1000 ∧ P (.fz (.bl true))
theorem ok_law_apart {f : Addr} {fd : FuncData} (Df : DefAt K mg "_law_apart" s_law_apart f fd) (B : BltV mg) (KV : KitV K) :
    Cal P w K mg base "_law_apart" 1 ["_law_some"] (spMV K 1 sp_law_apart) := by
  refine CalMV.of Df sc_law_apart (fun _ _ _ _ _ _ us hl => match us, hl with | [_], _ => rfl) rfl (fun cdv A outer s H E hr => ⟨_, _, (pss_cons (ps_setComp (i := 1) sc_law_apart.nd rfl (Or.inl rfl) rfl (pi_list (pe_slice sl_listS (pv 0) (po_some pe_int) po_none)) (show BlkScope (defScope s_law_apart) _ from ⟨rfl, by decide +kernel, by decide +kernel, by decide +kernel⟩) (N := ["_law_row"]) (ix := [none]) (show CapOf _ _ _ _ from trivial) (fun _ _ _ => (pg_name (i := 0) (show List.Nodup (["_law_row"] : List Str) by decide +kernel) rfl (Or.inl rfl))) (fun _ _ _ => (pe_callTy call_listS (by rfl) B.list PyProof.Rows.boot_list (pa_cons (pv 0) pa_nil))))
      (pss_cons (ps_augS (pe_ix ix_list (pv 0) pe_int (fun _ _ => rfl)) pe_int get_listV pe_int ip_add set_list)
      (pss_cons (ps_if (pt_cmpR (op_neN hr.units) (pe_slice sl_listS (pv 0) (po_some pe_int) po_none) (pv 1) (nomark _)) (pss_one (ps_ret pe_bl)) pss_nil)
      (pss_cons (ps_expr (pe_bm PySem.F.plainAttrs_list PySem.F.slot_list_append PySem.F.type_list_append mt_append (pe_ix ix_list (pv 0) (pe_un un_neg pe_int) (fun _ _ => rfl)) (pa_cons pe_int pa_nil)))
      (pss_cons (ps_expr (pe_bm PySem.F.plainAttrs_list PySem.F.slot_list_append PySem.F.type_list_append mt_append (pv 0) (pa_cons (pe_lstS pa_nil) pa_nil)))
      (pss_one (ps_ret pe_bl))))))),
    (sS_seq (sS_set (sO_f (sF_o (sO_compB (sB_slL sB_var (sP_pt (sB_f sF_int)) sP_no) (sO_listB (sAB_cons sB_var sAB_nil))))))
      (sS_seq (sS_augI2 (sB_f sF_int) (sB_f sF_int) (sB_f sF_int))
      (sS_seq (sS_if (sT_test (sF_op oS_neN (sB_slL sB_var (sP_pt (sB_f sF_int)) sP_no) sB_var)) (sS_ret (sO_f sF_bl)) sS_next)
      (sS_seq (sS_app2N (sB_f (sF_neg (sB_f sF_int))) (sO_f sF_int))
      (sS_seq (sS_app (sO_lst sAO_nil))
      (sS_ret (sO_f sF_bl))))))), ?_⟩)
  rintro ts ds Pr ⟨h, w, e, rfl, rfl, h0, hh, w0, hw, k⟩
  walk_at "s"
  rw [shT_val, cut_shV h0]
  refine CmpW.mapB (List.range (h - 1)) (fun i => D.lst (tab w fun j => D.int (e (i + 1) j))) (fun i => .nl (tab w fun j => .fz (.int (e (i + 1) j)))) (by simp; omega) (fun i hi Q q => ?_) ?_
  · walk_at "v"
    refine ⟨by simp [D.lfs_eq, tab, D.lf], ?_⟩
    rw [tab_map]
    exact q
  walk_at "v"
  walk_at "n"
  have eb : List.map OV.val (List.map (fun i => OV.nl (tab w fun j => OV.fz (D.int (e (i + 1) j)))) (List.range (h - 1))) = shV D.int (h - 1) w fun i j => e (i + 1) j := by
    rw [List.map_map]
    unfold shV
    refine List.map_congr_left fun i _ => ?_
    simp only [Function.comp_def, OV.val, OV.vals_eq, tab_map]
  rw [eb]
  walk_at "s"
  refine ⟨0, _, ix0_shT h0, tab_get h0, _, tab_get w0, ?_⟩
  rw [put0]
  have hX : ∀ i j, (fun i j => if i = 0 ∧ j = 0 then e 0 0 + 1 else e i j) (i + 1) j = e (i + 1) j := fun i j => if_neg fun z => by omega
  generalize (fun i j => if i = 0 ∧ j = 0 then e 0 0 + 1 else e i j) = eX at hX
  walk_at "n"
  walk_at "s"
  rw [shT_val, cut_shV h0, shV_ext (e := fun i j => eX (i + 1) j) (e' := fun i j => e (i + 1) j) (fun i j _ _ => hX i j)]
  simp only [fit_shV, D.eqb_refl (n := 4) fit_shV, true_and, Bool.not_true, Bool.false_eq_true, if_false]
  walk_at "n"
  walk_at "s"
  refine ⟨h - 1, _, ixN_last (by rw [shT, tab_len]) h0, tab_get (by omega), by rw [tab_len]; omega, ?_⟩
  walk_at "n"
  walk_at "v"
  rw [List.length_set, show (shT D.int h w eX).length = h by rw [shT, tab_len]]
  exact ⟨by omega, k⟩
theorem cut_lads (fs : List Lf) (lo hi : Option Int) : ∃ gs : List Lf, cutD (fs.map lfD) lo hi = gs.map lfD ∧ (∀ g ∈ gs, g ∈ fs) := by
  refine ⟨_, by unfold L2.cutD; rw [← List.map_drop, ← List.map_take], fun m hm => List.mem_of_mem_drop (List.mem_of_mem_take hm)⟩
abbrev s_law : Stmt := top 26
theorem sc_law : FnScope ["_law_script", "_law_first", "_law_many", "_law_ladder_here", "_law_wide", "_law_levels", "_law_sheet_here", "_law_kept", "_law_wave", "_law_held", "_law_back", "_law_other", "_law_beside", "_law_last", "_law_some"] ["_law_script"] (defScope s_law) := ⟨rfl, rfl, rfl, by decide +kernel, rfl, by decide +kernel, by decide +kernel⟩
theorem ok_law {f : Addr} {fd : FuncData} (Df : DefAt K mg "law" s_law f fd) (B : BltV mg) (KV : KitV K) (c_law_cell_at : Cal P w K mg base "_law_cell_at" 1 ["_law_script", "_law_k"] (spV K 2 sp_law_cell_at)) (c_law_ladder : Cal P w K mg base "_law_ladder" 2 ["_law_script", "_law_many"] (spV K 2 sp_law_ladder)) (c_law_sheet : Cal P w K mg base "_law_sheet" 2 ["_law_cells", "_law_wide"] (spV K 2 sp_law_sheet)) (c_law_great : Cal P w K mg base "_law_great" 1 ["_law_cells", "_law_cell"] (spV K 2 sp_law_great)) (c_laid : Cal P w K mg base "laid" 5 ["picture", "ladder", "levels"] (spV K 3 sp_laid)) (c_law_numbers : Cal P w K mg base "_law_numbers" 1 ["_law_found", "_law_high", "_law_wide"] (spV K 3 sp_law_numbers)) (c_opened : CalD P w K mg base "opened" 6 ["wave", "ladder", "levels", "down"] (spV K 4 sp_opened) [.int 0]) (c_law_apart : Cal P w K mg base "_law_apart" 1 ["_law_some"] (spMV K 1 sp_law_apart)) :
    FnOk P w K mg base CX0 7 f fd ["_law_script"] (spLawB K) := by
  refine law_okB Df sc_law (fun cdv A outer s H E hr => ⟨_, _, (pss_cons (ps_set (i := 1) sc_law.nd rfl (Or.inl rfl) (pe_cal c_law_cell_at (hr.mono (by decide)) (by rfl) (pa_cons (pv 0) (pa_cons pe_int pa_nil))))
      (pss_cons (ps_set (i := 2) sc_law.nd rfl (Or.inl rfl) (pe_op op_mod (pv 1) pe_int))
      (pss_cons (ps_if (pt_cmpR op_eq (pe_op op_mod (pe_op op_fdiv (pv 1) pe_int) pe_int) pe_int (nomark _)) (pss_one (ps_set (i := 2) sc_law.nd rfl (Or.inl rfl) (pe_op op_mod (pe_op op_fdiv (pv 1) pe_int) pe_int))) pss_nil)
      (pss_cons (ps_set (i := 3) sc_law.nd rfl (Or.inl rfl) (pe_cal c_law_ladder (hr.mono (by decide)) (by rfl) (pa_cons (pv 0) (pa_cons (pv 2) pa_nil))))
      (pss_cons (ps_set (i := 4) sc_law.nd rfl (Or.inl rfl) (pe_op op_add pe_int (pe_op op_mod (pe_cal c_law_cell_at (hr.mono (by decide)) (by rfl) (pa_cons (pv 0) (pa_cons pe_int pa_nil))) pe_int)))
      (pss_cons (ps_if (pt_cmpR op_eq (pe_op op_mod (pe_op op_fdiv (pe_cal c_law_cell_at (hr.mono (by decide)) (by rfl) (pa_cons (pv 0) (pa_cons pe_int pa_nil))) pe_int) pe_int) pe_int (nomark _)) (pss_one (ps_set (i := 4) sc_law.nd rfl (Or.inl rfl) pe_int)) pss_nil)
      (pss_cons (ps_set (i := 5) sc_law.nd rfl (Or.inl rfl) (pe_op op_mod (pe_cal c_law_cell_at (hr.mono (by decide)) (by rfl) (pa_cons (pv 0) (pa_cons pe_int pa_nil))) pe_int))
      (pss_cons (ps_set (i := 6) sc_law.nd rfl (Or.inl rfl) (pe_cal c_law_sheet (hr.mono (by decide)) (by rfl) (pa_cons (pe_slice sl_listS (pv 0) (po_some pe_int) (po_some pe_int)) (pa_cons (pv 4) pa_nil))))
      (pss_cons (ps_if (pt_cmpR op_eq (pe_op op_mod (pe_op op_fdiv (pv 1) pe_int) pe_int) pe_int (nomark _)) (pss_cons (ps_set (i := 6) sc_law.nd rfl (Or.inl rfl) (pe_cal c_law_great (hr.mono (by decide)) (by rfl) (pa_cons (pe_slice sl_listS (pv 0) (po_some pe_int) (po_some pe_int)) (pa_cons (pe_op op_fdiv (pv 1) pe_int) pa_nil))))
      (pss_cons (ps_set (i := 4) sc_law.nd rfl (Or.inl rfl) (pe_callB call_len_seq (by rfl) B.len PySem.boot_len (pa_cons (pe_ix ix_list (pv 6) pe_int (fun _ _ => rfl)) pa_nil)))
      (pss_cons (ps_set (i := 3) sc_law.nd rfl (Or.inl rfl) (pe_slice sl_tupS (pv 3) po_none (po_some pe_int)))
      (pss_one (ps_set (i := 5) sc_law.nd rfl (Or.inl rfl) (pe_op op_mod (pv 5) pe_int)))))) pss_nil)
      (pss_cons (ps_setComp (i := 7) sc_law.nd rfl (Or.inl rfl) rfl (pi_list (pv 6)) (show BlkScope (defScope s_law) _ from ⟨rfl, by decide +kernel, by decide +kernel, by decide +kernel⟩) (N := ["_law_row"]) (ix := [none]) (show CapOf _ _ _ _ from trivial) (fun _ _ _ => (pg_name (i := 0) (show List.Nodup (["_law_row"] : List Str) by decide +kernel) rfl (Or.inl rfl))) (fun _ _ _ => (pe_callTy call_listS (by rfl) B.list PyProof.Rows.boot_list (pa_cons (pv 0) pa_nil))))
      (pss_cons (ps_set (i := 8) sc_law.nd rfl (Or.inl rfl) (pe_cal c_laid (hr.mono (by decide)) (by rfl) (pa_cons (pv 6) (pa_cons (pv 3) (pa_cons (pv 5) pa_nil)))))
      (pss_cons (ps_if (pw_or (pt_not (pt_val (pe_cal c_law_numbers (hr.mono (by decide)) (by rfl) (pa_cons (pv 8) (pa_cons (pe_callB call_len_seq (by rfl) B.len PySem.boot_len (pa_cons (pv 7) pa_nil)) (pa_cons (pv 4) pa_nil)))))) (pw_or1 (pt_cmpR (op_neN hr.units) (pv 6) (pv 7) (nomark _)))).pt (pss_one (ps_ret pe_bl)) pss_nil)
      (pss_cons (ps_setComp (i := 9) sc_law.nd rfl (Or.inl rfl) rfl (pi_list (pv 8)) (show BlkScope (defScope s_law) _ from ⟨rfl, by decide +kernel, by decide +kernel, by decide +kernel⟩) (N := ["_law_row"]) (ix := [none]) (show CapOf _ _ _ _ from trivial) (fun _ _ _ => (pg_name (i := 0) (show List.Nodup (["_law_row"] : List Str) by decide +kernel) rfl (Or.inl rfl))) (fun _ _ _ => (pe_callTy call_listS (by rfl) B.list PyProof.Rows.boot_list (pa_cons (pv 0) pa_nil))))
      (pss_cons (ps_set (i := 10) sc_law.nd rfl (Or.inl rfl) (pe_calD c_opened (hr.mono (by decide)) (by rfl) (pa_cons (pv 8) (pa_cons (pv 3) (pa_cons (pv 5) pa_nil)))))
      (pss_cons (ps_if (pw_or (pt_not (pt_val (pe_cal c_law_numbers (hr.mono (by decide)) (by rfl) (pa_cons (pv 10) (pa_cons (pe_callB call_len_seq (by rfl) B.len PySem.boot_len (pa_cons (pv 7) pa_nil)) (pa_cons (pv 4) pa_nil)))))) (pw_or (pt_cmpR (op_neN hr.units) (pv 10) (pv 7) (nomark _)) (pw_or1 (pt_cmpR (op_neN hr.units) (pv 8) (pv 9) (nomark _))))).pt (pss_one (ps_ret pe_bl)) pss_nil)
      (pss_cons (ps_if (pt_cmpR (op_neN hr.units) (pe_cal c_opened.cal (hr.mono (by decide)) (by rfl) (pa_cons (pv 8) (pa_cons (pv 3) (pa_cons (pv 5) (pa_cons pe_int pa_nil))))) (pv 7) (nomark _)) (pss_one (ps_ret pe_bl)) pss_nil)
      (pss_cons (ps_set (i := 11) sc_law.nd rfl (Or.inl rfl) (pe_calD c_opened (hr.mono (by decide)) (by rfl) (pa_cons (pv 6) (pa_cons (pv 3) (pa_cons (pv 5) pa_nil)))))
      (pss_cons (ps_if (pw_or (pt_not (pt_val (pe_cal c_law_numbers (hr.mono (by decide)) (by rfl) (pa_cons (pv 11) (pa_cons (pe_callB call_len_seq (by rfl) B.len PySem.boot_len (pa_cons (pv 7) pa_nil)) (pa_cons (pv 4) pa_nil)))))) (pw_or1 (pt_cmpR (op_neN hr.units) (pv 6) (pv 7) (nomark _)))).pt (pss_one (ps_ret pe_bl)) pss_nil)
      (pss_cons (ps_setComp (i := 12) sc_law.nd rfl (Or.inl rfl) rfl (pi_list (pv 11)) (show BlkScope (defScope s_law) _ from ⟨rfl, by decide +kernel, by decide +kernel, by decide +kernel⟩) (N := ["_law_row"]) (ix := [none]) (show CapOf _ _ _ _ from trivial) (fun _ _ _ => (pg_name (i := 0) (show List.Nodup (["_law_row"] : List Str) by decide +kernel) rfl (Or.inl rfl))) (fun _ _ _ => (pe_callTy call_listS (by rfl) B.list PyProof.Rows.boot_list (pa_cons (pv 0) pa_nil))))
      (pss_cons (ps_set (i := 13) sc_law.nd rfl (Or.inl rfl) (pe_cal c_laid (hr.mono (by decide)) (by rfl) (pa_cons (pv 11) (pa_cons (pv 3) (pa_cons (pv 5) pa_nil)))))
      (pss_cons (ps_if (pw_or (pt_cmpR (op_neN hr.units) (pv 13) (pv 7) (nomark _)) (pw_or1 (pt_cmpR (op_neN hr.units) (pv 8) (pv 9) (nomark _)))).pt (pss_one (ps_ret pe_bl)) pss_nil)
      (pss_cons (ps_for PassesOwn.never rfl (pi_list (pe_lstS (pa_cons (pv 10) (pa_cons (pv 13) (pa_cons (pe_cal c_laid (hr.mono (by decide)) (by rfl) (pa_cons (pv 6) (pa_cons (pv 3) (pa_cons (pv 5) pa_nil)))) (pa_cons (pe_calD c_opened (hr.mono (by decide)) (by rfl) (pa_cons (pv 6) (pa_cons (pv 3) (pa_cons (pv 5) pa_nil)))) pa_nil)))))) (pg_name (i := 14) sc_law.nd rfl (Or.inl rfl)) (pss_one (ps_if (pt_not (pt_val (pe_cal c_law_apart (hr.mono (by decide)) (by rfl) (pa_cons (pv 14) pa_nil)))) (pss_one (ps_ret pe_bl)) pss_nil)))
      (pss_one (ps_ret (pe_and (pe_cmpR (op_eqN hr.units) (pv 6) (pv 7) (nomark _)) (pe_and (pe_cmpR (op_eqN hr.units) (pv 8) (pv 9) (nomark _)) (pe_one (pe_cmpR (op_eqN hr.units) (pv 11) (pv 12) (nomark _))))))))))))))))))))))))))))),
    (sS_seq (sS_set (sO_f (sF_o (sO_call (sAF_cons sF_var (sAF_cons sF_int sAF_nil))))))
      (sS_seq (sS_set (sO_f (sF_op oS_i sB_var (sB_f sF_int))))
      (sS_seq (sS_if (sT_test (sF_op oS_eq (sB_f (sF_op oS_i (sB_f (sF_op oS_i sB_var (sB_f sF_int))) (sB_f sF_int))) (sB_f sF_int))) (sS_set (sO_f (sF_op oS_i (sB_f (sF_op oS_i sB_var (sB_f sF_int))) (sB_f sF_int)))) sS_next)
      (sS_seq (sS_set (sO_f (sF_o (sO_call (sAF_cons sF_var (sAF_cons sF_var sAF_nil))))))
      (sS_seq (sS_set (sO_f (sF_op oS_i0 (sB_f sF_int) (sB_f (sF_op oS_i (sB_f (sF_o (sO_call (sAF_cons sF_var (sAF_cons sF_int sAF_nil))))) (sB_f sF_int))))))
      (sS_seq (sS_if (sT_test (sF_op oS_eq (sB_f (sF_op oS_i (sB_f (sF_op oS_i (sB_f (sF_o (sO_call (sAF_cons sF_var (sAF_cons sF_int sAF_nil))))) (sB_f sF_int))) (sB_f sF_int))) (sB_f sF_int))) (sS_set (sO_f sF_int)) sS_next)
      (sS_seq (sS_set (sO_f (sF_op oS_i (sB_f (sF_o (sO_call (sAF_cons sF_var (sAF_cons sF_int sAF_nil))))) (sB_f sF_int))))
      (sS_seq (sS_set (sO_f (sF_o (sO_call (sAF_cons (sF_o (sO_slL sF_var (sP_pt (sB_f sF_int)) (sP_pt (sB_f sF_int)))) (sAF_cons sF_var sAF_nil))))))
      (sS_seq (sS_if (sT_test (sF_op oS_eq (sB_f (sF_op oS_i (sB_f (sF_op oS_i sB_var (sB_f sF_int))) (sB_f sF_int))) (sB_f sF_int))) (sS_seq (sS_set (sO_f (sF_o (sO_call (sAF_cons (sF_o (sO_slL sF_var (sP_pt (sB_f sF_int)) (sP_pt (sB_f sF_int)))) (sAF_cons (sF_op oS_i sB_var (sB_f sF_int)) sAF_nil))))))
      (sS_seq (sS_set (sO_f (sF_cb cS_len (sAB_cons (sB_op (OpF.b oF_ixL) sB_var (sB_f sF_int)) sAB_nil))))
      (sS_seq (sS_set (sO_f (sF_slT sF_var sP_no (sP_pt (sB_f sF_int)))))
      (sS_set (sO_f (sF_op oS_i sB_var (sB_f sF_int))))))) sS_next)
      (sS_seq (sS_set (sO_f (sF_o (sO_comp (sI_list sF_var) sG_name (sO_cb cO_list (sAF_cons sF_var sAF_nil))))))
      (sS_seq (sS_set (sO_f (sF_o (sO_call (sAF_cons sF_var (sAF_cons sF_var (sAF_cons sF_var sAF_nil)))))))
      (sS_seq (sS_if (sT_or (sT_not (sT_b (sF_o (sO_call (sAF_cons sF_var (sAF_cons (sF_cb cS_len (sAB_cons sB_var sAB_nil)) (sAF_cons sF_var sAF_nil))))))) (sT_test (sF_op oS_neN sB_var sB_var))) (sS_ret (sO_f sF_bl)) sS_next)
      (sS_seq (sS_set (sO_f (sF_o (sO_comp (sI_list sF_var) sG_name (sO_cb cO_list (sAF_cons sF_var sAF_nil))))))
      (sS_seq (sS_set (sO_callD (dds := [.int 0]) (fun _ => ⟨_, _, rfl, rfl, rfl⟩) (sAF_cons sF_var (sAF_cons sF_var (sAF_cons sF_var sAF_nil)))))
      (sS_seq (sS_if (sT_or (sT_not (sT_b (sF_o (sO_callB (sAB_cons sB_var (sAB_cons (sB_f (sF_cb cS_len (sAB_cons sB_var sAB_nil))) (sAB_cons sB_var sAB_nil))))))) (sT_or (sT_test (sF_op oS_neN sB_var sB_var)) (sT_test (sF_op oS_neN sB_var sB_var)))) (sS_ret (sO_f sF_bl)) sS_next)
      (sS_seq (sS_if (sT_test (sF_op oS_neN (sB_f (sF_o (sO_call (sAF_cons sF_var (sAF_cons sF_var (sAF_cons sF_var (sAF_cons sF_int sAF_nil))))))) sB_var)) (sS_ret (sO_f sF_bl)) sS_next)
      (sS_seq (sS_set (sO_f (sF_o (sO_callD (dds := [.int 0]) (fun _ => ⟨_, _, rfl, rfl, rfl⟩) (sAF_cons sF_var (sAF_cons sF_var (sAF_cons sF_var sAF_nil)))))))
      (sS_seq (sS_if (sT_or (sT_not (sT_b (sF_o (sO_call (sAF_cons sF_var (sAF_cons (sF_cb cS_len (sAB_cons sB_var sAB_nil)) (sAF_cons sF_var sAF_nil))))))) (sT_test (sF_op oS_neN sB_var sB_var))) (sS_ret (sO_f sF_bl)) sS_next)
      (sS_seq (sS_set (sO_f (sF_o (sO_comp (sI_list sF_var) sG_name (sO_cb cO_list (sAF_cons sF_var sAF_nil))))))
      (sS_seq (sS_set (sO_call (sAF_cons sF_var (sAF_cons sF_var (sAF_cons sF_var sAF_nil)))))
      (sS_seq (sS_if (sT_or (sT_test (sF_op oS_neN sB_var sB_var)) (sT_test (sF_op oS_neN sB_var sB_var))) (sS_ret (sO_f sF_bl)) sS_next)
      (sS_seq (sS_forM (sAM_mv (sAM_mv (sAM_cons (sO_call (sAF_cons sF_var (sAF_cons sF_var (sAF_cons sF_var sAF_nil)))) (sAM_cons (sO_callD (dds := [.int 0]) (fun _ => ⟨_, _, rfl, rfl, rfl⟩) (sAF_cons sF_var (sAF_cons sF_var (sAF_cons sF_var sAF_nil)))) sAM_nil)))) (sS_ifMv (sS_ret (sO_f sF_bl)) sS_next))
      (sS_ret (sO_f (sF_andV (sF_op oS_eqN sB_var sB_var) (sF_andV (sF_op oS_eqN sB_var sB_var) (sF_op oS_eqN sB_var sB_var))))))))))))))))))))))))))), ?_⟩)
  intro ns hlen hbits
  walk_at "s"
  refine ⟨ns, 0, rfl, by decide, ?_⟩
  walk_at "v"
  walk_at "n"
  generalize ns.getD 0 0 = c0
  walk_at "s"
  walk_at "n"
  walk_at "s"
  have hmany : ∀ mi : Int, 0 ≤ mi → mi ≤ 6 → N [vD (.lst (ns.map .int)), vI c0, vI mi, none, none, none, none, none, none, none, none, none, none, none, none] := by
    intro mi mi0 mi6
    walk_at "n"
    walk_at "s"
    refine ⟨ns, _, rfl, ⟨by omega, by omega⟩, fun fs oks hf6 => ?_⟩
    walk_at "v"
    walk_at "n"
    walk_at "s"
    refine ⟨ns, 1, rfl, by decide, ?_⟩
    walk_at "v"
    walk_at "n"
    generalize ns.getD 1 0 = c1
    walk_at "s"
    refine ⟨ns, 1, rfl, by decide, ?_⟩
    walk_at "v"
    generalize ns.getD 1 0 = c2
    have hw : ∀ wd : Int, 1 ≤ wd → wd ≤ 64 → N [vD (.lst (ns.map .int)), vI c0, vI mi, vD (ladD fs), vI wd, none, none, none, none, none, none, none, none, none, none] := by
      intro wd wd0 wd1
      walk_at "n"
      obtain ⟨w, rfl⟩ : ∃ w : Nat, wd = w := ⟨wd.toNat, by omega⟩
      have w0 : 0 < w := by omega
      have w1 : w ≤ 64 := by omega
      walk_at "s"
      refine ⟨ns, 2, rfl, by decide, ?_⟩
      walk_at "v"
      walk_at "n"
      generalize hlv : ns.getD 2 0 % 7 = lv
      obtain ⟨L, rfl⟩ : ∃ L : Nat, lv = L := ⟨lv.toNat, by omega⟩
      have l6 : L ≤ 6 := by omega
      clear hlv
      walk_at "s"
      obtain ⟨ms, hm, hml, hmm⟩ := cut_ints' ns (some 9) (some 73)
      simp only [hm, fz_int, val_fzI]
      refine ⟨ms, w, rfl, by omega, fun m hm => hbits m (hmm m hm), w0, by omega, fun h e h0 h1 => ?_⟩
      walk_at "v"
      rw [shT_val]
      walk_at "n"
      clear hm hml hmm ms
      walk_at "s"
      have hgo : ∀ (h w L : Nat) (e : Nat → Nat → Int) (gs : List Lf), (∀ f ∈ gs, f.Ok) → 0 < h → h ≤ 64 → 0 < w → w ≤ 64 → L ≤ 6 → N [vD (.lst (ns.map .int)), vI c0, vI mi, vD (ladD gs), vI w, vI L, vD (.lst (shV D.int h w e)), none, none, none, none, none, none, none, none] := by
        clear w0 w1 l6 h0 h1 oks hf6 wd0 wd1
        intro h w L e gs oks h0 h1 w0 w1 l6
        walk_at "n"
        have hup : ∀ (k : Nat) (r : List Int), (raiseF gs (2 ^ k : Nat) r).length = r.length := fun k r => by rw [raise_g, gFold_len]
        have hdn : ∀ (k : Nat) (r : List Int), (lowerF gs (2 ^ k : Nat) r).length = r.length := fun k r => by rw [lower_g, gLower_len]
        have hbk : ∀ (k : Nat) (r : List Int), lowerF gs (2 ^ k : Nat) (raiseF gs (2 ^ k : Nat) r) = r := fun k r => lower_raise (by exact_mod_cast Nat.pow_pos (by decide)) r fun f hf => (oks f hf).h
        have hfw : ∀ (k : Nat) (r : List Int), raiseF gs (2 ^ k : Nat) (lowerF gs (2 ^ k : Nat) r) = r := fun k r => raise_lower (by exact_mod_cast Nat.pow_pos (by decide)) r fun f hf => (oks f hf).h
        -- kept
        walk_at "s"
        refine kept_shI (by omega) (fun i hi Q q => ?_) ?_
        · walk_at "v"
          rw [tab_map]
          exact q
        walk_at "v"
        rw [shT_val]
        walk_at "n"
        -- the wave
        walk_at "s"
        refine ⟨h, w, e, gs, L, rfl, oks, l6, h0, by omega, by omega, ?_⟩
        walk_at "v"
        rw [shT_val]
        walk_at "n"
        generalize hW : layF 0 (fun k => raiseF gs (2 ^ k : Nat)) h w L e = eW
        have hS : ∀ e : Nat → Nat → Int, (shV D.int h w e).length = h := fun e => by rw [shV, tab_len]
        have hTe : ∀ e : Nat → Nat → Int, (shT D.int h w e).length = h := fun e => by rw [shT, tab_len]
        walk_at "s"
        rw [hS]
        refine ⟨h, w, eW, rfl, by omega, by omega, ?_⟩
        walk_at "v"
        simp only [fit_shV, D.eqb_refl (n := 4) fit_shV, true_and, Bool.not_true, Bool.false_eq_true, if_false]
        walk_at "n"
        -- held
        walk_at "s"
        refine kept_shI (by omega) (fun i hi Q q => ?_) ?_
        · walk_at "v"
          rw [tab_map]
          exact q
        walk_at "v"
        rw [shT_val]
        walk_at "n"
        -- back
        walk_at "s"
        refine ⟨h, w, eW, gs, L, 0, rfl, oks, l6, by omega, h0, by omega, by omega, ?_⟩
        have hback : eqS h w (openF 0 (fun k => lowerF gs (2 ^ k : Nat)) h w L 0 eW) e := by
          rw [← hW]
          exact open_lay (up := fun k => raiseF gs (2 ^ k : Nat)) (dn := fun k => lowerF gs (2 ^ k : Nat)) hup hbk L 0 e (Nat.zero_le _)
        rw [shT_ext hback]
        walk_at "n"
        walk_at "s"
        rw [shT_val, hS]
        refine ⟨h, w, e, rfl, by omega, by omega, ?_⟩
        walk_at "v"
        simp only [fit_shV, D.eqb_refl (n := 4) fit_shV, true_and, Bool.not_true, Bool.false_eq_true, if_false]
        walk_at "n"
        walk_at "s"
        refine ⟨h, w, eW, gs, L, 0, rfl, oks, l6, by omega, h0, by omega, by omega, ?_⟩
        rw [shT_ext hback]
        walk_at "v"
        rw [shT_val]
        simp only [fit_shV, D.eqb_refl (n := 4) fit_shV, true_and, Bool.not_true, Bool.false_eq_true, if_false]
        walk_at "n"
        -- other
        walk_at "s"
        refine ⟨h, w, e, gs, L, 0, rfl, oks, l6, by omega, h0, by omega, by omega, ?_⟩
        walk_at "v"
        rw [shT_val]
        walk_at "n"
        generalize hO : openF 0 (fun k => lowerF gs (2 ^ k : Nat)) h w L 0 e = eO
        walk_at "s"
        rw [hS]
        refine ⟨h, w, eO, rfl, by omega, by omega, ?_⟩
        walk_at "v"
        simp only [fit_shV, D.eqb_refl (n := 4) fit_shV, true_and, Bool.not_true, Bool.false_eq_true, if_false]
        walk_at "n"
        -- beside
        walk_at "s"
        refine kept_shI (by omega) (fun i hi Q q => ?_) ?_
        · walk_at "v"
          rw [tab_map]
          exact q
        walk_at "v"
        rw [shT_val]
        walk_at "n"
        -- last
        walk_at "s"
        refine ⟨h, w, eO, gs, L, rfl, oks, l6, h0, by omega, by omega, ?_⟩
        have hlast : eqS h w (layF 0 (fun k => raiseF gs (2 ^ k : Nat)) h w L eO) e := by
          rw [← hO]
          exact lay_open (up := fun k => raiseF gs (2 ^ k : Nat)) (dn := fun k => lowerF gs (2 ^ k : Nat)) hdn hfw L e
        rw [shT_ext hlast]
        walk_at "n"
        walk_at "s"
        rw [shT_val]
        simp only [fit_shV, D.eqb_refl (n := 4) fit_shV, true_and, Bool.not_true, Bool.false_eq_true, if_false]
        walk_at "n"
        -- the four
        walk_at "s"
        refine ⟨h, w, e, gs, L, rfl, oks, l6, h0, by omega, by omega, ?_⟩
        refine ⟨h, w, e, gs, L, 0, rfl, oks, l6, by omega, h0, by omega, by omega, ?_⟩
        refine ⟨h, w, _, rfl, rfl, h0, by omega, w0, by omega, ?_⟩
        walk_at "v"
        refine ⟨h, w, _, rfl, rfl, h0, by omega, w0, by omega, ?_⟩
        walk_at "v"
        refine ⟨h, w, _, rfl, rfl, h0, by omega, w0, by omega, ?_⟩
        walk_at "v"
        refine ⟨h, w, _, rfl, rfl, h0, by omega, w0, by omega, ?_⟩
        walk_at "v"
        walk_at "n"
        walk_at "v"
        simp only [fit_shV, D.eqb_refl (n := 4) fit_shV, true_and, if_true]
      split
      · obtain ⟨ms, hm, hml, hmm⟩ := cut_ints' ns (some 9) (some 73)
        simp only [hm, fz_int, val_fzI]
        refine ⟨ms, _, rfl, fun h w e h0 h1 w0 w1 => ?_⟩
        walk_at "v"
        rw [aboutI]
        refine ⟨_, atI_tab (by omega) (by omega), ?_⟩
        simp only [ladD]
        walk_at "v"
        obtain ⟨gs, hgs, hgm⟩ := cut_lads fs none (some 2)
        rw [hgs, tab_len]
        obtain ⟨L4, hL4⟩ : ∃ L4 : Nat, (L : Int) % 4 = L4 := ⟨((L : Int) % 4).toNat, by omega⟩
        rw [hL4]
        exact hgo h w L4 e gs (fun f hf => oks f (hgm f hf)) h0 h1 w0 w1 (by omega)
      · exact hgo h w L e fs oks h0 h1 w0 w1 l6
    split
    · exact hw _ (by omega) (by omega)
    · exact hw _ (by omega) (by omega)
  split
  · exact hmany _ (by omega) (by omega)
  · exact hmany _ (by omega) (by omega)

end
theorem all_mk {l : PySem.W.OpenLaw} {w : World} {K : PySem.W.Frag} {h : Heap} {mg : Str → Option Value} {fa : Addr} (X : K.In h) (G : h.Ns mainGlobals mg) (hfa : mg "law" = some (.ref fa))
    {f1 : Addr} {od1 an1 : Option Addr} {sl1 : Array (Option Value)} {oc1 kV1 dc1 pm1 cd1 ct1 : Value}
    {f2 : Addr} {od2 an2 : Option Addr} {sl2 : Array (Option Value)} {oc2 kV2 dc2 pm2 cd2 ct2 : Value}
    {f3 : Addr} {od3 an3 : Option Addr} {sl3 : Array (Option Value)} {oc3 kV3 dc3 pm3 cd3 ct3 : Value}
    {f4 : Addr} {od4 an4 : Option Addr} {sl4 : Array (Option Value)} {oc4 kV4 dc4 pm4 cd4 ct4 : Value}
    {f5 : Addr} {od5 an5 : Option Addr} {sl5 : Array (Option Value)} {oc5 kV5 dc5 pm5 cd5 ct5 : Value}
    {f6 : Addr} {od6 an6 : Option Addr} {sl6 : Array (Option Value)} {oc6 kV6 dc6 pm6 cd6 ct6 : Value}
    {f7 : Addr} {od7 an7 : Option Addr} {sl7 : Array (Option Value)} {oc7 kV7 dc7 pm7 cd7 ct7 : Value}
    {f8 : Addr} {od8 an8 : Option Addr} {sl8 : Array (Option Value)} {oc8 kV8 dc8 pm8 cd8 ct8 : Value}
    {f9 : Addr} {od9 an9 : Option Addr} {sl9 : Array (Option Value)} {oc9 kV9 dc9 pm9 cd9 ct9 : Value}
    {f10 : Addr} {od10 an10 : Option Addr} {sl10 : Array (Option Value)} {oc10 kV10 dc10 pm10 cd10 ct10 : Value}
    {T10 : Addr} {odT10 : Option Addr} {slT10 : Array (Option Value)} {ocT10 : Value} {nT10 : Nat} {tk10_0 : Tok}
    {f11 : Addr} {od11 an11 : Option Addr} {sl11 : Array (Option Value)} {oc11 kV11 dc11 pm11 cd11 ct11 : Value}
    {f12 : Addr} {od12 an12 : Option Addr} {sl12 : Array (Option Value)} {oc12 kV12 dc12 pm12 cd12 ct12 : Value}
    {f13 : Addr} {od13 an13 : Option Addr} {sl13 : Array (Option Value)} {oc13 kV13 dc13 pm13 cd13 ct13 : Value}
    {f14 : Addr} {od14 an14 : Option Addr} {sl14 : Array (Option Value)} {oc14 kV14 dc14 pm14 cd14 ct14 : Value}
    {f15 : Addr} {od15 an15 : Option Addr} {sl15 : Array (Option Value)} {oc15 kV15 dc15 pm15 cd15 ct15 : Value}
    {f16 : Addr} {od16 an16 : Option Addr} {sl16 : Array (Option Value)} {oc16 kV16 dc16 pm16 cd16 ct16 : Value}
    {f17 : Addr} {od17 an17 : Option Addr} {sl17 : Array (Option Value)} {oc17 kV17 dc17 pm17 cd17 ct17 : Value}
    {f18 : Addr} {od18 an18 : Option Addr} {sl18 : Array (Option Value)} {oc18 kV18 dc18 pm18 cd18 ct18 : Value}
    {f19 : Addr} {od19 an19 : Option Addr} {sl19 : Array (Option Value)} {oc19 kV19 dc19 pm19 cd19 ct19 : Value}
    (a1 : PySem.W.nsIn K mainGlobals "neighbours" = some (some (.ref f1))) (l1 : K.lookup f1 = some ⟨oc1, od1, .func (PySem.W.fnOf "neighbours" "neighbours" (defArgs s_neighbours) (defBody s_neighbours) (defScope s_neighbours) .none kV1 dc1 pm1 an1 cd1 ct1), sl1⟩) (d1 : PySem.W.codeIn K cd1 "neighbours" = true) (k1 : PySem.W.keepIn K (.ref f1) = true)
    (a2 : PySem.W.nsIn K mainGlobals "lifted_places" = some (some (.ref f2))) (l2 : K.lookup f2 = some ⟨oc2, od2, .func (PySem.W.fnOf "lifted_places" "lifted_places" (defArgs s_lifted_places) (defBody s_lifted_places) (defScope s_lifted_places) .none kV2 dc2 pm2 an2 cd2 ct2), sl2⟩) (d2 : PySem.W.codeIn K cd2 "lifted_places" = true) (k2 : PySem.W.keepIn K (.ref f2) = true)
    (a3 : PySem.W.nsIn K mainGlobals "gain" = some (some (.ref f3))) (l3 : K.lookup f3 = some ⟨oc3, od3, .func (PySem.W.fnOf "gain" "gain" (defArgs s_gain) (defBody s_gain) (defScope s_gain) .none kV3 dc3 pm3 an3 cd3 ct3), sl3⟩) (d3 : PySem.W.codeIn K cd3 "gain" = true) (k3 : PySem.W.keepIn K (.ref f3) = true)
    (a4 : PySem.W.nsIn K mainGlobals "raised" = some (some (.ref f4))) (l4 : K.lookup f4 = some ⟨oc4, od4, .func (PySem.W.fnOf "raised" "raised" (defArgs s_raised) (defBody s_raised) (defScope s_raised) .none kV4 dc4 pm4 an4 cd4 ct4), sl4⟩) (d4 : PySem.W.codeIn K cd4 "raised" = true) (k4 : PySem.W.keepIn K (.ref f4) = true)
    (a5 : PySem.W.nsIn K mainGlobals "lowered" = some (some (.ref f5))) (l5 : K.lookup f5 = some ⟨oc5, od5, .func (PySem.W.fnOf "lowered" "lowered" (defArgs s_lowered) (defBody s_lowered) (defScope s_lowered) .none kV5 dc5 pm5 an5 cd5 ct5), sl5⟩) (d5 : PySem.W.codeIn K cd5 "lowered" = true) (k5 : PySem.W.keepIn K (.ref f5) = true)
    (a6 : PySem.W.nsIn K mainGlobals "change_rows" = some (some (.ref f6))) (l6 : K.lookup f6 = some ⟨oc6, od6, .func (PySem.W.fnOf "change_rows" "change_rows" (defArgs s_change_rows) (defBody s_change_rows) (defScope s_change_rows) .none kV6 dc6 pm6 an6 cd6 ct6), sl6⟩) (d6 : PySem.W.codeIn K cd6 "change_rows" = true) (k6 : PySem.W.keepIn K (.ref f6) = true)
    (a7 : PySem.W.nsIn K mainGlobals "change_columns" = some (some (.ref f7))) (l7 : K.lookup f7 = some ⟨oc7, od7, .func (PySem.W.fnOf "change_columns" "change_columns" (defArgs s_change_columns) (defBody s_change_columns) (defScope s_change_columns) .none kV7 dc7 pm7 an7 cd7 ct7), sl7⟩) (d7 : PySem.W.codeIn K cd7 "change_columns" = true) (k7 : PySem.W.keepIn K (.ref f7) = true)
    (a8 : PySem.W.nsIn K mainGlobals "laid" = some (some (.ref f8))) (l8 : K.lookup f8 = some ⟨oc8, od8, .func (PySem.W.fnOf "laid" "laid" (defArgs s_laid) (defBody s_laid) (defScope s_laid) .none kV8 dc8 pm8 an8 cd8 ct8), sl8⟩) (d8 : PySem.W.codeIn K cd8 "laid" = true) (k8 : PySem.W.keepIn K (.ref f8) = true)
    (a9 : PySem.W.nsIn K mainGlobals "opened_by" = some (some (.ref f9))) (l9 : K.lookup f9 = some ⟨oc9, od9, .func (PySem.W.fnOf "opened_by" "opened_by" (defArgs s_opened_by) (defBody s_opened_by) (defScope s_opened_by) .none kV9 dc9 pm9 an9 cd9 ct9), sl9⟩) (d9 : PySem.W.codeIn K cd9 "opened_by" = true) (k9 : PySem.W.keepIn K (.ref f9) = true)
    (a10 : PySem.W.nsIn K mainGlobals "opened" = some (some (.ref f10))) (l10 : K.lookup f10 = some ⟨oc10, od10, .func (PySem.W.fnOf "opened" "opened" (defArgs s_opened) (defBody s_opened) (defScope s_opened) (.ref T10) kV10 dc10 pm10 an10 cd10 ct10), sl10⟩) (d10 : PySem.W.codeIn K cd10 "opened" = true) (k10 : PySem.W.keepIn K (.ref f10) = true)
    (dl10 : K.lookup T10 = some ⟨ocT10, odT10, .seq #[.int 0 tk10_0] nT10, slT10⟩)
    (a11 : PySem.W.nsIn K mainGlobals "thinned" = some (some (.ref f11))) (l11 : K.lookup f11 = some ⟨oc11, od11, .func (PySem.W.fnOf "thinned" "thinned" (defArgs s_thinned) (defBody s_thinned) (defScope s_thinned) .none kV11 dc11 pm11 an11 cd11 ct11), sl11⟩) (d11 : PySem.W.codeIn K cd11 "thinned" = true) (k11 : PySem.W.keepIn K (.ref f11) = true)
    (a12 : PySem.W.nsIn K mainGlobals "_law_cell_at" = some (some (.ref f12))) (l12 : K.lookup f12 = some ⟨oc12, od12, .func (PySem.W.fnOf "_law_cell_at" "_law_cell_at" (defArgs s_law_cell_at) (defBody s_law_cell_at) (defScope s_law_cell_at) .none kV12 dc12 pm12 an12 cd12 ct12), sl12⟩) (d12 : PySem.W.codeIn K cd12 "_law_cell_at" = true) (k12 : PySem.W.keepIn K (.ref f12) = true)
    (a13 : PySem.W.nsIn K mainGlobals "_law_number" = some (some (.ref f13))) (l13 : K.lookup f13 = some ⟨oc13, od13, .func (PySem.W.fnOf "_law_number" "_law_number" (defArgs s_law_number) (defBody s_law_number) (defScope s_law_number) .none kV13 dc13 pm13 an13 cd13 ct13), sl13⟩) (d13 : PySem.W.codeIn K cd13 "_law_number" = true) (k13 : PySem.W.keepIn K (.ref f13) = true)
    (a14 : PySem.W.nsIn K mainGlobals "_law_ladder" = some (some (.ref f14))) (l14 : K.lookup f14 = some ⟨oc14, od14, .func (PySem.W.fnOf "_law_ladder" "_law_ladder" (defArgs s_law_ladder) (defBody s_law_ladder) (defScope s_law_ladder) .none kV14 dc14 pm14 an14 cd14 ct14), sl14⟩) (d14 : PySem.W.codeIn K cd14 "_law_ladder" = true) (k14 : PySem.W.keepIn K (.ref f14) = true)
    (a15 : PySem.W.nsIn K mainGlobals "_law_sheet" = some (some (.ref f15))) (l15 : K.lookup f15 = some ⟨oc15, od15, .func (PySem.W.fnOf "_law_sheet" "_law_sheet" (defArgs s_law_sheet) (defBody s_law_sheet) (defScope s_law_sheet) .none kV15 dc15 pm15 an15 cd15 ct15), sl15⟩) (d15 : PySem.W.codeIn K cd15 "_law_sheet" = true) (k15 : PySem.W.keepIn K (.ref f15) = true)
    (a16 : PySem.W.nsIn K mainGlobals "_law_great" = some (some (.ref f16))) (l16 : K.lookup f16 = some ⟨oc16, od16, .func (PySem.W.fnOf "_law_great" "_law_great" (defArgs s_law_great) (defBody s_law_great) (defScope s_law_great) .none kV16 dc16 pm16 an16 cd16 ct16), sl16⟩) (d16 : PySem.W.codeIn K cd16 "_law_great" = true) (k16 : PySem.W.keepIn K (.ref f16) = true)
    (a17 : PySem.W.nsIn K mainGlobals "_law_numbers" = some (some (.ref f17))) (l17 : K.lookup f17 = some ⟨oc17, od17, .func (PySem.W.fnOf "_law_numbers" "_law_numbers" (defArgs s_law_numbers) (defBody s_law_numbers) (defScope s_law_numbers) .none kV17 dc17 pm17 an17 cd17 ct17), sl17⟩) (d17 : PySem.W.codeIn K cd17 "_law_numbers" = true) (k17 : PySem.W.keepIn K (.ref f17) = true)
    (a18 : PySem.W.nsIn K mainGlobals "_law_apart" = some (some (.ref f18))) (l18 : K.lookup f18 = some ⟨oc18, od18, .func (PySem.W.fnOf "_law_apart" "_law_apart" (defArgs s_law_apart) (defBody s_law_apart) (defScope s_law_apart) .none kV18 dc18 pm18 an18 cd18 ct18), sl18⟩) (d18 : PySem.W.codeIn K cd18 "_law_apart" = true) (k18 : PySem.W.keepIn K (.ref f18) = true)
    (a19 : PySem.W.nsIn K mainGlobals "law" = some (some (.ref f19))) (l19 : K.lookup f19 = some ⟨oc19, od19, .func (PySem.W.fnOf "law" "law" (defArgs s_law) (defBody s_law) (defScope s_law) .none kV19 dc19 pm19 an19 cd19 ct19), sl19⟩) (d19 : PySem.W.codeIn K cd19 "law" = true) (k19 : PySem.W.keepIn K (.ref f19) = true)
    {tk_HALF : Tok} (v_HALF : PySem.W.nsIn K mainGlobals "HALF" = some (some (.int 0 tk_HALF)))
    {tk_LEFT : Tok} (v_LEFT : PySem.W.nsIn K mainGlobals "LEFT" = some (some (.int 1 tk_LEFT)))
    {tk_RIGHT : Tok} (v_RIGHT : PySem.W.nsIn K mainGlobals "RIGHT" = some (some (.int 2 tk_RIGHT)))
    {tk_ADD : Tok} (v_ADD : PySem.W.nsIn K mainGlobals "ADD" = some (some (.int 3 tk_ADD)))
    {tk_SHIFT : Tok} (v_SHIFT : PySem.W.nsIn K mainGlobals "SHIFT" = some (some (.int 4 tk_SHIFT)))
    (z1 : PySem.W.nsIn K mainGlobals "len" = some none) (z2 : PySem.W.nsIn K mainGlobals "range" = some none) (z3 : PySem.W.nsIn K mainGlobals "max" = some none) (z4 : PySem.W.nsIn K mainGlobals "min" = some none) (z5 : PySem.W.nsIn K mainGlobals "isinstance" = some none) (z6 : PySem.W.nsIn K mainGlobals "int" = some none) (z7 : PySem.W.nsIn K mainGlobals "bool" = some none) (z8 : PySem.W.nsIn K mainGlobals "tuple" = some none) (z9 : PySem.W.nsIn K mainGlobals "list" = some none) (z10 : PySem.W.nsIn K mainGlobals "all" = some none) (z11 : PySem.W.nsIn K mainGlobals "zip" = some none) (z12 : PySem.W.nsIn K mainGlobals "reversed" = some none) (z13 : PySem.W.nsIn K mainGlobals "abs" = some none) (z14 : PySem.W.nsIn K mainGlobals "any" = some none) (z15 : PySem.W.nsIn K mainGlobals "sum" = some none) (z16 : PySem.W.nsIn K mainGlobals "sorted" = some none) (z17 : PySem.W.nsIn K mainGlobals "set" = some none) (z18 : PySem.W.nsIn K mainGlobals "enumerate" = some none) (z19 : PySem.W.nsIn K mainGlobals "dict" = some none) (z20 : PySem.W.nsIn K mainGlobals "str" = some none) (z21 : PySem.W.nsIn K mainGlobals "divmod" = some none) (z22 : PySem.W.nsIn K mainGlobals "ord" = some none)
    (t1 : PySem.W.kitOne K (.type "int") (.type "int") = some true) (t2 : PySem.W.kitOne K (.type "int") (.type "bool") = some false) (t3 : PySem.W.kitOne K (.type "int") (.type "str") = some false) (t4 : PySem.W.kitOne K (.type "int") (.type "tuple") = some false) (t5 : PySem.W.kitOne K (.type "int") (.type "list") = some false) (t6 : PySem.W.kitOne K (.type "bool") (.type "int") = some true) (t7 : PySem.W.kitOne K (.type "bool") (.type "bool") = some true) (t8 : PySem.W.kitOne K (.type "bool") (.type "str") = some false) (t9 : PySem.W.kitOne K (.type "bool") (.type "tuple") = some false) (t10 : PySem.W.kitOne K (.type "bool") (.type "list") = some false) (t11 : PySem.W.kitOne K (.type "NoneType") (.type "int") = some false) (t12 : PySem.W.kitOne K (.type "NoneType") (.type "bool") = some false) (t13 : PySem.W.kitOne K (.type "NoneType") (.type "str") = some false) (t14 : PySem.W.kitOne K (.type "NoneType") (.type "tuple") = some false) (t15 : PySem.W.kitOne K (.type "NoneType") (.type "list") = some false) (t16 : PySem.W.kitOne K (.type "str") (.type "int") = some false) (t17 : PySem.W.kitOne K (.type "str") (.type "bool") = some false) (t18 : PySem.W.kitOne K (.type "str") (.type "str") = some true) (t19 : PySem.W.kitOne K (.type "str") (.type "tuple") = some false) (t20 : PySem.W.kitOne K (.type "str") (.type "list") = some false) (t21 : PySem.W.kitOne K (.type "tuple") (.type "int") = some false) (t22 : PySem.W.kitOne K (.type "tuple") (.type "bool") = some false) (t23 : PySem.W.kitOne K (.type "tuple") (.type "str") = some false) (t24 : PySem.W.kitOne K (.type "tuple") (.type "tuple") = some true) (t25 : PySem.W.kitOne K (.type "tuple") (.type "list") = some false) (t26 : PySem.W.kitOne K (.type "list") (.type "int") = some false) (t27 : PySem.W.kitOne K (.type "list") (.type "bool") = some false) (t28 : PySem.W.kitOne K (.type "list") (.type "str") = some false) (t29 : PySem.W.kitOne K (.type "list") (.type "tuple") = some false) (t30 : PySem.W.kitOne K (.type "list") (.type "list") = some true) :
    ∃ fd : FuncData, (∀ (s : Shared) (v : Value), BindsTo s fd ⟨[v], []⟩ [("_law_script", v)]) ∧ ∀ base : Heap, K.In base → base.Ns mainGlobals mg → FnOk l.prog w K mg base CX0 7 fa fd ["_law_script"] (spLawB K) := by
  have e := hfa.symm.trans (PySem.W.mg_of X G a19)
  cases e
  have B : BltV mg := ⟨⟨PySem.W.mg_none_of X G z1, PySem.W.mg_none_of X G z2, PySem.W.mg_none_of X G z3, PySem.W.mg_none_of X G z4, PySem.W.mg_none_of X G z5, PySem.W.mg_none_of X G z6, PySem.W.mg_none_of X G z7, PySem.W.mg_none_of X G z8, PySem.W.mg_none_of X G z9, PySem.W.mg_none_of X G z10, PySem.W.mg_none_of X G z11, PySem.W.mg_none_of X G z12⟩, PySem.W.mg_none_of X G z13, PySem.W.mg_none_of X G z14, PySem.W.mg_none_of X G z15, PySem.W.mg_none_of X G z16, PySem.W.mg_none_of X G z17, PySem.W.mg_none_of X G z18, PySem.W.mg_none_of X G z19, PySem.W.mg_none_of X G z20, PySem.W.mg_none_of X G z21, PySem.W.mg_none_of X G z22⟩
  have KV : KitV K := KitV.of t1 t2 t3 t4 t5 t6 t7 t8 t9 t10 t11 t12 t13 t14 t15 t16 t17 t18 t19 t20 t21 t22 t23 t24 t25 t26 t27 t28 t29 t30
  have g_HALF : ∃ t, mg "HALF" = some (.int 0 t) := ⟨_, PySem.W.mg_of X G v_HALF⟩
  have g_LEFT : ∃ t, mg "LEFT" = some (.int 1 t) := ⟨_, PySem.W.mg_of X G v_LEFT⟩
  have g_RIGHT : ∃ t, mg "RIGHT" = some (.int 2 t) := ⟨_, PySem.W.mg_of X G v_RIGHT⟩
  have g_ADD : ∃ t, mg "ADD" = some (.int 3 t) := ⟨_, PySem.W.mg_of X G v_ADD⟩
  have g_SHIFT : ∃ t, mg "SHIFT" = some (.int 4 t) := ⟨_, PySem.W.mg_of X G v_SHIFT⟩
  have n_lowered : NsOf K mg "lowered" := ⟨_, a5, PySem.W.mg_of X G a5⟩
  have n_raised : NsOf K mg "raised" := ⟨_, a4, PySem.W.mg_of X G a4⟩
  have D1 : DefAt K mg "neighbours" s_neighbours _ _ := ⟨fun_mk (st := s_neighbours) l1 d1 k1, PySem.W.mg_of X G a1⟩
  have D2 : DefAt K mg "lifted_places" s_lifted_places _ _ := ⟨fun_mk (st := s_lifted_places) l2 d2 k2, PySem.W.mg_of X G a2⟩
  have D3 : DefAt K mg "gain" s_gain _ _ := ⟨fun_mk (st := s_gain) l3 d3 k3, PySem.W.mg_of X G a3⟩
  have D4 : DefAt K mg "raised" s_raised _ _ := ⟨fun_mk (st := s_raised) l4 d4 k4, PySem.W.mg_of X G a4⟩
  have D5 : DefAt K mg "lowered" s_lowered _ _ := ⟨fun_mk (st := s_lowered) l5 d5 k5, PySem.W.mg_of X G a5⟩
  have D6 : DefAt K mg "change_rows" s_change_rows _ _ := ⟨fun_mk (st := s_change_rows) l6 d6 k6, PySem.W.mg_of X G a6⟩
  have D7 : DefAt K mg "change_columns" s_change_columns _ _ := ⟨fun_mk (st := s_change_columns) l7 d7 k7, PySem.W.mg_of X G a7⟩
  have D8 : DefAt K mg "laid" s_laid _ _ := ⟨fun_mk (st := s_laid) l8 d8 k8, PySem.W.mg_of X G a8⟩
  have D9 : DefAt K mg "opened_by" s_opened_by _ _ := ⟨fun_mk (st := s_opened_by) l9 d9 k9, PySem.W.mg_of X G a9⟩
  have D10 : DefAtD K mg "opened" s_opened _ _ _ _ := ⟨⟨_, _, _, _, _, _, _, _, _, rfl, l10, d10⟩, ⟨_, _, dl10, rfl⟩, k10, PySem.W.mg_of X G a10⟩
  have D11 : DefAt K mg "thinned" s_thinned _ _ := ⟨fun_mk (st := s_thinned) l11 d11 k11, PySem.W.mg_of X G a11⟩
  have D12 : DefAt K mg "_law_cell_at" s_law_cell_at _ _ := ⟨fun_mk (st := s_law_cell_at) l12 d12 k12, PySem.W.mg_of X G a12⟩
  have D13 : DefAt K mg "_law_number" s_law_number _ _ := ⟨fun_mk (st := s_law_number) l13 d13 k13, PySem.W.mg_of X G a13⟩
  have D14 : DefAt K mg "_law_ladder" s_law_ladder _ _ := ⟨fun_mk (st := s_law_ladder) l14 d14 k14, PySem.W.mg_of X G a14⟩
  have D15 : DefAt K mg "_law_sheet" s_law_sheet _ _ := ⟨fun_mk (st := s_law_sheet) l15 d15 k15, PySem.W.mg_of X G a15⟩
  have D16 : DefAt K mg "_law_great" s_law_great _ _ := ⟨fun_mk (st := s_law_great) l16 d16 k16, PySem.W.mg_of X G a16⟩
  have D17 : DefAt K mg "_law_numbers" s_law_numbers _ _ := ⟨fun_mk (st := s_law_numbers) l17 d17 k17, PySem.W.mg_of X G a17⟩
  have D18 : DefAt K mg "_law_apart" s_law_apart _ _ := ⟨fun_mk (st := s_law_apart) l18 d18 k18, PySem.W.mg_of X G a18⟩
  have D19 : DefAt K mg "law" s_law _ _ := ⟨fun_mk (st := s_law) l19 d19 k19, PySem.W.mg_of X G a19⟩
  refine ⟨PySem.W.fnOf "law" "law" (defArgs s_law) (defBody s_law) (defScope s_law) .none kV19 dc19 pm19 an19 cd19 ct19, fun s v => .of_eq rfl, fun base _ _ => ?_⟩
  have c_law_cell_at := ok_law_cell_at (P := l.prog) (w := w) (base := base) D12 B KV
  have c_law_ladder := ok_law_ladder (P := l.prog) (w := w) (base := base) D14 B KV c_law_cell_at
  have c_law_number := ok_law_number (P := l.prog) (w := w) (base := base) D13 B KV
  have c_law_sheet := ok_law_sheet (P := l.prog) (w := w) (base := base) D15 B KV c_law_number
  have c_law_great := ok_law_great (P := l.prog) (w := w) (base := base) D16 B KV
  have c_thinned := ok_thinned (P := l.prog) (w := w) (base := base) D11 B KV
  have c_neighbours := ok_neighbours (P := l.prog) (w := w) (base := base) D1 B KV
  have c_lifted_places := ok_lifted_places (P := l.prog) (w := w) (base := base) D2 B KV c_neighbours
  have c_gain := ok_gain (P := l.prog) (w := w) (base := base) D3 B KV g_SHIFT g_ADD g_LEFT g_RIGHT
  have c_raised := ok_raised (P := l.prog) (w := w) (base := base) D4 B KV g_HALF c_lifted_places c_gain
  have c_lowered := ok_lowered (P := l.prog) (w := w) (base := base) D5 B KV g_HALF c_lifted_places c_gain
  have c_change_rows := ok_change_rows (P := l.prog) (w := w) (base := base) D6 B KV n_raised n_lowered c_raised c_lowered
  have c_change_columns := ok_change_columns (P := l.prog) (w := w) (base := base) D7 B KV n_raised n_lowered c_raised c_lowered
  have c_laid := ok_laid (P := l.prog) (w := w) (base := base) D8 B KV n_raised c_thinned c_change_rows c_change_columns
  have c_law_numbers := ok_law_numbers (P := l.prog) (w := w) (base := base) D17 B KV
  have c_opened_by := ok_opened_by (P := l.prog) (w := w) (base := base) D9 B KV c_thinned c_change_columns c_change_rows
  have c_opened := ok_opened (P := l.prog) (w := w) (base := base) D10 B KV n_lowered c_opened_by
  have c_law_apart := ok_law_apart (P := l.prog) (w := w) (base := base) D18 B KV
  exact ok_law (P := l.prog) (w := w) (base := base) D19 B KV c_law_cell_at c_law_ladder c_law_sheet c_law_great c_laid c_law_numbers c_opened c_law_apart
end Lw
open PySem PySem.W PyProof.Rows
set_option maxRecDepth 100000 in
set_option maxHeartbeats 0 in
theorem PySem.Challenge.cw_liftwave_k15_laid_opened_holds : PySem.Challenge.rw_liftwave_k15_laid_opened.Holds := by
  w_on; o_law; k_head; (case hw => w_witness2)
  k_fill
  refine L2.law_walkB (k := 7) (l := PySem.Challenge.rw_liftwave_k15_laid_opened) rfl rfl ⟨rfl, by decide, by decide⟩ (fun w h Y => PySem.W.kIn_of Y) ?F
  case F =>
    intro w mg fa h KX G hmg
    refine' Lw.all_mk KX G hmg ?a1 ?l1 ?d1 ?k1 ?a2 ?l2 ?d2 ?k2 ?a3 ?l3 ?d3 ?k3 ?a4 ?l4 ?d4 ?k4 ?a5 ?l5 ?d5 ?k5 ?a6 ?l6 ?d6 ?k6 ?a7 ?l7 ?d7 ?k7 ?a8 ?l8 ?d8 ?k8 ?a9 ?l9 ?d9 ?k9 ?a10 ?l10 ?d10 ?k10 ?dl10 ?a11 ?l11 ?d11 ?k11 ?a12 ?l12 ?d12 ?k12 ?a13 ?l13 ?d13 ?k13 ?a14 ?l14 ?d14 ?k14 ?a15 ?l15 ?d15 ?k15 ?a16 ?l16 ?d16 ?k16 ?a17 ?l17 ?d17 ?k17 ?a18 ?l18 ?d18 ?k18 ?a19 ?l19 ?d19 ?k19 ?v_HALF ?v_LEFT ?v_RIGHT ?v_ADD ?v_SHIFT ?z1 ?z2 ?z3 ?z4 ?z5 ?z6 ?z7 ?z8 ?z9 ?z10 ?z11 ?z12 ?z13 ?z14 ?z15 ?z16 ?z17 ?z18 ?z19 ?z20 ?z21 ?z22 ?t1 ?t2 ?t3 ?t4 ?t5 ?t6 ?t7 ?t8 ?t9 ?t10 ?t11 ?t12 ?t13 ?t14 ?t15 ?t16 ?t17 ?t18 ?t19 ?t20 ?t21 ?t22 ?t23 ?t24 ?t25 ?t26 ?t27 ?t28 ?t29 ?t30
    (case a1 => k_is); (case l1 => k_is); (case d1 => k_is); (case k1 => k_is); (case a2 => k_is); (case l2 => k_is); (case d2 => k_is); (case k2 => k_is)
    (case a3 => k_is); (case l3 => k_is); (case d3 => k_is); (case k3 => k_is); (case a4 => k_is); (case l4 => k_is); (case d4 => k_is); (case k4 => k_is)
    (case a5 => k_is); (case l5 => k_is); (case d5 => k_is); (case k5 => k_is); (case a6 => k_is); (case l6 => k_is); (case d6 => k_is); (case k6 => k_is)
    (case a7 => k_is); (case l7 => k_is); (case d7 => k_is); (case k7 => k_is); (case a8 => k_is); (case l8 => k_is); (case d8 => k_is); (case k8 => k_is)
    (case a9 => k_is); (case l9 => k_is); (case d9 => k_is); (case k9 => k_is); (case a10 => k_is); (case l10 => k_is); (case d10 => k_is); (case k10 => k_is); (case dl10 => k_is)
    (case a11 => k_is); (case l11 => k_is); (case d11 => k_is); (case k11 => k_is); (case a12 => k_is); (case l12 => k_is); (case d12 => k_is); (case k12 => k_is)
    (case a13 => k_is); (case l13 => k_is); (case d13 => k_is); (case k13 => k_is); (case a14 => k_is); (case l14 => k_is); (case d14 => k_is); (case k14 => k_is)
    (case a15 => k_is); (case l15 => k_is); (case d15 => k_is); (case k15 => k_is); (case a16 => k_is); (case l16 => k_is); (case d16 => k_is); (case k16 => k_is)
    (case a17 => k_is); (case l17 => k_is); (case d17 => k_is); (case k17 => k_is); (case a18 => k_is); (case l18 => k_is); (case d18 => k_is); (case k18 => k_is)
    (case a19 => k_is); (case l19 => k_is); (case d19 => k_is); (case k19 => k_is)
    (case v_HALF => k_is); (case v_LEFT => k_is); (case v_RIGHT => k_is); (case v_ADD => k_is); (case v_SHIFT => k_is)
    (case z1 => k_is); (case z2 => k_is); (case z3 => k_is); (case z4 => k_is); (case z5 => k_is); (case z6 => k_is); (case z7 => k_is); (case z8 => k_is); (case z9 => k_is); (case z10 => k_is); (case z11 => k_is); (case z12 => k_is); (case z13 => k_is); (case z14 => k_is); (case z15 => k_is); (case z16 => k_is); (case z17 => k_is); (case z18 => k_is); (case z19 => k_is); (case z20 => k_is); (case z21 => k_is); (case z22 => k_is)
    (case t1 => kit_is); (case t2 => kit_is); (case t3 => kit_is); (case t4 => kit_is); (case t5 => kit_is); (case t6 => kit_is); (case t7 => kit_is); (case t8 => kit_is); (case t9 => kit_is); (case t10 => kit_is); (case t11 => kit_is); (case t12 => kit_is); (case t13 => kit_is); (case t14 => kit_is); (case t15 => kit_is); (case t16 => kit_is); (case t17 => kit_is); (case t18 => kit_is); (case t19 => kit_is); (case t20 => kit_is); (case t21 => kit_is); (case t22 => kit_is); (case t23 => kit_is); (case t24 => kit_is); (case t25 => kit_is); (case t26 => kit_is); (case t27 => kit_is); (case t28 => kit_is); (case t29 => kit_is); (case t30 => kit_is)

