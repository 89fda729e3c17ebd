import PyProof.Rows.All
import Wide.All
import OpenK.AllK
import Wide.FinOn
import Lean
import PyProof.EqAt
import PyProof.EqKinds
import PyProof.TupleCall
import PyProof.ListNew
import PyProof.WalksMore
import PyProof.ReprLoop
import PyProof.FactsAll.list
import PyProof.FactsAll.tuple
import KE.KRevIter
import PyProof.NeKinds
import PyProof.ConsumeWalk
import KE.LcSums
import PyProof.SliceSyntax
import PyProof.EnumFor
import PyProof.EnumMake
import PyProof.EnumStmt
import PyProof.ListRange
import PyProof.ZipIter
import PyProof.FactsAll.range_2
import PyProof.Rows.FactsN_divmod
import PyProof.Rows.SumAny
import OpenK.KOwn
import KE.KTryMore
import PyProof.NsDelKeeps
import PyProof.Rows.StrJoin2
import PyProof.StrBlockI
import PyProof.StrOps2
import PyProof.StrWalks
import PyProof.CompMap
import PyProof.Rows.SortWalk
import PySem.Challenge.RW_liftwave_k26_nested_known
set_option Elab.async false
set_option linter.all false
set_option maxRecDepth 100000
namespace L2
open PySem PySem.Spec PyProof.Rows

abbrev Key := Sum Int Str
def keyIs : Key → Value → Bool
  | .inl k, v => Value.isInt k v
  | .inr x, v => Value.isStrOf x v
def keyH (w : World) : Key → Int
  | .inl k => hashInt k
  | .inr x => hashStr w x
theorem keyIs_shape : ∀ {k : Key} {v : Value}, keyIs k v = true → (∃ i t, k = Sum.inl i ∧ v = Value.int i t) ∨ (∃ x t, k = Sum.inr x ∧ v = Value.str x t)
  | .inl i, v, h => by
    obtain ⟨t, e⟩ := Value.isInt_shape (k := i) (v := v) h
    exact .inl ⟨i, t, rfl, e⟩
  | .inr x, v, h => by
    obtain ⟨t, e⟩ := Value.isStrOf_shape (x := x) (v := v) h
    exact .inr ⟨x, t, rfl, e⟩
theorem key_ll (a b : Int) : decide ((Sum.inl a : Key) = Sum.inl b) = (a == b) := by
  by_cases e : a = b
  · subst e; simp
  · have h : ¬ (Sum.inl a : Key) = Sum.inl b := fun q => e (Sum.inl.inj q)
    rw [decide_eq_false h]
    exact (beq_eq_false_iff_ne.mpr e).symm
theorem key_rr (a b : Str) : decide ((Sum.inr a : Key) = Sum.inr b) = decide (a = b) := by
  by_cases e : a = b
  · subst e; simp
  · have h : ¬ (Sum.inr a : Key) = Sum.inr b := fun q => e (Sum.inr.inj q)
    rw [decide_eq_false h, decide_eq_false e]
theorem key_lr (a : Int) (b : Str) : decide ((Sum.inl a : Key) = Sum.inr b) = false := decide_eq_false (fun q => nomatch q)
theorem key_rl (a : Str) (b : Int) : decide ((Sum.inr a : Key) = Sum.inl b) = false := decide_eq_false (fun q => nomatch q)

def mixKind (prog : Program) (w : World) : PySem.KeyKind prog w Key where
  is := keyIs
  hash := keyH w
  inj := fun v a b ha hb => by
    rcases keyIs_shape ha with ⟨i, t, rfl, rfl⟩ | ⟨x, t, rfl, rfl⟩
    · rcases keyIs_shape hb with ⟨j, u, rfl, e⟩ | ⟨y, u, rfl, e⟩
      · injection e with e1 _; rw [e1]
      · exact nomatch e
    · rcases keyIs_shape hb with ⟨j, u, rfl, e⟩ | ⟨y, u, rfl, e⟩
      · exact nomatch e
      · injection e with e1 _; rw [e1]
  byValue := fun k v h => by
    rcases keyIs_shape h with ⟨i, t, rfl, rfl⟩ | ⟨x, t, rfl, rfl⟩ <;> rfl
  pyHash := fun hv h => by
    rcases keyIs_shape hv with ⟨i, t, rfl, rfl⟩ | ⟨x, t, rfl, rfl⟩
    · exact wpAny_pyHash_int h
    · exact wpAny_pyHash_str h
  eqBool := fun hu hv h => by
    rcases keyIs_shape hu with ⟨i, t, rfl, rfl⟩ | ⟨x, t, rfl, rfl⟩
    · rcases keyIs_shape hv with ⟨j, u, rfl, rfl⟩ | ⟨y, u, rfl, rfl⟩
      · rw [key_ll] at h; exact wpAny_eqBool_int h
      · rw [key_lr] at h; exact SeqAt.EqAt.int_str i t y u _ _ _ _ h
    · rcases keyIs_shape hv with ⟨j, u, rfl, rfl⟩ | ⟨y, u, rfl, rfl⟩
      · rw [key_rl] at h; exact SeqAt.EqAt.str_int x t j u _ _ _ _ h
      · rw [key_rr] at h; exact wpAny_eqBool_str h
  «strs» := fun k x t v h => by
    rcases keyIs_shape h with ⟨i, u, rfl, e⟩ | ⟨y, u, rfl, e⟩
    · exact nomatch e
    · injection e with e1 _
      subst e1
      cases v <;> rfl

end L2

namespace L2
open PySem PySem.Spec PyProof.Rows

inductive V where
  | non | bl (b : Bool) | int (i : Int) | str (x : Str) | byt (b : Array UInt8) | flt (b : UInt64) | ref (a : Addr) | ty (n : String)
  deriving DecidableEq

def RelV : V → Value → Prop
  | .non, u => u = Value.none
  | .bl b, u => u = Value.bool b
  | .int i, u => ∃ t, u = Value.int i t
  | .str x, u => ∃ t, u = Value.str x t
  | .byt b, u => ∃ t, u = Value.bytes b t
  | .flt b, u => ∃ t, u = Value.float b t
  | .ref a, u => u = Value.ref a
  | .ty n, u => u = Value.type n

abbrev Vals : List V → List Value → Prop := Paired RelV
theorem Vals.length {xs : List V} {us : List Value} (r : Vals xs us) : xs.length = us.length := Paired.length r
theorem Vals.get : ∀ {xs : List V} {us : List Value} {i : Nat} {x : V}, Vals xs us → xs[i]? = some x → ∃ u, us[i]? = some u ∧ RelV x u
  | _, _, _, _, .nil, e => by simp at e
  | _, _, 0, _, .cons r _, e => by simp at e; subst e; exact ⟨_, rfl, r⟩
  | _, _, i + 1, x, .cons _ t, e => by
    obtain ⟨u, h1, h2⟩ := Vals.get (i := i) (x := x) t (by simpa using e)
    exact ⟨u, by simpa using h1, h2⟩
theorem Vals.set {x : V} {u : Value} (r : RelV x u) : ∀ {xs : List V} {us : List Value} (i : Nat), Vals xs us → Vals (xs.set i x) (us.set i u)
  | _, _, _, .nil => .nil
  | _, _, 0, .cons _ t => .cons r t
  | _, _, i + 1, .cons q t => .cons q (Vals.set r i t)
theorem Vals.append : ∀ {xs ys : List V} {us ws : List Value}, Vals xs us → Vals ys ws → Vals (xs ++ ys) (us ++ ws)
  | _, _, _, _, .nil, s => s
  | _, _, _, _, .cons r t, s => .cons r (Vals.append t s)
theorem Vals.take : ∀ {xs : List V} {us : List Value} (n : Nat), Vals xs us → Vals (xs.take n) (us.take n)
  | _, _, 0, _ => .nil
  | _, _, _ + 1, .nil => .nil
  | _, _, n + 1, .cons r t => .cons r (Vals.take n t)
theorem Vals.drop : ∀ {xs : List V} {us : List Value} (n : Nat), Vals xs us → Vals (xs.drop n) (us.drop n)
  | _, _, 0, r => r
  | _, _, _ + 1, .nil => .nil
  | _, _, n + 1, .cons _ t => Vals.drop n t
theorem Vals.none_of : ∀ {xs : List V} {us : List Value} {i : Nat}, Vals xs us → xs[i]? = none → us[i]? = none := fun {xs us i} r e => by
  have h1 := r.length
  have h2 : xs.length ≤ i := List.getElem?_eq_none_iff.mp e
  exact List.getElem?_eq_none_iff.mpr (by omega)

def RelO : Option V → Option Value → Prop
  | some v, some u => RelV v u
  | none, none => True
  | _, _ => False
def KV {κ : Type} : List (κ × V) → List (κ × Value) → Prop := Paired fun (p : κ × V) (q : κ × Value) => p.1 = q.1 ∧ RelV p.2 q.2

def kV : Key → V
  | .inl i => .int i
  | .inr x => .str x

inductive HO where
  /-- a list -/
  | lst (xs : List V)
  /-- a tuple (never changes) -/
  | tup (xs : List V)
  /-- a dict whose keys are ints and texts; one whose keys are tuples of ints and texts (the empty one is both) -/
  | dK (kvs : List (Key × V)) | dT (kvs : List (List Key × V))
  /-- a set of ints: its members, its size -/
  | set (S : Int → Bool) (n : Nat)
  /-- an instance of the class at C, its dict at dx, its attributes -/
  | ins (C dx : Addr) (fs : List (Str × V))
  /-- the dict of the instance at x -/
  | own (x : Addr)
  /-- the dict of an exception -/
  | xd (fs : List (Str × V))
  /-- a bound method, f of x -/
  | met (f x : Addr)
  /-- a range object lo, lo + 1, .. below hi -/
  | rng (lo hi : Int)
  /-- a thing that is known to the object (the script; a dict while a loop walks it): read, never written while it is so -/
  | frz (o : Obj) (u : HO)
  /-- a code object's table -/
  | tbl (ps : Array Value)
  /-- any other thing, by what is true of its one object (a def of one's own: SetO a S n := HO.ext fun h => ..) -/
  | ext (φ : Heap → Prop)

abbrev Hp := Addr → Option HO
def upd (H : Hp) (a : Addr) (o : HO) : Hp := fun b => if b = a then some o else H b
theorem upd_same {H : Hp} {a : Addr} {o : HO} : upd H a o a = some o := by unfold upd; rw [if_pos rfl]
theorem upd_ne {H : Hp} {a b : Addr} {o : HO} (h : b ≠ a) : upd H a o b = H b := by unfold upd; rw [if_neg h]
theorem ne_of_none {H : Hp} {a b : Addr} {o : HO} (h : H a = some o) (h' : H b = none) : a ≠ b := by
  intro e; subst e; rw [h] at h'; cases h'

section
variable (P : Program) (w : World)
def ObjOk (H : Hp) (h : Heap) (a : Addr) : HO → Prop
  | .lst xs => xs.length ≤ sizeLine ∧ ∃ (its : List Value) (n : Nat), Vals xs its ∧ h.get? a = some { cls := .type "list", data := .seq its.toArray n }
  | .tup xs => xs.length ≤ sizeLine ∧ ∃ its : List Value, Vals xs its ∧ IsTup h a its.toArray
  | .dK kvs => kvs.length ≤ sizeLine ∧ (a == sysModules) = false ∧ ∃ vs, KV kvs vs ∧ h.DictOf (mixKind P w) a vs
  | .dT kvs => kvs.length ≤ sizeLine ∧ (a == sysModules) = false ∧ ∃ xs : List (List Key × Addr × Value),
      Paired (fun (p : List Key × V) (q : List Key × Addr × Value) => p.1 = q.1 ∧ H q.2.1 = some (.tup (p.1.map kV)) ∧ RelV p.2 q.2.2) kvs xs ∧
      ∃ o es ep, h.get? a = some o ∧ o.ExactDict ∧ o.data = .dict es ep ∧ es.toList = xs.map (entryOfKey (tupleKind (mixKind P w))) ∧ (xs.map (·.1)).Nodup
  | .set S n => h.SetOf (intKind P w) a S n
  | .ins C dx fs => H dx = some (.own a) ∧ fs.length ≤ 1000 ∧ dx ≠ a ∧ h.get? a = some (PySem.W.instObj C dx) ∧
      ∃ mA, h.Ns1 dx mA ∧ (∀ f, RelO (fs.lookup f) (mA f)) ∧ PySem.Within mA (fs.map (·.1))
  | .own _ => ∃ o, h.get? a = some o
  | .xd fs => ∃ mA, h.Ns1 a mA ∧ ∀ f, RelO (fs.lookup f) (mA f)
  | .rng lo hi => ∃ t u v, h.get? a = some { cls := .type "range", data := .fields #[.int lo t, .int hi u, .int 1 v] }
  | .frz o u => h.get? a = some o ∧ ObjOk H h a u
  | .tbl ps => h.get? a = some { cls := .none, data := .fields ps }
  | .met f x => h.get? a = some (PySem.W.methodObj (.ref f) (.ref x))
  | .ext φ => φ h ∧ (∃ o, h.get? a = some o) ∧ ∀ h1 h2 : Heap, φ h1 → (∀ o, h1.get? a = some o → h2.get? a = some o) → φ h2
def HOk (H : Hp) (h : Heap) : Prop := ∀ a o, H a = some o → ObjOk P w H h a o
end

section
variable {P : Program} {w : World} {H H' : Hp} {h h' : Heap} {a : Addr} {o : HO}
theorem ObjOk.lt (x : ObjOk P w H h a o) : a < h.objs.size := by
  cases o with
  | lst xs => obtain ⟨_, _, _, _, e⟩ := x; exact Heap.lt_size e
  | tup xs => obtain ⟨_, _, _, p⟩ := x; exact p.lt
  | dK kvs => obtain ⟨_, _, _, _, o, _, _, e, _⟩ := x; exact Heap.lt_size e
  | dT kvs => obtain ⟨_, _, _, _, o, _, _, e, _⟩ := x; exact Heap.lt_size e
  | set S n => obtain ⟨o, _, _, _, e, _⟩ := x; exact Heap.lt_size e
  | ins C dx fs => obtain ⟨_, _, _, e, _⟩ := x; exact Heap.lt_size e
  | own y => obtain ⟨_, e⟩ := x; exact Heap.lt_size e
  | xd fs => obtain ⟨_, ⟨_, _, _, e, _⟩, _⟩ := x; exact Heap.lt_size e
  | rng lo hi => obtain ⟨_, _, _, e⟩ := x; exact Heap.lt_size e
  | frz ob u => obtain ⟨e, _⟩ := x; exact Heap.lt_size e
  | tbl ps => exact Heap.lt_size (show h.get? a = some _ from x)
  | met f y => exact Heap.lt_size (show h.get? a = some _ from x)
  | ext φ => obtain ⟨_, ⟨_, e⟩, _⟩ := x; exact Heap.lt_size e
theorem Paired.mapP {α β : Type} {F G : α → β → Prop} : ∀ {l₁ : List α} {l₂ : List β}, Paired F l₁ l₂ → (∀ a b, F a b → G a b) → Paired G l₁ l₂
  | _, _, .nil, _ => .nil
  | _, _, .cons r t, f => .cons (f _ _ r) (Paired.mapP t f)
theorem ObjOk.stay (x : ObjOk P w H h a o) (k : ∀ b u, (b = a ∨ H b = some (.own a)) → h.get? b = some u → h'.get? b = some u)
    (ho : ∀ b, H b = some (.own a) → H' b = some (.own a)) (ht : ∀ b xs, H b = some (.tup xs) → H' b = some (.tup xs)) : ObjOk P w H' h' a o := by
  induction o with
  | lst xs => obtain ⟨z, its, n, r, e⟩ := x; exact ⟨z, its, n, r, k _ _ (.inl rfl) e⟩
  | tup xs => obtain ⟨z, its, r, ob, e, c⟩ := x; exact ⟨z, its, r, ob, k _ _ (.inl rfl) e, c⟩
  | dK kvs => obtain ⟨z, y, vs, r, ob, es, ep, e, c⟩ := x; exact ⟨z, y, vs, r, ob, es, ep, k _ _ (.inl rfl) e, c⟩
  | dT kvs =>
    obtain ⟨z, y, xs, r, ob, es, ep, e, c⟩ := x
    exact ⟨z, y, xs, Paired.mapP r fun p q z => ⟨z.1, ht _ _ z.2.1, z.2.2⟩, ob, es, ep, k _ _ (.inl rfl) e, c⟩
  | set S n => obtain ⟨ob, es, ep, t, e, c⟩ := x; exact ⟨ob, es, ep, t, k _ _ (.inl rfl) e, c⟩
  | ins C dx fs =>
    obtain ⟨d, z, ne, e, mA, ⟨od, es, ep, e2, c⟩, r⟩ := x
    exact ⟨ho _ d, z, ne, k _ _ (.inl rfl) e, mA, ⟨od, es, ep, k _ _ (.inr d) e2, c⟩, r⟩
  | own y => obtain ⟨ob, e⟩ := x; exact ⟨ob, k _ _ (.inl rfl) e⟩
  | xd fs => obtain ⟨mA, ⟨od, es, ep, e, c⟩, r⟩ := x; exact ⟨mA, ⟨od, es, ep, k _ _ (.inl rfl) e, c⟩, r⟩
  | rng lo hi => obtain ⟨t, u, v, e⟩ := x; exact ⟨t, u, v, k _ _ (.inl rfl) e⟩
  | frz ob u ih => obtain ⟨e, q⟩ := x; exact ⟨k _ _ (.inl rfl) e, ih q⟩
  | tbl ps =>
    have e : h.get? a = some { cls := .none, data := .fields ps } := x
    show h'.get? a = some { cls := .none, data := .fields ps }
    exact k a _ (.inl rfl) e
  | met f y =>
    have e : h.get? a = some (PySem.W.methodObj (.ref f) (.ref y)) := x
    show h'.get? a = some (PySem.W.methodObj (.ref f) (.ref y))
    exact k a _ (.inl rfl) e
  | ext φ => obtain ⟨p, ⟨o, e⟩, st⟩ := x; exact ⟨st _ _ p fun o q => k _ _ (.inl rfl) q, ⟨o, k _ _ (.inl rfl) e⟩, st⟩
theorem HOk.lt (x : HOk P w H h) (e : H a = some o) : a < h.objs.size := (x a o e).lt
theorem HOk.fresh (x : HOk P w H h) (e : h.objs.size ≤ a) : H a = none := by
  cases q : H a with
  | none => rfl
  | some u => exact absurd (Nat.lt_of_lt_of_le (x.lt q) e) (Nat.lt_irrefl _)
theorem HOk.kept (x : HOk P w H h) (k : ∀ b u, h.get? b = some u → h'.get? b = some u) : HOk P w H h' := fun a o e =>
  (x a o e).stay (fun b u _ q => k b u q) (fun _ q => q) fun _ _ q => q
theorem HOk.laid (x : HOk P w H h) (k : ∀ b u, h.get? b = some u → h'.get? b = some u) (hp : h.objs.size ≤ a) (new : ObjOk P w (upd H a o) h' a o) : HOk P w (upd H a o) h' := fun b u e => by
  have hn := x.fresh hp
  by_cases hb : b = a
  · subst hb; rw [upd_same] at e; cases e; exact new
  · rw [upd_ne hb] at e
    exact (x b u e).stay (fun c v _ q => k c v q) (fun c q => by rw [upd_ne (ne_of_none q hn)]; exact q) fun c xs q => by rw [upd_ne (ne_of_none q hn)]; exact q
end

def Rd (H : Hp) (a : Addr) (u : HO) : Prop := H a = some u ∨ ∃ o, H a = some (.frz o u)
theorem Rd.of {H : Hp} {a : Addr} {u : HO} (h : H a = some u) : Rd H a u := .inl h
theorem Rd.ok {P : Program} {w : World} {H : Hp} {h : Heap} {a : Addr} {u : HO} (r : Rd H a u) (x : HOk P w H h) : ObjOk P w H h a u := by
  rcases r with r | ⟨o, r⟩
  · exact x a u r
  · obtain ⟨_, q⟩ := x a _ r
    exact q
def Mut : Option HO → Prop
  | some (.lst _) => True
  | some (.dK _) => True
  | some (.dT _) => True
  | some (.set _ _) => True
  | some (.ins _ _ _) => True
  | some (.ext _) => True
  | _ => False
section
variable {P : Program} {w : World} {H : Hp} {h h' : Heap} {x e : Addr} {o' : HO}
theorem HOk.write (ok : HOk P w H h) (mu : Mut (H x)) (he : e = x ∨ H e = some (.own x)) (k : ∀ b u, b ≠ e → h.get? b = some u → h'.get? b = some u) (heo : ∃ u, h'.get? e = some u)
    (new : ObjOk P w (upd H x o') h' x o') : HOk P w (upd H x o') h' := fun b u q => by
  have nown : ∀ c y, H c = some (.own y) → c ≠ x := fun c y r z => by subst z; rw [r] at mu; exact mu
  have ntup : ∀ c xs, H c = some (.tup xs) → c ≠ x := fun c xs r z => by subst z; rw [r] at mu; exact mu
  by_cases hb : b = x
  · subst hb; rw [upd_same] at q; cases q; exact new
  · rw [upd_ne hb] at q
    by_cases hbe : b = e
    · have q' : H b = some (.own x) := by
        rcases he with z | z
        · exact absurd (hbe.trans z) hb
        · rw [hbe]; exact z
      rw [q] at q'; cases q'
      obtain ⟨v, hv⟩ := heo
      exact ⟨v, by rw [hbe]; exact hv⟩
    · refine (ok b u q).stay (fun c v hc r => k c v ?_ r) (fun c r => by rw [upd_ne (nown c b r)]; exact r) fun c xs r => by rw [upd_ne (ntup c xs r)]; exact r
      rcases hc with rfl | hc
      · exact hbe
      · rintro rfl
        rcases he with z | z
        · exact nown c b hc z
        · rw [hc] at z; cases z; exact hb rfl
end

structure Un (fs ex : List Addr) (H H' : Hp) (h h' : Heap) : Prop where
  keep : ∀ b o, h.get? b = some o → H b = none → b ∉ fs → b ∉ ex → h'.get? b = some o
  slot : ∀ b o, h.get? b = some o → H b = none → b ∈ fs → b ∉ ex → ∃ sl, h'.get? b = some { o with slots := sl }
  free : ∀ b o, h.get? b = some o → H b = none → b ∉ ex → H' b = none
  there : ∀ b o, h.get? b = some o → b ∉ ex → ∃ o', h'.get? b = some o'
  tups : ∀ b xs, H b = some (.tup xs) → H' b = some (.tup xs)
  frzs : ∀ b o u, H b = some (.frz o u) → H' b = some (.frz o u)
  tbls : ∀ b ps, H b = some (.tbl ps) → ∃ more, H' b = some (.tbl (ps ++ more))
section
variable {fs fs' ex ex' : List Addr} {H H1 H2 : Hp} {h h1 h2 h' : Heap} {a x e : Addr} {o : HO}
theorem Un.any (u : Un fs ex H H1 h h1) {b : Addr} {ob : Obj} (q : h.get? b = some ob) (n : H b = none) (hx : b ∉ ex) : ∃ sl, h1.get? b = some { ob with slots := sl } := by
  by_cases hb : b ∈ fs
  · exact u.slot b ob q n hb hx
  · exact ⟨ob.slots, u.keep b ob q n hb hx⟩
theorem Un.trans (a : Un fs ex H H1 h h1) (b : Un fs ex H1 H2 h1 h2) : Un fs ex H H2 h h2 where
  keep := fun c ob q n hc hx => b.keep c ob (a.keep c ob q n hc hx) (a.free c ob q n hx) hc hx
  slot := fun c ob q n hc hx => by
    obtain ⟨sl, e1⟩ := a.slot c ob q n hc hx
    obtain ⟨sl', e2⟩ := b.slot c _ e1 (a.free c ob q n hx) hc hx
    exact ⟨sl', e2⟩
  free := fun c ob q n hx => by
    obtain ⟨o', e1⟩ := a.there c ob q hx
    exact b.free c o' e1 (a.free c ob q n hx) hx
  there := fun c ob q hx => by
    obtain ⟨o', e1⟩ := a.there c ob q hx
    exact b.there c o' e1 hx
  tups := fun c xs q => b.tups c xs (a.tups c xs q)
  frzs := fun c ob xs q => b.frzs c ob xs (a.frzs c ob xs q)
  tbls := fun c ps q => by
    obtain ⟨m1, e1⟩ := a.tbls c ps q
    obtain ⟨m2, e2⟩ := b.tbls c _ e1
    exact ⟨m1 ++ m2, by rw [e2, Array.append_assoc]⟩
theorem Un.kept (k : ∀ b u, h.get? b = some u → h'.get? b = some u) : Un fs ex H H h h' :=
  ⟨fun b ob q _ _ _ => k b ob q, fun b ob q _ _ _ => ⟨ob.slots, k b ob q⟩, fun _ _ _ n _ => n, fun b ob q _ => ⟨ob, k b ob q⟩, fun _ _ q => q, fun _ _ _ q => q, fun _ ps q => ⟨#[], by rw [q]; simp⟩⟩
theorem Un.refl : Un fs ex H H h h := Un.kept fun _ _ q => q
theorem Un.laid (k : ∀ b u, h.get? b = some u → h'.get? b = some u) (hp : h.objs.size ≤ a) (hn : H a = none) : Un fs ex H (upd H a o) h h' where
  keep := fun b u q _ _ _ => k b u q
  slot := fun b u q _ _ _ => ⟨u.slots, k b u q⟩
  free := fun b u q n _ => by rw [upd_ne (Nat.ne_of_lt (Nat.lt_of_lt_of_le (Heap.lt_size q) hp))]; exact n
  there := fun b u q _ => ⟨u, k b u q⟩
  tups := fun b xs q => by rw [upd_ne (ne_of_none q hn)]; exact q
  frzs := fun b u xs q => by rw [upd_ne (ne_of_none q hn)]; exact q
  tbls := fun b ps q => ⟨#[], by rw [upd_ne (ne_of_none q hn), q]; simp⟩
theorem Un.write (mu : Mut (H x)) (he : e = x ∨ H e = some (.own x)) (k : ∀ b u, b ≠ e → h.get? b = some u → h'.get? b = some u) (heo : ∃ u, h'.get? e = some u) : Un fs ex H (upd H x o) h h' := by
  have hx : ∀ b, H b = none → b ≠ x := fun b n z => by subst z; rw [n] at mu; exact mu
  have hb : ∀ b, H b = none → b ≠ e := fun b n z => by
    subst z
    rcases he with r | r
    · exact hx b n r
    · rw [n] at r; cases r
  have hm : ∀ b u, H b = some u → ¬ Mut (some u) → b ≠ x := fun b u q nm z => by subst z; rw [q] at mu; exact nm mu
  refine ⟨fun b u q n _ _ => k b u (hb b n) q, fun b u q n _ _ => ⟨u.slots, k b u (hb b n) q⟩, fun b u q n _ => by rw [upd_ne (hx b n)]; exact n, fun b u q _ => ?_,
    fun b xs q => by rw [upd_ne (hm b _ q fun z => z)]; exact q, fun b u xs q => by rw [upd_ne (hm b _ q fun z => z)]; exact q, fun b ps q => ⟨#[], by rw [upd_ne (hm b _ q fun z => z), q]; simp⟩⟩
  by_cases hbe : b = e
  · subst hbe; exact heo
  · exact ⟨u, k b u hbe q⟩
theorem Un.mono (u : Un fs ex H H1 h h1) (hs : ∀ b ∈ fs, b ∈ fs') (hx : ∀ b ∈ ex, b ∈ ex') : Un fs' ex' H H1 h h1 :=
  ⟨fun b ob q n hb he => u.keep b ob q n (fun z => hb (hs b z)) fun z => he (hx b z), fun _ _ q n _ he => u.any q n fun z => he (hx _ z), fun b ob q n he => u.free b ob q n fun z => he (hx b z), fun b ob q he => u.there b ob q fun z => he (hx b z), u.tups, u.frzs, u.tbls⟩
end

def trk (h : Heap) (H : Hp) : List Addr := (List.range h.objs.size).filter fun a => (H a).isSome
def hidT (h : Heap) (H : Hp) : Heap := PySem.W.hideAll h (trk h H)
theorem hidT_size (h : Heap) (H : Hp) : (hidT h H).objs.size = h.objs.size := PySem.W.hideAll_size _ _
theorem hidT_get {h : Heap} {H : Hp} {b : Addr} {o : Obj} (e : h.get? b = some o) (n : H b = none) : (hidT h H).get? b = some o :=
  PySem.W.hideAll_get _ e fun hm => by
    have q : (H b).isSome = true := (List.mem_filter.mp hm).2
    rw [n] at q; simp at q
theorem of_hidT {h : Heap} {H : Hp} {b : Addr} {o : Obj} (e : (hidT h H).get? b = some o) : h.get? b = some o ∧ H b = none := by
  have e' : h.get? b = some o := PySem.W.of_hideAll (trk h H) e
  refine ⟨e', ?_⟩
  cases q : H b with
  | none => rfl
  | some x =>
    have hm : b ∈ trk h H := List.mem_filter.mpr ⟨List.mem_range.mpr (Heap.lt_size e'), by simp [q]⟩
    have z : (hidT h H).get? b = none := PySem.W.hideAll_none (trk h H) hm
    rw [z] at e; cases e

def allNews (g h : Heap) (L : Addr) : List (Addr × Obj) := (List.range h.objs.size).filterMap fun a => if a = L ∨ (g.get? a).isSome = true then none else (h.get? a).map fun o => (a, o)
def rest (g h : Heap) (L d : Addr) : List (Addr × Obj) := (allNews g h L).filter fun p => decide (p.1 ≠ d)
end L2

namespace L2
open PySem PySem.Spec PyProof.Rows

structure Mod (K : PySem.W.Frag) (mg : Str → Option Value) (base : Heap) : Prop where
  kin : K.In base
  glob : base.Ns mainGlobals mg
  blt : ∃ mb, base.Ns builtinsNs mb ∧ ∀ x : Str, x ≠ "__name__" → mb x = bootBuiltins x
  nolimit : base.NoLimit

structure Cx where
  prog : Program
  w : World
  K : PySem.W.Frag
  mg : Str → Option Value
  base : Heap
  A : Around
  N : List Str
  s₀ : Shared
  H₀ : Hp
  env : Env
  outer : List Env
  stack : List Env
  ex : List Addr
  fn : Str → Bool
  calm : Bool
  pn : List (Addr × Obj)
  xe : Value → Shared → Prop
def frs (l : List Env) : List Addr := l.filterMap (·.frame)
abbrev Cx.fs (X : Cx) : List Addr := frs X.outer

def Vis (sc : Scope) (x : Str) : Prop := sc.names.lookup x = some .local ∨ sc.names.lookup x = some .cell ∨ sc.names.lookup x = some .free
def Loc (sc : Scope) (x : Str) : Prop := sc.names.lookup x = some .local ∨ sc.names.lookup x = some .cell
def Look (env : Env) (h : Heap) (m : Str → Option Value) (x : Str) (u : Value) : Prop :=
  (env.kindOf x = some .local ∧ m x = some u) ∨ ((env.kindOf x = some .cell ∨ env.kindOf x = some .free) ∧ ∃ c, env.cells.lookup x = some c ∧ h.IsCell c (some u))

structure Cx.Ok (X : Cx) : Prop where
  mod : Mod X.K X.mg X.base
  kind : X.env.scope.kind = .function
  glob : X.env.globals = mainGlobals
  blt : X.env.builtins = builtinsNs
  above : X.s₀.heap.objs.size ≤ X.env.locals
  inj : ∀ x y c, X.env.cells.lookup x = some c → X.env.cells.lookup y = some c → x = y
  has : ∀ x, (X.env.kindOf x = some .cell ∨ X.env.kindOf x = some .free) → ∃ c, X.env.cells.lookup x = some c
  cab : ∀ x c, X.fn x = true → X.env.cells.lookup x = some c → X.s₀.heap.objs.size ≤ c
  hd : X.calm = true → X.A.handled = none
  frames : X.A.frames = some X.stack
  stk : X.stack = X.outer ∨ (X.stack = X.env :: X.outer ∧ X.env.frame = some X.env.locals)
  exf : ∀ b ∈ X.ex, b ≠ X.env.locals ∧ ∀ x c, X.env.cells.lookup x = some c → c ≠ b
  bs : ∀ b o, X.base.get? b = some o → X.s₀.heap.get? b = some o ∧ X.H₀ b = none
  bsz : X.base.objs.size ≤ X.s₀.heap.objs.size
  noex : ∀ b o, X.base.get? b = some o → b ∉ X.ex
  exfs : ∀ b ∈ X.ex, b ∉ X.fs
  funs : X.s₀.heap.FunFrames X.base X.outer
  frf : ∀ b ∈ X.fs, X.H₀ b = none

structure Inv (X : Cx) (pins : List (Addr × Obj)) (σ : List (Option V)) (H : Hp) (s : Shared) : Prop where
  ok : X.Ok
  os : s.os = X.s₀.os
  bare : AllBare s.gens
  base : Un X.fs X.ex X.H₀ H X.s₀.heap s.heap
  loc : ∃ m, s.heap.Ns X.env.locals m ∧ ∀ (i : Nat) (x : Str) (v : V), X.N[i]? = some x → σ[i]? = some (some v) → Vis X.env.scope x → ∃ u, RelV v u ∧ Look X.env s.heap m x u
  cell : ∀ x c, X.env.cells.lookup x = some c → ∃ v, s.heap.IsCell c v
  free : H X.env.locals = none
  freeC : ∀ x c, X.env.cells.lookup x = some c → H c = none
  pin : ∀ p ∈ X.pn ++ pins, s.heap.get? p.1 = some p.2 ∧ H p.1 = none ∧ p.1 ≠ X.env.locals ∧ p.1 ∉ X.fs ∧ ∀ v, p.2.data ≠ .cell v
  hok : HOk X.prog X.w H s.heap
  len : σ.length = X.N.length

section
variable {X : Cx} {pins : List (Addr × Obj)} {σ : List (Option V)} {H H' : Hp} {s : Shared} {h' : Heap}

theorem Cx.Ok.nofr (ok : X.Ok) {b : Addr} {o : Obj} (e : X.base.get? b = some o) : b ∉ X.fs := fun hb => by
  have := (ok.funs.mem hb).1
  rw [e] at this; cases this
theorem Inv.bs (I : Inv X pins σ H s) : ∀ b o, X.base.get? b = some o → s.heap.get? b = some o ∧ H b = none := fun b o e =>
  ⟨I.base.keep b o (I.ok.bs b o e).1 (I.ok.bs b o e).2 (I.ok.nofr e) (I.ok.noex b o e), I.base.free b o (I.ok.bs b o e).1 (I.ok.bs b o e).2 (I.ok.noex b o e)⟩
theorem Inv.bk (I : Inv X pins σ H s) : ∀ b o, X.base.get? b = some o → s.heap.get? b = some o := fun b o e => (I.bs b o e).1
theorem Inv.mod (I : Inv X pins σ H s) : Mod X.K X.mg X.base := I.ok.mod
theorem Inv.kIn (I : Inv X pins σ H s) : X.K.In s.heap := I.ok.mod.kin.keeps I.bk
theorem Inv.nolimit (I : Inv X pins σ H s) : s.heap.NoLimit := I.ok.mod.nolimit.keeps I.bk
theorem Inv.lt (I : Inv X pins σ H s) : X.env.locals < s.heap.objs.size := let ⟨_, hn, _⟩ := I.loc; hn.lt
theorem Inv.sz (I : Inv X pins σ H s) : X.s₀.heap.objs.size ≤ s.heap.objs.size := Nat.le_trans I.ok.above (Nat.le_of_lt I.lt)
theorem Inv.nofs (I : Inv X pins σ H s) {a : Addr} (h : s.heap.objs.size ≤ a) : a ∉ X.fs := fun hb => by
  obtain ⟨_, o, ho, _⟩ := I.ok.funs.mem hb
  exact absurd (Nat.lt_of_lt_of_le (Heap.lt_size ho) (Nat.le_trans I.sz h)) (Nat.lt_irrefl _)
theorem Inv.cne (I : Inv X pins σ H s) : ∀ x c, X.env.cells.lookup x = some c → c ≠ X.env.locals := fun x c e z => by
  obtain ⟨v, o, ho, hd⟩ := I.cell x c e
  obtain ⟨m, ⟨o', es, ep, ho', hd', _⟩, _⟩ := I.loc
  rw [z, ho'] at ho; cases ho; rw [hd'] at hd; cases hd
theorem Inv.funs (I : Inv X pins σ H s) : s.heap.FunFrames X.base X.outer := by
  have all : ∀ (l : List Env), (∀ b ∈ frs l, b ∈ X.fs) → X.s₀.heap.FunFrames X.base l → s.heap.FunFrames X.base l := by
    intro l
    induction l with
    | nil => intro _ _; trivial
    | cons env r ih =>
      intro hs hl
      obtain ⟨hk, ⟨L, o, hf, hn, ho, hd⟩, hr⟩ := hl
      have hL : L ∈ X.fs := hs L (by unfold frs; rw [List.filterMap_cons, hf]; exact List.mem_cons_self)
      obtain ⟨sl, e⟩ := I.base.slot L o ho (I.ok.frf L hL) hL fun z => I.ok.exfs L z hL
      exact ⟨hk, ⟨L, _, hf, hn, e, hd⟩, ih (fun b hb => hs b (by unfold frs; rw [List.filterMap_cons, hf]; exact List.mem_cons_of_mem _ hb)) hr⟩
  exact all X.outer (fun _ hb => hb) I.ok.funs

theorem Inv.stack (I : Inv X pins σ H s) : s.heap.FunFrames X.base X.stack := by
  rcases I.ok.stk with e | ⟨e, hf⟩
  · rw [e]; exact I.funs
  · rw [e]
    obtain ⟨m, hn, _⟩ := I.loc
    refine .cons (by rw [I.ok.kind]; decide) hf hn ?_ I.funs
    exact Heap.get?_none_of_le (Nat.le_trans I.ok.bsz I.ok.above)
theorem Inv.stkSub (I : Inv X pins σ H s) : ∀ b ∈ frs X.stack, b ∈ X.env.locals :: X.fs := fun b hb => by
  rcases I.ok.stk with e | ⟨e, hf⟩
  · rw [e] at hb; exact List.mem_cons_of_mem _ hb
  · rw [e] at hb
    unfold frs at hb
    rw [List.filterMap_cons, hf] at hb
    exact hb
theorem Inv.stkFree (I : Inv X pins σ H s) : ∀ b ∈ frs X.stack, H b = none := fun b hb => by
  rcases List.mem_cons.mp (I.stkSub b hb) with e | hb
  · rw [e]; exact I.free
  · obtain ⟨_, o, ho, _⟩ := I.ok.funs.mem hb
    exact I.base.free b o ho (I.ok.frf b hb) fun z => I.ok.exfs b z hb

theorem Inv.step {g' : Array GenState} {t' : Nat} {d' : Drawn} {ch : List Addr} (I : Inv X pins σ H s)
    (hch : ∀ b ∈ ch, (b ∈ X.ex ∨ X.s₀.heap.objs.size ≤ b) ∧ b ≠ X.env.locals ∧ (∀ x c, X.env.cells.lookup x = some c → c ≠ b) ∧ ∀ p ∈ X.pn ++ pins, p.1 ≠ b)
    (keep : ∀ b o, b ≠ X.env.locals → b ∉ X.fs → b ∉ ch → s.heap.get? b = some o → H b = none → h'.get? b = some o)
    (slot : ∀ b o, b ≠ X.env.locals → b ∈ X.fs → b ∉ ch → s.heap.get? b = some o → H b = none → ∃ sl, h'.get? b = some { o with slots := sl }) (free : ∀ b o, b ∉ ch → s.heap.get? b = some o → H b = none → H' b = none)
    (there : ∀ b o, b ∉ ch → s.heap.get? b = some o → ∃ o', h'.get? b = some o')
    (tups : ∀ b xs, H b = some (.tup xs) → H' b = some (.tup xs)) (frzs : ∀ b o u, H b = some (.frz o u) → H' b = some (.frz o u)) (tbls : ∀ b ps, H b = some (.tbl ps) → ∃ more, H' b = some (.tbl (ps ++ more)))
    (ns : ∀ m, s.heap.Ns X.env.locals m → h'.Ns X.env.locals m) (hok : HOk X.prog X.w H' h') (hg : AllBare g') :
    Inv X pins σ H' { s with heap := h', gens := g', drawn := d', toks := t' } := by
  have neL : ∀ b o, X.s₀.heap.get? b = some o → b ≠ X.env.locals := fun b o e => Nat.ne_of_lt (Nat.lt_of_lt_of_le (Heap.lt_size e) I.ok.above)
  have neC : ∀ b o, X.s₀.heap.get? b = some o → b ∉ X.ex → b ∉ ch := fun b o e hx hb => by
    rcases (hch b hb).1 with z | z
    · exact hx z
    · exact absurd (Nat.lt_of_lt_of_le (Heap.lt_size e) z) (Nat.lt_irrefl _)
  have cellK : ∀ x c, X.env.cells.lookup x = some c → ∀ v, s.heap.IsCell c v → h'.IsCell c v := fun x c e v ⟨o, ho, hd⟩ => by
    have nch : c ∉ ch := fun z => (hch c z).2.2.1 x c e rfl
    by_cases hc : c ∈ X.fs
    · obtain ⟨sl, q⟩ := slot c o (I.cne x c e) hc nch ho (I.freeC x c e)
      exact ⟨_, q, hd⟩
    · exact ⟨o, keep c o (I.cne x c e) hc nch ho (I.freeC x c e), hd⟩
  refine ⟨I.ok, I.os, hg, ⟨fun b o e n hb hx => ?_, fun b o e n hb hx => ?_, fun b o e n hx => ?_, fun b o e hx => ?_, fun b xs e => tups b xs (I.base.tups b xs e), fun b o xs e => frzs b o xs (I.base.frzs b o xs e), fun b ps e => ?_⟩, ?_, fun x c e => ?_, ?_, fun x c e => ?_, fun p hp => ?_, hok, I.len⟩
  · exact keep b o (neL b o e) hb (neC b o e hx) (I.base.keep b o e n hb hx) (I.base.free b o e n hx)
  · obtain ⟨sl, e1⟩ := I.base.slot b o e n hb hx
    obtain ⟨sl', e2⟩ := slot b _ (neL b o e) hb (neC b o e hx) e1 (I.base.free b o e n hx)
    exact ⟨sl', e2⟩
  · obtain ⟨o', e1⟩ := I.base.there b o e hx
    exact free b o' (neC b o e hx) e1 (I.base.free b o e n hx)
  · obtain ⟨o', e1⟩ := I.base.there b o e hx
    exact there b o' (neC b o e hx) e1
  · obtain ⟨m1, e1⟩ := I.base.tbls b ps e
    obtain ⟨m2, e2⟩ := tbls b _ e1
    exact ⟨m1 ++ m2, by rw [e2, Array.append_assoc]⟩
  · obtain ⟨m, hn, hl⟩ := I.loc
    refine ⟨m, ns m hn, fun i x v e1 e2 e3 => ?_⟩
    obtain ⟨u, r, l⟩ := hl i x v e1 e2 e3
    refine ⟨u, r, ?_⟩
    rcases l with l | ⟨k, c, e, z⟩
    · exact .inl l
    · exact .inr ⟨k, c, e, cellK x c e _ z⟩
  · obtain ⟨v, z⟩ := I.cell x c e
    exact ⟨v, cellK x c e v z⟩
  · obtain ⟨m, ⟨o, _, _, ho, _⟩, _⟩ := I.loc
    exact free _ o (fun z => (hch _ z).2.1 rfl) ho I.free
  · obtain ⟨v, o, ho, hd⟩ := I.cell x c e
    exact free c o (fun z => (hch c z).2.2.1 x c e rfl) ho (I.freeC x c e)
  · obtain ⟨e, n, ne, nf, d⟩ := I.pin p hp
    have nch : p.1 ∉ ch := fun z => (hch p.1 z).2.2.2 p hp rfl
    exact ⟨keep p.1 p.2 ne nf nch e n, free p.1 p.2 nch e n, ne, nf, d⟩
theorem Inv.un {t' : Nat} (I : Inv X pins σ H s) (u : Un X.fs [] H H' s.heap h') (hok : HOk X.prog X.w H' h') : Inv X pins σ H' { s with heap := h', toks := t' } := by
  obtain ⟨m, ⟨o, es, ep, ho, r⟩, _⟩ := id I.loc
  obtain ⟨sl, hL⟩ := u.any ho I.free (by simp)
  exact I.step (g' := s.gens) (d' := s.drawn) (ch := []) (fun _ z => nomatch z) (fun b o _ hb _ e n => u.keep b o e n hb (by simp)) (fun b o _ hb _ e n => u.slot b o e n hb (by simp)) (fun b o _ e n => u.free b o e n (by simp)) (fun b o _ e => u.there b o e (by simp)) u.tups u.frzs u.tbls (fun m' hm => by
    obtain ⟨o', es', ep', ho', r'⟩ := hm
    rw [ho] at ho'; cases ho'
    exact ⟨_, es', ep', hL, r'⟩) hok I.bare
theorem Inv.call {g' : Array GenState} {t' : Nat} {d' : Drawn} {ch : List Addr} (I : Inv X pins σ H s) (u : Un (frs X.stack) ch H H' s.heap h') (hok : HOk X.prog X.w H' h') (hg : AllBare g')
    (hch : ∀ b ∈ ch, (b ∈ X.ex ∨ X.s₀.heap.objs.size ≤ b) ∧ b ≠ X.env.locals ∧ (∀ x c, X.env.cells.lookup x = some c → c ≠ b) ∧ ∀ p ∈ X.pn ++ pins, p.1 ≠ b) :
    Inv X pins σ H' { s with heap := h', gens := g', drawn := d', toks := t' } := by
  obtain ⟨m, ⟨o, es, ep, ho, r⟩, _⟩ := id I.loc
  obtain ⟨sl, hL⟩ := u.any ho I.free fun z => (hch _ z).2.1 rfl
  exact I.step (ch := ch) hch (fun b o hL hb hc e n => u.keep b o e n (fun z => (List.mem_cons.mp (I.stkSub b z)).elim hL hb) hc) (fun b o _ _ hc e n => u.any e n hc) (fun b o hc e n => u.free b o e n hc) (fun b o hc e => u.there b o e hc) u.tups u.frzs u.tbls (fun m' hm => by
    obtain ⟨o', es', ep', ho', r'⟩ := hm
    rw [ho] at ho'; cases ho'
    exact ⟨_, es', ep', hL, r'⟩) hok hg
theorem Inv.turned {t' : Nat} {it : Addr} (I : Inv X pins σ H s) (k : ∀ b o, b ≠ it → s.heap.get? b = some o → h'.get? b = some o) (hn : H it = none) (hL : it ≠ X.env.locals)
    (h1 : it ∈ X.ex ∨ X.s₀.heap.objs.size ≤ it) (h2 : ∀ x c, X.env.cells.lookup x = some c → c ≠ it) (h3 : ∀ p ∈ X.pn ++ pins, p.1 ≠ it) : Inv X pins σ H { s with heap := h', toks := t' } := by
  have nit : ∀ b u, H b = some u → b ≠ it := fun b u e z => by rw [z, hn] at e; cases e
  refine I.step (g' := s.gens) (d' := s.drawn) (ch := [it]) (fun b hb => ?_) (fun b o _ _ hc e _ => k b o (fun z => hc (by simp [z])) e) (fun b o _ _ hc e _ => ⟨o.slots, k b o (fun z => hc (by simp [z])) e⟩) (fun _ _ _ _ n => n)
    (fun b o hc e => ⟨o, k b o (fun z => hc (by simp [z])) e⟩) (fun _ _ e => e) (fun _ _ _ e => e) (fun b ps e => ⟨#[], by rw [e]; simp⟩) (fun m hm => ?_) (fun b u e => ?_) I.bare
  · have e : b = it := by simpa using hb
    subst e
    exact ⟨h1, hL, h2, h3⟩
  · obtain ⟨o, es, ep, ho, r⟩ := hm
    exact ⟨o, es, ep, k _ o (Ne.symm hL) ho, r⟩
  · refine (I.hok b u e).stay (fun c v hc q => k c v ?_ q) (fun _ q => q) fun _ _ q => q
    rcases hc with z | z
    · rw [z]; exact nit b u e
    · exact nit c _ z
theorem Inv.tok (I : Inv X pins σ H s) (t : Nat) : Inv X pins σ H { s with toks := t } := I.un (h' := s.heap) (t' := t) Un.refl I.hok
theorem Inv.kept {t' : Nat} (I : Inv X pins σ H s) (k : ∀ b u, s.heap.get? b = some u → h'.get? b = some u) : Inv X pins σ H { s with heap := h', toks := t' } := I.un (Un.kept k) (I.hok.kept k)
theorem Inv.laid {a : Addr} {o : HO} {t' : Nat} (I : Inv X pins σ H s) (k : ∀ b u, s.heap.get? b = some u → h'.get? b = some u) (hp : s.heap.objs.size ≤ a) (new : ObjOk X.prog X.w (upd H a o) h' a o) :
    Inv X pins σ (upd H a o) { s with heap := h', toks := t' } := I.un (Un.laid k hp (I.hok.fresh hp)) (I.hok.laid k hp new)
theorem Inv.write {x e : Addr} {o : HO} {t' : Nat} (I : Inv X pins σ H s) (mu : Mut (H x)) (he : e = x ∨ H e = some (.own x)) (k : ∀ b u, b ≠ e → s.heap.get? b = some u → h'.get? b = some u) (heo : ∃ u, h'.get? e = some u)
    (new : ObjOk X.prog X.w (upd H x o) h' x o) : Inv X pins σ (upd H x o) { s with heap := h', toks := t' } := I.un (Un.write mu he k heo) (I.hok.write mu he k heo new)
theorem Inv.pins_of {pins' : List (Addr × Obj)} (I : Inv X pins σ H s) (h : ∀ p ∈ pins', s.heap.get? p.1 = some p.2 ∧ H p.1 = none ∧ p.1 ≠ X.env.locals ∧ p.1 ∉ X.fs ∧ ∀ v, p.2.data ≠ .cell v) : Inv X pins' σ H s :=
  ⟨I.ok, I.os, I.bare, I.base, I.loc, I.cell, I.free, I.freeC, fun p hp => (List.mem_append.mp hp).elim (fun z => I.pin p (List.mem_append_left _ z)) (h p), I.hok, I.len⟩

theorem nodup_ix {N : List Str} (hN : N.Nodup) {i j : Nat} {x : Str} (a : N[i]? = some x) (b : N[j]? = some x) : i = j := by
  obtain ⟨h1, e1⟩ := List.getElem?_eq_some_iff.mp a
  obtain ⟨h2, e2⟩ := List.getElem?_eq_some_iff.mp b
  exact (List.getElem_inj hN).mp (e1.trans e2.symm)

theorem store_ok2 {M : Model} {A : Around} {E : Value → Shared → Prop} {i : Nat} {x : Str} {v : V} {u : Value} {Q : Unit → Shared → Prop} (I : Inv X pins σ H s) (hN : X.N.Nodup) (hi : X.N[i]? = some x) (hx : Loc X.env.scope x) (r : RelV v u)
    (h : ∀ s', Inv X pins (σ.set i (some v)) H s' → (∃ a, Heap.SameBut a s.heap s'.heap ∧ (a = X.env.locals ∨ X.env.cells.lookup x = some a)) → Q () s') (hf : X.fn x = true ∨ X.env.scope.names.lookup x = some .local := by first | exact .inl rfl | exact .inr rfl | assumption) : wpAny M A (storeName X.env x u) Q E s := by
  obtain ⟨m, hn, hl⟩ := id I.loc
  have hcls : (X.env.scope.kind == .class || (X.env.scope.kind == .module && X.env.locals != X.env.globals)) = false := by rw [I.ok.kind]; rfl
  have hiσ : i < σ.length := by rw [I.len]; exact (List.getElem?_eq_some_iff.mp hi).1
  have cne := I.cne
  have tracked : ∀ {a : Addr} {h' : Heap}, (∃ o, s.heap.get? a = some o ∧ H a = none) → Heap.SameBut a s.heap h' → HOk X.prog X.w H h' := fun {a h'} ha hs b ob e => by
    obtain ⟨_, _, hfree⟩ := ha
    refine (I.hok b ob e).stay (fun c w' hc q => (hs.2 c ?_).trans q) (fun _ q => q) fun _ _ q => q
    rintro rfl
    rcases hc with rfl | hc
    · rw [hfree] at e; cases e
    · rw [hfree] at hc; cases hc
  rcases hx with hk | hk
  · refine wpAny_storeName_local hk hn (fun h' hn' hs => ?_) hcls
    obtain ⟨oL, _, _, hoL, _⟩ := id hn
    refine h _ ⟨I.ok, I.os, I.bare, ⟨fun b o e n hb hx => ?_, fun b o e n hb hx => ?_, I.base.free, fun b o e hx => ?_, I.base.tups, I.base.frzs, I.base.tbls⟩, ⟨_, hn', fun j y v' e1 e2 e3 => ?_⟩, fun y c e => ?_, I.free, I.freeC, fun p hp => ?_, tracked ⟨oL, hoL, I.free⟩ hs, by simpa using I.len⟩ ⟨_, hs, .inl rfl⟩
    · exact (hs.2 b (Nat.ne_of_lt (Nat.lt_of_lt_of_le (Heap.lt_size e) I.ok.above))).trans (I.base.keep b o e n hb hx)
    · obtain ⟨sl, e1⟩ := I.base.slot b o e n hb hx
      exact ⟨sl, (hs.2 b (Nat.ne_of_lt (Nat.lt_of_lt_of_le (Heap.lt_size e) I.ok.above))).trans e1⟩
    · obtain ⟨o', e1⟩ := I.base.there b o e hx
      exact ⟨o', (hs.2 b (Nat.ne_of_lt (Nat.lt_of_lt_of_le (Heap.lt_size e) I.ok.above))).trans e1⟩
    · by_cases hj : j = i
      · subst hj
        rw [hi] at e1; cases e1
        rw [List.getElem?_set_self hiσ] at e2
        cases e2
        exact ⟨u, r, .inl ⟨hk, by simp⟩⟩
      · rw [List.getElem?_set_ne (Ne.symm hj)] at e2
        obtain ⟨u', r', q⟩ := hl j y v' e1 e2 e3
        refine ⟨u', r', ?_⟩
        rcases q with ⟨k, e⟩ | ⟨k, c, e, z⟩
        · refine .inl ⟨k, ?_⟩
          have : y ≠ x := fun e => hj (nodup_ix hN e1 (e ▸ hi))
          simp [this, e]
        · exact .inr ⟨k, c, e, z.sameBut hs (cne y c e)⟩
    · obtain ⟨w', z⟩ := I.cell y c e
      exact ⟨w', z.sameBut hs (cne y c e)⟩
    · obtain ⟨e, n, ne, nf, d⟩ := I.pin p hp
      exact ⟨(hs.2 p.1 ne).trans e, n, ne, nf, d⟩
  · have hfn : X.fn x = true := by
      rcases hf with z | z
      · exact z
      · rw [z] at hk; cases hk
    obtain ⟨c, hc⟩ := I.ok.has x (.inl hk)
    obtain ⟨w', z⟩ := I.cell x c hc
    refine wpAny_storeName_cell I.ok.kind hk hc z (fun h' hc' hs => ?_)
    obtain ⟨oc, hoc, hocd⟩ := id z
    refine h { s with heap := h' } ⟨I.ok, I.os, I.bare, ⟨fun b o e n hb hx => ?_, fun b o e n hb hx => ?_, I.base.free, fun b o e hx => ?_, I.base.tups, I.base.frzs, I.base.tbls⟩, ⟨m, hn.sameBut hs (Ne.symm (cne x c hc)), fun j y v' e1 e2 e3 => ?_⟩, fun y c' e => ?_, I.free, I.freeC, fun p hp => ?_, tracked ⟨oc, hoc, I.freeC x c hc⟩ hs, by simpa using I.len⟩ ⟨c, hs, .inr hc⟩
    · exact (hs.2 b (Nat.ne_of_lt (Nat.lt_of_lt_of_le (Heap.lt_size e) (I.ok.cab x c hfn hc)))).trans (I.base.keep b o e n hb hx)
    · obtain ⟨sl, e1⟩ := I.base.slot b o e n hb hx
      exact ⟨sl, (hs.2 b (Nat.ne_of_lt (Nat.lt_of_lt_of_le (Heap.lt_size e) (I.ok.cab x c hfn hc)))).trans e1⟩
    · obtain ⟨o', e1⟩ := I.base.there b o e hx
      exact ⟨o', (hs.2 b (Nat.ne_of_lt (Nat.lt_of_lt_of_le (Heap.lt_size e) (I.ok.cab x c hfn hc)))).trans e1⟩
    · by_cases hj : j = i
      · subst hj
        rw [hi] at e1; cases e1
        rw [List.getElem?_set_self hiσ] at e2
        cases e2
        exact ⟨u, r, .inr ⟨.inl hk, c, hc, hc'⟩⟩
      · rw [List.getElem?_set_ne (Ne.symm hj)] at e2
        obtain ⟨u', r', q⟩ := hl j y v' e1 e2 e3
        refine ⟨u', r', ?_⟩
        rcases q with q | ⟨k, c', e, z'⟩
        · exact .inl q
        · refine .inr ⟨k, c', e, z'.sameBut hs ?_⟩
          rintro rfl
          exact hj (nodup_ix hN e1 (I.ok.inj _ _ _ e hc ▸ hi))
    · by_cases hcc : c' = c
      · subst hcc; exact ⟨_, hc'⟩
      · obtain ⟨w2, z2⟩ := I.cell y c' e
        exact ⟨w2, z2.sameBut hs hcc⟩
    · obtain ⟨e, n, ne, nf, d⟩ := I.pin p hp
      refine ⟨(hs.2 p.1 ?_).trans e, n, ne, nf, d⟩
      intro q
      rw [q, hoc] at e
      have q' : oc = p.2 := Option.some.inj e
      exact d w' (by rw [← q']; exact hocd)
theorem store_ok {M : Model} {A : Around} {E : Value → Shared → Prop} {i : Nat} {x : Str} {v : V} {u : Value} {Q : Unit → Shared → Prop} (I : Inv X pins σ H s) (hN : X.N.Nodup) (hi : X.N[i]? = some x) (hx : Loc X.env.scope x) (r : RelV v u)
    (h : ∀ s', Inv X pins (σ.set i (some v)) H s' → Q () s') (hf : X.fn x = true ∨ X.env.scope.names.lookup x = some .local := by first | exact .inl rfl | exact .inr rfl | assumption) : wpAny M A (storeName X.env x u) Q E s :=
  store_ok2 I hN hi hx r (fun s' I' _ => h s' I') hf
theorem Inv.call' {s' : Shared} {ch : List Addr} (I : Inv X pins σ H s) (ho : s'.os = s.os) (u : Un (frs X.stack) ch H H' s.heap s'.heap) (hok : HOk X.prog X.w H' s'.heap) (hg : AllBare s'.gens)
    (hch : ∀ b ∈ ch, (b ∈ X.ex ∨ X.s₀.heap.objs.size ≤ b) ∧ b ≠ X.env.locals ∧ (∀ x c, X.env.cells.lookup x = some c → c ≠ b) ∧ ∀ p ∈ X.pn ++ pins, p.1 ≠ b) : Inv X pins σ H' s' := by
  obtain ⟨h', g', d', t', o'⟩ := s'
  have e : o' = s.os := ho
  subst e
  exact I.call (g' := g') (t' := t') (d' := d') u hok hg hch
end

abbrev XK := Value → Option Addr → Hp → Prop
abbrev St := List (Option V)
abbrev VK := V → Hp → Prop
abbrev TE := St → Hp → VK → Prop
abbrev TT := St → Hp → (Bool → Hp → Prop) → Prop
abbrev TA := St → Hp → (List V → Hp → Prop) → Prop
structure Ends where
  nx : St → Hp → Prop
  rt : VK
  bk : St → Hp → Prop := fun _ _ => False
  ct : St → Hp → Prop := fun _ _ => False
abbrev TS := Ends → St → Hp → Prop

def EP (X : Cx) (pins : List (Addr × Obj)) (σ : St) (Q : VK) (u : Value) (s' : Shared) : Prop := ∃ v H', Inv X pins σ H' s' ∧ RelV v u ∧ Q v H'
def TP (X : Cx) (pins : List (Addr × Obj)) (σ : St) (Q : Bool → Hp → Prop) (b : Bool) (s' : Shared) : Prop := ∃ H', Inv X pins σ H' s' ∧ Q b H'
def AP (X : Cx) (pins : List (Addr × Obj)) (σ : St) (Q : List V → Hp → Prop) (us : List Value) (s' : Shared) : Prop := ∃ vs H', Inv X pins σ H' s' ∧ Vals vs us ∧ Q vs H'
def SP (X : Cx) (pins : List (Addr × Obj)) (D : Ends) (f : Flow) (s' : Shared) : Prop :=
  match f with
  | .next => ∃ σ' H', Inv X pins σ' H' s' ∧ D.nx σ' H'
  | .brk => ∃ σ' H', Inv X pins σ' H' s' ∧ D.bk σ' H'
  | .cont => ∃ σ' H', Inv X pins σ' H' s' ∧ D.ct σ' H'
  | .ret u => ∃ v σ' H', Inv X pins σ' H' s' ∧ RelV v u ∧ D.rt v H'

def PE (X : Cx) (e : Expr) (t : TE) : Prop :=
  ∀ (pins : List (Addr × Obj)) (s : Shared) (σ : St) (H : Hp) (Q : VK), Inv X pins σ H s → t σ H Q → wpAny (model X.prog X.w) X.A (eval e X.env) (EP X pins σ Q) X.xe s
def PT (X : Cx) (e : Expr) (t : TT) : Prop :=
  ∀ (pins : List (Addr × Obj)) (s : Shared) (σ : St) (H : Hp) (Q : Bool → Hp → Prop), Inv X pins σ H s → t σ H Q → wpAny (model X.prog X.w) X.A (isTrue e X.env (eval e X.env)) (TP X pins σ Q) X.xe s
def PW (X : Cx) (e : Expr) (t : TT) : Prop :=
  ∀ (whole : Sem Value) (pins : List (Addr × Obj)) (s : Shared) (σ : St) (H : Hp) (Q : Bool → Hp → Prop), Inv X pins σ H s → t σ H Q → wpAny (model X.prog X.w) X.A (isTrue e X.env whole) (TP X pins σ Q) X.xe s
theorem PW.pt {X : Cx} {e : Expr} {t : TT} (h : PW X e t) : PT X e t := h _
def PA (X : Cx) (es : List Expr) (t : TA) : Prop :=
  ∀ (pos : Pos) (pins : List (Addr × Obj)) (s : Shared) (σ : St) (H : Hp) (Q : List V → Hp → Prop), Inv X pins σ H s → t σ H Q → wpAny (model X.prog X.w) X.A (spliced (backTo pos (starEach es X.env))) (AP X pins σ Q) X.xe s
def PS (X : Cx) (st : Stmt) (t : TS) : Prop :=
  ∀ (pins : List (Addr × Obj)) (s : Shared) (σ : St) (H : Hp) (D : Ends), Inv X pins σ H s → t D σ H → wpAny (model X.prog X.w) X.A (exec st X.env) (SP X pins D) X.xe s
def PSs (X : Cx) (st : List Stmt) (t : TS) : Prop :=
  ∀ (pins : List (Addr × Obj)) (s : Shared) (σ : St) (H : Hp) (D : Ends), Inv X pins σ H s → t D σ H → wpAny (model X.prog X.w) X.A (execs st X.env) (SP X pins D) X.xe s
theorem thn {α : Type} {t : Sem α} {Q Q' : α → Shared → Prop} {M : Model} {A : Around} {E : Value → Shared → Prop} {s : Shared} (h : wpAny M A t Q E s) (hQ : ∀ a s, Q a s → Q' a s) : wpAny M A t Q' E s := wpAny_mono h hQ fun _ _ x => x
end L2

namespace L2
open PySem PySem.Spec PyProof.Rows
section
variable {X : Cx}

def tVar (i : Nat) : TE := fun σ H Q => ∃ v, σ[i]? = some (some v) ∧ Q v H
def tC (v : V) : TE := fun _ H Q => Q v H
theorem pe_var {i : Nat} {x : Str} {pos : Pos} (hN : X.N[i]? = some x) (hv : Vis X.env.scope x) (hd : (x == ("__debug__" : Str)) = false := by decide) (hcd : (x == ("__classdict__" : Str)) = false := by decide) : PE X (.Name x pos) (tVar i) := by
  intro pins s σ H Q I h
  obtain ⟨v, e, h⟩ := h
  obtain ⟨m, hn, hl⟩ := I.loc
  obtain ⟨u, r, l⟩ := hl i x v hN e hv
  have fin : EP X pins σ Q u s := ⟨v, H, I, r, h⟩
  rcases l with ⟨hk, hm⟩ | ⟨hk, c, hc, hcell⟩
  · exact wpAny_Name (wpAny_loadName_local I.ok.kind hk hn hm fin) hd
  · rcases hk with hk | hk
    · exact wpAny_Name (wpAny_loadName_cell I.ok.kind hk hc hcell fin) hd
    · exact wpAny_Name (wpAny_loadName_free I.ok.kind hk hc hcell fin hcd) hd
theorem pe_int {i j pos} : PE X (.Constant (.int i) j pos) (tC (.int i)) := fun _ _ _ H _ I h => wpAny_Constant_int ⟨.int i, H, I.tok _, ⟨_, rfl⟩, h⟩
theorem pe_bl {b j pos} : PE X (.Constant (.bool b) j pos) (tC (.bl b)) := fun _ _ _ H _ I h => Constant_bool ⟨.bl b, H, I, rfl, h⟩
theorem pe_str {x j pos} : PE X (.Constant (.str x) j pos) (tC (.str x)) := fun _ _ _ H _ I h => Calls.Constant_str ⟨.str x, H, I.tok _, ⟨_, rfl⟩, h⟩

def Gl (X : Cx) (x : Str) : Prop := X.env.kindOf x = some .globalImplicit
theorem ld_glob {E : Value → Shared → Prop} {pins : List (Addr × Obj)} {s : Shared} {σ : St} {H : Hp} {x : Str} {u : Value} {pos : Pos} {Q : Value → Shared → Prop} (I : Inv X pins σ H s) (hg : Gl X x) (hm : X.mg x = some u) (h : Q u s)
    (hd : (x == ("__debug__" : Str)) = false := by decide) : wpAny (model X.prog X.w) X.A (eval (.Name x pos) X.env) Q E s :=
  Calls.Name_function_global I.ok.kind hg (Calls.loadGlobal_global (by rw [I.ok.glob]; exact I.mod.glob.keeps I.bk) hm h) hd
theorem ld_blt {E : Value → Shared → Prop} {pins : List (Addr × Obj)} {s : Shared} {σ : St} {H : Hp} {x : Str} {u : Value} {pos : Pos} {Q : Value → Shared → Prop} (I : Inv X pins σ H s) (hg : Gl X x) (hm : X.mg x = none) (hv : bootBuiltins x = some u) (h : Q u s)
    (hn : x ≠ "__name__" := by decide) (hd : (x == ("__debug__" : Str)) = false := by decide) : wpAny (model X.prog X.w) X.A (eval (.Name x pos) X.env) Q E s := by
  obtain ⟨mb, h1, h2⟩ := I.mod.blt
  exact Calls.Name_function_global I.ok.kind hg (Calls.loadGlobal_builtin (by rw [I.ok.glob]; exact I.mod.glob.keeps I.bk) hm (by rw [I.ok.blt]; exact h1.keeps I.bk) ((h2 x hn).trans hv) h) hd
theorem pe_glob {x : Str} {v : V} {u : Value} {pos : Pos} (hg : Gl X x) (hm : X.mg x = some u) (r : RelV v u) (hd : (x == ("__debug__" : Str)) = false := by decide) : PE X (.Name x pos) (tC v) :=
  fun _ _ _ H _ I h => ld_glob I hg hm ⟨v, H, I, r, h⟩ hd
theorem pe_bltn {x : Str} {v : V} {u : Value} {pos : Pos} (hg : Gl X x) (hm : X.mg x = none) (hv : bootBuiltins x = some u) (r : RelV v u) (hn : x ≠ "__name__" := by decide) (hd : (x == ("__debug__" : Str)) = false := by decide) : PE X (.Name x pos) (tC v) :=
  fun _ _ _ H _ I h => ld_blt I hg hm hv ⟨v, H, I, r, h⟩ hn hd

variable {a b : Expr} {ta tb : TE} {pos : Pos}
def tB (t : TE) : TT := fun σ H Q => t σ H fun x H1 => ∃ c, x = .bl c ∧ Q c H1
theorem pt_val {e : Expr} {t : TE} (h : PE X e t) (he : ∀ whole, isTrue e X.env whole = (do let v ← whole; standAt e.pos; holding [v] (truthy v)) := by intro _; rfl) : PT X e (tB t) := by
  intro pins s σ H Q I hw
  refine isTrue_plain (thn (h pins s σ H _ I hw) fun v s1 ⟨x, H1, I1, r1, q1⟩ => ?_) (he _)
  obtain ⟨d, rfl, q⟩ := q1
  cases r1
  exact wpAny_truthy_bool ⟨H1, I1, q⟩

variable {tA tB' : TT} {rest : List Expr}
def tAnd (t u : TT) : TT := fun σ H Q => t σ H fun c H1 => if c = true then u σ H1 Q else Q false H1
def tOr (t u : TT) : TT := fun σ H Q => t σ H fun c H1 => if c = true then Q true H1 else u σ H1 Q
def tNot (t : TT) : TT := fun σ H Q => t σ H fun c H1 => Q (!c) H1
theorem pw_and1 (ha : PT X a tA) : PW X (.BoolOp .And [a] pos) tA := by
  intro wh pins s σ H Q I h
  refine isTrue_and (thn (ha pins s σ H Q I h) fun c s1 e => ?_)
  cases c with
  | true => exact isTrue_and_nil e
  | false => exact e
theorem pw_or1 (ha : PT X a tA) : PW X (.BoolOp .Or [a] pos) tA := by
  intro wh pins s σ H Q I h
  refine isTrue_or (thn (ha pins s σ H Q I h) fun c s1 e => ?_)
  cases c with
  | false => exact isTrue_or_nil e
  | true => exact e
theorem pw_and (ha : PT X a tA) (hb : PW X (.BoolOp .And (b :: rest) pos) tB') : PW X (.BoolOp .And (a :: b :: rest) pos) (tAnd tA tB') := by
  intro wh pins s σ H Q I h
  refine isTrue_and (thn (ha pins s σ H _ I h) fun c s1 ⟨H1, I1, q1⟩ => ?_)
  cases c with
  | true => exact hb wh pins s1 σ H1 Q I1 q1
  | false => exact ⟨H1, I1, q1⟩
theorem pw_or (ha : PT X a tA) (hb : PW X (.BoolOp .Or (b :: rest) pos) tB') : PW X (.BoolOp .Or (a :: b :: rest) pos) (tOr tA tB') := by
  intro wh pins s σ H Q I h
  refine isTrue_or (thn (ha pins s σ H _ I h) fun c s1 ⟨H1, I1, q1⟩ => ?_)
  cases c with
  | true => exact ⟨H1, I1, q1⟩
  | false => exact hb wh pins s1 σ H1 Q I1 q1
theorem pt_not (ha : PT X a tA) : PT X (.UnaryOp .Not a pos) (tNot tA) := by
  intro pins s σ H Q I h
  exact isTrue_not (ha pins s σ H (fun c H1 => Q (!c) H1) I h)
def tAndV (ta tb : TE) : TE := fun σ H Q => ta σ H fun x H1 => ∃ c, x = .bl c ∧ if c = true then tb σ H1 Q else Q (.bl false) H1
theorem pe_one {op} {t : TE} (h : PE X a t) : PE X (.BoolOp op [a] pos) t := fun pins s σ H Q I hw => BoolOp_one (h pins s σ H Q I hw)
theorem pe_and (ha : PE X a ta) (hb : PE X (.BoolOp .And (b :: rest) pos) tb) : PE X (.BoolOp .And (a :: b :: rest) pos) (tAndV ta tb) := by
  intro pins s σ H Q I h
  refine BoolOp_and (thn (ha pins s σ H _ I h) fun v s1 ⟨x, H1, I1, r1, q1⟩ => ?_)
  obtain ⟨c, rfl, q1⟩ := q1
  cases r1
  refine wpAny_truthy_bool ?_
  cases c with
  | true => exact hb pins s1 σ H1 Q I1 q1
  | false => exact ⟨.bl false, H1, I1, rfl, q1⟩
end
end L2

namespace L2
open PySem PySem.Spec PyProof.Rows

def SqL (K : PySem.W.Frag) (H : Hp) (a : Addr) (xs : List V) : Prop :=
  Rd H a (.lst xs) ∨
    ∃ (o : Obj) (its : Array Value) (n : Nat), K.lookup a = some o ∧ o.cls = .type "list" ∧ o.dict = none ∧ o.data = .seq its n ∧ its.size ≤ sizeLine ∧ Vals xs its.toList
def SqT (K : PySem.W.Frag) (H : Hp) (a : Addr) (xs : List V) : Prop :=
  Rd H a (.tup xs) ∨
    ∃ (o : Obj) (its : Array Value) (n : Nat), K.lookup a = some o ∧ o.cls = .type "tuple" ∧ o.data = .seq its n ∧ its.size ≤ sizeLine ∧ Vals xs its.toList
def absV : Value → Option V
  | .none => some .non
  | .bool b => some (.bl b)
  | .int i _ => some (.int i)
  | .str x _ => some (.str x)
  | .bytes b _ => some (.byt b)
  | .float b _ => some (.flt b)
  | .ref a => some (.ref a)
  | .type n => some (.ty n)
  | _ => none
theorem RelV.abs {x : V} {u : Value} (r : RelV x u) : absV u = some x := by
  cases x with
  | non => cases r; rfl
  | bl _ => cases r; rfl
  | int _ => obtain ⟨t, rfl⟩ := r; rfl
  | str _ => obtain ⟨t, rfl⟩ := r; rfl
  | byt _ => obtain ⟨t, rfl⟩ := r; rfl
  | flt _ => obtain ⟨t, rfl⟩ := r; rfl
  | ref _ => cases r; rfl
  | ty _ => cases r; rfl
theorem RelV.inj {x y : V} {u : Value} (r : RelV x u) (q : RelV y u) : x = y := Option.some.inj (r.abs.symm.trans q.abs)
theorem Vals.inj : ∀ {xs ys : List V} {us : List Value}, Vals xs us → Vals ys us → xs = ys
  | _, _, _, .nil, .nil => rfl
  | _, _, _, .cons r t, .cons r' t' => by rw [r.inj r', Vals.inj t t']
section
variable {X : Cx} {pins : List (Addr × Obj)} {σ : St} {H : Hp} {s : Shared} {a : Addr} {xs ys : List V}
theorem SqL.of {K : PySem.W.Frag} (h : H a = some (.lst xs)) : SqL K H a xs := .inl (.inl h)
theorem SqT.of {K : PySem.W.Frag} (h : H a = some (.tup xs)) : SqT K H a xs := .inl (.inl h)
theorem Inv.list (I : Inv X pins σ H s) (h : SqL X.K H a xs) : ∃ its : List Value, Vals xs its ∧ PlainL s.heap a its.toArray ∧ xs.length ≤ sizeLine := by
  rcases h with h | ⟨o, its, n, hk, hc, hd, hs, hz, r⟩
  · obtain ⟨z, its, n, r, e⟩ := h.ok I.hok
    exact ⟨its, r, ⟨_, n, e, rfl, rfl, rfl⟩, z⟩
  · refine ⟨its.toList, r, ⟨o, n, I.kIn a o hk, hc, hd, by simpa using hs⟩, ?_⟩
    have e := r.length
    simp only [Array.length_toList] at e
    omega
theorem Inv.tuple (I : Inv X pins σ H s) (h : SqT X.K H a xs) : ∃ its : List Value, Vals xs its ∧ IsTup s.heap a its.toArray ∧ xs.length ≤ sizeLine := by
  rcases h with h | ⟨o, its, n, hk, hc, hs, hz, r⟩
  · obtain ⟨z, its, r, p⟩ := h.ok I.hok
    exact ⟨its, r, p, z⟩
  · refine ⟨its.toList, r, ⟨o, I.kIn a o hk, hc, n, by simpa using hs⟩, ?_⟩
    have e := r.length
    simp only [Array.length_toList] at e
    omega
theorem Inv.list_inj (I : Inv X pins σ H s) (h : SqL X.K H a xs) (h' : SqL X.K H a ys) : xs = ys := by
  obtain ⟨its, r, ⟨o, n, e, _, _, d⟩, _⟩ := I.list h
  obtain ⟨its', r', ⟨o', n', e', _, _, d'⟩, _⟩ := I.list h'
  rw [e] at e'; cases e'
  rw [d] at d'
  injection d' with d1 _
  have : its = its' := by simpa using congrArg Array.toList d1
  subst this
  exact r.inj r'
theorem Inv.tuple_inj (I : Inv X pins σ H s) (h : SqT X.K H a xs) (h' : SqT X.K H a ys) : xs = ys := by
  obtain ⟨its, r, ⟨o, e, _, n, d⟩, _⟩ := I.tuple h
  obtain ⟨its', r', ⟨o', e', _, n', d'⟩, _⟩ := I.tuple h'
  rw [e] at e'; cases e'
  rw [d] at d'
  injection d' with d1 _
  have : its = its' := by simpa using congrArg Array.toList d1
  subst this
  exact r.inj r'
end

abbrev Cx.wish (X : Cx) (E : Value → Shared → Prop) : Cx := { X with xe := E }
abbrev Cx.nox (X : Cx) : Cx := X.wish fun _ _ => False
theorem Cx.Ok.wish {X : Cx} (ok : X.Ok) (E : Value → Shared → Prop) : (X.wish E).Ok :=
  ⟨ok.mod, ok.kind, ok.glob, ok.blt, ok.above, ok.inj, ok.has, ok.cab, ok.hd, ok.frames, ok.stk, ok.exf, ok.bs, ok.bsz, ok.noex, ok.exfs, ok.funs, ok.frf⟩
theorem Cx.Ok.unwish {X : Cx} {E : Value → Shared → Prop} (ok : (X.wish E).Ok) : X.Ok :=
  ⟨ok.mod, ok.kind, ok.glob, ok.blt, ok.above, ok.inj, ok.has, ok.cab, ok.hd, ok.frames, ok.stk, ok.exf, ok.bs, ok.bsz, ok.noex, ok.exfs, ok.funs, ok.frf⟩
section
variable {X : Cx} {pins : List (Addr × Obj)} {σ : St} {H : Hp} {s : Shared} {E : Value → Shared → Prop}
theorem Inv.wish (I : Inv X pins σ H s) (E : Value → Shared → Prop) : Inv (X.wish E) pins σ H s := ⟨I.ok.wish E, I.os, I.bare, I.base, I.loc, I.cell, I.free, I.freeC, I.pin, I.hok, I.len⟩
theorem Inv.unwish (I : Inv (X.wish E) pins σ H s) : Inv X pins σ H s := ⟨I.ok.unwish, I.os, I.bare, I.base, I.loc, I.cell, I.free, I.freeC, I.pin, I.hok, I.len⟩
theorem SP.unwish {D : Ends} {f : Flow} {s' : Shared} (h : SP (X.wish E) pins D f s') : SP X pins D f s' := by
  cases f with
  | next => obtain ⟨σ', H', I, q⟩ := h; exact ⟨σ', H', I.unwish, q⟩
  | brk => obtain ⟨σ', H', I, q⟩ := h; exact ⟨σ', H', I.unwish, q⟩
  | cont => obtain ⟨σ', H', I, q⟩ := h; exact ⟨σ', H', I.unwish, q⟩
  | ret u => obtain ⟨v, σ', H', I, r, q⟩ := h; exact ⟨v, σ', H', I.unwish, r, q⟩
theorem PE.nox {e : Expr} {t : TE} (h : PE X.nox e t) : PE X e t := fun pins s σ H Q I hw =>
  wpAny_mono (h pins s σ H Q (I.wish _) hw) (fun _ _ ⟨v, H', I', r, q⟩ => ⟨v, H', I'.unwish, r, q⟩) fun _ _ z => False.elim z
theorem PT.nox {e : Expr} {t : TT} (h : PT X.nox e t) : PT X e t := fun pins s σ H Q I hw =>
  wpAny_mono (h pins s σ H Q (I.wish _) hw) (fun _ _ ⟨H', I', q⟩ => ⟨H', I'.unwish, q⟩) fun _ _ z => False.elim z
theorem PSs.nox {st : List Stmt} {t : TS} (h : PSs X.nox st t) : PSs X st t := fun pins s σ H D I hw =>
  wpAny_mono (h pins s σ H D (I.wish _) hw) (fun _ _ q => q.unwish) fun _ _ z => False.elim z
end

section
variable {X : Cx} {st : Stmt} {rest : List Stmt} {t u : TS} {e : Expr} {te : TE} {pos : Pos}
def tNext : TS := fun D σ H => D.nx σ H
def tSeq (t u : TS) : TS := fun D σ H => t { D with nx := u D } σ H
theorem pss_nil : PSs X [] tNext := fun _ _ σ H _ I h => wpAny_execs_nil ⟨σ, H, I, h⟩
theorem pss_cons (h1 : PS X st t) (h2 : PSs X rest u) : PSs X (st :: rest) (tSeq t u) := by
  intro pins s σ H D I h
  refine wpAny_execs_cons (thn (h1 pins s σ H { D with nx := u D } I h) fun f s1 q => ?_)
  cases f with
  | next =>
    obtain ⟨σ', H', I', q⟩ := q
    exact h2 pins s1 σ' H' D I' q
  | ret v => exact q
  | brk => exact q
  | cont => exact q
theorem pss_one (h1 : PS X st t) : PSs X [st] t := by
  intro pins s σ H D I h
  refine wpAny_execs_cons (thn (h1 pins s σ H D I h) fun f s1 q => ?_)
  cases f with
  | next => exact wpAny_execs_nil q
  | ret v => exact q
  | brk => exact q
  | cont => exact q
def tBreak : TS := fun D σ H => D.bk σ H
theorem ps_break : PS X (.Break pos) tBreak := fun _ _ σ H _ I h => wpAny_Break ⟨σ, H, I, h⟩
theorem Inv.quiet {pins : List (Addr × Obj)} {σ : St} {H : Hp} {s : Shared} (I : Inv X pins σ H s) : interactive X.env = false := by simp [interactive, I.ok.kind]
def tDrop (te : TE) : TS := fun D σ H => te σ H fun _ H1 => D.nx σ H1
theorem ps_expr (he : PE X e te) (hs : swapsWith e none pos.line X.env = pure false := by rfl) : PS X (.Expr e pos) (tDrop te) := by
  intro pins s σ H D I h
  exact wpAny_Expr_any (thn (he pins s σ H _ I h) fun v s1 ⟨x, H1, I1, r1, q1⟩ => ⟨σ, H1, I1, q1⟩) I.quiet hs
def tRet (te : TE) : TS := fun D σ H => te σ H D.rt
theorem ps_ret (he : PE X e te) : PS X (.Return (some e) pos) (tRet te) := by
  intro pins s σ H D I h
  exact wpAny_Return_some (thn (he pins s σ H _ I h) fun v s1 ⟨x, H1, I1, r1, q1⟩ => ⟨x, σ, H1, I1, r1, q1⟩)
def tIfS (c : TT) (t u : TS) : TS := fun D σ H => c σ H fun b H1 => if b = true then t D σ H1 else u D σ H1
theorem ps_if {c : Expr} {a b : List Stmt} {tc : TT} (hc : PT X c tc) (ha : PSs X a t) (hb : PSs X b u) : PS X (.If c a b pos) (tIfS tc t u) := by
  intro pins s σ H D I h
  refine wpAny_If (thn (hc pins s σ H _ I h) fun d s1 ⟨H1, I1, q1⟩ => ?_)
  cases d with
  | true => exact ha pins s1 σ H1 D I1 q1
  | false => exact hb pins s1 σ H1 D I1 q1
end

abbrev TG := V → St → Hp → (St → Hp → Prop) → Prop
abbrev TGs := List V → St → Hp → (St → Hp → Prop) → Prop
def PG (X : Cx) (target : Expr) (t : TG) : Prop :=
  ∀ (pins : List (Addr × Obj)) (s : Shared) (σ : St) (H : Hp) (v : V) (u : Value) (Q : St → Hp → Prop), Inv X pins σ H s → RelV v u → t v σ H Q →
    wpAny (model X.prog X.w) X.A (assign target X.env u) (fun _ s' => ∃ σ' H', Inv X pins σ' H' s' ∧ Q σ' H') X.xe s
def PGs (X : Cx) (ts : List Expr) (t : TGs) : Prop :=
  ∀ (pins : List (Addr × Obj)) (s : Shared) (σ : St) (H : Hp) (vs : List V) (us : List Value) (Q : St → Hp → Prop), Inv X pins σ H s → Vals vs us → t vs σ H Q →
    wpAny (model X.prog X.w) X.A (assignInOrder ((assignEach ts X.env).map (·.2)) us) (fun _ s' => ∃ σ' H', Inv X pins σ' H' s' ∧ Q σ' H') X.xe s
abbrev TIp := V → V → Hp → VK → Prop
def PIp (X : Cx) (op : Operator) (t : TIp) : Prop :=
  ∀ (pins : List (Addr × Obj)) (s : Shared) (σ : St) (H : Hp) (x y : V) (v u : Value) (Q : VK), Inv X pins σ H s → RelV x v → RelV y u → t x y H Q →
    wpAny (model X.prog X.w) X.A (inplaceOp op v u) (EP X pins σ Q) X.xe s
section
variable {X : Cx} {pos : Pos}
def gName (i : Nat) : TG := fun v σ H Q => Q (σ.set i (some v)) H
theorem pg_name {i : Nat} {x : Str} (hN : X.N.Nodup) (hi : X.N[i]? = some x) (hx : Loc X.env.scope x) (hf : X.fn x = true ∨ X.env.scope.names.lookup x = some .local := by first | exact .inl rfl | exact .inr rfl | assumption) : PG X (.Name x pos) (gName i) := by
  intro pins s σ H v u Q I r h
  exact wpAny_assign_Name (store_ok I hN hi hx r (fun s' I' => ⟨_, H, I', h⟩) hf)
def gNil : TGs := fun vs σ H Q => vs = [] ∧ Q σ H
def gCons (t : TG) (u : TGs) : TGs := fun vs σ H Q => ∃ v r, vs = v :: r ∧ t v σ H fun σ' H' => u r σ' H' Q
theorem pgs_nil : PGs X [] gNil := by
  intro pins s σ H vs us Q I r h
  obtain ⟨e, h⟩ := h
  subst e
  cases r
  exact assignInOrder_nil ⟨σ, H, I, h⟩
theorem pgs_cons {e : Expr} {es : List Expr} {t : TG} {u : TGs} (h1 : PG X e t) (h2 : PGs X es u)
    (hs : (assignEach (e :: es) X.env).map (·.2) = assign e X.env :: (assignEach es X.env).map (·.2) := by rfl) : PGs X (e :: es) (gCons t u) := by
  intro pins s σ H vs us Q I r h
  obtain ⟨v, vr, e1, h⟩ := h
  subst e1
  cases r with
  | cons r rr =>
    rw [hs]
    refine assignInOrder_cons (thn (h1 pins s σ H _ _ _ I r h) fun _ s1 ⟨σ1, H1, I1, q1⟩ => ?_)
    exact h2 pins s1 σ1 H1 _ _ Q I1 rr q1
def gTup (K : PySem.W.Frag) (n : Nat) (t : TGs) : TG := fun v σ H Q => ∃ a xs, v = .ref a ∧ SqT K H a xs ∧ xs.length = n ∧ t xs σ H Q
theorem pg_tup {es : List Expr} {k : Nat} {t : TGs} {n : Nat} (hc : X.calm = true) (h : PGs X es t)
    (hn : (assignEach es X.env).length = n := by rfl) (hst : (assignEach es X.env).findIdx? (·.1) = none := by rfl) : PG X (.Tuple es k pos) (gTup X.K n t) := by
  intro pins s σ H v u Q I r hw
  obtain ⟨a, xs, e1, hq, hl, hw⟩ := hw
  subst e1
  cases r
  obtain ⟨its, rv, ht, hz⟩ := I.tuple hq
  refine assign_Tuple_tuple (I.ok.hd hc) ht (by simp [hn, ← hl, rv.length]) hst fun h' hx => ?_
  have I1 : Inv X pins σ H { s with heap := h' } := I.kept (t' := s.toks) fun b o e => hx b o (Nat.ne_of_lt (Heap.lt_size e)) e
  exact h pins _ σ H xs _ Q I1 (by simpa using rv) hw
def tAsg (te : TE) (g : TG) : TS := fun D σ H => te σ H fun x H1 => g x σ H1 D.nx
theorem ps_set {i : Nat} {x : Str} {e : Expr} {te : TE} {pos' : Pos} (hN : X.N.Nodup) (hi : X.N[i]? = some x) (hx : Loc X.env.scope x) (he : PE X e te) (hs : swapsWith e (some (.Name x pos')) pos.line X.env = pure false := by rfl) (hf : X.fn x = true ∨ X.env.scope.names.lookup x = some .local := by first | exact .inl rfl | exact .inr rfl | assumption) :
    PS X (.Assign [.Name x pos'] e pos) (tAsg te (gName i)) := by
  intro pins s σ H D I h
  refine wpAny_Assign_Name (thn (he pins s σ H _ I h) fun v s1 ⟨y, H1, I1, r1, q1⟩ => ?_) hs
  exact store_ok I1 hN hi hx r1 (fun s2 I2 => ⟨_, H1, I2, q1⟩) hf
def tAug (i : Nat) (te : TE) (ti : TIp) : TS := fun D σ H => ∃ x, σ[i]? = some (some x) ∧ te σ H fun y H1 => ti x y H1 fun z H2 => D.nx (σ.set i (some z)) H2
theorem ps_aug {i : Nat} {x : Str} {e : Expr} {te : TE} {op : Operator} {ti : TIp} {pos' : Pos} (hN : X.N.Nodup) (hi : X.N[i]? = some x) (hx : Loc X.env.scope x) (he : PE X e te) (ho : PIp X op ti) (hf : X.fn x = true ∨ X.env.scope.names.lookup x = some .local := by first | exact .inl rfl | exact .inr rfl | assumption) :
    PS X (.AugAssign (.Name x pos') op e pos) (tAug i te ti) := by
  intro pins s σ H D I h
  obtain ⟨v, e1, h⟩ := h
  obtain ⟨m, hn, hl⟩ := I.loc
  have vis : Vis X.env.scope x := by rcases hx with k | k; exact .inl k; exact .inr (.inl k)
  obtain ⟨u, r, l⟩ := hl i x v hi e1 vis
  refine wpAny_AugAssign_Name ?_
  have go : wpAny (model X.prog X.w) X.A (eval e X.env) (fun w s₂ => wpAny (model X.prog X.w) X.A (inplaceOp op u w) (fun r s₃ => wpAny (model X.prog X.w) X.A (storeName X.env x r) (fun _ => SP X pins D .next) X.xe s₃) X.xe s₂) X.xe s := by
    refine thn (he pins s σ H _ I h) fun w s1 ⟨y, H1, I1, r1, q1⟩ => ?_
    refine thn (ho pins s1 σ H1 v y u w _ I1 r r1 q1) fun z s2 ⟨zv, H2, I2, r2, q2⟩ => ?_
    exact store_ok I2 hN hi hx r2 (fun s3 I3 => ⟨_, H2, I3, q2⟩) hf
  rcases l with ⟨hk, hm⟩ | ⟨hk, c, hc, hcell⟩
  · exact wpAny_loadName_local I.ok.kind hk hn hm go
  · rcases hk with hk | hk
    · exact wpAny_loadName_cell I.ok.kind hk hc hcell go
    · rcases hx with k | k
      · have : X.env.scope.names.lookup x = some .free := hk
        rw [k] at this; cases this
      · have : X.env.scope.names.lookup x = some .free := hk
        rw [k] at this; cases this
end

section
variable {X : Cx} {pos : Pos}
end

structure It where
  go : Nat → Hp → Prop
  yld : Nat → Hp → V → Hp → Prop
  stop : Nat → Hp → Prop
def FpOk (X : Cx) (pins : List (Addr × Obj)) (H : Hp) (b : Addr) : Prop :=
  H b = none ∧ b ≠ X.env.locals ∧ b ∉ X.fs ∧ (b ∈ X.ex ∨ X.s₀.heap.objs.size ≤ b) ∧ (∀ x c, X.env.cells.lookup x = some c → c ≠ b) ∧ ∀ p ∈ X.pn ++ pins, p.1 ≠ b
theorem Inv.fpOk {X : Cx} {pins : List (Addr × Obj)} {σ : St} {H H' : Hp} {s : Shared} {b : Addr} (I : Inv X pins σ H s) (hb : s.heap.objs.size ≤ b) (hn : H' b = none) : FpOk X pins H' b := by
  refine ⟨hn, Nat.ne_of_gt (Nat.lt_of_lt_of_le I.lt hb), I.nofs hb, .inr (Nat.le_trans I.sz hb), fun x c e z => ?_, fun p hp z => ?_⟩
  · obtain ⟨v, q⟩ := I.cell x c e
    exact absurd (Nat.lt_of_lt_of_le q.lt (by rw [z]; exact hb)) (Nat.lt_irrefl _)
  · exact absurd (Nat.lt_of_lt_of_le (Heap.lt_size (I.pin p hp).1) (by rw [z]; exact hb)) (Nat.lt_irrefl _)
structure Turn (P : Program) (w : World) (K : PySem.W.Frag) (tg : Expr) (J : It) (fp : List Addr) (it : Addr) (tn : Nat → Heap → Prop) : Prop where
  mem : it ∈ fp
  obj : ∀ i h, tn i h → ∀ b ∈ fp, ∃ o, h.get? b = some o ∧ ∀ v, o.data ≠ .cell v
  keep : ∀ i h h', tn i h → (∀ b ∈ fp, ∀ o, h.get? b = some o → h'.get? b = some o) → tn i h'
  item : ∀ (X : Cx), X.prog = P → X.w = w → X.K = K → X.calm = true → ∀ (i : Nat) (pins : List (Addr × Obj)) (s : Shared) (σ : St) (H : Hp) (E : Value → Shared → Prop), Inv X pins σ H s → (∀ b ∈ fp, FpOk X pins H b) → tn i s.heap → J.go i H →
    wpAny (model P w) X.A (pyNext (.ref it)) (fun r s1 => ∃ u, r = some u ∧
      wpAny (model P w) X.A (letOwnedTupleGo tg (.ref it) u) (fun _ s2 => ∃ x H', Inv X pins σ H' s2 ∧ RelV x u ∧ J.yld i H x H' ∧ tn (i + 1) s2.heap ∧ ∀ b ∈ fp, H' b = none) E s1) E s
  done : ∀ (X : Cx), X.prog = P → X.w = w → X.K = K → X.calm = true → ∀ (i : Nat) (pins : List (Addr × Obj)) (s : Shared) (σ : St) (H : Hp) (E : Value → Shared → Prop), Inv X pins σ H s → (∀ b ∈ fp, FpOk X pins H b) → tn i s.heap → J.stop i H →
    wpAny (model P w) X.A (pyNext (.ref it)) (fun r s1 => r = none ∧ Inv X pins σ H s1) E s
  self : ∀ (A : Around) (i : Nat) (s : Shared) (Q : Value → Shared → Prop) (E : Value → Shared → Prop), tn i s.heap → Q (.ref it) s → wpAny (model P w) A (pyIter (.ref it)) Q E s
abbrev TI := St → Hp → (It → Hp → Prop) → Prop
def PIE (X : Cx) (pins : List (Addr × Obj)) (σ : St) (tg : Expr) (R : It → Hp → Prop) (itv : Value) (s2 : Shared) : Prop :=
  ∃ (it : Addr) (fp : List Addr) (tn : Nat → Heap → Prop) (J : It) (H' : Hp), itv = .ref it ∧ Inv X pins σ H' s2 ∧ Turn X.prog X.w X.K tg J fp it tn ∧ tn 0 s2.heap ∧ (∀ b ∈ fp, FpOk X pins H' b) ∧ R J H'
def PI (X : Cx) (tg iter : Expr) (wi : TI) : Prop :=
  ∀ (pins : List (Addr × Obj)) (s : Shared) (σ : St) (H : Hp) (R : It → Hp → Prop), Inv X pins σ H s → wi σ H R →
    wpAny (model X.prog X.w) X.A (eval iter X.env) (fun v s1 => wpAny (model X.prog X.w) X.A (pyIter v) (PIE X pins σ tg R) X.xe s1) X.xe s

theorem go_of {M : Model} {A : Around} {E : Value → Shared → Prop} {s : Shared} {tg : Expr} {it : Addr} {u : Value} {o : Obj} {n : String} {vs : Array Value} {Q : Unit → Shared → Prop} (ho : s.heap.get? it = some o) (hc : o.cls = .type n) (hd : o.data = .fields vs)
    (hn : ["enumerate", "zip", "dict_itemiterator", "dict_reverseitemiterator", "odict_iterator", "itertools.zip_longest", "itertools.pairwise"].contains n = false) (hQ : Q () s) : wpAny M A (letOwnedTupleGo tg (.ref it) u) Q E s := by
  unfold letOwnedTupleGo
  cases tg <;> first
    | exact wpAny_pure hQ
    | (cases u <;> first
        | exact wpAny_pure hQ
        | (refine wpAny_bind (wpAny_load ho ?_)
           rw [hc, hd]
           show wpAny M A (if (["enumerate", "zip", "dict_itemiterator", "dict_reverseitemiterator", "odict_iterator", "itertools.zip_longest", "itertools.pairwise"].contains n && vs[0]? == some (rawInt _)) = true then _ else _) Q E s
           rw [if_neg (by intro h; rw [hn, Bool.false_and] at h; cases h)]
           exact wpAny_pure hQ))

def Itl (K : PySem.W.Frag) (a : Addr) : It :=
  ⟨fun i H => ∃ xs x, SqL K H a xs ∧ xs[i]? = some x, fun i H x H' => H' = H ∧ ∀ xs, SqL K H a xs → xs[i]? = some x, fun i H => ∃ xs, SqL K H a xs ∧ xs.length ≤ i⟩
def Itr (lo : Int) (n : Nat) : It := ⟨fun i _ => i < n, fun i H x H' => H' = H ∧ x = .int (lo + i), fun i _ => n ≤ i⟩
theorem turn_list {P : Program} {w : World} {K : PySem.W.Frag} {tg : Expr} (a it : Addr) : Turn P w K tg (Itl K a) [it] it (fun i h => h.IsListIter it a i) where
  mem := by simp
  obj := fun i h st b hb => by
    have e : b = it := by simpa using hb
    subst e
    obtain ⟨o, e, c, d⟩ := st
    exact ⟨o, e, fun v z => by rw [d] at z; cases z⟩
  keep := fun i h h' st k => st.at fun o e => k it (by simp) o e
  item := by
    intro X hP hw hK hc i pins s σ H E I hf st hg
    subst hP hw hK
    obtain ⟨xs, x, hq, hx⟩ := hg
    obtain ⟨its, rv, p, hz⟩ := I.list hq
    obtain ⟨u, hu, ru⟩ := rv.get hx
    obtain ⟨f0, f1, f2, f3, f4, f5⟩ := hf it (by simp)
    refine wpAny_pyNext_list_item st p.isList (x := u) (by simpa using hu) fun h' st' sb => ?_
    have I1 : Inv X pins σ H { s with heap := h' } := I.turned (t' := s.toks) (fun b o hb e => (sb.2 b hb).trans e) f0 f1 f3 f4 f5
    obtain ⟨o, e, c, d⟩ := id st'
    exact ⟨u, rfl, go_of (s := { s with heap := h' }) e c d (by decide) ⟨x, H, I1, ru, ⟨rfl, fun ys hy => by rw [I.list_inj hy hq]; exact hx⟩, st', fun b hb => (hf b hb).1⟩⟩
  done := by
    intro X hP hw hK hc i pins s σ H E I hf st hg
    subst hP hw hK
    obtain ⟨xs, hq, hx⟩ := hg
    obtain ⟨its, rv, p, hz⟩ := I.list hq
    obtain ⟨f0, f1, f2, f3, f4, f5⟩ := hf it (by simp)
    have hl := rv.length
    exact wpAny_pyNext_list_end (I.ok.hd hc) st p.isList (by simp; omega) fun h' eb => ⟨rfl, I.turned (t' := s.toks) (fun b o hb e => eb b o hb e) f0 f1 f3 f4 f5⟩
  self := fun _ _ _ _ _ st h => wpAny_pyIter_listiter st h
theorem turn_range {P : Program} {w : World} {K : PySem.W.Frag} {tg : Expr} (it : Addr) (lo : Int) (n : Nat) : Turn P w K tg (Itr lo n) [it] it (fun i h => IsRangeIter h it (lo + (i : Nat) * 1) ((n : Int) - (i : Nat)) 1) where
  mem := by simp
  obj := fun i h st b hb => by
    have e : b = it := by simpa using hb
    subst e
    exact ⟨_, st, fun v z => by
      have z' : Data.fields _ = Data.cell v := z
      cases z'⟩
  keep := fun i h h' st k => k it (by simp) _ st
  item := by
    intro X hP hw hK hc i pins s σ H E I hf st hg
    subst hP hw hK
    obtain ⟨f0, f1, f2, f3, f4, f5⟩ := hf it (by simp)
    have W := Walks.range (prog := X.prog) (w := X.w) (I.ok.hd hc) it lo 1 n
    refine W.item i s _ _ hg st fun v h' tk hv st' kk => ?_
    obtain ⟨t, rfl⟩ := hv
    have I1 : Inv X pins σ H { s with heap := h', toks := tk } := I.turned (fun b o hb e => kk b o (by simpa using hb) e) f0 f1 f3 f4 f5
    refine ⟨_, rfl, go_of (s := { s with heap := h', toks := tk }) (n := "range_iterator") st' rfl rfl (by decide) ⟨.int (lo + i), H, I1, ⟨t, ?_⟩, ⟨rfl, rfl⟩, st', fun b hb => (hf b hb).1⟩⟩
    rw [Int.mul_one]
  done := by
    intro X hP hw hK hc i pins s σ H E I hf st hg
    subst hP hw hK
    obtain ⟨f0, f1, f2, f3, f4, f5⟩ := hf it (by simp)
    exact wpAny_pyNext_range_end (I.ok.hd hc) st (by have : n ≤ i := hg; omega) fun h' eb => ⟨rfl, I.turned (t' := s.toks) (fun b o hb e => eb b o hb e) f0 f1 f3 f4 f5⟩
  self := fun _ _ _ _ _ st h => wpAny_pyIter_rangeiter st h
end L2

namespace L2
open PySem PySem.Spec PyProof.Rows
section
variable {X : Cx} {tg : Expr}
def iList (K : PySem.W.Frag) (tl : TE) : TI := fun σ H R => tl σ H fun x H1 => ∃ a, x = .ref a ∧ (∃ xs, SqL K H1 a xs) ∧ R (Itl K a) H1
theorem pi_list {l : Expr} {tl : TE} (hl : PE X l tl) : PI X tg l (iList X.K tl) := by
  intro pins s σ H R I h
  refine thn (hl pins s σ H _ I h) fun v s1 ⟨x, H1, I1, r1, q1⟩ => ?_
  obtain ⟨a, e, ⟨xs, hq⟩, q⟩ := q1
  subst e
  cases r1
  obtain ⟨its, rv, p, hz⟩ := I1.list hq
  refine wpAny_pyIter_list p.isList ?_
  refine ⟨s1.heap.objs.size, [s1.heap.objs.size], _, _, H1, rfl, I1.kept (t' := s1.toks) fun b o e => Heap.get?_push_of_some _ e, turn_list a _, ⟨_, Heap.get?_push_size _ rfl, rfl, rfl⟩, fun b hb => ?_, q⟩
  have e : b = s1.heap.objs.size := by simpa using hb
  subst e
  exact I1.fpOk (Nat.le_refl _) (I1.hok.fresh (Nat.le_refl _))
theorem range_it {pins : List (Addr × Obj)} {σ : St} {H : Hp} {s : Shared} {R : It → Hp → Prop} {E : Value → Shared → Prop} {lo hi : Int} {t u v : Tok} {tk : Nat} (I : Inv X pins σ H s) (h1 : -(2 ^ 62) ≤ lo) (h2 : lo < 2 ^ 62) (h3 : -(2 ^ 62) ≤ hi) (h4 : hi < 2 ^ 62)
    (q : R (Itr lo (hi - lo).toNat) H) : wpAny (model X.prog X.w) X.A (pyIter (.ref s.heap.objs.size)) (PIE X pins σ tg R) E { s with heap := s.heap.push { cls := .type "range", data := .fields #[.int lo t, .int hi u, .int 1 v] }, toks := tk } := by
  refine wpAny_pyIter_range (IsRange.new ..) (small_one h1 h2 h3 h4) ?_
  have I1 : Inv X pins σ H { s with heap := s.heap.push { cls := .type "range", data := .fields #[.int lo t, .int hi u, .int 1 v] }, toks := tk } := I.kept fun b o e => Heap.get?_push_of_some _ e
  refine ⟨(s.heap.push { cls := .type "range", data := .fields #[.int lo t, .int hi u, .int 1 v] }).objs.size, [(s.heap.push { cls := .type "range", data := .fields #[.int lo t, .int hi u, .int 1 v] }).objs.size], _, _, H, rfl,
    I1.kept (t' := tk) fun b o e => Heap.get?_push_of_some _ e, turn_range _ lo (hi - lo).toNat, ?_, fun b hb => ?_, q⟩
  · have e1 : lo + ((0 : Nat) : Int) * 1 = lo := by simp
    have e2 : (((hi - lo).toNat : Nat) : Int) - ((0 : Nat) : Int) = Builtin.Range.rangeSize lo hi 1 := by rw [rangeSize_one]; split <;> omega
    show IsRangeIter _ _ (lo + ((0 : Nat) : Int) * 1) ((((hi - lo).toNat : Nat) : Int) - ((0 : Nat) : Int)) 1
    rw [e1, e2]
    exact Heap.get?_push_size _ rfl
  · have e : b = (s.heap.push { cls := .type "range", data := .fields #[.int lo t, .int hi u, .int 1 v] }).objs.size := by simpa using hb
    subst e
    exact I1.fpOk (Nat.le_refl _) (I1.hok.fresh (Nat.le_refl _))
def iRng1 (ta : TA) : TI := fun σ H R => ta σ H fun vs H1 => ∃ j : Int, vs = [.int j] ∧ -(2 ^ 62) ≤ j ∧ j < 2 ^ 62 ∧ R (Itr 0 j.toNat) H1
theorem pi_range1 {a : Expr} {ta : TA} {p pos : Pos} (hg : Gl X "range") (hm : X.mg "range" = none) (ha : PA X [a] ta) (hs : starEach [a] X.env = [(false, eval a X.env)] := by rfl) : PI X tg (.Call (.Name "range" p) [a] [] pos) (iRng1 ta) := by
  intro pins s σ H R I h
  refine Call_ (ld_blt I hg hm boot_range (PyProof.Rows.callWith_type1 (thn (ha pos pins s σ H _ I h) fun us s1 ⟨vs, H1, I1, r1, q1⟩ => ?_) hs rfl))
  obtain ⟨j, e, q1, q2, q⟩ := q1
  subst e
  cases r1 with
  | cons r rr =>
    cases rr
    obtain ⟨t, rfl⟩ := r
    exact call_range_1 (range_it I1 (by omega) (by omega) q1 q2 (by simpa using q))
def tFor (wi : TI) (g : TG) (tb : TS) : TS := fun D σ H => wi σ H fun J H1 => ∃ W : Nat → Nat → St → Hp → Prop, (∃ m, W 0 m σ H1) ∧ ∀ i m σ H, W i m σ H →
  (J.stop i H ∧ D.nx σ H) ∨ (J.go i H ∧ ∃ N : St → Hp → Prop, (∀ σ' H', N σ' H' → ∃ m', m' < m ∧ W (i + 1) m' σ' H') ∧ ∀ x H', J.yld i H x H' → g x σ H' fun σ2 H2 => tb { D with nx := N, ct := N, bk := D.nx } σ2 H2)
def pinsAt (fp : List Addr) (h : Heap) : List (Addr × Obj) := fp.filterMap fun b => (h.get? b).map fun o => (b, o)
theorem mem_pinsAt {fp : List Addr} {h : Heap} {b : Addr} {o : Obj} (hb : b ∈ fp) (e : h.get? b = some o) : (b, o) ∈ pinsAt fp h := List.mem_filterMap.mpr ⟨b, hb, by rw [e]; rfl⟩
theorem of_pinsAt {fp : List Addr} {h : Heap} {p : Addr × Obj} (hp : p ∈ pinsAt fp h) : p.1 ∈ fp ∧ h.get? p.1 = some p.2 := by
  obtain ⟨b, hb, e⟩ := List.mem_filterMap.mp hp
  cases q : h.get? b with
  | none => rw [q] at e; cases e
  | some o =>
    rw [q] at e
    have e' : (b, o) = p := Option.some.inj e
    subst e'
    exact ⟨hb, q⟩
theorem Inv.pinned {pins : List (Addr × Obj)} {σ : St} {H : Hp} {s : Shared} {fp : List Addr} (I : Inv X pins σ H s) (hf : ∀ b ∈ fp, FpOk X pins H b) (ho : ∀ b ∈ fp, ∃ o, s.heap.get? b = some o ∧ ∀ v, o.data ≠ .cell v) : Inv X (pins ++ pinsAt fp s.heap) σ H s :=
  I.pins_of fun p hp => (List.mem_append.mp hp).elim (fun z => I.pin p (List.mem_append_right _ z)) fun z => by
    obtain ⟨hb, e⟩ := of_pinsAt z
    obtain ⟨f0, f1, f2, _⟩ := hf p.1 hb
    obtain ⟨o, e', d⟩ := ho p.1 hb
    rw [e] at e'; cases e'
    exact ⟨e, f0, f1, f2, d⟩
theorem Inv.unpinned {pins pl : List (Addr × Obj)} {σ : St} {H : Hp} {s : Shared} (I : Inv X (pins ++ pl) σ H s) : Inv X pins σ H s := I.pins_of fun p hp => I.pin p (List.mem_append_right _ (List.mem_append_left _ hp))
theorem ps_for {iter : Expr} {body : List Stmt} {wi : TI} {g : TG} {tb : TS} {pos : Pos} (hp : PassesOwn (model X.prog X.w) X.A X.env X.xe) (hc : X.calm = true) (hi : PI X tg iter wi) (hg : PG X tg g) (hb : PSs X body tb)
    (hs : ∀ x, foldedSetIterable iter X.env x = pure x := by intro _; rfl) : PS X (.For tg iter body [] pos) (tFor wi g tb) := by
  intro pins s σ H D I h
  refine wpAny_For (thn (hi pins s σ H _ I h) fun v s1 h1 => thn h1 fun itv s2 h2 => ?_) hs
  obtain ⟨it, fp, tn, J, H2, e, I2, T, st2, f2, W, ⟨m0, w0⟩, turn⟩ := h2
  subst e
  -- what stays true of the iterator's objects through the loop
  have stat : ∀ {H' : Hp}, (∀ b ∈ fp, H' b = none) → ∀ b ∈ fp, FpOk X pins H' b := fun hn b hb => ⟨hn b hb, (f2 b hb).2⟩
  refine codeAny_forLoop_any (fun n s' => ∃ i σ' H', Inv X pins σ' H' s' ∧ tn i s'.heap ∧ (∀ b ∈ fp, H' b = none) ∧ W i n σ' H') ?_ m0 ⟨0, σ, H2, I2, st2, fun b hb => (f2 b hb).1, w0⟩
  rintro n s3 ⟨i, σ3, H3, I3, st3, fr3, w3⟩
  rcases turn i n σ3 H3 w3 with ⟨stop, qn⟩ | ⟨go, N, hN, step⟩
  · refine wpAny_passesOwn hp (thn (T.done X rfl rfl rfl hc i pins s3 σ3 H3 X.xe I3 (stat fr3) st3 stop) fun r s4 ⟨hr, I4⟩ => ?_)
    subst hr
    exact wpAny_execs_nil ⟨σ3, H3, I4, qn⟩
  · refine wpAny_passesOwn hp (thn (T.item X rfl rfl rfl hc i pins s3 σ3 H3 X.xe I3 (stat fr3) st3 go) fun r s4 ⟨u, hr, h4⟩ => ?_)
    subst hr
    refine wpAny_passesOwn hp (thn h4 fun _ s5 ⟨x, H5, I5, r5, y5, st5, fr5⟩ => ?_)
    have I5' := I5.pinned (stat fr5) (T.obj _ _ st5)
    refine wpAny_passesOwn hp (thn (hg _ s5 σ3 H5 x u _ I5' r5 (step x H5 y5)) fun _ s6 ⟨σ6, H6, I6, q6⟩ => ?_)
    refine wpAny_passesOwn hp (thn (hb _ s6 σ6 H6 _ I6 q6) fun f s7 q7 => ?_)
    have again : ∀ {σ7 : St} {H7 : Hp}, Inv X (pins ++ pinsAt fp s5.heap) σ7 H7 s7 → N σ7 H7 → ∃ m, m < n ∧ ∃ i σ' H', Inv X pins σ' H' s7 ∧ tn i s7.heap ∧ (∀ b ∈ fp, H' b = none) ∧ W i m σ' H' := fun {σ7 H7} I7 n7 => by
      obtain ⟨m', hm, w7⟩ := hN σ7 H7 n7
      refine ⟨m', hm, i + 1, σ7, H7, I7.unpinned, T.keep _ _ _ st5 fun b hb o e => (I7.pin (b, o) (List.mem_append_right _ (List.mem_append_right _ (mem_pinsAt hb e)))).1, fun b hb => ?_, w7⟩
      obtain ⟨o, e, d⟩ := T.obj _ _ st5 b hb
      exact (I7.pin (b, o) (List.mem_append_right _ (List.mem_append_right _ (mem_pinsAt hb e)))).2.1
    cases f with
    | next => obtain ⟨σ7, H7, I7, n7⟩ := q7; exact again I7 n7
    | cont => obtain ⟨σ7, H7, I7, n7⟩ := q7; exact again I7 n7
    | brk => obtain ⟨σ7, H7, I7, q7⟩ := q7; exact ⟨σ7, H7, I7.unpinned, q7⟩
    | ret v => obtain ⟨x7, σ7, H7, I7, r7, q7⟩ := q7; exact ⟨x7, σ7, H7, I7.unpinned, r7, q7⟩
end

end L2

namespace L2
open PySem PySem.Spec PyProof.Rows

abbrev R2 := V → V → Hp → VK → Prop
def OpR (X : Cx) (f : Value → Value → Sem Value) (r : R2) : Prop :=
  ∀ (pins : List (Addr × Obj)) (s : Shared) (σ : St) (H : Hp) (x y : V) (v u : Value) (Q : VK), Inv X pins σ H s → RelV x v → RelV y u → r x y H Q →
    wpAny (model X.prog X.w) X.A (f v u) (EP X pins σ Q) X.xe s
def UnR (X : Cx) (f : Value → Sem Value) (r : V → Hp → VK → Prop) : Prop :=
  ∀ (pins : List (Addr × Obj)) (s : Shared) (σ : St) (H : Hp) (x : V) (v : Value) (Q : VK), Inv X pins σ H s → RelV x v → r x H Q →
    wpAny (model X.prog X.w) X.A (f v) (EP X pins σ Q) X.xe s
def CallR (X : Cx) (f : Value) (r : List V → Hp → VK → Prop) : Prop :=
  ∀ (pins : List (Addr × Obj)) (s : Shared) (σ : St) (H : Hp) (xs : List V) (us : List Value) (Q : VK), Inv X pins σ H s → Vals xs us → r xs H Q →
    wpAny (model X.prog X.w) X.A (call f us) (EP X pins σ Q) X.xe s
def TruR (X : Cx) (r : V → Hp → (Bool → Hp → Prop) → Prop) : Prop :=
  ∀ (pins : List (Addr × Obj)) (s : Shared) (σ : St) (H : Hp) (x : V) (v : Value) (Q : Bool → Hp → Prop), Inv X pins σ H s → RelV x v → r x H Q →
    wpAny (model X.prog X.w) X.A (truthy v) (TP X pins σ Q) X.xe s

def tOp (r : R2) (ta tb : TE) : TE := fun σ H Q => ta σ H fun x H1 => tb σ H1 fun y H2 => r x y H2 Q
def tUn (r : V → Hp → VK → Prop) (ta : TE) : TE := fun σ H Q => ta σ H fun x H1 => r x H1 Q
def rI (C : Int → Int → Prop) (g : Int → Int → V) : R2 := fun x y H Q => ∃ i j, x = .int i ∧ y = .int j ∧ C i j ∧ Q (g i j) H
def rI0 (g : Int → Int → V) : R2 := fun x y H Q => ∃ i j, x = .int i ∧ y = .int j ∧ Q (g i j) H
def rU (g : Int → V) : V → Hp → VK → Prop := fun x H Q => ∃ i, x = .int i ∧ Q (g i) H

section
variable {X : Cx} {a b c : Expr} {ta tb tc : TE} {pos : Pos}

theorem binT (ha : PE X a ta) (hb : PE X b tb) {pins : List (Addr × Obj)} {s : Shared} {σ : St} {H : Hp} {R : V → V → Hp → Prop} (I : Inv X pins σ H s)
    (h : ta σ H fun x H1 => tb σ H1 fun y H2 => R x y H2) {Q : Value → Shared → Prop} {f : Value → Value → Sem Value}
    (hf : ∀ v u s2 x y H2, Inv X pins σ H2 s2 → RelV x v → RelV y u → R x y H2 → wpAny (model X.prog X.w) X.A (f v u) Q X.xe s2) :
    wpAny (model X.prog X.w) X.A (eval a X.env) (fun v s₁ => wpAny (model X.prog X.w) X.A (eval b X.env) (fun u s₂ => wpAny (model X.prog X.w) X.A (f v u) Q X.xe s₂) X.xe s₁) X.xe s := by
  refine thn (ha pins s σ H _ I h) fun v s1 ⟨x, H1, I1, r1, q1⟩ => ?_
  refine thn (hb pins s1 σ H1 _ I1 q1) fun u s2 ⟨y, H2, I2, r2, q2⟩ => ?_
  exact hf v u s2 x y H2 I2 r1 r2 q2

theorem pe_op {op : Operator} {r : R2} (ho : OpR X (binaryOp op) r) (ha : PE X a ta) (hb : PE X b tb) : PE X (.BinOp a op b pos) (tOp r ta tb) := by
  intro pins s σ H Q I h
  exact wpAny_BinOp (binT ha hb I h fun v u s2 x y H2 I2 rx ry q => ho pins s2 σ H2 x y v u Q I2 rx ry q)
theorem pe_un {op : UnaryOp} {r : V → Hp → VK → Prop} (ho : UnR X (unaryOp op) r) (ha : PE X a ta) : PE X (.UnaryOp op a pos) (tUn r ta) := by
  intro pins s σ H Q I h
  exact UnaryOp_ (thn (ha pins s σ H _ I h) fun v s1 ⟨x, H1, I1, r1, q1⟩ => ho pins s1 σ H1 x v Q I1 r1 q1)
theorem opI {f : Value → Value → Sem Value} {C : Int → Int → Prop} {g : Int → Int → Int}
    (rule : ∀ (i j : Int) (t u : Tok) (s : Shared) (Q : Value → Shared → Prop) (E : Value → Shared → Prop), C i j → Q (.int (g i j) s.toks) { s with toks := s.toks + 1 } → wpAny (model X.prog X.w) X.A (f (.int i t) (.int j u)) Q E s) :
    OpR X f (rI C fun i j => .int (g i j)) := by
  intro pins s σ H x y v u Q I rx ry h
  obtain ⟨i, j, rfl, rfl, hc, q⟩ := h
  obtain ⟨t, rfl⟩ := rx
  obtain ⟨t', rfl⟩ := ry
  exact rule i j t t' s _ _ hc ⟨.int (g i j), H, I.tok _, ⟨_, rfl⟩, q⟩
theorem opI0 {f : Value → Value → Sem Value} {g : Int → Int → Int}
    (rule : ∀ (i j : Int) (t u : Tok) (s : Shared) (Q : Value → Shared → Prop) (E : Value → Shared → Prop), Q (.int (g i j) s.toks) { s with toks := s.toks + 1 } → wpAny (model X.prog X.w) X.A (f (.int i t) (.int j u)) Q E s) :
    OpR X f (rI0 fun i j => .int (g i j)) := by
  intro pins s σ H x y v u Q I rx ry h
  obtain ⟨i, j, rfl, rfl, q⟩ := h
  obtain ⟨t, rfl⟩ := rx
  obtain ⟨t', rfl⟩ := ry
  exact rule i j t t' s _ _ ⟨.int (g i j), H, I.tok _, ⟨_, rfl⟩, q⟩
theorem opB0 {f : Value → Value → Sem Value} {g : Int → Int → Bool}
    (rule : ∀ (i j : Int) (t u : Tok) (s : Shared) (Q : Value → Shared → Prop) (E : Value → Shared → Prop), Q (.bool (g i j)) s → wpAny (model X.prog X.w) X.A (f (.int i t) (.int j u)) Q E s) :
    OpR X f (rI0 fun i j => .bl (g i j)) := by
  intro pins s σ H x y v u Q I rx ry h
  obtain ⟨i, j, rfl, rfl, q⟩ := h
  obtain ⟨t, rfl⟩ := rx
  obtain ⟨t', rfl⟩ := ry
  exact rule i j t t' s _ _ ⟨.bl (g i j), H, I, rfl, q⟩

def CDiv (i j : Int) : Prop := 0 < j ∧ j < 1073741824
def CPow (i j : Int) : Prop := 0 ≤ j ∧ j ≤ 1000000 ∧ i.natAbs < 2 ^ 64
def CMul (i j : Int) : Prop := (-(2 ^ 64) < i ∧ i < 2 ^ 64) ∨ (-(2 ^ 64) < j ∧ j < 2 ^ 64)
theorem CMul.ok {i j : Int} (h : CMul i j) : IntMulOk i j := by
  rcases h with ⟨h1, h2⟩ | ⟨h1, h2⟩
  · exact .of_left (intBits_le_64 h1 h2)
  · exact .of_right (intBits_le_64 h1 h2)
theorem two_pow_nn (k : Nat) : (0 : Int) ≤ 2 ^ k := by
  rw [two_pow_cast]
  exact Int.natCast_nonneg _

theorem op_add : OpR X (binaryOp .Add) (rI0 fun i j => .int (i + j)) := opI0 fun _ _ _ _ _ _ _ q => add_int q
theorem op_sub : OpR X (binaryOp .Sub) (rI0 fun i j => .int (i - j)) := opI0 fun _ _ _ _ _ _ _ q => sub_int q
theorem op_fdiv : OpR X (binaryOp .FloorDiv) (rI CDiv fun i j => .int (i / j)) := opI fun i j _ _ _ _ _ hc q => by
  have h1 : (0 : Int) < j := hc.1
  have h2 : j < 1073741824 := hc.2
  exact floordiv_int (by omega) (by rw [Int.fdiv_eq_ediv_of_nonneg i (by omega)]; exact q) (.inl (PyProof.noPylong_small (by omega)))
theorem op_mod : OpR X (binaryOp .Mod) (rI (fun _ j => 0 < j) fun i j => .int (i % j)) := opI fun i j _ _ _ _ _ hc q => by
  have h1 : (0 : Int) < j := hc
  exact mod_int' (by omega) (by rw [Int.fmod_eq_emod_of_nonneg i (by omega)]; exact q)
theorem op_shl : OpR X (binaryOp .LShift) (rI CPow fun i j => .int (i * 2 ^ j.toNat)) := opI fun _ _ _ _ _ _ _ hc q => lshift_int_small hc.1 hc.2.1 hc.2.2 q
theorem op_shr : OpR X (binaryOp .RShift) (rI (fun _ j => 0 ≤ j) fun i j => .int (i / 2 ^ j.toNat)) := opI fun i j _ _ _ _ _ hc q =>
  rshift_int hc (by rw [Int.fdiv_eq_ediv_of_nonneg i (two_pow_nn _)]; exact q)
theorem op_and : OpR X (binaryOp .BitAnd) (rI0 fun i j => .int (Builtin.bitAnd i j)) := opI0 fun _ _ _ _ _ _ _ q => and_int q
theorem unI {f : Value → Sem Value} {g : Int → Int}
    (rule : ∀ (i : Int) (t : Tok) (s : Shared) (Q : Value → Shared → Prop) (E : Value → Shared → Prop), Q (.int (g i) s.toks) { s with toks := s.toks + 1 } → wpAny (model X.prog X.w) X.A (f (.int i t)) Q E s) :
    UnR X f (rU fun i => .int (g i)) := by
  intro pins s σ H x v Q I rx h
  obtain ⟨i, rfl, q⟩ := h
  obtain ⟨t, rfl⟩ := rx
  exact rule i t s _ _ ⟨.int (g i), H, I.tok _, ⟨_, rfl⟩, q⟩
theorem un_neg : UnR X (unaryOp .USub) (rU fun i => .int (-i)) := unI fun _ _ _ _ _ q => neg_int q
end

def scal : V → V → Bool
  | .non, .non => true | .non, .int _ => true | .int _, .non => true | .non, .bl _ => true | .bl _, .non => true | .non, .str _ => true | .str _, .non => true
  | .int _, .int _ => true | .bl _, .bl _ => true | .str _, .str _ => true | .byt _, .byt _ => true
  | .int _, .str _ => true | .str _, .int _ => true | .bl _, .str _ => true | .str _, .bl _ => true
  | _, _ => false
def rEq : R2 := fun x y H Q => scal x y = true ∧ Q (.bl (decide (x = y))) H
def rNe : R2 := fun x y H Q => scal x y = true ∧ Q (.bl (!decide (x = y))) H

theorem dec_int {i j : Int} : decide (V.int i = V.int j) = (i == j) := by
  rw [Bool.eq_iff_iff]
  simp
theorem dec_bl {i j : Bool} : decide (V.bl i = V.bl j) = (i == j) := by
  rw [Bool.eq_iff_iff]
  simp
theorem dec_str {i j : Str} : decide (V.str i = V.str j) = (i == j) := by
  rw [Bool.eq_iff_iff]
  simp
theorem dec_byt {i j : Array UInt8} : decide (V.byt i = V.byt j) = (i.toList == j.toList) := by
  rw [Bool.eq_iff_iff]
  cases i
  cases j
  simp

section
variable {X : Cx} {a b c : Expr} {ta tb tc : TE} {pos : Pos}
theorem fin_bl {pins : List (Addr × Obj)} {σ : St} {H : Hp} {s : Shared} {Q : VK} {k k' : Bool} (I : Inv X pins σ H s) (q : Q (.bl k) H) (e : k = k') : EP X pins σ Q (.bool k') s := by
  subst e
  exact ⟨.bl k, H, I, rfl, q⟩
theorem op_eq : OpR X (compareOp .Eq) rEq := by
  intro pins s σ H x y v u Q I rx ry h
  obtain ⟨hs, q⟩ := h
  cases x with
  | non =>
    cases rx
    cases y with
    | non => cases ry; exact PySem.EqNone.eq_none_none (fin_bl I q (by simp))
    | bl j => cases ry; exact PySem.EqNone.eq_none_bool (fin_bl I q (by simp))
    | int j => obtain ⟨t', rfl⟩ := ry; exact PySem.EqNone.eq_none_int (fin_bl I q (by simp))
    | str j => obtain ⟨t', rfl⟩ := ry; exact PySem.EqNone.eq_none_str (fin_bl I q (by simp))
    | _ => exact absurd (show false = true from hs) Bool.false_ne_true
  | bl i =>
    cases rx
    cases y with
    | non => cases ry; exact PySem.EqNone.eq_bool_none (fin_bl I q (by simp))
    | bl j => cases ry; exact eq_bool (fin_bl I q dec_bl)
    | str j => obtain ⟨t', rfl⟩ := ry; exact PySem.EqMixed.eq_bool_str (fin_bl I q (by simp))
    | _ => exact absurd (show false = true from hs) Bool.false_ne_true
  | int i =>
    obtain ⟨t, rfl⟩ := rx
    cases y with
    | non => cases ry; exact PySem.EqNone.eq_int_none (fin_bl I q (by simp))
    | int j => obtain ⟨t', rfl⟩ := ry; exact eq_int (fin_bl I q dec_int)
    | str j => obtain ⟨t', rfl⟩ := ry; exact PySem.EqMixed.eq_int_str (fin_bl I q (by simp))
    | _ => exact absurd (show false = true from hs) Bool.false_ne_true
  | str i =>
    obtain ⟨t, rfl⟩ := rx
    cases y with
    | non => cases ry; exact PySem.EqNone.eq_str_none (fin_bl I q (by simp))
    | bl j => cases ry; exact PySem.EqMixed.eq_str_bool (fin_bl I q (by simp))
    | int j => obtain ⟨t', rfl⟩ := ry; exact PySem.EqMixed.eq_str_int (fin_bl I q (by simp))
    | str j => obtain ⟨t', rfl⟩ := ry; exact eq_str (fin_bl I q dec_str)
    | _ => exact absurd (show false = true from hs) Bool.false_ne_true
  | byt i =>
    obtain ⟨t, rfl⟩ := rx
    cases y with
    | byt j => obtain ⟨t', rfl⟩ := ry; exact PySem.W.eq_bytes (fin_bl I q dec_byt)
    | _ => exact absurd (show false = true from hs) Bool.false_ne_true
  | _ => cases y <;> exact absurd (show false = true from hs) Bool.false_ne_true
theorem op_ne : OpR X (compareOp .NotEq) rNe := by
  intro pins s σ H x y v u Q I rx ry h
  obtain ⟨hs, q⟩ := h
  cases x with
  | non =>
    cases rx
    cases y with
    | non => cases ry; exact PySem.EqNone.ne_none_none (fin_bl I q (by simp))
    | bl j => cases ry; exact PySem.EqNone.ne_none_bool (fin_bl I q (by simp))
    | int j => obtain ⟨t', rfl⟩ := ry; exact PySem.EqNone.ne_none_int (fin_bl I q (by simp))
    | str j => obtain ⟨t', rfl⟩ := ry; exact PySem.EqNone.ne_none_str (fin_bl I q (by simp))
    | _ => exact absurd (show false = true from hs) Bool.false_ne_true
  | bl i =>
    cases rx
    cases y with
    | non => cases ry; exact PySem.EqNone.ne_bool_none (fin_bl I q (by simp))
    | bl j => cases ry; exact ne_bool (fin_bl I q (congrArg not dec_bl))
    | str j => obtain ⟨t', rfl⟩ := ry; exact PySem.EqMixed.ne_bool_str (fin_bl I q (by simp))
    | _ => exact absurd (show false = true from hs) Bool.false_ne_true
  | int i =>
    obtain ⟨t, rfl⟩ := rx
    cases y with
    | non => cases ry; exact PySem.EqNone.ne_int_none (fin_bl I q (by simp))
    | int j => obtain ⟨t', rfl⟩ := ry; exact ne_int (fin_bl I q (congrArg not dec_int))
    | str j => obtain ⟨t', rfl⟩ := ry; exact PySem.EqMixed.ne_int_str (fin_bl I q (by simp))
    | _ => exact absurd (show false = true from hs) Bool.false_ne_true
  | str i =>
    obtain ⟨t, rfl⟩ := rx
    cases y with
    | non => cases ry; exact PySem.EqNone.ne_str_none (fin_bl I q (by simp))
    | bl j => cases ry; exact PySem.EqMixed.ne_str_bool (fin_bl I q (by simp))
    | int j => obtain ⟨t', rfl⟩ := ry; exact PySem.EqMixed.ne_str_int (fin_bl I q (by simp))
    | str j => obtain ⟨t', rfl⟩ := ry; exact ne_str (fin_bl I q (congrArg not dec_str))
    | _ => exact absurd (show false = true from hs) Bool.false_ne_true
  | byt i =>
    obtain ⟨t, rfl⟩ := rx
    cases y with
    | byt j => obtain ⟨t', rfl⟩ := ry; exact PySem.W.ne_bytes (fin_bl I q (congrArg not dec_byt))
    | _ => exact absurd (show false = true from hs) Bool.false_ne_true
  | _ => cases y <;> exact absurd (show false = true from hs) Bool.false_ne_true

theorem op_lt : OpR X (compareOp .Lt) (rI0 fun i j => .bl (decide (i < j))) := opB0 fun _ _ _ _ _ _ _ q => lt_int q
theorem op_le : OpR X (compareOp .LtE) (rI0 fun i j => .bl (decide (i ≤ j))) := opB0 fun _ _ _ _ _ _ _ q => le_int q
theorem op_gt : OpR X (compareOp .Gt) (rI0 fun i j => .bl (decide (j < i))) := opB0 fun _ _ _ _ _ _ _ q => gt_int q
theorem op_ge : OpR X (compareOp .GtE) (rI0 fun i j => .bl (decide (j ≤ i))) := opB0 fun _ _ _ _ _ _ _ q => ge_int q
theorem OpR.or {f : Value → Value → Sem Value} {r r' : R2} (h : OpR X f r) (h' : OpR X f r') : OpR X f (fun x y H Q => r x y H Q ∨ r' x y H Q) := by
  intro pins s σ H x y v u Q I rx ry q
  rcases q with q | q
  · exact h pins s σ H x y v u Q I rx ry q
  · exact h' pins s σ H x y v u Q I rx ry q

theorem nomark (b : Expr) {op : CmpOp} (h : op ≠ .In := by decide) (h2 : op ≠ .NotIn := by decide) : behindInMarks op b = false := by
  have e1 : (op == CmpOp.In) = false := by cases op <;> first | rfl | exact absurd rfl h
  have e2 : (op == CmpOp.NotIn) = false := by cases op <;> first | rfl | exact absurd rfl h2
  cases b <;> simp [behindInMarks, e1, e2]
theorem pe_cmpR {op : CmpOp} {r : R2} (ho : OpR X (compareOp op) r) (ha : PE X a ta) (hb : PE X b tb) (hm : behindInMarks op b = false) : PE X (.Compare a [op] [b] pos) (tOp r ta tb) := by
  intro pins s σ H Q I h
  exact wpAny_Compare1 (binT ha hb I h fun v u s2 x y H2 I2 rx ry q => ho pins s2 σ H2 x y v u Q I2 rx ry q) hm
def tTest (t : TE) : TT := fun σ H Q => t σ H fun x H' => ∃ k, x = .bl k ∧ Q k H'
theorem pt_cmpR {op : CmpOp} {r : R2} (ho : OpR X (compareOp op) r) (ha : PE X a ta) (hb : PE X b tb) (hm : behindInMarks op b = false) : PT X (.Compare a [op] [b] pos) (tTest (tOp r ta tb)) := by
  intro pins s σ H Q I h
  refine wpAny_isTrue_Compare1 (thn (ha pins s σ H _ I h) fun v s1 ⟨x, H1, I1, r1, q1⟩ => thn (hb pins s1 σ H1 _ I1 q1) fun u s2 ⟨y, H2, I2, r2, q2⟩ =>
    thn (ho pins s2 σ H2 x y v u _ I2 r1 r2 q2) fun c s3 ⟨z, H3, I3, r3, k, e, q3⟩ => ?_) hm
  subst e
  cases r3
  exact wpAny_truthy_bool ⟨H3, I3, q3⟩
def TruV (K : PySem.W.Frag) (x : V) (H : Hp) (k : Bool) : Prop :=
  match x with
  | .non => k = false
  | .bl b => k = b
  | .int i => k = (i != 0)
  | .str y => y.length ≤ sizeLine ∧ k = ((y.length : Int) != 0)
  | .byt y => y.size ≤ sizeLine ∧ k = ((y.size : Int) != 0)
  | .ref p => (∃ xs, SqL K H p xs ∧ k = !xs.isEmpty) ∨ (∃ xs, SqT K H p xs ∧ k = !xs.isEmpty) ∨ ∃ kvs, H p = some (.dK kvs) ∧ k = !kvs.isEmpty
  | _ => False
theorem isEmpty_kv {κ : Type} {kvs : List (κ × V)} {vs : List (κ × Value)} (r : KV kvs vs) : (!vs.isEmpty) = !kvs.isEmpty := by
  cases r <;> rfl
theorem isEmpty_of {xs : List V} {its : List Value} (r : Vals xs its) : (!its.toArray.isEmpty) = !xs.isEmpty := by
  cases r <;> simp
theorem line63 : (sizeLine : Nat) < 2 ^ 63 := by rw [sizeLine_eq]; decide
theorem tru_ok : TruR X (fun x H Q => ∃ k, TruV X.K x H k ∧ Q k H) := by
  intro pins s σ H x v Q I rx h
  obtain ⟨k, e, q⟩ := h
  have hl := line63
  have hs : sizeLine = 16777216 := sizeLine_eq
  cases x with
  | non =>
    cases rx
    have e' : k = false := e
    subst e'
    exact truthy_none ⟨H, I, q⟩
  | bl b =>
    cases rx
    have e' : k = b := e
    subst e'
    exact wpAny_truthy_bool ⟨H, I, q⟩
  | int i =>
    obtain ⟨t, rfl⟩ := rx
    have e' : k = (i != 0) := e
    subst e'
    exact PySem.P.truthy_int ⟨H, I, q⟩
  | str y =>
    obtain ⟨t, rfl⟩ := rx
    obtain ⟨hy, e'⟩ : y.length ≤ sizeLine ∧ k = ((y.length : Int) != 0) := e
    subst e'
    exact PySem.P.truthy_str (by omega) ⟨H, I.tok _, q⟩
  | byt y =>
    obtain ⟨t, rfl⟩ := rx
    obtain ⟨hy, e'⟩ : y.size ≤ sizeLine ∧ k = ((y.size : Int) != 0) := e
    subst e'
    exact PySem.W.truthy_bytes (by omega) ⟨H, I.tok _, q⟩
  | ref p =>
    cases rx
    have e' : (∃ xs, SqL X.K H p xs ∧ k = !xs.isEmpty) ∨ (∃ xs, SqT X.K H p xs ∧ k = !xs.isEmpty) ∨ ∃ kvs, H p = some (.dK kvs) ∧ k = !kvs.isEmpty := e
    rcases e' with ⟨xs, hx, e'⟩ | ⟨xs, hx, e'⟩ | ⟨kvs, hx, e'⟩
    · subst e'
      obtain ⟨its, r, pl, hz⟩ := I.list hx
      have hlen := r.length
      exact wpAny_truthy_list pl.isList (by simp only [List.size_toArray]; omega) ⟨H, I.tok _, by rw [isEmpty_of r]; exact q⟩
    · subst e'
      obtain ⟨its, r, pl, hz⟩ := I.tuple hx
      have hlen := r.length
      exact truthy_tuple pl (by simp only [List.size_toArray]; omega) ⟨H, I.tok _, by rw [isEmpty_of r]; exact q⟩
    · subst e'
      obtain ⟨hz, hS, vs, r, m⟩ : kvs.length ≤ sizeLine ∧ (p == sysModules) = false ∧ ∃ vs, KV kvs vs ∧ s.heap.DictOf (mixKind X.prog X.w) p vs := I.hok p _ hx
      have hlen : kvs.length = vs.length := Paired.length r
      exact wpAny_truthy_dict hS m (by omega) ⟨H, I.tok _, by rw [isEmpty_kv r]; exact q⟩
  | _ => exact (show False from e).elim
theorem pt_truth (ha : PE X a ta) (he : ∀ whole, isTrue a X.env whole = (do let v ← whole; standAt a.pos; holding [v] (truthy v))) :
    PT X a (fun σ H Q => ta σ H fun x H' => ∃ k, TruV X.K x H' k ∧ Q k H') := by
  intro pins s σ H Q I h
  exact isTrue_plain (thn (ha pins s σ H _ I h) fun v s1 ⟨x, H1, I1, r1, q1⟩ => tru_ok pins s1 σ H1 x v Q I1 r1 q1) (he _)

theorem iop_add_str : OpR X (inplaceOp .Add) (fun x y H Q => ∃ i j, x = .str i ∧ y = .str j ∧ i.length + j.length ≤ sizeLine ∧ Q (.str (i ++ j)) H) := by
  intro pins s σ H x y v u Q I rx ry h
  obtain ⟨i, j, rfl, rfl, hz, q⟩ := h
  obtain ⟨t, rfl⟩ := rx
  obtain ⟨t', rfl⟩ := ry
  exact iadd_str (fun t' tk => ⟨.str (i ++ j), H, I.tok _, ⟨_, rfl⟩, q⟩) hz
theorem vals1 {x : V} {us : List Value} (r : Vals [x] us) : ∃ u, us = [u] ∧ RelV x u := by
  cases r with
  | cons r1 r2 => cases r2; exact ⟨_, rfl, r1⟩
theorem vals2 {x y : V} {us : List Value} (r : Vals [x, y] us) : ∃ u w', us = [u, w'] ∧ RelV x u ∧ RelV y w' := by
  cases r with
  | cons r1 r2 =>
    cases r2 with
    | cons r3 r4 => cases r4; exact ⟨_, _, rfl, r1, r3⟩
theorem call_min2 (hc : X.calm = true) : CallR X (.builtin "min") (fun xs H Q => ∃ i j, xs = [.int i, .int j] ∧ Q (.int (if j < i then j else i)) H) := by
  intro pins s σ H xs us Q I r h
  obtain ⟨i, j, rfl, q⟩ := h
  obtain ⟨u, w', rfl, ⟨t, rfl⟩, ⟨t', rfl⟩⟩ := vals2 r
  refine min_two_ints (I.ok.hd hc) fun h' tk k => ⟨_, H, I.kept k, ?_, q⟩
  by_cases hj : j < i
  · rw [if_pos hj, if_pos hj]; exact ⟨_, rfl⟩
  · rw [if_neg hj, if_neg hj]; exact ⟨_, rfl⟩
theorem call_str_int : CallR X (.type "str") (fun xs H Q => ∃ i, xs = [.int i] ∧ i.natAbs.log2 < 1920 ∧ Q (.str (toString i)) H) := by
  intro pins s σ H xs us Q I r h
  obtain ⟨i, rfl, hz, q⟩ := h
  obtain ⟨u, rfl, t, rfl⟩ := vals1 r
  exact PySem.P.str_of_int hz ⟨.str _, H, I.tok _, ⟨_, rfl⟩, q⟩
end
end L2

namespace L2
open PySem PySem.Spec PyProof.Rows

structure ObjM (h : Heap) (x dx C : Addr) (mA : Str → Option Value) : Prop where
  obj : h.get? x = some (PySem.W.instObj C dx)
  ns : h.Ns1 dx mA
  ne : dx ≠ x

theorem lookIn_ns {h : Heap} {dx : Addr} {mA : Str → Option Value} (n : h.Ns1 dx mA) : ∃ od, h.get? dx = some od ∧ ∀ name, PySem.W.lookIn name od = some (mA name) := by
  obtain ⟨o, es, ep, ho, hd, hk, _, hm⟩ := n
  refine ⟨o, ho, fun name => ?_⟩
  have e := hm name
  unfold nsFind findBy at e
  rw [← Array.find?_toList] at e
  unfold PySem.W.lookIn
  rw [hd]
  dsimp only
  split
  · rename_i y q
    rw [q] at e
    exact congrArg some e
  · rename_i q
    rw [q] at e
    have a : es.toList.any (·.refKey) = false := by
      rw [List.any_eq_false]
      intro y hy
      obtain ⟨z, t, hkey⟩ := hk y (Array.mem_toList_iff.mp hy)
      simp [DictEntry.refKey, hkey]
    have a' : ¬ es.toList.any (·.refKey) = true := by rw [a]; exact Bool.false_ne_true
    rw [if_neg a']
    exact congrArg some e

theorem ObjM.look {h : Heap} {x dx C : Addr} {mA : Str → Option Value} (I : ObjM h x dx C mA) : ∃ od, PySem.W.InstAt h x (PySem.W.instObj C dx) C (some od) ∧ ∀ name, PySem.W.lookIn name od = some (mA name) :=
  let ⟨od, ho, hl⟩ := lookIn_ns I.ns
  ⟨od, ⟨I.obj, rfl, rfl, ho⟩, hl⟩

section
variable {prog : Program} {w : World} {A : Around} {E : Value → Shared → Prop} {s : Shared} {K : PySem.W.Frag} {x dx C f : Addr} {mA : Str → Option Value} {name : Str} {v : Value}

theorem get_map {expr : Bool} {Q : Value → Shared → Prop} (X : K.In s.heap) (I : ObjM s.heap x dx C mA) (hg : PySem.W.plainGet K C name = true) (hh : PySem.W.hasDictIn K C = true)
    (ha : PySem.W.findIn K (.ref C) name = some none) (hv : mA name = some v) (hv' : PySem.W.handedIn v = true) (h : Q v { s with toks := s.toks + 1 }) :
    wpAny (model prog w) A (getAttr (.ref x) name expr) Q E s := by
  obtain ⟨od, J, hl⟩ := I.look
  exact PySem.W.get_value X J (PySem.W.plainGet_of hg).1 (PySem.W.findObj_own hh ha rfl (by rw [hl, hv])) hv' h

theorem get_meth {pl : Sem Bool} {Q : Value × List Value → Shared → Prop} (X : K.In s.heap) (I : ObjM s.heap x dx C mA) (hg : PySem.W.plainGet K C name = true)
    (hf : PySem.W.findIn K (.ref C) name = some (some (.ref f))) (ht : PySem.W.isFn K (.ref f) = true) (hv : mA name = none) (h : Q (.ref f, [.ref x]) s) :
    wpAny (model prog w) A (getMethod (.ref x) name pl) Q E s := by
  obtain ⟨od, J, hl⟩ := I.look
  exact PySem.W.method_fn X J (PySem.W.plainGet_of hg).1 (PySem.W.plainGet_of hg).2 hf (beq_iff_eq.mp ht) (by show (PySem.W.lookIn name od).map (·.isSome) = some false; rw [hl, hv]; rfl) h

theorem set_map {ns : List Str} {Q : Unit → Shared → Prop} (X : K.In s.heap) (I : ObjM s.heap x dx C mA)
    (hs : PySem.W.findIn K (.ref C) "__setattr__" = some (some (.builtin "object.__setattr__"))) (hp : PySem.W.plainOver K C = true) (ht : PySem.W.takerIn K C name = some none) (hh : PySem.W.hasDictIn K C = true)
    (hw : PySem.Within mA ns) (hsz : ns.length ≤ sizeLine)
    (h : ∀ h', ObjM h' x dx C (fun y => if y = name then some v else mA y) → Heap.SameBut dx s.heap h' → Q () { s with heap := h', toks := s.toks + 2 }) :
    wpAny (model prog w) A (setAttr (.ref x) name v) Q E s := by
  obtain ⟨od, J, hl⟩ := I.look
  refine PySem.W.set_plain X J hs (PySem.W.osa_open (s := { s with toks := s.toks + 1 }) (r := none) X J hp ht fun b => ?_)
  obtain ⟨cd, hc, hd'⟩ := PySem.W.any_some hh
  have hx : s.heap.get? x = some ⟨.ref C, some dx, .plain, #[]⟩ := I.obj
  refine wpAny_bind (wpAny_pure (wpAny_bind (wpAny_bind (wpAny_loadPart hx (wpAny_bind (PySem.W.Looks.here (s := { s with toks := s.toks + 1 }) (PySem.W.looks_clsIn X hc) ?_))))))
  rw [hd']
  refine wpAny_pure (a := some dx) (wpAny_bind (wpAny_pure (wpAny_bind ?_)))
  refine wpAny_nsSet1 (s := { s with toks := s.toks + 1 }) I.ns fun h' hn2 hs2 => ?_
  obtain ⟨oD, esD, epD, hoD, hdD, hcD⟩ := hn2.count (PySem.Within.cons name v hw)
  refine wpAny_bind (wpAny_lookBehind hoD (by rw [hdD]; exact pastItsLine_dict (Nat.le_trans hcD (by rw [List.length_cons]; omega))) ?_)
  exact wpAny_pure (h _ ⟨(hs2.2 _ (Ne.symm I.ne)).trans I.obj, hn2, I.ne⟩ hs2)

theorem make_map {R : Result → Shared → Prop} {vs : List Value} {kw : List (Str × Value)} (X : K.In s.heap) (hm : PySem.W.makesIn K C = true)
    (hi : PySem.W.findIn K (.ref C) "__init__" = some (some (.ref f))) (hf : PySem.W.typeIn K (.ref f) = some (.type "function"))
    (h : codeAny (model prog w) (A.under (.builtin "type.__call__" ⟨.ref C :: vs, kw⟩)) (.call (.ref f) ⟨.ref (s.heap.objs.size + 1) :: vs, kw⟩) (PySem.W.InitBack (s.heap.objs.size + 1) R)
      { s with heap := (s.heap.push PySem.W.emptyDict).push (PySem.W.instObj C s.heap.objs.size) }) :
    codeAny (model prog w) A (.call (.ref C) ⟨vs, kw⟩) R s := by
  obtain ⟨hh, g, d, t, os⟩ := s
  exact PySem.W.make_core (PySem.W.makes_of X hm) (PySem.W.looks_findIn X hi) (fun self => PySem.W.bind_fn X self hf) (.inl rfl) h
end

def putF (f : Str) (v : V) : List (Str × V) → List (Str × V)
  | [] => [(f, v)]
  | (g, x) :: r => if g = f then (g, v) :: r else (g, x) :: putF f v r
theorem lookup_putF (f g : Str) (v : V) : ∀ fs : List (Str × V), (putF f v fs).lookup g = if g = f then some v else fs.lookup g
  | [] => by
    show List.lookup g [(f, v)] = _
    by_cases h : g = f
    · have hb : (g == f) = true := beq_iff_eq.mpr h
      simp only [List.lookup, hb, if_pos h]
    · have hb : (g == f) = false := beq_eq_false_iff_ne.mpr h
      simp only [List.lookup, hb, if_neg h]
  | (k, x) :: r => by
    have ih := lookup_putF f g v r
    rw [show putF f v ((k, x) :: r) = (if k = f then (k, v) :: r else (k, x) :: putF f v r) from rfl]
    by_cases hk : k = f
    · rw [if_pos hk]
      by_cases h : g = k
      · have hb : (g == k) = true := beq_iff_eq.mpr h
        simp only [List.lookup, hb, if_pos (h.trans hk)]
      · have hb : (g == k) = false := beq_eq_false_iff_ne.mpr h
        simp only [List.lookup, hb, if_neg (fun e : g = f => h (e.trans hk.symm))]
    · rw [if_neg hk]
      by_cases h : g = k
      · have hb : (g == k) = true := beq_iff_eq.mpr h
        simp only [List.lookup, hb, if_neg (fun e : g = f => hk (h.symm.trans e))]
      · have hb : (g == k) = false := beq_eq_false_iff_ne.mpr h
        simp only [List.lookup, hb]
        exact ih
theorem keys_putF (f : Str) (v : V) : ∀ fs : List (Str × V), f ∈ (putF f v fs).map (·.1) ∧ ∀ g, g ∈ fs.map (·.1) → g ∈ (putF f v fs).map (·.1)
  | [] => ⟨by simp [putF], fun g h => by simp at h⟩
  | (k, x) :: r => by
    obtain ⟨i1, i2⟩ := keys_putF f v r
    rw [show putF f v ((k, x) :: r) = (if k = f then (k, v) :: r else (k, x) :: putF f v r) from rfl]
    by_cases hk : k = f
    · rw [if_pos hk]
      subst hk
      exact ⟨by simp, fun g h => by simpa using h⟩
    · rw [if_neg hk]
      refine ⟨?_, fun g h => ?_⟩
      · rw [List.map_cons]
        exact List.mem_cons_of_mem _ i1
      · rw [List.map_cons] at h ⊢
        rcases List.mem_cons.mp h with e | e
        · exact List.mem_cons.mpr (.inl e)
        · exact List.mem_cons_of_mem _ (i2 g e)
theorem length_putF (f : Str) (v : V) : ∀ fs : List (Str × V), (putF f v fs).length ≤ fs.length + 1
  | [] => by simp [putF]
  | (k, x) :: r => by
    have ih := length_putF f v r
    rw [show putF f v ((k, x) :: r) = (if k = f then (k, v) :: r else (k, x) :: putF f v r) from rfl]
    by_cases hk : k = f
    · rw [if_pos hk, List.length_cons, List.length_cons]; omega
    · rw [if_neg hk, List.length_cons, List.length_cons]; omega

theorem RelO.some_of {v : V} {o : Option Value} (r : RelO (some v) o) : ∃ u, o = some u ∧ RelV v u := by
  cases o with
  | none => exact (show False from r).elim
  | some u => exact ⟨u, rfl, r⟩
theorem RelO.none_of {o : Option Value} (r : RelO none o) : o = none := by
  cases o with
  | none => rfl
  | some u => exact (show False from r).elim
theorem handed_of {v : V} {u : Value} (r : RelV v u) : PySem.W.handedIn u = true := by
  cases v with
  | non => cases (show u = Value.none from r); rfl
  | bl b => cases (show u = Value.bool b from r); rfl
  | int i => obtain ⟨t, e⟩ := (show ∃ t, u = Value.int i t from r); cases e; rfl
  | str x => obtain ⟨t, e⟩ := (show ∃ t, u = Value.str x t from r); cases e; rfl
  | byt b => obtain ⟨t, e⟩ := (show ∃ t, u = Value.bytes b t from r); cases e; rfl
  | flt b => obtain ⟨t, e⟩ := (show ∃ t, u = Value.float b t from r); cases e; rfl
  | ref a => cases (show u = Value.ref a from r); rfl
  | ty n => cases (show u = Value.type n from r); rfl

section
variable {P : Program} {w : World} {H H' : Hp} {h h' : Heap} {a C dx : Addr} {fs fs' : List (Str × V)}
theorem ins_get (hok : HOk P w H h) (e : H a = some (.ins C dx fs)) : ∃ mA, ObjM h a dx C mA ∧ (∀ f, RelO (fs.lookup f) (mA f)) ∧ PySem.Within mA (fs.map (·.1)) ∧ fs.length ≤ 1000 ∧ H dx = some (.own a) := by
  obtain ⟨d, z, ne, ob, mA, n, r, q⟩ := (show ObjOk P w H h a (.ins C dx fs) from hok a _ e)
  exact ⟨mA, ⟨ob, n, ne⟩, r, q, z, d⟩
end

structure Cls (K : PySem.W.Frag) (C : Addr) : Prop where
  pg : PySem.W.plainGet K C Str.empty = true
  hd : PySem.W.hasDictIn K C = true
  po : PySem.W.plainOver K C = true
  sa : PySem.W.findIn K (.ref C) "__setattr__" = some (some (.builtin "object.__setattr__"))
theorem Cls.get {K : PySem.W.Frag} {C : Addr} (c : Cls K C) (f : Str) : PySem.W.plainGet K C f = true := c.pg
def NoAttr (K : PySem.W.Frag) (C : Addr) (f : Str) : Prop := PySem.W.findIn K (.ref C) f = some none
theorem NoAttr.taker {K : PySem.W.Frag} {C : Addr} {f : Str} (n : NoAttr K C f) : PySem.W.takerIn K C f = some none := by
  unfold PySem.W.takerIn
  rw [show PySem.W.findIn K (.ref C) f = some none from n]
  rfl
structure Con (K : PySem.W.Frag) (C : Addr) (f : Str) (v : V) (u : Value) : Prop where
  at_ : PySem.W.findIn K (.ref C) f = some (some u)
  rel : RelV v u
  get : PySem.W.specialIn K u "__get__" = some none
  cp : PySem.W.copiedNames.contains f = false
structure Meth (K : PySem.W.Frag) (C : Addr) (m : Str) (f : Addr) : Prop where
  at_ : PySem.W.findIn K (.ref C) m = some (some (.ref f))
  fn : PySem.W.isFn K (.ref f) = true
  kp : PySem.W.keepIn K (.ref f) = true

section
variable {X : Cx} {pins : List (Addr × Obj)} {σ : St} {H : Hp} {s : Shared} {a C dx : Addr} {fs : List (Str × V)} {f : Str} {v : V} {A : Around} {E : Value → Shared → Prop}

theorem getattr_ok {b : Bool} {Q : Value → Shared → Prop} (I : Inv X pins σ H s) (e : H a = some (.ins C dx fs)) (c : Cls X.K C) (n : NoAttr X.K C f) (l : fs.lookup f = some v)
    (h : ∀ u s', Inv X pins σ H s' → RelV v u → Q u s') : wpAny (model X.prog X.w) A (getAttr (.ref a) f b) Q E s := by
  obtain ⟨mA, O, r, _, _, _⟩ := ins_get I.hok e
  obtain ⟨u, hu, ru⟩ := RelO.some_of (v := v) (o := mA f) (by rw [← l]; exact r f)
  exact get_map I.kIn O (c.get f) c.hd n hu (handed_of ru) (h u _ (I.tok _) ru)

theorem getmeth_ok {m : Str} {g : Addr} {pl : Sem Bool} {Q : Value × List Value → Shared → Prop} (I : Inv X pins σ H s) (e : H a = some (.ins C dx fs)) (c : Cls X.K C) (k : Meth X.K C m g) (l : fs.lookup m = none)
    (h : Q (.ref g, [.ref a]) s) : wpAny (model X.prog X.w) A (getMethod (.ref a) m pl) Q E s := by
  obtain ⟨mA, O, r, _, _, _⟩ := ins_get I.hok e
  have hn : mA m = none := RelO.none_of (by rw [← l]; exact r m)
  exact get_meth I.kIn O (c.get m) k.at_ k.fn hn h

theorem setattr_ok {y : V} {u : Value} {Q : Unit → Shared → Prop} (I : Inv X pins σ H s) (e : H a = some (.ins C dx fs)) (c : Cls X.K C) (n : NoAttr X.K C f) (hl : fs.length < 1000) (ry : RelV y u)
    (h : ∀ s', Inv X pins σ (upd H a (.ins C dx (putF f y fs))) s' → Q () s') : wpAny (model X.prog X.w) A (setAttr (.ref a) f u) Q E s := by
  obtain ⟨mA, O, r, wi, _, ho⟩ := ins_get I.hok e
  have hz : (fs.map (·.1)).length ≤ sizeLine := by rw [List.length_map, sizeLine_eq]; omega
  refine set_map I.kIn O c.sa c.po n.taker c.hd wi hz fun h' O' sb => h _ ?_
  have hd : ∃ o, h'.get? dx = some o := let ⟨o, _, _, e', _⟩ := O'.ns; ⟨o, e'⟩
  refine I.write (x := a) (e := dx) (by rw [e]; exact True.intro) (.inr ho) (fun b q hb z => (sb.2 b hb).trans z) hd ?_
  refine ⟨by rw [upd_ne O.ne]; exact ho, ?_, O.ne, O'.obj, _, O'.ns, fun g => ?_, fun g hg => ?_⟩
  · have := length_putF f y fs; omega
  · show RelO ((putF f y fs).lookup g) (if g = f then some u else mA g)
    rw [lookup_putF]
    by_cases q : g = f
    · rw [if_pos q, if_pos q]; exact ry
    · rw [if_neg q, if_neg q]; exact r g
  · by_cases q : g = f
    · rw [q]; exact (keys_putF f y fs).1
    · refine (keys_putF f y fs).2 g (wi g fun z => hg ?_)
      show (if g = f then some u else mA g) = none
      rw [if_neg q]; exact z

theorem Inv.made (I : Inv X pins σ H s) : Inv X pins σ (upd (upd H s.heap.objs.size (.own (s.heap.objs.size + 1))) (s.heap.objs.size + 1) (.ins C s.heap.objs.size []))
    { s with heap := (s.heap.push PySem.W.emptyDict).push (PySem.W.instObj C s.heap.objs.size) } := by
  have e1 : (s.heap.push PySem.W.emptyDict).get? s.heap.objs.size = some PySem.W.emptyDict := Heap.get?_push_size s.heap rfl
  have e2 : ((s.heap.push PySem.W.emptyDict).push (PySem.W.instObj C s.heap.objs.size)).get? (s.heap.objs.size + 1) = some (PySem.W.instObj C s.heap.objs.size) := by
    have := Heap.get?_push_size (s.heap.push PySem.W.emptyDict) (o := PySem.W.instObj C s.heap.objs.size) rfl
    rwa [Heap.size_push] at this
  have e3 : (s.heap.push PySem.W.emptyDict).Ns s.heap.objs.size (fun _ => none) := ⟨PySem.W.emptyDict, #[], _, e1, rfl, (fun e he => absurd he (by simp)), fun _ => rfl⟩
  have I1 := I.laid (a := s.heap.objs.size) (o := .own (s.heap.objs.size + 1)) (h' := s.heap.push PySem.W.emptyDict) (t' := s.toks) (fun b u q => Heap.get?_push_of_some _ q) (Nat.le_refl _) ⟨_, e1⟩
  refine I1.laid (a := s.heap.objs.size + 1) (o := .ins C s.heap.objs.size []) (t' := s.toks) (fun b u q => Heap.get?_push_of_some _ q) (Nat.le_of_eq (Heap.size_push _ _)) ?_
  have ne : s.heap.objs.size ≠ s.heap.objs.size + 1 := Nat.ne_of_lt (Nat.lt_succ_self _)
  refine ⟨by rw [upd_ne ne, upd_same], Nat.zero_le _, ne, e2, fun _ => none, (Heap.Ns1.of_empty e3).at fun o q => Heap.get?_push_of_some _ q, fun _ => True.intro, fun y hy => absurd rfl hy⟩

theorem attr_of {prog : Program} {w : World} {env : Env} {e : Expr} {f : Str} {pos : Pos} {s : Shared} {Q : Value → Shared → Prop} (hb : attributeBase e f env (eval e env) = eval e env)
    (h : wpAny (model prog w) A (eval e env) (fun o s₁ => wpAny (model prog w) A (getAttr o f true) Q E s₁) E s) : wpAny (model prog w) A (eval (.Attribute e f pos) env) Q E s :=
  Attribute_any_ h (by rw [arm_eval_Attribute, hb])
end

def tFld (K : PySem.W.Frag) (ta : TE) (f : Str) : TE := fun σ H Q => ta σ H fun x H1 => ∃ a C dx fs v, x = .ref a ∧ H1 a = some (.ins C dx fs) ∧ Cls K C ∧ NoAttr K C f ∧ fs.lookup f = some v ∧ Q v H1
def sFld (K : PySem.W.Frag) (ta tv : TE) (f : Str) : TS := fun D σ H => tv σ H fun y H1 => ta σ H1 fun x H2 => ∃ a C dx fs, x = .ref a ∧ H2 a = some (.ins C dx fs) ∧ Cls K C ∧ NoAttr K C f ∧ fs.length < 1000 ∧
  D.nx σ (upd H2 a (.ins C dx (putF f y fs)))
def InOp (X : Cx) (op : Operator) (rd : V → V → Hp → VK → Prop) : Prop :=
  ∀ (pins : List (Addr × Obj)) (s : Shared) (σ : St) (H : Hp) (x y : V) (u v : Value) (Q : VK), Inv X pins σ H s → RelV x u → RelV y v → rd x y H Q → wpAny (model X.prog X.w) X.A (inplaceOp op u v) (EP X pins σ Q) X.xe s
def sFldAug (K : PySem.W.Frag) (ta tv : TE) (rd : V → V → Hp → VK → Prop) (f : Str) : TS := fun D σ H => ta σ H fun x H1 => ∃ a C dx fs v, x = .ref a ∧ H1 a = some (.ins C dx fs) ∧ Cls K C ∧ NoAttr K C f ∧ fs.lookup f = some v ∧
  tv σ H1 fun y H2 => rd v y H2 fun z H3 => ∃ dx' fs', H3 a = some (.ins C dx' fs') ∧ fs'.length < 1000 ∧ D.nx σ (upd H3 a (.ins C dx' (putF f z fs')))

section
variable {X : Cx} {o e value : Expr} {f : Str} {pos pos' tpos : Pos} {ta tv : TE}
theorem pe_fld (he : PE X e ta) (hb : attributeBase e f X.env (eval e X.env) = eval e X.env) : PE X (.Attribute e f pos) (tFld X.K ta f) := by
  intro pins s σ H Q I h
  refine attr_of hb (thn (he pins s σ H _ I h) fun u s1 ⟨x, H1, I1, rx, a, C, dx, fs, v, ex, ea, c, n, l, q⟩ => ?_)
  subst ex
  obtain rfl : u = Value.ref a := rx
  exact getattr_ok I1 ea c n l fun u' s2 I2 ru => ⟨v, H1, I2, ru, q⟩
theorem ps_fld (ha : PE X o ta) (hv : PE X value tv) (hs : swapsWith value (some (.Attribute o f pos')) pos.line X.env = pure false) : PS X (.Assign [.Attribute o f pos'] value pos) (sFld X.K ta tv f) := by
  intro pins s σ H D I h
  refine plainObj_wpAny_Assign_Attribute (thn (hv pins s σ H _ I h) fun u s1 ⟨y, H1, I1, ry, q⟩ => thn (ha pins s1 σ H1 _ I1 q) fun ov s2 ⟨x, H2, I2, rx, a, C, dx, fs, ex, ea, c, n, l, q2⟩ => ?_) hs
  subst ex
  obtain rfl : ov = Value.ref a := rx
  exact setattr_ok I2 ea c n l ry fun s3 I3 => ⟨σ, _, I3, q2⟩
theorem ps_fldaug {op : Operator} {rd : V → V → Hp → VK → Prop} (ha : PE X o ta) (hv : PE X value tv) (hop : InOp X op rd) : PS X (.AugAssign (.Attribute o f tpos) op value pos) (sFldAug X.K ta tv rd f) := by
  intro pins s σ H D I h
  refine wpAny_AugAssign_AttributeAny (thn (ha pins s σ H _ I h) fun ov s1 ⟨x, H1, I1, rx, a, C, dx, fs, v, ex, ea, c, n, l, q⟩ => ?_)
  subst ex
  obtain rfl : ov = Value.ref a := rx
  refine getattr_ok I1 ea c n l fun u s2 I2 ru => thn (hv pins s2 σ H1 _ I2 q) fun w3 s3 ⟨y, H2, I3, ry, q3⟩ => thn (hop pins s3 σ H2 v y u w3 _ I3 ru ry q3) fun w4 s4 ⟨z, H3, I4, rz, dx', fs', ea', l', q4⟩ => ?_
  exact setattr_ok I4 ea' c n l' rz fun s5 I5 => ⟨σ, _, I5, q4⟩
def rAdd : V → V → Hp → VK → Prop := fun x y H Q => ∃ i j, x = .int i ∧ y = .int j ∧ Q (.int (i + j)) H
def rSub : V → V → Hp → VK → Prop := fun x y H Q => ∃ i j, x = .int i ∧ y = .int j ∧ Q (.int (i - j)) H
theorem in_add : InOp X .Add rAdd := by
  rintro pins s σ H x y u v Q I rx ry ⟨i, j, rfl, rfl, q⟩
  obtain ⟨t, rfl⟩ := (show ∃ t, u = Value.int i t from rx)
  obtain ⟨t', rfl⟩ := (show ∃ t', v = Value.int j t' from ry)
  exact PyProof.Rows.iadd_int ⟨.int (i + j), H, I.tok _, ⟨_, rfl⟩, q⟩
theorem in_sub : InOp X .Sub rSub := by
  rintro pins s σ H x y u v Q I rx ry ⟨i, j, rfl, rfl, q⟩
  obtain ⟨t, rfl⟩ := (show ∃ t, u = Value.int i t from rx)
  obtain ⟨t', rfl⟩ := (show ∃ t', v = Value.int j t' from ry)
  exact PyProof.Rows.isub_int ⟨.int (i - j), H, I.tok _, ⟨_, rfl⟩, q⟩

end

section
variable {X : Cx} {pins : List (Addr × Obj)} {σ : St} {H : Hp} {s : Shared} {A : Around} {E : Value → Shared → Prop} {Q : Value → Shared → Prop} {c : Value} {b : Bool}
inductive TyOf (K : PySem.W.Frag) (H : Hp) : V → Value → Prop where
  | non : TyOf K H .non (.type "NoneType")
  | bl (x : Bool) : TyOf K H (.bl x) (.type "bool")
  | int (i : Int) : TyOf K H (.int i) (.type "int")
  | str (x : Str) : TyOf K H (.str x) (.type "str")
  | flt (x : UInt64) : TyOf K H (.flt x) (.type "float")
  | lst {a : Addr} {xs : List V} (e : H a = some (.lst xs)) : TyOf K H (.ref a) (.type "list")
  | frz {a : Addr} {o : Obj} {xs : List V} (e : H a = some (.frz o (.lst xs))) : TyOf K H (.ref a) (.type "list")
  | tup {a : Addr} {xs : List V} (e : H a = some (.tup xs)) : TyOf K H (.ref a) (.type "tuple")
  | dK {a : Addr} {kvs : List (Key × V)} (e : H a = some (.dK kvs)) : TyOf K H (.ref a) (.type "dict")
  | dT {a : Addr} {kvs : List (List Key × V)} (e : H a = some (.dT kvs)) : TyOf K H (.ref a) (.type "dict")
  | ins {a C dx : Addr} {fs : List (Str × V)} (e : H a = some (.ins C dx fs)) (cl : Cls K C) (ha : PySem.W.findIn K (.ref C) "__class__" = some (some (.builtin "object.__class__")))
      (hn : PySem.W.specialIn K (.builtin "object.__class__") "__get__" = some (some (.builtin "getset_descriptor.__get__"))) (htk : PySem.W.takesIn K (.builtin "object.__class__") = some true)
      (hm : PySem.W.mroIn K C (.type "object") = some true) : TyOf K H (.ref a) (.ref C)
theorem isinst_ok {x : V} {u t : Value} (I : Inv X pins σ H s) (rx : RelV x u) (ty : TyOf X.K H x t) (e : PySem.W.kitOne X.K t c = some b) (h : ∀ tk, Q (.bool b) { s with toks := tk }) :
    wpAny (model X.prog X.w) A (call (.builtin "isinstance") [u, c]) Q E s := by
  cases ty with
  | non => cases (show u = Value.none from rx); exact PySem.W.kia_one PySem.W.kitx_none I.kIn True.intro e (fun z => nomatch z) h
  | bl y => cases (show u = Value.bool y from rx); exact PySem.W.kia_one PySem.W.kitx_bool I.kIn True.intro e (fun z => nomatch z) h
  | int i => obtain ⟨t, q⟩ := (show ∃ t, u = Value.int i t from rx); cases q; exact PySem.W.kia_one PySem.W.kitx_int I.kIn True.intro e (fun z => nomatch z) h
  | str y => obtain ⟨t, q⟩ := (show ∃ t, u = Value.str y t from rx); cases q; exact PySem.W.kia_one PySem.W.kitx_str I.kIn True.intro e (fun z => nomatch z) h
  | flt y => obtain ⟨t, q⟩ := (show ∃ t, u = Value.float y t from rx); cases q; exact PySem.W.kia_one PySem.W.kitx_float I.kIn True.intro e (fun z => nomatch z) h
  | @lst a xs ea =>
    cases (show u = Value.ref a from rx)
    obtain ⟨_, _, n, _, h1⟩ := (show ObjOk X.prog X.w H s.heap a (.lst xs) from I.hok a _ ea)
    exact PySem.W.kia_one PySem.W.kitx_list I.kIn ⟨_, h1, rfl⟩ e (fun z => nomatch z) h
  | @frz a ob xs ea =>
    cases (show u = Value.ref a from rx)
    obtain ⟨_, _, _, n, _, h1⟩ := (show ObjOk X.prog X.w H s.heap a (.frz ob (.lst xs)) from I.hok a _ ea)
    exact PySem.W.kia_one PySem.W.kitx_list I.kIn ⟨_, h1, rfl⟩ e (fun z => nomatch z) h
  | @tup a xs ea =>
    cases (show u = Value.ref a from rx)
    obtain ⟨_, _, _, p⟩ := (show ObjOk X.prog X.w H s.heap a (.tup xs) from I.hok a _ ea)
    obtain ⟨o, h1, h2, _⟩ := p
    exact PySem.W.kia_one PySem.W.kitx_tuple I.kIn ⟨o, h1, h2⟩ e (fun z => nomatch z) h
  | @dK a kvs ea =>
    cases (show u = Value.ref a from rx)
    obtain ⟨_, _, vs, _, p⟩ := (show ObjOk X.prog X.w H s.heap a (.dK kvs) from I.hok a _ ea)
    obtain ⟨o, es, ep, h1, h2, _⟩ := p
    exact PySem.W.kia_one PySem.W.kitx_dict I.kIn ⟨o, h1, h2.1⟩ e (fun z => nomatch z) h
  | @dT a kvs ea =>
    cases (show u = Value.ref a from rx)
    obtain ⟨_, _, xs, _, o, es, ep, h1, h2, _⟩ := (show ObjOk X.prog X.w H s.heap a (.dT kvs) from I.hok a _ ea)
    exact PySem.W.kia_one PySem.W.kitx_dict I.kIn ⟨o, h1, h2.1⟩ e (fun z => nomatch z) h
  | @ins a C dx fs ea cl ha hn htk hm =>
    cases (show u = Value.ref a from rx)
    obtain ⟨mA, O, _⟩ := ins_get I.hok ea
    obtain ⟨od, J, _⟩ := O.look
    exact PySem.W.kia_one (PySem.W.kitx_own (cl.get _) cl.hd ha hn htk hm) I.kIn J e (fun z => nomatch z) h
end
end L2

namespace L2
open PySem PySem.Spec PyProof.Rows

structure Room (k : Nat) (A : Around) : Prop where
  hd : A.handled = none
  dp : A.depth + 3 * k + 5 < recursionLimit
  un : A.units + 16 * k + 200 < cLine
theorem Room.mono {j k : Nat} {A : Around} (r : Room k A) (h : j ≤ k) : Room j A := ⟨r.hd, by have := r.dp; omega, by have := r.un; omega⟩
theorem Room.deeper {k : Nat} {A : Around} (r : Room (k + 1) A) (env : Env) : Room k (A.deeper env) :=
  ⟨r.hd, by have := r.dp; show A.depth + 1 + 3 * k + 5 < _; omega, by have := r.un; show A.units + 3 + 16 * k + 200 < _; omega⟩
theorem Room.in1 {k : Nat} {A : Around} (r : Room (k + 1) A) : Room k A.in1 :=
  ⟨r.hd, by have := r.dp; show A.depth + 3 * k + 5 < _; omega, by have := r.un; show A.units + 1 + 16 * k + 200 < _; omega⟩
theorem make_depth {A : Around} {C : Addr} {us : List Value} {kw : List (Str × Value)} : (A.under (.builtin "type.__call__" ⟨.ref C :: us, kw⟩)).depth = A.depth + 1 := by
  first | rfl | simp [Around.under, Code.weight, Code.isCreation, Code.isGuard, Code.isCaller, Code.frames, Code.isFrame, guardIds]
theorem make_units {A : Around} {C : Addr} {us : List Value} {kw : List (Str × Value)} : (A.under (.builtin "type.__call__" ⟨.ref C :: us, kw⟩)).units = A.units + 1 := by
  first | rfl | simp [Around.under, Code.cUnits, Code.frames, Code.isFrame]
theorem Room.make {k : Nat} {A : Around} (r : Room (k + 1) A) (C : Addr) (us : List Value) (kw : List (Str × Value)) : Room k (A.under (.builtin "type.__call__" ⟨.ref C :: us, kw⟩)) :=
  ⟨r.hd, by have := r.dp; rw [make_depth]; omega, by have := r.un; rw [make_units]; omega⟩
theorem Room.depth {k : Nat} {A : Around} (r : Room k A) : A.depth < recursionLimit := by have := r.dp; omega
theorem Room.units {k : Nat} {A : Around} (r : Room k A) : A.units + 64 < cLine := by have := r.un; omega
def tNil : TA := fun _ H Q => Q [] H
def tCons (ta : TE) (tr : TA) : TA := fun σ H Q => ta σ H fun x H1 => tr σ H1 fun xs H2 => Q (x :: xs) H2
section
variable {X : Cx} {e : Expr} {es : List Expr} {te : TE} {t : TA} {pos : Pos}
theorem pa_nil : PA X [] tNil := fun _ _ _ _ H Q I h => Calls.spliced_nil ⟨[], H, I, .nil, h⟩
theorem pa_cons (ha : PE X e te) (hr : PA X es t) (hs : starEach (e :: es) X.env = (false, eval e X.env) :: starEach es X.env := by rfl) : PA X (e :: es) (tCons te t) := by
  intro pos pins s σ H Q I h
  rw [hs]
  show wpAny _ _ (spliced ((false, eval e X.env) :: backTo pos (starEach es X.env))) _ _ s
  refine Calls.spliced_cons (thn (ha pins s σ H _ I h) fun u s1 ⟨x, H1, I1, r1, q1⟩ => ?_)
  exact thn (hr pos pins s1 σ H1 _ I1 q1) fun us s2 ⟨xs, H2, I2, r2, q2⟩ => ⟨x :: xs, H2, I2, .cons r1 r2, q2⟩

end

abbrev Sp := List V → Hp → VK → XK → Prop
abbrev CXT := List Env → Hp → Shared → XK → Value → Shared → Prop

structure Env0 (P : Program) (w : World) (K : PySem.W.Frag) (mg : Str → Option Value) (base : Heap) (A : Around) (outer : List Env) (s : Shared) (H : Hp) : Prop where
  frames : A.frames = some outer
  mod : Mod K mg base
  bs : ∀ b o, base.get? b = some o → s.heap.get? b = some o ∧ H b = none
  bsz : base.objs.size ≤ s.heap.objs.size
  funs : s.heap.FunFrames base outer
  frf : ∀ b ∈ frs outer, H b = none
  hok : HOk P w H s.heap
  bare : AllBare s.gens
def CE (outer : List Env) (P : Program) (w : World) (H : Hp) (s : Shared) (Q : VK) (u : Value) (s' : Shared) : Prop :=
  ∃ v H', s'.os = s.os ∧ AllBare s'.gens ∧ Un (frs outer) [] H H' s.heap s'.heap ∧ HOk P w H' s'.heap ∧ RelV v u ∧ Q v H'
def CR (CX : CXT) (outer : List Env) (P : Program) (w : World) (H : Hp) (s : Shared) (Q : VK) (E : XK) (r : Result) (s' : Shared) : Prop :=
  match r with
  | .ok (.ret u) => CE outer P w H s Q u s'
  | .ok _ => False
  | .error e => CX outer H s E e s'
structure FnOk (P : Program) (w : World) (K : PySem.W.Frag) (mg : Str → Option Value) (base : Heap) (CX : CXT) (k : Nat) (f : Addr) (fd : FuncData) (ps : List Str) (sp : Sp) : Prop where
  len : ∀ vs H Q E, sp vs H Q E → vs.length = ps.length
  run : ∀ (A : Around) (outer : List Env) (s : Shared) (H : Hp) (args : Args) (us : List Value) (vs : List V) (Q : VK) (E : XK), Room k A → Env0 P w K mg base A outer s H → BindsTo s fd args (ps.zip us) → Vals vs us → sp vs H Q E →
    codeAny (model P w) A (.call (.ref f) args) (CR CX outer P w H s Q E) s
theorem FnOk.mono {P : Program} {w : World} {K : PySem.W.Frag} {mg : Str → Option Value} {base : Heap} {CX : CXT} {j k : Nat} {f : Addr} {fd : FuncData} {ps : List Str} {sp : Sp} (F : FnOk P w K mg base CX j f fd ps sp) (h : j ≤ k) :
    FnOk P w K mg base CX k f fd ps sp := ⟨F.len, fun A outer s H args us vs Q E hr => F.run A outer s H args us vs Q E (hr.mono h)⟩
theorem FnOk.imp {P : Program} {w : World} {K : PySem.W.Frag} {mg : Str → Option Value} {base : Heap} {CX : CXT} {k : Nat} {f : Addr} {fd : FuncData} {ps : List Str} {sp sp' : Sp} (F : FnOk P w K mg base CX k f fd ps sp)
    (h : ∀ vs H Q E, sp' vs H Q E → sp vs H Q E) : FnOk P w K mg base CX k f fd ps sp' :=
  ⟨fun vs H Q E q => F.len vs H Q E (h _ _ _ _ q), fun A outer s H args us vs Q E hr he hb hv hs => F.run A outer s H args us vs Q E hr he hb hv (h _ _ _ _ hs)⟩

theorem Env0.make {P : Program} {w : World} {K : PySem.W.Frag} {mg : Str → Option Value} {base : Heap} {A : Around} {outer : List Env} {s : Shared} {H : Hp} (e : Env0 P w K mg base A outer s H) (C : Addr) (us : List Value) (kw : List (Str × Value)) :
    Env0 P w K mg base (A.under (.builtin "type.__call__" ⟨.ref C :: us, kw⟩)) outer s H := ⟨by first | exact e.frames | (simpa [Around.under, Code.envs, Code.isFrame, pushEnvs] using e.frames), e.mod, e.bs, e.bsz, e.funs, e.frf, e.hok, e.bare⟩
theorem Env0.in1 {P : Program} {w : World} {K : PySem.W.Frag} {mg : Str → Option Value} {base : Heap} {A : Around} {outer : List Env} {s : Shared} {H : Hp} (e : Env0 P w K mg base A outer s H) :
    Env0 P w K mg base A.in1 outer s H := ⟨e.frames, e.mod, e.bs, e.bsz, e.funs, e.frf, e.hok, e.bare⟩

section
variable {X : Cx} {pins : List (Addr × Obj)} {σ : St} {H : Hp} {s s' : Shared}
theorem Inv.env0 (I : Inv X pins σ H s) : Env0 X.prog X.w X.K X.mg X.base X.A X.stack s H :=
  ⟨I.ok.frames, I.ok.mod, I.bs, Nat.le_trans I.ok.bsz I.sz, I.stack, I.stkFree, I.hok, I.bare⟩
theorem Inv.after {Q : VK} {u : Value} (I : Inv X pins σ H s) (h : CE X.stack X.prog X.w H s Q u s') : EP X pins σ Q u s' := by
  obtain ⟨v, H', os, bare, un, hok, r, q⟩ := h
  obtain ⟨hh, g, d, t, os'⟩ := s'
  obtain rfl : os' = s.os := os
  exact ⟨v, H', I.call (h' := hh) (g' := g) (d' := d) (t' := t) (ch := []) un hok bare (fun b z => absurd z (by simp)), r, q⟩
end

def tCall (sp : Sp) (dvs : List V) (E : XK) (t : TA) : TE := fun σ H Q => t σ H fun vs H1 => sp (vs ++ dvs) H1 Q E
def tMeth (C : Addr) (m : Str) (sp : Sp) (dvs : List V) (E : XK) (ta : TE) (t : TA) : TE := fun σ H Q => ta σ H fun x H1 => ∃ a dx fs, x = .ref a ∧ H1 a = some (.ins C dx fs) ∧ fs.lookup m = none ∧
  t σ H1 fun vs H2 => sp (x :: (vs ++ dvs)) H2 Q E
def tMake (C : Addr) (sp : Sp) (dvs : List V) (E : XK) (t : TA) : TE := fun σ H Q => t σ H fun vs H1 => ∀ x dx, H1 x = none → H1 dx = none → dx ≠ x →
  sp (.ref x :: (vs ++ dvs)) (upd (upd H1 dx (.own x)) x (.ins C dx [])) (fun v H2 => v = .non ∧ Q (.ref x) H2) E

def Binds (K : PySem.W.Frag) (fd : FuncData) (ps : List Str) (ds : List Value) : Prop :=
  ∀ (s : Shared) (us : List Value), K.In s.heap → (us ++ ds).length = ps.length → BindsTo s fd ⟨us, []⟩ (ps.zip (us ++ ds))
theorem Binds.all {K : PySem.W.Frag} {fd : FuncData} {ps : List Str} (h : ∀ us : List Value, us.length = ps.length → bindArgs fd ⟨us, []⟩ = pure (ps.zip us)) : Binds K fd ps [] := fun s us _ hl => by
  rw [List.append_nil] at hl ⊢
  exact .of_eq (h us hl)

def Passes (CX : CXT) (X : Cx) (E : XK) : Prop := ∀ (pins : List (Addr × Obj)) (σ : St) (H : Hp) (s : Shared) (e : Value) (s' : Shared), Inv X pins σ H s → CX X.stack H s E e s' → X.xe e s'

section
variable {X : Cx} {CX : CXT} {k : Nat} {f C : Addr} {fd : FuncData} {ps : List Str} {sp : Sp} {dvs : List V} {ds : List Value} {E : XK} {x m : Str} {p pos apos : Pos} {e o : Expr} {es : List Expr} {ta : TE} {t : TA}

theorem run_fn {pins : List (Addr × Obj)} {σ : St} {H : Hp} {s : Shared} {Q : VK} {us : List Value} {vs : List V} (F : FnOk X.prog X.w X.K X.mg X.base CX k f fd ps sp) (hr : Room k X.A) (hb : Binds X.K fd ps ds) (hd : Vals dvs ds) (hx : Passes CX X E)
    (I : Inv X pins σ H s) (r : Vals vs us) (h : sp (vs ++ dvs) H Q E) : wpAny (model X.prog X.w) X.A (call (.ref f) us) (EP X pins σ Q) X.xe s := by
  have r2 : Vals (vs ++ dvs) (us ++ ds) := r.append hd
  have hl : (us ++ ds).length = ps.length := by rw [← r2.length]; exact F.len _ _ _ _ h
  refine wpAny_call (codeAny_mono (F.run X.A X.stack s H ⟨us, []⟩ (us ++ ds) (vs ++ dvs) Q E hr I.env0 (hb s us I.kIn hl) r2 h) fun r s' hq => ?_)
  cases r with
  | error e => exact hx pins σ H s e s' I hq
  | ok fl =>
    cases fl with
    | ret u => exact I.after hq
    | next => exact False.elim hq
    | brk => exact False.elim hq
    | cont => exact False.elim hq

theorem pe_call (F : FnOk X.prog X.w X.K X.mg X.base CX k f fd ps sp) (hr : Room k X.A) (hg : Gl X x) (hm : X.mg x = some (.ref f)) (hk : PySem.W.keepIn X.K (.ref f) = true) (hb : Binds X.K fd ps ds) (hd : Vals dvs ds) (hx : Passes CX X E)
    (ha : PA X (e :: es) t) (hdb : (x == ("__debug__" : Str)) = false := by decide) (he : starEach (e :: es) X.env = (false, eval e X.env) :: starEach es X.env := by rfl) (hpl : (backTo pos (starEach es X.env)).any (·.1) = false := by rfl) :
    PE X (.Call (.Name x p) (e :: es) [] pos) (tCall sp dvs E t) := by
  intro pins s σ H Q I h
  refine wpAny_Call_Name_kw (ld_glob I hg hm ?_ hdb)
  refine PySem.W.callWith_K (h₀ := X.base) I.ok.mod.kin hk (thn (ha pos pins s σ H _ I h) fun us s1 ⟨vs, H1, I1, r, q⟩ => ⟨I1.kIn, ?_⟩) he hpl
  exact run_fn F hr hb hd hx I1 r q
theorem pe_meth {pl : Sem Bool} (he : PE X o ta) (c : Cls X.K C) (hm : Meth X.K C m f) (F : FnOk X.prog X.w X.K X.mg X.base CX k f fd ps sp) (hr : Room k X.A) (hb : Binds X.K fd ps ds) (hd : Vals dvs ds) (hx : Passes CX X E) (ha : PA X (e :: es) t)
    (hst : starEach (e :: es) X.env = (false, eval e X.env) :: starEach es X.env := by rfl) (hpl : (backTo pos (starEach es X.env)).any (·.1) = false := by rfl)
    (ht : eval (.Call (.Attribute o m apos) (e :: es) [] pos) X.env = (do
      let ov ← eval o X.env
      standAt apos.atName
      let (f, first) ← holding [ov] (getMethod ov m pl)
      callWith pos f first (backTo pos (starEach (e :: es) X.env)) (backToKw pos (keywordEach [] X.env))) := by rfl) :
    PE X (.Call (.Attribute o m apos) (e :: es) [] pos) (tMeth C m sp dvs E ta t) := by
  intro pins s σ H Q I h
  refine PySem.W.methodCall_KW (pl := pl) (thn (he pins s σ H _ I h) fun u s1 ⟨x, H1, I1, rx, a, dx, fs, ex, ea, l, q⟩ => ?_) ht
  subst ex
  obtain rfl : u = Value.ref a := rx
  refine getmeth_ok I1 ea c hm l ?_
  refine PySem.W.callWith_K (first := [.ref a]) (h₀ := X.base) I.ok.mod.kin hm.kp (thn (ha pos pins s1 σ H1 _ I1 q) fun us s2 ⟨vs, H2, I2, r, q2⟩ => ⟨I2.kIn, ?_⟩) hst hpl
  exact run_fn (us := .ref a :: us) (vs := .ref a :: vs) F hr hb hd hx I2 (.cons rfl r) q2
theorem pe_meth0 {pl : Sem Bool} (he : PE X o ta) (c : Cls X.K C) (hm : Meth X.K C m f) (F : FnOk X.prog X.w X.K X.mg X.base CX k f fd ps sp) (hr : Room k X.A) (hb : Binds X.K fd ps ds) (hd : Vals dvs ds) (hx : Passes CX X E)
    (ht : eval (.Call (.Attribute o m apos) [] [] pos) X.env = (do
      let ov ← eval o X.env
      standAt apos.atName
      let (f, first) ← holding [ov] (getMethod ov m pl)
      callWith pos f first (backTo pos (starEach [] X.env)) (backToKw pos (keywordEach [] X.env))) := by rfl) :
    PE X (.Call (.Attribute o m apos) [] [] pos) (tMeth C m sp dvs E ta tNil) := by
  intro pins s σ H Q I h
  refine PySem.W.methodCall_KW (pl := pl) (thn (he pins s σ H _ I h) fun u s1 ⟨x, H1, I1, rx, a, dx, fs, ex, ea, l, q⟩ => ?_) ht
  subst ex
  obtain rfl : u = Value.ref a := rx
  refine getmeth_ok I1 ea c hm l ?_
  exact PySem.W.callWith_K0 (first := [.ref a]) I1.kIn hm.kp (run_fn (us := [.ref a]) (vs := [.ref a]) F hr hb hd hx I1 (.cons rfl .nil) q)

structure Mk (K : PySem.W.Frag) (C f : Addr) : Prop where
  makes : PySem.W.makesIn K C = true
  init : PySem.W.findIn K (.ref C) "__init__" = some (some (.ref f))
  fn : PySem.W.isFn K (.ref f) = true
  kp : PySem.W.keepIn K (.ref C) = true

theorem run_make {pins : List (Addr × Obj)} {σ : St} {H : Hp} {s : Shared} {Q : VK} {us : List Value} {vs : List V} (M : Mk X.K C f) (F : FnOk X.prog X.w X.K X.mg X.base CX k f fd ps sp) (hr : Room (k + 1) X.A) (hb : Binds X.K fd ps ds) (hd : Vals dvs ds)
    (hx : Passes CX X E) (I : Inv X pins σ H s) (r : Vals vs us)
    (h : ∀ x dx, H x = none → H dx = none → dx ≠ x → sp (.ref x :: (vs ++ dvs)) (upd (upd H dx (.own x)) x (.ins C dx [])) (fun v H2 => v = .non ∧ Q (.ref x) H2) E) :
    wpAny (model X.prog X.w) X.A (call (.ref C) us) (EP X pins σ Q) X.xe s := by
  have hq := h (s.heap.objs.size + 1) s.heap.objs.size (I.hok.fresh (Nat.le_succ _)) (I.hok.fresh (Nat.le_refl _)) (Nat.ne_of_lt (Nat.lt_succ_self _))
  have I2 := Inv.made (C := C) I
  have r2 : Vals (V.ref (s.heap.objs.size + 1) :: (vs ++ dvs)) (Value.ref (s.heap.objs.size + 1) :: (us ++ ds)) := .cons rfl (r.append hd)
  have hl : (Value.ref (s.heap.objs.size + 1) :: us ++ ds).length = ps.length := by
    have e := r2.length
    rw [F.len _ _ _ _ hq] at e
    exact e.symm
  refine wpAny_call (make_map (f := f) I.kIn M.makes M.init (beq_iff_eq.mp M.fn) (codeAny_mono (F.run _ X.stack _ _ ⟨Value.ref (s.heap.objs.size + 1) :: us, []⟩ (Value.ref (s.heap.objs.size + 1) :: (us ++ ds)) _ _ E (hr.make C us [])
    (I2.env0.make C us []) (hb _ (Value.ref (s.heap.objs.size + 1) :: us) I2.kIn hl) r2 hq) fun r s' hq' => ?_))
  cases r with
  | error e => exact hx pins σ _ _ e s' I2 hq'
  | ok fl =>
    cases fl with
    | ret u =>
      obtain ⟨v, H', I3, rv, ev, q3⟩ := I2.after hq'
      subst ev
      exact ⟨rv, ⟨V.ref (s.heap.objs.size + 1), H', I3, rfl, q3⟩⟩
    | next => exact False.elim hq'
    | brk => exact False.elim hq'
    | cont => exact False.elim hq'
theorem pe_make (M : Mk X.K C f) (F : FnOk X.prog X.w X.K X.mg X.base CX k f fd ps sp) (hr : Room (k + 1) X.A) (hg : Gl X x) (hm : X.mg x = some (.ref C)) (hb : Binds X.K fd ps ds) (hd : Vals dvs ds) (hx : Passes CX X E)
    (ha : PA X (e :: es) t) (hdb : (x == ("__debug__" : Str)) = false := by decide) (he : starEach (e :: es) X.env = (false, eval e X.env) :: starEach es X.env := by rfl) (hpl : (backTo pos (starEach es X.env)).any (·.1) = false := by rfl) :
    PE X (.Call (.Name x p) (e :: es) [] pos) (tMake C sp dvs E t) := by
  intro pins s σ H Q I h
  refine wpAny_Call_Name_kw (ld_glob I hg hm ?_ hdb)
  refine PySem.W.callWith_K (h₀ := X.base) I.ok.mod.kin M.kp (thn (ha pos pins s σ H _ I h) fun us s1 ⟨vs, H1, I1, r, q⟩ => ⟨I1.kIn, ?_⟩) he hpl
  exact run_make M F hr hb hd hx I1 r q
end

section
variable {X : Cx} {CX : CXT} {k : Nat} {f C : Addr} {fd : FuncData} {ps ks : List Str} {sp : Sp} {E : XK} {x m : Str} {p pos apos kpos : Pos} {e o : Expr} {es : List Expr} {kws : List Keyword} {te ta : TE} {t tk : TA} {nm : Option Str}
structure KBinds (K : PySem.W.Frag) (fd : FuncData) (ps ks : List Str) (g : List Value → List Value → List Value) (gV : List V → List V → List V) : Prop where
  to : ∀ (s : Shared) (us ws : List Value), K.In s.heap → (g us ws).length = ps.length → BindsTo s fd ⟨us, ks.zip ws⟩ (ps.zip (g us ws))
  rel : ∀ {vs : List V} {us : List Value} {zs : List V} {ws : List Value}, Vals vs us → Vals zs ws → Vals (gV vs zs) (g us ws)
variable {g : List Value → List Value → List Value} {gV : List V → List V → List V}
end

structure FnScope (N P : List Str) (sc : Scope) : Prop where
  kind : sc.kind = .function
  co : sc.isCoroutine = false
  gen : sc.isGenerator = false
  nd : N.Nodup
  pre : N.take P.length = P
  par : ∀ x ∈ P, sc.names.lookup x = some .local ∨ sc.names.lookup x = some .cell
  nofree : ∀ y ∈ sc.names, y.2 ≠ .free

theorem bindL_out {kindOf : Str → Option NameKind} {x : Str} : ∀ {binds : List (Str × Value)} {m : Str → Option Value}, (∀ v, (x, v) ∉ binds) → bindL kindOf binds m x = m x
  | [], _, _ => rfl
  | (n, v) :: r, m, h => by
    unfold bindL
    rw [bindL_out fun w hw => h w (List.mem_cons_of_mem _ hw)]
    split
    · have : x ≠ n := by rintro rfl; exact h v List.mem_cons_self
      simp [this]
    · rfl
theorem bindC_out {kindOf : Str → Option NameKind} {x : Str} : ∀ {binds : List (Str × Value)} {m : Str → Option Value}, (∀ v, (x, v) ∉ binds) → bindC kindOf binds m x = m x
  | [], _, _ => rfl
  | (n, v) :: r, m, h => by
    unfold bindC
    rw [bindC_out fun w hw => h w (List.mem_cons_of_mem _ hw)]
    split
    · rfl
    · have : x ≠ n := by rintro rfl; exact h v List.mem_cons_self
      simp [this]
theorem bindL_get {kindOf : Str → Option NameKind} {x : Str} {v : Value} : ∀ {P : List Str} {vs : List Value} {i : Nat} {m : Str → Option Value}, P.Nodup → P[i]? = some x → vs[i]? = some v → kindOf x = some .local →
    bindL kindOf (P.zip vs) m x = some v
  | [], _, _, _, _, h, _, _ => by simp at h
  | _ :: _, [], _, _, _, _, h, _ => by simp at h
  | p :: P, w :: vs, 0, m, nd, h1, h2, hk => by
    simp at h1 h2; subst h1; subst h2
    show bindL kindOf ((p, w) :: P.zip vs) m p = _
    unfold bindL
    rw [bindL_out fun v hv => (List.nodup_cons.mp nd).1 (List.of_mem_zip hv).1, if_pos hk]
    simp
  | p :: P, w :: vs, i + 1, m, nd, h1, h2, hk => by
    show bindL kindOf ((p, w) :: P.zip vs) m x = _
    unfold bindL
    exact bindL_get (i := i) (List.nodup_cons.mp nd).2 (by simpa using h1) (by simpa using h2) hk
theorem bindC_get {kindOf : Str → Option NameKind} {x : Str} {v : Value} : ∀ {P : List Str} {vs : List Value} {i : Nat} {m : Str → Option Value}, P.Nodup → P[i]? = some x → vs[i]? = some v → kindOf x ≠ some .local →
    bindC kindOf (P.zip vs) m x = some v
  | [], _, _, _, _, h, _, _ => by simp at h
  | _ :: _, [], _, _, _, _, h, _ => by simp at h
  | p :: P, w :: vs, 0, m, nd, h1, h2, hk => by
    simp at h1 h2; subst h1; subst h2
    show bindC kindOf ((p, w) :: P.zip vs) m p = _
    unfold bindC
    rw [bindC_out fun v hv => (List.nodup_cons.mp nd).1 (List.of_mem_zip hv).1, if_neg hk]
    simp
  | p :: P, w :: vs, i + 1, m, nd, h1, h2, hk => by
    show bindC kindOf ((p, w) :: P.zip vs) m x = _
    unfold bindC
    exact bindC_get (i := i) (List.nodup_cons.mp nd).2 (by simpa using h1) (by simpa using h2) hk

def start (N : List Str) (vs : List V) : St := vs.map some ++ List.replicate (N.length - vs.length) none

def cxOf (CX : CXT) (P : Program) (w : World) (K : PySem.W.Frag) (mg : Str → Option Value) (base : Heap) (N : List Str) (qual : Str) (scope : Scope) (f : Addr) (cd : Value) (A : Around) (outer : List Env) (s : Shared) (H : Hp) (E : XK) : Cx where
  prog := P
  w := w
  K := K
  mg := mg
  base := base
  A := A.deeper (envOfC qual scope s.heap.objs.size f cd)
  N := N
  s₀ := s
  H₀ := H
  env := envOfC qual scope s.heap.objs.size f cd
  outer := outer
  stack := envOfC qual scope s.heap.objs.size f cd :: outer
  ex := []
  calm := true
  fn := fun _ => true
  pn := []
  xe := fun e s' => wpAny (model P w) (A.deeper (envOfC qual scope s.heap.objs.size f cd)) (leaving (envOfC qual scope s.heap.objs.size f cd) e) (fun _ s'' => CX outer H s E e s'') (fun e' s'' => CX outer H s E e' s'') s'

theorem cell_has {sc : Scope} {n : Nat} {x : Str} (h : sc.names.lookup x = some .cell) : ∃ c, (cellsFrom n sc.names []).lookup x = some c := by
  have q := PySem.W.cellsFrom_some sc.names n [] (.inl h)
  exact Option.isSome_iff_exists.mp q

theorem inv_start {CX : CXT} {P : Program} {w : World} {K : PySem.W.Frag} {mg : Str → Option Value} {base : Heap} {N ps : List Str} {qual : Str} {scope : Scope} {f : Addr} {cd : Value} {A : Around} {outer : List Env} {s s1 : Shared} {H : Hp} {E : XK} {us : List Value} {vs : List V}
    (S : FnScope N ps scope) (hd : A.handled = none) (e0 : Env0 P w K mg base A outer s H) (hl : vs.length = ps.length) (r : Vals vs us)
    (x : InCallC s s.heap.objs.size (bindL (envOfC qual scope s.heap.objs.size f cd).kindOf (ps.zip us) fun _ => none) (cellsFrom (s.heap.objs.size + 1) scope.names []) (bindC (envOfC qual scope s.heap.objs.size f cd).kindOf (ps.zip us) fun _ => none) s1) :
    Inv (cxOf CX P w K mg base N qual scope f cd A outer s H E) [] (start N vs) H s1 := by
  have hpl : ps.length ≤ N.length := by have := congrArg List.length S.pre; rw [List.length_take] at this; omega
  obtain ⟨h1, tk, rfl, hk⟩ := x.done
  have noA : ∀ b : Addr, b ∉ (cxOf CX P w K mg base N qual scope f cd A outer s H E).ex := fun b z => absurd (show b ∈ ([] : List Addr) from z) (by simp)
  refine ⟨⟨e0.mod, S.kind, rfl, rfl, Nat.le_refl _, fun y z c h1 h2 => ?_, fun y hy => ?_, fun y c _ h => ?_, fun _ => hd, Around.frames_deeper e0.frames, .inr ⟨rfl, rfl⟩, fun b z => absurd z (noA b), e0.bs, e0.bsz, fun b _ _ => noA b, fun b z => absurd z (noA b), e0.funs, e0.frf⟩,
    rfl, e0.bare, Un.kept hk, ⟨_, x.toInCall.ns, fun i y v h1 h2 h3 => ?_⟩, fun y c h => ⟨_, x.cell y c h⟩, e0.hok.fresh (Nat.le_refl _), fun y c h => ?_, fun p hp => absurd (show p ∈ ([] : List (Addr × Obj)) from hp) (by simp), e0.hok.kept hk, ?_⟩
  · exact name_of_addr x.apart (PySem.mem_of_lookup h1) (PySem.mem_of_lookup h2)
  · have hy : scope.names.lookup y = some .cell ∨ scope.names.lookup y = some .free := hy
    rcases hy with hy | hy
    · exact cell_has hy
    · exact absurd rfl (S.nofree _ (PySem.mem_of_lookup hy))
  · exact Nat.le_of_lt (x.above y c (PySem.mem_of_lookup h))
  · have hi : i < vs.length := by
      unfold start at h2
      by_cases hi : i < vs.length
      · exact hi
      · rw [List.getElem?_append_right (by simpa using hi)] at h2
        rw [List.getElem?_replicate] at h2
        split at h2 <;> cases h2
    have ha : vs[i]? = some v := by
      unfold start at h2
      rw [List.getElem?_append_left (by simpa using hi), List.getElem?_map] at h2
      cases e : vs[i]? with
      | none => rw [e] at h2; cases h2
      | some a => rw [e] at h2; cases h2; rfl
    obtain ⟨u, hu, rv⟩ := r.get ha
    have hp : ps[i]? = some y := by
      rw [← S.pre, List.getElem?_take_of_lt (by omega)]; exact h1
    have ndP : ps.Nodup := by rw [← S.pre]; exact S.nd.sublist (List.take_sublist _ _)
    refine ⟨u, rv, ?_⟩
    rcases S.par y (List.mem_of_getElem? hp) with k | k
    · exact .inl ⟨k, bindL_get ndP hp hu k⟩
    · obtain ⟨c, e⟩ := cell_has (n := s.heap.objs.size + 1) k
      refine .inr ⟨.inl k, c, e, ?_⟩
      have q := x.cell y c e
      rw [bindC_get ndP hp hu (by show scope.names.lookup y ≠ _; rw [k]; decide)] at q
      exact q
  · exact e0.hok.fresh (Nat.le_of_lt (x.above y c (PySem.mem_of_lookup h)))
  · unfold start
    show _ = N.length
    rw [List.length_append, List.length_map, List.length_replicate]
    omega

theorem fn_of {CX : CXT} {P : Program} {w : World} {K : PySem.W.Frag} {mg : Str → Option Value} {base : Heap} {k : Nat} {f : Addr} {name qual : Str} {params : Arguments} {body : List Stmt} {scope : Scope} {dV kV doc pm cdv ct oc : Value} {an od : Option Addr}
    {osl : Array (Option Value)} {N ps : List Str} {sp : Sp} (lk : K.lookup f = some ⟨oc, od, .func (PySem.W.fnOf name qual params body scope dV kV doc pm an cdv ct), osl⟩) (hcd : PySem.W.codeIn K cdv qual = true) (S : FnScope N ps scope)
    (len : ∀ vs H Q E, sp vs H Q E → vs.length = ps.length)
    (hbody : ∀ (A : Around) (outer : List Env) (s : Shared) (H : Hp) (vs : List V) (Q : VK) (E : XK), Room k (A.deeper (envOfC qual scope s.heap.objs.size f cdv)) → sp vs H Q E →
      ∃ t, PSs (cxOf CX P w K mg base N qual scope f cdv A outer s H E) body t ∧ t { nx := fun _ H' => Q .non H', rt := Q } (start N vs) H) :
    FnOk P w K mg base CX (k + 1) f (PySem.W.fnOf name qual params body scope dV kV doc pm an cdv ct) ps sp := by
  refine ⟨len, fun A outer s H args us vs Q E hr e0 hb r hsp => ?_⟩
  have hl := len _ _ _ _ hsp
  have KX : K.In s.heap := e0.mod.kin.keeps fun b o e => (e0.bs b o e).1
  have lim : s.heap.NoLimit := e0.mod.nolimit.keeps fun b o e => (e0.bs b o e).1
  have hkind : ∀ y ∈ ps.zip us, scope.names.lookup y.1 = some .local ∨ (scope.names.lookup y.1 = some .cell ∧ ((cellsFrom (s.heap.objs.size + 1) scope.names []).lookup y.1).isSome = true) := fun ⟨n, v⟩ hy => by
    rcases S.par n (List.of_mem_zip hy).1 with q | q
    · exact .inl q
    · exact .inr ⟨q, PySem.W.cellsFrom_some _ _ _ (.inl q)⟩
  refine codeAny_call_function hr.depth (KX _ _ lk) rfl S.co S.gen rfl (PySem.W.codeRec_of KX hcd) (hb _ _ _ _ ?_)
  refine wpAny_newFunctionEnv_cells S.kind hkind fun env he s1 x => ?_
  subst he
  refine ⟨lim.keeps x.toInCall.keep, codeAny_func ?_⟩
  obtain ⟨t, ht, hq⟩ := hbody A outer s H vs Q E (hr.deeper _) hsp
  have I : Inv (cxOf CX P w K mg base N qual scope f cdv A outer s H E) [] (start N vs) H s1 := inv_start S hr.hd e0 hl r x
  refine wpAny_mono (ht [] s1 (start N vs) H _ I hq) (fun fl s' hs => ?_) fun e s' hs => hs
  have fin : ∀ {σ' : St} {H' : Hp} {v : V} {u : Value}, Inv (cxOf CX P w K mg base N qual scope f cdv A outer s H E) [] σ' H' s' → RelV v u → Q v H' → CE outer P w H s Q u s' :=
    fun {σ' H' v u} J rv q => ⟨v, H', J.os, J.bare, J.base, J.hok, rv, q⟩
  cases fl with
  | ret u =>
    obtain ⟨v, σ', H', J, rv, q⟩ := hs
    exact fin J rv q
  | next =>
    obtain ⟨σ', H', J, q⟩ := hs
    exact fin (v := V.non) (u := Value.none) J rfl q
  | brk =>
    obtain ⟨_, _, _, q⟩ := hs
    exact False.elim q
  | cont =>
    obtain ⟨_, _, _, q⟩ := hs
    exact False.elim q
end L2

namespace L2
open PySem PySem.Spec PyProof.Rows
section
variable {X : Cx} {x : Str} {p pos : Pos} {e : Expr} {es : List Expr} {t : TA} {id T : String} {r : List V → Hp → VK → Prop}

def tCB (r : List V → Hp → VK → Prop) (t : TA) : TE := fun σ H Q => t σ H fun vs H1 => r vs H1 Q
theorem pe_callB (hc : CallR X (.builtin id) r) (hg : Gl X x) (hm : X.mg x = none) (hv : bootBuiltins x = some (.builtin id)) (ha : PA X (e :: es) t) (hn : x ≠ "__name__" := by decide) (hdb : (x == ("__debug__" : Str)) = false := by decide)
    (he : starEach (e :: es) X.env = (false, eval e X.env) :: starEach es X.env := by rfl) (hpl : (backTo pos (starEach es X.env)).any (·.1) = false := by rfl) : PE X (.Call (.Name x p) (e :: es) [] pos) (tCB r t) := by
  intro pins s σ H Q I h
  refine wpAny_Call_Name_kw (ld_blt I hg hm hv ?_ hn hdb)
  exact PyProof.Rows.callWith_builtin1 (thn (ha pos pins s σ H _ I h) fun us s1 ⟨vs, H1, I1, r1, q1⟩ => hc pins s1 σ H1 vs us Q I1 r1 q1) he hpl
theorem pe_callTy (hc : CallR X (.type T) r) (hg : Gl X x) (hm : X.mg x = none) (hv : bootBuiltins x = some (.type T)) (ha : PA X (e :: es) t) (hn : x ≠ "__name__" := by decide) (hdb : (x == ("__debug__" : Str)) = false := by decide)
    (he : starEach (e :: es) X.env = (false, eval e X.env) :: starEach es X.env := by rfl) (hpl : (backTo pos (starEach es X.env)).any (·.1) = false := by rfl) : PE X (.Call (.Name x p) (e :: es) [] pos) (tCB r t) := by
  intro pins s σ H Q I h
  refine wpAny_Call_Name_kw (ld_blt I hg hm hv ?_ hn hdb)
  exact PyProof.Rows.callWith_type1 (thn (ha pos pins s σ H _ I h) fun us s1 ⟨vs, H1, I1, r1, q1⟩ => hc pins s1 σ H1 vs us Q I1 r1 q1) he hpl
end
end L2

namespace HT
open PySem PyProof.Rows

section
open PySem.SeqAt
open PySem.AutoSeq1 (wpAny_loadPart')
open PySem.MeetsSeq PySem.MeetsSeq2 PySem.MeetsSeq3

end

section
variable {prog : Program} {w : World} {A : Around} {E : Value → Shared → Prop} {s : Shared}

def sIx (n d : Nat) : Option Int → Nat
  | none => d
  | some v => if v < 0 then (v + (n : Int)).toNat else min v.toNat n
theorem sIx_nat (n d k : Nat) : sIx n d (some (k : Int)) = min k n := by
  show (if (k : Int) < 0 then ((k : Int) + (n : Int)).toNat else min (k : Int).toNat n) = min k n
  rw [if_neg (by omega), Int.toNat_natCast]
end
end HT

namespace L2
open PySem PySem.Spec PyProof.Rows

abbrev TO := St → Hp → (Option Int → Hp → Prop) → Prop
def PO (X : Cx) (e : Option Expr) (t : TO) : Prop :=
  ∀ (pins : List (Addr × Obj)) (s : Shared) (σ : St) (H : Hp) (Q : Option Int → Hp → Prop), Inv X pins σ H s → t σ H Q →
    wpAny (model X.prog X.w) X.A (evalPart e X.env) (fun u s' => ∃ o H', Inv X pins σ H' s' ∧ IsPart u o ∧ Q o H') X.xe s
def tNoPart : TO := fun _ H Q => Q none H
def tPart (t : TE) : TO := fun σ H Q => t σ H fun x H1 => ∃ i, x = .int i ∧ Q (some i) H1

theorem intsAre_of {ns : List Int} : ∀ {us : List Value}, Vals (ns.map V.int) us → IntsAre us ns := by
  induction ns with
  | nil => intro us r; rw [List.map_nil] at r; cases r; exact .nil
  | cons n ns ih =>
    intro us r
    rw [List.map_cons] at r
    cases r with
    | cons r1 r2 =>
      obtain ⟨t, e⟩ := r1
      subst e
      exact .cons n t (ih r2)

section
variable {X : Cx} {e : Expr} {te : TE} {lo hi : Option Expr} {tl th : TO} {pos p2 : Pos}

theorem po_none : PO X none tNoPart := by
  intro pins s σ H Q I h
  rw [evalPart_none]
  exact wpAny_pure ⟨none, H, I, .none, h⟩
theorem po_some (h : PE X e te) : PO X (some e) (tPart te) := by
  intro pins s σ H Q I hw
  rw [evalPart_some]
  refine thn (h pins s σ H _ I hw) fun u s1 ⟨x, H1, I1, r1, q1⟩ => ?_
  obtain ⟨i, rfl, q⟩ := q1
  obtain ⟨t, rfl⟩ := r1
  exact ⟨some i, H1, I1, .int i t, q⟩

def SlR (X : Cx) (r : V → Option Int → Option Int → Hp → VK → Prop) : Prop :=
  ∀ (pins : List (Addr × Obj)) (s : Shared) (σ : St) (H : Hp) (x : V) (v vl vu : Value) (lo hi : Option Int) (sl : Addr) (Q : VK), Inv X pins σ H s → RelV x v → s.heap.IsSliceOf sl vl vu .none → IsPart vl lo → IsPart vu hi → r x lo hi H Q →
    ∃ T id, typeLookup (.type T) "__getitem__" = pure (some (.builtin id)) ∧ s.TypeIs v T ∧ wpAny (model X.prog X.w) X.A (getItem v (.ref sl)) (EP X pins σ Q) X.xe s
theorem SlR.or {r r' : V → Option Int → Option Int → Hp → VK → Prop} (h : SlR X r) (h' : SlR X r') : SlR X (fun x lo hi H Q => r x lo hi H Q ∨ r' x lo hi H Q) := by
  intro pins s σ H x v vl vu lo hi sl Q I rx hs pl pu q
  rcases q with q | q
  · exact h pins s σ H x v vl vu lo hi sl Q I rx hs pl pu q
  · exact h' pins s σ H x v vl vu lo hi sl Q I rx hs pl pu q
def tSl (r : V → Option Int → Option Int → Hp → VK → Prop) (te : TE) (tl th : TO) : TE := fun σ H Q => te σ H fun x H1 => tl σ H1 fun l H2 => th σ H2 fun u H3 => r x l u H3 Q
theorem pe_slice {r : V → Option Int → Option Int → Hp → VK → Prop} (hr : SlR X r) (he : PE X e te) (hl : PO X lo tl) (hu : PO X hi th) : PE X (.Subscript e (.Slice lo hi none p2) pos) (tSl r te tl th) := by
  intro pins s σ H Q I h
  refine Subscript_ (thn (he pins s σ H _ I h) fun v s1 ⟨x, H1, I1, r1, q1⟩ => ?_)
  refine wpAny_Slice (thn (hl pins s1 σ H1 _ I1 q1) fun vl s2 ⟨l, H2, I2, pl, q2⟩ => thn (hu pins s2 σ H2 _ I2 q2) fun vu s3 ⟨u, H3, I3, pu, q3⟩ => ?_)
  rw [evalPart_none]
  refine wpAny_pure ?_
  have I4 : Inv X pins σ H3 { s3 with heap := s3.heap.push { cls := .type "slice", data := .fields #[vl, vu, .none] } } := I3.kept (t' := s3.toks) fun b ob q => Heap.get?_push_of_some _ q
  obtain ⟨T, id, hT, ht, hg⟩ := hr pins { s3 with heap := s3.heap.push { cls := .type "slice", data := .fields #[vl, vu, .none] } } σ H3 x v vl vu l u s3.heap.objs.size Q I4 r1 (Heap.IsSliceOf.new ..) pl pu q3
  show wpAny (model X.prog X.w) X.A (subscriptTail e (.Slice lo hi none p2) v (.ref s3.heap.objs.size)) (EP X pins σ Q) X.xe { s3 with heap := s3.heap.push { cls := .type "slice", data := .fields #[vl, vu, .none] } }
  exact tail_any (ops := [.ref s3.heap.objs.size, v]) ht hT hg (by with_unfolding_all rfl)

def cutV (xs : List V) (lo hi : Option Int) : List V := (xs.drop (HT.sIx xs.length 0 lo)).take (HT.sIx xs.length xs.length hi - HT.sIx xs.length 0 lo)
theorem cutV_length (xs : List V) (lo hi : Option Int) : (cutV xs lo hi).length ≤ xs.length := by
  unfold cutV
  rw [List.length_take, List.length_drop]
  omega
end
end L2

namespace L2
open PySem PySem.Spec PyProof.Rows

def ixN (n : Nat) (i : Int) : Option Nat := if 0 ≤ i then (if i < n then some i.toNat else none) else if -(n : Int) ≤ i then some (i + n).toNat else none
def atI {α : Type} (xs : List α) (i : Int) : Option α := (ixN xs.length i).bind fun j => xs[j]?
theorem ixN_seq {n : Nat} {i : Int} {j : Nat} (h : ixN n i = some j) : seqIndex? i n = some j ∧ j < n ∧ -(n : Int) ≤ i ∧ i < n := by
  unfold ixN at h
  by_cases h0 : 0 ≤ i
  · rw [if_pos h0] at h
    by_cases h1 : i < n
    · rw [if_pos h1] at h
      have e : i.toNat = j := Option.some.inj h
      exact ⟨by rw [seqIndex_of h0 h1, e], by omega, by omega, h1⟩
    · rw [if_neg h1] at h; cases h
  · rw [if_neg h0] at h
    by_cases h1 : -(n : Int) ≤ i
    · rw [if_pos h1] at h
      have e : (i + n).toNat = j := Option.some.inj h
      exact ⟨by rw [seqIndex_neg (by omega) h1, e], by omega, h1, by omega⟩
    · rw [if_neg h1] at h; cases h
theorem atI_get {α : Type} {xs : List α} {i : Int} {v : α} (h : atI xs i = some v) : ∃ j, seqIndex? i xs.length = some j ∧ xs[j]? = some v ∧ j < xs.length ∧ -(xs.length : Int) ≤ i ∧ i < xs.length := by
  unfold atI at h
  cases e : ixN xs.length i with
  | none => rw [e] at h; cases h
  | some j =>
    rw [e] at h
    obtain ⟨h1, h2, h3, h4⟩ := ixN_seq e
    exact ⟨j, h1, h, h2, h3, h4⟩
theorem atI_nat {α : Type} {xs : List α} {j : Nat} {v : α} (h : xs[j]? = some v) : atI xs (j : Int) = some v := by
  have hj : j < xs.length := (List.getElem?_eq_some_iff.mp h).1
  have e : ixN xs.length (j : Int) = some j := by
    unfold ixN
    rw [if_pos (by omega), if_pos (by omega)]; simp
  unfold atI; rw [e]; exact h
def PlainIx (b : Expr) : Prop := ∀ o i, subscripted b false o i = operate [o, i] (getItem o i)
def IxR (X : Cx) (r : R2) : Prop :=
  ∀ (value slice : Expr) (pins : List (Addr × Obj)) (s : Shared) (σ : St) (H : Hp) (x y : V) (v u : Value) (Q : VK), Inv X pins σ H s → RelV x v → RelV y u → r x y H Q →
    subscripted slice false v u = operate [v, u] (getItem v u) → wpAny (model X.prog X.w) X.A (subscriptTail value slice v u) (EP X pins σ Q) X.xe s
def MtR (X : Cx) (id : String) (r : V → List V → Hp → VK → Prop) : Prop :=
  ∀ (pins : List (Addr × Obj)) (s : Shared) (σ : St) (H : Hp) (x : V) (xs : List V) (v : Value) (us : List Value) (Q : VK), Inv X pins σ H s → RelV x v → Vals xs us → r x xs H Q →
    wpAny (model X.prog X.w) X.A (call (.builtin id) (v :: us)) (EP X pins σ Q) X.xe s
section
variable {X : Cx} {a b : Expr} {ta tb : TE} {pos : Pos}
theorem IxR.or {r r' : R2} (h : IxR X r) (h' : IxR X r') : IxR X (fun x y H Q => r x y H Q ∨ r' x y H Q) := by
  intro value slice pins s σ H x y v u Q I rx ry q hs
  rcases q with q | q
  · exact h value slice pins s σ H x y v u Q I rx ry q hs
  · exact h' value slice pins s σ H x y v u Q I rx ry q hs
theorem MtR.or {id : String} {r r' : V → List V → Hp → VK → Prop} (h : MtR X id r) (h' : MtR X id r') : MtR X id (fun x xs H Q => r x xs H Q ∨ r' x xs H Q) := by
  intro pins s σ H x xs v us Q I rx rs q
  rcases q with q | q
  · exact h pins s σ H x xs v us Q I rx rs q
  · exact h' pins s σ H x xs v us Q I rx rs q
theorem pe_ix {r : R2} (hr : IxR X r) (ha : PE X a ta) (hb : PE X b tb) (hs : PlainIx b) : PE X (.Subscript a b pos) (tOp r ta tb) := by
  intro pins s σ H Q I h
  exact Subscript_ (binT ha hb I h fun v u s2 x y H2 I2 rx ry q => hr a b pins s2 σ H2 x y v u Q I2 rx ry q (hs _ _))

def rIxL (K : PySem.W.Frag) : R2 := fun x y H Q => ∃ p xs i v, x = .ref p ∧ y = .int i ∧ SqL K H p xs ∧ atI xs i = some v ∧ Q v H
def rIxT (K : PySem.W.Frag) : R2 := fun x y H Q => ∃ p xs i v, x = .ref p ∧ y = .int i ∧ SqT K H p xs ∧ atI xs i = some v ∧ Q v H
theorem ix_list : IxR X (rIxL X.K) := by
  intro value slice pins s σ H x y v u Q I rx ry h hs
  obtain ⟨p, xs, i, z, rfl, rfl, hq, he, q⟩ := h
  cases rx
  obtain ⟨t, rfl⟩ := ry
  obtain ⟨its, r, pl, hz⟩ := I.list hq
  obtain ⟨j, h1, h2, h3, h4, h5⟩ := atI_get he
  obtain ⟨w, ew, rw'⟩ := r.get h2
  have hl := r.length
  have hn := line63
  have fin : EP X pins σ Q w s := ⟨z, H, I, rw', q⟩
  by_cases h0 : 0 ≤ i
  · have hj : i.toNat = j := by
      rw [seqIndex_of h0 h5] at h1
      exact Option.some.inj h1
    exact item_listR pl.isList h0 (by omega) (by rw [hj]; simpa using ew) fin hs
  · have hj : (i + (its.toArray.size : Int)).toNat = j := by
      rw [seqIndex_neg (by omega) h4] at h1
      rw [List.size_toArray, ← hl]
      exact Option.some.inj h1
    exact subscriptTail_builtinR (x := w) pl.isList.typeIs slot_list_getitem.lookup
      (wpAny_getItem_list_neg (Q := fun r s' => r = w ∧ EP X pins σ Q r s') pl.isList (by omega) (by rw [List.size_toArray] <;> omega) (by omega) (by rw [hj]; simpa using ew) ⟨rfl, fin⟩) hs
theorem ix_tup : IxR X (rIxT X.K) := by
  intro value slice pins s σ H x y v u Q I rx ry h hs
  obtain ⟨p, xs, i, z, rfl, rfl, hq, he, q⟩ := h
  cases rx
  obtain ⟨t, rfl⟩ := ry
  obtain ⟨its, r, pl, hz⟩ := I.tuple hq
  obtain ⟨j, h1, h2, h3, h4, h5⟩ := atI_get he
  obtain ⟨w, ew, rw'⟩ := r.get h2
  have hl := r.length
  have hn := line63
  have fin : EP X pins σ Q w s := ⟨z, H, I, rw', q⟩
  exact subscriptTail_builtinR (x := w) pl.typeIs slot_tuple_getitem.lookup
    (getItem_tuple (j := j) (Q := fun r s' => r = w ∧ EP X pins σ Q r s') pl (by omega) (by omega) (by rw [List.size_toArray, ← hl]; exact h1) (by simpa using ew) ⟨rfl, fin⟩) hs
theorem Inv.lst {pins : List (Addr × Obj)} {σ : St} {H : Hp} {s : Shared} {p : Addr} {xs : List V} (I : Inv X pins σ H s) (h : H p = some (.lst xs)) :
    ∃ (its : List Value) (n : Nat), Vals xs its ∧ s.heap.get? p = some { cls := .type "list", data := .seq its.toArray n } ∧ xs.length ≤ sizeLine := by
  obtain ⟨z, its, n, r, e⟩ := I.hok p _ h
  exact ⟨its, n, r, e, z⟩
theorem slice_bounds (lo hi : Option Int) (n : Nat) : (sliceBounds lo hi none n).1 = ((HT.sIx n 0 lo : Nat) : Int) ∧ (sliceBounds lo hi none n).2.1 = ((HT.sIx n n hi : Nat) : Int) ∧ (sliceBounds lo hi none n).2.2 = 1 := by
  refine ⟨?_, ?_, rfl⟩
  · cases lo with
    | none => simp [sliceBounds, HT.sIx]
    | some i =>
      simp only [sliceBounds, HT.sIx, Option.getD_none, show (1 : Int) > 0 by decide, if_true]
      by_cases h : i < 0
      · simp only [h, if_true] <;> omega
      · simp only [h, if_false] <;> omega
  · cases hi with
    | none => simp [sliceBounds, HT.sIx]
    | some i =>
      simp only [sliceBounds, HT.sIx, Option.getD_none, show (1 : Int) > 0 by decide, if_true]
      by_cases h : i < 0
      · simp only [h, if_true] <;> omega
      · simp only [h, if_false] <;> omega
theorem slicePick_cut (its : List Value) (lo hi : Option Int) : slicePick its.toArray lo hi none = ((its.drop (HT.sIx its.length 0 lo)).take (HT.sIx its.length its.length hi - HT.sIx its.length 0 lo)).toArray := by
  obtain ⟨h1, h2, h3⟩ := slice_bounds lo hi its.toArray.size
  unfold slicePick
  rw [h1, h2, h3]
  simp only [sliceRange_one, pick_run, List.size_toArray] <;> rfl
def rSlL (K : PySem.W.Frag) : V → Option Int → Option Int → Hp → VK → Prop := fun x lo hi H Q => ∃ a xs, x = .ref a ∧ SqL K H a xs ∧ ∀ p, H p = none → Q (.ref p) (upd H p (.lst (cutV xs lo hi)))
theorem sl_list : SlR X (rSlL X.K) := by
  intro pins s σ H x v vl vu lo hi sl Q I rx hs pl pu h
  obtain ⟨a, xs, rfl, hx, q⟩ := h
  cases rx
  obtain ⟨its, r, ht, hz⟩ := I.list hx
  have hlen := r.length
  refine ⟨"list", _, slot_list_getitem.lookup, ht.isList.typeIs, ?_⟩
  refine wpAny_getItem_list_slice ht.isList hs pl pu .none (by simp) ?_ (by rw [List.size_toArray] <;> omega)
  rw [slicePick_cut, ← hlen]
  refine ⟨.ref s.heap.objs.size, _, I.laid (t' := s.toks) (o := .lst (cutV xs lo hi)) (fun b ob q => Heap.get?_push_of_some _ q) (Nat.le_refl _) ?_, rfl, q _ (I.hok.fresh (Nat.le_refl _))⟩
  exact ⟨Nat.le_trans (cutV_length xs lo hi) hz, _, 0, (r.drop (HT.sIx xs.length 0 lo)).take (HT.sIx xs.length xs.length hi - HT.sIx xs.length 0 lo), Heap.get?_push_size _ rfl⟩

def flatV : V → Bool
  | .non => true
  | .bl _ => true
  | .int _ => true
  | .str _ => true
  | _ => false
def eqV : V → V → Bool
  | .non, .non => true
  | .bl a, .bl b => a == b
  | .bl a, .int b => (if a then 1 else 0) == b
  | .int a, .bl b => a == (if b then 1 else 0)
  | .int a, .int b => a == b
  | .str a, .str b => a == b
  | _, _ => false
theorem eqAt_V {A : Around} {s : Shared} {y x : V} {u v : Value} (ry : RelV y u) (rx : RelV x v) (fy : flatV y = true) (fx : flatV x = true) : SeqAt.EqAt A s u v (eqV y x) := by
  cases y with
  | non =>
    cases ry
    cases x with
    | non => cases rx; exact SeqAt.EqAt.same _
    | bl b => cases rx; exact SeqAt.EqAt.none_bool b
    | int b => obtain ⟨t, rfl⟩ := rx; exact SeqAt.EqAt.none_int b t
    | str b => obtain ⟨t, rfl⟩ := rx; exact SeqAt.EqAt.none_str b t
    | _ => exact absurd (show false = true from fx) Bool.false_ne_true
  | bl a =>
    cases ry
    cases x with
    | non => cases rx; exact SeqAt.EqAt.bool_none a
    | bl b => cases rx; exact SeqAt.EqAt.bool_bool a b
    | int b => obtain ⟨t, rfl⟩ := rx; exact SeqAt.EqAt.bool_int a b t
    | str b => obtain ⟨t, rfl⟩ := rx; exact SeqAt.EqAt.bool_str a b t
    | _ => exact absurd (show false = true from fx) Bool.false_ne_true
  | int a =>
    obtain ⟨t', rfl⟩ := ry
    cases x with
    | non => cases rx; exact SeqAt.EqAt.int_none a t'
    | bl b => cases rx; exact SeqAt.EqAt.int_bool a t' b
    | int b => obtain ⟨t, rfl⟩ := rx; exact SeqAt.EqAt.int_int a t' b t
    | str b => obtain ⟨t, rfl⟩ := rx; exact SeqAt.EqAt.int_str a t' b t
    | _ => exact absurd (show false = true from fx) Bool.false_ne_true
  | str a =>
    obtain ⟨t', rfl⟩ := ry
    cases x with
    | non => cases rx; exact SeqAt.EqAt.str_none a t'
    | bl b => cases rx; exact SeqAt.EqAt.str_bool a t' b
    | int b => obtain ⟨t, rfl⟩ := rx; exact SeqAt.EqAt.str_int a t' b t
    | str b => obtain ⟨t, rfl⟩ := rx; exact SeqAt.EqAt.str_str a t' b t
    | _ => exact absurd (show false = true from fx) Bool.false_ne_true
  | _ => exact absurd (show false = true from fy) Bool.false_ne_true
theorem call_len_seq : CallR X (.builtin "len") (fun xs H Q => ∃ p ys, xs = [.ref p] ∧ (SqL X.K H p ys ∨ SqT X.K H p ys) ∧ Q (.int ys.length) H) := by
  intro pins s σ H xs us Q I r h
  obtain ⟨p, ys, rfl, hq, q⟩ := h
  obtain ⟨u, rfl, rx⟩ := vals1 r
  cases rx
  have hn := line63
  rcases hq with hq | hq
  · obtain ⟨its, r', pl, hz⟩ := I.list hq
    have hlen := r'.length
    exact Calls.call_len_list pl.isList (by simp only [List.size_toArray] <;> omega) ⟨.int ys.length, H, I.tok _, ⟨s.toks + 1, by rw [List.size_toArray, hlen]⟩, q⟩
  · obtain ⟨its, r', pl, hz⟩ := I.tuple hq
    have hlen := r'.length
    exact len_tuple pl (by simp only [List.size_toArray] <;> omega) ⟨.int ys.length, H, I.tok _, ⟨s.toks + 1, by rw [List.size_toArray, hlen]⟩, q⟩
theorem call_len_str : CallR X (.builtin "len") (fun xs H Q => ∃ z, xs = [.str z] ∧ z.length ≤ sizeLine ∧ Q (.int z.length) H) := by
  intro pins s σ H xs us Q I r h
  obtain ⟨z, rfl, hz, q⟩ := h
  obtain ⟨u, rfl, t, rfl⟩ := vals1 r
  have hn := line63
  exact len_str (by omega) ⟨.int z.length, H, I.tok _, ⟨_, rfl⟩, q⟩
theorem CallR.or {f : Value} {r r' : List V → Hp → VK → Prop} (h : CallR X f r) (h' : CallR X f r') : CallR X f (fun xs H Q => r xs H Q ∨ r' xs H Q) := by
  intro pins s σ H xs us Q I rs q
  rcases q with q | q
  · exact h pins s σ H xs us Q I rs q
  · exact h' pins s σ H xs us Q I rs q
def tyV (K : PySem.W.Frag) (T : String) (x : V) (H : Hp) : Prop := match x with
  | .str _ => T = "str"
  | .int _ => T = "int"
  | .ref p => (T = "list" ∧ ∃ xs, SqL K H p xs) ∨ (T = "tuple" ∧ ∃ o, K.lookup p = some o ∧ o.cls = .type "tuple" ∧ o.dict = none) ∨
      (T = "dict" ∧ ((∃ kvs, H p = some (.dK kvs)) ∨ ∃ kvs, H p = some (.dT kvs))) ∨ (T = "set" ∧ ∃ S n, H p = some (.set S n))
  | _ => False
theorem tyV_is {pins : List (Addr × Obj)} {σ : St} {H : Hp} {s : Shared} {T : String} {x : V} {v : Value} (I : Inv X pins σ H s) (r : RelV x v) (ty : tyV X.K T x H) :
    s.TypeIs v T ∧ ∀ a, v = .ref a → ∃ ob, s.heap.get? a = some ob ∧ ob.dict = none := by
  cases x with
  | str z =>
    obtain ⟨t, rfl⟩ := r
    cases (show T = "str" from ty)
    exact ⟨typeIs_str s z t, fun _ e => nomatch e⟩
  | int i =>
    obtain ⟨t, rfl⟩ := r
    cases (show T = "int" from ty)
    exact ⟨typeIs_int s i t, fun _ e => nomatch e⟩
  | ref p =>
    cases r
    rcases ty with ⟨rfl, xs, hq⟩ | ⟨rfl, o, hk, hc, hd⟩ | ⟨rfl, hk⟩ | ⟨rfl, S, n, hk⟩
    · obtain ⟨its, _, pl, _⟩ := I.list hq
      refine ⟨pl.isList.typeIs, fun a e => ?_⟩
      cases e
      obtain ⟨o, n, e, c, hd, _⟩ := pl
      exact ⟨o, e, hd⟩
    · refine ⟨⟨o, I.kIn p o hk, hc⟩, fun a e => ?_⟩
      cases e
      exact ⟨o, I.kIn _ o hk, hd⟩
    · have z : ∃ o, s.heap.get? p = some o ∧ o.ExactDict := by
        rcases hk with ⟨kvs, hk⟩ | ⟨kvs, hk⟩
        · obtain ⟨_, _, _, _, o, _, _, e, ex, _⟩ := I.hok p _ hk
          exact ⟨o, e, ex⟩
        · obtain ⟨_, _, _, _, o, _, _, e, ex, _⟩ := I.hok p _ hk
          exact ⟨o, e, ex⟩
      obtain ⟨o, e, ex⟩ := z
      refine ⟨⟨o, e, ex.1⟩, fun a e2 => ?_⟩
      cases e2
      exact ⟨o, e, ex.2.1⟩
    · obtain ⟨o, _, _, _, e, ex, _⟩ := I.hok p _ hk
      refine ⟨⟨o, e, ex.1⟩, fun a e2 => ?_⟩
      cases e2
      exact ⟨o, e, ex.2.1⟩
  | _ => exact False.elim ty
def tBM0 (K : PySem.W.Frag) (T : String) (r : V → List V → Hp → VK → Prop) (to : TE) : TE := fun σ H Q => to σ H fun x H1 => tyV K T x H1 ∧ r x [] H1 Q
def tBM (K : PySem.W.Frag) (T : String) (r : V → List V → Hp → VK → Prop) (to : TE) (t : TA) : TE := fun σ H Q => to σ H fun x H1 => tyV K T x H1 ∧ t σ H1 fun xs H2 => r x xs H2 Q
variable {o e : Expr} {es : List Expr} {to : TE} {t : TA} {name : Str} {apos cpos : Pos} {T id : String} {r : V → List V → Hp → VK → Prop}
theorem pe_bm0 (pa : PlainAttrs T) (slot : Slot T name id) (hty : typeOf (.builtin id) = pure (.type "method_descriptor")) (hm : MtR X id r) (ho : PE X o to)
    (hbase : attributeBase o name X.env (eval o X.env) = eval o X.env := by rfl) (hline : (apos.endLine == cpos.line) = true := by rfl) : PE X (.Call (.Attribute o name apos) [] [] cpos) (tBM0 X.K T r to) := by
  intro pins s σ H Q I h
  refine wpAny_Call_method0_late hbase hline (thn (ho pins s σ H _ I h) fun v s1 ⟨x, H1, I1, r1, ty, q1⟩ => ?_)
  obtain ⟨h1, h2⟩ := tyV_is I1 r1 ty
  exact ⟨T, id, pa, slot, hty, h1, h2, Calls.callWith_builtin rfl (PySem.evalArgs_none (hm pins s1 σ H1 x [] v [] Q I1 r1 .nil q1))⟩
theorem pe_bm (pa : PlainAttrs T) (slot : Slot T name id) (hty : typeOf (.builtin id) = pure (.type "method_descriptor")) (hm : MtR X id r) (ho : PE X o to) (ha : PA X (e :: es) t)
    (hbase : attributeBase o name X.env (eval o X.env) = eval o X.env := by rfl)
    (hfew : ((backTo cpos (starEach (e :: es) X.env)).all (fun x => !x.1) && (backToKw cpos (keywordEach [] X.env)).all (fun x => x.1.isSome)
      && decide ((e :: es).length + ([] : List Keyword).length + (if ([] : List Keyword).isEmpty then 0 else 1) < 30)) = true := by rfl)
    (hline : (apos.endLine == cpos.line) = true := by rfl) (hs : starEach (e :: es) X.env = (false, eval e X.env) :: starEach es X.env := by rfl) (hplain : (backTo cpos (starEach es X.env)).any (·.1) = false := by rfl) :
    PE X (.Call (.Attribute o name apos) (e :: es) [] cpos) (tBM X.K T r to t) := by
  intro pins s σ H Q I h
  refine wpAny_Call_method_late hbase hfew hline rfl (thn (ho pins s σ H _ I h) fun v s1 ⟨x, H1, I1, r1, ty, q1⟩ => ?_)
  obtain ⟨h1, h2⟩ := tyV_is I1 r1 ty
  refine ⟨T, id, pa, slot, hty, h1, h2, ?_⟩
  have hA := ha cpos pins s1 σ H1 _ I1 q1
  rw [hs] at hA ⊢
  refine Calls.callWith_builtin (by show (false || (backTo cpos (starEach es X.env)).any (·.1)) = false; rw [hplain] <;> rfl) (Calls.evalArgs_plain ?_)
  exact thn hA fun us s2 ⟨vs, H2, I2, r2, q2⟩ => hm pins s2 σ H2 x vs v us Q I2 r1 r2 q2
end
end L2

namespace L2
open PySem PySem.Spec PyProof.Rows

def MtM (X : Cx) (id : String) (r : V → List V → Hp → VK → Prop) : Prop :=
  ∀ (pins : List (Addr × Obj)) (s : Shared) (σ : St) (H : Hp) (x : V) (xs : List V) (v : Value) (us : List Value) (Q : VK), Inv X pins σ H s → RelV x v → Vals xs us → r x xs H Q →
    wpAny (model X.prog X.w) X.A (call (.builtin id) (v :: us)) (EP X pins σ Q) X.xe s

theorem Vals.one : ∀ {x : V} {us : List Value}, Vals [x] us → ∃ u, us = [u] ∧ RelV x u
  | _, _, .cons r .nil => ⟨_, rfl, r⟩
theorem Vals.two : ∀ {x y : V} {us : List Value}, Vals [x, y] us → ∃ u v, us = [u, v] ∧ RelV x u ∧ RelV y v
  | _, _, _, .cons r (.cons q .nil) => ⟨_, _, rfl, r, q⟩
theorem Vals.zero : ∀ {us : List Value}, Vals [] us → us = []
  | _, .nil => rfl
theorem Vals.dropLast {xs : List V} {us : List Value} (h : Vals xs us) : Vals xs.dropLast us.dropLast := by
  induction h with
  | nil => exact .nil
  | cons r t ih =>
    cases t with
    | nil => exact .nil
    | cons q t' => exact .cons r ih
theorem Vals.eraseIdx : ∀ {xs : List V} {us : List Value} (i : Nat), Vals xs us → Vals (xs.eraseIdx i) (us.eraseIdx i)
  | _, _, _, .nil => .nil
  | _, _, 0, .cons _ t => t
  | _, _, i + 1, .cons r t => .cons r (Vals.eraseIdx i t)
theorem Vals.reverse {xs : List V} {us : List Value} (h : Vals xs us) : Vals xs.reverse us.reverse := by
  induction h with
  | nil => exact .nil
  | cons r t ih => rw [List.reverse_cons, List.reverse_cons]; exact Vals.append ih (.cons r .nil)
theorem Vals.rep {xs : List V} {us : List Value} (h : Vals xs us) : ∀ k : Nat, Vals (List.replicate k xs).flatten (List.replicate k us).flatten
  | 0 => .nil
  | k + 1 => by
    rw [List.replicate_succ, List.replicate_succ, List.flatten_cons, List.flatten_cons]
    exact Vals.append h (Vals.rep h k)
theorem erase_last {α : Type} (l : List α) : l.eraseIdx (l.length - 1) = l.dropLast := by
  induction l with
  | nil => rfl
  | cons a r ih =>
    cases r with
    | nil => rfl
    | cons b r =>
      have e : (a :: b :: r).length - 1 = ((b :: r).length - 1) + 1 := by
        have h1 : (a :: b :: r).length = r.length + 2 := rfl
        have h2 : (b :: r).length = r.length + 1 := rfl
        omega
      rw [e, List.eraseIdx_cons_succ, ih]
      all_goals rfl
theorem foldl_rep (its : List Value) : ∀ (k : Nat) (acc : List Value),
    List.foldl (fun x1 x2 => x1 ++ x2) acc.toArray (List.replicate k its.toArray) = (acc ++ (List.replicate k its).flatten).toArray
  | 0, acc => by simp
  | k + 1, acc => by
    have e : acc.toArray ++ its.toArray = (acc ++ its).toArray := by simp
    have e2 : (acc ++ its) ++ (List.replicate k its).flatten = acc ++ (List.replicate (k + 1) its).flatten := by
      rw [List.replicate_succ, List.flatten_cons, List.append_assoc]
    rw [← e2, ← foldl_rep its k (acc ++ its), ← e, List.replicate_succ, List.foldl_cons]

section
variable {X : Cx} {pins : List (Addr × Obj)} {σ : St} {H : Hp} {s : Shared} {l b : Addr} {xs ys zs : List V}

theorem Inv.lset {its its' : List Value} {n : Nat} {f : Array Value → Array Value} {t' : Nat} (I : Inv X pins σ H s) (hH : H l = some (.lst xs))
    (e : s.heap.get? l = some { cls := .type "list", data := .seq its.toArray n }) (hf : f its.toArray = its'.toArray) (hv : Vals ys its') (hz : ys.length ≤ sizeLine) :
    Inv X pins σ (upd H l (.lst ys)) { s with heap := s.heap.update l (Obj.mapSeq f), toks := t' } := by
  have q := PySem.IsL.update e f
  rw [hf] at q
  refine I.write (x := l) (e := l) (by rw [hH]; exact trivial) (.inl rfl) (fun b' u hb hu => (Heap.get?_update_other s.heap (Obj.mapSeq f) (Ne.symm hb)).trans hu) ⟨_, q⟩ ?_
  exact ⟨hz, its', _, hv, q⟩
theorem Inv.lnew {its : List Value} {t' : Nat} (I : Inv X pins σ H s) (hv : Vals ys its) (hz : ys.length ≤ sizeLine) :
    Inv X pins σ (upd H s.heap.objs.size (.lst ys)) { s with heap := s.heap.push { cls := .type "list", data := .seq its.toArray }, toks := t' } :=
  I.laid (fun _ _ q => Heap.get?_push_of_some _ q) (Nat.le_refl _) ⟨hz, its, 0, hv, Heap.get?_push_size _ rfl⟩
theorem Inv.fresh (I : Inv X pins σ H s) : H s.heap.objs.size = none := I.hok.fresh (Nat.le_refl _)
theorem Inv.lstM (I : Inv X pins σ H s) (hH : H l = some (.lst xs)) : xs.length ≤ sizeLine ∧ ∃ (its : List Value) (n : Nat), Vals xs its ∧ xs.length = its.length ∧ s.heap.get? l = some { cls := .type "list", data := .seq its.toArray n } := by
  obtain ⟨z, its, n, r, e⟩ := I.hok l _ hH
  exact ⟨z, its, n, r, r.length, e⟩

theorem notLongL {n : Nat} (h : n ≤ sizeLine) : Builtin.List.listTooLong n = false := by
  unfold Builtin.List.listTooLong
  exact decide_eq_false (by omega)
end

section
variable {X : Cx}

def rAppend : V → List V → Hp → VK → Prop := fun x vs H Q => ∃ l xs y, x = .ref l ∧ vs = [y] ∧ H l = some (.lst xs) ∧ xs.length < sizeLine ∧ Q .non (upd H l (.lst (xs ++ [y])))
theorem mt_append : MtM X "list.append" rAppend := by
  intro pins s σ H x vs v us Q I rx rv h
  obtain ⟨l, xs, y, rfl, rfl, hH, hz, q⟩ := h
  cases rx
  obtain ⟨u, rfl, ru⟩ := rv.one
  obtain ⟨z, its, n, r, hl, e⟩ := I.lstM hH
  refine call_meets F.slot_list_append ⟨_, e, rfl⟩ F.entry_list_append (F.args_list_append_2 _ _) (PySem.list_append l its.toArray n u (by rw [List.size_toArray]; omega)) ⟨e, ?_⟩
  refine ⟨.non, _, I.lset (its' := its ++ [u]) hH e (by simp) (r.append (.cons ru .nil)) ?_, rfl, q⟩
  rw [List.length_append, List.length_singleton]
  omega

def rPop : V → List V → Hp → VK → Prop := fun x vs H Q => ∃ l xs y, x = .ref l ∧ vs = [] ∧ H l = some (.lst xs) ∧ xs[xs.length - 1]? = some y ∧ Q y (upd H l (.lst xs.dropLast))
theorem mt_pop : MtM X "list.pop" rPop := by
  intro pins s σ H x vs v us Q I rx rv h
  obtain ⟨l, xs, y, rfl, rfl, hH, hy, q⟩ := h
  cases rx
  have hus := rv.zero
  subst hus
  obtain ⟨z, its, n, r, hl, e⟩ := I.lstM hH
  obtain ⟨u, hu, ru⟩ := r.get hy
  have hy' : its.toArray[its.toArray.size - 1]? = some u := by
    show its.toArray[its.length - 1]? = some u
    rw [← Array.getElem?_toList, ← hl]
    exact hu
  refine call_meets F.slot_list_pop ⟨_, e, rfl⟩ F.entry_list_pop (F.args_list_pop_1 _) (MeetsSeq.list_pop_last l its.toArray n u hy' (by rw [List.size_toArray]; omega)) ⟨e, ?_⟩
  refine ⟨y, _, I.lset (its' := its.dropLast) hH e ?_ r.dropLast ?_, ru, q⟩
  · show its.toArray.eraseIdxIfInBounds (its.toArray.size - 1) = its.dropLast.toArray
    rw [List.size_toArray, List.eraseIdxIfInBounds_toArray, erase_last]
  · rw [List.length_dropLast]
    omega

def rRep : R2 := fun x y H Q => ∃ l k xs, x = .ref l ∧ y = .int k ∧ H l = some (.lst xs) ∧ -(2 ^ 63) ≤ k ∧ k < 2 ^ 63 ∧ xs.length * k.toNat ≤ sizeLine ∧
  ∀ p, H p = none → Q (.ref p) (upd H p (.lst (List.replicate k.toNat xs).flatten))
theorem len_rep {α : Type} (xs : List α) (k : Nat) : (List.replicate k xs).flatten.length = k * xs.length := by
  induction k with
  | zero => simp
  | succ k ih => rw [List.replicate_succ, List.flatten_cons, List.length_append, ih, Nat.succ_mul, Nat.add_comm]
theorem op_rep : OpR X (binaryOp .Mult) rRep := by
  intro pins s σ H x y v u Q I rx ry h
  obtain ⟨l, k, xs, rfl, rfl, hH, h1, h2, hz, q⟩ := h
  cases rx
  obtain ⟨t, rfl⟩ := ry
  obtain ⟨z, its, n, r, hl, e⟩ := I.lstM hH
  have hlen : its.toArray.size * k.toNat ≤ sizeLine := by rw [List.size_toArray, ← hl]; exact hz
  have hcap : ¬ its.toArray.size * k.toNat > (2 ^ 63 - 1) / 8 := by
    have : (sizeLine : Nat) ≤ (2 ^ 63 - 1) / 8 := by decide
    omega
  have hfit : ¬ (!Builtin.List.listFitsIndex k) = true := by
    rw [fitsIndex_both h1 h2]
    exact Bool.false_ne_true
  have hlong : ¬ Builtin.List.listTooLong (its.toArray.size * k.toNat) = true := by
    rw [notLongL hlen]
    exact Bool.false_ne_true
  have hnew : List.foldl (fun x1 x2 => x1 ++ x2) #[] (List.replicate (if its.toArray.isEmpty = true then 0 else k.toNat) its.toArray) = (List.replicate k.toNat its).flatten.toArray := by
    have f0 : ∀ m : Nat, List.foldl (fun x1 x2 => x1 ++ x2) #[] (List.replicate m its.toArray) = (List.replicate m its).flatten.toArray := fun m => by
      have := foldl_rep its m []
      rw [List.nil_append] at this
      exact this
    rw [f0]
    cases its with
    | nil => simp
    | cons a r' => rw [if_neg (by simp)]
  refine wpAny_binaryOp_repeat_ref (T := "list") (U := "int") (by decide) ⟨_, e, rfl⟩ (fun s' => typeIs_int s' k t) noFill_list_mul F.fills_int_mul F.slot_int_rmul repeat_list F.slot_int_index.lookup
    (call_meets F.slot_int_rmul (typeIs_int s k t) F.entry_int_rmul (F.args_int_rmul_2 _ _) (int___rmul___int_list k t l its.toArray n)
      ⟨e, rfl, ⟨_, e, rfl⟩, call_meets F.slot_list_mul ⟨_, e, rfl⟩ F.entry_list_mul (F.args_list_mul_2 _ _) (AutoListH.list___mul___list_int_3 l its.toArray n k t hfit hcap hlong) ⟨e, ?_⟩⟩)
  rw [hnew]
  exact ⟨.ref _, _, I.lnew (t' := s.toks) (r.rep k.toNat) (by rw [len_rep, Nat.mul_comm]; exact hz), rfl, q _ I.fresh⟩

end

section
variable {prog : Program} {w : World} {A : Around} {E : Value → Shared → Prop} {s : Shared}
set_option maxRecDepth 100000 in
end

section
variable {X : Cx}
end
end L2

namespace Att
open PySem PySem.W PySem.Calls PyProof.Rows

theorem ints_of_wellAll {P : Params} {h : Heap} : ∀ (ns : List Int) (vs : List Value), WellAll P h vs (ns.map WData.int) → IntsAre vs ns := by
  intro ns
  induction ns with
  | nil =>
    intro vs w
    rw [List.map_nil] at w
    cases w
    exact .nil
  | cons n ns ih =>
    intro vs w
    rw [List.map_cons] at w
    cases w with
    | cons a b =>
      cases a
      exact .cons _ _ (ih _ b)

theorem script_of {l : OpenLaw} {n : Nat} (hn : l.most = some n) {P : Params} {h : Heap} {args : List WData} {vals : List Value}
    (hpre : l.row.toRowW.claim.pre args = true) (hwl : WellAll P h vals args) :
    ∃ a vs ns, vals = [Value.ref a] ∧ args = [WData.list (ns.map WData.int)] ∧ h.get? a = some { cls := .type "list", data := .seq vs.toArray } ∧ IntsAre vs ns ∧ ns.length ≤ n := by
  have hsh : WShape.hasAll [] args [.list .int] = true := (pre_splitW hpre).1
  have hc : l.pre.holds [] { args := args } = true := (pre_splitW hpre).2
  obtain ⟨d, r, rfl, h1, h2⟩ := hasAllW_cons hsh
  obtain rfl := hasAllW_nil h2
  obtain ⟨xs, rfl, h3⟩ := hasW_list h1
  obtain ⟨ns, rfl⟩ := items_int h3
  have hlen : ns.length ≤ n := by
    unfold OpenLaw.pre at hc
    have h4 : (WTm.not (.lt (.lit (.int (n : Int))) (.len (.arg 0)))).holds [] { args := [.list (ns.map .int)] } = true := by
      have h4 := (holds_andW hc).1
      rw [hn] at h4
      exact h4
    have h5 := condW_of h4 (w_not (w_lt w_lit (w_len_list (w_arg rfl))))
    rw [List.length_map] at h5
    refine Nat.le_of_not_lt fun q => ?_
    have q' : (n : Int) < ((ns.length : Nat) : Int) := by omega
    first
      | (rw [decide_eq_true q'] at h5; exact absurd h5 (by decide))
      | (simp at h5; omega)
  cases hwl with
  | cons w1 w2 =>
    cases w2
    cases w1 with
    | list ho hall => exact ⟨_, _, ns, rfl, rfl, ho, ints_of_wellAll ns _ hall, hlen⟩

theorem post_true (l : OpenLaw) (args : List WData) : l.row.toRowW.claim.post args (.bool true) args = true :=
  postW_of (r := l.row.toRowW) (X := (true == true))
    (show WShape.has [] (.bool true) .bool = true by first | rfl | decide | simp [WShape.has, WShape.arms, WShape.armsAll])
    (show (WTm.eq .res (.lit (.bool true))).value [] { args := args, res := some (.bool true), after := args } = some (.bool (true == true)) from w_eq_bool (w_res rfl) w_lit) rfl

theorem attach_call {l : OpenLaw} {n : Nat} {q : Program} {loose : List Str} {XP : (Str → Option Value) → Heap → Prop} {YP : World → Heap → Prop} {d : DefRec}
    (hn : l.most = some n) (hdf : d.params.defaults = [])
    (call : ∀ (w : World) (s₀ s₁ : Shared) (mg mb : Str → Option Value) (fa : Addr) (o : Obj) (pm cd doc : Value) (a : Addr) (vs : List Value) (ns : List Int),
      Ground q loose [] XP w s₀ mg mb s₁.heap → YP w s₁.heap →
      s₁.heap.get? fa = some o → o.data = .func (docDef d.name d.params d.body d.scope pm cd doc) → s₁.heap.CodeRec cd d.name → mg d.name = some (.ref fa) →
      s₁.heap.get? a = some { cls := .type "list", data := .seq vs.toArray } → IntsAre vs ns → ns.length ≤ n → s₁.gens = #[] →
      codeAny (model l.prog w) callerA (.call (.ref fa) ⟨[.ref a], []⟩) (fun r s' => r = .ok (.ret (.bool true)) ∧ OldK s₁.heap s'.heap ∧ s'.os = s₁.os ∧ AllBare s'.gens) s₁) :
    WalkO q loose XP YP l.row.toRowW d [] (fun f vs => PySem.call f vs) := by
  intro w s₀ s₁ mg mb G Y fa o pm cd doc dV kV ho hd hcd hD hmg hg args vals as hpre hlay hrd hwl hlo
  obtain rfl : dV = .none := Dflts.none hD hdf
  obtain rfl : kV = .none := Dflts.noKw hD
  obtain ⟨a, vs, ns, rfl, rfl, hobj, hints, hlen⟩ := script_of hn hpre hwl
  refine enter_call (codeAny_mono (call w s₀ s₁ mg mb fa o pm cd doc a vs ns G Y ho (fd_plain hd) hcd hmg hobj hints hlen hg) fun r s' hq => ?_)
  obtain ⟨rfl, h2, h3, h4⟩ := hq
  exact ⟨.inl ⟨.bool true, .bool true, [], rfl, fun _ => rfl, .bool true, post_true l _, fun _ => ⟨List.Pairwise.nil, fun _ hm => (nomatch hm)⟩⟩, h2, h3, h4⟩

section
variable {prog : Program} {w : World} {A : Around} {E : Value → Shared → Prop} {s : Shared} {K : Frag}

def ledger (h : Heap) (L d : Addr) : List (Addr × Obj) := (List.range h.objs.size).filterMap fun a => if a = L ∨ a = d then none else (h.get? a).map fun o => (a, o)
end
end Att

namespace L2
open PySem PySem.Spec PyProof.Rows

theorem vals_ints : ∀ {vs : List Value} {ns : List Int}, IntsAre vs ns → Vals (ns.map V.int) vs
  | _, _, .nil => .nil
  | _, _, .cons n t h => .cons ⟨t, rfl⟩ (vals_ints h)

def Only (H : Hp) : Prop := ∀ b, H b = none ∨ ∃ o xs, H b = some (.frz o (.lst xs))

theorem law_call {P : Program} {w : World} {K : PySem.W.Frag} {mg mb : Str → Option Value} {CX : CXT} {k : Nat} {fa a : Addr} {fd : FuncData} {x : Str} {sp : Sp} {s₁ : Shared} {vs : List Value} {ns : List Int}
    (KX : K.In s₁.heap) (hns : s₁.heap.Ns mainGlobals mg) (hb : s₁.heap.Ns builtinsNs mb) (hbb : ∀ x : Str, x ≠ "__name__" → mb x = bootBuiltins x) (hlim : s₁.heap.NoLimit) (hg : s₁.gens = #[])
    (ha : s₁.heap.get? a = some { cls := .type "list", data := .seq vs.toArray }) (hi : IntsAre vs ns) (hl : ns.length ≤ sizeLine) (hr : Room k callerA)
    (F : ∀ base : Heap, K.In base → base.Ns mainGlobals mg → FnOk P w K mg base CX k fa fd [x] sp) (hbind : ∀ (s : Shared) (u : Value), BindsTo s fd ⟨[u], []⟩ [(x, u)])
    (hsp : ∀ H : Hp, Only H → SqL K H a (ns.map V.int) → sp [.ref a] H (fun v _ => v = .bl true) fun _ _ _ => False)
    (hCX : ∀ H e s', CX [] H s₁ (fun _ _ _ => False) e s' → False) :
    codeAny (model P w) callerA (.call (.ref fa) ⟨[.ref a], []⟩) (fun r s' => r = .ok (.ret (.bool true)) ∧ OldK s₁.heap s'.heap ∧ s'.os = s₁.os ∧ AllBare s'.gens) s₁ := by
  have rv := vals_ints hi
  have lenV := hi.length
  -- from an abstract heap in which nothing but the script may be tracked
  have core : ∀ H : Hp, Only H → SqL K H a (ns.map V.int) → HOk P w H s₁.heap → (∀ b, H b ≠ none → b = a) → (H a ≠ none → K.lookup a = none) →
      codeAny (model P w) callerA (.call (.ref fa) ⟨[.ref a], []⟩) (fun r s' => r = .ok (.ret (.bool true)) ∧ OldK s₁.heap s'.heap ∧ s'.os = s₁.os ∧ AllBare s'.gens) s₁ := by
    intro H hO hS hok hA hK
    have base_of : ∀ {b : Addr} {o : Obj}, s₁.heap.get? b = some o → H b = none → (hidT s₁.heap H).get? b = some o := fun e n => hidT_get e n
    have noA : ∀ {b : Addr} {o : Obj} {es : Array DictEntry} {ep : Nat}, s₁.heap.get? b = some o → o.data = .dict es ep → H b = none := fun {b o es ep} e d => by
      cases q : H b with
      | none => rfl
      | some u =>
        have e' : b = a := hA b (by rw [q]; simp)
        subst e'
        rw [ha] at e; cases e
        have d' : Data.seq vs.toArray _ = Data.dict es ep := d
        cases d'
    have nsK : ∀ {b : Addr} {m : Str → Option Value}, s₁.heap.Ns b m → (hidT s₁.heap H).Ns b m := fun {b m} ⟨o, es, ep, e, d, r⟩ => ⟨o, es, ep, base_of e (noA e d), d, r⟩
    have hKb : K.In (hidT s₁.heap H) := fun b o e => base_of (KX b o e) (by
      cases q : H b with
      | none => rfl
      | some u =>
        have e' : b = a := hA b (by rw [q]; simp)
        subst e'
        rw [hK (by rw [q]; simp)] at e; cases e)
    have hM : Mod K mg (hidT s₁.heap H) := ⟨hKb, nsK hns, ⟨mb, nsK hb, hbb⟩, let ⟨mc, h1, h2⟩ := hlim; ⟨mc, nsK h1, h2⟩⟩
    have e0 : Env0 P w K mg (hidT s₁.heap H) callerA [] s₁ H := ⟨rfl, hM, fun b o e => of_hidT e, Nat.le_of_eq (hidT_size _ _), trivial, fun b hb => absurd (show b ∈ ([] : List Addr) from hb) (by simp), hok, .of_eq hg⟩
    refine codeAny_mono ((F _ hKb (nsK hns)).run callerA [] s₁ H ⟨[.ref a], []⟩ [.ref a] [.ref a] _ _ hr e0 (hbind s₁ (.ref a)) (.cons rfl .nil) (hsp H hO hS)) fun r s' h => ?_
    cases r with
    | error e => exact (hCX H e s' h).elim
    | ok fl =>
      cases fl with
      | next => exact False.elim h
      | brk => exact False.elim h
      | cont => exact False.elim h
      | ret u =>
        obtain ⟨v, H', os, bare, un, hok', r', q⟩ := h
        have q' : v = .bl true := q
        subst q'
        obtain rfl : u = Value.bool true := r'
        refine ⟨rfl, OldK.of_keep fun b o e => ?_, os, bare⟩
        cases q : H b with
        | none => exact un.keep b o e q (by intro z; exact absurd (show b ∈ ([] : List Addr) from z) (by simp)) (by simp)
        | some u =>
          rcases hO b with z | ⟨ob, xs, z⟩
          · rw [q] at z; cases z
          · have z2 := un.frzs b ob _ z
            obtain ⟨e1, _⟩ := hok b _ z
            obtain ⟨e2, _⟩ := hok' b _ z2
            rw [e] at e1; cases e1
            exact e2
  cases hk : K.lookup a with
  | some o =>
    -- the script is one of the module's own objects
    have e := KX a o hk
    rw [ha] at e
    cases e
    refine core (fun _ => none) (fun _ => .inl rfl) (.inr ⟨_, vs.toArray, _, hk, rfl, rfl, rfl, by rw [List.size_toArray, lenV]; exact hl, by simpa using rv⟩) (fun b u z => by have z' : (none : Option HO) = some u := z; cases z') (fun b z => absurd rfl z) fun z => absurd rfl z
  | none =>
    refine core (fun b => if b = a then some (.frz { cls := .type "list", data := .seq vs.toArray } (.lst (ns.map V.int))) else none) (fun b => ?_) (.inl (.inr ⟨{ cls := .type "list", data := .seq vs.toArray }, if_pos rfl⟩)) (fun b u z => ?_) (fun b z => ?_) fun _ => hk
    · by_cases hb : b = a
      · exact .inr ⟨_, _, if_pos hb⟩
      · exact .inl (if_neg hb)
    · by_cases hb : b = a
      · have z' := (if_pos hb).symm.trans z
        cases z'
        subst hb
        exact ⟨ha, by rw [List.length_map]; exact hl, vs, _, rv, ha⟩
      · have z' := (if_neg hb).symm.trans z
        cases z'
    · by_cases hb : b = a
      · exact hb
      · exact absurd (if_neg hb) z
end L2

namespace L2
open PySem PySem.Spec PyProof.Rows

abbrev KOf {K : PySem.W.Frag} {h : Heap} (_ : K.In h) : PySem.W.Frag := K

theorem walk_of {l : PySem.W.OpenLaw} {n k : Nat} {q : Program} {loose : List Str} {XP : (Str → Option Value) → Heap → Prop} {YP : World → Heap → Prop} {d : DefRec} {K : Params → PySem.W.Frag} {CX : World → CXT} {sp : World → Sp} {x : Str}
    (hn : l.most = some n) (hn2 : n ≤ sizeLine) (hdf : d.params.defaults = []) (hr : Room k callerA)
    (hY : ∀ (w : World) (h : Heap), YP w h → (K w.params).In h)
    (F : ∀ (w : World) (mg : Str → Option Value) (fa : Addr) (h : Heap), (K w.params).In h → h.Ns mainGlobals mg → mg d.name = some (.ref fa) →
      ∃ fd : FuncData, (∀ (s : Shared) (u : Value), BindsTo s fd ⟨[u], []⟩ [(x, u)]) ∧
        ∀ base : Heap, (K w.params).In base → base.Ns mainGlobals mg → FnOk l.prog w (K w.params) mg base (CX w) k fa fd [x] (sp w))
    (hsp : ∀ (w : World) (H : Hp) (a : Addr) (ns : List Int), ns.length ≤ n → Only H → SqL (K w.params) H a (ns.map V.int) → sp w [.ref a] H (fun v _ => v = .bl true) fun _ _ _ => False)
    (hCX : ∀ (w : World) (H : Hp) (s : Shared) (e : Value) (s' : Shared), CX w [] H s (fun _ _ _ => False) e s' → False) :
    PySem.W.WalkO q loose XP YP l.row.toRowW d [] (fun f vs => PySem.call f vs) := by
  refine Att.attach_call hn hdf fun w s₀ s₁ mg mb fa o pm cd doc a vs ns G Y ho hd hcd hmg hobj hints hlen hg => ?_
  have KX := hY w _ Y
  obtain ⟨fd, hb, hF⟩ := F w mg fa _ KX G.T.g hmg
  exact law_call KX G.T.g G.T.b G.T.builtins G.T.nolimit hg hobj hints (Nat.le_trans hlen hn2) hr hF hb (fun H hO hS => hsp w H a ns hlen hO hS) fun H e s' => hCX w H s₁ e s'
end L2


namespace L2
open PySem PySem.Spec PyProof.Rows

def inClass (s : Stmt) (j : Nat) : Stmt := match s with
  | .ClassDef _ _ _ body _ _ _ _ _ _ _ => body.getD j (.Pass ⟨0, 0, 0, 0⟩)
  | _ => .Pass ⟨0, 0, 0, 0⟩
def defArgs (s : Stmt) : Arguments := match s with
  | .FunctionDef _ a _ _ _ _ _ _ _ _ => a
  | _ => { posonlyargs := [], args := [], vararg := none, kwonlyargs := [], kw_defaults := [], kwarg := none, defaults := [] }
def defBody (s : Stmt) : List Stmt := match s with
  | .FunctionDef _ _ b _ _ _ _ _ _ _ => b
  | _ => []
def defScope (s : Stmt) : Scope := match s with
  | .FunctionDef _ _ _ _ _ _ sc _ _ _ => sc
  | _ => { kind := .function, names := [], isGenerator := false, isCoroutine := false }

abbrev CX0 : CXT := fun _ _ _ _ _ _ => False
abbrev E0 : XK := fun _ _ _ => False
theorem pass0 {X : Cx} : Passes CX0 X E0 := fun _ _ _ _ _ _ _ h => h.elim

structure Fun (K : PySem.W.Frag) (x qual : Str) (st : Stmt) (f : Addr) (fd : FuncData) : Prop where
  ex : ∃ (oc : Value) (od : Option Addr) (kV doc pm : Value) (an : Option Addr) (cdv ct : Value) (osl : Array (Option Value)),
    fd = PySem.W.fnOf x qual (defArgs st) (defBody st) (defScope st) .none kV doc pm an cdv ct ∧ K.lookup f = some ⟨oc, od, .func fd, osl⟩ ∧ PySem.W.codeIn K cdv qual = true
  kp : PySem.W.keepIn K (.ref f) = true
section
variable {P : Program} {w : World} {K : PySem.W.Frag} {mg : Str → Option Value} {base : Heap}
theorem Fun.ok {x qual : Str} {st : Stmt} {f : Addr} {fd : FuncData} {N ps : List Str} {k : Nat} {sp : Sp} (F : Fun K x qual st f fd) (S : FnScope N ps (defScope st)) (len : ∀ vs H Q E, sp vs H Q E → vs.length = ps.length)
    (hbody : ∀ (cdv : Value) (A : Around) (outer : List Env) (s : Shared) (H : Hp) (vs : List V) (Q : VK) (E : XK), Room k (A.deeper (envOfC qual (defScope st) s.heap.objs.size f cdv)) → sp vs H Q E →
      ∃ t, PSs (cxOf CX0 P w K mg base N qual (defScope st) f cdv A outer s H E).nox (defBody st) t ∧ t { nx := fun _ H' => Q .non H', rt := Q } (start N vs) H) : FnOk P w K mg base CX0 (k + 1) f fd ps sp := by
  obtain ⟨oc, od, kV, doc, pm, an, cdv, ct, osl, rfl, lk, hcd⟩ := F.ex
  refine fn_of lk hcd S len fun A outer s H vs Q E hr hsp => ?_
  obtain ⟨t, h, q⟩ := hbody cdv A outer s H vs Q E hr hsp
  exact ⟨t, h.nox, q⟩
theorem Fun.binds {x qual : Str} {st : Stmt} {f : Addr} {fd : FuncData} {ps : List Str} (F : Fun K x qual st f fd)
    (h : ∀ (kV doc pm : Value) (an : Option Addr) (cdv ct : Value) (us : List Value), us.length = ps.length → bindArgs (PySem.W.fnOf x qual (defArgs st) (defBody st) (defScope st) .none kV doc pm an cdv ct) ⟨us, []⟩ = pure (ps.zip us)) : Binds K fd ps [] := by
  obtain ⟨oc, od, kV, doc, pm, an, cdv, ct, osl, rfl, lk, hcd⟩ := F.ex
  exact .all (h kV doc pm an cdv ct)
theorem fun_mk {x qual : Str} {st : Stmt} {f : Addr} {oc : Value} {od an : Option Addr} {osl : Array (Option Value)} {kV doc pm cdv ct : Value} (l : K.lookup f = some ⟨oc, od, .func (PySem.W.fnOf x qual (defArgs st) (defBody st) (defScope st) .none kV doc pm an cdv ct), osl⟩)
    (c : PySem.W.codeIn K cdv qual = true) (k : PySem.W.keepIn K (.ref f) = true) : Fun K x qual st f (PySem.W.fnOf x qual (defArgs st) (defBody st) (defScope st) .none kV doc pm an cdv ct) := ⟨⟨oc, od, kV, doc, pm, an, cdv, ct, osl, rfl, l, c⟩, k⟩
end
section
variable {X : Cx}
theorem pv (i : Nat) {x : Str} {pos : Pos} (hN : X.N[i]? = some x := by rfl) (hv : Vis X.env.scope x := by first | exact Or.inl rfl | exact Or.inr (Or.inl rfl) | exact Or.inr (Or.inr rfl)) (hd : (x == ("__debug__" : Str)) = false := by decide)
    (hcd : (x == ("__classdict__" : Str)) = false := by decide) : PE X (.Name x pos) (tVar i) := pe_var hN hv hd hcd
end

theorem iteF {A B : Prop} (h : B) : if false = true then A else B := by
  rw [if_neg Bool.false_ne_true]
  exact h
theorem iteT {A B : Prop} (h : A) : if true = true then A else B := by
  rw [if_pos rfl]
  exact h
def Same (H H' : Hp) : Prop := ∀ b o, H b = some o → H' b = some o
theorem Same.refl (H : Hp) : Same H H := fun _ _ h => h
theorem Same.trans {H H1 H2 : Hp} (a : Same H H1) (b : Same H1 H2) : Same H H2 := fun c o h => b c o (a c o h)
theorem Same.free {H H' : Hp} (e : Same H H') {l : Addr} (h : H' l = Option.none) : H l = Option.none := by
  cases q : H l with
  | none => rfl
  | some o =>
    rw [e l o q] at h
    cases h
theorem Same.seq {K : PySem.W.Frag} {H H' : Hp} {a : Addr} {xs : List V} (e : Same H H') (h : SqL K H a xs) : SqL K H' a xs := by
  rcases h with (h | ⟨o, h⟩) | h
  · exact .inl (.inl (e _ _ h))
  · exact .inl (.inr ⟨o, e _ _ h⟩)
  · exact .inr h

end L2

set_option maxHeartbeats 4000000

namespace L2
open PySem PySem.Spec PyProof.Rows
structure DefAt (K : PySem.W.Frag) (mg : Str → Option Value) (x : Str) (st : Stmt) (f : Addr) (fd : FuncData) : Prop where
  fn : Fun K x x st f fd
  here : mg x = some (.ref f)
structure Cal (P : Program) (w : World) (K : PySem.W.Frag) (mg : Str → Option Value) (base : Heap) (x : Str) (k : Nat) (ps : List Str) (sp : Sp) : Prop where
  ex : ∃ f fd, FnOk P w K mg base CX0 k f fd ps sp ∧ mg x = some (.ref f) ∧ PySem.W.keepIn K (.ref f) = true ∧ Binds K fd ps []
theorem Cal.of {P : Program} {w : World} {K : PySem.W.Frag} {mg : Str → Option Value} {base : Heap} {x : Str} {st : Stmt} {f : Addr} {fd : FuncData} {N ps : List Str} {k : Nat} {sp : Sp} (D : DefAt K mg x st f fd) (S : FnScope N ps (defScope st))
    (hb : ∀ (kV doc pm : Value) (an : Option Addr) (cdv ct : Value) (us : List Value), us.length = ps.length → bindArgs (PySem.W.fnOf x x (defArgs st) (defBody st) (defScope st) .none kV doc pm an cdv ct) ⟨us, []⟩ = pure (ps.zip us))
    (len : ∀ vs H Q E, sp vs H Q E → vs.length = ps.length)
    (hbody : ∀ (cdv : Value) (A : Around) (outer : List Env) (s : Shared) (H : Hp) (vs : List V) (Q : VK) (E : XK), Room k (A.deeper (envOfC x (defScope st) s.heap.objs.size f cdv)) → sp vs H Q E →
      ∃ t, PSs (cxOf CX0 P w K mg base N x (defScope st) f cdv A outer s H E).nox (defBody st) t ∧ t { nx := fun _ H' => Q .non H', rt := Q } (start N vs) H) : Cal P w K mg base x (k + 1) ps sp :=
  ⟨f, fd, D.fn.ok S len hbody, D.here, D.fn.kp, D.fn.binds hb⟩
theorem pe_cal {X : Cx} {x : Str} {k : Nat} {ps : List Str} {sp : Sp} {e : Expr} {es : List Expr} {t : TA} {p pos : Pos} (C : Cal X.prog X.w X.K X.mg X.base x k ps sp) (hr : Room k X.A) (hg : Gl X x) (ha : PA X (e :: es) t)
    (hdb : (x == ("__debug__" : Str)) = false := by decide) (he : starEach (e :: es) X.env = (false, eval e X.env) :: starEach es X.env := by rfl) (hpl : (backTo pos (starEach es X.env)).any (·.1) = false := by rfl) :
    PE X (.Call (.Name x p) (e :: es) [] pos) (tCall sp [] E0 t) := by
  obtain ⟨f, fd, F, hm, hk, hb⟩ := C.ex
  exact pe_call F hr hg hm hk hb .nil pass0 ha hdb he hpl
def spL (n : Nat) (R : List V → Hp → VK → Prop) : Sp := fun vs H Q _ => vs.length = n ∧ R vs H Q
structure Blt (mg : Str → Option Value) : Prop where
  len : mg "len" = none
  range : mg "range" = none
  max : mg "max" = none
  min : mg "min" = none
  isinstance : mg "isinstance" = none
  int : mg "int" = none
  bool : mg "bool" = none
  tuple : mg "tuple" = none
  list : mg "list" = none
  all : mg "all" = none
  zip : mg "zip" = none
  reversed : mg "reversed" = none
structure Kit (K : PySem.W.Frag) : Prop where
  int_int : PySem.W.kitOne K (.type "int") (.type "int") = some true
  int_bool : PySem.W.kitOne K (.type "int") (.type "bool") = some false
  bool_int : PySem.W.kitOne K (.type "bool") (.type "int") = some true
  bool_bool : PySem.W.kitOne K (.type "bool") (.type "bool") = some true
  tuple_tuple : PySem.W.kitOne K (.type "tuple") (.type "tuple") = some true
  list_list : PySem.W.kitOne K (.type "list") (.type "list") = some true
theorem Same.new {H : Hp} {p : Addr} {o : HO} (h : H p = none) : Same H (upd H p o) := fun b u e => by rw [upd_ne (ne_of_none e h)]; exact e
end L2
namespace L2
open PySem PySem.Spec PyProof.Rows
section
variable {X : Cx} {e : Expr} {es : List Expr} {te : TE} {t : TA} {pos : Pos}
def tTupS (t : TA) : TE := fun σ H Q => t σ H fun xs H1 => xs.length ≤ sizeLine ∧ ∀ p H', H1 p = none → Same H1 H' → H' p = some (.tup xs) → Q (.ref p) H'
def tLstS (t : TA) : TE := fun σ H Q => t σ H fun xs H1 => xs.length ≤ sizeLine ∧ ∀ p H', H1 p = none → Same H1 H' → H' p = some (.lst xs) → Q (.ref p) H'
theorem pe_tupS {x1} (h : PA X es t) : PE X (.Tuple es x1 pos) (tTupS t) := by
  intro pins s σ H Q I hq
  refine wpAny_Tuple_spliced (thn (h pos pins s σ H _ I hq) fun us s1 ⟨xs, H1, I1, r, z, q⟩ => ⟨by rw [← r.length]; exact z, ?_⟩)
  have hf : H1 s1.heap.objs.size = none := I1.hok.fresh (Nat.le_refl _)
  refine ⟨.ref s1.heap.objs.size, upd H1 s1.heap.objs.size (.tup xs), I1.laid (t' := s1.toks) (fun b u e => Heap.get?_push_of_some _ e) (Nat.le_refl _) ?_, rfl, q _ _ hf (Same.new hf) upd_same⟩
  exact ⟨z, us, r, ⟨_, Heap.get?_push_size _ rfl, rfl, _, rfl⟩⟩
theorem pe_lstS (h : PA X es t) : PE X (.List es pos) (tLstS t) := by
  intro pins s σ H Q I hq
  refine wpAny_List_spliced (thn (h pos pins s σ H _ I hq) fun us s1 ⟨xs, H1, I1, r, z, q⟩ => ⟨by rw [← r.length]; exact z, ?_⟩)
  have hf : H1 s1.heap.objs.size = none := I1.hok.fresh (Nat.le_refl _)
  refine ⟨.ref s1.heap.objs.size, upd H1 s1.heap.objs.size (.lst xs), I1.laid (t' := s1.toks) (fun b u e => Heap.get?_push_of_some _ e) (Nat.le_refl _) ?_, rfl, q _ _ hf (Same.new hf) upd_same⟩
  exact ⟨z, us, 0, r, Heap.get?_push_size _ rfl⟩
end
theorem iteB {c : Bool} {A B : Prop} (hc : c = false) (h : B) : if c = true then A else B := by
  rw [hc]; exact iteF h
end L2

namespace L2
open PySem PySem.Spec PyProof.Rows

section
variable {X : Cx} {tg : Expr}
def rngN (i j c : Int) : Nat := (Builtin.Range.rangeSize i j c).toNat
end
section
variable {X : Cx}
def rIsI (K : PySem.W.Frag) : List V → Hp → VK → Prop := fun xs H Q => ∃ x t n b, xs = [x, .ty n] ∧ TyOf K H x t ∧ PySem.W.kitOne K t (.type n) = some b ∧ Q (.bl b) H
theorem call_isinst : CallR X (.builtin "isinstance") (rIsI X.K) := by
  intro pins s σ H xs us Q I r h
  obtain ⟨x, t, n, b, rfl, ty, e, q⟩ := h
  obtain ⟨u, w', rfl, r1, r2⟩ := vals2 r
  cases r2
  exact isinst_ok I r1 ty e fun tk => ⟨.bl b, H, I.tok tk, rfl, q⟩

theorem Vals.at {xs : List V} {its : List Value} (r : Vals xs its) {j : Nat} (h : j < its.toArray.size) : ∃ x, xs[j]? = some x ∧ RelV x its.toArray[j] := by
  have hl := r.length
  have hj : j < xs.length := by rw [List.size_toArray] at h; omega
  obtain ⟨u, hu, ru⟩ := r.get (i := j) (x := xs[j]) (by simp [hj])
  refine ⟨xs[j], by simp [hj], ?_⟩
  have e : its.toArray[j] = u := by
    have : its[j]? = some its.toArray[j] := by simp at h ⊢ <;> try exact h
    rw [this] at hu; exact Option.some.inj hu
  rw [e]; exact ru
end
end L2

namespace L2
open PySem PySem.Spec PyProof.Rows

def freeL (scope : Scope) (env : Env) : List (Str × Addr) := ((scope.names.filter fun x => x.2 == .free).map fun x => (x.1, (env.cells.lookup x.1).getD 0)).reverse
theorem closureFor_go (env : Env) : ∀ (l : List (Str × NameKind)) (acc : List (Str × Addr)), (∀ x ∈ l, x.2 = .free → ∃ c, env.cells.lookup x.1 = some c) →
    (forIn l acc (fun (x : Str × NameKind) (r : List (Str × Addr)) => (match x with | (name, kind) => if (kind == NameKind.free) = true then do let a ← cellOf env name; pure (ForInStep.yield ((name, a) :: r)) else pure (ForInStep.yield r) : Sem (ForInStep (List (Str × Addr)))))) =
      (pure (((l.filter fun x => x.2 == .free).map fun x => (x.1, (env.cells.lookup x.1).getD 0)).reverse ++ acc) : Sem (List (Str × Addr)))
  | [], acc, _ => by simp
  | (n, k) :: l, acc, h => by
    rw [List.forIn_cons]
    by_cases hk : k = .free
    · subst hk
      obtain ⟨c, hc⟩ := h (n, .free) List.mem_cons_self rfl
      have hc' : env.cells.lookup n = some c := hc
      have ih := closureFor_go env l ((n, c) :: acc) fun x hx => h x (List.mem_cons_of_mem _ hx)
      have e : cellOf env n = pure c := by unfold cellOf; rw [hc']
      simp only [beq_self_eq_true, if_true, e, pure_bind]
      rw [ih]
      simp [hc']
    · have hb : (k == NameKind.free) = false := by simpa using hk
      have ih := closureFor_go env l acc fun x hx => h x (List.mem_cons_of_mem _ hx)
      simp only [hb, Bool.false_eq_true, if_false, pure_bind]
      rw [ih]
      simp [hb]
theorem closureFor_free {scope : Scope} {env : Env} (h : ∀ x ∈ scope.names, x.2 = .free → ∃ c, env.cells.lookup x.1 = some c) : closureFor scope env = pure (freeL scope env) := by
  have := closureFor_go env scope.names [] h
  unfold closureFor freeL
  rw [List.append_nil] at this
  simp only [bind_pure]
  exact this
theorem freeL_lookup {scope : Scope} {env : Env} (x : Str) : (freeL scope env).lookup x = if (scope.names.any fun y => y.1 == x && y.2 == .free) then some ((env.cells.lookup x).getD 0) else none := by
  have key : ∀ (l : List (Str × NameKind)), ((l.filter fun x => x.2 == .free).map fun x => (x.1, (env.cells.lookup x.1).getD 0)).lookup x = if (l.any fun y => y.1 == x && y.2 == .free) then some ((env.cells.lookup x).getD 0) else none := by
    intro l
    induction l with
    | nil => rfl
    | cons p l ih =>
      obtain ⟨n, k⟩ := p
      by_cases hk : (k == NameKind.free) = true
      · rw [List.filter_cons, if_pos (show ((n, k).2 == NameKind.free) = true from hk), List.map_cons, List.lookup_cons, ih, List.any_cons]
        by_cases hn : n = x
        · subst hn; simp [hk]
        · have h1 : (x == n) = false := by simpa using fun e => hn e.symm
          have h2 : (n == x) = false := by simpa using hn
          simp [h1, h2]
      · have hk' : (k == NameKind.free) = false := by simpa using hk
        rw [List.filter_cons, if_neg (show ¬ ((n, k).2 == NameKind.free) = true from hk), ih, List.any_cons]
        simp [hk']
  have rev : (freeL scope env) = ((scope.names.reverse.filter fun x => x.2 == .free).map fun x => (x.1, (env.cells.lookup x.1).getD 0)) := by
    unfold freeL
    rw [← List.map_reverse, ← List.filter_reverse]
  rw [rev, key, List.any_reverse]
theorem compLoop_any {prog : Program} {w : World} {A : Around} {R : Result → Shared → Prop} {s : Shared} {elt target iter : Expr} {scope : Scope} {pos : Pos} {it acc : Value} {env : Env} (I : Nat → Shared → Prop)
    (turn : ∀ n s, I n s → wpAny (model prog w) A (pyNext it) (fun r s₁ => match r with
      | none => R (.ok .next) s₁
      | some v => wpAny (model prog w) A (letOwnedTupleGo target it v) (fun _ s₂ => wpAny (model prog w) A (assign target env v) (fun _ s₃ => wpAny (model prog w) A (eval elt env) (fun x s₄ =>
          wpAny (model prog w) A (call (.builtin "list.append") [acc, x]) (fun _ s₅ => ∃ m, m < n ∧ I m s₅) (fun _ _ => False) s₄) (fun _ _ => False) s₃) (fun _ _ => False) s₂) (fun _ _ => False) s₁) (fun _ _ => False) s)
    (n : Nat) (h : I n s) : codeAny (model prog w) A (.compLoop (.ListComp elt [⟨target, iter, [], 0⟩] scope pos) 0 it acc env) R s := by
  refine codeAny_loop rfl I (fun n s hI => ?_) n h
  show wpAny _ A ((compTurn (.ListComp elt [⟨target, iter, [], 0⟩] scope pos) 0 it acc env).onRaise (fun x => do noteFrame x env; theTreesLotGoes x)) _ _ s
  refine wpAny_noted ?_
  rw [compTurn_list1]
  refine wpAny_bind (wpAny_standAt (wpAny_bind (wpAny_mono (turn n s hI) (fun r s₁ h₁ => ?_) fun _ _ f => f.elim)))
  cases r with
  | none => exact wpAny_pure h₁
  | some v =>
    refine wpAny_bind (wpAny_mono h₁ (fun _ s₂ h₂ => ?_) fun _ _ f => f.elim)
    exact wpAny_bind (wpAny_mono h₂ (fun _ s₃ h₃ => wpAny_bind (wpAny_bind (wpAny_mono h₃ (fun x s₄ h₄ => wpAny_bind (wpAny_mono h₄ (fun _ s₅ h₅ => wpAny_pure (wpAny_pure ⟨rfl, h₅⟩)) fun _ _ f => f.elim)) fun _ _ f => f.elim))) fun _ _ f => f.elim)

theorem relabel_lookup {scope : Scope} {env : Env} (x : Str) : (relabel scope env).names.lookup x = (scope.names.lookup x).map fun k => if (k == NameKind.free && env.scope.kind == .function && env.kindOf x == some .cell) = true then NameKind.cell else k := by
  have key : ∀ l : List (Str × NameKind), (l.map fun (n, k) => if (k == NameKind.free && env.scope.kind == .function && env.kindOf n == some .cell) then (n, NameKind.cell) else (n, k)).lookup x =
      (l.lookup x).map fun k => if (k == NameKind.free && env.scope.kind == .function && env.kindOf x == some .cell) = true then NameKind.cell else k := by
    intro l
    induction l with
    | nil => rfl
    | cons p l ih =>
      obtain ⟨n, k⟩ := p
      rw [List.map_cons]
      by_cases hn : x = n
      · subst hn
        by_cases hc : (k == NameKind.free && env.scope.kind == .function && env.kindOf x == some .cell) = true
        · simp only [hc, if_true, List.lookup_cons, beq_self_eq_true, Option.map_some]
        · simp only [if_neg hc, List.lookup_cons, beq_self_eq_true, Option.map_some]
      · have hb : (x == n) = false := by simpa using hn
        by_cases hc : (k == NameKind.free && env.scope.kind == .function && env.kindOf n == some .cell) = true
        · simp only [hc, if_true, List.lookup_cons, hb]; exact ih
        · simp only [if_neg hc, List.lookup_cons, hb]; exact ih
  exact key scope.names

def blkσ (ix : List (Option Nat)) (σ : St) : St := ix.map fun o => o.bind fun i => (σ[i]?).join
def CapOf (X : Cx) (scope : Scope) : List Str → List (Option Nat) → Prop
  | [], [] => True
  | _ :: N, none :: ix => CapOf X scope N ix
  | x :: N, some i :: ix => (X.N[i]? = some x ∧ scope.names.lookup x = some .free ∧ (X.env.kindOf x = some .cell ∨ X.env.kindOf x = some .free)) ∧ CapOf X scope N ix
  | _, _ => False
theorem CapOf.get {X : Cx} {scope : Scope} : ∀ {N : List Str} {ix : List (Option Nat)}, CapOf X scope N ix → N.length = ix.length ∧ ∀ (j i : Nat), ix[j]? = some (some i) →
    ∃ x, N[j]? = some x ∧ X.N[i]? = some x ∧ scope.names.lookup x = some .free ∧ (X.env.kindOf x = some .cell ∨ X.env.kindOf x = some .free)
  | [], [], _ => ⟨rfl, fun j i h => by simp at h⟩
  | x :: N, none :: ix, h => by
    obtain ⟨h1, h2⟩ := CapOf.get (show CapOf X scope N ix from h)
    refine ⟨by simp [h1], fun j i e => ?_⟩
    cases j with
    | zero => simp at e
    | succ j => simpa using h2 j i (by simpa using e)
  | x :: N, some i' :: ix, h => by
    obtain ⟨h0, h⟩ := (show _ ∧ CapOf X scope N ix from h)
    obtain ⟨h1, h2⟩ := CapOf.get h
    refine ⟨by simp [h1], fun j i e => ?_⟩
    cases j with
    | zero =>
      simp at e
      subst e
      exact ⟨x, by simp, h0⟩
    | succ j => simpa using h2 j i (by simpa using e)
  | [], _ :: _, h => h.elim
  | _ :: _, [], h => by cases h

structure BlkScope (outer scope : Scope) : Prop where
  kind : scope.kind = .function
  cell : ∀ y ∈ scope.names, y.2 ≠ .cell
  free : ∀ y ∈ scope.names, y.2 = .free → outer.names.lookup y.1 = some .cell ∨ outer.names.lookup y.1 = some .free
  names : ∀ y ∈ scope.names, y.2 = .local → scope.names.lookup y.1 = some .local

abbrev Cx.blk (X : Cx) (scope : Scope) (N : List Str) (fp : List Addr) (s : Shared) (H : Hp) : Cx :=
  { X with N := N, s₀ := s, H₀ := H, env := compEnvC scope (freeL scope X.env) s.heap.objs.size X.env, outer := X.stack, ex := fp, fn := fun _ => false, pn := [], xe := fun _ _ => False }

section
variable {X : Cx} {pins : List (Addr × Obj)} {σ : St} {H : Hp} {s : Shared} {scope : Scope} {N : List Str} {ix : List (Option Nat)} {fp : List Addr}

theorem blk_cell (ok : X.Ok) (S : BlkScope X.env.scope scope) {x : Str} {c : Addr} (h : (freeL scope X.env).lookup x = some c) : X.env.cells.lookup x = some c := by
  rw [freeL_lookup] at h
  split at h
  · rename_i ha
    obtain ⟨y, hy, e⟩ := List.any_eq_true.mp ha
    rw [Bool.and_eq_true, beq_iff_eq, beq_iff_eq] at e
    obtain ⟨e1, e2⟩ := e
    subst e1
    obtain ⟨c', hc'⟩ := ok.has y.1 (S.free y hy e2)
    rw [hc'] at h ⊢
    exact h
  · cases h
theorem blk_free (ok : X.Ok) {x : Str} (h : scope.names.lookup x = some .free) (hk : X.env.kindOf x = some .cell ∨ X.env.kindOf x = some .free) : ∃ c, (freeL scope X.env).lookup x = some c ∧ X.env.cells.lookup x = some c := by
  obtain ⟨c, hc⟩ := ok.has x hk
  refine ⟨c, ?_, hc⟩
  rw [freeL_lookup, if_pos, hc]
  · rfl
  · exact List.any_eq_true.mpr ⟨(x, .free), PySem.mem_of_lookup h, by simp⟩

theorem Inv.blkOk (I : Inv X pins σ H s) (S : BlkScope X.env.scope scope) (hf : ∀ b ∈ fp, FpOk X pins H b) (hlt : ∀ b ∈ fp, b < s.heap.objs.size) : (X.blk scope N fp s H).Ok where
  mod := I.ok.mod
  kind := S.kind
  glob := I.ok.glob
  blt := I.ok.blt
  above := Nat.le_refl _
  inj := fun x y c h1 h2 => I.ok.inj x y c (blk_cell I.ok S h1) (blk_cell I.ok S h2)
  has := fun x hx => by
    have hx' : (relabel scope X.env).names.lookup x = some .cell ∨ (relabel scope X.env).names.lookup x = some .free := hx
    rw [relabel_lookup] at hx'
    cases e : scope.names.lookup x with
    | none => rw [e] at hx'; simp at hx'
    | some k =>
      have hm := PySem.mem_of_lookup e
      have hk : k = .free := by
        by_cases hk : k = .free
        · exact hk
        · exfalso
          have hb : (k == NameKind.free) = false := by simpa using hk
          have hc : k ≠ .cell := S.cell _ hm
          have e2 : (if (k == NameKind.free && X.env.scope.kind == .function && X.env.kindOf x == some .cell) = true then NameKind.cell else k) = k := if_neg (by rw [hb, Bool.false_and, Bool.false_and]; exact Bool.false_ne_true)
          rw [e, Option.map_some, e2] at hx'
          rcases hx' with z | z
          · exact hc (Option.some.inj z)
          · exact hk (Option.some.inj z)
      subst hk
      obtain ⟨c, h1, _⟩ := blk_free I.ok e (S.free _ hm rfl)
      exact ⟨c, h1⟩
  cab := fun x c h _ => by cases h
  hd := I.ok.hd
  frames := I.ok.frames
  stk := .inl rfl
  exf := fun b hb => ⟨Nat.ne_of_lt (hlt b hb), fun x c h => (hf b hb).2.2.2.2.1 x c (blk_cell I.ok S h)⟩
  bs := I.bs
  bsz := Nat.le_trans I.ok.bsz I.sz
  noex := fun b o e hb => by
    rcases (hf b hb).2.2.2.1 with z | z
    · exact I.ok.noex b o e z
    · exact absurd (Nat.lt_of_lt_of_le (Heap.lt_size e) (Nat.le_trans I.ok.bsz z)) (Nat.lt_irrefl _)
  exfs := fun b hb h => by
    rcases List.mem_cons.mp (I.stkSub b h) with z | z
    · exact (hf b hb).2.1 z
    · exact (hf b hb).2.2.1 z
  funs := I.stack
  frf := I.stkFree

theorem Inv.blk {h₁ : Heap} {m : Str → Option Value} {o : Obj} {t : Nat} (I : Inv X pins σ H s) (S : BlkScope X.env.scope scope) (cap : CapOf X scope N ix) (hf : ∀ b ∈ fp, FpOk X pins H b) (hlt : ∀ b ∈ fp, b < s.heap.objs.size)
    (hns : h₁.Ns s.heap.objs.size m) (hsb : Heap.SameBut s.heap.objs.size (s.heap.push o) h₁) : Inv (X.blk scope N fp s H) [] (blkσ ix σ) H { s with heap := h₁, toks := t } := by
  have keep : ∀ b o, s.heap.get? b = some o → h₁.get? b = some o := fun b o e => hsb.extBut b o (Nat.ne_of_lt (Heap.lt_size e)) (Heap.get?_push_of_some _ e)
  obtain ⟨hl, hcap⟩ := cap.get
  refine ⟨I.blkOk S hf hlt, rfl, I.bare, Un.kept keep, ⟨m, hns, fun j x v e1 e2 e3 => ?_⟩, fun x c e => ?_, I.hok.fresh (Nat.le_refl _), fun x c e => I.freeC x c (blk_cell I.ok S e), fun p hp => absurd (show p ∈ ([] : List (Addr × Obj)) from hp) (by simp), I.hok.kept keep, by unfold blkσ; rw [List.length_map]; exact hl.symm⟩
  · obtain ⟨i, h1, h2⟩ : ∃ i, ix[j]? = some (some i) ∧ σ[i]? = some (some v) := by
      unfold blkσ at e2
      rw [List.getElem?_map] at e2
      cases q : ix[j]? with
      | none => rw [q] at e2; cases e2
      | some o =>
        rw [q] at e2
        cases o with
        | none => simp at e2
        | some i =>
          refine ⟨i, rfl, ?_⟩
          cases q2 : σ[i]? with
          | none => simp [q2] at e2
          | some o2 => simp [q2] at e2; rw [e2]
    obtain ⟨y, n1, n2, n3, n4⟩ := hcap j i h1
    have hxy : x = y := by rw [e1] at n1; exact Option.some.inj n1
    subst hxy
    obtain ⟨m', hn', hl'⟩ := I.loc
    have vis : Vis X.env.scope x := by rcases n4 with k | k; exact .inr (.inl k); exact .inr (.inr k)
    obtain ⟨u, r, l⟩ := hl' i x v n2 h2 vis
    refine ⟨u, r, .inr ⟨?_, ?_⟩⟩
    · show (relabel scope X.env).names.lookup x = some .cell ∨ (relabel scope X.env).names.lookup x = some .free
      rw [relabel_lookup, n3]
      by_cases hc : (NameKind.free == NameKind.free && X.env.scope.kind == .function && X.env.kindOf x == some .cell) = true
      · left; simp only [Option.map_some, if_pos hc]
      · right; simp only [Option.map_some, if_neg hc]
    · obtain ⟨c, c1, c2⟩ := blk_free I.ok n3 n4
      refine ⟨c, c1, ?_⟩
      rcases l with ⟨hk, _⟩ | ⟨_, c', hc', z⟩
      · exfalso
        rcases n4 with k | k
        · rw [hk] at k; cases k
        · rw [hk] at k; cases k
      · rw [c2] at hc'; cases hc'
        obtain ⟨ob, ho, hd⟩ := z
        exact ⟨ob, keep _ _ ho, hd⟩
  · obtain ⟨v, ob, ho, hd⟩ := I.cell x c (blk_cell I.ok S e)
    exact ⟨v, ob, keep _ _ ho, hd⟩
theorem Inv.unblk {pins' : List (Addr × Obj)} {σ' : St} {H' : Hp} {s' : Shared} (I : Inv X pins σ H s) (hf : ∀ b ∈ fp, FpOk X pins H b) (J : Inv (X.blk scope N fp s H) pins' σ' H' s') : Inv X pins σ H' s' :=
  I.call' (ch := fp) J.os J.base J.hok J.bare fun b hb => ⟨(hf b hb).2.2.2.1, (hf b hb).2.1, (hf b hb).2.2.2.2.1, (hf b hb).2.2.2.2.2⟩
theorem Inv.frameGone {C : Addr} {h' : Heap} (I : Inv X pins σ H s) (f : FpOk X pins H C) (hs : Heap.SameBut C s.heap h') : Inv X pins σ H { s with heap := h' } :=
  I.turned (t' := s.toks) (fun b o hb e => hs.extBut b o hb e) f.1 f.2.1 f.2.2.2.1 f.2.2.2.2.1 f.2.2.2.2.2
end

def CompW (J : It) (D : Addr) (g : TG) (te : TE) (σ₀ : St) (H₀ : Hp) (fin : Hp → Prop) : Prop :=
  ∃ W : Nat → Nat → St → List V → Hp → Prop, (∃ m, W 0 m σ₀ [] H₀) ∧ ∀ i m σ ys H, W i m σ ys H →
    (J.stop i H ∧ fin H) ∨ (ys.length < sizeLine ∧ J.go i H ∧ ∀ x H', J.yld i H x H' → g x σ H' fun σ2 H2 => te σ2 H2 fun y H3 => H3 D = some (.lst ys) ∧ ∃ m', m' < m ∧ W (i + 1) m' σ2 (ys ++ [y]) (upd H3 D (.lst (ys ++ [y]))))
def tComp (wi : TI) (ix : List (Option Nat)) (g : TG) (te : TE) : TE := fun σ H Q => wi σ H fun J H1 => ∀ D, H1 D = none → CompW J D g te (blkσ ix σ) (upd H1 D (.lst [])) fun H' => Q (.ref D) H'
section
variable {X : Cx} {tg elt iter : Expr} {scope : Scope} {N : List Str} {ix : List (Option Nat)} {wi : TI} {g : TG} {te : TE} {pos : Pos}
theorem comp_core {pins : List (Addr × Obj)} {s : Shared} {σ : St} {H : Hp} {Q : VK} {RR : Value → Addr → Result → Shared → Prop} (hc : X.calm = true) (hi : PI X tg iter wi) (S : BlkScope X.env.scope scope) (cap : CapOf X scope N ix)
    (hg : ∀ fp s H, PG (X.blk scope N fp s H) tg g) (he : ∀ fp s H, PE (X.blk scope N fp s H) elt te) (I : Inv X pins σ H s) (h : tComp wi ix g te σ H Q)
    (hRR : ∀ D C H' s', Inv X pins σ H' s' → FpOk X pins H' C → (∃ m, s'.heap.Ns C m) → Q (.ref D) H' → RR (.ref D) C (.ok .next) s') :
    wpAny (model X.prog X.w) X.A (eval iter X.env) (fun x s₁ => wpAny (model X.prog X.w) X.A (pyIter x) (fun it s₂ => wpAny (model X.prog X.w) X.A (newList []) (fun acc s₃ =>
      wpAny (model X.prog X.w) X.A (newFunctionEnv scope X.env.globals (freeL scope X.env) [] X.env.qual none .none (some X.env)) (fun cenv s₄ =>
        codeAny (model X.prog X.w) X.A (.compStart (.ListComp elt [⟨tg, iter, [], 0⟩] scope pos) 0 it acc { cenv with scope := relabel scope X.env }) (RR acc cenv.locals) s₄) X.xe s₃) X.xe s₂) X.xe s₁) X.xe s := by
  refine thn (hi pins s σ H _ I h) fun v s1 h1 => thn h1 fun itv s2 h2 => ?_
  obtain ⟨it, fp, tn, J, H2, e, I2, T, st2, f2, R⟩ := h2
  subst e
  refine wpAny_newObj_type (wpAny_newFunctionEnv S.cell (by intro y hy; simp at hy) (fun h₁ hns₁ hsb₁ => ?_) S.kind)
  dsimp only at hns₁ hsb₁ ⊢
  have I3 : Inv X pins σ (upd H2 s2.heap.objs.size (.lst [])) { s2 with heap := s2.heap.push { cls := .type "list", data := .seq ([] : List Value).toArray }, toks := s2.toks } := I2.lnew .nil (Nat.zero_le _)
  have hD : H2 s2.heap.objs.size = none := I2.fresh
  have lt2 : ∀ b ∈ fp, b < s2.heap.objs.size := fun b hb => by obtain ⟨o, e, _⟩ := T.obj 0 _ st2 b hb; exact Heap.lt_size e
  obtain ⟨W, ⟨m0, w0⟩, turn⟩ := R s2.heap.objs.size hD
  generalize hs3 : ({ s2 with heap := s2.heap.push { cls := .type "list", data := .seq ([] : List Value).toArray }, toks := s2.toks } : Shared) = s3 at I3
  have e3 : s3.heap = s2.heap.push { cls := .type "list", data := .seq ([] : List Value).toArray } := by rw [← hs3]
  have sz3 : s3.heap.objs.size = s2.heap.objs.size + 1 := by rw [e3, Heap.size_push]
  have f3 : ∀ b ∈ fp, FpOk X pins (upd H2 s2.heap.objs.size (.lst [])) b := fun b hb => ⟨by rw [upd_ne (Nat.ne_of_lt (lt2 b hb))]; exact (f2 b hb).1, (f2 b hb).2⟩
  have lt3 : ∀ b ∈ fp, b < s3.heap.objs.size := fun b hb => by rw [sz3]; exact Nat.lt_succ_of_lt (lt2 b hb)
  have hns₁' := hns₁
  rw [← e3] at hns₁'
  have hsb₁' := hsb₁
  rw [← e3] at hsb₁'
  have J0 := I3.blk (N := N) (ix := ix) (fp := fp) (t := s2.toks + ([] : List (Str × Value)).length) S cap f3 lt3 hns₁' hsb₁'
  have keep1 : ∀ b o, s2.heap.get? b = some o → h₁.get? b = some o := fun b o e => hsb₁.extBut b o (by rw [Heap.size_push]; exact Nat.ne_of_lt (Nat.lt_succ_of_lt (Heap.lt_size e))) (Heap.get?_push_of_some _ (Heap.get?_push_of_some _ e))
  have st1 : tn 0 h₁ := T.keep 0 _ _ st2 fun b _ o e => keep1 b o e
  have stat : ∀ {H' : Hp}, (∀ b ∈ fp, H' b = none) → ∀ b ∈ fp, FpOk (X.blk scope N fp s3 (upd H2 s2.heap.objs.size (.lst []))) [] H' b := fun {H'} hn b hb => by
    refine ⟨hn b hb, Nat.ne_of_lt (lt3 b hb), fun z => ?_, .inl hb, fun x c e => (f2 b hb).2.2.2.2.1 x c (blk_cell I.ok S e), fun p hp => absurd (show p ∈ ([] : List (Addr × Obj)) from hp) (by simp)⟩
    rcases List.mem_cons.mp (I3.stkSub b z) with y | y
    · exact (f2 b hb).2.1 y
    · exact (f2 b hb).2.2.1 y
  have loop : ∀ s4 : Shared, s4 = { s3 with heap := h₁, toks := s2.toks + ([] : List (Str × Value)).length } →
      codeAny (model X.prog X.w) X.A (.compLoop (.ListComp elt [⟨tg, iter, [], 0⟩] scope pos) 0 (.ref it) (.ref s2.heap.objs.size) (compEnvC scope (freeL scope X.env) s3.heap.objs.size X.env)) (RR (.ref s2.heap.objs.size) s3.heap.objs.size) s4 := by
    rintro s4 rfl
    refine compLoop_any (fun n s' => ∃ i σ' ys H', Inv (X.blk scope N fp s3 (upd H2 s2.heap.objs.size (.lst []))) [] σ' H' s' ∧ tn i s'.heap ∧ (∀ b ∈ fp, H' b = none) ∧ W i n σ' ys H') ?_ m0 ⟨0, _, [], _, J0, st1, fun b hb => (f3 b hb).1, w0⟩
    rintro n s' ⟨i, σ', ys, H', I', st', fr', w'⟩
    rcases turn i n σ' ys H' w' with ⟨stop, fin⟩ | ⟨hy, go, step⟩
    · refine thn (T.done (X.blk scope N fp s3 (upd H2 s2.heap.objs.size (.lst []))) rfl rfl rfl hc i [] s' σ' H' _ I' (stat fr') st' stop) fun r s5 ⟨hr, I5⟩ => ?_
      subst hr
      obtain ⟨m, hn, _⟩ := I5.loc
      exact hRR _ _ H' s5 (I3.unblk f3 I5) (I3.fpOk (Nat.le_refl _) I5.free) ⟨m, hn⟩ fin
    · refine thn (T.item (X.blk scope N fp s3 (upd H2 s2.heap.objs.size (.lst []))) rfl rfl rfl hc i [] s' σ' H' _ I' (stat fr') st' go) fun r s5 ⟨u, hr, h5⟩ => ?_
      subst hr
      refine thn h5 fun _ s6 ⟨x, H6, I6, r6, y6, st6, fr6⟩ => ?_
      have I6' := I6.pinned (stat fr6) (T.obj _ _ st6)
      refine thn (hg fp s3 _ _ s6 σ' H6 x u _ I6' r6 (step x H6 y6)) fun _ s7 ⟨σ7, H7, I7, q7⟩ => ?_
      refine thn (he fp s3 _ _ s7 σ7 H7 _ I7 q7) fun yv s8 ⟨y, H8, I8, r8, hl8, m', hm', w8⟩ => ?_
      refine thn (mt_append _ s8 σ7 H8 (.ref s2.heap.objs.size) [y] (.ref s2.heap.objs.size) [yv] (fun _ H9 => H9 = upd H8 s2.heap.objs.size (.lst (ys ++ [y]))) I8 rfl (.cons r8 .nil) ⟨_, ys, y, rfl, rfl, hl8, hy, rfl⟩) fun _ s9 ⟨_, H9, I9, _, e9⟩ => ?_
      subst e9
      refine ⟨m', hm', i + 1, σ7, ys ++ [y], _, I9.unpinned, T.keep _ _ _ st6 fun b hb o e => (I9.pin (b, o) (List.mem_append_right _ (List.mem_append_right _ (mem_pinsAt hb e)))).1, fun b hb => ?_, w8⟩
      obtain ⟨o, e, _⟩ := T.obj _ _ st6 b hb
      exact (I9.pin (b, o) (List.mem_append_right _ (List.mem_append_right _ (mem_pinsAt hb e)))).2.1
  have fin := loop _ rfl
  rw [← hs3] at fin
  exact codeAny_compStart_list fin (T.self _ 0 _ _ _ st1 fin)

theorem blk_clos (S : BlkScope X.env.scope scope) (ok : X.Ok) : closureFor scope X.env = pure (freeL scope X.env) := closureFor_free fun x hx e => ok.has x.1 (S.free x hx e)
theorem ps_setComp {i : Nat} {y : Str} {py spos : Pos} (hN : X.N.Nodup) (hiN : X.N[i]? = some y) (hy : Loc X.env.scope y) (hc : X.calm = true) (hi : PI X tg iter wi) (S : BlkScope X.env.scope scope) (cap : CapOf X scope N ix)
    (hg : ∀ fp s H, PG (X.blk scope N fp s H) tg g) (he : ∀ fp s H, PE (X.blk scope N fp s H) elt te)
    (hsw : swapsWith (.ListComp elt [⟨tg, iter, [], 0⟩] scope pos) (some (.Name y py)) spos.line X.env = pure true := by rfl)
    (hs : ∀ x, foldedSetIterable iter X.env x = pure x := by intro _; rfl) (hf : X.fn y = true ∨ X.env.scope.names.lookup y = some .local := by first | exact .inl rfl | exact .inr rfl | assumption) :
    PS X (.Assign [.Name y py] (.ListComp elt [⟨tg, iter, [], 0⟩] scope pos) spos) (tAsg (tComp wi ix g te) (gName i)) := by
  intro pins s σ H D I h
  rw [exec_Assign_Name_used _ _ _ _ hsw]
  refine wpAny_bind (wpAny_standAt (wpAny_bind ?_))
  show wpAny _ X.A (do let _ ← comprehension (.ListComp elt [⟨tg, iter, [], 0⟩] scope pos) scope X.env _ (newList []) false (eval iter X.env) (some (assign (.Name y py) X.env))) _ _ s
  refine wpAny_bind (wpAny_mono (wpAny_comprehension_free (use := some (assign (.Name y py) X.env)) (Q := fun _ s' => SP X pins D .next s') rfl hs (blk_clos S I.ok) S.kind S.names
    (comp_core (RR := fun acc C => compPost (model X.prog X.w) X.A X.xe (some (assign (.Name y py) X.env)) (fun _ s' => SP X pins D .next s') acc C) hc hi S cap hg he I h fun l C H' s' I' f' hn q => ?_)) (fun _ s' hq => wpAny_pure (wpAny_pure hq)) fun _ _ e => e)
  obtain ⟨m, hn⟩ := hn
  show wpAny _ X.A (assign (.Name y py) X.env (.ref l)) _ _ _
  refine wpAny_assign_Name (store_ok2 (v := .ref l) I' hN hiN hy rfl (fun s'' I'' ⟨a, hsb, ha⟩ => ?_) hf)
  have hCa : C ≠ a := by
    rcases ha with z | z
    · rw [z]; exact f'.2.1
    · exact Ne.symm (f'.2.2.2.2.1 y a z)
  exact ⟨m, hn.sameBut hsb hCa, fun h' hs' => ⟨_, H', I''.frameGone f' hs', q⟩⟩
end
end L2

namespace L2
open PySem PySem.Spec PyProof.Rows
section
variable {X : Cx}
set_option exponentiation.threshold 5000 in
end
end L2

namespace L2
open PySem PySem.Spec PyProof.Rows
section
variable {X : Cx}
theorem CallR.imp {f : Value} {r r' : List V → Hp → VK → Prop} (h : CallR X f r) (hi : ∀ xs H Q, r' xs H Q → r xs H Q) : CallR X f r' := fun pins s σ H xs us Q I rs q => h pins s σ H xs us Q I rs (hi xs H Q q)
def rSlS (K : PySem.W.Frag) : V → Option Int → Option Int → Hp → VK → Prop := fun x lo hi H Q => ∃ a xs, x = .ref a ∧ SqL K H a xs ∧ ∀ p H', H p = none → Same H H' → H' p = some (.lst (cutV xs lo hi)) → Q (.ref p) H'
theorem SlR.imp {r r' : V → Option Int → Option Int → Hp → VK → Prop} (h : SlR X r) (hi : ∀ x lo hi H Q, r' x lo hi H Q → r x lo hi H Q) : SlR X r' := fun pins s σ H x v vl vu lo hi' sl Q I rx hs pl pu q => h pins s σ H x v vl vu lo hi' sl Q I rx hs pl pu (hi _ _ _ _ _ q)
theorem sl_listS : SlR X (rSlS X.K) := sl_list.imp fun x lo hi H Q ⟨a, xs, e, h, q⟩ => ⟨a, xs, e, h, fun p hp => q p _ hp (Same.new hp) upd_same⟩
end
end L2

namespace PySem
namespace F
end F

section
variable {prog : Program} {w : World} {A : Around} {E : Value → Shared → Prop} {s : Shared}
def lwrevObj (t : Addr) (i : Int) : Obj := { cls := .type "reversed", data := .fields #[.ref t, rawInt i] }
def Heap.LwRev (h : Heap) (a t : Addr) (i : Int) : Prop := h.get? a = some (lwrevObj t i)
theorem Heap.LwRev.typeIs {a t : Addr} {i : Int} (x : s.heap.LwRev a t i) : s.TypeIs (.ref a) "reversed" := ⟨_, x, rfl⟩
end
end PySem

namespace L2
open PySem PySem.Spec PyProof.Rows
section
variable {X : Cx} {tg : Expr}
end
theorem Same.seqT {K : PySem.W.Frag} {H H' : Hp} {a : Addr} {xs : List V} (e : Same H H') (h : SqT K H a xs) : SqT K H' a xs := by
  rcases h with (h | ⟨o, h⟩) | h
  · exact .inl (.inl (e _ _ h))
  · exact .inl (.inr ⟨o, e _ _ h⟩)
  · exact .inr h
theorem pe_globI {X : Cx} {x : Str} {i : Int} {pos : Pos} (hg : Gl X x) (hm : ∃ t, X.mg x = some (.int i t)) (hd : (x == ("__debug__" : Str)) = false := by decide) : PE X (.Name x pos) (tC (.int i)) := by
  obtain ⟨t, e⟩ := hm
  exact pe_glob hg e ⟨t, rfl⟩ hd
def SameBut' (l : Addr) (H H' : Hp) : Prop := ∀ b o, b ≠ l → H b = some o → H' b = some o
theorem SameBut'.refl (l : Addr) (H : Hp) : SameBut' l H H := fun _ _ _ h => h
theorem SameBut'.trans {l : Addr} {H H1 H2 : Hp} (a : SameBut' l H H1) (b : SameBut' l H1 H2) : SameBut' l H H2 := fun c o hc h => b c o hc (a c o hc h)
theorem Same.but {l : Addr} {H H' : Hp} (s : Same H H') : SameBut' l H H' := fun b o _ e => s b o e
theorem SameBut'.upd {l : Addr} {H : Hp} {o : HO} : SameBut' l H (upd H l o) := fun b u hb e => by rw [upd_ne hb]; exact e
theorem SameBut'.same {l : Addr} {H H1 H2 : Hp} (h : H l = none) (s : Same H H1) (t : SameBut' l H1 H2) : Same H H2 := fun b o e => t b o (ne_of_none e h) (s b o e)
end L2

namespace L2
open PySem PySem.Spec PyProof.Rows

inductive D where
  | int (i : Int) | bl (b : Bool) | non | str (x : Str) | ty (n : String) | fn (x : Str) | tup (ds : List D) | lst (ds : List D) | dic | exc (c : Str) | obj (c : Str) (ns : List Str) (ds : List D)
def clsφ (a : Addr) (c : Value) : Heap → Prop := fun h => ∃ o, h.get? a = some o ∧ o.cls = c

mutual
/-- v is worth d, by the heap F -/
def Rep (K : PySem.W.Frag) (F : Hp) : D → V → Prop
  | .int i, v => v = .int i
  | .bl b, v => v = .bl b
  | .non, v => v = .non
  | .str x, v => v = .str x
  | .ty n, v => v = .ty n
  | .fn x, v => ∃ f, v = .ref f ∧ PySem.W.nsIn K mainGlobals x = some (some (.ref f))
  | .tup ds, v => ∃ a vs, v = .ref a ∧ SqT K F a vs ∧ Reps K F ds vs
  | .lst ds, v => ∃ a vs, v = .ref a ∧ SqL K F a vs ∧ Reps K F ds vs
  | .dic, v => ∃ a, v = .ref a ∧ F a = some (.ext (clsφ a (.type "dict")))
  | .exc c, v => ∃ a C, v = .ref a ∧ PySem.W.nsIn K mainGlobals c = some (some (.ref C)) ∧ F a = some (.ext (clsφ a (.ref C)))
  | .obj c ns ds, v => ∃ a C dx vs, v = .ref a ∧ PySem.W.nsIn K mainGlobals c = some (some (.ref C)) ∧ F a = some (.ins C dx (ns.zip vs)) ∧ ds.length ≤ ns.length ∧ Reps K F ds vs
def Reps (K : PySem.W.Frag) (F : Hp) : List D → List V → Prop
  | [], vs => vs = []
  | d :: ds, vs => ∃ v r, vs = v :: r ∧ Rep K F d v ∧ Reps K F ds r
end
section
variable {K : PySem.W.Frag} {F F' H H' : Hp}
mutual
theorem Rep.mono (s : Same F F') : ∀ {d : D} {v : V}, Rep K F d v → Rep K F' d v
  | .int _, _, h => h
  | .bl _, _, h => h
  | .non, _, h => h
  | .str _, _, h => h
  | .ty _, _, h => h
  | .fn _, _, h => h
  | .tup ds, v, h => by
    obtain ⟨a, vs, e, h1, h2⟩ := h
    exact ⟨a, vs, e, s.seqT h1, Reps.mono s h2⟩
  | .lst ds, v, h => by
    obtain ⟨a, vs, e, h1, h2⟩ := h
    exact ⟨a, vs, e, s.seq h1, Reps.mono s h2⟩
  | .dic, v, h => by
    obtain ⟨a, e, h1⟩ := h
    exact ⟨a, e, s _ _ h1⟩
  | .exc _, v, h => by
    obtain ⟨a, C, e, h0, h1⟩ := h
    exact ⟨a, C, e, h0, s _ _ h1⟩
  | .obj _ _ ds, v, h => by
    obtain ⟨a, C, dx, vs, e, h0, h1, hl, h2⟩ := h
    exact ⟨a, C, dx, vs, e, h0, s _ _ h1, hl, Reps.mono s h2⟩
theorem Reps.mono (s : Same F F') : ∀ {ds : List D} {vs : List V}, Reps K F ds vs → Reps K F' ds vs
  | [], _, h => h
  | d :: ds, vs, h => by
    obtain ⟨v, r, e, h1, h2⟩ := h
    exact ⟨v, r, e, Rep.mono s h1, Reps.mono s h2⟩
end
theorem Reps.length : ∀ {ds : List D} {vs : List V}, Reps K F ds vs → ds.length = vs.length
  | [], _, h => by cases h; rfl
  | d :: ds, vs, h => by
    obtain ⟨v, r, rfl, h1, h2⟩ := h
    simp [Reps.length h2]
theorem Reps.get : ∀ {ds : List D} {vs : List V} {i : Nat} {d : D}, Reps K F ds vs → ds[i]? = some d → ∃ v, vs[i]? = some v ∧ Rep K F d v
  | [], _, _, _, _, e => by simp at e
  | d :: ds, vs, i, d', h, e => by
    obtain ⟨v, r, rfl, h1, h2⟩ := h
    cases i with
    | zero => simp at e; subst e; exact ⟨v, rfl, h1⟩
    | succ i => simpa using Reps.get h2 (by simpa using e)
theorem Reps.get' : ∀ {ds : List D} {vs : List V} {i : Nat} {v : V}, Reps K F ds vs → vs[i]? = some v → ∃ d, ds[i]? = some d ∧ Rep K F d v := fun {ds vs i v} h e => by
  have hl := h.length
  have hi := (List.getElem?_eq_some_iff.mp e).1
  obtain ⟨v', e', r⟩ := h.get (List.getElem?_eq_getElem (l := ds) (i := i) (by omega))
  rw [e] at e'; cases e'
  exact ⟨_, List.getElem?_eq_getElem (by omega), r⟩
theorem Reps.append : ∀ {ds es : List D} {vs us : List V}, Reps K F ds vs → Reps K F es us → Reps K F (ds ++ es) (vs ++ us)
  | [], _, _, _, h, g => by cases h; exact g
  | d :: ds, _, _, _, h, g => by
    obtain ⟨v, r, rfl, h1, h2⟩ := h
    exact ⟨v, r ++ _, rfl, h1, Reps.append h2 g⟩
theorem Reps.take : ∀ {ds : List D} {vs : List V} (n : Nat), Reps K F ds vs → Reps K F (ds.take n) (vs.take n)
  | [], _, n, h => by cases h; simp [Reps]
  | d :: ds, _, 0, h => by simp [Reps]
  | d :: ds, _, n + 1, h => by
    obtain ⟨v, r, rfl, h1, h2⟩ := h
    exact ⟨v, r.take n, rfl, h1, Reps.take n h2⟩
theorem Reps.drop : ∀ {ds : List D} {vs : List V} (n : Nat), Reps K F ds vs → Reps K F (ds.drop n) (vs.drop n)
  | [], _, n, h => by cases h; simp [Reps]
  | d :: ds, _, 0, h => h
  | d :: ds, _, n + 1, h => by
    obtain ⟨v, r, rfl, h1, h2⟩ := h
    simpa using Reps.drop n h2
theorem Reps.of : ∀ {ds : List D} {vs : List V}, ds.length = vs.length → (∀ (i : Nat) d v, ds[i]? = some d → vs[i]? = some v → Rep K F d v) → Reps K F ds vs
  | [], [], _, _ => rfl
  | d :: ds, v :: vs, e, h => ⟨v, vs, rfl, h 0 d v rfl rfl, Reps.of (by simpa using e) fun i d' v' e1 e2 => h (i + 1) d' v' (by simpa using e1) (by simpa using e2)⟩
  | [], _ :: _, e, _ => by simp at e
  | _ :: _, [], e, _ => by simp at e
theorem Reps.reverse {ds : List D} {vs : List V} (h : Reps K F ds vs) : Reps K F ds.reverse vs.reverse := by
  have hl := h.length
  refine Reps.of (by simp [hl]) fun i d v e1 e2 => ?_
  have h1 := (List.getElem?_eq_some_iff.mp e1).1
  rw [List.length_reverse] at h1
  rw [List.getElem?_reverse (by omega)] at e1
  rw [List.getElem?_reverse (by omega), ← hl] at e2
  obtain ⟨v', e', r⟩ := h.get e1
  rw [e2] at e'; cases e'; exact r
theorem reps_ints : ∀ {xs : List Int} {vs : List V}, Reps K F (xs.map D.int) vs ↔ vs = xs.map V.int
  | [], vs => Iff.rfl
  | x :: xs, vs => by
    constructor
    · rintro ⟨v, r, rfl, h1, h2⟩
      have h1' : v = V.int x := h1
      rw [h1', reps_ints.mp h2]; rfl
    · rintro rfl
      exact ⟨_, _, rfl, rfl, reps_ints.mpr rfl⟩
end

def imm : HO → Bool
  | .tup _ => true
  | .frz _ _ => true
  | _ => false
inductive OV where
  | fz (d : D)
  | nl (ts : List OV)
  | rt (a : Addr) (ts : List OV)
  | fx (v : V) (d : D)
  | ob (o : Option Addr) (c : Str) (ns : List Str) (ts : List OV)
mutual
def OV.val : OV → D
  | .fz d => d
  | .nl ts => .lst (OV.vals ts)
  | .rt _ ts => .lst (OV.vals ts)
  | .fx _ d => d
  | .ob _ c ns ts => .obj c ns (OV.vals ts)
def OV.vals : List OV → List D
  | [] => []
  | t :: ts => t.val :: OV.vals ts
end
theorem OV.vals_eq : ∀ (ts : List OV), OV.vals ts = ts.map OV.val
  | [] => by simp [OV.vals]
  | t :: ts => by simp [OV.vals, OV.vals_eq ts]
mutual
def RepO (K : PySem.W.Frag) (F H : Hp) : OV → V → List Addr → Prop
  | .fz d, v, A => A = [] ∧ Rep K F d v
  | .nl ts, v, A => ∃ a vs B, v = .ref a ∧ A = a :: B ∧ H a = some (.lst vs) ∧ RepOs K F H ts vs B
  | .rt a ts, v, A => ∃ vs B, v = .ref a ∧ A = a :: B ∧ H a = some (.lst vs) ∧ RepOs K F H ts vs B
  | .fx u d, v, A => A = [] ∧ v = u ∧ Rep K F d v
  | .ob o c ns ts, v, A => ∃ a C dx vs B, v = .ref a ∧ A = a :: dx :: B ∧ PySem.W.nsIn K mainGlobals c = some (some (.ref C)) ∧ (∀ a', o = some a' → a = a') ∧ H a = some (.ins C dx (ns.zip vs)) ∧ H dx = some (.own a) ∧ ts.length ≤ ns.length ∧ RepOs K F H ts vs B
def RepOs (K : PySem.W.Frag) (F H : Hp) : List OV → List V → List Addr → Prop
  | [], vs, A => vs = [] ∧ A = []
  | t :: ts, vs, A => ∃ v r B C, vs = v :: r ∧ A = B ++ C ∧ RepO K F H t v B ∧ RepOs K F H ts r C
end
section
variable {K : PySem.W.Frag} {F F' H H' : Hp}
mutual
theorem RepO.frame (s : Same F F') : ∀ {t : OV} {v : V} {A : List Addr}, (∀ a ∈ A, ∀ xs, H a = some xs → H' a = some xs) → RepO K F H t v A → RepO K F' H' t v A
  | .fz d, v, A, _, h => ⟨h.1, h.2.mono s⟩
  | .nl ts, v, A, hk, h => by
    obtain ⟨a, vs, B, e, rfl, h1, h2⟩ := h
    exact ⟨a, vs, B, e, rfl, hk a List.mem_cons_self _ h1, RepOs.frame s (fun b hb => hk b (List.mem_cons_of_mem _ hb)) h2⟩
  | .rt a ts, v, A, hk, h => by
    obtain ⟨vs, B, e, rfl, h1, h2⟩ := h
    exact ⟨vs, B, e, rfl, hk a List.mem_cons_self _ h1, RepOs.frame s (fun b hb => hk b (List.mem_cons_of_mem _ hb)) h2⟩
  | .fx u d, v, A, _, h => ⟨h.1, h.2.1, h.2.2.mono s⟩
  | .ob o c ns ts, v, A, hk, h => by
    obtain ⟨a, C, dx, vs, B, e, rfl, h0, ho, h1, h2, hl, h3⟩ := h
    exact ⟨a, C, dx, vs, B, e, rfl, h0, ho, hk a (by simp) _ h1, hk dx (by simp) _ h2, hl, RepOs.frame s (fun b hb => hk b (by simp [hb])) h3⟩
theorem RepOs.frame (s : Same F F') : ∀ {ts : List OV} {vs : List V} {A : List Addr}, (∀ a ∈ A, ∀ xs, H a = some xs → H' a = some xs) → RepOs K F H ts vs A → RepOs K F' H' ts vs A
  | [], vs, A, _, h => h
  | t :: ts, vs, A, hk, h => by
    obtain ⟨v, r, B, C, e, rfl, h1, h2⟩ := h
    exact ⟨v, r, B, C, e, rfl, RepO.frame s (fun b hb => hk b (List.mem_append_left _ hb)) h1, RepOs.frame s (fun b hb => hk b (List.mem_append_right _ hb)) h2⟩
end
mutual
theorem RepO.isl : ∀ {t : OV} {v : V} {A : List Addr}, RepO K F H t v A → ∀ a ∈ A, ∃ xs, H a = some xs ∧ imm xs = false
  | .fz d, v, A, h, a, ha => by rw [h.1] at ha; cases ha
  | .nl ts, v, A, h, a, ha => by
    obtain ⟨b, vs, B, e, rfl, h1, h2⟩ := h
    rcases List.mem_cons.mp ha with rfl | z
    · exact ⟨_, h1, rfl⟩
    · exact RepOs.isl h2 a z
  | .rt b ts, v, A, h, a, ha => by
    obtain ⟨vs, B, e, rfl, h1, h2⟩ := h
    rcases List.mem_cons.mp ha with rfl | z
    · exact ⟨_, h1, rfl⟩
    · exact RepOs.isl h2 a z
  | .fx u d, v, A, h, a, ha => by rw [h.1] at ha; cases ha
  | .ob o c ns ts, v, A, h, a, ha => by
    obtain ⟨b, C, dx, vs, B, e, rfl, h0, ho, h1, h2, hl, h3⟩ := h
    rcases List.mem_cons.mp ha with rfl | z
    · exact ⟨_, h1, rfl⟩
    · rcases List.mem_cons.mp z with rfl | z
      · exact ⟨_, h2, rfl⟩
      · exact RepOs.isl h3 a z
theorem RepOs.isl : ∀ {ts : List OV} {vs : List V} {A : List Addr}, RepOs K F H ts vs A → ∀ a ∈ A, ∃ xs, H a = some xs ∧ imm xs = false
  | [], vs, A, h, a, ha => by rw [h.2] at ha; cases ha
  | t :: ts, vs, A, h, a, ha => by
    obtain ⟨v, r, B, C, e, rfl, h1, h2⟩ := h
    rcases List.mem_append.mp ha with z | z
    · exact RepO.isl h1 a z
    · exact RepOs.isl h2 a z
end
mutual
theorem RepO.rep (s : Same F F') : ∀ {t : OV} {v : V} {A : List Addr}, (∀ a ∈ A, ∀ xs, H a = some xs → F' a = some xs) → RepO K F H t v A → Rep K F' t.val v
  | .fz d, v, A, _, h => h.2.mono s
  | .nl ts, v, A, hk, h => by
    obtain ⟨a, vs, B, e, rfl, h1, h2⟩ := h
    exact ⟨a, vs, e, SqL.of (hk a List.mem_cons_self _ h1), RepOs.rep s (fun b hb => hk b (List.mem_cons_of_mem _ hb)) h2⟩
  | .fx u d, v, A, _, h => h.2.2.mono s
  | .ob o c ns ts, v, A, hk, h => by
    obtain ⟨a, C, dx, vs, B, e, rfl, h0, ho, h1, h2, hl, h3⟩ := h
    exact ⟨a, C, dx, vs, e, h0, hk a (by simp) _ h1, by rw [OV.vals_eq, List.length_map]; exact hl, RepOs.rep s (fun b hb => hk b (by simp [hb])) h3⟩
  | .rt a ts, v, A, hk, h => by
    obtain ⟨vs, B, e, rfl, h1, h2⟩ := h
    exact ⟨a, vs, e, SqL.of (hk a List.mem_cons_self _ h1), RepOs.rep s (fun b hb => hk b (List.mem_cons_of_mem _ hb)) h2⟩
theorem RepOs.rep (s : Same F F') : ∀ {ts : List OV} {vs : List V} {A : List Addr}, (∀ a ∈ A, ∀ xs, H a = some xs → F' a = some xs) → RepOs K F H ts vs A → Reps K F' (OV.vals ts) vs
  | [], vs, A, _, h => h.1
  | t :: ts, vs, A, hk, h => by
    obtain ⟨v, r, B, C, e, rfl, h1, h2⟩ := h
    exact ⟨v, r, e, RepO.rep s (fun b hb => hk b (List.mem_append_left _ hb)) h1, RepOs.rep s (fun b hb => hk b (List.mem_append_right _ hb)) h2⟩
end
theorem RepOs.length : ∀ {ts : List OV} {vs : List V} {A : List Addr}, RepOs K F H ts vs A → ts.length = vs.length
  | [], _, _, h => by rw [h.1]; rfl
  | t :: ts, _, _, h => by
    obtain ⟨v, r, B, C, rfl, rfl, h1, h2⟩ := h
    simp [RepOs.length h2]
theorem RepOs.append : ∀ {ts us : List OV} {vs ws : List V} {A B : List Addr}, RepOs K F H ts vs A → RepOs K F H us ws B → RepOs K F H (ts ++ us) (vs ++ ws) (A ++ B)
  | [], _, _, _, _, _, h, g => by obtain ⟨rfl, rfl⟩ := h; exact g
  | t :: ts, _, _, _, _, _, h, g => by
    obtain ⟨v, r, B, C, rfl, rfl, h1, h2⟩ := h
    exact ⟨v, _, B, _, rfl, by rw [List.append_assoc], h1, RepOs.append h2 g⟩
theorem RepOs.one {t : OV} {v : V} {A : List Addr} (h : RepO K F H t v A) : RepOs K F H [t] [v] A := ⟨v, [], A, [], rfl, by simp, h, rfl, rfl⟩
theorem RepOs.focus : ∀ {ts : List OV} {vs : List V} {A : List Addr} {i : Nat} {t : OV}, RepOs K F H ts vs A → ts[i]? = some t → ∃ v A1 B A2, vs[i]? = some v ∧ A = A1 ++ (B ++ A2) ∧ RepO K F H t v B ∧
    ∀ F' H' t' v' B', Same F F' → (∀ a ∈ A1 ++ A2, ∀ xs, H a = some xs → H' a = some xs) → RepO K F' H' t' v' B' → RepOs K F' H' (ts.set i t') (vs.set i v') (A1 ++ (B' ++ A2))
  | [], _, _, _, _, _, e => by simp at e
  | t :: ts, _, _, 0, t0, h, e => by
    obtain ⟨v, r, B, C, rfl, rfl, h1, h2⟩ := h
    simp at e
    subst e
    refine ⟨v, [], B, C, rfl, rfl, h1, fun F' H' t' v' B' s hk h' => ?_⟩
    exact ⟨v', r, B', C, rfl, rfl, h', RepOs.frame s (fun a ha => hk a ha) h2⟩
  | t :: ts, _, _, i + 1, t0, h, e => by
    obtain ⟨v, r, B, C, rfl, rfl, h1, h2⟩ := h
    obtain ⟨v0, A1, B0, A2, e1, rfl, h3, h4⟩ := RepOs.focus (i := i) h2 (by simpa using e)
    refine ⟨v0, B ++ A1, B0, A2, by simpa using e1, by simp, h3, fun F' H' t' v' B' s hk h' => ?_⟩
    refine ⟨v, r.set i v', B, A1 ++ (B' ++ A2), rfl, by simp, RepO.frame s (fun a ha => hk a (by simp [ha])) h1, h4 F' H' t' v' B' s (fun a ha => hk a ?_) h'⟩
    rcases List.mem_append.mp ha with z | z <;> simp [z]
theorem RepOs.fzs : ∀ {ds : List D} {vs : List V}, Reps K F ds vs → RepOs K F H (ds.map OV.fz) vs []
  | [], _, h => ⟨h, rfl⟩
  | d :: ds, _, h => by
    obtain ⟨v, r, rfl, h1, h2⟩ := h
    exact ⟨v, r, [], [], rfl, rfl, ⟨rfl, h1⟩, RepOs.fzs h2⟩
end

structure Ext (F H F' H' : Hp) : Prop where
  ff : Same F F'
  hh : Same H H'
  fh : Same F' H'
  no : ∀ a o, F a = none → H a = some o → imm o = false → F' a = none
theorem Ext.refl {F H : Hp} (s : Same F H) : Ext F H F H := ⟨Same.refl _, Same.refl _, s, fun _ _ h _ _ => h⟩
theorem Ext.trans {F H F' H' F'' H'' : Hp} (a : Ext F H F' H') (b : Ext F' H' F'' H'') : Ext F H F'' H'' :=
  ⟨a.ff.trans b.ff, a.hh.trans b.hh, b.fh, fun x o h1 h2 h3 => b.no x o (a.no x o h1 h2 h3) (a.hh _ _ h2) h3⟩
def RepN (K : PySem.W.Frag) (H F' H' : Hp) (r : OV) (v : V) : Prop := ∃ A, RepO K F' H' r v A ∧ A.Nodup ∧ ∀ a ∈ A, H a = none ∧ F' a = none
theorem RepN.fz {K : PySem.W.Frag} {H F' H' : Hp} {d : D} {v : V} (h : Rep K F' d v) : RepN K H F' H' (.fz d) v := ⟨[], ⟨rfl, h⟩, List.nodup_nil, fun _ h => by cases h⟩
theorem RepN.old {K : PySem.W.Frag} {H0 H F' H' : Hp} {r : OV} {v : V} (s : Same H0 H) (h : RepN K H F' H' r v) : RepN K H0 F' H' r v := by
  obtain ⟨A, h1, h2, h3⟩ := h
  exact ⟨A, h1, h2, fun a ha => ⟨s.free (h3 a ha).1, (h3 a ha).2⟩⟩
theorem RepN.on {K : PySem.W.Frag} {H F' H' F'' H'' : Hp} {r : OV} {v : V} (h : RepN K H F' H' r v) (x : Ext F' H' F'' H'') : RepN K H F'' H'' r v := by
  obtain ⟨A, h1, h2, h3⟩ := h
  refine ⟨A, h1.frame x.ff fun a _ xs e => x.hh _ _ e, h2, fun a ha => ⟨(h3 a ha).1, ?_⟩⟩
  obtain ⟨xs, e, ei⟩ := h1.isl a ha
  exact x.no a _ (h3 a ha).2 e ei
theorem RepN.frz {K : PySem.W.Frag} {F H F' H' : Hp} {r : OV} {v : V} (x : Ext F H F' H') (h : RepN K H F' H' r v) : ∃ F'', Ext F H F'' H' ∧ Same F' F'' ∧ Rep K F'' r.val v := by
  obtain ⟨A, h1, h2, h3⟩ := h
  refine ⟨fun a => if a ∈ A then H' a else F' a, ⟨fun b o e => ?_, x.hh, fun b o e => ?_, fun a o e1 e2 e3 => ?_⟩, fun b o e => ?_, ?_⟩
  · have hb : b ∉ A := fun z => by rw [(x.ff.free (h3 b z).2)] at e; cases e
    rw [if_neg hb]; exact x.ff _ _ e
  · try dsimp only at e
    split at e
    · exact e
    · exact x.fh _ _ e
  · have ha : a ∉ A := fun z => by rw [(h3 a z).1] at e2; cases e2
    rw [if_neg ha]; exact x.no a o e1 e2 e3
  · have hb : b ∉ A := fun z => by rw [(h3 b z).2] at e; cases e
    try dsimp only
    rw [if_neg hb]; exact e
  · refine h1.rep (fun b o e => ?_) fun a ha xs e => ?_
    · have hb : b ∉ A := fun z => by rw [(h3 b z).2] at e; cases e
      rw [if_neg hb]; exact e
    · rw [if_pos ha]; exact e

inductive Sl where
  | own (t : OV)
  | bw (d : D)
abbrev Dst := List (Option Sl)
structure ER (K : PySem.W.Frag) (F0 H0 F H : Hp) (σ : St) (δ : Dst) (A : Nat → List Addr) : Prop where
  len : σ.length = δ.length
  ext : Ext F0 H0 F H
  own : ∀ (i : Nat) (t : OV), δ[i]? = some (some (.own t)) → ∃ v, σ[i]? = some (some v) ∧ RepO K F H t v (A i)
  bw : ∀ (i : Nat) (d : D), δ[i]? = some (some (.bw d)) → ∃ v, σ[i]? = some (some v) ∧ Rep K H0 d v
  nod : ∀ i, (A i).Nodup
  dis : ∀ i j a, i ≠ j → a ∈ A i → a ∉ A j
  new : ∀ i a, a ∈ A i → F a = none ∧ H0 a = none ∧ ∃ xs, H a = some xs ∧ imm xs = false
def EnvR (K : PySem.W.Frag) (F0 H0 F H : Hp) (σ : St) (δ : Dst) : Prop := ∃ A, ER K F0 H0 F H σ δ A
section
variable {K : PySem.W.Frag} {F0 H0 F H F' H' : Hp} {σ : St} {δ : Dst} {A : Nat → List Addr}
theorem ER.on (e : ER K F0 H0 F H σ δ A) (x : Ext F H F' H') : ER K F0 H0 F' H' σ δ A where
  len := e.len
  ext := e.ext.trans x
  own := fun i t h => by
    obtain ⟨v, h1, h2⟩ := e.own i t h
    exact ⟨v, h1, h2.frame x.ff fun a _ xs z => x.hh _ _ z⟩
  bw := e.bw
  nod := e.nod
  dis := e.dis
  new := fun i a ha => by
    obtain ⟨h1, h2, xs, h3, h4⟩ := e.new i a ha
    exact ⟨x.no a _ h1 h3 h4, h2, xs, x.hh _ _ h3, h4⟩
theorem EnvR.on (e : EnvR K F0 H0 F H σ δ) (x : Ext F H F' H') : EnvR K F0 H0 F' H' σ δ := let ⟨A, e⟩ := e; ⟨A, e.on x⟩
theorem EnvR.ext (e : EnvR K F0 H0 F H σ δ) : Ext F0 H0 F H := let ⟨_, e⟩ := e; e.ext
theorem EnvR.put (e : EnvR K F0 H0 F H σ δ) (x : Ext F H F' H') (i : Nat) {r : OV} {v : V} (h : RepN K H F' H' r v) : EnvR K F0 H0 F' H' (σ.set i (some v)) (δ.set i (some (.own r))) := by
  obtain ⟨A, e⟩ := e
  obtain ⟨B, b1, b2, b3⟩ := h
  have e' := e.on x
  refine ⟨fun j => if j = i then B else A j, by simp [e.len], e'.ext, fun j t hj => ?_, fun j d hj => ?_, fun j => ?_, fun j k a hjk h1 h2 => ?_, fun j a ha => ?_⟩
  · try dsimp only
    by_cases z : j = i
    · subst z
      rw [if_pos rfl]
      have hl : j < δ.length := by
        have := (List.getElem?_eq_some_iff.mp hj).1
        rwa [List.length_set] at this
      rw [List.getElem?_set_self hl] at hj
      cases hj
      exact ⟨v, List.getElem?_set_self (by rw [e.len]; exact hl), b1⟩
    · rw [if_neg z]
      rw [List.getElem?_set_ne (Ne.symm z)] at hj ⊢
      exact e'.own j t hj
  · by_cases z : j = i
    · subst z
      have hl : j < δ.length := by
        have := (List.getElem?_eq_some_iff.mp hj).1
        rwa [List.length_set] at this
      rw [List.getElem?_set_self hl] at hj
      cases hj
    · rw [List.getElem?_set_ne (Ne.symm z)] at hj ⊢
      exact e'.bw j d hj
  · try dsimp only
    split
    · exact b2
    · exact e.nod j
  · try dsimp only at h1 h2
    have key : ∀ k, a ∈ B → a ∈ A k → False := fun k z1 z2 => by
      obtain ⟨_, _, xs, q, _⟩ := e.new k a z2
      rw [(b3 a z1).1] at q; cases q
    split at h1
    · split at h2
      · omega
      · exact key _ h1 h2
    · split at h2
      · exact key _ h2 h1
      · exact e.dis j k a hjk h1 h2
  · try dsimp only at ha
    split at ha
    · exact ⟨(b3 a ha).2, e.ext.hh.free (b3 a ha).1, b1.isl a ha⟩
    · exact e'.new j a ha
theorem ER.putFz (e : ER K F0 H0 F H σ δ A) (i : Nat) {d : D} {v : V} (h : Rep K F d v) : ER K F0 H0 F H (σ.set i (some v)) (δ.set i (some (.own (.fz d)))) (fun j => if j = i then [] else A j) := by
  refine ⟨by simp [e.len], e.ext, fun j t hj => ?_, fun j d hj => ?_, fun j => ?_, fun j k a hjk h1 h2 => ?_, fun j a ha => ?_⟩
  · try dsimp only
    by_cases z : j = i
    · subst z
      rw [if_pos rfl]
      have hl : j < δ.length := by
        have := (List.getElem?_eq_some_iff.mp hj).1
        rwa [List.length_set] at this
      rw [List.getElem?_set_self hl] at hj
      cases hj
      exact ⟨v, List.getElem?_set_self (by rw [e.len]; exact hl), rfl, h⟩
    · rw [if_neg z]
      rw [List.getElem?_set_ne (Ne.symm z)] at hj ⊢
      exact e.own j t hj
  · by_cases z : j = i
    · subst z
      have hl : j < δ.length := by
        have := (List.getElem?_eq_some_iff.mp hj).1
        rwa [List.length_set] at this
      rw [List.getElem?_set_self hl] at hj
      cases hj
    · rw [List.getElem?_set_ne (Ne.symm z)] at hj ⊢
      exact e.bw j d hj
  · try dsimp only
    split
    · exact List.nodup_nil
    · exact e.nod j
  · try dsimp only at h1 h2
    split at h1
    · cases h1
    · split at h2
      · cases h2
      · exact e.dis j k a hjk h1 h2
  · try dsimp only at ha
    split at ha
    · cases ha
    · exact e.new j a ha
end
end L2

namespace L2
open PySem PySem.Spec PyProof.Rows
abbrev DE := Dst → (D → Prop) → Prop
abbrev DO := Dst → (OV → Prop) → Prop
abbrev DA := Dst → (List D → Prop) → Prop
abbrev DAO := Dst → (List OV → Prop) → Prop
abbrev DT := Dst → (Bool → Prop) → Prop
structure DEnds where
  nx : Dst → Prop
  rt : OV → Prop
  bk : Dst → Prop := fun _ => False
  ct : Dst → Prop := fun _ => False
abbrev DS := DEnds → Dst → Prop
section
variable (K : PySem.W.Frag)
def SimO (t : TE) (E : DO) : Prop := ∀ F0 H0 F H σ δ P Q, EnvR K F0 H0 F H σ δ → E δ P → (∀ r v F' H', P r → Ext F H F' H' → RepN K H F' H' r v → Q v H') → t σ H Q
def SimF (t : TE) (E : DE) : Prop := ∀ F0 H0 F H σ δ P Q, EnvR K F0 H0 F H σ δ → E δ P → (∀ d v F' H', P d → Ext F H F' H' → Rep K F' d v → Q v H') → t σ H Q
def SimB (t : TE) (E : DE) : Prop := ∀ F0 H0 F H σ δ P Q, EnvR K F0 H0 F H σ δ → E δ P → (∀ d v F' H', P d → Ext F H F' H' → Rep K H' d v → Q v H') → t σ H Q
def SimT (t : TT) (C : DT) : Prop := ∀ F0 H0 F H σ δ P Q, EnvR K F0 H0 F H σ δ → C δ P → (∀ b F' H', P b → Ext F H F' H' → Q b H') → t σ H Q
def SimAF (t : TA) (E : DA) : Prop := ∀ F0 H0 F H σ δ P Q, EnvR K F0 H0 F H σ δ → E δ P → (∀ ds vs F' H', P ds → Ext F H F' H' → Reps K F' ds vs → Q vs H') → t σ H Q
def SimAB (t : TA) (E : DA) : Prop := ∀ F0 H0 F H σ δ P Q, EnvR K F0 H0 F H σ δ → E δ P → (∀ ds vs F' H', P ds → Ext F H F' H' → Reps K H' ds vs → Q vs H') → t σ H Q
def RepNs (H F' H' : Hp) (rs : List OV) (vs : List V) : Prop := ∃ A, RepOs K F' H' rs vs A ∧ A.Nodup ∧ ∀ a ∈ A, H a = none ∧ F' a = none
def SimAO (t : TA) (E : DAO) : Prop := ∀ F0 H0 F H σ δ P Q, EnvR K F0 H0 F H σ δ → E δ P → (∀ rs vs F' H', P rs → Ext F H F' H' → RepNs K H F' H' rs vs → Q vs H') → t σ H Q
structure Lk (F0 H0 : Hp) (De : DEnds) (E : Ends) : Prop where
  nx : ∀ F H σ δ, EnvR K F0 H0 F H σ δ → De.nx δ → E.nx σ H
  bk : ∀ F H σ δ, EnvR K F0 H0 F H σ δ → De.bk δ → E.bk σ H
  ct : ∀ F H σ δ, EnvR K F0 H0 F H σ δ → De.ct δ → E.ct σ H
  rt : ∀ F H r v, Ext F0 H0 F H → RepN K H0 F H r v → De.rt r → E.rt v H
def SimS (t : TS) (T : DS) : Prop := ∀ F0 H0 F H σ δ De E, EnvR K F0 H0 F H σ δ → Lk K F0 H0 De E → T De δ → t E σ H
def SimG (g : TG) (G : D → Dst → (Dst → Prop) → Prop) : Prop := ∀ F0 H0 F H σ δ A d v P Q, ER K F0 H0 F H σ δ A → Rep K F d v → G d δ P → (∀ σ' δ' A', P δ' → ER K F0 H0 F H σ' δ' A' → (∀ i a, a ∈ A' i → a ∈ A i) → Q σ' H) → g v σ H Q
def SimGs (g : TGs) (G : List D → Dst → (Dst → Prop) → Prop) : Prop := ∀ F0 H0 F H σ δ A ds vs P Q, ER K F0 H0 F H σ δ A → Reps K F ds vs → G ds δ P → (∀ σ' δ' A', P δ' → ER K F0 H0 F H σ' δ' A' → (∀ i a, a ∈ A' i → a ∈ A i) → Q σ' H) → g vs σ H Q
end
section
variable {K : PySem.W.Frag} {t ta tb tc : TE} {E Ea Eb Ec : DE}
def dFz (E : DE) : DO := fun δ P => E δ fun d => P (.fz d)
def dVal (E : DO) : DE := fun δ P => E δ fun r => P r.val
theorem sB_f (h : SimF K t E) : SimB K t E := fun F0 H0 F H σ δ P Q e w q => h F0 H0 F H σ δ P Q e w fun d v F' H' p x r => q d v F' H' p x (r.mono x.fh)
theorem sO_f (h : SimF K t E) : SimO K t (dFz E) := fun F0 H0 F H σ δ P Q e w q => h F0 H0 F H σ δ _ Q e w fun d v F' H' p x r => q _ v F' H' p x (.fz r)
theorem sF_o {E : DO} (h : SimO K t E) : SimF K t (dVal E) := fun F0 H0 F H σ δ P Q e w q => h F0 H0 F H σ δ _ Q e w fun d v F' H' p x r => by
  obtain ⟨F'', x', _, r'⟩ := r.frz x
  exact q _ v F'' H' p x' r'
mutual
def D.lf : D → Bool
  | .tup ds => D.lfs ds
  | .lst _ => false
  | .dic => false
  | .exc _ => false
  | .obj _ _ _ => false
  | _ => true
def D.lfs : List D → Bool
  | [] => true
  | d :: ds => d.lf && D.lfs ds
end
def frzT (F H : Hp) : Hp := fun a => match F a with
  | some o => some o
  | none => match H a with
    | some o => if imm o = true then some o else none
    | none => none
theorem frzT_ext {F H : Hp} (s : Same F H) : Ext F H (frzT F H) H := by
  refine ⟨fun b o e => ?_, Same.refl _, fun b o e => ?_, fun a o e1 e2 e3 => ?_⟩
  · unfold frzT; rw [e]
  · unfold frzT at e
    cases q : F b with
    | some o' => rw [q] at e; rw [← e]; exact s _ _ q
    | none =>
      rw [q] at e
      cases q2 : H b with
      | none => rw [q2] at e; cases e
      | some o' =>
        rw [q2] at e
        dsimp only at e
        split at e
        · exact e
        · cases e
  · unfold frzT; rw [e1, e2]
    dsimp only
    rw [e3]; rfl
theorem frzT_imm {F H : Hp} (s : Same F H) {a : Addr} {o : HO} (h : H a = some o) (hi : imm o = true) : frzT F H a = some o := by
  unfold frzT
  cases q : F a with
  | some o' => rw [s _ _ q] at h; exact h
  | none => rw [h]; dsimp only; rw [hi]; rfl
theorem frzT_seqT {F H : Hp} (s : Same F H) {a : Addr} {xs : List V} (h : SqT K H a xs) : SqT K (frzT F H) a xs := by
  rcases h with (h | ⟨o, h⟩) | h
  · exact .inl (.inl (frzT_imm s h rfl))
  · exact .inl (.inr ⟨o, frzT_imm s h rfl⟩)
  · exact .inr h
mutual
theorem Rep.lf {F H : Hp} (s : Same F H) : ∀ {d : D} {v : V}, Rep K H d v → d.lf = true → Rep K (frzT F H) d v
  | .int _, _, h, _ => h
  | .bl _, _, h, _ => h
  | .non, _, h, _ => h
  | .str _, _, h, _ => h
  | .ty _, _, h, _ => h
  | .fn _, _, h, _ => h
  | .tup ds, v, h, z => by
    obtain ⟨a, vs, e, h1, h2⟩ := h
    exact ⟨a, vs, e, frzT_seqT s h1, Reps.lf s h2 (by simpa [D.lf] using z)⟩
  | .lst ds, v, h, z => by simp [D.lf] at z
  | .dic, v, h, z => by simp [D.lf] at z
  | .exc _, v, h, z => by simp [D.lf] at z
  | .obj _ _ _, v, h, z => by simp [D.lf] at z
theorem Reps.lf {F H : Hp} (s : Same F H) : ∀ {ds : List D} {vs : List V}, Reps K H ds vs → D.lfs ds = true → Reps K (frzT F H) ds vs
  | [], _, h, _ => h
  | d :: ds, vs, h, z => by
    obtain ⟨v, r, e, h1, h2⟩ := h
    simp [D.lfs] at z
    exact ⟨v, r, e, Rep.lf s h1 z.1, Reps.lf s h2 z.2⟩
end
theorem D.lfs_eq : ∀ (ds : List D), D.lfs ds = ds.all D.lf
  | [] => rfl
  | d :: ds => by simp [D.lfs, D.lfs_eq ds]
def dLf (E : DE) : DE := fun δ P => E δ fun d => d.lf = true ∧ P d
theorem sF_lf (h : SimB K t E) : SimF K t (dLf E) := fun F0 H0 F H σ δ P Q e w q => h F0 H0 F H σ δ _ Q e w fun d v F' H' p x r =>
  q d v _ H' p.2 (x.trans (frzT_ext x.fh)) (Rep.lf x.fh r p.1)
def dV (i : Nat) : DE := fun δ P => match δ[i]? with
  | some (some (.own (.fz d))) => P d
  | some (some (.own (.fx _ d))) => P d
  | _ => False
def dB (i : Nat) : DE := fun δ P => match δ[i]? with
  | some (some (.own t)) => P t.val
  | some (some (.bw d)) => P d
  | _ => False
theorem sF_var {i : Nat} : SimF K (tVar i) (dV i) := fun F0 H0 F H σ δ P Q ⟨A, e⟩ w q => by
  unfold dV at w
  split at w
  · rename_i d hd
    obtain ⟨v, h1, h2⟩ := e.own i _ hd
    exact ⟨v, h1, q d v F H w (Ext.refl e.ext.fh) h2.2⟩
  · rename_i u d hd
    obtain ⟨v, h1, h2⟩ := e.own i _ hd
    exact ⟨v, h1, q d v F H w (Ext.refl e.ext.fh) h2.2.2⟩
  · exact w.elim
theorem sB_var {i : Nat} : SimB K (tVar i) (dB i) := fun F0 H0 F H σ δ P Q ⟨A, e⟩ w q => by
  unfold dB at w
  split at w
  · rename_i t hd
    obtain ⟨v, h1, h2⟩ := e.own i _ hd
    exact ⟨v, h1, q _ v F H w (Ext.refl e.ext.fh) (h2.rep e.ext.fh fun a _ xs z => z)⟩
  · rename_i d hd
    obtain ⟨v, h1, h2⟩ := e.bw i _ hd
    exact ⟨v, h1, q _ v F H w (Ext.refl e.ext.fh) (h2.mono e.ext.hh)⟩
  · exact w.elim
def dC (d : D) : DE := fun _ P => P d
theorem sF_c {v : V} {d : D} (h : ∀ F, Rep K F d v) : SimF K (tC v) (dC d) := fun F0 H0 F H σ δ P Q e w q => q d v F H w (Ext.refl e.ext.fh) (h _)
theorem sF_int {i : Int} : SimF K (tC (.int i)) (dC (.int i)) := sF_c fun _ => rfl
theorem sF_bl {b : Bool} : SimF K (tC (.bl b)) (dC (.bl b)) := sF_c fun _ => rfl
theorem sF_str {x : Str} : SimF K (tC (.str x)) (dC (.str x)) := sF_c fun _ => rfl
theorem sF_ty {n : String} : SimF K (tC (.ty n)) (dC (.ty n)) := sF_c fun _ => rfl
abbrev DR2 := D → D → (D → Prop) → Prop
def OpS (K : PySem.W.Frag) (R : R2) (r : DR2) : Prop := ∀ F H x y v u P Q, Same F H → Rep K H x v → Rep K H y u → r x y P → (∀ d w F' H', P d → Ext F H F' H' → Rep K F' d w → Q w H') → R v u H Q
def OpB (K : PySem.W.Frag) (R : R2) (r : DR2) : Prop := ∀ H x y v u P Q, Rep K H x v → Rep K H y u → r x y P → (∀ d w, P d → Rep K H d w → Q w H) → R v u H Q
def dOp (r : DR2) (Ea Eb : DE) : DE := fun δ P => Ea δ fun x => Eb δ fun y => r x y P
theorem sF_op {R : R2} {r : DR2} (h : OpS K R r) (ha : SimB K ta Ea) (hb : SimB K tb Eb) : SimF K (tOp R ta tb) (dOp r Ea Eb) := fun F0 H0 F H σ δ P Q e w q =>
  ha F0 H0 F H σ δ _ _ e w fun x v F1 H1 w1 x1 r1 => hb F0 H0 F1 H1 σ δ _ _ (e.on x1) w1 fun y u F2 H2 w2 x2 r2 =>
    h F2 H2 x y v u P _ x2.fh (r1.mono x2.hh) r2 w2 fun d w F' H' p x' r' => q d w F' H' p (x1.trans (x2.trans x')) r'
theorem sB_op {R : R2} {r : DR2} (h : OpB K R r) (ha : SimB K ta Ea) (hb : SimB K tb Eb) : SimB K (tOp R ta tb) (dOp r Ea Eb) := fun F0 H0 F H σ δ P Q e w q =>
  ha F0 H0 F H σ δ _ _ e w fun x v F1 H1 w1 x1 r1 => hb F0 H0 F1 H1 σ δ _ _ (e.on x1) w1 fun y u F2 H2 w2 x2 r2 =>
    h H2 x y v u P _ (r1.mono x2.hh) r2 w2 fun d w p r' => q d w F2 H2 p (x1.trans x2) r'
def rI2 (g : Int → Int → D) : DR2 := fun x y P => match x, y with
  | .int i, .int j => P (g i j)
  | _, _ => False
def rI2C (C : Int → Int → Prop) (g : Int → Int → D) : DR2 := fun x y P => match x, y with
  | .int i, .int j => C i j ∧ P (g i j)
  | _, _ => False
theorem rI2_inv {g : Int → Int → D} {x y : D} {P : D → Prop} (h : rI2 g x y P) : ∃ i j, x = .int i ∧ y = .int j ∧ P (g i j) := by
  unfold rI2 at h
  split at h
  · exact ⟨_, _, rfl, rfl, h⟩
  · exact h.elim
theorem rI2C_inv {C : Int → Int → Prop} {g : Int → Int → D} {x y : D} {P : D → Prop} (h : rI2C C g x y P) : ∃ i j, x = .int i ∧ y = .int j ∧ C i j ∧ P (g i j) := by
  unfold rI2C at h
  split at h
  · exact ⟨_, _, rfl, rfl, h.1, h.2⟩
  · exact h.elim
theorem oS_I0 {g : Int → Int → V} {g' : Int → Int → D} (hg : ∀ F i j, Rep K F (g' i j) (g i j)) : OpS K (rI0 g) (rI2 g') := fun F H x y v u P Q s rx ry w q => by
  obtain ⟨i, j, rfl, rfl, p⟩ := rI2_inv w
  exact ⟨i, j, rx, ry, q _ _ F H p (Ext.refl s) (hg _ _ _)⟩
theorem oS_I {C : Int → Int → Prop} {g : Int → Int → V} {g' : Int → Int → D} (hg : ∀ F i j, Rep K F (g' i j) (g i j)) : OpS K (rI C g) (rI2C C g') := fun F H x y v u P Q s rx ry w q => by
  obtain ⟨i, j, rfl, rfl, c, p⟩ := rI2C_inv w
  exact ⟨i, j, rx, ry, c, q _ _ F H p (Ext.refl s) (hg _ _ _)⟩
theorem oS_i0 {g : Int → Int → Int} : OpS K (rI0 fun i j => .int (g i j)) (rI2 fun i j => .int (g i j)) := oS_I0 fun _ _ _ => rfl
theorem oS_i {C : Int → Int → Prop} {g : Int → Int → Int} : OpS K (rI C fun i j => .int (g i j)) (rI2C C fun i j => .int (g i j)) := oS_I fun _ _ _ => rfl
theorem oS_b0 {g : Int → Int → Bool} : OpS K (rI0 fun i j => .bl (g i j)) (rI2 fun i j => .bl (g i j)) := oS_I0 fun _ _ _ => rfl
def rEqD : DR2 := fun x y P => match x, y with
  | .int i, .int j => P (.bl (decide (i = j)))
  | .str i, .str j => P (.bl (decide (i = j)))
  | .bl i, .bl j => P (.bl (decide (i = j)))
  | _, _ => False
def rNeD : DR2 := fun x y P => match x, y with
  | .int i, .int j => P (.bl (!decide (i = j)))
  | .str i, .str j => P (.bl (!decide (i = j)))
  | .bl i, .bl j => P (.bl (!decide (i = j)))
  | _, _ => False
theorem vd_int {i j : Int} : decide (V.int i = V.int j) = decide (i = j) := by
  by_cases h : i = j
  · subst h; simp
  · rw [decide_eq_false h, decide_eq_false fun z => h (by injection z)]
theorem vd_str {i j : Str} : decide (V.str i = V.str j) = decide (i = j) := by
  by_cases h : i = j
  · subst h; simp
  · rw [decide_eq_false h, decide_eq_false fun z => h (by injection z)]
theorem vd_bl {i j : Bool} : decide (V.bl i = V.bl j) = decide (i = j) := by
  by_cases h : i = j
  · subst h; simp
  · rw [decide_eq_false h, decide_eq_false fun z => h (by injection z)]
theorem oS_eq : OpS K rEq rEqD := fun F H x y v u P Q s rx ry w q => by
  unfold rEqD at w
  split at w
  · cases rx; cases ry; exact ⟨rfl, by rw [vd_int]; exact q _ _ F H w (Ext.refl s) rfl⟩
  · cases rx; cases ry; exact ⟨rfl, by rw [vd_str]; exact q _ _ F H w (Ext.refl s) rfl⟩
  · cases rx; cases ry; exact ⟨rfl, by rw [vd_bl]; exact q _ _ F H w (Ext.refl s) rfl⟩
  · exact w.elim
theorem oS_ne : OpS K rNe rNeD := fun F H x y v u P Q s rx ry w q => by
  unfold rNeD at w
  split at w
  · cases rx; cases ry; exact ⟨rfl, by rw [vd_int]; exact q _ _ F H w (Ext.refl s) rfl⟩
  · cases rx; cases ry; exact ⟨rfl, by rw [vd_str]; exact q _ _ F H w (Ext.refl s) rfl⟩
  · cases rx; cases ry; exact ⟨rfl, by rw [vd_bl]; exact q _ _ F H w (Ext.refl s) rfl⟩
  · exact w.elim
def D.isNon : D → Bool
  | .non => true
  | _ => false
def rIsN : DR2 := fun x y P => match y with
  | .non => P (.bl x.isNon)
  | _ => False
def rNotN : DR2 := fun x y P => match y with
  | .non => P (.bl (!x.isNon))
  | _ => False
def dUn (r : D → (D → Prop) → Prop) (Ea : DE) : DE := fun δ P => Ea δ fun x => r x P
def rU1 (g : Int → D) : D → (D → Prop) → Prop := fun x P => match x with
  | .int i => P (g i)
  | _ => False
theorem sF_neg {g : Int → Int} (ha : SimB K ta Ea) : SimF K (tUn (rU fun i => .int (g i)) ta) (dUn (rU1 fun i => .int (g i)) Ea) := fun F0 H0 F H σ δ P Q e w q =>
  ha F0 H0 F H σ δ _ _ e w fun x v F1 H1 w1 x1 r1 => by
    unfold rU1 at w1
    split at w1
    · exact ⟨_, r1, q _ _ F1 H1 w1 x1 rfl⟩
    · exact w1.elim
def dTb (E : DE) : DT := fun δ P => E δ fun d => match d with
  | .bl b => P b
  | _ => False
theorem sT_of (h : SimF K t E) : ∀ (F0 H0 F H : Hp) (σ : St) (δ : Dst) (P : Bool → Prop) (Q : Bool → Hp → Prop), EnvR K F0 H0 F H σ δ → dTb E δ P → (∀ b F' H', P b → Ext F H F' H' → Q b H') → t σ H fun x H' => ∃ k, x = .bl k ∧ Q k H' := fun F0 H0 F H σ δ P Q e w q =>
  h F0 H0 F H σ δ _ _ e w fun d v F' H' p x r => by
    try dsimp only at p
    split at p
    · exact ⟨_, r, q _ F' H' p x⟩
    · exact p.elim
theorem sT_test (h : SimF K t E) : SimT K (tTest t) (dTb E) := sT_of h
theorem sT_b (h : SimF K t E) : SimT K (tB t) (dTb E) := sT_of h
section
variable {ua ub : TT} {Ca Cb : DT}
def dNot (C : DT) : DT := fun δ P => C δ fun b => P (!b)
def dAnd (Ca Cb : DT) : DT := fun δ P => Ca δ fun b => if b = true then Cb δ P else P false
def dOr (Ca Cb : DT) : DT := fun δ P => Ca δ fun b => if b = true then P true else Cb δ P
theorem sT_not (h : SimT K ua Ca) : SimT K (tNot ua) (dNot Ca) := fun F0 H0 F H σ δ P Q e w q => h F0 H0 F H σ δ _ _ e w fun b F' H' p x => q _ F' H' p x
theorem sT_and (h : SimT K ua Ca) (g : SimT K ub Cb) : SimT K (tAnd ua ub) (dAnd Ca Cb) := fun F0 H0 F H σ δ P Q e w q => h F0 H0 F H σ δ _ _ e w fun b F' H' p x => by
  cases b with
  | true => exact iteT (g F0 H0 F' H' σ δ P Q (e.on x) p fun b F2 H2 p2 x2 => q b F2 H2 p2 (x.trans x2))
  | false => exact iteB rfl (q _ F' H' p x)
theorem sT_or (h : SimT K ua Ca) (g : SimT K ub Cb) : SimT K (tOr ua ub) (dOr Ca Cb) := fun F0 H0 F H σ δ P Q e w q => h F0 H0 F H σ δ _ _ e w fun b F' H' p x => by
  cases b with
  | true => exact iteT (q _ F' H' p x)
  | false => exact iteB rfl (g F0 H0 F' H' σ δ P Q (e.on x) p fun b F2 H2 p2 x2 => q b F2 H2 p2 (x.trans x2))
def dIf (C : DT) (Ea Eb : DE) : DE := fun δ P => C δ fun b => if b = true then Ea δ P else Eb δ P
end
def dAndV (Ea Eb : DE) : DE := fun δ P => Ea δ fun x => match x with
  | .bl c => if c = true then Eb δ P else P (.bl false)
  | _ => False
def dOrV (Ea Eb : DE) : DE := fun δ P => Ea δ fun x => match x with
  | .bl c => if c = true then P (.bl true) else Eb δ P
  | _ => False
def dNotV (Ea : DE) : DE := fun δ P => Ea δ fun x => match x with
  | .bl c => P (.bl (!c))
  | _ => False
theorem sF_andV (ha : SimF K ta Ea) (hb : SimF K tb Eb) : SimF K (tAndV ta tb) (dAndV Ea Eb) := fun F0 H0 F H σ δ P Q e w q => ha F0 H0 F H σ δ _ _ e w fun d v F' H' p x r => by
  try dsimp only at p
  split at p
  · rename_i c
    refine ⟨c, r, ?_⟩
    cases c with
    | true => exact iteT (hb F0 H0 F' H' σ δ P Q (e.on x) p fun d v F2 H2 p2 x2 r => q d v F2 H2 p2 (x.trans x2) r)
    | false => exact iteB rfl (q _ _ F' H' p x rfl)
  · exact p.elim
def dChain (r r' : DR2) (Ea Eb Ec : DE) : DE := fun δ P => Ea δ fun x => Eb δ fun y => r x y fun z => match z with
  | .bl k => if k = true then Ec δ fun w => r' y w P else P (.bl false)
  | _ => False
section
variable {a : TA} {As : DA}
def dNil : DA := fun _ P => P []
def dCons (Ea : DE) (As : DA) : DA := fun δ P => Ea δ fun d => As δ fun ds => P (d :: ds)
theorem sAB_nil : SimAB K tNil dNil := fun F0 H0 F H σ δ P Q e w q => q [] [] F H w (Ext.refl e.ext.fh) rfl
theorem sAF_nil : SimAF K tNil dNil := fun F0 H0 F H σ δ P Q e w q => q [] [] F H w (Ext.refl e.ext.fh) rfl
theorem sAB_cons (ha : SimB K ta Ea) (hr : SimAB K a As) : SimAB K (tCons ta a) (dCons Ea As) := fun F0 H0 F H σ δ P Q e w q => ha F0 H0 F H σ δ _ _ e w fun d v F1 H1 w1 x1 r1 =>
  hr F0 H0 F1 H1 σ δ _ _ (e.on x1) w1 fun ds vs F2 H2 w2 x2 r2 => q (d :: ds) (v :: vs) F2 H2 w2 (x1.trans x2) ⟨v, vs, rfl, r1.mono x2.hh, r2⟩
theorem sAF_cons (ha : SimF K ta Ea) (hr : SimAF K a As) : SimAF K (tCons ta a) (dCons Ea As) := fun F0 H0 F H σ δ P Q e w q => ha F0 H0 F H σ δ _ _ e w fun d v F1 H1 w1 x1 r1 =>
  hr F0 H0 F1 H1 σ δ _ _ (e.on x1) w1 fun ds vs F2 H2 w2 x2 r2 => q (d :: ds) (v :: vs) F2 H2 w2 (x1.trans x2) ⟨v, vs, rfl, r1.mono x2.ff, r2⟩
def dNilO : DAO := fun _ P => P []
def dConsO (Ea : DO) (As : DAO) : DAO := fun δ P => Ea δ fun d => As δ fun ds => P (d :: ds)
theorem sAO_nil : SimAO K tNil dNilO := fun F0 H0 F H σ δ P Q e w q => q [] [] F H w (Ext.refl e.ext.fh) ⟨[], ⟨rfl, rfl⟩, List.nodup_nil, fun _ h => by cases h⟩
theorem sAO_cons {Eo : DO} {Ao : DAO} (ha : SimO K ta Eo) (hr : SimAO K a Ao) : SimAO K (tCons ta a) (dConsO Eo Ao) := fun F0 H0 F H σ δ P Q e w q => ha F0 H0 F H σ δ _ _ e w fun d v F1 H1 w1 x1 r1 =>
  hr F0 H0 F1 H1 σ δ _ _ (e.on x1) w1 fun ds vs F2 H2 w2 x2 r2 => q (d :: ds) (v :: vs) F2 H2 w2 (x1.trans x2) (by
    obtain ⟨A, a1, a2, a3⟩ := r1
    obtain ⟨B, b1, b2, b3⟩ := r2
    refine ⟨A ++ B, ⟨v, vs, A, B, rfl, rfl, a1.frame x2.ff fun a _ xs e => x2.hh _ _ e, b1⟩, List.nodup_append.mpr ⟨a2, b2, fun x hx y hy z => ?_⟩, fun z hz => ?_⟩
    · subst z
      obtain ⟨xs, hxs, _⟩ := a1.isl _ hx
      rw [(b3 _ hy).1] at hxs; cases hxs
    · rcases List.mem_append.mp hz with h | h
      · obtain ⟨xs, hxs, hxi⟩ := a1.isl _ h
        exact ⟨(a3 z h).1, x2.no z _ (a3 z h).2 hxs hxi⟩
      · exact ⟨x1.hh.free (b3 z h).1, (b3 z h).2⟩)
def dTup (As : DA) : DE := fun δ P => As δ fun ds => ds.length ≤ 1000000 ∧ P (.tup ds)
theorem sz_le {n : Nat} (h : n ≤ 1000000) : n ≤ sizeLine := by rw [sizeLine_eq]; omega
theorem sz_lt {n : Nat} (h : n < 1000000) : n < sizeLine := by rw [sizeLine_eq]; omega
theorem Ext.new {F H H' : Hp} {p : Addr} {o : HO} (s : Same F H) (hp : H p = none) (hs : Same H H') (h : H' p = some o) : Ext F H (upd F p o) H' := by
  refine ⟨fun b u e => ?_, hs, fun b u e => ?_, fun b u e1 e2 e3 => ?_⟩
  · rw [upd_ne fun z => by rw [z, s.free hp] at e; cases e]; exact e
  · by_cases hb : b = p
    · subst hb; rw [upd_same] at e; rw [← e]; exact h
    · rw [upd_ne hb] at e; exact hs _ _ (s _ _ e)
  · rw [upd_ne fun z => by rw [z, hp] at e2; cases e2]; exact e1
theorem Same.upd' {F : Hp} {p : Addr} {o : HO} (h : F p = none) : Same F (upd F p o) := Same.new h
theorem sF_tup (h : SimAF K a As) : SimF K (tTupS a) (dTup As) := fun F0 H0 F H σ δ P Q e w q => h F0 H0 F H σ δ _ _ e w fun ds vs F1 H1 w1 x1 r1 => by
  have hl := r1.length
  refine ⟨sz_le (by omega), fun p H' hp hs he => ?_⟩
  exact q _ _ _ H' w1.2 (x1.trans (Ext.new x1.fh hp hs he)) ⟨p, vs, rfl, .inl (.inl upd_same), r1.mono (Same.upd' (x1.fh.free hp))⟩
def dLst (As : DAO) : DO := fun δ P => As δ fun ts => ts.length ≤ 1000000 ∧ P (.nl ts)
theorem sO_lst {Ao : DAO} (h : SimAO K a Ao) : SimO K (tLstS a) (dLst Ao) := fun F0 H0 F H σ δ P Q e w q => h F0 H0 F H σ δ _ _ e w fun ts vs F1 H1 w1 x1 r1 => by
  obtain ⟨A, a1, a2, a3⟩ := r1
  have hl := a1.length
  refine ⟨sz_le (by omega), fun p H' hp hs he => ?_⟩
  refine q _ _ F1 H' w1.2 (x1.trans ⟨Same.refl _, hs, x1.fh.trans hs, fun _ _ z _ _ => z⟩) ⟨p :: A, ⟨p, vs, A, rfl, rfl, he, a1.frame (Same.refl _) fun b _ xs z => hs _ _ z⟩, List.nodup_cons.mpr ⟨fun z => ?_, a2⟩, fun b hb => ?_⟩
  · obtain ⟨xs, z, _⟩ := a1.isl p z
    rw [hp] at z; cases z
  · rcases List.mem_cons.mp hb with rfl | hb
    · exact ⟨x1.hh.free hp, x1.fh.free hp⟩
    · exact a3 b hb
end
end
end L2

namespace L2
open PySem PySem.Spec PyProof.Rows
section
variable {K : PySem.W.Frag} {t ta tb tc : TE} {E Ea Eb Ec : DE} {a : TA} {As : DA} {Ao : DAO}
theorem Reps.atI {F : Hp} {ds : List D} {vs : List V} {i : Int} {d : D} (h : Reps K F ds vs) (e : L2.atI ds i = some d) : ∃ v, L2.atI vs i = some v ∧ Rep K F d v := by
  unfold L2.atI at e ⊢
  rw [h.length] at e
  cases q : ixN vs.length i with
  | none => rw [q] at e; cases e
  | some j =>
    rw [q] at e
    exact h.get e
def ixL : DR2 := fun x y P => match x, y with
  | .lst ds, .int i => ∃ d, atI ds i = some d ∧ P d
  | _, _ => False
def ixT : DR2 := fun x y P => match x, y with
  | .tup ds, .int i => ∃ d, atI ds i = some d ∧ P d
  | _, _ => False
def ixS : DR2 := fun x y P => match x, y with
  | .str z, .int i => z.length ≤ 1000000 ∧ ∃ c, atI z.cps.toList i = some c ∧ P (.str ⟨#[c]⟩)
  | _, _ => False
def OpF (K : PySem.W.Frag) (R : R2) (r : DR2) : Prop := ∀ F H x y v u P Q, Same F H → Rep K F x v → Rep K F y u → r x y P → (∀ d w, P d → Rep K F d w → Q w H) → R v u H Q
theorem OpF.b {R : R2} {r : DR2} (h : OpF K R r) : OpB K R r := fun H x y v u P Q rx ry w q => h H H x y v u P Q (Same.refl _) rx ry w q
theorem sF_opF {R : R2} {r : DR2} (h : OpF K R r) (ha : SimF K ta Ea) (hb : SimF K tb Eb) : SimF K (tOp R ta tb) (dOp r Ea Eb) := fun F0 H0 F H σ δ P Q e w q =>
  ha F0 H0 F H σ δ _ _ e w fun x v F1 H1 w1 x1 r1 => hb F0 H0 F1 H1 σ δ _ _ (e.on x1) w1 fun y u F2 H2 w2 x2 r2 =>
    h F2 H2 x y v u P _ x2.fh (r1.mono x2.ff) r2 w2 fun d w p r' => q d w F2 H2 p (x1.trans x2) r'
theorem oF_ixL : OpF K (rIxL K) ixL := fun F H x y v u P Q s rx ry w q => by
  unfold ixL at w
  split at w
  · obtain ⟨d, e, w⟩ := w
    obtain ⟨p, vs, rfl, h1, h2⟩ := rx
    obtain ⟨v', e', r⟩ := h2.atI e
    exact ⟨p, vs, _, v', rfl, ry, s.seq h1, e', q d v' w r⟩
  · exact w.elim
theorem oF_ixT : OpF K (rIxT K) ixT := fun F H x y v u P Q s rx ry w q => by
  unfold ixT at w
  split at w
  · obtain ⟨d, e, w⟩ := w
    obtain ⟨p, vs, rfl, h1, h2⟩ := rx
    obtain ⟨v', e', r⟩ := h2.atI e
    exact ⟨p, vs, _, v', rfl, ry, s.seqT h1, e', q d v' w r⟩
  · exact w.elim
def CbS (K : PySem.W.Frag) (R : List V → Hp → VK → Prop) (r : List D → (D → Prop) → Prop) : Prop := ∀ F H ds vs P Q, Same F H → Reps K H ds vs → r ds P → (∀ d w F' H', P d → Ext F H F' H' → Rep K F' d w → Q w H') → R vs H Q
def CbO (K : PySem.W.Frag) (R : List V → Hp → VK → Prop) (r : List D → (OV → Prop) → Prop) : Prop := ∀ F H ds vs P Q, Same F H → Reps K F ds vs → r ds P → (∀ o w F' H', P o → Ext F H F' H' → RepN K H F' H' o w → Q w H') → R vs H Q
def dCB (r : List D → (D → Prop) → Prop) (As : DA) : DE := fun δ P => As δ fun ds => r ds P
def dCBo (r : List D → (OV → Prop) → Prop) (As : DA) : DO := fun δ P => As δ fun ds => r ds P
theorem sF_cb {R : List V → Hp → VK → Prop} {r : List D → (D → Prop) → Prop} (h : CbS K R r) (ha : SimAB K a As) : SimF K (tCB R a) (dCB r As) := fun F0 H0 F H σ δ P Q e w q =>
  ha F0 H0 F H σ δ _ _ e w fun ds vs F1 H1 w1 x1 r1 => h F1 H1 ds vs P _ x1.fh r1 w1 fun d w F' H' p x' r' => q d w F' H' p (x1.trans x') r'
theorem sO_cb {R : List V → Hp → VK → Prop} {r : List D → (OV → Prop) → Prop} (h : CbO K R r) (ha : SimAF K a As) : SimO K (tCB R a) (dCBo r As) := fun F0 H0 F H σ δ P Q e w q =>
  ha F0 H0 F H σ δ _ _ e w fun ds vs F1 H1 w1 x1 r1 => h F1 H1 ds vs P _ x1.fh r1 w1 fun d w F' H' p x' r' => q d w F' H' p (x1.trans x') (r'.old x1.hh)
theorem reps1 {F : Hp} {d : D} {vs : List V} (h : Reps K F [d] vs) : ∃ v, vs = [v] ∧ Rep K F d v := by
  obtain ⟨v, r, rfl, h1, h2⟩ := h
  exact ⟨v, by rw [show r = [] from h2], h1⟩
theorem reps2 {F : Hp} {d d' : D} {vs : List V} (h : Reps K F [d, d'] vs) : ∃ v u, vs = [v, u] ∧ Rep K F d v ∧ Rep K F d' u := by
  obtain ⟨v, r, rfl, h1, h2⟩ := h
  obtain ⟨u, rfl, h3⟩ := reps1 h2
  exact ⟨v, u, rfl, h1, h3⟩
def lenD : List D → (D → Prop) → Prop := fun ds P => match ds with
  | [.lst xs] => P (.int xs.length)
  | [.tup xs] => P (.int xs.length)
  | _ => False
def lenS : List D → (D → Prop) → Prop := fun ds P => match ds with
  | [.str x] => x.length ≤ 1000000 ∧ P (.int x.length)
  | _ => False
theorem cS_len : CbS K (fun xs H Q => ∃ p ys, xs = [.ref p] ∧ (SqL K H p ys ∨ SqT K H p ys) ∧ Q (.int ys.length) H) lenD := fun F H ds vs P Q s rs w q => by
  unfold lenD at w
  split at w
  · obtain ⟨v, rfl, p, us, rfl, h1, h2⟩ := reps1 rs
    exact ⟨p, us, rfl, .inl h1, by rw [← h2.length]; exact q _ _ F H w (Ext.refl s) rfl⟩
  · obtain ⟨v, rfl, p, us, rfl, h1, h2⟩ := reps1 rs
    exact ⟨p, us, rfl, .inr h1, by rw [← h2.length]; exact q _ _ F H w (Ext.refl s) rfl⟩
  · exact w.elim
theorem cS_lenS : CbS K (fun xs H Q => ∃ z, xs = [.str z] ∧ z.length ≤ sizeLine ∧ Q (.int z.length) H) lenS := fun F H ds vs P Q s rs w q => by
  unfold lenS at w
  split at w
  · obtain ⟨v, rfl, r⟩ := reps1 rs
    exact ⟨_, by rw [show v = _ from r], sz_le w.1, q _ _ F H w.2 (Ext.refl s) rfl⟩
  · exact w.elim
def max2 : List D → (D → Prop) → Prop := fun ds P => match ds with
  | [.int i, .int j] => P (.int (max i j))
  | _ => False
def min2 : List D → (D → Prop) → Prop := fun ds P => match ds with
  | [.int i, .int j] => P (.int (min i j))
  | _ => False
theorem cS_min2 : CbS K (fun xs H Q => ∃ i j, xs = [.int i, .int j] ∧ Q (.int (if j < i then j else i)) H) min2 := fun F H ds vs P Q s rs w q => by
  unfold min2 at w
  split at w
  · rename_i i j
    obtain ⟨v, u, rfl, r1, r2⟩ := reps2 rs
    refine ⟨i, j, by rw [show v = _ from r1, show u = _ from r2], ?_⟩
    rw [show (if j < i then j else i) = min i j by split <;> omega]
    exact q _ _ F H w (Ext.refl s) rfl
  · exact w.elim
def intD : List D → (D → Prop) → Prop := fun ds P => match ds with
  | [.int i] => P (.int i)
  | [.bl b] => P (.int (if b then 1 else 0))
  | _ => False
def absD : List D → (D → Prop) → Prop := fun ds P => match ds with
  | [.int i] => P (.int i.natAbs)
  | _ => False
def listD : List D → (OV → Prop) → Prop := fun ds P => match ds with
  | [.lst xs] => P (.nl (xs.map .fz))
  | [.tup xs] => P (.nl (xs.map .fz))
  | _ => False
theorem RepN.list {H F' H' : Hp} {l : Addr} {ds : List D} {vs : List V} (h0 : H l = none) (f0 : F' l = none) (h : H' l = some (.lst vs)) (r : Reps K F' ds vs) : RepN K H F' H' (.nl (ds.map .fz)) (.ref l) :=
  ⟨[l], ⟨l, vs, [], rfl, rfl, h, RepOs.fzs r⟩, by simp, fun a ha => by
    have e : a = l := by simpa using ha
    rw [e]; exact ⟨h0, f0⟩⟩
theorem Ext.grow {F H H' : Hp} (s : Same F H) (h : Same H H') : Ext F H F H' := ⟨Same.refl _, h, s.trans h, fun _ _ z _ _ => z⟩
def dListB (As : DA) : DO := fun δ P => As δ fun ds => match ds with
  | [.lst xs] => D.lfs xs = true ∧ P (.nl (xs.map .fz))
  | [.tup xs] => D.lfs xs = true ∧ P (.nl (xs.map .fz))
  | _ => False
def tupD : List D → (OV → Prop) → Prop := fun ds P => match ds with
  | [.lst xs] => P (.fz (.tup xs))
  | _ => False
abbrev DPt := Dst → (Option Int → Prop) → Prop
def SimP (K : PySem.W.Frag) (t : TO) (E : DPt) : Prop := ∀ F0 H0 F H σ δ P Q, EnvR K F0 H0 F H σ δ → E δ P → (∀ o F' H', P o → Ext F H F' H' → Q o H') → t σ H Q
def dNoPt : DPt := fun _ P => P none
def dPt (E : DE) : DPt := fun δ P => E δ fun d => match d with
  | .int i => P (some i)
  | _ => False
theorem sP_no : SimP K tNoPart dNoPt := fun F0 H0 F H σ δ P Q e w q => q none F H w (Ext.refl e.ext.fh)
theorem sP_pt (h : SimB K t E) : SimP K (tPart t) (dPt E) := fun F0 H0 F H σ δ P Q e w q => h F0 H0 F H σ δ _ _ e w fun d v F1 H1 w1 x1 r1 => by
  try dsimp only at w1
  split at w1
  · exact ⟨_, r1, q _ F1 H1 w1 x1⟩
  · exact w1.elim
def cutD (xs : List D) (lo hi : Option Int) : List D := (xs.drop (HT.sIx xs.length 0 lo)).take (HT.sIx xs.length xs.length hi - HT.sIx xs.length 0 lo)
theorem Reps.cut {F : Hp} {ds : List D} {vs : List V} (h : Reps K F ds vs) (lo hi : Option Int) : Reps K F (cutD ds lo hi) (cutV vs lo hi) := by
  unfold cutD cutV
  rw [h.length]
  exact (h.drop _).take _
def dSlL (Ea : DE) (L U : DPt) : DO := fun δ P => Ea δ fun x => L δ fun lo => U δ fun hi => match x with
  | .lst xs => P (.nl ((cutD xs lo hi).map .fz))
  | _ => False
theorem sO_slL {tl tu : TO} {L U : DPt} (ha : SimF K ta Ea) (hl : SimP K tl L) (hu : SimP K tu U) : SimO K (tSl (rSlS K) ta tl tu) (dSlL Ea L U) := fun F0 H0 F H σ δ P Q e w q =>
  ha F0 H0 F H σ δ _ _ e w fun x v F1 H1 w1 x1 r1 => hl F0 H0 F1 H1 σ δ _ _ (e.on x1) w1 fun lo F2 H2 w2 x2 => hu F0 H0 F2 H2 σ δ _ _ ((e.on x1).on x2) w2 fun hi F3 H3 w3 x3 => by
    have x13 := x1.trans (x2.trans x3)
    try dsimp only at w3
    split at w3
    · obtain ⟨p, vs, rfl, h1, h2⟩ := r1.mono (x2.ff.trans x3.ff)
      exact ⟨p, vs, rfl, x3.fh.seq h1, fun l H' l0 sm l1 => q _ _ F3 H' w3 (x13.trans (Ext.grow x3.fh sm)) (RepN.list (x13.hh.free l0) (x3.fh.free l0) l1 (h2.cut lo hi))⟩
    · exact w3.elim
mutual
def OV.lf : OV → Bool
  | .fz d => d.lf
  | .nl ts => OV.lfs ts
  | .rt _ ts => OV.lfs ts
  | .fx _ d => d.lf
  | .ob _ _ _ ts => OV.lfs ts
def OV.lfs : List OV → Bool
  | [] => true
  | t :: ts => t.lf && OV.lfs ts
end
theorem OV.lfs_eq : ∀ (ts : List OV), OV.lfs ts = ts.all OV.lf
  | [] => rfl
  | d :: ds => by simp [OV.lfs, OV.lfs_eq ds]
mutual
theorem RepO.lf {F F' H' : Hp} (s : Same F F') : ∀ {t : OV} {v : V} {A : List Addr}, RepO K F' H' t v A → t.lf = true → RepO K (frzT F F') H' t v A
  | .fz d, v, A, h, z => ⟨h.1, Rep.lf s h.2 (by simpa [OV.lf] using z)⟩
  | .nl ts, v, A, h, z => by
    obtain ⟨a, vs, B, e, e2, h1, h2⟩ := h
    exact ⟨a, vs, B, e, e2, h1, RepOs.lf s h2 (by simpa [OV.lf] using z)⟩
  | .fx u d, v, A, h, z => ⟨h.1, h.2.1, Rep.lf s h.2.2 (by simpa [OV.lf] using z)⟩
  | .rt a ts, v, A, h, z => by
    obtain ⟨vs, B, e, e2, h1, h2⟩ := h
    exact ⟨vs, B, e, e2, h1, RepOs.lf s h2 (by simpa [OV.lf] using z)⟩
  | .ob o c ns ts, v, A, h, z => by
    obtain ⟨a, C, dx, vs, B, e, e2, h0, ho, h1, h2, hl, h3⟩ := h
    exact ⟨a, C, dx, vs, B, e, e2, h0, ho, h1, h2, hl, RepOs.lf s h3 (by simpa [OV.lf] using z)⟩
theorem RepOs.lf {F F' H' : Hp} (s : Same F F') : ∀ {ts : List OV} {vs : List V} {A : List Addr}, RepOs K F' H' ts vs A → OV.lfs ts = true → RepOs K (frzT F F') H' ts vs A
  | [], _, _, h, _ => h
  | t :: ts, vs, A, h, z => by
    obtain ⟨v, r, B, C, e1, e2, h1, h2⟩ := h
    simp [OV.lfs] at z
    exact ⟨v, r, B, C, e1, e2, RepO.lf s h1 z.1, RepOs.lf s h2 z.2⟩
end
abbrev DSp := List D → (OV → Prop) → Prop
def spV (K : PySem.W.Frag) (n : Nat) (sp : DSp) : Sp := spL n fun vs H Q => ∃ F ds P, Same F H ∧ Reps K F ds vs ∧ sp ds P ∧ ∀ r v F' H', P r → Ext F H F' H' → RepN K H F' H' r v → Q v H'
def dCall (n : Nat) (sp : DSp) (As : DA) : DO := fun δ P => As δ fun ds => ds.length = n ∧ sp ds P
def dCallB (n : Nat) (sp : DSp) (As : DA) : DO := fun δ P => As δ fun ds => ds.length = n ∧ sp ds fun r => r.lf = true ∧ P r
theorem sO_call {n : Nat} {sp : DSp} (ha : SimAF K a As) : SimO K (tCall (spV K n sp) [] E0 a) (dCall n sp As) := fun F0 H0 F H σ δ P Q e w q => ha F0 H0 F H σ δ _ _ e w fun ds vs F1 H1 w1 x1 r1 => by
  rw [List.append_nil]
  exact ⟨by rw [← r1.length]; exact w1.1, F1, ds, P, x1.fh, r1, w1.2, fun r v F' H' p x' r' => q r v F' H' p (x1.trans x') (r'.old x1.hh)⟩
theorem sO_callB {n : Nat} {sp : DSp} (ha : SimAB K a As) : SimO K (tCall (spV K n sp) [] E0 a) (dCallB n sp As) := fun F0 H0 F H σ δ P Q e w q => ha F0 H0 F H σ δ _ _ e w fun ds vs F1 H1 w1 x1 r1 => by
  rw [List.append_nil]
  refine ⟨by rw [← r1.length]; exact w1.1, H1, ds, _, Same.refl _, r1, w1.2, fun r v F' H' p x' r' => ?_⟩
  have s1 : Same F1 F' := x1.fh.trans x'.ff
  have x2 := frzT_ext s1
  obtain ⟨A, a1, a2, a3⟩ := r'
  refine q r v (frzT F1 F') H' p.2 (x1.trans ⟨x2.ff, x'.hh, x2.fh.trans x'.fh, fun b o z1 z2 z3 => ?_⟩) ⟨A, a1.lf s1 p.1, a2, fun b hb => ⟨x1.hh.free (a3 b hb).1, x2.fh.free (a3 b hb).2⟩⟩
  exact x2.no b o z1 (x'.ff _ _ z2) z3
end
end L2

namespace L2
open PySem PySem.Spec PyProof.Rows
section
variable {K : PySem.W.Frag} {te ti ta : TE} {E Ea Ei : DE} {Eo : DO} {t u : TS} {T U : DS}
def sNext : DS := fun De δ => De.nx δ
def sSeq (T U : DS) : DS := fun De δ => T { De with nx := U De } δ
theorem sS_next : SimS K tNext sNext := fun F0 H0 F H σ δ De E e l w => l.nx F H σ δ e w
theorem sS_seq (h : SimS K t T) (g : SimS K u U) : SimS K (tSeq t u) (sSeq T U) := fun F0 H0 F H σ δ De E e l w =>
  h F0 H0 F H σ δ { De with nx := U De } _ e ⟨fun F1 H1 σ1 δ1 e1 w1 => g F0 H0 F1 H1 σ1 δ1 De E e1 l w1, l.bk, l.ct, l.rt⟩ w
def sBreak : DS := fun De δ => De.bk δ
def sCont : DS := fun De δ => De.ct δ
theorem sS_break : SimS K tBreak sBreak := fun F0 H0 F H σ δ De E e l w => l.bk F H σ δ e w
def sDrop (E : DE) : DS := fun De δ => E δ fun _ => De.nx δ
def sRet (E : DO) : DS := fun De δ => E δ De.rt
theorem sS_ret (h : SimO K te Eo) : SimS K (tRet te) (sRet Eo) := fun F0 H0 F H σ δ De En e l w => h F0 H0 F H σ δ _ _ e w fun r v F' H' p x n => l.rt F' H' r v (e.ext.trans x) (n.old e.ext.hh) p
def sRetN : DS := fun De δ => De.rt (.fz .non)
def sRetV (i : Nat) : DS := fun De δ => match δ[i]? with
  | some (some (.own t)) => De.rt t
  | _ => False
theorem sS_retV {i : Nat} : SimS K (tRet (tVar i)) (sRetV i) := fun F0 H0 F H σ δ De En ⟨A, e⟩ l w => by
  unfold sRetV at w
  split at w
  · rename_i t ht
    obtain ⟨v, h1, h2⟩ := e.own i t ht
    exact ⟨v, h1, l.rt F H t v e.ext ⟨A i, h2, e.nod i, fun a ha => ⟨(e.new i a ha).2.1, (e.new i a ha).1⟩⟩ w⟩
  · exact w.elim
def sIf (C : DT) (T U : DS) : DS := fun De δ => C δ fun b => if b = true then T De δ else U De δ
theorem sS_if {c : TT} {C : DT} (h : SimT K c C) (ht : SimS K t T) (hu : SimS K u U) : SimS K (tIfS c t u) (sIf C T U) := fun F0 H0 F H σ δ De En e l w => h F0 H0 F H σ δ _ _ e w fun b F' H' p x => by
  cases b with
  | true => exact iteT (ht F0 H0 F' H' σ δ De En (e.on x) l p)
  | false => exact iteB rfl (hu F0 H0 F' H' σ δ De En (e.on x) l p)
def sSet (i : Nat) (E : DO) : DS := fun De δ => E δ fun r => De.nx (δ.set i (some (.own r)))
theorem sS_set {i : Nat} (h : SimO K te Eo) : SimS K (tAsg te (gName i)) (sSet i Eo) := fun F0 H0 F H σ δ De En e l w => h F0 H0 F H σ δ _ _ e w fun r v F' H' p x n => l.nx F' H' _ _ (e.put x i n) p
def sAug (i : Nat) (r : DR2) (E : DE) : DS := fun De δ => dV i δ fun x => E δ fun y => r x y fun z => De.nx (δ.set i (some (.own (.fz z))))
theorem sS_aug {i : Nat} {R : R2} {r : DR2} (ho : OpS K R r) (h : SimB K te E) : SimS K (tAug i te R) (sAug i r E) := fun F0 H0 F H σ δ De En e l w => by
  obtain ⟨v, hv, w⟩ := sF_var (i := i) F0 H0 F H σ δ _ (fun v H' => te σ H' fun y H1 => R v y H1 fun z H2 => En.nx (σ.set i (some z)) H2) e w fun d v F1 H1 p x1 r1 => by
    exact h F0 H0 F1 H1 σ δ _ _ (e.on x1) p fun y u F2 H2 p2 x2 r2 => ho F2 H2 d y v u _ _ x2.fh (r1.mono (x1.fh.trans x2.hh |> fun s => s)) r2 p2 fun z w F3 H3 p3 x3 r3 => l.nx F3 H3 _ _ (((e.on x1).on x2).put x3 i (.fz r3)) p3
  exact ⟨v, hv, w⟩
def gN (i : Nat) : D → Dst → (Dst → Prop) → Prop := fun d δ P => P (δ.set i (some (.own (.fz d))))
theorem sG_name {i : Nat} : SimG K (gName i) (gN i) := fun F0 H0 F H σ δ A d v P Q e r w q => q _ _ _ w (e.putFz i r) fun j a ha => by
  try dsimp only at ha
  split at ha
  · cases ha
  · exact ha
def gsNil : List D → Dst → (Dst → Prop) → Prop := fun ds δ P => match ds with
  | [] => P δ
  | _ => False
def gsCons (G : D → Dst → (Dst → Prop) → Prop) (Gs : List D → Dst → (Dst → Prop) → Prop) : List D → Dst → (Dst → Prop) → Prop := fun ds δ P => match ds with
  | d :: r => G d δ fun δ' => Gs r δ' P
  | _ => False
theorem sGs_nil : SimGs K gNil gsNil := fun F0 H0 F H σ δ A ds vs P Q e r w q => by
  unfold gsNil at w
  split at w
  · exact ⟨r, q _ _ A w e fun _ _ z => z⟩
  · exact w.elim
theorem sGs_cons {g : TG} {gs : TGs} {G : D → Dst → (Dst → Prop) → Prop} {Gs : List D → Dst → (Dst → Prop) → Prop} (h : SimG K g G) (hs : SimGs K gs Gs) : SimGs K (gCons g gs) (gsCons G Gs) := fun F0 H0 F H σ δ A ds vs P Q e r w q => by
  unfold gsCons at w
  split at w
  · obtain ⟨v, r', rfl, h1, h2⟩ := r
    exact ⟨v, r', rfl, h F0 H0 F H σ δ A _ v _ _ e h1 w fun σ' δ' A' w' e' sb => hs F0 H0 F H σ' δ' A' _ r' P Q e' h2 w' fun σ2 δ2 A2 w2 e2 sb2 => q σ2 δ2 A2 w2 e2 fun i a z => sb i a (sb2 i a z)⟩
  · exact w.elim
def gT (n : Nat) (Gs : List D → Dst → (Dst → Prop) → Prop) : D → Dst → (Dst → Prop) → Prop := fun d δ P => match d with
  | .tup ds => ds.length = n ∧ Gs ds δ P
  | _ => False
theorem sG_tup {n : Nat} {gs : TGs} {Gs : List D → Dst → (Dst → Prop) → Prop} (hs : SimGs K gs Gs) : SimG K (gTup K n gs) (gT n Gs) := fun F0 H0 F H σ δ A d v P Q e r w q => by
  unfold gT at w
  split at w
  · obtain ⟨a, vs, rfl, h1, h2⟩ := r
    exact ⟨a, vs, rfl, e.ext.fh.seqT h1, by rw [← h2.length]; exact w.1, hs F0 H0 F H σ δ A _ vs P Q e h2 w.2 q⟩
  · exact w.elim
def sAsg (E : DE) (G : D → Dst → (Dst → Prop) → Prop) : DS := fun De δ => E δ fun d => G d δ De.nx
theorem ER.change {F0 H0 F H H' : Hp} {σ : St} {δ : Dst} {A : Nat → List Addr} (e : ER K F0 H0 F H σ δ A) (i : Nat) {t' : OV} {v : V} {B : List Addr} (hv : σ[i]? = some (some v)) (hr : RepO K F H' t' v B) (hB : B.Nodup)
    (hBn : ∀ b ∈ B, F b = none ∧ H0 b = none) (dj : ∀ j, j ≠ i → ∀ b ∈ B, b ∉ A j) (keep : ∀ b o, b ∉ A i → H b = some o → H' b = some o) : EnvR K F0 H0 F H' σ (δ.set i (some (.own t'))) := by
  have hi : i < δ.length := by rw [← e.len]; exact (List.getElem?_eq_some_iff.mp hv).1
  refine ⟨fun j => if j = i then B else A j, by simp [e.len], ⟨e.ext.ff, fun b o h => ?_, fun b o h => ?_, e.ext.no⟩, fun j t hj => ?_, fun j d hj => ?_, fun j => ?_, fun j k a hjk h1 h2 => ?_, fun j a ha => ?_⟩
  · exact keep b o (fun z => by rw [(e.new i b z).2.1] at h; cases h) (e.ext.hh _ _ h)
  · exact keep b o (fun z => by rw [(e.new i b z).1] at h; cases h) (e.ext.fh _ _ h)
  · try dsimp only
    by_cases z : j = i
    · subst z
      rw [if_pos rfl]
      rw [List.getElem?_set_self hi] at hj
      cases hj
      exact ⟨v, hv, hr⟩
    · rw [if_neg z]
      rw [List.getElem?_set_ne (Ne.symm z)] at hj
      obtain ⟨u, h1, h2⟩ := e.own j t hj
      exact ⟨u, h1, h2.frame (Same.refl _) fun a ha xs h => keep a _ (e.dis j i a z ha) h⟩
  · by_cases z : j = i
    · subst z
      rw [List.getElem?_set_self hi] at hj
      cases hj
    · rw [List.getElem?_set_ne (Ne.symm z)] at hj
      exact e.bw j d hj
  · try dsimp only
    split
    · exact hB
    · exact e.nod j
  · try dsimp only at h1 h2
    split at h1
    · split at h2
      · omega
      · rename_i z1 z2
        exact dj k z2 a h1 h2
    · split at h2
      · rename_i z1 z2
        exact dj j z1 a h2 h1
      · exact e.dis j k a hjk h1 h2
  · try dsimp only at ha
    split at ha
    · exact ⟨(hBn a ha).1, (hBn a ha).2, hr.isl a ha⟩
    · rename_i z
      obtain ⟨h1, h2, xs, h3, himm⟩ := e.new j a ha
      exact ⟨h1, h2, xs, keep a _ (e.dis j i a z ha) h3, himm⟩
def sApp (i : Nat) (E : DO) : DS := fun De δ => match δ[i]? with
  | some (some (.own (.nl ts))) => ts.length < 1000000 ∧ E δ fun r => De.nx (δ.set i (some (.own (.nl (ts ++ [r])))))
  | _ => False
theorem upd_off {H : Hp} {a b : Addr} {o o' : HO} (h : b ≠ a) (e : H b = some o') : upd H a o b = some o' := by rw [upd_ne h]; exact e
def sPut (i : Nat) (Ei : DE) (E : DO) : DS := fun De δ => E δ fun r => match δ[i]? with
  | some (some (.own (.nl ts))) => Ei δ fun k => match k with
    | .int k => ∃ j, ixN ts.length k = some j ∧ De.nx (δ.set i (some (.own (.nl (ts.set j r)))))
    | _ => False
  | _ => False
def sAugI (i : Nat) (g : Int → Int → Int) (Ei E : DE) : DS := fun De δ => match δ[i]? with
  | some (some (.own (.nl ts))) => Ei δ fun k => match k with
    | .int k => 0 ≤ k ∧ ∃ x, ts[k.toNat]? = some (.fz (.int x)) ∧ E δ fun y => match y with
      | .int y => De.nx (δ.set i (some (.own (.nl (ts.set k.toNat (.fz (.int (g x y))))))))
      | _ => False
    | _ => False
  | _ => False
end
end L2

namespace L2
open PySem PySem.Spec PyProof.Rows
section
variable {K : PySem.W.Frag} {te ti ta tl : TE} {E Ea Ei El : DE} {Eo : DO} {t u : TS} {T U : DS} {a : TA} {As : DA}
theorem ER.rebase {F0 H0 F H : Hp} {σ : St} {δ : Dst} {A : Nat → List Addr} (e : ER K F0 H0 F H σ δ A) : ER K F H0 F H σ δ A := ⟨e.len, ⟨Same.refl _, e.ext.hh, e.ext.fh, fun _ _ z _ _ => z⟩, e.own, e.bw, e.nod, e.dis, e.new⟩
theorem EnvR.rebase {F0 H0 F H : Hp} {σ : St} {δ : Dst} (e : EnvR K F0 H0 F H σ δ) : EnvR K F H0 F H σ δ := let ⟨A, e⟩ := e; ⟨A, e.rebase⟩
theorem Ext.unbase {F0 H0 F1 H1 F H : Hp} (x : Ext F0 H0 F1 H1) (y : Ext F1 H0 F H) : Ext F0 H0 F H := ⟨x.ff.trans y.ff, y.hh, y.fh, fun a o z1 z2 z3 => y.no a o (x.no a o z1 z2 z3) z2 z3⟩
theorem EnvR.unbase {F0 H0 F1 H1 F H : Hp} {σ : St} {δ : Dst} (x : Ext F0 H0 F1 H1) (e : EnvR K F1 H0 F H σ δ) : EnvR K F0 H0 F H σ δ := let ⟨A, e⟩ := e; ⟨A, e.len, x.unbase e.ext, e.own, e.bw, e.nod, e.dis, e.new⟩
def ItR (K : PySem.W.Frag) (F : Hp) (J : It) (ds : List D) : Prop := ∀ F1 H1, Same F F1 → Same F1 H1 → (∀ i, i < ds.length → J.go i H1) ∧ J.stop ds.length H1 ∧ ∀ i x H2, i < ds.length → J.yld i H1 x H2 → ∃ d F2, ds[i]? = some d ∧ Ext F1 H1 F2 H2 ∧ Rep K F2 d x
def SimI (K : PySem.W.Frag) (wi : TI) (I : DA) : Prop := ∀ F0 H0 F H σ δ P R, EnvR K F0 H0 F H σ δ → I δ P → (∀ ds J F' H', P ds → Ext F H F' H' → ItR K F' J ds → R J H') → wi σ H R
def ForW (G : D → Dst → (Dst → Prop) → Prop) (T : DS) (De : DEnds) (ds : List D) (δ : Dst) : Prop := ∃ W : Nat → Dst → Prop, W 0 δ ∧
  (∀ i d δ, ds[i]? = some d → W i δ → G d δ fun δ' => T { nx := W (i + 1), ct := W (i + 1), bk := De.nx, rt := De.rt } δ') ∧ ∀ δ, W ds.length δ → De.nx δ
def sFor (I : DA) (G : D → Dst → (Dst → Prop) → Prop) (T : DS) : DS := fun De δ => I δ fun ds => ForW G T De ds δ
theorem sS_for {wi : TI} {I : DA} {g : TG} {G : D → Dst → (Dst → Prop) → Prop} (hi : SimI K wi I) (hg : SimG K g G) (ht : SimS K t T) : SimS K (tFor wi g t) (sFor I G T) := fun F0 H0 F H σ δ De En e l w =>
  hi F0 H0 F H σ δ _ _ e w fun ds J F1 H1 p x1 hJ => by
    have b1 := (e.on x1).ext
    obtain ⟨W, w0, ws, wd⟩ := p
    refine ⟨fun i m σ H => m = ds.length - i ∧ i ≤ ds.length ∧ ∃ F δ, EnvR K F1 H0 F H σ δ ∧ W i δ, ⟨ds.length, by simp, Nat.zero_le _, F1, δ, (e.on x1).rebase, w0⟩, ?_⟩
    rintro i m σ2 H2 ⟨rfl, hil, F2, δ2, ⟨A2, e2⟩, w2⟩
    obtain ⟨j1, j2, j3⟩ := hJ F2 H2 e2.ext.ff e2.ext.fh
    by_cases hlt : i < ds.length
    · refine .inr ⟨j1 i hlt, fun σ' H' => ∃ F δ, EnvR K F1 H0 F H' σ' δ ∧ W (i + 1) δ, fun σ' H' ⟨F3, δ3, e3, w3⟩ => ⟨ds.length - (i + 1), by omega, rfl, hlt, F3, δ3, e3, w3⟩, fun x H3 y => ?_⟩
      obtain ⟨d, F3, hd, x3, r3⟩ := j3 i x H3 hlt y
      refine hg F1 H0 F3 H3 σ2 δ2 A2 d x _ _ (e2.on x3) r3 (ws i d δ2 hd w2) fun σ4 δ4 A4 w4 e4 _ => ?_
      exact ht F1 H0 F3 H3 σ4 δ4 { nx := W (i + 1), ct := W (i + 1), bk := De.nx, rt := De.rt } _ ⟨A4, e4⟩ ⟨fun F5 H5 σ5 δ5 e5 w5 => ⟨F5, δ5, e5, w5⟩, fun F5 H5 σ5 δ5 e5 w5 => l.nx F5 H5 σ5 δ5 (e5.unbase b1) w5, fun F5 H5 σ5 δ5 e5 w5 => ⟨F5, δ5, e5, w5⟩, fun F5 H5 r v x5 n5 w5 => l.rt F5 H5 r v (b1.unbase x5) n5 w5⟩ w4
    · have hi' : i = ds.length := by omega
      subst hi'
      exact .inl ⟨j2, l.nx F2 H2 σ2 δ2 (EnvR.unbase b1 ⟨A2, e2⟩) (wd _ w2)⟩
def forR (G : D → Dst → (Dst → Prop) → Prop) (T : DS) (De : DEnds) : List D → Dst → Prop
  | [], δ => De.nx δ
  | d :: ds, δ => G d δ fun δ' => T { nx := forR G T De ds, ct := forR G T De ds, bk := De.nx, rt := De.rt } δ'
theorem forR.w {G : D → Dst → (Dst → Prop) → Prop} {T : DS} {De : DEnds} {ds : List D} {δ : Dst} (h : forR G T De ds δ) : ForW G T De ds δ := by
  refine ⟨fun i δ => forR G T De (ds.drop i) δ, by simpa using h, fun i d δ e w => ?_, fun δ w => ?_⟩
  · obtain ⟨hlt, e⟩ := List.getElem?_eq_some_iff.mp e
    have w' : forR G T De (ds.drop i) δ := w
    rw [List.drop_eq_getElem_cons hlt, e] at w'
    exact w'
  · have w' : forR G T De (ds.drop ds.length) δ := w
    rw [List.drop_length] at w'; exact w'
def dItL (El : DE) : DA := fun δ P => El δ fun d => match d with
  | .lst ds => P ds
  | _ => False
def dItT (El : DE) : DA := fun δ P => El δ fun d => match d with
  | .tup ds => P ds
  | _ => False
theorem sI_list (h : SimF K tl El) : SimI K (iList K tl) (dItL El) := fun F0 H0 F H σ δ P R e w q => h F0 H0 F H σ δ _ _ e w fun d v F' H' p x r => by
  try dsimp only at p
  split at p
  · obtain ⟨a, vs, rfl, h1, h2⟩ := r
    refine ⟨a, rfl, ⟨vs, x.fh.seq h1⟩, q _ _ F' H' p x fun F1 H1 s1 s2 => ?_⟩
    have hl := h2.length
    have hq := (s1.trans s2).seq h1
    refine ⟨fun i hi => ⟨vs, vs[i], hq, List.getElem?_eq_getElem (by omega)⟩, ⟨vs, hq, by omega⟩, fun i x H2 hi y => ?_⟩
    obtain ⟨rfl, y⟩ := y
    obtain ⟨d, hd, rd⟩ := h2.get' (y vs hq)
    exact ⟨d, F1, hd, Ext.refl s2, rd.mono s1⟩
  · exact p.elim
def rng (lo c : Int) (n : Nat) : List D := (List.range n).map fun (i : Nat) => D.int (lo + i * c)
theorem rng_len {lo c : Int} {n : Nat} : (rng lo c n).length = n := by simp [rng]
theorem rng_get {lo c : Int} {n i : Nat} (h : i < n) : (rng lo c n)[i]? = some (.int (lo + i * c)) := by simp [rng, h]
theorem rng_inv {lo c : Int} {n i : Nat} {d : D} (h : (rng lo c n)[i]? = some d) : i < n ∧ d = .int (lo + i * c) := by
  have hi : i < n := by
    have := (List.getElem?_eq_some_iff.mp h).1
    rwa [rng_len] at this
  rw [rng_get hi] at h
  exact ⟨hi, (Option.some.inj h).symm⟩
theorem itR_itr {F : Hp} {lo : Int} {n : Nat} : ItR K F (Itr lo n) (rng lo 1 n) := fun F1 H1 s1 s2 => by
  rw [rng_len]
  refine ⟨fun i hi => hi, Nat.le_refl _, fun i x H2 hi y => ?_⟩
  obtain ⟨rfl, rfl⟩ := y
  exact ⟨_, F1, rng_get hi, Ext.refl s2, by rw [Int.mul_one]; rfl⟩
def dRng1 (As : DA) : DA := fun δ P => As δ fun ds => match ds with
  | [.int j] => (-(2 ^ 62) ≤ j ∧ j < 2 ^ 62) ∧ P (rng 0 1 j.toNat)
  | _ => False
def dRng2 (As : DA) : DA := fun δ P => As δ fun ds => match ds with
  | [.int i, .int j] => (-(2 ^ 62) ≤ i ∧ i < 2 ^ 62 ∧ -(2 ^ 62) ≤ j ∧ j < 2 ^ 62) ∧ P (rng i 1 (j - i).toNat)
  | _ => False
def dRng3 (As : DA) : DA := fun δ P => As δ fun ds => match ds with
  | [.int i, .int j, .int c] => (-(2 ^ 61) ≤ i ∧ i < 2 ^ 61 ∧ -(2 ^ 61) ≤ j ∧ j < 2 ^ 61 ∧ 0 < c ∧ c < 2 ^ 29) ∧ P (rng i c (rngN i j c))
  | _ => False
theorem reps3 {F : Hp} {d d' d'' : D} {vs : List V} (h : Reps K F [d, d', d''] vs) : ∃ v u w, vs = [v, u, w] ∧ Rep K F d v ∧ Rep K F d' u ∧ Rep K F d'' w := by
  obtain ⟨v, r, rfl, h1, h2⟩ := h
  obtain ⟨u, w, rfl, h3, h4⟩ := reps2 h2
  exact ⟨v, u, w, rfl, h1, h3, h4⟩
theorem sI_rng1 (h : SimAB K a As) : SimI K (iRng1 a) (dRng1 As) := fun F0 H0 F H σ δ P R e w q => h F0 H0 F H σ δ _ _ e w fun ds vs F' H' p x r => by
  try dsimp only at p
  split at p
  · obtain ⟨v, rfl, r1⟩ := reps1 r
    exact ⟨_, by rw [show v = _ from r1], p.1.1, p.1.2, q _ _ F' H' p.2 x itR_itr⟩
  · exact p.elim
def dRev (As : DA) : DA := fun δ P => As δ fun ds => match ds with
  | [.tup xs] => P xs.reverse
  | _ => False
def blkD (ix : List (Option Nat)) (δ : Dst) : Dst := ix.map fun o => match o with
  | none => none
  | some i => match δ[i]? with
    | some (some (.own (.fz d))) => some (.own (.fz d))
    | some (some (.own (.fx _ d))) => some (.own (.fz d))
    | some (some (.own t)) => some (.bw t.val)
    | some (some (.bw d)) => some (.bw d)
    | _ => none
def CmpW (G : D → Dst → (Dst → Prop) → Prop) (Eo : DO) (ds : List D) (δ : Dst) (P : OV → Prop) : Prop := ∃ W : Nat → Dst → List OV → Prop, W 0 δ [] ∧
  (∀ i d δ ts, ds[i]? = some d → W i δ ts → ts.length < 1000000 ∧ G d δ fun δ' => Eo δ' fun r => W (i + 1) δ' (ts ++ [r])) ∧ ∀ δ ts, W ds.length δ ts → P (.nl ts)
def dComp (I : DA) (ix : List (Option Nat)) (G : D → Dst → (Dst → Prop) → Prop) (Eo : DO) : DO := fun δ P => I δ fun ds => CmpW G Eo ds (blkD ix δ) P
theorem ER.blk {F0 H0 F H H' : Hp} {σ : St} {δ : Dst} {A : Nat → List Addr} (e : ER K F0 H0 F H σ δ A) (ix : List (Option Nat)) (s : Same H H') : ER K F H F H' (blkσ ix σ) (blkD ix δ) (fun _ => []) := by
  have get : ∀ (j : Nat) (s : Sl), (blkD ix δ)[j]? = some (some s) → ∃ (i : Nat) (v : V), (blkσ ix σ)[j]? = some (some v) ∧ σ[i]? = some (some v) ∧ ((∃ d, s = .own (.fz d) ∧ Rep K F d v) ∨ ∃ d, s = .bw d ∧ Rep K H d v) := by
    intro j s hj
    unfold blkD at hj
    rw [List.getElem?_map] at hj
    cases q : ix[j]? with
    | none => rw [q] at hj; cases hj
    | some o =>
      rw [q] at hj
      cases o with
      | none => cases hj
      | some i =>
        have fin : ∀ v, σ[i]? = some (some v) → (blkσ ix σ)[j]? = some (some v) := fun v hv => by
          unfold blkσ
          rw [List.getElem?_map, q]
          simp [hv]
        have hj' := Option.some.inj hj
        dsimp only at hj'
        split at hj'
        · rename_i d hd
          cases hj'
          obtain ⟨v, h1, h2⟩ := e.own i _ hd
          exact ⟨i, v, fin v h1, h1, .inl ⟨d, rfl, h2.2⟩⟩
        · rename_i u d hd
          cases hj'
          obtain ⟨v, h1, h2⟩ := e.own i _ hd
          exact ⟨i, v, fin v h1, h1, .inl ⟨d, rfl, h2.2.2⟩⟩
        · rename_i t _ _ hd
          cases hj'
          obtain ⟨v, h1, h2⟩ := e.own i _ hd
          exact ⟨i, v, fin v h1, h1, .inr ⟨_, rfl, h2.rep e.ext.fh fun a _ xs z => z⟩⟩
        · rename_i d hd
          cases hj'
          obtain ⟨v, h1, h2⟩ := e.bw i _ hd
          exact ⟨i, v, fin v h1, h1, .inr ⟨_, rfl, h2.mono e.ext.hh⟩⟩
        · cases hj'
  refine ⟨by simp [blkσ, blkD], Ext.grow e.ext.fh s, fun j t hj => ?_, fun j d hj => ?_, fun _ => List.nodup_nil, (fun _ _ _ _ h => by cases h), (fun _ _ h => by cases h)⟩
  · obtain ⟨i, v, h1, h2, h3⟩ := get j _ hj
    rcases h3 with ⟨d, h3, h4⟩ | ⟨d, h3, _⟩
    · cases h3; exact ⟨v, h1, rfl, h4⟩
    · cases h3
  · obtain ⟨i, v, h1, h2, h3⟩ := get j _ hj
    rcases h3 with ⟨d', h3, h4⟩ | ⟨d', h3, h4⟩
    · cases h3
    · cases h3; exact ⟨v, h1, h4⟩
theorem sO_comp {wi : TI} {I : DA} {g : TG} {G : D → Dst → (Dst → Prop) → Prop} {ix : List (Option Nat)} (hi : SimI K wi I) (hg : SimG K g G) (he : SimO K te Eo) : SimO K (tComp wi ix g te) (dComp I ix G Eo) := fun F0 H0 F H σ δ P Q e w q =>
  hi F0 H0 F H σ δ _ _ e w fun ds J F1 H1 p x1 hJ => by
    intro L hL
    obtain ⟨A, e⟩ := e.on x1
    obtain ⟨W, w0, ws, wd⟩ := p
    have f1 : Same F1 H1 := x1.fh
    refine ⟨fun i m σ ys H => m = ds.length - i ∧ i ≤ ds.length ∧ ∃ F δ ts B, ER K F1 H1 F H σ δ (fun _ => []) ∧ W i δ ts ∧ F L = none ∧ H L = some (.lst ys) ∧ RepOs K F H ts ys B ∧ (L :: B).Nodup ∧ ∀ b ∈ B, H1 b = none ∧ F b = none,
      ⟨ds.length, by simp, Nat.zero_le _, F1, _, [], [], e.blk ix (Same.new hL), w0, f1.free hL, upd_same, ⟨rfl, rfl⟩, by simp, fun _ h => by cases h⟩, ?_⟩
    rintro i m σ2 ys H2 ⟨rfl, hil, F2, δ2, ts, B, e2, w2, l1, l2, hr, nd, nw⟩
    obtain ⟨j1, j2, j3⟩ := hJ F2 H2 e2.ext.ff e2.ext.fh
    by_cases hlt : i < ds.length
    · obtain ⟨d0, hd0⟩ : ∃ d, ds[i]? = some d := ⟨_, List.getElem?_eq_getElem hlt⟩
      have hl := hr.length
      refine .inr ⟨sz_lt (by have := (ws i d0 δ2 ts hd0 w2).1; omega), j1 i hlt, fun x H3 y => ?_⟩
      obtain ⟨d, F3, hd, x3, r3⟩ := j3 i x H3 hlt y
      refine hg F1 H1 F3 H3 σ2 δ2 (fun _ => []) d x _ _ (e2.on x3) r3 (ws i d δ2 ts hd w2).2 fun σ4 δ4 A4 w4 e4 sub => ?_
      have e4' : ER K F1 H1 F3 H3 σ4 δ4 (fun _ => []) := by
        have : A4 = fun _ => [] := funext fun k => List.eq_nil_iff_forall_not_mem.mpr fun b hb => by cases sub k b hb
        rw [this] at e4; exact e4
      refine he F1 H1 F3 H3 σ4 δ4 _ _ ⟨_, e4'⟩ w4 fun r v F5 H5 p5 x5 n5 => ?_
      have x25 := x3.trans x5
      have l5 := x25.hh _ _ l2
      have l5f := x25.no L _ l1 l2 rfl
      refine ⟨l5, ds.length - (i + 1), by omega, rfl, hlt, F5, δ4, ts ++ [r], ?_⟩
      obtain ⟨C, c1, c2, c3⟩ := n5
      obtain ⟨n1, n2⟩ := List.nodup_cons.mp nd
      have hLC : L ∉ C := fun z => by
        have q := (c3 L z).1
        rw [x3.hh _ _ l2] at q; cases q
      have hBC : ∀ b, b ∈ B → b ∉ C := fun b hb z => by
        obtain ⟨xs, q, himm⟩ := hr.isl b hb
        have := (c3 b z).1
        rw [x3.hh _ _ q] at this; cases this
      have e5 := e4'.on x5
      refine ⟨B ++ C, ⟨e5.len, ⟨e5.ext.ff, fun b o h => ?_, fun b o h => ?_, e5.ext.no⟩, fun j t hj => ?_, e5.bw, e5.nod, e5.dis, fun _ _ h => by cases h⟩, p5, l5f, upd_same, ?_, ?_, fun b hb => ?_⟩
      · exact upd_off (fun z => by rw [z, hL] at h; cases h) (e5.ext.hh _ _ h)
      · exact upd_off (fun z => by rw [z, l5f] at h; cases h) (e5.ext.fh _ _ h)
      · obtain ⟨u, h1, h2⟩ := e5.own j t hj
        exact ⟨u, h1, h2.frame (Same.refl _) fun _ z => by cases z⟩
      · exact RepOs.append (hr.frame x25.ff fun b hb xs z => upd_off (fun q => n1 (by rw [← q]; exact hb)) (x25.hh _ _ z)) (RepOs.one (c1.frame (Same.refl _) fun b hb xs z => upd_off (fun q => hLC (by rw [← q]; exact hb)) z))
      · refine List.nodup_cons.mpr ⟨fun z => ?_, List.nodup_append.mpr ⟨n2, c2, fun x hx y hy z => by subst z; exact hBC x hx hy⟩⟩
        rcases List.mem_append.mp z with z | z
        · exact n1 z
        · exact hLC z
      · rcases List.mem_append.mp hb with z | z
        · obtain ⟨xs, qq, himm⟩ := hr.isl b z
          exact ⟨(nw b z).1, x25.no b _ (nw b z).2 qq himm⟩
        · exact ⟨(e2.ext.hh.trans x3.hh).free (c3 b z).1, (c3 b z).2⟩
    · have hi' : i = ds.length := by omega
      subst hi'
      refine .inl ⟨j2, q _ _ F2 H2 (wd _ _ w2) (x1.trans e2.ext) ⟨L :: B, ⟨L, ys, B, rfl, rfl, l2, hr⟩, nd, fun b hb => ?_⟩⟩
      rcases List.mem_cons.mp hb with rfl | z
      · exact ⟨x1.hh.free hL, l1⟩
      · exact ⟨x1.hh.free (nw b z).1, (nw b z).2⟩
def startV (N : List Str) (ds : List D) : Dst := ds.map (fun d => some (.own (.fz d))) ++ List.replicate (N.length - ds.length) none
theorem startV_er {H F : Hp} {N : List Str} {ds : List D} {vs : List V} (s : Same F H) (h : Reps K F ds vs) : ER K F H F H (start N vs) (startV N ds) (fun _ => []) := by
  have hl := h.length
  refine ⟨by simp [start, startV, hl], Ext.refl s, fun i t hi => ?_, fun i d hi => ?_, fun _ => List.nodup_nil, (fun _ _ _ _ h => by cases h), (fun _ _ h => by cases h)⟩
  · unfold startV at hi
    by_cases z : i < ds.length
    · rw [List.getElem?_append_left (by simpa using z), List.getElem?_map, List.getElem?_eq_getElem z] at hi
      simp at hi
      subst hi
      obtain ⟨v, h1, h2⟩ := h.get (List.getElem?_eq_getElem z)
      refine ⟨v, ?_, rfl, h2⟩
      unfold start
      rw [List.getElem?_append_left (by simp; omega), List.getElem?_map, h1]
      rfl
    · rw [List.getElem?_append_right (by simpa using z)] at hi
      have := List.mem_of_getElem? hi
      rw [List.mem_replicate] at this
      cases this.2
  · unfold startV at hi
    by_cases z : i < ds.length
    · rw [List.getElem?_append_left (by simpa using z), List.getElem?_map, List.getElem?_eq_getElem z] at hi
      simp at hi
    · rw [List.getElem?_append_right (by simpa using z)] at hi
      have := List.mem_of_getElem? hi
      rw [List.mem_replicate] at this
      cases this.2
end
theorem CalV.of {P : Program} {w : World} {K : PySem.W.Frag} {mg : Str → Option Value} {base : Heap} {x : Str} {st : Stmt} {f : Addr} {fd : FuncData} {N ps : List Str} {k n : Nat} {sp : DSp} (Df : DefAt K mg x st f fd) (S : FnScope N ps (defScope st))
    (hb : ∀ (kV doc pm : Value) (an : Option Addr) (cdv ct : Value) (us : List Value), us.length = ps.length → bindArgs (PySem.W.fnOf x x (defArgs st) (defBody st) (defScope st) .none kV doc pm an cdv ct) ⟨us, []⟩ = pure (ps.zip us)) (hn : n = ps.length)
    (hbody : ∀ (cdv : Value) (A : Around) (outer : List Env) (s : Shared) (H : Hp) (E : XK), Room k (A.deeper (envOfC x (defScope st) s.heap.objs.size f cdv)) →
      ∃ t T, PSs (cxOf CX0 P w K mg base N x (defScope st) f cdv A outer s H E).nox (defBody st) t ∧ SimS K t T ∧ ∀ ds Pr, sp ds Pr → T { nx := fun _ => Pr (.fz .non), rt := Pr } (startV N ds)) : Cal P w K mg base x (k + 1) ps (spV K n sp) :=
  Cal.of Df S hb (fun vs H Q E h => by rw [← hn]; exact h.1) fun cdv A outer s H vs Q E hr h => by
    obtain ⟨_, F, ds, Pr, hs, hr', hsp, hq⟩ := h
    obtain ⟨t, T, h1, h2, h3⟩ := hbody cdv A outer s H E hr
    refine ⟨t, h1, h2 F H F H (start N vs) (startV N ds) { nx := fun _ => Pr (.fz .non), rt := Pr } _ ⟨_, startV_er hs hr'⟩ ⟨fun F' H' σ δ e p => ?_, fun _ _ _ _ _ z => z.elim, fun _ _ _ _ _ z => z.elim, fun F' H' r v x n p => hq r v F' H' p x n⟩ (h3 ds Pr hsp)⟩
    exact hq _ _ F' H' p e.ext (.fz rfl)
end L2

namespace L2
open PySem PySem.Spec PyProof.Rows
section
variable {X : Cx} {K : PySem.W.Frag}
def D.tyN : D → String
  | .int _ => "int"
  | .bl _ => "bool"
  | .non => "NoneType"
  | .str _ => "str"
  | .ty _ => "type"
  | .fn _ => "function"
  | .tup _ => "tuple"
  | .lst _ => "list"
  | .dic => "dict"
  | .exc _ => "exception"
  | .obj _ _ _ => "object"
def rIsID (K : PySem.W.Frag) : List V → Hp → VK → Prop := fun xs H Q => ∃ d v n b, xs = [v, .ty n] ∧ Rep K H d v ∧ ((∀ m, d ≠ .ty m) ∧ (∀ x, d ≠ .fn x) ∧ (∀ x, d ≠ .exc x) ∧ ∀ c ns ds, d ≠ .obj c ns ds) ∧ PySem.W.kitOne K (.type d.tyN) (.type n) = some b ∧ Q (.bl b) H
theorem call_isiD : CallR X (.builtin "isinstance") (rIsID X.K) := by
  intro pins s σ H xs us Q I r h
  obtain ⟨d, x, n, b, rfl, rp, ⟨hty, hfn, hex, hany⟩, e, q⟩ := h
  obtain ⟨u, w', rfl, r1, r2⟩ := vals2 r
  cases r2
  have fin : ∀ tk, EP X pins σ Q (.bool b) { s with toks := tk } := fun tk => ⟨.bl b, H, I.tok tk, rfl, q⟩
  cases d with
  | int i => cases rp; exact isinst_ok I r1 (TyOf.int i) e fin
  | bl i => cases rp; exact isinst_ok I r1 (TyOf.bl i) e fin
  | non => cases rp; exact isinst_ok I r1 TyOf.non e fin
  | str i => cases rp; exact isinst_ok I r1 (TyOf.str i) e fin
  | ty i => exact absurd rfl (hty i)
  | fn i => exact absurd rfl (hfn i)
  | tup ds =>
    obtain ⟨a, vs, rfl, h1, h2⟩ := rp
    cases (show u = Value.ref a from r1)
    obtain ⟨its, rv, p, hz⟩ := I.tuple h1
    obtain ⟨o, q1, q2, _⟩ := p
    exact PySem.W.kia_one PySem.W.kitx_tuple I.kIn ⟨o, q1, q2⟩ e (fun z => nomatch z) fin
  | lst ds =>
    obtain ⟨a, vs, rfl, h1, h2⟩ := rp
    cases (show u = Value.ref a from r1)
    obtain ⟨its, rv, p, hz⟩ := I.list h1
    obtain ⟨o, q1, q2, _⟩ := p.isList
    exact PySem.W.kia_one PySem.W.kitx_list I.kIn ⟨o, q1, q2⟩ e (fun z => nomatch z) fin
  | dic =>
    obtain ⟨a, rfl, h1⟩ := rp
    cases (show u = Value.ref a from r1)
    obtain ⟨⟨o, q1, q2⟩, _, _⟩ := I.hok a _ h1
    exact PySem.W.kia_one PySem.W.kitx_dict I.kIn ⟨o, q1, q2⟩ e (fun z => nomatch z) fin
  | exc c => exact absurd rfl (hex c)
  | obj c ns ds => exact absurd rfl (hany c ns ds)
def kitB (d : D) (n : String) : Bool := match d with
  | .int _ => n == "int"
  | .bl _ => n == "bool" || n == "int"
  | .str _ => n == "str"
  | .tup _ => n == "tuple"
  | .lst _ => n == "list"
  | _ => false
def kitNs : List String := ["int", "bool", "str", "tuple", "list"]
structure KitV (K : PySem.W.Frag) : Prop where
  all : ∀ d : D, ((∀ m, d ≠ .ty m) ∧ (∀ x, d ≠ .fn x) ∧ (∀ x, d ≠ .exc x) ∧ ∀ c ns ds, d ≠ .obj c ns ds) → ∀ n ∈ kitNs, PySem.W.kitOne K (.type d.tyN) (.type n) = some (kitB d n)
def isiD : List D → (D → Prop) → Prop := fun ds P => match ds with
  | [.ty _, .ty _] => False
  | [.fn _, .ty _] => False
  | [.exc _, .ty _] => False
  | [.obj _ _ _, .ty _] => False
  | [d, .ty n] => n ∈ kitNs ∧ P (.bl (kitB d n))
  | _ => False
theorem cS_isi (KT : KitV K) : CbS K (rIsID K) isiD := fun F H ds vs P Q s rs w q => by
  unfold isiD at w
  split at w
  · exact w.elim
  · exact w.elim
  · exact w.elim
  · exact w.elim
  · rename_i d n h1 h0 h2 h3
    obtain ⟨v, u, rfl, r1, r2⟩ := reps2 rs
    have ht : ∀ m, d ≠ .ty m := fun m z => h1 m z
    have hf : ∀ m, d ≠ .fn m := fun m z => h0 m z
    have hx : ∀ m, d ≠ .exc m := fun m z => h2 m z
    have hy : ∀ c ns ds, d ≠ .obj c ns ds := fun c ns ds z => h3 c ns ds z
    exact ⟨d, v, n, _, by rw [show u = _ from r2], r1, ⟨ht, hf, hx, hy⟩, KT.all d ⟨ht, hf, hx, hy⟩ n w.1, q _ _ F H w.2 (Ext.refl s) rfl⟩
  · exact w.elim
theorem atI_c0 {α : Type} {a : α} {xs : List α} : atI (a :: xs) 0 = some a := atI_nat (j := 0) rfl
theorem atI_c1 {α : Type} {a b : α} {xs : List α} : atI (a :: b :: xs) 1 = some b := atI_nat (j := 1) rfl
theorem atI_c2 {α : Type} {a b c : α} {xs : List α} : atI (a :: b :: c :: xs) 2 = some c := atI_nat (j := 2) rfl
theorem atI_c3 {α : Type} {a b c d : α} {xs : List α} : atI (a :: b :: c :: d :: xs) 3 = some d := atI_nat (j := 3) rfl
theorem atI_c4 {α : Type} {a b c d e : α} {xs : List α} : atI (a :: b :: c :: d :: e :: xs) 4 = some e := atI_nat (j := 4) rfl
theorem atI_ints {xs : List Int} {i : Int} (h0 : 0 ≤ i) (h : i < xs.length) : atI (xs.map D.int) i = some (.int (xs.getD i.toNat 0)) := by
  have hi : i.toNat < xs.length := by omega
  have e := atI_nat (xs := xs.map D.int) (j := i.toNat) (v := .int (xs.getD i.toNat 0)) (by simp [hi])
  rwa [show ((i.toNat : Nat) : Int) = i by omega] at e
theorem lfs_ints {xs : List Int} : D.lfs (xs.map D.int) = true := by
  rw [D.lfs_eq]; simp [D.lf]
theorem fzs_val {ds : List D} : OV.vals (ds.map OV.fz) = ds := by
  rw [OV.vals_eq, List.map_map]
  simp [Function.comp_def, OV.val]
theorem mget {α β : Type} {xs : List α} {f : α → β} {i : Nat} {d : β} (h : (xs.map f)[i]? = some d) : ∃ x, xs[i]? = some x ∧ d = f x := by
  rw [List.getElem?_map] at h
  cases q : xs[i]? with
  | none => rw [q] at h; cases h
  | some x => rw [q] at h; exact ⟨x, rfl, (Option.some.inj h).symm⟩
theorem val_fzI {xs : List Int} : List.map OV.val (xs.map fun x => OV.fz (D.int x)) = xs.map D.int := by
  rw [List.map_map]; rfl
theorem set_fzI {xs : List Int} {i : Nat} {v : Int} : (xs.map fun x => OV.fz (D.int x)).set i (.fz (.int v)) = (xs.set i v).map fun x => OV.fz (D.int x) := by
  rw [List.map_set]
theorem app_fzI {xs : List Int} {v : Int} : (xs.map fun x => OV.fz (D.int x)) ++ [.fz (.int v)] = (xs ++ [v]).map fun x => OV.fz (D.int x) := by
  rw [List.map_append]; rfl
theorem lfs_fzI {xs : List Int} : OV.lfs (xs.map fun x => OV.fz (D.int x)) = true := by
  rw [OV.lfs_eq]; simp [OV.lf, D.lf]
theorem fz_int {xs : List Int} : (xs.map D.int).map OV.fz = xs.map fun x => OV.fz (D.int x) := by
  rw [List.map_map]; rfl
theorem kn_int : ("int" ∈ kitNs) = True := eq_true (by decide)
theorem kn_bool : ("bool" ∈ kitNs) = True := eq_true (by decide)
theorem kn_str : ("str" ∈ kitNs) = True := eq_true (by decide)
theorem kn_tuple : ("tuple" ∈ kitNs) = True := eq_true (by decide)
theorem kn_list : ("list" ∈ kitNs) = True := eq_true (by decide)
theorem nat10 : (Int.natAbs 10 < 2 ^ 64) = True := eq_true (by decide)
theorem nat2 : (Int.natAbs 2 < 2 ^ 64) = True := eq_true (by decide)
theorem CmpW.map {α : Type} {Eo : DO} {o : Option Sl} {rest : Dst} {P : OV → Prop} (xs : List α) (g : α → D) (f : α → OV) (hn : xs.length ≤ 1000000)
    (h : ∀ x ∈ xs, ∀ Q : OV → Prop, Q (f x) → Eo (some (.own (.fz (g x))) :: rest) Q) (k : P (.nl (xs.map f))) : CmpW (gN 0) Eo (xs.map g) (o :: rest) P := by
  refine ⟨fun i δ ts => ∃ o, δ = o :: rest ∧ ts = (xs.take i).map f, ⟨o, rfl, by simp⟩, ?_, ?_⟩
  · rintro i d δ ts hd ⟨o, rfl, rfl⟩
    obtain ⟨x, hx, rfl⟩ := mget hd
    obtain ⟨hi, e⟩ := List.getElem?_eq_some_iff.mp hx
    refine ⟨by rw [List.length_map, List.length_take]; omega, h x (List.mem_of_getElem? hx) _ ⟨_, rfl, ?_⟩⟩
    rw [List.take_succ_eq_append_getElem hi, e, List.map_append]
    rfl
  · rintro δ ts ⟨o, rfl, rfl⟩
    rw [List.length_map, List.take_length]
    exact k
theorem CmpW.rng {Eo : DO} {o : Option Sl} {rest : Dst} {P : OV → Prop} {lo c : Int} {n : Nat} (f : Nat → OV) (hn : n ≤ 1000000)
    (h : ∀ i, i < n → ∀ Q : OV → Prop, Q (f i) → Eo (some (.own (.fz (.int (lo + i * c)))) :: rest) Q) (k : P (.nl ((List.range n).map f))) : CmpW (gN 0) Eo (rng lo c n) (o :: rest) P :=
  CmpW.map (List.range n) _ f (by simpa using hn) (fun i hi Q q => h i (List.mem_range.mp hi) Q q) k
theorem sSeq_k {T U : DS} {De : DEnds} {δ : Dst} (h : ∀ N : Dst → Prop, (∀ δ', U De δ' → N δ') → T { De with nx := N } δ) : sSeq T U De δ := h _ fun _ z => z
theorem KitV.of (t1 : PySem.W.kitOne K (.type "int") (.type "int") = some true) (t2 : PySem.W.kitOne K (.type "int") (.type "bool") = some false) (t3 : PySem.W.kitOne K (.type "int") (.type "str") = some false) (t4 : PySem.W.kitOne K (.type "int") (.type "tuple") = some false) (t5 : PySem.W.kitOne K (.type "int") (.type "list") = some false) (t6 : PySem.W.kitOne K (.type "bool") (.type "int") = some true) (t7 : PySem.W.kitOne K (.type "bool") (.type "bool") = some true) (t8 : PySem.W.kitOne K (.type "bool") (.type "str") = some false) (t9 : PySem.W.kitOne K (.type "bool") (.type "tuple") = some false) (t10 : PySem.W.kitOne K (.type "bool") (.type "list") = some false) (t11 : PySem.W.kitOne K (.type "NoneType") (.type "int") = some false) (t12 : PySem.W.kitOne K (.type "NoneType") (.type "bool") = some false) (t13 : PySem.W.kitOne K (.type "NoneType") (.type "str") = some false) (t14 : PySem.W.kitOne K (.type "NoneType") (.type "tuple") = some false) (t15 : PySem.W.kitOne K (.type "NoneType") (.type "list") = some false) (t16 : PySem.W.kitOne K (.type "str") (.type "int") = some false) (t17 : PySem.W.kitOne K (.type "str") (.type "bool") = some false) (t18 : PySem.W.kitOne K (.type "str") (.type "str") = some true) (t19 : PySem.W.kitOne K (.type "str") (.type "tuple") = some false) (t20 : PySem.W.kitOne K (.type "str") (.type "list") = some false) (t21 : PySem.W.kitOne K (.type "tuple") (.type "int") = some false) (t22 : PySem.W.kitOne K (.type "tuple") (.type "bool") = some false) (t23 : PySem.W.kitOne K (.type "tuple") (.type "str") = some false) (t24 : PySem.W.kitOne K (.type "tuple") (.type "tuple") = some true) (t25 : PySem.W.kitOne K (.type "tuple") (.type "list") = some false) (t26 : PySem.W.kitOne K (.type "list") (.type "int") = some false) (t27 : PySem.W.kitOne K (.type "list") (.type "bool") = some false) (t28 : PySem.W.kitOne K (.type "list") (.type "str") = some false) (t29 : PySem.W.kitOne K (.type "list") (.type "tuple") = some false) (t30 : PySem.W.kitOne K (.type "list") (.type "list") = some true) (t31 : PySem.W.kitOne K (.type "dict") (.type "int") = some false) (t32 : PySem.W.kitOne K (.type "dict") (.type "bool") = some false) (t33 : PySem.W.kitOne K (.type "dict") (.type "str") = some false) (t34 : PySem.W.kitOne K (.type "dict") (.type "tuple") = some false) (t35 : PySem.W.kitOne K (.type "dict") (.type "list") = some false) : KitV K := by
  refine ⟨fun d ⟨hd, hd2, hd3⟩ n hn => ?_⟩
  simp only [kitNs, List.mem_cons, List.mem_nil_iff, or_false] at hn
  cases d with
  | ty m => exact absurd rfl (hd m)
  | fn m => exact absurd rfl (hd2 m)
  | int _ =>
    rcases hn with rfl | rfl | rfl | rfl | rfl
    · exact t1
    · exact t2
    · exact t3
    · exact t4
    · exact t5
  | bl _ =>
    rcases hn with rfl | rfl | rfl | rfl | rfl
    · exact t6
    · exact t7
    · exact t8
    · exact t9
    · exact t10
  | non =>
    rcases hn with rfl | rfl | rfl | rfl | rfl
    · exact t11
    · exact t12
    · exact t13
    · exact t14
    · exact t15
  | str _ =>
    rcases hn with rfl | rfl | rfl | rfl | rfl
    · exact t16
    · exact t17
    · exact t18
    · exact t19
    · exact t20
  | tup _ =>
    rcases hn with rfl | rfl | rfl | rfl | rfl
    · exact t21
    · exact t22
    · exact t23
    · exact t24
    · exact t25
  | lst _ =>
    rcases hn with rfl | rfl | rfl | rfl | rfl
    · exact t26
    · exact t27
    · exact t28
    · exact t29
    · exact t30
  | dic =>
    rcases hn with rfl | rfl | rfl | rfl | rfl
    · exact t31
    · exact t32
    · exact t33
    · exact t34
    · exact t35
  | exc m => exact absurd rfl (hd3.1 m)
  | obj c ns ds => exact absurd rfl (hd3.2 c ns ds)
end
end L2

namespace PySem
open AutoSeq1
abbrev lwSeq (T : String) (od : Option Addr) (xs : Array Value) (k : Nat) (sl : Array (Option Value)) : Obj := { cls := .type T, dict := od, data := .seq xs k, slots := sl }
theorem lw_extend_list (l b : Addr) (xs ys : Array Value) (k m : Nat) (od : Option Addr) (sl : Array (Option Value)) (h0 : ¬(!xs.isEmpty && Builtin.List.listTooLong (xs.size + ys.size)) = true) (h1 : xs.size ≤ sizeLine) (h2 : xs.size + ys.size ≤ sizeLine + 1) :
    Meets (Builtin.«list.extend» ⟨[.ref l, .ref b], []⟩) (fun _ R s => s.heap.get? l = some (lwSeq "list" none xs k #[]) ∧ s.heap.get? b = some (lwSeq "list" od ys m sl) ∧ R (.ok (.ret .none)) { s with heap := s.heap.update l (Obj.mapSeq (· ++ ys)), toks := s.toks }) := by
  refine .of_wp fun prog w A R s hR => ?_
  obtain ⟨sh, sg, sd, st, so⟩ := s
  obtain ⟨e1, e2, fin⟩ := hR
  have i1 := idx_int
  have i2 := sub_tuple_tuple
  have i3 := sub_list_list
  have i4 := sub_tuple_list
  have i5 := sub_list_tuple
  have room : (xs ++ ys).size ≤ sizeLine + 1 := by
    rw [Array.size_append]
    exact h2
  wp_walk using (wpAny_updateSeq e1 rfl (hz := h1) (_hz' := room)), wpAny_loadPart' e1, wpAny_loadPart' e2
  exact ⟨_, rfl, fin⟩
theorem lw_extend_tuple (l b : Addr) (xs ys : Array Value) (k m : Nat) (od : Option Addr) (sl : Array (Option Value)) (h0 : ¬(!xs.isEmpty && Builtin.List.listTooLong (xs.size + ys.size)) = true) (h1 : xs.size ≤ sizeLine) (h2 : xs.size + ys.size ≤ sizeLine + 1) :
    Meets (Builtin.«list.extend» ⟨[.ref l, .ref b], []⟩) (fun _ R s => s.heap.get? l = some (lwSeq "list" none xs k #[]) ∧ s.heap.get? b = some (lwSeq "tuple" od ys m sl) ∧ R (.ok (.ret .none)) { s with heap := s.heap.update l (Obj.mapSeq (· ++ ys)), toks := s.toks }) := by
  refine .of_wp fun prog w A R s hR => ?_
  obtain ⟨sh, sg, sd, st, so⟩ := s
  obtain ⟨e1, e2, fin⟩ := hR
  have i1 := idx_int
  have i2 := sub_tuple_tuple
  have i3 := sub_list_list
  have i4 := sub_tuple_list
  have i5 := sub_list_tuple
  have room : (xs ++ ys).size ≤ sizeLine + 1 := by
    rw [Array.size_append]
    exact h2
  wp_walk using (wpAny_updateSeq e1 rfl (hz := h1) (_hz' := room)), wpAny_loadPart' e1, wpAny_loadPart' e2
  exact ⟨_, rfl, fin⟩
theorem lw_add_list (l b : Addr) (xs ys : Array Value) (k m : Nat) (od oe : Option Addr) (sl sm : Array (Option Value)) (h0 : xs.size + ys.size ≤ sizeLine) :
    Meets (Builtin.«list.__add__» ⟨[.ref l, .ref b], []⟩) (fun _ R s => s.heap.get? l = some (lwSeq "list" od xs k sl) ∧ s.heap.get? b = some (lwSeq "list" oe ys m sm) ∧ R (.ok (.ret (.ref s.heap.objs.size))) { s with heap := s.heap.push { cls := .type "list", data := .seq (xs ++ ys) }, toks := s.toks }) := by
  refine .of_wp fun prog w A R s hR => ?_
  obtain ⟨sh, sg, sd, st, so⟩ := s
  obtain ⟨e1, e2, fin⟩ := hR
  have i1 := idx_int
  have i2 := sub_tuple_tuple
  have i3 := sub_list_list
  have i4 := sub_tuple_list
  have i5 := sub_list_tuple
  wp_walk using wpAny_loadPart' e1, wpAny_loadPart' e2
  exact ⟨_, rfl, fin⟩
end PySem
namespace L2
open PySem PySem.Spec PyProof.Rows
section
variable {X : Cx} {K : PySem.W.Frag}
def rExtendS (K : PySem.W.Frag) : V → List V → Hp → VK → Prop := fun x vs H Q => ∃ l b xs zs, x = .ref l ∧ vs = [.ref b] ∧ H l = some (.lst xs) ∧ (SqL K H b zs ∨ SqT K H b zs) ∧ xs.length + zs.length ≤ sizeLine ∧ Q .non (upd H l (.lst (xs ++ zs)))
theorem mt_extendS : MtM X "list.extend" (rExtendS X.K) := by
  intro pins s σ H x vs v us Q I rx rv h
  obtain ⟨l, b, xs, zs, rfl, rfl, hH, hB, hz, q⟩ := h
  cases rx
  obtain ⟨u, rfl, ru⟩ := rv.one
  cases ru
  obtain ⟨z, its, n, r, hl, e⟩ := I.lstM hH
  have room : ∀ ys : List Value, ys.length = zs.length → its.toArray.size + ys.toArray.size ≤ sizeLine := fun ys hy => by rw [List.size_toArray, List.size_toArray]; omega
  have fits : ∀ ys : List Value, ys.length = zs.length → ¬ (!its.toArray.isEmpty && Builtin.List.listTooLong (its.toArray.size + ys.toArray.size)) = true := fun ys hy => by
    rw [notLongL (room ys hy), Bool.and_false]
    exact Bool.false_ne_true
  have fin : ∀ ys : List Value, Vals zs ys → EP X pins σ Q .none { s with heap := s.heap.update l (Obj.mapSeq (· ++ ys.toArray)), toks := s.toks } := fun ys ry =>
    ⟨.non, _, I.lset (its' := its ++ ys) hH e (by simp) (r.append ry) (by rw [List.length_append]; omega), rfl, q⟩
  rcases hB with hB | hB
  · obtain ⟨ys, ry, ⟨o, m, e2, o1, o2, o3⟩, _⟩ := I.list hB
    obtain ⟨oc, od, oda, osl⟩ := o
    dsimp only at o1 o3
    subst o1 o3
    have hy := ry.length
    exact call_meets F.slot_list_extend ⟨_, e, rfl⟩ F.entry_list_extend (F.args_list_extend_2 _ _) (lw_extend_list l b its.toArray ys.toArray n m od osl (fits ys hy.symm) (by rw [List.size_toArray]; omega) (by have := room ys hy.symm; omega)) ⟨e, e2, fin ys ry⟩
  · obtain ⟨ys, ry, ⟨o, e2, o1, m, o3⟩, _⟩ := I.tuple hB
    obtain ⟨oc, od, oda, osl⟩ := o
    dsimp only at o1 o3
    subst o1 o3
    have hy := ry.length
    exact call_meets F.slot_list_extend ⟨_, e, rfl⟩ F.entry_list_extend (F.args_list_extend_2 _ _) (lw_extend_tuple l b its.toArray ys.toArray n m od osl (fits ys hy.symm) (by rw [List.size_toArray]; omega) (by have := room ys hy.symm; omega)) ⟨e, e2, fin ys ry⟩
def rCatS (K : PySem.W.Frag) : R2 := fun x y H Q => ∃ l b xs zs, x = .ref l ∧ y = .ref b ∧ SqL K H l xs ∧ SqL K H b zs ∧ xs.length + zs.length ≤ sizeLine ∧ ∀ p H', H p = none → Same H H' → H' p = some (.lst (xs ++ zs)) → Q (.ref p) H'
theorem op_catS : OpR X (binaryOp .Add) (rCatS X.K) := by
  intro pins s σ H x y v u Q I rx ry h
  obtain ⟨l, b, xs, zs, rfl, rfl, hA, hB, hz, q⟩ := h
  cases rx
  cases ry
  obtain ⟨its, r, ⟨o, n, e, o1, o2, o3⟩, _⟩ := I.list hA
  obtain ⟨its2, r2, ⟨o', n2, e2, p1, p2, p3⟩, _⟩ := I.list hB
  obtain ⟨oc, od, oda, osl⟩ := o
  obtain ⟨pc, pd, pda, psl⟩ := o'
  dsimp only at o1 o3 p1 p3
  subst o1 o3 p1 p3
  have l1 := r.length
  have l2 := r2.length
  refine PySem.concat_meets ⟨_, e, rfl⟩ ⟨_, e2, rfl⟩ PySem.noFill_list_add PySem.seq_list_add F.slot_list_add F.entry_list_add (F.args_list_add_2 _ _) (lw_add_list l b its.toArray its2.toArray n n2 od pd osl psl (by rw [List.size_toArray, List.size_toArray]; omega)) ⟨e, e2, ?_⟩
  have ea : its.toArray ++ its2.toArray = (its ++ its2).toArray := by simp
  rw [ea]
  exact ⟨.ref _, _, I.lnew (t' := s.toks) (r.append r2) (by rw [List.length_append]; omega), rfl, q _ _ I.fresh (Same.new I.fresh) upd_same⟩
def dCatL (Ea Eb : DE) : DO := fun δ P => Ea δ fun x => Eb δ fun y => match x, y with
  | .lst xs, .lst ys => xs.length + ys.length ≤ 1000000 ∧ P (.nl ((xs ++ ys).map .fz))
  | _, _ => False
theorem sO_catL {ta tb : TE} {Ea Eb : DE} (ha : SimF K ta Ea) (hb : SimF K tb Eb) : SimO K (tOp (rCatS K) ta tb) (dCatL Ea Eb) := fun F0 H0 F H σ δ P Q e w q =>
  ha F0 H0 F H σ δ _ _ e w fun x v F1 H1 w1 x1 r1 => hb F0 H0 F1 H1 σ δ _ _ (e.on x1) w1 fun y u F2 H2 w2 x2 r2 => by
    have x12 := x1.trans x2
    split at w2
    · obtain ⟨p, vs, rfl, h1, h2⟩ := r1.mono x2.ff
      obtain ⟨p', vs', rfl, h1', h2'⟩ := r2
      have l1 := h2.length
      have l2 := h2'.length
      exact ⟨p, p', vs, vs', rfl, rfl, x2.fh.seq h1, x2.fh.seq h1', sz_le (by omega), fun l H' l0 sm lq => q _ _ F2 H' w2.2 (x12.trans (Ext.grow x2.fh sm)) (RepN.list (x12.hh.free l0) (x2.fh.free l0) lq (h2.append h2'))⟩
    · exact w2.elim
def dRevL (As : DA) : DA := fun δ P => As δ fun ds => match ds with
  | [.lst xs] => P xs.reverse
  | _ => False
theorem ER.frz {F0 H0 F H : Hp} {σ : St} {δ : Dst} {A : Nat → List Addr} (e : ER K F0 H0 F H σ δ A) (i : Nat) {t : OV} (hi : δ[i]? = some (some (.own t))) : ∃ F', EnvR K F0 H0 F' H σ (δ.set i (some (.own (.fz t.val)))) := by
  obtain ⟨v, hv, hr⟩ := e.own i t hi
  have hlt := (List.getElem?_eq_some_iff.mp hi).1
  have sm : Same F fun a => if a ∈ A i then H a else F a := fun b o z => by
    have hb : b ∉ A i := fun y => by rw [(e.new i b y).1] at z; cases z
    dsimp only
    rw [if_neg hb]; exact z
  refine ⟨fun a => if a ∈ A i then H a else F a, fun j => if j = i then [] else A j, by simp [e.len], ⟨e.ext.ff.trans sm, e.ext.hh, fun b o z => ?_, fun b o z1 z2 z3 => ?_⟩, fun j u hj => ?_, fun j d hj => ?_, fun j => ?_, fun j k a hjk h1 h2 => ?_, fun j a ha => ?_⟩
  · try dsimp only at z
    split at z
    · exact z
    · exact e.ext.fh _ _ z
  · have hb : b ∉ A i := fun y => by rw [(e.new i b y).2.1] at z2; cases z2
    rw [if_neg hb]; exact e.ext.no b o z1 z2 z3
  · try dsimp only
    by_cases z : j = i
    · subst z
      rw [if_pos rfl]
      rw [List.getElem?_set_self hlt] at hj
      cases hj
      exact ⟨v, hv, rfl, hr.rep sm fun a ha xs q => by rw [if_pos ha]; exact q⟩
    · rw [if_neg z]
      rw [List.getElem?_set_ne (Ne.symm z)] at hj
      obtain ⟨v', h1, h2⟩ := e.own j u hj
      exact ⟨v', h1, h2.frame sm fun a _ xs q => q⟩
  · by_cases z : j = i
    · subst z
      rw [List.getElem?_set_self hlt] at hj
      cases hj
    · rw [List.getElem?_set_ne (Ne.symm z)] at hj
      exact e.bw j d hj
  · try dsimp only
    split
    · exact List.nodup_nil
    · exact e.nod j
  · try dsimp only at h1 h2
    split at h1
    · cases h1
    · split at h2
      · cases h2
      · exact e.dis j k a hjk h1 h2
  · try dsimp only at ha
    split at ha
    · cases ha
    · rename_i z
      obtain ⟨h1, h2, h3⟩ := e.new j a ha
      refine ⟨?_, h2, h3⟩
      rw [if_neg fun y => e.dis j i a z ha y]; exact h1
def sFrz (i : Nat) (T : DS) : DS := fun De δ => match δ[i]? with
  | some (some (.own t)) => T De (δ.set i (some (.own (.fz t.val))))
  | _ => False
def sApp2 (i : Nat) (Ei : DE) (E : DO) : DS := fun De δ => match δ[i]? with
  | some (some (.own (.nl ts))) => Ei δ fun k => match k with
    | .int k => 0 ≤ k ∧ ∃ us, ts[k.toNat]? = some (.nl us) ∧ us.length < 1000000 ∧ E δ fun r => De.nx (δ.set i (some (.own (.nl (ts.set k.toNat (.nl (us ++ [r])))))))
    | _ => False
  | _ => False
theorem set_self_of {α : Type} {xs : List α} {i : Nat} {v : α} (h : xs[i]? = some v) : xs.set i v = xs := by
  obtain ⟨hi, e⟩ := List.getElem?_eq_some_iff.mp h
  rw [← e]; exact List.set_getElem_self hi
def sExt (i : Nat) (E : DE) : DS := fun De δ => match δ[i]? with
  | some (some (.own (.nl ts))) => E δ fun d => match d with
    | .lst ds => ts.length + ds.length ≤ 1000000 ∧ De.nx (δ.set i (some (.own (.nl (ts ++ ds.map .fz)))))
    | .tup ds => ts.length + ds.length ≤ 1000000 ∧ De.nx (δ.set i (some (.own (.nl (ts ++ ds.map .fz)))))
    | _ => False
  | _ => False
theorem sS_ext {i : Nat} {te : TE} {E : DE} (h : SimF K te E) : SimS K (tDrop (tBM K "list" (rExtendS K) (tVar i) (tCons te tNil))) (sExt i E) := fun F0 H0 F H σ δ De En e l w => by
  obtain ⟨A, e⟩ := e
  unfold sExt at w
  split at w
  · rename_i ts hs
    obtain ⟨v, hv, a, vs, B, rfl, eA, ha, hB⟩ := e.own i _ hs
    refine ⟨_, hv, .inl ⟨rfl, _, SqL.of ha⟩, ?_⟩
    refine h F0 H0 F H σ δ _ _ ⟨A, e⟩ w fun d u F1 H1 p x1 r1 => ?_
    have e1 := e.on x1
    have hl := hB.length
    have hB1 : RepOs K F1 H1 ts vs B := hB.frame x1.ff fun b _ xs z => x1.hh _ _ z
    have hnd := e.nod i
    rw [eA] at hnd
    obtain ⟨n1, n2⟩ := List.nodup_cons.mp hnd
    have fin : ∀ (ds : List D) (us : List V), Reps K F1 ds us → De.nx (δ.set i (some (.own (.nl (ts ++ ds.map .fz))))) → En.nx σ (upd H1 a (.lst (vs ++ us))) := fun ds us hu p => by
      refine l.nx F1 _ σ _ (e1.change i hv (t' := .nl (ts ++ ds.map .fz)) (B := a :: (B ++ [])) ⟨a, vs ++ us, B ++ [], rfl, rfl, upd_same, ?_⟩ ?_ ?_ ?_ ?_) p
      · exact RepOs.append (hB1.frame (Same.refl _) fun b hb xs z => upd_off (fun q => n1 (by rw [← q]; exact hb)) z) (RepOs.fzs hu)
      · rw [List.append_nil]; exact hnd
      · intro b hb
        rw [List.append_nil, ← eA] at hb
        exact ⟨(e1.new i b hb).1, (e1.new i b hb).2.1⟩
      · intro j hj b hb z
        rw [List.append_nil, ← eA] at hb
        exact e.dis j i b hj z hb
      · intro b o hb q
        exact upd_off (fun z => hb (by rw [eA, z]; exact List.mem_cons_self)) q
    try dsimp only at p
    split at p
    · obtain ⟨c, us, rfl, q1, q2⟩ := r1
      have := q2.length
      exact ⟨a, c, vs, us, rfl, rfl, x1.hh _ _ ha, .inl (x1.fh.seq q1), sz_le (by omega), fin _ us q2 p.2⟩
    · obtain ⟨c, us, rfl, q1, q2⟩ := r1
      have := q2.length
      exact ⟨a, c, vs, us, rfl, rfl, x1.hh _ _ ha, .inr (x1.fh.seqT q1), sz_le (by omega), fin _ us q2 p.2⟩
    · exact p.elim
  · exact w.elim
end
end L2

namespace L2
open PySem PySem.Spec PyProof.Rows
def catTD : DR2 := fun x y P => match x, y with
  | .tup xs, .tup ys => xs ≠ [] ∧ ys ≠ [] ∧ xs.length + ys.length ≤ 1000000 ∧ P (.tup (xs ++ ys))
  | _, _ => False
def D.fit : Nat → D → Bool
  | _, .int _ => true
  | _, .str _ => true
  | _, .non => true
  | _, .bl _ => true
  | _, .ty _ => false
  | _, .fn _ => false
  | _, .dic => false
  | _, .exc _ => false
  | _, .obj _ _ _ => false
  | 0, .tup _ => false
  | 0, .lst _ => false
  | n + 1, .tup ds => ds.all (D.fit n)
  | n + 1, .lst ds => ds.all (D.fit n)
mutual
def D.eqb : D → D → Bool
  | .int i, .int j => decide (i = j)
  | .str x, .str y => decide (x = y)
  | .non, .non => true
  | .bl a, .bl b => a == b
  | .bl a, .int j => decide ((if a then 1 else 0) = j)
  | .int i, .bl b => decide (i = if b then 1 else 0)
  | .tup xs, .tup ys => D.eqbs xs ys
  | .lst xs, .lst ys => D.eqbs xs ys
  | _, _ => false
def D.eqbs : List D → List D → Bool
  | [], [] => true
  | x :: xs, y :: ys => D.eqb x y && D.eqbs xs ys
  | _, _ => false
end
mutual
theorem D.eqb_refl : ∀ {d : D} {n : Nat}, d.fit n = true → D.eqb d d = true
  | .int _, _, _ => by simp [D.eqb]
  | .str _, _, _ => by simp [D.eqb]
  | .non, _, _ => by simp [D.eqb]
  | .bl _, _, _ => by simp [D.eqb]
  | .ty _, _, h => by simp [D.fit] at h
  | .fn _, _, h => by simp [D.fit] at h
  | .dic, _, h => by simp [D.fit] at h
  | .exc _, _, h => by simp [D.fit] at h
  | .obj _ _ _, _, h => by simp [D.fit] at h
  | .tup ds, 0, h => by simp [D.fit] at h
  | .lst ds, 0, h => by simp [D.fit] at h
  | .tup ds, n + 1, h => by
    simp only [D.eqb]
    exact D.eqbs_refl (n := n) (by simpa only [D.fit] using h)
  | .lst ds, n + 1, h => by
    simp only [D.eqb]
    exact D.eqbs_refl (n := n) (by simpa only [D.fit] using h)
theorem D.eqbs_refl : ∀ {ds : List D} {n : Nat}, ds.all (D.fit n) = true → D.eqbs ds ds = true
  | [], _, _ => by simp [D.eqbs]
  | d :: ds, n, h => by
    rw [List.all_cons, Bool.and_eq_true] at h
    simp only [D.eqbs, D.eqb_refl h.1, D.eqbs_refl h.2, Bool.and_self]
end
def D.same : D → D → Bool
  | .tup _, .tup _ => true
  | .lst _, .lst _ => true
  | _, _ => false
def eqND : DR2 := fun x y P => x.same y = true ∧ x.fit 4 = true ∧ y.fit 4 = true ∧ P (.bl (D.eqb x y))
def neND : DR2 := fun x y P => x.same y = true ∧ x.fit 4 = true ∧ y.fit 4 = true ∧ P (.bl (!D.eqb x y))
def allD : List D → (D → Prop) → Prop := fun ds P => match ds with
  | [.lst xs] => ∃ bs : List Bool, xs = bs.map D.bl ∧ P (.bl (bs.all id))
  | _ => False
def anyD : List D → (D → Prop) → Prop := fun ds P => match ds with
  | [.lst xs] => ∃ bs : List Bool, xs = bs.map D.bl ∧ P (.bl (bs.any id))
  | _ => False
def maxLD : List D → (D → Prop) → Prop := fun ds P => match ds with
  | [.lst xs] => ∃ ns : List Int, xs = ns.map D.int ∧ 0 < ns.length ∧ ∀ M : Int, M ∈ ns → (∀ a ∈ ns, a ≤ M) → P (.int M)
  | _ => False
def dTruth (E : DE) : DT := fun δ P => E δ fun d => match d with
  | .bl b => P b
  | .int i => P (decide (i ≠ 0))
  | .lst xs => P (!xs.isEmpty)
  | .tup xs => P (!xs.isEmpty)
  | .non => P false
  | _ => False
def CmpIfW (G : D → Dst → (Dst → Prop) → Prop) (C : DT) (Eo : DO) (ds : List D) (δ : Dst) (P : OV → Prop) : Prop := ∃ W : Nat → Dst → List OV → Prop, W 0 δ [] ∧
  (∀ i d δ ts, ds[i]? = some d → W i δ ts → ts.length < 1000000 ∧ G d δ fun δ' => C δ' fun b => if b = true then Eo δ' fun r => W (i + 1) δ' (ts ++ [r]) else W (i + 1) δ' ts) ∧ ∀ δ ts, W ds.length δ ts → P (.nl ts)
def dCompIf (I : DA) (ix : List (Option Nat)) (G : D → Dst → (Dst → Prop) → Prop) (C : DT) (Eo : DO) : DO := fun δ P => I δ fun ds => CmpIfW G C Eo ds (blkD ix δ) P
def sPut2 (i : Nat) (Ek Em E : DE) : DS := fun De δ => E δ fun d => match δ[i]? with
  | some (some (.own (.nl ts))) => Ek δ fun k => match k with
    | .int k => ∃ j us, ixN ts.length k = some j ∧ ts[j]? = some (.nl us) ∧ Em δ fun m => match m with
      | .int m => ∃ l, ixN us.length m = some l ∧ De.nx (δ.set i (some (.own (.nl (ts.set j (.nl (us.set l (.fz d))))))))
      | _ => False
    | _ => False
  | _ => False
def stepG {α : Type} (xs : List α) (c : Int) : List α := (sliceRange 0 xs.length c).filterMap (xs[·]?)
def dSlSt (Ea Ec : DE) : DO := fun δ P => Ea δ fun x => Ec δ fun c => match x, c with
  | .lst xs, .int c => 0 < c ∧ P (.nl ((stepG xs c).map .fz))
  | _, _ => False
def dCallD (n : Nat) (sp : DSp) (dds : List D) (As : DA) : DO := fun δ P => As δ fun ds => (ds ++ dds).length = n ∧ sp (ds ++ dds) P
def dCallDB (n : Nat) (sp : DSp) (dds : List D) (As : DA) : DO := fun δ P => As δ fun ds => (ds ++ dds).length = n ∧ sp (ds ++ dds) fun r => r.lf = true ∧ P r
end L2

namespace L2
open PySem PySem.Spec PyProof.Rows
section
variable {K : PySem.W.Frag} {X : Cx}
def eD (xs ys : List D) (j : Nat) : Bool := match xs[j]?, ys[j]? with
  | some x, some y => D.eqb x y
  | _, _ => true
theorem eqbs_rng : ∀ (xs ys : List D), D.eqbs xs ys = ((List.range (min xs.length ys.length)).all (eD xs ys) && xs.length == ys.length)
  | [], [] => by simp [D.eqbs]
  | [], _ :: _ => by simp [D.eqbs]
  | _ :: _, [] => by simp [D.eqbs]
  | x :: xs, y :: ys => by
    have ih := eqbs_rng xs ys
    simp only [D.eqbs, List.length_cons]
    rw [show min (xs.length + 1) (ys.length + 1) = min xs.length ys.length + 1 by omega, List.range_succ_eq_map, List.all_cons, List.all_map, ih]
    have e0 : eD (x :: xs) (y :: ys) 0 = D.eqb x y := rfl
    have e1 : (eD (x :: xs) (y :: ys) ∘ Nat.succ) = eD xs ys := by
      funext j
      simp [eD, Function.comp]
    rw [e0, e1, Bool.and_assoc]
    congr 2
    simp
theorem rep_one {pins : List (Addr × Obj)} {σ : St} {H : Hp} {s : Shared} (I : Inv X pins σ H s) : ∀ (n : Nat) {x y : D} {v : V}, x.fit n = true → y.fit n = true → Rep X.K H x v → Rep X.K H y v → D.eqb x y = true := by
  have items : ∀ (n : Nat), (∀ {x y : D} {v : V}, x.fit n = true → y.fit n = true → Rep X.K H x v → Rep X.K H y v → D.eqb x y = true) → ∀ {xs ys : List D} {vs : List V}, xs.all (D.fit n) = true → ys.all (D.fit n) = true → Reps X.K H xs vs → Reps X.K H ys vs → D.eqbs xs ys = true := by
    intro n ih xs
    induction xs with
    | nil =>
      intro ys vs _ _ r1 r2
      cases r1
      cases ys with
      | nil => rfl
      | cons y ys => obtain ⟨v, r, e, _⟩ := r2; cases e
    | cons x xs ihx =>
      intro ys vs f1 f2 r1 r2
      obtain ⟨v, r, rfl, h1, h2⟩ := r1
      cases ys with
      | nil => cases r2
      | cons y ys =>
        obtain ⟨v', r', e, h3, h4⟩ := r2
        cases e
        rw [List.all_cons, Bool.and_eq_true] at f1 f2
        simp only [D.eqbs, ih f1.1 f2.1 h1 h3, ihx f1.2 f2.2 h2 h4, Bool.and_self]
  have tl : ∀ {a : Addr} {xs ys : List V}, SqT X.K H a xs → SqL X.K H a ys → False := fun {a xs ys} h1 h2 => by
    obtain ⟨_, _, p1, _⟩ := I.tuple h1
    obtain ⟨_, _, p2, _⟩ := I.list h2
    obtain ⟨o, e1, c1, _⟩ := p1
    obtain ⟨o', e2, c2, _⟩ := p2.isList
    rw [e1] at e2; cases e2
    rw [c1] at c2; simp at c2
  intro n
  induction n with
  | zero =>
    intro x y v fx fy rx ry
    cases x <;> cases y <;> simp [D.fit] at fx fy <;> simp [D.eqb]
    all_goals first
      | (have z := (show v = _ from rx).symm.trans (show v = _ from ry); first | (injection z) | (cases z))
      | skip
  | succ n ih =>
    intro x y v fx fy rx ry
    cases x <;> cases y
    case tup.tup xs ys =>
      obtain ⟨a, vs, rfl, h1, h2⟩ := rx
      obtain ⟨b, us, e, h3, h4⟩ := ry
      cases e
      cases I.tuple_inj h1 h3
      simp only [D.eqb]
      exact items n ih (by simpa only [D.fit] using fx) (by simpa only [D.fit] using fy) h2 h4
    case lst.lst xs ys =>
      obtain ⟨a, vs, rfl, h1, h2⟩ := rx
      obtain ⟨b, us, e, h3, h4⟩ := ry
      cases e
      cases I.list_inj h1 h3
      simp only [D.eqb]
      exact items n ih (by simpa only [D.fit] using fx) (by simpa only [D.fit] using fy) h2 h4
    case tup.lst xs ys =>
      obtain ⟨a, vs, rfl, h1, h2⟩ := rx
      obtain ⟨b, us, e, h3, h4⟩ := ry
      cases e
      exact (tl h1 h3).elim
    case lst.tup xs ys =>
      obtain ⟨a, vs, rfl, h1, h2⟩ := rx
      obtain ⟨b, us, e, h3, h4⟩ := ry
      cases e
      exact (tl h3 h1).elim
    all_goals first
      | (simp [D.fit] at fx; done)
      | (simp [D.fit] at fy; done)
      | (have z := (show v = _ from rx).symm.trans (show v = _ from ry); first | (cases z; done) | (injection z with z; simp [D.eqb, z]; done) | (simp [D.eqb]; done))
      | (obtain ⟨a, vs, e, _⟩ := rx; have z := e.symm.trans (show v = _ from ry); cases z; done)
      | (obtain ⟨a, vs, e, _⟩ := ry; have z := (show v = _ from rx).symm.trans e; cases z; done)
theorem eqAt_D {pins : List (Addr × Obj)} {σ : St} {H : Hp} {s : Shared} (I : Inv X pins σ H s) : ∀ (n : Nat) {A : Around} {x y : D} {v u : V} {a b : Value}, A.units + n < cLine → x.fit n = true → y.fit n = true → Rep X.K H x v → Rep X.K H y u → RelV v a → RelV u b → SeqAt.EqAt A s a b (D.eqb x y) := by
  intro n
  induction n with
  | zero =>
    intro A x y v u a b hu fx fy rx ry ra rb
    by_cases hbl : (∃ c, x = .bl c) ∨ ∃ c, y = .bl c
    · cases x <;> cases y <;> first | (simp [D.fit] at fx; done) | (simp [D.fit] at fy; done) | (rcases hbl with ⟨c, z⟩ | ⟨c, z⟩ <;> cases z; done) | skip
      case bl.bl => cases (show v = _ from rx); cases (show u = _ from ry); cases ra; cases rb; simp only [D.eqb]; exact SeqAt.EqAt.bool_bool _ _
      case bl.int => cases (show v = _ from rx); cases (show u = _ from ry); cases ra; obtain ⟨t, rfl⟩ := rb; simp only [D.eqb]; rw [← show ∀ i j : Int, (i == j) = decide (i = j) from fun i j => by rw [Bool.eq_iff_iff]; simp]; exact SeqAt.EqAt.bool_int _ _ _
      case int.bl => cases (show v = _ from rx); cases (show u = _ from ry); cases rb; obtain ⟨t, rfl⟩ := ra; simp only [D.eqb]; rw [← show ∀ i j : Int, (i == j) = decide (i = j) from fun i j => by rw [Bool.eq_iff_iff]; simp]; exact SeqAt.EqAt.int_bool _ _ _
      case bl.non => cases (show v = _ from rx); cases (show u = _ from ry); cases ra; cases rb; exact SeqAt.EqAt.bool_none _
      case non.bl => cases (show v = _ from rx); cases (show u = _ from ry); cases ra; cases rb; exact SeqAt.EqAt.none_bool _
      case bl.str => cases (show v = _ from rx); cases (show u = _ from ry); cases ra; obtain ⟨t, rfl⟩ := rb; exact SeqAt.EqAt.bool_str _ _ _
      case str.bl => cases (show v = _ from rx); cases (show u = _ from ry); cases rb; obtain ⟨t, rfl⟩ := ra; exact SeqAt.EqAt.str_bool _ _ _
    have key : flatV v = true ∧ flatV u = true ∧ eqV v u = D.eqb x y := by
      cases x <;> cases y <;> first | (simp [D.fit] at fx; done) | (simp [D.fit] at fy; done) | (exact absurd (.inl ⟨_, rfl⟩) hbl) | (exact absurd (.inr ⟨_, rfl⟩) hbl) | skip
      all_goals
        have e1 : v = _ := rx
        have e2 : u = _ := ry
        subst e1 e2
        refine ⟨rfl, rfl, ?_⟩
        first | rfl | (simp [eqV, D.eqb]; done) | (simp only [eqV, D.eqb]; exact Bool.beq_eq_decide_eq _ _)
    rw [← key.2.2]
    exact eqAt_V ra rb key.1 key.2.1
  | succ n ih =>
    intro A x y v u a b hu fx fy rx ry ra rb
    have hu0 : A.units < cLine := by omega
    have hu1 : A.in1.units + n < cLine := by rw [show A.in1.units = A.units + 1 from rfl]; omega
    cases x <;> cases y
    case tup.tup xs ys =>
      obtain ⟨p, vs, rfl, h1, h2⟩ := rx
      obtain ⟨q, us, rfl, h3, h4⟩ := ry
      cases ra
      cases rb
      by_cases hpq : p = q
      · subst hpq
        have := rep_one I (n + 1) fx fy (v := .ref p) ⟨p, vs, rfl, h1, h2⟩ ⟨p, us, rfl, h3, h4⟩
        rw [this]
        exact SeqAt.EqAt.same _
      · obtain ⟨its, w1, p1, _⟩ := I.tuple h1
        obtain ⟨its2, w2, p2, _⟩ := I.tuple h3
        have l1 := h2.length
        have l2 := h4.length
        have m1 := w1.length
        have m2 := w2.length
        simp only [D.fit] at fx fy
        have := SeqAt.RcAt.tuples (e := eD xs ys) p1 p2 hu0 (fun j j1 j2 => by
          obtain ⟨z1, e1, r1⟩ := w1.at j1
          obtain ⟨z2, e2, r2⟩ := w2.at j2
          obtain ⟨d1, g1, k1⟩ := h2.get' e1
          obtain ⟨d2, g2, k2⟩ := h4.get' e2
          have e : eD xs ys j = D.eqb d1 d2 := by unfold eD; rw [g1, g2]
          rw [e]
          exact ih hu1 (List.all_eq_true.mp fx d1 (List.mem_of_getElem? g1)) (List.all_eq_true.mp fy d2 (List.mem_of_getElem? g2)) k1 k2 r1 r2)
        rw [show its.toArray.size = xs.length by rw [List.size_toArray]; omega, show its2.toArray.size = ys.length by rw [List.size_toArray]; omega, ← eqbs_rng] at this
        simp only [D.eqb]
        exact SeqAt.EqAt.of_refs hpq this
    case lst.lst xs ys =>
      obtain ⟨p, vs, rfl, h1, h2⟩ := rx
      obtain ⟨q, us, rfl, h3, h4⟩ := ry
      cases ra
      cases rb
      by_cases hpq : p = q
      · subst hpq
        have := rep_one I (n + 1) fx fy (v := .ref p) ⟨p, vs, rfl, h1, h2⟩ ⟨p, us, rfl, h3, h4⟩
        rw [this]
        exact SeqAt.EqAt.same _
      · obtain ⟨its, w1, p1, _⟩ := I.list h1
        obtain ⟨its2, w2, p2, _⟩ := I.list h3
        have l1 := h2.length
        have l2 := h4.length
        have m1 := w1.length
        have m2 := w2.length
        simp only [D.fit] at fx fy
        simp only [D.eqb]
        refine SeqAt.EqAt.of_refs hpq ?_
        by_cases hl : xs.length = ys.length
        · have := SeqAt.RcAt.lists (e := eD xs ys) p1.isList p2.isList (by rw [List.size_toArray, List.size_toArray]; omega) hu0 (fun j j1 j2 => by
            obtain ⟨z1, e1, r1⟩ := w1.at j1
            obtain ⟨z2, e2, r2⟩ := w2.at j2
            obtain ⟨d1, g1, k1⟩ := h2.get' e1
            obtain ⟨d2, g2, k2⟩ := h4.get' e2
            have e : eD xs ys j = D.eqb d1 d2 := by unfold eD; rw [g1, g2]
            rw [e]
            exact ih hu1 (List.all_eq_true.mp fx d1 (List.mem_of_getElem? g1)) (List.all_eq_true.mp fy d2 (List.mem_of_getElem? g2)) k1 k2 r1 r2)
          rw [eqbs_rng, ← hl, Nat.min_self, beq_self_eq_true, Bool.and_true]
          rw [show its.toArray.size = xs.length by rw [List.size_toArray]; omega] at this
          exact this
        · rw [eqbs_rng, show (xs.length == ys.length) = false by simpa using hl, Bool.and_false]
          exact SeqAt.RcAt.lists_lengths p1.isList p2.isList (by rw [List.size_toArray, List.size_toArray]; simp only [bne_iff_ne, ne_eq]; omega) hu0
    case tup.lst xs ys =>
      obtain ⟨p, vs, rfl, h1, h2⟩ := rx
      obtain ⟨q, us, rfl, h3, h4⟩ := ry
      cases ra
      cases rb
      obtain ⟨its, w1, p1, _⟩ := I.tuple h1
      obtain ⟨its2, w2, p2, _⟩ := I.list h3
      exact SeqAt.EqAt.tuple_list p1 p2.isList hu0
    case lst.tup xs ys =>
      obtain ⟨p, vs, rfl, h1, h2⟩ := rx
      obtain ⟨q, us, rfl, h3, h4⟩ := ry
      cases ra
      cases rb
      obtain ⟨its, w1, p1, _⟩ := I.list h1
      obtain ⟨its2, w2, p2, _⟩ := I.tuple h3
      exact SeqAt.EqAt.list_tuple p1.isList p2 hu0
    case bl.tup => obtain ⟨p, vs, rfl, h1, _⟩ := ry; cases rb; cases (show v = _ from rx); cases ra; obtain ⟨its, w1, p1, _⟩ := I.tuple h1; exact SeqAt.EqAt.bool_tuple _ p1 hu0
    case bl.lst => obtain ⟨p, vs, rfl, h1, _⟩ := ry; cases rb; cases (show v = _ from rx); cases ra; obtain ⟨its, w1, p1, _⟩ := I.list h1; exact SeqAt.EqAt.bool_list _ p1.isList hu0
    case ty.tup => simp [D.fit] at fx
    case ty.lst => simp [D.fit] at fx
    case fn.tup => simp [D.fit] at fx
    case fn.lst => simp [D.fit] at fx
    case dic.tup => simp [D.fit] at fx
    case dic.lst => simp [D.fit] at fx
    case exc.tup => simp [D.fit] at fx
    case obj.tup => simp [D.fit] at fx
    case obj.lst => simp [D.fit] at fx
    case tup.obj => simp [D.fit] at fy
    case lst.obj => simp [D.fit] at fy
    case exc.lst => simp [D.fit] at fx
    case tup.dic => simp [D.fit] at fy
    case lst.dic => simp [D.fit] at fy
    case tup.exc => simp [D.fit] at fy
    case lst.exc => simp [D.fit] at fy
    case tup.bl => obtain ⟨p, vs, rfl, h1, _⟩ := rx; cases ra; cases (show u = _ from ry); cases rb; obtain ⟨its, w1, p1, _⟩ := I.tuple h1; exact SeqAt.EqAt.tuple_bool _ p1 hu0
    case lst.bl => obtain ⟨p, vs, rfl, h1, _⟩ := rx; cases ra; cases (show u = _ from ry); cases rb; obtain ⟨its, w1, p1, _⟩ := I.list h1; exact SeqAt.EqAt.list_bool _ p1.isList hu0
    case tup.ty => simp [D.fit] at fy
    case lst.ty => simp [D.fit] at fy
    case tup.fn => simp [D.fit] at fy
    case lst.fn => simp [D.fit] at fy
    case tup.int => obtain ⟨p, vs, rfl, h1, _⟩ := rx; cases ra; cases (show u = _ from ry); obtain ⟨t, rfl⟩ := rb; obtain ⟨its, w1, p1, _⟩ := I.tuple h1; exact SeqAt.EqAt.tuple_int _ _ p1 hu0
    case tup.non => obtain ⟨p, vs, rfl, h1, _⟩ := rx; cases ra; cases (show u = _ from ry); cases rb; obtain ⟨its, w1, p1, _⟩ := I.tuple h1; exact SeqAt.EqAt.tuple_none p1 hu0
    case tup.str => obtain ⟨p, vs, rfl, h1, _⟩ := rx; cases ra; cases (show u = _ from ry); obtain ⟨t, rfl⟩ := rb; obtain ⟨its, w1, p1, _⟩ := I.tuple h1; exact SeqAt.EqAt.tuple_str _ _ p1 hu0
    case lst.int => obtain ⟨p, vs, rfl, h1, _⟩ := rx; cases ra; cases (show u = _ from ry); obtain ⟨t, rfl⟩ := rb; obtain ⟨its, w1, p1, _⟩ := I.list h1; exact SeqAt.EqAt.list_int _ _ p1.isList hu0
    case lst.non => obtain ⟨p, vs, rfl, h1, _⟩ := rx; cases ra; cases (show u = _ from ry); cases rb; obtain ⟨its, w1, p1, _⟩ := I.list h1; exact SeqAt.EqAt.list_none p1.isList hu0
    case lst.str => obtain ⟨p, vs, rfl, h1, _⟩ := rx; cases ra; cases (show u = _ from ry); obtain ⟨t, rfl⟩ := rb; obtain ⟨its, w1, p1, _⟩ := I.list h1; exact SeqAt.EqAt.list_str _ _ p1.isList hu0
    case int.tup => obtain ⟨p, vs, rfl, h1, _⟩ := ry; cases rb; cases (show v = _ from rx); obtain ⟨t, rfl⟩ := ra; obtain ⟨its, w1, p1, _⟩ := I.tuple h1; exact SeqAt.EqAt.int_tuple _ _ p1 hu0
    case non.tup => obtain ⟨p, vs, rfl, h1, _⟩ := ry; cases rb; cases (show v = _ from rx); cases ra; obtain ⟨its, w1, p1, _⟩ := I.tuple h1; exact SeqAt.EqAt.none_tuple p1 hu0
    case str.tup => obtain ⟨p, vs, rfl, h1, _⟩ := ry; cases rb; cases (show v = _ from rx); obtain ⟨t, rfl⟩ := ra; obtain ⟨its, w1, p1, _⟩ := I.tuple h1; exact SeqAt.EqAt.str_tuple _ _ p1 hu0
    case int.lst => obtain ⟨p, vs, rfl, h1, _⟩ := ry; cases rb; cases (show v = _ from rx); obtain ⟨t, rfl⟩ := ra; obtain ⟨its, w1, p1, _⟩ := I.list h1; exact SeqAt.EqAt.int_list _ _ p1.isList hu0
    case non.lst => obtain ⟨p, vs, rfl, h1, _⟩ := ry; cases rb; cases (show v = _ from rx); cases ra; obtain ⟨its, w1, p1, _⟩ := I.list h1; exact SeqAt.EqAt.none_list p1.isList hu0
    case str.lst => obtain ⟨p, vs, rfl, h1, _⟩ := ry; cases rb; cases (show v = _ from rx); obtain ⟨t, rfl⟩ := ra; obtain ⟨its, w1, p1, _⟩ := I.list h1; exact SeqAt.EqAt.str_list _ _ p1.isList hu0
    all_goals
      refine ih (by omega) ?_ ?_ rx ry ra rb
      · first | rfl | (simp [D.fit] at fx; done) | (simp [D.fit]; done)
      · first | rfl | (simp [D.fit] at fy; done) | (simp [D.fit]; done)
def rNeN (K : PySem.W.Frag) : R2 := fun v u H Q => ∃ x y, x.same y = true ∧ x.fit 4 = true ∧ y.fit 4 = true ∧ Rep K H x v ∧ Rep K H y u ∧ Q (.bl (!D.eqb x y)) H
theorem op_neN (hu : X.A.units + 64 < cLine) : OpR X (compareOp .NotEq) (rNeN X.K) := by
  intro pins s σ H v u a b Q I ra rb h
  obtain ⟨x, y, hs, fx, fy, rx, ry, q⟩ := h
  have hu0 : X.A.units < cLine := by omega
  have hu1 : X.A.in1.units + 3 < cLine := by rw [show X.A.in1.units = X.A.units + 1 from rfl]; omega
  cases x <;> cases y <;> first | (simp [D.same] at hs; done) | skip
  case tup.tup xs ys =>
    obtain ⟨p, vs, rfl, h1, h2⟩ := rx
    obtain ⟨p', us, rfl, h3, h4⟩ := ry
    cases ra
    cases rb
    obtain ⟨its, w1, p1, _⟩ := I.tuple h1
    obtain ⟨its2, w2, p2, _⟩ := I.tuple h3
    have l1 := h2.length
    have l2 := h4.length
    have m1 := w1.length
    have m2 := w2.length
    simp only [D.fit] at fx fy
    refine SeqAt.RcNeAt.tuples (e := eD xs ys) p1 p2 hu0 (fun j j1 j2 => by
      obtain ⟨z1, e1, r1⟩ := w1.at j1
      obtain ⟨z2, e2, r2⟩ := w2.at j2
      obtain ⟨d1, g1, k1⟩ := h2.get' e1
      obtain ⟨d2, g2, k2⟩ := h4.get' e2
      have e : eD xs ys j = D.eqb d1 d2 := by unfold eD; rw [g1, g2]
      rw [e]
      exact eqAt_D I 3 hu1 (List.all_eq_true.mp fx d1 (List.mem_of_getElem? g1)) (List.all_eq_true.mp fy d2 (List.mem_of_getElem? g2)) k1 k2 r1 r2) _ _ _ _ ?_
    rw [show its.toArray.size = xs.length by rw [List.size_toArray]; omega, show its2.toArray.size = ys.length by rw [List.size_toArray]; omega, ← eqbs_rng]
    simp only [D.eqb] at q
    exact ⟨.bl _, H, I, rfl, q⟩
  case lst.lst xs ys =>
    obtain ⟨p, vs, rfl, h1, h2⟩ := rx
    obtain ⟨p', us, rfl, h3, h4⟩ := ry
    cases ra
    cases rb
    obtain ⟨its, w1, p1, _⟩ := I.list h1
    obtain ⟨its2, w2, p2, _⟩ := I.list h3
    have l1 := h2.length
    have l2 := h4.length
    have m1 := w1.length
    have m2 := w2.length
    simp only [D.fit] at fx fy
    simp only [D.eqb] at q
    rw [eqbs_rng] at q
    by_cases hl : xs.length = ys.length
    · refine SeqAt.RcNeAt.lists (e := eD xs ys) p1.isList p2.isList (by rw [List.size_toArray, List.size_toArray]; omega) hu0 (fun j j1 j2 => by
        obtain ⟨z1, e1, r1⟩ := w1.at j1
        obtain ⟨z2, e2, r2⟩ := w2.at j2
        obtain ⟨d1, g1, k1⟩ := h2.get' e1
        obtain ⟨d2, g2, k2⟩ := h4.get' e2
        have e : eD xs ys j = D.eqb d1 d2 := by unfold eD; rw [g1, g2]
        rw [e]
        exact eqAt_D I 3 hu1 (List.all_eq_true.mp fx d1 (List.mem_of_getElem? g1)) (List.all_eq_true.mp fy d2 (List.mem_of_getElem? g2)) k1 k2 r1 r2) _ _ _ _ ?_
      rw [← hl, Nat.min_self, beq_self_eq_true, Bool.and_true] at q
      rw [show its.toArray.size = xs.length by rw [List.size_toArray]; omega]
      exact ⟨.bl _, H, I, rfl, q⟩
    · rw [show (xs.length == ys.length) = false by simpa using hl, Bool.and_false] at q
      exact SeqAt.RcNeAt.lists_lengths p1.isList p2.isList (by rw [List.size_toArray, List.size_toArray]; simp only [bne_iff_ne, ne_eq]; omega) hu0 _ _ _ _ ⟨.bl _, H, I, rfl, q⟩
theorem oS_neN : OpS K (rNeN K) neND := fun F H x y v u P Q s rx ry w q => by
  obtain ⟨hs, fx, fy, w⟩ := w
  exact ⟨x, y, hs, fx, fy, rx, ry, q _ _ F H w (Ext.refl s) rfl⟩
end
end L2

namespace L2
open PySem PySem.Spec PyProof.Rows
structure BltV (mg : Str → Option Value) : Prop extends Blt mg where
  abs : mg "abs" = none
  any : mg "any" = none
  sum : mg "sum" = none
  sorted : mg "sorted" = none
  set : mg "set" = none
  enumerate : mg "enumerate" = none
  dict : mg "dict" = none
  str : mg "str" = none
  divmod : mg "divmod" = none
  ord : mg "ord" = none
abbrev DTb := List (Str × DSp)
def dCallL (i n : Nat) (tb : DTb) (As : DA) : DO := fun δ P => match δ[i]? with
  | some (some (.own (.fz (.fn x)))) => ∃ sp, (x, sp) ∈ tb ∧ As δ fun ds => ds.length = n ∧ sp ds P
  | _ => False
def dCallLB (i n : Nat) (tb : DTb) (As : DA) : DO := fun δ P => match δ[i]? with
  | some (some (.own (.fz (.fn x)))) => ∃ sp, (x, sp) ∈ tb ∧ As δ fun ds => ds.length = n ∧ sp ds fun r => r.lf = true ∧ P r
  | _ => False
abbrev DIO := List OV → List D → (List OV → Prop) → Prop
def sCallIO (i n : Nat) (sp : DIO) (As : DA) : DS := fun De δ => match δ[i]? with
  | some (some (.own (.nl ts))) => As δ fun ds => ds.length + 1 = n ∧ sp ts ds fun ts' => De.nx (δ.set i (some (.own (.nl ts'))))
  | _ => False
def startIO (N : List Str) (a : Addr) (ts : List OV) (ds : List D) : Dst := some (.own (.rt a ts)) :: (ds.map (fun d => some (.own (.fz d))) ++ List.replicate (N.length - (ds.length + 1)) none)
def sTag (i : Nat) (T : DS) : DS := fun De δ => match δ[i]? with
  | some (some (.own (.rt a ts))) => T { De with nx := fun δ' => match δ'[i]? with
      | some (some (.own (.nl ts'))) => De.nx (δ'.set i (some (.own (.rt a ts'))))
      | _ => False } (δ.set i (some (.own (.nl ts))))
  | _ => False
def gB (i : Nat) : D → Dst → (Dst → Prop) → Prop := fun d δ P => P (δ.set i (some (.bw d)))
def dCompB (El : DE) (ix : List (Option Nat)) (Eo : DO) : DO := fun δ P => El δ fun d => match d with
  | .lst ds => CmpW (gB 0) Eo ds (blkD ix δ) P
  | _ => False
section
variable {K : PySem.W.Frag} {X : Cx} {mg : Str → Option Value}
theorem Cal.mono {P : Program} {w : World} {base : Heap} {x : Str} {j k : Nat} {ps : List Str} {sp : Sp} (C : Cal P w K mg base x j ps sp) (h : j ≤ k) : Cal P w K mg base x k ps sp := by
  obtain ⟨f, fd, F, a, b, c⟩ := C.ex
  exact ⟨f, fd, F.mono h, a, b, c⟩
def spIO (K : PySem.W.Frag) (n : Nat) (sp : DIO) : Sp := spL n fun vs H Q => ∃ F a ts vs0 B rest ds P, vs = V.ref a :: rest ∧ Same F H ∧ H a = some (.lst vs0) ∧ RepOs K F H ts vs0 B ∧ (a :: B).Nodup ∧ (∀ b ∈ a :: B, F b = none) ∧ Reps K F ds rest ∧ sp ts ds P ∧
  ∀ ts' F' H' vs' B', P ts' → Same F F' → Same F' H' → (∀ b o, b ∉ a :: B → H b = some o → H' b = some o) → (∀ b o, F b = none → H b = some o → imm o = false → b ∉ a :: B → F' b = none) → H' a = some (.lst vs') → RepOs K F' H' ts' vs' B' → (a :: B').Nodup →
    (∀ b ∈ a :: B', F' b = none ∧ (b ∈ a :: B ∨ H b = none)) → Q .non H'
theorem CalIO.of {P : Program} {w : World} {base : Heap} {x : Str} {st : Stmt} {f : Addr} {fd : FuncData} {N ps : List Str} {k n : Nat} {sp : DIO} (Df : DefAt K mg x st f fd) (S : FnScope N ps (defScope st))
    (hb : ∀ (kV doc pm : Value) (an : Option Addr) (cdv ct : Value) (us : List Value), us.length = ps.length → bindArgs (PySem.W.fnOf x x (defArgs st) (defBody st) (defScope st) .none kV doc pm an cdv ct) ⟨us, []⟩ = pure (ps.zip us)) (hn : n = ps.length)
    (hbody : ∀ (cdv : Value) (A : Around) (outer : List Env) (s : Shared) (H : Hp) (E : XK), Room k (A.deeper (envOfC x (defScope st) s.heap.objs.size f cdv)) →
      ∃ t T, PSs (cxOf CX0 P w K mg base N x (defScope st) f cdv A outer s H E).nox (defBody st) t ∧ SimS K t T ∧ ∀ (a : Addr) ts ds Pr, sp ts ds Pr → T { nx := fun δ => ∃ ts', δ[0]? = some (some (.own (.rt a ts'))) ∧ Pr ts', rt := fun _ => False } (startIO N a ts ds)) : Cal P w K mg base x (k + 1) ps (spIO K n sp) :=
  Cal.of Df S hb (fun vs H Q E h => by rw [← hn]; exact h.1) fun cdv A outer s H vs Q E hr h => by
    obtain ⟨_, F, a, ts, vs0, B, rest, ds, Pr, rfl, hs, ha, hB, hnd, hnf, hr', hsp, hq⟩ := h
    obtain ⟨t, T, h1, h2, h3⟩ := hbody cdv A outer s H E hr
    have hl := hr'.length
    have er : ER K F (fun b => if b ∈ a :: B then none else H b) F H (start N (V.ref a :: rest)) (startIO N a ts ds) (fun j => if j = 0 then a :: B else []) := by
      refine ⟨by simp [start, startIO, hl], ⟨Same.refl _, fun b o z => ?_, hs, fun _ _ z _ _ => z⟩, fun i t hi => ?_, fun i d hi => ?_, fun j => ?_, fun j k b hjk y1 y2 => ?_, fun j b hb => ?_⟩
      · try dsimp only at z
        split at z
        · cases z
        · exact z
      · unfold startIO at hi
        cases i with
        | zero =>
          simp at hi
          subst hi
          exact ⟨.ref a, rfl, vs0, B, rfl, rfl, ha, hB⟩
        | succ i =>
          rw [List.getElem?_cons_succ] at hi
          try dsimp only
          rw [if_neg (by omega)]
          by_cases z : i < ds.length
          · rw [List.getElem?_append_left (by simpa using z), List.getElem?_map, List.getElem?_eq_getElem z] at hi
            simp at hi
            subst hi
            obtain ⟨v, g1, g2⟩ := hr'.get (List.getElem?_eq_getElem z)
            refine ⟨v, ?_, rfl, g2⟩
            unfold start
            rw [List.map_cons, List.cons_append, List.getElem?_cons_succ, List.getElem?_append_left (by simp; omega), List.getElem?_map, g1]
            rfl
          · rw [List.getElem?_append_right (by simpa using z)] at hi
            have := List.mem_of_getElem? hi
            rw [List.mem_replicate] at this
            cases this.2
      · unfold startIO at hi
        cases i with
        | zero => simp at hi
        | succ i =>
          rw [List.getElem?_cons_succ] at hi
          by_cases z : i < ds.length
          · rw [List.getElem?_append_left (by simpa using z), List.getElem?_map, List.getElem?_eq_getElem z] at hi
            simp at hi
          · rw [List.getElem?_append_right (by simpa using z)] at hi
            have := List.mem_of_getElem? hi
            rw [List.mem_replicate] at this
            cases this.2
      · try dsimp only
        split
        · exact hnd
        · exact List.nodup_nil
      · try dsimp only at y1 y2
        split at y1
        · split at y2
          · omega
          · cases y2
        · cases y1
      · try dsimp only at hb
        split at hb
        · refine ⟨hnf b hb, if_pos hb, ?_⟩
          rcases List.mem_cons.mp hb with y | y
          · rw [y]; exact ⟨_, ha, rfl⟩
          · exact hB.isl b y
        · cases hb
    refine ⟨t, h1, h2 F _ F H (start N (V.ref a :: rest)) (startIO N a ts ds) { nx := fun δ => ∃ ts', δ[0]? = some (some (.own (.rt a ts'))) ∧ Pr ts', rt := fun _ => False } _ ⟨_, er⟩ ⟨fun F' H' σ δ e p => ?_, fun _ _ _ _ _ z => z.elim, fun _ _ _ _ _ z => z.elim, fun _ _ _ _ _ _ z => z.elim⟩ (h3 a ts ds Pr hsp)⟩
    obtain ⟨A', e⟩ := e
    obtain ⟨ts', h0, hp⟩ := p
    obtain ⟨v, hv, vs', B', rfl, eA, g1, g2⟩ := e.own 0 _ h0
    have hn' := e.nod 0
    rw [eA] at hn'
    refine hq ts' F' H' vs' B' hp e.ext.ff e.ext.fh (fun b o y z => ?_) (fun b o y1 y2 y3 y4 => ?_) g1 g2 hn' (fun b hb => ?_)
    · exact e.ext.hh b o (by rw [if_neg y]; exact z)
    · exact e.ext.no b o y1 (by rw [if_neg y4]; exact y2) y3
    · obtain ⟨z1, z2, _⟩ := e.new 0 b (by rw [eA]; exact hb)
      refine ⟨z1, ?_⟩
      by_cases q : b ∈ a :: B
      · exact .inl q
      · rw [if_neg q] at z2; exact .inr z2
end
end L2

namespace L2
open PySem PySem.Spec PyProof.Rows
section
variable {K : PySem.W.Frag} {X : Cx}
theorem Reps.pick {F : Hp} {ds : List D} {vs : List V} (h : Reps K F ds vs) : ∀ (js : List Nat), Reps K F (js.filterMap (ds[·]?)) (js.filterMap (vs[·]?))
  | [] => rfl
  | j :: js => by
    have ih := Reps.pick h js
    have hl := h.length
    by_cases hj : j < ds.length
    · obtain ⟨v, hv, rv⟩ := h.get (i := j) (d := ds[j]) (by simp [hj])
      have e1 : ds[j]? = some ds[j] := by simp [hj]
      rw [List.filterMap_cons_some e1, List.filterMap_cons_some hv]
      exact ⟨v, _, rfl, rv, ih⟩
    · have e1 : ds[j]? = none := by simp; omega
      have e2 : vs[j]? = none := by simp; omega
      rw [List.filterMap_cons_none e1, List.filterMap_cons_none e2]
      exact ih
theorem Reps.step {F : Hp} {ds : List D} {vs : List V} (h : Reps K F ds vs) (c : Int) : Reps K F (stepG ds c) (stepG vs c) := by
  unfold stepG
  rw [h.length]
  exact h.pick _
structure DefAtD (K : PySem.W.Frag) (mg : Str → Option Value) (x : Str) (st : Stmt) (f : Addr) (fd : FuncData) (T : Addr) (items : Array Value) : Prop where
  ex : ∃ (oc : Value) (od : Option Addr) (kV doc pm : Value) (an : Option Addr) (cdv ct : Value) (osl : Array (Option Value)),
    fd = PySem.W.fnOf x x (defArgs st) (defBody st) (defScope st) (.ref T) kV doc pm an cdv ct ∧ K.lookup f = some ⟨oc, od, .func fd, osl⟩ ∧ PySem.W.codeIn K cdv x = true
  tup : ∃ o n, K.lookup T = some o ∧ o.data = .seq items n
  kp : PySem.W.keepIn K (.ref f) = true
  here : mg x = some (.ref f)
structure CalD (P : Program) (w : World) (K : PySem.W.Frag) (mg : Str → Option Value) (base : Heap) (x : Str) (k : Nat) (ps : List Str) (sp : Sp) (dvs : List V) : Prop where
  ex : ∃ f fd ds, FnOk P w K mg base CX0 k f fd ps sp ∧ mg x = some (.ref f) ∧ PySem.W.keepIn K (.ref f) = true ∧ Binds K fd ps [] ∧ Binds K fd ps ds ∧ Vals dvs ds
theorem CalVD.of {P : Program} {w : World} {mg : Str → Option Value} {base : Heap} {x : Str} {st : Stmt} {f T : Addr} {items : Array Value} {fd : FuncData} {N ps : List Str} {k n : Nat} {sp : DSp} {ds : List Value} {dvs : List V} (Df : DefAtD K mg x st f fd T items) (S : FnScope N ps (defScope st))
    (hb : ∀ (kV doc pm : Value) (an : Option Addr) (cdv ct : Value) (us : List Value), us.length = ps.length → ∃ k, bindArgs (PySem.W.fnOf x x (defArgs st) (defBody st) (defScope st) (.ref T) kV doc pm an cdv ct) ⟨us, []⟩ = seqItems? (.ref T) >>= k ∧ k (some items) = pure (ps.zip us))
    (hb2 : ∀ (kV doc pm : Value) (an : Option Addr) (cdv ct : Value) (us : List Value), (us ++ ds).length = ps.length → ∃ k, bindArgs (PySem.W.fnOf x x (defArgs st) (defBody st) (defScope st) (.ref T) kV doc pm an cdv ct) ⟨us, []⟩ = seqItems? (.ref T) >>= k ∧ k (some items) = pure (ps.zip (us ++ ds)))
    (hv : Vals dvs ds) (hn : n = ps.length)
    (hbody : ∀ (cdv : Value) (A : Around) (outer : List Env) (s : Shared) (H : Hp) (E : XK), Room k (A.deeper (envOfC x (defScope st) s.heap.objs.size f cdv)) →
      ∃ t T, PSs (cxOf CX0 P w K mg base N x (defScope st) f cdv A outer s H E).nox (defBody st) t ∧ SimS K t T ∧ ∀ ds Pr, sp ds Pr → T { nx := fun _ => Pr (.fz .non), rt := Pr } (startV N ds)) : CalD P w K mg base x (k + 1) ps (spV K n sp) dvs := by
  obtain ⟨oc, od, kV, doc, pm, an, cdv, ct, osl, rfl, lk, hcd⟩ := Df.ex
  obtain ⟨o, m, ht, hs⟩ := Df.tup
  refine ⟨f, _, ds, fn_of lk hcd S (fun vs H Q E h => by rw [← hn]; exact h.1) (fun A outer s H vs Q E hr h => ?_), Df.here, Df.kp, fun s us KX hl => ?_, fun s us KX hl => ?_, hv⟩
  · obtain ⟨_, F, ds', Pr, hs', hr', hsp, hq⟩ := h
    obtain ⟨t, T', h1, h2, h3⟩ := hbody cdv A outer s H E hr
    refine ⟨t, h1.nox, h2 F H F H (start N vs) (startV N ds') { nx := fun _ => Pr (.fz .non), rt := Pr } _ ⟨_, startV_er hs' hr'⟩ ⟨fun F' H' σ δ e p => ?_, fun _ _ _ _ _ z => z.elim, fun _ _ _ _ _ z => z.elim, fun F' H' r v x n p => hq r v F' H' p x n⟩ (h3 ds' Pr hsp)⟩
    exact hq _ _ F' H' p e.ext (.fz rfl)
  · rw [List.append_nil] at hl ⊢
    obtain ⟨k', e1, e2⟩ := hb kV doc pm an cdv ct us hl
    exact PySem.W.binds_K KX rfl ht hs e1 e2
  · obtain ⟨k', e1, e2⟩ := hb2 kV doc pm an cdv ct us hl
    exact PySem.W.binds_K KX rfl ht hs e1 e2
end
end L2

namespace L2
open PySem PySem.Spec PyProof.Rows
def dRngD (As : DA) : DA := fun δ P => As δ fun ds => match ds with
  | [.int i, .int j, .int c] => c = -1 ∧ (-(2 ^ 61) ≤ i ∧ i < 2 ^ 61 ∧ -(2 ^ 61) ≤ j ∧ j < 2 ^ 61) ∧ P (rng i (-1) (i - j).toNat)
  | _ => False
section
variable {X : Cx} {K : PySem.W.Frag} {tg : Expr}
end
end L2

namespace L2
open PySem PySem.Spec PyProof.Rows
def ibN (i : Int) : Nat := if i = 0 then 0 else i.natAbs.log2 + 1
def CMulB (i j : Int) : Prop := ibN i ≤ 2000000 ∧ ibN j ≤ 2000000
theorem ibN_abs {i : Int} : ibN (i.natAbs : Int) = ibN i := by
  unfold ibN
  by_cases h : i = 0
  · subst h; rfl
  · rw [if_neg h, if_neg (by omega)]; rfl
theorem ibN_lt {i : Int} {n : Nat} (h1 : -(2 ^ n) < i) (h2 : i < 2 ^ n) : ibN i ≤ n := by
  unfold ibN
  split
  · exact Nat.zero_le _
  · have hp : ((2 ^ n : Nat) : Int) = (2 : Int) ^ n := by simp
    rw [← hp] at h1 h2
    have hn : i.natAbs < 2 ^ n := by omega
    have : i.natAbs.log2 < n := (Nat.log2_lt (by omega)).mpr hn
    omega
def sAugI2 (i : Nat) (g : Int → Int → Int) (Ek Em E : DE) : DS := fun De δ => match δ[i]? with
  | some (some (.own (.nl ts))) => Ek δ fun k => match k with
    | .int k => ∃ j us, ixN ts.length k = some j ∧ ts[j]? = some (.nl us) ∧ Em δ fun m => match m with
      | .int m => 0 ≤ m ∧ ∃ x, us[m.toNat]? = some (.fz (.int x)) ∧ E δ fun y => match y with
        | .int y => De.nx (δ.set i (some (.own (.nl (ts.set j (.nl (us.set m.toNat (.fz (.int (g x y))))))))))
        | _ => False
      | _ => False
    | _ => False
  | _ => False
section
variable {K : PySem.W.Frag} {X : Cx}
theorem ibN_eq {i : Int} : Builtin.Int.intBits i = ibN i := by
  unfold Builtin.Int.intBits ibN
  by_cases h : i = 0
  · subst h; rfl
  · simp [h]
theorem op_mulB : OpR X (binaryOp .Mult) (rI CMulB fun i j => .int (i * j)) := opI fun i j _ _ _ _ _ hc q => mul_int q (by
  unfold IntMulOk
  have e : Builtin.Int.intTooBig (Builtin.Int.intBits i + Builtin.Int.intBits j) = false := by
    unfold Builtin.Int.intTooBig
    rw [ibN_eq, ibN_eq]
    have h1 := hc.1
    have h2 := hc.2
    exact decide_eq_false (by have : (bitsLine : Int) = 2 ^ 27 := rfl; omega)
  rw [e]; simp)
def spLawB (K : PySem.W.Frag) : Sp := spL 1 fun vs H Q => ∃ (a : Addr) (ns : List Int), vs = [.ref a] ∧ SqL K H a (ns.map V.int) ∧ ns.length ≤ 63 ∧ (∀ m ∈ ns, ibN m ≤ 1048576) ∧ ∀ H', Q (.bl true) H'
theorem weight_ints : ∀ (ns : List Int), (∀ m ∈ ns, ibN m ≤ PySem.W.WData.weightAll (ns.map PySem.W.WData.int))
  | [], m, h => by cases h
  | n :: ns, m, h => by
    rw [List.map_cons]
    simp only [PySem.W.WData.weightAll]
    rcases List.mem_cons.mp h with rfl | h
    · have : ibN m = PySem.W.WData.weight (PySem.W.WData.int m) := by
        unfold ibN
        simp only [PySem.W.WData.weight]
        by_cases z : m = 0
        · subst z; rfl
        · simp [z]
      omega
    · have := weight_ints ns m h
      omega
end
end L2
namespace Att
open PySem PySem.W PySem.Calls PyProof.Rows
theorem attach_callB {l : OpenLaw} {n : Nat} {q : Program} {loose : List Str} {XP : (Str → Option Value) → Heap → Prop} {YP : World → Heap → Prop} {d : DefRec}
    (hn : l.most = some n) (hdf : d.params.defaults = [])
    (call : ∀ (w : World) (s₀ s₁ : Shared) (mg mb : Str → Option Value) (fa : Addr) (o : Obj) (pm cd doc : Value) (a : Addr) (vs : List Value) (ns : List Int),
      Ground q loose [] XP w s₀ mg mb s₁.heap → YP w s₁.heap →
      s₁.heap.get? fa = some o → o.data = .func (docDef d.name d.params d.body d.scope pm cd doc) → s₁.heap.CodeRec cd d.name → mg d.name = some (.ref fa) →
      s₁.heap.get? a = some { cls := .type "list", data := .seq vs.toArray } → IntsAre vs ns → ns.length ≤ n → (∀ m ∈ ns, L2.ibN m ≤ 1048576) → s₁.gens = #[] →
      codeAny (model l.prog w) callerA (.call (.ref fa) ⟨[.ref a], []⟩) (fun r s' => r = .ok (.ret (.bool true)) ∧ OldK s₁.heap s'.heap ∧ s'.os = s₁.os ∧ AllBare s'.gens) s₁) :
    WalkO q loose XP YP l.row.toRowW d [] (fun f vs => PySem.call f vs) := by
  intro w s₀ s₁ mg mb G Y fa o pm cd doc dV kV ho hd hcd hD hmg hg args vals as hpre hlay hrd hwl hlo
  obtain rfl : dV = .none := Dflts.none hD hdf
  obtain rfl : kV = .none := Dflts.noKw hD
  obtain ⟨a, vs, ns, rfl, rfl, hobj, hints, hlen⟩ := script_of hn hpre hwl
  have hbits : ∀ m ∈ ns, L2.ibN m ≤ 1048576 := fun m hm => by
    have h1 := L2.weight_ints ns m hm
    have h2 : WData.weight (WData.list (ns.map WData.int)) ≤ 2 ^ 20 := by
      simp only [WData.layableAll, List.all_cons, WData.layable, Bool.and_eq_true, decide_eq_true_eq] at hlay
      exact hlay.1.2
    simp only [WData.weight] at h2
    omega
  refine enter_call (codeAny_mono (call w s₀ s₁ mg mb fa o pm cd doc a vs ns G Y ho (fd_plain hd) hcd hmg hobj hints hlen hbits hg) fun r s' hq => ?_)
  obtain ⟨rfl, h2, h3, h4⟩ := hq
  exact ⟨.inl ⟨.bool true, .bool true, [], rfl, fun _ => rfl, .bool true, post_true l _, fun _ => ⟨List.Pairwise.nil, fun _ hm => (nomatch hm)⟩⟩, h2, h3, h4⟩
end Att
namespace L2
open PySem PySem.Spec PyProof.Rows
theorem law_walkB {l : PySem.W.OpenLaw} {k : Nat} {q : Program} {loose : List Str} {XP : (Str → Option Value) → Heap → Prop} {YP : World → Heap → Prop} {d : DefRec} {K : Params → PySem.W.Frag} (hn : l.most = some 63) (hdf : d.params.defaults = []) (hr : Room k callerA)
    (hY : ∀ (w : World) (h : Heap), YP w h → (K w.params).In h)
    (F : ∀ (w : World) (mg : Str → Option Value) (fa : Addr) (h : Heap), (K w.params).In h → h.Ns mainGlobals mg → mg d.name = some (.ref fa) →
      ∃ fd : FuncData, (∀ (s : Shared) (u : Value), BindsTo s fd ⟨[u], []⟩ [("_law_script", u)]) ∧ ∀ base : Heap, (K w.params).In base → base.Ns mainGlobals mg → FnOk l.prog w (K w.params) mg base CX0 k fa fd ["_law_script"] (spLawB (K w.params))) :
    PySem.W.WalkO q loose XP YP l.row.toRowW d [] (fun f vs => PySem.call f vs) := by
  refine Att.attach_callB hn hdf fun w s₀ s₁ mg mb fa o pm cd doc a vs ns G Y ho hd hcd hmg hobj hints hlen hbits hg => ?_
  have KX := hY w _ Y
  obtain ⟨fd, hb, hF⟩ := F w mg fa _ KX G.T.g hmg
  exact law_call (CX := CX0) (sp := spLawB (K w.params)) KX G.T.g G.T.b G.T.builtins G.T.nolimit hg hobj hints (Nat.le_trans hlen (by decide)) hr hF hb (fun H hO hS => ⟨rfl, a, ns, rfl, hS, hlen, hbits, fun _ => rfl⟩) fun H e s' z => z
theorem law_okB {P : Program} {w : World} {K : PySem.W.Frag} {mg : Str → Option Value} {base : Heap} {st : Stmt} {f : Addr} {fd : FuncData} {N : List Str} {k : Nat} (Df : DefAt K mg "law" st f fd) (S : FnScope N ["_law_script"] (defScope st))
    (hbody : ∀ (cdv : Value) (A : Around) (outer : List Env) (s : Shared) (H : Hp) (E : XK), Room k (A.deeper (envOfC "law" (defScope st) s.heap.objs.size f cdv)) →
      ∃ t T, PSs (cxOf CX0 P w K mg base N "law" (defScope st) f cdv A outer s H E).nox (defBody st) t ∧ SimS K t T ∧ ∀ ns : List Int, ns.length ≤ 63 → (∀ m ∈ ns, ibN m ≤ 1048576) → T { nx := fun _ => False, rt := fun r => r = .fz (.bl true) } (startV N [.lst (ns.map .int)])) : FnOk P w K mg base CX0 (k + 1) f fd ["_law_script"] (spLawB K) :=
  Df.fn.ok S (fun vs H Q E h => h.1) fun cdv A outer s H vs Q E hr h => by
    obtain ⟨_, a, ns, rfl, hS, hlen, hbits, q⟩ := h
    obtain ⟨t, T, h1, h2, h3⟩ := hbody cdv A outer s H E hr
    have hr' : Reps K H [.lst (ns.map D.int)] [.ref a] := ⟨_, _, rfl, ⟨a, _, rfl, hS, reps_ints.mpr rfl⟩, rfl⟩
    refine ⟨t, h1, h2 H H H H (start N [.ref a]) (startV N [.lst (ns.map .int)]) { nx := fun _ => False, rt := fun r => r = .fz (.bl true) } _ ⟨_, startV_er (Same.refl H) hr'⟩ ⟨fun F' H' σ δ e p => p.elim, fun _ _ _ _ _ z => z.elim, fun _ _ _ _ _ z => z.elim, fun F' H' r v x n p => ?_⟩ (h3 ns hlen hbits)⟩
    subst p
    obtain ⟨A, n1, _⟩ := n
    have : v = .bl true := n1.2
    subst this
    exact q H'
end L2

namespace L2
open PySem PySem.Spec PyProof.Rows
def dEnum (As : DA) : DA := fun δ P => As δ fun ds => match ds with
  | [.lst xs] => xs.length ≤ 1000000 ∧ P ((List.range xs.length).map fun (i : Nat) => D.tup [.int i, xs.getD i .non])
  | _ => False
abbrev DMV := List OV → List D → (OV → Prop) → Prop
def dCallM (n : Nat) (sp : DMV) (Eo : DO) (As : DA) : DO := fun δ P => Eo δ fun r => match r with
  | .nl ts => As δ fun ds => ds.length + 1 = n ∧ sp ts ds P
  | _ => False
def startMV (N : List Str) (ts : List OV) (ds : List D) : Dst := some (.own (.nl ts)) :: (ds.map (fun d => some (.own (.fz d))) ++ List.replicate (N.length - (ds.length + 1)) none)
section
variable {X : Cx} {K : PySem.W.Frag} {mg : Str → Option Value}
theorem Inv.turned2 {pins : List (Addr × Obj)} {σ : St} {H : Hp} {s : Shared} {h' : Heap} {t' : Nat} {a1 a2 : Addr} (I : Inv X pins σ H s) (k : ∀ b o, b ≠ a1 → b ≠ a2 → s.heap.get? b = some o → h'.get? b = some o) (f1 : FpOk X pins H a1) (f2 : FpOk X pins H a2) : Inv X pins σ H { s with heap := h', toks := t' } := by
  obtain ⟨p0, p1, p2, p3, p4, p5⟩ := f1
  obtain ⟨q0, q1, q2, q3, q4, q5⟩ := f2
  have n1 : ∀ b u, H b = some u → b ≠ a1 := fun b u e z => by rw [z, p0] at e; cases e
  have n2 : ∀ b u, H b = some u → b ≠ a2 := fun b u e z => by rw [z, q0] at e; cases e
  have kk : ∀ b o, b ∉ [a1, a2] → s.heap.get? b = some o → h'.get? b = some o := fun b o hc e => k b o (fun z => hc (by simp [z])) (fun z => hc (by simp [z])) e
  refine I.step (g' := s.gens) (d' := s.drawn) (ch := [a1, a2]) (fun b hb => ?_) (fun b o _ _ hc e _ => kk b o hc e) (fun b o _ _ hc e _ => ⟨o.slots, kk b o hc e⟩) (fun _ _ _ _ n => n)
    (fun b o hc e => ⟨o, kk b o hc e⟩) (fun _ _ e => e) (fun _ _ _ e => e) (fun b ps e => ⟨#[], by rw [e]; simp⟩) (fun m hm => ?_) (fun b u e => ?_) I.bare
  · have e : b = a1 ∨ b = a2 := by simpa using hb
    rcases e with e | e
    · subst e
      exact ⟨p3, p1, p4, p5⟩
    · subst e
      exact ⟨q3, q1, q4, q5⟩
  · obtain ⟨o, es, ep, ho, r⟩ := hm
    exact ⟨o, es, ep, k _ o (Ne.symm p1) (Ne.symm q1) ho, r⟩
  · refine (I.hok b u e).stay (fun c v hc q => k c v ?_ ?_ q) (fun _ q => q) fun _ _ q => q
    · rcases hc with z | z
      · rw [z]; exact n1 b u e
      · exact n1 c _ z
    · rcases hc with z | z
      · rw [z]; exact n2 b u e
      · exact n2 c _ z
def Ite (K : PySem.W.Frag) (a : Addr) (xs : List V) : It :=
  ⟨fun i H => SqL K H a xs ∧ i < xs.length, fun i H x H' => ∃ p y, x = .ref p ∧ H p = none ∧ Same H H' ∧ xs[i]? = some y ∧ H' p = some (.tup [.int i, y]), fun i H => SqL K H a xs ∧ xs.length ≤ i⟩
theorem turn_enum {P : Program} {w : World} {K : PySem.W.Frag} {elts : List Expr} {x1 : Nat} {tpos : Pos} (a e it : Addr) (xs : List V) (hne : e ≠ it) :
    Turn P w K (.Tuple elts x1 tpos) (Ite K a xs) [e, it] e (fun i h => ∃ old, IsEnum h e it (i : Nat) old ∧ h.IsListIter it a i) where
  mem := by simp
  obj := fun i h st b hb => by
    obtain ⟨old, h1, h2⟩ := st
    have hb' : b = e ∨ b = it := by simpa using hb
    rcases hb' with z | z
    · subst z
      exact ⟨_, h1, fun v z => by cases z⟩
    · subst z
      obtain ⟨o, q1, q2, q3⟩ := h2
      exact ⟨o, q1, fun v z => by rw [q3] at z; cases z⟩
  keep := fun i h h' st k => by
    obtain ⟨old, h1, h2⟩ := st
    exact ⟨old, k e (by simp) _ h1, h2.at fun o q => k it (by simp) o q⟩
  item := by
    intro X hP hw hK hc i pins s σ H E I hf st hg
    subst hP hw hK
    obtain ⟨old, h1, h2⟩ := st
    obtain ⟨hq, hi⟩ := hg
    obtain ⟨its, rv, p, hz⟩ := I.list hq
    obtain ⟨u, hu, ru⟩ := rv.get (i := i) (x := xs[i]) (by simp [hi])
    refine wpAny_pyNext_enum_item h1 h2 p.isList (x := u) (by simpa using hu) hne fun h' g1 g2 g3 g4 g5 => ?_
    refine ⟨_, rfl, wpAny_letOwnedTupleGo_enum g1 fun h'' k1 k2 => ?_⟩
    have hf' := I.hok.fresh (Nat.le_refl _)
    have I0 : Inv X pins σ (upd H s.heap.objs.size (.tup [.int i, xs[i]])) { s with heap := s.heap.push { cls := .type "tuple", data := .seq #[.int i s.toks, u] }, toks := s.toks } :=
      I.laid (t' := s.toks) (o := .tup [.int i, xs[i]]) (fun b ob q => Heap.get?_push_of_some _ q) (Nat.le_refl _) ⟨sz_le (n := 2) (by decide), [.int i s.toks, u], .cons ⟨_, rfl⟩ (.cons ru .nil), ⟨_, Heap.get?_push_size _ rfl, rfl, _, rfl⟩⟩
    have fe : ∀ b ∈ [e, it], FpOk X pins (upd H s.heap.objs.size (.tup [.int i, xs[i]])) b := fun b hb => by
      obtain ⟨q0, q1, q2, q3, q4, q5⟩ := hf b hb
      refine ⟨?_, q1, q2, q3, q4, q5⟩
      rw [upd_ne]
      · exact q0
      · intro z
        have hb' : b = e ∨ b = it := by simpa using hb
        have hlt : b < s.heap.objs.size := by
          rcases hb' with y | y
          · rw [y]; exact Heap.lt_size h1
          · obtain ⟨o, r1, _⟩ := h2
            rw [y]; exact Heap.lt_size r1
        rw [z] at hlt
        exact Nat.lt_irrefl _ hlt
    have I1 : Inv X pins σ (upd H s.heap.objs.size (.tup [.int i, xs[i]])) { s with heap := h'', toks := s.toks + 1 } := by
      have := I0.turned2 (h' := h'') (t' := s.toks + 1) (a1 := e) (a2 := it) (fun b o b1 b2 q => ?_) (fe e (by simp)) (fe it (by simp))
      · exact this
      · have hb : h'.get? b = some o := by
          by_cases z : b = s.heap.objs.size
          · subst z
            rw [Heap.get?_push_size _ rfl] at q
            rw [← q]; exact g3
          · rw [Heap.get?_push_ne _ _ _ z] at q
            exact g5 b o b1 b2 q
        exact k2.extBut b o b1 hb
    refine ⟨.ref s.heap.objs.size, _, I1, rfl, ⟨_, xs[i], rfl, hf', Same.new hf', by simp [hi], upd_same⟩, ⟨u, ?_, ?_⟩, fun b hb => (fe b hb).1⟩
    · have : (((i + 1 : Nat) : Int)) = (i : Int) + 1 := by omega
      rw [this]; exact k1
    · exact g2.extBut k2.extBut (Ne.symm hne)
  done := by
    intro X hP hw hK hc i pins s σ H E I hf st hg
    subst hP hw hK
    obtain ⟨old, h1, h2⟩ := st
    obtain ⟨hq, hi⟩ := hg
    obtain ⟨its, rv, p, hz⟩ := I.list hq
    have hl := rv.length
    obtain ⟨f0, f1, f2, f3, f4, f5⟩ := hf it (by simp)
    exact wpAny_pyNext_enum_end (I.ok.hd hc) h1 h2 p.isList (by simp; omega) fun h' eb => ⟨rfl, I.turned (t' := s.toks) (fun b o hb q => eb b o hb q) f0 f1 f3 f4 f5⟩
  self := fun _ _ _ _ _ st h => by
    obtain ⟨old, h1, _⟩ := st
    exact wpAny_pyIter_enum h1 h
def iEnum (K : PySem.W.Frag) (ta : TA) : TI := fun σ H R => ta σ H fun vs H1 => ∃ a xs, vs = [.ref a] ∧ SqL K H1 a xs ∧ R (Ite K a xs) H1
theorem pi_enum {elts : List Expr} {x1 : Nat} {tpos : Pos} {l : Expr} {ta : TA} {p pos : Pos} (hg : Gl X "enumerate") (hm : X.mg "enumerate" = none) (ha : PA X [l] ta) (hs : starEach [l] X.env = [(false, eval l X.env)] := by rfl) : PI X (.Tuple elts x1 tpos) (.Call (.Name "enumerate" p) [l] [] pos) (iEnum X.K ta) := by
  intro pins s σ H R I h
  refine Call_ (ld_blt I hg hm PyProof.Rows.boot_enumerate (PyProof.Rows.callWith_type1 (thn (ha pos pins s σ H _ I h) fun us s1 ⟨vs, H1, I1, r1, q1⟩ => ?_) hs rfl))
  obtain ⟨a, xs, e, hq, q⟩ := q1
  subst e
  obtain ⟨u, rfl, ru⟩ := vals1 r1
  cases ru
  obtain ⟨its, rv, pt, hz⟩ := I1.list hq
  refine PySem.call_enumerate_list pt.isList fun h' g1 g2 g3 g4 => ?_
  have I2 : Inv X pins σ H1 { s1 with heap := h', toks := s1.toks } := I1.kept (t' := s1.toks) g4
  refine wpAny_pyIter_enum (s := { s1 with heap := h', toks := s1.toks }) g1 ?_
  refine ⟨s1.heap.objs.size + 1, [s1.heap.objs.size + 1, s1.heap.objs.size], _, _, H1, rfl, I2, turn_enum a _ _ xs (Nat.succ_ne_self _), ⟨_, g1, g2⟩, fun b hb => ?_, q⟩
  have hb' : b = s1.heap.objs.size + 1 ∨ b = s1.heap.objs.size := by simpa using hb
  rcases hb' with z | z
  · subst z
    exact I1.fpOk (Nat.le_succ _) (I1.hok.fresh (Nat.le_succ _))
  · subst z
    exact I1.fpOk (Nat.le_refl _) (I1.hok.fresh (Nat.le_refl _))
theorem sI_enum {a : TA} {As : DA} (h : SimAF K a As) : SimI K (iEnum K a) (dEnum As) := fun F0 H0 F H σ δ P R e w q => h F0 H0 F H σ δ _ _ e w fun ds vs F' H' p x r => by
  try dsimp only at p
  split at p
  · rename_i xs
    obtain ⟨v, rfl, a, us, rfl, h1, h2⟩ := reps1 r
    have hl := h2.length
    refine ⟨a, us, rfl, x.fh.seq h1, q _ _ F' H' p.2 x fun F1 H1 s1 s2 => ?_⟩
    have hq := (s1.trans s2).seq h1
    rw [List.length_map, List.length_range]
    refine ⟨fun i hi => ⟨hq, by omega⟩, ⟨hq, by omega⟩, fun i x H2 hi y => ?_⟩
    obtain ⟨t, y, rfl, ht, sm, hy, ht2⟩ := y
    obtain ⟨d, hd, rd⟩ := h2.get' hy
    refine ⟨.tup [.int i, d], upd F1 t (.tup [.int i, y]), ?_, Ext.new s2 ht sm ht2, t, [.int i, y], rfl, .inl (.inl upd_same), ?_⟩
    · rw [List.getElem?_map, List.getElem?_range hi]
      simp only [Option.map_some, List.getD_eq_getElem?_getD, hd, Option.getD_some]
    · exact ⟨_, _, rfl, rfl, _, _, rfl, (rd.mono s1).mono (Same.upd' (s2.free ht)), rfl⟩
  · exact p.elim
end
end L2

namespace L2
open PySem PySem.Spec PyProof.Rows
def dBitL (E : DE) : DE := fun δ P => E δ fun d => match d with
  | .int i => P (.int (ibN i))
  | _ => False
section
variable {X : Cx} {K : PySem.W.Frag}
end
end L2

namespace L2
open PySem PySem.Spec PyProof.Rows
def fixS (v : V) : Option Sl → Option Sl
  | some (.own t) => some (.own (.fx v t.val))
  | s => s
def fixFrom (vs : Nat → V) : Nat → Dst → Dst
  | _, [] => []
  | i, s :: r => fixS (vs i) s :: fixFrom vs (i + 1) r
def unlS (v : V) : Option Sl → Option Sl → Option Sl
  | some (.own t), some (.own (.fx u _)) => if u = v then some (.own t) else none
  | _, some (.own (.fz d)) => if d.lf = true then some (.own (.fz d)) else none
  | _, _ => none
def unlFrom (vs : Nat → V) : Nat → Dst → Dst → Dst
  | i, o :: os, n :: ns => unlS (vs i) o n :: unlFrom vs (i + 1) os ns
  | _, _, _ => []
def sLend (T : DS) : DS := fun De δ => ∀ vs : Nat → V, T { nx := fun δ' => δ'.length = δ.length ∧ De.nx (unlFrom vs 0 δ δ'), rt := fun r => r.lf = true ∧ De.rt r } (fixFrom vs 0 δ)
section
variable {K : PySem.W.Frag} {mg : Str → Option Value}
def spMV (K : PySem.W.Frag) (n : Nat) (sp : DMV) : Sp := spL n fun vs H Q => ∃ F a ts vs0 B rest ds P, vs = V.ref a :: rest ∧ Same F H ∧ H a = some (.lst vs0) ∧ RepOs K F H ts vs0 B ∧ (a :: B).Nodup ∧ (∀ b ∈ a :: B, F b = none) ∧ Reps K F ds rest ∧ sp ts ds P ∧
  ∀ r v F' H', P r → Ext F (fun b => if b ∈ a :: B then none else H b) F' H' → RepN K (fun b => if b ∈ a :: B then none else H b) F' H' r v → Q v H'
theorem CalMV.of {P : Program} {w : World} {base : Heap} {x : Str} {st : Stmt} {f : Addr} {fd : FuncData} {N ps : List Str} {k n : Nat} {sp : DMV} (Df : DefAt K mg x st f fd) (S : FnScope N ps (defScope st))
    (hb : ∀ (kV doc pm : Value) (an : Option Addr) (cdv ct : Value) (us : List Value), us.length = ps.length → bindArgs (PySem.W.fnOf x x (defArgs st) (defBody st) (defScope st) .none kV doc pm an cdv ct) ⟨us, []⟩ = pure (ps.zip us)) (hn : n = ps.length)
    (hbody : ∀ (cdv : Value) (A : Around) (outer : List Env) (s : Shared) (H : Hp) (E : XK), Room k (A.deeper (envOfC x (defScope st) s.heap.objs.size f cdv)) →
      ∃ t T, PSs (cxOf CX0 P w K mg base N x (defScope st) f cdv A outer s H E).nox (defBody st) t ∧ SimS K t T ∧ ∀ ts ds Pr, sp ts ds Pr → T { nx := fun _ => Pr (.fz .non), rt := Pr } (startMV N ts ds)) : Cal P w K mg base x (k + 1) ps (spMV K n sp) :=
  Cal.of Df S hb (fun vs H Q E h => by rw [← hn]; exact h.1) fun cdv A outer s H vs Q E hr h => by
    obtain ⟨_, F, a, ts, vs0, B, rest, ds, Pr, rfl, hs, ha, hB, hnd, hnf, hr', hsp, hq⟩ := h
    obtain ⟨t, T, h1, h2, h3⟩ := hbody cdv A outer s H E hr
    have hl := hr'.length
    have er : ER K F (fun b => if b ∈ a :: B then none else H b) F H (start N (V.ref a :: rest)) (startMV N ts ds) (fun j => if j = 0 then a :: B else []) := by
      refine ⟨by simp [start, startMV, hl], ⟨Same.refl _, fun b o z => ?_, hs, fun _ _ z _ _ => z⟩, fun i t hi => ?_, fun i d hi => ?_, fun j => ?_, fun j k b hjk y1 y2 => ?_, fun j b hb => ?_⟩
      · try dsimp only at z
        split at z
        · cases z
        · exact z
      · unfold startMV at hi
        cases i with
        | zero =>
          simp at hi
          subst hi
          exact ⟨.ref a, rfl, a, vs0, B, rfl, rfl, ha, hB⟩
        | succ i =>
          rw [List.getElem?_cons_succ] at hi
          try dsimp only
          rw [if_neg (by omega)]
          by_cases z : i < ds.length
          · rw [List.getElem?_append_left (by simpa using z), List.getElem?_map, List.getElem?_eq_getElem z] at hi
            simp at hi
            subst hi
            obtain ⟨v, g1, g2⟩ := hr'.get (List.getElem?_eq_getElem z)
            refine ⟨v, ?_, rfl, g2⟩
            unfold start
            rw [List.map_cons, List.cons_append, List.getElem?_cons_succ, List.getElem?_append_left (by simp; omega), List.getElem?_map, g1]
            rfl
          · rw [List.getElem?_append_right (by simpa using z)] at hi
            have := List.mem_of_getElem? hi
            rw [List.mem_replicate] at this
            cases this.2
      · unfold startMV at hi
        cases i with
        | zero => simp at hi
        | succ i =>
          rw [List.getElem?_cons_succ] at hi
          by_cases z : i < ds.length
          · rw [List.getElem?_append_left (by simpa using z), List.getElem?_map, List.getElem?_eq_getElem z] at hi
            simp at hi
          · rw [List.getElem?_append_right (by simpa using z)] at hi
            have := List.mem_of_getElem? hi
            rw [List.mem_replicate] at this
            cases this.2
      · try dsimp only
        split
        · exact hnd
        · exact List.nodup_nil
      · try dsimp only at y1 y2
        split at y1
        · split at y2
          · omega
          · cases y2
        · cases y1
      · try dsimp only at hb
        split at hb
        · refine ⟨hnf b hb, if_pos hb, ?_⟩
          rcases List.mem_cons.mp hb with y | y
          · rw [y]; exact ⟨_, ha, rfl⟩
          · exact hB.isl b y
        · cases hb
    refine ⟨t, h1, h2 F _ F H (start N (V.ref a :: rest)) (startMV N ts ds) { nx := fun _ => Pr (.fz .non), rt := Pr } _ ⟨_, er⟩ ⟨fun F' H' σ δ e p => ?_, fun _ _ _ _ _ z => z.elim, fun _ _ _ _ _ z => z.elim, fun F' H' r v x n p => hq r v F' H' p x n⟩ (h3 ts ds Pr hsp)⟩
    exact hq _ _ F' H' p e.ext (.fz rfl)
end
end L2

namespace L2
open PySem PySem.Spec PyProof.Rows
def dListR (As : DA) : DO := fun δ P => As δ fun ds => match ds with
  | [.int i, .int j, .int c] => (-(2 ^ 61) ≤ i ∧ i < 2 ^ 61 ∧ -(2 ^ 61) ≤ j ∧ j < 2 ^ 61 ∧ 0 < c ∧ c < 2 ^ 29) ∧ rngN i j c ≤ 1000000 ∧ P (.nl ((List.range (rngN i j c)).map fun (k : Nat) => OV.fz (.int (i + k * c))))
  | _ => False
section
variable {X : Cx} {K : PySem.W.Frag}
end
end L2

namespace L2
open PySem PySem.Spec PyProof.Rows
def sApp2N (i : Nat) (Ei : DE) (E : DO) : DS := fun De δ => match δ[i]? with
  | some (some (.own (.nl ts))) => Ei δ fun k => match k with
    | .int k => ∃ j us, ixN ts.length k = some j ∧ ts[j]? = some (.nl us) ∧ us.length < 1000000 ∧ E δ fun r => De.nx (δ.set i (some (.own (.nl (ts.set j (.nl (us ++ [r])))))))
    | _ => False
  | _ => False
section
variable {X : Cx} {K : PySem.W.Frag}
end
end L2

namespace L2
open PySem PySem.Spec PyProof.Rows
def dZip (As : DA) : DA := fun δ P => As δ fun ds => match ds with
  | [.lst xs, .lst ys] => P ((xs.zip ys).map fun p => D.tup [p.1, p.2])
  | _ => False
section
variable {X : Cx} {K : PySem.W.Frag} {mg : Str → Option Value}
theorem Inv.turnedL {pins : List (Addr × Obj)} {σ : St} {H : Hp} {s : Shared} {h' : Heap} {t' : Nat} {L : List Addr} (I : Inv X pins σ H s) (k : ∀ b o, b ∉ L → s.heap.get? b = some o → h'.get? b = some o) (f : ∀ b ∈ L, FpOk X pins H b) : Inv X pins σ H { s with heap := h', toks := t' } := by
  have nn : ∀ b u, H b = some u → b ∉ L := fun b u e z => by
    obtain ⟨p0, _⟩ := f b z
    rw [p0] at e; cases e
  refine I.step (g' := s.gens) (d' := s.drawn) (ch := L) (fun b hb => ?_) (fun b o _ _ hc e _ => k b o hc e) (fun b o _ _ hc e _ => ⟨o.slots, k b o hc e⟩) (fun _ _ _ _ n => n)
    (fun b o hc e => ⟨o, k b o hc e⟩) (fun _ _ e => e) (fun _ _ _ e => e) (fun b ps e => ⟨#[], by rw [e]; simp⟩) (fun m hm => ?_) (fun b u e => ?_) I.bare
  · obtain ⟨p0, p1, p2, p3, p4, p5⟩ := f b hb
    exact ⟨p3, p1, p4, p5⟩
  · obtain ⟨o, es, ep, ho, r⟩ := hm
    refine ⟨o, es, ep, k _ o (fun z => ?_) ho, r⟩
    obtain ⟨p0, p1, _⟩ := f _ z
    exact p1 rfl
  · refine (I.hok b u e).stay (fun c v hc q => k c v ?_ q) (fun _ q => q) fun _ _ q => q
    rcases hc with z | z
    · rw [z]; exact nn b u e
    · exact nn c _ z
structure Zip5 (z TI TO i1 i2 : Addr) : Prop where
  TIz : TI ≠ z
  TOz : TO ≠ z
  i1z : i1 ≠ z
  i2z : i2 ≠ z
  TITO : TI ≠ TO
  TIi1 : TI ≠ i1
  TIi2 : TI ≠ i2
  TOi1 : TO ≠ i1
  TOi2 : TO ≠ i2
  i12 : i1 ≠ i2
end
end L2

namespace L2
open PySem PySem.Spec PyProof.Rows
def dRep1 (Eo : DO) (Eb : DE) : DO := fun δ P => Eo δ fun r => match r with
  | .nl [.fz d] => Eb δ fun y => match y with
    | .int k => (0 ≤ k ∧ k ≤ 1000000) ∧ P (.nl (List.replicate k.toNat (.fz d)))
    | _ => False
  | _ => False
section
variable {X : Cx} {K : PySem.W.Frag} {mg : Str → Option Value}
theorem Reps.rep {F : Hp} {d : D} {v : V} (h : Rep K F d v) : ∀ n : Nat, Reps K F (List.replicate n d) (List.replicate n v)
  | 0 => rfl
  | n + 1 => ⟨v, List.replicate n v, rfl, h, Reps.rep h n⟩
theorem sO_rep1 {ta tb : TE} {Eo : DO} {Eb : DE} (ha : SimO K ta Eo) (hb : SimB K tb Eb) : SimO K (tOp rRep ta tb) (dRep1 Eo Eb) := fun F0 H0 F H σ δ P Q e w q =>
  ha F0 H0 F H σ δ _ _ e w fun r v F1 H1 w1 x1 r1 => by
    try dsimp only at w1
    split at w1
    · rename_i d
      obtain ⟨A0, ⟨p, vs, B, rfl, rfl, hp, hB⟩, a2, a3⟩ := r1
      obtain ⟨v0, r0, B1, C, rfl, rfl, ⟨_, rd⟩, hC, _⟩ := hB
      subst hC
      refine hb F0 H0 F1 H1 σ δ _ _ (e.on x1) w1 fun y u F2 H2 w2 x2 r2 => ?_
      try dsimp only at w2
      split at w2
      · rename_i k
        obtain ⟨⟨k0, k1⟩, pr⟩ := w2
        have x12 := x1.trans x2
        cases r2
        refine ⟨p, k, [v0], rfl, rfl, x2.hh _ _ hp, by omega, by omega, sz_le (by simp; omega), fun l l0 => ?_⟩
        have ef : (List.replicate k.toNat [v0]).flatten = List.replicate k.toNat v0 := List.flatten_replicate_singleton
        rw [ef]
        have em : (List.replicate k.toNat d).map OV.fz = List.replicate k.toNat (OV.fz d) := List.map_replicate
        refine q _ _ F2 _ pr (x12.trans (Ext.grow x2.fh (Same.new l0))) ?_
        rw [← em]
        exact RepN.list (x12.hh.free l0) (x2.fh.free l0) upd_same (Reps.rep (rd.mono x2.ff) _)
      · exact w2.elim
    · exact w1.elim
end
end L2

namespace L2
open PySem PySem.Spec PyProof.Rows
def dRevR (As : DA) : DA := fun δ P => As δ fun ds => match ds with
  | [.int n] => (0 ≤ n ∧ n < 2 ^ 61) ∧ P (rng (n - 1) (-1) n.toNat)
  | _ => False
section
variable {prog : Program} {w : World} {A : Around} {E : Value → Shared → Prop} {s : Shared}
end
section
variable {X : Cx} {K : PySem.W.Frag} {tg : Expr}
end
end L2

namespace L2
open PySem PySem.Spec PyProof.Rows
def divmodD : List D → (D → Prop) → Prop := fun ds P => match ds with
  | [.int i, .int j] => CDiv i j ∧ P (.tup [.int (i / j), .int (i % j)])
  | _ => False
def dIxO (i : Nat) (Eb : DE) : DE := fun δ P => match δ[i]? with
  | some (some (.own (.nl ts))) => Eb δ fun y => match y with
    | .int k => ∃ d, atI ts k = some (.fz d) ∧ P d
    | _ => False
  | _ => False
section
variable {X : Cx} {K : PySem.W.Frag}
theorem BlkScope.nofree {outer sc : Scope} (h1 : sc.kind = .function) (h2 : ∀ y ∈ sc.names, y.2 ≠ .cell) (h3 : ∀ y ∈ sc.names, y.2 ≠ .free) (h4 : ∀ y ∈ sc.names, y.2 = .local → sc.names.lookup y.1 = some .local) : BlkScope outer sc :=
  ⟨h1, h2, fun y hy e => absurd e (h3 y hy), h4⟩
end
end L2

namespace L2
open PySem PySem.Spec PyProof.Rows
section
variable {prog : Program} {w : World} {A : Around} {E : Value → Shared → Prop} {s : Shared}
end
def dSlT (Ea : DE) (L U : DPt) : DE := fun δ P => Ea δ fun x => L δ fun lo => U δ fun hi => match x with
  | .tup xs => P (.tup (cutD xs lo hi))
  | _ => False
def dSlB (Ea : DE) (L U : DPt) : DE := fun δ P => Ea δ fun x => L δ fun lo => U δ fun hi => match x with
  | .lst xs => P (.lst (cutD xs lo hi))
  | _ => False
def sumD : List D → (D → Prop) → Prop := fun ds P => match ds with
  | [.lst xs] => ∃ ns : List Int, xs = ns.map D.int ∧ P (.int ns.sum)
  | _ => False
abbrev DAM := Dst → (List OV → Dst → Prop) → Prop
def dMNil : DAM := fun δ P => P [] δ
def dMCons (E : DO) (As : DAM) : DAM := fun δ P => E δ fun r => As δ fun rs δ' => P (r :: rs) δ'
def dMMv (i : Nat) (As : DAM) : DAM := fun δ P => match δ[i]? with
  | some (some (.own (.nl _))) => As δ fun rs δ' => match δ'[i]? with
    | some (some (.own (.nl ts))) => P (.nl ts :: rs) (δ'.set i none)
    | _ => False
  | _ => False
def noBw : Dst → Dst := List.map fun s => match s with
  | some (.bw _) => none
  | s => s
def forMR (x : Nat) (T : DS) (De : DEnds) : List OV → Dst → Prop
  | [], δ => De.nx δ
  | r :: rs, δ => T { nx := fun δ' => forMR x T De rs (noBw δ'), ct := fun δ' => forMR x T De rs (noBw δ'), rt := De.rt } (δ.set x (some (.own r)))
def sForM (x : Nat) (As : DAM) (T : DS) : DS := fun De δ => As δ fun rs δ' => rs.length ≤ 1000000 ∧ forMR x T De rs (noBw δ')
def sIfMv (i : Nat) (sp : DMV) (T U : DS) : DS := fun De δ => match δ[i]? with
  | some (some (.own (.nl ts))) => sp ts [] fun r => match r with
    | .fz (.bl b) => if (!b) = true then T De (δ.set i none) else U De (δ.set i none)
    | _ => False
  | _ => False
section
variable {X : Cx} {K : PySem.W.Frag} {mg : Str → Option Value}
theorem noBw_get {δ : Dst} {i : Nat} {s : Sl} (h : (noBw δ)[i]? = some (some s)) : δ[i]? = some (some s) ∧ ∃ t, s = .own t := by
  unfold noBw at h
  rw [List.getElem?_map] at h
  cases q : δ[i]? with
  | none => rw [q] at h; cases h
  | some o =>
    rw [q] at h
    cases o with
    | none => cases h
    | some s' =>
      cases s' with
      | bw d => cases h
      | own t => cases h; exact ⟨rfl, t, rfl⟩
theorem ER.noBw {F0 H0 H0' F H : Hp} {σ : St} {δ : Dst} {A : Nat → List Addr} (e : ER K F0 H0' F H σ δ A) (s : Same H0 H0') : ER K F0 H0 F H σ (L2.noBw δ) A := by
  refine ⟨by rw [e.len]; simp [L2.noBw], ⟨e.ext.ff, s.trans e.ext.hh, e.ext.fh, fun a o z1 z2 z3 => e.ext.no a o z1 (s _ _ z2) z3⟩, fun i t hi => e.own i t (noBw_get hi).1, fun i d hi => ?_, e.nod, e.dis, fun i a ha => ⟨(e.new i a ha).1, s.free (e.new i a ha).2.1, (e.new i a ha).2.2⟩⟩
  obtain ⟨_, t, z⟩ := noBw_get hi
  cases z
end
end L2

namespace L2
open PySem PySem.Spec PyProof.Rows
def dTupB (As : DA) : DE := fun δ P => As δ fun ds => match ds with
  | [.lst xs] => D.lfs xs = true ∧ P (.tup xs)
  | _ => False
def dCatB (Ea Eb : DE) : DO := fun δ P => Ea δ fun x => Eb δ fun y => match x, y with
  | .lst xs, .lst ys => D.lfs xs = true ∧ D.lfs ys = true ∧ xs.length + ys.length ≤ 1000000 ∧ P (.nl ((xs ++ ys).map .fz))
  | _, _ => False
def sAppMv (i j : Nat) : DS := fun De δ => match δ[i]?, δ[j]? with
  | some (some (.own (.nl ts))), some (some (.own (.nl us))) => i ≠ j ∧ ts.length < 1000000 ∧ De.nx ((δ.set j none).set i (some (.own (.nl (ts ++ [.nl us])))))
  | _, _ => False
def sSetMv (k i n m : Nat) (sp : DMV) (As : DA) (spg : DSp) : DS := fun De δ => match δ[i]? with
  | some (some (.own (.nl ts))) => As δ fun ds => ds.length + 1 = n ∧ sp ts ds fun r => 1 = m ∧ spg [r.val] fun r' => De.nx ((δ.set i none).set k (some (.own r')))
  | _ => False
section
variable {X : Cx} {K : PySem.W.Frag} {mg : Str → Option Value}
theorem ER.drop {F0 H0 F H : Hp} {σ : St} {δ : Dst} {A : Nat → List Addr} (e : ER K F0 H0 F H σ δ A) (i : Nat) : ER K F0 H0 F H σ (δ.set i none) (fun j => if j = i then [] else A j) := by
  have off : ∀ (j : Nat) (s : Sl), (δ.set i none)[j]? = some (some s) → j ≠ i ∧ δ[j]? = some (some s) := fun j s hj => by
    by_cases z : j = i
    · subst z
      have hi : j < δ.length := by
        have := (List.getElem?_eq_some_iff.mp hj).1
        rwa [List.length_set] at this
      rw [List.getElem?_set_self hi] at hj
      cases hj
    · rw [List.getElem?_set_ne (Ne.symm z)] at hj
      exact ⟨z, hj⟩
  refine ⟨by simp [e.len], e.ext, fun j t hj => ?_, fun j d hj => e.bw j d (off j _ hj).2, fun j => ?_, fun j k a hjk h1 h2 => ?_, fun j a ha => ?_⟩
  · obtain ⟨z, hj⟩ := off j _ hj
    try dsimp only
    rw [if_neg z]
    exact e.own j t hj
  · try dsimp only
    split
    · exact List.nodup_nil
    · exact e.nod j
  · try dsimp only at h1 h2
    split at h1
    · cases h1
    · split at h2
      · cases h2
      · exact e.dis j k a hjk h1 h2
  · try dsimp only at ha
    split at ha
    · cases ha
    · exact e.new j a ha
theorem sO_catB {ta tb : TE} {Ea Eb : DE} (ha : SimB K ta Ea) (hb : SimB K tb Eb) : SimO K (tOp (rCatS K) ta tb) (dCatB Ea Eb) := fun F0 H0 F H σ δ P Q e w q =>
  ha F0 H0 F H σ δ _ _ e w fun x v F1 H1 w1 x1 r1 => hb F0 H0 F1 H1 σ δ _ _ (e.on x1) w1 fun y u F2 H2 w2 x2 r2 => by
    have x12 := x1.trans x2
    have x3 := frzT_ext x12.fh
    try dsimp only at w2
    split at w2
    · obtain ⟨w3, w4, w5, w6⟩ := w2
      obtain ⟨p, vs, rfl, h1, h2⟩ := r1.mono x2.hh
      obtain ⟨p', us, rfl, h3, h4⟩ := r2
      have l1 := h2.length
      have l2 := h4.length
      refine ⟨p, p', vs, us, rfl, rfl, h1, h3, sz_le (by omega), fun l H' l0 sm lk => ?_⟩
      exact q _ _ _ H' w6 (x12.trans (x3.trans (Ext.grow x3.fh sm))) (RepN.list (x12.hh.free l0) (x3.fh.free l0) lk ((Reps.lf x12.fh h2 w3).append (Reps.lf x12.fh h4 w4)))
    · exact w2.elim
end
end L2

namespace L2
open PySem PySem.Spec PyProof.Rows PyProof.V PySem.W
section
variable {P : Program} {w : World} {H : Hp} {h : Heap} {a : Addr} {o : HO}
theorem ObjOk.at : ∀ {o : HO}, ObjOk P w H h a o → ∃ u, h.get? a = some u
  | .lst _, x => by obtain ⟨_, _, _, _, e⟩ := x; exact ⟨_, e⟩
  | .tup _, x => by obtain ⟨_, _, _, ob, e, _⟩ := x; exact ⟨_, e⟩
  | .dK _, x => by obtain ⟨_, _, _, _, o, _, _, e, _⟩ := x; exact ⟨_, e⟩
  | .dT _, x => by obtain ⟨_, _, _, _, o, _, _, e, _⟩ := x; exact ⟨_, e⟩
  | .set _ _, x => by obtain ⟨o, _, _, _, e, _⟩ := x; exact ⟨_, e⟩
  | .ins _ _ _, x => by obtain ⟨_, _, _, e, _⟩ := x; exact ⟨_, e⟩
  | .own _, x => x
  | .xd _, x => by obtain ⟨_, ⟨od, _, _, e, _⟩, _⟩ := x; exact ⟨_, e⟩
  | .rng _ _, x => by obtain ⟨_, _, _, e⟩ := x; exact ⟨_, e⟩
  | .frz _ _, x => ⟨_, x.1⟩
  | .tbl _, x => ⟨_, x⟩
  | .met _ _, x => ⟨_, x⟩
  | .ext _, x => x.2.1
end
def CXE (P : Program) (w : World) : CXT := fun outer H s E e s' => ∃ (a C : Addr) (a0 : Value) (B : Heap) (H' : Hp), e = .ref a ∧ E (.ref C) none H' ∧ Heap.FlyingW B outer a (.ref C) a0 s'.heap ∧
  (∀ b o, s'.heap.get? b = some o → b ∉ frs outer → ((∃ o0, s.heap.get? b = some o0) ∨ ∃ u, H' b = some u) → B.get? b = some o) ∧ Un (frs outer) [] H H' s.heap s'.heap ∧ HOk P w H' s'.heap ∧ AllBare s'.gens ∧ s'.os = s.os ∧ H' a = none
section
variable {P : Program} {w : World} {K : PySem.W.Frag} {mg : Str → Option Value} {base : Heap} {N : List Str} {qual : Str} {scope : Scope} {f : Addr} {cd : Value} {A : Around} {outer : List Env} {s : Shared} {H : Hp} {E : XK}
end
abbrev Cx.hdl (X : Cx) (a : Addr) : Cx := { X with A := X.A.mark (some (.ref a)), calm := false, xe := fun _ _ => False }
section
variable {X : Cx} {pins : List (Addr × Obj)} {σ : St} {H : Hp} {s : Shared}
theorem Inv.hdl (I : Inv X pins σ H s) (a : Addr) : Inv (X.hdl a) pins σ H s :=
  ⟨⟨I.ok.mod, I.ok.kind, I.ok.glob, I.ok.blt, I.ok.above, I.ok.inj, I.ok.has, I.ok.cab, (fun z => by cases z), I.ok.frames, I.ok.stk, I.ok.exf, I.ok.bs, I.ok.bsz, I.ok.noex, I.ok.exfs, I.ok.funs, I.ok.frf⟩, I.os, I.bare, I.base, I.loc, I.cell, I.free, I.freeC, I.pin, I.hok, I.len⟩
theorem Inv.goes {n : Str} {i : Nat} {m : Str → Option Value} {v : Option Value} {h' : Heap} {tk : Nat} (I : Inv X pins σ H s) (hN : X.N.Nodup) (hi : X.N[i]? = some n) (hl : ∀ (j : Nat) (x : Str) (w : V), X.N[j]? = some x → σ[j]? = some (some w) → Vis X.env.scope x → ∃ u, RelV w u ∧ Look X.env s.heap m x u)
    (hn : h'.Ns X.env.locals (fun x => if x = n then v else m x)) (hs : Heap.SameBut X.env.locals s.heap h') : Inv X pins (σ.set i none) H { s with heap := h', toks := tk } := by
  have cne := I.cne
  have lt : ∀ {b o}, X.s₀.heap.get? b = some o → b ≠ X.env.locals := fun {b o} e => Nat.ne_of_lt (Nat.lt_of_lt_of_le (Heap.lt_size e) I.ok.above)
  refine ⟨I.ok, I.os, I.bare, ⟨fun b o e n hb hx => ?_, fun b o e n hb hx => ?_, I.base.free, fun b o e hx => ?_, I.base.tups, I.base.frzs, I.base.tbls⟩, ⟨_, hn, fun j y v' e1 e2 e3 => ?_⟩, fun y c e => ?_, I.free, I.freeC, fun p hp => ?_, fun b ob e => ?_, by simpa using I.len⟩
  · exact (hs.2 b (lt e)).trans (I.base.keep b o e n hb hx)
  · obtain ⟨sl, e1⟩ := I.base.slot b o e n hb hx
    exact ⟨sl, (hs.2 b (lt e)).trans e1⟩
  · obtain ⟨o', e1⟩ := I.base.there b o e hx
    exact ⟨o', (hs.2 b (lt e)).trans e1⟩
  · by_cases hj : j = i
    · subst hj
      have hjl : j < σ.length := by rw [I.len]; exact (List.getElem?_eq_some_iff.mp hi).1
      rw [List.getElem?_set_self hjl] at e2
      cases e2
    · rw [List.getElem?_set_ne (Ne.symm hj)] at e2
      obtain ⟨u', r', q⟩ := hl j y v' e1 e2 e3
      refine ⟨u', r', ?_⟩
      rcases q with ⟨k, e⟩ | ⟨k, c, e, z⟩
      · refine .inl ⟨k, ?_⟩
        have : y ≠ n := fun e => hj (nodup_ix hN e1 (e ▸ hi))
        simp [this, e]
      · exact .inr ⟨k, c, e, z.sameBut hs (cne y c e)⟩
  · obtain ⟨w', z⟩ := I.cell y c e
    exact ⟨w', z.sameBut hs (cne y c e)⟩
  · obtain ⟨e, n, ne, nf, d⟩ := I.pin p hp
    exact ⟨(hs.2 p.1 ne).trans e, n, ne, nf, d⟩
  · refine (I.hok b ob e).stay (fun c w' hc q => (hs.2 c ?_).trans q) (fun _ q => q) fun _ _ q => q
    rintro rfl
    have hf := I.free
    rcases hc with rfl | hc
    · rw [hf] at e; cases e
    · rw [hf] at hc; cases hc
theorem Inv.caught {H' : Hp} {s' : Shared} {B : Heap} {a C : Addr} {a0 : Value} {h6 : Heap} (I : Inv X pins σ H s) (fl : Heap.FlyingW B X.stack a (.ref C) a0 s'.heap)
    (agree : ∀ b o, s'.heap.get? b = some o → b ∉ frs X.stack → ((∃ o0, s.heap.get? b = some o0) ∨ ∃ u, H' b = some u) → B.get? b = some o) (un : Un (frs X.stack) [] H H' s.heap s'.heap) (hok : HOk X.prog X.w H' s'.heap) (bare : AllBare s'.gens) (hos : s'.os = s.os) (hna : H' a = none)
    (fl6 : Heap.FlyingW B X.stack a (.ref C) a0 h6) (sm : s'.heap.UpToSlots h6) : Inv X pins σ (upd H' a (.ext (clsφ a (.ref C)))) { s' with heap := h6 } := by
  have hfree : ∀ b ∈ frs X.stack, H' b = none := fun b hb => by
    obtain ⟨_, o, ho, _⟩ := I.stack.mem hb
    exact un.free b o ho (I.stkFree b hb) (by simp)
  have nonf : ∀ b ∈ frs X.stack, ∀ o, s'.heap.get? b = some o → ∀ vs, o.data ≠ .fields vs := fun b hb o q => by
    obtain ⟨_, o', ho', hd⟩ := fl.2.2.1.mem hb
    rw [q] at ho'; cases ho'; exact hd
  have keepB : ∀ b o, s'.heap.get? b = some o → b ∉ frs X.stack → ((∃ o0, s.heap.get? b = some o0) ∨ ∃ u, H' b = some u) → h6.get? b = some o := fun b o q hb hc => fl6.1 b o (agree b o q hb hc)
  obtain ⟨oe, ws, hoe, hoec, hoed, _⟩ := fl6.first
  have hsa : s.heap.get? a = none := by
    cases q : s.heap.get? a with
    | none => rfl
    | some o0 =>
      obtain ⟨o', q'⟩ := un.there a o0 q (by simp)
      by_cases hb : a ∈ frs X.stack
      · obtain ⟨oe', ws', he', _, hd', _⟩ := fl.first
        exact absurd hd' (nonf a hb oe' he' ws')
      · have := agree a o' q' hb (.inl ⟨o0, q⟩)
        rw [fl.2.1] at this; cases this
  have ha : ∀ b u, H' b = some u → b ≠ a := fun b u e z => by rw [z, hna] at e; cases e
  refine I.call' (ch := []) hos ⟨fun b o q n hb hx => ?_, fun b o q n hb hx => ?_, fun b o q n hx => ?_, fun b o q hx => ?_, fun b xs e => ?_, fun b o u e => ?_, fun b ps e => ?_⟩ (fun b u e => ?_) bare (fun b z => absurd z (by simp))
  · exact keepB b o (un.keep b o q n hb hx) hb (.inl ⟨o, q⟩)
  · obtain ⟨sl, q1⟩ := un.slot b o q n hb hx
    obtain ⟨sl2, q2⟩ := sm b _ q1 (nonf b hb _ q1)
    exact ⟨sl2, q2⟩
  · rw [upd_ne fun z => by rw [z, hsa] at q; cases q]
    exact un.free b o q n hx
  · obtain ⟨o', q1⟩ := un.there b o q hx
    by_cases hb : b ∈ frs X.stack
    · obtain ⟨sl2, q2⟩ := sm b _ q1 (nonf b hb _ q1)
      exact ⟨_, q2⟩
    · exact ⟨_, keepB b o' q1 hb (.inl ⟨o, q⟩)⟩
  · have := un.tups b xs e
    rw [upd_ne (ha b _ this)]; exact this
  · have := un.frzs b o u e
    rw [upd_ne (ha b _ this)]; exact this
  · obtain ⟨more, this⟩ := un.tbls b ps e
    exact ⟨more, by rw [upd_ne (ha b _ this)]; exact this⟩
  · by_cases hb : b = a
    · subst hb
      rw [upd_same] at e
      cases e
      exact ⟨⟨oe, hoe, hoec⟩, ⟨oe, hoe⟩, fun h1 h2 ⟨o, e1, e2⟩ k => ⟨o, k o e1, e2⟩⟩
    · rw [upd_ne hb] at e
      refine (hok b u e).stay (fun c v hc q => ?_) (fun c q => by rw [upd_ne (ha c _ q)]; exact q) fun c xs q => by rw [upd_ne (ha c _ q)]; exact q
      have hcu : ∃ u, H' c = some u := by
        rcases hc with rfl | hc
        · exact ⟨_, e⟩
        · exact ⟨_, hc⟩
      exact keepB c v q (fun z => by obtain ⟨u, hu⟩ := hcu; rw [hfree c z] at hu; cases hu) (.inr hcu)
end
structure CalX (P : Program) (w : World) (K : PySem.W.Frag) (mg : Str → Option Value) (base : Heap) (x : Str) (k : Nat) (ps : List Str) (sp : Sp) : Prop where
  ex : ∃ f fd, FnOk P w K mg base (CXE P w) k f fd ps sp ∧ mg x = some (.ref f) ∧ PySem.W.keepIn K (.ref f) = true ∧ Binds K fd ps []
section
variable {X : Cx}
end
end L2

namespace L2
open PySem PySem.Spec PyProof.Rows
abbrev DMo := List OV → List D → (List OV → Prop) → Prop
def dFld (c : Str) (ns : List Str) (j : Nat) (E : DE) : DE := fun δ P => E δ fun d => match d with
  | .obj c' ns' ds => c' = c ∧ ns' = ns ∧ ∃ x, ds[j]? = some x ∧ P x
  | _ => False
def sFSet (c : Str) (ns : List Str) (i j : Nat) (Eo : DO) : DS := fun De δ => match δ[i]? with
  | some (some (.own (.ob o c' ns' ts))) => c' = c ∧ ns' = ns ∧ j < ts.length ∧ Eo δ fun r => De.nx (δ.set i (some (.own (.ob o c ns (ts.set j r)))))
  | _ => False
def sFNew (c : Str) (ns : List Str) (i j : Nat) (Eo : DO) : DS := fun De δ => match δ[i]? with
  | some (some (.own (.ob o c' ns' ts))) => c' = c ∧ ns' = ns ∧ j = ts.length ∧ Eo δ fun r => De.nx (δ.set i (some (.own (.ob o c ns (ts ++ [r])))))
  | _ => False
def sFAug (c : Str) (ns : List Str) (i j : Nat) (g : Int → Int → Int) (E : DE) : DS := fun De δ => match δ[i]? with
  | some (some (.own (.ob o c' ns' ts))) => c' = c ∧ ns' = ns ∧ match ts[j]? with
    | some (.fz (.int x)) => E δ fun d => match d with
      | .int y => De.nx (δ.set i (some (.own (.ob o c ns (ts.set j (.fz (.int (g x y))))))))
      | _ => False
    | _ => False
  | _ => False
def sFApp (c : Str) (ns : List Str) (i j : Nat) (Eo : DO) : DS := fun De δ => match δ[i]? with
  | some (some (.own (.ob o c' ns' ts))) => c' = c ∧ ns' = ns ∧ match ts[j]? with
    | some (.nl us) => us.length < 1000000 ∧ Eo δ fun r => De.nx (δ.set i (some (.own (.ob o c ns (ts.set j (.nl (us ++ [r])))))))
    | _ => False
  | _ => False
def sFPop (c : Str) (ns : List Str) (i j k : Nat) : DS := fun De δ => match δ[i]? with
  | some (some (.own (.ob o c' ns' ts))) => c' = c ∧ ns' = ns ∧ ∃ us d, ts[j]? = some (.nl (us ++ [.fz d])) ∧ De.nx ((δ.set i (some (.own (.ob o c ns (ts.set j (.nl us)))))).set k (some (.own (.fz d))))
  | _ => False
def sMeth (c : Str) (ns : List Str) (i n : Nat) (sp : DMo) (As : DA) : DS := fun De δ => match δ[i]? with
  | some (some (.own (.ob o c' ns' ts))) => c' = c ∧ ns' = ns ∧ As δ fun ds => ds.length + 1 = n ∧ sp ts ds fun ts' => De.nx (δ.set i (some (.own (.ob o c ns ts'))))
  | _ => False
def sMethPop (c : Str) (ns : List Str) (i j : Nat) (sp : DMo) : DS := fun De δ => match δ[i]? with
  | some (some (.own (.ob o c' ns' ts))) => c' = c ∧ ns' = ns ∧ ∃ us d, ts[j]? = some (.nl (us ++ [.fz d])) ∧ sp (ts.set j (.nl us)) [d] fun ts' => De.nx (δ.set i (some (.own (.ob o c ns ts'))))
  | _ => False
def dMethP (c : Str) (ns : List Str) (n : Nat) (sp : DSp) (E : DE) (As : DA) : DO := fun δ P => E δ fun d => match d with
  | .obj c' ns' fs => c' = c ∧ ns' = ns ∧ As δ fun ds => ds.length + 1 = n ∧ sp (.obj c ns fs :: ds) fun r => r.lf = true ∧ P r
  | _ => False
def dMake (c : Str) (ns : List Str) (n : Nat) (sp : DMo) (As : DA) : DO := fun δ P => As δ fun ds => ds.length + 1 = n ∧ sp [] ds fun ts => P (.ob none c ns ts)
def startM (N : List Str) (c : Str) (ns : List Str) (a : Addr) (ts : List OV) (ds : List D) : Dst := some (.own (.ob (some a) c ns ts)) :: (ds.map (fun d => some (.own (.fz d))) ++ List.replicate (N.length - (ds.length + 1)) none)
section
theorem lk_zip {f : Str} : ∀ {ns : List Str} {vs : List V} {j : Nat}, ns.Nodup → ns[j]? = some f → (ns.zip vs).lookup f = vs[j]?
  | [], _, _, _, h => by simp at h
  | g :: ns, [], j, _, _ => by simp
  | g :: ns, v :: vs, 0, nd, h => by
    simp at h
    subst h
    simp [List.lookup]
  | g :: ns, v :: vs, j + 1, nd, h => by
    have h' : ns[j]? = some f := by simpa using h
    obtain ⟨n1, n2⟩ := List.nodup_cons.mp nd
    have hne : (f == g) = false := by
      rw [beq_eq_false_iff_ne]
      intro z
      exact n1 (by rw [← z]; exact List.mem_of_getElem? h')
    simp only [List.zip_cons_cons, List.lookup, hne, List.getElem?_cons_succ]
    exact lk_zip n2 h'
theorem lk_zip_none {f : Str} : ∀ {ns : List Str} {vs : List V}, f ∉ ns → (ns.zip vs).lookup f = none
  | [], _, _ => by simp
  | g :: ns, [], _ => by simp
  | g :: ns, v :: vs, h => by
    have hne : (f == g) = false := by
      rw [beq_eq_false_iff_ne]
      intro z
      exact h (by rw [z]; exact List.mem_cons_self)
    simp only [List.zip_cons_cons, List.lookup, hne]
    exact lk_zip_none fun z => h (List.mem_cons_of_mem _ z)
theorem putF_set {f : Str} {u : V} : ∀ {ns : List Str} {vs : List V} {j : Nat}, ns.Nodup → ns[j]? = some f → j < vs.length → putF f u (ns.zip vs) = ns.zip (vs.set j u)
  | [], _, _, _, h, _ => by simp at h
  | g :: ns, [], j, _, _, h => by simp at h
  | g :: ns, v :: vs, 0, nd, h, _ => by
    simp at h
    subst h
    simp [putF]
  | g :: ns, v :: vs, j + 1, nd, h, hl => by
    have h' : ns[j]? = some f := by simpa using h
    obtain ⟨n1, n2⟩ := List.nodup_cons.mp nd
    have hne : ¬ g = f := fun z => n1 (by rw [z]; exact List.mem_of_getElem? h')
    simp only [List.zip_cons_cons, putF, if_neg hne, List.set_cons_succ]
    rw [putF_set n2 h' (by simpa using hl)]
theorem putF_new {f : Str} {u : V} : ∀ {ns : List Str} {vs : List V}, ns.Nodup → ns[vs.length]? = some f → putF f u (ns.zip vs) = ns.zip (vs ++ [u])
  | [], _, _, h => by simp at h
  | g :: ns, [], nd, h => by
    simp at h
    subst h
    simp [putF]
  | g :: ns, v :: vs, nd, h => by
    have h' : ns[vs.length]? = some f := by simpa using h
    obtain ⟨n1, n2⟩ := List.nodup_cons.mp nd
    have hne : ¬ g = f := fun z => n1 (by rw [z]; exact List.mem_of_getElem? h')
    simp only [List.zip_cons_cons, putF, if_neg hne, List.cons_append]
    rw [putF_new n2 h']
theorem nd_mid {A1 B0 A2 B1 : List Addr} (h : (A1 ++ (B0 ++ A2)).Nodup) (h1 : B1.Nodup) (h2 : ∀ b ∈ B1, b ∈ B0 ∨ b ∉ A1 ++ (B0 ++ A2)) : (A1 ++ (B1 ++ A2)).Nodup := by
  obtain ⟨m1, m2, m3⟩ := List.nodup_append.mp h
  obtain ⟨q1, q2, q3⟩ := List.nodup_append.mp m2
  refine List.nodup_append.mpr ⟨m1, List.nodup_append.mpr ⟨h1, q2, fun x hx y hy z => ?_⟩, fun x hx y hy z => ?_⟩
  · rcases h2 x hx with y' | y'
    · exact q3 x y' y hy z
    · exact y' (by rw [z]; simp [hy])
  · rcases List.mem_append.mp hy with y' | y'
    · rcases h2 y y' with w | w
      · exact m3 x hx y (by simp [w]) z
      · exact w (by rw [← z]; simp [hx])
    · exact m3 x hx y (by simp [y']) z
end
structure ClsV (K : PySem.W.Frag) (c : Str) (ns : List Str) : Prop where
  ex : ∃ C, PySem.W.nsIn K mainGlobals c = some (some (.ref C)) ∧ Cls K C ∧ (∀ f ∈ ns, NoAttr K C f)
  nd : ns.Nodup
  few : ns.length < 1000
structure MetAt (K : PySem.W.Frag) (c m q : Str) (st : Stmt) (f : Addr) (fd : FuncData) : Prop where
  fn : Fun K m q st f fd
  cl : ∃ C, PySem.W.nsIn K mainGlobals c = some (some (.ref C)) ∧ Cls K C ∧ Meth K C m f
structure CalM (P : Program) (w : World) (K : PySem.W.Frag) (mg : Str → Option Value) (base : Heap) (c m : Str) (k : Nat) (ps : List Str) (sp : Sp) : Prop where
  ex : ∃ C f fd, PySem.W.nsIn K mainGlobals c = some (some (.ref C)) ∧ Cls K C ∧ Meth K C m f ∧ FnOk P w K mg base CX0 k f fd ps sp ∧ Binds K fd ps []
structure MakAt (K : PySem.W.Frag) (mg : Str → Option Value) (c : Str) (f : Addr) : Prop where
  cl : ∃ C, PySem.W.nsIn K mainGlobals c = some (some (.ref C)) ∧ Mk K C f ∧ mg c = some (.ref C)
structure CalK (P : Program) (w : World) (K : PySem.W.Frag) (mg : Str → Option Value) (base : Heap) (c : Str) (k : Nat) (ps : List Str) (sp : Sp) : Prop where
  ex : ∃ C f fd, PySem.W.nsIn K mainGlobals c = some (some (.ref C)) ∧ Mk K C f ∧ mg c = some (.ref C) ∧ FnOk P w K mg base CX0 k f fd ps sp ∧ Binds K fd ps []
def tMethN (K : PySem.W.Frag) (c m : Str) (sp : Sp) (ta : TE) (t : TA) : TE := fun σ H Q => ∃ C, PySem.W.nsIn K mainGlobals c = some (some (.ref C)) ∧ tMeth C m sp [] E0 ta t σ H Q
def tMakeN (K : PySem.W.Frag) (c : Str) (sp : Sp) (t : TA) : TE := fun σ H Q => ∃ C, PySem.W.nsIn K mainGlobals c = some (some (.ref C)) ∧ tMake C sp [] E0 t σ H Q
section
variable {X : Cx} {c m : Str} {k : Nat} {ps : List Str} {sp : Sp} {o e : Expr} {es : List Expr} {ta : TE} {t : TA} {p pos apos : Pos}
theorem pe_metN {pl : Sem Bool} (C : CalM X.prog X.w X.K X.mg X.base c m k ps sp) (hr : Room k X.A) (he : PE X o ta) (ha : PA X (e :: es) t)
    (hst : starEach (e :: es) X.env = (false, eval e X.env) :: starEach es X.env := by rfl) (hpl : (backTo pos (starEach es X.env)).any (·.1) = false := by rfl)
    (ht : eval (.Call (.Attribute o m apos) (e :: es) [] pos) X.env = (do
      let ov ← eval o X.env
      standAt apos.atName
      let (f, first) ← holding [ov] (getMethod ov m pl)
      callWith pos f first (backTo pos (starEach (e :: es) X.env)) (backToKw pos (keywordEach [] X.env))) := by rfl) :
    PE X (.Call (.Attribute o m apos) (e :: es) [] pos) (tMethN X.K c m sp ta t) := by
  intro pins s σ H Q I ⟨C', hC', h⟩
  obtain ⟨C, f, fd, hC, cl, hm, F, hb⟩ := C.ex
  rw [hC] at hC'
  cases hC'
  exact pe_meth (pl := pl) he cl hm F hr hb .nil pass0 ha hst hpl ht pins s σ H Q I h
theorem pe_metN0 {pl : Sem Bool} (C : CalM X.prog X.w X.K X.mg X.base c m k ps sp) (hr : Room k X.A) (he : PE X o ta)
    (ht : eval (.Call (.Attribute o m apos) [] [] pos) X.env = (do
      let ov ← eval o X.env
      standAt apos.atName
      let (f, first) ← holding [ov] (getMethod ov m pl)
      callWith pos f first (backTo pos (starEach [] X.env)) (backToKw pos (keywordEach [] X.env))) := by rfl) :
    PE X (.Call (.Attribute o m apos) [] [] pos) (tMethN X.K c m sp ta tNil) := by
  intro pins s σ H Q I ⟨C', hC', h⟩
  obtain ⟨C, f, fd, hC, cl, hm, F, hb⟩ := C.ex
  rw [hC] at hC'
  cases hC'
  exact pe_meth0 (pl := pl) he cl hm F hr hb .nil pass0 (ht := ht) pins s σ H Q I h
theorem pe_makN (C : CalK X.prog X.w X.K X.mg X.base c k ps sp) (hr : Room (k + 1) X.A) (hg : Gl X c) (ha : PA X (e :: es) t)
    (hdb : (c == ("__debug__" : Str)) = false := by decide) (he : starEach (e :: es) X.env = (false, eval e X.env) :: starEach es X.env := by rfl) (hpl : (backTo pos (starEach es X.env)).any (·.1) = false := by rfl) :
    PE X (.Call (.Name c p) (e :: es) [] pos) (tMakeN X.K c sp t) := by
  intro pins s σ H Q I ⟨C', hC', h⟩
  obtain ⟨C, f, fd, hC, M, hm, F, hb⟩ := C.ex
  rw [hC] at hC'
  cases hC'
  exact pe_make M F hr hg hm hb .nil pass0 ha hdb he hpl pins s σ H Q I h
end
section
variable {K : PySem.W.Frag} {c f m : Str} {ns : List Str} {i j : Nat} {ta te : TE} {E : DE} {Eo : DO}
theorem sB_fld (CV : ClsV K c ns) (hf : ns[j]? = some f) (h : SimB K ta E) : SimB K (tFld K ta f) (dFld c ns j E) := fun F0 H0 F H σ δ P Q e w q => h F0 H0 F H σ δ _ _ e w fun d v F1 H1 w1 x1 r1 => by
  try dsimp only at w1
  split at w1
  · rename_i c' ns' ds
    obtain ⟨rfl, rfl, x, hx, w1⟩ := w1
    obtain ⟨a, C, dx, vs, rfl, h0, h1, hl, h2⟩ := r1
    obtain ⟨C', hC', cl, na⟩ := CV.ex
    rw [h0] at hC'
    cases hC'
    obtain ⟨u, hu, ru⟩ := h2.get hx
    exact ⟨a, C, dx, _, u, rfl, h1, cl, na f (List.mem_of_getElem? hf), by rw [lk_zip CV.nd hf]; exact hu, q _ _ F1 H1 w1 x1 ru⟩
  · exact w1.elim
theorem ER.obj {F0 H0 F H H' : Hp} {σ : St} {δ : Dst} {A : Nat → List Addr} (e : ER K F0 H0 F H σ δ A) {a dx C : Addr} {B B' : List Addr} {o : Option Addr} {ts' : List OV} {vs' : List V} (hv : σ[i]? = some (some (.ref a))) (eA : A i = a :: dx :: B)
    (h0 : PySem.W.nsIn K mainGlobals c = some (some (.ref C))) (ho : ∀ a', o = some a' → a = a') (h1 : H' a = some (.ins C dx (ns.zip vs'))) (h2 : H' dx = some (.own a)) (hl : ts'.length ≤ ns.length) (h3 : RepOs K F H' ts' vs' B') (nd : B'.Nodup)
    (hB : ∀ b ∈ B', b ∈ B ∨ (F b = none ∧ H0 b = none ∧ ∀ j, b ∉ A j)) (keep : ∀ b o, b ∉ A i → H b = some o → H' b = some o) : EnvR K F0 H0 F H' σ (δ.set i (some (.own (.ob o c ns ts')))) := by
  have hnd := e.nod i
  rw [eA] at hnd
  obtain ⟨n1, n2⟩ := List.nodup_cons.mp hnd
  obtain ⟨n3, n4⟩ := List.nodup_cons.mp n2
  have inA : ∀ b, b ∈ a :: dx :: B' → b ∈ A i ∨ (F b = none ∧ H0 b = none ∧ ∀ j, b ∉ A j) := fun b hb => by
    rw [eA]
    rcases List.mem_cons.mp hb with z | z
    · exact .inl (by simp [z])
    · rcases List.mem_cons.mp z with z | z
      · exact .inl (by simp [z])
      · rcases hB b z with y | y
        · exact .inl (by simp [y])
        · exact .inr y
  have notB : ∀ b, b ∈ A i → b ∉ B → b ∉ B' := fun b hb hn z => by
    rcases hB b z with y | y
    · exact hn y
    · exact y.2.2 i hb
  refine e.change i hv (t' := .ob o c ns ts') (B := a :: dx :: B') ⟨a, C, dx, vs', B', rfl, rfl, h0, ho, h1, h2, hl, h3⟩ ?_ ?_ ?_ keep
  · refine List.nodup_cons.mpr ⟨fun z => ?_, List.nodup_cons.mpr ⟨fun z => ?_, nd⟩⟩
    · rcases List.mem_cons.mp z with z | z
      · exact n1 (by simp [z])
      · exact notB a (by simp [eA]) (fun y => n1 (by simp [y])) z
    · exact notB dx (by simp [eA]) n3 z
  · intro b hb
    rcases inA b hb with z | z
    · exact ⟨(e.new i b z).1, (e.new i b z).2.1⟩
    · exact ⟨z.1, z.2.1⟩
  · intro j hj b hb z
    rcases inA b hb with y | y
    · exact e.dis j i b hj z y
    · exact y.2.2 j z
theorem sS_fset (CV : ClsV K c ns) (hf : ns[j]? = some f) (h : SimO K te Eo) : SimS K (sFld K (tVar i) te f) (sFSet c ns i j Eo) := fun F0 H0 F H σ δ De En e l w => by
  obtain ⟨A, e⟩ := e
  unfold sFSet at w
  split at w
  · rename_i o c' ns' ts hs
    obtain ⟨rfl, rfl, hj, w⟩ := w
    obtain ⟨v, hv, a, C, dx, vs, B, rfl, eA, h0, ho, h1, h2, hl, h3⟩ := e.own i _ hs
    obtain ⟨C', hC', cl, na⟩ := CV.ex
    rw [h0] at hC'
    cases hC'
    refine h F0 H0 F H σ δ _ _ ⟨A, e⟩ w fun r u F1 H1 p x1 n => ?_
    obtain ⟨C0, c1, c2, c3⟩ := n
    have e1 := e.on x1
    have hlen := h3.length
    refine ⟨_, hv, a, C, dx, _, rfl, x1.hh _ _ h1, cl, na f (List.mem_of_getElem? hf), ?_, ?_⟩
    · have := CV.few
      rw [List.length_zip]; omega
    rw [putF_set CV.nd hf (by omega)]
    have h31 : RepOs K F1 H1 ts vs B := h3.frame x1.ff fun b _ xs z => x1.hh _ _ z
    obtain ⟨v0, A1, B0, A2, f1, rfl, f3, f4⟩ := h31.focus (List.getElem?_eq_getElem hj)
    have hnd := e.nod i
    rw [eA] at hnd
    obtain ⟨n1, n2⟩ := List.nodup_cons.mp hnd
    obtain ⟨n3, n4⟩ := List.nodup_cons.mp n2
    have hCA' : ∀ j b, b ∈ C0 → b ∉ A j := fun j b hb z => by
      obtain ⟨_, _, xs, q, _⟩ := e.new j b z
      rw [(c3 b hb).1] at q; cases q
    have hCA := hCA' i
    have off : ∀ b, b ∈ A1 ++ (B0 ++ A2) → b ≠ a := fun b hb z => n1 (by rw [← z]; exact List.mem_cons_of_mem _ hb)
    have sub : ∀ b, b ∈ A1 ++ A2 → b ∈ A1 ++ (B0 ++ A2) := fun b hb => by
      rcases List.mem_append.mp hb with z | z <;> simp [z]
    have f4' := f4 F1 (upd H1 a (.ins C dx (ns'.zip (vs.set j u)))) r u C0 (Same.refl _) (fun b hb xs z => upd_off (off b (sub b hb)) z) (c1.frame (Same.refl _) fun b hb xs z => upd_off (fun y => hCA b hb (by rw [eA, y]; simp)) z)
    refine l.nx F1 _ σ _ (e1.obj hv eA h0 ho upd_same (upd_off (fun z => n1 (by rw [← z]; simp)) (x1.hh _ _ h2)) (by rw [List.length_set]; exact hl) f4' (nd_mid n4 c2 fun b hb => .inr fun z => hCA b hb (by rw [eA]; simp only [List.mem_cons]; exact .inr (.inr z))) (fun b hb => ?_) fun b o' hb z => upd_off (fun y => hb (by rw [eA, y]; simp)) z) p
    rcases List.mem_append.mp hb with z | z
    · exact .inl (by simp [z])
    · rcases List.mem_append.mp z with z | z
      · exact .inr ⟨(c3 b z).2, e.ext.hh.free (c3 b z).1, fun j => hCA' j b z⟩
      · exact .inl (by simp [z])
  · exact w.elim
theorem sS_fnew (CV : ClsV K c ns) (hf : ns[j]? = some f) (h : SimO K te Eo) : SimS K (sFld K (tVar i) te f) (sFNew c ns i j Eo) := fun F0 H0 F H σ δ De En e l w => by
  obtain ⟨A, e⟩ := e
  unfold sFNew at w
  split at w
  · rename_i o c' ns' ts hs
    obtain ⟨rfl, rfl, hj, w⟩ := w
    obtain ⟨v, hv, a, C, dx, vs, B, rfl, eA, h0, ho, h1, h2, hl, h3⟩ := e.own i _ hs
    obtain ⟨C', hC', cl, na⟩ := CV.ex
    rw [h0] at hC'
    cases hC'
    refine h F0 H0 F H σ δ _ _ ⟨A, e⟩ w fun r u F1 H1 p x1 n => ?_
    obtain ⟨C0, c1, c2, c3⟩ := n
    have e1 := e.on x1
    have hlen := h3.length
    refine ⟨_, hv, a, C, dx, _, rfl, x1.hh _ _ h1, cl, na f (List.mem_of_getElem? hf), ?_, ?_⟩
    · have := CV.few
      rw [List.length_zip]; omega
    have hf' := hf
    rw [hj, hlen] at hf'
    rw [putF_new CV.nd hf']
    have h31 : RepOs K F1 H1 ts vs B := h3.frame x1.ff fun b _ xs z => x1.hh _ _ z
    have hnd := e.nod i
    rw [eA] at hnd
    obtain ⟨n1, n2⟩ := List.nodup_cons.mp hnd
    obtain ⟨n3, n4⟩ := List.nodup_cons.mp n2
    have hCA' : ∀ j b, b ∈ C0 → b ∉ A j := fun j b hb z => by
      obtain ⟨_, _, xs, q, _⟩ := e.new j b z
      rw [(c3 b hb).1] at q; cases q
    have hCA := hCA' i
    have off : ∀ b, b ∈ B → b ≠ a := fun b hb z => n1 (by rw [← z]; exact List.mem_cons_of_mem _ hb)
    have hlt := (List.getElem?_eq_some_iff.mp hf').1
    have f4' : RepOs K F1 (upd H1 a (.ins C dx (ns'.zip (vs ++ [u])))) (ts ++ [r]) (vs ++ [u]) (B ++ C0) := RepOs.append (h31.frame (Same.refl _) fun b hb xs z => upd_off (off b hb) z) (RepOs.one (c1.frame (Same.refl _) fun b hb xs z => upd_off (fun y => hCA b hb (by rw [eA, y]; simp)) z))
    refine l.nx F1 _ σ _ (e1.obj hv eA h0 ho upd_same (upd_off (fun z => n1 (by rw [← z]; simp)) (x1.hh _ _ h2)) (by rw [List.length_append, List.length_singleton]; omega) f4' (List.nodup_append.mpr ⟨n4, c2, fun x hx y hy z => hCA y hy (by rw [eA, ← z]; simp [hx])⟩) (fun b hb => ?_) fun b o' hb z => upd_off (fun y => hb (by rw [eA, y]; simp)) z) p
    rcases List.mem_append.mp hb with z | z
    · exact .inl z
    · exact .inr ⟨(c3 b z).2, e.ext.hh.free (c3 b z).1, fun j => hCA' j b z⟩
  · exact w.elim
theorem sS_faug {g : Int → Int → Int} {rd : V → V → Hp → VK → Prop} (CV : ClsV K c ns) (hf : ns[j]? = some f) (hrd : ∀ x y H Q, Q (.int (g x y)) H → rd (.int x) (.int y) H Q) (h : SimB K te E) : SimS K (sFldAug K (tVar i) te rd f) (sFAug c ns i j g E) := fun F0 H0 F H σ δ De En e l w => by
  obtain ⟨A, e⟩ := e
  unfold sFAug at w
  split at w
  · rename_i o c' ns' ts hs
    obtain ⟨rfl, rfl, w⟩ := w
    obtain ⟨x, hx, w⟩ : ∃ x, ts[j]? = some (.fz (.int x)) ∧ E δ fun d => match d with
      | .int y => De.nx (δ.set i (some (.own (.ob o c' ns' (ts.set j (.fz (.int (g x y))))))))
      | _ => False := by
      split at w
      · exact ⟨_, by assumption, w⟩
      · exact w.elim
    obtain ⟨v, hv, a, C, dx, vs, B, rfl, eA, h0, ho, h1, h2, hl, h3⟩ := e.own i _ hs
    obtain ⟨C', hC', cl, na⟩ := CV.ex
    rw [h0] at hC'
    cases hC'
    have hlen := h3.length
    obtain ⟨v0, A1, B0, A2, f1, eB, ⟨f3, f3'⟩, f4⟩ := h3.focus hx
    subst f3
    cases (show v0 = V.int x from f3')
    refine ⟨_, hv, a, C, dx, _, _, rfl, h1, cl, na f (List.mem_of_getElem? hf), (by rw [lk_zip CV.nd hf]; exact f1), ?_⟩
    refine h F0 H0 F H σ δ _ _ ⟨A, e⟩ w fun d u F1 H1 p x1 ru => ?_
    try dsimp only at p
    split at p
    · rename_i y
      cases (show u = V.int y from ru)
      have e1 := e.on x1
      refine hrd _ _ _ _ ⟨dx, _, x1.hh _ _ h1, ?_, ?_⟩
      · have := CV.few
        rw [List.length_zip]; omega
      rw [putF_set CV.nd hf (List.getElem?_eq_some_iff.mp f1).1]
      have hnd := e.nod i
      rw [eA] at hnd
      obtain ⟨n1, n2⟩ := List.nodup_cons.mp hnd
      obtain ⟨n3, n4⟩ := List.nodup_cons.mp n2
      subst eB
      have f4' := f4 F1 (upd H1 a (.ins C dx (ns'.zip (vs.set j (.int (g x y)))))) (.fz (.int (g x y))) (.int (g x y)) [] x1.ff (fun b hb xs z => upd_off (fun q => n1 (by rw [← q]; exact List.mem_cons_of_mem _ (by simpa using hb))) (x1.hh _ _ z)) ⟨rfl, rfl⟩
      exact l.nx F1 _ σ _ (e1.obj hv eA h0 ho upd_same (upd_off (fun z => n1 (by rw [← z]; simp)) (x1.hh _ _ h2)) (by rw [List.length_set]; exact hl) f4' n4 (fun b hb => .inl hb) fun b o' hb z => upd_off (fun y => hb (by rw [eA, y]; simp)) z) p
    · exact p.elim
  · exact w.elim
theorem sS_fapp (CV : ClsV K c ns) (hf : ns[j]? = some f) (h : SimO K te Eo) : SimS K (tDrop (tBM K "list" rAppend (tFld K (tVar i) f) (tCons te tNil))) (sFApp c ns i j Eo) := fun F0 H0 F H σ δ De En e l w => by
  obtain ⟨A, e⟩ := e
  unfold sFApp at w
  split at w
  · rename_i o c' ns' ts hs
    obtain ⟨rfl, rfl, w⟩ := w
    obtain ⟨us, hx, hus, w⟩ : ∃ us, ts[j]? = some (.nl us) ∧ us.length < 1000000 ∧ Eo δ fun r => De.nx (δ.set i (some (.own (.ob o c' ns' (ts.set j (.nl (us ++ [r]))))))) := by
      split at w
      · exact ⟨_, by assumption, w⟩
      · exact w.elim
    obtain ⟨v, hv, a, C, dx, vs, B, rfl, eA, h0, ho, h1, h2, hl, h3⟩ := e.own i _ hs
    obtain ⟨C', hC', cl, na⟩ := CV.ex
    rw [h0] at hC'
    cases hC'
    obtain ⟨v0, A1, B0, A2, f1, rfl, f3, f4⟩ := h3.focus hx
    obtain ⟨b0, ws, B1, rfl, rfl, hc, hws⟩ := f3
    refine ⟨_, hv, a, C, dx, _, .ref b0, rfl, h1, cl, na f (List.mem_of_getElem? hf), (by rw [lk_zip CV.nd hf]; exact f1), .inl ⟨rfl, _, SqL.of hc⟩, ?_⟩
    refine h F0 H0 F H σ δ _ _ ⟨A, e⟩ w fun r u F1 H1 p x1 n => ?_
    obtain ⟨C0, c1, c2, c3⟩ := n
    have e1 := e.on x1
    have hwl := hws.length
    refine ⟨b0, ws, u, rfl, rfl, x1.hh _ _ hc, sz_lt (by omega), ?_⟩
    have hnd := e.nod i
    rw [eA] at hnd
    obtain ⟨n1, n2⟩ := List.nodup_cons.mp hnd
    obtain ⟨n3, n4⟩ := List.nodup_cons.mp n2
    have hCA' : ∀ j b, b ∈ C0 → b ∉ A j := fun j b hb z => by
      obtain ⟨_, _, xs, q, _⟩ := e.new j b z
      rw [(c3 b hb).1] at q; cases q
    have hbA : b0 ∈ A i := by rw [eA]; simp
    obtain ⟨m1, m2, m3⟩ := List.nodup_append.mp n4
    obtain ⟨q1, q2, q3⟩ := List.nodup_append.mp m2
    obtain ⟨s1, s2⟩ := List.nodup_cons.mp q1
    have off : ∀ b ∈ A1 ++ A2, b ≠ b0 := fun b hb z => by
      subst z
      rcases List.mem_append.mp hb with y | y
      · exact m3 b y b (by simp) rfl
      · exact q3 b (by simp) b y rfl
    have hab : a ≠ b0 := fun z => n1 (by rw [z]; simp)
    have hdb : dx ≠ b0 := fun z => n3 (by rw [z]; simp)
    have f4' := f4 F1 (upd H1 b0 (.lst (ws ++ [u]))) (.nl (us ++ [r])) (.ref b0) (b0 :: (B1 ++ C0)) x1.ff (fun b hb xs z => upd_off (off b hb) (x1.hh _ _ z))
      ⟨b0, ws ++ [u], B1 ++ C0, rfl, rfl, upd_same, RepOs.append (hws.frame x1.ff fun b hb xs z => upd_off (fun y => s1 (by rw [← y]; exact hb)) (x1.hh _ _ z)) (RepOs.one (c1.frame (Same.refl _) fun b hb xs z => upd_off (fun y => hCA' i b hb (by rw [y]; exact hbA)) z))⟩
    rw [set_self_of f1] at f4'
    refine l.nx F1 _ σ _ (e1.obj hv eA h0 ho (upd_off hab (x1.hh _ _ h1)) (upd_off hdb (x1.hh _ _ h2)) (by rw [List.length_set]; exact hl) f4' (nd_mid n4 ?_ fun b hb => ?_) (fun b hb => ?_) fun b o' hb z => upd_off (fun y => hb (by rw [y]; exact hbA)) z) p
    · refine List.nodup_cons.mpr ⟨fun z => ?_, List.nodup_append.mpr ⟨s2, c2, fun x hx y hy z => hCA' i y hy (by rw [eA, ← z]; simp [hx])⟩⟩
      rcases List.mem_append.mp z with y | y
      · exact s1 y
      · exact hCA' i b0 y hbA
    · rcases List.mem_cons.mp hb with y | y
      · exact .inl (by simp [y])
      · rcases List.mem_append.mp y with y | y
        · exact .inl (by simp [y])
        · exact .inr fun z => hCA' i b y (by rw [eA]; simp only [List.mem_cons]; exact .inr (.inr z))
    · simp only [List.mem_append, List.mem_cons] at hb
      rcases hb with z | (z | z | z) | z
      · exact .inl (by simp [z])
      · exact .inl (by simp [z])
      · exact .inl (by simp [z])
      · exact .inr ⟨(c3 b z).2, e.ext.hh.free (c3 b z).1, fun j => hCA' j b z⟩
      · exact .inl (by simp [z])
  · exact w.elim
theorem ER.fpop {F0 H0 F H : Hp} {σ : St} {δ : Dst} {A : Nat → List Addr} {o : Option Addr} {ts us : List OV} {d : D} (e : ER K F0 H0 F H σ δ A) (CV : ClsV K c ns) (hf : ns[j]? = some f) (hs : δ[i]? = some (some (.own (.ob o c ns ts)))) (hx : ts[j]? = some (.nl (us ++ [.fz d]))) :
    ∃ a b0 ws y C dx fs, σ[i]? = some (some (.ref a)) ∧ H a = some (.ins C dx fs) ∧ PySem.W.nsIn K mainGlobals c = some (some (.ref C)) ∧ Cls K C ∧ NoAttr K C f ∧ fs.lookup f = some (.ref b0) ∧ H b0 = some (.lst ws) ∧ ws[ws.length - 1]? = some y ∧ Rep K F d y ∧ (upd H b0 (.lst ws.dropLast)) a = some (.ins C dx fs) ∧
      EnvR K F0 H0 F (upd H b0 (.lst ws.dropLast)) σ (δ.set i (some (.own (.ob o c ns (ts.set j (.nl us)))))) := by
  obtain ⟨v, hv, a, C, dx, vs, B, rfl, eA, h0, ho, h1, h2, hl, h3⟩ := e.own i _ hs
  obtain ⟨C', hC', cl, na⟩ := CV.ex
  rw [h0] at hC'
  cases hC'
  obtain ⟨v0, A1, B0, A2, f1, rfl, f3, f4⟩ := h3.focus hx
  obtain ⟨b0, ws, B1, rfl, rfl, hc, hws⟩ := f3
  obtain ⟨ws1, y, rfl, B2, hw1, hwy, eB⟩ : ∃ ws1 y, ws = ws1 ++ [y] ∧ ∃ B2, RepOs K F H us ws1 B2 ∧ Rep K F d y ∧ B1 = B2 := by
    clear f4 h3 hx eA hc f1
    induction us generalizing ws B1 with
    | nil =>
      obtain ⟨v, r, B, C, rfl, rfl, g1, g2, g3⟩ := hws
      subst g2 g3
      exact ⟨[], v, rfl, [], ⟨rfl, rfl⟩, g1.2, by rw [g1.1]; rfl⟩
    | cons t us ih =>
      obtain ⟨v, r, B, C, rfl, rfl, g1, g2⟩ := hws
      obtain ⟨ws1, y, rfl, B2, k1, k2, rfl⟩ := ih _ _ g2
      exact ⟨v :: ws1, y, rfl, B ++ C, ⟨v, ws1, B, C, rfl, rfl, g1, k1⟩, k2, rfl⟩
  subst eB
  have hnd := e.nod i
  rw [eA] at hnd
  obtain ⟨n1, n2⟩ := List.nodup_cons.mp hnd
  obtain ⟨n3, n4⟩ := List.nodup_cons.mp n2
  have hbA : b0 ∈ A i := by rw [eA]; simp
  obtain ⟨m1, m2, m3⟩ := List.nodup_append.mp n4
  obtain ⟨q1, q2, q3⟩ := List.nodup_append.mp m2
  obtain ⟨s1, s2⟩ := List.nodup_cons.mp q1
  have off : ∀ b ∈ A1 ++ A2, b ≠ b0 := fun b hb z => by
    subst z
    rcases List.mem_append.mp hb with y | y
    · exact m3 b y b (by simp) rfl
    · exact q3 b (by simp) b y rfl
  have hab : a ≠ b0 := fun z => n1 (by rw [z]; simp)
  have hdb : dx ≠ b0 := fun z => n3 (by rw [z]; simp)
  have edl : (ws1 ++ [y]).dropLast = ws1 := by simp
  have f4' := f4 F (upd H b0 (.lst (ws1 ++ [y]).dropLast)) (.nl us) (.ref b0) (b0 :: B1) (Same.refl _) (fun b hb xs z => upd_off (off b hb) z) ⟨b0, (ws1 ++ [y]).dropLast, B1, rfl, rfl, upd_same, by
    rw [edl]
    exact hw1.frame (Same.refl _) fun b hb xs z => upd_off (fun y => s1 (by rw [← y]; exact hb)) z⟩
  rw [set_self_of f1] at f4'
  refine ⟨a, b0, ws1 ++ [y], y, C, dx, _, hv, h1, h0, cl, na f (List.mem_of_getElem? hf), (by rw [lk_zip CV.nd hf]; exact f1), hc, by simp, hwy, upd_off hab h1, ?_⟩
  exact e.obj hv eA h0 ho (upd_off hab h1) (upd_off hdb h2) (by rw [List.length_set]; exact hl) f4' n4 (fun b hb => .inl hb) fun b o' hb z => upd_off (fun y => hb (by rw [y]; exact hbA)) z
theorem sS_fpop {k : Nat} (CV : ClsV K c ns) (hf : ns[j]? = some f) : SimS K (tAsg (tBM0 K "list" rPop (tFld K (tVar i) f)) (gName k)) (sFPop c ns i j k) := fun F0 H0 F H σ δ De En e l w => by
  obtain ⟨A, e⟩ := e
  unfold sFPop at w
  split at w
  · rename_i o c' ns' ts hs
    obtain ⟨rfl, rfl, us, d, hx, w⟩ := w
    obtain ⟨a, b0, ws, y, C, dx, fs, hv, h1, h0, cl, na, hl, hc, hy, ry, _, e'⟩ := e.fpop CV hf hs hx
    refine ⟨_, hv, a, C, dx, fs, .ref b0, rfl, h1, cl, na, hl, .inl ⟨rfl, _, SqL.of hc⟩, b0, ws, y, rfl, rfl, hc, hy, ?_⟩
    exact l.nx F _ _ _ (e'.put (Ext.refl e'.ext.fh) k (.fz ry)) w
  · exact w.elim
def spM (K : PySem.W.Frag) (n : Nat) (c : Str) (ns : List Str) (sp : DMo) : Sp := spL n fun vs H Q => ∃ F a C dx ts vs0 B rest ds P, vs = V.ref a :: rest ∧ PySem.W.nsIn K mainGlobals c = some (some (.ref C)) ∧ Same F H ∧ H a = some (.ins C dx (ns.zip vs0)) ∧ H dx = some (.own a) ∧ ts.length ≤ ns.length ∧ RepOs K F H ts vs0 B ∧
  (a :: dx :: B).Nodup ∧ (∀ b ∈ a :: dx :: B, F b = none) ∧ Reps K F ds rest ∧ sp ts ds P ∧
  ∀ ts' F' H' dx' vs' B', P ts' → Same F F' → Same F' H' → (∀ b o, b ∉ a :: dx :: B → H b = some o → H' b = some o) → (∀ b o, F b = none → H b = some o → imm o = false → b ∉ a :: dx :: B → F' b = none) → H' a = some (.ins C dx' (ns.zip vs')) → H' dx' = some (.own a) → ts'.length ≤ ns.length → RepOs K F' H' ts' vs' B' →
    (a :: dx' :: B').Nodup → (∀ b ∈ a :: dx' :: B', F' b = none ∧ (b ∈ a :: dx :: B ∨ H b = none)) → Q .non H'
theorem spM_of {F0 H0 F H : Hp} {σ : St} {δ : Dst} {De : DEnds} {En : Ends} {n : Nat} {sp : DMo} {o : Option Addr} {ts : List OV} {ds : List D} {us : List V} {p : Addr} (e : EnvR K F0 H0 F H σ δ) (hs : δ[i]? = some (some (.own (.ob o c ns ts)))) (hσ : σ[i]? = some (some (.ref p))) (l : Lk K F0 H0 De En) (hn : ds.length + 1 = n)
    (r : Reps K F ds us) (hsp : sp ts ds fun ts' => De.nx (δ.set i (some (.own (.ob o c ns ts'))))) : spM K n c ns sp (.ref p :: us) H (fun _ H2 => En.nx σ H2) E0 := by
  obtain ⟨A, e⟩ := e
  obtain ⟨v, hv, a, C, dx, vs, B, rfl, eA, h0, ho, h1, h2, hl, h3⟩ := e.own i _ hs
  rw [hσ] at hv
  cases hv
  have hnd := e.nod i
  rw [eA] at hnd
  have hlt : i < δ.length := (List.getElem?_eq_some_iff.mp hs).1
  refine ⟨by rw [List.length_cons, ← r.length]; exact hn, F, p, C, dx, ts, vs, B, us, ds, _, rfl, h0, e.ext.fh, h1, h2, hl, h3, hnd, fun b hb => (e.new i b (by rw [eA]; exact hb)).1, r, hsp, ?_⟩
  intro ts' F' H' dx' vs' B' pt sF sH keep nofz hp' hd' hl' hB' nd' nw'
  refine l.nx F' H' σ _ ⟨fun j => if j = i then p :: dx' :: B' else A j, ?_⟩ pt
  refine ⟨by simp [e.len], ⟨e.ext.ff.trans sF, fun b o h => ?_, sH, fun b o h1 h2 h3 => ?_⟩, fun j t hj => ?_, fun j d hj => ?_, fun j => ?_, fun j k b hjk h1 h2 => ?_, fun j b hb => ?_⟩
  · exact keep b o (fun z => by rw [(e.new i b (by rw [eA]; exact z)).2.1] at h; cases h) (e.ext.hh _ _ h)
  · exact nofz b o (e.ext.no b o h1 h2 h3) (e.ext.hh _ _ h2) h3 (fun z => by rw [(e.new i b (by rw [eA]; exact z)).2.1] at h2; cases h2)
  · try dsimp only
    by_cases z : j = i
    · subst z
      rw [if_pos rfl]
      rw [List.getElem?_set_self hlt] at hj
      cases hj
      exact ⟨_, hσ, p, C, dx', vs', B', rfl, rfl, h0, ho, hp', hd', hl', hB'⟩
    · rw [if_neg z]
      rw [List.getElem?_set_ne (Ne.symm z)] at hj
      obtain ⟨u, h1, h2⟩ := e.own j t hj
      exact ⟨u, h1, h2.frame sF fun b hb xs q => keep b _ (fun y => e.dis j i b z hb (by rw [eA]; exact y)) q⟩
  · by_cases z : j = i
    · subst z
      rw [List.getElem?_set_self hlt] at hj
      cases hj
    · rw [List.getElem?_set_ne (Ne.symm z)] at hj
      exact e.bw j d hj
  · try dsimp only
    split
    · exact nd'
    · exact e.nod j
  · try dsimp only at h1 h2
    have key : ∀ k, k ≠ i → b ∈ p :: dx' :: B' → b ∈ A k → False := fun k hk z1 z2 => by
      rcases (nw' b z1).2 with y | y
      · exact e.dis k i b hk z2 (by rw [eA]; exact y)
      · obtain ⟨_, _, xs, q, _⟩ := e.new k b z2
        rw [y] at q; cases q
    split at h1
    · split at h2
      · omega
      · rename_i z1 z2
        exact key k z2 h1 h2
    · split at h2
      · rename_i z1 z2
        exact key j z1 h2 h1
      · exact e.dis j k b hjk h1 h2
  · try dsimp only at hb
    split at hb
    · have hh : H0 b = none := by
        rcases (nw' b hb).2 with y | y
        · exact (e.new i b (by rw [eA]; exact y)).2.1
        · exact e.ext.hh.free y
      refine ⟨(nw' b hb).1, hh, ?_⟩
      rcases List.mem_cons.mp hb with y | y
      · rw [y]; exact ⟨_, hp', rfl⟩
      · rcases List.mem_cons.mp y with y | y
        · rw [y]; exact ⟨_, hd', rfl⟩
        · exact hB'.isl b y
    · rename_i z
      obtain ⟨h1, h2, xs, h3, himm⟩ := e.new j b hb
      have hni : b ∉ p :: dx :: B := fun y => e.dis j i b z hb (by rw [eA]; exact y)
      exact ⟨nofz b _ h1 h3 himm hni, h2, xs, keep b _ hni h3, himm⟩
theorem sS_meth {n : Nat} {sp : DMo} {a : TA} {As : DA} (CV : ClsV K c ns) (hm : m ∉ ns) (ha : SimAF K a As) : SimS K (tDrop (tMethN K c m (spM K n c ns sp) (tVar i) a)) (sMeth c ns i n sp As) := fun F0 H0 F H σ δ De En e l w => by
  unfold sMeth at w
  split at w
  · rename_i o c' ns' ts hs
    obtain ⟨rfl, rfl, w⟩ := w
    obtain ⟨A, e⟩ := e
    obtain ⟨v, hv, p, C, dx, vs, B, rfl, eA, h0, ho, h1, h2, hl, h3⟩ := e.own i _ hs
    refine ⟨C, h0, _, hv, p, dx, _, rfl, h1, lk_zip_none hm, ?_⟩
    refine ha F0 H0 F H σ δ _ _ ⟨A, e⟩ w fun ds us F1 H1 w1 x1 r1 => ?_
    show spM K n c' ns' sp (V.ref p :: (us ++ [])) H1 (fun _ H2 => En.nx σ H2) E0
    rw [List.append_nil]
    exact spM_of ⟨A, e.on x1⟩ hs hv l w1.1 r1 w1.2
  · exact w.elim
theorem sS_methPop {sp : DMo} (CV : ClsV K c ns) (hf : ns[j]? = some f) (hm : m ∉ ns) : SimS K (tDrop (tMethN K c m (spM K 2 c ns sp) (tVar i) (tCons (tBM0 K "list" rPop (tFld K (tVar i) f)) tNil))) (sMethPop c ns i j sp) := fun F0 H0 F H σ δ De En e l w => by
  unfold sMethPop at w
  split at w
  · rename_i o c' ns' ts hs
    obtain ⟨rfl, rfl, us, d, hx, w⟩ := w
    obtain ⟨A, e⟩ := e
    obtain ⟨v, hv', p, C', dx', vs, B, rfl, eA, h0', ho, h1', h2', hl', h3⟩ := e.own i _ hs
    obtain ⟨a, b0, ws, y, C, dx, fs, hv, h1, h0, cl, na, hl, hc, hy, ry, h1b, e'⟩ := e.fpop CV hf hs hx
    rw [hv'] at hv
    cases hv
    refine ⟨C', h0', _, hv', p, dx', _, rfl, h1', lk_zip_none hm, ?_⟩
    refine ⟨_, hv', p, C, dx, fs, .ref b0, rfl, h1, cl, na, hl, .inl ⟨rfl, _, SqL.of hc⟩, b0, ws, y, rfl, rfl, hc, hy, ?_⟩
    show spM K 2 c' ns' sp (V.ref p :: ([y] ++ [])) _ (fun _ H2 => En.nx σ H2) E0
    have hlt : i < δ.length := (List.getElem?_eq_some_iff.mp hs).1
    exact spM_of (δ := δ.set i (some (.own (.ob o c' ns' (ts.set j (.nl us)))))) e' (List.getElem?_set_self hlt) hv' l (ds := [d]) rfl (show Reps K F [d] [y] from ⟨y, [], rfl, ry, rfl⟩) (by simpa only [List.set_set] using w)
  · exact w.elim
theorem sO_methP {n : Nat} {sp : DSp} {a : TA} {As : DA} (CV : ClsV K c ns) (hm : m ∉ ns) (h : SimB K te E) (ha : SimAB K a As) : SimO K (tMethN K c m (spV K n sp) te a) (dMethP c ns n sp E As) := fun F0 H0 F H σ δ P Q e w q => by
  have key : (∃ C, PySem.W.nsIn K mainGlobals c = some (some (.ref C))) → tMethN K c m (spV K n sp) te a σ H Q := fun ⟨C, hC⟩ => by
    refine ⟨C, hC, ?_⟩
    refine h F0 H0 F H σ δ _ _ e w fun d v F1 H1 w1 x1 r1 => ?_
    try dsimp only at w1
    split at w1
    · rename_i c' ns' fs
      obtain ⟨rfl, rfl, w1⟩ := w1
      have r1' := r1
      obtain ⟨p, C', dx, vs, rfl, h0, h1, hl, h2⟩ := r1
      rw [hC] at h0
      cases h0
      refine ⟨p, dx, _, rfl, h1, lk_zip_none hm, ?_⟩
      refine ha F0 H0 F1 H1 σ δ _ _ (e.on x1) w1 fun ds us F2 H2 w2 x2 r2 => ?_
      show spV K n sp (V.ref p :: (us ++ [])) H2 Q E0
      rw [List.append_nil]
      have x12 := x1.trans x2
      refine ⟨by rw [List.length_cons, ← r2.length]; exact w2.1, H2, .obj c' ns' fs :: ds, _, Same.refl _, ⟨.ref p, us, rfl, r1'.mono x2.hh, r2⟩, w2.2, fun r v F' H' p x' r' => ?_⟩
      have s1 : Same F2 F' := x2.fh.trans x'.ff
      have x3 := frzT_ext s1
      obtain ⟨A, a1, a2, a3⟩ := r'
      refine q r v (frzT F2 F') H' p.2 (x12.trans ⟨x3.ff, x'.hh, x3.fh.trans x'.fh, fun b o z1 z2 z3 => ?_⟩) ⟨A, a1.lf s1 p.1, a2, fun b hb => ⟨x12.hh.free (a3 b hb).1, x3.fh.free (a3 b hb).2⟩⟩
      exact x3.no b o z1 (x'.ff _ _ z2) z3
    · exact w1.elim
  exact key ⟨_, CV.ex.choose_spec.1⟩
theorem sO_make {n : Nat} {sp : DMo} {a : TA} {As : DA} (CV : ClsV K c ns) (ha : SimAF K a As) : SimO K (tMakeN K c (spM K n c ns sp) a) (dMake c ns n sp As) := fun F0 H0 F H σ δ P Q e w q => by
  obtain ⟨C, hC, _⟩ := CV.ex
  refine ⟨C, hC, ha F0 H0 F H σ δ _ _ e w fun ds us F1 H1 w1 x1 r1 => fun x dx hx hd hne => ?_⟩
  show spM K n c ns sp (V.ref x :: (us ++ [])) _ _ E0
  rw [List.append_nil]
  have s0 : Same H1 (upd (upd H1 dx (.own x)) x (.ins C dx [])) := fun b o z => upd_off (fun y => by rw [y, hx] at z; cases z) (upd_off (fun y => by rw [y, hd] at z; cases z) z)
  refine ⟨by rw [List.length_cons, ← r1.length]; exact w1.1, F1, x, C, dx, [], [], [], us, ds, _, rfl, hC, x1.fh.trans s0, (by rw [List.zip_nil_right]; exact upd_same), upd_off hne upd_same, Nat.zero_le _, ⟨rfl, rfl⟩, ?_, fun b hb => ?_, r1, w1.2, ?_⟩
  · simp only [List.nodup_cons, List.mem_cons, List.not_mem_nil, or_false, not_false_eq_true, List.nodup_nil, and_true]
    exact fun z => hne z.symm
  · rcases List.mem_cons.mp hb with z | z
    · rw [z]; exact x1.fh.free hx
    · rw [List.mem_singleton.mp z]; exact x1.fh.free hd
  intro ts' F' H' dx' vs' B' pt sF sH keep nofz hp' hd' hl' hB' nd' nw'
  have s1 : ∀ b o, H1 b = some o → b ∉ x :: dx :: ([] : List Addr) := fun b o z y => by
    rcases List.mem_cons.mp y with y | y
    · rw [y, hx] at z; cases z
    · rw [List.mem_singleton.mp y, hd] at z; cases z
  refine ⟨rfl, q _ _ F' H' pt (x1.trans ⟨sF, fun b o z => keep b o (s1 b o z) (s0 _ _ z), sH, fun b o z1 z2 z3 => nofz b o z1 (s0 _ _ z2) z3 (s1 b o z2)⟩) ⟨x :: dx' :: B', ⟨x, C, dx', vs', B', rfl, rfl, hC, (fun _ z => by cases z), hp', hd', hl', hB'⟩, nd', fun b hb => ⟨?_, (nw' b hb).1⟩⟩⟩
  rcases (nw' b hb).2 with y | y
  · rcases List.mem_cons.mp y with y | y
    · rw [y]; exact x1.hh.free hx
    · rw [List.mem_singleton.mp y]; exact x1.hh.free hd
  · exact x1.hh.free (s0.free y)
end
section
variable {P : Program} {w : World} {K : PySem.W.Frag} {mg : Str → Option Value} {base : Heap} {c m q : Str} {ns : List Str} {st : Stmt} {f : Addr} {fd : FuncData} {N ps : List Str} {k n : Nat}
theorem okM_of {sp : DMo} (Fn : Fun K m q st f fd) (S : FnScope N ps (defScope st)) (hn : n = ps.length)
    (hbody : ∀ (cdv : Value) (A : Around) (outer : List Env) (s : Shared) (H : Hp) (E : XK), Room k (A.deeper (envOfC q (defScope st) s.heap.objs.size f cdv)) →
      ∃ t T, PSs (cxOf CX0 P w K mg base N q (defScope st) f cdv A outer s H E).nox (defBody st) t ∧ SimS K t T ∧ ∀ (a : Addr) ts ds Pr, sp ts ds Pr → T { nx := fun δ => ∃ ts', δ[0]? = some (some (.own (.ob (some a) c ns ts'))) ∧ Pr ts', rt := fun _ => False } (startM N c ns a ts ds)) :
    FnOk P w K mg base CX0 (k + 1) f fd ps (spM K n c ns sp) :=
  Fn.ok S (fun vs H Q E h => by rw [← hn]; exact h.1) fun cdv A outer s H vs Q E hr h => by
    obtain ⟨_, F, a, C, dx, ts, vs0, B, rest, ds, Pr, rfl, hC, hs, ha, hd, hlen, hB, hnd, hnf, hr', hsp, hq⟩ := h
    obtain ⟨t, T, h1, h2, h3⟩ := hbody cdv A outer s H E hr
    have hl := hr'.length
    have er : ER K F (fun b => if b ∈ a :: dx :: B then none else H b) F H (start N (V.ref a :: rest)) (startM N c ns a ts ds) (fun j => if j = 0 then a :: dx :: B else []) := by
      refine ⟨by simp [start, startM, hl], ⟨Same.refl _, fun b o z => ?_, hs, fun _ _ z _ _ => z⟩, fun i t hi => ?_, fun i d hi => ?_, fun j => ?_, fun j k b hjk y1 y2 => ?_, fun j b hb => ?_⟩
      · try dsimp only at z
        split at z
        · cases z
        · exact z
      · unfold startM at hi
        cases i with
        | zero =>
          simp at hi
          subst hi
          exact ⟨.ref a, rfl, a, C, dx, vs0, B, rfl, rfl, hC, (fun _ z => Option.some.inj z), ha, hd, hlen, hB⟩
        | succ i =>
          rw [List.getElem?_cons_succ] at hi
          try dsimp only
          rw [if_neg (by omega)]
          by_cases z : i < ds.length
          · rw [List.getElem?_append_left (by simpa using z), List.getElem?_map, List.getElem?_eq_getElem z] at hi
            simp at hi
            subst hi
            obtain ⟨v, g1, g2⟩ := hr'.get (List.getElem?_eq_getElem z)
            refine ⟨v, ?_, rfl, g2⟩
            unfold start
            rw [List.map_cons, List.cons_append, List.getElem?_cons_succ, List.getElem?_append_left (by simp; omega), List.getElem?_map, g1]
            rfl
          · rw [List.getElem?_append_right (by simpa using z)] at hi
            have := List.mem_of_getElem? hi
            rw [List.mem_replicate] at this
            cases this.2
      · unfold startM at hi
        cases i with
        | zero => simp at hi
        | succ i =>
          rw [List.getElem?_cons_succ] at hi
          by_cases z : i < ds.length
          · rw [List.getElem?_append_left (by simpa using z), List.getElem?_map, List.getElem?_eq_getElem z] at hi
            simp at hi
          · rw [List.getElem?_append_right (by simpa using z)] at hi
            have := List.mem_of_getElem? hi
            rw [List.mem_replicate] at this
            cases this.2
      · try dsimp only
        split
        · exact hnd
        · exact List.nodup_nil
      · try dsimp only at y1 y2
        split at y1
        · split at y2
          · omega
          · cases y2
        · cases y1
      · try dsimp only at hb
        split at hb
        · refine ⟨hnf b hb, if_pos hb, ?_⟩
          rcases List.mem_cons.mp hb with y | y
          · rw [y]; exact ⟨_, ha, rfl⟩
          · rcases List.mem_cons.mp y with y | y
            · rw [y]; exact ⟨_, hd, rfl⟩
            · exact hB.isl b y
        · cases hb
    refine ⟨t, h1, h2 F _ F H (start N (V.ref a :: rest)) (startM N c ns a ts ds) { nx := fun δ => ∃ ts', δ[0]? = some (some (.own (.ob (some a) c ns ts'))) ∧ Pr ts', rt := fun _ => False } _ ⟨_, er⟩ ⟨fun F' H' σ δ e p => ?_, fun _ _ _ _ _ z => z.elim, fun _ _ _ _ _ z => z.elim, fun _ _ _ _ _ _ z => z.elim⟩ (h3 a ts ds Pr hsp)⟩
    obtain ⟨A', e⟩ := e
    obtain ⟨ts', h0, hp⟩ := p
    obtain ⟨v, hv, a', C', dx', vs', B', rfl, eA, g0, go, g1, g2, g3, g4⟩ := e.own 0 _ h0
    obtain rfl := go a rfl
    rw [hC] at g0
    cases g0
    have hn' := e.nod 0
    rw [eA] at hn'
    refine hq ts' F' H' dx' vs' B' hp e.ext.ff e.ext.fh (fun b o y z => ?_) (fun b o y1 y2 y3 y4 => ?_) g1 g2 g3 g4 hn' (fun b hb => ?_)
    · exact e.ext.hh b o (by rw [if_neg y]; exact z)
    · exact e.ext.no b o y1 (by rw [if_neg y4]; exact y2) y3
    · obtain ⟨z1, z2, _⟩ := e.new 0 b (by rw [eA]; exact hb)
      refine ⟨z1, ?_⟩
      by_cases q : b ∈ a' :: dx :: B
      · exact .inl q
      · rw [if_neg q] at z2; exact .inr z2
theorem CalM.of {sp : DMo} (Df : MetAt K c m q st f fd) (S : FnScope N ps (defScope st))
    (hb : ∀ (kV doc pm : Value) (an : Option Addr) (cdv ct : Value) (us : List Value), us.length = ps.length → bindArgs (PySem.W.fnOf m q (defArgs st) (defBody st) (defScope st) .none kV doc pm an cdv ct) ⟨us, []⟩ = pure (ps.zip us)) (hn : n = ps.length)
    (hbody : ∀ (cdv : Value) (A : Around) (outer : List Env) (s : Shared) (H : Hp) (E : XK), Room k (A.deeper (envOfC q (defScope st) s.heap.objs.size f cdv)) →
      ∃ t T, PSs (cxOf CX0 P w K mg base N q (defScope st) f cdv A outer s H E).nox (defBody st) t ∧ SimS K t T ∧ ∀ (a : Addr) ts ds Pr, sp ts ds Pr → T { nx := fun δ => ∃ ts', δ[0]? = some (some (.own (.ob (some a) c ns ts'))) ∧ Pr ts', rt := fun _ => False } (startM N c ns a ts ds)) :
    CalM P w K mg base c m (k + 1) ps (spM K n c ns sp) := by
  obtain ⟨C, hC, cl, hm⟩ := Df.cl
  exact ⟨C, f, fd, hC, cl, hm, okM_of Df.fn S hn hbody, Df.fn.binds hb⟩
theorem CalK.of {sp : DMo} (Df : Fun K m q st f fd) (Mf : MakAt K mg c f) (S : FnScope N ps (defScope st))
    (hb : ∀ (kV doc pm : Value) (an : Option Addr) (cdv ct : Value) (us : List Value), us.length = ps.length → bindArgs (PySem.W.fnOf m q (defArgs st) (defBody st) (defScope st) .none kV doc pm an cdv ct) ⟨us, []⟩ = pure (ps.zip us)) (hn : n = ps.length)
    (hbody : ∀ (cdv : Value) (A : Around) (outer : List Env) (s : Shared) (H : Hp) (E : XK), Room k (A.deeper (envOfC q (defScope st) s.heap.objs.size f cdv)) →
      ∃ t T, PSs (cxOf CX0 P w K mg base N q (defScope st) f cdv A outer s H E).nox (defBody st) t ∧ SimS K t T ∧ ∀ (a : Addr) ts ds Pr, sp ts ds Pr → T { nx := fun δ => ∃ ts', δ[0]? = some (some (.own (.ob (some a) c ns ts'))) ∧ Pr ts', rt := fun _ => False } (startM N c ns a ts ds)) :
    CalK P w K mg base c (k + 1) ps (spM K n c ns sp) := by
  obtain ⟨C, hC, M, hm⟩ := Mf.cl
  exact ⟨C, f, fd, hC, M, hm, okM_of Df S hn hbody, Df.binds hb⟩
theorem CalP.of {sp : DSp} (Df : MetAt K c m q st f fd) (S : FnScope N ps (defScope st))
    (hb : ∀ (kV doc pm : Value) (an : Option Addr) (cdv ct : Value) (us : List Value), us.length = ps.length → bindArgs (PySem.W.fnOf m q (defArgs st) (defBody st) (defScope st) .none kV doc pm an cdv ct) ⟨us, []⟩ = pure (ps.zip us)) (hn : n = ps.length)
    (hbody : ∀ (cdv : Value) (A : Around) (outer : List Env) (s : Shared) (H : Hp) (E : XK), Room k (A.deeper (envOfC q (defScope st) s.heap.objs.size f cdv)) →
      ∃ t T, PSs (cxOf CX0 P w K mg base N q (defScope st) f cdv A outer s H E).nox (defBody st) t ∧ SimS K t T ∧ ∀ ds Pr, sp ds Pr → T { nx := fun _ => Pr (.fz .non), rt := Pr } (startV N ds)) : CalM P w K mg base c m (k + 1) ps (spV K n sp) := by
  obtain ⟨C, hC, cl, hm⟩ := Df.cl
  refine ⟨C, f, fd, hC, cl, hm, Df.fn.ok S (fun vs H Q E h => by rw [← hn]; exact h.1) fun cdv A outer s H vs Q E hr h => ?_, Df.fn.binds hb⟩
  obtain ⟨_, F, ds, Pr, hs, hr', hsp, hq⟩ := h
  obtain ⟨t, T, h1, h2, h3⟩ := hbody cdv A outer s H E hr
  refine ⟨t, h1, h2 F H F H (start N vs) (startV N ds) { nx := fun _ => Pr (.fz .non), rt := Pr } _ ⟨_, startV_er hs hr'⟩ ⟨fun F' H' σ δ e p => ?_, fun _ _ _ _ _ z => z.elim, fun _ _ _ _ _ z => z.elim, fun F' H' r v x n p => hq r v F' H' p x n⟩ (h3 ds Pr hsp)⟩
  exact hq _ _ F' H' p e.ext (.fz rfl)
end
end L2

namespace PySem
open Sem (wp)
section
variable {prog : Program} {w : World} {A : Around} {E : Value → Shared → Prop} {s : Shared}
theorem lri_no_len : typeLookup (.type "list_reverseiterator") "__len__" = pure none := by rw [typeLookup_type, builtinLookup_eq_fast]; kernel_rfl
theorem lri_hint : typeLookup (.type "list_reverseiterator") "__length_hint__" = pure (some (.builtin "list_reverseiterator.__length_hint__")) := by rw [typeLookup_type, builtinLookup_eq_fast]; kernel_rfl
theorem wpAny_hint_lri {I l : Addr} {i : Int} {Q : Bool → Shared → Prop} (hr : s.heap.IsRevIter I l i) (h : Q false s) : wpAny (model prog w) A (Builtin.List.listLengthHint (.ref I)) Q E s := by
  unfold Builtin.List.listLengthHint
  refine wpAny_bind (wpAny_specialOf hr.typeIs lri_no_len ?_)
  show wpAny _ A (specialOf (Value.ref I) (Str.ofString "__length_hint__") >>= _) _ _ _
  refine wpAny_bind (wpAny_specialOf hr.typeIs lri_hint ?_)
  generalize hid : ("list_reverseiterator.__length_hint__" : String) = id0
  wp_delta
  rw [show splitId id0 = some ("list_reverseiterator", "__length_hint__") from by subst hid; decide +kernel]
  subst hid
  refine wpAny_bind (wpAny_isInstance (T := "list_reverseiterator") (b := true) hr.typeIs (by rw [isSubtype_type]; kernel_rfl) ?_)
  refine wpAny_ite_split (fun hab => absurd hab (by decide)) (fun _ => ?_)
  refine wpAny_ite_split (fun _ => ?_) (fun hab => absurd (by decide +kernel) hab)
  refine wpAny_ite_split (fun hab => absurd hab (by decide +kernel)) (fun _ => ?_)
  exact wpAny_pure h
theorem wpAny_extend_lri {R : Result → Shared → Prop} {I l : Addr} {items : Array Value} (hh : A.handled = none) (hr : s.heap.IsRevIter I l ((items.size : Int) - 1)) (hl : s.heap.IsList l items) (hlen : items.size ≤ 2 ^ 24)
    (S : Addr) (res : Value) (c₀ : Nat) (hS : s.heap.get? S = some { cls := .type "list", data := .seq #[] c₀ }) (hSI : S ≠ I) (hSl : S ≠ l) (hlI : l ≠ I)
    (hR : ∀ h' tk acc' c', (∀ b o, b ≠ S → b ≠ I → s.heap.get? b = some o → h'.get? b = some o) → h'.get? S = some { cls := .type "list", dict := none, data := .seq acc' c', slots := #[] } →
      ItemsOf (fun i v => items[items.size - 1 - i]? = some v) acc' items.size → R (.ok (.ret res)) { s with heap := h', toks := tk }) :
    wpAny (model prog w) A.in1 (Builtin.List.listExtendWith (.ref S) (.ref I) res)
      (fun fin s' => match fin with | .done f => R (.ok f) s' | .again c' => c'.quiet = true ∧ codeAny (model prog w) A c' R s') (fun e s' => R (.error e) s') s := by
  have hSf : S ∉ [I, l] := fun hm => by
    rcases List.mem_cons.mp hm with e | e
    · exact hSI e
    · exact hSl (List.mem_singleton.mp e)
  have W := (Walks.listRev (prog := prog) (w := w) (A := A.in1) hh I l hlI items).toS
  unfold Builtin.List.listExtendWith
  refine wpAny_bind (wpAny_typeOf hr.typeIs ?_)
  have h1 : Builtin.List.listSameRef (.ref S) (.ref I) = false := by simp [Builtin.List.listSameRef, hSI]
  have h2 : (Value.type "list_reverseiterator" == Value.type "list") = false := by decide
  have h3 : (Value.type "list_reverseiterator" == Value.type "tuple") = false := by decide
  simp only [h1, h2, h3, Bool.or_false, Bool.false_eq_true, if_false]
  refine wpAny_bind (wpAny_pyIter_revIter hr ?_)
  refine wpAny_bind (wpAny_holding (wpAny_hint_lri hr ?_))
  refine wpAny_ite_split (fun hab => absurd hab (by decide)) (fun _ => wpAny_pure ⟨plainId_quiet F.plain_extend_loop _, ?_⟩)
  refine codeAny_extend_loopS W (by rw [sizeLine_eq]; omega) S hSf res items.size 0 _ #[] c₀ rfl (Nat.zero_le _) ⟨Nat.zero_le _, by simpa using hr, hl⟩ hS (ItemsOf.nil _) fun s' acc' c' hm hS' hacc => ?_
  rw [Moved.eq_with hm]
  refine hR s'.heap s'.toks acc' c' (fun b o hb hb2 e => hm.heap b o (fun hmem => ?_) e) hS' hacc
  rcases List.mem_cons.mp hmem with e' | hmem
  · exact hb e'
  · exact hb2 (List.mem_singleton.mp hmem)
theorem wpAny_list_init_lri {R : Result → Shared → Prop} {I l : Addr} {items : Array Value} (hh : A.handled = none) (hr : s.heap.IsRevIter I l ((items.size : Int) - 1)) (hl : s.heap.IsList l items) (hlen : items.size ≤ 2 ^ 24)
    (S : Addr) (hS : s.heap.get? S = some { cls := .type "list", data := .seq #[] }) (hSI : S ≠ I) (hSl : S ≠ l) (hlI : l ≠ I)
    (hR : ∀ h' tk acc' c', (∀ b o, b ≠ S → b ≠ I → s.heap.get? b = some o → h'.get? b = some o) → h'.get? S = some { cls := .type "list", dict := none, data := .seq acc' c', slots := #[] } →
      ItemsOf (fun i v => items[items.size - 1 - i]? = some v) acc' items.size → R (.ok (.ret .none)) { s with heap := h', toks := tk }) :
    wpAny (model prog w) A.in1 (Builtin.«list.__init__» ⟨[.ref S, .ref I], []⟩)
      (fun fin s' => match fin with | .done f => R (.ok f) s' | .again c' => c'.quiet = true ∧ codeAny (model prog w) A c' R s') (fun e s' => R (.error e) s') s := by
  show wpAny _ _ (do let old ← Builtin.List.listItems (.ref S); Builtin.List.listUpdate (.ref S) (fun _ => #[]); letGo old.toList.reverse; Builtin.List.listExtendWith (.ref S) (.ref I) .none) _ _ s
  refine wpAny_bind ?_
  unfold Builtin.List.listItems
  refine wpAny_bind (wpAny_seqItems hS rfl (wpAny_pure ?_))
  show wpAny _ _ (updateSeq S (fun _ => #[]) >>= fun _ => letGo (#[] : Array Value).toList.reverse >>= fun _ => Builtin.List.listExtendWith (.ref S) (.ref I) .none) _ _ s
  refine wpAny_bind (wpAny_updateSeq hS rfl ?_)
  have hS₂ := Heap.get?_update_self (Obj.mapSeq (fun _ => (#[] : Array Value))) hS rfl
  have oth : ∀ b o, b ≠ S → s.heap.get? b = some o → (s.heap.update S (Obj.mapSeq (fun _ => (#[] : Array Value)))).get? b = some o :=
    fun b o hb e => (Heap.get?_update_other _ _ (Ne.symm hb)).trans e
  refine wpAny_bind (wpAny_letGo ?_)
  refine wpAny_extend_lri hh (hr.at fun o e => oth I o (Ne.symm hSI) e) (hl.at fun o e => oth l o (Ne.symm hSl) e) hlen S .none _ hS₂ hSI hSl hlI fun h' tk acc' c' hk hS' hacc => ?_
  exact hR h' tk acc' c' (fun b o hb hb2 e => hk b o hb hb2 (oth b o hb e)) hS' hacc
theorem call_list_lri {Q : Value → Shared → Prop} {I l : Addr} {items : Array Value} (hh : A.handled = none) (hr : s.heap.IsRevIter I l ((items.size : Int) - 1)) (hl : s.heap.IsList l items) (hlen : items.size ≤ 2 ^ 24) (hlI : l ≠ I)
    (hQ : ∀ h' tk acc' c', (∀ b o, b ≠ I → s.heap.get? b = some o → h'.get? b = some o) →
      h'.get? s.heap.objs.size = some { cls := .type "list", dict := none, data := .seq acc' c', slots := #[] } → ItemsOf (fun i v => items[items.size - 1 - i]? = some v) acc' items.size → Q (.ref s.heap.objs.size) { s with heap := h', toks := tk }) :
    wpAny (model prog w) A (call (.type "list") [.ref I]) Q E s := by
  refine callType_codes (Q₁ := fun obj s₁ => obj = .ref s.heap.objs.size ∧ s₁ = { s with heap := s.heap.push { cls := .type "list", data := .seq #[] } }) F.called_list (F.typeCall_list_1 _) F.entry_list_init
    (code_list_new _ ⟨rfl, rfl⟩) fun obj s₁ h₁ => ?_
  obtain ⟨rfl, rfl⟩ := h₁
  have hS : (s.heap.push { cls := .type "list", data := .seq #[] }).get? s.heap.objs.size = some { cls := .type "list", data := .seq #[] } := Heap.get?_push_size _ rfl
  obtain ⟨oI, hoI, _⟩ := id hr
  obtain ⟨ol, hol, _⟩ := id hl
  refine ⟨⟨_, hS, rfl⟩, F.args_list_init_2 _ _, wpAny_list_init_lri (A := A.in1) hh (hr.at fun o e => Heap.get?_push_of_some _ e) (hl.at fun o e => Heap.get?_push_of_some _ e) hlen _ hS (Ne.symm (Nat.ne_of_lt (Heap.lt_size hoI))) (Ne.symm (Nat.ne_of_lt (Heap.lt_size hol))) hlI fun h' tk acc' c' hk hS' hacc => ?_⟩
  exact ⟨rfl, hQ h' tk acc' c' (fun b o hb e => hk b o (Nat.ne_of_lt (Heap.lt_size e)) hb (Heap.get?_push_of_some _ e)) hS' hacc⟩
end
end PySem

namespace L2
open PySem PySem.Spec PyProof.Rows
def dListRev (As : DA) : DO := fun δ P => As δ fun ds => match ds with
  | [.lst xs] => D.lfs xs = true ∧ xs.length ≤ 1000000 ∧ P (.nl (xs.reverse.map .fz))
  | _ => False
section
variable {X : Cx} {K : PySem.W.Frag}
def tListRev (K : PySem.W.Frag) (ta : TA) : TE := fun σ H Q => ta σ H fun vs H1 => ∃ a xs, vs = [.ref a] ∧ SqL K H1 a xs ∧ xs.length ≤ 1000000 ∧ ∀ p H', H1 p = none → Same H1 H' → H' p = some (.lst xs.reverse) → Q (.ref p) H'
theorem vals_rev {xs : List V} {its : List Value} {acc : Array Value} (r : Vals xs its) (h : ItemsOf (fun i v => its.toArray[its.toArray.size - 1 - i]? = some v) acc its.toArray.size) : Vals xs.reverse acc.toList := by
  have hr : Vals xs.reverse its.reverse := by
    clear h
    induction r with
    | nil => exact .nil
    | cons a r ih =>
      rw [List.reverse_cons, List.reverse_cons]
      exact ih.append (.cons a .nil)
  have e : acc.toList = its.reverse := by
    obtain ⟨h1, h2⟩ := h
    have h1' : acc.size = its.length := by simpa using h1
    rw [List.size_toArray] at h2
    refine List.ext_getElem? fun i => ?_
    by_cases hi : i < its.length
    · rw [List.getElem?_reverse hi]
      have hia : i < acc.size := by omega
      have q := h2 i acc[i] (by simp [hia])
      rw [Array.getElem?_toList, Array.getElem?_eq_getElem hia, ← q]
      simp
    · rw [List.getElem?_eq_none (by simp; omega), List.getElem?_eq_none (by simp; omega)]
  rw [e]; exact hr
theorem pe_listRev {a : Expr} {ta : TA} {p p' pos pos' : Pos} (hg : Gl X "list") (hm : X.mg "list" = none) (hc : X.calm = true) (hm' : X.mg "reversed" = none) (ha : PA X [a] ta) (hg' : Gl X "reversed" := by rfl)
    (hs : starEach [a] X.env = [(false, eval a X.env)] := by rfl)
    (hs2 : starEach [Expr.Call (.Name "reversed" p') [a] [] pos'] X.env = [(false, eval (Expr.Call (.Name "reversed" p') [a] [] pos') X.env)] := by rfl) :
    PE X (.Call (.Name "list" p) [.Call (.Name "reversed" p') [a] [] pos'] [] pos) (tListRev X.K ta) := by
  intro pins s σ H Q I h
  refine Call_ (ld_blt I hg hm PyProof.Rows.boot_list (PyProof.Rows.callWith_type1 ?_ hs2 rfl))
  rw [hs2]
  show wpAny _ _ (spliced [(false, eval (Expr.Call (.Name "reversed" p') [a] [] pos') X.env)]) _ _ s
  refine Calls.spliced_cons ?_
  refine Call_ (ld_blt I hg' hm' PyProof.Rows.boot_reversed (PyProof.Rows.callWith_type1 (thn (ha pos' pins s σ H _ I h) fun us s1 ⟨vs, H1, I1, r1, q1⟩ => ?_) hs rfl))
  obtain ⟨l, xs, e, hq, hsz, q⟩ := q1
  subst e
  obtain ⟨u, rfl, ru⟩ := vals1 r1
  cases ru
  obtain ⟨its, rv, pt, hz⟩ := I1.list hq
  have hl := rv.length
  refine PySem.call_reversed_list (items := its.toArray) pt.isList ?_
  refine Calls.spliced_nil ?_
  have I2 : Inv X pins σ H1 { s1 with heap := s1.heap.push (revObj l ((its.toArray.size : Int) - 1)), toks := s1.toks } := I1.kept fun b o e => Heap.get?_push_of_some _ e
  obtain ⟨ol, hol, _⟩ := id pt.isList
  have hlt := Heap.lt_size hol
  refine PySem.call_list_lri (items := its.toArray) (I.ok.hd hc) ⟨_, Heap.get?_push_size _ rfl, rfl, rfl⟩ (pt.isList.at fun o e => Heap.get?_push_of_some _ e) (by rw [List.size_toArray]; omega) (Nat.ne_of_lt hlt) fun h' tk acc c' hk ho hit => ?_
  have hf := I2.hok.fresh (Nat.le_refl _)
  have hsz2 : (s1.heap.push (revObj l ((its.toArray.size : Int) - 1))).objs.size = s1.heap.objs.size + 1 := by simp [Heap.push]
  refine ⟨.ref _, _, I1.laid (t' := tk) (o := .lst xs.reverse) (fun b o e => hk b o (Nat.ne_of_lt (Heap.lt_size e)) (Heap.get?_push_of_some _ e)) (by rw [hsz2]; exact Nat.le_succ _) ⟨?_, acc.toList, c', vals_rev rv hit, ?_⟩, rfl, q _ _ hf (Same.new hf) upd_same⟩
  · rw [List.length_reverse]; exact sz_le hsz
  · simpa using ho
theorem sO_listRev {a : TA} {As : DA} (h : SimAB K a As) : SimO K (tListRev K a) (dListRev As) := fun F0 H0 F H σ δ P Q e w q => h F0 H0 F H σ δ _ _ e w fun ds vs F1 H1 w1 x1 r1 => by
  try dsimp only at w1
  split at w1
  · rename_i xs
    obtain ⟨v, rfl, ⟨a, us, rfl, h1, h2⟩⟩ := reps1 r1
    refine ⟨a, us, rfl, h1, by rw [← h2.length]; exact w1.2.1, fun p H' p0 sm p1 => ?_⟩
    have hr := (Reps.lf x1.fh h2 w1.1).reverse
    refine q _ _ (frzT F1 H1) H' w1.2.2 (x1.trans ((frzT_ext x1.fh).trans (Ext.grow (frzT_ext x1.fh).fh sm))) ?_
    exact RepN.list (x1.hh.free p0) ((frzT_ext x1.fh).fh.free p0) p1 hr
  · exact w1.elim
end
end L2

namespace L2
open PySem PySem.Spec PyProof.Rows
def repS (x : Str) (n : Int) : Str := if n < 1 then Str.empty else if (n == 1 || x.length == 0) = true then x else ⟨(List.replicate n.toNat x.cps).foldl (· ++ ·) #[]⟩
def dJoin (E El : DE) : DE := fun δ P => E δ fun d => match d with
  | .str x => El δ fun l => match l with
    | .lst ds => ∃ ys : List Str, ds = ys.map D.str ∧ (ys.map (·.length)).sum + ys.length * x.length ≤ 16777216 ∧ P (.str (Txt.join x ys))
    | _ => False
  | _ => False
def mulSD : DR2 := fun x y P => match x, y with
  | .str x, .int n => -(2 ^ 62) < n ∧ n < 2 ^ 62 ∧ x.length * n.toNat ≤ 1000000 ∧ P (.str (repS x n))
  | _, _ => False
def addSD : DR2 := fun x y P => match x, y with
  | .str x, .str y => x.length + y.length ≤ 1000000 ∧ P (.str (x ++ y))
  | _, _ => False
def strD : List D → (D → Prop) → Prop := fun ds P => match ds with
  | [.int i] => i.natAbs.log2 < 1920 ∧ P (.str (toString i))
  | _ => False
section
variable {X : Cx} {K : PySem.W.Frag}
theorem oS_addS : OpS K (fun x y H Q => ∃ i j, x = .str i ∧ y = .str j ∧ i.length + j.length ≤ sizeLine ∧ Q (.str (i ++ j)) H) addSD := fun F H x y v u P Q s rx ry w q => by
  unfold addSD at w
  split at w
  · cases rx; cases ry
    exact ⟨_, _, rfl, rfl, sz_le w.1, q _ _ F H w.2 (Ext.refl s) rfl⟩
  · exact w.elim
def rSlStr : V → Option Int → Option Int → Hp → VK → Prop := fun x lo hi H Q => ∃ z, x = .str z ∧ z.length ≤ sizeLine ∧ Q (.str (Txt.slice z lo hi)) H
theorem sl_str : SlR X rSlStr := by
  intro pins s σ H x v vl vu lo hi sl Q I rx hs pl pu h
  obtain ⟨z, rfl, hz, q⟩ := h
  obtain ⟨t, rfl⟩ := rx
  refine ⟨"str", _, F.slot_str_getitem.lookup, typeIs_str _ _ _, ?_⟩
  have fin : ∀ t' k, EP X pins σ Q (.str (Txt.slice z lo hi) t') { s with toks := k } := fun t' k => ⟨.str _, H, I.tok k, ⟨_, rfl⟩, q⟩
  have lp : ∀ {v : Value} {o : Option Int}, IsPart v o → ∃ l : Option (Int × Tok), v = partValue l ∧ l.map (·.1) = o := fun h => by
    cases h with
    | none => exact ⟨none, rfl, rfl⟩
    | int i t => exact ⟨some (i, t), rfl, rfl⟩
  obtain ⟨l, rfl, e1⟩ := lp pl
  obtain ⟨u, rfl, e2⟩ := lp pu
  subst e1 e2
  exact wpAny_getItem_str_slice (l := l) (u := u) (st := none) hs rfl (post_val_or_str ⟨Nat.le_trans (Txt.slice_le z _ _) hz, fun t' k => fin t' k⟩)
theorem cS_str : CbS K (fun xs H Q => ∃ i, xs = [.int i] ∧ i.natAbs.log2 < 1920 ∧ Q (.str (toString i)) H) strD := fun F H ds vs P Q s rs w q => by
  unfold strD at w
  split at w
  · obtain ⟨v, rfl, r1⟩ := reps1 rs
    cases r1
    exact ⟨_, rfl, w.1, q _ _ F H w.2 (Ext.refl s) rfl⟩
  · exact w.elim
def dSlS (E : DE) (L U : DPt) : DE := fun δ P => E δ fun d => L δ fun lo => U δ fun hi => match d with
  | .str z => z.length ≤ 1000000 ∧ P (.str (Txt.slice z lo hi))
  | _ => False
theorem sF_slS {ta : TE} {Ea : DE} {tl tu : TO} {L U : DPt} (ha : SimF K ta Ea) (hl : SimP K tl L) (hu : SimP K tu U) : SimF K (tSl rSlStr ta tl tu) (dSlS Ea L U) := fun F0 H0 F H σ δ P Q e w q =>
  ha F0 H0 F H σ δ _ _ e w fun d v F1 H1 w1 x1 r1 => hl F0 H0 F1 H1 σ δ _ _ (e.on x1) w1 fun lo F2 H2 w2 x2 => hu F0 H0 F2 H2 σ δ _ _ (e.on (x1.trans x2)) w2 fun hi F3 H3 w3 x3 => by
    try dsimp only at w3
    split at w3
    · rename_i z
      cases (show v = V.str z from r1)
      exact ⟨z, rfl, sz_le w3.1, q _ _ F3 H3 w3.2 (x1.trans (x2.trans x3)) rfl⟩
    · exact w3.elim
theorem isEmpty_reps {F : Hp} : ∀ {ds : List D} {vs : List V}, Reps K F ds vs → vs.isEmpty = ds.isEmpty
  | [], vs, h => by cases (show vs = [] from h); rfl
  | d :: ds, vs, h => by obtain ⟨v, r, rfl, _⟩ := h; rfl
theorem sT_truth {t : TE} {E : DE} (h : SimB K t E) : SimT K (fun σ H Q => t σ H fun x H1 => ∃ k, TruV K x H1 k ∧ Q k H1) (dTruth E) := fun F0 H0 F H σ δ P Q e w q => h F0 H0 F H σ δ _ _ e w fun d v F1 H1 w1 x1 r1 => by
  try dsimp only at w1
  split at w1
  · cases r1; exact ⟨_, rfl, q _ F1 H1 w1 x1⟩
  · rename_i i
    cases r1
    refine ⟨_, rfl, q _ F1 H1 ?_ x1⟩
    rw [show (i != 0) = decide (i ≠ 0) by rw [Bool.eq_iff_iff]; simp]
    exact w1
  · obtain ⟨a, vs, rfl, h1, h2⟩ := r1
    exact ⟨_, .inl ⟨vs, h1, by rw [isEmpty_reps h2]⟩, q _ F1 H1 w1 x1⟩
  · obtain ⟨a, vs, rfl, h1, h2⟩ := r1
    exact ⟨_, .inr (.inl ⟨vs, h1, by rw [isEmpty_reps h2]⟩), q _ F1 H1 w1 x1⟩
  · cases r1; exact ⟨_, rfl, q _ F1 H1 w1 x1⟩
  · exact w1.elim
end
end L2

namespace L2
open PySem PySem.Spec PyProof.Rows
def sgns (x : Str) : List Str := x.cps.toList.map fun c => ⟨#[c]⟩
def dItS (E : DE) : DA := fun δ P => E δ fun d => match d with
  | .str x => P ((sgns x).map D.str)
  | _ => False
section
variable {X : Cx} {K : PySem.W.Frag}
def Itx (x : Str) : It := ⟨fun i _ => i < x.cps.size, fun i H v H' => H' = H ∧ ∃ c, x.cps[i]? = some c ∧ v = .str ⟨#[c]⟩, fun i _ => x.cps.size ≤ i⟩
theorem turn_str {P : Program} {w : World} {K : PySem.W.Frag} {tg : Expr} (it : Addr) (x : Str) (t : Tok) : Turn P w K tg (Itx x) [it] it (fun i h => i ≤ x.cps.size ∧ (h.IsStrIter it "str_ascii_iterator" x t i ∨ h.IsStrIter it "str_iterator" x t i)) where
  mem := by simp
  obj := fun i h st b hb => by
    have e : b = it := by simpa using hb
    subst e
    rcases st.2 with ⟨o, ho, _, hd⟩ | ⟨o, ho, _, hd⟩
    · exact ⟨o, ho, fun v z => by rw [hd] at z; cases z⟩
    · exact ⟨o, ho, fun v z => by rw [hd] at z; cases z⟩
  keep := fun i h h' st k => ⟨st.1, st.2.imp (fun ⟨o, e, r⟩ => ⟨o, k it (by simp) o e, r⟩) (fun ⟨o, e, r⟩ => ⟨o, k it (by simp) o e, r⟩)⟩
  item := by
    intro X hP hw hK hc i pins s σ H E I hf st hg
    subst hP hw hK
    have hi : i < x.cps.size := hg
    obtain ⟨f0, f1, f2, f3, f4, f5⟩ := hf it (by simp)
    have hx : x.cps[i]? = some x.cps[i] := Array.getElem?_eq_getElem hi
    rcases st.2 with st0 | st0
    · refine PySem.wpAny_pyNext_ascii_item st0 hx fun h' st1 sb => ?_
      have I1 : Inv X pins σ H { s with heap := h', toks := s.toks + 1 } := I.turned (t' := s.toks + 1) (fun b o hb e => (sb.2 b hb).trans e) f0 f1 f3 f4 f5
      obtain ⟨o, ho, hc', hd'⟩ := id st1
      exact ⟨_, rfl, go_of (s := { s with heap := h', toks := s.toks + 1 }) (n := "str_ascii_iterator") ho hc' hd' (by decide) ⟨.str ⟨#[x.cps[i]]⟩, H, I1, ⟨_, rfl⟩, ⟨rfl, _, hx, rfl⟩, ⟨by omega, .inl st1⟩, fun b hb => (hf b hb).1⟩⟩
    · refine PySem.wpAny_pyNext_wide_item st0 hx fun h' st1 sb => ?_
      have I1 : Inv X pins σ H { s with heap := h', toks := s.toks + 1 } := I.turned (t' := s.toks + 1) (fun b o hb e => (sb.2 b hb).trans e) f0 f1 f3 f4 f5
      obtain ⟨o, ho, hc', hd'⟩ := id st1
      exact ⟨_, rfl, go_of (s := { s with heap := h', toks := s.toks + 1 }) (n := "str_iterator") ho hc' hd' (by decide) ⟨.str ⟨#[x.cps[i]]⟩, H, I1, ⟨_, rfl⟩, ⟨rfl, _, hx, rfl⟩, ⟨by omega, .inr st1⟩, fun b hb => (hf b hb).1⟩⟩
  done := by
    intro X hP hw hK hc i pins s σ H E I hf st hg
    subst hP hw hK
    obtain ⟨f0, f1, f2, f3, f4, f5⟩ := hf it (by simp)
    have hx : x.cps[i]? = none := Array.getElem?_eq_none hg
    rcases st.2 with st0 | st0
    · exact PySem.wpAny_pyNext_ascii_end (I.ok.hd hc) st0 hx fun h' eb => ⟨rfl, I.turned (t' := s.toks) (fun b o hb e => eb b o hb e) f0 f1 f3 f4 f5⟩
    · exact PySem.wpAny_pyNext_wide_end (I.ok.hd hc) st0 hx fun h' eb => ⟨rfl, I.turned (t' := s.toks) (fun b o hb e => eb b o hb e) f0 f1 f3 f4 f5⟩
  self := fun _ _ _ _ _ st h => by
    rcases st.2 with st0 | st0
    · exact PySem.wpAny_pyIter_striter_ascii st0 h
    · exact PySem.wpAny_pyIter_striter_wide st0 h
def iStr (te : TE) : TI := fun σ H R => te σ H fun v H1 => ∃ x, v = .str x ∧ R (Itx x) H1
theorem pi_str {tg l : Expr} {te : TE} (he : PE X l te) : PI X tg l (iStr te) := by
  intro pins s σ H R I h
  refine thn (he pins s σ H _ I h) fun u s1 ⟨v, H1, I1, r1, q1⟩ => ?_
  obtain ⟨x, e, q⟩ := q1
  subst e
  obtain ⟨t, rfl⟩ := r1
  cases ha : x.cps.all (· < 128)
  · refine PySem.wpAny_pyIter_wide ha ?_
    refine ⟨s1.heap.objs.size, [s1.heap.objs.size], _, _, H1, rfl, I1.kept (t' := s1.toks) fun b o e => Heap.get?_push_of_some _ e, turn_str s1.heap.objs.size x t, ⟨Nat.zero_le _, .inr ⟨_, Heap.get?_push_size _ rfl, rfl, rfl⟩⟩, fun b hb => ?_, q⟩
    have e : b = s1.heap.objs.size := by simpa using hb
    subst e
    exact I1.fpOk (Nat.le_refl _) (I1.hok.fresh (Nat.le_refl _))
  · refine PySem.wpAny_pyIter_ascii ha ?_
    refine ⟨s1.heap.objs.size, [s1.heap.objs.size], _, _, H1, rfl, I1.kept (t' := s1.toks) fun b o e => Heap.get?_push_of_some _ e, turn_str s1.heap.objs.size x t, ⟨Nat.zero_le _, .inl ⟨_, Heap.get?_push_size _ rfl, rfl, rfl⟩⟩, fun b hb => ?_, q⟩
    have e : b = s1.heap.objs.size := by simpa using hb
    subst e
    exact I1.fpOk (Nat.le_refl _) (I1.hok.fresh (Nat.le_refl _))
theorem sI_str {t : TE} {E : DE} (h : SimB K t E) : SimI K (iStr t) (dItS E) := fun F0 H0 F H σ δ P R e w q => h F0 H0 F H σ δ _ _ e w fun d v F' H' p x r => by
  try dsimp only at p
  split at p
  · rename_i z
    cases (show v = V.str z from r)
    refine ⟨z, rfl, q _ _ F' H' p x fun F1 H1 s1 s2 => ?_⟩
    have hl : ((sgns z).map D.str).length = z.cps.size := by simp [sgns]
    rw [hl]
    refine ⟨fun i hi => hi, Nat.le_refl _, fun i v H2 hi y => ?_⟩
    obtain ⟨rfl, c, hc, rfl⟩ := y
    refine ⟨.str ⟨#[c]⟩, F1, ?_, Ext.refl s2, rfl⟩
    simp [sgns, hc]
  · exact p.elim
end
end L2

namespace L2
open PySem PySem.Spec PyProof.Rows
def sPopG (i : Nat) (G : D → Dst → (Dst → Prop) → Prop) : DS := fun De δ => match δ[i]? with
  | some (some (.own (.nl ts))) => ∃ us d, ts = us ++ [.fz d] ∧ G d (δ.set i (some (.own (.nl us)))) De.nx
  | _ => False
section
variable {X : Cx} {K : PySem.W.Frag}
end
section
variable {K : PySem.W.Frag} {c f : Str} {ns : List Str} {j : Nat} {ta : TE} {E : DE}
end
end L2

namespace L2
open PySem PySem.Spec PyProof.Rows
section
variable {X : Cx} {tg elt iter cd : Expr} {scope : Scope} {N : List Str} {ix : List (Option Nat)} {wi : TI} {g : TG} {tc : TT} {te : TE} {pos : Pos}
end
section
variable {K : PySem.W.Frag} {te : TE} {Eo : DO}
end
end L2

namespace L2
open PySem PySem.Spec PyProof.Rows
abbrev T3 (h : Heap) (t : Addr) (a b c : Value) : Prop := h.get? t = some { cls := .type "tuple", data := .seq #[a, b, c] }
abbrev Zp (h : Heap) (b : Nat) (v : Value) : Prop := IsZip h (b + 5) (b + 3) (b + 4) v
theorem adr {x y : Nat} (h : x ≠ y) : (show Addr from x) ≠ (show Addr from y) := h
section
variable {prog : Program} {w : World} {A : Around} {E : Value → Shared → Prop} {s : Shared}
theorem t3_put {t : Addr} {a b c x : Value} {k : Nat} {Q : Unit → Shared → Prop} (ht : T3 s.heap t a b c)
    (q : ∀ g, g.get? t = some { cls := .type "tuple", data := .seq ((#[a, b, c] : Array Value).setIfInBounds k x) } → Heap.SameBut t s.heap g → Q () { s with heap := g }) : wpAny (model prog w) A (updateSeq t (·.setIfInBounds k x)) Q E s := by
  refine wpAny_updateSeq ht rfl (q _ ?_ (Heap.SameBut.update ..))
  rw [Heap.get?_update_self _ ht rfl]; simp [Obj.mapSeq]
theorem zip3_step {b k : Nat} {l1 l2 l3 : Addr} {xs ys us : Array Value} {x y u a1 a2 a3 : Value} {Q : Value → Shared → Prop} (hb : l1 < b ∧ l2 < b ∧ l3 < b)
    (Z : Zp s.heap b .none) (I0 : T3 s.heap (b + 3) (.ref b) (.ref (b + 1)) (.ref (b + 2))) (O0 : T3 s.heap (b + 4) a1 a2 a3) (w1 : s.heap.IsListIter b l1 k) (w2 : s.heap.IsListIter (b + 1) l2 k) (w3 : s.heap.IsListIter (b + 2) l3 k)
    (p1 : s.heap.IsList l1 xs) (p2 : s.heap.IsList l2 ys) (p3 : s.heap.IsList l3 us) (e1 : xs[k]? = some x) (e2 : ys[k]? = some y) (e3 : us[k]? = some u)
    (q : ∀ g, Zp g b (rawInt s.heap.objs.size) → T3 g (b + 4) x y u → g.IsListIter b l1 (k + 1) → g.IsListIter (b + 1) l2 (k + 1) → g.IsListIter (b + 2) l3 (k + 1) → T3 g s.heap.objs.size x y u → g.objs.size = s.heap.objs.size + 1 →
      (∀ c o, c ≠ b + 5 → c ≠ b + 4 → c ≠ b → c ≠ b + 1 → c ≠ b + 2 → s.heap.get? c = some o → g.get? c = some o) → Q (.ref s.heap.objs.size) { s with heap := g }) :
    wpAny (model prog w) A (Builtin.«zip.__next__» ⟨[.ref (b + 5)], []⟩) (fun r s' => ∃ v, r = .done (.ret v) ∧ Q v s') E s := by
  obtain ⟨b1, b2, b3⟩ := hb
  have b1 : (l1 : Nat) < b := b1
  have b2 : (l2 : Nat) < b := b2
  have b3 : (l3 : Nat) < b := b3
  have off : ∀ l : Nat, l < b → l ≠ b + 5 ∧ l ≠ b + 4 ∧ l ≠ b ∧ l ≠ b + 1 := fun l h => ⟨by omega, by omega, by omega, by omega⟩
  obtain ⟨a15, _, _, _⟩ := off l1 b1
  obtain ⟨a25, a24, a20, _⟩ := off l2 b2
  obtain ⟨a35, a34, a30, a31⟩ := off l3 b3
  show wpAny _ _ (field (.ref (b + 5)) 2 >>= _) _ _ _
  refine wpAny_bind (wpAny_field Z rfl (x := .bool false) rfl ?_)
  show wpAny _ _ (field (.ref (b + 5)) 3 >>= _) _ _ _
  refine wpAny_bind (wpAny_field Z rfl (x := .ref (b + 3)) rfl (wpAny_bind (wpAny_seqItems I0 rfl ?_)))
  show wpAny _ _ (Builtin.SmallTypes.ownedTupleIsFree (.ref (b + 5)) >>= _) _ _ _
  refine wpAny_bind ?_
  unfold Builtin.SmallTypes.ownedTupleIsFree
  refine wpAny_bind (wpAny_field Z rfl (x := .none) rfl (wpAny_pure ?_)); simp only [if_true]
  refine wpAny_bind (wpAny_rule (wpAny_bind (wpAny_field Z rfl (x := .ref (b + 4)) rfl (wpAny_bind (wpAny_setField_rec Z (by simp) fun g1 Z1 f1 => ?_)))))
  replace Z1 : Zp g1 b .ellipsis := Z1
  refine wpAny_bind ?_
  simp only [List.forIn_cons, List.forIn_nil, List.zipIdx_cons, List.zipIdx_nil]
  refine wpAny_bind (wpAny_bind (wpAny_onRaise ?_))
  show wpAny _ _ (Builtin.SmallTypes.nextOf (.ref b) >>= _) _ _ _
  refine wpAny_bind (wpAny_nextOf_list_item (w1.extBut f1.extBut (adr (by omega))) (p1.extBut f1.extBut a15) e1 fun g2 v1 f2 => wpAny_pure ?_)
  have O2 : T3 g2 (b + 4) a1 a2 a3 := f2.extBut _ _ (adr (by omega)) (f1.extBut _ _ (adr (by omega)) O0)
  refine wpAny_bind (wpAny_seqItems O2 rfl (wpAny_bind (t3_put O2 fun g3 O3 f3 => wpAny_bind (wpAny_letGo (wpAny_pure ?_)))))
  replace O3 : T3 g3 (b + 4) x a2 a3 := O3
  refine wpAny_bind (wpAny_bind (wpAny_onRaise ?_))
  show wpAny _ _ (Builtin.SmallTypes.nextOf (.ref (b + 1)) >>= _) _ _ _
  refine wpAny_bind (wpAny_nextOf_list_item (((w2.extBut f1.extBut (adr (by omega))).extBut f2.extBut (adr (by omega))).extBut f3.extBut (adr (by omega))) (((p2.extBut f1.extBut a25).extBut f2.extBut a20).extBut f3.extBut a24) e2 fun g4 v2 f4 => wpAny_pure ?_)
  have O4 : T3 g4 (b + 4) x a2 a3 := f4.extBut _ _ (adr (by omega)) O3
  refine wpAny_bind (wpAny_seqItems O4 rfl (wpAny_bind (t3_put O4 fun g5 O5 f5 => wpAny_bind (wpAny_letGo (wpAny_pure ?_)))))
  replace O5 : T3 g5 (b + 4) x y a3 := O5
  refine wpAny_bind (wpAny_bind (wpAny_onRaise ?_))
  show wpAny _ _ (Builtin.SmallTypes.nextOf (.ref (b + 2)) >>= _) _ _ _
  refine wpAny_bind (wpAny_nextOf_list_item (((((w3.extBut f1.extBut (adr (by omega))).extBut f2.extBut (adr (by omega))).extBut f3.extBut (adr (by omega))).extBut f4.extBut (adr (by omega))).extBut f5.extBut (adr (by omega)))
    (((((p3.extBut f1.extBut a35).extBut f2.extBut a30).extBut f3.extBut a34).extBut f4.extBut a31).extBut f5.extBut a34) e3 fun g6 v3 f6 => wpAny_pure ?_)
  have O6 : T3 g6 (b + 4) x y a3 := f6.extBut _ _ (adr (by omega)) O5
  refine wpAny_bind (wpAny_seqItems O6 rfl (wpAny_bind (t3_put O6 fun g7 O7 f7 => wpAny_bind (wpAny_letGo (wpAny_pure (wpAny_pure ?_))))))
  replace O7 : T3 g7 (b + 4) x y u := O7
  refine wpAny_bind (wpAny_seqItems O7 rfl (wpAny_bind (wpAny_newTuple ?_)))
  have size : g7.objs.size = s.heap.objs.size := by rw [f7.1, f6.1, f5.1, f4.1, f3.1, f2.1, f1.1]
  have Z7 : Zp g7 b .ellipsis := f7.extBut _ _ (adr (by omega)) (f6.extBut _ _ (adr (by omega)) (f5.extBut _ _ (adr (by omega)) (f4.extBut _ _ (adr (by omega)) (f3.extBut _ _ (adr (by omega)) (f2.extBut _ _ (adr (by omega)) Z1)))))
  have keep : ∀ c o, c ≠ b + 5 → c ≠ b + 4 → c ≠ b → c ≠ b + 1 → c ≠ b + 2 → s.heap.get? c = some o → g7.get? c = some o := fun c o c1 c2 c3 c4 c5 e =>
    f7.extBut _ _ c2 (f6.extBut _ _ c5 (f5.extBut _ _ c2 (f4.extBut _ _ c4 (f3.extBut _ _ c2 (f2.extBut _ _ c3 (f1.extBut _ _ c1 e))))))
  have m1 : g7.IsListIter b l1 (k + 1) := ((((v1.extBut f3.extBut (adr (by omega))).extBut f4.extBut (adr (by omega))).extBut f5.extBut (adr (by omega))).extBut f6.extBut (adr (by omega))).extBut f7.extBut (adr (by omega))
  have m2 : g7.IsListIter (b + 1) l2 (k + 1) := ((v2.extBut f5.extBut (adr (by omega))).extBut f6.extBut (adr (by omega))).extBut f7.extBut (adr (by omega))
  have m3 : g7.IsListIter (b + 2) l3 (k + 1) := v3.extBut f7.extBut (adr (by omega))
  have zlt : b + 5 < g7.objs.size := Heap.lt_size Z7
  show wpAny _ _ (Builtin.SmallTypes.ownedTupleHandOut (.ref (b + 5)) (.ref g7.objs.size) >>= _) _ _ _
  refine wpAny_bind ?_
  unfold Builtin.SmallTypes.ownedTupleHandOut
  have Z8 : Zp (g7.push { cls := .type "tuple", data := .seq #[x, y, u] }) b .ellipsis := Heap.get?_push_of_some _ Z7
  refine wpAny_bind (wpAny_setField_rec Z8 (by simp) fun g9 Z9 f9 => ?_)
  replace Z9 : Zp g9 b (rawInt g7.objs.size) := Z9
  refine wpAny_setField_rec Z9 (by simp) fun g10 Z10 f10 => ?_
  replace Z10 : Zp g10 b (rawInt g7.objs.size) := Z10
  have up : ∀ c o, c ≠ b + 5 → g7.get? c = some o → g10.get? c = some o := fun c o c1 e => f10.extBut _ _ c1 (f9.extBut _ _ c1 (Heap.get?_push_of_some _ e))
  have T10 : T3 g10 g7.objs.size x y u := f10.extBut _ _ (Nat.ne_of_gt zlt) (f9.extBut _ _ (Nat.ne_of_gt zlt) (Heap.get?_push_size _ rfl))
  have sz10 : g10.objs.size = g7.objs.size + 1 := by rw [f10.1, f9.1, Heap.size_push]
  rw [size] at Z10 T10 sz10
  refine wpAny_pure ⟨_, rfl, ?_⟩
  show Q (.ref g7.objs.size) _
  rw [size]
  exact q g10 Z10 (up _ _ (adr (by omega)) O7) (m1.at fun o e => up _ o (adr (by omega)) e) (m2.at fun o e => up _ o (adr (by omega)) e) (m3.at fun o e => up _ o (adr (by omega)) e) T10 sz10 fun c o c1 c2 c3 c4 c5 e => up c o c1 (keep c o c1 c2 c3 c4 c5 e)
theorem zip3_stop {b k : Nat} {l1 : Addr} {xs : Array Value} {i2 i3 : Value} {Q : Fin → Shared → Prop} (hh : A.handled = none) (hb : l1 < b) (Z : Zp s.heap b .none) (I0 : T3 s.heap (b + 3) (.ref b) i2 i3) (w1 : s.heap.IsListIter b l1 k) (p1 : s.heap.IsList l1 xs) (e1 : xs[k]? = none)
    (q : ∀ g e, (∀ c o, c ≠ b + 5 → c ≠ b → s.heap.get? c = some o → g.get? c = some o) → (∃ o, g.get? e = some o ∧ o.cls = .type "StopIteration") → E (.ref e) { s with heap := g }) : wpAny (model prog w) A (Builtin.«zip.__next__» ⟨[.ref (b + 5)], []⟩) Q E s := by
  have a15 : l1 ≠ b + 5 := Nat.ne_of_lt (Nat.lt_of_lt_of_le hb (Nat.le_add_right b 5))
  show wpAny _ _ (field (.ref (b + 5)) 2 >>= _) _ _ _
  refine wpAny_bind (wpAny_field Z rfl (x := .bool false) rfl ?_)
  show wpAny _ _ (field (.ref (b + 5)) 3 >>= _) _ _ _
  refine wpAny_bind (wpAny_field Z rfl (x := .ref (b + 3)) rfl (wpAny_bind (wpAny_seqItems I0 rfl ?_)))
  show wpAny _ _ (Builtin.SmallTypes.ownedTupleIsFree (.ref (b + 5)) >>= _) _ _ _
  refine wpAny_bind ?_
  unfold Builtin.SmallTypes.ownedTupleIsFree
  refine wpAny_bind (wpAny_field Z rfl (x := .none) rfl (wpAny_pure ?_)); simp only [if_true]
  refine wpAny_bind (wpAny_rule (wpAny_bind (wpAny_field Z rfl (x := .ref (b + 4)) rfl (wpAny_bind (wpAny_setField_rec Z (by simp) fun g1 Z1 f1 => ?_)))))
  replace Z1 : Zp g1 b .ellipsis := Z1
  refine wpAny_bind ?_
  simp only [List.forIn_cons, List.forIn_nil, List.zipIdx_cons, List.zipIdx_nil]
  refine wpAny_bind (wpAny_bind (wpAny_onRaise ?_))
  show wpAny _ _ (Builtin.SmallTypes.nextOf (.ref b) >>= _) _ _ _
  refine wpAny_bind (wpAny_nextOf_list_end hh (w1.extBut f1.extBut (adr (by omega))) (p1.extBut f1.extBut a15) e1 fun g2 e f2 he => ?_)
  obtain ⟨oe, o1, o2⟩ := he
  have Z2 : Zp g2 b .ellipsis := f2 _ _ (adr (by omega)) Z1
  have ez : e ≠ b + 5 := fun y => by subst y; rw [Z2] at o1; cases o1; simp at o2
  exact wpAny_setField_rec Z2 (by simp) fun g3 _ f3 => q g3 e (fun c o c1 c3 y => f3.extBut _ _ c1 (f2 _ _ c3 (f1.extBut _ _ c1 y))) ⟨oe, f3.extBut _ _ ez o1, o2⟩
theorem nx_zip3 {b k : Nat} {l1 l2 l3 : Addr} {xs ys us : Array Value} {x y u a1 a2 a3 : Value} {Q : Option Value → Shared → Prop} (hb : l1 < b ∧ l2 < b ∧ l3 < b)
    (Z : Zp s.heap b .none) (I0 : T3 s.heap (b + 3) (.ref b) (.ref (b + 1)) (.ref (b + 2))) (O0 : T3 s.heap (b + 4) a1 a2 a3) (w1 : s.heap.IsListIter b l1 k) (w2 : s.heap.IsListIter (b + 1) l2 k) (w3 : s.heap.IsListIter (b + 2) l3 k)
    (p1 : s.heap.IsList l1 xs) (p2 : s.heap.IsList l2 ys) (p3 : s.heap.IsList l3 us) (e1 : xs[k]? = some x) (e2 : ys[k]? = some y) (e3 : us[k]? = some u)
    (q : ∀ g, Zp g b (rawInt s.heap.objs.size) → T3 g (b + 4) x y u → g.IsListIter b l1 (k + 1) → g.IsListIter (b + 1) l2 (k + 1) → g.IsListIter (b + 2) l3 (k + 1) → T3 g s.heap.objs.size x y u → g.objs.size = s.heap.objs.size + 1 →
      (∀ c o, c ≠ b + 5 → c ≠ b + 4 → c ≠ b → c ≠ b + 1 → c ≠ b + 2 → s.heap.get? c = some o → g.get? c = some o) → Q (some (.ref s.heap.objs.size)) { s with heap := g }) : wpAny (model prog w) A (pyNext (.ref (b + 5))) Q E s := by
  have tz : s.TypeIs (.ref (b + 5)) "zip" := ⟨_, Z, rfl⟩
  unfold pyNext
  exact wpAny_bind (wpAny_attempt (wpAny_callSpecial?_slot (name := Str.ofString "__next__") tz F.slot_zip_next (wpAny_call_entry F.slot_zip_next tz F.entry_zip_next
    (zip3_step hb Z I0 O0 w1 w2 w3 p1 p2 p3 e1 e2 e3 fun g c1 c2 c3 c4 c5 c6 c7 c8 => wpAny_pure (q g c1 c2 c3 c4 c5 c6 c7 c8)) (F.args_zip_next_1 _))))
theorem nx_zip3_end {b k : Nat} {l1 : Addr} {xs : Array Value} {i2 i3 : Value} {Q : Option Value → Shared → Prop} (hh : A.handled = none) (hb : l1 < b) (Z : Zp s.heap b .none) (I0 : T3 s.heap (b + 3) (.ref b) i2 i3) (w1 : s.heap.IsListIter b l1 k) (p1 : s.heap.IsList l1 xs) (e1 : xs[k]? = none)
    (q : ∀ g, (∀ c o, c ≠ b + 5 → c ≠ b → s.heap.get? c = some o → g.get? c = some o) → Q none { s with heap := g }) : wpAny (model prog w) A (pyNext (.ref (b + 5))) Q E s := by
  have tz : s.TypeIs (.ref (b + 5)) "zip" := ⟨_, Z, rfl⟩
  unfold pyNext
  refine wpAny_bind (wpAny_attempt (wpAny_callSpecial?_slot (name := Str.ofString "__next__") tz F.slot_zip_next (wpAny_call_entry F.slot_zip_next tz F.entry_zip_next (zip3_stop hh hb Z I0 w1 p1 e1 fun g e k1 k2 => ?_) (F.args_zip_next_1 _))))
  obtain ⟨o, o1, o2⟩ := k2
  exact wpAny_bind (wpAny_isInstance (T := "StopIteration") (b := true) ⟨o, o1, o2⟩ isSubtype_stop (wpAny_pure (q _ k1)))
end
abbrev wob (l : Addr) : Obj := { cls := .type "list_iterator", data := .fields #[.ref l, .int 0 0] }
abbrev z3p (h : Heap) (l1 : Addr) : Heap := h.push (wob l1)
abbrev z3q (h : Heap) (l1 l2 : Addr) : Heap := (z3p h l1).push (wob l2)
abbrev z3r (h : Heap) (l1 l2 l3 : Addr) : Heap := (z3q h l1 l2).push (wob l3)
abbrev z3s (h : Heap) (l1 l2 l3 : Addr) : Heap := (z3r h l1 l2 l3).push { cls := .type "tuple", data := .seq #[.ref h.objs.size, .ref (z3p h l1).objs.size, .ref (z3q h l1 l2).objs.size] }
abbrev z3t (h : Heap) (l1 l2 l3 : Addr) : Heap := (z3s h l1 l2 l3).push { cls := .type "tuple", data := .seq #[.none, .none, .none] }
abbrev z3u (h : Heap) (l1 l2 l3 : Addr) : Heap := (z3t h l1 l2 l3).push { cls := .type "zip", data := .fields #[.none, .bool false, .bool false, .ref (z3r h l1 l2 l3).objs.size, .ref (z3s h l1 l2 l3).objs.size] }
theorem zip3_new (l1 l2 l3 : Addr) (xs ys us : Array Value) : Meets (Builtin.«zip.__new__» ⟨[.type "zip", .ref l1, .ref l2, .ref l3], []⟩) (fun _ R s => s.heap.IsList l1 xs ∧ s.heap.IsList l2 ys ∧ s.heap.IsList l3 us ∧ R (.ok (.ret (.ref (z3t s.heap l1 l2 l3).objs.size))) { s with heap := z3u s.heap l1 l2 l3 }) :=
  .of_wp fun prog w A R s h => by
    obtain ⟨hp, g, d, tk, os⟩ := s; obtain ⟨p1, p2, p3, h⟩ := h
    have hsub := sub_zip
    have n1 : Heap.IsList (Shared.heap ⟨hp, g, d, tk, os⟩) l1 xs := p1
    have n2 : Heap.IsList (Shared.heap ⟨hp.push (wob l1), g, d, tk, os⟩) l2 ys := Heap.IsList.push p2 _
    have n3 : Heap.IsList (Shared.heap ⟨(hp.push (wob l1)).push (wob l2), g, d, tk, os⟩) l3 us := Heap.IsList.push (Heap.IsList.push p3 _) _
    wp_walk using wpAny_pyIter_list n1, wpAny_pyIter_list n2, wpAny_pyIter_list n3
    exact ⟨_, rfl, h⟩
theorem tc_zip3 (a b c : Value) : checkTypeCall "zip" ⟨[a, b, c], []⟩ = pure () := by kernel_rfl
theorem nc_zip3 (a b c : Value) : checkBuiltinCall "zip.__new__" ⟨[.type "zip", a, b, c], []⟩ = pure () := by kernel_rfl
theorem ai_zip3 (o a b c : Value) : argsOk "object.__init__" ⟨[o, a, b, c], []⟩ := by
  unfold argsOk; rw [signature?_of (id := "object.__init__") (o := ['t', 'c', 'e', 'j', 'b', 'o']) (n := ['_', '_', 't', 'i', 'n', 'i', '_', '_']) (by kernel_rfl) F.owner_object]; kernel_rfl
theorem call_zip3 {prog : Program} {w : World} {A : Around} {E : Value → Shared → Prop} {s : Shared} {l1 l2 l3 : Addr} {xs ys us : Array Value} {Q : Value → Shared → Prop} (p1 : s.heap.IsList l1 xs) (p2 : s.heap.IsList l2 ys) (p3 : s.heap.IsList l3 us)
    (q : ∀ g, Zp g s.heap.objs.size .none → T3 g (s.heap.objs.size + 3) (.ref s.heap.objs.size) (.ref (s.heap.objs.size + 1)) (.ref (s.heap.objs.size + 2)) → T3 g (s.heap.objs.size + 4) .none .none .none → g.IsListIter s.heap.objs.size l1 0 → g.IsListIter (s.heap.objs.size + 1) l2 0 → g.IsListIter (s.heap.objs.size + 2) l3 0 →
      (∀ c o, s.heap.get? c = some o → g.get? c = some o) → Q (.ref (s.heap.objs.size + 5)) { s with heap := g }) : wpAny (model prog w) A (call (.type "zip") [.ref l1, .ref l2, .ref l3]) Q E s := by
  refine callType_new F.called_zip (by decide) (tc_zip3 _ _ _) (nc_zip3 _ _ _) (fun o => ai_zip3 o _ _ _) F.entry_zip_new (zip3_new l1 l2 l3 xs ys us) ⟨p1, p2, p3, ?_⟩
  have y1 : (z3p s.heap l1).objs.size = s.heap.objs.size + 1 := Heap.size_push ..
  have y2 : (z3q s.heap l1 l2).objs.size = s.heap.objs.size + 2 := by rw [Heap.size_push, y1]
  have y3 : (z3r s.heap l1 l2 l3).objs.size = s.heap.objs.size + 3 := by rw [Heap.size_push, y2]
  have y4 : (z3s s.heap l1 l2 l3).objs.size = s.heap.objs.size + 4 := by rw [Heap.size_push, y3]
  have y5 : (z3t s.heap l1 l2 l3).objs.size = s.heap.objs.size + 5 := by rw [Heap.size_push, y4]
  have on : ∀ {h : Heap} {o o' : Obj} {c : Addr}, h.get? c = some o → (h.push o').get? c = some o := fun e => Heap.get?_push_of_some _ e
  have k6 : (z3u s.heap l1 l2 l3).get? (z3t s.heap l1 l2 l3).objs.size = some _ := Heap.get?_push_size _ rfl
  have k5 : (z3u s.heap l1 l2 l3).get? (z3s s.heap l1 l2 l3).objs.size = some _ := on (Heap.get?_push_size _ rfl)
  have k4 : (z3u s.heap l1 l2 l3).get? (z3r s.heap l1 l2 l3).objs.size = some _ := on (on (Heap.get?_push_size _ rfl))
  have k3 : (z3u s.heap l1 l2 l3).get? (z3q s.heap l1 l2).objs.size = some _ := on (on (on (Heap.get?_push_size _ rfl)))
  have k2 : (z3u s.heap l1 l2 l3).get? (z3p s.heap l1).objs.size = some _ := on (on (on (on (Heap.get?_push_size _ rfl))))
  have k1 : (z3u s.heap l1 l2 l3).get? s.heap.objs.size = some _ := on (on (on (on (on (Heap.get?_push_size _ rfl)))))
  show _ ∧ _
  rw [y3, y4, y5] at k6
  rw [y4] at k5
  rw [y1, y2, y3] at k4
  rw [y2] at k3
  rw [y1] at k2
  rw [y5]
  exact ⟨⟨_, k6, rfl⟩, q _ k6 k4 k5 ⟨_, k1, rfl, rfl⟩ ⟨_, k2, rfl, rfl⟩ ⟨_, k3, rfl, rfl⟩ fun c o e => on (on (on (on (on (on e)))))⟩
def dZip3 (As : DA) : DA := fun δ P => As δ fun ds => match ds with
  | [.lst xs, .lst ys, .lst us] => xs.length ≤ ys.length ∧ xs.length ≤ us.length ∧ P ((xs.zip (ys.zip us)).map fun p => D.tup [p.1, p.2.1, p.2.2])
  | _ => False
section
variable {X : Cx} {K : PySem.W.Frag} {mg : Str → Option Value}
def Itz3 (K : PySem.W.Frag) (a1 a2 a3 : Addr) (xs ys us : List V) : It :=
  ⟨fun i H => SqL K H a1 xs ∧ SqL K H a2 ys ∧ SqL K H a3 us ∧ i < xs.length ∧ i < ys.length ∧ i < us.length, fun i H x H' => ∃ p y1 y2 y3, x = .ref p ∧ H p = none ∧ Same H H' ∧ xs[i]? = some y1 ∧ ys[i]? = some y2 ∧ us[i]? = some y3 ∧ H' p = some (.tup [y1, y2, y3]), fun i H => SqL K H a1 xs ∧ xs.length ≤ i⟩
theorem six {b c : Nat} (h : c ∈ [b + 5, b + 3, b + 4, b, b + 1, b + 2]) : c = b + 5 ∨ c = b + 3 ∨ c = b + 4 ∨ c = b ∨ c = b + 1 ∨ c = b + 2 := by simpa using h
theorem turn_zip3 {P : Program} {w : World} {K : PySem.W.Frag} {elts : List Expr} {x1 : Nat} {tpos : Pos} (a1 a2 a3 : Addr) (b : Nat) (xs ys us : List V) (hb : a1 < b ∧ a2 < b ∧ a3 < b) :
    Turn P w K (.Tuple elts x1 tpos) (Itz3 K a1 a2 a3 xs ys us) [b + 5, b + 3, b + 4, b, b + 1, b + 2] (b + 5) (fun i h => Zp h b .none ∧ T3 h (b + 3) (.ref b) (.ref (b + 1)) (.ref (b + 2)) ∧ (∃ c d e, T3 h (b + 4) c d e) ∧ h.IsListIter b a1 i ∧ h.IsListIter (b + 1) a2 i ∧ h.IsListIter (b + 2) a3 i) where
  mem := by simp
  obj := fun i h st c hc => by
    obtain ⟨h1, h2, ⟨_, _, _, h3⟩, ⟨o4, q4, _, r4⟩, ⟨o5, q5, _, r5⟩, ⟨o6, q6, _, r6⟩⟩ := st
    rcases six hc with q | q | q | q | q | q
    · rw [q]; exact ⟨_, h1, fun v q => by cases q⟩
    · rw [q]; exact ⟨_, h2, fun v q => by cases q⟩
    · rw [q]; exact ⟨_, h3, fun v q => by cases q⟩
    · rw [q]; exact ⟨_, q4, fun v q => by rw [r4] at q; cases q⟩
    · rw [q]; exact ⟨_, q5, fun v q => by rw [r5] at q; cases q⟩
    · rw [q]; exact ⟨_, q6, fun v q => by rw [r6] at q; cases q⟩
  keep := fun i h h' st k => by
    obtain ⟨h1, h2, ⟨c, d, e, h3⟩, h4, h5, h6⟩ := st
    exact ⟨k _ (by simp) _ h1, k _ (by simp) _ h2, ⟨c, d, e, k _ (by simp) _ h3⟩, h4.at fun o q => k _ (by simp) o q, h5.at fun o q => k _ (by simp) o q, h6.at fun o q => k _ (by simp) o q⟩
  item := by
    intro X hP hw hK hc i pins s σ H E I hf st hg
    subst hP hw hK
    obtain ⟨h1, h2, ⟨c, d, e, h3⟩, h4, h5, h6⟩ := st
    obtain ⟨hq1, hq2, hq3, hi1, hi2, hi3⟩ := hg
    obtain ⟨its1, rv1, p1, hz1⟩ := I.list hq1
    obtain ⟨its2, rv2, p2, hz2⟩ := I.list hq2
    obtain ⟨its3, rv3, p3, hz3⟩ := I.list hq3
    obtain ⟨u1, hu1, ru1⟩ := rv1.get (i := i) (x := xs[i]) (by simp [hi1])
    obtain ⟨u2, hu2, ru2⟩ := rv2.get (i := i) (x := ys[i]) (by simp [hi2])
    obtain ⟨u3, hu3, ru3⟩ := rv3.get (i := i) (x := us[i]) (by simp [hi3])
    refine nx_zip3 hb h1 h2 h3 h4 h5 h6 p1.isList p2.isList p3.isList (x := u1) (y := u2) (u := u3) (by simpa using hu1) (by simpa using hu2) (by simpa using hu3) fun h' g1 g2 g3 g4 g5 g6 g7 g8 => ?_
    refine ⟨_, rfl, wpAny_letOwnedTupleGo_zip g1 fun h'' k1 k2 => ?_⟩
    have hf' := I.hok.fresh (Nat.le_refl _)
    have I0 : Inv X pins σ (upd H s.heap.objs.size (.tup [xs[i], ys[i], us[i]])) { s with heap := s.heap.push { cls := .type "tuple", data := .seq #[u1, u2, u3] }, toks := s.toks } :=
      I.laid (t' := s.toks) (o := .tup [xs[i], ys[i], us[i]]) (fun b ob q => Heap.get?_push_of_some _ q) (Nat.le_refl _) ⟨sz_le (n := 3) (by decide), [u1, u2, u3], .cons ru1 (.cons ru2 (.cons ru3 .nil)), ⟨_, Heap.get?_push_size _ rfl, rfl, _, rfl⟩⟩
    have old : ∀ c ∈ [b + 5, b + 3, b + 4, b, b + 1, b + 2], c ≠ s.heap.objs.size := fun c hc q => by
      have hlt : c < s.heap.objs.size := by
        rcases six hc with y | y | y | y | y | y
        · rw [y]; exact Heap.lt_size h1
        · rw [y]; exact Heap.lt_size h2
        · rw [y]; exact Heap.lt_size h3
        · obtain ⟨o, r1, _⟩ := h4
          rw [y]; exact Heap.lt_size r1
        · obtain ⟨o, r1, _⟩ := h5
          rw [y]; exact Heap.lt_size r1
        · obtain ⟨o, r1, _⟩ := h6
          rw [y]; exact Heap.lt_size r1
      rw [q] at hlt
      exact Nat.lt_irrefl _ hlt
    have fe : ∀ c ∈ [b + 5, b + 3, b + 4, b, b + 1, b + 2], FpOk X pins (upd H s.heap.objs.size (.tup [xs[i], ys[i], us[i]])) c := fun c hc => by
      obtain ⟨q0, q1, q2, q3, q4, q5⟩ := hf c hc
      refine ⟨?_, q1, q2, q3, q4, q5⟩
      rw [upd_ne]
      · exact q0
      · exact old c hc
    have I1 : Inv X pins σ (upd H s.heap.objs.size (.tup [xs[i], ys[i], us[i]])) { s with heap := h'', toks := s.toks } := by
      have := I0.turnedL (h' := h'') (t' := s.toks) (L := [b + 5, b + 4, b, b + 1, b + 2]) (fun c o hb q => ?_) (fun c hc => fe c (by
        have hc' : c = b + 5 ∨ c = b + 4 ∨ c = b ∨ c = b + 1 ∨ c = b + 2 := by simpa using hc
        rcases hc' with y | y | y | y | y <;> simp [y]))
      · exact this
      · have bz : c ≠ b + 5 := fun y => hb (by simp [y])
        have hb2 : h'.get? c = some o := by
          by_cases y : c = s.heap.objs.size
          · subst y
            rw [Heap.get?_push_size _ rfl] at q
            rw [← q]; exact g6
          · rw [Heap.get?_push_ne _ _ _ y] at q
            exact g8 c o bz (fun y => hb (by simp [y])) (fun y => hb (by simp [y])) (fun y => hb (by simp [y])) (fun y => hb (by simp [y])) q
        exact k2.extBut c o bz hb2
    have hT : T3 h' (b + 3) _ _ _ := g8 (b + 3) _ (adr (by omega)) (adr (by omega)) (adr (by omega)) (adr (by omega)) (adr (by omega)) h2
    refine ⟨.ref s.heap.objs.size, _, I1, rfl, ⟨_, xs[i], ys[i], us[i], rfl, hf', Same.new hf', by simp [hi1], by simp [hi2], by simp [hi3], upd_same⟩, ⟨k1, k2.extBut _ _ (adr (by omega)) hT, ⟨_, _, _, k2.extBut _ _ (adr (by omega)) g2⟩, g3.extBut k2.extBut (adr (by omega)), g4.extBut k2.extBut (adr (by omega)), g5.extBut k2.extBut (adr (by omega))⟩, fun c hc => (fe c hc).1⟩
  done := by
    intro X hP hw hK hc i pins s σ H E I hf st hg
    subst hP hw hK
    obtain ⟨h1, h2, _, h4, _⟩ := st
    obtain ⟨hq1, hi⟩ := hg
    obtain ⟨its1, rv1, p1, hz1⟩ := I.list hq1
    have hl1 := rv1.length
    refine nx_zip3_end (I.ok.hd hc) hb.1 h1 h2 h4 p1.isList (by simp; omega) fun h' eb => ⟨rfl, I.turnedL (t' := s.toks) (L := [b + 5, b]) (fun c o hb q => eb c o (fun y => hb (by simp [y])) (fun y => hb (by simp [y])) q) (fun c hc => hf c (by
        have hc' : c = b + 5 ∨ c = b := by simpa using hc
        rcases hc' with y | y <;> simp [y]))⟩
  self := fun _ _ _ _ _ st h => by
    obtain ⟨h1, _⟩ := st
    exact wpAny_pyIter_zip h1 h
def iZip3 (K : PySem.W.Frag) (ta : TA) : TI := fun σ H R => ta σ H fun vs H1 => ∃ a1 a2 a3 xs ys us, vs = [.ref a1, .ref a2, .ref a3] ∧ SqL K H1 a1 xs ∧ SqL K H1 a2 ys ∧ SqL K H1 a3 us ∧ R (Itz3 K a1 a2 a3 xs ys us) H1
theorem vals3 {v1 v2 v3 : V} {us : List Value} (h : Vals [v1, v2, v3] us) : ∃ u1 u2 u3, us = [u1, u2, u3] ∧ RelV v1 u1 ∧ RelV v2 u2 ∧ RelV v3 u3 := by
  cases h with
  | cons h1 h => cases h with
    | cons h2 h => cases h with
      | cons h3 h => cases h; exact ⟨_, _, _, rfl, h1, h2, h3⟩
theorem pi_zip3 {elts : List Expr} {x1 : Nat} {tpos : Pos} {l m n : Expr} {ta : TA} {p pos : Pos} (hg : Gl X "zip") (hm : X.mg "zip" = none) (ha : PA X [l, m, n] ta) (hs : starEach [l, m, n] X.env = (false, eval l X.env) :: starEach [m, n] X.env := by rfl) (hp : (backTo pos (starEach [m, n] X.env)).any (·.1) = false := by rfl) : PI X (.Tuple elts x1 tpos) (.Call (.Name "zip" p) [l, m, n] [] pos) (iZip3 X.K ta) := by
  intro pins s σ H R I h
  refine Call_ (ld_blt I hg hm PyProof.Rows.boot_zip (PyProof.Rows.callWith_type1 (thn (ha pos pins s σ H _ I h) fun us s1 ⟨vs, H1, I1, r1, q1⟩ => ?_) hs hp))
  obtain ⟨a1, a2, a3, xs, ys, zs, e, hq1, hq2, hq3, q⟩ := q1
  subst e
  obtain ⟨u1, u2, u3, rfl, ru1, ru2, ru3⟩ := vals3 r1
  cases ru1
  cases ru2
  cases ru3
  obtain ⟨its1, rv1, pt1, hz1⟩ := I1.list hq1
  obtain ⟨its2, rv2, pt2, hz2⟩ := I1.list hq2
  obtain ⟨its3, rv3, pt3, hz3⟩ := I1.list hq3
  have lt : ∀ {a : Addr} {arr : Array Value}, s1.heap.IsList a arr → a < s1.heap.objs.size := fun h => by obtain ⟨o, e, _⟩ := h; exact Heap.lt_size e
  refine call_zip3 pt1.isList pt2.isList pt3.isList fun h' g1 g2 g3 g4 g5 g6 g7 => ?_
  have I2 : Inv X pins σ H1 { s1 with heap := h', toks := s1.toks } := I1.kept (t' := s1.toks) g7
  refine wpAny_pyIter_zip (s := { s1 with heap := h', toks := s1.toks }) g1 ?_
  refine ⟨s1.heap.objs.size + 5, _, _, _, H1, rfl, I2, turn_zip3 a1 a2 a3 s1.heap.objs.size xs ys zs ⟨lt pt1.isList, lt pt2.isList, lt pt3.isList⟩, ⟨g1, g2, ⟨_, _, _, g3⟩, g4, g5, g6⟩, fun c hc => ?_, q⟩
  have hle : s1.heap.objs.size ≤ c := by
    rcases six hc with y | y | y | y | y | y <;> (rw [y]; first | exact Nat.le_add_right _ _ | exact Nat.le_refl _)
  exact I1.fpOk hle (I1.hok.fresh hle)
theorem sI_zip3 {a : TA} {As : DA} (h : SimAF K a As) : SimI K (iZip3 K a) (dZip3 As) := fun F0 H0 F H σ δ P R e w q => h F0 H0 F H σ δ _ _ e w fun ds vs F' H' p x r => by
  try dsimp only at p
  split at p
  · rename_i xs ys zs
    obtain ⟨le1, le2, p⟩ := p
    obtain ⟨v1, v2, v3, rfl, ⟨a1, us1, rfl, h1, h2⟩, ⟨a2, us2, rfl, k1, k2⟩, ⟨a3, us3, rfl, m1, m2⟩⟩ := reps3 r
    have hl1 := h2.length
    have hl2 := k2.length
    have hl3 := m2.length
    refine ⟨a1, a2, a3, us1, us2, us3, rfl, x.fh.seq h1, x.fh.seq k1, x.fh.seq m1, q _ _ F' H' p x fun F1 H1 s1 s2 => ?_⟩
    have hq1 := (s1.trans s2).seq h1
    have hq2 := (s1.trans s2).seq k1
    have hq3 := (s1.trans s2).seq m1
    have hlen : ((xs.zip (ys.zip zs)).map fun p => D.tup [p.1, p.2.1, p.2.2]).length = xs.length := by simp; omega
    rw [hlen]
    refine ⟨fun i hi => ⟨hq1, hq2, hq3, by omega, by omega, by omega⟩, ⟨hq1, by omega⟩, fun i x H2 hi y => ?_⟩
    obtain ⟨t, y1, y2, y3, rfl, ht, sm, hy1, hy2, hy3, ht2⟩ := y
    obtain ⟨d1, hd1, rd1⟩ := h2.get' hy1
    obtain ⟨d2, hd2, rd2⟩ := k2.get' hy2
    obtain ⟨d3, hd3, rd3⟩ := m2.get' hy3
    refine ⟨.tup [d1, d2, d3], upd F1 t (.tup [y1, y2, y3]), ?_, Ext.new s2 ht sm ht2, t, [y1, y2, y3], rfl, .inl (.inl upd_same), ?_⟩
    · rw [List.getElem?_map, List.getElem?_zip_eq_some (z := (d1, d2, d3)) |>.mpr ⟨hd1, List.getElem?_zip_eq_some (z := (d2, d3)) |>.mpr ⟨hd2, hd3⟩⟩]
      rfl
    · exact ⟨_, _, rfl, (rd1.mono s1).mono (Same.upd' (s2.free ht)), _, _, rfl, (rd2.mono s1).mono (Same.upd' (s2.free ht)), _, _, rfl, (rd3.mono s1).mono (Same.upd' (s2.free ht)), rfl⟩
  · exact p.elim
end
end L2

namespace L2
open PySem PySem.Spec PyProof.Rows
section
variable {X : Cx} {K : PySem.W.Frag}
theorem vals_of_ints : ∀ {us : List Value} {ns : List Int}, IntsAre us ns → Vals (ns.map V.int) us
  | _, _, .nil => .nil
  | _, _, .cons n t h => .cons ⟨t, rfl⟩ (vals_of_ints h)
def rSortI (K : PySem.W.Frag) : List V → Hp → VK → Prop := fun xs H Q => ∃ p, ∃ ns : List Int, xs = [.ref p] ∧ SqL K H p (ns.map V.int) ∧ ns.length < 64 ∧ ∀ (l : Addr) (H' : Hp) (ms : List Int), H l = none → Same H H' → H' l = some (.lst (ms.map V.int)) → ms.Perm ns → ms.Pairwise (· ≤ ·) → Q (.ref l) H'
theorem call_sortI : CallR X (.builtin "sorted") (rSortI X.K) := by
  intro pins s σ H xs us Q I r h
  obtain ⟨p, ns, rfl, hq, hl, q⟩ := h
  obtain ⟨u, rfl, ru⟩ := vals1 r
  cases ru
  obtain ⟨its, rv, pl, hz⟩ := I.list hq
  have hi : IntsAre its ns := intsAre_of rv
  have hil := rv.length
  rw [List.length_map] at hil
  refine PyProof.Rows.sorted_ints pl.isList hi (by omega) fun out ms a1 a2 a3 => ?_
  obtain ⟨e, he⟩ := sortedAll_at s.heap its out
  have hn : H (s.heap.objs.size + 1) = none := I.hok.fresh (Nat.le_succ _)
  have hlen := a2.length_eq
  have I' : Inv X pins σ (upd H (s.heap.objs.size + 1) (.lst (ms.map V.int))) { s with heap := sortedAll s.heap its out, toks := s.toks } :=
    I.laid (fun _ _ z => sortedAll_old z) (Nat.le_succ _) ⟨Nat.le_trans (by rw [List.length_map]; omega : (ms.map V.int).length ≤ 64) (sz_le (n := 64) (by decide)), out.toList, e, vals_of_ints a1, by rw [Array.toArray_toList]; exact he⟩
  exact ⟨.ref _, _, I', rfl, q _ _ ms hn (Same.new hn) upd_same a2 a3⟩
def sortD : List D → (OV → Prop) → Prop := fun ds P => match ds with
  | [.lst xs] => ∃ ns : List Int, xs = ns.map D.int ∧ ns.length < 64 ∧ ∀ ms : List Int, ms.Perm ns → ms.Pairwise (· ≤ ·) → P (.nl ((ms.map D.int).map .fz))
  | _ => False
theorem cO_sort : CbO K (rSortI K) sortD := fun F H ds vs P Q s rs w q => by
  unfold sortD at w
  split at w
  · obtain ⟨ns, rfl, hl, w⟩ := w
    obtain ⟨v, rfl, p, us, rfl, h1, h2⟩ := reps1 rs
    have e := reps_ints.mp h2
    subst e
    exact ⟨p, ns, rfl, s.seq h1, hl, fun l H' ms l0 sm l1 a2 a3 => q _ _ F H' (w ms a2 a3) (Ext.grow s sm) (RepN.list l0 (s.free l0) l1 (reps_ints.mpr rfl))⟩
  · exact w.elim
end
end L2

namespace L2
open PySem PySem.Spec PyProof.Rows
abbrev TK := V → St → Hp → (Bool → Hp → Prop) → Prop
def kLast (r : R2) (te : TE) : TK := fun x σ H Q => te σ H fun y H1 => r x y H1 fun z H2 => ∃ k, z = .bl k ∧ Q k H2
def kLink (r : R2) (te : TE) (tk : TK) : TK := fun x σ H Q => te σ H fun y H1 => r x y H1 fun z H2 => ∃ k, z = .bl k ∧ (if k = true then tk y σ H2 Q else Q false H2)
def tChainN (ta : TE) (tk : TK) : TT := fun σ H Q => ta σ H fun x H1 => tk x σ H1 Q
section
variable {X : Cx} {K : PySem.W.Frag} {a e e' : Expr} {es : List Expr} {op op' : CmpOp} {ops : List CmpOp} {r : R2} {ta te : TE} {tk : TK} {pos : Pos}
def PKc (X : Cx) (ops : List CmpOp) (es : List Expr) (t : TK) : Prop := ∀ (pos : Pos) (pins : List (Addr × Obj)) (s : Shared) (σ : St) (H : Hp) (x : V) (v : Value) (Q : Bool → Hp → Prop), Inv X pins σ H s → RelV x v → t x σ H Q → wpAny (model X.prog X.w) X.A (testChain pos v ops (evalEach es X.env)) (TP X pins σ Q) X.xe s
theorem pk_last (ho : OpR X (compareOp op) r) (he : PE X e te) : PKc X [op] [e] (kLast r te) := by
  intro pos pins s σ H x v Q I rx h
  refine test_last (thn (he pins s σ H _ I h) fun u s1 ⟨y, H1, I1, r1, q1⟩ => thn (ho pins s1 σ H1 x y v u _ I1 rx r1 q1) fun d s2 ⟨z, H2, I2, r2, k, ez, q2⟩ => ?_)
  subst ez
  cases r2
  exact wpAny_truthy_bool ⟨H2, I2, q2⟩
theorem pk_link (ho : OpR X (compareOp op) r) (he : PE X e te) (hk : PKc X (op' :: ops) (e' :: es) tk) : PKc X (op :: op' :: ops) (e :: e' :: es) (kLink r te tk) := by
  intro pos pins s σ H x v Q I rx h
  refine test_link (thn (he pins s σ H _ I h) fun u s1 ⟨y, H1, I1, r1, q1⟩ => thn (ho pins s1 σ H1 x y v u _ I1 rx r1 q1) fun d s2 ⟨z, H2, I2, r2, k, ez, q2⟩ => ?_)
  subst ez
  cases r2
  refine wpAny_truthy_bool ?_
  cases k with
  | false => exact ⟨H2, I2, q2⟩
  | true => exact hk pos pins s2 σ H2 y u Q I2 r1 q2
theorem pt_chainN (ha : PE X a ta) (hk : PKc X (op :: op' :: ops) (e :: e' :: es) tk) (hm : lastMarks (op :: op' :: ops) (e :: e' :: es) = false := by with_unfolding_all rfl) : PT X (.Compare a (op :: op' :: ops) (e :: e' :: es) pos) (tChainN ta tk) := by
  intro pins s σ H Q I h
  exact isTrue_chain (thn (ha pins s σ H _ I h) fun v s1 ⟨x, H1, I1, r1, q1⟩ => hk pos pins s1 σ H1 x v Q I1 r1 q1) hm
end
abbrev DK := D → Dst → (Bool → Prop) → Prop
def dkLast (r : DR2) (E : DE) : DK := fun x δ P => E δ fun y => r x y fun z => match z with
  | .bl k => P k
  | _ => False
def dkLink (r : DR2) (E : DE) (k : DK) : DK := fun x δ P => E δ fun y => r x y fun z => match z with
  | .bl b => if b = true then k y δ P else P false
  | _ => False
def dChainN (E : DE) (k : DK) : DT := fun δ P => E δ fun x => k x δ P
section
variable {K : PySem.W.Frag} {ta te : TE} {E Ea : DE} {tk : TK} {k : DK} {R : R2} {r : DR2}
def SimK (K : PySem.W.Frag) (t : TK) (k : DK) : Prop := ∀ F0 H0 F H σ δ x v P Q, EnvR K F0 H0 F H σ δ → Rep K H x v → k x δ P → (∀ b F' H', P b → Ext F H F' H' → Q b H') → t v σ H Q
theorem sK_last (h : OpS K R r) (he : SimB K te E) : SimK K (kLast R te) (dkLast r E) := fun F0 H0 F H σ δ x v P Q e rx w q =>
  he F0 H0 F H σ δ _ _ e w fun y u F1 H1 w1 x1 r1 => h F1 H1 x y v u _ _ x1.fh (rx.mono x1.hh) r1 w1 fun d z F2 H2 p x2 r2 => by
    try dsimp only at p
    split at p
    · rename_i b
      exact ⟨b, r2, q b F2 H2 p (x1.trans x2)⟩
    · exact p.elim
theorem sK_link (h : OpS K R r) (he : SimB K te E) (hk : SimK K tk k) : SimK K (kLink R te tk) (dkLink r E k) := fun F0 H0 F H σ δ x v P Q e rx w q =>
  he F0 H0 F H σ δ _ _ e w fun y u F1 H1 w1 x1 r1 => h F1 H1 x y v u _ _ x1.fh (rx.mono x1.hh) r1 w1 fun d z F2 H2 p x2 r2 => by
    try dsimp only at p
    split at p
    · rename_i b
      refine ⟨b, r2, ?_⟩
      cases b with
      | true =>
        rw [if_pos rfl] at p ⊢
        exact hk F0 H0 F2 H2 σ δ y u P Q (e.on (x1.trans x2)) (r1.mono x2.hh) p fun b F3 H3 p3 x3 => q b F3 H3 p3 ((x1.trans x2).trans x3)
      | false =>
        rw [if_neg (by decide)] at p ⊢
        exact q false F2 H2 p (x1.trans x2)
    · exact p.elim
theorem sT_chainN (ha : SimB K ta Ea) (hk : SimK K tk k) : SimT K (tChainN ta tk) (dChainN Ea k) := fun F0 H0 F H σ δ P Q e w q =>
  ha F0 H0 F H σ δ _ _ e w fun x v F1 H1 w1 x1 r1 => hk F0 H0 F1 H1 σ δ x v P Q (e.on x1) r1 w1 fun b F2 H2 p x2 => q b F2 H2 p (x1.trans x2)
end
end L2

namespace Lw
open PySem L2 PyProof.Rows
def top (i : Nat) : Stmt := PySem.Challenge.pw_liftwave_k26_nested_known.main.body.getD i (.Pass ⟨0, 0, 0, 0⟩)
/-! ### running a def's worth -/
abbrev vD (d : D) : Option Sl := some (.own (.fz d))
abbrev vI (i : Int) : Option Sl := some (.own (.fz (.int i)))
abbrev vL (ts : List OV) : Option Sl := some (.own (.nl ts))
local macro_rules | `(tactic| walk_at "v") => `(tactic| simp only [vD, vI, vL, startV, sNext, sSeq, sBreak, sCont, sDrop, sRet, sRetN, sRetV, sIf, sSet, sAug, sAsg, sApp, sPut, sAugI, sApp2, sExt, sFrz, sPopG, dCatL, dRevL, sFor, gN, gsNil, gsCons, gT, dFz, dVal, dLf, dV, dB, dC, dOp, dUn, rU1, rI2, rI2C, rEqD, rNeD, rIsN, rNotN, D.isNon, dTb, dNot, dAnd, dOr, dIf, dAndV, dOrV, dNotV, dChain, dChainN, dkLast, dkLink, dNil, dCons, dNilO, dConsO, dTup, dLst, ixL, ixT, ixS, dCB, dCBo, lenD, lenS, max2, min2, L2.intD, absD, listD, dListB, tupD, dNoPt, dPt, dSlL, dCall, dCallB, dItL, dItT, dRng1, dRng2, dRng3, dRev, blkD, dComp, isiD, kitB, catTD, eqND, neND, D.same, allD, anyD, maxLD, dBitL, dEnum, dZip, dZip3, sortD, divmodD, dIxO, sumD, dMNil, dMCons, dMMv, noBw, forMR, sForM, sIfMv, dSlT, dSlB, dTupB, dCatB, sAppMv, sSetMv, dRep1, dRevR, dCallM, startMV, sLend, fixFrom, fixS, unlFrom, unlS, dListR, sApp2N, dTruth, dCompIf, sPut2, dSlSt, dCallD, dCallDB, dCallL, dCallLB, sCallIO, startIO, sTag, gB, dCompB, dRngD, sAugI2, dFld, sFSet, sFNew, sFAug, sFApp, sMeth, dMethP, dMake, startM, dListRev, dJoin, mulSD, addSD, strD, dSlS, dItS, OV.val, OV.vals, OV.vals_eq, D.lf, D.lfs, OV.lf, OV.lfs,
  List.map_cons, List.map_nil, List.cons_append, List.nil_append, List.length_cons, List.length_nil, List.replicate, Nat.reduceAdd, Nat.reduceSub, Nat.reduceLeDiff, List.getElem?_cons_zero, List.getElem?_cons_succ, List.set_cons_zero, List.set_cons_succ, Bool.not_true, Bool.not_false, Bool.true_and, Bool.and_true, Bool.false_and, Bool.and_false, true_and, and_true, if_true, if_false, Bool.false_eq_true, List.length_map, reduceIte, decide_eq_true_eq, Option.some.injEq, Sl.own.injEq, OV.ob.injEq, exists_eq_left', val_fzI, lfs_fzI, lfs_ints, fz_int, set_fzI, app_fzI, CDiv, CMul, CPow, Int.reduceLT, Int.reduceLE, Int.reduceNeg, Int.reducePow, Int.reduceToNat, Int.reduceMul, Int.reduceAdd, Int.reduceSub, true_or, or_true, nat10, nat2, kn_int, kn_bool, kn_str, kn_tuple, kn_list, String.reduceBEq, String.reduceEq, decide_true, decide_false, not_true_eq_false, Bool.not_eq_true, Bool.or_self, Bool.or_false, Bool.false_or, Bool.not_not, eq_self, ne_eq, not_true, not_false_eq_true, atI_c0, atI_c1, atI_c2, atI_c3, atI_c4, beq_self_eq_true, Bool.true_or, Bool.or_true])
set_option hygiene false
local macro_rules | `(tactic| walk_at "s") => `(tactic| (refine sSeq_k fun N hN => ?_; walk_at "v"))
local macro_rules | `(tactic| walk_at "n") => `(tactic| (refine hN _ ?_; clear hN; clear N))
set_option hygiene true
section
variable {P : Program} {w : World} {K : PySem.W.Frag} {mg : Str → Option Value} {base : Heap}

seal L2.PA L2.PE L2.PS L2.PSs L2.PT L2.PW L2.PG L2.PGs L2.PO L2.PI
/-! ### texts -/
def bitS (b : Bool) : Str := if b then "1" else "0"
theorem bitS_len (b : Bool) : (bitS b).length = 1 := by cases b <;> rfl
theorem fm_range {α : Type} : ∀ l : List α, (List.range l.length).filterMap (fun k => l[k]?) = l
  | [] => rfl
  | a :: l => by
    rw [List.length_cons, List.range_succ_eq_map, List.filterMap_cons]
    simp only [List.getElem?_cons_zero]
    rw [List.filterMap_map]
    have e : ((fun k => (a :: l)[k]?) ∘ Nat.succ) = fun k => l[k]? := by funext k; simp
    rw [e, fm_range l]
theorem idx_from {n i : Nat} (h : i ≤ n) : Builtin.Str.strSliceIndices (some (i : Int)) none 1 n = (List.range (n - i)).map fun k => i + k := by
  unfold Builtin.Str.strSliceIndices sliceRange
  have e0 : ¬ ((i : Int) < 0) := by omega
  simp only [e0, if_false, show (1 : Int) > 0 by decide, if_true]
  have e : max 0 (min (i : Int) (n : Int)) = (i : Int) := by omega
  rw [e]
  have c : (if (i : Int) < (n : Int) then ((n : Int) - (i : Int) + 1 - 1) / 1 else 0).toNat = n - i := by
    split
    · rw [Int.ediv_one]; omega
    · omega
  rw [c]
  refine List.map_congr_left fun k _ => ?_
  omega
theorem txt_from (x : Str) {i : Nat} (h : i ≤ x.length) : Txt.slice x (some (i : Int)) none = ⟨(x.cps.toList.drop i).toArray⟩ := by
  have e : ((List.range (x.length - i)).map fun k => i + k).filterMap (x.cps[·]?) = x.cps.toList.drop i := by
    rw [List.filterMap_map]
    have := fm_range (x.cps.toList.drop i)
    rw [List.length_drop, Array.length_toList] at this
    rw [← this]
    refine congrArg (fun g => List.filterMap g _) (funext fun k => ?_)
    simp [List.getElem?_drop]
  unfold Txt.slice
  rw [idx_from h]
  split
  · rename_i c
    have hi : i = 0 := by simp at c; omega
    subst hi
    simp
  · rw [e]
/-- the text of bits -/
def strOf (bs : List Bool) : Str := Txt.join "" (bs.map bitS)
theorem strOf_nil : strOf [] = Str.empty := rfl
theorem str_emp : (Str.ofString "") = ⟨#[]⟩ := by decide +kernel
theorem strOf_cons (b : Bool) (bs : List Bool) : strOf (b :: bs) = bitS b ++ strOf bs := by
  unfold strOf
  rw [show ∀ l, Txt.join (Str.ofString "") l = Str.join (Str.ofString "") l from fun l => PySem.StrLaws.glued_eq_join _ l, show ∀ l, Txt.join (Str.ofString "") l = Str.join (Str.ofString "") l from fun l => PySem.StrLaws.glued_eq_join _ l]
  cases bs with
  | nil => exact (Str.append_empty _).symm
  | cons c cs =>
    show bitS b ++ Str.ofString "" ++ Str.join (Str.ofString "") (bitS c :: cs.map bitS) = _
    rw [str_emp, show (bitS b ++ (⟨#[]⟩ : Str)) = bitS b from Str.append_empty _]
    rfl
theorem app_len (x y : Str) : (x ++ y).length = x.length + y.length := by
  show (x.cps ++ y.cps).size = _
  rw [Array.size_append]
  rfl
theorem strOf_len : ∀ bs : List Bool, (strOf bs).length = bs.length
  | [] => rfl
  | b :: bs => by rw [strOf_cons, app_len, strOf_len bs, bitS_len, List.length_cons]; omega
theorem strOf_app : ∀ (as bs : List Bool), strOf (as ++ bs) = strOf as ++ strOf bs
  | [], bs => (Str.empty_append _).symm
  | a :: as, bs => by rw [List.cons_append, strOf_cons, strOf_app as bs, strOf_cons, Str.append_assoc]
theorem rep0 : ∀ m : Nat, m ≤ 3 → repS (Str.ofString "0") m = strOf (List.replicate m false)
  | 0, _ => by decide +kernel
  | 1, _ => by decide +kernel
  | 2, _ => by decide +kernel
  | 3, _ => by decide +kernel
  | n + 4, h => by omega
theorem str_bit (n : Nat) (h : n < 2) : Str.ofString (toString ((n : Nat) : Int)) = bitS (decide (n = 1)) := by
  rcases (show n = 0 ∨ n = 1 by omega) with rfl | rfl <;> decide +kernel
theorem tail_str (b : Bool) (t : Str) : Txt.slice (bitS b ++ t) (some 1) none = t := by
  have e : (bitS b).cps.toList.length = 1 := bitS_len b
  rw [show (some (1 : Int)) = some ((1 : Nat) : Int) from rfl, txt_from _ (by rw [app_len, bitS_len]; omega)]
  show (⟨(((bitS b).cps ++ t.cps).toList.drop 1).toArray⟩ : Str) = t
  rw [Array.toList_append, List.drop_append_of_le_length (by rw [e]; omega), List.drop_of_length_le (by rw [e]; omega), List.nil_append]
theorem sgns_app (x y : Str) : sgns (x ++ y) = sgns x ++ sgns y := by
  show (x.cps ++ y.cps).toList.map _ = _
  rw [Array.toList_append, List.map_append]
  rfl
theorem sgns_bit (b : Bool) : sgns (bitS b) = [bitS b] := by cases b <;> decide +kernel
theorem sgns_strOf : ∀ bs : List Bool, sgns (strOf bs) = bs.map bitS
  | [] => rfl
  | b :: bs => by rw [strOf_cons, sgns_app, sgns_bit, sgns_strOf bs]; rfl
theorem bitS_one (b : Bool) : decide (bitS b = Str.ofString "1") = b := by cases b <;> decide +kernel

/-! ### texts: beginnings, repetitions -/
theorem idx_to {n i : Nat} (h : i ≤ n) : Builtin.Str.strSliceIndices none (some (i : Int)) 1 n = List.range i := by
  unfold Builtin.Str.strSliceIndices sliceRange
  have e0 : ¬ ((i : Int) < 0) := by omega
  simp only [e0, if_false, show (1 : Int) > 0 by decide, if_true]
  have e : max 0 (min (i : Int) (n : Int)) = (i : Int) := by omega
  rw [e]
  have c : (if (0 : Int) < (i : Int) then ((i : Int) - 0 + 1 - 1) / 1 else 0).toNat = i := by
    split
    · rw [Int.ediv_one]; omega
    · omega
  rw [c]
  refine List.ext_getElem? fun k => ?_
  by_cases hk : k < i
  · simp [hk]
  · simp [hk]
theorem fm_take {α : Type} (l : List α) {i : Nat} (h : i ≤ l.length) : (List.range i).filterMap (fun k => l[k]?) = l.take i := by
  have e : ∀ n : Nat, n ≤ l.length → (List.range n).filterMap (fun k => l[k]?) = l.take n := by
    intro n
    induction n with
    | zero => intro _; simp
    | succ n ih =>
      intro hn
      rw [List.range_succ, List.filterMap_append, ih (by omega), List.take_add_one, List.getElem?_eq_getElem (by omega)]
      simp [List.getElem?_eq_getElem (show n < l.length by omega)]
  exact e i h
theorem txt_to (x : Str) {i : Nat} (h : i ≤ x.length) : Txt.slice x none (some (i : Int)) = ⟨(x.cps.toList.take i).toArray⟩ := by
  have e : (List.range i).filterMap (x.cps[·]?) = x.cps.toList.take i := by
    rw [← fm_take x.cps.toList (show i ≤ x.cps.toList.length by rw [Array.length_toList]; exact h)]
    simp
  unfold Txt.slice
  rw [idx_to h]
  split
  · rename_i c
    have hi : i = x.length := by simpa using c
    rw [hi, show x.length = x.cps.toList.length by simp; rfl, List.take_length]
  · rw [e]
theorem str_take (bs : List Bool) {i : Nat} (h : i ≤ bs.length) : Txt.slice (strOf bs) none (some (i : Int)) = strOf (bs.take i) := by
  rw [txt_to _ (by rw [strOf_len]; exact h)]
  have e : strOf bs = strOf (bs.take i) ++ strOf (bs.drop i) := by rw [← strOf_app, List.take_append_drop]
  have hl : (strOf (bs.take i)).cps.toList.length = i := by
    have := strOf_len (bs.take i)
    rw [List.length_take, Nat.min_eq_left h] at this
    rw [Array.length_toList]
    exact this
  rw [e]
  show (⟨(((strOf (bs.take i)).cps ++ (strOf (bs.drop i)).cps).toList.take i).toArray⟩ : Str) = _
  rw [Array.toList_append, List.take_append_of_le_length (by omega), List.take_of_length_le (by omega)]
theorem rep_cps (b : Bool) : ∀ (m : Nat) (a : Array Nat), (List.replicate m (bitS b).cps).foldl (· ++ ·) a = a ++ (strOf (List.replicate m b)).cps
  | 0, a => by
    show a = a ++ #[]
    simp
  | m + 1, a => by
    rw [List.replicate_succ, List.foldl_cons, rep_cps b m, List.replicate_succ, strOf_cons]
    show a ++ (bitS b).cps ++ _ = a ++ ((bitS b).cps ++ _)
    rw [Array.append_assoc]
theorem rep_bit (b : Bool) (m : Nat) : repS (bitS b) (m : Int) = strOf (List.replicate m b) := by
  unfold repS
  split
  · rename_i h
    have : m = 0 := by omega
    subst this
    exact strOf_nil.symm
  · split
    · rename_i h h2
      rw [bitS_len] at h2
      have : m = 1 := by simp at h2; omega
      subst this
      show bitS b = strOf [b]
      rw [strOf_cons, strOf_nil]
      exact (Str.append_empty _).symm
    · rw [Int.toNat_natCast, rep_cps]
      simp

/-! ### the walk -/
def ns_Walk : List Str := ["plane", "used", "row_ends", "walked", "ahead"]
/-- a part: what it asks, from, to, its span -/
structure Pa where
  a : Int
  s : Int
  e : Int
  lo : Int
  hi : Int
def Pa.d (p : Pa) : D := .tup [.int p.a, .int p.s, .int p.e, .tup [.int p.lo, .int p.hi]]
structure Wk where
  pl : Int
  us : Int
  re : List Int
  wk : List Pa
  ah : List Pa
def Wk.ts (w : Wk) : List OV := [.fz (.int w.pl), .fz (.int w.us), .nl (w.re.map fun i => .fz (.int i)), .nl (w.wk.map fun p => .fz p.d), .nl (w.ah.map fun p => .fz p.d)]
def Wk.turn (w : Wk) : Wk := if w.pl - 1 ≥ 0 then { w with pl := w.pl - 1, ah := w.wk.reverse, wk := [] } else { w with pl := w.pl - 1 }
def Wk.wake (w : Wk) (p : Pa) : Wk := if p.e - p.s = 1 then { w with ah := w.ah ++ [⟨2, p.s, p.e, p.lo, p.hi⟩] } else { w with ah := w.ah ++ [⟨0, (p.s + p.e) / 2, p.e, p.lo, p.hi⟩, ⟨1, p.s, (p.s + p.e) / 2, p.lo, p.hi⟩] }
def Wk.fits (w : Wk) : Prop := w.re.length < 900000 ∧ w.wk.length < 900000 ∧ w.ah.length < 900000
def sp_part_of_one : DSp := fun ds P => ∃ p : Pa, ds = [p.d] ∧ P (.fz (.bl (decide (p.e - p.s = 1))))
def sp_calm_span : DSp := fun ds P => ∃ n : Nat, ds = [.int n] ∧ n ≤ 5000 ∧ P (.fz (.tup [.int (1 - 2 ^ n), .int (2 ^ n - 1)]))
def sp_signed_span : DSp := fun ds P => ∃ (n : Nat) (b : Bool), ds = [.int n, .bl b] ∧ n ≤ 5000 ∧ P (.fz (if b then .tup [.int (1 - 2 ^ n - 2 ^ n), .int (-2 ^ n)] else .tup [.int (2 ^ n), .int (2 ^ n + 2 ^ n - 1)]))
def sp_figured_span : DSp := fun ds P => ∃ (lo hi : Int) (n : Nat) (b : Bool), ds = [.tup [.int lo, .int hi], .int n, .bl b] ∧ n ≤ 5000 ∧ P (.fz (if b = decide (lo > 0) then .tup [.int (lo + 2 ^ n), .int hi] else .tup [.int lo, .int (hi - 2 ^ n)]))
def sp_Walk_turn : DMo := fun ts ds P => ∃ w : Wk, ts = w.ts ∧ w.wk.length ≤ 1000000 ∧ ds = [] ∧ P w.turn.ts
def sp_Walk___init__ : DMo := fun ts ds P => ∃ (m : Int) (n : Nat), ts = [] ∧ ds = [.int m, .int n] ∧ n ≤ 5000 ∧ P (Wk.turn ⟨n, 0, [], [⟨0, 0, m, 1 - 2 ^ n, 2 ^ n - 1⟩], []⟩).ts
def sp_Walk_walk_awake : DMo := fun ts ds P => ∃ (w : Wk) (p : Pa) (lo hi : Int), ts = w.ts ∧ w.wk.length < 1000000 ∧ ds = [p.d, .tup [.int lo, .int hi]] ∧ P { w with wk := w.wk ++ [⟨3, p.s, p.e, lo, hi⟩] : Wk }.ts
def sp_Walk_wake : DMo := fun ts ds P => ∃ (w : Wk) (p : Pa), ts = w.ts ∧ w.ah.length < 900000 ∧ ds = [p.d] ∧ P (w.wake p).ts
def sp_Walk_is_whole : DSp := fun ds P => ∃ w : Wk, ds = [.obj "Walk" ns_Walk (OV.vals w.ts)] ∧ P (.fz (.bl (decide (w.pl < 0))))
def Wk.walked (w : Wk) (p : Pa) : Wk := { w with wk := w.wk ++ [p] }
def Wk.calm (w : Wk) (p : Pa) : Wk := if p.a = 1 then { w.walked ⟨0, p.s, p.e, 1 - 2 ^ w.pl.toNat, 2 ^ w.pl.toNat - 1⟩ with ah := w.ah.dropLast : Wk }.wake (w.ah.getLastD p) else w.walked ⟨0, p.s, p.e, 1 - 2 ^ w.pl.toNat, 2 ^ w.pl.toNat - 1⟩
def Pa.figured (p : Pa) (n : Nat) (b : Bool) : Pa := if b = decide (p.lo > 0) then ⟨3, p.s, p.e, p.lo + 2 ^ n, p.hi⟩ else ⟨3, p.s, p.e, p.lo, p.hi - 2 ^ n⟩
def Pa.signed (p : Pa) (n : Nat) (b : Bool) : Pa := if b then ⟨3, p.s, p.e, 1 - 2 ^ n - 2 ^ n, -2 ^ n⟩ else ⟨3, p.s, p.e, 2 ^ n, 2 ^ n + 2 ^ n - 1⟩
/-- a bit is taken; p the part that asks, ah what else is ahead -/
def Wk.step (w : Wk) (ah : List Pa) (p : Pa) (b : Bool) : Wk :=
  if p.a = 3 then { w with us := w.us + 1, ah := ah, wk := w.wk ++ [p.figured w.pl.toNat b] } else if p.a = 2 then { w with us := w.us + 1, ah := ah, wk := w.wk ++ [p.signed w.pl.toNat b] }
  else if b then Wk.wake { w with us := w.us + 1, ah := ah } p else Wk.calm { w with us := w.us + 1, ah := ah } p
def Wk.rowEnd (w : Wk) : Wk := if w.ah = [] then Wk.turn { w with re := w.re ++ [w.us] } else w
def sp_Walk_calm : DMo := fun ts ds P => ∃ (w : Wk) (p : Pa), ts = w.ts ∧ (w.wk.length < 1000000 ∧ w.ah.length < 900000) ∧ ds = [p.d] ∧ 0 ≤ w.pl ∧ w.pl ≤ 5000 ∧ (p.a = 1 → w.ah ≠ []) ∧ P (w.calm p).ts
def sp_Walk_take : DMo := fun ts ds P => ∃ (w : Wk) (ah : List Pa) (p : Pa) (b : Bool), ts = w.ts ∧ w.fits ∧ ds = [.bl b] ∧ w.ah = ah ++ [p] ∧ 0 ≤ w.pl ∧ w.pl ≤ 5000 ∧ (p.a = 1 → b = false → ah ≠ []) ∧ P ((w.step ah p b).rowEnd).ts
theorem two_nat (n : Nat) : (1 : Int) * 2 ^ ((n : Int).toNat) = 2 ^ n := by rw [Int.one_mul, Int.toNat_natCast]
theorem shl_ok {n : Nat} (h : n ≤ 5000) : 0 ≤ (n : Int) ∧ (n : Int) ≤ 1000000 ∧ Int.natAbs 1 < 2 ^ 64 := ⟨by omega, by omega, by decide⟩
theorem pa_vals (ps : List Pa) : (ps.map fun p => OV.fz p.d).map OV.val = ps.map Pa.d := by rw [List.map_map]; rfl
theorem pa_lfs (ps : List Pa) : D.lfs (ps.map Pa.d) = true := by
  rw [D.lfs_eq]
  simp [Pa.d, D.lf, D.lfs]
theorem pa_lf (p : Pa) : p.d.lf = true := by simp [Pa.d, D.lf, D.lfs]
theorem pa_rev (ps : List Pa) : List.map OV.fz (ps.map Pa.d).reverse = ps.reverse.map fun p => OV.fz p.d := by rw [← List.map_reverse, List.map_map]; rfl
theorem pa_app (ps : List Pa) (p : Pa) : (ps.map fun p => OV.fz p.d) ++ [OV.fz p.d] = (ps ++ [p]).map fun p => OV.fz p.d := by simp
theorem pa_app5 (ps : List Pa) (a s e lo hi : Int) : (ps.map fun p => OV.fz p.d) ++ [OV.fz (.tup [.int a, .int s, .int e, .tup [.int lo, .int hi]])] = (ps ++ [(⟨a, s, e, lo, hi⟩ : Pa)]).map fun (p : Pa) => OV.fz p.d := pa_app ps ⟨a, s, e, lo, hi⟩
theorem pa_eta (p : Pa) : p.d = .tup [.int p.a, .int p.s, .int p.e, .tup [.int p.lo, .int p.hi]] := rfl
theorem re_app (ns : List Int) (n : Int) : (ns.map fun i => OV.fz (.int i)) ++ [OV.fz (.int n)] = (ns ++ [n]).map fun i => OV.fz (.int i) := by simp
abbrev s_part_of_one : Stmt := top 10
theorem sc_part_of_one : FnScope ["part"] ["part"] (defScope s_part_of_one) := ⟨rfl, rfl, rfl, by decide +kernel, rfl, by decide +kernel, by decide +kernel⟩
abbrev s_calm_span : Stmt := top 11
theorem sc_calm_span : FnScope ["plane"] ["plane"] (defScope s_calm_span) := ⟨rfl, rfl, rfl, by decide +kernel, rfl, by decide +kernel, by decide +kernel⟩
abbrev s_signed_span : Stmt := top 12
theorem sc_signed_span : FnScope ["plane", "below", "least"] ["plane", "below"] (defScope s_signed_span) := ⟨rfl, rfl, rfl, by decide +kernel, rfl, by decide +kernel, by decide +kernel⟩
abbrev s_figured_span : Stmt := top 13
theorem sc_figured_span : FnScope ["span", "plane", "figure"] ["span", "plane", "figure"] (defScope s_figured_span) := ⟨rfl, rfl, rfl, by decide +kernel, rfl, by decide +kernel, by decide +kernel⟩
abbrev s_Walk_turn : Stmt := inClass (top 14) 1
theorem sc_Walk_turn : FnScope ["self"] ["self"] (defScope s_Walk_turn) := ⟨rfl, rfl, rfl, by decide +kernel, rfl, by decide +kernel, by decide +kernel⟩
abbrev s_Walk___init__ : Stmt := inClass (top 14) 0
theorem sc_Walk___init__ : FnScope ["self", "many", "planes"] ["self", "many", "planes"] (defScope s_Walk___init__) := ⟨rfl, rfl, rfl, by decide +kernel, rfl, by decide +kernel, by decide +kernel⟩
abbrev s_Walk_walk_awake : Stmt := inClass (top 14) 7
theorem sc_Walk_walk_awake : FnScope ["self", "part", "span"] ["self", "part", "span"] (defScope s_Walk_walk_awake) := ⟨rfl, rfl, rfl, by decide +kernel, rfl, by decide +kernel, by decide +kernel⟩
abbrev s_Walk_wake : Stmt := inClass (top 14) 8
theorem sc_Walk_wake : FnScope ["self", "part", "middle"] ["self", "part"] (defScope s_Walk_wake) := ⟨rfl, rfl, rfl, by decide +kernel, rfl, by decide +kernel, by decide +kernel⟩
abbrev s_Walk_is_whole : Stmt := inClass (top 14) 2
theorem sc_Walk_is_whole : FnScope ["self"] ["self"] (defScope s_Walk_is_whole) := ⟨rfl, rfl, rfl, by decide +kernel, rfl, by decide +kernel, by decide +kernel⟩
abbrev s_Walk_calm : Stmt := inClass (top 14) 9
theorem sc_Walk_calm : FnScope ["self", "part"] ["self", "part"] (defScope s_Walk_calm) := ⟨rfl, rfl, rfl, by decide +kernel, rfl, by decide +kernel, by decide +kernel⟩
abbrev s_Walk_take : Stmt := inClass (top 14) 6
theorem sc_Walk_take : FnScope ["self", "told", "part"] ["self", "told"] (defScope s_Walk_take) := ⟨rfl, rfl, rfl, by decide +kernel, rfl, by decide +kernel, by decide +kernel⟩
theorem ok_part_of_one {f : Addr} {fd : FuncData} (Df : DefAt K mg "part_of_one" s_part_of_one f fd) (B : BltV mg) (KV : KitV K) (CV_Walk : ClsV K "Walk" ns_Walk) (g_END : ∃ t, mg "END" = some (.int 2 t)) (g_START : ∃ t, mg "START" = some (.int 1 t)) :
    Cal P w K mg base "part_of_one" 1 ["part"] (spV K 1 sp_part_of_one) := by
  refine CalV.of Df sc_part_of_one (fun _ _ _ _ _ _ us hl => match us, hl with | [_], _ => rfl) rfl (fun cdv A outer s H E hr => ⟨_, _, (pss_one (ps_ret (pe_cmpR op_eq (pe_op op_sub (pe_ix ix_tup (pv 0) (pe_globI (by rfl) g_END) (fun _ _ => rfl)) (pe_ix ix_tup (pv 0) (pe_globI (by rfl) g_START) (fun _ _ => rfl))) pe_int (nomark _)))),
    (sS_ret (sO_f (sF_op oS_eq (sB_f (sF_op oS_i0 (sB_op (OpF.b oF_ixT) sB_var (sB_f sF_int)) (sB_op (OpF.b oF_ixT) sB_var (sB_f sF_int)))) (sB_f sF_int)))), ?_⟩)
  rintro ds Pr ⟨p, rfl, h⟩
  unfold Pa.d
  walk_at "v"
  exact h
theorem ok_calm_span {f : Addr} {fd : FuncData} (Df : DefAt K mg "calm_span" s_calm_span f fd) (B : BltV mg) (KV : KitV K) (CV_Walk : ClsV K "Walk" ns_Walk) :
    Cal P w K mg base "calm_span" 1 ["plane"] (spV K 1 sp_calm_span) := by
  refine CalV.of Df sc_calm_span (fun _ _ _ _ _ _ us hl => match us, hl with | [_], _ => rfl) rfl (fun cdv A outer s H E hr => ⟨_, _, (pss_one (ps_ret (pe_tupS (pa_cons (pe_op op_sub pe_int (pe_op op_shl pe_int (pv 0))) (pa_cons (pe_op op_sub (pe_op op_shl pe_int (pv 0)) pe_int) pa_nil))))),
    (sS_ret (sO_f (sF_tup (sAF_cons (sF_op oS_i0 (sB_f sF_int) (sB_f (sF_op oS_i (sB_f sF_int) sB_var))) (sAF_cons (sF_op oS_i0 (sB_f (sF_op oS_i (sB_f sF_int) sB_var)) (sB_f sF_int)) sAF_nil))))), ?_⟩)
  rintro ds Pr ⟨n, rfl, hn, h⟩
  walk_at "v"
  refine ⟨shl_ok hn, shl_ok hn, ?_⟩
  rw [two_nat]
  exact h
theorem ok_signed_span {f : Addr} {fd : FuncData} (Df : DefAt K mg "signed_span" s_signed_span f fd) (B : BltV mg) (KV : KitV K) (CV_Walk : ClsV K "Walk" ns_Walk) :
    Cal P w K mg base "signed_span" 1 ["plane", "below"] (spV K 2 sp_signed_span) := by
  refine CalV.of Df sc_signed_span (fun _ _ _ _ _ _ us hl => match us, hl with | [_, _], _ => rfl) rfl (fun cdv A outer s H E hr => ⟨_, _, (pss_cons (ps_set (i := 2) sc_signed_span.nd rfl (Or.inl rfl) (pe_op op_shl pe_int (pv 0)))
      (pss_cons (ps_if (pt_val (pv 1)) (pss_one (ps_ret (pe_tupS (pa_cons (pe_op op_sub (pe_op op_sub pe_int (pv 2)) (pv 2)) (pa_cons (pe_un un_neg (pv 2)) pa_nil))))) pss_nil)
      (pss_one (ps_ret (pe_tupS (pa_cons (pv 2) (pa_cons (pe_op op_sub (pe_op op_add (pv 2) (pv 2)) pe_int) pa_nil))))))),
    (sS_seq (sS_set (sO_f (sF_op oS_i (sB_f sF_int) sB_var)))
      (sS_seq (sS_if (sT_b sF_var) (sS_ret (sO_f (sF_tup (sAF_cons (sF_op oS_i0 (sB_f (sF_op oS_i0 (sB_f sF_int) sB_var)) sB_var) (sAF_cons (sF_neg sB_var) sAF_nil))))) sS_next)
      (sS_ret (sO_f (sF_tup (sAF_cons sF_var (sAF_cons (sF_op oS_i0 (sB_f (sF_op oS_i0 sB_var sB_var)) (sB_f sF_int)) sAF_nil))))))), ?_⟩)
  rintro ds Pr ⟨n, b, rfl, hn, h⟩
  walk_at "v"
  refine ⟨shl_ok hn, ?_⟩
  rw [two_nat]
  cases b with
  | true => rw [if_pos rfl] at h ⊢; exact h
  | false => rw [if_neg (by decide)] at h ⊢; exact h
theorem ok_figured_span {f : Addr} {fd : FuncData} (Df : DefAt K mg "figured_span" s_figured_span f fd) (B : BltV mg) (KV : KitV K) (CV_Walk : ClsV K "Walk" ns_Walk) :
    Cal P w K mg base "figured_span" 1 ["span", "plane", "figure"] (spV K 3 sp_figured_span) := by
  refine CalV.of Df sc_figured_span (fun _ _ _ _ _ _ us hl => match us, hl with | [_, _, _], _ => rfl) rfl (fun cdv A outer s H E hr => ⟨_, _, (pss_cons (ps_if (pt_cmpR op_eq (pv 2) (pe_cmpR op_gt (pe_ix ix_tup (pv 0) pe_int (fun _ _ => rfl)) pe_int (nomark _)) (nomark _)) (pss_one (ps_ret (pe_tupS (pa_cons (pe_op op_add (pe_ix ix_tup (pv 0) pe_int (fun _ _ => rfl)) (pe_op op_shl pe_int (pv 1))) (pa_cons (pe_ix ix_tup (pv 0) pe_int (fun _ _ => rfl)) pa_nil))))) pss_nil)
      (pss_one (ps_ret (pe_tupS (pa_cons (pe_ix ix_tup (pv 0) pe_int (fun _ _ => rfl)) (pa_cons (pe_op op_sub (pe_ix ix_tup (pv 0) pe_int (fun _ _ => rfl)) (pe_op op_shl pe_int (pv 1))) pa_nil)))))),
    (sS_seq (sS_if (sT_test (sF_op oS_eq sB_var (sB_f (sF_op oS_b0 (sB_op (OpF.b oF_ixT) sB_var (sB_f sF_int)) (sB_f sF_int))))) (sS_ret (sO_f (sF_tup (sAF_cons (sF_op oS_i0 (sB_op (OpF.b oF_ixT) sB_var (sB_f sF_int)) (sB_f (sF_op oS_i (sB_f sF_int) sB_var))) (sAF_cons (sF_opF oF_ixT sF_var sF_int) sAF_nil))))) sS_next)
      (sS_ret (sO_f (sF_tup (sAF_cons (sF_opF oF_ixT sF_var sF_int) (sAF_cons (sF_op oS_i0 (sB_op (OpF.b oF_ixT) sB_var (sB_f sF_int)) (sB_f (sF_op oS_i (sB_f sF_int) sB_var))) sAF_nil)))))), ?_⟩)
  rintro ds Pr ⟨lo, hi, n, b, rfl, hn, h⟩
  walk_at "v"
  rw [two_nat]
  split at h
  · rename_i c; rw [if_pos c]; exact ⟨shl_ok hn, h⟩
  · rename_i c; rw [if_neg c]; exact ⟨shl_ok hn, h⟩
theorem ok_Walk_turn {f : Addr} {fd : FuncData} (Df : MetAt K "Walk" "turn" "Walk.turn" s_Walk_turn f fd) (B : BltV mg) (KV : KitV K) (CV_Walk : ClsV K "Walk" ns_Walk) :
    CalM P w K mg base "Walk" "turn" 1 ["self"] (spM K 1 "Walk" ns_Walk sp_Walk_turn) := by
  refine CalM.of Df sc_Walk_turn (fun _ _ _ _ _ _ us hl => match us, hl with | [_], _ => rfl) rfl (fun cdv A outer s H E hr => ⟨_, _, (pss_cons (ps_fldaug (pv 0) pe_int in_sub)
      (pss_one (ps_if (pt_cmpR op_ge (pe_fld (pv 0) rfl) pe_int (nomark _)) (pss_cons (ps_fld (pv 0) (pe_listRev rfl B.list rfl B.reversed (pa_cons (pe_fld (pv 0) rfl) pa_nil)) rfl)
      (pss_one (ps_fld (pv 0) (pe_lstS pa_nil) rfl))) pss_nil))),
    (sS_seq (sS_faug (j := 0) (g := fun x y => x - y) CV_Walk (by rfl) (fun x y H Q q => ⟨_, _, rfl, rfl, q⟩) (sB_f sF_int))
      (sS_if (sT_test (sF_op oS_b0 (sB_fld (j := 0) CV_Walk (by rfl) sB_var) (sB_f sF_int))) (sS_seq (sS_fset (j := 4) CV_Walk (by rfl) (sO_listRev (sAB_cons (sB_fld (j := 3) CV_Walk (by rfl) sB_var) sAB_nil)))
      (sS_fset (j := 3) CV_Walk (by rfl) (sO_lst sAO_nil))) sS_next)), ?_⟩)
  rintro a ts ds Pr ⟨w, rfl, hf, rfl, h⟩
  unfold Wk.ts
  walk_at "v"
  rw [pa_vals, pa_rev]
  unfold Wk.turn at h
  split at h
  · rename_i c
    rw [if_pos c]
    exact ⟨by decide, pa_lfs _, hf, by decide, h⟩
  · rename_i c
    rw [if_neg c]
    exact h
theorem ok_Walk___init__ {f : Addr} {fd : FuncData} (Df : Fun K "__init__" "Walk.__init__" s_Walk___init__ f fd) (Mf : MakAt K mg "Walk" f) (B : BltV mg) (KV : KitV K) (CV_Walk : ClsV K "Walk" ns_Walk) (g_WAKING : ∃ t, mg "WAKING" = some (.int 0 t)) (c_calm_span : Cal P w K mg base "calm_span" 1 ["plane"] (spV K 1 sp_calm_span)) (c_Walk_turn : CalM P w K mg base "Walk" "turn" 1 ["self"] (spM K 1 "Walk" ns_Walk sp_Walk_turn)) :
    CalK P w K mg base "Walk" 2 ["self", "many", "planes"] (spM K 3 "Walk" ns_Walk sp_Walk___init__) := by
  refine CalK.of Df Mf sc_Walk___init__ (fun _ _ _ _ _ _ us hl => match us, hl with | [_, _, _], _ => rfl) rfl (fun cdv A outer s H E hr => ⟨_, _, (pss_cons (ps_fld (pv 0) (pv 2) rfl)
      (pss_cons (ps_fld (pv 0) pe_int rfl)
      (pss_cons (ps_fld (pv 0) (pe_lstS pa_nil) rfl)
      (pss_cons (ps_fld (pv 0) (pe_lstS (pa_cons (pe_tupS (pa_cons (pe_globI (by rfl) g_WAKING) (pa_cons pe_int (pa_cons (pv 1) (pa_cons (pe_cal c_calm_span (hr.mono (by decide)) (by rfl) (pa_cons (pv 2) pa_nil)) pa_nil))))) pa_nil)) rfl)
      (pss_cons (ps_fld (pv 0) (pe_lstS pa_nil) rfl)
      (pss_one (ps_expr (pe_metN0 c_Walk_turn (hr.mono (by decide)) (pv 0))))))))),
    (sS_seq (sS_fnew (j := 0) CV_Walk (by rfl) (sO_f sF_var))
      (sS_seq (sS_fnew (j := 1) CV_Walk (by rfl) (sO_f sF_int))
      (sS_seq (sS_fnew (j := 2) CV_Walk (by rfl) (sO_lst sAO_nil))
      (sS_seq (sS_fnew (j := 3) CV_Walk (by rfl) (sO_lst (sAO_cons (sO_f (sF_tup (sAF_cons sF_int (sAF_cons sF_int (sAF_cons sF_var (sAF_cons (sF_o (sO_call (sAF_cons sF_var sAF_nil))) sAF_nil)))))) sAO_nil)))
      (sS_seq (sS_fnew (j := 4) CV_Walk (by rfl) (sO_lst sAO_nil))
      (sS_meth CV_Walk (by decide +kernel) sAF_nil)))))), ?_⟩)
  rintro a ts ds Pr ⟨m, n, rfl, rfl, hn, h⟩
  walk_at "v"
  refine ⟨n, rfl, hn, ?_⟩
  walk_at "v"
  refine ⟨⟨n, 0, [], [⟨0, 0, m, 1 - 2 ^ n, 2 ^ n - 1⟩], []⟩, rfl, (by show 1 ≤ 1000000; decide), rfl, ?_⟩
  exact h
theorem ok_Walk_walk_awake {f : Addr} {fd : FuncData} (Df : MetAt K "Walk" "walk_awake" "Walk.walk_awake" s_Walk_walk_awake f fd) (B : BltV mg) (KV : KitV K) (CV_Walk : ClsV K "Walk" ns_Walk) (g_FIGURE : ∃ t, mg "FIGURE" = some (.int 3 t)) (g_START : ∃ t, mg "START" = some (.int 1 t)) (g_END : ∃ t, mg "END" = some (.int 2 t)) :
    CalM P w K mg base "Walk" "walk_awake" 1 ["self", "part", "span"] (spM K 3 "Walk" ns_Walk sp_Walk_walk_awake) := by
  refine CalM.of Df sc_Walk_walk_awake (fun _ _ _ _ _ _ us hl => match us, hl with | [_, _, _], _ => rfl) rfl (fun cdv A outer s H E hr => ⟨_, _, (pss_one (ps_expr (pe_bm PySem.F.plainAttrs_list PySem.F.slot_list_append PySem.F.type_list_append mt_append (pe_fld (pv 0) rfl) (pa_cons (pe_tupS (pa_cons (pe_globI (by rfl) g_FIGURE) (pa_cons (pe_ix ix_tup (pv 1) (pe_globI (by rfl) g_START) (fun _ _ => rfl)) (pa_cons (pe_ix ix_tup (pv 1) (pe_globI (by rfl) g_END) (fun _ _ => rfl)) (pa_cons (pv 2) pa_nil))))) pa_nil)))),
    (sS_fapp (j := 3) CV_Walk (by rfl) (sO_f (sF_tup (sAF_cons sF_int (sAF_cons (sF_opF oF_ixT sF_var sF_int) (sAF_cons (sF_opF oF_ixT sF_var sF_int) (sAF_cons sF_var sAF_nil))))))), ?_⟩)
  rintro a ts ds Pr ⟨w, p, lo, hi, rfl, hf, rfl, h⟩
  rw [pa_eta]
  unfold Wk.ts
  walk_at "v"
  rw [pa_app5]
  exact ⟨hf, h⟩
theorem ok_Walk_wake {f : Addr} {fd : FuncData} (Df : MetAt K "Walk" "wake" "Walk.wake" s_Walk_wake f fd) (B : BltV mg) (KV : KitV K) (CV_Walk : ClsV K "Walk" ns_Walk) (g_SIGN : ∃ t, mg "SIGN" = some (.int 2 t)) (g_WAKING : ∃ t, mg "WAKING" = some (.int 0 t)) (g_WAKING_FIRST : ∃ t, mg "WAKING_FIRST" = some (.int 1 t)) (g_START : ∃ t, mg "START" = some (.int 1 t)) (g_END : ∃ t, mg "END" = some (.int 2 t)) (g_SPAN : ∃ t, mg "SPAN" = some (.int 3 t)) (c_part_of_one : Cal P w K mg base "part_of_one" 1 ["part"] (spV K 1 sp_part_of_one)) :
    CalM P w K mg base "Walk" "wake" 2 ["self", "part"] (spM K 2 "Walk" ns_Walk sp_Walk_wake) := by
  refine CalM.of Df sc_Walk_wake (fun _ _ _ _ _ _ us hl => match us, hl with | [_, _], _ => rfl) rfl (fun cdv A outer s H E hr => ⟨_, _, (pss_one (ps_if (pt_val (pe_cal c_part_of_one (hr.mono (by decide)) (by rfl) (pa_cons (pv 1) pa_nil))) (pss_one (ps_expr (pe_bm PySem.F.plainAttrs_list PySem.F.slot_list_append PySem.F.type_list_append mt_append (pe_fld (pv 0) rfl) (pa_cons (pe_tupS (pa_cons (pe_globI (by rfl) g_SIGN) (pa_cons (pe_ix ix_tup (pv 1) (pe_globI (by rfl) g_START) (fun _ _ => rfl)) (pa_cons (pe_ix ix_tup (pv 1) (pe_globI (by rfl) g_END) (fun _ _ => rfl)) (pa_cons (pe_ix ix_tup (pv 1) (pe_globI (by rfl) g_SPAN) (fun _ _ => rfl)) pa_nil))))) pa_nil)))) (pss_cons (ps_set (i := 2) sc_Walk_wake.nd rfl (Or.inl rfl) (pe_op op_fdiv (pe_op op_add (pe_ix ix_tup (pv 1) (pe_globI (by rfl) g_START) (fun _ _ => rfl)) (pe_ix ix_tup (pv 1) (pe_globI (by rfl) g_END) (fun _ _ => rfl))) pe_int))
      (pss_cons (ps_expr (pe_bm PySem.F.plainAttrs_list PySem.F.slot_list_append PySem.F.type_list_append mt_append (pe_fld (pv 0) rfl) (pa_cons (pe_tupS (pa_cons (pe_globI (by rfl) g_WAKING) (pa_cons (pv 2) (pa_cons (pe_ix ix_tup (pv 1) (pe_globI (by rfl) g_END) (fun _ _ => rfl)) (pa_cons (pe_ix ix_tup (pv 1) (pe_globI (by rfl) g_SPAN) (fun _ _ => rfl)) pa_nil))))) pa_nil)))
      (pss_one (ps_expr (pe_bm PySem.F.plainAttrs_list PySem.F.slot_list_append PySem.F.type_list_append mt_append (pe_fld (pv 0) rfl) (pa_cons (pe_tupS (pa_cons (pe_globI (by rfl) g_WAKING_FIRST) (pa_cons (pe_ix ix_tup (pv 1) (pe_globI (by rfl) g_START) (fun _ _ => rfl)) (pa_cons (pv 2) (pa_cons (pe_ix ix_tup (pv 1) (pe_globI (by rfl) g_SPAN) (fun _ _ => rfl)) pa_nil))))) pa_nil)))))))),
    (sS_if (sT_b (sF_o (sO_call (sAF_cons sF_var sAF_nil)))) (sS_fapp (j := 4) CV_Walk (by rfl) (sO_f (sF_tup (sAF_cons sF_int (sAF_cons (sF_opF oF_ixT sF_var sF_int) (sAF_cons (sF_opF oF_ixT sF_var sF_int) (sAF_cons (sF_opF oF_ixT sF_var sF_int) sAF_nil))))))) (sS_seq (sS_set (sO_f (sF_op oS_i (sB_f (sF_op oS_i0 (sB_op (OpF.b oF_ixT) sB_var (sB_f sF_int)) (sB_op (OpF.b oF_ixT) sB_var (sB_f sF_int)))) (sB_f sF_int))))
      (sS_seq (sS_fapp (j := 4) CV_Walk (by rfl) (sO_f (sF_tup (sAF_cons sF_int (sAF_cons sF_var (sAF_cons (sF_opF oF_ixT sF_var sF_int) (sAF_cons (sF_opF oF_ixT sF_var sF_int) sAF_nil)))))))
      (sS_fapp (j := 4) CV_Walk (by rfl) (sO_f (sF_tup (sAF_cons sF_int (sAF_cons (sF_opF oF_ixT sF_var sF_int) (sAF_cons sF_var (sAF_cons (sF_opF oF_ixT sF_var sF_int) sAF_nil)))))))))), ?_⟩)
  rintro a ts ds Pr ⟨w, p, rfl, hf, rfl, h⟩
  rw [pa_eta]
  unfold Wk.ts
  walk_at "v"
  refine ⟨p, rfl, ?_⟩
  have hl := hf
  unfold Wk.wake at h
  walk_at "v"
  split at h
  · rename_i c
    rw [if_pos c, pa_app5]
    exact ⟨by omega, h⟩
  · rename_i c
    rw [if_neg c, pa_app5, pa_app5]
    refine ⟨by omega, by simp; omega, ?_⟩
    rw [List.append_assoc]
    exact h
theorem ok_Walk_is_whole {f : Addr} {fd : FuncData} (Df : MetAt K "Walk" "is_whole" "Walk.is_whole" s_Walk_is_whole f fd) (B : BltV mg) (KV : KitV K) (CV_Walk : ClsV K "Walk" ns_Walk) :
    CalM P w K mg base "Walk" "is_whole" 1 ["self"] (spV K 1 sp_Walk_is_whole) := by
  refine CalP.of Df sc_Walk_is_whole (fun _ _ _ _ _ _ us hl => match us, hl with | [_], _ => rfl) rfl (fun cdv A outer s H E hr => ⟨_, _, (pss_one (ps_ret (pe_cmpR op_lt (pe_fld (pv 0) rfl) pe_int (nomark _)))),
    (sS_ret (sO_f (sF_op oS_b0 (sB_fld (j := 0) CV_Walk (by rfl) sB_var) (sB_f sF_int)))), ?_⟩)
  rintro ds Pr ⟨w, rfl, h⟩
  unfold Wk.ts
  walk_at "v"
  exact h
theorem ok_Walk_calm {f : Addr} {fd : FuncData} (Df : MetAt K "Walk" "calm" "Walk.calm" s_Walk_calm f fd) (B : BltV mg) (KV : KitV K) (CV_Walk : ClsV K "Walk" ns_Walk) (g_WAKING_FIRST : ∃ t, mg "WAKING_FIRST" = some (.int 1 t)) (g_WAKING : ∃ t, mg "WAKING" = some (.int 0 t)) (g_ASKS : ∃ t, mg "ASKS" = some (.int 0 t)) (g_START : ∃ t, mg "START" = some (.int 1 t)) (g_END : ∃ t, mg "END" = some (.int 2 t)) (c_calm_span : Cal P w K mg base "calm_span" 1 ["plane"] (spV K 1 sp_calm_span)) (c_Walk_wake : CalM P w K mg base "Walk" "wake" 2 ["self", "part"] (spM K 2 "Walk" ns_Walk sp_Walk_wake)) :
    CalM P w K mg base "Walk" "calm" 3 ["self", "part"] (spM K 2 "Walk" ns_Walk sp_Walk_calm) := by
  refine CalM.of Df sc_Walk_calm (fun _ _ _ _ _ _ us hl => match us, hl with | [_, _], _ => rfl) rfl (fun cdv A outer s H E hr => ⟨_, _, (pss_cons (ps_expr (pe_bm PySem.F.plainAttrs_list PySem.F.slot_list_append PySem.F.type_list_append mt_append (pe_fld (pv 0) rfl) (pa_cons (pe_tupS (pa_cons (pe_globI (by rfl) g_WAKING) (pa_cons (pe_ix ix_tup (pv 1) (pe_globI (by rfl) g_START) (fun _ _ => rfl)) (pa_cons (pe_ix ix_tup (pv 1) (pe_globI (by rfl) g_END) (fun _ _ => rfl)) (pa_cons (pe_cal c_calm_span (hr.mono (by decide)) (by rfl) (pa_cons (pe_fld (pv 0) rfl) pa_nil)) pa_nil))))) pa_nil)))
      (pss_one (ps_if (pt_cmpR op_eq (pe_ix ix_tup (pv 1) (pe_globI (by rfl) g_ASKS) (fun _ _ => rfl)) (pe_globI (by rfl) g_WAKING_FIRST) (nomark _)) (pss_one (ps_expr (pe_metN c_Walk_wake (hr.mono (by decide)) (pv 0) (pa_cons (pe_bm0 PySem.F.plainAttrs_list PySem.F.slot_list_pop PySem.F.type_list_pop mt_pop (pe_fld (pv 0) rfl)) pa_nil)))) pss_nil))),
    (sS_seq (sS_fapp (j := 3) CV_Walk (by rfl) (sO_f (sF_tup (sAF_cons sF_int (sAF_cons (sF_opF oF_ixT sF_var sF_int) (sAF_cons (sF_opF oF_ixT sF_var sF_int) (sAF_cons (sF_o (sO_callB (sAB_cons (sB_fld (j := 0) CV_Walk (by rfl) sB_var) sAB_nil))) sAF_nil)))))))
      (sS_if (sT_test (sF_op oS_eq (sB_op (OpF.b oF_ixT) sB_var (sB_f sF_int)) (sB_f sF_int))) (sS_methPop (j := 4) CV_Walk (by rfl) (by decide +kernel)) sS_next)), ?_⟩)
  rintro a ts ds Pr ⟨w, p, rfl, hf, rfl, h1, h2, hne, h⟩
  rw [pa_eta]
  unfold Wk.ts
  walk_at "v"
  refine ⟨hf.1, w.pl.toNat, by rw [Int.toNat_of_nonneg h1], by omega, ?_⟩
  walk_at "v"
  rw [pa_app5]
  unfold Wk.calm at h
  split at h
  · rename_i c
    rw [if_pos c]
    obtain ⟨ah, q, e⟩ : ∃ ah q, w.ah = ah ++ [q] := ⟨_, _, (List.dropLast_concat_getLast (hne c)).symm⟩
    rw [e] at h ⊢
    rw [List.dropLast_concat, List.getLastD_concat] at h
    unfold sMethPop
    walk_at "v"
    refine ⟨ah.map fun p => OV.fz p.d, q.d, by rw [List.map_append]; rfl, ?_⟩
    refine ⟨{ w.walked ⟨0, p.s, p.e, 1 - 2 ^ w.pl.toNat, 2 ^ w.pl.toNat - 1⟩ with ah := ah }, q, rfl, ?_, rfl, h⟩
    have := hf.2
    rw [e, List.length_append] at this
    show ah.length < 900000
    omega
  · rename_i c
    rw [if_neg c]
    exact h
theorem ok_Walk_take {f : Addr} {fd : FuncData} (Df : MetAt K "Walk" "take" "Walk.take" s_Walk_take f fd) (B : BltV mg) (KV : KitV K) (CV_Walk : ClsV K "Walk" ns_Walk) (g_FIGURE : ∃ t, mg "FIGURE" = some (.int 3 t)) (g_ASKS : ∃ t, mg "ASKS" = some (.int 0 t)) (g_SIGN : ∃ t, mg "SIGN" = some (.int 2 t)) (g_SPAN : ∃ t, mg "SPAN" = some (.int 3 t)) (c_Walk_walk_awake : CalM P w K mg base "Walk" "walk_awake" 1 ["self", "part", "span"] (spM K 3 "Walk" ns_Walk sp_Walk_walk_awake)) (c_figured_span : Cal P w K mg base "figured_span" 1 ["span", "plane", "figure"] (spV K 3 sp_figured_span)) (c_signed_span : Cal P w K mg base "signed_span" 1 ["plane", "below"] (spV K 2 sp_signed_span)) (c_Walk_wake : CalM P w K mg base "Walk" "wake" 2 ["self", "part"] (spM K 2 "Walk" ns_Walk sp_Walk_wake)) (c_Walk_calm : CalM P w K mg base "Walk" "calm" 3 ["self", "part"] (spM K 2 "Walk" ns_Walk sp_Walk_calm)) (c_Walk_turn : CalM P w K mg base "Walk" "turn" 1 ["self"] (spM K 1 "Walk" ns_Walk sp_Walk_turn)) :
    CalM P w K mg base "Walk" "take" 4 ["self", "told"] (spM K 2 "Walk" ns_Walk sp_Walk_take) := by
  refine CalM.of Df sc_Walk_take (fun _ _ _ _ _ _ us hl => match us, hl with | [_, _], _ => rfl) rfl (fun cdv A outer s H E hr => ⟨_, _, (pss_cons (ps_set (i := 2) sc_Walk_take.nd rfl (Or.inl rfl) (pe_bm0 PySem.F.plainAttrs_list PySem.F.slot_list_pop PySem.F.type_list_pop mt_pop (pe_fld (pv 0) rfl)))
      (pss_cons (ps_fldaug (pv 0) pe_int in_add)
      (pss_cons (ps_if (pt_cmpR op_eq (pe_ix ix_tup (pv 2) (pe_globI (by rfl) g_ASKS) (fun _ _ => rfl)) (pe_globI (by rfl) g_FIGURE) (nomark _)) (pss_one (ps_expr (pe_metN c_Walk_walk_awake (hr.mono (by decide)) (pv 0) (pa_cons (pv 2) (pa_cons (pe_cal c_figured_span (hr.mono (by decide)) (by rfl) (pa_cons (pe_ix ix_tup (pv 2) (pe_globI (by rfl) g_SPAN) (fun _ _ => rfl)) (pa_cons (pe_fld (pv 0) rfl) (pa_cons (pv 1) pa_nil)))) pa_nil))))) (pss_one (ps_if (pt_cmpR op_eq (pe_ix ix_tup (pv 2) (pe_globI (by rfl) g_ASKS) (fun _ _ => rfl)) (pe_globI (by rfl) g_SIGN) (nomark _)) (pss_one (ps_expr (pe_metN c_Walk_walk_awake (hr.mono (by decide)) (pv 0) (pa_cons (pv 2) (pa_cons (pe_cal c_signed_span (hr.mono (by decide)) (by rfl) (pa_cons (pe_fld (pv 0) rfl) (pa_cons (pv 1) pa_nil))) pa_nil))))) (pss_one (ps_if (pt_val (pv 1)) (pss_one (ps_expr (pe_metN c_Walk_wake (hr.mono (by decide)) (pv 0) (pa_cons (pv 2) pa_nil)))) (pss_one (ps_expr (pe_metN c_Walk_calm (hr.mono (by decide)) (pv 0) (pa_cons (pv 2) pa_nil)))))))))
      (pss_one (ps_if (pt_not (pt_truth (pe_fld (pv 0) rfl) (fun _ => rfl))) (pss_cons (ps_expr (pe_bm PySem.F.plainAttrs_list PySem.F.slot_list_append PySem.F.type_list_append mt_append (pe_fld (pv 0) rfl) (pa_cons (pe_fld (pv 0) rfl) pa_nil)))
      (pss_one (ps_expr (pe_metN0 c_Walk_turn (hr.mono (by decide)) (pv 0))))) pss_nil))))),
    (sS_seq (sS_fpop (j := 4) CV_Walk (by rfl))
      (sS_seq (sS_faug (j := 1) (g := fun x y => x + y) CV_Walk (by rfl) (fun x y H Q q => ⟨_, _, rfl, rfl, q⟩) (sB_f sF_int))
      (sS_seq (sS_if (sT_test (sF_op oS_eq (sB_op (OpF.b oF_ixT) sB_var (sB_f sF_int)) (sB_f sF_int))) (sS_meth CV_Walk (by decide +kernel) (sAF_cons sF_var (sAF_cons (sF_o (sO_callB (sAB_cons (sB_op (OpF.b oF_ixT) sB_var (sB_f sF_int)) (sAB_cons (sB_fld (j := 0) CV_Walk (by rfl) sB_var) (sAB_cons sB_var sAB_nil))))) sAF_nil))) (sS_if (sT_test (sF_op oS_eq (sB_op (OpF.b oF_ixT) sB_var (sB_f sF_int)) (sB_f sF_int))) (sS_meth CV_Walk (by decide +kernel) (sAF_cons sF_var (sAF_cons (sF_o (sO_callB (sAB_cons (sB_fld (j := 0) CV_Walk (by rfl) sB_var) (sAB_cons sB_var sAB_nil)))) sAF_nil))) (sS_if (sT_b sF_var) (sS_meth CV_Walk (by decide +kernel) (sAF_cons sF_var sAF_nil)) (sS_meth CV_Walk (by decide +kernel) (sAF_cons sF_var sAF_nil)))))
      (sS_if (sT_not (sT_truth (sB_fld (j := 4) CV_Walk (by rfl) sB_var))) (sS_seq (sS_fapp (j := 2) CV_Walk (by rfl) (sO_f (sF_lf (sB_fld (j := 1) CV_Walk (by rfl) sB_var))))
      (sS_meth CV_Walk (by decide +kernel) sAF_nil)) sS_next)))), ?_⟩)
  rintro a ts ds Pr ⟨w, ah, p, b, rfl, hf, rfl, e, h1, h2, hne, h⟩
  unfold Wk.ts
  walk_at "s"
  unfold sFPop
  walk_at "v"
  refine ⟨ah.map fun p => OV.fz p.d, p.d, by rw [e, List.map_append]; rfl, ?_⟩
  walk_at "n"
  walk_at "s"
  walk_at "n"
  walk_at "s"
  rw [pa_eta]
  walk_at "v"
  have hah : ah.length < 900000 := by
    have := hf.2.2
    rw [e, List.length_append] at this
    omega
  have hwk : w.wk.length < 900000 := hf.2.1
  have hre : w.re.length < 900000 := hf.1
  have ep : ((w.pl.toNat : Nat) : Int) = w.pl := Int.toNat_of_nonneg h1
  have hsl : (w.step ah p b).wk.length ≤ w.wk.length + 1 ∧ (w.step ah p b).re = w.re := by
    unfold Wk.step Wk.calm Wk.wake Wk.walked
    repeat (any_goals split)
    all_goals simp
  have fin : N [some (Sl.own (OV.ob (some a) (Str.ofString "Walk") ns_Walk (w.step ah p b).ts)), some (Sl.own (OV.fz (D.bl b))), some (Sl.own (OV.fz (D.tup [D.int p.a, D.int p.s, D.int p.e, D.tup [D.int p.lo, D.int p.hi]])))] := by
    walk_at "n"
    generalize w.step ah p b = v at h hsl ⊢
    unfold Wk.ts
    walk_at "v"
    unfold Wk.rowEnd at h
    split at h
    · rename_i c
      rw [if_pos (by rw [c]; rfl)]
      exact ⟨by rw [hsl.2]; omega, { v with re := v.re ++ [v.us] }, rfl, by show v.wk.length ≤ 1000000; omega, rfl, h⟩
    · rename_i c
      rw [if_neg (by simpa using c)]
      exact h
  unfold Wk.step at fin
  split
  · rename_i c
    rw [if_pos c] at fin
    refine ⟨p.lo, p.hi, w.pl.toNat, b, by rw [ep], by omega, ?_⟩
    unfold Pa.figured at fin
    by_cases hb : b = decide (p.lo > 0)
    · simp only [if_pos hb] at fin ⊢
      exact ⟨rfl, { w with us := w.us + 1, ah := ah }, p, _, _, rfl, by show w.wk.length < 1000000; omega, rfl, fin⟩
    · simp only [if_neg hb] at fin ⊢
      exact ⟨rfl, { w with us := w.us + 1, ah := ah }, p, _, _, rfl, by show w.wk.length < 1000000; omega, rfl, fin⟩
  · rename_i c
    rw [if_neg c] at fin
    split
    · rename_i c2
      rw [if_pos c2] at fin
      refine ⟨w.pl.toNat, b, by rw [ep], by omega, ?_⟩
      unfold Pa.signed at fin
      by_cases hb : b = true
      · simp only [if_pos hb] at fin ⊢
        exact ⟨rfl, { w with us := w.us + 1, ah := ah }, p, _, _, rfl, by show w.wk.length < 1000000; omega, rfl, fin⟩
      · simp only [if_neg hb] at fin ⊢
        exact ⟨rfl, { w with us := w.us + 1, ah := ah }, p, _, _, rfl, by show w.wk.length < 1000000; omega, rfl, fin⟩
    · rename_i c2
      rw [if_neg c2] at fin
      split
      · rename_i c3
        rw [if_pos c3] at fin
        exact ⟨{ w with us := w.us + 1, ah := ah }, p, rfl, hah, rfl, fin⟩
      · rename_i c3
        rw [if_neg c3] at fin
        exact ⟨{ w with us := w.us + 1, ah := ah }, p, rfl, ⟨by show w.wk.length < 1000000; omega, hah⟩, rfl, h1, h2, fun z => hne z (by simpa using c3), fin⟩

/-! ### what a walk tells -/
def ansB (xs : List Int) (n : Int) (p : Pa) : Bool :=
  if p.a = 3 then decide ((xs.getD p.s.toNat 0).natAbs / 2 ^ n.toNat % 2 = 1) else if p.a = 2 then decide (xs.getD p.s.toNat 0 < 0)
  else ((xs.drop p.s.toNat).take (p.e.toNat - p.s.toNat)).any fun x => decide (n < (ibN x : Int))
def PaOk (xs : List Int) (p : Pa) : Prop := 0 ≤ p.s ∧ p.s < p.e ∧ p.e ≤ (xs.length : Int)
theorem band1 (a : Nat) : Builtin.bitAnd (a : Int) 1 = ((a % 2 : Nat) : Int) := by
  unfold Builtin.bitAnd
  rw [decide_eq_true (by omega : 0 ≤ (a : Int)), decide_eq_true (by omega : (0 : Int) ≤ 1)]
  dsimp only
  rw [Int.toNat_natCast, show (1 : Int).toNat = 1 from rfl, Nat.and_one_is_mod]
theorem band1_div (a k : Nat) : Builtin.bitAnd ((a : Int) / 2 ^ k) 1 = ((a / 2 ^ k % 2 : Nat) : Int) := by
  rw [← band1]
  congr 1
theorem cut_nat {xs : List D} {i j : Int} (h0 : 0 ≤ i) (h1 : i ≤ j) (h2 : j ≤ (xs.length : Int)) : L2.cutD xs (some i) (some j) = (xs.drop i.toNat).take (j.toNat - i.toNat) := by
  unfold L2.cutD
  have e1 : HT.sIx xs.length 0 (some i) = i.toNat := by
    have := HT.sIx_nat xs.length 0 i.toNat
    rw [Int.toNat_of_nonneg h0] at this
    rw [this]; omega
  have e2 : HT.sIx xs.length xs.length (some j) = j.toNat := by
    have := HT.sIx_nat xs.length xs.length j.toNat
    rw [Int.toNat_of_nonneg (by omega)] at this
    rw [this]; omega
  rw [e1, e2]
/-- what a walk tells of the numbers xs -/
inductive Tell (xs : List Int) : Wk → List Bool → Prop
  | done {w : Wk} (h : w.pl < 0) : Tell xs w []
  | step {w : Wk} {ah : List Pa} {p : Pa} {bs : List Bool} (h : 0 ≤ w.pl) (h5 : w.pl ≤ 5000) (hf : w.fits) (e : w.ah = ah ++ [p]) (hp : PaOk xs p) (h1 : p.a = 1 → ansB xs w.pl p = false → ah ≠ []) (t : Tell xs ((w.step ah p (ansB xs w.pl p)).rowEnd) bs) : Tell xs w (ansB xs w.pl p :: bs)

/-! ### sizes -/
theorem ib_lt {x : Int} {k : Nat} : 2 ^ k ≤ x.natAbs ↔ k < ibN x := by
  unfold ibN
  split
  · rename_i h
    subst h
    have := Nat.two_pow_pos k
    simp
  · rename_i h
    rw [← Nat.le_log2 (by omega)]
    omega
theorem div_pos_iff {x : Int} {k : Nat} : (x.natAbs : Int) / 2 ^ k > 0 ↔ k < ibN x := by
  rw [← ib_lt]
  have e : ((x.natAbs : Int) / 2 ^ k) = ((x.natAbs / 2 ^ k : Nat) : Int) := by simp
  rw [e]
  have := Nat.div_pos_iff (a := x.natAbs) (b := 2 ^ k)
  have hp := Nat.two_pow_pos k
  omega
theorem fit_ints (xs : List Int) : (D.lst (xs.map D.int)).fit 4 = true := by
  simp only [D.fit, List.all_eq_true]
  intro d hd
  obtain ⟨x, _, rfl⟩ := List.mem_map.mp hd
  rfl
theorem ib_addn {c : Int} {j : Nat} (h : ibN c ≤ 1048576) (hj : j ≤ 1000) : ibN (c + (j : Int)) ≤ 2000000 := by
  have key : ∀ n : Nat, ibN c ≤ n → 10 ≤ n → ibN (c + (j : Int)) ≤ n + 1 := by
    intro n hn h10
    have h1 : c.natAbs < 2 ^ n := Nat.lt_of_not_le fun z => by have := ib_lt.mp z; omega
    have h2 : 2 ^ 10 ≤ 2 ^ n := Nat.pow_le_pow_right (by decide) h10
    have h1' : (c.natAbs : Int) < 2 ^ n := by exact_mod_cast h1
    have h2' : (1024 : Int) ≤ 2 ^ n := by exact_mod_cast h2
    refine ibN_lt ?_ ?_
    · rw [Int.pow_succ]; omega
    · rw [Int.pow_succ]; omega
  exact Nat.le_trans (key 1048576 h (by decide)) (by decide)

/-! ### what a walk knows -/
/-- the k lowest figures of |x| are not known, the others are, and the sign: x is in lo .. hi -/
def Kn (x : Int) (k : Nat) (lo hi : Int) : Prop := lo ≤ x ∧ x ≤ hi ∧ hi - lo = 2 ^ k - 1 ∧ ((∃ q : Int, 0 < q ∧ lo = q * 2 ^ k) ∨ (∃ q : Int, 0 < q ∧ hi = -(q * 2 ^ k)))
theorem tdec {P : Prop} [Decidable P] : (true = decide P) ↔ P := by rw [eq_comm, decide_eq_true_eq]
theorem fdec {P : Prop} [Decidable P] : (false = decide P) ↔ ¬ P := by rw [eq_comm, decide_eq_false_iff_not]
theorem p2pos (k : Nat) : (0 : Int) < 2 ^ k := Int.pow_pos (by decide)
theorem p2succ (k : Nat) : (2 : Int) ^ (k + 1) = 2 * 2 ^ k := by rw [Int.pow_succ, Int.mul_comm]
theorem Kn.le {x : Int} {k : Nat} {lo hi : Int} (h : Kn x k lo hi) : 2 ^ k ≤ (x.natAbs : Int) := by
  obtain ⟨h1, h2, h3, h4⟩ := h
  have hp := p2pos k
  rcases h4 with ⟨q, hq, rfl⟩ | ⟨q, hq, rfl⟩
  · have : 1 * 2 ^ k ≤ q * 2 ^ k := Int.mul_le_mul_of_nonneg_right (by omega) (by omega)
    omega
  · have : 1 * 2 ^ k ≤ q * 2 ^ k := Int.mul_le_mul_of_nonneg_right (by omega) (by omega)
    omega
theorem bit_of {y u r c : Nat} (hc : 0 < c) (hu : ∃ q, u = q * c) (hy : y = 2 * u + r) (hr : r < 2 * c) : y / c % 2 = 1 ↔ c ≤ r := by
  obtain ⟨q, rfl⟩ := hu
  have e : y / c = 2 * q + r / c := by
    rw [hy, show 2 * (q * c) + r = r + 2 * q * c by rw [Nat.mul_assoc]; omega, Nat.add_mul_div_right _ _ hc, Nat.add_comm]
  rw [e]
  by_cases hz : c ≤ r
  · have : r / c = 1 := Nat.div_eq_of_lt_le (by omega) (by omega)
    omega
  · have : r / c = 0 := Nat.div_eq_of_lt (by omega)
    omega
/-- one figure more -/
theorem Kn.figured {x : Int} {k : Nat} {p : Pa} {b : Bool} (h : Kn x (k + 1) p.lo p.hi) : Kn x k (p.figured k b).lo (p.figured k b).hi ↔ b = decide (x.natAbs / 2 ^ k % 2 = 1) := by
  obtain ⟨h1, h2, h3, h4⟩ := h
  rw [p2succ] at h3 h4
  have hk := Nat.two_pow_pos k
  have hcast : (2 : Int) ^ k = ((2 ^ k : Nat) : Int) := by simp
  unfold Kn Pa.figured
  rw [hcast] at h3 h4 ⊢
  generalize (2 ^ k : Nat) = c at *
  rcases h4 with ⟨q, hq, e⟩ | ⟨q, hq, e⟩
  · obtain ⟨qn, rfl⟩ : ∃ n : Nat, q = n := ⟨q.toNat, by omega⟩
    have e' : p.lo = 2 * ((qn * c : Nat) : Int) := by rw [e]; push_cast; rw [Int.mul_left_comm]
    have hpos : 0 < qn * c := Nat.mul_pos (by omega) hk
    have key := bit_of (y := x.natAbs) (u := qn * c) (r := (x - p.lo).toNat) hk ⟨qn, rfl⟩ (by omega) (by omega)
    have hd : decide (p.lo > 0) = true := decide_eq_true (by omega)
    rw [hd]
    cases b with
    | true =>
      rw [if_pos rfl, tdec, key]
      dsimp only
      constructor
      · rintro ⟨g1, _⟩; omega
      · intro g
        refine ⟨by omega, h2, by omega, .inl ⟨2 * qn + 1, by omega, ?_⟩⟩
        rw [Int.add_mul, Int.mul_assoc, e']
        push_cast
        omega
    | false =>
      rw [if_neg (by decide), fdec, key]
      dsimp only
      constructor
      · rintro ⟨_, g1, _⟩; omega
      · intro g
        refine ⟨h1, by omega, by omega, .inl ⟨2 * qn, by omega, ?_⟩⟩
        rw [Int.mul_assoc, e']
        push_cast
        omega
  · obtain ⟨qn, rfl⟩ : ∃ n : Nat, q = n := ⟨q.toNat, by omega⟩
    have e' : p.hi = -(2 * ((qn * c : Nat) : Int)) := by rw [e]; push_cast; rw [Int.mul_left_comm]
    have hpos : 0 < qn * c := Nat.mul_pos (by omega) hk
    have key := bit_of (y := x.natAbs) (u := qn * c) (r := (p.hi - x).toNat) hk ⟨qn, rfl⟩ (by omega) (by omega)
    have hd : decide (p.lo > 0) = false := decide_eq_false (by omega)
    rw [hd]
    cases b with
    | true =>
      rw [if_neg (by decide), tdec, key]
      dsimp only
      constructor
      · rintro ⟨_, g1, _⟩; omega
      · intro g
        refine ⟨h1, by omega, by omega, .inr ⟨2 * qn + 1, by omega, ?_⟩⟩
        rw [Int.add_mul, Int.mul_assoc, e']
        push_cast
        omega
    | false =>
      rw [if_pos rfl, fdec, key]
      dsimp only
      constructor
      · rintro ⟨g1, _⟩; omega
      · intro g
        refine ⟨by omega, h2, by omega, .inr ⟨2 * qn, by omega, ?_⟩⟩
        rw [Int.mul_assoc, e']
        push_cast
        omega
/-- awake: the sign -/
theorem Kn.signed {x : Int} {k : Nat} {p : Pa} {b : Bool} (h1 : 2 ^ k ≤ x.natAbs) (h2 : x.natAbs < 2 ^ (k + 1)) : Kn x k (p.signed k b).lo (p.signed k b).hi ↔ b = decide (x < 0) := by
  have hk := Nat.two_pow_pos k
  have hcast : (2 : Int) ^ k = ((2 ^ k : Nat) : Int) := by simp
  rw [Nat.pow_succ] at h2
  unfold Kn Pa.signed
  rw [hcast]
  generalize (2 ^ k : Nat) = c at *
  cases b with
  | true =>
    rw [if_pos rfl, tdec]
    dsimp only
    constructor
    · rintro ⟨_, g1, _⟩; omega
    · intro g
      exact ⟨by omega, by omega, by omega, .inr ⟨1, by omega, by omega⟩⟩
  | false =>
    rw [if_neg (by decide), fdec]
    dsimp only
    constructor
    · rintro ⟨g1, _⟩; omega
    · intro g
      exact ⟨by omega, by omega, by omega, .inl ⟨1, by omega, by omega⟩⟩

/-! ### the walk and the numbers -/
def ShK (k : Nat) (lo hi : Int) : Prop := hi - lo = 2 ^ k - 1 ∧ ((∃ q : Int, 0 < q ∧ lo = q * 2 ^ k) ∨ (∃ q : Int, 0 < q ∧ hi = -(q * 2 ^ k)))
def ShW (k : Nat) (p : Pa) : Prop := 0 ≤ p.s ∧ p.s < p.e ∧ ((p.a = 3 ∧ p.e = p.s + 1 ∧ ShK k p.lo p.hi) ∨ (p.a = 0 ∧ p.lo = 1 - 2 ^ k ∧ p.hi = 2 ^ k - 1))
def ShA (k : Nat) (p : Pa) : Prop := 0 ≤ p.s ∧ p.s < p.e ∧ ((p.a = 3 ∧ p.e = p.s + 1 ∧ ShK k p.lo p.hi) ∨ ((p.a = 0 ∨ p.a = 1) ∧ p.lo = 1 - 2 ^ k ∧ p.hi = 2 ^ k - 1) ∨ (p.a = 2 ∧ p.e = p.s + 1 ∧ p.lo = 1 - 2 ^ k ∧ p.hi = 2 ^ k - 1))
/-- all numbers from s to e are below 2^k -/
def Low (xs : List Int) (k : Nat) (s e : Int) : Prop := ∀ i : Nat, s ≤ i → (i : Int) < e → (xs.getD i 0).natAbs < 2 ^ k
def Big (xs : List Int) (k : Nat) (s e : Int) : Prop := ∃ i : Nat, s ≤ i ∧ (i : Int) < e ∧ 2 ^ k ≤ (xs.getD i 0).natAbs
def CW (xs : List Int) (k : Nat) (p : Pa) : Prop := (p.a = 3 → p.lo ≤ xs.getD p.s.toNat 0 ∧ xs.getD p.s.toNat 0 ≤ p.hi) ∧ (p.a = 0 → Low xs k p.s p.e)
def CA (xs : List Int) (k : Nat) (p : Pa) : Prop := (p.a = 3 → p.lo ≤ xs.getD p.s.toNat 0 ∧ xs.getD p.s.toNat 0 ≤ p.hi) ∧ (p.a ≠ 3 → Low xs (k + 1) p.s p.e) ∧ (p.a = 2 → Big xs k p.s p.e)
theorem not_low {xs : List Int} {k : Nat} {s e : Int} : ¬ Low xs k s e ↔ Big xs k s e := by
  unfold Low Big
  constructor
  · intro h
    exact Classical.byContradiction fun z => h fun i h1 h2 => Nat.lt_of_not_le fun y => z ⟨i, h1, h2, y⟩
  · rintro ⟨i, h1, h2, h3⟩ h
    have := h i h1 h2
    omega
theorem Low.mono {xs : List Int} {k l : Nat} {s e : Int} (h : Low xs k s e) (hl : k ≤ l) : Low xs l s e := fun i h1 h2 => Nat.lt_of_lt_of_le (h i h1 h2) (Nat.pow_le_pow_right (by decide) hl)
theorem Low.split {xs : List Int} {k : Nat} {s m e : Int} (h1 : s ≤ m) (h2 : m ≤ e) : Low xs k s e ↔ Low xs k s m ∧ Low xs k m e := by
  constructor
  · intro h
    exact ⟨fun i a b => h i a (by omega), fun i a b => h i (by omega) b⟩
  · rintro ⟨a, b⟩ i c d
    by_cases z : (i : Int) < m
    · exact a i c z
    · exact b i (by omega) d
theorem Big.split {xs : List Int} {k : Nat} {s m e : Int} (h1 : s ≤ m) (h2 : m ≤ e) : Big xs k s e ↔ Big xs k s m ∨ Big xs k m e := by
  rw [← not_low, Low.split h1 h2, ← not_low, ← not_low]
  exact ⟨fun z => (Classical.em _).elim (fun a => .inr fun b => z ⟨a, b⟩) .inl, fun z ⟨a, b⟩ => z.elim (fun c => c a) fun c => c b⟩
/-- the answer of a part that is not awake -/
theorem ans_big {xs : List Int} {k : Nat} {p : Pa} (h3 : p.a ≠ 3) (h2 : p.a ≠ 2) (h0 : 0 ≤ p.s) (h1 : p.s < p.e) (he : p.e ≤ (xs.length : Int)) : ansB xs (k : Int) p = true ↔ Big xs k p.s p.e := by
  unfold ansB Big
  rw [if_neg h3, if_neg h2, List.any_eq_true]
  constructor
  · rintro ⟨x, hx, hk⟩
    obtain ⟨i, hi⟩ := List.mem_iff_getElem?.mp hx
    have hil := (List.getElem?_eq_some_iff.mp hi).1
    rw [List.length_take, List.length_drop] at hil
    rw [List.getElem?_take_of_lt (by omega), List.getElem?_drop] at hi
    refine ⟨p.s.toNat + i, by omega, by omega, ?_⟩
    rw [List.getD_eq_getElem?_getD, hi]
    show 2 ^ k ≤ x.natAbs
    exact ib_lt.mpr (by have := of_decide_eq_true hk; omega)
  · rintro ⟨i, a, b, c⟩
    refine ⟨xs.getD i 0, List.mem_iff_getElem?.mpr ⟨i - p.s.toNat, ?_⟩, decide_eq_true (by have := ib_lt.mp c; omega)⟩
    rw [List.getElem?_take_of_lt (by omega), List.getElem?_drop, show p.s.toNat + (i - p.s.toNat) = i by omega, List.getD_eq_getElem?_getD, List.getElem?_eq_getElem (by omega)]
    rfl
theorem kn_iff {x : Int} {k : Nat} {lo hi : Int} : Kn x k lo hi ↔ ShK k lo hi ∧ lo ≤ x ∧ x ≤ hi := by
  unfold Kn ShK
  constructor
  · rintro ⟨a, b, c, d⟩; exact ⟨⟨c, d⟩, a, b⟩
  · rintro ⟨⟨c, d⟩, a, b⟩; exact ⟨a, b, c, d⟩
theorem ShK.figured {k : Nat} {p : Pa} {b : Bool} (h : ShK (k + 1) p.lo p.hi) : ShK k (p.figured k b).lo (p.figured k b).hi ∧ p.lo ≤ (p.figured k b).lo ∧ (p.figured k b).hi ≤ p.hi := by
  obtain ⟨h3, h4⟩ := h
  rw [p2succ] at h3 h4
  have hk := p2pos k
  unfold ShK Pa.figured
  generalize (2 : Int) ^ k = c at *
  split
  · rename_i hb
    dsimp only
    refine ⟨⟨by omega, ?_⟩, by omega, by omega⟩
    rcases h4 with ⟨q, hq, e⟩ | ⟨q, hq, e⟩
    · exact .inl ⟨2 * q + 1, by omega, by rw [e, Int.add_mul, Int.mul_left_comm, Int.mul_assoc]; omega⟩
    · exact .inr ⟨2 * q, by omega, by rw [e, Int.mul_left_comm, Int.mul_assoc]⟩
  · rename_i hb
    dsimp only
    refine ⟨⟨by omega, ?_⟩, by omega, by omega⟩
    rcases h4 with ⟨q, hq, e⟩ | ⟨q, hq, e⟩
    · exact .inl ⟨2 * q, by omega, by rw [e, Int.mul_left_comm, Int.mul_assoc]⟩
    · exact .inr ⟨2 * q + 1, by omega, by rw [e, Int.add_mul, Int.mul_left_comm, Int.mul_assoc]; omega⟩
theorem ShK.signed {k : Nat} {p : Pa} {b : Bool} : ShK k (p.signed k b).lo (p.signed k b).hi := by
  unfold ShK Pa.signed
  have hk := p2pos k
  generalize (2 : Int) ^ k = c at *
  split
  · exact ⟨by dsimp only; omega, .inr ⟨1, by omega, by dsimp only; omega⟩⟩
  · exact ⟨by dsimp only; omega, .inl ⟨1, by omega, by dsimp only; omega⟩⟩
theorem fig_iff {xs : List Int} {k : Nat} {p : Pa} {b : Bool} (h3 : p.a = 3) (hs : ShK (k + 1) p.lo p.hi) : CW xs k (p.figured k b) ↔ CA xs k p ∧ b = ansB xs (k : Int) p := by
  have ha : ansB xs (k : Int) p = decide ((xs.getD p.s.toNat 0).natAbs / 2 ^ k % 2 = 1) := by
    unfold ansB
    rw [if_pos h3]
    rfl
  have fa : (p.figured k b).a = 3 ∧ (p.figured k b).s = p.s ∧ (p.figured k b).e = p.e := by unfold Pa.figured; split <;> exact ⟨rfl, rfl, rfl⟩
  obtain ⟨g1, g2, g3⟩ := hs.figured (p := p) (b := b)
  rw [ha]
  unfold CW CA
  rw [fa.1, fa.2.1, fa.2.2]
  generalize xs.getD p.s.toNat 0 = x
  constructor
  · rintro ⟨h, _⟩
    obtain ⟨a1, a2⟩ := h rfl
    have kn : Kn x (k + 1) p.lo p.hi := kn_iff.mpr ⟨hs, by omega, by omega⟩
    exact ⟨⟨fun _ => ⟨by omega, by omega⟩, fun z => absurd h3 z, fun z => by rw [h3] at z; cases z⟩, kn.figured.mp (kn_iff.mpr ⟨g1, a1, a2⟩)⟩
  · rintro ⟨⟨h, _, _⟩, hb⟩
    have kn : Kn x (k + 1) p.lo p.hi := kn_iff.mpr ⟨hs, h h3⟩
    exact ⟨fun _ => (kn_iff.mp (kn.figured.mpr hb)).2, fun z => by cases z⟩
theorem one_low {xs : List Int} {k : Nat} {s : Int} (h : 0 ≤ s) : Low xs k s (s + 1) ↔ (xs.getD s.toNat 0).natAbs < 2 ^ k := by
  unfold Low
  constructor
  · intro z; exact z s.toNat (by omega) (by omega)
  · intro z i a b
    rw [show i = s.toNat by omega]; exact z
theorem one_big {xs : List Int} {k : Nat} {s : Int} (h : 0 ≤ s) : Big xs k s (s + 1) ↔ 2 ^ k ≤ (xs.getD s.toNat 0).natAbs := by
  rw [← not_low, one_low h]
  omega
theorem sig_iff {xs : List Int} {k : Nat} {p : Pa} {b : Bool} (h2 : p.a = 2) (h0 : 0 ≤ p.s) (he : p.e = p.s + 1) : CW xs k (p.signed k b) ↔ CA xs k p ∧ b = ansB xs (k : Int) p := by
  have ha : ansB xs (k : Int) p = decide (xs.getD p.s.toNat 0 < 0) := by
    unfold ansB
    rw [if_neg (by rw [h2]; decide), if_pos h2]
  have fa : (p.signed k b).a = 3 ∧ (p.signed k b).s = p.s ∧ (p.signed k b).e = p.e := by unfold Pa.signed; split <;> exact ⟨rfl, rfl, rfl⟩
  rw [ha]
  unfold CW CA
  rw [fa.1, fa.2.1, fa.2.2, he]
  simp only [one_low h0, one_big h0]
  generalize xs.getD p.s.toNat 0 = x
  have hp := Nat.two_pow_pos k
  constructor
  · rintro ⟨h, _⟩
    have kn : Kn x k (p.signed k b).lo (p.signed k b).hi := kn_iff.mpr ⟨ShK.signed, h trivial⟩
    have l1 : 2 ^ k ≤ x.natAbs := by
      have := kn.le
      exact_mod_cast this
    have l2 : x.natAbs < 2 ^ (k + 1) := by
      obtain ⟨a1, a2⟩ := h trivial
      have hc : (2 : Int) ^ k = ((2 ^ k : Nat) : Int) := by simp
      rw [Nat.pow_succ]
      unfold Pa.signed at a1 a2
      rw [hc] at a1 a2
      generalize (2 ^ k : Nat) = c at *
      split at a1
      · rename_i z
        rw [if_pos z] at a2
        dsimp only at a1 a2
        omega
      · rename_i z
        rw [if_neg z] at a2
        dsimp only at a1 a2
        omega
    exact ⟨⟨(fun z => by rw [h2] at z; cases z), fun _ => l2, fun _ => l1⟩, (Kn.signed l1 l2).mp kn⟩
  · rintro ⟨⟨_, l2, l1⟩, hb⟩
    exact ⟨fun _ => (kn_iff.mp ((Kn.signed (p := p) (l1 h2) (l2 (by rw [h2]; decide))).mpr hb)).2, fun z => by cases z⟩
theorem tdec' {b : Bool} : (true = b) ↔ b = true := eq_comm
theorem fdec' {b : Bool} : (false = b) ↔ ¬ b = true := by cases b <;> simp
/-- the part on top that asks 1, and its sibling beneath: one of their numbers is large -/
def Pair (xs : List Int) (k : Nat) (ah : List Pa) : Prop := ∀ r q p, ah = r ++ [q, p] → p.a = 1 → Big xs k p.s q.e
def CAs (xs : List Int) (k : Nat) (ah : List Pa) : Prop := (∀ p ∈ ah, CA xs k p) ∧ Pair xs k ah
theorem pair_no {xs : List Int} {k : Nat} {ah : List Pa} {p : Pa} (h : p.a ≠ 1) : Pair xs k (ah ++ [p]) := fun r q p' e h' => by
  have : ah ++ [p] = (r ++ [q]) ++ [p'] := by rw [e]; simp
  obtain ⟨_, e2⟩ := List.append_inj' this rfl
  rw [List.cons.inj e2 |>.1] at h
  exact absurd h' h
theorem pair_none {xs : List Int} {k : Nat} {ah : List Pa} (h : ∀ z ∈ ah, z.a ≠ 1) : Pair xs k ah := fun r q p e h' => absurd h' (h p (by rw [e]; simp))
theorem pair_two {xs : List Int} {k : Nat} {ah : List Pa} {q p : Pa} (h : p.a = 1) : Pair xs k (ah ++ [q, p]) ↔ Big xs k p.s q.e := by
  constructor
  · intro z; exact z ah q p rfl h
  · intro z r q' p' e _
    obtain ⟨_, e2⟩ := List.append_inj' e rfl
    obtain ⟨a, b⟩ := List.cons.inj e2
    obtain ⟨c, _⟩ := List.cons.inj b
    rw [← a, ← c]; exact z
/-- a part is woken -/
theorem wake_iff {xs : List Int} {k : Nat} {w : Wk} {q : Pa} (h0 : 0 ≤ q.s) (h1 : q.s < q.e) (hn : ∀ z ∈ w.ah, z.a ≠ 1) :
    CAs xs k (w.wake q).ah ↔ (∀ z ∈ w.ah, CA xs k z) ∧ Low xs (k + 1) q.s q.e ∧ Big xs k q.s q.e := by
  unfold Wk.wake CAs
  split
  · rename_i c
    dsimp only
    have hp : Pair xs k (w.ah ++ [⟨2, q.s, q.e, q.lo, q.hi⟩]) := pair_no (by show ¬ (2 : Int) = 1; decide)
    have hc : CA xs k ⟨2, q.s, q.e, q.lo, q.hi⟩ ↔ Low xs (k + 1) q.s q.e ∧ Big xs k q.s q.e := by
      unfold CA
      dsimp only
      exact ⟨fun z => ⟨z.2.1 (by decide), z.2.2 rfl⟩, fun z => ⟨fun y => absurd y (by decide), fun _ => z.1, fun _ => z.2⟩⟩
    rw [List.forall_mem_append, List.forall_mem_singleton, hc]
    exact ⟨fun z => z.1, fun z => ⟨z, hp⟩⟩
  · rename_i c
    dsimp only
    have hm1 : q.s < (q.s + q.e) / 2 := by omega
    have hm2 : (q.s + q.e) / 2 < q.e := by omega
    generalize (q.s + q.e) / 2 = m at hm1 hm2
    have hc : ∀ (a s e : Int), a ≠ 3 → a ≠ 2 → (CA xs k ⟨a, s, e, q.lo, q.hi⟩ ↔ Low xs (k + 1) s e) := by
      intro a s e n3 n2
      unfold CA
      dsimp only
      exact ⟨fun z => z.2.1 n3, fun z => ⟨fun y => absurd y n3, fun _ => z, fun y => absurd y n2⟩⟩
    have hp := pair_two (xs := xs) (k := k) (ah := w.ah) (q := ⟨0, m, q.e, q.lo, q.hi⟩) (p := ⟨1, q.s, m, q.lo, q.hi⟩) rfl
    rw [hp, List.forall_mem_append, List.forall_mem_cons, List.forall_mem_singleton, hc _ _ _ (by decide) (by decide), hc _ _ _ (by decide) (by decide)]
    have hs := Low.split (xs := xs) (k := k + 1) (s := q.s) (m := m) (e := q.e) (by omega) (by omega)
    dsimp only
    exact ⟨fun ⟨⟨a, b, c⟩, d⟩ => ⟨a, hs.mpr ⟨c, b⟩, d⟩, fun ⟨a, cb, d⟩ => ⟨⟨a, (hs.mp cb).2, (hs.mp cb).1⟩, d⟩⟩
theorem wake_wk (w : Wk) (q : Pa) : (w.wake q).wk = w.wk ∧ (w.wake q).pl = w.pl ∧ (w.wake q).us = w.us ∧ (w.wake q).re = w.re := by
  unfold Wk.wake
  split <;> exact ⟨rfl, rfl, rfl, rfl⟩
/-- what top and rest of a walk's parts ahead must be -/
structure Sib (ah : List Pa) (p : Pa) : Prop where
  no : ∀ z ∈ ah, z.a ≠ 1
  sib : p.a = 1 → ∃ r q, ah = r ++ [q] ∧ q.a = 0 ∧ q.s = p.e ∧ q.s < q.e ∧ 0 ≤ q.s
def Comp (xs : List Int) (k : Nat) (w : Wk) : Prop := (∀ p ∈ w.wk, CW xs k p) ∧ CAs xs k w.ah
theorem step_iff {xs : List Int} {k : Nat} {w : Wk} {ah : List Pa} {p : Pa} {b : Bool} (hk : w.pl = k) (e : w.ah = ah ++ [p]) (hs : ShA (k + 1) p) (hb : Sib ah p) (he : p.e ≤ (xs.length : Int)) :
    Comp xs k (w.step ah p b) ↔ Comp xs k w ∧ b = ansB xs (k : Int) p := by
  obtain ⟨h0, h1, h2⟩ := hs
  have ek : w.pl.toNat = k := by omega
  have hno := hb.no
  have hpn : Pair xs k ah := pair_none hno
  unfold Wk.step Comp
  rw [e]
  by_cases c3 : p.a = 3
  · rw [if_pos c3, ek]
    dsimp only
    have hsh : ShK (k + 1) p.lo p.hi := by
      rcases h2 with z | z | z
      · exact z.2.2
      · rcases z.1 with y | y <;> rw [c3] at y <;> cases y
      · rw [c3] at z; cases z.1
    have hp : Pair xs k (ah ++ [p]) := pair_no (by rw [c3]; decide)
    unfold CAs
    rw [List.forall_mem_append, List.forall_mem_singleton, fig_iff c3 hsh, List.forall_mem_append, List.forall_mem_singleton]
    exact ⟨fun ⟨⟨a, b, c⟩, d, _⟩ => ⟨⟨a, ⟨d, b⟩, hp⟩, c⟩, fun ⟨⟨a, ⟨d, b⟩, _⟩, c⟩ => ⟨⟨a, b, c⟩, d, hpn⟩⟩
  · rw [if_neg c3]
    by_cases c2 : p.a = 2
    · rw [if_pos c2, ek]
      dsimp only
      have hsh : p.e = p.s + 1 := by
        rcases h2 with z | z | z
        · rw [c2] at z; cases z.1
        · rcases z.1 with y | y <;> rw [c2] at y <;> cases y
        · exact z.2.1
      have hp : Pair xs k (ah ++ [p]) := pair_no (by rw [c2]; decide)
      unfold CAs
      rw [List.forall_mem_append, List.forall_mem_singleton, sig_iff c2 h0 hsh, List.forall_mem_append, List.forall_mem_singleton]
      exact ⟨fun ⟨⟨a, b, c⟩, d, _⟩ => ⟨⟨a, ⟨d, b⟩, hp⟩, c⟩, fun ⟨⟨a, ⟨d, b⟩, _⟩, c⟩ => ⟨⟨a, b, c⟩, d, hpn⟩⟩
    · rw [if_neg c2]
      have hans := ans_big (xs := xs) (k := k) c3 c2 h0 h1 he
      have hca : CA xs k p ↔ Low xs (k + 1) p.s p.e := by
        unfold CA
        exact ⟨fun z => z.2.1 c3, fun z => ⟨fun y => absurd y c3, fun _ => z, fun y => absurd y c2⟩⟩
      cases b with
      | true =>
        rw [if_pos rfl, (wake_wk _ _).1, wake_iff h0 h1 hno, tdec', hans]
        unfold CAs
        rw [List.forall_mem_append, List.forall_mem_singleton, hca]
        constructor
        · rintro ⟨a, d, l, g⟩
          refine ⟨⟨a, ⟨d, l⟩, ?_⟩, g⟩
          by_cases c1 : p.a = 1
          · obtain ⟨r, q, rfl, _, q2, q3, _⟩ := hb.sib c1
            rw [List.append_assoc]
            refine (pair_two c1).mpr ?_
            obtain ⟨i, i1, i2, i3⟩ := g
            exact ⟨i, i1, by omega, i3⟩
          · exact pair_no c1
        · rintro ⟨⟨a, ⟨d, l⟩, _⟩, g⟩
          exact ⟨a, d, l, g⟩
      | false =>
        rw [if_neg (by decide), fdec', hans]
        have hcw : ∀ lo hi : Int, CW xs k ⟨0, p.s, p.e, lo, hi⟩ ↔ Low xs k p.s p.e := by
          intro lo hi
          unfold CW
          dsimp only
          exact ⟨fun z => z.2 rfl, fun z => ⟨fun y => absurd y (by decide), fun _ => z⟩⟩
        have hlb : Low xs k p.s p.e ↔ Low xs (k + 1) p.s p.e ∧ ¬ Big xs k p.s p.e := by
          rw [← not_low, Classical.not_not]
          exact ⟨fun z => ⟨z.mono (by omega), z⟩, fun z => z.2⟩
        unfold Wk.calm
        by_cases c1 : p.a = 1
        · rw [if_pos c1]
          obtain ⟨r, q, rfl, qa, q2, q3, q0⟩ := hb.sib c1
          have hca' : CA xs k q ↔ Low xs (k + 1) q.s q.e := by
            unfold CA
            exact ⟨fun z => z.2.1 (by rw [qa]; decide), fun z => ⟨(fun y => by rw [qa] at y; cases y), fun _ => z, (fun y => by rw [qa] at y; cases y)⟩⟩
          have hpr : Pair xs k (r ++ [q] ++ [p]) ↔ Big xs k p.s q.e := by rw [List.append_assoc]; exact pair_two c1
          have hbs := Big.split (xs := xs) (k := k) (s := p.s) (m := p.e) (e := q.e) (by omega) (by omega)
          rw [(wake_wk _ _).1, wake_iff (by rw [List.getLastD_concat]; exact q0) (by rw [List.getLastD_concat]; exact q3) (by
            dsimp only
            rw [List.dropLast_concat]
            exact fun z hz => hno z (by simp [hz]))]
          unfold Wk.walked CAs
          dsimp only
          rw [List.dropLast_concat, List.getLastD_concat, List.forall_mem_append, List.forall_mem_singleton, hcw, hlb, hpr, hbs, List.forall_mem_append, List.forall_mem_singleton, List.forall_mem_append, List.forall_mem_singleton, hca, hca', ← q2]
          constructor
          · rintro ⟨⟨a, l, n⟩, d, lq, bq⟩
            exact ⟨⟨a, ⟨⟨d, lq⟩, l⟩, .inr bq⟩, n⟩
          · rintro ⟨⟨a, ⟨⟨d, lq⟩, l⟩, pb⟩, n⟩
            exact ⟨⟨a, l, n⟩, d, lq, pb.elim (fun z => absurd z n) id⟩
        · rw [if_neg c1]
          unfold Wk.walked CAs
          dsimp only
          have hp : Pair xs k (ah ++ [p]) := pair_no c1
          rw [List.forall_mem_append, List.forall_mem_singleton, hcw, hlb, List.forall_mem_append, List.forall_mem_singleton, hca]
          exact ⟨fun ⟨⟨a, l, n⟩, d, _⟩ => ⟨⟨a, ⟨d, l⟩, hp⟩, n⟩, fun ⟨⟨a, ⟨d, l⟩, _⟩, n⟩ => ⟨⟨a, l, n⟩, d, hpn⟩⟩
/-! ### a row ends -/
def CompW (xs : List Int) (w : Wk) : Prop := Comp xs w.pl.toNat w
theorem turn_iff {xs : List Int} {w : Wk} (h0 : 0 ≤ w.pl) (ha : w.ah = []) (hk : ∀ p ∈ w.wk, p.a = 0 ∨ p.a = 3) : CompW xs w.turn ↔ CompW xs w := by
  unfold CompW Wk.turn
  split
  · rename_i c
    dsimp only
    obtain ⟨k, hk1⟩ : ∃ k : Nat, w.pl = k + 1 := ⟨(w.pl - 1).toNat, by omega⟩
    rw [hk1, show ((k : Int) + 1 - 1).toNat = k by omega, show ((k : Int) + 1).toNat = k + 1 by omega]
    unfold Comp CAs
    rw [ha]
    have hp : Pair xs k w.wk.reverse := pair_none fun z hz => by
      rcases hk z (by simpa using hz) with y | y <;> rw [y] <;> decide
    have hp2 : Pair xs (k + 1) ([] : List Pa) := pair_none fun z hz => by cases hz
    have hc : ∀ p ∈ w.wk, (CA xs k p ↔ CW xs (k + 1) p) := by
      intro p hp
      unfold CA CW
      rcases hk p hp with y | y
      · rw [y]
        exact ⟨fun z => ⟨z.1, fun _ => z.2.1 (by decide)⟩, fun z => ⟨z.1, fun _ => z.2 rfl, fun y => absurd y (by decide)⟩⟩
      · rw [y]
        exact ⟨fun z => ⟨z.1, fun y => absurd y (by decide)⟩, fun z => ⟨z.1, fun y => absurd rfl y, fun y => absurd y (by decide)⟩⟩
    constructor
    · rintro ⟨_, a, _⟩
      exact ⟨fun p hp => (hc p hp).mp (a p (by simpa using hp)), (fun p hp => by cases hp), hp2⟩
    · rintro ⟨a, _, _⟩
      exact ⟨(fun p hp => by cases hp), fun p hq => (hc p (by simpa using hq)).mpr (a p (by simpa using hq)), hp⟩
  · rename_i c
    dsimp only
    have e : w.pl = 0 := by omega
    rw [e]
    exact Iff.rfl
theorem rowEnd_iff {xs : List Int} {w : Wk} (h0 : 0 ≤ w.pl) (hk : ∀ p ∈ w.wk, p.a = 0 ∨ p.a = 3) : CompW xs w.rowEnd ↔ CompW xs w := by
  unfold Wk.rowEnd
  split
  · rename_i c
    exact turn_iff (w := { w with re := w.re ++ [w.us] }) h0 c hk
  · exact Iff.rfl
/-! ### the shape of a walk -/
/-- the parts lie one behind the other, from a to b -/
def Chain : Int → List Pa → Int → Prop
  | a, [], b => a = b
  | a, p :: ps, b => p.s = a ∧ p.s < p.e ∧ Chain p.e ps b
theorem chain_app {a b : Int} : ∀ {ps qs : List Pa}, Chain a (ps ++ qs) b ↔ ∃ c, Chain a ps c ∧ Chain c qs b
  | [], qs => by
    constructor
    · intro h; exact ⟨a, rfl, h⟩
    · rintro ⟨c, h1, h2⟩; cases (show a = c from h1); exact h2
  | p :: ps, qs => by
    show (p.s = a ∧ p.s < p.e ∧ Chain p.e (ps ++ qs) b) ↔ ∃ c, (p.s = a ∧ p.s < p.e ∧ Chain p.e ps c) ∧ Chain c qs b
    rw [chain_app]
    constructor
    · rintro ⟨h1, h2, c, h3, h4⟩; exact ⟨c, ⟨h1, h2, h3⟩, h4⟩
    · rintro ⟨c, ⟨h1, h2, h3⟩, h4⟩; exact ⟨h1, h2, c, h3, h4⟩
theorem chain_le : ∀ {ps : List Pa} {a b : Int}, Chain a ps b → a + ps.length ≤ b
  | [], a, b, h => by cases (show a = b from h); simp
  | p :: ps, a, b, ⟨h1, h2, h3⟩ => by
    have := chain_le h3
    simp only [List.length_cons]
    omega
theorem chain_mem : ∀ {ps : List Pa} {a b : Int} {p : Pa}, Chain a ps b → p ∈ ps → a ≤ p.s ∧ p.s < p.e ∧ p.e ≤ b
  | q :: ps, a, b, p, ⟨h1, h2, h3⟩, hp => by
    rcases List.mem_cons.mp hp with rfl | hp
    · have := chain_le h3
      exact ⟨by omega, h2, by omega⟩
    · have := chain_mem h3 hp
      exact ⟨by omega, this.2.1, this.2.2⟩
theorem chain_same {a b : Int} {xs ys : List Pa} {p p' : Pa} (h : Chain a (xs ++ p :: ys) b) (hs : p'.s = p.s) (he : p'.e = p.e) : Chain a (xs ++ p' :: ys) b := by
  rw [chain_app] at h ⊢
  obtain ⟨c, h1, h2, h3, h4⟩ := h
  exact ⟨c, h1, by rw [hs]; exact h2, by rw [hs, he]; exact h3, by rw [he]; exact h4⟩
theorem chain_split {a b : Int} {xs ys : List Pa} {p p1 p2 : Pa} (h : Chain a (xs ++ p :: ys) b) (h1 : p1.s = p.s) (h2 : p1.e = p2.s) (h3 : p2.e = p.e) (h4 : p1.s < p1.e) (h5 : p2.s < p2.e) : Chain a (xs ++ p1 :: p2 :: ys) b := by
  rw [chain_app] at h ⊢
  obtain ⟨c, g1, g2, g3, g4⟩ := h
  exact ⟨c, g1, by rw [h1]; exact g2, h4, h2.symm, h5, by rw [h3]; exact g4⟩
/-- well shaped at plane k -/
structure Sh0 (m : Int) (k : Nat) (w : Wk) : Prop where
  ch : Chain 0 (w.wk ++ w.ah.reverse) m
  wk : ∀ p ∈ w.wk, ShW k p
  ah : ∀ p ∈ w.ah, ShA (k + 1) p
  sib : ∀ ah p, w.ah = ah ++ [p] → Sib ah p
theorem sib_no {ah : List Pa} {p : Pa} (hn : ∀ z ∈ ah, z.a ≠ 1) (hp : p.a ≠ 1) : ∀ ah' p', ah ++ [p] = ah' ++ [p'] → Sib ah' p' := fun ah' p' e => by
  obtain ⟨rfl, e2⟩ := List.append_inj' e rfl
  cases e2
  exact ⟨hn, fun z => absurd z hp⟩
theorem sib_all {ah : List Pa} (hn : ∀ z ∈ ah, z.a ≠ 1) : ∀ ah' p', ah = ah' ++ [p'] → Sib ah' p' := fun ah' p' e =>
  ⟨fun z hz => hn z (by rw [e]; simp [hz]), fun z => absurd z (hn p' (by rw [e]; simp))⟩
/-- waking keeps the shape; q stood where it is woken -/
theorem wake_shape {m : Int} {k : Nat} {w : Wk} {q : Pa} (h0 : 0 ≤ q.s) (h1 : q.s < q.e) (hq : q.lo = 1 - 2 ^ (k + 1) ∧ q.hi = 2 ^ (k + 1) - 1) (hc : Chain 0 (w.wk ++ q :: w.ah.reverse) m) (hw : ∀ p ∈ w.wk, ShW k p) (ha : ∀ p ∈ w.ah, ShA (k + 1) p) (hn : ∀ z ∈ w.ah, z.a ≠ 1) : Sh0 m k (w.wake q) := by
  unfold Wk.wake
  split
  · rename_i c
    refine ⟨?_, hw, ?_, ?_⟩
    · show Chain 0 (w.wk ++ (w.ah ++ [_]).reverse) m
      rw [List.reverse_append]
      exact chain_same hc rfl rfl
    · intro p hp
      rcases List.mem_append.mp hp with z | z
      · exact ha p z
      · rw [List.mem_singleton.mp z]
        exact ⟨h0, h1, .inr (.inr ⟨rfl, by show q.e = q.s + 1; omega, hq.1, hq.2⟩)⟩
    · exact sib_no hn (by show ¬ (2 : Int) = 1; decide)
  · rename_i c
    have hm1 : q.s < (q.s + q.e) / 2 := by omega
    have hm2 : (q.s + q.e) / 2 < q.e := by omega
    generalize (q.s + q.e) / 2 = mid at hm1 hm2
    refine ⟨?_, hw, ?_, ?_⟩
    · show Chain 0 (w.wk ++ (w.ah ++ [_, _]).reverse) m
      rw [List.reverse_append]
      exact chain_split hc rfl rfl rfl hm1 hm2
    · intro p hp
      rcases List.mem_append.mp hp with z | z
      · exact ha p z
      · rcases List.mem_cons.mp z with z | z
        · rw [z]; exact ⟨by show 0 ≤ mid; omega, hm2, .inr (.inl ⟨.inl rfl, hq.1, hq.2⟩)⟩
        · rw [List.mem_singleton.mp z]; exact ⟨h0, hm1, .inr (.inl ⟨.inr rfl, hq.1, hq.2⟩)⟩
    · intro ah' p' e
      have e' : (w.ah ++ [⟨0, mid, q.e, q.lo, q.hi⟩]) ++ [⟨1, q.s, mid, q.lo, q.hi⟩] = ah' ++ [p'] := by rw [List.append_assoc]; exact e
      obtain ⟨rfl, e2⟩ := List.append_inj' e' rfl
      cases e2
      refine ⟨fun z hz => ?_, fun _ => ⟨w.ah, _, rfl, rfl, rfl, hm2, by show 0 ≤ mid; omega⟩⟩
      rcases List.mem_append.mp hz with y | y
      · exact hn z y
      · rw [List.mem_singleton.mp y]; show ¬ (0 : Int) = 1; decide
theorem step_shape {m : Int} {k : Nat} {w : Wk} {ah : List Pa} {p : Pa} {b : Bool} (S : Sh0 m k w) (hk : w.pl = k) (e : w.ah = ah ++ [p]) : Sh0 m k (w.step ah p b) := by
  have ek : w.pl.toNat = k := by omega
  have hb := S.sib ah p e
  have hA : ∀ z ∈ ah, ShA (k + 1) z := fun z hz => S.ah z (by rw [e]; simp [hz])
  obtain ⟨h0, h1, h2⟩ := S.ah p (by rw [e]; simp)
  have hc := S.ch
  rw [e, List.reverse_append] at hc
  have hc : Chain 0 (w.wk ++ p :: ah.reverse) m := hc
  have put : ∀ p' : Pa, p'.s = p.s → p'.e = p.e → ShW k p' → Sh0 m k { w with us := w.us + 1, ah := ah, wk := w.wk ++ [p'] } := fun p' hs he hw => by
    refine ⟨?_, fun z hz => ?_, hA, sib_all hb.no⟩
    · show Chain 0 (w.wk ++ [p'] ++ ah.reverse) m
      rw [List.append_assoc]
      exact chain_same hc hs he
    · rcases List.mem_append.mp hz with y | y
      · exact S.wk z y
      · rw [List.mem_singleton.mp y]; exact hw
  unfold Wk.step
  by_cases c3 : p.a = 3
  · rw [if_pos c3, ek]
    have hsh : p.e = p.s + 1 ∧ ShK (k + 1) p.lo p.hi := by
      rcases h2 with z | z | z
      · exact z.2
      · rcases z.1 with y | y <;> rw [c3] at y <;> cases y
      · rw [c3] at z; cases z.1
    have fa : (p.figured k b).a = 3 ∧ (p.figured k b).s = p.s ∧ (p.figured k b).e = p.e := by unfold Pa.figured; split <;> exact ⟨rfl, rfl, rfl⟩
    exact put _ fa.2.1 fa.2.2 ⟨by rw [fa.2.1]; exact h0, by rw [fa.2.1, fa.2.2]; exact h1, .inl ⟨fa.1, by rw [fa.2.1, fa.2.2]; exact hsh.1, (hsh.2.figured).1⟩⟩
  · rw [if_neg c3]
    by_cases c2 : p.a = 2
    · rw [if_pos c2, ek]
      have hsh : p.e = p.s + 1 := by
        rcases h2 with z | z | z
        · rw [c2] at z; cases z.1
        · rcases z.1 with y | y <;> rw [c2] at y <;> cases y
        · exact z.2.1
      have fa : (p.signed k b).a = 3 ∧ (p.signed k b).s = p.s ∧ (p.signed k b).e = p.e := by unfold Pa.signed; split <;> exact ⟨rfl, rfl, rfl⟩
      exact put _ fa.2.1 fa.2.2 ⟨by rw [fa.2.1]; exact h0, by rw [fa.2.1, fa.2.2]; exact h1, .inl ⟨fa.1, by rw [fa.2.1, fa.2.2]; exact hsh, ShK.signed⟩⟩
    · rw [if_neg c2]
      have hcalm : p.lo = 1 - 2 ^ (k + 1) ∧ p.hi = 2 ^ (k + 1) - 1 := by
        rcases h2 with z | z | z
        · exact absurd z.1 c3
        · exact z.2
        · exact absurd z.1 c2
      split
      · exact wake_shape h0 h1 hcalm hc S.wk hA hb.no
      · have hw : ShW k ⟨0, p.s, p.e, 1 - 2 ^ k, 2 ^ k - 1⟩ := ⟨h0, h1, .inr ⟨rfl, rfl, rfl⟩⟩
        unfold Wk.calm
        by_cases c1 : p.a = 1
        · rw [if_pos c1]
          obtain ⟨r, q, rfl, qa, q2, q3, q0⟩ := hb.sib c1
          have hq : q.lo = 1 - 2 ^ (k + 1) ∧ q.hi = 2 ^ (k + 1) - 1 := by
            rcases (hA q (by simp)).2.2 with z | z | z
            · rw [qa] at z; cases z.1
            · exact z.2
            · rw [qa] at z; cases z.1
          unfold Wk.walked
          dsimp only
          rw [List.dropLast_concat, List.getLastD_concat, ek]
          refine wake_shape q0 q3 hq ?_ (fun z hz => ?_) (fun z hz => hA z (by simp [hz])) fun z hz => hb.no z (by simp [hz])
          · show Chain 0 (w.wk ++ [_] ++ q :: r.reverse) m
            rw [List.reverse_append] at hc
            rw [List.append_assoc]
            exact chain_same hc rfl rfl
          · rcases List.mem_append.mp hz with y | y
            · exact S.wk z y
            · rw [List.mem_singleton.mp y]; exact hw
        · rw [if_neg c1]
          unfold Wk.walked
          dsimp only
          rw [ek]
          exact put _ rfl rfl hw
theorem wk_kinds {m : Int} {k : Nat} {w : Wk} (S : Sh0 m k w) : ∀ p ∈ w.wk, p.a = 0 ∨ p.a = 3 := fun p hp => by
  rcases (S.wk p hp).2.2 with z | z
  · exact .inr z.1
  · exact .inl z.1
/-- well shaped between two bits -/
structure Shp (m : Int) (w : Wk) : Prop where
  sh : Sh0 m w.pl.toNat w
  ne : 0 ≤ w.pl → w.ah ≠ []
  wh : w.pl < 0 → w.pl = -1 ∧ w.ah = []
theorem turn_shape {m : Int} {k : Nat} {w : Wk} (hm : 0 < m) (S : Sh0 m k w) (hk : w.pl = k) (ha : w.ah = []) : Shp m w.turn := by
  have hc := S.ch
  rw [ha] at hc
  have hc : Chain 0 (w.wk ++ []) m := hc
  rw [List.append_nil] at hc
  have hne : w.wk ≠ [] := fun z => by
    rw [z] at hc
    have : (0 : Int) = m := hc
    omega
  unfold Wk.turn
  split
  · rename_i c
    obtain ⟨j, rfl⟩ : ∃ j, k = j + 1 := ⟨k - 1, by omega⟩
    have ej : (w.pl - 1).toNat = j := by omega
    refine ⟨?_, fun _ => by simpa using hne, fun z => ?_⟩
    · show Sh0 m (w.pl - 1).toNat _
      rw [ej]
      refine ⟨?_, (fun p hp => by cases hp), fun p hp => ?_, ?_⟩
      · show Chain 0 ([] ++ w.wk.reverse.reverse) m
        rw [List.reverse_reverse]
        exact hc
      · have hw := S.wk p (by simpa using hp)
        refine ⟨hw.1, hw.2.1, ?_⟩
        rcases hw.2.2 with z | z
        · exact .inl z
        · exact .inr (.inl ⟨.inl z.1, z.2⟩)
      · refine sib_all fun z hz => ?_
        rcases wk_kinds S z (by simpa using hz) with y | y <;> rw [y] <;> decide
    · have : w.pl - 1 < 0 := z
      omega
  · rename_i c
    have e0 : k = 0 := by omega
    subst e0
    refine ⟨?_, fun z => ?_, fun _ => ⟨by show w.pl - 1 = -1; omega, ha⟩⟩
    · show Sh0 m (w.pl - 1).toNat _
      rw [show (w.pl - 1).toNat = 0 by omega]
      exact ⟨S.ch, S.wk, S.ah, S.sib⟩
    · have : 0 ≤ w.pl - 1 := z
      omega
theorem rowEnd_shape {m : Int} {k : Nat} {w : Wk} (hm : 0 < m) (S : Sh0 m k w) (hk : w.pl = k) : Shp m w.rowEnd := by
  unfold Wk.rowEnd
  split
  · rename_i c
    exact turn_shape (w := { w with re := w.re ++ [w.us] }) hm ⟨S.ch, S.wk, S.ah, S.sib⟩ hk c
  · rename_i c
    refine ⟨by rw [show w.pl.toNat = k by omega]; exact S, fun _ => c, fun z => by omega⟩
theorem start_shape {m : Int} (hm : 0 < m) (n : Nat) : Shp m (Wk.turn ⟨n, 0, [], [⟨0, 0, m, 1 - 2 ^ n, 2 ^ n - 1⟩], []⟩) := by
  refine turn_shape (k := n) hm ⟨⟨rfl, hm, rfl⟩, fun p hp => ?_, (fun p hp => by cases hp), fun ah p e => ?_⟩ rfl rfl
  · rw [List.mem_singleton.mp hp]
    exact ⟨Int.le_refl 0, hm, .inr ⟨rfl, rfl, rfl⟩⟩
  · have := congrArg List.length e
    simp at this
theorem step_pl {w : Wk} {ah : List Pa} {p : Pa} {b : Bool} : (w.step ah p b).pl = w.pl ∧ (w.step ah p b).us = w.us + 1 ∧ (w.step ah p b).re = w.re := by
  unfold Wk.step Wk.calm Wk.wake Wk.walked
  repeat (any_goals split)
  all_goals exact ⟨rfl, rfl, rfl⟩
theorem start_comp {xs : List Int} {n : Nat} (h : ∀ x ∈ xs, x.natAbs < 2 ^ n) : CompW xs (Wk.turn ⟨n, 0, [], [⟨0, 0, xs.length, 1 - 2 ^ n, 2 ^ n - 1⟩], []⟩) := by
  refine (turn_iff (w := ⟨n, 0, [], [⟨0, 0, xs.length, 1 - 2 ^ n, 2 ^ n - 1⟩], []⟩) (by show 0 ≤ (n : Int); omega) rfl (fun p hp => by rw [List.mem_singleton.mp hp]; exact .inl rfl)).mpr ?_
  unfold CompW
  show Comp xs ((n : Int).toNat) _
  rw [Int.toNat_natCast]
  refine ⟨fun p hp => ?_, (fun p hp => by cases hp), pair_none fun z hz => by cases hz⟩
  rw [List.mem_singleton.mp hp]
  refine ⟨fun z => absurd z (by show ¬ (0 : Int) = 3; decide), fun _ i a b => ?_⟩
  have hi : i < xs.length := by
    have : (i : Int) < (xs.length : Int) := b
    omega
  rw [List.getD_eq_getElem?_getD, List.getElem?_eq_getElem hi]
  exact h _ (List.getElem_mem hi)
/-! ### how many bits are left, at most -/
def phi (p : Pa) : Nat := if p.a = 3 ∨ p.a = 2 then 1 else 3 * (p.e - p.s).toNat - 1
def phis (ps : List Pa) : Nat := (ps.map phi).sum
theorem phis_app (ps qs : List Pa) : phis (ps ++ qs) = phis ps + phis qs := by simp [phis]
theorem phis_one (p : Pa) : phis [p] = phi p := by simp [phis]
theorem phis_rev (ps : List Pa) : phis ps.reverse = phis ps := by
  induction ps with
  | nil => rfl
  | cons p ps ih => rw [List.reverse_cons, phis_app, ih, phis_one]; simp [phis]; omega
theorem phi_pos {p : Pa} (h : p.s < p.e) : 1 ≤ phi p := by
  unfold phi
  split <;> omega
theorem phi_le {p : Pa} (h : p.s < p.e) : phi p ≤ 3 * (p.e - p.s).toNat := by
  unfold phi
  split <;> omega
theorem phis_chain : ∀ {ps : List Pa} {a b : Int}, Chain a ps b → (phis ps : Int) ≤ 3 * (b - a)
  | [], a, b, h => by cases (show a = b from h); simp [phis]
  | p :: ps, a, b, ⟨h1, h2, h3⟩ => by
    have ih := phis_chain h3
    have hp := phi_le h2
    have e : phis (p :: ps) = phi p + phis ps := by simp [phis]
    rw [e]
    omega
theorem wake_phi {w : Wk} {q : Pa} (h1 : q.s < q.e) (h3 : q.a ≠ 3) (h2 : q.a ≠ 2) : phis (w.wake q).ah + 1 ≤ phis w.ah + phi q := by
  have hq : phi q = 3 * (q.e - q.s).toNat - 1 := by
    unfold phi
    rw [if_neg (by rintro (z | z); exact h3 z; exact h2 z)]
  unfold Wk.wake
  split
  · dsimp only
    rw [phis_app, phis_one, hq]
    show phis w.ah + 1 + 1 ≤ _
    omega
  · rename_i c
    dsimp only
    have hm1 : q.s < (q.s + q.e) / 2 := by omega
    have hm2 : (q.s + q.e) / 2 < q.e := by omega
    generalize (q.s + q.e) / 2 = m at hm1 hm2
    have e : phis [(⟨0, m, q.e, q.lo, q.hi⟩ : Pa), ⟨1, q.s, m, q.lo, q.hi⟩] = (3 * (q.e - m).toNat - 1) + (3 * (m - q.s).toNat - 1) := by
      simp [phis, phi]
    rw [phis_app, e, hq]
    omega
theorem step_phi {m : Int} {k : Nat} {w : Wk} {ah : List Pa} {p : Pa} {b : Bool} (S : Sh0 m k w) (e : w.ah = ah ++ [p]) : phis (w.step ah p b).ah + 1 ≤ phis w.ah := by
  have hb := S.sib ah p e
  obtain ⟨h0, h1, _⟩ := S.ah p (by rw [e]; simp)
  have hp := phi_pos h1
  rw [e, phis_app, phis_one]
  unfold Wk.step
  split
  · show phis ah + 1 ≤ _; omega
  · rename_i c3
    split
    · show phis ah + 1 ≤ _; omega
    · rename_i c2
      split
      · exact wake_phi (w := { w with us := w.us + 1, ah := ah }) h1 c3 c2
      · unfold Wk.calm
        split
        · rename_i c1
          obtain ⟨r, q, rfl, qa, q2, q3, q0⟩ := hb.sib c1
          unfold Wk.walked
          dsimp only
          rw [List.dropLast_concat, List.getLastD_concat, phis_app, phis_one]
          refine Nat.le_trans (wake_phi q3 (by rw [qa]; decide) (by rw [qa]; decide)) ?_
          show phis r + phi q ≤ _
          omega
        · show phis ah + 1 ≤ _; omega
def mu (m : Nat) (w : Wk) : Nat := if w.pl < 0 then 0 else 3 * m * w.pl.toNat + phis w.ah
theorem rowEnd_mu {m k : Nat} {w : Wk} (S : Sh0 m k w) (hk : w.pl = k) : mu m w.rowEnd ≤ 3 * m * k + phis w.ah := by
  unfold Wk.rowEnd
  split
  · rename_i c
    unfold Wk.turn
    split
    · rename_i c2
      obtain ⟨j, rfl⟩ : ∃ j, k = j + 1 := ⟨k - 1, by have : w.pl - 1 ≥ 0 := c2; omega⟩
      unfold mu
      dsimp only
      rw [if_neg (by omega), phis_rev, show (w.pl - 1).toNat = j by omega]
      have hc := S.ch
      rw [c] at hc
      have hc : Chain 0 (w.wk ++ []) m := hc
      rw [List.append_nil] at hc
      have := phis_chain hc
      have e : 3 * m * (j + 1) = 3 * m * j + 3 * m := by rw [Nat.mul_succ]
      omega
    · rename_i c2
      unfold mu
      dsimp only
      rw [if_pos (by have : ¬ w.pl - 1 ≥ 0 := c2; omega)]
      omega
  · unfold mu
    rw [if_neg (by omega), show w.pl.toNat = k by omega]
    exact Nat.le_refl _

/-! ### what a walk finds -/
/-- from w the bits bs lead to v -/
inductive Fol : Wk → List Bool → Wk → Prop
  | nil {w : Wk} : Fol w [] w
  | whole {w : Wk} {b : Bool} {bs : List Bool} (h : w.pl < 0) : Fol w (b :: bs) w
  | step {w v : Wk} {ah : List Pa} {p : Pa} {b : Bool} {bs : List Bool} (h : 0 ≤ w.pl) (h5 : w.pl ≤ 5000) (hf : w.fits) (e : w.ah = ah ++ [p]) (h1 : p.a = 1 → b = false → ah ≠ []) (t : Fol ((w.step ah p b).rowEnd) bs v) : Fol w (b :: bs) v
def Pa.sp (p : Pa) : D := .tup [.int p.lo, .int p.hi]
def spansOf (w : Wk) : List D := (w.wk ++ w.ah.reverse).flatMap fun p => List.replicate (p.e - p.s).toNat p.sp

/-! ### follow, spans, read -/
def sp_Walk_follow : DMo := fun ts ds P => ∃ (w v : Wk) (bs : List Bool), ts = w.ts ∧ ds = [.str (strOf bs)] ∧ Fol w bs v ∧ P v.ts
def sp_Walk_spans : DSp := fun ds P => ∃ w : Wk, ds = [.obj "Walk" ns_Walk (OV.vals w.ts)] ∧ w.wk.length < 400000 ∧ w.ah.length < 400000 ∧ (spansOf w).length ≤ 900000 ∧ (∀ p ∈ w.wk ++ w.ah, 0 ≤ p.e - p.s ∧ p.e - p.s ≤ 100000) ∧ P (.nl ((spansOf w).map .fz))
def sp_followed : DSp := fun ds P => ∃ (bs : List Bool) (m : Int) (n : Nat) (v : Wk), ds = [.str (strOf bs), .int m, .int n] ∧ n ≤ 5000 ∧ Fol (Wk.turn ⟨n, 0, [], [⟨0, 0, m, 1 - 2 ^ n, 2 ^ n - 1⟩], []⟩) bs v ∧ P (.ob none "Walk" ns_Walk v.ts)
abbrev s_Walk_follow : Stmt := inClass (top 14) 5
theorem sc_Walk_follow : FnScope ["self", "bits", "bit"] ["self", "bits"] (defScope s_Walk_follow) := ⟨rfl, rfl, rfl, by decide +kernel, rfl, by decide +kernel, by decide +kernel⟩
abbrev s_Walk_spans : Stmt := inClass (top 14) 4
theorem sc_Walk_spans : FnScope ["self", "found", "part"] ["self"] (defScope s_Walk_spans) := ⟨rfl, rfl, rfl, by decide +kernel, rfl, by decide +kernel, by decide +kernel⟩
abbrev s_followed : Stmt := top 16
theorem sc_followed : FnScope ["bits", "many", "planes", "walk"] ["bits", "many", "planes"] (defScope s_followed) := ⟨rfl, rfl, rfl, by decide +kernel, rfl, by decide +kernel, by decide +kernel⟩
theorem ok_Walk_follow {f : Addr} {fd : FuncData} (Df : MetAt K "Walk" "follow" "Walk.follow" s_Walk_follow f fd) (B : BltV mg) (KV : KitV K) (CV_Walk : ClsV K "Walk" ns_Walk) (c_Walk_is_whole : CalM P w K mg base "Walk" "is_whole" 1 ["self"] (spV K 1 sp_Walk_is_whole)) (c_Walk_take : CalM P w K mg base "Walk" "take" 4 ["self", "told"] (spM K 2 "Walk" ns_Walk sp_Walk_take)) :
    CalM P w K mg base "Walk" "follow" 5 ["self", "bits"] (spM K 2 "Walk" ns_Walk sp_Walk_follow) := by
  refine CalM.of Df sc_Walk_follow (fun _ _ _ _ _ _ us hl => match us, hl with | [_, _], _ => rfl) rfl (fun cdv A outer s H E hr => ⟨_, _, (pss_one (ps_for PassesOwn.never rfl (pi_str (pv 1)) (pg_name (i := 2) sc_Walk_follow.nd rfl (Or.inl rfl)) (pss_cons (ps_if (pt_val (pe_metN0 c_Walk_is_whole (hr.mono (by decide)) (pv 0))) (pss_one ps_break) pss_nil)
      (pss_one (ps_expr (pe_metN c_Walk_take (hr.mono (by decide)) (pv 0) (pa_cons (pe_cmpR op_eq (pv 2) pe_str (nomark _)) pa_nil))))))),
    (sS_for (sI_str sB_var) sG_name (sS_seq (sS_if (sT_b (sF_o (sO_methP CV_Walk (by decide +kernel) sB_var sAB_nil))) sS_break sS_next)
      (sS_meth CV_Walk (by decide +kernel) (sAF_cons (sF_op oS_eq sB_var (sB_f sF_str)) sAF_nil)))), ?_⟩)
  rintro a ts ds Pr ⟨w, v, bs, rfl, rfl, hF, h⟩
  walk_at "v"
  rw [sgns_strOf, List.map_map]
  refine ⟨fun i δ => ∃ (w' : Wk) (o : Option Sl), Fol w' (bs.drop i) v ∧ δ = [some (.own (.ob (some a) "Walk" ns_Walk w'.ts)), vD (.str (strOf bs)), o], ⟨w, none, hF, rfl⟩, ?_, ?_⟩
  · rintro i d δ hd ⟨w', o, hF', rfl⟩
    obtain ⟨b, hb, rfl⟩ := mget hd
    have hi := (List.getElem?_eq_some_iff.mp hb).1
    have hdr : bs.drop i = b :: bs.drop (i + 1) := by
      rw [List.drop_eq_getElem_cons hi]
      rw [List.getElem?_eq_getElem hi] at hb
      rw [Option.some.inj hb]
    rw [hdr] at hF'
    simp only [gN, Function.comp, List.set_cons_succ, List.set_cons_zero]
    walk_at "s"
    refine ⟨w', by rw [OV.vals_eq], ?_⟩
    walk_at "v"
    cases hF' with
    | whole hl =>
      rw [if_pos hl]
      exact h
    | @step _ _ ah p _ _ h0 h5 hf e h1 t =>
      rw [if_neg (by omega)]
      walk_at "n"
      walk_at "v"
      refine ⟨w', ah, p, b, rfl, hf, by rw [bitS_one], e, h0, h5, h1, ?_⟩
      exact ⟨_, _, t, rfl⟩
  · rintro δ ⟨w', o, hF', rfl⟩
    rw [List.length_map, List.drop_length] at hF'
    cases hF'
    exact ⟨_, rfl, h⟩
theorem ok_Walk_spans {f : Addr} {fd : FuncData} (Df : MetAt K "Walk" "spans" "Walk.spans" s_Walk_spans f fd) (B : BltV mg) (KV : KitV K) (CV_Walk : ClsV K "Walk" ns_Walk) (g_SPAN : ∃ t, mg "SPAN" = some (.int 3 t)) (g_END : ∃ t, mg "END" = some (.int 2 t)) (g_START : ∃ t, mg "START" = some (.int 1 t)) :
    CalM P w K mg base "Walk" "spans" 1 ["self"] (spV K 1 sp_Walk_spans) := by
  refine CalP.of Df sc_Walk_spans (fun _ _ _ _ _ _ us hl => match us, hl with | [_], _ => rfl) rfl (fun cdv A outer s H E hr => ⟨_, _, (pss_cons (ps_set (i := 1) sc_Walk_spans.nd rfl (Or.inl rfl) (pe_lstS pa_nil))
      (pss_cons (ps_for PassesOwn.never rfl (pi_list (pe_op op_catS (pe_fld (pv 0) rfl) (pe_listRev rfl B.list rfl B.reversed (pa_cons (pe_fld (pv 0) rfl) pa_nil)))) (pg_name (i := 2) sc_Walk_spans.nd rfl (Or.inl rfl)) (pss_one (ps_expr (pe_bm PySem.F.plainAttrs_list PySem.F.slot_list_extend PySem.F.type_list_extend mt_extendS (pv 1) (pa_cons (pe_op op_rep (pe_lstS (pa_cons (pe_ix ix_tup (pv 2) (pe_globI (by rfl) g_SPAN) (fun _ _ => rfl)) pa_nil)) (pe_op op_sub (pe_ix ix_tup (pv 2) (pe_globI (by rfl) g_END) (fun _ _ => rfl)) (pe_ix ix_tup (pv 2) (pe_globI (by rfl) g_START) (fun _ _ => rfl)))) pa_nil)))))
      (pss_one (ps_ret (pv 1))))),
    (sS_seq (sS_set (sO_lst sAO_nil))
      (sS_seq (sS_for (sI_list (sF_o (sO_catB (sB_fld (j := 3) CV_Walk (by rfl) sB_var) (sB_f (sF_o (sO_listRev (sAB_cons (sB_fld (j := 4) CV_Walk (by rfl) sB_var) sAB_nil))))))) sG_name (sS_ext (sF_o (sO_rep1 (sO_lst (sAO_cons (sO_f (sF_opF oF_ixT sF_var sF_int)) sAO_nil)) (sB_f (sF_op oS_i0 (sB_op (OpF.b oF_ixT) sB_var (sB_f sF_int)) (sB_op (OpF.b oF_ixT) sB_var (sB_f sF_int))))))))
      sS_retV)), ?_⟩)
  rintro ds Pr ⟨w, rfl, h1, h2, h3, h4, h⟩
  unfold Wk.ts
  walk_at "s"
  walk_at "n"
  walk_at "s"
  rw [pa_vals, pa_vals]
  have vf : ∀ l : List D, List.map OV.val (List.map OV.fz l) = l := fun l => by
    rw [List.map_map]
    exact List.map_id l
  simp only [vf]
  rw [← List.map_reverse, ← List.map_append]
  refine ⟨pa_lfs _, by omega, pa_lfs _, pa_lfs _, by simp; omega, ?_⟩
  have h4' : ∀ p ∈ w.wk ++ w.ah.reverse, 0 ≤ p.e - p.s ∧ p.e - p.s ≤ 100000 := fun p hp => h4 p (by simpa using hp)
  unfold spansOf at h h3
  generalize w.wk ++ w.ah.reverse = ps at h h3 h4'
  refine ⟨fun i δ => ∃ (o : Option Sl), δ = [some (Sl.own (OV.fz (D.obj (Str.ofString "Walk") ns_Walk [D.int w.pl, D.int w.us, D.lst (List.map D.int w.re), D.lst (List.map Pa.d w.wk), D.lst (List.map Pa.d w.ah)]))), some (Sl.own (OV.nl (((ps.take i).flatMap fun p => List.replicate (p.e - p.s).toNat p.sp).map .fz))), o], ⟨none, rfl⟩, ?_, ?_⟩
  · rintro i d δ hd ⟨o, rfl⟩
    obtain ⟨p, hp, rfl⟩ := mget hd
    have hi := (List.getElem?_eq_some_iff.mp hp).1
    rw [pa_eta]
    simp only [gN, List.set_cons_succ, List.set_cons_zero]
    walk_at "v"
    have hb := h4' p (List.mem_of_getElem? hp)
    have hle : ((ps.take i).flatMap fun p => List.replicate (p.e - p.s).toNat p.sp).length ≤ 900000 := by
      refine Nat.le_trans ?_ h3
      rw [← List.take_append_drop i ps, List.flatMap_append, List.length_append]
      simp
    refine ⟨⟨hb.1, by omega⟩, by rw [List.length_replicate]; omega, some (Sl.own (OV.fz (D.tup [D.int p.a, D.int p.s, D.int p.e, D.tup [D.int p.lo, D.int p.hi]]))), ?_⟩
    have ht : ps.take (i + 1) = ps.take i ++ [p] := by rw [List.take_add_one, hp]; rfl
    rw [ht, List.flatMap_append, List.map_append, List.map_replicate]
    simp only [List.flatMap_cons, List.flatMap_nil, List.append_nil, List.map_replicate]
    rfl
  · rintro δ ⟨o, rfl⟩
    walk_at "n"
    walk_at "v"
    rw [List.take_length]
    exact h
theorem ok_followed {f : Addr} {fd : FuncData} (Df : DefAt K mg "followed" s_followed f fd) (B : BltV mg) (KV : KitV K) (CV_Walk : ClsV K "Walk" ns_Walk) (c_Walk___init__ : CalK P w K mg base "Walk" 2 ["self", "many", "planes"] (spM K 3 "Walk" ns_Walk sp_Walk___init__)) (c_Walk_follow : CalM P w K mg base "Walk" "follow" 5 ["self", "bits"] (spM K 2 "Walk" ns_Walk sp_Walk_follow)) :
    Cal P w K mg base "followed" 6 ["bits", "many", "planes"] (spV K 3 sp_followed) := by
  refine CalV.of Df sc_followed (fun _ _ _ _ _ _ us hl => match us, hl with | [_, _, _], _ => rfl) rfl (fun cdv A outer s H E hr => ⟨_, _, (pss_cons (ps_set (i := 3) sc_followed.nd rfl (Or.inl rfl) (pe_makN c_Walk___init__ (hr.mono (by decide)) (by rfl) (pa_cons (pv 1) (pa_cons (pv 2) pa_nil))))
      (pss_cons (ps_expr (pe_metN c_Walk_follow (hr.mono (by decide)) (pv 3) (pa_cons (pv 0) pa_nil)))
      (pss_one (ps_ret (pv 3))))),
    (sS_seq (sS_set (sO_make CV_Walk (sAF_cons sF_var (sAF_cons sF_var sAF_nil))))
      (sS_seq (sS_meth CV_Walk (by decide +kernel) (sAF_cons sF_var sAF_nil))
      sS_retV)), ?_⟩)
  rintro ds Pr ⟨bs, m, n, v, rfl, hn, hF, h⟩
  walk_at "s"
  refine ⟨m, n, rfl, rfl, hn, ?_⟩
  walk_at "n"
  walk_at "s"
  refine ⟨_, v, bs, rfl, rfl, hF, ?_⟩
  walk_at "n"
  walk_at "v"
  exact h
def sp_read : DSp := fun ds P => ∃ (bs : List Bool) (m : Int) (n : Nat) (v : Wk), ds = [.str (strOf bs), .int m, .int n] ∧ n ≤ 5000 ∧ Fol (Wk.turn ⟨n, 0, [], [⟨0, 0, m, 1 - 2 ^ n, 2 ^ n - 1⟩], []⟩) bs v ∧ v.wk.length < 400000 ∧ v.ah.length < 400000 ∧ (spansOf v).length ≤ 900000 ∧ (∀ p ∈ v.wk ++ v.ah, 0 ≤ p.e - p.s ∧ p.e - p.s ≤ 100000) ∧
  P (.fz (.tup [.lst (spansOf v), .int v.us, .bl (decide (v.pl < 0))]))
abbrev s_read : Stmt := top 17
theorem sc_read : FnScope ["bits", "many", "planes", "walk"] ["bits", "many", "planes"] (defScope s_read) := ⟨rfl, rfl, rfl, by decide +kernel, rfl, by decide +kernel, by decide +kernel⟩
theorem ok_read {f : Addr} {fd : FuncData} (Df : DefAt K mg "read" s_read f fd) (B : BltV mg) (KV : KitV K) (CV_Walk : ClsV K "Walk" ns_Walk) (c_followed : Cal P w K mg base "followed" 6 ["bits", "many", "planes"] (spV K 3 sp_followed)) (c_Walk_spans : CalM P w K mg base "Walk" "spans" 1 ["self"] (spV K 1 sp_Walk_spans)) (c_Walk_is_whole : CalM P w K mg base "Walk" "is_whole" 1 ["self"] (spV K 1 sp_Walk_is_whole)) :
    Cal P w K mg base "read" 7 ["bits", "many", "planes"] (spV K 3 sp_read) := by
  refine CalV.of Df sc_read (fun _ _ _ _ _ _ us hl => match us, hl with | [_, _, _], _ => rfl) rfl (fun cdv A outer s H E hr => ⟨_, _, (pss_cons (ps_set (i := 3) sc_read.nd rfl (Or.inl rfl) (pe_cal c_followed (hr.mono (by decide)) (by rfl) (pa_cons (pv 0) (pa_cons (pv 1) (pa_cons (pv 2) pa_nil)))))
      (pss_one (ps_ret (pe_tupS (pa_cons (pe_metN0 c_Walk_spans (hr.mono (by decide)) (pv 3)) (pa_cons (pe_fld (pv 3) rfl) (pa_cons (pe_metN0 c_Walk_is_whole (hr.mono (by decide)) (pv 3)) pa_nil))))))),
    (sS_seq (sS_set (sO_call (sAF_cons sF_var (sAF_cons sF_var (sAF_cons sF_var sAF_nil)))))
      (sS_ret (sO_f (sF_tup (sAF_cons (sF_o (sO_methP CV_Walk (by decide +kernel) sB_var sAB_nil)) (sAF_cons (sF_lf (sB_fld (j := 1) CV_Walk (by rfl) sB_var)) (sAF_cons (sF_o (sO_methP CV_Walk (by decide +kernel) sB_var sAB_nil)) sAF_nil))))))), ?_⟩)
  rintro ds Pr ⟨bs, m, n, v, rfl, hn, hF, h1, h2, h3, h4, h⟩
  walk_at "s"
  refine ⟨bs, m, n, v, rfl, hn, hF, ?_⟩
  walk_at "n"
  walk_at "v"
  refine ⟨v, by rw [OV.vals_eq], h1, h2, h3, h4, ?_⟩
  have hlf : OV.lf (.nl ((spansOf v).map OV.fz)) = true := by
    show OV.lfs _ = true
    rw [OV.lfs_eq, List.all_eq_true]
    intro t ht
    obtain ⟨d, hd, rfl⟩ := List.mem_map.mp ht
    unfold spansOf at hd
    obtain ⟨p, _, hp⟩ := List.mem_flatMap.mp hd
    rw [(List.mem_replicate.mp hp).2]
    simp [Pa.sp, OV.lf, D.lf, D.lfs]
  refine ⟨hlf, _, rfl, rfl, v, by rw [OV.vals_eq], rfl, ?_⟩
  have ev : OV.val (.nl ((spansOf v).map OV.fz)) = .lst (spansOf v) := by
    show D.lst (OV.vals _) = _
    rw [fzs_val]
  rw [ev]
  exact h

/-! ### every walk comes to its end -/
theorem rowEnd_us {w : Wk} : w.rowEnd.us = w.us ∧ w.rowEnd.re.length ≤ w.re.length + 1 ∧ w.rowEnd.pl ≤ w.pl ∧ (w.rowEnd.re.length : Int) + w.rowEnd.pl ≤ w.re.length + w.pl := by
  unfold Wk.rowEnd
  split
  · unfold Wk.turn
    split
    · refine ⟨rfl, by simp, by show w.pl - 1 ≤ w.pl; omega, ?_⟩
      show (((w.re ++ [w.us]).length : Nat) : Int) + (w.pl - 1) ≤ _
      rw [List.length_append, List.length_singleton]; omega
    · refine ⟨rfl, by simp, by show w.pl - 1 ≤ w.pl; omega, ?_⟩
      show (((w.re ++ [w.us]).length : Nat) : Int) + (w.pl - 1) ≤ _
      rw [List.length_append, List.length_singleton]; omega
  · exact ⟨rfl, by omega, Int.le_refl _, Int.le_refl _⟩
theorem shp_fits {m : Nat} {w : Wk} (S : Shp m w) (hm : m < 400000) (hr : w.re.length < 900000) : w.fits := by
  have := chain_le S.sh.ch
  rw [List.length_append, List.length_reverse] at this
  exact ⟨hr, by omega, by omega⟩
theorem tell_run {xs : List Int} {m : Nat} (hx : xs.length = m) (hm0 : 0 < m) (hm : m < 400000) : ∀ (N : Nat) (w : Wk), mu m w ≤ N → Shp m w → CompW xs w → w.pl ≤ 5000 → (w.re.length : Int) + w.pl < 800000 →
    ∃ bs v, Tell xs w bs ∧ Fol w bs v ∧ v.pl < 0 ∧ Shp m v ∧ CompW xs v ∧ bs.length ≤ mu m w ∧ v.us = w.us + bs.length := by
  intro N
  induction N with
  | zero =>
    intro w hN S C h5 hr
    by_cases hp : w.pl < 0
    · exact ⟨[], w, .done hp, .nil, hp, S, C, Nat.zero_le _, by simp⟩
    · exfalso
      obtain ⟨ah, p, e⟩ : ∃ ah p, w.ah = ah ++ [p] := ⟨_, _, (List.dropLast_concat_getLast (S.ne (by omega))).symm⟩
      have := step_phi (b := true) S.sh e
      unfold mu at hN
      rw [if_neg hp] at hN
      omega
  | succ N ih =>
    intro w hN S C h5 hr
    by_cases hp : w.pl < 0
    · exact ⟨[], w, .done hp, .nil, hp, S, C, Nat.zero_le _, by simp⟩
    · obtain ⟨k, hk⟩ : ∃ k : Nat, w.pl = k := ⟨w.pl.toNat, by omega⟩
      have ek : w.pl.toNat = k := by omega
      obtain ⟨ah, p, e⟩ : ∃ ah p, w.ah = ah ++ [p] := ⟨_, _, (List.dropLast_concat_getLast (S.ne (by omega))).symm⟩
      have S0 : Sh0 m k w := ek ▸ S.sh
      have hA := S0.ah p (by rw [e]; simp)
      have hmem := chain_mem (p := p) S0.ch (by rw [e]; simp)
      have hB := S0.sib ah p e
      have S1 := step_shape (b := ansB xs (k : Int) p) S0 hk e
      obtain ⟨q1, q2, q3⟩ := step_pl (w := w) (ah := ah) (p := p) (b := ansB xs (k : Int) p)
      have hk1 : (w.step ah p (ansB xs (k : Int) p)).pl = k := by rw [q1]; exact hk
      have S2 := rowEnd_shape (by omega) S1 hk1
      have C1 : Comp xs k (w.step ah p (ansB xs (k : Int) p)) := (step_iff hk e hA hB (by rw [hx]; exact hmem.2.2)).mpr ⟨by unfold CompW at C; rw [ek] at C; exact C, rfl⟩
      have C2 : CompW xs (w.step ah p (ansB xs (k : Int) p)).rowEnd := (rowEnd_iff (by rw [hk1]; omega) (wk_kinds S1)).mpr (by unfold CompW; rw [hk1, Int.toNat_natCast]; exact C1)
      obtain ⟨r1, r2, r3, r4⟩ := rowEnd_us (w := w.step ah p (ansB xs (k : Int) p))
      have hmu := rowEnd_mu S1 hk1
      have hphi := step_phi (b := ansB xs (k : Int) p) S0 e
      have hw : mu m w = 3 * m * k + phis w.ah := by unfold mu; rw [if_neg hp, ek]
      rw [q1] at r3
      rw [q1, q3] at r4
      obtain ⟨bs, v, t1, t2, t3, t4, t5, t6, t7⟩ := ih _ (by omega) S2 C2 (by omega) (by omega)
      have hf := shp_fits S hm (by omega)
      have hone : p.a = 1 → ansB xs (k : Int) p = false → ah ≠ [] := fun z _ => by
        obtain ⟨r, q, er, _⟩ := hB.sib z
        rw [er]; simp
      refine ⟨ansB xs (k : Int) p :: bs, v, ?_, ?_, t3, t4, t5, ?_, ?_⟩
      · have := Tell.step (xs := xs) (w := w) (ah := ah) (p := p) (bs := bs) (by omega) h5 hf e ⟨hmem.1, hmem.2.1, by rw [hx]; exact hmem.2.2⟩ (by rw [hk]; exact hone) (by rw [hk]; exact t1)
        rw [hk] at this
        exact this
      · exact Fol.step (by omega) h5 hf e hone t2
      · rw [List.length_cons]; omega
      · rw [t7, r1, q2, List.length_cons]; omega
/-! ### the end: every number is known -/
def dot (x : Int) : D := .tup [.int x, .int x]
theorem part_end {xs : List Int} {p : Pa} (hs : ShW 0 p) (hc : CW xs 0 p) (he : p.e ≤ (xs.length : Int)) : List.replicate (p.e - p.s).toNat p.sp = ((xs.drop p.s.toNat).take (p.e - p.s).toNat).map dot := by
  obtain ⟨h0, h1, h2⟩ := hs
  have hl : ((xs.drop p.s.toNat).take (p.e - p.s).toNat).length = (p.e - p.s).toNat := by
    rw [List.length_take, List.length_drop]; omega
  have key : ∀ x ∈ (xs.drop p.s.toNat).take (p.e - p.s).toNat, p.sp = dot x := by
    intro x hx
    obtain ⟨i, hi⟩ := List.mem_iff_getElem?.mp hx
    have hil := (List.getElem?_eq_some_iff.mp hi).1
    rw [hl] at hil
    rw [List.getElem?_take_of_lt hil, List.getElem?_drop] at hi
    have hg : xs.getD (p.s.toNat + i) 0 = x := by rw [List.getD_eq_getElem?_getD, hi]; rfl
    unfold Pa.sp dot
    rcases h2 with ⟨a3, ae, ⟨a1, _⟩⟩ | ⟨a0, a1, a2⟩
    · obtain ⟨c1, c2⟩ := hc.1 a3
      have hi0 : i = 0 := by omega
      subst hi0
      rw [Nat.add_zero] at hg
      rw [hg] at c1 c2
      have : p.hi - p.lo = 0 := by simpa using a1
      rw [show p.lo = x by omega, show p.hi = x by omega]
    · have := hc.2 a0 (p.s.toNat + i) (by omega) (by omega)
      rw [hg] at this
      have hx0 : x = 0 := by
        have : x.natAbs < 1 := by simpa using this
        omega
      rw [a1, a2, hx0]
      rfl
  refine List.ext_getElem? fun i => ?_
  by_cases hi : i < (p.e - p.s).toNat
  · have hlt : i < ((xs.drop p.s.toNat).take (p.e - p.s).toNat).length := by rw [hl]; exact hi
    rw [List.getElem?_replicate, if_pos hi, List.getElem?_map, List.getElem?_eq_getElem hlt, key _ (List.getElem_mem hlt)]
    rfl
  · rw [List.getElem?_eq_none (by rw [List.length_replicate]; omega), List.getElem?_eq_none (by rw [List.length_map]; omega)]
theorem chain_end {xs : List Int} : ∀ {ps : List Pa} {a b : Int}, Chain a ps b → 0 ≤ a → b ≤ (xs.length : Int) → (∀ p ∈ ps, ShW 0 p ∧ CW xs 0 p) → (ps.flatMap fun p => List.replicate (p.e - p.s).toNat p.sp) = ((xs.drop a.toNat).take (b - a).toNat).map dot
  | [], a, b, h, _, _, _ => by cases (show a = b from h); simp
  | p :: ps, a, b, ⟨h1, h2, h3⟩, h0, hb, hk => by
    have hle := chain_le h3
    have hp := hk p (by simp)
    rw [List.flatMap_cons, chain_end h3 (by omega) hb (fun q hq => hk q (by simp [hq])), part_end hp.1 hp.2 (by omega), ← List.map_append]
    subst h1
    congr 1
    have e1 : (b - p.s).toNat = (p.e - p.s).toNat + (b - p.e).toNat := by omega
    have e2 : p.e.toNat = p.s.toNat + (p.e - p.s).toNat := by omega
    rw [e1, List.take_add, List.drop_drop, ← e2]
theorem spans_end {xs : List Int} {m : Nat} {v : Wk} (hx : xs.length = m) (S : Shp m v) (C : CompW xs v) (h : v.pl < 0) : spansOf v = xs.map dot := by
  obtain ⟨h1, h2⟩ := S.wh h
  have e0 : v.pl.toNat = 0 := by omega
  have S0 := S.sh
  rw [e0] at S0
  unfold CompW at C
  rw [e0] at C
  have hc := S0.ch
  rw [h2] at hc
  unfold spansOf
  rw [h2]
  have := chain_end (xs := xs) hc (by omega) (by omega) (fun p hp => by
    have hp : p ∈ v.wk := by simpa using hp
    exact ⟨S0.wk p hp, C.1 p hp⟩)
  rw [this]
  congr 1
  rw [show ((m : Int) - 0).toNat = xs.length by omega]
  simp
theorem chain_len : ∀ {ps : List Pa} {a b : Int}, Chain a ps b → (ps.flatMap fun p => List.replicate (p.e - p.s).toNat p.sp).length = (b - a).toNat
  | [], a, b, h => by cases (show a = b from h); simp
  | p :: ps, a, b, ⟨h1, h2, h3⟩ => by
    have hle := chain_le h3
    rw [List.flatMap_cons, List.length_append, chain_len h3, List.length_replicate]
    omega
theorem shp_small {m : Nat} {w : Wk} (S : Shp m w) (hm : m ≤ 100000) : w.wk.length < 400000 ∧ w.ah.length < 400000 ∧ (spansOf w).length = m ∧ ∀ p ∈ w.wk ++ w.ah, 0 ≤ p.e - p.s ∧ p.e - p.s ≤ 100000 := by
  have h1 := chain_le S.sh.ch
  rw [List.length_append, List.length_reverse] at h1
  refine ⟨by omega, by omega, by unfold spansOf; rw [chain_len S.sh.ch]; omega, fun p hp => ?_⟩
  have := chain_mem (p := p) S.sh.ch (by simpa using hp)
  omega
theorem fol_app {w v : Wk} {bs cs : List Bool} (h : Fol w bs v) (hv : v.pl < 0) : Fol w (bs ++ cs) v := by
  induction h with
  | nil =>
    cases cs with
    | nil => exact .nil
    | cons c cs => exact .whole hv
  | whole h => exact .whole h
  | step h h5 hf e h1 t ih => exact .step h h5 hf e h1 (ih hv)
theorem start_facts (m n : Nat) : (Wk.turn ⟨n, 0, [], [⟨0, 0, m, 1 - 2 ^ n, 2 ^ n - 1⟩], []⟩).pl = n - 1 ∧ (Wk.turn ⟨n, 0, [], [⟨0, 0, m, 1 - 2 ^ n, 2 ^ n - 1⟩], []⟩).re = [] ∧ (Wk.turn ⟨n, 0, [], [⟨0, 0, m, 1 - 2 ^ n, 2 ^ n - 1⟩], []⟩).us = 0 ∧ mu m (Wk.turn ⟨n, 0, [], [⟨0, 0, m, 1 - 2 ^ n, 2 ^ n - 1⟩], []⟩) ≤ 3 * m * n := by
  unfold Wk.turn
  split
  · rename_i c
    refine ⟨rfl, rfl, rfl, ?_⟩
    have c : (n : Int) - 1 ≥ 0 := c
    obtain ⟨k, rfl⟩ : ∃ k, n = k + 1 := ⟨n - 1, by omega⟩
    unfold mu
    rw [if_neg (by show ¬ ((k + 1 : Nat) : Int) - 1 < 0; omega)]
    show 3 * m * (((k + 1 : Nat) : Int) - 1).toNat + phis [_] ≤ _
    rw [phis_one, show (((k + 1 : Nat) : Int) - 1).toNat = k by omega]
    unfold phi
    rw [if_neg (by simp)]
    show 3 * m * k + (3 * ((m : Int) - 0).toNat - 1) ≤ 3 * m * (k + 1)
    rw [Nat.mul_add]
    omega
  · rename_i c
    have c : ¬ (n : Int) - 1 ≥ 0 := c
    refine ⟨rfl, rfl, rfl, ?_⟩
    unfold mu
    rw [if_pos (by show (n : Int) - 1 < 0; omega)]
    exact Nat.zero_le _

/-! ### any bits -/
theorem mu_pos {m : Nat} {w : Wk} (S : Shp m w) (h : 0 ≤ w.pl) : 1 ≤ mu m w := by
  obtain ⟨ah, p, e⟩ : ∃ ah p, w.ah = ah ++ [p] := ⟨_, _, (List.dropLast_concat_getLast (S.ne h)).symm⟩
  have := step_phi (b := true) S.sh e
  unfold mu
  rw [if_neg (by omega)]
  omega
theorem fol_trans {w v u : Wk} {as bs : List Bool} (h : Fol w as v) (h2 : Fol v bs u) : Fol w (as ++ bs) u := by
  induction h with
  | nil => exact h2
  | whole h =>
    cases h2 with
    | nil => exact .whole h
    | whole _ => exact .whole h
    | step h0 => omega
  | step h h5 hf e h1 t ih => exact .step h h5 hf e h1 (ih h2)
theorem fol_run {m : Nat} (hm0 : 0 < m) (hm : m < 400000) : ∀ (bs : List Bool) (w : Wk), Shp m w → w.pl ≤ 5000 → (w.re.length : Int) + w.pl < 800000 →
    ∃ (v : Wk) (u : Nat), Fol w bs v ∧ Shp m v ∧ u ≤ bs.length ∧ v.us = w.us + u ∧ mu m v + u ≤ mu m w ∧ (0 ≤ v.pl → u = bs.length) ∧ (0 ≤ w.pl → v.pl < 0 → 1 ≤ u) ∧ v.pl ≤ w.pl ∧ (v.re.length : Int) + v.pl ≤ w.re.length + w.pl ∧
      ∀ xs : List Int, xs.length = m → CompW xs v → CompW xs w ∧ ∀ ts, Tell xs v ts → Tell xs w (bs.take u ++ ts)
  | [], w, S, h5, hr => ⟨w, 0, .nil, S, Nat.le_refl _, by simp, by omega, (fun _ => rfl), (fun a b => by omega), Int.le_refl _, Int.le_refl _, fun xs hx C => ⟨C, fun ts t => t⟩⟩
  | b :: bs, w, S, h5, hr => by
    by_cases hp : w.pl < 0
    · exact ⟨w, 0, .whole hp, S, Nat.zero_le _, by simp, by omega, (fun z => by omega), (fun a _ => by omega), Int.le_refl _, Int.le_refl _, fun xs hx C => ⟨C, fun ts t => t⟩⟩
    · obtain ⟨k, hk⟩ : ∃ k : Nat, w.pl = k := ⟨w.pl.toNat, by omega⟩
      have ek : w.pl.toNat = k := by omega
      obtain ⟨ah, p, e⟩ : ∃ ah p, w.ah = ah ++ [p] := ⟨_, _, (List.dropLast_concat_getLast (S.ne (by omega))).symm⟩
      have S0 : Sh0 m k w := ek ▸ S.sh
      have hA := S0.ah p (by rw [e]; simp)
      have hmem := chain_mem (p := p) S0.ch (by rw [e]; simp)
      have hB := S0.sib ah p e
      have S1 := step_shape (b := b) S0 hk e
      obtain ⟨q1, q2, q3⟩ := step_pl (w := w) (ah := ah) (p := p) (b := b)
      have hk1 : (w.step ah p b).pl = k := by rw [q1]; exact hk
      have S2 := rowEnd_shape (by omega) S1 hk1
      obtain ⟨r1, r2, r3, r4⟩ := rowEnd_us (w := w.step ah p b)
      have hmu := rowEnd_mu S1 hk1
      have hphi := step_phi (b := b) S0 e
      have hw : mu m w = 3 * m * k + phis w.ah := by unfold mu; rw [if_neg hp, ek]
      rw [q1] at r3
      rw [q1, q3] at r4
      obtain ⟨v, u, t1, t2, t3, t4, t5, t6, t7, t8, t9, t10⟩ := fol_run hm0 hm bs _ S2 (by omega) (by omega)
      have hf := shp_fits S hm (by omega)
      have hone : p.a = 1 → b = false → ah ≠ [] := fun z _ => by
        obtain ⟨r, q, er, _⟩ := hB.sib z
        rw [er]; simp
      refine ⟨v, u + 1, .step (by omega) h5 hf e hone t1, t2, by rw [List.length_cons]; omega, by rw [t4, r1, q2]; omega, by omega, (fun z => by rw [List.length_cons, t6 z]), (fun _ _ => by omega), by omega, by omega, fun xs hx C => ?_⟩
      obtain ⟨c1, c2⟩ := t10 xs hx C
      have C1 : Comp xs k (w.step ah p b) := by
        have := (rowEnd_iff (by rw [hk1]; omega) (wk_kinds S1)).mp c1
        unfold CompW at this
        rw [hk1, Int.toNat_natCast] at this
        exact this
      obtain ⟨C0, hb⟩ := (step_iff hk e hA hB (by rw [hx]; exact hmem.2.2)).mp C1
      refine ⟨by unfold CompW; rw [ek]; exact C0, fun ts t => ?_⟩
      have := c2 ts t
      rw [List.take_succ_cons, List.cons_append]
      rw [hb] at this hone ⊢
      have T := Tell.step (xs := xs) (w := w) (ah := ah) (p := p) (bs := bs.take u ++ ts) (by omega) h5 hf e ⟨hmem.1, hmem.2.1, by rw [hx]; exact hmem.2.2⟩ (by rw [hk]; exact hone) (by rw [hk]; exact this)
      rw [hk] at T
      exact T
theorem chain_at {α : Type} (f : Pa → α) : ∀ {ps : List Pa} {a b : Int} {p : Pa} {i : Int}, Chain a ps b → p ∈ ps → p.s ≤ i → i < p.e → (ps.flatMap fun p => List.replicate (p.e - p.s).toNat (f p))[(i - a).toNat]? = some (f p)
  | q :: ps, a, b, p, i, ⟨h1, h2, h3⟩, hp, hi1, hi2 => by
    rw [List.flatMap_cons]
    rcases List.mem_cons.mp hp with rfl | hp'
    · rw [List.getElem?_append_left (by rw [List.length_replicate]; omega), List.getElem?_replicate, if_pos (by omega)]
    · have := (chain_mem h3 hp').1
      rw [List.getElem?_append_right (by rw [List.length_replicate]; omega), List.length_replicate]
      have := chain_at f h3 hp' hi1 hi2
      rw [show (i - a).toNat - (q.e - q.s).toNat = (i - q.e).toNat by omega]
      exact this
theorem chain_cover : ∀ {ps : List Pa} {a b i : Int}, Chain a ps b → a ≤ i → i < b → ∃ p ∈ ps, p.s ≤ i ∧ i < p.e
  | [], a, b, i, h, h1, h2 => by cases (show a = b from h); omega
  | q :: ps, a, b, i, ⟨h1, h2, h3⟩, hi1, hi2 => by
    by_cases h : i < q.e
    · exact ⟨q, by simp, by omega, h⟩
    · obtain ⟨p, hp, h4⟩ := chain_cover h3 (show q.e ≤ i by omega) hi2
      exact ⟨p, by simp [hp], h4⟩
/-- the part that speaks of the i-th number -/
theorem part_at {m : Nat} {w : Wk} (S : Shp m w) {i : Nat} (hi : i < m) : ∃ p ∈ w.wk ++ w.ah, p.s ≤ i ∧ (i : Int) < p.e ∧ (spansOf w)[i]? = some p.sp := by
  obtain ⟨p, hp, h1, h2⟩ := chain_cover S.sh.ch (show (0 : Int) ≤ i by omega) (by omega)
  refine ⟨p, by simpa using hp, h1, h2, ?_⟩
  have := chain_at Pa.sp S.sh.ch hp h1 h2
  rw [show ((i : Int) - 0).toNat = i by omega] at this
  exact this
/-- every number lies in the span of its part -/
theorem comp_in {xs : List Int} {m : Nat} {w : Wk} (S : Shp m w) (C : CompW xs w) {p : Pa} {i : Nat} (hp : p ∈ w.wk ++ w.ah) (h1 : p.s ≤ i) (h2 : (i : Int) < p.e) : p.lo ≤ xs.getD i 0 ∧ xs.getD i 0 ≤ p.hi := by
  unfold CompW Comp CAs at C
  obtain ⟨c1, c2, _⟩ := C
  have low : ∀ k, (xs.getD i 0).natAbs < 2 ^ k → 1 - 2 ^ k ≤ xs.getD i 0 ∧ xs.getD i 0 ≤ 2 ^ k - 1 := fun k h => by
    have : ((xs.getD i 0).natAbs : Int) < 2 ^ k := by exact_mod_cast h
    omega
  rcases List.mem_append.mp hp with h | h
  · obtain ⟨s0, s1, s2⟩ := S.sh.wk p h
    obtain ⟨d1, d2⟩ := c1 p h
    rcases s2 with ⟨a3, ae, _⟩ | ⟨a0, l1, l2⟩
    · have := d1 a3
      rw [show p.s.toNat = i by omega] at this
      exact this
    · rw [l1, l2]
      exact low _ (d2 a0 i h1 h2)
  · obtain ⟨s0, s1, s2⟩ := S.sh.ah p h
    obtain ⟨d1, d2, _⟩ := c2 p h
    rcases s2 with ⟨a3, ae, _⟩ | ⟨a0, l1, l2⟩ | ⟨a2, ae, l1, l2⟩
    · have := d1 a3
      rw [show p.s.toNat = i by omega] at this
      exact this
    · rw [l1, l2]
      exact low _ (d2 (by omega) i h1 h2)
    · rw [l1, l2]
      exact low _ (d2 (by omega) i h1 h2)
theorem part_wide {m : Nat} {w : Wk} (S : Shp m w) {p : Pa} (hp : p ∈ w.wk ++ w.ah) : p.lo ≤ p.hi := by
  have q : ∀ k : Nat, (0 : Int) < 2 ^ k := p2pos
  have q1 := q w.pl.toNat
  have q2 := q (w.pl.toNat + 1)
  rcases List.mem_append.mp hp with h | h
  · obtain ⟨s0, s1, s2⟩ := S.sh.wk p h
    rcases s2 with ⟨_, _, a, _⟩ | ⟨_, l1, l2⟩ <;> omega
  · obtain ⟨s0, s1, s2⟩ := S.sh.ah p h
    rcases s2 with ⟨_, _, a, _⟩ | ⟨_, l1, l2⟩ | ⟨_, _, l1, l2⟩ <;> omega
/-- what a whole walk has found -/
theorem end_some {m : Nat} {v : Wk} (S : Shp m v) (h : v.pl < 0) : ∃ xs : List Int, xs.length = m ∧ CompW xs v := by
  obtain ⟨h1, h2⟩ := S.wh h
  have e0 : v.pl.toNat = 0 := by omega
  have S0 := S.sh
  rw [e0] at S0
  have hc := S0.ch
  rw [h2, List.reverse_nil, List.append_nil] at hc
  have at' : ∀ p ∈ v.wk, ∀ i : Nat, p.s ≤ i → (i : Int) < p.e → (v.wk.flatMap fun p => List.replicate (p.e - p.s).toNat p.lo).getD i 0 = p.lo := fun p hp i a b => by
    have := chain_at Pa.lo hc hp a b
    rw [show ((i : Int) - 0).toNat = i by omega] at this
    rw [List.getD_eq_getElem?_getD, this]
    rfl
  refine ⟨v.wk.flatMap fun p => List.replicate (p.e - p.s).toNat p.lo, ?_, ?_⟩
  · have : ∀ {ps : List Pa} {a b : Int}, Chain a ps b → (ps.flatMap fun p => List.replicate (p.e - p.s).toNat p.lo).length = (b - a).toNat := by
      intro ps
      induction ps with
      | nil => intro a b h; cases (show a = b from h); simp
      | cons p ps ih =>
        rintro a b ⟨h1, h2, h3⟩
        have hle := chain_le h3
        rw [List.flatMap_cons, List.length_append, ih h3, List.length_replicate]
        omega
    rw [this hc]
    omega
  · unfold CompW Comp CAs
    rw [e0, h2]
    refine ⟨fun p hp => ?_, (fun p hp => by cases hp), fun r q p e => by simp at e⟩
    obtain ⟨s0, s1, s2⟩ := S0.wk p hp
    refine ⟨fun a => ?_, fun a i i1 i2 => ?_⟩
    · rw [at' p hp p.s.toNat (by omega) (by omega)]
      rcases s2 with ⟨_, _, a, _⟩ | ⟨_, l1, l2⟩
      · have : p.hi - p.lo = 0 := by simpa using a
        omega
      · omega
    · rw [at' p hp i i1 i2]
      rcases s2 with ⟨a3, _⟩ | ⟨_, l1, l2⟩
      · omega
      · rw [l1]
        decide
theorem start_low {xs : List Int} {n : Nat} (h : CompW xs (Wk.turn ⟨n, 0, [], [⟨0, 0, xs.length, 1 - 2 ^ n, 2 ^ n - 1⟩], []⟩)) : ∀ x ∈ xs, x.natAbs < 2 ^ n := by
  have := (turn_iff (w := ⟨n, 0, [], [⟨0, 0, xs.length, 1 - 2 ^ n, 2 ^ n - 1⟩], []⟩) (by show 0 ≤ (n : Int); omega) rfl (fun p hp => by rw [List.mem_singleton.mp hp]; exact .inl rfl)).mp h
  unfold CompW at this
  have := (this.1 _ (List.mem_singleton.mpr rfl)).2 rfl
  intro x hx
  obtain ⟨i, hi⟩ := List.mem_iff_getElem?.mp hx
  have hil := (List.getElem?_eq_some_iff.mp hi).1
  have := this i (by show (0 : Int) ≤ i; omega) (by show (i : Int) < xs.length; omega)
  rw [List.getD_eq_getElem?_getD, hi] at this
  have h2 : x.natAbs < 2 ^ (n : Int).toNat := this
  rw [Int.toNat_natCast] at h2
  exact h2

/-! ### the spans, number by number -/
def spansQ (w : Wk) : List (Int × Int) := (w.wk ++ w.ah.reverse).flatMap fun p => List.replicate (p.e - p.s).toNat (p.lo, p.hi)
theorem spansQ_at {m : Nat} {w : Wk} (S : Shp m w) {p : Pa} {i : Nat} (hp : p ∈ w.wk ++ w.ah) (h1 : p.s ≤ i) (h2 : (i : Int) < p.e) : (spansQ w)[i]? = some (p.lo, p.hi) := by
  have := chain_at (fun p => (p.lo, p.hi)) S.sh.ch (by simpa using hp) h1 h2
  rw [show ((i : Int) - 0).toNat = i by omega] at this
  exact this
theorem spansQ_len {m : Nat} {w : Wk} (S : Shp m w) : (spansQ w).length = m := by
  have : ∀ {ps : List Pa} {a b : Int}, Chain a ps b → (ps.flatMap fun p => List.replicate (p.e - p.s).toNat (p.lo, p.hi)).length = (b - a).toNat := by
    intro ps
    induction ps with
    | nil => intro a b h; cases (show a = b from h); simp
    | cons p ps ih =>
      rintro a b ⟨h1, h2, h3⟩
      have hle := chain_le h3
      rw [List.flatMap_cons, List.length_append, ih h3, List.length_replicate]
      omega
  unfold spansQ
  rw [this S.sh.ch]
  omega

/-! ### what bits keep of every part -/
structure Kept (G : Pa → Prop) (b : Bool) : Prop where
  fig : ∀ k p, p.a = 3 → ShA (k + 1) p → G p → G (p.figured k b)
  sig : ∀ k p, p.a = 2 → ShA (k + 1) p → G p → G (p.signed k b)
  w2 : ∀ k q, (q.a = 0 ∨ q.a = 1) → ShA (k + 1) q → G q → G ⟨2, q.s, q.e, q.lo, q.hi⟩
  w0 : ∀ k q, (q.a = 0 ∨ q.a = 1) → ShA (k + 1) q → G q → ∀ m, q.s ≤ m → m ≤ q.e → G ⟨0, m, q.e, q.lo, q.hi⟩ ∧ G ⟨1, q.s, m, q.lo, q.hi⟩
  calm : b = false → ∀ k q, (q.a = 0 ∨ q.a = 1) → ShA (k + 1) q → G q → G ⟨0, q.s, q.e, 1 - 2 ^ k, 2 ^ k - 1⟩
def AllP (G : Pa → Prop) (w : Wk) : Prop := (∀ p ∈ w.wk, G p) ∧ ∀ p ∈ w.ah, G p
theorem wake_kept {G : Pa → Prop} {b : Bool} (K : Kept G b) {k : Nat} {w : Wk} {q : Pa} (h : AllP G w) (hq : G q) (ha : q.a = 0 ∨ q.a = 1) (hs : ShA (k + 1) q) : AllP G (w.wake q) := by
  unfold Wk.wake
  split
  · refine ⟨h.1, fun p hp => ?_⟩
    have hp : p ∈ w.ah ++ [⟨2, q.s, q.e, q.lo, q.hi⟩] := hp
    rcases List.mem_append.mp hp with z | z
    · exact h.2 p z
    · rw [List.mem_singleton.mp z]; exact K.w2 k q ha hs hq
  · refine ⟨h.1, fun p hp => ?_⟩
    have hp : p ∈ w.ah ++ [⟨0, (q.s + q.e) / 2, q.e, q.lo, q.hi⟩, ⟨1, q.s, (q.s + q.e) / 2, q.lo, q.hi⟩] := hp
    have hlt := hs.2.1
    obtain ⟨g1, g2⟩ := K.w0 k q ha hs hq ((q.s + q.e) / 2) (by omega) (by omega)
    rcases List.mem_append.mp hp with z | z
    · exact h.2 p z
    · rcases List.mem_cons.mp z with z | z
      · rw [z]; exact g1
      · rw [List.mem_singleton.mp z]; exact g2
theorem step_kept {G : Pa → Prop} {b : Bool} (K : Kept G b) {m : Int} {k : Nat} {w : Wk} {ah : List Pa} {p : Pa} (S : Sh0 m k w) (hk : w.pl = k) (e : w.ah = ah ++ [p]) (h : AllP G w) : AllP G (w.step ah p b) := by
  have ek : w.pl.toNat = k := by omega
  have hp : G p := h.2 p (by rw [e]; simp)
  have hs := S.ah p (by rw [e]; simp)
  have hah : ∀ q ∈ ah, G q := fun q hq => h.2 q (by rw [e]; simp [hq])
  have hB := S.sib ah p e
  unfold Wk.step
  split
  · rename_i a3
    refine ⟨fun q hq => ?_, hah⟩
    have hq : q ∈ w.wk ++ [p.figured w.pl.toNat b] := hq
    rcases List.mem_append.mp hq with z | z
    · exact h.1 q z
    · rw [List.mem_singleton.mp z, ek]; exact K.fig k p a3 hs hp
  · split
    · rename_i a2
      refine ⟨fun q hq => ?_, hah⟩
      have hq : q ∈ w.wk ++ [p.signed w.pl.toNat b] := hq
      rcases List.mem_append.mp hq with z | z
      · exact h.1 q z
      · rw [List.mem_singleton.mp z, ek]; exact K.sig k p a2 hs hp
    · rename_i a3 a2
      have ha : p.a = 0 ∨ p.a = 1 := by
        rcases hs.2.2 with ⟨z, _⟩ | ⟨z, _⟩ | ⟨z, _⟩
        · exact absurd z a3
        · exact z
        · exact absurd z a2
      split
      · exact wake_kept K (k := k) (w := { w with us := w.us + 1, ah := ah }) ⟨h.1, hah⟩ hp ha hs
      · rename_i hb
        have hb : b = false := by simpa using hb
        have hc : G ⟨0, p.s, p.e, 1 - 2 ^ w.pl.toNat, 2 ^ w.pl.toNat - 1⟩ := by rw [ek]; exact K.calm hb k p ha hs hp
        have hwk : ∀ q ∈ w.wk ++ [(⟨0, p.s, p.e, 1 - 2 ^ w.pl.toNat, 2 ^ w.pl.toNat - 1⟩ : Pa)], G q := fun q hq => by
          rcases List.mem_append.mp hq with z | z
          · exact h.1 q z
          · rw [List.mem_singleton.mp z]; exact hc
        unfold Wk.calm
        split
        · rename_i a1
          obtain ⟨r, q, er, hq0, _⟩ := hB.sib a1
          have hqm : q ∈ ah := by rw [er]; simp
          have hlast : ah.getLastD p = q := by rw [er]; simp
          show AllP G (Wk.wake { w with us := w.us + 1, wk := w.wk ++ [_], ah := ah.dropLast } (ah.getLastD p))
          rw [hlast]
          refine wake_kept K (k := k) ⟨hwk, fun z hz => hah z ?_⟩ (hah q hqm) (.inl hq0) (S.ah q (by rw [e]; simp [hqm]))
          have hz : z ∈ ah.dropLast := hz
          exact List.dropLast_subset ah hz
        · exact ⟨hwk, hah⟩
theorem rowEnd_kept {G : Pa → Prop} {w : Wk} (h : AllP G w) : AllP G w.rowEnd := by
  unfold Wk.rowEnd
  split
  · unfold Wk.turn
    split
    · refine ⟨(fun p hp => by cases hp), fun p hp => h.1 p ?_⟩
      have hp : p ∈ w.wk.reverse := hp
      simpa using hp
    · exact ⟨h.1, h.2⟩
  · exact h
theorem fol_kept {G : Pa → Prop} {m : Nat} (hm : 0 < m) {w v : Wk} {bs : List Bool} (F : Fol w bs v) : (∀ b ∈ bs, Kept G b) → Shp m w → AllP G w → AllP G v := by
  induction F with
  | nil => exact fun _ _ h => h
  | whole _ => exact fun _ _ h => h
  | @step w v ah p b bs h h5 hf e h1 t ih =>
    intro K S hG
    obtain ⟨k, hk⟩ : ∃ k : Nat, w.pl = k := ⟨w.pl.toNat, by omega⟩
    have ek : w.pl.toNat = k := by omega
    have S0 : Sh0 m k w := ek ▸ S.sh
    have S2 := rowEnd_shape (m := m) (by omega) (step_shape (b := b) S0 hk e) (by rw [step_pl.1]; exact hk)
    exact ih (fun c hc => K c (by simp [hc])) S2 (rowEnd_kept (step_kept (K b (by simp)) S0 hk e hG))
/-! ### the three things that are kept -/
/-- the end away from 0 -/
def far (p : Pa) : Int := if p.lo > 0 then p.hi else p.lo
def near (p : Pa) : Int := if p.lo > 0 then p.lo else p.hi
theorem sig_fields (p : Pa) (k : Nat) (b : Bool) : (p.signed k b).s = p.s ∧ (p.signed k b).e = p.e ∧ (p.signed k b).a = 3 := by
  unfold Pa.signed; split <;> exact ⟨rfl, rfl, rfl⟩
theorem fig_fields (p : Pa) (k : Nat) (b : Bool) : (p.figured k b).s = p.s ∧ (p.figured k b).e = p.e ∧ (p.figured k b).a = 3 := by
  unfold Pa.figured; split <;> exact ⟨rfl, rfl, rfl⟩
theorem kept_far (c : Nat → Int) : Kept (fun p => ∀ i : Nat, p.s ≤ i → (i : Int) < p.e → far p = c i) true where
  fig := fun k p a3 hs h i h1 h2 => by
    obtain ⟨f1, f2, _⟩ := fig_fields p k true
    rw [f1] at h1; rw [f2] at h2
    rw [← h i h1 h2]
    have hp := p2pos k
    by_cases hl : p.lo > 0
    · have e : p.figured k true = ⟨3, p.s, p.e, p.lo + 2 ^ k, p.hi⟩ := by
        unfold Pa.figured
        rw [if_pos (by simp [hl])]
      rw [e]
      unfold far
      rw [if_pos (by show p.lo + 2 ^ k > 0; omega), if_pos hl]
    · have e : p.figured k true = ⟨3, p.s, p.e, p.lo, p.hi - 2 ^ k⟩ := by
        unfold Pa.figured
        rw [if_neg (by simp [hl])]
      rw [e]
      unfold far
      rw [if_neg (by exact hl), if_neg hl]
  sig := fun k p a2 hs h i h1 h2 => by
    obtain ⟨f1, f2, _⟩ := sig_fields p k true
    rw [f1] at h1; rw [f2] at h2
    rw [← h i h1 h2]
    have hp := p2pos k
    rcases hs.2.2 with ⟨z, _⟩ | ⟨z, _⟩ | ⟨_, _, l1, l2⟩
    · omega
    · omega
    · unfold far Pa.signed
      rw [if_pos rfl]
      show (if 1 - 2 ^ k - 2 ^ k > (0 : Int) then _ else (1 - 2 ^ k - 2 ^ k : Int)) = _
      have hs2 := p2succ k
      rw [if_neg (by omega), if_neg (by omega), l1]
      omega
  w2 := fun k q _ _ h => h
  w0 := fun k q _ _ h m h1 h2 => ⟨fun i a b => h i (by have a : m ≤ i := a; omega) b, fun i a b => h i a (by have b : (i : Int) < m := b; omega)⟩
  calm := fun z => by cases z
/-- with noughts: an awake number goes to its end near 0; what is not awake never goes below 0 -/
theorem kept_near (c : Nat → Option Int) : Kept (fun p => ∀ i : Nat, p.s ≤ i → (i : Int) < p.e → (∀ v, c i = some v → p.a = 3 ∧ near p = v) ∧ (c i = none → p.a = 3 → 0 < p.lo)) false where
  fig := fun k p a3 hs h i h1 h2 => by
    obtain ⟨f1, f2, f3⟩ := fig_fields p k false
    rw [f1] at h1; rw [f2] at h2
    obtain ⟨g1, g2⟩ := h i h1 h2
    have hp := p2pos k
    have hlo : p.lo > 0 → (p.figured k false).lo = p.lo := fun hl => by
      unfold Pa.figured
      rw [if_neg (by simp [hl])]
    have hhi : ¬ p.lo > 0 → (p.figured k false).hi = p.hi ∧ (p.figured k false).lo = p.lo + 2 ^ k := fun hl => by
      unfold Pa.figured
      rw [if_pos (by simp [hl])]
      exact ⟨rfl, rfl⟩
    refine ⟨fun v hv => ⟨f3, ?_⟩, fun hn _ => ?_⟩
    · rw [← (g1 v hv).2]
      unfold near
      by_cases hl : p.lo > 0
      · rw [hlo hl]
        rw [if_pos hl, if_pos hl]
      · obtain ⟨q1, q2⟩ := hhi hl
        rw [q1, q2, if_neg hl]
        rw [if_neg]
        rcases hs.2.2 with ⟨_, _, hw, hq⟩ | ⟨z, _⟩ | ⟨z, _⟩
        · have hs2 := p2succ k
          rcases hq with ⟨q, hq, e⟩ | ⟨q, hq, e⟩
          · have : 0 < q * 2 ^ (k + 1) := Int.mul_pos hq (p2pos _)
            omega
          · have : 0 < q * 2 ^ (k + 1) := Int.mul_pos hq (p2pos _)
            omega
        · omega
        · omega
    · have := g2 hn a3
      rw [hlo this]; exact this
  sig := fun k p a2 hs h i h1 h2 => by
    obtain ⟨f1, f2, f3⟩ := sig_fields p k false
    rw [f1] at h1; rw [f2] at h2
    obtain ⟨g1, g2⟩ := h i h1 h2
    refine ⟨fun v hv => by have := (g1 v hv).1; omega, fun _ _ => ?_⟩
    unfold Pa.signed
    rw [if_neg (by decide)]
    exact p2pos k
  w2 := fun k q ha _ h i h1 h2 => ⟨fun v hv => by have := ((h i h1 h2).1 v hv).1; omega, fun _ z => by cases z⟩
  w0 := fun k q ha _ h m h1 h2 => ⟨fun i a b => ⟨fun v hv => by have a : m ≤ i := a; have := ((h i (by omega) b).1 v hv).1; omega, fun _ z => by cases z⟩,
    fun i a b => ⟨fun v hv => by have b : (i : Int) < m := b; have := ((h i a (by omega)).1 v hv).1; omega, fun _ z => by cases z⟩⟩
  calm := fun _ k q ha _ h i h1 h2 => ⟨fun v hv => by have := ((h i h1 h2).1 v hv).1; omega, fun _ z => by cases z⟩
/-- spans only shrink -/
theorem kept_in (L U : Nat → Int) (b : Bool) : Kept (fun p => ∀ i : Nat, p.s ≤ i → (i : Int) < p.e → L i ≤ p.lo ∧ p.hi ≤ U i) b where
  fig := fun k p a3 hs h i h1 h2 => by
    obtain ⟨f1, f2, f3⟩ := fig_fields p k b
    rw [f1] at h1; rw [f2] at h2
    obtain ⟨g1, g2⟩ := h i h1 h2
    rcases hs.2.2 with ⟨_, _, hk⟩ | ⟨z, _⟩ | ⟨z, _⟩
    · have := (ShK.figured (b := b) hk).2
      exact ⟨by omega, by omega⟩
    · omega
    · omega
  sig := fun k p a2 hs h i h1 h2 => by
    obtain ⟨f1, f2, f3⟩ := sig_fields p k b
    rw [f1] at h1; rw [f2] at h2
    obtain ⟨g1, g2⟩ := h i h1 h2
    have hp := p2pos k
    have hs2 := p2succ k
    rcases hs.2.2 with ⟨z, _⟩ | ⟨z, _⟩ | ⟨_, _, l1, l2⟩
    · omega
    · omega
    · unfold Pa.signed
      cases b
      · rw [if_neg (by decide)]
        exact ⟨by show L i ≤ 2 ^ k; omega, by show (2 ^ k + 2 ^ k - 1 : Int) ≤ U i; omega⟩
      · rw [if_pos rfl]
        exact ⟨by show L i ≤ 1 - 2 ^ k - 2 ^ k; omega, by show (-2 ^ k : Int) ≤ U i; omega⟩
  w2 := fun k q _ _ h => h
  w0 := fun k q _ _ h m h1 h2 => ⟨fun i a b => h i (by have a : m ≤ i := a; omega) b, fun i a b => h i a (by have b : (i : Int) < m := b; omega)⟩
  calm := fun _ k q ha hs h i h1 h2 => by
    obtain ⟨g1, g2⟩ := h i h1 h2
    have hp := p2pos k
    have hs2 := p2succ k
    rcases hs.2.2 with ⟨z, _⟩ | ⟨_, l1, l2⟩ | ⟨z, _⟩
    · omega
    · exact ⟨by show L i ≤ 1 - 2 ^ k; omega, by show (2 ^ k - 1 : Int) ≤ U i; omega⟩
    · omega

/-! ### where the rows end -/
theorem fol_det {w v v' : Wk} {bs : List Bool} (h : Fol w bs v) (h2 : Fol w bs v') : v = v' := by
  induction h with
  | nil => cases h2; rfl
  | whole h =>
    cases h2 with
    | whole _ => rfl
    | step h0 => omega
  | step h h5 hf e h1 t ih =>
    cases h2 with
    | whole h0 => omega
    | step _ _ _ e' _ t' =>
      rw [e] at e'
      obtain ⟨rfl, e2⟩ := List.append_inj' e' rfl
      cases e2
      exact ih t'
structure RI (w : Wk) : Prop where
  us : 0 ≤ w.us
  le : ∀ x ∈ w.re, 0 < x ∧ x ≤ w.us
  inc : w.re.Pairwise (· < ·)
  fresh : w.us ∈ w.re → 0 ≤ w.pl → w.wk = [] ∧ ∀ p ∈ w.ah, p.a = 0 ∨ p.a = 3
theorem step_ri {m : Int} {k : Nat} {w : Wk} {ah : List Pa} {p : Pa} {b : Bool} (S : Sh0 m k w) (R : RI w) (hk : w.pl = k) (e : w.ah = ah ++ [p]) :
    RI (w.step ah p b).rowEnd ∧ ((w.step ah p b).rowEnd.re = w.re ∨ (w.step ah p b).rowEnd.re = w.re ++ [w.us + 1]) ∧ ((w.step ah p b).rowEnd.re.length : Int) + (w.step ah p b).rowEnd.pl = w.re.length + w.pl ∧ (w.step ah p b).rowEnd.us = w.us + 1 ∧ ((w.step ah p b).rowEnd.pl < 0 → (w.step ah p b).rowEnd.us ∈ (w.step ah p b).rowEnd.re) := by
  obtain ⟨q1, q2, q3⟩ := step_pl (w := w) (ah := ah) (p := p) (b := b)
  have S1 := step_shape (b := b) S hk e
  generalize hw1 : w.step ah p b = w1 at q1 q2 q3 S1
  have hus := R.us
  have hle : ∀ x ∈ w.re ++ [w.us + 1], 0 < x ∧ x ≤ w.us + 1 := fun x hx => by
    rcases List.mem_append.mp hx with h | h
    · have := R.le x h; omega
    · rw [List.mem_singleton.mp h]; omega
  have hinc : (w.re ++ [w.us + 1]).Pairwise (· < ·) := by
    rw [List.pairwise_append]
    refine ⟨R.inc, by simp, fun a ha c hc => ?_⟩
    rw [List.mem_singleton.mp hc]
    have := R.le a ha; omega
  unfold Wk.rowEnd
  split
  · rename_i hah
    have et : (Wk.turn { w1 with re := w1.re ++ [w1.us] }).re = w.re ++ [w.us + 1] ∧ (Wk.turn { w1 with re := w1.re ++ [w1.us] }).us = w.us + 1 ∧ (Wk.turn { w1 with re := w1.re ++ [w1.us] }).pl = w.pl - 1 := by
      unfold Wk.turn
      split <;> exact ⟨by rw [← q3, ← q2], q2, by show w1.pl - 1 = _; rw [q1]⟩
    obtain ⟨e1, e2, e3⟩ := et
    refine ⟨⟨by rw [e2]; omega, by rw [e1, e2]; exact hle, by rw [e1]; exact hinc, fun _ hp => ?_⟩, .inr e1, by rw [e1, e3, List.length_append, List.length_singleton]; omega, e2, fun _ => by rw [e1, e2]; simp⟩
    rw [e3] at hp
    unfold Wk.turn
    rw [if_pos (by show w1.pl - 1 ≥ 0; rw [q1]; exact hp)]
    refine ⟨rfl, fun p hp => ?_⟩
    have hp : p ∈ w1.wk.reverse := hp
    exact wk_kinds S1 p (by simpa using hp)
  · refine ⟨⟨by rw [q2]; omega, fun x hx => by rw [q3] at hx; have := R.le x hx; rw [q2]; omega, by rw [q3]; exact R.inc, fun h _ => ?_⟩, .inl q3, by rw [q3, q1], q2, fun h => by rw [q1] at h; omega⟩
    rw [q2, q3] at h
    have := R.le _ h
    omega
theorem fol_ri {m : Nat} (hm : 0 < m) {w v : Wk} {bs : List Bool} (h : Fol w bs v) : Shp m w → RI w → RI v ∧ (∃ l, v.re = w.re ++ l ∧ ∀ x ∈ l, w.us < x) ∧ (v.re.length : Int) + v.pl = w.re.length + w.pl ∧ (0 ≤ w.pl → v.pl < 0 → v.us ∈ v.re) := by
  induction h with
  | nil => exact fun _ R => ⟨R, ⟨[], by simp, by simp⟩, rfl, fun a b => by omega⟩
  | whole h => exact fun _ R => ⟨R, ⟨[], by simp, by simp⟩, rfl, fun a b => by omega⟩
  | @step w v ah p b bs h h5 hf e h1 t ih =>
    intro S R
    obtain ⟨k, hk⟩ : ∃ k : Nat, w.pl = k := ⟨w.pl.toNat, by omega⟩
    have ek : w.pl.toNat = k := by omega
    have S0 : Sh0 m k w := ek ▸ S.sh
    obtain ⟨q1, q2, q3⟩ := step_pl (w := w) (ah := ah) (p := p) (b := b)
    have S2 := rowEnd_shape (m := m) (by omega) (step_shape (b := b) S0 hk e) (by rw [q1]; exact hk)
    obtain ⟨r1, r2, r3, r4, r5⟩ := step_ri (b := b) S0 R hk e
    obtain ⟨a1, ⟨l, a2, a3⟩, a4, a5⟩ := ih S2 r1
    refine ⟨a1, ?_, by omega, fun _ hv => ?_⟩
    · rcases r2 with z | z
      · exact ⟨l, by rw [a2, z], fun x hx => by have := a3 x hx; omega⟩
      · refine ⟨(w.us + 1) :: l, by rw [a2, z]; simp, fun x hx => ?_⟩
        rcases List.mem_cons.mp hx with y | y
        · omega
        · have := a3 x y; omega
    · by_cases z : 0 ≤ (w.step ah p b).rowEnd.pl
      · exact a5 z hv
      · have z2 := r5 (by omega)
        have : v = (w.step ah p b).rowEnd := by
          cases t with
          | nil => rfl
          | whole _ => rfl
          | step h0 => omega
        rw [this]; exact z2
theorem start_ri (m n : Nat) : RI (Wk.turn ⟨n, 0, [], [⟨0, 0, m, 1 - 2 ^ n, 2 ^ n - 1⟩], []⟩) := by
  obtain ⟨_, q2, q3, _⟩ := start_facts m n
  exact ⟨by rw [q3]; exact Int.le_refl 0, (fun x hx => by rw [q2] at hx; cases hx), by rw [q2]; exact List.Pairwise.nil, fun h => by rw [q2] at h; cases h⟩
/-- what is known of x when the planes down to k are told -/
def known (x : Int) (k : Nat) : Int × Int :=
  if (x.natAbs : Int) / 2 ^ k * 2 ^ k = 0 then (1 - 2 ^ k, 2 ^ k - 1) else if x < 0 then (1 - (x.natAbs : Int) / 2 ^ k * 2 ^ k - 2 ^ k, 0 - (x.natAbs : Int) / 2 ^ k * 2 ^ k) else ((x.natAbs : Int) / 2 ^ k * 2 ^ k, (x.natAbs : Int) / 2 ^ k * 2 ^ k + 2 ^ k - 1)
theorem known_low {x : Int} {k : Nat} (h : x.natAbs < 2 ^ k) : known x k = (1 - 2 ^ k, 2 ^ k - 1) := by
  unfold known
  have : (x.natAbs : Int) / 2 ^ k = 0 := Int.ediv_eq_zero_of_lt (by omega) (by exact_mod_cast h)
  rw [this, Int.zero_mul, if_pos rfl]
theorem known_span {x lo hi : Int} {k : Nat} (hs : ShK k lo hi) (h1 : lo ≤ x) (h2 : x ≤ hi) : known x k = (lo, hi) := by
  obtain ⟨hw, hq⟩ := hs
  have hp := p2pos k
  rcases hq with ⟨q, hq, rfl⟩ | ⟨q, hq, rfl⟩
  · have hx : (x.natAbs : Int) = x := by
      have : 0 ≤ q * 2 ^ k := Int.mul_nonneg (by omega) (by omega)
      omega
    have hd : (x.natAbs : Int) / 2 ^ k = q := by
      rw [hx]
      exact ((Int.ediv_emod_unique (r := x - q * 2 ^ k) hp).mpr ⟨by rw [Int.mul_comm (2 ^ k) q]; omega, by omega, by omega⟩).1
    have hpos : 0 < q * 2 ^ k := Int.mul_pos hq hp
    unfold known
    rw [hd, if_neg (by omega), if_neg (by omega)]
    rw [show q * 2 ^ k + 2 ^ k - 1 = hi by omega]
  · have hpos : 0 < q * 2 ^ k := Int.mul_pos hq hp
    have hx : (x.natAbs : Int) = -x := by omega
    have hd : (x.natAbs : Int) / 2 ^ k = q := by
      rw [hx]
      exact ((Int.ediv_emod_unique (r := -x - q * 2 ^ k) hp).mpr ⟨by rw [Int.mul_comm (2 ^ k) q]; omega, by omega, by omega⟩).1
    unfold known
    rw [hd, if_neg (by omega), if_pos (by omega)]
    rw [show 1 - q * 2 ^ k - 2 ^ k = lo by omega, show 0 - q * 2 ^ k = -(q * 2 ^ k) by omega]

/-! ### spans of beginnings lie in each other -/
theorem nest {m : Nat} (hm : 0 < m) {a b : Wk} {bs : List Bool} (F : Fol a bs b) (Sa : Shp m a) (Sb : Shp m b) {i : Nat} (hi : i < m) : ∃ s t, (spansQ a)[i]? = some s ∧ (spansQ b)[i]? = some t ∧ s.1 ≤ t.1 ∧ t.1 ≤ t.2 ∧ t.2 ≤ s.2 := by
  obtain ⟨p, hp, p1, p2⟩ := chain_cover Sa.sh.ch (show (0 : Int) ≤ i by omega) (by omega)
  obtain ⟨q, hq, q1, q2⟩ := chain_cover Sb.sh.ch (show (0 : Int) ≤ i by omega) (by omega)
  have hp : p ∈ a.wk ++ a.ah := by simpa using hp
  have hq : q ∈ b.wk ++ b.ah := by simpa using hq
  have e1 := spansQ_at Sa hp p1 p2
  have e2 := spansQ_at Sb hq q1 q2
  have G : AllP (fun r => ∀ j : Nat, r.s ≤ j → (j : Int) < r.e → (fun j => ((spansQ a).getD j (0, 0)).1) j ≤ r.lo ∧ r.hi ≤ (fun j => ((spansQ a).getD j (0, 0)).2) j) a := by
    have key : ∀ r ∈ a.wk ++ a.ah, ∀ j : Nat, r.s ≤ j → (j : Int) < r.e → (fun j => ((spansQ a).getD j (0, 0)).1) j ≤ r.lo ∧ r.hi ≤ (fun j => ((spansQ a).getD j (0, 0)).2) j := fun r hr j j1 j2 => by
      have := spansQ_at Sa hr j1 j2
      dsimp only
      rw [List.getD_eq_getElem?_getD, this]
      exact ⟨Int.le_refl _, Int.le_refl _⟩
    exact ⟨fun q hq => key q (by simp [hq]), fun q hq => key q (by simp [hq])⟩
  have G2 := fol_kept hm F (fun c _ => kept_in _ _ c) Sa G
  have hin : (fun j => ((spansQ a).getD j (0, 0)).1) i ≤ q.lo ∧ q.hi ≤ (fun j => ((spansQ a).getD j (0, 0)).2) i := by
    rcases List.mem_append.mp hq with z | z
    · exact G2.1 q z i q1 q2
    · exact G2.2 q z i q1 q2
  dsimp only at hin
  rw [List.getD_eq_getElem?_getD, e1] at hin
  exact ⟨_, _, e1, e2, hin.1, part_wide Sb hq, hin.2⟩
theorem cut_any {m : Nat} (hm0 : 0 < m) (hm : m < 400000) {w v : Wk} {bs : List Bool} (F : Fol w bs v) (S : Shp m w) (h5 : w.pl ≤ 5000) (hr : (w.re.length : Int) + w.pl < 800000) (h0 : w.us = 0) {c : Nat} (hc : c ≤ bs.length) :
    ∃ u, Fol w (bs.take c) u ∧ Shp m u ∧ Fol u (bs.drop c) v ∧ Shp m v ∧ u.us = min (c : Int) v.us ∧ decide (u.pl < 0) = (decide (v.pl < 0) && decide (v.us ≤ (c : Int))) ∧ u.pl ≤ w.pl ∧ (u.re.length : Int) + u.pl ≤ w.re.length + w.pl := by
  obtain ⟨u, k, a1, a2, a3, a4, a5, a6, a7, a8, a9, a10⟩ := fol_run hm0 hm (bs.take c) w S h5 hr
  obtain ⟨v2, k2, b1, b2, b3, b4, b5, b6, b7, b8, b9, b10⟩ := fol_run hm0 hm (bs.drop c) u a2 (by omega) (by omega)
  have F2 := fol_trans a1 b1
  rw [List.take_append_drop] at F2
  have e := fol_det F F2
  subst e
  rw [List.length_take, Nat.min_eq_left hc] at a3 a6
  have hk2 : u.pl < 0 → k2 = 0 := fun z => by
    have : mu m u = 0 := by unfold mu; rw [if_pos z]
    omega
  refine ⟨u, a1, a2, b1, b2, ?_, ?_, a8, a9⟩
  · by_cases z : u.pl < 0
    · have := hk2 z; omega
    · have := a6 (by omega); omega
  · rw [← Bool.decide_and]
    refine decide_eq_decide.mpr ⟨fun z => ?_, fun z => ?_⟩
    · have := hk2 z
      exact ⟨by omega, by omega⟩
    · by_cases y : u.pl < 0
      · exact y
      · have := a6 (by omega)
        have := b7 (by omega) z.1
        omega
theorem cut_more {m : Nat} (hm0 : 0 < m) (hm : m < 400000) {w u v : Wk} {bs : List Bool} {c d : Nat} (hcd : c ≤ d) (F : Fol w (bs.take c) u) (S : Shp m u) (h5 : u.pl ≤ 5000) (hr : (u.re.length : Int) + u.pl < 800000) (F2 : Fol w (bs.take d) v) : Fol u ((bs.take d).drop c) v := by
  obtain ⟨v2, k2, b1, _⟩ := fol_run hm0 hm ((bs.take d).drop c) u S h5 hr
  have F3 := fol_trans F b1
  have e : bs.take c ++ (bs.take d).drop c = bs.take d := by
    have := List.take_append_drop c (bs.take d)
    rw [List.take_take, Nat.min_eq_left hcd] at this
    exact this
  rw [e] at F3
  rw [fol_det F2 F3]
  exact b1
theorem start_spans (m n : Nat) : spansQ (Wk.turn ⟨n, 0, [], [⟨0, 0, m, 1 - 2 ^ n, 2 ^ n - 1⟩], []⟩) = List.replicate m ((1 - 2 ^ n : Int), (2 ^ n - 1 : Int)) := by
  unfold Wk.turn
  split
  · show List.flatMap _ ([] ++ ([⟨0, 0, m, 1 - 2 ^ n, 2 ^ n - 1⟩] : List Pa).reverse.reverse) = _
    simp
  · show List.flatMap _ ([⟨0, 0, m, 1 - 2 ^ n, 2 ^ n - 1⟩] ++ ([] : List Pa).reverse) = _
    simp

theorem ibN_mono {a m : Int} (h0 : 0 ≤ a) (h : a ≤ m) : ibN a ≤ ibN m := by
  unfold ibN
  split
  · exact Nat.zero_le _
  · rw [if_neg (by omega)]
    have h2 : m.natAbs < 2 ^ (m.natAbs.log2 + 1) := (Nat.log2_lt (by omega)).mp (Nat.lt_succ_self _)
    have h3 : a.natAbs.log2 < m.natAbs.log2 + 1 := (Nat.log2_lt (by omega)).mpr (by omega)
    omega
theorem sm_emod {x m : Int} (h0 : 0 < m) (h : ibN m ≤ 1000) : ibN (x % m) ≤ 1000 := Nat.le_trans (ibN_mono (Int.emod_nonneg _ (by omega)) (Int.le_of_lt (Int.emod_lt_of_pos _ h0))) h
theorem ibN_neg {x : Int} : ibN (0 - x) = ibN x := by
  rw [← ibN_abs (i := x), ← ibN_abs (i := 0 - x)]
  congr 1
  omega

/-! ### cell_at -/
abbrev s_law_cell_at : Stmt := top 19
theorem sc_law_cell_at : FnScope ["_law_script", "_law_k"] ["_law_script", "_law_k"] (defScope s_law_cell_at) := ⟨rfl, rfl, rfl, by decide +kernel, rfl, by decide +kernel, by decide +kernel⟩
def sp_law_cell_at : DSp := fun ds P => ∃ (ns : List Int) (k : Int), ds = [.lst (ns.map .int), .int k] ∧ 0 ≤ k ∧ P (.fz (.int (ns.getD k.toNat 0)))
theorem ok_law_cell_at {f : Addr} {fd : FuncData} (Df : DefAt K mg "_law_cell_at" s_law_cell_at f fd) (B : BltV mg) (KV : KitV K) (CV_Walk : ClsV K "Walk" ns_Walk) :
    Cal P w K mg base "_law_cell_at" 1 ["_law_script", "_law_k"] (spV K 2 sp_law_cell_at) := by
  refine CalV.of Df sc_law_cell_at (fun _ _ _ _ _ _ us hl => match us, hl with | [_, _], _ => rfl) rfl (fun cdv A outer s H E hr => ⟨_, _, (pss_cons (ps_if (pt_cmpR op_lt (pv 1) (pe_callB call_len_seq (by rfl) B.len PySem.boot_len (pa_cons (pv 0) pa_nil)) (nomark _)) (pss_one (ps_ret (pe_ix ix_list (pv 0) (pv 1) (fun _ _ => rfl)))) pss_nil)
      (pss_one (ps_ret pe_int))),
    (sS_seq (sS_if (sT_test (sF_op oS_b0 sB_var (sB_f (sF_cb cS_len (sAB_cons sB_var sAB_nil))))) (sS_ret (sO_f (sF_opF oF_ixL sF_var sF_var))) sS_next)
      (sS_ret (sO_f sF_int))), ?_⟩)
  rintro ds Pr ⟨ns, k, rfl, h0, q⟩
  walk_at "v"
  split
  · rename_i h
    exact ⟨_, atI_ints h0 h, q⟩
  · rename_i h
    have e : ns.getD k.toNat 0 = 0 := by
      have hk : ns.length ≤ k.toNat := by omega
      simp [List.getD, List.getElem?_eq_none hk]
    rw [e] at q
    exact q

/-! ### cuts and sizes -/
theorem ib_sm {x : Int} (h1 : -(2 ^ 250) < x) (h2 : x < 2 ^ 250) : ibN x ≤ 1000 := Nat.le_trans (ibN_lt (n := 250) h1 h2) (by decide)
theorem ib_cs {x : Int} (h : ibN x ≤ 1000) : ibN x ≤ 2000000 := by omega
theorem at3_0 {a b c : D} : atI [a, b, c] 0 = some a := rfl
theorem at3_1 {a b c : D} : atI [a, b, c] 1 = some b := rfl
theorem at3_2 {a b c : D} : atI [a, b, c] 2 = some c := rfl
theorem ib_getD {ns : List Int} {k : Nat} (hb : ∀ m ∈ ns, ibN m ≤ 1048576) : ibN (ns.getD k 0) ≤ 1048576 := by
  rw [List.getD_eq_getElem?_getD]
  cases e : ns[k]? with
  | none => decide
  | some x => exact hb x (List.mem_of_getElem? e)
theorem cut_in (ns : List Int) (a b : Int) : ∃ cs : List Int, L2.cutD (ns.map D.int) (some a) (some b) = cs.map D.int ∧ cs.length ≤ (HT.sIx ns.length ns.length (some b) - HT.sIx ns.length 0 (some a)) ∧ (∀ m ∈ cs, m ∈ ns) := by
  refine ⟨_, by unfold L2.cutD; rw [← List.map_drop, ← List.map_take], ?_, fun m hm => List.mem_of_mem_drop (List.mem_of_mem_take hm)⟩
  rw [List.length_take, List.length_map]
  omega

/-! ### any bits, their kinds -/
def spD (s : Int × Int) : D := .tup [.int s.1, .int s.2]
def spansP (w : Wk) : List (Int × Int) := (w.wk ++ w.ah.reverse).flatMap fun p => List.replicate (p.e - p.s).toNat (p.lo, p.hi)
theorem spans_P (w : Wk) : spansOf w = (spansP w).map spD := by
  unfold spansOf spansP
  rw [List.map_flatMap]
  congr 1
  funext p
  rw [List.map_replicate]
  rfl
def sp_law_bits : DSp := fun ds P => ∃ (cs : List Int) (few : Bool), ds = [.lst (cs.map .int), .bl few] ∧ cs.length ≤ 60 ∧ (∀ m ∈ cs, ibN m ≤ 1048576) ∧ ∀ bs : List Bool, bs.length ≤ 600 → P (.fz (.str (strOf bs)))
theorem spansP_wide {m : Nat} {w : Wk} (S : Shp m w) : ∀ s ∈ spansP w, s.1 ≤ s.2 := fun s hs => by
  unfold spansP at hs
  obtain ⟨p, hp, h⟩ := List.mem_flatMap.mp hs
  rw [(List.mem_replicate.mp h).2]
  exact part_wide S (by simpa using hp)
theorem spansP_at {m : Nat} {w : Wk} (S : Shp m w) {i : Nat} (hi : i < m) : ∃ p ∈ w.wk ++ w.ah, p.s ≤ i ∧ (i : Int) < p.e ∧ (spansP w)[i]? = some (p.lo, p.hi) := by
  obtain ⟨p, hp, h1, h2⟩ := chain_cover S.sh.ch (show (0 : Int) ≤ i by omega) (by omega)
  refine ⟨p, by simpa using hp, h1, h2, ?_⟩
  have := chain_at (fun p => (p.lo, p.hi)) S.sh.ch hp h1 h2
  rw [show ((i : Int) - 0).toNat = i by omega] at this
  exact this
theorem spansP_len {m : Nat} {w : Wk} (S : Shp m w) (hm : m ≤ 100000) : (spansP w).length = m := by
  have := (shp_small S hm).2.2.1
  rw [spans_P, List.length_map] at this
  exact this
theorem bandN (a b : Nat) : Builtin.bitAnd (a : Int) (b : Int) = ((a &&& b : Nat) : Int) := by
  unfold Builtin.bitAnd
  rw [decide_eq_true (by omega : 0 ≤ (a : Int)), decide_eq_true (by omega : 0 ≤ (b : Int))]
  dsimp only
  rw [Int.toNat_natCast, Int.toNat_natCast]
abbrev s_law_bits : Stmt := top 20
theorem sc_law_bits : FnScope ["_law_cells", "_law_few", "_law_bits_here", "_law_k", "_law_cell", "_law_drawn", "_law_place", "_law_bit"] ["_law_cells", "_law_few"] (defScope s_law_bits) := ⟨rfl, rfl, rfl, by decide +kernel, rfl, by decide +kernel, by decide +kernel⟩
theorem ok_law_bits {f : Addr} {fd : FuncData} (Df : DefAt K mg "_law_bits" s_law_bits f fd) (B : BltV mg) (KV : KitV K) (CV_Walk : ClsV K "Walk" ns_Walk) :
    Cal P w K mg base "_law_bits" 1 ["_law_cells", "_law_few"] (spV K 2 sp_law_bits) := by
  refine CalV.of Df sc_law_bits (fun _ _ _ _ _ _ us hl => match us, hl with | [_, _], _ => rfl) rfl (fun cdv A outer s H E hr => ⟨_, _, (pss_cons (ps_set (i := 2) sc_law_bits.nd rfl (Or.inl rfl) pe_str)
      (pss_cons (ps_for PassesOwn.never rfl (pi_enum rfl B.enumerate (pa_cons (pv 0) pa_nil)) (pg_tup (n := 2) rfl (pgs_cons (pg_name (i := 3) sc_law_bits.nd rfl (Or.inl rfl)) (pgs_cons (pg_name (i := 4) sc_law_bits.nd rfl (Or.inl rfl)) pgs_nil))) (pss_cons (ps_set (i := 5) sc_law_bits.nd rfl (Or.inl rfl) (pe_op op_mod (pe_op op_mulB (pv 4) (pe_ix ix_list (pe_lstS (pa_cons pe_int (pa_cons pe_int (pa_cons pe_int pa_nil)))) (pe_op op_mod (pv 3) pe_int) (fun _ _ => rfl))) pe_int))
      (pss_one (ps_for PassesOwn.never rfl (pi_range1 (by rfl) (by exact B.range) (pa_cons (pe_op op_add pe_int (pe_op op_mod (pv 5) pe_int)) pa_nil)) (pg_name (i := 6) sc_law_bits.nd rfl (Or.inl rfl)) (pss_cons (ps_set (i := 7) sc_law_bits.nd rfl (Or.inl rfl) (pe_op op_and (pe_op op_shr (pv 5) (pe_op op_add pe_int (pv 6))) pe_int))
      (pss_cons (ps_if (pt_val (pv 1)) (pss_one (ps_set (i := 7) sc_law_bits.nd rfl (Or.inl rfl) (pe_op op_and (pv 7) (pe_op op_shr (pv 5) (pe_op op_add pe_int (pv 6)))))) pss_nil)
      (pss_one (ps_aug (i := 2) sc_law_bits.nd rfl (Or.inl rfl) (pe_callTy call_str_int (by rfl) B.str PyProof.Rows.boot_str (pa_cons (pv 7) pa_nil)) iop_add_str))))))))
      (pss_one (ps_ret (pv 2))))),
    (sS_seq (sS_set (sO_f sF_str))
      (sS_seq (sS_for (sI_enum (sAF_cons sF_var sAF_nil)) (sG_tup (sGs_cons sG_name (sGs_cons sG_name sGs_nil))) (sS_seq (sS_set (sO_f (sF_op oS_i (sB_f (sF_op oS_i sB_var (sB_op (OpF.b oF_ixL) (sB_f (sF_o (sO_lst (sAO_cons (sO_f sF_int) (sAO_cons (sO_f sF_int) (sAO_cons (sO_f sF_int) sAO_nil)))))) (sB_f (sF_op oS_i sB_var (sB_f sF_int)))))) (sB_f sF_int))))
      (sS_for (sI_rng1 (sAB_cons (sB_f (sF_op oS_i0 (sB_f sF_int) (sB_f (sF_op oS_i sB_var (sB_f sF_int))))) sAB_nil)) sG_name (sS_seq (sS_set (sO_f (sF_op oS_i0 (sB_f (sF_op oS_i sB_var (sB_f (sF_op oS_i0 (sB_f sF_int) sB_var)))) (sB_f sF_int))))
      (sS_seq (sS_if (sT_b sF_var) (sS_set (sO_f (sF_op oS_i0 sB_var (sB_f (sF_op oS_i sB_var (sB_f (sF_op oS_i0 (sB_f sF_int) sB_var))))))) sS_next)
      (sS_aug oS_addS (sB_f (sF_cb cS_str (sAB_cons sB_var sAB_nil)))))))))
      (sS_ret (sO_f sF_var)))), ?_⟩)
  rintro ds Pr ⟨cs, few, rfl, hl, hb, h⟩
  walk_at "s"
  walk_at "n"
  walk_at "s"
  refine ⟨by omega, fun i δ => ∃ (bs : List Bool) (o3 o4 o5 o6 o7 : Option Sl), δ = [vD (.lst (cs.map .int)), vD (.bl few), vD (.str (strOf bs)), o3, o4, o5, o6, o7] ∧ bs.length ≤ 9 * i, ⟨[], none, none, none, none, none, by rw [strOf_nil]; rfl, by simp⟩, ?_, ?_⟩
  · rintro i d δ hd ⟨bs, o3, o4, o5, o6, o7, rfl, hbl⟩
    obtain ⟨j, hj, rfl⟩ := mget hd
    have hil : i < cs.length := by
      have := (List.getElem?_eq_some_iff.mp hj).1
      simpa using this
    have hji : j = i := by
      rw [List.getElem?_range hil] at hj
      exact (Option.some.inj hj).symm
    subst hji
    have hgd : (cs.map D.int).getD j .non = .int (cs.getD j 0) := by simp [hil]
    have hcm : cs.getD j 0 ∈ cs := by rw [List.getD_eq_getElem?_getD, List.getElem?_eq_getElem hil]; exact List.getElem_mem hil
    rw [hgd]
    have hcb := hb _ hcm
    generalize cs.getD j 0 = c at hcb
    simp only [gT, gsCons, gsNil, gN, List.length_cons, List.length_nil, Nat.reduceAdd, true_and, List.set_cons_succ, List.set_cons_zero]
    walk_at "s"
    have hk : (j : Int) % 3 = 0 ∨ (j : Int) % 3 = 1 ∨ (j : Int) % 3 = 2 := by omega
    generalize (j : Int) % 3 = k3 at hk
    obtain ⟨x, hx, hat⟩ : ∃ x : Int, ibN x ≤ 1000 ∧ atI [D.int 48271, .int 69621, .int 16807] k3 = some (.int x) := by
      rcases hk with rfl | rfl | rfl
      · exact ⟨48271, ib_sm (by decide) (by decide), at3_0⟩
      · exact ⟨69621, ib_sm (by decide) (by decide), at3_1⟩
      · exact ⟨16807, ib_sm (by decide) (by decide), at3_2⟩
    refine ⟨_, hat, ⟨by omega, ib_cs hx⟩, ?_⟩
    walk_at "n"
    have hd0 : 0 ≤ c * x % 2147483647 := Int.emod_nonneg _ (by decide)
    generalize c * x % 2147483647 = dr at hd0
    walk_at "v"
    have hr : 1 ≤ 1 + dr % 9 ∧ 1 + dr % 9 ≤ 9 := by omega
    generalize 1 + dr % 9 = rr at hr
    refine ⟨⟨by omega, by omega⟩, fun i δ => ∃ (es : List Bool) (o6 o7 : Option Sl), δ = [vD (.lst (cs.map .int)), vD (.bl few), vD (.str (strOf es)), vI j, vI c, vI dr, o6, o7] ∧ es.length ≤ 9 * j + i, ⟨bs, o6, o7, rfl, by omega⟩, ?_, ?_⟩
    · rintro i d δ hd ⟨es, o6, o7, rfl, hel⟩
      obtain ⟨hi, rfl⟩ := rng_inv hd
      simp only [gN, List.set_cons_succ, List.set_cons_zero]
      walk_at "s"
      have shr : ∀ n : Nat, ∃ g : Nat, dr / 2 ^ n = g := fun n => ⟨_, (Int.toNat_of_nonneg (Int.ediv_nonneg hd0 (Int.le_of_lt (Int.pow_pos (by decide))))).symm⟩
      obtain ⟨g, hg⟩ := shr (4 + (0 + (i : Int) * 1)).toNat
      obtain ⟨g2, hg2⟩ := shr (14 + (0 + (i : Int) * 1)).toNat
      have hlt : g % 2 < 2 := Nat.mod_lt _ (by decide)
      rw [hg, band1]
      refine ⟨by omega, ?_⟩
      walk_at "n"
      generalize g % 2 = b at hlt
      refine sSeq_k fun N1 hN1 => ?_
      have c1 : ∀ b : Nat, b < 2 → N1 [vD (.lst (cs.map .int)), vD (.bl few), vD (.str (strOf es)), vI j, vI c, vI dr, vI (0 + (i : Int) * 1), vI b] := by
        clear hlt b
        intro b hlt
        refine hN1 _ ?_
        walk_at "v"
        rw [str_bit _ hlt, bitS_len, strOf_len]
        refine ⟨?_, by omega, es ++ [decide (b = 1)], some (Sl.own (OV.fz (D.int (0 + (i : Int) * 1)))), some (Sl.own (OV.fz (D.int b))), ?_, by simp; omega⟩
        · rcases (show b = 0 ∨ b = 1 by omega) with z | z <;> rw [z] <;> decide
        · rw [strOf_app, strOf_cons, strOf_nil, show (bitS (decide (b = 1)) ++ Str.empty) = bitS (decide (b = 1)) from Str.append_empty _]
      walk_at "v"
      cases few
      · exact c1 b hlt
      · rw [if_pos rfl]
        refine ⟨by omega, ?_⟩
        rw [hg2, bandN]
        exact c1 _ (Nat.lt_of_le_of_lt Nat.and_le_left hlt)
    · rintro δ ⟨es, o6, o7, rfl, hel⟩
      rw [rng_len] at hel
      exact ⟨es, _, _, _, _, _, rfl, by omega⟩
  · rintro δ ⟨bs, o3, o4, o5, o6, o7, rfl, hbl⟩
    walk_at "n"
    walk_at "v"
    rw [List.length_map, List.length_range] at hbl
    exact h bs (by omega)

def sp_law_kinds : DSp := fun ds P => ∃ (ss : List (Int × Int)) (u : Int) (f : Bool), ds = [.tup [.lst (ss.map spD), .int u, .bl f], .int ss.length] ∧ ss.length ≤ 1000 ∧ (∀ s ∈ ss, s.1 ≤ s.2) ∧ P (.fz (.bl true))
abbrev s_law_kinds : Stmt := top 21
theorem sc_law_kinds : FnScope ["_law_found", "_law_many", "_law_span"] ["_law_found", "_law_many"] (defScope s_law_kinds) := ⟨rfl, rfl, rfl, by decide +kernel, rfl, by decide +kernel, by decide +kernel⟩
theorem ok_law_kinds {f : Addr} {fd : FuncData} (Df : DefAt K mg "_law_kinds" s_law_kinds f fd) (B : BltV mg) (KV : KitV K) (CV_Walk : ClsV K "Walk" ns_Walk) :
    Cal P w K mg base "_law_kinds" 1 ["_law_found", "_law_many"] (spV K 2 sp_law_kinds) := by
  refine CalV.of Df sc_law_kinds (fun _ _ _ _ _ _ us hl => match us, hl with | [_, _], _ => rfl) rfl (fun cdv A outer s H E hr => ⟨_, _, (pss_cons (ps_if (pw_or (pt_not (pt_val (pe_callB call_isiD (by rfl) B.isinstance boot_isinstance (pa_cons (pv 0) (pa_cons (pe_bltn (v := .ty "tuple") (by rfl) B.tuple PyProof.Rows.boot_tuple (by rfl)) pa_nil))))) (pw_or (pt_cmpR op_ne (pe_callB call_len_seq (by rfl) B.len PySem.boot_len (pa_cons (pv 0) pa_nil)) pe_int (nomark _)) (pw_or (pt_not (pt_val (pe_callB call_isiD (by rfl) B.isinstance boot_isinstance (pa_cons (pe_ix ix_tup (pv 0) pe_int (fun _ _ => rfl)) (pa_cons (pe_bltn (v := .ty "list") (by rfl) B.list PyProof.Rows.boot_list (by rfl)) pa_nil))))) (pw_or1 (pt_cmpR op_ne (pe_callB call_len_seq (by rfl) B.len PySem.boot_len (pa_cons (pe_ix ix_tup (pv 0) pe_int (fun _ _ => rfl)) pa_nil)) (pv 1) (nomark _)))))).pt (pss_one (ps_ret pe_bl)) pss_nil)
      (pss_cons (ps_if (pw_or (pt_val (pe_callB call_isiD (by rfl) B.isinstance boot_isinstance (pa_cons (pe_ix ix_tup (pv 0) pe_int (fun _ _ => rfl)) (pa_cons (pe_bltn (v := .ty "bool") (by rfl) B.bool PyProof.Rows.boot_bool (by rfl)) pa_nil)))) (pw_or (pt_not (pt_val (pe_callB call_isiD (by rfl) B.isinstance boot_isinstance (pa_cons (pe_ix ix_tup (pv 0) pe_int (fun _ _ => rfl)) (pa_cons (pe_bltn (v := .ty "int") (by rfl) B.int PyProof.Rows.boot_int (by rfl)) pa_nil))))) (pw_or1 (pt_not (pt_val (pe_callB call_isiD (by rfl) B.isinstance boot_isinstance (pa_cons (pe_ix ix_tup (pv 0) pe_int (fun _ _ => rfl)) (pa_cons (pe_bltn (v := .ty "bool") (by rfl) B.bool PyProof.Rows.boot_bool (by rfl)) pa_nil)))))))).pt (pss_one (ps_ret pe_bl)) pss_nil)
      (pss_cons (ps_for PassesOwn.never rfl (pi_list (pe_ix ix_tup (pv 0) pe_int (fun _ _ => rfl))) (pg_name (i := 2) sc_law_kinds.nd rfl (Or.inl rfl)) (pss_cons (ps_if (pw_or (pt_not (pt_val (pe_callB call_isiD (by rfl) B.isinstance boot_isinstance (pa_cons (pv 2) (pa_cons (pe_bltn (v := .ty "tuple") (by rfl) B.tuple PyProof.Rows.boot_tuple (by rfl)) pa_nil))))) (pw_or (pt_cmpR op_ne (pe_callB call_len_seq (by rfl) B.len PySem.boot_len (pa_cons (pv 2) pa_nil)) pe_int (nomark _)) (pw_or (pt_not (pt_val (pe_callB call_isiD (by rfl) B.isinstance boot_isinstance (pa_cons (pe_ix ix_tup (pv 2) pe_int (fun _ _ => rfl)) (pa_cons (pe_bltn (v := .ty "int") (by rfl) B.int PyProof.Rows.boot_int (by rfl)) pa_nil))))) (pw_or1 (pt_val (pe_callB call_isiD (by rfl) B.isinstance boot_isinstance (pa_cons (pe_ix ix_tup (pv 2) pe_int (fun _ _ => rfl)) (pa_cons (pe_bltn (v := .ty "bool") (by rfl) B.bool PyProof.Rows.boot_bool (by rfl)) pa_nil)))))))).pt (pss_one (ps_ret pe_bl)) pss_nil)
      (pss_one (ps_if (pw_or (pt_not (pt_val (pe_callB call_isiD (by rfl) B.isinstance boot_isinstance (pa_cons (pe_ix ix_tup (pv 2) pe_int (fun _ _ => rfl)) (pa_cons (pe_bltn (v := .ty "int") (by rfl) B.int PyProof.Rows.boot_int (by rfl)) pa_nil))))) (pw_or (pt_val (pe_callB call_isiD (by rfl) B.isinstance boot_isinstance (pa_cons (pe_ix ix_tup (pv 2) pe_int (fun _ _ => rfl)) (pa_cons (pe_bltn (v := .ty "bool") (by rfl) B.bool PyProof.Rows.boot_bool (by rfl)) pa_nil)))) (pw_or1 (pt_cmpR op_gt (pe_ix ix_tup (pv 2) pe_int (fun _ _ => rfl)) (pe_ix ix_tup (pv 2) pe_int (fun _ _ => rfl)) (nomark _))))).pt (pss_one (ps_ret pe_bl)) pss_nil))))
      (pss_one (ps_ret pe_bl))))),
    (sS_seq (sS_if (sT_or (sT_not (sT_b (sF_cb (cS_isi KV) (sAB_cons sB_var (sAB_cons (sB_f sF_ty) sAB_nil))))) (sT_or (sT_test (sF_op oS_ne (sB_f (sF_cb cS_len (sAB_cons sB_var sAB_nil))) (sB_f sF_int))) (sT_or (sT_not (sT_b (sF_cb (cS_isi KV) (sAB_cons (sB_op (OpF.b oF_ixT) sB_var (sB_f sF_int)) (sAB_cons (sB_f sF_ty) sAB_nil))))) (sT_test (sF_op oS_ne (sB_f (sF_cb cS_len (sAB_cons (sB_op (OpF.b oF_ixT) sB_var (sB_f sF_int)) sAB_nil))) sB_var))))) (sS_ret (sO_f sF_bl)) sS_next)
      (sS_seq (sS_if (sT_or (sT_b (sF_cb (cS_isi KV) (sAB_cons (sB_op (OpF.b oF_ixT) sB_var (sB_f sF_int)) (sAB_cons (sB_f sF_ty) sAB_nil)))) (sT_or (sT_not (sT_b (sF_cb (cS_isi KV) (sAB_cons (sB_op (OpF.b oF_ixT) sB_var (sB_f sF_int)) (sAB_cons (sB_f sF_ty) sAB_nil))))) (sT_not (sT_b (sF_cb (cS_isi KV) (sAB_cons (sB_op (OpF.b oF_ixT) sB_var (sB_f sF_int)) (sAB_cons (sB_f sF_ty) sAB_nil))))))) (sS_ret (sO_f sF_bl)) sS_next)
      (sS_seq (sS_for (sI_list (sF_opF oF_ixT sF_var sF_int)) sG_name (sS_seq (sS_if (sT_or (sT_not (sT_b (sF_cb (cS_isi KV) (sAB_cons sB_var (sAB_cons (sB_f sF_ty) sAB_nil))))) (sT_or (sT_test (sF_op oS_ne (sB_f (sF_cb cS_len (sAB_cons sB_var sAB_nil))) (sB_f sF_int))) (sT_or (sT_not (sT_b (sF_cb (cS_isi KV) (sAB_cons (sB_op (OpF.b oF_ixT) sB_var (sB_f sF_int)) (sAB_cons (sB_f sF_ty) sAB_nil))))) (sT_b (sF_cb (cS_isi KV) (sAB_cons (sB_op (OpF.b oF_ixT) sB_var (sB_f sF_int)) (sAB_cons (sB_f sF_ty) sAB_nil))))))) (sS_ret (sO_f sF_bl)) sS_next)
      (sS_if (sT_or (sT_not (sT_b (sF_cb (cS_isi KV) (sAB_cons (sB_op (OpF.b oF_ixT) sB_var (sB_f sF_int)) (sAB_cons (sB_f sF_ty) sAB_nil))))) (sT_or (sT_b (sF_cb (cS_isi KV) (sAB_cons (sB_op (OpF.b oF_ixT) sB_var (sB_f sF_int)) (sAB_cons (sB_f sF_ty) sAB_nil)))) (sT_test (sF_op oS_b0 (sB_op (OpF.b oF_ixT) sB_var (sB_f sF_int)) (sB_op (OpF.b oF_ixT) sB_var (sB_f sF_int)))))) (sS_ret (sO_f sF_bl)) sS_next)))
      (sS_ret (sO_f sF_bl))))), ?_⟩)
  rintro ds Pr ⟨ss, u, f, rfl, hl, hw, h⟩
  walk_at "v"
  rw [if_neg (by simp)]
  refine ⟨fun i δ => ∃ o : Option Sl, δ = [vD (.tup [.lst (ss.map spD), .int u, .bl f]), vI ss.length, o], ⟨none, rfl⟩, ?_, ?_⟩
  · rintro i d δ hd ⟨o, rfl⟩
    obtain ⟨s, hs, rfl⟩ := mget hd
    have hs := hw s (List.mem_of_getElem? hs)
    simp only [gN, List.set_cons_succ, List.set_cons_zero, spD]
    walk_at "s"
    rw [if_neg (by simp)]
    walk_at "n"
    walk_at "v"
    rw [if_neg (by omega)]
    exact ⟨_, rfl⟩
  · rintro δ ⟨o, rfl⟩
    exact h

abbrev s_law : Stmt := top 22
theorem sc_law : FnScope ["_law_script", "_law_first", "_law_many", "_law_planes", "_law_bits_here", "_law_cuts", "_law_reach", "_law_spans", "_law_last", "_law_cut", "_law_found", "_law_span", "_law_ahead", "_law_one"] ["_law_script"] (defScope s_law) := ⟨rfl, rfl, rfl, by decide +kernel, rfl, by decide +kernel, by decide +kernel⟩
theorem spansQ_P : spansQ = spansP := rfl
theorem fit_sps (a : List (Int × Int)) : (D.lst (a.map spD)).fit 4 = true := by
  simp only [D.fit, List.all_eq_true]
  intro d hd
  obtain ⟨x, _, rfl⟩ := List.mem_map.mp hd
  rfl
theorem ok_law {f : Addr} {fd : FuncData} (Df : DefAt K mg "law" s_law f fd) (B : BltV mg) (KV : KitV K) (CV_Walk : ClsV K "Walk" ns_Walk) (c_law_cell_at : Cal P w K mg base "_law_cell_at" 1 ["_law_script", "_law_k"] (spV K 2 sp_law_cell_at)) (c_law_bits : Cal P w K mg base "_law_bits" 1 ["_law_cells", "_law_few"] (spV K 2 sp_law_bits)) (c_read : Cal P w K mg base "read" 7 ["bits", "many", "planes"] (spV K 3 sp_read)) (c_law_kinds : Cal P w K mg base "_law_kinds" 1 ["_law_found", "_law_many"] (spV K 2 sp_law_kinds)) :
    FnOk P w K mg base CX0 8 f fd ["_law_script"] (spLawB K) := by
  refine law_okB Df sc_law (fun cdv A outer s H E hr => ⟨_, _, (pss_cons (ps_set (i := 1) sc_law.nd rfl (Or.inl rfl) (pe_cal c_law_cell_at (hr.mono (by decide)) (by rfl) (pa_cons (pv 0) (pa_cons pe_int pa_nil))))
      (pss_cons (ps_set (i := 2) sc_law.nd rfl (Or.inl rfl) (pe_op op_add pe_int (pe_op op_mod (pv 1) pe_int)))
      (pss_cons (ps_set (i := 3) sc_law.nd rfl (Or.inl rfl) (pe_op op_mod (pe_op op_fdiv (pv 1) pe_int) pe_int))
      (pss_cons (ps_if (pt_cmpR op_eq (pe_op op_mod (pe_op op_fdiv (pv 1) pe_int) pe_int) pe_int (nomark _)) (pss_cons (ps_set (i := 2) sc_law.nd rfl (Or.inl rfl) (pe_op op_add pe_int (pe_op op_mod (pv 1) pe_int)))
      (pss_one (ps_set (i := 3) sc_law.nd rfl (Or.inl rfl) (pe_op op_add pe_int (pe_op op_mod (pe_op op_fdiv (pv 1) pe_int) pe_int))))) pss_nil)
      (pss_cons (ps_set (i := 4) sc_law.nd rfl (Or.inr rfl) (pe_cal c_law_bits (hr.mono (by decide)) (by rfl) (pa_cons (pe_slice sl_listS (pv 0) (po_some pe_int) (po_some pe_int)) (pa_cons (pe_cmpR op_eq (pe_op op_mod (pe_cal c_law_cell_at (hr.mono (by decide)) (by rfl) (pa_cons (pv 0) (pa_cons pe_int pa_nil))) pe_int) pe_int (nomark _)) pa_nil))))
      (pss_cons (ps_setComp (i := 5) sc_law.nd rfl (Or.inl rfl) rfl (pi_list (pe_slice sl_listS (pv 0) (po_some pe_int) (po_some pe_int))) (show BlkScope (defScope s_law) _ from ⟨rfl, by decide +kernel, by decide +kernel, by decide +kernel⟩) (N := ["_law_cell", "_law_bits_here"]) (ix := [none, some 4]) (show CapOf _ _ _ _ from ⟨⟨rfl, rfl, .inl rfl⟩, trivial⟩) (fun _ _ _ => (pg_name (i := 0) (show List.Nodup (["_law_cell", "_law_bits_here"] : List Str) by decide +kernel) rfl (Or.inl rfl))) (fun _ _ _ => (pe_op op_mod (pe_op op_mod (pe_op op_mulB (pv 0) pe_int) pe_int) (pe_op op_add (pe_callB call_len_str (by rfl) B.len PySem.boot_len (pa_cons (pv 1) pa_nil)) pe_int))))
      (pss_cons (ps_set (i := 6) sc_law.nd rfl (Or.inl rfl) (pe_op op_sub (pe_op op_shl pe_int (pv 3)) pe_int))
      (pss_cons (ps_set (i := 7) sc_law.nd rfl (Or.inl rfl) (pe_op op_rep (pe_lstS (pa_cons (pe_tupS (pa_cons (pe_op op_sub pe_int (pv 6)) (pa_cons (pv 6) pa_nil))) pa_nil)) (pv 2)))
      (pss_cons (ps_set (i := 8) sc_law.nd rfl (Or.inl rfl) (pe_cal c_read (hr.mono (by decide)) (by rfl) (pa_cons (pv 4) (pa_cons (pv 2) (pa_cons (pv 3) pa_nil)))))
      (pss_cons (ps_if (pt_not (pt_val (pe_cal c_law_kinds (hr.mono (by decide)) (by rfl) (pa_cons (pv 8) (pa_cons (pv 2) pa_nil))))) (pss_one (ps_ret pe_bl)) pss_nil)
      (pss_cons (ps_for PassesOwn.never rfl (pi_list (pe_callB call_sortI (by rfl) B.sorted boot_sorted (pa_cons (pe_op op_catS (pe_lstS (pa_cons pe_int (pa_cons (pe_callB call_len_str (by rfl) B.len PySem.boot_len (pa_cons (pv 4) pa_nil)) pa_nil))) (pv 5)) pa_nil))) (pg_name (i := 9) sc_law.nd rfl (Or.inl rfl)) (pss_cons (ps_set (i := 10) sc_law.nd rfl (Or.inl rfl) (pe_cal c_read (hr.mono (by decide)) (by rfl) (pa_cons (pe_slice sl_str (pv 4) po_none (po_some (pv 9))) (pa_cons (pv 2) (pa_cons (pv 3) pa_nil)))))
      (pss_cons (ps_if (pw_or (pt_not (pt_val (pe_cal c_law_kinds (hr.mono (by decide)) (by rfl) (pa_cons (pv 10) (pa_cons (pv 2) pa_nil))))) (pw_or1 (pt_cmpR op_ne (pe_ix ix_tup (pv 10) pe_int (fun _ _ => rfl)) (pe_callB (call_min2 rfl) (by rfl) B.min boot_min (pa_cons (pv 9) (pa_cons (pe_ix ix_tup (pv 8) pe_int (fun _ _ => rfl)) pa_nil))) (nomark _)))).pt (pss_one (ps_ret pe_bl)) pss_nil)
      (pss_cons (ps_if (pw_or (pw_and (pt_cmpR op_eq (pv 9) pe_int (nomark _)) (pw_and1 (pt_cmpR (op_neN hr.units) (pe_ix ix_tup (pv 10) pe_int (fun _ _ => rfl)) (pv 7) (nomark _)))).pt (pw_or1 (pt_cmpR op_ne (pe_ix ix_tup (pv 10) pe_int (fun _ _ => rfl)) (pe_and (pe_ix ix_tup (pv 8) pe_int (fun _ _ => rfl)) (pe_one (pe_cmpR op_le (pe_ix ix_tup (pv 8) pe_int (fun _ _ => rfl)) (pv 9) (nomark _)))) (nomark _)))).pt (pss_one (ps_ret pe_bl)) pss_nil)
      (pss_cons (ps_for PassesOwn.never rfl (pi_zip3 rfl B.zip (pa_cons (pe_ix ix_tup (pv 10) pe_int (fun _ _ => rfl)) (pa_cons (pv 7) (pa_cons (pe_ix ix_tup (pv 8) pe_int (fun _ _ => rfl)) pa_nil)))) (pg_tup (n := 3) rfl (pgs_cons (pg_name (i := 11) sc_law.nd rfl (Or.inl rfl)) (pgs_cons (pg_name (i := 12) sc_law.nd rfl (Or.inl rfl)) (pgs_cons (pg_name (i := 13) sc_law.nd rfl (Or.inl rfl)) pgs_nil)))) (pss_one (ps_if (pt_not (pt_chainN (pe_ix ix_tup (pv 12) pe_int (fun _ _ => rfl)) (pk_link op_le (pe_ix ix_tup (pv 11) pe_int (fun _ _ => rfl)) (pk_link op_le (pe_ix ix_tup (pv 13) pe_int (fun _ _ => rfl)) (pk_link op_le (pe_ix ix_tup (pv 13) pe_int (fun _ _ => rfl)) (pk_link op_le (pe_ix ix_tup (pv 11) pe_int (fun _ _ => rfl)) (pk_last op_le (pe_ix ix_tup (pv 12) pe_int (fun _ _ => rfl))))))))) (pss_one (ps_ret pe_bl)) pss_nil)))
      (pss_one (ps_set (i := 7) sc_law.nd rfl (Or.inl rfl) (pe_ix ix_tup (pv 10) pe_int (fun _ _ => rfl)))))))))
      (pss_one (ps_ret pe_bl))))))))))))),
    (sS_seq (sS_set (sO_f (sF_o (sO_call (sAF_cons sF_var (sAF_cons sF_int sAF_nil))))))
      (sS_seq (sS_set (sO_f (sF_op oS_i0 (sB_f sF_int) (sB_f (sF_op oS_i sB_var (sB_f sF_int))))))
      (sS_seq (sS_set (sO_f (sF_op oS_i (sB_f (sF_op oS_i sB_var (sB_f sF_int))) (sB_f sF_int))))
      (sS_seq (sS_if (sT_test (sF_op oS_eq (sB_f (sF_op oS_i (sB_f (sF_op oS_i sB_var (sB_f sF_int))) (sB_f sF_int))) (sB_f sF_int))) (sS_seq (sS_set (sO_f (sF_op oS_i0 (sB_f sF_int) (sB_f (sF_op oS_i sB_var (sB_f sF_int))))))
      (sS_set (sO_f (sF_op oS_i0 (sB_f sF_int) (sB_f (sF_op oS_i (sB_f (sF_op oS_i sB_var (sB_f sF_int))) (sB_f sF_int))))))) sS_next)
      (sS_seq (sS_set (sO_f (sF_o (sO_call (sAF_cons (sF_o (sO_slL sF_var (sP_pt (sB_f sF_int)) (sP_pt (sB_f sF_int)))) (sAF_cons (sF_op oS_eq (sB_f (sF_op oS_i (sB_f (sF_o (sO_call (sAF_cons sF_var (sAF_cons sF_int sAF_nil))))) (sB_f sF_int))) (sB_f sF_int)) sAF_nil))))))
      (sS_seq (sS_set (sO_f (sF_o (sO_comp (sI_list (sF_o (sO_slL sF_var (sP_pt (sB_f sF_int)) (sP_pt (sB_f sF_int))))) sG_name (sO_f (sF_op oS_i (sB_f (sF_op oS_i (sB_f (sF_op oS_i sB_var (sB_f sF_int))) (sB_f sF_int))) (sB_f (sF_op oS_i0 (sB_f (sF_cb cS_lenS (sAB_cons sB_var sAB_nil))) (sB_f sF_int)))))))))
      (sS_seq (sS_set (sO_f (sF_op oS_i0 (sB_f (sF_op oS_i (sB_f sF_int) sB_var)) (sB_f sF_int))))
      (sS_seq (sS_set (sO_f (sF_o (sO_rep1 (sO_lst (sAO_cons (sO_f (sF_tup (sAF_cons (sF_op oS_i0 (sB_f sF_int) sB_var) (sAF_cons sF_var sAF_nil)))) sAO_nil)) sB_var))))
      (sS_seq (sS_set (sO_f (sF_o (sO_call (sAF_cons sF_var (sAF_cons sF_var (sAF_cons sF_var sAF_nil)))))))
      (sS_seq (sS_if (sT_not (sT_b (sF_o (sO_call (sAF_cons sF_var (sAF_cons sF_var sAF_nil)))))) (sS_ret (sO_f sF_bl)) sS_next)
      (sS_seq (sS_for (sI_list (sF_o (sO_cb cO_sort (sAF_cons (sF_o (sO_catL (sF_o (sO_lst (sAO_cons (sO_f sF_int) (sAO_cons (sO_f (sF_cb cS_lenS (sAB_cons sB_var sAB_nil))) sAO_nil)))) sF_var)) sAF_nil)))) sG_name (sS_seq (sS_set (sO_f (sF_o (sO_call (sAF_cons (sF_slS sF_var sP_no (sP_pt sB_var)) (sAF_cons sF_var (sAF_cons sF_var sAF_nil)))))))
      (sS_seq (sS_if (sT_or (sT_not (sT_b (sF_o (sO_call (sAF_cons sF_var (sAF_cons sF_var sAF_nil)))))) (sT_test (sF_op oS_ne (sB_op (OpF.b oF_ixT) sB_var (sB_f sF_int)) (sB_f (sF_cb cS_min2 (sAB_cons sB_var (sAB_cons (sB_op (OpF.b oF_ixT) sB_var (sB_f sF_int)) sAB_nil))))))) (sS_ret (sO_f sF_bl)) sS_next)
      (sS_seq (sS_if (sT_or (sT_and (sT_test (sF_op oS_eq sB_var (sB_f sF_int))) (sT_test (sF_op oS_neN (sB_op (OpF.b oF_ixT) sB_var (sB_f sF_int)) sB_var))) (sT_test (sF_op oS_ne (sB_op (OpF.b oF_ixT) sB_var (sB_f sF_int)) (sB_f (sF_andV (sF_opF oF_ixT sF_var sF_int) (sF_op oS_b0 (sB_op (OpF.b oF_ixT) sB_var (sB_f sF_int)) sB_var)))))) (sS_ret (sO_f sF_bl)) sS_next)
      (sS_seq (sS_for (sI_zip3 (sAF_cons (sF_opF oF_ixT sF_var sF_int) (sAF_cons sF_var (sAF_cons (sF_opF oF_ixT sF_var sF_int) sAF_nil)))) (sG_tup (sGs_cons sG_name (sGs_cons sG_name (sGs_cons sG_name sGs_nil)))) (sS_if (sT_not (sT_chainN (sB_op (OpF.b oF_ixT) sB_var (sB_f sF_int)) (sK_link oS_b0 (sB_op (OpF.b oF_ixT) sB_var (sB_f sF_int)) (sK_link oS_b0 (sB_op (OpF.b oF_ixT) sB_var (sB_f sF_int)) (sK_link oS_b0 (sB_op (OpF.b oF_ixT) sB_var (sB_f sF_int)) (sK_link oS_b0 (sB_op (OpF.b oF_ixT) sB_var (sB_f sF_int)) (sK_last oS_b0 (sB_op (OpF.b oF_ixT) sB_var (sB_f sF_int))))))))) (sS_ret (sO_f sF_bl)) sS_next))
      (sS_set (sO_f (sF_opF oF_ixT sF_var sF_int))))))))
      (sS_ret (sO_f sF_bl))))))))))))), ?_⟩)
  intro ns hns hb
  walk_at "s"
  refine ⟨ns, 0, rfl, by decide, ?_⟩
  walk_at "n"
  generalize hfi : ns.getD (0 : Int).toNat 0 = first
  walk_at "s"
  walk_at "n"
  walk_at "s"
  walk_at "n"
  refine sSeq_k fun N hN => ?_
  have key : ∀ m n : Nat, 1 ≤ m → m ≤ 9 → n ≤ 123 → N [vD (.lst (ns.map .int)), vI first, vI m, vI n, none, none, none, none, none, none, none, none, none, none] := by
    intro m n hm0 hm hn
    refine hN _ ?_
    walk_at "s"
    refine ⟨ns, 1, rfl, by decide, ?_⟩
    walk_at "v"
    obtain ⟨cs, hcs, hcl, hcm⟩ := cut_in ns 2 62
    rw [hcs, List.map_map, show ((OV.val ∘ OV.fz) : D → D) = id from rfl, List.map_id]
    refine ⟨cs, _, rfl, Nat.le_trans hcl ?_, (fun m hm => hb m (hcm m hm)), fun bs hbl => ?_⟩
    · rw [show (62 : Int) = ((62 : Nat) : Int) from rfl, HT.sIx_nat, show (2 : Int) = ((2 : Nat) : Int) from rfl, HT.sIx_nat]
      omega
    walk_at "v"
    walk_at "n"
    have hmn : 3 * m * n ≤ 4000 := by
      have := Nat.mul_le_mul (Nat.mul_le_mul_left 3 hm) hn
      omega
    obtain ⟨q1, q2, q3, q4⟩ := start_facts m n
    obtain ⟨v, u1, a1, a2, _, a4, _, _, _, a8, a9, _⟩ := fol_run (m := m) (by omega) (by omega) bs _ (start_shape (by omega) n) (by omega) (by rw [q2, List.length_nil]; omega)
    have hS0 := start_shape (m := (m : Int)) (by omega) n
    have cut : ∀ c : Nat, c ≤ bs.length → _ := fun c hc => cut_any (m := m) (by omega) (by omega) a1 hS0 (by omega) (by rw [q2, List.length_nil]; omega) q3 hc
    have hlv := spansP_len a2 (by omega)
    have tv := shp_small a2 (by omega)
    obtain ⟨ds, hds, hdl, hdm⟩ := cut_in ns 2 12
    walk_at "s"
    rw [hds, List.map_map, show ((OV.val ∘ OV.fz) : D → D) = id from rfl, List.map_id]
    refine CmpW.map ds D.int (fun x => .fz (.int (x * 40692 % 2147483399 % ((bs.length : Int) + 1)))) (by rw [show (12 : Int) = ((12 : Nat) : Int) from rfl, HT.sIx_nat] at hdl; omega) (fun x hx Q q => ?_) ?_
    · walk_at "v"
      rw [strOf_len]
      exact ⟨⟨Nat.le_trans (hb x (hdm x hx)) (by decide), ib_cs (ib_sm (by decide) (by decide))⟩, by omega, by omega, q⟩
    walk_at "v"
    have hcuts : ∃ cs : List Int, List.map OV.val (ds.map fun x => OV.fz (D.int (x * 40692 % 2147483399 % ((bs.length : Int) + 1)))) = cs.map D.int ∧ cs.length ≤ 10 ∧ ∀ c ∈ cs, 0 ≤ c ∧ c ≤ (bs.length : Int) := by
      refine ⟨ds.map fun x => x * 40692 % 2147483399 % ((bs.length : Int) + 1), by rw [List.map_map, List.map_map]; rfl, ?_, fun c hc => ?_⟩
      · rw [List.length_map]
        refine Nat.le_trans hdl ?_
        rw [show (12 : Int) = ((12 : Nat) : Int) from rfl, HT.sIx_nat, show (2 : Int) = ((2 : Nat) : Int) from rfl, HT.sIx_nat]
        omega
      · obtain ⟨x, _, rfl⟩ := List.mem_map.mp hc
        exact ⟨Int.emod_nonneg _ (by omega), by have := Int.emod_lt_of_pos (x * 40692 % 2147483399) (show (0 : Int) < (bs.length : Int) + 1 by omega); omega⟩
    obtain ⟨cu, hcu, hcul, hcur⟩ := hcuts
    rw [hcu]
    walk_at "n"
    walk_at "s"
    refine ⟨⟨by omega, by omega, by decide⟩, ?_⟩
    rw [two_nat]
    walk_at "n"
    walk_at "s"
    refine ⟨⟨by omega, by omega⟩, ?_⟩
    walk_at "n"
    walk_at "s"
    refine ⟨bs, m, n, v, rfl, by omega, a1, tv.1, tv.2.1, by omega, tv.2.2.2, ?_⟩
    rw [spans_P]
    walk_at "v"
    generalize hw0 : Wk.turn ⟨n, 0, [], [⟨0, 0, m, 1 - 2 ^ n, 2 ^ n - 1⟩], []⟩ = w0 at *
    have e7 : List.map OV.val (List.replicate (m : Int).toNat (OV.fz (D.tup [D.int (0 - (2 ^ n - 1)), D.int (2 ^ n - 1)]))) = (spansP w0).map spD := by
      rw [← spansQ_P, ← hw0, start_spans, List.map_replicate, List.map_replicate, Int.toNat_natCast]
      congr 1
      show D.tup [D.int (0 - (2 ^ n - 1)), D.int (2 ^ n - 1)] = D.tup [D.int (1 - 2 ^ n), D.int (2 ^ n - 1)]
      rw [show (0 - (2 ^ n - 1) : Int) = 1 - 2 ^ n by omega]
    rw [e7]
    walk_at "n"
    walk_at "s"
    refine ⟨spansP v, v.us, decide (v.pl < 0), by rw [hlv], by omega, spansP_wide a2, ?_⟩
    show if (!true) = true then _ else _
    rw [if_neg (by decide)]
    walk_at "n"
    walk_at "s"
    rw [strOf_len]
    refine ⟨by omega, by omega, 0 :: (bs.length : Int) :: cu, rfl, by simp only [List.length_cons]; omega, fun ms hms hinc => ?_⟩
    have hmr : ∀ c ∈ ms, 0 ≤ c ∧ c ≤ (bs.length : Int) := fun c hc => by
      have := hms.mem_iff.mp hc
      rcases List.mem_cons.mp this with z | z
      · omega
      · rcases List.mem_cons.mp z with z | z
        · omega
        · exact hcur c z
    refine ⟨fun i δ => ∃ (c : Nat) (u : Wk) (o9 o10 o11 o12 o13 : Option Sl), δ = [vD (.lst (ns.map .int)), vI first, vI m, vI n, vD (.str (strOf bs)), vD (.lst (cu.map .int)), vI (2 ^ n - 1), vD (.lst ((spansP u).map spD)), vD (.tup [.lst ((spansP v).map spD), .int v.us, .bl (decide (v.pl < 0))]), o9, o10, o11, o12, o13] ∧ Fol w0 (bs.take c) u ∧ Shp m u ∧ u.pl ≤ 5000 ∧ (u.re.length : Int) + u.pl < 800000 ∧ ∀ j y, i ≤ j → ms[j]? = some y → (c : Int) ≤ y, ⟨0, w0, none, none, none, none, none, rfl, .nil, hS0, by omega, by rw [q2, List.length_nil]; omega, fun j y _ hy => (hmr y (List.mem_of_getElem? hy)).1⟩, ?_, ?_⟩
    · rintro i d δ hd ⟨c', u', o9, o10, o11, o12, o13, rfl, f1, f2, f3, f4, f5⟩
      obtain ⟨y, hy, rfl⟩ := mget hd
      obtain ⟨hy0, hy1⟩ := hmr y (List.mem_of_getElem? hy)
      obtain ⟨c, rfl⟩ : ∃ c : Nat, y = c := ⟨y.toNat, by omega⟩
      have hcc : c' ≤ c := by have := f5 i c (Nat.le_refl _) hy; omega
      obtain ⟨u, g1, g2, g3, g4, g5, g6, g7, g8⟩ := cut c (by omega)
      have hup : ∀ j z, i + 1 ≤ j → ms[j]? = some z → (c : Int) ≤ z := fun j z hj hz => by
        obtain ⟨h1, e1⟩ := List.getElem?_eq_some_iff.mp hy
        obtain ⟨h2, e2⟩ := List.getElem?_eq_some_iff.mp hz
        have := List.pairwise_iff_getElem.mp hinc i j h1 h2 (by omega)
        rw [e1, e2] at this
        exact this
      have mid := cut_more (m := m) (by omega) (by omega) hcc f1 f2 f3 f4 g1
      have tu := shp_small g2 (by omega)
      have hlu := spansP_len g2 (by omega)
      have hlu' := spansP_len f2 (by omega)
      simp only [gN, List.set_cons_succ, List.set_cons_zero]
      walk_at "s"
      rw [strOf_len, str_take bs (by omega)]
      refine ⟨by omega, bs.take c, m, n, u, rfl, by omega, by rw [hw0]; exact g1, tu.1, tu.2.1, by omega, tu.2.2.2, ?_⟩
      rw [spans_P]
      walk_at "v"
      walk_at "n"
      walk_at "s"
      refine ⟨spansP u, u.us, decide (u.pl < 0), by rw [hlu], by omega, spansP_wide g2, ?_⟩
      show if (!true) = true then _ else _
      rw [if_neg (by decide), if_neg (by simp only [Bool.not_eq_true, Bool.not_eq_false', decide_eq_true_eq]; exact g5)]
      walk_at "n"
      have hsame : (c : Int) = 0 → spansP u = spansP u' := fun z => by
        have hc0 : c = 0 := by omega
        have hc1 : c' = 0 := by omega
        subst hc0 hc1
        rw [fol_det g1 f1]
      walk_at "s"
      have c1 : N [vD (.lst (ns.map .int)), vI first, vI m, vI n, vD (.str (strOf bs)), vD (.lst (cu.map .int)), vI (2 ^ n - 1), vD (.lst ((spansP u').map spD)), vD (.tup [.lst ((spansP v).map spD), .int v.us, .bl (decide (v.pl < 0))]), vI c, vD (.tup [.lst ((spansP u).map spD), .int u.us, .bl (decide (u.pl < 0))]), o11, o12, o13] := by
        walk_at "n"
        walk_at "s"
        rw [hlu, hlu', hlv]
        refine ⟨Nat.le_refl _, Nat.le_refl _, fun i δ => ∃ o11 o12 o13 : Option Sl, δ = [vD (.lst (ns.map .int)), vI first, vI m, vI n, vD (.str (strOf bs)), vD (.lst (cu.map .int)), vI (2 ^ n - 1), vD (.lst ((spansP u').map spD)), vD (.tup [.lst ((spansP v).map spD), .int v.us, .bl (decide (v.pl < 0))]), vI c, vD (.tup [.lst ((spansP u).map spD), .int u.us, .bl (decide (u.pl < 0))]), o11, o12, o13], ⟨o11, o12, o13, rfl⟩, ?_, ?_⟩
        · rintro i d δ hd ⟨o11, o12, o13, rfl⟩
          obtain ⟨z, hz, rfl⟩ := mget hd
          have him : i < m := by
            have := (List.getElem?_eq_some_iff.mp hz).1
            rw [List.length_zip, List.length_map] at this
            omega
          obtain ⟨s1, s2, n1, n2, n3, n4, n5⟩ := nest (by omega) mid f2 g2 him
          obtain ⟨s3, s4, k1, k2, k3, k4, k5⟩ := nest (by omega) g3 g2 a2 him
          rw [n2] at k1
          cases k1
          rw [spansQ_P] at n1 n2 k2
          obtain ⟨hz1, hz2, hz3⟩ : z.1 = spD s2 ∧ z.2.1 = spD s1 ∧ z.2.2 = spD s4 := by
            rw [List.getElem?_zip_eq_some] at hz
            obtain ⟨c1, c2⟩ := hz
            rw [List.getElem?_zip_eq_some] at c2
            obtain ⟨c2, c3⟩ := c2
            rw [List.getElem?_map, n2] at c1
            rw [List.getElem?_map, n1] at c2
            rw [List.getElem?_map, k2] at c3
            exact ⟨(Option.some.inj c1).symm, (Option.some.inj c2).symm, (Option.some.inj c3).symm⟩
          rw [hz1, hz2, hz3]
          have sd : ∀ s : Int × Int, spD s = .tup [.int s.1, .int s.2] := fun _ => rfl
          rw [sd s1, sd s2, sd s4]
          simp only [gT, gsCons, gsNil, gN, List.length_cons, List.length_nil, Nat.reduceAdd, true_and, List.set_cons_succ, List.set_cons_zero]
          walk_at "v"
          rw [if_pos n3, if_pos k3, if_pos k4, if_pos k5, if_neg (by simpa using n5)]
          exact ⟨_, _, _, rfl⟩
        · rintro δ ⟨o11, o12, o13, rfl⟩
          walk_at "n"
          walk_at "v"
          exact ⟨c, u, _, _, _, _, _, rfl, g1, g2, by omega, by rw [q2, List.length_nil] at g8; omega, hup⟩
      have c2 : if v.pl < 0 then if (!decide (decide (u.pl < 0) = decide (v.us ≤ (c : Int)))) = true then OV.fz (D.bl false) = OV.fz (D.bl true) else N [vD (.lst (ns.map .int)), vI first, vI m, vI n, vD (.str (strOf bs)), vD (.lst (cu.map .int)), vI (2 ^ n - 1), vD (.lst ((spansP u').map spD)), vD (.tup [.lst ((spansP v).map spD), .int v.us, .bl (decide (v.pl < 0))]), vI c, vD (.tup [.lst ((spansP u).map spD), .int u.us, .bl (decide (u.pl < 0))]), o11, o12, o13]
          else if (!decide (decide (u.pl < 0) = false)) = true then OV.fz (D.bl false) = OV.fz (D.bl true) else N [vD (.lst (ns.map .int)), vI first, vI m, vI n, vD (.str (strOf bs)), vD (.lst (cu.map .int)), vI (2 ^ n - 1), vD (.lst ((spansP u').map spD)), vD (.tup [.lst ((spansP v).map spD), .int v.us, .bl (decide (v.pl < 0))]), vI c, vD (.tup [.lst ((spansP u).map spD), .int u.us, .bl (decide (u.pl < 0))]), o11, o12, o13] := by
        by_cases hv : v.pl < 0
        · rw [if_pos hv, if_neg (by
            rw [decide_eq_true hv, Bool.true_and] at g6
            simp only [Bool.not_eq_true, Bool.not_eq_false', decide_eq_true_eq]
            exact g6)]
          exact c1
        · rw [if_neg hv, if_neg (by
            rw [decide_eq_false hv, Bool.false_and] at g6
            simp only [Bool.not_eq_true, Bool.not_eq_false', decide_eq_true_eq]
            exact g6)]
          exact c1
      by_cases hc0 : (c : Int) = 0
      · rw [if_pos hc0]
        refine ⟨fit_sps _, fit_sps _, ?_⟩
        rw [if_neg (by rw [hsame hc0, D.eqb_refl (fit_sps _)]; decide)]
        exact c2
      · rw [if_neg hc0]
        exact c2
    · rintro δ ⟨c', u', o9, o10, o11, o12, o13, rfl, _⟩
      walk_at "n"
      walk_at "v"
  walk_at "v"
  split
  · have := key (1 + first % 2).toNat (60 + first / 648 % 64).toNat (by omega) (by omega) (by omega)
    rw [Int.toNat_of_nonneg (by omega), Int.toNat_of_nonneg (by omega)] at this
    exact this
  · have := key (1 + first % 9).toNat (first / 9 % 9).toNat (by omega) (by omega) (by omega)
    rw [Int.toNat_of_nonneg (by omega), Int.toNat_of_nonneg (by omega)] at this
    exact this

end
theorem all_mk {l : PySem.W.OpenLaw} {w : World} {K : PySem.W.Frag} {h : Heap} {mg : Str → Option Value} {fa : Addr} (X : K.In h) (G : h.Ns mainGlobals mg) (hfa : mg "law" = some (.ref fa))
    {f1 : Addr} {od1 an1 : Option Addr} {sl1 : Array (Option Value)} {oc1 kV1 dc1 pm1 cd1 ct1 : Value}
    {f2 : Addr} {od2 an2 : Option Addr} {sl2 : Array (Option Value)} {oc2 kV2 dc2 pm2 cd2 ct2 : Value}
    {f3 : Addr} {od3 an3 : Option Addr} {sl3 : Array (Option Value)} {oc3 kV3 dc3 pm3 cd3 ct3 : Value}
    {f4 : Addr} {od4 an4 : Option Addr} {sl4 : Array (Option Value)} {oc4 kV4 dc4 pm4 cd4 ct4 : Value}
    {f5 : Addr} {od5 an5 : Option Addr} {sl5 : Array (Option Value)} {oc5 kV5 dc5 pm5 cd5 ct5 : Value}
    {f6 : Addr} {od6 an6 : Option Addr} {sl6 : Array (Option Value)} {oc6 kV6 dc6 pm6 cd6 ct6 : Value}
    {f7 : Addr} {od7 an7 : Option Addr} {sl7 : Array (Option Value)} {oc7 kV7 dc7 pm7 cd7 ct7 : Value}
    {f8 : Addr} {od8 an8 : Option Addr} {sl8 : Array (Option Value)} {oc8 kV8 dc8 pm8 cd8 ct8 : Value}
    {f9 : Addr} {od9 an9 : Option Addr} {sl9 : Array (Option Value)} {oc9 kV9 dc9 pm9 cd9 ct9 : Value}
    {f10 : Addr} {od10 an10 : Option Addr} {sl10 : Array (Option Value)} {oc10 kV10 dc10 pm10 cd10 ct10 : Value}
    {f11 : Addr} {od11 an11 : Option Addr} {sl11 : Array (Option Value)} {oc11 kV11 dc11 pm11 cd11 ct11 : Value}
    {f12 : Addr} {od12 an12 : Option Addr} {sl12 : Array (Option Value)} {oc12 kV12 dc12 pm12 cd12 ct12 : Value}
    {f13 : Addr} {od13 an13 : Option Addr} {sl13 : Array (Option Value)} {oc13 kV13 dc13 pm13 cd13 ct13 : Value}
    {f14 : Addr} {od14 an14 : Option Addr} {sl14 : Array (Option Value)} {oc14 kV14 dc14 pm14 cd14 ct14 : Value}
    {f15 : Addr} {od15 an15 : Option Addr} {sl15 : Array (Option Value)} {oc15 kV15 dc15 pm15 cd15 ct15 : Value}
    {f16 : Addr} {od16 an16 : Option Addr} {sl16 : Array (Option Value)} {oc16 kV16 dc16 pm16 cd16 ct16 : Value}
    {f17 : Addr} {od17 an17 : Option Addr} {sl17 : Array (Option Value)} {oc17 kV17 dc17 pm17 cd17 ct17 : Value}
    {f18 : Addr} {od18 an18 : Option Addr} {sl18 : Array (Option Value)} {oc18 kV18 dc18 pm18 cd18 ct18 : Value}
    {f19 : Addr} {od19 an19 : Option Addr} {sl19 : Array (Option Value)} {oc19 kV19 dc19 pm19 cd19 ct19 : Value}
    {C_Walk : Addr} (aC_Walk : PySem.W.nsIn K mainGlobals "Walk" = some (some (.ref C_Walk))) (pg_Walk : PySem.W.plainGet K C_Walk Str.empty = true) (hd_Walk : PySem.W.hasDictIn K C_Walk = true) (po_Walk : PySem.W.plainOver K C_Walk = true) (sa_Walk : PySem.W.findIn K (.ref C_Walk) "__setattr__" = some (some (.builtin "object.__setattr__"))) (mk_Walk : PySem.W.makesIn K C_Walk = true) (kc_Walk : PySem.W.keepIn K (.ref C_Walk) = true) (n_Walk_0 : PySem.W.findIn K (.ref C_Walk) "plane" = some none) (n_Walk_1 : PySem.W.findIn K (.ref C_Walk) "used" = some none) (n_Walk_2 : PySem.W.findIn K (.ref C_Walk) "row_ends" = some none) (n_Walk_3 : PySem.W.findIn K (.ref C_Walk) "walked" = some none) (n_Walk_4 : PySem.W.findIn K (.ref C_Walk) "ahead" = some none)
    (a1 : PySem.W.nsIn K mainGlobals "part_of_one" = some (some (.ref f1))) (l1 : K.lookup f1 = some ⟨oc1, od1, .func (PySem.W.fnOf "part_of_one" "part_of_one" (defArgs s_part_of_one) (defBody s_part_of_one) (defScope s_part_of_one) .none kV1 dc1 pm1 an1 cd1 ct1), sl1⟩) (d1 : PySem.W.codeIn K cd1 "part_of_one" = true) (k1 : PySem.W.keepIn K (.ref f1) = true)
    (a2 : PySem.W.nsIn K mainGlobals "calm_span" = some (some (.ref f2))) (l2 : K.lookup f2 = some ⟨oc2, od2, .func (PySem.W.fnOf "calm_span" "calm_span" (defArgs s_calm_span) (defBody s_calm_span) (defScope s_calm_span) .none kV2 dc2 pm2 an2 cd2 ct2), sl2⟩) (d2 : PySem.W.codeIn K cd2 "calm_span" = true) (k2 : PySem.W.keepIn K (.ref f2) = true)
    (a3 : PySem.W.nsIn K mainGlobals "signed_span" = some (some (.ref f3))) (l3 : K.lookup f3 = some ⟨oc3, od3, .func (PySem.W.fnOf "signed_span" "signed_span" (defArgs s_signed_span) (defBody s_signed_span) (defScope s_signed_span) .none kV3 dc3 pm3 an3 cd3 ct3), sl3⟩) (d3 : PySem.W.codeIn K cd3 "signed_span" = true) (k3 : PySem.W.keepIn K (.ref f3) = true)
    (a4 : PySem.W.nsIn K mainGlobals "figured_span" = some (some (.ref f4))) (l4 : K.lookup f4 = some ⟨oc4, od4, .func (PySem.W.fnOf "figured_span" "figured_span" (defArgs s_figured_span) (defBody s_figured_span) (defScope s_figured_span) .none kV4 dc4 pm4 an4 cd4 ct4), sl4⟩) (d4 : PySem.W.codeIn K cd4 "figured_span" = true) (k4 : PySem.W.keepIn K (.ref f4) = true)
    (a5 : PySem.W.findIn K (.ref C_Walk) "__init__" = some (some (.ref f5))) (i5 : PySem.W.isFn K (.ref f5) = true) (l5 : K.lookup f5 = some ⟨oc5, od5, .func (PySem.W.fnOf "__init__" "Walk.__init__" (defArgs s_Walk___init__) (defBody s_Walk___init__) (defScope s_Walk___init__) .none kV5 dc5 pm5 an5 cd5 ct5), sl5⟩) (d5 : PySem.W.codeIn K cd5 "Walk.__init__" = true) (k5 : PySem.W.keepIn K (.ref f5) = true)
    (a6 : PySem.W.findIn K (.ref C_Walk) "turn" = some (some (.ref f6))) (i6 : PySem.W.isFn K (.ref f6) = true) (l6 : K.lookup f6 = some ⟨oc6, od6, .func (PySem.W.fnOf "turn" "Walk.turn" (defArgs s_Walk_turn) (defBody s_Walk_turn) (defScope s_Walk_turn) .none kV6 dc6 pm6 an6 cd6 ct6), sl6⟩) (d6 : PySem.W.codeIn K cd6 "Walk.turn" = true) (k6 : PySem.W.keepIn K (.ref f6) = true)
    (a7 : PySem.W.findIn K (.ref C_Walk) "is_whole" = some (some (.ref f7))) (i7 : PySem.W.isFn K (.ref f7) = true) (l7 : K.lookup f7 = some ⟨oc7, od7, .func (PySem.W.fnOf "is_whole" "Walk.is_whole" (defArgs s_Walk_is_whole) (defBody s_Walk_is_whole) (defScope s_Walk_is_whole) .none kV7 dc7 pm7 an7 cd7 ct7), sl7⟩) (d7 : PySem.W.codeIn K cd7 "Walk.is_whole" = true) (k7 : PySem.W.keepIn K (.ref f7) = true)
    (a8 : PySem.W.findIn K (.ref C_Walk) "spans" = some (some (.ref f8))) (i8 : PySem.W.isFn K (.ref f8) = true) (l8 : K.lookup f8 = some ⟨oc8, od8, .func (PySem.W.fnOf "spans" "Walk.spans" (defArgs s_Walk_spans) (defBody s_Walk_spans) (defScope s_Walk_spans) .none kV8 dc8 pm8 an8 cd8 ct8), sl8⟩) (d8 : PySem.W.codeIn K cd8 "Walk.spans" = true) (k8 : PySem.W.keepIn K (.ref f8) = true)
    (a9 : PySem.W.findIn K (.ref C_Walk) "follow" = some (some (.ref f9))) (i9 : PySem.W.isFn K (.ref f9) = true) (l9 : K.lookup f9 = some ⟨oc9, od9, .func (PySem.W.fnOf "follow" "Walk.follow" (defArgs s_Walk_follow) (defBody s_Walk_follow) (defScope s_Walk_follow) .none kV9 dc9 pm9 an9 cd9 ct9), sl9⟩) (d9 : PySem.W.codeIn K cd9 "Walk.follow" = true) (k9 : PySem.W.keepIn K (.ref f9) = true)
    (a10 : PySem.W.findIn K (.ref C_Walk) "take" = some (some (.ref f10))) (i10 : PySem.W.isFn K (.ref f10) = true) (l10 : K.lookup f10 = some ⟨oc10, od10, .func (PySem.W.fnOf "take" "Walk.take" (defArgs s_Walk_take) (defBody s_Walk_take) (defScope s_Walk_take) .none kV10 dc10 pm10 an10 cd10 ct10), sl10⟩) (d10 : PySem.W.codeIn K cd10 "Walk.take" = true) (k10 : PySem.W.keepIn K (.ref f10) = true)
    (a11 : PySem.W.findIn K (.ref C_Walk) "walk_awake" = some (some (.ref f11))) (i11 : PySem.W.isFn K (.ref f11) = true) (l11 : K.lookup f11 = some ⟨oc11, od11, .func (PySem.W.fnOf "walk_awake" "Walk.walk_awake" (defArgs s_Walk_walk_awake) (defBody s_Walk_walk_awake) (defScope s_Walk_walk_awake) .none kV11 dc11 pm11 an11 cd11 ct11), sl11⟩) (d11 : PySem.W.codeIn K cd11 "Walk.walk_awake" = true) (k11 : PySem.W.keepIn K (.ref f11) = true)
    (a12 : PySem.W.findIn K (.ref C_Walk) "wake" = some (some (.ref f12))) (i12 : PySem.W.isFn K (.ref f12) = true) (l12 : K.lookup f12 = some ⟨oc12, od12, .func (PySem.W.fnOf "wake" "Walk.wake" (defArgs s_Walk_wake) (defBody s_Walk_wake) (defScope s_Walk_wake) .none kV12 dc12 pm12 an12 cd12 ct12), sl12⟩) (d12 : PySem.W.codeIn K cd12 "Walk.wake" = true) (k12 : PySem.W.keepIn K (.ref f12) = true)
    (a13 : PySem.W.findIn K (.ref C_Walk) "calm" = some (some (.ref f13))) (i13 : PySem.W.isFn K (.ref f13) = true) (l13 : K.lookup f13 = some ⟨oc13, od13, .func (PySem.W.fnOf "calm" "Walk.calm" (defArgs s_Walk_calm) (defBody s_Walk_calm) (defScope s_Walk_calm) .none kV13 dc13 pm13 an13 cd13 ct13), sl13⟩) (d13 : PySem.W.codeIn K cd13 "Walk.calm" = true) (k13 : PySem.W.keepIn K (.ref f13) = true)
    (a14 : PySem.W.nsIn K mainGlobals "followed" = some (some (.ref f14))) (l14 : K.lookup f14 = some ⟨oc14, od14, .func (PySem.W.fnOf "followed" "followed" (defArgs s_followed) (defBody s_followed) (defScope s_followed) .none kV14 dc14 pm14 an14 cd14 ct14), sl14⟩) (d14 : PySem.W.codeIn K cd14 "followed" = true) (k14 : PySem.W.keepIn K (.ref f14) = true)
    (a15 : PySem.W.nsIn K mainGlobals "read" = some (some (.ref f15))) (l15 : K.lookup f15 = some ⟨oc15, od15, .func (PySem.W.fnOf "read" "read" (defArgs s_read) (defBody s_read) (defScope s_read) .none kV15 dc15 pm15 an15 cd15 ct15), sl15⟩) (d15 : PySem.W.codeIn K cd15 "read" = true) (k15 : PySem.W.keepIn K (.ref f15) = true)
    (a16 : PySem.W.nsIn K mainGlobals "_law_cell_at" = some (some (.ref f16))) (l16 : K.lookup f16 = some ⟨oc16, od16, .func (PySem.W.fnOf "_law_cell_at" "_law_cell_at" (defArgs s_law_cell_at) (defBody s_law_cell_at) (defScope s_law_cell_at) .none kV16 dc16 pm16 an16 cd16 ct16), sl16⟩) (d16 : PySem.W.codeIn K cd16 "_law_cell_at" = true) (k16 : PySem.W.keepIn K (.ref f16) = true)
    (a17 : PySem.W.nsIn K mainGlobals "_law_bits" = some (some (.ref f17))) (l17 : K.lookup f17 = some ⟨oc17, od17, .func (PySem.W.fnOf "_law_bits" "_law_bits" (defArgs s_law_bits) (defBody s_law_bits) (defScope s_law_bits) .none kV17 dc17 pm17 an17 cd17 ct17), sl17⟩) (d17 : PySem.W.codeIn K cd17 "_law_bits" = true) (k17 : PySem.W.keepIn K (.ref f17) = true)
    (a18 : PySem.W.nsIn K mainGlobals "_law_kinds" = some (some (.ref f18))) (l18 : K.lookup f18 = some ⟨oc18, od18, .func (PySem.W.fnOf "_law_kinds" "_law_kinds" (defArgs s_law_kinds) (defBody s_law_kinds) (defScope s_law_kinds) .none kV18 dc18 pm18 an18 cd18 ct18), sl18⟩) (d18 : PySem.W.codeIn K cd18 "_law_kinds" = true) (k18 : PySem.W.keepIn K (.ref f18) = true)
    (a19 : PySem.W.nsIn K mainGlobals "law" = some (some (.ref f19))) (l19 : K.lookup f19 = some ⟨oc19, od19, .func (PySem.W.fnOf "law" "law" (defArgs s_law) (defBody s_law) (defScope s_law) .none kV19 dc19 pm19 an19 cd19 ct19), sl19⟩) (d19 : PySem.W.codeIn K cd19 "law" = true) (k19 : PySem.W.keepIn K (.ref f19) = true)
    {tk_ASKS : Tok} (v_ASKS : PySem.W.nsIn K mainGlobals "ASKS" = some (some (.int 0 tk_ASKS)))
    {tk_START : Tok} (v_START : PySem.W.nsIn K mainGlobals "START" = some (some (.int 1 tk_START)))
    {tk_END : Tok} (v_END : PySem.W.nsIn K mainGlobals "END" = some (some (.int 2 tk_END)))
    {tk_SPAN : Tok} (v_SPAN : PySem.W.nsIn K mainGlobals "SPAN" = some (some (.int 3 tk_SPAN)))
    {tk_WAKING : Tok} (v_WAKING : PySem.W.nsIn K mainGlobals "WAKING" = some (some (.int 0 tk_WAKING)))
    {tk_WAKING_FIRST : Tok} (v_WAKING_FIRST : PySem.W.nsIn K mainGlobals "WAKING_FIRST" = some (some (.int 1 tk_WAKING_FIRST)))
    {tk_SIGN : Tok} (v_SIGN : PySem.W.nsIn K mainGlobals "SIGN" = some (some (.int 2 tk_SIGN)))
    {tk_FIGURE : Tok} (v_FIGURE : PySem.W.nsIn K mainGlobals "FIGURE" = some (some (.int 3 tk_FIGURE)))
    (z1 : PySem.W.nsIn K mainGlobals "len" = some none) (z2 : PySem.W.nsIn K mainGlobals "range" = some none) (z3 : PySem.W.nsIn K mainGlobals "max" = some none) (z4 : PySem.W.nsIn K mainGlobals "min" = some none) (z5 : PySem.W.nsIn K mainGlobals "isinstance" = some none) (z6 : PySem.W.nsIn K mainGlobals "int" = some none) (z7 : PySem.W.nsIn K mainGlobals "bool" = some none) (z8 : PySem.W.nsIn K mainGlobals "tuple" = some none) (z9 : PySem.W.nsIn K mainGlobals "list" = some none) (z10 : PySem.W.nsIn K mainGlobals "all" = some none) (z11 : PySem.W.nsIn K mainGlobals "zip" = some none) (z12 : PySem.W.nsIn K mainGlobals "reversed" = some none) (z13 : PySem.W.nsIn K mainGlobals "abs" = some none) (z14 : PySem.W.nsIn K mainGlobals "any" = some none) (z15 : PySem.W.nsIn K mainGlobals "sum" = some none) (z16 : PySem.W.nsIn K mainGlobals "sorted" = some none) (z17 : PySem.W.nsIn K mainGlobals "set" = some none) (z18 : PySem.W.nsIn K mainGlobals "enumerate" = some none) (z19 : PySem.W.nsIn K mainGlobals "dict" = some none) (z20 : PySem.W.nsIn K mainGlobals "str" = some none) (z21 : PySem.W.nsIn K mainGlobals "divmod" = some none) (z22 : PySem.W.nsIn K mainGlobals "ord" = some none)
    (t1 : PySem.W.kitOne K (.type "int") (.type "int") = some true) (t2 : PySem.W.kitOne K (.type "int") (.type "bool") = some false) (t3 : PySem.W.kitOne K (.type "int") (.type "str") = some false) (t4 : PySem.W.kitOne K (.type "int") (.type "tuple") = some false) (t5 : PySem.W.kitOne K (.type "int") (.type "list") = some false) (t6 : PySem.W.kitOne K (.type "bool") (.type "int") = some true) (t7 : PySem.W.kitOne K (.type "bool") (.type "bool") = some true) (t8 : PySem.W.kitOne K (.type "bool") (.type "str") = some false) (t9 : PySem.W.kitOne K (.type "bool") (.type "tuple") = some false) (t10 : PySem.W.kitOne K (.type "bool") (.type "list") = some false) (t11 : PySem.W.kitOne K (.type "NoneType") (.type "int") = some false) (t12 : PySem.W.kitOne K (.type "NoneType") (.type "bool") = some false) (t13 : PySem.W.kitOne K (.type "NoneType") (.type "str") = some false) (t14 : PySem.W.kitOne K (.type "NoneType") (.type "tuple") = some false) (t15 : PySem.W.kitOne K (.type "NoneType") (.type "list") = some false) (t16 : PySem.W.kitOne K (.type "str") (.type "int") = some false) (t17 : PySem.W.kitOne K (.type "str") (.type "bool") = some false) (t18 : PySem.W.kitOne K (.type "str") (.type "str") = some true) (t19 : PySem.W.kitOne K (.type "str") (.type "tuple") = some false) (t20 : PySem.W.kitOne K (.type "str") (.type "list") = some false) (t21 : PySem.W.kitOne K (.type "tuple") (.type "int") = some false) (t22 : PySem.W.kitOne K (.type "tuple") (.type "bool") = some false) (t23 : PySem.W.kitOne K (.type "tuple") (.type "str") = some false) (t24 : PySem.W.kitOne K (.type "tuple") (.type "tuple") = some true) (t25 : PySem.W.kitOne K (.type "tuple") (.type "list") = some false) (t26 : PySem.W.kitOne K (.type "list") (.type "int") = some false) (t27 : PySem.W.kitOne K (.type "list") (.type "bool") = some false) (t28 : PySem.W.kitOne K (.type "list") (.type "str") = some false) (t29 : PySem.W.kitOne K (.type "list") (.type "tuple") = some false) (t30 : PySem.W.kitOne K (.type "list") (.type "list") = some true) (t31 : PySem.W.kitOne K (.type "dict") (.type "int") = some false) (t32 : PySem.W.kitOne K (.type "dict") (.type "bool") = some false) (t33 : PySem.W.kitOne K (.type "dict") (.type "str") = some false) (t34 : PySem.W.kitOne K (.type "dict") (.type "tuple") = some false) (t35 : PySem.W.kitOne K (.type "dict") (.type "list") = some false) :
    ∃ fd : FuncData, (∀ (s : Shared) (v : Value), BindsTo s fd ⟨[v], []⟩ [("_law_script", v)]) ∧ ∀ base : Heap, K.In base → base.Ns mainGlobals mg → FnOk l.prog w K mg base CX0 8 fa fd ["_law_script"] (spLawB K) := by
  have e := hfa.symm.trans (PySem.W.mg_of X G a19)
  cases e
  have B : BltV mg := ⟨⟨PySem.W.mg_none_of X G z1, PySem.W.mg_none_of X G z2, PySem.W.mg_none_of X G z3, PySem.W.mg_none_of X G z4, PySem.W.mg_none_of X G z5, PySem.W.mg_none_of X G z6, PySem.W.mg_none_of X G z7, PySem.W.mg_none_of X G z8, PySem.W.mg_none_of X G z9, PySem.W.mg_none_of X G z10, PySem.W.mg_none_of X G z11, PySem.W.mg_none_of X G z12⟩, PySem.W.mg_none_of X G z13, PySem.W.mg_none_of X G z14, PySem.W.mg_none_of X G z15, PySem.W.mg_none_of X G z16, PySem.W.mg_none_of X G z17, PySem.W.mg_none_of X G z18, PySem.W.mg_none_of X G z19, PySem.W.mg_none_of X G z20, PySem.W.mg_none_of X G z21, PySem.W.mg_none_of X G z22⟩
  have KV : KitV K := KitV.of t1 t2 t3 t4 t5 t6 t7 t8 t9 t10 t11 t12 t13 t14 t15 t16 t17 t18 t19 t20 t21 t22 t23 t24 t25 t26 t27 t28 t29 t30 t31 t32 t33 t34 t35
  have CV_Walk : ClsV K "Walk" ns_Walk := ⟨⟨_, aC_Walk, ⟨pg_Walk, hd_Walk, po_Walk, sa_Walk⟩, fun f hf => by simp only [ns_Walk, List.mem_cons, List.not_mem_nil, or_false] at hf; rcases hf with rfl | rfl | rfl | rfl | rfl <;> first | exact n_Walk_0 | exact n_Walk_1 | exact n_Walk_2 | exact n_Walk_3 | exact n_Walk_4⟩, by decide +kernel, by decide⟩
  have g_ASKS : ∃ t, mg "ASKS" = some (.int 0 t) := ⟨_, PySem.W.mg_of X G v_ASKS⟩
  have g_START : ∃ t, mg "START" = some (.int 1 t) := ⟨_, PySem.W.mg_of X G v_START⟩
  have g_END : ∃ t, mg "END" = some (.int 2 t) := ⟨_, PySem.W.mg_of X G v_END⟩
  have g_SPAN : ∃ t, mg "SPAN" = some (.int 3 t) := ⟨_, PySem.W.mg_of X G v_SPAN⟩
  have g_WAKING : ∃ t, mg "WAKING" = some (.int 0 t) := ⟨_, PySem.W.mg_of X G v_WAKING⟩
  have g_WAKING_FIRST : ∃ t, mg "WAKING_FIRST" = some (.int 1 t) := ⟨_, PySem.W.mg_of X G v_WAKING_FIRST⟩
  have g_SIGN : ∃ t, mg "SIGN" = some (.int 2 t) := ⟨_, PySem.W.mg_of X G v_SIGN⟩
  have g_FIGURE : ∃ t, mg "FIGURE" = some (.int 3 t) := ⟨_, PySem.W.mg_of X G v_FIGURE⟩
  have D1 : DefAt K mg "part_of_one" s_part_of_one _ _ := ⟨fun_mk (st := s_part_of_one) l1 d1 k1, PySem.W.mg_of X G a1⟩
  have D2 : DefAt K mg "calm_span" s_calm_span _ _ := ⟨fun_mk (st := s_calm_span) l2 d2 k2, PySem.W.mg_of X G a2⟩
  have D3 : DefAt K mg "signed_span" s_signed_span _ _ := ⟨fun_mk (st := s_signed_span) l3 d3 k3, PySem.W.mg_of X G a3⟩
  have D4 : DefAt K mg "figured_span" s_figured_span _ _ := ⟨fun_mk (st := s_figured_span) l4 d4 k4, PySem.W.mg_of X G a4⟩
  have D5 : Fun K "__init__" "Walk.__init__" s_Walk___init__ _ _ := fun_mk (x := "__init__") (qual := "Walk.__init__") (st := s_Walk___init__) l5 d5 k5
  have M_Walk : MakAt K mg "Walk" _ := ⟨⟨_, aC_Walk, ⟨mk_Walk, a5, i5, kc_Walk⟩, PySem.W.mg_of X G aC_Walk⟩⟩
  have D6 : MetAt K "Walk" "turn" "Walk.turn" s_Walk_turn _ _ := ⟨fun_mk (x := "turn") (qual := "Walk.turn") (st := s_Walk_turn) l6 d6 k6, ⟨_, aC_Walk, ⟨pg_Walk, hd_Walk, po_Walk, sa_Walk⟩, ⟨a6, i6, k6⟩⟩⟩
  have D7 : MetAt K "Walk" "is_whole" "Walk.is_whole" s_Walk_is_whole _ _ := ⟨fun_mk (x := "is_whole") (qual := "Walk.is_whole") (st := s_Walk_is_whole) l7 d7 k7, ⟨_, aC_Walk, ⟨pg_Walk, hd_Walk, po_Walk, sa_Walk⟩, ⟨a7, i7, k7⟩⟩⟩
  have D8 : MetAt K "Walk" "spans" "Walk.spans" s_Walk_spans _ _ := ⟨fun_mk (x := "spans") (qual := "Walk.spans") (st := s_Walk_spans) l8 d8 k8, ⟨_, aC_Walk, ⟨pg_Walk, hd_Walk, po_Walk, sa_Walk⟩, ⟨a8, i8, k8⟩⟩⟩
  have D9 : MetAt K "Walk" "follow" "Walk.follow" s_Walk_follow _ _ := ⟨fun_mk (x := "follow") (qual := "Walk.follow") (st := s_Walk_follow) l9 d9 k9, ⟨_, aC_Walk, ⟨pg_Walk, hd_Walk, po_Walk, sa_Walk⟩, ⟨a9, i9, k9⟩⟩⟩
  have D10 : MetAt K "Walk" "take" "Walk.take" s_Walk_take _ _ := ⟨fun_mk (x := "take") (qual := "Walk.take") (st := s_Walk_take) l10 d10 k10, ⟨_, aC_Walk, ⟨pg_Walk, hd_Walk, po_Walk, sa_Walk⟩, ⟨a10, i10, k10⟩⟩⟩
  have D11 : MetAt K "Walk" "walk_awake" "Walk.walk_awake" s_Walk_walk_awake _ _ := ⟨fun_mk (x := "walk_awake") (qual := "Walk.walk_awake") (st := s_Walk_walk_awake) l11 d11 k11, ⟨_, aC_Walk, ⟨pg_Walk, hd_Walk, po_Walk, sa_Walk⟩, ⟨a11, i11, k11⟩⟩⟩
  have D12 : MetAt K "Walk" "wake" "Walk.wake" s_Walk_wake _ _ := ⟨fun_mk (x := "wake") (qual := "Walk.wake") (st := s_Walk_wake) l12 d12 k12, ⟨_, aC_Walk, ⟨pg_Walk, hd_Walk, po_Walk, sa_Walk⟩, ⟨a12, i12, k12⟩⟩⟩
  have D13 : MetAt K "Walk" "calm" "Walk.calm" s_Walk_calm _ _ := ⟨fun_mk (x := "calm") (qual := "Walk.calm") (st := s_Walk_calm) l13 d13 k13, ⟨_, aC_Walk, ⟨pg_Walk, hd_Walk, po_Walk, sa_Walk⟩, ⟨a13, i13, k13⟩⟩⟩
  have D14 : DefAt K mg "followed" s_followed _ _ := ⟨fun_mk (st := s_followed) l14 d14 k14, PySem.W.mg_of X G a14⟩
  have D15 : DefAt K mg "read" s_read _ _ := ⟨fun_mk (st := s_read) l15 d15 k15, PySem.W.mg_of X G a15⟩
  have D16 : DefAt K mg "_law_cell_at" s_law_cell_at _ _ := ⟨fun_mk (st := s_law_cell_at) l16 d16 k16, PySem.W.mg_of X G a16⟩
  have D17 : DefAt K mg "_law_bits" s_law_bits _ _ := ⟨fun_mk (st := s_law_bits) l17 d17 k17, PySem.W.mg_of X G a17⟩
  have D18 : DefAt K mg "_law_kinds" s_law_kinds _ _ := ⟨fun_mk (st := s_law_kinds) l18 d18 k18, PySem.W.mg_of X G a18⟩
  have D19 : DefAt K mg "law" s_law _ _ := ⟨fun_mk (st := s_law) l19 d19 k19, PySem.W.mg_of X G a19⟩
  refine ⟨PySem.W.fnOf "law" "law" (defArgs s_law) (defBody s_law) (defScope s_law) .none kV19 dc19 pm19 an19 cd19 ct19, fun s v => .of_eq rfl, fun base _ _ => ?_⟩
  have c_law_cell_at := ok_law_cell_at (P := l.prog) (w := w) (base := base) D16 B KV CV_Walk
  have c_law_bits := ok_law_bits (P := l.prog) (w := w) (base := base) D17 B KV CV_Walk
  have c_calm_span := ok_calm_span (P := l.prog) (w := w) (base := base) D2 B KV CV_Walk
  have c_Walk_turn := ok_Walk_turn (P := l.prog) (w := w) (base := base) D6 B KV CV_Walk
  have c_Walk___init__ := ok_Walk___init__ (P := l.prog) (w := w) (base := base) D5 M_Walk B KV CV_Walk g_WAKING c_calm_span c_Walk_turn
  have c_Walk_is_whole := ok_Walk_is_whole (P := l.prog) (w := w) (base := base) D7 B KV CV_Walk
  have c_Walk_walk_awake := ok_Walk_walk_awake (P := l.prog) (w := w) (base := base) D11 B KV CV_Walk g_FIGURE g_START g_END
  have c_figured_span := ok_figured_span (P := l.prog) (w := w) (base := base) D4 B KV CV_Walk
  have c_signed_span := ok_signed_span (P := l.prog) (w := w) (base := base) D3 B KV CV_Walk
  have c_part_of_one := ok_part_of_one (P := l.prog) (w := w) (base := base) D1 B KV CV_Walk g_END g_START
  have c_Walk_wake := ok_Walk_wake (P := l.prog) (w := w) (base := base) D12 B KV CV_Walk g_SIGN g_WAKING g_WAKING_FIRST g_START g_END g_SPAN c_part_of_one
  have c_Walk_calm := ok_Walk_calm (P := l.prog) (w := w) (base := base) D13 B KV CV_Walk g_WAKING_FIRST g_WAKING g_ASKS g_START g_END c_calm_span c_Walk_wake
  have c_Walk_take := ok_Walk_take (P := l.prog) (w := w) (base := base) D10 B KV CV_Walk g_FIGURE g_ASKS g_SIGN g_SPAN c_Walk_walk_awake c_figured_span c_signed_span c_Walk_wake c_Walk_calm c_Walk_turn
  have c_Walk_follow := ok_Walk_follow (P := l.prog) (w := w) (base := base) D9 B KV CV_Walk c_Walk_is_whole c_Walk_take
  have c_followed := ok_followed (P := l.prog) (w := w) (base := base) D14 B KV CV_Walk c_Walk___init__ c_Walk_follow
  have c_Walk_spans := ok_Walk_spans (P := l.prog) (w := w) (base := base) D8 B KV CV_Walk g_SPAN g_END g_START
  have c_read := ok_read (P := l.prog) (w := w) (base := base) D15 B KV CV_Walk c_followed c_Walk_spans c_Walk_is_whole
  have c_law_kinds := ok_law_kinds (P := l.prog) (w := w) (base := base) D18 B KV CV_Walk
  exact ok_law (P := l.prog) (w := w) (base := base) D19 B KV CV_Walk c_law_cell_at c_law_bits c_read c_law_kinds
end Lw
open PySem PySem.W PyProof.Rows
set_option maxRecDepth 100000 in
set_option maxHeartbeats 0 in
theorem PySem.Challenge.cw_liftwave_k26_nested_known_holds : PySem.Challenge.rw_liftwave_k26_nested_known.Holds := by
  w_on; o_law; k_head; (case hw => w_witness2)
  k_fill
  refine L2.law_walkB (k := 8) (l := PySem.Challenge.rw_liftwave_k26_nested_known) rfl rfl ⟨rfl, by decide, by decide⟩ (fun w h Y => PySem.W.kIn_of Y) ?F
  case F =>
    intro w mg fa h KX G hmg
    refine' Lw.all_mk KX G hmg ?aC_Walk ?pg_Walk ?hd_Walk ?po_Walk ?sa_Walk ?mk_Walk ?kc_Walk ?n_Walk_0 ?n_Walk_1 ?n_Walk_2 ?n_Walk_3 ?n_Walk_4 ?a1 ?l1 ?d1 ?k1 ?a2 ?l2 ?d2 ?k2 ?a3 ?l3 ?d3 ?k3 ?a4 ?l4 ?d4 ?k4 ?a5 ?i5 ?l5 ?d5 ?k5 ?a6 ?i6 ?l6 ?d6 ?k6 ?a7 ?i7 ?l7 ?d7 ?k7 ?a8 ?i8 ?l8 ?d8 ?k8 ?a9 ?i9 ?l9 ?d9 ?k9 ?a10 ?i10 ?l10 ?d10 ?k10 ?a11 ?i11 ?l11 ?d11 ?k11 ?a12 ?i12 ?l12 ?d12 ?k12 ?a13 ?i13 ?l13 ?d13 ?k13 ?a14 ?l14 ?d14 ?k14 ?a15 ?l15 ?d15 ?k15 ?a16 ?l16 ?d16 ?k16 ?a17 ?l17 ?d17 ?k17 ?a18 ?l18 ?d18 ?k18 ?a19 ?l19 ?d19 ?k19 ?v_ASKS ?v_START ?v_END ?v_SPAN ?v_WAKING ?v_WAKING_FIRST ?v_SIGN ?v_FIGURE ?z1 ?z2 ?z3 ?z4 ?z5 ?z6 ?z7 ?z8 ?z9 ?z10 ?z11 ?z12 ?z13 ?z14 ?z15 ?z16 ?z17 ?z18 ?z19 ?z20 ?z21 ?z22 ?t1 ?t2 ?t3 ?t4 ?t5 ?t6 ?t7 ?t8 ?t9 ?t10 ?t11 ?t12 ?t13 ?t14 ?t15 ?t16 ?t17 ?t18 ?t19 ?t20 ?t21 ?t22 ?t23 ?t24 ?t25 ?t26 ?t27 ?t28 ?t29 ?t30 ?t31 ?t32 ?t33 ?t34 ?t35
    (case aC_Walk => k_is); (case pg_Walk => k_is); (case hd_Walk => k_is); (case po_Walk => k_is); (case sa_Walk => k_is); (case mk_Walk => k_is); (case kc_Walk => k_is); (case n_Walk_0 => k_is); (case n_Walk_1 => k_is); (case n_Walk_2 => k_is); (case n_Walk_3 => k_is); (case n_Walk_4 => k_is)
    (case a1 => k_is); (case l1 => k_is); (case d1 => k_is); (case k1 => k_is); (case a2 => k_is); (case l2 => k_is); (case d2 => k_is); (case k2 => k_is)
    (case a3 => k_is); (case l3 => k_is); (case d3 => k_is); (case k3 => k_is); (case a4 => k_is); (case l4 => k_is); (case d4 => k_is); (case k4 => k_is)
    (case a5 => k_is); (case i5 => k_is); (case l5 => k_is); (case d5 => k_is); (case k5 => k_is); (case a6 => k_is); (case i6 => k_is); (case l6 => k_is); (case d6 => k_is); (case k6 => k_is)
    (case a7 => k_is); (case i7 => k_is); (case l7 => k_is); (case d7 => k_is); (case k7 => k_is); (case a8 => k_is); (case i8 => k_is); (case l8 => k_is); (case d8 => k_is); (case k8 => k_is)
    (case a9 => k_is); (case i9 => k_is); (case l9 => k_is); (case d9 => k_is); (case k9 => k_is); (case a10 => k_is); (case i10 => k_is); (case l10 => k_is); (case d10 => k_is); (case k10 => k_is)
    (case a11 => k_is); (case i11 => k_is); (case l11 => k_is); (case d11 => k_is); (case k11 => k_is); (case a12 => k_is); (case i12 => k_is); (case l12 => k_is); (case d12 => k_is); (case k12 => k_is)
    (case a13 => k_is); (case i13 => k_is); (case l13 => k_is); (case d13 => k_is); (case k13 => k_is); (case a14 => k_is); (case l14 => k_is); (case d14 => k_is); (case k14 => k_is)
    (case a15 => k_is); (case l15 => k_is); (case d15 => k_is); (case k15 => k_is); (case a16 => k_is); (case l16 => k_is); (case d16 => k_is); (case k16 => k_is)
    (case a17 => k_is); (case l17 => k_is); (case d17 => k_is); (case k17 => k_is); (case a18 => k_is); (case l18 => k_is); (case d18 => k_is); (case k18 => k_is)
    (case a19 => k_is); (case l19 => k_is); (case d19 => k_is); (case k19 => k_is)
    (case v_ASKS => k_is); (case v_START => k_is); (case v_END => k_is); (case v_SPAN => k_is); (case v_WAKING => k_is); (case v_WAKING_FIRST => k_is); (case v_SIGN => k_is); (case v_FIGURE => k_is)
    (case z1 => k_is); (case z2 => k_is); (case z3 => k_is); (case z4 => k_is); (case z5 => k_is); (case z6 => k_is); (case z7 => k_is); (case z8 => k_is); (case z9 => k_is); (case z10 => k_is); (case z11 => k_is); (case z12 => k_is); (case z13 => k_is); (case z14 => k_is); (case z15 => k_is); (case z16 => k_is); (case z17 => k_is); (case z18 => k_is); (case z19 => k_is); (case z20 => k_is); (case z21 => k_is); (case z22 => k_is)
    (case t1 => kit_is); (case t2 => kit_is); (case t3 => kit_is); (case t4 => kit_is); (case t5 => kit_is); (case t6 => kit_is); (case t7 => kit_is); (case t8 => kit_is); (case t9 => kit_is); (case t10 => kit_is); (case t11 => kit_is); (case t12 => kit_is); (case t13 => kit_is); (case t14 => kit_is); (case t15 => kit_is); (case t16 => kit_is); (case t17 => kit_is); (case t18 => kit_is); (case t19 => kit_is); (case t20 => kit_is); (case t21 => kit_is); (case t22 => kit_is); (case t23 => kit_is); (case t24 => kit_is); (case t25 => kit_is); (case t26 => kit_is); (case t27 => kit_is); (case t28 => kit_is); (case t29 => kit_is); (case t30 => kit_is); (case t31 => kit_is); (case t32 => kit_is); (case t33 => kit_is); (case t34 => kit_is); (case t35 => kit_is)

