import PyProof.Rows.All
import Wide.All
import OpenK.AllK
import Wide.FinOn
import Lean
import PyProof.EqAt
import PyProof.EqKinds
import PyProof.TupleCall
import PyProof.ListNew
import PyProof.WalksMore
import PyProof.ReprLoop
import PyProof.FactsAll.list
import PyProof.FactsAll.tuple
import KE.KRevIter
import PyProof.NeKinds
import PyProof.ConsumeWalk
import KE.LcSums
import PyProof.SliceSyntax
import PyProof.EnumFor
import PyProof.EnumMake
import PyProof.EnumStmt
import PyProof.ListRange
import PyProof.ZipIter
import PyProof.FactsAll.range_2
import PyProof.Rows.FactsN_divmod
import PyProof.Rows.SumAny
import OpenK.KOwn
import KE.KTryMore
import PyProof.NsDelKeeps
import PyProof.Rows.StrJoin2
import PyProof.StrBlockI
import PyProof.StrOps2
import PyProof.StrWalks
import PyProof.CompMap
import PyProof.Rows.SortWalk
import PyProof.Rows.TupIter
import OpenK.KTop
import PyProof.SliceList
import PyProof.ListStr
import KE.KxWritten
import KE.KIsAll
import KE.KIsNot
import PyProof.ExcArgsOwn
import KE.KIntText
import KE.IntTextLaws
import PyProof.StrCalls
import PyProof.ReprStr
import PyProof.StrLawsRepr
import PyProof.FString
import KE.KTryOn
import PyProof.EqAt
import PyProof.Rows.StrInSeq3
import PyProof.FactsAll.tuple_2
import PyProof.FactsAll.tuple_3
import PyProof.StrLawsIn
import PyProof.Rows.SeqMore
import PyProof.ListMulRoad
import PyProof.FactsAll.tuple
import PyProof.FactsAll.int
import PyProof.FactsAll.list_3
import PyProof.AutoListH
import PyProof.Rows.StrSplitJoin
import PyProof.FactsAll.str_7
import KE.KLam
import PySem.Challenge.RW_liftwave_k39_least
set_option Elab.async false
set_option linter.all false
set_option maxRecDepth 100000
namespace L2
open PySem PySem.Spec PyProof.Rows

abbrev Key := Sum Int Str
def keyIs : Key → Value → Bool
  | .inl k, v => Value.isInt k v
  | .inr x, v => Value.isStrOf x v
def keyH (w : World) : Key → Int
  | .inl k => hashInt k
  | .inr x => hashStr w x
theorem keyIs_shape : ∀ {k : Key} {v : Value}, keyIs k v = true → (∃ i t, k = Sum.inl i ∧ v = Value.int i t) ∨ (∃ x t, k = Sum.inr x ∧ v = Value.str x t)
  | .inl i, v, h => by
    obtain ⟨t, e⟩ := Value.isInt_shape h
    exact .inl ⟨i, t, rfl, e⟩
  | .inr x, v, h => by
    obtain ⟨t, e⟩ := Value.isStrOf_shape h
    exact .inr ⟨x, t, rfl, e⟩
theorem key_ll (a b : Int) : decide ((Sum.inl a : Key) = Sum.inl b) = (a == b) := by
  by_cases e : a = b
  · subst e; simp
  · have h : ¬ (Sum.inl a : Key) = Sum.inl b := fun q => e (Sum.inl.inj q)
    rw [decide_eq_false h]
    exact (beq_eq_false_iff_ne.mpr e).symm
theorem key_rr (a b : Str) : decide ((Sum.inr a : Key) = Sum.inr b) = decide (a = b) := by
  by_cases e : a = b
  · subst e; simp
  · have h : ¬ (Sum.inr a : Key) = Sum.inr b := fun q => e (Sum.inr.inj q)
    rw [decide_eq_false h, decide_eq_false e]
theorem key_lr (a : Int) (b : Str) : decide ((Sum.inl a : Key) = Sum.inr b) = false := decide_eq_false (fun q => nomatch q)
theorem key_rl (a : Str) (b : Int) : decide ((Sum.inr a : Key) = Sum.inl b) = false := decide_eq_false (fun q => nomatch q)

def mixKind (prog : Program) (w : World) : PySem.KeyKind prog w Key where
  is := keyIs
  hash := keyH w
  inj := fun v a b ha hb => by
    rcases keyIs_shape ha with ⟨i, t, rfl, rfl⟩ | ⟨x, t, rfl, rfl⟩
    · rcases keyIs_shape hb with ⟨j, u, rfl, e⟩ | ⟨y, u, rfl, e⟩
      · injection e with e1 _; rw [e1]
      · exact nomatch e
    · rcases keyIs_shape hb with ⟨j, u, rfl, e⟩ | ⟨y, u, rfl, e⟩
      · exact nomatch e
      · injection e with e1 _; rw [e1]
  byValue := fun k v h => by
    rcases keyIs_shape h with ⟨i, t, rfl, rfl⟩ | ⟨x, t, rfl, rfl⟩ <;> rfl
  pyHash := fun hv h => by
    rcases keyIs_shape hv with ⟨i, t, rfl, rfl⟩ | ⟨x, t, rfl, rfl⟩
    · exact wpAny_pyHash_int h
    · exact wpAny_pyHash_str h
  eqBool := fun hu hv h => by
    rcases keyIs_shape hu with ⟨i, t, rfl, rfl⟩ | ⟨x, t, rfl, rfl⟩
    · rcases keyIs_shape hv with ⟨j, u, rfl, rfl⟩ | ⟨y, u, rfl, rfl⟩
      · rw [key_ll] at h; exact wpAny_eqBool_int h
      · rw [key_lr] at h; exact SeqAt.EqAt.int_str i t y u _ _ _ _ h
    · rcases keyIs_shape hv with ⟨j, u, rfl, rfl⟩ | ⟨y, u, rfl, rfl⟩
      · rw [key_rl] at h; exact SeqAt.EqAt.str_int x t j u _ _ _ _ h
      · rw [key_rr] at h; exact wpAny_eqBool_str h
  «strs» := fun k x t v h => by
    rcases keyIs_shape h with ⟨i, u, rfl, e⟩ | ⟨y, u, rfl, e⟩
    · exact nomatch e
    · injection e with e1 _
      subst e1
      cases v <;> rfl

end L2

namespace L2
open PySem PySem.Spec PyProof.Rows

inductive V where
  | non | bl (b : Bool) | int (i : Int) | str (x : Str) | byt (b : Array UInt8) | flt (b : UInt64) | ref (a : Addr) | ty (n : String)
  deriving DecidableEq

def RelV : V → Value → Prop
  | .non, u => u = Value.none
  | .bl b, u => u = Value.bool b
  | .int i, u => ∃ t, u = Value.int i t
  | .str x, u => ∃ t, u = Value.str x t
  | .byt b, u => ∃ t, u = Value.bytes b t
  | .flt b, u => ∃ t, u = Value.float b t
  | .ref a, u => u = Value.ref a
  | .ty n, u => u = Value.type n

abbrev Vals : List V → List Value → Prop := Paired RelV
theorem Vals.length {xs : List V} {us : List Value} (r : Vals xs us) : xs.length = us.length := Paired.length r
theorem Vals.get : ∀ {xs : List V} {us : List Value} {i : Nat} {x : V}, Vals xs us → xs[i]? = some x → ∃ u, us[i]? = some u ∧ RelV x u
  | _, _, _, _, .nil, e => by simp at e
  | _, _, 0, _, .cons r _, e => by simp at e; subst e; exact ⟨_, rfl, r⟩
  | _, _, i + 1, x, .cons _ t, e => by
    obtain ⟨u, h1, h2⟩ := Vals.get t e
    exact ⟨u, h1, h2⟩
theorem Vals.set {x : V} {u : Value} (r : RelV x u) : ∀ {xs : List V} {us : List Value} (i : Nat), Vals xs us → Vals (xs.set i x) (us.set i u)
  | _, _, _, .nil => .nil
  | _, _, 0, .cons _ t => .cons r t
  | _, _, i + 1, .cons q t => .cons q (Vals.set r i t)
theorem Vals.append : ∀ {xs ys : List V} {us ws : List Value}, Vals xs us → Vals ys ws → Vals (xs ++ ys) (us ++ ws)
  | _, _, _, _, .nil, s => s
  | _, _, _, _, .cons r t, s => .cons r (Vals.append t s)
theorem Vals.take : ∀ {xs : List V} {us : List Value} (n : Nat), Vals xs us → Vals (xs.take n) (us.take n)
  | _, _, 0, _ => .nil
  | _, _, _ + 1, .nil => .nil
  | _, _, n + 1, .cons r t => .cons r (Vals.take n t)
theorem Vals.drop : ∀ {xs : List V} {us : List Value} (n : Nat), Vals xs us → Vals (xs.drop n) (us.drop n)
  | _, _, 0, r => r
  | _, _, _ + 1, .nil => .nil
  | _, _, n + 1, .cons _ t => Vals.drop n t
def RelO : Option V → Option Value → Prop
  | some v, some u => RelV v u
  | none, none => True
  | _, _ => False
def KV {κ : Type} : List (κ × V) → List (κ × Value) → Prop := Paired fun (p : κ × V) (q : κ × Value) => p.1 = q.1 ∧ RelV p.2 q.2

def kV : Key → V
  | .inl i => .int i
  | .inr x => .str x

inductive HO where
  /-- a list -/
  | lst (xs : List V)
  /-- a tuple (never changes) -/
  | tup (xs : List V)
  /-- a dict whose keys are ints and texts; one whose keys are tuples of ints and texts (the empty one is both) -/
  | dK (kvs : List (Key × V)) | dT (kvs : List (List Key × V))
  /-- a set of ints: its members, its size -/
  | set (S : Int → Bool) (n : Nat)
  /-- an instance of the class at C, its dict at dx, its attributes -/
  | ins (C dx : Addr) (fs : List (Str × V))
  /-- the dict of the instance at x -/
  | own (x : Addr)
  /-- the dict of an exception -/
  | xd (fs : List (Str × V))
  /-- a bound method, f of x -/
  | met (f x : Addr)
  /-- a range object lo, lo + 1, .. below hi -/
  | rng (lo hi : Int)
  /-- a thing that is known to the object (the script; a dict while a loop walks it): read, never written while it is so -/
  | frz (o : Obj) (u : HO)
  /-- a code object's table -/
  | tbl (ps : Array Value)
  | cod (p : Pos) (q : Str)
  /-- any other thing, by what is true of its one object (a def of one's own: SetO a S n := HO.ext fun h => ..) -/
  | ext (φ : Heap → Prop)

def isCod (oc : Obj) (q : Str) : Prop := ∃ vs t, oc.data = .fields vs ∧ vs[1]? = some (.str q t)
def refd (u : HO) : Prop := (∃ xs, u = .tup xs) ∨ ∃ oc c q, u = .frz oc (.own c) ∧ isCod oc q
abbrev Hp := Addr → Option HO
def upd (H : Hp) (a : Addr) (o : HO) : Hp := fun b => if b = a then some o else H b
theorem upd_same {H : Hp} {a : Addr} {o : HO} : upd H a o a = some o := by unfold upd; rw [if_pos rfl]
theorem upd_ne {H : Hp} {a b : Addr} {o : HO} (h : b ≠ a) : upd H a o b = H b := by unfold upd; rw [if_neg h]
theorem ne_of_none {H : Hp} {a b : Addr} {o : HO} (h : H a = some o) (h' : H b = none) : a ≠ b := by
  intro e; subst e; rw [h] at h'; cases h'

section
variable (P : Program) (w : World)
def ObjOk (H : Hp) (h : Heap) (a : Addr) : HO → Prop
  | .lst xs => xs.length ≤ sizeLine ∧ ∃ (its : List Value) (n : Nat), Vals xs its ∧ h.get? a = some { cls := .type "list", data := .seq its.toArray n }
  | .tup xs => xs.length ≤ sizeLine ∧ ∃ its : List Value, Vals xs its ∧ IsTup h a its.toArray
  | .dK kvs => kvs.length ≤ sizeLine ∧ (a == sysModules) = false ∧ ∃ vs, KV kvs vs ∧ h.DictOf (mixKind P w) a vs
  | .dT kvs => kvs.length ≤ sizeLine ∧ (a == sysModules) = false ∧ ∃ xs : List (List Key × Addr × Value),
      Paired (fun (p : List Key × V) (q : List Key × Addr × Value) => p.1 = q.1 ∧ H q.2.1 = some (.tup (p.1.map kV)) ∧ RelV p.2 q.2.2) kvs xs ∧
      ∃ o es ep, h.get? a = some o ∧ o.ExactDict ∧ o.data = .dict es ep ∧ es.toList = xs.map (entryOfKey (tupleKind (mixKind P w))) ∧ (xs.map (·.1)).Nodup
  | .set S n => h.SetOf (intKind P w) a S n
  | .ins C dx fs => H dx = some (.own a) ∧ fs.length ≤ 1000 ∧ dx ≠ a ∧ h.get? a = some (PySem.W.instObj C dx) ∧
      ∃ mA, h.Ns1 dx mA ∧ (∀ f, RelO (fs.lookup f) (mA f)) ∧ PySem.Within mA (fs.map (·.1))
  | .own _ => ∃ o, h.get? a = some o
  | .xd fs => ∃ mA, h.Ns1 a mA ∧ ∀ f, RelO (fs.lookup f) (mA f)
  | .rng lo hi => ∃ t u v, h.get? a = some { cls := .type "range", data := .fields #[.int lo t, .int hi u, .int 1 v] }
  | .frz o u => h.get? a = some o ∧ ObjOk H h a u
  | .tbl ps => h.get? a = some { cls := .none, data := .fields ps }
  | .cod p q => ∃ ps : Array Value, h.get? a = some { cls := .none, data := .fields ps } ∧ TriplesOk ps.toList ∧ ∀ v, codeAmong p ps.toList = some v → ∃ c oc, v = .ref c ∧ H c = some (.frz oc (.own c)) ∧ isCod oc q
  | .met f x => h.get? a = some (PySem.W.methodObj (.ref f) (.ref x))
  | .ext φ => φ h ∧ (∃ o, h.get? a = some o) ∧ ∀ h1 h2 : Heap, φ h1 → (∀ o, h1.get? a = some o → h2.get? a = some o) → φ h2
def HOk (H : Hp) (h : Heap) : Prop := ∀ a o, H a = some o → ObjOk P w H h a o
end

section
variable {P : Program} {w : World} {H H' : Hp} {h h' : Heap} {a : Addr} {o : HO}
theorem ObjOk.lt (x : ObjOk P w H h a o) : a < h.objs.size := by
  cases o with
  | lst xs => obtain ⟨_, _, _, _, e⟩ := x; exact Heap.lt_size e
  | tup xs => obtain ⟨_, _, _, p⟩ := x; exact p.lt
  | dK kvs => obtain ⟨_, _, _, _, o, _, _, e, _⟩ := x; exact Heap.lt_size e
  | dT kvs => obtain ⟨_, _, _, _, o, _, _, e, _⟩ := x; exact Heap.lt_size e
  | set S n => obtain ⟨o, _, _, _, e, _⟩ := x; exact Heap.lt_size e
  | ins C dx fs => obtain ⟨_, _, _, e, _⟩ := x; exact Heap.lt_size e
  | own y => obtain ⟨_, e⟩ := x; exact Heap.lt_size e
  | xd fs => obtain ⟨_, ⟨_, _, _, e, _⟩, _⟩ := x; exact Heap.lt_size e
  | rng lo hi => obtain ⟨_, _, _, e⟩ := x; exact Heap.lt_size e
  | frz ob u => obtain ⟨e, _⟩ := x; exact Heap.lt_size e
  | tbl ps => exact Heap.lt_size (show h.get? a = some _ from x)
  | cod p q => obtain ⟨_, e, _⟩ := x; exact Heap.lt_size e
  | met f y => exact Heap.lt_size (show h.get? a = some _ from x)
  | ext φ => obtain ⟨_, ⟨_, e⟩, _⟩ := x; exact Heap.lt_size e
theorem Paired.mapP {α β : Type} {F G : α → β → Prop} : ∀ {l₁ : List α} {l₂ : List β}, Paired F l₁ l₂ → (∀ a b, F a b → G a b) → Paired G l₁ l₂
  | _, _, .nil, _ => .nil
  | _, _, .cons r t, f => .cons (f _ _ r) (Paired.mapP t f)
theorem ObjOk.stay (x : ObjOk P w H h a o) (k : ∀ b u, (b = a ∨ H b = some (.own a)) → h.get? b = some u → h'.get? b = some u)
    (ho : ∀ b, H b = some (.own a) → H' b = some (.own a)) (ht : ∀ b u, H b = some u → refd u → H' b = some u) : ObjOk P w H' h' a o := by
  induction o with
  | lst xs => obtain ⟨z, its, n, r, e⟩ := x; exact ⟨z, its, n, r, k _ _ (.inl rfl) e⟩
  | tup xs => obtain ⟨z, its, r, ob, e, c⟩ := x; exact ⟨z, its, r, ob, k _ _ (.inl rfl) e, c⟩
  | dK kvs => obtain ⟨z, y, vs, r, ob, es, ep, e, c⟩ := x; exact ⟨z, y, vs, r, ob, es, ep, k _ _ (.inl rfl) e, c⟩
  | dT kvs =>
    obtain ⟨z, y, xs, r, ob, es, ep, e, c⟩ := x
    exact ⟨z, y, xs, Paired.mapP r fun p q z => ⟨z.1, ht _ _ z.2.1 (.inl ⟨_, rfl⟩), z.2.2⟩, ob, es, ep, k _ _ (.inl rfl) e, c⟩
  | set S n => obtain ⟨ob, es, ep, t, e, c⟩ := x; exact ⟨ob, es, ep, t, k _ _ (.inl rfl) e, c⟩
  | ins C dx fs =>
    obtain ⟨d, z, ne, e, mA, ⟨od, es, ep, e2, c⟩, r⟩ := x
    exact ⟨ho _ d, z, ne, k _ _ (.inl rfl) e, mA, ⟨od, es, ep, k _ _ (.inr d) e2, c⟩, r⟩
  | own y => obtain ⟨ob, e⟩ := x; exact ⟨ob, k _ _ (.inl rfl) e⟩
  | xd fs => obtain ⟨mA, ⟨od, es, ep, e, c⟩, r⟩ := x; exact ⟨mA, ⟨od, es, ep, k _ _ (.inl rfl) e, c⟩, r⟩
  | rng lo hi => obtain ⟨t, u, v, e⟩ := x; exact ⟨t, u, v, k _ _ (.inl rfl) e⟩
  | frz ob u ih => obtain ⟨e, q⟩ := x; exact ⟨k _ _ (.inl rfl) e, ih q⟩
  | tbl ps =>
    have e : h.get? a = some { cls := .none, data := .fields ps } := x
    show h'.get? a = some { cls := .none, data := .fields ps }
    exact k a _ (.inl rfl) e
  | cod p q =>
    obtain ⟨ps, e, ht', hc⟩ := x
    exact ⟨ps, k _ _ (.inl rfl) e, ht', fun v hv => let ⟨c, oc, e1, e2, e3⟩ := hc v hv; ⟨c, oc, e1, ht _ _ e2 (.inr ⟨_, _, _, rfl, e3⟩), e3⟩⟩
  | met f y =>
    have e : h.get? a = some (PySem.W.methodObj (.ref f) (.ref y)) := x
    show h'.get? a = some (PySem.W.methodObj (.ref f) (.ref y))
    exact k a _ (.inl rfl) e
  | ext φ => obtain ⟨p, ⟨o, e⟩, st⟩ := x; exact ⟨st _ _ p fun o q => k _ _ (.inl rfl) q, ⟨o, k _ _ (.inl rfl) e⟩, st⟩
theorem HOk.lt (x : HOk P w H h) (e : H a = some o) : a < h.objs.size := (x a o e).lt
theorem HOk.fresh (x : HOk P w H h) (e : h.objs.size ≤ a) : H a = none := by
  cases q : H a with
  | none => rfl
  | some u => exact absurd (Nat.lt_of_lt_of_le (x.lt q) e) (Nat.lt_irrefl _)
theorem HOk.kept (x : HOk P w H h) (k : ∀ b u, h.get? b = some u → h'.get? b = some u) : HOk P w H h' := fun a o e =>
  (x a o e).stay (fun b u _ q => k b u q) (fun _ q => q) fun _ _ q _ => q
theorem HOk.laid (x : HOk P w H h) (k : ∀ b u, h.get? b = some u → h'.get? b = some u) (hp : h.objs.size ≤ a) (new : ObjOk P w (upd H a o) h' a o) : HOk P w (upd H a o) h' := fun b u e => by
  have hn := x.fresh hp
  by_cases hb : b = a
  · subst hb; rw [upd_same] at e; cases e; exact new
  · rw [upd_ne hb] at e
    exact (x b u e).stay (fun c v _ q => k c v q) (fun c q => by rw [upd_ne (ne_of_none q hn)]; exact q) fun c xs q _ => by rw [upd_ne (ne_of_none q hn)]; exact q
end

def Rd (H : Hp) (a : Addr) (u : HO) : Prop := H a = some u ∨ ∃ o, H a = some (.frz o u)
theorem Rd.of {H : Hp} {a : Addr} {u : HO} (h : H a = some u) : Rd H a u := .inl h
theorem Rd.ok {P : Program} {w : World} {H : Hp} {h : Heap} {a : Addr} {u : HO} (r : Rd H a u) (x : HOk P w H h) : ObjOk P w H h a u := by
  rcases r with r | ⟨o, r⟩
  · exact x a u r
  · obtain ⟨_, q⟩ := x a _ r
    exact q
def Mut : Option HO → Prop
  | some (.lst _) => True
  | some (.dK _) => True
  | some (.dT _) => True
  | some (.set _ _) => True
  | some (.ins _ _ _) => True
  | some (.ext _) => True
  | _ => False
section
variable {P : Program} {w : World} {H : Hp} {h h' : Heap} {x e : Addr} {o' : HO}
theorem HOk.write (ok : HOk P w H h) (mu : Mut (H x)) (he : e = x ∨ H e = some (.own x)) (k : ∀ b u, b ≠ e → h.get? b = some u → h'.get? b = some u) (heo : ∃ u, h'.get? e = some u)
    (new : ObjOk P w (upd H x o') h' x o') : HOk P w (upd H x o') h' := fun b u q => by
  have nown : ∀ c y, H c = some (.own y) → c ≠ x := fun c y r z => by subst z; rw [r] at mu; exact mu
  have ntup : ∀ c u, H c = some u → refd u → c ≠ x := fun c u r i z => by subst z; rw [r] at mu; rcases i with ⟨_, rfl⟩ | ⟨_, _, _, rfl, _⟩ <;> exact mu
  by_cases hb : b = x
  · subst hb; rw [upd_same] at q; cases q; exact new
  · rw [upd_ne hb] at q
    by_cases hbe : b = e
    · have q' : H b = some (.own x) := by
        rcases he with z | z
        · exact absurd (hbe.trans z) hb
        · rw [hbe]; exact z
      rw [q] at q'; cases q'
      obtain ⟨v, hv⟩ := heo
      exact ⟨v, by rw [hbe]; exact hv⟩
    · refine (ok b u q).stay (fun c v hc r => k c v ?_ r) (fun c r => by rw [upd_ne (nown c b r)]; exact r) fun c xs r i => by rw [upd_ne (ntup c xs r i)]; exact r
      rcases hc with rfl | hc
      · exact hbe
      · rintro rfl
        rcases he with z | z
        · exact nown c b hc z
        · rw [hc] at z; cases z; exact hb rfl
end

structure Un (fs ex : List Addr) (H H' : Hp) (h h' : Heap) : Prop where
  keep : ∀ b o, h.get? b = some o → H b = none → b ∉ fs → b ∉ ex → h'.get? b = some o
  slot : ∀ b o, h.get? b = some o → H b = none → b ∈ fs → b ∉ ex → ∃ sl, h'.get? b = some { o with slots := sl }
  free : ∀ b o, h.get? b = some o → H b = none → b ∉ ex → H' b = none
  there : ∀ b o, h.get? b = some o → b ∉ ex → ∃ o', h'.get? b = some o'
  tups : ∀ b xs, H b = some (.tup xs) → H' b = some (.tup xs)
  frzs : ∀ b o u, H b = some (.frz o u) → H' b = some (.frz o u)
  tbls : ∀ b ps, H b = some (.tbl ps) → ∃ more, H' b = some (.tbl (ps ++ more))
section
variable {fs fs' ex ex' : List Addr} {H H1 H2 : Hp} {h h1 h2 h' : Heap} {a x e : Addr} {o : HO}
theorem Un.any (u : Un fs ex H H1 h h1) {b : Addr} {ob : Obj} (q : h.get? b = some ob) (n : H b = none) (hx : b ∉ ex) : ∃ sl, h1.get? b = some { ob with slots := sl } := by
  by_cases hb : b ∈ fs
  · exact u.slot b ob q n hb hx
  · exact ⟨ob.slots, u.keep b ob q n hb hx⟩
theorem Un.trans (a : Un fs ex H H1 h h1) (b : Un fs ex H1 H2 h1 h2) : Un fs ex H H2 h h2 where
  keep := fun c ob q n hc hx => b.keep c ob (a.keep c ob q n hc hx) (a.free c ob q n hx) hc hx
  slot := fun c ob q n hc hx => by
    obtain ⟨sl, e1⟩ := a.slot c ob q n hc hx
    obtain ⟨sl', e2⟩ := b.slot c _ e1 (a.free c ob q n hx) hc hx
    exact ⟨sl', e2⟩
  free := fun c ob q n hx => by
    obtain ⟨o', e1⟩ := a.there c ob q hx
    exact b.free c o' e1 (a.free c ob q n hx) hx
  there := fun c ob q hx => by
    obtain ⟨o', e1⟩ := a.there c ob q hx
    exact b.there c o' e1 hx
  tups := fun c xs q => b.tups c xs (a.tups c xs q)
  frzs := fun c ob xs q => b.frzs c ob xs (a.frzs c ob xs q)
  tbls := fun c ps q => by
    obtain ⟨m1, e1⟩ := a.tbls c ps q
    obtain ⟨m2, e2⟩ := b.tbls c _ e1
    exact ⟨m1 ++ m2, by rw [e2, Array.append_assoc]⟩
theorem Un.kept (k : ∀ b u, h.get? b = some u → h'.get? b = some u) : Un fs ex H H h h' :=
  ⟨fun b ob q _ _ _ => k b ob q, fun b ob q _ _ _ => ⟨ob.slots, k b ob q⟩, fun _ _ _ n _ => n, fun b ob q _ => ⟨ob, k b ob q⟩, fun _ _ q => q, fun _ _ _ q => q, fun _ ps q => ⟨#[], by rw [q]; simp⟩⟩
theorem Un.refl : Un fs ex H H h h := Un.kept fun _ _ q => q
theorem Un.laid (k : ∀ b u, h.get? b = some u → h'.get? b = some u) (hp : h.objs.size ≤ a) (hn : H a = none) : Un fs ex H (upd H a o) h h' where
  keep := fun b u q _ _ _ => k b u q
  slot := fun b u q _ _ _ => ⟨u.slots, k b u q⟩
  free := fun b u q n _ => by rw [upd_ne (Nat.ne_of_lt (Nat.lt_of_lt_of_le (Heap.lt_size q) hp))]; exact n
  there := fun b u q _ => ⟨u, k b u q⟩
  tups := fun b xs q => by rw [upd_ne (ne_of_none q hn)]; exact q
  frzs := fun b u xs q => by rw [upd_ne (ne_of_none q hn)]; exact q
  tbls := fun b ps q => ⟨#[], by rw [upd_ne (ne_of_none q hn), q]; simp⟩
theorem Un.write (mu : Mut (H x)) (he : e = x ∨ H e = some (.own x)) (k : ∀ b u, b ≠ e → h.get? b = some u → h'.get? b = some u) (heo : ∃ u, h'.get? e = some u) : Un fs ex H (upd H x o) h h' := by
  have hx : ∀ b, H b = none → b ≠ x := fun b n z => by subst z; rw [n] at mu; exact mu
  have hb : ∀ b, H b = none → b ≠ e := fun b n z => by
    subst z
    rcases he with r | r
    · exact hx b n r
    · rw [n] at r; cases r
  have hm : ∀ b u, H b = some u → ¬ Mut (some u) → b ≠ x := fun b u q nm z => by subst z; rw [q] at mu; exact nm mu
  refine ⟨fun b u q n _ _ => k b u (hb b n) q, fun b u q n _ _ => ⟨u.slots, k b u (hb b n) q⟩, fun b u q n _ => by rw [upd_ne (hx b n)]; exact n, fun b u q _ => ?_,
    fun b xs q => by rw [upd_ne (hm b _ q fun z => z)]; exact q, fun b u xs q => by rw [upd_ne (hm b _ q fun z => z)]; exact q, fun b ps q => ⟨#[], by rw [upd_ne (hm b _ q fun z => z), q]; simp⟩⟩
  by_cases hbe : b = e
  · subst hbe; exact heo
  · exact ⟨u, k b u hbe q⟩
theorem Un.mono (u : Un fs ex H H1 h h1) (hs : ∀ b ∈ fs, b ∈ fs') (hx : ∀ b ∈ ex, b ∈ ex') : Un fs' ex' H H1 h h1 :=
  ⟨fun b ob q n hb he => u.keep b ob q n (fun z => hb (hs b z)) fun z => he (hx b z), fun _ _ q n _ he => u.any q n fun z => he (hx _ z), fun b ob q n he => u.free b ob q n fun z => he (hx b z), fun b ob q he => u.there b ob q fun z => he (hx b z), u.tups, u.frzs, u.tbls⟩
end

def trk (h : Heap) (H : Hp) : List Addr := (List.range h.objs.size).filter fun a => (H a).isSome
def hidT (h : Heap) (H : Hp) : Heap := PySem.W.hideAll h (trk h H)
theorem hidT_size (h : Heap) (H : Hp) : (hidT h H).objs.size = h.objs.size := PySem.W.hideAll_size _ _
theorem hidT_get {h : Heap} {H : Hp} {b : Addr} {o : Obj} (e : h.get? b = some o) (n : H b = none) : (hidT h H).get? b = some o :=
  PySem.W.hideAll_get _ e fun hm => by
    have q : (H b).isSome = true := (List.mem_filter.mp hm).2
    rw [n] at q; simp at q
theorem of_hidT {h : Heap} {H : Hp} {b : Addr} {o : Obj} (e : (hidT h H).get? b = some o) : h.get? b = some o ∧ H b = none := by
  have e' : h.get? b = some o := PySem.W.of_hideAll (trk h H) e
  refine ⟨e', ?_⟩
  cases q : H b with
  | none => rfl
  | some x =>
    have hm : b ∈ trk h H := List.mem_filter.mpr ⟨List.mem_range.mpr (Heap.lt_size e'), by simp [q]⟩
    have z : (hidT h H).get? b = none := PySem.W.hideAll_none (trk h H) hm
    rw [z] at e; cases e

def allNews (g h : Heap) (L : Addr) : List (Addr × Obj) := (List.range h.objs.size).filterMap fun a => if a = L ∨ (g.get? a).isSome = true then none else (h.get? a).map fun o => (a, o)
def rest (g h : Heap) (L d : Addr) : List (Addr × Obj) := (allNews g h L).filter fun p => decide (p.1 ≠ d)
end L2

namespace L2
open PySem PySem.Spec PyProof.Rows

structure Mod (K : PySem.W.Frag) (mg : Str → Option Value) (base : Heap) : Prop where
  kin : K.In base
  glob : base.Ns mainGlobals mg
  blt : ∃ mb, base.Ns builtinsNs mb ∧ ∀ x : Str, x ≠ "__name__" → mb x = bootBuiltins x
  nolimit : base.NoLimit

structure Cx where
  prog : Program
  w : World
  K : PySem.W.Frag
  mg : Str → Option Value
  base : Heap
  A : Around
  N : List Str
  s₀ : Shared
  H₀ : Hp
  env : Env
  outer : List Env
  stack : List Env
  ex : List Addr
  fn : Str → Bool
  calm : Bool
  pn : List (Addr × Obj)
  xe : Value → Shared → Prop
def frs (l : List Env) : List Addr := l.filterMap (·.frame)
abbrev Cx.fs (X : Cx) : List Addr := frs X.outer

def Vis (sc : Scope) (x : Str) : Prop := sc.names.lookup x = some .local ∨ sc.names.lookup x = some .cell ∨ sc.names.lookup x = some .free
def Loc (sc : Scope) (x : Str) : Prop := sc.names.lookup x = some .local ∨ sc.names.lookup x = some .cell
def Look (env : Env) (h : Heap) (m : Str → Option Value) (x : Str) (u : Value) : Prop :=
  (env.kindOf x = some .local ∧ m x = some u) ∨ ((env.kindOf x = some .cell ∨ env.kindOf x = some .free) ∧ ∃ c, env.cells.lookup x = some c ∧ h.IsCell c (some u))

structure Cx.Ok (X : Cx) : Prop where
  mod : Mod X.K X.mg X.base
  kind : X.env.scope.kind = .function
  glob : X.env.globals = mainGlobals
  blt : X.env.builtins = builtinsNs
  above : X.s₀.heap.objs.size ≤ X.env.locals
  inj : ∀ x y c, X.env.cells.lookup x = some c → X.env.cells.lookup y = some c → x = y
  has : ∀ x, (X.env.kindOf x = some .cell ∨ X.env.kindOf x = some .free) → ∃ c, X.env.cells.lookup x = some c
  cab : ∀ x c, X.fn x = true → X.env.cells.lookup x = some c → X.s₀.heap.objs.size ≤ c
  hd : X.calm = true → X.A.handled = none
  frames : X.A.frames = some X.stack
  stk : X.stack = X.outer ∨ (X.stack = X.env :: X.outer ∧ X.env.frame = some X.env.locals)
  exf : ∀ b ∈ X.ex, b ≠ X.env.locals ∧ ∀ x c, X.env.cells.lookup x = some c → c ≠ b
  bs : ∀ b o, X.base.get? b = some o → X.s₀.heap.get? b = some o ∧ X.H₀ b = none
  bsz : X.base.objs.size ≤ X.s₀.heap.objs.size
  noex : ∀ b o, X.base.get? b = some o → b ∉ X.ex
  exfs : ∀ b ∈ X.ex, b ∉ X.fs
  funs : X.s₀.heap.FunFrames X.base X.outer
  frf : ∀ b ∈ X.fs, X.H₀ b = none

structure Inv (X : Cx) (pins : List (Addr × Obj)) (σ : List (Option V)) (H : Hp) (s : Shared) : Prop where
  ok : X.Ok
  os : s.os = X.s₀.os
  bare : AllBare s.gens
  base : Un X.fs X.ex X.H₀ H X.s₀.heap s.heap
  loc : ∃ m, s.heap.Ns X.env.locals m ∧ ∀ (i : Nat) (x : Str) (v : V), X.N[i]? = some x → σ[i]? = some (some v) → Vis X.env.scope x → ∃ u, RelV v u ∧ Look X.env s.heap m x u
  cell : ∀ x c, X.env.cells.lookup x = some c → ∃ v, s.heap.IsCell c v
  free : H X.env.locals = none
  freeC : ∀ x c, X.env.cells.lookup x = some c → H c = none
  pin : ∀ p ∈ X.pn ++ pins, s.heap.get? p.1 = some p.2 ∧ H p.1 = none ∧ p.1 ≠ X.env.locals ∧ p.1 ∉ X.fs ∧ ∀ v, p.2.data ≠ .cell v
  hok : HOk X.prog X.w H s.heap
  len : σ.length = X.N.length

section
variable {X : Cx} {pins : List (Addr × Obj)} {σ : List (Option V)} {H H' : Hp} {s : Shared} {h' : Heap}

theorem Cx.Ok.nofr (ok : X.Ok) {b : Addr} {o : Obj} (e : X.base.get? b = some o) : b ∉ X.fs := fun hb => by
  have := (ok.funs.mem hb).1
  rw [e] at this; cases this
theorem Inv.bs (I : Inv X pins σ H s) : ∀ b o, X.base.get? b = some o → s.heap.get? b = some o ∧ H b = none := fun b o e =>
  ⟨I.base.keep b o (I.ok.bs b o e).1 (I.ok.bs b o e).2 (I.ok.nofr e) (I.ok.noex b o e), I.base.free b o (I.ok.bs b o e).1 (I.ok.bs b o e).2 (I.ok.noex b o e)⟩
theorem Inv.bk (I : Inv X pins σ H s) : ∀ b o, X.base.get? b = some o → s.heap.get? b = some o := fun b o e => (I.bs b o e).1
theorem Inv.mod (I : Inv X pins σ H s) : Mod X.K X.mg X.base := I.ok.mod
theorem Inv.kIn (I : Inv X pins σ H s) : X.K.In s.heap := I.ok.mod.kin.keeps I.bk
theorem Inv.nolimit (I : Inv X pins σ H s) : s.heap.NoLimit := I.ok.mod.nolimit.keeps I.bk
theorem Inv.lt (I : Inv X pins σ H s) : X.env.locals < s.heap.objs.size := let ⟨_, hn, _⟩ := I.loc; hn.lt
theorem Inv.sz (I : Inv X pins σ H s) : X.s₀.heap.objs.size ≤ s.heap.objs.size := Nat.le_trans I.ok.above (Nat.le_of_lt I.lt)
theorem Inv.nofs (I : Inv X pins σ H s) {a : Addr} (h : s.heap.objs.size ≤ a) : a ∉ X.fs := fun hb => by
  obtain ⟨_, o, ho, _⟩ := I.ok.funs.mem hb
  exact absurd (Nat.lt_of_lt_of_le (Heap.lt_size ho) (Nat.le_trans I.sz h)) (Nat.lt_irrefl _)
theorem Inv.cne (I : Inv X pins σ H s) : ∀ x c, X.env.cells.lookup x = some c → c ≠ X.env.locals := fun x c e z => by
  obtain ⟨v, o, ho, hd⟩ := I.cell x c e
  obtain ⟨m, ⟨o', es, ep, ho', hd', _⟩, _⟩ := I.loc
  rw [z, ho'] at ho; cases ho; rw [hd'] at hd; cases hd
theorem Inv.funs (I : Inv X pins σ H s) : s.heap.FunFrames X.base X.outer := by
  have all : ∀ (l : List Env), (∀ b ∈ frs l, b ∈ X.fs) → X.s₀.heap.FunFrames X.base l → s.heap.FunFrames X.base l := by
    intro l
    induction l with
    | nil => intro _ _; trivial
    | cons env r ih =>
      intro hs hl
      obtain ⟨hk, ⟨L, o, hf, hn, ho, hd⟩, hr⟩ := hl
      have hL : L ∈ X.fs := hs L (by unfold frs; rw [List.filterMap_cons, hf]; exact List.mem_cons_self)
      obtain ⟨sl, e⟩ := I.base.slot L o ho (I.ok.frf L hL) hL fun z => I.ok.exfs L z hL
      exact ⟨hk, ⟨L, _, hf, hn, e, hd⟩, ih (fun b hb => hs b (by unfold frs; rw [List.filterMap_cons, hf]; exact List.mem_cons_of_mem _ hb)) hr⟩
  exact all X.outer (fun _ hb => hb) I.ok.funs

theorem Inv.stack (I : Inv X pins σ H s) : s.heap.FunFrames X.base X.stack := by
  rcases I.ok.stk with e | ⟨e, hf⟩
  · rw [e]; exact I.funs
  · rw [e]
    obtain ⟨m, hn, _⟩ := I.loc
    refine .cons (by rw [I.ok.kind]; decide) hf hn ?_ I.funs
    exact Heap.get?_none_of_le (Nat.le_trans I.ok.bsz I.ok.above)
theorem Inv.stkSub (I : Inv X pins σ H s) : ∀ b ∈ frs X.stack, b ∈ X.env.locals :: X.fs := fun b hb => by
  rcases I.ok.stk with e | ⟨e, hf⟩
  · rw [e] at hb; exact List.mem_cons_of_mem _ hb
  · rw [e] at hb
    unfold frs at hb
    rw [List.filterMap_cons, hf] at hb
    exact hb
theorem Inv.stkFree (I : Inv X pins σ H s) : ∀ b ∈ frs X.stack, H b = none := fun b hb => by
  rcases List.mem_cons.mp (I.stkSub b hb) with e | hb
  · rw [e]; exact I.free
  · obtain ⟨_, o, ho, _⟩ := I.ok.funs.mem hb
    exact I.base.free b o ho (I.ok.frf b hb) fun z => I.ok.exfs b z hb

theorem Inv.step {g' : Array GenState} {t' : Nat} {d' : Drawn} {ch : List Addr} (I : Inv X pins σ H s)
    (hch : ∀ b ∈ ch, (b ∈ X.ex ∨ X.s₀.heap.objs.size ≤ b) ∧ b ≠ X.env.locals ∧ (∀ x c, X.env.cells.lookup x = some c → c ≠ b) ∧ ∀ p ∈ X.pn ++ pins, p.1 ≠ b)
    (keep : ∀ b o, b ≠ X.env.locals → b ∉ X.fs → b ∉ ch → s.heap.get? b = some o → H b = none → h'.get? b = some o)
    (slot : ∀ b o, b ≠ X.env.locals → b ∈ X.fs → b ∉ ch → s.heap.get? b = some o → H b = none → ∃ sl, h'.get? b = some { o with slots := sl }) (free : ∀ b o, b ∉ ch → s.heap.get? b = some o → H b = none → H' b = none)
    (there : ∀ b o, b ∉ ch → s.heap.get? b = some o → ∃ o', h'.get? b = some o')
    (tups : ∀ b xs, H b = some (.tup xs) → H' b = some (.tup xs)) (frzs : ∀ b o u, H b = some (.frz o u) → H' b = some (.frz o u)) (tbls : ∀ b ps, H b = some (.tbl ps) → ∃ more, H' b = some (.tbl (ps ++ more)))
    (ns : ∀ m, s.heap.Ns X.env.locals m → h'.Ns X.env.locals m) (hok : HOk X.prog X.w H' h') (hg : AllBare g') :
    Inv X pins σ H' { s with heap := h', gens := g', drawn := d', toks := t' } := by
  have neL : ∀ b o, X.s₀.heap.get? b = some o → b ≠ X.env.locals := fun b o e => Nat.ne_of_lt (Nat.lt_of_lt_of_le (Heap.lt_size e) I.ok.above)
  have neC : ∀ b o, X.s₀.heap.get? b = some o → b ∉ X.ex → b ∉ ch := fun b o e hx hb => by
    rcases (hch b hb).1 with z | z
    · exact hx z
    · exact absurd (Nat.lt_of_lt_of_le (Heap.lt_size e) z) (Nat.lt_irrefl _)
  have cellK : ∀ x c, X.env.cells.lookup x = some c → ∀ v, s.heap.IsCell c v → h'.IsCell c v := fun x c e v ⟨o, ho, hd⟩ => by
    have nch : c ∉ ch := fun z => (hch c z).2.2.1 x c e rfl
    by_cases hc : c ∈ X.fs
    · obtain ⟨sl, q⟩ := slot c o (I.cne x c e) hc nch ho (I.freeC x c e)
      exact ⟨_, q, hd⟩
    · exact ⟨o, keep c o (I.cne x c e) hc nch ho (I.freeC x c e), hd⟩
  refine ⟨I.ok, I.os, hg, ⟨fun b o e n hb hx => ?_, fun b o e n hb hx => ?_, fun b o e n hx => ?_, fun b o e hx => ?_, fun b xs e => tups b xs (I.base.tups b xs e), fun b o xs e => frzs b o xs (I.base.frzs b o xs e), fun b ps e => ?_⟩, ?_, fun x c e => ?_, ?_, fun x c e => ?_, fun p hp => ?_, hok, I.len⟩
  · exact keep b o (neL b o e) hb (neC b o e hx) (I.base.keep b o e n hb hx) (I.base.free b o e n hx)
  · obtain ⟨sl, e1⟩ := I.base.slot b o e n hb hx
    obtain ⟨sl', e2⟩ := slot b _ (neL b o e) hb (neC b o e hx) e1 (I.base.free b o e n hx)
    exact ⟨sl', e2⟩
  · obtain ⟨o', e1⟩ := I.base.there b o e hx
    exact free b o' (neC b o e hx) e1 (I.base.free b o e n hx)
  · obtain ⟨o', e1⟩ := I.base.there b o e hx
    exact there b o' (neC b o e hx) e1
  · obtain ⟨m1, e1⟩ := I.base.tbls b ps e
    obtain ⟨m2, e2⟩ := tbls b _ e1
    exact ⟨m1 ++ m2, by rw [e2, Array.append_assoc]⟩
  · obtain ⟨m, hn, hl⟩ := I.loc
    refine ⟨m, ns m hn, fun i x v e1 e2 e3 => ?_⟩
    obtain ⟨u, r, l⟩ := hl i x v e1 e2 e3
    refine ⟨u, r, ?_⟩
    rcases l with l | ⟨k, c, e, z⟩
    · exact .inl l
    · exact .inr ⟨k, c, e, cellK x c e _ z⟩
  · obtain ⟨v, z⟩ := I.cell x c e
    exact ⟨v, cellK x c e v z⟩
  · obtain ⟨m, ⟨o, _, _, ho, _⟩, _⟩ := I.loc
    exact free _ o (fun z => (hch _ z).2.1 rfl) ho I.free
  · obtain ⟨v, o, ho, hd⟩ := I.cell x c e
    exact free c o (fun z => (hch c z).2.2.1 x c e rfl) ho (I.freeC x c e)
  · obtain ⟨e, n, ne, nf, d⟩ := I.pin p hp
    have nch : p.1 ∉ ch := fun z => (hch p.1 z).2.2.2 p hp rfl
    exact ⟨keep p.1 p.2 ne nf nch e n, free p.1 p.2 nch e n, ne, nf, d⟩
theorem Inv.un {t' : Nat} (I : Inv X pins σ H s) (u : Un X.fs [] H H' s.heap h') (hok : HOk X.prog X.w H' h') : Inv X pins σ H' { s with heap := h', toks := t' } := by
  obtain ⟨m, ⟨o, es, ep, ho, r⟩, _⟩ := id I.loc
  obtain ⟨sl, hL⟩ := u.any ho I.free (by simp)
  exact I.step (g' := s.gens) (d' := s.drawn) (ch := []) (fun _ z => nomatch z) (fun b o _ hb _ e n => u.keep b o e n hb (by simp)) (fun b o _ hb _ e n => u.slot b o e n hb (by simp)) (fun b o _ e n => u.free b o e n (by simp)) (fun b o _ e => u.there b o e (by simp)) u.tups u.frzs u.tbls (fun m' hm => by
    obtain ⟨o', es', ep', ho', r'⟩ := hm
    rw [ho] at ho'; cases ho'
    exact ⟨_, es', ep', hL, r'⟩) hok I.bare
theorem Inv.call {g' : Array GenState} {t' : Nat} {d' : Drawn} {ch : List Addr} (I : Inv X pins σ H s) (u : Un (frs X.stack) ch H H' s.heap h') (hok : HOk X.prog X.w H' h') (hg : AllBare g')
    (hch : ∀ b ∈ ch, (b ∈ X.ex ∨ X.s₀.heap.objs.size ≤ b) ∧ b ≠ X.env.locals ∧ (∀ x c, X.env.cells.lookup x = some c → c ≠ b) ∧ ∀ p ∈ X.pn ++ pins, p.1 ≠ b) :
    Inv X pins σ H' { s with heap := h', gens := g', drawn := d', toks := t' } := by
  obtain ⟨m, ⟨o, es, ep, ho, r⟩, _⟩ := id I.loc
  obtain ⟨sl, hL⟩ := u.any ho I.free fun z => (hch _ z).2.1 rfl
  exact I.step hch (fun b o hL hb hc e n => u.keep b o e n (fun z => (List.mem_cons.mp (I.stkSub b z)).elim hL hb) hc) (fun b o _ _ hc e n => u.any e n hc) (fun b o hc e n => u.free b o e n hc) (fun b o hc e => u.there b o e hc) u.tups u.frzs u.tbls (fun m' hm => by
    obtain ⟨o', es', ep', ho', r'⟩ := hm
    rw [ho] at ho'; cases ho'
    exact ⟨_, es', ep', hL, r'⟩) hok hg
theorem Inv.turned {t' : Nat} {it : Addr} (I : Inv X pins σ H s) (k : ∀ b o, b ≠ it → s.heap.get? b = some o → h'.get? b = some o) (hn : H it = none) (hL : it ≠ X.env.locals)
    (h1 : it ∈ X.ex ∨ X.s₀.heap.objs.size ≤ it) (h2 : ∀ x c, X.env.cells.lookup x = some c → c ≠ it) (h3 : ∀ p ∈ X.pn ++ pins, p.1 ≠ it) : Inv X pins σ H { s with heap := h', toks := t' } := by
  have nit : ∀ b u, H b = some u → b ≠ it := fun b u e z => by rw [z, hn] at e; cases e
  refine I.step (g' := s.gens) (d' := s.drawn) (ch := [it]) (fun b hb => ?_) (fun b o _ _ hc e _ => k b o (fun z => hc (by simp [z])) e) (fun b o _ _ hc e _ => ⟨o.slots, k b o (fun z => hc (by simp [z])) e⟩) (fun _ _ _ _ n => n)
    (fun b o hc e => ⟨o, k b o (fun z => hc (by simp [z])) e⟩) (fun _ _ e => e) (fun _ _ _ e => e) (fun b ps e => ⟨#[], by rw [e]; simp⟩) (fun m hm => ?_) (fun b u e => ?_) I.bare
  · have e : b = it := by simpa using hb
    subst e
    exact ⟨h1, hL, h2, h3⟩
  · obtain ⟨o, es, ep, ho, r⟩ := hm
    exact ⟨o, es, ep, k _ o (Ne.symm hL) ho, r⟩
  · refine (I.hok b u e).stay (fun c v hc q => k c v ?_ q) (fun _ q => q) fun _ _ q _ => q
    rcases hc with z | z
    · rw [z]; exact nit b u e
    · exact nit c _ z
theorem Inv.tok (I : Inv X pins σ H s) (t : Nat) : Inv X pins σ H { s with toks := t } := I.un (h' := s.heap) (t' := t) Un.refl I.hok
theorem Inv.kept {t' : Nat} (I : Inv X pins σ H s) (k : ∀ b u, s.heap.get? b = some u → h'.get? b = some u) : Inv X pins σ H { s with heap := h', toks := t' } := I.un (Un.kept k) (I.hok.kept k)
theorem Inv.laid {a : Addr} {o : HO} {t' : Nat} (I : Inv X pins σ H s) (k : ∀ b u, s.heap.get? b = some u → h'.get? b = some u) (hp : s.heap.objs.size ≤ a) (new : ObjOk X.prog X.w (upd H a o) h' a o) :
    Inv X pins σ (upd H a o) { s with heap := h', toks := t' } := I.un (Un.laid k hp (I.hok.fresh hp)) (I.hok.laid k hp new)
theorem Inv.write {x e : Addr} {o : HO} {t' : Nat} (I : Inv X pins σ H s) (mu : Mut (H x)) (he : e = x ∨ H e = some (.own x)) (k : ∀ b u, b ≠ e → s.heap.get? b = some u → h'.get? b = some u) (heo : ∃ u, h'.get? e = some u)
    (new : ObjOk X.prog X.w (upd H x o) h' x o) : Inv X pins σ (upd H x o) { s with heap := h', toks := t' } := I.un (Un.write mu he k heo) (I.hok.write mu he k heo new)
theorem Inv.pins_of {pins' : List (Addr × Obj)} (I : Inv X pins σ H s) (h : ∀ p ∈ pins', s.heap.get? p.1 = some p.2 ∧ H p.1 = none ∧ p.1 ≠ X.env.locals ∧ p.1 ∉ X.fs ∧ ∀ v, p.2.data ≠ .cell v) : Inv X pins' σ H s :=
  ⟨I.ok, I.os, I.bare, I.base, I.loc, I.cell, I.free, I.freeC, fun p hp => (List.mem_append.mp hp).elim (fun z => I.pin p (List.mem_append_left _ z)) (h p), I.hok, I.len⟩

theorem nodup_ix {N : List Str} (hN : N.Nodup) {i j : Nat} {x : Str} (a : N[i]? = some x) (b : N[j]? = some x) : i = j := by
  obtain ⟨h1, e1⟩ := List.getElem?_eq_some_iff.mp a
  obtain ⟨h2, e2⟩ := List.getElem?_eq_some_iff.mp b
  exact (List.getElem_inj hN).mp (e1.trans e2.symm)

theorem store_ok2 {M : Model} {A : Around} {E : Value → Shared → Prop} {i : Nat} {x : Str} {v : V} {u : Value} {Q : Unit → Shared → Prop} (I : Inv X pins σ H s) (hN : X.N.Nodup) (hi : X.N[i]? = some x) (hx : Loc X.env.scope x) (r : RelV v u)
    (h : ∀ s', Inv X pins (σ.set i (some v)) H s' → (∃ a, Heap.SameBut a s.heap s'.heap ∧ (a = X.env.locals ∨ X.env.cells.lookup x = some a)) → Q () s') (hf : X.fn x = true ∨ X.env.scope.names.lookup x = some .local := by first | exact .inl rfl | exact .inr rfl | assumption) : wpAny M A (storeName X.env x u) Q E s := by
  obtain ⟨m, hn, hl⟩ := id I.loc
  have hcls : (X.env.scope.kind == .class || (X.env.scope.kind == .module && X.env.locals != X.env.globals)) = false := by rw [I.ok.kind]; rfl
  have hiσ : i < σ.length := by rw [I.len]; exact (List.getElem?_eq_some_iff.mp hi).1
  have cne := I.cne
  have tracked : ∀ {a : Addr} {h' : Heap}, (∃ o, s.heap.get? a = some o ∧ H a = none) → Heap.SameBut a s.heap h' → HOk X.prog X.w H h' := fun {a h'} ha hs b ob e => by
    obtain ⟨_, _, hfree⟩ := ha
    refine (I.hok b ob e).stay (fun c w' hc q => (hs.2 c ?_).trans q) (fun _ q => q) fun _ _ q _ => q
    rintro rfl
    rcases hc with rfl | hc
    · rw [hfree] at e; cases e
    · rw [hfree] at hc; cases hc
  rcases hx with hk | hk
  · refine wpAny_storeName_local hk hn (fun h' hn' hs => ?_) hcls
    obtain ⟨oL, _, _, hoL, _⟩ := id hn
    refine h _ ⟨I.ok, I.os, I.bare, ⟨fun b o e n hb hx => ?_, fun b o e n hb hx => ?_, I.base.free, fun b o e hx => ?_, I.base.tups, I.base.frzs, I.base.tbls⟩, ⟨_, hn', fun j y v' e1 e2 e3 => ?_⟩, fun y c e => ?_, I.free, I.freeC, fun p hp => ?_, tracked ⟨oL, hoL, I.free⟩ hs, by simpa using I.len⟩ ⟨_, hs, .inl rfl⟩
    · exact (hs.2 b (Nat.ne_of_lt (Nat.lt_of_lt_of_le (Heap.lt_size e) I.ok.above))).trans (I.base.keep b o e n hb hx)
    · obtain ⟨sl, e1⟩ := I.base.slot b o e n hb hx
      exact ⟨sl, (hs.2 b (Nat.ne_of_lt (Nat.lt_of_lt_of_le (Heap.lt_size e) I.ok.above))).trans e1⟩
    · obtain ⟨o', e1⟩ := I.base.there b o e hx
      exact ⟨o', (hs.2 b (Nat.ne_of_lt (Nat.lt_of_lt_of_le (Heap.lt_size e) I.ok.above))).trans e1⟩
    · by_cases hj : j = i
      · subst hj
        rw [hi] at e1; cases e1
        rw [List.getElem?_set_self hiσ] at e2
        cases e2
        exact ⟨u, r, .inl ⟨hk, by simp⟩⟩
      · rw [List.getElem?_set_ne (Ne.symm hj)] at e2
        obtain ⟨u', r', q⟩ := hl j y v' e1 e2 e3
        refine ⟨u', r', ?_⟩
        rcases q with ⟨k, e⟩ | ⟨k, c, e, z⟩
        · refine .inl ⟨k, ?_⟩
          have : y ≠ x := fun e => hj (nodup_ix hN e1 (e ▸ hi))
          simp [this, e]
        · exact .inr ⟨k, c, e, z.sameBut hs (cne y c e)⟩
    · obtain ⟨w', z⟩ := I.cell y c e
      exact ⟨w', z.sameBut hs (cne y c e)⟩
    · obtain ⟨e, n, ne, nf, d⟩ := I.pin p hp
      exact ⟨(hs.2 p.1 ne).trans e, n, ne, nf, d⟩
  · have hfn : X.fn x = true := by
      rcases hf with z | z
      · exact z
      · rw [z] at hk; cases hk
    obtain ⟨c, hc⟩ := I.ok.has x (.inl hk)
    obtain ⟨w', z⟩ := I.cell x c hc
    refine wpAny_storeName_cell I.ok.kind hk hc z (fun h' hc' hs => ?_)
    obtain ⟨oc, hoc, hocd⟩ := id z
    refine h { s with heap := h' } ⟨I.ok, I.os, I.bare, ⟨fun b o e n hb hx => ?_, fun b o e n hb hx => ?_, I.base.free, fun b o e hx => ?_, I.base.tups, I.base.frzs, I.base.tbls⟩, ⟨m, hn.sameBut hs (Ne.symm (cne x c hc)), fun j y v' e1 e2 e3 => ?_⟩, fun y c' e => ?_, I.free, I.freeC, fun p hp => ?_, tracked ⟨oc, hoc, I.freeC x c hc⟩ hs, by simpa using I.len⟩ ⟨c, hs, .inr hc⟩
    · exact (hs.2 b (Nat.ne_of_lt (Nat.lt_of_lt_of_le (Heap.lt_size e) (I.ok.cab x c hfn hc)))).trans (I.base.keep b o e n hb hx)
    · obtain ⟨sl, e1⟩ := I.base.slot b o e n hb hx
      exact ⟨sl, (hs.2 b (Nat.ne_of_lt (Nat.lt_of_lt_of_le (Heap.lt_size e) (I.ok.cab x c hfn hc)))).trans e1⟩
    · obtain ⟨o', e1⟩ := I.base.there b o e hx
      exact ⟨o', (hs.2 b (Nat.ne_of_lt (Nat.lt_of_lt_of_le (Heap.lt_size e) (I.ok.cab x c hfn hc)))).trans e1⟩
    · by_cases hj : j = i
      · subst hj
        rw [hi] at e1; cases e1
        rw [List.getElem?_set_self hiσ] at e2
        cases e2
        exact ⟨u, r, .inr ⟨.inl hk, c, hc, hc'⟩⟩
      · rw [List.getElem?_set_ne (Ne.symm hj)] at e2
        obtain ⟨u', r', q⟩ := hl j y v' e1 e2 e3
        refine ⟨u', r', ?_⟩
        rcases q with q | ⟨k, c', e, z'⟩
        · exact .inl q
        · refine .inr ⟨k, c', e, z'.sameBut hs ?_⟩
          rintro rfl
          exact hj (nodup_ix hN e1 (I.ok.inj _ _ _ e hc ▸ hi))
    · by_cases hcc : c' = c
      · subst hcc; exact ⟨_, hc'⟩
      · obtain ⟨w2, z2⟩ := I.cell y c' e
        exact ⟨w2, z2.sameBut hs hcc⟩
    · obtain ⟨e, n, ne, nf, d⟩ := I.pin p hp
      refine ⟨(hs.2 p.1 ?_).trans e, n, ne, nf, d⟩
      intro q
      rw [q, hoc] at e
      have q' : oc = p.2 := Option.some.inj e
      exact d w' (by rw [← q']; exact hocd)
theorem store_ok {M : Model} {A : Around} {E : Value → Shared → Prop} {i : Nat} {x : Str} {v : V} {u : Value} {Q : Unit → Shared → Prop} (I : Inv X pins σ H s) (hN : X.N.Nodup) (hi : X.N[i]? = some x) (hx : Loc X.env.scope x) (r : RelV v u)
    (h : ∀ s', Inv X pins (σ.set i (some v)) H s' → Q () s') (hf : X.fn x = true ∨ X.env.scope.names.lookup x = some .local := by first | exact .inl rfl | exact .inr rfl | assumption) : wpAny M A (storeName X.env x u) Q E s :=
  store_ok2 I hN hi hx r (fun s' I' _ => h s' I') hf
theorem Inv.call' {s' : Shared} {ch : List Addr} (I : Inv X pins σ H s) (ho : s'.os = s.os) (u : Un (frs X.stack) ch H H' s.heap s'.heap) (hok : HOk X.prog X.w H' s'.heap) (hg : AllBare s'.gens)
    (hch : ∀ b ∈ ch, (b ∈ X.ex ∨ X.s₀.heap.objs.size ≤ b) ∧ b ≠ X.env.locals ∧ (∀ x c, X.env.cells.lookup x = some c → c ≠ b) ∧ ∀ p ∈ X.pn ++ pins, p.1 ≠ b) : Inv X pins σ H' s' := by
  obtain ⟨h', g', d', t', o'⟩ := s'
  have e : o' = s.os := ho
  subst e
  exact I.call (g' := g') (t' := t') (d' := d') u hok hg hch
end

abbrev XK := Value → Option Addr → Hp → Prop
abbrev St := List (Option V)
abbrev VK := V → Hp → Prop
abbrev TE := St → Hp → VK → Prop
abbrev TT := St → Hp → (Bool → Hp → Prop) → Prop
abbrev TA := St → Hp → (List V → Hp → Prop) → Prop
structure Ends where
  nx : St → Hp → Prop
  rt : VK
  bk : St → Hp → Prop := fun _ _ => False
  ct : St → Hp → Prop := fun _ _ => False
abbrev TS := Ends → St → Hp → Prop

def EP (X : Cx) (pins : List (Addr × Obj)) (σ : St) (Q : VK) (u : Value) (s' : Shared) : Prop := ∃ v H', Inv X pins σ H' s' ∧ RelV v u ∧ Q v H'
def TP (X : Cx) (pins : List (Addr × Obj)) (σ : St) (Q : Bool → Hp → Prop) (b : Bool) (s' : Shared) : Prop := ∃ H', Inv X pins σ H' s' ∧ Q b H'
def AP (X : Cx) (pins : List (Addr × Obj)) (σ : St) (Q : List V → Hp → Prop) (us : List Value) (s' : Shared) : Prop := ∃ vs H', Inv X pins σ H' s' ∧ Vals vs us ∧ Q vs H'
def SP (X : Cx) (pins : List (Addr × Obj)) (D : Ends) (f : Flow) (s' : Shared) : Prop :=
  match f with
  | .next => ∃ σ' H', Inv X pins σ' H' s' ∧ D.nx σ' H'
  | .brk => ∃ σ' H', Inv X pins σ' H' s' ∧ D.bk σ' H'
  | .cont => ∃ σ' H', Inv X pins σ' H' s' ∧ D.ct σ' H'
  | .ret u => ∃ v σ' H', Inv X pins σ' H' s' ∧ RelV v u ∧ D.rt v H'

def PE (X : Cx) (e : Expr) (t : TE) : Prop :=
  ∀ (pins : List (Addr × Obj)) (s : Shared) (σ : St) (H : Hp) (Q : VK), Inv X pins σ H s → t σ H Q → wpAny (model X.prog X.w) X.A (eval e X.env) (EP X pins σ Q) X.xe s
def PT (X : Cx) (e : Expr) (t : TT) : Prop :=
  ∀ (pins : List (Addr × Obj)) (s : Shared) (σ : St) (H : Hp) (Q : Bool → Hp → Prop), Inv X pins σ H s → t σ H Q → wpAny (model X.prog X.w) X.A (isTrue e X.env (eval e X.env)) (TP X pins σ Q) X.xe s
def PW (X : Cx) (e : Expr) (t : TT) : Prop :=
  ∀ (whole : Sem Value) (pins : List (Addr × Obj)) (s : Shared) (σ : St) (H : Hp) (Q : Bool → Hp → Prop), Inv X pins σ H s → t σ H Q → wpAny (model X.prog X.w) X.A (isTrue e X.env whole) (TP X pins σ Q) X.xe s
theorem PW.pt {X : Cx} {e : Expr} {t : TT} (h : PW X e t) : PT X e t := h _
def PA (X : Cx) (es : List Expr) (t : TA) : Prop :=
  ∀ (pos : Pos) (pins : List (Addr × Obj)) (s : Shared) (σ : St) (H : Hp) (Q : List V → Hp → Prop), Inv X pins σ H s → t σ H Q → wpAny (model X.prog X.w) X.A (spliced (backTo pos (starEach es X.env))) (AP X pins σ Q) X.xe s
def PS (X : Cx) (st : Stmt) (t : TS) : Prop :=
  ∀ (pins : List (Addr × Obj)) (s : Shared) (σ : St) (H : Hp) (D : Ends), Inv X pins σ H s → t D σ H → wpAny (model X.prog X.w) X.A (exec st X.env) (SP X pins D) X.xe s
def PSs (X : Cx) (st : List Stmt) (t : TS) : Prop :=
  ∀ (pins : List (Addr × Obj)) (s : Shared) (σ : St) (H : Hp) (D : Ends), Inv X pins σ H s → t D σ H → wpAny (model X.prog X.w) X.A (execs st X.env) (SP X pins D) X.xe s
theorem thn {α : Type} {t : Sem α} {Q Q' : α → Shared → Prop} {M : Model} {A : Around} {E : Value → Shared → Prop} {s : Shared} (h : wpAny M A t Q E s) (hQ : ∀ a s, Q a s → Q' a s) : wpAny M A t Q' E s := wpAny_mono h hQ fun _ _ x => x
end L2

namespace L2
open PySem PySem.Spec PyProof.Rows
section
variable {X : Cx}

def tVar (i : Nat) : TE := fun σ H Q => ∃ v, σ[i]? = some (some v) ∧ Q v H
def tC (v : V) : TE := fun _ H Q => Q v H
theorem pe_var {i : Nat} {x : Str} {pos : Pos} (hN : X.N[i]? = some x) (hv : Vis X.env.scope x) (hd : (x == ("__debug__" : Str)) = false := by decide) (hcd : (x == ("__classdict__" : Str)) = false := by decide) : PE X (.Name x pos) (tVar i) := by
  intro pins s σ H Q I h
  obtain ⟨v, e, h⟩ := h
  obtain ⟨m, hn, hl⟩ := I.loc
  obtain ⟨u, r, l⟩ := hl i x v hN e hv
  have fin : EP X pins σ Q u s := ⟨v, H, I, r, h⟩
  rcases l with ⟨hk, hm⟩ | ⟨hk, c, hc, hcell⟩
  · exact wpAny_Name (wpAny_loadName_local I.ok.kind hk hn hm fin) hd
  · rcases hk with hk | hk
    · exact wpAny_Name (wpAny_loadName_cell I.ok.kind hk hc hcell fin) hd
    · exact wpAny_Name (wpAny_loadName_free I.ok.kind hk hc hcell fin hcd) hd
theorem pe_int {i j pos} : PE X (.Constant (.int i) j pos) (tC (.int i)) := fun _ _ _ H _ I h => wpAny_Constant_int ⟨.int i, H, I.tok _, ⟨_, rfl⟩, h⟩
theorem pe_bl {b j pos} : PE X (.Constant (.bool b) j pos) (tC (.bl b)) := fun _ _ _ H _ I h => Constant_bool ⟨.bl b, H, I, rfl, h⟩
def Gl (X : Cx) (x : Str) : Prop := X.env.kindOf x = some .globalImplicit
theorem ld_glob {E : Value → Shared → Prop} {pins : List (Addr × Obj)} {s : Shared} {σ : St} {H : Hp} {x : Str} {u : Value} {pos : Pos} {Q : Value → Shared → Prop} (I : Inv X pins σ H s) (hg : Gl X x) (hm : X.mg x = some u) (h : Q u s)
    (hd : (x == ("__debug__" : Str)) = false := by decide) : wpAny (model X.prog X.w) X.A (eval (.Name x pos) X.env) Q E s :=
  Calls.Name_function_global I.ok.kind hg (Calls.loadGlobal_global (by rw [I.ok.glob]; exact I.mod.glob.keeps I.bk) hm h) hd
theorem ld_blt {E : Value → Shared → Prop} {pins : List (Addr × Obj)} {s : Shared} {σ : St} {H : Hp} {x : Str} {u : Value} {pos : Pos} {Q : Value → Shared → Prop} (I : Inv X pins σ H s) (hg : Gl X x) (hm : X.mg x = none) (hv : bootBuiltins x = some u) (h : Q u s)
    (hn : x ≠ "__name__" := by decide) (hd : (x == ("__debug__" : Str)) = false := by decide) : wpAny (model X.prog X.w) X.A (eval (.Name x pos) X.env) Q E s := by
  obtain ⟨mb, h1, h2⟩ := I.mod.blt
  exact Calls.Name_function_global I.ok.kind hg (Calls.loadGlobal_builtin (by rw [I.ok.glob]; exact I.mod.glob.keeps I.bk) hm (by rw [I.ok.blt]; exact h1.keeps I.bk) ((h2 x hn).trans hv) h) hd
theorem pe_bltn {x : Str} {v : V} {u : Value} {pos : Pos} (hg : Gl X x) (hm : X.mg x = none) (hv : bootBuiltins x = some u) (r : RelV v u) (hn : x ≠ "__name__" := by decide) (hd : (x == ("__debug__" : Str)) = false := by decide) : PE X (.Name x pos) (tC v) :=
  fun _ _ _ H _ I h => ld_blt I hg hm hv ⟨v, H, I, r, h⟩ hn hd

variable {a b : Expr} {ta tb : TE} {pos : Pos}
def tB (t : TE) : TT := fun σ H Q => t σ H fun x H1 => ∃ c, x = .bl c ∧ Q c H1
theorem pt_val {e : Expr} {t : TE} (h : PE X e t) (he : ∀ whole, isTrue e X.env whole = (do let v ← whole; standAt e.pos; holding [v] (truthy v)) := by intro _; rfl) : PT X e (tB t) := by
  intro pins s σ H Q I hw
  refine isTrue_plain (thn (h pins s σ H _ I hw) fun v s1 ⟨x, H1, I1, r1, q1⟩ => ?_) (he _)
  obtain ⟨d, rfl, q⟩ := q1
  cases r1
  exact wpAny_truthy_bool ⟨H1, I1, q⟩

variable {tA tB' : TT} {rest : List Expr}
def tOr (t u : TT) : TT := fun σ H Q => t σ H fun c H1 => if c = true then Q true H1 else u σ H1 Q
def tNot (t : TT) : TT := fun σ H Q => t σ H fun c H1 => Q (!c) H1
theorem pw_or1 (ha : PT X a tA) : PW X (.BoolOp .Or [a] pos) tA := by
  intro wh pins s σ H Q I h
  refine isTrue_or (thn (ha pins s σ H Q I h) fun c s1 e => ?_)
  cases c with
  | false => exact isTrue_or_nil e
  | true => exact e
theorem pw_or (ha : PT X a tA) (hb : PW X (.BoolOp .Or (b :: rest) pos) tB') : PW X (.BoolOp .Or (a :: b :: rest) pos) (tOr tA tB') := by
  intro wh pins s σ H Q I h
  refine isTrue_or (thn (ha pins s σ H _ I h) fun c s1 ⟨H1, I1, q1⟩ => ?_)
  cases c with
  | true => exact ⟨H1, I1, q1⟩
  | false => exact hb wh pins s1 σ H1 Q I1 q1
theorem pt_not (ha : PT X a tA) : PT X (.UnaryOp .Not a pos) (tNot tA) := by
  intro pins s σ H Q I h
  exact isTrue_not (ha pins s σ H (fun c H1 => Q (!c) H1) I h)
def tAndV (ta tb : TE) : TE := fun σ H Q => ta σ H fun x H1 => ∃ c, x = .bl c ∧ if c = true then tb σ H1 Q else Q (.bl false) H1
def tNotV (ta : TE) : TE := fun σ H Q => ta σ H fun x H1 => ∃ c, x = .bl c ∧ Q (.bl (!c)) H1
theorem pe_one {op} {t : TE} (h : PE X a t) : PE X (.BoolOp op [a] pos) t := fun pins s σ H Q I hw => BoolOp_one (h pins s σ H Q I hw)
theorem pe_and (ha : PE X a ta) (hb : PE X (.BoolOp .And (b :: rest) pos) tb) : PE X (.BoolOp .And (a :: b :: rest) pos) (tAndV ta tb) := by
  intro pins s σ H Q I h
  refine BoolOp_and (thn (ha pins s σ H _ I h) fun v s1 ⟨x, H1, I1, r1, q1⟩ => ?_)
  obtain ⟨c, rfl, q1⟩ := q1
  cases r1
  refine wpAny_truthy_bool ?_
  cases c with
  | true => exact hb pins s1 σ H1 Q I1 q1
  | false => exact ⟨.bl false, H1, I1, rfl, q1⟩
theorem pe_not (ha : PE X a ta) : PE X (.UnaryOp .Not a pos) (tNotV ta) := by
  intro pins s σ H Q I h
  refine UnaryOp_ (thn (ha pins s σ H _ I h) fun v s1 ⟨x, H1, I1, r1, q1⟩ => ?_)
  obtain ⟨c, rfl, q1⟩ := q1
  cases r1
  exact not_of (wpAny_truthy_bool ⟨.bl (!c), H1, I1, rfl, q1⟩)
end
end L2

namespace L2
open PySem PySem.Spec PyProof.Rows

def SqL (K : PySem.W.Frag) (H : Hp) (a : Addr) (xs : List V) : Prop :=
  Rd H a (.lst xs) ∨
    ∃ (o : Obj) (its : Array Value) (n : Nat), K.lookup a = some o ∧ o.cls = .type "list" ∧ o.dict = none ∧ o.data = .seq its n ∧ its.size ≤ sizeLine ∧ Vals xs its.toList
def SqT (K : PySem.W.Frag) (H : Hp) (a : Addr) (xs : List V) : Prop :=
  Rd H a (.tup xs) ∨
    ∃ (o : Obj) (its : Array Value) (n : Nat), K.lookup a = some o ∧ o.cls = .type "tuple" ∧ o.data = .seq its n ∧ its.size ≤ sizeLine ∧ Vals xs its.toList
def absV : Value → Option V
  | .none => some .non
  | .bool b => some (.bl b)
  | .int i _ => some (.int i)
  | .str x _ => some (.str x)
  | .bytes b _ => some (.byt b)
  | .float b _ => some (.flt b)
  | .ref a => some (.ref a)
  | .type n => some (.ty n)
  | _ => none
theorem RelV.abs {x : V} {u : Value} (r : RelV x u) : absV u = some x := by
  cases x with
  | non => cases r; rfl
  | bl _ => cases r; rfl
  | int _ => obtain ⟨t, rfl⟩ := r; rfl
  | str _ => obtain ⟨t, rfl⟩ := r; rfl
  | byt _ => obtain ⟨t, rfl⟩ := r; rfl
  | flt _ => obtain ⟨t, rfl⟩ := r; rfl
  | ref _ => cases r; rfl
  | ty _ => cases r; rfl
theorem RelV.inj {x y : V} {u : Value} (r : RelV x u) (q : RelV y u) : x = y := Option.some.inj (r.abs.symm.trans q.abs)
theorem Vals.inj : ∀ {xs ys : List V} {us : List Value}, Vals xs us → Vals ys us → xs = ys
  | _, _, _, .nil, .nil => rfl
  | _, _, _, .cons r t, .cons r' t' => by rw [r.inj r', Vals.inj t t']
section
variable {X : Cx} {pins : List (Addr × Obj)} {σ : St} {H : Hp} {s : Shared} {a : Addr} {xs ys : List V}
theorem SqL.of {K : PySem.W.Frag} (h : H a = some (.lst xs)) : SqL K H a xs := .inl (.inl h)
theorem SqT.of {K : PySem.W.Frag} (h : H a = some (.tup xs)) : SqT K H a xs := .inl (.inl h)
theorem Inv.list (I : Inv X pins σ H s) (h : SqL X.K H a xs) : ∃ its : List Value, Vals xs its ∧ PlainL s.heap a its.toArray ∧ xs.length ≤ sizeLine := by
  rcases h with h | ⟨o, its, n, hk, hc, hd, hs, hz, r⟩
  · obtain ⟨z, its, n, r, e⟩ := h.ok I.hok
    exact ⟨its, r, ⟨_, n, e, rfl, rfl, rfl⟩, z⟩
  · refine ⟨its.toList, r, ⟨o, n, I.kIn a o hk, hc, hd, hs⟩, ?_⟩
    have e := r.length
    simp only [Array.length_toList] at e
    lia
theorem Inv.tuple (I : Inv X pins σ H s) (h : SqT X.K H a xs) : ∃ its : List Value, Vals xs its ∧ IsTup s.heap a its.toArray ∧ xs.length ≤ sizeLine := by
  rcases h with h | ⟨o, its, n, hk, hc, hs, hz, r⟩
  · obtain ⟨z, its, r, p⟩ := h.ok I.hok
    exact ⟨its, r, p, z⟩
  · refine ⟨its.toList, r, ⟨o, I.kIn a o hk, hc, n, hs⟩, ?_⟩
    have e := r.length
    simp only [Array.length_toList] at e
    lia
theorem Inv.list_inj (I : Inv X pins σ H s) (h : SqL X.K H a xs) (h' : SqL X.K H a ys) : xs = ys := by
  obtain ⟨its, r, ⟨o, n, e, _, _, d⟩, _⟩ := I.list h
  obtain ⟨its', r', ⟨o', n', e', _, _, d'⟩, _⟩ := I.list h'
  rw [e] at e'; cases e'
  rw [d] at d'
  injection d' with d1 _
  have : its = its' := by simpa using congrArg Array.toList d1
  subst this
  exact r.inj r'
end

abbrev Cx.wish (X : Cx) (E : Value → Shared → Prop) : Cx := { X with xe := E }
abbrev Cx.nox (X : Cx) : Cx := X.wish fun _ _ => False
theorem Cx.Ok.wish {X : Cx} (ok : X.Ok) (E : Value → Shared → Prop) : (X.wish E).Ok :=
  ⟨ok.mod, ok.kind, ok.glob, ok.blt, ok.above, ok.inj, ok.has, ok.cab, ok.hd, ok.frames, ok.stk, ok.exf, ok.bs, ok.bsz, ok.noex, ok.exfs, ok.funs, ok.frf⟩
theorem Cx.Ok.unwish {X : Cx} {E : Value → Shared → Prop} (ok : (X.wish E).Ok) : X.Ok :=
  ⟨ok.mod, ok.kind, ok.glob, ok.blt, ok.above, ok.inj, ok.has, ok.cab, ok.hd, ok.frames, ok.stk, ok.exf, ok.bs, ok.bsz, ok.noex, ok.exfs, ok.funs, ok.frf⟩
section
variable {X : Cx} {pins : List (Addr × Obj)} {σ : St} {H : Hp} {s : Shared} {E : Value → Shared → Prop}
theorem Inv.wish (I : Inv X pins σ H s) (E : Value → Shared → Prop) : Inv (X.wish E) pins σ H s := ⟨I.ok.wish E, I.os, I.bare, I.base, I.loc, I.cell, I.free, I.freeC, I.pin, I.hok, I.len⟩
theorem Inv.unwish (I : Inv (X.wish E) pins σ H s) : Inv X pins σ H s := ⟨I.ok.unwish, I.os, I.bare, I.base, I.loc, I.cell, I.free, I.freeC, I.pin, I.hok, I.len⟩
theorem SP.unwish {D : Ends} {f : Flow} {s' : Shared} (h : SP (X.wish E) pins D f s') : SP X pins D f s' := by
  cases f with
  | next => obtain ⟨σ', H', I, q⟩ := h; exact ⟨σ', H', I.unwish, q⟩
  | brk => obtain ⟨σ', H', I, q⟩ := h; exact ⟨σ', H', I.unwish, q⟩
  | cont => obtain ⟨σ', H', I, q⟩ := h; exact ⟨σ', H', I.unwish, q⟩
  | ret u => obtain ⟨v, σ', H', I, r, q⟩ := h; exact ⟨v, σ', H', I.unwish, r, q⟩
theorem PE.nox {e : Expr} {t : TE} (h : PE X.nox e t) : PE X e t := fun pins s σ H Q I hw =>
  wpAny_mono (h pins s σ H Q (I.wish _) hw) (fun _ _ ⟨v, H', I', r, q⟩ => ⟨v, H', I'.unwish, r, q⟩) fun _ _ z => False.elim z
theorem PT.nox {e : Expr} {t : TT} (h : PT X.nox e t) : PT X e t := fun pins s σ H Q I hw =>
  wpAny_mono (h pins s σ H Q (I.wish _) hw) (fun _ _ ⟨H', I', q⟩ => ⟨H', I'.unwish, q⟩) fun _ _ z => False.elim z
theorem PSs.nox {st : List Stmt} {t : TS} (h : PSs X.nox st t) : PSs X st t := fun pins s σ H D I hw =>
  wpAny_mono (h pins s σ H D (I.wish _) hw) (fun _ _ q => q.unwish) fun _ _ z => False.elim z
end

section
variable {X : Cx} {st : Stmt} {rest : List Stmt} {t u : TS} {e : Expr} {te : TE} {pos : Pos}
def tNext : TS := fun D σ H => D.nx σ H
def tSeq (t u : TS) : TS := fun D σ H => t { D with nx := u D } σ H
theorem pss_nil : PSs X [] tNext := fun _ _ σ H _ I h => wpAny_execs_nil ⟨σ, H, I, h⟩
theorem pss_cons (h1 : PS X st t) (h2 : PSs X rest u) : PSs X (st :: rest) (tSeq t u) := by
  intro pins s σ H D I h
  refine wpAny_execs_cons (thn (h1 pins s σ H { D with nx := u D } I h) fun f s1 q => ?_)
  cases f with
  | next =>
    obtain ⟨σ', H', I', q⟩ := q
    exact h2 pins s1 σ' H' D I' q
  | ret v => exact q
  | brk => exact q
  | cont => exact q
theorem pss_one (h1 : PS X st t) : PSs X [st] t := by
  intro pins s σ H D I h
  refine wpAny_execs_cons (thn (h1 pins s σ H D I h) fun f s1 q => ?_)
  cases f with
  | next => exact wpAny_execs_nil q
  | ret v => exact q
  | brk => exact q
  | cont => exact q
theorem Inv.quiet {pins : List (Addr × Obj)} {σ : St} {H : Hp} {s : Shared} (I : Inv X pins σ H s) : interactive X.env = false := by simp [interactive, I.ok.kind]
def tDrop (te : TE) : TS := fun D σ H => te σ H fun _ H1 => D.nx σ H1
theorem ps_expr (he : PE X e te) (hs : swapsWith e none pos.line X.env = pure false := by rfl) : PS X (.Expr e pos) (tDrop te) := by
  intro pins s σ H D I h
  exact wpAny_Expr_any (thn (he pins s σ H _ I h) fun v s1 ⟨x, H1, I1, r1, q1⟩ => ⟨σ, H1, I1, q1⟩) I.quiet hs
def tRet (te : TE) : TS := fun D σ H => te σ H D.rt
theorem ps_ret (he : PE X e te) : PS X (.Return (some e) pos) (tRet te) := by
  intro pins s σ H D I h
  exact wpAny_Return_some (thn (he pins s σ H _ I h) fun v s1 ⟨x, H1, I1, r1, q1⟩ => ⟨x, σ, H1, I1, r1, q1⟩)
def tIfS (c : TT) (t u : TS) : TS := fun D σ H => c σ H fun b H1 => if b = true then t D σ H1 else u D σ H1
theorem ps_if {c : Expr} {a b : List Stmt} {tc : TT} (hc : PT X c tc) (ha : PSs X a t) (hb : PSs X b u) : PS X (.If c a b pos) (tIfS tc t u) := by
  intro pins s σ H D I h
  refine wpAny_If (thn (hc pins s σ H _ I h) fun d s1 ⟨H1, I1, q1⟩ => ?_)
  cases d with
  | true => exact ha pins s1 σ H1 D I1 q1
  | false => exact hb pins s1 σ H1 D I1 q1
end

abbrev TG := V → St → Hp → (St → Hp → Prop) → Prop
abbrev TGs := List V → St → Hp → (St → Hp → Prop) → Prop
def PG (X : Cx) (target : Expr) (t : TG) : Prop :=
  ∀ (pins : List (Addr × Obj)) (s : Shared) (σ : St) (H : Hp) (v : V) (u : Value) (Q : St → Hp → Prop), Inv X pins σ H s → RelV v u → t v σ H Q →
    wpAny (model X.prog X.w) X.A (assign target X.env u) (fun _ s' => ∃ σ' H', Inv X pins σ' H' s' ∧ Q σ' H') X.xe s
def PGs (X : Cx) (ts : List Expr) (t : TGs) : Prop :=
  ∀ (pins : List (Addr × Obj)) (s : Shared) (σ : St) (H : Hp) (vs : List V) (us : List Value) (Q : St → Hp → Prop), Inv X pins σ H s → Vals vs us → t vs σ H Q →
    wpAny (model X.prog X.w) X.A (assignInOrder ((assignEach ts X.env).map (·.2)) us) (fun _ s' => ∃ σ' H', Inv X pins σ' H' s' ∧ Q σ' H') X.xe s
section
variable {X : Cx} {pos : Pos}
def gName (i : Nat) : TG := fun v σ H Q => Q (σ.set i (some v)) H
theorem pg_name {i : Nat} {x : Str} (hN : X.N.Nodup) (hi : X.N[i]? = some x) (hx : Loc X.env.scope x) (hf : X.fn x = true ∨ X.env.scope.names.lookup x = some .local := by first | exact .inl rfl | exact .inr rfl | assumption) : PG X (.Name x pos) (gName i) := by
  intro pins s σ H v u Q I r h
  exact wpAny_assign_Name (store_ok I hN hi hx r (fun s' I' => ⟨_, H, I', h⟩) hf)
def tAsg (te : TE) (g : TG) : TS := fun D σ H => te σ H fun x H1 => g x σ H1 D.nx
theorem ps_set {i : Nat} {x : Str} {e : Expr} {te : TE} {pos' : Pos} (hN : X.N.Nodup) (hi : X.N[i]? = some x) (hx : Loc X.env.scope x) (he : PE X e te) (hs : swapsWith e (some (.Name x pos')) pos.line X.env = pure false := by rfl) (hf : X.fn x = true ∨ X.env.scope.names.lookup x = some .local := by first | exact .inl rfl | exact .inr rfl | assumption) :
    PS X (.Assign [.Name x pos'] e pos) (tAsg te (gName i)) := by
  intro pins s σ H D I h
  refine wpAny_Assign_Name (thn (he pins s σ H _ I h) fun v s1 ⟨y, H1, I1, r1, q1⟩ => ?_) hs
  exact store_ok I1 hN hi hx r1 (fun s2 I2 => ⟨_, H1, I2, q1⟩) hf
end

section
variable {X : Cx} {pos : Pos}
def tWhile (c : TT) (tb : TS) : TS := fun D σ H => ∃ W : Nat → St → Hp → Prop, (∃ m, W m σ H) ∧ ∀ m σ H, W m σ H →
  c σ H fun b H1 => if b = true then ∃ N : St → Hp → Prop, (∀ σ' H', N σ' H' → ∃ m', m' < m ∧ W m' σ' H') ∧ tb { D with nx := N, ct := N, bk := D.nx } σ H1 else D.nx σ H1
theorem ps_while {c : Expr} {body : List Stmt} {tc : TT} {tb : TS} (hp : PassesOwn (model X.prog X.w) X.A X.env X.xe) (hc : PT X c tc) (hb : PSs X body tb) : PS X (.While c body [] pos) (tWhile tc tb) := by
  intro pins s σ H D I h
  obtain ⟨W, ⟨m0, w0⟩, turn⟩ := h
  refine wpAny_While (codeAny_whileLoop (fun n s' => ∃ σ' H', Inv X pins σ' H' s' ∧ W n σ' H') ?_ m0 ⟨σ, H, I, w0⟩)
  rintro n s1 ⟨σ1, H1, I1, w1⟩
  refine wpAny_passesOwn hp (thn (hc pins s1 σ1 H1 _ I1 (turn n σ1 H1 w1)) fun b s2 ⟨H2, I2, q2⟩ => ?_)
  cases b with
  | true =>
    obtain ⟨N, hN, q2⟩ := q2
    refine wpAny_passesOwn hp (thn (hb pins s2 σ1 H2 _ I2 q2) fun f s3 q3 => ?_)
    cases f with
    | next =>
      obtain ⟨σ3, H3, I3, n3⟩ := q3
      obtain ⟨m', hm, w3⟩ := hN σ3 H3 n3
      exact ⟨m', hm, σ3, H3, I3, w3⟩
    | cont =>
      obtain ⟨σ3, H3, I3, n3⟩ := q3
      obtain ⟨m', hm, w3⟩ := hN σ3 H3 n3
      exact ⟨m', hm, σ3, H3, I3, w3⟩
    | brk => exact q3
    | ret v => exact q3
  | false =>
    exact wpAny_execs_nil ⟨σ1, H2, I2, q2⟩
end

structure It where
  go : Nat → Hp → Prop
  yld : Nat → Hp → V → Hp → Prop
  stop : Nat → Hp → Prop
def FpOk (X : Cx) (pins : List (Addr × Obj)) (H : Hp) (b : Addr) : Prop :=
  H b = none ∧ b ≠ X.env.locals ∧ b ∉ X.fs ∧ (b ∈ X.ex ∨ X.s₀.heap.objs.size ≤ b) ∧ (∀ x c, X.env.cells.lookup x = some c → c ≠ b) ∧ ∀ p ∈ X.pn ++ pins, p.1 ≠ b
theorem Inv.fpOk {X : Cx} {pins : List (Addr × Obj)} {σ : St} {H H' : Hp} {s : Shared} {b : Addr} (I : Inv X pins σ H s) (hb : s.heap.objs.size ≤ b) (hn : H' b = none) : FpOk X pins H' b := by
  refine ⟨hn, Nat.ne_of_gt (Nat.lt_of_lt_of_le I.lt hb), I.nofs hb, .inr (Nat.le_trans I.sz hb), fun x c e z => ?_, fun p hp z => ?_⟩
  · obtain ⟨v, q⟩ := I.cell x c e
    exact absurd (Nat.lt_of_lt_of_le q.lt (by rw [z]; exact hb)) (Nat.lt_irrefl _)
  · exact absurd (Nat.lt_of_lt_of_le (Heap.lt_size (I.pin p hp).1) (by rw [z]; exact hb)) (Nat.lt_irrefl _)
structure Turn (P : Program) (w : World) (K : PySem.W.Frag) (tg : Expr) (J : It) (fp : List Addr) (it : Addr) (tn : Nat → Heap → Prop) : Prop where
  mem : it ∈ fp
  obj : ∀ i h, tn i h → ∀ b ∈ fp, ∃ o, h.get? b = some o ∧ ∀ v, o.data ≠ .cell v
  keep : ∀ i h h', tn i h → (∀ b ∈ fp, ∀ o, h.get? b = some o → h'.get? b = some o) → tn i h'
  item : ∀ (X : Cx), X.prog = P → X.w = w → X.K = K → X.calm = true → ∀ (i : Nat) (pins : List (Addr × Obj)) (s : Shared) (σ : St) (H : Hp) (E : Value → Shared → Prop), Inv X pins σ H s → (∀ b ∈ fp, FpOk X pins H b) → tn i s.heap → J.go i H →
    wpAny (model P w) X.A (pyNext (.ref it)) (fun r s1 => ∃ u, r = some u ∧
      wpAny (model P w) X.A (letOwnedTupleGo tg (.ref it) u) (fun _ s2 => ∃ x H', Inv X pins σ H' s2 ∧ RelV x u ∧ J.yld i H x H' ∧ tn (i + 1) s2.heap ∧ ∀ b ∈ fp, H' b = none) E s1) E s
  done : ∀ (X : Cx), X.prog = P → X.w = w → X.K = K → X.calm = true → ∀ (i : Nat) (pins : List (Addr × Obj)) (s : Shared) (σ : St) (H : Hp) (E : Value → Shared → Prop), Inv X pins σ H s → (∀ b ∈ fp, FpOk X pins H b) → tn i s.heap → J.stop i H →
    wpAny (model P w) X.A (pyNext (.ref it)) (fun r s1 => r = none ∧ Inv X pins σ H s1) E s
  self : ∀ (A : Around) (i : Nat) (s : Shared) (Q : Value → Shared → Prop) (E : Value → Shared → Prop), tn i s.heap → Q (.ref it) s → wpAny (model P w) A (pyIter (.ref it)) Q E s
abbrev TI := St → Hp → (It → Hp → Prop) → Prop
def PIE (X : Cx) (pins : List (Addr × Obj)) (σ : St) (tg : Expr) (R : It → Hp → Prop) (itv : Value) (s2 : Shared) : Prop :=
  ∃ (it : Addr) (fp : List Addr) (tn : Nat → Heap → Prop) (J : It) (H' : Hp), itv = .ref it ∧ Inv X pins σ H' s2 ∧ Turn X.prog X.w X.K tg J fp it tn ∧ tn 0 s2.heap ∧ (∀ b ∈ fp, FpOk X pins H' b) ∧ R J H'
def PI (X : Cx) (tg iter : Expr) (wi : TI) : Prop :=
  ∀ (pins : List (Addr × Obj)) (s : Shared) (σ : St) (H : Hp) (R : It → Hp → Prop), Inv X pins σ H s → wi σ H R →
    wpAny (model X.prog X.w) X.A (eval iter X.env) (fun v s1 => wpAny (model X.prog X.w) X.A (pyIter v) (PIE X pins σ tg R) X.xe s1) X.xe s

theorem go_of {M : Model} {A : Around} {E : Value → Shared → Prop} {s : Shared} {tg : Expr} {it : Addr} {u : Value} {o : Obj} {n : String} {vs : Array Value} {Q : Unit → Shared → Prop} (ho : s.heap.get? it = some o) (hc : o.cls = .type n) (hd : o.data = .fields vs)
    (hn : ["enumerate", "zip", "dict_itemiterator", "dict_reverseitemiterator", "odict_iterator", "itertools.zip_longest", "itertools.pairwise"].contains n = false) (hQ : Q () s) : wpAny M A (letOwnedTupleGo tg (.ref it) u) Q E s := by
  cases tg <;> first
    | exact wpAny_pure hQ
    | (cases u <;> first
        | exact wpAny_pure hQ
        | (refine wpAny_bind (wpAny_load ho ?_)
           rw [hc, hd]
           show wpAny M A (if (["enumerate", "zip", "dict_itemiterator", "dict_reverseitemiterator", "odict_iterator", "itertools.zip_longest", "itertools.pairwise"].contains n && vs[0]? == some (rawInt _)) = true then _ else _) Q E s
           rw [if_neg (by intro h; rw [hn] at h; cases h)]
           exact wpAny_pure hQ))

def Itl (K : PySem.W.Frag) (a : Addr) : It :=
  ⟨fun i H => ∃ xs x, SqL K H a xs ∧ xs[i]? = some x, fun i H x H' => H' = H ∧ ∀ xs, SqL K H a xs → xs[i]? = some x, fun i H => ∃ xs, SqL K H a xs ∧ xs.length ≤ i⟩
theorem turn_list {P : Program} {w : World} {K : PySem.W.Frag} {tg : Expr} (a it : Addr) : Turn P w K tg (Itl K a) [it] it (fun i h => h.IsListIter it a i) where
  mem := by simp
  obj := fun i h st b hb => by
    have e : b = it := by simpa using hb
    subst e
    obtain ⟨o, e, c, d⟩ := st
    exact ⟨o, e, fun v z => by rw [d] at z; cases z⟩
  keep := fun i h h' st k => st.at fun o e => k it (by simp) o e
  item := by
    intro X hP hw hK hc i pins s σ H E I hf st hg
    subst hP hw hK
    obtain ⟨xs, x, hq, hx⟩ := hg
    obtain ⟨its, rv, p, hz⟩ := I.list hq
    obtain ⟨u, hu, ru⟩ := rv.get hx
    obtain ⟨f0, f1, f2, f3, f4, f5⟩ := hf it (by simp)
    refine wpAny_pyNext_list_item st p.isList (by simpa using hu) fun h' st' sb => ?_
    have I1 : Inv X pins σ H { s with heap := h' } := I.turned (t' := s.toks) (fun b o hb e => (sb.2 b hb).trans e) f0 f1 f3 f4 f5
    obtain ⟨o, e, c, d⟩ := id st'
    exact ⟨u, rfl, go_of (s := { s with heap := h' }) e c d rfl ⟨x, H, I1, ru, ⟨rfl, fun ys hy => by rw [I.list_inj hy hq]; exact hx⟩, st', fun b hb => (hf b hb).1⟩⟩
  done := by
    intro X hP hw hK hc i pins s σ H E I hf st hg
    subst hP hw hK
    obtain ⟨xs, hq, hx⟩ := hg
    obtain ⟨its, rv, p, hz⟩ := I.list hq
    obtain ⟨f0, f1, f2, f3, f4, f5⟩ := hf it (by simp)
    have hl := rv.length
    exact wpAny_pyNext_list_end (I.ok.hd hc) st p.isList (by simp; lia) fun h' eb => ⟨rfl, I.turned (t' := s.toks) (fun b o hb e => eb b o hb e) f0 f1 f3 f4 f5⟩
  self := fun _ _ _ _ _ st h => wpAny_pyIter_listiter st h
end L2

namespace L2
open PySem PySem.Spec PyProof.Rows
section
variable {X : Cx} {tg : Expr}
def iList (K : PySem.W.Frag) (tl : TE) : TI := fun σ H R => tl σ H fun x H1 => ∃ a, x = .ref a ∧ (∃ xs, SqL K H1 a xs) ∧ R (Itl K a) H1
theorem pi_list {l : Expr} {tl : TE} (hl : PE X l tl) : PI X tg l (iList X.K tl) := by
  intro pins s σ H R I h
  refine thn (hl pins s σ H _ I h) fun v s1 ⟨x, H1, I1, r1, q1⟩ => ?_
  obtain ⟨a, e, ⟨xs, hq⟩, q⟩ := q1
  subst e
  cases r1
  obtain ⟨its, rv, p, hz⟩ := I1.list hq
  refine wpAny_pyIter_list p.isList ?_
  refine ⟨s1.heap.objs.size, [s1.heap.objs.size], _, _, H1, rfl, I1.kept (t' := s1.toks) fun b o e => Heap.get?_push_of_some _ e, turn_list a _, ⟨_, Heap.get?_push_size _ rfl, rfl, rfl⟩, fun b hb => ?_, q⟩
  have e : b = s1.heap.objs.size := by simpa using hb
  subst e
  exact I1.fpOk (Nat.le_refl _) (I1.hok.fresh (Nat.le_refl _))
def tFor (wi : TI) (g : TG) (tb : TS) : TS := fun D σ H => wi σ H fun J H1 => ∃ W : Nat → Nat → St → Hp → Prop, (∃ m, W 0 m σ H1) ∧ ∀ i m σ H, W i m σ H →
  (J.stop i H ∧ D.nx σ H) ∨ (J.go i H ∧ ∃ N : St → Hp → Prop, (∀ σ' H', N σ' H' → ∃ m', m' < m ∧ W (i + 1) m' σ' H') ∧ ∀ x H', J.yld i H x H' → g x σ H' fun σ2 H2 => tb { D with nx := N, ct := N, bk := D.nx } σ2 H2)
def pinsAt (fp : List Addr) (h : Heap) : List (Addr × Obj) := fp.filterMap fun b => (h.get? b).map fun o => (b, o)
theorem mem_pinsAt {fp : List Addr} {h : Heap} {b : Addr} {o : Obj} (hb : b ∈ fp) (e : h.get? b = some o) : (b, o) ∈ pinsAt fp h := List.mem_filterMap.mpr ⟨b, hb, by rw [e]; rfl⟩
theorem of_pinsAt {fp : List Addr} {h : Heap} {p : Addr × Obj} (hp : p ∈ pinsAt fp h) : p.1 ∈ fp ∧ h.get? p.1 = some p.2 := by
  obtain ⟨b, hb, e⟩ := List.mem_filterMap.mp hp
  cases q : h.get? b with
  | none => rw [q] at e; cases e
  | some o =>
    rw [q] at e
    have e' : (b, o) = p := Option.some.inj e
    subst e'
    exact ⟨hb, q⟩
theorem Inv.pinned {pins : List (Addr × Obj)} {σ : St} {H : Hp} {s : Shared} {fp : List Addr} (I : Inv X pins σ H s) (hf : ∀ b ∈ fp, FpOk X pins H b) (ho : ∀ b ∈ fp, ∃ o, s.heap.get? b = some o ∧ ∀ v, o.data ≠ .cell v) : Inv X (pins ++ pinsAt fp s.heap) σ H s :=
  I.pins_of fun p hp => (List.mem_append.mp hp).elim (fun z => I.pin p (List.mem_append_right _ z)) fun z => by
    obtain ⟨hb, e⟩ := of_pinsAt z
    obtain ⟨f0, f1, f2, _⟩ := hf p.1 hb
    obtain ⟨o, e', d⟩ := ho p.1 hb
    rw [e] at e'; cases e'
    exact ⟨e, f0, f1, f2, d⟩
theorem Inv.unpinned {pins pl : List (Addr × Obj)} {σ : St} {H : Hp} {s : Shared} (I : Inv X (pins ++ pl) σ H s) : Inv X pins σ H s := I.pins_of fun p hp => I.pin p (List.mem_append_right _ (List.mem_append_left _ hp))
theorem ps_for {iter : Expr} {body : List Stmt} {wi : TI} {g : TG} {tb : TS} {pos : Pos} (hp : PassesOwn (model X.prog X.w) X.A X.env X.xe) (hc : X.calm = true) (hi : PI X tg iter wi) (hg : PG X tg g) (hb : PSs X body tb)
    (hs : ∀ x, foldedSetIterable iter X.env x = pure x := by intro _; rfl) : PS X (.For tg iter body [] pos) (tFor wi g tb) := by
  intro pins s σ H D I h
  refine wpAny_For (thn (hi pins s σ H _ I h) fun v s1 h1 => thn h1 fun itv s2 h2 => ?_) hs
  obtain ⟨it, fp, tn, J, H2, e, I2, T, st2, f2, W, ⟨m0, w0⟩, turn⟩ := h2
  subst e
  have stat : ∀ {H' : Hp}, (∀ b ∈ fp, H' b = none) → ∀ b ∈ fp, FpOk X pins H' b := fun hn b hb => ⟨hn b hb, (f2 b hb).2⟩
  refine codeAny_forLoop_any (fun n s' => ∃ i σ' H', Inv X pins σ' H' s' ∧ tn i s'.heap ∧ (∀ b ∈ fp, H' b = none) ∧ W i n σ' H') ?_ m0 ⟨0, σ, H2, I2, st2, fun b hb => (f2 b hb).1, w0⟩
  rintro n s3 ⟨i, σ3, H3, I3, st3, fr3, w3⟩
  rcases turn i n σ3 H3 w3 with ⟨stop, qn⟩ | ⟨go, N, hN, step⟩
  · refine wpAny_passesOwn hp (thn (T.done X rfl rfl rfl hc i pins s3 σ3 H3 X.xe I3 (stat fr3) st3 stop) fun r s4 ⟨hr, I4⟩ => ?_)
    subst hr
    exact wpAny_execs_nil ⟨σ3, H3, I4, qn⟩
  · refine wpAny_passesOwn hp (thn (T.item X rfl rfl rfl hc i pins s3 σ3 H3 X.xe I3 (stat fr3) st3 go) fun r s4 ⟨u, hr, h4⟩ => ?_)
    subst hr
    refine wpAny_passesOwn hp (thn h4 fun _ s5 ⟨x, H5, I5, r5, y5, st5, fr5⟩ => ?_)
    have I5' := I5.pinned (stat fr5) (T.obj _ _ st5)
    refine wpAny_passesOwn hp (thn (hg _ s5 σ3 H5 x u _ I5' r5 (step x H5 y5)) fun _ s6 ⟨σ6, H6, I6, q6⟩ => ?_)
    refine wpAny_passesOwn hp (thn (hb _ s6 σ6 H6 _ I6 q6) fun f s7 q7 => ?_)
    have again : ∀ {σ7 : St} {H7 : Hp}, Inv X (pins ++ pinsAt fp s5.heap) σ7 H7 s7 → N σ7 H7 → ∃ m, m < n ∧ ∃ i σ' H', Inv X pins σ' H' s7 ∧ tn i s7.heap ∧ (∀ b ∈ fp, H' b = none) ∧ W i m σ' H' := fun {σ7 H7} I7 n7 => by
      obtain ⟨m', hm, w7⟩ := hN σ7 H7 n7
      refine ⟨m', hm, i + 1, σ7, H7, I7.unpinned, T.keep _ _ _ st5 fun b hb o e => (I7.pin (b, o) (List.mem_append_right _ (List.mem_append_right _ (mem_pinsAt hb e)))).1, fun b hb => ?_, w7⟩
      obtain ⟨o, e, d⟩ := T.obj _ _ st5 b hb
      exact (I7.pin (b, o) (List.mem_append_right _ (List.mem_append_right _ (mem_pinsAt hb e)))).2.1
    cases f with
    | next => obtain ⟨σ7, H7, I7, n7⟩ := q7; exact again I7 n7
    | cont => obtain ⟨σ7, H7, I7, n7⟩ := q7; exact again I7 n7
    | brk => obtain ⟨σ7, H7, I7, q7⟩ := q7; exact ⟨σ7, H7, I7.unpinned, q7⟩
    | ret v => obtain ⟨x7, σ7, H7, I7, r7, q7⟩ := q7; exact ⟨x7, σ7, H7, I7.unpinned, r7, q7⟩
end

end L2

namespace L2
open PySem PySem.Spec PyProof.Rows

abbrev R2 := V → V → Hp → VK → Prop
def OpR (X : Cx) (f : Value → Value → Sem Value) (r : R2) : Prop :=
  ∀ (pins : List (Addr × Obj)) (s : Shared) (σ : St) (H : Hp) (x y : V) (v u : Value) (Q : VK), Inv X pins σ H s → RelV x v → RelV y u → r x y H Q →
    wpAny (model X.prog X.w) X.A (f v u) (EP X pins σ Q) X.xe s
def CallR (X : Cx) (f : Value) (r : List V → Hp → VK → Prop) : Prop :=
  ∀ (pins : List (Addr × Obj)) (s : Shared) (σ : St) (H : Hp) (xs : List V) (us : List Value) (Q : VK), Inv X pins σ H s → Vals xs us → r xs H Q →
    wpAny (model X.prog X.w) X.A (call f us) (EP X pins σ Q) X.xe s
def tOp (r : R2) (ta tb : TE) : TE := fun σ H Q => ta σ H fun x H1 => tb σ H1 fun y H2 => r x y H2 Q
def rI (C : Int → Int → Prop) (g : Int → Int → V) : R2 := fun x y H Q => ∃ i j, x = .int i ∧ y = .int j ∧ C i j ∧ Q (g i j) H
def rI0 (g : Int → Int → V) : R2 := fun x y H Q => ∃ i j, x = .int i ∧ y = .int j ∧ Q (g i j) H
section
variable {X : Cx} {a b c : Expr} {ta tb tc : TE} {pos : Pos}

theorem binT (ha : PE X a ta) (hb : PE X b tb) {pins : List (Addr × Obj)} {s : Shared} {σ : St} {H : Hp} {R : V → V → Hp → Prop} (I : Inv X pins σ H s)
    (h : ta σ H fun x H1 => tb σ H1 fun y H2 => R x y H2) {Q : Value → Shared → Prop} {f : Value → Value → Sem Value}
    (hf : ∀ v u s2 x y H2, Inv X pins σ H2 s2 → RelV x v → RelV y u → R x y H2 → wpAny (model X.prog X.w) X.A (f v u) Q X.xe s2) :
    wpAny (model X.prog X.w) X.A (eval a X.env) (fun v s₁ => wpAny (model X.prog X.w) X.A (eval b X.env) (fun u s₂ => wpAny (model X.prog X.w) X.A (f v u) Q X.xe s₂) X.xe s₁) X.xe s := by
  refine thn (ha pins s σ H _ I h) fun v s1 ⟨x, H1, I1, r1, q1⟩ => ?_
  refine thn (hb pins s1 σ H1 _ I1 q1) fun u s2 ⟨y, H2, I2, r2, q2⟩ => ?_
  exact hf v u s2 x y H2 I2 r1 r2 q2

theorem pe_op {op : Operator} {r : R2} (ho : OpR X (binaryOp op) r) (ha : PE X a ta) (hb : PE X b tb) : PE X (.BinOp a op b pos) (tOp r ta tb) := by
  intro pins s σ H Q I h
  exact wpAny_BinOp (binT ha hb I h fun v u s2 x y H2 I2 rx ry q => ho pins s2 σ H2 x y v u Q I2 rx ry q)
theorem opI {f : Value → Value → Sem Value} {C : Int → Int → Prop} {g : Int → Int → Int}
    (rule : ∀ (i j : Int) (t u : Tok) (s : Shared) (Q : Value → Shared → Prop) (E : Value → Shared → Prop), C i j → Q (.int (g i j) s.toks) { s with toks := s.toks + 1 } → wpAny (model X.prog X.w) X.A (f (.int i t) (.int j u)) Q E s) :
    OpR X f (rI C fun i j => .int (g i j)) := by
  intro pins s σ H x y v u Q I rx ry h
  obtain ⟨i, j, rfl, rfl, hc, q⟩ := h
  obtain ⟨t, rfl⟩ := rx
  obtain ⟨t', rfl⟩ := ry
  exact rule i j t t' s _ _ hc ⟨.int (g i j), H, I.tok _, ⟨_, rfl⟩, q⟩
theorem opI0 {f : Value → Value → Sem Value} {g : Int → Int → Int}
    (rule : ∀ (i j : Int) (t u : Tok) (s : Shared) (Q : Value → Shared → Prop) (E : Value → Shared → Prop), Q (.int (g i j) s.toks) { s with toks := s.toks + 1 } → wpAny (model X.prog X.w) X.A (f (.int i t) (.int j u)) Q E s) :
    OpR X f (rI0 fun i j => .int (g i j)) := by
  intro pins s σ H x y v u Q I rx ry h
  obtain ⟨i, j, rfl, rfl, q⟩ := h
  obtain ⟨t, rfl⟩ := rx
  obtain ⟨t', rfl⟩ := ry
  exact rule i j t t' s _ _ ⟨.int (g i j), H, I.tok _, ⟨_, rfl⟩, q⟩
theorem opB0 {f : Value → Value → Sem Value} {g : Int → Int → Bool}
    (rule : ∀ (i j : Int) (t u : Tok) (s : Shared) (Q : Value → Shared → Prop) (E : Value → Shared → Prop), Q (.bool (g i j)) s → wpAny (model X.prog X.w) X.A (f (.int i t) (.int j u)) Q E s) :
    OpR X f (rI0 fun i j => .bl (g i j)) := by
  intro pins s σ H x y v u Q I rx ry h
  obtain ⟨i, j, rfl, rfl, q⟩ := h
  obtain ⟨t, rfl⟩ := rx
  obtain ⟨t', rfl⟩ := ry
  exact rule i j t t' s _ _ ⟨.bl (g i j), H, I, rfl, q⟩

def CDiv (i j : Int) : Prop := 0 < j ∧ j < 1073741824
def CPow (i j : Int) : Prop := 0 ≤ j ∧ j ≤ 1000000 ∧ i.natAbs < 2 ^ 64
def CMul (i j : Int) : Prop := (-(2 ^ 64) < i ∧ i < 2 ^ 64) ∨ (-(2 ^ 64) < j ∧ j < 2 ^ 64)
theorem CMul.ok {i j : Int} (h : CMul i j) : IntMulOk i j := by
  rcases h with ⟨h1, h2⟩ | ⟨h1, h2⟩
  · exact .of_left (intBits_le_64 h1 h2)
  · exact .of_right (intBits_le_64 h1 h2)
theorem op_add : OpR X (binaryOp .Add) (rI0 fun i j => .int (i + j)) := opI0 fun _ _ _ _ _ _ _ q => add_int q
theorem op_sub : OpR X (binaryOp .Sub) (rI0 fun i j => .int (i - j)) := opI0 fun _ _ _ _ _ _ _ q => sub_int q
theorem op_fdiv : OpR X (binaryOp .FloorDiv) (rI CDiv fun i j => .int (i / j)) := opI fun i j _ _ _ _ _ hc q => by
  have h1 : (0 : Int) < j := hc.1
  have h2 : j < 1073741824 := hc.2
  exact floordiv_int (by lia) (by rw [Int.fdiv_eq_ediv_of_nonneg i (by lia)]; exact q) (.inl (PyProof.noPylong_small (by omega)))
theorem op_mod : OpR X (binaryOp .Mod) (rI (fun _ j => 0 < j) fun i j => .int (i % j)) := opI fun i j _ _ _ _ _ hc q => by
  exact mod_int' (by lia) (by rw [Int.fmod_eq_emod_of_nonneg i (by lia)]; exact q)
theorem op_pow : OpR X (binaryOp .Pow) (rI CPow fun i j => .int (i ^ j.toNat)) := opI fun _ _ _ _ _ _ _ hc q => pow_int_small hc.1 hc.2.1 hc.2.2 q
end

def scal : V → V → Bool
  | .non, .non => true | .non, .int _ => true | .int _, .non => true | .non, .bl _ => true | .bl _, .non => true | .non, .str _ => true | .str _, .non => true
  | .int _, .int _ => true | .bl _, .bl _ => true | .str _, .str _ => true | .byt _, .byt _ => true
  | .int _, .str _ => true | .str _, .int _ => true | .bl _, .str _ => true | .str _, .bl _ => true
  | _, _ => false
def rEq : R2 := fun x y H Q => scal x y = true ∧ Q (.bl (decide (x = y))) H
theorem dec_int {i j : Int} : decide (V.int i = V.int j) = (i == j) := by
  rw [Bool.eq_iff_iff]
  simp
theorem dec_bl {i j : Bool} : decide (V.bl i = V.bl j) = (i == j) := by
  rw [Bool.eq_iff_iff]
  simp
theorem dec_str {i j : Str} : decide (V.str i = V.str j) = (i == j) := by
  rw [Bool.eq_iff_iff]
  simp
theorem dec_byt {i j : Array UInt8} : decide (V.byt i = V.byt j) = (i.toList == j.toList) := by
  rw [Bool.eq_iff_iff]
  cases i
  cases j
  simp

section
variable {X : Cx} {a b c : Expr} {ta tb tc : TE} {pos : Pos}
theorem fin_bl {pins : List (Addr × Obj)} {σ : St} {H : Hp} {s : Shared} {Q : VK} {k k' : Bool} (I : Inv X pins σ H s) (q : Q (.bl k) H) (e : k = k') : EP X pins σ Q (.bool k') s := by
  subst e
  exact ⟨.bl k, H, I, rfl, q⟩
theorem op_eq : OpR X (compareOp .Eq) rEq := by
  intro pins s σ H x y v u Q I rx ry h
  obtain ⟨hs, q⟩ := h
  cases x with
  | non =>
    cases rx
    cases y with
    | non => cases ry; exact PySem.EqNone.eq_none_none (fin_bl I q rfl)
    | bl j => cases ry; exact PySem.EqNone.eq_none_bool (fin_bl I q rfl)
    | int j => obtain ⟨t', rfl⟩ := ry; exact PySem.EqNone.eq_none_int (fin_bl I q rfl)
    | str j => obtain ⟨t', rfl⟩ := ry; exact PySem.EqNone.eq_none_str (fin_bl I q rfl)
    | _ => exact absurd (show false = true from hs) Bool.false_ne_true
  | bl i =>
    cases rx
    cases y with
    | non => cases ry; exact PySem.EqNone.eq_bool_none (fin_bl I q rfl)
    | bl j => cases ry; exact eq_bool (fin_bl I q dec_bl)
    | str j => obtain ⟨t', rfl⟩ := ry; exact PySem.EqMixed.eq_bool_str (fin_bl I q rfl)
    | _ => exact absurd (show false = true from hs) Bool.false_ne_true
  | int i =>
    obtain ⟨t, rfl⟩ := rx
    cases y with
    | non => cases ry; exact PySem.EqNone.eq_int_none (fin_bl I q rfl)
    | int j => obtain ⟨t', rfl⟩ := ry; exact eq_int (fin_bl I q dec_int)
    | str j => obtain ⟨t', rfl⟩ := ry; exact PySem.EqMixed.eq_int_str (fin_bl I q rfl)
    | _ => exact absurd (show false = true from hs) Bool.false_ne_true
  | str i =>
    obtain ⟨t, rfl⟩ := rx
    cases y with
    | non => cases ry; exact PySem.EqNone.eq_str_none (fin_bl I q rfl)
    | bl j => cases ry; exact PySem.EqMixed.eq_str_bool (fin_bl I q rfl)
    | int j => obtain ⟨t', rfl⟩ := ry; exact PySem.EqMixed.eq_str_int (fin_bl I q rfl)
    | str j => obtain ⟨t', rfl⟩ := ry; exact eq_str (fin_bl I q dec_str)
    | _ => exact absurd (show false = true from hs) Bool.false_ne_true
  | byt i =>
    obtain ⟨t, rfl⟩ := rx
    cases y with
    | byt j => obtain ⟨t', rfl⟩ := ry; exact PySem.W.eq_bytes (fin_bl I q dec_byt)
    | _ => exact absurd (show false = true from hs) Bool.false_ne_true
  | _ => cases y <;> exact absurd (show false = true from hs) Bool.false_ne_true
theorem op_lt : OpR X (compareOp .Lt) (rI0 fun i j => .bl (decide (i < j))) := opB0 fun _ _ _ _ _ _ _ q => lt_int q
theorem op_le : OpR X (compareOp .LtE) (rI0 fun i j => .bl (decide (i ≤ j))) := opB0 fun _ _ _ _ _ _ _ q => le_int q
theorem op_gt : OpR X (compareOp .Gt) (rI0 fun i j => .bl (decide (j < i))) := opB0 fun _ _ _ _ _ _ _ q => gt_int q
theorem op_ge : OpR X (compareOp .GtE) (rI0 fun i j => .bl (decide (j ≤ i))) := opB0 fun _ _ _ _ _ _ _ q => ge_int q
theorem OpR.or {f : Value → Value → Sem Value} {r r' : R2} (h : OpR X f r) (h' : OpR X f r') : OpR X f (fun x y H Q => r x y H Q ∨ r' x y H Q) := by
  intro pins s σ H x y v u Q I rx ry q
  rcases q with q | q
  · exact h pins s σ H x y v u Q I rx ry q
  · exact h' pins s σ H x y v u Q I rx ry q

theorem nomark (b : Expr) {op : CmpOp} (h : op ≠ .In := by decide) (h2 : op ≠ .NotIn := by decide) : behindInMarks op b = false := by
  have e1 : (op == CmpOp.In) = false := by cases op <;> first | rfl | exact absurd rfl h
  have e2 : (op == CmpOp.NotIn) = false := by cases op <;> first | rfl | exact absurd rfl h2
  cases b <;> simp [behindInMarks, e1, e2]
theorem pe_cmpR {op : CmpOp} {r : R2} (ho : OpR X (compareOp op) r) (ha : PE X a ta) (hb : PE X b tb) (hm : behindInMarks op b = false) : PE X (.Compare a [op] [b] pos) (tOp r ta tb) := by
  intro pins s σ H Q I h
  exact wpAny_Compare1 (binT ha hb I h fun v u s2 x y H2 I2 rx ry q => ho pins s2 σ H2 x y v u Q I2 rx ry q) hm
def tTest (t : TE) : TT := fun σ H Q => t σ H fun x H' => ∃ k, x = .bl k ∧ Q k H'
theorem pt_cmpR {op : CmpOp} {r : R2} (ho : OpR X (compareOp op) r) (ha : PE X a ta) (hb : PE X b tb) (hm : behindInMarks op b = false) : PT X (.Compare a [op] [b] pos) (tTest (tOp r ta tb)) := by
  intro pins s σ H Q I h
  refine wpAny_isTrue_Compare1 (thn (ha pins s σ H _ I h) fun v s1 ⟨x, H1, I1, r1, q1⟩ => thn (hb pins s1 σ H1 _ I1 q1) fun u s2 ⟨y, H2, I2, r2, q2⟩ =>
    thn (ho pins s2 σ H2 x y v u _ I2 r1 r2 q2) fun c s3 ⟨z, H3, I3, r3, k, e, q3⟩ => ?_) hm
  subst e
  cases r3
  exact wpAny_truthy_bool ⟨H3, I3, q3⟩
def tChain (r r' : R2) (ta tb tc : TE) : TE := fun σ H Q => ta σ H fun x H1 => tb σ H1 fun y H2 => r x y H2 fun z H3 => ∃ k, z = .bl k ∧
  (if k = true then tc σ H3 fun w' H4 => r' y w' H4 Q else Q (.bl false) H3)
theorem pt_chain {op op' : CmpOp} {r r' : R2} (ho : OpR X (compareOp op) r) (ho' : OpR X (compareOp op') r') (ha : PE X a ta) (hb : PE X b tb) (hc : PE X c tc)
    (hm : lastMarks [op, op'] [b, c] = false := by with_unfolding_all rfl) : PT X (.Compare a [op, op'] [b, c] pos) (tTest (tChain r r' ta tb tc)) := by
  intro pins s σ H Q I h
  refine isTrue_chain (thn (ha pins s σ H _ I h) fun v s1 ⟨x, H1, I1, r1, q1⟩ => test_link (thn (hb pins s1 σ H1 _ I1 q1) fun u s2 ⟨y, H2, I2, r2, q2⟩ =>
    thn (ho pins s2 σ H2 x y v u _ I2 r1 r2 q2) fun d s3 ⟨z, H3, I3, r3, k, e, q3⟩ => ?_)) hm
  subst e
  cases r3
  refine wpAny_truthy_bool ?_
  cases k with
  | false =>
    obtain ⟨k', e', q'⟩ := q3
    cases e'
    exact ite_ff ⟨H3, I3, q'⟩
  | true =>
    refine ite_tt (test_last (thn (hc pins s3 σ H3 _ I3 q3) fun w' s4 ⟨z', H4, I4, r4, q4⟩ => thn (ho' pins s4 σ H4 y z' u w' _ I4 r2 r4 q4) fun d' s5 ⟨z2, H5, I5, r5, k2, e2, q5⟩ => ?_))
    subst e2
    cases r5
    exact wpAny_truthy_bool ⟨H5, I5, q5⟩

theorem line63 : (sizeLine : Nat) < 2 ^ 63 := by rw [sizeLine_eq]; decide
theorem vals1 {x : V} {us : List Value} (r : Vals [x] us) : ∃ u, us = [u] ∧ RelV x u := by
  cases r with
  | cons r1 r2 => cases r2; exact ⟨_, rfl, r1⟩
theorem vals2 {x y : V} {us : List Value} (r : Vals [x, y] us) : ∃ u w', us = [u, w'] ∧ RelV x u ∧ RelV y w' := by
  cases r with
  | cons r1 r2 =>
    cases r2 with
    | cons r3 r4 => cases r4; exact ⟨_, _, rfl, r1, r3⟩
end
end L2

namespace L2
open PySem PySem.Spec PyProof.Rows

structure ObjM (h : Heap) (x dx C : Addr) (mA : Str → Option Value) : Prop where
  obj : h.get? x = some (PySem.W.instObj C dx)
  ns : h.Ns1 dx mA
  ne : dx ≠ x

theorem lookIn_ns {h : Heap} {dx : Addr} {mA : Str → Option Value} (n : h.Ns1 dx mA) : ∃ od, h.get? dx = some od ∧ ∀ name, PySem.W.lookIn name od = some (mA name) := by
  obtain ⟨o, es, ep, ho, hd, hk, _, hm⟩ := n
  refine ⟨o, ho, fun name => ?_⟩
  have e := hm name
  unfold nsFind findBy at e
  rw [← Array.find?_toList] at e
  unfold PySem.W.lookIn
  rw [hd]
  dsimp only
  split
  · rename_i y q
    rw [q] at e
    exact congrArg some e
  · rename_i q
    rw [q] at e
    have a : es.toList.any (·.refKey) = false := by
      rw [List.any_eq_false]
      intro y hy
      obtain ⟨z, t, hkey⟩ := hk y (Array.mem_toList_iff.mp hy)
      simp [DictEntry.refKey, hkey]
    have a' : ¬ es.toList.any (·.refKey) = true := by rw [a]; exact Bool.false_ne_true
    rw [if_neg a']
    exact congrArg some e

theorem ObjM.look {h : Heap} {x dx C : Addr} {mA : Str → Option Value} (I : ObjM h x dx C mA) : ∃ od, PySem.W.InstAt h x (PySem.W.instObj C dx) C (some od) ∧ ∀ name, PySem.W.lookIn name od = some (mA name) :=
  let ⟨od, ho, hl⟩ := lookIn_ns I.ns
  ⟨od, ⟨I.obj, rfl, rfl, ho⟩, hl⟩

section
variable {prog : Program} {w : World} {A : Around} {E : Value → Shared → Prop} {s : Shared} {K : PySem.W.Frag} {x dx C f : Addr} {mA : Str → Option Value} {name : Str} {v : Value}

end

section
variable {P : Program} {w : World} {H H' : Hp} {h h' : Heap} {a C dx : Addr} {fs fs' : List (Str × V)}
theorem ins_get (hok : HOk P w H h) (e : H a = some (.ins C dx fs)) : ∃ mA, ObjM h a dx C mA ∧ (∀ f, RelO (fs.lookup f) (mA f)) ∧ PySem.Within mA (fs.map (·.1)) ∧ fs.length ≤ 1000 ∧ H dx = some (.own a) := by
  obtain ⟨d, z, ne, ob, mA, n, r, q⟩ := (show ObjOk P w H h a (.ins C dx fs) from hok a _ e)
  exact ⟨mA, ⟨ob, n, ne⟩, r, q, z, d⟩
end

structure Cls (K : PySem.W.Frag) (C : Addr) : Prop where
  pg : PySem.W.plainGet K C Str.empty = true
  hd : PySem.W.hasDictIn K C = true
  po : PySem.W.plainOver K C = true
  sa : PySem.W.findIn K (.ref C) "__setattr__" = some (some (.builtin "object.__setattr__"))
theorem Cls.get {K : PySem.W.Frag} {C : Addr} (c : Cls K C) (f : Str) : PySem.W.plainGet K C f = true := c.pg
def NoAttr (K : PySem.W.Frag) (C : Addr) (f : Str) : Prop := PySem.W.findIn K (.ref C) f = some none
structure Con (K : PySem.W.Frag) (C : Addr) (f : Str) (v : V) (u : Value) : Prop where
  at_ : PySem.W.findIn K (.ref C) f = some (some u)
  rel : RelV v u
  get : PySem.W.specialIn K u "__get__" = some none
  cp : PySem.W.copiedNames.contains f = false
structure Meth (K : PySem.W.Frag) (C : Addr) (m : Str) (f : Addr) : Prop where
  at_ : PySem.W.findIn K (.ref C) m = some (some (.ref f))
  fn : PySem.W.isFn K (.ref f) = true
  kp : PySem.W.keepIn K (.ref f) = true

section
variable {X : Cx} {pins : List (Addr × Obj)} {σ : St} {H : Hp} {s : Shared} {a C dx : Addr} {fs : List (Str × V)} {f : Str} {v : V} {A : Around} {E : Value → Shared → Prop}

theorem Inv.made (I : Inv X pins σ H s) : Inv X pins σ (upd (upd H s.heap.objs.size (.own (s.heap.objs.size + 1))) (s.heap.objs.size + 1) (.ins C s.heap.objs.size []))
    { s with heap := (s.heap.push PySem.W.emptyDict).push (PySem.W.instObj C s.heap.objs.size) } := by
  have e1 : (s.heap.push PySem.W.emptyDict).get? s.heap.objs.size = some PySem.W.emptyDict := Heap.get?_push_size s.heap rfl
  have e2 : ((s.heap.push PySem.W.emptyDict).push (PySem.W.instObj C s.heap.objs.size)).get? (s.heap.objs.size + 1) = some (PySem.W.instObj C s.heap.objs.size) := by
    have := Heap.get?_push_size (s.heap.push PySem.W.emptyDict) (o := PySem.W.instObj C s.heap.objs.size) rfl
    rwa [Heap.size_push] at this
  have e3 : (s.heap.push PySem.W.emptyDict).Ns s.heap.objs.size (fun _ => none) := ⟨PySem.W.emptyDict, #[], _, e1, rfl, (fun e he => absurd he (by simp)), fun _ => rfl⟩
  have I1 := I.laid (o := .own (s.heap.objs.size + 1)) (h' := s.heap.push PySem.W.emptyDict) (t' := s.toks) (fun b u q => Heap.get?_push_of_some _ q) (Nat.le_refl _) ⟨_, e1⟩
  refine I1.laid (a := s.heap.objs.size + 1) (o := .ins C s.heap.objs.size []) (t' := s.toks) (fun b u q => Heap.get?_push_of_some _ q) (Nat.le_of_eq (Heap.size_push _ _)) ?_
  have ne : s.heap.objs.size ≠ s.heap.objs.size + 1 := Nat.ne_of_lt (Nat.lt_succ_self _)
  refine ⟨by rw [upd_ne ne, upd_same], Nat.zero_le _, ne, e2, fun _ => none, (Heap.Ns1.of_empty e3).at fun o q => Heap.get?_push_of_some _ q, fun _ => True.intro, fun y hy => absurd rfl hy⟩

end

section
variable {X : Cx} {o e value : Expr} {f : Str} {pos pos' tpos : Pos} {ta tv : TE}
end

section
variable {X : Cx} {pins : List (Addr × Obj)} {σ : St} {H : Hp} {s : Shared} {A : Around} {E : Value → Shared → Prop} {Q : Value → Shared → Prop} {c : Value} {b : Bool}
inductive TyOf (K : PySem.W.Frag) (H : Hp) : V → Value → Prop where
  | non : TyOf K H .non (.type "NoneType")
  | bl (x : Bool) : TyOf K H (.bl x) (.type "bool")
  | int (i : Int) : TyOf K H (.int i) (.type "int")
  | str (x : Str) : TyOf K H (.str x) (.type "str")
  | flt (x : UInt64) : TyOf K H (.flt x) (.type "float")
  | lst {a : Addr} {xs : List V} (e : H a = some (.lst xs)) : TyOf K H (.ref a) (.type "list")
  | frz {a : Addr} {o : Obj} {xs : List V} (e : H a = some (.frz o (.lst xs))) : TyOf K H (.ref a) (.type "list")
  | tup {a : Addr} {xs : List V} (e : H a = some (.tup xs)) : TyOf K H (.ref a) (.type "tuple")
  | dK {a : Addr} {kvs : List (Key × V)} (e : H a = some (.dK kvs)) : TyOf K H (.ref a) (.type "dict")
  | dT {a : Addr} {kvs : List (List Key × V)} (e : H a = some (.dT kvs)) : TyOf K H (.ref a) (.type "dict")
  | ins {a C dx : Addr} {fs : List (Str × V)} (e : H a = some (.ins C dx fs)) (cl : Cls K C) (ha : PySem.W.findIn K (.ref C) "__class__" = some (some (.builtin "object.__class__")))
      (hn : PySem.W.specialIn K (.builtin "object.__class__") "__get__" = some (some (.builtin "getset_descriptor.__get__"))) (htk : PySem.W.takesIn K (.builtin "object.__class__") = some true)
      (hm : PySem.W.mroIn K C (.type "object") = some true) : TyOf K H (.ref a) (.ref C)
theorem isinst_ok {x : V} {u t : Value} (I : Inv X pins σ H s) (rx : RelV x u) (ty : TyOf X.K H x t) (e : PySem.W.kitOne X.K t c = some b) (h : ∀ tk, Q (.bool b) { s with toks := tk }) :
    wpAny (model X.prog X.w) A (call (.builtin "isinstance") [u, c]) Q E s := by
  cases ty with
  | non => cases (show u = Value.none from rx); exact PySem.W.kia_one PySem.W.kitx_none I.kIn True.intro e (fun z => nomatch z) h
  | bl y => cases (show u = Value.bool y from rx); exact PySem.W.kia_one PySem.W.kitx_bool I.kIn True.intro e (fun z => nomatch z) h
  | int i => obtain ⟨t, q⟩ := (show ∃ t, u = Value.int i t from rx); cases q; exact PySem.W.kia_one PySem.W.kitx_int I.kIn True.intro e (fun z => nomatch z) h
  | str y => obtain ⟨t, q⟩ := (show ∃ t, u = Value.str y t from rx); cases q; exact PySem.W.kia_one PySem.W.kitx_str I.kIn True.intro e (fun z => nomatch z) h
  | flt y => obtain ⟨t, q⟩ := (show ∃ t, u = Value.float y t from rx); cases q; exact PySem.W.kia_one PySem.W.kitx_float I.kIn True.intro e (fun z => nomatch z) h
  | @lst a xs ea =>
    cases (show u = Value.ref a from rx)
    obtain ⟨_, _, n, _, h1⟩ := (show ObjOk X.prog X.w H s.heap a (.lst xs) from I.hok a _ ea)
    exact PySem.W.kia_one PySem.W.kitx_list I.kIn ⟨_, h1, rfl⟩ e (fun z => nomatch z) h
  | @frz a ob xs ea =>
    cases (show u = Value.ref a from rx)
    obtain ⟨_, _, _, n, _, h1⟩ := (show ObjOk X.prog X.w H s.heap a (.frz ob (.lst xs)) from I.hok a _ ea)
    exact PySem.W.kia_one PySem.W.kitx_list I.kIn ⟨_, h1, rfl⟩ e (fun z => nomatch z) h
  | @tup a xs ea =>
    cases (show u = Value.ref a from rx)
    obtain ⟨_, _, _, p⟩ := (show ObjOk X.prog X.w H s.heap a (.tup xs) from I.hok a _ ea)
    obtain ⟨o, h1, h2, _⟩ := p
    exact PySem.W.kia_one PySem.W.kitx_tuple I.kIn ⟨o, h1, h2⟩ e (fun z => nomatch z) h
  | @dK a kvs ea =>
    cases (show u = Value.ref a from rx)
    obtain ⟨_, _, vs, _, p⟩ := (show ObjOk X.prog X.w H s.heap a (.dK kvs) from I.hok a _ ea)
    obtain ⟨o, es, ep, h1, h2, _⟩ := p
    exact PySem.W.kia_one PySem.W.kitx_dict I.kIn ⟨o, h1, h2.1⟩ e (fun z => nomatch z) h
  | @dT a kvs ea =>
    cases (show u = Value.ref a from rx)
    obtain ⟨_, _, xs, _, o, es, ep, h1, h2, _⟩ := (show ObjOk X.prog X.w H s.heap a (.dT kvs) from I.hok a _ ea)
    exact PySem.W.kia_one PySem.W.kitx_dict I.kIn ⟨o, h1, h2.1⟩ e (fun z => nomatch z) h
  | @ins a C dx fs ea cl ha hn htk hm =>
    cases (show u = Value.ref a from rx)
    obtain ⟨mA, O, _⟩ := ins_get I.hok ea
    obtain ⟨od, J, _⟩ := O.look
    exact PySem.W.kia_one (PySem.W.kitx_own (cl.get _) cl.hd ha hn htk hm) I.kIn J e (fun z => nomatch z) h
end
end L2

namespace L2
open PySem PySem.Spec PyProof.Rows

structure Room (k : Nat) (A : Around) : Prop where
  hd : A.handled = none
  dp : A.depth + 3 * k + 5 < recursionLimit
  un : A.units + 16 * k + 200 < cLine
theorem Room.mono {j k : Nat} {A : Around} (r : Room k A) (h : j ≤ k) : Room j A := ⟨r.hd, by have := r.dp; lia, by have := r.un; lia⟩
theorem Room.deeper {k : Nat} {A : Around} (r : Room (k + 1) A) (env : Env) : Room k (A.deeper env) :=
  ⟨r.hd, by have := r.dp; show A.depth + 1 + 3 * k + 5 < _; lia, by have := r.un; show A.units + 3 + 16 * k + 200 < _; lia⟩
theorem Room.in1 {k : Nat} {A : Around} (r : Room (k + 1) A) : Room k A.in1 :=
  ⟨r.hd, by have := r.dp; show A.depth + 3 * k + 5 < _; lia, by have := r.un; show A.units + 1 + 16 * k + 200 < _; lia⟩
theorem make_depth {A : Around} {C : Addr} {us : List Value} {kw : List (Str × Value)} : (A.under (.builtin "type.__call__" ⟨.ref C :: us, kw⟩)).depth = A.depth + 1 := by
  first | rfl | simp [ guardIds]
theorem make_units {A : Around} {C : Addr} {us : List Value} {kw : List (Str × Value)} : (A.under (.builtin "type.__call__" ⟨.ref C :: us, kw⟩)).units = A.units + 1 := by
  first | rfl | simp [ Code.isFrame]
theorem Room.make {k : Nat} {A : Around} (r : Room (k + 1) A) (C : Addr) (us : List Value) (kw : List (Str × Value)) : Room k (A.under (.builtin "type.__call__" ⟨.ref C :: us, kw⟩)) :=
  ⟨r.hd, by have := r.dp; rw [make_depth]; lia, by have := r.un; rw [make_units]; lia⟩
theorem Room.depth {k : Nat} {A : Around} (r : Room k A) : A.depth < recursionLimit := by have := r.dp; lia
theorem Room.units {k : Nat} {A : Around} (r : Room k A) : A.units + 64 < cLine := by have := r.un; lia
def tNil : TA := fun _ H Q => Q [] H
def tCons (ta : TE) (tr : TA) : TA := fun σ H Q => ta σ H fun x H1 => tr σ H1 fun xs H2 => Q (x :: xs) H2
section
variable {X : Cx} {e : Expr} {es : List Expr} {te : TE} {t : TA} {pos : Pos}
theorem pa_nil : PA X [] tNil := fun _ _ _ _ H Q I h => Calls.spliced_nil ⟨[], H, I, .nil, h⟩
theorem pa_cons (ha : PE X e te) (hr : PA X es t) (hs : starEach (e :: es) X.env = (false, eval e X.env) :: starEach es X.env := by rfl) : PA X (e :: es) (tCons te t) := by
  intro pos pins s σ H Q I h
  rw [hs]
  refine Calls.spliced_cons (thn (ha pins s σ H _ I h) fun u s1 ⟨x, H1, I1, r1, q1⟩ => ?_)
  exact thn (hr pos pins s1 σ H1 _ I1 q1) fun us s2 ⟨xs, H2, I2, r2, q2⟩ => ⟨x :: xs, H2, I2, .cons r1 r2, q2⟩

end

abbrev Sp := List V → Hp → VK → XK → Prop
abbrev CXT := List Env → Hp → Shared → XK → Value → Shared → Prop

structure Env0 (P : Program) (w : World) (K : PySem.W.Frag) (mg : Str → Option Value) (base : Heap) (A : Around) (outer : List Env) (s : Shared) (H : Hp) : Prop where
  frames : A.frames = some outer
  mod : Mod K mg base
  bs : ∀ b o, base.get? b = some o → s.heap.get? b = some o ∧ H b = none
  bsz : base.objs.size ≤ s.heap.objs.size
  funs : s.heap.FunFrames base outer
  frf : ∀ b ∈ frs outer, H b = none
  hok : HOk P w H s.heap
  bare : AllBare s.gens
def CE (outer : List Env) (P : Program) (w : World) (H : Hp) (s : Shared) (Q : VK) (u : Value) (s' : Shared) : Prop :=
  ∃ v H', s'.os = s.os ∧ AllBare s'.gens ∧ Un (frs outer) [] H H' s.heap s'.heap ∧ HOk P w H' s'.heap ∧ RelV v u ∧ Q v H'
def CR (CX : CXT) (outer : List Env) (P : Program) (w : World) (H : Hp) (s : Shared) (Q : VK) (E : XK) (r : Result) (s' : Shared) : Prop :=
  match r with
  | .ok (.ret u) => CE outer P w H s Q u s'
  | .ok _ => False
  | .error e => CX outer H s E e s'
structure FnOk (P : Program) (w : World) (K : PySem.W.Frag) (mg : Str → Option Value) (base : Heap) (CX : CXT) (k : Nat) (f : Addr) (fd : FuncData) (ps : List Str) (sp : Sp) : Prop where
  len : ∀ vs H Q E, sp vs H Q E → vs.length = ps.length
  run : ∀ (A : Around) (outer : List Env) (s : Shared) (H : Hp) (args : Args) (us : List Value) (vs : List V) (Q : VK) (E : XK), Room k A → Env0 P w K mg base A outer s H → BindsTo s fd args (ps.zip us) → Vals vs us → sp vs H Q E →
    codeAny (model P w) A (.call (.ref f) args) (CR CX outer P w H s Q E) s
theorem FnOk.mono {P : Program} {w : World} {K : PySem.W.Frag} {mg : Str → Option Value} {base : Heap} {CX : CXT} {j k : Nat} {f : Addr} {fd : FuncData} {ps : List Str} {sp : Sp} (F : FnOk P w K mg base CX j f fd ps sp) (h : j ≤ k) :
    FnOk P w K mg base CX k f fd ps sp := ⟨F.len, fun A outer s H args us vs Q E hr => F.run A outer s H args us vs Q E (hr.mono h)⟩
theorem Env0.make {P : Program} {w : World} {K : PySem.W.Frag} {mg : Str → Option Value} {base : Heap} {A : Around} {outer : List Env} {s : Shared} {H : Hp} (e : Env0 P w K mg base A outer s H) (C : Addr) (us : List Value) (kw : List (Str × Value)) :
    Env0 P w K mg base (A.under (.builtin "type.__call__" ⟨.ref C :: us, kw⟩)) outer s H := ⟨by first | exact e.frames | (simpa [ pushEnvs] using e.frames), e.mod, e.bs, e.bsz, e.funs, e.frf, e.hok, e.bare⟩
theorem Env0.in1 {P : Program} {w : World} {K : PySem.W.Frag} {mg : Str → Option Value} {base : Heap} {A : Around} {outer : List Env} {s : Shared} {H : Hp} (e : Env0 P w K mg base A outer s H) :
    Env0 P w K mg base A.in1 outer s H := ⟨e.frames, e.mod, e.bs, e.bsz, e.funs, e.frf, e.hok, e.bare⟩

section
variable {X : Cx} {pins : List (Addr × Obj)} {σ : St} {H : Hp} {s s' : Shared}
theorem Inv.env0 (I : Inv X pins σ H s) : Env0 X.prog X.w X.K X.mg X.base X.A X.stack s H :=
  ⟨I.ok.frames, I.ok.mod, I.bs, Nat.le_trans I.ok.bsz I.sz, I.stack, I.stkFree, I.hok, I.bare⟩
theorem Inv.after {Q : VK} {u : Value} (I : Inv X pins σ H s) (h : CE X.stack X.prog X.w H s Q u s') : EP X pins σ Q u s' := by
  obtain ⟨v, H', os, bare, un, hok, r, q⟩ := h
  obtain ⟨hh, g, d, t, os'⟩ := s'
  obtain rfl : os' = s.os := os
  exact ⟨v, H', I.call (h' := hh) (g' := g) (d' := d) (t' := t) (ch := []) un hok bare (fun b z => absurd z (by simp)), r, q⟩
end

def tCall (sp : Sp) (dvs : List V) (E : XK) (t : TA) : TE := fun σ H Q => t σ H fun vs H1 => sp (vs ++ dvs) H1 Q E
def Binds (K : PySem.W.Frag) (fd : FuncData) (ps : List Str) (ds : List Value) : Prop :=
  ∀ (s : Shared) (us : List Value), K.In s.heap → (us ++ ds).length = ps.length → BindsTo s fd ⟨us, []⟩ (ps.zip (us ++ ds))
theorem Binds.all {K : PySem.W.Frag} {fd : FuncData} {ps : List Str} (h : ∀ us : List Value, us.length = ps.length → bindArgs fd ⟨us, []⟩ = pure (ps.zip us)) : Binds K fd ps [] := fun s us _ hl => by
  rw [List.append_nil] at hl ⊢
  exact .of_eq (h us hl)

def Passes (CX : CXT) (X : Cx) (E : XK) : Prop := ∀ (pins : List (Addr × Obj)) (σ : St) (H : Hp) (s : Shared) (e : Value) (s' : Shared), Inv X pins σ H s → CX X.stack H s E e s' → X.xe e s'

section
variable {X : Cx} {CX : CXT} {k : Nat} {f C : Addr} {fd : FuncData} {ps : List Str} {sp : Sp} {dvs : List V} {ds : List Value} {E : XK} {x m : Str} {p pos apos : Pos} {e o : Expr} {es : List Expr} {ta : TE} {t : TA}

theorem run_fn {pins : List (Addr × Obj)} {σ : St} {H : Hp} {s : Shared} {Q : VK} {us : List Value} {vs : List V} (F : FnOk X.prog X.w X.K X.mg X.base CX k f fd ps sp) (hr : Room k X.A) (hb : Binds X.K fd ps ds) (hd : Vals dvs ds) (hx : Passes CX X E)
    (I : Inv X pins σ H s) (r : Vals vs us) (h : sp (vs ++ dvs) H Q E) : wpAny (model X.prog X.w) X.A (call (.ref f) us) (EP X pins σ Q) X.xe s := by
  have r2 : Vals (vs ++ dvs) (us ++ ds) := r.append hd
  have hl : (us ++ ds).length = ps.length := by rw [← r2.length]; exact F.len _ _ _ _ h
  refine wpAny_call (codeAny_mono (F.run X.A X.stack s H ⟨us, []⟩ (us ++ ds) (vs ++ dvs) Q E hr I.env0 (hb s us I.kIn hl) r2 h) fun r s' hq => ?_)
  cases r with
  | error e => exact hx pins σ H s e s' I hq
  | ok fl =>
    cases fl with
    | ret u => exact I.after hq
    | next => exact False.elim hq
    | brk => exact False.elim hq
    | cont => exact False.elim hq

theorem pe_call (F : FnOk X.prog X.w X.K X.mg X.base CX k f fd ps sp) (hr : Room k X.A) (hg : Gl X x) (hm : X.mg x = some (.ref f)) (hk : PySem.W.keepIn X.K (.ref f) = true) (hb : Binds X.K fd ps ds) (hd : Vals dvs ds) (hx : Passes CX X E)
    (ha : PA X (e :: es) t) (hdb : (x == ("__debug__" : Str)) = false := by decide) (he : starEach (e :: es) X.env = (false, eval e X.env) :: starEach es X.env := by rfl) (hpl : (backTo pos (starEach es X.env)).any (·.1) = false := by rfl) :
    PE X (.Call (.Name x p) (e :: es) [] pos) (tCall sp dvs E t) := by
  intro pins s σ H Q I h
  refine wpAny_Call_Name_kw (ld_glob I hg hm ?_ hdb)
  refine PySem.W.callWith_K I.ok.mod.kin hk (thn (ha pos pins s σ H _ I h) fun us s1 ⟨vs, H1, I1, r, q⟩ => ⟨I1.kIn, ?_⟩) he hpl
  exact run_fn F hr hb hd hx I1 r q
structure Mk (K : PySem.W.Frag) (C f : Addr) : Prop where
  makes : PySem.W.makesIn K C = true
  init : PySem.W.findIn K (.ref C) "__init__" = some (some (.ref f))
  fn : PySem.W.isFn K (.ref f) = true
  kp : PySem.W.keepIn K (.ref C) = true

end

section
variable {X : Cx} {CX : CXT} {k : Nat} {f C : Addr} {fd : FuncData} {ps ks : List Str} {sp : Sp} {E : XK} {x m : Str} {p pos apos kpos : Pos} {e o : Expr} {es : List Expr} {kws : List Keyword} {te ta : TE} {t tk : TA} {nm : Option Str}
structure KBinds (K : PySem.W.Frag) (fd : FuncData) (ps ks : List Str) (g : List Value → List Value → List Value) (gV : List V → List V → List V) : Prop where
  to : ∀ (s : Shared) (us ws : List Value), K.In s.heap → (g us ws).length = ps.length → BindsTo s fd ⟨us, ks.zip ws⟩ (ps.zip (g us ws))
  rel : ∀ {vs : List V} {us : List Value} {zs : List V} {ws : List Value}, Vals vs us → Vals zs ws → Vals (gV vs zs) (g us ws)
variable {g : List Value → List Value → List Value} {gV : List V → List V → List V}
end

structure FnScope (N P : List Str) (sc : Scope) : Prop where
  kind : sc.kind = .function
  co : sc.isCoroutine = false
  gen : sc.isGenerator = false
  nd : N.Nodup
  pre : N.take P.length = P
  par : ∀ x ∈ P, sc.names.lookup x = some .local ∨ sc.names.lookup x = some .cell
  nofree : ∀ y ∈ sc.names, y.2 ≠ .free

theorem bindL_out {kindOf : Str → Option NameKind} {x : Str} : ∀ {binds : List (Str × Value)} {m : Str → Option Value}, (∀ v, (x, v) ∉ binds) → bindL kindOf binds m x = m x
  | [], _, _ => rfl
  | (n, v) :: r, m, h => by
    unfold bindL
    rw [bindL_out fun w hw => h w (List.mem_cons_of_mem _ hw)]
    split
    · have : x ≠ n := by rintro rfl; exact h v List.mem_cons_self
      simp [this]
    · rfl
theorem bindC_out {kindOf : Str → Option NameKind} {x : Str} : ∀ {binds : List (Str × Value)} {m : Str → Option Value}, (∀ v, (x, v) ∉ binds) → bindC kindOf binds m x = m x
  | [], _, _ => rfl
  | (n, v) :: r, m, h => by
    unfold bindC
    rw [bindC_out fun w hw => h w (List.mem_cons_of_mem _ hw)]
    split
    · rfl
    · have : x ≠ n := by rintro rfl; exact h v List.mem_cons_self
      simp [this]
theorem bindL_get {kindOf : Str → Option NameKind} {x : Str} {v : Value} : ∀ {P : List Str} {vs : List Value} {i : Nat} {m : Str → Option Value}, P.Nodup → P[i]? = some x → vs[i]? = some v → kindOf x = some .local →
    bindL kindOf (P.zip vs) m x = some v
  | [], _, _, _, _, h, _, _ => by simp at h
  | _ :: _, [], _, _, _, _, h, _ => by simp at h
  | p :: P, w :: vs, 0, m, nd, h1, h2, hk => by
    simp at h1 h2; subst h1; subst h2
    show bindL kindOf ((p, w) :: P.zip vs) m p = _
    unfold bindL
    rw [bindL_out fun v hv => (List.nodup_cons.mp nd).1 (List.of_mem_zip hv).1, if_pos hk]
    simp
  | p :: P, w :: vs, i + 1, m, nd, h1, h2, hk => by
    unfold bindL
    exact bindL_get (List.nodup_cons.mp nd).2 h1 h2 hk
theorem bindC_get {kindOf : Str → Option NameKind} {x : Str} {v : Value} : ∀ {P : List Str} {vs : List Value} {i : Nat} {m : Str → Option Value}, P.Nodup → P[i]? = some x → vs[i]? = some v → kindOf x ≠ some .local →
    bindC kindOf (P.zip vs) m x = some v
  | [], _, _, _, _, h, _, _ => by simp at h
  | _ :: _, [], _, _, _, _, h, _ => by simp at h
  | p :: P, w :: vs, 0, m, nd, h1, h2, hk => by
    simp at h1 h2; subst h1; subst h2
    show bindC kindOf ((p, w) :: P.zip vs) m p = _
    unfold bindC
    rw [bindC_out fun v hv => (List.nodup_cons.mp nd).1 (List.of_mem_zip hv).1, if_neg hk]
    simp
  | p :: P, w :: vs, i + 1, m, nd, h1, h2, hk => by
    unfold bindC
    exact bindC_get (List.nodup_cons.mp nd).2 h1 h2 hk

def start (N : List Str) (vs : List V) : St := vs.map some ++ List.replicate (N.length - vs.length) none

def cxOf (CX : CXT) (P : Program) (w : World) (K : PySem.W.Frag) (mg : Str → Option Value) (base : Heap) (N : List Str) (qual : Str) (scope : Scope) (f : Addr) (cd : Value) (A : Around) (outer : List Env) (s : Shared) (H : Hp) (E : XK) : Cx where
  prog := P
  w := w
  K := K
  mg := mg
  base := base
  A := A.deeper (envOfC qual scope s.heap.objs.size f cd)
  N := N
  s₀ := s
  H₀ := H
  env := envOfC qual scope s.heap.objs.size f cd
  outer := outer
  stack := envOfC qual scope s.heap.objs.size f cd :: outer
  ex := []
  calm := true
  fn := fun _ => true
  pn := []
  xe := fun e s' => wpAny (model P w) (A.deeper (envOfC qual scope s.heap.objs.size f cd)) (leaving (envOfC qual scope s.heap.objs.size f cd) e) (fun _ s'' => CX outer H s E e s'') (fun e' s'' => CX outer H s E e' s'') s'

theorem cell_has {sc : Scope} {n : Nat} {x : Str} (h : sc.names.lookup x = some .cell) : ∃ c, (cellsFrom n sc.names []).lookup x = some c := by
  have q := PySem.W.cellsFrom_some sc.names n [] (.inl h)
  exact Option.isSome_iff_exists.mp q

theorem inv_start {CX : CXT} {P : Program} {w : World} {K : PySem.W.Frag} {mg : Str → Option Value} {base : Heap} {N ps : List Str} {qual : Str} {scope : Scope} {f : Addr} {cd : Value} {A : Around} {outer : List Env} {s s1 : Shared} {H : Hp} {E : XK} {us : List Value} {vs : List V}
    (S : FnScope N ps scope) (hd : A.handled = none) (e0 : Env0 P w K mg base A outer s H) (hl : vs.length = ps.length) (r : Vals vs us)
    (x : InCallC s s.heap.objs.size (bindL (envOfC qual scope s.heap.objs.size f cd).kindOf (ps.zip us) fun _ => none) (cellsFrom (s.heap.objs.size + 1) scope.names []) (bindC (envOfC qual scope s.heap.objs.size f cd).kindOf (ps.zip us) fun _ => none) s1) :
    Inv (cxOf CX P w K mg base N qual scope f cd A outer s H E) [] (start N vs) H s1 := by
  have hpl : ps.length ≤ N.length := by have := congrArg List.length S.pre; rw [List.length_take] at this; lia
  obtain ⟨h1, tk, rfl, hk⟩ := x.done
  have noA : ∀ b : Addr, b ∉ (cxOf CX P w K mg base N qual scope f cd A outer s H E).ex := fun b z => absurd (show b ∈ ([] : List Addr) from z) (by simp)
  refine ⟨⟨e0.mod, S.kind, rfl, rfl, Nat.le_refl _, fun y z c h1 h2 => ?_, fun y hy => ?_, fun y c _ h => ?_, fun _ => hd, Around.frames_deeper e0.frames, .inr ⟨rfl, rfl⟩, fun b z => absurd z (noA b), e0.bs, e0.bsz, fun b _ _ => noA b, fun b z => absurd z (noA b), e0.funs, e0.frf⟩,
    rfl, e0.bare, Un.kept hk, ⟨_, x.toInCall.ns, fun i y v h1 h2 h3 => ?_⟩, fun y c h => ⟨_, x.cell y c h⟩, e0.hok.fresh (Nat.le_refl _), fun y c h => ?_, fun p hp => absurd (show p ∈ ([] : List (Addr × Obj)) from hp) (by simp), e0.hok.kept hk, ?_⟩
  · exact name_of_addr x.apart (PySem.mem_of_lookup h1) (PySem.mem_of_lookup h2)
  · rcases hy with hy | hy
    · exact cell_has hy
    · exact absurd rfl (S.nofree _ (PySem.mem_of_lookup hy))
  · exact Nat.le_of_lt (x.above y c (PySem.mem_of_lookup h))
  · have hi : i < vs.length := by
      unfold start at h2
      by_cases hi : i < vs.length
      · exact hi
      · rw [List.getElem?_append_right (by simpa using hi)] at h2
        rw [List.getElem?_replicate] at h2
        split at h2 <;> cases h2
    have ha : vs[i]? = some v := by
      unfold start at h2
      rw [List.getElem?_append_left (by simpa using hi), List.getElem?_map] at h2
      cases e : vs[i]? with
      | none => rw [e] at h2; cases h2
      | some a => rw [e] at h2; cases h2; rfl
    obtain ⟨u, hu, rv⟩ := r.get ha
    have hp : ps[i]? = some y := by
      rw [← S.pre, List.getElem?_take_of_lt (by lia)]; exact h1
    have ndP : ps.Nodup := by rw [← S.pre]; exact S.nd.sublist (List.take_sublist _ _)
    refine ⟨u, rv, ?_⟩
    rcases S.par y (List.mem_of_getElem? hp) with k | k
    · exact .inl ⟨k, bindL_get ndP hp hu k⟩
    · obtain ⟨c, e⟩ := cell_has (n := s.heap.objs.size + 1) k
      refine .inr ⟨.inl k, c, e, ?_⟩
      have q := x.cell y c e
      rw [bindC_get ndP hp hu (by show scope.names.lookup y ≠ _; rw [k]; decide)] at q
      exact q
  · exact e0.hok.fresh (Nat.le_of_lt (x.above y c (PySem.mem_of_lookup h)))
  · unfold start
    show _ = N.length
    rw [List.length_append, List.length_map, List.length_replicate]
    lia

theorem fn_of {CX : CXT} {P : Program} {w : World} {K : PySem.W.Frag} {mg : Str → Option Value} {base : Heap} {k : Nat} {f : Addr} {name qual : Str} {params : Arguments} {body : List Stmt} {scope : Scope} {dV kV doc pm cdv ct oc : Value} {an od : Option Addr}
    {osl : Array (Option Value)} {N ps : List Str} {sp : Sp} (lk : K.lookup f = some ⟨oc, od, .func (PySem.W.fnOf name qual params body scope dV kV doc pm an cdv ct), osl⟩) (hcd : PySem.W.codeIn K cdv qual = true) (S : FnScope N ps scope)
    (len : ∀ vs H Q E, sp vs H Q E → vs.length = ps.length)
    (hbody : ∀ (A : Around) (outer : List Env) (s : Shared) (H : Hp) (vs : List V) (Q : VK) (E : XK), Room k (A.deeper (envOfC qual scope s.heap.objs.size f cdv)) → sp vs H Q E →
      ∃ t, PSs (cxOf CX P w K mg base N qual scope f cdv A outer s H E) body t ∧ t { nx := fun _ H' => Q .non H', rt := Q } (start N vs) H) :
    FnOk P w K mg base CX (k + 1) f (PySem.W.fnOf name qual params body scope dV kV doc pm an cdv ct) ps sp := by
  refine ⟨len, fun A outer s H args us vs Q E hr e0 hb r hsp => ?_⟩
  have hl := len _ _ _ _ hsp
  have KX : K.In s.heap := e0.mod.kin.keeps fun b o e => (e0.bs b o e).1
  have lim : s.heap.NoLimit := e0.mod.nolimit.keeps fun b o e => (e0.bs b o e).1
  have hkind : ∀ y ∈ ps.zip us, scope.names.lookup y.1 = some .local ∨ (scope.names.lookup y.1 = some .cell ∧ ((cellsFrom (s.heap.objs.size + 1) scope.names []).lookup y.1).isSome = true) := fun ⟨n, v⟩ hy => by
    rcases S.par n (List.of_mem_zip hy).1 with q | q
    · exact .inl q
    · exact .inr ⟨q, PySem.W.cellsFrom_some _ _ _ (.inl q)⟩
  refine codeAny_call_function hr.depth (KX _ _ lk) rfl S.co S.gen rfl (PySem.W.codeRec_of KX hcd) (hb _ _ _ _ ?_)
  refine wpAny_newFunctionEnv_cells S.kind hkind fun env he s1 x => ?_
  subst he
  refine ⟨lim.keeps x.toInCall.keep, codeAny_func ?_⟩
  obtain ⟨t, ht, hq⟩ := hbody A outer s H vs Q E (hr.deeper _) hsp
  have I : Inv (cxOf CX P w K mg base N qual scope f cdv A outer s H E) [] (start N vs) H s1 := inv_start S hr.hd e0 hl r x
  refine wpAny_mono (ht [] s1 (start N vs) H _ I hq) (fun fl s' hs => ?_) fun e s' hs => hs
  have fin : ∀ {σ' : St} {H' : Hp} {v : V} {u : Value}, Inv (cxOf CX P w K mg base N qual scope f cdv A outer s H E) [] σ' H' s' → RelV v u → Q v H' → CE outer P w H s Q u s' :=
    fun {σ' H' v u} J rv q => ⟨v, H', J.os, J.bare, J.base, J.hok, rv, q⟩
  cases fl with
  | ret u =>
    obtain ⟨v, σ', H', J, rv, q⟩ := hs
    exact fin J rv q
  | next =>
    obtain ⟨σ', H', J, q⟩ := hs
    exact fin (v := V.non) J rfl q
  | brk =>
    obtain ⟨_, _, _, q⟩ := hs
    exact False.elim q
  | cont =>
    obtain ⟨_, _, _, q⟩ := hs
    exact False.elim q
end L2

namespace L2
open PySem PySem.Spec PyProof.Rows
section
variable {X : Cx} {x : Str} {p pos : Pos} {e : Expr} {es : List Expr} {t : TA} {id T : String} {r : List V → Hp → VK → Prop}

def tCB (r : List V → Hp → VK → Prop) (t : TA) : TE := fun σ H Q => t σ H fun vs H1 => r vs H1 Q
theorem pe_callB (hc : CallR X (.builtin id) r) (hg : Gl X x) (hm : X.mg x = none) (hv : bootBuiltins x = some (.builtin id)) (ha : PA X (e :: es) t) (hn : x ≠ "__name__" := by decide) (hdb : (x == ("__debug__" : Str)) = false := by decide)
    (he : starEach (e :: es) X.env = (false, eval e X.env) :: starEach es X.env := by rfl) (hpl : (backTo pos (starEach es X.env)).any (·.1) = false := by rfl) : PE X (.Call (.Name x p) (e :: es) [] pos) (tCB r t) := by
  intro pins s σ H Q I h
  refine wpAny_Call_Name_kw (ld_blt I hg hm hv ?_ hn hdb)
  exact PyProof.Rows.callWith_builtin1 (thn (ha pos pins s σ H _ I h) fun us s1 ⟨vs, H1, I1, r1, q1⟩ => hc pins s1 σ H1 vs us Q I1 r1 q1) he hpl
end
end L2

namespace HT
open PySem PyProof.Rows

section
open PySem.SeqAt
open PySem.AutoSeq1 (wpAny_loadPart')
open PySem.MeetsSeq PySem.MeetsSeq2 PySem.MeetsSeq3

end

section
variable {prog : Program} {w : World} {A : Around} {E : Value → Shared → Prop} {s : Shared}

def sIx (n d : Nat) : Option Int → Nat
  | none => d
  | some v => if v < 0 then (v + (n : Int)).toNat else min v.toNat n
end
end HT

namespace L2
open PySem PySem.Spec PyProof.Rows

abbrev TO := St → Hp → (Option Int → Hp → Prop) → Prop
def PO (X : Cx) (e : Option Expr) (t : TO) : Prop :=
  ∀ (pins : List (Addr × Obj)) (s : Shared) (σ : St) (H : Hp) (Q : Option Int → Hp → Prop), Inv X pins σ H s → t σ H Q →
    wpAny (model X.prog X.w) X.A (evalPart e X.env) (fun u s' => ∃ o H', Inv X pins σ H' s' ∧ IsPart u o ∧ Q o H') X.xe s
section
variable {X : Cx} {e : Expr} {te : TE} {lo hi : Option Expr} {tl th : TO} {pos p2 : Pos}

def SlR (X : Cx) (r : V → Option Int → Option Int → Hp → VK → Prop) : Prop :=
  ∀ (pins : List (Addr × Obj)) (s : Shared) (σ : St) (H : Hp) (x : V) (v vl vu : Value) (lo hi : Option Int) (sl : Addr) (Q : VK), Inv X pins σ H s → RelV x v → s.heap.IsSliceOf sl vl vu .none → IsPart vl lo → IsPart vu hi → r x lo hi H Q →
    ∃ T id, typeLookup (.type T) "__getitem__" = pure (some (.builtin id)) ∧ s.TypeIs v T ∧ wpAny (model X.prog X.w) X.A (getItem v (.ref sl)) (EP X pins σ Q) X.xe s
theorem SlR.or {r r' : V → Option Int → Option Int → Hp → VK → Prop} (h : SlR X r) (h' : SlR X r') : SlR X (fun x lo hi H Q => r x lo hi H Q ∨ r' x lo hi H Q) := by
  intro pins s σ H x v vl vu lo hi sl Q I rx hs pl pu q
  rcases q with q | q
  · exact h pins s σ H x v vl vu lo hi sl Q I rx hs pl pu q
  · exact h' pins s σ H x v vl vu lo hi sl Q I rx hs pl pu q
end
end L2

namespace L2
open PySem PySem.Spec PyProof.Rows

def ixN (n : Nat) (i : Int) : Option Nat := if 0 ≤ i then (if i < n then some i.toNat else none) else if -(n : Int) ≤ i then some (i + n).toNat else none
def atI {α : Type} (xs : List α) (i : Int) : Option α := (ixN xs.length i).bind fun j => xs[j]?
theorem ixN_seq {n : Nat} {i : Int} {j : Nat} (h : ixN n i = some j) : seqIndex? i n = some j ∧ j < n ∧ -(n : Int) ≤ i ∧ i < n := by
  unfold ixN at h
  by_cases h0 : 0 ≤ i
  · rw [if_pos h0] at h
    by_cases h1 : i < n
    · rw [if_pos h1] at h
      have e : i.toNat = j := Option.some.inj h
      exact ⟨by rw [seqIndex_of h0 h1, e], by lia, by lia, h1⟩
    · rw [if_neg h1] at h; cases h
  · rw [if_neg h0] at h
    by_cases h1 : -(n : Int) ≤ i
    · rw [if_pos h1] at h
      have e : (i + n).toNat = j := Option.some.inj h
      exact ⟨by rw [seqIndex_neg (by lia) h1, e], by lia, h1, by lia⟩
    · rw [if_neg h1] at h; cases h
theorem atI_get {α : Type} {xs : List α} {i : Int} {v : α} (h : atI xs i = some v) : ∃ j, seqIndex? i xs.length = some j ∧ xs[j]? = some v ∧ j < xs.length ∧ -(xs.length : Int) ≤ i ∧ i < xs.length := by
  unfold atI at h
  cases e : ixN xs.length i with
  | none => rw [e] at h; cases h
  | some j =>
    rw [e] at h
    obtain ⟨h1, h2, h3, h4⟩ := ixN_seq e
    exact ⟨j, h1, h, h2, h3, h4⟩
theorem atI_nat {α : Type} {xs : List α} {j : Nat} {v : α} (h : xs[j]? = some v) : atI xs (j : Int) = some v := by
  have hj : j < xs.length := (List.getElem?_eq_some_iff.mp h).1
  have e : ixN xs.length (j : Int) = some j := by
    unfold ixN
    rw [if_pos (by lia), if_pos (by lia)]; simp
  unfold atI; rw [e]; exact h
def PlainIx (b : Expr) : Prop := ∀ o i, subscripted b false o i = operate [o, i] (getItem o i)
def IxR (X : Cx) (r : R2) : Prop :=
  ∀ (value slice : Expr) (pins : List (Addr × Obj)) (s : Shared) (σ : St) (H : Hp) (x y : V) (v u : Value) (Q : VK), Inv X pins σ H s → RelV x v → RelV y u → r x y H Q →
    subscripted slice false v u = operate [v, u] (getItem v u) → wpAny (model X.prog X.w) X.A (subscriptTail value slice v u) (EP X pins σ Q) X.xe s
def MtR (X : Cx) (id : String) (r : V → List V → Hp → VK → Prop) : Prop :=
  ∀ (pins : List (Addr × Obj)) (s : Shared) (σ : St) (H : Hp) (x : V) (xs : List V) (v : Value) (us : List Value) (Q : VK), Inv X pins σ H s → RelV x v → Vals xs us → r x xs H Q →
    wpAny (model X.prog X.w) X.A (call (.builtin id) (v :: us)) (EP X pins σ Q) X.xe s
section
variable {X : Cx} {a b : Expr} {ta tb : TE} {pos : Pos}
theorem IxR.or {r r' : R2} (h : IxR X r) (h' : IxR X r') : IxR X (fun x y H Q => r x y H Q ∨ r' x y H Q) := by
  intro value slice pins s σ H x y v u Q I rx ry q hs
  rcases q with q | q
  · exact h value slice pins s σ H x y v u Q I rx ry q hs
  · exact h' value slice pins s σ H x y v u Q I rx ry q hs
theorem MtR.or {id : String} {r r' : V → List V → Hp → VK → Prop} (h : MtR X id r) (h' : MtR X id r') : MtR X id (fun x xs H Q => r x xs H Q ∨ r' x xs H Q) := by
  intro pins s σ H x xs v us Q I rx rs q
  rcases q with q | q
  · exact h pins s σ H x xs v us Q I rx rs q
  · exact h' pins s σ H x xs v us Q I rx rs q
theorem pe_ix {r : R2} (hr : IxR X r) (ha : PE X a ta) (hb : PE X b tb) (hs : PlainIx b) : PE X (.Subscript a b pos) (tOp r ta tb) := by
  intro pins s σ H Q I h
  exact Subscript_ (binT ha hb I h fun v u s2 x y H2 I2 rx ry q => hr a b pins s2 σ H2 x y v u Q I2 rx ry q (hs _ _))

def rIxL (K : PySem.W.Frag) : R2 := fun x y H Q => ∃ p xs i v, x = .ref p ∧ y = .int i ∧ SqL K H p xs ∧ atI xs i = some v ∧ Q v H
theorem ix_list : IxR X (rIxL X.K) := by
  intro value slice pins s σ H x y v u Q I rx ry h hs
  obtain ⟨p, xs, i, z, rfl, rfl, hq, he, q⟩ := h
  cases rx
  obtain ⟨t, rfl⟩ := ry
  obtain ⟨its, r, pl, hz⟩ := I.list hq
  obtain ⟨j, h1, h2, h3, h4, h5⟩ := atI_get he
  obtain ⟨w, ew, rw'⟩ := r.get h2
  have hl := r.length
  have hn := line63
  have fin : EP X pins σ Q w s := ⟨z, H, I, rw', q⟩
  by_cases h0 : 0 ≤ i
  · have hj : i.toNat = j := by
      rw [seqIndex_of h0 h5] at h1
      exact Option.some.inj h1
    exact item_listR pl.isList h0 (by lia) (by rw [hj]; simpa using ew) fin hs
  · have hj : (i + (its.toArray.size : Int)).toNat = j := by
      rw [seqIndex_neg (by lia) h4] at h1
      rw [List.size_toArray, ← hl]
      exact Option.some.inj h1
    exact subscriptTail_builtinR pl.isList.typeIs slot_list_getitem.lookup
      (wpAny_getItem_list_neg (Q := fun r s' => r = w ∧ EP X pins σ Q r s') pl.isList (by lia) (by rw [List.size_toArray] <;> lia) (by lia) (by rw [hj]; simpa using ew) ⟨rfl, fin⟩) hs
theorem Inv.lst {pins : List (Addr × Obj)} {σ : St} {H : Hp} {s : Shared} {p : Addr} {xs : List V} (I : Inv X pins σ H s) (h : H p = some (.lst xs)) :
    ∃ (its : List Value) (n : Nat), Vals xs its ∧ s.heap.get? p = some { cls := .type "list", data := .seq its.toArray n } ∧ xs.length ≤ sizeLine := by
  obtain ⟨z, its, n, r, e⟩ := I.hok p _ h
  exact ⟨its, n, r, e, z⟩
theorem call_len_seq : CallR X (.builtin "len") (fun xs H Q => ∃ p ys, xs = [.ref p] ∧ (SqL X.K H p ys ∨ SqT X.K H p ys) ∧ Q (.int ys.length) H) := by
  intro pins s σ H xs us Q I r h
  obtain ⟨p, ys, rfl, hq, q⟩ := h
  obtain ⟨u, rfl, rx⟩ := vals1 r
  cases rx
  have hn := line63
  rcases hq with hq | hq
  · obtain ⟨its, r', pl, hz⟩ := I.list hq
    have hlen := r'.length
    exact Calls.call_len_list pl.isList (by simp only [List.size_toArray] <;> lia) ⟨.int ys.length, H, I.tok _, ⟨s.toks + 1, by rw [List.size_toArray, hlen]⟩, q⟩
  · obtain ⟨its, r', pl, hz⟩ := I.tuple hq
    have hlen := r'.length
    exact len_tuple pl (by simp only [List.size_toArray] <;> lia) ⟨.int ys.length, H, I.tok _, ⟨s.toks + 1, by rw [List.size_toArray, hlen]⟩, q⟩
theorem CallR.or {f : Value} {r r' : List V → Hp → VK → Prop} (h : CallR X f r) (h' : CallR X f r') : CallR X f (fun xs H Q => r xs H Q ∨ r' xs H Q) := by
  intro pins s σ H xs us Q I rs q
  rcases q with q | q
  · exact h pins s σ H xs us Q I rs q
  · exact h' pins s σ H xs us Q I rs q
def tyV (K : PySem.W.Frag) (T : String) (x : V) (H : Hp) : Prop := match x with
  | .str _ => T = "str"
  | .int _ => T = "int"
  | .ref p => (T = "list" ∧ ∃ xs, SqL K H p xs) ∨ (T = "tuple" ∧ ∃ o, K.lookup p = some o ∧ o.cls = .type "tuple" ∧ o.dict = none) ∨
      (T = "dict" ∧ ((∃ kvs, H p = some (.dK kvs)) ∨ ∃ kvs, H p = some (.dT kvs))) ∨ (T = "set" ∧ ∃ S n, H p = some (.set S n))
  | _ => False
theorem tyV_is {pins : List (Addr × Obj)} {σ : St} {H : Hp} {s : Shared} {T : String} {x : V} {v : Value} (I : Inv X pins σ H s) (r : RelV x v) (ty : tyV X.K T x H) :
    s.TypeIs v T ∧ ∀ a, v = .ref a → ∃ ob, s.heap.get? a = some ob ∧ ob.dict = none := by
  cases x with
  | str z =>
    obtain ⟨t, rfl⟩ := r
    cases (show T = "str" from ty)
    exact ⟨typeIs_str s z t, fun _ e => nomatch e⟩
  | int i =>
    obtain ⟨t, rfl⟩ := r
    cases (show T = "int" from ty)
    exact ⟨typeIs_int s i t, fun _ e => nomatch e⟩
  | ref p =>
    cases r
    rcases ty with ⟨rfl, xs, hq⟩ | ⟨rfl, o, hk, hc, hd⟩ | ⟨rfl, hk⟩ | ⟨rfl, S, n, hk⟩
    · obtain ⟨its, _, pl, _⟩ := I.list hq
      refine ⟨pl.isList.typeIs, fun a e => ?_⟩
      cases e
      obtain ⟨o, n, e, c, hd, _⟩ := pl
      exact ⟨o, e, hd⟩
    · refine ⟨⟨o, I.kIn p o hk, hc⟩, fun a e => ?_⟩
      cases e
      exact ⟨o, I.kIn _ o hk, hd⟩
    · have z : ∃ o, s.heap.get? p = some o ∧ o.ExactDict := by
        rcases hk with ⟨kvs, hk⟩ | ⟨kvs, hk⟩
        · obtain ⟨_, _, _, _, o, _, _, e, ex, _⟩ := I.hok p _ hk
          exact ⟨o, e, ex⟩
        · obtain ⟨_, _, _, _, o, _, _, e, ex, _⟩ := I.hok p _ hk
          exact ⟨o, e, ex⟩
      obtain ⟨o, e, ex⟩ := z
      refine ⟨⟨o, e, ex.1⟩, fun a e2 => ?_⟩
      cases e2
      exact ⟨o, e, ex.2.1⟩
    · obtain ⟨o, _, _, _, e, ex, _⟩ := I.hok p _ hk
      refine ⟨⟨o, e, ex.1⟩, fun a e2 => ?_⟩
      cases e2
      exact ⟨o, e, ex.2.1⟩
  | _ => exact False.elim ty
def tBM0 (K : PySem.W.Frag) (T : String) (r : V → List V → Hp → VK → Prop) (to : TE) : TE := fun σ H Q => to σ H fun x H1 => tyV K T x H1 ∧ r x [] H1 Q
def tBM (K : PySem.W.Frag) (T : String) (r : V → List V → Hp → VK → Prop) (to : TE) (t : TA) : TE := fun σ H Q => to σ H fun x H1 => tyV K T x H1 ∧ t σ H1 fun xs H2 => r x xs H2 Q
variable {o e : Expr} {es : List Expr} {to : TE} {t : TA} {name : Str} {apos cpos : Pos} {T id : String} {r : V → List V → Hp → VK → Prop}
theorem pe_bm0 (pa : PlainAttrs T) (slot : Slot T name id) (hty : typeOf (.builtin id) = pure (.type "method_descriptor")) (hm : MtR X id r) (ho : PE X o to)
    (hbase : attributeBase o name X.env (eval o X.env) = eval o X.env := by rfl) (hline : (apos.endLine == cpos.line) = true := by rfl) : PE X (.Call (.Attribute o name apos) [] [] cpos) (tBM0 X.K T r to) := by
  intro pins s σ H Q I h
  refine wpAny_Call_method0_late hbase hline (thn (ho pins s σ H _ I h) fun v s1 ⟨x, H1, I1, r1, ty, q1⟩ => ?_)
  obtain ⟨h1, h2⟩ := tyV_is I1 r1 ty
  exact ⟨T, id, pa, slot, hty, h1, h2, Calls.callWith_builtin rfl (PySem.evalArgs_none (hm pins s1 σ H1 x [] v [] Q I1 r1 .nil q1))⟩
theorem pe_bm (pa : PlainAttrs T) (slot : Slot T name id) (hty : typeOf (.builtin id) = pure (.type "method_descriptor")) (hm : MtR X id r) (ho : PE X o to) (ha : PA X (e :: es) t)
    (hbase : attributeBase o name X.env (eval o X.env) = eval o X.env := by rfl)
    (hfew : ((backTo cpos (starEach (e :: es) X.env)).all (fun x => !x.1) && (backToKw cpos (keywordEach [] X.env)).all (fun x => x.1.isSome)
      && decide ((e :: es).length + ([] : List Keyword).length + (if ([] : List Keyword).isEmpty then 0 else 1) < 30)) = true := by rfl)
    (hline : (apos.endLine == cpos.line) = true := by rfl) (hs : starEach (e :: es) X.env = (false, eval e X.env) :: starEach es X.env := by rfl) (hplain : (backTo cpos (starEach es X.env)).any (·.1) = false := by rfl) :
    PE X (.Call (.Attribute o name apos) (e :: es) [] cpos) (tBM X.K T r to t) := by
  intro pins s σ H Q I h
  refine wpAny_Call_method_late hbase hfew hline rfl (thn (ho pins s σ H _ I h) fun v s1 ⟨x, H1, I1, r1, ty, q1⟩ => ?_)
  obtain ⟨h1, h2⟩ := tyV_is I1 r1 ty
  refine ⟨T, id, pa, slot, hty, h1, h2, ?_⟩
  have hA := ha cpos pins s1 σ H1 _ I1 q1
  rw [hs] at hA ⊢
  refine Calls.callWith_builtin (by show (false || (backTo cpos (starEach es X.env)).any (·.1)) = false; rw [hplain] <;> rfl) (Calls.evalArgs_plain ?_)
  exact thn hA fun us s2 ⟨vs, H2, I2, r2, q2⟩ => hm pins s2 σ H2 x vs v us Q I2 r1 r2 q2
end
end L2

namespace L2
open PySem PySem.Spec PyProof.Rows

def MtM (X : Cx) (id : String) (r : V → List V → Hp → VK → Prop) : Prop :=
  ∀ (pins : List (Addr × Obj)) (s : Shared) (σ : St) (H : Hp) (x : V) (xs : List V) (v : Value) (us : List Value) (Q : VK), Inv X pins σ H s → RelV x v → Vals xs us → r x xs H Q →
    wpAny (model X.prog X.w) X.A (call (.builtin id) (v :: us)) (EP X pins σ Q) X.xe s

theorem Vals.one : ∀ {x : V} {us : List Value}, Vals [x] us → ∃ u, us = [u] ∧ RelV x u
  | _, _, .cons r .nil => ⟨_, rfl, r⟩
theorem Vals.two : ∀ {x y : V} {us : List Value}, Vals [x, y] us → ∃ u v, us = [u, v] ∧ RelV x u ∧ RelV y v
  | _, _, _, .cons r (.cons q .nil) => ⟨_, _, rfl, r, q⟩
theorem Vals.zero : ∀ {us : List Value}, Vals [] us → us = []
  | _, .nil => rfl
theorem Vals.reverse {xs : List V} {us : List Value} (h : Vals xs us) : Vals xs.reverse us.reverse := by
  induction h with
  | nil => exact .nil
  | cons r t ih => rw [List.reverse_cons, List.reverse_cons]; exact Vals.append ih (.cons r .nil)
theorem Vals.rep {xs : List V} {us : List Value} (h : Vals xs us) : ∀ k : Nat, Vals (List.replicate k xs).flatten (List.replicate k us).flatten
  | 0 => .nil
  | k + 1 => by
    exact Vals.append h (Vals.rep h k)
section
variable {X : Cx} {pins : List (Addr × Obj)} {σ : St} {H : Hp} {s : Shared} {l b : Addr} {xs ys zs : List V}

theorem Inv.lset {its its' : List Value} {n : Nat} {f : Array Value → Array Value} {t' : Nat} (I : Inv X pins σ H s) (hH : H l = some (.lst xs))
    (e : s.heap.get? l = some { cls := .type "list", data := .seq its.toArray n }) (hf : f its.toArray = its'.toArray) (hv : Vals ys its') (hz : ys.length ≤ sizeLine) :
    Inv X pins σ (upd H l (.lst ys)) { s with heap := s.heap.update l (Obj.mapSeq f), toks := t' } := by
  have q := PySem.IsL.update e f
  rw [hf] at q
  refine I.write (by rw [hH]; exact trivial) (.inl rfl) (fun b' u hb hu => (Heap.get?_update_other s.heap (Obj.mapSeq f) (Ne.symm hb)).trans hu) ⟨_, q⟩ ?_
  exact ⟨hz, its', _, hv, q⟩
theorem Inv.fresh (I : Inv X pins σ H s) : H s.heap.objs.size = none := I.hok.fresh (Nat.le_refl _)
theorem Inv.lstM (I : Inv X pins σ H s) (hH : H l = some (.lst xs)) : xs.length ≤ sizeLine ∧ ∃ (its : List Value) (n : Nat), Vals xs its ∧ xs.length = its.length ∧ s.heap.get? l = some { cls := .type "list", data := .seq its.toArray n } := by
  obtain ⟨z, its, n, r, e⟩ := I.hok l _ hH
  exact ⟨z, its, n, r, r.length, e⟩

end

section
variable {X : Cx}

def rAppend : V → List V → Hp → VK → Prop := fun x vs H Q => ∃ l xs y, x = .ref l ∧ vs = [y] ∧ H l = some (.lst xs) ∧ xs.length < sizeLine ∧ Q .non (upd H l (.lst (xs ++ [y])))
theorem mt_append : MtM X "list.append" rAppend := by
  intro pins s σ H x vs v us Q I rx rv h
  obtain ⟨l, xs, y, rfl, rfl, hH, hz, q⟩ := h
  cases rx
  obtain ⟨u, rfl, ru⟩ := rv.one
  obtain ⟨z, its, n, r, hl, e⟩ := I.lstM hH
  refine call_meets F.slot_list_append ⟨_, e, rfl⟩ F.entry_list_append (F.args_list_append_2 _ _) (PySem.list_append l its.toArray n u (by rw [List.size_toArray]; lia)) ⟨e, ?_⟩
  refine ⟨.non, _, I.lset (its' := its ++ [u]) hH e (by simp) (r.append (.cons ru .nil)) ?_, rfl, q⟩
  rw [List.length_append, List.length_singleton]
  lia

end

section
variable {prog : Program} {w : World} {A : Around} {E : Value → Shared → Prop} {s : Shared}
set_option maxRecDepth 100000 in
end

section
variable {X : Cx}
end
end L2

namespace Att
open PySem PySem.W PySem.Calls PyProof.Rows

theorem ints_of_wellAll {P : Params} {h : Heap} : ∀ (ns : List Int) (vs : List Value), WellAll P h vs (ns.map WData.int) → IntsAre vs ns := by
  intro ns
  induction ns with
  | nil =>
    intro vs w
    cases w
    exact .nil
  | cons n ns ih =>
    intro vs w
    cases w with
    | cons a b =>
      cases a
      exact .cons _ _ (ih _ b)

theorem script_of {l : OpenLaw} {n : Nat} (hn : l.most = some n) {P : Params} {h : Heap} {args : List WData} {vals : List Value}
    (hpre : l.row.toRowW.claim.pre args = true) (hwl : WellAll P h vals args) :
    ∃ a vs ns, vals = [Value.ref a] ∧ args = [WData.list (ns.map WData.int)] ∧ h.get? a = some { cls := .type "list", data := .seq vs.toArray } ∧ IntsAre vs ns ∧ ns.length ≤ n := by
  have hsh : WShape.hasAll [] args [.list .int] = true := (pre_splitW hpre).1
  have hc : l.pre.holds [] { args := args } = true := (pre_splitW hpre).2
  obtain ⟨d, r, rfl, h1, h2⟩ := hasAllW_cons hsh
  obtain rfl := hasAllW_nil h2
  obtain ⟨xs, rfl, h3⟩ := hasW_list h1
  obtain ⟨ns, rfl⟩ := items_int h3
  have hlen : ns.length ≤ n := by
    have h4 : (WTm.not (.lt (.lit (.int (n : Int))) (.len (.arg 0)))).holds [] { args := [.list (ns.map .int)] } = true := by
      have h4 := (holds_andW hc).1
      rw [hn] at h4
      exact h4
    have h5 := condW_of h4 (w_not (w_lt w_lit (w_len_list (w_arg rfl))))
    refine Nat.le_of_not_lt fun q => ?_
    first
      | (rw [decide_eq_true q'] at h5; exact absurd h5 rfl)
      | (simp at h5; lia)
  cases hwl with
  | cons w1 w2 =>
    cases w2
    cases w1 with
    | list ho hall => exact ⟨_, _, ns, rfl, rfl, ho, ints_of_wellAll ns _ hall, hlen⟩

theorem post_true (l : OpenLaw) (args : List WData) : l.row.toRowW.claim.post args (.bool true) args = true :=
  postW_of (X := (true == true))
    (show WShape.has [] (.bool true) .bool = true by first | rfl | decide | simp [ WShape.armsAll])
    (show (WTm.eq .res (.lit (.bool true))).value [] { args := args, res := some (.bool true), after := args } = some (.bool (true == true)) from w_eq_bool (w_res rfl) w_lit) rfl

theorem attach_call {l : OpenLaw} {n : Nat} {q : Program} {loose : List Str} {XP : (Str → Option Value) → Heap → Prop} {YP : World → Heap → Prop} {d : DefRec}
    (hn : l.most = some n) (hdf : d.params.defaults = [])
    (call : ∀ (w : World) (s₀ s₁ : Shared) (mg mb : Str → Option Value) (fa : Addr) (o : Obj) (pm cd doc : Value) (a : Addr) (vs : List Value) (ns : List Int),
      Ground q loose [] XP w s₀ mg mb s₁.heap → YP w s₁.heap →
      s₁.heap.get? fa = some o → o.data = .func (docDef d.name d.params d.body d.scope pm cd doc) → s₁.heap.CodeRec cd d.name → mg d.name = some (.ref fa) →
      s₁.heap.get? a = some { cls := .type "list", data := .seq vs.toArray } → IntsAre vs ns → ns.length ≤ n → s₁.gens = #[] →
      codeAny (model l.prog w) callerA (.call (.ref fa) ⟨[.ref a], []⟩) (fun r s' => r = .ok (.ret (.bool true)) ∧ OldK s₁.heap s'.heap ∧ s'.os = s₁.os ∧ AllBare s'.gens) s₁) :
    WalkO q loose XP YP l.row.toRowW d [] (fun f vs => PySem.call f vs) := by
  intro w s₀ s₁ mg mb G Y fa o pm cd doc dV kV ho hd hcd hD hmg hg args vals as hpre hlay hrd hwl hlo
  obtain rfl : dV = .none := Dflts.none hD hdf
  obtain rfl : kV = .none := Dflts.noKw hD
  obtain ⟨a, vs, ns, rfl, rfl, hobj, hints, hlen⟩ := script_of hn hpre hwl
  refine enter_call (codeAny_mono (call w s₀ s₁ mg mb fa o pm cd doc a vs ns G Y ho (fd_plain hd) hcd hmg hobj hints hlen hg) fun r s' hq => ?_)
  obtain ⟨rfl, h2, h3, h4⟩ := hq
  exact ⟨.inl ⟨.bool true, .bool true, [], rfl, fun _ => rfl, .bool true, post_true l _, fun _ => ⟨List.Pairwise.nil, fun _ hm => (nomatch hm)⟩⟩, h2, h3, h4⟩

section
variable {prog : Program} {w : World} {A : Around} {E : Value → Shared → Prop} {s : Shared} {K : Frag}

def ledger (h : Heap) (L d : Addr) : List (Addr × Obj) := (List.range h.objs.size).filterMap fun a => if a = L ∨ a = d then none else (h.get? a).map fun o => (a, o)
end
end Att

namespace L2
open PySem PySem.Spec PyProof.Rows

theorem vals_ints : ∀ {vs : List Value} {ns : List Int}, IntsAre vs ns → Vals (ns.map V.int) vs
  | _, _, .nil => .nil
  | _, _, .cons n t h => .cons ⟨t, rfl⟩ (vals_ints h)

def Only (H : Hp) : Prop := ∀ b, H b = none ∨ ∃ o xs, H b = some (.frz o (.lst xs))

theorem law_call {P : Program} {w : World} {K : PySem.W.Frag} {mg mb : Str → Option Value} {CX : CXT} {k : Nat} {fa a : Addr} {fd : FuncData} {x : Str} {sp : Sp} {s₁ : Shared} {vs : List Value} {ns : List Int}
    (KX : K.In s₁.heap) (hns : s₁.heap.Ns mainGlobals mg) (hb : s₁.heap.Ns builtinsNs mb) (hbb : ∀ x : Str, x ≠ "__name__" → mb x = bootBuiltins x) (hlim : s₁.heap.NoLimit) (hg : s₁.gens = #[])
    (ha : s₁.heap.get? a = some { cls := .type "list", data := .seq vs.toArray }) (hi : IntsAre vs ns) (hl : ns.length ≤ sizeLine) (hr : Room k callerA)
    (F : ∀ base : Heap, K.In base → base.Ns mainGlobals mg → FnOk P w K mg base CX k fa fd [x] sp) (hbind : ∀ (s : Shared) (u : Value), BindsTo s fd ⟨[u], []⟩ [(x, u)])
    (hsp : ∀ H : Hp, Only H → SqL K H a (ns.map V.int) → sp [.ref a] H (fun v _ => v = .bl true) fun _ _ _ => False)
    (hCX : ∀ H e s', CX [] H s₁ (fun _ _ _ => False) e s' → False) :
    codeAny (model P w) callerA (.call (.ref fa) ⟨[.ref a], []⟩) (fun r s' => r = .ok (.ret (.bool true)) ∧ OldK s₁.heap s'.heap ∧ s'.os = s₁.os ∧ AllBare s'.gens) s₁ := by
  have rv := vals_ints hi
  have lenV := hi.length
  have core : ∀ H : Hp, Only H → SqL K H a (ns.map V.int) → HOk P w H s₁.heap → (∀ b, H b ≠ none → b = a) → (H a ≠ none → K.lookup a = none) →
      codeAny (model P w) callerA (.call (.ref fa) ⟨[.ref a], []⟩) (fun r s' => r = .ok (.ret (.bool true)) ∧ OldK s₁.heap s'.heap ∧ s'.os = s₁.os ∧ AllBare s'.gens) s₁ := by
    intro H hO hS hok hA hK
    have base_of : ∀ {b : Addr} {o : Obj}, s₁.heap.get? b = some o → H b = none → (hidT s₁.heap H).get? b = some o := fun e n => hidT_get e n
    have noA : ∀ {b : Addr} {o : Obj} {es : Array DictEntry} {ep : Nat}, s₁.heap.get? b = some o → o.data = .dict es ep → H b = none := fun {b o es ep} e d => by
      cases q : H b with
      | none => rfl
      | some u =>
        have e' : b = a := hA b (by rw [q]; simp)
        subst e'
        rw [ha] at e; cases e
        have d' : Data.seq vs.toArray _ = Data.dict es ep := d
        cases d'
    have nsK : ∀ {b : Addr} {m : Str → Option Value}, s₁.heap.Ns b m → (hidT s₁.heap H).Ns b m := fun {b m} ⟨o, es, ep, e, d, r⟩ => ⟨o, es, ep, base_of e (noA e d), d, r⟩
    have hKb : K.In (hidT s₁.heap H) := fun b o e => base_of (KX b o e) (by
      cases q : H b with
      | none => rfl
      | some u =>
        have e' : b = a := hA b (by rw [q]; simp)
        subst e'
        rw [hK (by rw [q]; simp)] at e; cases e)
    have hM : Mod K mg (hidT s₁.heap H) := ⟨hKb, nsK hns, ⟨mb, nsK hb, hbb⟩, let ⟨mc, h1, h2⟩ := hlim; ⟨mc, nsK h1, h2⟩⟩
    have e0 : Env0 P w K mg (hidT s₁.heap H) callerA [] s₁ H := ⟨rfl, hM, fun b o e => of_hidT e, Nat.le_of_eq (hidT_size _ _), trivial, fun b hb => absurd (show b ∈ ([] : List Addr) from hb) (by simp), hok, .of_eq hg⟩
    refine codeAny_mono ((F _ hKb (nsK hns)).run callerA [] s₁ H ⟨[.ref a], []⟩ [.ref a] [.ref a] _ _ hr e0 (hbind s₁ (.ref a)) (.cons rfl .nil) (hsp H hO hS)) fun r s' h => ?_
    cases r with
    | error e => exact (hCX H e s' h).elim
    | ok fl =>
      cases fl with
      | next => exact False.elim h
      | brk => exact False.elim h
      | cont => exact False.elim h
      | ret u =>
        obtain ⟨v, H', os, bare, un, hok', r', q⟩ := h
        have q' : v = .bl true := q
        subst q'
        obtain rfl : u = Value.bool true := r'
        refine ⟨rfl, OldK.of_keep fun b o e => ?_, os, bare⟩
        cases q : H b with
        | none => exact un.keep b o e q (by intro z; exact absurd (show b ∈ ([] : List Addr) from z) (by simp)) (by simp)
        | some u =>
          rcases hO b with z | ⟨ob, xs, z⟩
          · rw [q] at z; cases z
          · have z2 := un.frzs b ob _ z
            obtain ⟨e1, _⟩ := hok b _ z
            obtain ⟨e2, _⟩ := hok' b _ z2
            rw [e] at e1; cases e1
            exact e2
  cases hk : K.lookup a with
  | some o =>
    have e := KX a o hk
    rw [ha] at e
    cases e
    refine core (fun _ => none) (fun _ => .inl rfl) (.inr ⟨_, vs.toArray, _, hk, rfl, rfl, rfl, by rw [List.size_toArray, lenV]; exact hl, rv⟩) (fun b u z => by have z' : (none : Option HO) = some u := z; cases z') (fun b z => absurd rfl z) fun z => absurd rfl z
  | none =>
    refine core (fun b => if b = a then some (.frz { cls := .type "list", data := .seq vs.toArray } (.lst (ns.map V.int))) else none) (fun b => ?_) (.inl (.inr ⟨{ cls := .type "list", data := .seq vs.toArray }, if_pos rfl⟩)) (fun b u z => ?_) (fun b z => ?_) fun _ => hk
    · by_cases hb : b = a
      · exact .inr ⟨_, _, if_pos hb⟩
      · exact .inl (if_neg hb)
    · by_cases hb : b = a
      · have z' := (if_pos hb).symm.trans z
        cases z'
        subst hb
        exact ⟨ha, by rw [List.length_map]; exact hl, vs, _, rv, ha⟩
      · have z' := (if_neg hb).symm.trans z
        cases z'
    · by_cases hb : b = a
      · exact hb
      · exact absurd (if_neg hb) z
end L2

namespace L2
open PySem PySem.Spec PyProof.Rows

abbrev KOf {K : PySem.W.Frag} {h : Heap} (_ : K.In h) : PySem.W.Frag := K

theorem walk_of {l : PySem.W.OpenLaw} {n k : Nat} {q : Program} {loose : List Str} {XP : (Str → Option Value) → Heap → Prop} {YP : World → Heap → Prop} {d : DefRec} {K : Params → PySem.W.Frag} {CX : World → CXT} {sp : World → Sp} {x : Str}
    (hn : l.most = some n) (hn2 : n ≤ sizeLine) (hdf : d.params.defaults = []) (hr : Room k callerA)
    (hY : ∀ (w : World) (h : Heap), YP w h → (K w.params).In h)
    (F : ∀ (w : World) (mg : Str → Option Value) (fa : Addr) (h : Heap), (K w.params).In h → h.Ns mainGlobals mg → mg d.name = some (.ref fa) →
      ∃ fd : FuncData, (∀ (s : Shared) (u : Value), BindsTo s fd ⟨[u], []⟩ [(x, u)]) ∧
        ∀ base : Heap, (K w.params).In base → base.Ns mainGlobals mg → FnOk l.prog w (K w.params) mg base (CX w) k fa fd [x] (sp w))
    (hsp : ∀ (w : World) (H : Hp) (a : Addr) (ns : List Int), ns.length ≤ n → Only H → SqL (K w.params) H a (ns.map V.int) → sp w [.ref a] H (fun v _ => v = .bl true) fun _ _ _ => False)
    (hCX : ∀ (w : World) (H : Hp) (s : Shared) (e : Value) (s' : Shared), CX w [] H s (fun _ _ _ => False) e s' → False) :
    PySem.W.WalkO q loose XP YP l.row.toRowW d [] (fun f vs => PySem.call f vs) := by
  refine Att.attach_call hn hdf fun w s₀ s₁ mg mb fa o pm cd doc a vs ns G Y ho hd hcd hmg hobj hints hlen hg => ?_
  have KX := hY w _ Y
  obtain ⟨fd, hb, hF⟩ := F w mg fa _ KX G.T.g hmg
  exact law_call KX G.T.g G.T.b G.T.builtins G.T.nolimit hg hobj hints (Nat.le_trans hlen hn2) hr hF hb (fun H hO hS => hsp w H a ns hlen hO hS) fun H e s' => hCX w H s₁ e s'
end L2


namespace L2
open PySem PySem.Spec PyProof.Rows

def defArgs (s : Stmt) : Arguments := match s with
  | .FunctionDef _ a _ _ _ _ _ _ _ _ => a
  | _ => { posonlyargs := [], args := [], vararg := none, kwonlyargs := [], kw_defaults := [], kwarg := none, defaults := [] }
def defBody (s : Stmt) : List Stmt := match s with
  | .FunctionDef _ _ b _ _ _ _ _ _ _ => b
  | _ => []
def defScope (s : Stmt) : Scope := match s with
  | .FunctionDef _ _ _ _ _ _ sc _ _ _ => sc
  | _ => { kind := .function, names := [], isGenerator := false, isCoroutine := false }

abbrev CX0 : CXT := fun _ _ _ _ _ _ => False
abbrev E0 : XK := fun _ _ _ => False
theorem pass0 {X : Cx} : Passes CX0 X E0 := fun _ _ _ _ _ _ _ h => h.elim

structure Fun (K : PySem.W.Frag) (x qual : Str) (st : Stmt) (f : Addr) (fd : FuncData) : Prop where
  ex : ∃ (oc : Value) (od : Option Addr) (kV doc pm : Value) (an : Option Addr) (cdv ct : Value) (osl : Array (Option Value)),
    fd = PySem.W.fnOf x qual (defArgs st) (defBody st) (defScope st) .none kV doc pm an cdv ct ∧ K.lookup f = some ⟨oc, od, .func fd, osl⟩ ∧ PySem.W.codeIn K cdv qual = true
  kp : PySem.W.keepIn K (.ref f) = true
section
variable {P : Program} {w : World} {K : PySem.W.Frag} {mg : Str → Option Value} {base : Heap}
theorem Fun.ok {x qual : Str} {st : Stmt} {f : Addr} {fd : FuncData} {N ps : List Str} {k : Nat} {sp : Sp} (F : Fun K x qual st f fd) (S : FnScope N ps (defScope st)) (len : ∀ vs H Q E, sp vs H Q E → vs.length = ps.length)
    (hbody : ∀ (cdv : Value) (A : Around) (outer : List Env) (s : Shared) (H : Hp) (vs : List V) (Q : VK) (E : XK), Room k (A.deeper (envOfC qual (defScope st) s.heap.objs.size f cdv)) → sp vs H Q E →
      ∃ t, PSs (cxOf CX0 P w K mg base N qual (defScope st) f cdv A outer s H E).nox (defBody st) t ∧ t { nx := fun _ H' => Q .non H', rt := Q } (start N vs) H) : FnOk P w K mg base CX0 (k + 1) f fd ps sp := by
  obtain ⟨oc, od, kV, doc, pm, an, cdv, ct, osl, rfl, lk, hcd⟩ := F.ex
  refine fn_of lk hcd S len fun A outer s H vs Q E hr hsp => ?_
  obtain ⟨t, h, q⟩ := hbody cdv A outer s H vs Q E hr hsp
  exact ⟨t, h.nox, q⟩
theorem Fun.binds {x qual : Str} {st : Stmt} {f : Addr} {fd : FuncData} {ps : List Str} (F : Fun K x qual st f fd)
    (h : ∀ (kV doc pm : Value) (an : Option Addr) (cdv ct : Value) (us : List Value), us.length = ps.length → bindArgs (PySem.W.fnOf x qual (defArgs st) (defBody st) (defScope st) .none kV doc pm an cdv ct) ⟨us, []⟩ = pure (ps.zip us)) : Binds K fd ps [] := by
  obtain ⟨oc, od, kV, doc, pm, an, cdv, ct, osl, rfl, lk, hcd⟩ := F.ex
  exact .all (h kV doc pm an cdv ct)
theorem fun_mk {x qual : Str} {st : Stmt} {f : Addr} {oc : Value} {od an : Option Addr} {osl : Array (Option Value)} {kV doc pm cdv ct : Value} (l : K.lookup f = some ⟨oc, od, .func (PySem.W.fnOf x qual (defArgs st) (defBody st) (defScope st) .none kV doc pm an cdv ct), osl⟩)
    (c : PySem.W.codeIn K cdv qual = true) (k : PySem.W.keepIn K (.ref f) = true) : Fun K x qual st f (PySem.W.fnOf x qual (defArgs st) (defBody st) (defScope st) .none kV doc pm an cdv ct) := ⟨⟨oc, od, kV, doc, pm, an, cdv, ct, osl, rfl, l, c⟩, k⟩
end
section
variable {X : Cx}
theorem pv (i : Nat) {x : Str} {pos : Pos} (hN : X.N[i]? = some x := by rfl) (hv : Vis X.env.scope x := by first | exact Or.inl rfl | exact Or.inr (Or.inl rfl) | exact Or.inr (Or.inr rfl)) (hd : (x == ("__debug__" : Str)) = false := by decide)
    (hcd : (x == ("__classdict__" : Str)) = false := by decide) : PE X (.Name x pos) (tVar i) := pe_var hN hv hd hcd
end

theorem iteF {A B : Prop} (h : B) : if false = true then A else B := by
  rw [if_neg Bool.false_ne_true]
  exact h
theorem iteT {A B : Prop} (h : A) : if true = true then A else B := by
  rw [if_pos rfl]
  exact h
def Same (H H' : Hp) : Prop := ∀ b o, H b = some o → H' b = some o
theorem Same.refl (H : Hp) : Same H H := fun _ _ h => h
theorem Same.trans {H H1 H2 : Hp} (a : Same H H1) (b : Same H1 H2) : Same H H2 := fun c o h => b c o (a c o h)
theorem Same.free {H H' : Hp} (e : Same H H') {l : Addr} (h : H' l = Option.none) : H l = Option.none := by
  cases q : H l with
  | none => rfl
  | some o =>
    rw [e l o q] at h
    cases h
theorem Same.seq {K : PySem.W.Frag} {H H' : Hp} {a : Addr} {xs : List V} (e : Same H H') (h : SqL K H a xs) : SqL K H' a xs := by
  rcases h with (h | ⟨o, h⟩) | h
  · exact .inl (.inl (e _ _ h))
  · exact .inl (.inr ⟨o, e _ _ h⟩)
  · exact .inr h

end L2

set_option maxHeartbeats 4000000

namespace L2
open PySem PySem.Spec PyProof.Rows
structure DefAt (K : PySem.W.Frag) (mg : Str → Option Value) (x : Str) (st : Stmt) (f : Addr) (fd : FuncData) : Prop where
  fn : Fun K x x st f fd
  here : mg x = some (.ref f)
structure Cal (P : Program) (w : World) (K : PySem.W.Frag) (mg : Str → Option Value) (base : Heap) (x : Str) (k : Nat) (ps : List Str) (sp : Sp) : Prop where
  ex : ∃ f fd, FnOk P w K mg base CX0 k f fd ps sp ∧ mg x = some (.ref f) ∧ PySem.W.keepIn K (.ref f) = true ∧ Binds K fd ps []
theorem Cal.of {P : Program} {w : World} {K : PySem.W.Frag} {mg : Str → Option Value} {base : Heap} {x : Str} {st : Stmt} {f : Addr} {fd : FuncData} {N ps : List Str} {k : Nat} {sp : Sp} (D : DefAt K mg x st f fd) (S : FnScope N ps (defScope st))
    (hb : ∀ (kV doc pm : Value) (an : Option Addr) (cdv ct : Value) (us : List Value), us.length = ps.length → bindArgs (PySem.W.fnOf x x (defArgs st) (defBody st) (defScope st) .none kV doc pm an cdv ct) ⟨us, []⟩ = pure (ps.zip us))
    (len : ∀ vs H Q E, sp vs H Q E → vs.length = ps.length)
    (hbody : ∀ (cdv : Value) (A : Around) (outer : List Env) (s : Shared) (H : Hp) (vs : List V) (Q : VK) (E : XK), Room k (A.deeper (envOfC x (defScope st) s.heap.objs.size f cdv)) → sp vs H Q E →
      ∃ t, PSs (cxOf CX0 P w K mg base N x (defScope st) f cdv A outer s H E).nox (defBody st) t ∧ t { nx := fun _ H' => Q .non H', rt := Q } (start N vs) H) : Cal P w K mg base x (k + 1) ps sp :=
  ⟨f, fd, D.fn.ok S len hbody, D.here, D.fn.kp, D.fn.binds hb⟩
theorem pe_cal (C : Cal X.prog X.w X.K X.mg X.base x k ps sp) (hr : Room k X.A) (hg : Gl X x) (ha : PA X (e :: es) t)
    (hdb : (x == ("__debug__" : Str)) = false := by decide) (he : starEach (e :: es) X.env = (false, eval e X.env) :: starEach es X.env := by rfl) (hpl : (backTo pos (starEach es X.env)).any (·.1) = false := by rfl):
    PE X (.Call (.Name x p) (e :: es) [] pos) (tCall sp [] E0 t) := by
  obtain ⟨f, fd, F, hm, hk, hb⟩ := C.ex
  exact pe_call F hr hg hm hk hb .nil pass0 ha hdb he hpl
def spL (n : Nat) (R : List V → Hp → VK → Prop) : Sp := fun vs H Q _ => vs.length = n ∧ R vs H Q
structure Blt (mg : Str → Option Value) : Prop where
  len : mg "len" = none
  range : mg "range" = none
  max : mg "max" = none
  min : mg "min" = none
  isinstance : mg "isinstance" = none
  int : mg "int" = none
  bool : mg "bool" = none
  tuple : mg "tuple" = none
  list : mg "list" = none
  all : mg "all" = none
  zip : mg "zip" = none
  reversed : mg "reversed" = none
structure Kit (K : PySem.W.Frag) : Prop where
  int_int : PySem.W.kitOne K (.type "int") (.type "int") = some true
  int_bool : PySem.W.kitOne K (.type "int") (.type "bool") = some false
  bool_int : PySem.W.kitOne K (.type "bool") (.type "int") = some true
  bool_bool : PySem.W.kitOne K (.type "bool") (.type "bool") = some true
  tuple_tuple : PySem.W.kitOne K (.type "tuple") (.type "tuple") = some true
  list_list : PySem.W.kitOne K (.type "list") (.type "list") = some true
theorem Same.new (h : H p = none): Same H (upd H p o) := fun b u e => by rw [upd_ne (ne_of_none e h)]; exact e
end L2
namespace L2
open PySem PySem.Spec PyProof.Rows
section
variable {X : Cx} {e : Expr} {es : List Expr} {te : TE} {t : TA} {pos : Pos}
def tLstS (t : TA) : TE := fun σ H Q => t σ H fun xs H1 => xs.length ≤ sizeLine ∧ ∀ p H', H1 p = none → Same H1 H' → H' p = some (.lst xs) → Q (.ref p) H'
theorem pe_lstS (h : PA X es t): PE X (.List es pos) (tLstS t) := by
  intro pins s σ H Q I hq
  refine wpAny_List_spliced (thn (h pos pins s σ H _ I hq) fun us s1 ⟨xs, H1, I1, r, z, q⟩ => ⟨by rw [← r.length]; exact z, ?_⟩)
  have hf : H1 s1.heap.objs.size = none := I1.hok.fresh (Nat.le_refl _)
  refine ⟨.ref s1.heap.objs.size, upd H1 s1.heap.objs.size (.lst xs), I1.laid (t' := s1.toks) (fun b u e => Heap.get?_push_of_some _ e) (Nat.le_refl _) ?_, rfl, q _ _ hf (Same.new hf) upd_same⟩
  exact ⟨z, us, 0, r, Heap.get?_push_size _ rfl⟩
end
theorem iteB {c : Bool} {A B : Prop} (hc : c = false) (h : B) : if c = true then A else B := by
  rw [hc]; exact iteF h
end L2

namespace L2
open PySem PySem.Spec PyProof.Rows

section
variable {X : Cx} {tg : Expr}
def rngN (i j c : Int) : Nat := (Builtin.Range.rangeSize i j c).toNat
end
section
variable {X : Cx}
def rIsI (K : PySem.W.Frag) : List V → Hp → VK → Prop := fun xs H Q => ∃ x t n b, xs = [x, .ty n] ∧ TyOf K H x t ∧ PySem.W.kitOne K t (.type n) = some b ∧ Q (.bl b) H
theorem call_isinst : CallR X (.builtin "isinstance") (rIsI X.K) := by
  intro pins s σ H xs us Q I r h
  obtain ⟨x, t, n, b, rfl, ty, e, q⟩ := h
  obtain ⟨u, w', rfl, r1, r2⟩ := vals2 r
  cases r2
  exact isinst_ok I r1 ty e fun tk => ⟨.bl b, H, I.tok tk, rfl, q⟩

theorem Vals.at (r : Vals xs its) (h : j < its.toArray.size): ∃ x, xs[j]? = some x ∧ RelV x its.toArray[j] := by
  have hl := r.length
  have hj : j < xs.length := by rw [List.size_toArray] at h; lia
  obtain ⟨u, hu, ru⟩ := r.get (i := j) (x := xs[j]) (by simp)
  refine ⟨xs[j], by simp, ?_⟩
  have e : its.toArray[j] = u := by
    have : its[j]? = some its.toArray[j] := by simp at h ⊢ <;> try exact h
    rw [this] at hu; exact Option.some.inj hu
  rw [e]; exact ru
end
end L2

namespace L2
open PySem PySem.Spec PyProof.Rows

def freeL (scope : Scope) (env : Env) : List (Str × Addr) := ((scope.names.filter fun x => x.2 == .free).map fun x => (x.1, (env.cells.lookup x.1).getD 0)).reverse
theorem closureFor_go (env : Env): ∀ (l : List (Str × NameKind)) (acc : List (Str × Addr)), (∀ x ∈ l, x.2 = .free → ∃ c, env.cells.lookup x.1 = some c) →
    (forIn l acc (fun (x : Str × NameKind) (r : List (Str × Addr)) => (match x with | (name, kind) => if (kind == NameKind.free) = true then do let a ← cellOf env name; pure (ForInStep.yield ((name, a) :: r)) else pure (ForInStep.yield r) : Sem (ForInStep (List (Str × Addr)))))) =
      (pure (((l.filter fun x => x.2 == .free).map fun x => (x.1, (env.cells.lookup x.1).getD 0)).reverse ++ acc) : Sem (List (Str × Addr)))
  | [], acc, _ => rfl
  | (n, k) :: l, acc, h => by
    rw [List.forIn_cons]
    by_cases hk : k = .free
    · subst hk
      obtain ⟨c, hc⟩ := h (n, .free) List.mem_cons_self rfl
      have hc' : env.cells.lookup n = some c := hc
      have ih := closureFor_go env l ((n, c) :: acc) fun x hx => h x (List.mem_cons_of_mem _ hx)
      have e : cellOf env n = pure c := by unfold cellOf; rw [hc']
      simp only [beq_self_eq_true, if_true, e, pure_bind]
      rw [ih]
      simp [hc']
    · have hb : (k == NameKind.free) = false := by simpa using hk
      have ih := closureFor_go env l acc fun x hx => h x (List.mem_cons_of_mem _ hx)
      simp only [hb, Bool.false_eq_true, if_false, pure_bind]
      rw [ih]
      simp [hb]
theorem closureFor_free (h : ∀ x ∈ scope.names, x.2 = .free → ∃ c, env.cells.lookup x.1 = some c): closureFor scope env = pure (freeL scope env) := by
  have := closureFor_go env scope.names [] h
  unfold closureFor freeL
  rw [List.append_nil] at this
  simp only [bind_pure]
  exact this
def CapOf (X : Cx) (scope : Scope) : List Str → List (Option Nat) → Prop
  | [], [] => True
  | _ :: N, none :: ix => CapOf X scope N ix
  | x :: N, some i :: ix => (X.N[i]? = some x ∧ scope.names.lookup x = some .free ∧ (X.env.kindOf x = some .cell ∨ X.env.kindOf x = some .free)) ∧ CapOf X scope N ix
  | _, _ => False
theorem CapOf.get : ∀ {N : List Str} {ix : List (Option Nat)}, CapOf X scope N ix → N.length = ix.length ∧ ∀ (j i : Nat), ix[j]? = some (some i) →
    ∃ x, N[j]? = some x ∧ X.N[i]? = some x ∧ scope.names.lookup x = some .free ∧ (X.env.kindOf x = some .cell ∨ X.env.kindOf x = some .free)
  | [], [], _ => ⟨rfl, fun j i h => by simp at h⟩
  | x :: N, none :: ix, h => by
    obtain ⟨h1, h2⟩ := CapOf.get (show CapOf X scope N ix from h)
    refine ⟨by simp [h1], fun j i e => ?_⟩
    cases j with
    | zero => simp at e
    | succ j => simpa using h2 j i e
  | x :: N, some i' :: ix, h => by
    obtain ⟨h0, h⟩ := (show _ ∧ CapOf X scope N ix from h)
    obtain ⟨h1, h2⟩ := CapOf.get h
    refine ⟨by simp [h1], fun j i e => ?_⟩
    cases j with
    | zero =>
      simp at e
      subst e
      exact ⟨x, rfl, h0⟩
    | succ j => simpa using h2 j i e
  | [], _ :: _, h => h.elim
  | _ :: _, [], h => by cases h

structure BlkScope (outer scope : Scope) : Prop where
  kind : scope.kind = .function
  cell : ∀ y ∈ scope.names, y.2 ≠ .cell
  free : ∀ y ∈ scope.names, y.2 = .free → outer.names.lookup y.1 = some .cell ∨ outer.names.lookup y.1 = some .free
  names : ∀ y ∈ scope.names, y.2 = .local → scope.names.lookup y.1 = some .local

section
variable {X : Cx} {pins : List (Addr × Obj)} {σ : St} {H : Hp} {s : Shared} {scope : Scope} {N : List Str} {ix : List (Option Nat)} {fp : List Addr}

end

section
variable {X : Cx} {tg elt iter : Expr} {scope : Scope} {N : List Str} {ix : List (Option Nat)} {wi : TI} {g : TG} {te : TE} {pos : Pos}
end
end L2

namespace L2
open PySem PySem.Spec PyProof.Rows
section
variable {X : Cx}
set_option exponentiation.threshold 5000 in
end
end L2

namespace L2
open PySem PySem.Spec PyProof.Rows
section
variable {X : Cx}
end
end L2

namespace PySem
namespace F
end F

section
variable {prog : Program} {w : World} {A : Around} {E : Value → Shared → Prop} {s : Shared}
def lwrevObj (t : Addr) (i : Int) : Obj := { cls := .type "reversed", data := .fields #[.ref t, rawInt i] }
def Heap.LwRev (h : Heap) (a t : Addr) (i : Int) : Prop := h.get? a = some (lwrevObj t i)
theorem Heap.LwRev.typeIs {a t : Addr} {i : Int} (x : s.heap.LwRev a t i) : s.TypeIs (.ref a) "reversed" := ⟨_, x, rfl⟩
end
end PySem

namespace L2
open PySem PySem.Spec PyProof.Rows
section
variable {X : Cx} {tg : Expr}
end
theorem Same.seqT {K : PySem.W.Frag} {H H' : Hp} {a : Addr} {xs : List V} (e : Same H H') (h : SqT K H a xs) : SqT K H' a xs := by
  rcases h with (h | ⟨o, h⟩) | h
  · exact .inl (.inl (e _ _ h))
  · exact .inl (.inr ⟨o, e _ _ h⟩)
  · exact .inr h
def SameBut' (l : Addr) (H H' : Hp) : Prop := ∀ b o, b ≠ l → H b = some o → H' b = some o
theorem SameBut'.refl (l : Addr) (H : Hp) : SameBut' l H H := fun _ _ _ h => h
theorem SameBut'.trans {l : Addr} {H H1 H2 : Hp} (a : SameBut' l H H1) (b : SameBut' l H1 H2) : SameBut' l H H2 := fun c o hc h => b c o hc (a c o hc h)
theorem Same.but {l : Addr} {H H' : Hp} (s : Same H H') : SameBut' l H H' := fun b o _ e => s b o e
theorem SameBut'.upd {l : Addr} {H : Hp} {o : HO} : SameBut' l H (upd H l o) := fun b u hb e => by rw [upd_ne hb]; exact e
theorem SameBut'.same {l : Addr} {H H1 H2 : Hp} (h : H l = none) (s : Same H H1) (t : SameBut' l H1 H2) : Same H H2 := fun b o e => t b o (ne_of_none e h) (s b o e)
end L2

namespace L2
open PySem PySem.Spec PyProof.Rows

def defName : Stmt → Str
  | .FunctionDef n _ _ _ _ _ _ _ _ _ => n
  | _ => ""
abbrev cloObj (q : Str) (st : Stmt) (cl : List (Str × Addr)) (doc pm : Value) (c : Addr) (ctv : Value) : Obj := PySem.W.fnMade (defName st) q (defArgs st) (defBody st) (defScope st) cl doc pm c ctv
def CellsF (F : Hp) (cl : List (Str × Addr)) (vs : List V) : Prop := ∀ (i : Nat) (v : V), vs[i]? = some v → ∃ x a o u, cl[i]? = some (x, a) ∧ F a = some (.frz o (.own a)) ∧ o.data = .cell (some u) ∧ RelV v u
inductive D where
  | int (i : Int) | bl (b : Bool) | non | str (x : Str) | ty (n : String) | fn (x : Str) | tup (ds : List D) | lst (ds : List D) | dic | exc (c : Str) | obj (c : Str) (ns : List Str) (ds : List D) | clo (q : Str) (st : Stmt) (cl : List (Str × Addr)) (ds : List D)
def clsφ (a : Addr) (c : Value) : Heap → Prop := fun h => ∃ o, h.get? a = some o ∧ o.cls = c

mutual
/-- v is worth d, by the heap F -/
def Rep (K : PySem.W.Frag) (F : Hp) : D → V → Prop
  | .int i, v => v = .int i
  | .bl b, v => v = .bl b
  | .non, v => v = .non
  | .str x, v => v = .str x
  | .ty n, v => v = .ty n
  | .fn x, v => ∃ f, v = .ref f ∧ PySem.W.nsIn K mainGlobals x = some (some (.ref f))
  | .tup ds, v => ∃ a vs, v = .ref a ∧ SqT K F a vs ∧ Reps K F ds vs
  | .lst ds, v => ∃ a vs, v = .ref a ∧ SqL K F a vs ∧ Reps K F ds vs
  | .dic, v => ∃ a, v = .ref a ∧ F a = some (.ext (clsφ a (.type "dict")))
  | .exc c, v => ∃ a C, v = .ref a ∧ PySem.W.nsIn K mainGlobals c = some (some (.ref C)) ∧ F a = some (.ext (clsφ a (.ref C)))
  | .obj c ns ds, v => ∃ a C dx vs, v = .ref a ∧ PySem.W.nsIn K mainGlobals c = some (some (.ref C)) ∧ F a = some (.ins C dx (ns.zip vs)) ∧ ds.length ≤ ns.length ∧ Reps K F ds vs
  | .clo q st cl ds, v => ∃ f c oc doc pm ctv vs, v = .ref f ∧ F f = some (.frz (cloObj q st cl doc pm c ctv) (.own f)) ∧ F c = some (.frz oc (.own c)) ∧ isCod oc q ∧ Reps K F ds vs ∧ CellsF F cl vs
def Reps (K : PySem.W.Frag) (F : Hp) : List D → List V → Prop
  | [], vs => vs = []
  | d :: ds, vs => ∃ v r, vs = v :: r ∧ Rep K F d v ∧ Reps K F ds r
end
section
variable {K : PySem.W.Frag} {F F' H H' : Hp}
mutual
theorem Rep.mono (s : Same F F'): ∀ {d : D} {v : V}, Rep K F d v → Rep K F' d v
  | .int _, _, h => h
  | .bl _, _, h => h
  | .non, _, h => h
  | .str _, _, h => h
  | .ty _, _, h => h
  | .fn _, _, h => h
  | .tup ds, v, h => by
    obtain ⟨a, vs, e, h1, h2⟩ := h
    exact ⟨a, vs, e, s.seqT h1, Reps.mono s h2⟩
  | .lst ds, v, h => by
    obtain ⟨a, vs, e, h1, h2⟩ := h
    exact ⟨a, vs, e, s.seq h1, Reps.mono s h2⟩
  | .dic, v, h => by
    obtain ⟨a, e, h1⟩ := h
    exact ⟨a, e, s _ _ h1⟩
  | .exc _, v, h => by
    obtain ⟨a, C, e, h0, h1⟩ := h
    exact ⟨a, C, e, h0, s _ _ h1⟩
  | .obj _ _ ds, v, h => by
    obtain ⟨a, C, dx, vs, e, h0, h1, hl, h2⟩ := h
    exact ⟨a, C, dx, vs, e, h0, s _ _ h1, hl, Reps.mono s h2⟩
  | .clo _ _ _ ds, v, h => by
    obtain ⟨f, c, oc, doc, pm, ctv, vs, e, h1, h2, h3, h4, h5⟩ := h
    exact ⟨f, c, oc, doc, pm, ctv, vs, e, s _ _ h1, s _ _ h2, h3, Reps.mono s h4, fun i v hi => let ⟨x, a, o, u, e1, e2, e3⟩ := h5 i v hi; ⟨x, a, o, u, e1, s _ _ e2, e3⟩⟩
theorem Reps.mono (s : Same F F'): ∀ {ds : List D} {vs : List V}, Reps K F ds vs → Reps K F' ds vs
  | [], _, h => h
  | d :: ds, vs, h => by
    obtain ⟨v, r, e, h1, h2⟩ := h
    exact ⟨v, r, e, Rep.mono s h1, Reps.mono s h2⟩
end
theorem Reps.length : ∀ {ds : List D} {vs : List V}, Reps K F ds vs → ds.length = vs.length
  | [], _, h => by cases h; rfl
  | d :: ds, vs, h => by
    obtain ⟨v, r, rfl, h1, h2⟩ := h
    simp [Reps.length h2]
theorem Reps.get : ∀ {ds : List D} {vs : List V} {i : Nat} {d : D}, Reps K F ds vs → ds[i]? = some d → ∃ v, vs[i]? = some v ∧ Rep K F d v
  | [], _, _, _, _, e => by simp at e
  | d :: ds, vs, i, d', h, e => by
    obtain ⟨v, r, rfl, h1, h2⟩ := h
    cases i with
    | zero => simp at e; subst e; exact ⟨v, rfl, h1⟩
    | succ i => simpa using Reps.get h2 e
theorem Reps.get' : ∀ {ds : List D} {vs : List V} {i : Nat} {v : V}, Reps K F ds vs → vs[i]? = some v → ∃ d, ds[i]? = some d ∧ Rep K F d v := fun {ds vs i v} h e => by
  have hl := h.length
  have hi := (List.getElem?_eq_some_iff.mp e).1
  obtain ⟨v', e', r⟩ := h.get (List.getElem?_eq_getElem (i := i) (by lia))
  rw [e] at e'; cases e'
  exact ⟨_, List.getElem?_eq_getElem (by lia), r⟩
theorem Reps.append : ∀ {ds es : List D} {vs us : List V}, Reps K F ds vs → Reps K F es us → Reps K F (ds ++ es) (vs ++ us)
  | [], _, _, _, h, g => by cases h; exact g
  | d :: ds, _, _, _, h, g => by
    obtain ⟨v, r, rfl, h1, h2⟩ := h
    exact ⟨v, r ++ _, rfl, h1, Reps.append h2 g⟩
theorem Reps.take : ∀ {ds : List D} {vs : List V} (n : Nat), Reps K F ds vs → Reps K F (ds.take n) (vs.take n)
  | [], _, n, h => by cases h; simp [Reps]
  | d :: ds, _, 0, h => by simp [Reps]
  | d :: ds, _, n + 1, h => by
    obtain ⟨v, r, rfl, h1, h2⟩ := h
    exact ⟨v, r.take n, rfl, h1, Reps.take n h2⟩
theorem Reps.drop : ∀ {ds : List D} {vs : List V} (n : Nat), Reps K F ds vs → Reps K F (ds.drop n) (vs.drop n)
  | [], _, n, h => by cases h; simp [Reps]
  | d :: ds, _, 0, h => h
  | d :: ds, _, n + 1, h => by
    obtain ⟨v, r, rfl, h1, h2⟩ := h
    simpa using Reps.drop n h2
theorem Reps.of : ∀ {ds : List D} {vs : List V}, ds.length = vs.length → (∀ (i : Nat) d v, ds[i]? = some d → vs[i]? = some v → Rep K F d v) → Reps K F ds vs
  | [], [], _, _ => rfl
  | d :: ds, v :: vs, e, h => ⟨v, vs, rfl, h 0 d v rfl rfl, Reps.of (by simpa using e) fun i d' v' e1 e2 => h (i + 1) d' v' e1 e2⟩
  | [], _ :: _, e, _ => by simp at e
  | _ :: _, [], e, _ => by simp at e
theorem Reps.reverse (h : Reps K F ds vs): Reps K F ds.reverse vs.reverse := by
  have hl := h.length
  refine Reps.of (by simp [hl]) fun i d v e1 e2 => ?_
  have h1 := (List.getElem?_eq_some_iff.mp e1).1
  rw [List.length_reverse] at h1
  rw [List.getElem?_reverse (by omega)] at e1
  rw [List.getElem?_reverse (by lia), ← hl] at e2
  obtain ⟨v', e', r⟩ := h.get e1
  rw [e2] at e'; cases e'; exact r
theorem reps_ints : ∀ {xs : List Int} {vs : List V}, Reps K F (xs.map D.int) vs ↔ vs = xs.map V.int
  | [], vs => Iff.rfl
  | x :: xs, vs => by
    constructor
    · rintro ⟨v, r, rfl, h1, h2⟩
      have h1' : v = V.int x := h1
      rw [h1', reps_ints.mp h2]; rfl
    · rintro rfl
      exact ⟨_, _, rfl, rfl, reps_ints.mpr rfl⟩
end

def imm : HO → Bool
  | .tup _ => true
  | .frz _ _ => true
  | _ => false
inductive OV where
  | fz (d : D)
  | nl (ts : List OV)
  | rt (a : Addr) (ts : List OV)
  | fx (v : V) (d : D)
  | ob (o : Option Addr) (c : Str) (ns : List Str) (ts : List OV)
mutual
def OV.val : OV → D
  | .fz d => d
  | .nl ts => .lst (OV.vals ts)
  | .rt _ ts => .lst (OV.vals ts)
  | .fx _ d => d
  | .ob _ c ns ts => .obj c ns (OV.vals ts)
def OV.vals : List OV → List D
  | [] => []
  | t :: ts => t.val :: OV.vals ts
end
theorem OV.vals_eq : ∀ (ts : List OV), OV.vals ts = ts.map OV.val
  | [] => by simp [OV.vals]
  | t :: ts => by simp [OV.vals, OV.vals_eq ts]
mutual
def RepO (K : PySem.W.Frag) (F H : Hp) : OV → V → List Addr → Prop
  | .fz d, v, A => A = [] ∧ Rep K F d v
  | .nl ts, v, A => ∃ a vs B, v = .ref a ∧ A = a :: B ∧ H a = some (.lst vs) ∧ RepOs K F H ts vs B
  | .rt a ts, v, A => ∃ vs B, v = .ref a ∧ A = a :: B ∧ H a = some (.lst vs) ∧ RepOs K F H ts vs B
  | .fx u d, v, A => A = [] ∧ v = u ∧ Rep K F d v
  | .ob o c ns ts, v, A => ∃ a C dx vs B, v = .ref a ∧ A = a :: dx :: B ∧ PySem.W.nsIn K mainGlobals c = some (some (.ref C)) ∧ (∀ a', o = some a' → a = a') ∧ H a = some (.ins C dx (ns.zip vs)) ∧ H dx = some (.own a) ∧ ts.length ≤ ns.length ∧ RepOs K F H ts vs B
def RepOs (K : PySem.W.Frag) (F H : Hp) : List OV → List V → List Addr → Prop
  | [], vs, A => vs = [] ∧ A = []
  | t :: ts, vs, A => ∃ v r B C, vs = v :: r ∧ A = B ++ C ∧ RepO K F H t v B ∧ RepOs K F H ts r C
end
section
variable {K : PySem.W.Frag} {F F' H H' : Hp}
mutual
theorem RepO.frame (s : Same F F'): ∀ {t : OV} {v : V} {A : List Addr}, (∀ a ∈ A, ∀ xs, H a = some xs → H' a = some xs) → RepO K F H t v A → RepO K F' H' t v A
  | .fz d, v, A, _, h => ⟨h.1, h.2.mono s⟩
  | .nl ts, v, A, hk, h => by
    obtain ⟨a, vs, B, e, rfl, h1, h2⟩ := h
    exact ⟨a, vs, B, e, rfl, hk a List.mem_cons_self _ h1, RepOs.frame s (fun b hb => hk b (List.mem_cons_of_mem _ hb)) h2⟩
  | .rt a ts, v, A, hk, h => by
    obtain ⟨vs, B, e, rfl, h1, h2⟩ := h
    exact ⟨vs, B, e, rfl, hk a List.mem_cons_self _ h1, RepOs.frame s (fun b hb => hk b (List.mem_cons_of_mem _ hb)) h2⟩
  | .fx u d, v, A, _, h => ⟨h.1, h.2.1, h.2.2.mono s⟩
  | .ob o c ns ts, v, A, hk, h => by
    obtain ⟨a, C, dx, vs, B, e, rfl, h0, ho, h1, h2, hl, h3⟩ := h
    exact ⟨a, C, dx, vs, B, e, rfl, h0, ho, hk a (by simp) _ h1, hk dx (by simp) _ h2, hl, RepOs.frame s (fun b hb => hk b (by simp [hb])) h3⟩
theorem RepOs.frame (s : Same F F'): ∀ {ts : List OV} {vs : List V} {A : List Addr}, (∀ a ∈ A, ∀ xs, H a = some xs → H' a = some xs) → RepOs K F H ts vs A → RepOs K F' H' ts vs A
  | [], vs, A, _, h => h
  | t :: ts, vs, A, hk, h => by
    obtain ⟨v, r, B, C, e, rfl, h1, h2⟩ := h
    exact ⟨v, r, B, C, e, rfl, RepO.frame s (fun b hb => hk b (List.mem_append_left _ hb)) h1, RepOs.frame s (fun b hb => hk b (List.mem_append_right _ hb)) h2⟩
end
mutual
theorem RepO.isl : ∀ {t : OV} {v : V} {A : List Addr}, RepO K F H t v A → ∀ a ∈ A, ∃ xs, H a = some xs ∧ imm xs = false
  | .fz d, v, A, h, a, ha => by rw [h.1] at ha; cases ha
  | .nl ts, v, A, h, a, ha => by
    obtain ⟨b, vs, B, e, rfl, h1, h2⟩ := h
    rcases List.mem_cons.mp ha with rfl | z
    · exact ⟨_, h1, rfl⟩
    · exact RepOs.isl h2 a z
  | .rt b ts, v, A, h, a, ha => by
    obtain ⟨vs, B, e, rfl, h1, h2⟩ := h
    rcases List.mem_cons.mp ha with rfl | z
    · exact ⟨_, h1, rfl⟩
    · exact RepOs.isl h2 a z
  | .fx u d, v, A, h, a, ha => by rw [h.1] at ha; cases ha
  | .ob o c ns ts, v, A, h, a, ha => by
    obtain ⟨b, C, dx, vs, B, e, rfl, h0, ho, h1, h2, hl, h3⟩ := h
    rcases List.mem_cons.mp ha with rfl | z
    · exact ⟨_, h1, rfl⟩
    · rcases List.mem_cons.mp z with rfl | z
      · exact ⟨_, h2, rfl⟩
      · exact RepOs.isl h3 a z
theorem RepOs.isl : ∀ {ts : List OV} {vs : List V} {A : List Addr}, RepOs K F H ts vs A → ∀ a ∈ A, ∃ xs, H a = some xs ∧ imm xs = false
  | [], vs, A, h, a, ha => by rw [h.2] at ha; cases ha
  | t :: ts, vs, A, h, a, ha => by
    obtain ⟨v, r, B, C, e, rfl, h1, h2⟩ := h
    rcases List.mem_append.mp ha with z | z
    · exact RepO.isl h1 a z
    · exact RepOs.isl h2 a z
end
mutual
theorem RepO.rep (s : Same F F'): ∀ {t : OV} {v : V} {A : List Addr}, (∀ a ∈ A, ∀ xs, H a = some xs → F' a = some xs) → RepO K F H t v A → Rep K F' t.val v
  | .fz d, v, A, _, h => h.2.mono s
  | .nl ts, v, A, hk, h => by
    obtain ⟨a, vs, B, e, rfl, h1, h2⟩ := h
    exact ⟨a, vs, e, SqL.of (hk a List.mem_cons_self _ h1), RepOs.rep s (fun b hb => hk b (List.mem_cons_of_mem _ hb)) h2⟩
  | .fx u d, v, A, _, h => h.2.2.mono s
  | .ob o c ns ts, v, A, hk, h => by
    obtain ⟨a, C, dx, vs, B, e, rfl, h0, ho, h1, h2, hl, h3⟩ := h
    exact ⟨a, C, dx, vs, e, h0, hk a (by simp) _ h1, by rw [OV.vals_eq, List.length_map]; exact hl, RepOs.rep s (fun b hb => hk b (by simp [hb])) h3⟩
  | .rt a ts, v, A, hk, h => by
    obtain ⟨vs, B, e, rfl, h1, h2⟩ := h
    exact ⟨a, vs, e, SqL.of (hk a List.mem_cons_self _ h1), RepOs.rep s (fun b hb => hk b (List.mem_cons_of_mem _ hb)) h2⟩
theorem RepOs.rep (s : Same F F') : ∀ {ts : List OV} {vs : List V} {A : List Addr}, (∀ a ∈ A, ∀ xs, H a = some xs → F' a = some xs) → RepOs K F H ts vs A → Reps K F' (OV.vals ts) vs
  | [], vs, A, _, h => h.1
  | t :: ts, vs, A, hk, h => by
    obtain ⟨v, r, B, C, e, rfl, h1, h2⟩ := h
    exact ⟨v, r, e, RepO.rep s (fun b hb => hk b (List.mem_append_left _ hb)) h1, RepOs.rep s (fun b hb => hk b (List.mem_append_right _ hb)) h2⟩
end
theorem RepOs.length : ∀ {ts : List OV} {vs : List V} {A : List Addr}, RepOs K F H ts vs A → ts.length = vs.length
  | [], _, _, h => by rw [h.1]; rfl
  | t :: ts, _, _, h => by
    obtain ⟨v, r, B, C, rfl, rfl, h1, h2⟩ := h
    simp [RepOs.length h2]
theorem RepOs.append : ∀ {ts us : List OV} {vs ws : List V} {A B : List Addr}, RepOs K F H ts vs A → RepOs K F H us ws B → RepOs K F H (ts ++ us) (vs ++ ws) (A ++ B)
  | [], _, _, _, _, _, h, g => by obtain ⟨rfl, rfl⟩ := h; exact g
  | t :: ts, _, _, _, _, _, h, g => by
    obtain ⟨v, r, B, C, rfl, rfl, h1, h2⟩ := h
    exact ⟨v, _, B, _, rfl, by rw [List.append_assoc], h1, RepOs.append h2 g⟩
theorem RepOs.one (h : RepO K F H t v A): RepOs K F H [t] [v] A := ⟨v, [], A, [], rfl, by simp, h, rfl, rfl⟩
theorem RepOs.fzs : ∀ {ds : List D} {vs : List V}, Reps K F ds vs → RepOs K F H (ds.map OV.fz) vs []
  | [], _, h => ⟨h, rfl⟩
  | d :: ds, _, h => by
    obtain ⟨v, r, rfl, h1, h2⟩ := h
    exact ⟨v, r, [], [], rfl, rfl, ⟨rfl, h1⟩, RepOs.fzs h2⟩
end

structure Ext (F H F' H' : Hp) : Prop where
  ff : Same F F'
  hh : Same H H'
  fh : Same F' H'
  no : ∀ a o, F a = none → H a = some o → imm o = false → F' a = none
theorem Ext.refl (s : Same F H): Ext F H F H := ⟨Same.refl _, Same.refl _, s, fun _ _ h _ _ => h⟩
theorem Ext.trans (a : Ext F H F' H') (b : Ext F' H' F'' H''): Ext F H F'' H'' :=
  ⟨a.ff.trans b.ff, a.hh.trans b.hh, b.fh, fun x o h1 h2 h3 => b.no x o (a.no x o h1 h2 h3) (a.hh _ _ h2) h3⟩
def RepN (K : PySem.W.Frag) (H F' H' : Hp) (r : OV) (v : V) : Prop := ∃ A, RepO K F' H' r v A ∧ A.Nodup ∧ ∀ a ∈ A, H a = none ∧ F' a = none
theorem RepN.fz {K : PySem.W.Frag} {H F' H' : Hp} {d : D} {v : V} (h : Rep K F' d v) : RepN K H F' H' (.fz d) v := ⟨[], ⟨rfl, h⟩, List.nodup_nil, fun _ h => by cases h⟩
theorem RepN.old {K : PySem.W.Frag} {H0 H F' H' : Hp} {r : OV} {v : V} (s : Same H0 H) (h : RepN K H F' H' r v) : RepN K H0 F' H' r v := by
  obtain ⟨A, h1, h2, h3⟩ := h
  exact ⟨A, h1, h2, fun a ha => ⟨s.free (h3 a ha).1, (h3 a ha).2⟩⟩
theorem RepN.on {K : PySem.W.Frag} {H F' H' F'' H'' : Hp} {r : OV} {v : V} (h : RepN K H F' H' r v) (x : Ext F' H' F'' H'') : RepN K H F'' H'' r v := by
  obtain ⟨A, h1, h2, h3⟩ := h
  refine ⟨A, h1.frame x.ff fun a _ xs e => x.hh _ _ e, h2, fun a ha => ⟨(h3 a ha).1, ?_⟩⟩
  obtain ⟨xs, e, ei⟩ := h1.isl a ha
  exact x.no a _ (h3 a ha).2 e ei
theorem RepN.frz {K : PySem.W.Frag} {F H F' H' : Hp} {r : OV} {v : V} (x : Ext F H F' H') (h : RepN K H F' H' r v) : ∃ F'', Ext F H F'' H' ∧ Same F' F'' ∧ Rep K F'' r.val v := by
  obtain ⟨A, h1, h2, h3⟩ := h
  refine ⟨fun a => if a ∈ A then H' a else F' a, ⟨fun b o e => ?_, x.hh, fun b o e => ?_, fun a o e1 e2 e3 => ?_⟩, fun b o e => ?_, ?_⟩
  · have hb : b ∉ A := fun z => by rw [(x.ff.free (h3 b z).2)] at e; cases e
    rw [if_neg hb]; exact x.ff _ _ e
  · split at e
    · exact e
    · exact x.fh _ _ e
  · have ha : a ∉ A := fun z => by rw [(h3 a z).1] at e2; cases e2
    rw [if_neg ha]; exact x.no a o e1 e2 e3
  · have hb : b ∉ A := fun z => by rw [(h3 b z).2] at e; cases e
    try dsimp only
    rw [if_neg hb]; exact e
  · refine h1.rep (fun b o e => ?_) fun a ha xs e => ?_
    · have hb : b ∉ A := fun z => by rw [(h3 b z).2] at e; cases e
      rw [if_neg hb]; exact e
    · rw [if_pos ha]; exact e

inductive Sl where
  | own (t : OV)
  | bw (d : D)
abbrev Dst := List (Option Sl)
structure ER (K : PySem.W.Frag) (F0 H0 F H : Hp) (σ : St) (δ : Dst) (A : Nat → List Addr) : Prop where
  len : σ.length = δ.length
  ext : Ext F0 H0 F H
  own : ∀ (i : Nat) (t : OV), δ[i]? = some (some (.own t)) → ∃ v, σ[i]? = some (some v) ∧ RepO K F H t v (A i)
  bw : ∀ (i : Nat) (d : D), δ[i]? = some (some (.bw d)) → ∃ v, σ[i]? = some (some v) ∧ Rep K H0 d v
  nod : ∀ i, (A i).Nodup
  dis : ∀ i j a, i ≠ j → a ∈ A i → a ∉ A j
  new : ∀ i a, a ∈ A i → F a = none ∧ H0 a = none ∧ ∃ xs, H a = some xs ∧ imm xs = false
def EnvR (K : PySem.W.Frag) (F0 H0 F H : Hp) (σ : St) (δ : Dst) : Prop := ∃ A, ER K F0 H0 F H σ δ A
section
variable {K : PySem.W.Frag} {F0 H0 F H F' H' : Hp} {σ : St} {δ : Dst} {A : Nat → List Addr}
theorem ER.on (e : ER K F0 H0 F H σ δ A) (x : Ext F H F' H'): ER K F0 H0 F' H' σ δ A where
  len := e.len
  ext := e.ext.trans x
  own := fun i t h => by
    obtain ⟨v, h1, h2⟩ := e.own i t h
    exact ⟨v, h1, h2.frame x.ff fun a _ xs z => x.hh _ _ z⟩
  bw := e.bw
  nod := e.nod
  dis := e.dis
  new := fun i a ha => by
    obtain ⟨h1, h2, xs, h3, h4⟩ := e.new i a ha
    exact ⟨x.no a _ h1 h3 h4, h2, xs, x.hh _ _ h3, h4⟩
theorem EnvR.on (e : EnvR K F0 H0 F H σ δ) (x : Ext F H F' H'): EnvR K F0 H0 F' H' σ δ := let ⟨A, e⟩ := e; ⟨A, e.on x⟩
theorem EnvR.ext (e : EnvR K F0 H0 F H σ δ): Ext F0 H0 F H := let ⟨_, e⟩ := e; e.ext
theorem EnvR.put (e : EnvR K F0 H0 F H σ δ) (x : Ext F H F' H') (i : Nat) (h : RepN K H F' H' r v): EnvR K F0 H0 F' H' (σ.set i (some v)) (δ.set i (some (.own r))) := by
  obtain ⟨A, e⟩ := e
  obtain ⟨B, b1, b2, b3⟩ := h
  have e' := e.on x
  refine ⟨fun j => if j = i then B else A j, by simp [e.len], e'.ext, fun j t hj => ?_, fun j d hj => ?_, fun j => ?_, fun j k a hjk h1 h2 => ?_, fun j a ha => ?_⟩
  · by_cases z : j = i
    · subst z
      rw [if_pos rfl]
      have hl : j < δ.length := by
        have := (List.getElem?_eq_some_iff.mp hj).1
        rwa [List.length_set] at this
      rw [List.getElem?_set_self hl] at hj
      cases hj
      exact ⟨v, List.getElem?_set_self (by rw [e.len]; exact hl), b1⟩
    · rw [if_neg z]
      rw [List.getElem?_set_ne (Ne.symm z)] at hj ⊢
      exact e'.own j t hj
  · by_cases z : j = i
    · subst z
      have hl : j < δ.length := by
        have := (List.getElem?_eq_some_iff.mp hj).1
        rwa [List.length_set] at this
      rw [List.getElem?_set_self hl] at hj
      cases hj
    · rw [List.getElem?_set_ne (Ne.symm z)] at hj ⊢
      exact e'.bw j d hj
  · split
    · exact b2
    · exact e.nod j
  · have key : ∀ k, a ∈ B → a ∈ A k → False := fun k z1 z2 => by
      obtain ⟨_, _, xs, q, _⟩ := e.new k a z2
      rw [(b3 a z1).1] at q; cases q
    split at h1
    · split at h2
      · lia
      · exact key _ h1 h2
    · split at h2
      · exact key _ h2 h1
      · exact e.dis j k a hjk h1 h2
  · split at ha
    · exact ⟨(b3 a ha).2, e.ext.hh.free (b3 a ha).1, b1.isl a ha⟩
    · exact e'.new j a ha
theorem ER.putFz (e : ER K F0 H0 F H σ δ A) (i : Nat) (h : Rep K F d v): ER K F0 H0 F H (σ.set i (some v)) (δ.set i (some (.own (.fz d)))) (fun j => if j = i then [] else A j) := by
  refine ⟨by simp [e.len], e.ext, fun j t hj => ?_, fun j d hj => ?_, fun j => ?_, fun j k a hjk h1 h2 => ?_, fun j a ha => ?_⟩
  · by_cases z : j = i
    · subst z
      rw [if_pos rfl]
      have hl : j < δ.length := by
        have := (List.getElem?_eq_some_iff.mp hj).1
        rwa [List.length_set] at this
      rw [List.getElem?_set_self hl] at hj
      cases hj
      exact ⟨v, List.getElem?_set_self (by rw [e.len]; exact hl), rfl, h⟩
    · rw [if_neg z]
      rw [List.getElem?_set_ne (Ne.symm z)] at hj ⊢
      exact e.own j t hj
  · by_cases z : j = i
    · subst z
      have hl : j < δ.length := by
        have := (List.getElem?_eq_some_iff.mp hj).1
        rwa [List.length_set] at this
      rw [List.getElem?_set_self hl] at hj
      cases hj
    · rw [List.getElem?_set_ne (Ne.symm z)] at hj ⊢
      exact e.bw j d hj
  · split
    · exact List.nodup_nil
    · exact e.nod j
  · split at h1
    · cases h1
    · split at h2
      · cases h2
      · exact e.dis j k a hjk h1 h2
  · split at ha
    · cases ha
    · exact e.new j a ha
end
end L2

namespace L2
open PySem PySem.Spec PyProof.Rows
abbrev DE := Dst → (D → Prop) → Prop
abbrev DO := Dst → (OV → Prop) → Prop
abbrev DA := Dst → (List D → Prop) → Prop
abbrev DAO := Dst → (List OV → Prop) → Prop
abbrev DT := Dst → (Bool → Prop) → Prop
structure DEnds where
  nx : Dst → Prop
  rt : OV → Prop
  bk : Dst → Prop := fun _ => False
  ct : Dst → Prop := fun _ => False
abbrev DS := DEnds → Dst → Prop
section
variable (K : PySem.W.Frag)
def SimO (t : TE) (E : DO) : Prop := ∀ F0 H0 F H σ δ P Q, EnvR K F0 H0 F H σ δ → E δ P → (∀ r v F' H', P r → Ext F H F' H' → RepN K H F' H' r v → Q v H') → t σ H Q
def SimF (t : TE) (E : DE) : Prop := ∀ F0 H0 F H σ δ P Q, EnvR K F0 H0 F H σ δ → E δ P → (∀ d v F' H', P d → Ext F H F' H' → Rep K F' d v → Q v H') → t σ H Q
def SimB (t : TE) (E : DE) : Prop := ∀ F0 H0 F H σ δ P Q, EnvR K F0 H0 F H σ δ → E δ P → (∀ d v F' H', P d → Ext F H F' H' → Rep K H' d v → Q v H') → t σ H Q
def SimT (t : TT) (C : DT) : Prop := ∀ F0 H0 F H σ δ P Q, EnvR K F0 H0 F H σ δ → C δ P → (∀ b F' H', P b → Ext F H F' H' → Q b H') → t σ H Q
def SimAF (t : TA) (E : DA) : Prop := ∀ F0 H0 F H σ δ P Q, EnvR K F0 H0 F H σ δ → E δ P → (∀ ds vs F' H', P ds → Ext F H F' H' → Reps K F' ds vs → Q vs H') → t σ H Q
def SimAB (t : TA) (E : DA) : Prop := ∀ F0 H0 F H σ δ P Q, EnvR K F0 H0 F H σ δ → E δ P → (∀ ds vs F' H', P ds → Ext F H F' H' → Reps K H' ds vs → Q vs H') → t σ H Q
def RepNs (H F' H' : Hp) (rs : List OV) (vs : List V) : Prop := ∃ A, RepOs K F' H' rs vs A ∧ A.Nodup ∧ ∀ a ∈ A, H a = none ∧ F' a = none
def SimAO (t : TA) (E : DAO) : Prop := ∀ F0 H0 F H σ δ P Q, EnvR K F0 H0 F H σ δ → E δ P → (∀ rs vs F' H', P rs → Ext F H F' H' → RepNs K H F' H' rs vs → Q vs H') → t σ H Q
structure Lk (F0 H0 : Hp) (De : DEnds) (E : Ends) : Prop where
  nx : ∀ F H σ δ, EnvR K F0 H0 F H σ δ → De.nx δ → E.nx σ H
  bk : ∀ F H σ δ, EnvR K F0 H0 F H σ δ → De.bk δ → E.bk σ H
  ct : ∀ F H σ δ, EnvR K F0 H0 F H σ δ → De.ct δ → E.ct σ H
  rt : ∀ F H r v, Ext F0 H0 F H → RepN K H0 F H r v → De.rt r → E.rt v H
def SimS (t : TS) (T : DS) : Prop := ∀ F0 H0 F H σ δ De E, EnvR K F0 H0 F H σ δ → Lk K F0 H0 De E → T De δ → t E σ H
def SimG (g : TG) (G : D → Dst → (Dst → Prop) → Prop) : Prop := ∀ F0 H0 F H σ δ A d v P Q, ER K F0 H0 F H σ δ A → Rep K F d v → G d δ P → (∀ σ' δ' A', P δ' → ER K F0 H0 F H σ' δ' A' → (∀ i a, a ∈ A' i → a ∈ A i) → Q σ' H) → g v σ H Q
end
section
variable {K : PySem.W.Frag} {t ta tb tc : TE} {E Ea Eb Ec : DE}
def dFz (E : DE) : DO := fun δ P => E δ fun d => P (.fz d)
def dVal (E : DO) : DE := fun δ P => E δ fun r => P r.val
theorem sB_f (h : SimF K t E): SimB K t E := fun F0 H0 F H σ δ P Q e w q => h F0 H0 F H σ δ P Q e w fun d v F' H' p x r => q d v F' H' p x (r.mono x.fh)
theorem sO_f (h : SimF K t E): SimO K t (dFz E) := fun F0 H0 F H σ δ P Q e w q => h F0 H0 F H σ δ _ Q e w fun d v F' H' p x r => q _ v F' H' p x (.fz r)
theorem sF_o {E : DO} (h : SimO K t E) : SimF K t (dVal E) := fun F0 H0 F H σ δ P Q e w q => h F0 H0 F H σ δ _ Q e w fun d v F' H' p x r => by
  obtain ⟨F'', x', _, r'⟩ := r.frz x
  exact q _ v F'' H' p x' r'
mutual
def D.lf : D → Bool
  | .tup ds => D.lfs ds
  | .lst _ => false
  | .dic => false
  | .exc _ => false
  | .obj _ _ _ => false
  | .clo _ _ _ _ => false
  | _ => true
def D.lfs : List D → Bool
  | [] => true
  | d :: ds => d.lf && D.lfs ds
end
def frzT (F H : Hp) : Hp := fun a => match F a with
  | some o => some o
  | none => match H a with
    | some o => if imm o = true then some o else none
    | none => none
theorem frzT_ext (s : Same F H): Ext F H (frzT F H) H := by
  refine ⟨fun b o e => ?_, Same.refl _, fun b o e => ?_, fun a o e1 e2 e3 => ?_⟩
  · unfold frzT; rw [e]
  · unfold frzT at e
    cases q : F b with
    | some o' => rw [q] at e; rw [← e]; exact s _ _ q
    | none =>
      rw [q] at e
      cases q2 : H b with
      | none => rw [q2] at e; cases e
      | some o' =>
        rw [q2] at e
        dsimp only at e
        split at e
        · exact e
        · cases e
  · unfold frzT; rw [e1, e2]
    dsimp only
    rw [e3]; rfl
theorem frzT_imm (s : Same F H) (h : H a = some o) (hi : imm o = true): frzT F H a = some o := by
  unfold frzT
  cases q : F a with
  | some o' => rw [s _ _ q] at h; exact h
  | none => rw [h]; dsimp only; rw [hi]; rfl
theorem frzT_seqT (s : Same F H) (h : SqT K H a xs): SqT K (frzT F H) a xs := by
  rcases h with (h | ⟨o, h⟩) | h
  · exact .inl (.inl (frzT_imm s h rfl))
  · exact .inl (.inr ⟨o, frzT_imm s h rfl⟩)
  · exact .inr h
mutual
theorem Rep.lf (s : Same F H): ∀ {d : D} {v : V}, Rep K H d v → d.lf = true → Rep K (frzT F H) d v
  | .int _, _, h, _ => h
  | .bl _, _, h, _ => h
  | .non, _, h, _ => h
  | .str _, _, h, _ => h
  | .ty _, _, h, _ => h
  | .fn _, _, h, _ => h
  | .tup ds, v, h, z => by
    obtain ⟨a, vs, e, h1, h2⟩ := h
    exact ⟨a, vs, e, frzT_seqT s h1, Reps.lf s h2 (by simpa [D.lf] using z)⟩
  | .lst ds, v, h, z => by simp [D.lf] at z
  | .dic, v, h, z => by simp [D.lf] at z
  | .exc _, v, h, z => by simp [D.lf] at z
  | .obj _ _ _, v, h, z => by simp [D.lf] at z
  | .clo _ _ _ _, v, h, z => by simp [D.lf] at z
theorem Reps.lf (s : Same F H): ∀ {ds : List D} {vs : List V}, Reps K H ds vs → D.lfs ds = true → Reps K (frzT F H) ds vs
  | [], _, h, _ => h
  | d :: ds, vs, h, z => by
    obtain ⟨v, r, e, h1, h2⟩ := h
    simp [D.lfs] at z
    exact ⟨v, r, e, Rep.lf s h1 z.1, Reps.lf s h2 z.2⟩
end
theorem D.lfs_eq : ∀ (ds : List D), D.lfs ds = ds.all D.lf
  | [] => rfl
  | d :: ds => by simp [D.lfs, D.lfs_eq ds]
def dLf (E : DE) : DE := fun δ P => E δ fun d => d.lf = true ∧ P d
def dV (i : Nat) : DE := fun δ P => match δ[i]? with
  | some (some (.own (.fz d))) => P d
  | some (some (.own (.fx _ d))) => P d
  | _ => False
def dB (i : Nat) : DE := fun δ P => match δ[i]? with
  | some (some (.own t)) => P t.val
  | some (some (.bw d)) => P d
  | _ => False
theorem sF_var : SimF K (tVar i) (dV i) := fun F0 H0 F H σ δ P Q ⟨A, e⟩ w q => by
  unfold dV at w
  split at w
  · rename_i d hd
    obtain ⟨v, h1, h2⟩ := e.own i _ hd
    exact ⟨v, h1, q d v F H w (Ext.refl e.ext.fh) h2.2⟩
  · rename_i u d hd
    obtain ⟨v, h1, h2⟩ := e.own i _ hd
    exact ⟨v, h1, q d v F H w (Ext.refl e.ext.fh) h2.2.2⟩
  · exact w.elim
theorem sB_var : SimB K (tVar i) (dB i) := fun F0 H0 F H σ δ P Q ⟨A, e⟩ w q => by
  unfold dB at w
  split at w
  · rename_i t hd
    obtain ⟨v, h1, h2⟩ := e.own i _ hd
    exact ⟨v, h1, q _ v F H w (Ext.refl e.ext.fh) (h2.rep e.ext.fh fun a _ xs z => z)⟩
  · rename_i d hd
    obtain ⟨v, h1, h2⟩ := e.bw i _ hd
    exact ⟨v, h1, q _ v F H w (Ext.refl e.ext.fh) (h2.mono e.ext.hh)⟩
  · exact w.elim
def dC (d : D) : DE := fun _ P => P d
theorem sF_c (h : ∀ F, Rep K F d v): SimF K (tC v) (dC d) := fun F0 H0 F H σ δ P Q e w q => q d v F H w (Ext.refl e.ext.fh) (h _)
theorem sF_int : SimF K (tC (.int i)) (dC (.int i)) := sF_c fun _ => rfl
theorem sF_bl : SimF K (tC (.bl b)) (dC (.bl b)) := sF_c fun _ => rfl
theorem sF_ty : SimF K (tC (.ty n)) (dC (.ty n)) := sF_c fun _ => rfl
abbrev DR2 := D → D → (D → Prop) → Prop
def OpS (K : PySem.W.Frag) (R : R2) (r : DR2) : Prop := ∀ F H x y v u P Q, Same F H → Rep K H x v → Rep K H y u → r x y P → (∀ d w F' H', P d → Ext F H F' H' → Rep K F' d w → Q w H') → R v u H Q
def OpB (K : PySem.W.Frag) (R : R2) (r : DR2) : Prop := ∀ H x y v u P Q, Rep K H x v → Rep K H y u → r x y P → (∀ d w, P d → Rep K H d w → Q w H) → R v u H Q
def dOp (r : DR2) (Ea Eb : DE) : DE := fun δ P => Ea δ fun x => Eb δ fun y => r x y P
theorem sF_op (h : OpS K R r) (ha : SimB K ta Ea) (hb : SimB K tb Eb): SimF K (tOp R ta tb) (dOp r Ea Eb) := fun F0 H0 F H σ δ P Q e w q =>
  ha F0 H0 F H σ δ _ _ e w fun x v F1 H1 w1 x1 r1 => hb F0 H0 F1 H1 σ δ _ _ (e.on x1) w1 fun y u F2 H2 w2 x2 r2 =>
    h F2 H2 x y v u P _ x2.fh (r1.mono x2.hh) r2 w2 fun d w F' H' p x' r' => q d w F' H' p (x1.trans (x2.trans x')) r'
def rI2 (g : Int → Int → D) : DR2 := fun x y P => match x, y with
  | .int i, .int j => P (g i j)
  | _, _ => False
def rI2C (C : Int → Int → Prop) (g : Int → Int → D) : DR2 := fun x y P => match x, y with
  | .int i, .int j => C i j ∧ P (g i j)
  | _, _ => False
theorem rI2_inv {g : Int → Int → D} {P : D → Prop} (h : rI2 g x y P): ∃ i j, x = .int i ∧ y = .int j ∧ P (g i j) := by
  unfold rI2 at h
  split at h
  · exact ⟨_, _, rfl, rfl, h⟩
  · exact h.elim
theorem rI2C_inv {C : Int → Int → Prop} {g : Int → Int → D} {P : D → Prop} (h : rI2C C g x y P): ∃ i j, x = .int i ∧ y = .int j ∧ C i j ∧ P (g i j) := by
  unfold rI2C at h
  split at h
  · exact ⟨_, _, rfl, rfl, h.1, h.2⟩
  · exact h.elim
theorem oS_I0 {g : Int → Int → V} {g' : Int → Int → D} (hg : ∀ F i j, Rep K F (g' i j) (g i j)): OpS K (rI0 g) (rI2 g') := fun F H x y v u P Q s rx ry w q => by
  obtain ⟨i, j, rfl, rfl, p⟩ := rI2_inv w
  exact ⟨i, j, rx, ry, q _ _ F H p (Ext.refl s) (hg _ _ _)⟩
theorem oS_I {C : Int → Int → Prop} {g : Int → Int → V} {g' : Int → Int → D} (hg : ∀ F i j, Rep K F (g' i j) (g i j)): OpS K (rI C g) (rI2C C g') := fun F H x y v u P Q s rx ry w q => by
  obtain ⟨i, j, rfl, rfl, c, p⟩ := rI2C_inv w
  exact ⟨i, j, rx, ry, c, q _ _ F H p (Ext.refl s) (hg _ _ _)⟩
theorem oS_i0 {g : Int → Int → Int}: OpS K (rI0 fun i j => .int (g i j)) (rI2 fun i j => .int (g i j)) := oS_I0 fun _ _ _ => rfl
theorem oS_i {C : Int → Int → Prop} {g : Int → Int → Int}: OpS K (rI C fun i j => .int (g i j)) (rI2C C fun i j => .int (g i j)) := oS_I fun _ _ _ => rfl
theorem oS_b0 {g : Int → Int → Bool}: OpS K (rI0 fun i j => .bl (g i j)) (rI2 fun i j => .bl (g i j)) := oS_I0 fun _ _ _ => rfl
def rEqD : DR2 := fun x y P => match x, y with
  | .int i, .int j => P (.bl (decide (i = j)))
  | .str i, .str j => P (.bl (decide (i = j)))
  | .bl i, .bl j => P (.bl (decide (i = j)))
  | _, _ => False
def rNeD : DR2 := fun x y P => match x, y with
  | .int i, .int j => P (.bl (!decide (i = j)))
  | .str i, .str j => P (.bl (!decide (i = j)))
  | .bl i, .bl j => P (.bl (!decide (i = j)))
  | _, _ => False
theorem vd_int : decide (V.int i = V.int j) = decide (i = j) := by
  by_cases h : i = j
  · subst h; simp
  · rw [decide_eq_false h, decide_eq_false fun z => h (by injection z)]
theorem vd_str : decide (V.str i = V.str j) = decide (i = j) := by
  by_cases h : i = j
  · subst h; simp
  · rw [decide_eq_false h, decide_eq_false fun z => h (by injection z)]
theorem vd_bl : decide (V.bl i = V.bl j) = decide (i = j) := by
  by_cases h : i = j
  · subst h; simp
  · rw [decide_eq_false h, decide_eq_false fun z => h (by injection z)]
theorem oS_eq : OpS K rEq rEqD := fun F H x y v u P Q s rx ry w q => by
  unfold rEqD at w
  split at w
  · cases rx; cases ry; exact ⟨rfl, by rw [vd_int]; exact q _ _ F H w (Ext.refl s) rfl⟩
  · cases rx; cases ry; exact ⟨rfl, by rw [vd_str]; exact q _ _ F H w (Ext.refl s) rfl⟩
  · cases rx; cases ry; exact ⟨rfl, by rw [vd_bl]; exact q _ _ F H w (Ext.refl s) rfl⟩
  · exact w.elim
def D.isNon : D → Bool
  | .non => true
  | _ => false
def rIsN : DR2 := fun x y P => match y with
  | .non => P (.bl x.isNon)
  | _ => False
def rNotN : DR2 := fun x y P => match y with
  | .non => P (.bl (!x.isNon))
  | _ => False
def dUn (r : D → (D → Prop) → Prop) (Ea : DE) : DE := fun δ P => Ea δ fun x => r x P
def rU1 (g : Int → D) : D → (D → Prop) → Prop := fun x P => match x with
  | .int i => P (g i)
  | _ => False
def dTb (E : DE) : DT := fun δ P => E δ fun d => match d with
  | .bl b => P b
  | _ => False
theorem sT_of (h : SimF K t E): ∀ (F0 H0 F H : Hp) (σ : St) (δ : Dst) (P : Bool → Prop) (Q : Bool → Hp → Prop), EnvR K F0 H0 F H σ δ → dTb E δ P → (∀ b F' H', P b → Ext F H F' H' → Q b H') → t σ H fun x H' => ∃ k, x = .bl k ∧ Q k H' := fun F0 H0 F H σ δ P Q e w q =>
  h F0 H0 F H σ δ _ _ e w fun d v F' H' p x r => by
    split at p
    · exact ⟨_, r, q _ F' H' p x⟩
    · exact p.elim
theorem sT_test (h : SimF K t E): SimT K (tTest t) (dTb E) := sT_of h
theorem sT_b (h : SimF K t E): SimT K (tB t) (dTb E) := sT_of h
section
variable {ua ub : TT} {Ca Cb : DT}
def dNot (C : DT) : DT := fun δ P => C δ fun b => P (!b)
def dAnd (Ca Cb : DT) : DT := fun δ P => Ca δ fun b => if b = true then Cb δ P else P false
def dOr (Ca Cb : DT) : DT := fun δ P => Ca δ fun b => if b = true then P true else Cb δ P
theorem sT_not (h : SimT K ua Ca): SimT K (tNot ua) (dNot Ca) := fun F0 H0 F H σ δ P Q e w q => h F0 H0 F H σ δ _ _ e w fun b F' H' p x => q _ F' H' p x
theorem sT_or (h : SimT K ua Ca) (g : SimT K ub Cb): SimT K (tOr ua ub) (dOr Ca Cb) := fun F0 H0 F H σ δ P Q e w q => h F0 H0 F H σ δ _ _ e w fun b F' H' p x => by
  cases b with
  | true => exact iteT (q _ F' H' p x)
  | false => exact iteB rfl (g F0 H0 F' H' σ δ P Q (e.on x) p fun b F2 H2 p2 x2 => q b F2 H2 p2 (x.trans x2))
def dIf (C : DT) (Ea Eb : DE) : DE := fun δ P => C δ fun b => if b = true then Ea δ P else Eb δ P
end
def dAndV (Ea Eb : DE) : DE := fun δ P => Ea δ fun x => match x with
  | .bl c => if c = true then Eb δ P else P (.bl false)
  | _ => False
def dOrV (Ea Eb : DE) : DE := fun δ P => Ea δ fun x => match x with
  | .bl c => if c = true then P (.bl true) else Eb δ P
  | _ => False
def dNotV (Ea : DE) : DE := fun δ P => Ea δ fun x => match x with
  | .bl c => P (.bl (!c))
  | _ => False
theorem sF_andV (ha : SimF K ta Ea) (hb : SimF K tb Eb): SimF K (tAndV ta tb) (dAndV Ea Eb) := fun F0 H0 F H σ δ P Q e w q => ha F0 H0 F H σ δ _ _ e w fun d v F' H' p x r => by
  split at p
  · rename_i c
    refine ⟨c, r, ?_⟩
    cases c with
    | true => exact iteT (hb F0 H0 F' H' σ δ P Q (e.on x) p fun d v F2 H2 p2 x2 r => q d v F2 H2 p2 (x.trans x2) r)
    | false => exact iteB rfl (q _ _ F' H' p x rfl)
  · exact p.elim
theorem sF_notV (ha : SimF K ta Ea): SimF K (tNotV ta) (dNotV Ea) := fun F0 H0 F H σ δ P Q e w q => ha F0 H0 F H σ δ _ _ e w fun d v F' H' p x r => by
  split at p
  · exact ⟨_, r, q _ _ F' H' p x rfl⟩
  · exact p.elim
def dChain (r r' : DR2) (Ea Eb Ec : DE) : DE := fun δ P => Ea δ fun x => Eb δ fun y => r x y fun z => match z with
  | .bl k => if k = true then Ec δ fun w => r' y w P else P (.bl false)
  | _ => False
theorem sF_chain (h : OpS K R r) (h' : OpS K R' r') (ha : SimB K ta Ea) (hb : SimB K tb Eb) (hc : SimB K tc Ec): SimF K (tChain R R' ta tb tc) (dChain r r' Ea Eb Ec) := fun F0 H0 F H σ δ P Q e w q =>
  ha F0 H0 F H σ δ _ _ e w fun x v F1 H1 w1 x1 r1 => hb F0 H0 F1 H1 σ δ _ _ (e.on x1) w1 fun y u F2 H2 w2 x2 r2 =>
    h F2 H2 x y v u _ _ x2.fh (r1.mono x2.hh) r2 w2 fun d w F3 H3 p x3 r3 => by
      have x13 := x1.trans (x2.trans x3)
      split at p
      · rename_i k
        refine ⟨k, r3, ?_⟩
        cases k with
        | true => exact iteT (hc F0 H0 F3 H3 σ δ _ _ (e.on x13) p fun z w4 F4 H4 p4 x4 r4 => h' F4 H4 y z u w4 P Q x4.fh (r2.mono (x3.hh.trans x4.hh)) r4 p4 fun d w F5 H5 p5 x5 r5 => q d w F5 H5 p5 (x13.trans (x4.trans x5)) r5)
        | false => exact iteB rfl (q _ _ F3 H3 p x13 rfl)
      · exact p.elim
section
variable {a : TA} {As : DA}
def dNil : DA := fun _ P => P []
def dCons (Ea : DE) (As : DA) : DA := fun δ P => Ea δ fun d => As δ fun ds => P (d :: ds)
theorem sAB_nil : SimAB K tNil dNil := fun F0 H0 F H σ δ P Q e w q => q [] [] F H w (Ext.refl e.ext.fh) rfl
theorem sAF_nil : SimAF K tNil dNil := fun F0 H0 F H σ δ P Q e w q => q [] [] F H w (Ext.refl e.ext.fh) rfl
theorem sAB_cons (ha : SimB K ta Ea) (hr : SimAB K a As): SimAB K (tCons ta a) (dCons Ea As) := fun F0 H0 F H σ δ P Q e w q => ha F0 H0 F H σ δ _ _ e w fun d v F1 H1 w1 x1 r1 =>
  hr F0 H0 F1 H1 σ δ _ _ (e.on x1) w1 fun ds vs F2 H2 w2 x2 r2 => q (d :: ds) (v :: vs) F2 H2 w2 (x1.trans x2) ⟨v, vs, rfl, r1.mono x2.hh, r2⟩
theorem sAF_cons (ha : SimF K ta Ea) (hr : SimAF K a As): SimAF K (tCons ta a) (dCons Ea As) := fun F0 H0 F H σ δ P Q e w q => ha F0 H0 F H σ δ _ _ e w fun d v F1 H1 w1 x1 r1 =>
  hr F0 H0 F1 H1 σ δ _ _ (e.on x1) w1 fun ds vs F2 H2 w2 x2 r2 => q (d :: ds) (v :: vs) F2 H2 w2 (x1.trans x2) ⟨v, vs, rfl, r1.mono x2.ff, r2⟩
def dNilO : DAO := fun _ P => P []
def dConsO (Ea : DO) (As : DAO) : DAO := fun δ P => Ea δ fun d => As δ fun ds => P (d :: ds)
theorem sAO_nil : SimAO K tNil dNilO := fun F0 H0 F H σ δ P Q e w q => q [] [] F H w (Ext.refl e.ext.fh) ⟨[], ⟨rfl, rfl⟩, List.nodup_nil, fun _ h => by cases h⟩
def dTup (As : DA) : DE := fun δ P => As δ fun ds => ds.length ≤ 1000000 ∧ P (.tup ds)
theorem sz_le (h : n ≤ 1000000): n ≤ sizeLine := by rw [sizeLine_eq]; lia
theorem Ext.new (s : Same F H) (hp : H p = none) (hs : Same H H') (h : H' p = some o): Ext F H (upd F p o) H' := by
  refine ⟨fun b u e => ?_, hs, fun b u e => ?_, fun b u e1 e2 e3 => ?_⟩
  · rw [upd_ne fun z => by rw [z, s.free hp] at e; cases e]; exact e
  · by_cases hb : b = p
    · subst hb; rw [upd_same] at e; rw [← e]; exact h
    · rw [upd_ne hb] at e; exact hs _ _ (s _ _ e)
  · rw [upd_ne fun z => by rw [z, hp] at e2; cases e2]; exact e1
def dLst (As : DAO) : DO := fun δ P => As δ fun ts => ts.length ≤ 1000000 ∧ P (.nl ts)
theorem sO_lst (h : SimAO K a Ao): SimO K (tLstS a) (dLst Ao) := fun F0 H0 F H σ δ P Q e w q => h F0 H0 F H σ δ _ _ e w fun ts vs F1 H1 w1 x1 r1 => by
  obtain ⟨A, a1, a2, a3⟩ := r1
  have hl := a1.length
  refine ⟨sz_le (by lia), fun p H' hp hs he => ?_⟩
  refine q _ _ F1 H' w1.2 (x1.trans ⟨Same.refl _, hs, x1.fh.trans hs, fun _ _ z _ _ => z⟩) ⟨p :: A, ⟨p, vs, A, rfl, rfl, he, a1.frame (Same.refl _) fun b _ xs z => hs _ _ z⟩, List.nodup_cons.mpr ⟨fun z => ?_, a2⟩, fun b hb => ?_⟩
  · obtain ⟨xs, z, _⟩ := a1.isl p z
    rw [hp] at z; cases z
  · rcases List.mem_cons.mp hb with rfl | hb
    · exact ⟨x1.hh.free hp, x1.fh.free hp⟩
    · exact a3 b hb
end
end
end L2

namespace L2
open PySem PySem.Spec PyProof.Rows
section
variable {K : PySem.W.Frag} {t ta tb tc : TE} {E Ea Eb Ec : DE} {a : TA} {As : DA} {Ao : DAO}
theorem Reps.atI (h : Reps K F ds vs) (e : L2.atI ds i = some d): ∃ v, L2.atI vs i = some v ∧ Rep K F d v := by
  unfold L2.atI at e ⊢
  rw [h.length] at e
  cases q : ixN vs.length i with
  | none => rw [q] at e; cases e
  | some j =>
    rw [q] at e
    exact h.get e
def ixL : DR2 := fun x y P => match x, y with
  | .lst ds, .int i => ∃ d, atI ds i = some d ∧ P d
  | _, _ => False
def ixT : DR2 := fun x y P => match x, y with
  | .tup ds, .int i => ∃ d, atI ds i = some d ∧ P d
  | _, _ => False
def ixS : DR2 := fun x y P => match x, y with
  | .str z, .int i => z.length ≤ 1000000 ∧ ∃ c, atI z.cps.toList i = some c ∧ P (.str ⟨#[c]⟩)
  | _, _ => False
def OpF (K : PySem.W.Frag) (R : R2) (r : DR2) : Prop := ∀ F H x y v u P Q, Same F H → Rep K F x v → Rep K F y u → r x y P → (∀ d w, P d → Rep K F d w → Q w H) → R v u H Q
theorem OpF.b (h : OpF K R r): OpB K R r := fun H x y v u P Q rx ry w q => h H H x y v u P Q (Same.refl _) rx ry w q
theorem sF_opF (h : OpF K R r) (ha : SimF K ta Ea) (hb : SimF K tb Eb): SimF K (tOp R ta tb) (dOp r Ea Eb) := fun F0 H0 F H σ δ P Q e w q =>
  ha F0 H0 F H σ δ _ _ e w fun x v F1 H1 w1 x1 r1 => hb F0 H0 F1 H1 σ δ _ _ (e.on x1) w1 fun y u F2 H2 w2 x2 r2 =>
    h F2 H2 x y v u P _ x2.fh (r1.mono x2.ff) r2 w2 fun d w p r' => q d w F2 H2 p (x1.trans x2) r'
theorem oF_ixL : OpF K (rIxL K) ixL := fun F H x y v u P Q s rx ry w q => by
  unfold ixL at w
  split at w
  · obtain ⟨d, e, w⟩ := w
    obtain ⟨p, vs, rfl, h1, h2⟩ := rx
    obtain ⟨v', e', r⟩ := h2.atI e
    exact ⟨p, vs, _, v', rfl, ry, s.seq h1, e', q d v' w r⟩
  · exact w.elim
def CbS (K : PySem.W.Frag) (R : List V → Hp → VK → Prop) (r : List D → (D → Prop) → Prop) : Prop := ∀ F H ds vs P Q, Same F H → Reps K H ds vs → r ds P → (∀ d w F' H', P d → Ext F H F' H' → Rep K F' d w → Q w H') → R vs H Q
def dCB (r : List D → (D → Prop) → Prop) (As : DA) : DE := fun δ P => As δ fun ds => r ds P
def dCBo (r : List D → (OV → Prop) → Prop) (As : DA) : DO := fun δ P => As δ fun ds => r ds P
theorem sF_cb {R : List V → Hp → VK → Prop} {r : List D → (D → Prop) → Prop} (h : CbS K R r) (ha : SimAB K a As): SimF K (tCB R a) (dCB r As) := fun F0 H0 F H σ δ P Q e w q =>
  ha F0 H0 F H σ δ _ _ e w fun ds vs F1 H1 w1 x1 r1 => h F1 H1 ds vs P _ x1.fh r1 w1 fun d w F' H' p x' r' => q d w F' H' p (x1.trans x') r'
theorem reps1 (h : Reps K F [d] vs): ∃ v, vs = [v] ∧ Rep K F d v := by
  obtain ⟨v, r, rfl, h1, h2⟩ := h
  exact ⟨v, by rw [show r = [] from h2], h1⟩
theorem reps2 (h : Reps K F [d, d'] vs): ∃ v u, vs = [v, u] ∧ Rep K F d v ∧ Rep K F d' u := by
  obtain ⟨v, r, rfl, h1, h2⟩ := h
  obtain ⟨u, rfl, h3⟩ := reps1 h2
  exact ⟨v, u, rfl, h1, h3⟩
def lenD : List D → (D → Prop) → Prop := fun ds P => match ds with
  | [.lst xs] => P (.int xs.length)
  | [.tup xs] => P (.int xs.length)
  | _ => False
def lenS : List D → (D → Prop) → Prop := fun ds P => match ds with
  | [.str x] => x.length ≤ 1000000 ∧ P (.int x.length)
  | _ => False
theorem cS_len : CbS K (fun xs H Q => ∃ p ys, xs = [.ref p] ∧ (SqL K H p ys ∨ SqT K H p ys) ∧ Q (.int ys.length) H) lenD := fun F H ds vs P Q s rs w q => by
  unfold lenD at w
  split at w
  · obtain ⟨v, rfl, p, us, rfl, h1, h2⟩ := reps1 rs
    exact ⟨p, us, rfl, .inl h1, by rw [← h2.length]; exact q _ _ F H w (Ext.refl s) rfl⟩
  · obtain ⟨v, rfl, p, us, rfl, h1, h2⟩ := reps1 rs
    exact ⟨p, us, rfl, .inr h1, by rw [← h2.length]; exact q _ _ F H w (Ext.refl s) rfl⟩
  · exact w.elim
def max2 : List D → (D → Prop) → Prop := fun ds P => match ds with
  | [.int i, .int j] => P (.int (max i j))
  | _ => False
def min2 : List D → (D → Prop) → Prop := fun ds P => match ds with
  | [.int i, .int j] => P (.int (min i j))
  | _ => False
def intD : List D → (D → Prop) → Prop := fun ds P => match ds with
  | [.int i] => P (.int i)
  | [.bl b] => P (.int (if b then 1 else 0))
  | _ => False
def absD : List D → (D → Prop) → Prop := fun ds P => match ds with
  | [.int i] => P (.int i.natAbs)
  | _ => False
def listD : List D → (OV → Prop) → Prop := fun ds P => match ds with
  | [.lst xs] => P (.nl (xs.map .fz))
  | [.tup xs] => P (.nl (xs.map .fz))
  | _ => False
theorem RepN.list (h0 : H l = none) (f0 : F' l = none) (h : H' l = some (.lst vs)) (r : Reps K F' ds vs): RepN K H F' H' (.nl (ds.map .fz)) (.ref l) :=
  ⟨[l], ⟨l, vs, [], rfl, rfl, h, RepOs.fzs r⟩, by simp, fun a ha => by
    have e : a = l := by simpa using ha
    rw [e]; exact ⟨h0, f0⟩⟩
theorem Ext.grow (s : Same F H) (h : Same H H'): Ext F H F H' := ⟨Same.refl _, h, s.trans h, fun _ _ z _ _ => z⟩
def dListB (As : DA) : DO := fun δ P => As δ fun ds => match ds with
  | [.lst xs] => D.lfs xs = true ∧ P (.nl (xs.map .fz))
  | [.tup xs] => D.lfs xs = true ∧ P (.nl (xs.map .fz))
  | _ => False
def tupD : List D → (OV → Prop) → Prop := fun ds P => match ds with
  | [.lst xs] => P (.fz (.tup xs))
  | _ => False
abbrev DPt := Dst → (Option Int → Prop) → Prop
def dNoPt : DPt := fun _ P => P none
def dPt (E : DE) : DPt := fun δ P => E δ fun d => match d with
  | .int i => P (some i)
  | _ => False
def cutD (xs : List D) (lo hi : Option Int) : List D := (xs.drop (HT.sIx xs.length 0 lo)).take (HT.sIx xs.length xs.length hi - HT.sIx xs.length 0 lo)
def dSlL (Ea : DE) (L U : DPt) : DO := fun δ P => Ea δ fun x => L δ fun lo => U δ fun hi => match x with
  | .lst xs => P (.nl ((cutD xs lo hi).map .fz))
  | _ => False
mutual
def OV.lf : OV → Bool
  | .fz d => d.lf
  | .nl ts => OV.lfs ts
  | .rt _ ts => OV.lfs ts
  | .fx _ d => d.lf
  | .ob _ _ _ ts => OV.lfs ts
def OV.lfs : List OV → Bool
  | [] => true
  | t :: ts => t.lf && OV.lfs ts
end
theorem OV.lfs_eq : ∀ (ts : List OV), OV.lfs ts = ts.all OV.lf
  | [] => rfl
  | d :: ds => by simp [OV.lfs, OV.lfs_eq ds]
mutual
theorem RepO.lf (s : Same F F'): ∀ {t : OV} {v : V} {A : List Addr}, RepO K F' H' t v A → t.lf = true → RepO K (frzT F F') H' t v A
  | .fz d, v, A, h, z => ⟨h.1, Rep.lf s h.2 (by simpa [OV.lf] using z)⟩
  | .nl ts, v, A, h, z => by
    obtain ⟨a, vs, B, e, e2, h1, h2⟩ := h
    exact ⟨a, vs, B, e, e2, h1, RepOs.lf s h2 (by simpa [OV.lf] using z)⟩
  | .fx u d, v, A, h, z => ⟨h.1, h.2.1, Rep.lf s h.2.2 (by simpa [OV.lf] using z)⟩
  | .rt a ts, v, A, h, z => by
    obtain ⟨vs, B, e, e2, h1, h2⟩ := h
    exact ⟨vs, B, e, e2, h1, RepOs.lf s h2 (by simpa [OV.lf] using z)⟩
  | .ob o c ns ts, v, A, h, z => by
    obtain ⟨a, C, dx, vs, B, e, e2, h0, ho, h1, h2, hl, h3⟩ := h
    exact ⟨a, C, dx, vs, B, e, e2, h0, ho, h1, h2, hl, RepOs.lf s h3 (by simpa [OV.lf] using z)⟩
theorem RepOs.lf {F F' H' : Hp} (s : Same F F') : ∀ {ts : List OV} {vs : List V} {A : List Addr}, RepOs K F' H' ts vs A → OV.lfs ts = true → RepOs K (frzT F F') H' ts vs A
  | [], _, _, h, _ => h
  | t :: ts, vs, A, h, z => by
    obtain ⟨v, r, B, C, e1, e2, h1, h2⟩ := h
    simp [OV.lfs] at z
    exact ⟨v, r, B, C, e1, e2, RepO.lf s h1 z.1, RepOs.lf s h2 z.2⟩
end
abbrev DSp := List D → (OV → Prop) → Prop
def spV (K : PySem.W.Frag) (n : Nat) (sp : DSp) : Sp := spL n fun vs H Q => ∃ F ds P, Same F H ∧ Reps K F ds vs ∧ sp ds P ∧ ∀ r v F' H', P r → Ext F H F' H' → RepN K H F' H' r v → Q v H'
def dCall (n : Nat) (sp : DSp) (As : DA) : DO := fun δ P => As δ fun ds => ds.length = n ∧ sp ds P
def dCallB (n : Nat) (sp : DSp) (As : DA) : DO := fun δ P => As δ fun ds => ds.length = n ∧ sp ds fun r => r.lf = true ∧ P r
theorem sO_call (ha : SimAF K a As): SimO K (tCall (spV K n sp) [] E0 a) (dCall n sp As) := fun F0 H0 F H σ δ P Q e w q => ha F0 H0 F H σ δ _ _ e w fun ds vs F1 H1 w1 x1 r1 => by
  rw [List.append_nil]
  exact ⟨by rw [← r1.length]; exact w1.1, F1, ds, P, x1.fh, r1, w1.2, fun r v F' H' p x' r' => q r v F' H' p (x1.trans x') (r'.old x1.hh)⟩
theorem sO_callB (ha : SimAB K a As): SimO K (tCall (spV K n sp) [] E0 a) (dCallB n sp As) := fun F0 H0 F H σ δ P Q e w q => ha F0 H0 F H σ δ _ _ e w fun ds vs F1 H1 w1 x1 r1 => by
  rw [List.append_nil]
  refine ⟨by rw [← r1.length]; exact w1.1, H1, ds, _, Same.refl _, r1, w1.2, fun r v F' H' p x' r' => ?_⟩
  have s1 : Same F1 F' := x1.fh.trans x'.ff
  have x2 := frzT_ext s1
  obtain ⟨A, a1, a2, a3⟩ := r'
  refine q r v (frzT F1 F') H' p.2 (x1.trans ⟨x2.ff, x'.hh, x2.fh.trans x'.fh, fun b o z1 z2 z3 => ?_⟩) ⟨A, a1.lf s1 p.1, a2, fun b hb => ⟨x1.hh.free (a3 b hb).1, x2.fh.free (a3 b hb).2⟩⟩
  exact x2.no b o z1 (x'.ff _ _ z2) z3
end
end L2

namespace L2
open PySem PySem.Spec PyProof.Rows
section
variable {K : PySem.W.Frag} {te ti ta : TE} {E Ea Ei : DE} {Eo : DO} {t u : TS} {T U : DS}
def sNext : DS := fun De δ => De.nx δ
def sSeq (T U : DS) : DS := fun De δ => T { De with nx := U De } δ
theorem sS_next : SimS K tNext sNext := fun F0 H0 F H σ δ De E e l w => l.nx F H σ δ e w
theorem sS_seq (h : SimS K t T) (g : SimS K u U): SimS K (tSeq t u) (sSeq T U) := fun F0 H0 F H σ δ De E e l w =>
  h F0 H0 F H σ δ { De with nx := U De } _ e ⟨fun F1 H1 σ1 δ1 e1 w1 => g F0 H0 F1 H1 σ1 δ1 De E e1 l w1, l.bk, l.ct, l.rt⟩ w
def sBreak : DS := fun De δ => De.bk δ
def sCont : DS := fun De δ => De.ct δ
def sDrop (E : DE) : DS := fun De δ => E δ fun _ => De.nx δ
def sRet (E : DO) : DS := fun De δ => E δ De.rt
theorem sS_ret (h : SimO K te Eo): SimS K (tRet te) (sRet Eo) := fun F0 H0 F H σ δ De En e l w => h F0 H0 F H σ δ _ _ e w fun r v F' H' p x n => l.rt F' H' r v (e.ext.trans x) (n.old e.ext.hh) p
def sRetN : DS := fun De δ => De.rt (.fz .non)
def sRetV (i : Nat) : DS := fun De δ => match δ[i]? with
  | some (some (.own t)) => De.rt t
  | _ => False
def sIf (C : DT) (T U : DS) : DS := fun De δ => C δ fun b => if b = true then T De δ else U De δ
theorem sS_if (h : SimT K c C) (ht : SimS K t T) (hu : SimS K u U): SimS K (tIfS c t u) (sIf C T U) := fun F0 H0 F H σ δ De En e l w => h F0 H0 F H σ δ _ _ e w fun b F' H' p x => by
  cases b with
  | true => exact iteT (ht F0 H0 F' H' σ δ De En (e.on x) l p)
  | false => exact iteB rfl (hu F0 H0 F' H' σ δ De En (e.on x) l p)
def sSet (i : Nat) (E : DO) : DS := fun De δ => E δ fun r => De.nx (δ.set i (some (.own r)))
theorem sS_set (h : SimO K te Eo): SimS K (tAsg te (gName i)) (sSet i Eo) := fun F0 H0 F H σ δ De En e l w => h F0 H0 F H σ δ _ _ e w fun r v F' H' p x n => l.nx F' H' _ _ (e.put x i n) p
def sAug (i : Nat) (r : DR2) (E : DE) : DS := fun De δ => dV i δ fun x => E δ fun y => r x y fun z => De.nx (δ.set i (some (.own (.fz z))))
def gN (i : Nat) : D → Dst → (Dst → Prop) → Prop := fun d δ P => P (δ.set i (some (.own (.fz d))))
theorem sG_name : SimG K (gName i) (gN i) := fun F0 H0 F H σ δ A d v P Q e r w q => q _ _ _ w (e.putFz i r) fun j a ha => by
  split at ha
  · cases ha
  · exact ha
def gsNil : List D → Dst → (Dst → Prop) → Prop := fun ds δ P => match ds with
  | [] => P δ
  | _ => False
def gsCons (G : D → Dst → (Dst → Prop) → Prop) (Gs : List D → Dst → (Dst → Prop) → Prop) : List D → Dst → (Dst → Prop) → Prop := fun ds δ P => match ds with
  | d :: r => G d δ fun δ' => Gs r δ' P
  | _ => False
def gT (n : Nat) (Gs : List D → Dst → (Dst → Prop) → Prop) : D → Dst → (Dst → Prop) → Prop := fun d δ P => match d with
  | .tup ds => ds.length = n ∧ Gs ds δ P
  | _ => False
def sAsg (E : DE) (G : D → Dst → (Dst → Prop) → Prop) : DS := fun De δ => E δ fun d => G d δ De.nx
theorem ER.change {A : Nat → List Addr} (e : ER K F0 H0 F H σ δ A) (i : Nat) (hv : σ[i]? = some (some v)) (hr : RepO K F H' t' v B) (hB : B.Nodup)
    (hBn : ∀ b ∈ B, F b = none ∧ H0 b = none) (dj : ∀ j, j ≠ i → ∀ b ∈ B, b ∉ A j) (keep : ∀ b o, b ∉ A i → H b = some o → H' b = some o): EnvR K F0 H0 F H' σ (δ.set i (some (.own t'))) := by
  have hi : i < δ.length := by rw [← e.len]; exact (List.getElem?_eq_some_iff.mp hv).1
  refine ⟨fun j => if j = i then B else A j, by simp [e.len], ⟨e.ext.ff, fun b o h => ?_, fun b o h => ?_, e.ext.no⟩, fun j t hj => ?_, fun j d hj => ?_, fun j => ?_, fun j k a hjk h1 h2 => ?_, fun j a ha => ?_⟩
  · exact keep b o (fun z => by rw [(e.new i b z).2.1] at h; cases h) (e.ext.hh _ _ h)
  · exact keep b o (fun z => by rw [(e.new i b z).1] at h; cases h) (e.ext.fh _ _ h)
  · by_cases z : j = i
    · subst z
      rw [if_pos rfl]
      rw [List.getElem?_set_self hi] at hj
      cases hj
      exact ⟨v, hv, hr⟩
    · rw [if_neg z]
      rw [List.getElem?_set_ne (Ne.symm z)] at hj
      obtain ⟨u, h1, h2⟩ := e.own j t hj
      exact ⟨u, h1, h2.frame (Same.refl _) fun a ha xs h => keep a _ (e.dis j i a z ha) h⟩
  · by_cases z : j = i
    · subst z
      rw [List.getElem?_set_self hi] at hj
      cases hj
    · rw [List.getElem?_set_ne (Ne.symm z)] at hj
      exact e.bw j d hj
  · split
    · exact hB
    · exact e.nod j
  · split at h1
    · split at h2
      · lia
      · rename_i z1 z2
        exact dj k z2 a h1 h2
    · split at h2
      · rename_i z1 z2
        exact dj j z1 a h2 h1
      · exact e.dis j k a hjk h1 h2
  · split at ha
    · exact ⟨(hBn a ha).1, (hBn a ha).2, hr.isl a ha⟩
    · rename_i z
      obtain ⟨h1, h2, xs, h3, himm⟩ := e.new j a ha
      exact ⟨h1, h2, xs, keep a _ (e.dis j i a z ha) h3, himm⟩
def sApp (i : Nat) (E : DO) : DS := fun De δ => match δ[i]? with
  | some (some (.own (.nl ts))) => ts.length < 1000000 ∧ E δ fun r => De.nx (δ.set i (some (.own (.nl (ts ++ [r])))))
  | _ => False
theorem upd_off (h : b ≠ a) (e : H b = some o'): upd H a o b = some o' := by rw [upd_ne h]; exact e
def sPut (i : Nat) (Ei : DE) (E : DO) : DS := fun De δ => E δ fun r => match δ[i]? with
  | some (some (.own (.nl ts))) => Ei δ fun k => match k with
    | .int k => ∃ j, ixN ts.length k = some j ∧ De.nx (δ.set i (some (.own (.nl (ts.set j r)))))
    | _ => False
  | _ => False
def sAugI (i : Nat) (g : Int → Int → Int) (Ei E : DE) : DS := fun De δ => match δ[i]? with
  | some (some (.own (.nl ts))) => Ei δ fun k => match k with
    | .int k => 0 ≤ k ∧ ∃ x, ts[k.toNat]? = some (.fz (.int x)) ∧ E δ fun y => match y with
      | .int y => De.nx (δ.set i (some (.own (.nl (ts.set k.toNat (.fz (.int (g x y))))))))
      | _ => False
    | _ => False
  | _ => False
end
end L2

namespace L2
open PySem PySem.Spec PyProof.Rows
section
variable {K : PySem.W.Frag} {te ti ta tl : TE} {E Ea Ei El : DE} {Eo : DO} {t u : TS} {T U : DS} {a : TA} {As : DA}
theorem ER.rebase {A : Nat → List Addr} (e : ER K F0 H0 F H σ δ A): ER K F H0 F H σ δ A := ⟨e.len, ⟨Same.refl _, e.ext.hh, e.ext.fh, fun _ _ z _ _ => z⟩, e.own, e.bw, e.nod, e.dis, e.new⟩
theorem EnvR.rebase (e : EnvR K F0 H0 F H σ δ): EnvR K F H0 F H σ δ := let ⟨A, e⟩ := e; ⟨A, e.rebase⟩
theorem Ext.unbase (x : Ext F0 H0 F1 H1) (y : Ext F1 H0 F H): Ext F0 H0 F H := ⟨x.ff.trans y.ff, y.hh, y.fh, fun a o z1 z2 z3 => y.no a o (x.no a o z1 z2 z3) z2 z3⟩
theorem EnvR.unbase (x : Ext F0 H0 F1 H1) (e : EnvR K F1 H0 F H σ δ): EnvR K F0 H0 F H σ δ := let ⟨A, e⟩ := e; ⟨A, e.len, x.unbase e.ext, e.own, e.bw, e.nod, e.dis, e.new⟩
def ItR (K : PySem.W.Frag) (F : Hp) (J : It) (ds : List D) : Prop := ∀ F1 H1, Same F F1 → Same F1 H1 → (∀ i, i < ds.length → J.go i H1) ∧ J.stop ds.length H1 ∧ ∀ i x H2, i < ds.length → J.yld i H1 x H2 → ∃ d F2, ds[i]? = some d ∧ Ext F1 H1 F2 H2 ∧ Rep K F2 d x
def SimI (K : PySem.W.Frag) (wi : TI) (I : DA) : Prop := ∀ F0 H0 F H σ δ P R, EnvR K F0 H0 F H σ δ → I δ P → (∀ ds J F' H', P ds → Ext F H F' H' → ItR K F' J ds → R J H') → wi σ H R
def ForW (G : D → Dst → (Dst → Prop) → Prop) (T : DS) (De : DEnds) (ds : List D) (δ : Dst) : Prop := ∃ W : Nat → Dst → Prop, W 0 δ ∧
  (∀ i d δ, ds[i]? = some d → W i δ → G d δ fun δ' => T { nx := W (i + 1), ct := W (i + 1), bk := De.nx, rt := De.rt } δ') ∧ ∀ δ, W ds.length δ → De.nx δ
def sFor (I : DA) (G : D → Dst → (Dst → Prop) → Prop) (T : DS) : DS := fun De δ => I δ fun ds => ForW G T De ds δ
theorem sS_for {G : D → Dst → (Dst → Prop) → Prop} (hi : SimI K wi I) (hg : SimG K g G) (ht : SimS K t T): SimS K (tFor wi g t) (sFor I G T) := fun F0 H0 F H σ δ De En e l w =>
  hi F0 H0 F H σ δ _ _ e w fun ds J F1 H1 p x1 hJ => by
    have b1 := (e.on x1).ext
    obtain ⟨W, w0, ws, wd⟩ := p
    refine ⟨fun i m σ H => m = ds.length - i ∧ i ≤ ds.length ∧ ∃ F δ, EnvR K F1 H0 F H σ δ ∧ W i δ, ⟨ds.length, rfl, Nat.zero_le _, F1, δ, (e.on x1).rebase, w0⟩, ?_⟩
    rintro i m σ2 H2 ⟨rfl, hil, F2, δ2, ⟨A2, e2⟩, w2⟩
    obtain ⟨j1, j2, j3⟩ := hJ F2 H2 e2.ext.ff e2.ext.fh
    by_cases hlt : i < ds.length
    · refine .inr ⟨j1 i hlt, fun σ' H' => ∃ F δ, EnvR K F1 H0 F H' σ' δ ∧ W (i + 1) δ, fun σ' H' ⟨F3, δ3, e3, w3⟩ => ⟨ds.length - (i + 1), by omega, rfl, hlt, F3, δ3, e3, w3⟩, fun x H3 y => ?_⟩
      obtain ⟨d, F3, hd, x3, r3⟩ := j3 i x H3 hlt y
      refine hg F1 H0 F3 H3 σ2 δ2 A2 d x _ _ (e2.on x3) r3 (ws i d δ2 hd w2) fun σ4 δ4 A4 w4 e4 _ => ?_
      exact ht F1 H0 F3 H3 σ4 δ4 { nx := W (i + 1), ct := W (i + 1), bk := De.nx, rt := De.rt } _ ⟨A4, e4⟩ ⟨fun F5 H5 σ5 δ5 e5 w5 => ⟨F5, δ5, e5, w5⟩, fun F5 H5 σ5 δ5 e5 w5 => l.nx F5 H5 σ5 δ5 (e5.unbase b1) w5, fun F5 H5 σ5 δ5 e5 w5 => ⟨F5, δ5, e5, w5⟩, fun F5 H5 r v x5 n5 w5 => l.rt F5 H5 r v (b1.unbase x5) n5 w5⟩ w4
    · have hi' : i = ds.length := by lia
      subst hi'
      exact .inl ⟨j2, l.nx F2 H2 σ2 δ2 (EnvR.unbase b1 ⟨A2, e2⟩) (wd _ w2)⟩
def forR (G : D → Dst → (Dst → Prop) → Prop) (T : DS) (De : DEnds) : List D → Dst → Prop
  | [], δ => De.nx δ
  | d :: ds, δ => G d δ fun δ' => T { nx := forR G T De ds, ct := forR G T De ds, bk := De.nx, rt := De.rt } δ'
theorem forR.w {G : D → Dst → (Dst → Prop) → Prop} {T : DS} {De : DEnds} {ds : List D} {δ : Dst} (h : forR G T De ds δ) : ForW G T De ds δ := by
  refine ⟨fun i δ => forR G T De (ds.drop i) δ, h, fun i d δ e w => ?_, fun δ w => ?_⟩
  · obtain ⟨hlt, e⟩ := List.getElem?_eq_some_iff.mp e
    have w' : forR G T De (ds.drop i) δ := w
    rw [List.drop_eq_getElem_cons hlt, e] at w'
    exact w'
  · have w' : forR G T De (ds.drop ds.length) δ := w
    rw [List.drop_length] at w'; exact w'
def dItL (El : DE) : DA := fun δ P => El δ fun d => match d with
  | .lst ds => P ds
  | _ => False
def dItT (El : DE) : DA := fun δ P => El δ fun d => match d with
  | .tup ds => P ds
  | _ => False
theorem sI_list (h : SimF K tl El): SimI K (iList K tl) (dItL El) := fun F0 H0 F H σ δ P R e w q => h F0 H0 F H σ δ _ _ e w fun d v F' H' p x r => by
  split at p
  · obtain ⟨a, vs, rfl, h1, h2⟩ := r
    refine ⟨a, rfl, ⟨vs, x.fh.seq h1⟩, q _ _ F' H' p x fun F1 H1 s1 s2 => ?_⟩
    have hl := h2.length
    have hq := (s1.trans s2).seq h1
    refine ⟨fun i hi => ⟨vs, vs[i], hq, List.getElem?_eq_getElem (by lia)⟩, ⟨vs, hq, by lia⟩, fun i x H2 hi y => ?_⟩
    obtain ⟨rfl, y⟩ := y
    obtain ⟨d, hd, rd⟩ := h2.get' (y vs hq)
    exact ⟨d, F1, hd, Ext.refl s2, rd.mono s1⟩
  · exact p.elim
def rng (lo c : Int) (n : Nat) : List D := (List.range n).map fun (i : Nat) => D.int (lo + i * c)
def dRng1 (As : DA) : DA := fun δ P => As δ fun ds => match ds with
  | [.int j] => (-(2 ^ 62) ≤ j ∧ j < 2 ^ 62) ∧ P (rng 0 1 j.toNat)
  | _ => False
def dRng2 (As : DA) : DA := fun δ P => As δ fun ds => match ds with
  | [.int i, .int j] => (-(2 ^ 62) ≤ i ∧ i < 2 ^ 62 ∧ -(2 ^ 62) ≤ j ∧ j < 2 ^ 62) ∧ P (rng i 1 (j - i).toNat)
  | _ => False
def dRng3 (As : DA) : DA := fun δ P => As δ fun ds => match ds with
  | [.int i, .int j, .int c] => (-(2 ^ 61) ≤ i ∧ i < 2 ^ 61 ∧ -(2 ^ 61) ≤ j ∧ j < 2 ^ 61 ∧ 0 < c ∧ c < 2 ^ 29) ∧ P (rng i c (rngN i j c))
  | _ => False
def dRev (As : DA) : DA := fun δ P => As δ fun ds => match ds with
  | [.tup xs] => P xs.reverse
  | _ => False
def blkD (ix : List (Option Nat)) (δ : Dst) : Dst := ix.map fun o => match o with
  | none => none
  | some i => match δ[i]? with
    | some (some (.own (.fz d))) => some (.own (.fz d))
    | some (some (.own (.fx _ d))) => some (.own (.fz d))
    | some (some (.own t)) => some (.bw t.val)
    | some (some (.bw d)) => some (.bw d)
    | _ => none
def CmpW (G : D → Dst → (Dst → Prop) → Prop) (Eo : DO) (ds : List D) (δ : Dst) (P : OV → Prop) : Prop := ∃ W : Nat → Dst → List OV → Prop, W 0 δ [] ∧
  (∀ i d δ ts, ds[i]? = some d → W i δ ts → ts.length < 1000000 ∧ G d δ fun δ' => Eo δ' fun r => W (i + 1) δ' (ts ++ [r])) ∧ ∀ δ ts, W ds.length δ ts → P (.nl ts)
def dComp (I : DA) (ix : List (Option Nat)) (G : D → Dst → (Dst → Prop) → Prop) (Eo : DO) : DO := fun δ P => I δ fun ds => CmpW G Eo ds (blkD ix δ) P
def startV (N : List Str) (ds : List D) : Dst := ds.map (fun d => some (.own (.fz d))) ++ List.replicate (N.length - ds.length) none
theorem startV_er (s : Same F H) (h : Reps K F ds vs): ER K F H F H (start N vs) (startV N ds) (fun _ => []) := by
  have hl := h.length
  refine ⟨by simp [start, startV, hl], Ext.refl s, fun i t hi => ?_, fun i d hi => ?_, fun _ => List.nodup_nil, (fun _ _ _ _ h => by cases h), (fun _ _ h => by cases h)⟩
  · unfold startV at hi
    by_cases z : i < ds.length
    · rw [List.getElem?_append_left (by simpa using z), List.getElem?_map, List.getElem?_eq_getElem z] at hi
      simp at hi
      subst hi
      obtain ⟨v, h1, h2⟩ := h.get (List.getElem?_eq_getElem z)
      refine ⟨v, ?_, rfl, h2⟩
      unfold start
      rw [List.getElem?_append_left (by simp; lia), List.getElem?_map, h1]
      rfl
    · rw [List.getElem?_append_right (by simpa using z)] at hi
      have := List.mem_of_getElem? hi
      rw [List.mem_replicate] at this
      cases this.2
  · unfold startV at hi
    by_cases z : i < ds.length
    · rw [List.getElem?_append_left (by simpa using z), List.getElem?_map] at hi
      simp at hi
    · rw [List.getElem?_append_right (by simpa using z)] at hi
      have := List.mem_of_getElem? hi
      rw [List.mem_replicate] at this
      cases this.2
end
theorem CalV.of {P : Program} {w : World} {K : PySem.W.Frag} {mg : Str → Option Value} {base : Heap} {x : Str} {st : Stmt} {f : Addr} {fd : FuncData} {N ps : List Str} {k n : Nat} {sp : DSp} (Df : DefAt K mg x st f fd) (S : FnScope N ps (defScope st))
    (hb : ∀ (kV doc pm : Value) (an : Option Addr) (cdv ct : Value) (us : List Value), us.length = ps.length → bindArgs (PySem.W.fnOf x x (defArgs st) (defBody st) (defScope st) .none kV doc pm an cdv ct) ⟨us, []⟩ = pure (ps.zip us)) (hn : n = ps.length)
    (hbody : ∀ (cdv : Value) (A : Around) (outer : List Env) (s : Shared) (H : Hp) (E : XK), Room k (A.deeper (envOfC x (defScope st) s.heap.objs.size f cdv)) →
      ∃ t T, PSs (cxOf CX0 P w K mg base N x (defScope st) f cdv A outer s H E).nox (defBody st) t ∧ SimS K t T ∧ ∀ ds Pr, sp ds Pr → T { nx := fun _ => Pr (.fz .non), rt := Pr } (startV N ds)) : Cal P w K mg base x (k + 1) ps (spV K n sp) :=
  Cal.of Df S hb (fun vs H Q E h => by rw [← hn]; exact h.1) fun cdv A outer s H vs Q E hr h => by
    obtain ⟨_, F, ds, Pr, hs, hr', hsp, hq⟩ := h
    obtain ⟨t, T, h1, h2, h3⟩ := hbody cdv A outer s H E hr
    refine ⟨t, h1, h2 F H F H (start N vs) (startV N ds) { nx := fun _ => Pr (.fz .non), rt := Pr } _ ⟨_, startV_er hs hr'⟩ ⟨fun F' H' σ δ e p => ?_, fun _ _ _ _ _ z => z.elim, fun _ _ _ _ _ z => z.elim, fun F' H' r v x n p => hq r v F' H' p x n⟩ (h3 ds Pr hsp)⟩
    exact hq _ _ F' H' p e.ext (.fz rfl)
end L2

namespace L2
open PySem PySem.Spec PyProof.Rows
section
variable {X : Cx} {K : PySem.W.Frag}
def D.tyN : D → String
  | .int _ => "int"
  | .bl _ => "bool"
  | .non => "NoneType"
  | .str _ => "str"
  | .ty _ => "type"
  | .fn _ => "function"
  | .tup _ => "tuple"
  | .lst _ => "list"
  | .dic => "dict"
  | .exc _ => "exception"
  | .obj _ _ _ => "object"
  | .clo _ _ _ _ => "function"
def rIsID (K : PySem.W.Frag) : List V → Hp → VK → Prop := fun xs H Q => ∃ d v n b, xs = [v, .ty n] ∧ Rep K H d v ∧ ((∀ m, d ≠ .ty m) ∧ (∀ x, d ≠ .fn x) ∧ (∀ x, d ≠ .exc x) ∧ (∀ c ns ds, d ≠ .obj c ns ds) ∧ ∀ a b c e, d ≠ .clo a b c e) ∧ PySem.W.kitOne K (.type d.tyN) (.type n) = some b ∧ Q (.bl b) H
theorem call_isiD : CallR X (.builtin "isinstance") (rIsID X.K) := by
  intro pins s σ H xs us Q I r h
  obtain ⟨d, x, n, b, rfl, rp, ⟨hty, hfn, hex, hany⟩, e, q⟩ := h
  obtain ⟨u, w', rfl, r1, r2⟩ := vals2 r
  cases r2
  have fin : ∀ tk, EP X pins σ Q (.bool b) { s with toks := tk } := fun tk => ⟨.bl b, H, I.tok tk, rfl, q⟩
  cases d with
  | int i => cases rp; exact isinst_ok I r1 (TyOf.int i) e fin
  | bl i => cases rp; exact isinst_ok I r1 (TyOf.bl i) e fin
  | non => cases rp; exact isinst_ok I r1 TyOf.non e fin
  | str i => cases rp; exact isinst_ok I r1 (TyOf.str i) e fin
  | ty i => exact absurd rfl (hty i)
  | fn i => exact absurd rfl (hfn i)
  | tup ds =>
    obtain ⟨a, vs, rfl, h1, h2⟩ := rp
    cases (show u = Value.ref a from r1)
    obtain ⟨its, rv, p, hz⟩ := I.tuple h1
    obtain ⟨o, q1, q2, _⟩ := p
    exact PySem.W.kia_one PySem.W.kitx_tuple I.kIn ⟨o, q1, q2⟩ e (fun z => nomatch z) fin
  | lst ds =>
    obtain ⟨a, vs, rfl, h1, h2⟩ := rp
    cases (show u = Value.ref a from r1)
    obtain ⟨its, rv, p, hz⟩ := I.list h1
    obtain ⟨o, q1, q2, _⟩ := p.isList
    exact PySem.W.kia_one PySem.W.kitx_list I.kIn ⟨o, q1, q2⟩ e (fun z => nomatch z) fin
  | dic =>
    obtain ⟨a, rfl, h1⟩ := rp
    cases (show u = Value.ref a from r1)
    obtain ⟨⟨o, q1, q2⟩, _, _⟩ := I.hok a _ h1
    exact PySem.W.kia_one PySem.W.kitx_dict I.kIn ⟨o, q1, q2⟩ e (fun z => nomatch z) fin
  | exc c => exact absurd rfl (hex c)
  | obj c ns ds => exact absurd rfl (hany.1 c ns ds)
  | clo q1 q2 q3 q4 => exact absurd rfl (hany.2 q1 q2 q3 q4)
def kitB (d : D) (n : String) : Bool := match d with
  | .int _ => n == "int"
  | .bl _ => n == "bool" || n == "int"
  | .str _ => n == "str"
  | .tup _ => n == "tuple"
  | .lst _ => n == "list"
  | _ => false
def kitNs : List String := ["int", "bool", "str", "tuple", "list"]
structure KitV (K : PySem.W.Frag) : Prop where
  all : ∀ d : D, ((∀ m, d ≠ .ty m) ∧ (∀ x, d ≠ .fn x) ∧ (∀ x, d ≠ .exc x) ∧ (∀ c ns ds, d ≠ .obj c ns ds) ∧ ∀ a b c e, d ≠ .clo a b c e) → ∀ n ∈ kitNs, PySem.W.kitOne K (.type d.tyN) (.type n) = some (kitB d n)
def isiD : List D → (D → Prop) → Prop := fun ds P => match ds with
  | [.ty _, .ty _] => False
  | [.fn _, .ty _] => False
  | [.exc _, .ty _] => False
  | [.obj _ _ _, .ty _] => False
  | [.clo _ _ _ _, .ty _] => False
  | [d, .ty n] => n ∈ kitNs ∧ P (.bl (kitB d n))
  | _ => False
theorem cS_isi (KT : KitV K): CbS K (rIsID K) isiD := fun F H ds vs P Q s rs w q => by
  unfold isiD at w
  split at w
  · exact w.elim
  · exact w.elim
  · exact w.elim
  · exact w.elim
  · exact w.elim
  · rename_i d n h1 h0 h2 h3 h4
    obtain ⟨v, u, rfl, r1, r2⟩ := reps2 rs
    have ht : ∀ m, d ≠ .ty m := fun m z => h1 m z
    have hf : ∀ m, d ≠ .fn m := fun m z => h0 m z
    have hx : ∀ m, d ≠ .exc m := fun m z => h2 m z
    have hy : (∀ c ns ds, d ≠ .obj c ns ds) ∧ ∀ a b c e, d ≠ .clo a b c e := ⟨fun c ns ds z => h3 c ns ds z, fun a b c e z => h4 a b c e z⟩
    exact ⟨d, v, n, _, by rw [show u = _ from r2], r1, ⟨ht, hf, hx, hy⟩, KT.all d ⟨ht, hf, hx, hy⟩ n w.1, q _ _ F H w.2 (Ext.refl s) rfl⟩
  · exact w.elim
theorem atI_c0 {α : Type} {a : α} {xs : List α} : atI (a :: xs) 0 = some a := atI_nat rfl
theorem atI_c1 {α : Type} {a b : α} {xs : List α} : atI (a :: b :: xs) 1 = some b := atI_nat rfl
theorem atI_c2 {α : Type} {a b c : α} {xs : List α} : atI (a :: b :: c :: xs) 2 = some c := atI_nat rfl
theorem atI_c3 {α : Type} {a b c d : α} {xs : List α} : atI (a :: b :: c :: d :: xs) 3 = some d := atI_nat rfl
theorem atI_c4 {α : Type} {a b c d e : α} {xs : List α} : atI (a :: b :: c :: d :: e :: xs) 4 = some e := atI_nat rfl
theorem atI_ints {xs : List Int} {i : Int} (h0 : 0 ≤ i) (h : i < xs.length) : atI (xs.map D.int) i = some (.int (xs.getD i.toNat 0)) := by
  have hi : i.toNat < xs.length := by lia
  have e := atI_nat (xs := xs.map D.int) (j := i.toNat) (v := .int (xs.getD i.toNat 0)) (by simp [hi])
  rwa [show ((i.toNat : Nat) : Int) = i by lia] at e
theorem lfs_ints {xs : List Int} : D.lfs (xs.map D.int) = true := by
  rw [D.lfs_eq]; simp [D.lf]
theorem mget {α β : Type} {xs : List α} {f : α → β} {i : Nat} {d : β} (h : (xs.map f)[i]? = some d) : ∃ x, xs[i]? = some x ∧ d = f x := by
  rw [List.getElem?_map] at h
  cases q : xs[i]? with
  | none => rw [q] at h; cases h
  | some x => rw [q] at h; exact ⟨x, rfl, (Option.some.inj h).symm⟩
theorem val_fzI {xs : List Int} : List.map OV.val (xs.map fun x => OV.fz (D.int x)) = xs.map D.int := by
  rw [List.map_map]; rfl
theorem set_fzI {xs : List Int} {i : Nat} {v : Int} : (xs.map fun x => OV.fz (D.int x)).set i (.fz (.int v)) = (xs.set i v).map fun x => OV.fz (D.int x) := by
  rw [List.map_set]
theorem app_fzI : (xs.map fun x => OV.fz (D.int x)) ++ [.fz (.int v)] = (xs ++ [v]).map fun x => OV.fz (D.int x) := by
  rw [List.map_append]; rfl
theorem lfs_fzI {xs : List Int} : OV.lfs (xs.map fun x => OV.fz (D.int x)) = true := by
  rw [OV.lfs_eq]; simp [OV.lf, D.lf]
theorem fz_int {xs : List Int} : (xs.map D.int).map OV.fz = xs.map fun x => OV.fz (D.int x) := by
  rw [List.map_map]; rfl
theorem kn_int : ("int" ∈ kitNs) = True := eq_true (by decide)
theorem kn_bool : ("bool" ∈ kitNs) = True := eq_true (by decide)
theorem kn_str : ("str" ∈ kitNs) = True := eq_true (by decide)
theorem kn_tuple : ("tuple" ∈ kitNs) = True := eq_true (by decide)
theorem kn_list : ("list" ∈ kitNs) = True := eq_true (by decide)
theorem nat10 : (Int.natAbs 10 < 2 ^ 64) = True := eq_true (by decide)
theorem nat2 : (Int.natAbs 2 < 2 ^ 64) = True := eq_true (by decide)
theorem CmpW.map {α : Type} {Eo : DO} {o : Option Sl} {rest : Dst} {P : OV → Prop} (xs : List α) (g : α → D) (f : α → OV) (hn : xs.length ≤ 1000000)
    (h : ∀ x ∈ xs, ∀ Q : OV → Prop, Q (f x) → Eo (some (.own (.fz (g x))) :: rest) Q) (k : P (.nl (xs.map f))) : CmpW (gN 0) Eo (xs.map g) (o :: rest) P := by
  refine ⟨fun i δ ts => ∃ o, δ = o :: rest ∧ ts = (xs.take i).map f, ⟨o, rfl, rfl⟩, ?_, ?_⟩
  · rintro i d δ ts hd ⟨o, rfl, rfl⟩
    obtain ⟨x, hx, rfl⟩ := mget hd
    obtain ⟨hi, e⟩ := List.getElem?_eq_some_iff.mp hx
    refine ⟨by rw [List.length_map, List.length_take]; lia, h x (List.mem_of_getElem? hx) _ ⟨_, rfl, ?_⟩⟩
    rw [List.take_succ_eq_append_getElem hi, e, List.map_append]
    rfl
  · rintro δ ts ⟨o, rfl, rfl⟩
    rw [List.length_map, List.take_length]
    exact k
theorem CmpW.rng {Eo : DO} {o : Option Sl} {rest : Dst} {P : OV → Prop} {lo c : Int} {n : Nat} (f : Nat → OV) (hn : n ≤ 1000000)
    (h : ∀ i, i < n → ∀ Q : OV → Prop, Q (f i) → Eo (some (.own (.fz (.int (lo + i * c)))) :: rest) Q) (k : P (.nl ((List.range n).map f))) : CmpW (gN 0) Eo (rng lo c n) (o :: rest) P :=
  CmpW.map (List.range n) _ f (by simpa using hn) (fun i hi Q q => h i (List.mem_range.mp hi) Q q) k
theorem sSeq_k (h : ∀ N : Dst → Prop, (∀ δ', U De δ' → N δ') → T { De with nx := N } δ): sSeq T U De δ := h _ fun _ z => z
theorem KitV.of (t1 : PySem.W.kitOne K (.type "int") (.type "int") = some true) (t2 : PySem.W.kitOne K (.type "int") (.type "bool") = some false) (t3 : PySem.W.kitOne K (.type "int") (.type "str") = some false) (t4 : PySem.W.kitOne K (.type "int") (.type "tuple") = some false) (t5 : PySem.W.kitOne K (.type "int") (.type "list") = some false) (t6 : PySem.W.kitOne K (.type "bool") (.type "int") = some true) (t7 : PySem.W.kitOne K (.type "bool") (.type "bool") = some true) (t8 : PySem.W.kitOne K (.type "bool") (.type "str") = some false) (t9 : PySem.W.kitOne K (.type "bool") (.type "tuple") = some false) (t10 : PySem.W.kitOne K (.type "bool") (.type "list") = some false) (t11 : PySem.W.kitOne K (.type "NoneType") (.type "int") = some false) (t12 : PySem.W.kitOne K (.type "NoneType") (.type "bool") = some false) (t13 : PySem.W.kitOne K (.type "NoneType") (.type "str") = some false) (t14 : PySem.W.kitOne K (.type "NoneType") (.type "tuple") = some false) (t15 : PySem.W.kitOne K (.type "NoneType") (.type "list") = some false) (t16 : PySem.W.kitOne K (.type "str") (.type "int") = some false) (t17 : PySem.W.kitOne K (.type "str") (.type "bool") = some false) (t18 : PySem.W.kitOne K (.type "str") (.type "str") = some true) (t19 : PySem.W.kitOne K (.type "str") (.type "tuple") = some false) (t20 : PySem.W.kitOne K (.type "str") (.type "list") = some false) (t21 : PySem.W.kitOne K (.type "tuple") (.type "int") = some false) (t22 : PySem.W.kitOne K (.type "tuple") (.type "bool") = some false) (t23 : PySem.W.kitOne K (.type "tuple") (.type "str") = some false) (t24 : PySem.W.kitOne K (.type "tuple") (.type "tuple") = some true) (t25 : PySem.W.kitOne K (.type "tuple") (.type "list") = some false) (t26 : PySem.W.kitOne K (.type "list") (.type "int") = some false) (t27 : PySem.W.kitOne K (.type "list") (.type "bool") = some false) (t28 : PySem.W.kitOne K (.type "list") (.type "str") = some false) (t29 : PySem.W.kitOne K (.type "list") (.type "tuple") = some false) (t30 : PySem.W.kitOne K (.type "list") (.type "list") = some true) (t31 : PySem.W.kitOne K (.type "dict") (.type "int") = some false) (t32 : PySem.W.kitOne K (.type "dict") (.type "bool") = some false) (t33 : PySem.W.kitOne K (.type "dict") (.type "str") = some false) (t34 : PySem.W.kitOne K (.type "dict") (.type "tuple") = some false) (t35 : PySem.W.kitOne K (.type "dict") (.type "list") = some false): KitV K := by
  refine ⟨fun d ⟨hd, hd2, hd3⟩ n hn => ?_⟩
  simp only [kitNs, List.mem_cons, List.mem_nil_iff, or_false] at hn
  cases d with
  | ty m => exact absurd rfl (hd m)
  | fn m => exact absurd rfl (hd2 m)
  | int _ =>
    rcases hn with rfl | rfl | rfl | rfl | rfl
    · exact t1
    · exact t2
    · exact t3
    · exact t4
    · exact t5
  | bl _ =>
    rcases hn with rfl | rfl | rfl | rfl | rfl
    · exact t6
    · exact t7
    · exact t8
    · exact t9
    · exact t10
  | non =>
    rcases hn with rfl | rfl | rfl | rfl | rfl
    · exact t11
    · exact t12
    · exact t13
    · exact t14
    · exact t15
  | str _ =>
    rcases hn with rfl | rfl | rfl | rfl | rfl
    · exact t16
    · exact t17
    · exact t18
    · exact t19
    · exact t20
  | tup _ =>
    rcases hn with rfl | rfl | rfl | rfl | rfl
    · exact t21
    · exact t22
    · exact t23
    · exact t24
    · exact t25
  | lst _ =>
    rcases hn with rfl | rfl | rfl | rfl | rfl
    · exact t26
    · exact t27
    · exact t28
    · exact t29
    · exact t30
  | dic =>
    rcases hn with rfl | rfl | rfl | rfl | rfl
    · exact t31
    · exact t32
    · exact t33
    · exact t34
    · exact t35
  | exc m => exact absurd rfl (hd3.1 m)
  | obj c ns ds => exact absurd rfl (hd3.2.1 c ns ds)
  | clo q1 q2 q3 q4 => exact absurd rfl (hd3.2.2 q1 q2 q3 q4)
end
end L2

namespace PySem
open AutoSeq1
end PySem
namespace L2
open PySem PySem.Spec PyProof.Rows
section
variable {X : Cx} {K : PySem.W.Frag}
def dCatL (Ea Eb : DE) : DO := fun δ P => Ea δ fun x => Eb δ fun y => match x, y with
  | .lst xs, .lst ys => xs.length + ys.length ≤ 1000000 ∧ P (.nl ((xs ++ ys).map .fz))
  | _, _ => False
def dRevL (As : DA) : DA := fun δ P => As δ fun ds => match ds with
  | [.lst xs] => P xs.reverse
  | _ => False
theorem ER.frz {A : Nat → List Addr} (e : ER K F0 H0 F H σ δ A) (i : Nat) (hi : δ[i]? = some (some (.own t))): ∃ F', EnvR K F0 H0 F' H σ (δ.set i (some (.own (.fz t.val)))) := by
  obtain ⟨v, hv, hr⟩ := e.own i t hi
  have hlt := (List.getElem?_eq_some_iff.mp hi).1
  have sm : Same F fun a => if a ∈ A i then H a else F a := fun b o z => by
    have hb : b ∉ A i := fun y => by rw [(e.new i b y).1] at z; cases z
    dsimp only
    rw [if_neg hb]; exact z
  refine ⟨fun a => if a ∈ A i then H a else F a, fun j => if j = i then [] else A j, by simp [e.len], ⟨e.ext.ff.trans sm, e.ext.hh, fun b o z => ?_, fun b o z1 z2 z3 => ?_⟩, fun j u hj => ?_, fun j d hj => ?_, fun j => ?_, fun j k a hjk h1 h2 => ?_, fun j a ha => ?_⟩
  · split at z
    · exact z
    · exact e.ext.fh _ _ z
  · have hb : b ∉ A i := fun y => by rw [(e.new i b y).2.1] at z2; cases z2
    rw [if_neg hb]; exact e.ext.no b o z1 z2 z3
  · by_cases z : j = i
    · subst z
      rw [if_pos rfl]
      rw [List.getElem?_set_self hlt] at hj
      cases hj
      exact ⟨v, hv, rfl, hr.rep sm fun a ha xs q => by rw [if_pos ha]; exact q⟩
    · rw [if_neg z]
      rw [List.getElem?_set_ne (Ne.symm z)] at hj
      obtain ⟨v', h1, h2⟩ := e.own j u hj
      exact ⟨v', h1, h2.frame sm fun a _ xs q => q⟩
  · by_cases z : j = i
    · subst z
      rw [List.getElem?_set_self hlt] at hj
      cases hj
    · rw [List.getElem?_set_ne (Ne.symm z)] at hj
      exact e.bw j d hj
  · split
    · exact List.nodup_nil
    · exact e.nod j
  · split at h1
    · cases h1
    · split at h2
      · cases h2
      · exact e.dis j k a hjk h1 h2
  · split at ha
    · cases ha
    · rename_i z
      obtain ⟨h1, h2, h3⟩ := e.new j a ha
      refine ⟨?_, h2, h3⟩
      rw [if_neg fun y => e.dis j i a z ha y]; exact h1
def sFrz (i : Nat) (T : DS) : DS := fun De δ => match δ[i]? with
  | some (some (.own t)) => T De (δ.set i (some (.own (.fz t.val))))
  | _ => False
def sApp2 (i : Nat) (Ei : DE) (E : DO) : DS := fun De δ => match δ[i]? with
  | some (some (.own (.nl ts))) => Ei δ fun k => match k with
    | .int k => 0 ≤ k ∧ ∃ us, ts[k.toNat]? = some (.nl us) ∧ us.length < 1000000 ∧ E δ fun r => De.nx (δ.set i (some (.own (.nl (ts.set k.toNat (.nl (us ++ [r])))))))
    | _ => False
  | _ => False
def sExt (i : Nat) (E : DE) : DS := fun De δ => match δ[i]? with
  | some (some (.own (.nl ts))) => E δ fun d => match d with
    | .lst ds => ts.length + ds.length ≤ 1000000 ∧ De.nx (δ.set i (some (.own (.nl (ts ++ ds.map .fz)))))
    | .tup ds => ts.length + ds.length ≤ 1000000 ∧ De.nx (δ.set i (some (.own (.nl (ts ++ ds.map .fz)))))
    | _ => False
  | _ => False
end
end L2

namespace L2
open PySem PySem.Spec PyProof.Rows
def catTD : DR2 := fun x y P => match x, y with
  | .tup xs, .tup ys => xs ≠ [] ∧ ys ≠ [] ∧ xs.length + ys.length ≤ 1000000 ∧ P (.tup (xs ++ ys))
  | _, _ => False
def D.fit : Nat → D → Bool
  | _, .int _ => true
  | _, .str _ => true
  | _, .non => true
  | _, .bl _ => true
  | _, .ty _ => false
  | _, .fn _ => false
  | _, .dic => false
  | _, .exc _ => false
  | _, .obj _ _ _ => false
  | _, .clo _ _ _ _ => false
  | 0, .tup _ => false
  | 0, .lst _ => false
  | n + 1, .tup ds => ds.all (D.fit n)
  | n + 1, .lst ds => ds.all (D.fit n)
mutual
def D.eqb : D → D → Bool
  | .int i, .int j => decide (i = j)
  | .str x, .str y => decide (x = y)
  | .non, .non => true
  | .bl a, .bl b => a == b
  | .bl a, .int j => decide ((if a then 1 else 0) = j)
  | .int i, .bl b => decide (i = if b then 1 else 0)
  | .tup xs, .tup ys => D.eqbs xs ys
  | .lst xs, .lst ys => D.eqbs xs ys
  | _, _ => false
def D.eqbs : List D → List D → Bool
  | [], [] => true
  | x :: xs, y :: ys => D.eqb x y && D.eqbs xs ys
  | _, _ => false
end
mutual
theorem D.eqb_refl : ∀ {d : D} {n : Nat}, d.fit n = true → D.eqb d d = true
  | .int _, _, _ => by simp [D.eqb]
  | .str _, _, _ => by simp [D.eqb]
  | .non, _, _ => by simp [D.eqb]
  | .bl _, _, _ => by simp [D.eqb]
  | .ty _, _, h => by simp [D.fit] at h
  | .fn _, _, h => by simp [D.fit] at h
  | .dic, _, h => by simp [D.fit] at h
  | .exc _, _, h => by simp [D.fit] at h
  | .obj _ _ _, _, h => by simp [D.fit] at h
  | .clo _ _ _ _, _, h => by simp [D.fit] at h
  | .tup ds, 0, h => by simp [D.fit] at h
  | .lst ds, 0, h => by simp [D.fit] at h
  | .tup ds, n + 1, h => by
    simp only [D.eqb]
    exact D.eqbs_refl (n := n) (by simpa only [D.fit] using h)
  | .lst ds, n + 1, h => by
    simp only [D.eqb]
    exact D.eqbs_refl (n := n) (by simpa only [D.fit] using h)
theorem D.eqbs_refl : ∀ {ds : List D} {n : Nat}, ds.all (D.fit n) = true → D.eqbs ds ds = true
  | [], _, _ => by simp [D.eqbs]
  | d :: ds, n, h => by
    rw [List.all_cons, Bool.and_eq_true] at h
    simp only [D.eqbs, D.eqb_refl h.1, D.eqbs_refl h.2, Bool.and_self]
end
def D.same : D → D → Bool
  | .tup _, .tup _ => true
  | .lst _, .lst _ => true
  | _, _ => false
def eqND : DR2 := fun x y P => x.same y = true ∧ x.fit 4 = true ∧ y.fit 4 = true ∧ P (.bl (D.eqb x y))
def neND : DR2 := fun x y P => x.same y = true ∧ x.fit 4 = true ∧ y.fit 4 = true ∧ P (.bl (!D.eqb x y))
def allD : List D → (D → Prop) → Prop := fun ds P => match ds with
  | [.lst xs] => ∃ bs : List Bool, xs = bs.map D.bl ∧ P (.bl (bs.all id))
  | _ => False
def anyD : List D → (D → Prop) → Prop := fun ds P => match ds with
  | [.lst xs] => ∃ bs : List Bool, xs = bs.map D.bl ∧ P (.bl (bs.any id))
  | _ => False
def maxLD : List D → (D → Prop) → Prop := fun ds P => match ds with
  | [.lst xs] => ∃ ns : List Int, xs = ns.map D.int ∧ 0 < ns.length ∧ ∀ M : Int, M ∈ ns → (∀ a ∈ ns, a ≤ M) → P (.int M)
  | _ => False
def dTruth (E : DE) : DT := fun δ P => E δ fun d => match d with
  | .bl b => P b
  | .int i => P (decide (i ≠ 0))
  | .lst xs => P (!xs.isEmpty)
  | .tup xs => P (!xs.isEmpty)
  | .non => P false
  | _ => False
def CmpIfW (G : D → Dst → (Dst → Prop) → Prop) (C : DT) (Eo : DO) (ds : List D) (δ : Dst) (P : OV → Prop) : Prop := ∃ W : Nat → Dst → List OV → Prop, W 0 δ [] ∧
  (∀ i d δ ts, ds[i]? = some d → W i δ ts → ts.length < 1000000 ∧ G d δ fun δ' => C δ' fun b => if b = true then Eo δ' fun r => W (i + 1) δ' (ts ++ [r]) else W (i + 1) δ' ts) ∧ ∀ δ ts, W ds.length δ ts → P (.nl ts)
def dCompIf (I : DA) (ix : List (Option Nat)) (G : D → Dst → (Dst → Prop) → Prop) (C : DT) (Eo : DO) : DO := fun δ P => I δ fun ds => CmpIfW G C Eo ds (blkD ix δ) P
def sPut2 (i : Nat) (Ek Em E : DE) : DS := fun De δ => E δ fun d => match δ[i]? with
  | some (some (.own (.nl ts))) => Ek δ fun k => match k with
    | .int k => ∃ j us, ixN ts.length k = some j ∧ ts[j]? = some (.nl us) ∧ Em δ fun m => match m with
      | .int m => ∃ l, ixN us.length m = some l ∧ De.nx (δ.set i (some (.own (.nl (ts.set j (.nl (us.set l (.fz d))))))))
      | _ => False
    | _ => False
  | _ => False
def stepG {α : Type} (xs : List α) (c : Int) : List α := (sliceRange 0 xs.length c).filterMap (xs[·]?)
def dSlSt (Ea Ec : DE) : DO := fun δ P => Ea δ fun x => Ec δ fun c => match x, c with
  | .lst xs, .int c => 0 < c ∧ P (.nl ((stepG xs c).map .fz))
  | _, _ => False
def dCallD (n : Nat) (sp : DSp) (dds : List D) (As : DA) : DO := fun δ P => As δ fun ds => (ds ++ dds).length = n ∧ sp (ds ++ dds) P
def dCallDB (n : Nat) (sp : DSp) (dds : List D) (As : DA) : DO := fun δ P => As δ fun ds => (ds ++ dds).length = n ∧ sp (ds ++ dds) fun r => r.lf = true ∧ P r
end L2

namespace L2
open PySem PySem.Spec PyProof.Rows
section
variable {K : PySem.W.Frag} {X : Cx}
end
end L2

namespace L2
open PySem PySem.Spec PyProof.Rows
structure BltV (mg : Str → Option Value) : Prop extends Blt mg where
  abs : mg "abs" = none
  any : mg "any" = none
  sum : mg "sum" = none
  sorted : mg "sorted" = none
  set : mg "set" = none
  enumerate : mg "enumerate" = none
  dict : mg "dict" = none
  str : mg "str" = none
  divmod : mg "divmod" = none
  ord : mg "ord" = none
abbrev DTb := List (Str × DSp)
def dCallL (i n : Nat) (tb : DTb) (As : DA) : DO := fun δ P => match δ[i]? with
  | some (some (.own (.fz (.fn x)))) => ∃ sp, (x, sp) ∈ tb ∧ As δ fun ds => ds.length = n ∧ sp ds P
  | _ => False
def dCallLB (i n : Nat) (tb : DTb) (As : DA) : DO := fun δ P => match δ[i]? with
  | some (some (.own (.fz (.fn x)))) => ∃ sp, (x, sp) ∈ tb ∧ As δ fun ds => ds.length = n ∧ sp ds fun r => r.lf = true ∧ P r
  | _ => False
abbrev DIO := List OV → List D → (List OV → Prop) → Prop
def sCallIO (i n : Nat) (sp : DIO) (As : DA) : DS := fun De δ => match δ[i]? with
  | some (some (.own (.nl ts))) => As δ fun ds => ds.length + 1 = n ∧ sp ts ds fun ts' => De.nx (δ.set i (some (.own (.nl ts'))))
  | _ => False
def startIO (N : List Str) (a : Addr) (ts : List OV) (ds : List D) : Dst := some (.own (.rt a ts)) :: (ds.map (fun d => some (.own (.fz d))) ++ List.replicate (N.length - (ds.length + 1)) none)
def sTag (i : Nat) (T : DS) : DS := fun De δ => match δ[i]? with
  | some (some (.own (.rt a ts))) => T { De with nx := fun δ' => match δ'[i]? with
      | some (some (.own (.nl ts'))) => De.nx (δ'.set i (some (.own (.rt a ts'))))
      | _ => False } (δ.set i (some (.own (.nl ts))))
  | _ => False
def gB (i : Nat) : D → Dst → (Dst → Prop) → Prop := fun d δ P => P (δ.set i (some (.bw d)))
def dCompB (El : DE) (ix : List (Option Nat)) (Eo : DO) : DO := fun δ P => El δ fun d => match d with
  | .lst ds => CmpW (gB 0) Eo ds (blkD ix δ) P
  | _ => False
section
variable {K : PySem.W.Frag} {X : Cx} {mg : Str → Option Value}
theorem Cal.mono (C : Cal P w K mg base x j ps sp) (h : j ≤ k): Cal P w K mg base x k ps sp := by
  obtain ⟨f, fd, F, a, b, c⟩ := C.ex
  exact ⟨f, fd, F.mono h, a, b, c⟩
def spIO (K : PySem.W.Frag) (n : Nat) (sp : DIO) : Sp := spL n fun vs H Q => ∃ F a ts vs0 B rest ds P, vs = V.ref a :: rest ∧ Same F H ∧ H a = some (.lst vs0) ∧ RepOs K F H ts vs0 B ∧ (a :: B).Nodup ∧ (∀ b ∈ a :: B, F b = none) ∧ Reps K F ds rest ∧ sp ts ds P ∧
  ∀ ts' F' H' vs' B', P ts' → Same F F' → Same F' H' → (∀ b o, b ∉ a :: B → H b = some o → H' b = some o) → (∀ b o, F b = none → H b = some o → imm o = false → b ∉ a :: B → F' b = none) → H' a = some (.lst vs') → RepOs K F' H' ts' vs' B' → (a :: B').Nodup →
    (∀ b ∈ a :: B', F' b = none ∧ (b ∈ a :: B ∨ H b = none)) → Q .non H'
theorem CalIO.of {P : Program} {w : World} {base : Heap} {x : Str} {st : Stmt} {f : Addr} {fd : FuncData} {N ps : List Str} {k n : Nat} {sp : DIO} (Df : DefAt K mg x st f fd) (S : FnScope N ps (defScope st))
    (hb : ∀ (kV doc pm : Value) (an : Option Addr) (cdv ct : Value) (us : List Value), us.length = ps.length → bindArgs (PySem.W.fnOf x x (defArgs st) (defBody st) (defScope st) .none kV doc pm an cdv ct) ⟨us, []⟩ = pure (ps.zip us)) (hn : n = ps.length)
    (hbody : ∀ (cdv : Value) (A : Around) (outer : List Env) (s : Shared) (H : Hp) (E : XK), Room k (A.deeper (envOfC x (defScope st) s.heap.objs.size f cdv)) →
      ∃ t T, PSs (cxOf CX0 P w K mg base N x (defScope st) f cdv A outer s H E).nox (defBody st) t ∧ SimS K t T ∧ ∀ (a : Addr) ts ds Pr, sp ts ds Pr → T { nx := fun δ => ∃ ts', δ[0]? = some (some (.own (.rt a ts'))) ∧ Pr ts', rt := fun _ => False } (startIO N a ts ds)) : Cal P w K mg base x (k + 1) ps (spIO K n sp) :=
  Cal.of Df S hb (fun vs H Q E h => by rw [← hn]; exact h.1) fun cdv A outer s H vs Q E hr h => by
    obtain ⟨_, F, a, ts, vs0, B, rest, ds, Pr, rfl, hs, ha, hB, hnd, hnf, hr', hsp, hq⟩ := h
    obtain ⟨t, T, h1, h2, h3⟩ := hbody cdv A outer s H E hr
    have hl := hr'.length
    have er : ER K F (fun b => if b ∈ a :: B then none else H b) F H (start N (V.ref a :: rest)) (startIO N a ts ds) (fun j => if j = 0 then a :: B else []) := by
      refine ⟨by simp [start, startIO, hl], ⟨Same.refl _, fun b o z => ?_, hs, fun _ _ z _ _ => z⟩, fun i t hi => ?_, fun i d hi => ?_, fun j => ?_, fun j k b hjk y1 y2 => ?_, fun j b hb => ?_⟩
      · split at z
        · cases z
        · exact z
      · unfold startIO at hi
        cases i with
        | zero =>
          simp at hi
          subst hi
          exact ⟨.ref a, rfl, vs0, B, rfl, rfl, ha, hB⟩
        | succ i =>
          rw [List.getElem?_cons_succ] at hi
          by_cases z : i < ds.length
          · rw [List.getElem?_append_left (by simpa using z), List.getElem?_map, List.getElem?_eq_getElem z] at hi
            simp at hi
            subst hi
            obtain ⟨v, g1, g2⟩ := hr'.get (List.getElem?_eq_getElem z)
            refine ⟨v, ?_, rfl, g2⟩
            unfold start
            rw [List.map_cons, List.cons_append, List.getElem?_cons_succ, List.getElem?_append_left (by simp; lia), List.getElem?_map, g1]
            rfl
          · rw [List.getElem?_append_right (by simpa using z)] at hi
            have := List.mem_of_getElem? hi
            rw [List.mem_replicate] at this
            cases this.2
      · unfold startIO at hi
        cases i with
        | zero => simp at hi
        | succ i =>
          rw [List.getElem?_cons_succ] at hi
          by_cases z : i < ds.length
          · rw [List.getElem?_append_left (by simpa using z), List.getElem?_map] at hi
            simp at hi
          · rw [List.getElem?_append_right (by simpa using z)] at hi
            have := List.mem_of_getElem? hi
            rw [List.mem_replicate] at this
            cases this.2
      · split
        · exact hnd
        · exact List.nodup_nil
      · split at y1
        · split at y2
          · lia
          · cases y2
        · cases y1
      · split at hb
        · refine ⟨hnf b hb, if_pos hb, ?_⟩
          rcases List.mem_cons.mp hb with y | y
          · rw [y]; exact ⟨_, ha, rfl⟩
          · exact hB.isl b y
        · cases hb
    refine ⟨t, h1, h2 F _ F H (start N (V.ref a :: rest)) (startIO N a ts ds) { nx := fun δ => ∃ ts', δ[0]? = some (some (.own (.rt a ts'))) ∧ Pr ts', rt := fun _ => False } _ ⟨_, er⟩ ⟨fun F' H' σ δ e p => ?_, fun _ _ _ _ _ z => z.elim, fun _ _ _ _ _ z => z.elim, fun _ _ _ _ _ _ z => z.elim⟩ (h3 a ts ds Pr hsp)⟩
    obtain ⟨A', e⟩ := e
    obtain ⟨ts', h0, hp⟩ := p
    obtain ⟨v, hv, vs', B', rfl, eA, g1, g2⟩ := e.own 0 _ h0
    have hn' := e.nod 0
    rw [eA] at hn'
    refine hq ts' F' H' vs' B' hp e.ext.ff e.ext.fh (fun b o y z => ?_) (fun b o y1 y2 y3 y4 => ?_) g1 g2 hn' (fun b hb => ?_)
    · exact e.ext.hh b o (by rw [if_neg y]; exact z)
    · exact e.ext.no b o y1 (by rw [if_neg y4]; exact y2) y3
    · obtain ⟨z1, z2, _⟩ := e.new 0 b (by rw [eA]; exact hb)
      refine ⟨z1, ?_⟩
      by_cases q : b ∈ a :: B
      · exact .inl q
      · rw [if_neg q] at z2; exact .inr z2
end
end L2

namespace L2
open PySem PySem.Spec PyProof.Rows
section
variable {K : PySem.W.Frag} {X : Cx}
theorem Reps.pick (h : Reps K F ds vs): ∀ (js : List Nat), Reps K F (js.filterMap (ds[·]?)) (js.filterMap (vs[·]?))
  | [] => rfl
  | j :: js => by
    have ih := Reps.pick h js
    have hl := h.length
    by_cases hj : j < ds.length
    · obtain ⟨v, hv, rv⟩ := h.get (i := j) (d := ds[j]) (by simp)
      have e1 : ds[j]? = some ds[j] := by simp
      rw [List.filterMap_cons_some e1, List.filterMap_cons_some hv]
      exact ⟨v, _, rfl, rv, ih⟩
    · have e1 : ds[j]? = none := by simp; lia
      have e2 : vs[j]? = none := by simp; lia
      rw [List.filterMap_cons_none e1, List.filterMap_cons_none e2]
      exact ih
theorem Reps.step (h : Reps K F ds vs) (c : Int): Reps K F (stepG ds c) (stepG vs c) := by
  unfold stepG
  rw [h.length]
  exact h.pick _
structure DefAtD (K : PySem.W.Frag) (mg : Str → Option Value) (x : Str) (st : Stmt) (f : Addr) (fd : FuncData) (T : Addr) (items : Array Value) : Prop where
  ex : ∃ (oc : Value) (od : Option Addr) (kV doc pm : Value) (an : Option Addr) (cdv ct : Value) (osl : Array (Option Value)),
    fd = PySem.W.fnOf x x (defArgs st) (defBody st) (defScope st) (.ref T) kV doc pm an cdv ct ∧ K.lookup f = some ⟨oc, od, .func fd, osl⟩ ∧ PySem.W.codeIn K cdv x = true
  tup : ∃ o n, K.lookup T = some o ∧ o.data = .seq items n
  kp : PySem.W.keepIn K (.ref f) = true
  here : mg x = some (.ref f)
structure CalD (P : Program) (w : World) (K : PySem.W.Frag) (mg : Str → Option Value) (base : Heap) (x : Str) (k : Nat) (ps : List Str) (sp : Sp) (dvs : List V) : Prop where
  ex : ∃ f fd ds, FnOk P w K mg base CX0 k f fd ps sp ∧ mg x = some (.ref f) ∧ PySem.W.keepIn K (.ref f) = true ∧ Binds K fd ps [] ∧ Binds K fd ps ds ∧ Vals dvs ds
theorem CalVD.of {P : Program} {w : World} {mg : Str → Option Value} {base : Heap} {x : Str} {st : Stmt} {f T : Addr} {items : Array Value} {fd : FuncData} {N ps : List Str} {k n : Nat} {sp : DSp} {ds : List Value} {dvs : List V} (Df : DefAtD K mg x st f fd T items) (S : FnScope N ps (defScope st))
    (hb : ∀ (kV doc pm : Value) (an : Option Addr) (cdv ct : Value) (us : List Value), us.length = ps.length → ∃ k, bindArgs (PySem.W.fnOf x x (defArgs st) (defBody st) (defScope st) (.ref T) kV doc pm an cdv ct) ⟨us, []⟩ = seqItems? (.ref T) >>= k ∧ k (some items) = pure (ps.zip us))
    (hb2 : ∀ (kV doc pm : Value) (an : Option Addr) (cdv ct : Value) (us : List Value), (us ++ ds).length = ps.length → ∃ k, bindArgs (PySem.W.fnOf x x (defArgs st) (defBody st) (defScope st) (.ref T) kV doc pm an cdv ct) ⟨us, []⟩ = seqItems? (.ref T) >>= k ∧ k (some items) = pure (ps.zip (us ++ ds)))
    (hv : Vals dvs ds) (hn : n = ps.length)
    (hbody : ∀ (cdv : Value) (A : Around) (outer : List Env) (s : Shared) (H : Hp) (E : XK), Room k (A.deeper (envOfC x (defScope st) s.heap.objs.size f cdv)) →
      ∃ t T, PSs (cxOf CX0 P w K mg base N x (defScope st) f cdv A outer s H E).nox (defBody st) t ∧ SimS K t T ∧ ∀ ds Pr, sp ds Pr → T { nx := fun _ => Pr (.fz .non), rt := Pr } (startV N ds)) : CalD P w K mg base x (k + 1) ps (spV K n sp) dvs := by
  obtain ⟨oc, od, kV, doc, pm, an, cdv, ct, osl, rfl, lk, hcd⟩ := Df.ex
  obtain ⟨o, m, ht, hs⟩ := Df.tup
  refine ⟨f, _, ds, fn_of lk hcd S (fun vs H Q E h => by rw [← hn]; exact h.1) (fun A outer s H vs Q E hr h => ?_), Df.here, Df.kp, fun s us KX hl => ?_, fun s us KX hl => ?_, hv⟩
  · obtain ⟨_, F, ds', Pr, hs', hr', hsp, hq⟩ := h
    obtain ⟨t, T', h1, h2, h3⟩ := hbody cdv A outer s H E hr
    refine ⟨t, h1.nox, h2 F H F H (start N vs) (startV N ds') { nx := fun _ => Pr (.fz .non), rt := Pr } _ ⟨_, startV_er hs' hr'⟩ ⟨fun F' H' σ δ e p => ?_, fun _ _ _ _ _ z => z.elim, fun _ _ _ _ _ z => z.elim, fun F' H' r v x n p => hq r v F' H' p x n⟩ (h3 ds' Pr hsp)⟩
    exact hq _ _ F' H' p e.ext (.fz rfl)
  · rw [List.append_nil] at hl ⊢
    obtain ⟨k', e1, e2⟩ := hb kV doc pm an cdv ct us hl
    exact PySem.W.binds_K KX rfl ht hs e1 e2
  · obtain ⟨k', e1, e2⟩ := hb2 kV doc pm an cdv ct us hl
    exact PySem.W.binds_K KX rfl ht hs e1 e2
end
end L2

namespace L2
open PySem PySem.Spec PyProof.Rows
def dRngD (As : DA) : DA := fun δ P => As δ fun ds => match ds with
  | [.int i, .int j, .int c] => c = -1 ∧ (-(2 ^ 61) ≤ i ∧ i < 2 ^ 61 ∧ -(2 ^ 61) ≤ j ∧ j < 2 ^ 61) ∧ P (rng i (-1) (i - j).toNat)
  | _ => False
section
variable {X : Cx} {K : PySem.W.Frag} {tg : Expr}
end
end L2

namespace L2
open PySem PySem.Spec PyProof.Rows
def ibN (i : Int) : Nat := if i = 0 then 0 else i.natAbs.log2 + 1
def sAugI2 (i : Nat) (g : Int → Int → Int) (Ek Em E : DE) : DS := fun De δ => match δ[i]? with
  | some (some (.own (.nl ts))) => Ek δ fun k => match k with
    | .int k => ∃ j us, ixN ts.length k = some j ∧ ts[j]? = some (.nl us) ∧ Em δ fun m => match m with
      | .int m => 0 ≤ m ∧ ∃ x, us[m.toNat]? = some (.fz (.int x)) ∧ E δ fun y => match y with
        | .int y => De.nx (δ.set i (some (.own (.nl (ts.set j (.nl (us.set m.toNat (.fz (.int (g x y))))))))))
        | _ => False
      | _ => False
    | _ => False
  | _ => False
section
variable {K : PySem.W.Frag} {X : Cx}
theorem ibN_eq : Builtin.Int.intBits i = ibN i := by
  unfold Builtin.Int.intBits ibN
  by_cases h : i = 0
  · subst h; rfl
  · simp
theorem weight_ints : ∀ (ns : List Int), (∀ m ∈ ns, ibN m ≤ PySem.W.WData.weightAll (ns.map PySem.W.WData.int))
  | [], m, h => by cases h
  | n :: ns, m, h => by
    rw [List.map_cons]
    simp only [PySem.W.WData.weightAll]
    rcases List.mem_cons.mp h with rfl | h
    · have : ibN m = PySem.W.WData.weight (PySem.W.WData.int m) := by
        unfold ibN
        simp only [PySem.W.WData.weight]
        by_cases z : m = 0
        · subst z; rfl
        · simp
      lia
    · have := weight_ints ns m h
      lia
end
end L2
namespace Att
open PySem PySem.W PySem.Calls PyProof.Rows
theorem attach_callB {l : OpenLaw} {n : Nat} {q : Program} {loose : List Str} {XP : (Str → Option Value) → Heap → Prop} {YP : World → Heap → Prop} {d : DefRec}
    (hn : l.most = some n) (hdf : d.params.defaults = [])
    (call : ∀ (w : World) (s₀ s₁ : Shared) (mg mb : Str → Option Value) (fa : Addr) (o : Obj) (pm cd doc : Value) (a : Addr) (vs : List Value) (ns : List Int),
      Ground q loose [] XP w s₀ mg mb s₁.heap → YP w s₁.heap →
      s₁.heap.get? fa = some o → o.data = .func (docDef d.name d.params d.body d.scope pm cd doc) → s₁.heap.CodeRec cd d.name → mg d.name = some (.ref fa) →
      s₁.heap.get? a = some { cls := .type "list", data := .seq vs.toArray } → IntsAre vs ns → ns.length ≤ n → (∀ m ∈ ns, L2.ibN m ≤ 1048576) → s₁.gens = #[] →
      codeAny (model l.prog w) callerA (.call (.ref fa) ⟨[.ref a], []⟩) (fun r s' => r = .ok (.ret (.bool true)) ∧ OldK s₁.heap s'.heap ∧ s'.os = s₁.os ∧ AllBare s'.gens) s₁) :
    WalkO q loose XP YP l.row.toRowW d [] (fun f vs => PySem.call f vs) := by
  intro w s₀ s₁ mg mb G Y fa o pm cd doc dV kV ho hd hcd hD hmg hg args vals as hpre hlay hrd hwl hlo
  obtain rfl : dV = .none := Dflts.none hD hdf
  obtain rfl : kV = .none := Dflts.noKw hD
  obtain ⟨a, vs, ns, rfl, rfl, hobj, hints, hlen⟩ := script_of hn hpre hwl
  have hbits : ∀ m ∈ ns, L2.ibN m ≤ 1048576 := fun m hm => by
    have h1 := L2.weight_ints ns m hm
    have h2 : WData.weight (WData.list (ns.map WData.int)) ≤ 2 ^ 20 := by
      simp only [WData.layableAll, List.all_cons, WData.layable, Bool.and_eq_true, decide_eq_true_eq] at hlay
      exact hlay.1.2
    simp only [WData.weight] at h2
    lia
  refine enter_call (codeAny_mono (call w s₀ s₁ mg mb fa o pm cd doc a vs ns G Y ho (fd_plain hd) hcd hmg hobj hints hlen hbits hg) fun r s' hq => ?_)
  obtain ⟨rfl, h2, h3, h4⟩ := hq
  exact ⟨.inl ⟨.bool true, .bool true, [], rfl, fun _ => rfl, .bool true, post_true l _, fun _ => ⟨List.Pairwise.nil, fun _ hm => (nomatch hm)⟩⟩, h2, h3, h4⟩
end Att
namespace L2
open PySem PySem.Spec PyProof.Rows
end L2

namespace L2
open PySem PySem.Spec PyProof.Rows
def dEnum (As : DA) : DA := fun δ P => As δ fun ds => match ds with
  | [.lst xs] => xs.length ≤ 1000000 ∧ P ((List.range xs.length).map fun (i : Nat) => D.tup [.int i, xs.getD i .non])
  | _ => False
abbrev DMV := List OV → List D → (OV → Prop) → Prop
def dCallM (n : Nat) (sp : DMV) (Eo : DO) (As : DA) : DO := fun δ P => Eo δ fun r => match r with
  | .nl ts => As δ fun ds => ds.length + 1 = n ∧ sp ts ds P
  | _ => False
def startMV (N : List Str) (ts : List OV) (ds : List D) : Dst := some (.own (.nl ts)) :: (ds.map (fun d => some (.own (.fz d))) ++ List.replicate (N.length - (ds.length + 1)) none)
section
variable {X : Cx} {K : PySem.W.Frag} {mg : Str → Option Value}
end
end L2

namespace L2
open PySem PySem.Spec PyProof.Rows
def dBitL (E : DE) : DE := fun δ P => E δ fun d => match d with
  | .int i => P (.int (ibN i))
  | _ => False
section
variable {X : Cx} {K : PySem.W.Frag}
def rBitL : V → List V → Hp → VK → Prop := fun x xs H Q => ∃ i, x = .int i ∧ xs = [] ∧ Q (.int (ibN i)) H
theorem mt_bitL : MtR X "int.bit_length" rBitL := by
  intro pins s σ H x vs v us Q I rx rv h
  obtain ⟨i, rfl, rfl, q⟩ := h
  obtain ⟨t, rfl⟩ := rx
  cases rv
  refine call_int_bit_length ?_
  rw [ibN_eq]
  exact ⟨.int _, H, I.tok _, ⟨_, rfl⟩, q⟩
theorem sF_bitL (h : SimB K to E): SimF K (tBM0 K "int" rBitL to) (dBitL E) := fun F0 H0 F H σ δ P Q e w q => h F0 H0 F H σ δ _ _ e w fun d v F1 H1 w1 x1 r1 => by
  split at w1
  · have e1 : v = _ := r1
    subst e1
    exact ⟨rfl, _, rfl, rfl, q _ _ F1 H1 w1 x1 rfl⟩
  · exact w1.elim
end
end L2

namespace L2
open PySem PySem.Spec PyProof.Rows
def fixS (v : V) : Option Sl → Option Sl
  | some (.own t) => some (.own (.fx v t.val))
  | s => s
def fixFrom (vs : Nat → V) : Nat → Dst → Dst
  | _, [] => []
  | i, s :: r => fixS (vs i) s :: fixFrom vs (i + 1) r
def unlS (v : V) : Option Sl → Option Sl → Option Sl
  | some (.own t), some (.own (.fx u _)) => if u = v then some (.own t) else none
  | _, some (.own (.fz d)) => if d.lf = true then some (.own (.fz d)) else none
  | _, _ => none
def unlFrom (vs : Nat → V) : Nat → Dst → Dst → Dst
  | i, o :: os, n :: ns => unlS (vs i) o n :: unlFrom vs (i + 1) os ns
  | _, _, _ => []
def sLend (T : DS) : DS := fun De δ => ∀ vs : Nat → V, T { nx := fun δ' => δ'.length = δ.length ∧ De.nx (unlFrom vs 0 δ δ'), rt := fun r => r.lf = true ∧ De.rt r } (fixFrom vs 0 δ)
section
variable {K : PySem.W.Frag} {mg : Str → Option Value}
def spMV (K : PySem.W.Frag) (n : Nat) (sp : DMV) : Sp := spL n fun vs H Q => ∃ F a ts vs0 B rest ds P, vs = V.ref a :: rest ∧ Same F H ∧ H a = some (.lst vs0) ∧ RepOs K F H ts vs0 B ∧ (a :: B).Nodup ∧ (∀ b ∈ a :: B, F b = none) ∧ Reps K F ds rest ∧ sp ts ds P ∧
  ∀ r v F' H', P r → Ext F (fun b => if b ∈ a :: B then none else H b) F' H' → RepN K (fun b => if b ∈ a :: B then none else H b) F' H' r v → Q v H'
theorem CalMV.of {P : Program} {w : World} {base : Heap} {x : Str} {st : Stmt} {f : Addr} {fd : FuncData} {N ps : List Str} {k n : Nat} {sp : DMV} (Df : DefAt K mg x st f fd) (S : FnScope N ps (defScope st))
    (hb : ∀ (kV doc pm : Value) (an : Option Addr) (cdv ct : Value) (us : List Value), us.length = ps.length → bindArgs (PySem.W.fnOf x x (defArgs st) (defBody st) (defScope st) .none kV doc pm an cdv ct) ⟨us, []⟩ = pure (ps.zip us)) (hn : n = ps.length)
    (hbody : ∀ (cdv : Value) (A : Around) (outer : List Env) (s : Shared) (H : Hp) (E : XK), Room k (A.deeper (envOfC x (defScope st) s.heap.objs.size f cdv)) →
      ∃ t T, PSs (cxOf CX0 P w K mg base N x (defScope st) f cdv A outer s H E).nox (defBody st) t ∧ SimS K t T ∧ ∀ ts ds Pr, sp ts ds Pr → T { nx := fun _ => Pr (.fz .non), rt := Pr } (startMV N ts ds)) : Cal P w K mg base x (k + 1) ps (spMV K n sp) :=
  Cal.of Df S hb (fun vs H Q E h => by rw [← hn]; exact h.1) fun cdv A outer s H vs Q E hr h => by
    obtain ⟨_, F, a, ts, vs0, B, rest, ds, Pr, rfl, hs, ha, hB, hnd, hnf, hr', hsp, hq⟩ := h
    obtain ⟨t, T, h1, h2, h3⟩ := hbody cdv A outer s H E hr
    have hl := hr'.length
    have er : ER K F (fun b => if b ∈ a :: B then none else H b) F H (start N (V.ref a :: rest)) (startMV N ts ds) (fun j => if j = 0 then a :: B else []) := by
      refine ⟨by simp [start, startMV, hl], ⟨Same.refl _, fun b o z => ?_, hs, fun _ _ z _ _ => z⟩, fun i t hi => ?_, fun i d hi => ?_, fun j => ?_, fun j k b hjk y1 y2 => ?_, fun j b hb => ?_⟩
      · split at z
        · cases z
        · exact z
      · unfold startMV at hi
        cases i with
        | zero =>
          simp at hi
          subst hi
          exact ⟨.ref a, rfl, a, vs0, B, rfl, rfl, ha, hB⟩
        | succ i =>
          rw [List.getElem?_cons_succ] at hi
          by_cases z : i < ds.length
          · rw [List.getElem?_append_left (by simpa using z), List.getElem?_map, List.getElem?_eq_getElem z] at hi
            simp at hi
            subst hi
            obtain ⟨v, g1, g2⟩ := hr'.get (List.getElem?_eq_getElem z)
            refine ⟨v, ?_, rfl, g2⟩
            unfold start
            rw [List.map_cons, List.cons_append, List.getElem?_cons_succ, List.getElem?_append_left (by simp; lia), List.getElem?_map, g1]
            rfl
          · rw [List.getElem?_append_right (by simpa using z)] at hi
            have := List.mem_of_getElem? hi
            rw [List.mem_replicate] at this
            cases this.2
      · unfold startMV at hi
        cases i with
        | zero => simp at hi
        | succ i =>
          rw [List.getElem?_cons_succ] at hi
          by_cases z : i < ds.length
          · rw [List.getElem?_append_left (by simpa using z), List.getElem?_map] at hi
            simp at hi
          · rw [List.getElem?_append_right (by simpa using z)] at hi
            have := List.mem_of_getElem? hi
            rw [List.mem_replicate] at this
            cases this.2
      · split
        · exact hnd
        · exact List.nodup_nil
      · split at y1
        · split at y2
          · lia
          · cases y2
        · cases y1
      · split at hb
        · refine ⟨hnf b hb, if_pos hb, ?_⟩
          rcases List.mem_cons.mp hb with y | y
          · rw [y]; exact ⟨_, ha, rfl⟩
          · exact hB.isl b y
        · cases hb
    refine ⟨t, h1, h2 F _ F H (start N (V.ref a :: rest)) (startMV N ts ds) { nx := fun _ => Pr (.fz .non), rt := Pr } _ ⟨_, er⟩ ⟨fun F' H' σ δ e p => ?_, fun _ _ _ _ _ z => z.elim, fun _ _ _ _ _ z => z.elim, fun F' H' r v x n p => hq r v F' H' p x n⟩ (h3 ts ds Pr hsp)⟩
    exact hq _ _ F' H' p e.ext (.fz rfl)
end
end L2

namespace L2
open PySem PySem.Spec PyProof.Rows
def dListR (As : DA) : DO := fun δ P => As δ fun ds => match ds with
  | [.int i, .int j, .int c] => (-(2 ^ 61) ≤ i ∧ i < 2 ^ 61 ∧ -(2 ^ 61) ≤ j ∧ j < 2 ^ 61 ∧ 0 < c ∧ c < 2 ^ 29) ∧ rngN i j c ≤ 1000000 ∧ P (.nl ((List.range (rngN i j c)).map fun (k : Nat) => OV.fz (.int (i + k * c))))
  | _ => False
section
variable {X : Cx} {K : PySem.W.Frag}
end
end L2

namespace L2
open PySem PySem.Spec PyProof.Rows
def sApp2N (i : Nat) (Ei : DE) (E : DO) : DS := fun De δ => match δ[i]? with
  | some (some (.own (.nl ts))) => Ei δ fun k => match k with
    | .int k => ∃ j us, ixN ts.length k = some j ∧ ts[j]? = some (.nl us) ∧ us.length < 1000000 ∧ E δ fun r => De.nx (δ.set i (some (.own (.nl (ts.set j (.nl (us ++ [r])))))))
    | _ => False
  | _ => False
section
variable {X : Cx} {K : PySem.W.Frag}
end
end L2

namespace L2
open PySem PySem.Spec PyProof.Rows
def dZip (As : DA) : DA := fun δ P => As δ fun ds => match ds with
  | [.lst xs, .lst ys] => P ((xs.zip ys).map fun p => D.tup [p.1, p.2])
  | _ => False
section
variable {X : Cx} {K : PySem.W.Frag} {mg : Str → Option Value}
structure Zip5 (z TI TO i1 i2 : Addr) : Prop where
  TIz : TI ≠ z
  TOz : TO ≠ z
  i1z : i1 ≠ z
  i2z : i2 ≠ z
  TITO : TI ≠ TO
  TIi1 : TI ≠ i1
  TIi2 : TI ≠ i2
  TOi1 : TO ≠ i1
  TOi2 : TO ≠ i2
  i12 : i1 ≠ i2
end
end L2

namespace L2
open PySem PySem.Spec PyProof.Rows
def dRep1 (Eo : DO) (Eb : DE) : DO := fun δ P => Eo δ fun r => match r with
  | .nl [.fz d] => Eb δ fun y => match y with
    | .int k => (0 ≤ k ∧ k ≤ 1000000) ∧ P (.nl (List.replicate k.toNat (.fz d)))
    | _ => False
  | _ => False
section
variable {X : Cx} {K : PySem.W.Frag} {mg : Str → Option Value}
theorem Reps.rep (h : Rep K F d v): ∀ n : Nat, Reps K F (List.replicate n d) (List.replicate n v)
  | 0 => rfl
  | n + 1 => ⟨v, List.replicate n v, rfl, h, Reps.rep h n⟩
end
end L2

namespace L2
open PySem PySem.Spec PyProof.Rows
def dRevR (As : DA) : DA := fun δ P => As δ fun ds => match ds with
  | [.int n] => (0 ≤ n ∧ n < 2 ^ 61) ∧ P (rng (n - 1) (-1) n.toNat)
  | _ => False
section
variable {prog : Program} {w : World} {A : Around} {E : Value → Shared → Prop} {s : Shared}
end
section
variable {X : Cx} {K : PySem.W.Frag} {tg : Expr}
end
end L2

namespace L2
open PySem PySem.Spec PyProof.Rows
def divmodD : List D → (D → Prop) → Prop := fun ds P => match ds with
  | [.int i, .int j] => CDiv i j ∧ P (.tup [.int (i / j), .int (i % j)])
  | _ => False
def dIxO (i : Nat) (Eb : DE) : DE := fun δ P => match δ[i]? with
  | some (some (.own (.nl ts))) => Eb δ fun y => match y with
    | .int k => ∃ d, atI ts k = some (.fz d) ∧ P d
    | _ => False
  | _ => False
section
variable {X : Cx} {K : PySem.W.Frag}
theorem BlkScope.nofree {outer sc : Scope} (h1 : sc.kind = .function) (h2 : ∀ y ∈ sc.names, y.2 ≠ .cell) (h3 : ∀ y ∈ sc.names, y.2 ≠ .free) (h4 : ∀ y ∈ sc.names, y.2 = .local → sc.names.lookup y.1 = some .local) : BlkScope outer sc :=
  ⟨h1, h2, fun y hy e => absurd e (h3 y hy), h4⟩
end
end L2

namespace L2
open PySem PySem.Spec PyProof.Rows
section
variable {prog : Program} {w : World} {A : Around} {E : Value → Shared → Prop} {s : Shared}
end
def dSlT (Ea : DE) (L U : DPt) : DE := fun δ P => Ea δ fun x => L δ fun lo => U δ fun hi => match x with
  | .tup xs => P (.tup (cutD xs lo hi))
  | _ => False
def dSlB (Ea : DE) (L U : DPt) : DE := fun δ P => Ea δ fun x => L δ fun lo => U δ fun hi => match x with
  | .lst xs => P (.lst (cutD xs lo hi))
  | _ => False
def sumD : List D → (D → Prop) → Prop := fun ds P => match ds with
  | [.lst xs] => ∃ ns : List Int, xs = ns.map D.int ∧ P (.int ns.sum)
  | _ => False
abbrev DAM := Dst → (List OV → Dst → Prop) → Prop
def dMNil : DAM := fun δ P => P [] δ
def dMCons (E : DO) (As : DAM) : DAM := fun δ P => E δ fun r => As δ fun rs δ' => P (r :: rs) δ'
def dMMv (i : Nat) (As : DAM) : DAM := fun δ P => match δ[i]? with
  | some (some (.own (.nl _))) => As δ fun rs δ' => match δ'[i]? with
    | some (some (.own (.nl ts))) => P (.nl ts :: rs) (δ'.set i none)
    | _ => False
  | _ => False
def noBw : Dst → Dst := List.map fun s => match s with
  | some (.bw _) => none
  | s => s
def forMR (x : Nat) (T : DS) (De : DEnds) : List OV → Dst → Prop
  | [], δ => De.nx δ
  | r :: rs, δ => T { nx := fun δ' => forMR x T De rs (noBw δ'), ct := fun δ' => forMR x T De rs (noBw δ'), rt := De.rt } (δ.set x (some (.own r)))
def sForM (x : Nat) (As : DAM) (T : DS) : DS := fun De δ => As δ fun rs δ' => rs.length ≤ 1000000 ∧ forMR x T De rs (noBw δ')
def sIfMv (i : Nat) (sp : DMV) (T U : DS) : DS := fun De δ => match δ[i]? with
  | some (some (.own (.nl ts))) => sp ts [] fun r => match r with
    | .fz (.bl b) => if (!b) = true then T De (δ.set i none) else U De (δ.set i none)
    | _ => False
  | _ => False
section
variable {X : Cx} {K : PySem.W.Frag} {mg : Str → Option Value}
theorem noBw_get {δ : Dst} {i : Nat} {s : Sl} (h : (noBw δ)[i]? = some (some s)) : δ[i]? = some (some s) ∧ ∃ t, s = .own t := by
  unfold noBw at h
  rw [List.getElem?_map] at h
  cases q : δ[i]? with
  | none => rw [q] at h; cases h
  | some o =>
    rw [q] at h
    cases o with
    | none => cases h
    | some s' =>
      cases s' with
      | bw d => cases h
      | own t => cases h; exact ⟨rfl, t, rfl⟩
theorem ER.noBw {F0 H0 H0' F H : Hp} {σ : St} {δ : Dst} {A : Nat → List Addr} (e : ER K F0 H0' F H σ δ A) (s : Same H0 H0') : ER K F0 H0 F H σ (L2.noBw δ) A := by
  refine ⟨by rw [e.len]; simp [L2.noBw], ⟨e.ext.ff, s.trans e.ext.hh, e.ext.fh, fun a o z1 z2 z3 => e.ext.no a o z1 (s _ _ z2) z3⟩, fun i t hi => e.own i t (noBw_get hi).1, fun i d hi => ?_, e.nod, e.dis, fun i a ha => ⟨(e.new i a ha).1, s.free (e.new i a ha).2.1, (e.new i a ha).2.2⟩⟩
  obtain ⟨_, t, z⟩ := noBw_get hi
  cases z
end
end L2

namespace L2
open PySem PySem.Spec PyProof.Rows
def dTupB (As : DA) : DE := fun δ P => As δ fun ds => match ds with
  | [.lst xs] => D.lfs xs = true ∧ P (.tup xs)
  | _ => False
def dCatB (Ea Eb : DE) : DO := fun δ P => Ea δ fun x => Eb δ fun y => match x, y with
  | .lst xs, .lst ys => D.lfs xs = true ∧ D.lfs ys = true ∧ xs.length + ys.length ≤ 1000000 ∧ P (.nl ((xs ++ ys).map .fz))
  | _, _ => False
def sAppMv (i j : Nat) : DS := fun De δ => match δ[i]?, δ[j]? with
  | some (some (.own (.nl ts))), some (some (.own (.nl us))) => i ≠ j ∧ ts.length < 1000000 ∧ De.nx ((δ.set j none).set i (some (.own (.nl (ts ++ [.nl us])))))
  | _, _ => False
def sSetMv (k i n m : Nat) (sp : DMV) (As : DA) (spg : DSp) : DS := fun De δ => match δ[i]? with
  | some (some (.own (.nl ts))) => As δ fun ds => ds.length + 1 = n ∧ sp ts ds fun r => 1 = m ∧ spg [r.val] fun r' => De.nx ((δ.set i none).set k (some (.own r')))
  | _ => False
section
variable {X : Cx} {K : PySem.W.Frag} {mg : Str → Option Value}
theorem ER.drop {F0 H0 F H : Hp} {σ : St} {δ : Dst} {A : Nat → List Addr} (e : ER K F0 H0 F H σ δ A) (i : Nat) : ER K F0 H0 F H σ (δ.set i none) (fun j => if j = i then [] else A j) := by
  have off : ∀ (j : Nat) (s : Sl), (δ.set i none)[j]? = some (some s) → j ≠ i ∧ δ[j]? = some (some s) := fun j s hj => by
    by_cases z : j = i
    · subst z
      have hi : j < δ.length := by
        have := (List.getElem?_eq_some_iff.mp hj).1
        rwa [List.length_set] at this
      rw [List.getElem?_set_self hi] at hj
      cases hj
    · rw [List.getElem?_set_ne (Ne.symm z)] at hj
      exact ⟨z, hj⟩
  refine ⟨by simp [e.len], e.ext, fun j t hj => ?_, fun j d hj => e.bw j d (off j _ hj).2, fun j => ?_, fun j k a hjk h1 h2 => ?_, fun j a ha => ?_⟩
  · obtain ⟨z, hj⟩ := off j _ hj
    rw [if_neg z]
    exact e.own j t hj
  · split
    · exact List.nodup_nil
    · exact e.nod j
  · split at h1
    · cases h1
    · split at h2
      · cases h2
      · exact e.dis j k a hjk h1 h2
  · split at ha
    · cases ha
    · exact e.new j a ha
def TupC (K : PySem.W.Frag) (mg : Str → Option Value) (x : Str) (d : D) : Prop := ∃ a, mg x = some (.ref a) ∧ ∀ F, Rep K F d (.ref a)
end
end L2

namespace L2
open PySem PySem.Spec PyProof.Rows PyProof.V PySem.W
section
variable {P : Program} {w : World} {H : Hp} {h : Heap} {a : Addr} {o : HO}
theorem ObjOk.at : ∀ {o : HO}, ObjOk P w H h a o → ∃ u, h.get? a = some u
  | .lst _, x => by obtain ⟨_, _, _, _, e⟩ := x; exact ⟨_, e⟩
  | .tup _, x => by obtain ⟨_, _, _, ob, e, _⟩ := x; exact ⟨_, e⟩
  | .dK _, x => by obtain ⟨_, _, _, _, o, _, _, e, _⟩ := x; exact ⟨_, e⟩
  | .dT _, x => by obtain ⟨_, _, _, _, o, _, _, e, _⟩ := x; exact ⟨_, e⟩
  | .set _ _, x => by obtain ⟨o, _, _, _, e, _⟩ := x; exact ⟨_, e⟩
  | .ins _ _ _, x => by obtain ⟨_, _, _, e, _⟩ := x; exact ⟨_, e⟩
  | .own _, x => x
  | .xd _, x => by obtain ⟨_, ⟨od, _, _, e, _⟩, _⟩ := x; exact ⟨_, e⟩
  | .rng _ _, x => by obtain ⟨_, _, _, e⟩ := x; exact ⟨_, e⟩
  | .frz _ _, x => ⟨_, x.1⟩
  | .tbl _, x => ⟨_, x⟩
  | .cod _ _, x => by obtain ⟨_, e, _⟩ := x; exact ⟨_, e⟩
  | .met _ _, x => ⟨_, x⟩
  | .ext _, x => x.2.1
end
def CXE (P : Program) (w : World) : CXT := fun outer H s E e s' => ∃ (a C : Addr) (a0 : Value) (B : Heap) (H' : Hp), e = .ref a ∧ E (.ref C) none H' ∧ Heap.FlyingW B outer a (.ref C) a0 s'.heap ∧
  (∀ b o, s'.heap.get? b = some o → b ∉ frs outer → ((∃ o0, s.heap.get? b = some o0) ∨ ∃ u, H' b = some u) → B.get? b = some o) ∧ Un (frs outer) [] H H' s.heap s'.heap ∧ HOk P w H' s'.heap ∧ AllBare s'.gens ∧ s'.os = s.os ∧ H' a = none
section
variable {P : Program} {w : World} {K : PySem.W.Frag} {mg : Str → Option Value} {base : Heap} {N : List Str} {qual : Str} {scope : Scope} {f : Addr} {cd : Value} {A : Around} {outer : List Env} {s : Shared} {H : Hp} {E : XK}
end
section
variable {X : Cx} {pins : List (Addr × Obj)} {σ : St} {H : Hp} {s : Shared}
theorem Inv.goes {m : Str → Option Value} (I : Inv X pins σ H s) (hN : X.N.Nodup) (hi : X.N[i]? = some n) (hl : ∀ (j : Nat) (x : Str) (w : V), X.N[j]? = some x → σ[j]? = some (some w) → Vis X.env.scope x → ∃ u, RelV w u ∧ Look X.env s.heap m x u)
    (hn : h'.Ns X.env.locals (fun x => if x = n then v else m x)) (hs : Heap.SameBut X.env.locals s.heap h'): Inv X pins (σ.set i none) H { s with heap := h', toks := tk } := by
  have cne := I.cne
  have lt : ∀ {b o}, X.s₀.heap.get? b = some o → b ≠ X.env.locals := fun {b o} e => Nat.ne_of_lt (Nat.lt_of_lt_of_le (Heap.lt_size e) I.ok.above)
  refine ⟨I.ok, I.os, I.bare, ⟨fun b o e n hb hx => ?_, fun b o e n hb hx => ?_, I.base.free, fun b o e hx => ?_, I.base.tups, I.base.frzs, I.base.tbls⟩, ⟨_, hn, fun j y v' e1 e2 e3 => ?_⟩, fun y c e => ?_, I.free, I.freeC, fun p hp => ?_, fun b ob e => ?_, by simpa using I.len⟩
  · exact (hs.2 b (lt e)).trans (I.base.keep b o e n hb hx)
  · obtain ⟨sl, e1⟩ := I.base.slot b o e n hb hx
    exact ⟨sl, (hs.2 b (lt e)).trans e1⟩
  · obtain ⟨o', e1⟩ := I.base.there b o e hx
    exact ⟨o', (hs.2 b (lt e)).trans e1⟩
  · by_cases hj : j = i
    · subst hj
      have hjl : j < σ.length := by rw [I.len]; exact (List.getElem?_eq_some_iff.mp hi).1
      rw [List.getElem?_set_self hjl] at e2
      cases e2
    · rw [List.getElem?_set_ne (Ne.symm hj)] at e2
      obtain ⟨u', r', q⟩ := hl j y v' e1 e2 e3
      refine ⟨u', r', ?_⟩
      rcases q with ⟨k, e⟩ | ⟨k, c, e, z⟩
      · refine .inl ⟨k, ?_⟩
        have : y ≠ n := fun e => hj (nodup_ix hN e1 (e ▸ hi))
        simp [this, e]
      · exact .inr ⟨k, c, e, z.sameBut hs (cne y c e)⟩
  · obtain ⟨w', z⟩ := I.cell y c e
    exact ⟨w', z.sameBut hs (cne y c e)⟩
  · obtain ⟨e, n, ne, nf, d⟩ := I.pin p hp
    exact ⟨(hs.2 p.1 ne).trans e, n, ne, nf, d⟩
  · refine (I.hok b ob e).stay (fun c w' hc q => (hs.2 c ?_).trans q) (fun _ q => q) fun _ _ q _ => q
    rintro rfl
    have hf := I.free
    rcases hc with rfl | hc
    · rw [hf] at e; cases e
    · rw [hf] at hc; cases hc
theorem Inv.caught {H' : Hp} {s' : Shared} {B : Heap} {a C : Addr} {a0 : Value} {h6 : Heap} (I : Inv X pins σ H s) (fl : Heap.FlyingW B X.stack a (.ref C) a0 s'.heap)
    (agree : ∀ b o, s'.heap.get? b = some o → b ∉ frs X.stack → ((∃ o0, s.heap.get? b = some o0) ∨ ∃ u, H' b = some u) → B.get? b = some o) (un : Un (frs X.stack) [] H H' s.heap s'.heap) (hok : HOk X.prog X.w H' s'.heap) (bare : AllBare s'.gens) (hos : s'.os = s.os) (hna : H' a = none)
    (fl6 : Heap.FlyingW B X.stack a (.ref C) a0 h6) (sm : s'.heap.UpToSlots h6) : Inv X pins σ (upd H' a (.ext (clsφ a (.ref C)))) { s' with heap := h6 } := by
  have hfree : ∀ b ∈ frs X.stack, H' b = none := fun b hb => by
    obtain ⟨_, o, ho, _⟩ := I.stack.mem hb
    exact un.free b o ho (I.stkFree b hb) (by simp)
  have nonf : ∀ b ∈ frs X.stack, ∀ o, s'.heap.get? b = some o → ∀ vs, o.data ≠ .fields vs := fun b hb o q => by
    obtain ⟨_, o', ho', hd⟩ := fl.2.2.1.mem hb
    rw [q] at ho'; cases ho'; exact hd
  have keepB : ∀ b o, s'.heap.get? b = some o → b ∉ frs X.stack → ((∃ o0, s.heap.get? b = some o0) ∨ ∃ u, H' b = some u) → h6.get? b = some o := fun b o q hb hc => fl6.1 b o (agree b o q hb hc)
  obtain ⟨oe, ws, hoe, hoec, hoed, _⟩ := fl6.first
  have hsa : s.heap.get? a = none := by
    cases q : s.heap.get? a with
    | none => rfl
    | some o0 =>
      obtain ⟨o', q'⟩ := un.there a o0 q (by simp)
      by_cases hb : a ∈ frs X.stack
      · obtain ⟨oe', ws', he', _, hd', _⟩ := fl.first
        exact absurd hd' (nonf a hb oe' he' ws')
      · have := agree a o' q' hb (.inl ⟨o0, q⟩)
        rw [fl.2.1] at this; cases this
  have ha : ∀ b u, H' b = some u → b ≠ a := fun b u e z => by rw [z, hna] at e; cases e
  refine I.call' (ch := []) hos ⟨fun b o q n hb hx => ?_, fun b o q n hb hx => ?_, fun b o q n hx => ?_, fun b o q hx => ?_, fun b xs e => ?_, fun b o u e => ?_, fun b ps e => ?_⟩ (fun b u e => ?_) bare (fun b z => absurd z (by simp))
  · exact keepB b o (un.keep b o q n hb hx) hb (.inl ⟨o, q⟩)
  · obtain ⟨sl, q1⟩ := un.slot b o q n hb hx
    obtain ⟨sl2, q2⟩ := sm b _ q1 (nonf b hb _ q1)
    exact ⟨sl2, q2⟩
  · rw [upd_ne fun z => by rw [z, hsa] at q; cases q]
    exact un.free b o q n hx
  · obtain ⟨o', q1⟩ := un.there b o q hx
    by_cases hb : b ∈ frs X.stack
    · obtain ⟨sl2, q2⟩ := sm b _ q1 (nonf b hb _ q1)
      exact ⟨_, q2⟩
    · exact ⟨_, keepB b o' q1 hb (.inl ⟨o, q⟩)⟩
  · have := un.tups b xs e
    rw [upd_ne (ha b _ this)]; exact this
  · have := un.frzs b o u e
    rw [upd_ne (ha b _ this)]; exact this
  · obtain ⟨more, this⟩ := un.tbls b ps e
    exact ⟨more, by rw [upd_ne (ha b _ this)]; exact this⟩
  · by_cases hb : b = a
    · subst hb
      rw [upd_same] at e
      cases e
      exact ⟨⟨oe, hoe, hoec⟩, ⟨oe, hoe⟩, fun h1 h2 ⟨o, e1, e2⟩ k => ⟨o, k o e1, e2⟩⟩
    · rw [upd_ne hb] at e
      refine (hok b u e).stay (fun c v hc q => ?_) (fun c q => by rw [upd_ne (ha c _ q)]; exact q) fun c xs q _ => by rw [upd_ne (ha c _ q)]; exact q
      have hcu : ∃ u, H' c = some u := by
        rcases hc with rfl | hc
        · exact ⟨_, e⟩
        · exact ⟨_, hc⟩
      exact keepB c v q (fun z => by obtain ⟨u, hu⟩ := hcu; rw [hfree c z] at hu; cases hu) (.inr hcu)
end
structure CalX (P : Program) (w : World) (K : PySem.W.Frag) (mg : Str → Option Value) (base : Heap) (x : Str) (k : Nat) (ps : List Str) (sp : Sp) : Prop where
  ex : ∃ f fd, FnOk P w K mg base (CXE P w) k f fd ps sp ∧ mg x = some (.ref f) ∧ PySem.W.keepIn K (.ref f) = true ∧ Binds K fd ps []
section
variable {X : Cx}
end
end L2

namespace L2
open PySem PySem.Spec PyProof.Rows
abbrev DMo := List OV → List D → (List OV → Prop) → Prop
def dFld (c : Str) (ns : List Str) (j : Nat) (E : DE) : DE := fun δ P => E δ fun d => match d with
  | .obj c' ns' ds => c' = c ∧ ns' = ns ∧ ∃ x, ds[j]? = some x ∧ P x
  | _ => False
def sFSet (c : Str) (ns : List Str) (i j : Nat) (Eo : DO) : DS := fun De δ => match δ[i]? with
  | some (some (.own (.ob o c' ns' ts))) => c' = c ∧ ns' = ns ∧ j < ts.length ∧ Eo δ fun r => De.nx (δ.set i (some (.own (.ob o c ns (ts.set j r)))))
  | _ => False
def sFNew (c : Str) (ns : List Str) (i j : Nat) (Eo : DO) : DS := fun De δ => match δ[i]? with
  | some (some (.own (.ob o c' ns' ts))) => c' = c ∧ ns' = ns ∧ j = ts.length ∧ Eo δ fun r => De.nx (δ.set i (some (.own (.ob o c ns (ts ++ [r])))))
  | _ => False
def sFAug (c : Str) (ns : List Str) (i j : Nat) (g : Int → Int → Int) (E : DE) : DS := fun De δ => match δ[i]? with
  | some (some (.own (.ob o c' ns' ts))) => c' = c ∧ ns' = ns ∧ match ts[j]? with
    | some (.fz (.int x)) => E δ fun d => match d with
      | .int y => De.nx (δ.set i (some (.own (.ob o c ns (ts.set j (.fz (.int (g x y))))))))
      | _ => False
    | _ => False
  | _ => False
def sFApp (c : Str) (ns : List Str) (i j : Nat) (Eo : DO) : DS := fun De δ => match δ[i]? with
  | some (some (.own (.ob o c' ns' ts))) => c' = c ∧ ns' = ns ∧ match ts[j]? with
    | some (.nl us) => us.length < 1000000 ∧ Eo δ fun r => De.nx (δ.set i (some (.own (.ob o c ns (ts.set j (.nl (us ++ [r])))))))
    | _ => False
  | _ => False
def sMeth (c : Str) (ns : List Str) (i n : Nat) (sp : DMo) (As : DA) : DS := fun De δ => match δ[i]? with
  | some (some (.own (.ob o c' ns' ts))) => c' = c ∧ ns' = ns ∧ As δ fun ds => ds.length + 1 = n ∧ sp ts ds fun ts' => De.nx (δ.set i (some (.own (.ob o c ns ts'))))
  | _ => False
def dMethP (c : Str) (ns : List Str) (n : Nat) (sp : DSp) (E : DE) (As : DA) : DO := fun δ P => E δ fun d => match d with
  | .obj c' ns' fs => c' = c ∧ ns' = ns ∧ As δ fun ds => ds.length + 1 = n ∧ sp (.obj c ns fs :: ds) fun r => r.lf = true ∧ P r
  | _ => False
def dMake (c : Str) (ns : List Str) (n : Nat) (sp : DMo) (As : DA) : DO := fun δ P => As δ fun ds => ds.length + 1 = n ∧ sp [] ds fun ts => P (.ob none c ns ts)
def startM (N : List Str) (c : Str) (ns : List Str) (a : Addr) (ts : List OV) (ds : List D) : Dst := some (.own (.ob (some a) c ns ts)) :: (ds.map (fun d => some (.own (.fz d))) ++ List.replicate (N.length - (ds.length + 1)) none)
section
end
structure ClsV (K : PySem.W.Frag) (c : Str) (ns : List Str) : Prop where
  ex : ∃ C, PySem.W.nsIn K mainGlobals c = some (some (.ref C)) ∧ Cls K C ∧ (∀ f ∈ ns, NoAttr K C f)
  nd : ns.Nodup
  few : ns.length < 1000
structure MetAt (K : PySem.W.Frag) (c m q : Str) (st : Stmt) (f : Addr) (fd : FuncData) : Prop where
  fn : Fun K m q st f fd
  cl : ∃ C, PySem.W.nsIn K mainGlobals c = some (some (.ref C)) ∧ Cls K C ∧ Meth K C m f
structure CalM (P : Program) (w : World) (K : PySem.W.Frag) (mg : Str → Option Value) (base : Heap) (c m : Str) (k : Nat) (ps : List Str) (sp : Sp) : Prop where
  ex : ∃ C f fd, PySem.W.nsIn K mainGlobals c = some (some (.ref C)) ∧ Cls K C ∧ Meth K C m f ∧ FnOk P w K mg base CX0 k f fd ps sp ∧ Binds K fd ps []
structure MakAt (K : PySem.W.Frag) (mg : Str → Option Value) (c : Str) (f : Addr) : Prop where
  cl : ∃ C, PySem.W.nsIn K mainGlobals c = some (some (.ref C)) ∧ Mk K C f ∧ mg c = some (.ref C)
structure CalK (P : Program) (w : World) (K : PySem.W.Frag) (mg : Str → Option Value) (base : Heap) (c : Str) (k : Nat) (ps : List Str) (sp : Sp) : Prop where
  ex : ∃ C f fd, PySem.W.nsIn K mainGlobals c = some (some (.ref C)) ∧ Mk K C f ∧ mg c = some (.ref C) ∧ FnOk P w K mg base CX0 k f fd ps sp ∧ Binds K fd ps []
section
variable {X : Cx} {c m : Str} {k : Nat} {ps : List Str} {sp : Sp} {o e : Expr} {es : List Expr} {ta : TE} {t : TA} {p pos apos : Pos}
end
section
variable {K : PySem.W.Frag} {c f m : Str} {ns : List Str} {i j : Nat} {ta te : TE} {E : DE} {Eo : DO}
theorem ER.obj {A : Nat → List Addr} (e : ER K F0 H0 F H σ δ A) (hv : σ[i]? = some (some (.ref a))) (eA : A i = a :: dx :: B)
    (h0 : PySem.W.nsIn K mainGlobals c = some (some (.ref C))) (ho : ∀ a', o = some a' → a = a') (h1 : H' a = some (.ins C dx (ns.zip vs'))) (h2 : H' dx = some (.own a)) (hl : ts'.length ≤ ns.length) (h3 : RepOs K F H' ts' vs' B') (nd : B'.Nodup)
    (hB : ∀ b ∈ B', b ∈ B ∨ (F b = none ∧ H0 b = none ∧ ∀ j, b ∉ A j)) (keep : ∀ b o, b ∉ A i → H b = some o → H' b = some o): EnvR K F0 H0 F H' σ (δ.set i (some (.own (.ob o c ns ts')))) := by
  have hnd := e.nod i
  rw [eA] at hnd
  obtain ⟨n1, n2⟩ := List.nodup_cons.mp hnd
  obtain ⟨n3, n4⟩ := List.nodup_cons.mp n2
  have inA : ∀ b, b ∈ a :: dx :: B' → b ∈ A i ∨ (F b = none ∧ H0 b = none ∧ ∀ j, b ∉ A j) := fun b hb => by
    rw [eA]
    rcases List.mem_cons.mp hb with z | z
    · exact .inl (by simp [z])
    · rcases List.mem_cons.mp z with z | z
      · exact .inl (by simp [z])
      · rcases hB b z with y | y
        · exact .inl (by simp [y])
        · exact .inr y
  have notB : ∀ b, b ∈ A i → b ∉ B → b ∉ B' := fun b hb hn z => by
    rcases hB b z with y | y
    · exact hn y
    · exact y.2.2 i hb
  refine e.change i hv (t' := .ob o c ns ts') (B := a :: dx :: B') ⟨a, C, dx, vs', B', rfl, rfl, h0, ho, h1, h2, hl, h3⟩ ?_ ?_ ?_ keep
  · refine List.nodup_cons.mpr ⟨fun z => ?_, List.nodup_cons.mpr ⟨fun z => ?_, nd⟩⟩
    · rcases List.mem_cons.mp z with z | z
      · exact n1 (by simp [z])
      · exact notB a (by simp [eA]) (fun y => n1 (by simp [y])) z
    · exact notB dx (by simp [eA]) n3 z
  · intro b hb
    rcases inA b hb with z | z
    · exact ⟨(e.new i b z).1, (e.new i b z).2.1⟩
    · exact ⟨z.1, z.2.1⟩
  · intro j hj b hb z
    rcases inA b hb with y | y
    · exact e.dis j i b hj z y
    · exact y.2.2 j z
def spM (K : PySem.W.Frag) (n : Nat) (c : Str) (ns : List Str) (sp : DMo) : Sp := spL n fun vs H Q => ∃ F a C dx ts vs0 B rest ds P, vs = V.ref a :: rest ∧ PySem.W.nsIn K mainGlobals c = some (some (.ref C)) ∧ Same F H ∧ H a = some (.ins C dx (ns.zip vs0)) ∧ H dx = some (.own a) ∧ ts.length ≤ ns.length ∧ RepOs K F H ts vs0 B ∧
  (a :: dx :: B).Nodup ∧ (∀ b ∈ a :: dx :: B, F b = none) ∧ Reps K F ds rest ∧ sp ts ds P ∧
  ∀ ts' F' H' dx' vs' B', P ts' → Same F F' → Same F' H' → (∀ b o, b ∉ a :: dx :: B → H b = some o → H' b = some o) → (∀ b o, F b = none → H b = some o → imm o = false → b ∉ a :: dx :: B → F' b = none) → H' a = some (.ins C dx' (ns.zip vs')) → H' dx' = some (.own a) → ts'.length ≤ ns.length → RepOs K F' H' ts' vs' B' →
    (a :: dx' :: B').Nodup → (∀ b ∈ a :: dx' :: B', F' b = none ∧ (b ∈ a :: dx :: B ∨ H b = none)) → Q .non H'
end
section
variable {P : Program} {w : World} {K : PySem.W.Frag} {mg : Str → Option Value} {base : Heap} {c m q : Str} {ns : List Str} {st : Stmt} {f : Addr} {fd : FuncData} {N ps : List Str} {k n : Nat}
theorem okM_of (Fn : Fun K m q st f fd) (S : FnScope N ps (defScope st)) (hn : n = ps.length)
    (hbody : ∀ (cdv : Value) (A : Around) (outer : List Env) (s : Shared) (H : Hp) (E : XK), Room k (A.deeper (envOfC q (defScope st) s.heap.objs.size f cdv)) →
      ∃ t T, PSs (cxOf CX0 P w K mg base N q (defScope st) f cdv A outer s H E).nox (defBody st) t ∧ SimS K t T ∧ ∀ (a : Addr) ts ds Pr, sp ts ds Pr → T { nx := fun δ => ∃ ts', δ[0]? = some (some (.own (.ob (some a) c ns ts'))) ∧ Pr ts', rt := fun _ => False } (startM N c ns a ts ds)):
    FnOk P w K mg base CX0 (k + 1) f fd ps (spM K n c ns sp) :=
  Fn.ok S (fun vs H Q E h => by rw [← hn]; exact h.1) fun cdv A outer s H vs Q E hr h => by
    obtain ⟨_, F, a, C, dx, ts, vs0, B, rest, ds, Pr, rfl, hC, hs, ha, hd, hlen, hB, hnd, hnf, hr', hsp, hq⟩ := h
    obtain ⟨t, T, h1, h2, h3⟩ := hbody cdv A outer s H E hr
    have hl := hr'.length
    have er : ER K F (fun b => if b ∈ a :: dx :: B then none else H b) F H (start N (V.ref a :: rest)) (startM N c ns a ts ds) (fun j => if j = 0 then a :: dx :: B else []) := by
      refine ⟨by simp [start, startM, hl], ⟨Same.refl _, fun b o z => ?_, hs, fun _ _ z _ _ => z⟩, fun i t hi => ?_, fun i d hi => ?_, fun j => ?_, fun j k b hjk y1 y2 => ?_, fun j b hb => ?_⟩
      · split at z
        · cases z
        · exact z
      · unfold startM at hi
        cases i with
        | zero =>
          simp at hi
          subst hi
          exact ⟨.ref a, rfl, a, C, dx, vs0, B, rfl, rfl, hC, (fun _ z => Option.some.inj z), ha, hd, hlen, hB⟩
        | succ i =>
          rw [List.getElem?_cons_succ] at hi
          by_cases z : i < ds.length
          · rw [List.getElem?_append_left (by simpa using z), List.getElem?_map, List.getElem?_eq_getElem z] at hi
            simp at hi
            subst hi
            obtain ⟨v, g1, g2⟩ := hr'.get (List.getElem?_eq_getElem z)
            refine ⟨v, ?_, rfl, g2⟩
            unfold start
            rw [List.map_cons, List.cons_append, List.getElem?_cons_succ, List.getElem?_append_left (by simp; lia), List.getElem?_map, g1]
            rfl
          · rw [List.getElem?_append_right (by simpa using z)] at hi
            have := List.mem_of_getElem? hi
            rw [List.mem_replicate] at this
            cases this.2
      · unfold startM at hi
        cases i with
        | zero => simp at hi
        | succ i =>
          rw [List.getElem?_cons_succ] at hi
          by_cases z : i < ds.length
          · rw [List.getElem?_append_left (by simpa using z), List.getElem?_map] at hi
            simp at hi
          · rw [List.getElem?_append_right (by simpa using z)] at hi
            have := List.mem_of_getElem? hi
            rw [List.mem_replicate] at this
            cases this.2
      · split
        · exact hnd
        · exact List.nodup_nil
      · split at y1
        · split at y2
          · lia
          · cases y2
        · cases y1
      · split at hb
        · refine ⟨hnf b hb, if_pos hb, ?_⟩
          rcases List.mem_cons.mp hb with y | y
          · rw [y]; exact ⟨_, ha, rfl⟩
          · rcases List.mem_cons.mp y with y | y
            · rw [y]; exact ⟨_, hd, rfl⟩
            · exact hB.isl b y
        · cases hb
    refine ⟨t, h1, h2 F _ F H (start N (V.ref a :: rest)) (startM N c ns a ts ds) { nx := fun δ => ∃ ts', δ[0]? = some (some (.own (.ob (some a) c ns ts'))) ∧ Pr ts', rt := fun _ => False } _ ⟨_, er⟩ ⟨fun F' H' σ δ e p => ?_, fun _ _ _ _ _ z => z.elim, fun _ _ _ _ _ z => z.elim, fun _ _ _ _ _ _ z => z.elim⟩ (h3 a ts ds Pr hsp)⟩
    obtain ⟨A', e⟩ := e
    obtain ⟨ts', h0, hp⟩ := p
    obtain ⟨v, hv, a', C', dx', vs', B', rfl, eA, g0, go, g1, g2, g3, g4⟩ := e.own 0 _ h0
    obtain rfl := go a rfl
    rw [hC] at g0
    cases g0
    have hn' := e.nod 0
    rw [eA] at hn'
    refine hq ts' F' H' dx' vs' B' hp e.ext.ff e.ext.fh (fun b o y z => ?_) (fun b o y1 y2 y3 y4 => ?_) g1 g2 g3 g4 hn' (fun b hb => ?_)
    · exact e.ext.hh b o (by rw [if_neg y]; exact z)
    · exact e.ext.no b o y1 (by rw [if_neg y4]; exact y2) y3
    · obtain ⟨z1, z2, _⟩ := e.new 0 b (by rw [eA]; exact hb)
      refine ⟨z1, ?_⟩
      by_cases q : b ∈ a' :: dx :: B
      · exact .inl q
      · rw [if_neg q] at z2; exact .inr z2
theorem CalM.of (Df : MetAt K c m q st f fd) (S : FnScope N ps (defScope st))
    (hb : ∀ (kV doc pm : Value) (an : Option Addr) (cdv ct : Value) (us : List Value), us.length = ps.length → bindArgs (PySem.W.fnOf m q (defArgs st) (defBody st) (defScope st) .none kV doc pm an cdv ct) ⟨us, []⟩ = pure (ps.zip us)) (hn : n = ps.length)
    (hbody : ∀ (cdv : Value) (A : Around) (outer : List Env) (s : Shared) (H : Hp) (E : XK), Room k (A.deeper (envOfC q (defScope st) s.heap.objs.size f cdv)) →
      ∃ t T, PSs (cxOf CX0 P w K mg base N q (defScope st) f cdv A outer s H E).nox (defBody st) t ∧ SimS K t T ∧ ∀ (a : Addr) ts ds Pr, sp ts ds Pr → T { nx := fun δ => ∃ ts', δ[0]? = some (some (.own (.ob (some a) c ns ts'))) ∧ Pr ts', rt := fun _ => False } (startM N c ns a ts ds)):
    CalM P w K mg base c m (k + 1) ps (spM K n c ns sp) := by
  obtain ⟨C, hC, cl, hm⟩ := Df.cl
  exact ⟨C, f, fd, hC, cl, hm, okM_of Df.fn S hn hbody, Df.fn.binds hb⟩
theorem CalK.of (Df : Fun K m q st f fd) (Mf : MakAt K mg c f) (S : FnScope N ps (defScope st))
    (hb : ∀ (kV doc pm : Value) (an : Option Addr) (cdv ct : Value) (us : List Value), us.length = ps.length → bindArgs (PySem.W.fnOf m q (defArgs st) (defBody st) (defScope st) .none kV doc pm an cdv ct) ⟨us, []⟩ = pure (ps.zip us)) (hn : n = ps.length)
    (hbody : ∀ (cdv : Value) (A : Around) (outer : List Env) (s : Shared) (H : Hp) (E : XK), Room k (A.deeper (envOfC q (defScope st) s.heap.objs.size f cdv)) →
      ∃ t T, PSs (cxOf CX0 P w K mg base N q (defScope st) f cdv A outer s H E).nox (defBody st) t ∧ SimS K t T ∧ ∀ (a : Addr) ts ds Pr, sp ts ds Pr → T { nx := fun δ => ∃ ts', δ[0]? = some (some (.own (.ob (some a) c ns ts'))) ∧ Pr ts', rt := fun _ => False } (startM N c ns a ts ds)):
    CalK P w K mg base c (k + 1) ps (spM K n c ns sp) := by
  obtain ⟨C, hC, M, hm⟩ := Mf.cl
  exact ⟨C, f, fd, hC, M, hm, okM_of Df S hn hbody, Df.binds hb⟩
theorem CalP.of (Df : MetAt K c m q st f fd) (S : FnScope N ps (defScope st))
    (hb : ∀ (kV doc pm : Value) (an : Option Addr) (cdv ct : Value) (us : List Value), us.length = ps.length → bindArgs (PySem.W.fnOf m q (defArgs st) (defBody st) (defScope st) .none kV doc pm an cdv ct) ⟨us, []⟩ = pure (ps.zip us)) (hn : n = ps.length)
    (hbody : ∀ (cdv : Value) (A : Around) (outer : List Env) (s : Shared) (H : Hp) (E : XK), Room k (A.deeper (envOfC q (defScope st) s.heap.objs.size f cdv)) →
      ∃ t T, PSs (cxOf CX0 P w K mg base N q (defScope st) f cdv A outer s H E).nox (defBody st) t ∧ SimS K t T ∧ ∀ ds Pr, sp ds Pr → T { nx := fun _ => Pr (.fz .non), rt := Pr } (startV N ds)): CalM P w K mg base c m (k + 1) ps (spV K n sp) := by
  obtain ⟨C, hC, cl, hm⟩ := Df.cl
  refine ⟨C, f, fd, hC, cl, hm, Df.fn.ok S (fun vs H Q E h => by rw [← hn]; exact h.1) fun cdv A outer s H vs Q E hr h => ?_, Df.fn.binds hb⟩
  obtain ⟨_, F, ds, Pr, hs, hr', hsp, hq⟩ := h
  obtain ⟨t, T, h1, h2, h3⟩ := hbody cdv A outer s H E hr
  refine ⟨t, h1, h2 F H F H (start N vs) (startV N ds) { nx := fun _ => Pr (.fz .non), rt := Pr } _ ⟨_, startV_er hs hr'⟩ ⟨fun F' H' σ δ e p => ?_, fun _ _ _ _ _ z => z.elim, fun _ _ _ _ _ z => z.elim, fun F' H' r v x n p => hq r v F' H' p x n⟩ (h3 ds Pr hsp)⟩
  exact hq _ _ F' H' p e.ext (.fz rfl)
end
end L2

namespace PySem
open Sem (wp)
section
variable {prog : Program} {w : World} {A : Around} {E : Value → Shared → Prop} {s : Shared}
end
end PySem

namespace L2
open PySem PySem.Spec PyProof.Rows
def dListRev (As : DA) : DO := fun δ P => As δ fun ds => match ds with
  | [.lst xs] => D.lfs xs = true ∧ xs.length ≤ 1000000 ∧ P (.nl (xs.reverse.map .fz))
  | _ => False
section
variable {X : Cx} {K : PySem.W.Frag}
end
end L2

namespace L2
open PySem PySem.Spec PyProof.Rows
def repS (x : Str) (n : Int) : Str := if n < 1 then Str.empty else if (n == 1 || x.length == 0) = true then x else ⟨(List.replicate n.toNat x.cps).foldl (· ++ ·) #[]⟩
def dJoin (E El : DE) : DE := fun δ P => E δ fun d => match d with
  | .str x => El δ fun l => match l with
    | .lst ds => ∃ ys : List Str, ds = ys.map D.str ∧ (ys.map (·.length)).sum + ys.length * x.length ≤ 16777216 ∧ P (.str (Txt.join x ys))
    | _ => False
  | _ => False
def mulSD : DR2 := fun x y P => match x, y with
  | .str x, .int n => -(2 ^ 62) < n ∧ n < 2 ^ 62 ∧ x.length * n.toNat ≤ 1000000 ∧ P (.str (repS x n))
  | _, _ => False
def addSD : DR2 := fun x y P => match x, y with
  | .str x, .str y => x.length + y.length ≤ 1000000 ∧ P (.str (x ++ y))
  | _, _ => False
def strD : List D → (D → Prop) → Prop := fun ds P => match ds with
  | [.int i] => i.natAbs.log2 < 1920 ∧ P (.str (toString i))
  | _ => False
section
variable {X : Cx} {K : PySem.W.Frag}
def dSlS (E : DE) (L U : DPt) : DE := fun δ P => E δ fun d => L δ fun lo => U δ fun hi => match d with
  | .str z => z.length ≤ 1000000 ∧ P (.str (Txt.slice z lo hi))
  | _ => False
end
end L2

namespace L2
open PySem PySem.Spec PyProof.Rows
def sgns (x : Str) : List Str := x.cps.toList.map fun c => ⟨#[c]⟩
def dItS (E : DE) : DA := fun δ P => E δ fun d => match d with
  | .str x => P ((sgns x).map D.str)
  | _ => False
section
variable {X : Cx} {K : PySem.W.Frag}
end
end L2

namespace L2
open PySem PySem.Spec PyProof.Rows
def sPopG (i : Nat) (G : D → Dst → (Dst → Prop) → Prop) : DS := fun De δ => match δ[i]? with
  | some (some (.own (.nl ts))) => ∃ us d, ts = us ++ [.fz d] ∧ G d (δ.set i (some (.own (.nl us)))) De.nx
  | _ => False
section
variable {X : Cx} {K : PySem.W.Frag}
end
section
variable {K : PySem.W.Frag} {c f : Str} {ns : List Str} {j : Nat} {ta : TE} {E : DE}
end
end L2

namespace L2
open PySem PySem.Spec PyProof.Rows
section
variable {X : Cx} {tg elt iter cd : Expr} {scope : Scope} {N : List Str} {ix : List (Option Nat)} {wi : TI} {g : TG} {tc : TT} {te : TE} {pos : Pos}
end
section
variable {K : PySem.W.Frag} {te : TE} {Eo : DO}
end
end L2

namespace L2
open PySem PySem.Spec PyProof.Rows
section
variable {prog : Program} {w : World} {A : Around} {E : Value → Shared → Prop} {s : Shared}
end
def dZip3 (As : DA) : DA := fun δ P => As δ fun ds => match ds with
  | [.lst xs, .lst ys, .lst us] => xs.length ≤ ys.length ∧ xs.length ≤ us.length ∧ P ((xs.zip (ys.zip us)).map fun p => D.tup [p.1, p.2.1, p.2.2])
  | _ => False
section
variable {X : Cx} {K : PySem.W.Frag} {mg : Str → Option Value}
theorem six {b c : Nat} (h : c ∈ [b + 5, b + 3, b + 4, b, b + 1, b + 2]) : c = b + 5 ∨ c = b + 3 ∨ c = b + 4 ∨ c = b ∨ c = b + 1 ∨ c = b + 2 := by simpa using h
end
end L2

namespace L2
open PySem PySem.Spec PyProof.Rows
section
variable {X : Cx} {K : PySem.W.Frag}
def sortD : List D → (OV → Prop) → Prop := fun ds P => match ds with
  | [.lst xs] => ∃ ns : List Int, xs = ns.map D.int ∧ ns.length < 64 ∧ ∀ ms : List Int, ms.Perm ns → ms.Pairwise (· ≤ ·) → P (.nl ((ms.map D.int).map .fz))
  | _ => False
end
end L2

namespace L2
open PySem PySem.Spec PyProof.Rows
abbrev TK := V → St → Hp → (Bool → Hp → Prop) → Prop
section
variable {X : Cx} {K : PySem.W.Frag} {a e e' : Expr} {es : List Expr} {op op' : CmpOp} {ops : List CmpOp} {r : R2} {ta te : TE} {tk : TK} {pos : Pos}
end
abbrev DK := D → Dst → (Bool → Prop) → Prop
def dkLast (r : DR2) (E : DE) : DK := fun x δ P => E δ fun y => r x y fun z => match z with
  | .bl k => P k
  | _ => False
def dkLink (r : DR2) (E : DE) (k : DK) : DK := fun x δ P => E δ fun y => r x y fun z => match z with
  | .bl b => if b = true then k y δ P else P false
  | _ => False
def dChainN (E : DE) (k : DK) : DT := fun δ P => E δ fun x => k x δ P
section
variable {K : PySem.W.Frag} {ta te : TE} {E Ea : DE} {tk : TK} {k : DK} {R : R2} {r : DR2}
end
end L2

namespace L2
open PySem PySem.Spec PyProof.Rows
def sNever : DS := fun _ _ => False
section
variable {X : Cx} {K : PySem.W.Frag} {st : Stmt} {sts : List Stmt}
end
end L2

namespace L2
open PySem PySem.Spec PyProof.Rows
section
variable {prog : Program} {w : World} {A : Around} {E : Value → Shared → Prop} {s : Shared}
end
def dZipT (As : DA) : DA := fun δ P => As δ fun ds => match ds with
  | [.tup xs, .tup ys] => xs.length ≤ ys.length ∧ P ((xs.zip ys).map fun p => D.tup [p.1, p.2])
  | _ => False
section
variable {X : Cx} {K : PySem.W.Frag} {mg : Str → Option Value}
end
end L2

namespace L2
open PySem PySem.Spec PyProof.Rows
inductive DEs (K : PySem.W.Frag) : List (Str × D) → List DictEntry → Prop
  | nil : DEs K [] []
  | cons {k : Str} {d : D} {hs : Int} {t : Tok} {b : Addr} {kds : List (Str × D)} {es : List DictEntry} : (∀ F, Rep K F d (.ref b)) → DEs K kds es → DEs K ((k, d) :: kds) (⟨hs, .str k t, .ref b⟩ :: es)
theorem DEs.find {K : PySem.W.Frag} {kds : List (Str × D)} {es : List DictEntry} (r : DEs K kds es) (k : Str) : match kds.lookup k with
      | some d => ∃ b, (es.find? fun e => Value.isStrOf k e.key).map (·.val) = some (.ref b) ∧ ∀ F, Rep K F d (.ref b)
      | none => (es.find? fun e => Value.isStrOf k e.key).map (·.val) = none := by
  induction r with
  | nil => rfl
  | @cons k' d hs t b kds es h r ih =>
    by_cases z : k' = k
    · subst z
      rw [List.lookup_cons, beq_self_eq_true]
      refine ⟨b, ?_, h⟩
      rw [List.find?_cons_of_pos (by show (k' == k') = true; exact beq_self_eq_true _)]
      rfl
    · have h1 : (k == k') = false := beq_eq_false_iff_ne.mpr (Ne.symm z)
      have h2 : (k' == k) = false := beq_eq_false_iff_ne.mpr z
      rw [List.lookup_cons, h1, List.find?_cons_of_neg (by show ¬ (k' == k) = true; rw [h2]; exact Bool.false_ne_true)]
      exact ih
def dNotInC (kds : List (Str × D)) (E : DE) : DE := fun δ P => E δ fun d => match d with
  | .str k => P (.bl (kds.lookup k).isNone)
  | _ => False
def dGetC (kds : List (Str × D)) (E : DE) : DE := fun δ P => E δ fun d => match d with
  | .str k => ∃ d, kds.lookup k = some d ∧ P d
  | _ => False
section
variable {X : Cx} {K : PySem.W.Frag} {x : Str} {kds : List (Str × D)} {i : Expr} {ty : TE} {pos pos' : Pos}
end
end L2

namespace L2
open PySem PySem.Spec PyProof.Rows
def capN : List Str → List (Option Nat) → List Str
  | x :: N, some _ :: ix => x :: capN N ix
  | _ :: N, none :: ix => capN N ix
  | _, _ => []
theorem CapOf.mem : ∀ {N : List Str} {ix : List (Option Nat)}, CapOf X scope N ix → ∀ x ∈ capN N ix, X.env.kindOf x = some .cell ∨ X.env.kindOf x = some .free
  | [], [], _, x, hx => by cases hx
  | y :: N, none :: ix, h, x, hx => CapOf.mem (show CapOf X scope N ix from h) x hx
  | y :: N, some i :: ix, h, x, hx => by
    obtain ⟨h0, h1⟩ := (show (X.N[i]? = some y ∧ scope.names.lookup y = some .free ∧ (X.env.kindOf y = some .cell ∨ X.env.kindOf y = some .free)) ∧ CapOf X scope N ix from h)
    rcases List.mem_cons.mp (show x ∈ y :: capN N ix from hx) with z | z
    · rw [z]; exact h0.2.2
    · exact CapOf.mem h1 x z
  | [], _ :: _, h, _, _ => h.elim
  | _ :: _, [], h, _, _ => by cases h
abbrev cellO : Obj := { cls := .type "cell", data := .cell none }
structure Blk1 (outer scope : Scope) (z : Str) : Prop where
  kind : scope.kind = .function
  lay : ∀ n acc, cellsFrom n scope.names acc = (z, n) :: acc
  push : ∀ h, pushCells h scope.names = h.push cellO
  cell : ∀ y ∈ scope.names, y.2 = .cell → y.1 = z
  look : scope.names.lookup z = some .cell
  nofr : ∀ y ∈ scope.names, y.2 = .free → y.1 ≠ z
  free : ∀ y ∈ scope.names, y.2 = .free → outer.names.lookup y.1 = some .cell ∨ outer.names.lookup y.1 = some .free
  names : ∀ y ∈ scope.names, y.2 = .local → scope.names.lookup y.1 = some .local
section
variable {M : Model} {A : Around} {E : Value → Shared → Prop} {s : Shared}
end
section
variable {X : Cx} {pins : List (Addr × Obj)} {σ : St} {H : Hp} {s : Shared} {scope : Scope} {N : List Str} {ix : List (Option Nat)} {fp : List Addr} {z : Str}
end
section
variable {X : Cx} {tg elt iter : Expr} {scope : Scope} {N : List Str} {ix : List (Option Nat)} {wi : TI} {g : TG} {te : TE} {pos : Pos} {z : Str}
end
end L2

namespace L2
open PySem PySem.Spec PyProof.Rows
def stepA {α : Type} (xs : List α) (a c : Int) : List α := (sliceRange (max 0 (min a xs.length)) xs.length c).filterMap (xs[·]?)
def dSlSA (Ea El Ec : DE) : DO := fun δ P => Ea δ fun x => El δ fun l => Ec δ fun c => match x, l, c with
  | .lst xs, .int a, .int c => (0 ≤ a ∧ 0 < c) ∧ P (.nl ((stepA xs a c).map .fz))
  | _, _, _ => False
section
variable {X : Cx}
end
section
variable {K : PySem.W.Frag}
theorem Reps.stepA {F : Hp} {ds : List D} {vs : List V} (h : Reps K F ds vs) (a c : Int) : Reps K F (L2.stepA ds a c) (L2.stepA vs a c) := by
  unfold L2.stepA
  rw [h.length]
  exact h.pick _
end
end L2

namespace L2
open PySem PySem.Spec PyProof.Rows
def g1 {α : Type} (l r : List α) : List α → List α → List α
  | [a], [b] => a :: (l ++ b :: r)
  | _, _ => []
theorem g1_rel {l r : List V} {l' r' : List Value} (hl : Vals l l') (hr : Vals r r') {vs zs : List V} {us ws : List Value} (h1 : Vals vs us) (h2 : Vals zs ws) : Vals (g1 l r vs zs) (g1 l' r' us ws) := by
  cases h1 with
  | nil => exact .nil
  | cons a as =>
    cases as with
    | cons b bs => cases h2 <;> exact .nil
    | nil =>
      cases h2 with
      | nil => exact .nil
      | cons c cs =>
        cases cs with
        | cons d ds => exact .nil
        | nil => exact .cons a (hl.append (.cons c hr))
structure CalE (P : Program) (w : World) (K : PySem.W.Frag) (mg : Str → Option Value) (base : Heap) (x : Str) (k : Nat) (ps : List Str) (sp : Sp) (d0 d1 : V) : Prop where
  ex : ∃ f fd e0 e1, FnOk P w K mg base CX0 k f fd ps sp ∧ mg x = some (.ref f) ∧ PySem.W.keepIn K (.ref f) = true ∧ Vals [d0] [e0] ∧ Vals [d1] [e1] ∧ Binds K fd ps [] ∧ Binds K fd ps [e1] ∧ Binds K fd ps [e0, e1] ∧
    KBinds K fd ps [ps.getD 1 ""] (g1 [] [e1]) (g1 [] [d1]) ∧ KBinds K fd ps [ps.getD 2 ""] (g1 [e0] []) (g1 [d0] [])
section
variable {P : Program} {w : World} {K : PySem.W.Frag} {mg : Str → Option Value} {base : Heap} {x : Str} {k : Nat} {ps : List Str} {sp : Sp} {d0 d1 : V}
theorem CalE.one (C : CalE P w K mg base x k ps sp d0 d1) : CalD P w K mg base x k ps sp [d1] := by
  obtain ⟨f, fd, e0, e1, a, b, c, _, v1, d, b1, _⟩ := C.ex
  exact ⟨f, fd, _, a, b, c, d, b1, v1⟩
theorem CalE.two (C : CalE P w K mg base x k ps sp d0 d1) : CalD P w K mg base x k ps sp [d0, d1] := by
  obtain ⟨f, fd, e0, e1, a, b, c, v0, v1, d, _, b2, _⟩ := C.ex
  exact ⟨f, fd, _, a, b, c, d, b2, v0.append v1⟩
end
section
variable {X : Cx} {x : Str} {k : Nat} {ps : List Str} {sp : Sp} {d0 d1 : V} {e c : Expr} {t tk : TA} {p pos kp : Pos} {nm : Str}
end
section
variable {K : PySem.W.Frag}
theorem CalVE.of {P : Program} {w : World} {mg : Str → Option Value} {base : Heap} {x : Str} {st : Stmt} {f T : Addr} {fd : FuncData} {N : List Str} {p0 p1 p2 : Str} {k : Nat} {sp : DSp} {e0 e1 : Value} {d0 d1 : V} (Df : DefAtD K mg x st f fd T #[e0, e1]) (S : FnScope N [p0, p1, p2] (defScope st))
    (hb : ∀ (kV doc pm : Value) (an : Option Addr) (cdv ct a b c : Value), ∃ k, bindArgs (PySem.W.fnOf x x (defArgs st) (defBody st) (defScope st) (.ref T) kV doc pm an cdv ct) ⟨[a, b, c], []⟩ = seqItems? (.ref T) >>= k ∧ k (some #[e0, e1]) = pure [(p0, a), (p1, b), (p2, c)])
    (hb1 : ∀ (kV doc pm : Value) (an : Option Addr) (cdv ct a b : Value), ∃ k, bindArgs (PySem.W.fnOf x x (defArgs st) (defBody st) (defScope st) (.ref T) kV doc pm an cdv ct) ⟨[a, b], []⟩ = seqItems? (.ref T) >>= k ∧ k (some #[e0, e1]) = pure [(p0, a), (p1, b), (p2, e1)])
    (hb2 : ∀ (kV doc pm : Value) (an : Option Addr) (cdv ct a : Value), ∃ k, bindArgs (PySem.W.fnOf x x (defArgs st) (defBody st) (defScope st) (.ref T) kV doc pm an cdv ct) ⟨[a], []⟩ = seqItems? (.ref T) >>= k ∧ k (some #[e0, e1]) = pure [(p0, a), (p1, e0), (p2, e1)])
    (hk0 : ∀ (kV doc pm : Value) (an : Option Addr) (cdv ct a b : Value), ∃ k, bindArgs (PySem.W.fnOf x x (defArgs st) (defBody st) (defScope st) (.ref T) kV doc pm an cdv ct) ⟨[a], [(p1, b)]⟩ = seqItems? (.ref T) >>= k ∧ k (some #[e0, e1]) = pure [(p0, a), (p1, b), (p2, e1)])
    (hk1 : ∀ (kV doc pm : Value) (an : Option Addr) (cdv ct a b : Value), ∃ k, bindArgs (PySem.W.fnOf x x (defArgs st) (defBody st) (defScope st) (.ref T) kV doc pm an cdv ct) ⟨[a], [(p2, b)]⟩ = seqItems? (.ref T) >>= k ∧ k (some #[e0, e1]) = pure [(p0, a), (p1, e0), (p2, b)])
    (v0 : Vals [d0] [e0]) (v1 : Vals [d1] [e1])
    (hbody : ∀ (cdv : Value) (A : Around) (outer : List Env) (s : Shared) (H : Hp) (E : XK), Room k (A.deeper (envOfC x (defScope st) s.heap.objs.size f cdv)) →
      ∃ t T, PSs (cxOf CX0 P w K mg base N x (defScope st) f cdv A outer s H E).nox (defBody st) t ∧ SimS K t T ∧ ∀ ds Pr, sp ds Pr → T { nx := fun _ => Pr (.fz .non), rt := Pr } (startV N ds)) : CalE P w K mg base x (k + 1) [p0, p1, p2] (spV K 3 sp) d0 d1 := by
  obtain ⟨oc, od, kV, doc, pm, an, cdv, ct, osl, rfl, lk, hcd⟩ := Df.ex
  obtain ⟨o, m, ht, hs⟩ := Df.tup
  refine ⟨f, _, e0, e1, fn_of lk hcd S (fun vs H Q E h => h.1) (fun A outer s H vs Q E hr h => ?_), Df.here, Df.kp, v0, v1, ?_, ?_, ?_, ⟨?_, g1_rel .nil v1⟩, ⟨?_, g1_rel v0 .nil⟩⟩
  · obtain ⟨_, F, ds', Pr, hs', hr', hsp, hq⟩ := h
    obtain ⟨t, T', h1, h2, h3⟩ := hbody cdv A outer s H E hr
    refine ⟨t, h1.nox, h2 F H F H (start N vs) (startV N ds') { nx := fun _ => Pr (.fz .non), rt := Pr } _ ⟨_, startV_er hs' hr'⟩ ⟨fun F' H' σ δ e p => ?_, fun _ _ _ _ _ z => z.elim, fun _ _ _ _ _ z => z.elim, fun F' H' r v x n p => hq r v F' H' p x n⟩ (h3 ds' Pr hsp)⟩
    exact hq _ _ F' H' p e.ext (.fz rfl)
  · intro s us KX hl
    match us, hl with
    | [a, b, c], _ =>
      obtain ⟨k', z1, z2⟩ := hb kV doc pm an cdv ct a b c
      exact PySem.W.binds_K KX rfl ht hs z1 z2
  · intro s us KX hl
    have hl' : us.length = 2 := by simpa using hl
    match us, hl' with
    | [a, b], _ =>
      obtain ⟨k', z1, z2⟩ := hb1 kV doc pm an cdv ct a b
      exact PySem.W.binds_K KX rfl ht hs z1 z2
  · intro s us KX hl
    have hl' : us.length = 1 := by simpa using hl
    match us, hl' with
    | [a], _ =>
      obtain ⟨k', z1, z2⟩ := hb2 kV doc pm an cdv ct a
      exact PySem.W.binds_K KX rfl ht hs z1 z2
  · intro s us ws KX hl
    match us, ws, hl with
    | [a], [b], _ =>
      obtain ⟨k', z1, z2⟩ := hk0 kV doc pm an cdv ct a b
      exact PySem.W.binds_K KX rfl ht hs z1 z2
    | [], _, hl => cases hl
    | _ :: _ :: _, _, hl => cases hl
    | [_], [], hl => cases hl
    | [_], _ :: _ :: _, hl => cases hl
  · intro s us ws KX hl
    match us, ws, hl with
    | [a], [b], _ =>
      obtain ⟨k', z1, z2⟩ := hk1 kV doc pm an cdv ct a b
      exact PySem.W.binds_K KX rfl ht hs z1 z2
    | [], _, hl => cases hl
    | _ :: _ :: _, _, hl => cases hl
    | [_], [], hl => cases hl
    | [_], _ :: _ :: _, hl => cases hl
end
def dCallK (n : Nat) (sp : DSp) (l r : List D) (As Ks : DA) : DO := fun δ P => As δ fun ds => Ks δ fun es => (g1 l r ds es).length = n ∧ sp (g1 l r ds es) P
section
variable {K : PySem.W.Frag}
theorem Reps.g1 {F : Hp} {l r ds es : List D} {l' r' vs zs : List V} (hl : Reps K F l l') (hr : Reps K F r r') (h1 : Reps K F ds vs) (h2 : Reps K F es zs) : Reps K F (L2.g1 l r ds es) (L2.g1 l' r' vs zs) := by
  have n1 := h1.length
  have n2 := h2.length
  match ds, vs, h1, n1 with
  | [], [], _, _ => exact rfl
  | [d], [v], h1, _ =>
    obtain ⟨_, _, e1, a1, _⟩ := h1
    cases e1
    match es, zs, h2, n2 with
    | [], [], _, _ => exact rfl
    | [e], [z], h2, _ =>
      obtain ⟨_, _, e2, a2, _⟩ := h2
      cases e2
      exact ⟨_, _, rfl, a1, hl.append ⟨_, _, rfl, a2, hr⟩⟩
    | _ :: _ :: _, _ :: _ :: _, _, _ => exact rfl
  | _ :: _ :: _, _ :: _ :: _, _, _ => 
    match es, zs, n2 with
    | [], [], _ => exact rfl
    | [_], [_], _ => exact rfl
    | _ :: _ :: _, _ :: _ :: _, _ => exact rfl
end
end L2

namespace L2
open PySem PySem.Spec PyProof.Rows
section
variable {K : PySem.W.Frag} {F0 H0 F H F' H' : Hp} {σ : St} {δ : Dst} {A : Nat → List Addr} {i : Nat}
end
def sMethF (c : Str) (ns : List Str) (i j : Nat) (c2 : Str) (ns2 : List Str) (n : Nat) (sp : DMo) (As : DA) : DS := fun De δ => match δ[i]? with
  | some (some (.own (.ob o c' ns' ts))) => c' = c ∧ ns' = ns ∧ ∃ o2 ts2, ts[j]? = some (.ob o2 c2 ns2 ts2) ∧ As δ fun ds => ds.length + 1 = n ∧ sp ts2 ds fun ts' => De.nx (δ.set i (some (.own (.ob o c ns (ts.set j (.ob o2 c2 ns2 ts'))))))
  | _ => False
section
variable {K : PySem.W.Frag} {c f m c2 : Str} {ns ns2 : List Str} {i j : Nat}
end
end L2

namespace PySem
open Sem (wp)
section
variable {prog : Program} {w : World} {A : Around} {R : Result → Shared → Prop} {I : Addr} {fp wr : List Addr} {G : Array GenState → Array GenState → Prop} {n : Nat} {P : Nat → Value → Prop} {St : Nat → Shared → Prop}
end
section
variable {prog : Program} {w : World} {A : Around} {E : Value → Shared → Prop} {s : Shared}
end
end PySem

namespace L2
open PySem PySem.Spec PyProof.Rows
section
variable {X : Cx}
end
def dStrip (E Ec : DE) : DE := fun δ P => E δ fun d => match d with
  | .str x => Ec δ fun l => match l with
    | .str y => x.length ≤ 1000000 ∧ P (.str (Txt.stripChars x y))
    | _ => False
  | _ => False
def sFExtT (c : Str) (ns : List Str) (i j : Nat) (E : DE) : DS := fun De δ => match δ[i]? with
  | some (some (.own (.ob o c' ns' ts))) => c' = c ∧ ns' = ns ∧ ∃ us, ts[j]? = some (.nl us) ∧ E δ fun d => match d with
    | .str x => us.length + x.cps.size ≤ 1000000 ∧ De.nx (δ.set i (some (.own (.ob o c ns (ts.set j (.nl (us ++ (sgns x).map fun s => .fz (.str s))))))))
    | _ => False
  | _ => False
section
variable {K : PySem.W.Frag} {c f : Str} {ns : List Str} {i j : Nat}
end
end L2

namespace PySem.W
open PySem PySem.Spec PySem.Calls PyProof.Rows Builtin Builtin.ObjectAttr Builtin.Getset_descriptor
section
variable {prog : Program} {w : World} {A : Around} {E : Value → Shared → Prop} {s : Shared} {K : Frag} {x D : Addr} {ox : Obj}
theorem find_data {M : Model} {h : Heap} {a g : Value} {name : Str} (X : K.In h) (ha : findIn K (.ref D) name = some (some a)) (hn : specialIn K a "__get__" = some (some g)) (htk : takesIn K a = some true) : Looks M h (Builtin.ObjectAttr.find (.ref x) (.ref D) name) (.bind g a) :=
  (looks_findIn X ha).andThen ((looks_specialIn X hn).andThen ((show Looks M h (Builtin.ObjectAttr.dataDescriptor? (some a) (some g)) (some (g, a)) from (looks_takesIn X htk).andThen .now).andThen (Looks.tag .now)))
theorem class_got {R : Result → Shared → Prop} {tp : Value} (X : K.In s.heap) (L0 : Looks (model prog w) s.heap (typeOf (.ref x)) (.ref D)) (hm : mroIn K D (.type "object") = some true)
    (h : R (.ok (.ret (.ref D))) s) : codeAny (model prog w) A (.call (.builtin "getset_descriptor.__get__") ⟨[.builtin "object.__class__", .ref x, tp], []⟩) R s := by
  have L1 := looks_mroIn (M := model prog w) X hm
  refine codeAny_call_builtin KF.slot_gs.plain KF.entry_gs (KF.slot_gs.check _ _ _ _ _ _ _ _ KF.type_class (KF.args_gs _ _ _) ?_)
  unfold Builtin.«getset_descriptor.__get__» descrGet
  refine wpAny_bind (wpAny_pure ?_)
  unfold descrGetter descrCheckInstance descrNameAndClass isInstance
  simp only [KF.owner_class]
  repeat lk
  refine ⟨Code.quiet_builtin _ (by decide +kernel), codeAny_builtin KF.entry_class ?_⟩
  repeat lk
  exact h
theorem exc_class {Q : Option Value → Shared → Prop} (hga : findIn K (.ref D) "__getattribute__" = some (some (.builtin "BaseException.__getattribute__"))) (hgg : findIn K (.ref D) "__getattr__" = some none)
    (hb : subIn K (.ref D) (.type "BaseException") = some true) (ha : findIn K (.ref D) "__class__" = some (some (.builtin "object.__class__")))
    (hn : specialIn K (.builtin "object.__class__") "__get__" = some (some (.builtin "getset_descriptor.__get__"))) (htk : takesIn K (.builtin "object.__class__") = some true) (hm : mroIn K D (.type "object") = some true)
    (X : K.In s.heap) (L0 : Looks (model prog w) s.heap (typeOf (.ref x)) (.ref D)) (h : Q (some (.ref D)) { s with toks := s.toks + 1 }) : wpAny (model prog w) A (getAttr? (.ref x) "__class__") Q E s := by
  obtain ⟨hh, g, d, t, os⟩ := s
  have L1 := looks_findIn (M := model prog w) X hga
  have L2 := looks_findIn (M := model prog w) X hgg
  have L3 := find_data (M := model prog w) (x := x) X ha hn htk
  have L4 := looks_subIn (M := model prog w) X hb
  refine wpAny_bind (wpAny_mkText (wpAny_bind (wpAny_attempt (wpAny_holding (wpAny_bind (L0.at (wpAny_bind (L1.at ?_))))))))
  refine wpAny_bind (L2.at ?_)
  have key : wpAny (model prog w) A (callGetattribute (Value.ref x) (Value.str (Str.ofString "__class__") t) (Value.builtin "BaseException.__getattribute__") false) (fun v s' => v = .ref D ∧ s' = ⟨hh, g, d, t + 1, os⟩) (fun _ _ => False) ⟨hh, g, d, t + 1, os⟩ := by
    show wpAny _ _ (bindSpecial (Value.builtin "BaseException.__getattribute__") (.ref x) >>= _) _ _ _
    refine wpAny_call (codeAny_call_builtin PySem.F.excAttr_ValueError.ga.plain PySem.F.entry_bexc_ga ?_)
    have hk : builtinKind "BaseException.__getattribute__" = some .slot := by decide +kernel
    have hsplit : splitId "BaseException.__getattribute__" = some ("BaseException", "__getattribute__") := by decide +kernel
    have har := PySem.F.args_bexc_ga (.ref x) (.str (Str.ofString "__class__") t)
    have LI : Looks (model prog w) hh (isInstance (.ref x) (.type "BaseException")) true := L0.andThen L4
    refine wpAny_bind (LI.at ?_)
    have hsg : wpAny (model prog w) A.in1 (match Manifest.signature? "BaseException.__getattribute__" with
          | some sig => Bind.checkArgs "BaseException.__getattribute__" sig { pos := [Value.ref x, Value.str (Str.ofString "__class__") t] }
          | x => pure ()) (fun _ s' => s' = ⟨hh, g, d, t + 1, os⟩) (fun _ _ => False) ⟨hh, g, d, t + 1, os⟩ := by
      cases hsig : Manifest.signature? "BaseException.__getattribute__" with
      | none => exact wpAny_pure rfl
      | some sig =>
        simp only [argsOk, hsig] at har
        show wpAny _ _ (Bind.checkArgs "BaseException.__getattribute__" sig _) _ _ _
        rw [har]
        exact wpAny_pure rfl
    refine wpAny_mono hsg (fun _ s' e => ?_) (fun _ _ z => z)
    subst e
    repeat (any_goals (first | assumption | (refine wpAny_bind (L0.at ?_)) | (refine wpAny_bind (L3.at ?_)) | wp_step))
    exact class_got (s := ⟨hh, g, d, t + 1, os⟩) X L0 hm (wpAny_pure ⟨rfl, rfl⟩)
  refine wpAny_bind (wpAny_attempt (wpAny_holding (wpAny_mono key (fun v s' z => ?_) fun _ _ z => z.elim)))
  obtain ⟨rfl, rfl⟩ := z
  exact handed_on rfl (wpAny_pure h)
structure ExcK (K : Frag) (D : Addr) : Prop where
  ga : findIn K (.ref D) "__getattribute__" = some (some (.builtin "BaseException.__getattribute__"))
  gg : findIn K (.ref D) "__getattr__" = some none
  cls : hasDictIn K D = true
  sub : subIn K (.ref D) (.type "BaseException") = some true
  attr : findIn K (.ref D) "__class__" = some (some (.builtin "object.__class__"))
  get : specialIn K (.builtin "object.__class__") "__get__" = some (some (.builtin "getset_descriptor.__get__"))
  takes : takesIn K (.builtin "object.__class__") = some true
  mro : mroIn K D (.type "object") = some true
theorem kitx_exc (Z : ExcK K D) : KitX K (.ref x) (.ref D) (fun h => ∃ o, h.get? x = some o ∧ o.cls = .ref D) where
  ty := fun _ _ _ ⟨o, h1, h2⟩ => h2 ▸ (Looks.ld h1).andThen .now
  it := fun _ _ X _ => by
    obtain ⟨cdD, hcD, _⟩ := any_some Z.cls
    unfold clsIn at hcD
    split at hcD
    · rename_i c' d' cd' sl' ho
      intro A' Q' E' s' k q
      exact wpAny_bind (wpAny_loadPart (k _ _ (X _ _ ho)) (wpAny_pure q))
    · cases hcD
  ne := fun h tp dd its n sl X htp => by
    obtain ⟨cdD, hcD, _⟩ := any_some Z.cls
    refine Bool.eq_false_iff.mpr fun q => ?_
    have e : D = tp := Value.ref.inj (beq_iff_eq.mp q)
    subst e
    unfold clsIn at hcD
    split at hcD
    · rename_i c' d' cd' sl' ho
      have z := (X _ _ ho).symm.trans htp
      cases z
    · cases hcD
  ca := fun X ⟨o, h1, h2⟩ k => exc_class Z.ga Z.gg Z.sub Z.attr Z.get Z.takes Z.mro X (h2 ▸ (Looks.ld h1).andThen .now) k
end
end PySem.W

namespace L2
open PySem PySem.Spec PyProof.Rows PyProof.V PySem.W
section
variable {X : Cx}
end
abbrev DSpX := List D → (OV → Prop) → (Str → Prop) → Prop
def spX (K : PySem.W.Frag) (n : Nat) (sp : DSpX) : Sp := fun vs H Q E => vs.length = n ∧ ∃ F ds Pr Xc, Same F H ∧ Reps K F ds vs ∧ sp ds Pr Xc ∧ (∀ r v F' H', Pr r → Ext F H F' H' → RepN K H F' H' r v → Q v H') ∧
  ∀ c C F' H', Xc c → PySem.W.nsIn K mainGlobals c = some (some (.ref C)) → Ext F H F' H' → E (.ref C) none H'
def SimX (K : PySem.W.Frag) (F0 H0 : Hp) (t : TS) (T : DS) : Prop := ∀ F H σ δ De En, EnvR K F0 H0 F H σ δ → Lk K F0 H0 De En → T De δ → t En σ H
section
variable {K : PySem.W.Frag} {F0 H0 : Hp} {t u : TS} {T U : DS}
theorem SimS.x (h : SimS K t T): SimX K F0 H0 t T := fun F H σ δ De En => h F0 H0 F H σ δ De En
theorem sP_seq (h : SimX K F0 H0 t T) (g : SimX K F0 H0 u U): SimX K F0 H0 (tSeq t u) (sSeq T U) := fun F H σ δ De E e l w =>
  h F H σ δ { De with nx := U De } _ e ⟨fun F1 H1 σ1 δ1 e1 w1 => g F1 H1 σ1 δ1 De E e1 l w1, l.bk, l.ct, l.rt⟩ w
def sRaise (X : Prop) (Em : DE) : DS := fun _ δ => Em δ fun _ => X
end
section
variable {P : Program} {w : World} {K : PySem.W.Frag} {mg : Str → Option Value} {base : Heap} {N : List Str} {qual : Str} {scope : Scope} {f : Addr} {cd : Value} {A : Around} {outer : List Env} {s : Shared} {H : Hp} {E : XK}
theorem CalXV.of {x : Str} {st : Stmt} {fd : FuncData} {ps : List Str} {k n : Nat} {sp : DSpX} (Df : DefAt K mg x st f fd) (S : FnScope N ps (defScope st))
    (hb : ∀ (kV doc pm : Value) (an : Option Addr) (cdv ct : Value) (us : List Value), us.length = ps.length → bindArgs (PySem.W.fnOf x x (defArgs st) (defBody st) (defScope st) .none kV doc pm an cdv ct) ⟨us, []⟩ = pure (ps.zip us)) (hn : n = ps.length)
    (hbody : ∀ (cdv : Value) (A : Around) (outer : List Env) (s : Shared) (H : Hp) (E : XK), Room k (A.deeper (envOfC x (defScope st) s.heap.objs.size f cdv)) → ∀ (F : Hp) (Xc : Str → Prop), (∀ c C F' H', Xc c → PySem.W.nsIn K mainGlobals c = some (some (.ref C)) → Ext F H F' H' → E (.ref C) none H') →
      ∃ t T, PSs (cxOf (CXE P w) P w K mg base N x (defScope st) f cdv A outer s H E) (defBody st) t ∧ SimX K F H t T ∧ ∀ ds Pr, sp ds Pr Xc → T { nx := fun _ => Pr (.fz .non), rt := Pr } (startV N ds)) : CalX P w K mg base x (k + 1) ps (spX K n sp) := by
  obtain ⟨oc, od, kV, doc, pm, an, cdv, ct, osl, rfl, lk, hcd⟩ := Df.fn.ex
  refine ⟨f, _, ?_, Df.here, Df.fn.kp, Df.fn.binds hb⟩
  refine fn_of lk hcd S (fun vs H Q E h => by rw [← hn]; exact h.1) fun A outer s H vs Q E hr h => ?_
  obtain ⟨_, F, ds, Pr, Xc, hs, hr', hsp, hq, hE⟩ := h
  obtain ⟨t, T, h1, h2, h3⟩ := hbody cdv A outer s H E hr F Xc hE
  refine ⟨t, h1, h2 F H (start N vs) (startV N ds) { nx := fun _ => Pr (.fz .non), rt := Pr } _ ⟨_, startV_er hs hr'⟩ ⟨fun F' H' σ δ e p => ?_, fun _ _ _ _ _ z => z.elim, fun _ _ _ _ _ z => z.elim, fun F' H' r v x n p => hq r v F' H' p x n⟩ (h3 ds Pr hsp)⟩
  exact hq _ _ F' H' p e.ext (.fz rfl)
end
def sTry2 (ni n : Nat) (sp : DSpX) (cs : List Str) (As : DA) (Th : DS) : DS := fun De δ => As δ fun ds => ds.length = n ∧ sp ds (fun _ => De.nx δ) fun c => c ∈ cs ∧ Th { nx := fun δ' => De.nx (δ'.set ni none), rt := fun _ => False } (δ.set ni (some (.own (.fz (.exc c)))))
section
variable {K : PySem.W.Frag} {F0 H0 F H : Hp} {σ : St} {δ : Dst} {A : Nat → List Addr}
end
structure ExcV (K : PySem.W.Frag) (c : Str) (xs : List (Str × Bool)) (ts : List (String × Bool)) : Prop where
  ex : ∃ C, PySem.W.nsIn K mainGlobals c = some (some (.ref C)) ∧ PySem.W.ExcK K C ∧ (∀ y ∈ xs, ∃ D, PySem.W.nsIn K mainGlobals y.1 = some (some (.ref D)) ∧ PySem.W.kitOne K (.ref C) (.ref D) = some y.2) ∧ ∀ y ∈ ts, PySem.W.kitOne K (.ref C) (.type y.1) = some y.2
def rIsX (K : PySem.W.Frag) : List V → Hp → VK → Prop := fun vs H Q => ∃ a C v b, vs = [.ref a, v] ∧ H a = some (.ext (clsφ a (.ref C))) ∧ PySem.W.ExcK K C ∧ ((∃ D, v = .ref D ∧ PySem.W.kitOne K (.ref C) (.ref D) = some b) ∨ ∃ t, v = .ty t ∧ PySem.W.kitOne K (.ref C) (.type t) = some b) ∧ Q (.bl b) H
theorem call_isX : CallR X (.builtin "isinstance") (rIsX X.K) := by
  intro pins s σ H vs us Q I r h
  obtain ⟨a, C, v, b, rfl, ha, Z, hv, q⟩ := h
  obtain ⟨u, u', rfl, r1, r2⟩ := vals2 r
  cases r1
  have fin : ∀ tk, EP X pins σ Q (.bool b) { s with toks := tk } := fun tk => ⟨.bl b, H, I.tok tk, rfl, q⟩
  have hφ := (I.hok a _ ha).1
  rcases hv with ⟨D, rfl, e⟩ | ⟨t, rfl, e⟩
  · cases r2
    exact PySem.W.kia_one (PySem.W.kitx_exc Z) I.kIn hφ e (fun z => nomatch z) fin
  · cases r2
    exact PySem.W.kia_one (PySem.W.kitx_exc Z) I.kIn hφ e (fun z => nomatch z) fin
def isxD (c : Str) (xs : List (Str × Bool)) (ts : List (String × Bool)) : List D → (D → Prop) → Prop := fun ds P => match ds with
  | [.exc c', .fn x] => c' = c ∧ ∃ b, (x, b) ∈ xs ∧ P (.bl b)
  | [.exc c', .ty t] => c' = c ∧ ∃ b, (t, b) ∈ ts ∧ P (.bl b)
  | _ => False
end L2

namespace L2
open PySem PySem.Spec PyProof.Rows
section
variable {X : Cx} {K : PySem.W.Frag}
def intTD : List D → (D → Prop) → Prop := fun ds P => match ds with
  | [.str x] => ∃ n, PySem.intText? x = some n ∧ x.length ≤ 640 ∧ P (.int n)
  | _ => False
def dStarts (E Ec : DE) : DE := fun δ P => E δ fun d => match d with
  | .str x => Ec δ fun l => match l with
    | .str y => P (.bl (Txt.startswith x y))
    | _ => False
  | _ => False
end
end L2

namespace L2
open PySem PySem.Spec PyProof.Rows PyProof.V PySem.W
section
variable {X : Cx}
end
def sTry3 (xi ni n : Nat) (sp : DSpX) (cs : List Str) (As : DA) (Th : DS) : DS := fun De δ => As δ fun ds => ds.length = n ∧ sp ds (fun r => De.nx (δ.set xi (some (.own r)))) fun c => c ∈ cs ∧ Th { nx := fun δ' => De.nx (δ'.set ni none), rt := fun _ => False } (δ.set ni (some (.own (.fz (.exc c)))))
section
variable {K : PySem.W.Frag} {X : Cx}
def rIsXT (K : PySem.W.Frag) : List V → Hp → VK → Prop := fun vs H Q => ∃ a C p b, ∃ Ds : List Addr, vs = [.ref a, .ref p] ∧ H a = some (.ext (clsφ a (.ref C))) ∧ PySem.W.ExcK K C ∧ SqT K H p (Ds.map V.ref) ∧ PySem.W.kitAny K (.ref C) (Ds.map Value.ref) = some b ∧ Q (.bl b) H
theorem vals_refs : ∀ {Ds : List Addr} {us : List Value}, Vals (Ds.map V.ref) us → us = Ds.map Value.ref
  | [], _, .nil => rfl
  | _ :: _, _, .cons h r => by
    cases h
    rw [vals_refs r]
    rfl
theorem call_isXT : CallR X (.builtin "isinstance") (rIsXT X.K) := by
  intro pins s σ H vs us Q I r h
  obtain ⟨a, C, p, b, Ds, rfl, ha, Z, hp, hb, q⟩ := h
  obtain ⟨u, u', rfl, r1, r2⟩ := vals2 r
  cases r1
  cases r2
  have hφ := (I.hok a _ ha).1
  obtain ⟨its, hv, ⟨o, ho, hc, n, hd⟩, _⟩ := I.tuple hp
  have hits := vals_refs hv
  subst hits
  obtain ⟨oc, od, odt, osl⟩ := o
  subst hc hd
  exact PySem.W.kia_tup (PySem.W.kitx_exc Z) I.kIn hφ ho hb (fun z => nomatch z) fun tk => ⟨.bl b, H, I.tok tk, rfl, q⟩
def isxT (c : Str) (xs : List (Str × Bool)) : List D → (D → Prop) → Prop := fun ds P => match ds with
  | [.exc c', .tup ts] => c' = c ∧ ∃ nb : List (Str × Bool), ts = nb.map (fun y => .fn y.1) ∧ (∀ y ∈ nb, y ∈ xs) ∧ P (.bl (nb.any (·.2)))
  | _ => False
def dFstr (x : Str) (E : DE) : DE := fun δ P => E δ fun d => match d with
  | .str y => (∀ c ∈ y.cps.toList, c < 16 ^ 8) ∧ x.length + 10 * y.length + 2 ≤ 1000000 ∧ ∀ z, P (.str z)
  | _ => False
def dUpper (E : DE) : DE := fun δ P => E δ fun d => match d with
  | .str x => (Txt.upper x).length ≤ 1000000 ∧ P (.str (Txt.upper x))
  | _ => False
def rIsB : DR2 := fun x y P => match x, y with
  | .bl b, .bl c => P (.bl (b == c))
  | _, _ => False
def rIsnotB : DR2 := fun x y P => match x, y with
  | .bl b, .bl c => P (.bl (!(b == c)))
  | _, _ => False
end
end L2

namespace L2
open PySem PySem.Spec PyProof.Rows PyProof.V PySem.W
section
variable {M : Model} {A : Around} {E : Value → Shared → Prop} {s : Shared}
end
section
variable {P : Program} {w : World} {K : PySem.W.Frag} {mg : Str → Option Value} {base : Heap} {N : List Str} {qual : Str} {scope : Scope} {f : Addr} {cd : Value} {A : Around} {outer : List Env} {s : Shared} {H : Hp} {E : XK}
end

section
variable {P : Program} {w : World} {K : PySem.W.Frag} {mg : Str → Option Value} {base : Heap} {N0 : List Str} {qual : Str} {scope0 : Scope} {f : Addr} {cd : Value} {A : Around} {outer : List Env} {s0 : Shared} {H0 : Hp} {E : XK}
variable {X : Cx} {tg iter e : Expr} {es : List Expr} {scope : Scope} {N : List Str} {ix : List (Option Nat)} {wi : TI} {g : TG} {ta : TA} {pos p cpos : Pos} {x : Str} {k : Nat} {ps : List Str} {sp : Sp}
end

def CmpX (G : D → Dst → (Dst → Prop) → Prop) (As : DA) (n : Nat) (sp : DSpX) (Xc : Str → Prop) (ds : List D) (δ : Dst) (P : OV → Prop) : Prop := ∃ W : Nat → Dst → List OV → Prop, W 0 δ [] ∧
  (∀ i d δ ts, ds[i]? = some d → W i δ ts → ts.length < 1000000 ∧ G d δ fun δ' => As δ' fun as => as.length = n ∧ sp as (fun r => W (i + 1) δ' (ts ++ [r])) Xc) ∧ ∀ δ ts, W ds.length δ ts → P (.nl ts)
def dCompX (I : DA) (ix : List (Option Nat)) (G : D → Dst → (Dst → Prop) → Prop) (As : DA) (n : Nat) (sp : DSpX) (Xc : Str → Prop) : DO := fun δ P => I δ fun ds => CmpX G As n sp Xc ds (blkD ix δ) P
def SimOx (K : PySem.W.Frag) (F0 H0 : Hp) (t : TE) (E : DO) : Prop := ∀ F H σ δ P Q, EnvR K F0 H0 F H σ δ → E δ P → (∀ r v F' H', P r → Ext F H F' H' → RepN K H F' H' r v → Q v H') → t σ H Q
section
variable {K : PySem.W.Frag} {F0 H0 : Hp}
end
end L2

namespace L2
open PySem PySem.Spec PyProof.Rows
open AutoSeq1 (wpAny_loadPart')
section
variable {X : Cx} {K : PySem.W.Frag}
def dFind (E Ec : DE) : DE := fun δ P => E δ fun d => match d with
  | .str x => Ec δ fun l => match l with
    | .str y => P (.int (Txt.find x y))
    | _ => False
  | _ => False
def TupM (K : PySem.W.Frag) (mg : Str → Option Value) (x : Str) (ys : List Str) : Prop := ∃ a o, mg x = some (.ref a) ∧ (∀ F, Rep K F (.tup (ys.map D.str)) (.ref a)) ∧ K.lookup a = some o ∧ o.cls = .type "tuple" ∧ o.dict = none
theorem TupM.c {mg : Str → Option Value} (h : TupM K mg x ys): TupC K mg x (.tup (ys.map D.str)) := let ⟨a, _, e, r, _⟩ := h; ⟨a, e, r⟩
def dTIdx (ys : List Str) (Ec : DE) : DE := fun δ P => Ec δ fun l => match l with
  | .str k => k ∈ ys ∧ P (.int (ys.idxOf k : Nat))
  | _ => False
def rNotInS : DR2 := fun x y P => match x, y with
  | .str i, .str j => P (.bl (!(!(Builtin.Str.occurrences j i 0 j.length 1).isEmpty)))
  | _, _ => False
def ordD : List D → (D → Prop) → Prop := fun ds P => match ds with
  | [.str x] => x.length = 1 ∧ P (.int (x.cps.getD 0 0 : Nat))
  | _ => False
end
end L2


namespace L2
open PySem PySem.Spec PyProof.Rows PyProof.V PySem.W
section
variable {K : PySem.W.Frag} {h : Heap} {mg : Str → Option Value} {x m q c : Str} {st : Stmt} {f T C : Addr} {od an odT : Option Addr} {sl slT : Array (Option Value)} {oc kV dc pm cd ct ocT : Value} {nT : Nat} {ds : Array Value}
theorem dmk (X : K.In h) (G : h.Ns mainGlobals mg) (a : PySem.W.nsIn K mainGlobals x = some (some (.ref f)) := by k_is) (l : K.lookup f = some ⟨oc, od, .func (PySem.W.fnOf x x (defArgs st) (defBody st) (defScope st) .none kV dc pm an cd ct), sl⟩ := by k_is) (d : PySem.W.codeIn K cd x = true := by k_is) (k : PySem.W.keepIn K (.ref f) = true := by k_is):
    DefAt K mg x st f (PySem.W.fnOf x x (defArgs st) (defBody st) (defScope st) .none kV dc pm an cd ct) := ⟨fun_mk l d k, PySem.W.mg_of X G a⟩
theorem mz (X : K.In h) (G : h.Ns mainGlobals mg) (e : PySem.W.nsIn K mainGlobals n = some none := by k_is): mg n = none := PySem.W.mg_none_of X G e
end
end L2

namespace L2
open PySem PySem.Spec PyProof.Rows PyProof.V PySem.W
def sClr (i j : Nat) : DS := fun De δ => match δ[i]? with
  | some (some (.own (.nl ts))) => (i ≠ j ∧ j < δ.length ∧ ∀ t ∈ ts, ∃ us, t = .nl us) ∧ De.nx ((δ.set j none).set i none)
  | _ => False
section
variable {K : PySem.W.Frag}
theorem CalV.never {P : Program} {w : World} {mg : Str → Option Value} {base : Heap} {x : Str} {st : Stmt} {f : Addr} {fd : FuncData} {N ps : List Str} {k n : Nat} {sp : DSp} (Df : DefAt K mg x st f fd) (S : FnScope N ps (defScope st))
    (hb : ∀ (kV doc pm : Value) (an : Option Addr) (cdv ct : Value) (us : List Value), us.length = ps.length → bindArgs (PySem.W.fnOf x x (defArgs st) (defBody st) (defScope st) .none kV doc pm an cdv ct) ⟨us, []⟩ = pure (ps.zip us)) (hn : n = ps.length) (hf : ∀ ds Pr, sp ds Pr → False) : Cal P w K mg base x (k + 1) ps (spV K n sp) :=
  Cal.of Df S hb (fun vs H Q E h => by rw [← hn]; exact h.1) fun cdv A outer s H vs Q E hr h => by
    obtain ⟨_, F, ds, Pr, hs, hr', hsp, hq⟩ := h
    exact (hf _ _ hsp).elim
end
end L2

namespace L2
open PySem PySem.Spec PyProof.Rows PyProof.V PySem.W
section
variable {X : Cx}
end
section
variable {K : PySem.W.Frag}
end
section
variable {K : PySem.W.Frag}
theorem ER.off {F0 H0 F H : Hp} {σ : St} {δ : Dst} {A : Nat → List Addr} {a : Addr} (o : HO) (e : ER K F0 H0 F H σ δ A) (h1 : F a = none) (h2 : H0 a = none) (h3 : ∀ j, a ∉ A j) : ER K F0 H0 F (upd H a o) σ δ A where
  len := e.len
  ext := ⟨e.ext.ff, fun b o h => upd_off (fun z => by rw [z, h2] at h; cases h) (e.ext.hh _ _ h), fun b o h => upd_off (fun z => by rw [z, h1] at h; cases h) (e.ext.fh _ _ h), e.ext.no⟩
  own := fun i t h => by
    obtain ⟨v, q1, q2⟩ := e.own i t h
    exact ⟨v, q1, q2.frame (Same.refl _) fun b hb xs z => upd_off (fun y => h3 i (by rw [← y]; exact hb)) z⟩
  bw := e.bw
  nod := e.nod
  dis := e.dis
  new := fun i b hb => by
    obtain ⟨q1, q2, xs, q3, q4⟩ := e.new i b hb
    exact ⟨q1, q2, xs, upd_off (fun y => h3 i (by rw [← y]; exact hb)) q3, q4⟩
def spB (K : PySem.W.Frag) (n : Nat) (sp : DSp) : Sp := spL n fun vs H Q => ∃ F d ds v us P, vs = v :: us ∧ Same F H ∧ Rep K H d v ∧ Reps K F ds us ∧ sp (d :: ds) P ∧ ∀ r v F' H', P r → Ext F H F' H' → RepN K H F' H' r v → Q v H'
def startB (N : List Str) : List D → Dst
  | [] => []
  | d :: ds => some (.bw d) :: startV N.tail ds
theorem startB_er {H F : Hp} {N : List Str} {d : D} {ds : List D} {v : V} {us : List V} (s : Same F H) (h0 : Rep K H d v) (h : Reps K F ds us) : ER K F H F H (start N (v :: us)) (startB N (d :: ds)) (fun _ => []) := by
  have e := startV_er (N := N.tail) s h
  have eq : start N (v :: us) = some v :: start N.tail us := by
    unfold start
    rw [List.map_cons, List.cons_append, List.length_cons, List.length_tail, Nat.sub_sub, Nat.add_comm 1]
  rw [eq]
  refine ⟨by show (some v :: start N.tail us).length = (some (Sl.bw d) :: startV N.tail ds).length; rw [List.length_cons, List.length_cons, e.len], e.ext, fun i t hi => ?_, fun i d' hi => ?_, fun _ => List.nodup_nil, (fun _ _ _ _ h => by cases h), (fun _ _ h => by cases h)⟩
  · cases i with
    | zero => cases hi
    | succ i => exact e.own i t hi
  · cases i with
    | zero => cases hi; exact ⟨v, rfl, h0⟩
    | succ i => exact e.bw i d' hi
theorem CalB.of {P : Program} {w : World} {mg : Str → Option Value} {base : Heap} {x : Str} {st : Stmt} {f : Addr} {fd : FuncData} {N ps : List Str} {k n : Nat} {sp : DSp} (Df : DefAt K mg x st f fd) (S : FnScope N ps (defScope st))
    (hb : ∀ (kV doc pm : Value) (an : Option Addr) (cdv ct : Value) (us : List Value), us.length = ps.length → bindArgs (PySem.W.fnOf x x (defArgs st) (defBody st) (defScope st) .none kV doc pm an cdv ct) ⟨us, []⟩ = pure (ps.zip us)) (hn : n = ps.length)
    (hbody : ∀ (cdv : Value) (A : Around) (outer : List Env) (s : Shared) (H : Hp) (E : XK), Room k (A.deeper (envOfC x (defScope st) s.heap.objs.size f cdv)) →
      ∃ t T, PSs (cxOf CX0 P w K mg base N x (defScope st) f cdv A outer s H E).nox (defBody st) t ∧ SimS K t T ∧ ∀ ds Pr, sp ds Pr → T { nx := fun _ => Pr (.fz .non), rt := Pr } (startB N ds)) : Cal P w K mg base x (k + 1) ps (spB K n sp) :=
  Cal.of Df S hb (fun vs H Q E h => by rw [← hn]; exact h.1) fun cdv A outer s H vs Q E hr h => by
    obtain ⟨_, F, d, ds, v, us, Pr, rfl, hs, h0, hr', hsp, hq⟩ := h
    obtain ⟨t, T, h1, h2, h3⟩ := hbody cdv A outer s H E hr
    refine ⟨t, h1, h2 F H F H (start N (v :: us)) (startB N (d :: ds)) { nx := fun _ => Pr (.fz .non), rt := Pr } _ ⟨_, startB_er hs h0 hr'⟩ ⟨fun F' H' σ δ e p => ?_, fun _ _ _ _ _ z => z.elim, fun _ _ _ _ _ z => z.elim, fun F' H' r v x n p => hq r v F' H' p x n⟩ (h3 _ Pr hsp)⟩
    exact hq _ _ F' H' p e.ext (.fz rfl)
end
end L2

namespace L2
open PySem PySem.Spec PyProof.Rows PyProof.V PySem.W
structure CalKX (P : Program) (w : World) (K : PySem.W.Frag) (mg : Str → Option Value) (base : Heap) (c : Str) (k : Nat) (ps : List Str) (sp : Sp) : Prop where
  ex : ∃ C f fd, PySem.W.nsIn K mainGlobals c = some (some (.ref C)) ∧ Mk K C f ∧ mg c = some (.ref C) ∧ FnOk P w K mg base (CXE P w) k f fd ps sp ∧ Binds K fd ps []
section
variable {X : Cx}
end
abbrev DMoX := List OV → List D → (List OV → Prop) → (Str → Prop) → Prop
def spMX (K : PySem.W.Frag) (n : Nat) (c : Str) (ns : List Str) (sp : DMoX) : Sp := fun vs H Q E => vs.length = n ∧ ∃ F a C dx ts vs0 B rest ds P Xc, vs = V.ref a :: rest ∧ PySem.W.nsIn K mainGlobals c = some (some (.ref C)) ∧ Same F H ∧ H a = some (.ins C dx (ns.zip vs0)) ∧ H dx = some (.own a) ∧ ts.length ≤ ns.length ∧ RepOs K F H ts vs0 B ∧
  (a :: dx :: B).Nodup ∧ (∀ b ∈ a :: dx :: B, F b = none) ∧ Reps K F ds rest ∧ sp ts ds P Xc ∧
  (∀ ts' F' H' dx' vs' B', P ts' → Same F F' → Same F' H' → (∀ b o, b ∉ a :: dx :: B → H b = some o → H' b = some o) → (∀ b o, F b = none → H b = some o → imm o = false → b ∉ a :: dx :: B → F' b = none) → H' a = some (.ins C dx' (ns.zip vs')) → H' dx' = some (.own a) → ts'.length ≤ ns.length → RepOs K F' H' ts' vs' B' →
    (a :: dx' :: B').Nodup → (∀ b ∈ a :: dx' :: B', F' b = none ∧ (b ∈ a :: dx :: B ∨ H b = none)) → Q .non H') ∧
  ∀ c C F' H', Xc c → PySem.W.nsIn K mainGlobals c = some (some (.ref C)) → Ext F (fun b => if b ∈ a :: dx :: B then none else H b) F' H' → E (.ref C) none H'
section
variable {P : Program} {w : World} {K : PySem.W.Frag} {mg : Str → Option Value} {base : Heap} {c m q : Str} {ns : List Str} {st : Stmt} {f : Addr} {fd : FuncData} {N ps : List Str} {k n : Nat}
theorem okMX_of {sp : DMoX} (Fn : Fun K m q st f fd) (S : FnScope N ps (defScope st)) (hn : n = ps.length)
    (hbody : ∀ (cdv : Value) (A : Around) (outer : List Env) (s : Shared) (H : Hp) (E : XK), Room k (A.deeper (envOfC q (defScope st) s.heap.objs.size f cdv)) → ∀ (F H0 : Hp) (Xc : Str → Prop), (∀ c C F' H', Xc c → PySem.W.nsIn K mainGlobals c = some (some (.ref C)) → Ext F H0 F' H' → E (.ref C) none H') →
      ∃ t T, PSs (cxOf (CXE P w) P w K mg base N q (defScope st) f cdv A outer s H E) (defBody st) t ∧ SimX K F H0 t T ∧ ∀ (a : Addr) ts ds Pr, sp ts ds Pr Xc → T { nx := fun δ => ∃ ts', δ[0]? = some (some (.own (.ob (some a) c ns ts'))) ∧ Pr ts', rt := fun _ => False } (startM N c ns a ts ds)) :
    FnOk P w K mg base (CXE P w) (k + 1) f fd ps (spMX K n c ns sp) := by
  obtain ⟨oc, od, kV, doc, pm, an, cdv, ct, osl, rfl, lk, hcd⟩ := Fn.ex
  refine fn_of lk hcd S (fun vs H Q E h => by rw [← hn]; exact h.1) fun A outer s H vs Q E hr h => ?_
  · obtain ⟨_, F, a, C, dx, ts, vs0, B, rest, ds, Pr, Xc, rfl, hC, hs, ha, hd, hlen, hB, hnd, hnf, hr', hsp, hq, hE⟩ := h
    obtain ⟨t, T, h1, h2, h3⟩ := hbody cdv A outer s H E hr F _ Xc hE
    have hl := hr'.length
    have er : ER K F (fun b => if b ∈ a :: dx :: B then none else H b) F H (start N (V.ref a :: rest)) (startM N c ns a ts ds) (fun j => if j = 0 then a :: dx :: B else []) := by
      refine ⟨by simp [start, startM, hl], ⟨Same.refl _, fun b o z => ?_, hs, fun _ _ z _ _ => z⟩, fun i t hi => ?_, fun i d hi => ?_, fun j => ?_, fun j k b hjk y1 y2 => ?_, fun j b hb => ?_⟩
      · split at z
        · cases z
        · exact z
      · unfold startM at hi
        cases i with
        | zero =>
          simp at hi
          subst hi
          exact ⟨.ref a, rfl, a, C, dx, vs0, B, rfl, rfl, hC, (fun _ z => Option.some.inj z), ha, hd, hlen, hB⟩
        | succ i =>
          rw [List.getElem?_cons_succ] at hi
          by_cases z : i < ds.length
          · rw [List.getElem?_append_left (by simpa using z), List.getElem?_map, List.getElem?_eq_getElem z] at hi
            simp at hi
            subst hi
            obtain ⟨v, g1, g2⟩ := hr'.get (List.getElem?_eq_getElem z)
            refine ⟨v, ?_, rfl, g2⟩
            unfold start
            rw [List.map_cons, List.cons_append, List.getElem?_cons_succ, List.getElem?_append_left (by simp; lia), List.getElem?_map, g1]
            rfl
          · rw [List.getElem?_append_right (by simpa using z)] at hi
            have := List.mem_of_getElem? hi
            rw [List.mem_replicate] at this
            cases this.2
      · unfold startM at hi
        cases i with
        | zero => simp at hi
        | succ i =>
          rw [List.getElem?_cons_succ] at hi
          by_cases z : i < ds.length
          · rw [List.getElem?_append_left (by simpa using z), List.getElem?_map] at hi
            simp at hi
          · rw [List.getElem?_append_right (by simpa using z)] at hi
            have := List.mem_of_getElem? hi
            rw [List.mem_replicate] at this
            cases this.2
      · split
        · exact hnd
        · exact List.nodup_nil
      · split at y1
        · split at y2
          · lia
          · cases y2
        · cases y1
      · split at hb
        · refine ⟨hnf b hb, if_pos hb, ?_⟩
          rcases List.mem_cons.mp hb with y | y
          · rw [y]; exact ⟨_, ha, rfl⟩
          · rcases List.mem_cons.mp y with y | y
            · rw [y]; exact ⟨_, hd, rfl⟩
            · exact hB.isl b y
        · cases hb
    refine ⟨t, h1, h2 F H (start N (V.ref a :: rest)) (startM N c ns a ts ds) { nx := fun δ => ∃ ts', δ[0]? = some (some (.own (.ob (some a) c ns ts'))) ∧ Pr ts', rt := fun _ => False } _ ⟨_, er⟩ ⟨fun F' H' σ δ e p => ?_, fun _ _ _ _ _ z => z.elim, fun _ _ _ _ _ z => z.elim, fun _ _ _ _ _ _ z => z.elim⟩ (h3 a ts ds Pr hsp)⟩
    obtain ⟨A', e⟩ := e
    obtain ⟨ts', h0, hp⟩ := p
    obtain ⟨v, hv, a', C', dx', vs', B', rfl, eA, g0, go, g1, g2, g3, g4⟩ := e.own 0 _ h0
    obtain rfl := go a rfl
    rw [hC] at g0
    cases g0
    have hn' := e.nod 0
    rw [eA] at hn'
    refine hq ts' F' H' dx' vs' B' hp e.ext.ff e.ext.fh (fun b o y z => ?_) (fun b o y1 y2 y3 y4 => ?_) g1 g2 g3 g4 hn' (fun b hb => ?_)
    · exact e.ext.hh b o (by rw [if_neg y]; exact z)
    · exact e.ext.no b o y1 (by rw [if_neg y4]; exact y2) y3
    · obtain ⟨z1, z2, _⟩ := e.new 0 b (by rw [eA]; exact hb)
      refine ⟨z1, ?_⟩
      by_cases q : b ∈ a' :: dx :: B
      · exact .inl q
      · rw [if_neg q] at z2; exact .inr z2
theorem CalKX.of {sp : DMoX} (Df : Fun K m q st f fd) (Mf : MakAt K mg c f) (S : FnScope N ps (defScope st))
    (hb : ∀ (kV doc pm : Value) (an : Option Addr) (cdv ct : Value) (us : List Value), us.length = ps.length → bindArgs (PySem.W.fnOf m q (defArgs st) (defBody st) (defScope st) .none kV doc pm an cdv ct) ⟨us, []⟩ = pure (ps.zip us)) (hn : n = ps.length)
    (hbody : ∀ (cdv : Value) (A : Around) (outer : List Env) (s : Shared) (H : Hp) (E : XK), Room k (A.deeper (envOfC q (defScope st) s.heap.objs.size f cdv)) → ∀ (F H0 : Hp) (Xc : Str → Prop), (∀ c C F' H', Xc c → PySem.W.nsIn K mainGlobals c = some (some (.ref C)) → Ext F H0 F' H' → E (.ref C) none H') →
      ∃ t T, PSs (cxOf (CXE P w) P w K mg base N q (defScope st) f cdv A outer s H E) (defBody st) t ∧ SimX K F H0 t T ∧ ∀ (a : Addr) ts ds Pr, sp ts ds Pr Xc → T { nx := fun δ => ∃ ts', δ[0]? = some (some (.own (.ob (some a) c ns ts'))) ∧ Pr ts', rt := fun _ => False } (startM N c ns a ts ds)) :
    CalKX P w K mg base c (k + 1) ps (spMX K n c ns sp) := by
  obtain ⟨C, hC, M, hm⟩ := Mf.cl
  exact ⟨C, f, fd, hC, M, hm, okMX_of Df S hn hbody, Df.binds hb⟩
end
section
variable {K : PySem.W.Frag}
end
end L2

namespace PySem
open Sem (wp)
open Builtin
end PySem
namespace L2
open PySem PySem.Spec PyProof.Rows PyProof.V PySem.W
section
variable {X : Cx}
end
section
variable {K : PySem.W.Frag}
end
end L2

namespace L2
open PySem PySem.Spec PyProof.Rows PyProof.V PySem.W
section
variable {P : Program} {w : World} {K : PySem.W.Frag} {mg : Str → Option Value} {base : Heap} {N : List Str}
theorem CalXVE.of {x : Str} {st : Stmt} {f T : Addr} {fd : FuncData} {p0 p1 p2 : Str} {k : Nat} {sp : DSpX} {e0 e1 : Value} (Df : DefAtD K mg x st f fd T #[e0, e1]) (S : FnScope N [p0, p1, p2] (defScope st))
    (hb : ∀ (kV doc pm : Value) (an : Option Addr) (cdv ct a b c : Value), ∃ k, bindArgs (PySem.W.fnOf x x (defArgs st) (defBody st) (defScope st) (.ref T) kV doc pm an cdv ct) ⟨[a, b, c], []⟩ = seqItems? (.ref T) >>= k ∧ k (some #[e0, e1]) = pure [(p0, a), (p1, b), (p2, c)])
    (hbody : ∀ (cdv : Value) (A : Around) (outer : List Env) (s : Shared) (H : Hp) (E : XK), Room k (A.deeper (envOfC x (defScope st) s.heap.objs.size f cdv)) → ∀ (F : Hp) (Xc : Str → Prop), (∀ c C F' H', Xc c → PySem.W.nsIn K mainGlobals c = some (some (.ref C)) → Ext F H F' H' → E (.ref C) none H') →
      ∃ t T, PSs (cxOf (CXE P w) P w K mg base N x (defScope st) f cdv A outer s H E) (defBody st) t ∧ SimX K F H t T ∧ ∀ ds Pr, sp ds Pr Xc → T { nx := fun _ => Pr (.fz .non), rt := Pr } (startV N ds)) : CalX P w K mg base x (k + 1) [p0, p1, p2] (spX K 3 sp) := by
  obtain ⟨oc, od, kV, doc, pm, an, cdv, ct, osl, rfl, lk, hcd⟩ := Df.ex
  obtain ⟨o, m, ht, hs⟩ := Df.tup
  refine ⟨f, _, fn_of lk hcd S (fun vs H Q E h => h.1) (fun A outer s H vs Q E hr h => ?_), Df.here, Df.kp, ?_⟩
  · obtain ⟨_, F, ds, Pr, Xc, hs, hr', hsp, hq, hE⟩ := h
    obtain ⟨t, T, h1, h2, h3⟩ := hbody cdv A outer s H E hr F Xc hE
    refine ⟨t, h1, h2 F H (start N vs) (startV N ds) { nx := fun _ => Pr (.fz .non), rt := Pr } _ ⟨_, startV_er hs hr'⟩ ⟨fun F' H' σ δ e p => ?_, fun _ _ _ _ _ z => z.elim, fun _ _ _ _ _ z => z.elim, fun F' H' r v x n p => hq r v F' H' p x n⟩ (h3 ds Pr hsp)⟩
    exact hq _ _ F' H' p e.ext (.fz rfl)
  · intro s us KX hl
    match us, hl with
    | [a, b, c], _ =>
      obtain ⟨k', z1, z2⟩ := hb kV doc pm an cdv ct a b c
      exact PySem.W.binds_K KX rfl ht hs z1 z2
end
section
variable {X : Cx}
end
theorem RepOs.split {K : PySem.W.Frag} {F H : Hp} : ∀ {ts : List OV} {vs : List V} {A : List Addr} (k : Nat), RepOs K F H ts vs A → ∃ B C, A = B ++ C ∧ RepOs K F H (ts.take k) (vs.take k) B ∧ RepOs K F H (ts.drop k) (vs.drop k) C
  | [], vs, A, k, h => by
    obtain ⟨rfl, rfl⟩ := h
    refine ⟨[], [], rfl, ?_, ?_⟩
    · rw [List.take_nil, List.take_nil]; exact ⟨rfl, rfl⟩
    · rw [List.drop_nil, List.drop_nil]; exact ⟨rfl, rfl⟩
  | t :: ts, vs, A, 0, h => ⟨[], A, rfl, ⟨rfl, rfl⟩, h⟩
  | t :: ts, vs, A, k + 1, h => by
    obtain ⟨v, r, B, C, rfl, rfl, h1, h2⟩ := h
    obtain ⟨B', C', rfl, a, b⟩ := RepOs.split k h2
    exact ⟨B ++ B', C', by rw [List.append_assoc], ⟨v, _, B, B', rfl, rfl, h1, a⟩, b⟩
section
variable {K : PySem.W.Frag} {te ti : TE} {Eo : DO} {Ei : DE}
end
end L2

namespace L2
open PySem PySem.Spec PyProof.Rows PyProof.V PySem.W
section
variable {X : Cx}
end
section
variable {K : PySem.W.Frag}
end
end L2

namespace L2
open PySem PySem.Spec PyProof.Rows PyProof.V PySem.W
section
variable {P : Program} {w : World} {K : PySem.W.Frag} {mg : Str → Option Value} {base : Heap} {N : List Str} {qual : Str} {scope : Scope} {f : Addr} {cd : Value} {A : Around} {outer : List Env} {s : Shared} {H : Hp} {E : XK}
end
section
variable {K : PySem.W.Frag} {F0 H0 : Hp} {t ta tc : TE} {Ec : DO} {Ea : DE}
theorem sP_ret (h : SimOx K F0 H0 tc Ec): SimX K F0 H0 (tRet tc) (sRet Ec) := fun F H σ δ De En e l w => h F H σ δ _ _ e w fun r v F' H' p x n => l.rt F' H' r v (e.ext.trans x) (n.old e.ext.hh) p
end
section
variable {P : Program} {w : World} {K : PySem.W.Frag} {mg : Str → Option Value} {base : Heap} {N0 : List Str} {qual : Str} {scope0 : Scope} {f : Addr} {cd : Value} {A : Around} {outer : List Env} {s0 : Shared} {H0 : Hp} {E : XK}
variable {X : Cx} {tg iter e : Expr} {es : List Expr} {scope : Scope} {N : List Str} {ix : List (Option Nat)} {wi : TI} {g : TG} {ta : TA} {pos p cpos : Pos} {x : Str} {k : Nat} {ps : List Str} {sp : Sp}
end
section
variable {K : PySem.W.Frag} {ti : TE} {Ei : DE}
end
end L2

namespace L2
open PySem PySem.Spec PyProof.Rows PyProof.V PySem.W
abbrev DMR := List OV → List D → (D → List OV → Prop) → (Str → List OV → Prop) → Prop
def ObS (K : PySem.W.Frag) (ns : List Str) (C a dx : Addr) (B : List Addr) (F H F' H' : Hp) (ts' : List OV) : Prop := ∃ dx' vs' B', Same F F' ∧ Same F' H' ∧ (∀ b o, b ∉ a :: dx :: B → H b = some o → H' b = some o) ∧ (∀ b o, F b = none → H b = some o → imm o = false → b ∉ a :: dx :: B → F' b = none) ∧ H' a = some (.ins C dx' (ns.zip vs')) ∧ H' dx' = some (.own a) ∧ ts'.length ≤ ns.length ∧ RepOs K F' H' ts' vs' B' ∧
  (a :: dx' :: B').Nodup ∧ ∀ b ∈ a :: dx' :: B', F' b = none ∧ (b ∈ a :: dx :: B ∨ H b = none)
def spR (K : PySem.W.Frag) (n : Nat) (c : Str) (ns : List Str) (sp : DMR) : Sp := fun vs H Q E => vs.length = n ∧ ∃ F a C dx ts vs0 B rest ds P X, vs = V.ref a :: rest ∧ PySem.W.nsIn K mainGlobals c = some (some (.ref C)) ∧ Same F H ∧ H a = some (.ins C dx (ns.zip vs0)) ∧ H dx = some (.own a) ∧ ts.length ≤ ns.length ∧ RepOs K F H ts vs0 B ∧
  (a :: dx :: B).Nodup ∧ (∀ b ∈ a :: dx :: B, F b = none) ∧ Reps K F ds rest ∧ sp ts ds P X ∧
  (∀ d v ts' F' H', P d ts' → ObS K ns C a dx B F H F' H' ts' → Rep K F' d v → Q v H') ∧
  ∀ e C1 ts' F' H', X e ts' → PySem.W.nsIn K mainGlobals e = some (some (.ref C1)) → ObS K ns C a dx B F H F' H' ts' → E (.ref C1) none H'
section
variable {K : PySem.W.Frag} {c : Str} {ns : List Str} {i : Nat}
end
structure DER where
  nx : Dst → Prop
  rt : D → Dst → Prop
  xr : Str → Dst → Prop
abbrev DSR := DER → Dst → Prop
structure LkR (K : PySem.W.Frag) (F0 H0 : Hp) (De : DER) (En : Ends) (E : XK) : Prop where
  nx : ∀ F H σ δ, EnvR K F0 H0 F H σ δ → De.nx δ → En.nx σ H
  rt : ∀ F H σ δ d v, EnvR K F0 H0 F H σ δ → Rep K F d v → De.rt d δ → En.rt v H
  xr : ∀ x C F H σ δ, EnvR K F0 H0 F H σ δ → De.xr x δ → PySem.W.nsIn K mainGlobals x = some (some (.ref C)) → E (.ref C) none H
def SimR (K : PySem.W.Frag) (F0 H0 : Hp) (E : XK) (t : TS) (T : DSR) : Prop := ∀ F H σ δ De En, EnvR K F0 H0 F H σ δ → LkR K F0 H0 De En E → T De δ → t En σ H
section
variable {K : PySem.W.Frag} {F0 H0 : Hp} {E : XK} {t u : TS} {T U : DSR}
end
section
variable {P : Program} {w : World} {K : PySem.W.Frag} {mg : Str → Option Value} {base : Heap} {c m q : Str} {ns : List Str} {st : Stmt} {f : Addr} {fd : FuncData} {N ps : List Str} {k n : Nat}
abbrev endR (c : Str) (ns : List Str) (a : Addr) (Pr : D → List OV → Prop) (X : Str → List OV → Prop) : DER where
  nx := fun δ => ∃ ts', δ[0]? = some (some (.own (.ob (some a) c ns ts'))) ∧ Pr .non ts'
  rt := fun d δ => ∃ ts', δ[0]? = some (some (.own (.ob (some a) c ns ts'))) ∧ Pr d ts'
  xr := fun x δ => ∃ ts', δ[0]? = some (some (.own (.ob (some a) c ns ts'))) ∧ X x ts'
theorem obS_of {F H F' H' : Hp} {C a dx : Addr} {B : List Addr} {σ : St} {δ : Dst} {ts' : List OV} (hC : PySem.W.nsIn K mainGlobals c = some (some (.ref C))) (e : EnvR K F (fun b => if b ∈ a :: dx :: B then none else H b) F' H' σ δ) (h0 : δ[0]? = some (some (.own (.ob (some a) c ns ts')))) : ObS K ns C a dx B F H F' H' ts' := by
  obtain ⟨A', e⟩ := e
  obtain ⟨v, hv, a', C', dx', vs', B', rfl, eA, g0, go, g1, g2, g3, g4⟩ := e.own 0 _ h0
  obtain rfl := go a rfl
  rw [hC] at g0
  cases g0
  have hn' := e.nod 0
  rw [eA] at hn'
  refine ⟨dx', vs', B', e.ext.ff, e.ext.fh, fun b o y z => ?_, fun b o y1 y2 y3 y4 => ?_, g1, g2, g3, g4, hn', fun b hb => ?_⟩
  · exact e.ext.hh b o (by rw [if_neg y]; exact z)
  · exact e.ext.no b o y1 (by rw [if_neg y4]; exact y2) y3
  · obtain ⟨z1, z2, _⟩ := e.new 0 b (by rw [eA]; exact hb)
    refine ⟨z1, ?_⟩
    by_cases q : b ∈ a' :: dx :: B
    · exact .inl q
    · rw [if_neg q] at z2; exact .inr z2
theorem startM_er {F H : Hp} {a C dx : Addr} {ts : List OV} {vs0 : List V} {B : List Addr} {rest : List V} {ds : List D} (hC : PySem.W.nsIn K mainGlobals c = some (some (.ref C))) (hs : Same F H) (ha : H a = some (.ins C dx (ns.zip vs0))) (hd : H dx = some (.own a)) (hlen : ts.length ≤ ns.length) (hB : RepOs K F H ts vs0 B) (hnd : (a :: dx :: B).Nodup) (hnf : ∀ b ∈ a :: dx :: B, F b = none) (hr' : Reps K F ds rest) :
    ER K F (fun b => if b ∈ a :: dx :: B then none else H b) F H (start N (V.ref a :: rest)) (startM N c ns a ts ds) (fun j => if j = 0 then a :: dx :: B else []) := by
  have hl := hr'.length
  refine ⟨by simp [start, startM, hl], ⟨Same.refl _, fun b o z => ?_, hs, fun _ _ z _ _ => z⟩, fun i t hi => ?_, fun i d hi => ?_, fun j => ?_, fun j k b hjk y1 y2 => ?_, fun j b hb => ?_⟩
  · split at z
    · cases z
    · exact z
  · unfold startM at hi
    cases i with
    | zero =>
      simp at hi
      subst hi
      exact ⟨.ref a, rfl, a, C, dx, vs0, B, rfl, rfl, hC, (fun _ z => Option.some.inj z), ha, hd, hlen, hB⟩
    | succ i =>
      rw [List.getElem?_cons_succ] at hi
      by_cases z : i < ds.length
      · rw [List.getElem?_append_left (by simpa using z), List.getElem?_map, List.getElem?_eq_getElem z] at hi
        simp at hi
        subst hi
        obtain ⟨v, g1, g2⟩ := hr'.get (List.getElem?_eq_getElem z)
        refine ⟨v, ?_, rfl, g2⟩
        unfold start
        rw [List.map_cons, List.cons_append, List.getElem?_cons_succ, List.getElem?_append_left (by simp; lia), List.getElem?_map, g1]
        rfl
      · rw [List.getElem?_append_right (by simpa using z)] at hi
        have := List.mem_of_getElem? hi
        rw [List.mem_replicate] at this
        cases this.2
  · unfold startM at hi
    cases i with
    | zero => simp at hi
    | succ i =>
      rw [List.getElem?_cons_succ] at hi
      by_cases z : i < ds.length
      · rw [List.getElem?_append_left (by simpa using z), List.getElem?_map] at hi
        simp at hi
      · rw [List.getElem?_append_right (by simpa using z)] at hi
        have := List.mem_of_getElem? hi
        rw [List.mem_replicate] at this
        cases this.2
  · split
    · exact hnd
    · exact List.nodup_nil
  · split at y1
    · split at y2
      · lia
      · cases y2
    · cases y1
  · split at hb
    · refine ⟨hnf b hb, if_pos hb, ?_⟩
      rcases List.mem_cons.mp hb with y | y
      · rw [y]; exact ⟨_, ha, rfl⟩
      · rcases List.mem_cons.mp y with y | y
        · rw [y]; exact ⟨_, hd, rfl⟩
        · exact hB.isl b y
    · cases hb
theorem okR_of {sp : DMR} (Fn : Fun K m q st f fd) (S : FnScope N ps (defScope st)) (hn : n = ps.length)
    (hbody : ∀ (cdv : Value) (A : Around) (outer : List Env) (s : Shared) (H : Hp) (E : XK), Room k (A.deeper (envOfC q (defScope st) s.heap.objs.size f cdv)) →
      ∃ t T, PSs (cxOf CX0 P w K mg base N q (defScope st) f cdv A outer s H E).nox (defBody st) t ∧ (∀ F0 H0, SimR K F0 H0 E t T) ∧ ∀ (a : Addr) ts ds Pr X, sp ts ds Pr X → T (endR c ns a Pr fun _ _ => False) (startM N c ns a ts ds)) :
    FnOk P w K mg base CX0 (k + 1) f fd ps (spR K n c ns sp) :=
  Fn.ok S (fun vs H Q E h => by rw [← hn]; exact h.1) fun cdv A outer s H vs Q E hr h => by
    obtain ⟨_, F, a, C, dx, ts, vs0, B, rest, ds, Pr, X, rfl, hC, hs, ha, hd, hlen, hB, hnd, hnf, hr', hsp, hq, hE⟩ := h
    obtain ⟨t, T, h1, h2, h3⟩ := hbody cdv A outer s H E hr
    refine ⟨t, h1, h2 F _ F H _ _ _ _ ⟨_, startM_er hC hs ha hd hlen hB hnd hnf hr'⟩ ⟨fun F' H' σ δ e p => ?_, fun F' H' σ δ d v e r p => ?_, fun _ _ _ _ _ _ _ z => ?_⟩ (h3 a ts ds Pr X hsp)⟩
    · obtain ⟨ts', h0, hp⟩ := p
      exact hq .non .non ts' F' H' hp (obS_of hC e h0) rfl
    · obtain ⟨ts', h0, hp⟩ := p
      exact hq d v ts' F' H' hp (obS_of hC e h0) r
    · obtain ⟨_, _, z⟩ := z
      exact z.elim
theorem okRX_of {sp : DMR} (Fn : Fun K m q st f fd) (S : FnScope N ps (defScope st)) (hn : n = ps.length)
    (hbody : ∀ (cdv : Value) (A : Around) (outer : List Env) (s : Shared) (H : Hp) (E : XK), Room k (A.deeper (envOfC q (defScope st) s.heap.objs.size f cdv)) →
      ∃ t T, PSs (cxOf (CXE P w) P w K mg base N q (defScope st) f cdv A outer s H E) (defBody st) t ∧ (∀ F0 H0, SimR K F0 H0 E t T) ∧ ∀ (a : Addr) ts ds Pr X, sp ts ds Pr X → T (endR c ns a Pr X) (startM N c ns a ts ds)) :
    FnOk P w K mg base (CXE P w) (k + 1) f fd ps (spR K n c ns sp) := by
  obtain ⟨oc, od, kV, doc, pm, an, cdv, ct, osl, rfl, lk, hcd⟩ := Fn.ex
  refine fn_of lk hcd S (fun vs H Q E h => by rw [← hn]; exact h.1) fun A outer s H vs Q E hr h => ?_
  obtain ⟨_, F, a, C, dx, ts, vs0, B, rest, ds, Pr, X, rfl, hC, hs, ha, hd, hlen, hB, hnd, hnf, hr', hsp, hq, hE⟩ := h
  obtain ⟨t, T, h1, h2, h3⟩ := hbody cdv A outer s H E hr
  refine ⟨t, h1, h2 F _ F H _ _ _ _ ⟨_, startM_er hC hs ha hd hlen hB hnd hnf hr'⟩ ⟨fun F' H' σ δ e p => ?_, fun F' H' σ δ d v e r p => ?_, fun x C1 F' H' σ δ e p hx => ?_⟩ (h3 a ts ds Pr X hsp)⟩
  · obtain ⟨ts', h0, hp⟩ := p
    exact hq .non .non ts' F' H' hp (obS_of hC e h0) rfl
  · obtain ⟨ts', h0, hp⟩ := p
    exact hq d v ts' F' H' hp (obS_of hC e h0) r
  · obtain ⟨ts', h0, hp⟩ := p
    exact hE x C1 ts' F' H' hp hx (obS_of hC e h0)
theorem CalO.of {sp : DMR} (Df : DefAt K mg m st f fd) (S : FnScope N ps (defScope st))
    (hb : ∀ (kV doc pm : Value) (an : Option Addr) (cdv ct : Value) (us : List Value), us.length = ps.length → bindArgs (PySem.W.fnOf m m (defArgs st) (defBody st) (defScope st) .none kV doc pm an cdv ct) ⟨us, []⟩ = pure (ps.zip us)) (hn : n = ps.length)
    (hbody : ∀ (cdv : Value) (A : Around) (outer : List Env) (s : Shared) (H : Hp) (E : XK), Room k (A.deeper (envOfC m (defScope st) s.heap.objs.size f cdv)) →
      ∃ t T, PSs (cxOf CX0 P w K mg base N m (defScope st) f cdv A outer s H E).nox (defBody st) t ∧ (∀ F0 H0, SimR K F0 H0 E t T) ∧ ∀ (a : Addr) ts ds Pr X, sp ts ds Pr X → T (endR c ns a Pr fun _ _ => False) (startM N c ns a ts ds)) :
    Cal P w K mg base m (k + 1) ps (spR K n c ns sp) :=
  ⟨f, fd, okR_of Df.fn S hn hbody, Df.here, Df.fn.kp, Df.fn.binds hb⟩
end
abbrev DEf := Dst → (D → Dst → Prop) → Prop
abbrev DTf := Dst → (Bool → Dst → Prop) → Prop
section
variable {K : PySem.W.Frag} {ta tb : TE} {Ea Eb : DEf} {Eb' : DE} {ua ub : TT} {Ca Cb : DTf} {t u : TS} {T U : DS}
end
structure CalMX (P : Program) (w : World) (K : PySem.W.Frag) (mg : Str → Option Value) (base : Heap) (c m : Str) (k : Nat) (ps : List Str) (sp : Sp) : Prop where
  ex : ∃ C f fd, PySem.W.nsIn K mainGlobals c = some (some (.ref C)) ∧ Cls K C ∧ Meth K C m f ∧ FnOk P w K mg base (CXE P w) k f fd ps sp ∧ Binds K fd ps []
section
variable {X : Cx}
end
section
variable {K : PySem.W.Frag}
end
section
variable {P : Program} {w : World} {K : PySem.W.Frag} {mg : Str → Option Value} {base : Heap} {c m q : Str} {ns : List Str} {st : Stmt} {f : Addr} {fd : FuncData} {N ps : List Str} {k n : Nat}
theorem CalMX.of {sp : DMR} (Df : MetAt K c m q st f fd) (S : FnScope N ps (defScope st))
    (hb : ∀ (kV doc pm : Value) (an : Option Addr) (cdv ct : Value) (us : List Value), us.length = ps.length → bindArgs (PySem.W.fnOf m q (defArgs st) (defBody st) (defScope st) .none kV doc pm an cdv ct) ⟨us, []⟩ = pure (ps.zip us)) (hn : n = ps.length)
    (hbody : ∀ (cdv : Value) (A : Around) (outer : List Env) (s : Shared) (H : Hp) (E : XK), Room k (A.deeper (envOfC q (defScope st) s.heap.objs.size f cdv)) →
      ∃ t T, PSs (cxOf (CXE P w) P w K mg base N q (defScope st) f cdv A outer s H E) (defBody st) t ∧ (∀ F0 H0, SimR K F0 H0 E t T) ∧ ∀ (a : Addr) ts ds Pr X, sp ts ds Pr X → T (endR c ns a Pr X) (startM N c ns a ts ds)) :
    CalMX P w K mg base c m (k + 1) ps (spR K n c ns sp) := by
  obtain ⟨C, hC, cl, hm⟩ := Df.cl
  exact ⟨C, f, fd, hC, cl, hm, okRX_of Df.fn S hn hbody, Df.fn.binds hb⟩
end
end L2

namespace L2
open PySem PySem.Spec PyProof.Rows PyProof.V PySem.W
section
variable {K : PySem.W.Frag} {h : Heap} {mg : Str → Option Value} {c wx : Str} {C W : Addr}
theorem t2 (l : K.lookup x = some ⟨.type "tuple", o, .seq #[.int p tp, .int q tq] n, sl⟩) (F : Hp): Rep K F (.tup [.int p, .int q]) (.ref x) := ⟨_, [.int p, .int q], rfl, .inr ⟨_, _, _, l, rfl, rfl, sz_le (show 2 ≤ 1000000 by decide), .cons ⟨_, rfl⟩ (.cons ⟨_, rfl⟩ (.nil))⟩, ⟨_, _, rfl, rfl, ⟨_, _, rfl, rfl, rfl⟩⟩⟩
theorem t5 (l : K.lookup x = some ⟨.type "tuple", o, .seq #[.int p tp, .int q tq, .int r tr, .int u tu, .int v tv] n, sl⟩) (F : Hp): Rep K F (.tup [.int p, .int q, .int r, .int u, .int v]) (.ref x) := ⟨_, [.int p, .int q, .int r, .int u, .int v], rfl, .inr ⟨_, _, _, l, rfl, rfl, sz_le (show 5 ≤ 1000000 by decide), .cons ⟨_, rfl⟩ (.cons ⟨_, rfl⟩ (.cons ⟨_, rfl⟩ (.cons ⟨_, rfl⟩ (.cons ⟨_, rfl⟩ (.nil)))))⟩, ⟨_, _, rfl, rfl, ⟨_, _, rfl, rfl, ⟨_, _, rfl, rfl, ⟨_, _, rfl, rfl, ⟨_, _, rfl, rfl, rfl⟩⟩⟩⟩⟩⟩
end
theorem KitV.of2 {K : PySem.W.Frag} {h : Heap} (X : K.In h) (h : ∀ d ∈ [D.int 0, .bl true, .non, .str Str.empty, .tup [], .lst [], .dic], ∀ n ∈ kitNs, PySem.W.kitOne K (.type d.tyN) (.type n) = some (kitB d n)) : KitV K := by
  refine ⟨fun d ⟨hd, hd2, hd3⟩ n hn => ?_⟩
  cases d with
  | ty m => exact absurd rfl (hd m)
  | fn m => exact absurd rfl (hd2 m)
  | exc m => exact absurd rfl (hd3.1 m)
  | obj c ns ds => exact absurd rfl (hd3.2.1 c ns ds)
  | clo q1 q2 q3 q4 => exact absurd rfl (hd3.2.2 q1 q2 q3 q4)
  | int _ => exact h (.int 0) (by simp) n hn
  | bl _ => exact h (.bl true) (by simp) n hn
  | non => exact h .non (by simp) n hn
  | str _ => exact h (.str Str.empty) (by simp) n hn
  | tup _ => exact h (.tup []) (by simp) n hn
  | lst _ => exact h (.lst []) (by simp) n hn
  | dic => exact h .dic (by simp) n hn
end L2

namespace L2
open PySem PySem.Spec PyProof.Rows PyProof.V PySem.W
def unt (C : List Addr) (H : Hp) : Hp := fun b => if b ∈ C then none else H b
def kno (C : List Addr) (T H : Hp) : Hp := fun b => if b ∈ C then T b else H b
theorem unt_in {C : List Addr} {H : Hp} {b : Addr} (h : b ∈ C) : unt C H b = none := if_pos h
theorem unt_out {C : List Addr} {H : Hp} {b : Addr} (h : b ∉ C) : unt C H b = H b := if_neg h
theorem kno_in {C : List Addr} {T H : Hp} {b : Addr} (h : b ∈ C) : kno C T H b = T b := if_pos h
theorem kno_out {C : List Addr} {T H : Hp} {b : Addr} (h : b ∉ C) : kno C T H b = H b := if_neg h
def CellT (C : List Addr) (T : Hp) : Prop := ∀ c ∈ C, ∃ o u, T c = some (.frz o (.own c)) ∧ o.data = .cell u
section
variable {P : Program} {w : World} {C : List Addr} {T H H' : Hp} {h : Heap}
theorem CellT.not (t : CellT C T) {c : Addr} {u : HO} (hc : c ∈ C) (e : T c = some u) : (∀ x, u ≠ .own x) ∧ ¬ refd u := by
  obtain ⟨o, z, e1, e2⟩ := t c hc
  rw [e] at e1; cases e1
  refine ⟨fun x q => (by cases q), fun q => ?_⟩
  rcases q with ⟨_, q⟩ | ⟨oc, c', q', q1, vs, t, q2, _⟩
  · cases q
  · cases q1; rw [e2] at q2; cases q2
theorem HOk.unt (ok : HOk P w H h) (t : CellT C H) : HOk P w (unt C H) h := fun a o e => by
  by_cases ha : a ∈ C
  · rw [unt_in ha] at e; cases e
  rw [unt_out ha] at e
  refine (ok a o e).stay (fun _ _ _ q => q) (fun b q => ?_) fun b u q r => ?_
  · rw [unt_out fun z => (t.not z q).1 _ rfl]; exact q
  · rw [unt_out fun z => (t.not z q).2 r]; exact q
theorem HOk.kno (ok : HOk P w H h) (n : ∀ c ∈ C, H c = none) (t : CellT C T) (hT : ∀ c ∈ C, ∀ o u, T c = some (.frz o u) → h.get? c = some o) : HOk P w (kno C T H) h := fun a o e => by
  by_cases ha : a ∈ C
  · rw [kno_in ha] at e
    obtain ⟨o', u, e1, e2⟩ := t a ha
    rw [e] at e1; cases e1
    have := hT a ha _ _ e
    exact ⟨this, _, this⟩
  rw [kno_out ha] at e
  refine (ok a o e).stay (fun _ _ _ q => q) (fun b q => ?_) fun b u q r => ?_
  · rw [kno_out fun z => by rw [n b z] at q; cases q]; exact q
  · rw [kno_out fun z => by rw [n b z] at q; cases q]; exact q
variable {outer : List Env} {s s' : Shared} {Q : VK} {u : Value}
theorem CE.rekno (t : CellT C H) (hT : ∀ c ∈ C, ∀ o u, H c = some (.frz o u) → s.heap.get? c = some o) (hf : ∀ c ∈ C, c ∉ frs outer) (x : CE outer P w (L2.unt C H) s (fun v H2 => Q v (L2.kno C H H2)) u s') : CE outer P w H s Q u s' := by
  obtain ⟨v, H2, os, bare, un, hok, r, q⟩ := x
  have hC : ∀ c ∈ C, H2 c = none ∧ ∀ o z, H c = some (.frz o z) → s'.heap.get? c = some o := fun c hc => by
    obtain ⟨o, z, e1, e2⟩ := t c hc
    have ho := hT c hc o _ e1
    exact ⟨un.free c o ho (unt_in hc) (by simp), fun o' z' e => by rw [e1] at e; cases e; exact un.keep c o ho (unt_in hc) (hf c hc) (by simp)⟩
  have un0 : ∀ b, H b = none → L2.unt C H b = none := fun b n => by unfold L2.unt; split; rfl; exact n
  refine ⟨v, _, os, bare, ⟨fun b o e n => un.keep b o e (un0 b n), fun b o e n => un.slot b o e (un0 b n), fun b o e n hx => ?_, un.there, fun b xs e => ?_, fun b o y e => ?_, fun b ps e => ?_⟩, hok.kno (fun c hc => (hC c hc).1) t fun c hc o z e => (hC c hc).2 o z e, r, q⟩
  · by_cases hb : b ∈ C
    · rw [kno_in hb]; exact n
    · rw [kno_out hb]; exact un.free b o e (un0 b n) hx
  · have hb : b ∉ C := fun z => by obtain ⟨_, _, e1, _⟩ := t b z; rw [e] at e1; cases e1
    rw [kno_out hb]; exact un.tups b xs (by rw [unt_out hb]; exact e)
  · by_cases hb : b ∈ C
    · rw [kno_in hb]; exact e
    · rw [kno_out hb]; exact un.frzs b o y (by rw [unt_out hb]; exact e)
  · have hb : b ∉ C := fun z => by obtain ⟨_, _, e1, _⟩ := t b z; rw [e] at e1; cases e1
    obtain ⟨more, q⟩ := un.tbls b ps (by rw [unt_out hb]; exact e)
    exact ⟨more, by rw [kno_out hb]; exact q⟩
theorem CE.unkno (n : ∀ c ∈ C, H c = none) (t : CellT C T) (hT : ∀ c ∈ C, ∀ o u, T c = some (.frz o u) → s.heap.get? c = some o) (hf : ∀ c ∈ C, c ∉ frs outer) (x : CE outer P w (L2.kno C T H) s (fun v H2 => Q v (L2.unt C H2)) u s') : CE outer P w H s Q u s' := by
  obtain ⟨v, H2, os, bare, un, hok, r, q⟩ := x
  have hC : ∀ c ∈ C, ∃ o z, s.heap.get? c = some o ∧ s'.heap.get? c = some o ∧ H2 c = some (.frz o (.own c)) ∧ o.data = .cell z := fun c hc => by
    obtain ⟨o, z, e1, e2⟩ := t c hc
    have e := un.frzs c o (.own c) (by rw [kno_in hc]; exact e1)
    exact ⟨o, z, hT c hc o _ e1, (hok c _ e).1, e, e2⟩
  have tr0 : ∀ b, b ∉ C → H b = none → L2.kno C T H b = none := fun b hb n => by rw [kno_out hb]; exact n
  have nC : ∀ {b y}, H b = some y → b ∉ C := fun e z => by rw [n _ z] at e; cases e
  refine ⟨v, _, os, bare, ⟨fun b o e n hb hx => ?_, fun b o e n hb hx => ?_, fun b o e n hx => ?_, un.there, fun b xs e => ?_, fun b o y e => ?_, fun b ps e => ?_⟩, hok.unt fun c hc => ?_, r, q⟩
  · by_cases h : b ∈ C
    · obtain ⟨o', _, e1, e2, _⟩ := hC b h
      rw [e] at e1; cases e1; exact e2
    · exact un.keep b o e (tr0 b h n) hb hx
  · exact un.slot b o e (tr0 b (fun z => hf b z hb) n) hb hx
  · by_cases h : b ∈ C
    · exact unt_in h
    · rw [unt_out h]; exact un.free b o e (tr0 b h n) hx
  · rw [unt_out (nC e)]; exact un.tups b xs (by rw [kno_out (nC e)]; exact e)
  · rw [unt_out (nC e)]; exact un.frzs b o y (by rw [kno_out (nC e)]; exact e)
  · obtain ⟨more, q⟩ := un.tbls b ps (by rw [kno_out (nC e)]; exact e)
    exact ⟨more, by rw [unt_out (nC e)]; exact q⟩
  · obtain ⟨o, z, _, _, e, e2⟩ := hC c hc
    exact ⟨o, z, e, e2⟩
variable {K : PySem.W.Frag} {mg : Str → Option Value} {base : Heap} {A : Around}
theorem Env0.unt (e : Env0 P w K mg base A outer s H) (t : CellT C H) : Env0 P w K mg base A outer s (L2.unt C H) :=
  ⟨e.frames, e.mod, fun b o q => ⟨(e.bs b o q).1, by unfold L2.unt; split; rfl; exact (e.bs b o q).2⟩, e.bsz, e.funs, fun b hb => by unfold L2.unt; split; rfl; exact e.frf b hb, e.hok.unt t, e.bare⟩
theorem Env0.kno (e : Env0 P w K mg base A outer s H) (n : ∀ c ∈ C, H c = none) (t : CellT C T) (hT : ∀ c ∈ C, ∀ o u, T c = some (.frz o u) → s.heap.get? c = some o) (hf : ∀ c ∈ C, c ∉ frs outer) (hb : ∀ c ∈ C, base.get? c = none) : Env0 P w K mg base A outer s (L2.kno C T H) :=
  ⟨e.frames, e.mod, fun b o q => ⟨(e.bs b o q).1, by rw [kno_out fun z => by rw [hb b z] at q; cases q]; exact (e.bs b o q).2⟩, e.bsz, e.funs, fun b h => by rw [kno_out fun z => hf b z h]; exact e.frf b h, e.hok.kno n t hT, e.bare⟩
end
structure CellsAt (h : Heap) (H : Hp) (cl : List (Str × Addr)) (ws : List V) : Prop where
  len : cl.length = ws.length
  at' : ∀ (i : Nat) x c v, cl[i]? = some (x, c) → ws[i]? = some v → H c = none ∧ ∃ u, RelV v u ∧ h.IsCell c (some u)
  ndn : (cl.map (·.1)).Nodup
  nda : (cl.map (·.2)).Nodup
structure CloScope (N fs ps : List Str) (sc : Scope) : Prop where
  kind : sc.kind = .function
  co : sc.isCoroutine = false
  gen : sc.isGenerator = false
  nd : N.Nodup
  pre : N.take (fs.length + ps.length) = fs ++ ps
  fre : ∀ x ∈ fs, sc.names.lookup x = some .free
  par : ∀ x ∈ ps, sc.names.lookup x = some .local
  only : ∀ y ∈ sc.names, y.2 ≠ .cell ∧ (y.2 = .free → y.1 ∈ fs)
def cxC (P : Program) (w : World) (K : PySem.W.Frag) (mg : Str → Option Value) (base : Heap) (N : List Str) (q : Str) (scope : Scope) (f : Addr) (cd : Value) (cl : List (Str × Addr)) (A : Around) (outer : List Env) (s : Shared) (H : Hp) : Cx where
  prog := P
  w := w
  K := K
  mg := mg
  base := base
  A := A.deeper (envX q scope s.heap.objs.size f cd cl)
  N := N
  s₀ := s
  H₀ := H
  env := envX q scope s.heap.objs.size f cd cl
  outer := outer
  stack := envX q scope s.heap.objs.size f cd cl :: outer
  ex := []
  fn := fun _ => false
  calm := true
  pn := []
  xe := fun _ _ => False
structure CloOk (P : Program) (w : World) (K : PySem.W.Frag) (mg : Str → Option Value) (base : Heap) (k : Nat) (q : Str) (st : Stmt) (fs : List Str) (sp : Sp) : Prop where
  run : ∀ (A : Around) (outer : List Env) (s : Shared) (H : Hp) (f c : Addr) (cl : List (Str × Addr)) (doc pm ctv : Value) (us : List Value) (ws vs : List V) (Q : VK), Room k A → Env0 P w K mg base A outer s H → s.heap.get? f = some (cloObj q st cl doc pm c ctv) → s.heap.CodeRec (.ref c) q →
    cl.map (·.1) = fs → CellsAt s.heap H cl ws → Vals vs us → sp (ws ++ vs) H Q E0 → codeAny (model P w) A (.call (.ref f) ⟨us, []⟩) (CR CX0 outer P w H s Q E0) s
theorem nd_inj {cl : List (Str × Addr)} {x y : Str} {c : Addr} (h : (cl.map (·.2)).Nodup) (a : (x, c) ∈ cl) (b : (y, c) ∈ cl) : x = y := by
  induction cl with
  | nil => cases a
  | cons p r ih =>
    rw [List.map_cons, List.nodup_cons] at h
    rcases List.mem_cons.mp a with e | a
    · rcases List.mem_cons.mp b with e' | b
      · rw [← e] at e'; cases e'; rfl
      · exact absurd (List.mem_map.mpr ⟨_, b, by rw [← e]⟩) h.1
    · rcases List.mem_cons.mp b with e' | b
      · exact absurd (List.mem_map.mpr ⟨_, a, by rw [← e']⟩) h.1
      · exact ih h.2 a b
theorem lk_nd {α : Type} {l : List (Str × α)} {x : Str} {a : α} (nd : (l.map (·.1)).Nodup) (m : (x, a) ∈ l) : l.lookup x = some a := by
  induction l with
  | nil => cases m
  | cons p r ih =>
    rw [List.map_cons, List.nodup_cons] at nd
    rcases List.mem_cons.mp m with e | m'
    · rw [← e, List.lookup_cons, beq_self_eq_true]
    · have : (x == p.1) = false := by
        rw [beq_eq_false_iff_ne]; rintro rfl
        exact nd.1 (List.mem_map.mpr ⟨_, m', rfl⟩)
      obtain ⟨p1, p2⟩ := p
      rw [List.lookup_cons, this]; exact ih nd.2 m'
section
variable {P : Program} {w : World} {K : PySem.W.Frag} {mg : Str → Option Value} {base : Heap} {N fs ps : List Str} {q : Str} {st : Stmt} {k : Nat} {sp : Sp}
theorem inv_startC {A : Around} {outer : List Env} {s : Shared} {H : Hp} {f : Addr} {cd : Value} {cl : List (Str × Addr)} {us : List Value} {ws vs : List V} {h₁ : Heap} {tk : Nat} (S : CloScope N fs ps (defScope st)) (hd : A.handled = none) (e0 : Env0 P w K mg base A outer s H) (hl : vs.length = ps.length) (hf : cl.map (·.1) = fs)
    (hc : CellsAt s.heap H cl ws) (r : Vals vs us) (hns : h₁.Ns s.heap.objs.size (fun x => (ps.zip us).reverse.lookup x)) (hk : ∀ b o, s.heap.get? b = some o → h₁.get? b = some o) :
    Inv (cxC P w K mg base N q (defScope st) f cd cl A outer s H) [] (start N (ws ++ vs)) H { s with heap := h₁, toks := tk } := by
  have hfl : fs.length = ws.length := by rw [← hf, List.length_map, hc.len]
  have hpl : fs.length + ps.length ≤ N.length := by have := congrArg List.length S.pre; rw [List.length_take, List.length_append] at this; omega
  have noA : ∀ b : Addr, b ∉ (cxC P w K mg base N q (defScope st) f cd cl A outer s H).ex := fun b z => absurd (show b ∈ ([] : List Addr) from z) (by simp)
  have cellK : ∀ {c v}, s.heap.IsCell c v → h₁.IsCell c v := fun ⟨o, ho, hd⟩ => ⟨o, hk _ _ ho, hd⟩
  have lkm : ∀ {x c}, cl.lookup x = some c → (x, c) ∈ cl := fun h => PySem.mem_of_lookup h
  have all : ∀ {x c}, (x, c) ∈ cl → H c = none ∧ ∃ u, s.heap.IsCell c (some u) := fun {x c} h => by
    obtain ⟨i, hi, e⟩ := List.mem_iff_getElem.mp h
    have hi' : i < ws.length := by rw [← hc.len]; exact hi
    obtain ⟨a, u, _, b⟩ := hc.at' i x c ws[i] (by rw [List.getElem?_eq_getElem hi, e]) (List.getElem?_eq_getElem hi')
    exact ⟨a, u, b⟩
  refine ⟨⟨e0.mod, S.kind, rfl, rfl, Nat.le_refl _, fun y z c h1 h2 => nd_inj hc.nda (lkm h1) (lkm h2), fun y hy => ?_, fun y c z => (by cases z), fun _ => hd, Around.frames_deeper e0.frames, .inr ⟨rfl, rfl⟩, fun b z => absurd z (noA b), e0.bs, e0.bsz, fun b _ _ => noA b, fun b z => absurd z (noA b), e0.funs, e0.frf⟩,
    rfl, e0.bare, Un.kept hk, ⟨_, hns, fun i y v h1 h2 h3 => ?_⟩, fun y c h => ?_, e0.hok.fresh (Nat.le_refl _), fun y c h => (all (lkm h)).1, fun p hp => absurd (show p ∈ ([] : List (Addr × Obj)) from hp) (by simp), e0.hok.kept hk, ?_⟩
  · have hy : (defScope st).names.lookup y = some .cell ∨ (defScope st).names.lookup y = some .free := hy
    rcases hy with hy | hy
    · exact absurd rfl (S.only _ (PySem.mem_of_lookup hy)).1
    · have hm := (S.only _ (PySem.mem_of_lookup hy)).2 rfl
      rw [← hf] at hm
      obtain ⟨⟨x, c⟩, hm', rfl⟩ := List.mem_map.mp hm
      exact ⟨c, lk_nd hc.ndn hm'⟩
  · have hi : i < ws.length + vs.length := by
      unfold start at h2
      by_cases hi : i < ws.length + vs.length
      · exact hi
      · rw [List.getElem?_append_right (by simpa using hi), List.getElem?_replicate] at h2
        split at h2 <;> cases h2
    have ha : (ws ++ vs)[i]? = some v := by
      unfold start at h2
      rw [List.getElem?_append_left (by simpa using hi), List.getElem?_map] at h2
      cases e : (ws ++ vs)[i]? with
      | none => rw [e] at h2; cases h2
      | some a => rw [e] at h2; cases h2; rfl
    have hp : (fs ++ ps)[i]? = some y := by
      rw [← S.pre, List.getElem?_take_of_lt (by omega)]; exact h1
    by_cases hw : i < ws.length
    · rw [List.getElem?_append_left hw] at ha
      rw [List.getElem?_append_left (by omega), ← hf, List.getElem?_map] at hp
      cases e : cl[i]? with
      | none => rw [e] at hp; cases hp
      | some p =>
        rw [e] at hp
        obtain ⟨x, c⟩ := p
        cases hp
        obtain ⟨_, u, ru, hcu⟩ := hc.at' i x c v e ha
        refine ⟨u, ru, .inr ⟨.inr (S.fre x ?_), c, lk_nd hc.ndn (List.mem_of_getElem? e), cellK hcu⟩⟩
        rw [← hf]; exact List.mem_map.mpr ⟨_, List.mem_of_getElem? e, rfl⟩
    · rw [List.getElem?_append_right (by omega)] at ha hp
      obtain ⟨u, hu, rv⟩ := r.get ha
      have ndP : ps.Nodup := by
        have : (fs ++ ps).Nodup := by rw [← S.pre]; exact S.nd.sublist (List.take_sublist _ _)
        exact (List.nodup_append.mp this).2.1
      rw [hfl] at hp
      refine ⟨u, rv, .inl ⟨S.par y (List.mem_of_getElem? hp), (show List.lookup y (ps.zip us).reverse = some u from lk_nd ?_ ?_)⟩⟩
      · rw [List.map_reverse]
        refine (List.reverse_perm _).nodup_iff.mpr ?_
        rw [List.map_fst_zip (by rw [← r.length, hl]; exact Nat.le_refl _)]; exact ndP
      · rw [List.mem_reverse]
        exact List.mem_of_getElem? (i := i - ws.length) (by rw [List.getElem?_zip_eq_some]; exact ⟨hp, hu⟩)
  · obtain ⟨_, u, hu⟩ := all (lkm h)
    exact ⟨_, cellK hu⟩
  · unfold start
    show _ = N.length
    rw [List.length_append, List.length_map, List.length_replicate, List.length_append]
    omega
theorem clo_of (S : CloScope N fs ps (defScope st))
    (hb : ∀ (cl : List (Str × Addr)) (doc pm : Value) (c : Addr) (ctv : Value) (us : List Value), us.length = ps.length → bindArgs (fnX (defName st) q (defArgs st) (defBody st) (defScope st) cl .none .none doc pm none (.ref c) ctv) ⟨us, []⟩ = pure (ps.zip us))
    (hlen : ∀ vs H Q, sp vs H Q E0 → vs.length = fs.length + ps.length)
    (hbody : ∀ (A : Around) (outer : List Env) (s : Shared) (H : Hp) (f : Addr) (cd : Value) (cl : List (Str × Addr)), cl.map (·.1) = fs → Room k (A.deeper (envX q (defScope st) s.heap.objs.size f cd cl)) →
      ∃ t, PSs (cxC P w K mg base N q (defScope st) f cd cl A outer s H) (defBody st) t ∧ ∀ vs Q, sp vs H Q E0 → t { nx := fun _ H' => Q .non H', rt := Q } (start N vs) H) : CloOk P w K mg base (k + 1) q st fs sp := by
  refine ⟨fun A outer s H f c cl doc pm ctv us ws vs Q hr e0 ho hcd hf hc r hsp => ?_⟩
  have lim : s.heap.NoLimit := e0.mod.nolimit.keeps fun b o e => (e0.bs b o e).1
  have hl := hlen _ _ _ hsp
  have hfl : fs.length = ws.length := by rw [← hf, List.length_map, hc.len]
  rw [List.length_append] at hl
  have hlv : vs.length = ps.length := by omega
  refine codeAny_call_def (fd := fnX (defName st) q (defArgs st) (defBody st) (defScope st) cl .none .none doc pm none (.ref c) ctv) (body := defBody st) (binds := ps.zip us) hr.depth ho rfl lim hcd rfl (BindsTo.of_eq (hb cl doc pm c ctv us (by rw [← r.length]; exact hlv)))
    (fun x hx => (S.only x hx).1) (fun x hx => S.par _ (List.of_mem_zip hx).1) (fun h₁ hns hk => ?_) S.co S.gen S.kind
  obtain ⟨t, ht, hq⟩ := hbody A outer s H f (.ref c) cl hf (hr.deeper _)
  have I := inv_startC (tk := s.toks + (ps.zip us).length) (q := q) (f := f) (cd := .ref c) S hr.hd e0 hlv hf hc r hns hk
  refine wpAny_mono (ht [] _ _ H _ I (hq _ Q hsp)) (fun fl s' hs => ?_) fun e s' z => (show False from z).elim
  have fin : ∀ {σ' : St} {H' : Hp} {v : V} {u : Value}, Inv (cxC P w K mg base N q (defScope st) f (.ref c) cl A outer s H) [] σ' H' s' → RelV v u → Q v H' → CE outer P w H s Q u s' :=
    fun {σ' H' v u} J rv q => ⟨v, H', J.os, J.bare, J.base, J.hok, rv, q⟩
  cases fl with
  | ret u =>
    obtain ⟨v, σ', H', J, rv, q⟩ := hs
    exact fin J rv q
  | next =>
    obtain ⟨σ', H', J, q⟩ := hs
    exact fin (v := V.non) (u := Value.none) J rfl q
  | brk =>
    obtain ⟨_, _, _, q⟩ := hs
    exact False.elim q
  | cont =>
    obtain ⟨_, _, _, q⟩ := hs
    exact False.elim q
end
structure Seen (X : Cx) (cl : List (Str × Addr)) (ix : List Nat) : Prop where
  len : cl.length = ix.length
  nm : ∀ (i : Nat) x c, cl[i]? = some (x, c) → X.env.cells.lookup x = some c ∧ X.env.kindOf x = some .cell ∧ Vis X.env.scope x ∧ ∃ j : Nat, ix[i]? = some j ∧ X.N[j]? = some x
  ndn : (cl.map (·.1)).Nodup
  fn : ∀ (i : Nat) x c, cl[i]? = some (x, c) → X.fn x = true
def ats (σ : St) (ix : List Nat) (ws : List V) : Prop := ws.length = ix.length ∧ ∀ (i j : Nat) v, ix[i]? = some j → ws[i]? = some v → σ[j]? = some (some v)
section
variable {X : Cx} {cl : List (Str × Addr)} {ix : List Nat} {pins : List (Addr × Obj)} {σ : St} {H : Hp} {s : Shared} {ws : List V}
theorem Seen.nda (S : Seen X cl ix) (ok : X.Ok) : (cl.map (·.2)).Nodup := by
  rw [List.nodup_iff_pairwise_ne, List.pairwise_map]
  have := S.ndn
  rw [List.nodup_iff_pairwise_ne, List.pairwise_map] at this
  refine List.Pairwise.imp_of_mem (fun {a b} ha hb hne e => hne ?_) this
  obtain ⟨i, hi⟩ := List.getElem?_of_mem ha
  obtain ⟨j, hj⟩ := List.getElem?_of_mem hb
  exact ok.inj a.1 b.1 a.2 (S.nm i a.1 a.2 hi).1 (by rw [(S.nm j b.1 b.2 hj).1, e])
theorem Seen.at' (S : Seen X cl ix) (I : Inv X pins σ H s) (h : ats σ ix ws) {i : Nat} {x : Str} {c : Addr} {v : V} (hi : cl[i]? = some (x, c)) (hw : ws[i]? = some v) : H c = none ∧ ∃ u, RelV v u ∧ s.heap.IsCell c (some u) := by
  obtain ⟨h1, h2, h3, j, h4, h5⟩ := S.nm i x c hi
  refine ⟨I.freeC x c h1, ?_⟩
  obtain ⟨m, hn, hl⟩ := I.loc
  obtain ⟨u, r, l⟩ := hl j x v h5 (h.2 i j v h4 hw) h3
  rcases l with ⟨k, _⟩ | ⟨_, c', e, z⟩
  · rw [h2] at k; cases k
  · rw [h1] at e; cases e; exact ⟨u, r, z⟩
theorem Seen.cells (S : Seen X cl ix) (I : Inv X pins σ H s) (h : ats σ ix ws) : CellsAt s.heap H cl ws :=
  ⟨S.len.trans h.1.symm, fun i x c v hi hw => S.at' I h hi hw, S.ndn, S.nda I.ok⟩
theorem ats.get (h : ats σ ix ws) (i : Nat) (hi : i < ix.length) : ∃ v, ws[i]? = some v := ⟨_, List.getElem?_eq_getElem (by rw [h.1]; exact hi)⟩
def tCallT (sp : Sp) (cl : List (Str × Addr)) (ix : List Nat) (t : TA) : TE := fun σ H Q => ∃ ws, ats σ ix ws ∧ t σ H fun vs H1 => ∀ T : Hp, CellsF T cl ws → CellT (cl.map (·.2)) T → (∀ c ∈ cl.map (·.2), H1 c = none) → (cl.map (·.2)).Nodup → sp vs (kno (cl.map (·.2)) T H1) (fun v H2 => Q v (unt (cl.map (·.2)) H2)) E0
theorem pe_callT {x : Str} {f : Addr} {fd : FuncData} {ps : List Str} {k : Nat} {sp : Sp} {e : Expr} {es : List Expr} {t : TA} {p pos : Pos} (F : FnOk X.prog X.w X.K X.mg X.base CX0 k f fd ps sp) (hr : Room k X.A) (hg : Gl X x) (hm : X.mg x = some (.ref f)) (hk : PySem.W.keepIn X.K (.ref f) = true) (hb : Binds X.K fd ps []) (S : Seen X cl ix)
    (ha : PA X (e :: es) t) (hdb : (x == ("__debug__" : Str)) = false := by decide) (he : starEach (e :: es) X.env = (false, eval e X.env) :: starEach es X.env := by rfl) (hpl : (backTo pos (starEach es X.env)).any (·.1) = false := by rfl) : PE X (.Call (.Name x p) (e :: es) [] pos) (tCallT sp cl ix t) := by
  intro pins s σ H Q I ⟨ws, hw, h⟩
  refine wpAny_Call_Name_kw (ld_glob I hg hm ?_ hdb)
  refine PySem.W.callWith_K (h₀ := X.base) I.ok.mod.kin hk (thn (ha pos pins s σ H _ I h) fun us s2 ⟨vs, H2, I2, r, q⟩ => ⟨I2.kIn, ?_⟩) he hpl
  have CA := S.cells I2 hw
  let T : Hp := fun b => (s2.heap.get? b).map fun o => HO.frz o (.own b)
  have hin : ∀ b ∈ cl.map (·.2), ∃ i x v, cl[i]? = some (x, b) ∧ ws[i]? = some v := fun b hb => by
    obtain ⟨⟨x, a'⟩, hm, rfl⟩ := List.mem_map.mp hb
    obtain ⟨j, hj⟩ := List.getElem?_of_mem hm
    obtain ⟨hjl, _⟩ := List.getElem?_eq_some_iff.mp hj
    exact ⟨j, x, ws[j]'(by rw [← CA.len]; exact hjl), hj, List.getElem?_eq_getElem _⟩
  have ct : CellT (cl.map (·.2)) T := fun b hb => by
    obtain ⟨i, x, v, e1, e2⟩ := hin b hb
    obtain ⟨_, u, _, o, e3, e4⟩ := CA.at' i x b v e1 e2
    exact ⟨o, _, by show (s2.heap.get? b).map _ = _; rw [e3]; rfl, e4⟩
  have cf : CellsF T cl ws := fun i v hv => by
    have hi : i < cl.length := by rw [CA.len]; exact (List.getElem?_eq_some_iff.mp hv).1
    have hx := List.getElem?_eq_getElem hi
    generalize cl[i] = p at hx
    obtain ⟨x1, c1⟩ := p
    obtain ⟨_, u, ru, o, e3, e4⟩ := CA.at' i x1 c1 v hx hv
    exact ⟨x1, c1, o, u, hx, by show (s2.heap.get? c1).map _ = _; rw [e3]; rfl, e4, ru⟩
  have n : ∀ c ∈ cl.map (·.2), H2 c = none := fun b hb => by
    obtain ⟨i, x, v, e1, e2⟩ := hin b hb
    exact (CA.at' i x b v e1 e2).1
  have hT : ∀ c ∈ cl.map (·.2), ∀ o u, T c = some (.frz o u) → s2.heap.get? c = some o := fun b _ o u e => by
    have e : (s2.heap.get? b).map (fun o => HO.frz o (.own b)) = some (.frz o u) := e
    cases q : s2.heap.get? b with
    | none => rw [q] at e; cases e
    | some o' => rw [q] at e; cases e; rfl
  have cne : ∀ c ∈ cl.map (·.2), ∃ x, X.env.cells.lookup x = some c ∧ X.fn x = true := fun b hb => by
    obtain ⟨i, x, v, e1, e2⟩ := hin b hb
    exact ⟨x, (S.nm i x b e1).1, S.fn i x b e1⟩
  have hfr : ∀ c ∈ cl.map (·.2), c ∉ frs X.stack := fun b hb z => by
    obtain ⟨x, h1, h2⟩ := cne b hb
    rcases List.mem_cons.mp (I2.stkSub b z) with e | e
    · exact I2.cne x b h1 e
    · obtain ⟨_, o, ho, _⟩ := I2.ok.funs.mem e
      exact absurd (Nat.lt_of_lt_of_le (Heap.lt_size ho) (I2.ok.cab x b h2 h1)) (Nat.lt_irrefl _)
  have hbs : ∀ c ∈ cl.map (·.2), X.base.get? c = none := fun b hb => by
    cases q : X.base.get? b with
    | none => rfl
    | some o =>
      obtain ⟨x, h1, h2⟩ := cne b hb
      have := I2.ok.cab x b h2 h1
      exact absurd (Nat.lt_of_lt_of_le (Heap.lt_size q) (Nat.le_trans I2.ok.bsz this)) (Nat.lt_irrefl _)
  have hl : (us ++ []).length = ps.length := by rw [List.append_nil, ← r.length]; exact F.len _ _ _ _ (q T cf ct n (S.nda I2.ok))
  have hbt := hb s2 us I2.kIn hl
  rw [List.append_nil] at hbt
  refine wpAny_call (codeAny_mono (F.run X.A X.stack s2 _ ⟨us, []⟩ us vs _ _ hr (I2.env0.kno n ct hT hfr hbs) hbt r (q T cf ct n (S.nda I2.ok))) fun r s' hq => ?_)
  cases r with
  | error e => exact (show False from hq).elim
  | ok fl =>
    cases fl with
    | ret u => exact I2.after (CE.unkno n ct hT hfr hq)
    | next => exact False.elim hq
    | brk => exact False.elim hq
    | cont => exact False.elim hq
end
section
variable {X : Cx}
end
def D.smp : D → Bool
  | .int _ => true
  | .bl _ => true
  | .non => true
  | .str _ => true
  | _ => false
theorem Rep.smp {K : PySem.W.Frag} {F F' : Hp} : ∀ {d : D} {v : V}, Rep K F d v → d.smp = true → Rep K F' d v
  | .int _, _, h, _ => h
  | .bl _, _, h, _ => h
  | .non, _, h, _ => h
  | .str _, _, h, _ => h
  | .ty _, _, _, z => by cases z
  | .fn _, _, _, z => by cases z
  | .tup _, _, _, z => by cases z
  | .lst _, _, _, z => by cases z
  | .dic, _, _, z => by cases z
  | .exc _, _, _, z => by cases z
  | .obj _ _ _, _, _, z => by cases z
  | .clo _ _ _ _, _, _, z => by cases z
def OV.smp : OV → Bool
  | .fz d => d.smp
  | _ => false
theorem RepN.smp {K : PySem.W.Frag} {H F H' H1 F1 H1' : Hp} : ∀ {r : OV} {v : V}, RepN K H F H' r v → r.smp = true → RepN K H1 F1 H1' r v
  | .fz d, v, ⟨A, h, _, _⟩, z => .fz (h.2.smp z)
  | .nl _, _, _, z => by cases z
  | .rt _ _, _, _, z => by cases z
  | .fx _ _, _, _, z => by cases z
  | .ob _ _ _ _, _, _, z => by cases z
def sDefC (i : Nat) (q : Str) (st : Stmt) (cl : List (Str × Addr)) : DS := fun De δ => De.nx (δ.set i (some (.own (.fz (.clo q st cl [])))))
def dCaps : List Nat → DA
  | [] => dNil
  | j :: r => dCons (dV j) (dCaps r)
def dCallI (i n : Nat) (q : Str) (st : Stmt) (cl : List (Str × Addr)) (ix : List Nat) (sp : DSp) (As : DA) : DO := fun δ P => match δ[i]? with
  | some (some (.own (.fz (.clo q' st' cl' _)))) => q' = q ∧ st' = st ∧ cl' = cl ∧ dCaps ix δ fun cs => As δ fun ds => (cs ++ ds).length = n ∧ sp (cs ++ ds) P
  | _ => False
def dCallT (n : Nat) (q : Str) (st : Stmt) (cl : List (Str × Addr)) (fs : List Str) (ix : List Nat) (sp : DSp) (As : DA) : DO := fun δ P => dCaps ix δ fun cs => As δ fun ds => match ds with
  | [a, b, .clo q' st' cl' _] => q' = q ∧ st' = st ∧ cl' = cl ∧ n = 3 ∧ ((cl.map (·.2)).Nodup → cl.map (·.1) = fs → sp [a, b, .clo q st cl cs] fun r => r.smp = true ∧ P r)
  | _ => False
def dCallP (i n : Nat) (q : Str) (st : Stmt) (fs : List Str) (sp : DSp) (As : DA) : DO := fun δ P => match δ[i]? with
  | some (some (.own (.fz (.clo q' st' cl cs)))) => q' = q ∧ st' = st ∧ cl.map (·.1) = fs ∧ fs.Nodup ∧ (cl.map (·.2)).Nodup ∧ cl.length = cs.length ∧ As δ fun ds => D.lfs cs = true ∧ D.lfs ds = true ∧ (cs ++ ds).length = n ∧ sp (cs ++ ds) fun r => r.smp = true ∧ P r
  | _ => False
section
variable {K : PySem.W.Frag} {F0 H0 F H : Hp} {σ : St} {δ : Dst}
theorem unt_seqT {C : List Addr} (ct : CellT C F) {a : Addr} {xs : List V} (h : SqT K F a xs) : SqT K (unt C F) a xs := by
  rcases h with (h | ⟨o, h⟩) | h
  · exact .inl (.inl (by rw [unt_out (fun y => by obtain ⟨_, _, e, _⟩ := ct a y; rw [h] at e; cases e)]; exact h))
  · exact .inl (.inr ⟨o, by rw [unt_out (fun y => by obtain ⟨_, _, e, _⟩ := ct a y; rw [h] at e; cases e)]; exact h⟩)
  · exact .inr h
mutual
theorem Rep.unts {C : List Addr} (ct : CellT C F) : ∀ {d : D} {v : V}, Rep K F d v → d.lf = true → Rep K (unt C F) d v
  | .int _, _, h, _ => h
  | .bl _, _, h, _ => h
  | .non, _, h, _ => h
  | .str _, _, h, _ => h
  | .ty _, _, h, _ => h
  | .fn _, _, h, _ => h
  | .tup ds, v, h, z => by
    obtain ⟨a, vs, e, h1, h2⟩ := h
    exact ⟨a, vs, e, unt_seqT ct h1, Reps.unts ct h2 (by simpa [D.lf] using z)⟩
  | .lst ds, v, h, z => by simp [D.lf] at z
  | .dic, v, h, z => by simp [D.lf] at z
  | .exc _, v, h, z => by simp [D.lf] at z
  | .obj _ _ _, v, h, z => by simp [D.lf] at z
  | .clo _ _ _ _, v, h, z => by simp [D.lf] at z
theorem Reps.unts {C : List Addr} (ct : CellT C F) : ∀ {ds : List D} {vs : List V}, Reps K F ds vs → D.lfs ds = true → Reps K (unt C F) ds vs
  | [], _, h, _ => h
  | d :: ds, vs, h, z => by
    obtain ⟨v, r, e, h1, h2⟩ := h
    simp [D.lfs] at z
    exact ⟨v, r, e, Rep.unts ct h1 z.1, Reps.unts ct h2 z.2⟩
end
end
def spT (K : PySem.W.Frag) (n : Nat) (T : Addr) (pos : Pos) (q : Str) (sp : DSp) : Sp := spL n fun vs H Q => ∃ F ds P, F T = some (.cod pos q) ∧ Same F H ∧ Reps K F ds vs ∧ sp ds P ∧ ∀ r v F' H', P r → Ext F H F' H' → RepN K H F' H' r v → Q v H'
def SimFx (K : PySem.W.Frag) (F0 H0 : Hp) (t : TE) (E : DE) : Prop := ∀ F H σ δ P Q, EnvR K F0 H0 F H σ δ → E δ P → (∀ d v F' H', P d → Ext F H F' H' → Rep K F' d v → Q v H') → t σ H Q
def SimAx (K : PySem.W.Frag) (F0 H0 : Hp) (t : TA) (E : DA) : Prop := ∀ F H σ δ P Q, EnvR K F0 H0 F H σ δ → E δ P → (∀ ds vs F' H', P ds → Ext F H F' H' → Reps K F' ds vs → Q vs H') → t σ H Q
def SimTx (K : PySem.W.Frag) (F0 H0 : Hp) (t : TT) (C : DT) : Prop := ∀ F H σ δ P Q, EnvR K F0 H0 F H σ δ → C δ P → (∀ b F' H', P b → Ext F H F' H' → Q b H') → t σ H Q
section
variable {K : PySem.W.Frag} {F0 H0 : Hp} {te ta tb : TE} {t u : TS} {T U : DS} {a : TA} {As : DA} {E Ea Eb : DE} {n : Nat} {sp : DSp}
theorem xF_o {E : DO} (h : SimOx K F0 H0 te E) : SimFx K F0 H0 te (dVal E) := fun F H σ δ P Q e w q => h F H σ δ _ Q e w fun d v F' H' p x r => by
  obtain ⟨F'', x', _, r'⟩ := r.frz x
  exact q _ v F'' H' p x' r'
theorem xA_f (h : SimAF K a As) : SimAx K F0 H0 a As := h F0 H0
theorem xO_callT {Tb : Addr} {pos : Pos} {qn : Str} (hT : F0 Tb = some (.cod pos qn)) (ha : SimAx K F0 H0 a As) : SimOx K F0 H0 (tCall (spT K n Tb pos qn sp) [] E0 a) (dCall n sp As) := fun F H σ δ P Q e w q => ha F H σ δ _ _ e w fun ds vs F1 H1 w1 x1 r1 => by
  rw [List.append_nil]
  exact ⟨by rw [← r1.length]; exact w1.1, F1, ds, P, x1.ff _ _ ((EnvR.ext e).ff _ _ hT), x1.fh, r1, w1.2, fun r v F' H' p x' r' => q r v F' H' p (x1.trans x') (r'.old x1.hh)⟩
theorem xT_b (h : SimFx K F0 H0 te E) : SimTx K F0 H0 (tB te) (dTb E) := fun F H σ δ P Q e w q => h F H σ δ _ _ e w fun d v F' H' p x r => by
  try dsimp only at p
  split at p
  · cases (show v = .bl _ from r)
    exact ⟨_, rfl, q _ F' H' p x⟩
  · exact p.elim
theorem xT_not {c : TT} {C : DT} (h : SimTx K F0 H0 c C) : SimTx K F0 H0 (tNot c) (dNot C) := fun F H σ δ P Q e w q => h F H σ δ _ _ e w fun b F' H' p x => q _ F' H' p x
theorem xS_if {c : TT} {C : DT} (h : SimTx K F0 H0 c C) (ht : SimX K F0 H0 t T) (hu : SimX K F0 H0 u U) : SimX K F0 H0 (tIfS c t u) (sIf C T U) := fun F H σ δ De En e l w => h F H σ δ _ _ e w fun b F' H' p x => by
  cases b with
  | true => exact iteT (ht F' H' σ δ De En (e.on x) l p)
  | false => exact iteB rfl (hu F' H' σ δ De En (e.on x) l p)
end
section
variable {P : Program} {w : World} {K : PySem.W.Frag} {mg : Str → Option Value} {base : Heap} {x q : Str} {st : Stmt} {f c T : Addr} {fd : FuncData} {pos : Pos} {N ps fs : List Str} {k n : Nat} {sp : DSp}
theorem CloV.of (S : CloScope N fs ps (defScope st))
    (hb : ∀ (cl : List (Str × Addr)) (doc pm : Value) (c : Addr) (ctv : Value) (us : List Value), us.length = ps.length → bindArgs (fnX (defName st) q (defArgs st) (defBody st) (defScope st) cl .none .none doc pm none (.ref c) ctv) ⟨us, []⟩ = pure (ps.zip us)) (hn : n = fs.length + ps.length)
    (hbody : ∀ (A : Around) (outer : List Env) (s : Shared) (H : Hp) (f : Addr) (cd : Value) (cl : List (Str × Addr)), cl.map (·.1) = fs → Room k (A.deeper (envX q (defScope st) s.heap.objs.size f cd cl)) →
      ∃ t T, PSs (cxC P w K mg base N q (defScope st) f cd cl A outer s H) (defBody st) t ∧ SimS K t T ∧ ∀ ds Pr, sp ds Pr → T { nx := fun _ => Pr (.fz .non), rt := Pr } (startV N ds)) : CloOk P w K mg base (k + 1) q st fs (spV K n sp) :=
  clo_of S hb (fun vs H Q h => by rw [← hn]; exact h.1) fun A outer s H f cd cl hf hr => by
    obtain ⟨t, T, h1, h2, h3⟩ := hbody A outer s H f cd cl hf hr
    refine ⟨t, h1, fun vs Q h => ?_⟩
    obtain ⟨_, F, ds, Pr, hs, hr', hsp, hq⟩ := h
    refine h2 F H F H (start N vs) (startV N ds) { nx := fun _ => Pr (.fz .non), rt := Pr } _ ⟨_, startV_er hs hr'⟩ ⟨fun F' H' σ δ e p => ?_, fun _ _ _ _ _ z => z.elim, fun _ _ _ _ _ z => z.elim, fun F' H' r v x n p => hq r v F' H' p x n⟩ (h3 ds Pr hsp)
    exact hq _ _ F' H' p e.ext (.fz rfl)
theorem CalT.of {sc : Scope} (Df : DefAt K mg x st f fd) (hc : fd.code = .ref c) (S : FnScope N ps (defScope st))
    (hb : ∀ (kV doc pm : Value) (an : Option Addr) (cdv ct : Value) (us : List Value), us.length = ps.length → bindArgs (PySem.W.fnOf x x (defArgs st) (defBody st) (defScope st) .none kV doc pm an cdv ct) ⟨us, []⟩ = pure (ps.zip us)) (hn : n = ps.length)
    (hbody : ∀ (A : Around) (outer : List Env) (s : Shared) (H : Hp) (E : XK), Room k (A.deeper (envOfC x (defScope st) s.heap.objs.size f (.ref c))) → ∀ F : Hp, F T = some (.cod pos q) → ∀ cl, cl = freeL sc (cxOf CX0 P w K mg base N x (defScope st) f (.ref c) A outer s H E).nox.env →
      ∃ t U, PSs (cxOf CX0 P w K mg base N x (defScope st) f (.ref c) A outer s H E).nox (defBody st) t ∧ SimX K F H t U ∧ ∀ ds Pr, sp ds Pr → U { nx := fun _ => Pr (.fz .non), rt := Pr } (startV N ds)) : Cal P w K mg base x (k + 1) ps (spT K n T pos q sp) := by
  obtain ⟨oc, od, kV, doc, pm, an, cdv, ct, osl, rfl, lk, hcd⟩ := Df.fn.ex
  cases (show cdv = .ref c from hc)
  refine ⟨f, _, ?_, Df.here, Df.fn.kp, Df.fn.binds hb⟩
  refine fn_of lk hcd S (fun vs H Q E h => by rw [← hn]; exact h.1) fun A outer s H vs Q E hr h => ?_
  obtain ⟨_, F, ds, Pr, hT, hs, hr', hsp, hq⟩ := h
  obtain ⟨t, U, h1, h2, h3⟩ := hbody A outer s H E hr F hT _ rfl
  refine ⟨t, h1.nox, h2 F H (start N vs) (startV N ds) { nx := fun _ => Pr (.fz .non), rt := Pr } _ ⟨_, startV_er hs hr'⟩ ⟨fun F' H' σ δ e p => ?_, fun _ _ _ _ _ z => z.elim, fun _ _ _ _ _ z => z.elim, fun F' H' r v x n p => hq r v F' H' p x n⟩ (h3 ds Pr hsp)⟩
  exact hq _ _ F' H' p e.ext (.fz rfl)
end
def spLawT (K : PySem.W.Frag) (T : Addr) (pos : Pos) (q : Str) : Sp := spL 1 fun vs H Q => ∃ (a : Addr) (ns : List Int), vs = [.ref a] ∧ SqL K H a (ns.map V.int) ∧ H T = some (.cod pos q) ∧ ns.length ≤ 63 ∧ (∀ m ∈ ns, ibN m ≤ 1048576) ∧ ∀ H', H' T = some (.cod pos q) → Q (.bl true) H'
theorem law_callT {P : Program} {w : World} {K : PySem.W.Frag} {mg mb : Str → Option Value} {k : Nat} {fa a c T : Addr} {pos : Pos} {q : Str} {fd : FuncData} {x : Str} {s₁ : Shared} {vs : List Value} {ns : List Int}
    (KX : K.In s₁.heap) (hns : s₁.heap.Ns mainGlobals mg) (hb : s₁.heap.Ns builtinsNs mb) (hbb : ∀ x : Str, x ≠ "__name__" → mb x = bootBuiltins x) (hlim : s₁.heap.NoLimit) (hg : s₁.gens = #[])
    (hbm : ∃ bm ob, mg "__builtins__" = some (.ref bm) ∧ bm ≠ builtinsNs ∧ s₁.heap.get? bm = some ob ∧ ob.cls = .type "module" ∧ ob.dict = some builtinsNs ∧ ob.data = .plain)
    (hC : CodeHd s₁.heap c T) (hT : s₁.heap.get? T = some (tabObj #[])) (hKT : K.lookup T = none)
    (ha : s₁.heap.get? a = some { cls := .type "list", data := .seq vs.toArray }) (hi : IntsAre vs ns) (hl : ns.length ≤ 63) (hbits : ∀ m ∈ ns, ibN m ≤ 1048576) (hr : Room k callerA)
    (F : ∀ base : Heap, K.In base → base.Ns mainGlobals mg → base.BuiltinsAt mg T → FnOk P w K mg base CX0 k fa fd [x] (spLawT K T pos q)) (hbind : ∀ (s : Shared) (u : Value), BindsTo s fd ⟨[u], []⟩ [(x, u)]) :
    codeAny (model P w) callerA (.call (.ref fa) ⟨[.ref a], []⟩) (fun r s' => r = .ok (.ret (.bool true)) ∧ OldK s₁.heap s'.heap ∧ s'.os = s₁.os ∧ AllBare s'.gens) s₁ := by
  have rv := vals_ints hi
  have lenV := hi.length
  have hTa : T ≠ a := fun z => by rw [z, ha] at hT; cases hT
  have core : ∀ H : Hp, H T = some (.cod pos q) → SqL K H a (ns.map V.int) → HOk P w H s₁.heap → (∀ b u, H b = some u → b = T ∨ (b = a ∧ K.lookup a = none ∧ ∃ o y, u = .frz o y)) →
      codeAny (model P w) callerA (.call (.ref fa) ⟨[.ref a], []⟩) (fun r s' => r = .ok (.ret (.bool true)) ∧ OldK s₁.heap s'.heap ∧ s'.os = s₁.os ∧ AllBare s'.gens) s₁ := by
    intro H hHT hS hok hA
    have tr : ∀ {b o}, s₁.heap.get? b = some o → o.cls ≠ .none → o.cls ≠ .type "list" → H b = none := fun {b o} e n1 n2 => by
      cases q : H b with
      | none => rfl
      | some u =>
        rcases hA b u q with rfl | ⟨rfl, _⟩
        · rw [hT] at e; cases e; exact absurd rfl n1
        · rw [ha] at e; cases e; exact absurd rfl n2
    have trd : ∀ {b o es ep}, s₁.heap.get? b = some o → o.data = .dict es ep → H b = none := fun {b o es ep} e d => by
      cases q : H b with
      | none => rfl
      | some u =>
        rcases hA b u q with rfl | ⟨rfl, _⟩
        · rw [hT] at e; cases e; cases d
        · rw [ha] at e; cases e; cases d
    have nsK : ∀ {b : Addr} {m : Str → Option Value}, s₁.heap.Ns b m → (hidT s₁.heap H).Ns b m := fun {b m} ⟨o, es, ep, e, d, r⟩ => ⟨o, es, ep, hidT_get e (trd e d), d, r⟩
    have hKb : K.In (hidT s₁.heap H) := fun b o e => hidT_get (KX b o e) (by
      cases q : H b with
      | none => rfl
      | some u =>
        rcases hA b u q with rfl | ⟨rfl, z, _⟩
        · rw [hKT] at e; cases e
        · rw [z] at e; cases e)
    have hM : Mod K mg (hidT s₁.heap H) := ⟨hKb, nsK hns, ⟨mb, nsK hb, hbb⟩, let ⟨mc, h1, h2⟩ := hlim; ⟨mc, nsK h1, h2⟩⟩
    have hB : (hidT s₁.heap H).BuiltinsAt mg T := by
      obtain ⟨bm, ob, b1, b2, b3, b4, b5, b6⟩ := hbm
      have hm : H bm = none := tr b3 (by rw [b4]; decide) (by rw [b4]; decide)
      refine ⟨bm, ob, b1, b2, fun z => ?_, fun z => ?_, hidT_get b3 hm, b4, b5, b6⟩
      · obtain ⟨o, es, ep, e, hd, _⟩ := hns
        rw [z, e] at b3; cases b3; rw [hd] at b6; cases b6
      · rw [z, hHT] at hm; cases hm
    have e0 : Env0 P w K mg (hidT s₁.heap H) callerA [] s₁ H := ⟨rfl, hM, fun b o e => of_hidT e, Nat.le_of_eq (hidT_size _ _), trivial, fun b hb => absurd (show b ∈ ([] : List Addr) from hb) (by simp), hok, .of_eq hg⟩
    refine codeAny_mono ((F _ hKb (nsK hns) hB).run callerA [] s₁ H ⟨[.ref a], []⟩ [.ref a] [.ref a] (fun v H' => v = .bl true ∧ H' T = some (.cod pos q)) E0 hr e0 (hbind s₁ (.ref a)) (.cons rfl .nil) ⟨rfl, a, ns, rfl, hS, hHT, hl, hbits, fun H' z => ⟨rfl, z⟩⟩) fun r s' h => ?_
    cases r with
    | error e => exact (show False from h).elim
    | ok fl =>
      cases fl with
      | next => exact False.elim h
      | brk => exact False.elim h
      | cont => exact False.elim h
      | ret u =>
        obtain ⟨v, H', os, bare, un, hok', r', q1, q2⟩ := h
        subst q1
        obtain rfl : u = Value.bool true := r'
        obtain ⟨ps, hps, _⟩ := hok' T _ q2
        have kp : ∀ b o, b ≠ T → s₁.heap.get? b = some o → s'.heap.get? b = some o := fun b o n e => by
          cases q : H b with
          | none => exact un.keep b o e q (by intro z; exact absurd (show b ∈ ([] : List Addr) from z) (by simp)) (by simp)
          | some u =>
            rcases hA b u q with z | ⟨rfl, _, ob, y, rfl⟩
            · exact absurd z n
            · have z2 := un.frzs _ ob y q
              obtain ⟨e1, _⟩ := hok _ _ q
              obtain ⟨e2, _⟩ := hok' _ _ z2
              rw [e] at e1; cases e1
              exact e2
        refine ⟨rfl, ⟨fun b o e => ?_, fun b o e => ?_⟩, os, bare⟩
        · by_cases hb : b = T
          · subst hb
            rw [hT] at e; cases e
            exact .inr (.inl ⟨(hC.tab hT).isCodeTable, rfl, #[], ps, rfl, by rw [Array.empty_append]; exact hps⟩)
          · exact .inl (kp b o hb e)
        · by_cases hb : b = T
          · subst hb; exact ⟨_, hps⟩
          · exact ⟨o, kp b o hb e⟩
  have okT : ∀ H : Hp, ObjOk P w H s₁.heap T (.cod pos q) := fun H => ⟨#[], hT, trivial, fun v hv => by cases hv⟩
  have hlz : ns.length ≤ sizeLine := Nat.le_trans hl (by rw [sizeLine_eq]; decide)
  cases hk : K.lookup a with
  | some o =>
    have e := KX a o hk
    rw [ha] at e
    cases e
    refine core (fun b => if b = T then some (.cod pos q) else none) (if_pos rfl) (.inr ⟨_, vs.toArray, _, hk, rfl, rfl, rfl, by rw [List.size_toArray, lenV]; exact hlz, rv⟩) (fun b u z => ?_) fun b u z => ?_
    · by_cases hb : b = T
      · have z' := (if_pos hb).symm.trans z; cases z'; subst hb; exact okT _
      · have z' := (if_neg hb).symm.trans z; cases z'
    · by_cases hb : b = T
      · exact .inl hb
      · have z' := (if_neg hb).symm.trans z; cases z'
  | none =>
    refine core (fun b => if b = T then some (.cod pos q) else if b = a then some (.frz { cls := .type "list", data := .seq vs.toArray } (.lst (ns.map V.int))) else none) (if_pos rfl) (.inl (.inr ⟨{ cls := .type "list", data := .seq vs.toArray }, (if_neg (Ne.symm hTa)).trans (if_pos rfl)⟩)) (fun b u z => ?_) fun b u z => ?_
    · by_cases hb : b = T
      · have z' := (if_pos hb).symm.trans z; cases z'; subst hb; exact okT _
      · have z1 := (if_neg hb).symm.trans z
        by_cases hb2 : b = a
        · have z' := (if_pos hb2).symm.trans z1
          cases z'
          subst hb2
          exact ⟨ha, by rw [List.length_map]; exact hlz, vs, _, rv, ha⟩
        · have z' := (if_neg hb2).symm.trans z1; cases z'
    · by_cases hb : b = T
      · exact .inl hb
      · have z1 := (if_neg hb).symm.trans z
        by_cases hb2 : b = a
        · have z' := (if_pos hb2).symm.trans z1
          cases z'
          exact .inr ⟨hb2, hk, _, _, rfl⟩
        · have z' := (if_neg hb2).symm.trans z1; cases z'
theorem law_walkT {l : PySem.W.OpenLaw} {k : Nat} {qp : Program} {loose : List Str} {XP : (Str → Option Value) → Heap → Prop} {YP : World → Heap → Prop} {d : DefRec} {K : Params → PySem.W.Frag} {c T : Addr} {pos : Pos} {q : Str} (hn : l.most = some 63) (hdf : d.params.defaults = []) (hr : Room k callerA)
    (hY : ∀ (w : World) (h : Heap), YP w h → (K w.params).In h ∧ h.get? T = some (tabObj #[])) (hC : ∀ (w : World) (h : Heap), (K w.params).In h → CodeHd h c T) (hKT : ∀ w : World, (K w.params).lookup T = none)
    (F : ∀ (w : World) (mg : Str → Option Value) (fa : Addr) (h : Heap), (K w.params).In h → h.Ns mainGlobals mg → mg d.name = some (.ref fa) →
      ∃ fd : FuncData, (∀ (s : Shared) (u : Value), BindsTo s fd ⟨[u], []⟩ [("_law_script", u)]) ∧ ∀ base : Heap, (K w.params).In base → base.Ns mainGlobals mg → base.BuiltinsAt mg T → FnOk l.prog w (K w.params) mg base CX0 k fa fd ["_law_script"] (spLawT (K w.params) T pos q)) :
    PySem.W.WalkO qp loose XP YP l.row.toRowW d [] (fun f vs => PySem.call f vs) := by
  refine Att.attach_callB hn hdf fun w s₀ s₁ mg mb fa o pm cd doc a vs ns G Y ho hd hcd hmg hobj hints hlen hbits hg => ?_
  obtain ⟨KX, hT⟩ := hY w _ Y
  obtain ⟨fd, hb, hF⟩ := F w mg fa _ KX G.T.g hmg
  exact law_callT KX G.T.g G.T.b G.T.builtins G.T.nolimit hg G.T.bmain (hC w _ KX) hT (hKT w) hobj hints hlen hbits hr hF hb
theorem law_okT {P : Program} {w : World} {K : PySem.W.Frag} {mg : Str → Option Value} {base : Heap} {st : Stmt} {f T : Addr} {pos : Pos} {q : Str} {fd : FuncData} {N : List Str} {k : Nat} (Df : DefAt K mg "law" st f fd) (S : FnScope N ["_law_script"] (defScope st))
    (hbody : ∀ (cdv : Value) (A : Around) (outer : List Env) (s : Shared) (H : Hp) (E : XK), Room k (A.deeper (envOfC "law" (defScope st) s.heap.objs.size f cdv)) → H T = some (.cod pos q) →
      ∃ t U, PSs (cxOf CX0 P w K mg base N "law" (defScope st) f cdv A outer s H E).nox (defBody st) t ∧ SimX K H H t U ∧ ∀ ns : List Int, ns.length ≤ 63 → (∀ m ∈ ns, ibN m ≤ 1048576) → U { nx := fun _ => False, rt := fun r => r = .fz (.bl true) } (startV N [.lst (ns.map .int)])) : FnOk P w K mg base CX0 (k + 1) f fd ["_law_script"] (spLawT K T pos q) :=
  Df.fn.ok S (fun vs H Q E h => h.1) fun cdv A outer s H vs Q E hr h => by
    obtain ⟨_, a, ns, rfl, hS, hT, hlen, hbits, q⟩ := h
    obtain ⟨t, U, h1, h2, h3⟩ := hbody cdv A outer s H E hr hT
    have hr' : Reps K H [.lst (ns.map D.int)] [.ref a] := ⟨_, _, rfl, ⟨a, _, rfl, hS, reps_ints.mpr rfl⟩, rfl⟩
    refine ⟨t, h1, h2 H H (start N [.ref a]) (startV N [.lst (ns.map .int)]) { nx := fun _ => False, rt := fun r => r = .fz (.bl true) } _ ⟨_, startV_er (Same.refl H) hr'⟩ ⟨fun F' H' σ δ e p => p.elim, fun _ _ _ _ _ z => z.elim, fun _ _ _ _ _ z => z.elim, fun F' H' r v x n p => ?_⟩ (h3 ns hlen hbits)⟩
    subst p
    obtain ⟨A, n1, _⟩ := n
    have : v = .bl true := n1.2
    subst this
    exact q H' (x.hh _ _ hT)
theorem clos_ok {X : Cx} {scope : Scope} (ok : X.Ok) (h : ∀ x ∈ scope.names, x.2 = .free → X.env.kindOf x.1 = some .cell) : closureFor scope X.env = pure (freeL scope X.env) := closureFor_free fun x hx e => ok.has x.1 (.inl (h x hx e))
theorem clos_okE {X : Cx} {scope : Scope} {cl : List (Str × Addr)} (e : cl = freeL scope X.env) (ok : X.Ok) (h : ∀ x ∈ scope.names, x.2 = .free → X.env.kindOf x.1 = some .cell) : closureFor scope X.env = pure cl := by rw [e]; exact clos_ok ok h
theorem seen_of {CX : CXT} {P : Program} {w : World} {K : PySem.W.Frag} {mg : Str → Option Value} {base : Heap} {N fs : List Str} {qual : Str} {scope sc : Scope} {f : Addr} {cd : Value} {A : Around} {outer : List Env} {s : Shared} {H : Hp} {E : XK} {ix : List Nat}
    (h1 : ((sc.names.filter fun x => x.2 == .free).map (·.1)).reverse = fs) (hnd : fs.Nodup) (hl : fs.length = ix.length) (h2 : (fs.zip ix).all (fun p => scope.names.lookup p.1 == some .cell && N[p.2]? == some p.1) = true) :
    Seen (cxOf CX P w K mg base N qual scope f cd A outer s H E).nox (freeL sc (cxOf CX P w K mg base N qual scope f cd A outer s H E).nox.env) ix := by
  have hm : (freeL sc (cxOf CX P w K mg base N qual scope f cd A outer s H E).nox.env).map (·.1) = fs := by
    rw [← h1]; unfold freeL; rw [List.map_reverse, List.map_map]; rfl
  have key : ∀ (i : Nat) x c, (freeL sc (cxOf CX P w K mg base N qual scope f cd A outer s H E).nox.env)[i]? = some (x, c) → ∃ j : Nat, ix[i]? = some j ∧ N[j]? = some x ∧ scope.names.lookup x = some .cell ∧ (cellsFrom (s.heap.objs.size + 1) scope.names []).lookup x = some c := fun i x c e => by
    have e1 : fs[i]? = some x := by rw [← hm, List.getElem?_map, e]; rfl
    have hi := (List.getElem?_eq_some_iff.mp e1).1
    have e2 : ix[i]? = some ix[i] := List.getElem?_eq_getElem (by rw [← hl]; exact hi)
    have hz := List.all_eq_true.mp h2 (x, ix[i]) (List.mem_of_getElem? (i := i) (by rw [List.getElem?_zip_eq_some]; exact ⟨e1, e2⟩))
    rw [Bool.and_eq_true, beq_iff_eq, beq_iff_eq] at hz
    refine ⟨ix[i], e2, hz.2, hz.1, ?_⟩
    obtain ⟨c', hc'⟩ := cell_has (n := s.heap.objs.size + 1) hz.1
    have hmem := List.mem_of_getElem? e
    unfold freeL at hmem
    rw [List.mem_reverse] at hmem
    obtain ⟨p, hp, hpe⟩ := List.mem_map.mp hmem
    have h3 : p.1 = x := congrArg Prod.fst hpe
    have h4 : ((cellsFrom (s.heap.objs.size + 1) scope.names []).lookup p.1).getD 0 = c := congrArg Prod.snd hpe
    rw [h3, hc'] at h4
    rw [hc']; exact congrArg some h4
  refine ⟨by rw [← hl, ← hm, List.length_map], fun i x c e => ?_, by rw [hm]; exact hnd, fun _ _ _ _ => rfl⟩
  obtain ⟨j, k1, k2, k3, k4⟩ := key i x c e
  exact ⟨k4, k3, .inr (.inl k3), j, k1, k2⟩
theorem pe_calT {X : Cx} {x : Str} {k : Nat} {ps : List Str} {sp : Sp} {cl : List (Str × Addr)} {ix : List Nat} {e : Expr} {es : List Expr} {t : TA} {p pos : Pos} (C : Cal X.prog X.w X.K X.mg X.base x k ps sp) (hr : Room k X.A) (hg : Gl X x) (S : Seen X cl ix) (ha : PA X (e :: es) t)
    (hdb : (x == ("__debug__" : Str)) = false := by decide) (he : starEach (e :: es) X.env = (false, eval e X.env) :: starEach es X.env := by rfl) (hpl : (backTo pos (starEach es X.env)).any (·.1) = false := by rfl) :
    PE X (.Call (.Name x p) (e :: es) [] pos) (tCallT sp cl ix t) := by
  obtain ⟨f, fd, F, hm, hk, hb⟩ := C.ex
  exact pe_callT F hr hg hm hk hb S ha hdb he hpl
def cdOk (o : Obj) (T : Addr) : Bool := o.cls == .type "code" && match o.data with
  | .fields vs => vs[11]? == some (.ref T) && vs.getD 11 .none == .ref T && (match vs.getD 18 .none, vs.getD 7 .none, vs.getD 9 .none, vs.getD 10 .none with
    | .str _ _, .int _ _, .bool _, .int _ _ => true
    | _, _, _, _ => false)
  | _ => false
theorem codeHd_in {K : PySem.W.Frag} {base : Heap} {c T : Addr} {o : Obj} (X : K.In base) (l : K.lookup c = some o) (h : cdOk o T = true) (n : c ≠ T) : CodeHd base c T := by
  unfold cdOk at h
  rw [Bool.and_eq_true, beq_iff_eq] at h
  obtain ⟨h1, h⟩ := h
  split at h
  · rename_i vs hd
    simp only [Bool.and_eq_true, beq_iff_eq] at h
    obtain ⟨⟨h2, h3⟩, h⟩ := h
    split at h
    · rename_i _ _ _ _ a b c d e f g h5 h6 h7 h8
      exact ⟨o, vs, a, b, c, d, e, f, g, X _ _ l, h1, hd, h2, h3, h5, h6, h7, h8, n⟩
    · cases h
  · cases h
theorem lawFT {P : Program} {w : World} {K : PySem.W.Frag} {mg : Str → Option Value} {x : Str} {st : Stmt} {f T : Addr} {fd : FuncData} {k : Nat} {sp : Sp} (Df : DefAt K mg x st f fd) (hb : ∀ (s : Shared) (v : Value), BindsTo s fd ⟨[v], []⟩ [("_law_script", v)]) (hc : ∀ base : Heap, K.In base → base.Ns mainGlobals mg → base.BuiltinsAt mg T → FnOk P w K mg base CX0 k f fd ["_law_script"] sp) :
    ∃ fd : FuncData, (∀ (s : Shared) (v : Value), BindsTo s fd ⟨[v], []⟩ [("_law_script", v)]) ∧ ∀ base : Heap, K.In base → base.Ns mainGlobals mg → base.BuiltinsAt mg T → FnOk P w K mg base CX0 k f fd ["_law_script"] sp := ⟨fd, hb, hc⟩
def rEqZ : DR2 := fun x y P => match x, y with
  | .int i, .int j => P (.bl (decide (i = j)))
  | .non, .non => P (.bl true)
  | .non, .int _ => P (.bl false)
  | .int _, .non => P (.bl false)
  | _, _ => False
def rNeZ : DR2 := fun x y P => match x, y with
  | .int i, .int j => P (.bl (!decide (i = j)))
  | .non, .non => P (.bl false)
  | .non, .int _ => P (.bl true)
  | .int _, .non => P (.bl true)
  | _, _ => False
end L2

namespace L2
open PySem PySem.Spec PyProof.Rows PyProof.V PySem.W
abbrev lamObj (q : Str) (ar : Arguments) (bd : Expr) (sc : Scope) (cl : List (Str × Addr)) (pm : Value) (c : Addr) (ctv : Value) : Obj := kla_obj "<lambda>" q ar bd sc cl pm c ctv
def lamSt (ar : Arguments) (sc : Scope) : Stmt := .FunctionDef "" ar [] [] none [] sc none "" ⟨0, 0, 0, 0⟩
structure LamOk (P : Program) (w : World) (K : PySem.W.Frag) (mg : Str → Option Value) (base : Heap) (k : Nat) (q : Str) (ar : Arguments) (bd : Expr) (sc : Scope) (fs : List Str) (sp : Sp) : Prop where
  run : ∀ (A : Around) (outer : List Env) (s : Shared) (H : Hp) (f c : Addr) (cl : List (Str × Addr)) (pm ctv : Value) (us : List Value) (ws vs : List V) (Q : VK), Room k A → Env0 P w K mg base A outer s H → s.heap.get? f = some (lamObj q ar bd sc cl pm c ctv) → s.heap.CodeRec (.ref c) q →
    cl.map (·.1) = fs → CellsAt s.heap H cl ws → Vals vs us → sp (ws ++ vs) H Q E0 → codeAny (model P w) A (.call (.ref f) ⟨us, []⟩) (CR CX0 outer P w H s Q E0) s
section
variable {P : Program} {w : World} {K : PySem.W.Frag} {mg : Str → Option Value} {base : Heap} {N fs ps : List Str} {q : Str} {ar : Arguments} {bd : Expr} {sc : Scope} {k : Nat} {sp : Sp}
theorem lam_of (S : CloScope N fs ps (defScope (lamSt ar sc)))
    (hb : ∀ (cl : List (Str × Addr)) (pm : Value) (c : Addr) (ctv : Value) (us : List Value), us.length = ps.length → bindArgs (kla_fn "<lambda>" q ar bd sc cl pm (.ref c) ctv) ⟨us, []⟩ = pure (ps.zip us))
    (hlen : ∀ vs H Q, sp vs H Q E0 → vs.length = fs.length + ps.length)
    (hbody : ∀ (A : Around) (outer : List Env) (s : Shared) (H : Hp) (f : Addr) (cd : Value) (cl : List (Str × Addr)), cl.map (·.1) = fs → Room k (A.deeper (envX q sc s.heap.objs.size f cd cl)) →
      ∃ t, PE (cxC P w K mg base N q sc f cd cl A outer s H) bd t ∧ ∀ vs Q, sp vs H Q E0 → t (start N vs) H Q) : LamOk P w K mg base (k + 1) q ar bd sc fs sp := by
  refine ⟨fun A outer s H f c cl pm ctv us ws vs Q hr e0 ho hcd hf hc r hsp => ?_⟩
  have lim : s.heap.NoLimit := e0.mod.nolimit.keeps fun b o e => (e0.bs b o e).1
  have hl := hlen _ _ _ hsp
  have hfl : fs.length = ws.length := by rw [← hf, List.length_map, hc.len]
  rw [List.length_append] at hl
  have hlv : vs.length = ps.length := by omega
  refine kla_callFunE (fd := kla_fn "<lambda>" q ar bd sc cl pm (.ref c) ctv) hr.depth ho rfl S.co S.gen rfl hcd ?_
  rw [hb cl pm c ctv us (by rw [← r.length]; exact hlv)]
  refine wpAny_pure (wpAny_newFunctionEnv (fun x hx => (S.only x hx).1) (fun x hx => S.par _ (List.of_mem_zip hx).1) (fun h₁ hns hsb => ⟨lim.fresh _ hsb, ?_⟩) S.kind)
  have hk : ∀ b o, s.heap.get? b = some o → h₁.get? b = some o := fun b o e => hsb.extBut b o (Nat.ne_of_lt (Heap.lt_size e)) (Heap.get?_push_of_some _ e)
  show codeAny _ _ (.expr bd (envX q sc s.heap.objs.size f (.ref c) cl)) _ _
  obtain ⟨t, ht, hq⟩ := hbody A outer s H f (.ref c) cl hf (hr.deeper _)
  have I := inv_startC (tk := s.toks + (ps.zip us).length) (q := q) (f := f) (cd := .ref c) (st := lamSt ar sc) S hr.hd e0 hlv hf hc r hns hk
  refine kla_codeExpr (wpAny_mono (ht [] _ _ H _ I (hq _ Q hsp)) (fun u s' hs => ?_) fun e s' z => (show False from z).elim)
  obtain ⟨v, H', J, rv, q⟩ := hs
  exact ⟨v, H', J.os, J.bare, J.base, J.hok, rv, q⟩
end
section
variable {X : Cx}
def tLam (P : Addr) (pos : Pos) (q : Str) (ar : Arguments) (bd : Expr) (sc : Scope) (cl : List (Str × Addr)) : TE := fun _ H Q => H P = some (.cod pos q) ∧ ∀ f c oc pm ctv H', H f = none → Same H H' → H' f = some (.frz (lamObj q ar bd sc cl pm c ctv) (.own f)) → H' c = some (.frz oc (.own c)) → isCod oc q → Q (.ref f) H'
theorem pe_lam {P c : Addr} {pos : Pos} {q : Str} {params : Arguments} {body : Expr} {scope : Scope} {cl : List (Str × Addr)} (hcode : X.env.code = .ref c) (hC : CodeHd X.base c P) (hB : X.base.BuiltinsAt X.mg P) (hcl : X.Ok → closureFor scope X.env = pure cl)
    (hq : X.env.qual ++ "<lambda>" = q := by rfl) (hd0 : defaultsOf params X.env = ([], []) := by rfl) :
    PE X (.Lambda params body scope pos) (tLam P pos q params body scope cl) := by
  intro pins s σ H Q I ⟨hP, h⟩
  obtain ⟨ps, ho, ht, hc⟩ := I.hok P _ hP
  refine kla_eval hd0 ?_
  rw [hq]
  have hg : s.heap.Ns mainGlobals X.mg := I.mod.glob.keeps I.bk
  have nb : ∀ {b o}, X.base.get? b = some o → b ≠ P := fun {b o} e z => by rw [z] at e; rw [(I.bs P o e).2] at hP; cases hP
  have hgP : mainGlobals ≠ P := by obtain ⟨o, es, ep, e, _⟩ := I.mod.glob; exact nb e
  have hB' : s.heap.BuiltinsAt X.mg P := by obtain ⟨bm, o, h1, h2, h3, h4, h5, h6⟩ := hB; exact ⟨bm, o, h1, h2, h3, h4, I.bk _ _ h5, h6⟩
  cases hcd : codeAmong pos ps.toList with
  | some v =>
    obtain ⟨c', oc, rfl, hHc, hoc⟩ := hc v hcd
    refine kla_makeFunctionHit (hcl I.ok) I.ok.glob hg hcode (hC.keeps I.bk) ho ht hcd hB' fun ctv h' tk hk hsz => ?_
    have hn : H h'.objs.size = none := I.hok.fresh hsz
    have I1 : Inv X pins σ (upd H h'.objs.size (.frz (lamObj q params body scope cl ((X.mg "__name__").getD .none) c' ctv) (.own h'.objs.size))) _ :=
      I.laid (t' := tk) (h' := h'.push (lamObj q params body scope cl ((X.mg "__name__").getD .none) c' ctv)) (fun b u e => Heap.get?_push_of_some _ (hk b u e)) hsz ⟨Heap.get?_push_size _ rfl, _, Heap.get?_push_size _ rfl⟩
    refine ⟨.ref h'.objs.size, _, I1, rfl, h _ c' oc _ ctv _ hn (Same.new hn) upd_same ?_ hoc⟩
    rw [upd_ne fun z => by rw [z, hn] at hHc; cases hHc]; exact hHc
  | none =>
    refine kla_makeFunction (hcl I.ok) I.ok.glob hg hcode (hC.keeps I.bk) ho ht hcd hgP hB' fun c' ctv h' tk hx' hge hlt hrec htb => ?_
    obtain ⟨c2, oc, vs, t, e0, hoc, hd, hv⟩ := hrec
    cases e0
    have hnc : H c' = none := I.hok.fresh hge
    have hnf : H h'.objs.size = none := I.hok.fresh (Nat.le_trans hge (Nat.le_of_lt hlt))
    have hfc : h'.objs.size ≠ c' := Nat.ne_of_gt hlt
    generalize hfo : lamObj q params body scope cl ((X.mg "__name__").getD .none) c' ctv = fo
    let H' : Hp := upd (upd H c' (.frz oc (.own c'))) h'.objs.size (.frz fo (.own h'.objs.size))
    have e1 : ∀ b u, H b = some u → H' b = some u := fun b u e => by
      show upd _ _ _ b = _
      rw [upd_ne (fun z => by rw [z, hnf] at e; cases e), upd_ne (fun z => by rw [z, hnc] at e; cases e)]; exact e
    have keep : ∀ b o, b ≠ P → s.heap.get? b = some o → (h'.push fo).get? b = some o := fun b o hb e => Heap.get?_push_of_some _ (hx' b o hb e)
    have nP : ∀ {b}, H b = none → b ≠ P := fun e z => by rw [z, hP] at e; cases e
    have hPn : (h'.push fo).get? P = some (tabObj (ps ++ #[rawInt pos.line, rawInt pos.col, .ref c'])) := Heap.get?_push_of_some _ htb
    have un : Un (frs X.stack) [] H H' s.heap (h'.push fo) := ⟨fun b o e n _ _ => keep b o (nP n) e, fun b o e n _ _ => ⟨o.slots, keep b o (nP n) e⟩, fun b o e n _ => ?_, fun b o e _ => ?_, fun b xs e => e1 _ _ e, fun b o u e => e1 _ _ e, fun b ps e => ⟨#[], by rw [Array.append_empty]; exact e1 _ _ e⟩⟩
    rotate_left
    · have hb := Heap.lt_size e
      show upd _ _ _ b = _
      rw [upd_ne (Nat.ne_of_lt (Nat.lt_of_lt_of_le hb (Nat.le_trans hge (Nat.le_of_lt hlt)))), upd_ne (Nat.ne_of_lt (Nat.lt_of_lt_of_le hb hge))]; exact n
    · by_cases hb : b = P
      · subst hb; exact ⟨_, hPn⟩
      · exact ⟨_, keep b o hb e⟩
    have hok : HOk X.prog X.w H' (h'.push fo) := fun b u e => by
      by_cases h1 : b = h'.objs.size
      · subst h1
        have e : upd _ _ _ _ = some u := e
        rw [upd_same] at e; cases e
        have : (h'.push fo).get? h'.objs.size = some fo := Heap.get?_push_size _ (by rw [← hfo]; rfl)
        exact ⟨this, _, this⟩
      by_cases h2 : b = c'
      · subst h2
        have e : upd _ _ _ _ = some u := e
        rw [upd_ne h1, upd_same] at e; cases e
        have := Heap.get?_push_of_some fo hoc
        exact ⟨this, _, this⟩
      have e : upd _ _ _ _ = some u := e
      rw [upd_ne h1, upd_ne h2] at e
      by_cases h3 : b = P
      · subst h3
        rw [hP] at e; cases e
        refine ⟨_, hPn, ?_, fun v hv' => ?_⟩
        · have := TriplesOk_snoc pos.line pos.col (.ref c') ps.toList ht
          simpa using this
        · have := codeAmong_snoc (pos := pos) (c := .ref c') ps.toList ht hcd
          rw [show (ps ++ #[rawInt pos.line, rawInt pos.col, .ref c']).toList = ps.toList ++ [rawInt pos.line, rawInt pos.col, .ref c'] by simp, this] at hv'
          cases hv'
          refine ⟨c', oc, rfl, ?_, vs, t, hd, hv⟩
          show upd _ _ _ _ = _
          rw [upd_ne (Ne.symm hfc), upd_same]
      · refine (I.hok b u e).stay (fun d v hdv qv => keep d v ?_ qv) (fun d qd => e1 _ _ qd) fun d v qd _ => e1 _ _ qd
        rcases hdv with rfl | hdv
        · exact h3
        · rintro rfl; rw [hP] at hdv; cases hdv
    have I1 : Inv X pins σ H' { s with heap := h'.push fo, toks := tk } := I.call' (ch := []) rfl un hok I.bare (fun b z => absurd z (by simp))
    subst hfo
    refine ⟨.ref h'.objs.size, _, I1, rfl, h _ c' oc ((X.mg "__name__").getD .none) ctv H' hnf e1 ?_ ?_ ⟨vs, t, hd, hv⟩⟩
    · show upd _ _ _ _ = _
      rw [upd_same]
    · show upd _ _ _ _ = _
      rw [upd_ne (Ne.symm hfc), upd_same]
def tCallPL (i : Nat) (q : Str) (ar : Arguments) (bd : Expr) (sc : Scope) (fs : List Str) (sp : Sp) (t : TA) : TE := fun σ H Q => ∃ f c oc cl pm ctv ws, σ[i]? = some (some (.ref f)) ∧ H f = some (.frz (lamObj q ar bd sc cl pm c ctv) (.own f)) ∧ cl.map (·.1) = fs ∧ (cl.map (·.2)).Nodup ∧ (cl.map (·.1)).Nodup ∧ cl.length = ws.length ∧
  t σ H fun vs H1 => H1 f = some (.frz (lamObj q ar bd sc cl pm c ctv) (.own f)) ∧ H1 c = some (.frz oc (.own c)) ∧ isCod oc q ∧ CellsF H1 cl ws ∧ sp (ws ++ vs) (unt (cl.map (·.2)) H1) (fun v H2 => Q v (kno (cl.map (·.2)) H1 H2)) E0
theorem pe_callPL {y : Str} {i k : Nat} {q : Str} {ar : Arguments} {bd : Expr} {sc : Scope} {fs : List Str} {sp : Sp} {e : Expr} {es : List Expr} {t : TA} {p pos : Pos} (hn : PE X (.Name y p) (tVar i)) (C : LamOk X.prog X.w X.K X.mg X.base k q ar bd sc fs sp) (hr : Room k X.A) (ha : PA X (e :: es) t)
    (he : starEach (e :: es) X.env = (false, eval e X.env) :: starEach es X.env := by rfl) (hpl : (backTo pos (starEach es X.env)).any (·.1) = false := by rfl) : PE X (.Call (.Name y p) (e :: es) [] pos) (tCallPL i q ar bd sc fs sp t) := by
  intro pins s σ H Q I ⟨f, c, oc, cl, pm, ctv, ws, hs, h1, hf, hnd, hnn, hlen, h⟩
  refine wpAny_Call_Name_kw (thn (hn pins s σ H (fun v H1 => v = .ref f ∧ H1 = H) I ⟨_, hs, rfl, rfl⟩) fun u s1 ⟨v, H1, I1, r1, e1, e2⟩ => ?_)
  subst e1 e2
  cases r1
  have fat : ∀ {σ H s pins}, Inv X pins σ H s → H f = some (.frz (lamObj q ar bd sc cl pm c ctv) (.own f)) → FnAt f s.heap := fun I h => ⟨_, _, _, _, (I.hok f _ h).1⟩
  refine callWith_F (fat I1 h1) (thn (ha pos pins s1 σ H1 _ I1 h) fun us s2 ⟨vs, H2, I2, r, g1, g2, ⟨vs', t, g3, g4⟩, gc, q⟩ => ⟨fat I2 g1, ?_⟩) he hpl
  rw [List.nil_append]
  have ct : CellT (cl.map (·.2)) H2 := fun a ha => by
    obtain ⟨⟨x, a'⟩, hm, rfl⟩ := List.mem_map.mp ha
    obtain ⟨j, hj⟩ := List.getElem?_of_mem hm
    obtain ⟨hjl, _⟩ := List.getElem?_eq_some_iff.mp hj
    obtain ⟨x', a2, o, u, e1, e2, e3, _⟩ := gc j ws[j] (List.getElem?_eq_getElem (by rw [← hlen]; exact hjl))
    rw [hj] at e1; cases e1
    exact ⟨o, _, e2, e3⟩
  have hT : ∀ b ∈ cl.map (·.2), ∀ o u, H2 b = some (.frz o u) → s2.heap.get? b = some o := fun b _ o u e => (I2.hok b _ e).1
  have hfr : ∀ b ∈ cl.map (·.2), b ∉ frs X.stack := fun b hb z => by
    obtain ⟨o, u, e1, _⟩ := ct b hb
    rw [I2.stkFree b z] at e1; cases e1
  have hc : CellsAt s2.heap (unt (cl.map (·.2)) H2) cl ws := ⟨hlen, fun j x a v e1 e2 => ⟨unt_in (List.mem_map.mpr ⟨_, List.mem_of_getElem? e1, rfl⟩), by
    obtain ⟨x', a2, o, u, e3, e4, e5, e6⟩ := gc j v e2
    rw [e1] at e3; cases e3
    exact ⟨u, e6, o, (I2.hok a _ e4).1, e5⟩⟩, hnn, hnd⟩
  refine wpAny_call (codeAny_mono (C.run X.A X.stack s2 _ f c cl pm ctv us ws vs _ hr (I2.env0.unt ct) (I2.hok f _ g1).1 ⟨c, oc, vs', t, rfl, (I2.hok c _ g2).1, g3, g4⟩ hf hc r q) fun r s' hq => ?_)
  cases r with
  | error e => exact (show False from hq).elim
  | ok fl =>
    cases fl with
    | ret u => exact I2.after (CE.rekno ct hT hfr hq)
    | next => exact False.elim hq
    | brk => exact False.elim hq
    | cont => exact False.elim hq
end
section
variable {K : PySem.W.Frag} {F0 H0 : Hp} {c c' : TT} {C C' : DT}
theorem xT_or (h : SimTx K F0 H0 c C) (g : SimTx K F0 H0 c' C') : SimTx K F0 H0 (tOr c c') (dOr C C') := fun F H σ δ P Q e w q => h F H σ δ _ _ e w fun b F' H' p x => by
  cases b with
  | true => exact iteT (q _ F' H' p x)
  | false => exact iteB rfl (g F' H' σ δ P Q (e.on x) p fun b F2 H2 p2 x2 => q b F2 H2 p2 (x.trans x2))
end
def spLst (q : Str) (ar : Arguments) (bd : Expr) (sc : Scope) (fs : List Str) (sp : Sp) : Sp := spL 3 fun vs H Q => ∃ (lo hi : Int) (f c : Addr) (oc : Obj) (cl : List (Str × Addr)) (pm ctv : Value) (ws : List V) (I : Int → Int → Hp → Prop), vs = [.int lo, .int hi, .ref f] ∧ isCod oc q ∧ cl.map (·.1) = fs ∧ (cl.map (·.2)).Nodup ∧ fs.Nodup ∧ cl.length = ws.length ∧ I lo hi H ∧
  (∀ b g H1, b < g → I b g H1 → H1 f = some (.frz (lamObj q ar bd sc cl pm c ctv) (.own f)) ∧ H1 c = some (.frz oc (.own c)) ∧ CellsF H1 cl ws ∧
    ∀ R : VK, (∀ t H2, I (if t = true then b else (b + g) / 2 + 1) (if t = true then (b + g) / 2 else g) (kno (cl.map (·.2)) H1 H2) → R (.bl t) H2) → sp (ws ++ [.int ((b + g) / 2)]) (unt (cl.map (·.2)) H1) R E0) ∧
  (∀ b g H1, ¬ b < g → I b g H1 → Q (.int g) H1)
end L2

namespace Lw
open PySem L2 PyProof.Rows
def top (i : Nat) : Stmt := PySem.Challenge.pw_liftwave_k39_least.main.body.getD i (.Pass ⟨0, 0, 0, 0⟩)
/-! ### running a def's worth -/
abbrev vD (d : D) : Option Sl := some (.own (.fz d))
abbrev vI (i : Int) : Option Sl := some (.own (.fz (.int i)))
abbrev vL (ts : List OV) : Option Sl := some (.own (.nl ts))
set_option hygiene false
local macro_rules | `(tactic| walk_at "v") => `(tactic| simp only [vD, vI, vL, startV, sNext, sSeq, sBreak, sCont, sDrop, sRet, sRetN, sRetV, sIf, sSet, sAug, sAsg, sApp, sPut, sAugI, sApp2, sExt, sFrz, sPopG, sClr, sNever, dCatL, dRevL, sFor, gN, gsNil, gsCons, gT, dFz, dVal, dLf, dV, dB, dC, dOp, dUn, rU1, rI2, rI2C, rEqD, rNeD, rIsN, rNotN, D.isNon, dTb, dNot, dAnd, dOr, dIf, dAndV, dOrV, dNotV, dChain, dChainN, dkLast, dkLink, dNil, dCons, dNilO, dConsO, dTup, dLst, ixL, ixT, ixS, dCB, dCBo, lenD, lenS, max2, min2, L2.intD, absD, listD, dListB, tupD, dNoPt, dPt, dSlL, dCall, dCallB, dItL, dItT, dRng1, dRng2, dRng3, dRev, blkD, dComp, isiD, kitB, catTD, eqND, neND, D.same, allD, anyD, maxLD, dBitL, dEnum, dZip, dZip3, dZipT, dNotInC, dGetC, sortD, divmodD, dIxO, sumD, dMNil, dMCons, dMMv, noBw, forMR, sForM, sIfMv, dSlT, dSlB, dTupB, dCatB, sAppMv, sSetMv, dRep1, dRevR, dCallM, startMV, sLend, fixFrom, fixS, unlFrom, unlS, dListR, sApp2N, dTruth, dCompIf, sPut2, dSlSt, dSlSA, sRaise, sTry2, sTry3, isxD, isxT, dFstr, dUpper, dFind, dTIdx, rNotInS, ordD, dCompX, rIsB, rIsnotB, intTD, dStarts, dStrip, sMethF, sFExtT, dCallK, L2.g1, dCallD, dCallDB, dCallL, sDefC, dCaps, dCallI, dCallT, dCallP, rEqZ, rNeZ, OV.smp, D.smp, dCallLB, sCallIO, startIO, sTag, gB, dCompB, dRngD, sAugI2, dFld, sFSet, sFNew, sFAug, sFApp, sMeth, dMethP, dMake, startM, dListRev, dJoin, mulSD, addSD, strD, dSlS, dItS, OV.val, OV.vals, OV.vals_eq, D.lf, D.lfs, OV.lf, OV.lfs,
  List.map_cons, List.map_nil, List.cons_append, List.nil_append, List.length_cons, List.length_nil, List.replicate, Nat.reduceAdd, Nat.reduceSub, Nat.reduceLeDiff, List.getElem?_cons_zero, List.getElem?_cons_succ, List.set_cons_zero, List.set_cons_succ, Bool.not_true, Bool.not_false, Bool.true_and, Bool.and_true, Bool.false_and, Bool.and_false, true_and, and_true, if_true, if_false, Bool.false_eq_true, List.length_map, reduceIte, decide_eq_true_eq, Option.some.injEq, Sl.own.injEq, OV.ob.injEq, exists_eq_left', val_fzI, lfs_fzI, lfs_ints, fz_int, set_fzI, app_fzI, CDiv, CMul, CPow, Int.reduceLT, Int.reduceLE, Int.reduceNeg, Int.reducePow, Int.reduceToNat, Int.reduceMul, Int.reduceAdd, Int.reduceSub, true_or, or_true, nat10, nat2, kn_int, kn_bool, kn_str, kn_tuple, kn_list, String.reduceBEq, String.reduceEq, decide_true, decide_false, not_true_eq_false, Bool.not_eq_true, Bool.or_self, Bool.or_false, Bool.false_or, Bool.not_not, eq_self, ne_eq, not_true, not_false_eq_true, atI_c0, atI_c1, atI_c2, atI_c3, atI_c4, beq_self_eq_true, Bool.true_or, Bool.or_true])
local macro_rules | `(tactic| walk_at "s") => `(tactic| (refine sSeq_k fun N hN => ?_; walk_at "v"))
local macro_rules | `(tactic| walk_at "n") => `(tactic| (refine hN _ ?_; clear hN; clear N))
set_option hygiene true
section
variable {P : Program} {w : World} {K : PySem.W.Frag} {mg : Str → Option Value} {base : Heap}

seal L2.PA L2.PE L2.PS L2.PSs L2.PT L2.PW L2.PG L2.PGs L2.PO L2.PI
/-! ### cell_at -/
abbrev s_law_cell_at : Stmt := top 3
theorem sc_law_cell_at : FnScope ["_law_script", "_law_k"] ["_law_script", "_law_k"] (defScope s_law_cell_at) := ⟨rfl, rfl, rfl, by decide +kernel, rfl, by decide +kernel, by decide +kernel⟩
def sp_law_cell_at : DSp := fun ds P => ∃ (ns : List Int) (k : Int), ds = [.lst (ns.map .int), .int k] ∧ 0 ≤ k ∧ P (.fz (.int (ns.getD k.toNat 0)))
theorem ok_law_cell_at {f : Addr} {fd : FuncData} (Df : DefAt K mg "_law_cell_at" s_law_cell_at f fd) (B : BltV mg) (KV : KitV K) :
    Cal P w K mg base "_law_cell_at" 1 ["_law_script", "_law_k"] (spV K 2 sp_law_cell_at) := by
  refine CalV.of Df sc_law_cell_at (fun _ _ _ _ _ _ us hl => match us, hl with | [_, _], _ => rfl) rfl (fun cdv A outer s H E hr => ⟨_, _, (pss_cons (ps_if (pt_cmpR op_lt (pv 1) (pe_callB call_len_seq (by rfl) B.len PySem.boot_len (pa_cons (pv 0) pa_nil)) (nomark _)) (pss_one (ps_ret (pe_ix ix_list (pv 0) (pv 1) (fun _ _ => rfl)))) pss_nil)
      (pss_one (ps_ret pe_int))),
    (sS_seq (sS_if (sT_test (sF_op oS_b0 sB_var (sB_f (sF_cb cS_len (sAB_cons sB_var sAB_nil))))) (sS_ret (sO_f (sF_opF oF_ixL sF_var sF_var))) sS_next)
      (sS_ret (sO_f sF_int))), ?_⟩)
  rintro ds Pr ⟨ns, k, rfl, h0, q⟩
  walk_at "v"
  split
  · rename_i h
    exact ⟨_, atI_ints h0 h, q⟩
  · rename_i h
    have e : ns.getD k.toNat 0 = 0 := by
      have hk : ns.length ≤ k.toNat := by lia
      simp [List.getD, List.getElem?_eq_none hk]
    rw [e] at q
    exact q

/-! ### whole -/
abbrev s_law_whole : Stmt := top 4
theorem sc_law_whole : FnScope ["_law_found"] ["_law_found"] (defScope s_law_whole) := ⟨rfl, rfl, rfl, by decide +kernel, rfl, by decide +kernel, by decide +kernel⟩
def sp_law_whole : DSp := fun ds P => match ds with
  | [.int _] => P (.fz (.bl true))
  | _ => False
theorem ok_law_whole {f : Addr} {fd : FuncData} (Df : DefAt K mg "_law_whole" s_law_whole f fd) (B : BltV mg) (KV : KitV K) :
    Cal P w K mg base "_law_whole" 1 ["_law_found"] (spV K 1 sp_law_whole) := by
  refine CalV.of Df sc_law_whole (fun _ _ _ _ _ _ us hl => match us, hl with | [_], _ => rfl) rfl (fun cdv A outer s H E hr => ⟨_, _, (pss_one (ps_ret (pe_and (pe_callB call_isiD (by rfl) B.isinstance boot_isinstance (pa_cons (pv 0) (pa_cons (pe_bltn (v := .ty "int") (by rfl) B.int PyProof.Rows.boot_int (by rfl)) pa_nil))) (pe_one (pe_not (pe_callB call_isiD (by rfl) B.isinstance boot_isinstance (pa_cons (pv 0) (pa_cons (pe_bltn (v := .ty "bool") (by rfl) B.bool PyProof.Rows.boot_bool (by rfl)) pa_nil)))))))),
    (sS_ret (sO_f (sF_andV (sF_cb (cS_isi KV) (sAB_cons sB_var (sAB_cons (sB_f sF_ty) sAB_nil))) (sF_notV (sF_cb (cS_isi KV) (sAB_cons sB_var (sAB_cons (sB_f sF_ty) sAB_nil))))))), ?_⟩)
  intro ds Pr h
  unfold sp_law_whole at h
  split at h
  · walk_at "v"
    exact h
  · exact h.elim

/-! ### noted: raw -/
abbrev s_law_noted : Stmt := top 5
theorem sc_law_noted : FnScope ["_law_asked", "_law_number", "_law_edge"] ["_law_asked", "_law_number", "_law_edge"] (defScope s_law_noted) := ⟨rfl, rfl, rfl, by decide +kernel, rfl, by decide +kernel, by decide +kernel⟩
def spNoted : Sp := spL 3 fun vs H Q => ∃ (a : Addr) (n e : Int) (xs : List V), vs = [.ref a, .int n, .int e] ∧ H a = some (.lst xs) ∧ xs.length < sizeLine ∧ Q (.bl (decide (e ≤ n))) (upd H a (.lst (xs ++ [.int n])))
theorem ok_law_noted {f : Addr} {fd : FuncData} (Df : DefAt K mg "_law_noted" s_law_noted f fd) (B : BltV mg) (KV : KitV K) :
    Cal P w K mg base "_law_noted" 1 ["_law_asked", "_law_number", "_law_edge"] spNoted := by
  refine Cal.of Df sc_law_noted (fun _ _ _ _ _ _ us hl => match us, hl with | [_, _, _], _ => rfl) (fun vs H Q E h => h.1) fun cdv A outer s H vs Q E hr h => ⟨_, (pss_cons (ps_expr (pe_bm PySem.F.plainAttrs_list PySem.F.slot_list_append PySem.F.type_list_append mt_append (pv 0) (pa_cons (pv 1) pa_nil)))
      (pss_one (ps_ret (pe_cmpR op_ge (pv 1) (pv 2) (nomark _))))), ?_⟩
  obtain ⟨_, a, n, e, xs, rfl, ha, hl, q⟩ := h
  exact ⟨_, rfl, .inl ⟨rfl, xs, SqL.of ha⟩, _, rfl, a, xs, _, rfl, rfl, ha, hl, _, rfl, _, rfl, n, e, rfl, rfl, q⟩
/-! ### the lambda -/
abbrev s_law_right : Stmt := top 8
theorem sc_law_right : FnScope ["_law_low", "_law_high", "_law_edge", "_law_asked", "_law_found"] ["_law_low", "_law_high", "_law_edge"] (defScope s_law_right) := ⟨rfl, rfl, rfl, by decide +kernel, rfl, by decide +kernel, by decide +kernel⟩
def lamOf : Stmt → Expr
  | .Assign _ (.Call _ [_, _, l] _ _) _ => l
  | _ => .Name "" ⟨0, 0, 0, 0⟩
def lamAr : Expr → Arguments
  | .Lambda a _ _ _ => a
  | _ => defArgs (.Pass ⟨0, 0, 0, 0⟩)
def lamBd : Expr → Expr
  | .Lambda _ b _ _ => b
  | e => e
def lamSc : Expr → Scope
  | .Lambda _ _ s _ => s
  | _ => defScope (.Pass ⟨0, 0, 0, 0⟩)
abbrev lamE : Expr := lamOf ((defBody s_law_right).getD 1 (.Pass ⟨0, 0, 0, 0⟩))
abbrev lamQ : Str := "_law_right.<locals>.<lambda>"
theorem sc_lam : CloScope ["_law_edge", "_law_asked", "_law_number"] ["_law_edge", "_law_asked"] ["_law_number"] (defScope (lamSt (lamAr lamE) (lamSc lamE))) := ⟨rfl, rfl, rfl, by decide +kernel, rfl, by decide +kernel, by decide +kernel, by decide +kernel⟩
def spLam : Sp := spL 3 fun vs H Q => ∃ (a : Addr) (n e : Int) (xs : List V), vs = [.int e, .ref a, .int n] ∧ H a = some (.lst xs) ∧ xs.length < sizeLine ∧ Q (.bl (decide (e ≤ n))) (upd H a (.lst (xs ++ [.int n])))
theorem ok_lam (c_law_noted : Cal P w K mg base "_law_noted" 1 ["_law_asked", "_law_number", "_law_edge"] spNoted) : LamOk P w K mg base 2 lamQ (lamAr lamE) (lamBd lamE) (lamSc lamE) ["_law_edge", "_law_asked"] spLam := by
  refine lam_of sc_lam (fun _ _ _ _ us hl => match us, hl with | [_], _ => rfl) (fun vs H Q h => h.1) fun A outer s H f cd cl hf hr => ⟨_, pe_cal c_law_noted (hr.mono (by decide)) (by rfl) (pa_cons (pv 1) (pa_cons (pv 2) (pa_cons (pv 0) pa_nil))), fun vs Q h => ?_⟩
  obtain ⟨_, a, n, e, xs, rfl, ha, hl, q⟩ := h
  exact ⟨_, rfl, _, rfl, _, rfl, rfl, a, n, e, xs, rfl, ha, hl, q⟩
/-! ### least: raw -/
abbrev s_least : Stmt := top 1
theorem sc_least : FnScope ["low", "high", "good", "below", "found", "middle"] ["low", "high", "good"] (defScope s_least) := ⟨rfl, rfl, rfl, by decide +kernel, rfl, by decide +kernel, by decide +kernel⟩
theorem ok_least {f : Addr} {fd : FuncData} (Df : DefAt K mg "least" s_least f fd) (B : BltV mg) (KV : KitV K) (c_law_noted : Cal P w K mg base "_law_noted" 1 ["_law_asked", "_law_number", "_law_edge"] spNoted) :
    Cal P w K mg base "least" 3 ["low", "high", "good"] (spLst lamQ (lamAr lamE) (lamBd lamE) (lamSc lamE) ["_law_edge", "_law_asked"] spLam) := by
  refine Cal.of Df sc_least (fun _ _ _ _ _ _ us hl => match us, hl with | [_, _, _], _ => rfl) (fun vs H Q E h => h.1) fun cdv A outer s H vs Q E hr h => ⟨_, (pss_cons (ps_set (i := 3) sc_least.nd rfl (Or.inl rfl) (pv 0))
      (pss_cons (ps_set (i := 4) sc_least.nd rfl (Or.inl rfl) (pv 1))
      (pss_cons (ps_while PassesOwn.never (pt_cmpR op_lt (pv 3) (pv 4) (nomark _)) (pss_cons (ps_set (i := 5) sc_least.nd rfl (Or.inl rfl) (pe_op op_fdiv (pe_op op_add (pv 3) (pv 4)) pe_int))
      (pss_one (ps_if (pt_val (pe_callPL (pv 2) (ok_lam c_law_noted) (hr.mono (by decide)) (pa_cons (pv 5) pa_nil))) (pss_one (ps_set (i := 4) sc_least.nd rfl (Or.inl rfl) (pv 5))) (pss_one (ps_set (i := 3) sc_least.nd rfl (Or.inl rfl) (pe_op op_add (pv 5) pe_int)))))))
      (pss_one (ps_ret (pv 4)))))), ?_⟩
  obtain ⟨_, lo, hi, f, c, oc, cl, pm, ctv, ws, I, rfl, hoc, hf, hnd, hfn, hlen, h0, hstep, hend⟩ := h
  refine ⟨_, rfl, _, rfl, fun m σ H => ∃ (b g : Int) (o : Option V), σ = [some (.int lo), some (.int hi), some (.ref f), some (.int b), some (.int g), o] ∧ I b g H ∧ (g - b).toNat = m, ⟨_, lo, hi, none, rfl, h0, rfl⟩, ?_⟩
  rintro m σ H1 ⟨b, g, o, rfl, hI, hm⟩
  refine ⟨_, rfl, _, rfl, b, g, rfl, rfl, _, rfl, ?_⟩
  dsimp only
  by_cases hbg : b < g
  · rw [if_pos (by simpa using hbg)]
    obtain ⟨h1, h2, h3, h4⟩ := hstep b g H1 hbg hI
    refine ⟨fun σ' H' => ∃ m', m' < m ∧ ∃ (b g : Int) (o : Option V), σ' = [some (.int lo), some (.int hi), some (.ref f), some (.int b), some (.int g), o] ∧ I b g H' ∧ (g - b).toNat = m', fun _ _ z => z, ?_⟩
    refine ⟨_, rfl, _, rfl, b, g, rfl, rfl, b + g, 2, rfl, rfl, ⟨by decide, by decide⟩, ?_⟩
    refine ⟨f, c, oc, cl, pm, ctv, ws, rfl, h1, hf, hnd, by rw [hf]; exact hfn, hlen, _, rfl, h1, h2, hoc, h3, h4 _ fun t H2 hI2 => ⟨_, rfl, ?_⟩⟩
    cases t with
    | true => exact iteT ⟨_, rfl, _, by omega, b, _, _, rfl, hI2, rfl⟩
    | false => exact iteB rfl ⟨_, rfl, _, 1, rfl, rfl, _, by omega, _, g, _, rfl, hI2, rfl⟩
  · rw [if_neg (by simpa using hbg)]
    exact ⟨_, rfl, hend b g H1 hbg hI⟩
/-! ### _law_found = least(_law_low, _law_high, lambda ..): by worth -/
def sLst39 : DS := fun De δ => match δ with
  | [some (.own (.fz (.int lo))), some (.own (.fz (.int hi))), some (.own (.fz (.int e))), some (.own (.nl [])), _] => lo ≤ hi ∧ e ≤ hi ∧ hi - lo < 2 ^ 250 ∧ ∀ xs : List Int, (∀ x ∈ xs, lo ≤ x ∧ x ≤ hi) → (xs = [] ∨ (2 : Int) ^ (xs.length - 1) ≤ hi - lo) →
      De.nx [vI lo, vI hi, vI e, vL (xs.map fun x => .fz (.int x)), vI (if e < lo then lo else e)]
  | _ => False
theorem p2mono {k n : Nat} (h : k ≤ n) : (2 : Int) ^ k ≤ 2 ^ n := by
  have := Nat.pow_le_pow_right (n := 2) (by decide) h
  exact_mod_cast this
theorem pow_len {n : Nat} {d : Int} (h : (2 : Int) ^ n ≤ d) (hd : d < 2 ^ 250) : n < 250 := by
  rcases Nat.lt_or_ge n 250 with z | z
  · exact z
  · exact absurd (Int.lt_of_le_of_lt (Int.le_trans (p2mono z) h) hd) (Int.lt_irrefl _)
theorem ibN_gt {n : Nat} {d : Int} (h : (2 : Int) ^ n ≤ d) : n < ibN d := by
  have h0 : (0 : Int) < d := Int.lt_of_lt_of_le (Int.pow_pos (by decide)) h
  unfold ibN
  rw [if_neg (by omega)]
  have h1 : 2 ^ n ≤ d.natAbs := by
    have : ((2 ^ n : Nat) : Int) ≤ (d.natAbs : Int) := by
      rw [Int.natAbs_of_nonneg (by omega)]
      exact_mod_cast h
    exact_mod_cast this
  have := (Nat.le_log2 (by omega)).mpr h1
  omega
theorem sim39 {F0 H0 : Hp} {T : Addr} {pos : Pos} {cl : List (Str × Addr)} (hT : F0 T = some (.cod pos lamQ)) (hm : cl.map (·.1) = (["_law_edge", "_law_asked"] : List Str)) :
    SimX K F0 H0 (tAsg (tCallT (spLst lamQ (lamAr lamE) (lamBd lamE) (lamSc lamE) ["_law_edge", "_law_asked"] spLam) cl [2, 3] (tCons (tVar 0) (tCons (tVar 1) (tCons (tLam T pos lamQ (lamAr lamE) (lamBd lamE) (lamSc lamE) cl) tNil)))) (gName 4)) sLst39 := fun F H σ δ De En e l w => by
  unfold sLst39 at w
  split at w
  rotate_left
  · exact w.elim
  rename_i lo hi ed o4
  obtain ⟨hlh, hel, hbig, w⟩ := w
  obtain ⟨A, e⟩ := e
  obtain ⟨v0, s0, a0, r0⟩ := e.own 0 _ rfl
  obtain ⟨v1, s1, a1, r1⟩ := e.own 1 _ rfl
  obtain ⟨v2, s2, a2, r2⟩ := e.own 2 _ rfl
  cases (show v0 = .int lo from r0)
  cases (show v1 = .int hi from r1)
  cases (show v2 = .int ed from r2)
  obtain ⟨v3, s3, a, vs, B, rfl, eA, ha, hvs, hB⟩ := e.own 3 _ rfl
  subst hvs hB
  have nw := e.new 3 a (by rw [eA]; exact List.mem_cons_self)
  have hlen := e.len
  have hFH := e.ext.fh
  refine ⟨[.int ed, .ref a], ⟨rfl, fun i j v h1 h2 => ?_⟩, _, s0, _, s1, hFH _ _ (e.ext.ff _ _ hT), fun f c oc pm ctv H1 hn hs h1 h2 h3 Tt cf ct hcn hnd => ?_⟩
  · match i, h1, h2 with
    | 0, h1, h2 => cases h1; cases h2; exact s2
    | 1, h1, h2 => cases h1; cases h2; exact s3
  have ha1 := hs _ _ ha
  have nC : ∀ {b u}, H1 b = some u → b ∉ cl.map (·.2) := fun {b u} z y => by rw [hcn b y] at z; cases z
  have naC := nC ha1
  have hfa : f ≠ a := fun z => by rw [z, ha] at hn; cases hn
  have hca : c ≠ a := fun z => by rw [z, ha1] at h2; cases h2
  have hlc : cl.length = 2 := by rw [← List.length_map (f := (·.1)), hm]; rfl
  generalize hC : cl.map (·.2) = C at *
  generalize hdd : (if ed < lo then lo else ed) = d at w
  have hd1 : lo ≤ d ∧ d ≤ hi ∧ (∀ m, lo ≤ m → (ed ≤ m → d ≤ m) ∧ (¬ ed ≤ m → m + 1 ≤ d)) := by
    rw [← hdd]; split <;> refine ⟨by omega, by omega, fun m hm => ⟨fun _ => by omega, fun _ => by omega⟩⟩
  refine ⟨rfl, lo, hi, f, c, oc, cl, pm, ctv, [.int ed, .ref a], fun b g H' => ∃ xs : List Int, H' a = some (.lst (xs.map V.int)) ∧ (∀ b' o, b' ≠ a → kno C Tt H1 b' = some o → H' b' = some o) ∧ lo ≤ b ∧ b ≤ g ∧ g ≤ hi ∧ b ≤ d ∧ d ≤ g ∧
      (∀ x ∈ xs, lo ≤ x ∧ x ≤ hi) ∧ (g - b) * 2 ^ xs.length ≤ hi - lo ∧ (xs = [] ∨ (2 : Int) ^ (xs.length - 1) ≤ hi - lo), rfl, h3, hm, by rw [hC]; exact hnd, by decide, hlc, ?_, ?_, ?_⟩
  · exact ⟨[], by rw [kno_out naC]; exact ha1, fun _ _ _ z => z, Int.le_refl _, hlh, Int.le_refl _, hd1.1, hd1.2.1, by simp, by simp, .inl rfl⟩
  · rintro b g H' hbg ⟨xs, g1, g2, g3, g4, g5, g6, g7, g8, g9, g10⟩
    rw [hC]
    refine ⟨g2 _ _ hfa (by rw [kno_out (nC h1)]; exact h1), g2 _ _ hca (by rw [kno_out (nC h2)]; exact h2), fun i v hv => ?_, fun R hR => ?_⟩
    · obtain ⟨x, a', o, u, e1, e2, e3⟩ := cf i v hv
      have hin : a' ∈ C := by rw [← hC]; exact List.mem_map.mpr ⟨_, List.mem_of_getElem? e1, rfl⟩
      exact ⟨x, a', o, u, e1, g2 _ _ (fun z => naC (by rw [← z]; exact hin)) (by rw [kno_in hin]; exact e2), e3⟩
    · have hp : (1 : Int) * 2 ^ xs.length ≤ hi - lo := Int.le_trans (Int.mul_le_mul_of_nonneg_right (by omega) (Int.le_of_lt (Int.pow_pos (by decide)))) g9
      rw [Int.one_mul] at hp
      have hl := pow_len hp hbig
      have hm1 : b ≤ (b + g) / 2 := by omega
      have hm2 : (b + g) / 2 < g := by omega
      have hh1 : ((b + g) / 2 - b) * 2 ≤ g - b := by omega
      have hh2 : (g - ((b + g) / 2 + 1)) * 2 ≤ g - b := by omega
      generalize (b + g) / 2 = m at *
      have key : ∀ y : Int, y * 2 ≤ g - b → y * 2 ^ (xs.length + 1) ≤ hi - lo := fun y hy => by
        rw [Int.pow_succ, Int.mul_comm (2 ^ xs.length) 2, ← Int.mul_assoc]
        exact Int.le_trans (Int.mul_le_mul_of_nonneg_right hy (Int.le_of_lt (Int.pow_pos (by decide)))) g9
      have h8 : ∀ x ∈ xs ++ [m], lo ≤ x ∧ x ≤ hi := fun x hx => by
        rcases List.mem_append.mp hx with z | z
        · exact g8 x z
        · cases List.mem_singleton.mp z; omega
      have hq := hd1.2.2 m (by omega)
      refine ⟨rfl, a, m, ed, xs.map V.int, rfl, by rw [unt_out naC]; exact g1, by rw [List.length_map, sizeLine_eq]; omega, hR _ _ ⟨xs ++ [m], ?_, fun b' o hb' hk => ?_, ?_⟩⟩
      · rw [kno_out naC, upd_same, List.map_append]; rfl
      · by_cases z : b' ∈ C
        · rw [kno_in z]; exact g2 b' o hb' hk
        · rw [kno_out z, upd_ne hb', unt_out z]; exact g2 b' o hb' hk
      · by_cases hem : ed ≤ m
        · simp only [hem, decide_true, if_true]
          exact ⟨g3, by omega, by omega, by omega, by omega, h8, by rw [List.length_append]; exact key _ hh1, .inr (by rw [List.length_append]; exact hp)⟩
        · simp only [hem, decide_false, Bool.false_eq_true, if_false]
          exact ⟨by omega, by omega, by omega, by omega, by omega, h8, by rw [List.length_append]; exact key _ hh2, .inr (by rw [List.length_append]; exact hp)⟩
  · rintro b g H' hbg ⟨xs, g1, g2, g3, g4, g5, g6, g7, g8, g9, g10⟩
    obtain rfl : g = d := by omega
    have kp : ∀ b' u, b' ≠ a → H b' = some u → unt C H' b' = some u := fun b' u hb z => by
      have z1 := hs _ _ z
      rw [unt_out (nC z1)]
      exact g2 _ _ hb (by rw [kno_out (nC z1)]; exact z1)
    have ga : unt C H' a = some (.lst (xs.map V.int)) := by rw [unt_out naC]; exact g1
    refine l.nx F (unt C H') _ _ ⟨fun j => if j = 3 then [a] else [], ?_, ⟨e.ext.ff, fun b' u z => kp b' u (fun q => by rw [q, nw.2.1] at z; cases z) (e.ext.hh _ _ z), fun b' u z => kp b' u (fun q => by rw [q, nw.1] at z; cases z) (hFH _ _ z), e.ext.no⟩, fun i t hi => ?_, fun i t hi => ?_, fun i => ?_, fun i j b' hij z1 z2 => ?_, fun i b' hb => ?_⟩ (w xs g8 g10)
    · rw [List.length_set]; exact hlen
    · have h4 : (σ.set 4 (some (V.int g)))[4]? = some (some (V.int g)) := List.getElem?_set_self (by rw [hlen]; exact Nat.lt_succ_self 4)
      have ho : ∀ j, j ≠ 4 → (σ.set 4 (some (V.int g)))[j]? = σ[j]? := fun j hj => List.getElem?_set_ne (Ne.symm hj)
      match i, hi with
      | 0, hi => cases hi; exact ⟨_, by rw [ho 0 (by decide)]; exact s0, rfl, rfl⟩
      | 1, hi => cases hi; exact ⟨_, by rw [ho 1 (by decide)]; exact s1, rfl, rfl⟩
      | 2, hi => cases hi; exact ⟨_, by rw [ho 2 (by decide)]; exact s2, rfl, rfl⟩
      | 3, hi =>
        cases hi
        refine ⟨_, by rw [ho 3 (by decide)]; exact s3, a, _, [], rfl, rfl, ga, ?_⟩
        have := RepOs.fzs (K := K) (F := F) (H := unt C H') (reps_ints (xs := xs).mpr rfl)
        rwa [List.map_map] at this
      | 4, hi => cases hi; exact ⟨_, h4, rfl, rfl⟩
      | i + 5, hi => cases hi
    · match i, hi with
      | 0, hi => cases hi
      | 1, hi => cases hi
      | 2, hi => cases hi
      | 3, hi => cases hi
      | 4, hi => cases hi
      | i + 5, hi => cases hi
    · split
      · simp
      · exact List.nodup_nil
    · split at z1
      · split at z2
        · omega
        · cases z2
      · cases z1
    · split at hb
      · cases List.mem_singleton.mp hb
        exact ⟨nw.1, nw.2.1, _, ga, rfl⟩
      · cases hb
abbrev s_law_due : Stmt := top 6
theorem sc_law_due : FnScope ["_law_low", "_law_edge"] ["_law_low", "_law_edge"] (defScope s_law_due) := ⟨rfl, rfl, rfl, by decide +kernel, rfl, by decide +kernel, by decide +kernel⟩
def sp_law_due : DSp := fun ds P => ∃ lo e : Int, ds = [.int lo, .int e] ∧ P (.fz (.int (if e < lo then lo else e)))
theorem ok_law_due {f : Addr} {fd : FuncData} (Df : DefAt K mg "_law_due" s_law_due f fd) (B : BltV mg) (KV : KitV K) :
    Cal P w K mg base "_law_due" 1 ["_law_low", "_law_edge"] (spV K 2 sp_law_due) := by
  refine CalV.of Df sc_law_due (fun _ _ _ _ _ _ us hl => match us, hl with | [_, _], _ => rfl) rfl (fun cdv A outer s H E hr => ⟨_, _, (pss_cons (ps_if (pt_cmpR op_lt (pv 1) (pv 0) (nomark _)) (pss_one (ps_ret (pv 0))) pss_nil)
      (pss_one (ps_ret (pv 1)))),
    (sS_seq (sS_if (sT_test (sF_op oS_b0 sB_var sB_var)) (sS_ret (sO_f sF_var)) sS_next)
      (sS_ret (sO_f sF_var))), ?_⟩)
  rintro ds Pr ⟨lo, e, rfl, k⟩
  walk_at "v"
  split at k
  · rename_i h; rw [if_pos h]; exact k
  · rename_i h; rw [if_neg h]; exact k
abbrev s_law_few : Stmt := top 7
theorem sc_law_few : FnScope ["_law_asked", "_law_low", "_law_high", "_law_number"] ["_law_asked", "_law_low", "_law_high"] (defScope s_law_few) := ⟨rfl, rfl, rfl, by decide +kernel, rfl, by decide +kernel, by decide +kernel⟩
def sp_law_few : DSp := fun ds P => ∃ (xs : List Int) (lo hi : Int), ds = [.lst (xs.map .int), .int lo, .int hi] ∧ (∀ x ∈ xs, lo ≤ x ∧ x ≤ hi) ∧ (xs.length : Int) ≤ ibN (hi - lo) + 2 ∧ P (.fz (.bl true))
theorem ok_law_few {f : Addr} {fd : FuncData} (Df : DefAt K mg "_law_few" s_law_few f fd) (B : BltV mg) (KV : KitV K) (c_law_whole : Cal P w K mg base "_law_whole" 1 ["_law_found"] (spV K 1 sp_law_whole)) :
    Cal P w K mg base "_law_few" 2 ["_law_asked", "_law_low", "_law_high"] (spV K 3 sp_law_few) := by
  refine CalV.of Df sc_law_few (fun _ _ _ _ _ _ us hl => match us, hl with | [_, _, _], _ => rfl) rfl (fun cdv A outer s H E hr => ⟨_, _, (pss_cons (ps_if (pt_cmpR op_gt (pe_callB call_len_seq (by rfl) B.len PySem.boot_len (pa_cons (pv 0) pa_nil)) (pe_op op_add (pe_bm0 PySem.F.plainAttrs_int PySem.F.slot_int_bit_length PySem.F.type_int_bit_length mt_bitL (pe_op op_sub (pv 2) (pv 1))) pe_int) (nomark _)) (pss_one (ps_ret pe_bl)) pss_nil)
      (pss_cons (ps_for PassesOwn.never rfl (pi_list (pv 0)) (pg_name (i := 3) sc_law_few.nd rfl (Or.inl rfl)) (pss_one (ps_if (pw_or (pt_not (pt_val (pe_cal c_law_whole (hr.mono (by decide)) (by rfl) (pa_cons (pv 3) pa_nil)))) (pw_or1 (pt_not (pt_chain op_le op_le (pv 1) (pv 3) (pv 2))))).pt (pss_one (ps_ret pe_bl)) pss_nil)))
      (pss_one (ps_ret pe_bl)))),
    (sS_seq (sS_if (sT_test (sF_op oS_b0 (sB_f (sF_cb cS_len (sAB_cons sB_var sAB_nil))) (sB_f (sF_op oS_i0 (sB_f (sF_bitL (sB_f (sF_op oS_i0 sB_var sB_var)))) (sB_f sF_int))))) (sS_ret (sO_f sF_bl)) sS_next)
      (sS_seq (sS_for (sI_list sF_var) sG_name (sS_if (sT_or (sT_not (sT_b (sF_o (sO_call (sAF_cons sF_var sAF_nil))))) (sT_not (sT_test (sF_chain oS_b0 oS_b0 sB_var sB_var sB_var)))) (sS_ret (sO_f sF_bl)) sS_next))
      (sS_ret (sO_f sF_bl)))), ?_⟩)
  rintro ds Pr ⟨xs, lo, hi, rfl, hx, hl, k⟩
  walk_at "s"
  rw [if_neg (by omega)]
  walk_at "n"
  walk_at "s"
  refine ⟨fun i δ => ∃ o, δ = [vD (.lst (xs.map .int)), vI lo, vI hi, o], ⟨_, rfl⟩, ?_, ?_⟩
  · rintro i x δ hx' ⟨o, rfl⟩
    rw [List.getElem?_map] at hx'
    cases hq : xs[i]? with
    | none => rw [hq] at hx'; cases hx'
    | some y =>
      rw [hq] at hx'
      cases hx'
      have hy := hx y (List.mem_of_getElem? hq)
      walk_at "v"
      simp only [sp_law_whole, OV.val, Bool.not_true, Bool.false_eq_true, if_false]
      rw [if_pos hy.1, decide_eq_true hy.2]
      exact ⟨_, rfl⟩
  · rintro δ ⟨o, rfl⟩
    dsimp only
    walk_at "n"
    walk_at "v"
    exact k
def sp_law_right : DSp := fun ds P => ∃ lo hi e : Int, ds = [.int lo, .int hi, .int e] ∧ lo ≤ hi ∧ e ≤ hi ∧ hi - lo < 2 ^ 250 ∧ P (.fz (.bl true))
theorem cs_lam : ∀ x ∈ (lamSc lamE).names, x.2 = .free → (defScope s_law_right).names.lookup x.1 = some .cell := by decide +kernel
theorem sn_lam {A : Around} {outer : List Env} {s : Shared} {H : Hp} {E : XK} {f : Addr} {cd : Value} {cl : List (Str × Addr)} (e : cl = freeL (lamSc lamE) (cxOf CX0 P w K mg base ["_law_low", "_law_high", "_law_edge", "_law_asked", "_law_found"] "_law_right" (defScope s_law_right) f cd A outer s H E).nox.env) : Seen (cxOf CX0 P w K mg base ["_law_low", "_law_high", "_law_edge", "_law_asked", "_law_found"] "_law_right" (defScope s_law_right) f cd A outer s H E).nox cl [2, 3] := by rw [e]; exact seen_of (fs := ["_law_edge", "_law_asked"]) rfl (by decide +kernel) rfl (by decide +kernel)
theorem mp_lam {env : Env} {cl : List (Str × Addr)} (e : cl = freeL (lamSc lamE) env) : cl.map (·.1) = (["_law_edge", "_law_asked"] : List Str) := by rw [e]; rfl
theorem ok_law_right {f c T : Addr} {fd : FuncData} (Df : DefAt K mg "_law_right" s_law_right f fd) (hc : fd.code = .ref c) (hC : PySem.W.CodeHd base c T) (hB : base.BuiltinsAt mg T) (B : BltV mg) (KV : KitV K) (c_least : Cal P w K mg base "least" 3 ["low", "high", "good"] (spLst lamQ (lamAr lamE) (lamBd lamE) (lamSc lamE) ["_law_edge", "_law_asked"] spLam)) (c_law_noted : Cal P w K mg base "_law_noted" 1 ["_law_asked", "_law_number", "_law_edge"] spNoted) (c_law_whole : Cal P w K mg base "_law_whole" 1 ["_law_found"] (spV K 1 sp_law_whole)) (c_law_due : Cal P w K mg base "_law_due" 1 ["_law_low", "_law_edge"] (spV K 2 sp_law_due)) (c_law_few : Cal P w K mg base "_law_few" 2 ["_law_asked", "_law_low", "_law_high"] (spV K 3 sp_law_few)) :
    Cal P w K mg base "_law_right" 4 ["_law_low", "_law_high", "_law_edge"] (spT K 3 T ⟨35, 44, 35, 110⟩ "_law_right.<locals>.<lambda>" sp_law_right) := by
  refine CalT.of Df hc sc_law_right (sc := lamSc lamE) (fun _ _ _ _ _ _ us hl => match us, hl with | [_, _, _], _ => rfl) rfl (fun A outer s H E hr F hT cl ecl => ⟨_, _, (pss_cons (ps_set (i := 3) sc_law_right.nd rfl (Or.inr rfl) (pe_lstS pa_nil))
      (pss_cons (ps_set (i := 4) sc_law_right.nd rfl (Or.inl rfl) (pe_calT c_least (hr.mono (by decide)) (by rfl) (sn_lam ecl) (pa_cons (pv 0) (pa_cons (pv 1) (pa_cons (show PE _ lamE (tLam T ⟨35, 44, 35, 110⟩ lamQ (lamAr lamE) (lamBd lamE) (lamSc lamE) cl) from pe_lam rfl hC hB (fun ok => clos_okE ecl ok cs_lam)) pa_nil)))))
      (pss_one (ps_ret (pe_and (pe_cal c_law_whole (hr.mono (by decide)) (by rfl) (pa_cons (pv 4) pa_nil)) (pe_and (pe_cmpR op_eq (pv 4) (pe_cal c_law_due (hr.mono (by decide)) (by rfl) (pa_cons (pv 0) (pa_cons (pv 2) pa_nil))) (nomark _)) (pe_one (pe_cal c_law_few (hr.mono (by decide)) (by rfl) (pa_cons (pv 3) (pa_cons (pv 0) (pa_cons (pv 1) pa_nil))))))))))),
    (sP_seq (SimS.x (sS_set (sO_lst sAO_nil)))
      (sP_seq (sim39 hT (mp_lam ecl))
      (SimS.x (sS_ret (sO_f (sF_andV (sF_o (sO_call (sAF_cons sF_var sAF_nil))) (sF_andV (sF_op oS_eq sB_var (sB_f (sF_o (sO_call (sAF_cons sF_var (sAF_cons sF_var sAF_nil)))))) (sF_o (sO_callB (sAB_cons sB_var (sAB_cons sB_var (sAB_cons sB_var sAB_nil)))))))))))), ?_⟩)
  clear ecl
  rintro ds Pr ⟨lo, hi, e, rfl, h1, h2, h3, k⟩
  walk_at "s"
  walk_at "n"
  refine sSeq_k fun N hN => ?_
  refine ⟨h1, h2, h3, fun xs hx hl => ?_⟩
  refine hN _ ?_
  clear hN
  clear N
  walk_at "v"
  refine ⟨lo, e, rfl, ?_⟩
  dsimp only [OV.val]
  rw [if_pos rfl]
  refine ⟨xs, lo, hi, rfl, hx, ?_, rfl, k⟩
  rcases hl with rfl | hl
  · show (0 : Int) ≤ _
    omega
  · have := ibN_gt hl
    omega
abbrev s_law : Stmt := top 9
theorem sc_law : FnScope ["_law_script", "_law_low", "_law_size", "_law_high", "_law_edge", "_law_other"] ["_law_script"] (defScope s_law) := ⟨rfl, rfl, rfl, by decide +kernel, rfl, by decide +kernel, by decide +kernel⟩
theorem ok_law {f T : Addr} {fd : FuncData} (Df : DefAt K mg "law" s_law f fd) (B : BltV mg) (KV : KitV K) (c_law_cell_at : Cal P w K mg base "_law_cell_at" 1 ["_law_script", "_law_k"] (spV K 2 sp_law_cell_at)) (c_law_right : Cal P w K mg base "_law_right" 4 ["_law_low", "_law_high", "_law_edge"] (spT K 3 T ⟨35, 44, 35, 110⟩ "_law_right.<locals>.<lambda>" sp_law_right)) :
    FnOk P w K mg base CX0 5 f fd ["_law_script"] (spLawT K T ⟨35, 44, 35, 110⟩ "_law_right.<locals>.<lambda>") := by
  refine law_okT Df sc_law (fun cdv A outer s H E hr hT => ⟨_, _, (pss_cons (ps_set (i := 1) sc_law.nd rfl (Or.inl rfl) (pe_op op_mod (pe_cal c_law_cell_at (hr.mono (by decide)) (by rfl) (pa_cons (pv 0) (pa_cons pe_int pa_nil))) (pe_op op_pow pe_int pe_int)))
      (pss_cons (ps_set (i := 2) sc_law.nd rfl (Or.inl rfl) pe_int)
      (pss_cons (ps_if (pt_cmpR op_eq (pe_op op_mod (pe_cal c_law_cell_at (hr.mono (by decide)) (by rfl) (pa_cons (pv 0) (pa_cons pe_int pa_nil))) pe_int) pe_int (nomark _)) (pss_one (ps_set (i := 2) sc_law.nd rfl (Or.inl rfl) (pe_op op_mod (pe_op op_fdiv (pe_cal c_law_cell_at (hr.mono (by decide)) (by rfl) (pa_cons (pv 0) (pa_cons pe_int pa_nil))) pe_int) (pe_op op_pow pe_int pe_int)))) pss_nil)
      (pss_cons (ps_if (pt_cmpR op_eq (pe_op op_mod (pe_cal c_law_cell_at (hr.mono (by decide)) (by rfl) (pa_cons (pv 0) (pa_cons pe_int pa_nil))) pe_int) pe_int (nomark _)) (pss_one (ps_set (i := 2) sc_law.nd rfl (Or.inl rfl) (pe_op op_mod (pe_op op_fdiv (pe_cal c_law_cell_at (hr.mono (by decide)) (by rfl) (pa_cons (pv 0) (pa_cons pe_int pa_nil))) pe_int) pe_int))) pss_nil)
      (pss_cons (ps_set (i := 3) sc_law.nd rfl (Or.inl rfl) (pe_op op_add (pv 1) (pv 2)))
      (pss_cons (ps_set (i := 4) sc_law.nd rfl (Or.inl rfl) (pe_op op_sub (pv 3) (pe_op op_mod (pe_cal c_law_cell_at (hr.mono (by decide)) (by rfl) (pa_cons (pv 0) (pa_cons pe_int pa_nil))) (pe_op op_add (pv 2) pe_int))))
      (pss_cons (ps_set (i := 5) sc_law.nd rfl (Or.inl rfl) (pe_op op_sub (pv 3) (pe_op op_mod (pe_cal c_law_cell_at (hr.mono (by decide)) (by rfl) (pa_cons (pv 0) (pa_cons pe_int pa_nil))) (pe_op op_add (pv 2) pe_int))))
      (pss_cons (ps_if (pw_or (pt_not (pt_val (pe_cal c_law_right (hr.mono (by decide)) (by rfl) (pa_cons (pv 1) (pa_cons (pv 3) (pa_cons (pv 4) pa_nil)))))) (pw_or1 (pt_not (pt_val (pe_cal c_law_right (hr.mono (by decide)) (by rfl) (pa_cons (pv 1) (pa_cons (pv 3) (pa_cons (pv 5) pa_nil)))))))).pt (pss_one (ps_ret pe_bl)) pss_nil)
      (pss_one (ps_ret (pe_cal c_law_right (hr.mono (by decide)) (by rfl) (pa_cons (pv 1) (pa_cons (pv 3) (pa_cons (pv 4) pa_nil)))))))))))))),
    (sP_seq (SimS.x (sS_set (sO_f (sF_op oS_i (sB_f (sF_o (sO_call (sAF_cons sF_var (sAF_cons sF_int sAF_nil))))) (sB_f (sF_op oS_i (sB_f sF_int) (sB_f sF_int)))))))
      (sP_seq (SimS.x (sS_set (sO_f sF_int)))
      (sP_seq (SimS.x (sS_if (sT_test (sF_op oS_eq (sB_f (sF_op oS_i (sB_f (sF_o (sO_call (sAF_cons sF_var (sAF_cons sF_int sAF_nil))))) (sB_f sF_int))) (sB_f sF_int))) (sS_set (sO_f (sF_op oS_i (sB_f (sF_op oS_i (sB_f (sF_o (sO_call (sAF_cons sF_var (sAF_cons sF_int sAF_nil))))) (sB_f sF_int))) (sB_f (sF_op oS_i (sB_f sF_int) (sB_f sF_int)))))) sS_next))
      (sP_seq (SimS.x (sS_if (sT_test (sF_op oS_eq (sB_f (sF_op oS_i (sB_f (sF_o (sO_call (sAF_cons sF_var (sAF_cons sF_int sAF_nil))))) (sB_f sF_int))) (sB_f sF_int))) (sS_set (sO_f (sF_op oS_i (sB_f (sF_op oS_i (sB_f (sF_o (sO_call (sAF_cons sF_var (sAF_cons sF_int sAF_nil))))) (sB_f sF_int))) (sB_f sF_int)))) sS_next))
      (sP_seq (SimS.x (sS_set (sO_f (sF_op oS_i0 sB_var sB_var))))
      (sP_seq (SimS.x (sS_set (sO_f (sF_op oS_i0 sB_var (sB_f (sF_op oS_i (sB_f (sF_o (sO_call (sAF_cons sF_var (sAF_cons sF_int sAF_nil))))) (sB_f (sF_op oS_i0 sB_var (sB_f sF_int)))))))))
      (sP_seq (SimS.x (sS_set (sO_f (sF_op oS_i0 sB_var (sB_f (sF_op oS_i (sB_f (sF_o (sO_call (sAF_cons sF_var (sAF_cons sF_int sAF_nil))))) (sB_f (sF_op oS_i0 sB_var (sB_f sF_int)))))))))
      (sP_seq (xS_if (xT_or (xT_not (xT_b (xF_o (xO_callT hT (xA_f (sAF_cons sF_var (sAF_cons sF_var (sAF_cons sF_var sAF_nil)))))))) (xT_not (xT_b (xF_o (xO_callT hT (xA_f (sAF_cons sF_var (sAF_cons sF_var (sAF_cons sF_var sAF_nil))))))))) (SimS.x (sS_ret (sO_f sF_bl))) (SimS.x sS_next))
      (sP_ret (xO_callT hT (xA_f (sAF_cons sF_var (sAF_cons sF_var (sAF_cons sF_var sAF_nil)))))))))))))), ?_⟩)
  intro ns hns hb
  have cell : ∀ i : Nat, ∀ Q : OV → Prop, (∀ x : Int, Q (.fz (.int x))) → sp_law_cell_at [.lst (ns.map .int), .int i] Q := fun i Q q => ⟨ns, i, rfl, by omega, q _⟩
  walk_at "s"
  refine cell 0 _ fun c0 => ?_
  walk_at "v"
  have m0 : 0 ≤ c0 % 1000000000000000000000000000000000000000000000000000000000000 := Int.emod_nonneg _ (by decide)
  generalize c0 % 1000000000000000000000000000000000000000000000000000000000000 = lo at m0
  walk_at "n"
  walk_at "s"
  walk_at "n"
  refine sSeq_k fun N hN => ?_
  have key : ∀ sz : Int, 0 ≤ sz → sz < 1000000000000000000000000000000000000000000000000000000000000 → N [vD (.lst (ns.map .int)), vI lo, vI sz, none, none, none] := by
    intro sz z0 z1
    refine hN _ ?_
    clear hN
    clear N
    refine sSeq_k fun N hN => ?_
    have key : ∀ sz : Int, 0 ≤ sz → sz < 1000000000000000000000000000000000000000000000000000000000000 → N [vD (.lst (ns.map .int)), vI lo, vI sz, none, none, none] := by
      intro sz z0 z1
      refine hN _ ?_
      clear hN
      clear N
      walk_at "s"
      walk_at "n"
      walk_at "s"
      refine cell 2 _ fun c2 => ?_
      walk_at "v"
      refine ⟨by omega, ?_⟩
      walk_at "n"
      walk_at "s"
      refine cell 3 _ fun c3 => ?_
      walk_at "v"
      refine ⟨by omega, ?_⟩
      walk_at "n"
      have e2 := Int.emod_nonneg c2 (show sz + 2 ≠ 0 by omega)
      have e3 := Int.emod_nonneg c3 (show sz + 2 ≠ 0 by omega)
      have hb : lo + sz - lo < 2 ^ 250 := by
        have : (1000000000000000000000000000000000000000000000000000000000000 : Int) < 2 ^ 250 := by decide
        omega
      walk_at "s"
      refine ⟨_, _, _, rfl, by omega, by omega, hb, ?_⟩
      walk_at "v"
      refine ⟨_, _, _, rfl, by omega, by omega, hb, ?_⟩
      walk_at "v"
      walk_at "n"
      walk_at "v"
      exact ⟨_, _, _, rfl, by omega, by omega, hb, rfl⟩
    walk_at "v"
    refine cell 1 _ fun c1 => ?_
    walk_at "v"
    split
    · refine cell 1 _ fun c1 => ?_
      walk_at "v"
      exact key _ (Int.emod_nonneg _ (by decide)) (Int.lt_trans (Int.emod_lt_of_pos _ (by decide)) (by decide))
    · exact key _ z0 z1
  walk_at "v"
  refine cell 1 _ fun c1 => ?_
  walk_at "v"
  split
  · refine cell 1 _ fun c1 => ?_
    walk_at "v"
    exact key _ (Int.emod_nonneg _ (by decide)) (Int.emod_lt_of_pos _ (by decide))
  · exact key 0 (by decide) (by decide)
end
end Lw
open PySem PySem.W PyProof.Rows L2 Lw
set_option maxRecDepth 100000 in
set_option maxHeartbeats 0 in
theorem PySem.Challenge.cw_liftwave_k39_least_holds : PySem.Challenge.rw_liftwave_k39_least.Holds := by
  w_on; o_law; k_head; (case hw => w_witness2)
  k_fill
  refine L2.law_walkT (k := 5) (l := PySem.Challenge.rw_liftwave_k39_least) (c := 62) (T := 58) (pos := ⟨35, 44, 35, 110⟩) (q := "_law_right.<locals>.<lambda>") rfl rfl ⟨rfl, by decide, by decide⟩ (fun w h Y => ⟨PySem.W.km_in_of Y, PySem.W.km_tabs_of Y _ List.mem_cons_self⟩) (fun w h X => codeHd_in X (by k_is) (by rfl) (by decide)) (fun w => by kernel_rfl) ?F
  case F =>
    intro w mg fa h X G hfa
    have B : L2.BltV mg := ⟨⟨mz X G, mz X G, mz X G, mz X G, mz X G, mz X G, mz X G, mz X G, mz X G, mz X G, mz X G, mz X G⟩, mz X G, mz X G, mz X G, mz X G, mz X G, mz X G, mz X G, mz X G, mz X G, mz X G⟩
    have KV := L2.KitV.of2 X (by simp only [kitNs, List.forall_mem_cons, D.tyN, kitB, String.reduceBEq, Bool.or_false, Bool.false_or, Bool.true_or, List.not_mem_nil, false_implies, implies_true, and_true]; and_intros <;> kit_is)
    have D1 := dmk (x := "least") (st := Lw.s_least) X G
    have D2 := dmk (x := "_law_cell_at") (st := Lw.s_law_cell_at) X G
    have D3 := dmk (x := "_law_whole") (st := Lw.s_law_whole) X G
    have D4 := dmk (x := "_law_noted") (st := Lw.s_law_noted) X G
    have D5 := dmk (x := "_law_due") (st := Lw.s_law_due) X G
    have D6 := dmk (x := "_law_few") (st := Lw.s_law_few) X G
    have D7 := dmk (x := "_law_right") (st := Lw.s_law_right) X G
    have D8 := dmk (x := "law") (st := Lw.s_law) X G
    cases hfa.symm.trans D8.here
    refine lawFT D8 (fun s v => .of_eq rfl) fun b KB GB BB => ?_
    generalize OpenLaw.prog PySem.Challenge.rw_liftwave_k39_least = P
    have c_law_cell_at := ok_law_cell_at (P := P) (w := w) (base := b) D2 B KV
    have c_law_noted := ok_law_noted (P := P) (w := w) (base := b) D4 B KV
    have c_least := ok_least (P := P) (w := w) (base := b) D1 B KV c_law_noted
    have c_law_whole := ok_law_whole (P := P) (w := w) (base := b) D3 B KV
    have c_law_due := ok_law_due (P := P) (w := w) (base := b) D5 B KV
    have c_law_few := ok_law_few (P := P) (w := w) (base := b) D6 B KV c_law_whole
    have c_law_right := ok_law_right (P := P) (w := w) (base := b) D7 rfl (codeHd_in KB (by k_is) (by rfl) (by decide)) BB B KV c_least c_law_noted c_law_whole c_law_due c_law_few
    exact ok_law (P := P) (w := w) (base := b) D8 B KV c_law_cell_at c_law_right

