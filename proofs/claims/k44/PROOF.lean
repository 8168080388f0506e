import PyProof.Rows.All
import Wide.All
import OpenK.AllK
import Wide.FinOn
import Lean
import PyProof.EqAt
import PyProof.EqKinds
import PyProof.TupleCall
import PyProof.CompFree
import PyProof.SetScanFacts
import PyProof.TupleKey
import PyProof.SetKind
import PyProof.DictStraight
import PyProof.IsRules
import PyProof.WalkLemmas
import PyProof.Rows.SetFrom
import KE.KRevIter
import KE.KSortTup
import PyProof.ListNew
import PyProof.ExcArgsOwn
import KE.KIsAll
import PyProof.NsDelKeeps
import PyProof.NeKinds
import PyProof.FitsBits
import KE.LcSums
import PyProof.ZipIter
import PyProof.EnumFor
import PyProof.EnumStmt
import PyProof.Rows.EnumRows
import PyProof.Rows.FactsT2
import PyProof.Rows.SortWalk
import PyProof.Rows.FactsT3
import PyProof.LayNew
import KE.RegKIsAll
import PySem.Challenge.RW_deepspot_k44_who_is_refused
-- CHANGE: your row's module here, as the last of these rows
set_option Elab.async false
set_option linter.all false
set_option maxRecDepth 100000
/-! THE HAND LAYER, for ints, bools, texts, own classes, LISTS and tuples (index, slices, in, append, pop ..), calls, loops. Paste it whole ahead of your own text; what your proof does not reach may be deleted. -/
namespace L2
open PySem PySem.Spec PyProof.Rows

/-- a key: an int or a str -/
abbrev Key := Sum Int Str
def keyIs : Key → Value → Bool
  | .inl k, v => Value.isInt k v
  | .inr x, v => Value.isStrOf x v
def keyH (w : World) : Key → Int
  | .inl k => hashInt k
  | .inr x => hashStr w x
theorem keyIs_shape : ∀ {k : Key} {v : Value}, keyIs k v = true → (∃ i t, k = Sum.inl i ∧ v = Value.int i t) ∨ (∃ x t, k = Sum.inr x ∧ v = Value.str x t)
  | .inl i, v, h => by
    obtain ⟨t, e⟩ := Value.isInt_shape (k := i) (v := v) h
    exact .inl ⟨i, t, rfl, e⟩
  | .inr x, v, h => by
    obtain ⟨t, e⟩ := Value.isStrOf_shape (x := x) (v := v) h
    exact .inr ⟨x, t, rfl, e⟩
theorem key_ll (a b : Int) : decide ((Sum.inl a : Key) = Sum.inl b) = (a == b) := by
  by_cases e : a = b
  · subst e; simp
  · have h : ¬ (Sum.inl a : Key) = Sum.inl b := fun q => e (Sum.inl.inj q)
    rw [decide_eq_false h]
    exact (beq_eq_false_iff_ne.mpr e).symm
theorem key_rr (a b : Str) : decide ((Sum.inr a : Key) = Sum.inr b) = decide (a = b) := by
  by_cases e : a = b
  · subst e; simp
  · have h : ¬ (Sum.inr a : Key) = Sum.inr b := fun q => e (Sum.inr.inj q)
    rw [decide_eq_false h, decide_eq_false e]
theorem key_lr (a : Int) (b : Str) : decide ((Sum.inl a : Key) = Sum.inr b) = false := decide_eq_false (fun q => nomatch q)
theorem key_rl (a : Str) (b : Int) : decide ((Sum.inr a : Key) = Sum.inl b) = false := decide_eq_false (fun q => nomatch q)

def mixKind (prog : Program) (w : World) : PySem.KeyKind prog w Key where
  is := keyIs
  hash := keyH w
  inj := fun v a b ha hb => by
    rcases keyIs_shape ha with ⟨i, t, rfl, rfl⟩ | ⟨x, t, rfl, rfl⟩
    · rcases keyIs_shape hb with ⟨j, u, rfl, e⟩ | ⟨y, u, rfl, e⟩
      · injection e with e1 _; rw [e1]
      · exact nomatch e
    · rcases keyIs_shape hb with ⟨j, u, rfl, e⟩ | ⟨y, u, rfl, e⟩
      · exact nomatch e
      · injection e with e1 _; rw [e1]
  byValue := fun k v h => by
    rcases keyIs_shape h with ⟨i, t, rfl, rfl⟩ | ⟨x, t, rfl, rfl⟩ <;> rfl
  pyHash := fun hv h => by
    rcases keyIs_shape hv with ⟨i, t, rfl, rfl⟩ | ⟨x, t, rfl, rfl⟩
    · exact wpAny_pyHash_int h
    · exact wpAny_pyHash_str h
  eqBool := fun hu hv h => by
    rcases keyIs_shape hu with ⟨i, t, rfl, rfl⟩ | ⟨x, t, rfl, rfl⟩
    · rcases keyIs_shape hv with ⟨j, u, rfl, rfl⟩ | ⟨y, u, rfl, rfl⟩
      · rw [key_ll] at h; exact wpAny_eqBool_int h
      · rw [key_lr] at h; exact SeqAt.EqAt.int_str i t y u _ _ _ _ h
    · rcases keyIs_shape hv with ⟨j, u, rfl, rfl⟩ | ⟨y, u, rfl, rfl⟩
      · rw [key_rl] at h; exact SeqAt.EqAt.str_int x t j u _ _ _ _ h
      · rw [key_rr] at h; exact wpAny_eqBool_str h
  «strs» := fun k x t v h => by
    rcases keyIs_shape h with ⟨i, u, rfl, e⟩ | ⟨y, u, rfl, e⟩
    · exact nomatch e
    · injection e with e1 _
      subst e1
      cases v <;> rfl

end L2

namespace L2
open PySem PySem.Spec PyProof.Rows

/-- a value, without the heap -/
inductive V where
  | non | bl (b : Bool) | int (i : Int) | str (x : Str) | byt (b : Array UInt8) | flt (b : UInt64) | ref (a : Addr) | ty (n : String)
  deriving DecidableEq

def RelV : V → Value → Prop
  | .non, u => u = Value.none
  | .bl b, u => u = Value.bool b
  | .int i, u => ∃ t, u = Value.int i t
  | .str x, u => ∃ t, u = Value.str x t
  | .byt b, u => ∃ t, u = Value.bytes b t
  | .flt b, u => ∃ t, u = Value.float b t
  | .ref a, u => u = Value.ref a
  | .ty n, u => u = Value.type n

abbrev Vals : List V → List Value → Prop := Paired RelV
theorem Vals.length {xs : List V} {us : List Value} (r : Vals xs us) : xs.length = us.length := Paired.length r
theorem Vals.get : ∀ {xs : List V} {us : List Value} {i : Nat} {x : V}, Vals xs us → xs[i]? = some x → ∃ u, us[i]? = some u ∧ RelV x u
  | _, _, _, _, .nil, e => by simp at e
  | _, _, 0, _, .cons r _, e => by simp at e; subst e; exact ⟨_, rfl, r⟩
  | _, _, i + 1, x, .cons _ t, e => by
    obtain ⟨u, h1, h2⟩ := Vals.get (i := i) (x := x) t (by simpa using e)
    exact ⟨u, by simpa using h1, h2⟩
theorem Vals.set {x : V} {u : Value} (r : RelV x u) : ∀ {xs : List V} {us : List Value} (i : Nat), Vals xs us → Vals (xs.set i x) (us.set i u)
  | _, _, _, .nil => .nil
  | _, _, 0, .cons _ t => .cons r t
  | _, _, i + 1, .cons q t => .cons q (Vals.set r i t)
theorem Vals.append : ∀ {xs ys : List V} {us ws : List Value}, Vals xs us → Vals ys ws → Vals (xs ++ ys) (us ++ ws)
  | _, _, _, _, .nil, s => s
  | _, _, _, _, .cons r t, s => .cons r (Vals.append t s)
theorem Vals.take : ∀ {xs : List V} {us : List Value} (n : Nat), Vals xs us → Vals (xs.take n) (us.take n)
  | _, _, 0, _ => .nil
  | _, _, _ + 1, .nil => .nil
  | _, _, n + 1, .cons r t => .cons r (Vals.take n t)
theorem Vals.drop : ∀ {xs : List V} {us : List Value} (n : Nat), Vals xs us → Vals (xs.drop n) (us.drop n)
  | _, _, 0, r => r
  | _, _, _ + 1, .nil => .nil
  | _, _, n + 1, .cons _ t => Vals.drop n t
def RelO : Option V → Option Value → Prop
  | some v, some u => RelV v u
  | none, none => True
  | _, _ => False
def KV {κ : Type} : List (κ × V) → List (κ × Value) → Prop := Paired fun (p : κ × V) (q : κ × Value) => p.1 = q.1 ∧ RelV p.2 q.2

/-- a key of a dict (00_mix): an int or a text -/
def kV : Key → V
  | .inl i => .int i
  | .inr x => .str x

/-- what stands at a tracked address -/
inductive HO where
  /-- a list -/
  | lst (xs : List V)
  /-- a tuple (never changes) -/
  | tup (xs : List V)
  /-- a dict whose keys are ints and texts; one whose keys are tuples of ints and texts (the empty one is both) -/
  | dK (kvs : List (Key × V)) | dT (kvs : List (List Key × V))
  /-- a set of ints: its members, its size -/
  | set (S : Int → Bool) (n : Nat)
  /-- an instance of the class at C, its dict at dx, its attributes -/
  | ins (C dx : Addr) (fs : List (Str × V))
  /-- the dict of the instance at x -/
  | own (x : Addr)
  /-- the dict of an exception -/
  | xd (fs : List (Str × V))
  /-- a bound method, f of x -/
  | met (f x : Addr)
  /-- a range object lo, lo + 1, .. below hi -/
  | rng (lo hi : Int)
  /-- a thing that is known to the object (the script; a dict while a loop walks it): read, never written while it is so -/
  | frz (o : Obj) (u : HO)
  /-- a code object's table -/
  | tbl (ps : Array Value)
  /-- any other thing, by what is true of its one object (a def of one's own: SetO a S n := HO.ext fun h => ..) -/
  | ext (φ : Heap → Prop)

abbrev Hp := Addr → Option HO
def upd (H : Hp) (a : Addr) (o : HO) : Hp := fun b => if b = a then some o else H b
theorem upd_same {H : Hp} {a : Addr} {o : HO} : upd H a o a = some o := by unfold upd; rw [if_pos rfl]
theorem upd_ne {H : Hp} {a b : Addr} {o : HO} (h : b ≠ a) : upd H a o b = H b := by unfold upd; rw [if_neg h]
theorem ne_of_none {H : Hp} {a b : Addr} {o : HO} (h : H a = some o) (h' : H b = none) : a ≠ b := by
  intro e; subst e; rw [h] at h'; cases h'

section
variable (P : Program) (w : World)
def ObjOk (H : Hp) (h : Heap) (a : Addr) : HO → Prop
  | .lst xs => xs.length ≤ sizeLine ∧ ∃ (its : List Value) (n : Nat), Vals xs its ∧ h.get? a = some { cls := .type "list", data := .seq its.toArray n }
  | .tup xs => xs.length ≤ sizeLine ∧ ∃ its : List Value, Vals xs its ∧ IsTup h a its.toArray
  | .dK kvs => kvs.length ≤ sizeLine ∧ (a == sysModules) = false ∧ ∃ vs, KV kvs vs ∧ h.DictOf (mixKind P w) a vs
  | .dT kvs => kvs.length ≤ sizeLine ∧ (a == sysModules) = false ∧ ∃ xs : List (List Key × Addr × Value),
      Paired (fun (p : List Key × V) (q : List Key × Addr × Value) => p.1 = q.1 ∧ H q.2.1 = some (.tup (p.1.map kV)) ∧ RelV p.2 q.2.2) kvs xs ∧
      ∃ o es ep, h.get? a = some o ∧ o.ExactDict ∧ o.data = .dict es ep ∧ es.toList = xs.map (entryOfKey (tupleKind (mixKind P w))) ∧ (xs.map (·.1)).Nodup
  | .set S n => h.SetOf (intKind P w) a S n
  | .ins C dx fs => H dx = some (.own a) ∧ fs.length ≤ 1000 ∧ dx ≠ a ∧ h.get? a = some (PySem.W.instObj C dx) ∧
      ∃ mA, h.Ns1 dx mA ∧ (∀ f, RelO (fs.lookup f) (mA f)) ∧ PySem.Within mA (fs.map (·.1))
  | .own _ => ∃ o, h.get? a = some o
  | .xd fs => ∃ mA, h.Ns1 a mA ∧ ∀ f, RelO (fs.lookup f) (mA f)
  | .rng lo hi => ∃ t u v, h.get? a = some { cls := .type "range", data := .fields #[.int lo t, .int hi u, .int 1 v] }
  | .frz o u => h.get? a = some o ∧ ObjOk H h a u
  | .tbl ps => h.get? a = some { cls := .none, data := .fields ps }
  | .met f x => h.get? a = some (PySem.W.methodObj (.ref f) (.ref x))
  | .ext φ => φ h ∧ (∃ o, h.get? a = some o) ∧ ∀ h1 h2 : Heap, φ h1 → (∀ o, h1.get? a = some o → h2.get? a = some o) → φ h2
/-- the abstract heap is held -/
def HOk (H : Hp) (h : Heap) : Prop := ∀ a o, H a = some o → ObjOk P w H h a o
end

section
variable {P : Program} {w : World} {H H' : Hp} {h h' : Heap} {a : Addr} {o : HO}
theorem ObjOk.lt (x : ObjOk P w H h a o) : a < h.objs.size := by
  cases o with
  | lst xs => obtain ⟨_, _, _, _, e⟩ := x; exact Heap.lt_size e
  | tup xs => obtain ⟨_, _, _, p⟩ := x; exact p.lt
  | dK kvs => obtain ⟨_, _, _, _, o, _, _, e, _⟩ := x; exact Heap.lt_size e
  | dT kvs => obtain ⟨_, _, _, _, o, _, _, e, _⟩ := x; exact Heap.lt_size e
  | set S n => obtain ⟨o, _, _, _, e, _⟩ := x; exact Heap.lt_size e
  | ins C dx fs => obtain ⟨_, _, _, e, _⟩ := x; exact Heap.lt_size e
  | own y => obtain ⟨_, e⟩ := x; exact Heap.lt_size e
  | xd fs => obtain ⟨_, ⟨_, _, _, e, _⟩, _⟩ := x; exact Heap.lt_size e
  | rng lo hi => obtain ⟨_, _, _, e⟩ := x; exact Heap.lt_size e
  | frz ob u => obtain ⟨e, _⟩ := x; exact Heap.lt_size e
  | tbl ps => exact Heap.lt_size (show h.get? a = some _ from x)
  | met f y => exact Heap.lt_size (show h.get? a = some _ from x)
  | ext φ => obtain ⟨_, ⟨_, e⟩, _⟩ := x; exact Heap.lt_size e
theorem Paired.mapP {α β : Type} {F G : α → β → Prop} : ∀ {l₁ : List α} {l₂ : List β}, Paired F l₁ l₂ → (∀ a b, F a b → G a b) → Paired G l₁ l₂
  | _, _, .nil, _ => .nil
  | _, _, .cons r t, f => .cons (f _ _ r) (Paired.mapP t f)
/-- what an object's description leans on: its own object, its own dict, the tuples -/
theorem ObjOk.stay (x : ObjOk P w H h a o) (k : ∀ b u, (b = a ∨ H b = some (.own a)) → h.get? b = some u → h'.get? b = some u)
    (ho : ∀ b, H b = some (.own a) → H' b = some (.own a)) (ht : ∀ b xs, H b = some (.tup xs) → H' b = some (.tup xs)) : ObjOk P w H' h' a o := by
  induction o with
  | lst xs => obtain ⟨z, its, n, r, e⟩ := x; exact ⟨z, its, n, r, k _ _ (.inl rfl) e⟩
  | tup xs => obtain ⟨z, its, r, ob, e, c⟩ := x; exact ⟨z, its, r, ob, k _ _ (.inl rfl) e, c⟩
  | dK kvs => obtain ⟨z, y, vs, r, ob, es, ep, e, c⟩ := x; exact ⟨z, y, vs, r, ob, es, ep, k _ _ (.inl rfl) e, c⟩
  | dT kvs =>
    obtain ⟨z, y, xs, r, ob, es, ep, e, c⟩ := x
    exact ⟨z, y, xs, Paired.mapP r fun p q z => ⟨z.1, ht _ _ z.2.1, z.2.2⟩, ob, es, ep, k _ _ (.inl rfl) e, c⟩
  | set S n => obtain ⟨ob, es, ep, t, e, c⟩ := x; exact ⟨ob, es, ep, t, k _ _ (.inl rfl) e, c⟩
  | ins C dx fs =>
    obtain ⟨d, z, ne, e, mA, ⟨od, es, ep, e2, c⟩, r⟩ := x
    exact ⟨ho _ d, z, ne, k _ _ (.inl rfl) e, mA, ⟨od, es, ep, k _ _ (.inr d) e2, c⟩, r⟩
  | own y => obtain ⟨ob, e⟩ := x; exact ⟨ob, k _ _ (.inl rfl) e⟩
  | xd fs => obtain ⟨mA, ⟨od, es, ep, e, c⟩, r⟩ := x; exact ⟨mA, ⟨od, es, ep, k _ _ (.inl rfl) e, c⟩, r⟩
  | rng lo hi => obtain ⟨t, u, v, e⟩ := x; exact ⟨t, u, v, k _ _ (.inl rfl) e⟩
  | frz ob u ih => obtain ⟨e, q⟩ := x; exact ⟨k _ _ (.inl rfl) e, ih q⟩
  | tbl ps =>
    have e : h.get? a = some { cls := .none, data := .fields ps } := x
    show h'.get? a = some { cls := .none, data := .fields ps }
    exact k a _ (.inl rfl) e
  | met f y =>
    have e : h.get? a = some (PySem.W.methodObj (.ref f) (.ref y)) := x
    show h'.get? a = some (PySem.W.methodObj (.ref f) (.ref y))
    exact k a _ (.inl rfl) e
  | ext φ => obtain ⟨p, ⟨o, e⟩, st⟩ := x; exact ⟨st _ _ p fun o q => k _ _ (.inl rfl) q, ⟨o, k _ _ (.inl rfl) e⟩, st⟩
theorem HOk.lt (x : HOk P w H h) (e : H a = some o) : a < h.objs.size := (x a o e).lt
theorem HOk.fresh (x : HOk P w H h) (e : h.objs.size ≤ a) : H a = none := by
  cases q : H a with
  | none => rfl
  | some u => exact absurd (Nat.lt_of_lt_of_le (x.lt q) e) (Nat.lt_irrefl _)
/-- every object of the heap is kept -/
theorem HOk.kept (x : HOk P w H h) (k : ∀ b u, h.get? b = some u → h'.get? b = some u) : HOk P w H h' := fun a o e =>
  (x a o e).stay (fun b u _ q => k b u q) (fun _ q => q) fun _ _ q => q
/-- a new object is laid and tracked -/
theorem HOk.laid (x : HOk P w H h) (k : ∀ b u, h.get? b = some u → h'.get? b = some u) (hp : h.objs.size ≤ a) (new : ObjOk P w (upd H a o) h' a o) : HOk P w (upd H a o) h' := fun b u e => by
  have hn := x.fresh hp
  by_cases hb : b = a
  · subst hb; rw [upd_same] at e; cases e; exact new
  · rw [upd_ne hb] at e
    exact (x b u e).stay (fun c v _ q => k c v q) (fun c q => by rw [upd_ne (ne_of_none q hn)]; exact q) fun c xs q => by rw [upd_ne (ne_of_none q hn)]; exact q
end

/-- what may be read as u: it is u, or a known u -/
def Rd (H : Hp) (a : Addr) (u : HO) : Prop := H a = some u ∨ ∃ o, H a = some (.frz o u)
theorem Rd.of {H : Hp} {a : Addr} {u : HO} (h : H a = some u) : Rd H a u := .inl h
theorem Rd.ok {P : Program} {w : World} {H : Hp} {h : Heap} {a : Addr} {u : HO} (r : Rd H a u) (x : HOk P w H h) : ObjOk P w H h a u := by
  rcases r with r | ⟨o, r⟩
  · exact x a u r
  · obtain ⟨_, q⟩ := x a _ r
    exact q
/-- what may be written -/
def Mut : Option HO → Prop
  | some (.lst _) => True
  | some (.dK _) => True
  | some (.dT _) => True
  | some (.set _ _) => True
  | some (.ins _ _ _) => True
  | some (.ext _) => True
  | _ => False
section
variable {P : Program} {w : World} {H : Hp} {h h' : Heap} {x e : Addr} {o' : HO}
/-- the object at e is changed: x itself, or the dict of the instance x -/
theorem HOk.write (ok : HOk P w H h) (mu : Mut (H x)) (he : e = x ∨ H e = some (.own x)) (k : ∀ b u, b ≠ e → h.get? b = some u → h'.get? b = some u) (heo : ∃ u, h'.get? e = some u)
    (new : ObjOk P w (upd H x o') h' x o') : HOk P w (upd H x o') h' := fun b u q => by
  have nown : ∀ c y, H c = some (.own y) → c ≠ x := fun c y r z => by subst z; rw [r] at mu; exact mu
  have ntup : ∀ c xs, H c = some (.tup xs) → c ≠ x := fun c xs r z => by subst z; rw [r] at mu; exact mu
  by_cases hb : b = x
  · subst hb; rw [upd_same] at q; cases q; exact new
  · rw [upd_ne hb] at q
    by_cases hbe : b = e
    · have q' : H b = some (.own x) := by
        rcases he with z | z
        · exact absurd (hbe.trans z) hb
        · rw [hbe]; exact z
      rw [q] at q'; cases q'
      obtain ⟨v, hv⟩ := heo
      exact ⟨v, by rw [hbe]; exact hv⟩
    · refine (ok b u q).stay (fun c v hc r => k c v ?_ r) (fun c r => by rw [upd_ne (nown c b r)]; exact r) fun c xs r => by rw [upd_ne (ntup c xs r)]; exact r
      rcases hc with rfl | hc
      · exact hbe
      · rintro rfl
        rcases he with z | z
        · exact nown c b hc z
        · rw [hc] at z; cases z; exact hb rfl
end

/-! ### kept unless tracked; of the frames at fs (the callers') the slots may change (an exception that passes writes there); of the records at ex (iterators) nothing is said -/
structure Un (fs ex : List Addr) (H H' : Hp) (h h' : Heap) : Prop where
  keep : ∀ b o, h.get? b = some o → H b = none → b ∉ fs → b ∉ ex → h'.get? b = some o
  slot : ∀ b o, h.get? b = some o → H b = none → b ∈ fs → b ∉ ex → ∃ sl, h'.get? b = some { o with slots := sl }
  free : ∀ b o, h.get? b = some o → H b = none → b ∉ ex → H' b = none
  there : ∀ b o, h.get? b = some o → b ∉ ex → ∃ o', h'.get? b = some o'
  tups : ∀ b xs, H b = some (.tup xs) → H' b = some (.tup xs)
  frzs : ∀ b o u, H b = some (.frz o u) → H' b = some (.frz o u)
  tbls : ∀ b ps, H b = some (.tbl ps) → ∃ more, H' b = some (.tbl (ps ++ more))
section
variable {fs fs' ex ex' : List Addr} {H H1 H2 : Hp} {h h1 h2 h' : Heap} {a x e : Addr} {o : HO}
theorem Un.any (u : Un fs ex H H1 h h1) {b : Addr} {ob : Obj} (q : h.get? b = some ob) (n : H b = none) (hx : b ∉ ex) : ∃ sl, h1.get? b = some { ob with slots := sl } := by
  by_cases hb : b ∈ fs
  · exact u.slot b ob q n hb hx
  · exact ⟨ob.slots, u.keep b ob q n hb hx⟩
theorem Un.trans (a : Un fs ex H H1 h h1) (b : Un fs ex H1 H2 h1 h2) : Un fs ex H H2 h h2 where
  keep := fun c ob q n hc hx => b.keep c ob (a.keep c ob q n hc hx) (a.free c ob q n hx) hc hx
  slot := fun c ob q n hc hx => by
    obtain ⟨sl, e1⟩ := a.slot c ob q n hc hx
    obtain ⟨sl', e2⟩ := b.slot c _ e1 (a.free c ob q n hx) hc hx
    exact ⟨sl', e2⟩
  free := fun c ob q n hx => by
    obtain ⟨o', e1⟩ := a.there c ob q hx
    exact b.free c o' e1 (a.free c ob q n hx) hx
  there := fun c ob q hx => by
    obtain ⟨o', e1⟩ := a.there c ob q hx
    exact b.there c o' e1 hx
  tups := fun c xs q => b.tups c xs (a.tups c xs q)
  frzs := fun c ob xs q => b.frzs c ob xs (a.frzs c ob xs q)
  tbls := fun c ps q => by
    obtain ⟨m1, e1⟩ := a.tbls c ps q
    obtain ⟨m2, e2⟩ := b.tbls c _ e1
    exact ⟨m1 ++ m2, by rw [e2, Array.append_assoc]⟩
theorem Un.kept (k : ∀ b u, h.get? b = some u → h'.get? b = some u) : Un fs ex H H h h' :=
  ⟨fun b ob q _ _ _ => k b ob q, fun b ob q _ _ _ => ⟨ob.slots, k b ob q⟩, fun _ _ _ n _ => n, fun b ob q _ => ⟨ob, k b ob q⟩, fun _ _ q => q, fun _ _ _ q => q, fun _ ps q => ⟨#[], by rw [q]; simp⟩⟩
theorem Un.refl : Un fs ex H H h h := Un.kept fun _ _ q => q
theorem Un.laid (k : ∀ b u, h.get? b = some u → h'.get? b = some u) (hp : h.objs.size ≤ a) (hn : H a = none) : Un fs ex H (upd H a o) h h' where
  keep := fun b u q _ _ _ => k b u q
  slot := fun b u q _ _ _ => ⟨u.slots, k b u q⟩
  free := fun b u q n _ => by rw [upd_ne (Nat.ne_of_lt (Nat.lt_of_lt_of_le (Heap.lt_size q) hp))]; exact n
  there := fun b u q _ => ⟨u, k b u q⟩
  tups := fun b xs q => by rw [upd_ne (ne_of_none q hn)]; exact q
  frzs := fun b u xs q => by rw [upd_ne (ne_of_none q hn)]; exact q
  tbls := fun b ps q => ⟨#[], by rw [upd_ne (ne_of_none q hn), q]; simp⟩
theorem Un.write (mu : Mut (H x)) (he : e = x ∨ H e = some (.own x)) (k : ∀ b u, b ≠ e → h.get? b = some u → h'.get? b = some u) (heo : ∃ u, h'.get? e = some u) : Un fs ex H (upd H x o) h h' := by
  have hx : ∀ b, H b = none → b ≠ x := fun b n z => by subst z; rw [n] at mu; exact mu
  have hb : ∀ b, H b = none → b ≠ e := fun b n z => by
    subst z
    rcases he with r | r
    · exact hx b n r
    · rw [n] at r; cases r
  have hm : ∀ b u, H b = some u → ¬ Mut (some u) → b ≠ x := fun b u q nm z => by subst z; rw [q] at mu; exact nm mu
  refine ⟨fun b u q n _ _ => k b u (hb b n) q, fun b u q n _ _ => ⟨u.slots, k b u (hb b n) q⟩, fun b u q n _ => by rw [upd_ne (hx b n)]; exact n, fun b u q _ => ?_,
    fun b xs q => by rw [upd_ne (hm b _ q fun z => z)]; exact q, fun b u xs q => by rw [upd_ne (hm b _ q fun z => z)]; exact q, fun b ps q => ⟨#[], by rw [upd_ne (hm b _ q fun z => z), q]; simp⟩⟩
  by_cases hbe : b = e
  · subst hbe; exact heo
  · exact ⟨u, k b u hbe q⟩
theorem Un.mono (u : Un fs ex H H1 h h1) (hs : ∀ b ∈ fs, b ∈ fs') (hx : ∀ b ∈ ex, b ∈ ex') : Un fs' ex' H H1 h h1 :=
  ⟨fun b ob q n hb he => u.keep b ob q n (fun z => hb (hs b z)) fun z => he (hx b z), fun _ _ q n _ he => u.any q n fun z => he (hx _ z), fun b ob q n he => u.free b ob q n fun z => he (hx b z), fun b ob q he => u.there b ob q fun z => he (hx b z), u.tups, u.frzs, u.tbls⟩
end

/-! ### the heap without what is tracked -/
def trk (h : Heap) (H : Hp) : List Addr := (List.range h.objs.size).filter fun a => (H a).isSome
def hidT (h : Heap) (H : Hp) : Heap := PySem.W.hideAll h (trk h H)
theorem hidT_size (h : Heap) (H : Hp) : (hidT h H).objs.size = h.objs.size := PySem.W.hideAll_size _ _
theorem hidT_get {h : Heap} {H : Hp} {b : Addr} {o : Obj} (e : h.get? b = some o) (n : H b = none) : (hidT h H).get? b = some o :=
  PySem.W.hideAll_get _ e fun hm => by
    have q : (H b).isSome = true := (List.mem_filter.mp hm).2
    rw [n] at q; simp at q
theorem of_hidT {h : Heap} {H : Hp} {b : Addr} {o : Obj} (e : (hidT h H).get? b = some o) : h.get? b = some o ∧ H b = none := by
  have e' : h.get? b = some o := PySem.W.of_hideAll (trk h H) e
  refine ⟨e', ?_⟩
  cases q : H b with
  | none => rfl
  | some x =>
    have hm : b ∈ trk h H := List.mem_filter.mpr ⟨List.mem_range.mpr (Heap.lt_size e'), by simp [q]⟩
    have z : (hidT h H).get? b = none := PySem.W.hideAll_none (trk h H) hm
    rw [z] at e; cases e

/-! ### OpenK's ledger, filled with every new object but one -/
def allNews (g h : Heap) (L : Addr) : List (Addr × Obj) := (List.range h.objs.size).filterMap fun a => if a = L ∨ (g.get? a).isSome = true then none else (h.get? a).map fun o => (a, o)
def rest (g h : Heap) (L d : Addr) : List (Addr × Obj) := (allNews g h L).filter fun p => decide (p.1 ≠ d)
end L2

namespace L2
open PySem PySem.Spec PyProof.Rows

/-- the module's facts, over the base: the heap at the law's entry without what is tracked there -/
structure Mod (K : PySem.W.Frag) (mg : Str → Option Value) (base : Heap) : Prop where
  kin : K.In base
  glob : base.Ns mainGlobals mg
  blt : ∃ mb, base.Ns builtinsNs mb ∧ ∀ x : Str, x ≠ "__name__" → mb x = bootBuiltins x
  nolimit : base.NoLimit

/-- the context: a def's body (or a comprehension's block) running. base: fixed through the whole law; s₀, H₀: the entry; outer: the frames whose slots others may change (a def's callers); stack: all frames that run;
   ex: iterators that were made ahead of the entry and are walked here (a comprehension's); fn: the names whose cells were made at the entry (a def: all; a comprehension's block: its own); calm: not within an except suite; pn: pins that every state bears; xe: what is wanted of an exception that leaves the code -/
structure Cx where
  prog : Program
  w : World
  K : PySem.W.Frag
  mg : Str → Option Value
  base : Heap
  A : Around
  N : List Str
  s₀ : Shared
  H₀ : Hp
  env : Env
  outer : List Env
  stack : List Env
  ex : List Addr
  fn : Str → Bool
  calm : Bool
  pn : List (Addr × Obj)
  xe : Value → Shared → Prop
/-- the callers' frames -/
def frs (l : List Env) : List Addr := l.filterMap (·.frame)
abbrev Cx.fs (X : Cx) : List Addr := frs X.outer

def Vis (sc : Scope) (x : Str) : Prop := sc.names.lookup x = some .local ∨ sc.names.lookup x = some .cell ∨ sc.names.lookup x = some .free
def Loc (sc : Scope) (x : Str) : Prop := sc.names.lookup x = some .local ∨ sc.names.lookup x = some .cell
def Look (env : Env) (h : Heap) (m : Str → Option Value) (x : Str) (u : Value) : Prop :=
  (env.kindOf x = some .local ∧ m x = some u) ∨ ((env.kindOf x = some .cell ∨ env.kindOf x = some .free) ∧ ∃ c, env.cells.lookup x = some c ∧ h.IsCell c (some u))

structure Cx.Ok (X : Cx) : Prop where
  mod : Mod X.K X.mg X.base
  kind : X.env.scope.kind = .function
  glob : X.env.globals = mainGlobals
  blt : X.env.builtins = builtinsNs
  above : X.s₀.heap.objs.size ≤ X.env.locals
  inj : ∀ x y c, X.env.cells.lookup x = some c → X.env.cells.lookup y = some c → x = y
  has : ∀ x, (X.env.kindOf x = some .cell ∨ X.env.kindOf x = some .free) → ∃ c, X.env.cells.lookup x = some c
  cab : ∀ x c, X.fn x = true → X.env.cells.lookup x = some c → X.s₀.heap.objs.size ≤ c
  hd : X.calm = true → X.A.handled = none
  frames : X.A.frames = some X.stack
  stk : X.stack = X.outer ∨ (X.stack = X.env :: X.outer ∧ X.env.frame = some X.env.locals)
  exf : ∀ b ∈ X.ex, b ≠ X.env.locals ∧ ∀ x c, X.env.cells.lookup x = some c → c ≠ b
  bs : ∀ b o, X.base.get? b = some o → X.s₀.heap.get? b = some o ∧ X.H₀ b = none
  bsz : X.base.objs.size ≤ X.s₀.heap.objs.size
  noex : ∀ b o, X.base.get? b = some o → b ∉ X.ex
  exfs : ∀ b ∈ X.ex, b ∉ X.fs
  funs : X.s₀.heap.FunFrames X.base X.outer
  frf : ∀ b ∈ X.fs, X.H₀ b = none

structure Inv (X : Cx) (pins : List (Addr × Obj)) (σ : List (Option V)) (H : Hp) (s : Shared) : Prop where
  ok : X.Ok
  os : s.os = X.s₀.os
  bare : AllBare s.gens
  base : Un X.fs X.ex X.H₀ H X.s₀.heap s.heap
  loc : ∃ m, s.heap.Ns X.env.locals m ∧ ∀ (i : Nat) (x : Str) (v : V), X.N[i]? = some x → σ[i]? = some (some v) → Vis X.env.scope x → ∃ u, RelV v u ∧ Look X.env s.heap m x u
  cell : ∀ x c, X.env.cells.lookup x = some c → ∃ v, s.heap.IsCell c v
  free : H X.env.locals = none
  freeC : ∀ x c, X.env.cells.lookup x = some c → H c = none
  pin : ∀ p ∈ X.pn ++ pins, s.heap.get? p.1 = some p.2 ∧ H p.1 = none ∧ p.1 ≠ X.env.locals ∧ p.1 ∉ X.fs ∧ ∀ v, p.2.data ≠ .cell v
  hok : HOk X.prog X.w H s.heap
  len : σ.length = X.N.length

section
variable {X : Cx} {pins : List (Addr × Obj)} {σ : List (Option V)} {H H' : Hp} {s : Shared} {h' : Heap}

theorem Cx.Ok.nofr (ok : X.Ok) {b : Addr} {o : Obj} (e : X.base.get? b = some o) : b ∉ X.fs := fun hb => by
  have := (ok.funs.mem hb).1
  rw [e] at this; cases this
theorem Inv.bs (I : Inv X pins σ H s) : ∀ b o, X.base.get? b = some o → s.heap.get? b = some o ∧ H b = none := fun b o e =>
  ⟨I.base.keep b o (I.ok.bs b o e).1 (I.ok.bs b o e).2 (I.ok.nofr e) (I.ok.noex b o e), I.base.free b o (I.ok.bs b o e).1 (I.ok.bs b o e).2 (I.ok.noex b o e)⟩
theorem Inv.bk (I : Inv X pins σ H s) : ∀ b o, X.base.get? b = some o → s.heap.get? b = some o := fun b o e => (I.bs b o e).1
theorem Inv.mod (I : Inv X pins σ H s) : Mod X.K X.mg X.base := I.ok.mod
theorem Inv.kIn (I : Inv X pins σ H s) : X.K.In s.heap := I.ok.mod.kin.keeps I.bk
theorem Inv.nolimit (I : Inv X pins σ H s) : s.heap.NoLimit := I.ok.mod.nolimit.keeps I.bk
/-- the frame over the base: for OpenK's rules (K.In X.base is I.mod.kin) -/
theorem Inv.fr (I : Inv X pins σ H s) : ∃ m, Fr X.base X.env.locals s.heap m :=
  let ⟨m, hn, _⟩ := I.loc
  ⟨m, hn, I.bk, Nat.le_trans I.ok.bsz I.ok.above⟩
theorem Inv.lt (I : Inv X pins σ H s) : X.env.locals < s.heap.objs.size := let ⟨_, hn, _⟩ := I.loc; hn.lt
theorem Inv.sz (I : Inv X pins σ H s) : X.s₀.heap.objs.size ≤ s.heap.objs.size := Nat.le_trans I.ok.above (Nat.le_of_lt I.lt)
theorem Inv.nofs (I : Inv X pins σ H s) {a : Addr} (h : s.heap.objs.size ≤ a) : a ∉ X.fs := fun hb => by
  obtain ⟨_, o, ho, _⟩ := I.ok.funs.mem hb
  exact absurd (Nat.lt_of_lt_of_le (Heap.lt_size ho) (Nat.le_trans I.sz h)) (Nat.lt_irrefl _)
theorem Inv.cne (I : Inv X pins σ H s) : ∀ x c, X.env.cells.lookup x = some c → c ≠ X.env.locals := fun x c e z => by
  obtain ⟨v, o, ho, hd⟩ := I.cell x c e
  obtain ⟨m, ⟨o', es, ep, ho', hd', _⟩, _⟩ := I.loc
  rw [z, ho'] at ho; cases ho; rw [hd'] at hd; cases hd
theorem Inv.funs (I : Inv X pins σ H s) : s.heap.FunFrames X.base X.outer := by
  have all : ∀ (l : List Env), (∀ b ∈ frs l, b ∈ X.fs) → X.s₀.heap.FunFrames X.base l → s.heap.FunFrames X.base l := by
    intro l
    induction l with
    | nil => intro _ _; trivial
    | cons env r ih =>
      intro hs hl
      obtain ⟨hk, ⟨L, o, hf, hn, ho, hd⟩, hr⟩ := hl
      have hL : L ∈ X.fs := hs L (by unfold frs; rw [List.filterMap_cons, hf]; exact List.mem_cons_self)
      obtain ⟨sl, e⟩ := I.base.slot L o ho (I.ok.frf L hL) hL fun z => I.ok.exfs L z hL
      exact ⟨hk, ⟨L, _, hf, hn, e, hd⟩, ih (fun b hb => hs b (by unfold frs; rw [List.filterMap_cons, hf]; exact List.mem_cons_of_mem _ hb)) hr⟩
  exact all X.outer (fun _ hb => hb) I.ok.funs

/-- the frames that run, for a call -/
theorem Inv.stack (I : Inv X pins σ H s) : s.heap.FunFrames X.base X.stack := by
  rcases I.ok.stk with e | ⟨e, hf⟩
  · rw [e]; exact I.funs
  · rw [e]
    obtain ⟨m, hn, _⟩ := I.loc
    refine .cons (by rw [I.ok.kind]; decide) hf hn ?_ I.funs
    exact Heap.get?_none_of_le (Nat.le_trans I.ok.bsz I.ok.above)
theorem Inv.stkSub (I : Inv X pins σ H s) : ∀ b ∈ frs X.stack, b ∈ X.env.locals :: X.fs := fun b hb => by
  rcases I.ok.stk with e | ⟨e, hf⟩
  · rw [e] at hb; exact List.mem_cons_of_mem _ hb
  · rw [e] at hb
    unfold frs at hb
    rw [List.filterMap_cons, hf] at hb
    exact hb
theorem Inv.stkFree (I : Inv X pins σ H s) : ∀ b ∈ frs X.stack, H b = none := fun b hb => by
  rcases List.mem_cons.mp (I.stkSub b hb) with e | hb
  · rw [e]; exact I.free
  · obtain ⟨_, o, ho, _⟩ := I.ok.funs.mem hb
    exact I.base.free b o ho (I.ok.frf b hb) fun z => I.ok.exfs b z hb

/-- THE STEP: the untracked objects but the frame and the records at ch are kept (the callers' frames up to slots), the frame's map is kept, the new abstract heap is held -/
theorem Inv.step {g' : Array GenState} {t' : Nat} {d' : Drawn} {ch : List Addr} (I : Inv X pins σ H s)
    (hch : ∀ b ∈ ch, (b ∈ X.ex ∨ X.s₀.heap.objs.size ≤ b) ∧ b ≠ X.env.locals ∧ (∀ x c, X.env.cells.lookup x = some c → c ≠ b) ∧ ∀ p ∈ X.pn ++ pins, p.1 ≠ b)
    (keep : ∀ b o, b ≠ X.env.locals → b ∉ X.fs → b ∉ ch → s.heap.get? b = some o → H b = none → h'.get? b = some o)
    (slot : ∀ b o, b ≠ X.env.locals → b ∈ X.fs → b ∉ ch → s.heap.get? b = some o → H b = none → ∃ sl, h'.get? b = some { o with slots := sl }) (free : ∀ b o, b ∉ ch → s.heap.get? b = some o → H b = none → H' b = none)
    (there : ∀ b o, b ∉ ch → s.heap.get? b = some o → ∃ o', h'.get? b = some o')
    (tups : ∀ b xs, H b = some (.tup xs) → H' b = some (.tup xs)) (frzs : ∀ b o u, H b = some (.frz o u) → H' b = some (.frz o u)) (tbls : ∀ b ps, H b = some (.tbl ps) → ∃ more, H' b = some (.tbl (ps ++ more)))
    (ns : ∀ m, s.heap.Ns X.env.locals m → h'.Ns X.env.locals m) (hok : HOk X.prog X.w H' h') (hg : AllBare g') :
    Inv X pins σ H' { s with heap := h', gens := g', drawn := d', toks := t' } := by
  have neL : ∀ b o, X.s₀.heap.get? b = some o → b ≠ X.env.locals := fun b o e => Nat.ne_of_lt (Nat.lt_of_lt_of_le (Heap.lt_size e) I.ok.above)
  have neC : ∀ b o, X.s₀.heap.get? b = some o → b ∉ X.ex → b ∉ ch := fun b o e hx hb => by
    rcases (hch b hb).1 with z | z
    · exact hx z
    · exact absurd (Nat.lt_of_lt_of_le (Heap.lt_size e) z) (Nat.lt_irrefl _)
  have cellK : ∀ x c, X.env.cells.lookup x = some c → ∀ v, s.heap.IsCell c v → h'.IsCell c v := fun x c e v ⟨o, ho, hd⟩ => by
    have nch : c ∉ ch := fun z => (hch c z).2.2.1 x c e rfl
    by_cases hc : c ∈ X.fs
    · obtain ⟨sl, q⟩ := slot c o (I.cne x c e) hc nch ho (I.freeC x c e)
      exact ⟨_, q, hd⟩
    · exact ⟨o, keep c o (I.cne x c e) hc nch ho (I.freeC x c e), hd⟩
  refine ⟨I.ok, I.os, hg, ⟨fun b o e n hb hx => ?_, fun b o e n hb hx => ?_, fun b o e n hx => ?_, fun b o e hx => ?_, fun b xs e => tups b xs (I.base.tups b xs e), fun b o xs e => frzs b o xs (I.base.frzs b o xs e), fun b ps e => ?_⟩, ?_, fun x c e => ?_, ?_, fun x c e => ?_, fun p hp => ?_, hok, I.len⟩
  · exact keep b o (neL b o e) hb (neC b o e hx) (I.base.keep b o e n hb hx) (I.base.free b o e n hx)
  · obtain ⟨sl, e1⟩ := I.base.slot b o e n hb hx
    obtain ⟨sl', e2⟩ := slot b _ (neL b o e) hb (neC b o e hx) e1 (I.base.free b o e n hx)
    exact ⟨sl', e2⟩
  · obtain ⟨o', e1⟩ := I.base.there b o e hx
    exact free b o' (neC b o e hx) e1 (I.base.free b o e n hx)
  · obtain ⟨o', e1⟩ := I.base.there b o e hx
    exact there b o' (neC b o e hx) e1
  · obtain ⟨m1, e1⟩ := I.base.tbls b ps e
    obtain ⟨m2, e2⟩ := tbls b _ e1
    exact ⟨m1 ++ m2, by rw [e2, Array.append_assoc]⟩
  · obtain ⟨m, hn, hl⟩ := I.loc
    refine ⟨m, ns m hn, fun i x v e1 e2 e3 => ?_⟩
    obtain ⟨u, r, l⟩ := hl i x v e1 e2 e3
    refine ⟨u, r, ?_⟩
    rcases l with l | ⟨k, c, e, z⟩
    · exact .inl l
    · exact .inr ⟨k, c, e, cellK x c e _ z⟩
  · obtain ⟨v, z⟩ := I.cell x c e
    exact ⟨v, cellK x c e v z⟩
  · obtain ⟨m, ⟨o, _, _, ho, _⟩, _⟩ := I.loc
    exact free _ o (fun z => (hch _ z).2.1 rfl) ho I.free
  · obtain ⟨v, o, ho, hd⟩ := I.cell x c e
    exact free c o (fun z => (hch c z).2.2.1 x c e rfl) ho (I.freeC x c e)
  · obtain ⟨e, n, ne, nf, d⟩ := I.pin p hp
    have nch : p.1 ∉ ch := fun z => (hch p.1 z).2.2.2 p hp rfl
    exact ⟨keep p.1 p.2 ne nf nch e n, free p.1 p.2 nch e n, ne, nf, d⟩
/-- .. where the frame's own object is kept too -/
theorem Inv.un {t' : Nat} (I : Inv X pins σ H s) (u : Un X.fs [] H H' s.heap h') (hok : HOk X.prog X.w H' h') : Inv X pins σ H' { s with heap := h', toks := t' } := by
  obtain ⟨m, ⟨o, es, ep, ho, r⟩, _⟩ := id I.loc
  obtain ⟨sl, hL⟩ := u.any ho I.free (by simp)
  exact I.step (g' := s.gens) (d' := s.drawn) (ch := []) (fun _ z => nomatch z) (fun b o _ hb _ e n => u.keep b o e n hb (by simp)) (fun b o _ hb _ e n => u.slot b o e n hb (by simp)) (fun b o _ e n => u.free b o e n (by simp)) (fun b o _ e => u.there b o e (by simp)) u.tups u.frzs u.tbls (fun m' hm => by
    obtain ⟨o', es', ep', ho', r'⟩ := hm
    rw [ho] at ho'; cases ho'
    exact ⟨_, es', ep', hL, r'⟩) hok I.bare
/-- behind a call (or a comprehension's block): the slots of this frame may have changed too, the records at ch may have turned -/
theorem Inv.call {g' : Array GenState} {t' : Nat} {d' : Drawn} {ch : List Addr} (I : Inv X pins σ H s) (u : Un (frs X.stack) ch H H' s.heap h') (hok : HOk X.prog X.w H' h') (hg : AllBare g')
    (hch : ∀ b ∈ ch, (b ∈ X.ex ∨ X.s₀.heap.objs.size ≤ b) ∧ b ≠ X.env.locals ∧ (∀ x c, X.env.cells.lookup x = some c → c ≠ b) ∧ ∀ p ∈ X.pn ++ pins, p.1 ≠ b) :
    Inv X pins σ H' { s with heap := h', gens := g', drawn := d', toks := t' } := by
  obtain ⟨m, ⟨o, es, ep, ho, r⟩, _⟩ := id I.loc
  obtain ⟨sl, hL⟩ := u.any ho I.free fun z => (hch _ z).2.1 rfl
  exact I.step (ch := ch) hch (fun b o hL hb hc e n => u.keep b o e n (fun z => (List.mem_cons.mp (I.stkSub b z)).elim hL hb) hc) (fun b o _ _ hc e n => u.any e n hc) (fun b o hc e n => u.free b o e n hc) (fun b o hc e => u.there b o e hc) u.tups u.frzs u.tbls (fun m' hm => by
    obtain ⟨o', es', ep', ho', r'⟩ := hm
    rw [ho] at ho'; cases ho'
    exact ⟨_, es', ep', hL, r'⟩) hok hg
/-- an untracked record of ours (an iterator) has turned -/
theorem Inv.turned {t' : Nat} {it : Addr} (I : Inv X pins σ H s) (k : ∀ b o, b ≠ it → s.heap.get? b = some o → h'.get? b = some o) (hn : H it = none) (hL : it ≠ X.env.locals)
    (h1 : it ∈ X.ex ∨ X.s₀.heap.objs.size ≤ it) (h2 : ∀ x c, X.env.cells.lookup x = some c → c ≠ it) (h3 : ∀ p ∈ X.pn ++ pins, p.1 ≠ it) : Inv X pins σ H { s with heap := h', toks := t' } := by
  have nit : ∀ b u, H b = some u → b ≠ it := fun b u e z => by rw [z, hn] at e; cases e
  refine I.step (g' := s.gens) (d' := s.drawn) (ch := [it]) (fun b hb => ?_) (fun b o _ _ hc e _ => k b o (fun z => hc (by simp [z])) e) (fun b o _ _ hc e _ => ⟨o.slots, k b o (fun z => hc (by simp [z])) e⟩) (fun _ _ _ _ n => n)
    (fun b o hc e => ⟨o, k b o (fun z => hc (by simp [z])) e⟩) (fun _ _ e => e) (fun _ _ _ e => e) (fun b ps e => ⟨#[], by rw [e]; simp⟩) (fun m hm => ?_) (fun b u e => ?_) I.bare
  · have e : b = it := by simpa using hb
    subst e
    exact ⟨h1, hL, h2, h3⟩
  · obtain ⟨o, es, ep, ho, r⟩ := hm
    exact ⟨o, es, ep, k _ o (Ne.symm hL) ho, r⟩
  · refine (I.hok b u e).stay (fun c v hc q => k c v ?_ q) (fun _ q => q) fun _ _ q => q
    rcases hc with z | z
    · rw [z]; exact nit b u e
    · exact nit c _ z
theorem Inv.tok (I : Inv X pins σ H s) (t : Nat) : Inv X pins σ H { s with toks := t } := I.un (h' := s.heap) (t' := t) Un.refl I.hok
/-- all objects kept -/
theorem Inv.kept {t' : Nat} (I : Inv X pins σ H s) (k : ∀ b u, s.heap.get? b = some u → h'.get? b = some u) : Inv X pins σ H { s with heap := h', toks := t' } := I.un (Un.kept k) (I.hok.kept k)
/-- a new object laid and tracked -/
theorem Inv.laid {a : Addr} {o : HO} {t' : Nat} (I : Inv X pins σ H s) (k : ∀ b u, s.heap.get? b = some u → h'.get? b = some u) (hp : s.heap.objs.size ≤ a) (new : ObjOk X.prog X.w (upd H a o) h' a o) :
    Inv X pins σ (upd H a o) { s with heap := h', toks := t' } := I.un (Un.laid k hp (I.hok.fresh hp)) (I.hok.laid k hp new)
/-- an object written -/
theorem Inv.write {x e : Addr} {o : HO} {t' : Nat} (I : Inv X pins σ H s) (mu : Mut (H x)) (he : e = x ∨ H e = some (.own x)) (k : ∀ b u, b ≠ e → s.heap.get? b = some u → h'.get? b = some u) (heo : ∃ u, h'.get? e = some u)
    (new : ObjOk X.prog X.w (upd H x o) h' x o) : Inv X pins σ (upd H x o) { s with heap := h', toks := t' } := I.un (Un.write mu he k heo) (I.hok.write mu he k heo new)
theorem Inv.pins_of {pins' : List (Addr × Obj)} (I : Inv X pins σ H s) (h : ∀ p ∈ pins', s.heap.get? p.1 = some p.2 ∧ H p.1 = none ∧ p.1 ≠ X.env.locals ∧ p.1 ∉ X.fs ∧ ∀ v, p.2.data ≠ .cell v) : Inv X pins' σ H s :=
  ⟨I.ok, I.os, I.bare, I.base, I.loc, I.cell, I.free, I.freeC, fun p hp => (List.mem_append.mp hp).elim (fun z => I.pin p (List.mem_append_left _ z)) (h p), I.hok, I.len⟩

theorem nodup_ix {N : List Str} (hN : N.Nodup) {i j : Nat} {x : Str} (a : N[i]? = some x) (b : N[j]? = some x) : i = j := by
  obtain ⟨h1, e1⟩ := List.getElem?_eq_some_iff.mp a
  obtain ⟨h2, e2⟩ := List.getElem?_eq_some_iff.mp b
  exact (List.getElem_inj hN).mp (e1.trans e2.symm)

/-- a name is stored; what changed -/
theorem store_ok2 {M : Model} {A : Around} {E : Value → Shared → Prop} {i : Nat} {x : Str} {v : V} {u : Value} {Q : Unit → Shared → Prop} (I : Inv X pins σ H s) (hN : X.N.Nodup) (hi : X.N[i]? = some x) (hx : Loc X.env.scope x) (r : RelV v u)
    (h : ∀ s', Inv X pins (σ.set i (some v)) H s' → (∃ a, Heap.SameBut a s.heap s'.heap ∧ (a = X.env.locals ∨ X.env.cells.lookup x = some a)) → Q () s') (hf : X.fn x = true ∨ X.env.scope.names.lookup x = some .local := by first | exact .inl rfl | exact .inr rfl | assumption) : wpAny M A (storeName X.env x u) Q E s := by
  obtain ⟨m, hn, hl⟩ := id I.loc
  have hcls : (X.env.scope.kind == .class || (X.env.scope.kind == .module && X.env.locals != X.env.globals)) = false := by rw [I.ok.kind]; rfl
  have hiσ : i < σ.length := by rw [I.len]; exact (List.getElem?_eq_some_iff.mp hi).1
  have cne := I.cne
  have tracked : ∀ {a : Addr} {h' : Heap}, (∃ o, s.heap.get? a = some o ∧ H a = none) → Heap.SameBut a s.heap h' → HOk X.prog X.w H h' := fun {a h'} ha hs b ob e => by
    obtain ⟨_, _, hfree⟩ := ha
    refine (I.hok b ob e).stay (fun c w' hc q => (hs.2 c ?_).trans q) (fun _ q => q) fun _ _ q => q
    rintro rfl
    rcases hc with rfl | hc
    · rw [hfree] at e; cases e
    · rw [hfree] at hc; cases hc
  rcases hx with hk | hk
  · refine wpAny_storeName_local hk hn (fun h' hn' hs => ?_) hcls
    obtain ⟨oL, _, _, hoL, _⟩ := id hn
    refine h _ ⟨I.ok, I.os, I.bare, ⟨fun b o e n hb hx => ?_, fun b o e n hb hx => ?_, I.base.free, fun b o e hx => ?_, I.base.tups, I.base.frzs, I.base.tbls⟩, ⟨_, hn', fun j y v' e1 e2 e3 => ?_⟩, fun y c e => ?_, I.free, I.freeC, fun p hp => ?_, tracked ⟨oL, hoL, I.free⟩ hs, by simpa using I.len⟩ ⟨_, hs, .inl rfl⟩
    · exact (hs.2 b (Nat.ne_of_lt (Nat.lt_of_lt_of_le (Heap.lt_size e) I.ok.above))).trans (I.base.keep b o e n hb hx)
    · obtain ⟨sl, e1⟩ := I.base.slot b o e n hb hx
      exact ⟨sl, (hs.2 b (Nat.ne_of_lt (Nat.lt_of_lt_of_le (Heap.lt_size e) I.ok.above))).trans e1⟩
    · obtain ⟨o', e1⟩ := I.base.there b o e hx
      exact ⟨o', (hs.2 b (Nat.ne_of_lt (Nat.lt_of_lt_of_le (Heap.lt_size e) I.ok.above))).trans e1⟩
    · by_cases hj : j = i
      · subst hj
        rw [hi] at e1; cases e1
        rw [List.getElem?_set_self hiσ] at e2
        cases e2
        exact ⟨u, r, .inl ⟨hk, by simp⟩⟩
      · rw [List.getElem?_set_ne (Ne.symm hj)] at e2
        obtain ⟨u', r', q⟩ := hl j y v' e1 e2 e3
        refine ⟨u', r', ?_⟩
        rcases q with ⟨k, e⟩ | ⟨k, c, e, z⟩
        · refine .inl ⟨k, ?_⟩
          have : y ≠ x := fun e => hj (nodup_ix hN e1 (e ▸ hi))
          simp [this, e]
        · exact .inr ⟨k, c, e, z.sameBut hs (cne y c e)⟩
    · obtain ⟨w', z⟩ := I.cell y c e
      exact ⟨w', z.sameBut hs (cne y c e)⟩
    · obtain ⟨e, n, ne, nf, d⟩ := I.pin p hp
      exact ⟨(hs.2 p.1 ne).trans e, n, ne, nf, d⟩
  · have hfn : X.fn x = true := by
      rcases hf with z | z
      · exact z
      · rw [z] at hk; cases hk
    obtain ⟨c, hc⟩ := I.ok.has x (.inl hk)
    obtain ⟨w', z⟩ := I.cell x c hc
    refine wpAny_storeName_cell I.ok.kind hk hc z (fun h' hc' hs => ?_)
    obtain ⟨oc, hoc, hocd⟩ := id z
    refine h { s with heap := h' } ⟨I.ok, I.os, I.bare, ⟨fun b o e n hb hx => ?_, fun b o e n hb hx => ?_, I.base.free, fun b o e hx => ?_, I.base.tups, I.base.frzs, I.base.tbls⟩, ⟨m, hn.sameBut hs (Ne.symm (cne x c hc)), fun j y v' e1 e2 e3 => ?_⟩, fun y c' e => ?_, I.free, I.freeC, fun p hp => ?_, tracked ⟨oc, hoc, I.freeC x c hc⟩ hs, by simpa using I.len⟩ ⟨c, hs, .inr hc⟩
    · exact (hs.2 b (Nat.ne_of_lt (Nat.lt_of_lt_of_le (Heap.lt_size e) (I.ok.cab x c hfn hc)))).trans (I.base.keep b o e n hb hx)
    · obtain ⟨sl, e1⟩ := I.base.slot b o e n hb hx
      exact ⟨sl, (hs.2 b (Nat.ne_of_lt (Nat.lt_of_lt_of_le (Heap.lt_size e) (I.ok.cab x c hfn hc)))).trans e1⟩
    · obtain ⟨o', e1⟩ := I.base.there b o e hx
      exact ⟨o', (hs.2 b (Nat.ne_of_lt (Nat.lt_of_lt_of_le (Heap.lt_size e) (I.ok.cab x c hfn hc)))).trans e1⟩
    · by_cases hj : j = i
      · subst hj
        rw [hi] at e1; cases e1
        rw [List.getElem?_set_self hiσ] at e2
        cases e2
        exact ⟨u, r, .inr ⟨.inl hk, c, hc, hc'⟩⟩
      · rw [List.getElem?_set_ne (Ne.symm hj)] at e2
        obtain ⟨u', r', q⟩ := hl j y v' e1 e2 e3
        refine ⟨u', r', ?_⟩
        rcases q with q | ⟨k, c', e, z'⟩
        · exact .inl q
        · refine .inr ⟨k, c', e, z'.sameBut hs ?_⟩
          rintro rfl
          exact hj (nodup_ix hN e1 (I.ok.inj _ _ _ e hc ▸ hi))
    · by_cases hcc : c' = c
      · subst hcc; exact ⟨_, hc'⟩
      · obtain ⟨w2, z2⟩ := I.cell y c' e
        exact ⟨w2, z2.sameBut hs hcc⟩
    · obtain ⟨e, n, ne, nf, d⟩ := I.pin p hp
      refine ⟨(hs.2 p.1 ?_).trans e, n, ne, nf, d⟩
      intro q
      rw [q, hoc] at e
      have q' : oc = p.2 := Option.some.inj e
      exact d w' (by rw [← q']; exact hocd)
theorem store_ok {M : Model} {A : Around} {E : Value → Shared → Prop} {i : Nat} {x : Str} {v : V} {u : Value} {Q : Unit → Shared → Prop} (I : Inv X pins σ H s) (hN : X.N.Nodup) (hi : X.N[i]? = some x) (hx : Loc X.env.scope x) (r : RelV v u)
    (h : ∀ s', Inv X pins (σ.set i (some v)) H s' → Q () s') (hf : X.fn x = true ∨ X.env.scope.names.lookup x = some .local := by first | exact .inl rfl | exact .inr rfl | assumption) : wpAny M A (storeName X.env x u) Q E s :=
  store_ok2 I hN hi hx r (fun s' I' _ => h s' I') hf
end

/-! ### the judgements -/
/-- an exception: its class, its own dict's address (where it has one), the abstract heap behind it -/
abbrev XK := Value → Option Addr → Hp → Prop
abbrev St := List (Option V)
abbrev VK := V → Hp → Prop
/-- an expression's reading; a test's; an argument list's -/
abbrev TE := St → Hp → VK → Prop
abbrev TT := St → Hp → (Bool → Hp → Prop) → Prop
abbrev TA := St → Hp → (List V → Hp → Prop) → Prop
/-- what is wanted behind a statement -/
structure Ends where
  nx : St → Hp → Prop
  rt : VK
  bk : St → Hp → Prop := fun _ _ => False
  ct : St → Hp → Prop := fun _ _ => False
abbrev TS := Ends → St → Hp → Prop

def EP (X : Cx) (pins : List (Addr × Obj)) (σ : St) (Q : VK) (u : Value) (s' : Shared) : Prop := ∃ v H', Inv X pins σ H' s' ∧ RelV v u ∧ Q v H'
def TP (X : Cx) (pins : List (Addr × Obj)) (σ : St) (Q : Bool → Hp → Prop) (b : Bool) (s' : Shared) : Prop := ∃ H', Inv X pins σ H' s' ∧ Q b H'
def AP (X : Cx) (pins : List (Addr × Obj)) (σ : St) (Q : List V → Hp → Prop) (us : List Value) (s' : Shared) : Prop := ∃ vs H', Inv X pins σ H' s' ∧ Vals vs us ∧ Q vs H'
def SP (X : Cx) (pins : List (Addr × Obj)) (D : Ends) (f : Flow) (s' : Shared) : Prop :=
  match f with
  | .next => ∃ σ' H', Inv X pins σ' H' s' ∧ D.nx σ' H'
  | .brk => ∃ σ' H', Inv X pins σ' H' s' ∧ D.bk σ' H'
  | .cont => ∃ σ' H', Inv X pins σ' H' s' ∧ D.ct σ' H'
  | .ret u => ∃ v σ' H', Inv X pins σ' H' s' ∧ RelV v u ∧ D.rt v H'

def PE (X : Cx) (e : Expr) (t : TE) : Prop :=
  ∀ (pins : List (Addr × Obj)) (s : Shared) (σ : St) (H : Hp) (Q : VK), Inv X pins σ H s → t σ H Q → wpAny (model X.prog X.w) X.A (eval e X.env) (EP X pins σ Q) X.xe s
def PT (X : Cx) (e : Expr) (t : TT) : Prop :=
  ∀ (pins : List (Addr × Obj)) (s : Shared) (σ : St) (H : Hp) (Q : Bool → Hp → Prop), Inv X pins σ H s → t σ H Q → wpAny (model X.prog X.w) X.A (isTrue e X.env (eval e X.env)) (TP X pins σ Q) X.xe s
/-- a test whatever its 'whole' is (and, or) -/
def PW (X : Cx) (e : Expr) (t : TT) : Prop :=
  ∀ (whole : Sem Value) (pins : List (Addr × Obj)) (s : Shared) (σ : St) (H : Hp) (Q : Bool → Hp → Prop), Inv X pins σ H s → t σ H Q → wpAny (model X.prog X.w) X.A (isTrue e X.env whole) (TP X pins σ Q) X.xe s
theorem PW.pt {X : Cx} {e : Expr} {t : TT} (h : PW X e t) : PT X e t := h _
/-- an argument list (no star), from the left -/
def PA (X : Cx) (es : List Expr) (t : TA) : Prop :=
  ∀ (pos : Pos) (pins : List (Addr × Obj)) (s : Shared) (σ : St) (H : Hp) (Q : List V → Hp → Prop), Inv X pins σ H s → t σ H Q → wpAny (model X.prog X.w) X.A (spliced (backTo pos (starEach es X.env))) (AP X pins σ Q) X.xe s
def PS (X : Cx) (st : Stmt) (t : TS) : Prop :=
  ∀ (pins : List (Addr × Obj)) (s : Shared) (σ : St) (H : Hp) (D : Ends), Inv X pins σ H s → t D σ H → wpAny (model X.prog X.w) X.A (exec st X.env) (SP X pins D) X.xe s
def PSs (X : Cx) (st : List Stmt) (t : TS) : Prop :=
  ∀ (pins : List (Addr × Obj)) (s : Shared) (σ : St) (H : Hp) (D : Ends), Inv X pins σ H s → t D σ H → wpAny (model X.prog X.w) X.A (execs st X.env) (SP X pins D) X.xe s
/-- weaken the end -/
theorem thn {α : Type} {t : Sem α} {Q Q' : α → Shared → Prop} {M : Model} {A : Around} {E : Value → Shared → Prop} {s : Shared} (h : wpAny M A t Q E s) (hQ : ∀ a s, Q a s → Q' a s) : wpAny M A t Q' E s := wpAny_mono h hQ fun _ _ x => x
end L2

namespace L2
open PySem PySem.Spec PyProof.Rows
section
variable {X : Cx}

/-! ### names and constants -/
def tVar (i : Nat) : TE := fun σ H Q => ∃ v, σ[i]? = some (some v) ∧ Q v H
def tC (v : V) : TE := fun _ H Q => Q v H
theorem pe_var {i : Nat} {x : Str} {pos : Pos} (hN : X.N[i]? = some x) (hv : Vis X.env.scope x) (hd : (x == ("__debug__" : Str)) = false := by decide) (hcd : (x == ("__classdict__" : Str)) = false := by decide) : PE X (.Name x pos) (tVar i) := by
  intro pins s σ H Q I h
  obtain ⟨v, e, h⟩ := h
  obtain ⟨m, hn, hl⟩ := I.loc
  obtain ⟨u, r, l⟩ := hl i x v hN e hv
  have fin : EP X pins σ Q u s := ⟨v, H, I, r, h⟩
  rcases l with ⟨hk, hm⟩ | ⟨hk, c, hc, hcell⟩
  · exact wpAny_Name (wpAny_loadName_local I.ok.kind hk hn hm fin) hd
  · rcases hk with hk | hk
    · exact wpAny_Name (wpAny_loadName_cell I.ok.kind hk hc hcell fin) hd
    · exact wpAny_Name (wpAny_loadName_free I.ok.kind hk hc hcell fin hcd) hd
theorem pe_int {i j pos} : PE X (.Constant (.int i) j pos) (tC (.int i)) := fun _ _ _ H _ I h => wpAny_Constant_int ⟨.int i, H, I.tok _, ⟨_, rfl⟩, h⟩
theorem pe_bl {b j pos} : PE X (.Constant (.bool b) j pos) (tC (.bl b)) := fun _ _ _ H _ I h => Constant_bool ⟨.bl b, H, I, rfl, h⟩
theorem pe_non {j pos} : PE X (.Constant .none j pos) (tC .non) := fun _ _ _ H _ I h => Constant_none ⟨.non, H, I, rfl, h⟩
theorem pe_str {x j pos} : PE X (.Constant (.str x) j pos) (tC (.str x)) := fun _ _ _ H _ I h => Calls.Constant_str ⟨.str x, H, I.tok _, ⟨_, rfl⟩, h⟩

/-- a global name of the def -/
def Gl (X : Cx) (x : Str) : Prop := X.env.kindOf x = some .globalImplicit
theorem ld_glob {E : Value → Shared → Prop} {pins : List (Addr × Obj)} {s : Shared} {σ : St} {H : Hp} {x : Str} {u : Value} {pos : Pos} {Q : Value → Shared → Prop} (I : Inv X pins σ H s) (hg : Gl X x) (hm : X.mg x = some u) (h : Q u s)
    (hd : (x == ("__debug__" : Str)) = false := by decide) : wpAny (model X.prog X.w) X.A (eval (.Name x pos) X.env) Q E s :=
  Calls.Name_function_global I.ok.kind hg (Calls.loadGlobal_global (by rw [I.ok.glob]; exact I.mod.glob.keeps I.bk) hm h) hd
theorem ld_blt {E : Value → Shared → Prop} {pins : List (Addr × Obj)} {s : Shared} {σ : St} {H : Hp} {x : Str} {u : Value} {pos : Pos} {Q : Value → Shared → Prop} (I : Inv X pins σ H s) (hg : Gl X x) (hm : X.mg x = none) (hv : bootBuiltins x = some u) (h : Q u s)
    (hn : x ≠ "__name__" := by decide) (hd : (x == ("__debug__" : Str)) = false := by decide) : wpAny (model X.prog X.w) X.A (eval (.Name x pos) X.env) Q E s := by
  obtain ⟨mb, h1, h2⟩ := I.mod.blt
  exact Calls.Name_function_global I.ok.kind hg (Calls.loadGlobal_builtin (by rw [I.ok.glob]; exact I.mod.glob.keeps I.bk) hm (by rw [I.ok.blt]; exact h1.keeps I.bk) ((h2 x hn).trans hv) h) hd
/-- a module's constant, a class, a function, as a value -/
theorem pe_glob {x : Str} {v : V} {u : Value} {pos : Pos} (hg : Gl X x) (hm : X.mg x = some u) (r : RelV v u) (hd : (x == ("__debug__" : Str)) = false := by decide) : PE X (.Name x pos) (tC v) :=
  fun _ _ _ H _ I h => ld_glob I hg hm ⟨v, H, I, r, h⟩ hd
theorem pe_bltn {x : Str} {v : V} {u : Value} {pos : Pos} (hg : Gl X x) (hm : X.mg x = none) (hv : bootBuiltins x = some u) (r : RelV v u) (hn : x ≠ "__name__" := by decide) (hd : (x == ("__debug__" : Str)) = false := by decide) : PE X (.Name x pos) (tC v) :=
  fun _ _ _ H _ I h => ld_blt I hg hm hv ⟨v, H, I, r, h⟩ hn hd

/-! ### arithmetic -/
variable {a b : Expr} {ta tb : TE} {pos : Pos}
/-! ### comparisons -/
/-- a comparison as a value, as a test -/
def tB (t : TE) : TT := fun σ H Q => t σ H fun x H1 => ∃ c, x = .bl c ∧ Q c H1
/-- an expression whose value is a bool, as a test -/
theorem pt_val {e : Expr} {t : TE} (h : PE X e t) (he : ∀ whole, isTrue e X.env whole = (do let v ← whole; standAt e.pos; holding [v] (truthy v)) := by intro _; rfl) : PT X e (tB t) := by
  intro pins s σ H Q I hw
  refine isTrue_plain (thn (h pins s σ H _ I hw) fun v s1 ⟨x, H1, I1, r1, q1⟩ => ?_) (he _)
  obtain ⟨d, rfl, q⟩ := q1
  cases r1
  exact wpAny_truthy_bool ⟨H1, I1, q⟩

/-! ### and, or, not -/
variable {tA tB' : TT} {rest : List Expr}
def tAnd (t u : TT) : TT := fun σ H Q => t σ H fun c H1 => if c = true then u σ H1 Q else Q false H1
def tOr (t u : TT) : TT := fun σ H Q => t σ H fun c H1 => if c = true then Q true H1 else u σ H1 Q
def tNot (t : TT) : TT := fun σ H Q => t σ H fun c H1 => Q (!c) H1
theorem pw_and1 (ha : PT X a tA) : PW X (.BoolOp .And [a] pos) tA := by
  intro wh pins s σ H Q I h
  refine isTrue_and (thn (ha pins s σ H Q I h) fun c s1 e => ?_)
  cases c with
  | true => exact isTrue_and_nil e
  | false => exact e
theorem pw_or1 (ha : PT X a tA) : PW X (.BoolOp .Or [a] pos) tA := by
  intro wh pins s σ H Q I h
  refine isTrue_or (thn (ha pins s σ H Q I h) fun c s1 e => ?_)
  cases c with
  | false => exact isTrue_or_nil e
  | true => exact e
theorem pw_and (ha : PT X a tA) (hb : PW X (.BoolOp .And (b :: rest) pos) tB') : PW X (.BoolOp .And (a :: b :: rest) pos) (tAnd tA tB') := by
  intro wh pins s σ H Q I h
  refine isTrue_and (thn (ha pins s σ H _ I h) fun c s1 ⟨H1, I1, q1⟩ => ?_)
  cases c with
  | true => exact hb wh pins s1 σ H1 Q I1 q1
  | false => exact ⟨H1, I1, q1⟩
theorem pw_or (ha : PT X a tA) (hb : PW X (.BoolOp .Or (b :: rest) pos) tB') : PW X (.BoolOp .Or (a :: b :: rest) pos) (tOr tA tB') := by
  intro wh pins s σ H Q I h
  refine isTrue_or (thn (ha pins s σ H _ I h) fun c s1 ⟨H1, I1, q1⟩ => ?_)
  cases c with
  | true => exact ⟨H1, I1, q1⟩
  | false => exact hb wh pins s1 σ H1 Q I1 q1
theorem pt_not (ha : PT X a tA) : PT X (.UnaryOp .Not a pos) (tNot tA) := by
  intro pins s σ H Q I h
  exact isTrue_not (ha pins s σ H (fun c H1 => Q (!c) H1) I h)
end
end L2

namespace L2
open PySem PySem.Spec PyProof.Rows

/-! ### a list, a tuple that is read: tracked, frozen, or an object of the module -/
def SqL (K : PySem.W.Frag) (H : Hp) (a : Addr) (xs : List V) : Prop :=
  Rd H a (.lst xs) ∨
    ∃ (o : Obj) (its : Array Value) (n : Nat), K.lookup a = some o ∧ o.cls = .type "list" ∧ o.dict = none ∧ o.data = .seq its n ∧ its.size ≤ sizeLine ∧ Vals xs its.toList
def SqT (K : PySem.W.Frag) (H : Hp) (a : Addr) (xs : List V) : Prop :=
  Rd H a (.tup xs) ∨
    ∃ (o : Obj) (its : Array Value) (n : Nat), K.lookup a = some o ∧ o.cls = .type "tuple" ∧ o.data = .seq its n ∧ its.size ≤ sizeLine ∧ Vals xs its.toList
def absV : Value → Option V
  | .none => some .non
  | .bool b => some (.bl b)
  | .int i _ => some (.int i)
  | .str x _ => some (.str x)
  | .bytes b _ => some (.byt b)
  | .float b _ => some (.flt b)
  | .ref a => some (.ref a)
  | .type n => some (.ty n)
  | _ => none
theorem RelV.abs {x : V} {u : Value} (r : RelV x u) : absV u = some x := by
  cases x with
  | non => cases r; rfl
  | bl _ => cases r; rfl
  | int _ => obtain ⟨t, rfl⟩ := r; rfl
  | str _ => obtain ⟨t, rfl⟩ := r; rfl
  | byt _ => obtain ⟨t, rfl⟩ := r; rfl
  | flt _ => obtain ⟨t, rfl⟩ := r; rfl
  | ref _ => cases r; rfl
  | ty _ => cases r; rfl
theorem RelV.inj {x y : V} {u : Value} (r : RelV x u) (q : RelV y u) : x = y := Option.some.inj (r.abs.symm.trans q.abs)
theorem Vals.inj : ∀ {xs ys : List V} {us : List Value}, Vals xs us → Vals ys us → xs = ys
  | _, _, _, .nil, .nil => rfl
  | _, _, _, .cons r t, .cons r' t' => by rw [r.inj r', Vals.inj t t']
section
variable {X : Cx} {pins : List (Addr × Obj)} {σ : St} {H : Hp} {s : Shared} {a : Addr} {xs ys : List V}
theorem SqL.of {K : PySem.W.Frag} (h : H a = some (.lst xs)) : SqL K H a xs := .inl (.inl h)
theorem SqT.of {K : PySem.W.Frag} (h : H a = some (.tup xs)) : SqT K H a xs := .inl (.inl h)
theorem Inv.list (I : Inv X pins σ H s) (h : SqL X.K H a xs) : ∃ its : List Value, Vals xs its ∧ PlainL s.heap a its.toArray ∧ xs.length ≤ sizeLine := by
  rcases h with h | ⟨o, its, n, hk, hc, hd, hs, hz, r⟩
  · obtain ⟨z, its, n, r, e⟩ := h.ok I.hok
    exact ⟨its, r, ⟨_, n, e, rfl, rfl, rfl⟩, z⟩
  · refine ⟨its.toList, r, ⟨o, n, I.kIn a o hk, hc, hd, by simpa using hs⟩, ?_⟩
    have e := r.length
    simp only [Array.length_toList] at e
    omega
theorem Inv.tuple (I : Inv X pins σ H s) (h : SqT X.K H a xs) : ∃ its : List Value, Vals xs its ∧ IsTup s.heap a its.toArray ∧ xs.length ≤ sizeLine := by
  rcases h with h | ⟨o, its, n, hk, hc, hs, hz, r⟩
  · obtain ⟨z, its, r, p⟩ := h.ok I.hok
    exact ⟨its, r, p, z⟩
  · refine ⟨its.toList, r, ⟨o, I.kIn a o hk, hc, n, by simpa using hs⟩, ?_⟩
    have e := r.length
    simp only [Array.length_toList] at e
    omega
theorem Inv.list_inj (I : Inv X pins σ H s) (h : SqL X.K H a xs) (h' : SqL X.K H a ys) : xs = ys := by
  obtain ⟨its, r, ⟨o, n, e, _, _, d⟩, _⟩ := I.list h
  obtain ⟨its', r', ⟨o', n', e', _, _, d'⟩, _⟩ := I.list h'
  rw [e] at e'; cases e'
  rw [d] at d'
  injection d' with d1 _
  have : its = its' := by simpa using congrArg Array.toList d1
  subst this
  exact r.inj r'
theorem Inv.tuple_inj (I : Inv X pins σ H s) (h : SqT X.K H a xs) (h' : SqT X.K H a ys) : xs = ys := by
  obtain ⟨its, r, ⟨o, e, _, n, d⟩, _⟩ := I.tuple h
  obtain ⟨its', r', ⟨o', e', _, n', d'⟩, _⟩ := I.tuple h'
  rw [e] at e'; cases e'
  rw [d] at d'
  injection d' with d1 _
  have : its = its' := by simpa using congrArg Array.toList d1
  subst this
  exact r.inj r'
end

/-! ### another wish about exceptions -/
abbrev Cx.wish (X : Cx) (E : Value → Shared → Prop) : Cx := { X with xe := E }
/-- no exception leaves -/
abbrev Cx.nox (X : Cx) : Cx := X.wish fun _ _ => False
theorem Cx.Ok.wish {X : Cx} (ok : X.Ok) (E : Value → Shared → Prop) : (X.wish E).Ok :=
  ⟨ok.mod, ok.kind, ok.glob, ok.blt, ok.above, ok.inj, ok.has, ok.cab, ok.hd, ok.frames, ok.stk, ok.exf, ok.bs, ok.bsz, ok.noex, ok.exfs, ok.funs, ok.frf⟩
theorem Cx.Ok.unwish {X : Cx} {E : Value → Shared → Prop} (ok : (X.wish E).Ok) : X.Ok :=
  ⟨ok.mod, ok.kind, ok.glob, ok.blt, ok.above, ok.inj, ok.has, ok.cab, ok.hd, ok.frames, ok.stk, ok.exf, ok.bs, ok.bsz, ok.noex, ok.exfs, ok.funs, ok.frf⟩
section
variable {X : Cx} {pins : List (Addr × Obj)} {σ : St} {H : Hp} {s : Shared} {E : Value → Shared → Prop}
theorem Inv.wish (I : Inv X pins σ H s) (E : Value → Shared → Prop) : Inv (X.wish E) pins σ H s := ⟨I.ok.wish E, I.os, I.bare, I.base, I.loc, I.cell, I.free, I.freeC, I.pin, I.hok, I.len⟩
theorem Inv.unwish (I : Inv (X.wish E) pins σ H s) : Inv X pins σ H s := ⟨I.ok.unwish, I.os, I.bare, I.base, I.loc, I.cell, I.free, I.freeC, I.pin, I.hok, I.len⟩
theorem SP.unwish {D : Ends} {f : Flow} {s' : Shared} (h : SP (X.wish E) pins D f s') : SP X pins D f s' := by
  cases f with
  | next => obtain ⟨σ', H', I, q⟩ := h; exact ⟨σ', H', I.unwish, q⟩
  | brk => obtain ⟨σ', H', I, q⟩ := h; exact ⟨σ', H', I.unwish, q⟩
  | cont => obtain ⟨σ', H', I, q⟩ := h; exact ⟨σ', H', I.unwish, q⟩
  | ret u => obtain ⟨v, σ', H', I, r, q⟩ := h; exact ⟨v, σ', H', I.unwish, r, q⟩
theorem PE.nox {e : Expr} {t : TE} (h : PE X.nox e t) : PE X e t := fun pins s σ H Q I hw =>
  wpAny_mono (h pins s σ H Q (I.wish _) hw) (fun _ _ ⟨v, H', I', r, q⟩ => ⟨v, H', I'.unwish, r, q⟩) fun _ _ z => False.elim z
theorem PT.nox {e : Expr} {t : TT} (h : PT X.nox e t) : PT X e t := fun pins s σ H Q I hw =>
  wpAny_mono (h pins s σ H Q (I.wish _) hw) (fun _ _ ⟨H', I', q⟩ => ⟨H', I'.unwish, q⟩) fun _ _ z => False.elim z
theorem PSs.nox {st : List Stmt} {t : TS} (h : PSs X.nox st t) : PSs X st t := fun pins s σ H D I hw =>
  wpAny_mono (h pins s σ H D (I.wish _) hw) (fun _ _ q => q.unwish) fun _ _ z => False.elim z
end

/-! ### blocks and small statements -/
section
variable {X : Cx} {st : Stmt} {rest : List Stmt} {t u : TS} {e : Expr} {te : TE} {pos : Pos}
def tNext : TS := fun D σ H => D.nx σ H
def tSeq (t u : TS) : TS := fun D σ H => t { D with nx := u D } σ H
theorem pss_nil : PSs X [] tNext := fun _ _ σ H _ I h => wpAny_execs_nil ⟨σ, H, I, h⟩
theorem pss_cons (h1 : PS X st t) (h2 : PSs X rest u) : PSs X (st :: rest) (tSeq t u) := by
  intro pins s σ H D I h
  refine wpAny_execs_cons (thn (h1 pins s σ H { D with nx := u D } I h) fun f s1 q => ?_)
  cases f with
  | next =>
    obtain ⟨σ', H', I', q⟩ := q
    exact h2 pins s1 σ' H' D I' q
  | ret v => exact q
  | brk => exact q
  | cont => exact q
theorem pss_one (h1 : PS X st t) : PSs X [st] t := by
  intro pins s σ H D I h
  refine wpAny_execs_cons (thn (h1 pins s σ H D I h) fun f s1 q => ?_)
  cases f with
  | next => exact wpAny_execs_nil q
  | ret v => exact q
  | brk => exact q
  | cont => exact q
/-- in a def's body nothing is shown -/
theorem Inv.quiet {pins : List (Addr × Obj)} {σ : St} {H : Hp} {s : Shared} (I : Inv X pins σ H s) : interactive X.env = false := by simp [interactive, I.ok.kind]
/-- an expression whose value is dropped -/
def tDrop (te : TE) : TS := fun D σ H => te σ H fun _ H1 => D.nx σ H1
theorem ps_expr (he : PE X e te) (hs : swapsWith e none pos.line X.env = pure false := by rfl) : PS X (.Expr e pos) (tDrop te) := by
  intro pins s σ H D I h
  exact wpAny_Expr_any (thn (he pins s σ H _ I h) fun v s1 ⟨x, H1, I1, r1, q1⟩ => ⟨σ, H1, I1, q1⟩) I.quiet hs
def tRet (te : TE) : TS := fun D σ H => te σ H D.rt
theorem ps_ret (he : PE X e te) : PS X (.Return (some e) pos) (tRet te) := by
  intro pins s σ H D I h
  exact wpAny_Return_some (thn (he pins s σ H _ I h) fun v s1 ⟨x, H1, I1, r1, q1⟩ => ⟨x, σ, H1, I1, r1, q1⟩)
def tIfS (c : TT) (t u : TS) : TS := fun D σ H => c σ H fun b H1 => if b = true then t D σ H1 else u D σ H1
theorem ps_if {c : Expr} {a b : List Stmt} {tc : TT} (hc : PT X c tc) (ha : PSs X a t) (hb : PSs X b u) : PS X (.If c a b pos) (tIfS tc t u) := by
  intro pins s σ H D I h
  refine wpAny_If (thn (hc pins s σ H _ I h) fun d s1 ⟨H1, I1, q1⟩ => ?_)
  cases d with
  | true => exact ha pins s1 σ H1 D I1 q1
  | false => exact hb pins s1 σ H1 D I1 q1
/-- code that the proof never comes to -/
def tNever : TS := fun _ _ _ => False
theorem ps_never : PS X st tNever := fun _ _ _ _ _ _ h => h.elim
theorem pss_never {sts : List Stmt} : PSs X sts tNever := fun _ _ _ _ _ _ h => h.elim
end

/-! ### targets -/
abbrev TG := V → St → Hp → (St → Hp → Prop) → Prop
abbrev TGs := List V → St → Hp → (St → Hp → Prop) → Prop
def PG (X : Cx) (target : Expr) (t : TG) : Prop :=
  ∀ (pins : List (Addr × Obj)) (s : Shared) (σ : St) (H : Hp) (v : V) (u : Value) (Q : St → Hp → Prop), Inv X pins σ H s → RelV v u → t v σ H Q →
    wpAny (model X.prog X.w) X.A (assign target X.env u) (fun _ s' => ∃ σ' H', Inv X pins σ' H' s' ∧ Q σ' H') X.xe s
/-- several targets, one after another -/
def PGs (X : Cx) (ts : List Expr) (t : TGs) : Prop :=
  ∀ (pins : List (Addr × Obj)) (s : Shared) (σ : St) (H : Hp) (vs : List V) (us : List Value) (Q : St → Hp → Prop), Inv X pins σ H s → Vals vs us → t vs σ H Q →
    wpAny (model X.prog X.w) X.A (assignInOrder ((assignEach ts X.env).map (·.2)) us) (fun _ s' => ∃ σ' H', Inv X pins σ' H' s' ∧ Q σ' H') X.xe s
/-- o[i] = v, by values -/
abbrev TSet := V → V → V → Hp → (Hp → Prop) → Prop
def PSet (X : Cx) (t : TSet) : Prop :=
  ∀ (pins : List (Addr × Obj)) (s : Shared) (σ : St) (H : Hp) (o i v : V) (ov iv u : Value) (Q : Hp → Prop), Inv X pins σ H s → RelV o ov → RelV i iv → RelV v u → t o i v H Q →
    wpAny (model X.prog X.w) X.A (setItem ov iv u) (fun _ s' => ∃ H', Inv X pins σ H' s' ∧ Q H') X.xe s
section
variable {X : Cx} {pos : Pos}
def gName (i : Nat) : TG := fun v σ H Q => Q (σ.set i (some v)) H
theorem pg_name {i : Nat} {x : Str} (hN : X.N.Nodup) (hi : X.N[i]? = some x) (hx : Loc X.env.scope x) (hf : X.fn x = true ∨ X.env.scope.names.lookup x = some .local := by first | exact .inl rfl | exact .inr rfl | assumption) : PG X (.Name x pos) (gName i) := by
  intro pins s σ H v u Q I r h
  exact wpAny_assign_Name (store_ok I hN hi hx r (fun s' I' => ⟨_, H, I', h⟩) hf)
def gNil : TGs := fun vs σ H Q => vs = [] ∧ Q σ H
def gCons (t : TG) (u : TGs) : TGs := fun vs σ H Q => ∃ v r, vs = v :: r ∧ t v σ H fun σ' H' => u r σ' H' Q
theorem pgs_nil : PGs X [] gNil := by
  intro pins s σ H vs us Q I r h
  obtain ⟨e, h⟩ := h
  subst e
  cases r
  exact assignInOrder_nil ⟨σ, H, I, h⟩
theorem pgs_cons {e : Expr} {es : List Expr} {t : TG} {u : TGs} (h1 : PG X e t) (h2 : PGs X es u)
    (hs : (assignEach (e :: es) X.env).map (·.2) = assign e X.env :: (assignEach es X.env).map (·.2) := by rfl) : PGs X (e :: es) (gCons t u) := by
  intro pins s σ H vs us Q I r h
  obtain ⟨v, vr, e1, h⟩ := h
  subst e1
  cases r with
  | cons r rr =>
    rw [hs]
    refine assignInOrder_cons (thn (h1 pins s σ H _ _ _ I r h) fun _ s1 ⟨σ1, H1, I1, q1⟩ => ?_)
    exact h2 pins s1 σ1 H1 _ _ Q I1 rr q1
/-- (a, b, ..) = a tuple of that length -/
def gTup (K : PySem.W.Frag) (n : Nat) (t : TGs) : TG := fun v σ H Q => ∃ a xs, v = .ref a ∧ SqT K H a xs ∧ xs.length = n ∧ t xs σ H Q
theorem pg_tup {es : List Expr} {k : Nat} {t : TGs} {n : Nat} (hc : X.calm = true) (h : PGs X es t)
    (hn : (assignEach es X.env).length = n := by rfl) (hst : (assignEach es X.env).findIdx? (·.1) = none := by rfl) : PG X (.Tuple es k pos) (gTup X.K n t) := by
  intro pins s σ H v u Q I r hw
  obtain ⟨a, xs, e1, hq, hl, hw⟩ := hw
  subst e1
  cases r
  obtain ⟨its, rv, ht, hz⟩ := I.tuple hq
  refine assign_Tuple_tuple (I.ok.hd hc) ht (by simp [hn, ← hl, rv.length]) hst fun h' hx => ?_
  have I1 : Inv X pins σ H { s with heap := h' } := I.kept (t' := s.toks) fun b o e => hx b o (Nat.ne_of_lt (Heap.lt_size e)) e
  exact h pins _ σ H xs _ Q I1 (by simpa using rv) hw
/-- o[i] = .. -/
def gSub (to ti : TE) (t : TSet) : TG := fun v σ H Q => to σ H fun o H1 => ti σ H1 fun i H2 => t o i v H2 fun H3 => Q σ H3
theorem pg_sub {o i : Expr} {to ti : TE} {t : TSet} (ho : PE X o to) (hi : PE X i ti) (hs : PSet X t)
    (ha : ∀ v, assign (.Subscript o i pos) X.env v = (do
      let ov ← holding [v] (eval o X.env)
      let iv ← holding [v, ov] (eval i X.env)
      standAt pos
      holding [v, ov, iv] (setItem ov iv v)
      release [v, ov, iv] []) := by intro _; rfl) : PG X (.Subscript o i pos) (gSub to ti t) := by
  intro pins s σ H v u Q I r h
  rw [ha]
  refine wpAny_bind (wpAny_holding (thn (ho pins s σ H _ I h) fun ov s1 ⟨x, H1, I1, r1, q1⟩ => ?_))
  refine wpAny_bind (wpAny_holding (thn (hi pins s1 σ H1 _ I1 q1) fun iv s2 ⟨y, H2, I2, r2, q2⟩ => ?_))
  refine wpAny_bind (wpAny_standAt (wpAny_bind (wpAny_holding (thn (hs pins s2 σ H2 x y v ov iv u _ I2 r1 r2 r q2) fun _ s3 ⟨H3, I3, q3⟩ => ?_))))
  exact wpAny_release ⟨σ, H3, I3, q3⟩
/-- target = value -/
def tAsg (te : TE) (g : TG) : TS := fun D σ H => te σ H fun x H1 => g x σ H1 D.nx
theorem ps_asg {tg e : Expr} {te : TE} {g : TG} (he : PE X e te) (hg : PG X tg g) (hs : swapsWithSole [tg] e pos.line X.env = pure false := by rfl) (hw : swappedStores [tg] e X.env = pure none := by rfl)
    (h1 : (assignEach [tg] X.env).map (·.2) = [assign tg X.env] := by rfl) : PS X (.Assign [tg] e pos) (tAsg te g) := by
  intro pins s σ H D I h
  refine wpAny_Assign_stores (thn (he pins s σ H _ I h) fun v s1 ⟨x, H1, I1, r1, q1⟩ => ?_) hs hw
  rw [h1]
  exact thn (hg pins s1 σ H1 x v _ I1 r1 q1) fun _ s2 q => q
/-- name = value -/
theorem ps_set {i : Nat} {x : Str} {e : Expr} {te : TE} {pos' : Pos} (hN : X.N.Nodup) (hi : X.N[i]? = some x) (hx : Loc X.env.scope x) (he : PE X e te) (hs : swapsWith e (some (.Name x pos')) pos.line X.env = pure false := by rfl) (hf : X.fn x = true ∨ X.env.scope.names.lookup x = some .local := by first | exact .inl rfl | exact .inr rfl | assumption) :
    PS X (.Assign [.Name x pos'] e pos) (tAsg te (gName i)) := by
  intro pins s σ H D I h
  refine wpAny_Assign_Name (thn (he pins s σ H _ I h) fun v s1 ⟨y, H1, I1, r1, q1⟩ => ?_) hs
  exact store_ok I1 hN hi hx r1 (fun s2 I2 => ⟨_, H1, I2, q1⟩) hf
/-- a, b = x, y with plain local names: stored from the right; the pair itself is not tracked (the opening rows as in PyProof/Rows/TupAssign.lean:23) -/
def tPar (i j : Nat) (ta : TA) : TS := fun D σ H => ta σ H fun vs H1 => ∃ v w, vs = [v, w] ∧ D.nx ((σ.set i (some v)).set j (some w)) H1
theorem ps_par {i j : Nat} {x y : Str} {a b : Expr} {ta : TA} {px py pt : Pos} {kt k2 pt2} (hc : X.calm = true) (hN : X.N.Nodup) (hi : X.N[i]? = some x) (hj : X.N[j]? = some y) (hij : i ≠ j)
    (hx : X.env.scope.names.lookup x = some .local) (hy : X.env.scope.names.lookup y = some .local) (ha : PA X [a, b] ta)
    (hw : swappedStores [.Tuple [.Name x px, .Name y py] kt pt] (.Tuple [a, b] k2 pt2) X.env = pure (some [x, y]))
    (hs : swapsWithSole [.Tuple [.Name x px, .Name y py] kt pt] (.Tuple [a, b] k2 pt2) pos.line X.env = pure false := by rfl) :
    PS X (.Assign [.Tuple [.Name x px, .Name y py] kt pt] (.Tuple [a, b] k2 pt2) pos) (tPar i j ta) := by
  intro pins s σ H D I h
  rw [exec_Assign_arm]
  refine wpAny_bind (wpAny_standAt ?_)
  rw [hs]
  refine wpAny_bind (wpAny_pure ?_)
  rw [if_neg (by decide)]
  refine wpAny_bind (Tuple_ (thn (ha _ pins s σ H _ I h) fun us s1 ⟨vs, H1, I1, r1, q1⟩ => ?_))
  obtain ⟨v, w, e1, q1⟩ := q1
  subst e1
  obtain ⟨u1, u2, rfl, rv, rw'⟩ : ∃ u1 u2, us = [u1, u2] ∧ RelV v u1 ∧ RelV w u2 := by
    cases r1 with
    | cons p q =>
      cases q with
      | cons p' q' =>
        cases q'
        exact ⟨_, _, rfl, p, p'⟩
  refine wpAny_newObj_type ?_ (by show 2 ≤ sizeLine; decide)
  have I2 : Inv X pins σ H1 { s1 with heap := s1.heap.push { cls := .type "tuple", data := .seq [u1, u2].toArray } } := I1.kept (t' := s1.toks) fun b o e => Heap.get?_push_of_some _ e
  rw [hw]
  refine wpAny_bind (wpAny_pure ?_)
  show wpAny (model X.prog X.w) X.A (do rule "assign.swapped-stores"; let items ← unpackItems (.ref s1.heap.objs.size) 2 none; assignInOrder [fun v => bindName X.env y v, fun v => bindName X.env x v] items.reverse; pure Flow.next) _ _ _
  refine wpAny_bind (wpAny_rule (wpAny_bind (unpackItems_tuple (items := #[u1, u2]) (I.ok.hd hc) (IsTup.new s1.heap _) fun h' hx' => ?_)))
  have I3 := I2.kept (h' := h') (t' := s1.toks) fun b o e => hx' b o (Nat.ne_of_lt (Heap.lt_size e)) e
  show wpAny _ _ (assignInOrder [fun v => bindName X.env y v, fun v => bindName X.env x v] [u2, u1] >>= fun _ => pure Flow.next) _ _ _
  refine wpAny_bind (assignInOrder_cons (wpAny_bindName (store_ok I3 hN hj (.inl hy) rw' (fun s2 I4 => ?_) (.inr hy))))
  refine assignInOrder_cons (wpAny_bindName (store_ok I4 hN hi (.inl hx) rv (fun s3 I5 => assignInOrder_nil (wpAny_pure ?_)) (.inr hx)))
  rw [List.set_comm _ _ (Ne.symm hij)] at I5
  exact ⟨_, H1, I5, q1⟩
end

/-! ### while -/
section
variable {X : Cx} {pos : Pos}
/-- the invariant W with its measure -/
def tWhile (c : TT) (tb : TS) : TS := fun D σ H => ∃ W : Nat → St → Hp → Prop, (∃ m, W m σ H) ∧ ∀ m σ H, W m σ H →
  c σ H fun b H1 => if b = true then ∃ N : St → Hp → Prop, (∀ σ' H', N σ' H' → ∃ m', m' < m ∧ W m' σ' H') ∧ tb { D with nx := N, ct := N, bk := D.nx } σ H1 else D.nx σ H1
theorem ps_while {c : Expr} {body : List Stmt} {tc : TT} {tb : TS} (hp : PassesOwn (model X.prog X.w) X.A X.env X.xe) (hc : PT X c tc) (hb : PSs X body tb) : PS X (.While c body [] pos) (tWhile tc tb) := by
  intro pins s σ H D I h
  obtain ⟨W, ⟨m0, w0⟩, turn⟩ := h
  refine wpAny_While (codeAny_whileLoop (fun n s' => ∃ σ' H', Inv X pins σ' H' s' ∧ W n σ' H') ?_ m0 ⟨σ, H, I, w0⟩)
  rintro n s1 ⟨σ1, H1, I1, w1⟩
  refine wpAny_passesOwn hp (thn (hc pins s1 σ1 H1 _ I1 (turn n σ1 H1 w1)) fun b s2 ⟨H2, I2, q2⟩ => ?_)
  cases b with
  | true =>
    obtain ⟨N, hN, q2⟩ := q2
    rw [if_pos rfl]
    refine wpAny_passesOwn hp (thn (hb pins s2 σ1 H2 _ I2 q2) fun f s3 q3 => ?_)
    cases f with
    | next =>
      obtain ⟨σ3, H3, I3, n3⟩ := q3
      obtain ⟨m', hm, w3⟩ := hN σ3 H3 n3
      exact ⟨m', hm, σ3, H3, I3, w3⟩
    | cont =>
      obtain ⟨σ3, H3, I3, n3⟩ := q3
      obtain ⟨m', hm, w3⟩ := hN σ3 H3 n3
      exact ⟨m', hm, σ3, H3, I3, w3⟩
    | brk => exact q3
    | ret v => exact q3
  | false =>
    rw [if_neg Bool.false_ne_true]
    exact wpAny_execs_nil ⟨σ1, H2, I2, q2⟩
end

/-! ### what a loop or a comprehension walks -/
/-- at turn i: it yields x (the heap may grow), or it stops -/
structure It where
  go : Nat → Hp → Prop
  yld : Nat → Hp → V → Hp → Prop
  stop : Nat → Hp → Prop
/-- the iterator's own objects may turn: they are not the frame's, not pinned, younger than the entry (or a comprehension's own) -/
def FpOk (X : Cx) (pins : List (Addr × Obj)) (H : Hp) (b : Addr) : Prop :=
  H b = none ∧ b ≠ X.env.locals ∧ b ∉ X.fs ∧ (b ∈ X.ex ∨ X.s₀.heap.objs.size ≤ b) ∧ (∀ x c, X.env.cells.lookup x = some c → c ≠ b) ∧ ∀ p ∈ X.pn ++ pins, p.1 ≠ b
theorem Inv.fpOk {X : Cx} {pins : List (Addr × Obj)} {σ : St} {H H' : Hp} {s : Shared} {b : Addr} (I : Inv X pins σ H s) (hb : s.heap.objs.size ≤ b) (hn : H' b = none) : FpOk X pins H' b := by
  refine ⟨hn, Nat.ne_of_gt (Nat.lt_of_lt_of_le I.lt hb), I.nofs hb, .inr (Nat.le_trans I.sz hb), fun x c e z => ?_, fun p hp z => ?_⟩
  · obtain ⟨v, q⟩ := I.cell x c e
    exact absurd (Nat.lt_of_lt_of_le q.lt (by rw [z]; exact hb)) (Nat.lt_irrefl _)
  · exact absurd (Nat.lt_of_lt_of_le (Heap.lt_size (I.pin p hp).1) (by rw [z]; exact hb)) (Nat.lt_irrefl _)
structure Turn (P : Program) (w : World) (K : PySem.W.Frag) (tg : Expr) (J : It) (fp : List Addr) (it : Addr) (tn : Nat → Heap → Prop) : Prop where
  mem : it ∈ fp
  obj : ∀ i h, tn i h → ∀ b ∈ fp, ∃ o, h.get? b = some o ∧ ∀ v, o.data ≠ .cell v
  keep : ∀ i h h', tn i h → (∀ b ∈ fp, ∀ o, h.get? b = some o → h'.get? b = some o) → tn i h'
  item : ∀ (X : Cx), X.prog = P → X.w = w → X.K = K → X.calm = true → ∀ (i : Nat) (pins : List (Addr × Obj)) (s : Shared) (σ : St) (H : Hp) (E : Value → Shared → Prop), Inv X pins σ H s → (∀ b ∈ fp, FpOk X pins H b) → tn i s.heap → J.go i H →
    wpAny (model P w) X.A (pyNext (.ref it)) (fun r s1 => ∃ u, r = some u ∧
      wpAny (model P w) X.A (letOwnedTupleGo tg (.ref it) u) (fun _ s2 => ∃ x H', Inv X pins σ H' s2 ∧ RelV x u ∧ J.yld i H x H' ∧ tn (i + 1) s2.heap ∧ ∀ b ∈ fp, H' b = none) E s1) E s
  done : ∀ (X : Cx), X.prog = P → X.w = w → X.K = K → X.calm = true → ∀ (i : Nat) (pins : List (Addr × Obj)) (s : Shared) (σ : St) (H : Hp) (E : Value → Shared → Prop), Inv X pins σ H s → (∀ b ∈ fp, FpOk X pins H b) → tn i s.heap → J.stop i H →
    wpAny (model P w) X.A (pyNext (.ref it)) (fun r s1 => r = none ∧ Inv X pins σ H s1) E s
  self : ∀ (A : Around) (i : Nat) (s : Shared) (Q : Value → Shared → Prop) (E : Value → Shared → Prop), tn i s.heap → Q (.ref it) s → wpAny (model P w) A (pyIter (.ref it)) Q E s
abbrev TI := St → Hp → (It → Hp → Prop) → Prop
/-- an iterator has come -/
def PIE (X : Cx) (pins : List (Addr × Obj)) (σ : St) (tg : Expr) (R : It → Hp → Prop) (itv : Value) (s2 : Shared) : Prop :=
  ∃ (it : Addr) (fp : List Addr) (tn : Nat → Heap → Prop) (J : It) (H' : Hp), itv = .ref it ∧ Inv X pins σ H' s2 ∧ Turn X.prog X.w X.K tg J fp it tn ∧ tn 0 s2.heap ∧ (∀ b ∈ fp, FpOk X pins H' b) ∧ R J H'
def PI (X : Cx) (tg iter : Expr) (wi : TI) : Prop :=
  ∀ (pins : List (Addr × Obj)) (s : Shared) (σ : St) (H : Hp) (R : It → Hp → Prop), Inv X pins σ H s → wi σ H R →
    wpAny (model X.prog X.w) X.A (eval iter X.env) (fun v s1 => wpAny (model X.prog X.w) X.A (pyIter v) (PIE X pins σ tg R) X.xe s1) X.xe s

/-- the step ahead of the store is nothing for an iterator that keeps no tuple -/
theorem go_of {M : Model} {A : Around} {E : Value → Shared → Prop} {s : Shared} {tg : Expr} {it : Addr} {u : Value} {o : Obj} {n : String} {vs : Array Value} {Q : Unit → Shared → Prop} (ho : s.heap.get? it = some o) (hc : o.cls = .type n) (hd : o.data = .fields vs)
    (hn : ["enumerate", "zip", "dict_itemiterator", "dict_reverseitemiterator", "odict_iterator", "itertools.zip_longest", "itertools.pairwise"].contains n = false) (hQ : Q () s) : wpAny M A (letOwnedTupleGo tg (.ref it) u) Q E s := by
  unfold letOwnedTupleGo
  cases tg <;> first
    | exact wpAny_pure hQ
    | (cases u <;> first
        | exact wpAny_pure hQ
        | (refine wpAny_bind (wpAny_load ho ?_)
           rw [hc, hd]
           show wpAny M A (if (["enumerate", "zip", "dict_itemiterator", "dict_reverseitemiterator", "odict_iterator", "itertools.zip_longest", "itertools.pairwise"].contains n && vs[0]? == some (rawInt _)) = true then _ else _) Q E s
           rw [if_neg (by intro h; rw [hn, Bool.false_and] at h; cases h)]
           exact wpAny_pure hQ))

/-- the list at a, as it stands at each turn (a loop may append to it) -/
def Itl (K : PySem.W.Frag) (a : Addr) : It :=
  ⟨fun i H => ∃ xs x, SqL K H a xs ∧ xs[i]? = some x, fun i H x H' => H' = H ∧ ∀ xs, SqL K H a xs → xs[i]? = some x, fun i H => ∃ xs, SqL K H a xs ∧ xs.length ≤ i⟩
/-- lo, lo + 1, .. (n of them) -/
def Itr (lo : Int) (n : Nat) : It := ⟨fun i _ => i < n, fun i H x H' => H' = H ∧ x = .int (lo + i), fun i _ => n ≤ i⟩
theorem turn_list {P : Program} {w : World} {K : PySem.W.Frag} {tg : Expr} (a it : Addr) : Turn P w K tg (Itl K a) [it] it (fun i h => h.IsListIter it a i) where
  mem := by simp
  obj := fun i h st b hb => by
    have e : b = it := by simpa using hb
    subst e
    obtain ⟨o, e, c, d⟩ := st
    exact ⟨o, e, fun v z => by rw [d] at z; cases z⟩
  keep := fun i h h' st k => st.at fun o e => k it (by simp) o e
  item := by
    intro X hP hw hK hc i pins s σ H E I hf st hg
    subst hP hw hK
    obtain ⟨xs, x, hq, hx⟩ := hg
    obtain ⟨its, rv, p, hz⟩ := I.list hq
    obtain ⟨u, hu, ru⟩ := rv.get hx
    obtain ⟨f0, f1, f2, f3, f4, f5⟩ := hf it (by simp)
    refine wpAny_pyNext_list_item st p.isList (x := u) (by simpa using hu) fun h' st' sb => ?_
    have I1 : Inv X pins σ H { s with heap := h' } := I.turned (t' := s.toks) (fun b o hb e => (sb.2 b hb).trans e) f0 f1 f3 f4 f5
    obtain ⟨o, e, c, d⟩ := id st'
    exact ⟨u, rfl, go_of (s := { s with heap := h' }) e c d (by decide) ⟨x, H, I1, ru, ⟨rfl, fun ys hy => by rw [I.list_inj hy hq]; exact hx⟩, st', fun b hb => (hf b hb).1⟩⟩
  done := by
    intro X hP hw hK hc i pins s σ H E I hf st hg
    subst hP hw hK
    obtain ⟨xs, hq, hx⟩ := hg
    obtain ⟨its, rv, p, hz⟩ := I.list hq
    obtain ⟨f0, f1, f2, f3, f4, f5⟩ := hf it (by simp)
    have hl := rv.length
    exact wpAny_pyNext_list_end (I.ok.hd hc) st p.isList (by simp; omega) fun h' eb => ⟨rfl, I.turned (t' := s.toks) (fun b o hb e => eb b o hb e) f0 f1 f3 f4 f5⟩
  self := fun _ _ _ _ _ st h => wpAny_pyIter_listiter st h
theorem turn_range {P : Program} {w : World} {K : PySem.W.Frag} {tg : Expr} (it : Addr) (lo : Int) (n : Nat) : Turn P w K tg (Itr lo n) [it] it (fun i h => IsRangeIter h it (lo + (i : Nat) * 1) ((n : Int) - (i : Nat)) 1) where
  mem := by simp
  obj := fun i h st b hb => by
    have e : b = it := by simpa using hb
    subst e
    exact ⟨_, st, fun v z => by
      have z' : Data.fields _ = Data.cell v := z
      cases z'⟩
  keep := fun i h h' st k => k it (by simp) _ st
  item := by
    intro X hP hw hK hc i pins s σ H E I hf st hg
    subst hP hw hK
    obtain ⟨f0, f1, f2, f3, f4, f5⟩ := hf it (by simp)
    have W := Walks.range (prog := X.prog) (w := X.w) (I.ok.hd hc) it lo 1 n
    refine W.item i s _ _ hg st fun v h' tk hv st' kk => ?_
    obtain ⟨t, rfl⟩ := hv
    have I1 : Inv X pins σ H { s with heap := h', toks := tk } := I.turned (fun b o hb e => kk b o (by simpa using hb) e) f0 f1 f3 f4 f5
    refine ⟨_, rfl, go_of (s := { s with heap := h', toks := tk }) (n := "range_iterator") st' rfl rfl (by decide) ⟨.int (lo + i), H, I1, ⟨t, ?_⟩, ⟨rfl, rfl⟩, st', fun b hb => (hf b hb).1⟩⟩
    rw [Int.mul_one]
  done := by
    intro X hP hw hK hc i pins s σ H E I hf st hg
    subst hP hw hK
    obtain ⟨f0, f1, f2, f3, f4, f5⟩ := hf it (by simp)
    exact wpAny_pyNext_range_end (I.ok.hd hc) st (by have : n ≤ i := hg; omega) fun h' eb => ⟨rfl, I.turned (t' := s.toks) (fun b o hb e => eb b o hb e) f0 f1 f3 f4 f5⟩
  self := fun _ _ _ _ _ st h => wpAny_pyIter_rangeiter st h
end L2

namespace L2
open PySem PySem.Spec PyProof.Rows
section
variable {X : Cx} {tg : Expr}
def iList (K : PySem.W.Frag) (tl : TE) : TI := fun σ H R => tl σ H fun x H1 => ∃ a, x = .ref a ∧ (∃ xs, SqL K H1 a xs) ∧ R (Itl K a) H1
theorem pi_list {l : Expr} {tl : TE} (hl : PE X l tl) : PI X tg l (iList X.K tl) := by
  intro pins s σ H R I h
  refine thn (hl pins s σ H _ I h) fun v s1 ⟨x, H1, I1, r1, q1⟩ => ?_
  obtain ⟨a, e, ⟨xs, hq⟩, q⟩ := q1
  subst e
  cases r1
  obtain ⟨its, rv, p, hz⟩ := I1.list hq
  refine wpAny_pyIter_list p.isList ?_
  refine ⟨s1.heap.objs.size, [s1.heap.objs.size], _, _, H1, rfl, I1.kept (t' := s1.toks) fun b o e => Heap.get?_push_of_some _ e, turn_list a _, ⟨_, Heap.get?_push_size _ rfl, rfl, rfl⟩, fun b hb => ?_, q⟩
  have e : b = s1.heap.objs.size := by simpa using hb
  subst e
  exact I1.fpOk (Nat.le_refl _) (I1.hok.fresh (Nat.le_refl _))
/-- a range object just made, walked -/
theorem range_it {pins : List (Addr × Obj)} {σ : St} {H : Hp} {s : Shared} {R : It → Hp → Prop} {E : Value → Shared → Prop} {lo hi : Int} {t u v : Tok} {tk : Nat} (I : Inv X pins σ H s) (h1 : -(2 ^ 62) ≤ lo) (h2 : lo < 2 ^ 62) (h3 : -(2 ^ 62) ≤ hi) (h4 : hi < 2 ^ 62)
    (q : R (Itr lo (hi - lo).toNat) H) : wpAny (model X.prog X.w) X.A (pyIter (.ref s.heap.objs.size)) (PIE X pins σ tg R) E { s with heap := s.heap.push { cls := .type "range", data := .fields #[.int lo t, .int hi u, .int 1 v] }, toks := tk } := by
  refine wpAny_pyIter_range (IsRange.new ..) (small_one h1 h2 h3 h4) ?_
  have I1 : Inv X pins σ H { s with heap := s.heap.push { cls := .type "range", data := .fields #[.int lo t, .int hi u, .int 1 v] }, toks := tk } := I.kept fun b o e => Heap.get?_push_of_some _ e
  refine ⟨(s.heap.push { cls := .type "range", data := .fields #[.int lo t, .int hi u, .int 1 v] }).objs.size, [(s.heap.push { cls := .type "range", data := .fields #[.int lo t, .int hi u, .int 1 v] }).objs.size], _, _, H, rfl,
    I1.kept (t' := tk) fun b o e => Heap.get?_push_of_some _ e, turn_range _ lo (hi - lo).toNat, ?_, fun b hb => ?_, q⟩
  · have e1 : lo + ((0 : Nat) : Int) * 1 = lo := by simp
    have e2 : (((hi - lo).toNat : Nat) : Int) - ((0 : Nat) : Int) = Builtin.Range.rangeSize lo hi 1 := by rw [rangeSize_one]; split <;> omega
    show IsRangeIter _ _ (lo + ((0 : Nat) : Int) * 1) ((((hi - lo).toNat : Nat) : Int) - ((0 : Nat) : Int)) 1
    rw [e1, e2]
    exact Heap.get?_push_size _ rfl
  · have e : b = (s.heap.push { cls := .type "range", data := .fields #[.int lo t, .int hi u, .int 1 v] }).objs.size := by simpa using hb
    subst e
    exact I1.fpOk (Nat.le_refl _) (I1.hok.fresh (Nat.le_refl _))
def iRng1 (ta : TA) : TI := fun σ H R => ta σ H fun vs H1 => ∃ j : Int, vs = [.int j] ∧ -(2 ^ 62) ≤ j ∧ j < 2 ^ 62 ∧ R (Itr 0 j.toNat) H1
theorem pi_range1 {a : Expr} {ta : TA} {p pos : Pos} (hg : Gl X "range") (hm : X.mg "range" = none) (ha : PA X [a] ta) (hs : starEach [a] X.env = [(false, eval a X.env)] := by rfl) : PI X tg (.Call (.Name "range" p) [a] [] pos) (iRng1 ta) := by
  intro pins s σ H R I h
  refine Call_ (ld_blt I hg hm boot_range (PyProof.Rows.callWith_type1 (thn (ha pos pins s σ H _ I h) fun us s1 ⟨vs, H1, I1, r1, q1⟩ => ?_) hs rfl))
  obtain ⟨j, e, q1, q2, q⟩ := q1
  subst e
  cases r1 with
  | cons r rr =>
    cases rr
    obtain ⟨t, rfl⟩ := r
    exact call_range_1 (range_it I1 (by omega) (by omega) q1 q2 (by simpa using q))
/-! ### for -/
/-- W: the invariant by the turn and a measure; N: what the body is to reach -/
def tFor (wi : TI) (g : TG) (tb : TS) : TS := fun D σ H => wi σ H fun J H1 => ∃ W : Nat → Nat → St → Hp → Prop, (∃ m, W 0 m σ H1) ∧ ∀ i m σ H, W i m σ H →
  (J.stop i H ∧ D.nx σ H) ∨ (J.go i H ∧ ∃ N : St → Hp → Prop, (∀ σ' H', N σ' H' → ∃ m', m' < m ∧ W (i + 1) m' σ' H') ∧ ∀ x H', J.yld i H x H' → g x σ H' fun σ2 H2 => tb { D with nx := N, ct := N, bk := D.nx } σ2 H2)
/-- the records at fp as they stand -/
def pinsAt (fp : List Addr) (h : Heap) : List (Addr × Obj) := fp.filterMap fun b => (h.get? b).map fun o => (b, o)
theorem mem_pinsAt {fp : List Addr} {h : Heap} {b : Addr} {o : Obj} (hb : b ∈ fp) (e : h.get? b = some o) : (b, o) ∈ pinsAt fp h := List.mem_filterMap.mpr ⟨b, hb, by rw [e]; rfl⟩
theorem of_pinsAt {fp : List Addr} {h : Heap} {p : Addr × Obj} (hp : p ∈ pinsAt fp h) : p.1 ∈ fp ∧ h.get? p.1 = some p.2 := by
  obtain ⟨b, hb, e⟩ := List.mem_filterMap.mp hp
  cases q : h.get? b with
  | none => rw [q] at e; cases e
  | some o =>
    rw [q] at e
    have e' : (b, o) = p := Option.some.inj e
    subst e'
    exact ⟨hb, q⟩
theorem Inv.pinned {pins : List (Addr × Obj)} {σ : St} {H : Hp} {s : Shared} {fp : List Addr} (I : Inv X pins σ H s) (hf : ∀ b ∈ fp, FpOk X pins H b) (ho : ∀ b ∈ fp, ∃ o, s.heap.get? b = some o ∧ ∀ v, o.data ≠ .cell v) : Inv X (pins ++ pinsAt fp s.heap) σ H s :=
  I.pins_of fun p hp => (List.mem_append.mp hp).elim (fun z => I.pin p (List.mem_append_right _ z)) fun z => by
    obtain ⟨hb, e⟩ := of_pinsAt z
    obtain ⟨f0, f1, f2, _⟩ := hf p.1 hb
    obtain ⟨o, e', d⟩ := ho p.1 hb
    rw [e] at e'; cases e'
    exact ⟨e, f0, f1, f2, d⟩
theorem Inv.unpinned {pins pl : List (Addr × Obj)} {σ : St} {H : Hp} {s : Shared} (I : Inv X (pins ++ pl) σ H s) : Inv X pins σ H s := I.pins_of fun p hp => I.pin p (List.mem_append_right _ (List.mem_append_left _ hp))
theorem ps_for {iter : Expr} {body : List Stmt} {wi : TI} {g : TG} {tb : TS} {pos : Pos} (hp : PassesOwn (model X.prog X.w) X.A X.env X.xe) (hc : X.calm = true) (hi : PI X tg iter wi) (hg : PG X tg g) (hb : PSs X body tb)
    (hs : ∀ x, foldedSetIterable iter X.env x = pure x := by intro _; rfl) : PS X (.For tg iter body [] pos) (tFor wi g tb) := by
  intro pins s σ H D I h
  refine wpAny_For (thn (hi pins s σ H _ I h) fun v s1 h1 => thn h1 fun itv s2 h2 => ?_) hs
  obtain ⟨it, fp, tn, J, H2, e, I2, T, st2, f2, W, ⟨m0, w0⟩, turn⟩ := h2
  subst e
  -- what stays true of the iterator's objects through the loop
  have stat : ∀ {H' : Hp}, (∀ b ∈ fp, H' b = none) → ∀ b ∈ fp, FpOk X pins H' b := fun hn b hb => ⟨hn b hb, (f2 b hb).2⟩
  refine codeAny_forLoop_any (fun n s' => ∃ i σ' H', Inv X pins σ' H' s' ∧ tn i s'.heap ∧ (∀ b ∈ fp, H' b = none) ∧ W i n σ' H') ?_ m0 ⟨0, σ, H2, I2, st2, fun b hb => (f2 b hb).1, w0⟩
  rintro n s3 ⟨i, σ3, H3, I3, st3, fr3, w3⟩
  rcases turn i n σ3 H3 w3 with ⟨stop, qn⟩ | ⟨go, N, hN, step⟩
  · refine wpAny_passesOwn hp (thn (T.done X rfl rfl rfl hc i pins s3 σ3 H3 X.xe I3 (stat fr3) st3 stop) fun r s4 ⟨hr, I4⟩ => ?_)
    subst hr
    exact wpAny_execs_nil ⟨σ3, H3, I4, qn⟩
  · refine wpAny_passesOwn hp (thn (T.item X rfl rfl rfl hc i pins s3 σ3 H3 X.xe I3 (stat fr3) st3 go) fun r s4 ⟨u, hr, h4⟩ => ?_)
    subst hr
    refine wpAny_passesOwn hp (thn h4 fun _ s5 ⟨x, H5, I5, r5, y5, st5, fr5⟩ => ?_)
    have I5' := I5.pinned (stat fr5) (T.obj _ _ st5)
    refine wpAny_passesOwn hp (thn (hg _ s5 σ3 H5 x u _ I5' r5 (step x H5 y5)) fun _ s6 ⟨σ6, H6, I6, q6⟩ => ?_)
    refine wpAny_passesOwn hp (thn (hb _ s6 σ6 H6 _ I6 q6) fun f s7 q7 => ?_)
    have again : ∀ {σ7 : St} {H7 : Hp}, Inv X (pins ++ pinsAt fp s5.heap) σ7 H7 s7 → N σ7 H7 → ∃ m, m < n ∧ ∃ i σ' H', Inv X pins σ' H' s7 ∧ tn i s7.heap ∧ (∀ b ∈ fp, H' b = none) ∧ W i m σ' H' := fun {σ7 H7} I7 n7 => by
      obtain ⟨m', hm, w7⟩ := hN σ7 H7 n7
      refine ⟨m', hm, i + 1, σ7, H7, I7.unpinned, T.keep _ _ _ st5 fun b hb o e => (I7.pin (b, o) (List.mem_append_right _ (List.mem_append_right _ (mem_pinsAt hb e)))).1, fun b hb => ?_, w7⟩
      obtain ⟨o, e, d⟩ := T.obj _ _ st5 b hb
      exact (I7.pin (b, o) (List.mem_append_right _ (List.mem_append_right _ (mem_pinsAt hb e)))).2.1
    cases f with
    | next => obtain ⟨σ7, H7, I7, n7⟩ := q7; exact again I7 n7
    | cont => obtain ⟨σ7, H7, I7, n7⟩ := q7; exact again I7 n7
    | brk => obtain ⟨σ7, H7, I7, q7⟩ := q7; exact ⟨σ7, H7, I7.unpinned, q7⟩
    | ret v => obtain ⟨x7, σ7, H7, I7, r7, q7⟩ := q7; exact ⟨x7, σ7, H7, I7.unpinned, r7, q7⟩
end

/-! ### the forms one uses -/
end L2

namespace L2
open PySem PySem.Spec PyProof.Rows

abbrev R2 := V → V → Hp → VK → Prop
/-- a two-place operation on values: f is binaryOp op, inplaceOp op or compareOp op -/
def OpR (X : Cx) (f : Value → Value → Sem Value) (r : R2) : Prop :=
  ∀ (pins : List (Addr × Obj)) (s : Shared) (σ : St) (H : Hp) (x y : V) (v u : Value) (Q : VK), Inv X pins σ H s → RelV x v → RelV y u → r x y H Q →
    wpAny (model X.prog X.w) X.A (f v u) (EP X pins σ Q) X.xe s
/-- a one-place operation -/
def UnR (X : Cx) (f : Value → Sem Value) (r : V → Hp → VK → Prop) : Prop :=
  ∀ (pins : List (Addr × Obj)) (s : Shared) (σ : St) (H : Hp) (x : V) (v : Value) (Q : VK), Inv X pins σ H s → RelV x v → r x H Q →
    wpAny (model X.prog X.w) X.A (f v) (EP X pins σ Q) X.xe s
/-- a call of a value that is known (a builtin, a type) with values -/
def CallR (X : Cx) (f : Value) (r : List V → Hp → VK → Prop) : Prop :=
  ∀ (pins : List (Addr × Obj)) (s : Shared) (σ : St) (H : Hp) (xs : List V) (us : List Value) (Q : VK), Inv X pins σ H s → Vals xs us → r xs H Q →
    wpAny (model X.prog X.w) X.A (call f us) (EP X pins σ Q) X.xe s
def tOp (r : R2) (ta tb : TE) : TE := fun σ H Q => ta σ H fun x H1 => tb σ H1 fun y H2 => r x y H2 Q
def tUn (r : V → Hp → VK → Prop) (ta : TE) : TE := fun σ H Q => ta σ H fun x H1 => r x H1 Q
/-- ints in, under C, and a value out -/
def rI (C : Int → Int → Prop) (g : Int → Int → V) : R2 := fun x y H Q => ∃ i j, x = .int i ∧ y = .int j ∧ C i j ∧ Q (g i j) H
def rI0 (g : Int → Int → V) : R2 := fun x y H Q => ∃ i j, x = .int i ∧ y = .int j ∧ Q (g i j) H
def rU (g : Int → V) : V → Hp → VK → Prop := fun x H Q => ∃ i, x = .int i ∧ Q (g i) H

section
variable {X : Cx} {a b c : Expr} {ta tb tc : TE} {pos : Pos}

theorem binT (ha : PE X a ta) (hb : PE X b tb) {pins : List (Addr × Obj)} {s : Shared} {σ : St} {H : Hp} {R : V → V → Hp → Prop} (I : Inv X pins σ H s)
    (h : ta σ H fun x H1 => tb σ H1 fun y H2 => R x y H2) {Q : Value → Shared → Prop} {f : Value → Value → Sem Value}
    (hf : ∀ v u s2 x y H2, Inv X pins σ H2 s2 → RelV x v → RelV y u → R x y H2 → wpAny (model X.prog X.w) X.A (f v u) Q X.xe s2) :
    wpAny (model X.prog X.w) X.A (eval a X.env) (fun v s₁ => wpAny (model X.prog X.w) X.A (eval b X.env) (fun u s₂ => wpAny (model X.prog X.w) X.A (f v u) Q X.xe s₂) X.xe s₁) X.xe s := by
  refine thn (ha pins s σ H _ I h) fun v s1 ⟨x, H1, I1, r1, q1⟩ => ?_
  refine thn (hb pins s1 σ H1 _ I1 q1) fun u s2 ⟨y, H2, I2, r2, q2⟩ => ?_
  exact hf v u s2 x y H2 I2 r1 r2 q2

theorem pe_op {op : Operator} {r : R2} (ho : OpR X (binaryOp op) r) (ha : PE X a ta) (hb : PE X b tb) : PE X (.BinOp a op b pos) (tOp r ta tb) := by
  intro pins s σ H Q I h
  exact wpAny_BinOp (binT ha hb I h fun v u s2 x y H2 I2 rx ry q => ho pins s2 σ H2 x y v u Q I2 rx ry q)
theorem pe_un {op : UnaryOp} {r : V → Hp → VK → Prop} (ho : UnR X (unaryOp op) r) (ha : PE X a ta) : PE X (.UnaryOp op a pos) (tUn r ta) := by
  intro pins s σ H Q I h
  exact UnaryOp_ (thn (ha pins s σ H _ I h) fun v s1 ⟨x, H1, I1, r1, q1⟩ => ho pins s1 σ H1 x v Q I1 r1 q1)
/-! ### ints -/
theorem opI {f : Value → Value → Sem Value} {C : Int → Int → Prop} {g : Int → Int → Int}
    (rule : ∀ (i j : Int) (t u : Tok) (s : Shared) (Q : Value → Shared → Prop) (E : Value → Shared → Prop), C i j → Q (.int (g i j) s.toks) { s with toks := s.toks + 1 } → wpAny (model X.prog X.w) X.A (f (.int i t) (.int j u)) Q E s) :
    OpR X f (rI C fun i j => .int (g i j)) := by
  intro pins s σ H x y v u Q I rx ry h
  obtain ⟨i, j, rfl, rfl, hc, q⟩ := h
  obtain ⟨t, rfl⟩ := rx
  obtain ⟨t', rfl⟩ := ry
  exact rule i j t t' s _ _ hc ⟨.int (g i j), H, I.tok _, ⟨_, rfl⟩, q⟩
theorem opI0 {f : Value → Value → Sem Value} {g : Int → Int → Int}
    (rule : ∀ (i j : Int) (t u : Tok) (s : Shared) (Q : Value → Shared → Prop) (E : Value → Shared → Prop), Q (.int (g i j) s.toks) { s with toks := s.toks + 1 } → wpAny (model X.prog X.w) X.A (f (.int i t) (.int j u)) Q E s) :
    OpR X f (rI0 fun i j => .int (g i j)) := by
  intro pins s σ H x y v u Q I rx ry h
  obtain ⟨i, j, rfl, rfl, q⟩ := h
  obtain ⟨t, rfl⟩ := rx
  obtain ⟨t', rfl⟩ := ry
  exact rule i j t t' s _ _ ⟨.int (g i j), H, I.tok _, ⟨_, rfl⟩, q⟩
theorem opB0 {f : Value → Value → Sem Value} {g : Int → Int → Bool}
    (rule : ∀ (i j : Int) (t u : Tok) (s : Shared) (Q : Value → Shared → Prop) (E : Value → Shared → Prop), Q (.bool (g i j)) s → wpAny (model X.prog X.w) X.A (f (.int i t) (.int j u)) Q E s) :
    OpR X f (rI0 fun i j => .bl (g i j)) := by
  intro pins s σ H x y v u Q I rx ry h
  obtain ⟨i, j, rfl, rfl, q⟩ := h
  obtain ⟨t, rfl⟩ := rx
  obtain ⟨t', rfl⟩ := ry
  exact rule i j t t' s _ _ ⟨.bl (g i j), H, I, rfl, q⟩

def CPow (i j : Int) : Prop := 0 ≤ j ∧ j ≤ 1000000 ∧ i.natAbs < 2 ^ 64
def CMul (i j : Int) : Prop := (-(2 ^ 64) < i ∧ i < 2 ^ 64) ∨ (-(2 ^ 64) < j ∧ j < 2 ^ 64)
theorem CMul.ok {i j : Int} (h : CMul i j) : IntMulOk i j := by
  rcases h with ⟨h1, h2⟩ | ⟨h1, h2⟩
  · exact .of_left (intBits_le_64 h1 h2)
  · exact .of_right (intBits_le_64 h1 h2)
theorem op_add : OpR X (binaryOp .Add) (rI0 fun i j => .int (i + j)) := opI0 fun _ _ _ _ _ _ _ q => add_int q
theorem op_sub : OpR X (binaryOp .Sub) (rI0 fun i j => .int (i - j)) := opI0 fun _ _ _ _ _ _ _ q => sub_int q
theorem op_modN : OpR X (binaryOp .Mod) (rI (fun _ j => j ≠ 0) fun i j => .int (i.fmod j)) := opI fun _ _ _ _ _ _ _ hc q => mod_int' hc q
theorem op_pow : OpR X (binaryOp .Pow) (rI CPow fun i j => .int (i ^ j.toNat)) := opI fun _ _ _ _ _ _ _ hc q => pow_int_small hc.1 hc.2.1 hc.2.2 q
theorem unI {f : Value → Sem Value} {g : Int → Int}
    (rule : ∀ (i : Int) (t : Tok) (s : Shared) (Q : Value → Shared → Prop) (E : Value → Shared → Prop), Q (.int (g i) s.toks) { s with toks := s.toks + 1 } → wpAny (model X.prog X.w) X.A (f (.int i t)) Q E s) :
    UnR X f (rU fun i => .int (g i)) := by
  intro pins s σ H x v Q I rx h
  obtain ⟨i, rfl, q⟩ := h
  obtain ⟨t, rfl⟩ := rx
  exact rule i t s _ _ ⟨.int (g i), H, I.tok _, ⟨_, rfl⟩, q⟩
theorem un_neg : UnR X (unaryOp .USub) (rU fun i => .int (-i)) := unI fun _ _ _ _ _ q => neg_int q
/-! ### bools among ints: n += (a < b) -/
end

/-! ### comparisons -/
section
variable {X : Cx} {a b c : Expr} {ta tb tc : TE} {pos : Pos}
theorem fin_bl {pins : List (Addr × Obj)} {σ : St} {H : Hp} {s : Shared} {Q : VK} {k k' : Bool} (I : Inv X pins σ H s) (q : Q (.bl k) H) (e : k = k') : EP X pins σ Q (.bool k') s := by
  subst e
  exact ⟨.bl k, H, I, rfl, q⟩
theorem op_lt : OpR X (compareOp .Lt) (rI0 fun i j => .bl (decide (i < j))) := opB0 fun _ _ _ _ _ _ _ q => lt_int q
theorem op_le : OpR X (compareOp .LtE) (rI0 fun i j => .bl (decide (i ≤ j))) := opB0 fun _ _ _ _ _ _ _ q => le_int q
theorem op_gt : OpR X (compareOp .Gt) (rI0 fun i j => .bl (decide (j < i))) := opB0 fun _ _ _ _ _ _ _ q => gt_int q
theorem op_ge : OpR X (compareOp .GtE) (rI0 fun i j => .bl (decide (j ≤ i))) := opB0 fun _ _ _ _ _ _ _ q => ge_int q
/-- is None, is not None: the right side a value none -/
theorem op_isN : OpR X (compareOp .Is) (fun x y H Q => y = .non ∧ Q (.bl (decide (x = .non))) H) := by
  intro pins s σ H x y v u Q I rx ry h
  obtain ⟨rfl, q⟩ := h
  cases ry
  refine is_none_gen (fin_bl I q ?_)
  cases x <;> first
    | (cases rx; rfl)
    | (obtain ⟨t, rfl⟩ := rx; rfl)
/-- two rules for one operation: by cases -/
theorem OpR.or {f : Value → Value → Sem Value} {r r' : R2} (h : OpR X f r) (h' : OpR X f r') : OpR X f (fun x y H Q => r x y H Q ∨ r' x y H Q) := by
  intro pins s σ H x y v u Q I rx ry q
  rcases q with q | q
  · exact h pins s σ H x y v u Q I rx ry q
  · exact h' pins s σ H x y v u Q I rx ry q

theorem nomark (b : Expr) {op : CmpOp} (h : op ≠ .In := by decide) (h2 : op ≠ .NotIn := by decide) : behindInMarks op b = false := by
  have e1 : (op == CmpOp.In) = false := by cases op <;> first | rfl | exact absurd rfl h
  have e2 : (op == CmpOp.NotIn) = false := by cases op <;> first | rfl | exact absurd rfl h2
  cases b <;> simp [behindInMarks, e1, e2]
/-- a comparison as a value; hm: nomark b, or (for in, not in) by with_unfolding_all rfl -/
theorem pe_cmpR {op : CmpOp} {r : R2} (ho : OpR X (compareOp op) r) (ha : PE X a ta) (hb : PE X b tb) (hm : behindInMarks op b = false) : PE X (.Compare a [op] [b] pos) (tOp r ta tb) := by
  intro pins s σ H Q I h
  exact wpAny_Compare1 (binT ha hb I h fun v u s2 x y H2 I2 rx ry q => ho pins s2 σ H2 x y v u Q I2 rx ry q) hm
/-- a reading of a value as a test -/
def tTest (t : TE) : TT := fun σ H Q => t σ H fun x H' => ∃ k, x = .bl k ∧ Q k H'
theorem pt_cmpR {op : CmpOp} {r : R2} (ho : OpR X (compareOp op) r) (ha : PE X a ta) (hb : PE X b tb) (hm : behindInMarks op b = false) : PT X (.Compare a [op] [b] pos) (tTest (tOp r ta tb)) := by
  intro pins s σ H Q I h
  refine wpAny_isTrue_Compare1 (thn (ha pins s σ H _ I h) fun v s1 ⟨x, H1, I1, r1, q1⟩ => thn (hb pins s1 σ H1 _ I1 q1) fun u s2 ⟨y, H2, I2, r2, q2⟩ =>
    thn (ho pins s2 σ H2 x y v u _ I2 r1 r2 q2) fun c s3 ⟨z, H3, I3, r3, k, e, q3⟩ => ?_) hm
  subst e
  cases r3
  exact wpAny_truthy_bool ⟨H3, I3, q3⟩
/-! ### truth -/
theorem line63 : (sizeLine : Nat) < 2 ^ 63 := by rw [sizeLine_eq]; decide
/-! ### strs and bytes -/
/-! ### scalar builtins, by CallR -/
theorem vals1 {x : V} {us : List Value} (r : Vals [x] us) : ∃ u, us = [u] ∧ RelV x u := by
  cases r with
  | cons r1 r2 => cases r2; exact ⟨_, rfl, r1⟩
theorem vals2 {x y : V} {us : List Value} (r : Vals [x, y] us) : ∃ u w', us = [u, w'] ∧ RelV x u ∧ RelV y w' := by
  cases r with
  | cons r1 r2 =>
    cases r2 with
    | cons r3 r4 => cases r4; exact ⟨_, _, rfl, r1, r3⟩
theorem call_abs : CallR X (.builtin "abs") (fun xs H Q => ∃ i, xs = [.int i] ∧ Q (.int (if i < 0 then -i else i)) H) := by
  intro pins s σ H xs us Q I r h
  obtain ⟨i, rfl, q⟩ := h
  obtain ⟨u, rfl, t, rfl⟩ := vals1 r
  exact call_abs_int fun u tk => ⟨.int (if i < 0 then -i else i), H, I.tok _, ⟨_, rfl⟩, q⟩
theorem call_max2 (hc : X.calm = true) : CallR X (.builtin "max") (fun xs H Q => ∃ i j, xs = [.int i, .int j] ∧ Q (.int (if j > i then j else i)) H) := by
  intro pins s σ H xs us Q I r h
  obtain ⟨i, j, rfl, q⟩ := h
  obtain ⟨u, w', rfl, ⟨t, rfl⟩, ⟨t', rfl⟩⟩ := vals2 r
  refine max_two_ints (I.ok.hd hc) fun h' tk k => ⟨_, H, I.kept k, ?_, q⟩
  by_cases hj : j > i
  · rw [if_pos hj, if_pos hj]; exact ⟨_, rfl⟩
  · rw [if_neg hj, if_neg hj]; exact ⟨_, rfl⟩
theorem call_min2 (hc : X.calm = true) : CallR X (.builtin "min") (fun xs H Q => ∃ i j, xs = [.int i, .int j] ∧ Q (.int (if j < i then j else i)) H) := by
  intro pins s σ H xs us Q I r h
  obtain ⟨i, j, rfl, q⟩ := h
  obtain ⟨u, w', rfl, ⟨t, rfl⟩, ⟨t', rfl⟩⟩ := vals2 r
  refine min_two_ints (I.ok.hd hc) fun h' tk k => ⟨_, H, I.kept k, ?_, q⟩
  by_cases hj : j < i
  · rw [if_pos hj, if_pos hj]; exact ⟨_, rfl⟩
  · rw [if_neg hj, if_neg hj]; exact ⟨_, rfl⟩
end
end L2

namespace L2
open PySem PySem.Spec PyProof.Rows

/-! ### an instance, its attributes a map -/
structure ObjM (h : Heap) (x dx C : Addr) (mA : Str → Option Value) : Prop where
  obj : h.get? x = some (PySem.W.instObj C dx)
  ns : h.Ns1 dx mA
  ne : dx ≠ x

theorem lookIn_ns {h : Heap} {dx : Addr} {mA : Str → Option Value} (n : h.Ns1 dx mA) : ∃ od, h.get? dx = some od ∧ ∀ name, PySem.W.lookIn name od = some (mA name) := by
  obtain ⟨o, es, ep, ho, hd, hk, _, hm⟩ := n
  refine ⟨o, ho, fun name => ?_⟩
  have e := hm name
  unfold nsFind findBy at e
  rw [← Array.find?_toList] at e
  unfold PySem.W.lookIn
  rw [hd]
  dsimp only
  split
  · rename_i y q
    rw [q] at e
    exact congrArg some e
  · rename_i q
    rw [q] at e
    have a : es.toList.any (·.refKey) = false := by
      rw [List.any_eq_false]
      intro y hy
      obtain ⟨z, t, hkey⟩ := hk y (Array.mem_toList_iff.mp hy)
      simp [DictEntry.refKey, hkey]
    have a' : ¬ es.toList.any (·.refKey) = true := by rw [a]; exact Bool.false_ne_true
    rw [if_neg a']
    exact congrArg some e

theorem ObjM.look {h : Heap} {x dx C : Addr} {mA : Str → Option Value} (I : ObjM h x dx C mA) : ∃ od, PySem.W.InstAt h x (PySem.W.instObj C dx) C (some od) ∧ ∀ name, PySem.W.lookIn name od = some (mA name) :=
  let ⟨od, ho, hl⟩ := lookIn_ns I.ns
  ⟨od, ⟨I.obj, rfl, rfl, ho⟩, hl⟩

section
variable {prog : Program} {w : World} {A : Around} {E : Value → Shared → Prop} {s : Shared} {K : PySem.W.Frag} {x dx C f : Addr} {mA : Str → Option Value} {name : Str} {v : Value}

end

/-! ### the attributes as a list of pairs -/
section
variable {P : Program} {w : World} {H H' : Hp} {h h' : Heap} {a C dx : Addr} {fs fs' : List (Str × V)}
end

/-! ### what of the text a class must have -/
structure Cls (K : PySem.W.Frag) (C : Addr) : Prop where
  pg : PySem.W.plainGet K C Str.empty = true
  hd : PySem.W.hasDictIn K C = true
  po : PySem.W.plainOver K C = true
  sa : PySem.W.findIn K (.ref C) "__setattr__" = some (some (.builtin "object.__setattr__"))
theorem Cls.get {K : PySem.W.Frag} {C : Addr} (c : Cls K C) (f : Str) : PySem.W.plainGet K C f = true := c.pg
/-- a constant of the class -/
structure Con (K : PySem.W.Frag) (C : Addr) (f : Str) (v : V) (u : Value) : Prop where
  at_ : PySem.W.findIn K (.ref C) f = some (some u)
  rel : RelV v u
  get : PySem.W.specialIn K u "__get__" = some none
  cp : PySem.W.copiedNames.contains f = false
/-- a method: a plain def of the class or of one above it -/
structure Meth (K : PySem.W.Frag) (C : Addr) (m : Str) (f : Addr) : Prop where
  at_ : PySem.W.findIn K (.ref C) m = some (some (.ref f))
  fn : PySem.W.isFn K (.ref f) = true
  kp : PySem.W.keepIn K (.ref f) = true

section
variable {X : Cx} {pins : List (Addr × Obj)} {σ : St} {H : Hp} {s : Shared} {a C dx : Addr} {fs : List (Str × V)} {f : Str} {v : V} {A : Around} {E : Value → Shared → Prop}

/-- a new instance, tracked, without attributes -/
theorem Inv.made (I : Inv X pins σ H s) : Inv X pins σ (upd (upd H s.heap.objs.size (.own (s.heap.objs.size + 1))) (s.heap.objs.size + 1) (.ins C s.heap.objs.size []))
    { s with heap := (s.heap.push PySem.W.emptyDict).push (PySem.W.instObj C s.heap.objs.size) } := by
  have e1 : (s.heap.push PySem.W.emptyDict).get? s.heap.objs.size = some PySem.W.emptyDict := Heap.get?_push_size s.heap rfl
  have e2 : ((s.heap.push PySem.W.emptyDict).push (PySem.W.instObj C s.heap.objs.size)).get? (s.heap.objs.size + 1) = some (PySem.W.instObj C s.heap.objs.size) := by
    have := Heap.get?_push_size (s.heap.push PySem.W.emptyDict) (o := PySem.W.instObj C s.heap.objs.size) rfl
    rwa [Heap.size_push] at this
  have e3 : (s.heap.push PySem.W.emptyDict).Ns s.heap.objs.size (fun _ => none) := ⟨PySem.W.emptyDict, #[], _, e1, rfl, (fun e he => absurd he (by simp)), fun _ => rfl⟩
  have I1 := I.laid (a := s.heap.objs.size) (o := .own (s.heap.objs.size + 1)) (h' := s.heap.push PySem.W.emptyDict) (t' := s.toks) (fun b u q => Heap.get?_push_of_some _ q) (Nat.le_refl _) ⟨_, e1⟩
  refine I1.laid (a := s.heap.objs.size + 1) (o := .ins C s.heap.objs.size []) (t' := s.toks) (fun b u q => Heap.get?_push_of_some _ q) (Nat.le_of_eq (Heap.size_push _ _)) ?_
  have ne : s.heap.objs.size ≠ s.heap.objs.size + 1 := Nat.ne_of_lt (Nat.lt_succ_self _)
  refine ⟨by rw [upd_ne ne, upd_same], Nat.zero_le _, ne, e2, fun _ => none, (Heap.Ns1.of_empty e3).at fun o q => Heap.get?_push_of_some _ q, fun _ => True.intro, fun y hy => absurd rfl hy⟩

end

/-! ### readings and rules -/
section
variable {X : Cx} {o e value : Expr} {f : Str} {pos pos' tpos : Pos} {ta tv : TE}
end

/-! ### isinstance -/
section
variable {X : Cx} {pins : List (Addr × Obj)} {σ : St} {H : Hp} {s : Shared} {A : Around} {E : Value → Shared → Prop} {Q : Value → Shared → Prop} {c : Value} {b : Bool}
/-- the type of a value, as the fragment's deciders take it; for an instance its class -/
inductive TyOf (K : PySem.W.Frag) (H : Hp) : V → Value → Prop where
  | non : TyOf K H .non (.type "NoneType")
  | bl (x : Bool) : TyOf K H (.bl x) (.type "bool")
  | int (i : Int) : TyOf K H (.int i) (.type "int")
  | str (x : Str) : TyOf K H (.str x) (.type "str")
  | flt (x : UInt64) : TyOf K H (.flt x) (.type "float")
  | lst {a : Addr} {xs : List V} (e : H a = some (.lst xs)) : TyOf K H (.ref a) (.type "list")
  | frz {a : Addr} {o : Obj} {xs : List V} (e : H a = some (.frz o (.lst xs))) : TyOf K H (.ref a) (.type "list")
  | tup {a : Addr} {xs : List V} (e : H a = some (.tup xs)) : TyOf K H (.ref a) (.type "tuple")
  | dK {a : Addr} {kvs : List (Key × V)} (e : H a = some (.dK kvs)) : TyOf K H (.ref a) (.type "dict")
  | dT {a : Addr} {kvs : List (List Key × V)} (e : H a = some (.dT kvs)) : TyOf K H (.ref a) (.type "dict")
  | ins {a C dx : Addr} {fs : List (Str × V)} (e : H a = some (.ins C dx fs)) (cl : Cls K C) (ha : PySem.W.findIn K (.ref C) "__class__" = some (some (.builtin "object.__class__")))
      (hn : PySem.W.specialIn K (.builtin "object.__class__") "__get__" = some (some (.builtin "getset_descriptor.__get__"))) (htk : PySem.W.takesIn K (.builtin "object.__class__") = some true)
      (hm : PySem.W.mroIn K C (.type "object") = some true) : TyOf K H (.ref a) (.ref C)
end
end L2

namespace L2
open PySem PySem.Spec PyProof.Rows

/-! ### room -/
structure Room (k : Nat) (A : Around) : Prop where
  hd : A.handled = none
  dp : A.depth + 3 * k + 5 < recursionLimit
  un : A.units + 16 * k + 200 < cLine
theorem Room.mono {j k : Nat} {A : Around} (r : Room k A) (h : j ≤ k) : Room j A := ⟨r.hd, by have := r.dp; omega, by have := r.un; omega⟩
theorem Room.deeper {k : Nat} {A : Around} (r : Room (k + 1) A) (env : Env) : Room k (A.deeper env) :=
  ⟨r.hd, by have := r.dp; show A.depth + 1 + 3 * k + 5 < _; omega, by have := r.un; show A.units + 3 + 16 * k + 200 < _; omega⟩
theorem Room.in1 {k : Nat} {A : Around} (r : Room (k + 1) A) : Room k A.in1 :=
  ⟨r.hd, by have := r.dp; show A.depth + 3 * k + 5 < _; omega, by have := r.un; show A.units + 1 + 16 * k + 200 < _; omega⟩
theorem Room.depth {k : Nat} {A : Around} (r : Room k A) : A.depth < recursionLimit := by have := r.dp; omega
theorem Room.units {k : Nat} {A : Around} (r : Room k A) : A.units + 64 < cLine := by have := r.un; omega
/-! ### argument lists and displays -/
def tNil : TA := fun _ H Q => Q [] H
def tCons (ta : TE) (tr : TA) : TA := fun σ H Q => ta σ H fun x H1 => tr σ H1 fun xs H2 => Q (x :: xs) H2
section
variable {X : Cx} {e : Expr} {es : List Expr} {te : TE} {t : TA} {pos : Pos}
theorem pa_nil : PA X [] tNil := fun _ _ _ _ H Q I h => Calls.spliced_nil ⟨[], H, I, .nil, h⟩
theorem pa_cons (ha : PE X e te) (hr : PA X es t) (hs : starEach (e :: es) X.env = (false, eval e X.env) :: starEach es X.env := by rfl) : PA X (e :: es) (tCons te t) := by
  intro pos pins s σ H Q I h
  rw [hs]
  show wpAny _ _ (spliced ((false, eval e X.env) :: backTo pos (starEach es X.env))) _ _ s
  refine Calls.spliced_cons (thn (ha pins s σ H _ I h) fun u s1 ⟨x, H1, I1, r1, q1⟩ => ?_)
  exact thn (hr pos pins s1 σ H1 _ I1 q1) fun us s2 ⟨xs, H2, I2, r2, q2⟩ => ⟨x :: xs, H2, I2, .cons r1 r2, q2⟩

/-- a tuple, a list of written items -/
def tTup (t : TA) : TE := fun σ H Q => t σ H fun xs H1 => xs.length ≤ sizeLine ∧ ∀ p, H1 p = none → Q (.ref p) (upd H1 p (.tup xs))
def tLst (t : TA) : TE := fun σ H Q => t σ H fun xs H1 => xs.length ≤ sizeLine ∧ ∀ p, H1 p = none → Q (.ref p) (upd H1 p (.lst xs))
theorem pe_tup {x1} (h : PA X es t) : PE X (.Tuple es x1 pos) (tTup t) := by
  intro pins s σ H Q I hq
  refine wpAny_Tuple_spliced (thn (h pos pins s σ H _ I hq) fun us s1 ⟨xs, H1, I1, r, z, q⟩ => ⟨by rw [← r.length]; exact z, ?_⟩)
  have hf : H1 s1.heap.objs.size = none := I1.hok.fresh (Nat.le_refl _)
  refine ⟨.ref s1.heap.objs.size, upd H1 s1.heap.objs.size (.tup xs), I1.laid (t' := s1.toks) (fun b u e => Heap.get?_push_of_some _ e) (Nat.le_refl _) ?_, rfl, q _ hf⟩
  exact ⟨z, us, r, ⟨_, Heap.get?_push_size _ rfl, rfl, _, rfl⟩⟩
theorem pe_lst (h : PA X es t) : PE X (.List es pos) (tLst t) := by
  intro pins s σ H Q I hq
  refine wpAny_List_spliced (thn (h pos pins s σ H _ I hq) fun us s1 ⟨xs, H1, I1, r, z, q⟩ => ⟨by rw [← r.length]; exact z, ?_⟩)
  have hf : H1 s1.heap.objs.size = none := I1.hok.fresh (Nat.le_refl _)
  refine ⟨.ref s1.heap.objs.size, upd H1 s1.heap.objs.size (.lst xs), I1.laid (t' := s1.toks) (fun b u e => Heap.get?_push_of_some _ e) (Nat.le_refl _) ?_, rfl, q _ hf⟩
  exact ⟨z, us, 0, r, Heap.get?_push_size _ rfl⟩
end

/-! ### what a def promises -/
/-- a def's promise: the bound arguments in the parameters' order, the heap, the wanted end, the wanted exception -/
abbrev Sp := List V → Hp → VK → XK → Prop
/-- how an exception lies behind a call (file 08 gives it): the callers' frames, abstract heap and state ahead of the call, the wish, the exception, the state -/
abbrev CXT := List Env → Hp → Shared → XK → Value → Shared → Prop

/-- the state at a call -/
structure Env0 (P : Program) (w : World) (K : PySem.W.Frag) (mg : Str → Option Value) (base : Heap) (A : Around) (outer : List Env) (s : Shared) (H : Hp) : Prop where
  frames : A.frames = some outer
  mod : Mod K mg base
  bs : ∀ b o, base.get? b = some o → s.heap.get? b = some o ∧ H b = none
  bsz : base.objs.size ≤ s.heap.objs.size
  funs : s.heap.FunFrames base outer
  frf : ∀ b ∈ frs outer, H b = none
  hok : HOk P w H s.heap
  bare : AllBare s.gens
/-- a call's end -/
def CE (outer : List Env) (P : Program) (w : World) (H : Hp) (s : Shared) (Q : VK) (u : Value) (s' : Shared) : Prop :=
  ∃ v H', s'.os = s.os ∧ AllBare s'.gens ∧ Un (frs outer) [] H H' s.heap s'.heap ∧ HOk P w H' s'.heap ∧ RelV v u ∧ Q v H'
def CR (CX : CXT) (outer : List Env) (P : Program) (w : World) (H : Hp) (s : Shared) (Q : VK) (E : XK) (r : Result) (s' : Shared) : Prop :=
  match r with
  | .ok (.ret u) => CE outer P w H s Q u s'
  | .ok _ => False
  | .error e => CX outer H s E e s'
structure FnOk (P : Program) (w : World) (K : PySem.W.Frag) (mg : Str → Option Value) (base : Heap) (CX : CXT) (k : Nat) (f : Addr) (fd : FuncData) (ps : List Str) (sp : Sp) : Prop where
  len : ∀ vs H Q E, sp vs H Q E → vs.length = ps.length
  run : ∀ (A : Around) (outer : List Env) (s : Shared) (H : Hp) (args : Args) (us : List Value) (vs : List V) (Q : VK) (E : XK), Room k A → Env0 P w K mg base A outer s H → BindsTo s fd args (ps.zip us) → Vals vs us → sp vs H Q E →
    codeAny (model P w) A (.call (.ref f) args) (CR CX outer P w H s Q E) s
theorem FnOk.mono {P : Program} {w : World} {K : PySem.W.Frag} {mg : Str → Option Value} {base : Heap} {CX : CXT} {j k : Nat} {f : Addr} {fd : FuncData} {ps : List Str} {sp : Sp} (F : FnOk P w K mg base CX j f fd ps sp) (h : j ≤ k) :
    FnOk P w K mg base CX k f fd ps sp := ⟨F.len, fun A outer s H args us vs Q E hr => F.run A outer s H args us vs Q E (hr.mono h)⟩
/-- a weaker promise -/
theorem FnOk.imp {P : Program} {w : World} {K : PySem.W.Frag} {mg : Str → Option Value} {base : Heap} {CX : CXT} {k : Nat} {f : Addr} {fd : FuncData} {ps : List Str} {sp sp' : Sp} (F : FnOk P w K mg base CX k f fd ps sp)
    (h : ∀ vs H Q E, sp' vs H Q E → sp vs H Q E) : FnOk P w K mg base CX k f fd ps sp' :=
  ⟨fun vs H Q E q => F.len vs H Q E (h _ _ _ _ q), fun A outer s H args us vs Q E hr he hb hv hs => F.run A outer s H args us vs Q E hr he hb hv (h _ _ _ _ hs)⟩

theorem Env0.in1 {P : Program} {w : World} {K : PySem.W.Frag} {mg : Str → Option Value} {base : Heap} {A : Around} {outer : List Env} {s : Shared} {H : Hp} (e : Env0 P w K mg base A outer s H) :
    Env0 P w K mg base A.in1 outer s H := ⟨e.frames, e.mod, e.bs, e.bsz, e.funs, e.frf, e.hok, e.bare⟩

section
variable {X : Cx} {pins : List (Addr × Obj)} {σ : St} {H : Hp} {s s' : Shared}
/-- from a body: what a callee wants -/
theorem Inv.env0 (I : Inv X pins σ H s) : Env0 X.prog X.w X.K X.mg X.base X.A X.stack s H :=
  ⟨I.ok.frames, I.ok.mod, I.bs, Nat.le_trans I.ok.bsz I.sz, I.stack, I.stkFree, I.hok, I.bare⟩
/-- behind a call -/
theorem Inv.after {Q : VK} {u : Value} (I : Inv X pins σ H s) (h : CE X.stack X.prog X.w H s Q u s') : EP X pins σ Q u s' := by
  obtain ⟨v, H', os, bare, un, hok, r, q⟩ := h
  obtain ⟨hh, g, d, t, os'⟩ := s'
  obtain rfl : os' = s.os := os
  exact ⟨v, H', I.call (h' := hh) (g' := g) (d' := d) (t' := t) (ch := []) un hok bare (fun b z => absurd z (by simp)), r, q⟩
end

/-! ### calls -/
/-- f(..): the written arguments, then the defaults dvs; E: what is wanted of an exception -/
def tCall (sp : Sp) (dvs : List V) (E : XK) (t : TA) : TE := fun σ H Q => t σ H fun vs H1 => sp (vs ++ dvs) H1 Q E
/-- how the parameters are bound: us the positional arguments, kw the keywords' values by name, ds the defaults that fill up -/
def Binds (K : PySem.W.Frag) (fd : FuncData) (ps : List Str) (ds : List Value) : Prop :=
  ∀ (s : Shared) (us : List Value), K.In s.heap → (us ++ ds).length = ps.length → BindsTo s fd ⟨us, []⟩ (ps.zip (us ++ ds))
/-- every parameter is given -/
theorem Binds.all {K : PySem.W.Frag} {fd : FuncData} {ps : List Str} (h : ∀ us : List Value, us.length = ps.length → bindArgs fd ⟨us, []⟩ = pure (ps.zip us)) : Binds K fd ps [] := fun s us _ hl => by
  rw [List.append_nil] at hl ⊢
  exact .of_eq (h us hl)

/-- an exception of a callee reaches what this body wants of exceptions -/
def Passes (CX : CXT) (X : Cx) (E : XK) : Prop := ∀ (pins : List (Addr × Obj)) (σ : St) (H : Hp) (s : Shared) (e : Value) (s' : Shared), Inv X pins σ H s → CX X.stack H s E e s' → X.xe e s'

section
variable {X : Cx} {CX : CXT} {k : Nat} {f C : Addr} {fd : FuncData} {ps : List Str} {sp : Sp} {dvs : List V} {ds : List Value} {E : XK} {x m : Str} {p pos apos : Pos} {e o : Expr} {es : List Expr} {ta : TE} {t : TA}

/-- the callee runs -/
theorem run_fn {pins : List (Addr × Obj)} {σ : St} {H : Hp} {s : Shared} {Q : VK} {us : List Value} {vs : List V} (F : FnOk X.prog X.w X.K X.mg X.base CX k f fd ps sp) (hr : Room k X.A) (hb : Binds X.K fd ps ds) (hd : Vals dvs ds) (hx : Passes CX X E)
    (I : Inv X pins σ H s) (r : Vals vs us) (h : sp (vs ++ dvs) H Q E) : wpAny (model X.prog X.w) X.A (call (.ref f) us) (EP X pins σ Q) X.xe s := by
  have r2 : Vals (vs ++ dvs) (us ++ ds) := r.append hd
  have hl : (us ++ ds).length = ps.length := by rw [← r2.length]; exact F.len _ _ _ _ h
  refine wpAny_call (codeAny_mono (F.run X.A X.stack s H ⟨us, []⟩ (us ++ ds) (vs ++ dvs) Q E hr I.env0 (hb s us I.kIn hl) r2 h) fun r s' hq => ?_)
  cases r with
  | error e => exact hx pins σ H s e s' I hq
  | ok fl =>
    cases fl with
    | ret u => exact I.after hq
    | next => exact False.elim hq
    | brk => exact False.elim hq
    | cont => exact False.elim hq

theorem pe_call (F : FnOk X.prog X.w X.K X.mg X.base CX k f fd ps sp) (hr : Room k X.A) (hg : Gl X x) (hm : X.mg x = some (.ref f)) (hk : PySem.W.keepIn X.K (.ref f) = true) (hb : Binds X.K fd ps ds) (hd : Vals dvs ds) (hx : Passes CX X E)
    (ha : PA X (e :: es) t) (hdb : (x == ("__debug__" : Str)) = false := by decide) (he : starEach (e :: es) X.env = (false, eval e X.env) :: starEach es X.env := by rfl) (hpl : (backTo pos (starEach es X.env)).any (·.1) = false := by rfl) :
    PE X (.Call (.Name x p) (e :: es) [] pos) (tCall sp dvs E t) := by
  intro pins s σ H Q I h
  refine wpAny_Call_Name_kw (ld_glob I hg hm ?_ hdb)
  refine PySem.W.callWith_K (h₀ := X.base) I.ok.mod.kin hk (thn (ha pos pins s σ H _ I h) fun us s1 ⟨vs, H1, I1, r, q⟩ => ⟨I1.kIn, ?_⟩) he hpl
  exact run_fn F hr hb hd hx I1 r q
/-- what a class must have to be made -/
structure Mk (K : PySem.W.Frag) (C f : Addr) : Prop where
  makes : PySem.W.makesIn K C = true
  init : PySem.W.findIn K (.ref C) "__init__" = some (some (.ref f))
  fn : PySem.W.isFn K (.ref f) = true
  kp : PySem.W.keepIn K (.ref C) = true

end

/-! ### keywords -/
section
variable {X : Cx} {CX : CXT} {k : Nat} {f C : Addr} {fd : FuncData} {ps ks : List Str} {sp : Sp} {E : XK} {x m : Str} {p pos apos kpos : Pos} {e o : Expr} {es : List Expr} {kws : List Keyword} {te ta : TE} {t tk : TA} {nm : Option Str}
/-- how a call with keywords binds: g puts the positional values us and the keywords' values ws (names ks) in the parameters' order, defaults among them -/
structure KBinds (K : PySem.W.Frag) (fd : FuncData) (ps ks : List Str) (g : List Value → List Value → List Value) (gV : List V → List V → List V) : Prop where
  to : ∀ (s : Shared) (us ws : List Value), K.In s.heap → (g us ws).length = ps.length → BindsTo s fd ⟨us, ks.zip ws⟩ (ps.zip (g us ws))
  rel : ∀ {vs : List V} {us : List Value} {zs : List V} {ws : List Value}, Vals vs us → Vals zs ws → Vals (gV vs zs) (g us ws)
variable {g : List Value → List Value → List Value} {gV : List V → List V → List V}
end

/-! ### a def's body keeps its promise -/
/-- names: the parameters first -/
structure FnScope (N P : List Str) (sc : Scope) : Prop where
  kind : sc.kind = .function
  co : sc.isCoroutine = false
  gen : sc.isGenerator = false
  nd : N.Nodup
  pre : N.take P.length = P
  par : ∀ x ∈ P, sc.names.lookup x = some .local ∨ sc.names.lookup x = some .cell
  nofree : ∀ y ∈ sc.names, y.2 ≠ .free

theorem bindL_out {kindOf : Str → Option NameKind} {x : Str} : ∀ {binds : List (Str × Value)} {m : Str → Option Value}, (∀ v, (x, v) ∉ binds) → bindL kindOf binds m x = m x
  | [], _, _ => rfl
  | (n, v) :: r, m, h => by
    unfold bindL
    rw [bindL_out fun w hw => h w (List.mem_cons_of_mem _ hw)]
    split
    · have : x ≠ n := by rintro rfl; exact h v List.mem_cons_self
      simp [this]
    · rfl
theorem bindC_out {kindOf : Str → Option NameKind} {x : Str} : ∀ {binds : List (Str × Value)} {m : Str → Option Value}, (∀ v, (x, v) ∉ binds) → bindC kindOf binds m x = m x
  | [], _, _ => rfl
  | (n, v) :: r, m, h => by
    unfold bindC
    rw [bindC_out fun w hw => h w (List.mem_cons_of_mem _ hw)]
    split
    · rfl
    · have : x ≠ n := by rintro rfl; exact h v List.mem_cons_self
      simp [this]
theorem bindL_get {kindOf : Str → Option NameKind} {x : Str} {v : Value} : ∀ {P : List Str} {vs : List Value} {i : Nat} {m : Str → Option Value}, P.Nodup → P[i]? = some x → vs[i]? = some v → kindOf x = some .local →
    bindL kindOf (P.zip vs) m x = some v
  | [], _, _, _, _, h, _, _ => by simp at h
  | _ :: _, [], _, _, _, _, h, _ => by simp at h
  | p :: P, w :: vs, 0, m, nd, h1, h2, hk => by
    simp at h1 h2; subst h1; subst h2
    show bindL kindOf ((p, w) :: P.zip vs) m p = _
    unfold bindL
    rw [bindL_out fun v hv => (List.nodup_cons.mp nd).1 (List.of_mem_zip hv).1, if_pos hk]
    simp
  | p :: P, w :: vs, i + 1, m, nd, h1, h2, hk => by
    show bindL kindOf ((p, w) :: P.zip vs) m x = _
    unfold bindL
    exact bindL_get (i := i) (List.nodup_cons.mp nd).2 (by simpa using h1) (by simpa using h2) hk
theorem bindC_get {kindOf : Str → Option NameKind} {x : Str} {v : Value} : ∀ {P : List Str} {vs : List Value} {i : Nat} {m : Str → Option Value}, P.Nodup → P[i]? = some x → vs[i]? = some v → kindOf x ≠ some .local →
    bindC kindOf (P.zip vs) m x = some v
  | [], _, _, _, _, h, _, _ => by simp at h
  | _ :: _, [], _, _, _, _, h, _ => by simp at h
  | p :: P, w :: vs, 0, m, nd, h1, h2, hk => by
    simp at h1 h2; subst h1; subst h2
    show bindC kindOf ((p, w) :: P.zip vs) m p = _
    unfold bindC
    rw [bindC_out fun v hv => (List.nodup_cons.mp nd).1 (List.of_mem_zip hv).1, if_neg hk]
    simp
  | p :: P, w :: vs, i + 1, m, nd, h1, h2, hk => by
    show bindC kindOf ((p, w) :: P.zip vs) m x = _
    unfold bindC
    exact bindC_get (i := i) (List.nodup_cons.mp nd).2 (by simpa using h1) (by simpa using h2) hk

/-- the names' values at the entry -/
def start (N : List Str) (vs : List V) : St := vs.map some ++ List.replicate (N.length - vs.length) none

/-- the context of a def's body, at its entry; an exception leaves the frame, then lies as CX says -/
def cxOf (CX : CXT) (P : Program) (w : World) (K : PySem.W.Frag) (mg : Str → Option Value) (base : Heap) (N : List Str) (qual : Str) (scope : Scope) (f : Addr) (cd : Value) (A : Around) (outer : List Env) (s : Shared) (H : Hp) (E : XK) : Cx where
  prog := P
  w := w
  K := K
  mg := mg
  base := base
  A := A.deeper (envOfC qual scope s.heap.objs.size f cd)
  N := N
  s₀ := s
  H₀ := H
  env := envOfC qual scope s.heap.objs.size f cd
  outer := outer
  stack := envOfC qual scope s.heap.objs.size f cd :: outer
  ex := []
  calm := true
  fn := fun _ => true
  pn := []
  xe := fun e s' => wpAny (model P w) (A.deeper (envOfC qual scope s.heap.objs.size f cd)) (leaving (envOfC qual scope s.heap.objs.size f cd) e) (fun _ s'' => CX outer H s E e s'') (fun e' s'' => CX outer H s E e' s'') s'

theorem cell_has {sc : Scope} {n : Nat} {x : Str} (h : sc.names.lookup x = some .cell) : ∃ c, (cellsFrom n sc.names []).lookup x = some c := by
  have q := PySem.W.cellsFrom_some sc.names n [] (.inl h)
  exact Option.isSome_iff_exists.mp q

theorem inv_start {CX : CXT} {P : Program} {w : World} {K : PySem.W.Frag} {mg : Str → Option Value} {base : Heap} {N ps : List Str} {qual : Str} {scope : Scope} {f : Addr} {cd : Value} {A : Around} {outer : List Env} {s s1 : Shared} {H : Hp} {E : XK} {us : List Value} {vs : List V}
    (S : FnScope N ps scope) (hd : A.handled = none) (e0 : Env0 P w K mg base A outer s H) (hl : vs.length = ps.length) (r : Vals vs us)
    (x : InCallC s s.heap.objs.size (bindL (envOfC qual scope s.heap.objs.size f cd).kindOf (ps.zip us) fun _ => none) (cellsFrom (s.heap.objs.size + 1) scope.names []) (bindC (envOfC qual scope s.heap.objs.size f cd).kindOf (ps.zip us) fun _ => none) s1) :
    Inv (cxOf CX P w K mg base N qual scope f cd A outer s H E) [] (start N vs) H s1 := by
  have hpl : ps.length ≤ N.length := by have := congrArg List.length S.pre; rw [List.length_take] at this; omega
  obtain ⟨h1, tk, rfl, hk⟩ := x.done
  have noA : ∀ b : Addr, b ∉ (cxOf CX P w K mg base N qual scope f cd A outer s H E).ex := fun b z => absurd (show b ∈ ([] : List Addr) from z) (by simp)
  refine ⟨⟨e0.mod, S.kind, rfl, rfl, Nat.le_refl _, fun y z c h1 h2 => ?_, fun y hy => ?_, fun y c _ h => ?_, fun _ => hd, Around.frames_deeper e0.frames, .inr ⟨rfl, rfl⟩, fun b z => absurd z (noA b), e0.bs, e0.bsz, fun b _ _ => noA b, fun b z => absurd z (noA b), e0.funs, e0.frf⟩,
    rfl, e0.bare, Un.kept hk, ⟨_, x.toInCall.ns, fun i y v h1 h2 h3 => ?_⟩, fun y c h => ⟨_, x.cell y c h⟩, e0.hok.fresh (Nat.le_refl _), fun y c h => ?_, fun p hp => absurd (show p ∈ ([] : List (Addr × Obj)) from hp) (by simp), e0.hok.kept hk, ?_⟩
  · exact name_of_addr x.apart (PySem.mem_of_lookup h1) (PySem.mem_of_lookup h2)
  · have hy : scope.names.lookup y = some .cell ∨ scope.names.lookup y = some .free := hy
    rcases hy with hy | hy
    · exact cell_has hy
    · exact absurd rfl (S.nofree _ (PySem.mem_of_lookup hy))
  · exact Nat.le_of_lt (x.above y c (PySem.mem_of_lookup h))
  · have hi : i < vs.length := by
      unfold start at h2
      by_cases hi : i < vs.length
      · exact hi
      · rw [List.getElem?_append_right (by simpa using hi)] at h2
        rw [List.getElem?_replicate] at h2
        split at h2 <;> cases h2
    have ha : vs[i]? = some v := by
      unfold start at h2
      rw [List.getElem?_append_left (by simpa using hi), List.getElem?_map] at h2
      cases e : vs[i]? with
      | none => rw [e] at h2; cases h2
      | some a => rw [e] at h2; cases h2; rfl
    obtain ⟨u, hu, rv⟩ := r.get ha
    have hp : ps[i]? = some y := by
      rw [← S.pre, List.getElem?_take_of_lt (by omega)]; exact h1
    have ndP : ps.Nodup := by rw [← S.pre]; exact S.nd.sublist (List.take_sublist _ _)
    refine ⟨u, rv, ?_⟩
    rcases S.par y (List.mem_of_getElem? hp) with k | k
    · exact .inl ⟨k, bindL_get ndP hp hu k⟩
    · obtain ⟨c, e⟩ := cell_has (n := s.heap.objs.size + 1) k
      refine .inr ⟨.inl k, c, e, ?_⟩
      have q := x.cell y c e
      rw [bindC_get ndP hp hu (by show scope.names.lookup y ≠ _; rw [k]; decide)] at q
      exact q
  · exact e0.hok.fresh (Nat.le_of_lt (x.above y c (PySem.mem_of_lookup h)))
  · unfold start
    show _ = N.length
    rw [List.length_append, List.length_map, List.length_replicate]
    omega

/-- THE RULE: a def (or a method) of the text, by its body. The body's reading t is chosen for each entry; it is run at the parameters' values -/
theorem fn_of {CX : CXT} {P : Program} {w : World} {K : PySem.W.Frag} {mg : Str → Option Value} {base : Heap} {k : Nat} {f : Addr} {name qual : Str} {params : Arguments} {body : List Stmt} {scope : Scope} {dV kV doc pm cdv ct oc : Value} {an od : Option Addr}
    {osl : Array (Option Value)} {N ps : List Str} {sp : Sp} (lk : K.lookup f = some ⟨oc, od, .func (PySem.W.fnOf name qual params body scope dV kV doc pm an cdv ct), osl⟩) (hcd : PySem.W.codeIn K cdv qual = true) (S : FnScope N ps scope)
    (len : ∀ vs H Q E, sp vs H Q E → vs.length = ps.length)
    (hbody : ∀ (A : Around) (outer : List Env) (s : Shared) (H : Hp) (vs : List V) (Q : VK) (E : XK), Room k (A.deeper (envOfC qual scope s.heap.objs.size f cdv)) → sp vs H Q E →
      ∃ t, PSs (cxOf CX P w K mg base N qual scope f cdv A outer s H E) body t ∧ t { nx := fun _ H' => Q .non H', rt := Q } (start N vs) H) :
    FnOk P w K mg base CX (k + 1) f (PySem.W.fnOf name qual params body scope dV kV doc pm an cdv ct) ps sp := by
  refine ⟨len, fun A outer s H args us vs Q E hr e0 hb r hsp => ?_⟩
  have hl := len _ _ _ _ hsp
  have KX : K.In s.heap := e0.mod.kin.keeps fun b o e => (e0.bs b o e).1
  have lim : s.heap.NoLimit := e0.mod.nolimit.keeps fun b o e => (e0.bs b o e).1
  have hkind : ∀ y ∈ ps.zip us, scope.names.lookup y.1 = some .local ∨ (scope.names.lookup y.1 = some .cell ∧ ((cellsFrom (s.heap.objs.size + 1) scope.names []).lookup y.1).isSome = true) := fun ⟨n, v⟩ hy => by
    rcases S.par n (List.of_mem_zip hy).1 with q | q
    · exact .inl q
    · exact .inr ⟨q, PySem.W.cellsFrom_some _ _ _ (.inl q)⟩
  refine codeAny_call_function hr.depth (KX _ _ lk) rfl S.co S.gen rfl (PySem.W.codeRec_of KX hcd) (hb _ _ _ _ ?_)
  refine wpAny_newFunctionEnv_cells S.kind hkind fun env he s1 x => ?_
  subst he
  refine ⟨lim.keeps x.toInCall.keep, codeAny_func ?_⟩
  obtain ⟨t, ht, hq⟩ := hbody A outer s H vs Q E (hr.deeper _) hsp
  have I : Inv (cxOf CX P w K mg base N qual scope f cdv A outer s H E) [] (start N vs) H s1 := inv_start S hr.hd e0 hl r x
  refine wpAny_mono (ht [] s1 (start N vs) H _ I hq) (fun fl s' hs => ?_) fun e s' hs => hs
  have fin : ∀ {σ' : St} {H' : Hp} {v : V} {u : Value}, Inv (cxOf CX P w K mg base N qual scope f cdv A outer s H E) [] σ' H' s' → RelV v u → Q v H' → CE outer P w H s Q u s' :=
    fun {σ' H' v u} J rv q => ⟨v, H', J.os, J.bare, J.base, J.hok, rv, q⟩
  cases fl with
  | ret u =>
    obtain ⟨v, σ', H', J, rv, q⟩ := hs
    exact fin J rv q
  | next =>
    obtain ⟨σ', H', J, q⟩ := hs
    exact fin (v := V.non) (u := Value.none) J rfl q
  | brk =>
    obtain ⟨_, _, _, q⟩ := hs
    exact False.elim q
  | cont =>
    obtain ⟨_, _, _, q⟩ := hs
    exact False.elim q
end L2

namespace L2
open PySem PySem.Spec PyProof.Rows
section
variable {X : Cx} {x : Str} {p pos : Pos} {e : Expr} {es : List Expr} {t : TA} {id T : String} {r : List V → Hp → VK → Prop}

def tCB (r : List V → Hp → VK → Prop) (t : TA) : TE := fun σ H Q => t σ H fun vs H1 => r vs H1 Q
/-- f(e, ..), f a built-in function -/
theorem pe_callB (hc : CallR X (.builtin id) r) (hg : Gl X x) (hm : X.mg x = none) (hv : bootBuiltins x = some (.builtin id)) (ha : PA X (e :: es) t) (hn : x ≠ "__name__" := by decide) (hdb : (x == ("__debug__" : Str)) = false := by decide)
    (he : starEach (e :: es) X.env = (false, eval e X.env) :: starEach es X.env := by rfl) (hpl : (backTo pos (starEach es X.env)).any (·.1) = false := by rfl) : PE X (.Call (.Name x p) (e :: es) [] pos) (tCB r t) := by
  intro pins s σ H Q I h
  refine wpAny_Call_Name_kw (ld_blt I hg hm hv ?_ hn hdb)
  exact PyProof.Rows.callWith_builtin1 (thn (ha pos pins s σ H _ I h) fun us s1 ⟨vs, H1, I1, r1, q1⟩ => hc pins s1 σ H1 vs us Q I1 r1 q1) he hpl
end
end L2

namespace HT
open PySem PyProof.Rows

section
open PySem.SeqAt
open PySem.AutoSeq1 (wpAny_loadPart')
open PySem.MeetsSeq PySem.MeetsSeq2 PySem.MeetsSeq3

end

section
variable {prog : Program} {w : World} {A : Around} {E : Value → Shared → Prop} {s : Shared}

/-! ### t[a:b], not the whole -/
/-- a slice's bound as a place among n (d where it is left out) -/
def sIx (n d : Nat) : Option Int → Nat
  | none => d
  | some v => if v < 0 then (v + (n : Int)).toNat else min v.toNat n
theorem sIx_none (n d : Nat) : sIx n d none = d := rfl
theorem sIx_nat (n d k : Nat) : sIx n d (some (k : Int)) = min k n := by
  show (if (k : Int) < 0 then ((k : Int) + (n : Int)).toNat else min (k : Int).toNat n) = min k n
  rw [if_neg (by omega), Int.toNat_natCast]
end
end HT

namespace L2
open PySem PySem.Spec PyProof.Rows

/-! ### the parts of a slice -/
abbrev TO := St → Hp → (Option Int → Hp → Prop) → Prop
/-- a slice's part (left out, or an int) -/
def PO (X : Cx) (e : Option Expr) (t : TO) : Prop :=
  ∀ (pins : List (Addr × Obj)) (s : Shared) (σ : St) (H : Hp) (Q : Option Int → Hp → Prop), Inv X pins σ H s → t σ H Q →
    wpAny (model X.prog X.w) X.A (evalPart e X.env) (fun u s' => ∃ o H', Inv X pins σ H' s' ∧ IsPart u o ∧ Q o H') X.xe s
def tNoPart : TO := fun _ H Q => Q none H
def tPart (t : TE) : TO := fun σ H Q => t σ H fun x H1 => ∃ i, x = .int i ∧ Q (some i) H1

section
variable {X : Cx} {e : Expr} {te : TE} {lo hi : Option Expr} {tl th : TO} {pos p2 : Pos}

theorem po_none : PO X none tNoPart := by
  intro pins s σ H Q I h
  rw [evalPart_none]
  exact wpAny_pure ⟨none, H, I, .none, h⟩
theorem po_some (h : PE X e te) : PO X (some e) (tPart te) := by
  intro pins s σ H Q I hw
  rw [evalPart_some]
  refine thn (h pins s σ H _ I hw) fun u s1 ⟨x, H1, I1, r1, q1⟩ => ?_
  obtain ⟨i, rfl, q⟩ := q1
  obtain ⟨t, rfl⟩ := r1
  exact ⟨some i, H1, I1, .int i t, q⟩

/-- what a slice of a value is, by values: the slice object stands at sl -/
def SlR (X : Cx) (r : V → Option Int → Option Int → Hp → VK → Prop) : Prop :=
  ∀ (pins : List (Addr × Obj)) (s : Shared) (σ : St) (H : Hp) (x : V) (v vl vu : Value) (lo hi : Option Int) (sl : Addr) (Q : VK), Inv X pins σ H s → RelV x v → s.heap.IsSliceOf sl vl vu .none → IsPart vl lo → IsPart vu hi → r x lo hi H Q →
    ∃ T id, typeLookup (.type T) "__getitem__" = pure (some (.builtin id)) ∧ s.TypeIs v T ∧ wpAny (model X.prog X.w) X.A (getItem v (.ref sl)) (EP X pins σ Q) X.xe s
theorem SlR.or {r r' : V → Option Int → Option Int → Hp → VK → Prop} (h : SlR X r) (h' : SlR X r') : SlR X (fun x lo hi H Q => r x lo hi H Q ∨ r' x lo hi H Q) := by
  intro pins s σ H x v vl vu lo hi sl Q I rx hs pl pu q
  rcases q with q | q
  · exact h pins s σ H x v vl vu lo hi sl Q I rx hs pl pu q
  · exact h' pins s σ H x v vl vu lo hi sl Q I rx hs pl pu q
def tSl (r : V → Option Int → Option Int → Hp → VK → Prop) (te : TE) (tl th : TO) : TE := fun σ H Q => te σ H fun x H1 => tl σ H1 fun l H2 => th σ H2 fun u H3 => r x l u H3 Q
/-- a[lo:hi], any a -/
theorem pe_slice {r : V → Option Int → Option Int → Hp → VK → Prop} (hr : SlR X r) (he : PE X e te) (hl : PO X lo tl) (hu : PO X hi th) : PE X (.Subscript e (.Slice lo hi none p2) pos) (tSl r te tl th) := by
  intro pins s σ H Q I h
  refine Subscript_ (thn (he pins s σ H _ I h) fun v s1 ⟨x, H1, I1, r1, q1⟩ => ?_)
  refine wpAny_Slice (thn (hl pins s1 σ H1 _ I1 q1) fun vl s2 ⟨l, H2, I2, pl, q2⟩ => thn (hu pins s2 σ H2 _ I2 q2) fun vu s3 ⟨u, H3, I3, pu, q3⟩ => ?_)
  rw [evalPart_none]
  refine wpAny_pure ?_
  have I4 : Inv X pins σ H3 { s3 with heap := s3.heap.push { cls := .type "slice", data := .fields #[vl, vu, .none] } } := I3.kept (t' := s3.toks) fun b ob q => Heap.get?_push_of_some _ q
  obtain ⟨T, id, hT, ht, hg⟩ := hr pins { s3 with heap := s3.heap.push { cls := .type "slice", data := .fields #[vl, vu, .none] } } σ H3 x v vl vu l u s3.heap.objs.size Q I4 r1 (Heap.IsSliceOf.new ..) pl pu q3
  show wpAny (model X.prog X.w) X.A (subscriptTail e (.Slice lo hi none p2) v (.ref s3.heap.objs.size)) (EP X pins σ Q) X.xe { s3 with heap := s3.heap.push { cls := .type "slice", data := .fields #[vl, vu, .none] } }
  exact tail_any (ops := [.ref s3.heap.objs.size, v]) ht hT hg (by with_unfolding_all rfl)

/-- the items of xs[lo:hi] -/
def cutV (xs : List V) (lo hi : Option Int) : List V := (xs.drop (HT.sIx xs.length 0 lo)).take (HT.sIx xs.length xs.length hi - HT.sIx xs.length 0 lo)
theorem cutV_length (xs : List V) (lo hi : Option Int) : (cutV xs lo hi).length ≤ xs.length := by
  unfold cutV
  rw [List.length_take, List.length_drop]
  omega
/-! ### t < u, t + u -/
end
end L2

namespace L2
open PySem PySem.Spec PyProof.Rows

/-! ### places -/
/-- the place that an index of any sign means -/
def ixN (n : Nat) (i : Int) : Option Nat := if 0 ≤ i then (if i < n then some i.toNat else none) else if -(n : Int) ≤ i then some (i + n).toNat else none
def atI {α : Type} (xs : List α) (i : Int) : Option α := (ixN xs.length i).bind fun j => xs[j]?
theorem ixN_seq {n : Nat} {i : Int} {j : Nat} (h : ixN n i = some j) : seqIndex? i n = some j ∧ j < n ∧ -(n : Int) ≤ i ∧ i < n := by
  unfold ixN at h
  by_cases h0 : 0 ≤ i
  · rw [if_pos h0] at h
    by_cases h1 : i < n
    · rw [if_pos h1] at h
      have e : i.toNat = j := Option.some.inj h
      exact ⟨by rw [seqIndex_of h0 h1, e], by omega, by omega, h1⟩
    · rw [if_neg h1] at h; cases h
  · rw [if_neg h0] at h
    by_cases h1 : -(n : Int) ≤ i
    · rw [if_pos h1] at h
      have e : (i + n).toNat = j := Option.some.inj h
      exact ⟨by rw [seqIndex_neg (by omega) h1, e], by omega, h1, by omega⟩
    · rw [if_neg h1] at h; cases h
theorem atI_get {α : Type} {xs : List α} {i : Int} {v : α} (h : atI xs i = some v) : ∃ j, seqIndex? i xs.length = some j ∧ xs[j]? = some v ∧ j < xs.length ∧ -(xs.length : Int) ≤ i ∧ i < xs.length := by
  unfold atI at h
  cases e : ixN xs.length i with
  | none => rw [e] at h; cases h
  | some j =>
    rw [e] at h
    obtain ⟨h1, h2, h3, h4⟩ := ixN_seq e
    exact ⟨j, h1, h, h2, h3, h4⟩
theorem atI_nat {α : Type} {xs : List α} {j : Nat} {v : α} (h : xs[j]? = some v) : atI xs (j : Int) = some v := by
  have hj : j < xs.length := (List.getElem?_eq_some_iff.mp h).1
  have e : ixN xs.length (j : Int) = some j := by
    unfold ixN
    rw [if_pos (by omega), if_pos (by omega)]; simp
  unfold atI; rw [e]; exact h
theorem atI_last {α : Type} (xs : List α) (v : α) : atI (xs ++ [v]) (-1) = some v := by
  have hl : (xs ++ [v]).length = xs.length + 1 := by simp
  have e : ixN (xs ++ [v]).length (-1) = some xs.length := by
    unfold ixN
    rw [hl, if_neg (by decide), if_pos (by omega)]
    congr 1
    omega
  unfold atI
  rw [e]
  show (xs ++ [v])[xs.length]? = some v
  simp

/-! ### what may be subscripted -/
/-- what stands as an index of a plain subscript -/
def PlainIx (b : Expr) : Prop := ∀ o i, subscripted b false o i = operate [o, i] (getItem o i)
/-- a subscript by values -/
def IxR (X : Cx) (r : R2) : Prop :=
  ∀ (value slice : Expr) (pins : List (Addr × Obj)) (s : Shared) (σ : St) (H : Hp) (x y : V) (v u : Value) (Q : VK), Inv X pins σ H s → RelV x v → RelV y u → r x y H Q →
    subscripted slice false v u = operate [v, u] (getItem v u) → wpAny (model X.prog X.w) X.A (subscriptTail value slice v u) (EP X pins σ Q) X.xe s
/-- a call of a builtin's method by values: the receiver, the arguments -/
def MtR (X : Cx) (id : String) (r : V → List V → Hp → VK → Prop) : Prop :=
  ∀ (pins : List (Addr × Obj)) (s : Shared) (σ : St) (H : Hp) (x : V) (xs : List V) (v : Value) (us : List Value) (Q : VK), Inv X pins σ H s → RelV x v → Vals xs us → r x xs H Q →
    wpAny (model X.prog X.w) X.A (call (.builtin id) (v :: us)) (EP X pins σ Q) X.xe s
section
variable {X : Cx} {a b : Expr} {ta tb : TE} {pos : Pos}
theorem IxR.or {r r' : R2} (h : IxR X r) (h' : IxR X r') : IxR X (fun x y H Q => r x y H Q ∨ r' x y H Q) := by
  intro value slice pins s σ H x y v u Q I rx ry q hs
  rcases q with q | q
  · exact h value slice pins s σ H x y v u Q I rx ry q hs
  · exact h' value slice pins s σ H x y v u Q I rx ry q hs
theorem MtR.or {id : String} {r r' : V → List V → Hp → VK → Prop} (h : MtR X id r) (h' : MtR X id r') : MtR X id (fun x xs H Q => r x xs H Q ∨ r' x xs H Q) := by
  intro pins s σ H x xs v us Q I rx rs q
  rcases q with q | q
  · exact h pins s σ H x xs v us Q I rx rs q
  · exact h' pins s σ H x xs v us Q I rx rs q
/-- a[b] -/
theorem pe_ix {r : R2} (hr : IxR X r) (ha : PE X a ta) (hb : PE X b tb) (hs : PlainIx b) : PE X (.Subscript a b pos) (tOp r ta tb) := by
  intro pins s σ H Q I h
  exact Subscript_ (binT ha hb I h fun v u s2 x y H2 I2 rx ry q => hr a b pins s2 σ H2 x y v u Q I2 rx ry q (hs _ _))

def rIxL (K : PySem.W.Frag) : R2 := fun x y H Q => ∃ p xs i v, x = .ref p ∧ y = .int i ∧ SqL K H p xs ∧ atI xs i = some v ∧ Q v H
def rIxT (K : PySem.W.Frag) : R2 := fun x y H Q => ∃ p xs i v, x = .ref p ∧ y = .int i ∧ SqT K H p xs ∧ atI xs i = some v ∧ Q v H
theorem ix_list : IxR X (rIxL X.K) := by
  intro value slice pins s σ H x y v u Q I rx ry h hs
  obtain ⟨p, xs, i, z, rfl, rfl, hq, he, q⟩ := h
  cases rx
  obtain ⟨t, rfl⟩ := ry
  obtain ⟨its, r, pl, hz⟩ := I.list hq
  obtain ⟨j, h1, h2, h3, h4, h5⟩ := atI_get he
  obtain ⟨w, ew, rw'⟩ := r.get h2
  have hl := r.length
  have hn := line63
  have fin : EP X pins σ Q w s := ⟨z, H, I, rw', q⟩
  by_cases h0 : 0 ≤ i
  · have hj : i.toNat = j := by
      rw [seqIndex_of h0 h5] at h1
      exact Option.some.inj h1
    exact item_listR pl.isList h0 (by omega) (by rw [hj]; simpa using ew) fin hs
  · have hj : (i + (its.toArray.size : Int)).toNat = j := by
      rw [seqIndex_neg (by omega) h4] at h1
      rw [List.size_toArray, ← hl]
      exact Option.some.inj h1
    exact subscriptTail_builtinR (x := w) pl.isList.typeIs slot_list_getitem.lookup
      (wpAny_getItem_list_neg (Q := fun r s' => r = w ∧ EP X pins σ Q r s') pl.isList (by omega) (by rw [List.size_toArray] <;> omega) (by omega) (by rw [hj]; simpa using ew) ⟨rfl, fin⟩) hs
theorem ix_tup : IxR X (rIxT X.K) := by
  intro value slice pins s σ H x y v u Q I rx ry h hs
  obtain ⟨p, xs, i, z, rfl, rfl, hq, he, q⟩ := h
  cases rx
  obtain ⟨t, rfl⟩ := ry
  obtain ⟨its, r, pl, hz⟩ := I.tuple hq
  obtain ⟨j, h1, h2, h3, h4, h5⟩ := atI_get he
  obtain ⟨w, ew, rw'⟩ := r.get h2
  have hl := r.length
  have hn := line63
  have fin : EP X pins σ Q w s := ⟨z, H, I, rw', q⟩
  exact subscriptTail_builtinR (x := w) pl.typeIs slot_tuple_getitem.lookup
    (getItem_tuple (j := j) (Q := fun r s' => r = w ∧ EP X pins σ Q r s') pl (by omega) (by omega) (by rw [List.size_toArray, ← hl]; exact h1) (by simpa using ew) ⟨rfl, fin⟩) hs
/-! ### xs[i] = v, any sign -/
/-- the list's object behind a store -/
theorem mapSeq_set (its : List Value) (n j : Nat) (u : Value) : Obj.mapSeq (·.setIfInBounds j u) { cls := .type "list", data := .seq its.toArray n } = { cls := .type "list", data := .seq (its.set j u).toArray n } := by
  simp [Obj.mapSeq]
theorem Inv.lst {pins : List (Addr × Obj)} {σ : St} {H : Hp} {s : Shared} {p : Addr} {xs : List V} (I : Inv X pins σ H s) (h : H p = some (.lst xs)) :
    ∃ (its : List Value) (n : Nat), Vals xs its ∧ s.heap.get? p = some { cls := .type "list", data := .seq its.toArray n } ∧ xs.length ≤ sizeLine := by
  obtain ⟨z, its, n, r, e⟩ := I.hok p _ h
  exact ⟨its, n, r, e, z⟩
/-- the list at p is written by an update of its object -/
theorem Inv.lstUpd {pins : List (Addr × Obj)} {σ : St} {H : Hp} {s : Shared} {p : Addr} {xs ys : List V} {its its' : List Value} {n n' : Nat} {f : Obj → Obj} (I : Inv X pins σ H s) (h : H p = some (.lst xs))
    (ho : s.heap.get? p = some { cls := .type "list", data := .seq its.toArray n }) (hf : f { cls := .type "list", data := .seq its.toArray n } = { cls := .type "list", data := .seq its'.toArray n' }) (r : Vals ys its') (hz : ys.length ≤ sizeLine) (t : Nat) :
    Inv X pins σ (upd H p (.lst ys)) { s with heap := s.heap.update p f, toks := t } := by
  have e : (s.heap.update p f).get? p = some { cls := .type "list", data := .seq its'.toArray n' } := by
    rw [Heap.get?_update_self f ho (by rw [hf] <;> rfl), hf]
  refine I.write (x := p) (e := p) (by rw [h]; trivial) (.inl rfl) (fun b u hb q => (Heap.get?_update_other _ _ (Ne.symm hb)).trans q) ⟨_, e⟩ ?_
  exact ⟨hz, its', n', r, e⟩
def rSetL : V → V → V → Hp → (Hp → Prop) → Prop := fun o i v H Q => ∃ p xs k j, o = .ref p ∧ i = .int k ∧ H p = some (.lst xs) ∧ ixN xs.length k = some j ∧ Q (upd H p (.lst (xs.set j v)))
theorem set_list : PSet X rSetL := by
  intro pins s σ H o i v ov iv u Q I ro ri rv h
  obtain ⟨p, xs, k, j, rfl, rfl, hp, hj, q⟩ := h
  cases ro
  obtain ⟨t, rfl⟩ := ri
  obtain ⟨its, n, r, ho, hz⟩ := I.lst hp
  obtain ⟨h1, h2, h3, h4⟩ := ixN_seq hj
  have hl := r.length
  have hn := line63
  have I' : Inv X pins σ (upd H p (.lst (xs.set j v))) { s with heap := s.heap.update p (Obj.mapSeq (·.setIfInBounds j u)) } :=
    I.lstUpd hp ho (mapSeq_set its n j u) (r.set rv j) (by rw [List.length_set]; exact hz) s.toks
  by_cases h0 : 0 ≤ k
  · have hk : k.toNat = j := by
      rw [seqIndex_of h0 h4] at h1
      exact Option.some.inj h1
    exact PySem.W.ki_setAt ho h0 (by omega) (by rw [List.size_toArray, ← hl]; exact h4) (by rw [hk]; exact ⟨_, I', q⟩)
  · have hk : (k + (its.toArray.size : Int)).toNat = j := by
      rw [seqIndex_neg (by omega) h3] at h1
      rw [List.size_toArray, ← hl]
      exact Option.some.inj h1
    exact PySem.W.ki_setBack ho (by omega) (by rw [List.size_toArray, ← hl]; exact h3) (by omega) (by rw [hk]; exact ⟨_, I', q⟩)

/-! ### slices -/
theorem slice_bounds (lo hi : Option Int) (n : Nat) : (sliceBounds lo hi none n).1 = ((HT.sIx n 0 lo : Nat) : Int) ∧ (sliceBounds lo hi none n).2.1 = ((HT.sIx n n hi : Nat) : Int) ∧ (sliceBounds lo hi none n).2.2 = 1 := by
  refine ⟨?_, ?_, rfl⟩
  · cases lo with
    | none => simp [sliceBounds, HT.sIx]
    | some i =>
      simp only [sliceBounds, HT.sIx, Option.getD_none, show (1 : Int) > 0 by decide, if_true]
      by_cases h : i < 0
      · simp only [h, if_true] <;> omega
      · simp only [h, if_false] <;> omega
  · cases hi with
    | none => simp [sliceBounds, HT.sIx]
    | some i =>
      simp only [sliceBounds, HT.sIx, Option.getD_none, show (1 : Int) > 0 by decide, if_true]
      by_cases h : i < 0
      · simp only [h, if_true] <;> omega
      · simp only [h, if_false] <;> omega
theorem slicePick_cut (its : List Value) (lo hi : Option Int) : slicePick its.toArray lo hi none = ((its.drop (HT.sIx its.length 0 lo)).take (HT.sIx its.length its.length hi - HT.sIx its.length 0 lo)).toArray := by
  obtain ⟨h1, h2, h3⟩ := slice_bounds lo hi its.toArray.size
  unfold slicePick
  rw [h1, h2, h3]
  simp only [sliceRange_one, pick_run, List.size_toArray] <;> rfl
/-- xs[lo:hi] of a list: a new list -/
def rSlL (K : PySem.W.Frag) : V → Option Int → Option Int → Hp → VK → Prop := fun x lo hi H Q => ∃ a xs, x = .ref a ∧ SqL K H a xs ∧ ∀ p, H p = none → Q (.ref p) (upd H p (.lst (cutV xs lo hi)))
theorem sl_list : SlR X (rSlL X.K) := by
  intro pins s σ H x v vl vu lo hi sl Q I rx hs pl pu h
  obtain ⟨a, xs, rfl, hx, q⟩ := h
  cases rx
  obtain ⟨its, r, ht, hz⟩ := I.list hx
  have hlen := r.length
  refine ⟨"list", _, slot_list_getitem.lookup, ht.isList.typeIs, ?_⟩
  refine wpAny_getItem_list_slice ht.isList hs pl pu .none (by simp) ?_ (by rw [List.size_toArray] <;> omega)
  rw [slicePick_cut, ← hlen]
  refine ⟨.ref s.heap.objs.size, _, I.laid (t' := s.toks) (o := .lst (cutV xs lo hi)) (fun b ob q => Heap.get?_push_of_some _ q) (Nat.le_refl _) ?_, rfl, q _ (I.hok.fresh (Nat.le_refl _))⟩
  exact ⟨Nat.le_trans (cutV_length xs lo hi) hz, _, 0, (r.drop (HT.sIx xs.length 0 lo)).take (HT.sIx xs.length xs.length hi - HT.sIx xs.length 0 lo), Heap.get?_push_size _ rfl⟩

/-! ### in, not in: flat items -/
/-! ### len, list(x), tuple(x) of any list or tuple that is read -/
theorem call_len_seq : CallR X (.builtin "len") (fun xs H Q => ∃ p ys, xs = [.ref p] ∧ (SqL X.K H p ys ∨ SqT X.K H p ys) ∧ Q (.int ys.length) H) := by
  intro pins s σ H xs us Q I r h
  obtain ⟨p, ys, rfl, hq, q⟩ := h
  obtain ⟨u, rfl, rx⟩ := vals1 r
  cases rx
  have hn := line63
  rcases hq with hq | hq
  · obtain ⟨its, r', pl, hz⟩ := I.list hq
    have hlen := r'.length
    exact Calls.call_len_list pl.isList (by simp only [List.size_toArray] <;> omega) ⟨.int ys.length, H, I.tok _, ⟨s.toks + 1, by rw [List.size_toArray, hlen]⟩, q⟩
  · obtain ⟨its, r', pl, hz⟩ := I.tuple hq
    have hlen := r'.length
    exact len_tuple pl (by simp only [List.size_toArray] <;> omega) ⟨.int ys.length, H, I.tok _, ⟨s.toks + 1, by rw [List.size_toArray, hlen]⟩, q⟩
theorem CallR.or {f : Value} {r r' : List V → Hp → VK → Prop} (h : CallR X f r) (h' : CallR X f r') : CallR X f (fun xs H Q => r xs H Q ∨ r' xs H Q) := by
  intro pins s σ H xs us Q I rs q
  rcases q with q | q
  · exact h pins s σ H xs us Q I rs q
  · exact h' pins s σ H xs us Q I rs q
/-! ### the call of a builtin's method: o.m(..) -/
/-- the value is of that builtin type -/
def tyV (K : PySem.W.Frag) (T : String) (x : V) (H : Hp) : Prop := match x with
  | .str _ => T = "str"
  | .int _ => T = "int"
  | .ref p => (T = "list" ∧ ∃ xs, SqL K H p xs) ∨ (T = "tuple" ∧ ∃ o, K.lookup p = some o ∧ o.cls = .type "tuple" ∧ o.dict = none) ∨
      (T = "dict" ∧ ((∃ kvs, H p = some (.dK kvs)) ∨ ∃ kvs, H p = some (.dT kvs))) ∨ (T = "set" ∧ ∃ S n, H p = some (.set S n))
  | _ => False
theorem tyV_is {pins : List (Addr × Obj)} {σ : St} {H : Hp} {s : Shared} {T : String} {x : V} {v : Value} (I : Inv X pins σ H s) (r : RelV x v) (ty : tyV X.K T x H) :
    s.TypeIs v T ∧ ∀ a, v = .ref a → ∃ ob, s.heap.get? a = some ob ∧ ob.dict = none := by
  cases x with
  | str z =>
    obtain ⟨t, rfl⟩ := r
    cases (show T = "str" from ty)
    exact ⟨typeIs_str s z t, fun _ e => nomatch e⟩
  | int i =>
    obtain ⟨t, rfl⟩ := r
    cases (show T = "int" from ty)
    exact ⟨typeIs_int s i t, fun _ e => nomatch e⟩
  | ref p =>
    cases r
    rcases ty with ⟨rfl, xs, hq⟩ | ⟨rfl, o, hk, hc, hd⟩ | ⟨rfl, hk⟩ | ⟨rfl, S, n, hk⟩
    · obtain ⟨its, _, pl, _⟩ := I.list hq
      refine ⟨pl.isList.typeIs, fun a e => ?_⟩
      cases e
      obtain ⟨o, n, e, c, hd, _⟩ := pl
      exact ⟨o, e, hd⟩
    · refine ⟨⟨o, I.kIn p o hk, hc⟩, fun a e => ?_⟩
      cases e
      exact ⟨o, I.kIn _ o hk, hd⟩
    · have z : ∃ o, s.heap.get? p = some o ∧ o.ExactDict := by
        rcases hk with ⟨kvs, hk⟩ | ⟨kvs, hk⟩
        · obtain ⟨_, _, _, _, o, _, _, e, ex, _⟩ := I.hok p _ hk
          exact ⟨o, e, ex⟩
        · obtain ⟨_, _, _, _, o, _, _, e, ex, _⟩ := I.hok p _ hk
          exact ⟨o, e, ex⟩
      obtain ⟨o, e, ex⟩ := z
      refine ⟨⟨o, e, ex.1⟩, fun a e2 => ?_⟩
      cases e2
      exact ⟨o, e, ex.2.1⟩
    · obtain ⟨o, _, _, _, e, ex, _⟩ := I.hok p _ hk
      refine ⟨⟨o, e, ex.1⟩, fun a e2 => ?_⟩
      cases e2
      exact ⟨o, e, ex.2.1⟩
  | _ => exact False.elim ty
def tBM0 (K : PySem.W.Frag) (T : String) (r : V → List V → Hp → VK → Prop) (to : TE) : TE := fun σ H Q => to σ H fun x H1 => tyV K T x H1 ∧ r x [] H1 Q
def tBM (K : PySem.W.Frag) (T : String) (r : V → List V → Hp → VK → Prop) (to : TE) (t : TA) : TE := fun σ H Q => to σ H fun x H1 => tyV K T x H1 ∧ t σ H1 fun xs H2 => r x xs H2 Q
variable {o e : Expr} {es : List Expr} {to : TE} {t : TA} {name : Str} {apos cpos : Pos} {T id : String} {r : V → List V → Hp → VK → Prop}
theorem pe_bm0 (pa : PlainAttrs T) (slot : Slot T name id) (hty : typeOf (.builtin id) = pure (.type "method_descriptor")) (hm : MtR X id r) (ho : PE X o to)
    (hbase : attributeBase o name X.env (eval o X.env) = eval o X.env := by rfl) (hline : (apos.endLine == cpos.line) = true := by rfl) : PE X (.Call (.Attribute o name apos) [] [] cpos) (tBM0 X.K T r to) := by
  intro pins s σ H Q I h
  refine wpAny_Call_method0_late hbase hline (thn (ho pins s σ H _ I h) fun v s1 ⟨x, H1, I1, r1, ty, q1⟩ => ?_)
  obtain ⟨h1, h2⟩ := tyV_is I1 r1 ty
  exact ⟨T, id, pa, slot, hty, h1, h2, Calls.callWith_builtin rfl (PySem.evalArgs_none (hm pins s1 σ H1 x [] v [] Q I1 r1 .nil q1))⟩
theorem pe_bm (pa : PlainAttrs T) (slot : Slot T name id) (hty : typeOf (.builtin id) = pure (.type "method_descriptor")) (hm : MtR X id r) (ho : PE X o to) (ha : PA X (e :: es) t)
    (hbase : attributeBase o name X.env (eval o X.env) = eval o X.env := by rfl)
    (hfew : ((backTo cpos (starEach (e :: es) X.env)).all (fun x => !x.1) && (backToKw cpos (keywordEach [] X.env)).all (fun x => x.1.isSome)
      && decide ((e :: es).length + ([] : List Keyword).length + (if ([] : List Keyword).isEmpty then 0 else 1) < 30)) = true := by rfl)
    (hline : (apos.endLine == cpos.line) = true := by rfl) (hs : starEach (e :: es) X.env = (false, eval e X.env) :: starEach es X.env := by rfl) (hplain : (backTo cpos (starEach es X.env)).any (·.1) = false := by rfl) :
    PE X (.Call (.Attribute o name apos) (e :: es) [] cpos) (tBM X.K T r to t) := by
  intro pins s σ H Q I h
  refine wpAny_Call_method_late hbase hfew hline rfl (thn (ho pins s σ H _ I h) fun v s1 ⟨x, H1, I1, r1, ty, q1⟩ => ?_)
  obtain ⟨h1, h2⟩ := tyV_is I1 r1 ty
  refine ⟨T, id, pa, slot, hty, h1, h2, ?_⟩
  have hA := ha cpos pins s1 σ H1 _ I1 q1
  rw [hs] at hA ⊢
  refine Calls.callWith_builtin (by show (false || (backTo cpos (starEach es X.env)).any (·.1)) = false; rw [hplain] <;> rfl) (Calls.evalArgs_plain ?_)
  exact thn hA fun us s2 ⟨vs, H2, I2, r2, q2⟩ => hm pins s2 σ H2 x vs v us Q I2 r1 r2 q2
/- xs.append(e), list.index on a module's tuple .. are MtR facts of 06m -/
end
end L2

namespace L2
open PySem PySem.Spec PyProof.Rows

def MtM (X : Cx) (id : String) (r : V → List V → Hp → VK → Prop) : Prop :=
  ∀ (pins : List (Addr × Obj)) (s : Shared) (σ : St) (H : Hp) (x : V) (xs : List V) (v : Value) (us : List Value) (Q : VK), Inv X pins σ H s → RelV x v → Vals xs us → r x xs H Q →
    wpAny (model X.prog X.w) X.A (call (.builtin id) (v :: us)) (EP X pins σ Q) X.xe s

/-! ### lists of values -/
theorem Vals.one : ∀ {x : V} {us : List Value}, Vals [x] us → ∃ u, us = [u] ∧ RelV x u
  | _, _, .cons r .nil => ⟨_, rfl, r⟩
theorem Vals.two : ∀ {x y : V} {us : List Value}, Vals [x, y] us → ∃ u v, us = [u, v] ∧ RelV x u ∧ RelV y v
  | _, _, _, .cons r (.cons q .nil) => ⟨_, _, rfl, r, q⟩
theorem Vals.zero : ∀ {us : List Value}, Vals [] us → us = []
  | _, .nil => rfl
theorem Vals.dropLast {xs : List V} {us : List Value} (h : Vals xs us) : Vals xs.dropLast us.dropLast := by
  induction h with
  | nil => exact .nil
  | cons r t ih =>
    cases t with
    | nil => exact .nil
    | cons q t' => exact .cons r ih
theorem Vals.eraseIdx : ∀ {xs : List V} {us : List Value} (i : Nat), Vals xs us → Vals (xs.eraseIdx i) (us.eraseIdx i)
  | _, _, _, .nil => .nil
  | _, _, 0, .cons _ t => t
  | _, _, i + 1, .cons r t => .cons r (Vals.eraseIdx i t)
theorem Vals.reverse {xs : List V} {us : List Value} (h : Vals xs us) : Vals xs.reverse us.reverse := by
  induction h with
  | nil => exact .nil
  | cons r t ih => rw [List.reverse_cons, List.reverse_cons]; exact Vals.append ih (.cons r .nil)
theorem erase_last {α : Type} (l : List α) : l.eraseIdx (l.length - 1) = l.dropLast := by
  induction l with
  | nil => rfl
  | cons a r ih =>
    cases r with
    | nil => rfl
    | cons b r =>
      have e : (a :: b :: r).length - 1 = ((b :: r).length - 1) + 1 := by
        have h1 : (a :: b :: r).length = r.length + 2 := rfl
        have h2 : (b :: r).length = r.length + 1 := rfl
        omega
      rw [e, List.eraseIdx_cons_succ, ih]
      all_goals rfl
section
variable {X : Cx} {pins : List (Addr × Obj)} {σ : St} {H : Hp} {s : Shared} {l b : Addr} {xs ys zs : List V}

/-! ### the two steps: a tracked list is rewritten, a new list is laid -/
theorem Inv.lset {its its' : List Value} {n : Nat} {f : Array Value → Array Value} {t' : Nat} (I : Inv X pins σ H s) (hH : H l = some (.lst xs))
    (e : s.heap.get? l = some { cls := .type "list", data := .seq its.toArray n }) (hf : f its.toArray = its'.toArray) (hv : Vals ys its') (hz : ys.length ≤ sizeLine) :
    Inv X pins σ (upd H l (.lst ys)) { s with heap := s.heap.update l (Obj.mapSeq f), toks := t' } := by
  have q := PySem.IsL.update e f
  rw [hf] at q
  refine I.write (x := l) (e := l) (by rw [hH]; exact trivial) (.inl rfl) (fun b' u hb hu => (Heap.get?_update_other s.heap (Obj.mapSeq f) (Ne.symm hb)).trans hu) ⟨_, q⟩ ?_
  exact ⟨hz, its', _, hv, q⟩
theorem Inv.lnew {its : List Value} {t' : Nat} (I : Inv X pins σ H s) (hv : Vals ys its) (hz : ys.length ≤ sizeLine) :
    Inv X pins σ (upd H s.heap.objs.size (.lst ys)) { s with heap := s.heap.push { cls := .type "list", data := .seq its.toArray }, toks := t' } :=
  I.laid (fun _ _ q => Heap.get?_push_of_some _ q) (Nat.le_refl _) ⟨hz, its, 0, hv, Heap.get?_push_size _ rfl⟩
theorem Inv.fresh (I : Inv X pins σ H s) : H s.heap.objs.size = none := I.hok.fresh (Nat.le_refl _)
theorem Inv.lstM (I : Inv X pins σ H s) (hH : H l = some (.lst xs)) : xs.length ≤ sizeLine ∧ ∃ (its : List Value) (n : Nat), Vals xs its ∧ xs.length = its.length ∧ s.heap.get? l = some { cls := .type "list", data := .seq its.toArray n } := by
  obtain ⟨z, its, n, r, e⟩ := I.hok l _ hH
  exact ⟨z, its, n, r, r.length, e⟩

theorem notLongL {n : Nat} (h : n ≤ sizeLine) : Builtin.List.listTooLong n = false := by
  unfold Builtin.List.listTooLong
  exact decide_eq_false (by omega)
end

section
variable {X : Cx}

/-! ### methods -/
def rAppend : V → List V → Hp → VK → Prop := fun x vs H Q => ∃ l xs y, x = .ref l ∧ vs = [y] ∧ H l = some (.lst xs) ∧ xs.length < sizeLine ∧ Q .non (upd H l (.lst (xs ++ [y])))
theorem mt_append : MtM X "list.append" rAppend := by
  intro pins s σ H x vs v us Q I rx rv h
  obtain ⟨l, xs, y, rfl, rfl, hH, hz, q⟩ := h
  cases rx
  obtain ⟨u, rfl, ru⟩ := rv.one
  obtain ⟨z, its, n, r, hl, e⟩ := I.lstM hH
  refine call_meets F.slot_list_append ⟨_, e, rfl⟩ F.entry_list_append (F.args_list_append_2 _ _) (PySem.list_append l its.toArray n u (by rw [List.size_toArray]; omega)) ⟨e, ?_⟩
  refine ⟨.non, _, I.lset (its' := its ++ [u]) hH e (by simp) (r.append (.cons ru .nil)) ?_, rfl, q⟩
  rw [List.length_append, List.length_singleton]
  omega

def rExtend : V → List V → Hp → VK → Prop := fun x vs H Q => ∃ l b xs zs, x = .ref l ∧ vs = [.ref b] ∧ H l = some (.lst xs) ∧ H b = some (.lst zs) ∧ xs.length + zs.length ≤ sizeLine ∧ Q .non (upd H l (.lst (xs ++ zs)))
theorem mt_extend : MtM X "list.extend" rExtend := by
  intro pins s σ H x vs v us Q I rx rv h
  obtain ⟨l, b, xs, zs, rfl, rfl, hH, hB, hz, q⟩ := h
  cases rx
  obtain ⟨u, rfl, ru⟩ := rv.one
  cases ru
  obtain ⟨z, its, n, r, hl, e⟩ := I.lstM hH
  obtain ⟨z2, its2, n2, r2, hl2, e2⟩ := I.lstM hB
  have hsz : its.toArray.size + its2.toArray.size ≤ sizeLine := by rw [List.size_toArray, List.size_toArray]; omega
  have hlong : ¬ (!its.toArray.isEmpty && Builtin.List.listTooLong (its.toArray.size + its2.toArray.size)) = true := by
    rw [notLongL hsz, Bool.and_false]
    exact Bool.false_ne_true
  refine call_meets F.slot_list_extend ⟨_, e, rfl⟩ F.entry_list_extend (F.args_list_extend_2 _ _)
    (AutoSeq1.list_extend_list_list_0 l its.toArray n b its2.toArray n2 hlong (by rw [List.size_toArray]; omega) (by omega)) ⟨e, e2, ?_⟩
  refine ⟨.non, _, I.lset (its' := its ++ its2) hH e (by simp) (r.append r2) ?_, rfl, q⟩
  rw [List.length_append]
  omega

def rPop : V → List V → Hp → VK → Prop := fun x vs H Q => ∃ l xs y, x = .ref l ∧ vs = [] ∧ H l = some (.lst xs) ∧ xs[xs.length - 1]? = some y ∧ Q y (upd H l (.lst xs.dropLast))
theorem mt_pop : MtM X "list.pop" rPop := by
  intro pins s σ H x vs v us Q I rx rv h
  obtain ⟨l, xs, y, rfl, rfl, hH, hy, q⟩ := h
  cases rx
  have hus := rv.zero
  subst hus
  obtain ⟨z, its, n, r, hl, e⟩ := I.lstM hH
  obtain ⟨u, hu, ru⟩ := r.get hy
  have hy' : its.toArray[its.toArray.size - 1]? = some u := by
    show its.toArray[its.length - 1]? = some u
    rw [← Array.getElem?_toList, ← hl]
    exact hu
  refine call_meets F.slot_list_pop ⟨_, e, rfl⟩ F.entry_list_pop (F.args_list_pop_1 _) (MeetsSeq.list_pop_last l its.toArray n u hy' (by rw [List.size_toArray]; omega)) ⟨e, ?_⟩
  refine ⟨y, _, I.lset (its' := its.dropLast) hH e ?_ r.dropLast ?_, ru, q⟩
  · show its.toArray.eraseIdxIfInBounds (its.toArray.size - 1) = its.dropLast.toArray
    rw [List.size_toArray, List.eraseIdxIfInBounds_toArray, erase_last]
  · rw [List.length_dropLast]
    omega

/-! ### list + list, list += list, list * int -/
/-! ### del xs[i] -/
end

/-! ### xs[a:b] = ys -/
section
variable {prog : Program} {w : World} {A : Around} {E : Value → Shared → Prop} {s : Shared}
end

section
variable {X : Cx}
end
end L2

namespace Att
open PySem PySem.W PySem.Calls PyProof.Rows

/-! ### the script -/
theorem ints_of_wellAll {P : Params} {h : Heap} : ∀ (ns : List Int) (vs : List Value), WellAll P h vs (ns.map WData.int) → IntsAre vs ns := by
  intro ns
  induction ns with
  | nil =>
    intro vs w
    rw [List.map_nil] at w
    cases w
    exact .nil
  | cons n ns ih =>
    intro vs w
    rw [List.map_cons] at w
    cases w with
    | cons a b =>
      cases a
      exact .cons _ _ (ih _ b)

theorem script_of {l : OpenLaw} {n : Nat} (hn : l.most = some n) {P : Params} {h : Heap} {args : List WData} {vals : List Value}
    (hpre : l.row.toRowW.claim.pre args = true) (hwl : WellAll P h vals args) :
    ∃ a vs ns, vals = [Value.ref a] ∧ args = [WData.list (ns.map WData.int)] ∧ h.get? a = some { cls := .type "list", data := .seq vs.toArray } ∧ IntsAre vs ns ∧ ns.length ≤ n := by
  have hsh : WShape.hasAll [] args [.list .int] = true := (pre_splitW hpre).1
  have hc : l.pre.holds [] { args := args } = true := (pre_splitW hpre).2
  obtain ⟨d, r, rfl, h1, h2⟩ := hasAllW_cons hsh
  obtain rfl := hasAllW_nil h2
  obtain ⟨xs, rfl, h3⟩ := hasW_list h1
  obtain ⟨ns, rfl⟩ := items_int h3
  have hlen : ns.length ≤ n := by
    unfold OpenLaw.pre at hc
    have h4 : (WTm.not (.lt (.lit (.int (n : Int))) (.len (.arg 0)))).holds [] { args := [.list (ns.map .int)] } = true := by
      have h4 := (holds_andW hc).1
      rw [hn] at h4
      exact h4
    have h5 := condW_of h4 (w_not (w_lt w_lit (w_len_list (w_arg rfl))))
    rw [List.length_map] at h5
    refine Nat.le_of_not_lt fun q => ?_
    have q' : (n : Int) < ((ns.length : Nat) : Int) := by omega
    first
      | (rw [decide_eq_true q'] at h5; exact absurd h5 (by decide))
      | (simp at h5; omega)
  cases hwl with
  | cons w1 w2 =>
    cases w2
    cases w1 with
    | list ho hall => exact ⟨_, _, ns, rfl, rfl, ho, ints_of_wellAll ns _ hall, hlen⟩

theorem post_true (l : OpenLaw) (args : List WData) : l.row.toRowW.claim.post args (.bool true) args = true :=
  postW_of (r := l.row.toRowW) (X := (true == true))
    (show WShape.has [] (.bool true) .bool = true by first | rfl | decide | simp [WShape.has, WShape.arms, WShape.armsAll])
    (show (WTm.eq .res (.lit (.bool true))).value [] { args := args, res := some (.bool true), after := args } = some (.bool (true == true)) from w_eq_bool (w_res rfl) w_lit) rfl

/-! ### the attachment: holds_open's last premise (the goal 'hc' behind k_head) from a wpAny of the law's body -/
/-- the same from a codeAny of the CALL (for a layer whose function contracts speak of calls) -/
theorem attach_call {l : OpenLaw} {n : Nat} {q : Program} {loose : List Str} {XP : (Str → Option Value) → Heap → Prop} {YP : World → Heap → Prop} {d : DefRec}
    (hn : l.most = some n) (hdf : d.params.defaults = [])
    (call : ∀ (w : World) (s₀ s₁ : Shared) (mg mb : Str → Option Value) (fa : Addr) (o : Obj) (pm cd doc : Value) (a : Addr) (vs : List Value) (ns : List Int),
      Ground q loose [] XP w s₀ mg mb s₁.heap → YP w s₁.heap →
      s₁.heap.get? fa = some o → o.data = .func (docDef d.name d.params d.body d.scope pm cd doc) → s₁.heap.CodeRec cd d.name → mg d.name = some (.ref fa) →
      s₁.heap.get? a = some { cls := .type "list", data := .seq vs.toArray } → IntsAre vs ns → ns.length ≤ n → s₁.gens = #[] →
      codeAny (model l.prog w) callerA (.call (.ref fa) ⟨[.ref a], []⟩) (fun r s' => r = .ok (.ret (.bool true)) ∧ OldK s₁.heap s'.heap ∧ s'.os = s₁.os ∧ AllBare s'.gens) s₁) :
    WalkO q loose XP YP l.row.toRowW d [] (fun f vs => PySem.call f vs) := by
  intro w s₀ s₁ mg mb G Y fa o pm cd doc dV kV ho hd hcd hD hmg hg args vals as hpre hlay hrd hwl hlo
  obtain rfl : dV = .none := Dflts.none hD hdf
  obtain rfl : kV = .none := Dflts.noKw hD
  obtain ⟨a, vs, ns, rfl, rfl, hobj, hints, hlen⟩ := script_of hn hpre hwl
  refine enter_call (codeAny_mono (call w s₀ s₁ mg mb fa o pm cd doc a vs ns G Y ho (fd_plain hd) hcd hmg hobj hints hlen hg) fun r s' hq => ?_)
  obtain ⟨rfl, h2, h3, h4⟩ := hq
  exact ⟨.inl ⟨.bool true, .bool true, [], rfl, fun _ => rfl, .bool true, post_true l _, fun _ => ⟨List.Pairwise.nil, fun _ hm => (nomatch hm)⟩⟩, h2, h3, h4⟩

/-! ### rules over ANY heap (no ledger) from facts about the written part K: the library's own take a ledger (News) for what they write -/
section
variable {prog : Program} {w : World} {A : Around} {E : Value → Shared → Prop} {s : Shared} {K : Frag}

/-! the whole heap as the ledger: makes every rule that writes through a ledger a rule over any heap -/
end
end Att

namespace L2
open PySem PySem.Spec PyProof.Rows

theorem vals_ints : ∀ {vs : List Value} {ns : List Int}, IntsAre vs ns → Vals (ns.map V.int) vs
  | _, _, .nil => .nil
  | _, _, .cons n t h => .cons ⟨t, rfl⟩ (vals_ints h)

/-- nothing is tracked but the script, known to the object (or it is an object of the module) -/
def Only (H : Hp) : Prop := ∀ b, H b = none ∨ ∃ o xs, H b = some (.frz o (.lst xs))

/-- THE HEAD: the law's promise, at the heap behind the top. F, the promise of the law's def, may use that base is part of the heap (so K.In base, base.Ns mainGlobals mg stand in Mod) -/
theorem law_call {P : Program} {w : World} {K : PySem.W.Frag} {mg mb : Str → Option Value} {CX : CXT} {k : Nat} {fa a : Addr} {fd : FuncData} {x : Str} {sp : Sp} {s₁ : Shared} {vs : List Value} {ns : List Int}
    (KX : K.In s₁.heap) (hns : s₁.heap.Ns mainGlobals mg) (hb : s₁.heap.Ns builtinsNs mb) (hbb : ∀ x : Str, x ≠ "__name__" → mb x = bootBuiltins x) (hlim : s₁.heap.NoLimit) (hg : s₁.gens = #[])
    (ha : s₁.heap.get? a = some { cls := .type "list", data := .seq vs.toArray }) (hi : IntsAre vs ns) (hl : ns.length ≤ sizeLine) (hr : Room k callerA)
    (F : ∀ base : Heap, K.In base → base.Ns mainGlobals mg → FnOk P w K mg base CX k fa fd [x] sp) (hbind : ∀ (s : Shared) (u : Value), BindsTo s fd ⟨[u], []⟩ [(x, u)])
    (hsp : ∀ H : Hp, Only H → SqL K H a (ns.map V.int) → sp [.ref a] H (fun v _ => v = .bl true) fun _ _ _ => False)
    (hCX : ∀ H e s', CX [] H s₁ (fun _ _ _ => False) e s' → False) :
    codeAny (model P w) callerA (.call (.ref fa) ⟨[.ref a], []⟩) (fun r s' => r = .ok (.ret (.bool true)) ∧ OldK s₁.heap s'.heap ∧ s'.os = s₁.os ∧ AllBare s'.gens) s₁ := by
  have rv := vals_ints hi
  have lenV := hi.length
  -- from an abstract heap in which nothing but the script may be tracked
  have core : ∀ H : Hp, Only H → SqL K H a (ns.map V.int) → HOk P w H s₁.heap → (∀ b, H b ≠ none → b = a) → (H a ≠ none → K.lookup a = none) →
      codeAny (model P w) callerA (.call (.ref fa) ⟨[.ref a], []⟩) (fun r s' => r = .ok (.ret (.bool true)) ∧ OldK s₁.heap s'.heap ∧ s'.os = s₁.os ∧ AllBare s'.gens) s₁ := by
    intro H hO hS hok hA hK
    have base_of : ∀ {b : Addr} {o : Obj}, s₁.heap.get? b = some o → H b = none → (hidT s₁.heap H).get? b = some o := fun e n => hidT_get e n
    have noA : ∀ {b : Addr} {o : Obj} {es : Array DictEntry} {ep : Nat}, s₁.heap.get? b = some o → o.data = .dict es ep → H b = none := fun {b o es ep} e d => by
      cases q : H b with
      | none => rfl
      | some u =>
        have e' : b = a := hA b (by rw [q]; simp)
        subst e'
        rw [ha] at e; cases e
        have d' : Data.seq vs.toArray _ = Data.dict es ep := d
        cases d'
    have nsK : ∀ {b : Addr} {m : Str → Option Value}, s₁.heap.Ns b m → (hidT s₁.heap H).Ns b m := fun {b m} ⟨o, es, ep, e, d, r⟩ => ⟨o, es, ep, base_of e (noA e d), d, r⟩
    have hKb : K.In (hidT s₁.heap H) := fun b o e => base_of (KX b o e) (by
      cases q : H b with
      | none => rfl
      | some u =>
        have e' : b = a := hA b (by rw [q]; simp)
        subst e'
        rw [hK (by rw [q]; simp)] at e; cases e)
    have hM : Mod K mg (hidT s₁.heap H) := ⟨hKb, nsK hns, ⟨mb, nsK hb, hbb⟩, let ⟨mc, h1, h2⟩ := hlim; ⟨mc, nsK h1, h2⟩⟩
    have e0 : Env0 P w K mg (hidT s₁.heap H) callerA [] s₁ H := ⟨rfl, hM, fun b o e => of_hidT e, Nat.le_of_eq (hidT_size _ _), trivial, fun b hb => absurd (show b ∈ ([] : List Addr) from hb) (by simp), hok, .of_eq hg⟩
    refine codeAny_mono ((F _ hKb (nsK hns)).run callerA [] s₁ H ⟨[.ref a], []⟩ [.ref a] [.ref a] _ _ hr e0 (hbind s₁ (.ref a)) (.cons rfl .nil) (hsp H hO hS)) fun r s' h => ?_
    cases r with
    | error e => exact (hCX H e s' h).elim
    | ok fl =>
      cases fl with
      | next => exact False.elim h
      | brk => exact False.elim h
      | cont => exact False.elim h
      | ret u =>
        obtain ⟨v, H', os, bare, un, hok', r', q⟩ := h
        have q' : v = .bl true := q
        subst q'
        obtain rfl : u = Value.bool true := r'
        refine ⟨rfl, OldK.of_keep fun b o e => ?_, os, bare⟩
        cases q : H b with
        | none => exact un.keep b o e q (by intro z; exact absurd (show b ∈ ([] : List Addr) from z) (by simp)) (by simp)
        | some u =>
          rcases hO b with z | ⟨ob, xs, z⟩
          · rw [q] at z; cases z
          · have z2 := un.frzs b ob _ z
            obtain ⟨e1, _⟩ := hok b _ z
            obtain ⟨e2, _⟩ := hok' b _ z2
            rw [e] at e1; cases e1
            exact e2
  cases hk : K.lookup a with
  | some o =>
    -- the script is one of the module's own objects
    have e := KX a o hk
    rw [ha] at e
    cases e
    refine core (fun _ => none) (fun _ => .inl rfl) (.inr ⟨_, vs.toArray, _, hk, rfl, rfl, rfl, by rw [List.size_toArray, lenV]; exact hl, by simpa using rv⟩) (fun b u z => by have z' : (none : Option HO) = some u := z; cases z') (fun b z => absurd rfl z) fun z => absurd rfl z
  | none =>
    refine core (fun b => if b = a then some (.frz { cls := .type "list", data := .seq vs.toArray } (.lst (ns.map V.int))) else none) (fun b => ?_) (.inl (.inr ⟨{ cls := .type "list", data := .seq vs.toArray }, if_pos rfl⟩)) (fun b u z => ?_) (fun b z => ?_) fun _ => hk
    · by_cases hb : b = a
      · exact .inr ⟨_, _, if_pos hb⟩
      · exact .inl (if_neg hb)
    · by_cases hb : b = a
      · have z' := (if_pos hb).symm.trans z
        cases z'
        subst hb
        exact ⟨ha, by rw [List.length_map]; exact hl, vs, _, rv, ha⟩
      · have z' := (if_neg hb).symm.trans z
        cases z'
    · by_cases hb : b = a
      · exact hb
      · exact absurd (if_neg hb) z
end L2

namespace L2
open PySem PySem.Spec PyProof.Rows

/-- the goal that k_head leaves (case hc), from the law's promise. F gives the function object fd (K's own) once, then the promise over every base -/
theorem walk_of {l : PySem.W.OpenLaw} {n k : Nat} {q : Program} {loose : List Str} {XP : (Str → Option Value) → Heap → Prop} {YP : World → Heap → Prop} {d : DefRec} {K : Params → PySem.W.Frag} {CX : World → CXT} {sp : World → Sp} {x : Str}
    (hn : l.most = some n) (hn2 : n ≤ sizeLine) (hdf : d.params.defaults = []) (hr : Room k callerA)
    (hY : ∀ (w : World) (h : Heap), YP w h → (K w.params).In h)
    (F : ∀ (w : World) (mg : Str → Option Value) (fa : Addr) (h : Heap), (K w.params).In h → h.Ns mainGlobals mg → mg d.name = some (.ref fa) →
      ∃ fd : FuncData, (∀ (s : Shared) (u : Value), BindsTo s fd ⟨[u], []⟩ [(x, u)]) ∧
        ∀ base : Heap, (K w.params).In base → base.Ns mainGlobals mg → FnOk l.prog w (K w.params) mg base (CX w) k fa fd [x] (sp w))
    (hsp : ∀ (w : World) (H : Hp) (a : Addr) (ns : List Int), ns.length ≤ n → Only H → SqL (K w.params) H a (ns.map V.int) → sp w [.ref a] H (fun v _ => v = .bl true) fun _ _ _ => False)
    (hCX : ∀ (w : World) (H : Hp) (s : Shared) (e : Value) (s' : Shared), CX w [] H s (fun _ _ _ => False) e s' → False) :
    PySem.W.WalkO q loose XP YP l.row.toRowW d [] (fun f vs => PySem.call f vs) := by
  refine Att.attach_call hn hdf fun w s₀ s₁ mg mb fa o pm cd doc a vs ns G Y ho hd hcd hmg hobj hints hlen hg => ?_
  have KX := hY w _ Y
  obtain ⟨fd, hb, hF⟩ := F w mg fa _ KX G.T.g hmg
  exact law_call KX G.T.g G.T.b G.T.builtins G.T.nolimit hg hobj hints (Nat.le_trans hlen hn2) hr hF hb (fun H hO hS => hsp w H a ns hlen hO hS) fun H e s' => hCX w H s₁ e s'
end L2

/- THE LAST THEOREM (shape; LID, My.* are yours):
   My.Adr: a structure of the addresses that your layer names (classes, functions); My.Txt K t: a structure (Prop) of the equations over K;
   My.txt_mk : {K} {implicit addresses ..} (e1 : nsIn K mainGlobals "law" = some (some (.ref f))) (e2 : K.lookup f = some ⟨oc, od, .func (fnOf "law" "law" params body scope dV kV doc pm an cdv ct), sl⟩) (e3 : codeIn K cdv "law" = true) .. : ∃ t, My.Txt K t

set_option maxRecDepth 100000 in
set_option maxHeartbeats 0 in
theorem PySem.Challenge.cw_LID_holds : PySem.Challenge.rw_LID.Holds := by
  w_on; o_law; k_head; (case hw => w_witness2)
  k_fill
  refine L2.walk_of (l := PySem.Challenge.rw_LID) (n := 63) (k := 40) (x := "script") (CX := fun w => ..) (sp := fun _ => My.sp_law) rfl (by decide) rfl ⟨rfl, by decide, by decide⟩ (fun w h Y => PySem.W.kIn_of Y) ?F ?S ?C
  case F =>
    intro w mg fa h KX G hmg
    have T : ∃ t, My.Txt (L2.KOf KX) t := by
      dsimp only [L2.KOf]                          -- K must stand as «<heap const> w.params» for k_is
      refine' My.txt_mk ?e1 ?e2 ?e3 ..
      (case e1 => PySem.W.k_is)                    -- in the order: a name -> its address -> its object -> its parts
      (case e2 => PySem.W.k_is)
      ..
    obtain ⟨t, T⟩ := T
    have e0 := hmg.symm.trans (PySem.W.mg_of KX G T.law)
    cases e0                                       -- fa is the law's own address
    exact ⟨_, fun s u => .of_eq rfl, fun base kb nb => My.law_fn T kb nb⟩     -- if «.of_eq rfl» comes too early: refine' ⟨_, ?b, fun base kb nb => My.law_fn T kb nb⟩; exact fun s u => .of_eq rfl
  case S => exact fun w H a ns hl hO hS => ..
  case C => exact ..
(the tactic k_is has no namespace: write k_is) -/

/-! SHORT WORDS over the layer: a def of the text, its body, what a loop and a test want. -/
namespace L2
open PySem PySem.Spec PyProof.Rows

/-! ### the text by places -/
def defArgs (s : Stmt) : Arguments := match s with
  | .FunctionDef _ a _ _ _ _ _ _ _ _ => a
  | _ => { posonlyargs := [], args := [], vararg := none, kwonlyargs := [], kw_defaults := [], kwarg := none, defaults := [] }
def defBody (s : Stmt) : List Stmt := match s with
  | .FunctionDef _ _ b _ _ _ _ _ _ _ => b
  | _ => []
def defScope (s : Stmt) : Scope := match s with
  | .FunctionDef _ _ _ _ _ _ sc _ _ _ => sc
  | _ => { kind := .function, names := [], isGenerator := false, isCoroutine := false }

/-! ### no exception leaves a def -/
abbrev CX0 : CXT := fun _ _ _ _ _ _ => False
abbrev E0 : XK := fun _ _ _ => False
theorem pass0 {X : Cx} : Passes CX0 X E0 := fun _ _ _ _ _ _ _ h => h.elim

/-! ### a def (or method) of the text as it stands behind the top -/
structure Fun (K : PySem.W.Frag) (x qual : Str) (st : Stmt) (f : Addr) (fd : FuncData) : Prop where
  ex : ∃ (oc : Value) (od : Option Addr) (kV doc pm : Value) (an : Option Addr) (cdv ct : Value) (osl : Array (Option Value)),
    fd = PySem.W.fnOf x qual (defArgs st) (defBody st) (defScope st) .none kV doc pm an cdv ct ∧ K.lookup f = some ⟨oc, od, .func fd, osl⟩ ∧ PySem.W.codeIn K cdv qual = true
  kp : PySem.W.keepIn K (.ref f) = true
section
variable {P : Program} {w : World} {K : PySem.W.Frag} {mg : Str → Option Value} {base : Heap}
/-- THE RULE for a def: its body as a term of rules, and the reading of that term -/
theorem Fun.ok {x qual : Str} {st : Stmt} {f : Addr} {fd : FuncData} {N ps : List Str} {k : Nat} {sp : Sp} (F : Fun K x qual st f fd) (S : FnScope N ps (defScope st)) (len : ∀ vs H Q E, sp vs H Q E → vs.length = ps.length)
    (hbody : ∀ (cdv : Value) (A : Around) (outer : List Env) (s : Shared) (H : Hp) (vs : List V) (Q : VK) (E : XK), Room k (A.deeper (envOfC qual (defScope st) s.heap.objs.size f cdv)) → sp vs H Q E →
      ∃ t, PSs (cxOf CX0 P w K mg base N qual (defScope st) f cdv A outer s H E).nox (defBody st) t ∧ t { nx := fun _ H' => Q .non H', rt := Q } (start N vs) H) : FnOk P w K mg base CX0 (k + 1) f fd ps sp := by
  obtain ⟨oc, od, kV, doc, pm, an, cdv, ct, osl, rfl, lk, hcd⟩ := F.ex
  refine fn_of lk hcd S len fun A outer s H vs Q E hr hsp => ?_
  obtain ⟨t, h, q⟩ := hbody cdv A outer s H vs Q E hr hsp
  exact ⟨t, h.nox, q⟩
/-- how its arguments bind (no defaults): h is «fun _ _ _ _ _ _ us hl => match us, hl with | [_, _], _ => rfl», one _ a parameter -/
theorem Fun.binds {x qual : Str} {st : Stmt} {f : Addr} {fd : FuncData} {ps : List Str} (F : Fun K x qual st f fd)
    (h : ∀ (kV doc pm : Value) (an : Option Addr) (cdv ct : Value) (us : List Value), us.length = ps.length → bindArgs (PySem.W.fnOf x qual (defArgs st) (defBody st) (defScope st) .none kV doc pm an cdv ct) ⟨us, []⟩ = pure (ps.zip us)) : Binds K fd ps [] := by
  obtain ⟨oc, od, kV, doc, pm, an, cdv, ct, osl, rfl, lk, hcd⟩ := F.ex
  exact .all (h kV doc pm an cdv ct)
theorem fun_mk {x qual : Str} {st : Stmt} {f : Addr} {oc : Value} {od an : Option Addr} {osl : Array (Option Value)} {kV doc pm cdv ct : Value} (l : K.lookup f = some ⟨oc, od, .func (PySem.W.fnOf x qual (defArgs st) (defBody st) (defScope st) .none kV doc pm an cdv ct), osl⟩)
    (c : PySem.W.codeIn K cdv qual = true) (k : PySem.W.keepIn K (.ref f) = true) : Fun K x qual st f (PySem.W.fnOf x qual (defArgs st) (defBody st) (defScope st) .none kV doc pm an cdv ct) := ⟨⟨oc, od, kV, doc, pm, an, cdv, ct, osl, rfl, l, c⟩, k⟩
end
theorem small1000 {n : Nat} (h : n ≤ 1000) : n < sizeLine := Nat.lt_of_le_of_lt h (by decide)

/-! ### expressions in short: the name that stands in the i-th slot -/
section
variable {X : Cx}
theorem pv (i : Nat) {x : Str} {pos : Pos} (hN : X.N[i]? = some x := by rfl) (hv : Vis X.env.scope x := by first | exact Or.inl rfl | exact Or.inr (Or.inl rfl) | exact Or.inr (Or.inr rfl)) (hd : (x == ("__debug__" : Str)) = false := by decide)
    (hcd : (x == ("__classdict__" : Str)) = false := by decide) : PE X (.Name x pos) (tVar i) := pe_var hN hv hd hcd
end

/-! ### tests -/
/-! ### heaps -/
/-- all that was tracked is as it was -/
def Same (H H' : Hp) : Prop := ∀ b o, H b = some o → H' b = some o
theorem Same.refl (H : Hp) : Same H H := fun _ _ h => h
theorem Same.trans {H H1 H2 : Hp} (a : Same H H1) (b : Same H1 H2) : Same H H2 := fun c o h => b c o (a c o h)
theorem Same.free {H H' : Hp} (e : Same H H') {l : Addr} (h : H' l = Option.none) : H l = Option.none := by
  cases q : H l with
  | none => rfl
  | some o =>
    rw [e l o q] at h
    cases h
theorem Same.seq {K : PySem.W.Frag} {H H' : Hp} {a : Addr} {xs : List V} (e : Same H H') (h : SqL K H a xs) : SqL K H' a xs := by
  rcases h with (h | ⟨o, h⟩) | h
  · exact .inl (.inl (e _ _ h))
  · exact .inl (.inr ⟨o, e _ _ h⟩)
  · exact .inr h

end L2

set_option Elab.async false
set_option linter.all false
set_option maxRecDepth 100000
/-! A LIST COMPREHENSION over the hand layer: one for, any tests that its element needs. -/
namespace L2
open PySem PySem.Spec PyProof.Rows

theorem closure_go {env : Env} : ∀ (names : List (Str × NameKind)) (cs : List (Str × Addr)), (∀ y ∈ names, y.2 = .free → ∃ c, env.cells.lookup y.1 = some c) → (∀ x c, cs.lookup x = some c → env.cells.lookup x = some c) →
    ∃ cl : List (Str × Addr), (forIn names cs (fun (y : Str × NameKind) (r : List (Str × Addr)) => (if (y.2 == NameKind.free) = true then (cellOf env y.1 >>= fun a => pure (ForInStep.yield ((y.1, a) :: r))) else pure (ForInStep.yield r) : Sem (ForInStep (List (Str × Addr)))))) = (pure cl : Sem (List (Str × Addr))) ∧
      (∀ x c, cl.lookup x = some c → env.cells.lookup x = some c) ∧ (∀ x, (cs.lookup x).isSome = true → (cl.lookup x).isSome = true) ∧ ∀ y ∈ names, y.2 = .free → (cl.lookup y.1).isSome = true
  | [], cs, _, hc => ⟨cs, by rw [List.forIn_nil], hc, fun _ h => h, fun y hy => by cases hy⟩
  | (n, k) :: r, cs, h, hc => by
    by_cases hk : (k == NameKind.free) = true
    · have hk' : k = .free := by simpa using hk
      obtain ⟨a, ha⟩ := h (n, k) List.mem_cons_self hk'
      obtain ⟨cl, h1, h2, h3, h4⟩ := closure_go (env := env) r ((n, a) :: cs) (fun y hy => h y (List.mem_cons_of_mem _ hy)) (fun x c e => by
        rw [List.lookup_cons] at e
        split at e
        · rename_i z
          have : x = n := by simpa using z
          subst this
          cases e
          exact ha
        · exact hc x c e)
      have up : ∀ x, (cs.lookup x).isSome = true → (((n, a) :: cs).lookup x).isSome = true := fun x z => by
        rw [List.lookup_cons]
        split
        · rfl
        · exact z
      refine ⟨cl, ?_, h2, fun x z => h3 x (up x z), fun y hy hf => ?_⟩
      · rw [List.forIn_cons]
        simp only [hk, if_true]
        have : cellOf env n = pure a := by unfold cellOf; rw [ha]
        rw [this]
        exact h1
      · rcases List.mem_cons.mp hy with e | e
        · subst e
          exact h3 n (by rw [List.lookup_cons]; simp)
        · exact h4 y e hf
    · obtain ⟨cl, h1, h2, h3, h4⟩ := closure_go (env := env) r cs (fun y hy => h y (List.mem_cons_of_mem _ hy)) hc
      refine ⟨cl, ?_, h2, h3, fun y hy hf => ?_⟩
      · rw [List.forIn_cons]
        simp only [hk, if_false]
        exact h1
      · rcases List.mem_cons.mp hy with e | e
        · subst e
          exact absurd (by simpa using hf) hk
        · exact h4 y e hf
theorem closure_ok {scope : Scope} {env : Env} (h : ∀ y ∈ scope.names, y.2 = .free → ∃ c, env.cells.lookup y.1 = some c) :
    ∃ cl, closureFor scope env = pure cl ∧ (∀ x c, cl.lookup x = some c → env.cells.lookup x = some c) ∧ ∀ y ∈ scope.names, y.2 = .free → (cl.lookup y.1).isSome = true := by
  obtain ⟨cl, h1, h2, _, h4⟩ := closure_go (env := env) scope.names [] h (fun x c e => by cases e)
  refine ⟨cl, ?_, h2, h4⟩
  unfold closureFor
  exact (congrArg (fun z => z >>= fun r => pure r) h1)
/-- the names of a comprehension's block: its own first; what each is in the frame around it -/
structure BlkScope (N : List Str) (no : Nat) (fr : List Nat) (NX : List Str) (sc around : Scope) : Prop where
  kind : sc.kind = .function
  nocell : ∀ y ∈ sc.names, y.2 ≠ .cell
  nd : N.Nodup
  len : N.length = no + fr.length
  loc : ∀ y ∈ sc.names, y.2 = .local → sc.names.lookup y.1 = some .local
  free : ∀ y ∈ sc.names, y.2 = .free → around.names.lookup y.1 = some .cell
  own : ∀ (i : Nat) (x : Str), N[i]? = some x → i < no → sc.names.lookup x = some .local
  out : ∀ (j i : Nat) (x : Str), fr[j]? = some i → N[no + j]? = some x → NX[i]? = some x ∧ sc.names.lookup x = some .free
/-- the block's slots at its start -/
def blk (own : Nat) (fr : List Nat) (σ : St) : St := List.replicate own none ++ fr.map fun i => (σ[i]?).join
/-- the context of a comprehension's block -/
def cxBlk (X : Cx) (N : List Str) (scope : Scope) (cl : List (Str × Addr)) (s : Shared) (H : Hp) (fp : List Addr) : Cx :=
  { X with N := N, s₀ := s, H₀ := H, env := compEnvC scope cl s.heap.objs.size X.env, outer := X.stack, ex := fp, fn := fun _ => false, pn := [], xe := fun _ _ => False }
/-- what is read where names are looked up -/
theorem rel_lookup {env : Env} : ∀ (names : List (Str × NameKind)) (x : Str), (names.map fun (n, k) => if (k == NameKind.free && env.scope.kind == .function && env.kindOf n == some .cell) then (n, NameKind.cell) else (n, k)).lookup x =
    (names.lookup x).map fun k => if (k == NameKind.free && env.scope.kind == .function && env.kindOf x == some .cell) then NameKind.cell else k
  | [], _ => rfl
  | (n, k) :: r, x => by
    rw [List.map_cons]
    show List.lookup x ((if (k == NameKind.free && env.scope.kind == .function && env.kindOf n == some .cell) = true then (n, NameKind.cell) else (n, k)) :: _) = _
    cases hx : x == n with
    | true =>
      have e : x = n := by simpa using hx
      subst e
      by_cases hc : (k == NameKind.free && env.scope.kind == .function && env.kindOf x == some .cell) = true
      · rw [if_pos hc]; simp only [List.lookup_cons, hx]; simp only [Option.map_some, hc, if_true]
      · rw [if_neg hc]; simp only [List.lookup_cons, hx]; simp only [Option.map_some]; rw [if_neg hc]
    | false =>
      by_cases hc : (k == NameKind.free && env.scope.kind == .function && env.kindOf n == some .cell) = true
      · rw [if_pos hc]; simp only [List.lookup_cons, hx]; exact rel_lookup r x
      · rw [if_neg hc]; simp only [List.lookup_cons, hx]; exact rel_lookup r x
theorem rel_name {scope : Scope} {env : Env} (x : Str) : (relabel scope env).names.lookup x = (scope.names.lookup x).map fun k => if (k == NameKind.free && env.scope.kind == .function && env.kindOf x == some .cell) then NameKind.cell else k := rel_lookup _ _

section
variable {X : Cx} {pins : List (Addr × Obj)} {σ : St} {H : Hp} {s : Shared} {N : List Str} {own : Nat} {fr : List Nat} {scope : Scope} {cl : List (Str × Addr)} {fp : List Addr}
/-- the block begins -/
theorem inv_blk (S : BlkScope N own fr X.N scope X.env.scope) (I : Inv X pins σ H s) (hcl : ∀ x c, cl.lookup x = some c → X.env.cells.lookup x = some c) (hcf : ∀ y ∈ scope.names, y.2 = .free → (cl.lookup y.1).isSome = true)
    (hfp : ∀ b ∈ fp, FpOk X pins H b ∧ b < s.heap.objs.size) {h' : Heap} {t : Nat} {m : Str → Option Value} (hns : h'.Ns s.heap.objs.size m) (hk : ∀ b o, s.heap.get? b = some o → h'.get? b = some o) :
    Inv (cxBlk X N scope cl s H fp) [] (blk own fr σ) H { s with heap := h', toks := t } := by
  have kd : ∀ x, (cxBlk X N scope cl s H fp).env.kindOf x = (scope.names.lookup x).map fun k => if (k == NameKind.free && X.env.scope.kind == .function && X.env.kindOf x == some .cell) then NameKind.cell else k := fun x => rel_name x
  have memOf : ∀ {l : List (Str × NameKind)} {x : Str} {k : NameKind}, l.lookup x = some k → (x, k) ∈ l := fun {l x k} e => PySem.mem_of_lookup e
  have isf : ∀ x, ((cxBlk X N scope cl s H fp).env.kindOf x = some .cell ∨ (cxBlk X N scope cl s H fp).env.kindOf x = some .free) → scope.names.lookup x = some .free := fun x h => by
    rw [kd] at h
    cases e : scope.names.lookup x with
    | none => rw [e] at h; simp at h
    | some k =>
      rw [e] at h
      simp only [Option.map_some, Option.some.injEq] at h
      by_cases hc : (k == NameKind.free && X.env.scope.kind == .function && X.env.kindOf x == some .cell) = true
      · have : k = .free := by
          rw [Bool.and_eq_true, Bool.and_eq_true] at hc
          simpa using hc.1.1
        rw [this]
      · rw [if_neg hc] at h
        rcases h with h | h
        · exact absurd h (S.nocell _ (memOf e))
        · rw [h]
  have cellX : ∀ x c, cl.lookup x = some c → ∃ v, s.heap.IsCell c v := fun x c e => I.cell x c (hcl x c e)
  have cellLt : ∀ x c, cl.lookup x = some c → c < s.heap.objs.size := fun x c e => let ⟨v, q⟩ := cellX x c e; q.lt
  refine ⟨⟨I.ok.mod, S.kind, I.ok.glob, I.ok.blt, Nat.le_refl _, fun x y c h1 h2 => I.ok.inj x y c (hcl x c h1) (hcl y c h2), fun x hx => ?_, (fun x c h => by cases h), I.ok.hd, I.ok.frames, .inl rfl, fun b hb => ⟨Nat.ne_of_lt (hfp b hb).2, fun x c e => (hfp b hb).1.2.2.2.2.1 x c (hcl x c e)⟩,
      I.bs, Nat.le_trans I.ok.bsz I.sz, fun b o e hb => ?_, fun b hb z => ?_, I.stack, I.stkFree⟩, rfl, I.bare, Un.kept hk, ⟨m, hns, fun i x v e1 e2 e3 => ?_⟩, fun x c e => ?_, I.hok.fresh (Nat.le_refl _), fun x c e => I.freeC x c (hcl x c e), fun p hp => absurd (show p ∈ ([] : List (Addr × Obj)) from hp) (by simp), I.hok.kept hk, ?_⟩
  · have := hcf _ (memOf (isf x hx)) rfl
    exact Option.isSome_iff_exists.mp this
  · rcases (hfp b hb).1.2.2.2.1 with z | z
    · exact I.ok.noex b o e z
    · exact absurd (Nat.lt_of_lt_of_le (Heap.lt_size e) (Nat.le_trans I.ok.bsz z)) (Nat.lt_irrefl _)
  · rcases List.mem_cons.mp (I.stkSub b z) with q | q
    · exact (hfp b hb).1.2.1 q
    · exact (hfp b hb).1.2.2.1 q
  · -- a name of the block that has a value: one of the frame around
    have e2' : (List.replicate own none ++ fr.map fun i => (σ[i]?).join)[i]? = some (some v) := e2
    have hi : own ≤ i := by
      by_cases hi : i < own
      · rw [List.getElem?_append_left (by simpa using hi), List.getElem?_replicate, if_pos hi] at e2'
        cases e2'
      · omega
    rw [List.getElem?_append_right (by simpa using hi), List.length_replicate, List.getElem?_map] at e2'
    cases ef : fr[i - own]? with
    | none => rw [ef] at e2'; cases e2'
    | some k =>
      rw [ef] at e2'
      have ev : (σ[k]?).join = some v := by simpa using e2'
      have ev' : σ[k]? = some (some v) := by
        cases q : σ[k]? with
        | none => rw [q] at ev; cases ev
        | some o => rw [q] at ev; simpa using ev
      have eN : N[own + (i - own)]? = some x := by
        rw [show own + (i - own) = i by omega]; exact e1
      obtain ⟨q1, q2⟩ := S.out (i - own) k x ef eN
      have q3 : X.env.scope.names.lookup x = some .cell := S.free (x, .free) (memOf q2) rfl
      obtain ⟨mX, _, hl⟩ := I.loc
      obtain ⟨u, r, l⟩ := hl k x v q1 ev' (.inr (.inl q3))
      refine ⟨u, r, ?_⟩
      rcases l with ⟨l1, _⟩ | ⟨_, c, l2, l3⟩
      · have : X.env.scope.names.lookup x = some .local := l1
        rw [q3] at this; cases this
      · have hkd : (cxBlk X N scope cl s H fp).env.kindOf x = some .cell := by
          rw [kd, q2]
          simp only [Option.map_some]
          have e1 : X.env.scope.kind = .function := I.ok.kind
          have e2 : X.env.kindOf x = some .cell := q3
          rw [e1, e2]
          rfl
        have hc := Option.isSome_iff_exists.mp (hcf (x, .free) (memOf q2) rfl)
        obtain ⟨c', hc'⟩ := hc
        have : c' = c := by
          have := hcl x c' hc'
          rw [l2] at this
          exact (Option.some.inj this).symm
        subst this
        exact .inr ⟨.inl hkd, c', hc', l3.keeps hk⟩
  · obtain ⟨v, q⟩ := cellX x c e
    exact ⟨v, q.keeps hk⟩
  · show (blk own fr σ).length = N.length
    unfold blk
    rw [List.length_append, List.length_replicate, List.length_map, S.len]
end

/-- the error's end within a block: none comes -/
abbrev NoX : Value → Shared → Prop := fun _ _ => False
section
variable {P : Program} {w : World} {A : Around} {R : Result → Shared → Prop}
/-- the tests of a turn: none, or one -/
def tst (ifs : List Expr) (env : Env) : Sem Bool :=
  forIn ifs true fun c r => if r = true then do let ok ← isTrue c env (eval c env)
                                                pure (ForInStep.yield ok) else pure (ForInStep.yield r)
theorem tests0 {env : Env} {s : Shared} {E : Value → Shared → Prop} {Q : Bool → Shared → Prop} (h : Q true s) : wpAny (model P w) A (tst [] env) Q E s := wpAny_tests_nil h
theorem tests1 {env : Env} {c : Expr} {s : Shared} {E : Value → Shared → Prop} {Q : Bool → Shared → Prop} (h : wpAny (model P w) A (isTrue c env (eval c env)) Q E s) : wpAny (model P w) A (tst [c] env) Q E s := wpAny_tests_one h
/-- the block's loop by a word J with a measure; no error leaves a turn -/
theorem block_loop {elt tg iter : Expr} {ifs : List Expr} {sc : Scope} {pos : Pos} {it acc : Value} {env : Env} {s : Shared} (J : Nat → Shared → Prop)
    (go : ∀ n s, J n s → wpAny (model P w) A (pyNext it) (fun r s1 => match r with
      | none => R (.ok .next) s1
      | some v => wpAny (model P w) A (letOwnedTupleGo tg it v) (fun _ s2 => wpAny (model P w) A (assign tg env v) (fun _ s3 => wpAny (model P w) A (tst ifs env) (fun ok s4 =>
          if ok = true then wpAny (model P w) A (eval elt env) (fun x s5 => wpAny (model P w) A (call (.builtin "list.append") [acc, x]) (fun _ s6 => ∃ m, m < n ∧ J m s6) NoX s5) NoX s4
          else ∃ m, m < n ∧ J m s4) NoX s3) NoX s2) NoX s1) NoX s)
    (n : Nat) (h : J n s) : codeAny (model P w) A (.compLoop (.ListComp elt [⟨tg, iter, ifs, 0⟩] sc pos) 0 it acc env) R s := by
  have ex : ∀ {α : Type} {t : Sem α} {Q : α → Shared → Prop} {s : Shared} {E : Value → Shared → Prop}, wpAny (model P w) A t Q NoX s → wpAny (model P w) A t Q E s := fun hh => wpAny_mono hh (fun _ _ q => q) fun _ _ z => z.elim
  refine codeAny_loop rfl J (fun n s hJ => ?_) n h
  show wpAny _ _ ((compTurn _ 0 it acc env).onRaise (fun x => do noteFrame x env; theTreesLotGoes x)) _ _ s
  refine wpAny_noted ?_
  rw [compTurn_list]
  refine wpAny_bind (wpAny_standAt (wpAny_bind (thn (ex (go n s hJ)) fun r s1 h1 => ?_)))
  cases r with
  | none => exact wpAny_pure h1
  | some v =>
    refine wpAny_bind (thn (ex h1) fun _ s2 h2 => wpAny_bind (thn (ex h2) fun _ s3 h3 => ?_))
    refine wpAny_bind (thn (ex h3) fun ok s4 h4 => ?_)
    cases ok with
    | false => exact wpAny_pure ⟨rfl, h4⟩
    | true =>
      exact wpAny_bind (wpAny_bind (thn (ex h4) fun x s5 h5 => wpAny_bind (thn (ex h5) fun _ s6 h6 => wpAny_pure (wpAny_pure ⟨rfl, h6⟩))))
end

/-! ### the rule -/
/-- [e for g in i if c]: W the word by the turn, with its measure; D the list that is made -/
def tComp (own : Nat) (fr : List Nat) (wi : TI) (g : TG) (tc : TT) (te : TE) : TE := fun σ H Q => wi σ H fun J H1 => ∀ D, H1 D = none → ∃ W : Nat → Nat → St → Hp → Prop, (∃ m, W 0 m (blk own fr σ) (upd H1 D (.lst []))) ∧ ∀ i m σ' H', W i m σ' H' →
  (J.stop i H' ∧ Q (.ref D) H') ∨ (J.go i H' ∧ ∀ x H2, J.yld i H' x H2 → g x σ' H2 fun σ2 H3 => tc σ2 H3 fun ok H4 =>
    if ok = true then te σ2 H4 fun v H5 => ∃ xs, H5 D = some (.lst xs) ∧ xs.length < sizeLine ∧ ∃ m', m' < m ∧ W (i + 1) m' σ2 (upd H5 D (.lst (xs ++ [v])))
    else ∃ m', m' < m ∧ W (i + 1) m' σ2 H4)
/-- the tests of a comprehension -/
def PTs (Y : Cx) (ifs : List Expr) (t : TT) : Prop :=
  ∀ (pins : List (Addr × Obj)) (s : Shared) (σ : St) (H : Hp) (Q : Bool → Hp → Prop), Inv Y pins σ H s → t σ H Q → wpAny (model Y.prog Y.w) Y.A (tst ifs Y.env) (TP Y pins σ Q) Y.xe s
theorem pts_nil {Y : Cx} : PTs Y [] (fun σ H Q => Q true H) := fun _ _ σ H _ I h => tests0 ⟨H, I, h⟩
theorem pts_one {Y : Cx} {c : Expr} {t : TT} (h : PT Y c t) : PTs Y [c] t := fun pins s σ H Q I q => tests1 (h pins s σ H Q I q)
section
variable {X : Cx} {N : List Str} {own : Nat} {fr : List Nat} {scope : Scope} {elt tg iter : Expr} {ifs : List Expr} {pos : Pos} {wi : TI} {g : TG} {tc : TT} {te : TE}
theorem Turn.fpLt {P : Program} {w : World} {K : PySem.W.Frag} {J : It} {fp : List Addr} {it : Addr} {tn : Nat → Heap → Prop} (T : Turn P w K tg J fp it tn) {i : Nat} {h : Heap} (st : tn i h) : ∀ b ∈ fp, b < h.objs.size := fun b hb => by
  obtain ⟨o, e, _⟩ := T.obj i h st b hb
  exact Heap.lt_size e
/-- how the block's end is taken: its frame C still stands -/
def CompEnd (X : Cx) (pins : List (Addr × Obj)) (σ : St) (Q : VK) (use : Option (Value → Sem Unit)) (QQ : Value → Shared → Prop) : Prop :=
  ∀ (D C : Addr) (H' : Hp) (s5 : Shared) (m5 : Str → Option Value), (∀ h6, Heap.SameBut C s5.heap h6 → Inv X pins σ H' { s5 with heap := h6 }) → s5.heap.Ns C m5 → H' C = none → X.s₀.heap.objs.size ≤ C → X.env.locals ≠ C → (∀ x c, X.env.cells.lookup x = some c → c ≠ C) → (∀ p ∈ X.pn ++ pins, p.1 ≠ C) → Q (.ref D) H' →
    compPost (model X.prog X.w) X.A X.xe use QQ (.ref D) C (.ok .next) s5
theorem comp_core {use : Option (Value → Sem Unit)} {QQ : Value → Shared → Prop} {ps : Pos} (S : BlkScope N own fr X.N scope X.env.scope) (hc : X.calm = true) (hi : PI X tg iter wi)
    (hg : ∀ cl s H fp, PG (cxBlk X N scope cl s H fp) tg g) (ht : ∀ cl s H fp, PTs (cxBlk X N scope cl s H fp) ifs tc) (he : ∀ cl s H fp, PE (cxBlk X N scope cl s H fp) elt te)
    (hs : ∀ x, foldedSetIterable iter X.env x = pure x) {pins : List (Addr × Obj)} {s : Shared} {σ : St} {H : Hp} {Q : VK} (I : Inv X pins σ H s) (h : tComp own fr wi g tc te σ H Q) (finish : CompEnd X pins σ Q use QQ) :
    wpAny (model X.prog X.w) X.A (comprehension (.ListComp elt [⟨tg, iter, ifs, 0⟩] scope pos) scope X.env ps (newList []) false (eval iter X.env) use) QQ X.xe s := by
  obtain ⟨cl, hclos, hcl, hcf⟩ := closure_ok (scope := scope) (env := X.env) fun y hy hf => I.ok.has y.1 (.inl (S.free y hy hf))
  refine wpAny_comprehension_free (use := use) rfl hs hclos S.kind S.loc (thn (hi pins s σ H _ I h) fun v s1 h1 => thn h1 fun itv s2 h2 => ?_)
  obtain ⟨it, fp, tn, J, H2, e, I2, T, st2, f2, h2⟩ := h2
  subst e
  -- the list
  refine wpAny_newObj_type ?_ (Nat.zero_le _)
  have fr2 : H2 s2.heap.objs.size = none := I2.hok.fresh (Nat.le_refl _)
  obtain ⟨W, ⟨m0, w0⟩, turn⟩ := h2 s2.heap.objs.size fr2
  have I3 : Inv X pins σ (upd H2 s2.heap.objs.size (.lst [])) { s2 with heap := s2.heap.push { cls := .type "list", data := .seq ([] : List Value).toArray } } := I2.lnew (t' := s2.toks) (its := []) .nil (Nat.zero_le _)
  have st3 : tn 0 (s2.heap.push { cls := .type "list", data := .seq ([] : List Value).toArray }) := T.keep _ _ _ st2 fun b _ o e => Heap.get?_push_of_some _ e
  generalize hs3 : ({ s2 with heap := s2.heap.push { cls := .type "list", data := .seq ([] : List Value).toArray } } : Shared) = s3 at I3
  have st3' : tn 0 s3.heap := by rw [← hs3]; exact st3
  have f3 : ∀ b ∈ fp, FpOk X pins (upd H2 s2.heap.objs.size (.lst [])) b := fun b hb => by
    obtain ⟨q0, q⟩ := f2 b hb
    refine ⟨?_, q⟩
    rw [upd_ne (Nat.ne_of_lt (T.fpLt st2 b hb))]
    exact q0
  -- the block's frame
  refine wpAny_newFunctionEnv S.nocell (fun y hy => by cases hy) (fun h4 hns4 hsb4 => ?_) S.kind
  have hk4 : ∀ b o, s3.heap.get? b = some o → h4.get? b = some o := fun b o e => hsb4.extBut b o (Nat.ne_of_lt (Heap.lt_size e)) (Heap.get?_push_of_some _ e)
  have I4 : Inv (cxBlk X N scope cl s3 (upd H2 s2.heap.objs.size (.lst [])) fp) [] (blk own fr σ) (upd H2 s2.heap.objs.size (.lst [])) { s3 with heap := h4, toks := s3.toks + ([] : List (Str × Value)).length } :=
    inv_blk S I3 hcl hcf (fun b hb => ⟨f3 b hb, T.fpLt st3' b hb⟩) hns4 hk4
  have st4 : tn 0 h4 := T.keep _ _ _ st3' fun b _ o e => hk4 b o e
  -- the loop
  generalize hY : cxBlk X N scope cl s3 (upd H2 s2.heap.objs.size (.lst [])) fp = Y at I4
  have hg' := hg cl s3 (upd H2 s2.heap.objs.size (.lst [])) fp
  have ht' := ht cl s3 (upd H2 s2.heap.objs.size (.lst [])) fp
  have he' := he cl s3 (upd H2 s2.heap.objs.size (.lst [])) fp
  rw [hY] at hg' ht' he'
  have yp : Y.prog = X.prog := by rw [← hY]; rfl
  have yw : Y.w = X.w := by rw [← hY]; rfl
  have yK : Y.K = X.K := by rw [← hY]; rfl
  have yA : Y.A = X.A := by rw [← hY]; rfl
  have yc : Y.calm = true := by rw [← hY]; exact hc
  have yx : Y.xe = NoX := by rw [← hY]; rfl
  have ye : Y.env = compEnvC scope cl s3.heap.objs.size X.env := by rw [← hY]; rfl
  have fin : ∀ {σ' : St} {H' : Hp} {s5 : Shared}, Inv Y [] σ' H' s5 → Q (.ref s2.heap.objs.size) H' → compPost (model X.prog X.w) X.A X.xe use QQ (.ref s2.heap.objs.size) s3.heap.objs.size (.ok .next) s5 := fun {σ' H' s5} I5 q => by
    obtain ⟨m5, hn5, _⟩ := I5.loc
    have yl : Y.env.locals = s3.heap.objs.size := by rw [ye]; rfl
    rw [yl] at hn5
    have un := I5.base
    have y1 : Y.fs = frs X.stack := by rw [← hY]; rfl
    have y2 : Y.ex = fp := by rw [← hY]; rfl
    have y3 : Y.H₀ = upd H2 s2.heap.objs.size (.lst []) := by rw [← hY]; rfl
    have y4 : Y.s₀ = s3 := by rw [← hY]; rfl
    rw [y1, y2, y3, y4] at un
    have free6 : H' s3.heap.objs.size = none := by rw [← yl]; exact I5.free
    refine finish s2.heap.objs.size s3.heap.objs.size H' s5 m5 (fun h6 hs6 => ?_) hn5 free6 I3.sz (Nat.ne_of_lt I3.lt) (fun x c e => ?_) (fun p hp => ?_) q
    · have k6 : ∀ b o, b ≠ s3.heap.objs.size → s5.heap.get? b = some o → h6.get? b = some o := fun b o hb e => hs6.extBut b o hb e
      have old : ∀ b o, s3.heap.get? b = some o → b ≠ s3.heap.objs.size := fun b o e => Nat.ne_of_lt (Heap.lt_size e)
      have un6 : Un (frs X.stack) fp (upd H2 s2.heap.objs.size (.lst [])) H' s3.heap h6 :=
        ⟨fun b o e n hb hx => k6 b o (old b o e) (un.keep b o e n hb hx), fun b o e n hb hx => by obtain ⟨sl, q⟩ := un.slot b o e n hb hx; exact ⟨sl, k6 b _ (old b o e) q⟩, un.free, fun b o e hx => by obtain ⟨o', q⟩ := un.there b o e hx; exact ⟨o', k6 b o' (old b o e) q⟩, un.tups, un.frzs, un.tbls⟩
      have hok6 : HOk X.prog X.w H' h6 := by
        have := I5.hok
        rw [yp, yw] at this
        refine fun a o e => (this a o e).stay (fun b u hb q => k6 b u ?_ q) (fun _ z => z) fun _ _ z => z
        rcases hb with z | z
        · subst z; intro z; rw [z, free6] at e; cases e
        · intro y; rw [y, free6] at z; cases z
      obtain ⟨hh, gg, dd, tt, os'⟩ := s5
      have ho : os' = s3.os := by have := I5.os; rw [y4] at this; exact this
      subst ho
      refine Inv.call (s := s3) I3 (h' := h6) (g' := gg) (d' := dd) (t' := tt) (ch := fp) un6 hok6 I5.bare (fun b hb => ?_)
      obtain ⟨_, q1, _, q3, q4, q5⟩ := f3 b hb
      exact ⟨q3, q1, q4, q5⟩
    · obtain ⟨v, oc, ho, _⟩ := I3.cell x c e
      exact Nat.ne_of_lt (Heap.lt_size ho)
    · obtain ⟨e, _⟩ := I3.pin p hp
      exact Nat.ne_of_lt (Heap.lt_size e)
  have loop : ∀ s4 : Shared, Inv Y [] (blk own fr σ) (upd H2 s2.heap.objs.size (.lst [])) s4 → tn 0 s4.heap → codeAny (model X.prog X.w) X.A (.compLoop (.ListComp elt [⟨tg, iter, ifs, 0⟩] scope pos) 0 (.ref it) (.ref s2.heap.objs.size) (compEnvC scope cl s3.heap.objs.size X.env))
      (compPost (model X.prog X.w) X.A X.xe use QQ (.ref s2.heap.objs.size) s3.heap.objs.size) s4 := by
    intro s4 I4 st4
    have stat : ∀ {H' : Hp}, (∀ b ∈ fp, H' b = none) → ∀ b ∈ fp, FpOk Y [] H' b := fun {H'} hn b hb => by
      obtain ⟨_, q1, q2, q3, q4, q5⟩ := f3 b hb
      refine ⟨hn b hb, ?_, ?_, ?_, fun x c e => ?_, fun p hp => ?_⟩
      · rw [ye]; exact Nat.ne_of_lt (T.fpLt st3' b hb)
      · have : Y.fs = frs X.stack := by rw [← hY]; rfl
        rw [this]
        intro z
        rcases List.mem_cons.mp (I3.stkSub b z) with q | q
        · exact q1 q
        · exact q2 q
      · left; rw [← hY]; exact hb
      · rw [ye] at e; exact q4 x c (hcl x c e)
      · rw [← hY] at hp; cases hp
    refine block_loop (fun n s' => ∃ i σ' H', Inv Y [] σ' H' s' ∧ tn i s'.heap ∧ (∀ b ∈ fp, H' b = none) ∧ W i n σ' H') ?_ m0 ⟨0, _, _, I4, st4, fun b hb => (f3 b hb).1, w0⟩
    rintro n s5 ⟨i, σ5, H5, I5, st5, fr5, w5⟩
    rw [← yp, ← yw, ← yA, ← ye, ← yx]
    have T' : Turn Y.prog Y.w Y.K tg J fp it tn := by rw [yp, yw, yK]; exact T
    rcases turn i n σ5 H5 w5 with ⟨stop, qn⟩ | ⟨go, step⟩
    · refine thn (T'.done Y rfl rfl rfl yc i [] s5 σ5 H5 Y.xe I5 (stat fr5) st5 stop) fun r s6 ⟨hr, I6⟩ => ?_
      subst hr
      have q := fin I6 qn
      rw [← yp, ← yw, ← yA] at q
      exact q
    · refine thn (T'.item Y rfl rfl rfl yc i [] s5 σ5 H5 Y.xe I5 (stat fr5) st5 go) fun r s6 ⟨u, hr, h6⟩ => ?_
      subst hr
      refine thn h6 fun _ s7 ⟨x, H7, I7, r7, y7, st7, fr7⟩ => ?_
      have I7' := I7.pinned (stat fr7) (T.obj _ _ st7)
      have stay : ∀ {σ8 : St} {H8 : Hp} {s8 : Shared}, Inv Y ([] ++ pinsAt fp s7.heap) σ8 H8 s8 → tn (i + 1) s8.heap ∧ ∀ b ∈ fp, H8 b = none := fun {σ8 H8 s8} I8 => by
        refine ⟨T.keep _ _ _ st7 fun b hb o e => (I8.pin (b, o) (List.mem_append_right _ (List.mem_append_right _ (mem_pinsAt hb e)))).1, fun b hb => ?_⟩
        obtain ⟨o, e, d⟩ := T.obj _ _ st7 b hb
        exact (I8.pin (b, o) (List.mem_append_right _ (List.mem_append_right _ (mem_pinsAt hb e)))).2.1
      refine thn (hg' _ s7 σ5 H7 x u _ I7' r7 (step x H7 y7)) fun _ s8 ⟨σ8, H8, I8, q8⟩ => ?_
      refine thn (ht' _ s8 σ8 H8 _ I8 q8) fun ok s9 ⟨H9, I9, q9⟩ => ?_
      cases ok with
      | false =>
        obtain ⟨m', hm, w9⟩ := q9
        obtain ⟨t9, f9⟩ := stay I9
        exact ⟨m', hm, i + 1, σ8, H9, I9.unpinned, t9, f9, w9⟩
      | true =>
        refine thn (he' _ s9 σ8 H9 _ I9 q9) fun y s10 ⟨v, H10, I10, r10, xs, hD, hz, m', hm, w10⟩ => ?_
        refine thn (mt_append (X := Y) _ s10 σ8 H10 (.ref s2.heap.objs.size) [v] (.ref s2.heap.objs.size) [y] (fun _ H' => H' = upd H10 s2.heap.objs.size (.lst (xs ++ [v]))) I10 rfl (.cons r10 .nil) ⟨_, xs, v, rfl, rfl, hD, hz, rfl⟩) fun _ s11 ⟨_, H11, I11, _, q11⟩ => ?_
        subst q11
        obtain ⟨t11, f11⟩ := stay I11
        exact ⟨m', hm, i + 1, σ8, _, I11.unpinned, t11, f11, w10⟩
  have stp : codeAny (model X.prog X.w) X.A (.compLoop (.ListComp elt [⟨tg, iter, ifs, 0⟩] scope pos) 0 (.ref it) (.ref s2.heap.objs.size) (compEnvC scope cl s3.heap.objs.size X.env)) (compPost (model X.prog X.w) X.A X.xe use QQ (.ref s2.heap.objs.size) s3.heap.objs.size) { s3 with heap := h4, toks := s3.toks + ([] : List (Str × Value)).length } :=
    loop _ I4 st4
  exact codeAny_compStart_list stp (T.self X.A 0 _ _ _ st4 stp)
theorem pe_comp (S : BlkScope N own fr X.N scope X.env.scope) (hc : X.calm = true) (hi : PI X tg iter wi)
    (hg : ∀ cl s H fp, PG (cxBlk X N scope cl s H fp) tg g) (ht : ∀ cl s H fp, PTs (cxBlk X N scope cl s H fp) ifs tc) (he : ∀ cl s H fp, PE (cxBlk X N scope cl s H fp) elt te)
    (hs : ∀ x, foldedSetIterable iter X.env x = pure x := by intro _; rfl) : PE X (.ListComp elt [⟨tg, iter, ifs, 0⟩] scope pos) (tComp own fr wi g tc te) := by
  intro pins s σ H Q I h
  rw [eval_ListComp]
  exact comp_core S hc hi hg ht he hs I h fun D C H' s5 m5 hI hn _ _ _ _ _ q => ⟨m5, hn, fun h6 hs6 => ⟨.ref D, H', hI h6 hs6, rfl, q⟩⟩
/-- x = [e for g in i if c], x a plain local name -/
theorem ps_comp {i : Nat} {x : Str} {pos1 pos' : Pos} (hN : X.N.Nodup) (hi' : X.N[i]? = some x) (hx : Loc X.env.scope x) (S : BlkScope N own fr X.N scope X.env.scope) (hc : X.calm = true) (hi : PI X tg iter wi)
    (hg : ∀ cl s H fp, PG (cxBlk X N scope cl s H fp) tg g) (ht : ∀ cl s H fp, PTs (cxBlk X N scope cl s H fp) ifs tc) (he : ∀ cl s H fp, PE (cxBlk X N scope cl s H fp) elt te)
    (hs : ∀ x, foldedSetIterable iter X.env x = pure x := by intro _; rfl) (hw : swapsWith (.ListComp elt [⟨tg, iter, ifs, 0⟩] scope pos) (some (.Name x pos')) pos1.line X.env = pure true := by rfl) (hf : X.fn x = true ∨ X.env.scope.names.lookup x = some .local := by first | exact .inl rfl | exact .inr rfl | assumption) :
    PS X (.Assign [.Name x pos'] (.ListComp elt [⟨tg, iter, ifs, 0⟩] scope pos) pos1) (tAsg (tComp own fr wi g tc te) (gName i)) := by
  intro pins s σ H D I h
  rw [exec_Assign_Name_used x pos' _ pos1 hw]
  refine wpAny_bind (wpAny_standAt (wpAny_bind ?_))
  rw [arm_evalThenUse_ListComp]
  refine wpAny_bind (thn (comp_core (use := some (assign (.Name x pos') X.env)) (QQ := fun _ s' => SP X pins D .next s') S hc hi hg ht he hs I h fun D' C H' s5 m5 hI hn hfree hsz hL hcs hps q => ?_) fun _ s' h => wpAny_pure (wpAny_pure h))
  show wpAny _ _ (assign (.Name x pos') X.env (.ref D')) _ _ s5
  refine wpAny_assign_Name (store_ok2 (hI s5.heap (.refl ..)) hN hi' hx (show RelV (.ref D') (.ref D') from rfl) (fun s6 I6 ⟨a, hsb, ha⟩ => ?_) hf)
  have nC : a ≠ C := by
    rcases ha with z | z
    · rw [z]; exact hL
    · exact hcs x a z
  refine ⟨m5, hn.sameBut hsb (Ne.symm nC), fun h6 hs6 => ?_⟩
  exact ⟨_, H', I6.turned (t' := s6.toks) (it := C) (fun b o hb e => hs6.extBut b o hb e) hfree (Ne.symm hL) (.inr hsz) hcs hps, q⟩
end
end L2

set_option Elab.async false
set_option linter.all false
set_option maxRecDepth 100000
/-! the slots of a set's table: which ones a search meets, in their order -/
namespace ST
open PySem PySem.SetTable

/-- the slots that n runs meet, the first run from i on -/
def line (mask : Nat) : Nat → Nat → Nat → List Nat
  | 0, _, _ => []
  | n + 1, i, p => (List.range (runEnd mask i + 1 - i)).map (i + ·) ++ line mask n (leap mask i p).1 (leap mask i p).2

/-- the slots that a search has still ahead -/
def rem (mask N : Nat) (p : Probe) : List Nat :=
  (List.range (p.more + 1)).map (p.j + ·) ++ line mask N (leap mask p.i p.perturb).1 (leap mask p.i p.perturb).2

def way (mask : Nat) (h : Int) : List Nat := line mask (mask + 14) (bits h % (mask + 1)) (bits h)

theorem runEnd_ge (mask i : Nat) : i ≤ runEnd mask i := by unfold runEnd; split <;> omega
theorem runEnd_le (mask i : Nat) : runEnd mask i ≤ i + 9 := by unfold runEnd; split <;> omega

theorem line_length (mask : Nat) : ∀ n i p, (line mask n i p).length ≤ 10 * n
  | 0, _, _ => by simp [line]
  | n + 1, i, p => by
    have h1 := line_length mask n (leap mask i p).1 (leap mask i p).2
    have h2 := runEnd_le mask i
    simp only [line, List.length_append, List.length_map, List.length_range]
    omega

theorem rem_start (t : SetTable) (h : Int) (N : Nat) : rem t.mask N (t.probeStart h) = line t.mask (N + 1) (bits h % (t.mask + 1)) (bits h) := by
  have h1 := runEnd_ge t.mask (bits h % (t.mask + 1))
  unfold rem probeStart
  simp only [line]
  rw [show runEnd t.mask (bits h % (t.mask + 1)) - bits h % (t.mask + 1) + 1 = runEnd t.mask (bits h % (t.mask + 1)) + 1 - bits h % (t.mask + 1) by omega]

theorem rem_way (t : SetTable) (h : Int) : rem t.mask (t.mask + 13) (t.probeStart h) = way t.mask h := rem_start t h _

theorem range_map_cons (m j : Nat) : (List.range (m + 1 + 1)).map (j + ·) = j :: (List.range (m + 1)).map (j + 1 + ·) := by
  rw [List.range_succ_eq_map, List.map_cons, List.map_map]
  congr 1
  exact List.map_congr_left fun a _ => by simp only [Function.comp]; omega

theorem rem_more {t : SetTable} {N : Nat} {p : Probe} (h : 0 < p.more) : rem t.mask N p = p.j :: rem t.mask N (t.advance p) := by
  obtain ⟨j, more, i, per, d⟩ := p
  cases more with
  | zero => simp at h
  | succ m =>
    simp only [rem, advance, Nat.succ_pos, if_true, gt_iff_lt, Nat.zero_lt_succ]
    rw [range_map_cons]
    rfl

theorem rem_leap {t : SetTable} {N : Nat} {p : Probe} (h : p.more = 0) : rem t.mask (N + 1) p = p.j :: rem t.mask N (t.advance p) := by
  obtain ⟨j, more, i, per, d⟩ := p
  simp only at h
  subst h
  have h1 := runEnd_ge t.mask (leap t.mask i per).1
  simp only [rem, advance, line, gt_iff_lt, Nat.lt_irrefl, if_false]
  rw [show runEnd t.mask (leap t.mask i per).1 - (leap t.mask i per).1 + 1 = runEnd t.mask (leap t.mask i per).1 + 1 - (leap t.mask i per).1 by omega]
  simp

theorem advance_dummy {t : SetTable} {p : Probe} : (t.advance p).dummy = p.dummy := by
  unfold advance; split <;> rfl

theorem go_spec {t : SetTable} {hashAt : Nat → Int} {h : Int} (nd : ∀ j, t.slot j ≠ .dummy) : ∀ (fuel N : Nat) (p : Probe), (rem t.mask N p).length ≤ fuel → p.dummy = none →
    (∃ j ∈ rem t.mask N p, t.slot j = .empty) →
    ∃ pre j post, rem t.mask N p = pre ++ j :: post ∧ (∀ x ∈ pre, ∃ i, t.slot x = .live i ∧ hashAt i ≠ h) ∧
      ((t.slot j = .empty ∧ probe.go t hashAt h fuel p = some (.empty j none)) ∨
       (∃ i N' p', t.slot j = .live i ∧ hashAt i = h ∧ probe.go t hashAt h fuel p = some (.candidate j i p') ∧ rem t.mask N' p' = post ∧ p'.dummy = none)) := by
  intro fuel
  induction fuel with
  | zero =>
    intro N p hl _ ⟨j, hj, _⟩
    have := List.length_pos_of_mem hj
    omega
  | succ fuel ih =>
    intro N p hl hd ⟨j, hj, hje⟩
    -- the first slot and the others
    have key : (∃ N', rem t.mask N p = p.j :: rem t.mask N' (t.advance p)) ∨ rem t.mask N p = [p.j] := by
      rcases Nat.eq_zero_or_pos p.more with h0 | h0
      · cases N with
        | zero => right; simp [rem, h0, line]
        | succ N => left; exact ⟨N, rem_leap h0⟩
      · left; exact ⟨N, rem_more h0⟩
    cases hs : t.slot p.j with
    | dummy => exact absurd hs (nd _)
    | empty =>
      have hgo : probe.go t hashAt h (fuel + 1) p = some (.empty p.j none) := by
        simp only [probe.go, hs, hd]
      rcases key with ⟨N', e⟩ | e
      · exact ⟨[], p.j, _, e, by simp, .inl ⟨hs, hgo⟩⟩
      · exact ⟨[], p.j, [], e, by simp, .inl ⟨hs, hgo⟩⟩
    | live i =>
      rcases key with ⟨N', e⟩ | e
      · by_cases hh : hashAt i = h
        · refine ⟨[], p.j, _, e, by simp, .inr ⟨i, N', t.advance p, hs, hh, ?_, rfl, advance_dummy.trans hd⟩⟩
          simp only [probe.go, hs, hh, beq_self_eq_true, if_true]
        · have hgo : probe.go t hashAt h (fuel + 1) p = probe.go t hashAt h fuel (t.advance p) := by
            simp only [probe.go, hs]
            rw [if_neg (by simpa using hh)]
          rw [e] at hj hl
          have hj' : j ∈ rem t.mask N' (t.advance p) := by
            rcases List.mem_cons.mp hj with rfl | hj
            · rw [hje] at hs; exact nomatch hs
            · exact hj
          simp only [List.length_cons] at hl
          obtain ⟨pre, j', post, e', hpre, hh'⟩ := ih N' (t.advance p) (by omega) (advance_dummy.trans hd) ⟨j, hj', hje⟩
          refine ⟨p.j :: pre, j', post, by rw [e, e']; rfl, ?_, by rw [hgo]; exact hh'⟩
          intro x hx
          rcases List.mem_cons.mp hx with rfl | hx
          · exact ⟨i, hs, hh⟩
          · exact hpre x hx
      · rw [e] at hj
        obtain rfl := List.mem_singleton.mp hj
        rw [hje] at hs; exact nomatch hs

/-- all slots are met -/
def orb (mask : Nat) : Nat → Nat → Nat → Nat
  | 0, _, acc => acc
  | n + 1, i, acc => orb mask n ((i * 5 + 1) % (mask + 1)) (acc ||| (1 <<< i))

theorem mem_run (mask i : Nat) : i ∈ (List.range (runEnd mask i + 1 - i)).map (i + ·) :=
  List.mem_map.mpr ⟨0, List.mem_range.mpr (by have := runEnd_ge mask i; omega), by omega⟩

theorem orb_mem (mask j : Nat) : ∀ n i acc, (orb mask n i acc).testBit j = true → acc.testBit j = true ∨ j ∈ line mask n i 0
  | 0, i, acc, h => .inl h
  | n + 1, i, acc, h => by
    rcases orb_mem mask j n _ _ h with h | h
    · rw [Nat.testBit_or, Bool.or_eq_true] at h
      rcases h with h | h
      · exact .inl h
      · right
        have : j = i := by
          rw [Nat.one_shiftLeft, Nat.testBit_two_pow] at h
          simpa using (of_decide_eq_true h).symm
        subst this
        exact List.mem_append_left _ (mem_run mask j)
    · right
      exact List.mem_append_right _ (by simpa [leap] using h)

def okM (mask : Nat) : Prop := mask = 7 ∨ mask = 31 ∨ mask = 127

theorem orb_all {mask : Nat} (ok : okM mask) : ∀ i, i < mask + 1 → orb mask (mask + 1) i 0 = 2 ^ (mask + 1) - 1 := by
  rcases ok with rfl | rfl | rfl <;> decide +kernel

theorem line_zero {mask i j : Nat} (ok : okM mask) (hi : i < mask + 1) (hj : j < mask + 1) : j ∈ line mask (mask + 1) i 0 := by
  rcases orb_mem mask j (mask + 1) i 0 (by rw [orb_all ok i hi, Nat.testBit_two_pow_sub_one]; simpa using hj) with h | h
  · simp at h
  · exact h

theorem line_skip {mask n j : Nat} (hz : ∀ i, i < mask + 1 → j ∈ line mask n i 0) : ∀ k i p, i < mask + 1 → p < 32 ^ k → j ∈ line mask (k + n) i p
  | 0, i, p, hi, hp => by
    have : p = 0 := by simpa using hp
    subst this
    rw [Nat.zero_add]; exact hz i hi
  | k + 1, i, p, hi, hp => by
    rw [Nat.add_right_comm]
    refine List.mem_append_right _ (line_skip hz k _ _ (Nat.mod_lt _ (Nat.succ_pos _)) ?_)
    show p / 32 < 32 ^ k
    rw [Nat.div_lt_iff_lt_mul (by decide)]
    rwa [Nat.pow_succ] at hp

theorem bits_lt (h : Int) : bits h < 2 ^ 64 := by
  unfold bits
  have h1 : h % (2 ^ 64 : Int) < 2 ^ 64 := Int.emod_lt_of_pos _ (by decide)
  have h2 : 0 ≤ h % (2 ^ 64 : Int) := Int.emod_nonneg _ (by decide)
  omega

theorem way_all {mask j : Nat} {h : Int} (ok : okM mask) (hj : j ≤ mask) : j ∈ way mask h := by
  unfold way
  rw [show mask + 14 = 13 + (mask + 1) by omega]
  exact line_skip (fun i hi => line_zero ok hi (by omega)) 13 _ _ (Nat.mod_lt _ (Nat.succ_pos _)) (Nat.lt_of_lt_of_le (bits_lt h) (by decide))

theorem line_le {mask x : Nat} : ∀ n i p, i ≤ mask → x ∈ line mask n i p → x ≤ mask
  | 0, _, _, _, h => by simp [line] at h
  | n + 1, i, p, hi, h => by
    rcases List.mem_append.mp h with h | h
    · obtain ⟨k, hk, rfl⟩ := List.mem_map.mp h
      have hk := List.mem_range.mp hk
      unfold runEnd at hk
      split at hk <;> omega
    · exact line_le n _ _ (Nat.le_of_lt_succ (Nat.mod_lt _ (Nat.succ_pos _))) h

theorem way_le {mask x : Nat} {h : Int} (hx : x ∈ way mask h) : x ≤ mask := line_le _ _ _ (Nat.le_of_lt_succ (Nat.mod_lt _ (Nat.succ_pos _))) hx

/-- the search by halves -/
theorem below_go {xs : Array Nat} {j : Nat} (ris : xs.toList.Pairwise (· < ·)) : ∀ fuel lo hi, hi - lo ≤ fuel → lo ≤ hi → hi ≤ xs.size →
    (∀ m (h : m < xs.size), m < lo → xs[m] < j) → (∀ m (h : m < xs.size), hi ≤ m → ¬ xs[m] < j) →
    below.go xs j fuel lo hi ≤ xs.size ∧ ∀ m (h : m < xs.size), m < below.go xs j fuel lo hi ↔ xs[m] < j := by
  intro fuel
  have mono : ∀ a b (ha : a < xs.size) (hb : b < xs.size), a < b → xs[a] < xs[b] := fun a b ha hb hab => by
    have := List.pairwise_iff_getElem.mp ris a b (by simpa using ha) (by simpa using hb) hab
    simpa using this
  induction fuel with
  | zero =>
    intro lo hi hf hl hs h1 h2
    have : lo = hi := by omega
    subst this
    refine ⟨hs, fun m h => ⟨h1 m h, fun hm => ?_⟩⟩
    rcases Nat.lt_or_ge m lo with hh | hh
    · exact hh
    · exact absurd hm (h2 m h hh)
  | succ fuel ih =>
    intro lo hi hf hl hs h1 h2
    simp only [below.go]
    by_cases hlt : lo < hi
    · rw [if_pos hlt]
      have hm : (lo + hi) / 2 < xs.size := by omega
      have hg : xs.getD ((lo + hi) / 2) j = xs[(lo + hi) / 2] := by simp [Array.getD, hm]
      rw [hg]
      by_cases hc : xs[(lo + hi) / 2] < j
      · rw [if_pos hc]
        refine ih _ _ (by omega) (by omega) hs (fun m h hm' => ?_) h2
        rcases Nat.lt_or_ge m ((lo + hi) / 2) with hh | hh
        · exact Nat.lt_trans (mono m _ h hm hh) hc
        · have : m = (lo + hi) / 2 := by omega
          subst this; exact hc
      · rw [if_neg hc]
        refine ih _ _ (by omega) (by omega) (by omega) h1 (fun m h hm' => ?_)
        rcases Nat.lt_or_ge ((lo + hi) / 2) m with hh | hh
        · exact fun hx => hc (Nat.lt_trans (mono _ m hm h hh) hx)
        · have : m = (lo + hi) / 2 := by omega
          subst this; exact hc
    · rw [if_neg hlt]
      have : lo = hi := by omega
      subst this
      refine ⟨hs, fun m h => ⟨h1 m h, fun hm => ?_⟩⟩
      rcases Nat.lt_or_ge m lo with hh | hh
      · exact hh
      · exact absurd hm (h2 m h hh)

theorem below_ok {xs : Array Nat} (j : Nat) (ris : xs.toList.Pairwise (· < ·)) :
    below xs j ≤ xs.size ∧ ∀ m (h : m < xs.size), m < below xs j ↔ xs[m] < j :=
  below_go ris _ _ _ (by omega) (by omega) (Nat.le_refl _) (fun m _ h => by omega) (fun m h h' => by omega)

theorem below_at {xs : Array Nat} (ris : xs.toList.Pairwise (· < ·)) (i : Nat) (hi : i < xs.size) : below xs xs[i] = i := by
  obtain ⟨h1, h2⟩ := below_ok xs[i] ris
  have mono : ∀ a b (ha : a < xs.size) (hb : b < xs.size), a < b → xs[a] < xs[b] := fun a b ha hb hab => by
    have := List.pairwise_iff_getElem.mp ris a b (by simpa using ha) (by simpa using hb) hab
    simpa using this
  rcases Nat.lt_trichotomy (below xs xs[i]) i with h | h | h
  · have := (h2 (below xs xs[i]) (by omega)).mpr (mono _ _ (by omega) hi h)
    omega
  · exact h
  · have := (h2 i hi).mp h
    omega

theorem has_nil (j : Nat) : has #[] j = false := by
  unfold has; simp

theorem slot_live {t : SetTable} (ris : t.place.toList.Pairwise (· < ·)) (i : Nat) (hi : i < t.place.size) : t.slot t.place[i] = .live i := by
  unfold slot
  simp only [below_at ris i hi]
  simp [hi]

theorem slot_of {t : SetTable} (ris : t.place.toList.Pairwise (· < ·)) (nd : t.dummies = #[]) (j : Nat) :
    (t.slot j = .empty ∧ j ∉ t.place.toList) ∨ ∃ i, ∃ hi : i < t.place.size, t.slot j = .live i ∧ t.place[i] = j := by
  by_cases hj : j ∈ t.place.toList
  · right
    obtain ⟨i, hi, e⟩ := List.getElem_of_mem hj
    have hi' : i < t.place.size := by simpa using hi
    have e' : t.place[i] = j := by simpa using e
    exact ⟨i, hi', by rw [← e']; exact slot_live ris i hi', e'⟩
  · left
    refine ⟨?_, hj⟩
    unfold slot
    have hne : (t.place[below t.place j]? == some j) = false := by
      rw [beq_eq_false_iff_ne]
      intro e
      obtain ⟨hb, e⟩ := Array.getElem?_eq_some_iff.mp e
      exact hj (by rw [← e]; simp)
    simp only [hne, nd, has_nil]
    simp
end ST

set_option Elab.async false
set_option linter.all false
set_option maxRecDepth 100000
/-! a set's table, and how it grows -/
namespace ST
open PySem PySem.SetTable

structure Tab (t : SetTable) (es : Array (Int × Value)) (ps : List (Nat × (Int × Value))) : Prop where
  pl : t.place.toList = ps.map (·.1)
  en : es.toList = ps.map (·.2)
  ris : (ps.map (·.1)).Pairwise (· < ·)
  top : ∀ q ∈ ps, q.1 ≤ t.mask
  dum : t.dummies = #[]
  ok : okM t.mask
  reach : ∀ q ∈ ps, ∃ pre post, way t.mask q.2.1 = pre ++ q.1 :: post ∧ ∀ x ∈ pre, x ∈ ps.map (·.1)

def Room (mask n : Nat) : Prop := (mask = 7 ∧ n ≤ 4) ∨ (mask = 31 ∧ n ≤ 18) ∨ (mask = 127 ∧ n ≤ 76)

namespace Tab
variable {t : SetTable} {es : Array (Int × Value)} {ps : List (Nat × (Int × Value))}

theorem psz (T : Tab t es ps) : t.place.size = ps.length := by rw [← Array.length_toList, T.pl, List.length_map]
theorem esz (T : Tab t es ps) : es.size = ps.length := by rw [← Array.length_toList, T.en, List.length_map]
theorem ris' (T : Tab t es ps) : t.place.toList.Pairwise (· < ·) := by rw [T.pl]; exact T.ris
theorem fits (T : Tab t es ps) (r : ps.length ≤ t.mask) : t.fits es.size = true := by
  simp only [SetTable.fits, SetTable.fill, T.dum, T.psz, T.esz]
  simpa using r

/-- one more -/
theorem put (T : Tab t es ps) {j : Nat} {e : Int × Value} (hj : j ≤ t.mask) (hn : j ∉ ps.map (·.1))
    (hr : ∃ pre post, way t.mask e.1 = pre ++ j :: post ∧ ∀ x ∈ pre, x ∈ ps.map (·.1)) :
    Tab (t.put j).1 (insertAt es (t.put j).2 e) (ps.take (t.put j).2 ++ (j, e) :: ps.drop (t.put j).2) := by
  have hmem : ∀ x, x ∈ ps.map (·.1) → x ∈ (ps.take (t.put j).2 ++ (j, e) :: ps.drop (t.put j).2).map (·.1) := fun x hx => by
    obtain ⟨q, hq, rfl⟩ := List.mem_map.mp hx
    refine List.mem_map.mpr ⟨q, ?_, rfl⟩
    rw [← List.take_append_drop (t.put j).2 ps] at hq
    rcases List.mem_append.mp hq with h | h
    · exact List.mem_append_left _ h
    · exact List.mem_append_right _ (List.mem_cons_of_mem _ h)
  have hmem' : ∀ q, q ∈ ps.take (t.put j).2 ++ (j, e) :: ps.drop (t.put j).2 → q = (j, e) ∨ q ∈ ps := fun q hq => by
    rcases List.mem_append.mp hq with h | h
    · exact .inr (List.mem_of_mem_take h)
    · rcases List.mem_cons.mp h with h | h
      · exact .inl h
      · exact .inr (List.mem_of_mem_drop h)
  have hb := below_ok j T.ris'
  have hp : (t.put j).2 = below t.place j := rfl
  have hm : (t.put j).1.mask = t.mask := rfl
  have hg : ∀ m (h : m < (ps.map (·.1)).length), (ps.map (·.1))[m] = t.place[m]'(by rw [T.psz]; simpa using h) := fun m h => by
    have := T.pl
    simp only [← this]; simp
  refine ⟨?_, ?_, ?_, ?_, ?_, ?_, ?_⟩
  · show (insertAt t.place (below t.place j) j).toList = _
    rw [toList_insertAt, T.pl, List.map_append, List.map_cons, List.map_take, List.map_drop, hp]
  · rw [toList_insertAt, T.en, List.map_append, List.map_cons, List.map_take, List.map_drop]
  · rw [List.map_append, List.map_cons, List.map_take, List.map_drop, hp]
    rw [List.pairwise_append, List.pairwise_cons]
    have low : ∀ a ∈ (ps.map (·.1)).take (below t.place j), a < j := fun a ha => by
      obtain ⟨m, hm, rfl⟩ := List.getElem_of_mem ha
      rw [List.length_take] at hm
      rw [List.getElem_take, hg]
      exact (hb.2 m _).mp (by omega)
    have high : ∀ a ∈ (ps.map (·.1)).drop (below t.place j), j < a := fun a ha => by
      have hin := List.mem_of_mem_drop ha
      obtain ⟨m, hm, rfl⟩ := List.getElem_of_mem ha
      rw [List.length_drop] at hm
      rw [List.getElem_drop] at hin ⊢
      have h1 : ¬ (ps.map (·.1))[below t.place j + m] < j := by
        rw [hg]
        exact fun h => by have := (hb.2 _ _).mpr h; omega
      have h2 : (ps.map (·.1))[below t.place j + m] ≠ j := fun h => hn (h ▸ hin)
      omega
    refine ⟨T.ris.sublist (List.take_sublist _ _), ⟨high, T.ris.sublist (List.drop_sublist _ _)⟩, fun a ha b hb' => ?_⟩
    rcases List.mem_cons.mp hb' with rfl | hb'
    · exact low a ha
    · exact Nat.lt_trans (low a ha) (high b hb')
  · intro q hq
    rcases hmem' q hq with rfl | h
    · exact hj
    · exact T.top q h
  · show (if has t.dummies j = true then _ else t.dummies) = #[]
    rw [T.dum, has_nil]; rfl
  · exact T.ok
  · intro q hq
    rcases hmem' q hq with rfl | h
    · obtain ⟨pre, post, e1, h1⟩ := hr
      exact ⟨pre, post, e1, fun x hx => hmem x (h1 x hx)⟩
    · obtain ⟨pre, post, e1, h1⟩ := T.reach q h
      exact ⟨pre, post, e1, fun x hx => hmem x (h1 x hx)⟩

end Tab

theorem line_succ (mask : Nat) : ∀ n i p, ∃ r, line mask (n + 1) i p = line mask n i p ++ r
  | 0, i, p => ⟨line mask 1 i p, rfl⟩
  | n + 1, i, p => by
    obtain ⟨r, e⟩ := line_succ mask n (leap mask i p).1 (leap mask i p).2
    refine ⟨r, ?_⟩
    show _ ++ line mask (n + 1) _ _ = (_ ++ line mask n _ _) ++ r
    rw [e, List.append_assoc]

theorem free_eq (mask : Nat) (owner : Array (Option Nat)) : ∀ fuel i p, layClean.free mask owner fuel i p = (line mask fuel i p).find? (fun j => (owner.getD j (some 0)).isNone)
  | 0, i, p => rfl
  | fuel + 1, i, p => by
    simp only [layClean.free, line, List.find?_append, List.find?_map]
    have e : (fun k => (owner.getD (i + k) (some 0)).isNone) = ((fun j => (owner.getD j (some 0)).isNone) ∘ fun x => i + x) := rfl
    rw [e]
    cases hf : List.find? ((fun j => (owner.getD j (some 0)).isNone) ∘ fun x => i + x) (List.range (runEnd mask i + 1 - i)) with
    | some k => rfl
    | none =>
      simp only [Option.map_none, Option.none_or]
      exact free_eq mask owner fuel _ _

theorem set_perm : ∀ (l : List (Option Nat)) (j k : Nat), l[j]? = some none → List.Perm ((l.set j (some k)).filterMap id) (k :: l.filterMap id)
  | [], j, k, h => by simp at h
  | a :: l, 0, k, h => by
    simp only [List.getElem?_cons_zero, Option.some.injEq] at h
    subst h
    simp
  | a :: l, j + 1, k, h => by
    simp only [List.getElem?_cons_succ] at h
    have ih := set_perm l j k h
    cases a with
    | none => simpa using ih
    | some b =>
      simp only [List.set_cons_succ, List.filterMap_cons, id]
      exact (List.Perm.cons b ih).trans (List.Perm.swap k b _)

theorem all_some : ∀ l : List (Option Nat), (∀ x ∈ l, x.isSome = true) → (l.filterMap id).length = l.length
  | [], _ => rfl
  | none :: l, h => by have := h none List.mem_cons_self; simp at this
  | some a :: l, h => by
    simp only [List.filterMap_cons, id, List.length_cons]
    rw [all_some l fun x hx => h x (List.mem_cons_of_mem _ hx)]

structure Own (mask : Nat) (hs : List Int) (owner : Array (Option Nat)) : Prop where
  sz : owner.size = mask + 1
  pm : List.Perm (owner.toList.filterMap id) (List.range hs.length)
  rc : ∀ j k, owner[j]? = some (some k) → ∃ h, hs[k]? = some h ∧ ∃ pre post, way mask h = pre ++ j :: post ∧ ∀ x ∈ pre, ∃ k', owner[x]? = some (some k')

theorem Own.step {mask : Nat} {hs : List Int} {owner : Array (Option Nat)} (O : Own mask hs owner) (ok : okM mask) (hl : hs.length < mask + 1) (h : Int) :
    ∃ j, layClean.free mask owner (turns mask) (bits h % (mask + 1)) (bits h) = some j ∧ Own mask (hs ++ [h]) (owner.setIfInBounds j (some hs.length)) := by
  have hex : ∃ j, j < mask + 1 ∧ owner[j]? = some none := by
    apply Classical.byContradiction
    intro hc
    have hall : ∀ x ∈ owner.toList, x.isSome = true := fun x hx => by
      obtain ⟨m, hm, rfl⟩ := List.getElem_of_mem hx
      have hm' : m < owner.size := by simpa using hm
      cases hx : owner[m] with
      | some v => simp [hx]
      | none => exact absurd ⟨m, by rw [← O.sz]; exact hm', by rw [Array.getElem?_eq_getElem hm', hx]⟩ hc
    have h1 := all_some _ hall
    have h2 := O.pm.length_eq
    rw [List.length_range] at h2
    have h3 : owner.toList.length = mask + 1 := by simpa using O.sz
    have h4 := h1.symm.trans h2
    rw [h3] at h4
    omega
  obtain ⟨j0, hj0, e0⟩ := hex
  have hgd : ∀ x, x < mask + 1 → owner.getD x (some 0) = owner[x]?.getD (some 0) := fun x hx => by
    rw [Array.getD_eq_getD_getElem?]
  have hsome : ((way mask h).find? (fun j => (owner.getD j (some 0)).isNone)).isSome = true := by
    rw [List.find?_isSome]
    exact ⟨j0, way_all ok (by omega), by rw [hgd j0 hj0, e0]; rfl⟩
  obtain ⟨j, hj⟩ := Option.isSome_iff_exists.mp hsome
  have hfree : layClean.free mask owner (turns mask) (bits h % (mask + 1)) (bits h) = some j := by
    rw [free_eq]
    obtain ⟨r, e⟩ := line_succ mask (mask + 14) (bits h % (mask + 1)) (bits h)
    show (line mask (mask + 14 + 1) _ _).find? _ = _
    rw [e, List.find?_append]
    show Option.or ((way mask h).find? _) _ = _
    rw [hj]; rfl
  obtain ⟨hjn, pre, post, ew, hpre⟩ := List.find?_eq_some_iff_append.mp hj
  have hjm : j < mask + 1 := Nat.lt_succ_of_le (way_le (h := h) (by rw [ew]; simp))
  have hjo : owner[j]? = some none := by
    have hjs : j < owner.size := by rw [O.sz]; exact hjm
    have := hjn
    rw [hgd j hjm, Array.getElem?_eq_getElem hjs] at this
    rw [Array.getElem?_eq_getElem hjs]
    simpa using this
  have hjs : j < owner.size := by rw [O.sz]; exact hjm
  have hset : ∀ x, (owner.setIfInBounds j (some hs.length))[x]? = if j = x then some (some hs.length) else owner[x]? := fun x => by
    rw [Array.getElem?_setIfInBounds]
    split
    · rename_i e; subst e; simp [hjs]
    · rfl
  have hkeep : ∀ (x k' : Nat), owner[x]? = some (some k') → ∃ k'', (owner.setIfInBounds j (some hs.length))[x]? = some (some k'') := fun x k' e => by
    rw [hset]
    split
    · exact ⟨_, rfl⟩
    · exact ⟨k', e⟩
  refine ⟨j, hfree, ⟨by simpa using O.sz, ?_, ?_⟩⟩
  · rw [Array.toList_setIfInBounds]
    refine (set_perm _ _ _ (by simpa using hjo)).trans ?_
    rw [List.length_append, List.length_singleton, List.range_succ]
    exact (List.Perm.cons _ O.pm).trans (List.perm_append_singleton _ _).symm
  · intro j' k' e
    rw [hset] at e
    split at e
    · rename_i ej
      subst ej
      obtain rfl : hs.length = k' := by simpa using e
      refine ⟨h, by simp, pre, post, ew, fun x hx => ?_⟩
      have hx1 := hpre x hx
      have hxm : x < mask + 1 := Nat.lt_succ_of_le (way_le (h := h) (by rw [ew]; exact List.mem_append_left _ hx))
      have hxs : x < owner.size := by rw [O.sz]; exact hxm
      rw [hgd x hxm, Array.getElem?_eq_getElem hxs] at hx1
      cases ho : owner[x] with
      | none => simp [ho] at hx1
      | some v => exact hkeep x v (by rw [Array.getElem?_eq_getElem hxs, ho])
    · obtain ⟨h', eh, pre', post', ew', hp'⟩ := O.rc j' k' e
      refine ⟨h', ?_, pre', post', ew', fun x hx => ?_⟩
      · rw [List.getElem?_append_left (by
          rcases Nat.lt_or_ge k' hs.length with hh | hh
          · exact hh
          · rw [List.getElem?_eq_none hh] at eh; simp at eh)]
        exact eh
      · obtain ⟨v, hv⟩ := hp' x hx
        exact hkeep x v hv

theorem own_fold {mask : Nat} (ok : okM mask) : ∀ (l hs : List Int) (owner : Array (Option Nat)), Own mask hs owner → hs.length + l.length ≤ mask + 1 →
    ∃ owner', l.foldl (init := some (owner, hs.length)) (fun acc h => do
      let (owner, k) ← acc
      let j ← layClean.free mask owner (turns mask) (bits h % (mask + 1)) (bits h)
      pure (owner.setIfInBounds j (some k), k + 1)) = some (owner', (hs ++ l).length) ∧ Own mask (hs ++ l) owner'
  | [], hs, owner, O, _ => ⟨owner, by simp, by simpa using O⟩
  | h :: l, hs, owner, O, hl => by
    simp only [List.length_cons] at hl
    obtain ⟨j, hj, O'⟩ := O.step ok (by omega) h
    obtain ⟨owner', e, O''⟩ := own_fold ok l (hs ++ [h]) _ O' (by simp; omega)
    refine ⟨owner', ?_, by simpa using O''⟩
    rw [List.foldl_cons]
    simp only [Option.bind_eq_bind, Option.bind_some, hj, Option.pure_def] at e ⊢
    rw [List.append_assoc] at e
    simp only [List.length_append, List.length_singleton, List.singleton_append] at e ⊢
    exact e

theorem layClean_ok {mask : Nat} (ok : okM mask) (hashes : Array Int) (hl : hashes.size ≤ mask + 1) :
    ∃ owner, layClean mask hashes = some owner ∧ Own mask hashes.toList owner := by
  have O : Own mask [] (Array.replicate (mask + 1) none) := ⟨by simp, by simp, fun j k e => by
    rw [Array.getElem?_replicate] at e
    split at e <;> simp at e⟩
  obtain ⟨owner, e, O'⟩ := own_fold ok hashes.toList [] _ O (by simpa using hl)
  refine ⟨owner, ?_, by simpa using O'⟩
  unfold layClean
  rw [← Array.foldl_toList]
  simp only [List.length_nil] at e
  rw [e]; rfl

theorem live_fst (f : Nat → Option Nat) : ∀ l : List Nat, (l.filterMap fun j => (f j).map (j, ·)).map (·.1) = l.filter fun j => (f j).isSome
  | [] => rfl
  | a :: l => by
    have ih := live_fst f l
    cases h : f a <;> simp [h] at ih ⊢ <;> exact ih

theorem live_snd (f : Nat → Option Nat) : ∀ l : List Nat, (l.filterMap fun j => (f j).map (j, ·)).map (·.2) = l.filterMap f
  | [] => rfl
  | a :: l => by
    have ih := live_snd f l
    cases h : f a <;> simp [h] at ih ⊢ <;> exact ih

theorem fm_congr {α β : Type} {f g : α → Option β} : ∀ l : List α, (∀ x ∈ l, f x = g x) → l.filterMap f = l.filterMap g
  | [], _ => rfl
  | a :: l, h => by
    rw [List.filterMap_cons, List.filterMap_cons, h a List.mem_cons_self, fm_congr l fun x hx => h x (List.mem_cons_of_mem _ hx)]

theorem range_getD (o : Array (Option Nat)) : (List.range o.size).filterMap (fun j => o.getD j none) = o.toList.filterMap id := by
  have e := filterMap_getElem?_range o
  rw [← e, List.filterMap_filterMap]
  refine fm_congr _ fun x hx => ?_
  have hx := List.mem_range.mp hx
  simp [Array.getD, hx]

theorem laid_ok {mask finger moves : Nat} {led plain : Bool} (ok : okM mask) (es : Array (Int × Value)) (hl : es.size ≤ mask + 1) :
    ∃ t order ps, laid mask finger moves led plain (es.map (·.1)) = some (t, order) ∧ Tab t (order.filterMap (es[·]?)) ps ∧ t.mask = mask ∧ t.led = led ∧ t.plain = plain ∧
      List.Perm (order.filterMap (es[·]?)).toList es.toList := by
  obtain ⟨owner, e, O⟩ := layClean_ok ok (es.map (·.1)) (by simpa using hl)
  have hlen : ((es.map (·.1)).toList).length = es.size := by simp
  have hrc : ∀ j k, owner[j]? = some (some k) → ∃ q : k < es.size, ∃ pre post, way mask es[k].1 = pre ++ j :: post ∧ ∀ x ∈ pre, ∃ k', owner[x]? = some (some k') := fun j k ho => by
    obtain ⟨h, eh, r⟩ := O.rc j k ho
    have hk : k < es.size := by
      rcases Nat.lt_or_ge k es.size with hh | hh
      · exact hh
      · rw [List.getElem?_eq_none (by simpa using hh)] at eh; simp at eh
    refine ⟨hk, ?_⟩
    have : h = es[k].1 := by simpa [hk] using eh.symm
    rw [← this]; exact r
  let live := (List.range (mask + 1)).filterMap fun j => (owner.getD j none).map (j, ·)
  have hlive : ∀ q ∈ live, q.1 < mask + 1 ∧ owner[q.1]? = some (some q.2) := fun q hq => by
    obtain ⟨j, hj, e⟩ := List.mem_filterMap.mp hq
    have hj := List.mem_range.mp hj
    have hjs : j < owner.size := by rw [O.sz]; exact hj
    cases ho : owner[j] with
    | none => simp [Array.getD, hjs, ho] at e
    | some k =>
      have : q = (j, k) := by simpa [Array.getD, hjs, ho] using e.symm
      subst this
      exact ⟨hj, by rw [Array.getElem?_eq_getElem hjs, ho]⟩
  have hfst : live.map (·.1) = (List.range (mask + 1)).filter fun j => (owner.getD j none).isSome := live_fst _ _
  have hsnd : live.map (·.2) = owner.toList.filterMap id := by
    rw [← range_getD, O.sz]; exact live_snd _ _
  have hperm : List.Perm (live.map (·.2)) (List.range es.size) := by rw [hsnd, ← hlen]; exact O.pm
  have hpm : List.Perm ((live.map (·.2)).filterMap (es[·]?)) es.toList := by
    have := hperm.filterMap (es[·]?)
    rwa [filterMap_getElem?_range] at this
  let d : Int × Value := (0, .none)
  have hmapEq : (live.map (·.2)).filterMap (es[·]?) = live.map (fun q => es.getD q.2 d) := by
    rw [List.filterMap_map]
    have : ∀ (l : List (Nat × Nat)), (∀ q ∈ l, q.2 < es.size) → l.filterMap ((es[·]?) ∘ (·.2)) = l.map (fun q => es.getD q.2 d) := by
      intro l
      induction l with
      | nil => intro _; rfl
      | cons a l ih =>
        intro h
        have ha := h a List.mem_cons_self
        rw [List.filterMap_cons_some (b := es.getD a.2 d) (by simp [Array.getD, ha]), ih fun q hq => h q (List.mem_cons_of_mem _ hq)]
        rfl
    exact this live fun q hq => (hrc q.1 q.2 (hlive q hq).2).1
  refine ⟨_, _, live.map (fun q => (q.1, es.getD q.2 d)), by unfold laid; rw [e]; rfl, ?_, rfl, rfl, rfl, ?_⟩
  · have hin : ∀ x k, owner[x]? = some (some k) → x ∈ (live.map (fun q => (q.1, es.getD q.2 d))).map (·.1) := fun x k ho => by
      have hxs : x < owner.size := by
        rcases Nat.lt_or_ge x owner.size with hh | hh
        · exact hh
        · rw [Array.getElem?_eq_none hh] at ho; simp at ho
      rw [List.map_map]
      show x ∈ live.map (·.1)
      rw [hfst, List.mem_filter]
      refine ⟨List.mem_range.mpr (by rw [← O.sz]; exact hxs), ?_⟩
      rw [Array.getElem?_eq_getElem hxs] at ho
      simp [Array.getD, hxs, Option.some.inj ho]
    refine ⟨?_, ?_, ?_, ?_, rfl, ok, ?_⟩
    · show (live.map (·.1)) = _
      rw [List.map_map]; rfl
    · rw [Array.toList_filterMap]
      show (live.map (·.2)).filterMap _ = _
      rw [hmapEq, List.map_map]; rfl
    · rw [List.map_map]
      show (live.map (·.1)).Pairwise _
      rw [hfst]
      exact List.pairwise_lt_range.sublist List.filter_sublist
    · intro q hq
      obtain ⟨q', hq', rfl⟩ := List.mem_map.mp hq
      exact Nat.le_of_lt_succ (hlive q' hq').1
    · intro q hq
      obtain ⟨q', hq', rfl⟩ := List.mem_map.mp hq
      obtain ⟨hk, pre, post, ew, hp⟩ := hrc q'.1 q'.2 (hlive q' hq').2
      refine ⟨pre, post, ?_, fun x hx => ?_⟩
      · show way mask (es.getD q'.2 d).1 = _
        simp only [Array.getD, hk, dif_pos]; exact ew
      · obtain ⟨k', hk'⟩ := hp x hx
        exact hin x k' hk'
  · rw [Array.toList_filterMap]; exact hpm
end ST

set_option Elab.async false
set_option linter.all false
set_option maxRecDepth 100000
/-! a tuple is sought in a set, and put into it -/
namespace ST
open PySem PySem.SetTable

abbrev ik (prog : Program) (w : World) := intKind prog w

/-- what a set holds: tuples of whole numbers, by their addresses -/
structure Holds (prog : Program) (w : World) (h : Heap) (es : Array (Int × Value)) (ms : List (Addr × List Int)) : Prop where
  pm : List.Perm es.toList (ms.map fun m => (tupleKeyHash (ik prog w) m.2, Value.ref m.1))
  key : ∀ m ∈ ms, IsTupleKey (ik prog w) h m.2 m.1
  nd : (ms.map (·.2)).Nodup

theorem two_cuts {j k : Nat} : ∀ {pre pre' post post' : List Nat}, pre ++ j :: post = pre' ++ k :: post' → k ∈ pre ∨ j = k ∨ j ∈ pre'
  | [], [], _, _, e => by simp at e; exact .inr (.inl e.1)
  | [], a :: pre', _, _, e => by simp at e; exact .inr (.inr (by rw [e.1]; exact List.mem_cons_self))
  | a :: pre, [], _, _, e => by simp at e; exact .inl (by rw [e.1]; exact List.mem_cons_self)
  | a :: pre, b :: pre', _, _, e => by
    simp only [List.cons_append, List.cons.injEq] at e
    rcases two_cuts e.2 with h | h | h
    · exact .inl (List.mem_cons_of_mem _ h)
    · exact .inr (.inl h)
    · exact .inr (.inr (List.mem_cons_of_mem _ h))

section
variable {prog : Program} {w : World} {A : Around} {E : Value → Shared → Prop} {s : Shared}

theorem wp_ofAClass {ks : List Int} {b : Addr} {Q : Bool → Shared → Prop} (n : Nat) (hk : IsTupleKey (ik prog w) s.heap ks b) (h : Q false s) :
    wpAny (model prog w) A (ofAClassStatement (n + 1) (.ref b)) Q E s := by
  have hT := hk.typeIs
  obtain ⟨o, items, m, ho, _, hd, hi⟩ := hk
  unfold ofAClassStatement
  refine wpAny_bind (wpAny_typeOf hT ?_)
  dsimp only
  rw [if_pos (by decide)]
  refine wpAny_bind (wpAny_pure ?_)
  simp only [Bool.not_true, Bool.false_eq_true, if_false]
  refine wpAny_bind (wpAny_seqItems ho hd ?_)
  dsimp only
  refine wpAny_bind ?_
  rw [← Array.forIn_toList]
  refine wpAny_forIn_list _ (fun rest r s' => r.1 = none ∧ s' = s ∧ ∀ v ∈ rest, carriedByValue v = true) _ ?_ ?_ _ _ ⟨rfl, rfl, hi.byValue⟩
  · rintro v rest r s' ⟨hr, rfl, hall⟩
    have hv := hall v List.mem_cons_self
    have e : ofAClassStatement n v = pure false := by
      cases v with
      | ref a => simp [carriedByValue] at hv
      | _ => unfold ofAClassStatement; rfl
    rw [e]
    refine wpAny_bind (wpAny_pure ?_)
    simp only [Bool.false_eq_true, if_false]
    exact wpAny_pure ⟨rfl, rfl, fun u hu' => hall u (List.mem_cons_of_mem _ hu')⟩
  · rintro ⟨r1, r2⟩ s' ⟨hr, rfl, _⟩
    simp only at hr
    subst hr
    exact wpAny_pure h

theorem wp_couldBeSeen {ks : List Int} {b : Addr} {l : List Value} {Q : Bool → Shared → Prop} (hk : IsTupleKey (ik prog w) s.heap ks b)
    (hl : ∀ v ∈ l, ∃ c ks', v = .ref c ∧ IsTupleKey (ik prog w) s.heap ks' c) (h : Q false s) :
    wpAny (model prog w) A (searchCouldBeSeen (.ref b) l) Q E s := by
  unfold searchCouldBeSeen
  refine wpAny_bind ?_
  refine wpAny_forIn_list _ (fun rest r s' => r.1 = none ∧ s' = s ∧ ∀ v ∈ rest, ∃ c ks', v = .ref c ∧ IsTupleKey (ik prog w) s.heap ks' c) _ ?_ ?_ _ _ ⟨rfl, rfl, hl⟩
  · rintro v rest r s' ⟨hr, rfl, hall⟩
    obtain ⟨c, ks', rfl, hc⟩ := hall v List.mem_cons_self
    have htl : ∀ v ∈ rest, ∃ c ks', v = .ref c ∧ IsTupleKey (ik prog w) s'.heap ks' c := fun u hu' => hall u (List.mem_cons_of_mem _ hu')
    dsimp only
    refine wpAny_ite_split (fun _ => wpAny_pure ⟨rfl, rfl, htl⟩) (fun _ => ?_)
    refine wpAny_bind (wpAny_eqIsQuiet_tuple hk ?_)
    simp only [Bool.not_true, Bool.false_eq_true, if_false]
    refine wpAny_bind (wpAny_eqIsQuiet_tuple hc ?_)
    simp only [Bool.not_true, Bool.false_eq_true, if_false]
    refine wpAny_bind (wp_ofAClass 7 hk ?_)
    simp only [Bool.false_eq_true, if_false]
    refine wpAny_bind (wp_ofAClass 7 hc ?_)
    simp only [Bool.false_eq_true, if_false]
    exact wpAny_pure ⟨rfl, rfl, htl⟩
  · rintro ⟨r1, r2⟩ s' ⟨hr, rfl, _⟩
    simp only at hr
    subst hr
    exact wpAny_pure h

theorem wp_hashByValue {ks : List Int} {b : Addr} {Q : Bool → Shared → Prop} (n : Nat) (hk : IsTupleKey (ik prog w) s.heap ks b) (h : Q true s) :
    wpAny (model prog w) A (hashByValue (n + 1) (.ref b)) Q E s := by
  have hT := hk.typeIs
  obtain ⟨o, items, m, ho, _, hd, hi⟩ := hk
  unfold hashByValue
  refine wpAny_bind (wpAny_specialOf hT F.slot_tuple_hash.lookup ?_)
  dsimp only
  refine wpAny_bind (wpAny_seqItems ho hd ?_)
  simp only [Option.getD_some]
  refine wpAny_bind ?_
  rw [← Array.forIn_toList]
  refine wpAny_forIn_list _ (fun rest r s' => r.1 = none ∧ s' = s ∧ ∃ ks', ItemsAre (ik prog w) ks' rest) _ ?_ ?_ _ _ ⟨rfl, rfl, ks, hi⟩
  · rintro v rest r s' ⟨hr, rfl, ks', hall⟩
    cases hall with
    | @cons k _ ks'' _ h1 h2 =>
      obtain ⟨t, rfl⟩ := Value.isInt_shape h1
      have e : hashByValue n (.int k t) = pure true := by unfold hashByValue; rfl
      rw [e]
      refine wpAny_bind (wpAny_pure ?_)
      simp only [Bool.not_true, Bool.false_eq_true, if_false]
      exact wpAny_pure ⟨rfl, rfl, ks'', h2⟩
  · rintro ⟨r1, r2⟩ s' ⟨hr, rfl, _⟩
    simp only at hr
    subst hr
    exact wpAny_pure h

theorem wp_search {a b : Addr} {o : Obj} {es : Array (Int × Value)} {ep : Nat} {t : SetTable} {ps : List (Nat × (Int × Value))} {ms : List (Addr × List Int)} {ks : List Int} {Q : SetFound → Shared → Prop}
    (hu : A.units < cLine) (ho : s.heap.get? a = some o) (hd : o.data = .set es ep t) (T : Tab t es ps) (hlen : ps.length ≤ t.mask) (H : Holds prog w s.heap es ms)
    (hk : IsTupleKey (ik prog w) s.heap ks b)
    (hin : ks ∈ ms.map (·.2) → Q (.there none) s)
    (hout : ks ∉ ms.map (·.2) → ∀ j pre post, way t.mask (tupleKeyHash (ik prog w) ks) = pre ++ j :: post → (∀ x ∈ pre, x ∈ ps.map (·.1)) → j ∉ ps.map (·.1) → Q (.free j false) s) :
    ∀ (fuel N : Nat) (p : Probe) (stand : Option Probe) (done : List Nat), stand.getD (t.probeStart (tupleKeyHash (ik prog w) ks)) = p → p.dummy = none →
      way t.mask (tupleKeyHash (ik prog w) ks) = done ++ rem t.mask N p → (rem t.mask N p).length < fuel →
      (∀ x ∈ done, ∃ q ∈ ps, q.1 = x ∧ ∀ c, q.2.2 = .ref c → ¬ IsTupleKey (ik prog w) s.heap ks c) →
      wpAny (model prog w) A (setSearchFrom a (.ref b) (tupleKeyHash (ik prog w) ks) true fuel stand) Q E s := by
  have hf := T.fits hlen
  have hnd : ∀ j, t.slot j ≠ .dummy := fun j => by
    rcases slot_of T.ris' T.dum j with ⟨e, _⟩ | ⟨i, _, e, _⟩ <;> rw [e] <;> exact fun h => nomatch h
  have hmemb : ∀ q ∈ ps, ∃ m ∈ ms, q.2 = (tupleKeyHash (ik prog w) m.2, Value.ref m.1) := fun q hq => by
    have h1 : q.2 ∈ es.toList := by rw [T.en]; exact List.mem_map.mpr ⟨q, hq, rfl⟩
    obtain ⟨m, hm, e⟩ := List.mem_map.mp (H.pm.mem_iff.mp h1)
    exact ⟨m, hm, e.symm⟩
  have hemp : ∃ j, j ≤ t.mask ∧ t.slot j = .empty := by
    apply Classical.byContradiction
    intro hc
    have hsub : ∀ j, j ∈ List.range (t.mask + 1) → j ∈ ps.map (·.1) := fun j hj => by
      have hj := List.mem_range.mp hj
      rcases slot_of T.ris' T.dum j with ⟨e, _⟩ | ⟨i, hi, _, e⟩
      · exact absurd ⟨j, by omega, e⟩ hc
      · rw [← T.pl, ← e]; simp
    have := List.nodup_range.length_le_of_subset (l₂ := ps.map (·.1)) (fun j hj => hsub j hj)
    simp at this
    omega
  intro fuel
  induction fuel with
  | zero => intro N p stand done _ _ _ hl; omega
  | succ fuel ih =>
    intro N p stand done hst hpd hway hl hdone
    unfold setSearchFrom
    refine wpAny_bind (wpAny_setState_of ho hd hf ?_)
    dsimp only
    rw [if_neg (by rcases T.ok with e | e | e <;> simp [gaveWay, e])]
    obtain ⟨j0, hj0, e0⟩ := hemp
    have hj0w : j0 ∈ rem t.mask N p := by
      have h1 := way_all (h := tupleKeyHash (ik prog w) ks) T.ok hj0
      rw [hway] at h1
      rcases List.mem_append.mp h1 with h1 | h1
      · obtain ⟨q, hq, e, _⟩ := hdone _ h1
        rcases slot_of T.ris' T.dum j0 with ⟨_, hn⟩ | ⟨i, hi, e', _⟩
        · exact absurd (by rw [T.pl, ← e]; exact List.mem_map.mpr ⟨q, hq, rfl⟩) hn
        · rw [e0] at e'; exact nomatch e'
      · exact h1
    have hlen2 : (rem t.mask N p).length ≤ 10 * turns t.mask := by
      have h1 := line_length t.mask (t.mask + 14) (bits (tupleKeyHash (ik prog w) ks) % (t.mask + 1)) (bits (tupleKeyHash (ik prog w) ks))
      have h2 : (way t.mask (tupleKeyHash (ik prog w) ks)).length = done.length + (rem t.mask N p).length := by rw [hway, List.length_append]
      unfold way at h2
      unfold turns
      omega
    obtain ⟨pre, j, post, erem, hpre, hcase⟩ := go_spec (hashAt := fun i => (es[i]?.map (·.1)).getD 0) (h := tupleKeyHash (ik prog w) ks) hnd (10 * turns t.mask) N p hlen2 hpd ⟨j0, hj0w, e0⟩
    have hpre' : ∀ x ∈ pre, ∃ q ∈ ps, q.1 = x ∧ ∀ c, q.2.2 = .ref c → ¬ IsTupleKey (ik prog w) s.heap ks c := fun x hx => by
      obtain ⟨i, hs, hne⟩ := hpre x hx
      rcases slot_of T.ris' T.dum x with ⟨e, _⟩ | ⟨i', hi', e, e'⟩
      · rw [e] at hs; exact nomatch hs
      · rw [e] at hs
        obtain rfl : i' = i := by injection hs
        have hi2 : i' < ps.length := by rw [← T.psz]; exact hi'
        have hpe : ps[i'].1 = x := by
          rw [← e']
          have := T.pl
          have h3 : t.place.toList[i']? = (ps.map (·.1))[i']? := by rw [this]
          simpa [hi', hi2] using h3.symm
        refine ⟨ps[i'], List.getElem_mem hi2, hpe, fun c hc hkc => hne ?_⟩
        obtain ⟨m, hm, em⟩ := hmemb ps[i'] (List.getElem_mem hi2)
        rw [em] at hc
        obtain rfl : m.1 = c := by injection hc
        have hkm := (H.key m hm).inj hkc
        have h4 : es[i']? = some ps[i'].2 := by
          have : es.toList[i']? = (ps.map (·.2))[i']? := by rw [T.en]
          simpa [hi2] using this
        rw [h4, em, hkm]; rfl
    generalize hpr : t.probe _ (tupleKeyHash (ik prog w) ks) (stand.getD _) = pr
    rw [hst] at hpr
    rcases hcase with ⟨hs, hgo⟩ | ⟨i, N', p', hs, hh, hgo, erem', hpd'⟩
    · obtain rfl : pr = some (.empty j none) := hpr.symm.trans hgo
      have hjn : j ∉ ps.map (·.1) := by
        rcases slot_of T.ris' T.dum j with ⟨_, hn⟩ | ⟨i, hi, e', _⟩
        · rw [← T.pl]; exact hn
        · rw [hs] at e'; exact nomatch e'
      have hall : ∀ x ∈ done ++ pre, ∃ q ∈ ps, q.1 = x ∧ ∀ c, q.2.2 = .ref c → ¬ IsTupleKey (ik prog w) s.heap ks c := fun x hx => by
        rcases List.mem_append.mp hx with hx | hx
        · exact hdone x hx
        · exact hpre' x hx
      have ecut : way t.mask (tupleKeyHash (ik prog w) ks) = (done ++ pre) ++ j :: post := by rw [hway, erem, List.append_assoc]
      refine wpAny_pure (hout (fun hin' => ?_) j (done ++ pre) post ecut (fun x hx => ?_) hjn)
      · obtain ⟨m, hm, ek⟩ := List.mem_map.mp hin'
        have he : (tupleKeyHash (ik prog w) m.2, Value.ref m.1) ∈ es.toList := H.pm.mem_iff.mpr (List.mem_map.mpr ⟨m, hm, rfl⟩)
        rw [T.en] at he
        obtain ⟨q, hq, eq⟩ := List.mem_map.mp he
        obtain ⟨pre', post', ew, hp'⟩ := T.reach q hq
        have eq1 : q.2.1 = tupleKeyHash (ik prog w) ks := by rw [eq, ek]
        rw [eq1, ecut] at ew
        rcases two_cuts ew with h | h | h
        · obtain ⟨q', hq', e1, h1⟩ := hall _ h
          have : q' = q := by
            have hnd := T.ris.imp (fun h => Nat.ne_of_lt h)
            obtain ⟨i1, hi1, rfl⟩ := List.getElem_of_mem hq'
            obtain ⟨i2, hi2, rfl⟩ := List.getElem_of_mem hq
            have : i1 = i2 := by
              have h5 := List.pairwise_iff_getElem.mp T.ris
              rcases Nat.lt_trichotomy i1 i2 with h6 | h6 | h6
              · have := h5 i1 i2 (by simpa using hi1) (by simpa using hi2) h6
                simp only [List.getElem_map] at this; omega
              · exact h6
              · have := h5 i2 i1 (by simpa using hi2) (by simpa using hi1) h6
                simp only [List.getElem_map] at this; omega
            subst this; rfl
          subst this
          exact h1 m.1 (by rw [eq]) (ek ▸ H.key m hm)
        · exact hjn (h ▸ List.mem_map.mpr ⟨q, hq, rfl⟩)
        · exact hjn (hp' j h)
      · obtain ⟨q, hq, e, _⟩ := hall x hx
        exact List.mem_map.mpr ⟨q, hq, e⟩
    · obtain rfl : pr = some (.candidate j i p') := hpr.symm.trans hgo
      dsimp only
      -- the entry
      obtain ⟨i', hi', es1, ej⟩ : ∃ i', ∃ hi : i' < t.place.size, t.slot j = .live i' ∧ t.place[i'] = j := by
        rcases slot_of T.ris' T.dum j with ⟨e, _⟩ | r
        · rw [e] at hs; exact nomatch hs
        · exact r
      rw [hs] at es1
      obtain rfl : i = i' := by injection es1
      have hi2 : i < ps.length := by rw [← T.psz]; exact hi'
      have hpe : ps[i].1 = j := by
        rw [← ej]
        have h3 : t.place.toList[i]? = (ps.map (·.1))[i]? := by rw [T.pl]
        simpa [hi', hi2] using h3.symm
      have h4 : es[i]? = some ps[i].2 := by
        have : es.toList[i]? = (ps.map (·.2))[i]? := by rw [T.en]
        simpa [hi2] using this
      obtain ⟨m, hm, em⟩ := hmemb ps[i] (List.getElem_mem hi2)
      rw [em] at h4
      have hseen : ∀ v ∈ (es.filter (·.1 == tupleKeyHash (ik prog w) ks)).toList.map (·.2), ∃ c ks', v = .ref c ∧ IsTupleKey (ik prog w) s.heap ks' c := fun v hv => by
        obtain ⟨e, he, rfl⟩ := List.mem_map.mp hv
        have he2 : e ∈ es.toList := by
          have := Array.mem_toList_iff.mp he
          exact Array.mem_toList_iff.mpr (Array.mem_filter.mp this).1
        obtain ⟨m', hm', em'⟩ := List.mem_map.mp (H.pm.mem_iff.mp he2)
        exact ⟨m'.1, m'.2, by rw [← em'], H.key m' hm'⟩
      refine wpAny_ite_split (fun _ => wpAny_bind (wp_couldBeSeen hk hseen ?_)) (fun _ => ?_)
      all_goals try simp only [Bool.false_eq_true, if_false]
      all_goals rw [h4]
      all_goals dsimp only
      all_goals refine wpAny_bind (wpAny_holding (wpAny_eqBool_tuple hu (H.key m hm) hk ?_))
      all_goals refine wpAny_bind (wpAny_setState_of ho hd hf ?_)
      all_goals by_cases hkk : m.2 = ks
      all_goals try (
        rw [decide_eq_true hkk]
        simp only [Bool.and_self, if_true]
        exact wpAny_pure (hin (List.mem_map.mpr ⟨m, hm, hkk⟩)))
      all_goals rw [decide_eq_false hkk]
      all_goals simp only [Bool.and_false, Bool.false_eq_true, if_false, sameMemory, beq_self_eq_true, if_true]
      all_goals rw [hs]
      all_goals dsimp only
      all_goals rw [h4]
      all_goals dsimp only
      all_goals refine wpAny_bind (wpAny_isSame_ref_self ?_)
      all_goals simp only [if_true]
      all_goals refine wpAny_bind (wpAny_pure ?_)
      all_goals dsimp only
      all_goals (
        refine ih N' p' (some p') (done ++ pre ++ [j]) rfl hpd' (by rw [erem', hway, erem]; simp) ?_ ?_
        · rw [erem']
          have : (rem t.mask N p).length = pre.length + (post.length + 1) := by rw [erem]; simp
          omega
        · intro x hx
          rcases List.mem_append.mp hx with hx | hx
          · rcases List.mem_append.mp hx with hx | hx
            · exact hdone x hx
            · exact hpre' x hx
          · obtain rfl := List.mem_singleton.mp hx
            refine ⟨ps[i], List.getElem_mem hi2, hpe, fun c hc hkc => ?_⟩
            rw [em] at hc
            obtain rfl : m.1 = c := by injection hc
            exact hkk ((H.key m hm).inj hkc))
end
end ST

set_option Elab.async false
set_option linter.all false
set_option maxRecDepth 100000
/-! a tuple is put into a set -/
namespace ST
open PySem PySem.SetTable

def SetTup (prog : Program) (w : World) (h : Heap) (a : Addr) (ms : List (Addr × List Int)) : Prop :=
  ∃ o es ep t ps, h.get? a = some o ∧ o.ExactSet ∧ o.data = .set es ep t ∧ Tab t es ps ∧ Room t.mask ps.length ∧ Holds prog w h es ms ∧ t.plain = true ∧ t.led = !(w.params.followText "set-order")

theorem Room.le {mask n : Nat} (r : Room mask n) : n ≤ mask := by
  rcases r with ⟨e, h⟩ | ⟨e, h⟩ | ⟨e, h⟩ <;> omega

section
variable {prog : Program} {w : World} {A : Around} {E : Value → Shared → Prop} {s : Shared}

theorem key_keep {h h' : Heap} {a c : Addr} {ks : List Int} {o : Obj} {es : Array (Int × Value)} {ep : Nat} {t : SetTable} (x : IsTupleKey (ik prog w) h ks c) (ho : h.get? a = some o) (hd : o.data = .set es ep t)
    (hs : Heap.SameBut a h h') : IsTupleKey (ik prog w) h' ks c := by
  obtain ⟨o', items, n, ho', hc, hd', hi⟩ := x
  have hne : c ≠ a := by
    rintro rfl
    obtain rfl : o' = o := Option.some.inj (ho'.symm.trans ho)
    rw [hd] at hd'; exact nomatch hd'
  exact ⟨o', items, n, (hs.2 c hne).trans ho', hc, hd', hi⟩

theorem Holds.len {h : Heap} {es : Array (Int × Value)} {ms : List (Addr × List Int)} (H : Holds prog w h es ms) : es.size = ms.length := by
  rw [← Array.length_toList, H.pm.length_eq, List.length_map]

def addTo (ms : List (Addr × List Int)) (b : Addr) (ks : List Int) : List (Addr × List Int) := if ks ∈ ms.map (·.2) then ms else ms ++ [(b, ks)]

theorem wp_add {a b : Addr} {ks : List Int} {ms : List (Addr × List Int)} {Q : Bool → Shared → Prop} (hu : A.units < cLine) (hS : SetTup prog w s.heap a ms) (hk : IsTupleKey (ik prog w) s.heap ks b) (hroom : ms.length < 76)
    (h : ∀ h' r, Heap.SameBut a s.heap h' → SetTup prog w h' a (addTo ms b ks) → Q r { s with heap := h' }) :
    wpAny (model prog w) A (setAddHashed a (.ref b) (tupleKeyHash (ik prog w) ks)) Q E s := by
  obtain ⟨o, es, ep, t, ps, ho, hex, hd, T, R, H, hpl, hled⟩ := id hS
  have hf := T.fits R.le
  have hlen : ps.length = ms.length := by rw [← T.esz, H.len]
  unfold setAddHashed setAddHashedIn
  refine wpAny_holding (wpAny_bind (wpAny_setState_of ho hd hf ?_))
  dsimp only
  rw [if_neg (by simp [byScan, Value.scannable])]
  refine wpAny_bind ?_
  unfold setSearch
  refine wp_search hu ho hd T R.le H hk (fun hin => ?_) (fun hout j pre post ew hpre hj => ?_) 100000 (t.mask + 13) _ none [] rfl rfl (by rw [Option.getD_none, rem_way, List.nil_append]) ?_ (fun x hx => absurd hx List.not_mem_nil)
  · refine wpAny_pure ?_
    have e : s = { s with heap := s.heap } := by cases s; rfl
    rw [e]
    exact h s.heap false (Heap.SameBut.refl a s.heap) (by unfold addTo; rw [if_pos hin]; exact hS)
  · dsimp only
    refine wpAny_bind (wpAny_setState_of ho hd hf ?_)
    dsimp only
    have hj' : j ≤ t.mask := way_le (h := tupleKeyHash (ik prog w) ks) (by rw [ew]; simp)
    have T1 := T.put (e := (tupleKeyHash (ik prog w) ks, Value.ref b)) hj' hj ⟨pre, post, ew, hpre⟩
    have hpl1 : (t.put j).1.plain = true := hpl
    rw [if_pos hpl1]
    refine wpAny_bind (wp_hashByValue 7 hk ?_)
    simp only [if_true]
    have hn1 : ps.length + 1 ≤ (t.put j).1.mask := by
      show ps.length + 1 ≤ t.mask
      rcases R with ⟨e, h⟩ | ⟨e, h⟩ | ⟨e, h⟩ <;> omega
    generalize hps1 : ps.take (t.put j).2 ++ (j, (tupleKeyHash (ik prog w) ks, Value.ref b)) :: ps.drop (t.put j).2 = ps1 at T1
    generalize hes1 : insertAt es (t.put j).2 (tupleKeyHash (ik prog w) ks, Value.ref b) = es1 at T1 ⊢
    have hl1 : ps1.length = ps.length + 1 := by
      rw [← hps1]
      have := congrArg List.length (List.take_append_drop (t.put j).2 ps)
      simp only [List.length_append, List.length_cons] at this ⊢
      omega
    have hpm1 : List.Perm es1.toList (addTo ms b ks |>.map fun m => (tupleKeyHash (ik prog w) m.2, Value.ref m.1)) := by
      unfold addTo
      rw [if_neg hout, ← hes1, List.map_append]
      refine (SetTable.insertAt_perm _ _ _).trans ?_
      rw [Array.toList_push]
      exact H.pm.append_right _
    have hnd1 : ((addTo ms b ks).map (·.2)).Nodup := by
      unfold addTo
      rw [if_neg hout, List.map_append, List.nodup_append]
      refine ⟨H.nd, by simp, fun x hx y hy => ?_⟩
      obtain rfl : y = ks := by simpa using hy
      exact fun e => hout (e ▸ hx)
    have hkey1 : ∀ m ∈ addTo ms b ks, IsTupleKey (ik prog w) s.heap m.2 m.1 := by
      unfold addTo
      rw [if_neg hout]
      intro m hm
      rcases List.mem_append.mp hm with hm | hm
      · exact H.key m hm
      · obtain rfl := List.mem_singleton.mp hm; exact hk
    have hfin1 : (t.put j).1.fits es1.size = true := T1.fits (by rw [hl1]; exact hn1)
    have hes1z : es1.size ≤ sizeLine := by
      rw [T1.esz, hl1]
      have : sizeLine = 16777216 := sizeLine_eq
      have h0 : ps.length = ms.length := hlen
      omega
    refine wpAny_bind (wpAny_storeSet_of ho hd ?_ hes1z)
    have hsb1 := Heap.SameBut.update s.heap a (Obj.putSet es1 (t.put j).1)
    have hg1 : (s.heap.update a (Obj.putSet es1 (t.put j).1)).get? a = some { o with data := .set es1 (ep + 1) (t.put j).1 } := by
      have := Heap.get?_update_self (Obj.putSet es1 (t.put j).1) ho (by rw [putSet_of es1 (t.put j).1 hd]; rfl)
      rw [putSet_of es1 (t.put j).1 hd] at this; exact this
    have hfill : (t.put j).1.fill = ps.length + 1 := by
      show (t.put j).1.place.size + (t.put j).1.dummies.size = _
      rw [T1.psz, T1.dum, hl1]; rfl
    have hmask : (t.put j).1.mask = t.mask := rfl
    refine wpAny_ite_split (fun hfull => ?_) (fun hfull => ?_)
    · simp only [Bool.not_false, Bool.true_and, tooFull, hfill, hmask, ge_iff_le, decide_eq_true_eq] at hfull
      obtain ⟨mk, hmk, okm, hroom'⟩ : ∃ mk, sizeAbove (grown (es.size + 1)) = mk + 1 ∧ okM mk ∧ Room mk (ps.length + 1) := by
        rw [T.esz]
        rcases R with ⟨e, h⟩ | ⟨e, h⟩ | ⟨e, h⟩
        · have e4 : ps.length = 4 := by omega
          rw [e4]
          exact ⟨31, by decide, .inr (.inl rfl), .inr (.inl ⟨rfl, by decide⟩)⟩
        · have e4 : ps.length = 18 := by omega
          rw [e4]
          exact ⟨127, by decide, .inr (.inr rfl), .inr (.inr ⟨rfl, by decide⟩)⟩
        · omega
      refine wpAny_bind ?_
      unfold setRelay
      refine wpAny_bind (wpAny_setState_of hg1 rfl hfin1 ?_)
      dsimp only
      have hm128 : mk ≤ 127 := by rcases okm with e | e | e <;> omega
      rw [hmk, if_neg (by rw [sizeLine_eq]; omega)]
      obtain ⟨t2, order, ps2, el, T2, em2, el2, epl2, hpm2⟩ := laid_ok (finger := (t.put j).1.finger) (moves := (t.put j).1.movedTo mk) (led := (t.put j).1.led) (plain := (t.put j).1.plain) okm es1 (by rw [T1.esz, hl1]; have := hroom'.le; omega)
      have erl : (t.put j).1.relaid (es1.map (·.1)) (grown (es.size + 1)) = some (t2, order) := by
        unfold relaid
        rw [hmk, Nat.add_sub_cancel]; exact el
      rw [erl]
      generalize hes2 : order.filterMap (es1[·]?) = es2 at T2 hpm2
      have hsz2 : es2.size = es1.size := by rw [← Array.length_toList, hpm2.length_eq, Array.length_toList]
      have hl2 : ps2.length = ps.length + 1 := by rw [← T2.esz, hsz2, T1.esz, hl1]
      refine wpAny_bind ?_
      show wpAny (model prog w) A (if ((order.filterMap (es1[·]?)).size != es1.size) = true then _ else _) _ _ _
      rw [hes2, if_neg (by rw [hsz2]; simp)]
      refine wpAny_pure ?_
      dsimp only
      refine wpAny_storeSet_of (s := { s with heap := s.heap.update a (Obj.putSet es1 (t.put j).1) }) hg1 rfl ?_ (by rw [hsz2]; exact hes1z)
      have hsb2 := hsb1.trans (Heap.SameBut.update (s.heap.update a (Obj.putSet es1 (t.put j).1)) a (Obj.putSet es2 t2))
      have hg2 : ((s.heap.update a (Obj.putSet es1 (t.put j).1)).update a (Obj.putSet es2 t2)).get? a = some { o with data := .set es2 (ep + 1 + 1) t2 } := by
        have := Heap.get?_update_self (Obj.putSet es2 t2) hg1 (by rw [putSet_of es2 t2 rfl]; rfl)
        rw [putSet_of es2 t2 rfl] at this; exact this
      refine wpAny_pure (h _ true hsb2 ⟨_, es2, ep + 1 + 1, t2, ps2, hg2, hex, rfl, T2, by rw [em2, hl2]; exact hroom', ⟨hpm2.trans hpm1, fun m hm => key_keep (hkey1 m hm) ho hd hsb2, hnd1⟩, by rw [epl2]; exact hpl, by rw [el2]; exact hled⟩)
    · refine wpAny_pure (h _ true hsb1 ⟨_, es1, ep + 1, (t.put j).1, ps1, hg1, hex, rfl, T1, ?_, ⟨hpm1, fun m hm => key_keep (hkey1 m hm) ho hd hsb1, hnd1⟩, hpl, hled⟩)
      rw [hl1, hmask]
      simp only [Bool.not_false, Bool.true_and, tooFull, hfill, hmask, ge_iff_le, decide_eq_true_eq] at hfull
      rcases R with ⟨e, h⟩ | ⟨e, h⟩ | ⟨e, h⟩
      · left; omega
      · right; left; omega
      · right; right; omega
  · rw [Option.getD_none, rem_way]
    unfold way
    have h1 := line_length t.mask (t.mask + 14) (bits (tupleKeyHash (ik prog w) ks) % (t.mask + 1)) (bits (tupleKeyHash (ik prog w) ks))
    rcases T.ok with e | e | e <;> rw [e] at h1 ⊢ <;> omega
end
end ST

set_option Elab.async false
set_option linter.all false
set_option maxRecDepth 100000
set_option maxHeartbeats 3200000
/-! a set of the tuples of a list -/
namespace ST
open PySem PySem.SetTable

def met (km : Nat → Addr × List Int) (i : Nat) : List (Addr × List Int) := ((List.range i).map km).foldl (fun ms m => addTo ms m.1 m.2) []

theorem met_succ (km : Nat → Addr × List Int) (i : Nat) : met km (i + 1) = addTo (met km i) (km i).1 (km i).2 := by
  unfold met; rw [List.range_succ, List.map_append, List.foldl_append]; rfl

theorem met_len (km : Nat → Addr × List Int) : ∀ i, (met km i).length ≤ i
  | 0 => by simp [met]
  | i + 1 => by
    have := met_len km i
    rw [met_succ]; unfold addTo
    split
    · omega
    · simp; omega

theorem met_of (km : Nat → Addr × List Int) : ∀ i m, m ∈ met km i → ∃ k, k < i ∧ m = km k
  | 0, m, h => by simp [met] at h
  | i + 1, m, h => by
    rw [met_succ] at h; unfold addTo at h
    split at h
    · obtain ⟨k, hk, e⟩ := met_of km i m h; exact ⟨k, by omega, e⟩
    · rcases List.mem_append.mp h with h | h
      · obtain ⟨k, hk, e⟩ := met_of km i m h; exact ⟨k, by omega, e⟩
      · exact ⟨i, by omega, by simpa using h⟩

theorem met_has (km : Nat → Addr × List Int) : ∀ i k, k < i → (km k).2 ∈ (met km i).map (·.2)
  | 0, k, h => by omega
  | i + 1, k, h => by
    rw [met_succ]; unfold addTo
    rcases Nat.lt_or_ge k i with hk | hk
    · have := met_has km i k hk
      split
      · exact this
      · rw [List.map_append]; exact List.mem_append_left _ this
    · have : k = i := by omega
      subst this
      split
      · assumption
      · simp

section
variable {prog : Program} {w : World} {A : Around} {E : Value → Shared → Prop} {s : Shared}

theorem SetTup.kept {h h' : Heap} {a : Addr} {ms : List (Addr × List Int)} (S : SetTup prog w h a ms) (ka : ∀ o, h.get? a = some o → h'.get? a = some o)
    (km : ∀ m ∈ ms, ∀ o, h.get? m.1 = some o → h'.get? m.1 = some o) : SetTup prog w h' a ms := by
  obtain ⟨o, es, ep, t, ps, ho, hex, hd, T, R, H, r⟩ := S
  refine ⟨o, es, ep, t, ps, ka o ho, hex, hd, T, R, ⟨H.pm, fun m hm => ?_, H.nd⟩, r⟩
  obtain ⟨o', items, n, ho', x⟩ := H.key m hm
  exact ⟨o', items, n, km m hm o' ho', x⟩

theorem loop_tup {R : Result → Shared → Prop} {I : Addr} {fp wr : List Addr} {G : Array GenState → Array GenState → Prop} {n : Nat} {P : Nat → Value → Prop} {St : Nat → Shared → Prop}
    (W : WalksS prog w A.in1 I fp wr G n P St) (S : Addr) (hSf : S ∉ fp) (km : Nat → Addr × List Int) (hval : ∀ i v, P i v → v = .ref (km i).1) (hnw : ∀ i, i < n → (km i).1 ∉ S :: wr) (hn : n ≤ 76) (hu : A.in1.units < cLine) :
    ∀ (k i : Nat) (s : Shared), n - i = k → i ≤ n → St i s → (∀ i, i < n → IsTupleKey (ik prog w) s.heap (km i).2 (km i).1) → SetTup prog w s.heap S (met km i) →
      (∀ s', Moved (S :: wr) G s s' → SetTup prog w s'.heap S (met km n) → R (.ok (.ret .none)) s') →
      codeAny (model prog w) A (.builtin "set.update.loop" ⟨[.ref S, .ref I], []⟩) R s := by
  have hSw : S ∉ wr := fun h => hSf (W.sub _ h)
  have hup : ∀ b ∈ wr, b ∈ S :: wr := fun b hb => List.mem_cons_of_mem _ hb
  have mv : ∀ {s s' : Shared} (i : Nat), i ≤ n → Moved wr G s s' → SetTup prog w s.heap S (met km i) → SetTup prog w s'.heap S (met km i) := fun i hi hm hS =>
    hS.kept (fun o e => hm.heap S o hSw e) fun m hmem o e => by
      obtain ⟨k, hk, rfl⟩ := met_of km i m hmem
      exact hm.heap _ o (fun hw => hnw k (by omega) (List.mem_cons_of_mem _ hw)) e
  intro k
  induction k with
  | zero =>
    intro i s hk hi hst hkey hS hR
    obtain rfl : i = n := by omega
    refine codeAny_builtin PyProof.Rows.F.entry_set_update_loop ?_
    rw [Around.under_plainId PyProof.Rows.F.plain_set_update_loop _]
    show wpAny _ A.in1 (pyNext (.ref I) >>= _) _ _ s
    refine wpAny_bind (W.done s _ _ hst fun s' hm => ?_)
    show wpAny _ A.in1 (ret Value.none) _ _ s'
    exact wpAny_pure (hR s' (hm.mono hup) (mv i (Nat.le_refl _) hm hS))
  | succ k ih =>
    intro i s hk hi hst hkey hS hR
    have hlt : i < n := by omega
    refine codeAny_builtin PyProof.Rows.F.entry_set_update_loop ?_
    rw [Around.under_plainId PyProof.Rows.F.plain_set_update_loop _]
    show wpAny _ A.in1 (pyNext (.ref I) >>= _) _ _ s
    refine wpAny_bind (W.item i s _ _ hlt hst fun v s1 hP hst1 hm => ?_)
    obtain rfl := hval i v hP
    have hS1 := mv i hi hm hS
    have hkey1 : ∀ i, i < n → IsTupleKey (ik prog w) s1.heap (km i).2 (km i).1 := fun i hi => by
      obtain ⟨o', items, m', ho', x⟩ := hkey i hi
      exact ⟨o', items, m', hm.heap _ o' (fun hw => hnw i hi (List.mem_cons_of_mem _ hw)) ho', x⟩
    show wpAny _ A.in1 (holding [Value.ref (km i).1] (setAdd S (.ref (km i).1)) >>= _) _ _ s1
    refine wpAny_bind (wpAny_holding ?_)
    unfold setAdd
    refine wpAny_holding (wpAny_bind (wpAny_pyHash_tuple hu (hkey1 i hlt) ?_))
    refine wp_add (s := { s1 with toks := s1.toks + ((km i).2.length + 1) }) hu hS1 (hkey1 i hlt) (Nat.lt_of_le_of_lt (met_len km i) (by omega)) fun h' r hsb hS2 => ?_
    rw [← met_succ] at hS2
    have hoff : ∀ b o, b ≠ S → s1.heap.get? b = some o → h'.get? b = some o := fun b o hb e => (hsb.2 b hb).trans e
    refine wpAny_pure ⟨plainId_quiet PyProof.Rows.F.plain_set_update_loop _, ih (i + 1) _ (by omega) hlt (W.frame _ s1 h' _ hst1 (Nat.le_add_right _ _) fun b hb o e => hoff b o (fun hh : b = S => hSf (hh ▸ hb)) e) (fun i hi => ?_) hS2 fun s2 hm2 hS3 => ?_⟩
    · obtain ⟨o', items, m', ho', x⟩ := hkey1 i hi
      exact ⟨o', items, m', hoff _ o' (fun hh => hnw i hi (hh ▸ List.mem_cons_self)) ho', x⟩
    · refine hR s2 (Moved.trans W.gtrans ((hm.mono hup).then_heap (Nat.le_add_right _ _) fun b o hb e => ?_) hm2) hS3
      exact hoff b o (fun hh => hb (hh ▸ List.mem_cons_self)) e

theorem code_new_set (a : Value) {Q1 : Value → Shared → Prop}
    (h : Q1 (.ref s.heap.objs.size) { s with heap := s.heap.push { cls := .type "set", dict := none, data := .set #[] 0 (.fresh 0 0 (!(w.params.followText "set-order"))) } }) :
    codeAny (model prog w) A (.call (.builtin "set.__new__") ⟨[.type "set", a], []⟩) (wants Q1 E) s := by
  refine codeAny_of_tree ?_
  show wpAny _ A.in1 (checkBuiltinCall "set.__new__" ⟨[.type "set", a], []⟩ >>= fun _ => again (.builtin "set.__new__" ⟨[.type "set", a], []⟩)) _ _ s
  refine wpAny_bind (wpAny_of_eq (F.newCall_set_1 a) (wpAny_pure ⟨plainId_quiet F.plain_set_new _, codeAny_builtin F.entry_set_new ?_⟩))
  rw [Around.under_plainId F.plain_set_new _]
  unfold Builtin.«set.__new__» Builtin.Frozenset.newClass
  have hsub := sub_set_self
  obtain ⟨hp, g, d, tk, os⟩ := s
  dsimp only
  wp_walk
  refine wpAny_askSetting (wpAny_pure ?_)
  dsimp only
  simp only [newObj]
  refine wpAny_bind (wpAny_alloc (wpAny_pure ?_))
  exact wpAny_pure h

theorem fresh_tup {h : Heap} {a : Addr} (ho : h.get? a = some { cls := .type "set", dict := none, data := .set #[] 0 (.fresh 0 0 (!(w.params.followText "set-order"))) }) : SetTup prog w h a [] :=
  ⟨_, #[], 0, _, [], ho, ⟨rfl, rfl, rfl⟩, rfl, ⟨rfl, rfl, .nil, fun q hq => absurd hq List.not_mem_nil, rfl, .inl rfl, fun q hq => absurd hq List.not_mem_nil⟩, .inl ⟨rfl, by decide⟩,
    ⟨.refl _, fun m hm => absurd hm List.not_mem_nil, .nil⟩, rfl, rfl⟩

/-- set(a list of tuples) -/
theorem call_set_tup {l : Addr} {items : Array Value} {km : Nat → Addr × List Int} {Q : Value → Shared → Prop}
    (hh : A.handled = none) (hu : A.units + 10 < cLine) (hl : s.heap.IsList l items) (hv : ∀ (i : Nat) (v : Value), items[i]? = some v → v = .ref (km i).1) (hkey : ∀ i, i < items.size → IsTupleKey (ik prog w) s.heap (km i).2 (km i).1) (hn : items.size ≤ 76)
    (h : ∀ (h' : Heap) (tk : Nat), SetTup prog w h' s.heap.objs.size (met km items.size) → (∀ b o, b < s.heap.objs.size → s.heap.get? b = some o → h'.get? b = some o) → Q (.ref s.heap.objs.size) { s with heap := h', toks := tk }) :
    wpAny (model prog w) A (call (.type "set") [.ref l]) Q E s := by
  obtain ⟨c, tl, hmro⟩ := F.called_set.mro
  have hmade := F.called_set.made
  have hsub := F.called_set.sub
  refine wpAny_call (codeAny_of_tree ?_)
  show wpAny _ _ (callAny (.type "set") _) _ _ _
  refine wpAny_pure ⟨Code.quiet_builtin _ (by decide +kernel), codeAny_builtin F.entry_type_call ?_⟩
  rw [Around.under_plain (weight_type_call_type "set" [.ref l] []) rfl]
  have h1 := F.called_set.notType
  have h2 := F.called_set.canCreate
  have hct := F.typeCall_set_1 (.ref l)
  repeat (any_goals (first | assumption | wp_step))
  generalize hob : ({ cls := .type "set", dict := none, data := .set #[] 0 (.fresh 0 0 (!(w.params.followText "set-order"))) } : Obj) = ob
  refine codeAny_mono (code_new_set (.ref l) (E := E) (Q1 := fun v s1 => v = .ref s.heap.objs.size ∧ s1 = { s with heap := s.heap.push ob }) (hob ▸ ⟨rfl, rfl⟩)) fun r s1 hr => ?_
  cases r with
  | error e => exact hr
  | ok fl =>
    cases fl with
    | ret v =>
      obtain ⟨rfl, rfl⟩ := hr
      have hS : (s.heap.push ob).get? s.heap.objs.size = some ob := Heap.get?_push_size _ (by rw [← hob]; rfl)
      have hT : Shared.TypeIs { s with heap := s.heap.push ob } (.ref s.heap.objs.size) "set" := ⟨_, hS, by rw [← hob]⟩
      have hli := F.called_set.init.lookup
      have hbi := F.called_set.init.bind (.ref s.heap.objs.size)
      repeat (any_goals (first | assumption | wp_step))
      refine codeAny_mono (codeAny_call_builtin (R := wants (fun r s2 => r = .none ∧ ∃ h' tk, s2 = { s with heap := h', toks := tk } ∧ SetTup prog w h' s.heap.objs.size (met km items.size) ∧
          (∀ b o, b < s.heap.objs.size → s.heap.get? b = some o → h'.get? b = some o)) E) F.called_set.init.plain F.entry_set_init (check_set_init_1 hT ?_)) fun r2 s2 hr2 => ?_
      · obtain ⟨ol, hol, hcl, nl, hdl⟩ := id hl
        obtain ⟨ocls, odict, odata, oslots⟩ := ol
        simp only at hcl hdl
        subst hcl; subst hdl
        have hol' : (s.heap.push ob).get? l = some { cls := .type "list", dict := odict, data := .seq items nl, slots := oslots } := Heap.get?_push_of_some _ hol
        have hsls := F.sub_list_set
        have hslf := F.sub_list_frozenset
        have hne : (Value.type "list" == Value.type "dict") = false := by decide
        have hl1 : (s.heap.push ob).IsList l items := ⟨_, hol', rfl, nl, rfl⟩
        subst hob
        unfold Builtin.«set.__init__» noKeywords Builtin.Frozenset.updateFrom
        generalize hPI : pyIter = PI
        wp_walk
        subst hPI
        refine wpAny_pyIter_list hl1 ?_
        refine wpAny_bind (wpAny_runValue ?_)
        generalize hob : ({ cls := .type "set", dict := none, data := .set #[] 0 (.fresh 0 0 (!(w.params.followText "set-order"))) } : Obj) = ob at *
        have hlS : l < s.heap.objs.size := Heap.lt_size hol
        have hsz : (s.heap.push ob).objs.size = s.heap.objs.size + 1 := by rw [Heap.size_push]
        have hneI : l ≠ (s.heap.push ob).objs.size := by rw [hsz]; exact Nat.ne_of_lt (Nat.lt_succ_of_lt hlS)
        have hSf : s.heap.objs.size ∉ [(s.heap.push ob).objs.size, l] := by
          rw [hsz]
          intro hm
          rcases List.mem_cons.mp hm with e | hm
          · exact Nat.ne_of_lt (Nat.lt_succ_self _) e
          · exact Nat.ne_of_gt hlS (List.mem_singleton.mp hm)
        have off : ∀ b : Nat, b < s.heap.objs.size → b ∉ s.heap.objs.size :: [(s.heap.push ob).objs.size] := fun b hb hm => by
          rw [hsz] at hm
          rcases List.mem_cons.mp hm with e | hm
          · exact Nat.ne_of_lt hb e
          · exact Nat.ne_of_lt (Nat.lt_succ_of_lt hb) (List.mem_singleton.mp hm)
        have hnw : ∀ i, i < items.size → (km i).1 ∉ s.heap.objs.size :: [(s.heap.push ob).objs.size] := fun i hi => off _ (by
          obtain ⟨o', _, _, ho', _⟩ := hkey i hi
          exact Heap.lt_size ho')
        refine loop_tup ((Walks.list (by simp [hh]) _ l hneI items).toS) s.heap.objs.size hSf km hv hnw hn (by show A.units + 1 + 1 + 1 < cLine; omega) (items.size - 0) 0 _ (by omega) (Nat.zero_le _)
          ⟨⟨_, Heap.get?_push_size _ rfl, rfl, rfl⟩, (hl1.push _)⟩ (fun i hi => ?_) ?_ ?_
        · obtain ⟨o', its', m', ho', x⟩ := hkey i hi
          exact ⟨o', its', m', Heap.get?_push_of_some _ (Heap.get?_push_of_some _ ho'), x⟩
        · refine fresh_tup ?_
          rw [hob]
          exact Heap.get?_push_of_some _ hS
        · intro s' hm hS'
          obtain ⟨h', g', d', tk', os'⟩ := s'
          have eg : g' = s.gens := hm.gens
          have ed : d' = s.drawn := hm.drawn
          have eo : os' = s.os := hm.os
          subst eg; subst ed; subst eo
          show wpAny _ _ _ _ _ _
          refine wpAny_pure ?_
          show wpAny _ _ (ret Value.none) _ _ _
          refine wpAny_pure ⟨rfl, h', tk', rfl, hS', fun b o hb e => ?_⟩
          exact hm.heap b o (off b hb) (Heap.get?_push_of_some _ (Heap.get?_push_of_some _ e))
      · cases r2 with
        | error e => exact hr2
        | ok fl2 =>
          cases fl2 with
          | ret r =>
            obtain ⟨rfl, h', tk, rfl, hS', hk'⟩ := hr2
            repeat (any_goals (first | assumption | wp_step))
            exact h _ _ hS' hk'
          | _ => exact hr2.elim
    | _ => exact hr.elim
end
end ST

set_option Elab.async false
set_option linter.all false
set_option maxRecDepth 100000
set_option maxHeartbeats 3200000
/-! a set is walked -/
namespace ST
open PySem PySem.SetTable

theorem erase_perm {α : Type} : ∀ (l : List α) (i : Nat) (h : i < l.length), List.Perm (l[i] :: l.eraseIdx i) l
  | [], i, h => by simp at h
  | a :: l, 0, h => by simp
  | a :: l, i + 1, h => by
    simp only [List.getElem_cons_succ, List.eraseIdx_cons_succ]
    exact (List.Perm.swap _ _ _).trans (List.Perm.cons a (erase_perm l i (by simpa using h)))

theorem pick_go {α : Type} (next : Nat → Nat) : ∀ (fuel k : Nat) (left : List α) (out : Array α), left.length = fuel → List.Perm (pickOrder.go next fuel k left out).toList (out.toList ++ left)
  | 0, k, left, out, h => by
    have : left = [] := List.length_eq_zero_iff.mp h
    subst this
    simp [pickOrder.go]
  | fuel + 1, k, left, out, h => by
    have hi : next k % left.length < left.length := Nat.mod_lt _ (by omega)
    simp only [pickOrder.go, List.getElem?_eq_getElem hi]
    refine (pick_go next fuel (k + 1) _ _ (by rw [List.length_eraseIdx_of_lt hi]; omega)).trans ?_
    rw [Array.toList_push, List.append_assoc]
    exact List.Perm.append_left _ (erase_perm _ _ hi)

theorem pick_perm {α : Type} (next : Nat → Nat) (xs : Array α) : List.Perm (pickOrder next xs).toList xs.toList := by
  have := pick_go next xs.size 0 xs.toList #[] (by simp)
  simpa [pickOrder] using this

def walkOf (w : World) (a : Addr) (ep : Nat) (es : Array (Int × Value)) : List Value :=
  if w.params.followText "set-order" = true then (pickOrder (w.params.setOrder a ep) es).toList.map (·.2) else es.toList.map (·.2)

theorem walk_perm (w : World) (a : Addr) (ep : Nat) (es : Array (Int × Value)) : List.Perm (walkOf w a ep es) (es.toList.map (·.2)) := by
  unfold walkOf
  split
  · exact (pick_perm _ es).map _
  · exact .refl _

theorem below_zero {xs : Array Nat} (ris : xs.toList.Pairwise (· < ·)) : below xs 0 = 0 := by
  obtain ⟨h1, h2⟩ := below_ok 0 ris
  rcases Nat.eq_zero_or_pos (below xs 0) with h | h
  · exact h
  · have := (h2 0 (by omega)).mp h
    omega

theorem below_next {xs : Array Nat} (ris : xs.toList.Pairwise (· < ·)) {i : Nat} (hi : i < xs.size) : below xs (xs[i] + 1) = i + 1 := by
  obtain ⟨h1, h2⟩ := below_ok (xs[i] + 1) ris
  have mono : ∀ a b (ha : a < xs.size) (hb : b < xs.size), a < b → xs[a] < xs[b] := fun a b ha hb hab => by
    have := List.pairwise_iff_getElem.mp ris a b (by simpa using ha) (by simpa using hb) hab
    simpa using this
  rcases Nat.lt_trichotomy (below xs (xs[i] + 1)) (i + 1) with h | h | h
  · have := (h2 i hi).mpr (by omega)
    omega
  · exact h
  · have h3 := (h2 (i + 1) (by omega)).mp h
    have := mono i (i + 1) hi (by omega) (by omega)
    omega

theorem slot_sit_next : Slot "set_iterator" "__next__" "set_iterator.__next__" :=
  .of (owner := "set_iterator") (n := "__next__") (by rw [typeLookup_type, builtinLookup_eq_fast]; kernel_rfl) (by decide +kernel) (by decide +kernel) (by decide +kernel)
    (by first | exact .inl (by decide +kernel) | exact .inr (by decide +kernel)) (by rw [isSubtype_type]; kernel_rfl)
theorem entry_sit_next : entryFor table "set_iterator.__next__" = some Builtin.«set_iterator.__next__» := entryFor_of_tree (by kernel_rfl)
theorem owner_sit : Manifest.owners.lookup (String.ofList ("set_iterator".toList.reverse).reverse) = some Manifest.sig_set_iterator := by kernel_rfl
theorem args_sit_next (a : Value) : argsOk "set_iterator.__next__" ⟨[a], []⟩ := by
  unfold argsOk; rw [signature?_of (id := "set_iterator.__next__") (n := "__next__".toList.reverse) (o := "set_iterator".toList.reverse) (by kernel_rfl) owner_sit]; kernel_rfl
theorem slot_sit_iter : Slot "set_iterator" "__iter__" "set_iterator.__iter__" :=
  .of (owner := "set_iterator") (n := "__iter__") (by rw [typeLookup_type, builtinLookup_eq_fast]; kernel_rfl) (by decide +kernel) (by decide +kernel) (by decide +kernel)
    (by first | exact .inl (by decide +kernel) | exact .inr (by decide +kernel)) (by rw [isSubtype_type]; kernel_rfl)
theorem args_sit_iter (a : Value) : argsOk "set_iterator.__iter__" ⟨[a], []⟩ := by
  unfold argsOk; rw [signature?_of (id := "set_iterator.__iter__") (n := "__iter__".toList.reverse) (o := "set_iterator".toList.reverse) (by kernel_rfl) owner_sit]; kernel_rfl
theorem entry_sit_iter : entryFor table "set_iterator.__iter__" = some Builtin.«dict_keyiterator.__iter__» :=
  entryFor_alias (id' := "dict_keyiterator.__iter__") (by kernel_rfl) (by first | rfl | decide +kernel) (by decide +kernel) (by kernel_rfl)
theorem entry_set_iter : entryFor table "set.__iter__" = some Builtin.«frozenset.__iter__» :=
  entryFor_alias (id' := "frozenset.__iter__") (by kernel_rfl) rfl (by decide +kernel) (by kernel_rfl)

/-- a set that is walked and does not change -/
structure Walked (w : World) (o : Obj) (es : Array (Int × Value)) (ep : Nat) (t : SetTable) : Prop where
  ex : o.ExactSet
  dt : o.data = .set es ep t
  fit : t.fits es.size = true
  ris : t.place.toList.Pairwise (· < ·)
  pl : t.plain = true
  led : t.led = !(w.params.followText "set-order")

def IsSit (h : Heap) (I S : Addr) (sl i n ep : Nat) : Prop := ∃ o, h.get? I = some o ∧ o.cls = .type "set_iterator" ∧ o.data = .fields #[rawInt sl, rawInt i, .ref S, rawInt n, rawInt ep]

section
variable {prog : Program} {w : World} {A : Around} {E : Value → Shared → Prop} {s : Shared} {o : Obj} {es : Array (Int × Value)} {ep : Nat} {t : SetTable} {S I : Addr}

theorem IsSit.typeIs {sl i n : Nat} (x : IsSit s.heap I S sl i n ep) : s.TypeIs (.ref I) "set_iterator" := let ⟨o, ho, hc, _⟩ := x; ⟨o, ho, hc⟩
theorem IsSit.at {h h' : Heap} {sl i n : Nat} (x : IsSit h I S sl i n ep) (e : ∀ o, h.get? I = some o → h'.get? I = some o) : IsSit h' I S sl i n ep := let ⟨o, ho, r⟩ := x; ⟨o, e _ ho, r⟩

theorem wp_setNext {sl i : Nat} {Q : Option (Value × Nat) → Shared → Prop} (W : Walked w o es ep t) (ho : s.heap.get? S = some o)
    (hsl : w.params.followText "set-order" = false → below t.place sl = i)
    (hsome : ∀ v sl', (walkOf w S ep es)[i]? = some v → (w.params.followText "set-order" = false → below t.place sl' = i + 1) → Q (some (v, sl')) s) (hnone : (walkOf w S ep es)[i]? = none → Q none s) :
    wpAny (model prog w) A (setNext S sl i ep) Q E s := by
  unfold setNext
  refine wpAny_bind (wpAny_setState_of ho W.dt W.fit ?_)
  dsimp only
  unfold setsByText
  refine wpAny_bind (wpAny_bind (wpAny_askSetting (wpAny_pure ?_)))
  by_cases hb : w.params.followText "set-order" = true
  · show wpAny _ _ (if w.params.followText "set-order" = true then _ else _) _ _ _
    rw [if_pos hb]
    rw [if_neg (by simp)]
    unfold setWalk
    refine wpAny_bind (wpAny_bind (wpAny_setState_of ho W.dt W.fit ?_))
    dsimp only
    unfold setsByText
    refine wpAny_bind (wpAny_bind (wpAny_askSetting (wpAny_pure ?_)))
    show wpAny _ _ (if w.params.followText "set-order" = true then _ else _) _ _ _
    rw [if_pos hb]
    refine wpAny_bind (wpAny_askSetting (wpAny_pure ?_))
    refine wpAny_pure ?_
    have ew : walkOf w S ep es = (pickOrder (w.params.setOrder S ep) es).toList.map (·.2) := by unfold walkOf; rw [if_pos hb]
    show Q (((pickOrder (w.params.setOrder S ep) es)[i]?).map fun e => (e.2, sl)) s
    cases hp : (pickOrder (w.params.setOrder S ep) es)[i]? with
    | none =>
      have := hnone (by rw [ew, List.getElem?_map, Array.getElem?_toList, hp]; rfl)
      exact this
    | some e =>
      have := hsome e.2 sl (by rw [ew, List.getElem?_map, Array.getElem?_toList, hp]; rfl) (fun h => by rw [hb] at h; exact nomatch h)
      exact this
  · have hb' : w.params.followText "set-order" = false := by simpa using hb
    show wpAny _ _ (if w.params.followText "set-order" = true then _ else _) _ _ _
    rw [if_neg hb]
    show wpAny _ _ (if (!t.plain && decide (es.size > 1)) = true then _ else _) _ _ _
    rw [if_neg (by simp [W.pl])]
    refine wpAny_bind ?_
    show wpAny _ _ (if (!t.led && !es.isEmpty) = true then _ else _) _ _ _
    rw [if_neg (by simp [W.led, hb'])]
    refine wpAny_pure ?_
    rw [hsl hb']
    refine wpAny_pure ?_
    have hps : t.place.size = es.size := by
      have := W.fit
      simp only [SetTable.fits, Bool.and_eq_true, beq_iff_eq] at this
      exact this.1
    have ew : walkOf w S ep es = es.toList.map (·.2) := by unfold walkOf; rw [if_neg hb]
    rcases Nat.lt_or_ge i es.size with hi | hi
    · have hi' : i < t.place.size := by rw [hps]; exact hi
      have := hsome es[i].2 (t.place[i] + 1) (by rw [ew]; simp [hi]) (fun _ => below_next W.ris hi')
      simpa [hi, hi'] using this
    · have := hnone (by rw [ew]; simpa using hi)
      have hi' : t.place.size ≤ i := by rw [hps]; exact hi
      simpa [Array.getElem?_eq_none hi, Array.getElem?_eq_none hi'] using this

theorem wp_sit_next {sl i : Nat} {Q : Option Value → Shared → Prop} (hh : A.handled = none) (W : Walked w o es ep t) (ho : s.heap.get? S = some o) (hne : S ≠ I)
    (hit : IsSit s.heap I S sl i es.size ep) (hsl : w.params.followText "set-order" = false → below t.place sl = i)
    (hsome : ∀ v sl' h', (walkOf w S ep es)[i]? = some v → IsSit h' I S sl' (i + 1) es.size ep → (w.params.followText "set-order" = false → below t.place sl' = i + 1) → Heap.ExtBut I s.heap h' → Q (some v) { s with heap := h' })
    (hnone : ∀ h', (walkOf w S ep es)[i]? = none → Heap.ExtBut I s.heap h' → Q none { s with heap := h' }) :
    wpAny (model prog w) A (pyNext (.ref I)) Q E s := by
  obtain ⟨oI, hoI, hcI, hdI⟩ := id hit
  unfold pyNext
  refine wpAny_bind (wpAny_attempt (wpAny_callSpecial?_slot (name := Str.ofString "__next__") hit.typeIs slot_sit_next
    (wpAny_call_entry slot_sit_next hit.typeIs entry_sit_next ?_ (args_sit_next _))))
  unfold Builtin.«set_iterator.__next__»
  refine wpAny_bind (wpAny_of_eq (a := (Value.ref I, [])) rfl ?_)
  refine wpAny_bind (wpAny_fieldsOf hoI hdI ?_)
  simp only [rawInt, List.toList_toArray]
  refine wpAny_bind (wpAny_setEntries_of ho W.dt W.fit ?_)
  rw [if_neg (by simp)]
  simp only [Int.toNat_natCast]
  have hlI : ∀ {h' : Heap}, Heap.SameBut I s.heap h' → h'.get? S = some o := fun hs => (hs.2 S hne).trans ho
  refine wpAny_bind (wp_setNext W ho hsl (fun v sl' hv hsl' => ?_) (fun hv => ?_))
  · dsimp only
    refine wpAny_bind (wpAny_setField hoI hdI (by simp) ?_)
    have g1 := Heap.get?_update_self (Obj.mapFields (·.setIfInBounds 0 (Value.int (sl' : Int) 0))) hoI (Obj.isFreed_of_fields (Obj.data_mapFields hdI _))
    have d1 := Obj.data_mapFields hdI (·.setIfInBounds 0 (Value.int (sl' : Int) 0))
    refine wpAny_bind (wpAny_setField (s := { s with heap := s.heap.update I (Obj.mapFields (·.setIfInBounds 0 (Value.int (sl' : Int) 0))) }) g1 d1 (by simp) ?_)
    refine wpAny_pure ⟨v, rfl, wpAny_pure (hsome v sl' _ hv ?_ hsl' ((Heap.SameBut.update ..).trans (Heap.SameBut.update ..)).extBut)⟩
    refine ⟨_, Heap.get?_update_self _ g1 (Obj.isFreed_of_fields (Obj.data_mapFields d1 _)), (Obj.cls_mapFields ..).trans ((Obj.cls_mapFields ..).trans hcI), ?_⟩
    rw [Obj.data_mapFields d1]
    simp [rawInt]
  · dsimp only
    refine wpAny_bind (wpAny_setField hoI hdI (by simp) ?_)
    show wpAny _ _ (newExc (.type "StopIteration") [] >>= _) _ _ _
    refine wpAny_bind ?_
    simp only [newExc, newTuple]
    refine wpAny_bind (wpAny_newObj_type ?_ (by size_fits))
    refine wpAny_bind (m := firstArgMember _ _) (wpAny_of_eq (a := Value.none) (by first | rfl | (simp only [firstArgMember]; rfl)) ?_)
    refine wpAny_newObj_type ?_ (by size_fits)
    simp only [raiseNew]
    refine wpAny_bind (wpAny_handled ?_)
    rw [show A.in1.handled = none from hh]
    refine wpAny_bind (wpAny_pure (wpAny_throw ?_))
    refine wpAny_bind (wpAny_isInstance (T := "StopIteration") (b := true) ⟨_, Heap.get?_push_size _ rfl, rfl⟩ isSubtype_stop ?_)
    exact wpAny_pure (hnone _ hv (((Heap.SameBut.update ..).extBut.push _).push _))

theorem wp_sit_iter {sl i n : Nat} {Q : Value → Shared → Prop} (hit : IsSit s.heap I S sl i n ep) (h : Q (.ref I) s) : wpAny (model prog w) A (pyIter (.ref I)) Q E s := by
  refine wpAny_pyIter_slot hit.typeIs slot_sit_iter (wpAny_call_entry slot_sit_iter hit.typeIs entry_sit_iter ?_ (args_sit_iter _))
  show wpAny _ _ (ret (.ref I)) _ _ s
  exact wpAny_pure ⟨_, rfl, "set_iterator", _, hit.typeIs, slot_sit_next.lookup, h⟩

theorem walk_len (W : Walked w o es ep t) : (walkOf w S ep es).length = es.size := by
  rw [(walk_perm w S ep es).length_eq, List.length_map, Array.length_toList]

theorem walks_set (hh : A.handled = none) (W : Walked w o es ep t) (hne : S ≠ I) :
    Walks prog w A I [I, S] [I] es.size (fun i v => (walkOf w S ep es)[i]? = some v)
      (fun i h => ∃ sl, IsSit h I S sl i es.size ep ∧ (w.params.followText "set-order" = false → below t.place sl = i) ∧ h.get? S = some o) where
  sub := fun b hb => by simp at hb; simp [hb]
  frame := fun _ _ _ ⟨sl, x1, x2, x3⟩ hk => ⟨sl, x1.at fun o e => hk I (by simp) o e, x2, hk S (by simp) _ x3⟩
  item := fun i s Q E hi ⟨sl, x1, x2, x3⟩ hQ => by
    refine wp_sit_next hh W x3 hne x1 x2 (fun v sl' h' hv hit' hsl' he => ?_) (fun h' hv => ?_)
    · exact hQ v h' s.toks hv ⟨sl', hit', hsl', he S o hne x3⟩ fun b o' hb e => he b o' (fun h => hb (by simp [h])) e
    · rw [List.getElem?_eq_none_iff, walk_len W] at hv; omega
  done := fun s Q E ⟨sl, x1, x2, x3⟩ hQ => by
    refine wp_sit_next hh W x3 hne x1 x2 (fun v sl' h' hv hit' hsl' he => ?_) (fun h' hv he => ?_)
    · have := List.getElem?_eq_some_iff.mp hv
      obtain ⟨h1, _⟩ := this
      rw [walk_len W] at h1; omega
    · exact hQ h' s.toks fun b o' hb e => he b o' (fun h => hb (by simp [h])) e
  self := fun _ _ _ _ ⟨_, x1, _⟩ hQ => wp_sit_iter x1 hQ

theorem wp_iter_set {Q : Value → Shared → Prop} (W : Walked w o es ep t) (ho : s.heap.get? S = some o)
    (hQ : Q (.ref s.heap.objs.size) { s with heap := s.heap.push { cls := .type "set_iterator", data := .fields #[rawInt (0 : Nat), rawInt (0 : Nat), .ref S, rawInt es.size, rawInt ep] } }) :
    wpAny (model prog w) A (pyIter (.ref S)) Q E s := by
  have hT : s.TypeIs (.ref S) "set" := ⟨o, ho, W.ex.1⟩
  refine wpAny_pyIter_slot hT F.slot_set_iter (wpAny_call_entry F.slot_set_iter hT entry_set_iter ?_ (F.args_set_iter_1 _))
  unfold Builtin.«frozenset.__iter__» Builtin.Frozenset.slot0 slotArgs
  simp only [List.isEmpty_nil, Bool.not_true, Bool.false_eq_true, ↓reduceIte, bind_assoc, List.length_nil, bne_self_eq_false]
  unfold Builtin.Frozenset.addrOf Builtin.Frozenset.sizeOf
  refine wpAny_bind (wpAny_pure ?_)
  try dsimp only
  refine wpAny_bind (wpAny_pure ?_)
  refine wpAny_bind (wpAny_bind (wpAny_setEntries_of ho W.dt W.fit (wpAny_pure ?_)))
  unfold setDrawn setsByText
  refine wpAny_bind (wpAny_bind (wpAny_setState_of ho W.dt W.fit ?_))
  dsimp only
  refine wpAny_bind (wpAny_bind (wpAny_askSetting (wpAny_pure ?_)))
  refine wpAny_pure ?_
  show wpAny _ _ (if (!(w.params.followText "set-order") && (!t.plain && decide (es.size > 1))) = true then _ else _) _ _ _
  rw [if_neg (by simp [W.pl])]
  refine wpAny_bind (wpAny_pure ?_)
  refine wpAny_bind (wpAny_setEpoch_of ho W.dt W.fit ?_)
  exact wpAny_bind (wpAny_newObj_type (wpAny_pure ⟨_, rfl, "set_iterator", _, ⟨_, Heap.get?_push_size _ rfl, rfl⟩, slot_sit_next.lookup, hQ⟩))
end
end ST

set_option Elab.async false
set_option linter.all false
set_option maxRecDepth 100000
/-! the sort by questions sorts -/
namespace ST
open PySem PySem.W PyProof.Rows

section
variable (O : KeyOrd) (key : Nat → O.α) (n : Nat)

/-- a question about two of n items, answered by the order of their keys -/
def c0 (i j : Nat) (C : Bool → Shared → Prop) (s : Shared) : Prop := i < n ∧ j < n ∧ C (O.blt (key i) (key j)) s

def Rk (p : Array Nat) (k : Nat) : O.α := key (p.getD k 0)
def Small (p : Array Nat) : Prop := ∀ k, p.getD k 0 < n
def SortedP (p : Array Nat) (m : Nat) : Prop := ∀ i j, i ≤ j → j < m → O.kle (Rk O key p i) (Rk O key p j)
variable {O key n}
variable {s : Shared}

theorem getD_of {p q : Array Nat} {i j : Nat} (h : p[i]? = q[j]?) : p.getD i 0 = q.getD j 0 := by
  rw [Array.getD_eq_getD_getElem?, Array.getD_eq_getD_getElem?, h]

theorem small_of {p : Array Nat} (hn : 0 < n) (h : ∀ x ∈ p.toList, x < n) : Small n p := fun k => by
  rw [Array.getD_eq_getD_getElem?]
  cases e : p[k]? with
  | none => simpa using hn
  | some x =>
    obtain ⟨hk, rfl⟩ := Array.getElem?_eq_some_iff.mp e
    exact h _ (by simp)

theorem rk_rev {p : Array Nat} {i j : Nat} (hj : j ≤ p.size) (k : Nat) : Rk O key (kas_rev p i j) k = if i ≤ k ∧ k < j then Rk O key p (i + j - 1 - k) else Rk O key p k := by
  have e := getElem?_mirror_all (i := i) hj k
  unfold Rk kas_rev
  by_cases h1 : i ≤ k ∧ k < j
  · rw [if_pos h1] at e ⊢; rw [getD_of e]
  · rw [if_neg h1] at e ⊢; rw [getD_of e]

theorem rk_bub {p : Array Nat} {src d : Nat} (hs : src < p.size) (hd : d ≤ src) (k : Nat) :
    Rk O key (bubble p src d) k = if k = src - d then Rk O key p src else if src - d < k ∧ k ≤ src then Rk O key p (k - 1) else Rk O key p k := by
  have e := getElem?_bubble hs d hd k
  unfold Rk
  by_cases h1 : k = src - d
  · rw [if_pos h1] at e ⊢; rw [getD_of e]
  · rw [if_neg h1] at e ⊢
    by_cases h2 : src - d < k ∧ k ≤ src
    · rw [if_pos h2] at e ⊢; rw [getD_of e]
    · rw [if_neg h2] at e ⊢; rw [getD_of e]

theorem asc_ok {Q : Nat → Shared → Prop} : ∀ (f m : Nat) (p : Array Nat), Small n p → 1 ≤ m →
    (∀ m', m ≤ m' → m' ≤ m + f → (∀ k, m ≤ k → k < m' → O.kle (Rk O key p (k - 1)) (Rk O key p k)) → (m' < m + f → O.klt (Rk O key p m') (Rk O key p (m' - 1))) → Q m' s) →
    (kas_asc p f m).kasWp (c0 O key n) Q s
  | 0, m, p, hs, h1, h => h m (Nat.le_refl _) (by omega) (fun k _ _ => by omega) (fun _ => by omega)
  | f + 1, m, p, hs, h1, h => by
    refine ⟨hs _, hs _, ?_⟩
    cases hb : O.blt (key (p.getD m 0)) (key (p.getD (m - 1) 0)) with
    | true =>
      simp only [if_true]
      exact h m (Nat.le_refl _) (by omega) (fun k _ _ => by omega) (fun _ => hb)
    | false =>
      simp only [Bool.false_eq_true, if_false]
      refine asc_ok f (m + 1) p hs (by omega) fun m' a1 a2 a3 a4 => h m' (by omega) (by omega) (fun k b1 b2 => ?_) (fun hlt => a4 (by omega))
      rcases Nat.lt_or_ge m k with hk | hk
      · exact a3 k hk b2
      · have : k = m := by omega
        subst this; exact hb

/-- a run that goes down, the last ones alike -/
structure Down (p : Array Nat) (m q : Nat) : Prop where
  ni : ∀ i j, i ≤ j → j < m → O.kle (Rk O key p j) (Rk O key p i)
  eq : ∀ k, m - (q + 1) ≤ k → k < m → Rk O key p k = Rk O key p (m - 1)
  le : q + 1 ≤ m

theorem rk_rev_eq {p : Array Nat} {i j : Nat} (hj : j ≤ p.size) (heq : ∀ k, i ≤ k → k < j → Rk O key p k = Rk O key p (j - 1)) (k : Nat) : Rk O key (kas_rev p i j) k = Rk O key p k := by
  rw [rk_rev hj]
  split
  · rw [heq _ (by omega) (by omega), heq k (by omega) (by omega)]
  · rfl

theorem small_perm {p q : Array Nat} (hn : 0 < n) (h : q.Perm p) (hp : ∀ x ∈ p.toList, x < n) : Small n q :=
  small_of hn fun x hx => hp x ((Array.perm_iff_toList_perm.mp h).mem_iff.mp hx)

theorem down_step {p : Array Nat} {m : Nat} (D : ∀ i j, i ≤ j → j < m → O.kle (Rk O key p j) (Rk O key p i)) (h1 : 1 ≤ m) (hl : O.kle (Rk O key p m) (Rk O key p (m - 1))) :
    ∀ i j, i ≤ j → j < m + 1 → O.kle (Rk O key p j) (Rk O key p i) := fun i j hij hj => by
  rcases Nat.lt_or_ge j m with h | h
  · exact D i j hij h
  · have : j = m := by omega
    subst this
    rcases Nat.lt_or_ge i j with h' | h'
    · exact KeyOrd.kle_trans hl (D i (j - 1) (by omega) (by omega))
    · have : i = j := by omega
      subst this; exact KeyOrd.kle_refl _

theorem desc_ok {Q : Array Nat × Nat × Nat → Shared → Prop} {p0 : Array Nat} (hn : 0 < n) (h0 : ∀ x ∈ p0.toList, x < n) : ∀ (f : Nat) (p : Array Nat) (m q : Nat), p.Perm p0 → Down (O := O) (key := key) p m q → m + f ≤ p0.size →
    (∀ p' m' q', p'.Perm p0 → m ≤ m' → m' ≤ m + f → Down (O := O) (key := key) p' m' q' → Q (p', m', q') s) →
    (kas_desc f p m q).kasWp (c0 O key n) Q s
  | 0, p, m, q, hp, D, hf, h => h p m q hp (Nat.le_refl _) (by omega) D
  | f + 1, p, m, q, hp, D, hf, h => by
    have hsm := small_perm hn hp h0
    have hsz : p.size = p0.size := hp.size_eq
    have hm1 : 1 ≤ m := by have := D.le; omega
    refine ⟨hsm _, hsm _, ?_⟩
    cases hb : O.blt (key (p.getD m 0)) (key (p.getD (m - 1) 0)) with
    | true =>
      simp only [if_true]
      have hlt : O.klt (Rk O key p m) (Rk O key p (m - 1)) := hb
      split
      · have hr : ∀ k, Rk O key (kas_rev p (m - (q + 1)) m) k = Rk O key p k := rk_rev_eq (by omega) D.eq
        refine desc_ok hn h0 f _ (m + 1) 0 ((mirror_perm ..).trans hp) ⟨fun i j hij hj => ?_, fun k b1 b2 => ?_, by omega⟩ (by omega) fun p' m' q' a1 a2 a3 a4 => h p' m' q' a1 (by omega) (by omega) a4
        · rw [hr, hr]; exact down_step D.ni hm1 (KeyOrd.kle_of_klt hlt) i j hij hj
        · have : k = m + 1 - 1 := by omega
          rw [this]
      · refine desc_ok hn h0 f p (m + 1) 0 hp ⟨down_step D.ni hm1 (KeyOrd.kle_of_klt hlt), fun k b1 b2 => ?_, by omega⟩ (by omega) fun p' m' q' a1 a2 a3 a4 => h p' m' q' a1 (by omega) (by omega) a4
        have : k = m + 1 - 1 := by omega
        rw [this]
    | false =>
      simp only [Bool.false_eq_true, if_false]
      refine ⟨hsm _, hsm _, ?_⟩
      cases hd : O.blt (key (p.getD (m - 1) 0)) (key (p.getD m 0)) with
      | true =>
        simp only [if_true]
        exact h p m q hp (Nat.le_refl _) (by omega) D
      | false =>
        simp only [Bool.false_eq_true, if_false]
        have he : Rk O key p m = Rk O key p (m - 1) := O.total _ _ hb hd
        refine desc_ok hn h0 f p (m + 1) (q + 1) hp ⟨down_step D.ni hm1 (by rw [he]; exact KeyOrd.kle_refl _), fun k b1 b2 => ?_, by have := D.le; omega⟩ (by omega) fun p' m' q' a1 a2 a3 a4 => h p' m' q' a1 (by omega) (by omega) a4
        rw [Nat.add_sub_cancel, he]
        rcases Nat.lt_or_ge k m with hk | hk
        · exact D.eq k (by omega) hk
        · have : k = m := by omega
          subst this; exact he

theorem asc_sorted {p : Array Nat} {m m' : Nat} (h1 : 1 ≤ m) (hs : SortedP O key p m) (ha : ∀ k, m ≤ k → k < m' → O.kle (Rk O key p (k - 1)) (Rk O key p k)) : SortedP O key p m' := by
  intro i j hij hj
  induction j with
  | zero => have : i = 0 := by omega
            subst this; exact KeyOrd.kle_refl _
  | succ j ih =>
    rcases Nat.lt_or_ge (j + 1) m with h | h
    · exact hs i (j + 1) hij h
    · rcases Nat.lt_or_ge i (j + 1) with h' | h'
      · exact KeyOrd.kle_trans (ih (by omega) (by omega)) (ha (j + 1) h hj)
      · have : i = j + 1 := by omega
        subst this; exact KeyOrd.kle_refl _

theorem tail_ok {Q : Nat × Array Nat → Shared → Prop} {p p0 : Array Nat} {m nrem : Nat} (hn : 0 < n) (h0 : ∀ x ∈ p0.toList, x < n) (hp : p.Perm p0) (h1 : 1 ≤ m) (hm : m ≤ nrem) (hr : nrem ≤ p0.size)
    (hD : ∀ i j, i ≤ j → j < m → O.kle (Rk O key p j) (Rk O key p i)) (h : ∀ m' p', p'.Perm p0 → 1 ≤ m' → m' ≤ nrem → SortedP O key p' m' → Q (m', p') s) : (kas_tail3 m nrem p).kasWp (c0 O key n) Q s := by
  have hsz : p.size = p0.size := hp.size_eq
  have hp' : (kas_rev p 0 m).Perm p0 := (mirror_perm ..).trans hp
  unfold kas_tail3
  rw [KasT.kasWp_bind]
  refine asc_ok _ _ _ (small_perm hn hp' h0) h1 fun m' a1 a2 a3 _ => h m' _ hp' (by omega) (by omega) (asc_sorted h1 ?_ a3)
  intro i j hij hj
  rw [rk_rev (by omega), rk_rev (by omega), if_pos (by omega), if_pos (by omega)]
  exact hD _ _ (by omega) (by omega)

theorem descPart_ok {Q : Nat × Array Nat → Shared → Prop} {p p0 : Array Nat} {m nrem : Nat} (hn : 0 < n) (h0 : ∀ x ∈ p0.toList, x < n) (hp : p.Perm p0) (h1 : 1 ≤ m) (hm : m < nrem) (hr : nrem ≤ p0.size)
    (hD : ∀ i j, i ≤ j → j < m + 1 → O.kle (Rk O key p j) (Rk O key p i)) (h : ∀ m' p', p'.Perm p0 → 1 ≤ m' → m' ≤ nrem → SortedP O key p' m' → Q (m', p') s) : (kas_descPart m nrem p).kasWp (c0 O key n) Q s := by
  unfold kas_descPart
  rw [KasT.kasWp_bind]
  refine desc_ok hn h0 _ p (m + 1) 0 hp ⟨hD, fun k b1 b2 => by rw [show k = m + 1 - 1 by omega], by omega⟩ (by omega) fun p' m' q' a1 a2 a3 D => ?_
  have hsz : p'.size = p0.size := a1.size_eq
  dsimp only
  split
  · have hrv : ∀ k, Rk O key (kas_rev p' (m' - (q' + 1)) m') k = Rk O key p' k := rk_rev_eq (by omega) D.eq
    exact tail_ok hn h0 ((mirror_perm ..).trans a1) (by omega) (by omega) hr (fun i j hij hj => by rw [hrv, hrv]; exact D.ni i j hij hj) h
  · exact tail_ok hn h0 a1 (by omega) (by omega) hr D.ni h

theorem count_ok {Q : Nat × Array Nat → Shared → Prop} {p0 : Array Nat} {nrem : Nat} (hn : 0 < n) (h0 : ∀ x ∈ p0.toList, x < n) (h1 : 1 ≤ nrem) (hr : nrem ≤ p0.size)
    (h : ∀ m' p', p'.Perm p0 → 1 ≤ m' → m' ≤ nrem → SortedP O key p' m' → Q (m', p') s) : (kas_count nrem p0).kasWp (c0 O key n) Q s := by
  unfold kas_count
  rw [KasT.kasWp_bind]
  refine asc_ok _ _ _ (small_perm hn (Array.Perm.refl _) h0) (Nat.le_refl _) fun m a1 a2 a3 a4 => ?_
  have hso : SortedP O key p0 m := asc_sorted (m := 1) (Nat.le_refl _) (fun i j hij hj => by
    have : i = j := by omega
    subst this; exact KeyOrd.kle_refl _) a3
  by_cases he : m = nrem
  · rw [if_pos (by simpa using he)]
    exact h m p0 (Array.Perm.refl _) a1 (by omega) hso
  · rw [if_neg (by simpa using he)]
    have hlt := a4 (by omega)
    split
    · refine ⟨small_perm hn (Array.Perm.refl _) h0 _, small_perm hn (Array.Perm.refl _) h0 _, ?_⟩
      cases hb : O.blt (key (p0.getD 0 0)) (key (p0.getD (m - 1) 0)) with
      | true =>
        simp only [if_true]
        exact h m p0 (Array.Perm.refl _) a1 (by omega) hso
      | false =>
        simp only [Bool.false_eq_true, if_false]
        have hle : O.kle (Rk O key p0 (m - 1)) (Rk O key p0 0) := hb
        have heq : ∀ k, k < m → Rk O key p0 k = Rk O key p0 (m - 1) := fun k hk =>
          KeyOrd.kle_antisymm (hso k (m - 1) (by omega) (by omega)) (KeyOrd.kle_trans hle (hso 0 k (by omega) hk))
        have hrv : ∀ k, Rk O key (kas_rev p0 0 m) k = Rk O key p0 k := rk_rev_eq (by omega) fun k _ hk => heq k hk
        refine descPart_ok hn h0 (mirror_perm ..) a1 (by omega) hr (fun i j hij hj => ?_) h
        rw [hrv, hrv]
        refine down_step (m := m) (fun i j hij hj => ?_) a1 (KeyOrd.kle_of_klt hlt) i j hij hj
        rw [heq i (by omega), heq j hj]; exact KeyOrd.kle_refl _
    · have hm1 : m = 1 := by omega
      subst hm1
      refine descPart_ok hn h0 (Array.Perm.refl _) a1 (by omega) hr (down_step (fun i j hij hj => ?_) (Nat.le_refl _) (KeyOrd.kle_of_klt hlt)) h
      have : i = j := by omega
      subst this; exact KeyOrd.kle_refl _

theorem place_ok {Q : Nat → Shared → Prop} {p : Array Nat} {k : Nat} (hsm : Small n p) (hso : SortedP O key p k) : ∀ (f l r : Nat), l ≤ r → r ≤ k → r - l ≤ f →
    (∀ i, i < l → O.kle (Rk O key p i) (Rk O key p k)) → (∀ i, r ≤ i → i < k → O.klt (Rk O key p k) (Rk O key p i)) →
    (∀ l', l' ≤ k → (∀ i, i < l' → O.kle (Rk O key p i) (Rk O key p k)) → (∀ i, l' ≤ i → i < k → O.klt (Rk O key p k) (Rk O key p i)) → Q l' s) →
    (kas_place p k f l r).kasWp (c0 O key n) Q s
  | 0, l, r, hlr, hrk, hf, h1, h2, h => by
    have : l = r := by omega
    subst this
    exact h l hrk h1 h2
  | f + 1, l, r, hlr, hrk, hf, h1, h2, h => by
    unfold kas_place
    split
    · have : l = r := by omega
      subst this
      exact h l hrk h1 h2
    · refine ⟨hsm _, hsm _, ?_⟩
      cases hb : O.blt (key (p.getD k 0)) (key (p.getD ((l + r) / 2) 0)) with
      | true =>
        simp only [if_true]
        refine place_ok hsm hso f l ((l + r) / 2) (by omega) (by omega) (by omega) h1 (fun i a1 a2 => ?_) h
        exact KeyOrd.klt_of_klt_of_kle hb (hso _ _ a1 a2)
      | false =>
        simp only [Bool.false_eq_true, if_false]
        refine place_ok hsm hso f ((l + r) / 2 + 1) r (by omega) hrk (by omega) (fun i a1 => ?_) h2 h
        exact KeyOrd.kle_trans (hso i ((l + r) / 2) (by omega) (by omega)) hb

theorem bin_ok {Q : Array Nat → Shared → Prop} {p0 : Array Nat} (hn : 0 < n) (h0 : ∀ x ∈ p0.toList, x < n) : ∀ (f : Nat) (p : Array Nat) (k : Nat), p.Perm p0 → k + f = p0.size → SortedP O key p k →
    (∀ p', p'.Perm p0 → SortedP O key p' p0.size → Q p' s) → (kas_bin f p k).kasWp (c0 O key n) Q s
  | 0, p, k, hp, hk, hso, h => h p hp (by rw [← hk]; exact hso)
  | f + 1, p, k, hp, hk, hso, h => by
    have hsz : p.size = p0.size := hp.size_eq
    unfold kas_bin
    rw [KasT.kasWp_bind]
    refine place_ok (small_perm hn hp h0) hso k 0 k (by omega) (Nat.le_refl _) (by omega) (fun i hi => by omega) (fun i a1 a2 => by omega) fun l hl b1 b2 => ?_
    refine bin_ok hn h0 f _ (k + 1) ((bubble_perm ..).trans hp) (by omega) (fun i j hij hj => ?_) h
    rw [rk_bub (by omega) (by omega), rk_bub (by omega) (by omega), show k - (k - l) = l by omega]
    rcases Nat.lt_trichotomy i l with hi | hi | hi
    · rw [if_neg (by omega), if_neg (by omega)]
      split
      · exact b1 i hi
      · split
        · exact hso i (j - 1) (by omega) (by omega)
        · exact hso i j hij (by omega)
    · rw [if_pos hi]
      split
      · exact KeyOrd.kle_refl _
      · rw [if_pos (by omega)]
        exact KeyOrd.kle_of_klt (b2 (j - 1) (by omega) (by omega))
    · rw [if_neg (by omega), if_pos (by omega), if_neg (by omega), if_pos (by omega)]
      exact hso _ _ (by omega) (by omega)

theorem sort_ok {Q : Array Nat → Shared → Prop} (hn : 0 < n) (h : ∀ p, List.Perm p.toList (List.range n) → SortedP O key p n → Q p s) : (kas_sort n).kasWp (c0 O key n) Q s := by
  have h0 : ∀ x ∈ (List.range n).toArray.toList, x < n := fun x hx => by simpa using hx
  have hs0 : (List.range n).toArray.size = n := by simp
  unfold kas_sort
  rw [KasT.kasWp_bind]
  refine count_ok hn h0 hn (by omega) fun m p hp h1 hm hso => ?_
  have fin : ∀ p', p'.Perm (List.range n).toArray → SortedP O key p' n → Q p' s := fun p' a b => h p' (by simpa using Array.perm_iff_toList_perm.mp a) b
  dsimp only
  split
  · refine bin_ok hn h0 _ p _ hp (by omega) (by rw [show max m 1 = m by omega]; exact hso) fun p' a b => fin p' a (by rw [hs0] at b; exact b)
  · have : m = n := by omega
    subst this
    exact fin p hp hso
end
end ST

set_option Elab.async false
set_option linter.all false
set_option maxRecDepth 100000
set_option maxHeartbeats 3200000
/-! a list of tuples of whole numbers is sorted -/
namespace ST
open PySem PySem.W PyProof.Rows

/-- the order of tuples -/
def lexB : List Int → List Int → Bool
  | [], [] => false
  | [], _ :: _ => true
  | _ :: _, [] => false
  | a :: x, b :: y => if a = b then lexB x y else decide (a < b)

theorem lex_irr : ∀ a, lexB a a = false
  | [] => rfl
  | a :: x => by simp [lexB, lex_irr x]

theorem lex_trans : ∀ a b c, lexB a b = true → lexB b c = true → lexB a c = true
  | [], [], c, h1, h2 => h2
  | [], _ :: _, [], h1, h2 => by simp [lexB] at h2
  | [], _ :: _, _ :: _, h1, h2 => rfl
  | _ :: _, [], c, h1, h2 => by simp [lexB] at h1
  | _ :: _, _ :: _, [], h1, h2 => by simp [lexB] at h2
  | a :: x, b :: y, c :: z, h1, h2 => by
    simp only [lexB] at h1 h2 ⊢
    by_cases e1 : a = b
    · subst e1
      by_cases e2 : a = c
      · subst e2
        simp only [if_true] at h1 h2 ⊢
        exact lex_trans x y z h1 h2
      · simp only [if_true, e2, if_false] at h1 h2 ⊢
        exact h2
    · by_cases e2 : b = c
      · subst e2
        simp only [e1, if_false, if_true] at h1 h2 ⊢
        exact h1
      · simp only [e1, e2, if_false, decide_eq_true_eq] at h1 h2 ⊢
        have : a ≠ c := by omega
        simp only [this, if_false, decide_eq_true_eq]
        omega

theorem lex_neg : ∀ a b c, lexB a c = true → lexB a b = true ∨ lexB b c = true
  | [], [], c, h => .inr h
  | [], _ :: _, c, h => .inl rfl
  | _ :: _, b, [], h => by simp [lexB] at h
  | _ :: _, [], _ :: _, h => .inr rfl
  | a :: x, b :: y, c :: z, h => by
    simp only [lexB] at h ⊢
    by_cases e1 : a = b
    · subst e1
      by_cases e2 : a = c
      · subst e2
        simp only [if_true] at h ⊢
        exact lex_neg x y z h
      · simp only [e2, if_false] at h ⊢
        exact .inr h
    · by_cases e2 : b = c
      · subst e2
        simp only [e1, if_false] at h ⊢
        exact .inl h
      · simp only [e1, e2, if_false, decide_eq_true_eq] at h ⊢
        by_cases e3 : a = c
        · subst e3; omega
        · simp only [e3, if_false, decide_eq_true_eq] at h
          omega

theorem lex_total : ∀ a b, lexB a b = false → lexB b a = false → a = b
  | [], [], _, _ => rfl
  | [], _ :: _, h, _ => by simp [lexB] at h
  | _ :: _, [], _, h => by simp [lexB] at h
  | a :: x, b :: y, h1, h2 => by
    simp only [lexB] at h1 h2
    by_cases e : a = b
    · subst e
      simp only [if_true] at h1 h2
      rw [lex_total x y h1 h2]
    · have e' : b ≠ a := fun h => e h.symm
      simp only [e, e', if_false, decide_eq_false_iff_not] at h1 h2
      omega

def lexO : KeyOrd := ⟨List Int, lexB, lex_irr, lex_trans, lex_neg, lex_total⟩

theorem wp_at {O : KeyOrd} {key : Nat → O.α} {n : Nat} {α : Type} {c' : Nat → Nat → (Bool → Shared → Prop) → Shared → Prop} {s : Shared} (hc : ∀ i j C, i < n → j < n → C (O.blt (key i) (key j)) s → c' i j C s) {Q : α → Shared → Prop} :
    ∀ t : KasT α, t.kasWp (c0 O key n) Q s → t.kasWp c' Q s
  | .ret a, h => h
  | .ask i j k, ⟨h1, h2, h3⟩ => hc i j _ h1 h2 (wp_at hc (k _) h3)

section
variable {prog : Program} {w : World} {A : Around} {E : Value → Shared → Prop} {s : Shared}

theorem lex_wp {b : Bool} {Q : Bool → Shared → Prop} : ∀ (ks ls : List Int) (xs ys : List Value) (i : Nat), ItemsAre (ik prog w) ks xs → ItemsAre (ik prog w) ls ys → ks.length = ls.length → Q (lexB ks ls) s →
    KatLex prog w A b false Q (xs.zip ys) i s
  | _, _, _, _, i, .nil, .nil, _, h => h
  | _, _, _, _, i, .nil, .cons _ _, e, h => by simp at e
  | _, _, _, _, i, .cons _ _, .nil, e, h => by simp at e
  | _, _, _, _, i, .cons (k := k) (v := v) (ks := ks) (vs := vs) h1 h2, .cons (k := k') (v := v') (ks := ks') (vs := vs') h3 h4, e, h => by
    obtain ⟨t, rfl⟩ := Value.isInt_shape h1
    obtain ⟨t', rfl⟩ := Value.isInt_shape h3
    refine kat_cons (wpAny_eqBool_int ?_)
    by_cases hk : k = k'
    · subst hk
      rw [beq_self_eq_true]
      refine kat_yes (lex_wp ks ks' vs vs' (i + 1) h2 h4 (by simpa using e) ?_)
      simpa [lexB] using h
    · rw [beq_eq_false_iff_ne.mpr hk]
      refine kat_no ?_
      have h' : Q (decide (k < k')) s := by simpa [lexB, hk] using h
      cases hb : (b && i == 0) with
      | true => exact oneLt_int h'
      | false => exact kat_one _ _ (wpAny_lt_int h')

theorem tups_of {h : Heap} : ∀ (vs : List Value) (km : Nat → Addr × List Int), (∀ i, i < vs.length → vs.getD i Value.none = .ref (km i).1 ∧ IsTupleKey (ik prog w) h (km i).2 (km i).1 ∧ 0 < (km i).2.length) →
    ∃ fs, KatTups h vs fs ∧ fs.length = vs.length ∧ ∀ v ∈ fs, ∃ k t, v = Value.int k t
  | [], km, _ => ⟨[], .nil, rfl, fun v hv => absurd hv List.not_mem_nil⟩
  | v :: vs, km, hk => by
    obtain ⟨fs, h1, h2, h3⟩ := tups_of vs (fun i => km (i + 1)) fun i hi => by
      have := hk (i + 1) (by simpa using hi)
      simpa using this
    obtain ⟨e, ⟨o, items, m, ho, hc, hd, hi⟩, hpos⟩ := hk 0 (by simp)
    have ev : v = .ref (km 0).1 := by simpa using e
    subst ev
    generalize (km 0).2 = kk at hi hpos
    obtain ⟨k, t, rest, hit⟩ : ∃ k t rest, items.toList = Value.int k t :: rest := by
      generalize items.toList = il at hi
      cases hi with
      | nil => simp at hpos
      | @cons k v _ vs' h1 _ =>
        obtain ⟨t, rfl⟩ := Value.isInt_shape h1
        exact ⟨k, t, vs', rfl⟩
    refine ⟨Value.int k t :: fs, .cons ho hc hd (f := Value.int k t) ?_ h1, by simp [h2], fun u hu => ?_⟩
    · rw [← Array.getElem?_toList, hit]; rfl
    · rcases List.mem_cons.mp hu with rfl | hu
      · exact ⟨k, t, rfl⟩
      · exact h3 u hu

theorem out_small : ∀ vs : List Value, vs.length < 2 → (vs.toArray.zip vs.toArray).map (·.2) = ((List.range vs.length).toArray.toList.map fun i => vs.getD i Value.none).toArray
  | [], _ => by simp
  | [v], _ => by simp [List.range_succ]
  | _ :: _ :: _, h => absurd h (by simp only [List.length_cons]; omega)

/-- list.sort -/
theorem sort_tup {a : Addr} {n d : Nat} {vs : List Value} {km : Nat → Addr × List Int} {P : PySem.Fin → Shared → Prop} (ho : s.heap.get? a = some (seqObj "list" vs.toArray n)) (h64 : vs.length < 64) (hd0 : 0 < d)
    (hk : ∀ i, i < vs.length → vs.getD i Value.none = .ref (km i).1 ∧ IsTupleKey (ik prog w) s.heap (km i).2 (km i).1 ∧ (km i).2.length = d)
    (h : ∀ h' (p : Array Nat) e, (∀ b o, b ≠ a → s.heap.get? b = some o → h'.get? b = some o) → h'.get? a = some (seqObj "list" (p.toList.map fun i => vs.getD i Value.none).toArray e) →
      List.Perm p.toList (List.range vs.length) → SortedP lexO (fun i => (km i).2) p vs.length → P (.done (.ret .none)) { s with heap := h' }) :
    wpAny (model prog w) A (Builtin.«list.sort» ⟨[.ref a], []⟩) P E s := by
  have ha : a < s.heap.objs.size := Heap.lt_size ho
  have s1 := Heap.SameBut.update s.heap a (Obj.mapSeq fun _ => (#[] : Array Value))
  obtain ⟨e1, ho1⟩ : ∃ e1, (s.heap.update a (Obj.mapSeq fun _ => (#[] : Array Value))).get? a = some (seqObj "list" #[] e1) := ⟨_, get?_update_seq ho fun _ => #[]⟩
  generalize hh3 : ((s.heap.update a (Obj.mapSeq fun _ => (#[] : Array Value))).push (seqObj "tuple" vs.toArray 0)).push (seqObj "list" #[] 0) = h3
  have k3 : ∀ b o, b ≠ a → s.heap.get? b = some o → h3.get? b = some o := fun b o hb e => by
    rw [← hh3]; exact Heap.get?_push_of_some _ (Heap.get?_push_of_some _ ((s1.2 b hb).trans e))
  have a3 : h3.get? a = some (seqObj "list" #[] e1) := by rw [← hh3]; exact Heap.get?_push_of_some _ (Heap.get?_push_of_some _ ho1)
  have hk3 : ∀ i, i < vs.length → vs.getD i Value.none = .ref (km i).1 ∧ IsTupleKey (ik prog w) h3 (km i).2 (km i).1 ∧ (km i).2.length = d := fun i hi => by
    obtain ⟨x1, ⟨o', items, m', ho', hc', hd', hi'⟩, x3⟩ := hk i hi
    refine ⟨x1, ⟨o', items, m', k3 _ o' (fun e => ?_) ho', hc', hd', hi'⟩, x3⟩
    rw [e, ho] at ho'
    obtain rfl := Option.some.inj ho'
    exact absurd hc' (by simp [seqObj])
  -- what is left once the order is found
  have fin : ∀ p : Array Nat, List.Perm p.toList (List.range vs.length) → SortedP lexO (fun i => (km i).2) p vs.length → ∃ e,
      (h3.update a (Obj.mapSeq fun _ => (p.toList.map fun i => vs.getD i Value.none).toArray)).get? a = some (seqObj "list" (p.toList.map fun i => vs.getD i Value.none).toArray e) ∧
      P (.done (.ret .none)) { s with heap := h3.update a (Obj.mapSeq fun _ => (p.toList.map fun i => vs.getD i Value.none).toArray) } := fun p hp hs => by
    have hg := get?_update_seq a3 fun _ => (p.toList.map fun i => vs.getD i Value.none).toArray
    exact ⟨_, hg, h _ p _ (fun b o hb e => ((Heap.SameBut.update h3 a _).2 b hb).trans (k3 b o hb e)) hg hp hs⟩
  rw [list_sort_plain]
  refine wpAny_bind (listItems_at ho rfl ?_)
  refine wpAny_bind (listUpdate_at ho rfl ?_ (by rw [List.size_toArray, sizeLine_eq]; omega) (Nat.zero_le _))
  refine wpAny_bind (seqEpoch_at ho1 rfl ?_)
  refine wpAny_bind (wpAny_newTuple ?_ (by show vs.length ≤ _; rw [sizeLine_eq]; omega))
  refine wpAny_bind (wpAny_newList ?_ (Nat.zero_le _))
  refine wpAny_holding ?_
  show wpAny (model prog w) A _ P E { s with heap := ((s.heap.update a (Obj.mapSeq fun _ => (#[] : Array Value))).push (seqObj "tuple" vs.toArray 0)).push (seqObj "list" #[] 0) }
  rw [hh3]
  dsimp only
  by_cases h2 : vs.toArray.size < 2
  · rw [if_pos h2, if_pos h2]
    refine wpAny_bind (wpAny_pure ?_)
    rw [StateT.run_pure]
    refine wpAny_bind (wpAny_pure ?_)
    dsimp only
    have hout : (arrOf (SortSt.mk' general' (vs.toArray.zip vs.toArray) #[] 7 none)).map (·.2) = ((List.range vs.length).toArray.toList.map fun i => vs.getD i Value.none).toArray := by
      exact out_small vs (by simpa using h2)
    obtain ⟨e, hg, hP⟩ := fin (List.range vs.length).toArray (.refl _) (fun i j hij hj => by
      have h2' : vs.length < 2 := by simpa using h2
      have : i = j := by omega
      subst this; exact KeyOrd.kle_refl _)
    rw [hout]
    refine wpAny_bind (seqEpoch_at a3 rfl ?_)
    refine wpAny_bind (listUpdate_at a3 rfl ?_ (Nat.zero_le _) (by simp [sizeLine_eq]; omega))
    simp only [bne_self_eq_false, Bool.false_eq_true, if_false]
    exact wpAny_pure hP
  · rw [if_neg h2, if_neg h2]
    have h2' : 2 ≤ vs.length := by simpa using h2
    obtain ⟨fs, t1, t2, t3⟩ := tups_of (prog := prog) (w := w) (h := h3) vs km fun i hi => ⟨(hk3 i hi).1, (hk3 i hi).2.1, by rw [(hk3 i hi).2.2]; exact hd0⟩
    refine wpAny_bind (kat_kind (T := .type "int") t1 (by omega) (fun v hv => by
      obtain ⟨k, t, rfl⟩ := t3 v hv
      exact Looks.of_pure rfl) (by decide) ?_)
    refine wpAny_bind (wpAny_mono (kat_run (Q := fun st' s' => ∃ p : Array Nat, arrOf st' = p.map (kas_item (vs.toArray.zip vs.toArray)) ∧ failedOf st' = none ∧ s' = { s with heap := h3 } ∧ List.Perm p.toList (List.range vs.length) ∧ SortedP lexO (fun i => (km i).2) p vs.length)
      (G := fun p s' => s' = { s with heap := h3 } ∧ List.Perm p.toList (List.range vs.length) ∧ SortedP lexO (fun i => (km i).2) p vs.length)
      rfl h2' h64 (fun p' st' s' a1 a2 a3 a4 => ⟨p', a2, a3, a4⟩) ?_) ?_ fun _ _ e => e)
    · refine wp_at (O := lexO) (key := fun i => (km i).2) (n := vs.length) (fun i j C hi hj hC => ?_) _ (sort_ok (by omega) fun p hp hs => ⟨rfl, hp, hs⟩)
      obtain ⟨x1, ⟨o1, it1, m1, ho1', hc1, hd1, hi1⟩, x3⟩ := hk3 i hi
      obtain ⟨y1, ⟨o2, it2, m2, ho2', hc2, hd2, hi2⟩, y3⟩ := hk3 j hj
      unfold kas_ask
      rw [x1, y1]
      have hsz : decide (it1.size < it2.size) = false := by
        have e1 := hi1.length
        have e2 := hi2.length
        simp only [Array.length_toList] at e1 e2
        simp only [decide_eq_false_iff_not]
        omega
      refine kat_lt ho1' hd1 ho2' hd2 ?_
      rw [hsz]
      exact lex_wp _ _ _ _ 0 hi1 hi2 (x3.trans y3.symm) hC
    · rintro ⟨⟨⟩, st'⟩ s' ⟨p, har, hf, rfl, hp, hs⟩
      dsimp only
      obtain ⟨e, hg, hP⟩ := fin p hp hs
      have hout := kat_snds (ks := vs) (vs := vs) rfl har
      rw [hout]
      refine wpAny_bind (seqEpoch_at a3 rfl ?_)
      refine wpAny_bind (listUpdate_at a3 rfl ?_ (Nat.zero_le _) (by
        rw [List.size_toArray, List.length_map, hp.length_eq, List.length_range, sizeLine_eq]; omega))
      rw [hf]
      simp only [bne_self_eq_false, Bool.false_eq_true, if_false]
      exact wpAny_pure hP
end
end ST

set_option Elab.async false
set_option linter.all false
set_option maxRecDepth 100000
set_option maxHeartbeats 3200000
/-! sorted(set(a list of tuples)) -/
namespace ST
open PySem PySem.W PyProof.Rows

section
variable {prog : Program} {w : World} {A : Around} {E : Value → Shared → Prop} {s : Shared} {o : Obj} {es : Array (Int × Value)} {ep : Nat} {t : SetTable} {S : Addr}

theorem hint_set {Q : Bool → Shared → Prop} (hT : s.TypeIs (.ref S) "set") (h : Q false s) : wpAny (model prog w) A (Builtin.List.listLengthHint (.ref S)) Q E s := by
  unfold Builtin.List.listLengthHint
  refine wpAny_bind (wpAny_specialOf hT F.slot_set_len.lookup ?_)
  generalize hid : ("set.__len__" : String) = id0
  wp_delta
  rw [show splitId id0 = some ("set", "__len__") from by subst hid; decide +kernel]
  subst hid
  refine wpAny_bind (wpAny_isInstance (T := "set") (b := true) hT sub_set_self ?_)
  refine wpAny_ite_split (fun hab => absurd hab (by decide)) (fun _ => ?_)
  refine wpAny_ite_split (fun _ => ?_) (fun hab => absurd (by decide +kernel) hab)
  refine wpAny_bind (wpAny_typeOf hT ?_)
  exact wpAny_pure h

theorem items_walk {ws : List Value} {acc : Array Value} (h : ItemsOf (fun i v => ws[i]? = some v) acc ws.length) : acc = ws.toArray := by
  obtain ⟨h1, h2⟩ := h
  have e : acc.toList = ws := by
    apply List.ext_getElem?
    intro i
    by_cases hi : i < acc.size
    · have h3 := h2 i acc[i] (Array.getElem?_eq_getElem hi)
      rw [Array.getElem?_toList, Array.getElem?_eq_getElem hi, h3]
    · rw [List.getElem?_eq_none (by simpa using Nat.le_of_not_lt hi), List.getElem?_eq_none (by rw [← h1]; exact Nat.le_of_not_lt hi)]
  rw [← e]

theorem collect_set {Q : List Value → Shared → Prop} (hh : A.handled = none) (W : Walked w o es ep t) (ho : s.heap.get? S = some o) (hz : es.size ≤ 76)
    (h : ∀ h' tk, (∀ b o, s.heap.get? b = some o → h'.get? b = some o) → s.heap.objs.size ≤ h'.objs.size → Q (walkOf w S ep es) { s with heap := h', toks := tk }) :
    wpAny (model prog w) A (collect (.ref S)) Q E s := by
  have hS0 : S < s.heap.objs.size := Heap.lt_size ho
  unfold collect
  refine wpAny_bind (wpAny_runValue (codeAny_builtin entry_proto_collect' ?_))
  show wpAny _ _ (newList [] >>= fun l => again (.builtin "list.__iadd__" ⟨[l, .ref S], []⟩)) _ _ s
  refine wpAny_bind (wpAny_newList (wpAny_pure ⟨Code.quiet_builtin _ (by decide +kernel), codeAny_builtin entry_list_iadd' ?_⟩))
  show wpAny _ _ (Builtin.List.listExtendWith (.ref s.heap.objs.size) (.ref S) (.ref s.heap.objs.size)) _ _ { s with heap := s.heap.push (seqObj "list" #[] 0) }
  have ho1 : (s.heap.push (seqObj "list" #[] 0)).get? S = some o := Heap.get?_push_of_some _ ho
  have hT1 : Shared.TypeIs { s with heap := s.heap.push (seqObj "list" #[] 0) } (.ref S) "set" := ⟨o, ho1, W.ex.1⟩
  unfold Builtin.List.listExtendWith
  refine wpAny_bind (wpAny_typeOf hT1 ?_)
  have b1 : Builtin.List.listSameRef (.ref s.heap.objs.size) (.ref S) = false := by
    have : s.heap.objs.size ≠ S := Nat.ne_of_gt hS0
    simp [Builtin.List.listSameRef, this]
  have b2 : (Value.type "set" == Value.type "list") = false := by decide
  have b3 : (Value.type "set" == Value.type "tuple") = false := by decide
  simp only [b1, b2, b3, Bool.or_false, Bool.false_eq_true, if_false]
  refine wpAny_bind (wp_iter_set W ho1 ?_)
  generalize hio : ({ cls := .type "set_iterator", data := .fields #[rawInt (0 : Nat), rawInt (0 : Nat), .ref S, rawInt es.size, rawInt ep] } : Obj) = io
  have hsz1 : (s.heap.push (seqObj "list" #[] 0)).objs.size = s.heap.objs.size + 1 := size_push' ..
  dsimp only
  rw [hsz1]
  have ho2 : ((s.heap.push (seqObj "list" #[] 0)).push io).get? S = some o := Heap.get?_push_of_some _ ho1
  refine wpAny_bind (wpAny_holding (hint_set ⟨o, ho2, W.ex.1⟩ ?_))
  refine wpAny_ite_split (fun _ => ?_) (fun hab => absurd (by decide +kernel) hab)
  refine wpAny_bind (wpAny_rule ?_)
  have hL2 : ((s.heap.push (seqObj "list" #[] 0)).push io).get? s.heap.objs.size = some (seqObj "list" #[] 0) := Heap.get?_push_of_some _ (Heap.get?_push_size _ rfl)
  unfold Builtin.List.listTouch
  refine wpAny_bind (wpAny_bind (listUpdate_at hL2 rfl ?_ (Nat.zero_le _) (by simp [sizeLine_eq])))
  have hL3 := get?_update_seq hL2 (·.push Value.none)
  refine listUpdate_at (s := { s with heap := ((s.heap.push (seqObj "list" #[] 0)).push io).update s.heap.objs.size (Obj.mapSeq (·.push Value.none)) }) hL3 rfl ?_ (by simp [sizeLine_eq]) (by simp [sizeLine_eq])
  have hL4 := get?_update_seq hL3 (·.pop)
  generalize hh4 : (((s.heap.push (seqObj "list" #[] 0)).push io).update s.heap.objs.size (Obj.mapSeq (·.push Value.none))).update s.heap.objs.size (Obj.mapSeq (·.pop)) = h4 at hL4 ⊢
  obtain ⟨c4, hL4⟩ : ∃ c4, h4.get? s.heap.objs.size = some (seqObj "list" #[] c4) := ⟨_, hL4⟩
  have k4 : ∀ b o, b ≠ s.heap.objs.size → ((s.heap.push (seqObj "list" #[] 0)).push io).get? b = some o → h4.get? b = some o := fun b o hb e => by
    rw [← hh4]
    exact ((Heap.SameBut.update _ _ _).2 b hb).trans (((Heap.SameBut.update _ _ _).2 b hb).trans e)
  have hI4 : h4.get? (s.heap.objs.size + 1) = some io := k4 _ _ (Nat.succ_ne_self _) (by
    have := Heap.get?_push_size (s.heap.push (seqObj "list" #[] 0)) (o := io) (by rw [← hio]; rfl)
    rwa [hsz1] at this)
  have hne : S ≠ s.heap.objs.size + 1 := Nat.ne_of_lt (Nat.lt_succ_of_lt hS0)
  have hSf : s.heap.objs.size ∉ [s.heap.objs.size + 1, S] := fun hm => by
    rcases List.mem_cons.mp hm with e | hm
    · exact Nat.ne_of_lt (Nat.lt_succ_self _) e
    · exact Nat.ne_of_gt hS0 (List.mem_singleton.mp hm)
  refine wpAny_pure ⟨plainId_quiet F.plain_extend_loop _, ?_⟩
  refine codeAny_extend_loopS ((walks_set (by simp [hh]) W hne).toS) (by rw [sizeLine_eq]; omega) s.heap.objs.size hSf _ es.size 0 _ #[] c4 rfl (Nat.zero_le _)
    ⟨0, ⟨_, hI4, by rw [← hio], by rw [← hio]⟩, fun _ => below_zero W.ris, k4 S o (Nat.ne_of_lt hS0) ho2⟩ hL4 (ItemsOf.nil _) fun s' acc' c' hm hS' hacc => ?_
  have hacc' : acc' = (walkOf w S ep es).toArray := items_walk (by rw [walk_len W]; exact hacc)
  subst hacc'
  have key : ∀ b o, s.heap.get? b = some o → s'.heap.get? b = some o := fun b o e => by
    have hb : b < s.heap.objs.size := Heap.lt_size e
    refine hm.heap b o (fun hmem => ?_) (k4 b o (Nat.ne_of_lt hb) (Heap.get?_push_of_some _ (Heap.get?_push_of_some _ e)))
    rcases List.mem_cons.mp hmem with e' | hmem
    · exact Nat.ne_of_lt hb e'
    · exact Nat.ne_of_lt (Nat.lt_succ_of_lt hb) (List.mem_singleton.mp hmem)
  rw [Moved.eq_with hm]
  show wpAny (model prog w) A (load s.heap.objs.size >>= fun o => match o.data with
      | .seq xs _ => pure xs.toList
      | _ => unsupported "internal:collect") Q E { s with heap := s'.heap, toks := s'.toks }
  refine wpAny_bind (wpAny_load hS' ?_)
  exact wpAny_pure (h s'.heap s'.toks key (Nat.le_of_lt (Heap.lt_size hS')))

theorem perm_lift {α β : Type} {f : α → β} : ∀ (ms : List α) (l : List β), List.Perm l (ms.map f) → ∃ ms1, List.Perm ms1 ms ∧ l = ms1.map f
  | [], l, h => ⟨[], .refl _, by simpa using h⟩
  | m :: ms, l, h => by
    rw [List.map_cons] at h
    obtain ⟨l1, l2, rfl⟩ := List.append_of_mem (h.mem_iff.mpr List.mem_cons_self)
    have h2 : List.Perm (l1 ++ l2) (ms.map f) := List.Perm.cons_inv (a := f m) (List.perm_middle.symm.trans h)
    obtain ⟨ms1, hp, e⟩ := perm_lift ms _ h2
    obtain ⟨a, b, rfl, ea, eb⟩ := List.append_eq_map_iff.mp e
    refine ⟨a ++ m :: b, List.perm_middle.trans (List.Perm.cons m hp), ?_⟩
    rw [List.map_append, List.map_cons, ea, eb]

theorem lrange_getD {α : Type} (l : List α) (d : α) : (List.range l.length).map (fun i => l.getD i d) = l := by
  apply List.ext_getElem?
  intro i
  rw [List.getElem?_map]
  rcases Nat.lt_or_ge i l.length with h | h
  · simp [h]
  · simp [h]

/-- sorted(a set) -/
theorem call_sorted_set {Q : Value → Shared → Prop} {ms : List (Addr × List Int)} {d : Nat} (hh : A.handled = none) (hS : SetTup prog w s.heap S ms) (h64 : ms.length < 64) (hd0 : 0 < d) (hd : ∀ m ∈ ms, m.2.length = d)
    (h : ∀ h' tk D e (ns : List (Addr × List Int)), List.Perm ns ms → ns.Pairwise (fun a b => lexB a.2 b.2 = true) → (∀ b o, s.heap.get? b = some o → h'.get? b = some o) → s.heap.objs.size ≤ D →
      h'.get? D = some (seqObj "list" (ns.map fun m => Value.ref m.1).toArray e) → Q (.ref D) { s with heap := h', toks := tk }) :
    wpAny (model prog w) A (call (.builtin "sorted") [.ref S]) Q E s := by
  obtain ⟨o, es, ep, t, ps, ho, hex, hdt, T, R, H, hpl, hled⟩ := hS
  have W : Walked w o es ep t := ⟨hex, hdt, T.fits R.le, T.ris', hpl, hled⟩
  have hes : es.size = ms.length := H.len
  refine Calls.call_function_entry kind_sorted plain_sorted entry_sorted (args_sorted1 _) ?_
  unfold Builtin.«sorted»
  refine wpAny_bind (m := checkCount "sorted" 1 1 _) (wpAny_pure ?_)
  refine wpAny_bind (collect_set (by simp [hh]) W ho (by omega) fun h1 tk k1 le1 => ?_)
  -- the walk, by addresses
  have hwp : List.Perm (walkOf w S ep es) (ms.map fun m => Value.ref m.1) := by
    refine (walk_perm w S ep es).trans ?_
    have := H.pm.map (·.2)
    rw [List.map_map] at this
    exact this
  obtain ⟨ms1, hpm1, ews⟩ : ∃ ms1 : List (Addr × List Int), List.Perm ms1 ms ∧ walkOf w S ep es = ms1.map fun m => Value.ref m.1 := perm_lift ms _ hwp
  have hlen1 : ms1.length = ms.length := hpm1.length_eq
  rw [ews]
  refine wpAny_bind (wpAny_newList ?_ (by rw [List.length_map, sizeLine_eq]; omega))
  dsimp only
  have hoL : (h1.push (seqObj "list" (ms1.map fun m => Value.ref m.1).toArray 0)).get? h1.objs.size = some (seqObj "list" (ms1.map fun m => Value.ref m.1).toArray 0) := Heap.get?_push_size _ rfl
  refine wpAny_bind (wpAny_holding (wpAny_call_entry slot_list_sort ⟨_, hoL, rfl⟩ entry_list_sort ?_ (args_list_sort _)))
  refine sort_tup (s := { s with heap := h1.push (seqObj "list" (ms1.map fun m => Value.ref m.1).toArray 0), toks := tk }) (km := fun i => ms1.getD i (0, [])) hoL (by rw [List.length_map]; omega) hd0 (fun i hi => ?_) fun h' p e hk hg hp hs => ?_
  · have hi' : i < ms1.length := by simpa using hi
    have hm : ms1.getD i (0, []) = ms1[i] := by simp [hi']
    have hmem : ms1[i] ∈ ms := hpm1.mem_iff.mp (List.getElem_mem hi')
    dsimp only
    rw [hm]
    refine ⟨by simp [hi'], ?_, hd _ hmem⟩
    obtain ⟨o', its, m', ho', x⟩ := H.key _ hmem
    exact ⟨o', its, m', Heap.get?_push_of_some _ (k1 _ _ ho'), x⟩
  · refine ⟨_, rfl, wpAny_pure ⟨_, rfl, ?_⟩⟩
    rw [List.length_map] at hp hs
    have hns : (p.toList.map fun i => (ms1.map fun m => Value.ref m.1).getD i Value.none) = (p.toList.map fun i => ms1.getD i (0, [])).map fun m => Value.ref m.1 := by
      rw [List.map_map]
      refine List.map_congr_left fun i hi => ?_
      have hi' : i < ms1.length := by simpa using hp.mem_iff.mp hi
      simp [hi']
    have hpn : List.Perm (p.toList.map fun i => ms1.getD i (0, [])) ms1 := by
      have := hp.map fun i => ms1.getD i ((0 : Addr), ([] : List Int))
      rwa [lrange_getD] at this
    rw [hns] at hg
    refine h h' tk _ e _ (hpn.trans hpm1) ?_ (fun b o e => hk b o (fun hb => ?_) (Heap.get?_push_of_some _ (k1 b o e))) ?_ hg
    · have hnd : ((p.toList.map fun i => ms1.getD i ((0 : Addr), ([] : List Int))).map (·.2)).Nodup := ((hpn.trans hpm1).map (·.2)).nodup_iff.mpr H.nd
      have hpl : p.toList.length = ms1.length := by rw [hp.length_eq, List.length_range]
      rw [List.pairwise_iff_getElem]
      intro i j hi hj hij
      rw [List.length_map] at hi hj
      have h1 := hs i j (Nat.le_of_lt hij) (by omega)
      have ei : p.getD i 0 = p.toList[i] := by simp at hi; simp [Array.getD, hi]
      have ej : p.getD j 0 = p.toList[j] := by simp at hj; simp [Array.getD, hj]
      have hne := List.pairwise_iff_getElem.mp hnd i j (by simpa using hi) (by simpa using hj) hij
      simp only [List.getElem_map] at hne ⊢
      unfold KeyOrd.kle Rk at h1
      rw [ei, ej] at h1
      cases hb : lexB (ms1.getD p.toList[i] (0, [])).2 (ms1.getD p.toList[j] (0, [])).2 with
      | true => rfl
      | false => exact absurd (lex_total _ _ hb h1) hne
    · exact Nat.ne_of_lt (Heap.lt_size (k1 b o e)) hb
    · exact le1
end
end ST

set_option Elab.async false
set_option linter.all false
set_option maxRecDepth 100000
namespace L2
open PySem PySem.Spec PySem.W PyProof.Rows
/-- what the classes of the program's own errors are, in K -/
structure ExcCls (K : Frag) (C : Addr) : Prop where
  ga : findIn K (.ref C) "__getattribute__" = some (some (.builtin "BaseException.__getattribute__"))
  gt : findIn K (.ref C) "__getattr__" = some none
  cl : findIn K (.ref C) "__class__" = some (some (.builtin "object.__class__"))
  be : mroIn K C (.type "BaseException") = some true
  ob : mroIn K C (.type "object") = some true
section
variable {prog : Program} {w : World} {A : Around} {E : Value → Shared → Prop} {K : Frag} {h : Heap} {g : Array GenState} {d : Drawn} {t : Nat} {os : OsState} {a C : Addr} {o : Obj}
theorem exc_check {M : Model} {nameV : Value} {Q : Unit → Shared → Prop} (X : K.In h) (Z : ExcCls K C) (hx : h.get? a = some o) (hc : o.cls = .ref C) (hq : Q () ⟨h, g, d, t, os⟩) :
    wpAny M A (checkBuiltinCall "BaseException.__getattribute__" ⟨[.ref a, nameV], []⟩) Q E ⟨h, g, d, t, os⟩ := by
  have hk : builtinKind "BaseException.__getattribute__" = some .slot := by decide +kernel
  have hsplit : splitId "BaseException.__getattribute__" = some ("BaseException", "__getattribute__") := by decide +kernel
  have ha := F.args_bexc_ga (.ref a) nameV
  simp only [checkBuiltinCall, hk, hsplit]
  refine wpAny_bind ?_
  · unfold isInstance
    repeat (first | (with_reducible refine wpAny_loadPart_at hx ?_; rw [hc]) | (with_reducible refine (looks_mroIn X Z.be).at ?_) | wp_step)
    exact hq
theorem exc_get {R : Result → Shared → Prop} (X : K.In h) (Z : ExcCls K C) (hx : h.get? a = some o) (hc : o.cls = .ref C) (hq : R (.ok (.ret (.ref C))) ⟨h, g, d, t, os⟩) :
    codeAny (model prog w) A (.call (.builtin "getset_descriptor.__get__") ⟨[.builtin "object.__class__", .ref a, .ref C], []⟩) R ⟨h, g, d, t, os⟩ := by
  have hT5 : (⟨h, g, d, t, os⟩ : Shared).TypeIs (.builtin "object.__class__") "getset_descriptor" := F.typeOf_object_class
  have ow := F.owner_object_class
  refine codeAny_call_builtin F.slot_gs_get.plain F.entry_gs_get (F.slot_gs_get.check _ _ _ _ _ _ _ _ hT5 (F.args_gs_get _ _ _) ?_)
  repeat (any_goals (first | assumption | (with_reducible refine wpAny_loadPart_at hx ?_; rw [hc]) | (rw [ow]; with_reducible refine (looks_mroIn X Z.ob).at ?_) | wp_step))
  refine ⟨Code.quiet_builtin _ (by decide +kernel), codeAny_builtin F.entry_object_class ?_⟩
  repeat (any_goals (first | assumption | (with_reducible refine wpAny_loadPart_at hx ?_; rw [hc]) | wp_step))
theorem exc_entry {tk : Tok} {Q : Fin → Shared → Prop} (X : K.In h) (Z : ExcCls K C) (hx : h.get? a = some o) (hc : o.cls = .ref C) (hq : Q (.done (.ret (.ref C))) ⟨h, g, d, t, os⟩) :
    wpAny (model prog w) A (Builtin.«object.__getattribute__» ⟨[.ref a, .str "__class__" tk], []⟩) Q E ⟨h, g, d, t, os⟩ := by
  have hT5 : (⟨h, g, d, t, os⟩ : Shared).TypeIs (.builtin "object.__class__") "getset_descriptor" := F.typeOf_object_class
  have f5 := F.typeOf_object_class
  have f6 := F.slot_gs_get.lookup
  have f7 := F.slot_gs_set.lookup
  repeat (any_goals (first | assumption | (with_reducible refine wpAny_loadPart_at hx ?_; rw [hc]) | (with_reducible refine (looks_findIn X Z.cl).at ?_) | wp_step))
  refine exc_get X Z hx hc ?_
  repeat (any_goals (first | assumption | wp_step))
theorem exc_attr {Q : Option Value → Shared → Prop} (X : K.In h) (Z : ExcCls K C) (hx : h.get? a = some o) (hc : o.cls = .ref C) (hq : Q (some (.ref C)) ⟨h, g, d, t + 1, os⟩) :
    wpAny (model prog w) A (getAttr? (.ref a) "__class__") Q E ⟨h, g, d, t, os⟩ := by
  have FB : Slot "ValueError" "__getattribute__" "BaseException.__getattribute__" := .of (owner := "BaseException") (n := "__getattribute__") (by rw [typeLookup_type, builtinLookup_eq_fast]; kernel_rfl) (by decide +kernel) (by decide +kernel) (by decide +kernel) (by first | exact .inl (by decide +kernel) | exact .inr (by decide +kernel)) (by rw [isSubtype_type]; kernel_rfl)
  have f3 := FB.bind (.ref a)
  have hx2 : (Value.builtin "BaseException.__getattribute__" == Value.builtin "object.__getattribute__") = false := by decide +kernel
  have hx1 : (onTheHeap (Value.ref C) && Value.builtin "BaseException.__getattribute__" == Value.builtin "object.__getattribute__") = false := by rw [hx2]; rfl
  unfold getAttr? getAttrBy?
  repeat (any_goals (first | assumption | (with_reducible refine wpAny_loadPart_at hx ?_; rw [hc]) | (with_reducible refine (looks_findIn X Z.ga).at ?_) | (with_reducible refine (looks_findIn X Z.gt).at ?_) | wp_step))
  refine codeAny_call_builtin FB.plain F.entry_bexc_ga (exc_check X Z hx hc (exc_entry X Z hx hc ?_))
  repeat (any_goals (first | assumption | wp_step))
/-- isinstance of an error of the program's own -/
def IsExc (a C : Addr) (h : Heap) : Prop := ∃ o, h.get? a = some o ∧ o.cls = .ref C
theorem kitx_exc (Z : ExcCls K C) : KitX K (.ref a) (.ref C) (IsExc a C) where
  ty := fun _ _ _ ⟨o, h1, h2⟩ => h2 ▸ (Looks.ld h1).andThen .now
  it := fun _ _ X _ => by
    obtain ⟨cd, hcD, _⟩ := Option.bind_eq_some_iff.mp Z.be
    unfold clsIn at hcD
    split at hcD
    · rename_i c' d' cd' sl' ho
      intro A' Q' E' s' k q
      unfold isType loadHead
      exact wpAny_bind (wpAny_loadPart (k _ _ (X _ _ ho)) (wpAny_pure q))
    · cases hcD
  ne := fun h tp dd its n sl X htp => by
    obtain ⟨cd, hcD, _⟩ := Option.bind_eq_some_iff.mp Z.be
    refine Bool.eq_false_iff.mpr fun q => ?_
    have e : C = tp := Value.ref.inj (beq_iff_eq.mp q)
    subst e
    unfold clsIn at hcD
    split at hcD
    · rename_i c' d' cd' sl' ho
      have z := (X _ _ ho).symm.trans htp
      cases z
    · cases hcD
  ca := fun {_ _ _ _ _ s} X ⟨o, h1, h2⟩ k => by
    obtain ⟨h, g, d, t, os⟩ := s
    exact exc_attr X Z h1 h2 k
end
end L2

set_option Elab.async false
set_option linter.all false
set_option maxRecDepth 100000
/-! AN ERROR OF THE PROGRAM'S OWN over the hand layer: raised in a def, passed on by its callers, caught by name with «as» -/
namespace L2
open PySem PySem.Spec PySem.W PyProof.Rows
theorem ObjOk.there {P : Program} {w : World} {H : Hp} {h : Heap} {a : Addr} : ∀ {o : HO}, ObjOk P w H h a o → ∃ ob, h.get? a = some ob := by
  intro o x
  cases o with
  | lst xs => obtain ⟨_, _, _, _, e⟩ := x; exact ⟨_, e⟩
  | tup xs => obtain ⟨_, _, _, ob, e, _⟩ := x; exact ⟨_, e⟩
  | dK kvs => obtain ⟨_, _, _, _, o, _, _, e, _⟩ := x; exact ⟨_, e⟩
  | dT kvs => obtain ⟨_, _, _, _, o, _, _, e, _⟩ := x; exact ⟨_, e⟩
  | set S n => obtain ⟨o, _, _, _, e, _⟩ := x; exact ⟨_, e⟩
  | ins C dx fs => obtain ⟨_, _, _, e, _⟩ := x; exact ⟨_, e⟩
  | own y => obtain ⟨_, e⟩ := x; exact ⟨_, e⟩
  | xd fs => obtain ⟨_, ⟨_, _, _, e, _⟩, _⟩ := x; exact ⟨_, e⟩
  | rng lo hi => obtain ⟨_, _, _, e⟩ := x; exact ⟨_, e⟩
  | frz ob u => obtain ⟨e, _⟩ := x; exact ⟨_, e⟩
  | tbl ps => exact ⟨_, (show h.get? a = some _ from x)⟩
  | met f y => exact ⟨_, (show h.get? a = some _ from x)⟩
  | ext φ => obtain ⟨_, ⟨_, e⟩, _⟩ := x; exact ⟨_, e⟩
/-- an error flies: what is tracked, and what its callers have, lies in B, which stays -/
def CX1 (P : Program) (w : World) : CXT := fun outer H s E e s' => ∃ (ea C : Addr) (B : Heap) (a0 : Value) (H' : Hp), e = .ref ea ∧ s'.os = s.os ∧ AllBare s'.gens ∧ Un (frs outer) [] H H' s.heap s'.heap ∧ HOk P w H' s'.heap ∧ H' ea = none ∧
  Heap.FlyingW B outer ea (.ref C) a0 s'.heap ∧ (∀ b o, s.heap.get? b = some o → b ∉ frs outer → H b = none → B.get? b = some o) ∧ (∀ b o ob, H' b = some o → s'.heap.get? b = some ob → B.get? b = some ob) ∧ (∀ b o, s.heap.get? b = some o → b ∉ frs outer → ∃ ob, B.get? b = some ob) ∧ E (.ref C) none H'
/-- what a body does with an error that is made in it, or comes to it from a callee -/
def Raises (X : Cx) (Ex : Addr → St → Hp → Prop) : Prop := ∀ pins σ H s h' e C vs, Inv X pins σ H s → Ex C σ H → Heap.MadeExcOf s.heap h' e (.ref C) vs → X.xe (.ref e) { s with heap := h' }
def Passes1 (X : Cx) (Ex : Addr → St → Hp → Prop) : Prop := ∀ pins σ H s e s' E, Inv X pins σ H s → CX1 X.prog X.w X.stack H s E e s' → (∀ C H', E (.ref C) none H' → Ex C σ H') → X.xe e s'
section
variable {P : Program} {w : World} {K : Frag} {mg : Str → Option Value} {base : Heap} {N : List Str} {qual : Str} {scope : Scope} {f : Addr} {cdv : Value} {A : Around} {outer : List Env} {s : Shared} {H : Hp} {E : XK}
theorem frs_cons {env : Env} {L : Addr} (h : env.frame = some L) (l : List Env) : frs (env :: l) = L :: frs l := by unfold frs; rw [List.filterMap_cons, h]
/-- raised in a def's own body -/
theorem raises_def : Raises (cxOf (CX1 P w) P w K mg base N qual scope f cdv A outer s H E) (fun C _ H' => E (.ref C) none H') := by
  intro pins σ H1 s1 h2 e C vs I hE hx
  have hL : (cxOf (CX1 P w) P w K mg base N qual scope f cdv A outer s H E).env.frame = some s.heap.objs.size := rfl
  have fr2 : frs (cxOf (CX1 P w) P w K mg base N qual scope f cdv A outer s H E).stack = s.heap.objs.size :: frs outer := frs_cons hL _
  have hin : ∀ env ∈ (cxOf (CX1 P w) P w K mg base N qual scope f cdv A outer s H E).stack, ∀ b, env.frame = some b → b ∈ frs (cxOf (CX1 P w) P w K mg base N qual scope f cdv A outer s H E).stack := fun env he b hb => List.mem_filterMap.mpr ⟨env, he, hb⟩
  have inB : ∀ b o, s1.heap.get? b = some o → b ∉ frs (cxOf (CX1 P w) P w K mg base N qual scope f cdv A outer s H E).stack → (hideAll s1.heap (frs (cxOf (CX1 P w) P w K mg base N qual scope f cdv A outer s H E).stack)).get? b = some o := fun b o e n => hideAll_get _ e n
  refine wpAny_leaves_madeW (base := hideAll s1.heap (frs (cxOf (CX1 P w) P w K mg base N qual scope f cdv A outer s H E).stack)) (h := s1.heap) (L := s.heap.objs.size) (env := envOfC qual scope s.heap.objs.size f cdv) (outer := outer) I.ok.frames rfl (fun b o q => of_hideAll _ q) (funFrames_hide I.stack hin) hx fun h' t fl _ _ ups => ?_
  have up1 : s1.heap.UpToSlots h' := (Heap.UpToSlots.of_keeps hx.keeps).trans ups
  have old : ∀ b o, s.heap.get? b = some o → b ≠ s.heap.objs.size := fun b o e => Nat.ne_of_lt (Heap.lt_size e)
  have notFr : ∀ b o, s.heap.get? b = some o → b ∉ frs outer → b ∉ frs (cxOf (CX1 P w) P w K mg base N qual scope f cdv A outer s H E).stack := fun b o e n z => by
    rw [fr2] at z
    rcases List.mem_cons.mp z with q | q
    · exact old b o e q
    · exact n q
  have trk : ∀ b o ob, H1 b = some o → s1.heap.get? b = some ob → (hideAll s1.heap (frs (cxOf (CX1 P w) P w K mg base N qual scope f cdv A outer s H E).stack)).get? b = some ob := fun b o ob q e => inB b ob e fun z => by
    rw [I.stkFree b z] at q; cases q
  have noX : ∀ b, b ∉ (cxOf (CX1 P w) P w K mg base N qual scope f cdv A outer s H E).ex := fun b z => absurd (show b ∈ ([] : List Addr) from z) (by simp)
  have ob : ∀ b o, s.heap.get? b = some o → b ∉ frs outer → H b = none → (hideAll s1.heap (frs (cxOf (CX1 P w) P w K mg base N qual scope f cdv A outer s H E).stack)).get? b = some o := fun b o e n hn => inB b o (I.base.keep b o e hn n (noX b)) (notFr b o e n)
  have slot : ∀ b o, s.heap.get? b = some o → b ∈ frs outer → ∃ sl, h'.get? b = some { o with slots := sl } := fun b o e hb => by
    have hn : H b = none := I.ok.frf b hb
    obtain ⟨sl, e1⟩ := I.base.slot b o e hn hb (noX b)
    obtain ⟨_, o', ho', hd⟩ := I.ok.funs.mem hb
    have : o' = o := Option.some.inj (ho'.symm.trans e)
    subst this
    obtain ⟨sl2, e2⟩ := up1 b _ e1 hd
    exact ⟨sl2, e2⟩
  refine ⟨e, C, _, .ref t, H1, rfl, I.os, I.bare, ⟨fun b o e n hb _ => fl.1 _ _ (ob b o e hb n), fun b o e n hb _ => slot b o e hb, fun b o e n _ => I.base.free b o e n (noX b), fun b o q _ => ?_, I.base.tups, I.base.frzs, I.base.tbls⟩, fun a o q => ?_, ?_, fl, ob, fun b o ob' q e' => ?_, fun b o q hb => ?_, hE⟩
  · by_cases hb : b ∈ frs outer
    · obtain ⟨sl, e1⟩ := slot b o q hb; exact ⟨_, e1⟩
    · cases hn : H b with
      | none => exact ⟨o, fl.1 _ _ (ob b o q hb hn)⟩
      | some u =>
        obtain ⟨o', e1⟩ := I.base.there b o q (noX b)
        by_cases hs : b ∈ frs (cxOf (CX1 P w) P w K mg base N qual scope f cdv A outer s H E).stack
        · exact absurd hs (notFr b o q hb)
        · exact ⟨o', fl.1 _ _ (inB b o' e1 hs)⟩
  · refine (I.hok a o q).stay (fun b u hb e' => ?_) (fun _ z => z) fun _ _ z => z
    rcases hb with z | z
    · subst z; exact fl.1 _ _ (trk b o u q e')
    · exact fl.1 _ _ (trk b _ u z e')
  · cases q : H1 e with
    | none => rfl
    | some o =>
      obtain ⟨ob', e'⟩ := (I.hok e o q).there
      rw [hx.new] at e'; cases e'
  · obtain ⟨ob1, e1⟩ := (I.hok b o q).there
    have e2 := trk b o ob1 q e1
    have e3 := fl.1 _ _ e2
    rw [e3] at e'; cases e'
    exact e2
  · obtain ⟨o', e1⟩ := I.base.there b o q (noX b)
    exact ⟨o', inB b o' e1 (notFr b o q hb)⟩
/-- passed on by a def's body -/
theorem passes_def : Passes1 (cxOf (CX1 P w) P w K mg base N qual scope f cdv A outer s H E) (fun C _ H' => E (.ref C) none H') := by
  rintro pins σ H1 s1 e s2 E1 I ⟨ea, C, B, a0, H2, rfl, os, bare, un, hok, hnone, fl, ob, tk, al, hE⟩ hEx
  have hL : (cxOf (CX1 P w) P w K mg base N qual scope f cdv A outer s H E).env.frame = some s.heap.objs.size := rfl
  have fr2 : frs (cxOf (CX1 P w) P w K mg base N qual scope f cdv A outer s H E).stack = s.heap.objs.size :: frs outer := frs_cons hL _
  have noX : ∀ b, b ∉ (cxOf (CX1 P w) P w K mg base N qual scope f cdv A outer s H E).ex := fun b z => absurd (show b ∈ ([] : List Addr) from z) (by simp)
  have notFr : ∀ b o, s.heap.get? b = some o → b ∉ frs outer → b ∉ frs (cxOf (CX1 P w) P w K mg base N qual scope f cdv A outer s H E).stack := fun b o e n z => by
    rw [fr2] at z
    rcases List.mem_cons.mp z with q | q
    · exact Nat.ne_of_lt (Heap.lt_size e) q
    · exact n q
  refine wpAny_leaves_onW (L := s.heap.objs.size) (env := envOfC qual scope s.heap.objs.size f cdv) (outer := outer) I.ok.frames rfl fl fun h' fl' ups => ?_
  have old : ∀ b o, s.heap.get? b = some o → b ∉ frs outer → H b = none → B.get? b = some o := fun b o e n hn => ob b o (I.base.keep b o e hn n (noX b)) (notFr b o e n) (I.base.free b o e hn (noX b))
  have slot : ∀ b o, s.heap.get? b = some o → b ∈ frs outer → ∃ sl, h'.get? b = some { o with slots := sl } := fun b o e hb => by
    have hn : H b = none := I.ok.frf b hb
    obtain ⟨sl, e1⟩ := I.base.slot b o e hn hb (noX b)
    obtain ⟨_, o', ho', hd⟩ := I.ok.funs.mem hb
    have : o' = o := Option.some.inj (ho'.symm.trans e)
    subst this
    obtain ⟨sl1, e2⟩ := un.any e1 (I.base.free b _ e hn (noX b)) (by simp)
    obtain ⟨sl2, e3⟩ := ups b _ e2 hd
    exact ⟨sl2, e3⟩
  have h2 : ∀ b o, H2 b = some o → ∀ u, s2.heap.get? b = some u → h'.get? b = some u := fun b o q u e => fl'.1 _ _ (tk b o u q e)
  refine ⟨ea, C, B, a0, H2, rfl, os.trans I.os, bare, ⟨fun b o e n hb _ => fl'.1 _ _ (old b o e hb n), fun b o e n hb _ => slot b o e hb, fun b o e n _ => ?_, fun b o e _ => ?_, fun b xs q => un.tups b xs (I.base.tups b xs q), fun b o u q => un.frzs b o u (I.base.frzs b o u q), fun b ps q => ?_⟩, fun a o q => ?_, hnone, fl', old, fun b o u q e' => ?_, fun b o e hb => ?_, hEx C H2 hE⟩
  · obtain ⟨o', e1⟩ := I.base.there b o e (noX b)
    exact un.free b o' e1 (I.base.free b o e n (noX b)) (by simp)
  · by_cases hb : b ∈ frs outer
    · obtain ⟨sl, e1⟩ := slot b o e hb; exact ⟨_, e1⟩
    · obtain ⟨o1, e1⟩ := I.base.there b o e (noX b)
      obtain ⟨o2, e2⟩ := al b o1 e1 (notFr b o e hb)
      exact ⟨o2, fl'.1 _ _ e2⟩
  · obtain ⟨m1, e1⟩ := I.base.tbls b ps q
    obtain ⟨m2, e2⟩ := un.tbls b _ e1
    exact ⟨m1 ++ m2, by rw [e2, Array.append_assoc]⟩
  · refine (hok a o q).stay (fun b u hb e' => ?_) (fun _ z => z) fun _ _ z => z
    rcases hb with z | z
    · subst z; exact h2 b o q u e'
    · exact h2 b _ z u e'
  · obtain ⟨ob1, e1⟩ := (hok b o q).there
    have e2 := tk b o ob1 q e1
    have e3 := fl'.1 _ _ e2
    rw [e3] at e'; cases e'
    exact e2
  · obtain ⟨o1, e1⟩ := I.base.there b o e (noX b)
    exact al b o1 e1 (notFr b o e hb)
end
end L2
namespace L2
open PySem PySem.Spec PySem.W PyProof.Rows
abbrev bmV : List Value := [.type "ValueError", .type "Exception", .type "BaseException", .type "object"]
/-- a class of the program's own errors, by its name -/
structure OwnX (K : Frag) (mg : Str → Option Value) (x : Str) (C : Addr) : Prop where
  bound : mg x = some (.ref C)
  exc : excIn K C bmV "ValueError.__new__" = true
  cls : ExcCls K C
theorem own_of {K : Frag} {h : Heap} {mg : Str → Option Value} {x : Str} {C : Addr} (X : K.In h) (O : OwnX K mg x C) : OwnCls x C bmV "ValueError.__new__" mg h := by
  refine ⟨O.bound, ?_⟩
  have q := O.exc
  unfold excIn at q
  split at q
  · rename_i dd cd sl ho
    split at q
    · rename_i C' bm k0 k1 k2 k3 n k5 hm hs
      simp only [Bool.and_eq_true, beq_iff_eq, Bool.not_eq_true'] at q
      obtain ⟨⟨⟨⟨⟨rfl, rfl⟩, hdel⟩, ht⟩, hok⟩, hni⟩ := q
      obtain ⟨nm, bs, mro, ns, qn, hd, sn, sub, ab, col, del⟩ := cd
      dsimp only at hm hdel hok hni
      subst hm hdel
      have hsl : sl = #[k0, k1, k2, k3, some (.builtin "ValueError.__new__"), k5] := by
        obtain ⟨l⟩ := sl
        simp only at hs
        rw [hs]
      subst hsl
      exact ⟨bm, ns, nm, qn, bs, hd, sn, sub, ab, col, dd, k0, k1, k2, k3, k5, _, X _ _ ho, .of_isNs (isNs_of_in X hok), nsMap_none_of_in X hok hni, tail_of_in X ht⟩
    · cases q
  · cases q
def tRaise (C : Addr) (Ex : Addr → St → Hp → Prop) (ta : TA) : TS := fun _ σ H => ta σ H fun vs H1 => vs.length ≤ sizeLine ∧ Ex C σ H1
section
variable {X : Cx}
theorem ps_raise {x : Str} {C : Addr} {np cpos pos : Pos} {e₀ : Expr} {rest : List Expr} {Ex : Addr → St → Hp → Prop} {ta : TA} (O : OwnX X.K X.mg x C) (hR : Raises X Ex) (hc : X.calm = true) (hg : Gl X x) (ha : PA X (e₀ :: rest) ta)
    (he : starEach (e₀ :: rest) X.env = (false, eval e₀ X.env) :: starEach rest X.env := by rfl) (hplain : (backTo cpos (starEach rest X.env)).any (·.1) = false := by rfl) (hdb : (x == ("__debug__" : Str)) = false := by decide) :
    PS X (.Raise (some (.Call (.Name x np) (e₀ :: rest) [] cpos)) none pos) (tRaise C Ex ta) := by
  intro pins s σ H D I h
  obtain ⟨tl, N, nm, q, bs, hdct, sn, sub, ab, col, dd, k0, k1, k2, k3, k5, mN, hC, hN, hni, T⟩ := (own_of I.ok.mod.kin O).obj
  refine wpAny_Raise_call_subT (C := C) (nm := nm) (q := q) (N := N) (bs := bs) (bm := tl) (hdct := hdct) (sn := sn) (sub := sub) (ab := ab) (col := col) (dd := dd) (k0 := k0) (k1 := k1) (k2 := k2) (k3 := k3) (k5 := k5)
    PySem.F.excBase_ValueError (mN := mN) (T.hasType PySem.F.excBase_ValueError.hasBase) (I.ok.hd hc) (by rw [he]; show (false || (backTo cpos (starEach rest X.env)).any (·.1)) = false; rw [hplain]; rfl) hni (ld_glob I hg O.bound ⟨rfl, ?_⟩ hdb)
  have hA := ha cpos pins s σ H _ I h
  rw [he] at hA ⊢
  exact Calls.evalArgs_plain (wpAny_mono hA (fun us s₂ ⟨vs, H1, I1, r, hz, hE⟩ => ⟨rfl, by rw [← r.length]; exact hz, I1.bk _ _ hC, hN.keeps I1.bk, T.keeps I1.bk, fun h' e hm => hR pins σ H1 s₂ h' e C us I1 hE hm⟩) fun _ _ y => y)
/-- f(..) that may raise -/
def tCallX (sp : Sp) (Ex : Addr → St → Hp → Prop) (t : TA) : TE := fun σ H Q => t σ H fun vs H1 => ∃ E : XK, sp vs H1 Q E ∧ ∀ C H', E (.ref C) none H' → Ex C σ H'
theorem pe_callX {k : Nat} {f : Addr} {fd : FuncData} {ps : List Str} {sp : Sp} {Ex : Addr → St → Hp → Prop} {x : Str} {p pos : Pos} {e : Expr} {es : List Expr} {t : TA} (F : FnOk X.prog X.w X.K X.mg X.base (CX1 X.prog X.w) k f fd ps sp) (hr : Room k X.A) (hg : Gl X x) (hm : X.mg x = some (.ref f)) (hk : PySem.W.keepIn X.K (.ref f) = true) (hb : Binds X.K fd ps []) (hx : Passes1 X Ex)
    (ha : PA X (e :: es) t) (hdb : (x == ("__debug__" : Str)) = false := by decide) (he : starEach (e :: es) X.env = (false, eval e X.env) :: starEach es X.env := by rfl) (hpl : (backTo pos (starEach es X.env)).any (·.1) = false := by rfl) :
    PE X (.Call (.Name x p) (e :: es) [] pos) (tCallX sp Ex t) := by
  intro pins s σ H Q I h
  refine wpAny_Call_Name_kw (ld_glob I hg hm ?_ hdb)
  refine PySem.W.callWith_K (first := []) (h₀ := X.base) I.ok.mod.kin hk (thn (ha pos pins s σ H _ I h) fun us s1 ⟨vs, H1, I1, r, E, q, hE⟩ => ⟨I1.kIn, ?_⟩) he hpl
  have hl : us.length = ps.length := by rw [← r.length]; exact F.len _ _ _ _ q
  refine wpAny_call (codeAny_mono (F.run X.A X.stack s1 H1 ⟨us, []⟩ us vs Q E hr I1.env0 (by have := hb s1 us I1.kIn (by rw [List.append_nil]; exact hl); rw [List.append_nil] at this; exact this) r q) fun r s' hq => ?_)
  cases r with
  | error e => exact hx pins σ H1 s1 e s' E I1 hq hE
  | ok fl =>
    cases fl with
    | ret u => exact I1.after hq
    | next => exact False.elim hq
    | brk => exact False.elim hq
    | cont => exact False.elim hq
end
end L2

set_option Elab.async false
set_option linter.all false
set_option maxRecDepth 100000
namespace L2
open PySem PySem.Spec PySem.W PyProof.Rows
section
variable {M : Model} {A : Around} {E : Value → Shared → Prop}
theorem exc_obj {K : Frag} {h : Heap} {mg : Str → Option Value} {x : Str} {C : Addr} (X : K.In h) (O : OwnX K mg x C) : ∃ o cd, h.get? C = some o ∧ o.cls = .type "type" ∧ o.data = .cls cd := by
  obtain ⟨tl, N, nm, q, bs, hdct, sn, sub, ab, col, dd, k0, k1, k2, k3, k5, mN, hC, _⟩ := (own_of X O).obj
  exact ⟨_, _, hC, rfl, rfl⟩
theorem exc_matches {K : Frag} {h : Heap} {g : Array GenState} {d : Drawn} {t : Nat} {os : OsState} {mg : Str → Option Value} {x : Str} {e C S : Addr} {oe : Obj} {Q : Bool → Shared → Prop} (X : K.In h) (O : OwnX K mg x S) (he : h.get? e = some oe) (hcls : oe.cls = .ref C) (hm : mroIn K C (.ref S) = some true)
    (hq : Q true ⟨h, g, d, t, os⟩) : wpAny M A (excMatches (.ref e) (.ref S)) Q E ⟨h, g, d, t, os⟩ := by
  obtain ⟨o, cd, hS, hSc, hSd⟩ := exc_obj X O
  have f := tc_notTuple
  unfold excMatches
  repeat (first | (with_reducible refine wpAny_loadPart_at he ?_; rw [hcls]) | (with_reducible refine wpAny_loadPart_at hS ?_; first | rw [hSc] | rw [hSd]) | with_reducible refine (looks_mroIn X O.cls.be).at ?_ | with_reducible refine (looks_mroIn X hm).at ?_ | wp_step)
  exact hq
end
/-- a thing that is there, new since the entry, is tracked from now on -/
theorem Inv.track {X : Cx} {pins : List (Addr × Obj)} {σ : St} {H : Hp} {s : Shared} {a : Addr} {o : HO} (I : Inv X pins σ H s) (hn : H a = none) (h0 : X.s₀.heap.get? a = none) (hL : a ≠ X.env.locals) (hc : ∀ x c, X.env.cells.lookup x = some c → c ≠ a) (hp : ∀ p ∈ X.pn ++ pins, p.1 ≠ a)
    (new : ObjOk X.prog X.w (upd H a o) s.heap a o) : Inv X pins σ (upd H a o) s := by
  have ne : ∀ b u, X.s₀.heap.get? b = some u → b ≠ a := fun b u e z => by rw [z, h0] at e; cases e
  refine ⟨I.ok, I.os, I.bare, ⟨I.base.keep, I.base.slot, fun b u e n hx => by rw [upd_ne (ne b u e)]; exact I.base.free b u e n hx, I.base.there, fun b xs q => ?_, fun b u v q => ?_, fun b ps q => ?_⟩, I.loc, I.cell, by rw [upd_ne (Ne.symm hL)]; exact I.free, fun x c e => by rw [upd_ne (hc x c e)]; exact I.freeC x c e, fun p q => ?_, fun b u q => ?_, I.len⟩
  · have z := I.base.tups b xs q
    rw [upd_ne (ne_of_none z hn)]; exact z
  · have z := I.base.frzs b u v q
    rw [upd_ne (ne_of_none z hn)]; exact z
  · obtain ⟨m, z⟩ := I.base.tbls b ps q
    exact ⟨m, by rw [upd_ne (ne_of_none z hn)]; exact z⟩
  · obtain ⟨e1, e2, e3⟩ := I.pin p q
    exact ⟨e1, by rw [upd_ne (hp p q)]; exact e2, e3⟩
  · by_cases hb : b = a
    · subst hb; rw [upd_same] at q; cases q; exact new
    · rw [upd_ne hb] at q
      exact (I.hok b u q).stay (fun _ _ _ z => z) (fun c z => by rw [upd_ne (ne_of_none z hn)]; exact z) fun c xs z => by rw [upd_ne (ne_of_none z hn)]; exact z
/-- the same context but for pins, the wish, and what is handled -/
abbrev Cx.like (X : Cx) (pn : List (Addr × Obj)) (xe : Value → Shared → Prop) (A : Around) (calm : Bool) : Cx := { X with pn := pn, xe := xe, A := A, calm := calm }
theorem Cx.Ok.like {X : Cx} (ok : X.Ok) {pn : List (Addr × Obj)} {xe : Value → Shared → Prop} {A : Around} {calm : Bool} (hf : A.frames = X.A.frames) (hd : calm = true → A.handled = none) : (X.like pn xe A calm).Ok :=
  ⟨ok.mod, ok.kind, ok.glob, ok.blt, ok.above, ok.inj, ok.has, ok.cab, hd, hf.trans ok.frames, ok.stk, ok.exf, ok.bs, ok.bsz, ok.noex, ok.exfs, ok.funs, ok.frf⟩
theorem Inv.like {X : Cx} {pins pins' : List (Addr × Obj)} {σ : St} {H : Hp} {s : Shared} (I : Inv X pins σ H s) {pn : List (Addr × Obj)} {xe : Value → Shared → Prop} {A : Around} {calm : Bool} (hf : A.frames = X.A.frames) (hd : calm = true → A.handled = none) (hp : ∀ p ∈ pn ++ pins', p ∈ X.pn ++ pins) :
    Inv (X.like pn xe A calm) pins' σ H s := ⟨I.ok.like hf hd, I.os, I.bare, I.base, I.loc, I.cell, I.free, I.freeC, fun p q => I.pin p (hp p q), I.hok, I.len⟩
theorem mark_frames (A : Around) (v : Option Value) : (A.mark v).frames = A.frames := rfl
def HExc (a C : Addr) : HO := .ext fun h => ∃ o, h.get? a = some o ∧ o.cls = .ref C
/-- try: body, except x as n: suite. Ex: what the error's class, the names and the heap are like where it is caught -/
def tTry (i : Nat) (tb : (Addr → St → Hp → Prop) → TS) (ts : TS) (S : Addr → Prop) : TS := fun D σ H => tb (fun C σ1 H1 => S C ∧ ∀ a, H1 a = none → ts { D with nx := fun σ2 H2 => D.nx (σ2.set i none) H2, rt := fun _ _ => False, bk := fun _ _ => False, ct := fun _ _ => False } (σ1.set i (some (.ref a))) (upd H1 a (HExc a C))) D σ H
section
variable {X : Cx}
theorem ps_try {i : Nat} {x n : Str} {S : Addr} {np hpos pos : Pos} {body : List Stmt} {b₀ : Stmt} {suite : List Stmt} {tb : (Addr → St → Hp → Prop) → TS} {ts : TS} {L : Addr} (hN : X.N.Nodup) (hi : X.N[i]? = some n) (hn : X.env.scope.names.lookup n = some .local) (hg : Gl X x) (O : OwnX X.K X.mg x S) (hstk : X.stack = X.env :: X.outer) (hfr : X.env.frame = some X.env.locals) (hexc : X.ex = []) (hc : X.calm = true)
    (hbody : ∀ Ex pn xe, Passes1 (X.like pn xe X.A X.calm) Ex → PSs (X.like pn xe X.A X.calm) body (tb Ex)) (hsuite : ∀ pn xe A, A.frames = X.A.frames → PSs (X.like pn xe A false) (b₀ :: suite) ts) (hdb : (x == ("__debug__" : Str)) = false := by decide) :
    PS X (.Try body [.ExceptHandler (some (.Name x np)) (some n) (b₀ :: suite) hpos] [] [] pos) (tTry i tb ts fun C => mroIn X.K C (.ref S) = some true) := by
  intro pins s σ H D I h
  refine wpAny_Try_except ?_
  have noex : ∀ b, b ∉ X.ex := fun b z => by rw [hexc] at z; cases z
  let Ex : Addr → St → Hp → Prop := fun C σ1 H1 => mroIn X.K C (.ref S) = some true ∧ ∀ a, H1 a = none → ts { D with nx := fun σ2 H2 => D.nx (σ2.set i none) H2, rt := fun _ _ => False, bk := fun _ _ => False, ct := fun _ _ => False } (σ1.set i (some (.ref a))) (upd H1 a (HExc a C))
  let xe1 : Value → Shared → Prop := fun e s' => ∃ pins' σ1 H1 s1 E, Inv (X.like (X.pn ++ pins) X.xe X.A X.calm) pins' σ1 H1 s1 ∧ CX1 X.prog X.w X.stack H1 s1 E e s' ∧ ∀ C H', E (.ref C) none H' → Ex C σ1 H'
  have pass : Passes1 (X.like (X.pn ++ pins) xe1 X.A X.calm) Ex := fun pins' σ1 H1 s1 e s' E I1 cx hE => ⟨pins', σ1, H1, s1, E, I1.like rfl I1.ok.hd (fun p q => q), cx, hE⟩
  have I0 : Inv (X.like (X.pn ++ pins) xe1 X.A X.calm) [] σ H s := I.like rfl I.ok.hd (fun p q => by simpa using q)
  refine wpAny_mono (hbody Ex _ _ pass [] s σ H D I0 h) (fun f s1 q => ?_) (fun e s2 q => ?_)
  · have back : ∀ {σ' : St} {H' : Hp} {s' : Shared}, Inv (X.like (X.pn ++ pins) xe1 X.A X.calm) [] σ' H' s' → Inv X pins σ' H' s' := fun I' => I'.like (pn := X.pn) (xe := X.xe) (A := X.A) (calm := X.calm) rfl I.ok.hd (fun p q => by simpa using q)
    cases f with
    | next => obtain ⟨σ', H', I', q⟩ := q; exact wpAny_execs_nil ⟨σ', H', back I', q⟩
    | brk => obtain ⟨σ', H', I', q⟩ := q; exact ⟨σ', H', back I', q⟩
    | cont => obtain ⟨σ', H', I', q⟩ := q; exact ⟨σ', H', back I', q⟩
    | ret u => obtain ⟨v, σ', H', I', r, q⟩ := q; exact ⟨v, σ', H', back I', r, q⟩
  · obtain ⟨pins', σ1, H1, s1, E1, I1, ⟨ea, C, B, a0, H2, rfl, os, bare, un, hok, hnone, fl, ob, tk, al, hE⟩, hEx⟩ := q
    obtain ⟨hm, hts⟩ := hEx C H2 hE
    rw [hstk] at fl
    refine wpAny_looks_onW (by rw [← hstk]; exact I.ok.frames) hfr fl fun h₄ held ups4 => ?_
    refine wpAny_landsW held fun h₅ fl5 ups5 => ?_
    -- the state where it has landed
    have frM : ∀ b ∈ frs X.stack, ∃ o, s1.heap.get? b = some o ∧ ∀ vs, o.data ≠ .fields vs := fun b hb => by
      obtain ⟨_, o, e, d⟩ := I1.stack.mem hb
      exact ⟨o, e, d⟩
    have land : ∀ {h' : Heap}, B.StaysIn h' → s2.heap.UpToSlots h' → Un (frs X.stack) [] H1 H2 s1.heap h' ∧ HOk X.prog X.w H2 h' := fun {h'} st ups => by
      have slot : ∀ b o, s1.heap.get? b = some o → b ∈ frs X.stack → ∃ sl, h'.get? b = some { o with slots := sl } := fun b o e hb => by
        obtain ⟨o', e', d⟩ := frM b hb
        have : o' = o := Option.some.inj (e'.symm.trans e)
        subst this
        obtain ⟨sl1, e1⟩ := un.any e (I1.stkFree b hb) (by simp)
        obtain ⟨sl2, e2⟩ := ups b _ e1 d
        exact ⟨sl2, e2⟩
      refine ⟨⟨fun b o e n hb _ => st _ _ (ob b o e hb n), fun b o e n hb _ => slot b o e hb, un.free, fun b o e _ => ?_, un.tups, un.frzs, un.tbls⟩, fun a o q => ?_⟩
      · by_cases hb : b ∈ frs X.stack
        · obtain ⟨sl, e1⟩ := slot b o e hb; exact ⟨_, e1⟩
        · obtain ⟨o', e1⟩ := al b o e hb
          exact ⟨o', st _ _ e1⟩
      · refine (hok a o q).stay (fun b u hb e' => ?_) (fun _ z => z) fun _ _ z => z
        rcases hb with z | z
        · subst z; exact st _ _ (tk b o u q e')
        · exact st _ _ (tk b _ u z e')
    have inv : ∀ {h' : Heap} {t : Nat}, B.StaysIn h' → s2.heap.UpToSlots h' → Inv (X.like (X.pn ++ pins) X.xe X.A X.calm) pins' σ1 H2 { s2 with heap := h', toks := t } := fun {h' t} st ups => by
      obtain ⟨u2, ok2⟩ := land st ups
      obtain ⟨hh, gg, dd, tt, oo⟩ := s2
      have e : oo = s1.os := os
      subst e
      exact Inv.call (s := s1) (h' := h') (g' := gg) (t' := t) (d' := dd) (ch := []) I1 u2 ok2 bare (fun b z => absurd z (by simp))
    have I5 := inv (t := s2.toks) fl5.1 (ups4.trans ups5)
    -- the class is asked
    obtain ⟨oe, oeA, oeC⟩ := fl5.there
    refine wpAny_handleBy_cons (codeAny_handlers_test ?_) (by intro q; cases q)
    have I5' : Inv (X.like (X.pn ++ pins) X.xe (X.A.mark (some (.ref ea))) false) pins' σ1 H2 { s2 with heap := h₅ } := I5.like rfl (fun z => by cases z) (fun p q => q)
    refine ld_glob (X := X.like (X.pn ++ pins) X.xe (X.A.mark (some (.ref ea))) false) I5' hg O.bound ?_ hdb
    refine exc_matches I5.kIn O oeA oeC hm ?_
    simp only [if_true]
    refine codeAny_handlers_suite_as ?_
    refine lands_againW fl5 fun h₆ fl6 ups6 => ?_
    have I6 := inv (t := s2.toks) fl6.1 ((ups4.trans ups5).trans ups6)
    -- it is tracked
    obtain ⟨oe6, e6, c6⟩ := fl6.there
    obtain ⟨oe7, ws, e7, c7, d7, _⟩ := fl6.first
    have isF : ∀ b o, h₆.get? b = some o → (∀ vs, o.data ≠ .fields vs) → b ≠ ea := fun b o e d z => by
      rw [z, e7] at e; cases e; exact d _ d7
    have new1 : s1.heap.get? ea = none := by
      cases q : s1.heap.get? ea with
      | none => rfl
      | some o =>
        by_cases hb : ea ∈ frs X.stack
        · obtain ⟨o', e', d⟩ := frM ea hb
          rw [q] at e'; cases e'
          obtain ⟨sl1, e1⟩ := un.any q (I1.stkFree ea hb) (by simp)
          obtain ⟨sl2, e2⟩ := ((ups4.trans ups5).trans ups6) ea _ e1 d
          exact absurd rfl (isF ea _ e2 d)
        · obtain ⟨o', e1⟩ := al ea o q hb
          have := fl6.2.1
          rw [e1] at this; cases this
    have new0 : X.s₀.heap.get? ea = none := by
      cases q : X.s₀.heap.get? ea with
      | none => rfl
      | some o =>
        obtain ⟨o', e1⟩ := I1.base.there ea o q (noex ea)
        rw [new1] at e1; cases e1
    have neL : ea ≠ X.env.locals := fun z => by
      obtain ⟨m, ⟨o, es, ep, ho, hd, _⟩, _⟩ := I1.loc
      have ho : s1.heap.get? X.env.locals = some o := ho
      rw [← z, new1] at ho; cases ho
    have neC : ∀ y c, X.env.cells.lookup y = some c → c ≠ ea := fun y c e z => by
      obtain ⟨v, o, ho, _⟩ := I1.cell y c e
      rw [z, new1] at ho; cases ho
    have neP : ∀ p ∈ (X.pn ++ pins) ++ pins', p.1 ≠ ea := fun p hp z => by
      obtain ⟨e, _⟩ := I1.pin p hp
      rw [z, new1] at e; cases e
    have I7 : Inv (X.like (X.pn ++ pins) X.xe X.A X.calm) pins' σ1 (upd H2 ea (HExc ea C)) { s2 with heap := h₆ } := I6.track hnone new0 neL neC neP ⟨⟨oe6, e6, c6⟩, ⟨oe6, e6⟩, fun h1 h2 ⟨o, e, c⟩ k => ⟨o, k o e, c⟩⟩
    have I8 : Inv (X.like ((X.pn ++ pins) ++ pins') NoX (X.A.mark (some (.ref ea))) false) [] σ1 (upd H2 ea (HExc ea C)) { s2 with heap := h₆ } := I7.like rfl (fun z => by cases z) (fun p q => by simpa using q)
    refine store_ok (X := X.like ((X.pn ++ pins) ++ pins') NoX (X.A.mark (some (.ref ea))) false) I8 hN hi (.inl hn) (show RelV (.ref ea) (.ref ea) from rfl) (fun s9 I9 => ?_) (.inr hn)
    refine wpAny_mono (hsuite _ NoX _ (mark_frames _ _) [] s9 _ _ _ I9 (hts ea hnone)) (fun f s10 q => ?_) (fun _ _ z => z.elim)
    cases f with
    | brk => obtain ⟨_, _, _, z⟩ := q; exact z.elim
    | cont => obtain ⟨_, _, _, z⟩ := q; exact z.elim
    | ret u => obtain ⟨_, _, _, _, _, z⟩ := q; exact z.elim
    | next =>
      obtain ⟨σ2, H3, I10, q⟩ := q
      obtain ⟨m, hns, hl⟩ := id I10.loc
      refine wpAny_nameGoes_keeps hn hns (by rw [show X.env.scope.kind = .function from I.ok.kind]; rfl) fun h' v hns' hsb => ?_
      refine ⟨σ2.set i none, H3, ?_, q⟩
      have fre : H3 X.env.locals = none := I10.free
      have ne0 : ∀ b o, X.s₀.heap.get? b = some o → b ≠ X.env.locals := fun b o e => Nat.ne_of_lt (Nat.lt_of_lt_of_le (Heap.lt_size e) I.ok.above)
      have kp : ∀ b o, b ≠ X.env.locals → s10.heap.get? b = some o → h'.get? b = some o := fun b o nb e => (hsb.2 b nb).trans e
      refine ⟨I.ok, I10.os, I10.bare, ⟨fun b o e n1 hb hx => kp b o (ne0 b o e) (I10.base.keep b o e n1 hb hx), fun b o e n1 hb hx => ?_, I10.base.free, fun b o e hx => ?_, I10.base.tups, I10.base.frzs, I10.base.tbls⟩, ⟨_, hns', fun j y v' e1 e2 e3 => ?_⟩, fun y c e => ?_, I10.free, I10.freeC, fun p hp => ?_, fun a o e => ?_, by rw [List.length_set]; exact I10.len⟩
      · obtain ⟨sl, e1⟩ := I10.base.slot b o e n1 hb hx
        exact ⟨sl, kp b _ (ne0 b o e) e1⟩
      · obtain ⟨o', e1⟩ := I10.base.there b o e hx
        exact ⟨o', kp b _ (ne0 b o e) e1⟩
      · have hj : j ≠ i := fun z => by
          subst z
          rw [List.getElem?_set] at e2
          simp at e2
        rw [List.getElem?_set_ne (Ne.symm hj)] at e2
        obtain ⟨u, r, l⟩ := hl j y v' e1 e2 e3
        have ny : y ≠ n := fun z => hj (nodup_ix hN e1 (z ▸ hi))
        refine ⟨u, r, ?_⟩
        rcases l with ⟨l1, l2⟩ | ⟨k, c, l2, l3⟩
        · exact .inl ⟨l1, by show (if y = n then v else m y) = some u; rw [if_neg ny]; exact l2⟩
        · exact .inr ⟨k, c, l2, l3.sameBut hsb (I10.cne y c l2)⟩
      · obtain ⟨v, z⟩ := I10.cell y c e
        exact ⟨v, z.sameBut hsb (I10.cne y c e)⟩
      · obtain ⟨e1, e2, e3, e4⟩ := I10.pin p (by simpa using (List.mem_append_left pins' hp))
        exact ⟨kp _ _ e3 e1, e2, e3, e4⟩
      · refine (I10.hok a o e).stay (fun b u hb z => kp b u ?_ z) (fun _ z => z) fun _ _ z => z
        rcases hb with y | y
        · subst y; intro y; rw [y, fre] at e; cases e
        · intro x; rw [x, fre] at y; cases y
end
end L2

set_option Elab.async false
set_option linter.all false
set_option maxRecDepth 100000
/-! DATA over the hand layer: values as trees, lists as lists of trees; the readings of a def's text as functions on these. -/
namespace DL
open PySem L2

/-- a value: trees of tuples and of lists that stay; an exception by its class -/
inductive T where
  | non | bl (b : Bool) | int (i : Int) | str (x : Str) | tup (xs : List T) | lst (xs : List T) | exc (x : Str)
/-- what an expression yields: a tree; a tree that is seen (its lists may be owned by a name of this frame); a new list -/
inductive S where
  | t (x : T) | vt (x : T) | ol (xs : List T)

/-- an exception of the class at c -/
def ExcAt (H : Hp) (a c : Addr) : Prop := H a = some (.ext fun h => ∃ o, h.get? a = some o ∧ o.cls = .ref c)
mutual
def TRep (K : PySem.W.Frag) (H : Hp) : T → V → Prop
  | .non, v => v = .non
  | .bl b, v => v = .bl b
  | .int i, v => v = .int i
  | .str x, v => v = .str x
  | .tup ts, v => ∃ a xs, v = .ref a ∧ SqT K H a xs ∧ TReps K H ts xs
  | .lst ts, v => ∃ a xs, v = .ref a ∧ SqL K H a xs ∧ TReps K H ts xs
  | .exc x, v => ∃ a C, v = .ref a ∧ PySem.W.nsIn K mainGlobals x = some (some (.ref C)) ∧ ExcAt H a C
def TReps (K : PySem.W.Frag) (H : Hp) : List T → List V → Prop
  | [], xs => xs = []
  | t :: ts, xs => ∃ x r, xs = x :: r ∧ TRep K H t x ∧ TReps K H ts r
end
mutual
/-- no list within -/
def pur : T → Bool
  | .tup ts => purs ts
  | .lst _ => false
  | _ => true
def purs : List T → Bool
  | [] => true
  | t :: ts => pur t && purs ts
end

mutual
theorem TRep.mono {K : PySem.W.Frag} {H H' : Hp} (h : ∀ a xs, SqT K H a xs → SqT K H' a xs) (hl : ∀ a xs, SqL K H a xs → SqL K H' a xs) (he : ∀ a c, ExcAt H a c → ExcAt H' a c) : ∀ (t : T) (v : V), TRep K H t v → TRep K H' t v
  | .non, _, e => e
  | .bl _, _, e => e
  | .int _, _, e => e
  | .str _, _, e => e
  | .tup ts, _, ⟨a, xs, e, q, r⟩ => ⟨a, xs, e, h a xs q, TReps.mono h hl he ts xs r⟩
  | .lst ts, _, ⟨a, xs, e, q, r⟩ => ⟨a, xs, e, hl a xs q, TReps.mono h hl he ts xs r⟩
  | .exc c, _, ⟨a, C, e, z, q⟩ => ⟨a, C, e, z, he a C q⟩
theorem TReps.mono {K : PySem.W.Frag} {H H' : Hp} (h : ∀ a xs, SqT K H a xs → SqT K H' a xs) (hl : ∀ a xs, SqL K H a xs → SqL K H' a xs) (he : ∀ a c, ExcAt H a c → ExcAt H' a c) : ∀ (ts : List T) (xs : List V), TReps K H ts xs → TReps K H' ts xs
  | [], _, e => e
  | t :: ts, _, ⟨x, r, e, p, q⟩ => ⟨x, r, e, TRep.mono h hl he t x p, TReps.mono h hl he ts r q⟩
end
theorem Same.sqT {K : PySem.W.Frag} {H H' : Hp} (e : Same H H') (a : Addr) (xs : List V) (h : SqT K H a xs) : SqT K H' a xs := by
  rcases h with (h | ⟨o, h⟩) | h
  · exact .inl (.inl (e _ _ h))
  · exact .inl (.inr ⟨o, e _ _ h⟩)
  · exact .inr h
theorem TRep.same {K : PySem.W.Frag} {H H' : Hp} (e : Same H H') {t : T} {v : V} (h : TRep K H t v) : TRep K H' t v := TRep.mono (fun a xs q => Same.sqT e a xs q) (fun a xs q => e.seq q) (fun a c q => e _ _ q) t v h
theorem TReps.same {K : PySem.W.Frag} {H H' : Hp} (e : Same H H') {ts : List T} {xs : List V} (h : TReps K H ts xs) : TReps K H' ts xs := TReps.mono (fun a xs q => Same.sqT e a xs q) (fun a xs q => e.seq q) (fun a c q => e _ _ q) ts xs h
/-- all but lists lie in F too -/
def Full (F H : Hp) : Prop := ∀ b o, H b = some o → F b = some o ∨ ∃ xs, o = .lst xs
theorem Full.sqT {K : PySem.W.Frag} {F H : Hp} (f : Full F H) (a : Addr) (xs : List V) (h : SqT K H a xs) : SqT K F a xs := by
  rcases h with (h | ⟨o, h⟩) | h
  · rcases f _ _ h with q | ⟨ys, q⟩
    · exact .inl (.inl q)
    · cases q
  · rcases f _ _ h with q | ⟨ys, q⟩
    · exact .inl (.inr ⟨o, q⟩)
    · cases q
  · exact .inr h
theorem Full.exc {F H : Hp} (f : Full F H) {a c : Addr} (h : ExcAt H a c) : ExcAt F a c := by
  rcases f _ _ h with q | ⟨ys, q⟩
  · exact q
  · cases q
mutual
theorem TRep.fullM {K : PySem.W.Frag} {F H : Hp} (e : Full F H) : ∀ (t : T) (v : V), pur t = true → TRep K H t v → TRep K F t v
  | .non, _, _, h => h
  | .bl _, _, _, h => h
  | .int _, _, _, h => h
  | .str _, _, _, h => h
  | .tup ts, _, p, ⟨a, xs, h1, h2, h3⟩ => ⟨a, xs, h1, e.sqT a xs h2, TReps.fullM e ts xs (by simpa only [pur] using p) h3⟩
  | .lst _, _, p, _ => by simp [pur] at p
  | .exc _, _, _, ⟨a, C, h1, z, h2⟩ => ⟨a, C, h1, z, e.exc h2⟩
theorem TReps.fullM {K : PySem.W.Frag} {F H : Hp} (e : Full F H) : ∀ (ts : List T) (xs : List V), purs ts = true → TReps K H ts xs → TReps K F ts xs
  | [], _, _, h => h
  | t :: ts, _, p, ⟨x, r, h1, h2, h3⟩ => by
    simp only [purs, Bool.and_eq_true] at p
    exact ⟨x, r, h1, TRep.fullM e t x p.1 h2, TReps.fullM e ts r p.2 h3⟩
end
theorem TRep.full {K : PySem.W.Frag} {F H : Hp} (e : Full F H) {t : T} {v : V} (p : pur t = true) (h : TRep K H t v) : TRep K F t v := TRep.fullM e t v p h
theorem TReps.full {K : PySem.W.Frag} {F H : Hp} (e : Full F H) {ts : List T} {xs : List V} (p : purs ts = true) (h : TReps K H ts xs) : TReps K F ts xs := TReps.fullM e ts xs p h
/-- a tree that is seen: plain where it holds no list -/
def norm (x : T) : S := if pur x = true then .t x else .vt x
theorem TReps.length {K : PySem.W.Frag} {H : Hp} : ∀ {ts : List T} {xs : List V}, TReps K H ts xs → xs.length = ts.length
  | [], _, e => by cases (show _ = [] from e); rfl
  | t :: ts, _, ⟨x, r, e, _, q⟩ => by subst e; rw [List.length_cons, List.length_cons, TReps.length q]
theorem TReps.get {K : PySem.W.Frag} {H : Hp} : ∀ {ts : List T} {xs : List V} {i : Nat} {t : T}, TReps K H ts xs → ts[i]? = some t → ∃ x, xs[i]? = some x ∧ TRep K H t x
  | [], _, _, _, _, e => by simp at e
  | t :: ts, _, 0, u, ⟨x, r, e, p, q⟩, h => by subst e; simp at h; subst h; exact ⟨x, by simp, p⟩
  | t :: ts, _, i + 1, u, ⟨x, r, e, p, q⟩, h => by
    subst e
    obtain ⟨y, h1, h2⟩ := TReps.get (i := i) q (by simpa using h)
    exact ⟨y, by simpa using h1, h2⟩
theorem TReps.append {K : PySem.W.Frag} {H : Hp} : ∀ {ts us : List T} {xs ys : List V}, TReps K H ts xs → TReps K H us ys → TReps K H (ts ++ us) (xs ++ ys)
  | [], _, _, _, e, q => by cases (show _ = [] from e); exact q
  | t :: ts, _, _, _, ⟨x, r, e, p, q⟩, h => by subst e; exact ⟨x, r ++ _, rfl, p, TReps.append q h⟩
theorem TReps.one {K : PySem.W.Frag} {H : Hp} {t : T} {x : V} (h : TRep K H t x) : TReps K H [t] [x] := ⟨x, [], rfl, h, rfl⟩
theorem TReps.take {K : PySem.W.Frag} {H : Hp} : ∀ {ts : List T} {xs : List V} (n : Nat), TReps K H ts xs → TReps K H (ts.take n) (xs.take n)
  | _, _, 0, _ => by simp only [List.take_zero]; rfl
  | [], _, _ + 1, e => by cases (show _ = [] from e); rfl
  | t :: ts, _, n + 1, ⟨x, r, e, p, q⟩ => by subst e; exact ⟨x, r.take n, rfl, p, TReps.take n q⟩
theorem TReps.drop {K : PySem.W.Frag} {H : Hp} : ∀ {ts : List T} {xs : List V} (n : Nat), TReps K H ts xs → TReps K H (ts.drop n) (xs.drop n)
  | _, _, 0, h => by simp only [List.drop_zero]; exact h
  | [], _, _ + 1, e => by cases (show _ = [] from e); rfl
  | t :: ts, _, n + 1, ⟨x, r, e, p, q⟩ => by subst e; exact TReps.drop n q
theorem TReps.set {K : PySem.W.Frag} {H : Hp} {u : T} {y : V} (h : TRep K H u y) : ∀ {ts : List T} {xs : List V} (n : Nat), TReps K H ts xs → TReps K H (ts.set n u) (xs.set n y)
  | [], _, _, e => by cases (show _ = [] from e); rfl
  | t :: ts, _, 0, ⟨x, r, e, p, q⟩ => by subst e; exact ⟨y, r, rfl, h, q⟩
  | t :: ts, _, n + 1, ⟨x, r, e, p, q⟩ => by subst e; exact ⟨x, r.set n y, rfl, p, TReps.set h n q⟩
theorem TReps.dropLast {K : PySem.W.Frag} {H : Hp} {ts : List T} {xs : List V} (h : TReps K H ts xs) : TReps K H ts.dropLast xs.dropLast := by
  rw [List.dropLast_eq_take, List.dropLast_eq_take, h.length]
  exact h.take _
theorem TReps.reverse {K : PySem.W.Frag} {H : Hp} : ∀ {ts : List T} {xs : List V}, TReps K H ts xs → TReps K H ts.reverse xs.reverse
  | [], _, e => by cases (show _ = [] from e); rfl
  | t :: ts, _, ⟨x, r, e, p, q⟩ => by subst e; rw [List.reverse_cons, List.reverse_cons]; exact TReps.append (TReps.reverse q) (TReps.one p)
theorem TReps.ints {K : PySem.W.Frag} {H : Hp} : ∀ (ns : List Int), TReps K H (ns.map T.int) (ns.map V.int)
  | [] => rfl
  | n :: ns => ⟨.int n, ns.map V.int, rfl, rfl, TReps.ints ns⟩

abbrev DSt := List (Option S)
abbrev WE := DSt → (S → Prop) → Prop
abbrev WT := DSt → (Bool → Prop) → Prop
abbrev WA := DSt → (List S → Prop) → Prop
structure DEnds where
  nx : DSt → Prop
  rt : S → Prop
  bk : DSt → Prop := fun _ => False
  ct : DSt → Prop := fun _ => False
abbrev WS := DEnds → DSt → Prop

def SlotOk (K : PySem.W.Frag) (F H : Hp) : S → V → Prop
  | .t x, v => TRep K F x v
  | .vt _, _ => False
  | .ol ts, v => ∃ a xs, v = .ref a ∧ F a = none ∧ H a = some (.lst xs) ∧ TReps K F ts xs
structure Rel (K : PySem.W.Frag) (F H : Hp) (σ : St) (δ : DSt) : Prop where
  sub : Same F H
  full : Full F H
  len : σ.length = δ.length
  slot : ∀ (i : Nat) (s : S), δ[i]? = some (some s) → ∃ v, σ[i]? = some (some v) ∧ SlotOk K F H s v
  dist : ∀ (i j : Nat) (a : Addr) (ts us : List T), i ≠ j → δ[i]? = some (some (.ol ts)) → δ[j]? = some (some (.ol us)) → σ[i]? = some (some (.ref a)) → σ[j]? ≠ some (some (.ref a))
structure Ext (F H F' H' : Hp) : Prop where
  hh : Same H H'
  ff : Same F F'
  sub : Same F' H'
  full : Full F' H'
  keep : ∀ b, H b ≠ none → F b = none → F' b = none
theorem none_of_same {H H' : Hp} (e : Same H H') {b : Addr} (h : H' b = none) : H b = none := e.free h
theorem Ext.refl {F H : Hp} (a : Same F H) (b : Full F H) : Ext F H F H := ⟨Same.refl _, Same.refl _, a, b, fun _ _ h => h⟩
theorem Ext.trans {F H F1 H1 F2 H2 : Hp} (a : Ext F H F1 H1) (b : Ext F1 H1 F2 H2) : Ext F H F2 H2 :=
  ⟨a.hh.trans b.hh, a.ff.trans b.ff, b.sub, b.full, fun c h1 h2 => b.keep c (fun z => h1 (none_of_same a.hh z)) (a.keep c h1 h2)⟩
theorem SlotOk.ext {K : PySem.W.Frag} {F H F' H' : Hp} (e : Ext F H F' H') : ∀ {s : S} {v : V}, SlotOk K F H s v → SlotOk K F' H' s v
  | .t _, _, h => TRep.same e.ff h
  | .vt _, _, h => h
  | .ol _, _, ⟨a, xs, h1, h2, h3, h4⟩ => ⟨a, xs, h1, e.keep a (by rw [h3]; simp) h2, e.hh _ _ h3, TReps.same e.ff h4⟩
theorem Rel.ext {K : PySem.W.Frag} {F H F' H' : Hp} {σ : St} {δ : DSt} (r : Rel K F H σ δ) (e : Ext F H F' H') : Rel K F' H' σ δ :=
  ⟨e.sub, e.full, r.len, fun i s h => let ⟨v, h1, h2⟩ := r.slot i s h; ⟨v, h1, h2.ext e⟩, r.dist⟩
theorem Rel.refl {K : PySem.W.Frag} {F H : Hp} {σ : St} {δ : DSt} (r : Rel K F H σ δ) : Ext F H F H := Ext.refl r.sub r.full

/-- what an expression has yielded: H ahead of it, F' and H' behind -/
def RepE (K : PySem.W.Frag) (H F' H' : Hp) : S → V → Prop
  | .t x, v => TRep K F' x v
  | .vt x, v => TRep K H' x v
  | .ol ts, v => ∃ a xs, v = .ref a ∧ H a = none ∧ F' a = none ∧ H' a = some (.lst xs) ∧ TReps K F' ts xs
theorem RepE.ext {K : PySem.W.Frag} {H F1 H1 F2 H2 : Hp} (e : Ext F1 H1 F2 H2) : ∀ {s : S} {v : V}, RepE K H F1 H1 s v → RepE K H F2 H2 s v
  | .t _, _, h => TRep.same e.ff h
  | .vt _, _, h => TRep.same e.hh h
  | .ol _, _, ⟨a, xs, h1, h2, h3, h4⟩ => ⟨a, xs, h1, h2, e.keep a (by rw [h4.1]; simp) h3, e.hh _ _ h4.1, TReps.same e.ff h4.2⟩
theorem RepE.start {K : PySem.W.Frag} {H0 H F' H' : Hp} (e : Same H0 H) : ∀ {s : S} {v : V}, RepE K H F' H' s v → RepE K H0 F' H' s v
  | .t _, _, h => h
  | .vt _, _, h => h
  | .ol _, _, ⟨a, xs, h1, h2, h3⟩ => ⟨a, xs, h1, none_of_same e h2, h3⟩
theorem RepE.norm {K : PySem.W.Frag} {H F H' : Hp} (f : Full F H') {x : T} {v : V} (h : TRep K H' x v) : RepE K H F H' (norm x) v := by
  unfold DL.norm
  split
  · rename_i p; exact TRep.full f p h
  · exact h
/-- an operand -/
def RepV (K : PySem.W.Frag) (F H : Hp) : S → V → Prop
  | .t x, v => TRep K F x v
  | .vt x, v => TRep K H x v
  | .ol ts, v => ∃ a xs, v = .ref a ∧ SqL K H a xs ∧ TReps K F ts xs
theorem RepE.val {K : PySem.W.Frag} {H0 F H : Hp} (e : Same F H) : ∀ {s : S} {v : V}, RepE K H0 F H s v → RepV K F H s v
  | .t _, _, h => h
  | .vt _, _, h => h
  | .ol _, _, ⟨a, xs, h1, _, _, h2, h3⟩ => ⟨a, xs, h1, SqL.of h2, h3⟩
/-- the tree of a value -/
def tr : S → T
  | .t x => x
  | .vt x => x
  | .ol ts => .lst ts
theorem RepV.tree {K : PySem.W.Frag} {F H : Hp} (e : Same F H) : ∀ {s : S} {v : V}, RepV K F H s v → TRep K H (tr s) v
  | .t _, _, h => TRep.same e h
  | .vt _, _, h => h
  | .ol _, _, ⟨a, xs, h1, h2, h3⟩ => ⟨a, xs, h1, h2, TReps.same e h3⟩
/-- the items of a list value -/
def items : S → Option (List T)
  | .t (.lst ts) => some ts
  | .vt (.lst ts) => some ts
  | .ol ts => some ts
  | _ => none
theorem RepV.list {K : PySem.W.Frag} {F H : Hp} (e : Same F H) {s : S} {v : V} {ts : List T} (h : RepV K F H s v) (q : items s = some ts) : ∃ a xs, v = .ref a ∧ SqL K H a xs ∧ TReps K H ts xs := by
  cases s with
  | t x =>
    cases x with
    | lst us =>
      have e1 : us = ts := Option.some.inj q
      subst e1
      unfold RepV TRep at h
      obtain ⟨a, xs, h1, h2, h3⟩ := h
      exact ⟨a, xs, h1, e.seq h2, TReps.same e h3⟩
    | _ => cases q
  | vt x =>
    cases x with
    | lst us =>
      have e1 : us = ts := Option.some.inj q
      subst e1
      unfold RepV TRep at h
      exact h
    | _ => cases q
  | ol us =>
    have e1 : us = ts := Option.some.inj q
    subst e1
    unfold RepV at h
    obtain ⟨a, xs, h1, h2, h3⟩ := h
    exact ⟨a, xs, h1, h2, TReps.same e h3⟩

def liftE (K : PySem.W.Frag) (w : WE) : TE := fun σ H Q => ∃ δ R F, Rel K F H σ δ ∧ w δ R ∧ ∀ v F' H' s, Ext F H F' H' → RepE K H F' H' s v → R s → Q v H'
def liftT (K : PySem.W.Frag) (w : WT) : TT := fun σ H Q => ∃ δ R F, Rel K F H σ δ ∧ w δ R ∧ ∀ F' H' b, Ext F H F' H' → R b → Q b H'
def RepEs (K : PySem.W.Frag) (H F' H' : Hp) : List S → List V → Prop
  | [], vs => vs = []
  | s :: ss, vs => ∃ v r, vs = v :: r ∧ RepE K H F' H' s v ∧ RepEs K H F' H' ss r
theorem RepEs.start {K : PySem.W.Frag} {H0 H F' H' : Hp} (e : Same H0 H) : ∀ {ss : List S} {vs : List V}, RepEs K H F' H' ss vs → RepEs K H0 F' H' ss vs
  | [], _, h => h
  | _ :: _, _, ⟨v, r, h1, h2, h3⟩ => ⟨v, r, h1, h2.start e, RepEs.start e h3⟩
def liftA (K : PySem.W.Frag) (w : WA) : TA := fun σ H Q => ∃ δ R F, Rel K F H σ δ ∧ w δ R ∧ ∀ vs F' H' ss, Ext F H F' H' → RepEs K H F' H' ss vs → R ss → Q vs H'
/-- what a def gives back: H₀ at its entry -/
def RepC (K : PySem.W.Frag) (H₀ H' : Hp) : S → V → Prop
  | .t x, v => TRep K H' x v
  | .vt _, _ => False
  | .ol ts, v => ∃ a xs, v = .ref a ∧ H₀ a = none ∧ H' a = some (.lst xs) ∧ TReps K H' ts xs
structure EndsOk (K : PySem.W.Frag) (H₀ F : Hp) (D' : DEnds) (D : Ends) : Prop where
  nx : ∀ σ' F' H' δ', Same F F' → Rel K F' H' σ' δ' → D'.nx δ' → D.nx σ' H'
  rt : ∀ v H' s, Same H₀ H' → RepC K H₀ H' s v → D'.rt s → D.rt v H'
  bk : ∀ σ' F' H' δ', Same F F' → Rel K F' H' σ' δ' → D'.bk δ' → D.bk σ' H'
  ct : ∀ σ' F' H' δ', Same F F' → Rel K F' H' σ' δ' → D'.ct δ' → D.ct σ' H'
theorem EndsOk.mono {K : PySem.W.Frag} {H₀ F F1 : Hp} {D' : DEnds} {D : Ends} (e : EndsOk K H₀ F D' D) (s : Same F F1) : EndsOk K H₀ F1 D' D :=
  ⟨fun _ _ _ _ h => e.nx _ _ _ _ (s.trans h), e.rt, fun _ _ _ _ h => e.bk _ _ _ _ (s.trans h), fun _ _ _ _ h => e.ct _ _ _ _ (s.trans h)⟩
def liftS (K : PySem.W.Frag) (H₀ : Hp) (w : WS) : TS := fun D σ H => ∃ δ D' F, Same H₀ F ∧ Rel K F H σ δ ∧ w D' δ ∧ EndsOk K H₀ F D' D

end DL
namespace L2
open PySem
section
variable {X : Cx} {e : Expr} {t t' : TE}
theorem PE.imp (h : PE X e t) (i : ∀ σ H Q, t' σ H Q → t σ H Q) : PE X e t' := fun pins s σ H Q I q => h pins s σ H Q I (i σ H Q q)
theorem PT.imp {t t' : TT} (h : PT X e t) (i : ∀ σ H Q, t' σ H Q → t σ H Q) : PT X e t' := fun pins s σ H Q I q => h pins s σ H Q I (i σ H Q q)
theorem PW.imp {t t' : TT} (h : PW X e t) (i : ∀ σ H Q, t' σ H Q → t σ H Q) : PW X e t' := fun wh pins s σ H Q I q => h wh pins s σ H Q I (i σ H Q q)
theorem PA.imp {es : List Expr} {t t' : TA} (h : PA X es t) (i : ∀ σ H Q, t' σ H Q → t σ H Q) : PA X es t' := fun pos pins s σ H Q I q => h pos pins s σ H Q I (i σ H Q q)
theorem PS.imp {st : Stmt} {t t' : TS} (h : PS X st t) (i : ∀ D σ H, t' D σ H → t D σ H) : PS X st t' := fun pins s σ H D I q => h pins s σ H D I (i D σ H q)
theorem PSs.imp {st : List Stmt} {t t' : TS} (h : PSs X st t) (i : ∀ D σ H, t' D σ H → t D σ H) : PSs X st t' := fun pins s σ H D I q => h pins s σ H D I (i D σ H q)
theorem PG.imp {tg : Expr} {t t' : TG} (h : PG X tg t) (i : ∀ v σ H Q, t' v σ H Q → t v σ H Q) : PG X tg t' := fun pins s σ H v u Q I r q => h pins s σ H v u Q I r (i v σ H Q q)
theorem PGs.imp {tg : List Expr} {t t' : TGs} (h : PGs X tg t) (i : ∀ v σ H Q, t' v σ H Q → t v σ H Q) : PGs X tg t' := fun pins s σ H v u Q I r q => h pins s σ H v u Q I r (i v σ H Q q)
theorem PI.imp {tg iter : Expr} {t t' : TI} (h : PI X tg iter t) (i : ∀ σ H Q, t' σ H Q → t σ H Q) : PI X tg iter t' := fun pins s σ H R I q => h pins s σ H R I (i σ H R q)
end
end L2
namespace DL
open PySem L2
/-! ### expressions -/
def wC (x : T) : WE := fun _ R => R (.t x)
def seen : S → S
  | .ol ts => .vt (.lst ts)
  | .t x => .t x
  | .vt x => .vt x
def wVar (i : Nat) : WE := fun δ R => match δ[i]? with
  | some (some s) => R (seen s)
  | _ => False
section
variable {X : Cx} {a b c : Expr} {wa wb wc : WE} {pos : Pos}
theorem de_int {i j pos} : PE X (.Constant (.int i) j pos) (liftE X.K (wC (.int i))) := pe_int.imp fun _ _ _ ⟨_, _, _, r, h, k⟩ => k _ _ _ (.t (.int i)) r.refl rfl h
theorem de_bl {i j pos} : PE X (.Constant (.bool i) j pos) (liftE X.K (wC (.bl i))) := pe_bl.imp fun _ _ _ ⟨_, _, _, r, h, k⟩ => k _ _ _ (.t (.bl i)) r.refl rfl h
theorem de_non {j pos} : PE X (.Constant .none j pos) (liftE X.K (wC .non)) := pe_non.imp fun _ _ _ ⟨_, _, _, r, h, k⟩ => k _ _ _ (.t .non) r.refl rfl h
theorem de_str {i j pos} : PE X (.Constant (.str i) j pos) (liftE X.K (wC (.str i))) := pe_str.imp fun _ _ _ ⟨_, _, _, r, h, k⟩ => k _ _ _ (.t (.str i)) r.refl rfl h
theorem seen_ok {K : PySem.W.Frag} {F H : Hp} (e : Same F H) : ∀ {s : S} {v : V}, SlotOk K F H s v → RepE K H F H (seen s) v
  | .t _, _, h => h
  | .vt _, _, h => False.elim h
  | .ol _, _, ⟨a, xs, h1, _, h3, h4⟩ => ⟨a, xs, h1, SqL.of h3, TReps.same e h4⟩
theorem de_of_var {e : Expr} {i : Nat} (h : PE X e (tVar i)) : PE X e (liftE X.K (wVar i)) := h.imp fun σ H Q ⟨δ, R, F, r, h, k⟩ => by
  unfold wVar at h
  split at h
  · rename_i s hs
    obtain ⟨v, h1, h2⟩ := r.slot i s hs
    exact ⟨v, h1, k _ _ _ _ r.refl (seen_ok r.sub h2) h⟩
  · exact h.elim
theorem dv (i : Nat) {x : Str} {pos : Pos} (hN : X.N[i]? = some x := by rfl) (hv : Vis X.env.scope x := by first | exact Or.inl rfl | exact Or.inr (Or.inl rfl) | exact Or.inr (Or.inr rfl)) (hd : (x == ("__debug__" : Str)) = false := by decide)
    (hcd : (x == ("__classdict__" : Str)) = false := by decide) : PE X (.Name x pos) (liftE X.K (wVar i)) := de_of_var (pe_var hN hv hd hcd)

/-- two operands, one after another -/
def wOp2 (f : S → S → (S → Prop) → Prop) (wa wb : WE) : WE := fun δ R => wa δ fun x => wb δ fun y => f x y R
def Op2 (K : PySem.W.Frag) (r : R2) (f : S → S → (S → Prop) → Prop) : Prop :=
  ∀ F H s1 s2 v1 v2 R Q, Same F H → Full F H → RepV K F H s1 v1 → RepV K F H s2 v2 → f s1 s2 R → (∀ v F' H' s, Ext F H F' H' → RepE K H F' H' s v → R s → Q v H') → r v1 v2 H Q
theorem lift_op2 {K : PySem.W.Frag} {r : R2} {f : S → S → (S → Prop) → Prop} (ho : Op2 K r f) : ∀ σ H Q, liftE K (wOp2 f wa wb) σ H Q → tOp r (liftE K wa) (liftE K wb) σ H Q := by
  rintro σ H Q ⟨δ, R, F, rl, h, k⟩
  refine ⟨δ, _, F, rl, h, fun v1 F1 H1 s1 e1 p1 h1 => ?_⟩
  refine ⟨δ, _, F1, rl.ext e1, h1, fun v2 F2 H2 s2 e2 p2 h2 => ?_⟩
  refine ho F2 H2 s1 s2 v1 v2 R Q e2.sub e2.full ((p1.ext e2).val e2.sub) (p2.val e2.sub) h2 fun v F' H' s e p q => ?_
  exact k v F' H' s ((e1.trans e2).trans e) (p.start (e1.trans e2).hh) q
def fI (C : Int → Int → Prop) (g : Int → Int → T) : S → S → (S → Prop) → Prop
  | .t (.int i), .t (.int j), R => C i j ∧ R (.t (g i j))
  | _, _, _ => False
def fI0 (g : Int → Int → T) : S → S → (S → Prop) → Prop
  | .t (.int i), .t (.int j), R => R (.t (g i j))
  | _, _, _ => False
theorem fI_ints {C : Int → Int → Prop} {g : Int → Int → T} : ∀ {s1 s2 : S} {R : S → Prop}, fI C g s1 s2 R → ∃ i j, s1 = .t (.int i) ∧ s2 = .t (.int j) ∧ C i j ∧ R (.t (g i j))
  | .t (.int i), .t (.int j), _, h => ⟨i, j, rfl, rfl, h.1, h.2⟩
theorem fI0_ints {g : Int → Int → T} : ∀ {s1 s2 : S} {R : S → Prop}, fI0 g s1 s2 R → ∃ i j, s1 = .t (.int i) ∧ s2 = .t (.int j) ∧ R (.t (g i j))
  | .t (.int i), .t (.int j), _, h => ⟨i, j, rfl, rfl, h⟩
/-- a flat value -/
def toV : T → V
  | .bl b => .bl b
  | .int i => .int i
  | .str x => .str x
  | _ => .non
def flat : T → Bool
  | .tup _ => false
  | .lst _ => false
  | .exc _ => false
  | _ => true
theorem flat_rep {K : PySem.W.Frag} {F : Hp} : ∀ {x : T}, flat x = true → TRep K F x (toV x)
  | .non, _ => rfl
  | .bl _, _ => rfl
  | .int _, _ => rfl
  | .str _, _ => rfl
theorem op2_I {K : PySem.W.Frag} {C : Int → Int → Prop} {g : Int → Int → T} (hg : ∀ i j, flat (g i j) = true) : Op2 K (rI C fun i j => toV (g i j)) (fI C g) := by
  intro F H s1 s2 v1 v2 R Q sb fu p1 p2 h k
  obtain ⟨i, j, rfl, rfl, hc, hr⟩ := fI_ints h
  exact ⟨i, j, p1, p2, hc, k _ F H (.t (g i j)) (Ext.refl sb fu) (flat_rep (hg i j)) hr⟩
theorem op2_I0 {K : PySem.W.Frag} {g : Int → Int → T} (hg : ∀ i j, flat (g i j) = true) : Op2 K (rI0 fun i j => toV (g i j)) (fI0 g) := by
  intro F H s1 s2 v1 v2 R Q sb fu p1 p2 h k
  obtain ⟨i, j, rfl, rfl, hr⟩ := fI0_ints h
  exact ⟨i, j, p1, p2, k _ F H (.t (g i j)) (Ext.refl sb fu) (flat_rep (hg i j)) hr⟩
abbrev wAdd := wOp2 (fI0 fun i j => .int (i + j))
abbrev wSub := wOp2 (fI0 fun i j => .int (i - j))
/-- sizes, closed up: nothing is reckoned where these are compared -/
structure MulOk (i j : Int) : Prop where
  ok : IntMulOk i j
structure PowOk (i j : Int) : Prop where
  ok : CPow i j
abbrev wMul := wOp2 (fI MulOk fun i j => .int (i * j))
/-- a divisor that is not 0, not both over-long -/
structure DivOk (i j : Int) : Prop where
  ne : j ≠ 0
  short : Builtin.divisionGoesByPylong i j = false
abbrev wFdiv := wOp2 (fI DivOk fun i j => .int (i.fdiv j))
abbrev wMod := wOp2 (fI (fun _ j => j ≠ 0) fun i j => .int (i.fmod j))
abbrev wPow := wOp2 (fI PowOk fun i j => .int (i ^ j.toNat))
theorem op_mulW : OpR X (binaryOp .Mult) (rI MulOk fun i j => .int (i * j)) := opI fun _ _ _ _ _ _ _ hc q => PyProof.Rows.mul_int q hc.ok
theorem op_fdivW : OpR X (binaryOp .FloorDiv) (rI DivOk fun i j => .int (i.fdiv j)) := opI fun _ _ _ _ _ _ _ hc q => PyProof.Rows.floordiv_int hc.ne q (.inl hc.short)
theorem de_add (ha : PE X a (liftE X.K wa)) (hb : PE X b (liftE X.K wb)) : PE X (.BinOp a .Add b pos) (liftE X.K (wAdd wa wb)) := (pe_op op_add ha hb).imp (lift_op2 (op2_I0 fun _ _ => rfl))
theorem de_sub (ha : PE X a (liftE X.K wa)) (hb : PE X b (liftE X.K wb)) : PE X (.BinOp a .Sub b pos) (liftE X.K (wSub wa wb)) := (pe_op op_sub ha hb).imp (lift_op2 (op2_I0 fun _ _ => rfl))
theorem de_mul (ha : PE X a (liftE X.K wa)) (hb : PE X b (liftE X.K wb)) : PE X (.BinOp a .Mult b pos) (liftE X.K (wMul wa wb)) := (pe_op op_mulW ha hb).imp (lift_op2 (op2_I fun _ _ => rfl))
theorem de_fdiv (ha : PE X a (liftE X.K wa)) (hb : PE X b (liftE X.K wb)) : PE X (.BinOp a .FloorDiv b pos) (liftE X.K (wFdiv wa wb)) := (pe_op op_fdivW ha hb).imp (lift_op2 (op2_I fun _ _ => rfl))
theorem de_mod (ha : PE X a (liftE X.K wa)) (hb : PE X b (liftE X.K wb)) : PE X (.BinOp a .Mod b pos) (liftE X.K (wMod wa wb)) := (pe_op op_modN ha hb).imp (lift_op2 (op2_I fun _ _ => rfl))
theorem de_pow (ha : PE X a (liftE X.K wa)) (hb : PE X b (liftE X.K wb)) : PE X (.BinOp a .Pow b pos) (liftE X.K (wPow wa wb)) := (pe_op (show OpR X (binaryOp .Pow) (rI PowOk fun i j => .int (i ^ j.toNat)) from fun pins s σ H x y v u Q I rx ry ⟨i, j, e1, e2, hc, q⟩ => op_pow pins s σ H x y v u Q I rx ry ⟨i, j, e1, e2, hc.ok, q⟩) ha hb).imp (lift_op2 (op2_I fun _ _ => rfl))
/-! comparisons of ints -/
abbrev wLt := wOp2 (fI0 fun i j => .bl (decide (i < j)))
abbrev wLe := wOp2 (fI0 fun i j => .bl (decide (i ≤ j)))
abbrev wGt := wOp2 (fI0 fun i j => .bl (decide (j < i)))
abbrev wGe := wOp2 (fI0 fun i j => .bl (decide (j ≤ i)))
theorem de_lt (ha : PE X a (liftE X.K wa)) (hb : PE X b (liftE X.K wb)) : PE X (.Compare a [.Lt] [b] pos) (liftE X.K (wLt wa wb)) := (pe_cmpR op_lt ha hb (nomark _)).imp (lift_op2 (op2_I0 fun _ _ => rfl))
/-! a value as a test -/
def wB (w : WE) : WT := fun δ R => w δ fun s => match s with
  | .t (.bl k) => R k
  | _ => False
theorem dt_cmp {op : CmpOp} {r : R2} {f : S → S → (S → Prop) → Prop} (ho : OpR X (compareOp op) r) (hf : Op2 X.K r f) (ha : PE X a (liftE X.K wa)) (hb : PE X b (liftE X.K wb)) (hm : behindInMarks op b = false) : PT X (.Compare a [op] [b] pos) (liftT X.K (wB (wOp2 f wa wb))) :=
  (pt_cmpR ho ha hb hm).imp fun σ H Q h => by
    obtain ⟨δ, R, F, rl, h, k⟩ := h
    refine lift_op2 hf σ H _ ⟨δ, _, F, rl, h, fun v F1 H1 s e p q => ?_⟩
    split at q
    · exact ⟨_, p, k F1 H1 _ e q⟩
    · exact q.elim
theorem dt_lt (ha : PE X a (liftE X.K wa)) (hb : PE X b (liftE X.K wb)) : PT X (.Compare a [.Lt] [b] pos) (liftT X.K (wB (wLt wa wb))) := dt_cmp op_lt (op2_I0 fun _ _ => rfl) ha hb (nomark _)
theorem dt_le (ha : PE X a (liftE X.K wa)) (hb : PE X b (liftE X.K wb)) : PT X (.Compare a [.LtE] [b] pos) (liftT X.K (wB (wLe wa wb))) := dt_cmp op_le (op2_I0 fun _ _ => rfl) ha hb (nomark _)
theorem dt_gt (ha : PE X a (liftE X.K wa)) (hb : PE X b (liftE X.K wb)) : PT X (.Compare a [.Gt] [b] pos) (liftT X.K (wB (wGt wa wb))) := dt_cmp op_gt (op2_I0 fun _ _ => rfl) ha hb (nomark _)
theorem dt_ge (ha : PE X a (liftE X.K wa)) (hb : PE X b (liftE X.K wb)) : PT X (.Compare a [.GtE] [b] pos) (liftT X.K (wB (wGe wa wb))) := dt_cmp op_ge (op2_I0 fun _ _ => rfl) ha hb (nomark _)
/-- any expression that yields a truth, as a test -/
theorem dt_val {e : Expr} {w : WE} (h : PE X e (liftE X.K w)) (he : ∀ whole, isTrue e X.env whole = (do let v ← whole; standAt e.pos; holding [v] (truthy v)) := by intro _; rfl) : PT X e (liftT X.K (wB w)) :=
  (pt_val h he).imp fun σ H Q h => by
    obtain ⟨δ, R, F, rl, h, k⟩ := h
    refine ⟨δ, _, F, rl, h, fun v F1 H1 s e p q => ?_⟩
    split at q
    · exact ⟨_, p, k F1 H1 _ e q⟩
    · exact q.elim
def wAndT (t u : WT) : WT := fun δ R => t δ fun k => if k = true then u δ R else R false
def wOrT (t u : WT) : WT := fun δ R => t δ fun k => if k = true then R true else u δ R
def wNotT (t : WT) : WT := fun δ R => t δ fun k => R (!k)
theorem dw_and1 {t : WT} (ha : PT X a (liftT X.K t)) : PW X (.BoolOp .And [a] pos) (liftT X.K t) := pw_and1 ha
theorem dw_or1 {t : WT} (ha : PT X a (liftT X.K t)) : PW X (.BoolOp .Or [a] pos) (liftT X.K t) := pw_or1 ha
theorem dw_and {rest : List Expr} {t u : WT} (ha : PT X a (liftT X.K t)) (hb : PW X (.BoolOp .And (b :: rest) pos) (liftT X.K u)) : PW X (.BoolOp .And (a :: b :: rest) pos) (liftT X.K (wAndT t u)) :=
  (pw_and ha hb).imp fun σ H Q ⟨δ, R, F, rl, h, k⟩ => ⟨δ, _, F, rl, h, fun F1 H1 c e q => by
    cases c with
    | true => exact ⟨δ, R, F1, rl.ext e, by simpa using q, fun F2 H2 c e2 q => k F2 H2 c (e.trans e2) q⟩
    | false => exact k F1 H1 false e (by simpa using q)⟩
theorem dw_or {rest : List Expr} {t u : WT} (ha : PT X a (liftT X.K t)) (hb : PW X (.BoolOp .Or (b :: rest) pos) (liftT X.K u)) : PW X (.BoolOp .Or (a :: b :: rest) pos) (liftT X.K (wOrT t u)) :=
  (pw_or ha hb).imp fun σ H Q ⟨δ, R, F, rl, h, k⟩ => ⟨δ, _, F, rl, h, fun F1 H1 c e q => by
    cases c with
    | false => exact ⟨δ, R, F1, rl.ext e, by simpa using q, fun F2 H2 c e2 q => k F2 H2 c (e.trans e2) q⟩
    | true => exact k F1 H1 true e (by simpa using q)⟩
theorem dt_not {t : WT} (ha : PT X a (liftT X.K t)) : PT X (.UnaryOp .Not a pos) (liftT X.K (wNotT t)) :=
  (pt_not ha).imp fun σ H Q ⟨δ, R, F, rl, h, k⟩ => ⟨δ, _, F, rl, h, fun F1 H1 c e q => k F1 H1 (!c) e q⟩
/-- a test with a word of one's own behind it -/
def wT1 (t : WT) : WT := fun δ R => ∃ P : Bool → Prop, t δ P ∧ ∀ k, P k → R k
theorem dt_1 {t : WT} (ha : PT X a (liftT X.K t)) : PT X a (liftT X.K (wT1 t)) := ha.imp fun σ H Q ⟨δ, R, F, rl, ⟨P, h, k1⟩, k⟩ => ⟨δ, P, F, rl, h, fun F1 H1 c e q => k F1 H1 c e (k1 c q)⟩
/-! and, or, not, x if c else y as values -/
def wAndV (wa wb : WE) : WE := fun δ R => wa δ fun s => match s with
  | .t (.bl k) => if k = true then wb δ R else R (.t (.bl false))
  | _ => False
def wOrV (wa wb : WE) : WE := fun δ R => wa δ fun s => match s with
  | .t (.bl k) => if k = true then R (.t (.bl true)) else wb δ R
  | _ => False
def wNotV (wa : WE) : WE := fun δ R => wa δ fun s => match s with
  | .t (.bl k) => R (.t (.bl (!k)))
  | _ => False
def wIfE (c : WT) (wa wb : WE) : WE := fun δ R => c δ fun k => if k = true then wa δ R else wb δ R
/-! one operand -/
def wUn (f : S → (S → Prop) → Prop) (wa : WE) : WE := fun δ R => wa δ fun x => f x R
def fNeg : S → (S → Prop) → Prop
  | .t (.int i), R => R (.t (.int (-i)))
  | _, _ => False
theorem de_neg (ha : PE X a (liftE X.K wa)) : PE X (.UnaryOp .USub a pos) (liftE X.K (wUn fNeg wa)) :=
  (pe_un un_neg ha).imp fun σ H Q ⟨δ, R, F, rl, h, k⟩ => ⟨δ, _, F, rl, h, fun v F1 H1 s e p q => by
    unfold fNeg at q
    split at q
    · exact ⟨_, p, k _ F1 H1 (.t (.int _)) e rfl q⟩
    · exact q.elim⟩
/-! an item by its place -/
def atT (ts : List T) (i : Int) (R : S → Prop) : Prop := match atI ts i with
  | some x => R (.t x)
  | none => False
def atV (ts : List T) (i : Int) (R : S → Prop) : Prop := match atI ts i with
  | some x => R (norm x)
  | none => False
def fIx : S → S → (S → Prop) → Prop
  | .t (.tup ts), .t (.int i), R => atT ts i R
  | .t (.lst ts), .t (.int i), R => atT ts i R
  | .vt (.tup ts), .t (.int i), R => atV ts i R
  | .vt (.lst ts), .t (.int i), R => atV ts i R
  | .ol ts, .t (.int i), R => atT ts i R
  | _, _, _ => False
theorem TReps.atI {K : PySem.W.Frag} {H : Hp} {ts : List T} {xs : List V} {i : Int} {t : T} (h : TReps K H ts xs) (e : atI ts i = some t) : ∃ x, atI xs i = some x ∧ TRep K H t x := by
  unfold L2.atI at e ⊢
  rw [h.length]
  cases q : ixN ts.length i with
  | none => rw [q] at e; cases e
  | some j =>
    rw [q] at e
    obtain ⟨x, h1, h2⟩ := h.get (i := j) (by simpa using e)
    exact ⟨x, by simpa using h1, h2⟩
theorem atT_shape {ts : List T} {i : Int} {R : S → Prop} (h : atT ts i R) : ∃ x, atI ts i = some x ∧ R (.t x) := by
  unfold atT at h
  cases e : atI ts i with
  | none => simp only [e] at h
  | some x => simp only [e] at h; exact ⟨x, rfl, h⟩
theorem atV_shape {ts : List T} {i : Int} {R : S → Prop} (h : atV ts i R) : ∃ x, atI ts i = some x ∧ R (norm x) := by
  unfold atV at h
  cases e : atI ts i with
  | none => simp only [e] at h
  | some x => simp only [e] at h; exact ⟨x, rfl, h⟩
theorem op2_ix {K : PySem.W.Frag} : Op2 K (fun x y H Q => rIxL K x y H Q ∨ rIxT K x y H Q) fIx := by
  intro F H s1 s2 v1 v2 R Q sb fu p1 p2 h k
  unfold fIx at h
  split at h
  · obtain ⟨x, hx, hr⟩ := atT_shape h
    obtain ⟨a, xs, e1, h1, h2⟩ := p1
    obtain ⟨y, h3, h4⟩ := h2.atI hx
    exact .inr ⟨a, xs, _, y, e1, p2, Same.sqT sb a xs h1, h3, k _ F H (.t x) (Ext.refl sb fu) h4 hr⟩
  · obtain ⟨x, hx, hr⟩ := atT_shape h
    obtain ⟨a, xs, e1, h1, h2⟩ := p1
    obtain ⟨y, h3, h4⟩ := h2.atI hx
    exact .inl ⟨a, xs, _, y, e1, p2, sb.seq h1, h3, k _ F H (.t x) (Ext.refl sb fu) h4 hr⟩
  · obtain ⟨x, hx, hr⟩ := atV_shape h
    obtain ⟨a, xs, e1, h1, h2⟩ := p1
    obtain ⟨y, h3, h4⟩ := h2.atI hx
    exact .inr ⟨a, xs, _, y, e1, p2, h1, h3, k _ F H _ (Ext.refl sb fu) (RepE.norm fu h4) hr⟩
  · obtain ⟨x, hx, hr⟩ := atV_shape h
    obtain ⟨a, xs, e1, h1, h2⟩ := p1
    obtain ⟨y, h3, h4⟩ := h2.atI hx
    exact .inl ⟨a, xs, _, y, e1, p2, h1, h3, k _ F H _ (Ext.refl sb fu) (RepE.norm fu h4) hr⟩
  · obtain ⟨x, hx, hr⟩ := atT_shape h
    obtain ⟨a, xs, e1, h1, h2⟩ := p1
    obtain ⟨y, h3, h4⟩ := h2.atI hx
    exact .inl ⟨a, xs, _, y, e1, p2, h1, h3, k _ F H (.t x) (Ext.refl sb fu) h4 hr⟩
  · exact h.elim
theorem de_ix (ha : PE X a (liftE X.K wa)) (hb : PE X b (liftE X.K wb)) (hs : PlainIx b := by exact fun _ _ => rfl) : PE X (.Subscript a b pos) (liftE X.K (wOp2 fIx wa wb)) :=
  (pe_ix (ix_list.or ix_tup) ha hb hs).imp (lift_op2 op2_ix)
end
end DL

set_option Elab.async false
set_option linter.all false
set_option maxRecDepth 100000
namespace DL
open PySem L2

/-! ### arguments, displays, calls -/
theorem upd_some {H : Hp} {p : Addr} {o : HO} (hp : H p = none) : Same H (upd H p o) := fun b u q => by rw [upd_ne (ne_of_none q hp)]; exact q
theorem Ext.new {F H : Hp} {p : Addr} (o : HO) (sb : Same F H) (fu : Full F H) (hp : H p = none) : Ext F H (upd F p o) (upd H p o) := by
  have fp : F p = none := none_of_same sb hp
  refine ⟨upd_some hp, upd_some fp, fun b u q => ?_, fun b u q => ?_, fun b h1 h2 => ?_⟩
  · unfold upd at q ⊢
    split
    · rename_i e; rw [if_pos e] at q; exact q
    · rename_i e; rw [if_neg e] at q; exact sb _ _ q
  · unfold upd at q ⊢
    by_cases e : b = p
    · rw [if_pos e] at q; exact .inl (by rw [if_pos e]; exact q)
    · rw [if_neg e] at q; rw [if_neg e]; exact fu _ _ q
  · have : b ≠ p := fun e => h1 (by rw [e]; exact hp)
    rw [upd_ne this]; exact h2
theorem Ext.newL {F H : Hp} {p : Addr} (xs : List V) (sb : Same F H) (fu : Full F H) (hp : H p = none) : Ext F H F (upd H p (.lst xs)) := by
  have fp : F p = none := none_of_same sb hp
  refine ⟨upd_some hp, Same.refl _, sb.trans (upd_some hp), fun b u q => ?_, fun b _ h2 => h2⟩
  unfold upd at q
  by_cases e : b = p
  · rw [if_pos e] at q; cases q; exact .inr ⟨xs, rfl⟩
  · rw [if_neg e] at q; exact fu _ _ q
def wNil : WA := fun _ R => R []
def wCons (wa : WE) (wr : WA) : WA := fun δ R => wa δ fun x => wr δ fun xs => R (x :: xs)
/-- F grown by what is new in H', but for x -/
def grow (F H H' : Hp) (x : Option Addr) : Hp := fun b => if (H b).isNone = true then (if x = some b then none else H' b) else F b
theorem grow_ext {F H H' : Hp} {x : Option Addr} (sb : Same F H) (fu : Full F H) (s : Same H H') (hx : ∀ a, x = some a → ∃ xs, H' a = some (.lst xs)) : Ext F H (grow F H H' x) H' := by
  have hs : ∀ {b : Addr} {o : HO}, H b = some o → (H b).isNone = true → False := fun {b o} e h => by rw [e] at h; cases h
  refine ⟨s, fun b o q => ?_, fun b o q => ?_, fun b o q => ?_, fun b h1 h2 => ?_⟩
  · unfold grow
    rw [if_neg (fun z => hs (sb _ _ q) z)]; exact q
  · unfold grow at q
    split at q
    · split at q
      · cases q
      · exact q
    · exact s _ _ (sb _ _ q)
  · unfold grow
    cases e : H b with
    | none =>
      rw [if_pos (show (none : Option HO).isNone = true from rfl)]
      by_cases z : x = some b
      · obtain ⟨xs, q'⟩ := hx b z
        rw [q] at q'; cases q'
        exact .inr ⟨xs, rfl⟩
      · rw [if_neg z]; exact .inl q
    | some o' =>
      rw [if_neg (by simp)]
      have := s _ _ e
      rw [q] at this; cases this
      exact fu _ _ e
  · unfold grow
    rw [if_neg (fun z => h1 (Option.isNone_iff_eq_none.mp z))]; exact h2
/-- all that is new since H is frozen -/
theorem Ext.frozen {F H F1 H1 : Hp} (sb : Same F H) (e : Ext F H F1 H1) : Ext F H (grow F1 H H1 none) H1 ∧ Same F1 (grow F1 H H1 none) := by
  have hs : ∀ {b : Addr} {o : HO}, H b = some o → (H b).isNone = true → False := fun {b o} e h => by rw [e] at h; cases h
  refine ⟨⟨e.hh, fun b o q => ?_, fun b o q => ?_, fun b o q => ?_, fun b h1 h2 => ?_⟩, fun b o q => ?_⟩
  · unfold grow
    rw [if_neg (fun z => hs (sb _ _ q) z)]; exact e.ff _ _ q
  · unfold grow at q
    split at q
    · split at q
      · cases q
      · exact q
    · exact e.sub _ _ q
  · unfold grow
    cases z : H b with
    | none => exact .inl (by rw [if_pos (show (none : Option HO).isNone = true from rfl), if_neg (by simp)]; exact q)
    | some o' => rw [if_neg (by simp)]; exact e.full _ _ q
  · unfold grow
    rw [if_neg (fun z => h1 (Option.isNone_iff_eq_none.mp z))]; exact e.keep b h1 h2
  · unfold grow
    split
    · rw [if_neg (by simp)]; exact e.sub _ _ q
    · exact q
def trees : List S → Option (List T)
  | [] => some []
  | .t x :: r => match trees r with
    | some ts => some (x :: ts)
    | none => none
  | .ol us :: r => match trees r with
    | some ts => some (.lst us :: ts)
    | none => none
  | .vt _ :: _ => none
def wTup (wa : WA) : WE := fun δ R => wa δ fun ss => match trees ss with
  | some ts => if ts.length ≤ 1000 then R (.t (.tup ts)) else False
  | none => False
def wLst (wa : WA) : WE := fun δ R => wa δ fun ss => match trees ss with
  | some ts => if ts.length ≤ 1000 then R (.ol ts) else False
  | none => False
theorem trees_rep {K : PySem.W.Frag} {H F' H' : Hp} (sm : Same F' (grow F' H H' none)) : ∀ {ss : List S} {vs : List V} {ts : List T}, RepEs K H F' H' ss vs → trees ss = some ts → TReps K (grow F' H H' none) ts vs
  | [], _, _, h, e => by cases e; exact h
  | .t x :: r, _, ts, ⟨v, vr, e1, h1, h2⟩, e => by
    subst e1
    unfold trees at e
    split at e
    · rename_i us hu
      cases e
      exact ⟨v, vr, rfl, TRep.same sm h1, trees_rep sm h2 hu⟩
    · cases e
  | .vt _ :: _, _, _, _, e => by cases e
  | .ol zs :: r, _, _, ⟨v, vr, e1, h1, h2⟩, e => by
    subst e1
    unfold trees at e
    split at e
    · rename_i us hu
      cases e
      refine ⟨v, vr, rfl, ?_, trees_rep sm h2 hu⟩
      unfold RepE at h1
      obtain ⟨a, xs, q1, q2, q3, q4, q5⟩ := h1
      unfold TRep
      refine ⟨a, xs, q1, SqL.of ?_, TReps.same sm q5⟩
      unfold grow
      rw [if_pos (by rw [q2]; rfl), if_neg (by simp)]
      exact q4
    · cases e
theorem le_line {n : Nat} (h : n ≤ 1000) : n ≤ sizeLine := Nat.le_of_lt (small1000 h)
def wCB (f : List S → (S → Prop) → Prop) (wa : WA) : WE := fun δ R => wa δ fun ss => f ss R
def RepVs (K : PySem.W.Frag) (F H : Hp) : List S → List V → Prop
  | [], vs => vs = []
  | s :: ss, vs => ∃ v r, vs = v :: r ∧ RepV K F H s v ∧ RepVs K F H ss r
theorem RepEs.val {K : PySem.W.Frag} {H0 F H : Hp} (e : Same F H) : ∀ {ss : List S} {vs : List V}, RepEs K H0 F H ss vs → RepVs K F H ss vs
  | [], _, h => h
  | _ :: _, _, ⟨v, r, h1, h2, h3⟩ => ⟨v, r, h1, h2.val e, RepEs.val e h3⟩
def CallOk (K : PySem.W.Frag) (r : List V → Hp → VK → Prop) (f : List S → (S → Prop) → Prop) : Prop :=
  ∀ F H ss vs R Q, Same F H → Full F H → RepVs K F H ss vs → f ss R → (∀ v F' H' s, Ext F H F' H' → RepE K H F' H' s v → R s → Q v H') → r vs H Q
theorem lift_cb {K : PySem.W.Frag} {r : List V → Hp → VK → Prop} {f : List S → (S → Prop) → Prop} {wa : WA} (ho : CallOk K r f) : ∀ σ H Q, liftE K (wCB f wa) σ H Q → tCB r (liftA K wa) σ H Q := by
  rintro σ H Q ⟨δ, R, F, rl, h, k⟩
  refine ⟨δ, _, F, rl, h, fun vs F1 H1 ss e p q => ?_⟩
  exact ho F1 H1 ss vs R Q e.sub e.full (p.val e.sub) q fun v F' H' s e2 p2 q2 => k v F' H' s (e.trans e2) (p2.start e.hh) q2

/-! a def's promise by data -/
abbrev DSpec := List S → (S → Prop) → Prop
def asArg : S → S
  | .vt x => .t x
  | .ol ts => .t (.lst ts)
  | .t x => .t x
def got : S → S
  | .t x => norm x
  | .vt x => .vt x
  | .ol ts => if purs ts = true then .ol ts else .vt (.lst ts)
def argOk : S → Prop
  | .t _ => True
  | _ => False
def toSp (K : PySem.W.Frag) (sp : DSpec) : Sp := fun vs H Q _ => ∃ ss R, (∀ s ∈ ss, argOk s) ∧ RepVs K H H ss vs ∧ sp ss R ∧ ∀ v H' s, Same H H' → RepC K H H' s v → R s → Q v H'
def wCall (sp : DSpec) (wa : WA) : WE := fun δ R => wa δ fun ss => sp (ss.map asArg) fun s => R (got s)
theorem args_ok {K : PySem.W.Frag} {H0 F H : Hp} (sb : Same F H) : ∀ {ss : List S} {vs : List V}, RepEs K H0 F H ss vs → (∀ s ∈ ss.map asArg, argOk s) ∧ RepVs K H H (ss.map asArg) vs
  | [], _, h => ⟨fun s hs => by simp at hs, h⟩
  | s :: ss, _, ⟨v, r, h1, h2, h3⟩ => by
    obtain ⟨a1, a2⟩ := args_ok sb h3
    refine ⟨fun u hu => ?_, v, r, h1, ?_, a2⟩
    · rw [List.map_cons] at hu
      rcases List.mem_cons.mp hu with e | e
      · subst e
        cases s <;> exact True.intro
      · exact a1 u e
    · cases s with
      | t x => exact TRep.same sb h2
      | vt x => exact h2
      | ol ts =>
        unfold RepE at h2
        obtain ⟨a, xs, q1, _, _, q2, q3⟩ := h2
        show TRep K H (.lst ts) v
        unfold TRep
        exact ⟨a, xs, q1, SqL.of q2, TReps.same sb q3⟩
theorem lift_call {K : PySem.W.Frag} {sp : DSpec} {wa : WA} {E : XK} : ∀ σ H Q, liftE K (wCall sp wa) σ H Q → tCall (toSp K sp) [] E (liftA K wa) σ H Q := by
  rintro σ H Q ⟨δ, R, F, rl, h, k⟩
  refine ⟨δ, _, F, rl, h, fun vs F1 H1 ss e p q => ?_⟩
  show toSp K sp (vs ++ []) H1 Q E
  rw [List.append_nil]
  obtain ⟨a1, a2⟩ := args_ok e.sub p
  refine ⟨_, _, a1, a2, q, fun v H' s sm rc hr => ?_⟩
  cases s with
  | t x =>
    have ex := grow_ext (x := none) e.sub e.full sm (fun _ z => by cases z)
    exact k v _ H' (norm x) (e.trans ex) (RepE.norm ex.full rc) hr
  | vt x => exact False.elim rc
  | ol ts =>
    unfold RepC at rc
    obtain ⟨a, xs, q1, q2, q3, q4⟩ := rc
    have ex := grow_ext (x := some a) e.sub e.full sm (fun b z => by cases z; exact ⟨xs, q3⟩)
    have hr' : R (if purs ts = true then .ol ts else .vt (.lst ts)) := hr
    split at hr'
    · rename_i hp
      refine k v _ H' (.ol ts) (e.trans ex) ⟨a, xs, q1, none_of_same e.hh q2, ?_, q3, TReps.full ex.full hp q4⟩ hr'
      unfold grow
      rw [if_pos (by rw [q2]; rfl), if_pos rfl]
    · refine k v _ H' (.vt (.lst ts)) (e.trans ex) ?_ hr'
      unfold RepE TRep
      exact ⟨a, xs, q1, SqL.of q3, q4⟩
section
variable {X : Cx} {e : Expr} {es : List Expr} {we : WE} {wr wa : WA} {pos : Pos}
theorem da_nil : PA X [] (liftA X.K wNil) := pa_nil.imp fun σ H Q ⟨δ, R, F, rl, h, k⟩ => k [] F H [] rl.refl rfl h
theorem da_cons (ha : PE X e (liftE X.K we)) (hr : PA X es (liftA X.K wr)) (hs : starEach (e :: es) X.env = (false, eval e X.env) :: starEach es X.env := by rfl) : PA X (e :: es) (liftA X.K (wCons we wr)) :=
  (pa_cons ha hr hs).imp fun σ H Q ⟨δ, R, F, rl, h, k⟩ => ⟨δ, _, F, rl, h, fun v F1 H1 s e p q => ⟨δ, _, F1, rl.ext e, q, fun vs F2 H2 ss e2 ps q2 => k (v :: vs) F2 H2 (s :: ss) (e.trans e2) ⟨v, vs, rfl, p.ext e2, ps.start e.hh⟩ q2⟩⟩
theorem de_tup {x1} (h : PA X es (liftA X.K wa)) : PE X (.Tuple es x1 pos) (liftE X.K (wTup wa)) :=
  (pe_tup h).imp fun σ H Q ⟨δ, R, F, rl, h, k⟩ => ⟨δ, _, F, rl, h, fun vs F1 H1 ss e p q => by
    split at q
    · rename_i ts ht
      obtain ⟨ez, sz⟩ := e.frozen rl.sub
      have r := trees_rep sz p ht
      split at q
      · rename_i hl
        refine ⟨by rw [r.length]; exact le_line hl, fun a ha => ?_⟩
        have ex := Ext.new (.tup vs) ez.sub ez.full ha
        refine k _ _ _ (.t (.tup ts)) (ez.trans ex) ?_ q
        unfold RepE TRep
        exact ⟨a, vs, rfl, SqT.of upd_same, TReps.same ex.ff r⟩
      · exact q.elim
    · exact q.elim⟩
theorem de_lst (h : PA X es (liftA X.K wa)) : PE X (.List es pos) (liftE X.K (wLst wa)) :=
  (pe_lst h).imp fun σ H Q ⟨δ, R, F, rl, h, k⟩ => ⟨δ, _, F, rl, h, fun vs F1 H1 ss e p q => by
    split at q
    · rename_i ts ht
      obtain ⟨ez, sz⟩ := e.frozen rl.sub
      have r := trees_rep sz p ht
      split at q
      · rename_i hl
        refine ⟨by rw [r.length]; exact le_line hl, fun a ha => ?_⟩
        have ex := Ext.newL vs ez.sub ez.full ha
        exact k _ _ _ (.ol ts) (ez.trans ex) ⟨a, vs, rfl, none_of_same e.hh ha, none_of_same ez.sub ha, upd_same, r⟩ q
      · exact q.elim
    · exact q.elim⟩
/-- a def of the text that keeps a promise, as a caller finds it -/
structure Callee (P : Program) (w : World) (K : PySem.W.Frag) (mg : Str → Option Value) (base : Heap) (k : Nat) (x : Str) (sp : DSpec) : Prop where
  ex : ∃ (f : Addr) (fd : FuncData) (ps : List Str), mg x = some (.ref f) ∧ FnOk P w K mg base CX0 k f fd ps (toSp K sp) ∧ Binds K fd ps [] ∧ PySem.W.keepIn K (.ref f) = true
theorem de_call {k : Nat} {x : Str} {sp : DSpec} {p : Pos} (C : Callee X.prog X.w X.K X.mg X.base k x sp) (hr : Room k X.A) (hg : Gl X x) (ha : PA X (e :: es) (liftA X.K wa)) (hdb : (x == ("__debug__" : Str)) = false := by decide)
    (he : starEach (e :: es) X.env = (false, eval e X.env) :: starEach es X.env := by rfl) (hpl : (backTo pos (starEach es X.env)).any (·.1) = false := by rfl) : PE X (.Call (.Name x p) (e :: es) [] pos) (liftE X.K (wCall sp wa)) := by
  obtain ⟨f, fd, ps, hm, F, hb, hk⟩ := C.ex
  exact (pe_call F hr hg hm hk hb .nil (E := E0) pass0 ha hdb he hpl).imp lift_call
theorem de_callB {x : Str} {p : Pos} {id : String} {r : List V → Hp → VK → Prop} {f : List S → (S → Prop) → Prop} (hc : CallR X (.builtin id) r) (hf : CallOk X.K r f) (hm : X.mg x = none) (hv : bootBuiltins x = some (.builtin id)) (ha : PA X (e :: es) (liftA X.K wa)) (hg : Gl X x := by rfl) (hn : x ≠ "__name__" := by decide) (hdb : (x == ("__debug__" : Str)) = false := by decide)
    (he : starEach (e :: es) X.env = (false, eval e X.env) :: starEach es X.env := by rfl) (hpl : (backTo pos (starEach es X.env)).any (·.1) = false := by rfl) : PE X (.Call (.Name x p) (e :: es) [] pos) (liftE X.K (wCB f wa)) :=
  (pe_callB hc hg hm hv ha hn hdb he hpl).imp (lift_cb hf)
end

/-! ### built-in functions -/
def fLen : List S → (S → Prop) → Prop
  | [.t (.tup ts)], R => R (.t (.int ts.length))
  | [.t (.lst ts)], R => R (.t (.int ts.length))
  | [.vt (.tup ts)], R => R (.t (.int ts.length))
  | [.vt (.lst ts)], R => R (.t (.int ts.length))
  | [.ol ts], R => R (.t (.int ts.length))
  | _, _ => False
theorem ok_len {K : PySem.W.Frag} : CallOk K (fun xs H Q => ∃ p ys, xs = [.ref p] ∧ (SqL K H p ys ∨ SqT K H p ys) ∧ Q (.int ys.length) H) fLen := by
  intro F H ss vs R Q sb fu rp h k
  unfold fLen at h
  split at h
  · obtain ⟨v, r, rfl, ⟨a, xs, rfl, h1, h2⟩, h3⟩ := rp
    cases (show r = [] from h3)
    exact ⟨a, xs, rfl, .inr (Same.sqT sb a xs h1), k _ F H (.t (.int _)) (Ext.refl sb fu) (by show _ = _; rw [h2.length]) h⟩
  · obtain ⟨v, r, rfl, ⟨a, xs, rfl, h1, h2⟩, h3⟩ := rp
    cases (show r = [] from h3)
    exact ⟨a, xs, rfl, .inl (sb.seq h1), k _ F H (.t (.int _)) (Ext.refl sb fu) (by show _ = _; rw [h2.length]) h⟩
  · obtain ⟨v, r, rfl, ⟨a, xs, rfl, h1, h2⟩, h3⟩ := rp
    cases (show r = [] from h3)
    exact ⟨a, xs, rfl, .inr h1, k _ F H (.t (.int _)) (Ext.refl sb fu) (by show _ = _; rw [h2.length]) h⟩
  · obtain ⟨v, r, rfl, ⟨a, xs, rfl, h1, h2⟩, h3⟩ := rp
    cases (show r = [] from h3)
    exact ⟨a, xs, rfl, .inl h1, k _ F H (.t (.int _)) (Ext.refl sb fu) (by show _ = _; rw [h2.length]) h⟩
  · obtain ⟨v, r, rfl, ⟨a, xs, rfl, h1, h2⟩, h3⟩ := rp
    cases (show r = [] from h3)
    exact ⟨a, xs, rfl, .inl h1, k _ F H (.t (.int _)) (Ext.refl sb fu) (by show _ = _; rw [h2.length]) h⟩
  · exact h.elim
def fAbs : List S → (S → Prop) → Prop
  | [.t (.int i)], R => R (.t (.int (if i < 0 then -i else i)))
  | _, _ => False
theorem ok_abs {K : PySem.W.Frag} : CallOk K (fun xs H Q => ∃ i, xs = [.int i] ∧ Q (.int (if i < 0 then -i else i)) H) fAbs := by
  intro F H ss vs R Q sb fu rp h k
  unfold fAbs at h
  split at h
  · obtain ⟨v, r, rfl, rfl, h3⟩ := rp
    cases (show r = [] from h3)
    exact ⟨_, rfl, k _ F H (.t (.int _)) (Ext.refl sb fu) rfl h⟩
  · exact h.elim
def fMax2 : List S → (S → Prop) → Prop
  | [.t (.int i), .t (.int j)], R => R (.t (.int (if j > i then j else i)))
  | _, _ => False
def fMin2 : List S → (S → Prop) → Prop
  | [.t (.int i), .t (.int j)], R => R (.t (.int (if j < i then j else i)))
  | _, _ => False
theorem ok_max2 {K : PySem.W.Frag} : CallOk K (fun xs H Q => ∃ i j, xs = [.int i, .int j] ∧ Q (.int (if j > i then j else i)) H) fMax2 := by
  intro F H ss vs R Q sb fu rp h k
  unfold fMax2 at h
  split at h
  · obtain ⟨v, r, rfl, rfl, v2, r2, rfl, rfl, h3⟩ := rp
    cases (show r2 = [] from h3)
    exact ⟨_, _, rfl, k _ F H (.t (.int _)) (Ext.refl sb fu) rfl h⟩
  · exact h.elim
theorem ok_min2 {K : PySem.W.Frag} : CallOk K (fun xs H Q => ∃ i j, xs = [.int i, .int j] ∧ Q (.int (if j < i then j else i)) H) fMin2 := by
  intro F H ss vs R Q sb fu rp h k
  unfold fMin2 at h
  split at h
  · obtain ⟨v, r, rfl, rfl, v2, r2, rfl, rfl, h3⟩ := rp
    cases (show r2 = [] from h3)
    exact ⟨_, _, rfl, k _ F H (.t (.int _)) (Ext.refl sb fu) rfl h⟩
  · exact h.elim
def fInt : List S → (S → Prop) → Prop
  | [.t (.int i)], R => R (.t (.int i))
  | [.t (.bl b)], R => R (.t (.int (if b then 1 else 0)))
  | _, _ => False
/-- list(x): of a list that is seen the items hold no list -/
def fListOf : List S → (S → Prop) → Prop
  | [.t (.tup ts)], R => R (.ol ts)
  | [.t (.lst ts)], R => R (.ol ts)
  | [.vt (.lst ts)], R => purs ts = true ∧ R (.ol ts)
  | [.ol ts], R => R (.ol ts)
  | _, _ => False
section
variable {X : Cx} {e : Expr} {es : List Expr} {we : WE} {wr wa : WA} {pos p : Pos}
theorem de_len (hm : X.mg "len" = none) (ha : PA X [e] (liftA X.K wa)) (hg : Gl X "len" := by rfl) (he : starEach [e] X.env = (false, eval e X.env) :: starEach [] X.env := by rfl) : PE X (.Call (.Name "len" p) [e] [] pos) (liftE X.K (wCB fLen wa)) :=
  de_callB call_len_seq ok_len hm PySem.boot_len ha hg (he := he) (hpl := rfl)
theorem de_abs (hm : X.mg "abs" = none) (ha : PA X [e] (liftA X.K wa)) (hg : Gl X "abs" := by rfl) (he : starEach [e] X.env = (false, eval e X.env) :: starEach [] X.env := by rfl) : PE X (.Call (.Name "abs" p) [e] [] pos) (liftE X.K (wCB fAbs wa)) :=
  de_callB call_abs ok_abs hm PyProof.Rows.boot_abs ha hg (he := he) (hpl := rfl)
theorem de_max2 {e2 : Expr} (hm : X.mg "max" = none) (ha : PA X [e, e2] (liftA X.K wa)) (hg : Gl X "max" := by rfl) (hc : X.calm = true := by rfl) (he : starEach [e, e2] X.env = (false, eval e X.env) :: starEach [e2] X.env := by rfl) (hpl : (backTo pos (starEach [e2] X.env)).any (·.1) = false := by rfl) : PE X (.Call (.Name "max" p) [e, e2] [] pos) (liftE X.K (wCB fMax2 wa)) :=
  de_callB (call_max2 hc) ok_max2 hm PyProof.Rows.boot_max ha hg (he := he) (hpl := hpl)
theorem de_min2 {e2 : Expr} (hm : X.mg "min" = none) (ha : PA X [e, e2] (liftA X.K wa)) (hg : Gl X "min" := by rfl) (hc : X.calm = true := by rfl) (he : starEach [e, e2] X.env = (false, eval e X.env) :: starEach [e2] X.env := by rfl) (hpl : (backTo pos (starEach [e2] X.env)).any (·.1) = false := by rfl) : PE X (.Call (.Name "min" p) [e, e2] [] pos) (liftE X.K (wCB fMin2 wa)) :=
  de_callB (call_min2 hc) ok_min2 hm PyProof.Rows.boot_min ha hg (he := he) (hpl := hpl)
end
end DL

set_option Elab.async false
set_option linter.all false
set_option maxRecDepth 100000
namespace DL
open PySem L2

/-! ### slices -/
def wPart0 : DSt → (Option Int → Prop) → Prop := fun _ R => R none
def wPart (we : WE) : DSt → (Option Int → Prop) → Prop := fun δ R => we δ fun s => match s with
  | .t (.int i) => R (some i)
  | _ => False
def liftO (K : PySem.W.Frag) (w : DSt → (Option Int → Prop) → Prop) : TO := fun σ H Q => ∃ δ R F, Rel K F H σ δ ∧ w δ R ∧ ∀ F' H' o, Ext F H F' H' → R o → Q o H'
def cutT (ts : List T) (lo hi : Option Int) : List T := (ts.drop (HT.sIx ts.length 0 lo)).take (HT.sIx ts.length ts.length hi - HT.sIx ts.length 0 lo)
def slcK (lo hi : Option Int) (R : S → Prop) : S → Prop
  | .t (.lst ts) => R (.ol (cutT ts lo hi))
  | .vt (.lst ts) => purs ts = true ∧ R (.ol (cutT ts lo hi))
  | .ol ts => R (.ol (cutT ts lo hi))
  | _ => False
def wSlice (we : WE) (wl wh : DSt → (Option Int → Prop) → Prop) : WE := fun δ R => we δ fun s => wl δ fun lo => wh δ fun hi => slcK lo hi R s
theorem slcK_shape {K : PySem.W.Frag} {F H : Hp} {lo hi : Option Int} {R : S → Prop} {s : S} {v : V} (sb : Same F H) (fu : Full F H) (h : slcK lo hi R s) (p : RepV K F H s v) : ∃ ts a xs, v = .ref a ∧ SqL K H a xs ∧ TReps K F ts xs ∧ R (.ol (cutT ts lo hi)) := by
  unfold slcK at h
  split at h
  · unfold RepV TRep at p
    obtain ⟨a, xs, h1, h2, h3⟩ := p
    exact ⟨_, a, xs, h1, sb.seq h2, h3, h⟩
  · unfold RepV TRep at p
    obtain ⟨a, xs, h1, h2, h3⟩ := p
    exact ⟨_, a, xs, h1, h2, TReps.full fu h.1 h3, h.2⟩
  · unfold RepV at p
    obtain ⟨a, xs, h1, h2, h3⟩ := p
    exact ⟨_, a, xs, h1, h2, h3, h⟩
  · exact h.elim
theorem cut_rep {K : PySem.W.Frag} {F : Hp} {ts : List T} {xs : List V} (h : TReps K F ts xs) (lo hi : Option Int) : TReps K F (cutT ts lo hi) (cutV xs lo hi) := by
  unfold cutT cutV
  rw [h.length]
  exact (h.drop _).take _
section
variable {X : Cx} {e : Expr} {we : WE} {lo hi : Option Expr} {wl wh : DSt → (Option Int → Prop) → Prop} {pos p2 : Pos}
theorem do_none : PO X none (liftO X.K wPart0) := fun pins s σ H Q I ⟨δ, R, F, rl, h, k⟩ => po_none pins s σ H Q I (k F H none rl.refl h)
theorem do_some (h : PE X e (liftE X.K we)) : PO X (some e) (liftO X.K (wPart we)) := fun pins s σ H Q I ⟨δ, R, F, rl, hw, k⟩ =>
  po_some h pins s σ H Q I ⟨δ, _, F, rl, hw, fun v F1 H1 s e p q => by
    split at q
    · exact ⟨_, p, k F1 H1 _ e q⟩
    · exact q.elim⟩
theorem de_slice (he : PE X e (liftE X.K we)) (hl : PO X lo (liftO X.K wl)) (hu : PO X hi (liftO X.K wh)) : PE X (.Subscript e (.Slice lo hi none p2) pos) (liftE X.K (wSlice we wl wh)) :=
  (pe_slice sl_list he hl hu).imp fun σ H Q ⟨δ, R, F, rl, h, k⟩ => ⟨δ, _, F, rl, h, fun v F1 H1 s e1 p1 q => ⟨δ, _, F1, rl.ext e1, q, fun F2 H2 o e2 q2 => ⟨δ, _, F2, (rl.ext e1).ext e2, q2, fun F3 H3 o3 e3 q3 => by
    have e12 := e1.trans (e2.trans e3)
    obtain ⟨ts, a, xs, rfl, h1, h2, h4⟩ := slcK_shape e3.sub e3.full q3 ((p1.ext (e2.trans e3)).val e3.sub)
    refine ⟨a, xs, rfl, h1, fun l hl => ?_⟩
    exact k _ F3 _ (.ol _) (e12.trans (Ext.newL _ e3.sub e3.full hl)) ⟨l, _, rfl, none_of_same e12.hh hl, none_of_same e3.sub hl, upd_same, cut_rep h2 _ _⟩ h4⟩⟩⟩
end

/-! ### names are set -/
def freezeS : S → S
  | .ol ts => .t (.lst ts)
  | .t x => .t x
  | .vt x => .vt x
def freeze (δ : DSt) : DSt := δ.map (Option.map freezeS)
def setS (i : Nat) (s : S) (δ : DSt) : DSt := match s with
  | .vt x => (freeze δ).set i (some (.t x))
  | .t x => δ.set i (some (.t x))
  | .ol ts => δ.set i (some (.ol ts))
theorem get_freeze {δ : DSt} {i : Nat} {s : S} (h : (freeze δ)[i]? = some (some s)) : ∃ u, δ[i]? = some (some u) ∧ s = freezeS u := by
  unfold freeze at h
  rw [List.getElem?_map] at h
  cases e : δ[i]? with
  | none => rw [e] at h; cases h
  | some o =>
    rw [e] at h
    cases o with
    | none => cases h
    | some u => exact ⟨u, rfl, by simpa using h.symm⟩
theorem frozen_ok {K : PySem.W.Frag} {F H : Hp} (sb : Same F H) : ∀ {s : S} {v : V}, SlotOk K F H s v → SlotOk K H H (freezeS s) v
  | .t _, _, h => TRep.same sb h
  | .vt _, _, h => False.elim h
  | .ol _, _, ⟨a, xs, h1, _, h3, h4⟩ => by
    show TRep K H (.lst _) _
    unfold TRep
    exact ⟨a, xs, h1, SqL.of h3, TReps.same sb h4⟩
theorem not_ol_freeze (s : S) (ts : List T) : freezeS s ≠ .ol ts := by cases s <;> simp [freezeS]
theorem Rel.freeze {K : PySem.W.Frag} {F H : Hp} {σ : St} {δ : DSt} (r : Rel K F H σ δ) : Rel K H H σ (freeze δ) := by
  refine ⟨Same.refl _, fun b o h => .inl h, ?_, fun i s h => ?_, fun i j a ts us _ h1 => ?_⟩
  · unfold DL.freeze; rw [List.length_map]; exact r.len
  · obtain ⟨u, h1, rfl⟩ := get_freeze h
    obtain ⟨v, h2, h3⟩ := r.slot i u h1
    exact ⟨v, h2, frozen_ok r.sub h3⟩
  · obtain ⟨u, _, e⟩ := get_freeze h1
    exact absurd e.symm (not_ol_freeze u ts)
/-- a slot is set to a value that shares nothing with an owned list -/
theorem Rel.put {K : PySem.W.Frag} {F H : Hp} {σ : St} {δ : DSt} {i : Nat} {s : S} {v : V} (r : Rel K F H σ δ) (h : SlotOk K F H s v) (hs : ∀ ts, s ≠ .ol ts) : Rel K F H (σ.set i (some v)) (δ.set i (some s)) := by
  refine ⟨r.sub, r.full, by rw [List.length_set, List.length_set]; exact r.len, fun j u hu => ?_, fun j l a ts us hn h1 h2 h3 => ?_⟩
  · by_cases e : i = j
    · subst e
      have hi : i < δ.length := by
        rw [List.getElem?_set] at hu
        simp at hu
        exact hu.1
      rw [List.getElem?_set_self hi] at hu
      cases hu
      exact ⟨v, List.getElem?_set_self (by rw [r.len]; exact hi), h⟩
    · rw [List.getElem?_set_ne e] at hu
      obtain ⟨w, h1, h2⟩ := r.slot j u hu
      exact ⟨w, by rw [List.getElem?_set_ne e]; exact h1, h2⟩
  · have n1 : i ≠ j := fun e => by
      subst e
      have hi : i < δ.length := by
        rw [List.getElem?_set] at h1; simp at h1; exact h1.1
      rw [List.getElem?_set_self hi] at h1
      cases h1
      exact hs ts rfl
    have n2 : i ≠ l := fun e => by
      subst e
      have hi : i < δ.length := by
        rw [List.getElem?_set] at h2; simp at h2; exact h2.1
      rw [List.getElem?_set_self hi] at h2
      cases h2
      exact hs us rfl
    rw [List.getElem?_set_ne n1] at h1 h3
    rw [List.getElem?_set_ne n2] at h2 ⊢
    exact r.dist j l a ts us hn h1 h2 h3
theorem Rel.putOl {K : PySem.W.Frag} {F H F' H' : Hp} {σ : St} {δ : DSt} {i : Nat} {ts : List T} {a : Addr} {xs : List V} (r : Rel K F H σ δ) (e : Ext F H F' H') (h0 : H a = none) (h1 : F' a = none) (h2 : H' a = some (.lst xs)) (h3 : TReps K F' ts xs) :
    Rel K F' H' (σ.set i (some (.ref a))) (δ.set i (some (.ol ts))) := by
  have r' := r.ext e
  have old : ∀ (j : Nat) (us : List T) (b : Addr), δ[j]? = some (some (.ol us)) → σ[j]? = some (some (.ref b)) → b ≠ a := fun j us b q1 q2 z => by
    obtain ⟨v, p1, c, ys, p2, p3, p4, _⟩ := r.slot j _ q1
    rw [q2] at p1
    cases p1
    cases p2
    rw [z, h0] at p4
    cases p4
  refine ⟨r'.sub, r'.full, by rw [List.length_set, List.length_set]; exact r.len, fun j u hu => ?_, fun j l b us ws hn q1 q2 q3 => ?_⟩
  · by_cases z : i = j
    · subst z
      have hi : i < δ.length := by
        rw [List.getElem?_set] at hu; simp at hu; exact hu.1
      rw [List.getElem?_set_self hi] at hu
      cases hu
      exact ⟨_, List.getElem?_set_self (by rw [r.len]; exact hi), a, xs, rfl, h1, h2, h3⟩
    · rw [List.getElem?_set_ne z] at hu
      obtain ⟨w, p1, p2⟩ := r'.slot j u hu
      exact ⟨w, by rw [List.getElem?_set_ne z]; exact p1, p2⟩
  · by_cases z : i = j
    · subst z
      have hi : i < δ.length := by
        rw [List.getElem?_set] at q1; simp at q1; exact q1.1
      rw [List.getElem?_set_self (by rw [r.len]; exact hi)] at q3
      cases q3
      rw [List.getElem?_set_ne hn] at q2 ⊢
      exact fun q => old l ws a q2 q rfl
    · rw [List.getElem?_set_ne z] at q1 q3
      by_cases z2 : i = l
      · subst z2
        have hi : i < δ.length := by
          rw [List.getElem?_set] at q2; simp at q2; exact q2.1
        rw [List.getElem?_set_self (by rw [r.len]; exact hi)]
        intro q
        cases q
        exact old j us a q1 q3 rfl
      · rw [List.getElem?_set_ne z2] at q2 ⊢
        exact r.dist j l b us ws hn q1 q2 q3
theorem Rel.setS {K : PySem.W.Frag} {F H F' H' : Hp} {σ : St} {δ : DSt} {s : S} {v : V} (i : Nat) (r : Rel K F H σ δ) (e : Ext F H F' H') (p : RepE K H F' H' s v) : ∃ F2, Same F F2 ∧ Rel K F2 H' (σ.set i (some v)) (setS i s δ) := by
  cases s with
  | t x => exact ⟨F', e.ff, (r.ext e).put (s := .t x) p (fun _ z => by cases z)⟩
  | vt x => exact ⟨H', e.ff.trans e.sub, (r.ext e).freeze.put (s := .t x) p (fun _ z => by cases z)⟩
  | ol ts =>
    obtain ⟨a, xs, rfl, h0, h1, h2, h3⟩ := p
    exact ⟨F', e.ff, r.putOl e h0 h1 h2 h3⟩

/-- a new list is frozen; what the names own stays -/
theorem Rel.thaw {K : PySem.W.Frag} {F H F1 H1 : Hp} {σ : St} {δ : DSt} {ts : List T} {v : V} (rl : Rel K F H σ δ) (ex : Ext F H F1 H1) (p : RepE K H F1 H1 (.ol ts) v) :
    Rel K (grow F1 H H1 none) H1 σ δ ∧ Same F (grow F1 H H1 none) ∧ ∃ a xs, v = .ref a ∧ SqL K (grow F1 H H1 none) a xs ∧ TReps K (grow F1 H H1 none) ts xs := by
  obtain ⟨ez, sz⟩ := ex.frozen rl.sub
  refine ⟨rl.ext ez, ez.ff, ?_⟩
  obtain ⟨a, xs, rfl, h0, h1, h2, h3⟩ := p
  refine ⟨a, xs, rfl, SqL.of ?_, TReps.same sz h3⟩
  unfold grow
  rw [if_pos (by rw [h0]; rfl), if_neg (by simp)]
  exact h2
/-! ### statements -/
def wNext : WS := fun D δ => D.nx δ
def wSeq (w u : WS) : WS := fun D δ => w { D with nx := u D } δ
/-- .. with a word of one's own between -/
def wSeqM (w u : WS) : WS := fun D δ => ∃ M : DSt → Prop, w { D with nx := M } δ ∧ ∀ δ', M δ' → u D δ'
def wSet (i : Nat) (we : WE) : WS := fun D δ => we δ fun s => D.nx (setS i s δ)
def wIf (c : WT) (w u : WS) : WS := fun D δ => c δ fun k => if k = true then w D δ else u D δ
def out : S → S
  | .vt x => .t x
  | .t x => .t x
  | .ol ts => .ol ts
def wRet (we : WE) : WS := fun D δ => we δ fun s => D.rt (out s)
def wRetV (i : Nat) : WS := fun D δ => match δ[i]? with
  | some (some s) => D.rt s
  | _ => False
def wRetN : WS := fun D _ => D.rt (.t .non)
def wBreak : WS := fun D δ => D.bk δ
def wCont : WS := fun D δ => D.ct δ
def wDrop (we : WE) : WS := fun D δ => we δ fun _ => D.nx δ
def wNever : WS := fun _ _ => False
/-- a while by a word of one's own, with its measure -/
def wWhile (c : WT) (wb : WS) : WS := fun D δ => ∃ I : Nat → DSt → Prop, (∃ n, I n δ) ∧ ∀ n δ, I n δ → c δ fun k => if k = true then wb { nx := fun δ' => ∃ m, m < n ∧ I m δ', rt := D.rt, bk := D.nx, ct := fun δ' => ∃ m, m < n ∧ I m δ' } δ else D.nx δ
abbrev WG := T → DSt → (DSt → Prop) → Prop
abbrev WI := DSt → (List T → DSt → Prop) → Prop
/-- a for by a word of one's own about the items to come -/
def forI (g : WG) (wb : WS) (ts : List T) (D : DEnds) (δ : DSt) : Prop := ∃ I : List T → DSt → Prop, I ts δ ∧ (∀ δ, I [] δ → D.nx δ) ∧ ∀ x r δ, I (x :: r) δ → g x δ fun δ1 => wb { nx := I r, rt := D.rt, bk := D.nx, ct := I r } δ1
def wFor (wi : WI) (g : WG) (wb : WS) : WS := fun D δ => wi δ fun ts δ' => forI g wb ts D δ'
def wgName (i : Nat) : WG := fun t δ R => R (δ.set i (some (.t t)))
def wgTup (g : List T → DSt → (DSt → Prop) → Prop) : WG := fun t δ R => match t with
  | .tup ts => g ts δ R
  | _ => False
def wgNil : List T → DSt → (DSt → Prop) → Prop := fun ts δ R => match ts with
  | [] => R δ
  | _ => False
def wgCons (g : WG) (gr : List T → DSt → (DSt → Prop) → Prop) : List T → DSt → (DSt → Prop) → Prop := fun ts δ R => match ts with
  | t :: r => g t δ fun δ1 => gr r δ1 R
  | [] => False
/-- a, b = e, for a tuple e -/
def unpK (g : WG) (δ : DSt) (N : DSt → Prop) : S → Prop
  | .t t => g t δ N
  | .vt t => g t (freeze δ) N
  | .ol ts => g (.lst ts) δ N
def wUnp (we : WE) (g : WG) : WS := fun D δ => we δ fun s => unpK g δ D.nx s
/-- a, b = x, y for trees -/
def wPar (i j : Nat) (wa : WA) : WS := fun D δ => wa δ fun ss => match ss with
  | [.t x, .t y] => D.nx ((δ.set i (some (.t x))).set j (some (.t y)))
  | _ => False
def wAppend (i : Nat) (we : WE) : WS := fun D δ => match δ[i]? with
  | some (some (.ol ts)) => we δ fun s => match s with
    | .t x => ts.length < 100000 ∧ D.nx (δ.set i (some (.ol (ts ++ [x]))))
    | _ => False
  | _ => False
/-- x.pop(), and y = x.pop() -/
def wPop (i : Nat) : WS := fun D δ => match δ[i]? with
  | some (some (.ol ts)) => ts ≠ [] ∧ D.nx (δ.set i (some (.ol ts.dropLast)))
  | _ => False
def wPopTo (j i : Nat) : WS := fun D δ => match δ[i]? with
  | some (some (.ol ts)) => match ts[ts.length - 1]? with
    | some x => D.nx ((δ.set i (some (.ol ts.dropLast))).set j (some (.t x)))
    | none => False
  | _ => False
def wClear (i : Nat) : WS := fun D δ => match δ[i]? with
  | some (some (.ol _)) => D.nx (δ.set i (some (.ol [])))
  | _ => False
/-- x[e] = v -/
def wSetIx (i : Nat) (we wv : WE) : WS := fun D δ => match δ[i]? with
  | some (some (.ol ts)) => wv δ fun v => we δ fun s => match v, s with
    | .t x, .t (.int k) => match ixN ts.length k with
      | some j => D.nx (δ.set i (some (.ol (ts.set j x))))
      | none => False
    | _, _ => False
  | _ => False

section
variable {X : Cx} {st : Stmt} {rest : List Stmt} {w u : WS} {e : Expr} {we : WE} {pos : Pos} {H₀ : Hp}
theorem dss_nil : PSs X [] (liftS X.K H₀ wNext) := pss_nil.imp fun D σ H ⟨δ, D', F, _, rl, h, ok⟩ => ok.nx σ F H δ (Same.refl _) rl h
theorem dss_cons (h1 : PS X st (liftS X.K H₀ w)) (h2 : PSs X rest (liftS X.K H₀ u)) : PSs X (st :: rest) (liftS X.K H₀ (wSeq w u)) :=
  (pss_cons h1 h2).imp fun D σ H ⟨δ, D', F, s0, rl, h, ok⟩ => ⟨δ, _, F, s0, rl, h, ⟨fun σ' F' H' δ' ff rl' h' => ⟨δ', D', F', s0.trans ff, rl', h', ok.mono ff⟩, ok.rt, ok.bk, ok.ct⟩⟩
theorem dss_consM (h1 : PS X st (liftS X.K H₀ w)) (h2 : PSs X rest (liftS X.K H₀ u)) : PSs X (st :: rest) (liftS X.K H₀ (wSeqM w u)) :=
  (pss_cons h1 h2).imp fun D σ H ⟨δ, D', F, s0, rl, ⟨M, h, hk⟩, ok⟩ => ⟨δ, _, F, s0, rl, h, ⟨fun σ' F' H' δ' ff rl' h' => ⟨δ', D', F', s0.trans ff, rl', hk δ' h', ok.mono ff⟩, ok.rt, ok.bk, ok.ct⟩⟩
theorem dss_one (h1 : PS X st (liftS X.K H₀ w)) : PSs X [st] (liftS X.K H₀ w) := pss_one h1
theorem ds_never : PS X st (liftS X.K H₀ wNever) := ps_never.imp fun D σ H ⟨δ, D', F, _, rl, h, ok⟩ => h
theorem dss_never {sts : List Stmt} : PSs X sts (liftS X.K H₀ wNever) := pss_never.imp fun D σ H ⟨δ, D', F, _, rl, h, ok⟩ => h
theorem ds_set {i : Nat} {x : Str} {pos' : Pos} (hN : X.N.Nodup) (he : PE X e (liftE X.K we)) (hi : X.N[i]? = some x := by rfl) (hx : Loc X.env.scope x := by first | exact Or.inl rfl | exact Or.inr rfl) (hs : swapsWith e (some (.Name x pos')) pos.line X.env = pure false := by rfl) (hf : X.fn x = true ∨ X.env.scope.names.lookup x = some .local := by first | exact .inl rfl | exact .inr rfl | assumption) :
    PS X (.Assign [.Name x pos'] e pos) (liftS X.K H₀ (wSet i we)) :=
  (ps_set hN hi hx he hs hf).imp fun D σ H ⟨δ, D', F, s0, rl, h, ok⟩ => ⟨δ, _, F, rl, h, fun v F1 H1 s e p q => by
    obtain ⟨F2, ff, r2⟩ := rl.setS i e p
    exact ok.nx _ F2 H1 _ ff r2 q⟩
theorem ds_if {c : Expr} {a b : List Stmt} {t : WT} (hc : PT X c (liftT X.K t)) (ha : PSs X a (liftS X.K H₀ w)) (hb : PSs X b (liftS X.K H₀ u)) : PS X (.If c a b pos) (liftS X.K H₀ (wIf t w u)) :=
  (ps_if hc ha hb).imp fun D σ H ⟨δ, D', F, s0, rl, h, ok⟩ => ⟨δ, _, F, rl, h, fun F1 H1 k e q => by
    cases k with
    | true => exact ⟨δ, D', F1, s0.trans e.ff, rl.ext e, by simpa using q, ok.mono e.ff⟩
    | false => exact ⟨δ, D', F1, s0.trans e.ff, rl.ext e, by simpa using q, ok.mono e.ff⟩⟩
theorem ret_ok {K : PySem.W.Frag} {F H F1 H1 : Hp} (s0 : Same H₀ H) (e : Ext F H F1 H1) : ∀ {s : S} {v : V}, RepE K H F1 H1 s v → RepC K H₀ H1 (out s) v
  | .t _, _, h => TRep.same e.sub h
  | .vt _, _, h => h
  | .ol _, _, ⟨a, xs, h1, h2, _, h3, h4⟩ => ⟨a, xs, h1, none_of_same s0 h2, h3, TReps.same e.sub h4⟩
theorem ds_ret (he : PE X e (liftE X.K we)) : PS X (.Return (some e) pos) (liftS X.K H₀ (wRet we)) :=
  (ps_ret he).imp fun D σ H ⟨δ, D', F, s0, rl, h, ok⟩ => ⟨δ, _, F, rl, h, fun v F1 H1 s e p q => ok.rt v H1 _ ((s0.trans rl.sub).trans e.hh) (ret_ok (s0.trans rl.sub) e p) q⟩
theorem slot_out {K : PySem.W.Frag} {F H : Hp} (s0 : Same H₀ F) (sb : Same F H) : ∀ {s : S} {v : V}, SlotOk K F H s v → RepC K H₀ H s v
  | .t _, _, h => TRep.same sb h
  | .vt _, _, h => False.elim h
  | .ol _, _, ⟨a, xs, h1, h2, h3, h4⟩ => ⟨a, xs, h1, none_of_same s0 h2, h3, TReps.same sb h4⟩
/-- return, all lists of this frame frozen first -/
def wRetZ (we : WE) : WS := fun D δ => we (freeze δ) fun s => D.rt (out s)
theorem ds_retV {i : Nat} (he : PE X e (tVar i)) : PS X (.Return (some e) pos) (liftS X.K H₀ (wRetV i)) :=
  (ps_ret he).imp fun D σ H ⟨δ, D', F, s0, rl, h, ok⟩ => by
    unfold wRetV at h
    split at h
    · rename_i s hs
      obtain ⟨v, h1, h2⟩ := rl.slot i s hs
      exact ⟨v, h1, ok.rt v H s (s0.trans rl.sub) (slot_out s0 rl.sub h2) h⟩
    · exact h.elim
theorem ds_drop (he : PE X e (liftE X.K we)) (hs : swapsWith e none pos.line X.env = pure false := by rfl) : PS X (.Expr e pos) (liftS X.K H₀ (wDrop we)) :=
  (ps_expr he hs).imp fun D σ H ⟨δ, D', F, s0, rl, h, ok⟩ => ⟨δ, _, F, rl, h, fun v F1 H1 s e p q => ok.nx σ F1 H1 δ e.ff (rl.ext e) q⟩
theorem ds_while {c : Expr} {body : List Stmt} {t : WT} {wb : WS} (hp : PassesOwn (model X.prog X.w) X.A X.env X.xe) (hc : PT X c (liftT X.K t)) (hb : PSs X body (liftS X.K H₀ wb)) : PS X (.While c body [] pos) (liftS X.K H₀ (wWhile t wb)) :=
  (ps_while hp hc hb).imp fun D σ H ⟨δ, D', F, s0, rl, ⟨I, ⟨n, h⟩, step⟩, ok⟩ => by
    refine ⟨fun m σ H => ∃ δ F1, Same F F1 ∧ Rel X.K F1 H σ δ ∧ I m δ, ⟨n, δ, F, Same.refl _, rl, h⟩, ?_⟩
    rintro m σ H ⟨δ, F1, f1, rl, h⟩
    refine ⟨δ, _, F1, rl, step m δ h, fun F2 H2 k e q => ?_⟩
    cases k with
    | true =>
      refine ⟨fun σ' H' => ∃ δ F1 j, j < m ∧ Same F F1 ∧ Rel X.K F1 H' σ' δ ∧ I j δ, fun σ' H' ⟨δ', F', j, hj, a1, a2, a3⟩ => ⟨j, hj, δ', F', a1, a2, a3⟩, ?_⟩
      refine ⟨δ, { nx := fun δ' => ∃ j, j < m ∧ I j δ', rt := D'.rt, bk := D'.nx, ct := fun δ' => ∃ j, j < m ∧ I j δ' }, F2, (s0.trans f1).trans e.ff, rl.ext e, by simpa using q, ⟨fun σ' F' H' δ' ff r' ⟨j, hj, h'⟩ => ⟨δ', F', j, hj, (f1.trans e.ff).trans ff, r', h'⟩, ok.rt, fun σ' F' H' δ' ff r' h' => ok.nx σ' F' H' δ' ((f1.trans e.ff).trans ff) r' h', fun σ' F' H' δ' ff r' ⟨j, hj, h'⟩ => ⟨δ', F', j, hj, (f1.trans e.ff).trans ff, r', h'⟩⟩⟩
    | false => exact ok.nx σ F2 H2 δ (f1.trans e.ff) (rl.ext e) (by simpa using q)
end

/-! ### targets -/
def liftG (K : PySem.W.Frag) (g : WG) : TG := fun v σ H Q => ∃ t δ R F, TRep K F t v ∧ Rel K F H σ δ ∧ g t δ R ∧ ∀ σ' δ', Rel K F H σ' δ' → R δ' → Q σ' H
def liftGs (K : PySem.W.Frag) (g : List T → DSt → (DSt → Prop) → Prop) : TGs := fun vs σ H Q => ∃ ts δ R F, TReps K F ts vs ∧ Rel K F H σ δ ∧ g ts δ R ∧ ∀ σ' δ', Rel K F H σ' δ' → R δ' → Q σ' H
section
variable {X : Cx} {pos : Pos} {H₀ : Hp}
theorem dg_name {i : Nat} {x : Str} (hN : X.N.Nodup) (hi : X.N[i]? = some x := by rfl) (hx : Loc X.env.scope x := by first | exact Or.inl rfl | exact Or.inr rfl) (hf : X.fn x = true ∨ X.env.scope.names.lookup x = some .local := by first | exact .inl rfl | exact .inr rfl | assumption) : PG X (.Name x pos) (liftG X.K (wgName i)) :=
  (pg_name hN hi hx hf).imp fun v σ H Q ⟨t, δ, R, F, p, rl, h, k⟩ => k _ _ (rl.put (s := .t t) p (fun _ z => by cases z)) h
theorem dgs_nil : PGs X [] (liftGs X.K wgNil) := pgs_nil.imp fun v σ H Q ⟨ts, δ, R, F, p, rl, h, k⟩ => by
  unfold wgNil at h
  split at h
  · cases (show v = [] from p)
    exact ⟨rfl, k σ δ rl h⟩
  · exact h.elim
theorem dgs_cons {e : Expr} {es : List Expr} {g : WG} {gr : List T → DSt → (DSt → Prop) → Prop} (h1 : PG X e (liftG X.K g)) (h2 : PGs X es (liftGs X.K gr))
    (hs : (assignEach (e :: es) X.env).map (·.2) = assign e X.env :: (assignEach es X.env).map (·.2) := by rfl) : PGs X (e :: es) (liftGs X.K (wgCons g gr)) :=
  (pgs_cons h1 h2 hs).imp fun v σ H Q ⟨ts, δ, R, F, p, rl, h, k⟩ => by
    unfold wgCons at h
    split at h
    · rename_i t r
      obtain ⟨x, vr, e1, p1, p2⟩ := p
      exact ⟨x, vr, e1, t, δ, _, F, p1, rl, h, fun σ' δ' rl' h' => ⟨r, δ', R, F, p2, rl', h', k⟩⟩
    · exact h.elim
theorem dg_tup {es : List Expr} {k : Nat} {g : List T → DSt → (DSt → Prop) → Prop} {n : Nat} (h : PGs X es (liftGs X.K g)) (hl : ∀ ts δ R, g ts δ R → ts.length = n) (hc : X.calm = true := by rfl)
    (hn : (assignEach es X.env).length = n := by rfl) (hst : (assignEach es X.env).findIdx? (·.1) = none := by rfl) : PG X (.Tuple es k pos) (liftG X.K (wgTup g)) :=
  (pg_tup hc h hn hst).imp fun v σ H Q ⟨t, δ, R, F, p, rl, h, k⟩ => by
    unfold wgTup at h
    split at h
    · rename_i ts
      obtain ⟨a, xs, e1, p1, p2⟩ := p
      exact ⟨a, xs, e1, Same.sqT rl.sub a xs p1, by rw [p2.length]; exact hl ts δ R h, ts, δ, R, F, p2, rl, h, k⟩
    · exact h.elim
theorem len_nil : ∀ ts δ R, wgNil ts δ R → ts.length = 0 := fun ts δ R h => by
  unfold wgNil at h
  split at h
  · rfl
  · exact h.elim
theorem len_cons {n : Nat} {i : Nat} {gr : List T → DSt → (DSt → Prop) → Prop} (hr : ∀ ts δ R, gr ts δ R → ts.length = n) : ∀ ts δ R, wgCons (wgName i) gr ts δ R → ts.length = n + 1 := fun ts δ R h => by
  unfold wgCons at h
  split at h
  · rw [List.length_cons, hr _ _ _ h]
  · exact h.elim
theorem ds_unp {tg e : Expr} {we : WE} {g : WG} (he : PE X e (liftE X.K we)) (hg : PG X tg (liftG X.K g)) (hs : swapsWithSole [tg] e pos.line X.env = pure false := by rfl) (hw : swappedStores [tg] e X.env = pure none := by rfl)
    (h1 : (assignEach [tg] X.env).map (·.2) = [assign tg X.env] := by rfl) : PS X (.Assign [tg] e pos) (liftS X.K H₀ (wUnp we g)) :=
  (ps_asg he hg hs hw h1).imp fun D σ H ⟨δ, D', F, s0, rl, h, ok⟩ => ⟨δ, _, F, rl, h, fun v F1 H1 s e p q => by
    cases s with
    | t t => exact ⟨t, δ, _, F1, p, rl.ext e, q, fun σ' δ' rl' h' => ok.nx σ' F1 H1 δ' e.ff rl' h'⟩
    | vt t => exact ⟨t, freeze δ, _, H1, p, (rl.ext e).freeze, q, fun σ' δ' rl' h' => ok.nx σ' H1 H1 δ' (e.ff.trans e.sub) rl' h'⟩
    | ol ts =>
      obtain ⟨rl2, r2⟩ := rl.thaw e p
      refine ⟨.lst ts, δ, _, _, ?_, rl2, q, fun σ' δ' rl' h' => ok.nx σ' _ H1 δ' r2.1 rl' h'⟩
      unfold TRep
      exact r2.2⟩
theorem ds_par {i j : Nat} {x y : Str} {a b : Expr} {wa : WA} {px py pt : Pos} {kt k2 pt2} (hN : X.N.Nodup) (ha : PA X [a, b] (liftA X.K wa)) (hi : X.N[i]? = some x := by rfl) (hj : X.N[j]? = some y := by rfl) (hij : i ≠ j := by decide)
    (hx : X.env.scope.names.lookup x = some .local := by rfl) (hy : X.env.scope.names.lookup y = some .local := by rfl)
    (hw : swappedStores [.Tuple [.Name x px, .Name y py] kt pt] (.Tuple [a, b] k2 pt2) X.env = pure (some [x, y]) := by rfl) (hc : X.calm = true := by rfl)
    (hs : swapsWithSole [.Tuple [.Name x px, .Name y py] kt pt] (.Tuple [a, b] k2 pt2) pos.line X.env = pure false := by rfl) :
    PS X (.Assign [.Tuple [.Name x px, .Name y py] kt pt] (.Tuple [a, b] k2 pt2) pos) (liftS X.K H₀ (wPar i j wa)) :=
  (ps_par hc hN hi hj hij hx hy ha hw hs).imp fun D σ H ⟨δ, D', F, s0, rl, h, ok⟩ => ⟨δ, _, F, rl, h, fun vs F1 H1 ss e p q => by
    split at q
    · rename_i t u
      obtain ⟨v1, r1, e1, p1, v2, r2, e2, p2, p3⟩ := p
      cases (show r2 = [] from p3)
      exact ⟨v1, v2, by rw [e1, e2], ok.nx _ F1 H1 _ e.ff (((rl.ext e).put (i := i) (s := .t t) p1 (fun _ z => by cases z)).put (i := j) (s := .t u) p2 (fun _ z => by cases z)) q⟩
    · exact q.elim⟩
end

/-! ### for -/
/-- the iterator gives these items while F stays -/
def ItOk (K : PySem.W.Frag) (F : Hp) (J : It) (ts : List T) : Prop :=
  ∀ F1 H1 i, Same F F1 → Same F1 H1 → Full F1 H1 → (∀ t, ts[i]? = some t → J.go i H1 ∧ ∀ x H2, J.yld i H1 x H2 → ∃ F2, Ext F1 H1 F2 H2 ∧ TRep K F2 t x) ∧ (ts.length ≤ i → J.stop i H1)
def liftI (K : PySem.W.Frag) (w : WI) : TI := fun σ H R => ∃ δ W F, Rel K F H σ δ ∧ w δ W ∧ ∀ J F0 F' H' ts δ', Ext F H F0 H' → Same F0 F' → Rel K F' H' σ δ' → ItOk K F' J ts → W ts δ' → R J H'
theorem drop_get {α : Type} {l : List α} {i : Nat} {x : α} {r : List α} (h : l.drop i = x :: r) : l[i]? = some x ∧ l.drop (i + 1) = r := by
  constructor
  · rw [← List.head?_drop, h]; rfl
  · rw [← List.tail_drop, h]; rfl
section
variable {X : Cx} {pos : Pos} {H₀ : Hp} {tg : Expr}
theorem ds_for {iter : Expr} {body : List Stmt} {wi : WI} {g : WG} {wb : WS} (hp : PassesOwn (model X.prog X.w) X.A X.env X.xe) (hi : PI X tg iter (liftI X.K wi)) (hg : PG X tg (liftG X.K g)) (hb : PSs X body (liftS X.K H₀ wb)) (hc : X.calm = true := by rfl)
    (hs : ∀ x, foldedSetIterable iter X.env x = pure x := by intro _; rfl) : PS X (.For tg iter body [] pos) (liftS X.K H₀ (wFor wi g wb)) :=
  (ps_for hp hc hi hg hb hs).imp fun D σ H ⟨δ, D', F, s0, rl, h, ok⟩ => ⟨δ, _, F, rl, h, fun J F0 F1 H1 ts δ1 e0 f01 rl1 it q => by
    have f1 : Same F F1 := e0.ff.trans f01
    obtain ⟨W, w0, wend, wstep⟩ := q
    refine ⟨fun i m σ H => m = ts.length - i ∧ i ≤ ts.length ∧ ∃ δ F2, Same F1 F2 ∧ Rel X.K F2 H σ δ ∧ W (ts.drop i) δ, ⟨ts.length, by simp, Nat.zero_le _, δ1, F1, Same.refl _, rl1, by simpa using w0⟩, ?_⟩
    rintro i m σ H ⟨rfl, hi, δ, F2, f2, rl, h⟩
    obtain ⟨hgo, hstop⟩ := it F2 H i f2 rl.sub rl.full
    cases hd : ts.drop i with
    | nil =>
      rw [hd] at h
      have : ts.length ≤ i := by simpa using hd
      exact .inl ⟨hstop this, ok.nx σ F2 H δ (f1.trans f2) rl (wend δ h)⟩
    | cons x r =>
      rw [hd] at h
      obtain ⟨h1, h2⟩ := drop_get hd
      obtain ⟨go, yld⟩ := hgo x h1
      have hlt : i < ts.length := by
        have := congrArg List.length hd
        simp at this
        omega
      have nexts : ∀ σ' F' H' δ', Same F1 F' → Rel X.K F' H' σ' δ' → W r δ' → ∃ m', m' < ts.length - i ∧ (m' = ts.length - (i + 1) ∧ i + 1 ≤ ts.length ∧ ∃ δ F2, Same F1 F2 ∧ Rel X.K F2 H' σ' δ ∧ W (ts.drop (i + 1)) δ) :=
        fun σ' F' H' δ' ff rl' h' => ⟨ts.length - (i + 1), by omega, rfl, hlt, δ', F', ff, rl', by rw [h2]; exact h'⟩
      refine .inr ⟨go, fun σ' H' => ∃ δ F2, Same F1 F2 ∧ Rel X.K F2 H' σ' δ ∧ W r δ, fun σ' H' ⟨δ', F', ff, rl', h'⟩ => nexts σ' F' H' δ' ff rl' h', fun v H2 y => ?_⟩
      obtain ⟨F3, e3, p3⟩ := yld v H2 y
      refine ⟨x, δ, _, F3, p3, rl.ext e3, wstep x r δ h, fun σ' δ' rl' h' => ?_⟩
      exact ⟨δ', _, F3, ((s0.trans f1).trans f2).trans e3.ff, rl', h', ⟨fun σ'' F'' H'' δ'' ff rl'' h'' => ⟨δ'', F'', (f2.trans e3.ff).trans ff, rl'', h''⟩, ok.rt, fun σ'' F'' H'' δ'' ff rl'' h'' => ok.nx σ'' F'' H'' δ'' (((f1.trans f2).trans e3.ff).trans ff) rl'' h'', fun σ'' F'' H'' δ'' ff rl'' h'' => ⟨δ'', F'', (f2.trans e3.ff).trans ff, rl'', h''⟩⟩⟩⟩
/-- over a list: one that a name owns is frozen -/
def listK (δ : DSt) (W : List T → DSt → Prop) : S → Prop
  | .t (.lst ts) => W ts δ
  | .vt (.lst ts) => W ts (freeze δ)
  | .ol ts => W ts δ
  | _ => False
def wiList (we : WE) : WI := fun δ W => we δ fun s => listK δ W s
theorem it_list {K : PySem.W.Frag} {F : Hp} {a : Addr} {xs : List V} {ts : List T} (h : SqL K F a xs) (r : TReps K F ts xs) : ItOk K F (Itl K a) ts := by
  intro F1 H1 i f1 sb fu
  have q : SqL K H1 a xs := sb.seq (f1.seq h)
  refine ⟨fun t ht => ?_, fun hl => ⟨xs, q, by rw [r.length]; exact hl⟩⟩
  obtain ⟨x, h1, h2⟩ := r.get ht
  refine ⟨⟨xs, x, q, h1⟩, fun y H2 hy => ?_⟩
  obtain ⟨e, hy⟩ := hy
  subst e
  have := hy xs q
  rw [h1] at this
  cases this
  exact ⟨F1, Ext.refl sb fu, TRep.same f1 h2⟩
end
end DL

set_option Elab.async false
set_option linter.all false
set_option maxRecDepth 100000
namespace DL
open PySem L2

/-! ### == and != of trees and lists -/
mutual
def eqT : T → T → Bool
  | .non, .non => true
  | .bl a, .bl b => a == b
  | .bl a, .int b => (if a then 1 else 0) == b
  | .int a, .bl b => a == (if b then 1 else 0)
  | .int a, .int b => a == b
  | .str a, .str b => a == b
  | .tup a, .tup b => eqTs a b
  | .lst a, .lst b => eqTs a b
  | _, _ => false
def eqTs : List T → List T → Bool
  | [], [] => true
  | a :: r, b :: s => eqT a b && eqTs r s
  | _, _ => false
end
mutual
def dep : T → Nat
  | .tup ts => deps ts + 1
  | .lst ts => deps ts + 1
  | .exc _ => 1000
  | _ => 0
def deps : List T → Nat
  | [] => 0
  | t :: r => max (dep t) (deps r)
end
mutual
theorem eqT_refl : ∀ t : T, dep t < 1000 → eqT t t = true
  | .non, _ => rfl
  | .bl b, _ => by simp [eqT]
  | .int i, _ => by simp [eqT]
  | .str x, _ => by simp [eqT]
  | .tup ts, h => by simp only [eqT]; exact eqTs_refl ts (by simp only [dep] at h; omega)
  | .lst ts, h => by simp only [eqT]; exact eqTs_refl ts (by simp only [dep] at h; omega)
  | .exc _, h => by simp [dep] at h
theorem eqTs_refl : ∀ ts : List T, deps ts < 1000 → eqTs ts ts = true
  | [], _ => by simp [eqTs]
  | t :: r, h => by
    simp only [deps] at h
    simp only [eqTs, eqT_refl t (by omega), eqTs_refl r (by omega)]; rfl
end
section
variable {X : Cx} {pins : List (Addr × Obj)} {σ : St} {H : Hp} {s : Shared}
theorem kinds_ne (I : Inv X pins σ H s) {a : Addr} {xs ys : List V} (h : SqT X.K H a xs) (g : SqL X.K H a ys) : False := by
  obtain ⟨its, _, p1, _⟩ := I.tuple h
  obtain ⟨its2, _, p2, _⟩ := I.list g
  exact SeqAt.ne_of_list_tuple p2.isList p1 rfl
mutual
theorem TRep.inj (I : Inv X pins σ H s) : ∀ (t u : T) (v : V), dep t < 1000 → dep u < 1000 → TRep X.K H t v → TRep X.K H u v → t = u
  | .non, u, v, _, _, h, g => by cases (show v = _ from h); cases u with
    | non => rfl
    | tup ts => unfold TRep at g; obtain ⟨_, _, e, _⟩ := g; cases e
    | lst ts => unfold TRep at g; obtain ⟨_, _, e, _⟩ := g; cases e
    | exc c => unfold TRep at g; obtain ⟨_, _, e, _⟩ := g; cases e
    | _ => cases g
  | .bl b, u, v, _, _, h, g => by cases (show v = _ from h); cases u with
    | bl c => cases g; rfl
    | tup ts => unfold TRep at g; obtain ⟨_, _, e, _⟩ := g; cases e
    | lst ts => unfold TRep at g; obtain ⟨_, _, e, _⟩ := g; cases e
    | exc c => unfold TRep at g; obtain ⟨_, _, e, _⟩ := g; cases e
    | _ => cases g
  | .int b, u, v, _, _, h, g => by cases (show v = _ from h); cases u with
    | int c => cases g; rfl
    | tup ts => unfold TRep at g; obtain ⟨_, _, e, _⟩ := g; cases e
    | lst ts => unfold TRep at g; obtain ⟨_, _, e, _⟩ := g; cases e
    | exc c => unfold TRep at g; obtain ⟨_, _, e, _⟩ := g; cases e
    | _ => cases g
  | .str b, u, v, _, _, h, g => by cases (show v = _ from h); cases u with
    | str c => cases g; rfl
    | tup ts => unfold TRep at g; obtain ⟨_, _, e, _⟩ := g; cases e
    | lst ts => unfold TRep at g; obtain ⟨_, _, e, _⟩ := g; cases e
    | exc c => unfold TRep at g; obtain ⟨_, _, e, _⟩ := g; cases e
    | _ => cases g
  | .tup ts, u, v, d1, d2, h, g => by
    unfold TRep at h
    obtain ⟨a, xs, e, h1, h2⟩ := h
    subst e
    cases u with
    | tup us =>
      unfold TRep at g
      obtain ⟨b, ys, e, g1, g2⟩ := g
      cases e
      have := I.tuple_inj h1 g1
      subst this
      rw [TReps.inj I ts us xs (by simp only [dep] at d1; omega) (by simp only [dep] at d2; omega) h2 g2]
    | lst us =>
      unfold TRep at g
      obtain ⟨b, ys, e, g1, g2⟩ := g
      cases e
      exact (kinds_ne I h1 g1).elim
    | exc c => simp [dep] at d2
    | _ => cases g
  | .lst ts, u, v, d1, d2, h, g => by
    unfold TRep at h
    obtain ⟨a, xs, e, h1, h2⟩ := h
    subst e
    cases u with
    | lst us =>
      unfold TRep at g
      obtain ⟨b, ys, e, g1, g2⟩ := g
      cases e
      have := I.list_inj h1 g1
      subst this
      rw [TReps.inj I ts us xs (by simp only [dep] at d1; omega) (by simp only [dep] at d2; omega) h2 g2]
    | tup us =>
      unfold TRep at g
      obtain ⟨b, ys, e, g1, g2⟩ := g
      cases e
      exact (kinds_ne I g1 h1).elim
    | exc c => simp [dep] at d2
    | _ => cases g
  | .exc _, _, _, d1, _, _, _ => by simp [dep] at d1
theorem TReps.inj (I : Inv X pins σ H s) : ∀ (ts us : List T) (xs : List V), deps ts < 1000 → deps us < 1000 → TReps X.K H ts xs → TReps X.K H us xs → ts = us
  | [], us, xs, _, _, h, g => by
    cases (show xs = [] from h)
    cases us with
    | nil => rfl
    | cons u us => obtain ⟨_, _, e, _⟩ := g; cases e
  | t :: ts, us, xs, d1, d2, ⟨x, r, e, h1, h2⟩, g => by
    subst e
    cases us with
    | nil => cases (show _ = [] from g)
    | cons u us =>
      obtain ⟨y, r', e, g1, g2⟩ := g
      cases e
      simp only [deps] at d1 d2
      rw [TRep.inj I t u x (by omega) (by omega) h1 g1, TReps.inj I ts us r (by omega) (by omega) h2 g2]
end
def eqAt (ts us : List T) (j : Nat) : Bool := match ts[j]?, us[j]? with
  | some a, some b => eqT a b
  | _, _ => true
theorem range_all_succ (n : Nat) (e : Nat → Bool) : (List.range (n + 1)).all e = (e 0 && (List.range n).all fun j => e (j + 1)) := by
  rw [List.range_succ_eq_map, List.all_cons, List.all_map]; rfl
theorem eqTs_all : ∀ (ts us : List T), ((List.range (min ts.length us.length)).all (eqAt ts us) && ts.length == us.length) = eqTs ts us
  | [], [] => by simp [eqTs]
  | [], u :: us => by simp [eqTs]
  | t :: ts, [] => by simp [eqTs]
  | t :: ts, u :: us => by
    have ih := eqTs_all ts us
    have e1 : min (t :: ts).length (u :: us).length = min ts.length us.length + 1 := by simp only [List.length_cons]; omega
    rw [e1, range_all_succ]
    have e2 : eqAt (t :: ts) (u :: us) 0 = eqT t u := by simp [eqAt]
    have e3 : (fun j => eqAt (t :: ts) (u :: us) (j + 1)) = eqAt ts us := by funext j; simp [eqAt]
    have e4 : ((t :: ts).length == (u :: us).length) = (ts.length == us.length) := by simp
    rw [e2, e3, e4]
    simp only [eqTs]
    rw [← ih, Bool.and_assoc]
theorem units_in1 (A : Around) : A.in1.units = A.units + 1 := rfl
theorem deps_get : ∀ {ts : List T} {j : Nat} {t : T}, ts[j]? = some t → dep t ≤ deps ts
  | [], _, _, h => by simp at h
  | t :: ts, 0, u, h => by simp at h; subst h; simp only [deps]; omega
  | t :: ts, j + 1, u, h => by
    have := deps_get (ts := ts) (j := j) (t := u) (by simpa using h)
    simp only [deps]; omega
/-- the items of two tuples or lists, pair by pair -/
theorem pair_ok {A : Around} {ts us : List T} {xs ys : List V} {its its2 : List Value} (h1 : TReps X.K H ts xs) (h2 : TReps X.K H us ys) (r1 : Vals xs its) (r2 : Vals ys its2)
    (ih : ∀ t u v1 v2 u1 u2, t ∈ ts → u ∈ us → TRep X.K H t v1 → TRep X.K H u v2 → RelV v1 u1 → RelV v2 u2 → SeqAt.EqAt A s u1 u2 (eqT t u)) :
    ∀ j (h1 : j < its.toArray.size) (h2 : j < its2.toArray.size), SeqAt.EqAt A s its.toArray[j] its2.toArray[j] (eqAt ts us j) := by
  intro j q1 q2
  have l1 := h1.length
  have l2 := h2.length
  have l3 := r1.length
  have l4 := r2.length
  rw [List.size_toArray] at q1 q2
  have g1 : j < ts.length := by omega
  have g2 : j < us.length := by omega
  obtain ⟨x, p1, p2⟩ := h1.get (List.getElem?_eq_getElem g1)
  obtain ⟨y, p3, p4⟩ := h2.get (List.getElem?_eq_getElem g2)
  obtain ⟨w1, p5, p6⟩ := r1.get p1
  obtain ⟨w2, p7, p8⟩ := r2.get p3
  have e1 : its.toArray[j] = w1 := by
    have := List.getElem?_eq_getElem q1
    rw [p5] at this
    simpa using (Option.some.inj this).symm
  have e2 : its2.toArray[j] = w2 := by
    have := List.getElem?_eq_getElem q2
    rw [p7] at this
    simpa using (Option.some.inj this).symm
  have e3 : eqAt ts us j = eqT ts[j] us[j] := by
    unfold eqAt
    rw [List.getElem?_eq_getElem g1, List.getElem?_eq_getElem g2]
  rw [e1, e2, e3]
  exact ih _ _ x y w1 w2 (List.getElem_mem g1) (List.getElem_mem g2) p2 p4 p6 p8
theorem mem_dep {ts : List T} {t : T} (h : t ∈ ts) : dep t ≤ deps ts := by
  obtain ⟨j, hj, rfl⟩ := List.mem_iff_getElem.mp h
  exact deps_get (List.getElem?_eq_getElem hj)
theorem eqTs_range {ts us : List T} (h : ts.length = us.length) : (List.range ts.length).all (eqAt ts us) = eqTs ts us := by
  have := eqTs_all ts us
  rw [← h] at this
  simpa using this
theorem eqTs_len : ∀ {ts us : List T}, ts.length ≠ us.length → eqTs ts us = false
  | [], [], h => absurd rfl h
  | [], _ :: _, _ => by simp [eqTs]
  | _ :: _, [], _ => by simp [eqTs]
  | t :: ts, u :: us, h => by
    simp only [eqTs]
    rw [eqTs_len (ts := ts) (us := us) (by simpa using h), Bool.and_false]
theorem seq_t {A : Around} {a b : Addr} {ts us : List T} {xs ys : List V} {its its2 : List Value} (p2 : TReps X.K H ts xs) (g2 : TReps X.K H us ys) (q1 : Vals xs its) (q2 : Vals ys its2) (pl : PyProof.Rows.IsTup s.heap a its.toArray) (pl2 : PyProof.Rows.IsTup s.heap b its2.toArray) (hu' : A.units < cLine)
    (ih : ∀ t u v1 v2 u1 u2, t ∈ ts → u ∈ us → TRep X.K H t v1 → TRep X.K H u v2 → RelV v1 u1 → RelV v2 u2 → SeqAt.EqAt A.in1 s u1 u2 (eqT t u)) :
    SeqAt.RcAt A s (.ref a) (.ref b) (eqTs ts us) ∧ SeqAt.RcNeAt A s (.ref a) (.ref b) (!eqTs ts us) := by
  have h1 := SeqAt.RcAt.tuples (A := A) (e := eqAt ts us) pl pl2 hu' (pair_ok p2 g2 q1 q2 ih)
  have h2 := SeqAt.RcNeAt.tuples (A := A) (e := eqAt ts us) pl pl2 hu' (pair_ok p2 g2 q1 q2 ih)
  rw [List.size_toArray, List.size_toArray, ← q1.length, ← q2.length, p2.length, g2.length, eqTs_all] at h1 h2
  exact ⟨h1, h2⟩
theorem seq_l {A : Around} {a b : Addr} {ts us : List T} {xs ys : List V} {its its2 : List Value} (p2 : TReps X.K H ts xs) (g2 : TReps X.K H us ys) (q1 : Vals xs its) (q2 : Vals ys its2) (pl : PlainL s.heap a its.toArray) (pl2 : PlainL s.heap b its2.toArray) (hu' : A.units < cLine)
    (ih : ∀ t u v1 v2 u1 u2, t ∈ ts → u ∈ us → TRep X.K H t v1 → TRep X.K H u v2 → RelV v1 u1 → RelV v2 u2 → SeqAt.EqAt A.in1 s u1 u2 (eqT t u)) :
    SeqAt.RcAt A s (.ref a) (.ref b) (eqTs ts us) ∧ SeqAt.RcNeAt A s (.ref a) (.ref b) (!eqTs ts us) := by
  have e1 : its.toArray.size = ts.length := by rw [List.size_toArray, ← q1.length, p2.length]
  have e2 : its2.toArray.size = us.length := by rw [List.size_toArray, ← q2.length, g2.length]
  by_cases hl : ts.length = us.length
  · have hp := pair_ok (A := A.in1) p2 g2 q1 q2 ih
    have g1 := SeqAt.RcAt.lists pl.isList pl2.isList (by rw [e1, e2, hl]) hu' hp
    have g2 := SeqAt.RcNeAt.lists pl.isList pl2.isList (by rw [e1, e2, hl]) hu' hp
    rw [e1, eqTs_range hl] at g1 g2
    exact ⟨g1, g2⟩
  · have ne : (its.toArray.size != its2.toArray.size) = true := by rw [e1, e2]; simpa using hl
    rw [eqTs_len hl]
    exact ⟨SeqAt.RcAt.lists_lengths pl.isList pl2.isList ne hu', SeqAt.RcNeAt.lists_lengths pl.isList pl2.isList ne hu'⟩
theorem rc_trees (I : Inv X pins σ H s) : ∀ (n : Nat) (A : Around) (t u : T) (v1 v2 : V) (u1 u2 : Value), dep t ≤ n → dep u < 1000 → n < 1000 → A.units + n < cLine → TRep X.K H t v1 → TRep X.K H u v2 → RelV v1 u1 → RelV v2 u2 →
    SeqAt.RcAt A s u1 u2 (eqT t u) ∧ SeqAt.RcNeAt A s u1 u2 (!eqT t u) ∧ SeqAt.EqAt A s u1 u2 (eqT t u) := by
  intro n
  induction n with
  | zero =>
    intro A t u v1 v2 u1 u2 hd hd2 hn hu h1 h2 r1 r2
    have hu' : A.units < cLine := by omega
    cases t with
    | tup ts => simp only [dep] at hd; omega
    | lst ts => simp only [dep] at hd; omega
    | exc c => simp [dep] at hd
    | non =>
      cases h1; cases r1
      cases u with
      | non => cases h2; cases r2; exact ⟨SeqAt.RcAt.none_none, SeqAt.RcNeAt.none_none, SeqAt.EqAt.same _⟩
      | bl b => cases h2; cases r2; exact ⟨SeqAt.RcAt.none_bool b, SeqAt.RcNeAt.none_bool b, SeqAt.EqAt.none_bool b⟩
      | int b => cases h2; obtain ⟨tk, rfl⟩ := r2; exact ⟨SeqAt.RcAt.none_int b tk, SeqAt.RcNeAt.none_int b tk, SeqAt.EqAt.none_int b tk⟩
      | str b => cases h2; obtain ⟨tk, rfl⟩ := r2; exact ⟨SeqAt.RcAt.none_str b tk, SeqAt.RcNeAt.none_str b tk, SeqAt.EqAt.none_str b tk⟩
      | tup us =>
        unfold TRep at h2
        obtain ⟨a, xs, rfl, g1, g2⟩ := h2
        cases r2
        obtain ⟨its, _, pl, _⟩ := I.tuple g1
        exact ⟨SeqAt.RcAt.none_tuple pl hu', SeqAt.RcNeAt.none_tuple pl hu', SeqAt.EqAt.none_tuple pl hu'⟩
      | lst us =>
        unfold TRep at h2
        obtain ⟨a, xs, rfl, g1, g2⟩ := h2
        cases r2
        obtain ⟨its, _, pl, _⟩ := I.list g1
        exact ⟨SeqAt.RcAt.none_list pl.isList hu', SeqAt.RcNeAt.none_list pl.isList hu', SeqAt.EqAt.none_list pl.isList hu'⟩
      | exc c => simp [dep] at hd2
    | bl c =>
      cases h1; cases r1
      cases u with
      | non => cases h2; cases r2; exact ⟨SeqAt.RcAt.bool_none c, SeqAt.RcNeAt.bool_none c, SeqAt.EqAt.bool_none c⟩
      | bl b => cases h2; cases r2; exact ⟨SeqAt.RcAt.bool_bool c b, SeqAt.RcNeAt.bool_bool c b, SeqAt.EqAt.bool_bool c b⟩
      | int b => cases h2; obtain ⟨tk, rfl⟩ := r2; exact ⟨SeqAt.RcAt.bool_int c b tk, SeqAt.RcNeAt.bool_int c b tk, SeqAt.EqAt.bool_int c b tk⟩
      | str b => cases h2; obtain ⟨tk, rfl⟩ := r2; exact ⟨SeqAt.RcAt.bool_str c b tk, SeqAt.RcNeAt.bool_str c b tk, SeqAt.EqAt.bool_str c b tk⟩
      | tup us =>
        unfold TRep at h2
        obtain ⟨a, xs, rfl, g1, g2⟩ := h2
        cases r2
        obtain ⟨its, _, pl, _⟩ := I.tuple g1
        exact ⟨SeqAt.RcAt.bool_tuple c pl hu', SeqAt.RcNeAt.bool_tuple c pl hu', SeqAt.EqAt.bool_tuple c pl hu'⟩
      | lst us =>
        unfold TRep at h2
        obtain ⟨a, xs, rfl, g1, g2⟩ := h2
        cases r2
        obtain ⟨its, _, pl, _⟩ := I.list g1
        exact ⟨SeqAt.RcAt.bool_list c pl.isList hu', SeqAt.RcNeAt.bool_list c pl.isList hu', SeqAt.EqAt.bool_list c pl.isList hu'⟩
      | exc c => simp [dep] at hd2
    | int c =>
      cases h1; obtain ⟨tk1, rfl⟩ := r1
      cases u with
      | non => cases h2; cases r2; exact ⟨SeqAt.RcAt.int_none c tk1, SeqAt.RcNeAt.int_none c tk1, SeqAt.EqAt.int_none c tk1⟩
      | bl b => cases h2; cases r2; exact ⟨SeqAt.RcAt.int_bool c tk1 b, SeqAt.RcNeAt.int_bool c tk1 b, SeqAt.EqAt.int_bool c tk1 b⟩
      | int b => cases h2; obtain ⟨tk, rfl⟩ := r2; exact ⟨SeqAt.RcAt.int_int c tk1 b tk, SeqAt.RcNeAt.int_int c tk1 b tk, SeqAt.EqAt.int_int c tk1 b tk⟩
      | str b => cases h2; obtain ⟨tk, rfl⟩ := r2; exact ⟨SeqAt.RcAt.int_str c tk1 b tk, SeqAt.RcNeAt.int_str c tk1 b tk, SeqAt.EqAt.int_str c tk1 b tk⟩
      | tup us =>
        unfold TRep at h2
        obtain ⟨a, xs, rfl, g1, g2⟩ := h2
        cases r2
        obtain ⟨its, _, pl, _⟩ := I.tuple g1
        exact ⟨SeqAt.RcAt.int_tuple c tk1 pl hu', SeqAt.RcNeAt.int_tuple c tk1 pl hu', SeqAt.EqAt.int_tuple c tk1 pl hu'⟩
      | lst us =>
        unfold TRep at h2
        obtain ⟨a, xs, rfl, g1, g2⟩ := h2
        cases r2
        obtain ⟨its, _, pl, _⟩ := I.list g1
        exact ⟨SeqAt.RcAt.int_list c tk1 pl.isList hu', SeqAt.RcNeAt.int_list c tk1 pl.isList hu', SeqAt.EqAt.int_list c tk1 pl.isList hu'⟩
      | exc c => simp [dep] at hd2
    | str c =>
      cases h1; obtain ⟨tk1, rfl⟩ := r1
      cases u with
      | non => cases h2; cases r2; exact ⟨SeqAt.RcAt.str_none c tk1, SeqAt.RcNeAt.str_none c tk1, SeqAt.EqAt.str_none c tk1⟩
      | bl b => cases h2; cases r2; exact ⟨SeqAt.RcAt.str_bool c tk1 b, SeqAt.RcNeAt.str_bool c tk1 b, SeqAt.EqAt.str_bool c tk1 b⟩
      | int b => cases h2; obtain ⟨tk, rfl⟩ := r2; exact ⟨SeqAt.RcAt.str_int c tk1 b tk, SeqAt.RcNeAt.str_int c tk1 b tk, SeqAt.EqAt.str_int c tk1 b tk⟩
      | str b => cases h2; obtain ⟨tk, rfl⟩ := r2; exact ⟨SeqAt.RcAt.str_str c tk1 b tk, SeqAt.RcNeAt.str_str c tk1 b tk, SeqAt.EqAt.str_str c tk1 b tk⟩
      | tup us =>
        unfold TRep at h2
        obtain ⟨a, xs, rfl, g1, g2⟩ := h2
        cases r2
        obtain ⟨its, _, pl, _⟩ := I.tuple g1
        exact ⟨SeqAt.RcAt.str_tuple c tk1 pl hu', SeqAt.RcNeAt.str_tuple c tk1 pl hu', SeqAt.EqAt.str_tuple c tk1 pl hu'⟩
      | lst us =>
        unfold TRep at h2
        obtain ⟨a, xs, rfl, g1, g2⟩ := h2
        cases r2
        obtain ⟨its, _, pl, _⟩ := I.list g1
        exact ⟨SeqAt.RcAt.str_list c tk1 pl.isList hu', SeqAt.RcNeAt.str_list c tk1 pl.isList hu', SeqAt.EqAt.str_list c tk1 pl.isList hu'⟩
      | exc c => simp [dep] at hd2
  | succ n ih =>
    intro A t u v1 v2 u1 u2 hd hd2 hn hu h1 h2 r1 r2
    have hu' : A.units < cLine := by omega
    have ih := fun A t u v1 v2 u1 u2 a b => ih A t u v1 v2 u1 u2 a b (by omega)
    cases t with
    | tup ts =>
      unfold TRep at h1
      obtain ⟨a, xs, rfl, p1, p2⟩ := h1
      cases r1
      obtain ⟨its, q1, pl, _⟩ := I.tuple p1
      cases u with
      | tup us =>
        unfold TRep at h2
        obtain ⟨b, ys, rfl, g1, g2⟩ := h2
        cases r2
        obtain ⟨its2, q2, pl2, _⟩ := I.tuple g1
        simp only [dep] at hd hd2
        have rr : SeqAt.RcAt A s (.ref a) (.ref b) (eqTs ts us) ∧ SeqAt.RcNeAt A s (.ref a) (.ref b) (!eqTs ts us) :=
          seq_t p2 g2 q1 q2 pl pl2 hu' fun t u v1 v2 u1 u2 ht hu2 k1 k2 k3 k4 =>
            (ih A.in1 t u v1 v2 u1 u2 (by have := mem_dep ht; omega) (by have := mem_dep hu2; omega) (by rw [units_in1]; omega) k1 k2 k3 k4).2.2
        refine ⟨by simpa only [eqT] using rr.1, by simpa only [eqT] using rr.2, ?_⟩
        by_cases hab : a = b
        · subst hab
          have := I.tuple_inj p1 g1
          subst this
          have := TReps.inj I ts us xs (by omega) (by omega) p2 g2
          subst this
          rw [eqT_refl _ (by simp only [dep]; omega)]
          exact SeqAt.EqAt.same _
        · simp only [eqT]
          exact SeqAt.EqAt.of_refs hab rr.1
      | lst us =>
        unfold TRep at h2
        obtain ⟨b, ys, rfl, g1, g2⟩ := h2
        cases r2
        obtain ⟨its2, q2, pl2, _⟩ := I.list g1
        exact ⟨SeqAt.RcAt.tuple_list pl pl2.isList hu', SeqAt.RcNeAt.tuple_list pl pl2.isList hu', SeqAt.EqAt.tuple_list pl pl2.isList hu'⟩
      | non => cases h2; cases r2; exact ⟨SeqAt.RcAt.tuple_none pl hu', SeqAt.RcNeAt.tuple_none pl hu', SeqAt.EqAt.tuple_none pl hu'⟩
      | bl b => cases h2; cases r2; exact ⟨SeqAt.RcAt.tuple_bool b pl hu', SeqAt.RcNeAt.tuple_bool b pl hu', SeqAt.EqAt.tuple_bool b pl hu'⟩
      | int b => cases h2; obtain ⟨tk, rfl⟩ := r2; exact ⟨SeqAt.RcAt.tuple_int b tk pl hu', SeqAt.RcNeAt.tuple_int b tk pl hu', SeqAt.EqAt.tuple_int b tk pl hu'⟩
      | str b => cases h2; obtain ⟨tk, rfl⟩ := r2; exact ⟨SeqAt.RcAt.tuple_str b tk pl hu', SeqAt.RcNeAt.tuple_str b tk pl hu', SeqAt.EqAt.tuple_str b tk pl hu'⟩
      | exc c => simp [dep] at hd2
    | lst ts =>
      unfold TRep at h1
      obtain ⟨a, xs, rfl, p1, p2⟩ := h1
      cases r1
      obtain ⟨its, q1, pl, _⟩ := I.list p1
      cases u with
      | lst us =>
        unfold TRep at h2
        obtain ⟨b, ys, rfl, g1, g2⟩ := h2
        cases r2
        obtain ⟨its2, q2, pl2, _⟩ := I.list g1
        simp only [dep] at hd hd2
        have rr : SeqAt.RcAt A s (.ref a) (.ref b) (eqTs ts us) ∧ SeqAt.RcNeAt A s (.ref a) (.ref b) (!eqTs ts us) :=
          seq_l p2 g2 q1 q2 pl pl2 hu' fun t u v1 v2 u1 u2 ht hu2 k1 k2 k3 k4 =>
            (ih A.in1 t u v1 v2 u1 u2 (by have := mem_dep ht; omega) (by have := mem_dep hu2; omega) (by rw [units_in1]; omega) k1 k2 k3 k4).2.2
        refine ⟨by simpa only [eqT] using rr.1, by simpa only [eqT] using rr.2, ?_⟩
        by_cases hab : a = b
        · subst hab
          have := I.list_inj p1 g1
          subst this
          have := TReps.inj I ts us xs (by omega) (by omega) p2 g2
          subst this
          rw [eqT_refl _ (by simp only [dep]; omega)]
          exact SeqAt.EqAt.same _
        · simp only [eqT]
          exact SeqAt.EqAt.of_refs hab rr.1
      | tup us =>
        unfold TRep at h2
        obtain ⟨b, ys, rfl, g1, g2⟩ := h2
        cases r2
        obtain ⟨its2, q2, pl2, _⟩ := I.tuple g1
        exact ⟨SeqAt.RcAt.list_tuple pl.isList pl2 hu', SeqAt.RcNeAt.list_tuple pl.isList pl2 hu', SeqAt.EqAt.list_tuple pl.isList pl2 hu'⟩
      | non => cases h2; cases r2; exact ⟨SeqAt.RcAt.list_none pl.isList hu', SeqAt.RcNeAt.list_none pl.isList hu', SeqAt.EqAt.list_none pl.isList hu'⟩
      | bl b => cases h2; cases r2; exact ⟨SeqAt.RcAt.list_bool b pl.isList hu', SeqAt.RcNeAt.list_bool b pl.isList hu', SeqAt.EqAt.list_bool b pl.isList hu'⟩
      | int b => cases h2; obtain ⟨tk, rfl⟩ := r2; exact ⟨SeqAt.RcAt.list_int b tk pl.isList hu', SeqAt.RcNeAt.list_int b tk pl.isList hu', SeqAt.EqAt.list_int b tk pl.isList hu'⟩
      | str b => cases h2; obtain ⟨tk, rfl⟩ := r2; exact ⟨SeqAt.RcAt.list_str b tk pl.isList hu', SeqAt.RcNeAt.list_str b tk pl.isList hu', SeqAt.EqAt.list_str b tk pl.isList hu'⟩
      | exc c => simp [dep] at hd2
    | exc c => simp only [dep] at hd; omega
    | non => exact ih A _ u v1 v2 u1 u2 (by simp only [dep]; omega) hd2 (by omega) h1 h2 r1 r2
    | bl c => exact ih A _ u v1 v2 u1 u2 (by simp only [dep]; omega) hd2 (by omega) h1 h2 r1 r2
    | int c => exact ih A _ u v1 v2 u1 u2 (by simp only [dep]; omega) hd2 (by omega) h1 h2 r1 r2
    | str c => exact ih A _ u v1 v2 u1 u2 (by simp only [dep]; omega) hd2 (by omega) h1 h2 r1 r2
end
end DL

set_option Elab.async false
set_option linter.all false
set_option maxRecDepth 100000
namespace DL
open PySem L2

/-- an operand that is not too deep and holds no exception -/
def sh (s : S) : Prop := dep (tr s) ≤ 20
def eqS (a b : S) : Bool := eqT (tr a) (tr b)
/-- the answer of == -/
def fEq : S → S → (S → Prop) → Prop := fun a b R => sh a ∧ sh b ∧ R (.t (.bl (eqS a b)))
def fNe : S → S → (S → Prop) → Prop := fun a b R => sh a ∧ sh b ∧ R (.t (.bl (!eqS a b)))
abbrev wEq := wOp2 fEq
abbrev wNe := wOp2 fNe
/-- == by values -/
def rEqD (K : PySem.W.Frag) (neg : Bool) : R2 := fun x y H Q => ∃ a b, dep a ≤ 20 ∧ dep b ≤ 20 ∧ TRep K H a x ∧ TRep K H b y ∧ Q (.bl (if neg then !eqT a b else eqT a b)) H
/-- x in xs -/
def inT (x : T) (ts : List T) : Bool := ts.any fun t => eqT t x
def fNotIn : S → S → (S → Prop) → Prop := fun a b R => match tr b with
  | .lst ts => sh a ∧ deps ts ≤ 20 ∧ R (.t (.bl (!inT (tr a) ts)))
  | .tup ts => sh a ∧ deps ts ≤ 20 ∧ R (.t (.bl (!inT (tr a) ts)))
  | _ => False
abbrev wNotIn := wOp2 fNotIn
def rInD (K : PySem.W.Frag) (neg : Bool) : R2 := fun x y H Q => ∃ a p xs ts, dep a ≤ 20 ∧ deps ts ≤ 20 ∧ TRep K H a x ∧ y = .ref p ∧ (SqL K H p xs ∨ SqT K H p xs) ∧ TReps K H ts xs ∧ Q (.bl (if neg then !inT a ts else inT a ts)) H
/-- is None -/
def isN : T → Bool
  | .non => true
  | _ => false
def wIsN (wa : WE) : WE := fun δ R => wa δ fun s => R (.t (.bl (isN (tr s))))
def wNotN (wa : WE) : WE := fun δ R => wa δ fun s => R (.t (.bl (!isN (tr s))))
section
variable {X : Cx}
theorem op_eqD (hu : X.A.units + 64 < cLine) : OpR X (compareOp .Eq) (rEqD X.K false) := by
  intro pins s σ H x y v u Q I rx ry h
  obtain ⟨a, b, h1, h2, p1, p2, q⟩ := h
  exact (rc_trees I 20 X.A a b x y v u h1 (by omega) (by omega) (by omega) p1 p2 rx ry).1 X.prog X.w X.xe _ ⟨.bl _, H, I, rfl, q⟩
theorem op_neD (hu : X.A.units + 64 < cLine) : OpR X (compareOp .NotEq) (rEqD X.K true) := by
  intro pins s σ H x y v u Q I rx ry h
  obtain ⟨a, b, h1, h2, p1, p2, q⟩ := h
  exact (rc_trees I 20 X.A a b x y v u h1 (by omega) (by omega) (by omega) p1 p2 rx ry).2.1 X.prog X.w X.xe _ ⟨.bl _, H, I, rfl, q⟩
theorem op2_eq {K : PySem.W.Frag} : Op2 K (rEqD K false) fEq := fun F H s1 s2 v1 v2 R Q sb fu p1 p2 h k => ⟨tr s1, tr s2, h.1, h.2.1, p1.tree sb, p2.tree sb, k _ F H (.t (.bl _)) (Ext.refl sb fu) rfl h.2.2⟩
theorem op2_ne {K : PySem.W.Frag} : Op2 K (rEqD K true) fNe := fun F H s1 s2 v1 v2 R Q sb fu p1 p2 h k => ⟨tr s1, tr s2, h.1, h.2.1, p1.tree sb, p2.tree sb, k _ F H (.t (.bl _)) (Ext.refl sb fu) rfl h.2.2⟩
/-- the items' answers, read off the values -/
noncomputable def eqW (X : Cx) (H : Hp) (a : T) (ts : List T) (u : Value) : Bool := open Classical in decide (∃ t v, t ∈ ts ∧ TRep X.K H t v ∧ RelV v u ∧ eqT t a = true)
theorem relV_inj {v w : V} {u : Value} (h : RelV v u) (g : RelV w u) : v = w := RelV.inj h g
theorem eqW_of {pins : List (Addr × Obj)} {σ : St} {H : Hp} {s : Shared} (I : Inv X pins σ H s) {a : T} {ts : List T} (hd : deps ts < 1000) {t : T} {v : V} {u : Value} (ht : t ∈ ts) (h : TRep X.K H t v) (r : RelV v u) : eqW X H a ts u = eqT t a := by
  unfold eqW
  cases e : eqT t a with
  | true => exact @decide_eq_true _ (Classical.propDecidable _) ⟨t, v, ht, h, r, e⟩
  | false =>
    refine @decide_eq_false _ (Classical.propDecidable _) ?_
    rintro ⟨t', v', ht', h', r', e'⟩
    have := relV_inj r r'
    subst this
    have d1 := mem_dep ht
    have d2 := mem_dep ht'
    have := TRep.inj I t t' v (by omega) (by omega) h h'
    subst this
    rw [e] at e'; cases e'
theorem eqW_any {pins : List (Addr × Obj)} {σ : St} {H : Hp} {s : Shared} (I : Inv X pins σ H s) {a : T} {us : List T} (hd : deps us < 1000) : ∀ {ts : List T} {xs : List V} {its : List Value}, (∀ t ∈ ts, t ∈ us) → TReps X.K H ts xs → Vals xs its → its.any (eqW X H a us) = ts.any fun t => eqT t a
  | [], _, _, _, h, r => by cases (show _ = [] from h); cases r; rfl
  | t :: ts, _, _, hm, ⟨x, r, e, p, q⟩, rv => by
    subst e
    cases rv with
    | cons r1 r2 =>
      rw [List.any_cons, List.any_cons, eqW_of I hd (hm t List.mem_cons_self) p r1, eqW_any I hd (fun z hz => hm z (List.mem_cons_of_mem _ hz)) q r2]
theorem mem_reps {K : PySem.W.Frag} {H : Hp} : ∀ {ts : List T} {xs : List V} {its : List Value} {u : Value}, TReps K H ts xs → Vals xs its → u ∈ its → ∃ t v, t ∈ ts ∧ TRep K H t v ∧ RelV v u
  | [], _, _, _, h, r, m => by cases (show _ = [] from h); cases r; cases m
  | t :: ts, _, _, _, ⟨x, r, e, p, q⟩, rv, m => by
    subst e
    cases rv with
    | cons r1 r2 =>
      rcases List.mem_cons.mp m with rfl | m
      · exact ⟨t, x, List.mem_cons_self, p, r1⟩
      · obtain ⟨t', v', h1, h2, h3⟩ := mem_reps q r2 m
        exact ⟨t', v', List.mem_cons_of_mem _ h1, h2, h3⟩
theorem in_items {pins : List (Addr × Obj)} {σ : St} {H : Hp} {s : Shared} (I : Inv X pins σ H s) (hu : X.A.units + 64 < cLine) {a : T} {ts : List T} {x : V} {v : Value} {xs : List V} {its : List Value} (h1 : dep a ≤ 20) (h2 : deps ts ≤ 20) (p1 : TRep X.K H a x) (rx : RelV x v) (p2 : TReps X.K H ts xs) (r : Vals xs its) :
    (∀ y, y ∈ its.toArray → SeqAt.EqAt X.A.in1 s y v (eqW X H a ts y)) ∧ its.toArray.any (eqW X H a ts) = inT a ts := by
  refine ⟨fun y hy => ?_, ?_⟩
  · obtain ⟨t, w, m1, m2, m3⟩ := mem_reps p2 r (by simpa using hy)
    have d := mem_dep m1
    rw [eqW_of I (by omega) m1 m2 m3]
    exact (rc_trees I 20 X.A.in1 t a w x y v (by omega) (by omega) (by omega) (by rw [units_in1]; omega) m2 p1 m3 rx).2.2
  · rw [show its.toArray.any (eqW X H a ts) = its.any (eqW X H a ts) by simp, eqW_any I (by omega) (fun _ h => h) p2 r]
    rfl
theorem op_notInD (hu : X.A.units + 64 < cLine) : OpR X (compareOp .NotIn) (rInD X.K true) := by
  intro pins s σ H x y v u Q I rx ry h
  obtain ⟨a, p, xs, ts, h1, h2, p1, rfl, hq, p2, q⟩ := h
  cases ry
  rcases hq with hq | hq
  · obtain ⟨its, r, pl, hz⟩ := I.list hq
    obtain ⟨g1, g2⟩ := in_items I hu h1 h2 p1 rx p2 r
    refine SeqAt.notIn_listAt (eqW X H a ts) pl.isList g1 ⟨.bl _, H, I, rfl, ?_⟩
    rw [g2]; exact q
  · obtain ⟨its, r, pl, hz⟩ := I.tuple hq
    obtain ⟨g1, g2⟩ := in_items I hu h1 h2 p1 rx p2 r
    refine SeqAt.notIn_tupleAt (eqW X H a ts) pl g1 ⟨.bl _, H, I, rfl, ?_⟩
    rw [g2]; exact q
theorem op2_notIn {K : PySem.W.Frag} : Op2 K (rInD K true) fNotIn := fun F H s1 s2 v1 v2 R Q sb fu p1 p2 h k => by
  have t2 := p2.tree sb
  unfold fNotIn at h
  split at h
  · rename_i ts e
    rw [e] at t2; unfold TRep at t2
    obtain ⟨p, xs, q1, q2, q3⟩ := t2
    exact ⟨tr s1, p, xs, ts, h.1, h.2.1, p1.tree sb, q1, .inl q2, q3, k _ F H (.t (.bl _)) (Ext.refl sb fu) rfl h.2.2⟩
  · rename_i ts e
    rw [e] at t2; unfold TRep at t2
    obtain ⟨p, xs, q1, q2, q3⟩ := t2
    exact ⟨tr s1, p, xs, ts, h.1, h.2.1, p1.tree sb, q1, .inr q2, q3, k _ F H (.t (.bl _)) (Ext.refl sb fu) rfl h.2.2⟩
  · exact h.elim
variable {a b : Expr} {wa wb : WE} {pos : Pos}
theorem dt_eq {k : Nat} (hr : Room k X.A) (ha : PE X a (liftE X.K wa)) (hb : PE X b (liftE X.K wb)) : PT X (.Compare a [.Eq] [b] pos) (liftT X.K (wB (wEq wa wb))) := dt_cmp (op_eqD hr.units) op2_eq ha hb (nomark _)
theorem dt_ne {k : Nat} (hr : Room k X.A) (ha : PE X a (liftE X.K wa)) (hb : PE X b (liftE X.K wb)) : PT X (.Compare a [.NotEq] [b] pos) (liftT X.K (wB (wNe wa wb))) := dt_cmp (op_neD hr.units) op2_ne ha hb (nomark _)
theorem dt_notIn {k : Nat} (hr : Room k X.A) (ha : PE X a (liftE X.K wa)) (hb : PE X b (liftE X.K wb)) (hm : behindInMarks .NotIn b = false := by rfl) : PT X (.Compare a [.NotIn] [b] pos) (liftT X.K (wB (wNotIn wa wb))) := dt_cmp (op_notInD hr.units) op2_notIn ha hb hm
theorem isN_ok {K : PySem.W.Frag} {H : Hp} {t : T} {v : V} (h : TRep K H t v) : decide (v = .non) = isN t := by
  cases t <;> first
    | (cases h; rfl)
    | (unfold TRep at h; obtain ⟨_, _, rfl, _⟩ := h; rfl)
    | (unfold TRep at h; obtain ⟨_, rfl, _⟩ := h; rfl)
theorem lift_isN {K : PySem.W.Frag} : ∀ σ H Q, liftE K (wIsN wa) σ H Q → tOp (fun x y H Q => y = .non ∧ Q (.bl (decide (x = .non))) H) (liftE K wa) (liftE K (wC .non)) σ H Q := by
  rintro σ H Q ⟨δ, R, F, rl, h, k⟩
  refine ⟨δ, _, F, rl, h, fun v1 F1 H1 s1 e1 p1 h1 => ?_⟩
  refine ⟨δ, fun s => s = .t .non, F1, rl.ext e1, rfl, fun v2 F2 H2 s2 e2 p2 h2 => ?_⟩
  subst h2
  refine ⟨p2, k _ F2 H2 (.t (.bl (isN (tr s1)))) (e1.trans e2) ?_ h1⟩
  show _ = _
  rw [isN_ok (((p1.ext e2).val e2.sub).tree e2.sub)]
theorem de_IsN {j : Nat} {p : Pos} (ha : PE X a (liftE X.K wa)) : PE X (.Compare a [.Is] [.Constant .none j p] pos) (liftE X.K (wIsN wa)) := (pe_cmpR op_isN ha de_non (nomark _)).imp lift_isN
theorem dt_IsN {j : Nat} {p : Pos} (ha : PE X a (liftE X.K wa)) : PT X (.Compare a [.Is] [.Constant .none j p] pos) (liftT X.K (wB (wIsN wa))) :=
  (pt_cmpR op_isN ha de_non (nomark _)).imp fun σ H Q ⟨δ, R, F, rl, h, k⟩ => by
    refine lift_isN σ H _ ⟨δ, _, F, rl, h, fun v F1 H1 s e p q => ?_⟩
    split at q
    · exact ⟨_, p, k F1 H1 _ e q⟩
    · exact q.elim
end

/-! ### isinstance -/
inductive Ty where
  | non | bool | int | str | tup | lst | exc
def Ty.nm : Ty → String
  | .non => "NoneType" | .bool => "bool" | .int => "int" | .str => "str" | .tup => "tuple" | .lst => "list" | .exc => ""
def tyT : T → Ty
  | .non => .non
  | .bl _ => .bool
  | .int _ => .int
  | .str _ => .str
  | .tup _ => .tup
  | .lst _ => .lst
  | .exc _ => .exc
def tyS (s : S) : Ty := tyT (tr s)
def isTy : Ty → Ty → Bool
  | .non, .non => true
  | .bool, .bool => true
  | .bool, .int => true
  | .int, .int => true
  | .str, .str => true
  | .tup, .tup => true
  | .lst, .lst => true
  | _, _ => false
theorem kit_ty (K : PySem.W.Frag) (a b : Ty) (ha : a ≠ .exc) (hb : b ≠ .exc) : PySem.W.kitOne K (.type a.nm) (.type b.nm) = some (isTy a b) := by
  cases a <;> first | exact absurd rfl ha | (cases b <;> first | exact absurd rfl hb | with_unfolding_all rfl)
/-- isinstance with one of Python's own; of an exception it is asked elsewhere -/
def wIs (ty : Ty) (we : WE) : WE := fun δ R => we δ fun s => tyS s ≠ .exc ∧ R (.t (.bl (isTy (tyS s) ty)))
def rIs (K : PySem.W.Frag) (ty : Ty) : List V → Hp → VK → Prop := fun xs H Q => ∃ x a, xs = [x, .ty ty.nm] ∧ tyT a ≠ .exc ∧ TRep K H a x ∧ Q (.bl (isTy (tyT a) ty)) H
section
variable {X : Cx}
theorem call_is {ty : Ty} (ht : ty ≠ .exc) : CallR X (.builtin "isinstance") (rIs X.K ty) := by
  intro pins s σ H xs us Q I r h
  obtain ⟨x, a, rfl, hne, p, q⟩ := h
  obtain ⟨u, w', rfl, r1, r2⟩ := vals2 r
  cases r2
  have fin : ∀ tk, EP X pins σ Q (.bool (isTy (tyT a) ty)) { s with toks := tk } := fun tk => ⟨.bl _, H, I.tok _, rfl, q⟩
  cases a with
  | non => cases p; cases r1; exact PySem.W.kia_one PySem.W.kitx_none I.kIn True.intro (kit_ty X.K .non ty (by simp) ht) (fun z => nomatch z) fin
  | bl c => cases p; cases r1; exact PySem.W.kia_one PySem.W.kitx_bool I.kIn True.intro (kit_ty X.K .bool ty (by simp) ht) (fun z => nomatch z) fin
  | int c => cases p; obtain ⟨t, rfl⟩ := r1; exact PySem.W.kia_one PySem.W.kitx_int I.kIn True.intro (kit_ty X.K .int ty (by simp) ht) (fun z => nomatch z) fin
  | str c => cases p; obtain ⟨t, rfl⟩ := r1; exact PySem.W.kia_one PySem.W.kitx_str I.kIn True.intro (kit_ty X.K .str ty (by simp) ht) (fun z => nomatch z) fin
  | tup ts =>
    unfold TRep at p
    obtain ⟨b, zs, rfl, p3, p4⟩ := p
    cases r1
    obtain ⟨its, _, ⟨o, e, c, _⟩, _⟩ := I.tuple p3
    exact PySem.W.kia_one PySem.W.kitx_tuple I.kIn ⟨o, e, c⟩ (kit_ty X.K .tup ty (by simp) ht) (fun z => nomatch z) fin
  | lst ts =>
    unfold TRep at p
    obtain ⟨b, zs, rfl, p3, p4⟩ := p
    cases r1
    obtain ⟨its, _, ⟨o, n, e, c, hd, d⟩, _⟩ := I.list p3
    exact PySem.W.kia_one PySem.W.kitx_list I.kIn ⟨o, e, c⟩ (kit_ty X.K .lst ty (by simp) ht) (fun z => nomatch z) fin
  | exc c => exact absurd rfl hne
variable {e : Expr} {we : WE} {pos p p2 : Pos}
theorem de_is {x : Str} (ty : Ty) (ht : ty ≠ .exc) (hv : bootBuiltins x = some (.type ty.nm)) (hm : X.mg "isinstance" = none) (hm2 : X.mg x = none) (he : PE X e (liftE X.K we)) (hg : Gl X "isinstance") (hg2 : Gl X x) (hn : x ≠ "__name__") (hdb : (x == ("__debug__" : Str)) = false)
    (h1 : starEach [e, .Name x p2] X.env = (false, eval e X.env) :: starEach [.Name x p2] X.env) (h2 : starEach [.Name x p2] X.env = (false, eval (.Name x p2) X.env) :: starEach [] X.env) (h3 : (backTo pos (starEach [.Name x p2] X.env)).any (·.1) = false) :
    PE X (.Call (.Name "isinstance" p) [e, .Name x p2] [] pos) (liftE X.K (wIs ty we)) :=
  (pe_callB (call_is (ty := ty) ht) hg hm PyProof.Rows.boot_isinstance (pa_cons he (pa_cons (pe_bltn (v := .ty ty.nm) hg2 hm2 hv rfl hn hdb) pa_nil h2) h1) (by decide) (by decide) h1 h3).imp fun σ H Q ⟨δ, R, F, rl, h, k⟩ => ⟨δ, _, F, rl, h, fun v F1 H1 s e p q =>
    ⟨v, tr s, rfl, q.1, (p.val e.sub).tree e.sub, k _ F1 H1 (.t (.bl _)) e rfl q.2⟩⟩
theorem de_is_list (hm : X.mg "isinstance" = none) (hm2 : X.mg "list" = none) (he : PE X e (liftE X.K we)) (hg : Gl X "isinstance" := by rfl) (hg2 : Gl X "list" := by rfl) (h1 : starEach [e, .Name "list" p2] X.env = (false, eval e X.env) :: starEach [.Name "list" p2] X.env := by rfl) (h2 : starEach [.Name "list" p2] X.env = (false, eval (.Name "list" p2) X.env) :: starEach [] X.env := by rfl) (h3 : (backTo pos (starEach [.Name "list" p2] X.env)).any (·.1) = false := by rfl) :
    PE X (.Call (.Name "isinstance" p) [e, .Name "list" p2] [] pos) (liftE X.K (wIs .lst we)) := de_is .lst (by simp) PyProof.Rows.boot_list hm hm2 he hg hg2 (by decide) (by decide) h1 h2 h3
end

/-! ### what a for walks -/
def rngT (lo : Int) (n : Nat) : List T := (List.range n).map fun (k : Nat) => .int (lo + (k : Int))
theorem it_rng {K : PySem.W.Frag} {F : Hp} (lo : Int) (n : Nat) : ItOk K F (Itr lo n) (rngT lo n) := by
  intro F1 H1 i f1 sb fu
  refine ⟨fun t ht => ?_, fun hl => (by simpa [rngT] using hl : n ≤ i)⟩
  unfold rngT at ht
  rw [List.getElem?_map] at ht
  cases e : (List.range n)[i]? with
  | none => rw [e] at ht; cases ht
  | some k =>
    rw [e] at ht
    have hk : k = i ∧ i < n := by
      rw [List.getElem?_eq_some_iff] at e
      obtain ⟨h1, h2⟩ := e
      simp at h1 h2
      exact ⟨h2.symm, h1⟩
    obtain ⟨rfl, hn⟩ := hk
    have et : t = .int (lo + k) := by simpa using ht.symm
    refine ⟨hn, fun x H2 hy => ?_⟩
    obtain ⟨e1, e2⟩ := hy
    subst e1; subst e2
    exact ⟨F1, Ext.refl sb fu, by rw [et]; rfl⟩
def tpK (δ : DSt) (W : List T → DSt → Prop) : S → Prop
  | .t (.tup ts) => W ts δ
  | .vt (.tup ts) => W ts (freeze δ)
  | _ => False
def wiTup (we : WE) : WI := fun δ W => we δ fun s => tpK δ W s
def RngOk (i : Int) : Prop := -(2 ^ 62) ≤ i ∧ i < 2 ^ 62
def wiRng1 (wa : WA) : WI := fun δ W => wa δ fun ss => match ss with
  | [.t (.int j)] => RngOk j ∧ W (rngT 0 j.toNat) δ
  | _ => False
def wiRng2 (wa : WA) : WI := fun δ W => wa δ fun ss => match ss with
  | [.t (.int i), .t (.int j)] => RngOk i ∧ RngOk j ∧ W (rngT i (j - i).toNat) δ
  | _ => False
section
variable {X : Cx} {e e2 tg : Expr} {we : WE} {wa : WA} {p pos : Pos}
theorem di_list (he : PE X e (liftE X.K we)) : PI X tg e (liftI X.K (wiList we)) :=
  (pi_list he).imp fun σ H R ⟨δ, W, F, rl, h, k⟩ => ⟨δ, _, F, rl, h, fun v F1 H1 s ex p q => by
    unfold listK at q
    split at q
    · unfold RepE TRep at p
      obtain ⟨a, xs, rfl, h1, h2⟩ := p
      exact ⟨a, rfl, ⟨xs, ex.sub.seq h1⟩, k _ F1 F1 H1 _ δ ex (Same.refl _) (rl.ext ex) (it_list h1 h2) q⟩
    · unfold RepE TRep at p
      obtain ⟨a, xs, rfl, h1, h2⟩ := p
      exact ⟨a, rfl, ⟨xs, h1⟩, k _ F1 H1 H1 _ (freeze δ) ex ex.sub (rl.ext ex).freeze (it_list h1 h2) q⟩
    · obtain ⟨rl2, sm, a, xs, rfl, g1, g2⟩ := rl.thaw ex p
      exact ⟨a, rfl, ⟨xs, rl2.sub.seq g1⟩, k _ _ _ H1 _ δ (ex.frozen rl.sub).1 (Same.refl _) rl2 (it_list g1 g2) q⟩
    · exact q.elim⟩
theorem di_range1 (hm : X.mg "range" = none) (ha : PA X [e] (liftA X.K wa)) (hg : Gl X "range" := by rfl) (hs : starEach [e] X.env = [(false, eval e X.env)] := by rfl) : PI X tg (.Call (.Name "range" p) [e] [] pos) (liftI X.K (wiRng1 wa)) :=
  (pi_range1 hg hm ha hs).imp fun σ H R ⟨δ, W, F, rl, h, k⟩ => ⟨δ, _, F, rl, h, fun vs F1 H1 ss ex p q => by
    split at q
    · obtain ⟨v, r, rfl, p1, p2⟩ := p
      cases (show r = [] from p2)
      cases (show v = _ from p1)
      obtain ⟨⟨q1, q2⟩, q3⟩ := q
      exact ⟨_, rfl, q1, q2, k _ F1 F1 H1 _ δ ex (Same.refl _) (rl.ext ex) (it_rng 0 _) q3⟩
    · exact q.elim⟩
end
end DL

set_option Elab.async false
set_option linter.all false
set_option maxRecDepth 100000
namespace DL
open PySem L2

/-! ### an owned list is changed -/
/-- the list at a, in slot i, becomes ys -/
theorem Rel.mutate {K : PySem.W.Frag} {F H : Hp} {σ : St} {δ : DSt} {i : Nat} {ts us : List T} {a : Addr} {ys : List V} (r : Rel K F H σ δ) (hi : δ[i]? = some (some (.ol ts))) (ha : σ[i]? = some (some (.ref a))) (hF : F a = none) (hH : ∃ xs, H a = some (.lst xs)) (hy : TReps K F us ys) :
    Rel K F (upd H a (.lst ys)) σ (δ.set i (some (.ol us))) := by
  obtain ⟨xs, hH⟩ := hH
  have ne : ∀ b o, F b = some o → b ≠ a := fun b o e z => by rw [z, hF] at e; cases e
  have lt : i < δ.length := by
    rw [List.getElem?_eq_some_iff] at hi
    exact hi.1
  refine ⟨fun b o e => by rw [upd_ne (ne b o e)]; exact r.sub _ _ e, fun b o e => ?_, by rw [List.length_set]; exact r.len, fun j s hj => ?_, fun j l b ts1 ts2 hn h1 h2 h3 => ?_⟩
  · unfold upd at e
    split at e
    · cases e; exact .inr ⟨ys, rfl⟩
    · exact r.full _ _ e
  · by_cases z : i = j
    · subst z
      rw [List.getElem?_set_self lt] at hj
      cases hj
      exact ⟨_, ha, a, ys, rfl, hF, upd_same, hy⟩
    · rw [List.getElem?_set_ne z] at hj
      obtain ⟨v, q1, q2⟩ := r.slot j s hj
      refine ⟨v, q1, ?_⟩
      cases s with
      | t x => exact q2
      | vt zs => exact q2
      | ol zs =>
        obtain ⟨b, bs, e1, e2, e3, e4⟩ := q2
        have nb : b ≠ a := fun y => by
          subst y; subst e1
          exact r.dist i j b ts zs z hi hj ha q1
        exact ⟨b, bs, e1, e2, by rw [upd_ne nb]; exact e3, e4⟩
  · have own : ∀ (j : Nat) (ts1 : List T), (δ.set i (some (.ol us)))[j]? = some (some (.ol ts1)) → ∃ ts0 : List T, δ[j]? = some (some (.ol ts0)) := fun j ts1 h => by
      by_cases z : i = j
      · subst z; exact ⟨ts, hi⟩
      · rw [List.getElem?_set_ne z] at h; exact ⟨ts1, h⟩
    obtain ⟨t1, g1⟩ := own j ts1 h1
    obtain ⟨t2, g2⟩ := own l ts2 h2
    exact r.dist j l b t1 t2 hn g1 g2 h3
section
variable {X : Cx} {e : Expr} {we wv : WE} {pos : Pos} {H₀ : Hp} {i : Nat} {x : Str} {p1 p2 : Pos}
theorem lt_line {n : Nat} (h : n < 100000) : n < sizeLine := Nat.lt_trans h (by decide)
theorem ds_append (he : PE X e (liftE X.K we)) (hv : PE X (.Name x p1) (tVar i) := by exact pv _) (hbase : attributeBase (.Name x p1) "append" X.env (eval (.Name x p1) X.env) = eval (.Name x p1) X.env := by rfl)
    (hfew : ((backTo pos (starEach [e] X.env)).all (fun x => !x.1) && (backToKw pos (keywordEach [] X.env)).all (fun x => x.1.isSome) && decide ([e].length + ([] : List Keyword).length + (if ([] : List Keyword).isEmpty then 0 else 1) < 30)) = true := by rfl)
    (hline : (p2.endLine == pos.line) = true := by rfl) (hs : starEach [e] X.env = (false, eval e X.env) :: starEach [] X.env := by rfl) (hplain : (backTo pos (starEach [] X.env)).any (·.1) = false := by rfl) {pos' : Pos}
    (hsw : swapsWith (.Call (.Attribute (.Name x p1) "append" p2) [e] [] pos) none pos'.line X.env = pure false := by rfl) :
    PS X (.Expr (.Call (.Attribute (.Name x p1) "append" p2) [e] [] pos) pos') (liftS X.K H₀ (wAppend i we)) :=
  (ps_expr (pe_bm PySem.F.plainAttrs_list PySem.F.slot_list_append PySem.F.type_list_append mt_append hv (pa_cons he pa_nil hs) hbase hfew hline hs hplain) hsw).imp fun D σ H ⟨δ, D', F, s0, rl, h, ok⟩ => by
    unfold wAppend at h
    split at h
    · rename_i ts hi
      obtain ⟨v, ha, a, xs, rfl, hF, hH, hr⟩ := rl.slot i _ hi
      refine ⟨_, ha, .inl ⟨rfl, xs, SqL.of hH⟩, δ, _, F, rl, h, fun v F1 H1 s e p q => ?_⟩
      cases s with
      | t y =>
        obtain ⟨hl, q⟩ := q
        have h1 := e.hh _ _ hH
        refine ⟨a, xs, v, rfl, rfl, h1, by rw [hr.length]; exact lt_line hl, ?_⟩
        exact ok.nx σ F1 _ _ e.ff ((rl.ext e).mutate hi ha (e.keep a (by rw [hH]; simp) hF) ⟨xs, h1⟩ ((TReps.same e.ff hr).append (TReps.one p))) q
      | _ => exact q.elim
    · exact h.elim
theorem last_get {α : Type} {l : List α} (h : l ≠ []) : ∃ x, l[l.length - 1]? = some x := by
  cases l with
  | nil => exact absurd rfl h
  | cons a r => exact ⟨_, List.getElem?_eq_getElem (by simp)⟩
theorem ds_pop (hv : PE X (.Name x p1) (tVar i) := by exact pv _) (hbase : attributeBase (.Name x p1) "pop" X.env (eval (.Name x p1) X.env) = eval (.Name x p1) X.env := by rfl) (hline : (p2.endLine == pos.line) = true := by rfl) {pos' : Pos}
    (hsw : swapsWith (.Call (.Attribute (.Name x p1) "pop" p2) [] [] pos) none pos'.line X.env = pure false := by rfl) : PS X (.Expr (.Call (.Attribute (.Name x p1) "pop" p2) [] [] pos) pos') (liftS X.K H₀ (wPop i)) :=
  (ps_expr (pe_bm0 PySem.F.plainAttrs_list PySem.F.slot_list_pop PySem.F.type_list_pop mt_pop hv hbase hline) hsw).imp fun D σ H ⟨δ, D', F, s0, rl, h, ok⟩ => by
    unfold wPop at h
    split at h
    · rename_i ts hi
      obtain ⟨v, ha, a, xs, rfl, hF, hH, hr⟩ := rl.slot i _ hi
      obtain ⟨hne, h⟩ := h
      obtain ⟨t, ht⟩ := last_get hne
      obtain ⟨y, hy, _⟩ := hr.get ht
      rw [← hr.length] at hy
      refine ⟨_, ha, .inl ⟨rfl, xs, SqL.of hH⟩, a, xs, y, rfl, rfl, hH, hy, ?_⟩
      exact ok.nx σ F _ _ (Same.refl _) (rl.mutate hi ha hF ⟨xs, hH⟩ hr.dropLast) h
    · exact h.elim
theorem ds_setIx {v : Expr} (he : PE X e (liftE X.K we)) (hw : PE X v (liftE X.K wv)) (hv : PE X (.Name x p1) (tVar i) := by exact pv _)
    (ha : ∀ z, assign (.Subscript (.Name x p1) e p2) X.env z = (do
      let ov ← holding [z] (eval (.Name x p1) X.env)
      let iv ← holding [z, ov] (eval e X.env)
      standAt p2
      holding [z, ov, iv] (setItem ov iv z)
      release [z, ov, iv] []) := by intro _; rfl)
    (hs : swapsWithSole [.Subscript (.Name x p1) e p2] v pos.line X.env = pure false := by rfl) (hsw : swappedStores [.Subscript (.Name x p1) e p2] v X.env = pure none := by rfl)
    (h1 : (assignEach [.Subscript (.Name x p1) e p2] X.env).map (·.2) = [assign (.Subscript (.Name x p1) e p2) X.env] := by rfl) :
    PS X (.Assign [.Subscript (.Name x p1) e p2] v pos) (liftS X.K H₀ (wSetIx i we wv)) :=
  (ps_asg hw (pg_sub hv he set_list ha) hs hsw h1).imp fun D σ H ⟨δ, D', F, s0, rl, h, ok⟩ => by
    unfold wSetIx at h
    split at h
    · rename_i ts hi
      obtain ⟨v, ha, a, xs, rfl, hF, hH, hr⟩ := rl.slot i _ hi
      refine ⟨δ, _, F, rl, h, fun v1 F1 H1 s1 e1 p1 q1 => ⟨_, ha, δ, _, F1, rl.ext e1, q1, fun v2 F2 H2 s2 e2 p2 q2 => ?_⟩⟩
      have e12 := e1.trans e2
      split at q2
      · rename_i y k
        split at q2
        · rename_i j hj
          have h2 := e12.hh _ _ hH
          refine ⟨a, xs, k, j, rfl, p2, h2, by rw [hr.length]; exact hj, ?_⟩
          exact ok.nx σ F2 _ _ e12.ff ((rl.ext e12).mutate hi ha (e12.keep a (by rw [hH]; simp) hF) ⟨xs, h2⟩ ((TReps.same e12.ff hr).set (TRep.same e2.ff p1) j)) q2
        · exact q2.elim
      · exact q2.elim
    · exact h.elim
end
/-! ### xs + ys -/
/-- the items of a list whose items may be taken into another one -/
def catK (R : List T → Prop) : S → Prop
  | .t (.lst ts) => R ts
  | .vt (.lst ts) => purs ts = true ∧ R ts
  | .ol ts => R ts
  | _ => False
def fCat : S → S → (S → Prop) → Prop := fun a b R => catK (fun ts => catK (fun us => ts.length + us.length ≤ 100000 ∧ R (.ol (ts ++ us))) b) a
/-- lists that are read, glued -/
def rCatD (K : PySem.W.Frag) : R2 := fun x y H Q => ∃ l b xs zs, x = .ref l ∧ y = .ref b ∧ SqL K H l xs ∧ SqL K H b zs ∧ xs.length + zs.length ≤ sizeLine ∧ ∀ p, H p = none → Q (.ref p) (upd H p (.lst (xs ++ zs)))
theorem op_catD {X : Cx} : OpR X (binaryOp .Add) (rCatD X.K) := by
  intro pins s σ H x y v u Q I rx ry h
  obtain ⟨l, b, xs, zs, rfl, rfl, h1, h2, hz, q⟩ := h
  cases rx
  cases ry
  obtain ⟨its, r, pl, z⟩ := I.list h1
  obtain ⟨its2, r2, pl2, z2⟩ := I.list h2
  obtain ⟨⟨cls, dd, data, sl⟩, ho, hc, n, hd⟩ := pl.isList
  obtain ⟨⟨cls2, dd2, data2, sl2⟩, ho2, hc2, n2, hd2⟩ := pl2.isList
  simp only at hc hd hc2 hd2
  subst hc hd hc2 hd2
  have l1 := r.length
  have l2 := r2.length
  refine PySem.concat_meets ⟨_, ho, rfl⟩ ⟨_, ho2, rfl⟩ PySem.noFill_list_add PySem.seq_list_add PySem.F.slot_list_add PySem.F.entry_list_add (PySem.F.args_list_add_2 _ _) (PyProof.Rows.list_addW l b its.toArray its2.toArray n n2 dd dd2 sl sl2 (by rw [List.size_toArray, List.size_toArray]; omega)) ⟨ho, ho2, ?_⟩
  have ea : its.toArray ++ its2.toArray = (its ++ its2).toArray := by simp
  rw [ea]
  exact ⟨.ref _, _, I.lnew (t' := s.toks) (r.append r2) (by rw [List.length_append]; omega), rfl, q _ I.fresh⟩
theorem catK_shape {K : PySem.W.Frag} {F H : Hp} {R : List T → Prop} {s : S} {v : V} (sb : Same F H) (fu : Full F H) (h : catK R s) (p : RepV K F H s v) : ∃ ts a xs, v = .ref a ∧ SqL K H a xs ∧ TReps K F ts xs ∧ R ts := by
  unfold catK at h
  split at h
  · unfold RepV TRep at p
    obtain ⟨a, xs, h1, h2, h3⟩ := p
    exact ⟨_, a, xs, h1, sb.seq h2, h3, h⟩
  · unfold RepV TRep at p
    obtain ⟨a, xs, h1, h2, h3⟩ := p
    exact ⟨_, a, xs, h1, h2, TReps.full fu h.1 h3, h.2⟩
  · unfold RepV at p
    obtain ⟨a, xs, h1, h2, h3⟩ := p
    exact ⟨_, a, xs, h1, h2, h3, h⟩
  · exact h.elim
theorem op2_cat {K : PySem.W.Frag} : Op2 K (rCatD K) fCat := fun F H s1 s2 v1 v2 R Q sb fu p1 p2 h k => by
  obtain ⟨ts, a, xs, rfl, h1, h2, h⟩ := catK_shape sb fu h p1
  obtain ⟨us, b, ys, rfl, h3, h4, hl, h⟩ := catK_shape sb fu h p2
  refine ⟨a, b, xs, ys, rfl, rfl, h1, h3, by rw [h2.length, h4.length]; exact Nat.le_trans hl (by decide), fun p hp => ?_⟩
  exact k _ F _ (.ol _) (Ext.newL _ sb fu hp) ⟨p, _, rfl, hp, none_of_same sb hp, upd_same, h2.append h4⟩ h
theorem de_cat {X : Cx} {a b : Expr} {wa wb : WE} {pos : Pos} (ha : PE X a (liftE X.K wa)) (hb : PE X b (liftE X.K wb)) : PE X (.BinOp a .Add b pos) (liftE X.K (wOp2 fCat wa wb)) := (pe_op op_catD ha hb).imp (lift_op2 op2_cat)

/-! ### a def keeps its promise -/
def startD (N : List Str) (ss : List S) : DSt := ss.map some ++ List.replicate (N.length - ss.length) none
theorem repVs_get {K : PySem.W.Frag} {F H : Hp} : ∀ {ss : List S} {vs : List V} {i : Nat} {s : S}, RepVs K F H ss vs → ss[i]? = some s → ∃ v, vs[i]? = some v ∧ RepV K F H s v
  | [], _, _, _, _, h => by simp at h
  | s :: ss, _, 0, u, ⟨v, r, e, p, q⟩, h => by subst e; simp at h; subst h; exact ⟨v, by simp, p⟩
  | s :: ss, _, i + 1, u, ⟨v, r, e, p, q⟩, h => by
    subst e
    obtain ⟨y, h1, h2⟩ := repVs_get (i := i) q (by simpa using h)
    exact ⟨y, by simpa using h1, h2⟩
theorem repVs_len {K : PySem.W.Frag} {F H : Hp} : ∀ {ss : List S} {vs : List V}, RepVs K F H ss vs → vs.length = ss.length
  | [], _, e => by cases (show _ = [] from e); rfl
  | s :: ss, _, ⟨v, r, e, p, q⟩ => by subst e; rw [List.length_cons, List.length_cons, repVs_len q]
theorem start_get {N : List Str} {ss : List S} {i : Nat} {s : S} (h : (startD N ss)[i]? = some (some s)) : ss[i]? = some s := by
  unfold startD at h
  by_cases hi : i < ss.length
  · rw [List.getElem?_append_left (by simpa using hi), List.getElem?_map] at h
    cases e : ss[i]? with
    | none => rw [e] at h; cases h
    | some u => rw [e] at h; simpa using h
  · rw [List.getElem?_append_right (by simpa using hi), List.getElem?_replicate] at h
    split at h <;> cases h
theorem rel_start {K : PySem.W.Frag} {H : Hp} {N : List Str} {ss : List S} {vs : List V} (hn : ss.length ≤ N.length) (ha : ∀ s ∈ ss, argOk s) (r : RepVs K H H ss vs) : Rel K H H (L2.start N vs) (startD N ss) := by
  have hl := repVs_len r
  refine ⟨Same.refl _, fun _ _ h => .inl h, ?_, fun i s h => ?_, fun i j a ts us _ h1 => ?_⟩
  · unfold L2.start startD
    rw [List.length_append, List.length_append, List.length_map, List.length_map, List.length_replicate, List.length_replicate]
    omega
  · have h1 := start_get h
    obtain ⟨v, h2, h3⟩ := repVs_get r h1
    refine ⟨v, ?_, ?_⟩
    · unfold L2.start
      have hi : i < vs.length := by rw [List.getElem?_eq_some_iff] at h2; exact h2.1
      rw [List.getElem?_append_left (by simpa using hi), List.getElem?_map, h2]
      rfl
    · have := ha s (List.mem_of_getElem? h1)
      cases s with
      | t x => exact h3
      | vt ts => exact this.elim
      | ol ts => exact this.elim
  · have := ha _ (List.mem_of_getElem? (start_get h1))
    exact this.elim
section
variable {P : Program} {wd : World} {K : PySem.W.Frag} {mg : Str → Option Value} {base : Heap}
theorem def_ok {x qual : Str} {st : Stmt} {f : Addr} {fd : FuncData} {N ps : List Str} {k : Nat} {sp : DSpec} {w : WS} (F : Fun K x qual st f fd) (S : FnScope N ps (defScope st))
    (hlen : ∀ ss R, sp ss R → ss.length = ps.length)
    (hbody : ∀ (cdv : Value) (A : Around) (outer : List Env) (s : Shared) (H : Hp) (E : XK), Room k (A.deeper (PyProof.Rows.envOfC qual (defScope st) s.heap.objs.size f cdv)) → PSs (cxOf CX0 P wd K mg base N qual (defScope st) f cdv A outer s H E).nox (defBody st) (liftS K H w))
    (h : ∀ ss R, sp ss R → w { nx := fun _ => R (.t .non), rt := R } (startD N ss)) : FnOk P wd K mg base CX0 (k + 1) f fd ps (toSp K sp) := by
  have pl : ps.length ≤ N.length := by
    have := congrArg List.length S.pre
    rw [List.length_take] at this
    omega
  refine F.ok S (fun vs H Q E hs => ?_) (fun cdv A outer s H vs Q E hr hs => ?_)
  · obtain ⟨ss, R, _, r, hs, _⟩ := hs
    rw [repVs_len r, hlen ss R hs]
  · obtain ⟨ss, R, ha, r, hs, k⟩ := hs
    refine ⟨_, hbody cdv A outer s H E hr, startD N ss, _, H, Same.refl _, rel_start (by rw [hlen ss R hs]; exact pl) ha r, h ss R hs, ⟨fun σ' F' H' δ' ff rl q => ?_, fun v H' s' sm rc q => k v H' s' sm rc q, fun _ _ _ _ _ _ z => z.elim, fun _ _ _ _ _ _ z => z.elim⟩⟩
    exact k .non H' (.t .non) (ff.trans rl.sub) rfl q
theorem callee_of {x qual : Str} {st : Stmt} {f : Addr} {fd : FuncData} {ps : List Str} {k : Nat} {sp : DSpec} (F : Fun K x qual st f fd) (hm : mg x = some (.ref f)) (b : Binds K fd ps []) (h : FnOk P wd K mg base CX0 k f fd ps (toSp K sp)) : Callee P wd K mg base k x sp :=
  ⟨f, fd, ps, hm, h, b, F.kp⟩
/-- the law's own promise -/
def spLaw : DSpec := fun ss R => ∃ ns : List Int, ss = [.t (.lst (ns.map .int))] ∧ ns.length ≤ 63 ∧ R (.t (.bl true))
theorem law_sp {K : PySem.W.Frag} {H : Hp} {a : Addr} {ns : List Int} (hl : ns.length ≤ 63) (hS : SqL K H a (ns.map V.int)) : toSp K spLaw [.ref a] H (fun v _ => v = .bl true) fun _ _ _ => False :=
  ⟨[.t (.lst (ns.map .int))], fun s => s = .t (.bl true), fun s hs => by simp at hs; subst hs; exact True.intro, ⟨.ref a, [], rfl, by show TRep K H (.lst _) _; unfold TRep; exact ⟨a, _, rfl, hS, TReps.ints ns⟩, rfl⟩, ⟨ns, rfl, hl, rfl⟩, fun v H' s _ rc e => by subst e; exact rc⟩
end
end DL

set_option Elab.async false
set_option linter.all false
set_option maxRecDepth 100000
/-! A LIST COMPREHENSION, by data -/
namespace DL
open PySem L2

def blkD (own : Nat) (fr : List Nat) (δ : DSt) : DSt := List.replicate own none ++ fr.map fun i => (δ[i]?).join
def itemK (k : T → Prop) : S → Prop
  | .t y => pur y = true ∧ k y
  | .ol ts => purs ts = true ∧ k (.lst ts)
  | .vt _ => False
/-- by a word of one's own about the items to come and the list so far -/
def compI (g : WG) (tc : WT) (te : WE) (ts : List T) (δ : DSt) (R : List T → Prop) : Prop := ∃ I : List T → DSt → List T → Prop, I ts δ [] ∧ (∀ δ acc, I [] δ acc → R acc) ∧ ∀ x r δ acc, I (x :: r) δ acc →
  g x δ fun δ1 => tc δ1 fun ok => if ok = true then te δ1 fun s => itemK (fun y => acc.length < 100000 ∧ I r δ1 (acc ++ [y])) s else I r δ1 acc
def wComp (own : Nat) (fr : List Nat) (wi : WI) (g : WG) (tc : WT) (te : WE) : WE := fun δ R => wi δ fun ts δ' => compI g tc te ts (blkD own fr (freeze δ')) fun acc => R (.ol acc)
def wYes : WT := fun _ R => R true
/-- no name of the block owns a list -/
def NoOl (δ : DSt) : Prop := ∀ (i : Nat) (ts : List T), δ[i]? ≠ some (some (S.ol ts))
def GOk (g : WG) : Prop := ∀ t δ R, NoOl δ → g t δ R → g t δ fun δ' => NoOl δ' ∧ R δ'
theorem NoOl.set {δ : DSt} (h : NoOl δ) (i : Nat) (t : T) : NoOl (δ.set i (some (.t t))) := fun j ts e => by
  by_cases z : i = j
  · subst z
    rw [List.getElem?_set] at e
    simp at e
  · rw [List.getElem?_set_ne z] at e
    exact h j ts e
theorem gok_name {i : Nat} : GOk (wgName i) := fun t δ R h q => ⟨h.set i t, q⟩
/-- an item of the list that is made: pure, or a list that is new since H -/
def TRepN (K : PySem.W.Frag) (H F : Hp) (t : T) (v : V) : Prop := (pur t = true ∧ TRep K F t v) ∨ ∃ ts a xs, t = .lst ts ∧ purs ts = true ∧ v = .ref a ∧ H a = none ∧ F a = some (.lst xs) ∧ TReps K F ts xs
def TRepsN (K : PySem.W.Frag) (H F : Hp) : List T → List V → Prop
  | [], xs => xs = []
  | t :: ts, xs => ∃ x r, xs = x :: r ∧ TRepN K H F t x ∧ TRepsN K H F ts r
theorem TRepN.same {K : PySem.W.Frag} {H F F' : Hp} (e : Same F F') {t : T} {v : V} (h : TRepN K H F t v) : TRepN K H F' t v := by
  rcases h with ⟨p, h⟩ | ⟨ts, a, xs, h1, h2, h3, h4, h5, h6⟩
  · exact .inl ⟨p, TRep.same e h⟩
  · exact .inr ⟨ts, a, xs, h1, h2, h3, h4, e _ _ h5, TReps.same e h6⟩
theorem TRepsN.same {K : PySem.W.Frag} {H F F' : Hp} (e : Same F F') : ∀ {ts : List T} {xs : List V}, TRepsN K H F ts xs → TRepsN K H F' ts xs
  | [], _, h => h
  | _ :: _, _, ⟨x, r, h1, h2, h3⟩ => ⟨x, r, h1, h2.same e, TRepsN.same e h3⟩
theorem TRepsN.snoc {K : PySem.W.Frag} {H F : Hp} {t : T} {v : V} (h : TRepN K H F t v) : ∀ {ts : List T} {xs : List V}, TRepsN K H F ts xs → TRepsN K H F (ts ++ [t]) (xs ++ [v])
  | [], _, e => by cases (show _ = [] from e); exact ⟨v, [], rfl, h, rfl⟩
  | _ :: _, _, ⟨x, r, h1, h2, h3⟩ => by subst h1; exact ⟨x, r ++ [v], rfl, h2, TRepsN.snoc h h3⟩
theorem TRepsN.length {K : PySem.W.Frag} {H F : Hp} : ∀ {ts : List T} {xs : List V}, TRepsN K H F ts xs → xs.length = ts.length
  | [], _, e => by cases (show _ = [] from e); rfl
  | _ :: _, _, ⟨x, r, h1, _, h3⟩ => by subst h1; rw [List.length_cons, List.length_cons, TRepsN.length h3]
/-- a list that no name owns is changed -/
theorem Rel.other {K : PySem.W.Frag} {F H : Hp} {σ : St} {δ : DSt} {a : Addr} {ys : List V} (r : Rel K F H σ δ) (hF : F a = none) (no : NoOl δ) : Rel K F (upd H a (.lst ys)) σ δ := by
  refine ⟨fun b o e => ?_, fun b o e => ?_, r.len, fun j s hj => ?_, fun i j b ts us _ h1 => absurd h1 (no i ts)⟩
  · have : b ≠ a := fun z => by rw [z, hF] at e; cases e
    rw [upd_ne this]; exact r.sub _ _ e
  · unfold upd at e
    split at e
    · cases e; exact .inr ⟨ys, rfl⟩
    · exact r.full _ _ e
  · obtain ⟨v, q1, q2⟩ := r.slot j s hj
    refine ⟨v, q1, ?_⟩
    cases s with
    | t x => exact q2
    | vt x => exact q2
    | ol ts => exact absurd hj (no j ts)
theorem frozen_noOl (δ : DSt) : NoOl (freeze δ) := fun i ts e => by
  obtain ⟨u, _, h⟩ := get_freeze e
  exact not_ol_freeze u ts h.symm
theorem blkD_get {own : Nat} {fr : List Nat} {δ : DSt} {i : Nat} {s : S} (h : (blkD own fr δ)[i]? = some (some s)) : own ≤ i ∧ ∃ k, fr[i - own]? = some k ∧ δ[k]? = some (some s) := by
  unfold blkD at h
  by_cases hi : i < own
  · rw [List.getElem?_append_left (by simpa using hi), List.getElem?_replicate, if_pos hi] at h
    cases h
  · have hi : own ≤ i := by omega
    refine ⟨hi, ?_⟩
    rw [List.getElem?_append_right (by simpa using hi), List.length_replicate, List.getElem?_map] at h
    cases ef : fr[i - own]? with
    | none => rw [ef] at h; cases h
    | some k =>
      rw [ef] at h
      refine ⟨k, rfl, ?_⟩
      have ev : (δ[k]?).join = some s := by simpa using h
      cases q : δ[k]? with
      | none => rw [q] at ev; cases ev
      | some o => rw [q] at ev; simpa using ev
theorem blkD_noOl {own : Nat} {fr : List Nat} {δ : DSt} (h : NoOl δ) : NoOl (blkD own fr δ) := fun i ts e => by
  obtain ⟨_, k, _, h2⟩ := blkD_get e
  exact h k ts h2
theorem rel_blk {K : PySem.W.Frag} {H : Hp} {σ : St} {δ : DSt} {own : Nat} {fr : List Nat} {D : Addr} (r : Rel K H H σ δ) (no : NoOl δ) (hD : H D = none) : Rel K H (upd H D (.lst [])) (blk own fr σ) (blkD own fr δ) := by
  have : Rel K H H (blk own fr σ) (blkD own fr δ) := by
    refine ⟨r.sub, r.full, ?_, fun i s h => ?_, fun i j a ts us _ h1 => absurd h1 (blkD_noOl no i ts)⟩
    · unfold blk blkD
      rw [List.length_append, List.length_append, List.length_replicate, List.length_replicate, List.length_map, List.length_map]
    · obtain ⟨hi, k, h1, h2⟩ := blkD_get h
      obtain ⟨v, q1, q2⟩ := r.slot k s h2
      refine ⟨v, ?_, q2⟩
      unfold blk
      rw [List.getElem?_append_right (by simpa using hi), List.length_replicate, List.getElem?_map, h1]
      simp [q1]
  exact this.other hD (blkD_noOl no)
/-- the scope of a comprehension's block, looked at -/
def blkLook (N : List Str) (no : Nat) (fr : List Nat) (NX : List Str) (sc around : Scope) : Bool :=
  decide (sc.kind = .function) && sc.names.all (fun y => decide (y.2 ≠ .cell)) && decide N.Nodup && decide (N.length = no + fr.length) &&
  sc.names.all (fun y => decide (y.2 = .local → sc.names.lookup y.1 = some .local)) && sc.names.all (fun y => decide (y.2 = .free → around.names.lookup y.1 = some .cell)) &&
  (List.range no).all (fun i => match N[i]? with | some x => decide (sc.names.lookup x = some .local) | none => true) &&
  (List.range fr.length).all (fun j => match fr[j]?, N[no + j]? with | some i, some x => decide (NX[i]? = some x ∧ sc.names.lookup x = some .free) | _, _ => true)
theorem blk_of {N : List Str} {no : Nat} {fr : List Nat} {NX : List Str} {sc around : Scope} (h : blkLook N no fr NX sc around = true) : BlkScope N no fr NX sc around := by
  unfold blkLook at h
  simp only [Bool.and_eq_true, decide_eq_true_eq, List.all_eq_true, List.mem_range] at h
  obtain ⟨⟨⟨⟨⟨⟨⟨h1, h2⟩, h3⟩, h4⟩, h5⟩, h6⟩, h7⟩, h8⟩ := h
  refine ⟨h1, h2, h3, h4, h5, h6, fun i x e hi => ?_, fun j i x e1 e2 => ?_⟩
  · have := h7 i hi
    rw [e] at this
    simpa using this
  · have hj : j < fr.length := (List.getElem?_eq_some_iff.mp e1).1
    have := h8 j hj
    rw [e1, e2] at this
    simpa using this
section
variable {X : Cx} {N : List Str} {own : Nat} {fr : List Nat} {scope : Scope} {elt tg iter : Expr} {ifs : List Expr} {pos : Pos} {wi : WI} {g : WG} {tc : WT} {te : WE}
theorem dts_nil {Y : Cx} : PTs Y [] (liftT Y.K wYes) := fun pins s σ H Q I ⟨δ, R, F, rl, h, k⟩ => pts_nil pins s σ H Q I (k F H true rl.refl h)
theorem dts_one {Y : Cx} {c : Expr} {t : WT} (h : PT Y c (liftT Y.K t)) : PTs Y [c] (liftT Y.K t) := pts_one h
theorem lift_comp (go : GOk g) : ∀ σ H Q, liftE X.K (wComp own fr wi g tc te) σ H Q → tComp own fr (liftI X.K wi) (liftG X.K g) (liftT X.K tc) (liftE X.K te) σ H Q :=
  fun σ H Q ⟨δ, R, F, rl, h, k⟩ => ⟨δ, _, F, rl, h, fun J F0 F1 H1 ts δ1 e0 f01 rl1 it q D hD => by
    have sH : Same H H1 := e0.hh
    obtain ⟨W, w0, wend, wstep⟩ := q
    refine ⟨fun i m σ' H' => m = ts.length - i ∧ i ≤ ts.length ∧ ∃ δ' F' acc xs, Same H1 F' ∧ F' D = none ∧ H' D = some (.lst xs) ∧ Rel X.K F' H' σ' δ' ∧ NoOl δ' ∧ TRepsN X.K H F' acc xs ∧ W (ts.drop i) δ' acc,
      ⟨ts.length, by simp, Nat.zero_le _, blkD own fr (freeze δ1), H1, [], [], Same.refl _, hD, upd_same, rel_blk rl1.freeze (frozen_noOl _) hD, blkD_noOl (frozen_noOl _), rfl, by simpa using w0⟩, ?_⟩
    rintro i m σ' H' ⟨rfl, hi, δ', F', acc, xs, s1, fD, hH, rl', no, ra, h⟩
    obtain ⟨hgo, hstop⟩ := it F' H' i (rl1.sub.trans s1) rl'.sub rl'.full
    cases hd : ts.drop i with
    | nil =>
      rw [hd] at h
      have : ts.length ≤ i := by simpa using hd
      refine .inl ⟨hstop this, ?_⟩
      have sm : Same H H' := (sH.trans s1).trans rl'.sub
      have ex := grow_ext (x := some D) rl.sub rl.full sm (fun b z => by cases z; exact ⟨xs, hH⟩)
      have hDn : H D = none := none_of_same sH hD
      refine k _ _ H' (.ol acc) ex ⟨D, xs, rfl, hDn, ?_, hH, ?_⟩ (wend δ' acc h)
      · unfold grow
        rw [if_pos (by rw [hDn]; rfl), if_pos rfl]
      · have all : ∀ {acc : List T} {xs : List V}, TRepsN X.K H F' acc xs → TReps X.K (grow F H H' (some D)) acc xs := by
          intro acc
          induction acc with
          | nil => intro xs z; exact z
          | cons t r ih =>
            rintro xs ⟨x, r', z1, z2, z3⟩
            refine ⟨x, r', z1, ?_, ih z3⟩
            rcases z2 with ⟨p, z⟩ | ⟨us, a, ys, rfl, p, rfl, y1, y2, y3⟩
            · exact TRep.full ex.full p (TRep.same rl'.sub z)
            · unfold TRep
              refine ⟨a, ys, rfl, SqL.of ?_, TReps.full ex.full p (TReps.same rl'.sub y3)⟩
              have : a ≠ D := fun z => by rw [z, fD] at y2; cases y2
              unfold grow
              rw [if_pos (by rw [y1]; rfl), if_neg (fun z => this (Option.some.inj z).symm)]
              exact rl'.sub _ _ y2
        exact all ra
    | cons x r =>
      rw [hd] at h
      obtain ⟨h1, h2⟩ := drop_get hd
      obtain ⟨goes, yld⟩ := hgo x h1
      have hlt : i < ts.length := by
        have := congrArg List.length hd
        simp at this
        omega
      refine .inr ⟨goes, fun v H2 y => ?_⟩
      obtain ⟨F3, e3, p3⟩ := yld v H2 y
      have h := wstep x r δ' acc h
      refine ⟨x, δ', _, F3, p3, rl'.ext e3, go x δ' _ no h, fun σ2 δ2 rl2 ⟨no2, h⟩ => ?_⟩
      have D3 : F3 D = none := e3.keep D (by rw [hH]; simp) fD
      have H3 := e3.hh _ _ hH
      refine ⟨δ2, _, F3, rl2, h, fun F4 H4 ok e4 h => ?_⟩
      have D4 : F4 D = none := e4.keep D (by rw [H3]; simp) D3
      have H4D := e4.hh _ _ H3
      have f4 : Same F' F4 := e3.ff.trans e4.ff
      cases ok with
      | false =>
        refine ⟨ts.length - (i + 1), by omega, rfl, hlt, δ2, F4, acc, xs, s1.trans f4, D4, H4D, rl2.ext e4, no2, ra.same f4, ?_⟩
        rw [h2]; simpa using h
      | true =>
        simp only [if_true] at h
        refine ⟨δ2, _, F4, rl2.ext e4, h, fun w F5 H5 s e5 p5 h => ?_⟩
        have H5D := e5.hh _ _ H4D
        refine ⟨xs, H5D, ?_, ts.length - (i + 1), by omega, rfl, hlt, ?_⟩
        · rw [ra.length]
          cases s with
          | t y => exact lt_line h.2.1
          | ol us => exact lt_line h.2.1
          | vt y => exact h.elim
        · cases s with
          | t y =>
            have D5 : F5 D = none := e5.keep D (by rw [H4D]; simp) D4
            refine ⟨δ2, F5, acc ++ [y], xs ++ [w], (s1.trans f4).trans e5.ff, D5, upd_same, ((rl2.ext e4).ext e5).other D5 no2, no2, (ra.same (f4.trans e5.ff)).snoc (.inl ⟨h.1, p5⟩), ?_⟩
            rw [h2]; exact h.2.2
          | ol us =>
            obtain ⟨ez, sz⟩ := e5.frozen (rl2.ext e4).sub
            have D5 : grow F5 H4 H5 none D = none := ez.keep D (by rw [H4D]; simp) D4
            obtain ⟨a, ys, rfl, q0, q1, q2, q3⟩ := p5
            refine ⟨δ2, grow F5 H4 H5 none, acc ++ [.lst us], xs ++ [.ref a], (s1.trans f4).trans ez.ff, D5, upd_same, ((rl2.ext e4).ext ez).other D5 no2, no2, (ra.same (f4.trans ez.ff)).snoc (.inr ⟨us, a, ys, rfl, h.1, rfl, ?_, ?_, TReps.same sz q3⟩), ?_⟩
            · have s4 : Same H H4 := ((sH.trans s1).trans f4).trans e4.sub
              exact none_of_same s4 q0
            · unfold grow
              rw [if_pos (by rw [q0]; rfl), if_neg (by simp)]
              exact q2
            · rw [h2]; exact h.2.2
          | vt y => exact h.elim⟩
theorem de_comp {NX : List Str} {ar : Scope} (look : blkLook N own fr NX scope ar = true) (hi : PI X tg iter (liftI X.K wi)) (go : GOk g)
    (hg : ∀ cl s H fp, PG (cxBlk X N scope cl s H fp) tg (liftG X.K g)) (ht : ∀ cl s H fp, PTs (cxBlk X N scope cl s H fp) ifs (liftT X.K tc)) (he : ∀ cl s H fp, PE (cxBlk X N scope cl s H fp) elt (liftE X.K te)) (eN : X.N = NX := by rfl) (eS : X.env.scope = ar := by rfl) (hc : X.calm = true := by rfl)
    (hs : ∀ x, foldedSetIterable iter X.env x = pure x := by intro _; rfl) : PE X (.ListComp elt [⟨tg, iter, ifs, 0⟩] scope pos) (liftE X.K (wComp own fr wi g tc te)) :=
  (pe_comp (by subst eN; subst eS; exact blk_of look) hc hi hg ht he hs).imp (lift_comp go)
theorem ds_setComp {H₀ : Hp} {NX : List Str} {ar : Scope} {i : Nat} {x : Str} {pos1 pos' : Pos} (hN : X.N.Nodup) (look : blkLook N own fr NX scope ar = true) (hi : PI X tg iter (liftI X.K wi)) (go : GOk g)
    (hg : ∀ cl s H fp, PG (cxBlk X N scope cl s H fp) tg (liftG X.K g)) (ht : ∀ cl s H fp, PTs (cxBlk X N scope cl s H fp) ifs (liftT X.K tc)) (he : ∀ cl s H fp, PE (cxBlk X N scope cl s H fp) elt (liftE X.K te)) (eN : X.N = NX := by rfl) (eS : X.env.scope = ar := by rfl)
    (hi' : X.N[i]? = some x := by rfl) (hx : Loc X.env.scope x := by first | exact Or.inl rfl | exact Or.inr rfl) (hw : swapsWith (.ListComp elt [⟨tg, iter, ifs, 0⟩] scope pos) (some (.Name x pos')) pos1.line X.env = pure true := by rfl) (hf : X.fn x = true ∨ X.env.scope.names.lookup x = some .local := by first | exact .inl rfl | exact .inr rfl | assumption) (hc : X.calm = true := by rfl)
    (hs : ∀ x, foldedSetIterable iter X.env x = pure x := by intro _; rfl) : PS X (.Assign [.Name x pos'] (.ListComp elt [⟨tg, iter, ifs, 0⟩] scope pos) pos1) (liftS X.K H₀ (wSet i (wComp own fr wi g tc te))) :=
  (ps_comp (i := i) hN hi' hx (by subst eN; subst eS; exact blk_of look) hc hi hg ht he hs hw hf).imp fun D σ H ⟨δ, D', F, s0, rl, h, ok⟩ => lift_comp go σ H _ ⟨δ, _, F, rl, h, fun v F1 H1 s e p q => by
    obtain ⟨F2, ff, r2⟩ := rl.setS i e p
    exact ok.nx _ F2 H1 _ ff r2 q⟩
end
end DL

set_option Elab.async false
set_option linter.all false
set_option maxRecDepth 100000
/-! how a reading is run, step by step: each step is an equation that fires only where the value at hand is known -/
namespace DL
open L2
def look (i : Nat) (δ : DSt) (k : S → Prop) : Prop := match δ[i]? with
  | some (some s) => k s
  | _ => False
theorem look_0 (s : S) (r : DSt) (k : S → Prop) : look 0 (some s :: r) k = k s := rfl
theorem look_s (i : Nat) (x : Option S) (r : DSt) (k : S → Prop) : look (i + 1) (x :: r) k = look i r k := rfl
def lookO (i : Nat) (δ : DSt) (k : List T → Prop) : Prop := match δ[i]? with
  | some (some (.ol ts)) => k ts
  | _ => False
theorem lookO_0 (ts : List T) (r : DSt) (k : List T → Prop) : lookO 0 (some (.ol ts) :: r) k = k ts := rfl
theorem lookO_s (i : Nat) (x : Option S) (r : DSt) (k : List T → Prop) : lookO (i + 1) (x :: r) k = lookO i r k := rfl
section
variable (D : DEnds) (δ : DSt) (R : S → Prop) (w u : WS) (we wa wb wv : WE) (ws : WA) (i j : Nat) (x y : T) (s : S) (t c : WT)
theorem a_seq : wSeq w u D δ = w { D with nx := u D } δ := rfl
theorem a_set : wSet i we D δ = we δ fun s => D.nx (setS i s δ) := rfl
theorem a_if : wIf c w u D δ = c δ fun k => if k = true then w D δ else u D δ := rfl
theorem a_ret : wRet we D δ = we δ fun s => D.rt (out s) := rfl
theorem a_retV : wRetV i D δ = look i δ D.rt := rfl
theorem a_retN : wRetN D δ = D.rt (.t .non) := rfl
theorem a_next : wNext D δ = D.nx δ := rfl
theorem a_break : wBreak D δ = D.bk δ := rfl
theorem a_cont : wCont D δ = D.ct δ := rfl
theorem a_drop : wDrop we D δ = we δ fun _ => D.nx δ := rfl
theorem a_var : wVar i δ R = look i δ fun s => R (seen s) := rfl
theorem a_c : wC x δ R = R (.t x) := rfl
theorem a_op2 (f : S → S → (S → Prop) → Prop) : wOp2 f wa wb δ R = wa δ fun x => wb δ fun y => f x y R := rfl
theorem a_un (f : S → (S → Prop) → Prop) : wUn f wa δ R = wa δ fun x => f x R := rfl
theorem a_I (C : Int → Int → Prop) (g : Int → Int → T) (i j : Int) : fI C g (.t (.int i)) (.t (.int j)) R = (C i j ∧ R (.t (g i j))) := rfl
theorem a_I0 (g : Int → Int → T) (i j : Int) : fI0 g (.t (.int i)) (.t (.int j)) R = R (.t (g i j)) := rfl
theorem a_neg (i : Int) : fNeg (.t (.int i)) R = R (.t (.int (-i))) := rfl
theorem a_ixT (ts : List T) (i : Int) : fIx (.t (.tup ts)) (.t (.int i)) R = atT ts i R := rfl
theorem a_ixF (ts : List T) (i : Int) : fIx (.t (.lst ts)) (.t (.int i)) R = atT ts i R := rfl
theorem a_ixW (ts : List T) (i : Int) : fIx (.vt (.tup ts)) (.t (.int i)) R = atV ts i R := rfl
theorem a_ixV (ts : List T) (i : Int) : fIx (.vt (.lst ts)) (.t (.int i)) R = atV ts i R := rfl
theorem a_ixO (ts : List T) (i : Int) : fIx (.ol ts) (.t (.int i)) R = atT ts i R := rfl
theorem atT_of {ts : List T} {i : Int} {x : T} {R : S → Prop} (h : atI ts i = some x) : atT ts i R = R (.t x) := by unfold atT; rw [h]
theorem atI_of {α : Type} {ts : List α} {n : Nat} {x : α} (h : ts[n]? = some x) : atI ts (n : Int) = some x := atI_nat h
theorem atT_0 (r : List T) : atT (x :: r) 0 R = R (.t x) := atT_of (atI_of (n := 0) rfl)
theorem atT_1 (r : List T) : atT (x :: y :: r) 1 R = R (.t y) := atT_of (atI_of (n := 1) rfl)
theorem atT_2 (z : T) (r : List T) : atT (x :: y :: z :: r) 2 R = R (.t z) := atT_of (atI_of (n := 2) rfl)
theorem atT_3 (z z' : T) (r : List T) : atT (x :: y :: z :: z' :: r) 3 R = R (.t z') := atT_of (atI_of (n := 3) rfl)
theorem atV_of {ts : List T} {i : Int} {x : T} {R : S → Prop} (h : atI ts i = some x) : atV ts i R = R (norm x) := by unfold atV; rw [h]
theorem atV_0 (r : List T) : atV (x :: r) 0 R = R (norm x) := atV_of (atI_of (n := 0) rfl)
theorem atV_1 (r : List T) : atV (x :: y :: r) 1 R = R (norm y) := atV_of (atI_of (n := 1) rfl)
theorem atV_2 (z : T) (r : List T) : atV (x :: y :: z :: r) 2 R = R (norm z) := atV_of (atI_of (n := 2) rfl)
theorem atV_3 (z z' : T) (r : List T) : atV (x :: y :: z :: z' :: r) 3 R = R (norm z') := atV_of (atI_of (n := 3) rfl)
theorem norm_of {x : T} (h : pur x = true) : norm x = .t x := if_pos h
theorem norm_non : norm .non = .t .non := rfl
theorem norm_bl (b : Bool) : norm (.bl b) = .t (.bl b) := rfl
theorem norm_int (i : Int) : norm (.int i) = .t (.int i) := rfl
theorem norm_str (i : PySem.Str) : norm (.str i) = .t (.str i) := rfl
theorem norm_exc (i : PySem.Str) : norm (.exc i) = .t (.exc i) := rfl
theorem norm_lst (ts : List T) : norm (.lst ts) = .vt (.lst ts) := rfl
theorem norm_pt (a b : Int) : norm (.tup [.int a, .int b]) = .t (.tup [.int a, .int b]) := rfl
theorem norm_pt3 (a b c : Int) : norm (.tup [.int a, .int b, .int c]) = .t (.tup [.int a, .int b, .int c]) := rfl
theorem norm_sp (a b c d : Int) : norm (.tup [.tup [.int a, .int b], .tup [.int c, .int d]]) = .t (.tup [.tup [.int a, .int b], .tup [.int c, .int d]]) := rfl
theorem e_setT : setS i (.t x) δ = δ.set i (some (.t x)) := rfl
theorem e_setO (ts : List T) : setS i (.ol ts) δ = δ.set i (some (.ol ts)) := rfl
theorem e_setV : setS i (.vt x) δ = (freeze δ).set i (some (.t x)) := rfl
theorem e_seenT : seen (.t x) = .t x := rfl
theorem e_seenV : seen (.vt x) = .vt x := rfl
theorem e_seenO (ts : List T) : seen (.ol ts) = .vt (.lst ts) := rfl
theorem e_outT : out (.t x) = .t x := rfl
theorem e_outV : out (.vt x) = .t x := rfl
theorem e_outO (ts : List T) : out (.ol ts) = .ol ts := rfl
theorem e_argT : asArg (.t x) = .t x := rfl
theorem e_argV : asArg (.vt x) = .t x := rfl
theorem e_argO (ts : List T) : asArg (.ol ts) = .t (.lst ts) := rfl
theorem e_gotT : got (.t x) = norm x := rfl
theorem e_gotO (ts : List T) (h : purs ts = true) : got (.ol ts) = .ol ts := if_pos h
theorem e_frzT : freezeS (.t x) = .t x := rfl
theorem e_frzO (ts : List T) : freezeS (.ol ts) = .t (.lst ts) := rfl
theorem e_frz : freeze [] = [] := rfl
theorem e_frzN (r : DSt) : freeze (none :: r) = none :: freeze r := rfl
theorem e_frzS (s : S) (r : DSt) : freeze (some s :: r) = some (freezeS s) :: freeze r := rfl
theorem e_trT : tr (.t x) = x := rfl
theorem e_trV : tr (.vt x) = x := rfl
theorem e_trO (ts : List T) : tr (.ol ts) = .lst ts := rfl
def asB (R : Bool → Prop) : S → Prop
  | .t (.bl k) => R k
  | _ => False
theorem a_B (R : Bool → Prop) : wB we δ R = we δ (asB R) := rfl
theorem asB_bl (R : Bool → Prop) (k : Bool) : asB R (.t (.bl k)) = R k := rfl
theorem a_andT (R : Bool → Prop) : wAndT t c δ R = t δ fun k => if k = true then c δ R else R false := rfl
theorem a_orT (R : Bool → Prop) : wOrT t c δ R = t δ fun k => if k = true then R true else c δ R := rfl
theorem a_notT (R : Bool → Prop) : wNotT t δ R = t δ fun k => R (!k) := rfl
def andK (B : Prop) (R : S → Prop) : S → Prop
  | .t (.bl k) => if k = true then B else R (.t (.bl false))
  | _ => False
def orK (B : Prop) (R : S → Prop) : S → Prop
  | .t (.bl k) => if k = true then R (.t (.bl true)) else B
  | _ => False
def notK (R : S → Prop) : S → Prop
  | .t (.bl k) => R (.t (.bl (!k)))
  | _ => False
theorem a_andV : wAndV wa wb δ R = wa δ (andK (wb δ R) R) := rfl
theorem a_orV : wOrV wa wb δ R = wa δ (orK (wb δ R) R) := rfl
theorem a_notV : wNotV wa δ R = wa δ (notK R) := rfl
theorem andK_bl (B : Prop) (k : Bool) : andK B R (.t (.bl k)) = if k = true then B else R (.t (.bl false)) := rfl
theorem orK_bl (B : Prop) (k : Bool) : orK B R (.t (.bl k)) = if k = true then R (.t (.bl true)) else B := rfl
theorem notK_bl (k : Bool) : notK R (.t (.bl k)) = R (.t (.bl (!k))) := rfl
theorem a_ifE : wIfE c wa wb δ R = c δ fun k => if k = true then wa δ R else wb δ R := rfl
theorem a_cb (f : List S → (S → Prop) → Prop) : wCB f ws δ R = ws δ fun ss => f ss R := rfl
theorem a_nil (R : List S → Prop) : wNil δ R = R [] := rfl
theorem a_cons (R : List S → Prop) : wCons wa ws δ R = wa δ fun x => ws δ fun xs => R (x :: xs) := rfl
def tupK (R : S → Prop) (ss : List S) : Prop := match trees ss with
  | some ts => if ts.length ≤ 1000 then R (.t (.tup ts)) else False
  | none => False
def lstK (R : S → Prop) (ss : List S) : Prop := match trees ss with
  | some ts => if ts.length ≤ 1000 then R (.ol ts) else False
  | none => False
theorem a_tup : wTup ws δ R = ws δ (tupK R) := rfl
theorem a_lst : wLst ws δ R = ws δ (lstK R) := rfl
theorem tup1 : tupK R [.t x] = R (.t (.tup [x])) := rfl
theorem tup2 : tupK R [.t x, .t y] = R (.t (.tup [x, y])) := rfl
theorem tup3 (z : T) : tupK R [.t x, .t y, .t z] = R (.t (.tup [x, y, z])) := rfl
theorem lst0 : lstK R [] = R (.ol []) := rfl
theorem lst1 : lstK R [.t x] = R (.ol [x]) := rfl
theorem lst2 : lstK R [.t x, .t y] = R (.ol [x, y]) := rfl
theorem lst3 (z : T) : lstK R [.t x, .t y, .t z] = R (.ol [x, y, z]) := rfl
theorem lst4 (z z' : T) : lstK R [.t x, .t y, .t z, .t z'] = R (.ol [x, y, z, z']) := rfl
theorem tup4 (z z' : T) : tupK R [.t x, .t y, .t z, .t z'] = R (.t (.tup [x, y, z, z'])) := rfl
theorem a_call (sp : DSpec) : wCall sp ws δ R = ws δ fun ss => sp (ss.map asArg) fun s => R (got s) := rfl
theorem a_lenT (ts : List T) : fLen [.t (.tup ts)] R = R (.t (.int ts.length)) := rfl
theorem a_lenF (ts : List T) : fLen [.t (.lst ts)] R = R (.t (.int ts.length)) := rfl
theorem a_lenW (ts : List T) : fLen [.vt (.tup ts)] R = R (.t (.int ts.length)) := rfl
theorem a_lenV (ts : List T) : fLen [.vt (.lst ts)] R = R (.t (.int ts.length)) := rfl
theorem a_lenO (ts : List T) : fLen [.ol ts] R = R (.t (.int ts.length)) := rfl
theorem a_abs (i : Int) : fAbs [.t (.int i)] R = R (.t (.int (if i < 0 then -i else i))) := rfl
theorem a_max2 (i j : Int) : fMax2 [.t (.int i), .t (.int j)] R = R (.t (.int (if j > i then j else i))) := rfl
theorem a_min2 (i j : Int) : fMin2 [.t (.int i), .t (.int j)] R = R (.t (.int (if j < i then j else i))) := rfl
theorem a_intI (i : Int) : fInt [.t (.int i)] R = R (.t (.int i)) := rfl
theorem a_intB (b : Bool) : fInt [.t (.bl b)] R = R (.t (.int (if b then 1 else 0))) := rfl
theorem a_listF (ts : List T) : fListOf [.t (.lst ts)] R = R (.ol ts) := rfl
theorem a_listV (ts : List T) : fListOf [.vt (.lst ts)] R = (purs ts = true ∧ R (.ol ts)) := rfl
theorem a_listO (ts : List T) : fListOf [.ol ts] R = R (.ol ts) := rfl
theorem eq_ii (i j : Int) : fEq (.t (.int i)) (.t (.int j)) R = R (.t (.bl (decide (i = j)))) := by
  have e : (i == j) = decide (i = j) := by cases h : (i == j) <;> simp_all
  show (dep (.int i) ≤ 20 ∧ dep (.int j) ≤ 20 ∧ R (.t (.bl (i == j)))) = _
  rw [e]
  exact propext ⟨fun h => h.2.2, fun h => ⟨Nat.zero_le _, Nat.zero_le _, h⟩⟩
theorem ne_ii (i j : Int) : fNe (.t (.int i)) (.t (.int j)) R = R (.t (.bl (!decide (i = j)))) := by
  have e : (i == j) = decide (i = j) := by cases h : (i == j) <;> simp_all
  show (dep (.int i) ≤ 20 ∧ dep (.int j) ≤ 20 ∧ R (.t (.bl (!(i == j))))) = _
  rw [e]
  exact propext ⟨fun h => h.2.2, fun h => ⟨Nat.zero_le _, Nat.zero_le _, h⟩⟩
theorem a_is (ty : Ty) : wIs ty we δ R = we δ fun s => tyS s ≠ .exc ∧ R (.t (.bl (isTy (tyS s) ty))) := rfl
theorem ty_non : tyS (.t .non) = .non := rfl
theorem ty_bl (b : Bool) : tyS (.t (.bl b)) = .bool := rfl
theorem ty_int (i : Int) : tyS (.t (.int i)) = .int := rfl
theorem ty_str (i : PySem.Str) : tyS (.t (.str i)) = .str := rfl
theorem ty_tup (ts : List T) : tyS (.t (.tup ts)) = .tup := rfl
theorem ty_tupV (ts : List T) : tyS (.vt (.tup ts)) = .tup := rfl
theorem ty_fl (ts : List T) : tyS (.t (.lst ts)) = .lst := rfl
theorem ty_vw (ts : List T) : tyS (.vt (.lst ts)) = .lst := rfl
theorem ty_ol (ts : List T) : tyS (.ol ts) = .lst := rfl
theorem a_isN : wIsN wa δ R = wa δ fun s => R (.t (.bl (isN (tr s)))) := rfl
theorem a_notN : wNotN wa δ R = wa δ fun s => R (.t (.bl (!isN (tr s)))) := rfl
theorem ne_ty1 : (Ty.non ≠ Ty.exc) = True := by simp
theorem ne_ty2 : (Ty.bool ≠ Ty.exc) = True := by simp
theorem ne_ty3 : (Ty.int ≠ Ty.exc) = True := by simp
theorem ne_ty4 : (Ty.str ≠ Ty.exc) = True := by simp
theorem ne_ty5 : (Ty.tup ≠ Ty.exc) = True := by simp
theorem ne_ty6 : (Ty.lst ≠ Ty.exc) = True := by simp
theorem a_for (wi : WI) (g : WG) : wFor wi g w D δ = wi δ fun ts δ' => forI g w ts D δ' := rfl
theorem a_wiList (W : List T → DSt → Prop) : wiList we δ W = we δ (listK δ W) := rfl
theorem listK_F (W : List T → DSt → Prop) (ts : List T) : listK δ W (.t (.lst ts)) = W ts δ := rfl
theorem listK_V (W : List T → DSt → Prop) (ts : List T) : listK δ W (.vt (.lst ts)) = W ts (freeze δ) := rfl
theorem listK_O (W : List T → DSt → Prop) (ts : List T) : listK δ W (.ol ts) = W ts δ := rfl
theorem a_wiTup (W : List T → DSt → Prop) : wiTup we δ W = we δ (tpK δ W) := rfl
theorem tpK_T (W : List T → DSt → Prop) (ts : List T) : tpK δ W (.t (.tup ts)) = W ts δ := rfl
theorem tpK_V (W : List T → DSt → Prop) (ts : List T) : tpK δ W (.vt (.tup ts)) = W ts (freeze δ) := rfl
def rngK (δ : DSt) (W : List T → DSt → Prop) : List S → Prop
  | [.t (.int j)] => RngOk j ∧ W (rngT 0 j.toNat) δ
  | _ => False
theorem a_wiRng1 (W : List T → DSt → Prop) : wiRng1 ws δ W = ws δ (rngK δ W) := rfl
theorem rngK_1 (W : List T → DSt → Prop) (j : Int) : rngK δ W [.t (.int j)] = (RngOk j ∧ W (rngT 0 j.toNat) δ) := rfl
def rng2K (δ : DSt) (W : List T → DSt → Prop) : List S → Prop
  | [.t (.int i), .t (.int j)] => RngOk i ∧ RngOk j ∧ W (rngT i (j - i).toNat) δ
  | _ => False
theorem a_wiRng2 (W : List T → DSt → Prop) : wiRng2 ws δ W = ws δ (rng2K δ W) := rfl
theorem rngK_2 (W : List T → DSt → Prop) (i j : Int) : rng2K δ W [.t (.int i), .t (.int j)] = (RngOk i ∧ RngOk j ∧ W (rngT i (j - i).toNat) δ) := rfl
theorem a_gName (R : DSt → Prop) : wgName i x δ R = R (δ.set i (some (.t x))) := rfl
theorem a_gTup (g : List T → DSt → (DSt → Prop) → Prop) (R : DSt → Prop) (ts : List T) : wgTup g (.tup ts) δ R = g ts δ R := rfl
theorem a_gNil (R : DSt → Prop) : wgNil [] δ R = R δ := rfl
theorem a_gCons (g : WG) (gr : List T → DSt → (DSt → Prop) → Prop) (R : DSt → Prop) (r : List T) : wgCons g gr (x :: r) δ R = g x δ fun δ1 => gr r δ1 R := rfl
theorem a_unp (g : WG) : wUnp we g D δ = we δ (unpK g δ D.nx) := rfl
theorem unpK_t (g : WG) (N : DSt → Prop) : unpK g δ N (.t x) = g x δ N := rfl
theorem unpK_v (g : WG) (N : DSt → Prop) : unpK g δ N (.vt x) = g x (freeze δ) N := rfl
def parK (i j : Nat) (δ : DSt) (N : DSt → Prop) : List S → Prop
  | [.t x, .t y] => N ((δ.set i (some (.t x))).set j (some (.t y)))
  | _ => False
theorem a_par : wPar i j ws D δ = ws δ (parK i j δ D.nx) := rfl
theorem parK_2 (N : DSt → Prop) : parK i j δ N [.t x, .t y] = N ((δ.set i (some (.t x))).set j (some (.t y))) := rfl
theorem a_slice (wl wh : DSt → (Option Int → Prop) → Prop) : wSlice we wl wh δ R = we δ fun s => wl δ fun lo => wh δ fun hi => slcK lo hi R s := rfl
theorem slcK_F (lo hi : Option Int) (ts : List T) : slcK lo hi R (.t (.lst ts)) = R (.ol (cutT ts lo hi)) := rfl
theorem slcK_V (lo hi : Option Int) (ts : List T) : slcK lo hi R (.vt (.lst ts)) = (purs ts = true ∧ R (.ol (cutT ts lo hi))) := rfl
theorem slcK_O (lo hi : Option Int) (ts : List T) : slcK lo hi R (.ol ts) = R (.ol (cutT ts lo hi)) := rfl
theorem a_retZ : wRetZ we D δ = we (freeze δ) fun s => D.rt (out s) := rfl
theorem a_cat (a b : S) : fCat a b R = catK (fun ts => catK (fun us => ts.length + us.length ≤ 100000 ∧ R (.ol (ts ++ us))) b) a := rfl
theorem catK_F (R : List T → Prop) (ts : List T) : catK R (.t (.lst ts)) = R ts := rfl
theorem catK_V (R : List T → Prop) (ts : List T) : catK R (.vt (.lst ts)) = (purs ts = true ∧ R ts) := rfl
theorem catK_O (R : List T → Prop) (ts : List T) : catK R (.ol ts) = R ts := rfl
theorem a_comp (own : Nat) (fr : List Nat) (wi : WI) (g : WG) (te : WE) : wComp own fr wi g t te δ R = wi δ fun ts δ' => compI g t te ts (blkD own fr (freeze δ')) fun acc => R (.ol acc) := rfl
theorem a_yes (R : Bool → Prop) : wYes δ R = R true := rfl
theorem itemK_t (k : T → Prop) : itemK k (.t x) = (pur x = true ∧ k x) := rfl
theorem itemK_o (k : T → Prop) (ts : List T) : itemK k (.ol ts) = (purs ts = true ∧ k (.lst ts)) := rfl
theorem pur_non : pur .non = true := rfl
theorem pur_bl (b : Bool) : pur (.bl b) = true := rfl
theorem pur_int (b : Int) : pur (.int b) = true := rfl
theorem pur_str (b : PySem.Str) : pur (.str b) = true := rfl
theorem pur_tup (ts : List T) : pur (.tup ts) = purs ts := rfl
theorem pur_lst (ts : List T) : pur (.lst ts) = false := rfl
theorem purs_nil : purs [] = true := rfl
theorem purs_cons (ts : List T) : purs (x :: ts) = (pur x && purs ts) := rfl
theorem a_part0 (R : Option Int → Prop) : wPart0 δ R = R none := rfl
def prtK (R : Option Int → Prop) : S → Prop
  | .t (.int i) => R (some i)
  | _ => False
theorem a_part (R : Option Int → Prop) : wPart we δ R = we δ (prtK R) := rfl
theorem prtK_i (R : Option Int → Prop) (i : Int) : prtK R (.t (.int i)) = R (some i) := rfl
def appK (i : Nat) (δ : DSt) (N : DSt → Prop) (ts : List T) : S → Prop
  | .t x => ts.length < 100000 ∧ N (δ.set i (some (.ol (ts ++ [x]))))
  | _ => False
theorem a_append : wAppend i we D δ = lookO i δ fun ts => we δ (appK i δ D.nx ts) := rfl
theorem appK_t (N : DSt → Prop) (ts : List T) : appK i δ N ts (.t x) = (ts.length < 100000 ∧ N (δ.set i (some (.ol (ts ++ [x]))))) := rfl
theorem a_pop : wPop i D δ = lookO i δ fun ts => ts ≠ [] ∧ D.nx (δ.set i (some (.ol ts.dropLast))) := rfl
def popK (i j : Nat) (δ : DSt) (N : DSt → Prop) (ts : List T) : Prop := match ts[ts.length - 1]? with
  | some x => N ((δ.set i (some (.ol ts.dropLast))).set j (some (.t x)))
  | none => False
theorem a_popTo : wPopTo j i D δ = lookO i δ (popK i j δ D.nx) := rfl
theorem a_clear : wClear i D δ = lookO i δ fun _ => D.nx (δ.set i (some (.ol []))) := rfl
def sixK (i : Nat) (δ : DSt) (N : DSt → Prop) (ts : List T) : S → S → Prop
  | .t x, .t (.int k) => match ixN ts.length k with
    | some j => N (δ.set i (some (.ol (ts.set j x))))
    | none => False
  | _, _ => False
theorem a_setIx : wSetIx i we wv D δ = lookO i δ fun ts => wv δ fun v => we δ fun s => sixK i δ D.nx ts v s := rfl
end
theorem atT_all {ts : List T} {i : Int} {R : S → Prop} (h0 : 0 ≤ i) (h1 : i < ts.length) (h : ∀ x ∈ ts, R (.t x)) : atT ts i R := by
  have hl : i.toNat < ts.length := by omega
  have e : i = ((i.toNat : Nat) : Int) := by omega
  rw [e, atT_of (atI_of (x := ts[i.toNat]) (by simp [hl]))]
  exact h _ (List.getElem_mem hl)
theorem atT_ints {ns : List Int} {i : Int} {R : S → Prop} (h0 : 0 ≤ i) (h1 : i < ns.length) (h : ∀ v ∈ ns, R (.t (.int v))) : atT (ns.map .int) i R :=
  atT_all h0 (by rw [List.length_map]; exact h1) fun x hx => by
    obtain ⟨v, hv, rfl⟩ := List.mem_map.mp hx
    exact h v hv
/-! sums -/
theorem divOk {i j : Int} (h : j ≠ 0) (h2 : j.natAbs.log2 < 9000) : DivOk i j := ⟨h, PyProof.noPylong_of_log2 h2⟩
theorem mulL {i j : Int} (h1 : -18446744073709551616 < i) (h2 : i < 18446744073709551616) : MulOk i j := ⟨CMul.ok (.inl ⟨by omega, by omega⟩)⟩
theorem mulR {i j : Int} (h1 : -18446744073709551616 < j) (h2 : j < 18446744073709551616) : MulOk i j := ⟨CMul.ok (.inr ⟨by omega, by omega⟩)⟩
theorem abs_eq (i : Int) : (if i < 0 then -i else i) = (i.natAbs : Int) := by split <;> omega
theorem fmod_nat (g l : Nat) : (g : Int).fmod (l : Int) = ((g % l : Nat) : Int) := by
  rw [Int.fmod_eq_emod_of_nonneg _ (Int.natCast_nonneg l)]; rfl
theorem fmod_lo (c : Int) {n : Int} (h : 0 < n) : 0 ≤ c.fmod n := Int.fmod_nonneg_of_pos c h
theorem fmod_hi (c : Int) {n : Int} (h : 0 < n) : c.fmod n < n := Int.fmod_lt_of_pos c h
end DL

set_option Elab.async false
set_option linter.all false
set_option maxRecDepth 100000
/-! how long numbers may be -/
namespace DL
open L2
/-- at most n bits -/
structure Sz (n : Nat) (i : Int) : Prop where
  lt : i.natAbs < 2 ^ n
theorem Sz.mono {m n : Nat} {i : Int} (h : Sz m i) (l : m ≤ n) : Sz n i := ⟨Nat.lt_of_lt_of_le h.lt (Nat.pow_le_pow_right (by decide) l)⟩
theorem Sz.mul {m n : Nat} {a b : Int} (ha : Sz m a) (hb : Sz n b) : Sz (m + n) (a * b) := by
  have ha := ha.lt
  have hb := hb.lt
  refine ⟨?_⟩
  rw [Int.natAbs_mul, Nat.pow_add]
  exact Nat.mul_lt_mul_of_lt_of_le ha (Nat.le_of_lt hb) (Nat.pos_of_ne_zero (by have := Nat.two_pow_pos n; omega))
theorem two_max {m n : Nat} {x y : Nat} (ha : x < 2 ^ m) (hb : y < 2 ^ n) : x + y < 2 ^ (max m n + 1) := by
  have h1 : 2 ^ m ≤ 2 ^ max m n := Nat.pow_le_pow_right (by decide) (Nat.le_max_left _ _)
  have h2 : 2 ^ n ≤ 2 ^ max m n := Nat.pow_le_pow_right (by decide) (Nat.le_max_right _ _)
  rw [Nat.pow_succ]; omega
theorem Sz.add {m n : Nat} {a b : Int} (ha : Sz m a) (hb : Sz n b) : Sz (max m n + 1) (a + b) := by
  have := two_max ha.lt hb.lt
  refine ⟨?_⟩
  omega
theorem Sz.sub {m n : Nat} {a b : Int} (ha : Sz m a) (hb : Sz n b) : Sz (max m n + 1) (a - b) := by
  have := two_max ha.lt hb.lt
  refine ⟨?_⟩
  omega
theorem Sz.neg {m : Nat} {a : Int} (ha : Sz m a) : Sz m (-a) := by
  refine ⟨?_⟩; rw [Int.natAbs_neg]; exact ha.lt
theorem natAbs_fdiv_le (a b : Int) : (a.fdiv b).natAbs ≤ a.natAbs := by
  cases a with
  | ofNat m =>
    cases b with
    | ofNat n =>
      cases m with
      | zero => show (0 : Int).natAbs ≤ _; simp
      | succ m => show (Int.ofNat ((m + 1) / n)).natAbs ≤ m + 1; exact Nat.div_le_self (m + 1) n
    | negSucc n =>
      cases m with
      | zero => show (0 : Int).natAbs ≤ _; simp
      | succ m =>
        show (Int.negSucc (m / (n + 1))).natAbs ≤ m + 1
        have : (Int.negSucc (m / (n + 1))).natAbs = m / (n + 1) + 1 := rfl
        rw [this]
        have := Nat.div_le_self m (n + 1)
        omega
  | negSucc m =>
    cases b with
    | ofNat n =>
      cases n with
      | zero => show (0 : Int).natAbs ≤ _; simp
      | succ n =>
        show (Int.negSucc (m / (n + 1))).natAbs ≤ m + 1
        have : (Int.negSucc (m / (n + 1))).natAbs = m / (n + 1) + 1 := rfl
        rw [this]
        have := Nat.div_le_self m (n + 1)
        omega
    | negSucc n =>
      show (Int.ofNat ((m + 1) / (n + 1))).natAbs ≤ m + 1
      exact Nat.div_le_self (m + 1) (n + 1)
theorem Sz.fdiv {m : Nat} {a : Int} (ha : Sz m a) (b : Int) : Sz m (a.fdiv b) := ⟨Nat.lt_of_le_of_lt (natAbs_fdiv_le a b) ha.lt⟩
theorem Sz.fmod {m : Nat} {b : Int} (hb : Sz m b) (h : 0 < b) (a : Int) : Sz m (a.fmod b) := by
  have h1 := Int.fmod_nonneg_of_pos a h
  have h2 := Int.fmod_lt_of_pos a h
  have := hb.lt
  exact ⟨by omega⟩
theorem Sz.of {m : Nat} {a : Int} (h1 : -(2 ^ m : Nat) < a) (h2 : a < (2 ^ m : Nat)) : Sz m a := ⟨by omega⟩
theorem Sz.gcdL {m : Nat} {a b : Int} (ha : Sz m a) (h : a ≠ 0) : Sz m (Int.gcd a b) := by
  have : Int.gcd a b ≤ a.natAbs := Nat.le_of_dvd (by omega) (Int.gcd_dvd_natAbs_left a b)
  have := ha.lt
  have e : ((Int.gcd a b : Nat) : Int).natAbs = Int.gcd a b := rfl
  refine ⟨?_⟩
  rw [e]; omega
theorem Sz.gcd {m n : Nat} {a b : Int} (ha : Sz m a) (hb : Sz n b) : Sz (max m n) (Int.gcd a b) := by
  by_cases h : a = 0
  · subst h
    have e : Int.gcd 0 b = b.natAbs := Int.gcd_zero_left b
    rw [e]
    exact Sz.mono (show Sz n (b.natAbs : Int) from ⟨hb.lt⟩) (Nat.le_max_right _ _)
  · exact (Sz.gcdL ha h).mono (Nat.le_max_left _ _)
theorem bits_of_sz {n : Nat} {a : Int} (h : Sz n a) (hn : n ≤ 1048576) : PySem.Builtin.Int.intBits a ≤ 2 ^ 20 := by
  unfold PySem.Builtin.Int.intBits
  have e : (2 : Nat) ^ 20 = 1048576 := by decide
  rw [e]
  by_cases h0 : a.natAbs = 0
  · simp only [h0]; split <;> first | omega | simp
  · have := (Nat.log2_lt h0).mpr h.lt
    first
      | omega
      | (simp only [h0]; omega)
      | (split <;> omega)
theorem mulSz {m n : Nat} {a b : Int} (ha : Sz m a) (hb : Sz n b) (h1 : m ≤ 1048576) (h2 : n ≤ 1048576) : MulOk a b := ⟨PySem.IntMulOk.of_bits (bits_of_sz ha h1) (bits_of_sz hb h2)⟩
theorem divSz {n : Nat} {i j : Int} (h : j ≠ 0) (hs : Sz n j) (hn : n ≤ 9000) : DivOk i j := by
  refine divOk h ?_
  have h0 : j.natAbs ≠ 0 := by omega
  have := (Nat.log2_lt h0).mpr hs.lt
  omega
theorem rngOk {i : Int} (h1 : -(2 ^ 62) ≤ i) (h2 : i < 2 ^ 62) : RngOk i := ⟨h1, h2⟩
theorem powOk {i j : Int} (h1 : 0 ≤ j) (h2 : j ≤ 1000000) (h3 : i.natAbs < 2 ^ 64) : PowOk i j := ⟨⟨h1, h2, h3⟩⟩
end DL

set_option Elab.async false
set_option linter.all false
set_option maxRecDepth 100000
/-! points, fractions, spots, halves -/
namespace DL
open L2
abbrev Fr := Int × Int
abbrev Pt := Int × Int
abbrev Spo := Fr × Fr
abbrev Hf := Int × Int × Int
def ptT (p : Pt) : T := .tup [.int p.1, .int p.2]
def frT (p : Fr) : T := .tup [.int p.1, .int p.2]
def spT (s : Spo) : T := .tup [frT s.1, frT s.2]
def hfT (h : Hf) : T := .tup [.int h.1, .int h.2.1, .int h.2.2]
theorem pur_ptT (p : Pt) : pur (ptT p) = true := rfl
theorem purs_map {α : Type} {f : α → T} (h : ∀ a, pur (f a) = true) : ∀ l : List α, purs (l.map f) = true
  | [] => rfl
  | a :: r => by rw [List.map_cons, purs_cons, h a, purs_map h r]; rfl
theorem deps_map {α : Type} {f : α → T} {n : Nat} (h : ∀ a, dep (f a) ≤ n) : ∀ l : List α, deps (l.map f) ≤ n
  | [] => Nat.zero_le _
  | a :: r => by
    rw [List.map_cons]
    have := deps_map h r
    have := h a
    simp only [deps]
    omega
theorem eqTs_map {α : Type} {f : α → T} (h : ∀ a b, eqT (f a) (f b) = true ↔ a = b) : ∀ l m : List α, eqTs (l.map f) (m.map f) = true ↔ l = m
  | [], [] => by simp [eqTs]
  | [], _ :: _ => by simp [eqTs]
  | _ :: _, [] => by simp [eqTs]
  | a :: r, b :: s => by
    simp only [List.map_cons, eqTs, Bool.and_eq_true, h a b, eqTs_map h r s, List.cons.injEq]
theorem eqT_int (a b : Int) : eqT (.int a) (.int b) = true ↔ a = b := by simp [eqT]
theorem eqT_ptT (a b : Pt) : eqT (ptT a) (ptT b) = true ↔ a = b := by
  simp only [ptT, eqT, eqTs, Bool.and_eq_true, beq_iff_eq, Bool.and_true, Prod.ext_iff]
theorem eqT_spT (a b : Spo) : eqT (spT a) (spT b) = true ↔ a = b := by
  obtain ⟨⟨a1, a2⟩, a3, a4⟩ := a
  obtain ⟨⟨b1, b2⟩, b3, b4⟩ := b
  simp only [spT, frT, eqT, eqTs, Bool.and_eq_true, beq_iff_eq, Bool.and_true, Prod.mk.injEq]
theorem eqT_hfT (a b : Hf) : eqT (hfT a) (hfT b) = true ↔ a = b := by
  obtain ⟨a1, a2, a3⟩ := a
  obtain ⟨b1, b2, b3⟩ := b
  simp only [hfT, eqT, eqTs, Bool.and_eq_true, beq_iff_eq, Bool.and_true, Prod.mk.injEq]
theorem dep_ptT (a : Pt) : dep (ptT a) ≤ 2 := by show 1 ≤ 2; decide
theorem dep_spT (a : Spo) : dep (spT a) ≤ 2 := by show 2 ≤ 2; decide
theorem dep_hfT (a : Hf) : dep (hfT a) ≤ 2 := by show 1 ≤ 2; decide
theorem bool_dec {b : Bool} {P : Prop} [Decidable P] (h : b = true ↔ P) : b = decide P := by
  cases b with
  | true => exact (decide_eq_true (h.mp rfl)).symm
  | false => exact (decide_eq_false fun p => by cases h.mpr p).symm
section
variable (R : S → Prop)
theorem eq_of {a b : S} {P : Prop} [Decidable P] (h1 : dep (tr a) ≤ 20) (h2 : dep (tr b) ≤ 20) (h : eqT (tr a) (tr b) = true ↔ P) : fEq a b R = R (.t (.bl (decide P))) := by
  unfold fEq eqS
  rw [bool_dec h]
  exact propext ⟨fun z => z.2.2, fun z => ⟨h1, h2, z⟩⟩
theorem ne_of' {a b : S} {P : Prop} [Decidable P] (h1 : dep (tr a) ≤ 20) (h2 : dep (tr b) ≤ 20) (h : eqT (tr a) (tr b) = true ↔ P) : fNe a b R = R (.t (.bl (!decide P))) := by
  unfold fNe eqS
  rw [bool_dec h]
  exact propext ⟨fun z => z.2.2, fun z => ⟨h1, h2, z⟩⟩
theorem eq_tt (a b c d : Int) : fEq (.t (.tup [.int a, .int b])) (.t (.tup [.int c, .int d])) R = R (.t (.bl (decide (a = c ∧ b = d)))) := eq_of R (by show 1 ≤ 20; decide) (by show 1 ≤ 20; decide) (by simp [tr, eqT, eqTs])
theorem ne_tt (a b c d : Int) : fNe (.t (.tup [.int a, .int b])) (.t (.tup [.int c, .int d])) R = R (.t (.bl (!decide (a = c ∧ b = d)))) := ne_of' R (by show 1 ≤ 20; decide) (by show 1 ≤ 20; decide) (by simp [tr, eqT, eqTs])
theorem eq_hh (a b c d e f : Int) : fEq (.t (.tup [.int a, .int b, .int c])) (.t (.tup [.int d, .int e, .int f])) R = R (.t (.bl (decide (a = d ∧ b = e ∧ c = f)))) := eq_of R (by show 1 ≤ 20; decide) (by show 1 ≤ 20; decide) (by simp [tr, eqT, eqTs])
theorem ne_hh (a b c d e f : Int) : fNe (.t (.tup [.int a, .int b, .int c])) (.t (.tup [.int d, .int e, .int f])) R = R (.t (.bl (!decide (a = d ∧ b = e ∧ c = f)))) := ne_of' R (by show 1 ≤ 20; decide) (by show 1 ≤ 20; decide) (by simp [tr, eqT, eqTs])
theorem eq_lists {α : Type} [DecidableEq α] {f : α → T} {a b : S} {l m : List α} (hf : ∀ a b, eqT (f a) (f b) = true ↔ a = b) (hd : ∀ a, dep (f a) ≤ 2) (ha : tr a = .lst (l.map f)) (hb : tr b = .lst (m.map f)) : fEq a b R = R (.t (.bl (decide (l = m)))) :=
  eq_of R (by rw [ha]; have := deps_map hd l; simp only [dep]; omega) (by rw [hb]; have := deps_map hd m; simp only [dep]; omega) (by rw [ha, hb]; simp only [eqT]; exact eqTs_map hf l m)
theorem ne_lists {α : Type} [DecidableEq α] {f : α → T} {a b : S} {l m : List α} (hf : ∀ a b, eqT (f a) (f b) = true ↔ a = b) (hd : ∀ a, dep (f a) ≤ 2) (ha : tr a = .lst (l.map f)) (hb : tr b = .lst (m.map f)) : fNe a b R = R (.t (.bl (!decide (l = m)))) :=
  ne_of' R (by rw [ha]; have := deps_map hd l; simp only [dep]; omega) (by rw [hb]; have := deps_map hd m; simp only [dep]; omega) (by rw [ha, hb]; simp only [eqT]; exact eqTs_map hf l m)
end
def SzH (n : Nat) (h : Hf) : Prop := Sz n h.1 ∧ Sz n h.2.1 ∧ Sz n h.2.2
def SzF (n : Nat) (s : Fr) : Prop := Sz n s.1 ∧ Sz n s.2
def SzS (n : Nat) (s : Spo) : Prop := SzF n s.1 ∧ SzF n s.2
theorem isTy_non_non : isTy .non .non = true := rfl
theorem isTy_non_bool : isTy .non .bool = false := rfl
theorem isTy_non_int : isTy .non .int = false := rfl
theorem isTy_non_str : isTy .non .str = false := rfl
theorem isTy_non_tup : isTy .non .tup = false := rfl
theorem isTy_non_lst : isTy .non .lst = false := rfl
theorem isTy_bool_non : isTy .bool .non = false := rfl
theorem isTy_bool_bool : isTy .bool .bool = true := rfl
theorem isTy_bool_int : isTy .bool .int = true := rfl
theorem isTy_bool_str : isTy .bool .str = false := rfl
theorem isTy_bool_tup : isTy .bool .tup = false := rfl
theorem isTy_bool_lst : isTy .bool .lst = false := rfl
theorem isTy_int_non : isTy .int .non = false := rfl
theorem isTy_int_bool : isTy .int .bool = false := rfl
theorem isTy_int_int : isTy .int .int = true := rfl
theorem isTy_int_str : isTy .int .str = false := rfl
theorem isTy_int_tup : isTy .int .tup = false := rfl
theorem isTy_int_lst : isTy .int .lst = false := rfl
theorem isTy_str_non : isTy .str .non = false := rfl
theorem isTy_str_bool : isTy .str .bool = false := rfl
theorem isTy_str_int : isTy .str .int = false := rfl
theorem isTy_str_str : isTy .str .str = true := rfl
theorem isTy_str_tup : isTy .str .tup = false := rfl
theorem isTy_str_lst : isTy .str .lst = false := rfl
theorem isTy_tup_non : isTy .tup .non = false := rfl
theorem isTy_tup_bool : isTy .tup .bool = false := rfl
theorem isTy_tup_int : isTy .tup .int = false := rfl
theorem isTy_tup_str : isTy .tup .str = false := rfl
theorem isTy_tup_tup : isTy .tup .tup = true := rfl
theorem isTy_tup_lst : isTy .tup .lst = false := rfl
theorem isTy_lst_non : isTy .lst .non = false := rfl
theorem isTy_lst_bool : isTy .lst .bool = false := rfl
theorem isTy_lst_int : isTy .lst .int = false := rfl
theorem isTy_lst_str : isTy .lst .str = false := rfl
theorem isTy_lst_tup : isTy .lst .tup = false := rfl
theorem isTy_lst_lst : isTy .lst .lst = true := rfl
theorem purs_pt (l : List Pt) : purs (l.map ptT) = true := purs_map (fun _ => rfl) l
theorem eq_pt_tt (R : S → Prop) (l m : List Pt) : fEq (.t (.lst (l.map ptT))) (.t (.lst (m.map ptT))) R = R (.t (.bl (decide (l = m)))) := eq_lists R eqT_ptT dep_ptT rfl rfl
theorem ne_pt_tt (R : S → Prop) (l m : List Pt) : fNe (.t (.lst (l.map ptT))) (.t (.lst (m.map ptT))) R = R (.t (.bl (!decide (l = m)))) := ne_lists R eqT_ptT dep_ptT rfl rfl
theorem eq_pt_tv (R : S → Prop) (l m : List Pt) : fEq (.t (.lst (l.map ptT))) (.vt (.lst (m.map ptT))) R = R (.t (.bl (decide (l = m)))) := eq_lists R eqT_ptT dep_ptT rfl rfl
theorem ne_pt_tv (R : S → Prop) (l m : List Pt) : fNe (.t (.lst (l.map ptT))) (.vt (.lst (m.map ptT))) R = R (.t (.bl (!decide (l = m)))) := ne_lists R eqT_ptT dep_ptT rfl rfl
theorem eq_pt_to (R : S → Prop) (l m : List Pt) : fEq (.t (.lst (l.map ptT))) (.ol (m.map ptT)) R = R (.t (.bl (decide (l = m)))) := eq_lists R eqT_ptT dep_ptT rfl rfl
theorem ne_pt_to (R : S → Prop) (l m : List Pt) : fNe (.t (.lst (l.map ptT))) (.ol (m.map ptT)) R = R (.t (.bl (!decide (l = m)))) := ne_lists R eqT_ptT dep_ptT rfl rfl
theorem eq_pt_vt (R : S → Prop) (l m : List Pt) : fEq (.vt (.lst (l.map ptT))) (.t (.lst (m.map ptT))) R = R (.t (.bl (decide (l = m)))) := eq_lists R eqT_ptT dep_ptT rfl rfl
theorem ne_pt_vt (R : S → Prop) (l m : List Pt) : fNe (.vt (.lst (l.map ptT))) (.t (.lst (m.map ptT))) R = R (.t (.bl (!decide (l = m)))) := ne_lists R eqT_ptT dep_ptT rfl rfl
theorem eq_pt_vv (R : S → Prop) (l m : List Pt) : fEq (.vt (.lst (l.map ptT))) (.vt (.lst (m.map ptT))) R = R (.t (.bl (decide (l = m)))) := eq_lists R eqT_ptT dep_ptT rfl rfl
theorem ne_pt_vv (R : S → Prop) (l m : List Pt) : fNe (.vt (.lst (l.map ptT))) (.vt (.lst (m.map ptT))) R = R (.t (.bl (!decide (l = m)))) := ne_lists R eqT_ptT dep_ptT rfl rfl
theorem eq_pt_vo (R : S → Prop) (l m : List Pt) : fEq (.vt (.lst (l.map ptT))) (.ol (m.map ptT)) R = R (.t (.bl (decide (l = m)))) := eq_lists R eqT_ptT dep_ptT rfl rfl
theorem ne_pt_vo (R : S → Prop) (l m : List Pt) : fNe (.vt (.lst (l.map ptT))) (.ol (m.map ptT)) R = R (.t (.bl (!decide (l = m)))) := ne_lists R eqT_ptT dep_ptT rfl rfl
theorem eq_pt_ot (R : S → Prop) (l m : List Pt) : fEq (.ol (l.map ptT)) (.t (.lst (m.map ptT))) R = R (.t (.bl (decide (l = m)))) := eq_lists R eqT_ptT dep_ptT rfl rfl
theorem ne_pt_ot (R : S → Prop) (l m : List Pt) : fNe (.ol (l.map ptT)) (.t (.lst (m.map ptT))) R = R (.t (.bl (!decide (l = m)))) := ne_lists R eqT_ptT dep_ptT rfl rfl
theorem eq_pt_ov (R : S → Prop) (l m : List Pt) : fEq (.ol (l.map ptT)) (.vt (.lst (m.map ptT))) R = R (.t (.bl (decide (l = m)))) := eq_lists R eqT_ptT dep_ptT rfl rfl
theorem ne_pt_ov (R : S → Prop) (l m : List Pt) : fNe (.ol (l.map ptT)) (.vt (.lst (m.map ptT))) R = R (.t (.bl (!decide (l = m)))) := ne_lists R eqT_ptT dep_ptT rfl rfl
theorem eq_pt_oo (R : S → Prop) (l m : List Pt) : fEq (.ol (l.map ptT)) (.ol (m.map ptT)) R = R (.t (.bl (decide (l = m)))) := eq_lists R eqT_ptT dep_ptT rfl rfl
theorem ne_pt_oo (R : S → Prop) (l m : List Pt) : fNe (.ol (l.map ptT)) (.ol (m.map ptT)) R = R (.t (.bl (!decide (l = m)))) := ne_lists R eqT_ptT dep_ptT rfl rfl
theorem eq_pt_t0 (R : S → Prop) (l : List Pt) : fEq (.t (.lst (l.map ptT))) (.ol []) R = R (.t (.bl (decide (l = [])))) := eq_lists (m := []) R eqT_ptT dep_ptT rfl rfl
theorem ne_pt_t0 (R : S → Prop) (l : List Pt) : fNe (.t (.lst (l.map ptT))) (.ol []) R = R (.t (.bl (!decide (l = [])))) := ne_lists (m := []) R eqT_ptT dep_ptT rfl rfl
theorem eq_pt_v0 (R : S → Prop) (l : List Pt) : fEq (.vt (.lst (l.map ptT))) (.ol []) R = R (.t (.bl (decide (l = [])))) := eq_lists (m := []) R eqT_ptT dep_ptT rfl rfl
theorem ne_pt_v0 (R : S → Prop) (l : List Pt) : fNe (.vt (.lst (l.map ptT))) (.ol []) R = R (.t (.bl (!decide (l = [])))) := ne_lists (m := []) R eqT_ptT dep_ptT rfl rfl
theorem eq_pt_o0 (R : S → Prop) (l : List Pt) : fEq (.ol (l.map ptT)) (.ol []) R = R (.t (.bl (decide (l = [])))) := eq_lists (m := []) R eqT_ptT dep_ptT rfl rfl
theorem ne_pt_o0 (R : S → Prop) (l : List Pt) : fNe (.ol (l.map ptT)) (.ol []) R = R (.t (.bl (!decide (l = [])))) := ne_lists (m := []) R eqT_ptT dep_ptT rfl rfl
theorem purs_hf (l : List Hf) : purs (l.map hfT) = true := purs_map (fun _ => rfl) l
theorem eq_hf_tt (R : S → Prop) (l m : List Hf) : fEq (.t (.lst (l.map hfT))) (.t (.lst (m.map hfT))) R = R (.t (.bl (decide (l = m)))) := eq_lists R eqT_hfT dep_hfT rfl rfl
theorem ne_hf_tt (R : S → Prop) (l m : List Hf) : fNe (.t (.lst (l.map hfT))) (.t (.lst (m.map hfT))) R = R (.t (.bl (!decide (l = m)))) := ne_lists R eqT_hfT dep_hfT rfl rfl
theorem eq_hf_tv (R : S → Prop) (l m : List Hf) : fEq (.t (.lst (l.map hfT))) (.vt (.lst (m.map hfT))) R = R (.t (.bl (decide (l = m)))) := eq_lists R eqT_hfT dep_hfT rfl rfl
theorem ne_hf_tv (R : S → Prop) (l m : List Hf) : fNe (.t (.lst (l.map hfT))) (.vt (.lst (m.map hfT))) R = R (.t (.bl (!decide (l = m)))) := ne_lists R eqT_hfT dep_hfT rfl rfl
theorem eq_hf_to (R : S → Prop) (l m : List Hf) : fEq (.t (.lst (l.map hfT))) (.ol (m.map hfT)) R = R (.t (.bl (decide (l = m)))) := eq_lists R eqT_hfT dep_hfT rfl rfl
theorem ne_hf_to (R : S → Prop) (l m : List Hf) : fNe (.t (.lst (l.map hfT))) (.ol (m.map hfT)) R = R (.t (.bl (!decide (l = m)))) := ne_lists R eqT_hfT dep_hfT rfl rfl
theorem eq_hf_vt (R : S → Prop) (l m : List Hf) : fEq (.vt (.lst (l.map hfT))) (.t (.lst (m.map hfT))) R = R (.t (.bl (decide (l = m)))) := eq_lists R eqT_hfT dep_hfT rfl rfl
theorem ne_hf_vt (R : S → Prop) (l m : List Hf) : fNe (.vt (.lst (l.map hfT))) (.t (.lst (m.map hfT))) R = R (.t (.bl (!decide (l = m)))) := ne_lists R eqT_hfT dep_hfT rfl rfl
theorem eq_hf_vv (R : S → Prop) (l m : List Hf) : fEq (.vt (.lst (l.map hfT))) (.vt (.lst (m.map hfT))) R = R (.t (.bl (decide (l = m)))) := eq_lists R eqT_hfT dep_hfT rfl rfl
theorem ne_hf_vv (R : S → Prop) (l m : List Hf) : fNe (.vt (.lst (l.map hfT))) (.vt (.lst (m.map hfT))) R = R (.t (.bl (!decide (l = m)))) := ne_lists R eqT_hfT dep_hfT rfl rfl
theorem eq_hf_vo (R : S → Prop) (l m : List Hf) : fEq (.vt (.lst (l.map hfT))) (.ol (m.map hfT)) R = R (.t (.bl (decide (l = m)))) := eq_lists R eqT_hfT dep_hfT rfl rfl
theorem ne_hf_vo (R : S → Prop) (l m : List Hf) : fNe (.vt (.lst (l.map hfT))) (.ol (m.map hfT)) R = R (.t (.bl (!decide (l = m)))) := ne_lists R eqT_hfT dep_hfT rfl rfl
theorem eq_hf_ot (R : S → Prop) (l m : List Hf) : fEq (.ol (l.map hfT)) (.t (.lst (m.map hfT))) R = R (.t (.bl (decide (l = m)))) := eq_lists R eqT_hfT dep_hfT rfl rfl
theorem ne_hf_ot (R : S → Prop) (l m : List Hf) : fNe (.ol (l.map hfT)) (.t (.lst (m.map hfT))) R = R (.t (.bl (!decide (l = m)))) := ne_lists R eqT_hfT dep_hfT rfl rfl
theorem eq_hf_ov (R : S → Prop) (l m : List Hf) : fEq (.ol (l.map hfT)) (.vt (.lst (m.map hfT))) R = R (.t (.bl (decide (l = m)))) := eq_lists R eqT_hfT dep_hfT rfl rfl
theorem ne_hf_ov (R : S → Prop) (l m : List Hf) : fNe (.ol (l.map hfT)) (.vt (.lst (m.map hfT))) R = R (.t (.bl (!decide (l = m)))) := ne_lists R eqT_hfT dep_hfT rfl rfl
theorem eq_hf_oo (R : S → Prop) (l m : List Hf) : fEq (.ol (l.map hfT)) (.ol (m.map hfT)) R = R (.t (.bl (decide (l = m)))) := eq_lists R eqT_hfT dep_hfT rfl rfl
theorem ne_hf_oo (R : S → Prop) (l m : List Hf) : fNe (.ol (l.map hfT)) (.ol (m.map hfT)) R = R (.t (.bl (!decide (l = m)))) := ne_lists R eqT_hfT dep_hfT rfl rfl
theorem eq_hf_t0 (R : S → Prop) (l : List Hf) : fEq (.t (.lst (l.map hfT))) (.ol []) R = R (.t (.bl (decide (l = [])))) := eq_lists (m := []) R eqT_hfT dep_hfT rfl rfl
theorem ne_hf_t0 (R : S → Prop) (l : List Hf) : fNe (.t (.lst (l.map hfT))) (.ol []) R = R (.t (.bl (!decide (l = [])))) := ne_lists (m := []) R eqT_hfT dep_hfT rfl rfl
theorem eq_hf_v0 (R : S → Prop) (l : List Hf) : fEq (.vt (.lst (l.map hfT))) (.ol []) R = R (.t (.bl (decide (l = [])))) := eq_lists (m := []) R eqT_hfT dep_hfT rfl rfl
theorem ne_hf_v0 (R : S → Prop) (l : List Hf) : fNe (.vt (.lst (l.map hfT))) (.ol []) R = R (.t (.bl (!decide (l = [])))) := ne_lists (m := []) R eqT_hfT dep_hfT rfl rfl
theorem eq_hf_o0 (R : S → Prop) (l : List Hf) : fEq (.ol (l.map hfT)) (.ol []) R = R (.t (.bl (decide (l = [])))) := eq_lists (m := []) R eqT_hfT dep_hfT rfl rfl
theorem ne_hf_o0 (R : S → Prop) (l : List Hf) : fNe (.ol (l.map hfT)) (.ol []) R = R (.t (.bl (!decide (l = [])))) := ne_lists (m := []) R eqT_hfT dep_hfT rfl rfl
theorem purs_sp (l : List Spo) : purs (l.map spT) = true := purs_map (fun _ => rfl) l
theorem eq_sp_tt (R : S → Prop) (l m : List Spo) : fEq (.t (.lst (l.map spT))) (.t (.lst (m.map spT))) R = R (.t (.bl (decide (l = m)))) := eq_lists R eqT_spT dep_spT rfl rfl
theorem ne_sp_tt (R : S → Prop) (l m : List Spo) : fNe (.t (.lst (l.map spT))) (.t (.lst (m.map spT))) R = R (.t (.bl (!decide (l = m)))) := ne_lists R eqT_spT dep_spT rfl rfl
theorem eq_sp_tv (R : S → Prop) (l m : List Spo) : fEq (.t (.lst (l.map spT))) (.vt (.lst (m.map spT))) R = R (.t (.bl (decide (l = m)))) := eq_lists R eqT_spT dep_spT rfl rfl
theorem ne_sp_tv (R : S → Prop) (l m : List Spo) : fNe (.t (.lst (l.map spT))) (.vt (.lst (m.map spT))) R = R (.t (.bl (!decide (l = m)))) := ne_lists R eqT_spT dep_spT rfl rfl
theorem eq_sp_to (R : S → Prop) (l m : List Spo) : fEq (.t (.lst (l.map spT))) (.ol (m.map spT)) R = R (.t (.bl (decide (l = m)))) := eq_lists R eqT_spT dep_spT rfl rfl
theorem ne_sp_to (R : S → Prop) (l m : List Spo) : fNe (.t (.lst (l.map spT))) (.ol (m.map spT)) R = R (.t (.bl (!decide (l = m)))) := ne_lists R eqT_spT dep_spT rfl rfl
theorem eq_sp_vt (R : S → Prop) (l m : List Spo) : fEq (.vt (.lst (l.map spT))) (.t (.lst (m.map spT))) R = R (.t (.bl (decide (l = m)))) := eq_lists R eqT_spT dep_spT rfl rfl
theorem ne_sp_vt (R : S → Prop) (l m : List Spo) : fNe (.vt (.lst (l.map spT))) (.t (.lst (m.map spT))) R = R (.t (.bl (!decide (l = m)))) := ne_lists R eqT_spT dep_spT rfl rfl
theorem eq_sp_vv (R : S → Prop) (l m : List Spo) : fEq (.vt (.lst (l.map spT))) (.vt (.lst (m.map spT))) R = R (.t (.bl (decide (l = m)))) := eq_lists R eqT_spT dep_spT rfl rfl
theorem ne_sp_vv (R : S → Prop) (l m : List Spo) : fNe (.vt (.lst (l.map spT))) (.vt (.lst (m.map spT))) R = R (.t (.bl (!decide (l = m)))) := ne_lists R eqT_spT dep_spT rfl rfl
theorem eq_sp_vo (R : S → Prop) (l m : List Spo) : fEq (.vt (.lst (l.map spT))) (.ol (m.map spT)) R = R (.t (.bl (decide (l = m)))) := eq_lists R eqT_spT dep_spT rfl rfl
theorem ne_sp_vo (R : S → Prop) (l m : List Spo) : fNe (.vt (.lst (l.map spT))) (.ol (m.map spT)) R = R (.t (.bl (!decide (l = m)))) := ne_lists R eqT_spT dep_spT rfl rfl
theorem eq_sp_ot (R : S → Prop) (l m : List Spo) : fEq (.ol (l.map spT)) (.t (.lst (m.map spT))) R = R (.t (.bl (decide (l = m)))) := eq_lists R eqT_spT dep_spT rfl rfl
theorem ne_sp_ot (R : S → Prop) (l m : List Spo) : fNe (.ol (l.map spT)) (.t (.lst (m.map spT))) R = R (.t (.bl (!decide (l = m)))) := ne_lists R eqT_spT dep_spT rfl rfl
theorem eq_sp_ov (R : S → Prop) (l m : List Spo) : fEq (.ol (l.map spT)) (.vt (.lst (m.map spT))) R = R (.t (.bl (decide (l = m)))) := eq_lists R eqT_spT dep_spT rfl rfl
theorem ne_sp_ov (R : S → Prop) (l m : List Spo) : fNe (.ol (l.map spT)) (.vt (.lst (m.map spT))) R = R (.t (.bl (!decide (l = m)))) := ne_lists R eqT_spT dep_spT rfl rfl
theorem eq_sp_oo (R : S → Prop) (l m : List Spo) : fEq (.ol (l.map spT)) (.ol (m.map spT)) R = R (.t (.bl (decide (l = m)))) := eq_lists R eqT_spT dep_spT rfl rfl
theorem ne_sp_oo (R : S → Prop) (l m : List Spo) : fNe (.ol (l.map spT)) (.ol (m.map spT)) R = R (.t (.bl (!decide (l = m)))) := ne_lists R eqT_spT dep_spT rfl rfl
theorem eq_sp_t0 (R : S → Prop) (l : List Spo) : fEq (.t (.lst (l.map spT))) (.ol []) R = R (.t (.bl (decide (l = [])))) := eq_lists (m := []) R eqT_spT dep_spT rfl rfl
theorem ne_sp_t0 (R : S → Prop) (l : List Spo) : fNe (.t (.lst (l.map spT))) (.ol []) R = R (.t (.bl (!decide (l = [])))) := ne_lists (m := []) R eqT_spT dep_spT rfl rfl
theorem eq_sp_v0 (R : S → Prop) (l : List Spo) : fEq (.vt (.lst (l.map spT))) (.ol []) R = R (.t (.bl (decide (l = [])))) := eq_lists (m := []) R eqT_spT dep_spT rfl rfl
theorem ne_sp_v0 (R : S → Prop) (l : List Spo) : fNe (.vt (.lst (l.map spT))) (.ol []) R = R (.t (.bl (!decide (l = [])))) := ne_lists (m := []) R eqT_spT dep_spT rfl rfl
theorem eq_sp_o0 (R : S → Prop) (l : List Spo) : fEq (.ol (l.map spT)) (.ol []) R = R (.t (.bl (decide (l = [])))) := eq_lists (m := []) R eqT_spT dep_spT rfl rfl
theorem ne_sp_o0 (R : S → Prop) (l : List Spo) : fNe (.ol (l.map spT)) (.ol []) R = R (.t (.bl (!decide (l = [])))) := ne_lists (m := []) R eqT_spT dep_spT rfl rfl
theorem purs_in (l : List Int) : purs (l.map T.int) = true := purs_map (fun _ => rfl) l
theorem eq_in_tt (R : S → Prop) (l m : List Int) : fEq (.t (.lst (l.map T.int))) (.t (.lst (m.map T.int))) R = R (.t (.bl (decide (l = m)))) := eq_lists R eqT_int (fun _ => by show 0 ≤ 2; decide) rfl rfl
theorem ne_in_tt (R : S → Prop) (l m : List Int) : fNe (.t (.lst (l.map T.int))) (.t (.lst (m.map T.int))) R = R (.t (.bl (!decide (l = m)))) := ne_lists R eqT_int (fun _ => by show 0 ≤ 2; decide) rfl rfl
theorem eq_in_tv (R : S → Prop) (l m : List Int) : fEq (.t (.lst (l.map T.int))) (.vt (.lst (m.map T.int))) R = R (.t (.bl (decide (l = m)))) := eq_lists R eqT_int (fun _ => by show 0 ≤ 2; decide) rfl rfl
theorem ne_in_tv (R : S → Prop) (l m : List Int) : fNe (.t (.lst (l.map T.int))) (.vt (.lst (m.map T.int))) R = R (.t (.bl (!decide (l = m)))) := ne_lists R eqT_int (fun _ => by show 0 ≤ 2; decide) rfl rfl
theorem eq_in_to (R : S → Prop) (l m : List Int) : fEq (.t (.lst (l.map T.int))) (.ol (m.map T.int)) R = R (.t (.bl (decide (l = m)))) := eq_lists R eqT_int (fun _ => by show 0 ≤ 2; decide) rfl rfl
theorem ne_in_to (R : S → Prop) (l m : List Int) : fNe (.t (.lst (l.map T.int))) (.ol (m.map T.int)) R = R (.t (.bl (!decide (l = m)))) := ne_lists R eqT_int (fun _ => by show 0 ≤ 2; decide) rfl rfl
theorem eq_in_vt (R : S → Prop) (l m : List Int) : fEq (.vt (.lst (l.map T.int))) (.t (.lst (m.map T.int))) R = R (.t (.bl (decide (l = m)))) := eq_lists R eqT_int (fun _ => by show 0 ≤ 2; decide) rfl rfl
theorem ne_in_vt (R : S → Prop) (l m : List Int) : fNe (.vt (.lst (l.map T.int))) (.t (.lst (m.map T.int))) R = R (.t (.bl (!decide (l = m)))) := ne_lists R eqT_int (fun _ => by show 0 ≤ 2; decide) rfl rfl
theorem eq_in_vv (R : S → Prop) (l m : List Int) : fEq (.vt (.lst (l.map T.int))) (.vt (.lst (m.map T.int))) R = R (.t (.bl (decide (l = m)))) := eq_lists R eqT_int (fun _ => by show 0 ≤ 2; decide) rfl rfl
theorem ne_in_vv (R : S → Prop) (l m : List Int) : fNe (.vt (.lst (l.map T.int))) (.vt (.lst (m.map T.int))) R = R (.t (.bl (!decide (l = m)))) := ne_lists R eqT_int (fun _ => by show 0 ≤ 2; decide) rfl rfl
theorem eq_in_vo (R : S → Prop) (l m : List Int) : fEq (.vt (.lst (l.map T.int))) (.ol (m.map T.int)) R = R (.t (.bl (decide (l = m)))) := eq_lists R eqT_int (fun _ => by show 0 ≤ 2; decide) rfl rfl
theorem ne_in_vo (R : S → Prop) (l m : List Int) : fNe (.vt (.lst (l.map T.int))) (.ol (m.map T.int)) R = R (.t (.bl (!decide (l = m)))) := ne_lists R eqT_int (fun _ => by show 0 ≤ 2; decide) rfl rfl
theorem eq_in_ot (R : S → Prop) (l m : List Int) : fEq (.ol (l.map T.int)) (.t (.lst (m.map T.int))) R = R (.t (.bl (decide (l = m)))) := eq_lists R eqT_int (fun _ => by show 0 ≤ 2; decide) rfl rfl
theorem ne_in_ot (R : S → Prop) (l m : List Int) : fNe (.ol (l.map T.int)) (.t (.lst (m.map T.int))) R = R (.t (.bl (!decide (l = m)))) := ne_lists R eqT_int (fun _ => by show 0 ≤ 2; decide) rfl rfl
theorem eq_in_ov (R : S → Prop) (l m : List Int) : fEq (.ol (l.map T.int)) (.vt (.lst (m.map T.int))) R = R (.t (.bl (decide (l = m)))) := eq_lists R eqT_int (fun _ => by show 0 ≤ 2; decide) rfl rfl
theorem ne_in_ov (R : S → Prop) (l m : List Int) : fNe (.ol (l.map T.int)) (.vt (.lst (m.map T.int))) R = R (.t (.bl (!decide (l = m)))) := ne_lists R eqT_int (fun _ => by show 0 ≤ 2; decide) rfl rfl
theorem eq_in_oo (R : S → Prop) (l m : List Int) : fEq (.ol (l.map T.int)) (.ol (m.map T.int)) R = R (.t (.bl (decide (l = m)))) := eq_lists R eqT_int (fun _ => by show 0 ≤ 2; decide) rfl rfl
theorem ne_in_oo (R : S → Prop) (l m : List Int) : fNe (.ol (l.map T.int)) (.ol (m.map T.int)) R = R (.t (.bl (!decide (l = m)))) := ne_lists R eqT_int (fun _ => by show 0 ≤ 2; decide) rfl rfl
theorem eq_in_t0 (R : S → Prop) (l : List Int) : fEq (.t (.lst (l.map T.int))) (.ol []) R = R (.t (.bl (decide (l = [])))) := eq_lists (m := []) R eqT_int (fun _ => by show 0 ≤ 2; decide) rfl rfl
theorem ne_in_t0 (R : S → Prop) (l : List Int) : fNe (.t (.lst (l.map T.int))) (.ol []) R = R (.t (.bl (!decide (l = [])))) := ne_lists (m := []) R eqT_int (fun _ => by show 0 ≤ 2; decide) rfl rfl
theorem eq_in_v0 (R : S → Prop) (l : List Int) : fEq (.vt (.lst (l.map T.int))) (.ol []) R = R (.t (.bl (decide (l = [])))) := eq_lists (m := []) R eqT_int (fun _ => by show 0 ≤ 2; decide) rfl rfl
theorem ne_in_v0 (R : S → Prop) (l : List Int) : fNe (.vt (.lst (l.map T.int))) (.ol []) R = R (.t (.bl (!decide (l = [])))) := ne_lists (m := []) R eqT_int (fun _ => by show 0 ≤ 2; decide) rfl rfl
theorem eq_in_o0 (R : S → Prop) (l : List Int) : fEq (.ol (l.map T.int)) (.ol []) R = R (.t (.bl (decide (l = [])))) := eq_lists (m := []) R eqT_int (fun _ => by show 0 ≤ 2; decide) rfl rfl
theorem ne_in_o0 (R : S → Prop) (l : List Int) : fNe (.ol (l.map T.int)) (.ol []) R = R (.t (.bl (!decide (l = [])))) := ne_lists (m := []) R eqT_int (fun _ => by show 0 ≤ 2; decide) rfl rfl
end DL

set_option Elab.async false
set_option linter.all false
set_option maxRecDepth 100000
/-! more of Python's own: xs.count(x) -/
namespace DL
open PySem L2
def cntK (ts : List T) (R : S → Prop) (b : S) : Prop := sh b ∧ deps ts ≤ 20 ∧ R (.t (.int (ts.countP fun t => eqT t (tr b))))
def cntO (δ : DSt) (we : WE) (R : S → Prop) : T → Prop
  | .lst ts => we δ (cntK ts R)
  | _ => False
def wCount (wo we : WE) : WE := fun δ R => wo δ fun a => cntO δ we R (tr a)
section
variable {X : Cx}
variable {o e : Expr} {wo we : WE} {apos cpos : Pos}
section
variable (δ : DSt) (R : S → Prop) (we wo : WE)
theorem a_count : wCount wo we δ R = wo δ fun a => cntO δ we R (tr a) := rfl
theorem a_cntO (ts : List T) : cntO δ we R (.lst ts) = we δ (cntK ts R) := rfl
end
end
/-! ### lists that a comprehension makes -/
theorem comp_filter {α : Type} {f h : α → T} {p : α → Bool} {g : WG} {tc : WT} {te : WE} {l : List α} {δ0 : DSt} {R : List T → Prop} (P : DSt → Prop) (hp : ∀ a ∈ l, pur (h a) = true) (hl : l.length < 100000) (h0 : P δ0)
    (step : ∀ a ∈ l, ∀ δ, P δ → ∀ (Y : DSt → S → Prop) (N : DSt → Prop), (∀ δ1, P δ1 → p a = true → Y δ1 (.t (h a))) → (∀ δ1, P δ1 → p a = false → N δ1) → g (f a) δ fun δ1 => tc δ1 fun ok => if ok = true then te δ1 (fun s => Y δ1 s) else N δ1)
    (fin : R ((l.filter p).map h)) : compI g tc te (l.map f) δ0 R := by
  refine ⟨fun ts δ acc => ∃ pre post, l = pre ++ post ∧ ts = post.map f ∧ P δ ∧ acc = (pre.filter p).map h, ⟨[], l, rfl, rfl, h0, rfl⟩, ?_, ?_⟩
  · rintro δ acc ⟨pre, post, e, e2, _, rfl⟩
    have : post = [] := by simpa using e2.symm
    subst this
    rw [List.append_nil] at e
    subst e
    exact fin
  · rintro x r δ acc ⟨pre, post, e, e2, hP, rfl⟩
    cases post with
    | nil => cases e2
    | cons a post =>
      rw [List.map_cons] at e2
      cases e2
      have ha : a ∈ l := by rw [e]; simp
      have hlen : ((pre.filter p).map h).length < 100000 := by
        rw [List.length_map]
        have h1 := List.length_filter_le p pre
        have h2 : l.length = pre.length + (post.length + 1) := by rw [e]; simp
        omega
      refine step a ha δ hP _ _ (fun δ1 h1 pa => ⟨hp a ha, hlen, pre ++ [a], post, by rw [e]; simp, rfl, h1, ?_⟩) (fun δ1 h1 pa => ⟨pre ++ [a], post, by rw [e]; simp, rfl, h1, ?_⟩)
      · rw [List.filter_append, List.map_append]; simp [List.filter, pa]
      · rw [List.filter_append, List.map_append]; simp [List.filter, pa]
theorem comp_map {α : Type} {f h : α → T} {g : WG} {te : WE} {l : List α} {δ0 : DSt} {R : List T → Prop} (P : DSt → Prop) (hp : ∀ a ∈ l, pur (h a) = true) (hl : l.length < 100000) (h0 : P δ0)
    (step : ∀ a ∈ l, ∀ δ, P δ → ∀ (Y : DSt → S → Prop), (∀ δ1, P δ1 → Y δ1 (.t (h a))) → g (f a) δ fun δ1 => te δ1 (fun s => Y δ1 s))
    (fin : R (l.map h)) : compI g wYes te (l.map f) δ0 R := by
  refine comp_filter (p := fun _ => true) P hp hl h0 (fun a ha δ hP Y N h1 h2 => ?_) (by rw [List.filter_eq_self.mpr (fun _ _ => rfl)]; exact fin)
  show g (f a) δ fun δ1 => if true = true then te δ1 (fun s => Y δ1 s) else N δ1
  simp only [if_true]
  exact step a ha δ hP Y fun δ1 q => h1 δ1 q rfl
theorem len_rngT (lo : Int) (n : Nat) : (rngT lo n).length = n := by unfold rngT; simp
end DL

set_option Elab.async false
set_option linter.all false
set_option maxRecDepth 100000
/-! a, b, c = a list -/
namespace PyProof.Rows
open PySem
section
variable {prog : Program} {w : World} {A : Around} {E : Value → Shared → Prop} {s : Shared}
end
end PyProof.Rows
namespace L2
open PySem PyProof.Rows
section
variable {X : Cx} {pos : Pos}
end
end L2
namespace DL
open PySem L2
def wgLst (g : List T → DSt → (DSt → Prop) → Prop) : WG := fun t δ R => match t with
  | .lst ts => g ts δ R
  | _ => False
theorem a_gLst (g : List T → DSt → (DSt → Prop) → Prop) (δ : DSt) (R : DSt → Prop) (ts : List T) : wgLst g (.lst ts) δ R = g ts δ R := rfl
theorem unpK_o (g : WG) (δ : DSt) (N : DSt → Prop) (ts : List T) : unpK g δ N (.ol ts) = g (.lst ts) δ N := rfl
end DL
/-! ERRORS by data: a def that raises (surely, at the arguments at hand), try/except as, isinstance of what was caught -/
namespace DL
open PySem L2 PySem.W
abbrev WX := (Str → DSt → Prop) → WS
def ErrAt (K : Frag) (x : Str) (C : Addr) : Prop := nsIn K mainGlobals x = some (some (.ref C))
def XOk (K : Frag) (F : Hp) (EX : Str → DSt → Prop) (Ex : Addr → St → Hp → Prop) : Prop := ∀ x C δ' F' σ' H', Same F F' → Rel K F' H' σ' δ' → ErrAt K x C → EX x δ' → Ex C σ' H'
theorem XOk.mono {K : Frag} {F F1 : Hp} {EX : Str → DSt → Prop} {Ex : Addr → St → Hp → Prop} (h : XOk K F EX Ex) (s : Same F F1) : XOk K F1 EX Ex := fun x C δ' F' σ' H' q => h x C δ' F' σ' H' (s.trans q)
def liftSX (K : Frag) (H₀ : Hp) (w : WX) (Ex : Addr → St → Hp → Prop) : TS := fun D σ H => ∃ δ D' F EX, Same H₀ F ∧ Rel K F H σ δ ∧ w EX D' δ ∧ EndsOk K H₀ F D' D ∧ XOk K F EX Ex
/-- a def's word: at these arguments it raises an error of this class -/
abbrev XSpec := List S → Str → Prop
def toSpX (K : Frag) (spx : XSpec) : Sp := fun vs H _ E => ∃ ss x, (∀ s ∈ ss, argOk s) ∧ RepVs K H H ss vs ∧ spx ss x ∧ ∀ C H', Same H H' → ErrAt K x C → E (.ref C) none H'
structure CalleeX (P : Program) (w : World) (K : Frag) (mg : Str → Option Value) (base : Heap) (k : Nat) (x : Str) (spx : XSpec) : Prop where
  ex : ∃ (f : Addr) (fd : FuncData) (ps : List Str), mg x = some (.ref f) ∧ FnOk P w K mg base (CX1 P w) k f fd ps (toSpX K spx) ∧ Binds K fd ps [] ∧ keepIn K (.ref f) = true
/-- a class of the program's own errors -/
structure XCls (K : Frag) (mg : Str → Option Value) (x : Str) : Prop where
  ex : ∃ C, ErrAt K x C ∧ OwnX K mg x C
structure XSub (K : Frag) (mg : Str → Option Value) (x y : Str) : Prop where
  ex : ∃ C S, ErrAt K x C ∧ mg y = some (.ref S) ∧ mroIn K C (.ref S) = some true
structure XIsa (K : Frag) (mg : Str → Option Value) (x y : Str) (b : Bool) : Prop where
  ex : ∃ C S, ErrAt K x C ∧ mg y = some (.ref S) ∧ ExcCls K C ∧ kitOne K (.ref C) (.ref S) = some b
structure XVal (K : Frag) (x : Str) : Prop where
  ex : ∃ C, ErrAt K x C ∧ ExcCls K C ∧ kitOne K (.ref C) (.type "ValueError") = some true
def wxN (w : WS) : WX := fun _ => w
def wxIf (t : WT) (a b : WX) : WX := fun EX D δ => t δ fun k => if k = true then a EX D δ else b EX D δ
def wxSeq (a b : WX) : WX := fun EX D δ => a EX { D with nx := fun δ' => b EX D δ' } δ
def wxRaise (x : Str) (wa : WA) : WX := fun EX _ δ => wa δ fun ss => if ss.length ≤ 1000 then EX x δ else False
def wxCall (spx : XSpec) (wa : WA) : WX := fun EX _ δ => wa δ fun ss => ∃ x, spx (ss.map asArg) x ∧ EX x δ
def wTry (i : Nat) (xs : List Str) (wb : WX) (ws : WS) : WS := fun D δ => wb (fun x δ1 => x ∈ xs ∧ ws { D with nx := fun δ2 => D.nx (δ2.set i none), rt := fun _ => False, bk := fun _ => False, ct := fun _ => False } (δ1.set i (some (.t (.exc x))))) D δ
theorem RepEs.len {K : Frag} {H F' H' : Hp} : ∀ {ss : List S} {vs : List V}, RepEs K H F' H' ss vs → vs.length = ss.length
  | [], _, h => by cases (show _ = [] from h); rfl
  | _ :: _, _, ⟨v, r, h1, _, h3⟩ => by subst h1; rw [List.length_cons, List.length_cons, RepEs.len h3]
section
variable {X : Cx} {H₀ : Hp} {Ex : Addr → St → Hp → Prop} {st : Stmt} {rest : List Stmt} {w a b : WX} {pos : Pos}
theorem dx_norm {u : WS} (h : PS X st (liftS X.K H₀ u)) : PS X st (liftSX X.K H₀ (wxN u) Ex) := h.imp fun D σ H ⟨δ, D', F, _, s0, rl, h, ok, _⟩ => ⟨δ, D', F, s0, rl, h, ok⟩
theorem dxs_norm {u : WS} {sts : List Stmt} (h : PSs X sts (liftS X.K H₀ u)) : PSs X sts (liftSX X.K H₀ (wxN u) Ex) := h.imp fun D σ H ⟨δ, D', F, _, s0, rl, h, ok, _⟩ => ⟨δ, D', F, s0, rl, h, ok⟩
theorem dxs_one (h1 : PS X st (liftSX X.K H₀ w Ex)) : PSs X [st] (liftSX X.K H₀ w Ex) := pss_one h1
theorem dxs_cons (h1 : PS X st (liftSX X.K H₀ a Ex)) (h2 : PSs X rest (liftSX X.K H₀ b Ex)) : PSs X (st :: rest) (liftSX X.K H₀ (wxSeq a b) Ex) :=
  (pss_cons h1 h2).imp fun D σ H ⟨δ, D', F, EX, s0, rl, h, ok, xo⟩ => ⟨δ, _, F, EX, s0, rl, h, ⟨fun σ' F' H' δ' ff rl' h' => ⟨δ', D', F', EX, s0.trans ff, rl', h', ok.mono ff, xo.mono ff⟩, ok.rt, ok.bk, ok.ct⟩, xo⟩
theorem dx_if {c : Expr} {as bs : List Stmt} {t : WT} (hc : PT X c (liftT X.K t)) (ha : PSs X as (liftSX X.K H₀ a Ex)) (hb : PSs X bs (liftSX X.K H₀ b Ex)) : PS X (.If c as bs pos) (liftSX X.K H₀ (wxIf t a b) Ex) :=
  (ps_if hc ha hb).imp fun D σ H ⟨δ, D', F, EX, s0, rl, h, ok, xo⟩ => ⟨δ, _, F, rl, h, fun F1 H1 k e q => by
    cases k with
    | true => exact ⟨δ, D', F1, EX, s0.trans e.ff, rl.ext e, by simpa using q, ok.mono e.ff, xo.mono e.ff⟩
    | false => exact ⟨δ, D', F1, EX, s0.trans e.ff, rl.ext e, by simpa using q, ok.mono e.ff, xo.mono e.ff⟩⟩
theorem dx_raise {x : Str} {np cpos : Pos} {e₀ : Expr} {es : List Expr} {wa : WA} (O : XCls X.K X.mg x) (hR : Raises X Ex) (ha : PA X (e₀ :: es) (liftA X.K wa)) (hc : X.calm = true := by rfl) (hg : Gl X x := by rfl)
    (he : starEach (e₀ :: es) X.env = (false, eval e₀ X.env) :: starEach es X.env := by rfl) (hplain : (backTo cpos (starEach es X.env)).any (·.1) = false := by rfl) (hdb : (x == ("__debug__" : Str)) = false := by decide) :
    PS X (.Raise (some (.Call (.Name x np) (e₀ :: es) [] cpos)) none pos) (liftSX X.K H₀ (wxRaise x wa) Ex) := by
  obtain ⟨C, hC, O⟩ := O.ex
  refine (ps_raise O hR hc hg ha he hplain hdb).imp ?_
  rintro D σ H ⟨δ, D', F, EX, s0, rl, h, ok, xo⟩
  refine ⟨δ, _, F, rl, h, fun vs F1 H1 ss e p q => ?_⟩
  split at q
  · rename_i hl
    exact ⟨by rw [p.len]; exact le_line hl, xo x C δ F1 σ H1 e.ff (rl.ext e) hC q⟩
  · exact q.elim
/-- the call of a def that raises here -/
theorem lift_callX {K : Frag} {spx : XSpec} {wa : WA} {δ : DSt} {F : Hp} {EX : Str → DSt → Prop} {σ : St} {H : Hp} {Q : VK} (rl : Rel K F H σ δ) (h : wa δ fun ss => ∃ x, spx (ss.map asArg) x ∧ EX x δ) (xo : XOk K F EX Ex) : tCallX (toSpX K spx) Ex (liftA K wa) σ H Q := by
  refine ⟨δ, _, F, rl, h, fun vs F1 H1 ss e p q => ?_⟩
  obtain ⟨x, q1, q2⟩ := q
  obtain ⟨a1, a2⟩ := args_ok e.sub p
  refine ⟨fun c _ H' => ∃ C, c = .ref C ∧ Same H1 H' ∧ ErrAt K x C, ⟨_, x, a1, a2, q1, fun C H' sm hx => ⟨C, rfl, sm, hx⟩⟩, ?_⟩
  rintro C H' ⟨C', e', sm, hx⟩
  cases e'
  have ex := grow_ext (x := none) e.sub e.full sm (fun _ z => by cases z)
  exact xo x C δ _ σ H' (e.ff.trans ex.ff) ((rl.ext e).ext ex) hx q2
section
variable {k : Nat} {f : Str} {spx : XSpec} {p : Pos} {e : Expr} {es : List Expr} {wa : WA} (C : CalleeX X.prog X.w X.K X.mg X.base k f spx) (hr : Room k X.A) (hx : Passes1 X Ex) (ha : PA X (e :: es) (liftA X.K wa))
include C hr hx ha
theorem pe_calleeX (hg : Gl X f := by rfl) (hdb : (f == ("__debug__" : Str)) = false := by decide) (he : starEach (e :: es) X.env = (false, eval e X.env) :: starEach es X.env := by rfl) (hpl : (backTo pos (starEach es X.env)).any (·.1) = false := by rfl) : PE X (.Call (.Name f p) (e :: es) [] pos) (tCallX (toSpX X.K spx) Ex (liftA X.K wa)) := by
  obtain ⟨fa, fd, ps, hm, F, hb, hk⟩ := C.ex
  exact pe_callX F hr hg hm hk hb hx ha hdb he hpl
theorem dx_drop {pos' : Pos} (hg : Gl X f := by rfl) (hdb : (f == ("__debug__" : Str)) = false := by decide) (he : starEach (e :: es) X.env = (false, eval e X.env) :: starEach es X.env := by rfl) (hpl : (backTo pos (starEach es X.env)).any (·.1) = false := by rfl) (hs : swapsWith (.Call (.Name f p) (e :: es) [] pos) none pos'.line X.env = pure false := by rfl) :
    PS X (.Expr (.Call (.Name f p) (e :: es) [] pos) pos') (liftSX X.K H₀ (wxCall spx wa) Ex) :=
  (ps_expr (pe_calleeX C hr hx ha hg hdb he hpl) hs).imp fun D σ H ⟨δ, D', F, EX, s0, rl, h, ok, xo⟩ => lift_callX rl h xo
end
theorem Rel.unset {K : Frag} {F H : Hp} {σ : St} {δ : DSt} {i : Nat} (r : Rel K F H σ δ) : Rel K F H (σ.set i none) (δ.set i none) := by
  have get : ∀ {j : Nat} {u : S}, (δ.set i none)[j]? = some (some u) → i ≠ j ∧ δ[j]? = some (some u) := fun {j u} h => by
    by_cases e : i = j
    · subst e
      rw [List.getElem?_set] at h
      simp at h
    · rw [List.getElem?_set_ne e] at h
      exact ⟨e, h⟩
  refine ⟨r.sub, r.full, by rw [List.length_set, List.length_set]; exact r.len, fun j u hu => ?_, fun j l a ts us hn h1 h2 h3 => ?_⟩
  · obtain ⟨e, h⟩ := get hu
    obtain ⟨v, h1, h2⟩ := r.slot j u h
    exact ⟨v, by rw [List.getElem?_set_ne e]; exact h1, h2⟩
  · obtain ⟨e1, h1⟩ := get h1
    obtain ⟨e2, h2⟩ := get h2
    rw [List.getElem?_set_ne e1] at h3
    rw [List.getElem?_set_ne e2]
    exact r.dist j l a ts us hn h1 h2 h3
theorem ds_try {i : Nat} {x n : Str} {np hpos : Pos} {body : List Stmt} {b₀ : Stmt} {suite : List Stmt} {xs : List Str} {wb : WX} {ws : WS} (hN : X.N.Nodup) (O : XCls X.K X.mg x) (hm : ∀ y ∈ xs, XSub X.K X.mg y x)
    (hbody : ∀ Ex pn xe, Passes1 (X.like pn xe X.A X.calm) Ex → PSs (X.like pn xe X.A X.calm) body (liftSX X.K H₀ wb Ex)) (hsuite : ∀ pn xe A, A.frames = X.A.frames → PSs (X.like pn xe A false) (b₀ :: suite) (liftS X.K H₀ ws))
    (hi : X.N[i]? = some n := by rfl) (hn : X.env.scope.names.lookup n = some .local := by rfl) (hg : Gl X x := by rfl) (hstk : X.stack = X.env :: X.outer := by rfl) (hfr : X.env.frame = some X.env.locals := by rfl) (hexc : X.ex = [] := by rfl) (hc : X.calm = true := by rfl) (hdb : (x == ("__debug__" : Str)) = false := by decide) :
    PS X (.Try body [.ExceptHandler (some (.Name x np)) (some n) (b₀ :: suite) hpos] [] [] pos) (liftS X.K H₀ (wTry i xs wb ws)) := by
  obtain ⟨S, hS, O⟩ := O.ex
  refine (ps_try (tb := fun Ex => liftSX X.K H₀ wb Ex) (ts := liftS X.K H₀ ws) (L := 0) hN hi hn hg O hstk hfr hexc hc hbody hsuite hdb).imp ?_
  rintro D σ H ⟨δ, D', F, s0, rl, h, ok⟩
  refine ⟨δ, D', F, _, s0, rl, h, ok, ?_⟩
  rintro y C δ1 F1 σ1 H1 ff rl1 hy ⟨hx, hw⟩
  obtain ⟨C', S', c1, c2, c3⟩ := (hm y hx).ex
  have e1 : C' = C := by have := hy.symm.trans c1; simpa using this.symm
  have e2 : S' = S := by have := O.bound.symm.trans c2; simpa using this.symm
  subst e1 e2
  refine ⟨c3, fun ad had => ?_⟩
  have ex := Ext.new (HExc ad C') rl1.sub rl1.full had
  refine ⟨_, _, upd F1 ad (HExc ad C'), s0.trans (ff.trans ex.ff), (rl1.ext ex).put (s := .t (.exc y)) ?_ (fun ts z => by cases z), hw, ⟨fun σ' F' H' δ' f2 rl2 q => ok.nx _ F' H' _ (ff.trans (ex.ff.trans f2)) rl2.unset q, fun _ _ _ _ _ z => z.elim, fun _ _ _ _ _ _ z => z.elim, fun _ _ _ _ _ _ z => z.elim⟩⟩
  show TRep X.K _ (.exc y) _
  unfold TRep
  exact ⟨ad, C', rfl, hy, upd_same⟩
end
section
variable {P : Program} {wd : World} {K : Frag} {mg : Str → Option Value} {base : Heap}
theorem def_okX {x qual : Str} {st : Stmt} {f : Addr} {fd : FuncData} {N ps : List Str} {k : Nat} {spx : XSpec} {w : WX} (F : Fun K x qual st f fd) (S : FnScope N ps (defScope st))
    (hlen : ∀ ss x, spx ss x → ss.length = ps.length)
    (hbody : ∀ (cdv : Value) (A : Around) (outer : List Env) (s : Shared) (H : Hp) (E : XK), Room k (A.deeper (PyProof.Rows.envOfC qual (defScope st) s.heap.objs.size f cdv)) → PSs (cxOf (CX1 P wd) P wd K mg base N qual (defScope st) f cdv A outer s H E) (defBody st) (liftSX K H w fun C _ H' => E (.ref C) none H'))
    (h : ∀ ss x, spx ss x → w (fun y _ => y = x) { nx := fun _ => False, rt := fun _ => False } (startD N ss)) : FnOk P wd K mg base (CX1 P wd) (k + 1) f fd ps (toSpX K spx) := by
  have pl : ps.length ≤ N.length := by
    have := congrArg List.length S.pre
    rw [List.length_take] at this
    omega
  obtain ⟨oc, od, kV, doc, pm, an, cdv, ct, osl, rfl, lk, hcd⟩ := F.ex
  refine fn_of lk hcd S (fun vs H Q E hs => ?_) fun A outer s H vs Q E hr hs => ?_
  · obtain ⟨ss, x, _, r, hs, _⟩ := hs
    rw [repVs_len r, hlen ss x hs]
  · obtain ⟨ss, x, ha, r, hs, k⟩ := hs
    refine ⟨_, hbody cdv A outer s H E hr, startD N ss, _, H, _, Same.refl _, rel_start (by rw [hlen ss x hs]; exact pl) ha r, h ss x hs, ⟨fun _ _ _ _ _ _ z => z.elim, fun _ _ _ _ _ z => z.elim, fun _ _ _ _ _ _ z => z.elim, fun _ _ _ _ _ _ z => z.elim⟩, ?_⟩
    rintro y C δ' F' σ' H' ff rl hy e
    have e : y = x := e
    subst e
    exact k C H' (ff.trans rl.sub) hy
theorem calleeX_of {x qual : Str} {st : Stmt} {f : Addr} {fd : FuncData} {ps : List Str} {k : Nat} {spx : XSpec} (F : Fun K x qual st f fd) (hm : mg x = some (.ref f)) (b : Binds K fd ps []) (h : FnOk P wd K mg base (CX1 P wd) k f fd ps (toSpX K spx)) : CalleeX P wd K mg base k x spx :=
  ⟨f, fd, ps, hm, h, b, F.kp⟩
end

/-! isinstance of what was caught -/
def isaB (x y : Str) : Bool := x == y || y == "SpotError"
def excK (R : Str → Prop) : S → Prop
  | .t (.exc x) => R x
  | _ => False
def wIsO (xs : List Str) (y : Str) (we : WE) : WE := fun δ R => we δ (excK fun x => x ∈ xs ∧ R (.t (.bl (isaB x y))))
def wIsOs (xs ys : List Str) (we : WE) : WE := fun δ R => we δ (excK fun x => x ∈ xs ∧ R (.t (.bl (ys.any (isaB x)))))
def wIsVal (xs : List Str) (we : WE) : WE := fun δ R => we δ (excK fun x => x ∈ xs ∧ R (.t (.bl true)))
theorem boot_val : bootBuiltins "ValueError" = some (.type "ValueError") := by decide +kernel
section
variable {X : Cx}
theorem exc_there {pins : List (Addr × Obj)} {σ : St} {H : Hp} {s : Shared} {a C : Addr} (I : Inv X pins σ H s) (h : ExcAt H a C) : IsExc a C s.heap := by
  obtain ⟨e, _⟩ := I.hok a _ h
  exact e
theorem call_isc {x : Str} {C : Addr} {c : Value} {cv : V} {b : Bool} (hx : ErrAt X.K x C) (Z : ExcCls X.K C) (rc : ∀ u, RelV cv u → u = c) (hk : kitOne X.K (.ref C) c = some b) : CallR X (.builtin "isinstance") (fun xs H Q => ∃ v, xs = [v, cv] ∧ TRep X.K H (.exc x) v ∧ Q (.bl b) H) := by
  intro pins s σ H xs us Q I r h
  obtain ⟨v, rfl, p, q⟩ := h
  obtain ⟨u, w', rfl, r1, r2⟩ := vals2 r
  have e := rc w' r2
  subst e
  unfold TRep at p
  obtain ⟨a, C', rfl, p1, p2⟩ := p
  have e1 : C' = C := by have := hx.symm.trans p1; simpa using this.symm
  subst e1
  have e2 : u = .ref a := r1
  subst e2
  exact kia_one (kitx_exc Z) I.kIn (exc_there I p2) hk (fun z => nomatch z) fun tk => ⟨.bl _, H, I.tok _, rfl, q⟩
structure XAt (mg : Str → Option Value) (y : Str) : Prop where
  ex : ∃ S, mg y = some (.ref S)
theorem call_isO {xs : List Str} {y : Str} {S : Addr} (hS : X.mg y = some (.ref S)) (h : ∀ x ∈ xs, XIsa X.K X.mg x y (isaB x y)) : CallR X (.builtin "isinstance") (fun vs H Q => ∃ v x, vs = [v, .ref S] ∧ x ∈ xs ∧ TRep X.K H (.exc x) v ∧ Q (.bl (isaB x y)) H) := by
  rintro pins s σ H vs us Q I r ⟨v, x, e, hx, p, q⟩
  obtain ⟨C, S', h1, h2, h3, h4⟩ := (h x hx).ex
  have e2 : S' = S := by have := hS.symm.trans h2; simpa using this.symm
  subst e2
  exact call_isc h1 h3 (cv := .ref S') (c := .ref S') (fun u z => z) h4 pins s σ H vs us Q I r ⟨v, e, p, q⟩
theorem call_isVal {xs : List Str} (h : ∀ x ∈ xs, XVal X.K x) : CallR X (.builtin "isinstance") (fun vs H Q => ∃ v x, vs = [v, .ty "ValueError"] ∧ x ∈ xs ∧ TRep X.K H (.exc x) v ∧ Q (.bl true) H) := by
  rintro pins s σ H vs us Q I r ⟨v, x, e, hx, p, q⟩
  obtain ⟨C, h1, h3, h4⟩ := (h x hx).ex
  exact call_isc h1 h3 (cv := .ty "ValueError") (c := .type "ValueError") (fun u z => z) h4 pins s σ H vs us Q I r ⟨v, e, p, q⟩
inductive Refs (mg : Str → Option Value) : List Str → List Addr → Prop
  | nil : Refs mg [] []
  | cons {y : Str} {S : Addr} {ys : List Str} {Ss : List Addr} (h : mg y = some (.ref S)) (r : Refs mg ys Ss) : Refs mg (y :: ys) (S :: Ss)
theorem refs_of {mg : Str → Option Value} : ∀ {ys : List Str}, (∀ y ∈ ys, XAt mg y) → ∃ Ss, Refs mg ys Ss
  | [], _ => ⟨[], .nil⟩
  | y :: ys, h => by
    obtain ⟨S, e⟩ := (h y (by simp)).ex
    obtain ⟨Ss, r⟩ := refs_of (ys := ys) fun z hz => h z (by simp [hz])
    exact ⟨S :: Ss, .cons e r⟩
theorem kitAny_of {K : Frag} {mg : Str → Option Value} {x : Str} {C : Addr} (hx : ErrAt K x C) : ∀ {ys : List Str} {Ss : List Addr}, Refs mg ys Ss → (∀ y ∈ ys, XIsa K mg x y (isaB x y)) → kitAny K (.ref C) (Ss.map Value.ref) = some (ys.any (isaB x))
  | _, _, .nil, _ => rfl
  | _, _, .cons (y := y) (S := S) (ys := ys) (Ss := Ss) e r, h => by
    obtain ⟨C', S', h1, h2, h3, h4⟩ := (h y (by simp)).ex
    have e1 : C' = C := by have := hx.symm.trans h1; simpa using this.symm
    have e2 : S' = S := by have := e.symm.trans h2; simpa using this.symm
    subst e1 e2
    have ih := kitAny_of hx r fun z hz => h z (by simp [hz])
    rw [List.map_cons, List.any_cons]
    unfold kitAny
    rw [h4]
    cases isaB x y with
    | true => rfl
    | false => exact ih
theorem vals_refs : ∀ {Ss : List Addr} {its : List Value}, Vals (Ss.map V.ref) its → its = Ss.map Value.ref
  | [], _, .nil => rfl
  | S :: Ss, _, .cons h r => by
    rw [vals_refs r, List.map_cons]
    exact congrArg (· :: _) h
theorem call_isOs {xs ys : List Str} {Ss : List Addr} (hS : Refs X.mg ys Ss) (hc : ∀ x ∈ xs, ∃ C, ErrAt X.K x C ∧ ExcCls X.K C) (h : ∀ x ∈ xs, ∀ y ∈ ys, XIsa X.K X.mg x y (isaB x y)) : CallR X (.builtin "isinstance") (fun vs H Q => ∃ v tp x, vs = [v, .ref tp] ∧ SqT X.K H tp (Ss.map V.ref) ∧ x ∈ xs ∧ TRep X.K H (.exc x) v ∧ Q (.bl (ys.any (isaB x))) H) := by
  rintro pins s σ H vs us Q I r ⟨v, tp, x, rfl, ht, hx, p, q⟩
  obtain ⟨u, w', rfl, r1, r2⟩ := vals2 r
  obtain ⟨C, c1, c2⟩ := hc x hx
  have e : w' = .ref tp := r2
  subst e
  unfold TRep at p
  obtain ⟨a, C', rfl, p1, p2⟩ := p
  have e1 : C' = C := by have := c1.symm.trans p1; simpa using this.symm
  subst e1
  have e2 : u = .ref a := r1
  subst e2
  obtain ⟨its, rv, ⟨o, eo, ec, n, ed⟩, _⟩ := I.tuple ht
  have ei := vals_refs rv
  subst ei
  obtain ⟨cl, dd, da, sl⟩ := o
  cases ec
  cases ed
  exact kia_tup (kitx_exc c2) I.kIn (exc_there I p2) eo (kitAny_of c1 hS fun y hy => h x hx y hy) (fun z => nomatch z) fun tk => ⟨.bl _, H, I.tok _, rfl, q⟩
def PAn (X : Cx) (es : List Expr) (vs : List V) : Prop := PA X es (fun _ H Q => Q vs H)
theorem pan_nil : PAn X [] [] := pa_nil
theorem pan_cons {y : Str} {S : Addr} {es : List Expr} {vs : List V} {p : Pos} (h : X.mg y = some (.ref S)) (r : PAn X es vs) (hg : Gl X y) (hd : (y == ("__debug__" : Str)) = false) (hs : starEach (.Name y p :: es) X.env = (false, eval (.Name y p) X.env) :: starEach es X.env) : PAn X (.Name y p :: es) (.ref S :: vs) :=
  pa_cons (pe_glob (v := .ref S) hg h rfl hd) r hs
variable {e : Expr} {we : WE} {pos p p2 : Pos}
theorem excK_t {K : Frag} {F H : Hp} {R : Str → Prop} {s : S} {v : V} (sb : Same F H) (h : excK R s) (r : RepV K F H s v) : ∃ x, R x ∧ TRep K H (.exc x) v := by
  unfold excK at h
  split at h
  · exact ⟨_, h, TRep.same sb r⟩
  · exact h.elim
theorem de_isO {xs : List Str} {y : Str} (hm : X.mg "isinstance" = none) (hy : XAt X.mg y) (h : ∀ x ∈ xs, XIsa X.K X.mg x y (isaB x y)) (he : PE X e (liftE X.K we)) (hg : Gl X "isinstance" := by rfl) (hg2 : Gl X y := by rfl) (hd : (y == ("__debug__" : Str)) = false := by decide)
    (h1 : starEach [e, .Name y p2] X.env = (false, eval e X.env) :: starEach [.Name y p2] X.env := by rfl) (h2 : starEach [.Name y p2] X.env = (false, eval (.Name y p2) X.env) :: starEach [] X.env := by rfl) (h3 : (backTo pos (starEach [.Name y p2] X.env)).any (·.1) = false := by rfl) :
    PE X (.Call (.Name "isinstance" p) [e, .Name y p2] [] pos) (liftE X.K (wIsO xs y we)) := by
  obtain ⟨S, hS⟩ := hy.ex
  refine (pe_callB (call_isO hS h) hg hm PyProof.Rows.boot_isinstance (pa_cons he (pa_cons (pe_glob (v := .ref S) hg2 hS rfl hd) pa_nil h2) h1) (by decide) (by decide) h1 h3).imp ?_
  rintro σ H Q ⟨δ, R, F, rl, h, k⟩
  refine ⟨δ, _, F, rl, h, fun v F1 H1 s e p q => ?_⟩
  obtain ⟨x, ⟨hx, q⟩, t⟩ := excK_t e.sub q (p.val e.sub)
  exact ⟨v, x, rfl, hx, t, k _ F1 H1 (.t (.bl _)) e rfl q⟩
theorem de_isVal {xs : List Str} (hm : X.mg "isinstance" = none) (hm2 : X.mg "ValueError" = none) (h : ∀ x ∈ xs, XVal X.K x) (he : PE X e (liftE X.K we)) (hg : Gl X "isinstance" := by rfl) (hg2 : Gl X "ValueError" := by rfl)
    (h1 : starEach [e, .Name "ValueError" p2] X.env = (false, eval e X.env) :: starEach [.Name "ValueError" p2] X.env := by rfl) (h2 : starEach [.Name "ValueError" p2] X.env = (false, eval (.Name "ValueError" p2) X.env) :: starEach [] X.env := by rfl) (h3 : (backTo pos (starEach [.Name "ValueError" p2] X.env)).any (·.1) = false := by rfl) :
    PE X (.Call (.Name "isinstance" p) [e, .Name "ValueError" p2] [] pos) (liftE X.K (wIsVal xs we)) := by
  refine (pe_callB (call_isVal h) hg hm PyProof.Rows.boot_isinstance (pa_cons he (pa_cons (pe_bltn (v := .ty "ValueError") hg2 hm2 boot_val rfl (by decide) (by decide)) pa_nil h2) h1) (by decide) (by decide) h1 h3).imp ?_
  rintro σ H Q ⟨δ, R, F, rl, h, k⟩
  refine ⟨δ, _, F, rl, h, fun v F1 H1 s e p q => ?_⟩
  obtain ⟨x, ⟨hx, q⟩, t⟩ := excK_t e.sub q (p.val e.sub)
  exact ⟨v, x, rfl, hx, t, k _ F1 H1 (.t (.bl _)) e rfl q⟩
theorem de_isOs {xs ys : List Str} {es : List Expr} {x1} {p3 : Pos} (hm : X.mg "isinstance" = none) (hy : ∀ y ∈ ys, XAt X.mg y) (hc : ∀ x ∈ xs, XCls X.K X.mg x) (h : ∀ x ∈ xs, ∀ y ∈ ys, XIsa X.K X.mg x y (isaB x y)) (he : PE X e (liftE X.K we)) (hn : ∀ Ss, Refs X.mg ys Ss → PAn X es (Ss.map V.ref)) (hl : ys.length ≤ 1000 := by decide) (hg : Gl X "isinstance" := by rfl)
    (h1 : starEach [e, .Tuple es x1 p3] X.env = (false, eval e X.env) :: starEach [.Tuple es x1 p3] X.env := by rfl) (h2 : starEach [.Tuple es x1 p3] X.env = (false, eval (.Tuple es x1 p3) X.env) :: starEach [] X.env := by rfl) (h3 : (backTo pos (starEach [.Tuple es x1 p3] X.env)).any (·.1) = false := by rfl) :
    PE X (.Call (.Name "isinstance" p) [e, .Tuple es x1 p3] [] pos) (liftE X.K (wIsOs xs ys we)) := by
  obtain ⟨Ss, hS⟩ := refs_of hy
  have len : ∀ {ys : List Str} {Ss : List Addr}, Refs X.mg ys Ss → Ss.length = ys.length := fun r => by
    induction r with
    | nil => rfl
    | cons _ _ ih => rw [List.length_cons, List.length_cons, ih]
  refine (pe_callB (call_isOs hS (fun x hx => by obtain ⟨C, c1, c2⟩ := (hc x hx).ex; exact ⟨C, c1, c2.cls⟩) h) hg hm PyProof.Rows.boot_isinstance (pa_cons he (pa_cons (pe_tup (hn Ss hS)) pa_nil h2) h1) (by decide) (by decide) h1 h3).imp ?_
  rintro σ H Q ⟨δ, R, F, rl, h, k⟩
  refine ⟨δ, _, F, rl, h, fun v F1 H1 s e p q => ?_⟩
  obtain ⟨x, ⟨hx, q⟩, t⟩ := excK_t e.sub q (p.val e.sub)
  refine ⟨by rw [List.length_map, len hS]; exact le_line hl, fun tp htp => ?_⟩
  have ex := Ext.new (.tup (Ss.map V.ref)) e.sub e.full htp
  exact ⟨v, tp, x, rfl, SqT.of upd_same, hx, TRep.same ex.hh t, k _ _ _ (.t (.bl _)) (e.trans ex) rfl q⟩
/-- the names of a display, one by one -/
theorem pan3 {a b c : Str} {p1 p2 p3 : Pos} (g1 : Gl X a := by rfl) (g2 : Gl X b := by rfl) (g3 : Gl X c := by rfl) (d1 : (a == ("__debug__" : Str)) = false := by decide) (d2 : (b == ("__debug__" : Str)) = false := by decide) (d3 : (c == ("__debug__" : Str)) = false := by decide)
    (s1 : starEach [.Name a p1, .Name b p2, .Name c p3] X.env = (false, eval (.Name a p1) X.env) :: starEach [.Name b p2, .Name c p3] X.env := by rfl) (s2 : starEach [.Name b p2, .Name c p3] X.env = (false, eval (.Name b p2) X.env) :: starEach [.Name c p3] X.env := by rfl) (s3 : starEach [.Name c p3] X.env = (false, eval (.Name c p3) X.env) :: starEach [] X.env := by rfl) :
    ∀ Ss, Refs X.mg [a, b, c] Ss → PAn X [.Name a p1, .Name b p2, .Name c p3] (Ss.map V.ref)
  | _, .cons h1 (.cons h2 (.cons h3 .nil)) => pan_cons h1 (pan_cons h2 (pan_cons h3 pan_nil g3 d3 s3) g2 d2 s2) g1 d1 s1
end
/-- what is known of the error classes: rs may be raised, ys are all -/
structure XEnv (K : Frag) (mg : Str → Option Value) (rs ys : List Str) : Prop where
  cls : ∀ y ∈ ys, XCls K mg y
  sub : ∀ x ∈ rs, XSub K mg x "SpotError"
  isa : ∀ x ∈ rs, ∀ y ∈ ys, XIsa K mg x y (isaB x y)
  val : ∀ x ∈ rs, XVal K x
theorem XEnv.at {K : Frag} {mg : Str → Option Value} {rs ys : List Str} (e : XEnv K mg rs ys) {y : Str} (h : y ∈ ys) : XAt mg y := by
  obtain ⟨C, _, o⟩ := (e.cls y h).ex
  exact ⟨C, o.bound⟩
/-! what the walk reads -/
theorem x_n {u : WS} {EX : Str → DSt → Prop} {D : DEnds} {δ : DSt} : wxN u EX D δ = u D δ := rfl
theorem x_if {t : WT} {a b : WX} {EX : Str → DSt → Prop} {D : DEnds} {δ : DSt} : wxIf t a b EX D δ = t δ fun k => if k = true then a EX D δ else b EX D δ := rfl
theorem x_seq {a b : WX} {EX : Str → DSt → Prop} {D : DEnds} {δ : DSt} : wxSeq a b EX D δ = a EX { D with nx := fun δ' => b EX D δ' } δ := rfl
theorem x_raise {x : Str} {wa : WA} {EX : Str → DSt → Prop} {D : DEnds} {δ : DSt} : wxRaise x wa EX D δ = wa δ fun ss => if ss.length ≤ 1000 then EX x δ else False := rfl
theorem x_call {sp : XSpec} {wa : WA} {EX : Str → DSt → Prop} {D : DEnds} {δ : DSt} : wxCall sp wa EX D δ = wa δ fun ss => ∃ x, sp (ss.map asArg) x ∧ EX x δ := rfl
theorem x_try {i : Nat} {xs : List Str} {wb : WX} {ws : WS} {D : DEnds} {δ : DSt} : wTry i xs wb ws D δ = wb (fun x δ1 => x ∈ xs ∧ ws { D with nx := fun δ2 => D.nx (δ2.set i none), rt := fun _ => False, bk := fun _ => False, ct := fun _ => False } (δ1.set i (some (.t (.exc x))))) D δ := rfl
theorem x_isO {xs : List Str} {y : Str} {we : WE} {δ : DSt} {R : S → Prop} : wIsO xs y we δ R = we δ (excK fun x => x ∈ xs ∧ R (.t (.bl (isaB x y)))) := rfl
theorem x_isOs {xs ys : List Str} {we : WE} {δ : DSt} {R : S → Prop} : wIsOs xs ys we δ R = we δ (excK fun x => x ∈ xs ∧ R (.t (.bl (ys.any (isaB x))))) := rfl
theorem x_isVal {xs : List Str} {we : WE} {δ : DSt} {R : S → Prop} : wIsVal xs we δ R = we δ (excK fun x => x ∈ xs ∧ R (.t (.bl true))) := rfl
theorem x_k {R : Str → Prop} {x : Str} : excK R (.t (.exc x)) = R x := rfl
end DL

set_option Elab.async false
set_option linter.all false
set_option maxRecDepth 100000
/-! sums, greatest and least of a list of ints -/
namespace L2
open PySem PyProof.Rows
section
variable {X : Cx}
end
end L2
namespace DL
open PySem L2
def intsT : List T → Option (List Int)
  | [] => some []
  | .int i :: r => match intsT r with
    | some l => some (i :: l)
    | none => none
  | _ :: _ => none
def sumK (R : S → Prop) (ts : List T) : Prop := match intsT ts with
  | some l => R (.t (.int l.sum))
  | none => False
def fSum : List S → (S → Prop) → Prop
  | [.t (.lst ts)], R => sumK R ts
  | [.vt (.lst ts)], R => sumK R ts
  | [.ol ts], R => sumK R ts
  | _, _ => False
section
variable {X : Cx} {e : Expr} {wa : WA} {pos p : Pos}
end
theorem a_sumF (ts : List T) (R : S → Prop) : fSum [.t (.lst ts)] R = sumK R ts := rfl
theorem a_sumV (ts : List T) (R : S → Prop) : fSum [.vt (.lst ts)] R = sumK R ts := rfl
theorem a_sumO (ts : List T) (R : S → Prop) : fSum [.ol ts] R = sumK R ts := rfl
def bestK (le : Int → Int → Prop) (R : S → Prop) (ts : List T) : Prop := match intsT ts with
  | some l => l ≠ [] ∧ ∀ m ∈ l, (∀ x ∈ l, le x m) → R (.t (.int m))
  | none => False
def fBest (le : Int → Int → Prop) : List S → (S → Prop) → Prop
  | [.t (.lst ts)], R => bestK le R ts
  | [.vt (.lst ts)], R => bestK le R ts
  | [.ol ts], R => bestK le R ts
  | _, _ => False
section
variable {X : Cx} {e : Expr} {wa : WA} {pos p : Pos}
end
theorem a_bestF (le : Int → Int → Prop) (ts : List T) (R : S → Prop) : fBest le [.t (.lst ts)] R = bestK le R ts := rfl
theorem a_bestV (le : Int → Int → Prop) (ts : List T) (R : S → Prop) : fBest le [.vt (.lst ts)] R = bestK le R ts := rfl
theorem a_bestO (le : Int → Int → Prop) (ts : List T) (R : S → Prop) : fBest le [.ol ts] R = bestK le R ts := rfl
/-! a comprehension item by item -/
def compW (g : WG) (tc : WT) (te : WE) : List T → DSt → List T → (List T → Prop) → Prop
  | [], _, acc, R => R acc
  | x :: r, δ, acc, R => g x δ fun δ1 => tc δ1 fun ok => if ok = true then te δ1 fun s => itemK (fun y => acc.length < 100000 ∧ compW g tc te r δ1 (acc ++ [y]) R) s else compW g tc te r δ1 acc R
theorem a_compN (g : WG) (tc : WT) (te : WE) (δ : DSt) (acc : List T) (R : List T → Prop) : compW g tc te [] δ acc R = R acc := rfl
theorem a_compC (g : WG) (tc : WT) (te : WE) (x : T) (r : List T) (δ : DSt) (acc : List T) (R : List T → Prop) : compW g tc te (x :: r) δ acc R = g x δ fun δ1 => tc δ1 fun ok => if ok = true then te δ1 fun s => itemK (fun y => acc.length < 100000 ∧ compW g tc te r δ1 (acc ++ [y]) R) s else compW g tc te r δ1 acc R := rfl
/-! a display of int constants, at once -/
end DL

set_option Elab.async false
set_option linter.all false
set_option maxRecDepth 100000
/-! zip and enumerate in a for, sorted of ints, slices of tuples -/
namespace L2
open PySem PySem.Spec PyProof.Rows
section
variable {X : Cx} {pins : List (Addr × Obj)} {σ : St} {H : Hp} {s : Shared}
end
structure Apart5 (z TI TO i1 i2 : Addr) : Prop where
  TIz : TI ≠ z
  TOz : TO ≠ z
  i1z : i1 ≠ z
  i2z : i2 ≠ z
  TITO : TI ≠ TO
  TIi1 : TI ≠ i1
  TIi2 : TI ≠ i2
  TOi1 : TO ≠ i1
  TOi2 : TO ≠ i2
  i12 : i1 ≠ i2
section
variable {X : Cx} {elts : List Expr} {x1 : Nat} {tp : Pos}
end
end L2
namespace DL
open PySem L2
/-! ### zip, enumerate -/
def zipT : List T → List T → List T
  | t :: ts, u :: us => .tup [t, u] :: zipT ts us
  | _, _ => []
def enumT (n : Nat) : List T → List T
  | t :: ts => .tup [.int n, t] :: enumT (n + 1) ts
  | [] => []
def zipK (δ : DSt) (W : List T → DSt → Prop) : List S → Prop
  | [.t (.lst ts), .t (.lst us)] => W (zipT ts us) δ
  | _ => False
def enumK (δ : DSt) (W : List T → DSt → Prop) : List S → Prop
  | [.ol ts] => W (enumT 0 ts) δ
  | _ => False
def wiZip (wa : WA) : WI := fun δ W => wa δ (zipK δ W)
def wiEnum (wa : WA) : WI := fun δ W => wa δ (enumK δ W)
section
variable {X : Cx} {e e2 : Expr} {we : WE} {wa : WA} {p pos tp : Pos} {elts : List Expr} {x1 : Nat}
end
theorem a_wiZip (wa : WA) (δ : DSt) (W : List T → DSt → Prop) : wiZip wa δ W = wa δ (zipK δ W) := rfl
theorem a_wiEnum (wa : WA) (δ : DSt) (W : List T → DSt → Prop) : wiEnum wa δ W = wa δ (enumK δ W) := rfl
theorem zipK_2 (δ : DSt) (W : List T → DSt → Prop) (ts us : List T) : zipK δ W [.t (.lst ts), .t (.lst us)] = W (zipT ts us) δ := rfl
theorem enumK_1 (δ : DSt) (W : List T → DSt → Prop) (ts : List T) : enumK δ W [.ol ts] = W (enumT 0 ts) δ := rfl
/-! ### sorted of ints -/
def sortK (R : S → Prop) (ts : List T) : Prop := match intsT ts with
  | some l => l.length < 64 ∧ ∀ ms : List Int, ms.Perm l → ms.Pairwise (· ≤ ·) → R (.ol (ms.map T.int))
  | none => False
def fSort : List S → (S → Prop) → Prop
  | [.t (.lst ts)], R => sortK R ts
  | [.vt (.lst ts)], R => sortK R ts
  | [.ol ts], R => sortK R ts
  | _, _ => False
section
variable {X : Cx} {e : Expr} {wa : WA} {pos p : Pos}
end
theorem a_sortF (ts : List T) (R : S → Prop) : fSort [.t (.lst ts)] R = sortK R ts := rfl
theorem a_sortV (ts : List T) (R : S → Prop) : fSort [.vt (.lst ts)] R = sortK R ts := rfl
theorem a_sortO (ts : List T) (R : S → Prop) : fSort [.ol ts] R = sortK R ts := rfl
/-! ### t[lo:hi], not the whole of t -/
def slcT (lo hi : Option Int) (R : S → Prop) : S → Prop
  | .t (.tup ts) => ¬ (HT.sIx ts.length 0 lo = 0 ∧ HT.sIx ts.length ts.length hi = ts.length) ∧ R (.t (.tup (cutT ts lo hi)))
  | _ => False
def wSliceT (we : WE) (wl wh : DSt → (Option Int → Prop) → Prop) : WE := fun δ R => we δ fun s => wl δ fun lo => wh δ fun hi => slcT lo hi R s
section
variable {X : Cx} {e : Expr} {we : WE} {lo hi : Option Expr} {wl wh : DSt → (Option Int → Prop) → Prop} {pos p2 : Pos}
end
theorem a_sliceT (we : WE) (wl wh : DSt → (Option Int → Prop) → Prop) (δ : DSt) (R : S → Prop) : wSliceT we wl wh δ R = we δ fun s => wl δ fun lo => wh δ fun hi => slcT lo hi R s := rfl
theorem slcT_T (lo hi : Option Int) (R : S → Prop) (ts : List T) : slcT lo hi R (.t (.tup ts)) = (¬ (HT.sIx ts.length 0 lo = 0 ∧ HT.sIx ts.length ts.length hi = ts.length) ∧ R (.t (.tup (cutT ts lo hi)))) := rfl
end DL

set_option Elab.async false
set_option linter.all false
set_option maxRecDepth 100000
set_option maxHeartbeats 4000000
/-! list(reversed(xs)) -/
namespace DL
open PySem PySem.Spec L2 PyProof.Rows
def plainHd : Expr → Bool
  | .Starred .. => false
  | _ => true
theorem star_plain {e : Expr} {es : List Expr} {env : Env} (h : plainHd e = true) : starEach (e :: es) env = (false, eval e env) :: starEach es env := by
  cases e <;> first | rfl | cases h
theorem lri_no_len : typeLookup (.type "list_reverseiterator") "__len__" = pure none := by rw [typeLookup_type, builtinLookup_eq_fast]; kernel_rfl
theorem slot_lri_hint : Slot "list_reverseiterator" "__length_hint__" "list_reverseiterator.__length_hint__" :=
  .of (owner := "list_reverseiterator") (n := "__length_hint__") (by rw [typeLookup_type, builtinLookup_eq_fast]; kernel_rfl) (by decide +kernel) (by decide +kernel) (by decide +kernel)
    (by first | exact .inl (by decide +kernel) | exact .inr (by decide +kernel)) (by rw [isSubtype_type]; kernel_rfl)
section
variable {prog : Program} {w : World} {A : Around} {E : Value → Shared → Prop} {s : Shared}
theorem wpAny_hint_rev {it l : Addr} {i : Int} {Q : Bool → Shared → Prop} (hit : s.heap.IsRevIter it l i) (h : Q false s) : wpAny (model prog w) A (Builtin.List.listLengthHint (.ref it)) Q E s := by
  unfold Builtin.List.listLengthHint
  refine wpAny_bind (wpAny_specialOf hit.typeIs lri_no_len ?_)
  show wpAny _ A (specialOf (Value.ref it) (Str.ofString "__length_hint__") >>= _) _ _ _
  refine wpAny_bind (wpAny_specialOf hit.typeIs slot_lri_hint.lookup ?_)
  generalize hid : ("list_reverseiterator.__length_hint__" : String) = id0
  wp_delta
  rw [show splitId id0 = some ("list_reverseiterator", "__length_hint__") from by subst hid; decide +kernel]
  subst hid
  refine wpAny_bind (wpAny_isInstance (T := "list_reverseiterator") (b := true) hit.typeIs (by rw [isSubtype_type]; kernel_rfl) ?_)
  refine wpAny_ite_split (fun hab => absurd hab (by decide)) (fun _ => ?_)
  refine wpAny_ite_split (fun _ => ?_) (fun hab => absurd (by decide +kernel) hab)
  refine wpAny_ite_split (fun hab => absurd hab (by decide +kernel)) (fun _ => ?_)
  exact wpAny_pure h
theorem wpAny_extend_rev {R : Result → Shared → Prop} {I l : Addr} {items : Array Value} (hh : A.handled = none) (hit : s.heap.IsRevIter I l ((items.size : Int) - 1)) (hl : s.heap.IsList l items) (hz : items.size ≤ sizeLine) (S : Addr) (res : Value) (c₀ : Nat) (hS : s.heap.get? S = some { cls := .type "list", data := .seq #[] c₀ }) (hlI : l ≠ I) (hSI : S ≠ I) (hSl : S ≠ l)
    (hR : ∀ h' tk acc' c', (∀ b o, b ≠ S → b ≠ I → s.heap.get? b = some o → h'.get? b = some o) → h'.get? S = some { cls := .type "list", dict := none, data := .seq acc' c', slots := #[] } →
      ItemsOf (fun i v => items[items.size - 1 - i]? = some v) acc' items.size → R (.ok (.ret res)) { s with heap := h', toks := tk }) :
    wpAny (model prog w) A.in1 (Builtin.List.listExtendWith (.ref S) (.ref I) res)
      (fun fin s' => match fin with | .done f => R (.ok f) s' | .again c' => c'.quiet = true ∧ codeAny (model prog w) A c' R s') (fun e s' => R (.error e) s') s := by
  have W := (Walks.listRev (prog := prog) (w := w) (A := A.in1) hh I l hlI items).toS
  have hSf : S ∉ [I, l] := fun hm => by
    rcases List.mem_cons.mp hm with e | e
    · exact hSI e
    · exact hSl (List.mem_singleton.mp e)
  unfold Builtin.List.listExtendWith
  refine wpAny_bind (wpAny_typeOf hit.typeIs ?_)
  have h1 : Builtin.List.listSameRef (.ref S) (.ref I) = false := by simp [Builtin.List.listSameRef, hSI]
  have h2 : (Value.type "list_reverseiterator" == Value.type "list") = false := by decide
  have h3 : (Value.type "list_reverseiterator" == Value.type "tuple") = false := by decide
  simp only [h1, h2, h3, Bool.or_false, Bool.false_eq_true, if_false]
  refine wpAny_bind (wpAny_pyIter_revIter hit ?_)
  refine wpAny_bind (wpAny_holding (wpAny_hint_rev hit ?_))
  refine wpAny_ite_split (fun hab => absurd hab (by decide)) (fun _ => wpAny_pure ⟨plainId_quiet F.plain_extend_loop _, ?_⟩)
  have e0 : (items.size : Int) - 1 - ((0 : Nat) : Int) = (items.size : Int) - 1 := by omega
  refine codeAny_extend_loopS W hz S hSf res items.size 0 s #[] c₀ rfl (Nat.zero_le _) ⟨Nat.zero_le _, by rw [e0]; exact hit, hl⟩ hS (ItemsOf.nil _) fun s' acc' c' hm hS' hacc => ?_
  rw [Moved.eq_with hm]
  refine hR s'.heap s'.toks acc' c' (fun b o hb hb2 e => hm.heap b o (fun hmem => ?_) e) hS' hacc
  rcases List.mem_cons.mp hmem with e' | hmem
  · exact hb e'
  · exact hb2 (List.mem_singleton.mp hmem)
theorem wpAny_list_init_rev {R : Result → Shared → Prop} {I l : Addr} {items : Array Value} (hh : A.handled = none) (hit : s.heap.IsRevIter I l ((items.size : Int) - 1)) (hl : s.heap.IsList l items) (hz : items.size ≤ sizeLine) (S : Addr) (hS : s.heap.get? S = some { cls := .type "list", data := .seq #[] }) (hlI : l ≠ I) (hSI : S ≠ I) (hSl : S ≠ l)
    (hR : ∀ h' tk acc' c', (∀ b o, b ≠ S → b ≠ I → s.heap.get? b = some o → h'.get? b = some o) → h'.get? S = some { cls := .type "list", dict := none, data := .seq acc' c', slots := #[] } →
      ItemsOf (fun i v => items[items.size - 1 - i]? = some v) acc' items.size → R (.ok (.ret .none)) { s with heap := h', toks := tk }) :
    wpAny (model prog w) A.in1 (Builtin.«list.__init__» ⟨[.ref S, .ref I], []⟩)
      (fun fin s' => match fin with | .done f => R (.ok f) s' | .again c' => c'.quiet = true ∧ codeAny (model prog w) A c' R s') (fun e s' => R (.error e) s') s := by
  show wpAny _ _ (do let old ← Builtin.List.listItems (.ref S); Builtin.List.listUpdate (.ref S) (fun _ => #[]); letGo old.toList.reverse; Builtin.List.listExtendWith (.ref S) (.ref I) .none) _ _ s
  refine wpAny_bind ?_
  unfold Builtin.List.listItems
  refine wpAny_bind (wpAny_seqItems hS rfl (wpAny_pure ?_))
  show wpAny _ _ (updateSeq S (fun _ => #[]) >>= fun _ => letGo (#[] : Array Value).toList.reverse >>= fun _ => Builtin.List.listExtendWith (.ref S) (.ref I) .none) _ _ s
  refine wpAny_bind (wpAny_updateSeq hS rfl ?_)
  have hS₂ := Heap.get?_update_self (Obj.mapSeq (fun _ => (#[] : Array Value))) hS rfl
  have oth : ∀ b o, b ≠ S → s.heap.get? b = some o → (s.heap.update S (Obj.mapSeq (fun _ => (#[] : Array Value)))).get? b = some o :=
    fun b o hb e => (Heap.get?_update_other _ _ (Ne.symm hb)).trans e
  refine wpAny_bind (wpAny_letGo ?_)
  refine wpAny_extend_rev hh (hit.at fun o e => oth I o (Ne.symm hSI) e) (hl.at fun o e => oth l o (Ne.symm hSl) e) hz S .none _ hS₂ hlI hSI hSl fun h' tk acc' c' hk hS' hacc => ?_
  exact hR h' tk acc' c' (fun b o hb hb2 e => hk b o hb hb2 (oth b o hb e)) hS' hacc
theorem call_list_rev {Q : Value → Shared → Prop} {I l : Addr} {items : Array Value} (hh : A.handled = none) (hit : s.heap.IsRevIter I l ((items.size : Int) - 1)) (hl : s.heap.IsList l items) (hz : items.size ≤ sizeLine) (hlI : l ≠ I)
    (hQ : ∀ h' tk acc' c', (∀ b o, b ≠ I → s.heap.get? b = some o → h'.get? b = some o) →
      h'.get? s.heap.objs.size = some { cls := .type "list", dict := none, data := .seq acc' c', slots := #[] } → ItemsOf (fun i v => items[items.size - 1 - i]? = some v) acc' items.size → Q (.ref s.heap.objs.size) { s with heap := h', toks := tk }) :
    wpAny (model prog w) A (call (.type "list") [.ref I]) Q E s := by
  obtain ⟨oI, hoI, _⟩ := id hit
  obtain ⟨ol, hol, _⟩ := id hl
  refine callType_codes (Q₁ := fun obj s₁ => obj = .ref s.heap.objs.size ∧ s₁ = { s with heap := s.heap.push { cls := .type "list", data := .seq #[] } }) F.called_list (F.typeCall_list_1 _) F.entry_list_init
    (code_list_new _ ⟨rfl, rfl⟩) fun obj s₁ h₁ => ?_
  obtain ⟨rfl, rfl⟩ := h₁
  have hS : (s.heap.push { cls := .type "list", data := .seq #[] }).get? s.heap.objs.size = some { cls := .type "list", data := .seq #[] } := Heap.get?_push_size _ rfl
  refine ⟨⟨_, hS, rfl⟩, F.args_list_init_2 _ _, wpAny_list_init_rev (A := A.in1) hh (hit.at fun o e => Heap.get?_push_of_some _ e) (hl.at fun o e => Heap.get?_push_of_some _ e) hz _ hS hlI (fun e => Nat.ne_of_lt (Heap.lt_size hoI) e.symm) (fun e => Nat.ne_of_lt (Heap.lt_size hol) e.symm) fun h' tk acc' c' hk hS' hacc => ?_⟩
  exact ⟨rfl, hQ h' tk acc' c' (fun b o hb e => hk b o (Nat.ne_of_lt (Heap.lt_size e)) hb (Heap.get?_push_of_some _ e)) hS' hacc⟩
theorem items_rev {its : List Value} {acc : Array Value} (h : ItemsOf (fun i v => its.toArray[its.toArray.size - 1 - i]? = some v) acc its.toArray.size) : acc = its.reverse.toArray := by
  obtain ⟨h1, h2⟩ := h
  have e : acc.toList = its.reverse := by
    apply List.ext_getElem?
    intro i
    by_cases hi : i < acc.size
    · have h3 := h2 i acc[i] (Array.getElem?_eq_getElem hi)
      have hi' : i < its.length := by simpa [h1] using hi
      rw [Array.getElem?_toList, Array.getElem?_eq_getElem hi, List.getElem?_reverse hi']
      simpa using h3.symm
    · rw [List.getElem?_eq_none (by simpa using Nat.le_of_not_lt hi), List.getElem?_eq_none (by simp [h1] at hi; simpa using hi)]
  rw [← e]
theorem vals_rev : ∀ {xs : List V} {us : List Value}, Vals xs us → Vals xs.reverse us.reverse
  | [], _, .nil => .nil
  | x :: xs, u :: us, .cons r t => by
    rw [List.reverse_cons, List.reverse_cons]
    exact (vals_rev t).append (.cons r .nil)
end
def tListRev (K : PySem.W.Frag) (te : TE) : TE := fun σ H Q => te σ H fun x H1 => ∃ p ys, x = .ref p ∧ SqL K H1 p ys ∧ ∀ l, H1 l = none → Q (.ref l) (upd H1 l (.lst ys.reverse))
section
variable {X : Cx} {e : Expr} {te : TE} {p1 p2 pos1 pos2 : Pos}
theorem pe_listRev (hm1 : X.mg "list" = none) (hm2 : X.mg "reversed" = none) (hd : X.A.handled = none) (he : PE X e te) (hg1 : Gl X "list" := by rfl) (hg2 : Gl X "reversed" := by rfl)
    (hs2 : starEach [e] X.env = (false, eval e X.env) :: starEach [] X.env := by exact star_plain rfl) (hs1 : starEach [.Call (.Name "reversed" p2) [e] [] pos2] X.env = (false, eval (.Call (.Name "reversed" p2) [e] [] pos2) X.env) :: starEach [] X.env := by rfl) :
    PE X (.Call (.Name "list" p1) [.Call (.Name "reversed" p2) [e] [] pos2] [] pos1) (tListRev X.K te) := by
  intro pins s σ H Q I h
  refine wpAny_Call_Name_kw (ld_blt I hg1 hm1 PyProof.Rows.boot_list ?_)
  refine PyProof.Rows.callWith_type1 ?_ hs1
  rw [hs1]
  show wpAny _ _ (spliced ((false, eval (.Call (.Name "reversed" p2) [e] [] pos2) X.env) :: backTo pos1 (starEach [] X.env))) _ _ s
  refine Calls.spliced_cons ?_
  refine wpAny_Call_Name_kw (ld_blt I hg2 hm2 PyProof.Rows.boot_reversed ?_)
  refine PyProof.Rows.callWith_type1 ?_ hs2
  rw [hs2]
  show wpAny _ _ (spliced ((false, eval e X.env) :: backTo pos2 (starEach [] X.env))) _ _ s
  refine Calls.spliced_cons (thn (he pins s σ H _ I h) fun u s1 ⟨x, H1, I1, r1, q1⟩ => ?_)
  obtain ⟨p, ys, rfl, hq, fin⟩ := q1
  cases r1
  refine Calls.spliced_nil ?_
  obtain ⟨its, r, pl, hz⟩ := I1.list hq
  have hl := pl.isList
  obtain ⟨ol, hol, _⟩ := id hl
  refine call_reversed_list hl ?_
  have hit : ((s1.heap.push (revObj p ((its.toArray.size : Int) - 1))).IsRevIter s1.heap.objs.size p ((its.toArray.size : Int) - 1)) := ⟨_, Heap.get?_push_size _ rfl, rfl, rfl⟩
  refine Calls.spliced_nil ?_
  have hlen := r.length
  refine call_list_rev hd hit (hl.at fun o e => Heap.get?_push_of_some _ e) (by rw [List.size_toArray]; omega) (Nat.ne_of_lt (Heap.lt_size hol)) fun h' tk acc' c' hk hS' hacc => ?_
  have hacc' := items_rev hacc
  subst hacc'
  have keep : ∀ b o, s1.heap.get? b = some o → h'.get? b = some o := fun b o e => hk b o (Nat.ne_of_lt (Heap.lt_size e)) (Heap.get?_push_of_some _ e)
  have hsz : (s1.heap.push (revObj p ((its.toArray.size : Int) - 1))).objs.size = s1.heap.objs.size + 1 := size_push' ..
  rw [hsz] at hS' ⊢
  have le : s1.heap.objs.size ≤ s1.heap.objs.size + 1 := Nat.le_succ _
  exact ⟨.ref (s1.heap.objs.size + 1), _, I1.laid (t' := tk) keep le (show ObjOk X.prog X.w _ h' _ (.lst ys.reverse) from ⟨by rw [List.length_reverse]; exact hz, its.reverse, c', vals_rev r, hS'⟩), rfl, fin _ (I1.hok.fresh le)⟩
def revK (R : S → Prop) (s : S) : Prop := match items s with
  | some ts => purs ts = true ∧ R (.ol ts.reverse)
  | none => False
def wListRev (we : WE) : WE := fun δ R => we δ (revK R)
theorem de_listRev {we : WE} (hm1 : X.mg "list" = none) (hm2 : X.mg "reversed" = none) (hd : X.A.handled = none) (he : PE X e (liftE X.K we)) (hg1 : Gl X "list" := by rfl) (hg2 : Gl X "reversed" := by rfl)
    (hs2 : starEach [e] X.env = (false, eval e X.env) :: starEach [] X.env := by exact star_plain rfl) (hs1 : starEach [.Call (.Name "reversed" p2) [e] [] pos2] X.env = (false, eval (.Call (.Name "reversed" p2) [e] [] pos2) X.env) :: starEach [] X.env := by rfl) :
    PE X (.Call (.Name "list" p1) [.Call (.Name "reversed" p2) [e] [] pos2] [] pos1) (liftE X.K (wListRev we)) :=
  (pe_listRev hm1 hm2 hd he hg1 hg2 hs2 hs1).imp fun σ H Q ⟨δ, R, F, rl, h, k⟩ => ⟨δ, _, F, rl, h, fun v F1 H1 s ex p q => by
    unfold revK at q
    split at q
    · rename_i ts hi
      obtain ⟨a, xs, rfl, sq, tp⟩ := (p.val ex.sub).list ex.sub hi
      refine ⟨a, xs, rfl, sq, fun l hl => ?_⟩
      have e2 := Ext.newL xs.reverse ex.sub ex.full hl
      exact k _ F1 _ (.ol ts.reverse) (ex.trans e2) ⟨l, xs.reverse, rfl, none_of_same ex.hh hl, none_of_same ex.sub hl, upd_same, (TReps.full ex.full q.1 tp).reverse⟩ q.2
    · exact q.elim⟩
end
theorem a_listRev (we : WE) (δ : DSt) (R : S → Prop) : wListRev we δ R = we δ (revK R) := rfl
theorem revK_F (R : S → Prop) (ts : List T) : revK R (.t (.lst ts)) = (purs ts = true ∧ R (.ol ts.reverse)) := rfl
theorem revK_V (R : S → Prop) (ts : List T) : revK R (.vt (.lst ts)) = (purs ts = true ∧ R (.ol ts.reverse)) := rfl
theorem revK_O (R : S → Prop) (ts : List T) : revK R (.ol ts) = (purs ts = true ∧ R (.ol ts.reverse)) := rfl

/-! ### sorted(set(xs)), xs a list of tuples of whole numbers -/
def refs (km : List (Addr × List Int)) : List V := km.map fun m => V.ref m.1
def tSortSet (K : PySem.W.Frag) (te : TE) : TE := fun σ H Q => te σ H fun x H1 => ∃ p d, ∃ km : List (Addr × List Int), x = .ref p ∧ SqL K H1 p (refs km) ∧ km.length ≤ 63 ∧ 0 < d ∧
  (∀ m ∈ km, SqT K H1 m.1 (m.2.map V.int) ∧ m.2.length = d) ∧
  ∀ ns : List (Addr × List Int), (∀ m ∈ ns, m ∈ km) → (∀ m ∈ km, m.2 ∈ ns.map (·.2)) → ns.Pairwise (fun a b => ST.lexB a.2 b.2 = true) → ∀ l, H1 l = none → Q (.ref l) (upd H1 l (.lst (refs ns)))
theorem refs_vals : ∀ {km : List (Addr × List Int)} {us : List Value}, Vals (refs km) us → us = km.map fun m => Value.ref m.1
  | [], _, .nil => rfl
  | m :: km, _, .cons r t => by cases r; rw [refs_vals t]; rfl
theorem km_vals : ∀ km : List (Addr × List Int), Vals (refs km) (km.map fun m => Value.ref m.1)
  | [] => .nil
  | m :: km => .cons rfl (km_vals km)
section
variable {X : Cx} {e : Expr} {te : TE} {p1 p2 pos1 pos2 : Pos}
theorem items_ints {prog : Program} {w : World} : ∀ {ks : List Int} {us : List Value}, Vals (ks.map V.int) us → ItemsAre (intKind prog w) ks us
  | [], _, .nil => .nil
  | k :: ks, _, .cons r t => by obtain ⟨tk, rfl⟩ := r; exact .cons (intKind_is _ _ _ _) (items_ints t)
theorem tup_key {pins : List (Addr × Obj)} {σ : L2.St} {H : Hp} {s : Shared} (I : Inv X pins σ H s) {a : Addr} {ks : List Int} (h : SqT X.K H a (ks.map V.int)) : IsTupleKey (ST.ik X.prog X.w) s.heap ks a := by
  obtain ⟨its, r, ⟨o, ho, hc, n, hd⟩, _⟩ := I.tuple h
  exact ⟨o, its.toArray, n, ho, hc, hd, by simpa using items_ints r⟩
theorem pe_sortSet {k : Nat} (hr : Room k X.A) (hm1 : X.mg "sorted" = none) (hm2 : X.mg "set" = none) (hd : X.A.handled = none) (he : PE X e te) (hg1 : Gl X "sorted" := by rfl) (hg2 : Gl X "set" := by rfl)
    (hs2 : starEach [e] X.env = (false, eval e X.env) :: starEach [] X.env := by exact star_plain rfl) (hs1 : starEach [.Call (.Name "set" p2) [e] [] pos2] X.env = (false, eval (.Call (.Name "set" p2) [e] [] pos2) X.env) :: starEach [] X.env := by rfl) :
    PE X (.Call (.Name "sorted" p1) [.Call (.Name "set" p2) [e] [] pos2] [] pos1) (tSortSet X.K te) := by
  intro pins s σ H Q I h
  refine wpAny_Call_Name_kw (ld_blt I hg1 hm1 PyProof.Rows.boot_sorted ?_)
  refine PyProof.Rows.callWith_builtin1 ?_ hs1
  rw [hs1]
  show wpAny _ _ (spliced ((false, eval (.Call (.Name "set" p2) [e] [] pos2) X.env) :: backTo pos1 (starEach [] X.env))) _ _ s
  refine Calls.spliced_cons ?_
  refine wpAny_Call_Name_kw (ld_blt I hg2 hm2 PyProof.Rows.boot_set ?_)
  refine PyProof.Rows.callWith_type1 ?_ hs2
  rw [hs2]
  show wpAny _ _ (spliced ((false, eval e X.env) :: backTo pos2 (starEach [] X.env))) _ _ s
  refine Calls.spliced_cons (thn (he pins s σ H _ I h) fun u s1 ⟨x, H1, I1, r1, q1⟩ => ?_)
  obtain ⟨p, d, km, rfl, hq, hlen, hd0, hkm, fin⟩ := q1
  cases r1
  refine Calls.spliced_nil ?_
  obtain ⟨its, r, pl, hz⟩ := I1.list hq
  have eits := refs_vals r
  subst eits
  have hsz : ((km.map fun m => Value.ref m.1).toArray).size = km.length := by simp
  refine ST.call_set_tup (km := fun i => km.getD i (0, [])) hd (by have := hr.units; omega) pl.isList (fun i v hv => ?_) (fun i hi => ?_) (by rw [hsz]; omega) fun h2 tk2 hS k2 => ?_
  · rw [List.getElem?_toArray, List.getElem?_map] at hv
    cases hk : km[i]? with
    | none => rw [hk] at hv; simp at hv
    | some m =>
      rw [hk] at hv
      simp only [List.getD_eq_getElem?_getD, hk, Option.getD_some]
      simpa using hv.symm
  · rw [hsz] at hi
    have e1 : km.getD i (0, []) = km[i] := by simp [hi]
    rw [e1]
    exact tup_key I1 (hkm _ (List.getElem_mem hi)).1
  refine Calls.spliced_nil ?_
  rw [hsz] at hS
  have hmet : ∀ m ∈ ST.met (fun i => km.getD i (0, [])) km.length, m ∈ km := fun m hm => by
    obtain ⟨i, hi, rfl⟩ := ST.met_of _ _ m hm
    have e1 : km.getD i (0, []) = km[i] := by simp [hi]
    rw [e1]; exact List.getElem_mem hi
  refine ST.call_sorted_set (s := { s1 with heap := h2, toks := tk2 }) hd hS (Nat.lt_of_le_of_lt (ST.met_len _ _) (by omega)) hd0 (fun m hm => (hkm m (hmet m hm)).2) fun h3 tk3 D c3 ns hpm hpw k3 le3 hD => ?_
  have keep : ∀ b o, s1.heap.get? b = some o → h3.get? b = some o := fun b o e => k3 b o (k2 b o (Heap.lt_size e) e)
  have le : s1.heap.objs.size ≤ D := by
    obtain ⟨o2, _, _, _, _, ho2, _⟩ := hS
    exact Nat.le_trans (Nat.le_of_lt (Heap.lt_size ho2)) le3
  have hnl : ns.length ≤ 63 := by rw [hpm.length_eq]; exact Nat.le_trans (ST.met_len _ _) hlen
  refine ⟨.ref D, _, I1.laid (t' := tk3) keep le (show ObjOk X.prog X.w _ h3 _ (.lst (refs ns)) from ⟨?_, _, c3, km_vals ns, hD⟩), rfl, fin ns (fun m hm => hmet m (hpm.mem_iff.mp hm)) (fun m hm => ?_) hpw _ (I1.hok.fresh le)⟩
  · unfold refs; rw [List.length_map]; exact Nat.le_trans hnl (by decide)
  · obtain ⟨i, hi, rfl⟩ := List.getElem_of_mem hm
    have h1 := ST.met_has (fun i => km.getD i (0, [])) km.length i hi
    have e1 : km.getD i (0, []) = km[i] := by simp [hi]
    rw [e1] at h1
    exact (hpm.map (·.2)).mem_iff.mpr h1
end
def tupI (ks : List Int) : T := .tup (ks.map T.int)
def ssK (R : S → Prop) (s : S) : Prop := match items s with
  | some ts => ∃ (d : Nat) (kss : List (List Int)), 0 < d ∧ ts = kss.map tupI ∧ (∀ ks ∈ kss, ks.length = d) ∧ kss.length ≤ 63 ∧
      ∀ ns : List (List Int), (∀ k ∈ ns, k ∈ kss) → (∀ k ∈ kss, k ∈ ns) → ns.Pairwise (fun a b => ST.lexB a b = true) → R (.ol (ns.map tupI))
  | none => False
def wSortSet (we : WE) : WE := fun δ R => we δ (ssK R)
theorem purs_ints : ∀ ks : List Int, purs (ks.map T.int) = true
  | [] => rfl
  | k :: ks => by simp only [List.map_cons, purs, pur, Bool.true_and]; exact purs_ints ks
theorem purs_tups : ∀ kss : List (List Int), purs (kss.map tupI) = true
  | [] => rfl
  | k :: kss => by
    simp only [List.map_cons, purs, Bool.and_eq_true]
    exact ⟨by unfold tupI; simp only [pur]; exact purs_ints k, purs_tups kss⟩
theorem treps_intsV {K : PySem.W.Frag} {H : Hp} : ∀ {ks : List Int} {xs : List V}, TReps K H (ks.map T.int) xs → xs = ks.map V.int
  | [], _, h => h
  | k :: ks, _, ⟨x, r, e, p, q⟩ => by subst e; cases p; rw [treps_intsV q]; rfl
theorem treps_km {K : PySem.W.Frag} {H : Hp} : ∀ {kss : List (List Int)} {xs : List V}, TReps K H (kss.map tupI) xs →
    ∃ km : List (Addr × List Int), km.map (·.2) = kss ∧ xs = refs km ∧ ∀ m ∈ km, SqT K H m.1 (m.2.map V.int) ∧ TRep K H (tupI m.2) (.ref m.1)
  | [], _, h => ⟨[], rfl, h, fun m hm => absurd hm List.not_mem_nil⟩
  | k :: kss, _, ⟨x, r, e, p, q⟩ => by
    subst e
    obtain ⟨km, e1, e2, h1⟩ := treps_km q
    obtain ⟨a, ys, e3, sq, ty⟩ := id p
    subst e3
    have e4 := treps_intsV ty
    subst e4
    refine ⟨(a, k) :: km, by rw [List.map_cons, e1], by rw [e2]; rfl, fun m hm => ?_⟩
    rcases List.mem_cons.mp hm with rfl | hm
    · exact ⟨sq, p⟩
    · exact h1 m hm
theorem km_treps {K : PySem.W.Frag} {H : Hp} : ∀ ns : List (Addr × List Int), (∀ m ∈ ns, TRep K H (tupI m.2) (.ref m.1)) → TReps K H ((ns.map (·.2)).map tupI) (refs ns)
  | [], _ => rfl
  | m :: ns, h => ⟨.ref m.1, refs ns, rfl, h m List.mem_cons_self, km_treps ns fun m' hm => h m' (List.mem_cons_of_mem _ hm)⟩
section
variable {X : Cx} {e : Expr} {p1 p2 pos1 pos2 : Pos}
theorem de_sortSet {k : Nat} {we : WE} (hr : Room k X.A) (hm1 : X.mg "sorted" = none) (hm2 : X.mg "set" = none) (hd : X.A.handled = none) (he : PE X e (liftE X.K we)) (hg1 : Gl X "sorted" := by rfl) (hg2 : Gl X "set" := by rfl)
    (hs2 : starEach [e] X.env = (false, eval e X.env) :: starEach [] X.env := by exact star_plain rfl) (hs1 : starEach [.Call (.Name "set" p2) [e] [] pos2] X.env = (false, eval (.Call (.Name "set" p2) [e] [] pos2) X.env) :: starEach [] X.env := by rfl) :
    PE X (.Call (.Name "sorted" p1) [.Call (.Name "set" p2) [e] [] pos2] [] pos1) (liftE X.K (wSortSet we)) :=
  (pe_sortSet hr hm1 hm2 hd he hg1 hg2 hs2 hs1).imp fun σ H Q ⟨δ, R, F, rl, h, k⟩ => ⟨δ, _, F, rl, h, fun v F1 H1 s ex p q => by
    unfold ssK at q
    split at q
    · rename_i ts hi
      obtain ⟨a, xs, rfl, sq, tp⟩ := (p.val ex.sub).list ex.sub hi
      obtain ⟨d, kss, hd0, rfl, hlen, h63, fin⟩ := q
      obtain ⟨km, e1, e2, h1⟩ := treps_km tp
      subst e2
      have hkm : ∀ m ∈ km, m.2 ∈ kss := fun m hm => by rw [← e1]; exact List.mem_map.mpr ⟨m, hm, rfl⟩
      refine ⟨a, d, km, rfl, sq, by rw [← e1, List.length_map] at h63; exact h63, hd0, fun m hm => ⟨(h1 m hm).1, hlen _ (hkm m hm)⟩, fun ns n1 n2 n3 l hl => ?_⟩
      have e2 := Ext.newL (refs ns) ex.sub ex.full hl
      have hp : TReps X.K F1 ((ns.map (·.2)).map tupI) (refs ns) := TReps.full ex.full (purs_tups _) (km_treps ns fun m hm => (h1 m (n1 m hm)).2)
      exact k _ F1 _ (.ol ((ns.map (·.2)).map tupI)) (ex.trans e2) ⟨l, refs ns, rfl, none_of_same ex.hh hl, none_of_same ex.sub hl, upd_same, hp⟩
        (fin _ (fun k hk => by obtain ⟨m, hm, rfl⟩ := List.mem_map.mp hk; exact hkm m (n1 m hm)) (fun k hk => by
          rw [← e1] at hk
          obtain ⟨m, hm, rfl⟩ := List.mem_map.mp hk
          exact n2 m hm) (List.pairwise_map.mpr n3))
    · exact q.elim⟩
end
theorem a_sortSet (we : WE) (δ : DSt) (R : S → Prop) : wSortSet we δ R = we δ (ssK R) := rfl
end DL

set_option Elab.async false
set_option linter.all false
set_option maxRecDepth 100000
set_option maxHeartbeats 4000000
/-! x.extend(e), e a new list -/
namespace DL
open PySem PySem.Spec L2 PyProof.Rows
def extK (i : Nat) (δ : DSt) (N : DSt → Prop) (ts : List T) : S → Prop
  | .ol us => ts.length + us.length < 100000 ∧ N (δ.set i (some (.ol (ts ++ us))))
  | _ => False
def wExtend (i : Nat) (we : WE) : WS := fun D δ => match δ[i]? with
  | some (some (.ol ts)) => we δ (extK i δ D.nx ts)
  | _ => False
theorem a_extend {i : Nat} {we : WE} {D : DEnds} {δ : DSt} : wExtend i we D δ = lookO i δ fun ts => we δ (extK i δ D.nx ts) := rfl
theorem extK_o {i : Nat} {δ : DSt} (N : DSt → Prop) (ts us : List T) : extK i δ N ts (.ol us) = (ts.length + us.length < 100000 ∧ N (δ.set i (some (.ol (ts ++ us))))) := rfl
section
variable {X : Cx} {e : Expr} {we : WE} {pos : Pos} {H₀ : Hp} {i : Nat} {x : Str} {p1 p2 : Pos}
theorem ds_extend (he : PE X e (liftE X.K we)) (hv : PE X (.Name x p1) (tVar i) := by exact pv _) (hbase : attributeBase (.Name x p1) "extend" X.env (eval (.Name x p1) X.env) = eval (.Name x p1) X.env := by rfl)
    (hfew : ((backTo pos (starEach [e] X.env)).all (fun x => !x.1) && (backToKw pos (keywordEach [] X.env)).all (fun x => x.1.isSome) && decide ([e].length + ([] : List Keyword).length + (if ([] : List Keyword).isEmpty then 0 else 1) < 30)) = true := by rfl)
    (hline : (p2.endLine == pos.line) = true := by rfl) (hs : starEach [e] X.env = (false, eval e X.env) :: starEach [] X.env := by rfl) (hplain : (backTo pos (starEach [] X.env)).any (·.1) = false := by rfl) {pos' : Pos}
    (hsw : swapsWith (.Call (.Attribute (.Name x p1) "extend" p2) [e] [] pos) none pos'.line X.env = pure false := by rfl) :
    PS X (.Expr (.Call (.Attribute (.Name x p1) "extend" p2) [e] [] pos) pos') (liftS X.K H₀ (wExtend i we)) :=
  (ps_expr (pe_bm PySem.F.plainAttrs_list PySem.F.slot_list_extend PySem.F.type_list_extend mt_extend hv (pa_cons he pa_nil hs) hbase hfew hline hs hplain) hsw).imp fun D σ H ⟨δ, D', F, s0, rl, h, ok⟩ => by
    unfold wExtend at h
    split at h
    · rename_i ts hi
      obtain ⟨v, ha, a, xs, rfl, hF, hH, hr⟩ := rl.slot i _ hi
      refine ⟨_, ha, .inl ⟨rfl, xs, SqL.of hH⟩, δ, _, F, rl, h, fun v F1 H1 s e p q => ?_⟩
      cases s with
      | ol us =>
        obtain ⟨hl, q⟩ := q
        obtain ⟨b, zs, rfl, _, hFb, hHb, hr2⟩ := p
        have h1 := e.hh _ _ hH
        refine ⟨a, b, xs, zs, rfl, rfl, h1, hHb, by rw [hr.length, hr2.length]; exact Nat.le_of_lt (lt_line hl), ?_⟩
        exact ok.nx σ F1 _ _ e.ff ((rl.ext e).mutate hi ha (e.keep a (by rw [hH]; simp) hF) ⟨xs, h1⟩ ((TReps.same e.ff hr).append hr2)) q
      | _ => exact q.elim
    · exact h.elim
end
end DL
namespace DL
open PySem PySem.Spec L2 PyProof.Rows
section
variable {X : Cx} {H₀ : Hp} {Ex : Addr → L2.St → Hp → Prop} {st : Stmt} {a b : WX} {pos : Pos}
def wxOr (a b : WX) : WX := fun EX D δ => a EX D δ ∨ b EX D δ
theorem dx_or (h1 : PS X st (liftSX X.K H₀ a Ex)) (h2 : PS X st (liftSX X.K H₀ b Ex)) : PS X st (liftSX X.K H₀ (wxOr a b) Ex) := by
  rintro pins s σ H D I ⟨δ, D', F, EX, s0, rl, h, ok, xo⟩
  rcases h with h | h
  · exact h1 pins s σ H D I ⟨δ, D', F, EX, s0, rl, h, ok, xo⟩
  · exact h2 pins s σ H D I ⟨δ, D', F, EX, s0, rl, h, ok, xo⟩
theorem dx_set {k : Nat} {f : Str} {spx : XSpec} {p : Pos} {e : Expr} {es : List Expr} {wa : WA} {i : Nat} {y : Str} {p3 pos' : Pos} (hN : X.N.Nodup) (C : CalleeX X.prog X.w X.K X.mg X.base k f spx) (hr : Room k X.A) (hx : Passes1 X Ex) (ha : PA X (e :: es) (liftA X.K wa))
    (hi : X.N[i]? = some y := by rfl) (hy : Loc X.env.scope y := by first | exact Or.inl rfl | exact Or.inr rfl) (hf : X.fn y = true ∨ X.env.scope.names.lookup y = some .local := by first | exact .inl rfl | exact .inr rfl | assumption)
    (hg : Gl X f := by rfl) (hdb : (f == ("__debug__" : Str)) = false := by decide) (he : starEach (e :: es) X.env = (false, eval e X.env) :: starEach es X.env := by rfl) (hpl : (backTo pos (starEach es X.env)).any (·.1) = false := by rfl)
    (hs : swapsWith (.Call (.Name f p) (e :: es) [] pos) (some (.Name y p3)) pos'.line X.env = pure false := by rfl) :
    PS X (.Assign [.Name y p3] (.Call (.Name f p) (e :: es) [] pos) pos') (liftSX X.K H₀ (wxCall spx wa) Ex) :=
  (ps_set hN hi hy (pe_calleeX C hr hx ha hg hdb he hpl) hs hf).imp fun D σ H ⟨δ, D', F, EX, s0, rl, h, ok, xo⟩ => lift_callX rl h xo
end
end DL

set_option Elab.async false
set_option linter.all false
set_option maxRecDepth 100000
/-! the walks -/
open L2 DL
local macro_rules | `(tactic| walk_at "dl") => do { let ids : Array (Lean.TSyntax `ident) := ("a_extend extK_o a_listRev revK_F revK_V revK_O a_sortSet look_0 look_s lookO_0 lookO_s a_seq a_set a_if a_ret a_retV a_retN a_next a_break a_cont a_drop a_var a_c a_op2 a_un a_I a_I0 a_neg a_ixT a_ixF a_ixV a_ixO atT_0 atT_1 atT_2 atT_3 e_setT e_setO e_setV e_seenT e_seenV e_seenO e_outT e_outV e_outO e_argT e_argV e_argO e_gotT e_gotO e_frzT e_frzO e_frz e_frzN e_frzS a_B asB_bl a_andT a_orT a_notT a_andV a_orV a_notV andK_bl orK_bl notK_bl a_ifE a_cb a_nil a_cons a_tup a_lst tup1 tup2 tup3 lst0 lst1 lst2 lst3 lst4 a_call a_lenT a_lenF a_lenV a_lenO a_abs a_max2 a_min2 a_intI a_intB a_listF a_listV a_listO eq_ii ne_ii a_is ty_non ty_bl ty_int ty_tup ty_fl ty_vw ty_ol isTy_non_non isTy_non_bool isTy_non_int isTy_non_str isTy_non_tup isTy_non_lst isTy_bool_non isTy_bool_bool isTy_bool_int isTy_bool_str isTy_bool_tup isTy_bool_lst isTy_int_non isTy_int_bool isTy_int_int isTy_int_str isTy_int_tup isTy_int_lst isTy_str_non isTy_str_bool isTy_str_int isTy_str_str isTy_str_tup isTy_str_lst isTy_tup_non isTy_tup_bool isTy_tup_int isTy_tup_str isTy_tup_tup isTy_tup_lst isTy_lst_non isTy_lst_bool isTy_lst_int isTy_lst_str isTy_lst_tup isTy_lst_lst a_for a_wiList listK_F listK_V listK_O a_wiTup tpK_T a_wiRng1 rngK_1 a_wiRng2 rngK_2 a_gName a_gTup a_gNil a_gCons a_unp unpK_t a_par parK_2 a_slice slcK_F slcK_V slcK_O a_part0 a_part prtK_i a_append appK_t a_pop a_popTo a_clear a_setIx List.set_cons_zero List.set_cons_succ List.map_cons List.map_nil if_true if_false true_and and_true Bool.not_true Bool.not_false Bool.not_eq_true decide_eq_true_eq decide_eq_false_iff_not Bool.not_not Bool.false_eq_true Bool.true_eq_false ite_true ite_false Int.reducePow Int.reduceToNat Int.reduceNeg Int.reduceMul Int.reduceAdd Int.reduceSub List.length_cons List.length_nil Nat.zero_add Nat.reduceAdd ite_not atV_0 atV_1 atV_2 atV_3 norm_non norm_bl norm_int norm_str norm_exc norm_lst norm_pt norm_pt3 norm_sp e_trT e_trV e_trO a_ixW a_lenW tup4 ty_str ty_tupV a_isN a_notN isN ne_ty1 ne_ty2 ne_ty3 ne_ty4 ne_ty5 ne_ty6 tpK_V unpK_v a_retZ a_cat catK_F catK_V catK_O a_comp a_yes itemK_t itemK_o pur_non pur_bl pur_int pur_str pur_tup pur_lst purs_nil purs_cons Bool.and_true Bool.true_and Bool.and_self a_count a_cntO purs_pt eq_pt_tt ne_pt_tt eq_pt_tv ne_pt_tv eq_pt_to ne_pt_to eq_pt_vt ne_pt_vt eq_pt_vv ne_pt_vv eq_pt_vo ne_pt_vo eq_pt_ot ne_pt_ot eq_pt_ov ne_pt_ov eq_pt_oo ne_pt_oo eq_pt_t0 ne_pt_t0 eq_pt_v0 ne_pt_v0 eq_pt_o0 ne_pt_o0 purs_hf eq_hf_tt ne_hf_tt eq_hf_tv ne_hf_tv eq_hf_to ne_hf_to eq_hf_vt ne_hf_vt eq_hf_vv ne_hf_vv eq_hf_vo ne_hf_vo eq_hf_ot ne_hf_ot eq_hf_ov ne_hf_ov eq_hf_oo ne_hf_oo eq_hf_t0 ne_hf_t0 eq_hf_v0 ne_hf_v0 eq_hf_o0 ne_hf_o0 purs_sp eq_sp_tt ne_sp_tt eq_sp_tv ne_sp_tv eq_sp_to ne_sp_to eq_sp_vt ne_sp_vt eq_sp_vv ne_sp_vv eq_sp_vo ne_sp_vo eq_sp_ot ne_sp_ot eq_sp_ov ne_sp_ov eq_sp_oo ne_sp_oo eq_sp_t0 ne_sp_t0 eq_sp_v0 ne_sp_v0 eq_sp_o0 ne_sp_o0 purs_in eq_in_tt ne_in_tt eq_in_tv ne_in_tv eq_in_to ne_in_to eq_in_vt ne_in_vt eq_in_vv ne_in_vv eq_in_vo ne_in_vo eq_in_ot ne_in_ot eq_in_ov ne_in_ov eq_in_oo ne_in_oo eq_in_t0 ne_in_t0 eq_in_v0 ne_in_v0 eq_in_o0 ne_in_o0 hfT ptT frT spT eq_tt ne_tt eq_hh ne_hh blkD List.replicate_succ List.replicate_zero List.cons_append List.nil_append List.getElem?_cons_succ List.getElem?_cons_zero Option.join_some Option.join_none x_n x_if x_seq x_raise x_call x_try x_isO x_isOs x_isVal x_k a_gLst unpK_o a_sumF a_sumV a_sumO a_bestF a_bestV a_bestO a_compN a_compC a_wiZip zipK_2 a_wiEnum enumK_1 a_sortF a_sortV a_sortO a_sliceT slcT_T".splitOn " ").toArray.map (fun x => Lean.mkIdent x.toName); `(tactic| try simp (config := {implicitDefEqProofs := false}) only [$[$ids:ident],*]) }
local macro_rules | `(tactic| walk_at "sz") => `(tactic| first | assumption | with_reducible exact Sz.of (m := 250) (by omega) (by omega) | with_reducible exact Sz.mul (by walk_at "sz") (by walk_at "sz") | with_reducible exact Sz.add (by walk_at "sz") (by walk_at "sz") | with_reducible exact Sz.sub (by walk_at "sz") (by walk_at "sz") | with_reducible exact Sz.neg (by walk_at "sz"))
local macro_rules | `(tactic| walk_at "szk") => `(tactic| first | assumption | exact Sz.mono (by walk_at "sz") (by decide))
local macro_rules | `(tactic| walk_at "mul") => `(tactic| first | with_reducible exact mulL (by decide) (by decide) | with_reducible exact mulSz (by walk_at "sz") (by walk_at "sz") (by decide) (by decide) | with_reducible exact mulL (by omega) (by omega) | with_reducible exact mulR (by omega) (by omega))
local macro_rules | `(tactic| walk_at "side") => `(tactic| first | decide | with_reducible exact powOk (by decide) (by decide) (by decide) | with_reducible exact divOk (by decide) (by decide +kernel) | walk_at "mul" | omega | assumption)
local macro_rules | `(tactic| walk_at "pre") => `(tactic| repeat ((with_reducible apply And.intro); (case left => walk_at "side")))
local macro_rules | `(tactic| walk_at "go") => `(tactic| (walk_at "dl"; walk_at "pre"))

set_option Elab.async false
set_option linter.all false
set_option maxRecDepth 100000
namespace Law
open L2 DL

def sp_divisor : DSpec := fun ss R => ∃ a b : Int, ss = [.t (.int a), .t (.int b)] ∧ R (.t (.int (Int.gcd a b)))
theorem len_divisor : ∀ ss R, sp_divisor ss R → ss.length = 2 := by rintro ss R ⟨a, b, rfl, _⟩; rfl
theorem len_law : ∀ ss R, spLaw ss R → ss.length = 1 := by rintro ss R ⟨a, rfl, _⟩; rfl
/-- divisor(one, other): 0 one, 1 other, 2 greater, 3 lesser, 4 rest -/
def w_divisor : WS :=
 (wSeq (wSet 2 (wCB fAbs (wCons (wVar 0) wNil)))
 (wSeq (wSet 3 (wCB fAbs (wCons (wVar 1) wNil)))
 (wSeqM (wWhile (wB (wNe (wVar 3) (wC (.int 0)))) (wSeq (wSet 4 (wMod (wVar 2) (wVar 3)))
 (wSeq (wSet 2 (wVar 3))
 (wSet 3 (wVar 4)))))
 (wRetV 2))))
theorem gcd_step (g l : Nat) : Nat.gcd l (g % l) = Nat.gcd g l := by
  rw [Nat.gcd_comm l (g % l), ← Nat.gcd_rec, Nat.gcd_comm]
theorem ok_divisor : ∀ ss R, sp_divisor ss R → w_divisor { nx := fun _ => R (.t .non), rt := R } (startD ["one", "other", "greater", "lesser", "rest"] ss) := by
  rintro ss R ⟨a, b, rfl, h⟩
  show w_divisor _ [some (.t (.int a)), some (.t (.int b)), none, none, none]
  unfold w_divisor
  walk_at "dl"
  rw [abs_eq, abs_eq]
  refine ⟨fun δ => ∃ r, δ = [some (.t (.int a)), some (.t (.int b)), some (.t (.int (Int.gcd a b))), some (.t (.int 0)), r], ?_, fun δ ⟨r, e⟩ => by subst e; walk_at "dl"; exact h⟩
  refine ⟨fun n δ => ∃ (g l : Nat) (r : Option S), δ = [some (.t (.int a)), some (.t (.int b)), some (.t (.int g)), some (.t (.int l)), r] ∧ l = n ∧ Nat.gcd g l = Int.gcd a b, ⟨_, _, _, none, rfl, rfl, rfl⟩, ?_⟩
  rintro n δ ⟨g, l, r, rfl, rfl, hg⟩
  walk_at "dl"
  cases l with
  | zero => rw [if_neg (by simp)]; exact ⟨r, by rw [← hg]; simp⟩
  | succ l =>
    rw [if_pos (by simp; omega)]
    refine ⟨by omega, ?_⟩
    rw [fmod_nat]
    exact ⟨_, Nat.mod_lt g (by omega), _, _, _, rfl, rfl, by rw [gcd_step]; exact hg⟩
end Law

set_option Elab.async false
set_option linter.all false
set_option maxRecDepth 100000
namespace Law
open L2 DL
/-! the program's numbers and halves: what each def gives back where it refuses nothing -/
/-- a x + b y - c at a spot, times its bottoms -/
def exV (h : Hf) (s : Spo) : Int := h.1 * s.1.1 * s.2.2 + h.2.1 * s.2.1 * s.1.2 - h.2.2 * (s.1.2 * s.2.2)
def sgn (i : Int) : Int := if i > 0 then 1 else if i < 0 then -1 else 0
def sp_bottoms : DSpec := fun ss R => ∃ s : Spo, ss = [.t (spT s)] ∧ SzS 60000 s ∧ R (.t (.int (s.1.2 * s.2.2)))
def sp_excess : DSpec := fun ss R => ∃ (h : Hf) (s : Spo), ss = [.t (hfT h), .t (spT s)] ∧ SzH 300000 h ∧ SzS 60000 s ∧ R (.t (.int (exV h s)))
def sp_sign : DSpec := fun ss R => ∃ i : Int, ss = [.t (.int i)] ∧ R (.t (.int (sgn i)))
def sp_side : DSpec := fun ss R => ∃ (h : Hf) (s : Spo), ss = [.t (hfT h), .t (spT s)] ∧ SzH 300000 h ∧ SzS 60000 s ∧ R (.t (.int (sgn (exV h s))))
/-- bottoms(spot): 0 spot -/
def w_bottoms : WS :=
 (wRet (wMul (wOp2 fIx (wOp2 fIx (wVar 0) (wC (.int 0))) (wC (.int 1))) (wOp2 fIx (wOp2 fIx (wVar 0) (wC (.int 1))) (wC (.int 1)))))
/-- excess(half, spot): 0 half, 1 spot, 2 x, 3 y -/
def w_excess : WS :=
 (wSeq (wSet 2 (wOp2 fIx (wVar 1) (wC (.int 0))))
 (wSeq (wSet 3 (wOp2 fIx (wVar 1) (wC (.int 1))))
 (wRet (wSub (wAdd (wMul (wMul (wOp2 fIx (wVar 0) (wC (.int 0))) (wOp2 fIx (wVar 2) (wC (.int 0)))) (wOp2 fIx (wVar 3) (wC (.int 1)))) (wMul (wMul (wOp2 fIx (wVar 0) (wC (.int 1))) (wOp2 fIx (wVar 3) (wC (.int 0)))) (wOp2 fIx (wVar 2) (wC (.int 1))))) (wMul (wOp2 fIx (wVar 0) (wC (.int 2))) (wCall sp_bottoms (wCons (wVar 1) wNil)))))))
/-- sign(number): 0 number -/
def w_sign : WS :=
 (wSeq (wIf (wB (wGt (wVar 0) (wC (.int 0)))) (wRet (wC (.int 1))) wNext)
 (wSeq (wIf (wB (wLt (wVar 0) (wC (.int 0)))) (wRet (wUn fNeg (wC (.int 1)))) wNext)
 (wRet (wC (.int 0)))))
/-- side(half, spot): 0 half, 1 spot -/
def w_side : WS :=
 (wRet (wCall sp_sign (wCons (wCall sp_excess (wCons (wVar 0) (wCons (wVar 1) wNil))) wNil)))
theorem len_bottoms : ∀ ss R, sp_bottoms ss R → ss.length = 1 := by rintro ss R ⟨a, rfl, _⟩; rfl
theorem len_excess : ∀ ss R, sp_excess ss R → ss.length = 2 := by rintro ss R ⟨a, b, rfl, _⟩; rfl
theorem len_sign : ∀ ss R, sp_sign ss R → ss.length = 1 := by rintro ss R ⟨a, rfl, _⟩; rfl
theorem len_side : ∀ ss R, sp_side ss R → ss.length = 2 := by rintro ss R ⟨a, b, rfl, _⟩; rfl
theorem ok_bottoms : ∀ ss R, sp_bottoms ss R → w_bottoms { nx := fun _ => R (.t .non), rt := R } (startD ["spot"] ss) := by
  rintro ss R ⟨⟨⟨x, p⟩, y, q⟩, rfl, ⟨⟨z1, z2⟩, z3, z4⟩, h⟩
  dsimp only at z1 z2 z3 z4
  show w_bottoms _ [some (.t (.tup [.tup [.int x, .int p], .tup [.int y, .int q]]))]
  unfold w_bottoms
  walk_at "dl"
  exact ⟨mulSz z2 z4 (by decide) (by decide), h⟩
theorem ok_excess : ∀ ss R, sp_excess ss R → w_excess { nx := fun _ => R (.t .non), rt := R } (startD ["half", "spot", "x", "y"] ss) := by
  rintro ss R ⟨⟨a, b, c⟩, ⟨⟨x, p⟩, y, q⟩, rfl, ⟨y1, y2, y3⟩, ⟨⟨z1, z2⟩, z3, z4⟩, h⟩
  dsimp only at y1 y2 y3 z1 z2 z3 z4
  show w_excess _ [some (.t (.tup [.int a, .int b, .int c])), some (.t (.tup [.tup [.int x, .int p], .tup [.int y, .int q]])), none, none]
  unfold w_excess
  walk_at "dl"
  refine ⟨by walk_at "mul", by walk_at "mul", by walk_at "mul", by walk_at "mul", ⟨(x, p), (y, q)⟩, rfl, ⟨⟨z1, z2⟩, z3, z4⟩, ?_⟩
  walk_at "dl"
  exact ⟨by walk_at "mul", h⟩
theorem ok_sign : ∀ ss R, sp_sign ss R → w_sign { nx := fun _ => R (.t .non), rt := R } (startD ["number"] ss) := by
  rintro ss R ⟨i, rfl, h⟩
  show w_sign _ [some (.t (.int i))]
  unfold w_sign
  unfold sgn at h
  walk_at "dl"
  split
  · rename_i hi
    rw [if_pos hi] at h; exact h
  · rename_i hi
    rw [if_neg hi] at h
    split
    · rename_i hj
      rw [if_pos hj] at h; exact h
    · rename_i hj
      rw [if_neg hj] at h; exact h
theorem ok_side : ∀ ss R, sp_side ss R → w_side { nx := fun _ => R (.t .non), rt := R } (startD ["half", "spot"] ss) := by
  rintro ss R ⟨a, s, rfl, y, z, h⟩
  show w_side _ [some (.t (hfT a)), some (.t (spT s))]
  unfold w_side
  walk_at "dl"
  refine ⟨a, s, rfl, y, z, ?_⟩
  walk_at "dl"
  refine ⟨_, rfl, ?_⟩
  walk_at "dl"
  exact h
end Law

set_option Elab.async false
set_option linter.all false
set_option maxRecDepth 100000
namespace Law
open L2 DL
/-- a half holds a point -/
def hasP (h : Hf) (p : Pt) : Bool := decide (h.2.2 ≤ h.1 * p.1 + h.2.1 * p.2)
def manyV (h : Hf) (ps : List Pt) : Nat := ps.countP (hasP h)
def sp_many_in : DSpec := fun ss R => ∃ (h : Hf) (ps : List Pt), ss = [.t (hfT h), .t (.lst (ps.map ptT))] ∧ SzH 60000 h ∧ (∀ p ∈ ps, SzF 60000 p) ∧ ps.length < 10000 ∧ R (.t (.int (manyV h ps)))
/-- many_in(half, points): 0 half, 1 points -/
def w_many_in : WS :=
 (wRet (wCB fLen (wCons (wComp 1 [0] (wiList (wVar 1)) (wgName 0) (wB (wGe (wAdd (wMul (wOp2 fIx (wVar 1) (wC (.int 0))) (wOp2 fIx (wVar 0) (wC (.int 0)))) (wMul (wOp2 fIx (wVar 1) (wC (.int 1))) (wOp2 fIx (wVar 0) (wC (.int 1))))) (wOp2 fIx (wVar 1) (wC (.int 2))))) (wVar 0)) wNil)))
theorem len_many_in : ∀ ss R, sp_many_in ss R → ss.length = 2 := by rintro ss R ⟨a, b, rfl, _⟩; rfl
theorem ok_many_in : ∀ ss R, sp_many_in ss R → w_many_in { nx := fun _ => R (.t .non), rt := R } (startD ["half", "points"] ss) := by
  rintro ss R ⟨⟨a, b, c⟩, ps, rfl, ⟨y1, y2, y3⟩, hs, hl, h⟩
  dsimp only at y1 y2 y3
  show w_many_in _ [some (.t (.tup [.int a, .int b, .int c])), some (.t (.lst (ps.map ptT)))]
  unfold w_many_in
  walk_at "dl"
  refine comp_filter (f := ptT) (h := ptT) (p := hasP (a, b, c)) (fun δ => ∃ r, δ = [r, some (.t (.tup [.int a, .int b, .int c]))]) (fun p _ => pur_ptT p) (by omega) ⟨_, rfl⟩ ?_ ?_
  · rintro ⟨x, y⟩ hp δ ⟨r, rfl⟩ Y N h1 h2
    obtain ⟨z1, z2⟩ := hs _ hp
    dsimp only at z1 z2
    walk_at "go"
    split
    · rename_i hc
      exact h1 _ ⟨_, rfl⟩ (by simp [hasP]; exact hc)
    · rename_i hc
      exact h2 _ ⟨_, rfl⟩ (by simp [hasP]; omega)
  · walk_at "dl"
    rw [List.length_map, ← List.countP_eq_length_filter]
    exact h
end Law

set_option Elab.async false
set_option linter.all false
set_option maxRecDepth 100000
namespace Law
open L2 DL
/-- the divisor of three numbers -/
def gcd3 (a b c : Int) : Nat := Int.gcd (Int.gcd a b) c
theorem gcd_ne {a b : Int} (h : a ≠ 0 ∨ b ≠ 0) : (Int.gcd a b : Int) ≠ 0 := fun e => by
  have e' : Int.gcd a b = 0 := by omega
  rw [Int.gcd_eq_zero_iff] at e'
  omega
theorem gcd3_ne {a b c : Int} (h : a ≠ 0 ∨ b ≠ 0) : (gcd3 a b c : Int) ≠ 0 := gcd_ne (.inl (gcd_ne h))
/-- the half of three numbers, in lowest terms -/
def hfV (a b c : Int) : Hf := (a.fdiv (gcd3 a b c), b.fdiv (gcd3 a b c), c.fdiv (gcd3 a b c))
def btV (p q : Pt) : Hf := hfV (p.2 - q.2) (q.1 - p.1) ((p.2 - q.2) * p.1 + (q.1 - p.1) * p.2)
def sp_half : DSpec := fun ss R => ∃ a b c : Int, ss = [.t (.int a), .t (.int b), .t (.int c)] ∧ (a ≠ 0 ∨ b ≠ 0) ∧ SzH 9000 (a, b, c) ∧ R (.t (hfT (hfV a b c)))
def sp_between : DSpec := fun ss R => ∃ p q : Pt, ss = [.t (ptT p), .t (ptT q)] ∧ p ≠ q ∧ SzF 4000 p ∧ SzF 4000 q ∧ R (.t (hfT (btV p q)))
def sp_below : DSpec := fun ss R => ∃ p q : Int × Int, ss = [.t (frT p), .t (frT q)] ∧ SzF 60000 p ∧ SzF 60000 q ∧ R (.t (.bl (decide (p.1 * q.2 < q.1 * p.2))))
/-- half(a, b, c): 0 a, 1 b, 2 c, 3 common -/
def w_half : WS :=
 (wSeq (wIf (wT1 (wAndT (wB (wEq (wVar 0) (wC (.int 0)))) (wB (wEq (wVar 1) (wC (.int 0)))))) wNever wNext)
 (wSeq (wSet 3 (wCall sp_divisor (wCons (wCall sp_divisor (wCons (wVar 0) (wCons (wVar 1) wNil))) (wCons (wVar 2) wNil))))
 (wRet (wTup (wCons (wFdiv (wVar 0) (wVar 3)) (wCons (wFdiv (wVar 1) (wVar 3)) (wCons (wFdiv (wVar 2) (wVar 3)) wNil)))))))
/-- between(one, other): 0 one, 1 other, 2 a, 3 b -/
def w_between : WS :=
 (wSeq (wSet 2 (wSub (wOp2 fIx (wVar 0) (wC (.int 1))) (wOp2 fIx (wVar 1) (wC (.int 1)))))
 (wSeq (wSet 3 (wSub (wOp2 fIx (wVar 1) (wC (.int 0))) (wOp2 fIx (wVar 0) (wC (.int 0)))))
 (wRet (wCall sp_half (wCons (wVar 2) (wCons (wVar 3) (wCons (wAdd (wMul (wVar 2) (wOp2 fIx (wVar 0) (wC (.int 0)))) (wMul (wVar 3) (wOp2 fIx (wVar 0) (wC (.int 1))))) wNil)))))))
/-- below(one, other): 0 one, 1 other -/
def w_below : WS :=
 (wRet (wLt (wMul (wOp2 fIx (wVar 0) (wC (.int 0))) (wOp2 fIx (wVar 1) (wC (.int 1)))) (wMul (wOp2 fIx (wVar 1) (wC (.int 0))) (wOp2 fIx (wVar 0) (wC (.int 1))))))
theorem len_half : ∀ ss R, sp_half ss R → ss.length = 3 := by rintro ss R ⟨a, b, c, rfl, _⟩; rfl
theorem len_between : ∀ ss R, sp_between ss R → ss.length = 2 := by rintro ss R ⟨a, b, rfl, _⟩; rfl
theorem len_below : ∀ ss R, sp_below ss R → ss.length = 2 := by rintro ss R ⟨a, b, rfl, _⟩; rfl
theorem ok_half : ∀ ss R, sp_half ss R → w_half { nx := fun _ => R (.t .non), rt := R } (startD ["a", "b", "c", "common"] ss) := by
  rintro ss R ⟨a, b, c, rfl, hne, ⟨sa, sb, sc⟩, h⟩
  dsimp only at sa sb sc
  show w_half _ [some (.t (.int a)), some (.t (.int b)), some (.t (.int c)), none]
  unfold w_half
  walk_at "dl"
  refine ⟨fun k => k = false, ?_, ?_⟩
  · walk_at "dl"
    split
    · rename_i e; omega
    · trivial
  rintro k rfl
  walk_at "dl"
  refine ⟨_, _, rfl, ?_⟩
  walk_at "dl"
  refine ⟨_, _, rfl, ?_⟩
  walk_at "dl"
  have hg : (gcd3 a b c : Int) ≠ 0 := gcd3_ne hne
  have sg : Sz 9000 (gcd3 a b c : Int) := (Sz.gcd (Sz.gcd sa sb) sc).mono (by decide)
  have dv : ∀ z, DivOk z (gcd3 a b c : Int) := fun z => divSz hg sg (by decide)
  exact ⟨dv _, dv _, dv _, h⟩
theorem ok_between : ∀ ss R, sp_between ss R → w_between { nx := fun _ => R (.t .non), rt := R } (startD ["one", "other", "a", "b"] ss) := by
  rintro ss R ⟨⟨u, v⟩, ⟨x, y⟩, rfl, hne, ⟨s1, s2⟩, ⟨s3, s4⟩, h⟩
  dsimp only at s1 s2 s3 s4
  show w_between _ [some (.t (.tup [.int u, .int v])), some (.t (.tup [.int x, .int y])), none, none]
  unfold w_between
  walk_at "dl"
  have sa : Sz 4001 (v - y) := by walk_at "szk"
  have sb : Sz 4001 (x - u) := by walk_at "szk"
  have sc : Sz 9000 ((v - y) * u + (x - u) * v) := by walk_at "szk"
  refine ⟨mulSz sa s1 (by decide) (by decide), mulSz sb s2 (by decide) (by decide), _, _, _, rfl, ?_, ⟨sa.mono (by decide), sb.mono (by decide), sc⟩, h⟩
  by_cases e : v - y = 0
  · right
    intro e2
    exact hne (by rw [show u = x by omega, show v = y by omega])
  · exact .inl e
theorem ok_below : ∀ ss R, sp_below ss R → w_below { nx := fun _ => R (.t .non), rt := R } (startD ["one", "other"] ss) := by
  rintro ss R ⟨⟨a, b⟩, ⟨c, d⟩, rfl, ⟨s1, s2⟩, ⟨s3, s4⟩, h⟩
  dsimp only at s1 s2 s3 s4
  show w_below _ [some (.t (.tup [.int a, .int b])), some (.t (.tup [.int c, .int d]))]
  unfold w_below
  walk_at "dl"
  exact ⟨mulSz s1 s4 (by decide) (by decide), mulSz s3 s2 (by decide) (by decide), h⟩
end Law

set_option Elab.async false
set_option linter.all false
set_option maxRecDepth 100000
namespace Law
open L2 DL
/-! turns, and four points in two parts -/
def asV (p : Pt) : Spo := ((p.1, 1), (p.2, 1))
def strV (s : Spo) : Hf := (s.1.1 * s.2.2, s.2.1 * s.1.2, s.1.2 * s.2.2)
def lnV (u v : Hf) : Hf := (u.2.1 * v.2.2 - u.2.2 * v.2.1, u.2.2 * v.1 - u.1 * v.2.2, u.2.1 * v.1 - u.1 * v.2.1)
def tuV (a b c : Spo) : Int := exV (lnV (strV a) (strV b)) c
def tuI (p q r : Pt) : Int := tuV (asV p) (asV q) (asV r)
theorem tuI_eq (p q r : Pt) : tuI p q r = (p.2 - q.2) * r.1 + (q.1 - p.1) * r.2 - (p.2 * q.1 - p.1 * q.2) := by
  unfold tuI tuV exV lnV strV asV
  simp only [Int.mul_one, Int.one_mul]
def sp_as_spot : DSpec := fun ss R => ∃ p : Pt, ss = [.t (ptT p)] ∧ R (.t (spT (asV p)))
def sp_stretched : DSpec := fun ss R => ∃ s : Spo, ss = [.t (spT s)] ∧ SzS 30000 s ∧ R (.t (hfT (strV s)))
def sp_turn : DSpec := fun ss R => ∃ a b c : Spo, ss = [.t (spT a), .t (spT b), .t (spT c)] ∧ SzS 30000 a ∧ SzS 30000 b ∧ SzS 30000 c ∧ R (.t (.int (tuV a b c)))
/-- as_spot(point): 0 point -/
def w_as_spot : WS :=
 (wRet (wTup (wCons (wTup (wCons (wOp2 fIx (wVar 0) (wC (.int 0))) (wCons (wC (.int 1)) wNil))) (wCons (wTup (wCons (wOp2 fIx (wVar 0) (wC (.int 1))) (wCons (wC (.int 1)) wNil))) wNil))))
/-- stretched(spot): 0 spot -/
def w_stretched : WS :=
 (wRet (wTup (wCons (wMul (wOp2 fIx (wOp2 fIx (wVar 0) (wC (.int 0))) (wC (.int 0))) (wOp2 fIx (wOp2 fIx (wVar 0) (wC (.int 1))) (wC (.int 1)))) (wCons (wMul (wOp2 fIx (wOp2 fIx (wVar 0) (wC (.int 1))) (wC (.int 0))) (wOp2 fIx (wOp2 fIx (wVar 0) (wC (.int 0))) (wC (.int 1)))) (wCons (wCall sp_bottoms (wCons (wVar 0) wNil)) wNil)))))
/-- turn(one, other, third): 0 one, 1 other, 2 third, 3 here, 4 there, 5 a, 6 b, 7 c -/
def w_turn : WS :=
 (wSeq (wSet 3 (wCall sp_stretched (wCons (wVar 0) wNil)))
 (wSeq (wSet 4 (wCall sp_stretched (wCons (wVar 1) wNil)))
 (wSeq (wSet 5 (wSub (wMul (wOp2 fIx (wVar 3) (wC (.int 1))) (wOp2 fIx (wVar 4) (wC (.int 2)))) (wMul (wOp2 fIx (wVar 3) (wC (.int 2))) (wOp2 fIx (wVar 4) (wC (.int 1))))))
 (wSeq (wSet 6 (wSub (wMul (wOp2 fIx (wVar 3) (wC (.int 2))) (wOp2 fIx (wVar 4) (wC (.int 0)))) (wMul (wOp2 fIx (wVar 3) (wC (.int 0))) (wOp2 fIx (wVar 4) (wC (.int 2))))))
 (wSeq (wSet 7 (wSub (wMul (wOp2 fIx (wVar 3) (wC (.int 1))) (wOp2 fIx (wVar 4) (wC (.int 0)))) (wMul (wOp2 fIx (wVar 3) (wC (.int 0))) (wOp2 fIx (wVar 4) (wC (.int 1))))))
 (wRet (wCall sp_excess (wCons (wTup (wCons (wVar 5) (wCons (wVar 6) (wCons (wVar 7) wNil)))) (wCons (wVar 2) wNil)))))))))
theorem len_as_spot : ∀ ss R, sp_as_spot ss R → ss.length = 1 := by rintro ss R ⟨a, rfl, _⟩; rfl
theorem len_stretched : ∀ ss R, sp_stretched ss R → ss.length = 1 := by rintro ss R ⟨a, rfl, _⟩; rfl
theorem len_turn : ∀ ss R, sp_turn ss R → ss.length = 3 := by rintro ss R ⟨a, b, c, rfl, _⟩; rfl
theorem ok_as_spot : ∀ ss R, sp_as_spot ss R → w_as_spot { nx := fun _ => R (.t .non), rt := R } (startD ["point"] ss) := by
  rintro ss R ⟨⟨x, y⟩, rfl, h⟩
  show w_as_spot _ [some (.t (.tup [.int x, .int y]))]
  unfold w_as_spot
  walk_at "go"
  exact h
theorem ok_stretched : ∀ ss R, sp_stretched ss R → w_stretched { nx := fun _ => R (.t .non), rt := R } (startD ["spot"] ss) := by
  rintro ss R ⟨⟨⟨x, p⟩, y, q⟩, rfl, ⟨⟨z1, z2⟩, z3, z4⟩, h⟩
  dsimp only at z1 z2 z3 z4
  show w_stretched _ [some (.t (.tup [.tup [.int x, .int p], .tup [.int y, .int q]]))]
  unfold w_stretched
  walk_at "dl"
  refine ⟨mulSz z1 z4 (by decide) (by decide), mulSz z3 z2 (by decide) (by decide), ((x, p), (y, q)), rfl, ⟨⟨z1.mono (by decide), z2.mono (by decide)⟩, z3.mono (by decide), z4.mono (by decide)⟩, ?_⟩
  walk_at "dl"
  exact h
theorem ok_turn : ∀ ss R, sp_turn ss R → w_turn { nx := fun _ => R (.t .non), rt := R } (startD ["one", "other", "third", "here", "there", "a", "b", "c"] ss) := by
  rintro ss R ⟨s, t, u, rfl, zs, zt, zu, h⟩
  show w_turn _ [some (.t (spT s)), some (.t (spT t)), some (.t (spT u)), none, none, none, none, none]
  unfold w_turn
  have ss3 : SzH 60000 (strV s) := ⟨(Sz.mul zs.1.1 zs.2.2).mono (by decide), (Sz.mul zs.2.1 zs.1.2).mono (by decide), (Sz.mul zs.1.2 zs.2.2).mono (by decide)⟩
  have tt3 : SzH 60000 (strV t) := ⟨(Sz.mul zt.1.1 zt.2.2).mono (by decide), (Sz.mul zt.2.1 zt.1.2).mono (by decide), (Sz.mul zt.1.2 zt.2.2).mono (by decide)⟩
  walk_at "dl"
  refine ⟨s, rfl, zs, ?_⟩
  obtain ⟨a1, a2, a3⟩ := ss3
  generalize he : strV s = hs at a1 a2 a3 ⊢
  obtain ⟨x1, y1, w1⟩ := hs
  dsimp only at a1 a2 a3
  walk_at "dl"
  refine ⟨t, rfl, zt, ?_⟩
  obtain ⟨b1, b2, b3⟩ := tt3
  generalize hf : strV t = ht at b1 b2 b3 ⊢
  obtain ⟨x2, y2, w2⟩ := ht
  dsimp only at b1 b2 b3
  walk_at "dl"
  refine ⟨mulSz a2 b3 (by decide) (by decide), mulSz a3 b2 (by decide) (by decide), mulSz a3 b1 (by decide) (by decide), mulSz a1 b3 (by decide) (by decide), mulSz a2 b1 (by decide) (by decide), mulSz a1 b2 (by decide) (by decide), (y1 * w2 - w1 * y2, w1 * x2 - x1 * w2, y1 * x2 - x1 * y2), u, rfl, ⟨by walk_at "szk", by walk_at "szk", by walk_at "szk"⟩, ⟨⟨zu.1.1.mono (by decide), zu.1.2.mono (by decide)⟩, zu.2.1.mono (by decide), zu.2.2.mono (by decide)⟩, ?_⟩
  unfold tuV lnV at h
  rw [he, hf] at h
  exact h
end Law

set_option Elab.async false
set_option linter.all false
set_option maxRecDepth 100000
namespace Law
open L2 DL
/-! the corners round points: a chain of points that turn to the left, in the order of a weight -/
def cr (p q r : Pt) : Int := (q.1 - p.1) * (r.2 - p.2) - (q.2 - p.2) * (r.1 - p.1)
def fn (m p : Pt) : Int := m.1 * p.1 + m.2 * p.2
theorem tuI_cr (p q r : Pt) : tuI p q r = cr p q r := by
  rw [tuI_eq]; unfold cr; grind
theorem id_thr (m z t p q : Pt) : (fn m t - fn m z) * cr t p q = (fn m p - fn m t) * cr z t q - (fn m q - fn m t) * cr z t p := by unfold cr fn; grind
theorem id_fou (m a b c p : Pt) : (fn m c - fn m b) * cr a b p = (fn m p - fn m b) * cr a b c + (fn m b - fn m a) * cr b c p := by unfold cr fn; grind
theorem id_bet (m a b v u w : Pt) : (fn m b - fn m v) * cr u w a + (fn m v - fn m a) * cr u w b = (fn m b - fn m a) * cr u w v - fn m (w.1 - u.1, w.2 - u.2) * cr a b v := by unfold cr fn; grind
theorem cr_self (a b : Pt) : cr a b b = 0 := by unfold cr; grind
theorem cr_self' (a b : Pt) : cr a b a = 0 := by unfold cr; grind
def Conv : List Pt → Prop
  | c :: b :: a :: r => 0 < cr a b c ∧ Conv (b :: a :: r)
  | _ => True
def Lf (q : Pt) : List Pt → Prop
  | b :: a :: r => 0 ≤ cr a b q ∧ Lf q (a :: r)
  | _ => True
def Dn (m : Pt) (k : List Pt) : Prop := k.Pairwise fun b a => fn m a < fn m b
def popTo (p : Pt) : List Pt → List Pt
  | b :: a :: r => if cr a b p ≤ 0 then popTo p (a :: r) else b :: a :: r
  | k => k
def chS (ps : List Pt) : List Pt := ps.foldl (fun k p => p :: popTo p k) []
/-- the chain while points are taken off it, ahead of p -/
structure Off (m : Pt) (D : List Pt) (p p0 : Pt) (t : Pt) (k : List Pt) : Prop where
  dn : Dn m (t :: k)
  cv : Conv (t :: k)
  lf : ∀ q ∈ D, Lf q (t :: k)
  sb : ∀ x ∈ t :: k, x ∈ D
  ls : (t :: k).getLast? = some p0
  ne : ∀ q ∈ D, fn m t ≤ fn m q → 0 ≤ cr t p q
/-- the chain of the points so far -/
structure Ch (m : Pt) (D : List Pt) (p0 t : Pt) (k : List Pt) : Prop where
  dn : Dn m (t :: k)
  cv : Conv (t :: k)
  lf : ∀ q ∈ D, Lf q (t :: k)
  sb : ∀ x ∈ t :: k, x ∈ D
  ls : (t :: k).getLast? = some p0
  hi : ∀ q ∈ D, q ≠ t → fn m q < fn m t
  lo : ∀ q ∈ D, fn m p0 ≤ fn m q
end Law

set_option Elab.async false
set_option linter.all false
set_option maxRecDepth 100000
namespace Law
open L2 DL
/-! both chains together go round all points -/
theorem id_las (m a v u w : Pt) : (fn m a - fn m v) * cr u v w = (fn m w - fn m v) * cr u v a - (fn m v - fn m u) * cr v w a := by unfold cr fn; grind
structure Chain (m : Pt) (S C : List Pt) : Prop where
  left : ∀ i (h : i + 1 < C.length), ∀ q ∈ S, 0 ≤ cr C[i] C[i + 1] q
  conv : ∀ i (h : i + 2 < C.length), 0 < cr C[i] C[i + 1] C[i + 2]
  up : ∀ i j (hi : i < C.length) (hj : j < C.length), i < j → fn m C[i] < fn m C[j]
  sub : ∀ x ∈ C, x ∈ S
  lo : ∀ q ∈ S, ∀ h : 0 < C.length, fn m C[0] ≤ fn m q
  hi : ∀ q ∈ S, ∀ h : C.length - 1 < C.length, fn m q ≤ fn m C[C.length - 1]
theorem strict {m m' : Pt} {S C C' : List Pt} (A : Chain m S C) (A' : Chain m' S C') (hc : 1 < C.length) (hc' : 1 < C'.length) (e1 : C'[0] = C[C.length - 1]) (e2 : C'[C'.length - 1] = C[0])
    (inj : ∀ a ∈ S, ∀ b ∈ S, fn m a = fn m b → a = b) {i : Nat} (hi : i + 1 < C.length) {v : Pt} (hv : v ∈ C ∨ v ∈ C') (h1 : v ≠ C[i]) (h2 : v ≠ C[i + 1]) : 0 < cr C[i] C[i + 1] v := by
  have hvS : v ∈ S := by
    rcases hv with h | h
    · exact A.sub v h
    · exact A'.sub v h
  have haS : C[i] ∈ S := A.sub _ (List.getElem_mem _)
  have hbS : C[i + 1] ∈ S := A.sub _ (List.getElem_mem _)
  have hge := A.left i hi v hvS
  have hab := A.up i (i + 1) (by omega) hi (by omega)
  rcases Int.lt_or_eq_of_le hge with h | h
  · exact h
  exfalso
  have h0 : cr C[i] C[i + 1] v = 0 := h.symm
  have na : fn m v ≠ fn m C[i] := fun e => h1 (inj _ hvS _ haS e)
  have nb : fn m v ≠ fn m C[i + 1] := fun e => h2 (inj _ hvS _ hbS e)
  rcases Int.lt_or_le (fn m C[i + 1]) (fn m v) with hgt | hle
  · rcases Nat.lt_or_ge (i + 2) C.length with hl | hl
    · have c1 := A.conv i hl
      have c2 := A.left (i + 1) hl v hvS
      have id := id_fou m C[i] C[i + 1] C[i + 2] v
      rw [h0, Int.mul_zero] at id
      have g1 : 0 < (fn m v - fn m C[i + 1]) * cr C[i] C[i + 1] C[i + 2] := Int.mul_pos (by omega) c1
      have g2 : 0 ≤ (fn m C[i + 1] - fn m C[i]) * cr C[i + 1] C[i + 2] v := Int.mul_nonneg (by omega) c2
      omega
    · have := A.hi v hvS (by omega)
      have e : C.length - 1 = i + 1 := by omega
      simp only [e] at this
      omega
  rcases Int.lt_or_le (fn m v) (fn m C[i]) with hlt | hge2
  · cases i with
    | zero => have := A.lo v hvS (by omega); omega
    | succ i =>
      have c1 := A.conv i (by omega)
      have c2 := A.left i (by omega) v hvS
      have hzt := A.up i (i + 1) (by omega) (by omega) (by omega)
      have id := id_thr m C[i] C[i + 1] C[i + 1 + 1] v
      rw [h0, Int.mul_zero] at id
      have g1 : 0 ≤ (fn m C[i + 1 + 1] - fn m C[i + 1]) * cr C[i] C[i + 1] v := Int.mul_nonneg (by omega) c2
      have g2 : (fn m v - fn m C[i + 1]) * cr C[i] C[i + 1] C[i + 1 + 1] < 0 := Int.mul_neg_of_neg_of_pos (by omega) c1
      omega
  have hav : fn m C[i] < fn m v := by omega
  have hvb : fn m v < fn m C[i + 1] := by omega
  rcases hv with hv | hv
  · obtain ⟨j, hj, rfl⟩ := List.getElem_of_mem hv
    rcases Nat.lt_trichotomy j i with h | h | h
    · have := A.up j i hj (by omega) h; omega
    · subst h; omega
    · rcases Nat.lt_or_ge (i + 1) j with h' | h'
      · have := A.up (i + 1) j hi hj h'; omega
      · have : j = i + 1 := by omega
        subst this; omega
  · obtain ⟨j, hj, rfl⟩ := List.getElem_of_mem hv
    have hj0 : j ≠ 0 := fun e => by
      subst e
      rw [e1] at hvb
      have := A.hi C[i + 1] hbS (by omega)
      omega
    have hjl : j ≠ C'.length - 1 := fun e => by
      subst e
      rw [e2] at hav
      have := A.lo C[i] haS (by omega)
      omega
    obtain ⟨j, rfl⟩ : ∃ j', j = j' + 1 := ⟨j - 1, by omega⟩
    have hl : j + 2 < C'.length := by omega
    have cv := A'.conv j hl
    have l1 := A'.left j (by omega) C[i] haS
    have l2 := A'.left j (by omega) C[i + 1] hbS
    have l3 := A'.left (j + 1) hl C[i] haS
    have l4 := A'.left (j + 1) hl C[i + 1] hbS
    have i1 := id_bet m C[i] C[i + 1] C'[j + 1] C'[j] C'[j + 1]
    have i2 := id_bet m C[i] C[i + 1] C'[j + 1] C'[j + 1] C'[j + 2]
    rw [h0, cr_self, Int.mul_zero, Int.mul_zero] at i1
    rw [h0, cr_self', Int.mul_zero, Int.mul_zero] at i2
    have g1 : 0 ≤ (fn m C[i + 1] - fn m C'[j + 1]) * cr C'[j] C'[j + 1] C[i] := Int.mul_nonneg (by omega) l1
    have g2 : 0 ≤ (fn m C'[j + 1] - fn m C[i]) * cr C'[j] C'[j + 1] C[i + 1] := Int.mul_nonneg (by omega) l2
    have g3 : 0 ≤ (fn m C[i + 1] - fn m C'[j + 1]) * cr C'[j + 1] C'[j + 2] C[i] := Int.mul_nonneg (by omega) l3
    have g4 : 0 ≤ (fn m C'[j + 1] - fn m C[i]) * cr C'[j + 1] C'[j + 2] C[i + 1] := Int.mul_nonneg (by omega) l4
    have z1 : cr C'[j] C'[j + 1] C[i] = 0 := by
      have : (fn m C[i + 1] - fn m C'[j + 1]) * cr C'[j] C'[j + 1] C[i] = 0 := by omega
      rcases Int.mul_eq_zero.mp this with h | h
      · omega
      · exact h
    have z2 : cr C'[j + 1] C'[j + 2] C[i] = 0 := by
      have : (fn m C[i + 1] - fn m C'[j + 1]) * cr C'[j + 1] C'[j + 2] C[i] = 0 := by omega
      rcases Int.mul_eq_zero.mp this with h | h
      · omega
      · exact h
    have i3 := id_las m C[i] C'[j + 1] C'[j] C'[j + 2]
    rw [z1, z2, Int.mul_zero, Int.mul_zero] at i3
    rcases Int.mul_eq_zero.mp (show (fn m C[i] - fn m C'[j + 1]) * cr C'[j] C'[j + 1] C'[j + 2] = 0 by omega) with h | h
    · omega
    · omega
/-- the point ahead of the k-th one, going round -/
def pvP (H : List Pt) (k : Nat) (hk : k < H.length) : Pt := if h : k = 0 then H[H.length - 1] else H[k - 1]
structure Round (S H : List Pt) : Prop where
  left : ∀ k (hk : k < H.length), ∀ q ∈ S, 0 ≤ cr (pvP H k hk) H[k] q
  strict : ∀ k (hk : k < H.length), ∀ v ∈ H, v ≠ pvP H k hk → v ≠ H[k] → 0 < cr (pvP H k hk) H[k] v
  sub : ∀ x ∈ H, x ∈ S
  fst : ∀ k (hk : k < H.length), 0 < k → H[k] ≠ H[0]
  two : ∀ h : H.length = 2, ∀ q ∈ S, cr H[0] H[1] q = 0 ∧ ∃ m : Pt, fn m H[0] ≤ fn m q ∧ fn m q ≤ fn m H[1] ∧ S.Pairwise fun a b => fn m a < fn m b
  len : 2 ≤ H.length
def hullL (S : List Pt) : List Pt := (chS S).reverse.dropLast ++ (chS S.reverse).reverse.dropLast
def neg (m : Pt) : Pt := (-m.1, -m.2)
end Law

set_option Elab.async false
set_option linter.all false
set_option maxRecDepth 100000
namespace Law
open L2 DL
/-! chain and hull -/
def sptT (p : Pt) : T := spT (asV p)
theorem pur_sptT (p : Pt) : pur (sptT p) = true := rfl
theorem szs_of {n : Nat} {p : Pt} (h : SzF n p) (hn : 1 ≤ n) : SzS n (asV p) := ⟨⟨h.1, ⟨by show 1 < 2 ^ n; exact Nat.one_lt_two_pow (by omega)⟩⟩, h.2, ⟨by show 1 < 2 ^ n; exact Nat.one_lt_two_pow (by omega)⟩⟩
theorem _root_.DL.SzF.mono3 {n m : Nat} {p : Pt} (h : SzF n p) (l : n ≤ m) : SzF m p := ⟨h.1.mono l, h.2.mono l⟩
def sp_chain : DSpec := fun ss R => ∃ ps : List Pt, ss = [.t (.lst (ps.map sptT))] ∧ ps.length ≤ 1000 ∧ (∀ p ∈ ps, SzF 120 p) ∧ R (.ol ((chS ps).reverse.map sptT))
/-- chain(spots): 0 spots, 1 kept, 2 spot -/
def w_chain : WS :=
 (wSeq (wSet 1 (wLst wNil))
 (wSeqM (wFor (wiList (wVar 0)) (wgName 2) (wSeqM (wWhile (wT1 (wAndT (wB (wGt (wCB fLen (wCons (wVar 1) wNil)) (wC (.int 1)))) (wB (wLe (wCall sp_turn (wCons (wOp2 fIx (wVar 1) (wUn fNeg (wC (.int 2)))) (wCons (wOp2 fIx (wVar 1) (wUn fNeg (wC (.int 1)))) (wCons (wVar 2) wNil)))) (wC (.int 0)))))) (wPop 1))
 (wAppend 1 (wVar 2))))
 (wRetV 1)))
theorem len_chain : ∀ ss R, sp_chain ss R → ss.length = 1 := by rintro ss R ⟨a, rfl, _⟩; rfl
theorem pop_sub {p : Pt} : ∀ k : List Pt, ∀ x ∈ popTo p k, x ∈ k
  | [], x, h => h
  | [b], x, h => h
  | b :: a :: r, x, h => by
    simp only [popTo] at h
    split at h
    · exact List.mem_cons_of_mem _ (pop_sub (a :: r) x h)
    · exact h
theorem pop_len {p : Pt} : ∀ k : List Pt, (popTo p k).length ≤ k.length
  | [] => Nat.le_refl _
  | [b] => Nat.le_refl _
  | b :: a :: r => by
    simp only [popTo]
    split
    · exact Nat.le_succ_of_le (pop_len (a :: r))
    · exact Nat.le_refl _
theorem chS_snoc (l : List Pt) (p : Pt) : chS (l ++ [p]) = p :: popTo p (chS l) := by unfold chS; rw [List.foldl_append]; rfl
theorem fold_sub (p : List Pt) : ∀ (k : List Pt), (∀ x ∈ p.foldl (fun k p => p :: popTo p k) k, x ∈ k ∨ x ∈ p) ∧ (p.foldl (fun k p => p :: popTo p k) k).length ≤ k.length + p.length := by
  induction p with
  | nil => exact fun k => ⟨fun x h => .inl h, Nat.le_refl _⟩
  | cons a p ih =>
    intro k
    obtain ⟨h1, h2⟩ := ih (a :: popTo a k)
    refine ⟨fun x hx => ?_, ?_⟩
    · rcases h1 x hx with h | h
      · rcases List.mem_cons.mp h with rfl | h
        · exact .inr List.mem_cons_self
        · exact .inl (pop_sub _ x h)
      · exact .inr (List.mem_cons_of_mem _ h)
    · have := pop_len (p := a) k
      rw [List.foldl_cons]
      simp only [List.length_cons] at h2 ⊢
      omega
theorem chS_sub (l : List Pt) : ∀ x ∈ chS l, x ∈ l := fun x hx => ((fold_sub l []).1 x hx).resolve_left (by simp)
theorem chS_len (l : List Pt) : (chS l).length ≤ l.length := by have := (fold_sub l []).2; simpa [chS] using this
theorem ix_m2 (l : List T) (a b : T) : atI (l ++ [a, b]) (-2) = some a := by
  have e : ixN (l ++ [a, b]).length (-2) = some l.length := by
    unfold ixN
    rw [List.length_append, List.length_cons, List.length_cons, List.length_nil, if_neg (by decide), if_pos (by omega)]
    congr 1; omega
  unfold atI
  rw [e]
  simp
theorem av_m1 {l : List T} {b : Pt} {R : S → Prop} : atV (l ++ [sptT b]) (-1) R = R (.t (sptT b)) := by rw [atV_of (atI_last l _), norm_of (pur_sptT b)]
theorem av_m2 {l : List T} {a b : Pt} {R : S → Prop} : atV (l ++ [sptT a, sptT b]) (-2) R = R (.t (sptT a)) := by rw [atV_of (ix_m2 l _ _), norm_of (pur_sptT a)]
theorem ok_chain : ∀ ss R, sp_chain ss R → w_chain { nx := fun _ => R (.t .non), rt := R } (startD ["spots", "kept", "spot"] ss) := by
  rintro ss R ⟨ps, rfl, hl, hz, h⟩
  show w_chain _ [some (.t (.lst (ps.map sptT))), none, none]
  unfold w_chain
  walk_at "dl"
  refine ⟨fun δ => ∃ r, δ = [some (.t (.lst (ps.map sptT))), some (.ol ((chS ps).reverse.map sptT)), r], ?_, ?_⟩
  · refine ⟨fun ts δ => ∃ pre post r, ps = pre ++ post ∧ ts = post.map sptT ∧ δ = [some (.t (.lst (ps.map sptT))), some (.ol ((chS pre).reverse.map sptT)), r], ⟨[], ps, _, rfl, rfl, rfl⟩, ?_, ?_⟩
    · rintro δ ⟨pre, post, r, e1, e2, rfl⟩
      have : post = [] := by simpa using e2.symm
      subst this
      rw [List.append_nil] at e1
      subst e1
      exact ⟨r, rfl⟩
    · rintro x ts δ ⟨pre, post, r, e1, e2, rfl⟩
      cases post with
      | nil => cases e2
      | cons p post =>
        rw [List.map_cons] at e2
        cases e2
        have hpz : SzF 120 p := hz p (by rw [e1]; simp)
        have hprz : ∀ x ∈ chS pre, SzF 120 x := fun x hx => hz x (by rw [e1]; exact List.mem_append_left _ (chS_sub pre x hx))
        have hlp : (chS pre).length ≤ 1000 := by
          have := chS_len pre
          have : ps.length = pre.length + (post.length + 1) := by rw [e1]; simp
          omega
        walk_at "dl"
        refine ⟨fun δ => δ = [some (.t (.lst (ps.map sptT))), some (.ol ((popTo p (chS pre)).reverse.map sptT)), some (.t (sptT p))], ?_, ?_⟩
        · refine ⟨fun n δ => ∃ k, k.length = n ∧ popTo p k = popTo p (chS pre) ∧ (∀ x ∈ k, SzF 120 x) ∧ δ = [some (.t (.lst (ps.map sptT))), some (.ol (k.reverse.map sptT)), some (.t (sptT p))], ⟨_, chS pre, rfl, rfl, hprz, rfl⟩, ?_⟩
          rintro n δ ⟨k, hk, hpop, hkz, rfl⟩
          have base : popTo p k = k → (fun δ => δ = [some (S.t (.lst (ps.map sptT))), some (.ol ((popTo p (chS pre)).reverse.map sptT)), some (.t (sptT p))]) [some (.t (.lst (ps.map sptT))), some (.ol (k.reverse.map sptT)), some (.t (sptT p))] := fun e => by
            rw [← hpop, e]
          match k, hk, hpop, hkz, base with
          | [], hk, hpop, hkz, base =>
            refine ⟨fun k => k = false, ?_, ?_⟩
            · walk_at "dl"
              first | trivial | (rw [if_neg (by simp)]; trivial)
            · rintro k rfl
              rw [if_neg (by decide)]
              exact base rfl
          | [b], hk, hpop, hkz, base =>
            refine ⟨fun k => k = false, ?_, ?_⟩
            · walk_at "dl"
              first | trivial | (rw [if_neg (by simp)]; trivial)
            · rintro k rfl
              rw [if_neg (by decide)]
              exact base rfl
          | b :: a :: r, hk, hpop, hkz, base =>
            have el : (b :: a :: r).reverse.map sptT = (r.reverse.map sptT) ++ [sptT a, sptT b] := by simp
            have el2 : (b :: a :: r).reverse.map sptT = ((a :: r).reverse.map sptT) ++ [sptT b] := by simp
            refine ⟨fun k => k = decide (cr a b p ≤ 0), ?_, ?_⟩
            · walk_at "dl"
              rw [if_pos (by simp; omega)]
              walk_at "dl"
              rw [el, av_m2]
              walk_at "dl"
              rw [← el, el2, av_m1]
              walk_at "dl"
              refine ⟨asV a, asV b, asV p, rfl, szs_of ((hkz a (by simp)).mono3 (by decide)) (by decide), szs_of ((hkz b (by simp)).mono3 (by decide)) (by decide), szs_of (hpz.mono3 (by decide)) (by decide), ?_⟩
              walk_at "dl"
              rw [show tuV (asV a) (asV b) (asV p) = cr a b p from tuI_cr a b p]
            · rintro k rfl
              by_cases hc : cr a b p ≤ 0
              · rw [if_pos (by simpa using hc)]
                walk_at "dl"
                refine ⟨by simp, r.length + 1, by simp at hk; omega, a :: r, rfl, ?_, fun x hx => hkz x (List.mem_cons_of_mem _ hx), ?_⟩
                · rw [← hpop]; simp only [popTo, if_pos hc]
                · rw [el2, List.dropLast_concat]
              · rw [if_neg (by simpa using hc)]
                exact base (by simp only [popTo, if_neg hc])
        · rintro δ rfl
          walk_at "dl"
          refine ⟨?_, pre ++ [p], post, some (.t (sptT p)), by rw [e1]; simp, rfl, ?_⟩
          · rw [List.length_map, List.length_reverse]
            have := pop_len (p := p) (chS pre)
            omega
          · rw [chS_snoc, List.reverse_cons, List.map_append]; rfl
  · rintro δ ⟨r, rfl⟩
    walk_at "dl"
    exact h
end Law

set_option Elab.async false
set_option linter.all false
set_option maxRecDepth 100000
namespace Law
open L2 DL
/-! hull -/
def plL (p : Pt) : List Int := [p.1, p.2]
def LexP (a b : Pt) : Prop := a.1 < b.1 ∨ (a.1 = b.1 ∧ a.2 < b.2)
def hullV (S : List Pt) : List Pt := if S.length < 2 then S else hullL S
def SetOf (ps S : List Pt) : Prop := (∀ p ∈ S, p ∈ ps) ∧ (∀ p ∈ ps, p ∈ S) ∧ S.Pairwise LexP
theorem lex_pl (a b : Pt) : ST.lexB (plL a) (plL b) = true ↔ LexP a b := by
  unfold LexP plL
  simp only [ST.lexB]
  by_cases h : a.1 = b.1
  · rw [if_pos h]
    by_cases h2 : a.2 = b.2
    · rw [if_pos h2]; constructor
      · intro h; cases h
      · intro h; omega
    · rw [if_neg h2, decide_eq_true_eq]; omega
  · rw [if_neg h, decide_eq_true_eq]; omega
theorem pl_list {ps : List Pt} : ∀ ns : List (List Int), (∀ k ∈ ns, k ∈ ps.map plL) → ∃ S : List Pt, ns = S.map plL ∧ ∀ p ∈ S, p ∈ ps
  | [], _ => ⟨[], rfl, fun p hp => by cases hp⟩
  | k :: ns, h => by
    obtain ⟨S, e, hs⟩ := pl_list ns fun k hk => h k (List.mem_cons_of_mem _ hk)
    obtain ⟨p, hp, rfl⟩ := List.mem_map.mp (h k List.mem_cons_self)
    exact ⟨p :: S, by rw [e]; rfl, fun q hq => by
      rcases List.mem_cons.mp hq with rfl | hq
      · exact hp
      · exact hs q hq⟩
theorem pl_inj {a b : Pt} (h : plL a = plL b) : a = b := by
  unfold plL at h
  simp only [List.cons.injEq, and_true] at h
  exact Prod.ext h.1 h.2
def sp_hull : DSpec := fun ss R => ∃ ps : List Pt, ss = [.t (.lst (ps.map ptT))] ∧ ps.length ≤ 63 ∧ (∀ p ∈ ps, SzF 120 p) ∧ ∀ S : List Pt, SetOf ps S → R (.ol ((hullV S).map sptT))
/-- hull(points): 0 points, 1 spots, 2 under, 3 above -/
def w_hull : WS :=
 (wSeq (wSet 1 (wComp 1 [] (wiList (wSortSet (wVar 0))) (wgName 0) wYes (wCall sp_as_spot (wCons (wVar 0) wNil))))
 (wSeq (wIf (wB (wLt (wCB fLen (wCons (wVar 1) wNil)) (wC (.int 2)))) (wRetV 1) wNext)
 (wSeq (wSet 2 (wCall sp_chain (wCons (wVar 1) wNil)))
 (wSeq (wSet 3 (wCall sp_chain (wCons (wListRev (wVar 1)) wNil)))
 (wRet (wOp2 fCat (wSlice (wVar 2) wPart0 (wPart (wUn fNeg (wC (.int 1))))) (wSlice (wVar 3) wPart0 (wPart (wUn fNeg (wC (.int 1)))))))))))
theorem len_hull : ∀ ss R, sp_hull ss R → ss.length = 1 := by rintro ss R ⟨a, rfl, _⟩; rfl
theorem lex_nodup {S : List Pt} (h : S.Pairwise LexP) : S.Nodup := h.imp fun h e => by subst e; unfold LexP at h; omega
theorem cut_last (ts : List T) : cutT ts none (some (-1)) = ts.dropLast := by
  unfold cutT
  show (ts.drop 0).take (HT.sIx ts.length ts.length (some (-1)) - 0) = _
  have : HT.sIx ts.length ts.length (some (-1)) = ts.length - 1 := by
    show (if (-1 : Int) < 0 then ((-1 : Int) + (ts.length : Int)).toNat else min (-1 : Int).toNat ts.length) = _
    rw [if_pos (by decide)]; omega
  rw [this, List.dropLast_eq_take]; simp
theorem ok_hull : ∀ ss R, sp_hull ss R → w_hull { nx := fun _ => R (.t .non), rt := R } (startD ["points", "spots", "under", "above"] ss) := by
  rintro ss R ⟨ps, rfl, hl, hz, h⟩
  show w_hull _ [some (.t (.lst (ps.map ptT))), none, none, none]
  unfold w_hull
  walk_at "dl"
  refine ⟨2, ps.map plL, by decide, by rw [List.map_map]; rfl, fun ks hk => by obtain ⟨p, _, rfl⟩ := List.mem_map.mp hk; rfl, by rw [List.length_map]; exact hl, fun ns n1 n2 n3 => ?_⟩
  obtain ⟨S, rfl, hS⟩ := pl_list ns n1
  have hset : SetOf ps S := ⟨hS, fun p hp => by
    obtain ⟨q, hq, e⟩ := List.mem_map.mp (n2 (plL p) (List.mem_map.mpr ⟨p, hp, rfl⟩))
    rw [← pl_inj e]; exact hq, by
    rw [List.pairwise_map] at n3
    exact n3.imp fun h => (lex_pl _ _).mp h⟩
  have hSl : S.length ≤ 63 := Nat.le_trans (List.Nodup.length_le_of_subset (lex_nodup hset.2.2) hset.1) hl
  have hSz : ∀ p ∈ S, SzF 120 p := fun p hp => hz p (hS p hp)
  have e : (S.map plL).map tupI = S.map ptT := by rw [List.map_map]; rfl
  rw [e]
  walk_at "dl"
  refine comp_map (h := sptT) (fun δ => ∃ r, δ = [r]) (fun p _ => pur_sptT p) (by omega) ⟨_, rfl⟩ ?_ ?_
  · rintro p hp δ ⟨r, rfl⟩ Y hY
    walk_at "dl"
    refine ⟨p, rfl, ?_⟩
    walk_at "dl"
    exact hY _ ⟨_, rfl⟩
  have hR := h S hset
  unfold hullV at hR
  walk_at "dl"
  by_cases h2 : S.length < 2
  · rw [if_pos h2] at hR
    rw [if_pos (by rw [List.length_map]; omega)]
    walk_at "dl"
    exact hR
  · rw [if_neg h2] at hR
    rw [if_neg (by rw [List.length_map]; omega)]
    walk_at "dl"
    refine ⟨S, rfl, by omega, hSz, ?_⟩
    have pu : ∀ l : List Pt, purs (l.map sptT) = true := purs_map fun p => pur_sptT p
    have g : ∀ l : List Pt, got (.ol (l.map sptT)) = .ol (l.map sptT) := fun l => e_gotO _ (pu l)
    dsimp only
    rw [g]
    walk_at "dl"
    refine ⟨pu S, S.reverse, by rw [List.map_reverse], by rw [List.length_reverse]; omega, fun p hp => hSz p (List.mem_reverse.mp hp), ?_⟩
    dsimp only
    rw [g]
    walk_at "dl"
    refine ⟨pu _, pu _, ?_, ?_⟩
    · rw [cut_last, cut_last, List.length_dropLast, List.length_dropLast, List.length_map, List.length_map, List.length_reverse, List.length_reverse]
      have a1 := chS_len S
      have a2 := chS_len S.reverse
      rw [List.length_reverse] at a2
      omega
    · rw [cut_last, cut_last, ← List.map_dropLast, ← List.map_dropLast, ← List.map_append]
      exact hR
end Law

set_option Elab.async false
set_option linter.all false
set_option maxRecDepth 100000
namespace Law
open L2 DL
/-! the law's own turns, spots and regions -/
def dtV (a b c : Hf) : Int := a.1 * (b.2.1 * c.2.2 - c.2.1 * b.2.2) - a.2.1 * (b.1 * c.2.2 - c.1 * b.2.2) + a.2.2 * (b.1 * c.2.1 - c.1 * b.2.1)
def bfV (a b : Hf) : Bool := if a.1 * b.2.2 ≠ b.1 * a.2.2 then decide (a.1 * b.2.2 < b.1 * a.2.2) else decide (a.2.1 * b.2.2 < b.2.1 * a.2.2)
def sp_l_turn : DSpec := fun ss R => ∃ a b c : Hf, ss = [.t (hfT a), .t (hfT b), .t (hfT c)] ∧ SzH 50000 a ∧ SzH 50000 b ∧ SzH 50000 c ∧ R (.t (.int (dtV a b c)))
def sp_l_before : DSpec := fun ss R => ∃ a b : Hf, ss = [.t (hfT a), .t (hfT b)] ∧ SzH 50000 a ∧ SzH 50000 b ∧ R (.t (.bl (bfV a b)))
end Law

set_option Elab.async false
set_option linter.all false
set_option maxRecDepth 100000
namespace Law
open L2 DL
/-! the law's regions -/
def pvG {α : Type} (H : List α) (k : Nat) (hk : k < H.length) : α := if h : k = 0 then H[H.length - 1] else H[k - 1]
structure RegF (F : List Hf) : Prop where
  fst : ∀ k (hk : k < F.length), 0 < k → bfV F[0] F[k] = true
  trn : 2 < F.length → ∀ k (hk : k < F.length), ∀ v ∈ F, v ≠ F[k] → v ≠ pvG F k hk → 0 < dtV (pvG F k hk) F[k] v
structure HoldF (F : List Hf) (q : Hf) : Prop where
  ne : 0 < F.length
  few : F.length < 3 → dtV F[0] F[F.length - 1] q = 0 ∧ bfV q F[0] = false ∧ bfV F[F.length - 1] q = false
  all : 3 ≤ F.length → ∀ k (hk : k < F.length), 0 ≤ dtV (pvG F k hk) F[k] q
def sp_l_holds : DSpec := fun ss R => ∃ (F : List Hf) (q : Hf), ss = [.t (.lst (F.map hfT)), .t (hfT q)] ∧ F.length ≤ 200 ∧ (∀ f ∈ F, SzH 50000 f) ∧ SzH 50000 q ∧ HoldF F q ∧ R (.t (.bl true))
/-- _law_holds(_law_flat_here, _law_here): 0 _law_flat_here, 1 _law_here, 2 _law_k -/
def w_l_holds : WS :=
 (wSeq (wIf (wB (wEq (wCB fLen (wCons (wVar 0) wNil)) (wC (.int 0)))) (wRet (wC (.bl false))) wNext)
 (wSeq (wIf (wB (wLt (wCB fLen (wCons (wVar 0) wNil)) (wC (.int 3)))) (wSeq (wIf (wB (wNe (wCall sp_l_turn (wCons (wOp2 fIx (wVar 0) (wC (.int 0))) (wCons (wOp2 fIx (wVar 0) (wUn fNeg (wC (.int 1)))) (wCons (wVar 1) wNil)))) (wC (.int 0)))) (wRet (wC (.bl false))) wNext)
 (wRet (wAndV (wNotV (wCall sp_l_before (wCons (wVar 1) (wCons (wOp2 fIx (wVar 0) (wC (.int 0))) wNil)))) (wNotV (wCall sp_l_before (wCons (wOp2 fIx (wVar 0) (wUn fNeg (wC (.int 1)))) (wCons (wVar 1) wNil))))))) wNext)
 (wSeqM (wFor (wiRng1 (wCons (wCB fLen (wCons (wVar 0) wNil)) wNil)) (wgName 2) (wIf (wB (wLt (wCall sp_l_turn (wCons (wOp2 fIx (wVar 0) (wSub (wVar 2) (wC (.int 1)))) (wCons (wOp2 fIx (wVar 0) (wVar 2)) (wCons (wVar 1) wNil)))) (wC (.int 0)))) (wRet (wC (.bl false))) wNext))
 (wRet (wC (.bl true))))))
theorem len_l_holds : ∀ ss R, sp_l_holds ss R → ss.length = 2 := by rintro ss R ⟨a, b, rfl, _⟩; rfl
theorem szh_mono {n m : Nat} {s : Hf} (h : SzH n s) (l : n ≤ m) : SzH m s := ⟨h.1.mono l, h.2.1.mono l, h.2.2.mono l⟩
theorem at_at {F : List Hf} {k : Nat} (hk : k < F.length) (R : S → Prop) : atT (F.map hfT) (k : Int) R = R (.t (hfT F[k])) := by
  rw [atT_of (atI_of (n := k) (x := hfT F[k]) (by simp [hk]))]
theorem ix_last {F : List Hf} (h : 0 < F.length) : atI (F.map hfT) (-1) = some (hfT F[F.length - 1]) := by
  have e : ixN (F.map hfT).length (-1) = some (F.length - 1) := by
    unfold ixN
    rw [List.length_map, if_neg (by decide), if_pos (by omega)]
    congr 1; omega
  unfold atI
  rw [e]
  show (F.map hfT)[F.length - 1]? = _
  rw [List.getElem?_map, List.getElem?_eq_getElem (by omega)]; rfl
theorem ix_pv {F : List Hf} {k : Nat} (hk : k < F.length) : atI (F.map hfT) ((k : Int) - 1) = some (hfT (pvG F k hk)) := by
  unfold pvG
  by_cases h0 : k = 0
  · subst h0
    rw [dif_pos rfl]
    exact ix_last hk
  · rw [dif_neg h0]
    have : (k : Int) - 1 = ((k - 1 : Nat) : Int) := by omega
    rw [this]
    exact atI_of (by rw [List.getElem?_map, List.getElem?_eq_getElem (by omega)]; rfl)
theorem at_pv {F : List Hf} {k : Nat} (hk : k < F.length) (R : S → Prop) : atT (F.map hfT) ((k : Int) - 1) R = R (.t (hfT (pvG F k hk))) := by
  rw [atT_of (ix_pv hk)]
theorem pv_mem {α : Type} {F : List α} {k : Nat} (hk : k < F.length) : pvG F k hk ∈ F := by
  unfold pvG
  split <;> exact List.getElem_mem _
theorem for_all {α : Type} {f : α → T} {l : List α} {g : WG} {wb : WS} {D : DEnds} {δ : DSt} (M : DSt → Prop) (h0 : M δ) (hend : ∀ δ, M δ → D.nx δ)
    (step : ∀ a ∈ l, ∀ δ, M δ → ∀ N : DSt → Prop, (∀ δ1, M δ1 → N δ1) → g (f a) δ fun δ1 => wb { nx := N, rt := D.rt, bk := D.nx, ct := N } δ1) : forI g wb (l.map f) D δ := by
  refine ⟨fun ts δ => (∀ t ∈ ts, ∃ a ∈ l, t = f a) ∧ M δ, ⟨fun t ht => ?_, h0⟩, fun δ h => hend δ h.2, ?_⟩
  · obtain ⟨a, ha, rfl⟩ := List.mem_map.mp ht
    exact ⟨a, ha, rfl⟩
  · rintro x r δ ⟨ht, hM⟩
    obtain ⟨a, ha, rfl⟩ := ht x List.mem_cons_self
    exact step a ha δ hM _ fun δ1 h1 => ⟨fun t ht' => ht t (List.mem_cons_of_mem _ ht'), h1⟩
theorem for_rng {lo : Int} {n : Nat} {g : WG} {wb : WS} {D : DEnds} {δ : DSt} (M : DSt → Prop) (h0 : M δ) (hend : ∀ δ, M δ → D.nx δ)
    (step : ∀ k : Nat, k < n → ∀ δ, M δ → ∀ N : DSt → Prop, (∀ δ1, M δ1 → N δ1) → g (.int (lo + (k : Int))) δ fun δ1 => wb { nx := N, rt := D.rt, bk := D.nx, ct := N } δ1) : forI g wb (rngT lo n) D δ :=
  for_all (l := List.range n) M h0 hend fun k hk => step k (List.mem_range.mp hk)
theorem ok_l_holds : ∀ ss R, sp_l_holds ss R → w_l_holds { nx := fun _ => R (.t .non), rt := R } (startD ["_law_flat_here", "_law_here", "_law_k"] ss) := by
  rintro ss R ⟨F, q, rfl, hl, hF, hq, hH, h⟩
  show w_l_holds _ [some (.t (.lst (F.map hfT))), some (.t (hfT q)), none]
  unfold w_l_holds
  have hne := hH.ne
  walk_at "dl"
  rw [if_neg (by rw [List.length_map]; omega)]
  walk_at "dl"
  have e0 : ∀ R : S → Prop, atT (F.map hfT) 0 R = R (.t (hfT F[0])) := fun R => at_at (k := 0) hne R
  have e1 : ∀ R : S → Prop, atT (F.map hfT) (-1) R = R (.t (hfT F[F.length - 1])) := fun R => atT_of (ix_last hne)
  have z0 := hF _ (List.getElem_mem hne)
  have z1 := hF _ (List.getElem_mem (show F.length - 1 < F.length by omega))
  by_cases h3 : F.length < 3
  · rw [if_pos (by rw [List.length_map]; omega)]
    obtain ⟨k1, k2, k3⟩ := hH.few h3
    walk_at "dl"
    rw [e0]
    walk_at "dl"
    rw [e1]
    walk_at "dl"
    refine ⟨F[0], F[F.length - 1], q, rfl, z0, z1, hq, ?_⟩
    rw [k1]
    walk_at "dl"
    rw [e0]
    walk_at "dl"
    refine ⟨q, F[0], rfl, hq, z0, ?_⟩
    rw [k2]
    walk_at "dl"
    rw [e1]
    walk_at "dl"
    refine ⟨F[F.length - 1], q, rfl, z1, hq, ?_⟩
    rw [k3]
    walk_at "dl"
    exact h
  · rw [if_neg (by rw [List.length_map]; omega)]
    have hall := hH.all (by omega)
    walk_at "dl"
    refine ⟨fun δ => ∃ r, δ = [some (.t (.lst (F.map hfT))), some (.t (hfT q)), r], ⟨rngOk (by omega) (by rw [List.length_map]; omega), for_rng (fun δ => ∃ r, δ = [some (.t (.lst (F.map hfT))), some (.t (hfT q)), r]) ⟨_, rfl⟩ (fun δ h => h) ?_⟩, ?_⟩
    · rintro k hk δ ⟨r, rfl⟩ N hN
      rw [List.length_map] at hk
      have hk1 : k < F.length := by omega
      rw [Int.zero_add]
      walk_at "dl"
      rw [at_pv hk1]
      walk_at "dl"
      rw [at_at hk1]
      walk_at "dl"
      refine ⟨pvG F k hk1, F[k], q, rfl, hF _ (pv_mem hk1), hF _ (List.getElem_mem hk1), hq, ?_⟩
      have := hall k hk1
      walk_at "dl"
      rw [if_neg (by omega)]
      exact hN _ ⟨_, rfl⟩
    · rintro δ ⟨r, rfl⟩
      walk_at "dl"
      exact h
end Law

set_option Elab.async false
set_option linter.all false
set_option maxRecDepth 100000
namespace Law
open L2 DL
set_option maxHeartbeats 4000000
/-! a region that no half cuts -/
def prT (q : Pt × Pt) : T := .tup [sptT q.1, sptT q.2]
theorem pur_prT (q : Pt × Pt) : pur (prT q) = true := rfl
def sp_lesser : DSpec := fun ss R => ∃ p q : Pt, ss = [.t (sptT p), .t (sptT q)] ∧ SzF 120 p ∧ SzF 120 q ∧ ∀ b : Bool, R (.t (.bl b))
def sp_sides : DSpec := fun ss R => ∃ L : List Pt, ss = [.t (.lst (L.map sptT))] ∧ L.length ≤ 200 ∧ ∀ prs : List (Pt × Pt), prs.map (·.2) = L → (∀ q ∈ prs, q.1 ∈ L) → R (.ol (prs.map prT))
def sp_from_least : DSpec := fun ss R => ∃ L : List Pt, ss = [.t (.lst (L.map sptT))] ∧ L.length ≤ 200 ∧ (∀ p ∈ L, SzF 120 p) ∧ ∀ L' : List Pt, (∀ p ∈ L', p ∈ L) → L'.length = L.length → R (.ol (L'.map sptT))
def sp_clipped : DSpec := fun ss R => ∃ (L : List Pt) (h : Hf), ss = [.t (.lst (L.map sptT)), .t (hfT h)] ∧ L.length ≤ 200 ∧ (∀ p ∈ L, SzF 120 p) ∧ SzH 4000 h ∧ (∀ p ∈ L, 0 ≤ exV h (asV p)) ∧ ∀ L' : List Pt, (∀ p ∈ L', p ∈ L) → L'.length = L.length → R (.ol (L'.map sptT))
def ulV (p : Pt) : List Hf := [(1, 0, p.1), (-1, 0, -p.1), (0, 1, p.2), (0, -1, -p.2)]
def sp_upright_and_level : DSpec := fun ss R => ∃ p : Pt, ss = [.t (ptT p)] ∧ R (.ol ((ulV p).map hfT))
def sp_bordered : DSpec := fun ss R => ∃ ps : List Pt, ss = [.t (.lst (ps.map ptT))] ∧ ps.length ≤ 5 ∧ (∀ p ∈ ps, SzF 100 p) ∧ ∀ hs : List Hf, hs.length ≤ 63 → (∀ h ∈ hs, SzH 4000 h) → R (.ol (hs.map hfT))
def sp_need_points : DSpec := fun ss R => ∃ (t : T) (ts : List T), ss = [.t (.lst (t :: ts))] ∧ R (.t .non)
def spx_need_points : XSpec := fun ss x => x = "NoPoints" ∧ ss = [.t (.lst [])]
def sp_strong : DSpec := fun ss R => ∃ (ps : List Pt) (m : Int), ss = [.t (.lst (ps.map ptT)), .t (.int m)] ∧ ps ≠ [] ∧ ps.length ≤ 5 ∧ (∀ p ∈ ps, SzF 100 p) ∧ ∀ hs : List Hf, hs.length ≤ 63 → (∀ h ∈ hs, SzH 4000 h ∧ m ≤ manyV h ps) → R (.ol (hs.map hfT))
def spx_strong : XSpec := fun ss x => x = "NoPoints" ∧ ∃ s, ss = [.t (.lst []), s]
def sp_region : DSpec := fun ss R => ∃ ps : List Pt, ss = [.t (.lst (ps.map ptT)), .t (.int 1)] ∧ ps ≠ [] ∧ ps.length ≤ 5 ∧ (∀ p ∈ ps, SzF 100 p) ∧ ∀ L : List Pt, R (.ol (L.map sptT))
def spx_region : XSpec := fun ss x => (x = "NoPoints" ∧ ∃ k : Int, ss = [.t (.lst []), .t (.int k)]) ∨ (x = "NoDepth" ∧ ∃ (t : T) (ts : List T) (k : Int), k < 1 ∧ ss = [.t (.lst (t :: ts)), .t (.int k)])
def spx_deepest : XSpec := fun ss x => x = "NoPoints" ∧ ss = [.t (.lst [])]
def spx_depth : XSpec := fun ss x => x = "NoPoints" ∧ ∃ s, ss = [.t (.lst []), s]
def sp_crossing : DSpec := fun _ _ => False
/-- crossing(half, one, other): 0 half, 1 one, 2 other, 3 one_weight, 4 other_weight, 5 x, 6 y -/
def w_crossing : WS :=
 wNever
/-- lesser(one, other): 0 one, 1 other -/
def w_lesser : WS :=
 (wSeq (wIf (wB (wEq (wOp2 fIx (wVar 0) (wC (.int 0))) (wOp2 fIx (wVar 1) (wC (.int 0))))) (wRet (wCall sp_below (wCons (wOp2 fIx (wVar 0) (wC (.int 1))) (wCons (wOp2 fIx (wVar 1) (wC (.int 1))) wNil)))) wNext)
 (wRet (wCall sp_below (wCons (wOp2 fIx (wVar 0) (wC (.int 0))) (wCons (wOp2 fIx (wVar 1) (wC (.int 0))) wNil)))))
/-- sides(region): 0 region -/
def w_sides : WS :=
 (wRet (wComp 1 [0] (wiRng1 (wCons (wCB fLen (wCons (wVar 0) wNil)) wNil)) (wgName 0) wYes (wTup (wCons (wOp2 fIx (wVar 1) (wSub (wVar 0) (wC (.int 1)))) (wCons (wOp2 fIx (wVar 1) (wVar 0)) wNil)))))
/-- from_least(corners): 0 corners, 1 first, 2 place -/
def w_from_least : WS :=
 (wSeq (wSet 1 (wC (.int 0)))
 (wSeqM (wFor (wiRng1 (wCons (wCB fLen (wCons (wVar 0) wNil)) wNil)) (wgName 2) (wIf (wB (wCall sp_lesser (wCons (wOp2 fIx (wVar 0) (wVar 2)) (wCons (wOp2 fIx (wVar 0) (wVar 1)) wNil)))) (wSet 1 (wVar 2)) wNext))
 (wRet (wOp2 fCat (wSlice (wVar 0) (wPart (wVar 1)) wPart0) (wSlice (wVar 0) wPart0 (wPart (wVar 1)))))))
/-- clipped(region, half): 0 region, 1 half, 2 kept, 3 pair, 4 spot -/
def w_clipped : WS :=
 (wSeq (wSet 2 (wLst wNil))
 (wSeqM (wFor (wiList (wCall sp_sides (wCons (wVar 0) wNil))) (wgName 3) (wSeqM (wIf (wB (wLt (wMul (wCall sp_side (wCons (wVar 1) (wCons (wOp2 fIx (wVar 3) (wC (.int 0))) wNil))) (wCall sp_side (wCons (wVar 1) (wCons (wOp2 fIx (wVar 3) (wC (.int 1))) wNil)))) (wC (.int 0)))) (wSeq (wSet 4 (wCall sp_crossing (wCons (wVar 1) (wCons (wOp2 fIx (wVar 3) (wC (.int 0))) (wCons (wOp2 fIx (wVar 3) (wC (.int 1))) wNil)))))
 (wIf (wB (wNotIn (wVar 4) (wVar 2))) (wAppend 2 (wVar 4)) wNext)) wNext)
 (wIf (wB (wGe (wCall sp_side (wCons (wVar 1) (wCons (wOp2 fIx (wVar 3) (wC (.int 1))) wNil))) (wC (.int 0)))) (wAppend 2 (wOp2 fIx (wVar 3) (wC (.int 1)))) wNext)))
 (wRet (wCall sp_from_least (wCons (wVar 2) wNil)))))
/-- upright_and_level(point): 0 point, 1 x, 2 y -/
def w_upright_and_level : WS :=
 (wSeq (wSet 1 (wOp2 fIx (wVar 0) (wC (.int 0))))
 (wSeq (wSet 2 (wOp2 fIx (wVar 0) (wC (.int 1))))
 (wRet (wLst (wCons (wTup (wCons (wC (.int 1)) (wCons (wC (.int 0)) (wCons (wVar 1) wNil)))) (wCons (wTup (wCons (wUn fNeg (wC (.int 1))) (wCons (wC (.int 0)) (wCons (wUn fNeg (wVar 1)) wNil)))) (wCons (wTup (wCons (wC (.int 0)) (wCons (wC (.int 1)) (wCons (wVar 2) wNil)))) (wCons (wTup (wCons (wC (.int 0)) (wCons (wUn fNeg (wC (.int 1))) (wCons (wUn fNeg (wVar 2)) wNil)))) wNil))))))))
/-- bordered(points): 0 points, 1 found, 2 one, 3 other -/
def w_bordered : WS :=
 (wSeq (wSet 1 (wLst wNil))
 (wSeqM (wFor (wiList (wVar 0)) (wgName 2) (wSeq (wExtend 1 (wCall sp_upright_and_level (wCons (wVar 2) wNil)))
 (wFor (wiList (wVar 0)) (wgName 3) (wIf (wB (wNe (wVar 2) (wVar 3))) (wAppend 1 (wCall sp_between (wCons (wVar 2) (wCons (wVar 3) wNil)))) wNext))))
 (wRet (wSortSet (wVar 1)))))
/-- need_points(points): 0 points -/
def w_need_points : WS :=
 (wIf (wB (wEq (wCB fLen (wCons (wVar 0) wNil)) (wC (.int 0)))) wNever wNext)
/-- need_points(points), where it raises: 0 points -/
def wx_need_points : WX :=
 (wxIf (wB (wEq (wCB fLen (wCons (wVar 0) wNil)) (wC (.int 0)))) (wxRaise "NoPoints" (wCons (wC (.str "there are no points")) wNil)) (wxN wNext))
/-- strong(points, many): 0 points, 1 many -/
def w_strong : WS :=
 (wSeq (wDrop (wCall sp_need_points (wCons (wVar 0) wNil)))
 (wRet (wComp 1 [0, 1] (wiList (wCall sp_bordered (wCons (wVar 0) wNil))) (wgName 0) (wB (wGe (wCall sp_many_in (wCons (wVar 0) (wCons (wVar 1) wNil))) (wVar 2))) (wVar 0))))
/-- strong(points, many), where it raises: 0 points, 1 many -/
def wx_strong : WX :=
 (wxSeq (wxCall spx_need_points (wCons (wVar 0) wNil)) (wxN wNever))
/-- region(points, k): 0 points, 1 k, 2 part, 3 found -/
def w_region : WS :=
 (wSeq (wDrop (wCall sp_need_points (wCons (wVar 0) wNil)))
 (wSeq (wIf (wB (wLt (wVar 1) (wC (.int 1)))) wNever wNext)
 (wSeq (wIf (wB (wGt (wVar 1) (wCB fLen (wCons (wVar 0) wNil)))) (wRet (wLst wNil)) wNext)
 (wSeq (wSet 2 (wCall sp_hull (wCons (wVar 0) wNil)))
 (wSeqM (wFor (wiList (wCall sp_strong (wCons (wVar 0) (wCons (wAdd (wSub (wCB fLen (wCons (wVar 0) wNil)) (wVar 1)) (wC (.int 1))) wNil)))) (wgName 3) (wSet 2 (wCall sp_clipped (wCons (wVar 2) (wCons (wVar 3) wNil)))))
 (wRetV 2))))))
/-- region(points, k), where it raises: 0 points, 1 k, 2 part, 3 found -/
def wx_region : WX :=
 (wxSeq (wxOr (wxCall spx_need_points (wCons (wVar 0) wNil)) (wxN (wDrop (wCall sp_need_points (wCons (wVar 0) wNil))))) (wxSeq (wxIf (wB (wLt (wVar 1) (wC (.int 1)))) (wxRaise "NoDepth" (wCons (wC (.str "the regions of depth begin with 1")) wNil)) (wxN wNext)) (wxN wNever)))
/-- deepest(points), where it raises: 0 points, 1 k, 2 halves, 3 weights, 4 asked, 5 told -/
def wx_deepest : WX :=
 (wxSeq (wxCall spx_need_points (wCons (wVar 0) wNil)) (wxN wNever))

/-- depth(points, spot), where it raises: 0 points, 1 spot, 2 ways, 3 emptiest -/
def wx_depth : WX :=
 (wxSeq (wxIf (wB (wEq (wCB fLen (wCons (wVar 0) wNil)) (wC (.int 0)))) (wxRaise "NoPoints" (wCons (wC (.str "no spot has a depth among no points")) wNil)) (wxN wNext)) (wxN wNever))
theorem len_crossing : ∀ ss R, sp_crossing ss R → ss.length = 3 := fun _ _ h => h.elim
theorem ok_crossing : ∀ ss R, sp_crossing ss R → w_crossing { nx := fun _ => R (.t .non), rt := R } (startD ["half", "one", "other", "one_weight", "other_weight", "x", "y"] ss) := fun _ _ h => h.elim
theorem len_lesser : ∀ ss R, sp_lesser ss R → ss.length = 2 := by rintro ss R ⟨a, b, rfl, _⟩; rfl
theorem len_sides : ∀ ss R, sp_sides ss R → ss.length = 1 := by rintro ss R ⟨a, rfl, _⟩; rfl
theorem len_from_least : ∀ ss R, sp_from_least ss R → ss.length = 1 := by rintro ss R ⟨a, rfl, _⟩; rfl
theorem len_clipped : ∀ ss R, sp_clipped ss R → ss.length = 2 := by rintro ss R ⟨a, b, rfl, _⟩; rfl
theorem len_upright_and_level : ∀ ss R, sp_upright_and_level ss R → ss.length = 1 := by rintro ss R ⟨a, rfl, _⟩; rfl
theorem len_bordered : ∀ ss R, sp_bordered ss R → ss.length = 1 := by rintro ss R ⟨a, rfl, _⟩; rfl
theorem len_need_points : ∀ ss R, sp_need_points ss R → ss.length = 1 := by rintro ss R ⟨a, b, rfl, _⟩; rfl
theorem lenx_need_points : ∀ ss x, spx_need_points ss x → ss.length = 1 := by rintro ss R ⟨_, rfl⟩; rfl
theorem len_strong : ∀ ss R, sp_strong ss R → ss.length = 2 := by rintro ss R ⟨a, b, rfl, _⟩; rfl
theorem lenx_strong : ∀ ss x, spx_strong ss x → ss.length = 2 := by rintro ss R ⟨_, s, rfl⟩; rfl
theorem len_region : ∀ ss R, sp_region ss R → ss.length = 2 := by rintro ss R ⟨a, rfl, _⟩; rfl
theorem lenx_region : ∀ ss x, spx_region ss x → ss.length = 2 := by rintro ss R (⟨_, k, rfl⟩ | ⟨_, t, ts, k, _, rfl⟩) <;> rfl
theorem lenx_deepest : ∀ ss x, spx_deepest ss x → ss.length = 1 := by rintro ss R ⟨_, rfl⟩; rfl
theorem lenx_depth : ∀ ss x, spx_depth ss x → ss.length = 2 := by rintro ss R ⟨_, s, rfl⟩; rfl
theorem ok_lesser : ∀ ss R, sp_lesser ss R → w_lesser { nx := fun _ => R (.t .non), rt := R } (startD ["one", "other"] ss) := by
  rintro ss R ⟨⟨x, y⟩, ⟨u, v⟩, rfl, ⟨z1, z2⟩, ⟨z3, z4⟩, h⟩
  dsimp only at z1 z2 z3 z4
  have o1 : ∀ {a : Int}, Sz 120 a → SzF 60000 (a, 1) := fun {a} s => ⟨s.mono (by decide), ⟨by show 1 < 2 ^ 60000; exact Nat.one_lt_two_pow (by decide)⟩⟩
  show w_lesser _ [some (.t (.tup [.tup [.int x, .int 1], .tup [.int y, .int 1]])), some (.t (.tup [.tup [.int u, .int 1], .tup [.int v, .int 1]]))]
  unfold w_lesser
  walk_at "dl"
  split
  · exact ⟨(y, 1), (v, 1), rfl, o1 z2, o1 z4, h _⟩
  · exact ⟨(x, 1), (u, 1), rfl, o1 z1, o1 z3, h _⟩
theorem pv_spt {L : List Pt} {k : Nat} (hk : k < L.length) : atI (L.map sptT) ((k : Int) - 1) = some (sptT (pvG L k hk)) := by
  unfold pvG
  by_cases h0 : k = 0
  · subst h0
    rw [dif_pos rfl]
    have e : ixN (L.map sptT).length (-1) = some (L.length - 1) := by
      unfold ixN
      rw [List.length_map, if_neg (by decide), if_pos (by omega)]
      congr 1; omega
    show (ixN (L.map sptT).length (-1)).bind _ = _
    rw [e]
    show (L.map sptT)[L.length - 1]? = _
    rw [List.getElem?_map, List.getElem?_eq_getElem (by omega)]; rfl
  · rw [dif_neg h0]
    have : (k : Int) - 1 = ((k - 1 : Nat) : Int) := by omega
    rw [this]
    exact atI_of (by rw [List.getElem?_map, List.getElem?_eq_getElem (by omega)]; rfl)
theorem ok_sides : ∀ ss R, sp_sides ss R → w_sides { nx := fun _ => R (.t .non), rt := R } (startD ["region"] ss) := by
  rintro ss R ⟨L, rfl, hl, h⟩
  show w_sides _ [some (.t (.lst (L.map sptT)))]
  unfold w_sides
  walk_at "dl"
  refine ⟨rngOk (by omega) (by rw [List.length_map]; omega), ?_⟩
  rw [List.length_map, Int.toNat_natCast]
  let pr : Nat → Pt × Pt := fun k => if hk : k < L.length then (pvG L k hk, L[k]) else ((0, 0), (0, 0))
  refine comp_map (f := fun k : Nat => .int (0 + (k : Int))) (h := fun k => prT (pr k)) (l := List.range L.length) (fun δ => ∃ r, δ = [r, some (.t (.lst (L.map sptT)))]) (fun k _ => pur_prT _) (by rw [List.length_range]; omega) ⟨_, rfl⟩ ?_ ?_
  · rintro k hk δ ⟨r, rfl⟩ Y hY
    have hk := List.mem_range.mp hk
    have e : pr k = (pvG L k hk, L[k]) := dif_pos hk
    rw [Int.zero_add]
    walk_at "dl"
    rw [atT_of (pv_spt hk)]
    walk_at "dl"
    rw [atT_of (atI_of (n := k) (x := sptT L[k]) (by rw [List.getElem?_map, List.getElem?_eq_getElem hk]; rfl))]
    rw [e] at hY
    exact hY _ ⟨_, rfl⟩
  · have e : (List.range L.length).map (fun k => prT (pr k)) = ((List.range L.length).map pr).map prT := by rw [List.map_map]; rfl
    rw [e]
    refine h _ ?_ fun q hq => ?_
    · apply List.ext_getElem?
      intro i
      rw [List.map_map, List.getElem?_map]
      rcases Nat.lt_or_ge i L.length with hi | hi
      · rw [List.getElem?_range hi, List.getElem?_eq_getElem hi]
        show some (pr i).2 = _
        rw [show pr i = (pvG L i hi, L[i]) from dif_pos hi]
      · rw [List.getElem?_eq_none (by simpa using hi), List.getElem?_eq_none hi]; rfl
    · obtain ⟨k, hk, rfl⟩ := List.mem_map.mp hq
      have hk := List.mem_range.mp hk
      rw [show pr k = (pvG L k hk, L[k]) from dif_pos hk]
      exact pv_mem hk
theorem ok_from_least : ∀ ss R, sp_from_least ss R → w_from_least { nx := fun _ => R (.t .non), rt := R } (startD ["corners", "first", "place"] ss) := by
  rintro ss R ⟨L, rfl, hl, hz, h⟩
  show w_from_least _ [some (.t (.lst (L.map sptT))), none, none]
  unfold w_from_least
  walk_at "dl"
  let M : DSt → Prop := fun δ => ∃ (f : Nat) (r : Option S), δ = [some (.t (.lst (L.map sptT))), some (.t (.int f)), r] ∧ (L ≠ [] → f < L.length) ∧ (L = [] → f = 0)
  refine ⟨M, ?_, ?_⟩
  · walk_at "dl"
    refine ⟨rngOk (by omega) (by rw [List.length_map]; omega), for_rng M ⟨0, _, rfl, fun hn => List.length_pos_iff.mpr hn, fun _ => rfl⟩ (fun δ h => h) ?_⟩
    rintro k hk δ ⟨f, r, rfl, hf, _⟩ N hN
    rw [List.length_map] at hk
    have hk1 : k < L.length := by omega
    have hne : L ≠ [] := fun e => by rw [e] at hk1; simp at hk1
    have hf1 := hf hne
    rw [Int.zero_add]
    walk_at "dl"
    rw [atT_of (atI_of (n := k) (x := sptT L[k]) (by rw [List.getElem?_map, List.getElem?_eq_getElem hk1]; rfl))]
    walk_at "dl"
    rw [atT_of (atI_of (n := f) (x := sptT L[f]) (by rw [List.getElem?_map, List.getElem?_eq_getElem hf1]; rfl))]
    walk_at "dl"
    refine ⟨L[k], L[f], rfl, hz _ (List.getElem_mem _), hz _ (List.getElem_mem _), fun b => ?_⟩
    walk_at "dl"
    split
    · exact hN _ ⟨k, _, rfl, fun _ => hk1, fun e => absurd e hne⟩
    · exact hN _ ⟨f, _, rfl, hf, fun e => absurd e hne⟩
  · rintro δ ⟨f, r, rfl, hf, hf0⟩
    walk_at "dl"
    have hfl : f ≤ L.length := by
      by_cases e : L = []
      · rw [hf0 e]; omega
      · exact Nat.le_of_lt (hf e)
    have c1 : cutT (L.map sptT) (some (f : Int)) none = (L.drop f).map sptT := by
      unfold cutT
      rw [HT.sIx_nat, HT.sIx_none, List.length_map, Nat.min_eq_left hfl, ← List.map_drop, ← List.map_take]
      rw [List.take_of_length_le (by rw [List.length_drop]; omega)]
    have c2 : cutT (L.map sptT) none (some (f : Int)) = (L.take f).map sptT := by
      unfold cutT
      rw [HT.sIx_nat, HT.sIx_none, List.length_map, Nat.min_eq_left hfl, List.drop_zero, Nat.sub_zero, ← List.map_take]
    rw [c1, c2, ← List.map_append]
    refine ⟨by simp only [List.length_map, List.length_drop, List.length_take]; omega, h _ (fun p hp => ?_) ?_⟩
    · rcases List.mem_append.mp hp with hp | hp
      · exact List.mem_of_mem_drop hp
      · exact List.mem_of_mem_take hp
    · simp only [List.length_append, List.length_drop, List.length_take]; omega
theorem sgn_ge {x : Int} (h : 0 ≤ x) : 0 ≤ sgn x ∧ sgn x ≤ 1 := by
  unfold sgn
  split
  · omega
  · split <;> omega
theorem ok_clipped : ∀ ss R, sp_clipped ss R → w_clipped { nx := fun _ => R (.t .non), rt := R } (startD ["region", "half", "kept", "pair", "spot"] ss) := by
  rintro ss R ⟨L, hf, rfl, hl, hz, hh, hin, h⟩
  show w_clipped _ [some (.t (.lst (L.map sptT))), some (.t (hfT hf)), none, none, none]
  unfold w_clipped
  walk_at "dl"
  have hS : ∀ p ∈ L, SzS 60000 (asV p) := fun p hp => szs_of ((hz p hp).mono3 (by decide)) (by decide)
  have hH : SzH 300000 hf := szh_mono hh (by decide)
  refine ⟨fun δ => ∃ r3, δ = [some (.t (.lst (L.map sptT))), some (.t (hfT hf)), some (.ol (L.map sptT)), r3, none], ?_, ?_⟩
  · refine ⟨L, rfl, hl, fun prs e1 e2 => ?_⟩
    dsimp only
    rw [e_gotO _ (purs_map (fun q => pur_prT q) prs)]
    walk_at "dl"
    refine ⟨fun ts δ => ∃ pre post r3, prs = pre ++ post ∧ ts = post.map prT ∧ δ = [some (.t (.lst (L.map sptT))), some (.t (hfT hf)), some (.ol ((pre.map (·.2)).map sptT)), r3, none], ⟨[], prs, _, rfl, rfl, rfl⟩, ?_, ?_⟩
    · rintro δ ⟨pre, post, r3, e3, e4, rfl⟩
      have : post = [] := by simpa using e4.symm
      subst this
      rw [List.append_nil] at e3
      subst e3
      exact ⟨r3, by rw [e1]; rfl⟩
    · rintro x ts δ ⟨pre, post, r3, e3, e4, rfl⟩
      cases post with
      | nil => cases e4
      | cons q post =>
        rw [List.map_cons] at e4
        cases e4
        have q1 : q.1 ∈ L := e2 q (by rw [e3]; simp)
        have q2 : q.2 ∈ L := by rw [← e1]; exact List.mem_map.mpr ⟨q, by rw [e3]; simp, rfl⟩
        have s1 := sgn_ge (hin _ q1)
        have s2 := sgn_ge (hin _ q2)
        have hpl : pre.length ≤ 200 := by
          have : L.length = pre.length + (post.length + 1) := by rw [← e1, e3]; simp
          omega
        show wgName 3 (.tup [sptT q.1, sptT q.2]) _ _
        walk_at "dl"
        refine ⟨fun δ => δ = [some (.t (.lst (L.map sptT))), some (.t (hfT hf)), some (.ol ((pre.map (·.2)).map sptT)), some (.t (.tup [sptT q.1, sptT q.2])), none], ?_, ?_⟩
        · walk_at "dl"
          refine ⟨hf, asV q.1, rfl, hH, hS _ q1, hf, asV q.2, rfl, hH, hS _ q2, ?_⟩
          walk_at "dl"
          refine ⟨mulL (by omega) (by omega), ?_⟩
          rw [if_neg (by have := Int.mul_nonneg s1.1 s2.1; omega)]
          trivial
        · rintro δ rfl
          walk_at "dl"
          refine ⟨hf, asV q.2, rfl, hH, hS _ q2, ?_⟩
          walk_at "dl"
          rw [if_pos (by omega)]
          refine ⟨by rw [List.length_map, List.length_map]; omega, pre ++ [q], post, some (.t (.tup [sptT q.1, sptT q.2])), by rw [e3]; simp, rfl, ?_⟩
          rw [List.map_append, List.map_append]; rfl
  · rintro δ ⟨r3, rfl⟩
    walk_at "dl"
    refine ⟨L, rfl, hl, hz, fun L' h1 h2 => ?_⟩
    dsimp only
    rw [e_gotO _ (purs_map (fun p => pur_sptT p) L')]
    walk_at "dl"
    exact h L' h1 h2
theorem ok_upright_and_level : ∀ ss R, sp_upright_and_level ss R → w_upright_and_level { nx := fun _ => R (.t .non), rt := R } (startD ["point", "x", "y"] ss) := by
  rintro ss R ⟨⟨x, y⟩, rfl, h⟩
  show w_upright_and_level _ [some (.t (.tup [.int x, .int y])), none, none]
  unfold w_upright_and_level
  walk_at "dl"
  exact h
theorem ok_need_points : ∀ ss R, sp_need_points ss R → w_need_points { nx := fun _ => R (.t .non), rt := R } (startD ["points"] ss) := by
  rintro ss R ⟨t, ts, rfl, h⟩
  show w_need_points _ [some (.t (.lst (t :: ts)))]
  unfold w_need_points
  walk_at "dl"
  rw [if_neg (by omega)]
  exact h
theorem okx_need_points : ∀ ss x, spx_need_points ss x → wx_need_points (fun y _ => y = x) { nx := fun _ => False, rt := fun _ => False } (startD ["points"] ss) := by
  rintro ss x ⟨rfl, rfl⟩
  show wx_need_points _ _ [some (.t (.lst []))]
  unfold wx_need_points
  walk_at "go"
  simp
theorem okx_strong : ∀ ss x, spx_strong ss x → wx_strong (fun y _ => y = x) { nx := fun _ => False, rt := fun _ => False } (startD ["points", "many"] ss) := by
  rintro ss x ⟨rfl, s, rfl⟩
  show wx_strong _ _ [some (.t (.lst [])), some s]
  unfold wx_strong
  exact ⟨_, ⟨rfl, rfl⟩, rfl⟩
theorem okx_deepest : ∀ ss x, spx_deepest ss x → wx_deepest (fun y _ => y = x) { nx := fun _ => False, rt := fun _ => False } (startD ["points", "k", "halves", "weights", "asked", "told"] ss) := by
  rintro ss x ⟨rfl, rfl⟩
  show wx_deepest _ _ [some (.t (.lst [])), none, none, none, none, none]
  unfold wx_deepest
  exact ⟨_, ⟨rfl, rfl⟩, rfl⟩
theorem okx_depth : ∀ ss x, spx_depth ss x → wx_depth (fun y _ => y = x) { nx := fun _ => False, rt := fun _ => False } (startD ["points", "spot", "ways", "emptiest"] ss) := by
  rintro ss x ⟨rfl, s, rfl⟩
  show wx_depth _ _ [some (.t (.lst [])), some s, none, none]
  unfold wx_depth
  walk_at "go"
  rw [if_pos (by rfl), if_pos (by decide)]
  trivial
theorem okx_region : ∀ ss x, spx_region ss x → wx_region (fun y _ => y = x) { nx := fun _ => False, rt := fun _ => False } (startD ["points", "k", "part", "found"] ss) := by
  rintro ss x (⟨rfl, k, rfl⟩ | ⟨rfl, t, ts, k, hk, rfl⟩)
  · show wx_region _ _ [some (.t (.lst [])), some (.t (.int k)), none, none]
    unfold wx_region
    exact .inl ⟨_, ⟨rfl, rfl⟩, rfl⟩
  · show wx_region _ _ [some (.t (.lst (t :: ts))), some (.t (.int k)), none, none]
    unfold wx_region
    refine .inr ⟨t, ts, rfl, ?_⟩
    walk_at "go"
    rw [if_pos hk, if_pos (by decide)]
    trivial
def hl3 (h : Hf) : List Int := [h.1, h.2.1, h.2.2]
theorem hl3_list {hs : List Hf} : ∀ ns : List (List Int), (∀ k ∈ ns, k ∈ hs.map hl3) → ∃ gs : List Hf, ns = gs.map hl3 ∧ ∀ g ∈ gs, g ∈ hs
  | [], _ => ⟨[], rfl, fun p hp => by cases hp⟩
  | k :: ns, h => by
    obtain ⟨gs, e, hg⟩ := hl3_list ns fun k hk => h k (List.mem_cons_of_mem _ hk)
    obtain ⟨p, hp, rfl⟩ := List.mem_map.mp (h k List.mem_cons_self)
    exact ⟨p :: gs, by rw [e]; rfl, fun q hq => by
      rcases List.mem_cons.mp hq with rfl | hq
      · exact hp
      · exact hg q hq⟩
theorem lex_nodupL {ns : List (List Int)} (h : ns.Pairwise (fun a b => ST.lexB a b = true)) : ns.Nodup := h.imp fun h e => by
  subst e
  rw [ST.lex_irr] at h
  exact nomatch h
theorem bt_sz {p q : Pt} (hp : SzF 100 p) (hq : SzF 100 q) : SzH 4000 (btV p q) := by
  have s1 : Sz 101 (p.2 - q.2) := (Sz.sub hp.2 hq.2).mono (by decide)
  have s2 : Sz 101 (q.1 - p.1) := (Sz.sub hq.1 hp.1).mono (by decide)
  have s3 : Sz 300 ((p.2 - q.2) * p.1 + (q.1 - p.1) * p.2) := (Sz.add (Sz.mul s1 hp.1) (Sz.mul s2 hp.2)).mono (by decide)
  exact ⟨(s1.fdiv _).mono (by decide), (s2.fdiv _).mono (by decide), (s3.fdiv _).mono (by decide)⟩
theorem ul_sz {p : Pt} (hp : SzF 100 p) : ∀ h ∈ ulV p, SzH 4000 h := by
  have o0 : ∀ {a : Int}, a = 0 ∨ a = 1 ∨ a = -1 → Sz 4000 a := fun {a} h => ⟨by
    have : a.natAbs ≤ 1 := by omega
    exact Nat.lt_of_le_of_lt this (Nat.one_lt_two_pow (by decide))⟩
  intro h hh
  simp only [ulV, List.mem_cons, List.not_mem_nil, or_false] at hh
  rcases hh with rfl | rfl | rfl | rfl
  · exact ⟨o0 (.inr (.inl rfl)), o0 (.inl rfl), hp.1.mono (by decide)⟩
  · exact ⟨o0 (.inr (.inr rfl)), o0 (.inl rfl), hp.1.neg.mono (by decide)⟩
  · exact ⟨o0 (.inl rfl), o0 (.inr (.inl rfl)), hp.2.mono (by decide)⟩
  · exact ⟨o0 (.inl rfl), o0 (.inr (.inr rfl)), hp.2.neg.mono (by decide)⟩
theorem ok_bordered : ∀ ss R, sp_bordered ss R → w_bordered { nx := fun _ => R (.t .non), rt := R } (startD ["points", "found", "one", "other"] ss) := by
  rintro ss R ⟨ps, rfl, hl, hz, h⟩
  show w_bordered _ [some (.t (.lst (ps.map ptT))), none, none, none]
  unfold w_bordered
  walk_at "dl"
  refine ⟨fun δ => ∃ (hs : List Hf) (r2 r3 : Option S), δ = [some (.t (.lst (ps.map ptT))), some (.ol (hs.map hfT)), r2, r3] ∧ hs.length ≤ 45 ∧ ∀ h ∈ hs, SzH 4000 h, ?_, ?_⟩
  · refine ⟨fun ts δ => ∃ (pre post : List Pt) (hs : List Hf) (r2 r3 : Option S), ps = pre ++ post ∧ ts = post.map ptT ∧ δ = [some (.t (.lst (ps.map ptT))), some (.ol (hs.map hfT)), r2, r3] ∧ hs.length ≤ pre.length * 9 ∧ ∀ h ∈ hs, SzH 4000 h, ⟨[], ps, [], _, _, rfl, rfl, rfl, by simp, fun h hh => by cases hh⟩, ?_, ?_⟩
    · rintro δ ⟨pre, post, hs, r2, r3, e1, e2, rfl, h1, h2⟩
      have : post = [] := by simpa using e2.symm
      subst this
      rw [List.append_nil] at e1
      subst e1
      exact ⟨hs, r2, r3, rfl, by omega, h2⟩
    · rintro x ts δ ⟨pre, post, hs, r2, r3, e1, e2, rfl, h1, h2⟩
      cases post with
      | nil => cases e2
      | cons p post =>
        rw [List.map_cons] at e2
        cases e2
        have hpz : SzF 100 p := hz p (by rw [e1]; simp)
        have hln : ps.length = pre.length + (post.length + 1) := by rw [e1]; simp
        walk_at "dl"
        refine ⟨p, rfl, ?_⟩
        dsimp only
        rw [e_gotO _ (purs_map (fun _ => rfl) _)]
        walk_at "dl"
        refine ⟨by simp only [List.length_map]; show hs.length + 4 < 100000; omega, ?_⟩
        rw [← List.map_append]
        refine ⟨fun ts δ => ∃ (p2 q2 : List Pt) (gs : List Hf) (r3 : Option S), ps = p2 ++ q2 ∧ ts = q2.map ptT ∧ δ = [some (.t (.lst (ps.map ptT))), some (.ol (gs.map hfT)), some (.t (ptT p)), r3] ∧ gs.length ≤ hs.length + 4 + p2.length ∧ ∀ h ∈ gs, SzH 4000 h, ⟨[], ps, hs ++ ulV p, _, rfl, rfl, rfl, by simp [ulV], fun h hh => ?_⟩, ?_, ?_⟩
        · rcases List.mem_append.mp hh with hh | hh
          · exact h2 h hh
          · exact ul_sz hpz h hh
        · rintro δ ⟨p2, q2, gs, r3, e3, e4, rfl, h3, h4⟩
          have : q2 = [] := by simpa using e4.symm
          subst this
          rw [List.append_nil] at e3
          subst e3
          exact ⟨pre ++ [p], post, gs, _, _, by rw [List.append_assoc]; exact e1, rfl, rfl, by rw [List.length_append, List.length_singleton]; omega, h4⟩
        · rintro x ts δ ⟨p2, q2, gs, r3, e3, e4, rfl, h3, h4⟩
          cases q2 with
          | nil => cases e4
          | cons q q2 =>
            rw [List.map_cons] at e4
            cases e4
            have hqz : SzF 100 q := hz q (by rw [e3]; simp)
            have hln2 : ps.length = p2.length + (q2.length + 1) := by rw [e3]; simp
            walk_at "dl"
            by_cases hpq : p.1 = q.1 ∧ p.2 = q.2
            · rw [decide_eq_true hpq, if_neg (by decide)]
              exact ⟨p2 ++ [q], q2, gs, _, by rw [List.append_assoc]; exact e3, rfl, rfl, by rw [List.length_append, List.length_singleton]; omega, h4⟩
            · rw [decide_eq_false hpq, if_pos (by decide)]
              refine ⟨p, q, rfl, fun e => hpq ⟨by rw [e], by rw [e]⟩, hpz.mono3 (by decide), hqz.mono3 (by decide), ?_⟩
              walk_at "dl"
              refine ⟨by rw [List.length_map]; omega, p2 ++ [q], q2, gs ++ [btV p q], _, by rw [List.append_assoc]; exact e3, rfl, by rw [List.map_append]; rfl, by rw [List.length_append, List.length_singleton, List.length_append, List.length_singleton]; omega, fun g hg => ?_⟩
              rcases List.mem_append.mp hg with hg | hg
              · exact h4 g hg
              · rw [List.mem_singleton.mp hg]; exact bt_sz hpz hqz
  · rintro δ ⟨hs, r2, r3, rfl, h1, h2⟩
    walk_at "dl"
    refine ⟨3, hs.map hl3, by decide, by rw [List.map_map]; rfl, fun ks hk => by obtain ⟨p, _, rfl⟩ := List.mem_map.mp hk; rfl, by rw [List.length_map]; omega, fun ns n1 n2 n3 => ?_⟩
    obtain ⟨gs, rfl, hg⟩ := hl3_list ns n1
    have hgl : gs.length ≤ hs.length := by
      have := List.Nodup.length_le_of_subset (lex_nodupL n3) n1
      simpa using this
    have e : (gs.map hl3).map tupI = gs.map hfT := by rw [List.map_map]; rfl
    rw [e]
    walk_at "dl"
    exact h gs (by omega) fun g hg' => h2 g (hg g hg')
theorem ok_strong : ∀ ss R, sp_strong ss R → w_strong { nx := fun _ => R (.t .non), rt := R } (startD ["points", "many"] ss) := by
  rintro ss R ⟨ps, m, rfl, hne, hl, hz, h⟩
  obtain ⟨p0, pr, rfl⟩ : ∃ p0 pr, ps = p0 :: pr := by
    cases ps with
    | nil => exact absurd rfl hne
    | cons a b => exact ⟨a, b, rfl⟩
  show w_strong _ [some (.t (.lst ((p0 :: pr).map ptT))), some (.t (.int m))]
  unfold w_strong
  generalize hps : p0 :: pr = ps at *
  have hnp : ∀ R : S → Prop, R (.t .non) → sp_need_points [.t (.lst (ps.map ptT))] R := fun R hR => ⟨ptT p0, pr.map ptT, by rw [← hps]; rfl, hR⟩
  walk_at "dl"
  refine hnp _ ?_
  walk_at "dl"
  refine ⟨ps, rfl, hl, hz, fun hs hs1 hs2 => ?_⟩
  dsimp only
  rw [e_gotO _ (purs_map (fun _ => rfl) _)]
  walk_at "dl"
  refine comp_filter (f := hfT) (h := hfT) (p := fun g => decide (m ≤ manyV g ps)) (fun δ => ∃ r, δ = [r, some (.t (.lst (ps.map ptT))), some (.t (.int m))]) (fun _ _ => rfl) (by omega) ⟨_, rfl⟩ ?_ ?_
  · rintro g hg δ ⟨r, rfl⟩ Y N h1 h2
    walk_at "dl"
    refine ⟨g, ps, rfl, szh_mono (hs2 g hg) (by decide), fun p hp => (hz p hp).mono3 (by decide), by omega, ?_⟩
    walk_at "dl"
    split
    · rename_i hc
      exact h1 _ ⟨_, rfl⟩ (by simpa using hc)
    · rename_i hc
      exact h2 _ ⟨_, rfl⟩ (by simpa using hc)
  · walk_at "dl"
    refine h _ (Nat.le_trans (List.length_filter_le ..) hs1) fun g hg => ?_
    obtain ⟨a, b⟩ := List.mem_filter.mp hg
    exact ⟨hs2 g a, by simpa using b⟩
theorem ex_ge {h : Hf} {p : Pt} (hp : hasP h p = true) : 0 ≤ exV h (asV p) := by
  unfold hasP at hp
  unfold exV asV
  simp only [Int.mul_one, decide_eq_true_eq] at hp ⊢
  omega
theorem ok_region : ∀ ss R, sp_region ss R → w_region { nx := fun _ => R (.t .non), rt := R } (startD ["points", "k", "part", "found"] ss) := by
  rintro ss R ⟨ps, rfl, hne, hl, hz, h⟩
  obtain ⟨p0, pr, rfl⟩ : ∃ p0 pr, ps = p0 :: pr := by
    cases ps with
    | nil => exact absurd rfl hne
    | cons a b => exact ⟨a, b, rfl⟩
  show w_region _ [some (.t (.lst ((p0 :: pr).map ptT))), some (.t (.int 1)), none, none]
  unfold w_region
  generalize hps : p0 :: pr = ps at *
  have hlen : 1 ≤ ps.length := by rw [← hps]; simp
  have hnp : ∀ R : S → Prop, R (.t .non) → sp_need_points [.t (.lst (ps.map ptT))] R := fun R hR => ⟨ptT p0, pr.map ptT, by rw [← hps]; rfl, hR⟩
  walk_at "dl"
  refine hnp _ ?_
  walk_at "dl"
  rw [if_neg (by decide)]
  walk_at "dl"
  rw [if_neg (by rw [List.length_map]; omega)]
  walk_at "dl"
  refine ⟨ps, rfl, by omega, fun p hp => (hz p hp).mono3 (by decide), fun S1 hS1 => ?_⟩
  dsimp only
  have g2 : ∀ l : List Pt, got (.ol (l.map sptT)) = .ol (l.map sptT) := fun l => e_gotO _ (purs_map (fun p => pur_sptT p) l)
  rw [g2]
  walk_at "dl"
  have hH : (∀ p ∈ hullV S1, p ∈ ps) ∧ (hullV S1).length ≤ 200 := by
    have hl1 : S1.length ≤ 5 := Nat.le_trans (List.Nodup.length_le_of_subset (lex_nodup hS1.2.2) hS1.1) hl
    unfold hullV
    split
    · exact ⟨hS1.1, by omega⟩
    · unfold hullL
      have a1 := chS_len S1
      have a2 := chS_len S1.reverse
      rw [List.length_reverse] at a2
      refine ⟨fun p hp => ?_, by simp only [List.length_append, List.length_dropLast, List.length_reverse]; omega⟩
      rcases List.mem_append.mp hp with hp | hp
      · exact hS1.1 p (chS_sub S1 p (List.mem_reverse.mp ((List.dropLast_sublist _).subset hp)))
      · exact hS1.1 p (List.mem_reverse.mp (chS_sub S1.reverse p (List.mem_reverse.mp ((List.dropLast_sublist _).subset hp))))
  generalize hullV S1 = L at hH
  let M : DSt → Prop := fun δ => ∃ (L : List Pt) (r3 : Option S), δ = [some (.t (.lst (ps.map ptT))), some (.t (.int 1)), some (.ol (L.map sptT)), r3] ∧ (∀ p ∈ L, p ∈ ps) ∧ L.length ≤ 200
  refine ⟨M, ?_, ?_⟩
  · refine ⟨ps, _, rfl, by rw [← hps]; simp, hl, hz, fun hs hs1 hs2 => ?_⟩
    dsimp only
    rw [e_gotO _ (purs_map (fun _ => rfl) _)]
    walk_at "dl"
    refine for_all M ⟨L, _, rfl, hH.1, hH.2⟩ (fun δ h => h) ?_
    rintro g hg δ ⟨L, r3, rfl, hL1, hL2⟩ N hN
    obtain ⟨gz, gm⟩ := hs2 g hg
    have hall : ∀ p ∈ ps, hasP g p = true := by
      have e : manyV g ps = ps.length := by
        have := List.countP_le_length (p := hasP g) (l := ps)
        unfold manyV at gm ⊢
        rw [List.length_map] at gm
        omega
      exact List.countP_eq_length.mp e
    walk_at "dl"
    refine ⟨L, g, rfl, hL2, fun p hp => (hz p (hL1 p hp)).mono3 (by decide), gz, fun p hp => ex_ge (hall p (hL1 p hp)), fun L' h1 h2 => ?_⟩
    dsimp only
    rw [g2]
    walk_at "dl"
    exact hN _ ⟨L', _, rfl, fun p hp => hL1 p (h1 p hp), by omega⟩
  · rintro δ ⟨L, r3, rfl, _, _⟩
    walk_at "dl"
    exact h L
end Law

set_option Elab.async false
set_option linter.all false
set_option maxRecDepth 100000
namespace Law
open L2 DL
set_option maxHeartbeats 4000000
/-! the law's own numbers and points (k44) -/
theorem atT_at {α : Type} {f : α → T} {l : List α} {k : Nat} {x : α} {R : S → Prop} (e : l[k]? = some x) : atT (l.map f) (k : Int) R = R (.t (f x)) :=
  atT_of (atI_of (by rw [List.getElem?_map, e]; rfl))
theorem rngT_succ (k n : Nat) : rngT (k : Int) (n + 1) = .int k :: rngT ((k + 1 : Nat) : Int) n := by
  unfold rngT
  rw [List.range_succ_eq_map, List.map_cons, List.map_map]
  congr 1
  · simp
    intro a _
    omega
theorem for_rngI {g : WG} {wb : WS} {D : DEnds} {δ : DSt} {n m : Nat} (e : m = n) (I : Nat → DSt → Prop) (h0 : I 0 δ) (hend : ∀ δ, I n δ → D.nx δ)
    (hstep : ∀ k δ, k < n → I k δ → g (.int (k : Int)) δ fun δ1 => wb { nx := I (k + 1), rt := D.rt, bk := D.nx, ct := I (k + 1) } δ1) : forI g wb (rngT 0 m) D δ := by
  subst e
  refine ⟨fun ts δ => ∃ k j : Nat, ts = rngT (k : Int) j ∧ k + j = m ∧ I k δ, ⟨0, m, rfl, by omega, h0⟩, ?_, ?_⟩
  · rintro δ ⟨k, j, e, hk, h⟩
    cases j with
    | zero => exact hend δ (by rw [Nat.add_zero] at hk; rw [← hk]; exact h)
    | succ j => rw [rngT_succ] at e; cases e
  · rintro x r δ ⟨k, j, e, hk, h⟩
    cases j with
    | zero => cases e
    | succ j =>
      rw [rngT_succ] at e
      obtain ⟨rfl, rfl⟩ := List.cons.inj e
      have q := hstep k δ (by omega) h
      have z : I (k + 1) = fun δ => ∃ k' j' : Nat, rngT ((k + 1 : Nat) : Int) j = rngT (k' : Int) j' ∧ k' + j' = m ∧ I k' δ := by
        funext δ'
        refine propext ⟨fun hi => ⟨k + 1, j, rfl, by omega, hi⟩, ?_⟩
        rintro ⟨k', j', e', hk', hi⟩
        have := congrArg List.length e'
        rw [len_rngT, len_rngT] at this
        have : k' = k + 1 := by omega
        rw [← this]; exact hi
      show g _ δ fun δ1 => wb { nx := fun δ => ∃ k' j' : Nat, rngT ((k + 1 : Nat) : Int) j = rngT (k' : Int) j' ∧ k' + j' = m ∧ I k' δ, rt := D.rt, bk := D.nx, ct := fun δ => ∃ k' j' : Nat, rngT ((k + 1 : Nat) : Int) j = rngT (k' : Int) j' ∧ k' + j' = m ∧ I k' δ } δ1
      rw [← z]
      exact q
theorem six_at {i : Nat} {δ : DSt} {N : DSt → Prop} {vs : List Int} {x : Int} {j : Nat} (h : j < vs.length) : sixK i δ N (vs.map .int) (.t (.int x)) (.t (.int (j : Int))) = N (δ.set i (some (.ol ((vs.set j x).map .int)))) := by
  have : ixN (vs.map T.int).length (j : Int) = some j := by unfold ixN; rw [if_pos (by omega), if_pos (by rw [List.length_map]; omega)]; rfl
  show (match ixN _ _ with | some j => _ | none => False) = _
  rw [this, List.map_set]
abbrev big : Int := 1000000000000000000000000000000000000000000000000000000000007
theorem big_pos : (0 : Int) < big := by decide
def sp_l_numbers : DSpec := fun ss R => ∃ (ns : List Int) (m : Nat), ss = [.t (.lst (ns.map .int)), .t (.int (m : Int))] ∧ ns.length ≤ 63 ∧ 0 < m ∧ m ≤ 100 ∧ ∀ vs : List Int, vs.length = m → (∀ v ∈ vs, 0 ≤ v ∧ v < big) → R (.ol (vs.map .int))
def sp_l_digit : DSpec := fun ss R => ∃ n b k : Int, ss = [.t (.int n), .t (.int b), .t (.int k)] ∧ b = 5 ∧ 0 ≤ k ∧ k < 1000 ∧ ∀ v : Int, R (.t (.int v))
def sp_l_points : DSpec := fun ss R => ∃ (hd : List Int) (m : Int), ss = [.t (.lst (hd.map .int)), .t (.int m)] ∧ hd.length = 10 ∧ (∀ v ∈ hd, 0 ≤ v ∧ v < big) ∧ 1 ≤ m ∧ m ≤ 5 ∧ ∀ ps : List Pt, ps.length = m.toNat → (∀ p ∈ ps, SzF 100 p) → R (.ol (ps.map ptT))
/-- _law_numbers(_law_script, _law_many): 0 _law_script, 1 _law_many, 2 _law_found, 3 _law_k, 4 _law_cell, 5 _law_at -/
def w_l_numbers : WS :=
 (wSeq (wSet 2 (wComp 1 [] (wiRng1 (wCons (wVar 1) wNil)) (wgName 0) wYes (wC (.int 0))))
 (wSeqM (wFor (wiRng1 (wCons (wCB fMax2 (wCons (wVar 1) (wCons (wCB fMin2 (wCons (wCB fLen (wCons (wVar 0) wNil)) (wCons (wC (.int 63)) wNil))) wNil))) wNil)) (wgName 3) (wSeq (wSet 4 (wC (.int 0)))
 (wSeqM (wIf (wB (wGt (wCB fLen (wCons (wVar 0) wNil)) (wC (.int 0)))) (wSet 4 (wMod (wOp2 fIx (wVar 0) (wMod (wVar 3) (wCB fMin2 (wCons (wCB fLen (wCons (wVar 0) wNil)) (wCons (wC (.int 63)) wNil))))) (wAdd (wPow (wC (.int 10)) (wC (.int 60))) (wC (.int 7))))) wNext)
 (wSeq (wSet 5 (wMod (wVar 3) (wVar 1)))
 (wSetIx 2 (wVar 5) (wMod (wAdd (wAdd (wMul (wOp2 fIx (wVar 2) (wVar 5)) (wC (.int 48271))) (wVar 4)) (wMul (wVar 3) (wVar 3))) (wAdd (wPow (wC (.int 10)) (wC (.int 60))) (wC (.int 7)))))))))
 (wRetV 2)))
/-- _law_digit(_law_number, _law_base, _law_place): 0 _law_number, 1 _law_base, 2 _law_place, 3 _law_k -/
def w_l_digit : WS :=
 (wSeqM (wFor (wiRng1 (wCons (wVar 2) wNil)) (wgName 3) (wSet 0 (wFdiv (wVar 0) (wVar 1))))
 (wRet (wMod (wVar 0) (wVar 1))))
/-- _law_points(_law_head, _law_many): 0 _law_head, 1 _law_many, 2 _law_found, 3 _law_way, 4 _law_k, 5 _law_number, 6 _law_x, 7 _law_y -/
def w_l_points : WS :=
 (wSeq (wSet 2 (wLst wNil))
 (wSeq (wSet 3 (wMod (wOp2 fIx (wVar 0) (wC (.int 0))) (wC (.int 8))))
 (wSeqM (wFor (wiRng1 (wCons (wVar 1) wNil)) (wgName 4) (wSeq (wSet 5 (wOp2 fIx (wVar 0) (wAdd (wC (.int 4)) (wVar 4))))
 (wSeq (wSet 6 (wSub (wMod (wVar 5) (wC (.int 7))) (wC (.int 3))))
 (wSeq (wSet 7 (wSub (wMod (wFdiv (wVar 5) (wC (.int 7))) (wC (.int 7))) (wC (.int 3))))
 (wSeqM (wIf (wB (wEq (wVar 3) (wC (.int 1)))) (wSet 7 (wSub (wMul (wC (.int 2)) (wVar 6)) (wC (.int 1)))) wNext)
 (wSeqM (wIf (wB (wEq (wVar 3) (wC (.int 2)))) (wSet 6 (wC (.int 1))) wNext)
 (wSeqM (wIf (wB (wEq (wVar 3) (wC (.int 3)))) (wPar 6 7 (wCons (wSub (wMod (wVar 5) (wC (.int 3))) (wC (.int 1))) (wCons (wSub (wMod (wFdiv (wVar 5) (wC (.int 3))) (wC (.int 3))) (wC (.int 1))) wNil))) wNext)
 (wSeqM (wIf (wB (wGt (wVar 3) (wC (.int 5)))) (wSeq (wSet 6 (wSub (wMod (wVar 5) (wAdd (wMul (wC (.int 2)) (wPow (wC (.int 10)) (wC (.int 18)))) (wC (.int 1)))) (wPow (wC (.int 10)) (wC (.int 18)))))
 (wSet 7 (wSub (wMod (wMul (wVar 5) (wC (.int 69621))) (wAdd (wMul (wC (.int 2)) (wPow (wC (.int 10)) (wC (.int 18)))) (wC (.int 1)))) (wPow (wC (.int 10)) (wC (.int 18)))))) wNext)
 (wSeqM (wIf (wT1 (wAndT (wB (wGt (wVar 4) (wC (.int 0)))) (wB (wEq (wCall sp_l_digit (wCons (wOp2 fIx (wVar 0) (wC (.int 1))) (wCons (wC (.int 5)) (wCons (wVar 4) wNil)))) (wC (.int 1)))))) (wUnp (wOp2 fIx (wVar 2) (wSub (wVar 4) (wC (.int 1)))) (wgTup (wgCons (wgName 6) (wgCons (wgName 7) wgNil)))) wNext)
 (wAppend 2 (wTup (wCons (wVar 6) (wCons (wVar 7) wNil)))))))))))))
 (wRetV 2))))
theorem len_l_numbers : ∀ ss R, sp_l_numbers ss R → ss.length = 2 := by rintro ss R ⟨_, _, rfl, _⟩; rfl
theorem set_all {vs : List Int} {P : Int → Prop} {j : Nat} {x : Int} (h : ∀ v ∈ vs, P v) (hx : P x) : ∀ v ∈ vs.set j x, P v := fun v hv => by
  rcases List.mem_or_eq_of_mem_set hv with z | z
  · exact h v z
  · rw [z]; exact hx
theorem rep_map (m : Nat) : (List.range m).map (fun _ => T.int 0) = (List.replicate m (0 : Int)).map T.int := by
  rw [List.map_replicate]
  exact List.eq_replicate_iff.mpr ⟨by simp, fun b hb => by simp at hb; exact hb.2.symm⟩
theorem ok_l_numbers : ∀ ss R, sp_l_numbers ss R → w_l_numbers { nx := fun _ => R (.t .non), rt := R } (startD ["_law_script", "_law_many", "_law_found", "_law_k", "_law_cell", "_law_at"] ss) := by
  rintro ss R ⟨ns, m, rfl, hl, m0, m1, h⟩
  show w_l_numbers _ [some (.t (.lst (ns.map .int))), some (.t (.int (m : Int))), none, none, none, none]
  unfold w_l_numbers
  walk_at "dl"
  refine ⟨rngOk (by omega) (by omega), ?_⟩
  rw [Int.toNat_natCast]
  refine comp_map (f := fun k : Nat => .int (0 + (k : Int))) (h := fun _ => .int 0) (l := List.range m) (fun δ => ∃ r, δ = [r]) (fun _ _ => rfl) (by rw [List.length_range]; omega) ⟨_, rfl⟩ ?_ ?_
  · rintro k hk δ ⟨r, rfl⟩ Y hY
    walk_at "dl"
    exact hY _ ⟨_, rfl⟩
  rw [rep_map]
  let I : DSt → Prop := fun δ => ∃ (vs : List Int) (r3 r4 r5 : Option S), δ = [some (.t (.lst (ns.map .int))), some (.t (.int (m : Int))), some (.ol (vs.map .int)), r3, r4, r5] ∧ vs.length = m ∧ ∀ v ∈ vs, 0 ≤ v ∧ v < big
  have i0 : ∀ v ∈ List.replicate m (0 : Int), 0 ≤ v ∧ v < big := fun v hv => by
    rw [List.eq_of_mem_replicate hv]; decide
  refine ⟨I, ?_, ?_⟩
  · walk_at "dl"
    simp only [List.length_map]
    refine ⟨rngOk (by (repeat' split) <;> omega) (by (repeat' split) <;> omega), for_rngI rfl (fun _ => I) ⟨_, _, _, _, rfl, by simp, i0⟩ (fun _ z => z) ?_⟩
    rintro k δ hk ⟨vs, r3, r4, r5, rfl, vl, hv⟩
    have hk : k < 1000 := by revert hk; (repeat' split) <;> omega
    walk_at "dl"
    try simp only [List.length_map]
    refine ⟨fun δ => ∃ c : Int, δ = [some (.t (.lst (ns.map .int))), some (.t (.int (m : Int))), some (.ol (vs.map .int)), some (.t (.int k)), some (.t (.int c)), r5] ∧ 0 ≤ c ∧ c < big, ?_, ?_⟩
    · walk_at "dl"
      try simp only [List.length_map]
      split
      · rename_i c
        have hq : ∃ q : Int, (if 63 < (ns.length : Int) then (63 : Int) else ns.length) = q ∧ 0 < q ∧ q ≤ ns.length := ⟨_, rfl, by split <;> omega, by split <;> omega⟩
        obtain ⟨q, eq, q0, q1⟩ := hq
        rw [eq]
        have f1 := fmod_lo (k : Int) q0
        have f2 := fmod_hi (k : Int) q0
        walk_at "dl"
        refine ⟨by omega, atT_ints f1 (by omega) fun v _ => ?_⟩
        walk_at "dl"
        refine ⟨powOk (by decide) (by decide) (by decide), by decide, ?_⟩
        exact ⟨v.fmod big, rfl, fmod_lo v big_pos, fmod_hi v big_pos⟩
      · exact ⟨0, rfl, by decide, by decide⟩
    rintro δ ⟨c, rfl, c0, c1⟩
    have ea : (k : Int).fmod (m : Int) = ((k % m : Nat) : Int) := fmod_nat k m
    have hj : k % m < vs.length := by rw [vl]; exact Nat.mod_lt _ m0
    have ev : vs[k % m]? = some (vs[k % m]'hj) := List.getElem?_eq_getElem _
    generalize vs[k % m]'hj = v at ev
    walk_at "dl"
    refine ⟨by omega, ?_⟩
    rw [ea]
    rw [atV_of (atI_of (show (vs.map T.int)[k % m]? = some (.int v) by rw [List.getElem?_map, ev]; rfl))]
    walk_at "dl"
    refine ⟨mulR (by decide) (by decide), mulL (by omega) (by omega), powOk (by decide) (by decide) (by decide), by decide, ?_⟩
    rw [six_at hj]
    exact ⟨_, _, _, _, rfl, by rw [List.length_set]; exact vl, set_all hv ⟨fmod_lo (n := big) _ big_pos, fmod_hi (n := big) _ big_pos⟩⟩
  · rintro δ ⟨vs, r3, r4, r5, rfl, vl, hv⟩
    walk_at "dl"
    exact h vs vl hv
theorem len_l_digit : ∀ ss R, sp_l_digit ss R → ss.length = 3 := by rintro ss R ⟨a, b, c, rfl, _⟩; rfl
theorem len_l_points : ∀ ss R, sp_l_points ss R → ss.length = 2 := by rintro ss R ⟨a, b, rfl, _⟩; rfl
theorem ok_l_digit : ∀ ss R, sp_l_digit ss R → w_l_digit { nx := fun _ => R (.t .non), rt := R } (startD ["_law_number", "_law_base", "_law_place", "_law_k"] ss) := by
  rintro ss R ⟨n, b, k, rfl, rfl, k0, k1, h⟩
  show w_l_digit _ [some (.t (.int n)), some (.t (.int 5)), some (.t (.int k)), none]
  unfold w_l_digit
  walk_at "dl"
  refine ⟨fun δ => ∃ (v : Int) (r : Option S), δ = [some (.t (.int v)), some (.t (.int 5)), some (.t (.int k)), r], ?_, ?_⟩
  · walk_at "dl"
    refine ⟨rngOk (by omega) (by omega), fun ts δ => ∃ (v : Int) (r : Option S), δ = [some (.t (.int v)), some (.t (.int 5)), some (.t (.int k)), r], ⟨_, _, rfl⟩, fun _ q => q, ?_⟩
    rintro t ts δ ⟨v, r, rfl⟩
    walk_at "dl"
    exact ⟨divOk (by decide) (by decide +kernel), _, _, rfl⟩
  rintro δ ⟨v, r, rfl⟩
  walk_at "dl"
  exact ⟨by decide, h _⟩
theorem hd_at {hd : List Int} {i : Nat} {R : S → Prop} (hl : hd.length = 10) (hi : i < 10) (hb : ∀ v ∈ hd, 0 ≤ v ∧ v < big) (h : ∀ v, 0 ≤ v → v < big → R (.t (.int v))) : atT (hd.map T.int) (i : Int) R := by
  have e : hd[i]? = some (hd[i]'(by omega)) := List.getElem?_eq_getElem _
  rw [atT_at e]
  have := hb _ (List.mem_of_getElem? e)
  exact h _ this.1 this.2
theorem hd_atV {hd : List Int} {i : Nat} {R : S → Prop} (hl : hd.length = 10) (hi : i < 10) (hb : ∀ v ∈ hd, 0 ≤ v ∧ v < big) (h : ∀ v, 0 ≤ v → v < big → R (.t (.int v))) : atV (hd.map T.int) (i : Int) R := by
  have e : hd[i]? = some (hd[i]'(by omega)) := List.getElem?_eq_getElem _
  rw [atV_of (atI_of (show (hd.map T.int)[i]? = some (.int _) by rw [List.getElem?_map, e]; rfl))]
  have := hb _ (List.mem_of_getElem? e)
  exact h _ this.1 this.2
theorem atV_pt {l : List Pt} {k : Nat} {x : Pt} {R : S → Prop} (e : l[k]? = some x) : atV (l.map ptT) (k : Int) R = R (.t (ptT x)) := by
  rw [atV_of (atI_of (x := ptT x) (by rw [List.getElem?_map, e]; rfl))]; rfl
theorem ok_l_points : ∀ ss R, sp_l_points ss R → w_l_points { nx := fun _ => R (.t .non), rt := R } (startD ["_law_head", "_law_many", "_law_found", "_law_way", "_law_k", "_law_number", "_law_x", "_law_y"] ss) := by
  rintro ss R ⟨hd, m, rfl, hl, hb, m0, m1, h⟩
  have dummy : Sz 1 0 := ⟨by decide⟩
  show w_l_points _ [some (.t (.lst (hd.map .int))), some (.t (.int m)), none, none, none, none, none, none]
  unfold w_l_points
  walk_at "dl"
  refine hd_at (i := 0) hl (by decide) hb fun v0 _ _ => ?_
  walk_at "go"
  generalize v0.fmod 8 = way
  let M (n : Nat) : DSt → Prop := fun δ => ∃ (ps : List Pt) (r4 r5 r6 r7 : Option S), δ = [some (.t (.lst (hd.map .int))), some (.t (.int m)), some (.ol (ps.map ptT)), some (.t (.int way)), r4, r5, r6, r7] ∧ ps.length = n ∧ ∀ p ∈ ps, SzF 100 p
  refine ⟨M m.toNat, ?_, ?_⟩
  · walk_at "dl"
    refine ⟨rngOk (by omega) (by omega), for_rngI rfl M ⟨[], _, _, _, _, rfl, rfl, fun p hp => by cases hp⟩ (fun _ z => z) ?_⟩
    rintro k δ hk ⟨ps, r4, r5, r6, r7, rfl, pl, hs⟩
    have hk8 : k < 5 := by omega
    walk_at "dl"
    rw [show (4 + (k : Int)) = ((4 + k : Nat) : Int) by omega]
    refine hd_at (i := 4 + k) hl (by omega) hb fun v v0 v1 => ?_
    have a1 := fmod_lo v (n := 7) (by decide)
    have a2 := fmod_hi v (n := 7) (by decide)
    have a3 := fmod_lo (v.fdiv 7) (n := 7) (by decide)
    have a4 := fmod_hi (v.fdiv 7) (n := 7) (by decide)
    have b1 := fmod_lo v (n := 3) (by decide)
    have b2 := fmod_hi v (n := 3) (by decide)
    have b3 := fmod_lo (v.fdiv 3) (n := 3) (by decide)
    have b4 := fmod_hi (v.fdiv 3) (n := 3) (by decide)
    have c1 := fmod_lo v (n := 2000000000000000001) (by decide)
    have c2 := fmod_hi v (n := 2000000000000000001) (by decide)
    have c3 := fmod_lo (v * 69621) (n := 2000000000000000001) (by decide)
    have c4 := fmod_hi (v * 69621) (n := 2000000000000000001) (by decide)
    let N : DSt → Prop := fun δ => ∃ x y : Int, δ = [some (.t (.lst (hd.map .int))), some (.t (.int m)), some (.ol (ps.map ptT)), some (.t (.int way)), some (.t (.int k)), some (.t (.int v)), some (.t (.int x)), some (.t (.int y))] ∧ Sz 100 x ∧ Sz 100 y
    walk_at "go"
    refine ⟨N, ?_, ?_⟩
    · walk_at "go"
      split
      · walk_at "go"
        exact ⟨_, _, rfl, Sz.of (by omega) (by omega), Sz.of (by omega) (by omega)⟩
      · exact ⟨_, _, rfl, Sz.of (by omega) (by omega), Sz.of (by omega) (by omega)⟩
    rintro δ ⟨x, y, rfl, sx, sy⟩
    walk_at "dl"
    refine ⟨N, ?_, ?_⟩
    · walk_at "go"
      split
      · exact ⟨_, _, rfl, Sz.of (by omega) (by omega), sy⟩
      · exact ⟨_, _, rfl, sx, sy⟩
    clear sx sy x y
    rintro δ ⟨x, y, rfl, sx, sy⟩
    walk_at "dl"
    refine ⟨N, ?_, ?_⟩
    · walk_at "go"
      split
      · walk_at "go"
        exact ⟨_, _, rfl, Sz.of (by omega) (by omega), Sz.of (by omega) (by omega)⟩
      · exact ⟨_, _, rfl, sx, sy⟩
    clear sx sy x y
    rintro δ ⟨x, y, rfl, sx, sy⟩
    walk_at "dl"
    refine ⟨N, ?_, ?_⟩
    · walk_at "go"
      split
      · walk_at "go"
        exact ⟨_, _, rfl, Sz.of (by omega) (by omega), Sz.of (by omega) (by omega)⟩
      · exact ⟨_, _, rfl, sx, sy⟩
    clear sx sy x y
    rintro δ ⟨x, y, rfl, sx, sy⟩
    walk_at "dl"
    refine ⟨N, ?_, ?_⟩
    · walk_at "dl"
      refine ⟨fun b => b = true → 0 < k, ?_, ?_⟩
      · walk_at "dl"
        split
        · refine hd_at (i := 1) hl (by decide) hb fun d0 _ _ => ?_
          walk_at "dl"
          refine ⟨_, 5, k, rfl, rfl, by omega, by omega, fun d => ?_⟩
          walk_at "dl"
          intro _
          omega
        · exact fun z => z.elim
      · rintro b hb1
        walk_at "dl"
        split
        · rename_i hb2
          have k0 := hb1 hb2
          have e : ps[k - 1]? = some (ps[k - 1]'(by omega)) := List.getElem?_eq_getElem _
          have hm := hs _ (List.mem_of_getElem? e)
          generalize ps[k - 1]'(by omega) = q at e hm
          rw [show ((k : Int) - 1) = ((k - 1 : Nat) : Int) by omega, atV_pt e]
          walk_at "dl"
          exact ⟨_, _, rfl, hm.1, hm.2⟩
        · exact ⟨_, _, rfl, sx, sy⟩
    clear sx sy x y
    rintro δ ⟨x, y, rfl, sx, sy⟩
    walk_at "dl"
    refine ⟨by rw [List.length_map, pl]; omega, ps ++ [(x, y)], _, _, _, _, by rw [List.map_append]; rfl, by simp [pl], fun q hq => ?_⟩
    rcases List.mem_append.mp hq with z | z
    · exact hs q z
    · have z := List.mem_singleton.mp z
      subst z; exact ⟨sx, sy⟩
  rintro δ ⟨ps, r4, r5, r6, r7, rfl, pl, hs⟩
  walk_at "dl"
  exact h ps pl hs
end Law

set_option Elab.async false
set_option linter.all false
set_option maxRecDepth 100000
namespace Law
open L2 DL
set_option maxHeartbeats 4000000
/-! k44 -/
def sp_l_kind : DSpec := fun ss R => (ss = [.t (.exc "NoPoints")] ∧ R (.ol [.str "points"])) ∨ (ss = [.t (.exc "NoDepth")] ∧ R (.ol [.str "depth"]))
def sp_l_refused : DSpec := fun ss R => ∃ (way k : Int) (ts : List T), ss = [.t (.int way), .t (.lst ts), .t (.int k)] ∧ ((ts = [] ∧ 0 ≤ way ∧ way ≤ 3 ∧ R (.ol [.str "points"])) ∨ (way = 2 ∧ ts ≠ [] ∧ k < 1 ∧ R (.ol [.str "depth"])))
/-- _law_kind(_law_e): 0 _law_e, 1 _law_found -/
def w_l_kind : WS :=
 (wSeq (wSet 1 (wLst wNil))
 (wSeqM (wIf (wB (wIsO ["NoPoints", "NoDepth"] "NoPoints" (wVar 0))) (wAppend 1 (wC (.str "points"))) wNext)
 (wSeqM (wIf (wB (wIsO ["NoPoints", "NoDepth"] "NoDepth" (wVar 0))) (wAppend 1 (wC (.str "depth"))) wNext)
 (wSeqM (wIf (wT1 (wOrT (wB (wIsOs ["NoPoints", "NoDepth"] ["NoHalf", "NoNumber", "NotFour"] (wVar 0))) (wNotT (wB (wIsVal ["NoPoints", "NoDepth"] (wVar 0)))))) (wAppend 1 (wC (.str "other"))) wNext)
 (wRetV 1)))))
/-- _law_refused(_law_way, _law_points_here, _law_k): 0 _law_way, 1 _law_points_here, 2 _law_k, 3 _law_found, 4 _law_told, 5 _law_e -/
def w_l_refused : WS :=
 (wSeq (wSet 3 (wC .non))
 (wSeq (wSet 4 (wC .non))
 (wSeqM (wTry 5 ["NoPoints", "NoDepth"] (wxSeq (wxIf (wB (wEq (wVar 0) (wC (.int 0)))) (wxCall spx_depth (wCons (wVar 1) (wCons (wTup (wCons (wTup (wCons (wVar 2) (wCons (wC (.int 1)) wNil))) (wCons (wTup (wCons (wSub (wC (.int 1)) (wVar 2)) (wCons (wC (.int 1)) wNil))) wNil))) wNil))) (wxN wNext)) (wxSeq (wxIf (wB (wEq (wVar 0) (wC (.int 1)))) (wxCall spx_strong (wCons (wVar 1) (wCons (wVar 2) wNil))) (wxN wNext)) (wxSeq (wxIf (wB (wEq (wVar 0) (wC (.int 2)))) (wxCall spx_region (wCons (wVar 1) (wCons (wVar 2) wNil))) (wxN wNext)) (wxIf (wB (wEq (wVar 0) (wC (.int 3)))) (wxCall spx_deepest (wCons (wVar 1) wNil)) (wxN wNext))))) (wSet 3 (wVar 5)))
 (wSeq (wIf (wB (wIsN (wVar 3))) (wRet (wIsN (wVar 4))) wNext)
 (wRet (wCall sp_l_kind (wCons (wVar 3) wNil)))))))
/-- law(_law_script): 0 _law_script, 1 _law_head, 2 _law_k, 3 _law_way, 4 _law_points_here -/
def w_law : WS :=
 (wSeq (wSet 1 (wCall sp_l_numbers (wCons (wVar 0) (wCons (wC (.int 10)) wNil))))
 (wSeq (wSet 2 (wSub (wC (.int 0)) (wMod (wOp2 fIx (wVar 1) (wC (.int 3))) (wOp2 fIx (wLst (wCons (wC (.int 3)) (wCons (wPow (wC (.int 10)) (wC (.int 30))) wNil))) (wMod (wOp2 fIx (wVar 1) (wC (.int 1))) (wC (.int 2)))))))
 (wSeqM (wFor (wiRng1 (wCons (wC (.int 4)) wNil)) (wgName 3) (wIf (wB (wNe (wCall sp_l_refused (wCons (wVar 3) (wCons (wLst wNil) (wCons (wVar 2) wNil)))) (wLst (wCons (wC (.str "points")) wNil)))) (wRet (wC (.bl false))) wNext))
 (wSeq (wIf (wB (wNe (wCall sp_l_refused (wCons (wC (.int 2)) (wCons (wLst wNil) (wCons (wC (.int 1)) wNil)))) (wLst (wCons (wC (.str "points")) wNil)))) (wRet (wC (.bl false))) wNext)
 (wSeq (wSet 4 (wCall sp_l_points (wCons (wVar 1) (wCons (wAdd (wC (.int 1)) (wMod (wOp2 fIx (wVar 1) (wC (.int 2))) (wC (.int 5)))) wNil))))
 (wSeq (wIf (wB (wNe (wCall sp_l_refused (wCons (wC (.int 2)) (wCons (wVar 4) (wCons (wVar 2) wNil)))) (wLst (wCons (wC (.str "depth")) wNil)))) (wRet (wC (.bl false))) wNext)
 (wRet (wIs .lst (wCall sp_region (wCons (wVar 4) (wCons (wC (.int 1)) wNil)))))))))))
theorem len_l_kind : ∀ ss R, sp_l_kind ss R → ss.length = 1 := by rintro ss R (⟨rfl, _⟩ | ⟨rfl, _⟩) <;> rfl
theorem len_l_refused : ∀ ss R, sp_l_refused ss R → ss.length = 3 := by rintro ss R ⟨a, b, c, rfl, _⟩; rfl
theorem ok_l_kind : ∀ ss R, sp_l_kind ss R → w_l_kind { nx := fun _ => R (.t .non), rt := R } (startD ["_law_e", "_law_found"] ss) := by
  rintro ss R (⟨rfl, h⟩ | ⟨rfl, h⟩)
  · show w_l_kind _ [some (.t (.exc "NoPoints")), none]
    unfold w_l_kind
    walk_at "dl"
    refine ⟨fun δ => δ = [some (.t (.exc "NoPoints")), some (.ol [.str "points"])], ?_, ?_⟩
    · walk_at "dl"
      refine ⟨by simp, ?_⟩
      rw [show isaB "NoPoints" "NoPoints" = true by decide]
      walk_at "dl"
      first | exact ⟨by decide, rfl⟩ | rfl | trivial
    rintro δ rfl
    walk_at "dl"
    refine ⟨fun δ => δ = [some (.t (.exc "NoPoints")), some (.ol [.str "points"])], ?_, ?_⟩
    · walk_at "dl"
      refine ⟨by simp, ?_⟩
      rw [show isaB "NoPoints" "NoDepth" = false by decide]
      walk_at "dl"
      try rfl
    rintro δ rfl
    walk_at "dl"
    refine ⟨fun δ => δ = [some (.t (.exc "NoPoints")), some (.ol [.str "points"])], ?_, ?_⟩
    · walk_at "dl"
      refine ⟨fun b => b = false, ?_, ?_⟩
      · walk_at "dl"
        refine ⟨by simp, ?_⟩
        rw [show (["NoHalf", "NoNumber", "NotFour"] : List PySem.Str).any (isaB "NoPoints") = false by decide]
        walk_at "dl"
        try simp
      rintro b rfl
      walk_at "dl"
    rintro δ rfl
    walk_at "dl"
    exact h
  · show w_l_kind _ [some (.t (.exc "NoDepth")), none]
    unfold w_l_kind
    walk_at "dl"
    refine ⟨fun δ => δ = [some (.t (.exc "NoDepth")), some (.ol [])], ?_, ?_⟩
    · walk_at "dl"
      refine ⟨by simp, ?_⟩
      rw [show isaB "NoDepth" "NoPoints" = false by decide]
      walk_at "dl"
      try rfl
    rintro δ rfl
    walk_at "dl"
    refine ⟨fun δ => δ = [some (.t (.exc "NoDepth")), some (.ol [.str "depth"])], ?_, ?_⟩
    · walk_at "dl"
      refine ⟨by simp, ?_⟩
      rw [show isaB "NoDepth" "NoDepth" = true by decide]
      walk_at "dl"
      first | exact ⟨by decide, rfl⟩ | decide | rfl
    rintro δ rfl
    walk_at "dl"
    refine ⟨fun δ => δ = [some (.t (.exc "NoDepth")), some (.ol [.str "depth"])], ?_, ?_⟩
    · walk_at "dl"
      refine ⟨fun b => b = false, ?_, ?_⟩
      · walk_at "dl"
        refine ⟨by simp, ?_⟩
        rw [show (["NoHalf", "NoNumber", "NotFour"] : List PySem.Str).any (isaB "NoDepth") = false by decide]
        walk_at "dl"
        try simp
      rintro b rfl
      walk_at "dl"
    rintro δ rfl
    walk_at "dl"
    exact h
theorem ok_l_refused : ∀ ss R, sp_l_refused ss R → w_l_refused { nx := fun _ => R (.t .non), rt := R } (startD ["_law_way", "_law_points_here", "_law_k", "_law_found", "_law_told", "_law_e"] ss) := by
  rintro ss R ⟨way, k, ts, rfl, h⟩
  show w_l_refused _ [some (.t (.int way)), some (.t (.lst ts)), some (.t (.int k)), none, none, none]
  unfold w_l_refused
  walk_at "dl"
  rcases h with ⟨rfl, w0, w3, h⟩ | ⟨rfl, hne, hk, h⟩
  · refine ⟨fun δ => δ = [some (.t (.int way)), some (.t (.lst [])), some (.t (.int k)), some (.t (.exc "NoPoints")), some (.t .non), none], ?_, ?_⟩
    · walk_at "dl"
      by_cases e0 : way = 0
      · rw [if_pos e0]; exact ⟨_, ⟨rfl, _, rfl⟩, by simp, rfl⟩
      rw [if_neg e0]
      by_cases e1 : way = 1
      · rw [if_pos e1]; exact ⟨_, ⟨rfl, _, rfl⟩, by simp, rfl⟩
      rw [if_neg e1]
      by_cases e2 : way = 2
      · rw [if_pos e2]; exact ⟨_, .inl ⟨rfl, k, rfl⟩, by simp, rfl⟩
      rw [if_neg e2, if_pos (by omega)]
      exact ⟨_, ⟨rfl, rfl⟩, by simp, rfl⟩
    rintro δ rfl
    walk_at "dl"
    exact .inl ⟨rfl, h⟩
  · refine ⟨fun δ => δ = [some (.t (.int 2)), some (.t (.lst ts)), some (.t (.int k)), some (.t (.exc "NoDepth")), some (.t .non), none], ?_, ?_⟩
    · walk_at "dl"
      rw [if_neg (by decide), if_neg (by decide)]
      cases ts with
      | nil => exact absurd rfl hne
      | cons t tl => exact ⟨_, .inr ⟨rfl, t, tl, k, hk, rfl⟩, by simp, rfl⟩
    rintro δ rfl
    walk_at "dl"
    exact .inr ⟨rfl, h⟩
theorem ne_str1 {a : PySem.Str} {R : S → Prop} (h : R (.t (.bl false))) : fNe (got (.ol [.str a])) (.ol [.str a]) R := by
  have e : eqS (got (.ol [.str a])) (.ol [.str a]) = true := by
    rw [e_gotO _ (by rfl)]
    show eqT (.lst [.str a]) (.lst [.str a]) = true
    simp [eqT, eqTs]
  refine ⟨by rw [e_gotO _ (by rfl)]; show 1 ≤ 20; decide, by show 1 ≤ 20; decide, ?_⟩
  rw [e]; exact h
theorem ok_law : ∀ ss R, spLaw ss R → w_law { nx := fun _ => R (.t .non), rt := R } (startD ["_law_script", "_law_head", "_law_k", "_law_way", "_law_points_here"] ss) := by
  rintro ss R ⟨ns, rfl, hn, h⟩
  show w_law _ [some (.t (.lst (ns.map .int))), none, none, none, none]
  unfold w_law
  have dummy : Sz 1 0 := ⟨by decide⟩
  walk_at "dl"
  refine ⟨ns, 10, rfl, hn, by decide, by decide, fun hd hl hb => ?_⟩
  dsimp only
  rw [e_gotO _ (purs_map (fun _ => rfl) _)]
  walk_at "dl"
  refine hd_atV (i := 3) hl (by decide) hb fun v3 _ _ => ⟨powOk (by decide) (by decide) (by decide), hd_atV (i := 1) hl (by decide) hb fun v1 _ _ => ?_⟩
  have m1 := fmod_lo v1 (n := 2) (by decide)
  have m2 := fmod_hi v1 (n := 2) (by decide)
  walk_at "dl"
  refine ⟨by decide, ?_⟩
  have key : ∀ k : Int, k < 1 → wSeqM
      (wFor (wiRng1 (wCons (wC (.int 4)) wNil)) (wgName 3) (wIf (wB (wNe (wCall sp_l_refused (wCons (wVar 3) (wCons (wLst wNil) (wCons (wVar 2) wNil)))) (wLst (wCons (wC (.str "points")) wNil)))) (wRet (wC (.bl false))) wNext))
      (wSeq (wIf (wB (wNe (wCall sp_l_refused (wCons (wC (.int 2)) (wCons (wLst wNil) (wCons (wC (.int 1)) wNil)))) (wLst (wCons (wC (.str "points")) wNil)))) (wRet (wC (.bl false))) wNext)
      (wSeq (wSet 4 (wCall sp_l_points (wCons (wVar 1) (wCons (wAdd (wC (.int 1)) (wMod (wOp2 fIx (wVar 1) (wC (.int 2))) (wC (.int 5)))) wNil))))
      (wSeq (wIf (wB (wNe (wCall sp_l_refused (wCons (wC (.int 2)) (wCons (wVar 4) (wCons (wVar 2) wNil)))) (wLst (wCons (wC (.str "depth")) wNil)))) (wRet (wC (.bl false))) wNext)
      (wRet (wIs .lst (wCall sp_region (wCons (wVar 4) (wCons (wC (.int 1)) wNil))))))))
      { nx := fun _ => R (.t .non), rt := R } [some (.t (.lst (ns.map .int))), some (.ol (hd.map .int)), some (.t (.int k)), none, none] := by
    intro k hk
    refine ⟨fun δ => ∃ r, δ = [some (.t (.lst (ns.map .int))), some (.ol (hd.map .int)), some (.t (.int k)), r, none], ?_, ?_⟩
    · walk_at "dl"
      refine ⟨rngOk (by decide) (by decide), for_rng (fun δ => ∃ r, δ = [some (.t (.lst (ns.map .int))), some (.ol (hd.map .int)), some (.t (.int k)), r, none]) ⟨_, rfl⟩ (fun δ h => h) ?_⟩
      rintro w hw δ ⟨r, rfl⟩ N hN
      walk_at "dl"
      refine ⟨_, k, [], rfl, .inl ⟨rfl, by omega, by omega, ne_str1 ?_⟩⟩
      walk_at "dl"
      exact hN _ ⟨_, rfl⟩
    rintro δ ⟨r, rfl⟩
    walk_at "dl"
    refine ⟨2, 1, [], rfl, .inl ⟨rfl, by decide, by decide, ne_str1 ?_⟩⟩
    walk_at "dl"
    refine hd_atV (i := 2) hl (by decide) hb fun v2 _ _ => ?_
    have m3 := fmod_lo v2 (n := 5) (by decide)
    have m4 := fmod_hi v2 (n := 5) (by decide)
    walk_at "dl"
    refine ⟨by decide, hd, 1 + v2.fmod 5, rfl, hl, hb, by omega, by omega, fun ps pl pz => ?_⟩
    have hpn : ps ≠ [] := fun e => by rw [e] at pl; simp at pl; omega
    dsimp only
    rw [e_gotO _ (purs_pt _)]
    walk_at "dl"
    refine ⟨2, k, ps.map ptT, rfl, .inr ⟨rfl, by simpa using hpn, hk, ne_str1 ?_⟩⟩
    walk_at "dl"
    refine ⟨ps, rfl, hpn, by omega, pz, fun L => ?_⟩
    dsimp only
    rw [e_gotO _ (purs_map (fun p => pur_sptT p) L)]
    walk_at "dl"
    exact h
  have atk : ∀ m : Int, m ≠ 0 → 0 ≤ v3.fmod m → 0 - v3.fmod m < 1 := fun m _ h0 => by omega
  have fin : ∀ m : Int, 0 < m → v3.fmod m ≥ 0 := fun m hm => fmod_lo v3 hm
  rcases (show v1.fmod 2 = 0 ∨ v1.fmod 2 = 1 by omega) with e | e
  · rw [e]
    walk_at "dl"
    exact ⟨by decide, key _ (by have := fin 3 (by decide); omega)⟩
  · rw [e]
    walk_at "dl"
    exact ⟨by decide, key _ (by have := fin 1000000000000000000000000000000 (by decide); omega)⟩
end Law

set_option Elab.async false
set_option linter.all false
set_option maxRecDepth 100000

def PySem.W.Fast.tw16715693848230616888 : Nat := 0
def PySem.W.Fast.tw15637389464599143898 : Nat := 0
def PySem.W.Fast.tw11757477984013234279 : Nat := 0
def PySem.W.Fast.tw9191760635724323110 : Nat := 0
def PySem.W.Fast.tw4623937993056958591 : Nat := 0
def PySem.W.Fast.tw6326780536437930317 : Nat := 0
def PySem.W.Fast.tw7323147851458546518 : Nat := 0
def PySem.W.Fast.tw2297443493421140785 : Nat := 0
def PySem.W.Fast.tw12632620713829369063 : Nat := 0
def PySem.W.Fast.tw7811071973958326290 : Nat := 0
def PySem.W.Fast.tw7046798777431482212 : Nat := 0
def PySem.W.Fast.tw7596881344597895775 : Nat := 0
def PySem.W.Fast.tw9788085189871568515 : Nat := 0
def PySem.W.Fast.tw914422159417288252 : Nat := 0
namespace Law
open PySem PyProof.Rows L2 DL
set_option maxHeartbeats 4000000

def top (i : Nat) : Stmt := PySem.Challenge.pw_deepspot_k44_who_is_refused.main.body.getD i (.Pass ⟨0, 0, 0, 0⟩)
abbrev s_divisor : Stmt := top 8
theorem sc_divisor : FnScope ["one", "other", "greater", "lesser", "rest"] ["one", "other"] (defScope s_divisor) := ⟨rfl, rfl, rfl, by decide +kernel, rfl, by decide +kernel, by decide +kernel⟩
theorem b_divisor {P : Program} {w : World} {K : PySem.W.Frag} {mg : Str → Option Value} {base : Heap} (m_abs : mg "abs" = none) {f : Addr} {cdv : Value} {A : Around} {outer : List Env} {s : Shared} {H : Hp} {E : XK} (hr : Room 0 (A.deeper (envOfC "divisor" (defScope s_divisor) s.heap.objs.size f cdv))) :
    PSs (cxOf CX0 P w K mg base ["one", "other", "greater", "lesser", "rest"] "divisor" (defScope s_divisor) f cdv A outer s H E).nox (defBody s_divisor) (liftS K H w_divisor) :=
 (dss_cons (ds_set (i := 2) sc_divisor.nd (de_abs m_abs (da_cons (dv 0) da_nil)))
 (dss_cons (ds_set (i := 3) sc_divisor.nd (de_abs m_abs (da_cons (dv 1) da_nil)))
 (dss_consM (ds_while PassesOwn.never (dt_ne hr (dv 3) de_int) (dss_cons (ds_set (i := 4) sc_divisor.nd (de_mod (dv 2) (dv 3)))
 (dss_cons (ds_set (i := 2) sc_divisor.nd (dv 3))
 (dss_one (ds_set (i := 3) sc_divisor.nd (dv 4))))))
 (dss_one (ds_retV (pv 2))))))
abbrev s_below : Stmt := top 10
theorem sc_below : FnScope ["one", "other"] ["one", "other"] (defScope s_below) := ⟨rfl, rfl, rfl, by decide +kernel, rfl, by decide +kernel, by decide +kernel⟩
theorem b_below {P : Program} {w : World} {K : PySem.W.Frag} {mg : Str → Option Value} {base : Heap} {f : Addr} {cdv : Value} {A : Around} {outer : List Env} {s : Shared} {H : Hp} {E : XK} (hr : Room 0 (A.deeper (envOfC "below" (defScope s_below) s.heap.objs.size f cdv))) :
    PSs (cxOf CX0 P w K mg base ["one", "other"] "below" (defScope s_below) f cdv A outer s H E).nox (defBody s_below) (liftS K H w_below) :=
 (dss_one (ds_ret (de_lt (de_mul (de_ix (dv 0) de_int) (de_ix (dv 1) de_int)) (de_mul (de_ix (dv 1) de_int) (de_ix (dv 0) de_int)))))
abbrev s_half : Stmt := top 12
theorem sc_half : FnScope ["a", "b", "c", "common"] ["a", "b", "c"] (defScope s_half) := ⟨rfl, rfl, rfl, by decide +kernel, rfl, by decide +kernel, by decide +kernel⟩
theorem b_half {P : Program} {w : World} {K : PySem.W.Frag} {mg : Str → Option Value} {base : Heap} (c_divisor : Callee P w K mg base 1 "divisor" sp_divisor) {f : Addr} {cdv : Value} {A : Around} {outer : List Env} {s : Shared} {H : Hp} {E : XK} (hr : Room 1 (A.deeper (envOfC "half" (defScope s_half) s.heap.objs.size f cdv))) :
    PSs (cxOf CX0 P w K mg base ["a", "b", "c", "common"] "half" (defScope s_half) f cdv A outer s H E).nox (defBody s_half) (liftS K H w_half) :=
 (dss_cons (ds_if (dt_1 (PW.pt (dw_and (dt_eq hr (dv 0) de_int) (dw_and1 (dt_eq hr (dv 1) de_int))))) (dss_one ds_never) dss_nil)
 (dss_cons (ds_set (i := 3) sc_half.nd (de_call c_divisor (hr.mono (by decide)) rfl (da_cons (de_call c_divisor (hr.mono (by decide)) rfl (da_cons (dv 0) (da_cons (dv 1) da_nil))) (da_cons (dv 2) da_nil))))
 (dss_one (ds_ret (de_tup (da_cons (de_fdiv (dv 0) (dv 3)) (da_cons (de_fdiv (dv 1) (dv 3)) (da_cons (de_fdiv (dv 2) (dv 3)) da_nil))))))))
abbrev s_between : Stmt := top 13
theorem sc_between : FnScope ["one", "other", "a", "b"] ["one", "other"] (defScope s_between) := ⟨rfl, rfl, rfl, by decide +kernel, rfl, by decide +kernel, by decide +kernel⟩
theorem b_between {P : Program} {w : World} {K : PySem.W.Frag} {mg : Str → Option Value} {base : Heap} (c_half : Callee P w K mg base 2 "half" sp_half) {f : Addr} {cdv : Value} {A : Around} {outer : List Env} {s : Shared} {H : Hp} {E : XK} (hr : Room 2 (A.deeper (envOfC "between" (defScope s_between) s.heap.objs.size f cdv))) :
    PSs (cxOf CX0 P w K mg base ["one", "other", "a", "b"] "between" (defScope s_between) f cdv A outer s H E).nox (defBody s_between) (liftS K H w_between) :=
 (dss_cons (ds_set (i := 2) sc_between.nd (de_sub (de_ix (dv 0) de_int) (de_ix (dv 1) de_int)))
 (dss_cons (ds_set (i := 3) sc_between.nd (de_sub (de_ix (dv 1) de_int) (de_ix (dv 0) de_int)))
 (dss_one (ds_ret (de_call c_half (hr.mono (by decide)) rfl (da_cons (dv 2) (da_cons (dv 3) (da_cons (de_add (de_mul (dv 2) (de_ix (dv 0) de_int)) (de_mul (dv 3) (de_ix (dv 0) de_int))) da_nil))))))))
abbrev s_as_spot : Stmt := top 15
theorem sc_as_spot : FnScope ["point"] ["point"] (defScope s_as_spot) := ⟨rfl, rfl, rfl, by decide +kernel, rfl, by decide +kernel, by decide +kernel⟩
theorem b_as_spot {P : Program} {w : World} {K : PySem.W.Frag} {mg : Str → Option Value} {base : Heap} {f : Addr} {cdv : Value} {A : Around} {outer : List Env} {s : Shared} {H : Hp} {E : XK} (hr : Room 0 (A.deeper (envOfC "as_spot" (defScope s_as_spot) s.heap.objs.size f cdv))) :
    PSs (cxOf CX0 P w K mg base ["point"] "as_spot" (defScope s_as_spot) f cdv A outer s H E).nox (defBody s_as_spot) (liftS K H w_as_spot) :=
 (dss_one (ds_ret (de_tup (da_cons (de_tup (da_cons (de_ix (dv 0) de_int) (da_cons de_int da_nil))) (da_cons (de_tup (da_cons (de_ix (dv 0) de_int) (da_cons de_int da_nil))) da_nil)))))
abbrev s_bottoms : Stmt := top 16
theorem sc_bottoms : FnScope ["spot"] ["spot"] (defScope s_bottoms) := ⟨rfl, rfl, rfl, by decide +kernel, rfl, by decide +kernel, by decide +kernel⟩
theorem b_bottoms {P : Program} {w : World} {K : PySem.W.Frag} {mg : Str → Option Value} {base : Heap} {f : Addr} {cdv : Value} {A : Around} {outer : List Env} {s : Shared} {H : Hp} {E : XK} (hr : Room 0 (A.deeper (envOfC "bottoms" (defScope s_bottoms) s.heap.objs.size f cdv))) :
    PSs (cxOf CX0 P w K mg base ["spot"] "bottoms" (defScope s_bottoms) f cdv A outer s H E).nox (defBody s_bottoms) (liftS K H w_bottoms) :=
 (dss_one (ds_ret (de_mul (de_ix (de_ix (dv 0) de_int) de_int) (de_ix (de_ix (dv 0) de_int) de_int))))
abbrev s_excess : Stmt := top 17
theorem sc_excess : FnScope ["half", "spot", "x", "y"] ["half", "spot"] (defScope s_excess) := ⟨rfl, rfl, rfl, by decide +kernel, rfl, by decide +kernel, by decide +kernel⟩
theorem b_excess {P : Program} {w : World} {K : PySem.W.Frag} {mg : Str → Option Value} {base : Heap} (c_bottoms : Callee P w K mg base 1 "bottoms" sp_bottoms) {f : Addr} {cdv : Value} {A : Around} {outer : List Env} {s : Shared} {H : Hp} {E : XK} (hr : Room 1 (A.deeper (envOfC "excess" (defScope s_excess) s.heap.objs.size f cdv))) :
    PSs (cxOf CX0 P w K mg base ["half", "spot", "x", "y"] "excess" (defScope s_excess) f cdv A outer s H E).nox (defBody s_excess) (liftS K H w_excess) :=
 (dss_cons (ds_set (i := 2) sc_excess.nd (de_ix (dv 1) de_int))
 (dss_cons (ds_set (i := 3) sc_excess.nd (de_ix (dv 1) de_int))
 (dss_one (ds_ret (de_sub (de_add (de_mul (de_mul (de_ix (dv 0) de_int) (de_ix (dv 2) de_int)) (de_ix (dv 3) de_int)) (de_mul (de_mul (de_ix (dv 0) de_int) (de_ix (dv 3) de_int)) (de_ix (dv 2) de_int))) (de_mul (de_ix (dv 0) de_int) (de_call c_bottoms (hr.mono (by decide)) rfl (da_cons (dv 1) da_nil))))))))
abbrev s_sign : Stmt := top 18
theorem sc_sign : FnScope ["number"] ["number"] (defScope s_sign) := ⟨rfl, rfl, rfl, by decide +kernel, rfl, by decide +kernel, by decide +kernel⟩
theorem b_sign {P : Program} {w : World} {K : PySem.W.Frag} {mg : Str → Option Value} {base : Heap} {f : Addr} {cdv : Value} {A : Around} {outer : List Env} {s : Shared} {H : Hp} {E : XK} (hr : Room 0 (A.deeper (envOfC "sign" (defScope s_sign) s.heap.objs.size f cdv))) :
    PSs (cxOf CX0 P w K mg base ["number"] "sign" (defScope s_sign) f cdv A outer s H E).nox (defBody s_sign) (liftS K H w_sign) :=
 (dss_cons (ds_if (dt_gt (dv 0) de_int) (dss_one (ds_ret de_int)) dss_nil)
 (dss_cons (ds_if (dt_lt (dv 0) de_int) (dss_one (ds_ret (de_neg de_int))) dss_nil)
 (dss_one (ds_ret de_int))))
abbrev s_side : Stmt := top 19
theorem sc_side : FnScope ["half", "spot"] ["half", "spot"] (defScope s_side) := ⟨rfl, rfl, rfl, by decide +kernel, rfl, by decide +kernel, by decide +kernel⟩
theorem b_side {P : Program} {w : World} {K : PySem.W.Frag} {mg : Str → Option Value} {base : Heap} (c_sign : Callee P w K mg base 1 "sign" sp_sign) (c_excess : Callee P w K mg base 2 "excess" sp_excess) {f : Addr} {cdv : Value} {A : Around} {outer : List Env} {s : Shared} {H : Hp} {E : XK} (hr : Room 2 (A.deeper (envOfC "side" (defScope s_side) s.heap.objs.size f cdv))) :
    PSs (cxOf CX0 P w K mg base ["half", "spot"] "side" (defScope s_side) f cdv A outer s H E).nox (defBody s_side) (liftS K H w_side) :=
 (dss_one (ds_ret (de_call c_sign (hr.mono (by decide)) rfl (da_cons (de_call c_excess (hr.mono (by decide)) rfl (da_cons (dv 0) (da_cons (dv 1) da_nil))) da_nil))))
abbrev s_many_in : Stmt := top 20
theorem sc_many_in : FnScope ["half", "points"] ["half", "points"] (defScope s_many_in) := ⟨rfl, rfl, rfl, by decide +kernel, rfl, by decide +kernel, by decide +kernel⟩
theorem b_many_in {P : Program} {w : World} {K : PySem.W.Frag} {mg : Str → Option Value} {base : Heap} (m_len : mg "len" = none) {f : Addr} {cdv : Value} {A : Around} {outer : List Env} {s : Shared} {H : Hp} {E : XK} (hr : Room 0 (A.deeper (envOfC "many_in" (defScope s_many_in) s.heap.objs.size f cdv))) :
    PSs (cxOf CX0 P w K mg base ["half", "points"] "many_in" (defScope s_many_in) f cdv A outer s H E).nox (defBody s_many_in) (liftS K H w_many_in) :=
 (dss_one (ds_ret (de_len m_len (da_cons (de_comp (N := ["point", "half"]) (own := 1) (fr := [0]) (NX := ["half", "points"]) (ar := defScope s_many_in) (by decide +kernel) (di_list (dv 1)) gok_name (fun _ _ _ _ => (dg_name (i := 0) (show List.Nodup (["point", "half"] : List Str) by decide))) (fun _ _ _ _ => (dts_one (dt_ge (de_add (de_mul (de_ix (dv 1) de_int) (de_ix (dv 0) de_int)) (de_mul (de_ix (dv 1) de_int) (de_ix (dv 0) de_int))) (de_ix (dv 1) de_int)))) (fun _ _ _ _ => (dv 0))) da_nil))))
abbrev s_lesser : Stmt := top 22
theorem sc_lesser : FnScope ["one", "other"] ["one", "other"] (defScope s_lesser) := ⟨rfl, rfl, rfl, by decide +kernel, rfl, by decide +kernel, by decide +kernel⟩
theorem b_lesser {P : Program} {w : World} {K : PySem.W.Frag} {mg : Str → Option Value} {base : Heap} (c_below : Callee P w K mg base 1 "below" sp_below) {f : Addr} {cdv : Value} {A : Around} {outer : List Env} {s : Shared} {H : Hp} {E : XK} (hr : Room 1 (A.deeper (envOfC "lesser" (defScope s_lesser) s.heap.objs.size f cdv))) :
    PSs (cxOf CX0 P w K mg base ["one", "other"] "lesser" (defScope s_lesser) f cdv A outer s H E).nox (defBody s_lesser) (liftS K H w_lesser) :=
 (dss_cons (ds_if (dt_eq hr (de_ix (dv 0) de_int) (de_ix (dv 1) de_int)) (dss_one (ds_ret (de_call c_below (hr.mono (by decide)) rfl (da_cons (de_ix (dv 0) de_int) (da_cons (de_ix (dv 1) de_int) da_nil))))) dss_nil)
 (dss_one (ds_ret (de_call c_below (hr.mono (by decide)) rfl (da_cons (de_ix (dv 0) de_int) (da_cons (de_ix (dv 1) de_int) da_nil))))))
abbrev s_stretched : Stmt := top 23
theorem sc_stretched : FnScope ["spot"] ["spot"] (defScope s_stretched) := ⟨rfl, rfl, rfl, by decide +kernel, rfl, by decide +kernel, by decide +kernel⟩
theorem b_stretched {P : Program} {w : World} {K : PySem.W.Frag} {mg : Str → Option Value} {base : Heap} (c_bottoms : Callee P w K mg base 1 "bottoms" sp_bottoms) {f : Addr} {cdv : Value} {A : Around} {outer : List Env} {s : Shared} {H : Hp} {E : XK} (hr : Room 1 (A.deeper (envOfC "stretched" (defScope s_stretched) s.heap.objs.size f cdv))) :
    PSs (cxOf CX0 P w K mg base ["spot"] "stretched" (defScope s_stretched) f cdv A outer s H E).nox (defBody s_stretched) (liftS K H w_stretched) :=
 (dss_one (ds_ret (de_tup (da_cons (de_mul (de_ix (de_ix (dv 0) de_int) de_int) (de_ix (de_ix (dv 0) de_int) de_int)) (da_cons (de_mul (de_ix (de_ix (dv 0) de_int) de_int) (de_ix (de_ix (dv 0) de_int) de_int)) (da_cons (de_call c_bottoms (hr.mono (by decide)) rfl (da_cons (dv 0) da_nil)) da_nil))))))
abbrev s_turn : Stmt := top 24
theorem sc_turn : FnScope ["one", "other", "third", "here", "there", "a", "b", "c"] ["one", "other", "third"] (defScope s_turn) := ⟨rfl, rfl, rfl, by decide +kernel, rfl, by decide +kernel, by decide +kernel⟩
theorem b_turn {P : Program} {w : World} {K : PySem.W.Frag} {mg : Str → Option Value} {base : Heap} (c_stretched : Callee P w K mg base 2 "stretched" sp_stretched) (c_excess : Callee P w K mg base 2 "excess" sp_excess) {f : Addr} {cdv : Value} {A : Around} {outer : List Env} {s : Shared} {H : Hp} {E : XK} (hr : Room 2 (A.deeper (envOfC "turn" (defScope s_turn) s.heap.objs.size f cdv))) :
    PSs (cxOf CX0 P w K mg base ["one", "other", "third", "here", "there", "a", "b", "c"] "turn" (defScope s_turn) f cdv A outer s H E).nox (defBody s_turn) (liftS K H w_turn) :=
 (dss_cons (ds_set (i := 3) sc_turn.nd (de_call c_stretched (hr.mono (by decide)) rfl (da_cons (dv 0) da_nil)))
 (dss_cons (ds_set (i := 4) sc_turn.nd (de_call c_stretched (hr.mono (by decide)) rfl (da_cons (dv 1) da_nil)))
 (dss_cons (ds_set (i := 5) sc_turn.nd (de_sub (de_mul (de_ix (dv 3) de_int) (de_ix (dv 4) de_int)) (de_mul (de_ix (dv 3) de_int) (de_ix (dv 4) de_int))))
 (dss_cons (ds_set (i := 6) sc_turn.nd (de_sub (de_mul (de_ix (dv 3) de_int) (de_ix (dv 4) de_int)) (de_mul (de_ix (dv 3) de_int) (de_ix (dv 4) de_int))))
 (dss_cons (ds_set (i := 7) sc_turn.nd (de_sub (de_mul (de_ix (dv 3) de_int) (de_ix (dv 4) de_int)) (de_mul (de_ix (dv 3) de_int) (de_ix (dv 4) de_int))))
 (dss_one (ds_ret (de_call c_excess (hr.mono (by decide)) rfl (da_cons (de_tup (da_cons (dv 5) (da_cons (dv 6) (da_cons (dv 7) da_nil)))) (da_cons (dv 2) da_nil))))))))))
abbrev s_chain : Stmt := top 25
theorem sc_chain : FnScope ["spots", "kept", "spot"] ["spots"] (defScope s_chain) := ⟨rfl, rfl, rfl, by decide +kernel, rfl, by decide +kernel, by decide +kernel⟩
theorem b_chain {P : Program} {w : World} {K : PySem.W.Frag} {mg : Str → Option Value} {base : Heap} (m_len : mg "len" = none) (c_turn : Callee P w K mg base 3 "turn" sp_turn) {f : Addr} {cdv : Value} {A : Around} {outer : List Env} {s : Shared} {H : Hp} {E : XK} (hr : Room 3 (A.deeper (envOfC "chain" (defScope s_chain) s.heap.objs.size f cdv))) :
    PSs (cxOf CX0 P w K mg base ["spots", "kept", "spot"] "chain" (defScope s_chain) f cdv A outer s H E).nox (defBody s_chain) (liftS K H w_chain) :=
 (dss_cons (ds_set (i := 1) sc_chain.nd (de_lst da_nil))
 (dss_consM (ds_for PassesOwn.never (di_list (dv 0)) (dg_name (i := 2) sc_chain.nd) (dss_consM (ds_while PassesOwn.never (dt_1 (PW.pt (dw_and (dt_gt (de_len m_len (da_cons (dv 1) da_nil)) de_int) (dw_and1 (dt_le (de_call c_turn (hr.mono (by decide)) rfl (da_cons (de_ix (dv 1) (de_neg de_int)) (da_cons (de_ix (dv 1) (de_neg de_int)) (da_cons (dv 2) da_nil)))) de_int))))) (dss_one (ds_pop (i := 1))))
 (dss_one (ds_append (i := 1) (dv 2)))))
 (dss_one (ds_retV (pv 1)))))
abbrev s_hull : Stmt := top 26
theorem sc_hull : FnScope ["points", "spots", "under", "above"] ["points"] (defScope s_hull) := ⟨rfl, rfl, rfl, by decide +kernel, rfl, by decide +kernel, by decide +kernel⟩
theorem b_hull {P : Program} {w : World} {K : PySem.W.Frag} {mg : Str → Option Value} {base : Heap} (m_sorted : mg "sorted" = none) (m_set : mg "set" = none) (m_len : mg "len" = none) (m_list : mg "list" = none) (m_reversed : mg "reversed" = none) (c_as_spot : Callee P w K mg base 1 "as_spot" sp_as_spot) (c_chain : Callee P w K mg base 4 "chain" sp_chain) {f : Addr} {cdv : Value} {A : Around} {outer : List Env} {s : Shared} {H : Hp} {E : XK} (hr : Room 4 (A.deeper (envOfC "hull" (defScope s_hull) s.heap.objs.size f cdv))) :
    PSs (cxOf CX0 P w K mg base ["points", "spots", "under", "above"] "hull" (defScope s_hull) f cdv A outer s H E).nox (defBody s_hull) (liftS K H w_hull) :=
 (dss_cons (ds_setComp (i := 1) sc_hull.nd (N := ["point"]) (own := 1) (fr := []) (NX := ["points", "spots", "under", "above"]) (ar := defScope s_hull) (by decide +kernel) (di_list (de_sortSet hr m_sorted m_set hr.hd (dv 0))) gok_name (fun _ _ _ _ => (dg_name (i := 0) (show List.Nodup (["point"] : List Str) by decide))) (fun _ _ _ _ => dts_nil) (fun _ _ _ _ => (de_call c_as_spot (hr.mono (by decide)) rfl (da_cons (dv 0) da_nil))))
 (dss_cons (ds_if (dt_lt (de_len m_len (da_cons (dv 1) da_nil)) de_int) (dss_one (ds_retV (pv 1))) dss_nil)
 (dss_cons (ds_set (i := 2) sc_hull.nd (de_call c_chain (hr.mono (by decide)) rfl (da_cons (dv 1) da_nil)))
 (dss_cons (ds_set (i := 3) sc_hull.nd (de_call c_chain (hr.mono (by decide)) rfl (da_cons (de_listRev m_list m_reversed hr.hd (dv 1)) da_nil)))
 (dss_one (ds_ret (de_cat (de_slice (dv 2) do_none (do_some (de_neg de_int))) (de_slice (dv 3) do_none (do_some (de_neg de_int))))))))))
abbrev s_sides : Stmt := top 27
theorem sc_sides : FnScope ["region"] ["region"] (defScope s_sides) := ⟨rfl, rfl, rfl, by decide +kernel, rfl, by decide +kernel, by decide +kernel⟩
theorem b_sides {P : Program} {w : World} {K : PySem.W.Frag} {mg : Str → Option Value} {base : Heap} (m_range : mg "range" = none) (m_len : mg "len" = none) {f : Addr} {cdv : Value} {A : Around} {outer : List Env} {s : Shared} {H : Hp} {E : XK} (hr : Room 0 (A.deeper (envOfC "sides" (defScope s_sides) s.heap.objs.size f cdv))) :
    PSs (cxOf CX0 P w K mg base ["region"] "sides" (defScope s_sides) f cdv A outer s H E).nox (defBody s_sides) (liftS K H w_sides) :=
 (dss_one (ds_ret (de_comp (N := ["place", "region"]) (own := 1) (fr := [0]) (NX := ["region"]) (ar := defScope s_sides) (by decide +kernel) (di_range1 m_range (da_cons (de_len m_len (da_cons (dv 0) da_nil)) da_nil)) gok_name (fun _ _ _ _ => (dg_name (i := 0) (show List.Nodup (["place", "region"] : List Str) by decide))) (fun _ _ _ _ => dts_nil) (fun _ _ _ _ => (de_tup (da_cons (de_ix (dv 1) (de_sub (dv 0) de_int)) (da_cons (de_ix (dv 1) (dv 0)) da_nil)))))))
abbrev s_from_least : Stmt := top 28
theorem sc_from_least : FnScope ["corners", "first", "place"] ["corners"] (defScope s_from_least) := ⟨rfl, rfl, rfl, by decide +kernel, rfl, by decide +kernel, by decide +kernel⟩
theorem b_from_least {P : Program} {w : World} {K : PySem.W.Frag} {mg : Str → Option Value} {base : Heap} (m_range : mg "range" = none) (m_len : mg "len" = none) (c_lesser : Callee P w K mg base 2 "lesser" sp_lesser) {f : Addr} {cdv : Value} {A : Around} {outer : List Env} {s : Shared} {H : Hp} {E : XK} (hr : Room 2 (A.deeper (envOfC "from_least" (defScope s_from_least) s.heap.objs.size f cdv))) :
    PSs (cxOf CX0 P w K mg base ["corners", "first", "place"] "from_least" (defScope s_from_least) f cdv A outer s H E).nox (defBody s_from_least) (liftS K H w_from_least) :=
 (dss_cons (ds_set (i := 1) sc_from_least.nd de_int)
 (dss_consM (ds_for PassesOwn.never (di_range1 m_range (da_cons (de_len m_len (da_cons (dv 0) da_nil)) da_nil)) (dg_name (i := 2) sc_from_least.nd) (dss_one (ds_if (dt_val (de_call c_lesser (hr.mono (by decide)) rfl (da_cons (de_ix (dv 0) (dv 2)) (da_cons (de_ix (dv 0) (dv 1)) da_nil)))) (dss_one (ds_set (i := 1) sc_from_least.nd (dv 2))) dss_nil)))
 (dss_one (ds_ret (de_cat (de_slice (dv 0) (do_some (dv 1)) do_none) (de_slice (dv 0) do_none (do_some (dv 1))))))))
abbrev s_crossing : Stmt := top 30
theorem sc_crossing : FnScope ["half", "one", "other", "one_weight", "other_weight", "x", "y"] ["half", "one", "other"] (defScope s_crossing) := ⟨rfl, rfl, rfl, by decide +kernel, rfl, by decide +kernel, by decide +kernel⟩
theorem b_crossing {P : Program} {w : World} {K : PySem.W.Frag} {mg : Str → Option Value} {base : Heap} {f : Addr} {cdv : Value} {A : Around} {outer : List Env} {s : Shared} {H : Hp} {E : XK} (hr : Room 0 (A.deeper (envOfC "crossing" (defScope s_crossing) s.heap.objs.size f cdv))) :
    PSs (cxOf CX0 P w K mg base ["half", "one", "other", "one_weight", "other_weight", "x", "y"] "crossing" (defScope s_crossing) f cdv A outer s H E).nox (defBody s_crossing) (liftS K H w_crossing) :=
 dss_never
abbrev s_clipped : Stmt := top 31
theorem sc_clipped : FnScope ["region", "half", "kept", "pair", "spot"] ["region", "half"] (defScope s_clipped) := ⟨rfl, rfl, rfl, by decide +kernel, rfl, by decide +kernel, by decide +kernel⟩
theorem b_clipped {P : Program} {w : World} {K : PySem.W.Frag} {mg : Str → Option Value} {base : Heap} (c_sides : Callee P w K mg base 1 "sides" sp_sides) (c_side : Callee P w K mg base 3 "side" sp_side) (c_crossing : Callee P w K mg base 1 "crossing" sp_crossing) (c_from_least : Callee P w K mg base 3 "from_least" sp_from_least) {f : Addr} {cdv : Value} {A : Around} {outer : List Env} {s : Shared} {H : Hp} {E : XK} (hr : Room 3 (A.deeper (envOfC "clipped" (defScope s_clipped) s.heap.objs.size f cdv))) :
    PSs (cxOf CX0 P w K mg base ["region", "half", "kept", "pair", "spot"] "clipped" (defScope s_clipped) f cdv A outer s H E).nox (defBody s_clipped) (liftS K H w_clipped) :=
 (dss_cons (ds_set (i := 2) sc_clipped.nd (de_lst da_nil))
 (dss_consM (ds_for PassesOwn.never (di_list (de_call c_sides (hr.mono (by decide)) rfl (da_cons (dv 0) da_nil))) (dg_name (i := 3) sc_clipped.nd) (dss_consM (ds_if (dt_lt (de_mul (de_call c_side (hr.mono (by decide)) rfl (da_cons (dv 1) (da_cons (de_ix (dv 3) de_int) da_nil))) (de_call c_side (hr.mono (by decide)) rfl (da_cons (dv 1) (da_cons (de_ix (dv 3) de_int) da_nil)))) de_int) (dss_cons (ds_set (i := 4) sc_clipped.nd (de_call c_crossing (hr.mono (by decide)) rfl (da_cons (dv 1) (da_cons (de_ix (dv 3) de_int) (da_cons (de_ix (dv 3) de_int) da_nil)))))
 (dss_one (ds_if (dt_notIn hr (dv 4) (dv 2)) (dss_one (ds_append (i := 2) (dv 4))) dss_nil))) dss_nil)
 (dss_one (ds_if (dt_ge (de_call c_side (hr.mono (by decide)) rfl (da_cons (dv 1) (da_cons (de_ix (dv 3) de_int) da_nil))) de_int) (dss_one (ds_append (i := 2) (de_ix (dv 3) de_int))) dss_nil))))
 (dss_one (ds_ret (de_call c_from_least (hr.mono (by decide)) rfl (da_cons (dv 2) da_nil))))))
abbrev s_upright_and_level : Stmt := top 46
theorem sc_upright_and_level : FnScope ["point", "x", "y"] ["point"] (defScope s_upright_and_level) := ⟨rfl, rfl, rfl, by decide +kernel, rfl, by decide +kernel, by decide +kernel⟩
theorem b_upright_and_level {P : Program} {w : World} {K : PySem.W.Frag} {mg : Str → Option Value} {base : Heap} {f : Addr} {cdv : Value} {A : Around} {outer : List Env} {s : Shared} {H : Hp} {E : XK} (hr : Room 0 (A.deeper (envOfC "upright_and_level" (defScope s_upright_and_level) s.heap.objs.size f cdv))) :
    PSs (cxOf CX0 P w K mg base ["point", "x", "y"] "upright_and_level" (defScope s_upright_and_level) f cdv A outer s H E).nox (defBody s_upright_and_level) (liftS K H w_upright_and_level) :=
 (dss_cons (ds_set (i := 1) sc_upright_and_level.nd (de_ix (dv 0) de_int))
 (dss_cons (ds_set (i := 2) sc_upright_and_level.nd (de_ix (dv 0) de_int))
 (dss_one (ds_ret (de_lst (da_cons (de_tup (da_cons de_int (da_cons de_int (da_cons (dv 1) da_nil)))) (da_cons (de_tup (da_cons (de_neg de_int) (da_cons de_int (da_cons (de_neg (dv 1)) da_nil)))) (da_cons (de_tup (da_cons de_int (da_cons de_int (da_cons (dv 2) da_nil)))) (da_cons (de_tup (da_cons de_int (da_cons (de_neg de_int) (da_cons (de_neg (dv 2)) da_nil)))) da_nil)))))))))
abbrev s_bordered : Stmt := top 47
theorem sc_bordered : FnScope ["points", "found", "one", "other"] ["points"] (defScope s_bordered) := ⟨rfl, rfl, rfl, by decide +kernel, rfl, by decide +kernel, by decide +kernel⟩
theorem b_bordered {P : Program} {w : World} {K : PySem.W.Frag} {mg : Str → Option Value} {base : Heap} (m_sorted : mg "sorted" = none) (m_set : mg "set" = none) (c_upright_and_level : Callee P w K mg base 1 "upright_and_level" sp_upright_and_level) (c_between : Callee P w K mg base 3 "between" sp_between) {f : Addr} {cdv : Value} {A : Around} {outer : List Env} {s : Shared} {H : Hp} {E : XK} (hr : Room 3 (A.deeper (envOfC "bordered" (defScope s_bordered) s.heap.objs.size f cdv))) :
    PSs (cxOf CX0 P w K mg base ["points", "found", "one", "other"] "bordered" (defScope s_bordered) f cdv A outer s H E).nox (defBody s_bordered) (liftS K H w_bordered) :=
 (dss_cons (ds_set (i := 1) sc_bordered.nd (de_lst da_nil))
 (dss_consM (ds_for PassesOwn.never (di_list (dv 0)) (dg_name (i := 2) sc_bordered.nd) (dss_cons (ds_extend (i := 1) (de_call c_upright_and_level (hr.mono (by decide)) (by rfl) (da_cons (dv 2) da_nil)))
 (dss_one (ds_for PassesOwn.never (di_list (dv 0)) (dg_name (i := 3) sc_bordered.nd) (dss_one (ds_if (dt_ne hr (dv 2) (dv 3)) (dss_one (ds_append (i := 1) (de_call c_between (hr.mono (by decide)) (by rfl) (da_cons (dv 2) (da_cons (dv 3) da_nil))))) dss_nil))))))
 (dss_one (ds_ret (de_sortSet hr m_sorted m_set hr.hd (dv 1))))))
abbrev s_need_points : Stmt := top 48
theorem sc_need_points : FnScope ["points"] ["points"] (defScope s_need_points) := ⟨rfl, rfl, rfl, by decide +kernel, rfl, by decide +kernel, by decide +kernel⟩
theorem b_need_points {P : Program} {w : World} {K : PySem.W.Frag} {mg : Str → Option Value} {base : Heap} (m_len : mg "len" = none) {f : Addr} {cdv : Value} {A : Around} {outer : List Env} {s : Shared} {H : Hp} {E : XK} (hr : Room 0 (A.deeper (envOfC "need_points" (defScope s_need_points) s.heap.objs.size f cdv))) :
    PSs (cxOf CX0 P w K mg base ["points"] "need_points" (defScope s_need_points) f cdv A outer s H E).nox (defBody s_need_points) (liftS K H w_need_points) :=
 (dss_one (ds_if (dt_eq hr (de_len m_len (da_cons (dv 0) da_nil)) de_int) (dss_one ds_never) dss_nil))
abbrev s_strong : Stmt := top 49
theorem sc_strong : FnScope ["points", "many"] ["points", "many"] (defScope s_strong) := ⟨rfl, rfl, rfl, by decide +kernel, rfl, by decide +kernel, by decide +kernel⟩
theorem b_strong {P : Program} {w : World} {K : PySem.W.Frag} {mg : Str → Option Value} {base : Heap} (c_need_points : Callee P w K mg base 1 "need_points" sp_need_points) (c_bordered : Callee P w K mg base 4 "bordered" sp_bordered) (c_many_in : Callee P w K mg base 1 "many_in" sp_many_in) {f : Addr} {cdv : Value} {A : Around} {outer : List Env} {s : Shared} {H : Hp} {E : XK} (hr : Room 4 (A.deeper (envOfC "strong" (defScope s_strong) s.heap.objs.size f cdv))) :
    PSs (cxOf CX0 P w K mg base ["points", "many"] "strong" (defScope s_strong) f cdv A outer s H E).nox (defBody s_strong) (liftS K H w_strong) :=
 (dss_cons (ds_drop (de_call c_need_points (hr.mono (by decide)) rfl (da_cons (dv 0) da_nil)))
 (dss_one (ds_ret (de_comp (N := ["found", "points", "many"]) (own := 1) (fr := [0, 1]) (NX := ["points", "many"]) (ar := defScope s_strong) (by decide +kernel) (di_list (de_call c_bordered (hr.mono (by decide)) rfl (da_cons (dv 0) da_nil))) gok_name (fun _ _ _ _ => (dg_name (i := 0) (show List.Nodup (["found", "points", "many"] : List Str) by decide))) (fun _ _ _ _ => (dts_one (dt_ge (de_call c_many_in (hr.mono (by decide)) rfl (da_cons (dv 0) (da_cons (dv 1) da_nil))) (dv 2)))) (fun _ _ _ _ => (dv 0))))))
abbrev s_region : Stmt := top 50
theorem sc_region : FnScope ["points", "k", "part", "found"] ["points", "k"] (defScope s_region) := ⟨rfl, rfl, rfl, by decide +kernel, rfl, by decide +kernel, by decide +kernel⟩
theorem b_region {P : Program} {w : World} {K : PySem.W.Frag} {mg : Str → Option Value} {base : Heap} (m_len : mg "len" = none) (c_need_points : Callee P w K mg base 1 "need_points" sp_need_points) (c_hull : Callee P w K mg base 5 "hull" sp_hull) (c_strong : Callee P w K mg base 5 "strong" sp_strong) (c_clipped : Callee P w K mg base 4 "clipped" sp_clipped) {f : Addr} {cdv : Value} {A : Around} {outer : List Env} {s : Shared} {H : Hp} {E : XK} (hr : Room 5 (A.deeper (envOfC "region" (defScope s_region) s.heap.objs.size f cdv))) :
    PSs (cxOf CX0 P w K mg base ["points", "k", "part", "found"] "region" (defScope s_region) f cdv A outer s H E).nox (defBody s_region) (liftS K H w_region) :=
 (dss_cons (ds_drop (de_call c_need_points (hr.mono (by decide)) rfl (da_cons (dv 0) da_nil)))
 (dss_cons (ds_if (dt_lt (dv 1) de_int) (dss_one ds_never) dss_nil)
 (dss_cons (ds_if (dt_gt (dv 1) (de_len m_len (da_cons (dv 0) da_nil))) (dss_one (ds_ret (de_lst da_nil))) dss_nil)
 (dss_cons (ds_set (i := 2) sc_region.nd (de_call c_hull (hr.mono (by decide)) rfl (da_cons (dv 0) da_nil)))
 (dss_consM (ds_for PassesOwn.never (di_list (de_call c_strong (hr.mono (by decide)) rfl (da_cons (dv 0) (da_cons (de_add (de_sub (de_len m_len (da_cons (dv 0) da_nil)) (dv 1)) de_int) da_nil)))) (dg_name (i := 3) sc_region.nd) (dss_one (ds_set (i := 2) sc_region.nd (de_call c_clipped (hr.mono (by decide)) rfl (da_cons (dv 2) (da_cons (dv 3) da_nil))))))
 (dss_one (ds_retV (pv 2))))))))
abbrev s_deepest : Stmt := top 51
theorem sc_deepest : FnScope ["points", "k", "halves", "weights", "asked", "told"] ["points"] (defScope s_deepest) := ⟨rfl, rfl, rfl, by decide +kernel, rfl, by decide +kernel, by decide +kernel⟩
abbrev s_depth : Stmt := top 58
theorem sc_depth : FnScope ["points", "spot", "ways", "emptiest"] ["points", "spot"] (defScope s_depth) := ⟨rfl, rfl, rfl, by decide +kernel, rfl, by decide +kernel, by decide +kernel⟩
abbrev s_l_numbers : Stmt := top 61
theorem sc_l_numbers : FnScope ["_law_script", "_law_many", "_law_found", "_law_k", "_law_cell", "_law_at"] ["_law_script", "_law_many"] (defScope s_l_numbers) := ⟨rfl, rfl, rfl, by decide +kernel, rfl, by decide +kernel, by decide +kernel⟩
theorem b_l_numbers {P : Program} {w : World} {K : PySem.W.Frag} {mg : Str → Option Value} {base : Heap} (m_range : mg "range" = none) (m_max : mg "max" = none) (m_min : mg "min" = none) (m_len : mg "len" = none) {f : Addr} {cdv : Value} {A : Around} {outer : List Env} {s : Shared} {H : Hp} {E : XK} (hr : Room 0 (A.deeper (envOfC "_law_numbers" (defScope s_l_numbers) s.heap.objs.size f cdv))) :
    PSs (cxOf CX0 P w K mg base ["_law_script", "_law_many", "_law_found", "_law_k", "_law_cell", "_law_at"] "_law_numbers" (defScope s_l_numbers) f cdv A outer s H E).nox (defBody s_l_numbers) (liftS K H w_l_numbers) :=
 (dss_cons (ds_setComp (i := 2) sc_l_numbers.nd (N := ["_law_k"]) (own := 1) (fr := []) (NX := ["_law_script", "_law_many", "_law_found", "_law_k", "_law_cell", "_law_at"]) (ar := defScope s_l_numbers) (by decide +kernel) (di_range1 m_range (da_cons (dv 1) da_nil)) gok_name (fun _ _ _ _ => (dg_name (i := 0) (show List.Nodup (["_law_k"] : List Str) by decide))) (fun _ _ _ _ => dts_nil) (fun _ _ _ _ => de_int))
 (dss_consM (ds_for PassesOwn.never (di_range1 m_range (da_cons (de_max2 m_max (da_cons (dv 1) (da_cons (de_min2 m_min (da_cons (de_len m_len (da_cons (dv 0) da_nil)) (da_cons de_int da_nil))) da_nil))) da_nil)) (dg_name (i := 3) sc_l_numbers.nd) (dss_cons (ds_set (i := 4) sc_l_numbers.nd de_int)
 (dss_consM (ds_if (dt_gt (de_len m_len (da_cons (dv 0) da_nil)) de_int) (dss_one (ds_set (i := 4) sc_l_numbers.nd (de_mod (de_ix (dv 0) (de_mod (dv 3) (de_min2 m_min (da_cons (de_len m_len (da_cons (dv 0) da_nil)) (da_cons de_int da_nil))))) (de_add (de_pow de_int de_int) de_int)))) dss_nil)
 (dss_cons (ds_set (i := 5) sc_l_numbers.nd (de_mod (dv 3) (dv 1)))
 (dss_one (ds_setIx (i := 2) (dv 5) (de_mod (de_add (de_add (de_mul (de_ix (dv 2) (dv 5)) de_int) (dv 4)) (de_mul (dv 3) (dv 3))) (de_add (de_pow de_int de_int) de_int))))))))
 (dss_one (ds_retV (pv 2)))))
abbrev s_l_digit : Stmt := top 62
theorem sc_l_digit : FnScope ["_law_number", "_law_base", "_law_place", "_law_k"] ["_law_number", "_law_base", "_law_place"] (defScope s_l_digit) := ⟨rfl, rfl, rfl, by decide +kernel, rfl, by decide +kernel, by decide +kernel⟩
theorem b_l_digit {P : Program} {w : World} {K : PySem.W.Frag} {mg : Str → Option Value} {base : Heap} (m_range : mg "range" = none) {f : Addr} {cdv : Value} {A : Around} {outer : List Env} {s : Shared} {H : Hp} {E : XK} (hr : Room 0 (A.deeper (envOfC "_law_digit" (defScope s_l_digit) s.heap.objs.size f cdv))) :
    PSs (cxOf CX0 P w K mg base ["_law_number", "_law_base", "_law_place", "_law_k"] "_law_digit" (defScope s_l_digit) f cdv A outer s H E).nox (defBody s_l_digit) (liftS K H w_l_digit) :=
 (dss_consM (ds_for PassesOwn.never (di_range1 m_range (da_cons (dv 2) da_nil)) (dg_name (i := 3) sc_l_digit.nd) (dss_one (ds_set (i := 0) sc_l_digit.nd (de_fdiv (dv 0) (dv 1)))))
 (dss_one (ds_ret (de_mod (dv 0) (dv 1)))))
abbrev s_l_points : Stmt := top 63
theorem sc_l_points : FnScope ["_law_head", "_law_many", "_law_found", "_law_way", "_law_k", "_law_number", "_law_x", "_law_y"] ["_law_head", "_law_many"] (defScope s_l_points) := ⟨rfl, rfl, rfl, by decide +kernel, rfl, by decide +kernel, by decide +kernel⟩
theorem b_l_points {P : Program} {w : World} {K : PySem.W.Frag} {mg : Str → Option Value} {base : Heap} (m_range : mg "range" = none) (c_l_digit : Callee P w K mg base 1 "_law_digit" sp_l_digit) {f : Addr} {cdv : Value} {A : Around} {outer : List Env} {s : Shared} {H : Hp} {E : XK} (hr : Room 1 (A.deeper (envOfC "_law_points" (defScope s_l_points) s.heap.objs.size f cdv))) :
    PSs (cxOf CX0 P w K mg base ["_law_head", "_law_many", "_law_found", "_law_way", "_law_k", "_law_number", "_law_x", "_law_y"] "_law_points" (defScope s_l_points) f cdv A outer s H E).nox (defBody s_l_points) (liftS K H w_l_points) :=
 (dss_cons (ds_set (i := 2) sc_l_points.nd (de_lst da_nil))
 (dss_cons (ds_set (i := 3) sc_l_points.nd (de_mod (de_ix (dv 0) de_int) de_int))
 (dss_consM (ds_for PassesOwn.never (di_range1 m_range (da_cons (dv 1) da_nil)) (dg_name (i := 4) sc_l_points.nd) (dss_cons (ds_set (i := 5) sc_l_points.nd (de_ix (dv 0) (de_add de_int (dv 4))))
 (dss_cons (ds_set (i := 6) sc_l_points.nd (de_sub (de_mod (dv 5) de_int) de_int))
 (dss_cons (ds_set (i := 7) sc_l_points.nd (de_sub (de_mod (de_fdiv (dv 5) de_int) de_int) de_int))
 (dss_consM (ds_if (dt_eq hr (dv 3) de_int) (dss_one (ds_set (i := 7) sc_l_points.nd (de_sub (de_mul de_int (dv 6)) de_int))) dss_nil)
 (dss_consM (ds_if (dt_eq hr (dv 3) de_int) (dss_one (ds_set (i := 6) sc_l_points.nd de_int)) dss_nil)
 (dss_consM (ds_if (dt_eq hr (dv 3) de_int) (dss_one (ds_par (i := 6) (j := 7) sc_l_points.nd (da_cons (de_sub (de_mod (dv 5) de_int) de_int) (da_cons (de_sub (de_mod (de_fdiv (dv 5) de_int) de_int) de_int) da_nil)))) dss_nil)
 (dss_consM (ds_if (dt_gt (dv 3) de_int) (dss_cons (ds_set (i := 6) sc_l_points.nd (de_sub (de_mod (dv 5) (de_add (de_mul de_int (de_pow de_int de_int)) de_int)) (de_pow de_int de_int)))
 (dss_one (ds_set (i := 7) sc_l_points.nd (de_sub (de_mod (de_mul (dv 5) de_int) (de_add (de_mul de_int (de_pow de_int de_int)) de_int)) (de_pow de_int de_int))))) dss_nil)
 (dss_consM (ds_if (dt_1 (PW.pt (dw_and (dt_gt (dv 4) de_int) (dw_and1 (dt_eq hr (de_call c_l_digit (hr.mono (by decide)) rfl (da_cons (de_ix (dv 0) de_int) (da_cons de_int (da_cons (dv 4) da_nil)))) de_int))))) (dss_one (ds_unp (de_ix (dv 2) (de_sub (dv 4) de_int)) (dg_tup (dgs_cons (dg_name (i := 6) sc_l_points.nd) (dgs_cons (dg_name (i := 7) sc_l_points.nd) dgs_nil)) (len_cons (len_cons len_nil))))) dss_nil)
 (dss_one (ds_append (i := 2) (de_tup (da_cons (dv 6) (da_cons (dv 7) da_nil))))))))))))))
 (dss_one (ds_retV (pv 2))))))
abbrev s_l_kind : Stmt := top 64
theorem sc_l_kind : FnScope ["_law_e", "_law_found"] ["_law_e"] (defScope s_l_kind) := ⟨rfl, rfl, rfl, by decide +kernel, rfl, by decide +kernel, by decide +kernel⟩
theorem b_l_kind {P : Program} {w : World} {K : PySem.W.Frag} {mg : Str → Option Value} {base : Heap} (xe : XEnv K mg ["NoPoints", "NoDepth"] ["SpotError", "NoNumber", "NoHalf", "NoPoints", "NoDepth", "NotFour"]) (m_isinstance : mg "isinstance" = none) (m_ValueError : mg "ValueError" = none) {f : Addr} {cdv : Value} {A : Around} {outer : List Env} {s : Shared} {H : Hp} {E : XK} (hr : Room 0 (A.deeper (envOfC "_law_kind" (defScope s_l_kind) s.heap.objs.size f cdv))) :
    PSs (cxOf CX0 P w K mg base ["_law_e", "_law_found"] "_law_kind" (defScope s_l_kind) f cdv A outer s H E).nox (defBody s_l_kind) (liftS K H w_l_kind) :=
 (dss_cons (ds_set (i := 1) sc_l_kind.nd (de_lst da_nil))
 (dss_consM (ds_if (dt_val (de_isO m_isinstance (xe.at (by decide)) (fun x hx => xe.isa x hx _ (by decide)) (dv 0))) (dss_one (ds_append (i := 1) de_str)) dss_nil)
 (dss_consM (ds_if (dt_val (de_isO m_isinstance (xe.at (by decide)) (fun x hx => xe.isa x hx _ (by decide)) (dv 0))) (dss_one (ds_append (i := 1) de_str)) dss_nil)
 (dss_consM (ds_if (dt_1 (PW.pt (dw_or (dt_val (de_isOs m_isinstance (fun y hy => xe.at (by revert y hy; decide)) (fun x hx => xe.cls x (by revert x hx; decide)) (fun x hx y hy => xe.isa x hx y (by revert y hy; decide)) (dv 0) pan3)) (dw_or1 (dt_not (dt_val (de_isVal m_isinstance m_ValueError xe.val (dv 0)))))))) (dss_one (ds_append (i := 1) de_str)) dss_nil)
 (dss_one (ds_retV (pv 1)))))))
abbrev s_l_refused : Stmt := top 65
theorem sc_l_refused : FnScope ["_law_way", "_law_points_here", "_law_k", "_law_found", "_law_told", "_law_e"] ["_law_way", "_law_points_here", "_law_k"] (defScope s_l_refused) := ⟨rfl, rfl, rfl, by decide +kernel, rfl, by decide +kernel, by decide +kernel⟩
theorem b_l_refused {P : Program} {w : World} {K : PySem.W.Frag} {mg : Str → Option Value} {base : Heap} (xe : XEnv K mg ["NoPoints", "NoDepth"] ["SpotError", "NoNumber", "NoHalf", "NoPoints", "NoDepth", "NotFour"]) (c_l_kind : Callee P w K mg base 1 "_law_kind" sp_l_kind) (cx_depth : CalleeX P w K mg base 1 "depth" spx_depth) (cx_strong : CalleeX P w K mg base 2 "strong" spx_strong) (cx_region : CalleeX P w K mg base 2 "region" spx_region) (cx_deepest : CalleeX P w K mg base 2 "deepest" spx_deepest) {f : Addr} {cdv : Value} {A : Around} {outer : List Env} {s : Shared} {H : Hp} {E : XK} (hr : Room 2 (A.deeper (envOfC "_law_refused" (defScope s_l_refused) s.heap.objs.size f cdv))) :
    PSs (cxOf CX0 P w K mg base ["_law_way", "_law_points_here", "_law_k", "_law_found", "_law_told", "_law_e"] "_law_refused" (defScope s_l_refused) f cdv A outer s H E).nox (defBody s_l_refused) (liftS K H w_l_refused) :=
 (dss_cons (ds_set (i := 3) sc_l_refused.nd de_non)
 (dss_cons (ds_set (i := 4) sc_l_refused.nd de_non)
 (dss_consM (ds_try (i := 5) sc_l_refused.nd (xe.cls _ (by decide)) xe.sub (fun Ex pn xe hx => (dxs_cons (dx_if (dt_eq hr (dv 0) de_int) (dxs_one (dx_set (i := 4) sc_l_refused.nd cx_depth (hr.mono (by decide)) hx (da_cons (dv 1) (da_cons (de_tup (da_cons (de_tup (da_cons (dv 2) (da_cons de_int da_nil))) (da_cons (de_tup (da_cons (de_sub de_int (dv 2)) (da_cons de_int da_nil))) da_nil))) da_nil)))) (dxs_norm dss_nil)) (dxs_cons (dx_if (dt_eq hr (dv 0) de_int) (dxs_one (dx_set (i := 4) sc_l_refused.nd cx_strong (hr.mono (by decide)) hx (da_cons (dv 1) (da_cons (dv 2) da_nil)))) (dxs_norm dss_nil)) (dxs_cons (dx_if (dt_eq hr (dv 0) de_int) (dxs_one (dx_set (i := 4) sc_l_refused.nd cx_region (hr.mono (by decide)) hx (da_cons (dv 1) (da_cons (dv 2) da_nil)))) (dxs_norm dss_nil)) (dxs_one (dx_if (dt_eq hr (dv 0) de_int) (dxs_one (dx_set (i := 4) sc_l_refused.nd cx_deepest (hr.mono (by decide)) hx (da_cons (dv 1) da_nil))) (dxs_norm dss_nil))))))) (fun pn xe A hA => (dss_one (ds_set (i := 3) sc_l_refused.nd (dv 5)))))
 (dss_cons (ds_if (dt_IsN (dv 3)) (dss_one (ds_ret (de_IsN (dv 4)))) dss_nil)
 (dss_one (ds_ret (de_call c_l_kind (hr.mono (by decide)) rfl (da_cons (dv 3) da_nil))))))))
abbrev s_law : Stmt := top 66
theorem sc_law : FnScope ["_law_script", "_law_head", "_law_k", "_law_way", "_law_points_here"] ["_law_script"] (defScope s_law) := ⟨rfl, rfl, rfl, by decide +kernel, rfl, by decide +kernel, by decide +kernel⟩
theorem b_law {P : Program} {w : World} {K : PySem.W.Frag} {mg : Str → Option Value} {base : Heap} (m_range : mg "range" = none) (m_isinstance : mg "isinstance" = none) (m_list : mg "list" = none) (c_l_numbers : Callee P w K mg base 1 "_law_numbers" sp_l_numbers) (c_l_refused : Callee P w K mg base 3 "_law_refused" sp_l_refused) (c_l_points : Callee P w K mg base 2 "_law_points" sp_l_points) (c_region : Callee P w K mg base 6 "region" sp_region) {f : Addr} {cdv : Value} {A : Around} {outer : List Env} {s : Shared} {H : Hp} {E : XK} (hr : Room 6 (A.deeper (envOfC "law" (defScope s_law) s.heap.objs.size f cdv))) :
    PSs (cxOf CX0 P w K mg base ["_law_script", "_law_head", "_law_k", "_law_way", "_law_points_here"] "law" (defScope s_law) f cdv A outer s H E).nox (defBody s_law) (liftS K H w_law) :=
 (dss_cons (ds_set (i := 1) sc_law.nd (de_call c_l_numbers (hr.mono (by decide)) rfl (da_cons (dv 0) (da_cons de_int da_nil))))
 (dss_cons (ds_set (i := 2) sc_law.nd (de_sub de_int (de_mod (de_ix (dv 1) de_int) (de_ix (de_lst (da_cons de_int (da_cons (de_pow de_int de_int) da_nil))) (de_mod (de_ix (dv 1) de_int) de_int)))))
 (dss_consM (ds_for PassesOwn.never (di_range1 m_range (da_cons de_int da_nil)) (dg_name (i := 3) sc_law.nd) (dss_one (ds_if (dt_ne hr (de_call c_l_refused (hr.mono (by decide)) rfl (da_cons (dv 3) (da_cons (de_lst da_nil) (da_cons (dv 2) da_nil)))) (de_lst (da_cons de_str da_nil))) (dss_one (ds_ret de_bl)) dss_nil)))
 (dss_cons (ds_if (dt_ne hr (de_call c_l_refused (hr.mono (by decide)) rfl (da_cons de_int (da_cons (de_lst da_nil) (da_cons de_int da_nil)))) (de_lst (da_cons de_str da_nil))) (dss_one (ds_ret de_bl)) dss_nil)
 (dss_cons (ds_set (i := 4) sc_law.nd (de_call c_l_points (hr.mono (by decide)) rfl (da_cons (dv 1) (da_cons (de_add de_int (de_mod (de_ix (dv 1) de_int) de_int)) da_nil))))
 (dss_cons (ds_if (dt_ne hr (de_call c_l_refused (hr.mono (by decide)) rfl (da_cons de_int (da_cons (dv 4) (da_cons (dv 2) da_nil)))) (de_lst (da_cons de_str da_nil))) (dss_one (ds_ret de_bl)) dss_nil)
 (dss_one (ds_ret (de_is_list m_isinstance m_list (de_call c_region (hr.mono (by decide)) rfl (da_cons (dv 4) (da_cons de_int da_nil))))))))))))
theorem bx_depth {P : Program} {w : World} {K : PySem.W.Frag} {mg : Str → Option Value} {base : Heap} (xe : XEnv K mg ["NoPoints", "NoDepth"] ["SpotError", "NoNumber", "NoHalf", "NoPoints", "NoDepth", "NotFour"]) (m_len : mg "len" = none) {f : Addr} {cdv : Value} {A : Around} {outer : List Env} {s : Shared} {H : Hp} {E : XK} (hr : Room 0 (A.deeper (envOfC "depth" (defScope s_depth) s.heap.objs.size f cdv))) :
    PSs (cxOf (CX1 P w) P w K mg base ["points", "spot", "ways", "emptiest"] "depth" (defScope s_depth) f cdv A outer s H E) (defBody s_depth) (liftSX K H wx_depth fun C _ H' => E (.ref C) none H') :=
 (dxs_cons (dx_if (dt_eq hr (de_len m_len (da_cons (dv 0) da_nil)) de_int) (dxs_one (dx_raise (xe.cls _ (by decide)) raises_def (da_cons de_str da_nil))) (dxs_norm dss_nil)) (dxs_norm dss_never))
theorem bx_strong {P : Program} {w : World} {K : PySem.W.Frag} {mg : Str → Option Value} {base : Heap} (cx_need_points : CalleeX P w K mg base 1 "need_points" spx_need_points) {f : Addr} {cdv : Value} {A : Around} {outer : List Env} {s : Shared} {H : Hp} {E : XK} (hr : Room 1 (A.deeper (envOfC "strong" (defScope s_strong) s.heap.objs.size f cdv))) :
    PSs (cxOf (CX1 P w) P w K mg base ["points", "many"] "strong" (defScope s_strong) f cdv A outer s H E) (defBody s_strong) (liftSX K H wx_strong fun C _ H' => E (.ref C) none H') :=
 (dxs_cons (dx_drop cx_need_points (hr.mono (by decide)) passes_def (da_cons (dv 0) da_nil)) (dxs_norm dss_never))
theorem bx_need_points {P : Program} {w : World} {K : PySem.W.Frag} {mg : Str → Option Value} {base : Heap} (xe : XEnv K mg ["NoPoints", "NoDepth"] ["SpotError", "NoNumber", "NoHalf", "NoPoints", "NoDepth", "NotFour"]) (m_len : mg "len" = none) {f : Addr} {cdv : Value} {A : Around} {outer : List Env} {s : Shared} {H : Hp} {E : XK} (hr : Room 0 (A.deeper (envOfC "need_points" (defScope s_need_points) s.heap.objs.size f cdv))) :
    PSs (cxOf (CX1 P w) P w K mg base ["points"] "need_points" (defScope s_need_points) f cdv A outer s H E) (defBody s_need_points) (liftSX K H wx_need_points fun C _ H' => E (.ref C) none H') :=
 (dxs_one (dx_if (dt_eq hr (de_len m_len (da_cons (dv 0) da_nil)) de_int) (dxs_one (dx_raise (xe.cls _ (by decide)) raises_def (da_cons de_str da_nil))) (dxs_norm dss_nil)))
theorem bx_region {P : Program} {w : World} {K : PySem.W.Frag} {mg : Str → Option Value} {base : Heap} (xe : XEnv K mg ["NoPoints", "NoDepth"] ["SpotError", "NoNumber", "NoHalf", "NoPoints", "NoDepth", "NotFour"]) (c_need_points : Callee P w K mg base 1 "need_points" sp_need_points) (cx_need_points : CalleeX P w K mg base 1 "need_points" spx_need_points) {f : Addr} {cdv : Value} {A : Around} {outer : List Env} {s : Shared} {H : Hp} {E : XK} (hr : Room 1 (A.deeper (envOfC "region" (defScope s_region) s.heap.objs.size f cdv))) :
    PSs (cxOf (CX1 P w) P w K mg base ["points", "k", "part", "found"] "region" (defScope s_region) f cdv A outer s H E) (defBody s_region) (liftSX K H wx_region fun C _ H' => E (.ref C) none H') :=
 (dxs_cons (dx_or (dx_drop cx_need_points (hr.mono (by decide)) passes_def (da_cons (dv 0) da_nil)) (dx_norm (ds_drop (de_call c_need_points (hr.mono (by decide)) rfl (da_cons (dv 0) da_nil))))) (dxs_cons (dx_if (dt_lt (dv 1) de_int) (dxs_one (dx_raise (xe.cls _ (by decide)) raises_def (da_cons de_str da_nil))) (dxs_norm dss_nil)) (dxs_norm dss_never)))
theorem bx_deepest {P : Program} {w : World} {K : PySem.W.Frag} {mg : Str → Option Value} {base : Heap} (cx_need_points : CalleeX P w K mg base 1 "need_points" spx_need_points) {f : Addr} {cdv : Value} {A : Around} {outer : List Env} {s : Shared} {H : Hp} {E : XK} (hr : Room 1 (A.deeper (envOfC "deepest" (defScope s_deepest) s.heap.objs.size f cdv))) :
    PSs (cxOf (CX1 P w) P w K mg base ["points", "k", "halves", "weights", "asked", "told"] "deepest" (defScope s_deepest) f cdv A outer s H E) (defBody s_deepest) (liftSX K H wx_deepest fun C _ H' => E (.ref C) none H') :=
 (dxs_cons (dx_drop cx_need_points (hr.mono (by decide)) passes_def (da_cons (dv 0) da_nil)) (dxs_norm dss_never))
theorem all_mk {l : PySem.W.OpenLaw} {w : World} {K : PySem.W.Frag} {h : Heap} {mg : Str → Option Value} {fa C_SpotError C_NoNumber C_NoHalf C_NoPoints C_NoDepth C_NotFour f_0 f_1 f_2 f_3 f_4 f_5 f_6 f_7 f_8 f_9 f_10 f_11 f_12 f_13 f_14 f_15 f_16 f_17 f_18 f_19 f_20 f_21 f_22 f_23 f_24 f_25 f_26 f_27 f_28 f_29 f_30 f_31 : Addr} (X : K.In h) (G : h.Ns mainGlobals mg) (hfa : mg "law" = some (.ref fa))
    {od0 an0 od1 an1 od2 an2 od3 an3 od4 an4 od5 an5 od6 an6 od7 an7 od8 an8 od9 an9 od10 an10 od11 an11 od12 an12 od13 an13 od14 an14 od15 an15 od16 an16 od17 an17 od18 an18 od19 an19 od20 an20 od21 an21 od22 an22 od23 an23 od24 an24 od25 an25 od26 an26 od27 an27 od28 an28 od29 an29 od30 an30 od31 an31 : Option Addr} {sl0 sl1 sl2 sl3 sl4 sl5 sl6 sl7 sl8 sl9 sl10 sl11 sl12 sl13 sl14 sl15 sl16 sl17 sl18 sl19 sl20 sl21 sl22 sl23 sl24 sl25 sl26 sl27 sl28 sl29 sl30 sl31 : Array (Option Value)} {oc0 kV0 dc0 pm0 cd0 ct0 oc1 kV1 dc1 pm1 cd1 ct1 oc2 kV2 dc2 pm2 cd2 ct2 oc3 kV3 dc3 pm3 cd3 ct3 oc4 kV4 dc4 pm4 cd4 ct4 oc5 kV5 dc5 pm5 cd5 ct5 oc6 kV6 dc6 pm6 cd6 ct6 oc7 kV7 dc7 pm7 cd7 ct7 oc8 kV8 dc8 pm8 cd8 ct8 oc9 kV9 dc9 pm9 cd9 ct9 oc10 kV10 dc10 pm10 cd10 ct10 oc11 kV11 dc11 pm11 cd11 ct11 oc12 kV12 dc12 pm12 cd12 ct12 oc13 kV13 dc13 pm13 cd13 ct13 oc14 kV14 dc14 pm14 cd14 ct14 oc15 kV15 dc15 pm15 cd15 ct15 oc16 kV16 dc16 pm16 cd16 ct16 oc17 kV17 dc17 pm17 cd17 ct17 oc18 kV18 dc18 pm18 cd18 ct18 oc19 kV19 dc19 pm19 cd19 ct19 oc20 kV20 dc20 pm20 cd20 ct20 oc21 kV21 dc21 pm21 cd21 ct21 oc22 kV22 dc22 pm22 cd22 ct22 oc23 kV23 dc23 pm23 cd23 ct23 oc24 kV24 dc24 pm24 cd24 ct24 oc25 kV25 dc25 pm25 cd25 ct25 oc26 kV26 dc26 pm26 cd26 ct26 oc27 kV27 dc27 pm27 cd27 ct27 oc28 kV28 dc28 pm28 cd28 ct28 oc29 kV29 dc29 pm29 cd29 ct29 oc30 kV30 dc30 pm30 cd30 ct30 oc31 kV31 dc31 pm31 cd31 ct31 : Value}
    (a0 : PySem.W.nsIn K mainGlobals "divisor" = some (some (.ref f_0))) (l0 : K.lookup f_0 = some ⟨oc0, od0, .func (PySem.W.fnOf "divisor" "divisor" (defArgs s_divisor) (defBody s_divisor) (defScope s_divisor) .none kV0 dc0 pm0 an0 cd0 ct0), sl0⟩) (e0 : PySem.W.codeIn K cd0 "divisor" = true) (k0 : PySem.W.keepIn K (.ref f_0) = true)
    (a1 : PySem.W.nsIn K mainGlobals "below" = some (some (.ref f_1))) (l1 : K.lookup f_1 = some ⟨oc1, od1, .func (PySem.W.fnOf "below" "below" (defArgs s_below) (defBody s_below) (defScope s_below) .none kV1 dc1 pm1 an1 cd1 ct1), sl1⟩) (e1 : PySem.W.codeIn K cd1 "below" = true) (k1 : PySem.W.keepIn K (.ref f_1) = true)
    (a2 : PySem.W.nsIn K mainGlobals "half" = some (some (.ref f_2))) (l2 : K.lookup f_2 = some ⟨oc2, od2, .func (PySem.W.fnOf "half" "half" (defArgs s_half) (defBody s_half) (defScope s_half) .none kV2 dc2 pm2 an2 cd2 ct2), sl2⟩) (e2 : PySem.W.codeIn K cd2 "half" = true) (k2 : PySem.W.keepIn K (.ref f_2) = true)
    (a3 : PySem.W.nsIn K mainGlobals "between" = some (some (.ref f_3))) (l3 : K.lookup f_3 = some ⟨oc3, od3, .func (PySem.W.fnOf "between" "between" (defArgs s_between) (defBody s_between) (defScope s_between) .none kV3 dc3 pm3 an3 cd3 ct3), sl3⟩) (e3 : PySem.W.codeIn K cd3 "between" = true) (k3 : PySem.W.keepIn K (.ref f_3) = true)
    (a4 : PySem.W.nsIn K mainGlobals "as_spot" = some (some (.ref f_4))) (l4 : K.lookup f_4 = some ⟨oc4, od4, .func (PySem.W.fnOf "as_spot" "as_spot" (defArgs s_as_spot) (defBody s_as_spot) (defScope s_as_spot) .none kV4 dc4 pm4 an4 cd4 ct4), sl4⟩) (e4 : PySem.W.codeIn K cd4 "as_spot" = true) (k4 : PySem.W.keepIn K (.ref f_4) = true)
    (a5 : PySem.W.nsIn K mainGlobals "bottoms" = some (some (.ref f_5))) (l5 : K.lookup f_5 = some ⟨oc5, od5, .func (PySem.W.fnOf "bottoms" "bottoms" (defArgs s_bottoms) (defBody s_bottoms) (defScope s_bottoms) .none kV5 dc5 pm5 an5 cd5 ct5), sl5⟩) (e5 : PySem.W.codeIn K cd5 "bottoms" = true) (k5 : PySem.W.keepIn K (.ref f_5) = true)
    (a6 : PySem.W.nsIn K mainGlobals "excess" = some (some (.ref f_6))) (l6 : K.lookup f_6 = some ⟨oc6, od6, .func (PySem.W.fnOf "excess" "excess" (defArgs s_excess) (defBody s_excess) (defScope s_excess) .none kV6 dc6 pm6 an6 cd6 ct6), sl6⟩) (e6 : PySem.W.codeIn K cd6 "excess" = true) (k6 : PySem.W.keepIn K (.ref f_6) = true)
    (a7 : PySem.W.nsIn K mainGlobals "sign" = some (some (.ref f_7))) (l7 : K.lookup f_7 = some ⟨oc7, od7, .func (PySem.W.fnOf "sign" "sign" (defArgs s_sign) (defBody s_sign) (defScope s_sign) .none kV7 dc7 pm7 an7 cd7 ct7), sl7⟩) (e7 : PySem.W.codeIn K cd7 "sign" = true) (k7 : PySem.W.keepIn K (.ref f_7) = true)
    (a8 : PySem.W.nsIn K mainGlobals "side" = some (some (.ref f_8))) (l8 : K.lookup f_8 = some ⟨oc8, od8, .func (PySem.W.fnOf "side" "side" (defArgs s_side) (defBody s_side) (defScope s_side) .none kV8 dc8 pm8 an8 cd8 ct8), sl8⟩) (e8 : PySem.W.codeIn K cd8 "side" = true) (k8 : PySem.W.keepIn K (.ref f_8) = true)
    (a9 : PySem.W.nsIn K mainGlobals "many_in" = some (some (.ref f_9))) (l9 : K.lookup f_9 = some ⟨oc9, od9, .func (PySem.W.fnOf "many_in" "many_in" (defArgs s_many_in) (defBody s_many_in) (defScope s_many_in) .none kV9 dc9 pm9 an9 cd9 ct9), sl9⟩) (e9 : PySem.W.codeIn K cd9 "many_in" = true) (k9 : PySem.W.keepIn K (.ref f_9) = true)
    (a10 : PySem.W.nsIn K mainGlobals "lesser" = some (some (.ref f_10))) (l10 : K.lookup f_10 = some ⟨oc10, od10, .func (PySem.W.fnOf "lesser" "lesser" (defArgs s_lesser) (defBody s_lesser) (defScope s_lesser) .none kV10 dc10 pm10 an10 cd10 ct10), sl10⟩) (e10 : PySem.W.codeIn K cd10 "lesser" = true) (k10 : PySem.W.keepIn K (.ref f_10) = true)
    (a11 : PySem.W.nsIn K mainGlobals "stretched" = some (some (.ref f_11))) (l11 : K.lookup f_11 = some ⟨oc11, od11, .func (PySem.W.fnOf "stretched" "stretched" (defArgs s_stretched) (defBody s_stretched) (defScope s_stretched) .none kV11 dc11 pm11 an11 cd11 ct11), sl11⟩) (e11 : PySem.W.codeIn K cd11 "stretched" = true) (k11 : PySem.W.keepIn K (.ref f_11) = true)
    (a12 : PySem.W.nsIn K mainGlobals "turn" = some (some (.ref f_12))) (l12 : K.lookup f_12 = some ⟨oc12, od12, .func (PySem.W.fnOf "turn" "turn" (defArgs s_turn) (defBody s_turn) (defScope s_turn) .none kV12 dc12 pm12 an12 cd12 ct12), sl12⟩) (e12 : PySem.W.codeIn K cd12 "turn" = true) (k12 : PySem.W.keepIn K (.ref f_12) = true)
    (a13 : PySem.W.nsIn K mainGlobals "chain" = some (some (.ref f_13))) (l13 : K.lookup f_13 = some ⟨oc13, od13, .func (PySem.W.fnOf "chain" "chain" (defArgs s_chain) (defBody s_chain) (defScope s_chain) .none kV13 dc13 pm13 an13 cd13 ct13), sl13⟩) (e13 : PySem.W.codeIn K cd13 "chain" = true) (k13 : PySem.W.keepIn K (.ref f_13) = true)
    (a14 : PySem.W.nsIn K mainGlobals "hull" = some (some (.ref f_14))) (l14 : K.lookup f_14 = some ⟨oc14, od14, .func (PySem.W.fnOf "hull" "hull" (defArgs s_hull) (defBody s_hull) (defScope s_hull) .none kV14 dc14 pm14 an14 cd14 ct14), sl14⟩) (e14 : PySem.W.codeIn K cd14 "hull" = true) (k14 : PySem.W.keepIn K (.ref f_14) = true)
    (a15 : PySem.W.nsIn K mainGlobals "sides" = some (some (.ref f_15))) (l15 : K.lookup f_15 = some ⟨oc15, od15, .func (PySem.W.fnOf "sides" "sides" (defArgs s_sides) (defBody s_sides) (defScope s_sides) .none kV15 dc15 pm15 an15 cd15 ct15), sl15⟩) (e15 : PySem.W.codeIn K cd15 "sides" = true) (k15 : PySem.W.keepIn K (.ref f_15) = true)
    (a16 : PySem.W.nsIn K mainGlobals "from_least" = some (some (.ref f_16))) (l16 : K.lookup f_16 = some ⟨oc16, od16, .func (PySem.W.fnOf "from_least" "from_least" (defArgs s_from_least) (defBody s_from_least) (defScope s_from_least) .none kV16 dc16 pm16 an16 cd16 ct16), sl16⟩) (e16 : PySem.W.codeIn K cd16 "from_least" = true) (k16 : PySem.W.keepIn K (.ref f_16) = true)
    (a17 : PySem.W.nsIn K mainGlobals "crossing" = some (some (.ref f_17))) (l17 : K.lookup f_17 = some ⟨oc17, od17, .func (PySem.W.fnOf "crossing" "crossing" (defArgs s_crossing) (defBody s_crossing) (defScope s_crossing) .none kV17 dc17 pm17 an17 cd17 ct17), sl17⟩) (e17 : PySem.W.codeIn K cd17 "crossing" = true) (k17 : PySem.W.keepIn K (.ref f_17) = true)
    (a18 : PySem.W.nsIn K mainGlobals "clipped" = some (some (.ref f_18))) (l18 : K.lookup f_18 = some ⟨oc18, od18, .func (PySem.W.fnOf "clipped" "clipped" (defArgs s_clipped) (defBody s_clipped) (defScope s_clipped) .none kV18 dc18 pm18 an18 cd18 ct18), sl18⟩) (e18 : PySem.W.codeIn K cd18 "clipped" = true) (k18 : PySem.W.keepIn K (.ref f_18) = true)
    (a19 : PySem.W.nsIn K mainGlobals "upright_and_level" = some (some (.ref f_19))) (l19 : K.lookup f_19 = some ⟨oc19, od19, .func (PySem.W.fnOf "upright_and_level" "upright_and_level" (defArgs s_upright_and_level) (defBody s_upright_and_level) (defScope s_upright_and_level) .none kV19 dc19 pm19 an19 cd19 ct19), sl19⟩) (e19 : PySem.W.codeIn K cd19 "upright_and_level" = true) (k19 : PySem.W.keepIn K (.ref f_19) = true)
    (a20 : PySem.W.nsIn K mainGlobals "bordered" = some (some (.ref f_20))) (l20 : K.lookup f_20 = some ⟨oc20, od20, .func (PySem.W.fnOf "bordered" "bordered" (defArgs s_bordered) (defBody s_bordered) (defScope s_bordered) .none kV20 dc20 pm20 an20 cd20 ct20), sl20⟩) (e20 : PySem.W.codeIn K cd20 "bordered" = true) (k20 : PySem.W.keepIn K (.ref f_20) = true)
    (a21 : PySem.W.nsIn K mainGlobals "need_points" = some (some (.ref f_21))) (l21 : K.lookup f_21 = some ⟨oc21, od21, .func (PySem.W.fnOf "need_points" "need_points" (defArgs s_need_points) (defBody s_need_points) (defScope s_need_points) .none kV21 dc21 pm21 an21 cd21 ct21), sl21⟩) (e21 : PySem.W.codeIn K cd21 "need_points" = true) (k21 : PySem.W.keepIn K (.ref f_21) = true)
    (a22 : PySem.W.nsIn K mainGlobals "strong" = some (some (.ref f_22))) (l22 : K.lookup f_22 = some ⟨oc22, od22, .func (PySem.W.fnOf "strong" "strong" (defArgs s_strong) (defBody s_strong) (defScope s_strong) .none kV22 dc22 pm22 an22 cd22 ct22), sl22⟩) (e22 : PySem.W.codeIn K cd22 "strong" = true) (k22 : PySem.W.keepIn K (.ref f_22) = true)
    (a23 : PySem.W.nsIn K mainGlobals "region" = some (some (.ref f_23))) (l23 : K.lookup f_23 = some ⟨oc23, od23, .func (PySem.W.fnOf "region" "region" (defArgs s_region) (defBody s_region) (defScope s_region) .none kV23 dc23 pm23 an23 cd23 ct23), sl23⟩) (e23 : PySem.W.codeIn K cd23 "region" = true) (k23 : PySem.W.keepIn K (.ref f_23) = true)
    (a24 : PySem.W.nsIn K mainGlobals "deepest" = some (some (.ref f_24))) (l24 : K.lookup f_24 = some ⟨oc24, od24, .func (PySem.W.fnOf "deepest" "deepest" (defArgs s_deepest) (defBody s_deepest) (defScope s_deepest) .none kV24 dc24 pm24 an24 cd24 ct24), sl24⟩) (e24 : PySem.W.codeIn K cd24 "deepest" = true) (k24 : PySem.W.keepIn K (.ref f_24) = true)
    (a25 : PySem.W.nsIn K mainGlobals "depth" = some (some (.ref f_25))) (l25 : K.lookup f_25 = some ⟨oc25, od25, .func (PySem.W.fnOf "depth" "depth" (defArgs s_depth) (defBody s_depth) (defScope s_depth) .none kV25 dc25 pm25 an25 cd25 ct25), sl25⟩) (e25 : PySem.W.codeIn K cd25 "depth" = true) (k25 : PySem.W.keepIn K (.ref f_25) = true)
    (a26 : PySem.W.nsIn K mainGlobals "_law_numbers" = some (some (.ref f_26))) (l26 : K.lookup f_26 = some ⟨oc26, od26, .func (PySem.W.fnOf "_law_numbers" "_law_numbers" (defArgs s_l_numbers) (defBody s_l_numbers) (defScope s_l_numbers) .none kV26 dc26 pm26 an26 cd26 ct26), sl26⟩) (e26 : PySem.W.codeIn K cd26 "_law_numbers" = true) (k26 : PySem.W.keepIn K (.ref f_26) = true)
    (a27 : PySem.W.nsIn K mainGlobals "_law_digit" = some (some (.ref f_27))) (l27 : K.lookup f_27 = some ⟨oc27, od27, .func (PySem.W.fnOf "_law_digit" "_law_digit" (defArgs s_l_digit) (defBody s_l_digit) (defScope s_l_digit) .none kV27 dc27 pm27 an27 cd27 ct27), sl27⟩) (e27 : PySem.W.codeIn K cd27 "_law_digit" = true) (k27 : PySem.W.keepIn K (.ref f_27) = true)
    (a28 : PySem.W.nsIn K mainGlobals "_law_points" = some (some (.ref f_28))) (l28 : K.lookup f_28 = some ⟨oc28, od28, .func (PySem.W.fnOf "_law_points" "_law_points" (defArgs s_l_points) (defBody s_l_points) (defScope s_l_points) .none kV28 dc28 pm28 an28 cd28 ct28), sl28⟩) (e28 : PySem.W.codeIn K cd28 "_law_points" = true) (k28 : PySem.W.keepIn K (.ref f_28) = true)
    (a29 : PySem.W.nsIn K mainGlobals "_law_kind" = some (some (.ref f_29))) (l29 : K.lookup f_29 = some ⟨oc29, od29, .func (PySem.W.fnOf "_law_kind" "_law_kind" (defArgs s_l_kind) (defBody s_l_kind) (defScope s_l_kind) .none kV29 dc29 pm29 an29 cd29 ct29), sl29⟩) (e29 : PySem.W.codeIn K cd29 "_law_kind" = true) (k29 : PySem.W.keepIn K (.ref f_29) = true)
    (a30 : PySem.W.nsIn K mainGlobals "_law_refused" = some (some (.ref f_30))) (l30 : K.lookup f_30 = some ⟨oc30, od30, .func (PySem.W.fnOf "_law_refused" "_law_refused" (defArgs s_l_refused) (defBody s_l_refused) (defScope s_l_refused) .none kV30 dc30 pm30 an30 cd30 ct30), sl30⟩) (e30 : PySem.W.codeIn K cd30 "_law_refused" = true) (k30 : PySem.W.keepIn K (.ref f_30) = true)
    (a31 : PySem.W.nsIn K mainGlobals "law" = some (some (.ref f_31))) (l31 : K.lookup f_31 = some ⟨oc31, od31, .func (PySem.W.fnOf "law" "law" (defArgs s_law) (defBody s_law) (defScope s_law) .none kV31 dc31 pm31 an31 cd31 ct31), sl31⟩) (e31 : PySem.W.codeIn K cd31 "law" = true) (k31 : PySem.W.keepIn K (.ref f_31) = true)
    (ea_SpotError : PySem.W.nsIn K mainGlobals "SpotError" = some (some (.ref C_SpotError)))
    (ex_SpotError : PySem.W.excIn K C_SpotError bmV "ValueError.__new__" = true)
    (e0_SpotError : PySem.W.findIn K (.ref C_SpotError) "__getattribute__" = some (some (.builtin "BaseException.__getattribute__")))
    (e1_SpotError : PySem.W.findIn K (.ref C_SpotError) "__getattr__" = some none)
    (e2_SpotError : PySem.W.findIn K (.ref C_SpotError) "__class__" = some (some (.builtin "object.__class__")))
    (e3_SpotError : PySem.W.mroIn K C_SpotError (.type "BaseException") = some true)
    (e4_SpotError : PySem.W.mroIn K C_SpotError (.type "object") = some true)
    (ea_NoNumber : PySem.W.nsIn K mainGlobals "NoNumber" = some (some (.ref C_NoNumber)))
    (ex_NoNumber : PySem.W.excIn K C_NoNumber bmV "ValueError.__new__" = true)
    (e0_NoNumber : PySem.W.findIn K (.ref C_NoNumber) "__getattribute__" = some (some (.builtin "BaseException.__getattribute__")))
    (e1_NoNumber : PySem.W.findIn K (.ref C_NoNumber) "__getattr__" = some none)
    (e2_NoNumber : PySem.W.findIn K (.ref C_NoNumber) "__class__" = some (some (.builtin "object.__class__")))
    (e3_NoNumber : PySem.W.mroIn K C_NoNumber (.type "BaseException") = some true)
    (e4_NoNumber : PySem.W.mroIn K C_NoNumber (.type "object") = some true)
    (ea_NoHalf : PySem.W.nsIn K mainGlobals "NoHalf" = some (some (.ref C_NoHalf)))
    (ex_NoHalf : PySem.W.excIn K C_NoHalf bmV "ValueError.__new__" = true)
    (e0_NoHalf : PySem.W.findIn K (.ref C_NoHalf) "__getattribute__" = some (some (.builtin "BaseException.__getattribute__")))
    (e1_NoHalf : PySem.W.findIn K (.ref C_NoHalf) "__getattr__" = some none)
    (e2_NoHalf : PySem.W.findIn K (.ref C_NoHalf) "__class__" = some (some (.builtin "object.__class__")))
    (e3_NoHalf : PySem.W.mroIn K C_NoHalf (.type "BaseException") = some true)
    (e4_NoHalf : PySem.W.mroIn K C_NoHalf (.type "object") = some true)
    (ea_NoPoints : PySem.W.nsIn K mainGlobals "NoPoints" = some (some (.ref C_NoPoints)))
    (ex_NoPoints : PySem.W.excIn K C_NoPoints bmV "ValueError.__new__" = true)
    (e0_NoPoints : PySem.W.findIn K (.ref C_NoPoints) "__getattribute__" = some (some (.builtin "BaseException.__getattribute__")))
    (e1_NoPoints : PySem.W.findIn K (.ref C_NoPoints) "__getattr__" = some none)
    (e2_NoPoints : PySem.W.findIn K (.ref C_NoPoints) "__class__" = some (some (.builtin "object.__class__")))
    (e3_NoPoints : PySem.W.mroIn K C_NoPoints (.type "BaseException") = some true)
    (e4_NoPoints : PySem.W.mroIn K C_NoPoints (.type "object") = some true)
    (ea_NoDepth : PySem.W.nsIn K mainGlobals "NoDepth" = some (some (.ref C_NoDepth)))
    (ex_NoDepth : PySem.W.excIn K C_NoDepth bmV "ValueError.__new__" = true)
    (e0_NoDepth : PySem.W.findIn K (.ref C_NoDepth) "__getattribute__" = some (some (.builtin "BaseException.__getattribute__")))
    (e1_NoDepth : PySem.W.findIn K (.ref C_NoDepth) "__getattr__" = some none)
    (e2_NoDepth : PySem.W.findIn K (.ref C_NoDepth) "__class__" = some (some (.builtin "object.__class__")))
    (e3_NoDepth : PySem.W.mroIn K C_NoDepth (.type "BaseException") = some true)
    (e4_NoDepth : PySem.W.mroIn K C_NoDepth (.type "object") = some true)
    (ea_NotFour : PySem.W.nsIn K mainGlobals "NotFour" = some (some (.ref C_NotFour)))
    (ex_NotFour : PySem.W.excIn K C_NotFour bmV "ValueError.__new__" = true)
    (e0_NotFour : PySem.W.findIn K (.ref C_NotFour) "__getattribute__" = some (some (.builtin "BaseException.__getattribute__")))
    (e1_NotFour : PySem.W.findIn K (.ref C_NotFour) "__getattr__" = some none)
    (e2_NotFour : PySem.W.findIn K (.ref C_NotFour) "__class__" = some (some (.builtin "object.__class__")))
    (e3_NotFour : PySem.W.mroIn K C_NotFour (.type "BaseException") = some true)
    (e4_NotFour : PySem.W.mroIn K C_NotFour (.type "object") = some true)
    (es_NoPoints : PySem.W.mroIn K C_NoPoints (.ref C_SpotError) = some true)
    (ev_NoPoints : PySem.W.kitOne K (.ref C_NoPoints) (.type "ValueError") = some true)
    (ei_NoPoints_SpotError : PySem.W.kitOne K (.ref C_NoPoints) (.ref C_SpotError) = some true)
    (ei_NoPoints_NoNumber : PySem.W.kitOne K (.ref C_NoPoints) (.ref C_NoNumber) = some false)
    (ei_NoPoints_NoHalf : PySem.W.kitOne K (.ref C_NoPoints) (.ref C_NoHalf) = some false)
    (ei_NoPoints_NoPoints : PySem.W.kitOne K (.ref C_NoPoints) (.ref C_NoPoints) = some true)
    (ei_NoPoints_NoDepth : PySem.W.kitOne K (.ref C_NoPoints) (.ref C_NoDepth) = some false)
    (ei_NoPoints_NotFour : PySem.W.kitOne K (.ref C_NoPoints) (.ref C_NotFour) = some false)
    (es_NoDepth : PySem.W.mroIn K C_NoDepth (.ref C_SpotError) = some true)
    (ev_NoDepth : PySem.W.kitOne K (.ref C_NoDepth) (.type "ValueError") = some true)
    (ei_NoDepth_SpotError : PySem.W.kitOne K (.ref C_NoDepth) (.ref C_SpotError) = some true)
    (ei_NoDepth_NoNumber : PySem.W.kitOne K (.ref C_NoDepth) (.ref C_NoNumber) = some false)
    (ei_NoDepth_NoHalf : PySem.W.kitOne K (.ref C_NoDepth) (.ref C_NoHalf) = some false)
    (ei_NoDepth_NoPoints : PySem.W.kitOne K (.ref C_NoDepth) (.ref C_NoPoints) = some false)
    (ei_NoDepth_NoDepth : PySem.W.kitOne K (.ref C_NoDepth) (.ref C_NoDepth) = some true)
    (ei_NoDepth_NotFour : PySem.W.kitOne K (.ref C_NoDepth) (.ref C_NotFour) = some false)
    (z_abs : PySem.W.nsIn K mainGlobals "abs" = some none)
    (z_len : PySem.W.nsIn K mainGlobals "len" = some none)
    (z_sorted : PySem.W.nsIn K mainGlobals "sorted" = some none)
    (z_set : PySem.W.nsIn K mainGlobals "set" = some none)
    (z_list : PySem.W.nsIn K mainGlobals "list" = some none)
    (z_reversed : PySem.W.nsIn K mainGlobals "reversed" = some none)
    (z_range : PySem.W.nsIn K mainGlobals "range" = some none)
    (z_max : PySem.W.nsIn K mainGlobals "max" = some none)
    (z_min : PySem.W.nsIn K mainGlobals "min" = some none)
    (z_isinstance : PySem.W.nsIn K mainGlobals "isinstance" = some none)
    (z_ValueError : PySem.W.nsIn K mainGlobals "ValueError" = some none)
    : ∃ fd : FuncData, (∀ (s : Shared) (v : Value), BindsTo s fd ⟨[v], []⟩ [("_law_script", v)]) ∧ ∀ base : Heap, K.In base → base.Ns mainGlobals mg → FnOk l.prog w K mg base CX0 7 fa fd ["_law_script"] (toSp K spLaw) := by
  have e := hfa.symm.trans (PySem.W.mg_of X G a31)
  cases e
  have F_divisor := fun_mk (st := s_divisor) l0 e0 k0
  have B_divisor := F_divisor.binds (ps := ["one", "other"]) fun _ _ _ _ _ _ us hl => match us, hl with | [_, _], _ => rfl
  have F_below := fun_mk (st := s_below) l1 e1 k1
  have B_below := F_below.binds (ps := ["one", "other"]) fun _ _ _ _ _ _ us hl => match us, hl with | [_, _], _ => rfl
  have F_half := fun_mk (st := s_half) l2 e2 k2
  have B_half := F_half.binds (ps := ["a", "b", "c"]) fun _ _ _ _ _ _ us hl => match us, hl with | [_, _, _], _ => rfl
  have F_between := fun_mk (st := s_between) l3 e3 k3
  have B_between := F_between.binds (ps := ["one", "other"]) fun _ _ _ _ _ _ us hl => match us, hl with | [_, _], _ => rfl
  have F_as_spot := fun_mk (st := s_as_spot) l4 e4 k4
  have B_as_spot := F_as_spot.binds (ps := ["point"]) fun _ _ _ _ _ _ us hl => match us, hl with | [_], _ => rfl
  have F_bottoms := fun_mk (st := s_bottoms) l5 e5 k5
  have B_bottoms := F_bottoms.binds (ps := ["spot"]) fun _ _ _ _ _ _ us hl => match us, hl with | [_], _ => rfl
  have F_excess := fun_mk (st := s_excess) l6 e6 k6
  have B_excess := F_excess.binds (ps := ["half", "spot"]) fun _ _ _ _ _ _ us hl => match us, hl with | [_, _], _ => rfl
  have F_sign := fun_mk (st := s_sign) l7 e7 k7
  have B_sign := F_sign.binds (ps := ["number"]) fun _ _ _ _ _ _ us hl => match us, hl with | [_], _ => rfl
  have F_side := fun_mk (st := s_side) l8 e8 k8
  have B_side := F_side.binds (ps := ["half", "spot"]) fun _ _ _ _ _ _ us hl => match us, hl with | [_, _], _ => rfl
  have F_many_in := fun_mk (st := s_many_in) l9 e9 k9
  have B_many_in := F_many_in.binds (ps := ["half", "points"]) fun _ _ _ _ _ _ us hl => match us, hl with | [_, _], _ => rfl
  have F_lesser := fun_mk (st := s_lesser) l10 e10 k10
  have B_lesser := F_lesser.binds (ps := ["one", "other"]) fun _ _ _ _ _ _ us hl => match us, hl with | [_, _], _ => rfl
  have F_stretched := fun_mk (st := s_stretched) l11 e11 k11
  have B_stretched := F_stretched.binds (ps := ["spot"]) fun _ _ _ _ _ _ us hl => match us, hl with | [_], _ => rfl
  have F_turn := fun_mk (st := s_turn) l12 e12 k12
  have B_turn := F_turn.binds (ps := ["one", "other", "third"]) fun _ _ _ _ _ _ us hl => match us, hl with | [_, _, _], _ => rfl
  have F_chain := fun_mk (st := s_chain) l13 e13 k13
  have B_chain := F_chain.binds (ps := ["spots"]) fun _ _ _ _ _ _ us hl => match us, hl with | [_], _ => rfl
  have F_hull := fun_mk (st := s_hull) l14 e14 k14
  have B_hull := F_hull.binds (ps := ["points"]) fun _ _ _ _ _ _ us hl => match us, hl with | [_], _ => rfl
  have F_sides := fun_mk (st := s_sides) l15 e15 k15
  have B_sides := F_sides.binds (ps := ["region"]) fun _ _ _ _ _ _ us hl => match us, hl with | [_], _ => rfl
  have F_from_least := fun_mk (st := s_from_least) l16 e16 k16
  have B_from_least := F_from_least.binds (ps := ["corners"]) fun _ _ _ _ _ _ us hl => match us, hl with | [_], _ => rfl
  have F_crossing := fun_mk (st := s_crossing) l17 e17 k17
  have B_crossing := F_crossing.binds (ps := ["half", "one", "other"]) fun _ _ _ _ _ _ us hl => match us, hl with | [_, _, _], _ => rfl
  have F_clipped := fun_mk (st := s_clipped) l18 e18 k18
  have B_clipped := F_clipped.binds (ps := ["region", "half"]) fun _ _ _ _ _ _ us hl => match us, hl with | [_, _], _ => rfl
  have F_upright_and_level := fun_mk (st := s_upright_and_level) l19 e19 k19
  have B_upright_and_level := F_upright_and_level.binds (ps := ["point"]) fun _ _ _ _ _ _ us hl => match us, hl with | [_], _ => rfl
  have F_bordered := fun_mk (st := s_bordered) l20 e20 k20
  have B_bordered := F_bordered.binds (ps := ["points"]) fun _ _ _ _ _ _ us hl => match us, hl with | [_], _ => rfl
  have F_need_points := fun_mk (st := s_need_points) l21 e21 k21
  have B_need_points := F_need_points.binds (ps := ["points"]) fun _ _ _ _ _ _ us hl => match us, hl with | [_], _ => rfl
  have F_strong := fun_mk (st := s_strong) l22 e22 k22
  have B_strong := F_strong.binds (ps := ["points", "many"]) fun _ _ _ _ _ _ us hl => match us, hl with | [_, _], _ => rfl
  have F_region := fun_mk (st := s_region) l23 e23 k23
  have B_region := F_region.binds (ps := ["points", "k"]) fun _ _ _ _ _ _ us hl => match us, hl with | [_, _], _ => rfl
  have F_deepest := fun_mk (st := s_deepest) l24 e24 k24
  have B_deepest := F_deepest.binds (ps := ["points"]) fun _ _ _ _ _ _ us hl => match us, hl with | [_], _ => rfl
  have F_depth := fun_mk (st := s_depth) l25 e25 k25
  have B_depth := F_depth.binds (ps := ["points", "spot"]) fun _ _ _ _ _ _ us hl => match us, hl with | [_, _], _ => rfl
  have F_l_numbers := fun_mk (st := s_l_numbers) l26 e26 k26
  have B_l_numbers := F_l_numbers.binds (ps := ["_law_script", "_law_many"]) fun _ _ _ _ _ _ us hl => match us, hl with | [_, _], _ => rfl
  have F_l_digit := fun_mk (st := s_l_digit) l27 e27 k27
  have B_l_digit := F_l_digit.binds (ps := ["_law_number", "_law_base", "_law_place"]) fun _ _ _ _ _ _ us hl => match us, hl with | [_, _, _], _ => rfl
  have F_l_points := fun_mk (st := s_l_points) l28 e28 k28
  have B_l_points := F_l_points.binds (ps := ["_law_head", "_law_many"]) fun _ _ _ _ _ _ us hl => match us, hl with | [_, _], _ => rfl
  have F_l_kind := fun_mk (st := s_l_kind) l29 e29 k29
  have B_l_kind := F_l_kind.binds (ps := ["_law_e"]) fun _ _ _ _ _ _ us hl => match us, hl with | [_], _ => rfl
  have F_l_refused := fun_mk (st := s_l_refused) l30 e30 k30
  have B_l_refused := F_l_refused.binds (ps := ["_law_way", "_law_points_here", "_law_k"]) fun _ _ _ _ _ _ us hl => match us, hl with | [_, _, _], _ => rfl
  have F_law := fun_mk (st := s_law) l31 e31 k31
  have m_abs := PySem.W.mg_none_of X G z_abs
  have m_len := PySem.W.mg_none_of X G z_len
  have m_sorted := PySem.W.mg_none_of X G z_sorted
  have m_set := PySem.W.mg_none_of X G z_set
  have m_list := PySem.W.mg_none_of X G z_list
  have m_reversed := PySem.W.mg_none_of X G z_reversed
  have m_range := PySem.W.mg_none_of X G z_range
  have m_max := PySem.W.mg_none_of X G z_max
  have m_min := PySem.W.mg_none_of X G z_min
  have m_isinstance := PySem.W.mg_none_of X G z_isinstance
  have m_ValueError := PySem.W.mg_none_of X G z_ValueError
  have o_SpotError : OwnX K mg "SpotError" C_SpotError := ⟨PySem.W.mg_of X G ea_SpotError, ex_SpotError, ⟨e0_SpotError, e1_SpotError, e2_SpotError, e3_SpotError, e4_SpotError⟩⟩
  have o_NoNumber : OwnX K mg "NoNumber" C_NoNumber := ⟨PySem.W.mg_of X G ea_NoNumber, ex_NoNumber, ⟨e0_NoNumber, e1_NoNumber, e2_NoNumber, e3_NoNumber, e4_NoNumber⟩⟩
  have o_NoHalf : OwnX K mg "NoHalf" C_NoHalf := ⟨PySem.W.mg_of X G ea_NoHalf, ex_NoHalf, ⟨e0_NoHalf, e1_NoHalf, e2_NoHalf, e3_NoHalf, e4_NoHalf⟩⟩
  have o_NoPoints : OwnX K mg "NoPoints" C_NoPoints := ⟨PySem.W.mg_of X G ea_NoPoints, ex_NoPoints, ⟨e0_NoPoints, e1_NoPoints, e2_NoPoints, e3_NoPoints, e4_NoPoints⟩⟩
  have o_NoDepth : OwnX K mg "NoDepth" C_NoDepth := ⟨PySem.W.mg_of X G ea_NoDepth, ex_NoDepth, ⟨e0_NoDepth, e1_NoDepth, e2_NoDepth, e3_NoDepth, e4_NoDepth⟩⟩
  have o_NotFour : OwnX K mg "NotFour" C_NotFour := ⟨PySem.W.mg_of X G ea_NotFour, ex_NotFour, ⟨e0_NotFour, e1_NotFour, e2_NotFour, e3_NotFour, e4_NotFour⟩⟩
  have xe : XEnv K mg ["NoPoints", "NoDepth"] ["SpotError", "NoNumber", "NoHalf", "NoPoints", "NoDepth", "NotFour"] := by
   refine ⟨?_, ?_, ?_, ?_⟩
   · exact fun y h => by
      simp only [List.mem_cons, List.not_mem_nil, or_false] at h
      rcases h with rfl | rfl | rfl | rfl | rfl | rfl
      · exact ⟨C_SpotError, ea_SpotError, o_SpotError⟩
      · exact ⟨C_NoNumber, ea_NoNumber, o_NoNumber⟩
      · exact ⟨C_NoHalf, ea_NoHalf, o_NoHalf⟩
      · exact ⟨C_NoPoints, ea_NoPoints, o_NoPoints⟩
      · exact ⟨C_NoDepth, ea_NoDepth, o_NoDepth⟩
      · exact ⟨C_NotFour, ea_NotFour, o_NotFour⟩
   · exact fun y h => by
      simp only [List.mem_cons, List.not_mem_nil, or_false] at h
      rcases h with rfl | rfl
      · exact ⟨C_NoPoints, C_SpotError, ea_NoPoints, o_SpotError.bound, es_NoPoints⟩
      · exact ⟨C_NoDepth, C_SpotError, ea_NoDepth, o_SpotError.bound, es_NoDepth⟩
   · intro x hx y hy
     simp only [List.mem_cons, List.not_mem_nil, or_false] at hx hy
     rcases hx with rfl | rfl
     · rcases hy with rfl | rfl | rfl | rfl | rfl | rfl
       · exact ⟨C_NoPoints, C_SpotError, ea_NoPoints, o_SpotError.bound, o_NoPoints.cls, ei_NoPoints_SpotError⟩
       · exact ⟨C_NoPoints, C_NoNumber, ea_NoPoints, o_NoNumber.bound, o_NoPoints.cls, ei_NoPoints_NoNumber⟩
       · exact ⟨C_NoPoints, C_NoHalf, ea_NoPoints, o_NoHalf.bound, o_NoPoints.cls, ei_NoPoints_NoHalf⟩
       · exact ⟨C_NoPoints, C_NoPoints, ea_NoPoints, o_NoPoints.bound, o_NoPoints.cls, ei_NoPoints_NoPoints⟩
       · exact ⟨C_NoPoints, C_NoDepth, ea_NoPoints, o_NoDepth.bound, o_NoPoints.cls, ei_NoPoints_NoDepth⟩
       · exact ⟨C_NoPoints, C_NotFour, ea_NoPoints, o_NotFour.bound, o_NoPoints.cls, ei_NoPoints_NotFour⟩
     · rcases hy with rfl | rfl | rfl | rfl | rfl | rfl
       · exact ⟨C_NoDepth, C_SpotError, ea_NoDepth, o_SpotError.bound, o_NoDepth.cls, ei_NoDepth_SpotError⟩
       · exact ⟨C_NoDepth, C_NoNumber, ea_NoDepth, o_NoNumber.bound, o_NoDepth.cls, ei_NoDepth_NoNumber⟩
       · exact ⟨C_NoDepth, C_NoHalf, ea_NoDepth, o_NoHalf.bound, o_NoDepth.cls, ei_NoDepth_NoHalf⟩
       · exact ⟨C_NoDepth, C_NoPoints, ea_NoDepth, o_NoPoints.bound, o_NoDepth.cls, ei_NoDepth_NoPoints⟩
       · exact ⟨C_NoDepth, C_NoDepth, ea_NoDepth, o_NoDepth.bound, o_NoDepth.cls, ei_NoDepth_NoDepth⟩
       · exact ⟨C_NoDepth, C_NotFour, ea_NoDepth, o_NotFour.bound, o_NoDepth.cls, ei_NoDepth_NotFour⟩
   · exact fun x h => by
      simp only [List.mem_cons, List.not_mem_nil, or_false] at h
      rcases h with rfl | rfl
      · exact ⟨C_NoPoints, ea_NoPoints, o_NoPoints.cls, ev_NoPoints⟩
      · exact ⟨C_NoDepth, ea_NoDepth, o_NoDepth.cls, ev_NoDepth⟩
  refine ⟨PySem.W.fnOf "law" "law" (defArgs s_law) (defBody s_law) (defScope s_law) .none kV31 dc31 pm31 an31 cd31 ct31, fun s v => .of_eq rfl, fun base _ _ => ?_⟩
  have c_l_numbers : Callee l.prog w K mg base 1 "_law_numbers" sp_l_numbers := callee_of F_l_numbers (PySem.W.mg_of X G a26) B_l_numbers (def_ok F_l_numbers sc_l_numbers len_l_numbers (fun cdv A outer s H E hr => b_l_numbers m_range m_max m_min m_len hr) ok_l_numbers)
  have c_l_kind : Callee l.prog w K mg base 1 "_law_kind" sp_l_kind := callee_of F_l_kind (PySem.W.mg_of X G a29) B_l_kind (def_ok F_l_kind sc_l_kind len_l_kind (fun cdv A outer s H E hr => b_l_kind xe m_isinstance m_ValueError hr) ok_l_kind)
  have cx_depth : CalleeX l.prog w K mg base 1 "depth" spx_depth := calleeX_of F_depth (PySem.W.mg_of X G a25) B_depth (def_okX F_depth sc_depth lenx_depth (fun cdv A outer s H E hr => bx_depth xe m_len hr) okx_depth)
  have cx_need_points : CalleeX l.prog w K mg base 1 "need_points" spx_need_points := calleeX_of F_need_points (PySem.W.mg_of X G a21) B_need_points (def_okX F_need_points sc_need_points lenx_need_points (fun cdv A outer s H E hr => bx_need_points xe m_len hr) okx_need_points)
  have cx_strong : CalleeX l.prog w K mg base 2 "strong" spx_strong := calleeX_of F_strong (PySem.W.mg_of X G a22) B_strong (def_okX F_strong sc_strong lenx_strong (fun cdv A outer s H E hr => bx_strong cx_need_points hr) okx_strong)
  have c_need_points : Callee l.prog w K mg base 1 "need_points" sp_need_points := callee_of F_need_points (PySem.W.mg_of X G a21) B_need_points (def_ok F_need_points sc_need_points len_need_points (fun cdv A outer s H E hr => b_need_points m_len hr) ok_need_points)
  have cx_region : CalleeX l.prog w K mg base 2 "region" spx_region := calleeX_of F_region (PySem.W.mg_of X G a23) B_region (def_okX F_region sc_region lenx_region (fun cdv A outer s H E hr => bx_region xe c_need_points cx_need_points hr) okx_region)
  have cx_deepest : CalleeX l.prog w K mg base 2 "deepest" spx_deepest := calleeX_of F_deepest (PySem.W.mg_of X G a24) B_deepest (def_okX F_deepest sc_deepest lenx_deepest (fun cdv A outer s H E hr => bx_deepest cx_need_points hr) okx_deepest)
  have c_l_refused : Callee l.prog w K mg base 3 "_law_refused" sp_l_refused := callee_of F_l_refused (PySem.W.mg_of X G a30) B_l_refused (def_ok F_l_refused sc_l_refused len_l_refused (fun cdv A outer s H E hr => b_l_refused xe c_l_kind cx_depth cx_strong cx_region cx_deepest hr) ok_l_refused)
  have c_l_digit : Callee l.prog w K mg base 1 "_law_digit" sp_l_digit := callee_of F_l_digit (PySem.W.mg_of X G a27) B_l_digit (def_ok F_l_digit sc_l_digit len_l_digit (fun cdv A outer s H E hr => b_l_digit m_range hr) ok_l_digit)
  have c_l_points : Callee l.prog w K mg base 2 "_law_points" sp_l_points := callee_of F_l_points (PySem.W.mg_of X G a28) B_l_points (def_ok F_l_points sc_l_points len_l_points (fun cdv A outer s H E hr => b_l_points m_range c_l_digit hr) ok_l_points)
  have c_as_spot : Callee l.prog w K mg base 1 "as_spot" sp_as_spot := callee_of F_as_spot (PySem.W.mg_of X G a4) B_as_spot (def_ok F_as_spot sc_as_spot len_as_spot (fun cdv A outer s H E hr => b_as_spot hr) ok_as_spot)
  have c_bottoms : Callee l.prog w K mg base 1 "bottoms" sp_bottoms := callee_of F_bottoms (PySem.W.mg_of X G a5) B_bottoms (def_ok F_bottoms sc_bottoms len_bottoms (fun cdv A outer s H E hr => b_bottoms hr) ok_bottoms)
  have c_stretched : Callee l.prog w K mg base 2 "stretched" sp_stretched := callee_of F_stretched (PySem.W.mg_of X G a11) B_stretched (def_ok F_stretched sc_stretched len_stretched (fun cdv A outer s H E hr => b_stretched c_bottoms hr) ok_stretched)
  have c_excess : Callee l.prog w K mg base 2 "excess" sp_excess := callee_of F_excess (PySem.W.mg_of X G a6) B_excess (def_ok F_excess sc_excess len_excess (fun cdv A outer s H E hr => b_excess c_bottoms hr) ok_excess)
  have c_turn : Callee l.prog w K mg base 3 "turn" sp_turn := callee_of F_turn (PySem.W.mg_of X G a12) B_turn (def_ok F_turn sc_turn len_turn (fun cdv A outer s H E hr => b_turn c_stretched c_excess hr) ok_turn)
  have c_chain : Callee l.prog w K mg base 4 "chain" sp_chain := callee_of F_chain (PySem.W.mg_of X G a13) B_chain (def_ok F_chain sc_chain len_chain (fun cdv A outer s H E hr => b_chain m_len c_turn hr) ok_chain)
  have c_hull : Callee l.prog w K mg base 5 "hull" sp_hull := callee_of F_hull (PySem.W.mg_of X G a14) B_hull (def_ok F_hull sc_hull len_hull (fun cdv A outer s H E hr => b_hull m_sorted m_set m_len m_list m_reversed c_as_spot c_chain hr) ok_hull)
  have c_upright_and_level : Callee l.prog w K mg base 1 "upright_and_level" sp_upright_and_level := callee_of F_upright_and_level (PySem.W.mg_of X G a19) B_upright_and_level (def_ok F_upright_and_level sc_upright_and_level len_upright_and_level (fun cdv A outer s H E hr => b_upright_and_level hr) ok_upright_and_level)
  have c_divisor : Callee l.prog w K mg base 1 "divisor" sp_divisor := callee_of F_divisor (PySem.W.mg_of X G a0) B_divisor (def_ok F_divisor sc_divisor len_divisor (fun cdv A outer s H E hr => b_divisor m_abs hr) ok_divisor)
  have c_half : Callee l.prog w K mg base 2 "half" sp_half := callee_of F_half (PySem.W.mg_of X G a2) B_half (def_ok F_half sc_half len_half (fun cdv A outer s H E hr => b_half c_divisor hr) ok_half)
  have c_between : Callee l.prog w K mg base 3 "between" sp_between := callee_of F_between (PySem.W.mg_of X G a3) B_between (def_ok F_between sc_between len_between (fun cdv A outer s H E hr => b_between c_half hr) ok_between)
  have c_bordered : Callee l.prog w K mg base 4 "bordered" sp_bordered := callee_of F_bordered (PySem.W.mg_of X G a20) B_bordered (def_ok F_bordered sc_bordered len_bordered (fun cdv A outer s H E hr => b_bordered m_sorted m_set c_upright_and_level c_between hr) ok_bordered)
  have c_many_in : Callee l.prog w K mg base 1 "many_in" sp_many_in := callee_of F_many_in (PySem.W.mg_of X G a9) B_many_in (def_ok F_many_in sc_many_in len_many_in (fun cdv A outer s H E hr => b_many_in m_len hr) ok_many_in)
  have c_strong : Callee l.prog w K mg base 5 "strong" sp_strong := callee_of F_strong (PySem.W.mg_of X G a22) B_strong (def_ok F_strong sc_strong len_strong (fun cdv A outer s H E hr => b_strong c_need_points c_bordered c_many_in hr) ok_strong)
  have c_sides : Callee l.prog w K mg base 1 "sides" sp_sides := callee_of F_sides (PySem.W.mg_of X G a15) B_sides (def_ok F_sides sc_sides len_sides (fun cdv A outer s H E hr => b_sides m_range m_len hr) ok_sides)
  have c_sign : Callee l.prog w K mg base 1 "sign" sp_sign := callee_of F_sign (PySem.W.mg_of X G a7) B_sign (def_ok F_sign sc_sign len_sign (fun cdv A outer s H E hr => b_sign hr) ok_sign)
  have c_side : Callee l.prog w K mg base 3 "side" sp_side := callee_of F_side (PySem.W.mg_of X G a8) B_side (def_ok F_side sc_side len_side (fun cdv A outer s H E hr => b_side c_sign c_excess hr) ok_side)
  have c_crossing : Callee l.prog w K mg base 1 "crossing" sp_crossing := callee_of F_crossing (PySem.W.mg_of X G a17) B_crossing (def_ok F_crossing sc_crossing len_crossing (fun cdv A outer s H E hr => b_crossing hr) ok_crossing)
  have c_below : Callee l.prog w K mg base 1 "below" sp_below := callee_of F_below (PySem.W.mg_of X G a1) B_below (def_ok F_below sc_below len_below (fun cdv A outer s H E hr => b_below hr) ok_below)
  have c_lesser : Callee l.prog w K mg base 2 "lesser" sp_lesser := callee_of F_lesser (PySem.W.mg_of X G a10) B_lesser (def_ok F_lesser sc_lesser len_lesser (fun cdv A outer s H E hr => b_lesser c_below hr) ok_lesser)
  have c_from_least : Callee l.prog w K mg base 3 "from_least" sp_from_least := callee_of F_from_least (PySem.W.mg_of X G a16) B_from_least (def_ok F_from_least sc_from_least len_from_least (fun cdv A outer s H E hr => b_from_least m_range m_len c_lesser hr) ok_from_least)
  have c_clipped : Callee l.prog w K mg base 4 "clipped" sp_clipped := callee_of F_clipped (PySem.W.mg_of X G a18) B_clipped (def_ok F_clipped sc_clipped len_clipped (fun cdv A outer s H E hr => b_clipped c_sides c_side c_crossing c_from_least hr) ok_clipped)
  have c_region : Callee l.prog w K mg base 6 "region" sp_region := callee_of F_region (PySem.W.mg_of X G a23) B_region (def_ok F_region sc_region len_region (fun cdv A outer s H E hr => b_region m_len c_need_points c_hull c_strong c_clipped hr) ok_region)
  exact def_ok F_law sc_law len_law (fun cdv A outer s H E hr => b_law m_range m_isinstance m_list c_l_numbers c_l_refused c_l_points c_region hr) ok_law

theorem walk {l : PySem.W.OpenLaw} {q : Program} {loose : List Str} {XP : (Str → Option Value) → Heap → Prop} {YP : World → Heap → Prop} {d : DefRec} {K : Params → PySem.W.Frag} (hn : l.most = some 63) (hdf : d.params.defaults = [])
    (hY : ∀ (w : World) (h : Heap), YP w h → (K w.params).In h)
    (F : ∀ (w : World) (mg : Str → Option Value) (fa : Addr) (h : Heap), (K w.params).In h → h.Ns mainGlobals mg → mg d.name = some (.ref fa) →
      ∃ fd : FuncData, (∀ (s : Shared) (u : Value), BindsTo s fd ⟨[u], []⟩ [("_law_script", u)]) ∧ ∀ base : Heap, (K w.params).In base → base.Ns mainGlobals mg → FnOk l.prog w (K w.params) mg base CX0 7 fa fd ["_law_script"] (toSp (K w.params) spLaw)) :
    PySem.W.WalkO q loose XP YP l.row.toRowW d [] (fun f vs => PySem.call f vs) :=
  L2.walk_of (n := 63) (k := 7) (x := "_law_script") (CX := fun _ => CX0) (sp := fun w => toSp (K w.params) spLaw) hn (by decide) hdf ⟨rfl, by decide, by decide⟩ hY F (fun _ _ a ns hl _ hS => law_sp hl hS) fun _ _ _ _ _ z => z
end Law
open PySem PySem.W PyProof.Rows
set_option maxRecDepth 100000 in
set_option maxHeartbeats 0 in
theorem PySem.Challenge.cw_deepspot_k44_who_is_refused_holds : PySem.Challenge.rw_deepspot_k44_who_is_refused.Holds := by
  w_on; o_law; k_head; (case hw => w_witness2)
  k_fill
  refine Law.walk (l := PySem.Challenge.rw_deepspot_k44_who_is_refused) rfl rfl (fun w h Y => by first | exact PySem.W.kIn_of Y | exact PySem.W.km_in_of Y) ?F
  case F =>
    intro w mg fa h KX G hmg
    refine' Law.all_mk KX G hmg ?a0 ?l0 ?e0 ?k0 ?a1 ?l1 ?e1 ?k1 ?a2 ?l2 ?e2 ?k2 ?a3 ?l3 ?e3 ?k3 ?a4 ?l4 ?e4 ?k4 ?a5 ?l5 ?e5 ?k5 ?a6 ?l6 ?e6 ?k6 ?a7 ?l7 ?e7 ?k7 ?a8 ?l8 ?e8 ?k8 ?a9 ?l9 ?e9 ?k9 ?a10 ?l10 ?e10 ?k10 ?a11 ?l11 ?e11 ?k11 ?a12 ?l12 ?e12 ?k12 ?a13 ?l13 ?e13 ?k13 ?a14 ?l14 ?e14 ?k14 ?a15 ?l15 ?e15 ?k15 ?a16 ?l16 ?e16 ?k16 ?a17 ?l17 ?e17 ?k17 ?a18 ?l18 ?e18 ?k18 ?a19 ?l19 ?e19 ?k19 ?a20 ?l20 ?e20 ?k20 ?a21 ?l21 ?e21 ?k21 ?a22 ?l22 ?e22 ?k22 ?a23 ?l23 ?e23 ?k23 ?a24 ?l24 ?e24 ?k24 ?a25 ?l25 ?e25 ?k25 ?a26 ?l26 ?e26 ?k26 ?a27 ?l27 ?e27 ?k27 ?a28 ?l28 ?e28 ?k28 ?a29 ?l29 ?e29 ?k29 ?a30 ?l30 ?e30 ?k30 ?a31 ?l31 ?e31 ?k31 ?ea_SpotError ?ex_SpotError ?e0_SpotError ?e1_SpotError ?e2_SpotError ?e3_SpotError ?e4_SpotError ?ea_NoNumber ?ex_NoNumber ?e0_NoNumber ?e1_NoNumber ?e2_NoNumber ?e3_NoNumber ?e4_NoNumber ?ea_NoHalf ?ex_NoHalf ?e0_NoHalf ?e1_NoHalf ?e2_NoHalf ?e3_NoHalf ?e4_NoHalf ?ea_NoPoints ?ex_NoPoints ?e0_NoPoints ?e1_NoPoints ?e2_NoPoints ?e3_NoPoints ?e4_NoPoints ?ea_NoDepth ?ex_NoDepth ?e0_NoDepth ?e1_NoDepth ?e2_NoDepth ?e3_NoDepth ?e4_NoDepth ?ea_NotFour ?ex_NotFour ?e0_NotFour ?e1_NotFour ?e2_NotFour ?e3_NotFour ?e4_NotFour ?es_NoPoints ?ev_NoPoints ?ei_NoPoints_SpotError ?ei_NoPoints_NoNumber ?ei_NoPoints_NoHalf ?ei_NoPoints_NoPoints ?ei_NoPoints_NoDepth ?ei_NoPoints_NotFour ?es_NoDepth ?ev_NoDepth ?ei_NoDepth_SpotError ?ei_NoDepth_NoNumber ?ei_NoDepth_NoHalf ?ei_NoDepth_NoPoints ?ei_NoDepth_NoDepth ?ei_NoDepth_NotFour ?z_abs ?z_len ?z_sorted ?z_set ?z_list ?z_reversed ?z_range ?z_max ?z_min ?z_isinstance ?z_ValueError
    (case a0 => k_is)
    (case l0 => k_is)
    (case e0 => k_is)
    (case k0 => k_is)
    (case a1 => k_is)
    (case l1 => k_is)
    (case e1 => k_is)
    (case k1 => k_is)
    (case a2 => k_is)
    (case l2 => k_is)
    (case e2 => k_is)
    (case k2 => k_is)
    (case a3 => k_is)
    (case l3 => k_is)
    (case e3 => k_is)
    (case k3 => k_is)
    (case a4 => k_is)
    (case l4 => k_is)
    (case e4 => k_is)
    (case k4 => k_is)
    (case a5 => k_is)
    (case l5 => k_is)
    (case e5 => k_is)
    (case k5 => k_is)
    (case a6 => k_is)
    (case l6 => k_is)
    (case e6 => k_is)
    (case k6 => k_is)
    (case a7 => k_is)
    (case l7 => k_is)
    (case e7 => k_is)
    (case k7 => k_is)
    (case a8 => k_is)
    (case l8 => k_is)
    (case e8 => k_is)
    (case k8 => k_is)
    (case a9 => k_is)
    (case l9 => k_is)
    (case e9 => k_is)
    (case k9 => k_is)
    (case a10 => k_is)
    (case l10 => k_is)
    (case e10 => k_is)
    (case k10 => k_is)
    (case a11 => k_is)
    (case l11 => k_is)
    (case e11 => k_is)
    (case k11 => k_is)
    (case a12 => k_is)
    (case l12 => k_is)
    (case e12 => k_is)
    (case k12 => k_is)
    (case a13 => k_is)
    (case l13 => k_is)
    (case e13 => k_is)
    (case k13 => k_is)
    (case a14 => k_is)
    (case l14 => k_is)
    (case e14 => k_is)
    (case k14 => k_is)
    (case a15 => k_is)
    (case l15 => k_is)
    (case e15 => k_is)
    (case k15 => k_is)
    (case a16 => k_is)
    (case l16 => k_is)
    (case e16 => k_is)
    (case k16 => k_is)
    (case a17 => k_is)
    (case l17 => k_is)
    (case e17 => k_is)
    (case k17 => k_is)
    (case a18 => k_is)
    (case l18 => k_is)
    (case e18 => k_is)
    (case k18 => k_is)
    (case a19 => k_is)
    (case l19 => k_is)
    (case e19 => k_is)
    (case k19 => k_is)
    (case a20 => k_is)
    (case l20 => k_is)
    (case e20 => k_is)
    (case k20 => k_is)
    (case a21 => k_is)
    (case l21 => k_is)
    (case e21 => k_is)
    (case k21 => k_is)
    (case a22 => k_is)
    (case l22 => k_is)
    (case e22 => k_is)
    (case k22 => k_is)
    (case a23 => k_is)
    (case l23 => k_is)
    (case e23 => k_is)
    (case k23 => k_is)
    (case a24 => k_is)
    (case l24 => k_is)
    (case e24 => k_is)
    (case k24 => k_is)
    (case a25 => k_is)
    (case l25 => k_is)
    (case e25 => k_is)
    (case k25 => k_is)
    (case a26 => k_is)
    (case l26 => k_is)
    (case e26 => k_is)
    (case k26 => k_is)
    (case a27 => k_is)
    (case l27 => k_is)
    (case e27 => k_is)
    (case k27 => k_is)
    (case a28 => k_is)
    (case l28 => k_is)
    (case e28 => k_is)
    (case k28 => k_is)
    (case a29 => k_is)
    (case l29 => k_is)
    (case e29 => k_is)
    (case k29 => k_is)
    (case a30 => k_is)
    (case l30 => k_is)
    (case e30 => k_is)
    (case k30 => k_is)
    (case a31 => k_is)
    (case l31 => k_is)
    (case e31 => k_is)
    (case k31 => k_is)
    (case ea_SpotError => k_is)
    (case ex_SpotError => k_exc)
    (case e0_SpotError => k_is)
    (case e1_SpotError => k_is)
    (case e2_SpotError => k_is)
    (case e3_SpotError => k_is)
    (case e4_SpotError => k_is)
    (case ea_NoNumber => k_is)
    (case ex_NoNumber => k_exc)
    (case e0_NoNumber => k_is)
    (case e1_NoNumber => k_is)
    (case e2_NoNumber => k_is)
    (case e3_NoNumber => k_is)
    (case e4_NoNumber => k_is)
    (case ea_NoHalf => k_is)
    (case ex_NoHalf => k_exc)
    (case e0_NoHalf => k_is)
    (case e1_NoHalf => k_is)
    (case e2_NoHalf => k_is)
    (case e3_NoHalf => k_is)
    (case e4_NoHalf => k_is)
    (case ea_NoPoints => k_is)
    (case ex_NoPoints => k_exc)
    (case e0_NoPoints => k_is)
    (case e1_NoPoints => k_is)
    (case e2_NoPoints => k_is)
    (case e3_NoPoints => k_is)
    (case e4_NoPoints => k_is)
    (case ea_NoDepth => k_is)
    (case ex_NoDepth => k_exc)
    (case e0_NoDepth => k_is)
    (case e1_NoDepth => k_is)
    (case e2_NoDepth => k_is)
    (case e3_NoDepth => k_is)
    (case e4_NoDepth => k_is)
    (case ea_NotFour => k_is)
    (case ex_NotFour => k_exc)
    (case e0_NotFour => k_is)
    (case e1_NotFour => k_is)
    (case e2_NotFour => k_is)
    (case e3_NotFour => k_is)
    (case e4_NotFour => k_is)
    (case es_NoPoints => k_is)
    (case ev_NoPoints => kit_is)
    (case ei_NoPoints_SpotError => kit_is)
    (case ei_NoPoints_NoNumber => kit_is)
    (case ei_NoPoints_NoHalf => kit_is)
    (case ei_NoPoints_NoPoints => kit_is)
    (case ei_NoPoints_NoDepth => kit_is)
    (case ei_NoPoints_NotFour => kit_is)
    (case es_NoDepth => k_is)
    (case ev_NoDepth => kit_is)
    (case ei_NoDepth_SpotError => kit_is)
    (case ei_NoDepth_NoNumber => kit_is)
    (case ei_NoDepth_NoHalf => kit_is)
    (case ei_NoDepth_NoPoints => kit_is)
    (case ei_NoDepth_NoDepth => kit_is)
    (case ei_NoDepth_NotFour => kit_is)
    (case z_abs => k_is)
    (case z_len => k_is)
    (case z_sorted => k_is)
    (case z_set => k_is)
    (case z_list => k_is)
    (case z_reversed => k_is)
    (case z_range => k_is)
    (case z_max => k_is)
    (case z_min => k_is)
    (case z_isinstance => k_is)
    (case z_ValueError => k_is)

