import PyProof.Rows.All
import Wide.All
import OpenK.AllK
import Wide.FinOn
import Lean
import PyProof.EqAt
import PyProof.EqKinds
import PyProof.TupleCall
import PyProof.CompFree
import KE.KNestM
import PyProof.NeKinds
import PyProof.FitsBits
import KE.LcSums
import PyProof.ZipIter
import PyProof.EnumFor
import PyProof.EnumStmt
import PyProof.Rows.EnumRows
import PyProof.Rows.FactsT2
import PyProof.Rows.SortWalk
import PyProof.Rows.FactsT3
import PyProof.LayNew
import KE.KMinKey
import KE.KLam
import PyProof.Rows.CallKwBuiltin
import KE.KRevIter
import KE.RegKIsAll
import PySem.Challenge.RW_deepspot_k54_ranks_stay
-- CHANGE: your row's module here, as the last of these rows
set_option Elab.async false
set_option linter.all false
set_option maxRecDepth 100000
/-! THE HAND LAYER, for ints, bools, texts, own classes, LISTS and tuples (index, slices, in, append, pop ..), calls, loops. Paste it whole ahead of your own text; what your proof does not reach may be deleted. -/
namespace L2
open PySem PySem.Spec PyProof.Rows

/-- a key: an int or a str -/
abbrev Key := Sum Int Str
def keyIs : Key → Value → Bool
  | .inl k, v => Value.isInt k v
  | .inr x, v => Value.isStrOf x v
def keyH (w : World) : Key → Int
  | .inl k => hashInt k
  | .inr x => hashStr w x
theorem keyIs_shape : ∀ {k : Key} {v : Value}, keyIs k v = true → (∃ i t, k = Sum.inl i ∧ v = Value.int i t) ∨ (∃ x t, k = Sum.inr x ∧ v = Value.str x t)
  | .inl i, v, h => by
    obtain ⟨t, e⟩ := Value.isInt_shape (k := i) (v := v) h
    exact .inl ⟨i, t, rfl, e⟩
  | .inr x, v, h => by
    obtain ⟨t, e⟩ := Value.isStrOf_shape (x := x) (v := v) h
    exact .inr ⟨x, t, rfl, e⟩
theorem key_ll (a b : Int) : decide ((Sum.inl a : Key) = Sum.inl b) = (a == b) := by
  by_cases e : a = b
  · subst e; simp
  · have h : ¬ (Sum.inl a : Key) = Sum.inl b := fun q => e (Sum.inl.inj q)
    rw [decide_eq_false h]
    exact (beq_eq_false_iff_ne.mpr e).symm
theorem key_rr (a b : Str) : decide ((Sum.inr a : Key) = Sum.inr b) = decide (a = b) := by
  by_cases e : a = b
  · subst e; simp
  · have h : ¬ (Sum.inr a : Key) = Sum.inr b := fun q => e (Sum.inr.inj q)
    rw [decide_eq_false h, decide_eq_false e]
theorem key_lr (a : Int) (b : Str) : decide ((Sum.inl a : Key) = Sum.inr b) = false := decide_eq_false (fun q => nomatch q)
theorem key_rl (a : Str) (b : Int) : decide ((Sum.inr a : Key) = Sum.inl b) = false := decide_eq_false (fun q => nomatch q)

def mixKind (prog : Program) (w : World) : PySem.KeyKind prog w Key where
  is := keyIs
  hash := keyH w
  inj := fun v a b ha hb => by
    rcases keyIs_shape ha with ⟨i, t, rfl, rfl⟩ | ⟨x, t, rfl, rfl⟩
    · rcases keyIs_shape hb with ⟨j, u, rfl, e⟩ | ⟨y, u, rfl, e⟩
      · injection e with e1 _; rw [e1]
      · exact nomatch e
    · rcases keyIs_shape hb with ⟨j, u, rfl, e⟩ | ⟨y, u, rfl, e⟩
      · exact nomatch e
      · injection e with e1 _; rw [e1]
  byValue := fun k v h => by
    rcases keyIs_shape h with ⟨i, t, rfl, rfl⟩ | ⟨x, t, rfl, rfl⟩ <;> rfl
  pyHash := fun hv h => by
    rcases keyIs_shape hv with ⟨i, t, rfl, rfl⟩ | ⟨x, t, rfl, rfl⟩
    · exact wpAny_pyHash_int h
    · exact wpAny_pyHash_str h
  eqBool := fun hu hv h => by
    rcases keyIs_shape hu with ⟨i, t, rfl, rfl⟩ | ⟨x, t, rfl, rfl⟩
    · rcases keyIs_shape hv with ⟨j, u, rfl, rfl⟩ | ⟨y, u, rfl, rfl⟩
      · rw [key_ll] at h; exact wpAny_eqBool_int h
      · rw [key_lr] at h; exact SeqAt.EqAt.int_str i t y u _ _ _ _ h
    · rcases keyIs_shape hv with ⟨j, u, rfl, rfl⟩ | ⟨y, u, rfl, rfl⟩
      · rw [key_rl] at h; exact SeqAt.EqAt.str_int x t j u _ _ _ _ h
      · rw [key_rr] at h; exact wpAny_eqBool_str h
  «strs» := fun k x t v h => by
    rcases keyIs_shape h with ⟨i, u, rfl, e⟩ | ⟨y, u, rfl, e⟩
    · exact nomatch e
    · injection e with e1 _
      subst e1
      cases v <;> rfl

end L2

namespace L2
open PySem PySem.Spec PyProof.Rows

/-- a value, without the heap -/
inductive V where
  | non | bl (b : Bool) | int (i : Int) | str (x : Str) | byt (b : Array UInt8) | flt (b : UInt64) | ref (a : Addr) | ty (n : String)
  deriving DecidableEq

def RelV : V → Value → Prop
  | .non, u => u = Value.none
  | .bl b, u => u = Value.bool b
  | .int i, u => ∃ t, u = Value.int i t
  | .str x, u => ∃ t, u = Value.str x t
  | .byt b, u => ∃ t, u = Value.bytes b t
  | .flt b, u => ∃ t, u = Value.float b t
  | .ref a, u => u = Value.ref a
  | .ty n, u => u = Value.type n

abbrev Vals : List V → List Value → Prop := Paired RelV
theorem Vals.length {xs : List V} {us : List Value} (r : Vals xs us) : xs.length = us.length := Paired.length r
theorem Vals.get : ∀ {xs : List V} {us : List Value} {i : Nat} {x : V}, Vals xs us → xs[i]? = some x → ∃ u, us[i]? = some u ∧ RelV x u
  | _, _, _, _, .nil, e => by simp at e
  | _, _, 0, _, .cons r _, e => by simp at e; subst e; exact ⟨_, rfl, r⟩
  | _, _, i + 1, x, .cons _ t, e => by
    obtain ⟨u, h1, h2⟩ := Vals.get (i := i) (x := x) t (by simpa using e)
    exact ⟨u, by simpa using h1, h2⟩
theorem Vals.set {x : V} {u : Value} (r : RelV x u) : ∀ {xs : List V} {us : List Value} (i : Nat), Vals xs us → Vals (xs.set i x) (us.set i u)
  | _, _, _, .nil => .nil
  | _, _, 0, .cons _ t => .cons r t
  | _, _, i + 1, .cons q t => .cons q (Vals.set r i t)
theorem Vals.append : ∀ {xs ys : List V} {us ws : List Value}, Vals xs us → Vals ys ws → Vals (xs ++ ys) (us ++ ws)
  | _, _, _, _, .nil, s => s
  | _, _, _, _, .cons r t, s => .cons r (Vals.append t s)
theorem Vals.take : ∀ {xs : List V} {us : List Value} (n : Nat), Vals xs us → Vals (xs.take n) (us.take n)
  | _, _, 0, _ => .nil
  | _, _, _ + 1, .nil => .nil
  | _, _, n + 1, .cons r t => .cons r (Vals.take n t)
theorem Vals.drop : ∀ {xs : List V} {us : List Value} (n : Nat), Vals xs us → Vals (xs.drop n) (us.drop n)
  | _, _, 0, r => r
  | _, _, _ + 1, .nil => .nil
  | _, _, n + 1, .cons _ t => Vals.drop n t
def RelO : Option V → Option Value → Prop
  | some v, some u => RelV v u
  | none, none => True
  | _, _ => False
def KV {κ : Type} : List (κ × V) → List (κ × Value) → Prop := Paired fun (p : κ × V) (q : κ × Value) => p.1 = q.1 ∧ RelV p.2 q.2

/-- a key of a dict (00_mix): an int or a text -/
def kV : Key → V
  | .inl i => .int i
  | .inr x => .str x

/-- what stands at a tracked address -/
inductive HO where
  /-- a list -/
  | lst (xs : List V)
  /-- a tuple (never changes) -/
  | tup (xs : List V)
  /-- a dict whose keys are ints and texts; one whose keys are tuples of ints and texts (the empty one is both) -/
  | dK (kvs : List (Key × V)) | dT (kvs : List (List Key × V))
  /-- a set of ints: its members, its size -/
  | set (S : Int → Bool) (n : Nat)
  /-- an instance of the class at C, its dict at dx, its attributes -/
  | ins (C dx : Addr) (fs : List (Str × V))
  /-- the dict of the instance at x -/
  | own (x : Addr)
  /-- the dict of an exception -/
  | xd (fs : List (Str × V))
  /-- a bound method, f of x -/
  | met (f x : Addr)
  /-- a range object lo, lo + 1, .. below hi -/
  | rng (lo hi : Int)
  /-- a thing that is known to the object (the script; a dict while a loop walks it): read, never written while it is so -/
  | frz (o : Obj) (u : HO)
  /-- a code object's table -/
  | tbl (ps : Array Value)
  /-- any other thing, by what is true of its one object (a def of one's own: SetO a S n := HO.ext fun h => ..) -/
  | ext (φ : Heap → Prop)

abbrev Hp := Addr → Option HO
def upd (H : Hp) (a : Addr) (o : HO) : Hp := fun b => if b = a then some o else H b
theorem upd_same {H : Hp} {a : Addr} {o : HO} : upd H a o a = some o := by unfold upd; rw [if_pos rfl]
theorem upd_ne {H : Hp} {a b : Addr} {o : HO} (h : b ≠ a) : upd H a o b = H b := by unfold upd; rw [if_neg h]
theorem ne_of_none {H : Hp} {a b : Addr} {o : HO} (h : H a = some o) (h' : H b = none) : a ≠ b := by
  intro e; subst e; rw [h] at h'; cases h'

section
variable (P : Program) (w : World)
def ObjOk (H : Hp) (h : Heap) (a : Addr) : HO → Prop
  | .lst xs => xs.length ≤ sizeLine ∧ ∃ (its : List Value) (n : Nat), Vals xs its ∧ h.get? a = some { cls := .type "list", data := .seq its.toArray n }
  | .tup xs => xs.length ≤ sizeLine ∧ ∃ its : List Value, Vals xs its ∧ IsTup h a its.toArray
  | .dK kvs => kvs.length ≤ sizeLine ∧ (a == sysModules) = false ∧ ∃ vs, KV kvs vs ∧ h.DictOf (mixKind P w) a vs
  | .dT kvs => kvs.length ≤ sizeLine ∧ (a == sysModules) = false ∧ ∃ xs : List (List Key × Addr × Value),
      Paired (fun (p : List Key × V) (q : List Key × Addr × Value) => p.1 = q.1 ∧ H q.2.1 = some (.tup (p.1.map kV)) ∧ RelV p.2 q.2.2) kvs xs ∧
      ∃ o es ep, h.get? a = some o ∧ o.ExactDict ∧ o.data = .dict es ep ∧ es.toList = xs.map (entryOfKey (tupleKind (mixKind P w))) ∧ (xs.map (·.1)).Nodup
  | .set S n => h.SetOf (intKind P w) a S n
  | .ins C dx fs => H dx = some (.own a) ∧ fs.length ≤ 1000 ∧ dx ≠ a ∧ h.get? a = some (PySem.W.instObj C dx) ∧
      ∃ mA, h.Ns1 dx mA ∧ (∀ f, RelO (fs.lookup f) (mA f)) ∧ PySem.Within mA (fs.map (·.1))
  | .own _ => ∃ o, h.get? a = some o
  | .xd fs => ∃ mA, h.Ns1 a mA ∧ ∀ f, RelO (fs.lookup f) (mA f)
  | .rng lo hi => ∃ t u v, h.get? a = some { cls := .type "range", data := .fields #[.int lo t, .int hi u, .int 1 v] }
  | .frz o u => h.get? a = some o ∧ ObjOk H h a u
  | .tbl ps => h.get? a = some { cls := .none, data := .fields ps }
  | .met f x => h.get? a = some (PySem.W.methodObj (.ref f) (.ref x))
  | .ext φ => φ h ∧ (∃ o, h.get? a = some o) ∧ ∀ h1 h2 : Heap, φ h1 → (∀ o, h1.get? a = some o → h2.get? a = some o) → φ h2
/-- the abstract heap is held -/
def HOk (H : Hp) (h : Heap) : Prop := ∀ a o, H a = some o → ObjOk P w H h a o
end

section
variable {P : Program} {w : World} {H H' : Hp} {h h' : Heap} {a : Addr} {o : HO}
theorem ObjOk.lt (x : ObjOk P w H h a o) : a < h.objs.size := by
  cases o with
  | lst xs => obtain ⟨_, _, _, _, e⟩ := x; exact Heap.lt_size e
  | tup xs => obtain ⟨_, _, _, p⟩ := x; exact p.lt
  | dK kvs => obtain ⟨_, _, _, _, o, _, _, e, _⟩ := x; exact Heap.lt_size e
  | dT kvs => obtain ⟨_, _, _, _, o, _, _, e, _⟩ := x; exact Heap.lt_size e
  | set S n => obtain ⟨o, _, _, _, e, _⟩ := x; exact Heap.lt_size e
  | ins C dx fs => obtain ⟨_, _, _, e, _⟩ := x; exact Heap.lt_size e
  | own y => obtain ⟨_, e⟩ := x; exact Heap.lt_size e
  | xd fs => obtain ⟨_, ⟨_, _, _, e, _⟩, _⟩ := x; exact Heap.lt_size e
  | rng lo hi => obtain ⟨_, _, _, e⟩ := x; exact Heap.lt_size e
  | frz ob u => obtain ⟨e, _⟩ := x; exact Heap.lt_size e
  | tbl ps => exact Heap.lt_size (show h.get? a = some _ from x)
  | met f y => exact Heap.lt_size (show h.get? a = some _ from x)
  | ext φ => obtain ⟨_, ⟨_, e⟩, _⟩ := x; exact Heap.lt_size e
theorem Paired.mapP {α β : Type} {F G : α → β → Prop} : ∀ {l₁ : List α} {l₂ : List β}, Paired F l₁ l₂ → (∀ a b, F a b → G a b) → Paired G l₁ l₂
  | _, _, .nil, _ => .nil
  | _, _, .cons r t, f => .cons (f _ _ r) (Paired.mapP t f)
/-- what an object's description leans on: its own object, its own dict, the tuples -/
theorem ObjOk.stay (x : ObjOk P w H h a o) (k : ∀ b u, (b = a ∨ H b = some (.own a)) → h.get? b = some u → h'.get? b = some u)
    (ho : ∀ b, H b = some (.own a) → H' b = some (.own a)) (ht : ∀ b xs, H b = some (.tup xs) → H' b = some (.tup xs)) : ObjOk P w H' h' a o := by
  induction o with
  | lst xs => obtain ⟨z, its, n, r, e⟩ := x; exact ⟨z, its, n, r, k _ _ (.inl rfl) e⟩
  | tup xs => obtain ⟨z, its, r, ob, e, c⟩ := x; exact ⟨z, its, r, ob, k _ _ (.inl rfl) e, c⟩
  | dK kvs => obtain ⟨z, y, vs, r, ob, es, ep, e, c⟩ := x; exact ⟨z, y, vs, r, ob, es, ep, k _ _ (.inl rfl) e, c⟩
  | dT kvs =>
    obtain ⟨z, y, xs, r, ob, es, ep, e, c⟩ := x
    exact ⟨z, y, xs, Paired.mapP r fun p q z => ⟨z.1, ht _ _ z.2.1, z.2.2⟩, ob, es, ep, k _ _ (.inl rfl) e, c⟩
  | set S n => obtain ⟨ob, es, ep, t, e, c⟩ := x; exact ⟨ob, es, ep, t, k _ _ (.inl rfl) e, c⟩
  | ins C dx fs =>
    obtain ⟨d, z, ne, e, mA, ⟨od, es, ep, e2, c⟩, r⟩ := x
    exact ⟨ho _ d, z, ne, k _ _ (.inl rfl) e, mA, ⟨od, es, ep, k _ _ (.inr d) e2, c⟩, r⟩
  | own y => obtain ⟨ob, e⟩ := x; exact ⟨ob, k _ _ (.inl rfl) e⟩
  | xd fs => obtain ⟨mA, ⟨od, es, ep, e, c⟩, r⟩ := x; exact ⟨mA, ⟨od, es, ep, k _ _ (.inl rfl) e, c⟩, r⟩
  | rng lo hi => obtain ⟨t, u, v, e⟩ := x; exact ⟨t, u, v, k _ _ (.inl rfl) e⟩
  | frz ob u ih => obtain ⟨e, q⟩ := x; exact ⟨k _ _ (.inl rfl) e, ih q⟩
  | tbl ps =>
    have e : h.get? a = some { cls := .none, data := .fields ps } := x
    show h'.get? a = some { cls := .none, data := .fields ps }
    exact k a _ (.inl rfl) e
  | met f y =>
    have e : h.get? a = some (PySem.W.methodObj (.ref f) (.ref y)) := x
    show h'.get? a = some (PySem.W.methodObj (.ref f) (.ref y))
    exact k a _ (.inl rfl) e
  | ext φ => obtain ⟨p, ⟨o, e⟩, st⟩ := x; exact ⟨st _ _ p fun o q => k _ _ (.inl rfl) q, ⟨o, k _ _ (.inl rfl) e⟩, st⟩
theorem HOk.lt (x : HOk P w H h) (e : H a = some o) : a < h.objs.size := (x a o e).lt
theorem HOk.fresh (x : HOk P w H h) (e : h.objs.size ≤ a) : H a = none := by
  cases q : H a with
  | none => rfl
  | some u => exact absurd (Nat.lt_of_lt_of_le (x.lt q) e) (Nat.lt_irrefl _)
/-- every object of the heap is kept -/
theorem HOk.kept (x : HOk P w H h) (k : ∀ b u, h.get? b = some u → h'.get? b = some u) : HOk P w H h' := fun a o e =>
  (x a o e).stay (fun b u _ q => k b u q) (fun _ q => q) fun _ _ q => q
/-- a new object is laid and tracked -/
theorem HOk.laid (x : HOk P w H h) (k : ∀ b u, h.get? b = some u → h'.get? b = some u) (hp : h.objs.size ≤ a) (new : ObjOk P w (upd H a o) h' a o) : HOk P w (upd H a o) h' := fun b u e => by
  have hn := x.fresh hp
  by_cases hb : b = a
  · subst hb; rw [upd_same] at e; cases e; exact new
  · rw [upd_ne hb] at e
    exact (x b u e).stay (fun c v _ q => k c v q) (fun c q => by rw [upd_ne (ne_of_none q hn)]; exact q) fun c xs q => by rw [upd_ne (ne_of_none q hn)]; exact q
end

/-- what may be read as u: it is u, or a known u -/
def Rd (H : Hp) (a : Addr) (u : HO) : Prop := H a = some u ∨ ∃ o, H a = some (.frz o u)
theorem Rd.of {H : Hp} {a : Addr} {u : HO} (h : H a = some u) : Rd H a u := .inl h
theorem Rd.ok {P : Program} {w : World} {H : Hp} {h : Heap} {a : Addr} {u : HO} (r : Rd H a u) (x : HOk P w H h) : ObjOk P w H h a u := by
  rcases r with r | ⟨o, r⟩
  · exact x a u r
  · obtain ⟨_, q⟩ := x a _ r
    exact q
/-- what may be written -/
def Mut : Option HO → Prop
  | some (.lst _) => True
  | some (.dK _) => True
  | some (.dT _) => True
  | some (.set _ _) => True
  | some (.ins _ _ _) => True
  | some (.ext _) => True
  | _ => False
section
variable {P : Program} {w : World} {H : Hp} {h h' : Heap} {x e : Addr} {o' : HO}
/-- the object at e is changed: x itself, or the dict of the instance x -/
theorem HOk.write (ok : HOk P w H h) (mu : Mut (H x)) (he : e = x ∨ H e = some (.own x)) (k : ∀ b u, b ≠ e → h.get? b = some u → h'.get? b = some u) (heo : ∃ u, h'.get? e = some u)
    (new : ObjOk P w (upd H x o') h' x o') : HOk P w (upd H x o') h' := fun b u q => by
  have nown : ∀ c y, H c = some (.own y) → c ≠ x := fun c y r z => by subst z; rw [r] at mu; exact mu
  have ntup : ∀ c xs, H c = some (.tup xs) → c ≠ x := fun c xs r z => by subst z; rw [r] at mu; exact mu
  by_cases hb : b = x
  · subst hb; rw [upd_same] at q; cases q; exact new
  · rw [upd_ne hb] at q
    by_cases hbe : b = e
    · have q' : H b = some (.own x) := by
        rcases he with z | z
        · exact absurd (hbe.trans z) hb
        · rw [hbe]; exact z
      rw [q] at q'; cases q'
      obtain ⟨v, hv⟩ := heo
      exact ⟨v, by rw [hbe]; exact hv⟩
    · refine (ok b u q).stay (fun c v hc r => k c v ?_ r) (fun c r => by rw [upd_ne (nown c b r)]; exact r) fun c xs r => by rw [upd_ne (ntup c xs r)]; exact r
      rcases hc with rfl | hc
      · exact hbe
      · rintro rfl
        rcases he with z | z
        · exact nown c b hc z
        · rw [hc] at z; cases z; exact hb rfl
end

/-! ### kept unless tracked; of the frames at fs (the callers') the slots may change (an exception that passes writes there); of the records at ex (iterators) nothing is said -/
structure Un (fs ex : List Addr) (H H' : Hp) (h h' : Heap) : Prop where
  keep : ∀ b o, h.get? b = some o → H b = none → b ∉ fs → b ∉ ex → h'.get? b = some o
  slot : ∀ b o, h.get? b = some o → H b = none → b ∈ fs → b ∉ ex → ∃ sl, h'.get? b = some { o with slots := sl }
  free : ∀ b o, h.get? b = some o → H b = none → b ∉ ex → H' b = none
  there : ∀ b o, h.get? b = some o → b ∉ ex → ∃ o', h'.get? b = some o'
  tups : ∀ b xs, H b = some (.tup xs) → H' b = some (.tup xs)
  frzs : ∀ b o u, H b = some (.frz o u) → H' b = some (.frz o u)
  tbls : ∀ b ps, H b = some (.tbl ps) → ∃ more, H' b = some (.tbl (ps ++ more))
section
variable {fs fs' ex ex' : List Addr} {H H1 H2 : Hp} {h h1 h2 h' : Heap} {a x e : Addr} {o : HO}
theorem Un.any (u : Un fs ex H H1 h h1) {b : Addr} {ob : Obj} (q : h.get? b = some ob) (n : H b = none) (hx : b ∉ ex) : ∃ sl, h1.get? b = some { ob with slots := sl } := by
  by_cases hb : b ∈ fs
  · exact u.slot b ob q n hb hx
  · exact ⟨ob.slots, u.keep b ob q n hb hx⟩
theorem Un.trans (a : Un fs ex H H1 h h1) (b : Un fs ex H1 H2 h1 h2) : Un fs ex H H2 h h2 where
  keep := fun c ob q n hc hx => b.keep c ob (a.keep c ob q n hc hx) (a.free c ob q n hx) hc hx
  slot := fun c ob q n hc hx => by
    obtain ⟨sl, e1⟩ := a.slot c ob q n hc hx
    obtain ⟨sl', e2⟩ := b.slot c _ e1 (a.free c ob q n hx) hc hx
    exact ⟨sl', e2⟩
  free := fun c ob q n hx => by
    obtain ⟨o', e1⟩ := a.there c ob q hx
    exact b.free c o' e1 (a.free c ob q n hx) hx
  there := fun c ob q hx => by
    obtain ⟨o', e1⟩ := a.there c ob q hx
    exact b.there c o' e1 hx
  tups := fun c xs q => b.tups c xs (a.tups c xs q)
  frzs := fun c ob xs q => b.frzs c ob xs (a.frzs c ob xs q)
  tbls := fun c ps q => by
    obtain ⟨m1, e1⟩ := a.tbls c ps q
    obtain ⟨m2, e2⟩ := b.tbls c _ e1
    exact ⟨m1 ++ m2, by rw [e2, Array.append_assoc]⟩
theorem Un.kept (k : ∀ b u, h.get? b = some u → h'.get? b = some u) : Un fs ex H H h h' :=
  ⟨fun b ob q _ _ _ => k b ob q, fun b ob q _ _ _ => ⟨ob.slots, k b ob q⟩, fun _ _ _ n _ => n, fun b ob q _ => ⟨ob, k b ob q⟩, fun _ _ q => q, fun _ _ _ q => q, fun _ ps q => ⟨#[], by rw [q]; simp⟩⟩
theorem Un.refl : Un fs ex H H h h := Un.kept fun _ _ q => q
theorem Un.laid (k : ∀ b u, h.get? b = some u → h'.get? b = some u) (hp : h.objs.size ≤ a) (hn : H a = none) : Un fs ex H (upd H a o) h h' where
  keep := fun b u q _ _ _ => k b u q
  slot := fun b u q _ _ _ => ⟨u.slots, k b u q⟩
  free := fun b u q n _ => by rw [upd_ne (Nat.ne_of_lt (Nat.lt_of_lt_of_le (Heap.lt_size q) hp))]; exact n
  there := fun b u q _ => ⟨u, k b u q⟩
  tups := fun b xs q => by rw [upd_ne (ne_of_none q hn)]; exact q
  frzs := fun b u xs q => by rw [upd_ne (ne_of_none q hn)]; exact q
  tbls := fun b ps q => ⟨#[], by rw [upd_ne (ne_of_none q hn), q]; simp⟩
theorem Un.write (mu : Mut (H x)) (he : e = x ∨ H e = some (.own x)) (k : ∀ b u, b ≠ e → h.get? b = some u → h'.get? b = some u) (heo : ∃ u, h'.get? e = some u) : Un fs ex H (upd H x o) h h' := by
  have hx : ∀ b, H b = none → b ≠ x := fun b n z => by subst z; rw [n] at mu; exact mu
  have hb : ∀ b, H b = none → b ≠ e := fun b n z => by
    subst z
    rcases he with r | r
    · exact hx b n r
    · rw [n] at r; cases r
  have hm : ∀ b u, H b = some u → ¬ Mut (some u) → b ≠ x := fun b u q nm z => by subst z; rw [q] at mu; exact nm mu
  refine ⟨fun b u q n _ _ => k b u (hb b n) q, fun b u q n _ _ => ⟨u.slots, k b u (hb b n) q⟩, fun b u q n _ => by rw [upd_ne (hx b n)]; exact n, fun b u q _ => ?_,
    fun b xs q => by rw [upd_ne (hm b _ q fun z => z)]; exact q, fun b u xs q => by rw [upd_ne (hm b _ q fun z => z)]; exact q, fun b ps q => ⟨#[], by rw [upd_ne (hm b _ q fun z => z), q]; simp⟩⟩
  by_cases hbe : b = e
  · subst hbe; exact heo
  · exact ⟨u, k b u hbe q⟩
theorem Un.mono (u : Un fs ex H H1 h h1) (hs : ∀ b ∈ fs, b ∈ fs') (hx : ∀ b ∈ ex, b ∈ ex') : Un fs' ex' H H1 h h1 :=
  ⟨fun b ob q n hb he => u.keep b ob q n (fun z => hb (hs b z)) fun z => he (hx b z), fun _ _ q n _ he => u.any q n fun z => he (hx _ z), fun b ob q n he => u.free b ob q n fun z => he (hx b z), fun b ob q he => u.there b ob q fun z => he (hx b z), u.tups, u.frzs, u.tbls⟩
end

/-! ### the heap without what is tracked -/
def trk (h : Heap) (H : Hp) : List Addr := (List.range h.objs.size).filter fun a => (H a).isSome
def hidT (h : Heap) (H : Hp) : Heap := PySem.W.hideAll h (trk h H)
theorem hidT_size (h : Heap) (H : Hp) : (hidT h H).objs.size = h.objs.size := PySem.W.hideAll_size _ _
theorem hidT_get {h : Heap} {H : Hp} {b : Addr} {o : Obj} (e : h.get? b = some o) (n : H b = none) : (hidT h H).get? b = some o :=
  PySem.W.hideAll_get _ e fun hm => by
    have q : (H b).isSome = true := (List.mem_filter.mp hm).2
    rw [n] at q; simp at q
theorem of_hidT {h : Heap} {H : Hp} {b : Addr} {o : Obj} (e : (hidT h H).get? b = some o) : h.get? b = some o ∧ H b = none := by
  have e' : h.get? b = some o := PySem.W.of_hideAll (trk h H) e
  refine ⟨e', ?_⟩
  cases q : H b with
  | none => rfl
  | some x =>
    have hm : b ∈ trk h H := List.mem_filter.mpr ⟨List.mem_range.mpr (Heap.lt_size e'), by simp [q]⟩
    have z : (hidT h H).get? b = none := PySem.W.hideAll_none (trk h H) hm
    rw [z] at e; cases e

/-! ### OpenK's ledger, filled with every new object but one -/
def allNews (g h : Heap) (L : Addr) : List (Addr × Obj) := (List.range h.objs.size).filterMap fun a => if a = L ∨ (g.get? a).isSome = true then none else (h.get? a).map fun o => (a, o)
def rest (g h : Heap) (L d : Addr) : List (Addr × Obj) := (allNews g h L).filter fun p => decide (p.1 ≠ d)
end L2

namespace L2
open PySem PySem.Spec PyProof.Rows

/-- the module's facts, over the base: the heap at the law's entry without what is tracked there -/
structure Mod (K : PySem.W.Frag) (mg : Str → Option Value) (base : Heap) : Prop where
  kin : K.In base
  glob : base.Ns mainGlobals mg
  blt : ∃ mb, base.Ns builtinsNs mb ∧ ∀ x : Str, x ≠ "__name__" → mb x = bootBuiltins x
  nolimit : base.NoLimit

/-- the context: a def's body (or a comprehension's block) running. base: fixed through the whole law; s₀, H₀: the entry; outer: the frames whose slots others may change (a def's callers); stack: all frames that run;
   ex: iterators that were made ahead of the entry and are walked here (a comprehension's); fn: the names whose cells were made at the entry (a def: all; a comprehension's block: its own); calm: not within an except suite; pn: pins that every state bears; xe: what is wanted of an exception that leaves the code -/
structure Cx where
  prog : Program
  w : World
  K : PySem.W.Frag
  mg : Str → Option Value
  base : Heap
  A : Around
  N : List Str
  s₀ : Shared
  H₀ : Hp
  env : Env
  outer : List Env
  stack : List Env
  ex : List Addr
  fn : Str → Bool
  calm : Bool
  pn : List (Addr × Obj)
  xe : Value → Shared → Prop
/-- the callers' frames -/
def frs (l : List Env) : List Addr := l.filterMap (·.frame)
abbrev Cx.fs (X : Cx) : List Addr := frs X.outer

def Vis (sc : Scope) (x : Str) : Prop := sc.names.lookup x = some .local ∨ sc.names.lookup x = some .cell ∨ sc.names.lookup x = some .free
def Loc (sc : Scope) (x : Str) : Prop := sc.names.lookup x = some .local ∨ sc.names.lookup x = some .cell
def Look (env : Env) (h : Heap) (m : Str → Option Value) (x : Str) (u : Value) : Prop :=
  (env.kindOf x = some .local ∧ m x = some u) ∨ ((env.kindOf x = some .cell ∨ env.kindOf x = some .free) ∧ ∃ c, env.cells.lookup x = some c ∧ h.IsCell c (some u))

structure Cx.Ok (X : Cx) : Prop where
  mod : Mod X.K X.mg X.base
  kind : X.env.scope.kind = .function
  glob : X.env.globals = mainGlobals
  blt : X.env.builtins = builtinsNs
  above : X.s₀.heap.objs.size ≤ X.env.locals
  inj : ∀ x y c, X.env.cells.lookup x = some c → X.env.cells.lookup y = some c → x = y
  has : ∀ x, (X.env.kindOf x = some .cell ∨ X.env.kindOf x = some .free) → ∃ c, X.env.cells.lookup x = some c
  cab : ∀ x c, X.fn x = true → X.env.cells.lookup x = some c → X.s₀.heap.objs.size ≤ c
  hd : X.calm = true → X.A.handled = none
  frames : X.A.frames = some X.stack
  stk : X.stack = X.outer ∨ (X.stack = X.env :: X.outer ∧ X.env.frame = some X.env.locals)
  exf : ∀ b ∈ X.ex, b ≠ X.env.locals ∧ ∀ x c, X.env.cells.lookup x = some c → c ≠ b
  bs : ∀ b o, X.base.get? b = some o → X.s₀.heap.get? b = some o ∧ X.H₀ b = none
  bsz : X.base.objs.size ≤ X.s₀.heap.objs.size
  noex : ∀ b o, X.base.get? b = some o → b ∉ X.ex
  exfs : ∀ b ∈ X.ex, b ∉ X.fs
  funs : X.s₀.heap.FunFrames X.base X.outer
  frf : ∀ b ∈ X.fs, X.H₀ b = none

structure Inv (X : Cx) (pins : List (Addr × Obj)) (σ : List (Option V)) (H : Hp) (s : Shared) : Prop where
  ok : X.Ok
  os : s.os = X.s₀.os
  bare : AllBare s.gens
  base : Un X.fs X.ex X.H₀ H X.s₀.heap s.heap
  loc : ∃ m, s.heap.Ns X.env.locals m ∧ ∀ (i : Nat) (x : Str) (v : V), X.N[i]? = some x → σ[i]? = some (some v) → Vis X.env.scope x → ∃ u, RelV v u ∧ Look X.env s.heap m x u
  cell : ∀ x c, X.env.cells.lookup x = some c → ∃ v, s.heap.IsCell c v
  free : H X.env.locals = none
  freeC : ∀ x c, X.env.cells.lookup x = some c → H c = none
  pin : ∀ p ∈ X.pn ++ pins, s.heap.get? p.1 = some p.2 ∧ H p.1 = none ∧ p.1 ≠ X.env.locals ∧ p.1 ∉ X.fs ∧ ∀ v, p.2.data ≠ .cell v
  hok : HOk X.prog X.w H s.heap
  len : σ.length = X.N.length

section
variable {X : Cx} {pins : List (Addr × Obj)} {σ : List (Option V)} {H H' : Hp} {s : Shared} {h' : Heap}

theorem Cx.Ok.nofr (ok : X.Ok) {b : Addr} {o : Obj} (e : X.base.get? b = some o) : b ∉ X.fs := fun hb => by
  have := (ok.funs.mem hb).1
  rw [e] at this; cases this
theorem Inv.bs (I : Inv X pins σ H s) : ∀ b o, X.base.get? b = some o → s.heap.get? b = some o ∧ H b = none := fun b o e =>
  ⟨I.base.keep b o (I.ok.bs b o e).1 (I.ok.bs b o e).2 (I.ok.nofr e) (I.ok.noex b o e), I.base.free b o (I.ok.bs b o e).1 (I.ok.bs b o e).2 (I.ok.noex b o e)⟩
theorem Inv.bk (I : Inv X pins σ H s) : ∀ b o, X.base.get? b = some o → s.heap.get? b = some o := fun b o e => (I.bs b o e).1
theorem Inv.mod (I : Inv X pins σ H s) : Mod X.K X.mg X.base := I.ok.mod
theorem Inv.kIn (I : Inv X pins σ H s) : X.K.In s.heap := I.ok.mod.kin.keeps I.bk
theorem Inv.nolimit (I : Inv X pins σ H s) : s.heap.NoLimit := I.ok.mod.nolimit.keeps I.bk
/-- the frame over the base: for OpenK's rules (K.In X.base is I.mod.kin) -/
theorem Inv.fr (I : Inv X pins σ H s) : ∃ m, Fr X.base X.env.locals s.heap m :=
  let ⟨m, hn, _⟩ := I.loc
  ⟨m, hn, I.bk, Nat.le_trans I.ok.bsz I.ok.above⟩
theorem Inv.lt (I : Inv X pins σ H s) : X.env.locals < s.heap.objs.size := let ⟨_, hn, _⟩ := I.loc; hn.lt
theorem Inv.sz (I : Inv X pins σ H s) : X.s₀.heap.objs.size ≤ s.heap.objs.size := Nat.le_trans I.ok.above (Nat.le_of_lt I.lt)
theorem Inv.nofs (I : Inv X pins σ H s) {a : Addr} (h : s.heap.objs.size ≤ a) : a ∉ X.fs := fun hb => by
  obtain ⟨_, o, ho, _⟩ := I.ok.funs.mem hb
  exact absurd (Nat.lt_of_lt_of_le (Heap.lt_size ho) (Nat.le_trans I.sz h)) (Nat.lt_irrefl _)
theorem Inv.cne (I : Inv X pins σ H s) : ∀ x c, X.env.cells.lookup x = some c → c ≠ X.env.locals := fun x c e z => by
  obtain ⟨v, o, ho, hd⟩ := I.cell x c e
  obtain ⟨m, ⟨o', es, ep, ho', hd', _⟩, _⟩ := I.loc
  rw [z, ho'] at ho; cases ho; rw [hd'] at hd; cases hd
theorem Inv.funs (I : Inv X pins σ H s) : s.heap.FunFrames X.base X.outer := by
  have all : ∀ (l : List Env), (∀ b ∈ frs l, b ∈ X.fs) → X.s₀.heap.FunFrames X.base l → s.heap.FunFrames X.base l := by
    intro l
    induction l with
    | nil => intro _ _; trivial
    | cons env r ih =>
      intro hs hl
      obtain ⟨hk, ⟨L, o, hf, hn, ho, hd⟩, hr⟩ := hl
      have hL : L ∈ X.fs := hs L (by unfold frs; rw [List.filterMap_cons, hf]; exact List.mem_cons_self)
      obtain ⟨sl, e⟩ := I.base.slot L o ho (I.ok.frf L hL) hL fun z => I.ok.exfs L z hL
      exact ⟨hk, ⟨L, _, hf, hn, e, hd⟩, ih (fun b hb => hs b (by unfold frs; rw [List.filterMap_cons, hf]; exact List.mem_cons_of_mem _ hb)) hr⟩
  exact all X.outer (fun _ hb => hb) I.ok.funs

/-- the frames that run, for a call -/
theorem Inv.stack (I : Inv X pins σ H s) : s.heap.FunFrames X.base X.stack := by
  rcases I.ok.stk with e | ⟨e, hf⟩
  · rw [e]; exact I.funs
  · rw [e]
    obtain ⟨m, hn, _⟩ := I.loc
    refine .cons (by rw [I.ok.kind]; decide) hf hn ?_ I.funs
    exact Heap.get?_none_of_le (Nat.le_trans I.ok.bsz I.ok.above)
theorem Inv.stkSub (I : Inv X pins σ H s) : ∀ b ∈ frs X.stack, b ∈ X.env.locals :: X.fs := fun b hb => by
  rcases I.ok.stk with e | ⟨e, hf⟩
  · rw [e] at hb; exact List.mem_cons_of_mem _ hb
  · rw [e] at hb
    unfold frs at hb
    rw [List.filterMap_cons, hf] at hb
    exact hb
theorem Inv.stkFree (I : Inv X pins σ H s) : ∀ b ∈ frs X.stack, H b = none := fun b hb => by
  rcases List.mem_cons.mp (I.stkSub b hb) with e | hb
  · rw [e]; exact I.free
  · obtain ⟨_, o, ho, _⟩ := I.ok.funs.mem hb
    exact I.base.free b o ho (I.ok.frf b hb) fun z => I.ok.exfs b z hb

/-- THE STEP: the untracked objects but the frame and the records at ch are kept (the callers' frames up to slots), the frame's map is kept, the new abstract heap is held -/
theorem Inv.step {g' : Array GenState} {t' : Nat} {d' : Drawn} {ch : List Addr} (I : Inv X pins σ H s)
    (hch : ∀ b ∈ ch, (b ∈ X.ex ∨ X.s₀.heap.objs.size ≤ b) ∧ b ≠ X.env.locals ∧ (∀ x c, X.env.cells.lookup x = some c → c ≠ b) ∧ ∀ p ∈ X.pn ++ pins, p.1 ≠ b)
    (keep : ∀ b o, b ≠ X.env.locals → b ∉ X.fs → b ∉ ch → s.heap.get? b = some o → H b = none → h'.get? b = some o)
    (slot : ∀ b o, b ≠ X.env.locals → b ∈ X.fs → b ∉ ch → s.heap.get? b = some o → H b = none → ∃ sl, h'.get? b = some { o with slots := sl }) (free : ∀ b o, b ∉ ch → s.heap.get? b = some o → H b = none → H' b = none)
    (there : ∀ b o, b ∉ ch → s.heap.get? b = some o → ∃ o', h'.get? b = some o')
    (tups : ∀ b xs, H b = some (.tup xs) → H' b = some (.tup xs)) (frzs : ∀ b o u, H b = some (.frz o u) → H' b = some (.frz o u)) (tbls : ∀ b ps, H b = some (.tbl ps) → ∃ more, H' b = some (.tbl (ps ++ more)))
    (ns : ∀ m, s.heap.Ns X.env.locals m → h'.Ns X.env.locals m) (hok : HOk X.prog X.w H' h') (hg : AllBare g') :
    Inv X pins σ H' { s with heap := h', gens := g', drawn := d', toks := t' } := by
  have neL : ∀ b o, X.s₀.heap.get? b = some o → b ≠ X.env.locals := fun b o e => Nat.ne_of_lt (Nat.lt_of_lt_of_le (Heap.lt_size e) I.ok.above)
  have neC : ∀ b o, X.s₀.heap.get? b = some o → b ∉ X.ex → b ∉ ch := fun b o e hx hb => by
    rcases (hch b hb).1 with z | z
    · exact hx z
    · exact absurd (Nat.lt_of_lt_of_le (Heap.lt_size e) z) (Nat.lt_irrefl _)
  have cellK : ∀ x c, X.env.cells.lookup x = some c → ∀ v, s.heap.IsCell c v → h'.IsCell c v := fun x c e v ⟨o, ho, hd⟩ => by
    have nch : c ∉ ch := fun z => (hch c z).2.2.1 x c e rfl
    by_cases hc : c ∈ X.fs
    · obtain ⟨sl, q⟩ := slot c o (I.cne x c e) hc nch ho (I.freeC x c e)
      exact ⟨_, q, hd⟩
    · exact ⟨o, keep c o (I.cne x c e) hc nch ho (I.freeC x c e), hd⟩
  refine ⟨I.ok, I.os, hg, ⟨fun b o e n hb hx => ?_, fun b o e n hb hx => ?_, fun b o e n hx => ?_, fun b o e hx => ?_, fun b xs e => tups b xs (I.base.tups b xs e), fun b o xs e => frzs b o xs (I.base.frzs b o xs e), fun b ps e => ?_⟩, ?_, fun x c e => ?_, ?_, fun x c e => ?_, fun p hp => ?_, hok, I.len⟩
  · exact keep b o (neL b o e) hb (neC b o e hx) (I.base.keep b o e n hb hx) (I.base.free b o e n hx)
  · obtain ⟨sl, e1⟩ := I.base.slot b o e n hb hx
    obtain ⟨sl', e2⟩ := slot b _ (neL b o e) hb (neC b o e hx) e1 (I.base.free b o e n hx)
    exact ⟨sl', e2⟩
  · obtain ⟨o', e1⟩ := I.base.there b o e hx
    exact free b o' (neC b o e hx) e1 (I.base.free b o e n hx)
  · obtain ⟨o', e1⟩ := I.base.there b o e hx
    exact there b o' (neC b o e hx) e1
  · obtain ⟨m1, e1⟩ := I.base.tbls b ps e
    obtain ⟨m2, e2⟩ := tbls b _ e1
    exact ⟨m1 ++ m2, by rw [e2, Array.append_assoc]⟩
  · obtain ⟨m, hn, hl⟩ := I.loc
    refine ⟨m, ns m hn, fun i x v e1 e2 e3 => ?_⟩
    obtain ⟨u, r, l⟩ := hl i x v e1 e2 e3
    refine ⟨u, r, ?_⟩
    rcases l with l | ⟨k, c, e, z⟩
    · exact .inl l
    · exact .inr ⟨k, c, e, cellK x c e _ z⟩
  · obtain ⟨v, z⟩ := I.cell x c e
    exact ⟨v, cellK x c e v z⟩
  · obtain ⟨m, ⟨o, _, _, ho, _⟩, _⟩ := I.loc
    exact free _ o (fun z => (hch _ z).2.1 rfl) ho I.free
  · obtain ⟨v, o, ho, hd⟩ := I.cell x c e
    exact free c o (fun z => (hch c z).2.2.1 x c e rfl) ho (I.freeC x c e)
  · obtain ⟨e, n, ne, nf, d⟩ := I.pin p hp
    have nch : p.1 ∉ ch := fun z => (hch p.1 z).2.2.2 p hp rfl
    exact ⟨keep p.1 p.2 ne nf nch e n, free p.1 p.2 nch e n, ne, nf, d⟩
/-- .. where the frame's own object is kept too -/
theorem Inv.un {t' : Nat} (I : Inv X pins σ H s) (u : Un X.fs [] H H' s.heap h') (hok : HOk X.prog X.w H' h') : Inv X pins σ H' { s with heap := h', toks := t' } := by
  obtain ⟨m, ⟨o, es, ep, ho, r⟩, _⟩ := id I.loc
  obtain ⟨sl, hL⟩ := u.any ho I.free (by simp)
  exact I.step (g' := s.gens) (d' := s.drawn) (ch := []) (fun _ z => nomatch z) (fun b o _ hb _ e n => u.keep b o e n hb (by simp)) (fun b o _ hb _ e n => u.slot b o e n hb (by simp)) (fun b o _ e n => u.free b o e n (by simp)) (fun b o _ e => u.there b o e (by simp)) u.tups u.frzs u.tbls (fun m' hm => by
    obtain ⟨o', es', ep', ho', r'⟩ := hm
    rw [ho] at ho'; cases ho'
    exact ⟨_, es', ep', hL, r'⟩) hok I.bare
/-- behind a call (or a comprehension's block): the slots of this frame may have changed too, the records at ch may have turned -/
theorem Inv.call {g' : Array GenState} {t' : Nat} {d' : Drawn} {ch : List Addr} (I : Inv X pins σ H s) (u : Un (frs X.stack) ch H H' s.heap h') (hok : HOk X.prog X.w H' h') (hg : AllBare g')
    (hch : ∀ b ∈ ch, (b ∈ X.ex ∨ X.s₀.heap.objs.size ≤ b) ∧ b ≠ X.env.locals ∧ (∀ x c, X.env.cells.lookup x = some c → c ≠ b) ∧ ∀ p ∈ X.pn ++ pins, p.1 ≠ b) :
    Inv X pins σ H' { s with heap := h', gens := g', drawn := d', toks := t' } := by
  obtain ⟨m, ⟨o, es, ep, ho, r⟩, _⟩ := id I.loc
  obtain ⟨sl, hL⟩ := u.any ho I.free fun z => (hch _ z).2.1 rfl
  exact I.step (ch := ch) hch (fun b o hL hb hc e n => u.keep b o e n (fun z => (List.mem_cons.mp (I.stkSub b z)).elim hL hb) hc) (fun b o _ _ hc e n => u.any e n hc) (fun b o hc e n => u.free b o e n hc) (fun b o hc e => u.there b o e hc) u.tups u.frzs u.tbls (fun m' hm => by
    obtain ⟨o', es', ep', ho', r'⟩ := hm
    rw [ho] at ho'; cases ho'
    exact ⟨_, es', ep', hL, r'⟩) hok hg
/-- an untracked record of ours (an iterator) has turned -/
theorem Inv.turned {t' : Nat} {it : Addr} (I : Inv X pins σ H s) (k : ∀ b o, b ≠ it → s.heap.get? b = some o → h'.get? b = some o) (hn : H it = none) (hL : it ≠ X.env.locals)
    (h1 : it ∈ X.ex ∨ X.s₀.heap.objs.size ≤ it) (h2 : ∀ x c, X.env.cells.lookup x = some c → c ≠ it) (h3 : ∀ p ∈ X.pn ++ pins, p.1 ≠ it) : Inv X pins σ H { s with heap := h', toks := t' } := by
  have nit : ∀ b u, H b = some u → b ≠ it := fun b u e z => by rw [z, hn] at e; cases e
  refine I.step (g' := s.gens) (d' := s.drawn) (ch := [it]) (fun b hb => ?_) (fun b o _ _ hc e _ => k b o (fun z => hc (by simp [z])) e) (fun b o _ _ hc e _ => ⟨o.slots, k b o (fun z => hc (by simp [z])) e⟩) (fun _ _ _ _ n => n)
    (fun b o hc e => ⟨o, k b o (fun z => hc (by simp [z])) e⟩) (fun _ _ e => e) (fun _ _ _ e => e) (fun b ps e => ⟨#[], by rw [e]; simp⟩) (fun m hm => ?_) (fun b u e => ?_) I.bare
  · have e : b = it := by simpa using hb
    subst e
    exact ⟨h1, hL, h2, h3⟩
  · obtain ⟨o, es, ep, ho, r⟩ := hm
    exact ⟨o, es, ep, k _ o (Ne.symm hL) ho, r⟩
  · refine (I.hok b u e).stay (fun c v hc q => k c v ?_ q) (fun _ q => q) fun _ _ q => q
    rcases hc with z | z
    · rw [z]; exact nit b u e
    · exact nit c _ z
theorem Inv.tok (I : Inv X pins σ H s) (t : Nat) : Inv X pins σ H { s with toks := t } := I.un (h' := s.heap) (t' := t) Un.refl I.hok
/-- all objects kept -/
theorem Inv.kept {t' : Nat} (I : Inv X pins σ H s) (k : ∀ b u, s.heap.get? b = some u → h'.get? b = some u) : Inv X pins σ H { s with heap := h', toks := t' } := I.un (Un.kept k) (I.hok.kept k)
/-- a new object laid and tracked -/
theorem Inv.laid {a : Addr} {o : HO} {t' : Nat} (I : Inv X pins σ H s) (k : ∀ b u, s.heap.get? b = some u → h'.get? b = some u) (hp : s.heap.objs.size ≤ a) (new : ObjOk X.prog X.w (upd H a o) h' a o) :
    Inv X pins σ (upd H a o) { s with heap := h', toks := t' } := I.un (Un.laid k hp (I.hok.fresh hp)) (I.hok.laid k hp new)
/-- an object written -/
theorem Inv.write {x e : Addr} {o : HO} {t' : Nat} (I : Inv X pins σ H s) (mu : Mut (H x)) (he : e = x ∨ H e = some (.own x)) (k : ∀ b u, b ≠ e → s.heap.get? b = some u → h'.get? b = some u) (heo : ∃ u, h'.get? e = some u)
    (new : ObjOk X.prog X.w (upd H x o) h' x o) : Inv X pins σ (upd H x o) { s with heap := h', toks := t' } := I.un (Un.write mu he k heo) (I.hok.write mu he k heo new)
theorem Inv.pins_of {pins' : List (Addr × Obj)} (I : Inv X pins σ H s) (h : ∀ p ∈ pins', s.heap.get? p.1 = some p.2 ∧ H p.1 = none ∧ p.1 ≠ X.env.locals ∧ p.1 ∉ X.fs ∧ ∀ v, p.2.data ≠ .cell v) : Inv X pins' σ H s :=
  ⟨I.ok, I.os, I.bare, I.base, I.loc, I.cell, I.free, I.freeC, fun p hp => (List.mem_append.mp hp).elim (fun z => I.pin p (List.mem_append_left _ z)) (h p), I.hok, I.len⟩

theorem nodup_ix {N : List Str} (hN : N.Nodup) {i j : Nat} {x : Str} (a : N[i]? = some x) (b : N[j]? = some x) : i = j := by
  obtain ⟨h1, e1⟩ := List.getElem?_eq_some_iff.mp a
  obtain ⟨h2, e2⟩ := List.getElem?_eq_some_iff.mp b
  exact (List.getElem_inj hN).mp (e1.trans e2.symm)

/-- a name is stored; what changed -/
theorem store_ok2 {M : Model} {A : Around} {E : Value → Shared → Prop} {i : Nat} {x : Str} {v : V} {u : Value} {Q : Unit → Shared → Prop} (I : Inv X pins σ H s) (hN : X.N.Nodup) (hi : X.N[i]? = some x) (hx : Loc X.env.scope x) (r : RelV v u)
    (h : ∀ s', Inv X pins (σ.set i (some v)) H s' → (∃ a, Heap.SameBut a s.heap s'.heap ∧ (a = X.env.locals ∨ X.env.cells.lookup x = some a)) → Q () s') (hf : X.fn x = true ∨ X.env.scope.names.lookup x = some .local := by first | exact .inl rfl | exact .inr rfl | assumption) : wpAny M A (storeName X.env x u) Q E s := by
  obtain ⟨m, hn, hl⟩ := id I.loc
  have hcls : (X.env.scope.kind == .class || (X.env.scope.kind == .module && X.env.locals != X.env.globals)) = false := by rw [I.ok.kind]; rfl
  have hiσ : i < σ.length := by rw [I.len]; exact (List.getElem?_eq_some_iff.mp hi).1
  have cne := I.cne
  have tracked : ∀ {a : Addr} {h' : Heap}, (∃ o, s.heap.get? a = some o ∧ H a = none) → Heap.SameBut a s.heap h' → HOk X.prog X.w H h' := fun {a h'} ha hs b ob e => by
    obtain ⟨_, _, hfree⟩ := ha
    refine (I.hok b ob e).stay (fun c w' hc q => (hs.2 c ?_).trans q) (fun _ q => q) fun _ _ q => q
    rintro rfl
    rcases hc with rfl | hc
    · rw [hfree] at e; cases e
    · rw [hfree] at hc; cases hc
  rcases hx with hk | hk
  · refine wpAny_storeName_local hk hn (fun h' hn' hs => ?_) hcls
    obtain ⟨oL, _, _, hoL, _⟩ := id hn
    refine h _ ⟨I.ok, I.os, I.bare, ⟨fun b o e n hb hx => ?_, fun b o e n hb hx => ?_, I.base.free, fun b o e hx => ?_, I.base.tups, I.base.frzs, I.base.tbls⟩, ⟨_, hn', fun j y v' e1 e2 e3 => ?_⟩, fun y c e => ?_, I.free, I.freeC, fun p hp => ?_, tracked ⟨oL, hoL, I.free⟩ hs, by simpa using I.len⟩ ⟨_, hs, .inl rfl⟩
    · exact (hs.2 b (Nat.ne_of_lt (Nat.lt_of_lt_of_le (Heap.lt_size e) I.ok.above))).trans (I.base.keep b o e n hb hx)
    · obtain ⟨sl, e1⟩ := I.base.slot b o e n hb hx
      exact ⟨sl, (hs.2 b (Nat.ne_of_lt (Nat.lt_of_lt_of_le (Heap.lt_size e) I.ok.above))).trans e1⟩
    · obtain ⟨o', e1⟩ := I.base.there b o e hx
      exact ⟨o', (hs.2 b (Nat.ne_of_lt (Nat.lt_of_lt_of_le (Heap.lt_size e) I.ok.above))).trans e1⟩
    · by_cases hj : j = i
      · subst hj
        rw [hi] at e1; cases e1
        rw [List.getElem?_set_self hiσ] at e2
        cases e2
        exact ⟨u, r, .inl ⟨hk, by simp⟩⟩
      · rw [List.getElem?_set_ne (Ne.symm hj)] at e2
        obtain ⟨u', r', q⟩ := hl j y v' e1 e2 e3
        refine ⟨u', r', ?_⟩
        rcases q with ⟨k, e⟩ | ⟨k, c, e, z⟩
        · refine .inl ⟨k, ?_⟩
          have : y ≠ x := fun e => hj (nodup_ix hN e1 (e ▸ hi))
          simp [this, e]
        · exact .inr ⟨k, c, e, z.sameBut hs (cne y c e)⟩
    · obtain ⟨w', z⟩ := I.cell y c e
      exact ⟨w', z.sameBut hs (cne y c e)⟩
    · obtain ⟨e, n, ne, nf, d⟩ := I.pin p hp
      exact ⟨(hs.2 p.1 ne).trans e, n, ne, nf, d⟩
  · have hfn : X.fn x = true := by
      rcases hf with z | z
      · exact z
      · rw [z] at hk; cases hk
    obtain ⟨c, hc⟩ := I.ok.has x (.inl hk)
    obtain ⟨w', z⟩ := I.cell x c hc
    refine wpAny_storeName_cell I.ok.kind hk hc z (fun h' hc' hs => ?_)
    obtain ⟨oc, hoc, hocd⟩ := id z
    refine h { s with heap := h' } ⟨I.ok, I.os, I.bare, ⟨fun b o e n hb hx => ?_, fun b o e n hb hx => ?_, I.base.free, fun b o e hx => ?_, I.base.tups, I.base.frzs, I.base.tbls⟩, ⟨m, hn.sameBut hs (Ne.symm (cne x c hc)), fun j y v' e1 e2 e3 => ?_⟩, fun y c' e => ?_, I.free, I.freeC, fun p hp => ?_, tracked ⟨oc, hoc, I.freeC x c hc⟩ hs, by simpa using I.len⟩ ⟨c, hs, .inr hc⟩
    · exact (hs.2 b (Nat.ne_of_lt (Nat.lt_of_lt_of_le (Heap.lt_size e) (I.ok.cab x c hfn hc)))).trans (I.base.keep b o e n hb hx)
    · obtain ⟨sl, e1⟩ := I.base.slot b o e n hb hx
      exact ⟨sl, (hs.2 b (Nat.ne_of_lt (Nat.lt_of_lt_of_le (Heap.lt_size e) (I.ok.cab x c hfn hc)))).trans e1⟩
    · obtain ⟨o', e1⟩ := I.base.there b o e hx
      exact ⟨o', (hs.2 b (Nat.ne_of_lt (Nat.lt_of_lt_of_le (Heap.lt_size e) (I.ok.cab x c hfn hc)))).trans e1⟩
    · by_cases hj : j = i
      · subst hj
        rw [hi] at e1; cases e1
        rw [List.getElem?_set_self hiσ] at e2
        cases e2
        exact ⟨u, r, .inr ⟨.inl hk, c, hc, hc'⟩⟩
      · rw [List.getElem?_set_ne (Ne.symm hj)] at e2
        obtain ⟨u', r', q⟩ := hl j y v' e1 e2 e3
        refine ⟨u', r', ?_⟩
        rcases q with q | ⟨k, c', e, z'⟩
        · exact .inl q
        · refine .inr ⟨k, c', e, z'.sameBut hs ?_⟩
          rintro rfl
          exact hj (nodup_ix hN e1 (I.ok.inj _ _ _ e hc ▸ hi))
    · by_cases hcc : c' = c
      · subst hcc; exact ⟨_, hc'⟩
      · obtain ⟨w2, z2⟩ := I.cell y c' e
        exact ⟨w2, z2.sameBut hs hcc⟩
    · obtain ⟨e, n, ne, nf, d⟩ := I.pin p hp
      refine ⟨(hs.2 p.1 ?_).trans e, n, ne, nf, d⟩
      intro q
      rw [q, hoc] at e
      have q' : oc = p.2 := Option.some.inj e
      exact d w' (by rw [← q']; exact hocd)
theorem store_ok {M : Model} {A : Around} {E : Value → Shared → Prop} {i : Nat} {x : Str} {v : V} {u : Value} {Q : Unit → Shared → Prop} (I : Inv X pins σ H s) (hN : X.N.Nodup) (hi : X.N[i]? = some x) (hx : Loc X.env.scope x) (r : RelV v u)
    (h : ∀ s', Inv X pins (σ.set i (some v)) H s' → Q () s') (hf : X.fn x = true ∨ X.env.scope.names.lookup x = some .local := by first | exact .inl rfl | exact .inr rfl | assumption) : wpAny M A (storeName X.env x u) Q E s :=
  store_ok2 I hN hi hx r (fun s' I' _ => h s' I') hf
end

/-! ### the judgements -/
/-- an exception: its class, its own dict's address (where it has one), the abstract heap behind it -/
abbrev XK := Value → Option Addr → Hp → Prop
abbrev St := List (Option V)
abbrev VK := V → Hp → Prop
/-- an expression's reading; a test's; an argument list's -/
abbrev TE := St → Hp → VK → Prop
abbrev TT := St → Hp → (Bool → Hp → Prop) → Prop
abbrev TA := St → Hp → (List V → Hp → Prop) → Prop
/-- what is wanted behind a statement -/
structure Ends where
  nx : St → Hp → Prop
  rt : VK
  bk : St → Hp → Prop := fun _ _ => False
  ct : St → Hp → Prop := fun _ _ => False
abbrev TS := Ends → St → Hp → Prop

def EP (X : Cx) (pins : List (Addr × Obj)) (σ : St) (Q : VK) (u : Value) (s' : Shared) : Prop := ∃ v H', Inv X pins σ H' s' ∧ RelV v u ∧ Q v H'
def TP (X : Cx) (pins : List (Addr × Obj)) (σ : St) (Q : Bool → Hp → Prop) (b : Bool) (s' : Shared) : Prop := ∃ H', Inv X pins σ H' s' ∧ Q b H'
def AP (X : Cx) (pins : List (Addr × Obj)) (σ : St) (Q : List V → Hp → Prop) (us : List Value) (s' : Shared) : Prop := ∃ vs H', Inv X pins σ H' s' ∧ Vals vs us ∧ Q vs H'
def SP (X : Cx) (pins : List (Addr × Obj)) (D : Ends) (f : Flow) (s' : Shared) : Prop :=
  match f with
  | .next => ∃ σ' H', Inv X pins σ' H' s' ∧ D.nx σ' H'
  | .brk => ∃ σ' H', Inv X pins σ' H' s' ∧ D.bk σ' H'
  | .cont => ∃ σ' H', Inv X pins σ' H' s' ∧ D.ct σ' H'
  | .ret u => ∃ v σ' H', Inv X pins σ' H' s' ∧ RelV v u ∧ D.rt v H'

def PE (X : Cx) (e : Expr) (t : TE) : Prop :=
  ∀ (pins : List (Addr × Obj)) (s : Shared) (σ : St) (H : Hp) (Q : VK), Inv X pins σ H s → t σ H Q → wpAny (model X.prog X.w) X.A (eval e X.env) (EP X pins σ Q) X.xe s
def PT (X : Cx) (e : Expr) (t : TT) : Prop :=
  ∀ (pins : List (Addr × Obj)) (s : Shared) (σ : St) (H : Hp) (Q : Bool → Hp → Prop), Inv X pins σ H s → t σ H Q → wpAny (model X.prog X.w) X.A (isTrue e X.env (eval e X.env)) (TP X pins σ Q) X.xe s
/-- a test whatever its 'whole' is (and, or) -/
def PW (X : Cx) (e : Expr) (t : TT) : Prop :=
  ∀ (whole : Sem Value) (pins : List (Addr × Obj)) (s : Shared) (σ : St) (H : Hp) (Q : Bool → Hp → Prop), Inv X pins σ H s → t σ H Q → wpAny (model X.prog X.w) X.A (isTrue e X.env whole) (TP X pins σ Q) X.xe s
theorem PW.pt {X : Cx} {e : Expr} {t : TT} (h : PW X e t) : PT X e t := h _
/-- an argument list (no star), from the left -/
def PA (X : Cx) (es : List Expr) (t : TA) : Prop :=
  ∀ (pos : Pos) (pins : List (Addr × Obj)) (s : Shared) (σ : St) (H : Hp) (Q : List V → Hp → Prop), Inv X pins σ H s → t σ H Q → wpAny (model X.prog X.w) X.A (spliced (backTo pos (starEach es X.env))) (AP X pins σ Q) X.xe s
def PS (X : Cx) (st : Stmt) (t : TS) : Prop :=
  ∀ (pins : List (Addr × Obj)) (s : Shared) (σ : St) (H : Hp) (D : Ends), Inv X pins σ H s → t D σ H → wpAny (model X.prog X.w) X.A (exec st X.env) (SP X pins D) X.xe s
def PSs (X : Cx) (st : List Stmt) (t : TS) : Prop :=
  ∀ (pins : List (Addr × Obj)) (s : Shared) (σ : St) (H : Hp) (D : Ends), Inv X pins σ H s → t D σ H → wpAny (model X.prog X.w) X.A (execs st X.env) (SP X pins D) X.xe s
/-- weaken the end -/
theorem thn {α : Type} {t : Sem α} {Q Q' : α → Shared → Prop} {M : Model} {A : Around} {E : Value → Shared → Prop} {s : Shared} (h : wpAny M A t Q E s) (hQ : ∀ a s, Q a s → Q' a s) : wpAny M A t Q' E s := wpAny_mono h hQ fun _ _ x => x
end L2

namespace L2
open PySem PySem.Spec PyProof.Rows
section
variable {X : Cx}

/-! ### names and constants -/
def tVar (i : Nat) : TE := fun σ H Q => ∃ v, σ[i]? = some (some v) ∧ Q v H
def tC (v : V) : TE := fun _ H Q => Q v H
theorem pe_var {i : Nat} {x : Str} {pos : Pos} (hN : X.N[i]? = some x) (hv : Vis X.env.scope x) (hd : (x == ("__debug__" : Str)) = false := by decide) (hcd : (x == ("__classdict__" : Str)) = false := by decide) : PE X (.Name x pos) (tVar i) := by
  intro pins s σ H Q I h
  obtain ⟨v, e, h⟩ := h
  obtain ⟨m, hn, hl⟩ := I.loc
  obtain ⟨u, r, l⟩ := hl i x v hN e hv
  have fin : EP X pins σ Q u s := ⟨v, H, I, r, h⟩
  rcases l with ⟨hk, hm⟩ | ⟨hk, c, hc, hcell⟩
  · exact wpAny_Name (wpAny_loadName_local I.ok.kind hk hn hm fin) hd
  · rcases hk with hk | hk
    · exact wpAny_Name (wpAny_loadName_cell I.ok.kind hk hc hcell fin) hd
    · exact wpAny_Name (wpAny_loadName_free I.ok.kind hk hc hcell fin hcd) hd
theorem pe_int {i j pos} : PE X (.Constant (.int i) j pos) (tC (.int i)) := fun _ _ _ H _ I h => wpAny_Constant_int ⟨.int i, H, I.tok _, ⟨_, rfl⟩, h⟩
theorem pe_bl {b j pos} : PE X (.Constant (.bool b) j pos) (tC (.bl b)) := fun _ _ _ H _ I h => Constant_bool ⟨.bl b, H, I, rfl, h⟩
/-- a global name of the def -/
def Gl (X : Cx) (x : Str) : Prop := X.env.kindOf x = some .globalImplicit
theorem ld_glob {E : Value → Shared → Prop} {pins : List (Addr × Obj)} {s : Shared} {σ : St} {H : Hp} {x : Str} {u : Value} {pos : Pos} {Q : Value → Shared → Prop} (I : Inv X pins σ H s) (hg : Gl X x) (hm : X.mg x = some u) (h : Q u s)
    (hd : (x == ("__debug__" : Str)) = false := by decide) : wpAny (model X.prog X.w) X.A (eval (.Name x pos) X.env) Q E s :=
  Calls.Name_function_global I.ok.kind hg (Calls.loadGlobal_global (by rw [I.ok.glob]; exact I.mod.glob.keeps I.bk) hm h) hd
theorem ld_blt {E : Value → Shared → Prop} {pins : List (Addr × Obj)} {s : Shared} {σ : St} {H : Hp} {x : Str} {u : Value} {pos : Pos} {Q : Value → Shared → Prop} (I : Inv X pins σ H s) (hg : Gl X x) (hm : X.mg x = none) (hv : bootBuiltins x = some u) (h : Q u s)
    (hn : x ≠ "__name__" := by decide) (hd : (x == ("__debug__" : Str)) = false := by decide) : wpAny (model X.prog X.w) X.A (eval (.Name x pos) X.env) Q E s := by
  obtain ⟨mb, h1, h2⟩ := I.mod.blt
  exact Calls.Name_function_global I.ok.kind hg (Calls.loadGlobal_builtin (by rw [I.ok.glob]; exact I.mod.glob.keeps I.bk) hm (by rw [I.ok.blt]; exact h1.keeps I.bk) ((h2 x hn).trans hv) h) hd
/-! ### arithmetic -/
variable {a b : Expr} {ta tb : TE} {pos : Pos}
/-! ### comparisons -/
/-! ### and, or, not -/
variable {tA tB' : TT} {rest : List Expr}
def tAnd (t u : TT) : TT := fun σ H Q => t σ H fun c H1 => if c = true then u σ H1 Q else Q false H1
def tOr (t u : TT) : TT := fun σ H Q => t σ H fun c H1 => if c = true then Q true H1 else u σ H1 Q
theorem pw_and1 (ha : PT X a tA) : PW X (.BoolOp .And [a] pos) tA := by
  intro wh pins s σ H Q I h
  refine isTrue_and (thn (ha pins s σ H Q I h) fun c s1 e => ?_)
  cases c with
  | true => exact isTrue_and_nil e
  | false => exact e
theorem pw_or1 (ha : PT X a tA) : PW X (.BoolOp .Or [a] pos) tA := by
  intro wh pins s σ H Q I h
  refine isTrue_or (thn (ha pins s σ H Q I h) fun c s1 e => ?_)
  cases c with
  | false => exact isTrue_or_nil e
  | true => exact e
theorem pw_and (ha : PT X a tA) (hb : PW X (.BoolOp .And (b :: rest) pos) tB') : PW X (.BoolOp .And (a :: b :: rest) pos) (tAnd tA tB') := by
  intro wh pins s σ H Q I h
  refine isTrue_and (thn (ha pins s σ H _ I h) fun c s1 ⟨H1, I1, q1⟩ => ?_)
  cases c with
  | true => exact hb wh pins s1 σ H1 Q I1 q1
  | false => exact ⟨H1, I1, q1⟩
theorem pw_or (ha : PT X a tA) (hb : PW X (.BoolOp .Or (b :: rest) pos) tB') : PW X (.BoolOp .Or (a :: b :: rest) pos) (tOr tA tB') := by
  intro wh pins s σ H Q I h
  refine isTrue_or (thn (ha pins s σ H _ I h) fun c s1 ⟨H1, I1, q1⟩ => ?_)
  cases c with
  | true => exact ⟨H1, I1, q1⟩
  | false => exact hb wh pins s1 σ H1 Q I1 q1
end
end L2

namespace L2
open PySem PySem.Spec PyProof.Rows

/-! ### a list, a tuple that is read: tracked, frozen, or an object of the module -/
def SqL (K : PySem.W.Frag) (H : Hp) (a : Addr) (xs : List V) : Prop :=
  Rd H a (.lst xs) ∨
    ∃ (o : Obj) (its : Array Value) (n : Nat), K.lookup a = some o ∧ o.cls = .type "list" ∧ o.dict = none ∧ o.data = .seq its n ∧ its.size ≤ sizeLine ∧ Vals xs its.toList
def SqT (K : PySem.W.Frag) (H : Hp) (a : Addr) (xs : List V) : Prop :=
  Rd H a (.tup xs) ∨
    ∃ (o : Obj) (its : Array Value) (n : Nat), K.lookup a = some o ∧ o.cls = .type "tuple" ∧ o.data = .seq its n ∧ its.size ≤ sizeLine ∧ Vals xs its.toList
def absV : Value → Option V
  | .none => some .non
  | .bool b => some (.bl b)
  | .int i _ => some (.int i)
  | .str x _ => some (.str x)
  | .bytes b _ => some (.byt b)
  | .float b _ => some (.flt b)
  | .ref a => some (.ref a)
  | .type n => some (.ty n)
  | _ => none
theorem RelV.abs {x : V} {u : Value} (r : RelV x u) : absV u = some x := by
  cases x with
  | non => cases r; rfl
  | bl _ => cases r; rfl
  | int _ => obtain ⟨t, rfl⟩ := r; rfl
  | str _ => obtain ⟨t, rfl⟩ := r; rfl
  | byt _ => obtain ⟨t, rfl⟩ := r; rfl
  | flt _ => obtain ⟨t, rfl⟩ := r; rfl
  | ref _ => cases r; rfl
  | ty _ => cases r; rfl
theorem RelV.inj {x y : V} {u : Value} (r : RelV x u) (q : RelV y u) : x = y := Option.some.inj (r.abs.symm.trans q.abs)
theorem Vals.inj : ∀ {xs ys : List V} {us : List Value}, Vals xs us → Vals ys us → xs = ys
  | _, _, _, .nil, .nil => rfl
  | _, _, _, .cons r t, .cons r' t' => by rw [r.inj r', Vals.inj t t']
section
variable {X : Cx} {pins : List (Addr × Obj)} {σ : St} {H : Hp} {s : Shared} {a : Addr} {xs ys : List V}
theorem SqL.of {K : PySem.W.Frag} (h : H a = some (.lst xs)) : SqL K H a xs := .inl (.inl h)
theorem SqT.of {K : PySem.W.Frag} (h : H a = some (.tup xs)) : SqT K H a xs := .inl (.inl h)
theorem Inv.list (I : Inv X pins σ H s) (h : SqL X.K H a xs) : ∃ its : List Value, Vals xs its ∧ PlainL s.heap a its.toArray ∧ xs.length ≤ sizeLine := by
  rcases h with h | ⟨o, its, n, hk, hc, hd, hs, hz, r⟩
  · obtain ⟨z, its, n, r, e⟩ := h.ok I.hok
    exact ⟨its, r, ⟨_, n, e, rfl, rfl, rfl⟩, z⟩
  · refine ⟨its.toList, r, ⟨o, n, I.kIn a o hk, hc, hd, by simpa using hs⟩, ?_⟩
    have e := r.length
    simp only [Array.length_toList] at e
    omega
theorem Inv.tuple (I : Inv X pins σ H s) (h : SqT X.K H a xs) : ∃ its : List Value, Vals xs its ∧ IsTup s.heap a its.toArray ∧ xs.length ≤ sizeLine := by
  rcases h with h | ⟨o, its, n, hk, hc, hs, hz, r⟩
  · obtain ⟨z, its, r, p⟩ := h.ok I.hok
    exact ⟨its, r, p, z⟩
  · refine ⟨its.toList, r, ⟨o, I.kIn a o hk, hc, n, by simpa using hs⟩, ?_⟩
    have e := r.length
    simp only [Array.length_toList] at e
    omega
theorem Inv.list_inj (I : Inv X pins σ H s) (h : SqL X.K H a xs) (h' : SqL X.K H a ys) : xs = ys := by
  obtain ⟨its, r, ⟨o, n, e, _, _, d⟩, _⟩ := I.list h
  obtain ⟨its', r', ⟨o', n', e', _, _, d'⟩, _⟩ := I.list h'
  rw [e] at e'; cases e'
  rw [d] at d'
  injection d' with d1 _
  have : its = its' := by simpa using congrArg Array.toList d1
  subst this
  exact r.inj r'
theorem Inv.tuple_inj (I : Inv X pins σ H s) (h : SqT X.K H a xs) (h' : SqT X.K H a ys) : xs = ys := by
  obtain ⟨its, r, ⟨o, e, _, n, d⟩, _⟩ := I.tuple h
  obtain ⟨its', r', ⟨o', e', _, n', d'⟩, _⟩ := I.tuple h'
  rw [e] at e'; cases e'
  rw [d] at d'
  injection d' with d1 _
  have : its = its' := by simpa using congrArg Array.toList d1
  subst this
  exact r.inj r'
end

/-! ### another wish about exceptions -/
abbrev Cx.wish (X : Cx) (E : Value → Shared → Prop) : Cx := { X with xe := E }
/-- no exception leaves -/
abbrev Cx.nox (X : Cx) : Cx := X.wish fun _ _ => False
theorem Cx.Ok.wish {X : Cx} (ok : X.Ok) (E : Value → Shared → Prop) : (X.wish E).Ok :=
  ⟨ok.mod, ok.kind, ok.glob, ok.blt, ok.above, ok.inj, ok.has, ok.cab, ok.hd, ok.frames, ok.stk, ok.exf, ok.bs, ok.bsz, ok.noex, ok.exfs, ok.funs, ok.frf⟩
theorem Cx.Ok.unwish {X : Cx} {E : Value → Shared → Prop} (ok : (X.wish E).Ok) : X.Ok :=
  ⟨ok.mod, ok.kind, ok.glob, ok.blt, ok.above, ok.inj, ok.has, ok.cab, ok.hd, ok.frames, ok.stk, ok.exf, ok.bs, ok.bsz, ok.noex, ok.exfs, ok.funs, ok.frf⟩
section
variable {X : Cx} {pins : List (Addr × Obj)} {σ : St} {H : Hp} {s : Shared} {E : Value → Shared → Prop}
theorem Inv.wish (I : Inv X pins σ H s) (E : Value → Shared → Prop) : Inv (X.wish E) pins σ H s := ⟨I.ok.wish E, I.os, I.bare, I.base, I.loc, I.cell, I.free, I.freeC, I.pin, I.hok, I.len⟩
theorem Inv.unwish (I : Inv (X.wish E) pins σ H s) : Inv X pins σ H s := ⟨I.ok.unwish, I.os, I.bare, I.base, I.loc, I.cell, I.free, I.freeC, I.pin, I.hok, I.len⟩
theorem SP.unwish {D : Ends} {f : Flow} {s' : Shared} (h : SP (X.wish E) pins D f s') : SP X pins D f s' := by
  cases f with
  | next => obtain ⟨σ', H', I, q⟩ := h; exact ⟨σ', H', I.unwish, q⟩
  | brk => obtain ⟨σ', H', I, q⟩ := h; exact ⟨σ', H', I.unwish, q⟩
  | cont => obtain ⟨σ', H', I, q⟩ := h; exact ⟨σ', H', I.unwish, q⟩
  | ret u => obtain ⟨v, σ', H', I, r, q⟩ := h; exact ⟨v, σ', H', I.unwish, r, q⟩
theorem PE.nox {e : Expr} {t : TE} (h : PE X.nox e t) : PE X e t := fun pins s σ H Q I hw =>
  wpAny_mono (h pins s σ H Q (I.wish _) hw) (fun _ _ ⟨v, H', I', r, q⟩ => ⟨v, H', I'.unwish, r, q⟩) fun _ _ z => False.elim z
theorem PT.nox {e : Expr} {t : TT} (h : PT X.nox e t) : PT X e t := fun pins s σ H Q I hw =>
  wpAny_mono (h pins s σ H Q (I.wish _) hw) (fun _ _ ⟨H', I', q⟩ => ⟨H', I'.unwish, q⟩) fun _ _ z => False.elim z
theorem PSs.nox {st : List Stmt} {t : TS} (h : PSs X.nox st t) : PSs X st t := fun pins s σ H D I hw =>
  wpAny_mono (h pins s σ H D (I.wish _) hw) (fun _ _ q => q.unwish) fun _ _ z => False.elim z
end

/-! ### blocks and small statements -/
section
variable {X : Cx} {st : Stmt} {rest : List Stmt} {t u : TS} {e : Expr} {te : TE} {pos : Pos}
def tNext : TS := fun D σ H => D.nx σ H
def tSeq (t u : TS) : TS := fun D σ H => t { D with nx := u D } σ H
theorem pss_nil : PSs X [] tNext := fun _ _ σ H _ I h => wpAny_execs_nil ⟨σ, H, I, h⟩
theorem pss_cons (h1 : PS X st t) (h2 : PSs X rest u) : PSs X (st :: rest) (tSeq t u) := by
  intro pins s σ H D I h
  refine wpAny_execs_cons (thn (h1 pins s σ H { D with nx := u D } I h) fun f s1 q => ?_)
  cases f with
  | next =>
    obtain ⟨σ', H', I', q⟩ := q
    exact h2 pins s1 σ' H' D I' q
  | ret v => exact q
  | brk => exact q
  | cont => exact q
theorem pss_one (h1 : PS X st t) : PSs X [st] t := by
  intro pins s σ H D I h
  refine wpAny_execs_cons (thn (h1 pins s σ H D I h) fun f s1 q => ?_)
  cases f with
  | next => exact wpAny_execs_nil q
  | ret v => exact q
  | brk => exact q
  | cont => exact q
/-- in a def's body nothing is shown -/
theorem Inv.quiet {pins : List (Addr × Obj)} {σ : St} {H : Hp} {s : Shared} (I : Inv X pins σ H s) : interactive X.env = false := by simp [interactive, I.ok.kind]
/-- an expression whose value is dropped -/
def tDrop (te : TE) : TS := fun D σ H => te σ H fun _ H1 => D.nx σ H1
theorem ps_expr (he : PE X e te) (hs : swapsWith e none pos.line X.env = pure false := by rfl) : PS X (.Expr e pos) (tDrop te) := by
  intro pins s σ H D I h
  exact wpAny_Expr_any (thn (he pins s σ H _ I h) fun v s1 ⟨x, H1, I1, r1, q1⟩ => ⟨σ, H1, I1, q1⟩) I.quiet hs
def tRet (te : TE) : TS := fun D σ H => te σ H D.rt
theorem ps_ret (he : PE X e te) : PS X (.Return (some e) pos) (tRet te) := by
  intro pins s σ H D I h
  exact wpAny_Return_some (thn (he pins s σ H _ I h) fun v s1 ⟨x, H1, I1, r1, q1⟩ => ⟨x, σ, H1, I1, r1, q1⟩)
def tIfS (c : TT) (t u : TS) : TS := fun D σ H => c σ H fun b H1 => if b = true then t D σ H1 else u D σ H1
theorem ps_if {c : Expr} {a b : List Stmt} {tc : TT} (hc : PT X c tc) (ha : PSs X a t) (hb : PSs X b u) : PS X (.If c a b pos) (tIfS tc t u) := by
  intro pins s σ H D I h
  refine wpAny_If (thn (hc pins s σ H _ I h) fun d s1 ⟨H1, I1, q1⟩ => ?_)
  cases d with
  | true => exact ha pins s1 σ H1 D I1 q1
  | false => exact hb pins s1 σ H1 D I1 q1
/-- code that the proof never comes to -/
def tNever : TS := fun _ _ _ => False
theorem ps_never : PS X st tNever := fun _ _ _ _ _ _ h => h.elim
end

/-! ### targets -/
abbrev TG := V → St → Hp → (St → Hp → Prop) → Prop
abbrev TGs := List V → St → Hp → (St → Hp → Prop) → Prop
def PG (X : Cx) (target : Expr) (t : TG) : Prop :=
  ∀ (pins : List (Addr × Obj)) (s : Shared) (σ : St) (H : Hp) (v : V) (u : Value) (Q : St → Hp → Prop), Inv X pins σ H s → RelV v u → t v σ H Q →
    wpAny (model X.prog X.w) X.A (assign target X.env u) (fun _ s' => ∃ σ' H', Inv X pins σ' H' s' ∧ Q σ' H') X.xe s
/-- several targets, one after another -/
def PGs (X : Cx) (ts : List Expr) (t : TGs) : Prop :=
  ∀ (pins : List (Addr × Obj)) (s : Shared) (σ : St) (H : Hp) (vs : List V) (us : List Value) (Q : St → Hp → Prop), Inv X pins σ H s → Vals vs us → t vs σ H Q →
    wpAny (model X.prog X.w) X.A (assignInOrder ((assignEach ts X.env).map (·.2)) us) (fun _ s' => ∃ σ' H', Inv X pins σ' H' s' ∧ Q σ' H') X.xe s
section
variable {X : Cx} {pos : Pos}
def gName (i : Nat) : TG := fun v σ H Q => Q (σ.set i (some v)) H
theorem pg_name {i : Nat} {x : Str} (hN : X.N.Nodup) (hi : X.N[i]? = some x) (hx : Loc X.env.scope x) (hf : X.fn x = true ∨ X.env.scope.names.lookup x = some .local := by first | exact .inl rfl | exact .inr rfl | assumption) : PG X (.Name x pos) (gName i) := by
  intro pins s σ H v u Q I r h
  exact wpAny_assign_Name (store_ok I hN hi hx r (fun s' I' => ⟨_, H, I', h⟩) hf)
def gNil : TGs := fun vs σ H Q => vs = [] ∧ Q σ H
def gCons (t : TG) (u : TGs) : TGs := fun vs σ H Q => ∃ v r, vs = v :: r ∧ t v σ H fun σ' H' => u r σ' H' Q
theorem pgs_nil : PGs X [] gNil := by
  intro pins s σ H vs us Q I r h
  obtain ⟨e, h⟩ := h
  subst e
  cases r
  exact assignInOrder_nil ⟨σ, H, I, h⟩
theorem pgs_cons {e : Expr} {es : List Expr} {t : TG} {u : TGs} (h1 : PG X e t) (h2 : PGs X es u)
    (hs : (assignEach (e :: es) X.env).map (·.2) = assign e X.env :: (assignEach es X.env).map (·.2) := by rfl) : PGs X (e :: es) (gCons t u) := by
  intro pins s σ H vs us Q I r h
  obtain ⟨v, vr, e1, h⟩ := h
  subst e1
  cases r with
  | cons r rr =>
    rw [hs]
    refine assignInOrder_cons (thn (h1 pins s σ H _ _ _ I r h) fun _ s1 ⟨σ1, H1, I1, q1⟩ => ?_)
    exact h2 pins s1 σ1 H1 _ _ Q I1 rr q1
/-- (a, b, ..) = a tuple of that length -/
def gTup (K : PySem.W.Frag) (n : Nat) (t : TGs) : TG := fun v σ H Q => ∃ a xs, v = .ref a ∧ SqT K H a xs ∧ xs.length = n ∧ t xs σ H Q
theorem pg_tup {es : List Expr} {k : Nat} {t : TGs} {n : Nat} (hc : X.calm = true) (h : PGs X es t)
    (hn : (assignEach es X.env).length = n := by rfl) (hst : (assignEach es X.env).findIdx? (·.1) = none := by rfl) : PG X (.Tuple es k pos) (gTup X.K n t) := by
  intro pins s σ H v u Q I r hw
  obtain ⟨a, xs, e1, hq, hl, hw⟩ := hw
  subst e1
  cases r
  obtain ⟨its, rv, ht, hz⟩ := I.tuple hq
  refine assign_Tuple_tuple (I.ok.hd hc) ht (by simp [hn, ← hl, rv.length]) hst fun h' hx => ?_
  have I1 : Inv X pins σ H { s with heap := h' } := I.kept (t' := s.toks) fun b o e => hx b o (Nat.ne_of_lt (Heap.lt_size e)) e
  exact h pins _ σ H xs _ Q I1 (by simpa using rv) hw
/-- target = value -/
def tAsg (te : TE) (g : TG) : TS := fun D σ H => te σ H fun x H1 => g x σ H1 D.nx
theorem ps_asg {tg e : Expr} {te : TE} {g : TG} (he : PE X e te) (hg : PG X tg g) (hs : swapsWithSole [tg] e pos.line X.env = pure false := by rfl) (hw : swappedStores [tg] e X.env = pure none := by rfl)
    (h1 : (assignEach [tg] X.env).map (·.2) = [assign tg X.env] := by rfl) : PS X (.Assign [tg] e pos) (tAsg te g) := by
  intro pins s σ H D I h
  refine wpAny_Assign_stores (thn (he pins s σ H _ I h) fun v s1 ⟨x, H1, I1, r1, q1⟩ => ?_) hs hw
  rw [h1]
  exact thn (hg pins s1 σ H1 x v _ I1 r1 q1) fun _ s2 q => q
/-- name = value -/
theorem ps_set {i : Nat} {x : Str} {e : Expr} {te : TE} {pos' : Pos} (hN : X.N.Nodup) (hi : X.N[i]? = some x) (hx : Loc X.env.scope x) (he : PE X e te) (hs : swapsWith e (some (.Name x pos')) pos.line X.env = pure false := by rfl) (hf : X.fn x = true ∨ X.env.scope.names.lookup x = some .local := by first | exact .inl rfl | exact .inr rfl | assumption) :
    PS X (.Assign [.Name x pos'] e pos) (tAsg te (gName i)) := by
  intro pins s σ H D I h
  refine wpAny_Assign_Name (thn (he pins s σ H _ I h) fun v s1 ⟨y, H1, I1, r1, q1⟩ => ?_) hs
  exact store_ok I1 hN hi hx r1 (fun s2 I2 => ⟨_, H1, I2, q1⟩) hf
end

/-! ### while -/
section
variable {X : Cx} {pos : Pos}
/-- the invariant W with its measure -/
def tWhile (c : TT) (tb : TS) : TS := fun D σ H => ∃ W : Nat → St → Hp → Prop, (∃ m, W m σ H) ∧ ∀ m σ H, W m σ H →
  c σ H fun b H1 => if b = true then ∃ N : St → Hp → Prop, (∀ σ' H', N σ' H' → ∃ m', m' < m ∧ W m' σ' H') ∧ tb { D with nx := N, ct := N, bk := D.nx } σ H1 else D.nx σ H1
theorem ps_while {c : Expr} {body : List Stmt} {tc : TT} {tb : TS} (hp : PassesOwn (model X.prog X.w) X.A X.env X.xe) (hc : PT X c tc) (hb : PSs X body tb) : PS X (.While c body [] pos) (tWhile tc tb) := by
  intro pins s σ H D I h
  obtain ⟨W, ⟨m0, w0⟩, turn⟩ := h
  refine wpAny_While (codeAny_whileLoop (fun n s' => ∃ σ' H', Inv X pins σ' H' s' ∧ W n σ' H') ?_ m0 ⟨σ, H, I, w0⟩)
  rintro n s1 ⟨σ1, H1, I1, w1⟩
  refine wpAny_passesOwn hp (thn (hc pins s1 σ1 H1 _ I1 (turn n σ1 H1 w1)) fun b s2 ⟨H2, I2, q2⟩ => ?_)
  cases b with
  | true =>
    obtain ⟨N, hN, q2⟩ := q2
    rw [if_pos rfl]
    refine wpAny_passesOwn hp (thn (hb pins s2 σ1 H2 _ I2 q2) fun f s3 q3 => ?_)
    cases f with
    | next =>
      obtain ⟨σ3, H3, I3, n3⟩ := q3
      obtain ⟨m', hm, w3⟩ := hN σ3 H3 n3
      exact ⟨m', hm, σ3, H3, I3, w3⟩
    | cont =>
      obtain ⟨σ3, H3, I3, n3⟩ := q3
      obtain ⟨m', hm, w3⟩ := hN σ3 H3 n3
      exact ⟨m', hm, σ3, H3, I3, w3⟩
    | brk => exact q3
    | ret v => exact q3
  | false =>
    rw [if_neg Bool.false_ne_true]
    exact wpAny_execs_nil ⟨σ1, H2, I2, q2⟩
end

/-! ### what a loop or a comprehension walks -/
/-- at turn i: it yields x (the heap may grow), or it stops -/
structure It where
  go : Nat → Hp → Prop
  yld : Nat → Hp → V → Hp → Prop
  stop : Nat → Hp → Prop
/-- the iterator's own objects may turn: they are not the frame's, not pinned, younger than the entry (or a comprehension's own) -/
def FpOk (X : Cx) (pins : List (Addr × Obj)) (H : Hp) (b : Addr) : Prop :=
  H b = none ∧ b ≠ X.env.locals ∧ b ∉ X.fs ∧ (b ∈ X.ex ∨ X.s₀.heap.objs.size ≤ b) ∧ (∀ x c, X.env.cells.lookup x = some c → c ≠ b) ∧ ∀ p ∈ X.pn ++ pins, p.1 ≠ b
theorem Inv.fpOk {X : Cx} {pins : List (Addr × Obj)} {σ : St} {H H' : Hp} {s : Shared} {b : Addr} (I : Inv X pins σ H s) (hb : s.heap.objs.size ≤ b) (hn : H' b = none) : FpOk X pins H' b := by
  refine ⟨hn, Nat.ne_of_gt (Nat.lt_of_lt_of_le I.lt hb), I.nofs hb, .inr (Nat.le_trans I.sz hb), fun x c e z => ?_, fun p hp z => ?_⟩
  · obtain ⟨v, q⟩ := I.cell x c e
    exact absurd (Nat.lt_of_lt_of_le q.lt (by rw [z]; exact hb)) (Nat.lt_irrefl _)
  · exact absurd (Nat.lt_of_lt_of_le (Heap.lt_size (I.pin p hp).1) (by rw [z]; exact hb)) (Nat.lt_irrefl _)
structure Turn (P : Program) (w : World) (K : PySem.W.Frag) (tg : Expr) (J : It) (fp : List Addr) (it : Addr) (tn : Nat → Heap → Prop) : Prop where
  mem : it ∈ fp
  obj : ∀ i h, tn i h → ∀ b ∈ fp, ∃ o, h.get? b = some o ∧ ∀ v, o.data ≠ .cell v
  keep : ∀ i h h', tn i h → (∀ b ∈ fp, ∀ o, h.get? b = some o → h'.get? b = some o) → tn i h'
  item : ∀ (X : Cx), X.prog = P → X.w = w → X.K = K → X.calm = true → ∀ (i : Nat) (pins : List (Addr × Obj)) (s : Shared) (σ : St) (H : Hp) (E : Value → Shared → Prop), Inv X pins σ H s → (∀ b ∈ fp, FpOk X pins H b) → tn i s.heap → J.go i H →
    wpAny (model P w) X.A (pyNext (.ref it)) (fun r s1 => ∃ u, r = some u ∧
      wpAny (model P w) X.A (letOwnedTupleGo tg (.ref it) u) (fun _ s2 => ∃ x H', Inv X pins σ H' s2 ∧ RelV x u ∧ J.yld i H x H' ∧ tn (i + 1) s2.heap ∧ ∀ b ∈ fp, H' b = none) E s1) E s
  done : ∀ (X : Cx), X.prog = P → X.w = w → X.K = K → X.calm = true → ∀ (i : Nat) (pins : List (Addr × Obj)) (s : Shared) (σ : St) (H : Hp) (E : Value → Shared → Prop), Inv X pins σ H s → (∀ b ∈ fp, FpOk X pins H b) → tn i s.heap → J.stop i H →
    wpAny (model P w) X.A (pyNext (.ref it)) (fun r s1 => r = none ∧ Inv X pins σ H s1) E s
  self : ∀ (A : Around) (i : Nat) (s : Shared) (Q : Value → Shared → Prop) (E : Value → Shared → Prop), tn i s.heap → Q (.ref it) s → wpAny (model P w) A (pyIter (.ref it)) Q E s
abbrev TI := St → Hp → (It → Hp → Prop) → Prop
/-- an iterator has come -/
def PIE (X : Cx) (pins : List (Addr × Obj)) (σ : St) (tg : Expr) (R : It → Hp → Prop) (itv : Value) (s2 : Shared) : Prop :=
  ∃ (it : Addr) (fp : List Addr) (tn : Nat → Heap → Prop) (J : It) (H' : Hp), itv = .ref it ∧ Inv X pins σ H' s2 ∧ Turn X.prog X.w X.K tg J fp it tn ∧ tn 0 s2.heap ∧ (∀ b ∈ fp, FpOk X pins H' b) ∧ R J H'
def PI (X : Cx) (tg iter : Expr) (wi : TI) : Prop :=
  ∀ (pins : List (Addr × Obj)) (s : Shared) (σ : St) (H : Hp) (R : It → Hp → Prop), Inv X pins σ H s → wi σ H R →
    wpAny (model X.prog X.w) X.A (eval iter X.env) (fun v s1 => wpAny (model X.prog X.w) X.A (pyIter v) (PIE X pins σ tg R) X.xe s1) X.xe s

/-- the step ahead of the store is nothing for an iterator that keeps no tuple -/
theorem go_of {M : Model} {A : Around} {E : Value → Shared → Prop} {s : Shared} {tg : Expr} {it : Addr} {u : Value} {o : Obj} {n : String} {vs : Array Value} {Q : Unit → Shared → Prop} (ho : s.heap.get? it = some o) (hc : o.cls = .type n) (hd : o.data = .fields vs)
    (hn : ["enumerate", "zip", "dict_itemiterator", "dict_reverseitemiterator", "odict_iterator", "itertools.zip_longest", "itertools.pairwise"].contains n = false) (hQ : Q () s) : wpAny M A (letOwnedTupleGo tg (.ref it) u) Q E s := by
  unfold letOwnedTupleGo
  cases tg <;> first
    | exact wpAny_pure hQ
    | (cases u <;> first
        | exact wpAny_pure hQ
        | (refine wpAny_bind (wpAny_load ho ?_)
           rw [hc, hd]
           show wpAny M A (if (["enumerate", "zip", "dict_itemiterator", "dict_reverseitemiterator", "odict_iterator", "itertools.zip_longest", "itertools.pairwise"].contains n && vs[0]? == some (rawInt _)) = true then _ else _) Q E s
           rw [if_neg (by intro h; rw [hn, Bool.false_and] at h; cases h)]
           exact wpAny_pure hQ))

/-- the list at a, as it stands at each turn (a loop may append to it) -/
def Itl (K : PySem.W.Frag) (a : Addr) : It :=
  ⟨fun i H => ∃ xs x, SqL K H a xs ∧ xs[i]? = some x, fun i H x H' => H' = H ∧ ∀ xs, SqL K H a xs → xs[i]? = some x, fun i H => ∃ xs, SqL K H a xs ∧ xs.length ≤ i⟩
/-- lo, lo + 1, .. (n of them) -/
def Itr (lo : Int) (n : Nat) : It := ⟨fun i _ => i < n, fun i H x H' => H' = H ∧ x = .int (lo + i), fun i _ => n ≤ i⟩
theorem turn_list {P : Program} {w : World} {K : PySem.W.Frag} {tg : Expr} (a it : Addr) : Turn P w K tg (Itl K a) [it] it (fun i h => h.IsListIter it a i) where
  mem := by simp
  obj := fun i h st b hb => by
    have e : b = it := by simpa using hb
    subst e
    obtain ⟨o, e, c, d⟩ := st
    exact ⟨o, e, fun v z => by rw [d] at z; cases z⟩
  keep := fun i h h' st k => st.at fun o e => k it (by simp) o e
  item := by
    intro X hP hw hK hc i pins s σ H E I hf st hg
    subst hP hw hK
    obtain ⟨xs, x, hq, hx⟩ := hg
    obtain ⟨its, rv, p, hz⟩ := I.list hq
    obtain ⟨u, hu, ru⟩ := rv.get hx
    obtain ⟨f0, f1, f2, f3, f4, f5⟩ := hf it (by simp)
    refine wpAny_pyNext_list_item st p.isList (x := u) (by simpa using hu) fun h' st' sb => ?_
    have I1 : Inv X pins σ H { s with heap := h' } := I.turned (t' := s.toks) (fun b o hb e => (sb.2 b hb).trans e) f0 f1 f3 f4 f5
    obtain ⟨o, e, c, d⟩ := id st'
    exact ⟨u, rfl, go_of (s := { s with heap := h' }) e c d (by decide) ⟨x, H, I1, ru, ⟨rfl, fun ys hy => by rw [I.list_inj hy hq]; exact hx⟩, st', fun b hb => (hf b hb).1⟩⟩
  done := by
    intro X hP hw hK hc i pins s σ H E I hf st hg
    subst hP hw hK
    obtain ⟨xs, hq, hx⟩ := hg
    obtain ⟨its, rv, p, hz⟩ := I.list hq
    obtain ⟨f0, f1, f2, f3, f4, f5⟩ := hf it (by simp)
    have hl := rv.length
    exact wpAny_pyNext_list_end (I.ok.hd hc) st p.isList (by simp; omega) fun h' eb => ⟨rfl, I.turned (t' := s.toks) (fun b o hb e => eb b o hb e) f0 f1 f3 f4 f5⟩
  self := fun _ _ _ _ _ st h => wpAny_pyIter_listiter st h
theorem turn_range {P : Program} {w : World} {K : PySem.W.Frag} {tg : Expr} (it : Addr) (lo : Int) (n : Nat) : Turn P w K tg (Itr lo n) [it] it (fun i h => IsRangeIter h it (lo + (i : Nat) * 1) ((n : Int) - (i : Nat)) 1) where
  mem := by simp
  obj := fun i h st b hb => by
    have e : b = it := by simpa using hb
    subst e
    exact ⟨_, st, fun v z => by
      have z' : Data.fields _ = Data.cell v := z
      cases z'⟩
  keep := fun i h h' st k => k it (by simp) _ st
  item := by
    intro X hP hw hK hc i pins s σ H E I hf st hg
    subst hP hw hK
    obtain ⟨f0, f1, f2, f3, f4, f5⟩ := hf it (by simp)
    have W := Walks.range (prog := X.prog) (w := X.w) (I.ok.hd hc) it lo 1 n
    refine W.item i s _ _ hg st fun v h' tk hv st' kk => ?_
    obtain ⟨t, rfl⟩ := hv
    have I1 : Inv X pins σ H { s with heap := h', toks := tk } := I.turned (fun b o hb e => kk b o (by simpa using hb) e) f0 f1 f3 f4 f5
    refine ⟨_, rfl, go_of (s := { s with heap := h', toks := tk }) (n := "range_iterator") st' rfl rfl (by decide) ⟨.int (lo + i), H, I1, ⟨t, ?_⟩, ⟨rfl, rfl⟩, st', fun b hb => (hf b hb).1⟩⟩
    rw [Int.mul_one]
  done := by
    intro X hP hw hK hc i pins s σ H E I hf st hg
    subst hP hw hK
    obtain ⟨f0, f1, f2, f3, f4, f5⟩ := hf it (by simp)
    exact wpAny_pyNext_range_end (I.ok.hd hc) st (by have : n ≤ i := hg; omega) fun h' eb => ⟨rfl, I.turned (t' := s.toks) (fun b o hb e => eb b o hb e) f0 f1 f3 f4 f5⟩
  self := fun _ _ _ _ _ st h => wpAny_pyIter_rangeiter st h
end L2

namespace L2
open PySem PySem.Spec PyProof.Rows
section
variable {X : Cx} {tg : Expr}
def iList (K : PySem.W.Frag) (tl : TE) : TI := fun σ H R => tl σ H fun x H1 => ∃ a, x = .ref a ∧ (∃ xs, SqL K H1 a xs) ∧ R (Itl K a) H1
theorem pi_list {l : Expr} {tl : TE} (hl : PE X l tl) : PI X tg l (iList X.K tl) := by
  intro pins s σ H R I h
  refine thn (hl pins s σ H _ I h) fun v s1 ⟨x, H1, I1, r1, q1⟩ => ?_
  obtain ⟨a, e, ⟨xs, hq⟩, q⟩ := q1
  subst e
  cases r1
  obtain ⟨its, rv, p, hz⟩ := I1.list hq
  refine wpAny_pyIter_list p.isList ?_
  refine ⟨s1.heap.objs.size, [s1.heap.objs.size], _, _, H1, rfl, I1.kept (t' := s1.toks) fun b o e => Heap.get?_push_of_some _ e, turn_list a _, ⟨_, Heap.get?_push_size _ rfl, rfl, rfl⟩, fun b hb => ?_, q⟩
  have e : b = s1.heap.objs.size := by simpa using hb
  subst e
  exact I1.fpOk (Nat.le_refl _) (I1.hok.fresh (Nat.le_refl _))
/-- a range object just made, walked -/
theorem range_it {pins : List (Addr × Obj)} {σ : St} {H : Hp} {s : Shared} {R : It → Hp → Prop} {E : Value → Shared → Prop} {lo hi : Int} {t u v : Tok} {tk : Nat} (I : Inv X pins σ H s) (h1 : -(2 ^ 62) ≤ lo) (h2 : lo < 2 ^ 62) (h3 : -(2 ^ 62) ≤ hi) (h4 : hi < 2 ^ 62)
    (q : R (Itr lo (hi - lo).toNat) H) : wpAny (model X.prog X.w) X.A (pyIter (.ref s.heap.objs.size)) (PIE X pins σ tg R) E { s with heap := s.heap.push { cls := .type "range", data := .fields #[.int lo t, .int hi u, .int 1 v] }, toks := tk } := by
  refine wpAny_pyIter_range (IsRange.new ..) (small_one h1 h2 h3 h4) ?_
  have I1 : Inv X pins σ H { s with heap := s.heap.push { cls := .type "range", data := .fields #[.int lo t, .int hi u, .int 1 v] }, toks := tk } := I.kept fun b o e => Heap.get?_push_of_some _ e
  refine ⟨(s.heap.push { cls := .type "range", data := .fields #[.int lo t, .int hi u, .int 1 v] }).objs.size, [(s.heap.push { cls := .type "range", data := .fields #[.int lo t, .int hi u, .int 1 v] }).objs.size], _, _, H, rfl,
    I1.kept (t' := tk) fun b o e => Heap.get?_push_of_some _ e, turn_range _ lo (hi - lo).toNat, ?_, fun b hb => ?_, q⟩
  · have e1 : lo + ((0 : Nat) : Int) * 1 = lo := by simp
    have e2 : (((hi - lo).toNat : Nat) : Int) - ((0 : Nat) : Int) = Builtin.Range.rangeSize lo hi 1 := by rw [rangeSize_one]; split <;> omega
    show IsRangeIter _ _ (lo + ((0 : Nat) : Int) * 1) ((((hi - lo).toNat : Nat) : Int) - ((0 : Nat) : Int)) 1
    rw [e1, e2]
    exact Heap.get?_push_size _ rfl
  · have e : b = (s.heap.push { cls := .type "range", data := .fields #[.int lo t, .int hi u, .int 1 v] }).objs.size := by simpa using hb
    subst e
    exact I1.fpOk (Nat.le_refl _) (I1.hok.fresh (Nat.le_refl _))
def iRng1 (ta : TA) : TI := fun σ H R => ta σ H fun vs H1 => ∃ j : Int, vs = [.int j] ∧ -(2 ^ 62) ≤ j ∧ j < 2 ^ 62 ∧ R (Itr 0 j.toNat) H1
theorem pi_range1 {a : Expr} {ta : TA} {p pos : Pos} (hg : Gl X "range") (hm : X.mg "range" = none) (ha : PA X [a] ta) (hs : starEach [a] X.env = [(false, eval a X.env)] := by rfl) : PI X tg (.Call (.Name "range" p) [a] [] pos) (iRng1 ta) := by
  intro pins s σ H R I h
  refine Call_ (ld_blt I hg hm boot_range (PyProof.Rows.callWith_type1 (thn (ha pos pins s σ H _ I h) fun us s1 ⟨vs, H1, I1, r1, q1⟩ => ?_) hs rfl))
  obtain ⟨j, e, q1, q2, q⟩ := q1
  subst e
  cases r1 with
  | cons r rr =>
    cases rr
    obtain ⟨t, rfl⟩ := r
    exact call_range_1 (range_it I1 (by omega) (by omega) q1 q2 (by simpa using q))
/-! ### for -/
/-- W: the invariant by the turn and a measure; N: what the body is to reach -/
def tFor (wi : TI) (g : TG) (tb : TS) : TS := fun D σ H => wi σ H fun J H1 => ∃ W : Nat → Nat → St → Hp → Prop, (∃ m, W 0 m σ H1) ∧ ∀ i m σ H, W i m σ H →
  (J.stop i H ∧ D.nx σ H) ∨ (J.go i H ∧ ∃ N : St → Hp → Prop, (∀ σ' H', N σ' H' → ∃ m', m' < m ∧ W (i + 1) m' σ' H') ∧ ∀ x H', J.yld i H x H' → g x σ H' fun σ2 H2 => tb { D with nx := N, ct := N, bk := D.nx } σ2 H2)
/-- the records at fp as they stand -/
def pinsAt (fp : List Addr) (h : Heap) : List (Addr × Obj) := fp.filterMap fun b => (h.get? b).map fun o => (b, o)
theorem mem_pinsAt {fp : List Addr} {h : Heap} {b : Addr} {o : Obj} (hb : b ∈ fp) (e : h.get? b = some o) : (b, o) ∈ pinsAt fp h := List.mem_filterMap.mpr ⟨b, hb, by rw [e]; rfl⟩
theorem of_pinsAt {fp : List Addr} {h : Heap} {p : Addr × Obj} (hp : p ∈ pinsAt fp h) : p.1 ∈ fp ∧ h.get? p.1 = some p.2 := by
  obtain ⟨b, hb, e⟩ := List.mem_filterMap.mp hp
  cases q : h.get? b with
  | none => rw [q] at e; cases e
  | some o =>
    rw [q] at e
    have e' : (b, o) = p := Option.some.inj e
    subst e'
    exact ⟨hb, q⟩
theorem Inv.pinned {pins : List (Addr × Obj)} {σ : St} {H : Hp} {s : Shared} {fp : List Addr} (I : Inv X pins σ H s) (hf : ∀ b ∈ fp, FpOk X pins H b) (ho : ∀ b ∈ fp, ∃ o, s.heap.get? b = some o ∧ ∀ v, o.data ≠ .cell v) : Inv X (pins ++ pinsAt fp s.heap) σ H s :=
  I.pins_of fun p hp => (List.mem_append.mp hp).elim (fun z => I.pin p (List.mem_append_right _ z)) fun z => by
    obtain ⟨hb, e⟩ := of_pinsAt z
    obtain ⟨f0, f1, f2, _⟩ := hf p.1 hb
    obtain ⟨o, e', d⟩ := ho p.1 hb
    rw [e] at e'; cases e'
    exact ⟨e, f0, f1, f2, d⟩
theorem Inv.unpinned {pins pl : List (Addr × Obj)} {σ : St} {H : Hp} {s : Shared} (I : Inv X (pins ++ pl) σ H s) : Inv X pins σ H s := I.pins_of fun p hp => I.pin p (List.mem_append_right _ (List.mem_append_left _ hp))
theorem ps_for {iter : Expr} {body : List Stmt} {wi : TI} {g : TG} {tb : TS} {pos : Pos} (hp : PassesOwn (model X.prog X.w) X.A X.env X.xe) (hc : X.calm = true) (hi : PI X tg iter wi) (hg : PG X tg g) (hb : PSs X body tb)
    (hs : ∀ x, foldedSetIterable iter X.env x = pure x := by intro _; rfl) : PS X (.For tg iter body [] pos) (tFor wi g tb) := by
  intro pins s σ H D I h
  refine wpAny_For (thn (hi pins s σ H _ I h) fun v s1 h1 => thn h1 fun itv s2 h2 => ?_) hs
  obtain ⟨it, fp, tn, J, H2, e, I2, T, st2, f2, W, ⟨m0, w0⟩, turn⟩ := h2
  subst e
  -- what stays true of the iterator's objects through the loop
  have stat : ∀ {H' : Hp}, (∀ b ∈ fp, H' b = none) → ∀ b ∈ fp, FpOk X pins H' b := fun hn b hb => ⟨hn b hb, (f2 b hb).2⟩
  refine codeAny_forLoop_any (fun n s' => ∃ i σ' H', Inv X pins σ' H' s' ∧ tn i s'.heap ∧ (∀ b ∈ fp, H' b = none) ∧ W i n σ' H') ?_ m0 ⟨0, σ, H2, I2, st2, fun b hb => (f2 b hb).1, w0⟩
  rintro n s3 ⟨i, σ3, H3, I3, st3, fr3, w3⟩
  rcases turn i n σ3 H3 w3 with ⟨stop, qn⟩ | ⟨go, N, hN, step⟩
  · refine wpAny_passesOwn hp (thn (T.done X rfl rfl rfl hc i pins s3 σ3 H3 X.xe I3 (stat fr3) st3 stop) fun r s4 ⟨hr, I4⟩ => ?_)
    subst hr
    exact wpAny_execs_nil ⟨σ3, H3, I4, qn⟩
  · refine wpAny_passesOwn hp (thn (T.item X rfl rfl rfl hc i pins s3 σ3 H3 X.xe I3 (stat fr3) st3 go) fun r s4 ⟨u, hr, h4⟩ => ?_)
    subst hr
    refine wpAny_passesOwn hp (thn h4 fun _ s5 ⟨x, H5, I5, r5, y5, st5, fr5⟩ => ?_)
    have I5' := I5.pinned (stat fr5) (T.obj _ _ st5)
    refine wpAny_passesOwn hp (thn (hg _ s5 σ3 H5 x u _ I5' r5 (step x H5 y5)) fun _ s6 ⟨σ6, H6, I6, q6⟩ => ?_)
    refine wpAny_passesOwn hp (thn (hb _ s6 σ6 H6 _ I6 q6) fun f s7 q7 => ?_)
    have again : ∀ {σ7 : St} {H7 : Hp}, Inv X (pins ++ pinsAt fp s5.heap) σ7 H7 s7 → N σ7 H7 → ∃ m, m < n ∧ ∃ i σ' H', Inv X pins σ' H' s7 ∧ tn i s7.heap ∧ (∀ b ∈ fp, H' b = none) ∧ W i m σ' H' := fun {σ7 H7} I7 n7 => by
      obtain ⟨m', hm, w7⟩ := hN σ7 H7 n7
      refine ⟨m', hm, i + 1, σ7, H7, I7.unpinned, T.keep _ _ _ st5 fun b hb o e => (I7.pin (b, o) (List.mem_append_right _ (List.mem_append_right _ (mem_pinsAt hb e)))).1, fun b hb => ?_, w7⟩
      obtain ⟨o, e, d⟩ := T.obj _ _ st5 b hb
      exact (I7.pin (b, o) (List.mem_append_right _ (List.mem_append_right _ (mem_pinsAt hb e)))).2.1
    cases f with
    | next => obtain ⟨σ7, H7, I7, n7⟩ := q7; exact again I7 n7
    | cont => obtain ⟨σ7, H7, I7, n7⟩ := q7; exact again I7 n7
    | brk => obtain ⟨σ7, H7, I7, q7⟩ := q7; exact ⟨σ7, H7, I7.unpinned, q7⟩
    | ret v => obtain ⟨x7, σ7, H7, I7, r7, q7⟩ := q7; exact ⟨x7, σ7, H7, I7.unpinned, r7, q7⟩
end

/-! ### the forms one uses -/
end L2

namespace L2
open PySem PySem.Spec PyProof.Rows

abbrev R2 := V → V → Hp → VK → Prop
/-- a two-place operation on values: f is binaryOp op, inplaceOp op or compareOp op -/
def OpR (X : Cx) (f : Value → Value → Sem Value) (r : R2) : Prop :=
  ∀ (pins : List (Addr × Obj)) (s : Shared) (σ : St) (H : Hp) (x y : V) (v u : Value) (Q : VK), Inv X pins σ H s → RelV x v → RelV y u → r x y H Q →
    wpAny (model X.prog X.w) X.A (f v u) (EP X pins σ Q) X.xe s
/-- a one-place operation -/
def UnR (X : Cx) (f : Value → Sem Value) (r : V → Hp → VK → Prop) : Prop :=
  ∀ (pins : List (Addr × Obj)) (s : Shared) (σ : St) (H : Hp) (x : V) (v : Value) (Q : VK), Inv X pins σ H s → RelV x v → r x H Q →
    wpAny (model X.prog X.w) X.A (f v) (EP X pins σ Q) X.xe s
/-- a call of a value that is known (a builtin, a type) with values -/
def CallR (X : Cx) (f : Value) (r : List V → Hp → VK → Prop) : Prop :=
  ∀ (pins : List (Addr × Obj)) (s : Shared) (σ : St) (H : Hp) (xs : List V) (us : List Value) (Q : VK), Inv X pins σ H s → Vals xs us → r xs H Q →
    wpAny (model X.prog X.w) X.A (call f us) (EP X pins σ Q) X.xe s
def tOp (r : R2) (ta tb : TE) : TE := fun σ H Q => ta σ H fun x H1 => tb σ H1 fun y H2 => r x y H2 Q
def tUn (r : V → Hp → VK → Prop) (ta : TE) : TE := fun σ H Q => ta σ H fun x H1 => r x H1 Q
/-- ints in, under C, and a value out -/
def rI (C : Int → Int → Prop) (g : Int → Int → V) : R2 := fun x y H Q => ∃ i j, x = .int i ∧ y = .int j ∧ C i j ∧ Q (g i j) H
def rI0 (g : Int → Int → V) : R2 := fun x y H Q => ∃ i j, x = .int i ∧ y = .int j ∧ Q (g i j) H
def rU (g : Int → V) : V → Hp → VK → Prop := fun x H Q => ∃ i, x = .int i ∧ Q (g i) H

section
variable {X : Cx} {a b c : Expr} {ta tb tc : TE} {pos : Pos}

theorem binT (ha : PE X a ta) (hb : PE X b tb) {pins : List (Addr × Obj)} {s : Shared} {σ : St} {H : Hp} {R : V → V → Hp → Prop} (I : Inv X pins σ H s)
    (h : ta σ H fun x H1 => tb σ H1 fun y H2 => R x y H2) {Q : Value → Shared → Prop} {f : Value → Value → Sem Value}
    (hf : ∀ v u s2 x y H2, Inv X pins σ H2 s2 → RelV x v → RelV y u → R x y H2 → wpAny (model X.prog X.w) X.A (f v u) Q X.xe s2) :
    wpAny (model X.prog X.w) X.A (eval a X.env) (fun v s₁ => wpAny (model X.prog X.w) X.A (eval b X.env) (fun u s₂ => wpAny (model X.prog X.w) X.A (f v u) Q X.xe s₂) X.xe s₁) X.xe s := by
  refine thn (ha pins s σ H _ I h) fun v s1 ⟨x, H1, I1, r1, q1⟩ => ?_
  refine thn (hb pins s1 σ H1 _ I1 q1) fun u s2 ⟨y, H2, I2, r2, q2⟩ => ?_
  exact hf v u s2 x y H2 I2 r1 r2 q2

theorem pe_op {op : Operator} {r : R2} (ho : OpR X (binaryOp op) r) (ha : PE X a ta) (hb : PE X b tb) : PE X (.BinOp a op b pos) (tOp r ta tb) := by
  intro pins s σ H Q I h
  exact wpAny_BinOp (binT ha hb I h fun v u s2 x y H2 I2 rx ry q => ho pins s2 σ H2 x y v u Q I2 rx ry q)
theorem pe_un {op : UnaryOp} {r : V → Hp → VK → Prop} (ho : UnR X (unaryOp op) r) (ha : PE X a ta) : PE X (.UnaryOp op a pos) (tUn r ta) := by
  intro pins s σ H Q I h
  exact UnaryOp_ (thn (ha pins s σ H _ I h) fun v s1 ⟨x, H1, I1, r1, q1⟩ => ho pins s1 σ H1 x v Q I1 r1 q1)
/-! ### ints -/
theorem opI {f : Value → Value → Sem Value} {C : Int → Int → Prop} {g : Int → Int → Int}
    (rule : ∀ (i j : Int) (t u : Tok) (s : Shared) (Q : Value → Shared → Prop) (E : Value → Shared → Prop), C i j → Q (.int (g i j) s.toks) { s with toks := s.toks + 1 } → wpAny (model X.prog X.w) X.A (f (.int i t) (.int j u)) Q E s) :
    OpR X f (rI C fun i j => .int (g i j)) := by
  intro pins s σ H x y v u Q I rx ry h
  obtain ⟨i, j, rfl, rfl, hc, q⟩ := h
  obtain ⟨t, rfl⟩ := rx
  obtain ⟨t', rfl⟩ := ry
  exact rule i j t t' s _ _ hc ⟨.int (g i j), H, I.tok _, ⟨_, rfl⟩, q⟩
theorem opI0 {f : Value → Value → Sem Value} {g : Int → Int → Int}
    (rule : ∀ (i j : Int) (t u : Tok) (s : Shared) (Q : Value → Shared → Prop) (E : Value → Shared → Prop), Q (.int (g i j) s.toks) { s with toks := s.toks + 1 } → wpAny (model X.prog X.w) X.A (f (.int i t) (.int j u)) Q E s) :
    OpR X f (rI0 fun i j => .int (g i j)) := by
  intro pins s σ H x y v u Q I rx ry h
  obtain ⟨i, j, rfl, rfl, q⟩ := h
  obtain ⟨t, rfl⟩ := rx
  obtain ⟨t', rfl⟩ := ry
  exact rule i j t t' s _ _ ⟨.int (g i j), H, I.tok _, ⟨_, rfl⟩, q⟩
theorem opB0 {f : Value → Value → Sem Value} {g : Int → Int → Bool}
    (rule : ∀ (i j : Int) (t u : Tok) (s : Shared) (Q : Value → Shared → Prop) (E : Value → Shared → Prop), Q (.bool (g i j)) s → wpAny (model X.prog X.w) X.A (f (.int i t) (.int j u)) Q E s) :
    OpR X f (rI0 fun i j => .bl (g i j)) := by
  intro pins s σ H x y v u Q I rx ry h
  obtain ⟨i, j, rfl, rfl, q⟩ := h
  obtain ⟨t, rfl⟩ := rx
  obtain ⟨t', rfl⟩ := ry
  exact rule i j t t' s _ _ ⟨.bl (g i j), H, I, rfl, q⟩

def CPow (i j : Int) : Prop := 0 ≤ j ∧ j ≤ 1000000 ∧ i.natAbs < 2 ^ 64
def CMul (i j : Int) : Prop := (-(2 ^ 64) < i ∧ i < 2 ^ 64) ∨ (-(2 ^ 64) < j ∧ j < 2 ^ 64)
theorem CMul.ok {i j : Int} (h : CMul i j) : IntMulOk i j := by
  rcases h with ⟨h1, h2⟩ | ⟨h1, h2⟩
  · exact .of_left (intBits_le_64 h1 h2)
  · exact .of_right (intBits_le_64 h1 h2)
theorem op_add : OpR X (binaryOp .Add) (rI0 fun i j => .int (i + j)) := opI0 fun _ _ _ _ _ _ _ q => add_int q
theorem op_sub : OpR X (binaryOp .Sub) (rI0 fun i j => .int (i - j)) := opI0 fun _ _ _ _ _ _ _ q => sub_int q
theorem op_modN : OpR X (binaryOp .Mod) (rI (fun _ j => j ≠ 0) fun i j => .int (i.fmod j)) := opI fun _ _ _ _ _ _ _ hc q => mod_int' hc q
theorem op_pow : OpR X (binaryOp .Pow) (rI CPow fun i j => .int (i ^ j.toNat)) := opI fun _ _ _ _ _ _ _ hc q => pow_int_small hc.1 hc.2.1 hc.2.2 q
theorem unI {f : Value → Sem Value} {g : Int → Int}
    (rule : ∀ (i : Int) (t : Tok) (s : Shared) (Q : Value → Shared → Prop) (E : Value → Shared → Prop), Q (.int (g i) s.toks) { s with toks := s.toks + 1 } → wpAny (model X.prog X.w) X.A (f (.int i t)) Q E s) :
    UnR X f (rU fun i => .int (g i)) := by
  intro pins s σ H x v Q I rx h
  obtain ⟨i, rfl, q⟩ := h
  obtain ⟨t, rfl⟩ := rx
  exact rule i t s _ _ ⟨.int (g i), H, I.tok _, ⟨_, rfl⟩, q⟩
theorem un_neg : UnR X (unaryOp .USub) (rU fun i => .int (-i)) := unI fun _ _ _ _ _ q => neg_int q
/-! ### bools among ints: n += (a < b) -/
end

/-! ### comparisons -/
section
variable {X : Cx} {a b c : Expr} {ta tb tc : TE} {pos : Pos}
theorem op_lt : OpR X (compareOp .Lt) (rI0 fun i j => .bl (decide (i < j))) := opB0 fun _ _ _ _ _ _ _ q => lt_int q
theorem op_gt : OpR X (compareOp .Gt) (rI0 fun i j => .bl (decide (j < i))) := opB0 fun _ _ _ _ _ _ _ q => gt_int q
theorem op_ge : OpR X (compareOp .GtE) (rI0 fun i j => .bl (decide (j ≤ i))) := opB0 fun _ _ _ _ _ _ _ q => ge_int q
/-- two rules for one operation: by cases -/
theorem OpR.or {f : Value → Value → Sem Value} {r r' : R2} (h : OpR X f r) (h' : OpR X f r') : OpR X f (fun x y H Q => r x y H Q ∨ r' x y H Q) := by
  intro pins s σ H x y v u Q I rx ry q
  rcases q with q | q
  · exact h pins s σ H x y v u Q I rx ry q
  · exact h' pins s σ H x y v u Q I rx ry q

theorem nomark (b : Expr) {op : CmpOp} (h : op ≠ .In := by decide) (h2 : op ≠ .NotIn := by decide) : behindInMarks op b = false := by
  have e1 : (op == CmpOp.In) = false := by cases op <;> first | rfl | exact absurd rfl h
  have e2 : (op == CmpOp.NotIn) = false := by cases op <;> first | rfl | exact absurd rfl h2
  cases b <;> simp [behindInMarks, e1, e2]
/-- a reading of a value as a test -/
def tTest (t : TE) : TT := fun σ H Q => t σ H fun x H' => ∃ k, x = .bl k ∧ Q k H'
theorem pt_cmpR {op : CmpOp} {r : R2} (ho : OpR X (compareOp op) r) (ha : PE X a ta) (hb : PE X b tb) (hm : behindInMarks op b = false) : PT X (.Compare a [op] [b] pos) (tTest (tOp r ta tb)) := by
  intro pins s σ H Q I h
  refine wpAny_isTrue_Compare1 (thn (ha pins s σ H _ I h) fun v s1 ⟨x, H1, I1, r1, q1⟩ => thn (hb pins s1 σ H1 _ I1 q1) fun u s2 ⟨y, H2, I2, r2, q2⟩ =>
    thn (ho pins s2 σ H2 x y v u _ I2 r1 r2 q2) fun c s3 ⟨z, H3, I3, r3, k, e, q3⟩ => ?_) hm
  subst e
  cases r3
  exact wpAny_truthy_bool ⟨H3, I3, q3⟩
/-! ### truth -/
theorem line63 : (sizeLine : Nat) < 2 ^ 63 := by rw [sizeLine_eq]; decide
/-! ### strs and bytes -/
/-! ### scalar builtins, by CallR -/
theorem vals1 {x : V} {us : List Value} (r : Vals [x] us) : ∃ u, us = [u] ∧ RelV x u := by
  cases r with
  | cons r1 r2 => cases r2; exact ⟨_, rfl, r1⟩
theorem vals2 {x y : V} {us : List Value} (r : Vals [x, y] us) : ∃ u w', us = [u, w'] ∧ RelV x u ∧ RelV y w' := by
  cases r with
  | cons r1 r2 =>
    cases r2 with
    | cons r3 r4 => cases r4; exact ⟨_, _, rfl, r1, r3⟩
theorem call_abs : CallR X (.builtin "abs") (fun xs H Q => ∃ i, xs = [.int i] ∧ Q (.int (if i < 0 then -i else i)) H) := by
  intro pins s σ H xs us Q I r h
  obtain ⟨i, rfl, q⟩ := h
  obtain ⟨u, rfl, t, rfl⟩ := vals1 r
  exact call_abs_int fun u tk => ⟨.int (if i < 0 then -i else i), H, I.tok _, ⟨_, rfl⟩, q⟩
theorem call_min2 (hc : X.calm = true) : CallR X (.builtin "min") (fun xs H Q => ∃ i j, xs = [.int i, .int j] ∧ Q (.int (if j < i then j else i)) H) := by
  intro pins s σ H xs us Q I r h
  obtain ⟨i, j, rfl, q⟩ := h
  obtain ⟨u, w', rfl, ⟨t, rfl⟩, ⟨t', rfl⟩⟩ := vals2 r
  refine min_two_ints (I.ok.hd hc) fun h' tk k => ⟨_, H, I.kept k, ?_, q⟩
  by_cases hj : j < i
  · rw [if_pos hj, if_pos hj]; exact ⟨_, rfl⟩
  · rw [if_neg hj, if_neg hj]; exact ⟨_, rfl⟩
end
end L2

namespace L2
open PySem PySem.Spec PyProof.Rows

/-! ### an instance, its attributes a map -/
structure ObjM (h : Heap) (x dx C : Addr) (mA : Str → Option Value) : Prop where
  obj : h.get? x = some (PySem.W.instObj C dx)
  ns : h.Ns1 dx mA
  ne : dx ≠ x

theorem lookIn_ns {h : Heap} {dx : Addr} {mA : Str → Option Value} (n : h.Ns1 dx mA) : ∃ od, h.get? dx = some od ∧ ∀ name, PySem.W.lookIn name od = some (mA name) := by
  obtain ⟨o, es, ep, ho, hd, hk, _, hm⟩ := n
  refine ⟨o, ho, fun name => ?_⟩
  have e := hm name
  unfold nsFind findBy at e
  rw [← Array.find?_toList] at e
  unfold PySem.W.lookIn
  rw [hd]
  dsimp only
  split
  · rename_i y q
    rw [q] at e
    exact congrArg some e
  · rename_i q
    rw [q] at e
    have a : es.toList.any (·.refKey) = false := by
      rw [List.any_eq_false]
      intro y hy
      obtain ⟨z, t, hkey⟩ := hk y (Array.mem_toList_iff.mp hy)
      simp [DictEntry.refKey, hkey]
    have a' : ¬ es.toList.any (·.refKey) = true := by rw [a]; exact Bool.false_ne_true
    rw [if_neg a']
    exact congrArg some e

theorem ObjM.look {h : Heap} {x dx C : Addr} {mA : Str → Option Value} (I : ObjM h x dx C mA) : ∃ od, PySem.W.InstAt h x (PySem.W.instObj C dx) C (some od) ∧ ∀ name, PySem.W.lookIn name od = some (mA name) :=
  let ⟨od, ho, hl⟩ := lookIn_ns I.ns
  ⟨od, ⟨I.obj, rfl, rfl, ho⟩, hl⟩

section
variable {prog : Program} {w : World} {A : Around} {E : Value → Shared → Prop} {s : Shared} {K : PySem.W.Frag} {x dx C f : Addr} {mA : Str → Option Value} {name : Str} {v : Value}

end

/-! ### the attributes as a list of pairs -/
theorem RelO.some_of {v : V} {o : Option Value} (r : RelO (some v) o) : ∃ u, o = some u ∧ RelV v u := by
  cases o with
  | none => exact (show False from r).elim
  | some u => exact ⟨u, rfl, r⟩
section
variable {P : Program} {w : World} {H H' : Hp} {h h' : Heap} {a C dx : Addr} {fs fs' : List (Str × V)}
end

/-! ### what of the text a class must have -/
structure Cls (K : PySem.W.Frag) (C : Addr) : Prop where
  pg : PySem.W.plainGet K C Str.empty = true
  hd : PySem.W.hasDictIn K C = true
  po : PySem.W.plainOver K C = true
  sa : PySem.W.findIn K (.ref C) "__setattr__" = some (some (.builtin "object.__setattr__"))
theorem Cls.get {K : PySem.W.Frag} {C : Addr} (c : Cls K C) (f : Str) : PySem.W.plainGet K C f = true := c.pg
/-- a constant of the class -/
structure Con (K : PySem.W.Frag) (C : Addr) (f : Str) (v : V) (u : Value) : Prop where
  at_ : PySem.W.findIn K (.ref C) f = some (some u)
  rel : RelV v u
  get : PySem.W.specialIn K u "__get__" = some none
  cp : PySem.W.copiedNames.contains f = false
/-- a method: a plain def of the class or of one above it -/
structure Meth (K : PySem.W.Frag) (C : Addr) (m : Str) (f : Addr) : Prop where
  at_ : PySem.W.findIn K (.ref C) m = some (some (.ref f))
  fn : PySem.W.isFn K (.ref f) = true
  kp : PySem.W.keepIn K (.ref f) = true

section
variable {X : Cx} {pins : List (Addr × Obj)} {σ : St} {H : Hp} {s : Shared} {a C dx : Addr} {fs : List (Str × V)} {f : Str} {v : V} {A : Around} {E : Value → Shared → Prop}

end

/-! ### readings and rules -/
section
variable {X : Cx} {o e value : Expr} {f : Str} {pos pos' tpos : Pos} {ta tv : TE}
end

/-! ### isinstance -/
section
variable {X : Cx} {pins : List (Addr × Obj)} {σ : St} {H : Hp} {s : Shared} {A : Around} {E : Value → Shared → Prop} {Q : Value → Shared → Prop} {c : Value} {b : Bool}
/-- the type of a value, as the fragment's deciders take it; for an instance its class -/
inductive TyOf (K : PySem.W.Frag) (H : Hp) : V → Value → Prop where
  | non : TyOf K H .non (.type "NoneType")
  | bl (x : Bool) : TyOf K H (.bl x) (.type "bool")
  | int (i : Int) : TyOf K H (.int i) (.type "int")
  | str (x : Str) : TyOf K H (.str x) (.type "str")
  | flt (x : UInt64) : TyOf K H (.flt x) (.type "float")
  | lst {a : Addr} {xs : List V} (e : H a = some (.lst xs)) : TyOf K H (.ref a) (.type "list")
  | frz {a : Addr} {o : Obj} {xs : List V} (e : H a = some (.frz o (.lst xs))) : TyOf K H (.ref a) (.type "list")
  | tup {a : Addr} {xs : List V} (e : H a = some (.tup xs)) : TyOf K H (.ref a) (.type "tuple")
  | dK {a : Addr} {kvs : List (Key × V)} (e : H a = some (.dK kvs)) : TyOf K H (.ref a) (.type "dict")
  | dT {a : Addr} {kvs : List (List Key × V)} (e : H a = some (.dT kvs)) : TyOf K H (.ref a) (.type "dict")
  | ins {a C dx : Addr} {fs : List (Str × V)} (e : H a = some (.ins C dx fs)) (cl : Cls K C) (ha : PySem.W.findIn K (.ref C) "__class__" = some (some (.builtin "object.__class__")))
      (hn : PySem.W.specialIn K (.builtin "object.__class__") "__get__" = some (some (.builtin "getset_descriptor.__get__"))) (htk : PySem.W.takesIn K (.builtin "object.__class__") = some true)
      (hm : PySem.W.mroIn K C (.type "object") = some true) : TyOf K H (.ref a) (.ref C)
end
end L2

namespace L2
open PySem PySem.Spec PyProof.Rows

/-! ### room -/
structure Room (k : Nat) (A : Around) : Prop where
  hd : A.handled = none
  dp : A.depth + 3 * k + 5 < recursionLimit
  un : A.units + 16 * k + 200 < cLine
theorem Room.mono {j k : Nat} {A : Around} (r : Room k A) (h : j ≤ k) : Room j A := ⟨r.hd, by have := r.dp; omega, by have := r.un; omega⟩
theorem Room.deeper {k : Nat} {A : Around} (r : Room (k + 1) A) (env : Env) : Room k (A.deeper env) :=
  ⟨r.hd, by have := r.dp; show A.depth + 1 + 3 * k + 5 < _; omega, by have := r.un; show A.units + 3 + 16 * k + 200 < _; omega⟩
theorem Room.in1 {k : Nat} {A : Around} (r : Room (k + 1) A) : Room k A.in1 :=
  ⟨r.hd, by have := r.dp; show A.depth + 3 * k + 5 < _; omega, by have := r.un; show A.units + 1 + 16 * k + 200 < _; omega⟩
theorem Room.depth {k : Nat} {A : Around} (r : Room k A) : A.depth < recursionLimit := by have := r.dp; omega
theorem Room.units {k : Nat} {A : Around} (r : Room k A) : A.units + 64 < cLine := by have := r.un; omega
/-! ### argument lists and displays -/
def tNil : TA := fun _ H Q => Q [] H
def tCons (ta : TE) (tr : TA) : TA := fun σ H Q => ta σ H fun x H1 => tr σ H1 fun xs H2 => Q (x :: xs) H2
section
variable {X : Cx} {e : Expr} {es : List Expr} {te : TE} {t : TA} {pos : Pos}
theorem pa_nil : PA X [] tNil := fun _ _ _ _ H Q I h => Calls.spliced_nil ⟨[], H, I, .nil, h⟩
theorem pa_cons (ha : PE X e te) (hr : PA X es t) (hs : starEach (e :: es) X.env = (false, eval e X.env) :: starEach es X.env := by rfl) : PA X (e :: es) (tCons te t) := by
  intro pos pins s σ H Q I h
  rw [hs]
  show wpAny _ _ (spliced ((false, eval e X.env) :: backTo pos (starEach es X.env))) _ _ s
  refine Calls.spliced_cons (thn (ha pins s σ H _ I h) fun u s1 ⟨x, H1, I1, r1, q1⟩ => ?_)
  exact thn (hr pos pins s1 σ H1 _ I1 q1) fun us s2 ⟨xs, H2, I2, r2, q2⟩ => ⟨x :: xs, H2, I2, .cons r1 r2, q2⟩

/-- a tuple, a list of written items -/
def tTup (t : TA) : TE := fun σ H Q => t σ H fun xs H1 => xs.length ≤ sizeLine ∧ ∀ p, H1 p = none → Q (.ref p) (upd H1 p (.tup xs))
def tLst (t : TA) : TE := fun σ H Q => t σ H fun xs H1 => xs.length ≤ sizeLine ∧ ∀ p, H1 p = none → Q (.ref p) (upd H1 p (.lst xs))
theorem pe_tup {x1} (h : PA X es t) : PE X (.Tuple es x1 pos) (tTup t) := by
  intro pins s σ H Q I hq
  refine wpAny_Tuple_spliced (thn (h pos pins s σ H _ I hq) fun us s1 ⟨xs, H1, I1, r, z, q⟩ => ⟨by rw [← r.length]; exact z, ?_⟩)
  have hf : H1 s1.heap.objs.size = none := I1.hok.fresh (Nat.le_refl _)
  refine ⟨.ref s1.heap.objs.size, upd H1 s1.heap.objs.size (.tup xs), I1.laid (t' := s1.toks) (fun b u e => Heap.get?_push_of_some _ e) (Nat.le_refl _) ?_, rfl, q _ hf⟩
  exact ⟨z, us, r, ⟨_, Heap.get?_push_size _ rfl, rfl, _, rfl⟩⟩
theorem pe_lst (h : PA X es t) : PE X (.List es pos) (tLst t) := by
  intro pins s σ H Q I hq
  refine wpAny_List_spliced (thn (h pos pins s σ H _ I hq) fun us s1 ⟨xs, H1, I1, r, z, q⟩ => ⟨by rw [← r.length]; exact z, ?_⟩)
  have hf : H1 s1.heap.objs.size = none := I1.hok.fresh (Nat.le_refl _)
  refine ⟨.ref s1.heap.objs.size, upd H1 s1.heap.objs.size (.lst xs), I1.laid (t' := s1.toks) (fun b u e => Heap.get?_push_of_some _ e) (Nat.le_refl _) ?_, rfl, q _ hf⟩
  exact ⟨z, us, 0, r, Heap.get?_push_size _ rfl⟩
end

/-! ### what a def promises -/
/-- a def's promise: the bound arguments in the parameters' order, the heap, the wanted end, the wanted exception -/
abbrev Sp := List V → Hp → VK → XK → Prop
/-- how an exception lies behind a call (file 08 gives it): the callers' frames, abstract heap and state ahead of the call, the wish, the exception, the state -/
abbrev CXT := List Env → Hp → Shared → XK → Value → Shared → Prop

/-- the state at a call -/
structure Env0 (P : Program) (w : World) (K : PySem.W.Frag) (mg : Str → Option Value) (base : Heap) (A : Around) (outer : List Env) (s : Shared) (H : Hp) : Prop where
  frames : A.frames = some outer
  mod : Mod K mg base
  bs : ∀ b o, base.get? b = some o → s.heap.get? b = some o ∧ H b = none
  bsz : base.objs.size ≤ s.heap.objs.size
  funs : s.heap.FunFrames base outer
  frf : ∀ b ∈ frs outer, H b = none
  hok : HOk P w H s.heap
  bare : AllBare s.gens
/-- a call's end -/
def CE (outer : List Env) (P : Program) (w : World) (H : Hp) (s : Shared) (Q : VK) (u : Value) (s' : Shared) : Prop :=
  ∃ v H', s'.os = s.os ∧ AllBare s'.gens ∧ Un (frs outer) [] H H' s.heap s'.heap ∧ HOk P w H' s'.heap ∧ RelV v u ∧ Q v H'
def CR (CX : CXT) (outer : List Env) (P : Program) (w : World) (H : Hp) (s : Shared) (Q : VK) (E : XK) (r : Result) (s' : Shared) : Prop :=
  match r with
  | .ok (.ret u) => CE outer P w H s Q u s'
  | .ok _ => False
  | .error e => CX outer H s E e s'
structure FnOk (P : Program) (w : World) (K : PySem.W.Frag) (mg : Str → Option Value) (base : Heap) (CX : CXT) (k : Nat) (f : Addr) (fd : FuncData) (ps : List Str) (sp : Sp) : Prop where
  len : ∀ vs H Q E, sp vs H Q E → vs.length = ps.length
  run : ∀ (A : Around) (outer : List Env) (s : Shared) (H : Hp) (args : Args) (us : List Value) (vs : List V) (Q : VK) (E : XK), Room k A → Env0 P w K mg base A outer s H → BindsTo s fd args (ps.zip us) → Vals vs us → sp vs H Q E →
    codeAny (model P w) A (.call (.ref f) args) (CR CX outer P w H s Q E) s
theorem FnOk.mono {P : Program} {w : World} {K : PySem.W.Frag} {mg : Str → Option Value} {base : Heap} {CX : CXT} {j k : Nat} {f : Addr} {fd : FuncData} {ps : List Str} {sp : Sp} (F : FnOk P w K mg base CX j f fd ps sp) (h : j ≤ k) :
    FnOk P w K mg base CX k f fd ps sp := ⟨F.len, fun A outer s H args us vs Q E hr => F.run A outer s H args us vs Q E (hr.mono h)⟩
/-- a weaker promise -/
theorem FnOk.imp {P : Program} {w : World} {K : PySem.W.Frag} {mg : Str → Option Value} {base : Heap} {CX : CXT} {k : Nat} {f : Addr} {fd : FuncData} {ps : List Str} {sp sp' : Sp} (F : FnOk P w K mg base CX k f fd ps sp)
    (h : ∀ vs H Q E, sp' vs H Q E → sp vs H Q E) : FnOk P w K mg base CX k f fd ps sp' :=
  ⟨fun vs H Q E q => F.len vs H Q E (h _ _ _ _ q), fun A outer s H args us vs Q E hr he hb hv hs => F.run A outer s H args us vs Q E hr he hb hv (h _ _ _ _ hs)⟩

theorem Env0.in1 {P : Program} {w : World} {K : PySem.W.Frag} {mg : Str → Option Value} {base : Heap} {A : Around} {outer : List Env} {s : Shared} {H : Hp} (e : Env0 P w K mg base A outer s H) :
    Env0 P w K mg base A.in1 outer s H := ⟨e.frames, e.mod, e.bs, e.bsz, e.funs, e.frf, e.hok, e.bare⟩

section
variable {X : Cx} {pins : List (Addr × Obj)} {σ : St} {H : Hp} {s s' : Shared}
/-- from a body: what a callee wants -/
theorem Inv.env0 (I : Inv X pins σ H s) : Env0 X.prog X.w X.K X.mg X.base X.A X.stack s H :=
  ⟨I.ok.frames, I.ok.mod, I.bs, Nat.le_trans I.ok.bsz I.sz, I.stack, I.stkFree, I.hok, I.bare⟩
/-- behind a call -/
theorem Inv.after {Q : VK} {u : Value} (I : Inv X pins σ H s) (h : CE X.stack X.prog X.w H s Q u s') : EP X pins σ Q u s' := by
  obtain ⟨v, H', os, bare, un, hok, r, q⟩ := h
  obtain ⟨hh, g, d, t, os'⟩ := s'
  obtain rfl : os' = s.os := os
  exact ⟨v, H', I.call (h' := hh) (g' := g) (d' := d) (t' := t) (ch := []) un hok bare (fun b z => absurd z (by simp)), r, q⟩
end

/-! ### calls -/
/-- f(..): the written arguments, then the defaults dvs; E: what is wanted of an exception -/
def tCall (sp : Sp) (dvs : List V) (E : XK) (t : TA) : TE := fun σ H Q => t σ H fun vs H1 => sp (vs ++ dvs) H1 Q E
/-- how the parameters are bound: us the positional arguments, kw the keywords' values by name, ds the defaults that fill up -/
def Binds (K : PySem.W.Frag) (fd : FuncData) (ps : List Str) (ds : List Value) : Prop :=
  ∀ (s : Shared) (us : List Value), K.In s.heap → (us ++ ds).length = ps.length → BindsTo s fd ⟨us, []⟩ (ps.zip (us ++ ds))
/-- every parameter is given -/
theorem Binds.all {K : PySem.W.Frag} {fd : FuncData} {ps : List Str} (h : ∀ us : List Value, us.length = ps.length → bindArgs fd ⟨us, []⟩ = pure (ps.zip us)) : Binds K fd ps [] := fun s us _ hl => by
  rw [List.append_nil] at hl ⊢
  exact .of_eq (h us hl)

/-- an exception of a callee reaches what this body wants of exceptions -/
def Passes (CX : CXT) (X : Cx) (E : XK) : Prop := ∀ (pins : List (Addr × Obj)) (σ : St) (H : Hp) (s : Shared) (e : Value) (s' : Shared), Inv X pins σ H s → CX X.stack H s E e s' → X.xe e s'

section
variable {X : Cx} {CX : CXT} {k : Nat} {f C : Addr} {fd : FuncData} {ps : List Str} {sp : Sp} {dvs : List V} {ds : List Value} {E : XK} {x m : Str} {p pos apos : Pos} {e o : Expr} {es : List Expr} {ta : TE} {t : TA}

/-- the callee runs -/
theorem run_fn {pins : List (Addr × Obj)} {σ : St} {H : Hp} {s : Shared} {Q : VK} {us : List Value} {vs : List V} (F : FnOk X.prog X.w X.K X.mg X.base CX k f fd ps sp) (hr : Room k X.A) (hb : Binds X.K fd ps ds) (hd : Vals dvs ds) (hx : Passes CX X E)
    (I : Inv X pins σ H s) (r : Vals vs us) (h : sp (vs ++ dvs) H Q E) : wpAny (model X.prog X.w) X.A (call (.ref f) us) (EP X pins σ Q) X.xe s := by
  have r2 : Vals (vs ++ dvs) (us ++ ds) := r.append hd
  have hl : (us ++ ds).length = ps.length := by rw [← r2.length]; exact F.len _ _ _ _ h
  refine wpAny_call (codeAny_mono (F.run X.A X.stack s H ⟨us, []⟩ (us ++ ds) (vs ++ dvs) Q E hr I.env0 (hb s us I.kIn hl) r2 h) fun r s' hq => ?_)
  cases r with
  | error e => exact hx pins σ H s e s' I hq
  | ok fl =>
    cases fl with
    | ret u => exact I.after hq
    | next => exact False.elim hq
    | brk => exact False.elim hq
    | cont => exact False.elim hq

theorem pe_call (F : FnOk X.prog X.w X.K X.mg X.base CX k f fd ps sp) (hr : Room k X.A) (hg : Gl X x) (hm : X.mg x = some (.ref f)) (hk : PySem.W.keepIn X.K (.ref f) = true) (hb : Binds X.K fd ps ds) (hd : Vals dvs ds) (hx : Passes CX X E)
    (ha : PA X (e :: es) t) (hdb : (x == ("__debug__" : Str)) = false := by decide) (he : starEach (e :: es) X.env = (false, eval e X.env) :: starEach es X.env := by rfl) (hpl : (backTo pos (starEach es X.env)).any (·.1) = false := by rfl) :
    PE X (.Call (.Name x p) (e :: es) [] pos) (tCall sp dvs E t) := by
  intro pins s σ H Q I h
  refine wpAny_Call_Name_kw (ld_glob I hg hm ?_ hdb)
  refine PySem.W.callWith_K (h₀ := X.base) I.ok.mod.kin hk (thn (ha pos pins s σ H _ I h) fun us s1 ⟨vs, H1, I1, r, q⟩ => ⟨I1.kIn, ?_⟩) he hpl
  exact run_fn F hr hb hd hx I1 r q
/-- what a class must have to be made -/
structure Mk (K : PySem.W.Frag) (C f : Addr) : Prop where
  makes : PySem.W.makesIn K C = true
  init : PySem.W.findIn K (.ref C) "__init__" = some (some (.ref f))
  fn : PySem.W.isFn K (.ref f) = true
  kp : PySem.W.keepIn K (.ref C) = true

end

/-! ### keywords -/
section
variable {X : Cx} {CX : CXT} {k : Nat} {f C : Addr} {fd : FuncData} {ps ks : List Str} {sp : Sp} {E : XK} {x m : Str} {p pos apos kpos : Pos} {e o : Expr} {es : List Expr} {kws : List Keyword} {te ta : TE} {t tk : TA} {nm : Option Str}
/-- how a call with keywords binds: g puts the positional values us and the keywords' values ws (names ks) in the parameters' order, defaults among them -/
structure KBinds (K : PySem.W.Frag) (fd : FuncData) (ps ks : List Str) (g : List Value → List Value → List Value) (gV : List V → List V → List V) : Prop where
  to : ∀ (s : Shared) (us ws : List Value), K.In s.heap → (g us ws).length = ps.length → BindsTo s fd ⟨us, ks.zip ws⟩ (ps.zip (g us ws))
  rel : ∀ {vs : List V} {us : List Value} {zs : List V} {ws : List Value}, Vals vs us → Vals zs ws → Vals (gV vs zs) (g us ws)
variable {g : List Value → List Value → List Value} {gV : List V → List V → List V}
end

/-! ### a def's body keeps its promise -/
/-- names: the parameters first -/
structure FnScope (N P : List Str) (sc : Scope) : Prop where
  kind : sc.kind = .function
  co : sc.isCoroutine = false
  gen : sc.isGenerator = false
  nd : N.Nodup
  pre : N.take P.length = P
  par : ∀ x ∈ P, sc.names.lookup x = some .local ∨ sc.names.lookup x = some .cell
  nofree : ∀ y ∈ sc.names, y.2 ≠ .free

theorem bindL_out {kindOf : Str → Option NameKind} {x : Str} : ∀ {binds : List (Str × Value)} {m : Str → Option Value}, (∀ v, (x, v) ∉ binds) → bindL kindOf binds m x = m x
  | [], _, _ => rfl
  | (n, v) :: r, m, h => by
    unfold bindL
    rw [bindL_out fun w hw => h w (List.mem_cons_of_mem _ hw)]
    split
    · have : x ≠ n := by rintro rfl; exact h v List.mem_cons_self
      simp [this]
    · rfl
theorem bindC_out {kindOf : Str → Option NameKind} {x : Str} : ∀ {binds : List (Str × Value)} {m : Str → Option Value}, (∀ v, (x, v) ∉ binds) → bindC kindOf binds m x = m x
  | [], _, _ => rfl
  | (n, v) :: r, m, h => by
    unfold bindC
    rw [bindC_out fun w hw => h w (List.mem_cons_of_mem _ hw)]
    split
    · rfl
    · have : x ≠ n := by rintro rfl; exact h v List.mem_cons_self
      simp [this]
theorem bindL_get {kindOf : Str → Option NameKind} {x : Str} {v : Value} : ∀ {P : List Str} {vs : List Value} {i : Nat} {m : Str → Option Value}, P.Nodup → P[i]? = some x → vs[i]? = some v → kindOf x = some .local →
    bindL kindOf (P.zip vs) m x = some v
  | [], _, _, _, _, h, _, _ => by simp at h
  | _ :: _, [], _, _, _, _, h, _ => by simp at h
  | p :: P, w :: vs, 0, m, nd, h1, h2, hk => by
    simp at h1 h2; subst h1; subst h2
    show bindL kindOf ((p, w) :: P.zip vs) m p = _
    unfold bindL
    rw [bindL_out fun v hv => (List.nodup_cons.mp nd).1 (List.of_mem_zip hv).1, if_pos hk]
    simp
  | p :: P, w :: vs, i + 1, m, nd, h1, h2, hk => by
    show bindL kindOf ((p, w) :: P.zip vs) m x = _
    unfold bindL
    exact bindL_get (i := i) (List.nodup_cons.mp nd).2 (by simpa using h1) (by simpa using h2) hk
theorem bindC_get {kindOf : Str → Option NameKind} {x : Str} {v : Value} : ∀ {P : List Str} {vs : List Value} {i : Nat} {m : Str → Option Value}, P.Nodup → P[i]? = some x → vs[i]? = some v → kindOf x ≠ some .local →
    bindC kindOf (P.zip vs) m x = some v
  | [], _, _, _, _, h, _, _ => by simp at h
  | _ :: _, [], _, _, _, _, h, _ => by simp at h
  | p :: P, w :: vs, 0, m, nd, h1, h2, hk => by
    simp at h1 h2; subst h1; subst h2
    show bindC kindOf ((p, w) :: P.zip vs) m p = _
    unfold bindC
    rw [bindC_out fun v hv => (List.nodup_cons.mp nd).1 (List.of_mem_zip hv).1, if_neg hk]
    simp
  | p :: P, w :: vs, i + 1, m, nd, h1, h2, hk => by
    show bindC kindOf ((p, w) :: P.zip vs) m x = _
    unfold bindC
    exact bindC_get (i := i) (List.nodup_cons.mp nd).2 (by simpa using h1) (by simpa using h2) hk

/-- the names' values at the entry -/
def start (N : List Str) (vs : List V) : St := vs.map some ++ List.replicate (N.length - vs.length) none

/-- the context of a def's body, at its entry; an exception leaves the frame, then lies as CX says -/
def cxOf (CX : CXT) (P : Program) (w : World) (K : PySem.W.Frag) (mg : Str → Option Value) (base : Heap) (N : List Str) (qual : Str) (scope : Scope) (f : Addr) (cd : Value) (A : Around) (outer : List Env) (s : Shared) (H : Hp) (E : XK) : Cx where
  prog := P
  w := w
  K := K
  mg := mg
  base := base
  A := A.deeper (envOfC qual scope s.heap.objs.size f cd)
  N := N
  s₀ := s
  H₀ := H
  env := envOfC qual scope s.heap.objs.size f cd
  outer := outer
  stack := envOfC qual scope s.heap.objs.size f cd :: outer
  ex := []
  calm := true
  fn := fun _ => true
  pn := []
  xe := fun e s' => wpAny (model P w) (A.deeper (envOfC qual scope s.heap.objs.size f cd)) (leaving (envOfC qual scope s.heap.objs.size f cd) e) (fun _ s'' => CX outer H s E e s'') (fun e' s'' => CX outer H s E e' s'') s'

theorem cell_has {sc : Scope} {n : Nat} {x : Str} (h : sc.names.lookup x = some .cell) : ∃ c, (cellsFrom n sc.names []).lookup x = some c := by
  have q := PySem.W.cellsFrom_some sc.names n [] (.inl h)
  exact Option.isSome_iff_exists.mp q

theorem inv_start {CX : CXT} {P : Program} {w : World} {K : PySem.W.Frag} {mg : Str → Option Value} {base : Heap} {N ps : List Str} {qual : Str} {scope : Scope} {f : Addr} {cd : Value} {A : Around} {outer : List Env} {s s1 : Shared} {H : Hp} {E : XK} {us : List Value} {vs : List V}
    (S : FnScope N ps scope) (hd : A.handled = none) (e0 : Env0 P w K mg base A outer s H) (hl : vs.length = ps.length) (r : Vals vs us)
    (x : InCallC s s.heap.objs.size (bindL (envOfC qual scope s.heap.objs.size f cd).kindOf (ps.zip us) fun _ => none) (cellsFrom (s.heap.objs.size + 1) scope.names []) (bindC (envOfC qual scope s.heap.objs.size f cd).kindOf (ps.zip us) fun _ => none) s1) :
    Inv (cxOf CX P w K mg base N qual scope f cd A outer s H E) [] (start N vs) H s1 := by
  have hpl : ps.length ≤ N.length := by have := congrArg List.length S.pre; rw [List.length_take] at this; omega
  obtain ⟨h1, tk, rfl, hk⟩ := x.done
  have noA : ∀ b : Addr, b ∉ (cxOf CX P w K mg base N qual scope f cd A outer s H E).ex := fun b z => absurd (show b ∈ ([] : List Addr) from z) (by simp)
  refine ⟨⟨e0.mod, S.kind, rfl, rfl, Nat.le_refl _, fun y z c h1 h2 => ?_, fun y hy => ?_, fun y c _ h => ?_, fun _ => hd, Around.frames_deeper e0.frames, .inr ⟨rfl, rfl⟩, fun b z => absurd z (noA b), e0.bs, e0.bsz, fun b _ _ => noA b, fun b z => absurd z (noA b), e0.funs, e0.frf⟩,
    rfl, e0.bare, Un.kept hk, ⟨_, x.toInCall.ns, fun i y v h1 h2 h3 => ?_⟩, fun y c h => ⟨_, x.cell y c h⟩, e0.hok.fresh (Nat.le_refl _), fun y c h => ?_, fun p hp => absurd (show p ∈ ([] : List (Addr × Obj)) from hp) (by simp), e0.hok.kept hk, ?_⟩
  · exact name_of_addr x.apart (PySem.mem_of_lookup h1) (PySem.mem_of_lookup h2)
  · have hy : scope.names.lookup y = some .cell ∨ scope.names.lookup y = some .free := hy
    rcases hy with hy | hy
    · exact cell_has hy
    · exact absurd rfl (S.nofree _ (PySem.mem_of_lookup hy))
  · exact Nat.le_of_lt (x.above y c (PySem.mem_of_lookup h))
  · have hi : i < vs.length := by
      unfold start at h2
      by_cases hi : i < vs.length
      · exact hi
      · rw [List.getElem?_append_right (by simpa using hi)] at h2
        rw [List.getElem?_replicate] at h2
        split at h2 <;> cases h2
    have ha : vs[i]? = some v := by
      unfold start at h2
      rw [List.getElem?_append_left (by simpa using hi), List.getElem?_map] at h2
      cases e : vs[i]? with
      | none => rw [e] at h2; cases h2
      | some a => rw [e] at h2; cases h2; rfl
    obtain ⟨u, hu, rv⟩ := r.get ha
    have hp : ps[i]? = some y := by
      rw [← S.pre, List.getElem?_take_of_lt (by omega)]; exact h1
    have ndP : ps.Nodup := by rw [← S.pre]; exact S.nd.sublist (List.take_sublist _ _)
    refine ⟨u, rv, ?_⟩
    rcases S.par y (List.mem_of_getElem? hp) with k | k
    · exact .inl ⟨k, bindL_get ndP hp hu k⟩
    · obtain ⟨c, e⟩ := cell_has (n := s.heap.objs.size + 1) k
      refine .inr ⟨.inl k, c, e, ?_⟩
      have q := x.cell y c e
      rw [bindC_get ndP hp hu (by show scope.names.lookup y ≠ _; rw [k]; decide)] at q
      exact q
  · exact e0.hok.fresh (Nat.le_of_lt (x.above y c (PySem.mem_of_lookup h)))
  · unfold start
    show _ = N.length
    rw [List.length_append, List.length_map, List.length_replicate]
    omega

/-- THE RULE: a def (or a method) of the text, by its body. The body's reading t is chosen for each entry; it is run at the parameters' values -/
theorem fn_of {CX : CXT} {P : Program} {w : World} {K : PySem.W.Frag} {mg : Str → Option Value} {base : Heap} {k : Nat} {f : Addr} {name qual : Str} {params : Arguments} {body : List Stmt} {scope : Scope} {dV kV doc pm cdv ct oc : Value} {an od : Option Addr}
    {osl : Array (Option Value)} {N ps : List Str} {sp : Sp} (lk : K.lookup f = some ⟨oc, od, .func (PySem.W.fnOf name qual params body scope dV kV doc pm an cdv ct), osl⟩) (hcd : PySem.W.codeIn K cdv qual = true) (S : FnScope N ps scope)
    (len : ∀ vs H Q E, sp vs H Q E → vs.length = ps.length)
    (hbody : ∀ (A : Around) (outer : List Env) (s : Shared) (H : Hp) (vs : List V) (Q : VK) (E : XK), Room k (A.deeper (envOfC qual scope s.heap.objs.size f cdv)) → sp vs H Q E →
      ∃ t, PSs (cxOf CX P w K mg base N qual scope f cdv A outer s H E) body t ∧ t { nx := fun _ H' => Q .non H', rt := Q } (start N vs) H) :
    FnOk P w K mg base CX (k + 1) f (PySem.W.fnOf name qual params body scope dV kV doc pm an cdv ct) ps sp := by
  refine ⟨len, fun A outer s H args us vs Q E hr e0 hb r hsp => ?_⟩
  have hl := len _ _ _ _ hsp
  have KX : K.In s.heap := e0.mod.kin.keeps fun b o e => (e0.bs b o e).1
  have lim : s.heap.NoLimit := e0.mod.nolimit.keeps fun b o e => (e0.bs b o e).1
  have hkind : ∀ y ∈ ps.zip us, scope.names.lookup y.1 = some .local ∨ (scope.names.lookup y.1 = some .cell ∧ ((cellsFrom (s.heap.objs.size + 1) scope.names []).lookup y.1).isSome = true) := fun ⟨n, v⟩ hy => by
    rcases S.par n (List.of_mem_zip hy).1 with q | q
    · exact .inl q
    · exact .inr ⟨q, PySem.W.cellsFrom_some _ _ _ (.inl q)⟩
  refine codeAny_call_function hr.depth (KX _ _ lk) rfl S.co S.gen rfl (PySem.W.codeRec_of KX hcd) (hb _ _ _ _ ?_)
  refine wpAny_newFunctionEnv_cells S.kind hkind fun env he s1 x => ?_
  subst he
  refine ⟨lim.keeps x.toInCall.keep, codeAny_func ?_⟩
  obtain ⟨t, ht, hq⟩ := hbody A outer s H vs Q E (hr.deeper _) hsp
  have I : Inv (cxOf CX P w K mg base N qual scope f cdv A outer s H E) [] (start N vs) H s1 := inv_start S hr.hd e0 hl r x
  refine wpAny_mono (ht [] s1 (start N vs) H _ I hq) (fun fl s' hs => ?_) fun e s' hs => hs
  have fin : ∀ {σ' : St} {H' : Hp} {v : V} {u : Value}, Inv (cxOf CX P w K mg base N qual scope f cdv A outer s H E) [] σ' H' s' → RelV v u → Q v H' → CE outer P w H s Q u s' :=
    fun {σ' H' v u} J rv q => ⟨v, H', J.os, J.bare, J.base, J.hok, rv, q⟩
  cases fl with
  | ret u =>
    obtain ⟨v, σ', H', J, rv, q⟩ := hs
    exact fin J rv q
  | next =>
    obtain ⟨σ', H', J, q⟩ := hs
    exact fin (v := V.non) (u := Value.none) J rfl q
  | brk =>
    obtain ⟨_, _, _, q⟩ := hs
    exact False.elim q
  | cont =>
    obtain ⟨_, _, _, q⟩ := hs
    exact False.elim q
end L2

namespace L2
open PySem PySem.Spec PyProof.Rows
section
variable {X : Cx} {x : Str} {p pos : Pos} {e : Expr} {es : List Expr} {t : TA} {id T : String} {r : List V → Hp → VK → Prop}

def tCB (r : List V → Hp → VK → Prop) (t : TA) : TE := fun σ H Q => t σ H fun vs H1 => r vs H1 Q
/-- f(e, ..), f a built-in function -/
theorem pe_callB (hc : CallR X (.builtin id) r) (hg : Gl X x) (hm : X.mg x = none) (hv : bootBuiltins x = some (.builtin id)) (ha : PA X (e :: es) t) (hn : x ≠ "__name__" := by decide) (hdb : (x == ("__debug__" : Str)) = false := by decide)
    (he : starEach (e :: es) X.env = (false, eval e X.env) :: starEach es X.env := by rfl) (hpl : (backTo pos (starEach es X.env)).any (·.1) = false := by rfl) : PE X (.Call (.Name x p) (e :: es) [] pos) (tCB r t) := by
  intro pins s σ H Q I h
  refine wpAny_Call_Name_kw (ld_blt I hg hm hv ?_ hn hdb)
  exact PyProof.Rows.callWith_builtin1 (thn (ha pos pins s σ H _ I h) fun us s1 ⟨vs, H1, I1, r1, q1⟩ => hc pins s1 σ H1 vs us Q I1 r1 q1) he hpl
end
end L2

namespace HT
open PySem PyProof.Rows

section
open PySem.SeqAt
open PySem.AutoSeq1 (wpAny_loadPart')
open PySem.MeetsSeq PySem.MeetsSeq2 PySem.MeetsSeq3

end

section
variable {prog : Program} {w : World} {A : Around} {E : Value → Shared → Prop} {s : Shared}

/-! ### t[a:b], not the whole -/
/-- a slice's bound as a place among n (d where it is left out) -/
def sIx (n d : Nat) : Option Int → Nat
  | none => d
  | some v => if v < 0 then (v + (n : Int)).toNat else min v.toNat n
end
end HT

namespace L2
open PySem PySem.Spec PyProof.Rows

/-! ### the parts of a slice -/
abbrev TO := St → Hp → (Option Int → Hp → Prop) → Prop
section
variable {X : Cx} {e : Expr} {te : TE} {lo hi : Option Expr} {tl th : TO} {pos p2 : Pos}

/-- what a slice of a value is, by values: the slice object stands at sl -/
def SlR (X : Cx) (r : V → Option Int → Option Int → Hp → VK → Prop) : Prop :=
  ∀ (pins : List (Addr × Obj)) (s : Shared) (σ : St) (H : Hp) (x : V) (v vl vu : Value) (lo hi : Option Int) (sl : Addr) (Q : VK), Inv X pins σ H s → RelV x v → s.heap.IsSliceOf sl vl vu .none → IsPart vl lo → IsPart vu hi → r x lo hi H Q →
    ∃ T id, typeLookup (.type T) "__getitem__" = pure (some (.builtin id)) ∧ s.TypeIs v T ∧ wpAny (model X.prog X.w) X.A (getItem v (.ref sl)) (EP X pins σ Q) X.xe s
theorem SlR.or {r r' : V → Option Int → Option Int → Hp → VK → Prop} (h : SlR X r) (h' : SlR X r') : SlR X (fun x lo hi H Q => r x lo hi H Q ∨ r' x lo hi H Q) := by
  intro pins s σ H x v vl vu lo hi sl Q I rx hs pl pu q
  rcases q with q | q
  · exact h pins s σ H x v vl vu lo hi sl Q I rx hs pl pu q
  · exact h' pins s σ H x v vl vu lo hi sl Q I rx hs pl pu q
/-! ### t < u, t + u -/
end
end L2

namespace L2
open PySem PySem.Spec PyProof.Rows

/-! ### places -/
/-- the place that an index of any sign means -/
def ixN (n : Nat) (i : Int) : Option Nat := if 0 ≤ i then (if i < n then some i.toNat else none) else if -(n : Int) ≤ i then some (i + n).toNat else none
def atI {α : Type} (xs : List α) (i : Int) : Option α := (ixN xs.length i).bind fun j => xs[j]?
theorem ixN_seq {n : Nat} {i : Int} {j : Nat} (h : ixN n i = some j) : seqIndex? i n = some j ∧ j < n ∧ -(n : Int) ≤ i ∧ i < n := by
  unfold ixN at h
  by_cases h0 : 0 ≤ i
  · rw [if_pos h0] at h
    by_cases h1 : i < n
    · rw [if_pos h1] at h
      have e : i.toNat = j := Option.some.inj h
      exact ⟨by rw [seqIndex_of h0 h1, e], by omega, by omega, h1⟩
    · rw [if_neg h1] at h; cases h
  · rw [if_neg h0] at h
    by_cases h1 : -(n : Int) ≤ i
    · rw [if_pos h1] at h
      have e : (i + n).toNat = j := Option.some.inj h
      exact ⟨by rw [seqIndex_neg (by omega) h1, e], by omega, h1, by omega⟩
    · rw [if_neg h1] at h; cases h
theorem atI_get {α : Type} {xs : List α} {i : Int} {v : α} (h : atI xs i = some v) : ∃ j, seqIndex? i xs.length = some j ∧ xs[j]? = some v ∧ j < xs.length ∧ -(xs.length : Int) ≤ i ∧ i < xs.length := by
  unfold atI at h
  cases e : ixN xs.length i with
  | none => rw [e] at h; cases h
  | some j =>
    rw [e] at h
    obtain ⟨h1, h2, h3, h4⟩ := ixN_seq e
    exact ⟨j, h1, h, h2, h3, h4⟩
theorem atI_nat {α : Type} {xs : List α} {j : Nat} {v : α} (h : xs[j]? = some v) : atI xs (j : Int) = some v := by
  have hj : j < xs.length := (List.getElem?_eq_some_iff.mp h).1
  have e : ixN xs.length (j : Int) = some j := by
    unfold ixN
    rw [if_pos (by omega), if_pos (by omega)]; simp
  unfold atI; rw [e]; exact h
/-! ### what may be subscripted -/
/-- what stands as an index of a plain subscript -/
def PlainIx (b : Expr) : Prop := ∀ o i, subscripted b false o i = operate [o, i] (getItem o i)
/-- a subscript by values -/
def IxR (X : Cx) (r : R2) : Prop :=
  ∀ (value slice : Expr) (pins : List (Addr × Obj)) (s : Shared) (σ : St) (H : Hp) (x y : V) (v u : Value) (Q : VK), Inv X pins σ H s → RelV x v → RelV y u → r x y H Q →
    subscripted slice false v u = operate [v, u] (getItem v u) → wpAny (model X.prog X.w) X.A (subscriptTail value slice v u) (EP X pins σ Q) X.xe s
/-- a call of a builtin's method by values: the receiver, the arguments -/
def MtR (X : Cx) (id : String) (r : V → List V → Hp → VK → Prop) : Prop :=
  ∀ (pins : List (Addr × Obj)) (s : Shared) (σ : St) (H : Hp) (x : V) (xs : List V) (v : Value) (us : List Value) (Q : VK), Inv X pins σ H s → RelV x v → Vals xs us → r x xs H Q →
    wpAny (model X.prog X.w) X.A (call (.builtin id) (v :: us)) (EP X pins σ Q) X.xe s
section
variable {X : Cx} {a b : Expr} {ta tb : TE} {pos : Pos}
theorem IxR.or {r r' : R2} (h : IxR X r) (h' : IxR X r') : IxR X (fun x y H Q => r x y H Q ∨ r' x y H Q) := by
  intro value slice pins s σ H x y v u Q I rx ry q hs
  rcases q with q | q
  · exact h value slice pins s σ H x y v u Q I rx ry q hs
  · exact h' value slice pins s σ H x y v u Q I rx ry q hs
theorem MtR.or {id : String} {r r' : V → List V → Hp → VK → Prop} (h : MtR X id r) (h' : MtR X id r') : MtR X id (fun x xs H Q => r x xs H Q ∨ r' x xs H Q) := by
  intro pins s σ H x xs v us Q I rx rs q
  rcases q with q | q
  · exact h pins s σ H x xs v us Q I rx rs q
  · exact h' pins s σ H x xs v us Q I rx rs q
/-- a[b] -/
theorem pe_ix {r : R2} (hr : IxR X r) (ha : PE X a ta) (hb : PE X b tb) (hs : PlainIx b) : PE X (.Subscript a b pos) (tOp r ta tb) := by
  intro pins s σ H Q I h
  exact Subscript_ (binT ha hb I h fun v u s2 x y H2 I2 rx ry q => hr a b pins s2 σ H2 x y v u Q I2 rx ry q (hs _ _))

def rIxL (K : PySem.W.Frag) : R2 := fun x y H Q => ∃ p xs i v, x = .ref p ∧ y = .int i ∧ SqL K H p xs ∧ atI xs i = some v ∧ Q v H
def rIxT (K : PySem.W.Frag) : R2 := fun x y H Q => ∃ p xs i v, x = .ref p ∧ y = .int i ∧ SqT K H p xs ∧ atI xs i = some v ∧ Q v H
theorem ix_list : IxR X (rIxL X.K) := by
  intro value slice pins s σ H x y v u Q I rx ry h hs
  obtain ⟨p, xs, i, z, rfl, rfl, hq, he, q⟩ := h
  cases rx
  obtain ⟨t, rfl⟩ := ry
  obtain ⟨its, r, pl, hz⟩ := I.list hq
  obtain ⟨j, h1, h2, h3, h4, h5⟩ := atI_get he
  obtain ⟨w, ew, rw'⟩ := r.get h2
  have hl := r.length
  have hn := line63
  have fin : EP X pins σ Q w s := ⟨z, H, I, rw', q⟩
  by_cases h0 : 0 ≤ i
  · have hj : i.toNat = j := by
      rw [seqIndex_of h0 h5] at h1
      exact Option.some.inj h1
    exact item_listR pl.isList h0 (by omega) (by rw [hj]; simpa using ew) fin hs
  · have hj : (i + (its.toArray.size : Int)).toNat = j := by
      rw [seqIndex_neg (by omega) h4] at h1
      rw [List.size_toArray, ← hl]
      exact Option.some.inj h1
    exact subscriptTail_builtinR (x := w) pl.isList.typeIs slot_list_getitem.lookup
      (wpAny_getItem_list_neg (Q := fun r s' => r = w ∧ EP X pins σ Q r s') pl.isList (by omega) (by rw [List.size_toArray] <;> omega) (by omega) (by rw [hj]; simpa using ew) ⟨rfl, fin⟩) hs
theorem ix_tup : IxR X (rIxT X.K) := by
  intro value slice pins s σ H x y v u Q I rx ry h hs
  obtain ⟨p, xs, i, z, rfl, rfl, hq, he, q⟩ := h
  cases rx
  obtain ⟨t, rfl⟩ := ry
  obtain ⟨its, r, pl, hz⟩ := I.tuple hq
  obtain ⟨j, h1, h2, h3, h4, h5⟩ := atI_get he
  obtain ⟨w, ew, rw'⟩ := r.get h2
  have hl := r.length
  have hn := line63
  have fin : EP X pins σ Q w s := ⟨z, H, I, rw', q⟩
  exact subscriptTail_builtinR (x := w) pl.typeIs slot_tuple_getitem.lookup
    (getItem_tuple (j := j) (Q := fun r s' => r = w ∧ EP X pins σ Q r s') pl (by omega) (by omega) (by rw [List.size_toArray, ← hl]; exact h1) (by simpa using ew) ⟨rfl, fin⟩) hs
/-! ### xs[i] = v, any sign -/
theorem Inv.lst {pins : List (Addr × Obj)} {σ : St} {H : Hp} {s : Shared} {p : Addr} {xs : List V} (I : Inv X pins σ H s) (h : H p = some (.lst xs)) :
    ∃ (its : List Value) (n : Nat), Vals xs its ∧ s.heap.get? p = some { cls := .type "list", data := .seq its.toArray n } ∧ xs.length ≤ sizeLine := by
  obtain ⟨z, its, n, r, e⟩ := I.hok p _ h
  exact ⟨its, n, r, e, z⟩
/-! ### slices -/
/-! ### in, not in: flat items -/
/-! ### len, list(x), tuple(x) of any list or tuple that is read -/
theorem call_len_seq : CallR X (.builtin "len") (fun xs H Q => ∃ p ys, xs = [.ref p] ∧ (SqL X.K H p ys ∨ SqT X.K H p ys) ∧ Q (.int ys.length) H) := by
  intro pins s σ H xs us Q I r h
  obtain ⟨p, ys, rfl, hq, q⟩ := h
  obtain ⟨u, rfl, rx⟩ := vals1 r
  cases rx
  have hn := line63
  rcases hq with hq | hq
  · obtain ⟨its, r', pl, hz⟩ := I.list hq
    have hlen := r'.length
    exact Calls.call_len_list pl.isList (by simp only [List.size_toArray] <;> omega) ⟨.int ys.length, H, I.tok _, ⟨s.toks + 1, by rw [List.size_toArray, hlen]⟩, q⟩
  · obtain ⟨its, r', pl, hz⟩ := I.tuple hq
    have hlen := r'.length
    exact len_tuple pl (by simp only [List.size_toArray] <;> omega) ⟨.int ys.length, H, I.tok _, ⟨s.toks + 1, by rw [List.size_toArray, hlen]⟩, q⟩
theorem CallR.or {f : Value} {r r' : List V → Hp → VK → Prop} (h : CallR X f r) (h' : CallR X f r') : CallR X f (fun xs H Q => r xs H Q ∨ r' xs H Q) := by
  intro pins s σ H xs us Q I rs q
  rcases q with q | q
  · exact h pins s σ H xs us Q I rs q
  · exact h' pins s σ H xs us Q I rs q
/-! ### the call of a builtin's method: o.m(..) -/
/-- the value is of that builtin type -/
def tyV (K : PySem.W.Frag) (T : String) (x : V) (H : Hp) : Prop := match x with
  | .str _ => T = "str"
  | .int _ => T = "int"
  | .ref p => (T = "list" ∧ ∃ xs, SqL K H p xs) ∨ (T = "tuple" ∧ ∃ o, K.lookup p = some o ∧ o.cls = .type "tuple" ∧ o.dict = none) ∨
      (T = "dict" ∧ ((∃ kvs, H p = some (.dK kvs)) ∨ ∃ kvs, H p = some (.dT kvs))) ∨ (T = "set" ∧ ∃ S n, H p = some (.set S n))
  | _ => False
theorem tyV_is {pins : List (Addr × Obj)} {σ : St} {H : Hp} {s : Shared} {T : String} {x : V} {v : Value} (I : Inv X pins σ H s) (r : RelV x v) (ty : tyV X.K T x H) :
    s.TypeIs v T ∧ ∀ a, v = .ref a → ∃ ob, s.heap.get? a = some ob ∧ ob.dict = none := by
  cases x with
  | str z =>
    obtain ⟨t, rfl⟩ := r
    cases (show T = "str" from ty)
    exact ⟨typeIs_str s z t, fun _ e => nomatch e⟩
  | int i =>
    obtain ⟨t, rfl⟩ := r
    cases (show T = "int" from ty)
    exact ⟨typeIs_int s i t, fun _ e => nomatch e⟩
  | ref p =>
    cases r
    rcases ty with ⟨rfl, xs, hq⟩ | ⟨rfl, o, hk, hc, hd⟩ | ⟨rfl, hk⟩ | ⟨rfl, S, n, hk⟩
    · obtain ⟨its, _, pl, _⟩ := I.list hq
      refine ⟨pl.isList.typeIs, fun a e => ?_⟩
      cases e
      obtain ⟨o, n, e, c, hd, _⟩ := pl
      exact ⟨o, e, hd⟩
    · refine ⟨⟨o, I.kIn p o hk, hc⟩, fun a e => ?_⟩
      cases e
      exact ⟨o, I.kIn _ o hk, hd⟩
    · have z : ∃ o, s.heap.get? p = some o ∧ o.ExactDict := by
        rcases hk with ⟨kvs, hk⟩ | ⟨kvs, hk⟩
        · obtain ⟨_, _, _, _, o, _, _, e, ex, _⟩ := I.hok p _ hk
          exact ⟨o, e, ex⟩
        · obtain ⟨_, _, _, _, o, _, _, e, ex, _⟩ := I.hok p _ hk
          exact ⟨o, e, ex⟩
      obtain ⟨o, e, ex⟩ := z
      refine ⟨⟨o, e, ex.1⟩, fun a e2 => ?_⟩
      cases e2
      exact ⟨o, e, ex.2.1⟩
    · obtain ⟨o, _, _, _, e, ex, _⟩ := I.hok p _ hk
      refine ⟨⟨o, e, ex.1⟩, fun a e2 => ?_⟩
      cases e2
      exact ⟨o, e, ex.2.1⟩
  | _ => exact False.elim ty
def tBM0 (K : PySem.W.Frag) (T : String) (r : V → List V → Hp → VK → Prop) (to : TE) : TE := fun σ H Q => to σ H fun x H1 => tyV K T x H1 ∧ r x [] H1 Q
def tBM (K : PySem.W.Frag) (T : String) (r : V → List V → Hp → VK → Prop) (to : TE) (t : TA) : TE := fun σ H Q => to σ H fun x H1 => tyV K T x H1 ∧ t σ H1 fun xs H2 => r x xs H2 Q
variable {o e : Expr} {es : List Expr} {to : TE} {t : TA} {name : Str} {apos cpos : Pos} {T id : String} {r : V → List V → Hp → VK → Prop}
theorem pe_bm0 (pa : PlainAttrs T) (slot : Slot T name id) (hty : typeOf (.builtin id) = pure (.type "method_descriptor")) (hm : MtR X id r) (ho : PE X o to)
    (hbase : attributeBase o name X.env (eval o X.env) = eval o X.env := by rfl) (hline : (apos.endLine == cpos.line) = true := by rfl) : PE X (.Call (.Attribute o name apos) [] [] cpos) (tBM0 X.K T r to) := by
  intro pins s σ H Q I h
  refine wpAny_Call_method0_late hbase hline (thn (ho pins s σ H _ I h) fun v s1 ⟨x, H1, I1, r1, ty, q1⟩ => ?_)
  obtain ⟨h1, h2⟩ := tyV_is I1 r1 ty
  exact ⟨T, id, pa, slot, hty, h1, h2, Calls.callWith_builtin rfl (PySem.evalArgs_none (hm pins s1 σ H1 x [] v [] Q I1 r1 .nil q1))⟩
theorem pe_bm (pa : PlainAttrs T) (slot : Slot T name id) (hty : typeOf (.builtin id) = pure (.type "method_descriptor")) (hm : MtR X id r) (ho : PE X o to) (ha : PA X (e :: es) t)
    (hbase : attributeBase o name X.env (eval o X.env) = eval o X.env := by rfl)
    (hfew : ((backTo cpos (starEach (e :: es) X.env)).all (fun x => !x.1) && (backToKw cpos (keywordEach [] X.env)).all (fun x => x.1.isSome)
      && decide ((e :: es).length + ([] : List Keyword).length + (if ([] : List Keyword).isEmpty then 0 else 1) < 30)) = true := by rfl)
    (hline : (apos.endLine == cpos.line) = true := by rfl) (hs : starEach (e :: es) X.env = (false, eval e X.env) :: starEach es X.env := by rfl) (hplain : (backTo cpos (starEach es X.env)).any (·.1) = false := by rfl) :
    PE X (.Call (.Attribute o name apos) (e :: es) [] cpos) (tBM X.K T r to t) := by
  intro pins s σ H Q I h
  refine wpAny_Call_method_late hbase hfew hline rfl (thn (ho pins s σ H _ I h) fun v s1 ⟨x, H1, I1, r1, ty, q1⟩ => ?_)
  obtain ⟨h1, h2⟩ := tyV_is I1 r1 ty
  refine ⟨T, id, pa, slot, hty, h1, h2, ?_⟩
  have hA := ha cpos pins s1 σ H1 _ I1 q1
  rw [hs] at hA ⊢
  refine Calls.callWith_builtin (by show (false || (backTo cpos (starEach es X.env)).any (·.1)) = false; rw [hplain] <;> rfl) (Calls.evalArgs_plain ?_)
  exact thn hA fun us s2 ⟨vs, H2, I2, r2, q2⟩ => hm pins s2 σ H2 x vs v us Q I2 r1 r2 q2
/- xs.append(e), list.index on a module's tuple .. are MtR facts of 06m -/
end
end L2

namespace L2
open PySem PySem.Spec PyProof.Rows

def MtM (X : Cx) (id : String) (r : V → List V → Hp → VK → Prop) : Prop :=
  ∀ (pins : List (Addr × Obj)) (s : Shared) (σ : St) (H : Hp) (x : V) (xs : List V) (v : Value) (us : List Value) (Q : VK), Inv X pins σ H s → RelV x v → Vals xs us → r x xs H Q →
    wpAny (model X.prog X.w) X.A (call (.builtin id) (v :: us)) (EP X pins σ Q) X.xe s

/-! ### lists of values -/
theorem Vals.one : ∀ {x : V} {us : List Value}, Vals [x] us → ∃ u, us = [u] ∧ RelV x u
  | _, _, .cons r .nil => ⟨_, rfl, r⟩
theorem Vals.zero : ∀ {us : List Value}, Vals [] us → us = []
  | _, .nil => rfl
theorem Vals.dropLast {xs : List V} {us : List Value} (h : Vals xs us) : Vals xs.dropLast us.dropLast := by
  induction h with
  | nil => exact .nil
  | cons r t ih =>
    cases t with
    | nil => exact .nil
    | cons q t' => exact .cons r ih
theorem Vals.eraseIdx : ∀ {xs : List V} {us : List Value} (i : Nat), Vals xs us → Vals (xs.eraseIdx i) (us.eraseIdx i)
  | _, _, _, .nil => .nil
  | _, _, 0, .cons _ t => t
  | _, _, i + 1, .cons r t => .cons r (Vals.eraseIdx i t)
theorem Vals.reverse {xs : List V} {us : List Value} (h : Vals xs us) : Vals xs.reverse us.reverse := by
  induction h with
  | nil => exact .nil
  | cons r t ih => rw [List.reverse_cons, List.reverse_cons]; exact Vals.append ih (.cons r .nil)
theorem erase_last {α : Type} (l : List α) : l.eraseIdx (l.length - 1) = l.dropLast := by
  induction l with
  | nil => rfl
  | cons a r ih =>
    cases r with
    | nil => rfl
    | cons b r =>
      have e : (a :: b :: r).length - 1 = ((b :: r).length - 1) + 1 := by
        have h1 : (a :: b :: r).length = r.length + 2 := rfl
        have h2 : (b :: r).length = r.length + 1 := rfl
        omega
      rw [e, List.eraseIdx_cons_succ, ih]
      all_goals rfl
section
variable {X : Cx} {pins : List (Addr × Obj)} {σ : St} {H : Hp} {s : Shared} {l b : Addr} {xs ys zs : List V}

/-! ### the two steps: a tracked list is rewritten, a new list is laid -/
theorem Inv.lset {its its' : List Value} {n : Nat} {f : Array Value → Array Value} {t' : Nat} (I : Inv X pins σ H s) (hH : H l = some (.lst xs))
    (e : s.heap.get? l = some { cls := .type "list", data := .seq its.toArray n }) (hf : f its.toArray = its'.toArray) (hv : Vals ys its') (hz : ys.length ≤ sizeLine) :
    Inv X pins σ (upd H l (.lst ys)) { s with heap := s.heap.update l (Obj.mapSeq f), toks := t' } := by
  have q := PySem.IsL.update e f
  rw [hf] at q
  refine I.write (x := l) (e := l) (by rw [hH]; exact trivial) (.inl rfl) (fun b' u hb hu => (Heap.get?_update_other s.heap (Obj.mapSeq f) (Ne.symm hb)).trans hu) ⟨_, q⟩ ?_
  exact ⟨hz, its', _, hv, q⟩
theorem Inv.lnew {its : List Value} {t' : Nat} (I : Inv X pins σ H s) (hv : Vals ys its) (hz : ys.length ≤ sizeLine) :
    Inv X pins σ (upd H s.heap.objs.size (.lst ys)) { s with heap := s.heap.push { cls := .type "list", data := .seq its.toArray }, toks := t' } :=
  I.laid (fun _ _ q => Heap.get?_push_of_some _ q) (Nat.le_refl _) ⟨hz, its, 0, hv, Heap.get?_push_size _ rfl⟩
theorem Inv.fresh (I : Inv X pins σ H s) : H s.heap.objs.size = none := I.hok.fresh (Nat.le_refl _)
theorem Inv.lstM (I : Inv X pins σ H s) (hH : H l = some (.lst xs)) : xs.length ≤ sizeLine ∧ ∃ (its : List Value) (n : Nat), Vals xs its ∧ xs.length = its.length ∧ s.heap.get? l = some { cls := .type "list", data := .seq its.toArray n } := by
  obtain ⟨z, its, n, r, e⟩ := I.hok l _ hH
  exact ⟨z, its, n, r, r.length, e⟩

end

section
variable {X : Cx}

/-! ### methods -/
def rAppend : V → List V → Hp → VK → Prop := fun x vs H Q => ∃ l xs y, x = .ref l ∧ vs = [y] ∧ H l = some (.lst xs) ∧ xs.length < sizeLine ∧ Q .non (upd H l (.lst (xs ++ [y])))
theorem mt_append : MtM X "list.append" rAppend := by
  intro pins s σ H x vs v us Q I rx rv h
  obtain ⟨l, xs, y, rfl, rfl, hH, hz, q⟩ := h
  cases rx
  obtain ⟨u, rfl, ru⟩ := rv.one
  obtain ⟨z, its, n, r, hl, e⟩ := I.lstM hH
  refine call_meets F.slot_list_append ⟨_, e, rfl⟩ F.entry_list_append (F.args_list_append_2 _ _) (PySem.list_append l its.toArray n u (by rw [List.size_toArray]; omega)) ⟨e, ?_⟩
  refine ⟨.non, _, I.lset (its' := its ++ [u]) hH e (by simp) (r.append (.cons ru .nil)) ?_, rfl, q⟩
  rw [List.length_append, List.length_singleton]
  omega

def rPop : V → List V → Hp → VK → Prop := fun x vs H Q => ∃ l xs y, x = .ref l ∧ vs = [] ∧ H l = some (.lst xs) ∧ xs[xs.length - 1]? = some y ∧ Q y (upd H l (.lst xs.dropLast))
theorem mt_pop : MtM X "list.pop" rPop := by
  intro pins s σ H x vs v us Q I rx rv h
  obtain ⟨l, xs, y, rfl, rfl, hH, hy, q⟩ := h
  cases rx
  have hus := rv.zero
  subst hus
  obtain ⟨z, its, n, r, hl, e⟩ := I.lstM hH
  obtain ⟨u, hu, ru⟩ := r.get hy
  have hy' : its.toArray[its.toArray.size - 1]? = some u := by
    show its.toArray[its.length - 1]? = some u
    rw [← Array.getElem?_toList, ← hl]
    exact hu
  refine call_meets F.slot_list_pop ⟨_, e, rfl⟩ F.entry_list_pop (F.args_list_pop_1 _) (MeetsSeq.list_pop_last l its.toArray n u hy' (by rw [List.size_toArray]; omega)) ⟨e, ?_⟩
  refine ⟨y, _, I.lset (its' := its.dropLast) hH e ?_ r.dropLast ?_, ru, q⟩
  · show its.toArray.eraseIdxIfInBounds (its.toArray.size - 1) = its.dropLast.toArray
    rw [List.size_toArray, List.eraseIdxIfInBounds_toArray, erase_last]
  · rw [List.length_dropLast]
    omega

/-! ### list + list, list += list, list * int -/
/-! ### del xs[i] -/
end

/-! ### xs[a:b] = ys -/
section
variable {prog : Program} {w : World} {A : Around} {E : Value → Shared → Prop} {s : Shared}
end

section
variable {X : Cx}
end
end L2

namespace Att
open PySem PySem.W PySem.Calls PyProof.Rows

/-! ### the script -/
theorem ints_of_wellAll {P : Params} {h : Heap} : ∀ (ns : List Int) (vs : List Value), WellAll P h vs (ns.map WData.int) → IntsAre vs ns := by
  intro ns
  induction ns with
  | nil =>
    intro vs w
    rw [List.map_nil] at w
    cases w
    exact .nil
  | cons n ns ih =>
    intro vs w
    rw [List.map_cons] at w
    cases w with
    | cons a b =>
      cases a
      exact .cons _ _ (ih _ b)

theorem script_of {l : OpenLaw} {n : Nat} (hn : l.most = some n) {P : Params} {h : Heap} {args : List WData} {vals : List Value}
    (hpre : l.row.toRowW.claim.pre args = true) (hwl : WellAll P h vals args) :
    ∃ a vs ns, vals = [Value.ref a] ∧ args = [WData.list (ns.map WData.int)] ∧ h.get? a = some { cls := .type "list", data := .seq vs.toArray } ∧ IntsAre vs ns ∧ ns.length ≤ n := by
  have hsh : WShape.hasAll [] args [.list .int] = true := (pre_splitW hpre).1
  have hc : l.pre.holds [] { args := args } = true := (pre_splitW hpre).2
  obtain ⟨d, r, rfl, h1, h2⟩ := hasAllW_cons hsh
  obtain rfl := hasAllW_nil h2
  obtain ⟨xs, rfl, h3⟩ := hasW_list h1
  obtain ⟨ns, rfl⟩ := items_int h3
  have hlen : ns.length ≤ n := by
    unfold OpenLaw.pre at hc
    have h4 : (WTm.not (.lt (.lit (.int (n : Int))) (.len (.arg 0)))).holds [] { args := [.list (ns.map .int)] } = true := by
      have h4 := (holds_andW hc).1
      rw [hn] at h4
      exact h4
    have h5 := condW_of h4 (w_not (w_lt w_lit (w_len_list (w_arg rfl))))
    rw [List.length_map] at h5
    refine Nat.le_of_not_lt fun q => ?_
    have q' : (n : Int) < ((ns.length : Nat) : Int) := by omega
    first
      | (rw [decide_eq_true q'] at h5; exact absurd h5 (by decide))
      | (simp at h5; omega)
  cases hwl with
  | cons w1 w2 =>
    cases w2
    cases w1 with
    | list ho hall => exact ⟨_, _, ns, rfl, rfl, ho, ints_of_wellAll ns _ hall, hlen⟩

theorem post_true (l : OpenLaw) (args : List WData) : l.row.toRowW.claim.post args (.bool true) args = true :=
  postW_of (r := l.row.toRowW) (X := (true == true))
    (show WShape.has [] (.bool true) .bool = true by first | rfl | decide | simp [WShape.has, WShape.arms, WShape.armsAll])
    (show (WTm.eq .res (.lit (.bool true))).value [] { args := args, res := some (.bool true), after := args } = some (.bool (true == true)) from w_eq_bool (w_res rfl) w_lit) rfl

/-! ### the attachment: holds_open's last premise (the goal 'hc' behind k_head) from a wpAny of the law's body -/
/-- the same from a codeAny of the CALL (for a layer whose function contracts speak of calls) -/
theorem attach_call {l : OpenLaw} {n : Nat} {q : Program} {loose : List Str} {XP : (Str → Option Value) → Heap → Prop} {YP : World → Heap → Prop} {d : DefRec}
    (hn : l.most = some n) (hdf : d.params.defaults = [])
    (call : ∀ (w : World) (s₀ s₁ : Shared) (mg mb : Str → Option Value) (fa : Addr) (o : Obj) (pm cd doc : Value) (a : Addr) (vs : List Value) (ns : List Int),
      Ground q loose [] XP w s₀ mg mb s₁.heap → YP w s₁.heap →
      s₁.heap.get? fa = some o → o.data = .func (docDef d.name d.params d.body d.scope pm cd doc) → s₁.heap.CodeRec cd d.name → mg d.name = some (.ref fa) →
      s₁.heap.get? a = some { cls := .type "list", data := .seq vs.toArray } → IntsAre vs ns → ns.length ≤ n → s₁.gens = #[] →
      codeAny (model l.prog w) callerA (.call (.ref fa) ⟨[.ref a], []⟩) (fun r s' => r = .ok (.ret (.bool true)) ∧ OldK s₁.heap s'.heap ∧ s'.os = s₁.os ∧ AllBare s'.gens) s₁) :
    WalkO q loose XP YP l.row.toRowW d [] (fun f vs => PySem.call f vs) := by
  intro w s₀ s₁ mg mb G Y fa o pm cd doc dV kV ho hd hcd hD hmg hg args vals as hpre hlay hrd hwl hlo
  obtain rfl : dV = .none := Dflts.none hD hdf
  obtain rfl : kV = .none := Dflts.noKw hD
  obtain ⟨a, vs, ns, rfl, rfl, hobj, hints, hlen⟩ := script_of hn hpre hwl
  refine enter_call (codeAny_mono (call w s₀ s₁ mg mb fa o pm cd doc a vs ns G Y ho (fd_plain hd) hcd hmg hobj hints hlen hg) fun r s' hq => ?_)
  obtain ⟨rfl, h2, h3, h4⟩ := hq
  exact ⟨.inl ⟨.bool true, .bool true, [], rfl, fun _ => rfl, .bool true, post_true l _, fun _ => ⟨List.Pairwise.nil, fun _ hm => (nomatch hm)⟩⟩, h2, h3, h4⟩

/-! ### rules over ANY heap (no ledger) from facts about the written part K: the library's own take a ledger (News) for what they write -/
section
variable {prog : Program} {w : World} {A : Around} {E : Value → Shared → Prop} {s : Shared} {K : Frag}

/-! the whole heap as the ledger: makes every rule that writes through a ledger a rule over any heap -/
end
end Att

namespace L2
open PySem PySem.Spec PyProof.Rows

theorem vals_ints : ∀ {vs : List Value} {ns : List Int}, IntsAre vs ns → Vals (ns.map V.int) vs
  | _, _, .nil => .nil
  | _, _, .cons n t h => .cons ⟨t, rfl⟩ (vals_ints h)

end L2

namespace L2
open PySem PySem.Spec PyProof.Rows

end L2

/- THE LAST THEOREM (shape; LID, My.* are yours):
   My.Adr: a structure of the addresses that your layer names (classes, functions); My.Txt K t: a structure (Prop) of the equations over K;
   My.txt_mk : {K} {implicit addresses ..} (e1 : nsIn K mainGlobals "law" = some (some (.ref f))) (e2 : K.lookup f = some ⟨oc, od, .func (fnOf "law" "law" params body scope dV kV doc pm an cdv ct), sl⟩) (e3 : codeIn K cdv "law" = true) .. : ∃ t, My.Txt K t

set_option maxRecDepth 100000 in
set_option maxHeartbeats 0 in
theorem PySem.Challenge.cw_LID_holds : PySem.Challenge.rw_LID.Holds := by
  w_on; o_law; k_head; (case hw => w_witness2)
  k_fill
  refine L2.walk_of (l := PySem.Challenge.rw_LID) (n := 63) (k := 40) (x := "script") (CX := fun w => ..) (sp := fun _ => My.sp_law) rfl (by decide) rfl ⟨rfl, by decide, by decide⟩ (fun w h Y => PySem.W.kIn_of Y) ?F ?S ?C
  case F =>
    intro w mg fa h KX G hmg
    have T : ∃ t, My.Txt (L2.KOf KX) t := by
      dsimp only [L2.KOf]                          -- K must stand as «<heap const> w.params» for k_is
      refine' My.txt_mk ?e1 ?e2 ?e3 ..
      (case e1 => PySem.W.k_is)                    -- in the order: a name -> its address -> its object -> its parts
      (case e2 => PySem.W.k_is)
      ..
    obtain ⟨t, T⟩ := T
    have e0 := hmg.symm.trans (PySem.W.mg_of KX G T.law)
    cases e0                                       -- fa is the law's own address
    exact ⟨_, fun s u => .of_eq rfl, fun base kb nb => My.law_fn T kb nb⟩     -- if «.of_eq rfl» comes too early: refine' ⟨_, ?b, fun base kb nb => My.law_fn T kb nb⟩; exact fun s u => .of_eq rfl
  case S => exact fun w H a ns hl hO hS => ..
  case C => exact ..
(the tactic k_is has no namespace: write k_is) -/

/-! SHORT WORDS over the layer: a def of the text, its body, what a loop and a test want. -/
namespace L2
open PySem PySem.Spec PyProof.Rows

/-! ### the text by places -/
def defArgs (s : Stmt) : Arguments := match s with
  | .FunctionDef _ a _ _ _ _ _ _ _ _ => a
  | _ => { posonlyargs := [], args := [], vararg := none, kwonlyargs := [], kw_defaults := [], kwarg := none, defaults := [] }
def defBody (s : Stmt) : List Stmt := match s with
  | .FunctionDef _ _ b _ _ _ _ _ _ _ => b
  | _ => []
def defScope (s : Stmt) : Scope := match s with
  | .FunctionDef _ _ _ _ _ _ sc _ _ _ => sc
  | _ => { kind := .function, names := [], isGenerator := false, isCoroutine := false }

/-! ### no exception leaves a def -/
abbrev CX0 : CXT := fun _ _ _ _ _ _ => False
abbrev E0 : XK := fun _ _ _ => False
theorem pass0 {X : Cx} : Passes CX0 X E0 := fun _ _ _ _ _ _ _ h => h.elim

/-! ### a def (or method) of the text as it stands behind the top -/
structure Fun (K : PySem.W.Frag) (x qual : Str) (st : Stmt) (f : Addr) (fd : FuncData) : Prop where
  ex : ∃ (oc : Value) (od : Option Addr) (kV doc pm : Value) (an : Option Addr) (cdv ct : Value) (osl : Array (Option Value)),
    fd = PySem.W.fnOf x qual (defArgs st) (defBody st) (defScope st) .none kV doc pm an cdv ct ∧ K.lookup f = some ⟨oc, od, .func fd, osl⟩ ∧ PySem.W.codeIn K cdv qual = true
  kp : PySem.W.keepIn K (.ref f) = true
section
variable {P : Program} {w : World} {K : PySem.W.Frag} {mg : Str → Option Value} {base : Heap}
/-- THE RULE for a def: its body as a term of rules, and the reading of that term -/
theorem Fun.ok {x qual : Str} {st : Stmt} {f : Addr} {fd : FuncData} {N ps : List Str} {k : Nat} {sp : Sp} (F : Fun K x qual st f fd) (S : FnScope N ps (defScope st)) (len : ∀ vs H Q E, sp vs H Q E → vs.length = ps.length)
    (hbody : ∀ (cdv : Value) (A : Around) (outer : List Env) (s : Shared) (H : Hp) (vs : List V) (Q : VK) (E : XK), Room k (A.deeper (envOfC qual (defScope st) s.heap.objs.size f cdv)) → sp vs H Q E →
      ∃ t, PSs (cxOf CX0 P w K mg base N qual (defScope st) f cdv A outer s H E).nox (defBody st) t ∧ t { nx := fun _ H' => Q .non H', rt := Q } (start N vs) H) : FnOk P w K mg base CX0 (k + 1) f fd ps sp := by
  obtain ⟨oc, od, kV, doc, pm, an, cdv, ct, osl, rfl, lk, hcd⟩ := F.ex
  refine fn_of lk hcd S len fun A outer s H vs Q E hr hsp => ?_
  obtain ⟨t, h, q⟩ := hbody cdv A outer s H vs Q E hr hsp
  exact ⟨t, h.nox, q⟩
/-- how its arguments bind (no defaults): h is «fun _ _ _ _ _ _ us hl => match us, hl with | [_, _], _ => rfl», one _ a parameter -/
theorem Fun.binds {x qual : Str} {st : Stmt} {f : Addr} {fd : FuncData} {ps : List Str} (F : Fun K x qual st f fd)
    (h : ∀ (kV doc pm : Value) (an : Option Addr) (cdv ct : Value) (us : List Value), us.length = ps.length → bindArgs (PySem.W.fnOf x qual (defArgs st) (defBody st) (defScope st) .none kV doc pm an cdv ct) ⟨us, []⟩ = pure (ps.zip us)) : Binds K fd ps [] := by
  obtain ⟨oc, od, kV, doc, pm, an, cdv, ct, osl, rfl, lk, hcd⟩ := F.ex
  exact .all (h kV doc pm an cdv ct)
theorem fun_mk {x qual : Str} {st : Stmt} {f : Addr} {oc : Value} {od an : Option Addr} {osl : Array (Option Value)} {kV doc pm cdv ct : Value} (l : K.lookup f = some ⟨oc, od, .func (PySem.W.fnOf x qual (defArgs st) (defBody st) (defScope st) .none kV doc pm an cdv ct), osl⟩)
    (c : PySem.W.codeIn K cdv qual = true) (k : PySem.W.keepIn K (.ref f) = true) : Fun K x qual st f (PySem.W.fnOf x qual (defArgs st) (defBody st) (defScope st) .none kV doc pm an cdv ct) := ⟨⟨oc, od, kV, doc, pm, an, cdv, ct, osl, rfl, l, c⟩, k⟩
end
theorem small1000 {n : Nat} (h : n ≤ 1000) : n < sizeLine := Nat.lt_of_le_of_lt h (by decide)

/-! ### expressions in short: the name that stands in the i-th slot -/
section
variable {X : Cx}
theorem pv (i : Nat) {x : Str} {pos : Pos} (hN : X.N[i]? = some x := by rfl) (hv : Vis X.env.scope x := by first | exact Or.inl rfl | exact Or.inr (Or.inl rfl) | exact Or.inr (Or.inr rfl)) (hd : (x == ("__debug__" : Str)) = false := by decide)
    (hcd : (x == ("__classdict__" : Str)) = false := by decide) : PE X (.Name x pos) (tVar i) := pe_var hN hv hd hcd
end

/-! ### tests -/
/-! ### heaps -/
/-- all that was tracked is as it was -/
def Same (H H' : Hp) : Prop := ∀ b o, H b = some o → H' b = some o
theorem Same.refl (H : Hp) : Same H H := fun _ _ h => h
theorem Same.trans {H H1 H2 : Hp} (a : Same H H1) (b : Same H1 H2) : Same H H2 := fun c o h => b c o (a c o h)
theorem Same.free {H H' : Hp} (e : Same H H') {l : Addr} (h : H' l = Option.none) : H l = Option.none := by
  cases q : H l with
  | none => rfl
  | some o =>
    rw [e l o q] at h
    cases h
theorem Same.seq {K : PySem.W.Frag} {H H' : Hp} {a : Addr} {xs : List V} (e : Same H H') (h : SqL K H a xs) : SqL K H' a xs := by
  rcases h with (h | ⟨o, h⟩) | h
  · exact .inl (.inl (e _ _ h))
  · exact .inl (.inr ⟨o, e _ _ h⟩)
  · exact .inr h

end L2

set_option Elab.async false
set_option linter.all false
set_option maxRecDepth 100000
/-! A LIST COMPREHENSION over the hand layer: one for, any tests that its element needs. -/
namespace L2
open PySem PySem.Spec PyProof.Rows

theorem closure_go {env : Env} : ∀ (names : List (Str × NameKind)) (cs : List (Str × Addr)), (∀ y ∈ names, y.2 = .free → ∃ c, env.cells.lookup y.1 = some c) → (∀ x c, cs.lookup x = some c → env.cells.lookup x = some c) →
    ∃ cl : List (Str × Addr), (forIn names cs (fun (y : Str × NameKind) (r : List (Str × Addr)) => (if (y.2 == NameKind.free) = true then (cellOf env y.1 >>= fun a => pure (ForInStep.yield ((y.1, a) :: r))) else pure (ForInStep.yield r) : Sem (ForInStep (List (Str × Addr)))))) = (pure cl : Sem (List (Str × Addr))) ∧
      (∀ x c, cl.lookup x = some c → env.cells.lookup x = some c) ∧ (∀ x, (cs.lookup x).isSome = true → (cl.lookup x).isSome = true) ∧ ∀ y ∈ names, y.2 = .free → (cl.lookup y.1).isSome = true
  | [], cs, _, hc => ⟨cs, by rw [List.forIn_nil], hc, fun _ h => h, fun y hy => by cases hy⟩
  | (n, k) :: r, cs, h, hc => by
    by_cases hk : (k == NameKind.free) = true
    · have hk' : k = .free := by simpa using hk
      obtain ⟨a, ha⟩ := h (n, k) List.mem_cons_self hk'
      obtain ⟨cl, h1, h2, h3, h4⟩ := closure_go (env := env) r ((n, a) :: cs) (fun y hy => h y (List.mem_cons_of_mem _ hy)) (fun x c e => by
        rw [List.lookup_cons] at e
        split at e
        · rename_i z
          have : x = n := by simpa using z
          subst this
          cases e
          exact ha
        · exact hc x c e)
      have up : ∀ x, (cs.lookup x).isSome = true → (((n, a) :: cs).lookup x).isSome = true := fun x z => by
        rw [List.lookup_cons]
        split
        · rfl
        · exact z
      refine ⟨cl, ?_, h2, fun x z => h3 x (up x z), fun y hy hf => ?_⟩
      · rw [List.forIn_cons]
        simp only [hk, if_true]
        have : cellOf env n = pure a := by unfold cellOf; rw [ha]
        rw [this]
        exact h1
      · rcases List.mem_cons.mp hy with e | e
        · subst e
          exact h3 n (by rw [List.lookup_cons]; simp)
        · exact h4 y e hf
    · obtain ⟨cl, h1, h2, h3, h4⟩ := closure_go (env := env) r cs (fun y hy => h y (List.mem_cons_of_mem _ hy)) hc
      refine ⟨cl, ?_, h2, h3, fun y hy hf => ?_⟩
      · rw [List.forIn_cons]
        simp only [hk, if_false]
        exact h1
      · rcases List.mem_cons.mp hy with e | e
        · subst e
          exact absurd (by simpa using hf) hk
        · exact h4 y e hf
theorem closure_ok {scope : Scope} {env : Env} (h : ∀ y ∈ scope.names, y.2 = .free → ∃ c, env.cells.lookup y.1 = some c) :
    ∃ cl, closureFor scope env = pure cl ∧ (∀ x c, cl.lookup x = some c → env.cells.lookup x = some c) ∧ ∀ y ∈ scope.names, y.2 = .free → (cl.lookup y.1).isSome = true := by
  obtain ⟨cl, h1, h2, _, h4⟩ := closure_go (env := env) scope.names [] h (fun x c e => by cases e)
  refine ⟨cl, ?_, h2, h4⟩
  unfold closureFor
  exact (congrArg (fun z => z >>= fun r => pure r) h1)
/-- the names of a comprehension's block: its own first; what each is in the frame around it -/
structure BlkScope (N : List Str) (no : Nat) (fr : List Nat) (NX : List Str) (sc around : Scope) : Prop where
  kind : sc.kind = .function
  nocell : ∀ y ∈ sc.names, y.2 ≠ .cell
  nd : N.Nodup
  len : N.length = no + fr.length
  loc : ∀ y ∈ sc.names, y.2 = .local → sc.names.lookup y.1 = some .local
  free : ∀ y ∈ sc.names, y.2 = .free → around.names.lookup y.1 = some .cell
  own : ∀ (i : Nat) (x : Str), N[i]? = some x → i < no → sc.names.lookup x = some .local
  out : ∀ (j i : Nat) (x : Str), fr[j]? = some i → N[no + j]? = some x → NX[i]? = some x ∧ sc.names.lookup x = some .free
/-- the block's slots at its start -/
def blk (own : Nat) (fr : List Nat) (σ : St) : St := List.replicate own none ++ fr.map fun i => (σ[i]?).join
/-- the context of a comprehension's block -/
def cxBlk (X : Cx) (N : List Str) (scope : Scope) (cl : List (Str × Addr)) (s : Shared) (H : Hp) (fp : List Addr) : Cx :=
  { X with N := N, s₀ := s, H₀ := H, env := compEnvC scope cl s.heap.objs.size X.env, outer := X.stack, ex := fp, fn := fun _ => false, pn := [], xe := fun _ _ => False }
/-- what is read where names are looked up -/
theorem rel_lookup {env : Env} : ∀ (names : List (Str × NameKind)) (x : Str), (names.map fun (n, k) => if (k == NameKind.free && env.scope.kind == .function && env.kindOf n == some .cell) then (n, NameKind.cell) else (n, k)).lookup x =
    (names.lookup x).map fun k => if (k == NameKind.free && env.scope.kind == .function && env.kindOf x == some .cell) then NameKind.cell else k
  | [], _ => rfl
  | (n, k) :: r, x => by
    rw [List.map_cons]
    show List.lookup x ((if (k == NameKind.free && env.scope.kind == .function && env.kindOf n == some .cell) = true then (n, NameKind.cell) else (n, k)) :: _) = _
    cases hx : x == n with
    | true =>
      have e : x = n := by simpa using hx
      subst e
      by_cases hc : (k == NameKind.free && env.scope.kind == .function && env.kindOf x == some .cell) = true
      · rw [if_pos hc]; simp only [List.lookup_cons, hx]; simp only [Option.map_some, hc, if_true]
      · rw [if_neg hc]; simp only [List.lookup_cons, hx]; simp only [Option.map_some]; rw [if_neg hc]
    | false =>
      by_cases hc : (k == NameKind.free && env.scope.kind == .function && env.kindOf n == some .cell) = true
      · rw [if_pos hc]; simp only [List.lookup_cons, hx]; exact rel_lookup r x
      · rw [if_neg hc]; simp only [List.lookup_cons, hx]; exact rel_lookup r x
theorem rel_name {scope : Scope} {env : Env} (x : Str) : (relabel scope env).names.lookup x = (scope.names.lookup x).map fun k => if (k == NameKind.free && env.scope.kind == .function && env.kindOf x == some .cell) then NameKind.cell else k := rel_lookup _ _

section
variable {X : Cx} {pins : List (Addr × Obj)} {σ : St} {H : Hp} {s : Shared} {N : List Str} {own : Nat} {fr : List Nat} {scope : Scope} {cl : List (Str × Addr)} {fp : List Addr}
/-- the block begins -/
theorem inv_blk (S : BlkScope N own fr X.N scope X.env.scope) (I : Inv X pins σ H s) (hcl : ∀ x c, cl.lookup x = some c → X.env.cells.lookup x = some c) (hcf : ∀ y ∈ scope.names, y.2 = .free → (cl.lookup y.1).isSome = true)
    (hfp : ∀ b ∈ fp, FpOk X pins H b ∧ b < s.heap.objs.size) {h' : Heap} {t : Nat} {m : Str → Option Value} (hns : h'.Ns s.heap.objs.size m) (hk : ∀ b o, s.heap.get? b = some o → h'.get? b = some o) :
    Inv (cxBlk X N scope cl s H fp) [] (blk own fr σ) H { s with heap := h', toks := t } := by
  have kd : ∀ x, (cxBlk X N scope cl s H fp).env.kindOf x = (scope.names.lookup x).map fun k => if (k == NameKind.free && X.env.scope.kind == .function && X.env.kindOf x == some .cell) then NameKind.cell else k := fun x => rel_name x
  have memOf : ∀ {l : List (Str × NameKind)} {x : Str} {k : NameKind}, l.lookup x = some k → (x, k) ∈ l := fun {l x k} e => PySem.mem_of_lookup e
  have isf : ∀ x, ((cxBlk X N scope cl s H fp).env.kindOf x = some .cell ∨ (cxBlk X N scope cl s H fp).env.kindOf x = some .free) → scope.names.lookup x = some .free := fun x h => by
    rw [kd] at h
    cases e : scope.names.lookup x with
    | none => rw [e] at h; simp at h
    | some k =>
      rw [e] at h
      simp only [Option.map_some, Option.some.injEq] at h
      by_cases hc : (k == NameKind.free && X.env.scope.kind == .function && X.env.kindOf x == some .cell) = true
      · have : k = .free := by
          rw [Bool.and_eq_true, Bool.and_eq_true] at hc
          simpa using hc.1.1
        rw [this]
      · rw [if_neg hc] at h
        rcases h with h | h
        · exact absurd h (S.nocell _ (memOf e))
        · rw [h]
  have cellX : ∀ x c, cl.lookup x = some c → ∃ v, s.heap.IsCell c v := fun x c e => I.cell x c (hcl x c e)
  have cellLt : ∀ x c, cl.lookup x = some c → c < s.heap.objs.size := fun x c e => let ⟨v, q⟩ := cellX x c e; q.lt
  refine ⟨⟨I.ok.mod, S.kind, I.ok.glob, I.ok.blt, Nat.le_refl _, fun x y c h1 h2 => I.ok.inj x y c (hcl x c h1) (hcl y c h2), fun x hx => ?_, (fun x c h => by cases h), I.ok.hd, I.ok.frames, .inl rfl, fun b hb => ⟨Nat.ne_of_lt (hfp b hb).2, fun x c e => (hfp b hb).1.2.2.2.2.1 x c (hcl x c e)⟩,
      I.bs, Nat.le_trans I.ok.bsz I.sz, fun b o e hb => ?_, fun b hb z => ?_, I.stack, I.stkFree⟩, rfl, I.bare, Un.kept hk, ⟨m, hns, fun i x v e1 e2 e3 => ?_⟩, fun x c e => ?_, I.hok.fresh (Nat.le_refl _), fun x c e => I.freeC x c (hcl x c e), fun p hp => absurd (show p ∈ ([] : List (Addr × Obj)) from hp) (by simp), I.hok.kept hk, ?_⟩
  · have := hcf _ (memOf (isf x hx)) rfl
    exact Option.isSome_iff_exists.mp this
  · rcases (hfp b hb).1.2.2.2.1 with z | z
    · exact I.ok.noex b o e z
    · exact absurd (Nat.lt_of_lt_of_le (Heap.lt_size e) (Nat.le_trans I.ok.bsz z)) (Nat.lt_irrefl _)
  · rcases List.mem_cons.mp (I.stkSub b z) with q | q
    · exact (hfp b hb).1.2.1 q
    · exact (hfp b hb).1.2.2.1 q
  · -- a name of the block that has a value: one of the frame around
    have e2' : (List.replicate own none ++ fr.map fun i => (σ[i]?).join)[i]? = some (some v) := e2
    have hi : own ≤ i := by
      by_cases hi : i < own
      · rw [List.getElem?_append_left (by simpa using hi), List.getElem?_replicate, if_pos hi] at e2'
        cases e2'
      · omega
    rw [List.getElem?_append_right (by simpa using hi), List.length_replicate, List.getElem?_map] at e2'
    cases ef : fr[i - own]? with
    | none => rw [ef] at e2'; cases e2'
    | some k =>
      rw [ef] at e2'
      have ev : (σ[k]?).join = some v := by simpa using e2'
      have ev' : σ[k]? = some (some v) := by
        cases q : σ[k]? with
        | none => rw [q] at ev; cases ev
        | some o => rw [q] at ev; simpa using ev
      have eN : N[own + (i - own)]? = some x := by
        rw [show own + (i - own) = i by omega]; exact e1
      obtain ⟨q1, q2⟩ := S.out (i - own) k x ef eN
      have q3 : X.env.scope.names.lookup x = some .cell := S.free (x, .free) (memOf q2) rfl
      obtain ⟨mX, _, hl⟩ := I.loc
      obtain ⟨u, r, l⟩ := hl k x v q1 ev' (.inr (.inl q3))
      refine ⟨u, r, ?_⟩
      rcases l with ⟨l1, _⟩ | ⟨_, c, l2, l3⟩
      · have : X.env.scope.names.lookup x = some .local := l1
        rw [q3] at this; cases this
      · have hkd : (cxBlk X N scope cl s H fp).env.kindOf x = some .cell := by
          rw [kd, q2]
          simp only [Option.map_some]
          have e1 : X.env.scope.kind = .function := I.ok.kind
          have e2 : X.env.kindOf x = some .cell := q3
          rw [e1, e2]
          rfl
        have hc := Option.isSome_iff_exists.mp (hcf (x, .free) (memOf q2) rfl)
        obtain ⟨c', hc'⟩ := hc
        have : c' = c := by
          have := hcl x c' hc'
          rw [l2] at this
          exact (Option.some.inj this).symm
        subst this
        exact .inr ⟨.inl hkd, c', hc', l3.keeps hk⟩
  · obtain ⟨v, q⟩ := cellX x c e
    exact ⟨v, q.keeps hk⟩
  · show (blk own fr σ).length = N.length
    unfold blk
    rw [List.length_append, List.length_replicate, List.length_map, S.len]
end

/-- the error's end within a block: none comes -/
abbrev NoX : Value → Shared → Prop := fun _ _ => False
section
variable {P : Program} {w : World} {A : Around} {R : Result → Shared → Prop}
/-- the tests of a turn: none, or one -/
def tst (ifs : List Expr) (env : Env) : Sem Bool :=
  forIn ifs true fun c r => if r = true then do let ok ← isTrue c env (eval c env)
                                                pure (ForInStep.yield ok) else pure (ForInStep.yield r)
theorem tests0 {env : Env} {s : Shared} {E : Value → Shared → Prop} {Q : Bool → Shared → Prop} (h : Q true s) : wpAny (model P w) A (tst [] env) Q E s := wpAny_tests_nil h
theorem tests1 {env : Env} {c : Expr} {s : Shared} {E : Value → Shared → Prop} {Q : Bool → Shared → Prop} (h : wpAny (model P w) A (isTrue c env (eval c env)) Q E s) : wpAny (model P w) A (tst [c] env) Q E s := wpAny_tests_one h
/-- the block's loop by a word J with a measure; no error leaves a turn -/
theorem block_loop {elt tg iter : Expr} {ifs : List Expr} {sc : Scope} {pos : Pos} {it acc : Value} {env : Env} {s : Shared} (J : Nat → Shared → Prop)
    (go : ∀ n s, J n s → wpAny (model P w) A (pyNext it) (fun r s1 => match r with
      | none => R (.ok .next) s1
      | some v => wpAny (model P w) A (letOwnedTupleGo tg it v) (fun _ s2 => wpAny (model P w) A (assign tg env v) (fun _ s3 => wpAny (model P w) A (tst ifs env) (fun ok s4 =>
          if ok = true then wpAny (model P w) A (eval elt env) (fun x s5 => wpAny (model P w) A (call (.builtin "list.append") [acc, x]) (fun _ s6 => ∃ m, m < n ∧ J m s6) NoX s5) NoX s4
          else ∃ m, m < n ∧ J m s4) NoX s3) NoX s2) NoX s1) NoX s)
    (n : Nat) (h : J n s) : codeAny (model P w) A (.compLoop (.ListComp elt [⟨tg, iter, ifs, 0⟩] sc pos) 0 it acc env) R s := by
  have ex : ∀ {α : Type} {t : Sem α} {Q : α → Shared → Prop} {s : Shared} {E : Value → Shared → Prop}, wpAny (model P w) A t Q NoX s → wpAny (model P w) A t Q E s := fun hh => wpAny_mono hh (fun _ _ q => q) fun _ _ z => z.elim
  refine codeAny_loop rfl J (fun n s hJ => ?_) n h
  show wpAny _ _ ((compTurn _ 0 it acc env).onRaise (fun x => do noteFrame x env; theTreesLotGoes x)) _ _ s
  refine wpAny_noted ?_
  rw [compTurn_list]
  refine wpAny_bind (wpAny_standAt (wpAny_bind (thn (ex (go n s hJ)) fun r s1 h1 => ?_)))
  cases r with
  | none => exact wpAny_pure h1
  | some v =>
    refine wpAny_bind (thn (ex h1) fun _ s2 h2 => wpAny_bind (thn (ex h2) fun _ s3 h3 => ?_))
    refine wpAny_bind (thn (ex h3) fun ok s4 h4 => ?_)
    cases ok with
    | false => exact wpAny_pure ⟨rfl, h4⟩
    | true =>
      exact wpAny_bind (wpAny_bind (thn (ex h4) fun x s5 h5 => wpAny_bind (thn (ex h5) fun _ s6 h6 => wpAny_pure (wpAny_pure ⟨rfl, h6⟩))))
end

/-! ### the rule -/
/-- [e for g in i if c]: W the word by the turn, with its measure; D the list that is made -/
def tComp (own : Nat) (fr : List Nat) (wi : TI) (g : TG) (tc : TT) (te : TE) : TE := fun σ H Q => wi σ H fun J H1 => ∀ D, H1 D = none → ∃ W : Nat → Nat → St → Hp → Prop, (∃ m, W 0 m (blk own fr σ) (upd H1 D (.lst []))) ∧ ∀ i m σ' H', W i m σ' H' →
  (J.stop i H' ∧ Q (.ref D) H') ∨ (J.go i H' ∧ ∀ x H2, J.yld i H' x H2 → g x σ' H2 fun σ2 H3 => tc σ2 H3 fun ok H4 =>
    if ok = true then te σ2 H4 fun v H5 => ∃ xs, H5 D = some (.lst xs) ∧ xs.length < sizeLine ∧ ∃ m', m' < m ∧ W (i + 1) m' σ2 (upd H5 D (.lst (xs ++ [v])))
    else ∃ m', m' < m ∧ W (i + 1) m' σ2 H4)
/-- the tests of a comprehension -/
def PTs (Y : Cx) (ifs : List Expr) (t : TT) : Prop :=
  ∀ (pins : List (Addr × Obj)) (s : Shared) (σ : St) (H : Hp) (Q : Bool → Hp → Prop), Inv Y pins σ H s → t σ H Q → wpAny (model Y.prog Y.w) Y.A (tst ifs Y.env) (TP Y pins σ Q) Y.xe s
theorem pts_nil {Y : Cx} : PTs Y [] (fun σ H Q => Q true H) := fun _ _ σ H _ I h => tests0 ⟨H, I, h⟩
theorem pts_one {Y : Cx} {c : Expr} {t : TT} (h : PT Y c t) : PTs Y [c] t := fun pins s σ H Q I q => tests1 (h pins s σ H Q I q)
section
variable {X : Cx} {N : List Str} {own : Nat} {fr : List Nat} {scope : Scope} {elt tg iter : Expr} {ifs : List Expr} {pos : Pos} {wi : TI} {g : TG} {tc : TT} {te : TE}
theorem Turn.fpLt {P : Program} {w : World} {K : PySem.W.Frag} {J : It} {fp : List Addr} {it : Addr} {tn : Nat → Heap → Prop} (T : Turn P w K tg J fp it tn) {i : Nat} {h : Heap} (st : tn i h) : ∀ b ∈ fp, b < h.objs.size := fun b hb => by
  obtain ⟨o, e, _⟩ := T.obj i h st b hb
  exact Heap.lt_size e
/-- how the block's end is taken: its frame C still stands -/
def CompEnd (X : Cx) (pins : List (Addr × Obj)) (σ : St) (Q : VK) (use : Option (Value → Sem Unit)) (QQ : Value → Shared → Prop) : Prop :=
  ∀ (D C : Addr) (H' : Hp) (s5 : Shared) (m5 : Str → Option Value), (∀ h6, Heap.SameBut C s5.heap h6 → Inv X pins σ H' { s5 with heap := h6 }) → s5.heap.Ns C m5 → H' C = none → X.s₀.heap.objs.size ≤ C → X.env.locals ≠ C → (∀ x c, X.env.cells.lookup x = some c → c ≠ C) → (∀ p ∈ X.pn ++ pins, p.1 ≠ C) → Q (.ref D) H' →
    compPost (model X.prog X.w) X.A X.xe use QQ (.ref D) C (.ok .next) s5
theorem comp_core {use : Option (Value → Sem Unit)} {QQ : Value → Shared → Prop} {ps : Pos} (S : BlkScope N own fr X.N scope X.env.scope) (hc : X.calm = true) (hi : PI X tg iter wi)
    (hg : ∀ cl s H fp, PG (cxBlk X N scope cl s H fp) tg g) (ht : ∀ cl s H fp, PTs (cxBlk X N scope cl s H fp) ifs tc) (he : ∀ cl s H fp, PE (cxBlk X N scope cl s H fp) elt te)
    (hs : ∀ x, foldedSetIterable iter X.env x = pure x) {pins : List (Addr × Obj)} {s : Shared} {σ : St} {H : Hp} {Q : VK} (I : Inv X pins σ H s) (h : tComp own fr wi g tc te σ H Q) (finish : CompEnd X pins σ Q use QQ) :
    wpAny (model X.prog X.w) X.A (comprehension (.ListComp elt [⟨tg, iter, ifs, 0⟩] scope pos) scope X.env ps (newList []) false (eval iter X.env) use) QQ X.xe s := by
  obtain ⟨cl, hclos, hcl, hcf⟩ := closure_ok (scope := scope) (env := X.env) fun y hy hf => I.ok.has y.1 (.inl (S.free y hy hf))
  refine wpAny_comprehension_free (use := use) rfl hs hclos S.kind S.loc (thn (hi pins s σ H _ I h) fun v s1 h1 => thn h1 fun itv s2 h2 => ?_)
  obtain ⟨it, fp, tn, J, H2, e, I2, T, st2, f2, h2⟩ := h2
  subst e
  -- the list
  refine wpAny_newObj_type ?_ (Nat.zero_le _)
  have fr2 : H2 s2.heap.objs.size = none := I2.hok.fresh (Nat.le_refl _)
  obtain ⟨W, ⟨m0, w0⟩, turn⟩ := h2 s2.heap.objs.size fr2
  have I3 : Inv X pins σ (upd H2 s2.heap.objs.size (.lst [])) { s2 with heap := s2.heap.push { cls := .type "list", data := .seq ([] : List Value).toArray } } := I2.lnew (t' := s2.toks) (its := []) .nil (Nat.zero_le _)
  have st3 : tn 0 (s2.heap.push { cls := .type "list", data := .seq ([] : List Value).toArray }) := T.keep _ _ _ st2 fun b _ o e => Heap.get?_push_of_some _ e
  generalize hs3 : ({ s2 with heap := s2.heap.push { cls := .type "list", data := .seq ([] : List Value).toArray } } : Shared) = s3 at I3
  have st3' : tn 0 s3.heap := by rw [← hs3]; exact st3
  have f3 : ∀ b ∈ fp, FpOk X pins (upd H2 s2.heap.objs.size (.lst [])) b := fun b hb => by
    obtain ⟨q0, q⟩ := f2 b hb
    refine ⟨?_, q⟩
    rw [upd_ne (Nat.ne_of_lt (T.fpLt st2 b hb))]
    exact q0
  -- the block's frame
  refine wpAny_newFunctionEnv S.nocell (fun y hy => by cases hy) (fun h4 hns4 hsb4 => ?_) S.kind
  have hk4 : ∀ b o, s3.heap.get? b = some o → h4.get? b = some o := fun b o e => hsb4.extBut b o (Nat.ne_of_lt (Heap.lt_size e)) (Heap.get?_push_of_some _ e)
  have I4 : Inv (cxBlk X N scope cl s3 (upd H2 s2.heap.objs.size (.lst [])) fp) [] (blk own fr σ) (upd H2 s2.heap.objs.size (.lst [])) { s3 with heap := h4, toks := s3.toks + ([] : List (Str × Value)).length } :=
    inv_blk S I3 hcl hcf (fun b hb => ⟨f3 b hb, T.fpLt st3' b hb⟩) hns4 hk4
  have st4 : tn 0 h4 := T.keep _ _ _ st3' fun b _ o e => hk4 b o e
  -- the loop
  generalize hY : cxBlk X N scope cl s3 (upd H2 s2.heap.objs.size (.lst [])) fp = Y at I4
  have hg' := hg cl s3 (upd H2 s2.heap.objs.size (.lst [])) fp
  have ht' := ht cl s3 (upd H2 s2.heap.objs.size (.lst [])) fp
  have he' := he cl s3 (upd H2 s2.heap.objs.size (.lst [])) fp
  rw [hY] at hg' ht' he'
  have yp : Y.prog = X.prog := by rw [← hY]; rfl
  have yw : Y.w = X.w := by rw [← hY]; rfl
  have yK : Y.K = X.K := by rw [← hY]; rfl
  have yA : Y.A = X.A := by rw [← hY]; rfl
  have yc : Y.calm = true := by rw [← hY]; exact hc
  have yx : Y.xe = NoX := by rw [← hY]; rfl
  have ye : Y.env = compEnvC scope cl s3.heap.objs.size X.env := by rw [← hY]; rfl
  have fin : ∀ {σ' : St} {H' : Hp} {s5 : Shared}, Inv Y [] σ' H' s5 → Q (.ref s2.heap.objs.size) H' → compPost (model X.prog X.w) X.A X.xe use QQ (.ref s2.heap.objs.size) s3.heap.objs.size (.ok .next) s5 := fun {σ' H' s5} I5 q => by
    obtain ⟨m5, hn5, _⟩ := I5.loc
    have yl : Y.env.locals = s3.heap.objs.size := by rw [ye]; rfl
    rw [yl] at hn5
    have un := I5.base
    have y1 : Y.fs = frs X.stack := by rw [← hY]; rfl
    have y2 : Y.ex = fp := by rw [← hY]; rfl
    have y3 : Y.H₀ = upd H2 s2.heap.objs.size (.lst []) := by rw [← hY]; rfl
    have y4 : Y.s₀ = s3 := by rw [← hY]; rfl
    rw [y1, y2, y3, y4] at un
    have free6 : H' s3.heap.objs.size = none := by rw [← yl]; exact I5.free
    refine finish s2.heap.objs.size s3.heap.objs.size H' s5 m5 (fun h6 hs6 => ?_) hn5 free6 I3.sz (Nat.ne_of_lt I3.lt) (fun x c e => ?_) (fun p hp => ?_) q
    · have k6 : ∀ b o, b ≠ s3.heap.objs.size → s5.heap.get? b = some o → h6.get? b = some o := fun b o hb e => hs6.extBut b o hb e
      have old : ∀ b o, s3.heap.get? b = some o → b ≠ s3.heap.objs.size := fun b o e => Nat.ne_of_lt (Heap.lt_size e)
      have un6 : Un (frs X.stack) fp (upd H2 s2.heap.objs.size (.lst [])) H' s3.heap h6 :=
        ⟨fun b o e n hb hx => k6 b o (old b o e) (un.keep b o e n hb hx), fun b o e n hb hx => by obtain ⟨sl, q⟩ := un.slot b o e n hb hx; exact ⟨sl, k6 b _ (old b o e) q⟩, un.free, fun b o e hx => by obtain ⟨o', q⟩ := un.there b o e hx; exact ⟨o', k6 b o' (old b o e) q⟩, un.tups, un.frzs, un.tbls⟩
      have hok6 : HOk X.prog X.w H' h6 := by
        have := I5.hok
        rw [yp, yw] at this
        refine fun a o e => (this a o e).stay (fun b u hb q => k6 b u ?_ q) (fun _ z => z) fun _ _ z => z
        rcases hb with z | z
        · subst z; intro z; rw [z, free6] at e; cases e
        · intro y; rw [y, free6] at z; cases z
      obtain ⟨hh, gg, dd, tt, os'⟩ := s5
      have ho : os' = s3.os := by have := I5.os; rw [y4] at this; exact this
      subst ho
      refine Inv.call (s := s3) I3 (h' := h6) (g' := gg) (d' := dd) (t' := tt) (ch := fp) un6 hok6 I5.bare (fun b hb => ?_)
      obtain ⟨_, q1, _, q3, q4, q5⟩ := f3 b hb
      exact ⟨q3, q1, q4, q5⟩
    · obtain ⟨v, oc, ho, _⟩ := I3.cell x c e
      exact Nat.ne_of_lt (Heap.lt_size ho)
    · obtain ⟨e, _⟩ := I3.pin p hp
      exact Nat.ne_of_lt (Heap.lt_size e)
  have loop : ∀ s4 : Shared, Inv Y [] (blk own fr σ) (upd H2 s2.heap.objs.size (.lst [])) s4 → tn 0 s4.heap → codeAny (model X.prog X.w) X.A (.compLoop (.ListComp elt [⟨tg, iter, ifs, 0⟩] scope pos) 0 (.ref it) (.ref s2.heap.objs.size) (compEnvC scope cl s3.heap.objs.size X.env))
      (compPost (model X.prog X.w) X.A X.xe use QQ (.ref s2.heap.objs.size) s3.heap.objs.size) s4 := by
    intro s4 I4 st4
    have stat : ∀ {H' : Hp}, (∀ b ∈ fp, H' b = none) → ∀ b ∈ fp, FpOk Y [] H' b := fun {H'} hn b hb => by
      obtain ⟨_, q1, q2, q3, q4, q5⟩ := f3 b hb
      refine ⟨hn b hb, ?_, ?_, ?_, fun x c e => ?_, fun p hp => ?_⟩
      · rw [ye]; exact Nat.ne_of_lt (T.fpLt st3' b hb)
      · have : Y.fs = frs X.stack := by rw [← hY]; rfl
        rw [this]
        intro z
        rcases List.mem_cons.mp (I3.stkSub b z) with q | q
        · exact q1 q
        · exact q2 q
      · left; rw [← hY]; exact hb
      · rw [ye] at e; exact q4 x c (hcl x c e)
      · rw [← hY] at hp; cases hp
    refine block_loop (fun n s' => ∃ i σ' H', Inv Y [] σ' H' s' ∧ tn i s'.heap ∧ (∀ b ∈ fp, H' b = none) ∧ W i n σ' H') ?_ m0 ⟨0, _, _, I4, st4, fun b hb => (f3 b hb).1, w0⟩
    rintro n s5 ⟨i, σ5, H5, I5, st5, fr5, w5⟩
    rw [← yp, ← yw, ← yA, ← ye, ← yx]
    have T' : Turn Y.prog Y.w Y.K tg J fp it tn := by rw [yp, yw, yK]; exact T
    rcases turn i n σ5 H5 w5 with ⟨stop, qn⟩ | ⟨go, step⟩
    · refine thn (T'.done Y rfl rfl rfl yc i [] s5 σ5 H5 Y.xe I5 (stat fr5) st5 stop) fun r s6 ⟨hr, I6⟩ => ?_
      subst hr
      have q := fin I6 qn
      rw [← yp, ← yw, ← yA] at q
      exact q
    · refine thn (T'.item Y rfl rfl rfl yc i [] s5 σ5 H5 Y.xe I5 (stat fr5) st5 go) fun r s6 ⟨u, hr, h6⟩ => ?_
      subst hr
      refine thn h6 fun _ s7 ⟨x, H7, I7, r7, y7, st7, fr7⟩ => ?_
      have I7' := I7.pinned (stat fr7) (T.obj _ _ st7)
      have stay : ∀ {σ8 : St} {H8 : Hp} {s8 : Shared}, Inv Y ([] ++ pinsAt fp s7.heap) σ8 H8 s8 → tn (i + 1) s8.heap ∧ ∀ b ∈ fp, H8 b = none := fun {σ8 H8 s8} I8 => by
        refine ⟨T.keep _ _ _ st7 fun b hb o e => (I8.pin (b, o) (List.mem_append_right _ (List.mem_append_right _ (mem_pinsAt hb e)))).1, fun b hb => ?_⟩
        obtain ⟨o, e, d⟩ := T.obj _ _ st7 b hb
        exact (I8.pin (b, o) (List.mem_append_right _ (List.mem_append_right _ (mem_pinsAt hb e)))).2.1
      refine thn (hg' _ s7 σ5 H7 x u _ I7' r7 (step x H7 y7)) fun _ s8 ⟨σ8, H8, I8, q8⟩ => ?_
      refine thn (ht' _ s8 σ8 H8 _ I8 q8) fun ok s9 ⟨H9, I9, q9⟩ => ?_
      cases ok with
      | false =>
        obtain ⟨m', hm, w9⟩ := q9
        obtain ⟨t9, f9⟩ := stay I9
        exact ⟨m', hm, i + 1, σ8, H9, I9.unpinned, t9, f9, w9⟩
      | true =>
        refine thn (he' _ s9 σ8 H9 _ I9 q9) fun y s10 ⟨v, H10, I10, r10, xs, hD, hz, m', hm, w10⟩ => ?_
        refine thn (mt_append (X := Y) _ s10 σ8 H10 (.ref s2.heap.objs.size) [v] (.ref s2.heap.objs.size) [y] (fun _ H' => H' = upd H10 s2.heap.objs.size (.lst (xs ++ [v]))) I10 rfl (.cons r10 .nil) ⟨_, xs, v, rfl, rfl, hD, hz, rfl⟩) fun _ s11 ⟨_, H11, I11, _, q11⟩ => ?_
        subst q11
        obtain ⟨t11, f11⟩ := stay I11
        exact ⟨m', hm, i + 1, σ8, _, I11.unpinned, t11, f11, w10⟩
  have stp : codeAny (model X.prog X.w) X.A (.compLoop (.ListComp elt [⟨tg, iter, ifs, 0⟩] scope pos) 0 (.ref it) (.ref s2.heap.objs.size) (compEnvC scope cl s3.heap.objs.size X.env)) (compPost (model X.prog X.w) X.A X.xe use QQ (.ref s2.heap.objs.size) s3.heap.objs.size) { s3 with heap := h4, toks := s3.toks + ([] : List (Str × Value)).length } :=
    loop _ I4 st4
  exact codeAny_compStart_list stp (T.self X.A 0 _ _ _ st4 stp)
theorem pe_comp (S : BlkScope N own fr X.N scope X.env.scope) (hc : X.calm = true) (hi : PI X tg iter wi)
    (hg : ∀ cl s H fp, PG (cxBlk X N scope cl s H fp) tg g) (ht : ∀ cl s H fp, PTs (cxBlk X N scope cl s H fp) ifs tc) (he : ∀ cl s H fp, PE (cxBlk X N scope cl s H fp) elt te)
    (hs : ∀ x, foldedSetIterable iter X.env x = pure x := by intro _; rfl) : PE X (.ListComp elt [⟨tg, iter, ifs, 0⟩] scope pos) (tComp own fr wi g tc te) := by
  intro pins s σ H Q I h
  rw [eval_ListComp]
  exact comp_core S hc hi hg ht he hs I h fun D C H' s5 m5 hI hn _ _ _ _ _ q => ⟨m5, hn, fun h6 hs6 => ⟨.ref D, H', hI h6 hs6, rfl, q⟩⟩
/-- x = [e for g in i if c], x a plain local name -/
theorem ps_comp {i : Nat} {x : Str} {pos1 pos' : Pos} (hN : X.N.Nodup) (hi' : X.N[i]? = some x) (hx : Loc X.env.scope x) (S : BlkScope N own fr X.N scope X.env.scope) (hc : X.calm = true) (hi : PI X tg iter wi)
    (hg : ∀ cl s H fp, PG (cxBlk X N scope cl s H fp) tg g) (ht : ∀ cl s H fp, PTs (cxBlk X N scope cl s H fp) ifs tc) (he : ∀ cl s H fp, PE (cxBlk X N scope cl s H fp) elt te)
    (hs : ∀ x, foldedSetIterable iter X.env x = pure x := by intro _; rfl) (hw : swapsWith (.ListComp elt [⟨tg, iter, ifs, 0⟩] scope pos) (some (.Name x pos')) pos1.line X.env = pure true := by rfl) (hf : X.fn x = true ∨ X.env.scope.names.lookup x = some .local := by first | exact .inl rfl | exact .inr rfl | assumption) :
    PS X (.Assign [.Name x pos'] (.ListComp elt [⟨tg, iter, ifs, 0⟩] scope pos) pos1) (tAsg (tComp own fr wi g tc te) (gName i)) := by
  intro pins s σ H D I h
  rw [exec_Assign_Name_used x pos' _ pos1 hw]
  refine wpAny_bind (wpAny_standAt (wpAny_bind ?_))
  rw [arm_evalThenUse_ListComp]
  refine wpAny_bind (thn (comp_core (use := some (assign (.Name x pos') X.env)) (QQ := fun _ s' => SP X pins D .next s') S hc hi hg ht he hs I h fun D' C H' s5 m5 hI hn hfree hsz hL hcs hps q => ?_) fun _ s' h => wpAny_pure (wpAny_pure h))
  show wpAny _ _ (assign (.Name x pos') X.env (.ref D')) _ _ s5
  refine wpAny_assign_Name (store_ok2 (hI s5.heap (.refl ..)) hN hi' hx (show RelV (.ref D') (.ref D') from rfl) (fun s6 I6 ⟨a, hsb, ha⟩ => ?_) hf)
  have nC : a ≠ C := by
    rcases ha with z | z
    · rw [z]; exact hL
    · exact hcs x a z
  refine ⟨m5, hn.sameBut hsb (Ne.symm nC), fun h6 hs6 => ?_⟩
  exact ⟨_, H', I6.turned (t' := s6.toks) (it := C) (fun b o hb e => hs6.extBut b o hb e) hfree (Ne.symm hL) (.inr hsz) hcs hps, q⟩
end
end L2

set_option Elab.async false
set_option linter.all false
set_option maxRecDepth 100000
/-! DATA over the hand layer: values as trees, lists as lists of trees; the readings of a def's text as functions on these. -/
namespace DL
open PySem L2
/-! ### what stays: all that is tracked, but a code's table may grow -/
/-- the name of the one lambda -/
def lamQ : Str := "depth.<locals>.<lambda>"
/-- the lambda's code -/
def HCode (c : Addr) : HO := .ext fun h => h.CodeRec (.ref c) lamQ
def noT : HO → Bool
  | .tbl _ => false
  | _ => true
/-- tables hold codes of the lambda -/
def Tab (H : Hp) : Prop := ∀ P ps, H P = some (.tbl ps) → TriplesOk ps.toList ∧ ∀ pos v, codeAmong pos ps.toList = some v → ∃ c, v = .ref c ∧ H c = some (HCode c)
/-- the table of the code of depth -/
def lamTab (K : PySem.W.Frag) : Option Addr := match PySem.W.nsIn K mainGlobals "depth" with
  | some (some (.ref f)) => (match K.lookup f with
    | some ⟨_, _, .func fd, _⟩ => (match fd.code with
      | .ref c => (match K.lookup c with
        | some ⟨_, _, .fields vs, _⟩ => (match (vs[11]? : Option Value) with
          | some (.ref P) => some P
          | _ => none)
        | _ => none)
      | _ => none)
    | _ => none)
  | _ => none
def TabK (K : PySem.W.Frag) (H : Hp) : Prop := Tab H ∧ ∀ P, lamTab K = some P → ∃ ps, H P = some (.tbl ps)
structure Same (H H' : Hp) : Prop where
  all : ∀ b o, H b = some o → noT o = true → H' b = some o
  tbl : ∀ b ps, H b = some (.tbl ps) → ∃ ps', H' b = some (.tbl ps')
theorem Same.get {H H' : Hp} (e : Same H H') {b : Addr} {o : HO} (h : H b = some o) (n : noT o = true := by rfl) : H' b = some o := e.all b o h n
theorem Same.refl (H : Hp) : Same H H := ⟨fun _ _ h _ => h, fun _ ps h => ⟨ps, h⟩⟩
theorem Same.trans {H H1 H2 : Hp} (a : Same H H1) (b : Same H1 H2) : Same H H2 := ⟨fun c o h n => b.all c o (a.all c o h n) n, fun c ps h => let ⟨ps', h'⟩ := a.tbl c ps h; b.tbl c ps' h'⟩
theorem Same.free {H H' : Hp} (e : Same H H') {l : Addr} (h : H' l = Option.none) : H l = Option.none := by
  cases q : H l with
  | none => rfl
  | some o =>
    cases n : noT o with
    | true => rw [e.all l o q n] at h; cases h
    | false =>
      cases o <;> first | (cases n) | skip
      obtain ⟨ps', z⟩ := e.tbl l _ q
      rw [z] at h; cases h
theorem Same.of {H H' : Hp} (h : ∀ b o, H b = some o → H' b = some o) : Same H H' := ⟨fun b o q _ => h b o q, fun b ps q => ⟨ps, h b _ q⟩⟩
theorem Same.seq {K : PySem.W.Frag} {H H' : Hp} {a : Addr} {xs : List V} (e : Same H H') (h : SqL K H a xs) : SqL K H' a xs := by
  rcases h with (h | ⟨o, h⟩) | h
  · exact .inl (.inl (e.get h))
  · exact .inl (.inr ⟨o, e.get h⟩)
  · exact .inr h
theorem TabK.same {K : PySem.W.Frag} {H H' : Hp} (t : TabK K H) (e : Same H H') (h : Tab H') : TabK K H' := ⟨h, fun P a => let ⟨ps, q⟩ := t.2 P a; e.tbl P ps q⟩
theorem tab_upd {H : Hp} {a : Addr} {o : HO} (t : Tab H) (hn : H a = none) (n : noT o = true) : Tab (upd H a o) := fun P ps h => by
  by_cases z : P = a
  · subst z; rw [upd_same] at h; cases h; cases n
  · rw [upd_ne z] at h
    obtain ⟨h1, h2⟩ := t P ps h
    exact ⟨h1, fun pos v q => let ⟨c, e, g⟩ := h2 pos v q; ⟨c, e, by rw [upd_ne (ne_of_none g hn)]; exact g⟩⟩
theorem tab_set {H : Hp} {a : Addr} {xs ys : List V} (t : Tab H) (hn : H a = some (.lst xs)) : Tab (upd H a (.lst ys)) := fun P ps h => by
  by_cases z : P = a
  · subst z; rw [upd_same] at h; cases h
  · rw [upd_ne z] at h
    obtain ⟨h1, h2⟩ := t P ps h
    exact ⟨h1, fun pos v q => let ⟨c, e, g⟩ := h2 pos v q; ⟨c, e, by rw [upd_ne (fun w => by rw [w, hn] at g; cases g)]; exact g⟩⟩
theorem tabK_upd {K : PySem.W.Frag} {H : Hp} {a : Addr} {o : HO} (t : TabK K H) (hn : H a = none) (n : noT o = true) : TabK K (upd H a o) := ⟨tab_upd t.1 hn n, fun P e1 => let ⟨ps, q⟩ := t.2 P e1; ⟨ps, by rw [upd_ne (ne_of_none q hn)]; exact q⟩⟩
theorem tabK_set {K : PySem.W.Frag} {H : Hp} {a : Addr} {xs ys : List V} (t : TabK K H) (hn : H a = some (.lst xs)) : TabK K (upd H a (.lst ys)) := ⟨tab_set t.1 hn, fun P e1 => let ⟨ps, q⟩ := t.2 P e1; ⟨ps, by rw [upd_ne (fun w => by rw [w, hn] at q; cases q)]; exact q⟩⟩
theorem same_new {H : Hp} {a : Addr} {o : HO} (hn : H a = none) : Same H (upd H a o) := .of fun b u q => by rw [upd_ne (ne_of_none q hn)]; exact q

/-- a value: trees of tuples and of lists that stay; an exception by its class -/
inductive T where
  | non | bl (b : Bool) | int (i : Int) | str (x : Str) | tup (xs : List T) | lst (xs : List T) | exc (x : Str)
/-- what an expression yields: a tree; a tree that is seen (its lists may be owned by a name of this frame); a new list -/
inductive S where
  | t (x : T) | vt (x : T) | ol (xs : List T)

/-- an exception of the class at c -/
def ExcAt (H : Hp) (a c : Addr) : Prop := H a = some (.ext fun h => ∃ o, h.get? a = some o ∧ o.cls = .ref c)
mutual
def TRep (K : PySem.W.Frag) (H : Hp) : T → V → Prop
  | .non, v => v = .non
  | .bl b, v => v = .bl b
  | .int i, v => v = .int i
  | .str x, v => v = .str x
  | .tup ts, v => ∃ a xs, v = .ref a ∧ SqT K H a xs ∧ TReps K H ts xs
  | .lst ts, v => ∃ a xs, v = .ref a ∧ SqL K H a xs ∧ TReps K H ts xs
  | .exc x, v => ∃ a C, v = .ref a ∧ PySem.W.nsIn K mainGlobals x = some (some (.ref C)) ∧ ExcAt H a C
def TReps (K : PySem.W.Frag) (H : Hp) : List T → List V → Prop
  | [], xs => xs = []
  | t :: ts, xs => ∃ x r, xs = x :: r ∧ TRep K H t x ∧ TReps K H ts r
end
mutual
/-- no list within -/
def pur : T → Bool
  | .tup ts => purs ts
  | .lst _ => false
  | _ => true
def purs : List T → Bool
  | [] => true
  | t :: ts => pur t && purs ts
end

mutual
theorem TRep.mono {K : PySem.W.Frag} {H H' : Hp} (h : ∀ a xs, SqT K H a xs → SqT K H' a xs) (hl : ∀ a xs, SqL K H a xs → SqL K H' a xs) (he : ∀ a c, ExcAt H a c → ExcAt H' a c) : ∀ (t : T) (v : V), TRep K H t v → TRep K H' t v
  | .non, _, e => e
  | .bl _, _, e => e
  | .int _, _, e => e
  | .str _, _, e => e
  | .tup ts, _, ⟨a, xs, e, q, r⟩ => ⟨a, xs, e, h a xs q, TReps.mono h hl he ts xs r⟩
  | .lst ts, _, ⟨a, xs, e, q, r⟩ => ⟨a, xs, e, hl a xs q, TReps.mono h hl he ts xs r⟩
  | .exc c, _, ⟨a, C, e, z, q⟩ => ⟨a, C, e, z, he a C q⟩
theorem TReps.mono {K : PySem.W.Frag} {H H' : Hp} (h : ∀ a xs, SqT K H a xs → SqT K H' a xs) (hl : ∀ a xs, SqL K H a xs → SqL K H' a xs) (he : ∀ a c, ExcAt H a c → ExcAt H' a c) : ∀ (ts : List T) (xs : List V), TReps K H ts xs → TReps K H' ts xs
  | [], _, e => e
  | t :: ts, _, ⟨x, r, e, p, q⟩ => ⟨x, r, e, TRep.mono h hl he t x p, TReps.mono h hl he ts r q⟩
end
theorem Same.sqT {K : PySem.W.Frag} {H H' : Hp} (e : Same H H') (a : Addr) (xs : List V) (h : SqT K H a xs) : SqT K H' a xs := by
  rcases h with (h | ⟨o, h⟩) | h
  · exact .inl (.inl (e.get h))
  · exact .inl (.inr ⟨o, e.get h⟩)
  · exact .inr h
theorem TRep.same {K : PySem.W.Frag} {H H' : Hp} (e : Same H H') {t : T} {v : V} (h : TRep K H t v) : TRep K H' t v := TRep.mono (fun a xs q => Same.sqT e a xs q) (fun a xs q => e.seq q) (fun a c q => e.get q) t v h
theorem TReps.same {K : PySem.W.Frag} {H H' : Hp} (e : Same H H') {ts : List T} {xs : List V} (h : TReps K H ts xs) : TReps K H' ts xs := TReps.mono (fun a xs q => Same.sqT e a xs q) (fun a xs q => e.seq q) (fun a c q => e.get q) ts xs h
/-- all but lists lie in F too -/
def Full (F H : Hp) : Prop := ∀ b o, H b = some o → noT o = true → F b = some o ∨ ∃ xs, o = .lst xs
theorem Full.sqT {K : PySem.W.Frag} {F H : Hp} (f : Full F H) (a : Addr) (xs : List V) (h : SqT K H a xs) : SqT K F a xs := by
  rcases h with (h | ⟨o, h⟩) | h
  · rcases f _ _ h rfl with q | ⟨ys, q⟩
    · exact .inl (.inl q)
    · cases q
  · rcases f _ _ h rfl with q | ⟨ys, q⟩
    · exact .inl (.inr ⟨o, q⟩)
    · cases q
  · exact .inr h
theorem Full.exc {F H : Hp} (f : Full F H) {a c : Addr} (h : ExcAt H a c) : ExcAt F a c := by
  rcases f _ _ h rfl with q | ⟨ys, q⟩
  · exact q
  · cases q
mutual
theorem TRep.fullM {K : PySem.W.Frag} {F H : Hp} (e : Full F H) : ∀ (t : T) (v : V), pur t = true → TRep K H t v → TRep K F t v
  | .non, _, _, h => h
  | .bl _, _, _, h => h
  | .int _, _, _, h => h
  | .str _, _, _, h => h
  | .tup ts, _, p, ⟨a, xs, h1, h2, h3⟩ => ⟨a, xs, h1, e.sqT a xs h2, TReps.fullM e ts xs (by simpa only [pur] using p) h3⟩
  | .lst _, _, p, _ => by simp [pur] at p
  | .exc _, _, _, ⟨a, C, h1, z, h2⟩ => ⟨a, C, h1, z, e.exc h2⟩
theorem TReps.fullM {K : PySem.W.Frag} {F H : Hp} (e : Full F H) : ∀ (ts : List T) (xs : List V), purs ts = true → TReps K H ts xs → TReps K F ts xs
  | [], _, _, h => h
  | t :: ts, _, p, ⟨x, r, h1, h2, h3⟩ => by
    simp only [purs, Bool.and_eq_true] at p
    exact ⟨x, r, h1, TRep.fullM e t x p.1 h2, TReps.fullM e ts r p.2 h3⟩
end
theorem TRep.full {K : PySem.W.Frag} {F H : Hp} (e : Full F H) {t : T} {v : V} (p : pur t = true) (h : TRep K H t v) : TRep K F t v := TRep.fullM e t v p h
theorem TReps.full {K : PySem.W.Frag} {F H : Hp} (e : Full F H) {ts : List T} {xs : List V} (p : purs ts = true) (h : TReps K H ts xs) : TReps K F ts xs := TReps.fullM e ts xs p h
/-- a tree that is seen: plain where it holds no list -/
def norm (x : T) : S := if pur x = true then .t x else .vt x
theorem TReps.length {K : PySem.W.Frag} {H : Hp} : ∀ {ts : List T} {xs : List V}, TReps K H ts xs → xs.length = ts.length
  | [], _, e => by cases (show _ = [] from e); rfl
  | t :: ts, _, ⟨x, r, e, _, q⟩ => by subst e; rw [List.length_cons, List.length_cons, TReps.length q]
theorem TReps.get {K : PySem.W.Frag} {H : Hp} : ∀ {ts : List T} {xs : List V} {i : Nat} {t : T}, TReps K H ts xs → ts[i]? = some t → ∃ x, xs[i]? = some x ∧ TRep K H t x
  | [], _, _, _, _, e => by simp at e
  | t :: ts, _, 0, u, ⟨x, r, e, p, q⟩, h => by subst e; simp at h; subst h; exact ⟨x, by simp, p⟩
  | t :: ts, _, i + 1, u, ⟨x, r, e, p, q⟩, h => by
    subst e
    obtain ⟨y, h1, h2⟩ := TReps.get (i := i) q (by simpa using h)
    exact ⟨y, by simpa using h1, h2⟩
theorem TReps.getV {K : PySem.W.Frag} {H : Hp} : ∀ {ts : List T} {xs : List V} {i : Nat} {x : V}, TReps K H ts xs → xs[i]? = some x → ∃ t, ts[i]? = some t ∧ TRep K H t x
  | [], _, _, _, e, h => by cases (show _ = [] from e); simp at h
  | t :: ts, _, 0, u, ⟨x, r, e, p, q⟩, h => by subst e; simp at h; subst h; exact ⟨t, by simp, p⟩
  | t :: ts, _, i + 1, u, ⟨x, r, e, p, q⟩, h => by
    subst e
    obtain ⟨y, h1, h2⟩ := TReps.getV (i := i) q (by simpa using h)
    exact ⟨y, by simpa using h1, h2⟩
theorem TReps.append {K : PySem.W.Frag} {H : Hp} : ∀ {ts us : List T} {xs ys : List V}, TReps K H ts xs → TReps K H us ys → TReps K H (ts ++ us) (xs ++ ys)
  | [], _, _, _, e, q => by cases (show _ = [] from e); exact q
  | t :: ts, _, _, _, ⟨x, r, e, p, q⟩, h => by subst e; exact ⟨x, r ++ _, rfl, p, TReps.append q h⟩
theorem TReps.one {K : PySem.W.Frag} {H : Hp} {t : T} {x : V} (h : TRep K H t x) : TReps K H [t] [x] := ⟨x, [], rfl, h, rfl⟩
theorem TReps.take {K : PySem.W.Frag} {H : Hp} : ∀ {ts : List T} {xs : List V} (n : Nat), TReps K H ts xs → TReps K H (ts.take n) (xs.take n)
  | _, _, 0, _ => by simp only [List.take_zero]; rfl
  | [], _, _ + 1, e => by cases (show _ = [] from e); rfl
  | t :: ts, _, n + 1, ⟨x, r, e, p, q⟩ => by subst e; exact ⟨x, r.take n, rfl, p, TReps.take n q⟩
theorem TReps.drop {K : PySem.W.Frag} {H : Hp} : ∀ {ts : List T} {xs : List V} (n : Nat), TReps K H ts xs → TReps K H (ts.drop n) (xs.drop n)
  | _, _, 0, h => by simp only [List.drop_zero]; exact h
  | [], _, _ + 1, e => by cases (show _ = [] from e); rfl
  | t :: ts, _, n + 1, ⟨x, r, e, p, q⟩ => by subst e; exact TReps.drop n q
theorem TReps.set {K : PySem.W.Frag} {H : Hp} {u : T} {y : V} (h : TRep K H u y) : ∀ {ts : List T} {xs : List V} (n : Nat), TReps K H ts xs → TReps K H (ts.set n u) (xs.set n y)
  | [], _, _, e => by cases (show _ = [] from e); rfl
  | t :: ts, _, 0, ⟨x, r, e, p, q⟩ => by subst e; exact ⟨y, r, rfl, h, q⟩
  | t :: ts, _, n + 1, ⟨x, r, e, p, q⟩ => by subst e; exact ⟨x, r.set n y, rfl, p, TReps.set h n q⟩
theorem TReps.dropLast {K : PySem.W.Frag} {H : Hp} {ts : List T} {xs : List V} (h : TReps K H ts xs) : TReps K H ts.dropLast xs.dropLast := by
  rw [List.dropLast_eq_take, List.dropLast_eq_take, h.length]
  exact h.take _
theorem TReps.reverse {K : PySem.W.Frag} {H : Hp} : ∀ {ts : List T} {xs : List V}, TReps K H ts xs → TReps K H ts.reverse xs.reverse
  | [], _, e => by cases (show _ = [] from e); rfl
  | t :: ts, _, ⟨x, r, e, p, q⟩ => by subst e; rw [List.reverse_cons, List.reverse_cons]; exact TReps.append (TReps.reverse q) (TReps.one p)
theorem TReps.ints {K : PySem.W.Frag} {H : Hp} : ∀ (ns : List Int), TReps K H (ns.map T.int) (ns.map V.int)
  | [] => rfl
  | n :: ns => ⟨.int n, ns.map V.int, rfl, rfl, TReps.ints ns⟩

abbrev DSt := List (Option S)
abbrev WE := DSt → (S → Prop) → Prop
abbrev WT := DSt → (Bool → Prop) → Prop
abbrev WA := DSt → (List S → Prop) → Prop
structure DEnds where
  nx : DSt → Prop
  rt : S → Prop
  bk : DSt → Prop := fun _ => False
  ct : DSt → Prop := fun _ => False
abbrev WS := DEnds → DSt → Prop

def SlotOk (K : PySem.W.Frag) (F H : Hp) : S → V → Prop
  | .t x, v => TRep K F x v
  | .vt _, _ => False
  | .ol ts, v => ∃ a xs, v = .ref a ∧ F a = none ∧ H a = some (.lst xs) ∧ TReps K F ts xs
structure Rel (K : PySem.W.Frag) (F H : Hp) (σ : St) (δ : DSt) : Prop where
  sub : Same F H
  full : Full F H
  len : σ.length = δ.length
  slot : ∀ (i : Nat) (s : S), δ[i]? = some (some s) → ∃ v, σ[i]? = some (some v) ∧ SlotOk K F H s v
  dist : ∀ (i j : Nat) (a : Addr) (ts us : List T), i ≠ j → δ[i]? = some (some (.ol ts)) → δ[j]? = some (some (.ol us)) → σ[i]? = some (some (.ref a)) → σ[j]? ≠ some (some (.ref a))
  tab : TabK K H
structure Ext (F H F' H' : Hp) : Prop where
  hh : Same H H'
  ff : Same F F'
  sub : Same F' H'
  full : Full F' H'
  keep : ∀ b, H b ≠ none → F b = none → F' b = none
  tb : Tab H → Tab H'
theorem none_of_same {H H' : Hp} (e : Same H H') {b : Addr} (h : H' b = none) : H b = none := e.free h
theorem Ext.refl {F H : Hp} (a : Same F H) (b : Full F H) : Ext F H F H := ⟨Same.refl _, Same.refl _, a, b, fun _ _ h => h, id⟩
theorem Ext.trans {F H F1 H1 F2 H2 : Hp} (a : Ext F H F1 H1) (b : Ext F1 H1 F2 H2) : Ext F H F2 H2 :=
  ⟨a.hh.trans b.hh, a.ff.trans b.ff, b.sub, b.full, fun c h1 h2 => b.keep c (fun z => h1 (none_of_same a.hh z)) (a.keep c h1 h2), fun t => b.tb (a.tb t)⟩
theorem SlotOk.ext {K : PySem.W.Frag} {F H F' H' : Hp} (e : Ext F H F' H') : ∀ {s : S} {v : V}, SlotOk K F H s v → SlotOk K F' H' s v
  | .t _, _, h => TRep.same e.ff h
  | .vt _, _, h => h
  | .ol _, _, ⟨a, xs, h1, h2, h3, h4⟩ => ⟨a, xs, h1, e.keep a (by rw [h3]; simp) h2, e.hh.get h3, TReps.same e.ff h4⟩
theorem Rel.ext {K : PySem.W.Frag} {F H F' H' : Hp} {σ : St} {δ : DSt} (r : Rel K F H σ δ) (e : Ext F H F' H') : Rel K F' H' σ δ :=
  ⟨e.sub, e.full, r.len, fun i s h => let ⟨v, h1, h2⟩ := r.slot i s h; ⟨v, h1, h2.ext e⟩, r.dist, r.tab.same e.hh (e.tb r.tab.1)⟩
theorem Rel.refl {K : PySem.W.Frag} {F H : Hp} {σ : St} {δ : DSt} (r : Rel K F H σ δ) : Ext F H F H := Ext.refl r.sub r.full

/-- what an expression has yielded: H ahead of it, F' and H' behind -/
def RepE (K : PySem.W.Frag) (H F' H' : Hp) : S → V → Prop
  | .t x, v => TRep K F' x v
  | .vt x, v => TRep K H' x v
  | .ol ts, v => ∃ a xs, v = .ref a ∧ H a = none ∧ F' a = none ∧ H' a = some (.lst xs) ∧ TReps K F' ts xs
theorem RepE.ext {K : PySem.W.Frag} {H F1 H1 F2 H2 : Hp} (e : Ext F1 H1 F2 H2) : ∀ {s : S} {v : V}, RepE K H F1 H1 s v → RepE K H F2 H2 s v
  | .t _, _, h => TRep.same e.ff h
  | .vt _, _, h => TRep.same e.hh h
  | .ol _, _, ⟨a, xs, h1, h2, h3, h4⟩ => ⟨a, xs, h1, h2, e.keep a (by rw [h4.1]; simp) h3, e.hh.get h4.1, TReps.same e.ff h4.2⟩
theorem RepE.start {K : PySem.W.Frag} {H0 H F' H' : Hp} (e : Same H0 H) : ∀ {s : S} {v : V}, RepE K H F' H' s v → RepE K H0 F' H' s v
  | .t _, _, h => h
  | .vt _, _, h => h
  | .ol _, _, ⟨a, xs, h1, h2, h3⟩ => ⟨a, xs, h1, none_of_same e h2, h3⟩
theorem RepE.norm {K : PySem.W.Frag} {H F H' : Hp} (f : Full F H') {x : T} {v : V} (h : TRep K H' x v) : RepE K H F H' (norm x) v := by
  unfold DL.norm
  split
  · rename_i p; exact TRep.full f p h
  · exact h
/-- an operand -/
def RepV (K : PySem.W.Frag) (F H : Hp) : S → V → Prop
  | .t x, v => TRep K F x v
  | .vt x, v => TRep K H x v
  | .ol ts, v => ∃ a xs, v = .ref a ∧ SqL K H a xs ∧ TReps K F ts xs
theorem RepE.val {K : PySem.W.Frag} {H0 F H : Hp} (e : Same F H) : ∀ {s : S} {v : V}, RepE K H0 F H s v → RepV K F H s v
  | .t _, _, h => h
  | .vt _, _, h => h
  | .ol _, _, ⟨a, xs, h1, _, _, h2, h3⟩ => ⟨a, xs, h1, SqL.of h2, h3⟩
/-- the tree of a value -/
def tr : S → T
  | .t x => x
  | .vt x => x
  | .ol ts => .lst ts
theorem RepV.tree {K : PySem.W.Frag} {F H : Hp} (e : Same F H) : ∀ {s : S} {v : V}, RepV K F H s v → TRep K H (tr s) v
  | .t _, _, h => TRep.same e h
  | .vt _, _, h => h
  | .ol _, _, ⟨a, xs, h1, h2, h3⟩ => ⟨a, xs, h1, h2, TReps.same e h3⟩
/-- the items of a list value -/
def items : S → Option (List T)
  | .t (.lst ts) => some ts
  | .vt (.lst ts) => some ts
  | .ol ts => some ts
  | _ => none
theorem RepV.list {K : PySem.W.Frag} {F H : Hp} (e : Same F H) {s : S} {v : V} {ts : List T} (h : RepV K F H s v) (q : items s = some ts) : ∃ a xs, v = .ref a ∧ SqL K H a xs ∧ TReps K H ts xs := by
  cases s with
  | t x =>
    cases x with
    | lst us =>
      have e1 : us = ts := Option.some.inj q
      subst e1
      unfold RepV TRep at h
      obtain ⟨a, xs, h1, h2, h3⟩ := h
      exact ⟨a, xs, h1, e.seq h2, TReps.same e h3⟩
    | _ => cases q
  | vt x =>
    cases x with
    | lst us =>
      have e1 : us = ts := Option.some.inj q
      subst e1
      unfold RepV TRep at h
      exact h
    | _ => cases q
  | ol us =>
    have e1 : us = ts := Option.some.inj q
    subst e1
    unfold RepV at h
    obtain ⟨a, xs, h1, h2, h3⟩ := h
    exact ⟨a, xs, h1, h2, TReps.same e h3⟩

def liftE (K : PySem.W.Frag) (w : WE) : TE := fun σ H Q => ∃ δ R F, Rel K F H σ δ ∧ w δ R ∧ ∀ v F' H' s, Ext F H F' H' → RepE K H F' H' s v → R s → Q v H'
def liftT (K : PySem.W.Frag) (w : WT) : TT := fun σ H Q => ∃ δ R F, Rel K F H σ δ ∧ w δ R ∧ ∀ F' H' b, Ext F H F' H' → R b → Q b H'
def RepEs (K : PySem.W.Frag) (H F' H' : Hp) : List S → List V → Prop
  | [], vs => vs = []
  | s :: ss, vs => ∃ v r, vs = v :: r ∧ RepE K H F' H' s v ∧ RepEs K H F' H' ss r
theorem RepEs.start {K : PySem.W.Frag} {H0 H F' H' : Hp} (e : Same H0 H) : ∀ {ss : List S} {vs : List V}, RepEs K H F' H' ss vs → RepEs K H0 F' H' ss vs
  | [], _, h => h
  | _ :: _, _, ⟨v, r, h1, h2, h3⟩ => ⟨v, r, h1, h2.start e, RepEs.start e h3⟩
def liftA (K : PySem.W.Frag) (w : WA) : TA := fun σ H Q => ∃ δ R F, Rel K F H σ δ ∧ w δ R ∧ ∀ vs F' H' ss, Ext F H F' H' → RepEs K H F' H' ss vs → R ss → Q vs H'
/-- what a def gives back: H₀ at its entry -/
def RepC (K : PySem.W.Frag) (H₀ H' : Hp) : S → V → Prop
  | .t x, v => TRep K H' x v
  | .vt _, _ => False
  | .ol ts, v => ∃ a xs, v = .ref a ∧ H₀ a = none ∧ H' a = some (.lst xs) ∧ TReps K H' ts xs
structure EndsOk (K : PySem.W.Frag) (H₀ F : Hp) (D' : DEnds) (D : Ends) : Prop where
  nx : ∀ σ' F' H' δ', Same F F' → Rel K F' H' σ' δ' → D'.nx δ' → D.nx σ' H'
  rt : ∀ v H' s, Same H₀ H' → TabK K H' → RepC K H₀ H' s v → D'.rt s → D.rt v H'
  bk : ∀ σ' F' H' δ', Same F F' → Rel K F' H' σ' δ' → D'.bk δ' → D.bk σ' H'
  ct : ∀ σ' F' H' δ', Same F F' → Rel K F' H' σ' δ' → D'.ct δ' → D.ct σ' H'
theorem EndsOk.mono {K : PySem.W.Frag} {H₀ F F1 : Hp} {D' : DEnds} {D : Ends} (e : EndsOk K H₀ F D' D) (s : Same F F1) : EndsOk K H₀ F1 D' D :=
  ⟨fun _ _ _ _ h => e.nx _ _ _ _ (s.trans h), e.rt, fun _ _ _ _ h => e.bk _ _ _ _ (s.trans h), fun _ _ _ _ h => e.ct _ _ _ _ (s.trans h)⟩
def liftS (K : PySem.W.Frag) (H₀ : Hp) (w : WS) : TS := fun D σ H => ∃ δ D' F, Same H₀ F ∧ Rel K F H σ δ ∧ w D' δ ∧ EndsOk K H₀ F D' D

end DL
namespace L2
open PySem
section
variable {X : Cx} {e : Expr} {t t' : TE}
theorem PE.imp (h : PE X e t) (i : ∀ σ H Q, t' σ H Q → t σ H Q) : PE X e t' := fun pins s σ H Q I q => h pins s σ H Q I (i σ H Q q)
theorem PT.imp {t t' : TT} (h : PT X e t) (i : ∀ σ H Q, t' σ H Q → t σ H Q) : PT X e t' := fun pins s σ H Q I q => h pins s σ H Q I (i σ H Q q)
theorem PW.imp {t t' : TT} (h : PW X e t) (i : ∀ σ H Q, t' σ H Q → t σ H Q) : PW X e t' := fun wh pins s σ H Q I q => h wh pins s σ H Q I (i σ H Q q)
theorem PA.imp {es : List Expr} {t t' : TA} (h : PA X es t) (i : ∀ σ H Q, t' σ H Q → t σ H Q) : PA X es t' := fun pos pins s σ H Q I q => h pos pins s σ H Q I (i σ H Q q)
theorem PS.imp {st : Stmt} {t t' : TS} (h : PS X st t) (i : ∀ D σ H, t' D σ H → t D σ H) : PS X st t' := fun pins s σ H D I q => h pins s σ H D I (i D σ H q)
theorem PSs.imp {st : List Stmt} {t t' : TS} (h : PSs X st t) (i : ∀ D σ H, t' D σ H → t D σ H) : PSs X st t' := fun pins s σ H D I q => h pins s σ H D I (i D σ H q)
theorem PG.imp {tg : Expr} {t t' : TG} (h : PG X tg t) (i : ∀ v σ H Q, t' v σ H Q → t v σ H Q) : PG X tg t' := fun pins s σ H v u Q I r q => h pins s σ H v u Q I r (i v σ H Q q)
theorem PGs.imp {tg : List Expr} {t t' : TGs} (h : PGs X tg t) (i : ∀ v σ H Q, t' v σ H Q → t v σ H Q) : PGs X tg t' := fun pins s σ H v u Q I r q => h pins s σ H v u Q I r (i v σ H Q q)
theorem PI.imp {tg iter : Expr} {t t' : TI} (h : PI X tg iter t) (i : ∀ σ H Q, t' σ H Q → t σ H Q) : PI X tg iter t' := fun pins s σ H R I q => h pins s σ H R I (i σ H R q)
end
end L2
namespace DL
open PySem L2
/-! ### expressions -/
def wC (x : T) : WE := fun _ R => R (.t x)
def seen : S → S
  | .ol ts => .vt (.lst ts)
  | .t x => .t x
  | .vt x => .vt x
def wVar (i : Nat) : WE := fun δ R => match δ[i]? with
  | some (some s) => R (seen s)
  | _ => False
section
variable {X : Cx} {a b c : Expr} {wa wb wc : WE} {pos : Pos}
theorem de_int {i j pos} : PE X (.Constant (.int i) j pos) (liftE X.K (wC (.int i))) := pe_int.imp fun _ _ _ ⟨_, _, _, r, h, k⟩ => k _ _ _ (.t (.int i)) r.refl rfl h
theorem de_bl {i j pos} : PE X (.Constant (.bool i) j pos) (liftE X.K (wC (.bl i))) := pe_bl.imp fun _ _ _ ⟨_, _, _, r, h, k⟩ => k _ _ _ (.t (.bl i)) r.refl rfl h
theorem seen_ok {K : PySem.W.Frag} {F H : Hp} (e : Same F H) : ∀ {s : S} {v : V}, SlotOk K F H s v → RepE K H F H (seen s) v
  | .t _, _, h => h
  | .vt _, _, h => False.elim h
  | .ol _, _, ⟨a, xs, h1, _, h3, h4⟩ => ⟨a, xs, h1, SqL.of h3, TReps.same e h4⟩
theorem de_of_var {e : Expr} {i : Nat} (h : PE X e (tVar i)) : PE X e (liftE X.K (wVar i)) := h.imp fun σ H Q ⟨δ, R, F, r, h, k⟩ => by
  unfold wVar at h
  split at h
  · rename_i s hs
    obtain ⟨v, h1, h2⟩ := r.slot i s hs
    exact ⟨v, h1, k _ _ _ _ r.refl (seen_ok r.sub h2) h⟩
  · exact h.elim
theorem dv (i : Nat) {x : Str} {pos : Pos} (hN : X.N[i]? = some x := by rfl) (hv : Vis X.env.scope x := by first | exact Or.inl rfl | exact Or.inr (Or.inl rfl) | exact Or.inr (Or.inr rfl)) (hd : (x == ("__debug__" : Str)) = false := by decide)
    (hcd : (x == ("__classdict__" : Str)) = false := by decide) : PE X (.Name x pos) (liftE X.K (wVar i)) := de_of_var (pe_var hN hv hd hcd)

/-- two operands, one after another -/
def wOp2 (f : S → S → (S → Prop) → Prop) (wa wb : WE) : WE := fun δ R => wa δ fun x => wb δ fun y => f x y R
def Op2 (K : PySem.W.Frag) (r : R2) (f : S → S → (S → Prop) → Prop) : Prop :=
  ∀ F H s1 s2 v1 v2 R Q, Same F H → Full F H → RepV K F H s1 v1 → RepV K F H s2 v2 → f s1 s2 R → (∀ v F' H' s, Ext F H F' H' → RepE K H F' H' s v → R s → Q v H') → r v1 v2 H Q
theorem lift_op2 {K : PySem.W.Frag} {r : R2} {f : S → S → (S → Prop) → Prop} (ho : Op2 K r f) : ∀ σ H Q, liftE K (wOp2 f wa wb) σ H Q → tOp r (liftE K wa) (liftE K wb) σ H Q := by
  rintro σ H Q ⟨δ, R, F, rl, h, k⟩
  refine ⟨δ, _, F, rl, h, fun v1 F1 H1 s1 e1 p1 h1 => ?_⟩
  refine ⟨δ, _, F1, rl.ext e1, h1, fun v2 F2 H2 s2 e2 p2 h2 => ?_⟩
  refine ho F2 H2 s1 s2 v1 v2 R Q e2.sub e2.full ((p1.ext e2).val e2.sub) (p2.val e2.sub) h2 fun v F' H' s e p q => ?_
  exact k v F' H' s ((e1.trans e2).trans e) (p.start (e1.trans e2).hh) q
def fI (C : Int → Int → Prop) (g : Int → Int → T) : S → S → (S → Prop) → Prop
  | .t (.int i), .t (.int j), R => C i j ∧ R (.t (g i j))
  | _, _, _ => False
def fI0 (g : Int → Int → T) : S → S → (S → Prop) → Prop
  | .t (.int i), .t (.int j), R => R (.t (g i j))
  | _, _, _ => False
theorem fI_ints {C : Int → Int → Prop} {g : Int → Int → T} : ∀ {s1 s2 : S} {R : S → Prop}, fI C g s1 s2 R → ∃ i j, s1 = .t (.int i) ∧ s2 = .t (.int j) ∧ C i j ∧ R (.t (g i j))
  | .t (.int i), .t (.int j), _, h => ⟨i, j, rfl, rfl, h.1, h.2⟩
theorem fI0_ints {g : Int → Int → T} : ∀ {s1 s2 : S} {R : S → Prop}, fI0 g s1 s2 R → ∃ i j, s1 = .t (.int i) ∧ s2 = .t (.int j) ∧ R (.t (g i j))
  | .t (.int i), .t (.int j), _, h => ⟨i, j, rfl, rfl, h⟩
/-- a flat value -/
def toV : T → V
  | .bl b => .bl b
  | .int i => .int i
  | .str x => .str x
  | _ => .non
def flat : T → Bool
  | .tup _ => false
  | .lst _ => false
  | .exc _ => false
  | _ => true
theorem flat_rep {K : PySem.W.Frag} {F : Hp} : ∀ {x : T}, flat x = true → TRep K F x (toV x)
  | .non, _ => rfl
  | .bl _, _ => rfl
  | .int _, _ => rfl
  | .str _, _ => rfl
theorem op2_I {K : PySem.W.Frag} {C : Int → Int → Prop} {g : Int → Int → T} (hg : ∀ i j, flat (g i j) = true) : Op2 K (rI C fun i j => toV (g i j)) (fI C g) := by
  intro F H s1 s2 v1 v2 R Q sb fu p1 p2 h k
  obtain ⟨i, j, rfl, rfl, hc, hr⟩ := fI_ints h
  exact ⟨i, j, p1, p2, hc, k _ F H (.t (g i j)) (Ext.refl sb fu) (flat_rep (hg i j)) hr⟩
theorem op2_I0 {K : PySem.W.Frag} {g : Int → Int → T} (hg : ∀ i j, flat (g i j) = true) : Op2 K (rI0 fun i j => toV (g i j)) (fI0 g) := by
  intro F H s1 s2 v1 v2 R Q sb fu p1 p2 h k
  obtain ⟨i, j, rfl, rfl, hr⟩ := fI0_ints h
  exact ⟨i, j, p1, p2, k _ F H (.t (g i j)) (Ext.refl sb fu) (flat_rep (hg i j)) hr⟩
abbrev wAdd := wOp2 (fI0 fun i j => .int (i + j))
abbrev wSub := wOp2 (fI0 fun i j => .int (i - j))
/-- sizes, closed up: nothing is reckoned where these are compared -/
structure MulOk (i j : Int) : Prop where
  ok : IntMulOk i j
structure PowOk (i j : Int) : Prop where
  ok : CPow i j
abbrev wMul := wOp2 (fI MulOk fun i j => .int (i * j))
/-- a divisor that is not 0, not both over-long -/
structure DivOk (i j : Int) : Prop where
  ne : j ≠ 0
  short : Builtin.divisionGoesByPylong i j = false
abbrev wFdiv := wOp2 (fI DivOk fun i j => .int (i.fdiv j))
abbrev wMod := wOp2 (fI (fun _ j => j ≠ 0) fun i j => .int (i.fmod j))
abbrev wPow := wOp2 (fI PowOk fun i j => .int (i ^ j.toNat))
theorem op_mulW : OpR X (binaryOp .Mult) (rI MulOk fun i j => .int (i * j)) := opI fun _ _ _ _ _ _ _ hc q => PyProof.Rows.mul_int q hc.ok
theorem op_fdivW : OpR X (binaryOp .FloorDiv) (rI DivOk fun i j => .int (i.fdiv j)) := opI fun _ _ _ _ _ _ _ hc q => PyProof.Rows.floordiv_int hc.ne q (.inl hc.short)
theorem de_add (ha : PE X a (liftE X.K wa)) (hb : PE X b (liftE X.K wb)) : PE X (.BinOp a .Add b pos) (liftE X.K (wAdd wa wb)) := (pe_op op_add ha hb).imp (lift_op2 (op2_I0 fun _ _ => rfl))
theorem de_sub (ha : PE X a (liftE X.K wa)) (hb : PE X b (liftE X.K wb)) : PE X (.BinOp a .Sub b pos) (liftE X.K (wSub wa wb)) := (pe_op op_sub ha hb).imp (lift_op2 (op2_I0 fun _ _ => rfl))
theorem de_mul (ha : PE X a (liftE X.K wa)) (hb : PE X b (liftE X.K wb)) : PE X (.BinOp a .Mult b pos) (liftE X.K (wMul wa wb)) := (pe_op op_mulW ha hb).imp (lift_op2 (op2_I fun _ _ => rfl))
theorem de_fdiv (ha : PE X a (liftE X.K wa)) (hb : PE X b (liftE X.K wb)) : PE X (.BinOp a .FloorDiv b pos) (liftE X.K (wFdiv wa wb)) := (pe_op op_fdivW ha hb).imp (lift_op2 (op2_I fun _ _ => rfl))
theorem de_mod (ha : PE X a (liftE X.K wa)) (hb : PE X b (liftE X.K wb)) : PE X (.BinOp a .Mod b pos) (liftE X.K (wMod wa wb)) := (pe_op op_modN ha hb).imp (lift_op2 (op2_I fun _ _ => rfl))
theorem de_pow (ha : PE X a (liftE X.K wa)) (hb : PE X b (liftE X.K wb)) : PE X (.BinOp a .Pow b pos) (liftE X.K (wPow wa wb)) := (pe_op (show OpR X (binaryOp .Pow) (rI PowOk fun i j => .int (i ^ j.toNat)) from fun pins s σ H x y v u Q I rx ry ⟨i, j, e1, e2, hc, q⟩ => op_pow pins s σ H x y v u Q I rx ry ⟨i, j, e1, e2, hc.ok, q⟩) ha hb).imp (lift_op2 (op2_I fun _ _ => rfl))
/-! comparisons of ints -/
abbrev wLt := wOp2 (fI0 fun i j => .bl (decide (i < j)))
abbrev wGt := wOp2 (fI0 fun i j => .bl (decide (j < i)))
abbrev wGe := wOp2 (fI0 fun i j => .bl (decide (j ≤ i)))
/-! a value as a test -/
def wB (w : WE) : WT := fun δ R => w δ fun s => match s with
  | .t (.bl k) => R k
  | _ => False
theorem dt_cmp {op : CmpOp} {r : R2} {f : S → S → (S → Prop) → Prop} (ho : OpR X (compareOp op) r) (hf : Op2 X.K r f) (ha : PE X a (liftE X.K wa)) (hb : PE X b (liftE X.K wb)) (hm : behindInMarks op b = false) : PT X (.Compare a [op] [b] pos) (liftT X.K (wB (wOp2 f wa wb))) :=
  (pt_cmpR ho ha hb hm).imp fun σ H Q h => by
    obtain ⟨δ, R, F, rl, h, k⟩ := h
    refine lift_op2 hf σ H _ ⟨δ, _, F, rl, h, fun v F1 H1 s e p q => ?_⟩
    split at q
    · exact ⟨_, p, k F1 H1 _ e q⟩
    · exact q.elim
theorem dt_lt (ha : PE X a (liftE X.K wa)) (hb : PE X b (liftE X.K wb)) : PT X (.Compare a [.Lt] [b] pos) (liftT X.K (wB (wLt wa wb))) := dt_cmp op_lt (op2_I0 fun _ _ => rfl) ha hb (nomark _)
theorem dt_gt (ha : PE X a (liftE X.K wa)) (hb : PE X b (liftE X.K wb)) : PT X (.Compare a [.Gt] [b] pos) (liftT X.K (wB (wGt wa wb))) := dt_cmp op_gt (op2_I0 fun _ _ => rfl) ha hb (nomark _)
theorem dt_ge (ha : PE X a (liftE X.K wa)) (hb : PE X b (liftE X.K wb)) : PT X (.Compare a [.GtE] [b] pos) (liftT X.K (wB (wGe wa wb))) := dt_cmp op_ge (op2_I0 fun _ _ => rfl) ha hb (nomark _)
def wAndT (t u : WT) : WT := fun δ R => t δ fun k => if k = true then u δ R else R false
def wOrT (t u : WT) : WT := fun δ R => t δ fun k => if k = true then R true else u δ R
def wNotT (t : WT) : WT := fun δ R => t δ fun k => R (!k)
theorem dw_and1 {t : WT} (ha : PT X a (liftT X.K t)) : PW X (.BoolOp .And [a] pos) (liftT X.K t) := pw_and1 ha
theorem dw_or1 {t : WT} (ha : PT X a (liftT X.K t)) : PW X (.BoolOp .Or [a] pos) (liftT X.K t) := pw_or1 ha
theorem dw_and {rest : List Expr} {t u : WT} (ha : PT X a (liftT X.K t)) (hb : PW X (.BoolOp .And (b :: rest) pos) (liftT X.K u)) : PW X (.BoolOp .And (a :: b :: rest) pos) (liftT X.K (wAndT t u)) :=
  (pw_and ha hb).imp fun σ H Q ⟨δ, R, F, rl, h, k⟩ => ⟨δ, _, F, rl, h, fun F1 H1 c e q => by
    cases c with
    | true => exact ⟨δ, R, F1, rl.ext e, by simpa using q, fun F2 H2 c e2 q => k F2 H2 c (e.trans e2) q⟩
    | false => exact k F1 H1 false e (by simpa using q)⟩
theorem dw_or {rest : List Expr} {t u : WT} (ha : PT X a (liftT X.K t)) (hb : PW X (.BoolOp .Or (b :: rest) pos) (liftT X.K u)) : PW X (.BoolOp .Or (a :: b :: rest) pos) (liftT X.K (wOrT t u)) :=
  (pw_or ha hb).imp fun σ H Q ⟨δ, R, F, rl, h, k⟩ => ⟨δ, _, F, rl, h, fun F1 H1 c e q => by
    cases c with
    | false => exact ⟨δ, R, F1, rl.ext e, by simpa using q, fun F2 H2 c e2 q => k F2 H2 c (e.trans e2) q⟩
    | true => exact k F1 H1 true e (by simpa using q)⟩
/-- a test with a word of one's own behind it -/
def wT1 (t : WT) : WT := fun δ R => ∃ P : Bool → Prop, t δ P ∧ ∀ k, P k → R k
theorem dt_1 {t : WT} (ha : PT X a (liftT X.K t)) : PT X a (liftT X.K (wT1 t)) := ha.imp fun σ H Q ⟨δ, R, F, rl, ⟨P, h, k1⟩, k⟩ => ⟨δ, P, F, rl, h, fun F1 H1 c e q => k F1 H1 c e (k1 c q)⟩
/-! and, or, not, x if c else y as values -/
def wAndV (wa wb : WE) : WE := fun δ R => wa δ fun s => match s with
  | .t (.bl k) => if k = true then wb δ R else R (.t (.bl false))
  | _ => False
def wOrV (wa wb : WE) : WE := fun δ R => wa δ fun s => match s with
  | .t (.bl k) => if k = true then R (.t (.bl true)) else wb δ R
  | _ => False
def wNotV (wa : WE) : WE := fun δ R => wa δ fun s => match s with
  | .t (.bl k) => R (.t (.bl (!k)))
  | _ => False
def wIfE (c : WT) (wa wb : WE) : WE := fun δ R => c δ fun k => if k = true then wa δ R else wb δ R
/-! one operand -/
def wUn (f : S → (S → Prop) → Prop) (wa : WE) : WE := fun δ R => wa δ fun x => f x R
def fNeg : S → (S → Prop) → Prop
  | .t (.int i), R => R (.t (.int (-i)))
  | _, _ => False
theorem de_neg (ha : PE X a (liftE X.K wa)) : PE X (.UnaryOp .USub a pos) (liftE X.K (wUn fNeg wa)) :=
  (pe_un un_neg ha).imp fun σ H Q ⟨δ, R, F, rl, h, k⟩ => ⟨δ, _, F, rl, h, fun v F1 H1 s e p q => by
    unfold fNeg at q
    split at q
    · exact ⟨_, p, k _ F1 H1 (.t (.int _)) e rfl q⟩
    · exact q.elim⟩
/-! an item by its place -/
def atT (ts : List T) (i : Int) (R : S → Prop) : Prop := match atI ts i with
  | some x => R (.t x)
  | none => False
def atV (ts : List T) (i : Int) (R : S → Prop) : Prop := match atI ts i with
  | some x => R (norm x)
  | none => False
def fIx : S → S → (S → Prop) → Prop
  | .t (.tup ts), .t (.int i), R => atT ts i R
  | .t (.lst ts), .t (.int i), R => atT ts i R
  | .vt (.tup ts), .t (.int i), R => atV ts i R
  | .vt (.lst ts), .t (.int i), R => atV ts i R
  | .ol ts, .t (.int i), R => atT ts i R
  | _, _, _ => False
theorem TReps.atI {K : PySem.W.Frag} {H : Hp} {ts : List T} {xs : List V} {i : Int} {t : T} (h : TReps K H ts xs) (e : atI ts i = some t) : ∃ x, atI xs i = some x ∧ TRep K H t x := by
  unfold L2.atI at e ⊢
  rw [h.length]
  cases q : ixN ts.length i with
  | none => rw [q] at e; cases e
  | some j =>
    rw [q] at e
    obtain ⟨x, h1, h2⟩ := h.get (i := j) (by simpa using e)
    exact ⟨x, by simpa using h1, h2⟩
theorem atT_shape {ts : List T} {i : Int} {R : S → Prop} (h : atT ts i R) : ∃ x, atI ts i = some x ∧ R (.t x) := by
  unfold atT at h
  cases e : atI ts i with
  | none => simp only [e] at h
  | some x => simp only [e] at h; exact ⟨x, rfl, h⟩
theorem atV_shape {ts : List T} {i : Int} {R : S → Prop} (h : atV ts i R) : ∃ x, atI ts i = some x ∧ R (norm x) := by
  unfold atV at h
  cases e : atI ts i with
  | none => simp only [e] at h
  | some x => simp only [e] at h; exact ⟨x, rfl, h⟩
theorem op2_ix {K : PySem.W.Frag} : Op2 K (fun x y H Q => rIxL K x y H Q ∨ rIxT K x y H Q) fIx := by
  intro F H s1 s2 v1 v2 R Q sb fu p1 p2 h k
  unfold fIx at h
  split at h
  · obtain ⟨x, hx, hr⟩ := atT_shape h
    obtain ⟨a, xs, e1, h1, h2⟩ := p1
    obtain ⟨y, h3, h4⟩ := h2.atI hx
    exact .inr ⟨a, xs, _, y, e1, p2, Same.sqT sb a xs h1, h3, k _ F H (.t x) (Ext.refl sb fu) h4 hr⟩
  · obtain ⟨x, hx, hr⟩ := atT_shape h
    obtain ⟨a, xs, e1, h1, h2⟩ := p1
    obtain ⟨y, h3, h4⟩ := h2.atI hx
    exact .inl ⟨a, xs, _, y, e1, p2, sb.seq h1, h3, k _ F H (.t x) (Ext.refl sb fu) h4 hr⟩
  · obtain ⟨x, hx, hr⟩ := atV_shape h
    obtain ⟨a, xs, e1, h1, h2⟩ := p1
    obtain ⟨y, h3, h4⟩ := h2.atI hx
    exact .inr ⟨a, xs, _, y, e1, p2, h1, h3, k _ F H _ (Ext.refl sb fu) (RepE.norm fu h4) hr⟩
  · obtain ⟨x, hx, hr⟩ := atV_shape h
    obtain ⟨a, xs, e1, h1, h2⟩ := p1
    obtain ⟨y, h3, h4⟩ := h2.atI hx
    exact .inl ⟨a, xs, _, y, e1, p2, h1, h3, k _ F H _ (Ext.refl sb fu) (RepE.norm fu h4) hr⟩
  · obtain ⟨x, hx, hr⟩ := atT_shape h
    obtain ⟨a, xs, e1, h1, h2⟩ := p1
    obtain ⟨y, h3, h4⟩ := h2.atI hx
    exact .inl ⟨a, xs, _, y, e1, p2, h1, h3, k _ F H (.t x) (Ext.refl sb fu) h4 hr⟩
  · exact h.elim
theorem de_ix (ha : PE X a (liftE X.K wa)) (hb : PE X b (liftE X.K wb)) (hs : PlainIx b := by exact fun _ _ => rfl) : PE X (.Subscript a b pos) (liftE X.K (wOp2 fIx wa wb)) :=
  (pe_ix (ix_list.or ix_tup) ha hb hs).imp (lift_op2 op2_ix)
end
/-- no *e -/
def plainHd : Expr → Bool
  | .Starred .. => false
  | _ => true
theorem star_plain {e : Expr} {es : List Expr} {env : Env} (h : plainHd e = true) : starEach (e :: es) env = (false, eval e env) :: starEach es env := by
  cases e <;> first | rfl | cases h
theorem star_any {pos : Pos} {env : Env} : ∀ {es : List Expr}, es.all plainHd = true → (backTo pos (starEach es env)).any (·.1) = false
  | [], _ => rfl
  | e :: es, h => by
    simp only [List.all_cons, Bool.and_eq_true] at h
    rw [star_plain h.1]
    show (false || (backTo pos (starEach es env)).any (·.1)) = false
    rw [star_any h.2]; rfl
end DL

set_option Elab.async false
set_option linter.all false
set_option maxRecDepth 100000
namespace DL
open PySem L2

/-! ### arguments, displays, calls -/
theorem upd_some {H : Hp} {p : Addr} {o : HO} (hp : H p = none) : Same H (upd H p o) := same_new hp
theorem same_upd {F H : Hp} {p : Addr} {o : HO} (sb : Same F H) : Same (upd F p o) (upd H p o) := by
  refine ⟨fun b u q n => ?_, fun b ps q => ?_⟩
  · by_cases e : b = p
    · subst e; rw [upd_same] at q ⊢; exact q
    · rw [upd_ne e] at q ⊢; exact sb.all _ _ q n
  · by_cases e : b = p
    · subst e; rw [upd_same] at q; exact ⟨ps, by rw [upd_same]; exact q⟩
    · rw [upd_ne e] at q ⊢; exact sb.tbl _ _ q
theorem Ext.new {F H : Hp} {p : Addr} (o : HO) (sb : Same F H) (fu : Full F H) (hp : H p = none) (n : noT o = true := by rfl) : Ext F H (upd F p o) (upd H p o) := by
  have fp : F p = none := none_of_same sb hp
  refine ⟨upd_some hp, upd_some fp, same_upd sb, fun b u q n => ?_, fun b h1 h2 => ?_, fun t => tab_upd t hp n⟩
  · by_cases e : b = p
    · subst e; rw [upd_same] at q; exact .inl (by rw [upd_same]; exact q)
    · rw [upd_ne e] at q; rw [upd_ne e]; exact fu _ _ q n
  · have : b ≠ p := fun e => h1 (by rw [e]; exact hp)
    rw [upd_ne this]; exact h2
theorem Ext.newL {F H : Hp} {p : Addr} (xs : List V) (sb : Same F H) (fu : Full F H) (hp : H p = none) : Ext F H F (upd H p (.lst xs)) := by
  refine ⟨upd_some hp, Same.refl _, sb.trans (upd_some hp), fun b u q n => ?_, fun b _ h2 => h2, fun t => tab_upd t hp rfl⟩
  by_cases e : b = p
  · subst e; rw [upd_same] at q; cases q; exact .inr ⟨xs, rfl⟩
  · rw [upd_ne e] at q; exact fu _ _ q n
def wNil : WA := fun _ R => R []
def wCons (wa : WE) (wr : WA) : WA := fun δ R => wa δ fun x => wr δ fun xs => R (x :: xs)
/-- F grown by what is new in H', but for x -/
def grow (F H H' : Hp) (x : Option Addr) : Hp := fun b => if (H b).isNone = true then (if x = some b then none else H' b) else F b
theorem some_of {F H : Hp} (sb : Same F H) {b : Addr} {o : HO} (h : F b = some o) : ¬ (H b).isNone = true := fun z => by
  rw [none_of_same sb (Option.isNone_iff_eq_none.mp z)] at h; cases h
theorem grow_in {F H H' : Hp} {x : Option Addr} (sb : Same F H) {b : Addr} {o : HO} (h : F b = some o) : grow F H H' x b = some o := by
  unfold grow
  rw [if_neg (some_of sb h)]; exact h
theorem grow_sub {F H H' : Hp} {x : Option Addr} (s : Same F H') : Same (grow F H H' x) H' := by
  refine ⟨fun b o q n => ?_, fun b ps q => ?_⟩
  · unfold grow at q
    split at q
    · split at q
      · cases q
      · exact q
    · exact s.all _ _ q n
  · unfold grow at q
    split at q
    · split at q
      · cases q
      · exact ⟨ps, q⟩
    · exact s.tbl _ _ q
theorem grow_ext {F H H' : Hp} {x : Option Addr} (sb : Same F H) (fu : Full F H) (s : Same H H') (hx : ∀ a, x = some a → ∃ xs, H' a = some (.lst xs)) (tb : Tab H → Tab H') : Ext F H (grow F H H' x) H' := by
  refine ⟨s, .of fun b o q => grow_in sb q, grow_sub (sb.trans s), fun b o q n => ?_, fun b h1 h2 => ?_, tb⟩
  · unfold grow
    cases e : H b with
    | none =>
      rw [if_pos (show (none : Option HO).isNone = true from rfl)]
      by_cases z : x = some b
      · obtain ⟨xs, q'⟩ := hx b z
        rw [q] at q'; cases q'
        exact .inr ⟨xs, rfl⟩
      · rw [if_neg z]; exact .inl q
    | some o' =>
      rw [if_neg (by simp)]
      cases m : noT o' with
      | true =>
        have := s.all _ _ e m
        rw [q] at this; cases this
        exact fu _ _ e n
      | false =>
        cases o' <;> first | (cases m) | skip
        obtain ⟨ps', z⟩ := s.tbl _ _ e
        rw [q] at z; cases z; cases n
  · unfold grow
    rw [if_neg (fun z => h1 (Option.isNone_iff_eq_none.mp z))]; exact h2
/-- all that is new since H is frozen -/
theorem Ext.frozen {F H F1 H1 : Hp} (sb : Same F H) (e : Ext F H F1 H1) : Ext F H (grow F1 H H1 none) H1 ∧ Same F1 (grow F1 H H1 none) := by
  refine ⟨⟨e.hh, ⟨fun b o q m => ?_, fun b ps q => ?_⟩, grow_sub e.sub, fun b o q n => ?_, fun b h1 h2 => ?_, e.tb⟩, ⟨fun b o q n => ?_, fun b ps q => ?_⟩⟩
  · unfold grow
    rw [if_neg (some_of sb q)]
    exact e.ff.all _ _ q m
  · unfold grow
    rw [if_neg (some_of sb q)]
    exact e.ff.tbl _ _ q
  · unfold grow
    cases z : H b with
    | none => exact .inl (by rw [if_pos (show (none : Option HO).isNone = true from rfl), if_neg (by simp)]; exact q)
    | some o' => rw [if_neg (by simp)]; exact e.full _ _ q n
  · unfold grow
    rw [if_neg (fun z => h1 (Option.isNone_iff_eq_none.mp z))]; exact e.keep b h1 h2
  · unfold grow
    split
    · rw [if_neg (by simp)]; exact e.sub.all _ _ q n
    · exact q
  · unfold grow
    split
    · rw [if_neg (by simp)]; exact e.sub.tbl _ _ q
    · exact ⟨ps, q⟩
def trees : List S → Option (List T)
  | [] => some []
  | .t x :: r => match trees r with
    | some ts => some (x :: ts)
    | none => none
  | .ol us :: r => match trees r with
    | some ts => some (.lst us :: ts)
    | none => none
  | .vt _ :: _ => none
def wTup (wa : WA) : WE := fun δ R => wa δ fun ss => match trees ss with
  | some ts => if ts.length ≤ 1000 then R (.t (.tup ts)) else False
  | none => False
def wLst (wa : WA) : WE := fun δ R => wa δ fun ss => match trees ss with
  | some ts => if ts.length ≤ 1000 then R (.ol ts) else False
  | none => False
theorem trees_rep {K : PySem.W.Frag} {H F' H' : Hp} (sm : Same F' (grow F' H H' none)) : ∀ {ss : List S} {vs : List V} {ts : List T}, RepEs K H F' H' ss vs → trees ss = some ts → TReps K (grow F' H H' none) ts vs
  | [], _, _, h, e => by cases e; exact h
  | .t x :: r, _, ts, ⟨v, vr, e1, h1, h2⟩, e => by
    subst e1
    unfold trees at e
    split at e
    · rename_i us hu
      cases e
      exact ⟨v, vr, rfl, TRep.same sm h1, trees_rep sm h2 hu⟩
    · cases e
  | .vt _ :: _, _, _, _, e => by cases e
  | .ol zs :: r, _, _, ⟨v, vr, e1, h1, h2⟩, e => by
    subst e1
    unfold trees at e
    split at e
    · rename_i us hu
      cases e
      refine ⟨v, vr, rfl, ?_, trees_rep sm h2 hu⟩
      unfold RepE at h1
      obtain ⟨a, xs, q1, q2, q3, q4, q5⟩ := h1
      unfold TRep
      refine ⟨a, xs, q1, SqL.of ?_, TReps.same sm q5⟩
      unfold grow
      rw [if_pos (by rw [q2]; rfl), if_neg (by simp)]
      exact q4
    · cases e
theorem le_line {n : Nat} (h : n ≤ 1000) : n ≤ sizeLine := Nat.le_of_lt (small1000 h)
def wCB (f : List S → (S → Prop) → Prop) (wa : WA) : WE := fun δ R => wa δ fun ss => f ss R
def RepVs (K : PySem.W.Frag) (F H : Hp) : List S → List V → Prop
  | [], vs => vs = []
  | s :: ss, vs => ∃ v r, vs = v :: r ∧ RepV K F H s v ∧ RepVs K F H ss r
theorem RepEs.val {K : PySem.W.Frag} {H0 F H : Hp} (e : Same F H) : ∀ {ss : List S} {vs : List V}, RepEs K H0 F H ss vs → RepVs K F H ss vs
  | [], _, h => h
  | _ :: _, _, ⟨v, r, h1, h2, h3⟩ => ⟨v, r, h1, h2.val e, RepEs.val e h3⟩
def CallOk (K : PySem.W.Frag) (r : List V → Hp → VK → Prop) (f : List S → (S → Prop) → Prop) : Prop :=
  ∀ F H ss vs R Q, Same F H → Full F H → RepVs K F H ss vs → f ss R → (∀ v F' H' s, Ext F H F' H' → RepE K H F' H' s v → R s → Q v H') → r vs H Q
theorem lift_cb {K : PySem.W.Frag} {r : List V → Hp → VK → Prop} {f : List S → (S → Prop) → Prop} {wa : WA} (ho : CallOk K r f) : ∀ σ H Q, liftE K (wCB f wa) σ H Q → tCB r (liftA K wa) σ H Q := by
  rintro σ H Q ⟨δ, R, F, rl, h, k⟩
  refine ⟨δ, _, F, rl, h, fun vs F1 H1 ss e p q => ?_⟩
  exact ho F1 H1 ss vs R Q e.sub e.full (p.val e.sub) q fun v F' H' s e2 p2 q2 => k v F' H' s (e.trans e2) (p2.start e.hh) q2

/-! a def's promise by data -/
abbrev DSpec := List S → (S → Prop) → Prop
def asArg : S → S
  | .vt x => .t x
  | .ol ts => .t (.lst ts)
  | .t x => .t x
def got : S → S
  | .t x => norm x
  | .vt x => .vt x
  | .ol ts => if purs ts = true then .ol ts else .vt (.lst ts)
def argOk : S → Prop
  | .t _ => True
  | _ => False
def toSp (K : PySem.W.Frag) (sp : DSpec) : Sp := fun vs H Q _ => ∃ ss R, TabK K H ∧ (∀ s ∈ ss, argOk s) ∧ RepVs K H H ss vs ∧ sp ss R ∧ ∀ v H' s, Same H H' → TabK K H' → RepC K H H' s v → R s → Q v H'
def wCall (sp : DSpec) (wa : WA) : WE := fun δ R => wa δ fun ss => sp (ss.map asArg) fun s => R (got s)
theorem args_ok {K : PySem.W.Frag} {H0 F H : Hp} (sb : Same F H) : ∀ {ss : List S} {vs : List V}, RepEs K H0 F H ss vs → (∀ s ∈ ss.map asArg, argOk s) ∧ RepVs K H H (ss.map asArg) vs
  | [], _, h => ⟨fun s hs => by simp at hs, h⟩
  | s :: ss, _, ⟨v, r, h1, h2, h3⟩ => by
    obtain ⟨a1, a2⟩ := args_ok sb h3
    refine ⟨fun u hu => ?_, v, r, h1, ?_, a2⟩
    · rw [List.map_cons] at hu
      rcases List.mem_cons.mp hu with e | e
      · subst e
        cases s <;> exact True.intro
      · exact a1 u e
    · cases s with
      | t x => exact TRep.same sb h2
      | vt x => exact h2
      | ol ts =>
        unfold RepE at h2
        obtain ⟨a, xs, q1, _, _, q2, q3⟩ := h2
        show TRep K H (.lst ts) v
        unfold TRep
        exact ⟨a, xs, q1, SqL.of q2, TReps.same sb q3⟩
theorem lift_call {K : PySem.W.Frag} {sp : DSpec} {wa : WA} {E : XK} : ∀ σ H Q, liftE K (wCall sp wa) σ H Q → tCall (toSp K sp) [] E (liftA K wa) σ H Q := by
  rintro σ H Q ⟨δ, R, F, rl, h, k⟩
  refine ⟨δ, _, F, rl, h, fun vs F1 H1 ss e p q => ?_⟩
  show toSp K sp (vs ++ []) H1 Q E
  rw [List.append_nil]
  obtain ⟨a1, a2⟩ := args_ok e.sub p
  refine ⟨_, _, (rl.ext e).tab, a1, a2, q, fun v H' s sm tk rc hr => ?_⟩
  cases s with
  | t x =>
    have ex := grow_ext (x := none) e.sub e.full sm (fun _ z => by cases z) (fun _ => tk.1)
    exact k v _ H' (norm x) (e.trans ex) (RepE.norm ex.full rc) hr
  | vt x => exact False.elim rc
  | ol ts =>
    unfold RepC at rc
    obtain ⟨a, xs, q1, q2, q3, q4⟩ := rc
    have ex := grow_ext (x := some a) e.sub e.full sm (fun b z => by cases z; exact ⟨xs, q3⟩) (fun _ => tk.1)
    have hr' : R (if purs ts = true then .ol ts else .vt (.lst ts)) := hr
    split at hr'
    · rename_i hp
      refine k v _ H' (.ol ts) (e.trans ex) ⟨a, xs, q1, none_of_same e.hh q2, ?_, q3, TReps.full ex.full hp q4⟩ hr'
      unfold grow
      rw [if_pos (by rw [q2]; rfl), if_pos rfl]
    · refine k v _ H' (.vt (.lst ts)) (e.trans ex) ?_ hr'
      unfold RepE TRep
      exact ⟨a, xs, q1, SqL.of q3, q4⟩
section
variable {X : Cx} {e : Expr} {es : List Expr} {we : WE} {wr wa : WA} {pos : Pos}
theorem da_nil : PA X [] (liftA X.K wNil) := pa_nil.imp fun σ H Q ⟨δ, R, F, rl, h, k⟩ => k [] F H [] rl.refl rfl h
theorem da_cons (ha : PE X e (liftE X.K we)) (hr : PA X es (liftA X.K wr)) (hs : starEach (e :: es) X.env = (false, eval e X.env) :: starEach es X.env := by exact star_plain rfl) : PA X (e :: es) (liftA X.K (wCons we wr)) :=
  (pa_cons ha hr hs).imp fun σ H Q ⟨δ, R, F, rl, h, k⟩ => ⟨δ, _, F, rl, h, fun v F1 H1 s e p q => ⟨δ, _, F1, rl.ext e, q, fun vs F2 H2 ss e2 ps q2 => k (v :: vs) F2 H2 (s :: ss) (e.trans e2) ⟨v, vs, rfl, p.ext e2, ps.start e.hh⟩ q2⟩⟩
theorem de_tup {x1} (h : PA X es (liftA X.K wa)) : PE X (.Tuple es x1 pos) (liftE X.K (wTup wa)) :=
  (pe_tup h).imp fun σ H Q ⟨δ, R, F, rl, h, k⟩ => ⟨δ, _, F, rl, h, fun vs F1 H1 ss e p q => by
    split at q
    · rename_i ts ht
      obtain ⟨ez, sz⟩ := e.frozen rl.sub
      have r := trees_rep sz p ht
      split at q
      · rename_i hl
        refine ⟨by rw [r.length]; exact le_line hl, fun a ha => ?_⟩
        have ex := Ext.new (.tup vs) ez.sub ez.full ha
        refine k _ _ _ (.t (.tup ts)) (ez.trans ex) ?_ q
        unfold RepE TRep
        exact ⟨a, vs, rfl, SqT.of upd_same, TReps.same ex.ff r⟩
      · exact q.elim
    · exact q.elim⟩
theorem de_lst (h : PA X es (liftA X.K wa)) : PE X (.List es pos) (liftE X.K (wLst wa)) :=
  (pe_lst h).imp fun σ H Q ⟨δ, R, F, rl, h, k⟩ => ⟨δ, _, F, rl, h, fun vs F1 H1 ss e p q => by
    split at q
    · rename_i ts ht
      obtain ⟨ez, sz⟩ := e.frozen rl.sub
      have r := trees_rep sz p ht
      split at q
      · rename_i hl
        refine ⟨by rw [r.length]; exact le_line hl, fun a ha => ?_⟩
        have ex := Ext.newL vs ez.sub ez.full ha
        exact k _ _ _ (.ol ts) (ez.trans ex) ⟨a, vs, rfl, none_of_same e.hh ha, none_of_same ez.sub ha, upd_same, r⟩ q
      · exact q.elim
    · exact q.elim⟩
/-- a def of the text that keeps a promise, as a caller finds it -/
structure Callee (P : Program) (w : World) (K : PySem.W.Frag) (mg : Str → Option Value) (base : Heap) (k : Nat) (x : Str) (sp : DSpec) : Prop where
  ex : ∃ (f : Addr) (fd : FuncData) (ps : List Str), mg x = some (.ref f) ∧ FnOk P w K mg base CX0 k f fd ps (toSp K sp) ∧ Binds K fd ps [] ∧ PySem.W.keepIn K (.ref f) = true
theorem de_call {k : Nat} {x : Str} {sp : DSpec} {p : Pos} (C : Callee X.prog X.w X.K X.mg X.base k x sp) (hr : Room k X.A) (hg : Gl X x) (ha : PA X (e :: es) (liftA X.K wa)) (hdb : (x == ("__debug__" : Str)) = false := by decide)
    (he : starEach (e :: es) X.env = (false, eval e X.env) :: starEach es X.env := by exact star_plain rfl) (hpl : (backTo pos (starEach es X.env)).any (·.1) = false := by exact star_any rfl) : PE X (.Call (.Name x p) (e :: es) [] pos) (liftE X.K (wCall sp wa)) := by
  obtain ⟨f, fd, ps, hm, F, hb, hk⟩ := C.ex
  exact (pe_call F hr hg hm hk hb .nil (E := E0) pass0 ha hdb he hpl).imp lift_call
theorem de_callB {x : Str} {p : Pos} {id : String} {r : List V → Hp → VK → Prop} {f : List S → (S → Prop) → Prop} (hc : CallR X (.builtin id) r) (hf : CallOk X.K r f) (hm : X.mg x = none) (hv : bootBuiltins x = some (.builtin id)) (ha : PA X (e :: es) (liftA X.K wa)) (hg : Gl X x := by rfl) (hn : x ≠ "__name__" := by decide) (hdb : (x == ("__debug__" : Str)) = false := by decide)
    (he : starEach (e :: es) X.env = (false, eval e X.env) :: starEach es X.env := by exact star_plain rfl) (hpl : (backTo pos (starEach es X.env)).any (·.1) = false := by exact star_any rfl) : PE X (.Call (.Name x p) (e :: es) [] pos) (liftE X.K (wCB f wa)) :=
  (pe_callB hc hg hm hv ha hn hdb he hpl).imp (lift_cb hf)
end

/-! ### built-in functions -/
def fLen : List S → (S → Prop) → Prop
  | [.t (.tup ts)], R => R (.t (.int ts.length))
  | [.t (.lst ts)], R => R (.t (.int ts.length))
  | [.vt (.tup ts)], R => R (.t (.int ts.length))
  | [.vt (.lst ts)], R => R (.t (.int ts.length))
  | [.ol ts], R => R (.t (.int ts.length))
  | _, _ => False
theorem ok_len {K : PySem.W.Frag} : CallOk K (fun xs H Q => ∃ p ys, xs = [.ref p] ∧ (SqL K H p ys ∨ SqT K H p ys) ∧ Q (.int ys.length) H) fLen := by
  intro F H ss vs R Q sb fu rp h k
  unfold fLen at h
  split at h
  · obtain ⟨v, r, rfl, ⟨a, xs, rfl, h1, h2⟩, h3⟩ := rp
    cases (show r = [] from h3)
    exact ⟨a, xs, rfl, .inr (Same.sqT sb a xs h1), k _ F H (.t (.int _)) (Ext.refl sb fu) (by show _ = _; rw [h2.length]) h⟩
  · obtain ⟨v, r, rfl, ⟨a, xs, rfl, h1, h2⟩, h3⟩ := rp
    cases (show r = [] from h3)
    exact ⟨a, xs, rfl, .inl (sb.seq h1), k _ F H (.t (.int _)) (Ext.refl sb fu) (by show _ = _; rw [h2.length]) h⟩
  · obtain ⟨v, r, rfl, ⟨a, xs, rfl, h1, h2⟩, h3⟩ := rp
    cases (show r = [] from h3)
    exact ⟨a, xs, rfl, .inr h1, k _ F H (.t (.int _)) (Ext.refl sb fu) (by show _ = _; rw [h2.length]) h⟩
  · obtain ⟨v, r, rfl, ⟨a, xs, rfl, h1, h2⟩, h3⟩ := rp
    cases (show r = [] from h3)
    exact ⟨a, xs, rfl, .inl h1, k _ F H (.t (.int _)) (Ext.refl sb fu) (by show _ = _; rw [h2.length]) h⟩
  · obtain ⟨v, r, rfl, ⟨a, xs, rfl, h1, h2⟩, h3⟩ := rp
    cases (show r = [] from h3)
    exact ⟨a, xs, rfl, .inl h1, k _ F H (.t (.int _)) (Ext.refl sb fu) (by show _ = _; rw [h2.length]) h⟩
  · exact h.elim
def fAbs : List S → (S → Prop) → Prop
  | [.t (.int i)], R => R (.t (.int (if i < 0 then -i else i)))
  | _, _ => False
theorem ok_abs {K : PySem.W.Frag} : CallOk K (fun xs H Q => ∃ i, xs = [.int i] ∧ Q (.int (if i < 0 then -i else i)) H) fAbs := by
  intro F H ss vs R Q sb fu rp h k
  unfold fAbs at h
  split at h
  · obtain ⟨v, r, rfl, rfl, h3⟩ := rp
    cases (show r = [] from h3)
    exact ⟨_, rfl, k _ F H (.t (.int _)) (Ext.refl sb fu) rfl h⟩
  · exact h.elim
def fMax2 : List S → (S → Prop) → Prop
  | [.t (.int i), .t (.int j)], R => R (.t (.int (if j > i then j else i)))
  | _, _ => False
def fMin2 : List S → (S → Prop) → Prop
  | [.t (.int i), .t (.int j)], R => R (.t (.int (if j < i then j else i)))
  | _, _ => False
theorem ok_min2 {K : PySem.W.Frag} : CallOk K (fun xs H Q => ∃ i j, xs = [.int i, .int j] ∧ Q (.int (if j < i then j else i)) H) fMin2 := by
  intro F H ss vs R Q sb fu rp h k
  unfold fMin2 at h
  split at h
  · obtain ⟨v, r, rfl, rfl, v2, r2, rfl, rfl, h3⟩ := rp
    cases (show r2 = [] from h3)
    exact ⟨_, _, rfl, k _ F H (.t (.int _)) (Ext.refl sb fu) rfl h⟩
  · exact h.elim
def fInt : List S → (S → Prop) → Prop
  | [.t (.int i)], R => R (.t (.int i))
  | [.t (.bl b)], R => R (.t (.int (if b then 1 else 0)))
  | _, _ => False
/-- list(x): of a list that is seen the items hold no list -/
def fListOf : List S → (S → Prop) → Prop
  | [.t (.tup ts)], R => R (.ol ts)
  | [.t (.lst ts)], R => R (.ol ts)
  | [.vt (.lst ts)], R => purs ts = true ∧ R (.ol ts)
  | [.ol ts], R => R (.ol ts)
  | _, _ => False
section
variable {X : Cx} {e : Expr} {es : List Expr} {we : WE} {wr wa : WA} {pos p : Pos}
theorem de_len (hm : X.mg "len" = none) (ha : PA X [e] (liftA X.K wa)) (hg : Gl X "len" := by rfl) (he : starEach [e] X.env = (false, eval e X.env) :: starEach [] X.env := by exact star_plain rfl) : PE X (.Call (.Name "len" p) [e] [] pos) (liftE X.K (wCB fLen wa)) :=
  de_callB call_len_seq ok_len hm PySem.boot_len ha hg (he := he) (hpl := rfl)
theorem de_abs (hm : X.mg "abs" = none) (ha : PA X [e] (liftA X.K wa)) (hg : Gl X "abs" := by rfl) (he : starEach [e] X.env = (false, eval e X.env) :: starEach [] X.env := by exact star_plain rfl) : PE X (.Call (.Name "abs" p) [e] [] pos) (liftE X.K (wCB fAbs wa)) :=
  de_callB call_abs ok_abs hm PyProof.Rows.boot_abs ha hg (he := he) (hpl := rfl)
theorem de_min2 {e2 : Expr} (hm : X.mg "min" = none) (ha : PA X [e, e2] (liftA X.K wa)) (hg : Gl X "min" := by rfl) (hc : X.calm = true := by rfl) (he : starEach [e, e2] X.env = (false, eval e X.env) :: starEach [e2] X.env := by exact star_plain rfl) (hpl : (backTo pos (starEach [e2] X.env)).any (·.1) = false := by exact star_any rfl) : PE X (.Call (.Name "min" p) [e, e2] [] pos) (liftE X.K (wCB fMin2 wa)) :=
  de_callB (call_min2 hc) ok_min2 hm PyProof.Rows.boot_min ha hg (he := he) (hpl := hpl)
end
end DL

set_option Elab.async false
set_option linter.all false
set_option maxRecDepth 100000
namespace DL
open PySem L2

/-! ### slices -/
def wPart0 : DSt → (Option Int → Prop) → Prop := fun _ R => R none
def wPart (we : WE) : DSt → (Option Int → Prop) → Prop := fun δ R => we δ fun s => match s with
  | .t (.int i) => R (some i)
  | _ => False
def cutT (ts : List T) (lo hi : Option Int) : List T := (ts.drop (HT.sIx ts.length 0 lo)).take (HT.sIx ts.length ts.length hi - HT.sIx ts.length 0 lo)
def slcK (lo hi : Option Int) (R : S → Prop) : S → Prop
  | .t (.lst ts) => R (.ol (cutT ts lo hi))
  | .vt (.lst ts) => purs ts = true ∧ R (.ol (cutT ts lo hi))
  | .ol ts => R (.ol (cutT ts lo hi))
  | _ => False
def wSlice (we : WE) (wl wh : DSt → (Option Int → Prop) → Prop) : WE := fun δ R => we δ fun s => wl δ fun lo => wh δ fun hi => slcK lo hi R s
section
variable {X : Cx} {e : Expr} {we : WE} {lo hi : Option Expr} {wl wh : DSt → (Option Int → Prop) → Prop} {pos p2 : Pos}
end

/-! ### names are set -/
def freezeS : S → S
  | .ol ts => .t (.lst ts)
  | .t x => .t x
  | .vt x => .vt x
def freeze (δ : DSt) : DSt := δ.map (Option.map freezeS)
def setS (i : Nat) (s : S) (δ : DSt) : DSt := match s with
  | .vt x => (freeze δ).set i (some (.t x))
  | .t x => δ.set i (some (.t x))
  | .ol ts => δ.set i (some (.ol ts))
theorem get_freeze {δ : DSt} {i : Nat} {s : S} (h : (freeze δ)[i]? = some (some s)) : ∃ u, δ[i]? = some (some u) ∧ s = freezeS u := by
  unfold freeze at h
  rw [List.getElem?_map] at h
  cases e : δ[i]? with
  | none => rw [e] at h; cases h
  | some o =>
    rw [e] at h
    cases o with
    | none => cases h
    | some u => exact ⟨u, rfl, by simpa using h.symm⟩
theorem frozen_ok {K : PySem.W.Frag} {F H : Hp} (sb : Same F H) : ∀ {s : S} {v : V}, SlotOk K F H s v → SlotOk K H H (freezeS s) v
  | .t _, _, h => TRep.same sb h
  | .vt _, _, h => False.elim h
  | .ol _, _, ⟨a, xs, h1, _, h3, h4⟩ => by
    show TRep K H (.lst _) _
    unfold TRep
    exact ⟨a, xs, h1, SqL.of h3, TReps.same sb h4⟩
theorem not_ol_freeze (s : S) (ts : List T) : freezeS s ≠ .ol ts := by cases s <;> simp [freezeS]
theorem Rel.freeze {K : PySem.W.Frag} {F H : Hp} {σ : St} {δ : DSt} (r : Rel K F H σ δ) : Rel K H H σ (freeze δ) := by
  refine ⟨Same.refl _, fun b o h _ => .inl h, ?_, fun i s h => ?_, fun i j a ts us _ h1 => ?_, r.tab⟩
  · unfold DL.freeze; rw [List.length_map]; exact r.len
  · obtain ⟨u, h1, rfl⟩ := get_freeze h
    obtain ⟨v, h2, h3⟩ := r.slot i u h1
    exact ⟨v, h2, frozen_ok r.sub h3⟩
  · obtain ⟨u, _, e⟩ := get_freeze h1
    exact absurd e.symm (not_ol_freeze u ts)
/-- a slot is set to a value that shares nothing with an owned list -/
theorem Rel.put {K : PySem.W.Frag} {F H : Hp} {σ : St} {δ : DSt} {i : Nat} {s : S} {v : V} (r : Rel K F H σ δ) (h : SlotOk K F H s v) (hs : ∀ ts, s ≠ .ol ts) : Rel K F H (σ.set i (some v)) (δ.set i (some s)) := by
  refine ⟨r.sub, r.full, by rw [List.length_set, List.length_set]; exact r.len, fun j u hu => ?_, fun j l a ts us hn h1 h2 h3 => ?_, r.tab⟩
  · by_cases e : i = j
    · subst e
      have hi : i < δ.length := by
        rw [List.getElem?_set] at hu
        simp at hu
        exact hu.1
      rw [List.getElem?_set_self hi] at hu
      cases hu
      exact ⟨v, List.getElem?_set_self (by rw [r.len]; exact hi), h⟩
    · rw [List.getElem?_set_ne e] at hu
      obtain ⟨w, h1, h2⟩ := r.slot j u hu
      exact ⟨w, by rw [List.getElem?_set_ne e]; exact h1, h2⟩
  · have n1 : i ≠ j := fun e => by
      subst e
      have hi : i < δ.length := by
        rw [List.getElem?_set] at h1; simp at h1; exact h1.1
      rw [List.getElem?_set_self hi] at h1
      cases h1
      exact hs ts rfl
    have n2 : i ≠ l := fun e => by
      subst e
      have hi : i < δ.length := by
        rw [List.getElem?_set] at h2; simp at h2; exact h2.1
      rw [List.getElem?_set_self hi] at h2
      cases h2
      exact hs us rfl
    rw [List.getElem?_set_ne n1] at h1 h3
    rw [List.getElem?_set_ne n2] at h2 ⊢
    exact r.dist j l a ts us hn h1 h2 h3
theorem Rel.putOl {K : PySem.W.Frag} {F H F' H' : Hp} {σ : St} {δ : DSt} {i : Nat} {ts : List T} {a : Addr} {xs : List V} (r : Rel K F H σ δ) (e : Ext F H F' H') (h0 : H a = none) (h1 : F' a = none) (h2 : H' a = some (.lst xs)) (h3 : TReps K F' ts xs) :
    Rel K F' H' (σ.set i (some (.ref a))) (δ.set i (some (.ol ts))) := by
  have r' := r.ext e
  have old : ∀ (j : Nat) (us : List T) (b : Addr), δ[j]? = some (some (.ol us)) → σ[j]? = some (some (.ref b)) → b ≠ a := fun j us b q1 q2 z => by
    obtain ⟨v, p1, c, ys, p2, p3, p4, _⟩ := r.slot j _ q1
    rw [q2] at p1
    cases p1
    cases p2
    rw [z, h0] at p4
    cases p4
  refine ⟨r'.sub, r'.full, by rw [List.length_set, List.length_set]; exact r.len, fun j u hu => ?_, fun j l b us ws hn q1 q2 q3 => ?_, r'.tab⟩
  · by_cases z : i = j
    · subst z
      have hi : i < δ.length := by
        rw [List.getElem?_set] at hu; simp at hu; exact hu.1
      rw [List.getElem?_set_self hi] at hu
      cases hu
      exact ⟨_, List.getElem?_set_self (by rw [r.len]; exact hi), a, xs, rfl, h1, h2, h3⟩
    · rw [List.getElem?_set_ne z] at hu
      obtain ⟨w, p1, p2⟩ := r'.slot j u hu
      exact ⟨w, by rw [List.getElem?_set_ne z]; exact p1, p2⟩
  · by_cases z : i = j
    · subst z
      have hi : i < δ.length := by
        rw [List.getElem?_set] at q1; simp at q1; exact q1.1
      rw [List.getElem?_set_self (by rw [r.len]; exact hi)] at q3
      cases q3
      rw [List.getElem?_set_ne hn] at q2 ⊢
      exact fun q => old l ws a q2 q rfl
    · rw [List.getElem?_set_ne z] at q1 q3
      by_cases z2 : i = l
      · subst z2
        have hi : i < δ.length := by
          rw [List.getElem?_set] at q2; simp at q2; exact q2.1
        rw [List.getElem?_set_self (by rw [r.len]; exact hi)]
        intro q
        cases q
        exact old j us a q1 q3 rfl
      · rw [List.getElem?_set_ne z2] at q2 ⊢
        exact r.dist j l b us ws hn q1 q2 q3
theorem Rel.setS {K : PySem.W.Frag} {F H F' H' : Hp} {σ : St} {δ : DSt} {s : S} {v : V} (i : Nat) (r : Rel K F H σ δ) (e : Ext F H F' H') (p : RepE K H F' H' s v) : ∃ F2, Same F F2 ∧ Rel K F2 H' (σ.set i (some v)) (setS i s δ) := by
  cases s with
  | t x => exact ⟨F', e.ff, (r.ext e).put (s := .t x) p (fun _ z => by cases z)⟩
  | vt x => exact ⟨H', e.ff.trans e.sub, (r.ext e).freeze.put (s := .t x) p (fun _ z => by cases z)⟩
  | ol ts =>
    obtain ⟨a, xs, rfl, h0, h1, h2, h3⟩ := p
    exact ⟨F', e.ff, r.putOl e h0 h1 h2 h3⟩

/-- a new list is frozen; what the names own stays -/
theorem Rel.thaw {K : PySem.W.Frag} {F H F1 H1 : Hp} {σ : St} {δ : DSt} {ts : List T} {v : V} (rl : Rel K F H σ δ) (ex : Ext F H F1 H1) (p : RepE K H F1 H1 (.ol ts) v) :
    Rel K (grow F1 H H1 none) H1 σ δ ∧ Same F (grow F1 H H1 none) ∧ ∃ a xs, v = .ref a ∧ SqL K (grow F1 H H1 none) a xs ∧ TReps K (grow F1 H H1 none) ts xs := by
  obtain ⟨ez, sz⟩ := ex.frozen rl.sub
  refine ⟨rl.ext ez, ez.ff, ?_⟩
  obtain ⟨a, xs, rfl, h0, h1, h2, h3⟩ := p
  refine ⟨a, xs, rfl, SqL.of ?_, TReps.same sz h3⟩
  unfold grow
  rw [if_pos (by rw [h0]; rfl), if_neg (by simp)]
  exact h2
/-! ### statements -/
def wNext : WS := fun D δ => D.nx δ
def wSeq (w u : WS) : WS := fun D δ => w { D with nx := u D } δ
/-- .. with a word of one's own between -/
def wSeqM (w u : WS) : WS := fun D δ => ∃ M : DSt → Prop, w { D with nx := M } δ ∧ ∀ δ', M δ' → u D δ'
def wSet (i : Nat) (we : WE) : WS := fun D δ => we δ fun s => D.nx (setS i s δ)
def wIf (c : WT) (w u : WS) : WS := fun D δ => c δ fun k => if k = true then w D δ else u D δ
def out : S → S
  | .vt x => .t x
  | .t x => .t x
  | .ol ts => .ol ts
def wRet (we : WE) : WS := fun D δ => we δ fun s => D.rt (out s)
def wRetV (i : Nat) : WS := fun D δ => match δ[i]? with
  | some (some s) => D.rt s
  | _ => False
def wRetN : WS := fun D _ => D.rt (.t .non)
def wBreak : WS := fun D δ => D.bk δ
def wCont : WS := fun D δ => D.ct δ
def wDrop (we : WE) : WS := fun D δ => we δ fun _ => D.nx δ
def wNever : WS := fun _ _ => False
/-- a while by a word of one's own, with its measure -/
def wWhile (c : WT) (wb : WS) : WS := fun D δ => ∃ I : Nat → DSt → Prop, (∃ n, I n δ) ∧ ∀ n δ, I n δ → c δ fun k => if k = true then wb { nx := fun δ' => ∃ m, m < n ∧ I m δ', rt := D.rt, bk := D.nx, ct := fun δ' => ∃ m, m < n ∧ I m δ' } δ else D.nx δ
abbrev WG := T → DSt → (DSt → Prop) → Prop
abbrev WI := DSt → (List T → DSt → Prop) → Prop
/-- a for by a word of one's own about the items to come -/
def forI (g : WG) (wb : WS) (ts : List T) (D : DEnds) (δ : DSt) : Prop := ∃ I : List T → DSt → Prop, I ts δ ∧ (∀ δ, I [] δ → D.nx δ) ∧ ∀ x r δ, I (x :: r) δ → g x δ fun δ1 => wb { nx := I r, rt := D.rt, bk := D.nx, ct := I r } δ1
def wFor (wi : WI) (g : WG) (wb : WS) : WS := fun D δ => wi δ fun ts δ' => forI g wb ts D δ'
def wgName (i : Nat) : WG := fun t δ R => R (δ.set i (some (.t t)))
def wgTup (g : List T → DSt → (DSt → Prop) → Prop) : WG := fun t δ R => match t with
  | .tup ts => g ts δ R
  | _ => False
def wgNil : List T → DSt → (DSt → Prop) → Prop := fun ts δ R => match ts with
  | [] => R δ
  | _ => False
def wgCons (g : WG) (gr : List T → DSt → (DSt → Prop) → Prop) : List T → DSt → (DSt → Prop) → Prop := fun ts δ R => match ts with
  | t :: r => g t δ fun δ1 => gr r δ1 R
  | [] => False
/-- a, b = e, for a tuple e -/
def unpK (g : WG) (δ : DSt) (N : DSt → Prop) : S → Prop
  | .t t => g t δ N
  | .vt t => g t (freeze δ) N
  | .ol ts => g (.lst ts) δ N
def wUnp (we : WE) (g : WG) : WS := fun D δ => we δ fun s => unpK g δ D.nx s
/-- a, b = x, y for trees -/
def wPar (i j : Nat) (wa : WA) : WS := fun D δ => wa δ fun ss => match ss with
  | [.t x, .t y] => D.nx ((δ.set i (some (.t x))).set j (some (.t y)))
  | _ => False
def wAppend (i : Nat) (we : WE) : WS := fun D δ => match δ[i]? with
  | some (some (.ol ts)) => we δ fun s => match s with
    | .t x => ts.length < 100000 ∧ D.nx (δ.set i (some (.ol (ts ++ [x]))))
    | _ => False
  | _ => False
/-- x.pop(), and y = x.pop() -/
def wPop (i : Nat) : WS := fun D δ => match δ[i]? with
  | some (some (.ol ts)) => ts ≠ [] ∧ D.nx (δ.set i (some (.ol ts.dropLast)))
  | _ => False
def wPopTo (j i : Nat) : WS := fun D δ => match δ[i]? with
  | some (some (.ol ts)) => match ts[ts.length - 1]? with
    | some x => D.nx ((δ.set i (some (.ol ts.dropLast))).set j (some (.t x)))
    | none => False
  | _ => False
def wClear (i : Nat) : WS := fun D δ => match δ[i]? with
  | some (some (.ol _)) => D.nx (δ.set i (some (.ol [])))
  | _ => False
/-- x[e] = v -/
def wSetIx (i : Nat) (we wv : WE) : WS := fun D δ => match δ[i]? with
  | some (some (.ol ts)) => wv δ fun v => we δ fun s => match v, s with
    | .t x, .t (.int k) => match ixN ts.length k with
      | some j => D.nx (δ.set i (some (.ol (ts.set j x))))
      | none => False
    | _, _ => False
  | _ => False

section
variable {X : Cx} {st : Stmt} {rest : List Stmt} {w u : WS} {e : Expr} {we : WE} {pos : Pos} {H₀ : Hp}
theorem dss_nil : PSs X [] (liftS X.K H₀ wNext) := pss_nil.imp fun D σ H ⟨δ, D', F, _, rl, h, ok⟩ => ok.nx σ F H δ (Same.refl _) rl h
theorem dss_cons (h1 : PS X st (liftS X.K H₀ w)) (h2 : PSs X rest (liftS X.K H₀ u)) : PSs X (st :: rest) (liftS X.K H₀ (wSeq w u)) :=
  (pss_cons h1 h2).imp fun D σ H ⟨δ, D', F, s0, rl, h, ok⟩ => ⟨δ, _, F, s0, rl, h, ⟨fun σ' F' H' δ' ff rl' h' => ⟨δ', D', F', s0.trans ff, rl', h', ok.mono ff⟩, ok.rt, ok.bk, ok.ct⟩⟩
theorem dss_consM (h1 : PS X st (liftS X.K H₀ w)) (h2 : PSs X rest (liftS X.K H₀ u)) : PSs X (st :: rest) (liftS X.K H₀ (wSeqM w u)) :=
  (pss_cons h1 h2).imp fun D σ H ⟨δ, D', F, s0, rl, ⟨M, h, hk⟩, ok⟩ => ⟨δ, _, F, s0, rl, h, ⟨fun σ' F' H' δ' ff rl' h' => ⟨δ', D', F', s0.trans ff, rl', hk δ' h', ok.mono ff⟩, ok.rt, ok.bk, ok.ct⟩⟩
theorem dss_one (h1 : PS X st (liftS X.K H₀ w)) : PSs X [st] (liftS X.K H₀ w) := pss_one h1
theorem ds_never : PS X st (liftS X.K H₀ wNever) := ps_never.imp fun D σ H ⟨δ, D', F, _, rl, h, ok⟩ => h
theorem ds_set {i : Nat} {x : Str} {pos' : Pos} (hN : X.N.Nodup) (he : PE X e (liftE X.K we)) (hi : X.N[i]? = some x := by rfl) (hx : Loc X.env.scope x := by first | exact Or.inl rfl | exact Or.inr rfl) (hs : swapsWith e (some (.Name x pos')) pos.line X.env = pure false := by rfl) (hf : X.fn x = true ∨ X.env.scope.names.lookup x = some .local := by first | exact .inl rfl | exact .inr rfl | assumption) :
    PS X (.Assign [.Name x pos'] e pos) (liftS X.K H₀ (wSet i we)) :=
  (ps_set hN hi hx he hs hf).imp fun D σ H ⟨δ, D', F, s0, rl, h, ok⟩ => ⟨δ, _, F, rl, h, fun v F1 H1 s e p q => by
    obtain ⟨F2, ff, r2⟩ := rl.setS i e p
    exact ok.nx _ F2 H1 _ ff r2 q⟩
theorem ds_if {c : Expr} {a b : List Stmt} {t : WT} (hc : PT X c (liftT X.K t)) (ha : PSs X a (liftS X.K H₀ w)) (hb : PSs X b (liftS X.K H₀ u)) : PS X (.If c a b pos) (liftS X.K H₀ (wIf t w u)) :=
  (ps_if hc ha hb).imp fun D σ H ⟨δ, D', F, s0, rl, h, ok⟩ => ⟨δ, _, F, rl, h, fun F1 H1 k e q => by
    cases k with
    | true => exact ⟨δ, D', F1, s0.trans e.ff, rl.ext e, by simpa using q, ok.mono e.ff⟩
    | false => exact ⟨δ, D', F1, s0.trans e.ff, rl.ext e, by simpa using q, ok.mono e.ff⟩⟩
theorem ret_ok {K : PySem.W.Frag} {F H F1 H1 : Hp} (s0 : Same H₀ H) (e : Ext F H F1 H1) : ∀ {s : S} {v : V}, RepE K H F1 H1 s v → RepC K H₀ H1 (out s) v
  | .t _, _, h => TRep.same e.sub h
  | .vt _, _, h => h
  | .ol _, _, ⟨a, xs, h1, h2, _, h3, h4⟩ => ⟨a, xs, h1, none_of_same s0 h2, h3, TReps.same e.sub h4⟩
theorem ds_ret (he : PE X e (liftE X.K we)) : PS X (.Return (some e) pos) (liftS X.K H₀ (wRet we)) :=
  (ps_ret he).imp fun D σ H ⟨δ, D', F, s0, rl, h, ok⟩ => ⟨δ, _, F, rl, h, fun v F1 H1 s e p q => ok.rt v H1 _ ((s0.trans rl.sub).trans e.hh) (rl.ext e).tab (ret_ok (s0.trans rl.sub) e p) q⟩
theorem slot_out {K : PySem.W.Frag} {F H : Hp} (s0 : Same H₀ F) (sb : Same F H) : ∀ {s : S} {v : V}, SlotOk K F H s v → RepC K H₀ H s v
  | .t _, _, h => TRep.same sb h
  | .vt _, _, h => False.elim h
  | .ol _, _, ⟨a, xs, h1, h2, h3, h4⟩ => ⟨a, xs, h1, none_of_same s0 h2, h3, TReps.same sb h4⟩
/-- return, all lists of this frame frozen first -/
def wRetZ (we : WE) : WS := fun D δ => we (freeze δ) fun s => D.rt (out s)
theorem ds_retV {i : Nat} (he : PE X e (tVar i)) : PS X (.Return (some e) pos) (liftS X.K H₀ (wRetV i)) :=
  (ps_ret he).imp fun D σ H ⟨δ, D', F, s0, rl, h, ok⟩ => by
    unfold wRetV at h
    split at h
    · rename_i s hs
      obtain ⟨v, h1, h2⟩ := rl.slot i s hs
      exact ⟨v, h1, ok.rt v H s (s0.trans rl.sub) rl.tab (slot_out s0 rl.sub h2) h⟩
    · exact h.elim
theorem ds_while {c : Expr} {body : List Stmt} {t : WT} {wb : WS} (hp : PassesOwn (model X.prog X.w) X.A X.env X.xe) (hc : PT X c (liftT X.K t)) (hb : PSs X body (liftS X.K H₀ wb)) : PS X (.While c body [] pos) (liftS X.K H₀ (wWhile t wb)) :=
  (ps_while hp hc hb).imp fun D σ H ⟨δ, D', F, s0, rl, ⟨I, ⟨n, h⟩, step⟩, ok⟩ => by
    refine ⟨fun m σ H => ∃ δ F1, Same F F1 ∧ Rel X.K F1 H σ δ ∧ I m δ, ⟨n, δ, F, Same.refl _, rl, h⟩, ?_⟩
    rintro m σ H ⟨δ, F1, f1, rl, h⟩
    refine ⟨δ, _, F1, rl, step m δ h, fun F2 H2 k e q => ?_⟩
    cases k with
    | true =>
      refine ⟨fun σ' H' => ∃ δ F1 j, j < m ∧ Same F F1 ∧ Rel X.K F1 H' σ' δ ∧ I j δ, fun σ' H' ⟨δ', F', j, hj, a1, a2, a3⟩ => ⟨j, hj, δ', F', a1, a2, a3⟩, ?_⟩
      refine ⟨δ, { nx := fun δ' => ∃ j, j < m ∧ I j δ', rt := D'.rt, bk := D'.nx, ct := fun δ' => ∃ j, j < m ∧ I j δ' }, F2, (s0.trans f1).trans e.ff, rl.ext e, by simpa using q, ⟨fun σ' F' H' δ' ff r' ⟨j, hj, h'⟩ => ⟨δ', F', j, hj, (f1.trans e.ff).trans ff, r', h'⟩, ok.rt, fun σ' F' H' δ' ff r' h' => ok.nx σ' F' H' δ' ((f1.trans e.ff).trans ff) r' h', fun σ' F' H' δ' ff r' ⟨j, hj, h'⟩ => ⟨δ', F', j, hj, (f1.trans e.ff).trans ff, r', h'⟩⟩⟩
    | false => exact ok.nx σ F2 H2 δ (f1.trans e.ff) (rl.ext e) (by simpa using q)
end

/-! ### targets -/
def liftG (K : PySem.W.Frag) (g : WG) : TG := fun v σ H Q => ∃ t δ R F, TRep K F t v ∧ Rel K F H σ δ ∧ g t δ R ∧ ∀ σ' δ', Rel K F H σ' δ' → R δ' → Q σ' H
def liftGs (K : PySem.W.Frag) (g : List T → DSt → (DSt → Prop) → Prop) : TGs := fun vs σ H Q => ∃ ts δ R F, TReps K F ts vs ∧ Rel K F H σ δ ∧ g ts δ R ∧ ∀ σ' δ', Rel K F H σ' δ' → R δ' → Q σ' H
section
variable {X : Cx} {pos : Pos} {H₀ : Hp}
theorem dg_name {i : Nat} {x : Str} (hN : X.N.Nodup) (hi : X.N[i]? = some x := by rfl) (hx : Loc X.env.scope x := by first | exact Or.inl rfl | exact Or.inr rfl) (hf : X.fn x = true ∨ X.env.scope.names.lookup x = some .local := by first | exact .inl rfl | exact .inr rfl | assumption) : PG X (.Name x pos) (liftG X.K (wgName i)) :=
  (pg_name hN hi hx hf).imp fun v σ H Q ⟨t, δ, R, F, p, rl, h, k⟩ => k _ _ (rl.put (s := .t t) p (fun _ z => by cases z)) h
theorem dgs_nil : PGs X [] (liftGs X.K wgNil) := pgs_nil.imp fun v σ H Q ⟨ts, δ, R, F, p, rl, h, k⟩ => by
  unfold wgNil at h
  split at h
  · cases (show v = [] from p)
    exact ⟨rfl, k σ δ rl h⟩
  · exact h.elim
theorem dgs_cons {e : Expr} {es : List Expr} {g : WG} {gr : List T → DSt → (DSt → Prop) → Prop} (h1 : PG X e (liftG X.K g)) (h2 : PGs X es (liftGs X.K gr))
    (hs : (assignEach (e :: es) X.env).map (·.2) = assign e X.env :: (assignEach es X.env).map (·.2) := by rfl) : PGs X (e :: es) (liftGs X.K (wgCons g gr)) :=
  (pgs_cons h1 h2 hs).imp fun v σ H Q ⟨ts, δ, R, F, p, rl, h, k⟩ => by
    unfold wgCons at h
    split at h
    · rename_i t r
      obtain ⟨x, vr, e1, p1, p2⟩ := p
      exact ⟨x, vr, e1, t, δ, _, F, p1, rl, h, fun σ' δ' rl' h' => ⟨r, δ', R, F, p2, rl', h', k⟩⟩
    · exact h.elim
theorem dg_tup {es : List Expr} {k : Nat} {g : List T → DSt → (DSt → Prop) → Prop} {n : Nat} (h : PGs X es (liftGs X.K g)) (hl : ∀ ts δ R, g ts δ R → ts.length = n) (hc : X.calm = true := by rfl)
    (hn : (assignEach es X.env).length = n := by rfl) (hst : (assignEach es X.env).findIdx? (·.1) = none := by rfl) : PG X (.Tuple es k pos) (liftG X.K (wgTup g)) :=
  (pg_tup hc h hn hst).imp fun v σ H Q ⟨t, δ, R, F, p, rl, h, k⟩ => by
    unfold wgTup at h
    split at h
    · rename_i ts
      obtain ⟨a, xs, e1, p1, p2⟩ := p
      exact ⟨a, xs, e1, Same.sqT rl.sub a xs p1, by rw [p2.length]; exact hl ts δ R h, ts, δ, R, F, p2, rl, h, k⟩
    · exact h.elim
theorem len_nil : ∀ ts δ R, wgNil ts δ R → ts.length = 0 := fun ts δ R h => by
  unfold wgNil at h
  split at h
  · rfl
  · exact h.elim
theorem len_cons {n : Nat} {i : Nat} {gr : List T → DSt → (DSt → Prop) → Prop} (hr : ∀ ts δ R, gr ts δ R → ts.length = n) : ∀ ts δ R, wgCons (wgName i) gr ts δ R → ts.length = n + 1 := fun ts δ R h => by
  unfold wgCons at h
  split at h
  · rw [List.length_cons, hr _ _ _ h]
  · exact h.elim
theorem ds_unp {tg e : Expr} {we : WE} {g : WG} (he : PE X e (liftE X.K we)) (hg : PG X tg (liftG X.K g)) (hs : swapsWithSole [tg] e pos.line X.env = pure false := by rfl) (hw : swappedStores [tg] e X.env = pure none := by rfl)
    (h1 : (assignEach [tg] X.env).map (·.2) = [assign tg X.env] := by rfl) : PS X (.Assign [tg] e pos) (liftS X.K H₀ (wUnp we g)) :=
  (ps_asg he hg hs hw h1).imp fun D σ H ⟨δ, D', F, s0, rl, h, ok⟩ => ⟨δ, _, F, rl, h, fun v F1 H1 s e p q => by
    cases s with
    | t t => exact ⟨t, δ, _, F1, p, rl.ext e, q, fun σ' δ' rl' h' => ok.nx σ' F1 H1 δ' e.ff rl' h'⟩
    | vt t => exact ⟨t, freeze δ, _, H1, p, (rl.ext e).freeze, q, fun σ' δ' rl' h' => ok.nx σ' H1 H1 δ' (e.ff.trans e.sub) rl' h'⟩
    | ol ts =>
      obtain ⟨rl2, r2⟩ := rl.thaw e p
      refine ⟨.lst ts, δ, _, _, ?_, rl2, q, fun σ' δ' rl' h' => ok.nx σ' _ H1 δ' r2.1 rl' h'⟩
      unfold TRep
      exact r2.2⟩
end

/-! ### for -/
/-- the iterator gives these items while F stays -/
def ItOk (K : PySem.W.Frag) (F : Hp) (J : It) (ts : List T) : Prop :=
  ∀ F1 H1 i, Same F F1 → Same F1 H1 → Full F1 H1 → (∀ t, ts[i]? = some t → J.go i H1 ∧ ∀ x H2, J.yld i H1 x H2 → ∃ F2, Ext F1 H1 F2 H2 ∧ TRep K F2 t x) ∧ (ts.length ≤ i → J.stop i H1)
def liftI (K : PySem.W.Frag) (w : WI) : TI := fun σ H R => ∃ δ W F, Rel K F H σ δ ∧ w δ W ∧ ∀ J F0 F' H' ts δ', Ext F H F0 H' → Same F0 F' → Rel K F' H' σ δ' → ItOk K F' J ts → W ts δ' → R J H'
theorem drop_get {α : Type} {l : List α} {i : Nat} {x : α} {r : List α} (h : l.drop i = x :: r) : l[i]? = some x ∧ l.drop (i + 1) = r := by
  constructor
  · rw [← List.head?_drop, h]; rfl
  · rw [← List.tail_drop, h]; rfl
section
variable {X : Cx} {pos : Pos} {H₀ : Hp} {tg : Expr}
theorem ds_for {iter : Expr} {body : List Stmt} {wi : WI} {g : WG} {wb : WS} (hp : PassesOwn (model X.prog X.w) X.A X.env X.xe) (hi : PI X tg iter (liftI X.K wi)) (hg : PG X tg (liftG X.K g)) (hb : PSs X body (liftS X.K H₀ wb)) (hc : X.calm = true := by rfl)
    (hs : ∀ x, foldedSetIterable iter X.env x = pure x := by intro _; rfl) : PS X (.For tg iter body [] pos) (liftS X.K H₀ (wFor wi g wb)) :=
  (ps_for hp hc hi hg hb hs).imp fun D σ H ⟨δ, D', F, s0, rl, h, ok⟩ => ⟨δ, _, F, rl, h, fun J F0 F1 H1 ts δ1 e0 f01 rl1 it q => by
    have f1 : Same F F1 := e0.ff.trans f01
    obtain ⟨W, w0, wend, wstep⟩ := q
    refine ⟨fun i m σ H => m = ts.length - i ∧ i ≤ ts.length ∧ ∃ δ F2, Same F1 F2 ∧ Rel X.K F2 H σ δ ∧ W (ts.drop i) δ, ⟨ts.length, by simp, Nat.zero_le _, δ1, F1, Same.refl _, rl1, by simpa using w0⟩, ?_⟩
    rintro i m σ H ⟨rfl, hi, δ, F2, f2, rl, h⟩
    obtain ⟨hgo, hstop⟩ := it F2 H i f2 rl.sub rl.full
    cases hd : ts.drop i with
    | nil =>
      rw [hd] at h
      have : ts.length ≤ i := by simpa using hd
      exact .inl ⟨hstop this, ok.nx σ F2 H δ (f1.trans f2) rl (wend δ h)⟩
    | cons x r =>
      rw [hd] at h
      obtain ⟨h1, h2⟩ := drop_get hd
      obtain ⟨go, yld⟩ := hgo x h1
      have hlt : i < ts.length := by
        have := congrArg List.length hd
        simp at this
        omega
      have nexts : ∀ σ' F' H' δ', Same F1 F' → Rel X.K F' H' σ' δ' → W r δ' → ∃ m', m' < ts.length - i ∧ (m' = ts.length - (i + 1) ∧ i + 1 ≤ ts.length ∧ ∃ δ F2, Same F1 F2 ∧ Rel X.K F2 H' σ' δ ∧ W (ts.drop (i + 1)) δ) :=
        fun σ' F' H' δ' ff rl' h' => ⟨ts.length - (i + 1), by omega, rfl, hlt, δ', F', ff, rl', by rw [h2]; exact h'⟩
      refine .inr ⟨go, fun σ' H' => ∃ δ F2, Same F1 F2 ∧ Rel X.K F2 H' σ' δ ∧ W r δ, fun σ' H' ⟨δ', F', ff, rl', h'⟩ => nexts σ' F' H' δ' ff rl' h', fun v H2 y => ?_⟩
      obtain ⟨F3, e3, p3⟩ := yld v H2 y
      refine ⟨x, δ, _, F3, p3, rl.ext e3, wstep x r δ h, fun σ' δ' rl' h' => ?_⟩
      exact ⟨δ', _, F3, ((s0.trans f1).trans f2).trans e3.ff, rl', h', ⟨fun σ'' F'' H'' δ'' ff rl'' h'' => ⟨δ'', F'', (f2.trans e3.ff).trans ff, rl'', h''⟩, ok.rt, fun σ'' F'' H'' δ'' ff rl'' h'' => ok.nx σ'' F'' H'' δ'' (((f1.trans f2).trans e3.ff).trans ff) rl'' h'', fun σ'' F'' H'' δ'' ff rl'' h'' => ⟨δ'', F'', (f2.trans e3.ff).trans ff, rl'', h''⟩⟩⟩⟩
/-- over a list: one that a name owns is frozen -/
def listK (δ : DSt) (W : List T → DSt → Prop) : S → Prop
  | .t (.lst ts) => W ts δ
  | .vt (.lst ts) => W ts (freeze δ)
  | .ol ts => W ts δ
  | _ => False
def wiList (we : WE) : WI := fun δ W => we δ fun s => listK δ W s
theorem it_list {K : PySem.W.Frag} {F : Hp} {a : Addr} {xs : List V} {ts : List T} (h : SqL K F a xs) (r : TReps K F ts xs) : ItOk K F (Itl K a) ts := by
  intro F1 H1 i f1 sb fu
  have q : SqL K H1 a xs := sb.seq (f1.seq h)
  refine ⟨fun t ht => ?_, fun hl => ⟨xs, q, by rw [r.length]; exact hl⟩⟩
  obtain ⟨x, h1, h2⟩ := r.get ht
  refine ⟨⟨xs, x, q, h1⟩, fun y H2 hy => ?_⟩
  obtain ⟨e, hy⟩ := hy
  subst e
  have := hy xs q
  rw [h1] at this
  cases this
  exact ⟨F1, Ext.refl sb fu, TRep.same f1 h2⟩
end
end DL

set_option Elab.async false
set_option linter.all false
set_option maxRecDepth 100000
namespace DL
open PySem L2

/-! ### == and != of trees and lists -/
mutual
def eqT : T → T → Bool
  | .non, .non => true
  | .bl a, .bl b => a == b
  | .bl a, .int b => (if a then 1 else 0) == b
  | .int a, .bl b => a == (if b then 1 else 0)
  | .int a, .int b => a == b
  | .str a, .str b => a == b
  | .tup a, .tup b => eqTs a b
  | .lst a, .lst b => eqTs a b
  | _, _ => false
def eqTs : List T → List T → Bool
  | [], [] => true
  | a :: r, b :: s => eqT a b && eqTs r s
  | _, _ => false
end
mutual
def dep : T → Nat
  | .tup ts => deps ts + 1
  | .lst ts => deps ts + 1
  | .exc _ => 1000
  | _ => 0
def deps : List T → Nat
  | [] => 0
  | t :: r => max (dep t) (deps r)
end
mutual
theorem eqT_refl : ∀ t : T, dep t < 1000 → eqT t t = true
  | .non, _ => rfl
  | .bl b, _ => by simp [eqT]
  | .int i, _ => by simp [eqT]
  | .str x, _ => by simp [eqT]
  | .tup ts, h => by simp only [eqT]; exact eqTs_refl ts (by simp only [dep] at h; omega)
  | .lst ts, h => by simp only [eqT]; exact eqTs_refl ts (by simp only [dep] at h; omega)
  | .exc _, h => by simp [dep] at h
theorem eqTs_refl : ∀ ts : List T, deps ts < 1000 → eqTs ts ts = true
  | [], _ => by simp [eqTs]
  | t :: r, h => by
    simp only [deps] at h
    simp only [eqTs, eqT_refl t (by omega), eqTs_refl r (by omega)]; rfl
end
section
variable {X : Cx} {pins : List (Addr × Obj)} {σ : St} {H : Hp} {s : Shared}
theorem kinds_ne (I : Inv X pins σ H s) {a : Addr} {xs ys : List V} (h : SqT X.K H a xs) (g : SqL X.K H a ys) : False := by
  obtain ⟨its, _, p1, _⟩ := I.tuple h
  obtain ⟨its2, _, p2, _⟩ := I.list g
  exact SeqAt.ne_of_list_tuple p2.isList p1 rfl
mutual
theorem TRep.inj (I : Inv X pins σ H s) : ∀ (t u : T) (v : V), dep t < 1000 → dep u < 1000 → TRep X.K H t v → TRep X.K H u v → t = u
  | .non, u, v, _, _, h, g => by cases (show v = _ from h); cases u with
    | non => rfl
    | tup ts => unfold TRep at g; obtain ⟨_, _, e, _⟩ := g; cases e
    | lst ts => unfold TRep at g; obtain ⟨_, _, e, _⟩ := g; cases e
    | exc c => unfold TRep at g; obtain ⟨_, _, e, _⟩ := g; cases e
    | _ => cases g
  | .bl b, u, v, _, _, h, g => by cases (show v = _ from h); cases u with
    | bl c => cases g; rfl
    | tup ts => unfold TRep at g; obtain ⟨_, _, e, _⟩ := g; cases e
    | lst ts => unfold TRep at g; obtain ⟨_, _, e, _⟩ := g; cases e
    | exc c => unfold TRep at g; obtain ⟨_, _, e, _⟩ := g; cases e
    | _ => cases g
  | .int b, u, v, _, _, h, g => by cases (show v = _ from h); cases u with
    | int c => cases g; rfl
    | tup ts => unfold TRep at g; obtain ⟨_, _, e, _⟩ := g; cases e
    | lst ts => unfold TRep at g; obtain ⟨_, _, e, _⟩ := g; cases e
    | exc c => unfold TRep at g; obtain ⟨_, _, e, _⟩ := g; cases e
    | _ => cases g
  | .str b, u, v, _, _, h, g => by cases (show v = _ from h); cases u with
    | str c => cases g; rfl
    | tup ts => unfold TRep at g; obtain ⟨_, _, e, _⟩ := g; cases e
    | lst ts => unfold TRep at g; obtain ⟨_, _, e, _⟩ := g; cases e
    | exc c => unfold TRep at g; obtain ⟨_, _, e, _⟩ := g; cases e
    | _ => cases g
  | .tup ts, u, v, d1, d2, h, g => by
    unfold TRep at h
    obtain ⟨a, xs, e, h1, h2⟩ := h
    subst e
    cases u with
    | tup us =>
      unfold TRep at g
      obtain ⟨b, ys, e, g1, g2⟩ := g
      cases e
      have := I.tuple_inj h1 g1
      subst this
      rw [TReps.inj I ts us xs (by simp only [dep] at d1; omega) (by simp only [dep] at d2; omega) h2 g2]
    | lst us =>
      unfold TRep at g
      obtain ⟨b, ys, e, g1, g2⟩ := g
      cases e
      exact (kinds_ne I h1 g1).elim
    | exc c => simp [dep] at d2
    | _ => cases g
  | .lst ts, u, v, d1, d2, h, g => by
    unfold TRep at h
    obtain ⟨a, xs, e, h1, h2⟩ := h
    subst e
    cases u with
    | lst us =>
      unfold TRep at g
      obtain ⟨b, ys, e, g1, g2⟩ := g
      cases e
      have := I.list_inj h1 g1
      subst this
      rw [TReps.inj I ts us xs (by simp only [dep] at d1; omega) (by simp only [dep] at d2; omega) h2 g2]
    | tup us =>
      unfold TRep at g
      obtain ⟨b, ys, e, g1, g2⟩ := g
      cases e
      exact (kinds_ne I g1 h1).elim
    | exc c => simp [dep] at d2
    | _ => cases g
  | .exc _, _, _, d1, _, _, _ => by simp [dep] at d1
theorem TReps.inj (I : Inv X pins σ H s) : ∀ (ts us : List T) (xs : List V), deps ts < 1000 → deps us < 1000 → TReps X.K H ts xs → TReps X.K H us xs → ts = us
  | [], us, xs, _, _, h, g => by
    cases (show xs = [] from h)
    cases us with
    | nil => rfl
    | cons u us => obtain ⟨_, _, e, _⟩ := g; cases e
  | t :: ts, us, xs, d1, d2, ⟨x, r, e, h1, h2⟩, g => by
    subst e
    cases us with
    | nil => cases (show _ = [] from g)
    | cons u us =>
      obtain ⟨y, r', e, g1, g2⟩ := g
      cases e
      simp only [deps] at d1 d2
      rw [TRep.inj I t u x (by omega) (by omega) h1 g1, TReps.inj I ts us r (by omega) (by omega) h2 g2]
end
def eqAt (ts us : List T) (j : Nat) : Bool := match ts[j]?, us[j]? with
  | some a, some b => eqT a b
  | _, _ => true
theorem range_all_succ (n : Nat) (e : Nat → Bool) : (List.range (n + 1)).all e = (e 0 && (List.range n).all fun j => e (j + 1)) := by
  rw [List.range_succ_eq_map, List.all_cons, List.all_map]; rfl
theorem eqTs_all : ∀ (ts us : List T), ((List.range (min ts.length us.length)).all (eqAt ts us) && ts.length == us.length) = eqTs ts us
  | [], [] => by simp [eqTs]
  | [], u :: us => by simp [eqTs]
  | t :: ts, [] => by simp [eqTs]
  | t :: ts, u :: us => by
    have ih := eqTs_all ts us
    have e1 : min (t :: ts).length (u :: us).length = min ts.length us.length + 1 := by simp only [List.length_cons]; omega
    rw [e1, range_all_succ]
    have e2 : eqAt (t :: ts) (u :: us) 0 = eqT t u := by simp [eqAt]
    have e3 : (fun j => eqAt (t :: ts) (u :: us) (j + 1)) = eqAt ts us := by funext j; simp [eqAt]
    have e4 : ((t :: ts).length == (u :: us).length) = (ts.length == us.length) := by simp
    rw [e2, e3, e4]
    simp only [eqTs]
    rw [← ih, Bool.and_assoc]
theorem units_in1 (A : Around) : A.in1.units = A.units + 1 := rfl
theorem deps_get : ∀ {ts : List T} {j : Nat} {t : T}, ts[j]? = some t → dep t ≤ deps ts
  | [], _, _, h => by simp at h
  | t :: ts, 0, u, h => by simp at h; subst h; simp only [deps]; omega
  | t :: ts, j + 1, u, h => by
    have := deps_get (ts := ts) (j := j) (t := u) (by simpa using h)
    simp only [deps]; omega
/-- the items of two tuples or lists, pair by pair -/
theorem pair_ok {A : Around} {ts us : List T} {xs ys : List V} {its its2 : List Value} (h1 : TReps X.K H ts xs) (h2 : TReps X.K H us ys) (r1 : Vals xs its) (r2 : Vals ys its2)
    (ih : ∀ t u v1 v2 u1 u2, t ∈ ts → u ∈ us → TRep X.K H t v1 → TRep X.K H u v2 → RelV v1 u1 → RelV v2 u2 → SeqAt.EqAt A s u1 u2 (eqT t u)) :
    ∀ j (h1 : j < its.toArray.size) (h2 : j < its2.toArray.size), SeqAt.EqAt A s its.toArray[j] its2.toArray[j] (eqAt ts us j) := by
  intro j q1 q2
  have l1 := h1.length
  have l2 := h2.length
  have l3 := r1.length
  have l4 := r2.length
  rw [List.size_toArray] at q1 q2
  have g1 : j < ts.length := by omega
  have g2 : j < us.length := by omega
  obtain ⟨x, p1, p2⟩ := h1.get (List.getElem?_eq_getElem g1)
  obtain ⟨y, p3, p4⟩ := h2.get (List.getElem?_eq_getElem g2)
  obtain ⟨w1, p5, p6⟩ := r1.get p1
  obtain ⟨w2, p7, p8⟩ := r2.get p3
  have e1 : its.toArray[j] = w1 := by
    have := List.getElem?_eq_getElem q1
    rw [p5] at this
    simpa using (Option.some.inj this).symm
  have e2 : its2.toArray[j] = w2 := by
    have := List.getElem?_eq_getElem q2
    rw [p7] at this
    simpa using (Option.some.inj this).symm
  have e3 : eqAt ts us j = eqT ts[j] us[j] := by
    unfold eqAt
    rw [List.getElem?_eq_getElem g1, List.getElem?_eq_getElem g2]
  rw [e1, e2, e3]
  exact ih _ _ x y w1 w2 (List.getElem_mem g1) (List.getElem_mem g2) p2 p4 p6 p8
theorem mem_dep {ts : List T} {t : T} (h : t ∈ ts) : dep t ≤ deps ts := by
  obtain ⟨j, hj, rfl⟩ := List.mem_iff_getElem.mp h
  exact deps_get (List.getElem?_eq_getElem hj)
theorem eqTs_range {ts us : List T} (h : ts.length = us.length) : (List.range ts.length).all (eqAt ts us) = eqTs ts us := by
  have := eqTs_all ts us
  rw [← h] at this
  simpa using this
theorem eqTs_len : ∀ {ts us : List T}, ts.length ≠ us.length → eqTs ts us = false
  | [], [], h => absurd rfl h
  | [], _ :: _, _ => by simp [eqTs]
  | _ :: _, [], _ => by simp [eqTs]
  | t :: ts, u :: us, h => by
    simp only [eqTs]
    rw [eqTs_len (ts := ts) (us := us) (by simpa using h), Bool.and_false]
theorem seq_t {A : Around} {a b : Addr} {ts us : List T} {xs ys : List V} {its its2 : List Value} (p2 : TReps X.K H ts xs) (g2 : TReps X.K H us ys) (q1 : Vals xs its) (q2 : Vals ys its2) (pl : PyProof.Rows.IsTup s.heap a its.toArray) (pl2 : PyProof.Rows.IsTup s.heap b its2.toArray) (hu' : A.units < cLine)
    (ih : ∀ t u v1 v2 u1 u2, t ∈ ts → u ∈ us → TRep X.K H t v1 → TRep X.K H u v2 → RelV v1 u1 → RelV v2 u2 → SeqAt.EqAt A.in1 s u1 u2 (eqT t u)) :
    SeqAt.RcAt A s (.ref a) (.ref b) (eqTs ts us) ∧ SeqAt.RcNeAt A s (.ref a) (.ref b) (!eqTs ts us) := by
  have h1 := SeqAt.RcAt.tuples (A := A) (e := eqAt ts us) pl pl2 hu' (pair_ok p2 g2 q1 q2 ih)
  have h2 := SeqAt.RcNeAt.tuples (A := A) (e := eqAt ts us) pl pl2 hu' (pair_ok p2 g2 q1 q2 ih)
  rw [List.size_toArray, List.size_toArray, ← q1.length, ← q2.length, p2.length, g2.length, eqTs_all] at h1 h2
  exact ⟨h1, h2⟩
theorem seq_l {A : Around} {a b : Addr} {ts us : List T} {xs ys : List V} {its its2 : List Value} (p2 : TReps X.K H ts xs) (g2 : TReps X.K H us ys) (q1 : Vals xs its) (q2 : Vals ys its2) (pl : PlainL s.heap a its.toArray) (pl2 : PlainL s.heap b its2.toArray) (hu' : A.units < cLine)
    (ih : ∀ t u v1 v2 u1 u2, t ∈ ts → u ∈ us → TRep X.K H t v1 → TRep X.K H u v2 → RelV v1 u1 → RelV v2 u2 → SeqAt.EqAt A.in1 s u1 u2 (eqT t u)) :
    SeqAt.RcAt A s (.ref a) (.ref b) (eqTs ts us) ∧ SeqAt.RcNeAt A s (.ref a) (.ref b) (!eqTs ts us) := by
  have e1 : its.toArray.size = ts.length := by rw [List.size_toArray, ← q1.length, p2.length]
  have e2 : its2.toArray.size = us.length := by rw [List.size_toArray, ← q2.length, g2.length]
  by_cases hl : ts.length = us.length
  · have hp := pair_ok (A := A.in1) p2 g2 q1 q2 ih
    have g1 := SeqAt.RcAt.lists pl.isList pl2.isList (by rw [e1, e2, hl]) hu' hp
    have g2 := SeqAt.RcNeAt.lists pl.isList pl2.isList (by rw [e1, e2, hl]) hu' hp
    rw [e1, eqTs_range hl] at g1 g2
    exact ⟨g1, g2⟩
  · have ne : (its.toArray.size != its2.toArray.size) = true := by rw [e1, e2]; simpa using hl
    rw [eqTs_len hl]
    exact ⟨SeqAt.RcAt.lists_lengths pl.isList pl2.isList ne hu', SeqAt.RcNeAt.lists_lengths pl.isList pl2.isList ne hu'⟩
theorem rc_trees (I : Inv X pins σ H s) : ∀ (n : Nat) (A : Around) (t u : T) (v1 v2 : V) (u1 u2 : Value), dep t ≤ n → dep u < 1000 → n < 1000 → A.units + n < cLine → TRep X.K H t v1 → TRep X.K H u v2 → RelV v1 u1 → RelV v2 u2 →
    SeqAt.RcAt A s u1 u2 (eqT t u) ∧ SeqAt.RcNeAt A s u1 u2 (!eqT t u) ∧ SeqAt.EqAt A s u1 u2 (eqT t u) := by
  intro n
  induction n with
  | zero =>
    intro A t u v1 v2 u1 u2 hd hd2 hn hu h1 h2 r1 r2
    have hu' : A.units < cLine := by omega
    cases t with
    | tup ts => simp only [dep] at hd; omega
    | lst ts => simp only [dep] at hd; omega
    | exc c => simp [dep] at hd
    | non =>
      cases h1; cases r1
      cases u with
      | non => cases h2; cases r2; exact ⟨SeqAt.RcAt.none_none, SeqAt.RcNeAt.none_none, SeqAt.EqAt.same _⟩
      | bl b => cases h2; cases r2; exact ⟨SeqAt.RcAt.none_bool b, SeqAt.RcNeAt.none_bool b, SeqAt.EqAt.none_bool b⟩
      | int b => cases h2; obtain ⟨tk, rfl⟩ := r2; exact ⟨SeqAt.RcAt.none_int b tk, SeqAt.RcNeAt.none_int b tk, SeqAt.EqAt.none_int b tk⟩
      | str b => cases h2; obtain ⟨tk, rfl⟩ := r2; exact ⟨SeqAt.RcAt.none_str b tk, SeqAt.RcNeAt.none_str b tk, SeqAt.EqAt.none_str b tk⟩
      | tup us =>
        unfold TRep at h2
        obtain ⟨a, xs, rfl, g1, g2⟩ := h2
        cases r2
        obtain ⟨its, _, pl, _⟩ := I.tuple g1
        exact ⟨SeqAt.RcAt.none_tuple pl hu', SeqAt.RcNeAt.none_tuple pl hu', SeqAt.EqAt.none_tuple pl hu'⟩
      | lst us =>
        unfold TRep at h2
        obtain ⟨a, xs, rfl, g1, g2⟩ := h2
        cases r2
        obtain ⟨its, _, pl, _⟩ := I.list g1
        exact ⟨SeqAt.RcAt.none_list pl.isList hu', SeqAt.RcNeAt.none_list pl.isList hu', SeqAt.EqAt.none_list pl.isList hu'⟩
      | exc c => simp [dep] at hd2
    | bl c =>
      cases h1; cases r1
      cases u with
      | non => cases h2; cases r2; exact ⟨SeqAt.RcAt.bool_none c, SeqAt.RcNeAt.bool_none c, SeqAt.EqAt.bool_none c⟩
      | bl b => cases h2; cases r2; exact ⟨SeqAt.RcAt.bool_bool c b, SeqAt.RcNeAt.bool_bool c b, SeqAt.EqAt.bool_bool c b⟩
      | int b => cases h2; obtain ⟨tk, rfl⟩ := r2; exact ⟨SeqAt.RcAt.bool_int c b tk, SeqAt.RcNeAt.bool_int c b tk, SeqAt.EqAt.bool_int c b tk⟩
      | str b => cases h2; obtain ⟨tk, rfl⟩ := r2; exact ⟨SeqAt.RcAt.bool_str c b tk, SeqAt.RcNeAt.bool_str c b tk, SeqAt.EqAt.bool_str c b tk⟩
      | tup us =>
        unfold TRep at h2
        obtain ⟨a, xs, rfl, g1, g2⟩ := h2
        cases r2
        obtain ⟨its, _, pl, _⟩ := I.tuple g1
        exact ⟨SeqAt.RcAt.bool_tuple c pl hu', SeqAt.RcNeAt.bool_tuple c pl hu', SeqAt.EqAt.bool_tuple c pl hu'⟩
      | lst us =>
        unfold TRep at h2
        obtain ⟨a, xs, rfl, g1, g2⟩ := h2
        cases r2
        obtain ⟨its, _, pl, _⟩ := I.list g1
        exact ⟨SeqAt.RcAt.bool_list c pl.isList hu', SeqAt.RcNeAt.bool_list c pl.isList hu', SeqAt.EqAt.bool_list c pl.isList hu'⟩
      | exc c => simp [dep] at hd2
    | int c =>
      cases h1; obtain ⟨tk1, rfl⟩ := r1
      cases u with
      | non => cases h2; cases r2; exact ⟨SeqAt.RcAt.int_none c tk1, SeqAt.RcNeAt.int_none c tk1, SeqAt.EqAt.int_none c tk1⟩
      | bl b => cases h2; cases r2; exact ⟨SeqAt.RcAt.int_bool c tk1 b, SeqAt.RcNeAt.int_bool c tk1 b, SeqAt.EqAt.int_bool c tk1 b⟩
      | int b => cases h2; obtain ⟨tk, rfl⟩ := r2; exact ⟨SeqAt.RcAt.int_int c tk1 b tk, SeqAt.RcNeAt.int_int c tk1 b tk, SeqAt.EqAt.int_int c tk1 b tk⟩
      | str b => cases h2; obtain ⟨tk, rfl⟩ := r2; exact ⟨SeqAt.RcAt.int_str c tk1 b tk, SeqAt.RcNeAt.int_str c tk1 b tk, SeqAt.EqAt.int_str c tk1 b tk⟩
      | tup us =>
        unfold TRep at h2
        obtain ⟨a, xs, rfl, g1, g2⟩ := h2
        cases r2
        obtain ⟨its, _, pl, _⟩ := I.tuple g1
        exact ⟨SeqAt.RcAt.int_tuple c tk1 pl hu', SeqAt.RcNeAt.int_tuple c tk1 pl hu', SeqAt.EqAt.int_tuple c tk1 pl hu'⟩
      | lst us =>
        unfold TRep at h2
        obtain ⟨a, xs, rfl, g1, g2⟩ := h2
        cases r2
        obtain ⟨its, _, pl, _⟩ := I.list g1
        exact ⟨SeqAt.RcAt.int_list c tk1 pl.isList hu', SeqAt.RcNeAt.int_list c tk1 pl.isList hu', SeqAt.EqAt.int_list c tk1 pl.isList hu'⟩
      | exc c => simp [dep] at hd2
    | str c =>
      cases h1; obtain ⟨tk1, rfl⟩ := r1
      cases u with
      | non => cases h2; cases r2; exact ⟨SeqAt.RcAt.str_none c tk1, SeqAt.RcNeAt.str_none c tk1, SeqAt.EqAt.str_none c tk1⟩
      | bl b => cases h2; cases r2; exact ⟨SeqAt.RcAt.str_bool c tk1 b, SeqAt.RcNeAt.str_bool c tk1 b, SeqAt.EqAt.str_bool c tk1 b⟩
      | int b => cases h2; obtain ⟨tk, rfl⟩ := r2; exact ⟨SeqAt.RcAt.str_int c tk1 b tk, SeqAt.RcNeAt.str_int c tk1 b tk, SeqAt.EqAt.str_int c tk1 b tk⟩
      | str b => cases h2; obtain ⟨tk, rfl⟩ := r2; exact ⟨SeqAt.RcAt.str_str c tk1 b tk, SeqAt.RcNeAt.str_str c tk1 b tk, SeqAt.EqAt.str_str c tk1 b tk⟩
      | tup us =>
        unfold TRep at h2
        obtain ⟨a, xs, rfl, g1, g2⟩ := h2
        cases r2
        obtain ⟨its, _, pl, _⟩ := I.tuple g1
        exact ⟨SeqAt.RcAt.str_tuple c tk1 pl hu', SeqAt.RcNeAt.str_tuple c tk1 pl hu', SeqAt.EqAt.str_tuple c tk1 pl hu'⟩
      | lst us =>
        unfold TRep at h2
        obtain ⟨a, xs, rfl, g1, g2⟩ := h2
        cases r2
        obtain ⟨its, _, pl, _⟩ := I.list g1
        exact ⟨SeqAt.RcAt.str_list c tk1 pl.isList hu', SeqAt.RcNeAt.str_list c tk1 pl.isList hu', SeqAt.EqAt.str_list c tk1 pl.isList hu'⟩
      | exc c => simp [dep] at hd2
  | succ n ih =>
    intro A t u v1 v2 u1 u2 hd hd2 hn hu h1 h2 r1 r2
    have hu' : A.units < cLine := by omega
    have ih := fun A t u v1 v2 u1 u2 a b => ih A t u v1 v2 u1 u2 a b (by omega)
    cases t with
    | tup ts =>
      unfold TRep at h1
      obtain ⟨a, xs, rfl, p1, p2⟩ := h1
      cases r1
      obtain ⟨its, q1, pl, _⟩ := I.tuple p1
      cases u with
      | tup us =>
        unfold TRep at h2
        obtain ⟨b, ys, rfl, g1, g2⟩ := h2
        cases r2
        obtain ⟨its2, q2, pl2, _⟩ := I.tuple g1
        simp only [dep] at hd hd2
        have rr : SeqAt.RcAt A s (.ref a) (.ref b) (eqTs ts us) ∧ SeqAt.RcNeAt A s (.ref a) (.ref b) (!eqTs ts us) :=
          seq_t p2 g2 q1 q2 pl pl2 hu' fun t u v1 v2 u1 u2 ht hu2 k1 k2 k3 k4 =>
            (ih A.in1 t u v1 v2 u1 u2 (by have := mem_dep ht; omega) (by have := mem_dep hu2; omega) (by rw [units_in1]; omega) k1 k2 k3 k4).2.2
        refine ⟨by simpa only [eqT] using rr.1, by simpa only [eqT] using rr.2, ?_⟩
        by_cases hab : a = b
        · subst hab
          have := I.tuple_inj p1 g1
          subst this
          have := TReps.inj I ts us xs (by omega) (by omega) p2 g2
          subst this
          rw [eqT_refl _ (by simp only [dep]; omega)]
          exact SeqAt.EqAt.same _
        · simp only [eqT]
          exact SeqAt.EqAt.of_refs hab rr.1
      | lst us =>
        unfold TRep at h2
        obtain ⟨b, ys, rfl, g1, g2⟩ := h2
        cases r2
        obtain ⟨its2, q2, pl2, _⟩ := I.list g1
        exact ⟨SeqAt.RcAt.tuple_list pl pl2.isList hu', SeqAt.RcNeAt.tuple_list pl pl2.isList hu', SeqAt.EqAt.tuple_list pl pl2.isList hu'⟩
      | non => cases h2; cases r2; exact ⟨SeqAt.RcAt.tuple_none pl hu', SeqAt.RcNeAt.tuple_none pl hu', SeqAt.EqAt.tuple_none pl hu'⟩
      | bl b => cases h2; cases r2; exact ⟨SeqAt.RcAt.tuple_bool b pl hu', SeqAt.RcNeAt.tuple_bool b pl hu', SeqAt.EqAt.tuple_bool b pl hu'⟩
      | int b => cases h2; obtain ⟨tk, rfl⟩ := r2; exact ⟨SeqAt.RcAt.tuple_int b tk pl hu', SeqAt.RcNeAt.tuple_int b tk pl hu', SeqAt.EqAt.tuple_int b tk pl hu'⟩
      | str b => cases h2; obtain ⟨tk, rfl⟩ := r2; exact ⟨SeqAt.RcAt.tuple_str b tk pl hu', SeqAt.RcNeAt.tuple_str b tk pl hu', SeqAt.EqAt.tuple_str b tk pl hu'⟩
      | exc c => simp [dep] at hd2
    | lst ts =>
      unfold TRep at h1
      obtain ⟨a, xs, rfl, p1, p2⟩ := h1
      cases r1
      obtain ⟨its, q1, pl, _⟩ := I.list p1
      cases u with
      | lst us =>
        unfold TRep at h2
        obtain ⟨b, ys, rfl, g1, g2⟩ := h2
        cases r2
        obtain ⟨its2, q2, pl2, _⟩ := I.list g1
        simp only [dep] at hd hd2
        have rr : SeqAt.RcAt A s (.ref a) (.ref b) (eqTs ts us) ∧ SeqAt.RcNeAt A s (.ref a) (.ref b) (!eqTs ts us) :=
          seq_l p2 g2 q1 q2 pl pl2 hu' fun t u v1 v2 u1 u2 ht hu2 k1 k2 k3 k4 =>
            (ih A.in1 t u v1 v2 u1 u2 (by have := mem_dep ht; omega) (by have := mem_dep hu2; omega) (by rw [units_in1]; omega) k1 k2 k3 k4).2.2
        refine ⟨by simpa only [eqT] using rr.1, by simpa only [eqT] using rr.2, ?_⟩
        by_cases hab : a = b
        · subst hab
          have := I.list_inj p1 g1
          subst this
          have := TReps.inj I ts us xs (by omega) (by omega) p2 g2
          subst this
          rw [eqT_refl _ (by simp only [dep]; omega)]
          exact SeqAt.EqAt.same _
        · simp only [eqT]
          exact SeqAt.EqAt.of_refs hab rr.1
      | tup us =>
        unfold TRep at h2
        obtain ⟨b, ys, rfl, g1, g2⟩ := h2
        cases r2
        obtain ⟨its2, q2, pl2, _⟩ := I.tuple g1
        exact ⟨SeqAt.RcAt.list_tuple pl.isList pl2 hu', SeqAt.RcNeAt.list_tuple pl.isList pl2 hu', SeqAt.EqAt.list_tuple pl.isList pl2 hu'⟩
      | non => cases h2; cases r2; exact ⟨SeqAt.RcAt.list_none pl.isList hu', SeqAt.RcNeAt.list_none pl.isList hu', SeqAt.EqAt.list_none pl.isList hu'⟩
      | bl b => cases h2; cases r2; exact ⟨SeqAt.RcAt.list_bool b pl.isList hu', SeqAt.RcNeAt.list_bool b pl.isList hu', SeqAt.EqAt.list_bool b pl.isList hu'⟩
      | int b => cases h2; obtain ⟨tk, rfl⟩ := r2; exact ⟨SeqAt.RcAt.list_int b tk pl.isList hu', SeqAt.RcNeAt.list_int b tk pl.isList hu', SeqAt.EqAt.list_int b tk pl.isList hu'⟩
      | str b => cases h2; obtain ⟨tk, rfl⟩ := r2; exact ⟨SeqAt.RcAt.list_str b tk pl.isList hu', SeqAt.RcNeAt.list_str b tk pl.isList hu', SeqAt.EqAt.list_str b tk pl.isList hu'⟩
      | exc c => simp [dep] at hd2
    | exc c => simp only [dep] at hd; omega
    | non => exact ih A _ u v1 v2 u1 u2 (by simp only [dep]; omega) hd2 (by omega) h1 h2 r1 r2
    | bl c => exact ih A _ u v1 v2 u1 u2 (by simp only [dep]; omega) hd2 (by omega) h1 h2 r1 r2
    | int c => exact ih A _ u v1 v2 u1 u2 (by simp only [dep]; omega) hd2 (by omega) h1 h2 r1 r2
    | str c => exact ih A _ u v1 v2 u1 u2 (by simp only [dep]; omega) hd2 (by omega) h1 h2 r1 r2
end
end DL

set_option Elab.async false
set_option linter.all false
set_option maxRecDepth 100000
namespace DL
open PySem L2

/-- an operand that is not too deep and holds no exception -/
def sh (s : S) : Prop := dep (tr s) ≤ 20
def eqS (a b : S) : Bool := eqT (tr a) (tr b)
/-- the answer of == -/
def fEq : S → S → (S → Prop) → Prop := fun a b R => sh a ∧ sh b ∧ R (.t (.bl (eqS a b)))
def fNe : S → S → (S → Prop) → Prop := fun a b R => sh a ∧ sh b ∧ R (.t (.bl (!eqS a b)))
abbrev wEq := wOp2 fEq
abbrev wNe := wOp2 fNe
/-- == by values -/
def rEqD (K : PySem.W.Frag) (neg : Bool) : R2 := fun x y H Q => ∃ a b, dep a ≤ 20 ∧ dep b ≤ 20 ∧ TRep K H a x ∧ TRep K H b y ∧ Q (.bl (if neg then !eqT a b else eqT a b)) H
/-- x in xs -/
def inT (x : T) (ts : List T) : Bool := ts.any fun t => eqT t x
def fNotIn : S → S → (S → Prop) → Prop := fun a b R => match tr b with
  | .lst ts => sh a ∧ deps ts ≤ 20 ∧ R (.t (.bl (!inT (tr a) ts)))
  | .tup ts => sh a ∧ deps ts ≤ 20 ∧ R (.t (.bl (!inT (tr a) ts)))
  | _ => False
abbrev wNotIn := wOp2 fNotIn
def rInD (K : PySem.W.Frag) (neg : Bool) : R2 := fun x y H Q => ∃ a p xs ts, dep a ≤ 20 ∧ deps ts ≤ 20 ∧ TRep K H a x ∧ y = .ref p ∧ (SqL K H p xs ∨ SqT K H p xs) ∧ TReps K H ts xs ∧ Q (.bl (if neg then !inT a ts else inT a ts)) H
/-- is None -/
def isN : T → Bool
  | .non => true
  | _ => false
def wIsN (wa : WE) : WE := fun δ R => wa δ fun s => R (.t (.bl (isN (tr s))))
def wNotN (wa : WE) : WE := fun δ R => wa δ fun s => R (.t (.bl (!isN (tr s))))
section
variable {X : Cx}
theorem op_eqD (hu : X.A.units + 64 < cLine) : OpR X (compareOp .Eq) (rEqD X.K false) := by
  intro pins s σ H x y v u Q I rx ry h
  obtain ⟨a, b, h1, h2, p1, p2, q⟩ := h
  exact (rc_trees I 20 X.A a b x y v u h1 (by omega) (by omega) (by omega) p1 p2 rx ry).1 X.prog X.w X.xe _ ⟨.bl _, H, I, rfl, q⟩
theorem op_neD (hu : X.A.units + 64 < cLine) : OpR X (compareOp .NotEq) (rEqD X.K true) := by
  intro pins s σ H x y v u Q I rx ry h
  obtain ⟨a, b, h1, h2, p1, p2, q⟩ := h
  exact (rc_trees I 20 X.A a b x y v u h1 (by omega) (by omega) (by omega) p1 p2 rx ry).2.1 X.prog X.w X.xe _ ⟨.bl _, H, I, rfl, q⟩
theorem op2_eq {K : PySem.W.Frag} : Op2 K (rEqD K false) fEq := fun F H s1 s2 v1 v2 R Q sb fu p1 p2 h k => ⟨tr s1, tr s2, h.1, h.2.1, p1.tree sb, p2.tree sb, k _ F H (.t (.bl _)) (Ext.refl sb fu) rfl h.2.2⟩
theorem op2_ne {K : PySem.W.Frag} : Op2 K (rEqD K true) fNe := fun F H s1 s2 v1 v2 R Q sb fu p1 p2 h k => ⟨tr s1, tr s2, h.1, h.2.1, p1.tree sb, p2.tree sb, k _ F H (.t (.bl _)) (Ext.refl sb fu) rfl h.2.2⟩
/-- the items' answers, read off the values -/
noncomputable def eqW (X : Cx) (H : Hp) (a : T) (ts : List T) (u : Value) : Bool := open Classical in decide (∃ t v, t ∈ ts ∧ TRep X.K H t v ∧ RelV v u ∧ eqT t a = true)
theorem relV_inj {v w : V} {u : Value} (h : RelV v u) (g : RelV w u) : v = w := RelV.inj h g
theorem eqW_of {pins : List (Addr × Obj)} {σ : St} {H : Hp} {s : Shared} (I : Inv X pins σ H s) {a : T} {ts : List T} (hd : deps ts < 1000) {t : T} {v : V} {u : Value} (ht : t ∈ ts) (h : TRep X.K H t v) (r : RelV v u) : eqW X H a ts u = eqT t a := by
  unfold eqW
  cases e : eqT t a with
  | true => exact @decide_eq_true _ (Classical.propDecidable _) ⟨t, v, ht, h, r, e⟩
  | false =>
    refine @decide_eq_false _ (Classical.propDecidable _) ?_
    rintro ⟨t', v', ht', h', r', e'⟩
    have := relV_inj r r'
    subst this
    have d1 := mem_dep ht
    have d2 := mem_dep ht'
    have := TRep.inj I t t' v (by omega) (by omega) h h'
    subst this
    rw [e] at e'; cases e'
theorem eqW_any {pins : List (Addr × Obj)} {σ : St} {H : Hp} {s : Shared} (I : Inv X pins σ H s) {a : T} {us : List T} (hd : deps us < 1000) : ∀ {ts : List T} {xs : List V} {its : List Value}, (∀ t ∈ ts, t ∈ us) → TReps X.K H ts xs → Vals xs its → its.any (eqW X H a us) = ts.any fun t => eqT t a
  | [], _, _, _, h, r => by cases (show _ = [] from h); cases r; rfl
  | t :: ts, _, _, hm, ⟨x, r, e, p, q⟩, rv => by
    subst e
    cases rv with
    | cons r1 r2 =>
      rw [List.any_cons, List.any_cons, eqW_of I hd (hm t List.mem_cons_self) p r1, eqW_any I hd (fun z hz => hm z (List.mem_cons_of_mem _ hz)) q r2]
theorem mem_reps {K : PySem.W.Frag} {H : Hp} : ∀ {ts : List T} {xs : List V} {its : List Value} {u : Value}, TReps K H ts xs → Vals xs its → u ∈ its → ∃ t v, t ∈ ts ∧ TRep K H t v ∧ RelV v u
  | [], _, _, _, h, r, m => by cases (show _ = [] from h); cases r; cases m
  | t :: ts, _, _, _, ⟨x, r, e, p, q⟩, rv, m => by
    subst e
    cases rv with
    | cons r1 r2 =>
      rcases List.mem_cons.mp m with rfl | m
      · exact ⟨t, x, List.mem_cons_self, p, r1⟩
      · obtain ⟨t', v', h1, h2, h3⟩ := mem_reps q r2 m
        exact ⟨t', v', List.mem_cons_of_mem _ h1, h2, h3⟩
theorem in_items {pins : List (Addr × Obj)} {σ : St} {H : Hp} {s : Shared} (I : Inv X pins σ H s) (hu : X.A.units + 64 < cLine) {a : T} {ts : List T} {x : V} {v : Value} {xs : List V} {its : List Value} (h1 : dep a ≤ 20) (h2 : deps ts ≤ 20) (p1 : TRep X.K H a x) (rx : RelV x v) (p2 : TReps X.K H ts xs) (r : Vals xs its) :
    (∀ y, y ∈ its.toArray → SeqAt.EqAt X.A.in1 s y v (eqW X H a ts y)) ∧ its.toArray.any (eqW X H a ts) = inT a ts := by
  refine ⟨fun y hy => ?_, ?_⟩
  · obtain ⟨t, w, m1, m2, m3⟩ := mem_reps p2 r (by simpa using hy)
    have d := mem_dep m1
    rw [eqW_of I (by omega) m1 m2 m3]
    exact (rc_trees I 20 X.A.in1 t a w x y v (by omega) (by omega) (by omega) (by rw [units_in1]; omega) m2 p1 m3 rx).2.2
  · rw [show its.toArray.any (eqW X H a ts) = its.any (eqW X H a ts) by simp, eqW_any I (by omega) (fun _ h => h) p2 r]
    rfl
theorem op_notInD (hu : X.A.units + 64 < cLine) : OpR X (compareOp .NotIn) (rInD X.K true) := by
  intro pins s σ H x y v u Q I rx ry h
  obtain ⟨a, p, xs, ts, h1, h2, p1, rfl, hq, p2, q⟩ := h
  cases ry
  rcases hq with hq | hq
  · obtain ⟨its, r, pl, hz⟩ := I.list hq
    obtain ⟨g1, g2⟩ := in_items I hu h1 h2 p1 rx p2 r
    refine SeqAt.notIn_listAt (eqW X H a ts) pl.isList g1 ⟨.bl _, H, I, rfl, ?_⟩
    rw [g2]; exact q
  · obtain ⟨its, r, pl, hz⟩ := I.tuple hq
    obtain ⟨g1, g2⟩ := in_items I hu h1 h2 p1 rx p2 r
    refine SeqAt.notIn_tupleAt (eqW X H a ts) pl g1 ⟨.bl _, H, I, rfl, ?_⟩
    rw [g2]; exact q
theorem op2_notIn {K : PySem.W.Frag} : Op2 K (rInD K true) fNotIn := fun F H s1 s2 v1 v2 R Q sb fu p1 p2 h k => by
  have t2 := p2.tree sb
  unfold fNotIn at h
  split at h
  · rename_i ts e
    rw [e] at t2; unfold TRep at t2
    obtain ⟨p, xs, q1, q2, q3⟩ := t2
    exact ⟨tr s1, p, xs, ts, h.1, h.2.1, p1.tree sb, q1, .inl q2, q3, k _ F H (.t (.bl _)) (Ext.refl sb fu) rfl h.2.2⟩
  · rename_i ts e
    rw [e] at t2; unfold TRep at t2
    obtain ⟨p, xs, q1, q2, q3⟩ := t2
    exact ⟨tr s1, p, xs, ts, h.1, h.2.1, p1.tree sb, q1, .inr q2, q3, k _ F H (.t (.bl _)) (Ext.refl sb fu) rfl h.2.2⟩
  · exact h.elim
variable {a b : Expr} {wa wb : WE} {pos : Pos}
theorem dt_eq {k : Nat} (hr : Room k X.A) (ha : PE X a (liftE X.K wa)) (hb : PE X b (liftE X.K wb)) : PT X (.Compare a [.Eq] [b] pos) (liftT X.K (wB (wEq wa wb))) := dt_cmp (op_eqD hr.units) op2_eq ha hb (nomark _)
theorem dt_ne {k : Nat} (hr : Room k X.A) (ha : PE X a (liftE X.K wa)) (hb : PE X b (liftE X.K wb)) : PT X (.Compare a [.NotEq] [b] pos) (liftT X.K (wB (wNe wa wb))) := dt_cmp (op_neD hr.units) op2_ne ha hb (nomark _)
theorem dt_notIn {k : Nat} (hr : Room k X.A) (ha : PE X a (liftE X.K wa)) (hb : PE X b (liftE X.K wb)) (hm : behindInMarks .NotIn b = false := by rfl) : PT X (.Compare a [.NotIn] [b] pos) (liftT X.K (wB (wNotIn wa wb))) := dt_cmp (op_notInD hr.units) op2_notIn ha hb hm
end

/-! ### isinstance -/
inductive Ty where
  | non | bool | int | str | tup | lst | exc
def Ty.nm : Ty → String
  | .non => "NoneType" | .bool => "bool" | .int => "int" | .str => "str" | .tup => "tuple" | .lst => "list" | .exc => ""
def tyT : T → Ty
  | .non => .non
  | .bl _ => .bool
  | .int _ => .int
  | .str _ => .str
  | .tup _ => .tup
  | .lst _ => .lst
  | .exc _ => .exc
def tyS (s : S) : Ty := tyT (tr s)
def isTy : Ty → Ty → Bool
  | .non, .non => true
  | .bool, .bool => true
  | .bool, .int => true
  | .int, .int => true
  | .str, .str => true
  | .tup, .tup => true
  | .lst, .lst => true
  | _, _ => false
/-- isinstance with one of Python's own; of an exception it is asked elsewhere -/
def wIs (ty : Ty) (we : WE) : WE := fun δ R => we δ fun s => tyS s ≠ .exc ∧ R (.t (.bl (isTy (tyS s) ty)))
section
variable {X : Cx}
variable {e : Expr} {we : WE} {pos p p2 : Pos}
end

/-! ### what a for walks -/
def rngT (lo : Int) (n : Nat) : List T := (List.range n).map fun (k : Nat) => .int (lo + (k : Int))
theorem it_rng {K : PySem.W.Frag} {F : Hp} (lo : Int) (n : Nat) : ItOk K F (Itr lo n) (rngT lo n) := by
  intro F1 H1 i f1 sb fu
  refine ⟨fun t ht => ?_, fun hl => (by simpa [rngT] using hl : n ≤ i)⟩
  unfold rngT at ht
  rw [List.getElem?_map] at ht
  cases e : (List.range n)[i]? with
  | none => rw [e] at ht; cases ht
  | some k =>
    rw [e] at ht
    have hk : k = i ∧ i < n := by
      rw [List.getElem?_eq_some_iff] at e
      obtain ⟨h1, h2⟩ := e
      simp at h1 h2
      exact ⟨h2.symm, h1⟩
    obtain ⟨rfl, hn⟩ := hk
    have et : t = .int (lo + k) := by simpa using ht.symm
    refine ⟨hn, fun x H2 hy => ?_⟩
    obtain ⟨e1, e2⟩ := hy
    subst e1; subst e2
    exact ⟨F1, Ext.refl sb fu, by rw [et]; rfl⟩
def tpK (δ : DSt) (W : List T → DSt → Prop) : S → Prop
  | .t (.tup ts) => W ts δ
  | .vt (.tup ts) => W ts (freeze δ)
  | _ => False
def wiTup (we : WE) : WI := fun δ W => we δ fun s => tpK δ W s
def RngOk (i : Int) : Prop := -(2 ^ 62) ≤ i ∧ i < 2 ^ 62
def wiRng1 (wa : WA) : WI := fun δ W => wa δ fun ss => match ss with
  | [.t (.int j)] => RngOk j ∧ W (rngT 0 j.toNat) δ
  | _ => False
def wiRng2 (wa : WA) : WI := fun δ W => wa δ fun ss => match ss with
  | [.t (.int i), .t (.int j)] => RngOk i ∧ RngOk j ∧ W (rngT i (j - i).toNat) δ
  | _ => False
section
variable {X : Cx} {e e2 tg : Expr} {we : WE} {wa : WA} {p pos : Pos}
theorem di_list (he : PE X e (liftE X.K we)) : PI X tg e (liftI X.K (wiList we)) :=
  (pi_list he).imp fun σ H R ⟨δ, W, F, rl, h, k⟩ => ⟨δ, _, F, rl, h, fun v F1 H1 s ex p q => by
    unfold listK at q
    split at q
    · unfold RepE TRep at p
      obtain ⟨a, xs, rfl, h1, h2⟩ := p
      exact ⟨a, rfl, ⟨xs, ex.sub.seq h1⟩, k _ F1 F1 H1 _ δ ex (Same.refl _) (rl.ext ex) (it_list h1 h2) q⟩
    · unfold RepE TRep at p
      obtain ⟨a, xs, rfl, h1, h2⟩ := p
      exact ⟨a, rfl, ⟨xs, h1⟩, k _ F1 H1 H1 _ (freeze δ) ex ex.sub (rl.ext ex).freeze (it_list h1 h2) q⟩
    · obtain ⟨rl2, sm, a, xs, rfl, g1, g2⟩ := rl.thaw ex p
      exact ⟨a, rfl, ⟨xs, rl2.sub.seq g1⟩, k _ _ _ H1 _ δ (ex.frozen rl.sub).1 (Same.refl _) rl2 (it_list g1 g2) q⟩
    · exact q.elim⟩
theorem di_range1 (hm : X.mg "range" = none) (ha : PA X [e] (liftA X.K wa)) (hg : Gl X "range" := by rfl) (hs : starEach [e] X.env = [(false, eval e X.env)] := by rfl) : PI X tg (.Call (.Name "range" p) [e] [] pos) (liftI X.K (wiRng1 wa)) :=
  (pi_range1 hg hm ha hs).imp fun σ H R ⟨δ, W, F, rl, h, k⟩ => ⟨δ, _, F, rl, h, fun vs F1 H1 ss ex p q => by
    split at q
    · obtain ⟨v, r, rfl, p1, p2⟩ := p
      cases (show r = [] from p2)
      cases (show v = _ from p1)
      obtain ⟨⟨q1, q2⟩, q3⟩ := q
      exact ⟨_, rfl, q1, q2, k _ F1 F1 H1 _ δ ex (Same.refl _) (rl.ext ex) (it_rng 0 _) q3⟩
    · exact q.elim⟩
end
end DL

set_option Elab.async false
set_option linter.all false
set_option maxRecDepth 100000
namespace DL
open PySem L2

/-! ### an owned list is changed -/
/-- the list at a, in slot i, becomes ys -/
theorem Rel.mutate {K : PySem.W.Frag} {F H : Hp} {σ : St} {δ : DSt} {i : Nat} {ts us : List T} {a : Addr} {ys : List V} (r : Rel K F H σ δ) (hi : δ[i]? = some (some (.ol ts))) (ha : σ[i]? = some (some (.ref a))) (hF : F a = none) (hH : ∃ xs, H a = some (.lst xs)) (hy : TReps K F us ys) :
    Rel K F (upd H a (.lst ys)) σ (δ.set i (some (.ol us))) := by
  obtain ⟨xs, hH⟩ := hH
  have ne : ∀ b o, F b = some o → b ≠ a := fun b o e z => by rw [z, hF] at e; cases e
  have lt : i < δ.length := by
    rw [List.getElem?_eq_some_iff] at hi
    exact hi.1
  refine ⟨⟨fun b o e n => by rw [upd_ne (ne b o e)]; exact r.sub.all _ _ e n, fun b ps e => by rw [upd_ne (ne b _ e)]; exact r.sub.tbl _ _ e⟩, fun b o e n => ?_, by rw [List.length_set]; exact r.len, fun j s hj => ?_, fun j l b ts1 ts2 hn h1 h2 h3 => ?_, tabK_set r.tab hH⟩
  · unfold upd at e
    split at e
    · cases e; exact .inr ⟨ys, rfl⟩
    · exact r.full _ _ e n
  · by_cases z : i = j
    · subst z
      rw [List.getElem?_set_self lt] at hj
      cases hj
      exact ⟨_, ha, a, ys, rfl, hF, upd_same, hy⟩
    · rw [List.getElem?_set_ne z] at hj
      obtain ⟨v, q1, q2⟩ := r.slot j s hj
      refine ⟨v, q1, ?_⟩
      cases s with
      | t x => exact q2
      | vt zs => exact q2
      | ol zs =>
        obtain ⟨b, bs, e1, e2, e3, e4⟩ := q2
        have nb : b ≠ a := fun y => by
          subst y; subst e1
          exact r.dist i j b ts zs z hi hj ha q1
        exact ⟨b, bs, e1, e2, by rw [upd_ne nb]; exact e3, e4⟩
  · have own : ∀ (j : Nat) (ts1 : List T), (δ.set i (some (.ol us)))[j]? = some (some (.ol ts1)) → ∃ ts0 : List T, δ[j]? = some (some (.ol ts0)) := fun j ts1 h => by
      by_cases z : i = j
      · subst z; exact ⟨ts, hi⟩
      · rw [List.getElem?_set_ne z] at h; exact ⟨ts1, h⟩
    obtain ⟨t1, g1⟩ := own j ts1 h1
    obtain ⟨t2, g2⟩ := own l ts2 h2
    exact r.dist j l b t1 t2 hn g1 g2 h3
section
variable {X : Cx} {e : Expr} {we wv : WE} {pos : Pos} {H₀ : Hp} {i : Nat} {x : Str} {p1 p2 : Pos}
theorem lt_line {n : Nat} (h : n < 100000) : n < sizeLine := Nat.lt_trans h (by decide)
theorem ds_append (he : PE X e (liftE X.K we)) (hv : PE X (.Name x p1) (tVar i) := by exact pv _) (hbase : attributeBase (.Name x p1) "append" X.env (eval (.Name x p1) X.env) = eval (.Name x p1) X.env := by rfl)
    (hfew : ((backTo pos (starEach [e] X.env)).all (fun x => !x.1) && (backToKw pos (keywordEach [] X.env)).all (fun x => x.1.isSome) && decide ([e].length + ([] : List Keyword).length + (if ([] : List Keyword).isEmpty then 0 else 1) < 30)) = true := by rfl)
    (hline : (p2.endLine == pos.line) = true := by rfl) (hs : starEach [e] X.env = (false, eval e X.env) :: starEach [] X.env := by exact star_plain rfl) (hplain : (backTo pos (starEach [] X.env)).any (·.1) = false := by exact star_any rfl) {pos' : Pos}
    (hsw : swapsWith (.Call (.Attribute (.Name x p1) "append" p2) [e] [] pos) none pos'.line X.env = pure false := by rfl) :
    PS X (.Expr (.Call (.Attribute (.Name x p1) "append" p2) [e] [] pos) pos') (liftS X.K H₀ (wAppend i we)) :=
  (ps_expr (pe_bm PySem.F.plainAttrs_list PySem.F.slot_list_append PySem.F.type_list_append mt_append hv (pa_cons he pa_nil hs) hbase hfew hline hs hplain) hsw).imp fun D σ H ⟨δ, D', F, s0, rl, h, ok⟩ => by
    unfold wAppend at h
    split at h
    · rename_i ts hi
      obtain ⟨v, ha, a, xs, rfl, hF, hH, hr⟩ := rl.slot i _ hi
      refine ⟨_, ha, .inl ⟨rfl, xs, SqL.of hH⟩, δ, _, F, rl, h, fun v F1 H1 s e p q => ?_⟩
      cases s with
      | t y =>
        obtain ⟨hl, q⟩ := q
        have h1 := e.hh.get hH
        refine ⟨a, xs, v, rfl, rfl, h1, by rw [hr.length]; exact lt_line hl, ?_⟩
        exact ok.nx σ F1 _ _ e.ff ((rl.ext e).mutate hi ha (e.keep a (by rw [hH]; simp) hF) ⟨xs, h1⟩ ((TReps.same e.ff hr).append (TReps.one p))) q
      | _ => exact q.elim
    · exact h.elim
theorem ds_popTo {j : Nat} {y : Str} {p3 : Pos} (hN : X.N.Nodup) (hv : PE X (.Name x p1) (tVar i) := by exact pv _) (hi : X.N[j]? = some y := by rfl) (hx : Loc X.env.scope y := by first | exact Or.inl rfl | exact Or.inr rfl) (hf : X.fn y = true ∨ X.env.scope.names.lookup y = some .local := by first | exact .inl rfl | exact .inr rfl | assumption)
    (hbase : attributeBase (.Name x p1) "pop" X.env (eval (.Name x p1) X.env) = eval (.Name x p1) X.env := by rfl) (hline : (p2.endLine == pos.line) = true := by rfl) {pos' : Pos}
    (hsw : swapsWith (.Call (.Attribute (.Name x p1) "pop" p2) [] [] pos) (some (.Name y p3)) pos'.line X.env = pure false := by rfl) : PS X (.Assign [.Name y p3] (.Call (.Attribute (.Name x p1) "pop" p2) [] [] pos) pos') (liftS X.K H₀ (wPopTo j i)) :=
  (ps_set hN hi hx (pe_bm0 PySem.F.plainAttrs_list PySem.F.slot_list_pop PySem.F.type_list_pop mt_pop hv hbase hline) hsw hf).imp fun D σ H ⟨δ, D', F, s0, rl, h, ok⟩ => by
    unfold wPopTo at h
    split at h
    · rename_i ts hi
      obtain ⟨v, ha, a, xs, rfl, hF, hH, hr⟩ := rl.slot i _ hi
      split at h
      · rename_i t ht
        obtain ⟨y, hy, hp⟩ := hr.get ht
        rw [← hr.length] at hy
        refine ⟨_, ha, .inl ⟨rfl, xs, SqL.of hH⟩, a, xs, y, rfl, rfl, hH, hy, ?_⟩
        exact ok.nx _ F _ _ (Same.refl _) ((rl.mutate hi ha hF ⟨xs, hH⟩ hr.dropLast).put (s := .t t) hp (fun _ z => by cases z)) h
      · exact h.elim
    · exact h.elim
end
/-! ### xs + ys -/
/-- the items of a list whose items may be taken into another one -/
def catK (R : List T → Prop) : S → Prop
  | .t (.lst ts) => R ts
  | .vt (.lst ts) => purs ts = true ∧ R ts
  | .ol ts => R ts
  | _ => False
def fCat : S → S → (S → Prop) → Prop := fun a b R => catK (fun ts => catK (fun us => ts.length + us.length ≤ 100000 ∧ R (.ol (ts ++ us))) b) a
/-- lists that are read, glued -/
def rCatD (K : PySem.W.Frag) : R2 := fun x y H Q => ∃ l b xs zs, x = .ref l ∧ y = .ref b ∧ SqL K H l xs ∧ SqL K H b zs ∧ xs.length + zs.length ≤ sizeLine ∧ ∀ p, H p = none → Q (.ref p) (upd H p (.lst (xs ++ zs)))
theorem op_catD {X : Cx} : OpR X (binaryOp .Add) (rCatD X.K) := by
  intro pins s σ H x y v u Q I rx ry h
  obtain ⟨l, b, xs, zs, rfl, rfl, h1, h2, hz, q⟩ := h
  cases rx
  cases ry
  obtain ⟨its, r, pl, z⟩ := I.list h1
  obtain ⟨its2, r2, pl2, z2⟩ := I.list h2
  obtain ⟨⟨cls, dd, data, sl⟩, ho, hc, n, hd⟩ := pl.isList
  obtain ⟨⟨cls2, dd2, data2, sl2⟩, ho2, hc2, n2, hd2⟩ := pl2.isList
  simp only at hc hd hc2 hd2
  subst hc hd hc2 hd2
  have l1 := r.length
  have l2 := r2.length
  refine PySem.concat_meets ⟨_, ho, rfl⟩ ⟨_, ho2, rfl⟩ PySem.noFill_list_add PySem.seq_list_add PySem.F.slot_list_add PySem.F.entry_list_add (PySem.F.args_list_add_2 _ _) (PyProof.Rows.list_addW l b its.toArray its2.toArray n n2 dd dd2 sl sl2 (by rw [List.size_toArray, List.size_toArray]; omega)) ⟨ho, ho2, ?_⟩
  have ea : its.toArray ++ its2.toArray = (its ++ its2).toArray := by simp
  rw [ea]
  exact ⟨.ref _, _, I.lnew (t' := s.toks) (r.append r2) (by rw [List.length_append]; omega), rfl, q _ I.fresh⟩
theorem catK_shape {K : PySem.W.Frag} {F H : Hp} {R : List T → Prop} {s : S} {v : V} (sb : Same F H) (fu : Full F H) (h : catK R s) (p : RepV K F H s v) : ∃ ts a xs, v = .ref a ∧ SqL K H a xs ∧ TReps K F ts xs ∧ R ts := by
  unfold catK at h
  split at h
  · unfold RepV TRep at p
    obtain ⟨a, xs, h1, h2, h3⟩ := p
    exact ⟨_, a, xs, h1, sb.seq h2, h3, h⟩
  · unfold RepV TRep at p
    obtain ⟨a, xs, h1, h2, h3⟩ := p
    exact ⟨_, a, xs, h1, h2, TReps.full fu h.1 h3, h.2⟩
  · unfold RepV at p
    obtain ⟨a, xs, h1, h2, h3⟩ := p
    exact ⟨_, a, xs, h1, h2, h3, h⟩
  · exact h.elim
theorem op2_cat {K : PySem.W.Frag} : Op2 K (rCatD K) fCat := fun F H s1 s2 v1 v2 R Q sb fu p1 p2 h k => by
  obtain ⟨ts, a, xs, rfl, h1, h2, h⟩ := catK_shape sb fu h p1
  obtain ⟨us, b, ys, rfl, h3, h4, hl, h⟩ := catK_shape sb fu h p2
  refine ⟨a, b, xs, ys, rfl, rfl, h1, h3, by rw [h2.length, h4.length]; exact Nat.le_trans hl (by decide), fun p hp => ?_⟩
  exact k _ F _ (.ol _) (Ext.newL _ sb fu hp) ⟨p, _, rfl, hp, none_of_same sb hp, upd_same, h2.append h4⟩ h
theorem de_cat {X : Cx} {a b : Expr} {wa wb : WE} {pos : Pos} (ha : PE X a (liftE X.K wa)) (hb : PE X b (liftE X.K wb)) : PE X (.BinOp a .Add b pos) (liftE X.K (wOp2 fCat wa wb)) := (pe_op op_catD ha hb).imp (lift_op2 op2_cat)

/-! ### a def keeps its promise -/
def startD (N : List Str) (ss : List S) : DSt := ss.map some ++ List.replicate (N.length - ss.length) none
theorem repVs_get {K : PySem.W.Frag} {F H : Hp} : ∀ {ss : List S} {vs : List V} {i : Nat} {s : S}, RepVs K F H ss vs → ss[i]? = some s → ∃ v, vs[i]? = some v ∧ RepV K F H s v
  | [], _, _, _, _, h => by simp at h
  | s :: ss, _, 0, u, ⟨v, r, e, p, q⟩, h => by subst e; simp at h; subst h; exact ⟨v, by simp, p⟩
  | s :: ss, _, i + 1, u, ⟨v, r, e, p, q⟩, h => by
    subst e
    obtain ⟨y, h1, h2⟩ := repVs_get (i := i) q (by simpa using h)
    exact ⟨y, by simpa using h1, h2⟩
theorem repVs_len {K : PySem.W.Frag} {F H : Hp} : ∀ {ss : List S} {vs : List V}, RepVs K F H ss vs → vs.length = ss.length
  | [], _, e => by cases (show _ = [] from e); rfl
  | s :: ss, _, ⟨v, r, e, p, q⟩ => by subst e; rw [List.length_cons, List.length_cons, repVs_len q]
theorem start_get {N : List Str} {ss : List S} {i : Nat} {s : S} (h : (startD N ss)[i]? = some (some s)) : ss[i]? = some s := by
  unfold startD at h
  by_cases hi : i < ss.length
  · rw [List.getElem?_append_left (by simpa using hi), List.getElem?_map] at h
    cases e : ss[i]? with
    | none => rw [e] at h; cases h
    | some u => rw [e] at h; simpa using h
  · rw [List.getElem?_append_right (by simpa using hi), List.getElem?_replicate] at h
    split at h <;> cases h
theorem rel_start {K : PySem.W.Frag} {H : Hp} {N : List Str} {ss : List S} {vs : List V} (tk : TabK K H) (hn : ss.length ≤ N.length) (ha : ∀ s ∈ ss, argOk s) (r : RepVs K H H ss vs) : Rel K H H (L2.start N vs) (startD N ss) := by
  have hl := repVs_len r
  refine ⟨Same.refl _, fun _ _ h _ => .inl h, ?_, fun i s h => ?_, fun i j a ts us _ h1 => ?_, tk⟩
  · unfold L2.start startD
    rw [List.length_append, List.length_append, List.length_map, List.length_map, List.length_replicate, List.length_replicate]
    omega
  · have h1 := start_get h
    obtain ⟨v, h2, h3⟩ := repVs_get r h1
    refine ⟨v, ?_, ?_⟩
    · unfold L2.start
      have hi : i < vs.length := by rw [List.getElem?_eq_some_iff] at h2; exact h2.1
      rw [List.getElem?_append_left (by simpa using hi), List.getElem?_map, h2]
      rfl
    · have := ha s (List.mem_of_getElem? h1)
      cases s with
      | t x => exact h3
      | vt ts => exact this.elim
      | ol ts => exact this.elim
  · have := ha _ (List.mem_of_getElem? (start_get h1))
    exact this.elim
section
variable {P : Program} {wd : World} {K : PySem.W.Frag} {mg : Str → Option Value} {base : Heap}
theorem def_ok {x qual : Str} {st : Stmt} {f : Addr} {fd : FuncData} {N ps : List Str} {k : Nat} {sp : DSpec} {w : WS} (F : Fun K x qual st f fd) (S : FnScope N ps (defScope st))
    (hlen : ∀ ss R, sp ss R → ss.length = ps.length)
    (hbody : ∀ (cdv : Value) (A : Around) (outer : List Env) (s : Shared) (H : Hp) (E : XK), Room k (A.deeper (PyProof.Rows.envOfC qual (defScope st) s.heap.objs.size f cdv)) → PSs (cxOf CX0 P wd K mg base N qual (defScope st) f cdv A outer s H E).nox (defBody st) (liftS K H w))
    (h : ∀ ss R, sp ss R → w { nx := fun _ => R (.t .non), rt := R } (startD N ss)) : FnOk P wd K mg base CX0 (k + 1) f fd ps (toSp K sp) := by
  have pl : ps.length ≤ N.length := by
    have := congrArg List.length S.pre
    rw [List.length_take] at this
    omega
  refine F.ok S (fun vs H Q E hs => ?_) (fun cdv A outer s H vs Q E hr hs => ?_)
  · obtain ⟨ss, R, _, _, r, hs, _⟩ := hs
    rw [repVs_len r, hlen ss R hs]
  · obtain ⟨ss, R, tk, ha, r, hs, k⟩ := hs
    refine ⟨_, hbody cdv A outer s H E hr, startD N ss, _, H, Same.refl _, rel_start tk (by rw [hlen ss R hs]; exact pl) ha r, h ss R hs, ⟨fun σ' F' H' δ' ff rl q => ?_, fun v H' s' sm tk rc q => k v H' s' sm tk rc q, fun _ _ _ _ _ _ z => z.elim, fun _ _ _ _ _ _ z => z.elim⟩⟩
    exact k .non H' (.t .non) (ff.trans rl.sub) rl.tab rfl q
theorem callee_of {x qual : Str} {st : Stmt} {f : Addr} {fd : FuncData} {ps : List Str} {k : Nat} {sp : DSpec} (F : Fun K x qual st f fd) (hm : mg x = some (.ref f)) (b : Binds K fd ps []) (h : FnOk P wd K mg base CX0 k f fd ps (toSp K sp)) : Callee P wd K mg base k x sp :=
  ⟨f, fd, ps, hm, h, b, F.kp⟩
/-- the law's own promise -/
def spLaw : DSpec := fun ss R => ∃ ns : List Int, ss = [.t (.lst (ns.map .int))] ∧ ns.length ≤ 63 ∧ R (.t (.bl true))
theorem law_sp {K : PySem.W.Frag} {H : Hp} {a : Addr} {ns : List Int} (tk : TabK K H) (hl : ns.length ≤ 63) (hS : SqL K H a (ns.map V.int)) : toSp K spLaw [.ref a] H (fun v _ => v = .bl true) fun _ _ _ => False :=
  ⟨[.t (.lst (ns.map .int))], fun s => s = .t (.bl true), tk, fun s hs => by simp at hs; subst hs; exact True.intro, ⟨.ref a, [], rfl, by show TRep K H (.lst _) _; unfold TRep; exact ⟨a, _, rfl, hS, TReps.ints ns⟩, rfl⟩, ⟨ns, rfl, hl, rfl⟩, fun v H' s _ _ rc e => by subst e; exact rc⟩
end
end DL

set_option Elab.async false
set_option linter.all false
set_option maxRecDepth 100000
/-! A LIST COMPREHENSION, by data -/
namespace DL
open PySem L2

def blkD (own : Nat) (fr : List Nat) (δ : DSt) : DSt := List.replicate own none ++ fr.map fun i => (δ[i]?).join
def itemK (k : T → Prop) : S → Prop
  | .t y => pur y = true ∧ k y
  | .ol ts => purs ts = true ∧ k (.lst ts)
  | .vt _ => False
/-- by a word of one's own about the items to come and the list so far -/
def compI (g : WG) (tc : WT) (te : WE) (ts : List T) (δ : DSt) (R : List T → Prop) : Prop := ∃ I : List T → DSt → List T → Prop, I ts δ [] ∧ (∀ δ acc, I [] δ acc → R acc) ∧ ∀ x r δ acc, I (x :: r) δ acc →
  g x δ fun δ1 => tc δ1 fun ok => if ok = true then te δ1 fun s => itemK (fun y => acc.length < 100000 ∧ I r δ1 (acc ++ [y])) s else I r δ1 acc
def wComp (own : Nat) (fr : List Nat) (wi : WI) (g : WG) (tc : WT) (te : WE) : WE := fun δ R => wi δ fun ts δ' => compI g tc te ts (blkD own fr (freeze δ')) fun acc => R (.ol acc)
def wYes : WT := fun _ R => R true
/-- no name of the block owns a list -/
def NoOl (δ : DSt) : Prop := ∀ (i : Nat) (ts : List T), δ[i]? ≠ some (some (S.ol ts))
def GOk (g : WG) : Prop := ∀ t δ R, NoOl δ → g t δ R → g t δ fun δ' => NoOl δ' ∧ R δ'
def GOks (g : List T → DSt → (DSt → Prop) → Prop) : Prop := ∀ t δ R, NoOl δ → g t δ R → g t δ fun δ' => NoOl δ' ∧ R δ'
theorem NoOl.set {δ : DSt} (h : NoOl δ) (i : Nat) (t : T) : NoOl (δ.set i (some (.t t))) := fun j ts e => by
  by_cases z : i = j
  · subst z
    rw [List.getElem?_set] at e
    simp at e
  · rw [List.getElem?_set_ne z] at e
    exact h j ts e
theorem gok_name {i : Nat} : GOk (wgName i) := fun t δ R h q => ⟨h.set i t, q⟩
theorem goks_nil : GOks wgNil := fun ts δ R h q => by
  cases ts with
  | nil => exact ⟨h, q⟩
  | cons t r => exact q
theorem goks_cons {g : WG} {gr : List T → DSt → (DSt → Prop) → Prop} (hg : GOk g) (hr : GOks gr) (mg : ∀ t δ (R R' : DSt → Prop), g t δ R → (∀ δ', R δ' → R' δ') → g t δ R') : GOks (wgCons g gr) := fun ts δ R h q => by
  cases ts with
  | nil => exact q
  | cons t r => exact mg _ _ _ _ (hg t δ _ h q) fun δ' ⟨h1, q1⟩ => hr r δ' R h1 q1
theorem mono_name {i : Nat} : ∀ t δ (R R' : DSt → Prop), wgName i t δ R → (∀ δ', R δ' → R' δ') → wgName i t δ R' := fun _ _ _ _ q k => k _ q
theorem gok_tup {g : List T → DSt → (DSt → Prop) → Prop} (hg : GOks g) : GOk (wgTup g) := fun t δ R h q => by
  cases t with
  | tup ts => exact hg ts δ R h q
  | _ => exact q
/-- an item of the list that is made: pure, or a list that is new since H -/
def TRepN (K : PySem.W.Frag) (H F : Hp) (t : T) (v : V) : Prop := (pur t = true ∧ TRep K F t v) ∨ ∃ ts a xs, t = .lst ts ∧ purs ts = true ∧ v = .ref a ∧ H a = none ∧ F a = some (.lst xs) ∧ TReps K F ts xs
def TRepsN (K : PySem.W.Frag) (H F : Hp) : List T → List V → Prop
  | [], xs => xs = []
  | t :: ts, xs => ∃ x r, xs = x :: r ∧ TRepN K H F t x ∧ TRepsN K H F ts r
theorem TRepN.same {K : PySem.W.Frag} {H F F' : Hp} (e : Same F F') {t : T} {v : V} (h : TRepN K H F t v) : TRepN K H F' t v := by
  rcases h with ⟨p, h⟩ | ⟨ts, a, xs, h1, h2, h3, h4, h5, h6⟩
  · exact .inl ⟨p, TRep.same e h⟩
  · exact .inr ⟨ts, a, xs, h1, h2, h3, h4, e.get h5, TReps.same e h6⟩
theorem TRepsN.same {K : PySem.W.Frag} {H F F' : Hp} (e : Same F F') : ∀ {ts : List T} {xs : List V}, TRepsN K H F ts xs → TRepsN K H F' ts xs
  | [], _, h => h
  | _ :: _, _, ⟨x, r, h1, h2, h3⟩ => ⟨x, r, h1, h2.same e, TRepsN.same e h3⟩
theorem TRepsN.snoc {K : PySem.W.Frag} {H F : Hp} {t : T} {v : V} (h : TRepN K H F t v) : ∀ {ts : List T} {xs : List V}, TRepsN K H F ts xs → TRepsN K H F (ts ++ [t]) (xs ++ [v])
  | [], _, e => by cases (show _ = [] from e); exact ⟨v, [], rfl, h, rfl⟩
  | _ :: _, _, ⟨x, r, h1, h2, h3⟩ => by subst h1; exact ⟨x, r ++ [v], rfl, h2, TRepsN.snoc h h3⟩
theorem TRepsN.length {K : PySem.W.Frag} {H F : Hp} : ∀ {ts : List T} {xs : List V}, TRepsN K H F ts xs → xs.length = ts.length
  | [], _, e => by cases (show _ = [] from e); rfl
  | _ :: _, _, ⟨x, r, h1, _, h3⟩ => by subst h1; rw [List.length_cons, List.length_cons, TRepsN.length h3]
/-- a list that no name owns is changed -/
theorem Rel.other {K : PySem.W.Frag} {F H : Hp} {σ : St} {δ : DSt} {a : Addr} {ys : List V} (r : Rel K F H σ δ) (hF : F a = none) (no : NoOl δ) (hH : H a = none ∨ ∃ xs, H a = some (.lst xs)) : Rel K F (upd H a (.lst ys)) σ δ := by
  refine ⟨⟨fun b o e n => ?_, fun b ps e => ?_⟩, fun b o e n => ?_, r.len, fun j s hj => ?_, fun i j b ts us _ h1 => absurd h1 (no i ts), hH.elim (fun z => tabK_upd r.tab z rfl) fun ⟨_, z⟩ => tabK_set r.tab z⟩
  · have : b ≠ a := fun z => by rw [z, hF] at e; cases e
    rw [upd_ne this]; exact r.sub.all _ _ e n
  · have : b ≠ a := fun z => by rw [z, hF] at e; cases e
    rw [upd_ne this]; exact r.sub.tbl _ _ e
  · unfold upd at e
    split at e
    · cases e; exact .inr ⟨ys, rfl⟩
    · exact r.full _ _ e n
  · obtain ⟨v, q1, q2⟩ := r.slot j s hj
    refine ⟨v, q1, ?_⟩
    cases s with
    | t x => exact q2
    | vt x => exact q2
    | ol ts => exact absurd hj (no j ts)
theorem frozen_noOl (δ : DSt) : NoOl (freeze δ) := fun i ts e => by
  obtain ⟨u, _, h⟩ := get_freeze e
  exact not_ol_freeze u ts h.symm
theorem blkD_get {own : Nat} {fr : List Nat} {δ : DSt} {i : Nat} {s : S} (h : (blkD own fr δ)[i]? = some (some s)) : own ≤ i ∧ ∃ k, fr[i - own]? = some k ∧ δ[k]? = some (some s) := by
  unfold blkD at h
  by_cases hi : i < own
  · rw [List.getElem?_append_left (by simpa using hi), List.getElem?_replicate, if_pos hi] at h
    cases h
  · have hi : own ≤ i := by omega
    refine ⟨hi, ?_⟩
    rw [List.getElem?_append_right (by simpa using hi), List.length_replicate, List.getElem?_map] at h
    cases ef : fr[i - own]? with
    | none => rw [ef] at h; cases h
    | some k =>
      rw [ef] at h
      refine ⟨k, rfl, ?_⟩
      have ev : (δ[k]?).join = some s := by simpa using h
      cases q : δ[k]? with
      | none => rw [q] at ev; cases ev
      | some o => rw [q] at ev; simpa using ev
theorem blkD_noOl {own : Nat} {fr : List Nat} {δ : DSt} (h : NoOl δ) : NoOl (blkD own fr δ) := fun i ts e => by
  obtain ⟨_, k, _, h2⟩ := blkD_get e
  exact h k ts h2
theorem rel_blk {K : PySem.W.Frag} {H : Hp} {σ : St} {δ : DSt} {own : Nat} {fr : List Nat} {D : Addr} (r : Rel K H H σ δ) (no : NoOl δ) (hD : H D = none) : Rel K H (upd H D (.lst [])) (blk own fr σ) (blkD own fr δ) := by
  have : Rel K H H (blk own fr σ) (blkD own fr δ) := by
    refine ⟨r.sub, r.full, ?_, fun i s h => ?_, fun i j a ts us _ h1 => absurd h1 (blkD_noOl no i ts), r.tab⟩
    · unfold blk blkD
      rw [List.length_append, List.length_append, List.length_replicate, List.length_replicate, List.length_map, List.length_map]
    · obtain ⟨hi, k, h1, h2⟩ := blkD_get h
      obtain ⟨v, q1, q2⟩ := r.slot k s h2
      refine ⟨v, ?_, q2⟩
      unfold blk
      rw [List.getElem?_append_right (by simpa using hi), List.length_replicate, List.getElem?_map, h1]
      simp [q1]
  exact this.other hD (blkD_noOl no) (.inl hD)
/-- the scope of a comprehension's block, looked at -/
def blkLook (N : List Str) (no : Nat) (fr : List Nat) (NX : List Str) (sc around : Scope) : Bool :=
  decide (sc.kind = .function) && sc.names.all (fun y => decide (y.2 ≠ .cell)) && decide N.Nodup && decide (N.length = no + fr.length) &&
  sc.names.all (fun y => decide (y.2 = .local → sc.names.lookup y.1 = some .local)) && sc.names.all (fun y => decide (y.2 = .free → around.names.lookup y.1 = some .cell)) &&
  (List.range no).all (fun i => match N[i]? with | some x => decide (sc.names.lookup x = some .local) | none => true) &&
  (List.range fr.length).all (fun j => match fr[j]?, N[no + j]? with | some i, some x => decide (NX[i]? = some x ∧ sc.names.lookup x = some .free) | _, _ => true)
theorem blk_of {N : List Str} {no : Nat} {fr : List Nat} {NX : List Str} {sc around : Scope} (h : blkLook N no fr NX sc around = true) : BlkScope N no fr NX sc around := by
  unfold blkLook at h
  simp only [Bool.and_eq_true, decide_eq_true_eq, List.all_eq_true, List.mem_range] at h
  obtain ⟨⟨⟨⟨⟨⟨⟨h1, h2⟩, h3⟩, h4⟩, h5⟩, h6⟩, h7⟩, h8⟩ := h
  refine ⟨h1, h2, h3, h4, h5, h6, fun i x e hi => ?_, fun j i x e1 e2 => ?_⟩
  · have := h7 i hi
    rw [e] at this
    simpa using this
  · have hj : j < fr.length := (List.getElem?_eq_some_iff.mp e1).1
    have := h8 j hj
    rw [e1, e2] at this
    simpa using this
section
variable {X : Cx} {N : List Str} {own : Nat} {fr : List Nat} {scope : Scope} {elt tg iter : Expr} {ifs : List Expr} {pos : Pos} {wi : WI} {g : WG} {tc : WT} {te : WE}
theorem dts_nil {Y : Cx} : PTs Y [] (liftT Y.K wYes) := fun pins s σ H Q I ⟨δ, R, F, rl, h, k⟩ => pts_nil pins s σ H Q I (k F H true rl.refl h)
theorem dts_one {Y : Cx} {c : Expr} {t : WT} (h : PT Y c (liftT Y.K t)) : PTs Y [c] (liftT Y.K t) := pts_one h
theorem lift_comp (go : GOk g) : ∀ σ H Q, liftE X.K (wComp own fr wi g tc te) σ H Q → tComp own fr (liftI X.K wi) (liftG X.K g) (liftT X.K tc) (liftE X.K te) σ H Q :=
  fun σ H Q ⟨δ, R, F, rl, h, k⟩ => ⟨δ, _, F, rl, h, fun J F0 F1 H1 ts δ1 e0 f01 rl1 it q D hD => by
    have sH : Same H H1 := e0.hh
    obtain ⟨W, w0, wend, wstep⟩ := q
    refine ⟨fun i m σ' H' => m = ts.length - i ∧ i ≤ ts.length ∧ ∃ δ' F' acc xs, Same H1 F' ∧ F' D = none ∧ H' D = some (.lst xs) ∧ Rel X.K F' H' σ' δ' ∧ NoOl δ' ∧ TRepsN X.K H F' acc xs ∧ W (ts.drop i) δ' acc,
      ⟨ts.length, by simp, Nat.zero_le _, blkD own fr (freeze δ1), H1, [], [], Same.refl _, hD, upd_same, rel_blk rl1.freeze (frozen_noOl _) hD, blkD_noOl (frozen_noOl _), rfl, by simpa using w0⟩, ?_⟩
    rintro i m σ' H' ⟨rfl, hi, δ', F', acc, xs, s1, fD, hH, rl', no, ra, h⟩
    obtain ⟨hgo, hstop⟩ := it F' H' i (rl1.sub.trans s1) rl'.sub rl'.full
    cases hd : ts.drop i with
    | nil =>
      rw [hd] at h
      have : ts.length ≤ i := by simpa using hd
      refine .inl ⟨hstop this, ?_⟩
      have sm : Same H H' := (sH.trans s1).trans rl'.sub
      have ex := grow_ext (x := some D) rl.sub rl.full sm (fun b z => by cases z; exact ⟨xs, hH⟩) (fun _ => rl'.tab.1)
      have hDn : H D = none := none_of_same sH hD
      refine k _ _ H' (.ol acc) ex ⟨D, xs, rfl, hDn, ?_, hH, ?_⟩ (wend δ' acc h)
      · unfold grow
        rw [if_pos (by rw [hDn]; rfl), if_pos rfl]
      · have all : ∀ {acc : List T} {xs : List V}, TRepsN X.K H F' acc xs → TReps X.K (grow F H H' (some D)) acc xs := by
          intro acc
          induction acc with
          | nil => intro xs z; exact z
          | cons t r ih =>
            rintro xs ⟨x, r', z1, z2, z3⟩
            refine ⟨x, r', z1, ?_, ih z3⟩
            rcases z2 with ⟨p, z⟩ | ⟨us, a, ys, rfl, p, rfl, y1, y2, y3⟩
            · exact TRep.full ex.full p (TRep.same rl'.sub z)
            · unfold TRep
              refine ⟨a, ys, rfl, SqL.of ?_, TReps.full ex.full p (TReps.same rl'.sub y3)⟩
              have : a ≠ D := fun z => by rw [z, fD] at y2; cases y2
              unfold grow
              rw [if_pos (by rw [y1]; rfl), if_neg (fun z => this (Option.some.inj z).symm)]
              exact rl'.sub.get y2
        exact all ra
    | cons x r =>
      rw [hd] at h
      obtain ⟨h1, h2⟩ := drop_get hd
      obtain ⟨goes, yld⟩ := hgo x h1
      have hlt : i < ts.length := by
        have := congrArg List.length hd
        simp at this
        omega
      refine .inr ⟨goes, fun v H2 y => ?_⟩
      obtain ⟨F3, e3, p3⟩ := yld v H2 y
      have h := wstep x r δ' acc h
      refine ⟨x, δ', _, F3, p3, rl'.ext e3, go x δ' _ no h, fun σ2 δ2 rl2 ⟨no2, h⟩ => ?_⟩
      have D3 : F3 D = none := e3.keep D (by rw [hH]; simp) fD
      have H3 := e3.hh.get hH
      refine ⟨δ2, _, F3, rl2, h, fun F4 H4 ok e4 h => ?_⟩
      have D4 : F4 D = none := e4.keep D (by rw [H3]; simp) D3
      have H4D := e4.hh.get H3
      have f4 : Same F' F4 := e3.ff.trans e4.ff
      cases ok with
      | false =>
        refine ⟨ts.length - (i + 1), by omega, rfl, hlt, δ2, F4, acc, xs, s1.trans f4, D4, H4D, rl2.ext e4, no2, ra.same f4, ?_⟩
        rw [h2]; simpa using h
      | true =>
        simp only [if_true] at h
        refine ⟨δ2, _, F4, rl2.ext e4, h, fun w F5 H5 s e5 p5 h => ?_⟩
        have H5D := e5.hh.get H4D
        refine ⟨xs, H5D, ?_, ts.length - (i + 1), by omega, rfl, hlt, ?_⟩
        · rw [ra.length]
          cases s with
          | t y => exact lt_line h.2.1
          | ol us => exact lt_line h.2.1
          | vt y => exact h.elim
        · cases s with
          | t y =>
            have D5 : F5 D = none := e5.keep D (by rw [H4D]; simp) D4
            refine ⟨δ2, F5, acc ++ [y], xs ++ [w], (s1.trans f4).trans e5.ff, D5, upd_same, ((rl2.ext e4).ext e5).other D5 no2 (.inr ⟨_, H5D⟩), no2, (ra.same (f4.trans e5.ff)).snoc (.inl ⟨h.1, p5⟩), ?_⟩
            rw [h2]; exact h.2.2
          | ol us =>
            obtain ⟨ez, sz⟩ := e5.frozen (rl2.ext e4).sub
            have D5 : grow F5 H4 H5 none D = none := ez.keep D (by rw [H4D]; simp) D4
            obtain ⟨a, ys, rfl, q0, q1, q2, q3⟩ := p5
            refine ⟨δ2, grow F5 H4 H5 none, acc ++ [.lst us], xs ++ [.ref a], (s1.trans f4).trans ez.ff, D5, upd_same, ((rl2.ext e4).ext ez).other D5 no2 (.inr ⟨_, H5D⟩), no2, (ra.same (f4.trans ez.ff)).snoc (.inr ⟨us, a, ys, rfl, h.1, rfl, ?_, ?_, TReps.same sz q3⟩), ?_⟩
            · have s4 : Same H H4 := ((sH.trans s1).trans f4).trans e4.sub
              exact none_of_same s4 q0
            · unfold grow
              rw [if_pos (by rw [q0]; rfl), if_neg (by simp)]
              exact q2
            · rw [h2]; exact h.2.2
          | vt y => exact h.elim⟩
theorem de_comp {NX : List Str} {ar : Scope} (look : blkLook N own fr NX scope ar = true) (hi : PI X tg iter (liftI X.K wi)) (go : GOk g)
    (hg : ∀ cl s H fp, PG (cxBlk X N scope cl s H fp) tg (liftG X.K g)) (ht : ∀ cl s H fp, PTs (cxBlk X N scope cl s H fp) ifs (liftT X.K tc)) (he : ∀ cl s H fp, PE (cxBlk X N scope cl s H fp) elt (liftE X.K te)) (eN : X.N = NX := by rfl) (eS : X.env.scope = ar := by rfl) (hc : X.calm = true := by rfl)
    (hs : ∀ x, foldedSetIterable iter X.env x = pure x := by intro _; rfl) : PE X (.ListComp elt [⟨tg, iter, ifs, 0⟩] scope pos) (liftE X.K (wComp own fr wi g tc te)) :=
  (pe_comp (by subst eN; subst eS; exact blk_of look) hc hi hg ht he hs).imp (lift_comp go)
theorem ds_setComp {H₀ : Hp} {NX : List Str} {ar : Scope} {i : Nat} {x : Str} {pos1 pos' : Pos} (hN : X.N.Nodup) (look : blkLook N own fr NX scope ar = true) (hi : PI X tg iter (liftI X.K wi)) (go : GOk g)
    (hg : ∀ cl s H fp, PG (cxBlk X N scope cl s H fp) tg (liftG X.K g)) (ht : ∀ cl s H fp, PTs (cxBlk X N scope cl s H fp) ifs (liftT X.K tc)) (he : ∀ cl s H fp, PE (cxBlk X N scope cl s H fp) elt (liftE X.K te)) (eN : X.N = NX := by rfl) (eS : X.env.scope = ar := by rfl)
    (hi' : X.N[i]? = some x := by rfl) (hx : Loc X.env.scope x := by first | exact Or.inl rfl | exact Or.inr rfl) (hw : swapsWith (.ListComp elt [⟨tg, iter, ifs, 0⟩] scope pos) (some (.Name x pos')) pos1.line X.env = pure true := by rfl) (hf : X.fn x = true ∨ X.env.scope.names.lookup x = some .local := by first | exact .inl rfl | exact .inr rfl | assumption) (hc : X.calm = true := by rfl)
    (hs : ∀ x, foldedSetIterable iter X.env x = pure x := by intro _; rfl) : PS X (.Assign [.Name x pos'] (.ListComp elt [⟨tg, iter, ifs, 0⟩] scope pos) pos1) (liftS X.K H₀ (wSet i (wComp own fr wi g tc te))) :=
  (ps_comp (i := i) hN hi' hx (by subst eN; subst eS; exact blk_of look) hc hi hg ht he hs hw hf).imp fun D σ H ⟨δ, D', F, s0, rl, h, ok⟩ => lift_comp go σ H _ ⟨δ, _, F, rl, h, fun v F1 H1 s e p q => by
    obtain ⟨F2, ff, r2⟩ := rl.setS i e p
    exact ok.nx _ F2 H1 _ ff r2 q⟩
end
end DL

set_option Elab.async false
set_option linter.all false
set_option maxRecDepth 100000
/-! how a reading is run, step by step: each step is an equation that fires only where the value at hand is known -/
namespace DL
open L2
def look (i : Nat) (δ : DSt) (k : S → Prop) : Prop := match δ[i]? with
  | some (some s) => k s
  | _ => False
theorem look_0 (s : S) (r : DSt) (k : S → Prop) : look 0 (some s :: r) k = k s := rfl
theorem look_s (i : Nat) (x : Option S) (r : DSt) (k : S → Prop) : look (i + 1) (x :: r) k = look i r k := rfl
def lookO (i : Nat) (δ : DSt) (k : List T → Prop) : Prop := match δ[i]? with
  | some (some (.ol ts)) => k ts
  | _ => False
theorem lookO_0 (ts : List T) (r : DSt) (k : List T → Prop) : lookO 0 (some (.ol ts) :: r) k = k ts := rfl
theorem lookO_s (i : Nat) (x : Option S) (r : DSt) (k : List T → Prop) : lookO (i + 1) (x :: r) k = lookO i r k := rfl
section
variable (D : DEnds) (δ : DSt) (R : S → Prop) (w u : WS) (we wa wb wv : WE) (ws : WA) (i j : Nat) (x y : T) (s : S) (t c : WT)
theorem a_seq : wSeq w u D δ = w { D with nx := u D } δ := rfl
theorem a_set : wSet i we D δ = we δ fun s => D.nx (setS i s δ) := rfl
theorem a_if : wIf c w u D δ = c δ fun k => if k = true then w D δ else u D δ := rfl
theorem a_ret : wRet we D δ = we δ fun s => D.rt (out s) := rfl
theorem a_retV : wRetV i D δ = look i δ D.rt := rfl
theorem a_retN : wRetN D δ = D.rt (.t .non) := rfl
theorem a_next : wNext D δ = D.nx δ := rfl
theorem a_break : wBreak D δ = D.bk δ := rfl
theorem a_cont : wCont D δ = D.ct δ := rfl
theorem a_drop : wDrop we D δ = we δ fun _ => D.nx δ := rfl
theorem a_var : wVar i δ R = look i δ fun s => R (seen s) := rfl
theorem a_c : wC x δ R = R (.t x) := rfl
theorem a_op2 (f : S → S → (S → Prop) → Prop) : wOp2 f wa wb δ R = wa δ fun x => wb δ fun y => f x y R := rfl
theorem a_un (f : S → (S → Prop) → Prop) : wUn f wa δ R = wa δ fun x => f x R := rfl
theorem a_I (C : Int → Int → Prop) (g : Int → Int → T) (i j : Int) : fI C g (.t (.int i)) (.t (.int j)) R = (C i j ∧ R (.t (g i j))) := rfl
theorem a_I0 (g : Int → Int → T) (i j : Int) : fI0 g (.t (.int i)) (.t (.int j)) R = R (.t (g i j)) := rfl
theorem a_neg (i : Int) : fNeg (.t (.int i)) R = R (.t (.int (-i))) := rfl
theorem a_ixT (ts : List T) (i : Int) : fIx (.t (.tup ts)) (.t (.int i)) R = atT ts i R := rfl
theorem a_ixF (ts : List T) (i : Int) : fIx (.t (.lst ts)) (.t (.int i)) R = atT ts i R := rfl
theorem a_ixW (ts : List T) (i : Int) : fIx (.vt (.tup ts)) (.t (.int i)) R = atV ts i R := rfl
theorem a_ixV (ts : List T) (i : Int) : fIx (.vt (.lst ts)) (.t (.int i)) R = atV ts i R := rfl
theorem a_ixO (ts : List T) (i : Int) : fIx (.ol ts) (.t (.int i)) R = atT ts i R := rfl
theorem atT_of {ts : List T} {i : Int} {x : T} {R : S → Prop} (h : atI ts i = some x) : atT ts i R = R (.t x) := by unfold atT; rw [h]
theorem atI_of {α : Type} {ts : List α} {n : Nat} {x : α} (h : ts[n]? = some x) : atI ts (n : Int) = some x := atI_nat h
theorem atT_0 (r : List T) : atT (x :: r) 0 R = R (.t x) := atT_of (atI_of (n := 0) rfl)
theorem atT_1 (r : List T) : atT (x :: y :: r) 1 R = R (.t y) := atT_of (atI_of (n := 1) rfl)
theorem atT_2 (z : T) (r : List T) : atT (x :: y :: z :: r) 2 R = R (.t z) := atT_of (atI_of (n := 2) rfl)
theorem atT_3 (z z' : T) (r : List T) : atT (x :: y :: z :: z' :: r) 3 R = R (.t z') := atT_of (atI_of (n := 3) rfl)
theorem atV_of {ts : List T} {i : Int} {x : T} {R : S → Prop} (h : atI ts i = some x) : atV ts i R = R (norm x) := by unfold atV; rw [h]
theorem atV_0 (r : List T) : atV (x :: r) 0 R = R (norm x) := atV_of (atI_of (n := 0) rfl)
theorem atV_1 (r : List T) : atV (x :: y :: r) 1 R = R (norm y) := atV_of (atI_of (n := 1) rfl)
theorem atV_2 (z : T) (r : List T) : atV (x :: y :: z :: r) 2 R = R (norm z) := atV_of (atI_of (n := 2) rfl)
theorem atV_3 (z z' : T) (r : List T) : atV (x :: y :: z :: z' :: r) 3 R = R (norm z') := atV_of (atI_of (n := 3) rfl)
theorem norm_non : norm .non = .t .non := rfl
theorem norm_bl (b : Bool) : norm (.bl b) = .t (.bl b) := rfl
theorem norm_int (i : Int) : norm (.int i) = .t (.int i) := rfl
theorem norm_str (i : PySem.Str) : norm (.str i) = .t (.str i) := rfl
theorem norm_exc (i : PySem.Str) : norm (.exc i) = .t (.exc i) := rfl
theorem norm_lst (ts : List T) : norm (.lst ts) = .vt (.lst ts) := rfl
theorem norm_pt (a b : Int) : norm (.tup [.int a, .int b]) = .t (.tup [.int a, .int b]) := rfl
theorem norm_pt3 (a b c : Int) : norm (.tup [.int a, .int b, .int c]) = .t (.tup [.int a, .int b, .int c]) := rfl
theorem norm_sp (a b c d : Int) : norm (.tup [.tup [.int a, .int b], .tup [.int c, .int d]]) = .t (.tup [.tup [.int a, .int b], .tup [.int c, .int d]]) := rfl
theorem e_setT : setS i (.t x) δ = δ.set i (some (.t x)) := rfl
theorem e_setO (ts : List T) : setS i (.ol ts) δ = δ.set i (some (.ol ts)) := rfl
theorem e_setV : setS i (.vt x) δ = (freeze δ).set i (some (.t x)) := rfl
theorem e_seenT : seen (.t x) = .t x := rfl
theorem e_seenV : seen (.vt x) = .vt x := rfl
theorem e_seenO (ts : List T) : seen (.ol ts) = .vt (.lst ts) := rfl
theorem e_outT : out (.t x) = .t x := rfl
theorem e_outV : out (.vt x) = .t x := rfl
theorem e_outO (ts : List T) : out (.ol ts) = .ol ts := rfl
theorem e_argT : asArg (.t x) = .t x := rfl
theorem e_argV : asArg (.vt x) = .t x := rfl
theorem e_argO (ts : List T) : asArg (.ol ts) = .t (.lst ts) := rfl
theorem e_gotT : got (.t x) = norm x := rfl
theorem e_gotO (ts : List T) (h : purs ts = true) : got (.ol ts) = .ol ts := if_pos h
theorem e_frzT : freezeS (.t x) = .t x := rfl
theorem e_frzO (ts : List T) : freezeS (.ol ts) = .t (.lst ts) := rfl
theorem e_frz : freeze [] = [] := rfl
theorem e_frzN (r : DSt) : freeze (none :: r) = none :: freeze r := rfl
theorem e_frzS (s : S) (r : DSt) : freeze (some s :: r) = some (freezeS s) :: freeze r := rfl
theorem e_trT : tr (.t x) = x := rfl
theorem e_trV : tr (.vt x) = x := rfl
theorem e_trO (ts : List T) : tr (.ol ts) = .lst ts := rfl
def asB (R : Bool → Prop) : S → Prop
  | .t (.bl k) => R k
  | _ => False
theorem a_B (R : Bool → Prop) : wB we δ R = we δ (asB R) := rfl
theorem asB_bl (R : Bool → Prop) (k : Bool) : asB R (.t (.bl k)) = R k := rfl
theorem a_andT (R : Bool → Prop) : wAndT t c δ R = t δ fun k => if k = true then c δ R else R false := rfl
theorem a_orT (R : Bool → Prop) : wOrT t c δ R = t δ fun k => if k = true then R true else c δ R := rfl
theorem a_notT (R : Bool → Prop) : wNotT t δ R = t δ fun k => R (!k) := rfl
def andK (B : Prop) (R : S → Prop) : S → Prop
  | .t (.bl k) => if k = true then B else R (.t (.bl false))
  | _ => False
def orK (B : Prop) (R : S → Prop) : S → Prop
  | .t (.bl k) => if k = true then R (.t (.bl true)) else B
  | _ => False
def notK (R : S → Prop) : S → Prop
  | .t (.bl k) => R (.t (.bl (!k)))
  | _ => False
theorem a_andV : wAndV wa wb δ R = wa δ (andK (wb δ R) R) := rfl
theorem a_orV : wOrV wa wb δ R = wa δ (orK (wb δ R) R) := rfl
theorem a_notV : wNotV wa δ R = wa δ (notK R) := rfl
theorem andK_bl (B : Prop) (k : Bool) : andK B R (.t (.bl k)) = if k = true then B else R (.t (.bl false)) := rfl
theorem orK_bl (B : Prop) (k : Bool) : orK B R (.t (.bl k)) = if k = true then R (.t (.bl true)) else B := rfl
theorem notK_bl (k : Bool) : notK R (.t (.bl k)) = R (.t (.bl (!k))) := rfl
theorem a_ifE : wIfE c wa wb δ R = c δ fun k => if k = true then wa δ R else wb δ R := rfl
theorem a_cb (f : List S → (S → Prop) → Prop) : wCB f ws δ R = ws δ fun ss => f ss R := rfl
theorem a_nil (R : List S → Prop) : wNil δ R = R [] := rfl
theorem a_cons (R : List S → Prop) : wCons wa ws δ R = wa δ fun x => ws δ fun xs => R (x :: xs) := rfl
def tupK (R : S → Prop) (ss : List S) : Prop := match trees ss with
  | some ts => if ts.length ≤ 1000 then R (.t (.tup ts)) else False
  | none => False
def lstK (R : S → Prop) (ss : List S) : Prop := match trees ss with
  | some ts => if ts.length ≤ 1000 then R (.ol ts) else False
  | none => False
theorem a_tup : wTup ws δ R = ws δ (tupK R) := rfl
theorem a_lst : wLst ws δ R = ws δ (lstK R) := rfl
theorem tup1 : tupK R [.t x] = R (.t (.tup [x])) := rfl
theorem tup2 : tupK R [.t x, .t y] = R (.t (.tup [x, y])) := rfl
theorem tup3 (z : T) : tupK R [.t x, .t y, .t z] = R (.t (.tup [x, y, z])) := rfl
theorem lst0 : lstK R [] = R (.ol []) := rfl
theorem lst1 : lstK R [.t x] = R (.ol [x]) := rfl
theorem lst2 : lstK R [.t x, .t y] = R (.ol [x, y]) := rfl
theorem lst3 (z : T) : lstK R [.t x, .t y, .t z] = R (.ol [x, y, z]) := rfl
theorem lst4 (z z' : T) : lstK R [.t x, .t y, .t z, .t z'] = R (.ol [x, y, z, z']) := rfl
theorem tup4 (z z' : T) : tupK R [.t x, .t y, .t z, .t z'] = R (.t (.tup [x, y, z, z'])) := rfl
theorem a_call (sp : DSpec) : wCall sp ws δ R = ws δ fun ss => sp (ss.map asArg) fun s => R (got s) := rfl
theorem a_lenT (ts : List T) : fLen [.t (.tup ts)] R = R (.t (.int ts.length)) := rfl
theorem a_lenF (ts : List T) : fLen [.t (.lst ts)] R = R (.t (.int ts.length)) := rfl
theorem a_lenW (ts : List T) : fLen [.vt (.tup ts)] R = R (.t (.int ts.length)) := rfl
theorem a_lenV (ts : List T) : fLen [.vt (.lst ts)] R = R (.t (.int ts.length)) := rfl
theorem a_lenO (ts : List T) : fLen [.ol ts] R = R (.t (.int ts.length)) := rfl
theorem a_abs (i : Int) : fAbs [.t (.int i)] R = R (.t (.int (if i < 0 then -i else i))) := rfl
theorem a_max2 (i j : Int) : fMax2 [.t (.int i), .t (.int j)] R = R (.t (.int (if j > i then j else i))) := rfl
theorem a_min2 (i j : Int) : fMin2 [.t (.int i), .t (.int j)] R = R (.t (.int (if j < i then j else i))) := rfl
theorem a_intI (i : Int) : fInt [.t (.int i)] R = R (.t (.int i)) := rfl
theorem a_intB (b : Bool) : fInt [.t (.bl b)] R = R (.t (.int (if b then 1 else 0))) := rfl
theorem a_listF (ts : List T) : fListOf [.t (.lst ts)] R = R (.ol ts) := rfl
theorem a_listV (ts : List T) : fListOf [.vt (.lst ts)] R = (purs ts = true ∧ R (.ol ts)) := rfl
theorem a_listO (ts : List T) : fListOf [.ol ts] R = R (.ol ts) := rfl
theorem eq_ii (i j : Int) : fEq (.t (.int i)) (.t (.int j)) R = R (.t (.bl (decide (i = j)))) := by
  have e : (i == j) = decide (i = j) := by cases h : (i == j) <;> simp_all
  show (dep (.int i) ≤ 20 ∧ dep (.int j) ≤ 20 ∧ R (.t (.bl (i == j)))) = _
  rw [e]
  exact propext ⟨fun h => h.2.2, fun h => ⟨Nat.zero_le _, Nat.zero_le _, h⟩⟩
theorem ne_ii (i j : Int) : fNe (.t (.int i)) (.t (.int j)) R = R (.t (.bl (!decide (i = j)))) := by
  have e : (i == j) = decide (i = j) := by cases h : (i == j) <;> simp_all
  show (dep (.int i) ≤ 20 ∧ dep (.int j) ≤ 20 ∧ R (.t (.bl (!(i == j))))) = _
  rw [e]
  exact propext ⟨fun h => h.2.2, fun h => ⟨Nat.zero_le _, Nat.zero_le _, h⟩⟩
theorem a_is (ty : Ty) : wIs ty we δ R = we δ fun s => tyS s ≠ .exc ∧ R (.t (.bl (isTy (tyS s) ty))) := rfl
theorem ty_non : tyS (.t .non) = .non := rfl
theorem ty_bl (b : Bool) : tyS (.t (.bl b)) = .bool := rfl
theorem ty_int (i : Int) : tyS (.t (.int i)) = .int := rfl
theorem ty_str (i : PySem.Str) : tyS (.t (.str i)) = .str := rfl
theorem ty_tup (ts : List T) : tyS (.t (.tup ts)) = .tup := rfl
theorem ty_tupV (ts : List T) : tyS (.vt (.tup ts)) = .tup := rfl
theorem ty_fl (ts : List T) : tyS (.t (.lst ts)) = .lst := rfl
theorem ty_vw (ts : List T) : tyS (.vt (.lst ts)) = .lst := rfl
theorem ty_ol (ts : List T) : tyS (.ol ts) = .lst := rfl
theorem a_isN : wIsN wa δ R = wa δ fun s => R (.t (.bl (isN (tr s)))) := rfl
theorem a_notN : wNotN wa δ R = wa δ fun s => R (.t (.bl (!isN (tr s)))) := rfl
theorem ne_ty1 : (Ty.non ≠ Ty.exc) = True := by simp
theorem ne_ty2 : (Ty.bool ≠ Ty.exc) = True := by simp
theorem ne_ty3 : (Ty.int ≠ Ty.exc) = True := by simp
theorem ne_ty4 : (Ty.str ≠ Ty.exc) = True := by simp
theorem ne_ty5 : (Ty.tup ≠ Ty.exc) = True := by simp
theorem ne_ty6 : (Ty.lst ≠ Ty.exc) = True := by simp
theorem a_for (wi : WI) (g : WG) : wFor wi g w D δ = wi δ fun ts δ' => forI g w ts D δ' := rfl
theorem a_wiList (W : List T → DSt → Prop) : wiList we δ W = we δ (listK δ W) := rfl
theorem listK_F (W : List T → DSt → Prop) (ts : List T) : listK δ W (.t (.lst ts)) = W ts δ := rfl
theorem listK_V (W : List T → DSt → Prop) (ts : List T) : listK δ W (.vt (.lst ts)) = W ts (freeze δ) := rfl
theorem listK_O (W : List T → DSt → Prop) (ts : List T) : listK δ W (.ol ts) = W ts δ := rfl
theorem a_wiTup (W : List T → DSt → Prop) : wiTup we δ W = we δ (tpK δ W) := rfl
theorem tpK_T (W : List T → DSt → Prop) (ts : List T) : tpK δ W (.t (.tup ts)) = W ts δ := rfl
theorem tpK_V (W : List T → DSt → Prop) (ts : List T) : tpK δ W (.vt (.tup ts)) = W ts (freeze δ) := rfl
def rngK (δ : DSt) (W : List T → DSt → Prop) : List S → Prop
  | [.t (.int j)] => RngOk j ∧ W (rngT 0 j.toNat) δ
  | _ => False
theorem a_wiRng1 (W : List T → DSt → Prop) : wiRng1 ws δ W = ws δ (rngK δ W) := rfl
theorem rngK_1 (W : List T → DSt → Prop) (j : Int) : rngK δ W [.t (.int j)] = (RngOk j ∧ W (rngT 0 j.toNat) δ) := rfl
def rng2K (δ : DSt) (W : List T → DSt → Prop) : List S → Prop
  | [.t (.int i), .t (.int j)] => RngOk i ∧ RngOk j ∧ W (rngT i (j - i).toNat) δ
  | _ => False
theorem a_wiRng2 (W : List T → DSt → Prop) : wiRng2 ws δ W = ws δ (rng2K δ W) := rfl
theorem rngK_2 (W : List T → DSt → Prop) (i j : Int) : rng2K δ W [.t (.int i), .t (.int j)] = (RngOk i ∧ RngOk j ∧ W (rngT i (j - i).toNat) δ) := rfl
theorem a_gName (R : DSt → Prop) : wgName i x δ R = R (δ.set i (some (.t x))) := rfl
theorem a_gTup (g : List T → DSt → (DSt → Prop) → Prop) (R : DSt → Prop) (ts : List T) : wgTup g (.tup ts) δ R = g ts δ R := rfl
theorem a_gNil (R : DSt → Prop) : wgNil [] δ R = R δ := rfl
theorem a_gCons (g : WG) (gr : List T → DSt → (DSt → Prop) → Prop) (R : DSt → Prop) (r : List T) : wgCons g gr (x :: r) δ R = g x δ fun δ1 => gr r δ1 R := rfl
theorem a_unp (g : WG) : wUnp we g D δ = we δ (unpK g δ D.nx) := rfl
theorem unpK_t (g : WG) (N : DSt → Prop) : unpK g δ N (.t x) = g x δ N := rfl
theorem unpK_v (g : WG) (N : DSt → Prop) : unpK g δ N (.vt x) = g x (freeze δ) N := rfl
def parK (i j : Nat) (δ : DSt) (N : DSt → Prop) : List S → Prop
  | [.t x, .t y] => N ((δ.set i (some (.t x))).set j (some (.t y)))
  | _ => False
theorem a_par : wPar i j ws D δ = ws δ (parK i j δ D.nx) := rfl
theorem parK_2 (N : DSt → Prop) : parK i j δ N [.t x, .t y] = N ((δ.set i (some (.t x))).set j (some (.t y))) := rfl
theorem a_slice (wl wh : DSt → (Option Int → Prop) → Prop) : wSlice we wl wh δ R = we δ fun s => wl δ fun lo => wh δ fun hi => slcK lo hi R s := rfl
theorem slcK_F (lo hi : Option Int) (ts : List T) : slcK lo hi R (.t (.lst ts)) = R (.ol (cutT ts lo hi)) := rfl
theorem slcK_V (lo hi : Option Int) (ts : List T) : slcK lo hi R (.vt (.lst ts)) = (purs ts = true ∧ R (.ol (cutT ts lo hi))) := rfl
theorem slcK_O (lo hi : Option Int) (ts : List T) : slcK lo hi R (.ol ts) = R (.ol (cutT ts lo hi)) := rfl
theorem a_retZ : wRetZ we D δ = we (freeze δ) fun s => D.rt (out s) := rfl
theorem a_cat (a b : S) : fCat a b R = catK (fun ts => catK (fun us => ts.length + us.length ≤ 100000 ∧ R (.ol (ts ++ us))) b) a := rfl
theorem catK_F (R : List T → Prop) (ts : List T) : catK R (.t (.lst ts)) = R ts := rfl
theorem catK_V (R : List T → Prop) (ts : List T) : catK R (.vt (.lst ts)) = (purs ts = true ∧ R ts) := rfl
theorem catK_O (R : List T → Prop) (ts : List T) : catK R (.ol ts) = R ts := rfl
theorem a_comp (own : Nat) (fr : List Nat) (wi : WI) (g : WG) (te : WE) : wComp own fr wi g t te δ R = wi δ fun ts δ' => compI g t te ts (blkD own fr (freeze δ')) fun acc => R (.ol acc) := rfl
theorem a_yes (R : Bool → Prop) : wYes δ R = R true := rfl
theorem itemK_t (k : T → Prop) : itemK k (.t x) = (pur x = true ∧ k x) := rfl
theorem itemK_o (k : T → Prop) (ts : List T) : itemK k (.ol ts) = (purs ts = true ∧ k (.lst ts)) := rfl
theorem pur_non : pur .non = true := rfl
theorem pur_bl (b : Bool) : pur (.bl b) = true := rfl
theorem pur_int (b : Int) : pur (.int b) = true := rfl
theorem pur_str (b : PySem.Str) : pur (.str b) = true := rfl
theorem pur_tup (ts : List T) : pur (.tup ts) = purs ts := rfl
theorem pur_lst (ts : List T) : pur (.lst ts) = false := rfl
theorem purs_nil : purs [] = true := rfl
theorem purs_cons (ts : List T) : purs (x :: ts) = (pur x && purs ts) := rfl
theorem a_part0 (R : Option Int → Prop) : wPart0 δ R = R none := rfl
def prtK (R : Option Int → Prop) : S → Prop
  | .t (.int i) => R (some i)
  | _ => False
theorem a_part (R : Option Int → Prop) : wPart we δ R = we δ (prtK R) := rfl
theorem prtK_i (R : Option Int → Prop) (i : Int) : prtK R (.t (.int i)) = R (some i) := rfl
def appK (i : Nat) (δ : DSt) (N : DSt → Prop) (ts : List T) : S → Prop
  | .t x => ts.length < 100000 ∧ N (δ.set i (some (.ol (ts ++ [x]))))
  | _ => False
theorem a_append : wAppend i we D δ = lookO i δ fun ts => we δ (appK i δ D.nx ts) := rfl
theorem appK_t (N : DSt → Prop) (ts : List T) : appK i δ N ts (.t x) = (ts.length < 100000 ∧ N (δ.set i (some (.ol (ts ++ [x]))))) := rfl
theorem a_pop : wPop i D δ = lookO i δ fun ts => ts ≠ [] ∧ D.nx (δ.set i (some (.ol ts.dropLast))) := rfl
def popK (i j : Nat) (δ : DSt) (N : DSt → Prop) (ts : List T) : Prop := match ts[ts.length - 1]? with
  | some x => N ((δ.set i (some (.ol ts.dropLast))).set j (some (.t x)))
  | none => False
theorem a_popTo : wPopTo j i D δ = lookO i δ (popK i j δ D.nx) := rfl
theorem a_clear : wClear i D δ = lookO i δ fun _ => D.nx (δ.set i (some (.ol []))) := rfl
def sixK (i : Nat) (δ : DSt) (N : DSt → Prop) (ts : List T) : S → S → Prop
  | .t x, .t (.int k) => match ixN ts.length k with
    | some j => N (δ.set i (some (.ol (ts.set j x))))
    | none => False
  | _, _ => False
theorem a_setIx : wSetIx i we wv D δ = lookO i δ fun ts => wv δ fun v => we δ fun s => sixK i δ D.nx ts v s := rfl
end
theorem atT_all {ts : List T} {i : Int} {R : S → Prop} (h0 : 0 ≤ i) (h1 : i < ts.length) (h : ∀ x ∈ ts, R (.t x)) : atT ts i R := by
  have hl : i.toNat < ts.length := by omega
  have e : i = ((i.toNat : Nat) : Int) := by omega
  rw [e, atT_of (atI_of (x := ts[i.toNat]) (by simp [hl]))]
  exact h _ (List.getElem_mem hl)
theorem atT_ints {ns : List Int} {i : Int} {R : S → Prop} (h0 : 0 ≤ i) (h1 : i < ns.length) (h : ∀ v ∈ ns, R (.t (.int v))) : atT (ns.map .int) i R :=
  atT_all h0 (by rw [List.length_map]; exact h1) fun x hx => by
    obtain ⟨v, hv, rfl⟩ := List.mem_map.mp hx
    exact h v hv
/-! sums -/
theorem divOk {i j : Int} (h : j ≠ 0) (h2 : j.natAbs.log2 < 9000) : DivOk i j := ⟨h, PyProof.noPylong_of_log2 h2⟩
theorem mulL {i j : Int} (h1 : -18446744073709551616 < i) (h2 : i < 18446744073709551616) : MulOk i j := ⟨CMul.ok (.inl ⟨by omega, by omega⟩)⟩
theorem mulR {i j : Int} (h1 : -18446744073709551616 < j) (h2 : j < 18446744073709551616) : MulOk i j := ⟨CMul.ok (.inr ⟨by omega, by omega⟩)⟩
theorem abs_eq (i : Int) : (if i < 0 then -i else i) = (i.natAbs : Int) := by split <;> omega
theorem fmod_nat (g l : Nat) : (g : Int).fmod (l : Int) = ((g % l : Nat) : Int) := by
  rw [Int.fmod_eq_emod_of_nonneg _ (Int.natCast_nonneg l)]; rfl
theorem fmod_lo (c : Int) {n : Int} (h : 0 < n) : 0 ≤ c.fmod n := Int.fmod_nonneg_of_pos c h
theorem fmod_hi (c : Int) {n : Int} (h : 0 < n) : c.fmod n < n := Int.fmod_lt_of_pos c h
end DL

set_option Elab.async false
set_option linter.all false
set_option maxRecDepth 100000
/-! how long numbers may be -/
namespace DL
open L2
/-- at most n bits -/
structure Sz (n : Nat) (i : Int) : Prop where
  lt : i.natAbs < 2 ^ n
theorem Sz.mono {m n : Nat} {i : Int} (h : Sz m i) (l : m ≤ n) : Sz n i := ⟨Nat.lt_of_lt_of_le h.lt (Nat.pow_le_pow_right (by decide) l)⟩
theorem Sz.mul {m n : Nat} {a b : Int} (ha : Sz m a) (hb : Sz n b) : Sz (m + n) (a * b) := by
  have ha := ha.lt
  have hb := hb.lt
  refine ⟨?_⟩
  rw [Int.natAbs_mul, Nat.pow_add]
  exact Nat.mul_lt_mul_of_lt_of_le ha (Nat.le_of_lt hb) (Nat.pos_of_ne_zero (by have := Nat.two_pow_pos n; omega))
theorem two_max {m n : Nat} {x y : Nat} (ha : x < 2 ^ m) (hb : y < 2 ^ n) : x + y < 2 ^ (max m n + 1) := by
  have h1 : 2 ^ m ≤ 2 ^ max m n := Nat.pow_le_pow_right (by decide) (Nat.le_max_left _ _)
  have h2 : 2 ^ n ≤ 2 ^ max m n := Nat.pow_le_pow_right (by decide) (Nat.le_max_right _ _)
  rw [Nat.pow_succ]; omega
theorem Sz.add {m n : Nat} {a b : Int} (ha : Sz m a) (hb : Sz n b) : Sz (max m n + 1) (a + b) := by
  have := two_max ha.lt hb.lt
  refine ⟨?_⟩
  omega
theorem Sz.sub {m n : Nat} {a b : Int} (ha : Sz m a) (hb : Sz n b) : Sz (max m n + 1) (a - b) := by
  have := two_max ha.lt hb.lt
  refine ⟨?_⟩
  omega
theorem Sz.neg {m : Nat} {a : Int} (ha : Sz m a) : Sz m (-a) := by
  refine ⟨?_⟩; rw [Int.natAbs_neg]; exact ha.lt
theorem natAbs_fdiv_le (a b : Int) : (a.fdiv b).natAbs ≤ a.natAbs := by
  cases a with
  | ofNat m =>
    cases b with
    | ofNat n =>
      cases m with
      | zero => show (0 : Int).natAbs ≤ _; simp
      | succ m => show (Int.ofNat ((m + 1) / n)).natAbs ≤ m + 1; exact Nat.div_le_self (m + 1) n
    | negSucc n =>
      cases m with
      | zero => show (0 : Int).natAbs ≤ _; simp
      | succ m =>
        show (Int.negSucc (m / (n + 1))).natAbs ≤ m + 1
        have : (Int.negSucc (m / (n + 1))).natAbs = m / (n + 1) + 1 := rfl
        rw [this]
        have := Nat.div_le_self m (n + 1)
        omega
  | negSucc m =>
    cases b with
    | ofNat n =>
      cases n with
      | zero => show (0 : Int).natAbs ≤ _; simp
      | succ n =>
        show (Int.negSucc (m / (n + 1))).natAbs ≤ m + 1
        have : (Int.negSucc (m / (n + 1))).natAbs = m / (n + 1) + 1 := rfl
        rw [this]
        have := Nat.div_le_self m (n + 1)
        omega
    | negSucc n =>
      show (Int.ofNat ((m + 1) / (n + 1))).natAbs ≤ m + 1
      exact Nat.div_le_self (m + 1) (n + 1)
theorem Sz.fdiv {m : Nat} {a : Int} (ha : Sz m a) (b : Int) : Sz m (a.fdiv b) := ⟨Nat.lt_of_le_of_lt (natAbs_fdiv_le a b) ha.lt⟩
theorem Sz.fmod {m : Nat} {b : Int} (hb : Sz m b) (h : 0 < b) (a : Int) : Sz m (a.fmod b) := by
  have h1 := Int.fmod_nonneg_of_pos a h
  have h2 := Int.fmod_lt_of_pos a h
  have := hb.lt
  exact ⟨by omega⟩
theorem Sz.of {m : Nat} {a : Int} (h1 : -(2 ^ m : Nat) < a) (h2 : a < (2 ^ m : Nat)) : Sz m a := ⟨by omega⟩
theorem Sz.gcdL {m : Nat} {a b : Int} (ha : Sz m a) (h : a ≠ 0) : Sz m (Int.gcd a b) := by
  have : Int.gcd a b ≤ a.natAbs := Nat.le_of_dvd (by omega) (Int.gcd_dvd_natAbs_left a b)
  have := ha.lt
  have e : ((Int.gcd a b : Nat) : Int).natAbs = Int.gcd a b := rfl
  refine ⟨?_⟩
  rw [e]; omega
theorem Sz.gcd {m n : Nat} {a b : Int} (ha : Sz m a) (hb : Sz n b) : Sz (max m n) (Int.gcd a b) := by
  by_cases h : a = 0
  · subst h
    have e : Int.gcd 0 b = b.natAbs := Int.gcd_zero_left b
    rw [e]
    exact Sz.mono (show Sz n (b.natAbs : Int) from ⟨hb.lt⟩) (Nat.le_max_right _ _)
  · exact (Sz.gcdL ha h).mono (Nat.le_max_left _ _)
theorem bits_of_sz {n : Nat} {a : Int} (h : Sz n a) (hn : n ≤ 1048576) : PySem.Builtin.Int.intBits a ≤ 2 ^ 20 := by
  unfold PySem.Builtin.Int.intBits
  have e : (2 : Nat) ^ 20 = 1048576 := by decide
  rw [e]
  by_cases h0 : a.natAbs = 0
  · simp only [h0]; split <;> first | omega | simp
  · have := (Nat.log2_lt h0).mpr h.lt
    first
      | omega
      | (simp only [h0]; omega)
      | (split <;> omega)
theorem mulSz {m n : Nat} {a b : Int} (ha : Sz m a) (hb : Sz n b) (h1 : m ≤ 1048576) (h2 : n ≤ 1048576) : MulOk a b := ⟨PySem.IntMulOk.of_bits (bits_of_sz ha h1) (bits_of_sz hb h2)⟩
theorem divSz {n : Nat} {i j : Int} (h : j ≠ 0) (hs : Sz n j) (hn : n ≤ 9000) : DivOk i j := by
  refine divOk h ?_
  have h0 : j.natAbs ≠ 0 := by omega
  have := (Nat.log2_lt h0).mpr hs.lt
  omega
theorem mem_rngT {lo : Int} {n : Nat} {t : T} (h : t ∈ rngT lo n) : ∃ k : Int, t = .int k ∧ lo ≤ k ∧ k < lo + n := by
  unfold rngT at h
  obtain ⟨k, hk, rfl⟩ := List.mem_map.mp h
  have := List.mem_range.mp hk
  exact ⟨_, rfl, by omega, by omega⟩
theorem rngOk {i : Int} (h1 : -(2 ^ 62) ≤ i) (h2 : i < 2 ^ 62) : RngOk i := ⟨h1, h2⟩
theorem powOk {i j : Int} (h1 : 0 ≤ j) (h2 : j ≤ 1000000) (h3 : i.natAbs < 2 ^ 64) : PowOk i j := ⟨⟨h1, h2, h3⟩⟩
end DL

set_option Elab.async false
set_option linter.all false
set_option maxRecDepth 100000
/-! points, fractions, spots, halves -/
namespace DL
open L2
abbrev Fr := Int × Int
abbrev Pt := Int × Int
abbrev Spo := Fr × Fr
abbrev Hf := Int × Int × Int
def ptT (p : Pt) : T := .tup [.int p.1, .int p.2]
def frT (p : Fr) : T := .tup [.int p.1, .int p.2]
def spT (s : Spo) : T := .tup [frT s.1, frT s.2]
def hfT (h : Hf) : T := .tup [.int h.1, .int h.2.1, .int h.2.2]
theorem pur_ptT (p : Pt) : pur (ptT p) = true := rfl
theorem purs_map {α : Type} {f : α → T} (h : ∀ a, pur (f a) = true) : ∀ l : List α, purs (l.map f) = true
  | [] => rfl
  | a :: r => by rw [List.map_cons, purs_cons, h a, purs_map h r]; rfl
theorem deps_map {α : Type} {f : α → T} {n : Nat} (h : ∀ a, dep (f a) ≤ n) : ∀ l : List α, deps (l.map f) ≤ n
  | [] => Nat.zero_le _
  | a :: r => by
    rw [List.map_cons]
    have := deps_map h r
    have := h a
    simp only [deps]
    omega
theorem eqTs_map {α : Type} {f : α → T} (h : ∀ a b, eqT (f a) (f b) = true ↔ a = b) : ∀ l m : List α, eqTs (l.map f) (m.map f) = true ↔ l = m
  | [], [] => by simp [eqTs]
  | [], _ :: _ => by simp [eqTs]
  | _ :: _, [] => by simp [eqTs]
  | a :: r, b :: s => by
    simp only [List.map_cons, eqTs, Bool.and_eq_true, h a b, eqTs_map h r s, List.cons.injEq]
theorem eqT_int (a b : Int) : eqT (.int a) (.int b) = true ↔ a = b := by simp [eqT]
theorem eqT_ptT (a b : Pt) : eqT (ptT a) (ptT b) = true ↔ a = b := by
  simp only [ptT, eqT, eqTs, Bool.and_eq_true, beq_iff_eq, Bool.and_true, Prod.ext_iff]
theorem eqT_spT (a b : Spo) : eqT (spT a) (spT b) = true ↔ a = b := by
  obtain ⟨⟨a1, a2⟩, a3, a4⟩ := a
  obtain ⟨⟨b1, b2⟩, b3, b4⟩ := b
  simp only [spT, frT, eqT, eqTs, Bool.and_eq_true, beq_iff_eq, Bool.and_true, Prod.mk.injEq]
theorem eqT_hfT (a b : Hf) : eqT (hfT a) (hfT b) = true ↔ a = b := by
  obtain ⟨a1, a2, a3⟩ := a
  obtain ⟨b1, b2, b3⟩ := b
  simp only [hfT, eqT, eqTs, Bool.and_eq_true, beq_iff_eq, Bool.and_true, Prod.mk.injEq]
theorem dep_ptT (a : Pt) : dep (ptT a) ≤ 2 := by show 1 ≤ 2; decide
theorem dep_spT (a : Spo) : dep (spT a) ≤ 2 := by show 2 ≤ 2; decide
theorem dep_hfT (a : Hf) : dep (hfT a) ≤ 2 := by show 1 ≤ 2; decide
theorem bool_dec {b : Bool} {P : Prop} [Decidable P] (h : b = true ↔ P) : b = decide P := by
  cases b with
  | true => exact (decide_eq_true (h.mp rfl)).symm
  | false => exact (decide_eq_false fun p => by cases h.mpr p).symm
section
variable (R : S → Prop)
theorem eq_of {a b : S} {P : Prop} [Decidable P] (h1 : dep (tr a) ≤ 20) (h2 : dep (tr b) ≤ 20) (h : eqT (tr a) (tr b) = true ↔ P) : fEq a b R = R (.t (.bl (decide P))) := by
  unfold fEq eqS
  rw [bool_dec h]
  exact propext ⟨fun z => z.2.2, fun z => ⟨h1, h2, z⟩⟩
theorem ne_of' {a b : S} {P : Prop} [Decidable P] (h1 : dep (tr a) ≤ 20) (h2 : dep (tr b) ≤ 20) (h : eqT (tr a) (tr b) = true ↔ P) : fNe a b R = R (.t (.bl (!decide P))) := by
  unfold fNe eqS
  rw [bool_dec h]
  exact propext ⟨fun z => z.2.2, fun z => ⟨h1, h2, z⟩⟩
theorem eq_tt (a b c d : Int) : fEq (.t (.tup [.int a, .int b])) (.t (.tup [.int c, .int d])) R = R (.t (.bl (decide (a = c ∧ b = d)))) := eq_of R (by show 1 ≤ 20; decide) (by show 1 ≤ 20; decide) (by simp [tr, eqT, eqTs])
theorem ne_tt (a b c d : Int) : fNe (.t (.tup [.int a, .int b])) (.t (.tup [.int c, .int d])) R = R (.t (.bl (!decide (a = c ∧ b = d)))) := ne_of' R (by show 1 ≤ 20; decide) (by show 1 ≤ 20; decide) (by simp [tr, eqT, eqTs])
theorem eq_hh (a b c d e f : Int) : fEq (.t (.tup [.int a, .int b, .int c])) (.t (.tup [.int d, .int e, .int f])) R = R (.t (.bl (decide (a = d ∧ b = e ∧ c = f)))) := eq_of R (by show 1 ≤ 20; decide) (by show 1 ≤ 20; decide) (by simp [tr, eqT, eqTs])
theorem ne_hh (a b c d e f : Int) : fNe (.t (.tup [.int a, .int b, .int c])) (.t (.tup [.int d, .int e, .int f])) R = R (.t (.bl (!decide (a = d ∧ b = e ∧ c = f)))) := ne_of' R (by show 1 ≤ 20; decide) (by show 1 ≤ 20; decide) (by simp [tr, eqT, eqTs])
theorem eq_lists {α : Type} [DecidableEq α] {f : α → T} {a b : S} {l m : List α} (hf : ∀ a b, eqT (f a) (f b) = true ↔ a = b) (hd : ∀ a, dep (f a) ≤ 2) (ha : tr a = .lst (l.map f)) (hb : tr b = .lst (m.map f)) : fEq a b R = R (.t (.bl (decide (l = m)))) :=
  eq_of R (by rw [ha]; have := deps_map hd l; simp only [dep]; omega) (by rw [hb]; have := deps_map hd m; simp only [dep]; omega) (by rw [ha, hb]; simp only [eqT]; exact eqTs_map hf l m)
theorem ne_lists {α : Type} [DecidableEq α] {f : α → T} {a b : S} {l m : List α} (hf : ∀ a b, eqT (f a) (f b) = true ↔ a = b) (hd : ∀ a, dep (f a) ≤ 2) (ha : tr a = .lst (l.map f)) (hb : tr b = .lst (m.map f)) : fNe a b R = R (.t (.bl (!decide (l = m)))) :=
  ne_of' R (by rw [ha]; have := deps_map hd l; simp only [dep]; omega) (by rw [hb]; have := deps_map hd m; simp only [dep]; omega) (by rw [ha, hb]; simp only [eqT]; exact eqTs_map hf l m)
end
def SzH (n : Nat) (h : Hf) : Prop := Sz n h.1 ∧ Sz n h.2.1 ∧ Sz n h.2.2
def SzF (n : Nat) (s : Fr) : Prop := Sz n s.1 ∧ Sz n s.2
def SzS (n : Nat) (s : Spo) : Prop := SzF n s.1 ∧ SzF n s.2
theorem isTy_non_non : isTy .non .non = true := rfl
theorem isTy_non_bool : isTy .non .bool = false := rfl
theorem isTy_non_int : isTy .non .int = false := rfl
theorem isTy_non_str : isTy .non .str = false := rfl
theorem isTy_non_tup : isTy .non .tup = false := rfl
theorem isTy_non_lst : isTy .non .lst = false := rfl
theorem isTy_bool_non : isTy .bool .non = false := rfl
theorem isTy_bool_bool : isTy .bool .bool = true := rfl
theorem isTy_bool_int : isTy .bool .int = true := rfl
theorem isTy_bool_str : isTy .bool .str = false := rfl
theorem isTy_bool_tup : isTy .bool .tup = false := rfl
theorem isTy_bool_lst : isTy .bool .lst = false := rfl
theorem isTy_int_non : isTy .int .non = false := rfl
theorem isTy_int_bool : isTy .int .bool = false := rfl
theorem isTy_int_int : isTy .int .int = true := rfl
theorem isTy_int_str : isTy .int .str = false := rfl
theorem isTy_int_tup : isTy .int .tup = false := rfl
theorem isTy_int_lst : isTy .int .lst = false := rfl
theorem isTy_str_non : isTy .str .non = false := rfl
theorem isTy_str_bool : isTy .str .bool = false := rfl
theorem isTy_str_int : isTy .str .int = false := rfl
theorem isTy_str_str : isTy .str .str = true := rfl
theorem isTy_str_tup : isTy .str .tup = false := rfl
theorem isTy_str_lst : isTy .str .lst = false := rfl
theorem isTy_tup_non : isTy .tup .non = false := rfl
theorem isTy_tup_bool : isTy .tup .bool = false := rfl
theorem isTy_tup_int : isTy .tup .int = false := rfl
theorem isTy_tup_str : isTy .tup .str = false := rfl
theorem isTy_tup_tup : isTy .tup .tup = true := rfl
theorem isTy_tup_lst : isTy .tup .lst = false := rfl
theorem isTy_lst_non : isTy .lst .non = false := rfl
theorem isTy_lst_bool : isTy .lst .bool = false := rfl
theorem isTy_lst_int : isTy .lst .int = false := rfl
theorem isTy_lst_str : isTy .lst .str = false := rfl
theorem isTy_lst_tup : isTy .lst .tup = false := rfl
theorem isTy_lst_lst : isTy .lst .lst = true := rfl
theorem purs_pt (l : List Pt) : purs (l.map ptT) = true := purs_map (fun _ => rfl) l
theorem eq_pt_tt (R : S → Prop) (l m : List Pt) : fEq (.t (.lst (l.map ptT))) (.t (.lst (m.map ptT))) R = R (.t (.bl (decide (l = m)))) := eq_lists R eqT_ptT dep_ptT rfl rfl
theorem ne_pt_tt (R : S → Prop) (l m : List Pt) : fNe (.t (.lst (l.map ptT))) (.t (.lst (m.map ptT))) R = R (.t (.bl (!decide (l = m)))) := ne_lists R eqT_ptT dep_ptT rfl rfl
theorem eq_pt_tv (R : S → Prop) (l m : List Pt) : fEq (.t (.lst (l.map ptT))) (.vt (.lst (m.map ptT))) R = R (.t (.bl (decide (l = m)))) := eq_lists R eqT_ptT dep_ptT rfl rfl
theorem ne_pt_tv (R : S → Prop) (l m : List Pt) : fNe (.t (.lst (l.map ptT))) (.vt (.lst (m.map ptT))) R = R (.t (.bl (!decide (l = m)))) := ne_lists R eqT_ptT dep_ptT rfl rfl
theorem eq_pt_to (R : S → Prop) (l m : List Pt) : fEq (.t (.lst (l.map ptT))) (.ol (m.map ptT)) R = R (.t (.bl (decide (l = m)))) := eq_lists R eqT_ptT dep_ptT rfl rfl
theorem ne_pt_to (R : S → Prop) (l m : List Pt) : fNe (.t (.lst (l.map ptT))) (.ol (m.map ptT)) R = R (.t (.bl (!decide (l = m)))) := ne_lists R eqT_ptT dep_ptT rfl rfl
theorem eq_pt_vt (R : S → Prop) (l m : List Pt) : fEq (.vt (.lst (l.map ptT))) (.t (.lst (m.map ptT))) R = R (.t (.bl (decide (l = m)))) := eq_lists R eqT_ptT dep_ptT rfl rfl
theorem ne_pt_vt (R : S → Prop) (l m : List Pt) : fNe (.vt (.lst (l.map ptT))) (.t (.lst (m.map ptT))) R = R (.t (.bl (!decide (l = m)))) := ne_lists R eqT_ptT dep_ptT rfl rfl
theorem eq_pt_vv (R : S → Prop) (l m : List Pt) : fEq (.vt (.lst (l.map ptT))) (.vt (.lst (m.map ptT))) R = R (.t (.bl (decide (l = m)))) := eq_lists R eqT_ptT dep_ptT rfl rfl
theorem ne_pt_vv (R : S → Prop) (l m : List Pt) : fNe (.vt (.lst (l.map ptT))) (.vt (.lst (m.map ptT))) R = R (.t (.bl (!decide (l = m)))) := ne_lists R eqT_ptT dep_ptT rfl rfl
theorem eq_pt_vo (R : S → Prop) (l m : List Pt) : fEq (.vt (.lst (l.map ptT))) (.ol (m.map ptT)) R = R (.t (.bl (decide (l = m)))) := eq_lists R eqT_ptT dep_ptT rfl rfl
theorem ne_pt_vo (R : S → Prop) (l m : List Pt) : fNe (.vt (.lst (l.map ptT))) (.ol (m.map ptT)) R = R (.t (.bl (!decide (l = m)))) := ne_lists R eqT_ptT dep_ptT rfl rfl
theorem eq_pt_ot (R : S → Prop) (l m : List Pt) : fEq (.ol (l.map ptT)) (.t (.lst (m.map ptT))) R = R (.t (.bl (decide (l = m)))) := eq_lists R eqT_ptT dep_ptT rfl rfl
theorem ne_pt_ot (R : S → Prop) (l m : List Pt) : fNe (.ol (l.map ptT)) (.t (.lst (m.map ptT))) R = R (.t (.bl (!decide (l = m)))) := ne_lists R eqT_ptT dep_ptT rfl rfl
theorem eq_pt_ov (R : S → Prop) (l m : List Pt) : fEq (.ol (l.map ptT)) (.vt (.lst (m.map ptT))) R = R (.t (.bl (decide (l = m)))) := eq_lists R eqT_ptT dep_ptT rfl rfl
theorem ne_pt_ov (R : S → Prop) (l m : List Pt) : fNe (.ol (l.map ptT)) (.vt (.lst (m.map ptT))) R = R (.t (.bl (!decide (l = m)))) := ne_lists R eqT_ptT dep_ptT rfl rfl
theorem eq_pt_oo (R : S → Prop) (l m : List Pt) : fEq (.ol (l.map ptT)) (.ol (m.map ptT)) R = R (.t (.bl (decide (l = m)))) := eq_lists R eqT_ptT dep_ptT rfl rfl
theorem ne_pt_oo (R : S → Prop) (l m : List Pt) : fNe (.ol (l.map ptT)) (.ol (m.map ptT)) R = R (.t (.bl (!decide (l = m)))) := ne_lists R eqT_ptT dep_ptT rfl rfl
theorem eq_pt_t0 (R : S → Prop) (l : List Pt) : fEq (.t (.lst (l.map ptT))) (.ol []) R = R (.t (.bl (decide (l = [])))) := eq_lists (m := []) R eqT_ptT dep_ptT rfl rfl
theorem ne_pt_t0 (R : S → Prop) (l : List Pt) : fNe (.t (.lst (l.map ptT))) (.ol []) R = R (.t (.bl (!decide (l = [])))) := ne_lists (m := []) R eqT_ptT dep_ptT rfl rfl
theorem eq_pt_v0 (R : S → Prop) (l : List Pt) : fEq (.vt (.lst (l.map ptT))) (.ol []) R = R (.t (.bl (decide (l = [])))) := eq_lists (m := []) R eqT_ptT dep_ptT rfl rfl
theorem ne_pt_v0 (R : S → Prop) (l : List Pt) : fNe (.vt (.lst (l.map ptT))) (.ol []) R = R (.t (.bl (!decide (l = [])))) := ne_lists (m := []) R eqT_ptT dep_ptT rfl rfl
theorem eq_pt_o0 (R : S → Prop) (l : List Pt) : fEq (.ol (l.map ptT)) (.ol []) R = R (.t (.bl (decide (l = [])))) := eq_lists (m := []) R eqT_ptT dep_ptT rfl rfl
theorem ne_pt_o0 (R : S → Prop) (l : List Pt) : fNe (.ol (l.map ptT)) (.ol []) R = R (.t (.bl (!decide (l = [])))) := ne_lists (m := []) R eqT_ptT dep_ptT rfl rfl
theorem purs_hf (l : List Hf) : purs (l.map hfT) = true := purs_map (fun _ => rfl) l
theorem eq_hf_tt (R : S → Prop) (l m : List Hf) : fEq (.t (.lst (l.map hfT))) (.t (.lst (m.map hfT))) R = R (.t (.bl (decide (l = m)))) := eq_lists R eqT_hfT dep_hfT rfl rfl
theorem ne_hf_tt (R : S → Prop) (l m : List Hf) : fNe (.t (.lst (l.map hfT))) (.t (.lst (m.map hfT))) R = R (.t (.bl (!decide (l = m)))) := ne_lists R eqT_hfT dep_hfT rfl rfl
theorem eq_hf_tv (R : S → Prop) (l m : List Hf) : fEq (.t (.lst (l.map hfT))) (.vt (.lst (m.map hfT))) R = R (.t (.bl (decide (l = m)))) := eq_lists R eqT_hfT dep_hfT rfl rfl
theorem ne_hf_tv (R : S → Prop) (l m : List Hf) : fNe (.t (.lst (l.map hfT))) (.vt (.lst (m.map hfT))) R = R (.t (.bl (!decide (l = m)))) := ne_lists R eqT_hfT dep_hfT rfl rfl
theorem eq_hf_to (R : S → Prop) (l m : List Hf) : fEq (.t (.lst (l.map hfT))) (.ol (m.map hfT)) R = R (.t (.bl (decide (l = m)))) := eq_lists R eqT_hfT dep_hfT rfl rfl
theorem ne_hf_to (R : S → Prop) (l m : List Hf) : fNe (.t (.lst (l.map hfT))) (.ol (m.map hfT)) R = R (.t (.bl (!decide (l = m)))) := ne_lists R eqT_hfT dep_hfT rfl rfl
theorem eq_hf_vt (R : S → Prop) (l m : List Hf) : fEq (.vt (.lst (l.map hfT))) (.t (.lst (m.map hfT))) R = R (.t (.bl (decide (l = m)))) := eq_lists R eqT_hfT dep_hfT rfl rfl
theorem ne_hf_vt (R : S → Prop) (l m : List Hf) : fNe (.vt (.lst (l.map hfT))) (.t (.lst (m.map hfT))) R = R (.t (.bl (!decide (l = m)))) := ne_lists R eqT_hfT dep_hfT rfl rfl
theorem eq_hf_vv (R : S → Prop) (l m : List Hf) : fEq (.vt (.lst (l.map hfT))) (.vt (.lst (m.map hfT))) R = R (.t (.bl (decide (l = m)))) := eq_lists R eqT_hfT dep_hfT rfl rfl
theorem ne_hf_vv (R : S → Prop) (l m : List Hf) : fNe (.vt (.lst (l.map hfT))) (.vt (.lst (m.map hfT))) R = R (.t (.bl (!decide (l = m)))) := ne_lists R eqT_hfT dep_hfT rfl rfl
theorem eq_hf_vo (R : S → Prop) (l m : List Hf) : fEq (.vt (.lst (l.map hfT))) (.ol (m.map hfT)) R = R (.t (.bl (decide (l = m)))) := eq_lists R eqT_hfT dep_hfT rfl rfl
theorem ne_hf_vo (R : S → Prop) (l m : List Hf) : fNe (.vt (.lst (l.map hfT))) (.ol (m.map hfT)) R = R (.t (.bl (!decide (l = m)))) := ne_lists R eqT_hfT dep_hfT rfl rfl
theorem eq_hf_ot (R : S → Prop) (l m : List Hf) : fEq (.ol (l.map hfT)) (.t (.lst (m.map hfT))) R = R (.t (.bl (decide (l = m)))) := eq_lists R eqT_hfT dep_hfT rfl rfl
theorem ne_hf_ot (R : S → Prop) (l m : List Hf) : fNe (.ol (l.map hfT)) (.t (.lst (m.map hfT))) R = R (.t (.bl (!decide (l = m)))) := ne_lists R eqT_hfT dep_hfT rfl rfl
theorem eq_hf_ov (R : S → Prop) (l m : List Hf) : fEq (.ol (l.map hfT)) (.vt (.lst (m.map hfT))) R = R (.t (.bl (decide (l = m)))) := eq_lists R eqT_hfT dep_hfT rfl rfl
theorem ne_hf_ov (R : S → Prop) (l m : List Hf) : fNe (.ol (l.map hfT)) (.vt (.lst (m.map hfT))) R = R (.t (.bl (!decide (l = m)))) := ne_lists R eqT_hfT dep_hfT rfl rfl
theorem eq_hf_oo (R : S → Prop) (l m : List Hf) : fEq (.ol (l.map hfT)) (.ol (m.map hfT)) R = R (.t (.bl (decide (l = m)))) := eq_lists R eqT_hfT dep_hfT rfl rfl
theorem ne_hf_oo (R : S → Prop) (l m : List Hf) : fNe (.ol (l.map hfT)) (.ol (m.map hfT)) R = R (.t (.bl (!decide (l = m)))) := ne_lists R eqT_hfT dep_hfT rfl rfl
theorem eq_hf_t0 (R : S → Prop) (l : List Hf) : fEq (.t (.lst (l.map hfT))) (.ol []) R = R (.t (.bl (decide (l = [])))) := eq_lists (m := []) R eqT_hfT dep_hfT rfl rfl
theorem ne_hf_t0 (R : S → Prop) (l : List Hf) : fNe (.t (.lst (l.map hfT))) (.ol []) R = R (.t (.bl (!decide (l = [])))) := ne_lists (m := []) R eqT_hfT dep_hfT rfl rfl
theorem eq_hf_v0 (R : S → Prop) (l : List Hf) : fEq (.vt (.lst (l.map hfT))) (.ol []) R = R (.t (.bl (decide (l = [])))) := eq_lists (m := []) R eqT_hfT dep_hfT rfl rfl
theorem ne_hf_v0 (R : S → Prop) (l : List Hf) : fNe (.vt (.lst (l.map hfT))) (.ol []) R = R (.t (.bl (!decide (l = [])))) := ne_lists (m := []) R eqT_hfT dep_hfT rfl rfl
theorem eq_hf_o0 (R : S → Prop) (l : List Hf) : fEq (.ol (l.map hfT)) (.ol []) R = R (.t (.bl (decide (l = [])))) := eq_lists (m := []) R eqT_hfT dep_hfT rfl rfl
theorem ne_hf_o0 (R : S → Prop) (l : List Hf) : fNe (.ol (l.map hfT)) (.ol []) R = R (.t (.bl (!decide (l = [])))) := ne_lists (m := []) R eqT_hfT dep_hfT rfl rfl
theorem purs_sp (l : List Spo) : purs (l.map spT) = true := purs_map (fun _ => rfl) l
theorem eq_sp_tt (R : S → Prop) (l m : List Spo) : fEq (.t (.lst (l.map spT))) (.t (.lst (m.map spT))) R = R (.t (.bl (decide (l = m)))) := eq_lists R eqT_spT dep_spT rfl rfl
theorem ne_sp_tt (R : S → Prop) (l m : List Spo) : fNe (.t (.lst (l.map spT))) (.t (.lst (m.map spT))) R = R (.t (.bl (!decide (l = m)))) := ne_lists R eqT_spT dep_spT rfl rfl
theorem eq_sp_tv (R : S → Prop) (l m : List Spo) : fEq (.t (.lst (l.map spT))) (.vt (.lst (m.map spT))) R = R (.t (.bl (decide (l = m)))) := eq_lists R eqT_spT dep_spT rfl rfl
theorem ne_sp_tv (R : S → Prop) (l m : List Spo) : fNe (.t (.lst (l.map spT))) (.vt (.lst (m.map spT))) R = R (.t (.bl (!decide (l = m)))) := ne_lists R eqT_spT dep_spT rfl rfl
theorem eq_sp_to (R : S → Prop) (l m : List Spo) : fEq (.t (.lst (l.map spT))) (.ol (m.map spT)) R = R (.t (.bl (decide (l = m)))) := eq_lists R eqT_spT dep_spT rfl rfl
theorem ne_sp_to (R : S → Prop) (l m : List Spo) : fNe (.t (.lst (l.map spT))) (.ol (m.map spT)) R = R (.t (.bl (!decide (l = m)))) := ne_lists R eqT_spT dep_spT rfl rfl
theorem eq_sp_vt (R : S → Prop) (l m : List Spo) : fEq (.vt (.lst (l.map spT))) (.t (.lst (m.map spT))) R = R (.t (.bl (decide (l = m)))) := eq_lists R eqT_spT dep_spT rfl rfl
theorem ne_sp_vt (R : S → Prop) (l m : List Spo) : fNe (.vt (.lst (l.map spT))) (.t (.lst (m.map spT))) R = R (.t (.bl (!decide (l = m)))) := ne_lists R eqT_spT dep_spT rfl rfl
theorem eq_sp_vv (R : S → Prop) (l m : List Spo) : fEq (.vt (.lst (l.map spT))) (.vt (.lst (m.map spT))) R = R (.t (.bl (decide (l = m)))) := eq_lists R eqT_spT dep_spT rfl rfl
theorem ne_sp_vv (R : S → Prop) (l m : List Spo) : fNe (.vt (.lst (l.map spT))) (.vt (.lst (m.map spT))) R = R (.t (.bl (!decide (l = m)))) := ne_lists R eqT_spT dep_spT rfl rfl
theorem eq_sp_vo (R : S → Prop) (l m : List Spo) : fEq (.vt (.lst (l.map spT))) (.ol (m.map spT)) R = R (.t (.bl (decide (l = m)))) := eq_lists R eqT_spT dep_spT rfl rfl
theorem ne_sp_vo (R : S → Prop) (l m : List Spo) : fNe (.vt (.lst (l.map spT))) (.ol (m.map spT)) R = R (.t (.bl (!decide (l = m)))) := ne_lists R eqT_spT dep_spT rfl rfl
theorem eq_sp_ot (R : S → Prop) (l m : List Spo) : fEq (.ol (l.map spT)) (.t (.lst (m.map spT))) R = R (.t (.bl (decide (l = m)))) := eq_lists R eqT_spT dep_spT rfl rfl
theorem ne_sp_ot (R : S → Prop) (l m : List Spo) : fNe (.ol (l.map spT)) (.t (.lst (m.map spT))) R = R (.t (.bl (!decide (l = m)))) := ne_lists R eqT_spT dep_spT rfl rfl
theorem eq_sp_ov (R : S → Prop) (l m : List Spo) : fEq (.ol (l.map spT)) (.vt (.lst (m.map spT))) R = R (.t (.bl (decide (l = m)))) := eq_lists R eqT_spT dep_spT rfl rfl
theorem ne_sp_ov (R : S → Prop) (l m : List Spo) : fNe (.ol (l.map spT)) (.vt (.lst (m.map spT))) R = R (.t (.bl (!decide (l = m)))) := ne_lists R eqT_spT dep_spT rfl rfl
theorem eq_sp_oo (R : S → Prop) (l m : List Spo) : fEq (.ol (l.map spT)) (.ol (m.map spT)) R = R (.t (.bl (decide (l = m)))) := eq_lists R eqT_spT dep_spT rfl rfl
theorem ne_sp_oo (R : S → Prop) (l m : List Spo) : fNe (.ol (l.map spT)) (.ol (m.map spT)) R = R (.t (.bl (!decide (l = m)))) := ne_lists R eqT_spT dep_spT rfl rfl
theorem eq_sp_t0 (R : S → Prop) (l : List Spo) : fEq (.t (.lst (l.map spT))) (.ol []) R = R (.t (.bl (decide (l = [])))) := eq_lists (m := []) R eqT_spT dep_spT rfl rfl
theorem ne_sp_t0 (R : S → Prop) (l : List Spo) : fNe (.t (.lst (l.map spT))) (.ol []) R = R (.t (.bl (!decide (l = [])))) := ne_lists (m := []) R eqT_spT dep_spT rfl rfl
theorem eq_sp_v0 (R : S → Prop) (l : List Spo) : fEq (.vt (.lst (l.map spT))) (.ol []) R = R (.t (.bl (decide (l = [])))) := eq_lists (m := []) R eqT_spT dep_spT rfl rfl
theorem ne_sp_v0 (R : S → Prop) (l : List Spo) : fNe (.vt (.lst (l.map spT))) (.ol []) R = R (.t (.bl (!decide (l = [])))) := ne_lists (m := []) R eqT_spT dep_spT rfl rfl
theorem eq_sp_o0 (R : S → Prop) (l : List Spo) : fEq (.ol (l.map spT)) (.ol []) R = R (.t (.bl (decide (l = [])))) := eq_lists (m := []) R eqT_spT dep_spT rfl rfl
theorem ne_sp_o0 (R : S → Prop) (l : List Spo) : fNe (.ol (l.map spT)) (.ol []) R = R (.t (.bl (!decide (l = [])))) := ne_lists (m := []) R eqT_spT dep_spT rfl rfl
theorem purs_in (l : List Int) : purs (l.map T.int) = true := purs_map (fun _ => rfl) l
theorem eq_in_tt (R : S → Prop) (l m : List Int) : fEq (.t (.lst (l.map T.int))) (.t (.lst (m.map T.int))) R = R (.t (.bl (decide (l = m)))) := eq_lists R eqT_int (fun _ => by show 0 ≤ 2; decide) rfl rfl
theorem ne_in_tt (R : S → Prop) (l m : List Int) : fNe (.t (.lst (l.map T.int))) (.t (.lst (m.map T.int))) R = R (.t (.bl (!decide (l = m)))) := ne_lists R eqT_int (fun _ => by show 0 ≤ 2; decide) rfl rfl
theorem eq_in_tv (R : S → Prop) (l m : List Int) : fEq (.t (.lst (l.map T.int))) (.vt (.lst (m.map T.int))) R = R (.t (.bl (decide (l = m)))) := eq_lists R eqT_int (fun _ => by show 0 ≤ 2; decide) rfl rfl
theorem ne_in_tv (R : S → Prop) (l m : List Int) : fNe (.t (.lst (l.map T.int))) (.vt (.lst (m.map T.int))) R = R (.t (.bl (!decide (l = m)))) := ne_lists R eqT_int (fun _ => by show 0 ≤ 2; decide) rfl rfl
theorem eq_in_to (R : S → Prop) (l m : List Int) : fEq (.t (.lst (l.map T.int))) (.ol (m.map T.int)) R = R (.t (.bl (decide (l = m)))) := eq_lists R eqT_int (fun _ => by show 0 ≤ 2; decide) rfl rfl
theorem ne_in_to (R : S → Prop) (l m : List Int) : fNe (.t (.lst (l.map T.int))) (.ol (m.map T.int)) R = R (.t (.bl (!decide (l = m)))) := ne_lists R eqT_int (fun _ => by show 0 ≤ 2; decide) rfl rfl
theorem eq_in_vt (R : S → Prop) (l m : List Int) : fEq (.vt (.lst (l.map T.int))) (.t (.lst (m.map T.int))) R = R (.t (.bl (decide (l = m)))) := eq_lists R eqT_int (fun _ => by show 0 ≤ 2; decide) rfl rfl
theorem ne_in_vt (R : S → Prop) (l m : List Int) : fNe (.vt (.lst (l.map T.int))) (.t (.lst (m.map T.int))) R = R (.t (.bl (!decide (l = m)))) := ne_lists R eqT_int (fun _ => by show 0 ≤ 2; decide) rfl rfl
theorem eq_in_vv (R : S → Prop) (l m : List Int) : fEq (.vt (.lst (l.map T.int))) (.vt (.lst (m.map T.int))) R = R (.t (.bl (decide (l = m)))) := eq_lists R eqT_int (fun _ => by show 0 ≤ 2; decide) rfl rfl
theorem ne_in_vv (R : S → Prop) (l m : List Int) : fNe (.vt (.lst (l.map T.int))) (.vt (.lst (m.map T.int))) R = R (.t (.bl (!decide (l = m)))) := ne_lists R eqT_int (fun _ => by show 0 ≤ 2; decide) rfl rfl
theorem eq_in_vo (R : S → Prop) (l m : List Int) : fEq (.vt (.lst (l.map T.int))) (.ol (m.map T.int)) R = R (.t (.bl (decide (l = m)))) := eq_lists R eqT_int (fun _ => by show 0 ≤ 2; decide) rfl rfl
theorem ne_in_vo (R : S → Prop) (l m : List Int) : fNe (.vt (.lst (l.map T.int))) (.ol (m.map T.int)) R = R (.t (.bl (!decide (l = m)))) := ne_lists R eqT_int (fun _ => by show 0 ≤ 2; decide) rfl rfl
theorem eq_in_ot (R : S → Prop) (l m : List Int) : fEq (.ol (l.map T.int)) (.t (.lst (m.map T.int))) R = R (.t (.bl (decide (l = m)))) := eq_lists R eqT_int (fun _ => by show 0 ≤ 2; decide) rfl rfl
theorem ne_in_ot (R : S → Prop) (l m : List Int) : fNe (.ol (l.map T.int)) (.t (.lst (m.map T.int))) R = R (.t (.bl (!decide (l = m)))) := ne_lists R eqT_int (fun _ => by show 0 ≤ 2; decide) rfl rfl
theorem eq_in_ov (R : S → Prop) (l m : List Int) : fEq (.ol (l.map T.int)) (.vt (.lst (m.map T.int))) R = R (.t (.bl (decide (l = m)))) := eq_lists R eqT_int (fun _ => by show 0 ≤ 2; decide) rfl rfl
theorem ne_in_ov (R : S → Prop) (l m : List Int) : fNe (.ol (l.map T.int)) (.vt (.lst (m.map T.int))) R = R (.t (.bl (!decide (l = m)))) := ne_lists R eqT_int (fun _ => by show 0 ≤ 2; decide) rfl rfl
theorem eq_in_oo (R : S → Prop) (l m : List Int) : fEq (.ol (l.map T.int)) (.ol (m.map T.int)) R = R (.t (.bl (decide (l = m)))) := eq_lists R eqT_int (fun _ => by show 0 ≤ 2; decide) rfl rfl
theorem ne_in_oo (R : S → Prop) (l m : List Int) : fNe (.ol (l.map T.int)) (.ol (m.map T.int)) R = R (.t (.bl (!decide (l = m)))) := ne_lists R eqT_int (fun _ => by show 0 ≤ 2; decide) rfl rfl
theorem eq_in_t0 (R : S → Prop) (l : List Int) : fEq (.t (.lst (l.map T.int))) (.ol []) R = R (.t (.bl (decide (l = [])))) := eq_lists (m := []) R eqT_int (fun _ => by show 0 ≤ 2; decide) rfl rfl
theorem ne_in_t0 (R : S → Prop) (l : List Int) : fNe (.t (.lst (l.map T.int))) (.ol []) R = R (.t (.bl (!decide (l = [])))) := ne_lists (m := []) R eqT_int (fun _ => by show 0 ≤ 2; decide) rfl rfl
theorem eq_in_v0 (R : S → Prop) (l : List Int) : fEq (.vt (.lst (l.map T.int))) (.ol []) R = R (.t (.bl (decide (l = [])))) := eq_lists (m := []) R eqT_int (fun _ => by show 0 ≤ 2; decide) rfl rfl
theorem ne_in_v0 (R : S → Prop) (l : List Int) : fNe (.vt (.lst (l.map T.int))) (.ol []) R = R (.t (.bl (!decide (l = [])))) := ne_lists (m := []) R eqT_int (fun _ => by show 0 ≤ 2; decide) rfl rfl
theorem eq_in_o0 (R : S → Prop) (l : List Int) : fEq (.ol (l.map T.int)) (.ol []) R = R (.t (.bl (decide (l = [])))) := eq_lists (m := []) R eqT_int (fun _ => by show 0 ≤ 2; decide) rfl rfl
theorem ne_in_o0 (R : S → Prop) (l : List Int) : fNe (.ol (l.map T.int)) (.ol []) R = R (.t (.bl (!decide (l = [])))) := ne_lists (m := []) R eqT_int (fun _ => by show 0 ≤ 2; decide) rfl rfl
end DL

set_option Elab.async false
set_option linter.all false
set_option maxRecDepth 100000
/-! more of Python's own: xs.count(x) -/
namespace DL
open PySem L2
def cntK (ts : List T) (R : S → Prop) (b : S) : Prop := sh b ∧ deps ts ≤ 20 ∧ R (.t (.int (ts.countP fun t => eqT t (tr b))))
def cntO (δ : DSt) (we : WE) (R : S → Prop) : T → Prop
  | .lst ts => we δ (cntK ts R)
  | _ => False
def wCount (wo we : WE) : WE := fun δ R => wo δ fun a => cntO δ we R (tr a)
section
variable {X : Cx}
variable {o e : Expr} {wo we : WE} {apos cpos : Pos}
section
variable (δ : DSt) (R : S → Prop) (we wo : WE)
theorem a_count : wCount wo we δ R = wo δ fun a => cntO δ we R (tr a) := rfl
theorem a_cntO (ts : List T) : cntO δ we R (.lst ts) = we δ (cntK ts R) := rfl
theorem countP_map {α : Type} [DecidableEq α] {f : α → T} (hf : ∀ a b, eqT (f a) (f b) = true ↔ a = b) (a : α) : ∀ l : List α, (l.map f).countP (fun t => eqT t (f a)) = l.count a
  | [] => rfl
  | b :: r => by
    rw [List.map_cons, List.countP_cons, List.count_cons, countP_map hf a r]
    congr 1
    by_cases e : b = a
    · subst e; simp [(hf b b).mpr rfl]
    · have : eqT (f b) (f a) = false := by
        cases z : eqT (f b) (f a) with
        | false => rfl
        | true => exact absurd ((hf b a).mp z) e
      simp [this, e]
end
end
/-! ### lists that a comprehension makes -/
theorem comp_filter {α : Type} {f h : α → T} {p : α → Bool} {g : WG} {tc : WT} {te : WE} {l : List α} {δ0 : DSt} {R : List T → Prop} (P : DSt → Prop) (hp : ∀ a ∈ l, pur (h a) = true) (hl : l.length < 100000) (h0 : P δ0)
    (step : ∀ a ∈ l, ∀ δ, P δ → ∀ (Y : DSt → S → Prop) (N : DSt → Prop), (∀ δ1, P δ1 → p a = true → Y δ1 (.t (h a))) → (∀ δ1, P δ1 → p a = false → N δ1) → g (f a) δ fun δ1 => tc δ1 fun ok => if ok = true then te δ1 (fun s => Y δ1 s) else N δ1)
    (fin : R ((l.filter p).map h)) : compI g tc te (l.map f) δ0 R := by
  refine ⟨fun ts δ acc => ∃ pre post, l = pre ++ post ∧ ts = post.map f ∧ P δ ∧ acc = (pre.filter p).map h, ⟨[], l, rfl, rfl, h0, rfl⟩, ?_, ?_⟩
  · rintro δ acc ⟨pre, post, e, e2, _, rfl⟩
    have : post = [] := by simpa using e2.symm
    subst this
    rw [List.append_nil] at e
    subst e
    exact fin
  · rintro x r δ acc ⟨pre, post, e, e2, hP, rfl⟩
    cases post with
    | nil => cases e2
    | cons a post =>
      rw [List.map_cons] at e2
      cases e2
      have ha : a ∈ l := by rw [e]; simp
      have hlen : ((pre.filter p).map h).length < 100000 := by
        rw [List.length_map]
        have h1 := List.length_filter_le p pre
        have h2 : l.length = pre.length + (post.length + 1) := by rw [e]; simp
        omega
      refine step a ha δ hP _ _ (fun δ1 h1 pa => ⟨hp a ha, hlen, pre ++ [a], post, by rw [e]; simp, rfl, h1, ?_⟩) (fun δ1 h1 pa => ⟨pre ++ [a], post, by rw [e]; simp, rfl, h1, ?_⟩)
      · rw [List.filter_append, List.map_append]; simp [List.filter, pa]
      · rw [List.filter_append, List.map_append]; simp [List.filter, pa]
theorem comp_map {α : Type} {f h : α → T} {g : WG} {te : WE} {l : List α} {δ0 : DSt} {R : List T → Prop} (P : DSt → Prop) (hp : ∀ a ∈ l, pur (h a) = true) (hl : l.length < 100000) (h0 : P δ0)
    (step : ∀ a ∈ l, ∀ δ, P δ → ∀ (Y : DSt → S → Prop), (∀ δ1, P δ1 → Y δ1 (.t (h a))) → g (f a) δ fun δ1 => te δ1 (fun s => Y δ1 s))
    (fin : R (l.map h)) : compI g wYes te (l.map f) δ0 R := by
  refine comp_filter (p := fun _ => true) P hp hl h0 (fun a ha δ hP Y N h1 h2 => ?_) (by rw [List.filter_eq_self.mpr (fun _ _ => rfl)]; exact fin)
  show g (f a) δ fun δ1 => if true = true then te δ1 (fun s => Y δ1 s) else N δ1
  simp only [if_true]
  exact step a ha δ hP Y fun δ1 q => h1 δ1 q rfl
theorem len_rngT (lo : Int) (n : Nat) : (rngT lo n).length = n := by unfold rngT; simp
end DL

set_option Elab.async false
set_option linter.all false
set_option maxRecDepth 100000
/-! sums, greatest and least of a list of ints -/
namespace L2
open PySem PyProof.Rows
theorem ints_are : ∀ {ns : List Int} {its : List Value}, Vals (ns.map V.int) its → IntsAre its ns
  | [], _, .nil => .nil
  | n :: ns, _, .cons h r => by
    obtain ⟨t, rfl⟩ := h
    exact .cons n t (ints_are r)
section
variable {X : Cx}
theorem lst_ints {pins : List (Addr × Obj)} {σ : St} {H : Hp} {s : Shared} {p : Addr} {ns : List Int} (I : Inv X pins σ H s) (hq : SqL X.K H p (ns.map V.int)) : ∃ xs : Array (Int × Tok), s.heap.IsList p (intItems xs) ∧ ns = xs.toList.map (·.1) := by
  obtain ⟨its, rv, ⟨o, n, e, c, d, da⟩, _⟩ := I.list hq
  have hl : s.heap.IsList p its.toArray := ⟨o, e, c, n, da⟩
  have hi := ints_are rv
  obtain ⟨xs, hx⟩ := hi.allInts.items
  refine ⟨xs, hx ▸ hl, ?_⟩
  rw [← nums_intItems, ← hx]
  exact (show numsOf its.toArray.toList = ns from hi.numsOf).symm
theorem best_val {xs : Array (Int × Tok)} {k : Nat} {v : Value} (hk : k < xs.size) (h : (intItems xs)[k]? = some v) : ∃ t, v = .int (numAt xs k) t ∧ numAt xs k ∈ xs.toList.map (·.1) := by
  obtain ⟨t, e⟩ := intItems_at h
  refine ⟨t, e, ?_⟩
  have e2 := h
  unfold intItems at e2
  rw [Array.getElem?_map, Array.getElem?_eq_getElem hk] at e2
  simp at e2
  rw [e] at e2
  injection e2 with e3 _
  rw [← e3]
  exact List.mem_map.mpr ⟨xs[k], by simp, rfl⟩
theorem num_mem {xs : Array (Int × Tok)} {m : Int} (h : m ∈ xs.toList.map (·.1)) : ∃ j, j < xs.size ∧ numAt xs j = m := by
  obtain ⟨p, hp, rfl⟩ := List.mem_map.mp h
  obtain ⟨j, hj, e⟩ := List.getElem_of_mem hp
  have hj' : j < xs.size := by simpa using hj
  refine ⟨j, hj', ?_⟩
  have h2 : (intItems xs)[j]? = some (.int xs[j].1 xs[j].2) := by unfold intItems; rw [Array.getElem?_map, Array.getElem?_eq_getElem hj']; rfl
  obtain ⟨t, e3⟩ := intItems_at h2
  injection e3 with e4 _
  rw [← e4]
  have e5 : xs[j] = p := by simpa using e
  rw [e5]
theorem call_maxL (hc : X.calm = true) : CallR X (.builtin "max") (fun xs H Q => ∃ (p : Addr) (ns : List Int), xs = [.ref p] ∧ SqL X.K H p (ns.map V.int) ∧ ns ≠ [] ∧ ∀ m ∈ ns, (∀ x ∈ ns, x ≤ m) → Q (.int m) H) := by
  rintro pins s σ H xs us Q I r ⟨p, ns, rfl, hq, hne, q⟩
  obtain ⟨u, rfl, rx⟩ := vals1 r
  cases rx
  obtain ⟨xs, hl, e1⟩ := lst_ints I hq
  have hz : 0 < xs.size := by
    rcases Nat.eq_zero_or_pos xs.size with z | z
    · exact absurd (by rw [e1]; simpa using z) hne
    · exact z
  refine max_intList (I.ok.hd hc) hl hz fun v h' tk hv hk => ?_
  obtain ⟨b1, b2⟩ := argBest_gt (numAt xs) (xs.size - 1)
  obtain ⟨t, rfl, hm⟩ := best_val (by omega) hv
  refine ⟨.int _, H, I.kept (t' := tk) hk, ⟨t, rfl⟩, q _ (by rw [e1]; exact hm) fun x hx => ?_⟩
  rw [e1] at hx
  obtain ⟨j, hj, rfl⟩ := num_mem hx
  exact b2 j (by omega)
end
end L2
namespace DL
open PySem L2
def intsT : List T → Option (List Int)
  | [] => some []
  | .int i :: r => match intsT r with
    | some l => some (i :: l)
    | none => none
  | _ :: _ => none
theorem intsT_map : ∀ l : List Int, intsT (l.map T.int) = some l
  | [] => rfl
  | a :: r => by rw [List.map_cons]; unfold intsT; rw [intsT_map r]
theorem intsT_some : ∀ {ts : List T} {l : List Int}, intsT ts = some l → ts = l.map T.int
  | [], l, h => by cases h; rfl
  | t :: r, l, h => by
    cases t <;> try (simp [intsT] at h)
    rename_i i
    split at h
    · rename_i m hm
      simp at h
      subst h
      rw [List.map_cons, intsT_some hm]
    · simp at h
def sumK (R : S → Prop) (ts : List T) : Prop := match intsT ts with
  | some l => R (.t (.int l.sum))
  | none => False
def fSum : List S → (S → Prop) → Prop
  | [.t (.lst ts)], R => sumK R ts
  | [.vt (.lst ts)], R => sumK R ts
  | [.ol ts], R => sumK R ts
  | _, _ => False
theorem treps_ints {K : PySem.W.Frag} {F : Hp} : ∀ {l : List Int} {xs : List V}, TReps K F (l.map T.int) xs → xs = l.map V.int
  | [], _, h => h
  | a :: r, _, ⟨x, ys, e, h1, h2⟩ => by
    subst e
    rw [treps_ints h2]
    exact congrArg (· :: _) h1
section
variable {X : Cx} {e : Expr} {wa : WA} {pos p : Pos}
end
theorem a_sumF (ts : List T) (R : S → Prop) : fSum [.t (.lst ts)] R = sumK R ts := rfl
theorem a_sumV (ts : List T) (R : S → Prop) : fSum [.vt (.lst ts)] R = sumK R ts := rfl
theorem a_sumO (ts : List T) (R : S → Prop) : fSum [.ol ts] R = sumK R ts := rfl
def bestK (le : Int → Int → Prop) (R : S → Prop) (ts : List T) : Prop := match intsT ts with
  | some l => l ≠ [] ∧ ∀ m ∈ l, (∀ x ∈ l, le x m) → R (.t (.int m))
  | none => False
theorem bestK_map (le : Int → Int → Prop) (R : S → Prop) (l : List Int) : bestK le R (l.map T.int) = (l ≠ [] ∧ ∀ m ∈ l, (∀ x ∈ l, le x m) → R (.t (.int m))) := by unfold bestK; rw [intsT_map]
def fBest (le : Int → Int → Prop) : List S → (S → Prop) → Prop
  | [.t (.lst ts)], R => bestK le R ts
  | [.vt (.lst ts)], R => bestK le R ts
  | [.ol ts], R => bestK le R ts
  | _, _ => False
abbrev fMaxL := fBest fun x m => x ≤ m
theorem ok_best {K : PySem.W.Frag} (le : Int → Int → Prop) : CallOk K (fun xs H Q => ∃ (p : Addr) (ns : List Int), xs = [.ref p] ∧ SqL K H p (ns.map V.int) ∧ ns ≠ [] ∧ ∀ m ∈ ns, (∀ x ∈ ns, le x m) → Q (.int m) H) (fBest le) := by
  intro F H ss vs R Q sb fu rp h k
  have fin : ∀ {ts : List T} {a : Addr} {xs : List V} {G : Hp}, bestK le R ts → SqL K H a xs → TReps K G ts xs → ∃ (p : Addr) (ns : List Int), [V.ref a] = [.ref p] ∧ SqL K H p (ns.map V.int) ∧ ns ≠ [] ∧ ∀ m ∈ ns, (∀ x ∈ ns, le x m) → Q (.int m) H := fun {ts a xs G} h1 h2 h3 => by
    unfold bestK at h1
    split at h1
    · rename_i l hl
      rw [intsT_some hl] at h3
      have e := treps_ints h3
      subst e
      exact ⟨a, l, rfl, h2, h1.1, fun m hm hx => k _ F H (.t (.int _)) (Ext.refl sb fu) rfl (h1.2 m hm hx)⟩
    · exact h1.elim
  unfold fBest at h
  split at h
  · obtain ⟨v, r, rfl, ⟨a, xs, rfl, h1, h2⟩, h3⟩ := rp
    cases (show r = [] from h3)
    exact fin h (sb.seq h1) h2
  · obtain ⟨v, r, rfl, ⟨a, xs, rfl, h1, h2⟩, h3⟩ := rp
    cases (show r = [] from h3)
    exact fin h h1 h2
  · obtain ⟨v, r, rfl, ⟨a, xs, rfl, h1, h2⟩, h3⟩ := rp
    cases (show r = [] from h3)
    exact fin h h1 h2
  · exact h.elim
section
variable {X : Cx} {e : Expr} {wa : WA} {pos p : Pos}
theorem de_maxL (hm : X.mg "max" = none) (ha : PA X [e] (liftA X.K wa)) (hg : Gl X "max" := by rfl) (hc : X.calm = true := by rfl) (he : starEach [e] X.env = (false, eval e X.env) :: starEach [] X.env := by exact star_plain rfl) : PE X (.Call (.Name "max" p) [e] [] pos) (liftE X.K (wCB fMaxL wa)) :=
  de_callB (call_maxL hc) (ok_best _) hm PyProof.Rows.boot_max ha hg (he := he) (hpl := rfl)
end
theorem a_bestF (le : Int → Int → Prop) (ts : List T) (R : S → Prop) : fBest le [.t (.lst ts)] R = bestK le R ts := rfl
theorem a_bestV (le : Int → Int → Prop) (ts : List T) (R : S → Prop) : fBest le [.vt (.lst ts)] R = bestK le R ts := rfl
theorem a_bestO (le : Int → Int → Prop) (ts : List T) (R : S → Prop) : fBest le [.ol ts] R = bestK le R ts := rfl
/-! a comprehension item by item -/
def compW (g : WG) (tc : WT) (te : WE) : List T → DSt → List T → (List T → Prop) → Prop
  | [], _, acc, R => R acc
  | x :: r, δ, acc, R => g x δ fun δ1 => tc δ1 fun ok => if ok = true then te δ1 fun s => itemK (fun y => acc.length < 100000 ∧ compW g tc te r δ1 (acc ++ [y]) R) s else compW g tc te r δ1 acc R
theorem a_compN (g : WG) (tc : WT) (te : WE) (δ : DSt) (acc : List T) (R : List T → Prop) : compW g tc te [] δ acc R = R acc := rfl
theorem a_compC (g : WG) (tc : WT) (te : WE) (x : T) (r : List T) (δ : DSt) (acc : List T) (R : List T → Prop) : compW g tc te (x :: r) δ acc R = g x δ fun δ1 => tc δ1 fun ok => if ok = true then te δ1 fun s => itemK (fun y => acc.length < 100000 ∧ compW g tc te r δ1 (acc ++ [y]) R) s else compW g tc te r δ1 acc R := rfl
/-! a display of int constants, at once -/
end DL

set_option Elab.async false
set_option linter.all false
set_option maxRecDepth 100000
/-! zip and enumerate in a for, sorted of ints, slices of tuples -/
namespace L2
open PySem PySem.Spec PyProof.Rows
section
variable {X : Cx} {pins : List (Addr × Obj)} {σ : St} {H : Hp} {s : Shared}
/-- the objects at fp have turned, the others are kept -/
theorem Inv.turnedS {h' : Heap} {t' : Nat} {fp : List Addr} (I : Inv X pins σ H s) (k : ∀ b o, b ∉ fp → s.heap.get? b = some o → h'.get? b = some o) (hf : ∀ b ∈ fp, FpOk X pins H b) : Inv X pins σ H { s with heap := h', toks := t' } := by
  have nit : ∀ b u, H b = some u → b ∉ fp := fun b u e z => by rw [(hf b z).1] at e; cases e
  refine I.step (g' := s.gens) (d' := s.drawn) (ch := fp) (fun b hb => ?_) (fun b o _ _ hc e _ => k b o hc e) (fun b o _ _ hc e _ => ⟨o.slots, k b o hc e⟩) (fun _ _ _ _ n => n)
    (fun b o hc e => ⟨o, k b o hc e⟩) (fun _ _ e => e) (fun _ _ _ e => e) (fun b ps e => ⟨#[], by rw [e]; simp⟩) (fun m hm => ?_) (fun b u e => ?_) I.bare
  · obtain ⟨f0, f1, f2, f3, f4, f5⟩ := hf b hb
    exact ⟨f3, f1, f4, f5⟩
  · obtain ⟨o, es, ep, ho, r⟩ := hm
    exact ⟨o, es, ep, k _ o (fun z => (hf _ z).2.1 rfl) ho, r⟩
  · refine (I.hok b u e).stay (fun c v hc q => k c v ?_ q) (fun _ q => q) fun _ _ q => q
    rcases hc with z | z
    · rw [z]; exact nit b u e
    · exact nit c _ z
end
structure Apart5 (z TI TO i1 i2 : Addr) : Prop where
  TIz : TI ≠ z
  TOz : TO ≠ z
  i1z : i1 ≠ z
  i2z : i2 ≠ z
  TITO : TI ≠ TO
  TIi1 : TI ≠ i1
  TIi2 : TI ≠ i2
  TOi1 : TO ≠ i1
  TOi2 : TO ≠ i2
  i12 : i1 ≠ i2
section
variable {X : Cx} {elts : List Expr} {x1 : Nat} {tp : Pos}
end
end L2
namespace DL
open PySem L2
/-! ### zip, enumerate -/
def zipT : List T → List T → List T
  | t :: ts, u :: us => .tup [t, u] :: zipT ts us
  | _, _ => []
def enumT (n : Nat) : List T → List T
  | t :: ts => .tup [.int n, t] :: enumT (n + 1) ts
  | [] => []
def zipK (δ : DSt) (W : List T → DSt → Prop) : List S → Prop
  | [.t (.lst ts), .t (.lst us)] => W (zipT ts us) δ
  | [.vt (.lst ts), .vt (.lst us)] => W (zipT ts us) (freeze δ)
  | _ => False
def enumK (δ : DSt) (W : List T → DSt → Prop) : List S → Prop
  | [.ol ts] => W (enumT 0 ts) δ
  | _ => False
def wiZip (wa : WA) : WI := fun δ W => wa δ (zipK δ W)
def wiEnum (wa : WA) : WI := fun δ W => wa δ (enumK δ W)
section
variable {X : Cx} {e e2 : Expr} {we : WE} {wa : WA} {p pos tp : Pos} {elts : List Expr} {x1 : Nat}
end
theorem a_wiZip (wa : WA) (δ : DSt) (W : List T → DSt → Prop) : wiZip wa δ W = wa δ (zipK δ W) := rfl
theorem a_wiEnum (wa : WA) (δ : DSt) (W : List T → DSt → Prop) : wiEnum wa δ W = wa δ (enumK δ W) := rfl
theorem zipK_2 (δ : DSt) (W : List T → DSt → Prop) (ts us : List T) : zipK δ W [.t (.lst ts), .t (.lst us)] = W (zipT ts us) δ := rfl
theorem zipK_V (δ : DSt) (W : List T → DSt → Prop) (ts us : List T) : zipK δ W [.vt (.lst ts), .vt (.lst us)] = W (zipT ts us) (freeze δ) := rfl
theorem enumK_1 (δ : DSt) (W : List T → DSt → Prop) (ts : List T) : enumK δ W [.ol ts] = W (enumT 0 ts) δ := rfl
/-! ### sorted of ints -/
def sortK (R : S → Prop) (ts : List T) : Prop := match intsT ts with
  | some l => l.length < 64 ∧ ∀ ms : List Int, ms.Perm l → ms.Pairwise (· ≤ ·) → R (.ol (ms.map T.int))
  | none => False
def fSort : List S → (S → Prop) → Prop
  | [.t (.lst ts)], R => sortK R ts
  | [.vt (.lst ts)], R => sortK R ts
  | [.ol ts], R => sortK R ts
  | _, _ => False
section
variable {X : Cx} {e : Expr} {wa : WA} {pos p : Pos}
end
theorem a_sortF (ts : List T) (R : S → Prop) : fSort [.t (.lst ts)] R = sortK R ts := rfl
theorem a_sortV (ts : List T) (R : S → Prop) : fSort [.vt (.lst ts)] R = sortK R ts := rfl
theorem a_sortO (ts : List T) (R : S → Prop) : fSort [.ol ts] R = sortK R ts := rfl
/-! ### t[lo:hi], not the whole of t -/
def slcT (lo hi : Option Int) (R : S → Prop) : S → Prop
  | .t (.tup ts) => ¬ (HT.sIx ts.length 0 lo = 0 ∧ HT.sIx ts.length ts.length hi = ts.length) ∧ R (.t (.tup (cutT ts lo hi)))
  | _ => False
def wSliceT (we : WE) (wl wh : DSt → (Option Int → Prop) → Prop) : WE := fun δ R => we δ fun s => wl δ fun lo => wh δ fun hi => slcT lo hi R s
section
variable {X : Cx} {e : Expr} {we : WE} {lo hi : Option Expr} {wl wh : DSt → (Option Int → Prop) → Prop} {pos p2 : Pos}
end
theorem a_sliceT (we : WE) (wl wh : DSt → (Option Int → Prop) → Prop) (δ : DSt) (R : S → Prop) : wSliceT we wl wh δ R = we δ fun s => wl δ fun lo => wh δ fun hi => slcT lo hi R s := rfl
theorem slcT_T (lo hi : Option Int) (R : S → Prop) (ts : List T) : slcT lo hi R (.t (.tup ts)) = (¬ (HT.sIx ts.length 0 lo = 0 ∧ HT.sIx ts.length ts.length hi = ts.length) ∧ R (.t (.tup (cutT ts lo hi)))) := rfl
end DL

set_option Elab.async false
set_option linter.all false
set_option maxRecDepth 100000
set_option maxHeartbeats 4000000
/-! min of a list by a key -/
namespace L2
open PySem PySem.Spec PyProof.Rows
section
variable {X : Cx} {pins : List (Addr × Obj)} {σ : St} {H : Hp} {s : Shared}
/-- what of FpOk does not hang on the abstract heap and the pins -/
structure FpSt (X : Cx) (b : Addr) : Prop where
  l : b ≠ X.env.locals
  f : b ∉ X.fs
  s : b ∈ X.ex ∨ X.s₀.heap.objs.size ≤ b
  c : ∀ x c, X.env.cells.lookup x = some c → c ≠ b
theorem FpSt.ok {b : Addr} (h : FpSt X b) (hn : H b = none) (hp : ∀ p ∈ X.pn ++ pins, p.1 ≠ b) : FpOk X pins H b := ⟨hn, h.l, h.f, h.s, h.c, hp⟩
theorem Inv.fpSt {b : Addr} (I : Inv X pins σ H s) (hb : s.heap.objs.size ≤ b) (hn : H b = none) : FpSt X b ∧ ∀ p ∈ X.pn ++ pins, p.1 ≠ b := by
  obtain ⟨_, h1, h2, h3, h4, h5⟩ := I.fpOk (H' := H) hb hn
  exact ⟨⟨h1, h2, h3, h4⟩, h5⟩
theorem Inv.pinAt (I : Inv X pins σ H s) {p : Addr × Obj} (hp : p ∈ pins) : s.heap.get? p.1 = some p.2 ∧ H p.1 = none := let ⟨a, b, _⟩ := I.pin p (List.mem_append_right _ hp); ⟨a, b⟩
/-- pins anew: some of the old ones, and some that stand -/
theorem Inv.repin {pins' : List (Addr × Obj)} (I : Inv X pins σ H s) (h : ∀ p ∈ pins', p ∈ pins ∨ (s.heap.get? p.1 = some p.2 ∧ H p.1 = none ∧ FpSt X p.1 ∧ ∀ v, p.2.data ≠ .cell v)) : Inv X pins' σ H s :=
  I.pins_of fun p hp => by
    rcases h p hp with z | ⟨a, b, c, d⟩
    · exact I.pin p (List.mem_append_right _ z)
    · exact ⟨a, b, c.l, c.f, d⟩
end
section
variable {X : Cx} {pins : List (Addr × Obj)} {σ : St} {l I S : Addr} {vs : List Value} {R : Result → Shared → Prop} {G : Hp → Prop}
abbrev bestO (vb : Value) (k : Int) (t : Tok) (c : Nat) : Obj := seqObj "list" #[vb, .int k t] c
theorem min_loop (kf : Nat → Int) (q : Addr) (hh : X.A.handled = none) (hl : ∀ H s pins, G H → Inv X pins σ H s → s.heap.IsList l vs.toArray) (hlI : l ≠ I) (hSI : S ≠ I) (fI : FpSt X I) (fS : FpSt X S)
    (nI : ∀ p ∈ X.pn ++ pins, p.1 ≠ I) (nS : ∀ p ∈ X.pn ++ pins, p.1 ≠ S)
    (turn : ∀ (i : Nat) (v : Value), vs[i]? = some v → ∀ (own : List (Addr × Obj)) (s : Shared) (H : Hp), G H → Inv X (pins ++ own) σ H s →
      wpAny (model X.prog X.w) X.A.in1 (call (.ref q) [v]) (fun u s' => ∃ t H', u = .int (kf i) t ∧ Inv X (pins ++ own) σ H' s' ∧ G H') (fun _ _ => False) s)
    (hR : ∀ i v H s, vs[i]? = some v → (∀ j, j < vs.length → kf i ≤ kf j) → G H → Inv X pins σ H s → R (.ok (.ret v)) s) :
    ∀ (r j i : Nat) (s : Shared) (H : Hp) (vb : Value) (tb : Tok) (c : Nat) (oI : Obj), vs.length - (j + 1) = r → j + 1 ≤ vs.length → G H →
      Inv X (pins ++ [(S, bestO vb (kf i) tb c), (I, oI)]) σ H s → s.heap.IsListIter I l (j + 1) → (∀ v, oI.data ≠ .cell v) → vs[i]? = some vb → i ≤ j → (∀ j', j' ≤ j → kf i ≤ kf j') →
      codeAny (model X.prog X.w) X.A (.builtin "min.loop" ⟨[.ref I, .ref q, .ref S], []⟩) R s := by
  have hname : (toString "min" ++ toString ".loop" : String) = "min.loop" := by decide
  have W := Walks.list (prog := X.prog) (w := X.w) (A := X.A.in1) hh I l hlI vs.toArray
  have hsz : vs.toArray.size = vs.length := List.size_toArray ..
  -- the best one's object changed, or the iterator turned
  have upS : ∀ {H : Hp} {s : Shared} {h' : Heap} {tk : Nat} {o oI : Obj}, Inv X (pins ++ [(S, o), (I, oI)]) σ H s → Heap.SameBut S s.heap h' → Inv X (pins ++ [(I, oI)]) σ H { s with heap := h', toks := tk } := fun {H s h' tk o oI} J sb => by
    have nS' := (J.pinAt (p := (S, o)) (by simp)).2
    have J1 : Inv X (pins ++ [(I, oI)]) σ H s := J.repin fun p hp => .inl (by simp at hp ⊢; rcases hp with z | z <;> simp [z])
    refine J1.turnedS (fp := [S]) (fun b o hb e => (sb.2 b (by simpa using hb)).trans e) fun b hb => ?_
    have e : b = S := by simpa using hb
    subst e
    refine fS.ok nS' fun p hp => ?_
    rcases List.mem_append.mp hp with z | z
    · exact nS p (List.mem_append_left _ z)
    · rcases List.mem_append.mp z with z | z
      · exact nS p (List.mem_append_right _ z)
      · simp at z; subst z; exact hSI.symm
  have upI : ∀ {H : Hp} {s : Shared} {h' : Heap} {tk : Nat} {o oI : Obj}, Inv X (pins ++ [(S, o), (I, oI)]) σ H s → (∀ b u, b ∉ [I] → s.heap.get? b = some u → h'.get? b = some u) → Inv X (pins ++ [(S, o)]) σ H { s with heap := h', toks := tk } ∧ H I = none := fun {H s h' tk o oI} J hk => by
    have nI' := (J.pinAt (p := (I, oI)) (by simp)).2
    have J1 : Inv X (pins ++ [(S, o)]) σ H s := J.repin fun p hp => .inl (by simp at hp ⊢; rcases hp with z | z <;> simp [z])
    refine ⟨J1.turnedS (fp := [I]) hk fun b hb => ?_, nI'⟩
    have e : b = I := by simpa using hb
    subst e
    refine fI.ok nI' fun p hp => ?_
    rcases List.mem_append.mp hp with z | z
    · exact nI p (List.mem_append_left _ z)
    · rcases List.mem_append.mp z with z | z
      · exact nI p (List.mem_append_right _ z)
      · simp at z; subst z; exact hSI
  intro r
  induction r with
  | zero =>
    intro j i s H vb tb c oI hr hj g J hit hoc hvb hij hbest
    have hin : j + 1 = vs.length := by omega
    have pS := J.pinAt (p := (S, bestO vb (kf i) tb c)) (by simp)
    refine codeAny_builtin PySem.F.entry_min_loop ?_
    rw [Around.under_plainId PySem.F.plain_min_loop _]
    show wpAny _ X.A.in1 (seqItems? (.ref S) >>= _) _ _ _
    refine wpAny_bind (wpAny_seqItems pS.1 rfl ?_)
    show wpAny _ X.A.in1 (tryCatch (pyNext (.ref I)) _ >>= _) _ _ _
    refine wpAny_bind (wpAny_tryCatch (W.done _ _ _ ⟨by rw [hsz, ← hin]; exact hit, hl _ _ _ g J⟩ fun h' tk' hk' => ?_))
    obtain ⟨J1, nI'⟩ := upI (tk := tk') J hk'
    have pS' := J1.pinAt (p := (S, bestO vb (kf i) tb c)) (by simp)
    have s1 := Heap.SameBut.update h' S (Obj.mapSeq fun _ => (#[] : Array Value))
    show wpAny _ X.A.in1 (updateSeq S (fun _ => #[]) >>= _) _ _ _
    refine wpAny_bind ?_
    refine wpAny_updateSeq pS'.1 rfl (wpAny_bind (wpAny_letGo (wpAny_pure ?_)))
    refine hR i vb H _ hvb (fun j' hj' => hbest j' (by omega)) g ?_
    have J2 : Inv X pins σ H { s with heap := h', toks := tk' } := J1.repin fun p hp => .inl (by simp [hp])
    refine Inv.turnedS (s := { s with heap := h', toks := tk' }) (t' := tk') J2 (fp := [S]) (fun b o hb e => (s1.2 b (by simpa using hb)).trans e) fun b hb => ?_
    have e : b = S := by simpa using hb
    subst e
    exact fS.ok pS'.2 nS
  | succ r ih =>
    intro j i s H vb tb c oI hr hj g J hit hoc hvb hij hbest
    have hlt : j + 1 < vs.length := by omega
    have pS := J.pinAt (p := (S, bestO vb (kf i) tb c)) (by simp)
    refine codeAny_builtin PySem.F.entry_min_loop ?_
    rw [Around.under_plainId PySem.F.plain_min_loop _]
    show wpAny _ X.A.in1 (seqItems? (.ref S) >>= _) _ _ _
    refine wpAny_bind (wpAny_seqItems pS.1 rfl ?_)
    show wpAny _ X.A.in1 (tryCatch (pyNext (.ref I)) _ >>= _) _ _ _
    refine wpAny_bind (wpAny_tryCatch (W.item (j + 1) _ _ _ (by rw [hsz]; exact hlt) ⟨hit, hl _ _ _ g J⟩ fun v h' tk' hP hst' hk' => ?_))
    have hv : vs[j + 1]? = some v := by simpa using hP
    obtain ⟨oI', hoI', hoc', hod'⟩ := id hst'.1
    obtain ⟨J1, nI'⟩ := upI (tk := tk') J hk'
    have ncell : ∀ v, oI'.data ≠ .cell v := fun v z => by rw [hod'] at z; cases z
    have J2 : Inv X (pins ++ [(S, bestO vb (kf i) tb c), (I, oI')]) σ H { s with heap := h', toks := tk' } := J1.repin fun p hp => by
      simp at hp
      rcases hp with z | z | z
      · exact .inl (by simp [z])
      · exact .inl (by simp [z])
      · subst z; exact .inr ⟨hoI', nI', fI, ncell⟩
    show wpAny _ X.A.in1 (tryCatch (holding [v] (call (.ref q) [v])) _ >>= _) _ _ _
    refine wpAny_bind (wpAny_tryCatch (wpAny_holding (wpAny_mono (turn (j + 1) v hv _ _ H g J2) (fun x s'' he => ?_) fun _ _ hF => hF.elim)))
    obtain ⟨t2, H2, rfl, J3, g2⟩ := he
    have pS2 := J3.pinAt (p := (S, bestO vb (kf i) tb c)) (by simp)
    have pI2 := J3.pinAt (p := (I, oI')) (by simp)
    have hit2 : s''.heap.IsListIter I l (j + 1 + 1) := ⟨oI', pI2.1, hoc', hod'⟩
    show wpAny _ X.A.in1 (tryCatch (holding [v, .int (kf (j + 1)) t2] (richCompare .Lt (.int (kf (j + 1)) t2) (.int (kf i) tb) >>= _)) _ >>= _) _ _ _
    refine wpAny_bind (wpAny_tryCatch (wpAny_holding (wpAny_bind (CmpOf.ints_lt (prog := X.prog) (w := X.w) (A := X.A.in1) (P := fun i v => ∃ t, v = .int (kf i) t) kf (fun i v h => h) (j + 1) i _ _ _ _ _ ⟨t2, rfl⟩ ⟨tb, rfl⟩ ?_))))
    refine wpAny_bind (wpAny_holding (wpAny_truthy_bool ?_))
    refine wpAny_bind (wpAny_letGo (wpAny_pure ?_))
    by_cases hb' : kf (j + 1) < kf i
    · have s1 := Heap.SameBut.update s''.heap S (Obj.mapSeq fun _ => #[v, .int (kf (j + 1)) t2])
      obtain ⟨c2, hc2⟩ : ∃ c2, (s''.heap.update S (Obj.mapSeq fun _ => #[v, .int (kf (j + 1)) t2])).get? S = some (seqObj "list" #[v, .int (kf (j + 1)) t2] c2) := ⟨_, get?_update_seq pS2.1 fun _ => #[v, .int (kf (j + 1)) t2]⟩
      simp only [hb', decide_true, if_true]
      refine wpAny_bind ?_
      refine wpAny_updateSeq pS2.1 rfl (wpAny_bind (wpAny_letGo ?_))
      rw [hname]
      have J4 := upS (tk := s''.toks) J3 s1
      refine wpAny_pure ⟨plainId_quiet PySem.F.plain_min_loop _, ih (j + 1) (j + 1) _ H2 v t2 c2 oI' (by omega) hlt g2 (J4.repin fun p hp => ?_) ⟨oI', (s1.2 I hSI.symm).trans pI2.1, hoc', hod'⟩ ncell hv (Nat.le_refl _) fun j' hj' => ?_⟩
      · simp at hp
        rcases hp with z | z | z
        · exact .inl (by simp [z])
        · subst z; exact .inr ⟨hc2, pS2.2, fS, fun v z => by cases z⟩
        · exact .inl (by simp [z])
      · by_cases e : j' = j + 1
        · subst e; omega
        · have hb1 := hbest j' (by omega)
          omega
    · simp only [hb', decide_false, Bool.false_eq_true, if_false]
      refine wpAny_bind (wpAny_letGo ?_)
      rw [hname]
      refine wpAny_pure ⟨plainId_quiet PySem.F.plain_min_loop _, ih (j + 1) i _ H2 vb tb c oI' (by omega) hlt g2 J3 hit2 ncell hvb (by omega) fun j' hj' => ?_⟩
      by_cases e : j' = j + 1
      · subst e; omega
      · exact hbest j' (by omega)
theorem call_min_key (kf : Nat → Int) (q : Addr) {E : Value → Shared → Prop} {Q : Value → Shared → Prop} {s : Shared} {H : Hp} (hh : X.A.handled = none) (hl : ∀ H s pins, G H → Inv X pins σ H s → s.heap.IsList l vs.toArray) (hne : 0 < vs.length) (g : G H) (J : Inv X pins σ H s)
    (turn : ∀ (i : Nat) (v : Value), vs[i]? = some v → ∀ (own : List (Addr × Obj)) (s : Shared) (H : Hp), G H → Inv X (pins ++ own) σ H s →
      wpAny (model X.prog X.w) X.A.in1 (call (.ref q) [v]) (fun u s' => ∃ t H', u = .int (kf i) t ∧ Inv X (pins ++ own) σ H' s' ∧ G H') (fun _ _ => False) s)
    (hQ : ∀ i v H s, vs[i]? = some v → (∀ j, j < vs.length → kf i ≤ kf j) → G H → Inv X pins σ H s → Q v s) :
    wpAny (model X.prog X.w) X.A (call (.builtin "min") [.ref l] [(Str.ofString "key", .ref q)]) Q E s := by
  have hname : (toString "min" ++ toString ".loop" : String) = "min.loop" := by decide
  have hls := hl _ _ _ g J
  obtain ⟨ol, hol, _⟩ := id hls
  have hll : l < s.heap.objs.size := Heap.lt_size hol
  refine kmk_tree PySem.F.kind_min PySem.F.plain_min PySem.F.entry_min (kmk_min_key _ _) ?_
  show wpAny _ X.A.in1 (Builtin.Builtins.bindParams "min" ["key", "default"] 0 ⟨[], [(Str.ofString "key", .ref q)]⟩ >>= _) _ _ s
  refine wpAny_bind (wpAny_of_eq (show Builtin.Builtins.bindParams "min" ["key", "default"] 0 ⟨[], [(Str.ofString "key", .ref q)]⟩ = pure [some (.ref q), none] from rfl) ?_)
  refine wpAny_bind (wpAny_pure ?_)
  refine wpAny_bind (wpAny_pyIter_list hls ?_)
  refine wpAny_bind (wpAny_newList ?_ (Nat.zero_le _))
  rw [hname]
  refine wpAny_pure ⟨plainId_quiet PySem.F.plain_min_loop _, ?_⟩
  have hS : (s.heap.push { cls := .type "list_iterator", data := .fields #[.ref l, .int 0 0] }).objs.size = s.heap.objs.size + 1 := size_push' ..
  have hlI : l ≠ s.heap.objs.size := Nat.ne_of_lt hll
  have gI : ((s.heap.push { cls := .type "list_iterator", data := .fields #[.ref l, .int 0 0] }).push (seqObj "list" #[] 0)).get? s.heap.objs.size = some { cls := .type "list_iterator", data := .fields #[.ref l, .int 0 0] } :=
    Heap.get?_push_of_some _ (Heap.get?_push_size _ rfl)
  have gS : ((s.heap.push { cls := .type "list_iterator", data := .fields #[.ref l, .int 0 0] }).push (seqObj "list" #[] 0)).get? (s.heap.push { cls := .type "list_iterator", data := .fields #[.ref l, .int 0 0] }).objs.size = some (seqObj "list" #[] 0) := Heap.get?_push_size _ rfl
  have JH : Inv X pins σ H { s with heap := (s.heap.push { cls := .type "list_iterator", data := .fields #[.ref l, .int 0 0] }).push (seqObj "list" #[] 0) } := J.kept (t' := s.toks) fun b o e => Heap.get?_push_of_some _ (Heap.get?_push_of_some _ e)
  obtain ⟨fI, nI⟩ := J.fpSt (b := s.heap.objs.size) (Nat.le_refl _) (J.hok.fresh (Nat.le_refl _))
  have leS : s.heap.objs.size ≤ (s.heap.push { cls := .type "list_iterator", data := .fields #[.ref l, .int 0 0] }).objs.size := by rw [hS]; exact Nat.le_succ _
  obtain ⟨fS, nS⟩ := J.fpSt (b := (s.heap.push { cls := .type "list_iterator", data := .fields #[.ref l, .int 0 0] }).objs.size) leS (J.hok.fresh leS)
  have hIn : H s.heap.objs.size = none := J.hok.fresh (Nat.le_refl _)
  have hSn : H (s.heap.push { cls := .type "list_iterator", data := .fields #[.ref l, .int 0 0] }).objs.size = none := J.hok.fresh leS
  have hSI : (s.heap.push { cls := .type "list_iterator", data := .fields #[.ref l, .int 0 0] }).objs.size ≠ s.heap.objs.size := by rw [hS]; exact Nat.ne_of_gt (Nat.lt_succ_self _)
  generalize (s.heap.push { cls := .type "list_iterator", data := .fields #[.ref l, .int 0 0] }).objs.size = S at *
  generalize hIe : s.heap.objs.size = I at *
  generalize (s.heap.push { cls := .type "list_iterator", data := .fields #[.ref l, .int 0 0] }).push (seqObj "list" #[] 0) = h1 at *
  have W := Walks.list (prog := X.prog) (w := X.w) (A := X.A.in1) hh I l hlI vs.toArray
  have hsz : vs.toArray.size = vs.length := List.size_toArray ..
  refine codeAny_builtin PySem.F.entry_min_loop ?_
  rw [Around.under_plainId PySem.F.plain_min_loop _]
  show wpAny _ X.A.in1 (seqItems? (.ref _) >>= _) _ _ _
  refine wpAny_bind (wpAny_seqItems gS rfl ?_)
  show wpAny _ X.A.in1 (tryCatch (pyNext (.ref I)) _ >>= _) _ _ _
  refine wpAny_bind (wpAny_tryCatch (W.item 0 _ _ _ (by rw [hsz]; exact hne) ⟨⟨_, gI, rfl, rfl⟩, hl _ _ _ g JH⟩ fun v h' tk' hP hst' hk' => ?_))
  have hv : vs[0]? = some v := by simpa using hP
  obtain ⟨oI', hoI', hoc', hod'⟩ := id hst'.1
  have ncell : ∀ v, oI'.data ≠ .cell v := fun v z => by rw [hod'] at z; cases z
  have J1 : Inv X pins σ H { s with heap := h', toks := tk' } := Inv.turnedS (s := { s with heap := h1 }) (t' := tk') JH (fp := [I]) (fun b o hb e => hk' b o hb e) fun b hb => by
    have e : b = I := by simpa using hb
    subst e
    exact fI.ok hIn nI
  have J2 : Inv X (pins ++ [(S, seqObj "list" #[] 0), (I, oI')]) σ H { s with heap := h', toks := tk' } := J1.repin fun p hp => by
    simp at hp
    rcases hp with z | z | z
    · exact .inl z
    · subst z; exact .inr ⟨hk' S _ (by simpa using hSI) gS, hSn, fS, fun v z => by cases z⟩
    · subst z; exact .inr ⟨hoI', hIn, fI, ncell⟩
  show wpAny _ X.A.in1 (tryCatch (holding [v] (call (.ref q) [v])) _ >>= _) _ _ _
  refine wpAny_bind (wpAny_tryCatch (wpAny_holding (wpAny_mono (turn 0 v hv _ _ H g J2) (fun x s'' he => ?_) fun _ _ hF => hF.elim)))
  obtain ⟨t2, H2, rfl, J3, g2⟩ := he
  have pS2 := J3.pinAt (p := (S, seqObj "list" #[] 0)) (by simp)
  have pI2 := J3.pinAt (p := (I, oI')) (by simp)
  have s1 := Heap.SameBut.update s''.heap S (Obj.mapSeq fun _ => #[v, .int (kf 0) t2])
  obtain ⟨c2, hc2⟩ : ∃ c2, (s''.heap.update S (Obj.mapSeq fun _ => #[v, .int (kf 0) t2])).get? S = some (seqObj "list" #[v, .int (kf 0) t2] c2) := ⟨_, get?_update_seq pS2.1 fun _ => #[v, .int (kf 0) t2]⟩
  show wpAny _ X.A.in1 (updateSeq S (fun _ => #[v, .int (kf 0) t2]) >>= _) _ _ _
  refine wpAny_bind ?_
  refine wpAny_updateSeq pS2.1 rfl ?_
  rw [hname]
  have J4 : Inv X (pins ++ [(I, oI')]) σ H2 { s'' with heap := s''.heap.update S (Obj.mapSeq fun _ => #[v, .int (kf 0) t2]), toks := s''.toks } := by
    have K1 : Inv X (pins ++ [(I, oI')]) σ H2 s'' := J3.repin fun p hp => .inl (by simp at hp ⊢; rcases hp with z | z <;> simp [z])
    refine K1.turnedS (fp := [S]) (fun b o hb e => (s1.2 b (by simpa using hb)).trans e) fun b hb => ?_
    have e : b = S := by simpa using hb
    subst e
    refine fS.ok pS2.2 fun p hp => ?_
    rcases List.mem_append.mp hp with z | z
    · exact nS p (List.mem_append_left _ z)
    · rcases List.mem_append.mp z with z | z
      · exact nS p (List.mem_append_right _ z)
      · simp at z; subst z; exact hSI.symm
  refine wpAny_pure ⟨plainId_quiet PySem.F.plain_min_loop _, min_loop kf q hh hl hlI hSI fI fS nI nS turn (fun i v H s a b c d => hQ i v H s a b c d) _ 0 0 _ H2 v t2 c2 oI' rfl hne g2 (J4.repin fun p hp => ?_) ⟨oI', (s1.2 _ hSI.symm).trans pI2.1, hoc', hod'⟩ ncell hv (Nat.le_refl _) fun j' hj' => ?_⟩
  · simp at hp
    rcases hp with z | z | z
    · exact .inl (by simp [z])
    · subst z; exact .inr ⟨hc2, pS2.2, fS, fun v z => by cases z⟩
    · exact .inl (by simp [z])
  · have e : j' = 0 := by omega
    subst e
    exact Int.le_refl _
end
end L2

set_option Elab.async false
set_option linter.all false
set_option maxRecDepth 100000
set_option maxHeartbeats 4000000
/-! a lambda of one parameter that reads one name of its def: made, and called -/
namespace L2
open PySem PySem.Spec PyProof.Rows PySem.W
/-- the lambda's run: its parameter, and the name it reads -/
def cxLam (P : Program) (w : World) (K : PySem.W.Frag) (mg : Str → Option Value) (base : Heap) (x y : Str) (qual : Str) (scope : Scope) (f : Addr) (cd : Value) (cl : List (Str × Addr)) (A : Around) (outer : List Env) (s : Shared) (H : Hp) : Cx where
  prog := P
  w := w
  K := K
  mg := mg
  base := base
  A := A.deeper (envX qual scope s.heap.objs.size f cd cl)
  N := [x, y]
  s₀ := s
  H₀ := H
  env := envX qual scope s.heap.objs.size f cd cl
  outer := outer
  stack := envX qual scope s.heap.objs.size f cd cl :: outer
  ex := []
  calm := true
  fn := fun _ => false
  pn := []
  xe := fun _ _ => False
/-- the lambda's scope -/
structure LamScope (x y : Str) (scope : Scope) : Prop where
  kind : scope.kind = .function
  co : scope.isCoroutine = false
  gen : scope.isGenerator = false
  nocell : ∀ z ∈ scope.names, z.2 ≠ .cell
  lx : scope.names.lookup x = some .local
  ly : scope.names.lookup y = some .free
  only : ∀ z, scope.names.lookup z = some .free → z = y
theorem lookup_mem {α : Type} : ∀ {l : List (Str × α)} {x : Str} {v : α}, l.lookup x = some v → (x, v) ∈ l := fun h => PySem.mem_of_lookup h
section
variable {X : Cx} {pins : List (Addr × Obj)} {σ : St} {H : Hp} {s : Shared}
theorem lam_call {qual x y : Str} {params : Arguments} {body : Expr} {scope : Scope} {pm ctv : Value} {c' cw f : Addr} {t : TE} {Q : VK} {u : Value} {v wv : V} {j : Nat}
    (I : Inv X pins σ H s) (hf : (f, kla_obj "<lambda>" qual params body scope [(y, cw)] pm c' ctv) ∈ pins) (hcd : s.heap.CodeRec (.ref c') qual) (hd : X.A.handled = none) (hdep : X.A.in1.depth < recursionLimit)
    (hbind : ∀ u, bindArgs (kla_fn "<lambda>" qual params body scope [(y, cw)] pm (.ref c') ctv) ⟨[u], []⟩ = pure [(x, u)]) (S : LamScope x y scope)
    (hN : X.N[j]? = some y) (hk : X.env.scope.names.lookup y = some .cell) (hcw : X.env.cells.lookup y = some cw) (hs : σ[j]? = some (some wv))
    (hb : PE (cxLam X.prog X.w X.K X.mg X.base x y qual scope f (.ref c') [(y, cw)] X.A.in1 X.stack s H) body t) (ht : t [some v, some wv] H Q) (rv : RelV v u) :
    wpAny (model X.prog X.w) X.A.in1 (call (.ref f) [u]) (EP X pins σ Q) (fun _ _ => False) s := by
  have e0 := I.env0.in1
  have pf := I.pinAt hf
  have lim : s.heap.NoLimit := e0.mod.nolimit.keeps fun b o e => (e0.bs b o e).1
  -- the name it reads
  obtain ⟨m, hn, hloc⟩ := I.loc
  obtain ⟨uw, rw', lk⟩ := hloc j y wv hN hs (.inr (.inl hk))
  have isc : s.heap.IsCell cw (some uw) := by
    rcases lk with ⟨k, _⟩ | ⟨_, c, e, z⟩
    · have k' : X.env.scope.names.lookup y = some .local := k
      rw [hk] at k'; cases k'
    · rw [hcw] at e; cases e; exact z
  refine wpAny_call (codeAny_mono (R := CR CX0 X.stack X.prog X.w H s Q (fun _ _ _ => False)) (kla_callFunE hdep pf.1 rfl S.co S.gen rfl hcd ?_) fun r s' hq => ?_)
  · rw [hbind]
    refine wpAny_pure (wpAny_newFunctionEnv S.nocell (fun z hz => by simp at hz; subst hz; exact S.lx) (fun h₁ hns hsb => ⟨lim.fresh _ hsb, ?_⟩) S.kind)
    have hk₁ : ∀ b o, s.heap.get? b = some o → h₁.get? b = some o := fun b o e => hsb.extBut b o (Nat.ne_of_lt (Heap.lt_size e)) (Heap.get?_push_of_some _ e)
    show codeAny _ _ (.expr body (envX qual scope s.heap.objs.size f (.ref c') [(y, cw)])) _ _
    have lkc : ∀ z c, ([(y, cw)] : List (Str × Addr)).lookup z = some c → z = y ∧ c = cw := fun z c e => by
      by_cases q : z = y
      · subst q; simp at e; exact ⟨rfl, e.symm⟩
      · have : (z == y) = false := by simpa using q
        simp [List.lookup, this] at e
    have hcx := I.freeC y cw hcw
    have J : Inv (cxLam X.prog X.w X.K X.mg X.base x y qual scope f (.ref c') [(y, cw)] X.A.in1 X.stack s H) [] [some v, some wv] H { s with heap := h₁, toks := s.toks + 1 } := by
      have noA : ∀ b : Addr, b ∉ ([] : List Addr) := fun b z => by cases z
      refine ⟨⟨e0.mod, S.kind, rfl, rfl, Nat.le_refl _, fun z z' c h1 h2 => ?_, fun z hz => ?_, fun _ _ z => (by cases z), fun _ => hd, Around.frames_deeper e0.frames, .inr ⟨rfl, rfl⟩, fun b z => absurd z (noA b), e0.bs, e0.bsz, fun b _ _ => noA b, fun b z => absurd z (noA b), e0.funs, e0.frf⟩,
        rfl, e0.bare, Un.kept hk₁, ⟨_, hns, fun i z a h1 h2 h3 => ?_⟩, fun z c h => ?_, e0.hok.fresh (Nat.le_refl _), fun z c h => ?_, fun p hp => absurd (show p ∈ ([] : List (Addr × Obj)) from hp) (by simp), e0.hok.kept hk₁, rfl⟩
      · rw [(lkc z c h1).1, (lkc z' c h2).1]
      · have hz : scope.names.lookup z = some .cell ∨ scope.names.lookup z = some .free := hz
        rcases hz with q | q
        · exact absurd rfl (S.nocell _ (lookup_mem q))
        · rw [S.only z q]; exact ⟨cw, by show List.lookup y [(y, cw)] = some cw; simp⟩
      · match i, h1, h2 with
        | 0, h1, h2 =>
          cases h1; cases h2
          exact ⟨u, rv, .inl ⟨S.lx, by simp⟩⟩
        | 1, h1, h2 =>
          cases h1; cases h2
          exact ⟨uw, rw', .inr ⟨.inr S.ly, cw, by show List.lookup y [(y, cw)] = some cw; simp, isc.keeps hk₁⟩⟩
        | n + 2, h1, _ => cases h1
      · obtain ⟨rfl, rfl⟩ := lkc z c h
        exact ⟨_, isc.keeps hk₁⟩
      · obtain ⟨rfl, rfl⟩ := lkc z c h
        exact hcx
    refine kla_codeExpr (wpAny_mono (hb [] _ _ H Q J ht) (fun r s' hr => ?_) fun _ _ z => z.elim)
    obtain ⟨v', H', J', r', q'⟩ := hr
    exact ⟨v', H', J'.os, J'.bare, J'.base, J'.hok, r', q'⟩
  · cases r with
    | error e => exact hq.elim
    | ok fl =>
      cases fl with
      | ret u => exact I.after hq
      | next => exact hq.elim
      | brk => exact hq.elim
      | cont => exact hq.elim
/-- what making a lambda leans on -/
structure LamEnv (X : Cx) (c P : Addr) (mb : Addr) : Prop where
  code : X.env.code = .ref c
  hd : CodeHd X.base c P
  bm : ∃ ob, X.mg "__builtins__" = some (.ref mb) ∧ mb ≠ builtinsNs ∧ mb ≠ mainGlobals ∧ X.base.get? mb = some ob ∧ ob.cls = .type "module" ∧ ob.dict = some builtinsNs ∧ ob.data = .plain
theorem lam_make {c P mb : Addr} {y : Str} {cw : Addr} {params : Arguments} {body : Expr} {scope : Scope} {lp : Pos} {ps : Array Value} {E : Value → Shared → Prop} {Q : Value → Shared → Prop} (I : Inv X pins σ H s) (L : LamEnv X c P mb) (hP : H P = some (.tbl ps)) (tab : DL.Tab H)
    (hcl : closureFor scope X.env = pure [(y, cw)]) (hq : X.env.qual ++ "<lambda>" = DL.lamQ) (hdef : defaultsOf params X.env = ([], []))
    (h : ∀ f c' pm ctv H' s', Inv X (pins ++ [(f, kla_obj "<lambda>" DL.lamQ params body scope [(y, cw)] pm c' ctv)]) σ H' s' → DL.Same H H' → DL.Tab H' → H' c' = some (DL.HCode c') → Q (.ref f) s') :
    wpAny (model X.prog X.w) X.A (eval (.Lambda params body scope lp) X.env) Q E s := by
  have hPo : s.heap.get? P = some (tabObj ps) := I.hok P _ hP
  obtain ⟨ht, hcodes⟩ := tab P ps hP
  have hgs : s.heap.Ns mainGlobals X.mg := I.ok.mod.glob.keeps I.bk
  have nP : ∀ b o, X.base.get? b = some o → b ≠ P := fun b o e z => by have := (I.bs b o e).2; rw [z, hP] at this; cases this
  have hgP : mainGlobals ≠ P := by
    obtain ⟨o, _, _, e, _⟩ := I.ok.mod.glob
    exact nP _ _ e
  obtain ⟨ob, b1, b2, b3, b4, b5, b6, b7⟩ := L.bm
  have hb : s.heap.BuiltinsAt X.mg P := ⟨mb, ob, b1, b2, b3, nP _ _ b4, I.bk _ _ b4, b5, b6, b7⟩
  have C := L.hd.keeps I.bk
  have ncell : ∀ (o : Obj), o = kla_obj "<lambda>" DL.lamQ params body scope [(y, cw)] ((X.mg "__name__").getD .none) 0 .none → True := fun _ _ => trivial
  refine kla_eval hdef ?_
  rw [hq]
  cases hf : codeAmong lp ps.toList with
  | some cv =>
    obtain ⟨c', rfl, hc'⟩ := hcodes lp cv hf
    refine kla_makeFunctionHit (mg := X.mg) hcl I.ok.glob hgs L.code C hPo ht hf hb fun ctv h' tk hk hsz => ?_
    have J1 : Inv X pins σ H { s with heap := h'.push { cls := .type "function", data := .func (kla_fn "<lambda>" DL.lamQ params body scope [(y, cw)] ((X.mg "__name__").getD .none) (.ref c') ctv) }, toks := tk } := I.kept fun b o e => Heap.get?_push_of_some _ (hk b o e)
    obtain ⟨fs, _⟩ := I.fpSt (b := h'.objs.size) hsz (I.hok.fresh hsz)
    exact h h'.objs.size c' _ ctv H _ (J1.repin fun p hp => by
      rcases List.mem_append.mp hp with z | z
      · exact .inl z
      · simp at z; subst z
        exact .inr ⟨Heap.get?_push_size _ rfl, I.hok.fresh hsz, fs, fun v z => by cases z⟩) (DL.Same.refl _) tab hc'
  | none =>
    refine kla_makeFunction (mg := X.mg) hcl I.ok.glob hgs L.code C hPo ht hf hgP hb fun c' ctv h' tk hx hge hlt hrec htb => ?_
    have hcn : H c' = none := I.hok.fresh hge
    have cP : c' ≠ P := fun z => by rw [z, hP] at hcn; cases hcn
    have hsz : s.heap.objs.size ≤ h'.objs.size := Nat.le_of_lt (Nat.lt_of_le_of_lt hge hlt)
    let kob : Obj := kla_obj "<lambda>" DL.lamQ params body scope [(y, cw)] ((X.mg "__name__").getD .none) c' ctv
    let ps' : Array Value := ps ++ #[rawInt lp.line, rawInt lp.col, .ref c']
    let H' : Hp := upd (upd H P (.tbl ps')) c' (DL.HCode c')
    have old : ∀ b o, b ≠ P → s.heap.get? b = some o → (h'.push kob).get? b = some o := fun b o n e => Heap.get?_push_of_some _ (hx b o n e)
    have gP : (h'.push kob).get? P = some (tabObj ps') := Heap.get?_push_of_some _ htb
    have H'o : ∀ b, b ≠ P → b ≠ c' → H' b = H b := fun b n1 n2 => by show upd (upd H P _) c' _ b = _; rw [upd_ne n2, upd_ne n1]
    have H'P : H' P = some (.tbl ps') := by show upd (upd H P _) c' _ P = _; rw [upd_ne (Ne.symm cP), upd_same]
    have H'c : H' c' = some (DL.HCode c') := upd_same
    have un : Un X.fs [] H H' s.heap (h'.push kob) := by
      have np : ∀ b, H b = none → b ≠ P := fun b n z => by rw [z, hP] at n; cases n
      have nc : ∀ b o, s.heap.get? b = some o → b ≠ c' := fun b o e => Nat.ne_of_lt (Nat.lt_of_lt_of_le (Heap.lt_size e) hge)
      refine ⟨fun b o e n _ _ => old b o (np b n) e, fun b o e n _ _ => ⟨o.slots, old b o (np b n) e⟩, fun b o e n _ => by rw [H'o b (np b n) (nc b o e)]; exact n, fun b o e _ => ?_, fun b xs e => ?_, fun b o u e => ?_, fun b qs e => ?_⟩
      · by_cases z : b = P
        · subst z; exact ⟨_, gP⟩
        · exact ⟨o, old b o z e⟩
      · rw [H'o b (fun z => by rw [z, hP] at e; cases e) (ne_of_none e hcn)]; exact e
      · rw [H'o b (fun z => by rw [z, hP] at e; cases e) (ne_of_none e hcn)]; exact e
      · by_cases z : b = P
        · subst z; rw [hP] at e; cases e; exact ⟨_, H'P⟩
        · exact ⟨#[], by rw [H'o b z (ne_of_none e hcn), e]; simp⟩
    have hrec' : (h'.push kob).CodeRec (.ref c') DL.lamQ := hrec.push _
    have hok : HOk X.prog X.w H' (h'.push kob) := fun a o e => by
      by_cases z1 : a = c'
      · subst z1
        rw [H'c] at e; cases e
        refine ⟨hrec', ?_, fun h1 h2 ⟨c, o, vs, t, q1, q2, q3, q4⟩ k => ?_⟩
        · obtain ⟨c, o, vs, t, q1, q2, _⟩ := hrec'
          cases q1; exact ⟨o, q2⟩
        · cases q1; exact ⟨_, o, vs, t, rfl, k o q2, q3, q4⟩
      · by_cases z2 : a = P
        · subst z2
          rw [H'P] at e; cases e
          exact gP
        · have e' : H a = some o := by rw [← H'o a z2 z1]; exact e
          refine (I.hok a o e').stay (fun b u hb q => old b u ?_ q) (fun b q => ?_) fun b xs q => ?_
          · rcases hb with rfl | hb
            · exact z2
            · exact fun z => by rw [z, hP] at hb; cases hb
          · rw [H'o b (fun z => by rw [z, hP] at q; cases q) (ne_of_none q hcn)]; exact q
          · rw [H'o b (fun z => by rw [z, hP] at q; cases q) (ne_of_none q hcn)]; exact q
    have J1 : Inv X pins σ H' { s with heap := h'.push kob, toks := tk } := I.un un hok
    obtain ⟨fs, _⟩ := I.fpSt (b := h'.objs.size) hsz (I.hok.fresh hsz)
    have hfn : H' h'.objs.size = none := by
      rw [H'o _ (fun z => ?_) (fun z => ?_)]
      · exact I.hok.fresh hsz
      · have := I.hok.lt hP
        rw [← z] at this
        exact absurd (Nat.lt_of_lt_of_le this hsz) (Nat.lt_irrefl _)
      · rw [← z] at hlt; exact absurd hlt (Nat.lt_irrefl _)
    have sm : DL.Same H H' := ⟨fun b o e n => by
        have n1 : b ≠ P := fun z => by rw [z, hP] at e; cases e; cases n
        rw [H'o b n1 (ne_of_none e hcn)]; exact e, fun b qs e => by
        by_cases z : b = P
        · subst z; exact ⟨_, H'P⟩
        · exact ⟨qs, by rw [H'o b z (ne_of_none e hcn)]; exact e⟩⟩
    have tab' : DL.Tab H' := fun P2 qs e => by
      have keepc : ∀ c, H c = some (DL.HCode c) → H' c = some (DL.HCode c) := fun c q => sm.get q
      by_cases z1 : P2 = c'
      · subst z1; rw [H'c] at e; cases e
      · by_cases z2 : P2 = P
        · subst z2
          rw [H'P] at e; cases e
          refine ⟨?_, fun pos v q => ?_⟩
          · show TriplesOk (ps ++ #[rawInt lp.line, rawInt lp.col, .ref c']).toList
            rw [Array.toList_append]; exact TriplesOk_snoc _ _ _ _ ht
          · have q' : codeAmong pos (ps.toList ++ [rawInt lp.line, rawInt lp.col, .ref c']) = some v := by rw [← Array.toList_append] at *; exact q
            have key : ∀ l : List Value, TriplesOk l → codeAmong pos (l ++ [rawInt lp.line, rawInt lp.col, .ref c']) = some v → codeAmong pos l = some v ∨ v = .ref c' := by
              intro l hl
              fun_induction TriplesOk l with
              | case1 =>
                intro hq
                simp only [List.nil_append, codeAmong, rawInt] at hq
                split at hq
                · exact .inr (Option.some.inj hq).symm
                · cases hq
              | case2 a t b u x rest ih =>
                intro hq
                simp only [List.cons_append, codeAmong] at hq ⊢
                split
                · rename_i hc; rw [if_pos hc] at hq; exact .inl hq
                · rename_i hc; rw [if_neg hc] at hq; exact ih hl hq
              | case3 => exact hl.elim
            rcases key _ ht q' with z | z
            · obtain ⟨c, e1, e2⟩ := hcodes pos v z
              exact ⟨c, e1, keepc c e2⟩
            · exact ⟨c', z, H'c⟩
        · rw [H'o P2 z2 z1] at e
          obtain ⟨t1, t2⟩ := tab P2 qs e
          exact ⟨t1, fun pos v q => let ⟨c, e1, e2⟩ := t2 pos v q; ⟨c, e1, keepc c e2⟩⟩
    exact h h'.objs.size c' _ ctv H' _ (J1.repin fun p hp => by
      rcases List.mem_append.mp hp with z | z
      · exact .inl z
      · simp at z; subst z
        exact .inr ⟨Heap.get?_push_size _ rfl, hfn, fs, fun v z => by cases z⟩) sm tab' H'c
end
end L2

set_option Elab.async false
set_option linter.all false
set_option maxRecDepth 100000
set_option maxHeartbeats 4000000
/-! min(e, key=lambda x: ..) -/
namespace L2
open PySem PySem.Spec PyProof.Rows PySem.W
def tMinKey (K : PySem.W.Frag) (P : Addr) (te tb : TE) (j : Nat) : TE := fun σ H Q => te σ H fun x H1 => ∃ (a : Addr) (xs : List Addr) (ps : Array Value) (G : Hp → Prop) (kf : Nat → Int) (wv : V), x = .ref a ∧ xs ≠ [] ∧ H1 P = some (.tbl ps) ∧ DL.Tab H1 ∧ σ[j]? = some (some wv) ∧
  (∀ H2, DL.Same H1 H2 → DL.Tab H2 → G H2) ∧ (∀ H2, G H2 → SqL K H2 a (xs.map V.ref)) ∧ (∀ i v H2, xs[i]? = some v → G H2 → tb [some (.ref v), some wv] H2 fun r H3 => r = .int (kf i) ∧ G H3 ∧ DL.Same H2 H3) ∧
  ∀ i v H2, xs[i]? = some v → (∀ j, j < xs.length → kf i ≤ kf j) → G H2 → Q (.ref v) H2
theorem vals_refs : ∀ {xs : List Addr} {us : List Value}, Vals (xs.map V.ref) us → us = xs.map Value.ref
  | [], _, .nil => rfl
  | _ :: _, _, .cons r t => by cases r; rw [vals_refs t]; rfl
section
variable {X : Cx}
theorem pe_minKey {c P mb cw : Addr} {x y : Str} {params : Arguments} {body e : Expr} {scope : Scope} {lp p pos kp : Pos} {te tb : TE} {j : Nat} (hc : X.calm = true) (hd : X.A.handled = none) (hdep : X.A.in1.depth < recursionLimit) (hm : X.mg "min" = none) (L : LamEnv X c P mb) (S : LamScope x y scope)
    (hN : X.N[j]? = some y) (hk : X.env.scope.names.lookup y = some .cell) (hcw : X.env.cells.lookup y = some cw) (hcl : closureFor scope X.env = pure [(y, cw)]) (hq : X.env.qual ++ "<lambda>" = DL.lamQ) (hdef : defaultsOf params X.env = ([], []))
    (hbind : ∀ pm cd ctv u, bindArgs (kla_fn "<lambda>" DL.lamQ params body scope [(y, cw)] pm cd ctv) ⟨[u], []⟩ = pure [(x, u)])
    (he : PE X e te) (hmono : ∀ σ H (Q Q2 : VK), (∀ x H1, Q x H1 → Q2 x H1) → te σ H Q → te σ H Q2) (hb : ∀ f c' s H, PE (cxLam X.prog X.w X.K X.mg X.base x y DL.lamQ scope f (.ref c') [(y, cw)] X.A.in1 X.stack s H) body tb)
    (hg : Gl X "min" := by rfl) (hs : starEach [e] X.env = (false, eval e X.env) :: starEach [] X.env := by exact star_plain rfl)
    (hks : (backToKw pos (keywordEach [⟨some "key", .Lambda params body scope lp, kp⟩] X.env)).filterMap (·.1) = [Str.ofString "key"] := by rfl)
    (h1 : backTo pos (starEach [e] X.env) = (false, eval e X.env) :: backTo pos (starEach [] X.env) := by rfl) (h2 : (backTo pos (starEach [e] X.env)).any (·.1) = false := by exact star_any rfl)
    (h3 : (backToKw pos (keywordEach [⟨some "key", .Lambda params body scope lp, kp⟩] X.env)).all (·.1.isSome) = true := by rfl) (h4 : (backToKw pos (keywordEach [⟨some "key", .Lambda params body scope lp, kp⟩] X.env)).any (·.1.isNone) = false := by rfl) :
    PE X (.Call (.Name "min" p) [e] [⟨some "key", .Lambda params body scope lp, kp⟩] pos) (tMinKey X.K P te tb j) := by
  intro pins s σ H Q I h
  refine wpAny_Call_Name_kw (ld_blt I hg hm PyProof.Rows.boot_min ?_)
  have h' : tCons te tNil σ H (fun vs H1 => ∃ x, vs = [x] ∧ ∃ (a : Addr) (xs : List Addr) (ps : Array Value) (G : Hp → Prop) (kf : Nat → Int) (wv : V), x = .ref a ∧ xs ≠ [] ∧ H1 P = some (.tbl ps) ∧ DL.Tab H1 ∧ σ[j]? = some (some wv) ∧
      (∀ H2, DL.Same H1 H2 → DL.Tab H2 → G H2) ∧ (∀ H2, G H2 → SqL X.K H2 a (xs.map V.ref)) ∧ (∀ i v H2, xs[i]? = some v → G H2 → tb [some (.ref v), some wv] H2 fun r H3 => r = .int (kf i) ∧ G H3 ∧ DL.Same H2 H3) ∧
      ∀ i v H2, xs[i]? = some v → (∀ j, j < xs.length → kf i ≤ kf j) → G H2 → Q (.ref v) H2) := hmono _ _ _ _ (fun x H1 q => ⟨x, rfl, q⟩) h
  refine callWith_kw (thn (pa_cons he pa_nil hs pos pins s σ H _ I h') fun us s1 ⟨vs, H1, I1, r1, q1⟩ => ?_) h1 h2 h3 h4
  obtain ⟨x0, rfl, a, xs, ps, G, kf, wv, rfl, hne, hP, tab, hwv, hG, hL, turn, fin⟩ := q1
  obtain ⟨u0, us, rfl, r0, rn⟩ : ∃ u0 us', us = u0 :: us' ∧ RelV (.ref a) u0 ∧ Vals [] us' := by
    cases r1 with | cons r t => exact ⟨_, _, rfl, r, t⟩
  cases rn; cases r0
  refine kws_cons (lam_make I1 L hP tab hcl hq hdef fun f c' pm ctv H2 s2 I2 sm tab2 hc' => kws_nil ?_)
  rw [hks]
  refine call_min_key (X := X) (pins := pins ++ [(f, kla_obj "<lambda>" DL.lamQ params body scope [(y, cw)] pm c' ctv)]) (σ := σ) (l := a) (vs := xs.map Value.ref) (G := fun H => G H ∧ H c' = some (DL.HCode c')) kf f hd (fun H s pins g J => ?_) (by rw [List.length_map]; exact List.length_pos_iff.mpr hne) ⟨hG H2 sm tab2, hc'⟩ I2 (fun i u hi own s3 H3 g3 J3 => ?_) fun i u H3 s3 hi hmin g3 J3 => ?_
  · obtain ⟨its, r, p, _⟩ := J.list (hL H g.1)
    rw [vals_refs r] at p
    obtain ⟨o, n, e1, e2, e3, e4⟩ := p
    exact ⟨o, e1, e2, n, e4⟩
  · obtain ⟨v, hv, rfl⟩ : ∃ v, xs[i]? = some v ∧ u = .ref v := by
      rw [List.getElem?_map] at hi
      cases e : xs[i]? with
      | none => rw [e] at hi; cases hi
      | some v => rw [e] at hi; cases hi; exact ⟨v, rfl, rfl⟩
    have hcd : s3.heap.CodeRec (.ref c') DL.lamQ := (J3.hok c' _ g3.2).1
    refine thn (lam_call (pm := pm) (ctv := ctv) (t := tb) (v := .ref v) (wv := wv) (Q := fun r H4 => r = .int (kf i) ∧ G H4 ∧ DL.Same H3 H4) J3 (by simp) hcd hd hdep (hbind _ _ _) S hN hk hcw hwv (hb f c' s3 H3) (turn i v H3 hv g3.1) rfl) fun u s4 ⟨r, H4, J4, rr, e, g4, sm4⟩ => ?_
    subst e
    obtain ⟨t, rfl⟩ := rr
    exact ⟨t, H4, rfl, J4, g4, sm4.get g3.2⟩
  · obtain ⟨v, hv, rfl⟩ : ∃ v, xs[i]? = some v ∧ u = .ref v := by
      rw [List.getElem?_map] at hi
      cases e : xs[i]? with
      | none => rw [e] at hi; cases hi
      | some v => rw [e] at hi; cases hi; exact ⟨v, rfl, rfl⟩
    exact ⟨.ref v, H3, J3.repin fun p hp => .inl (by simp [hp]), rfl, fin i v H3 hv (fun j hj => hmin j (by rw [List.length_map]; exact hj)) g3.1⟩
end
end L2

set_option Elab.async false
set_option linter.all false
set_option maxRecDepth 100000
set_option maxHeartbeats 4000000
/-! min(e, key=lambda x: ..) by data; a def that makes a lambda -/
namespace DL
open PySem L2 PyProof.Rows PySem.W
def tups : List T → Bool
  | [] => true
  | .tup us :: r => purs us && tups r
  | _ :: _ => false
theorem tups_pur : ∀ {ts : List T}, tups ts = true → ∀ t ∈ ts, pur t = true
  | [], _, t, h => by cases h
  | .tup us :: r, h, t, m => by
    simp only [tups, Bool.and_eq_true] at h
    rcases List.mem_cons.mp m with z | z
    · subst z; simpa only [pur] using h.1
    · exact tups_pur h.2 t z
theorem tups_refs {K : PySem.W.Frag} {H : Hp} : ∀ {ts : List T} {vs : List V}, tups ts = true → TReps K H ts vs → ∃ as : List Addr, vs = as.map V.ref
  | [], _, _, h => ⟨[], h⟩
  | .tup us :: r, _, h, ⟨x, q, e, p, t⟩ => by
    simp only [tups, Bool.and_eq_true] at h
    obtain ⟨as, z⟩ := tups_refs h.2 t
    unfold TRep at p
    obtain ⟨a, xs, e1, _, _⟩ := p
    exact ⟨a :: as, by rw [e, z, e1]; rfl⟩
def wMinKey (we : WE) (j : Nat) (wb : WE) : WE := fun δ R => we δ fun s => ∃ (ts : List T) (kf : T → Int) (sj : S), items s = some ts ∧ ts ≠ [] ∧ tups ts = true ∧ δ[j]? = some (some sj) ∧
  (∀ t ∈ ts, wb [some (.t t), some (.t (tr sj))] fun r => r = .t (.int (kf t))) ∧ ∀ t ∈ ts, (∀ u ∈ ts, kf t ≤ kf u) → R (.t t)
/-- what the least one by the key is asked -/
def minK (j : Nat) (wb : WE) (δ : DSt) (R : S → Prop) (s : S) : Prop := ∃ (ts : List T) (kf : T → Int) (sj : S), items s = some ts ∧ ts ≠ [] ∧ tups ts = true ∧ δ[j]? = some (some sj) ∧
  (∀ t ∈ ts, wb [some (.t t), some (.t (tr sj))] fun r => r = .t (.int (kf t))) ∧ ∀ t ∈ ts, (∀ u ∈ ts, kf t ≤ kf u) → R (.t t)
theorem a_minKey {we wb : WE} {j : Nat} {δ : DSt} {R : S → Prop} : wMinKey we j wb δ R = we δ (minK j wb δ R) := rfl
theorem SlotOk.tree {K : PySem.W.Frag} {F H : Hp} (e : Same F H) : ∀ {s : S} {v : V}, SlotOk K F H s v → TRep K H (tr s) v
  | .t _, _, h => TRep.same e h
  | .vt _, _, h => h.elim
  | .ol _, _, ⟨a, xs, h1, h2, h3, h4⟩ => ⟨a, xs, h1, SqL.of h3, TReps.same e h4⟩
section
variable {X : Cx}
theorem de_minKey {c P mb cw : Addr} {x y : Str} {params : Arguments} {body e : Expr} {scope : Scope} {lp p pos kp : Pos} {we wb : WE} {j : Nat} (hc : X.calm = true) (hd : X.A.handled = none) (hdep : X.A.in1.depth < recursionLimit) (hm : X.mg "min" = none) (L : LamEnv X c P mb) (S : LamScope x y scope) (hlam : lamTab X.K = some P)
    (hN : X.N[j]? = some y) (hk : X.env.scope.names.lookup y = some .cell) (hcw : X.env.cells.lookup y = some cw) (hcl : closureFor scope X.env = pure [(y, cw)]) (hq : X.env.qual ++ "<lambda>" = DL.lamQ) (hdef : defaultsOf params X.env = ([], []))
    (hbind : ∀ pm cd ctv u, bindArgs (kla_fn "<lambda>" DL.lamQ params body scope [(y, cw)] pm cd ctv) ⟨[u], []⟩ = pure [(x, u)])
    (he : PE X e (liftE X.K we)) (hb : ∀ f c' s H, PE (cxLam X.prog X.w X.K X.mg X.base x y DL.lamQ scope f (.ref c') [(y, cw)] X.A.in1 X.stack s H) body (liftE X.K wb))
    (hg : Gl X "min" := by rfl) (hs : starEach [e] X.env = (false, eval e X.env) :: starEach [] X.env := by exact star_plain rfl)
    (hks : (backToKw pos (keywordEach [⟨some "key", .Lambda params body scope lp, kp⟩] X.env)).filterMap (·.1) = [Str.ofString "key"] := by rfl)
    (h1 : backTo pos (starEach [e] X.env) = (false, eval e X.env) :: backTo pos (starEach [] X.env) := by rfl) (h2 : (backTo pos (starEach [e] X.env)).any (·.1) = false := by exact star_any rfl)
    (h3 : (backToKw pos (keywordEach [⟨some "key", .Lambda params body scope lp, kp⟩] X.env)).all (·.1.isSome) = true := by rfl) (h4 : (backToKw pos (keywordEach [⟨some "key", .Lambda params body scope lp, kp⟩] X.env)).any (·.1.isNone) = false := by rfl) :
    PE X (.Call (.Name "min" p) [e] [⟨some "key", .Lambda params body scope lp, kp⟩] pos) (liftE X.K (wMinKey we j wb)) :=
  (pe_minKey (te := liftE X.K we) (tb := liftE X.K wb) hc hd hdep hm L S hN hk hcw hcl hq hdef hbind he (fun σ H Q Q2 i ⟨δ, R, F, rl, h, k⟩ => ⟨δ, R, F, rl, h, fun v F' H' s a b c => i _ _ (k v F' H' s a b c)⟩) hb hg hs hks h1 h2 h3 h4).imp fun σ H Q ⟨δ, R, F, rl, h, k⟩ => ⟨δ, _, F, rl, h, fun v F1 H1 s e p q => by
    obtain ⟨ts, kf, sj, hi, hne, ht, hsj, hbo, hf⟩ := q
    obtain ⟨a, vs, rfl, sq, tp⟩ := (p.val e.sub).list e.sub hi
    obtain ⟨as, rfl⟩ := tups_refs ht tp
    have tk := (rl.ext e).tab
    obtain ⟨ps, hP⟩ := tk.2 P hlam
    obtain ⟨wv, hσ, so⟩ := rl.slot j sj hsj
    have tw := (so.ext e).tree e.sub
    have len := tp.length
    rw [List.length_map] at len
    have at_ : ∀ (i : Nat) (v : Addr), as[i]? = some v → ∃ t, ts[i]? = some t ∧ TRep X.K H1 t (.ref v) := fun i v hv => tp.getV (by rw [List.getElem?_map, hv]; rfl)
    refine ⟨a, as, ps, fun H2 => Same H1 H2 ∧ Tab H2, fun i => kf (ts.getD i .non), wv, rfl, fun z => ?_, hP, tk.1, hσ, fun H2 s2 t2 => ⟨s2, t2⟩, fun H2 g => g.1.seq sq, fun i v H2 hv g => ?_, fun i v H2 hv hmin g => ?_⟩
    · subst z
      exact hne (List.length_eq_zero_iff.mp (by simpa using len.symm))
    · obtain ⟨t, h1, h2⟩ := at_ i v hv
      have hd : ts.getD i .non = t := by rw [List.getD_eq_getElem?_getD, h1]; rfl
      refine ⟨[some (.t t), some (.t (tr sj))], _, H2, ⟨Same.refl _, fun _ _ h _ => .inl h, rfl, fun m s hm => ?_, fun m n b us ws _ hm => ?_, tk.same g.1 g.2⟩, hbo t (List.mem_of_getElem? h1), fun r F3 H3 s e3 p3 q3 => ?_⟩
      · match m, hm with
        | 0, hm => cases hm; exact ⟨_, rfl, TRep.same g.1 h2⟩
        | 1, hm => cases hm; exact ⟨_, rfl, TRep.same g.1 tw⟩
        | n + 2, hm => cases hm
      · match m, hm with
        | 0, hm => cases hm
        | 1, hm => cases hm
        | n + 2, hm => cases hm
      · subst q3
        refine ⟨?_, ⟨g.1.trans e3.hh, e3.tb g.2⟩, e3.hh⟩
        show r = V.int (kf (ts.getD i .non))
        rw [hd]
        exact p3
    · obtain ⟨t, h1, h2⟩ := at_ i v hv
      have hm := List.mem_of_getElem? h1
      have hd : ts.getD i .non = t := by rw [List.getD_eq_getElem?_getD, h1]; rfl
      have ex := grow_ext (x := none) e.sub e.full g.1 (fun _ z => by cases z) (fun _ => g.2)
      refine k _ _ H2 (.t t) (e.trans ex) (TRep.same ex.ff (TRep.full e.full (tups_pur ht t hm) h2)) (hf t hm fun u hu => ?_)
      obtain ⟨n, hn, hu'⟩ := List.getElem_of_mem hu
      have : kf (ts.getD i .non) ≤ kf (ts.getD n .non) := hmin n (by omega)
      rw [hd] at this
      have hd2 : ts.getD n .non = u := by rw [List.getD_eq_getElem?_getD, List.getElem?_eq_getElem hn, hu']; rfl
      rw [hd2] at this
      exact this⟩
end
theorem lam_only {l : List (Str × NameKind)} {y z : Str} (h : ∀ p ∈ l, p.2 = .free → p.1 = y) (hz : l.lookup z = some .free) : z = y := h _ (lookup_mem hz) rfl
theorem lamTab_of {K : PySem.W.Frag} {f c T : Addr} {oc oc' : Value} {od od' : Option Addr} {fd : FuncData} {sl sl' : Array (Option Value)} {vs : Array Value} (h1 : PySem.W.nsIn K mainGlobals "depth" = some (some (.ref f))) (h2 : K.lookup f = some ⟨oc, od, .func fd, sl⟩) (h3 : fd.code = .ref c) (h4 : K.lookup c = some ⟨oc', od', .fields vs, sl'⟩) (h5 : (vs[11]? : Option Value) = some (.ref T)) : lamTab K = some T := by
  unfold lamTab
  simp only [h1, h2, h3, h4, h5]
/-- a def that makes a lambda, its code's table at P -/
structure FunC (K : PySem.W.Frag) (x qual : Str) (st : Stmt) (f : Addr) (fd : FuncData) (c P : Addr) : Prop where
  ex : ∃ (oc : Value) (od : Option Addr) (kV doc pm : Value) (an : Option Addr) (ct : Value) (osl : Array (Option Value)),
    fd = PySem.W.fnOf x qual (defArgs st) (defBody st) (defScope st) .none kV doc pm an (.ref c) ct ∧ K.lookup f = some ⟨oc, od, .func fd, osl⟩ ∧ PySem.W.codeIn K (.ref c) qual = true
  kp : PySem.W.keepIn K (.ref f) = true
  hd : PySem.W.codeHdIn K c P = true
  lam : lamTab K = some P
theorem FunC.fn {K : PySem.W.Frag} {x qual : Str} {st : Stmt} {f c P : Addr} {fd : FuncData} (F : FunC K x qual st f fd c P) : Fun K x qual st f fd :=
  let ⟨oc, od, kV, doc, pm, an, ct, osl, e1, e2, e3⟩ := F.ex; ⟨⟨oc, od, kV, doc, pm, an, .ref c, ct, osl, e1, e2, e3⟩, F.kp⟩
section
variable {P : Program} {wd : World} {K : PySem.W.Frag} {mg : Str → Option Value} {base : Heap}
theorem def_okC {x qual : Str} {st : Stmt} {f c T : Addr} {fd : FuncData} {N ps : List Str} {k : Nat} {sp : DSpec} {w : WS} (F : FunC K x qual st f fd c T) (S : FnScope N ps (defScope st))
    (hlen : ∀ ss R, sp ss R → ss.length = ps.length)
    (hbody : ∀ (A : Around) (outer : List Env) (s : Shared) (H : Hp) (E : XK), Room k (A.deeper (PyProof.Rows.envOfC qual (defScope st) s.heap.objs.size f (.ref c))) → PSs (cxOf CX0 P wd K mg base N qual (defScope st) f (.ref c) A outer s H E).nox (defBody st) (liftS K H w))
    (h : ∀ ss R, sp ss R → w { nx := fun _ => R (.t .non), rt := R } (startD N ss)) : FnOk P wd K mg base CX0 (k + 1) f fd ps (toSp K sp) := by
  have pl : ps.length ≤ N.length := by
    have := congrArg List.length S.pre
    rw [List.length_take] at this
    omega
  obtain ⟨oc, od, kV, doc, pm, an, ct, osl, rfl, lk, hcd⟩ := F.ex
  refine fn_of lk hcd S (fun vs H Q E hs => ?_) fun A outer s H vs Q E hr hs => ?_
  · obtain ⟨ss, R, _, _, r, hs, _⟩ := hs
    rw [repVs_len r, hlen ss R hs]
  · obtain ⟨ss, R, tk, ha, r, hs, k⟩ := hs
    refine ⟨_, (hbody A outer s H E hr).nox, startD N ss, _, H, Same.refl _, rel_start tk (by rw [hlen ss R hs]; exact pl) ha r, h ss R hs, ⟨fun σ' F' H' δ' ff rl q => ?_, fun v H' s' sm tk rc q => k v H' s' sm tk rc q, fun _ _ _ _ _ _ z => z.elim, fun _ _ _ _ _ _ z => z.elim⟩⟩
    exact k .non H' (.t .non) (ff.trans rl.sub) rl.tab rfl q
end
end DL

set_option Elab.async false
set_option linter.all false
set_option maxRecDepth 100000
set_option maxHeartbeats 4000000
/-! the law's start where a code's table is tracked -/
namespace DL
open PySem PySem.Spec L2 PyProof.Rows PySem.W
/-- the builtins module, as the main module names it -/
def BMd (mg : Str → Option Value) (base : Heap) : Prop := ∃ mb ob, mg "__builtins__" = some (.ref mb) ∧ mb ≠ builtinsNs ∧ mb ≠ mainGlobals ∧ base.get? mb = some ob ∧ ob.cls = .type "module" ∧ ob.dict = some builtinsNs ∧ ob.data = .plain
theorem law_callT {P : Program} {w : World} {K : PySem.W.Frag} {mg mb : Str → Option Value} {CX : CXT} {k : Nat} {fa a c T : Addr} {fd : FuncData} {x : Str} {sp : Sp} {s₁ : Shared} {vs : List Value} {ns : List Int}
    (hTK : K.lookup T = none) (hT : s₁.heap.get? T = some (tabObj #[])) (hTc : CodeHd s₁.heap c T)
    (KX : K.In s₁.heap) (hns : s₁.heap.Ns mainGlobals mg) (hb : s₁.heap.Ns builtinsNs mb) (hbm : BMd mg s₁.heap) (hbb : ∀ x : Str, x ≠ "__name__" → mb x = bootBuiltins x) (hlim : s₁.heap.NoLimit) (hg : s₁.gens = #[])
    (ha : s₁.heap.get? a = some { cls := .type "list", data := .seq vs.toArray }) (hi : IntsAre vs ns) (hl : ns.length ≤ sizeLine) (hr : Room k callerA)
    (F : ∀ base : Heap, K.In base → base.Ns mainGlobals mg → BMd mg base → FnOk P w K mg base CX k fa fd [x] sp) (hbind : ∀ (s : Shared) (u : Value), BindsTo s fd ⟨[u], []⟩ [(x, u)])
    (hsp : ∀ H : Hp, Tab H → (∃ ps, H T = some (.tbl ps)) → SqL K H a (ns.map V.int) → sp [.ref a] H (fun v _ => v = .bl true) fun _ _ _ => False)
    (hCX : ∀ H e s', CX [] H s₁ (fun _ _ _ => False) e s' → False) :
    codeAny (model P w) callerA (.call (.ref fa) ⟨[.ref a], []⟩) (fun r s' => r = .ok (.ret (.bool true)) ∧ OldK s₁.heap s'.heap ∧ s'.os = s₁.os ∧ AllBare s'.gens) s₁ := by
  have rv := vals_ints hi
  have lenV := hi.length
  have naT : a ≠ T := fun z => by
    rw [z, hT] at ha
    cases ha
  have core : ∀ H : Hp, (∀ b, H b = none ∨ b = T ∨ ∃ o xs, b = a ∧ H b = some (.frz o (.lst xs))) → H T = some (.tbl #[]) → SqL K H a (ns.map V.int) → HOk P w H s₁.heap → (H a ≠ none → K.lookup a = none) →
      codeAny (model P w) callerA (.call (.ref fa) ⟨[.ref a], []⟩) (fun r s' => r = .ok (.ret (.bool true)) ∧ OldK s₁.heap s'.heap ∧ s'.os = s₁.os ∧ AllBare s'.gens) s₁ := by
    intro H hO hHT hS hok hK
    have hA : ∀ b, H b ≠ none → b = a ∨ b = T := fun b z => by
      rcases hO b with q | q | ⟨_, _, q, _⟩
      · exact absurd q z
      · exact .inr q
      · exact .inl q
    have base_of : ∀ {b : Addr} {o : Obj}, s₁.heap.get? b = some o → H b = none → (hidT s₁.heap H).get? b = some o := fun e n => hidT_get e n
    have noA : ∀ {b : Addr} {o : Obj}, s₁.heap.get? b = some o → (∀ its n, o.data ≠ .seq its n) → (∀ ps, o.data ≠ .fields ps) → H b = none := fun {b o} e d1 d2 => by
      cases q : H b with
      | none => rfl
      | some u =>
        rcases hA b (by rw [q]; simp) with e' | e'
        · subst e'
          rw [ha] at e; cases e
          exact absurd rfl (d1 vs.toArray 0)
        · subst e'
          rw [hT] at e; cases e
          exact absurd rfl (d2 #[])
    have nsK : ∀ {b : Addr} {m : Str → Option Value}, s₁.heap.Ns b m → (hidT s₁.heap H).Ns b m := fun {b m} ⟨o, es, ep, e, d, r⟩ => ⟨o, es, ep, base_of e (noA e (fun _ _ z => by rw [d] at z; cases z) (fun _ z => by rw [d] at z; cases z)), d, r⟩
    have hKb : K.In (hidT s₁.heap H) := fun b o e => base_of (KX b o e) (by
      cases q : H b with
      | none => rfl
      | some u =>
        rcases hA b (by rw [q]; simp) with e' | e'
        · subst e'
          rw [hK (by rw [q]; simp)] at e; cases e
        · subst e'
          rw [hTK] at e; cases e)
    have hM : Mod K mg (hidT s₁.heap H) := ⟨hKb, nsK hns, ⟨mb, nsK hb, hbb⟩, let ⟨mc, h1, h2⟩ := hlim; ⟨mc, nsK h1, h2⟩⟩
    have hB : BMd mg (hidT s₁.heap H) := by
      obtain ⟨bm, ob, b1, b2, b3, b4, b5, b6, b7⟩ := hbm
      exact ⟨bm, ob, b1, b2, b3, base_of b4 (noA b4 (fun _ _ z => by rw [b7] at z; cases z) (fun _ z => by rw [b7] at z; cases z)), b5, b6, b7⟩
    have e0 : Env0 P w K mg (hidT s₁.heap H) callerA [] s₁ H := ⟨rfl, hM, fun b o e => of_hidT e, Nat.le_of_eq (hidT_size _ _), trivial, fun b hb => absurd (show b ∈ ([] : List Addr) from hb) (by simp), hok, .of_eq hg⟩
    have tab : Tab H := fun P2 ps e => by
      rcases hO P2 with q | q | ⟨_, _, _, q⟩
      · rw [e] at q; cases q
      · subst q
        rw [hHT] at e; cases e
        exact ⟨trivial, fun pos v z => by cases z⟩
      · rw [e] at q; cases q
    refine codeAny_mono ((F _ hKb (nsK hns) hB).run callerA [] s₁ H ⟨[.ref a], []⟩ [.ref a] [.ref a] _ _ hr e0 (hbind s₁ (.ref a)) (.cons rfl .nil) (hsp H tab ⟨_, hHT⟩ hS)) fun r s' h => ?_
    cases r with
    | error e => exact (hCX H e s' h).elim
    | ok fl =>
      cases fl with
      | next => exact False.elim h
      | brk => exact False.elim h
      | cont => exact False.elim h
      | ret u =>
        obtain ⟨v, H', os, bare, un, hok', r', q⟩ := h
        have q' : v = .bl true := q
        subst q'
        obtain rfl : u = Value.bool true := r'
        have keepN : ∀ b o, b ≠ T → s₁.heap.get? b = some o → s'.heap.get? b = some o := fun b o nT e => by
          rcases hO b with q | q | ⟨ob, xs, _, z⟩
          · exact un.keep b o e q (by intro z; exact absurd (show b ∈ ([] : List Addr) from z) (by simp)) (by simp)
          · exact absurd q nT
          · have z2 := un.frzs b ob _ z
            obtain ⟨e1, _⟩ := hok b _ z
            obtain ⟨e2, _⟩ := hok' b _ z2
            rw [e] at e1; cases e1
            exact e2
        obtain ⟨more, hm⟩ := un.tbls T _ hHT
        have gT : s'.heap.get? T = some (tabObj (#[] ++ more)) := hok' T _ hm
        refine ⟨rfl, ⟨fun b o e => ?_, fun b o e => ?_⟩, os, bare⟩
        · by_cases z : b = T
          · subst z
            rw [hT] at e; cases e
            exact .inr (.inl ⟨(hTc.tab hT).isCodeTable, rfl, #[], more, rfl, gT⟩)
          · exact .inl (keepN b o z e)
        · by_cases z : b = T
          · subst z; exact ⟨_, gT⟩
          · exact ⟨o, keepN b o z e⟩
  cases hk : K.lookup a with
  | some o =>
    have e := KX a o hk
    rw [ha] at e
    cases e
    refine core (fun b => if b = T then some (.tbl #[]) else none) (fun b => ?_) (if_pos rfl) (.inr ⟨_, vs.toArray, _, hk, rfl, rfl, rfl, by rw [List.size_toArray, lenV]; exact hl, by simpa using rv⟩) (fun b u z => ?_) fun z => absurd (if_neg naT) z
    · by_cases hb : b = T
      · exact .inr (.inl hb)
      · exact .inl (if_neg hb)
    · by_cases hb : b = T
      · have z' := (if_pos hb).symm.trans z
        cases z'
        subst hb
        exact hT
      · have z' := (if_neg hb).symm.trans z
        cases z'
  | none =>
    have H2 : ∀ b, b ≠ T → b ≠ a → (if b = T then some (HO.tbl #[]) else if b = a then some (HO.frz { cls := .type "list", data := .seq vs.toArray } (.lst (ns.map V.int))) else none) = none := fun b h1 h2 => by rw [if_neg h1, if_neg h2]
    have H3 : (if a = T then some (HO.tbl #[]) else if a = a then some (HO.frz { cls := .type "list", data := .seq vs.toArray } (.lst (ns.map V.int))) else none) = some (HO.frz { cls := .type "list", data := .seq vs.toArray } (.lst (ns.map V.int))) := by rw [if_neg naT, if_pos rfl]
    refine core (fun b => if b = T then some (.tbl #[]) else if b = a then some (.frz { cls := .type "list", data := .seq vs.toArray } (.lst (ns.map V.int))) else none) (fun b => ?_) (if_pos rfl) (.inl (.inr ⟨{ cls := .type "list", data := .seq vs.toArray }, H3⟩)) (fun b u z => ?_) fun _ => hk
    · by_cases hb : b = T
      · exact .inr (.inl hb)
      · by_cases hb2 : b = a
        · subst hb2; exact .inr (.inr ⟨_, _, rfl, H3⟩)
        · exact .inl (H2 b hb hb2)
    · by_cases hb : b = T
      · have z' := (if_pos hb).symm.trans z
        cases z'
        subst hb
        exact hT
      · by_cases hb2 : b = a
        · subst hb2
          have z' := H3.symm.trans z
          cases z'
          exact ⟨ha, by rw [List.length_map]; exact hl, vs, _, rv, ha⟩
        · have z' := (H2 b hb hb2).symm.trans z
          cases z'
/-- the goal that k_head leaves, where depth's code table is tracked -/
theorem walkT {l : PySem.W.OpenLaw} {n k : Nat} {q : Program} {loose : List Str} {XP : (Str → Option Value) → Heap → Prop} {YP : World → Heap → Prop} {d : DefRec} {K : Params → PySem.W.Frag} {x : Str} {ts : List Addr}
    (hn : l.most = some n) (hn2 : n ≤ 63) (hdf : d.params.defaults = []) (hr : Room k callerA)
    (hY : ∀ (w : World) (h : Heap), YP w h → (K w.params).In h) (hYT : ∀ (w : World) (h : Heap), YP w h → ∀ P ∈ ts, h.get? P = some (tabObj #[]))
    (F : ∀ (w : World) (mg : Str → Option Value) (fa : Addr) (h : Heap), (K w.params).In h → h.Ns mainGlobals mg → mg d.name = some (.ref fa) →
      ∃ (fd : FuncData) (c T : Addr), (∀ (s : Shared) (u : Value), BindsTo s fd ⟨[u], []⟩ [(x, u)]) ∧ T ∈ ts ∧ (K w.params).lookup T = none ∧ PySem.W.codeHdIn (K w.params) c T = true ∧ lamTab (K w.params) = some T ∧
        ∀ base : Heap, (K w.params).In base → base.Ns mainGlobals mg → BMd mg base → FnOk l.prog w (K w.params) mg base CX0 k fa fd [x] (toSp (K w.params) spLaw)) :
    PySem.W.WalkO q loose XP YP l.row.toRowW d [] (fun f vs => PySem.call f vs) := by
  refine Att.attach_call hn hdf fun w s₀ s₁ mg mb fa o pm cd doc a vs ns G Y ho hd hcd hmg hobj hints hlen hg => ?_
  have KX := hY w _ Y
  obtain ⟨fd, c, T, hb, hts, hTK, hhd, hlam, hF⟩ := F w mg fa _ KX G.T.g hmg
  have hBM : BMd mg s₁.heap := by
    obtain ⟨bm, ob, b1, b2, b3, b4, b5, b6⟩ := G.T.bmain
    refine ⟨bm, ob, b1, b2, fun z => ?_, b3, b4, b5, b6⟩
    obtain ⟨o2, es, ep, e, d, _⟩ := G.T.g
    rw [← z, b3] at e
    cases e
    rw [b6] at d; cases d
  exact law_callT hTK (hYT w _ Y T hts) (codeHd_of_K KX hhd) KX G.T.g G.T.b hBM G.T.builtins G.T.nolimit hg hobj hints (Nat.le_trans hlen (Nat.le_trans hn2 (by decide))) hr hF hb (fun H ht hps hS => law_sp ⟨ht, fun P e => by rw [hlam] at e; cases e; exact hps⟩ (Nat.le_trans hlen hn2) hS) fun _ _ _ z => z
end DL

set_option Elab.async false
set_option linter.all false
set_option maxRecDepth 100000
set_option maxHeartbeats 4000000
/-! list(reversed(xs)) -/
namespace DL
open PySem PySem.Spec L2 PyProof.Rows
theorem lri_no_len : typeLookup (.type "list_reverseiterator") "__len__" = pure none := by rw [typeLookup_type, builtinLookup_eq_fast]; kernel_rfl
theorem slot_lri_hint : Slot "list_reverseiterator" "__length_hint__" "list_reverseiterator.__length_hint__" :=
  .of (owner := "list_reverseiterator") (n := "__length_hint__") (by rw [typeLookup_type, builtinLookup_eq_fast]; kernel_rfl) (by decide +kernel) (by decide +kernel) (by decide +kernel)
    (by first | exact .inl (by decide +kernel) | exact .inr (by decide +kernel)) (by rw [isSubtype_type]; kernel_rfl)
section
variable {prog : Program} {w : World} {A : Around} {E : Value → Shared → Prop} {s : Shared}
theorem wpAny_hint_rev {it l : Addr} {i : Int} {Q : Bool → Shared → Prop} (hit : s.heap.IsRevIter it l i) (h : Q false s) : wpAny (model prog w) A (Builtin.List.listLengthHint (.ref it)) Q E s := by
  unfold Builtin.List.listLengthHint
  refine wpAny_bind (wpAny_specialOf hit.typeIs lri_no_len ?_)
  show wpAny _ A (specialOf (Value.ref it) (Str.ofString "__length_hint__") >>= _) _ _ _
  refine wpAny_bind (wpAny_specialOf hit.typeIs slot_lri_hint.lookup ?_)
  generalize hid : ("list_reverseiterator.__length_hint__" : String) = id0
  wp_delta
  rw [show splitId id0 = some ("list_reverseiterator", "__length_hint__") from by subst hid; decide +kernel]
  subst hid
  refine wpAny_bind (wpAny_isInstance (T := "list_reverseiterator") (b := true) hit.typeIs (by rw [isSubtype_type]; kernel_rfl) ?_)
  refine wpAny_ite_split (fun hab => absurd hab (by decide)) (fun _ => ?_)
  refine wpAny_ite_split (fun _ => ?_) (fun hab => absurd (by decide +kernel) hab)
  refine wpAny_ite_split (fun hab => absurd hab (by decide +kernel)) (fun _ => ?_)
  exact wpAny_pure h
theorem wpAny_extend_rev {R : Result → Shared → Prop} {I l : Addr} {items : Array Value} (hh : A.handled = none) (hit : s.heap.IsRevIter I l ((items.size : Int) - 1)) (hl : s.heap.IsList l items) (hz : items.size ≤ sizeLine) (S : Addr) (res : Value) (c₀ : Nat) (hS : s.heap.get? S = some { cls := .type "list", data := .seq #[] c₀ }) (hlI : l ≠ I) (hSI : S ≠ I) (hSl : S ≠ l)
    (hR : ∀ h' tk acc' c', (∀ b o, b ≠ S → b ≠ I → s.heap.get? b = some o → h'.get? b = some o) → h'.get? S = some { cls := .type "list", dict := none, data := .seq acc' c', slots := #[] } →
      ItemsOf (fun i v => items[items.size - 1 - i]? = some v) acc' items.size → R (.ok (.ret res)) { s with heap := h', toks := tk }) :
    wpAny (model prog w) A.in1 (Builtin.List.listExtendWith (.ref S) (.ref I) res)
      (fun fin s' => match fin with | .done f => R (.ok f) s' | .again c' => c'.quiet = true ∧ codeAny (model prog w) A c' R s') (fun e s' => R (.error e) s') s := by
  have W := (Walks.listRev (prog := prog) (w := w) (A := A.in1) hh I l hlI items).toS
  have hSf : S ∉ [I, l] := fun hm => by
    rcases List.mem_cons.mp hm with e | e
    · exact hSI e
    · exact hSl (List.mem_singleton.mp e)
  unfold Builtin.List.listExtendWith
  refine wpAny_bind (wpAny_typeOf hit.typeIs ?_)
  have h1 : Builtin.List.listSameRef (.ref S) (.ref I) = false := by simp [Builtin.List.listSameRef, hSI]
  have h2 : (Value.type "list_reverseiterator" == Value.type "list") = false := by decide
  have h3 : (Value.type "list_reverseiterator" == Value.type "tuple") = false := by decide
  simp only [h1, h2, h3, Bool.or_false, Bool.false_eq_true, if_false]
  refine wpAny_bind (wpAny_pyIter_revIter hit ?_)
  refine wpAny_bind (wpAny_holding (wpAny_hint_rev hit ?_))
  refine wpAny_ite_split (fun hab => absurd hab (by decide)) (fun _ => wpAny_pure ⟨plainId_quiet F.plain_extend_loop _, ?_⟩)
  have e0 : (items.size : Int) - 1 - ((0 : Nat) : Int) = (items.size : Int) - 1 := by omega
  refine codeAny_extend_loopS W hz S hSf res items.size 0 s #[] c₀ rfl (Nat.zero_le _) ⟨Nat.zero_le _, by rw [e0]; exact hit, hl⟩ hS (ItemsOf.nil _) fun s' acc' c' hm hS' hacc => ?_
  rw [Moved.eq_with hm]
  refine hR s'.heap s'.toks acc' c' (fun b o hb hb2 e => hm.heap b o (fun hmem => ?_) e) hS' hacc
  rcases List.mem_cons.mp hmem with e' | hmem
  · exact hb e'
  · exact hb2 (List.mem_singleton.mp hmem)
theorem wpAny_list_init_rev {R : Result → Shared → Prop} {I l : Addr} {items : Array Value} (hh : A.handled = none) (hit : s.heap.IsRevIter I l ((items.size : Int) - 1)) (hl : s.heap.IsList l items) (hz : items.size ≤ sizeLine) (S : Addr) (hS : s.heap.get? S = some { cls := .type "list", data := .seq #[] }) (hlI : l ≠ I) (hSI : S ≠ I) (hSl : S ≠ l)
    (hR : ∀ h' tk acc' c', (∀ b o, b ≠ S → b ≠ I → s.heap.get? b = some o → h'.get? b = some o) → h'.get? S = some { cls := .type "list", dict := none, data := .seq acc' c', slots := #[] } →
      ItemsOf (fun i v => items[items.size - 1 - i]? = some v) acc' items.size → R (.ok (.ret .none)) { s with heap := h', toks := tk }) :
    wpAny (model prog w) A.in1 (Builtin.«list.__init__» ⟨[.ref S, .ref I], []⟩)
      (fun fin s' => match fin with | .done f => R (.ok f) s' | .again c' => c'.quiet = true ∧ codeAny (model prog w) A c' R s') (fun e s' => R (.error e) s') s := by
  show wpAny _ _ (do let old ← Builtin.List.listItems (.ref S); Builtin.List.listUpdate (.ref S) (fun _ => #[]); letGo old.toList.reverse; Builtin.List.listExtendWith (.ref S) (.ref I) .none) _ _ s
  refine wpAny_bind ?_
  unfold Builtin.List.listItems
  refine wpAny_bind (wpAny_seqItems hS rfl (wpAny_pure ?_))
  show wpAny _ _ (updateSeq S (fun _ => #[]) >>= fun _ => letGo (#[] : Array Value).toList.reverse >>= fun _ => Builtin.List.listExtendWith (.ref S) (.ref I) .none) _ _ s
  refine wpAny_bind (wpAny_updateSeq hS rfl ?_)
  have hS₂ := Heap.get?_update_self (Obj.mapSeq (fun _ => (#[] : Array Value))) hS rfl
  have oth : ∀ b o, b ≠ S → s.heap.get? b = some o → (s.heap.update S (Obj.mapSeq (fun _ => (#[] : Array Value)))).get? b = some o :=
    fun b o hb e => (Heap.get?_update_other _ _ (Ne.symm hb)).trans e
  refine wpAny_bind (wpAny_letGo ?_)
  refine wpAny_extend_rev hh (hit.at fun o e => oth I o (Ne.symm hSI) e) (hl.at fun o e => oth l o (Ne.symm hSl) e) hz S .none _ hS₂ hlI hSI hSl fun h' tk acc' c' hk hS' hacc => ?_
  exact hR h' tk acc' c' (fun b o hb hb2 e => hk b o hb hb2 (oth b o hb e)) hS' hacc
theorem call_list_rev {Q : Value → Shared → Prop} {I l : Addr} {items : Array Value} (hh : A.handled = none) (hit : s.heap.IsRevIter I l ((items.size : Int) - 1)) (hl : s.heap.IsList l items) (hz : items.size ≤ sizeLine) (hlI : l ≠ I)
    (hQ : ∀ h' tk acc' c', (∀ b o, b ≠ I → s.heap.get? b = some o → h'.get? b = some o) →
      h'.get? s.heap.objs.size = some { cls := .type "list", dict := none, data := .seq acc' c', slots := #[] } → ItemsOf (fun i v => items[items.size - 1 - i]? = some v) acc' items.size → Q (.ref s.heap.objs.size) { s with heap := h', toks := tk }) :
    wpAny (model prog w) A (call (.type "list") [.ref I]) Q E s := by
  obtain ⟨oI, hoI, _⟩ := id hit
  obtain ⟨ol, hol, _⟩ := id hl
  refine callType_codes (Q₁ := fun obj s₁ => obj = .ref s.heap.objs.size ∧ s₁ = { s with heap := s.heap.push { cls := .type "list", data := .seq #[] } }) F.called_list (F.typeCall_list_1 _) F.entry_list_init
    (code_list_new _ ⟨rfl, rfl⟩) fun obj s₁ h₁ => ?_
  obtain ⟨rfl, rfl⟩ := h₁
  have hS : (s.heap.push { cls := .type "list", data := .seq #[] }).get? s.heap.objs.size = some { cls := .type "list", data := .seq #[] } := Heap.get?_push_size _ rfl
  refine ⟨⟨_, hS, rfl⟩, F.args_list_init_2 _ _, wpAny_list_init_rev (A := A.in1) hh (hit.at fun o e => Heap.get?_push_of_some _ e) (hl.at fun o e => Heap.get?_push_of_some _ e) hz _ hS hlI (fun e => Nat.ne_of_lt (Heap.lt_size hoI) e.symm) (fun e => Nat.ne_of_lt (Heap.lt_size hol) e.symm) fun h' tk acc' c' hk hS' hacc => ?_⟩
  exact ⟨rfl, hQ h' tk acc' c' (fun b o hb e => hk b o (Nat.ne_of_lt (Heap.lt_size e)) hb (Heap.get?_push_of_some _ e)) hS' hacc⟩
theorem items_rev {its : List Value} {acc : Array Value} (h : ItemsOf (fun i v => its.toArray[its.toArray.size - 1 - i]? = some v) acc its.toArray.size) : acc = its.reverse.toArray := by
  obtain ⟨h1, h2⟩ := h
  have e : acc.toList = its.reverse := by
    apply List.ext_getElem?
    intro i
    by_cases hi : i < acc.size
    · have h3 := h2 i acc[i] (Array.getElem?_eq_getElem hi)
      have hi' : i < its.length := by simpa [h1] using hi
      rw [Array.getElem?_toList, Array.getElem?_eq_getElem hi, List.getElem?_reverse hi']
      simpa using h3.symm
    · rw [List.getElem?_eq_none (by simpa using Nat.le_of_not_lt hi), List.getElem?_eq_none (by simp [h1] at hi; simpa using hi)]
  rw [← e]
theorem vals_rev : ∀ {xs : List V} {us : List Value}, Vals xs us → Vals xs.reverse us.reverse
  | [], _, .nil => .nil
  | x :: xs, u :: us, .cons r t => by
    rw [List.reverse_cons, List.reverse_cons]
    exact (vals_rev t).append (.cons r .nil)
end
def tListRev (K : PySem.W.Frag) (te : TE) : TE := fun σ H Q => te σ H fun x H1 => ∃ p ys, x = .ref p ∧ SqL K H1 p ys ∧ ∀ l, H1 l = none → Q (.ref l) (upd H1 l (.lst ys.reverse))
section
variable {X : Cx} {e : Expr} {te : TE} {p1 p2 pos1 pos2 : Pos}
theorem pe_listRev (hm1 : X.mg "list" = none) (hm2 : X.mg "reversed" = none) (hd : X.A.handled = none) (he : PE X e te) (hg1 : Gl X "list" := by rfl) (hg2 : Gl X "reversed" := by rfl)
    (hs2 : starEach [e] X.env = (false, eval e X.env) :: starEach [] X.env := by exact star_plain rfl) (hs1 : starEach [.Call (.Name "reversed" p2) [e] [] pos2] X.env = (false, eval (.Call (.Name "reversed" p2) [e] [] pos2) X.env) :: starEach [] X.env := by rfl) :
    PE X (.Call (.Name "list" p1) [.Call (.Name "reversed" p2) [e] [] pos2] [] pos1) (tListRev X.K te) := by
  intro pins s σ H Q I h
  refine wpAny_Call_Name_kw (ld_blt I hg1 hm1 PyProof.Rows.boot_list ?_)
  refine PyProof.Rows.callWith_type1 ?_ hs1
  rw [hs1]
  show wpAny _ _ (spliced ((false, eval (.Call (.Name "reversed" p2) [e] [] pos2) X.env) :: backTo pos1 (starEach [] X.env))) _ _ s
  refine Calls.spliced_cons ?_
  refine wpAny_Call_Name_kw (ld_blt I hg2 hm2 PyProof.Rows.boot_reversed ?_)
  refine PyProof.Rows.callWith_type1 ?_ hs2
  rw [hs2]
  show wpAny _ _ (spliced ((false, eval e X.env) :: backTo pos2 (starEach [] X.env))) _ _ s
  refine Calls.spliced_cons (thn (he pins s σ H _ I h) fun u s1 ⟨x, H1, I1, r1, q1⟩ => ?_)
  obtain ⟨p, ys, rfl, hq, fin⟩ := q1
  cases r1
  refine Calls.spliced_nil ?_
  obtain ⟨its, r, pl, hz⟩ := I1.list hq
  have hl := pl.isList
  obtain ⟨ol, hol, _⟩ := id hl
  refine call_reversed_list hl ?_
  have hit : ((s1.heap.push (revObj p ((its.toArray.size : Int) - 1))).IsRevIter s1.heap.objs.size p ((its.toArray.size : Int) - 1)) := ⟨_, Heap.get?_push_size _ rfl, rfl, rfl⟩
  refine Calls.spliced_nil ?_
  have hlen := r.length
  refine call_list_rev hd hit (hl.at fun o e => Heap.get?_push_of_some _ e) (by rw [List.size_toArray]; omega) (Nat.ne_of_lt (Heap.lt_size hol)) fun h' tk acc' c' hk hS' hacc => ?_
  have hacc' := items_rev hacc
  subst hacc'
  have keep : ∀ b o, s1.heap.get? b = some o → h'.get? b = some o := fun b o e => hk b o (Nat.ne_of_lt (Heap.lt_size e)) (Heap.get?_push_of_some _ e)
  have hsz : (s1.heap.push (revObj p ((its.toArray.size : Int) - 1))).objs.size = s1.heap.objs.size + 1 := size_push' ..
  rw [hsz] at hS' ⊢
  have le : s1.heap.objs.size ≤ s1.heap.objs.size + 1 := Nat.le_succ _
  exact ⟨.ref (s1.heap.objs.size + 1), _, I1.laid (t' := tk) keep le (show ObjOk X.prog X.w _ h' _ (.lst ys.reverse) from ⟨by rw [List.length_reverse]; exact hz, its.reverse, c', vals_rev r, hS'⟩), rfl, fin _ (I1.hok.fresh le)⟩
def revK (R : S → Prop) (s : S) : Prop := match items s with
  | some ts => purs ts = true ∧ R (.ol ts.reverse)
  | none => False
def wListRev (we : WE) : WE := fun δ R => we δ (revK R)
theorem de_listRev {we : WE} (hm1 : X.mg "list" = none) (hm2 : X.mg "reversed" = none) (hd : X.A.handled = none) (he : PE X e (liftE X.K we)) (hg1 : Gl X "list" := by rfl) (hg2 : Gl X "reversed" := by rfl)
    (hs2 : starEach [e] X.env = (false, eval e X.env) :: starEach [] X.env := by exact star_plain rfl) (hs1 : starEach [.Call (.Name "reversed" p2) [e] [] pos2] X.env = (false, eval (.Call (.Name "reversed" p2) [e] [] pos2) X.env) :: starEach [] X.env := by rfl) :
    PE X (.Call (.Name "list" p1) [.Call (.Name "reversed" p2) [e] [] pos2] [] pos1) (liftE X.K (wListRev we)) :=
  (pe_listRev hm1 hm2 hd he hg1 hg2 hs2 hs1).imp fun σ H Q ⟨δ, R, F, rl, h, k⟩ => ⟨δ, _, F, rl, h, fun v F1 H1 s ex p q => by
    unfold revK at q
    split at q
    · rename_i ts hi
      obtain ⟨a, xs, rfl, sq, tp⟩ := (p.val ex.sub).list ex.sub hi
      refine ⟨a, xs, rfl, sq, fun l hl => ?_⟩
      have e2 := Ext.newL xs.reverse ex.sub ex.full hl
      exact k _ F1 _ (.ol ts.reverse) (ex.trans e2) ⟨l, xs.reverse, rfl, none_of_same ex.hh hl, none_of_same ex.sub hl, upd_same, (TReps.full ex.full q.1 tp).reverse⟩ q.2
    · exact q.elim⟩
end
theorem ds_unpIx {X : Cx} {H₀ : Hp} {es : List Expr} {k : Nat} {a b : Expr} {p p2 pos : Pos} {we : WE} {g : WG} (he : PE X (.Subscript a b p2) (liftE X.K we)) (hg : PG X (.Tuple es k p) (liftG X.K g)) : PS X (.Assign [.Tuple es k p] (.Subscript a b p2) pos) (liftS X.K H₀ (wUnp we g)) := ds_unp he hg rfl rfl rfl
theorem a_listRev (we : WE) (δ : DSt) (R : S → Prop) : wListRev we δ R = we δ (revK R) := rfl
theorem revK_F (R : S → Prop) (ts : List T) : revK R (.t (.lst ts)) = (purs ts = true ∧ R (.ol ts.reverse)) := rfl
theorem revK_V (R : S → Prop) (ts : List T) : revK R (.vt (.lst ts)) = (purs ts = true ∧ R (.ol ts.reverse)) := rfl
theorem revK_O (R : S → Prop) (ts : List T) : revK R (.ol ts) = (purs ts = true ∧ R (.ol ts.reverse)) := rfl
end DL

set_option Elab.async false
set_option linter.all false
set_option maxRecDepth 100000
/-! the walks -/
open L2 DL
local macro_rules | `(tactic| walk_at "dl") => `(tactic| try simp (config := {implicitDefEqProofs := false}) only [look_0, look_s, lookO_0, lookO_s, a_seq, a_set, a_if, a_ret, a_retV, a_retN, a_next, a_break, a_cont, a_drop, a_var, a_c, a_op2, a_un, a_I, a_I0, a_neg, a_ixT, a_ixF, a_ixV, a_ixO, atT_0, atT_1, atT_2, atT_3, e_setT, e_setO, e_setV, e_seenT, e_seenV, e_seenO, e_outT, e_outV, e_outO, e_argT, e_argV, e_argO, e_gotT, e_gotO, e_frzT, e_frzO, e_frz, e_frzN, e_frzS, a_B, asB_bl, a_andT, a_orT, a_notT, a_andV, a_orV, a_notV, andK_bl, orK_bl, notK_bl, a_ifE, a_cb, a_nil, a_cons, a_tup, a_lst, tup1, tup2, tup3, lst0, lst1, lst2, lst3, lst4, a_call, a_lenT, a_lenF, a_lenV, a_lenO, a_abs, a_max2, a_min2, a_intI, a_intB, a_listF, a_listV, a_listO, eq_ii, ne_ii, a_is, ty_non, ty_bl, ty_int, ty_tup, ty_fl, ty_vw, ty_ol, isTy_non_non, isTy_non_bool, isTy_non_int, isTy_non_str, isTy_non_tup, isTy_non_lst, isTy_bool_non, isTy_bool_bool, isTy_bool_int, isTy_bool_str, isTy_bool_tup, isTy_bool_lst, isTy_int_non, isTy_int_bool, isTy_int_int, isTy_int_str, isTy_int_tup, isTy_int_lst, isTy_str_non, isTy_str_bool, isTy_str_int, isTy_str_str, isTy_str_tup, isTy_str_lst, isTy_tup_non, isTy_tup_bool, isTy_tup_int, isTy_tup_str, isTy_tup_tup, isTy_tup_lst, isTy_lst_non, isTy_lst_bool, isTy_lst_int, isTy_lst_str, isTy_lst_tup, isTy_lst_lst, a_for, a_wiList, listK_F, listK_V, listK_O, a_wiTup, tpK_T, a_wiRng1, rngK_1, a_wiRng2, rngK_2, a_gName, a_gTup, a_gNil, a_gCons, a_unp, unpK_t, a_par, parK_2, a_slice, slcK_F, slcK_V, slcK_O, a_part0, a_part, prtK_i, a_append, appK_t, a_pop, a_popTo, a_clear, a_setIx, List.set_cons_zero, List.set_cons_succ, List.map_cons, List.map_nil, if_true, if_false, true_and, and_true, Bool.not_true, Bool.not_false, Bool.not_eq_true, decide_eq_true_eq, decide_eq_false_iff_not, Bool.not_not, Bool.false_eq_true, Bool.true_eq_false, ite_true, ite_false, Int.reducePow, Int.reduceToNat, Int.reduceNeg, Int.reduceMul, Int.reduceAdd, Int.reduceSub, List.length_cons, List.length_nil, Nat.zero_add, Nat.reduceAdd, ite_not, atV_0, atV_1, atV_2, atV_3, norm_non, norm_bl, norm_int, norm_str, norm_exc, norm_lst, norm_pt, norm_pt3, norm_sp, e_trT, e_trV, e_trO, a_ixW, a_lenW, tup4, ty_str, ty_tupV, a_isN, a_notN, isN, ne_ty1, ne_ty2, ne_ty3, ne_ty4, ne_ty5, ne_ty6, tpK_V, unpK_v, a_retZ, a_cat, catK_F, catK_V, catK_O, a_comp, a_yes, itemK_t, itemK_o, pur_non, pur_bl, pur_int, pur_str, pur_tup, pur_lst, purs_nil, purs_cons, Bool.and_true, Bool.true_and, Bool.and_self, a_count, a_cntO, purs_pt, eq_pt_tt, ne_pt_tt, eq_pt_tv, ne_pt_tv, eq_pt_to, ne_pt_to, eq_pt_vt, ne_pt_vt, eq_pt_vv, ne_pt_vv, eq_pt_vo, ne_pt_vo, eq_pt_ot, ne_pt_ot, eq_pt_ov, ne_pt_ov, eq_pt_oo, ne_pt_oo, eq_pt_t0, ne_pt_t0, eq_pt_v0, ne_pt_v0, eq_pt_o0, ne_pt_o0, purs_hf, eq_hf_tt, ne_hf_tt, eq_hf_tv, ne_hf_tv, eq_hf_to, ne_hf_to, eq_hf_vt, ne_hf_vt, eq_hf_vv, ne_hf_vv, eq_hf_vo, ne_hf_vo, eq_hf_ot, ne_hf_ot, eq_hf_ov, ne_hf_ov, eq_hf_oo, ne_hf_oo, eq_hf_t0, ne_hf_t0, eq_hf_v0, ne_hf_v0, eq_hf_o0, ne_hf_o0, purs_sp, eq_sp_tt, ne_sp_tt, eq_sp_tv, ne_sp_tv, eq_sp_to, ne_sp_to, eq_sp_vt, ne_sp_vt, eq_sp_vv, ne_sp_vv, eq_sp_vo, ne_sp_vo, eq_sp_ot, ne_sp_ot, eq_sp_ov, ne_sp_ov, eq_sp_oo, ne_sp_oo, eq_sp_t0, ne_sp_t0, eq_sp_v0, ne_sp_v0, eq_sp_o0, ne_sp_o0, purs_in, eq_in_tt, ne_in_tt, eq_in_tv, ne_in_tv, eq_in_to, ne_in_to, eq_in_vt, ne_in_vt, eq_in_vv, ne_in_vv, eq_in_vo, ne_in_vo, eq_in_ot, ne_in_ot, eq_in_ov, ne_in_ov, eq_in_oo, ne_in_oo, eq_in_t0, ne_in_t0, eq_in_v0, ne_in_v0, eq_in_o0, ne_in_o0, hfT, ptT, frT, spT, eq_tt, ne_tt, eq_hh, ne_hh, blkD, List.replicate_succ, List.replicate_zero, List.cons_append, List.nil_append, List.getElem?_cons_succ, List.getElem?_cons_zero, Option.join_some, Option.join_none, a_sumF, a_sumV, a_sumO, a_bestF, a_bestV, a_bestO, a_compN, a_compC, a_wiZip, zipK_2, zipK_V, a_wiEnum, enumK_1, a_sortF, a_sortV, a_sortO, a_sliceT, slcT_T, a_minKey, a_listRev, revK_F, revK_V, revK_O])
local macro_rules | `(tactic| walk_at "sz") => `(tactic| first | assumption | with_reducible exact Sz.of (m := 250) (by omega) (by omega) | with_reducible exact Sz.mul (by walk_at "sz") (by walk_at "sz") | with_reducible exact Sz.add (by walk_at "sz") (by walk_at "sz") | with_reducible exact Sz.sub (by walk_at "sz") (by walk_at "sz") | with_reducible exact Sz.neg (by walk_at "sz"))
local macro_rules | `(tactic| walk_at "szk") => `(tactic| first | assumption | exact Sz.mono (by walk_at "sz") (by decide))
local macro_rules | `(tactic| walk_at "mul") => `(tactic| first | with_reducible exact mulL (by decide) (by decide) | with_reducible exact mulSz (by walk_at "sz") (by walk_at "sz") (by decide) (by decide) | with_reducible exact mulL (by omega) (by omega) | with_reducible exact mulR (by omega) (by omega))
local macro_rules | `(tactic| walk_at "side") => `(tactic| first | decide | with_reducible exact powOk (by decide) (by decide) (by decide) | with_reducible exact divOk (by decide) (by decide +kernel) | walk_at "mul" | omega | assumption)
local macro_rules | `(tactic| walk_at "pre") => `(tactic| repeat ((with_reducible apply And.intro); (case left => walk_at "side")))
local macro_rules | `(tactic| walk_at "go") => `(tactic| (walk_at "dl"; walk_at "pre"))

set_option Elab.async false
set_option linter.all false
set_option maxRecDepth 100000
namespace Law
open L2 DL

def sp_divisor : DSpec := fun ss R => ∃ a b : Int, ss = [.t (.int a), .t (.int b)] ∧ R (.t (.int (Int.gcd a b)))
def sp_l_cell_at : DSpec := fun ss R => ∃ (ns : List Int) (k : Int), ss = [.t (.lst (ns.map .int)), .t (.int k)] ∧ 0 ≤ k ∧ ∀ v : Int, R (.t (.int v))
def sp_l_block : DSpec := fun ss R => ∃ (ns : List Int) (k : Int), ss = [.t (.lst (ns.map .int)), .t (.int k)] ∧ 0 ≤ k ∧ ∀ v : Int, R (.t (.int v))
def sp_l_mixed : DSpec := fun ss R => ∃ (ns : List Int) (k : Int), ss = [.t (.lst (ns.map .int)), .t (.int k)] ∧ 0 ≤ k ∧ k < 1000000 ∧ ∀ v : Int, 0 ≤ v → v < 2147483587 → R (.t (.int v))
theorem len_divisor : ∀ ss R, sp_divisor ss R → ss.length = 2 := by rintro ss R ⟨a, b, rfl, _⟩; rfl
theorem len_l_cell_at : ∀ ss R, sp_l_cell_at ss R → ss.length = 2 := by rintro ss R ⟨a, b, rfl, _⟩; rfl
theorem len_l_block : ∀ ss R, sp_l_block ss R → ss.length = 2 := by rintro ss R ⟨a, b, rfl, _⟩; rfl
theorem len_l_mixed : ∀ ss R, sp_l_mixed ss R → ss.length = 2 := by rintro ss R ⟨a, b, rfl, _⟩; rfl
theorem len_law : ∀ ss R, spLaw ss R → ss.length = 1 := by rintro ss R ⟨a, rfl, _⟩; rfl
/-- divisor(one, other): 0 one, 1 other, 2 greater, 3 lesser, 4 rest -/
def w_divisor : WS :=
 (wSeq (wSet 2 (wCB fAbs (wCons (wVar 0) wNil)))
 (wSeq (wSet 3 (wCB fAbs (wCons (wVar 1) wNil)))
 (wSeqM (wWhile (wB (wNe (wVar 3) (wC (.int 0)))) (wSeq (wSet 4 (wMod (wVar 2) (wVar 3)))
 (wSeq (wSet 2 (wVar 3))
 (wSet 3 (wVar 4)))))
 (wRetV 2))))
/-- _law_cell_at(_law_script, _law_k): 0 _law_script, 1 _law_k -/
def w_l_cell_at : WS :=
 (wSeq (wIf (wB (wLt (wVar 1) (wCB fLen (wCons (wVar 0) wNil)))) (wRet (wOp2 fIx (wVar 0) (wVar 1))) wNext)
 (wRet (wC (.int 0))))
/-- _law_block(_law_script, _law_k): 0 _law_script, 1 _law_k, 2 _law_cell, 3 _law_j -/
def w_l_block : WS :=
 (wSeq (wSet 2 (wC (.int 0)))
 (wSeqM (wIf (wB (wLt (wAdd (wC (.int 1)) (wMod (wFdiv (wVar 1) (wC (.int 8))) (wC (.int 62)))) (wCB fLen (wCons (wVar 0) wNil)))) (wSet 2 (wFdiv (wOp2 fIx (wVar 0) (wAdd (wC (.int 1)) (wMod (wFdiv (wVar 1) (wC (.int 8))) (wC (.int 62))))) (wPow (wC (.int 10)) (wC (.int 64))))) wNext)
 (wSeqM (wFor (wiRng1 (wCons (wMod (wVar 1) (wC (.int 8))) wNil)) (wgName 3) (wSet 2 (wFdiv (wVar 2) (wC (.int 2147483587)))))
 (wRetV 2))))
/-- _law_mixed(_law_script, _law_k): 0 _law_script, 1 _law_k, 2 _law_cell, 3 _law_number -/
def w_l_mixed : WS :=
 (wSeq (wSet 2 (wC (.int 0)))
 (wSeqM (wIf (wB (wGt (wCB fLen (wCons (wVar 0) wNil)) (wC (.int 0)))) (wSet 2 (wOp2 fIx (wVar 0) (wC (.int 0)))) wNext)
 (wSeq (wIf (wT1 (wAndT (wB (wEq (wMod (wFdiv (wVar 2) (wPow (wC (.int 10)) (wC (.int 6)))) (wC (.int 2))) (wC (.int 1)))) (wB (wNe (wCall sp_l_block (wCons (wVar 0) (wCons (wVar 1) wNil))) (wC (.int 0)))))) (wRet (wMod (wCall sp_l_block (wCons (wVar 0) (wCons (wVar 1) wNil))) (wC (.int 2147483587)))) wNext)
 (wSeqM (wIf (wB (wGt (wCB fLen (wCons (wVar 0) wNil)) (wC (.int 0)))) (wSet 2 (wOp2 fIx (wVar 0) (wMod (wVar 1) (wCB fMin2 (wCons (wC (.int 63)) (wCons (wCB fLen (wCons (wVar 0) wNil)) wNil)))))) wNext)
 (wSeq (wSet 3 (wAdd (wMod (wVar 2) (wPow (wC (.int 10)) (wC (.int 18)))) (wMul (wC (.int 48271)) (wAdd (wVar 1) (wC (.int 1))))))
 (wSeq (wSet 3 (wAdd (wMod (wMul (wVar 3) (wVar 3)) (wC (.int 2147483629))) (wMul (wC (.int 69621)) (wVar 1))))
 (wRet (wMod (wMul (wVar 3) (wVar 3)) (wC (.int 2147483587))))))))))
theorem gcd_step (g l : Nat) : Nat.gcd l (g % l) = Nat.gcd g l := by
  rw [Nat.gcd_comm l (g % l), ← Nat.gcd_rec, Nat.gcd_comm]
theorem ok_divisor : ∀ ss R, sp_divisor ss R → w_divisor { nx := fun _ => R (.t .non), rt := R } (startD ["one", "other", "greater", "lesser", "rest"] ss) := by
  rintro ss R ⟨a, b, rfl, h⟩
  show w_divisor _ [some (.t (.int a)), some (.t (.int b)), none, none, none]
  unfold w_divisor
  walk_at "dl"
  rw [abs_eq, abs_eq]
  refine ⟨fun δ => ∃ r, δ = [some (.t (.int a)), some (.t (.int b)), some (.t (.int (Int.gcd a b))), some (.t (.int 0)), r], ?_, fun δ ⟨r, e⟩ => by subst e; walk_at "dl"; exact h⟩
  refine ⟨fun n δ => ∃ (g l : Nat) (r : Option S), δ = [some (.t (.int a)), some (.t (.int b)), some (.t (.int g)), some (.t (.int l)), r] ∧ l = n ∧ Nat.gcd g l = Int.gcd a b, ⟨_, _, _, none, rfl, rfl, rfl⟩, ?_⟩
  rintro n δ ⟨g, l, r, rfl, rfl, hg⟩
  walk_at "dl"
  cases l with
  | zero => rw [if_neg (by simp)]; exact ⟨r, by rw [← hg]; simp⟩
  | succ l =>
    rw [if_pos (by simp; omega)]
    refine ⟨by omega, ?_⟩
    rw [fmod_nat]
    exact ⟨_, Nat.mod_lt g (by omega), _, _, _, rfl, rfl, by rw [gcd_step]; exact hg⟩
theorem ok_l_cell_at : ∀ ss R, sp_l_cell_at ss R → w_l_cell_at { nx := fun _ => R (.t .non), rt := R } (startD ["_law_script", "_law_k"] ss) := by
  rintro ss R ⟨ns, k, rfl, h0, h⟩
  show w_l_cell_at _ [some (.t (.lst (ns.map .int))), some (.t (.int k))]
  unfold w_l_cell_at
  walk_at "dl"
  split
  · rename_i hk
    exact atT_ints h0 (by simpa using hk) fun v _ => h v
  · exact h 0
theorem ok_l_block : ∀ ss R, sp_l_block ss R → w_l_block { nx := fun _ => R (.t .non), rt := R } (startD ["_law_script", "_law_k", "_law_cell", "_law_j"] ss) := by
  rintro ss R ⟨ns, k, rfl, h0, h⟩
  show w_l_block _ [some (.t (.lst (ns.map .int))), some (.t (.int k)), none, none]
  unfold w_l_block
  have g1 := fmod_lo (k.fdiv 8) (n := 62) (by decide)
  have g2 := fmod_hi (k.fdiv 8) (n := 62) (by decide)
  have m1 := fmod_lo k (n := 8) (by decide)
  have m2 := fmod_hi k (n := 8) (by decide)
  have rg : RngOk (k.fmod 8) := ⟨by omega, by omega⟩
  walk_at "dl"
  refine ⟨fun δ => ∃ v : Int, δ = [some (.t (.lst (ns.map .int))), some (.t (.int k)), some (.t (.int v)), none], ?_, ?_⟩
  · walk_at "dl"
    refine ⟨divOk (by decide) (by decide), by decide, ?_⟩
    split
    · rename_i hk
      refine ⟨divOk (by decide) (by decide), by decide, ?_⟩
      refine atT_ints (by omega) (by simpa using hk) fun v _ => ?_
      walk_at "dl"
      exact ⟨powOk (by decide) (by decide) (by decide), divOk (by decide) (by decide +kernel), _, rfl⟩
    · exact ⟨_, rfl⟩
  · rintro δ ⟨v, rfl⟩
    refine ⟨fun δ => ∃ (v : Int) (r : Option S), δ = [some (.t (.lst (ns.map .int))), some (.t (.int k)), some (.t (.int v)), r], ?_, fun δ ⟨v, r, e⟩ => by subst e; walk_at "dl"; exact h v⟩
    walk_at "dl"
    refine ⟨by decide, rg, fun _ δ => ∃ (v : Int) (r : Option S), δ = [some (.t (.lst (ns.map .int))), some (.t (.int k)), some (.t (.int v)), r], ⟨v, none, rfl⟩, fun _ h => h, ?_⟩
    rintro x r δ ⟨v, r, rfl⟩
    walk_at "dl"
    exact ⟨divOk (by decide) (by decide), _, _, rfl⟩
theorem ok_l_mixed : ∀ ss R, sp_l_mixed ss R → w_l_mixed { nx := fun _ => R (.t .non), rt := R } (startD ["_law_script", "_law_k", "_law_cell", "_law_number"] ss) := by
  rintro ss R ⟨ns, k, rfl, h0, hk, h⟩
  show w_l_mixed _ [some (.t (.lst (ns.map .int))), some (.t (.int k)), none, none]
  unfold w_l_mixed
  have fin : ∀ c : Int, 0 ≤ c.fmod 2147483587 ∧ c.fmod 2147483587 < 2147483587 := fun c => ⟨fmod_lo c (by decide), fmod_hi c (by decide)⟩
  walk_at "dl"
  refine ⟨fun δ => ∃ v : Int, δ = [some (.t (.lst (ns.map .int))), some (.t (.int k)), some (.t (.int v)), none], ?_, ?_⟩
  · walk_at "dl"
    split
    · rename_i hl
      exact atT_ints (by omega) (by simpa using hl) fun v _ => ⟨v, rfl⟩
    · exact ⟨_, rfl⟩
  rintro δ ⟨c, rfl⟩
  walk_at "dl"
  refine ⟨fun _ => True, ?_, ?_⟩
  · walk_at "dl"
    refine ⟨powOk (by decide) (by decide) (by decide), divOk (by decide) (by decide), by decide, ?_⟩
    split
    · refine ⟨ns, k, rfl, h0, fun v => ?_⟩
      walk_at "dl"
    · trivial
  rintro b -
  cases b with
  | true =>
    walk_at "dl"
    refine ⟨ns, k, rfl, h0, fun v => ?_⟩
    walk_at "dl"
    exact ⟨by decide, h _ (fin _).1 (fin _).2⟩
  | false =>
  walk_at "dl"
  refine ⟨fun δ => ∃ v : Int, δ = [some (.t (.lst (ns.map .int))), some (.t (.int k)), some (.t (.int v)), none], ?_, ?_⟩
  · walk_at "dl"
    split
    · rename_i hl
      have hl : (0 : Int) < ns.length := by simpa using hl
      simp only [List.length_map]
      generalize hm : (if (ns.length : Int) < 63 then (ns.length : Int) else 63) = m
      have m0 : 0 < m := by rw [← hm]; split <;> omega
      have m1 : m ≤ ns.length := by rw [← hm]; split <;> omega
      exact ⟨by omega, atT_ints (fmod_lo k m0) (by have := fmod_hi k m0; omega) fun v _ => ⟨v, rfl⟩⟩
    · exact ⟨_, rfl⟩
  rintro δ ⟨c, rfl⟩
  walk_at "dl"
  have a1 := fmod_lo c (n := 1000000000000000000) (by decide)
  have a2 := fmod_hi c (n := 1000000000000000000) (by decide)
  refine ⟨powOk (by decide) (by decide) (by decide), by decide, mulL (by decide) (by decide), mulL (by omega) (by omega), by decide, mulL (by decide) (by decide), ?_⟩
  generalize c.fmod 1000000000000000000 + 48271 * (k + 1) = z at a1 a2 ⊢
  have b1 := fmod_lo (z * z) (n := 2147483629) (by decide)
  have b2 := fmod_hi (z * z) (n := 2147483629) (by decide)
  exact ⟨mulL (by omega) (by omega), by decide, h _ (fin _).1 (fin _).2⟩
end Law

set_option Elab.async false
set_option linter.all false
set_option maxRecDepth 100000
namespace Law
open L2 DL
/-! the program's numbers and halves: what each def gives back where it refuses nothing -/
def sp_bottoms : DSpec := fun ss R => ∃ s : Spo, ss = [.t (spT s)] ∧ SzS 60000 s ∧ R (.t (.int (s.1.2 * s.2.2)))
/-- bottoms(spot): 0 spot -/
def w_bottoms : WS :=
 (wRet (wMul (wOp2 fIx (wOp2 fIx (wVar 0) (wC (.int 0))) (wC (.int 1))) (wOp2 fIx (wOp2 fIx (wVar 0) (wC (.int 1))) (wC (.int 1)))))
theorem len_bottoms : ∀ ss R, sp_bottoms ss R → ss.length = 1 := by rintro ss R ⟨a, rfl, _⟩; rfl
theorem ok_bottoms : ∀ ss R, sp_bottoms ss R → w_bottoms { nx := fun _ => R (.t .non), rt := R } (startD ["spot"] ss) := by
  rintro ss R ⟨⟨⟨x, p⟩, y, q⟩, rfl, ⟨⟨z1, z2⟩, z3, z4⟩, h⟩
  dsimp only at z1 z2 z3 z4
  show w_bottoms _ [some (.t (.tup [.tup [.int x, .int p], .tup [.int y, .int q]]))]
  unfold w_bottoms
  walk_at "dl"
  exact ⟨mulSz z2 z4 (by decide) (by decide), h⟩
end Law

set_option Elab.async false
set_option linter.all false
set_option maxRecDepth 100000
namespace Law
open L2 DL
/-! how many ways lie ahead: the mathematics of depth -/
def dotV (v f : Pt) : Int := v.1 * f.1 + v.2 * f.2
def crs (u v : Pt) : Int := u.1 * v.2 - u.2 * v.1
def ahead (vs : List Pt) (f : Pt) : Nat := vs.countP fun v => decide (0 ≤ dotV v f)
/-- just past a way: left of it, and back by a hair -/
def jpV (w : Pt) (t : Int) : Pt := (-w.2 * t - w.1, w.1 * t - w.2)
theorem dot_jp (w v : Pt) (t : Int) : dotV v (jpV w t) = t * crs w v - dotV w v := by
  unfold dotV jpV crs
  grind
/-- who is just past the way w sees these -/
def past (w v : Pt) : Bool := decide (0 < crs w v ∨ (crs w v = 0 ∧ dotV w v ≤ 0))
theorem mul_le_neg {t x : Int} (ht : 0 < t) (hx : x ≤ -1) : t * x ≤ -t := by
  have := Int.mul_le_mul_of_nonneg_left hx (Int.le_of_lt ht)
  omega
theorem mul_ge_pos {t x : Int} (ht : 0 < t) (hx : 1 ≤ x) : t ≤ t * x := by
  have := Int.mul_le_mul_of_nonneg_left hx (Int.le_of_lt ht)
  omega
theorem hair {t c d : Int} (h1 : d < t) (h2 : -t < d) : 0 ≤ t * c + d ↔ 0 < c ∨ (c = 0 ∧ 0 ≤ d) := by
  have ht : 0 < t := by omega
  constructor
  · intro h
    by_cases h0 : c = 0
    · subst h0
      rw [Int.mul_zero] at h
      exact .inr ⟨rfl, by omega⟩
    · refine .inl ?_
      by_cases hp : 0 < c
      · exact hp
      · have := mul_le_neg ht (show c ≤ -1 by omega)
        omega
  · rintro (h | ⟨rfl, h⟩)
    · have := mul_ge_pos ht (show 1 ≤ c by omega)
      omega
    · rw [Int.mul_zero]; omega
theorem jp_past {w v : Pt} {t : Int} (h1 : dotV w v < t) (h2 : -t < dotV w v) : decide (0 ≤ dotV v (jpV w t)) = past w v := by
  rw [dot_jp]
  unfold past
  have := hair (c := crs w v) (d := -dotV w v) (t := t) (by omega) (by omega)
  rw [decide_eq_decide]
  rw [show t * crs w v - dotV w v = t * crs w v + -dotV w v by omega, this]
  constructor
  · rintro (h | ⟨h, h'⟩)
    · exact .inl h
    · exact .inr ⟨h, by omega⟩
  · rintro (h | ⟨h, h'⟩)
    · exact .inl h
    · exact .inr ⟨h, by omega⟩
theorem ahead_jp {vs : List Pt} {w : Pt} {t : Int} (h : ∀ v ∈ vs, dotV w v < t ∧ -t < dotV w v) : ahead vs (jpV w t) = vs.countP (past w) := by
  unfold ahead
  refine List.countP_congr fun v hv => ?_
  rw [jp_past (h v hv).1 (h v hv).2]
theorem sq_nn (x : Int) : 0 ≤ x * x := by
  rcases Int.le_total 0 x with h | h
  · exact Int.mul_nonneg h h
  · exact Int.mul_nonneg_of_nonpos_of_nonpos h h
theorem sq_p {x : Int} (h : x ≠ 0) : 0 < x * x := by
  have := sq_nn x
  have : x * x ≠ 0 := fun z => by
    rcases Int.mul_eq_zero.mp z with e | e <;> exact h e
  omega
theorem sq_pos {w g : Pt} (h : dotV w g < 0) : 0 < w.1 * w.1 + w.2 * w.2 := by
  have a := sq_nn w.1 
  have b := sq_nn w.2
  by_cases e1 : w.1 = 0
  · by_cases e2 : w.2 = 0
    · unfold dotV at h
      rw [e1, e2] at h
      omega
    · have := sq_p e2
      omega
  · have := sq_p e1
    omega
theorem cross_turn (u v w g : Pt) : crs u w * dotV v g = crs u v * dotV w g + crs v w * dotV u g := by
  unfold crs dotV
  grind
theorem along_turn (w v g : Pt) : dotV v g * (w.1 * w.1 + w.2 * w.2) = dotV w v * dotV w g + crs w v * crs w g := by
  unfold crs dotV
  grind
/-- among the ways behind g there is a last one to the left -/
theorem last_behind (g : Pt) : ∀ vs : List Pt, (∀ v ∈ vs, 0 ≤ dotV v g) ∨ ∃ w ∈ vs, dotV w g < 0 ∧ ∀ v ∈ vs, dotV v g < 0 → crs w v ≤ 0
  | [] => .inl fun v h => by cases h
  | u :: vs => by
    rcases last_behind g vs with h | ⟨w, hw, hg, hl⟩
    · by_cases hu : 0 ≤ dotV u g
      · refine .inl fun v hv => ?_
        rcases List.mem_cons.mp hv with z | z
        · subst z; exact hu
        · exact h v z
      · refine .inr ⟨u, List.mem_cons_self, by omega, fun v hv hn => ?_⟩
        rcases List.mem_cons.mp hv with z | z
        · subst z
          have : crs v v = 0 := by unfold crs; grind
          omega
        · have := h v z; omega
    · by_cases hu : 0 ≤ dotV u g
      · refine .inr ⟨w, List.mem_cons_of_mem _ hw, hg, fun v hv hn => ?_⟩
        rcases List.mem_cons.mp hv with z | z
        · subst z; omega
        · exact hl v z hn
      · by_cases hc : crs w u ≤ 0
        · refine .inr ⟨w, List.mem_cons_of_mem _ hw, hg, fun v hv hn => ?_⟩
          rcases List.mem_cons.mp hv with z | z
          · subst z; exact hc
          · exact hl v z hn
        · refine .inr ⟨u, List.mem_cons_self, by omega, fun v hv hn => ?_⟩
          rcases List.mem_cons.mp hv with z | z
          · subst z
            have : crs v v = 0 := by unfold crs; grind
            omega
          · have c1 := hl v z hn
            have anti : crs u w = -crs w u := by unfold crs; grind
            have key := cross_turn u w v g
            -- crs u v * (w·g) = crs u w * (v·g) + crs w v * (u·g)
            have p1 : 0 ≤ crs u w * dotV v g := Int.mul_nonneg_of_nonpos_of_nonpos (by omega) (by omega)
            have p2 : 0 ≤ crs w v * dotV u g := Int.mul_nonneg_of_nonpos_of_nonpos (by omega) (by omega)
            by_cases hp : crs u v ≤ 0
            · exact hp
            · have := Int.mul_neg_of_pos_of_neg (a := crs u v) (b := dotV w g) (by omega) hg
              omega
theorem past_behind {w v g : Pt} (hw : dotV w g < 0) (hv : dotV v g < 0) (hc : crs w v ≤ 0) : past w v = false := by
  unfold past
  rw [decide_eq_false_iff_not]
  rintro (h | ⟨h0, hd⟩)
  · omega
  · have key := along_turn w v g
    rw [h0, Int.zero_mul, Int.add_zero] at key
    have p1 := Int.mul_neg_of_neg_of_pos hv (sq_pos hw)
    have p2 := Int.mul_nonneg_of_nonpos_of_nonpos hd (by omega : dotV w g ≤ 0)
    omega
/-- nowhere are less ahead than all, or than just past one of the ways -/
theorem ahead_least (vs : List Pt) (g : Pt) : vs.length ≤ ahead vs g ∨ ∃ w ∈ vs, w ≠ (0, 0) ∧ vs.countP (past w) ≤ ahead vs g := by
  rcases last_behind g vs with h | ⟨w, hw, hg, hl⟩
  · refine .inl ?_
    have : ahead vs g = vs.length := by
      unfold ahead
      rw [List.countP_eq_length]
      exact fun v hv => decide_eq_true (h v hv)
    omega
  · refine .inr ⟨w, hw, fun z => ?_, ?_⟩
    · subst z
      unfold dotV at hg
      simp at hg
    · unfold ahead
      refine List.countP_mono_left fun v hv hp => ?_
      rw [decide_eq_true_eq]
      by_cases hn : 0 ≤ dotV v g
      · exact hn
      · rw [past_behind hg (by omega) (hl v hv (by omega))] at hp
        cases hp
theorem ahead_le (vs : List Pt) (g : Pt) : ahead vs g ≤ vs.length := List.countP_le_length
/-- the depth: the least that lie ahead of a facing -/
def IsDep (vs : List Pt) (n : Nat) : Prop := (∃ f : Pt, f ≠ (0, 0) ∧ ahead vs f = n) ∧ ∀ g : Pt, g ≠ (0, 0) → n ≤ ahead vs g
theorem isDep_uniq {vs : List Pt} {m n : Nat} (h : IsDep vs m) (k : IsDep vs n) : m = n := by
  obtain ⟨⟨f, h1, h2⟩, h3⟩ := h
  obtain ⟨⟨g, k1, k2⟩, k3⟩ := k
  have := h3 g k1
  have := k3 f h1
  omega
theorem dep_ex (vs : List Pt) : ∃ n, IsDep vs n := by
  have key : ∀ (n : Nat) (f : Pt), f ≠ (0, 0) → ahead vs f ≤ n → ∃ m, IsDep vs m := by
    intro n
    induction n with
    | zero => exact fun f hf h => ⟨0, ⟨f, hf, by omega⟩, fun g _ => Nat.zero_le _⟩
    | succ n ih =>
      intro f hf h
      by_cases hx : ∃ g : Pt, g ≠ (0, 0) ∧ ahead vs g ≤ n
      · obtain ⟨g, h1, h2⟩ := hx
        exact ih g h1 h2
      · refine ⟨n + 1, ⟨f, hf, ?_⟩, fun g hg => ?_⟩
        · have : ¬ ahead vs f ≤ n := fun z => hx ⟨f, hf, z⟩
          omega
        · have : ¬ ahead vs g ≤ n := fun z => hx ⟨g, hg, z⟩
          omega
  exact key vs.length (1, 0) (by decide) (ahead_le _ _)
noncomputable def dpN (vs : List Pt) : Nat := Classical.choose (dep_ex vs)
theorem dpN_is (vs : List Pt) : IsDep vs (dpN vs) := Classical.choose_spec (dep_ex vs)
theorem dpN_eq {vs : List Pt} {n : Nat} (h : IsDep vs n) : dpN vs = n := isDep_uniq (dpN_is vs) h
/-- the facings that are tried: 1, 0 and just past each way -/
def Facing (vs : List Pt) (fs : List Pt) : Prop := (∀ f ∈ fs, f ≠ (0, 0)) ∧ fs ≠ [] ∧ ∀ w ∈ vs, w ≠ (0, 0) → ∃ f ∈ fs, ahead vs f = vs.countP (past w)
theorem facing_dep {vs fs : List Pt} (h : Facing vs fs) {f : Pt} (hf : f ∈ fs) (hm : ∀ g ∈ fs, ahead vs f ≤ ahead vs g) : IsDep vs (ahead vs f) := by
  obtain ⟨h1, h2, h3⟩ := h
  refine ⟨⟨f, h1 f hf, rfl⟩, fun g hg => ?_⟩
  rcases ahead_least vs g with z | ⟨w, hw, hn, z⟩
  · have := ahead_le vs f
    omega
  · obtain ⟨k, hk, e⟩ := h3 w hw hn
    have := hm k hk
    omega
theorem jp_ne {w : Pt} {t : Int} (h : w ≠ (0, 0)) : jpV w t ≠ (0, 0) := fun z => by
  have h1 : -w.2 * t - w.1 = 0 := congrArg Prod.fst z
  have h2 : w.1 * t - w.2 = 0 := congrArg Prod.snd z
  have e : w.1 * w.1 + w.2 * w.2 = 0 := by
    have e1 : w.1 = -w.2 * t := by omega
    have e2 : w.2 = w.1 * t := by omega
    have a : w.1 * w.1 = -(w.2 * (w.1 * t)) := by
      have : w.1 * w.1 = w.1 * (-w.2 * t) := by rw [← e1]
      rw [this]; grind
    rw [a, ← e2]; omega
  have a := sq_nn w.1
  have b := sq_nn w.2
  apply h
  have e1 : w.1 = 0 := by
    by_cases z : w.1 = 0
    · exact z
    · have := sq_p z; omega
  have e2 : w.2 = 0 := by
    by_cases z : w.2 = 0
    · exact z
    · have := sq_p z; omega
  exact Prod.ext e1 e2
/-! the law's own count -/
def rg (u v : Pt) : Bool := decide (crs u v < 0)
end Law

set_option Elab.async false
set_option linter.all false
set_option maxRecDepth 100000
namespace Law
open L2 DL
/-! half, and the defs of depth: what each gives back -/
def gcd3 (a b c : Int) : Nat := Int.gcd (Int.gcd a b) c
theorem gcd_ne {a b : Int} (h : a ≠ 0 ∨ b ≠ 0) : (Int.gcd a b : Int) ≠ 0 := fun e => by
  have e' : Int.gcd a b = 0 := by omega
  rw [Int.gcd_eq_zero_iff] at e'
  omega
theorem gcd3_ne {a b c : Int} (h : a ≠ 0 ∨ b ≠ 0) : (gcd3 a b c : Int) ≠ 0 := gcd_ne (.inl (gcd_ne h))
def hfV (a b c : Int) : Hf := (a.fdiv (gcd3 a b c), b.fdiv (gcd3 a b c), c.fdiv (gcd3 a b c))
def asV (p : Pt) : Spo := ((p.1, 1), (p.2, 1))
def strV (s : Spo) : Hf := (s.1.1 * s.2.2, s.2.1 * s.1.2, s.1.2 * s.2.2)
def wyV (h : Hf) (p : Pt) : Pt := (p.1 * h.2.2 - h.1, p.2 * h.2.2 - h.2.1)
def waysV (s : Spo) (ps : List Pt) : List Pt := ps.map (wyV (strV s))
def hfF (f : Pt) (s : Spo) : Hf := hfV (f.1 * (strV s).2.2) (f.2 * (strV s).2.2) (f.1 * (strV s).1 + f.2 * (strV s).2.1)
def sp_half : DSpec := fun ss R => ∃ a b c : Int, ss = [.t (.int a), .t (.int b), .t (.int c)] ∧ (a ≠ 0 ∨ b ≠ 0) ∧ SzH 9000 (a, b, c) ∧ R (.t (hfT (hfV a b c)))
def sp_along : DSpec := fun ss R => ∃ (a b c d : Int) (r1 r2 : List T), ss = [.t (.tup (.int a :: .int b :: r1)), .t (.tup (.int c :: .int d :: r2))] ∧ Sz 60000 a ∧ Sz 60000 b ∧ Sz 60000 c ∧ Sz 60000 d ∧ R (.t (.int (a * c + b * d)))
def sp_as_spot : DSpec := fun ss R => ∃ p : Pt, ss = [.t (ptT p)] ∧ R (.t (spT (asV p)))
def sp_stretched : DSpec := fun ss R => ∃ s : Spo, ss = [.t (spT s)] ∧ SzS 120 s ∧ R (.t (hfT (strV s)))
def sp_ways_to : DSpec := fun ss R => ∃ (ps : List Pt) (s : Spo), ss = [.t (.lst (ps.map ptT)), .t (spT s)] ∧ ps.length ≤ 1000 ∧ (∀ p ∈ ps, SzF 120 p) ∧ SzS 120 s ∧ R (.ol ((waysV s ps).map ptT))
def sp_many_ahead : DSpec := fun ss R => ∃ (vs : List Pt) (f : Pt), ss = [.t (.lst (vs.map ptT)), .t (ptT f)] ∧ vs.length ≤ 1000 ∧ (∀ p ∈ vs, SzF 400 p) ∧ SzF 1300 f ∧ R (.t (.int (ahead vs f)))
def sp_just_past : DSpec := fun ss R => ∃ (w : Pt) (vs : List Pt), ss = [.t (ptT w), .t (.lst (vs.map ptT))] ∧ vs.length ≤ 1000 ∧ vs ≠ [] ∧ SzF 400 w ∧ (∀ p ∈ vs, SzF 400 p) ∧ ∀ t : Int, (∀ v ∈ vs, dotV w v < t ∧ -t < dotV w v) → SzF 1300 (jpV w t) → R (.t (ptT (jpV w t)))
def sp_facings : DSpec := fun ss R => ∃ vs : List Pt, ss = [.t (.lst (vs.map ptT))] ∧ vs.length ≤ 1000 ∧ (∀ p ∈ vs, SzF 400 p) ∧ ∀ fs : List Pt, Facing vs fs → (∀ f ∈ fs, SzF 1300 f) → R (.ol (fs.map ptT))
def sp_half_facing : DSpec := fun ss R => ∃ (f : Pt) (s : Spo), ss = [.t (ptT f), .t (spT s)] ∧ f ≠ (0, 0) ∧ s.1.2 ≠ 0 ∧ s.2.2 ≠ 0 ∧ SzF 1300 f ∧ SzS 120 s ∧ R (.t (hfT (hfF f s)))
def sp_depth : DSpec := fun ss R => ∃ (ps : List Pt) (s : Spo), ss = [.t (.lst (ps.map ptT)), .t (spT s)] ∧ ps ≠ [] ∧ ps.length ≤ 1000 ∧ (∀ p ∈ ps, SzF 120 p) ∧ SzS 120 s ∧ s.1.2 ≠ 0 ∧ s.2.2 ≠ 0 ∧
  ∀ f : Pt, f ≠ (0, 0) → SzF 1300 f → ahead (waysV s ps) f = dpN (waysV s ps) → R (.t (.tup [.int (dpN (waysV s ps)), hfT (hfF f s)]))
noncomputable def rkV (ps : List Pt) (p : Pt) : Nat := dpN (waysV (asV p) ps)
def sp_ranks : DSpec := fun ss R => ∃ ps : List Pt, ss = [.t (.lst (ps.map ptT))] ∧ ps.length ≤ 1000 ∧ (∀ p ∈ ps, SzF 110 p) ∧ R (.ol (ps.map fun p => .int (rkV ps p)))
/-- half(a, b, c): 0 a, 1 b, 2 c, 3 common -/
def w_half : WS :=
 (wSeq (wIf (wT1 (wAndT (wB (wEq (wVar 0) (wC (.int 0)))) (wB (wEq (wVar 1) (wC (.int 0)))))) wNever wNext)
 (wSeq (wSet 3 (wCall sp_divisor (wCons (wCall sp_divisor (wCons (wVar 0) (wCons (wVar 1) wNil))) (wCons (wVar 2) wNil))))
 (wRet (wTup (wCons (wFdiv (wVar 0) (wVar 3)) (wCons (wFdiv (wVar 1) (wVar 3)) (wCons (wFdiv (wVar 2) (wVar 3)) wNil)))))))
/-- along(one, other): 0 one, 1 other -/
def w_along : WS :=
 (wRet (wAdd (wMul (wOp2 fIx (wVar 0) (wC (.int 0))) (wOp2 fIx (wVar 1) (wC (.int 0)))) (wMul (wOp2 fIx (wVar 0) (wC (.int 1))) (wOp2 fIx (wVar 1) (wC (.int 1))))))
/-- as_spot(point): 0 point -/
def w_as_spot : WS :=
 (wRet (wTup (wCons (wTup (wCons (wOp2 fIx (wVar 0) (wC (.int 0))) (wCons (wC (.int 1)) wNil))) (wCons (wTup (wCons (wOp2 fIx (wVar 0) (wC (.int 1))) (wCons (wC (.int 1)) wNil))) wNil))))
/-- stretched(spot): 0 spot -/
def w_stretched : WS :=
 (wRet (wTup (wCons (wMul (wOp2 fIx (wOp2 fIx (wVar 0) (wC (.int 0))) (wC (.int 0))) (wOp2 fIx (wOp2 fIx (wVar 0) (wC (.int 1))) (wC (.int 1)))) (wCons (wMul (wOp2 fIx (wOp2 fIx (wVar 0) (wC (.int 1))) (wC (.int 0))) (wOp2 fIx (wOp2 fIx (wVar 0) (wC (.int 0))) (wC (.int 1)))) (wCons (wCall sp_bottoms (wCons (wVar 0) wNil)) wNil)))))
/-- ways_to(points, spot): 0 points, 1 spot, 2 here -/
def w_ways_to : WS :=
 (wSeq (wSet 2 (wCall sp_stretched (wCons (wVar 1) wNil)))
 (wRet (wComp 1 [2] (wiList (wVar 0)) (wgName 0) wYes (wTup (wCons (wSub (wMul (wOp2 fIx (wVar 0) (wC (.int 0))) (wOp2 fIx (wVar 1) (wC (.int 2)))) (wOp2 fIx (wVar 1) (wC (.int 0)))) (wCons (wSub (wMul (wOp2 fIx (wVar 0) (wC (.int 1))) (wOp2 fIx (wVar 1) (wC (.int 2)))) (wOp2 fIx (wVar 1) (wC (.int 1)))) wNil))))))
/-- many_ahead(ways, facing): 0 ways, 1 facing -/
def w_many_ahead : WS :=
 (wRet (wCB fLen (wCons (wComp 1 [1] (wiList (wVar 0)) (wgName 0) (wB (wGe (wCall sp_along (wCons (wVar 0) (wCons (wVar 1) wNil))) (wC (.int 0)))) (wVar 0)) wNil)))
/-- just_past(way, ways): 0 way, 1 ways, 2 thin -/
def w_just_past : WS :=
 (wSeq (wSet 2 (wAdd (wC (.int 1)) (wCB fMaxL (wCons (wComp 1 [0] (wiList (wVar 1)) (wgName 0) wYes (wCB fAbs (wCons (wCall sp_along (wCons (wVar 1) (wCons (wVar 0) wNil))) wNil))) wNil))))
 (wRet (wTup (wCons (wSub (wMul (wUn fNeg (wOp2 fIx (wVar 0) (wC (.int 1)))) (wVar 2)) (wOp2 fIx (wVar 0) (wC (.int 0)))) (wCons (wSub (wMul (wOp2 fIx (wVar 0) (wC (.int 0))) (wVar 2)) (wOp2 fIx (wVar 0) (wC (.int 1)))) wNil)))))
/-- facings(ways): 0 ways, 1 found -/
def w_facings : WS :=
 (wSeq (wSet 1 (wComp 1 [0] (wiList (wVar 0)) (wgName 0) (wB (wNe (wVar 0) (wTup (wCons (wC (.int 0)) (wCons (wC (.int 0)) wNil))))) (wCall sp_just_past (wCons (wVar 0) (wCons (wVar 1) wNil)))))
 (wSeq (wAppend 1 (wTup (wCons (wC (.int 1)) (wCons (wC (.int 0)) wNil))))
 (wRetV 1)))
/-- half_facing(facing, spot): 0 facing, 1 spot, 2 here -/
def w_half_facing : WS :=
 (wSeq (wSet 2 (wCall sp_stretched (wCons (wVar 1) wNil)))
 (wRet (wCall sp_half (wCons (wMul (wOp2 fIx (wVar 0) (wC (.int 0))) (wOp2 fIx (wVar 2) (wC (.int 2)))) (wCons (wMul (wOp2 fIx (wVar 0) (wC (.int 1))) (wOp2 fIx (wVar 2) (wC (.int 2)))) (wCons (wCall sp_along (wCons (wVar 0) (wCons (wVar 2) wNil))) wNil))))))
/-- depth(points, spot): 0 points, 1 spot, 2 ways, 3 emptiest -/
def w_depth : WS :=
 (wSeq (wIf (wB (wEq (wCB fLen (wCons (wVar 0) wNil)) (wC (.int 0)))) wNever wNext)
 (wSeq (wSet 2 (wCall sp_ways_to (wCons (wVar 0) (wCons (wVar 1) wNil))))
 (wSeq (wSet 3 (wMinKey (wCall sp_facings (wCons (wVar 2) wNil)) 2 (wCall sp_many_ahead (wCons (wVar 1) (wCons (wVar 0) wNil)))))
 (wRet (wTup (wCons (wCall sp_many_ahead (wCons (wVar 2) (wCons (wVar 3) wNil))) (wCons (wCall sp_half_facing (wCons (wVar 3) (wCons (wVar 1) wNil))) wNil)))))))
/-- ranks(points): 0 points -/
def w_ranks : WS :=
 (wRet (wComp 1 [0] (wiList (wVar 0)) (wgName 0) wYes (wOp2 fIx (wCall sp_depth (wCons (wVar 1) (wCons (wCall sp_as_spot (wCons (wVar 0) wNil)) wNil))) (wC (.int 0)))))
theorem len_half : ∀ ss R, sp_half ss R → ss.length = 3 := by rintro ss R ⟨a, b, c, rfl, _⟩; rfl
theorem len_along : ∀ ss R, sp_along ss R → ss.length = 2 := by rintro ss R ⟨_, _, _, _, _, _, rfl, _⟩; rfl
theorem len_as_spot : ∀ ss R, sp_as_spot ss R → ss.length = 1 := by rintro ss R ⟨a, rfl, _⟩; rfl
theorem len_stretched : ∀ ss R, sp_stretched ss R → ss.length = 1 := by rintro ss R ⟨a, rfl, _⟩; rfl
theorem len_ways_to : ∀ ss R, sp_ways_to ss R → ss.length = 2 := by rintro ss R ⟨a, b, rfl, _⟩; rfl
theorem len_many_ahead : ∀ ss R, sp_many_ahead ss R → ss.length = 2 := by rintro ss R ⟨a, b, rfl, _⟩; rfl
theorem len_just_past : ∀ ss R, sp_just_past ss R → ss.length = 2 := by rintro ss R ⟨a, b, rfl, _⟩; rfl
theorem len_facings : ∀ ss R, sp_facings ss R → ss.length = 1 := by rintro ss R ⟨a, rfl, _⟩; rfl
theorem len_half_facing : ∀ ss R, sp_half_facing ss R → ss.length = 2 := by rintro ss R ⟨a, b, rfl, _⟩; rfl
theorem len_depth : ∀ ss R, sp_depth ss R → ss.length = 2 := by rintro ss R ⟨a, b, rfl, _⟩; rfl
theorem len_ranks : ∀ ss R, sp_ranks ss R → ss.length = 1 := by rintro ss R ⟨a, rfl, _⟩; rfl
theorem ok_half : ∀ ss R, sp_half ss R → w_half { nx := fun _ => R (.t .non), rt := R } (startD ["a", "b", "c", "common"] ss) := by
  rintro ss R ⟨a, b, c, rfl, hne, ⟨sa, sb, sc⟩, h⟩
  dsimp only at sa sb sc
  show w_half _ [some (.t (.int a)), some (.t (.int b)), some (.t (.int c)), none]
  unfold w_half
  walk_at "dl"
  refine ⟨fun k => k = false, ?_, ?_⟩
  · walk_at "dl"
    split
    · rename_i e; omega
    · trivial
  rintro k rfl
  walk_at "dl"
  refine ⟨_, _, rfl, ?_⟩
  walk_at "dl"
  refine ⟨_, _, rfl, ?_⟩
  walk_at "dl"
  have hg : (gcd3 a b c : Int) ≠ 0 := gcd3_ne hne
  have sg : Sz 9000 (gcd3 a b c : Int) := (Sz.gcd (Sz.gcd sa sb) sc).mono (by decide)
  have dv : ∀ z, DivOk z (gcd3 a b c : Int) := fun z => divSz hg sg (by decide)
  exact ⟨dv _, dv _, dv _, h⟩
theorem ok_along : ∀ ss R, sp_along ss R → w_along { nx := fun _ => R (.t .non), rt := R } (startD ["one", "other"] ss) := by
  rintro ss R ⟨a, b, c, d, r1, r2, rfl, sa, sb, sc, sd, h⟩
  show w_along _ [some (.t (.tup (.int a :: .int b :: r1))), some (.t (.tup (.int c :: .int d :: r2)))]
  unfold w_along
  walk_at "dl"
  exact ⟨mulSz sa sc (by decide) (by decide), mulSz sb sd (by decide) (by decide), h⟩
theorem ok_as_spot : ∀ ss R, sp_as_spot ss R → w_as_spot { nx := fun _ => R (.t .non), rt := R } (startD ["point"] ss) := by
  rintro ss R ⟨⟨x, y⟩, rfl, h⟩
  have dummy : Sz 1 0 := ⟨by decide⟩
  show w_as_spot _ [some (.t (.tup [.int x, .int y]))]
  unfold w_as_spot
  walk_at "go"
  exact h
theorem ok_stretched : ∀ ss R, sp_stretched ss R → w_stretched { nx := fun _ => R (.t .non), rt := R } (startD ["spot"] ss) := by
  rintro ss R ⟨⟨⟨x, p⟩, y, q⟩, rfl, ⟨⟨z1, z2⟩, z3, z4⟩, h⟩
  dsimp only at z1 z2 z3 z4
  show w_stretched _ [some (.t (.tup [.tup [.int x, .int p], .tup [.int y, .int q]]))]
  unfold w_stretched
  walk_at "dl"
  refine ⟨mulSz z1 z4 (by decide) (by decide), mulSz z3 z2 (by decide) (by decide), ((x, p), (y, q)), rfl, ⟨⟨z1.mono (by decide), z2.mono (by decide)⟩, z3.mono (by decide), z4.mono (by decide)⟩, ?_⟩
  walk_at "dl"
  exact h
theorem strV_sz {s : Spo} (h : SzS 120 s) : SzH 240 (strV s) := by
  obtain ⟨⟨z1, z2⟩, z3, z4⟩ := h
  exact ⟨Sz.mul z1 z4, Sz.mul z3 z2, Sz.mul z2 z4⟩
theorem wyV_sz {s : Spo} {p : Pt} (h : SzS 120 s) (hp : SzF 120 p) : SzF 400 (wyV (strV s) p) := by
  obtain ⟨y1, y2, y3⟩ := strV_sz h
  exact ⟨(Sz.sub (Sz.mul hp.1 y3) y1).mono (by decide), (Sz.sub (Sz.mul hp.2 y3) y2).mono (by decide)⟩
theorem ways_sz {s : Spo} {ps : List Pt} (h : SzS 120 s) (hp : ∀ p ∈ ps, SzF 120 p) : ∀ v ∈ waysV s ps, SzF 400 v := fun v hv => by
  obtain ⟨p, hm, rfl⟩ := List.mem_map.mp hv
  exact wyV_sz h (hp p hm)
theorem ok_ways_to : ∀ ss R, sp_ways_to ss R → w_ways_to { nx := fun _ => R (.t .non), rt := R } (startD ["points", "spot", "here"] ss) := by
  rintro ss R ⟨ps, s, rfl, hl, hp, hs, h⟩
  show w_ways_to _ [some (.t (.lst (ps.map ptT))), some (.t (spT s)), none]
  unfold w_ways_to
  walk_at "dl"
  refine ⟨s, rfl, hs, ?_⟩
  obtain ⟨y1, y2, y3⟩ := strV_sz hs
  generalize hh : strV s = hr at *
  obtain ⟨X, Y, B⟩ := hr
  dsimp only at y1 y2 y3
  walk_at "dl"
  refine comp_map (f := ptT) (h := fun p => ptT (wyV (X, Y, B) p)) (l := ps) (fun δ => ∃ r, δ = [r, some (.t (.tup [.int X, .int Y, .int B]))]) (fun _ _ => rfl) (by omega) ⟨_, rfl⟩ ?_ ?_
  · rintro ⟨x, y⟩ hm δ ⟨r, rfl⟩ Y' h1
    obtain ⟨z1, z2⟩ := hp _ hm
    dsimp only at z1 z2
    walk_at "go"
    exact h1 _ ⟨_, rfl⟩
  · have e : (ps.map fun p => ptT (wyV (X, Y, B) p)) = (waysV s ps).map ptT := by unfold waysV; rw [List.map_map, hh]; rfl
    rw [e]
    walk_at "dl"
    exact h
theorem ok_many_ahead : ∀ ss R, sp_many_ahead ss R → w_many_ahead { nx := fun _ => R (.t .non), rt := R } (startD ["ways", "facing"] ss) := by
  rintro ss R ⟨vs, ⟨a, b⟩, rfl, hl, hp, ⟨y1, y2⟩, h⟩
  dsimp only at y1 y2
  show w_many_ahead _ [some (.t (.lst (vs.map ptT))), some (.t (.tup [.int a, .int b]))]
  unfold w_many_ahead
  walk_at "dl"
  refine comp_filter (f := ptT) (h := ptT) (p := fun v => decide (0 ≤ dotV v (a, b))) (fun δ => ∃ r, δ = [r, some (.t (.tup [.int a, .int b]))]) (fun p _ => pur_ptT p) (by omega) ⟨_, rfl⟩ ?_ ?_
  · rintro ⟨x, y⟩ hm δ ⟨r, rfl⟩ Y N h1 h2
    obtain ⟨z1, z2⟩ := hp _ hm
    dsimp only at z1 z2
    walk_at "dl"
    refine ⟨x, y, a, b, [], [], rfl, z1.mono (by decide), z2.mono (by decide), y1.mono (by decide), y2.mono (by decide), ?_⟩
    walk_at "dl"
    split
    · rename_i hc
      exact h1 _ ⟨_, rfl⟩ (by rw [decide_eq_true_eq]; exact hc)
    · rename_i hc
      exact h2 _ ⟨_, rfl⟩ (by rw [decide_eq_false_iff_not]; exact hc)
  · walk_at "dl"
    rw [List.length_map, ← List.countP_eq_length_filter]
    exact h
theorem ok_just_past : ∀ ss R, sp_just_past ss R → w_just_past { nx := fun _ => R (.t .non), rt := R } (startD ["way", "ways", "thin"] ss) := by
  rintro ss R ⟨⟨a, b⟩, vs, rfl, hl, hne, ⟨y1, y2⟩, hp, h⟩
  dsimp only at y1 y2
  show w_just_past _ [some (.t (.tup [.int a, .int b])), some (.t (.lst (vs.map ptT))), none]
  unfold w_just_past
  walk_at "dl"
  refine comp_map (f := ptT) (h := fun v => T.int (if dotV (a, b) v < 0 then -dotV (a, b) v else dotV (a, b) v)) (l := vs) (fun δ => ∃ r, δ = [r, some (.t (.tup [.int a, .int b]))]) (fun _ _ => rfl) (by omega) ⟨_, rfl⟩ ?_ ?_
  · rintro ⟨x, y⟩ hm δ ⟨r, rfl⟩ Y h1
    obtain ⟨z1, z2⟩ := hp _ hm
    dsimp only at z1 z2
    walk_at "dl"
    refine ⟨a, b, x, y, [], [], rfl, y1.mono (by decide), y2.mono (by decide), z1.mono (by decide), z2.mono (by decide), ?_⟩
    walk_at "dl"
    exact h1 _ ⟨_, rfl⟩
  · have e : (vs.map fun v => T.int (if dotV (a, b) v < 0 then -dotV (a, b) v else dotV (a, b) v)) = (vs.map fun v => (if dotV (a, b) v < 0 then -dotV (a, b) v else dotV (a, b) v)).map T.int := by rw [List.map_map]; rfl
    rw [e]
    walk_at "dl"
    rw [bestK_map]
    refine ⟨by simpa using hne, fun m hm hall => ?_⟩
    have sm : Sz 801 m := by
      obtain ⟨v, hv, rfl⟩ := List.mem_map.mp hm
      obtain ⟨z1, z2⟩ := hp _ hv
      have sd : Sz 801 (dotV (a, b) v) := (Sz.add (Sz.mul y1 z1) (Sz.mul y2 z2)).mono (by decide)
      split
      · exact Sz.neg sd
      · exact sd
    have st : Sz 802 (1 + m) := by
      have : Sz 801 (1 : Int) := ⟨by decide⟩
      exact (Sz.add this sm).mono (by decide)
    have hb : ∀ v ∈ vs, dotV (a, b) v < 1 + m ∧ -(1 + m) < dotV (a, b) v := fun v hv => by
      have : (if dotV (a, b) v < 0 then -dotV (a, b) v else dotV (a, b) v) ≤ m := hall _ (List.mem_map.mpr ⟨v, hv, rfl⟩)
      split at this <;> omega
    have hz : SzF 1300 (jpV (a, b) (1 + m)) := ⟨(Sz.sub (Sz.mul (Sz.neg y2) st) y1).mono (by decide), (Sz.sub (Sz.mul y1 st) y2).mono (by decide)⟩
    have fin := h (1 + m) hb hz
    walk_at "go"
    exact fin
theorem ok_facings : ∀ ss R, sp_facings ss R → w_facings { nx := fun _ => R (.t .non), rt := R } (startD ["ways", "found"] ss) := by
  rintro ss R ⟨vs, rfl, hl, hp, h⟩
  show w_facings _ [some (.t (.lst (vs.map ptT))), none]
  unfold w_facings
  walk_at "dl"
  refine ⟨fun ts δ acc => ∃ pre post fs r, vs = pre ++ post ∧ ts = post.map ptT ∧ δ = [r, some (.t (.lst (vs.map ptT)))] ∧ acc = fs.map ptT ∧ fs.length ≤ pre.length ∧ (∀ f ∈ fs, f ≠ (0, 0) ∧ SzF 1300 f) ∧ ∀ w ∈ pre, w ≠ (0, 0) → ∃ f ∈ fs, ahead vs f = vs.countP (past w), ⟨[], vs, [], _, rfl, rfl, rfl, rfl, Nat.le_refl _, fun f hf => (by cases hf), fun w hw => (by cases hw)⟩, ?_, ?_⟩
  · rintro δ acc ⟨pre, post, fs, r, e1, e2, rfl, rfl, hlen, hfs, hall⟩
    have : post = [] := by simpa using e2.symm
    subst this
    rw [List.append_nil] at e1
    subst e1
    have dummy : Sz 1 0 := ⟨by decide⟩
    walk_at "dl"
    have e : fs.map ptT ++ [T.tup [.int 1, .int 0]] = (fs ++ [(1, 0)]).map ptT := by rw [List.map_append]; rfl
    refine ⟨by rw [List.length_map]; omega, ?_⟩
    rw [e]
    refine h (fs ++ [(1, 0)]) ⟨fun f hf => ?_, by simp, fun w hw hn => ?_⟩ fun f hf => ?_
    · rcases List.mem_append.mp hf with z | z
      · exact (hfs f z).1
      · simp at z; subst z; decide
    · obtain ⟨f, hf, e⟩ := hall w hw hn
      exact ⟨f, List.mem_append_left _ hf, e⟩
    · rcases List.mem_append.mp hf with z | z
      · exact (hfs f z).2
      · simp at z; subst z; exact ⟨⟨by decide⟩, ⟨by decide⟩⟩
  · rintro x r δ acc ⟨pre, post, fs, r0, e1, e2, rfl, rfl, hlen, hfs, hall⟩
    cases post with
    | nil => cases e2
    | cons w post =>
      rw [List.map_cons] at e2
      cases e2
      have hw : w ∈ vs := by rw [e1]; simp
      have hlv : vs.length = pre.length + (post.length + 1) := by rw [e1]; simp
      obtain ⟨a, b⟩ := w
      walk_at "dl"
      split
      · rename_i hc
        have hn : ((a, b) : Pt) ≠ (0, 0) := fun z => by
          cases z
          simp at hc
        refine ⟨(a, b), vs, rfl, hl, List.ne_nil_of_mem hw, hp _ hw, hp, fun t ht hz => ?_⟩
        show itemK _ (.t (ptT (jpV (a, b) t)))
        rw [itemK_t]
        refine ⟨rfl, by rw [List.length_map]; omega, pre ++ [(a, b)], post, fs ++ [jpV (a, b) t], _, by rw [e1]; simp, rfl, rfl, by rw [List.map_append]; rfl, by simp; omega, fun f hf => ?_, fun u hu hun => ?_⟩
        · rcases List.mem_append.mp hf with z | z
          · exact hfs f z
          · have z := List.mem_singleton.mp z
            subst z
            exact ⟨jp_ne hn, hz⟩
        · rcases List.mem_append.mp hu with z | z
          · obtain ⟨f, hf, e⟩ := hall u z hun
            exact ⟨f, List.mem_append_left _ hf, e⟩
          · have z := List.mem_singleton.mp z
            subst z
            exact ⟨jpV (a, b) t, by simp, ahead_jp ht⟩
      · rename_i hc
        have hz : a = 0 ∧ b = 0 := by simpa using hc
        refine ⟨pre ++ [(a, b)], post, fs, _, by rw [e1]; simp, rfl, rfl, rfl, by simp; omega, hfs, fun u hu hun => ?_⟩
        rcases List.mem_append.mp hu with z | z
        · exact hall u z hun
        · have z := List.mem_singleton.mp z
          subst z
          exact absurd (Prod.ext hz.1 hz.2) hun
theorem ok_half_facing : ∀ ss R, sp_half_facing ss R → w_half_facing { nx := fun _ => R (.t .non), rt := R } (startD ["facing", "spot", "here"] ss) := by
  rintro ss R ⟨⟨a, b⟩, s, rfl, hf, h1, h2, ⟨z1, z2⟩, hs, h⟩
  dsimp only at z1 z2
  show w_half_facing _ [some (.t (.tup [.int a, .int b])), some (.t (spT s)), none]
  unfold w_half_facing
  walk_at "dl"
  refine ⟨s, rfl, hs, ?_⟩
  obtain ⟨y1, y2, y3⟩ := strV_sz hs
  have hB : (strV s).2.2 ≠ 0 := fun z => by
    rcases Int.mul_eq_zero.mp (show s.1.2 * s.2.2 = 0 from z) with e | e
    · exact h1 e
    · exact h2 e
  unfold hfF at h
  generalize strV s = hr at *
  obtain ⟨X, Y, B⟩ := hr
  dsimp only at y1 y2 y3 hB h
  walk_at "go"
  refine ⟨a, b, X, Y, [], [.int B], rfl, z1.mono (by decide), z2.mono (by decide), y1.mono (by decide), y2.mono (by decide), ?_⟩
  walk_at "dl"
  refine ⟨_, _, _, rfl, ?_, ⟨(Sz.mul z1 y3).mono (by decide), (Sz.mul z2 y3).mono (by decide), (Sz.add (Sz.mul z1 y1) (Sz.mul z2 y2)).mono (by decide)⟩, h⟩
  by_cases e : a = 0
  · right
    intro q
    rcases Int.mul_eq_zero.mp q with q | q
    · exact hf (Prod.ext e q)
    · exact hB q
  · left
    intro q
    rcases Int.mul_eq_zero.mp q with q | q
    · exact e q
    · exact hB q
theorem tups_pt : ∀ fs : List Pt, tups (fs.map ptT) = true
  | [] => rfl
  | p :: r => by rw [List.map_cons]; show tups (T.tup _ :: _) = true; unfold tups; rw [tups_pt r]; rfl
def unPt : T → Pt
  | .tup [.int a, .int b] => (a, b)
  | _ => (0, 0)
theorem ok_depth : ∀ ss R, sp_depth ss R → w_depth { nx := fun _ => R (.t .non), rt := R } (startD ["points", "spot", "ways", "emptiest"] ss) := by
  rintro ss R ⟨ps, s, rfl, hne, hl, hp, hs, h1, h2, h⟩
  show w_depth _ [some (.t (.lst (ps.map ptT))), some (.t (spT s)), none, none]
  unfold w_depth
  have hlen : ((ps.map ptT).length : Int) ≠ 0 := by
    rw [List.length_map]
    have := List.length_pos_iff.mpr hne
    omega
  walk_at "dl"
  rw [if_neg (by simpa using hlen)]
  refine ⟨ps, s, rfl, hl, hp, hs, ?_⟩
  have hw := ways_sz hs hp
  have hwl : (waysV s ps).length ≤ 1000 := by unfold waysV; rw [List.length_map]; exact hl
  walk_at "dl"
  refine ⟨waysV s ps, rfl, hwl, hw, fun fs hF hfs => ?_⟩
  walk_at "dl"
  refine ⟨fs.map ptT, fun t => (ahead (waysV s ps) (unPt t) : Int), .ol ((waysV s ps).map ptT), rfl, fun z => hF.2.1 (List.map_eq_nil_iff.mp z), tups_pt fs, rfl, fun t ht => ?_, fun t ht hmin => ?_⟩
  · obtain ⟨f, hf, rfl⟩ := List.mem_map.mp ht
    walk_at "dl"
    refine ⟨waysV s ps, f, rfl, hwl, hw, hfs f hf, ?_⟩
    rfl
  · obtain ⟨f, hf, rfl⟩ := List.mem_map.mp ht
    have hd := facing_dep hF hf fun g hg => by
      have : (ahead (waysV s ps) f : Int) ≤ (ahead (waysV s ps) g : Int) := hmin _ (List.mem_map.mpr ⟨g, hg, rfl⟩)
      omega
    have e := dpN_eq hd
    walk_at "dl"
    refine ⟨waysV s ps, f, rfl, hwl, hw, hfs f hf, ?_⟩
    walk_at "dl"
    refine ⟨f, s, rfl, hF.1 f hf, h1, h2, hfs f hf, hs, ?_⟩
    have fin := h f (hF.1 f hf) (hfs f hf) e.symm
    rw [e] at fin
    walk_at "dl"
    exact fin
theorem ok_ranks : ∀ ss R, sp_ranks ss R → w_ranks { nx := fun _ => R (.t .non), rt := R } (startD ["points"] ss) := by
  rintro ss R ⟨ps, rfl, hl, hp, h⟩
  show w_ranks _ [some (.t (.lst (ps.map ptT)))]
  unfold w_ranks
  walk_at "dl"
  refine comp_map (f := ptT) (h := fun p => T.int (rkV ps p)) (l := ps) (fun δ => ∃ r, δ = [r, some (.t (.lst (ps.map ptT)))]) (fun _ _ => rfl) (by omega) ⟨_, rfl⟩ ?_ ?_
  · rintro p hm δ ⟨r, rfl⟩ Y h1
    have zp := hp p hm
    have one : Sz 120 (1 : Int) := ⟨by decide⟩
    walk_at "dl"
    refine ⟨p, rfl, ?_⟩
    walk_at "dl"
    refine ⟨ps, asV p, rfl, List.ne_nil_of_mem hm, hl, fun q hq => ⟨(hp q hq).1.mono (by decide), (hp q hq).2.mono (by decide)⟩, ⟨⟨zp.1.mono (by decide), one⟩, zp.2.mono (by decide), one⟩, (by show (1 : Int) ≠ 0; decide), (by show (1 : Int) ≠ 0; decide), fun f _ _ _ => ?_⟩
    walk_at "dl"
    exact h1 _ ⟨_, rfl⟩
  · walk_at "dl"
    exact h
end Law

set_option Elab.async false
set_option linter.all false
set_option maxRecDepth 100000
namespace Law
open L2 DL
/-! points drawn by the law -/
def sp_l_points : DSpec := fun ss R => ∃ (ns : List Int) (st many : Int), ss = [.t (.lst (ns.map .int)), .t (.int st), .t (.int many)] ∧ 0 ≤ st ∧ st < 10000 ∧ 0 ≤ many ∧ many < 1000 ∧ ∀ ps : List Pt, ps.length = many.toNat → (∀ p ∈ ps, SzF 100 p) → R (.ol (ps.map ptT))
/-- _law_points(_law_script, _law_start, _law_many): 0 _law_script, 1 _law_start, 2 _law_many, 3 _law_way, 4 _law_far, 5 _law_found, 6 _law_k, 7 _law_number, 8 _law_point, 9 _law_step -/
def w_l_points : WS :=
 (wSeq (wSet 3 (wMod (wCall sp_l_mixed (wCons (wVar 0) (wCons (wVar 1) wNil))) (wC (.int 5))))
 (wSeq (wSet 4 (wCall sp_l_mixed (wCons (wVar 0) (wCons (wAdd (wVar 1) (wC (.int 1))) wNil))))
 (wSeq (wSet 5 (wLst wNil))
 (wSeqM (wFor (wiRng1 (wCons (wVar 2) wNil)) (wgName 6) (wSeq (wSet 7 (wCall sp_l_mixed (wCons (wVar 0) (wCons (wAdd (wAdd (wVar 1) (wC (.int 2))) (wVar 6)) wNil))))
 (wSeq (wSet 8 (wTup (wCons (wSub (wMod (wVar 7) (wC (.int 5))) (wC (.int 2))) (wCons (wSub (wMod (wFdiv (wVar 7) (wC (.int 5))) (wC (.int 5))) (wC (.int 2))) wNil))))
 (wSeqM (wIf (wB (wEq (wVar 3) (wC (.int 1)))) (wSet 8 (wTup (wCons (wSub (wMod (wVar 7) (wMul (wC (.int 2)) (wPow (wC (.int 10)) (wC (.int 9))))) (wPow (wC (.int 10)) (wC (.int 9)))) (wCons (wSub (wMod (wMul (wVar 7) (wVar 4)) (wMul (wC (.int 2)) (wPow (wC (.int 10)) (wC (.int 18))))) (wPow (wC (.int 10)) (wC (.int 18)))) wNil)))) wNext)
 (wSeqM (wIf (wB (wEq (wVar 3) (wC (.int 2)))) (wSet 8 (wTup (wCons (wSub (wMod (wVar 7) (wC (.int 201))) (wC (.int 100))) (wCons (wSub (wMod (wFdiv (wVar 7) (wC (.int 201))) (wC (.int 201))) (wC (.int 100))) wNil)))) wNext)
 (wSeqM (wIf (wB (wEq (wVar 3) (wC (.int 3)))) (wSeq (wSet 9 (wSub (wMod (wVar 7) (wC (.int 9))) (wC (.int 4))))
 (wSet 8 (wTup (wCons (wAdd (wMul (wVar 9) (wSub (wMod (wVar 4) (wC (.int 3))) (wC (.int 1)))) (wC (.int 5))) (wCons (wSub (wMul (wVar 9) (wSub (wMod (wFdiv (wVar 4) (wC (.int 3))) (wC (.int 3))) (wC (.int 1)))) (wC (.int 2))) wNil))))) wNext)
 (wAppend 5 (wVar 8))))))))
 (wRetV 5)))))
theorem len_l_points : ∀ ss R, sp_l_points ss R → ss.length = 3 := by rintro ss R ⟨a, b, c, rfl, _⟩; rfl
theorem ok_l_points : ∀ ss R, sp_l_points ss R → w_l_points { nx := fun _ => R (.t .non), rt := R } (startD ["_law_script", "_law_start", "_law_many", "_law_way", "_law_far", "_law_found", "_law_k", "_law_number", "_law_point", "_law_step"] ss) := by
  rintro ss R ⟨ns, st, many, rfl, s0, s1, m0, m1, h⟩
  show w_l_points _ [some (.t (.lst (ns.map .int))), some (.t (.int st)), some (.t (.int many)), none, none, none, none, none, none, none]
  unfold w_l_points
  walk_at "dl"
  refine ⟨ns, st, rfl, s0, by omega, fun w w0 w1 => ?_⟩
  walk_at "go"
  refine ⟨ns, st + 1, rfl, by omega, by omega, fun far f0 f1 => ?_⟩
  walk_at "dl"
  generalize w.fmod 5 = way
  let M (n : Nat) : DSt → Prop := fun δ => ∃ (ps : List Pt) (r6 r7 r8 r9 : Option S), δ = [some (.t (.lst (ns.map .int))), some (.t (.int st)), some (.t (.int many)), some (.t (.int way)), some (.t (.int far)), some (.ol (ps.map ptT)), r6, r7, r8, r9] ∧ ps.length = n ∧ ∀ p ∈ ps, SzF 100 p
  refine ⟨M many.toNat, ?_, ?_⟩
  · walk_at "dl"
    refine ⟨rngOk (by omega) (by omega), fun ts δ => (∃ n, n + ts.length = many.toNat ∧ M n δ) ∧ ∀ t ∈ ts, ∃ k : Int, t = .int k ∧ 0 ≤ k ∧ k < 1000, ⟨⟨0, by rw [len_rngT]; omega, [], _, _, _, _, rfl, rfl, fun p hp => by cases hp⟩, ?_⟩, ?_, ?_⟩
    · intro t ht
      obtain ⟨k, rfl, k0, k1⟩ := mem_rngT ht
      exact ⟨k, rfl, k0, by omega⟩
    · rintro δ ⟨⟨n, hn, hM⟩, _⟩
      rw [List.length_nil] at hn
      rw [← hn]
      exact hM
    · rintro t ts δ ⟨⟨n, hn, ⟨ps, r6, r7, r8, r9, rfl, hl, hs⟩⟩, ht⟩
      obtain ⟨k, rfl, k0, k1⟩ := ht t List.mem_cons_self
      rw [List.length_cons] at hn
      have ht' := fun t h => ht t (List.mem_cons_of_mem _ h)
      walk_at "dl"
      refine ⟨ns, st + 2 + k, rfl, by omega, by omega, fun v v0 v1 => ?_⟩
      have a1 := fmod_lo v (n := 5) (by decide)
      have a2 := fmod_hi v (n := 5) (by decide)
      have a3 := fmod_lo (v.fdiv 5) (n := 5) (by decide)
      have a4 := fmod_hi (v.fdiv 5) (n := 5) (by decide)
      have c1 := fmod_lo v (n := 201) (by decide)
      have c2 := fmod_hi v (n := 201) (by decide)
      have c3 := fmod_lo (v.fdiv 201) (n := 201) (by decide)
      have c4 := fmod_hi (v.fdiv 201) (n := 201) (by decide)
      have d1 := fmod_lo v (n := 2000000000) (by decide)
      have d2 := fmod_hi v (n := 2000000000) (by decide)
      have d3 := fmod_lo (v * far) (n := 2000000000000000000) (by decide)
      have d4 := fmod_hi (v * far) (n := 2000000000000000000) (by decide)
      have e1 := fmod_lo v (n := 9) (by decide)
      have e2 := fmod_hi v (n := 9) (by decide)
      have e3 := fmod_lo far (n := 3) (by decide)
      have e4 := fmod_hi far (n := 3) (by decide)
      have e5 := fmod_lo (far.fdiv 3) (n := 3) (by decide)
      have e6 := fmod_hi (far.fdiv 3) (n := 3) (by decide)
      have sv : Sz 40 v := Sz.of (by omega) (by omega)
      have sf : Sz 40 far := Sz.of (by omega) (by omega)
      let N : DSt → Prop := fun δ => ∃ (p : Pt) (r9 : Option S), δ = [some (.t (.lst (ns.map .int))), some (.t (.int st)), some (.t (.int many)), some (.t (.int way)), some (.t (.int far)), some (.ol (ps.map ptT)), some (.t (.int k)), some (.t (.int v)), some (.t (ptT p)), r9] ∧ SzF 100 p
      walk_at "go"
      refine ⟨N, ?_, ?_⟩
      · walk_at "go"
        split
        · walk_at "go"
          exact ⟨(_, _), _, rfl, ⟨Sz.of (by dsimp only; omega) (by dsimp only; omega), Sz.of (by dsimp only; omega) (by dsimp only; omega)⟩⟩
        · exact ⟨(_, _), _, rfl, ⟨Sz.of (by dsimp only; omega) (by dsimp only; omega), Sz.of (by dsimp only; omega) (by dsimp only; omega)⟩⟩
      rintro δ ⟨p, r9, rfl, sp⟩
      walk_at "dl"
      refine ⟨N, ?_, ?_⟩
      · walk_at "go"
        split
        · walk_at "go"
          exact ⟨(_, _), _, rfl, ⟨Sz.of (by dsimp only; omega) (by dsimp only; omega), Sz.of (by dsimp only; omega) (by dsimp only; omega)⟩⟩
        · exact ⟨p, _, rfl, sp⟩
      clear sp p r9
      rintro δ ⟨p, r9, rfl, sp⟩
      walk_at "dl"
      refine ⟨N, ?_, ?_⟩
      · walk_at "go"
        split
        · walk_at "go"
          have q1 : Sz 10 (v.fmod 9 - 4) := Sz.of (by omega) (by omega)
          have q2 : Sz 10 (far.fmod 3 - 1) := Sz.of (by omega) (by omega)
          have q3 : Sz 10 ((far.fdiv 3).fmod 3 - 1) := Sz.of (by omega) (by omega)
          have q4 : Sz 10 5 := Sz.of (by omega) (by omega)
          have q5 : Sz 10 2 := Sz.of (by omega) (by omega)
          exact ⟨(_, _), _, rfl, ⟨(Sz.add (Sz.mul q1 q2) q4).mono (by decide), (Sz.sub (Sz.mul q1 q3) q5).mono (by decide)⟩⟩
        · exact ⟨p, _, rfl, sp⟩
      clear sp p r9
      rintro δ ⟨p, r9, rfl, sp⟩
      walk_at "dl"
      refine ⟨by rw [List.length_map, hl]; omega, ⟨n + 1, by omega, ps ++ [p], _, _, _, _, by rw [List.map_append]; rfl, by simp [hl], fun q hq => ?_⟩, ht'⟩
      rcases List.mem_append.mp hq with z | z
      · exact hs q z
      · simp at z; subst z; exact sp
  rintro δ ⟨ps, r6, r7, r8, r9, rfl, hl, hs⟩
  walk_at "dl"
  exact h ps hl hs
/-- from a point to another -/
def sbV (p q : Pt) : Pt := (q.1 - p.1, q.2 - p.2)
theorem wy_as (p q : Pt) : wyV (strV (asV p)) q = sbV p q := by
  unfold wyV strV asV sbV
  simp
theorem ways_as (p : Pt) (ps : List Pt) : waysV (asV p) ps = ps.map (sbV p) := by
  unfold waysV
  exact List.map_congr_left fun q _ => wy_as p q
theorem sb_nul (p q : Pt) : sbV p q = (0, 0) ↔ q = p := by
  unfold sbV
  constructor
  · intro h
    have h1 : q.1 - p.1 = 0 := congrArg Prod.fst h
    have h2 : q.2 - p.2 = 0 := congrArg Prod.snd h
    exact Prod.ext (by omega) (by omega)
  · rintro rfl
    simp
end Law

set_option Elab.async false
set_option linter.all false
set_option maxRecDepth 100000
namespace Law
open L2 DL
def ldV (a b c d r u : Int) (p : Pt) : Pt := (a * p.1 + b * p.2 + r, c * p.1 + d * p.2 + u)
def mat (a b c d : Int) (v : Pt) : Pt := (a * v.1 + b * v.2, c * v.1 + d * v.2)
def sp_l_led : DSpec := fun ss R => ∃ (ns : List Int) (ps : List Pt), ss = [.t (.lst (ns.map .int)), .t (.lst (ps.map ptT))] ∧ ps.length ≤ 1000 ∧ (∀ p ∈ ps, SzF 100 p) ∧ ∀ a b c d r u : Int, a * d - b * c ≠ 0 → (∀ p ∈ ps, SzF 110 (ldV a b c d r u p)) → R (.ol ((ps.map (ldV a b c d r u)).map ptT))
/-- _law_led(_law_script, _law_points_here): 0 _law_script, 1 _law_points_here, 2 _law_number, 3 _law_a, 4 _law_b, 5 _law_c, 6 _law_d, 7 _law_right, 8 _law_up -/
def w_l_led : WS :=
 (wSeq (wSet 2 (wCall sp_l_mixed (wCons (wVar 0) (wCons (wC (.int 80)) wNil))))
 (wSeq (wSet 3 (wSub (wMod (wVar 2) (wC (.int 9))) (wC (.int 4))))
 (wSeq (wSet 4 (wSub (wMod (wFdiv (wVar 2) (wC (.int 9))) (wC (.int 9))) (wC (.int 4))))
 (wSeq (wSet 5 (wSub (wMod (wFdiv (wVar 2) (wC (.int 81))) (wC (.int 9))) (wC (.int 4))))
 (wSeq (wSet 6 (wSub (wMod (wFdiv (wVar 2) (wC (.int 729))) (wC (.int 9))) (wC (.int 4))))
 (wSeqM (wIf (wB (wEq (wMul (wVar 3) (wVar 6)) (wMul (wVar 4) (wVar 5)))) (wUnp (wOp2 fIx (wLst (wCons (wTup (wCons (wC (.int 1)) (wCons (wC (.int 0)) (wCons (wC (.int 0)) (wCons (wC (.int 1)) wNil))))) (wCons (wTup (wCons (wC (.int 0)) (wCons (wC (.int 1)) (wCons (wC (.int 1)) (wCons (wC (.int 0)) wNil))))) (wCons (wTup (wCons (wC (.int 1)) (wCons (wC (.int 2)) (wCons (wC (.int 0)) (wCons (wUn fNeg (wC (.int 1))) wNil))))) (wCons (wTup (wCons (wUn fNeg (wC (.int 1))) (wCons (wC (.int 0)) (wCons (wC (.int 3)) (wCons (wC (.int 2)) wNil))))) wNil))))) (wMod (wFdiv (wVar 2) (wC (.int 6561))) (wC (.int 4)))) (wgTup (wgCons (wgName 3) (wgCons (wgName 4) (wgCons (wgName 5) (wgCons (wgName 6) wgNil)))))) wNext)
 (wSeq (wSet 7 (wSub (wMod (wCall sp_l_cell_at (wCons (wVar 0) (wCons (wC (.int 3)) wNil))) (wMul (wC (.int 2)) (wPow (wC (.int 10)) (wC (.int 30))))) (wPow (wC (.int 10)) (wC (.int 30)))))
 (wSeq (wSet 8 (wSub (wMod (wCall sp_l_cell_at (wCons (wVar 0) (wCons (wC (.int 4)) wNil))) (wMul (wC (.int 2)) (wPow (wC (.int 10)) (wC (.int 30))))) (wPow (wC (.int 10)) (wC (.int 30)))))
 (wRet (wComp 2 [3, 4, 7, 5, 6, 8] (wiList (wVar 1)) (wgTup (wgCons (wgName 0) (wgCons (wgName 1) wgNil))) wYes (wTup (wCons (wAdd (wAdd (wMul (wVar 2) (wVar 0)) (wMul (wVar 3) (wVar 1))) (wVar 4)) (wCons (wAdd (wAdd (wMul (wVar 5) (wVar 0)) (wMul (wVar 6) (wVar 1))) (wVar 7)) wNil)))))))))))))
/-- law(_law_script): 0 _law_script, 1 _law_points_here, 2 _law_more, 3 _law_found, 4 _law_longer, 5 _law_k -/
def w_law : WS :=
 (wSeq (wSet 1 (wCall sp_l_points (wCons (wVar 0) (wCons (wC (.int 1)) (wCons (wAdd (wC (.int 2)) (wMod (wCall sp_l_cell_at (wCons (wVar 0) (wCons (wC (.int 0)) wNil))) (wC (.int 8)))) wNil)))))
 (wSeq (wPopTo 2 1)
 (wSeq (wSet 3 (wCall sp_ranks (wCons (wVar 1) wNil)))
 (wSeq (wIf (wT1 (wOrT (wB (wNe (wCall sp_ranks (wCons (wCall sp_l_led (wCons (wVar 0) (wCons (wVar 1) wNil))) wNil)) (wVar 3))) (wB (wNe (wCall sp_ranks (wCons (wListRev (wVar 1)) wNil)) (wListRev (wVar 3)))))) (wRet (wC (.bl false))) wNext)
 (wSeq (wSet 4 (wCall sp_ranks (wCons (wOp2 fCat (wVar 1) (wLst (wCons (wVar 2) wNil))) wNil)))
 (wSeq (wIf (wT1 (wOrT (wB (wNe (wCB fLen (wCons (wVar 4) wNil)) (wAdd (wCB fLen (wCons (wVar 1) wNil)) (wC (.int 1))))) (wB (wLt (wOp2 fIx (wVar 4) (wUn fNeg (wC (.int 1)))) (wC (.int 1)))))) (wRet (wC (.bl false))) wNext)
 (wSeqM (wFor (wiRng1 (wCons (wCB fLen (wCons (wVar 1) wNil)) wNil)) (wgName 5) (wIf (wT1 (wOrT (wB (wNotIn (wSub (wOp2 fIx (wVar 4) (wVar 5)) (wOp2 fIx (wVar 3) (wVar 5))) (wLst (wCons (wC (.int 0)) (wCons (wC (.int 1)) wNil))))) (wAndT (wB (wEq (wOp2 fIx (wVar 1) (wVar 5)) (wVar 2))) (wB (wEq (wOp2 fIx (wVar 4) (wVar 5)) (wOp2 fIx (wVar 3) (wVar 5))))))) (wRet (wC (.bl false))) wNext))
 (wRet (wC (.bl true))))))))))

theorem len_l_led : ∀ ss R, sp_l_led ss R → ss.length = 2 := by rintro ss R ⟨a, b, rfl, _⟩; rfl
theorem led_sb (a b c d r u : Int) (p q : Pt) : sbV (ldV a b c d r u p) (ldV a b c d r u q) = mat a b c d (sbV p q) := by
  unfold sbV ldV mat
  apply Prod.ext
  · show a * q.1 + b * q.2 + r - (a * p.1 + b * p.2 + r) = a * (q.1 - p.1) + b * (q.2 - p.2)
    grind
  · show c * q.1 + d * q.2 + u - (c * p.1 + d * p.2 + u) = c * (q.1 - p.1) + d * (q.2 - p.2)
    grind
theorem dot_mat (a b c d : Int) (v f : Pt) : dotV (mat a b c d v) f = dotV v (a * f.1 + c * f.2, b * f.1 + d * f.2) := by
  unfold dotV mat
  grind
theorem ahead_mat (a b c d : Int) (vs : List Pt) (f : Pt) : ahead (vs.map (mat a b c d)) f = ahead vs (a * f.1 + c * f.2, b * f.1 + d * f.2) := by
  unfold ahead
  rw [List.countP_map]
  refine List.countP_congr fun v _ => ?_
  show decide (0 ≤ dotV (mat a b c d v) f) = true ↔ _
  rw [dot_mat]
theorem ahead_scale {k : Int} (hk : 0 < k) (vs : List Pt) (g : Pt) : ahead vs (k * g.1, k * g.2) = ahead vs g := by
  unfold ahead
  refine List.countP_congr fun v _ => ?_
  have e : dotV v (k * g.1, k * g.2) = k * dotV v g := by unfold dotV; grind
  rw [e, decide_eq_true_eq, decide_eq_true_eq]
  constructor
  · intro h
    by_cases z : 0 ≤ dotV v g
    · exact z
    · have := Int.mul_neg_of_pos_of_neg hk (show dotV v g < 0 by omega)
      omega
  · exact fun h => Int.mul_nonneg (by omega) h
theorem det_ne {a b c d : Int} (h : a * d - b * c ≠ 0) {f : Pt} (hf : f ≠ (0, 0)) : ((a * f.1 + c * f.2, b * f.1 + d * f.2) : Pt) ≠ (0, 0) := fun z => by
  have h1 : a * f.1 + c * f.2 = 0 := congrArg Prod.fst z
  have h2 : b * f.1 + d * f.2 = 0 := congrArg Prod.snd z
  have e1 : (a * d - b * c) * f.1 = 0 := by
    have : (a * d - b * c) * f.1 = d * (a * f.1 + c * f.2) - c * (b * f.1 + d * f.2) := by grind
    rw [this, h1, h2]; omega
  have e2 : (a * d - b * c) * f.2 = 0 := by
    have : (a * d - b * c) * f.2 = a * (b * f.1 + d * f.2) - b * (a * f.1 + c * f.2) := by grind
    rw [this, h1, h2]; omega
  apply hf
  refine Prod.ext ?_ ?_
  · rcases Int.mul_eq_zero.mp e1 with q | q
    · exact absurd q h
    · exact q
  · rcases Int.mul_eq_zero.mp e2 with q | q
    · exact absurd q h
    · exact q
theorem dpN_mat {a b c d : Int} (h : a * d - b * c ≠ 0) (vs : List Pt) : dpN (vs.map (mat a b c d)) = dpN vs := by
  refine dpN_eq ⟨?_, fun f hf => ?_⟩
  · obtain ⟨g, hg, e⟩ := (dpN_is vs).1
    have key : ∀ s : Int, 0 < s * (a * d - b * c) → ∃ f : Pt, f ≠ (0, 0) ∧ ahead (vs.map (mat a b c d)) f = dpN vs := fun s hs => by
      have e1 : ((a * (s * (d * g.1 - c * g.2)) + c * (s * (a * g.2 - b * g.1)), b * (s * (d * g.1 - c * g.2)) + d * (s * (a * g.2 - b * g.1))) : Pt) = ((s * (a * d - b * c)) * g.1, (s * (a * d - b * c)) * g.2) := by
        apply Prod.ext
        · show a * (s * (d * g.1 - c * g.2)) + c * (s * (a * g.2 - b * g.1)) = (s * (a * d - b * c)) * g.1
          grind
        · show b * (s * (d * g.1 - c * g.2)) + d * (s * (a * g.2 - b * g.1)) = (s * (a * d - b * c)) * g.2
          grind
      refine ⟨(s * (d * g.1 - c * g.2), s * (a * g.2 - b * g.1)), fun z => ?_, ?_⟩
      · have z1 : s * (d * g.1 - c * g.2) = 0 := congrArg Prod.fst z
        have z2 : s * (a * g.2 - b * g.1) = 0 := congrArg Prod.snd z
        rw [z1, z2] at e1
        have w1 : a * 0 + c * 0 = s * (a * d - b * c) * g.1 := congrArg Prod.fst e1
        have w2 : b * 0 + d * 0 = s * (a * d - b * c) * g.2 := congrArg Prod.snd e1
        apply hg
        refine Prod.ext ?_ ?_
        · rcases Int.mul_eq_zero.mp (show s * (a * d - b * c) * g.1 = 0 by omega) with q | q
          · omega
          · exact q
        · rcases Int.mul_eq_zero.mp (show s * (a * d - b * c) * g.2 = 0 by omega) with q | q
          · omega
          · exact q
      · rw [ahead_mat]
        show ahead vs (a * (s * (d * g.1 - c * g.2)) + c * (s * (a * g.2 - b * g.1)), b * (s * (d * g.1 - c * g.2)) + d * (s * (a * g.2 - b * g.1))) = _
        rw [e1, ahead_scale hs, e]
    by_cases hp : 0 < a * d - b * c
    · exact key 1 (by omega)
    · exact key (-1) (by omega)
  · rw [ahead_mat]
    exact (dpN_is vs).2 _ (det_ne h hf)
theorem rk_led {a b c d r u : Int} (h : a * d - b * c ≠ 0) (ps : List Pt) (p : Pt) : rkV (ps.map (ldV a b c d r u)) (ldV a b c d r u p) = rkV ps p := by
  unfold rkV
  rw [ways_as, ways_as, List.map_map]
  have e : (ps.map (sbV (ldV a b c d r u p) ∘ ldV a b c d r u)) = (ps.map (sbV p)).map (mat a b c d) := by
    rw [List.map_map]
    exact List.map_congr_left fun q _ => led_sb a b c d r u p q
  rw [e, dpN_mat h]
theorem ahead_rev (vs : List Pt) (f : Pt) : ahead vs.reverse f = ahead vs f := by unfold ahead; rw [List.countP_reverse]
theorem dpN_rev (vs : List Pt) : dpN vs.reverse = dpN vs := by
  refine dpN_eq ⟨?_, fun f hf => ?_⟩
  · obtain ⟨g, hg, e⟩ := (dpN_is vs).1
    exact ⟨g, hg, by rw [ahead_rev, e]⟩
  · rw [ahead_rev]; exact (dpN_is vs).2 f hf
theorem rk_rev (ps : List Pt) (p : Pt) : rkV ps.reverse p = rkV ps p := by
  unfold rkV
  rw [ways_as, ways_as, List.map_reverse, dpN_rev]
theorem ahead_more (vs : List Pt) (u f : Pt) : ahead (vs ++ [u]) f = ahead vs f + (if 0 ≤ dotV u f then 1 else 0) := by
  unfold ahead
  rw [List.countP_append, List.countP_cons, List.countP_nil]
  by_cases h : 0 ≤ dotV u f <;> simp [h]
theorem more_lo (vs : List Pt) (u : Pt) : dpN vs ≤ dpN (vs ++ [u]) := by
  obtain ⟨g, hg, e⟩ := (dpN_is (vs ++ [u])).1
  have := (dpN_is vs).2 g hg
  rw [ahead_more] at e
  omega
theorem more_hi (vs : List Pt) (u : Pt) : dpN (vs ++ [u]) ≤ dpN vs + 1 := by
  obtain ⟨g, hg, e⟩ := (dpN_is vs).1
  have := (dpN_is (vs ++ [u])).2 g hg
  rw [ahead_more] at this
  split at this <;> omega
theorem more_one (vs : List Pt) : dpN vs + 1 ≤ dpN (vs ++ [(0, 0)]) := by
  obtain ⟨g, hg, e⟩ := (dpN_is (vs ++ [(0, 0)])).1
  have := (dpN_is vs).2 g hg
  rw [ahead_more, if_pos (by unfold dotV; simp)] at e
  omega
theorem rk_more (ps : List Pt) (m p : Pt) : (rkV (ps ++ [m]) p = rkV ps p ∨ rkV (ps ++ [m]) p = rkV ps p + 1) ∧ (p = m → rkV (ps ++ [m]) p = rkV ps p + 1) := by
  unfold rkV
  rw [ways_as, ways_as, List.map_append, show List.map (sbV p) [m] = [sbV p m] from rfl]
  have h1 := more_lo (ps.map (sbV p)) (sbV p m)
  have h2 := more_hi (ps.map (sbV p)) (sbV p m)
  refine ⟨by omega, fun e => ?_⟩
  have h3 := more_one (ps.map (sbV p))
  rw [show sbV p m = (0, 0) from (sb_nul p m).mpr e.symm] at *
  omega
theorem rk_new (ps : List Pt) (m : Pt) : 1 ≤ rkV (ps ++ [m]) m := by
  have := (rk_more ps m m).2 rfl
  omega
theorem ok_l_led : ∀ ss R, sp_l_led ss R → w_l_led { nx := fun _ => R (.t .non), rt := R } (startD ["_law_script", "_law_points_here", "_law_number", "_law_a", "_law_b", "_law_c", "_law_d", "_law_right", "_law_up"] ss) := by
  rintro ss R ⟨ns, ps, rfl, hl, hp, h⟩
  show w_l_led _ [some (.t (.lst (ns.map .int))), some (.t (.lst (ps.map ptT))), none, none, none, none, none, none, none]
  unfold w_l_led
  walk_at "dl"
  refine ⟨ns, 80, rfl, by decide, by decide, fun v v0 v1 => ?_⟩
  have a1 := fmod_lo v (n := 9) (by decide)
  have a2 := fmod_hi v (n := 9) (by decide)
  have b1 := fmod_lo (v.fdiv 9) (n := 9) (by decide)
  have b2 := fmod_hi (v.fdiv 9) (n := 9) (by decide)
  have c1 := fmod_lo (v.fdiv 81) (n := 9) (by decide)
  have c2 := fmod_hi (v.fdiv 81) (n := 9) (by decide)
  have d1 := fmod_lo (v.fdiv 729) (n := 9) (by decide)
  have d2 := fmod_hi (v.fdiv 729) (n := 9) (by decide)
  have e1 := fmod_lo (v.fdiv 6561) (n := 4) (by decide)
  have e2 := fmod_hi (v.fdiv 6561) (n := 4) (by decide)
  have dummy : Sz 1 0 := ⟨by decide⟩
  walk_at "go"
  refine ⟨fun δ => ∃ a b c d : Int, δ = [some (.t (.lst (ns.map .int))), some (.t (.lst (ps.map ptT))), some (.t (.int v)), some (.t (.int a)), some (.t (.int b)), some (.t (.int c)), some (.t (.int d)), none, none] ∧ a * d - b * c ≠ 0 ∧ Sz 5 a ∧ Sz 5 b ∧ Sz 5 c ∧ Sz 5 d, ?_, ?_⟩
  · walk_at "go"
    split
    · refine ⟨divOk (by decide) (by decide +kernel), by decide, atT_all e1 (by show _ < (4 : Int); omega) fun x hx => ?_⟩
      simp only [List.mem_cons, List.not_mem_nil, or_false] at hx
      rcases hx with rfl | rfl | rfl | rfl
      · walk_at "dl"
        exact ⟨_, _, _, _, rfl, by decide, ⟨by decide⟩, ⟨by decide⟩, ⟨by decide⟩, ⟨by decide⟩⟩
      · walk_at "dl"
        exact ⟨_, _, _, _, rfl, by decide, ⟨by decide⟩, ⟨by decide⟩, ⟨by decide⟩, ⟨by decide⟩⟩
      · walk_at "dl"
        exact ⟨_, _, _, _, rfl, by decide, ⟨by decide⟩, ⟨by decide⟩, ⟨by decide⟩, ⟨by decide⟩⟩
      · walk_at "dl"
        exact ⟨_, _, _, _, rfl, by decide, ⟨by decide⟩, ⟨by decide⟩, ⟨by decide⟩, ⟨by decide⟩⟩
    · rename_i hne
      exact ⟨_, _, _, _, rfl, by omega, Sz.of (by omega) (by omega), Sz.of (by omega) (by omega), Sz.of (by omega) (by omega), Sz.of (by omega) (by omega)⟩
  rintro δ ⟨a, b, c, d, rfl, hdet, sa, sb, sc, sd⟩
  walk_at "dl"
  refine ⟨ns, 3, rfl, by decide, fun v3 => ?_⟩
  have f1 := fmod_lo v3 (n := 2000000000000000000000000000000) (by decide)
  have f2 := fmod_hi v3 (n := 2000000000000000000000000000000) (by decide)
  walk_at "go"
  refine ⟨ns, 4, rfl, by decide, fun v4 => ?_⟩
  have f3 := fmod_lo v4 (n := 2000000000000000000000000000000) (by decide)
  have f4 := fmod_hi v4 (n := 2000000000000000000000000000000) (by decide)
  walk_at "go"
  have sr : Sz 101 (v3.fmod 2000000000000000000000000000000 - 1000000000000000000000000000000) := Sz.of (by omega) (by omega)
  have su : Sz 101 (v4.fmod 2000000000000000000000000000000 - 1000000000000000000000000000000) := Sz.of (by omega) (by omega)
  generalize v3.fmod 2000000000000000000000000000000 - 1000000000000000000000000000000 = r at *
  generalize v4.fmod 2000000000000000000000000000000 - 1000000000000000000000000000000 = u at *
  have hz : ∀ p ∈ ps, SzF 110 (ldV a b c d r u p) := fun p hm => by
    obtain ⟨z1, z2⟩ := hp p hm
    exact ⟨(Sz.add (Sz.add (Sz.mul sa z1) (Sz.mul sb z2)) sr).mono (by decide), (Sz.add (Sz.add (Sz.mul sc z1) (Sz.mul sd z2)) su).mono (by decide)⟩
  refine comp_map (f := ptT) (h := fun p => ptT (ldV a b c d r u p)) (l := ps) (fun δ => ∃ r1 r2, δ = [r1, r2, some (.t (.int a)), some (.t (.int b)), some (.t (.int r)), some (.t (.int c)), some (.t (.int d)), some (.t (.int u))]) (fun _ _ => rfl) (by omega) ⟨_, _, rfl⟩ ?_ ?_
  · rintro ⟨x, y⟩ hm δ ⟨r1, r2, rfl⟩ Y h1
    obtain ⟨z1, z2⟩ := hp _ hm
    dsimp only at z1 z2
    walk_at "go"
    exact h1 _ ⟨_, _, rfl⟩
  · have fin := h a b c d r u hdet hz
    rw [List.map_map] at fin
    exact fin
theorem atV_int {l : List Int} {i : Int} {x : Int} {R : S → Prop} (e : atI l i = some x) : atV (l.map T.int) i R = R (.t (.int x)) := by
  have : atI (l.map T.int) i = some (.int x) := by
    unfold atI at e ⊢
    rw [List.length_map]
    cases q : ixN l.length i with
    | none => rw [q] at e; cases e
    | some j =>
      rw [q] at e
      simp only [Option.bind_some] at e ⊢
      rw [List.getElem?_map, e]; rfl
  rw [atV_of this]; rfl
theorem atV_pt {l : List Pt} {k : Nat} {x : Pt} {R : S → Prop} (e : l[k]? = some x) : atV (l.map ptT) (k : Int) R = R (.t (ptT x)) := by
  rw [atV_of (atI_of (x := ptT x) (by rw [List.getElem?_map, e]; rfl))]; rfl
theorem at_last {l : List Int} {x : Int} : atI (l ++ [x]) (-1) = some x := by
  unfold atI ixN
  rw [if_neg (by decide), if_pos (by simp; omega)]
  have e : (-1 + ((l.length : Int) + 1)).toNat = l.length := by omega
  simp [e]
theorem pop_last : ∀ (ps : List Pt), ps ≠ [] → ∃ qs m, ps = qs ++ [m]
  | ps, h => ⟨ps.dropLast, ps.getLast h, (List.dropLast_concat_getLast h).symm⟩
theorem rks (ps : List Pt) : (ps.map fun p => T.int (rkV ps p)) = (ps.map fun p => ((rkV ps p : Nat) : Int)).map T.int := by rw [List.map_map]; rfl
theorem ok_law : ∀ ss R, spLaw ss R → w_law { nx := fun _ => R (.t .non), rt := R } (startD ["_law_script", "_law_points_here", "_law_more", "_law_found", "_law_longer", "_law_k"] ss) := by
  rintro ss R ⟨ns, rfl, hl, h⟩
  have dummy : Sz 1 0 := ⟨by decide⟩
  show w_law _ [some (.t (.lst (ns.map .int))), none, none, none, none, none]
  unfold w_law
  walk_at "dl"
  refine ⟨ns, 0, rfl, by decide, fun v => ?_⟩
  have b1 := fmod_lo v (n := 8) (by decide)
  have b2 := fmod_hi v (n := 8) (by decide)
  walk_at "go"
  refine ⟨ns, 1, _, rfl, by decide, by decide, ?_, ?_, fun qs ql hs => ?_⟩
  · omega
  · omega
  obtain ⟨ps, m, rfl⟩ := pop_last qs (fun z => by subst z; simp at ql; omega)
  have hps : ∀ p ∈ ps, SzF 100 p := fun p hp => hs p (by simp [hp])
  have hm : SzF 100 m := hs m (by simp)
  have pl : ps.length < 20 := by simp at ql; omega
  walk_at "dl"
  have ep : popK 1 2 [some (S.t (T.lst (List.map T.int ns))), some (S.ol (List.map ptT (ps ++ [m]))), none, none, none, none] = fun N ts => popK 1 2 [some (S.t (T.lst (List.map T.int ns))), some (S.ol (List.map ptT (ps ++ [m]))), none, none, none, none] N ts := rfl
  have pop_eq : ∀ N : DSt → Prop, popK 1 2 [some (S.t (T.lst (List.map T.int ns))), some (S.ol (List.map ptT (ps ++ [m]))), none, none, none, none] N (List.map ptT (ps ++ [m])) = N [some (S.t (T.lst (List.map T.int ns))), some (S.ol (List.map ptT ps)), some (.t (ptT m)), none, none, none] := fun N => by
    unfold popK
    rw [show (List.map ptT (ps ++ [m]))[(List.map ptT (ps ++ [m])).length - 1]? = some (ptT m) by simp, show (List.map ptT (ps ++ [m])).dropLast = List.map ptT ps by simp]
    rfl
  rw [pop_eq]
  walk_at "dl"
  refine ⟨ps, rfl, by omega, fun q hq => ⟨(hps q hq).1.mono (by decide), (hps q hq).2.mono (by decide)⟩, ?_⟩
  rw [rks]
  walk_at "dl"
  refine ⟨fun k => k = false, ?_, ?_⟩
  · walk_at "dl"
    refine ⟨ns, ps, rfl, by omega, hps, fun a b c d r u hdet hz => ?_⟩
    walk_at "dl"
    refine ⟨ps.map (ldV a b c d r u), rfl, by rw [List.length_map]; omega, fun q hq => ?_, ?_⟩
    · obtain ⟨p, hp, rfl⟩ := List.mem_map.mp hq
      exact hz p hp
    have e1 : ((ps.map (ldV a b c d r u)).map fun p => T.int (rkV (ps.map (ldV a b c d r u)) p)) = (ps.map fun p => ((rkV ps p : Nat) : Int)).map T.int := by
      rw [List.map_map, List.map_map]
      exact List.map_congr_left fun p _ => by show T.int _ = T.int _; rw [rk_led hdet]
    rw [e1]
    walk_at "dl"
    simp only [decide_true, Bool.not_true, Bool.false_eq_true, if_false]
    refine ⟨ps.reverse, by rw [List.map_reverse], by rw [List.length_reverse]; omega, fun q hq => ⟨(hps q (by simpa using hq)).1.mono (by decide), (hps q (by simpa using hq)).2.mono (by decide)⟩, ?_⟩
    have e2 : (ps.reverse.map fun p => T.int (rkV ps.reverse p)) = (ps.map fun p => ((rkV ps p : Nat) : Int)).reverse.map T.int := by
      rw [← List.map_reverse, List.map_map]
      exact List.map_congr_left fun p _ => by show T.int _ = T.int _; rw [rk_rev]
    rw [e2]
    walk_at "dl"
    rw [show (List.map T.int (List.map (fun p => ((rkV ps p : Nat) : Int)) ps)).reverse = List.map T.int (List.map (fun p => ((rkV ps p : Nat) : Int)) ps).reverse by rw [List.map_reverse], ne_in_oo]
    walk_at "dl"
    simp
  rintro k rfl
  walk_at "dl"
  have em : List.map ptT ps ++ [T.tup [.int m.1, .int m.2]] = (ps ++ [m]).map ptT := by rw [List.map_append]; rfl
  refine ⟨by rw [List.length_map]; omega, ps ++ [m], by rw [em], by simp; omega, fun q hq => ⟨(hs q hq).1.mono (by decide), (hs q hq).2.mono (by decide)⟩, ?_⟩
  rw [rks]
  walk_at "dl"
  refine ⟨fun k => k = false, ?_, ?_⟩
  · walk_at "dl"
    have e : ((List.map T.int (List.map (fun p => ((rkV (ps ++ [m]) p : Nat) : Int)) (ps ++ [m]))).length : Int) = ((List.map ptT ps).length : Int) + 1 := by simp
    rw [if_neg (by simp only [e, decide_true, Bool.not_true]; decide)]
    rw [atV_int (x := ((rkV (ps ++ [m]) m : Nat) : Int)) (by rw [List.map_append]; exact at_last)]
    have := rk_new ps m
    walk_at "dl"
    omega
  rintro k rfl
  walk_at "dl"
  refine ⟨fun _ => True, ?_, ?_⟩
  · walk_at "dl"
    refine ⟨rngOk (by omega) (by rw [List.length_map]; omega), fun ts δ => (∃ r5, δ = [some (S.t (T.lst (List.map T.int ns))), some (S.ol (List.map ptT ps)), some (S.t (T.tup [T.int m.1, T.int m.2])), some (S.ol (List.map T.int (List.map (fun p => ((rkV ps p : Nat) : Int)) ps))), some (S.ol (List.map T.int (List.map (fun p => ((rkV (ps ++ [m]) p : Nat) : Int)) (ps ++ [m])))), r5]) ∧ ∀ t ∈ ts, ∃ k : Nat, t = .int k ∧ k < ps.length, ⟨⟨_, rfl⟩, fun t ht => ?_⟩, fun _ _ => trivial, ?_⟩
    · obtain ⟨k, rfl, k0, k1⟩ := mem_rngT ht
      refine ⟨k.toNat, by rw [Int.toNat_of_nonneg k0], ?_⟩
      rw [List.length_map] at k1
      omega
    · rintro t ts δ ⟨⟨r5, rfl⟩, ht⟩
      obtain ⟨k, rfl, hk⟩ := ht t List.mem_cons_self
      have ht' := fun t h => ht t (List.mem_cons_of_mem _ h)
      have hpk : ps[k]? = some ps[k] := List.getElem?_eq_getElem hk
      generalize ps[k] = p at hpk
      have f1 : atI (List.map (fun p => ((rkV ps p : Nat) : Int)) ps) (k : Int) = some ((rkV ps p : Nat) : Int) := atI_of (by rw [List.getElem?_map, hpk]; rfl)
      have f2 : atI (List.map (fun p => ((rkV (ps ++ [m]) p : Nat) : Int)) (ps ++ [m])) (k : Int) = some ((rkV (ps ++ [m]) p : Nat) : Int) := atI_of (by rw [List.getElem?_map, List.getElem?_append_left hk, hpk]; rfl)
      have hr := rk_more ps m p
      walk_at "dl"
      refine ⟨fun k => k = false, ?_, ?_⟩
      · walk_at "dl"
        rw [atV_int f2, atV_int f1]
        walk_at "dl"
        refine ⟨by show 0 ≤ 20; decide, by show 0 ≤ 20; decide, ?_⟩
        have hin : inT (tr (.t (.int (((rkV (ps ++ [m]) p : Nat) : Int) - ((rkV ps p : Nat) : Int))))) [T.int 0, T.int 1] = true := by
          have hz : ((rkV (ps ++ [m]) p : Nat) : Int) - ((rkV ps p : Nat) : Int) = 0 ∨ ((rkV (ps ++ [m]) p : Nat) : Int) - ((rkV ps p : Nat) : Int) = 1 := by omega
          rcases hz with z | z <;> rw [z] <;> rfl
        rw [hin]
        walk_at "dl"
        rw [atV_pt hpk]
        obtain ⟨x, y⟩ := p
        obtain ⟨mx, my⟩ := m
        walk_at "dl"
        split
        · rename_i hc
          rw [atV_int f2, atV_int f1]
          have := hr.2 (Prod.ext hc.1 hc.2)
          walk_at "dl"
          simp
          omega
        · trivial
      rintro k rfl
      walk_at "dl"
      exact ⟨⟨_, rfl⟩, ht'⟩
  rintro δ _
  walk_at "dl"
  exact h
end Law

set_option Elab.async false
set_option linter.all false
set_option maxRecDepth 100000
namespace Law
open PySem PyProof.Rows L2 DL
set_option maxHeartbeats 4000000
def top (i : Nat) : Stmt := PySem.Challenge.pw_deepspot_k54_ranks_stay.main.body.getD i (.Pass ⟨0, 0, 0, 0⟩)
abbrev s_divisor : Stmt := top 5
theorem sc_divisor : FnScope ["one", "other", "greater", "lesser", "rest"] ["one", "other"] (defScope s_divisor) := ⟨rfl, rfl, rfl, by decide +kernel, rfl, by decide +kernel, by decide +kernel⟩
theorem b_divisor {P : Program} {w : World} {K : PySem.W.Frag} {mg : Str → Option Value} {base : Heap} (m_abs : mg "abs" = none) {f : Addr} {cdv : Value} {A : Around} {outer : List Env} {s : Shared} {H : Hp} {E : XK} (hr : Room 0 (A.deeper (envOfC "divisor" (defScope s_divisor) s.heap.objs.size f cdv))) :
    PSs (cxOf CX0 P w K mg base ["one", "other", "greater", "lesser", "rest"] "divisor" (defScope s_divisor) f cdv A outer s H E).nox (defBody s_divisor) (liftS K H w_divisor) :=
 (@dss_cons _ _ _ _ _ _ (ds_set (i := 2) sc_divisor.nd (de_abs m_abs (da_cons (dv 0) da_nil)))
 (@dss_cons _ _ _ _ _ _ (ds_set (i := 3) sc_divisor.nd (de_abs m_abs (da_cons (dv 1) da_nil)))
 (@dss_consM _ _ _ _ _ _ (ds_while PassesOwn.never (dt_ne hr (dv 3) de_int) (@dss_cons _ _ _ _ _ _ (ds_set (i := 4) sc_divisor.nd (de_mod (dv 2) (dv 3)))
 (@dss_cons _ _ _ _ _ _ (ds_set (i := 2) sc_divisor.nd (dv 3))
 (@dss_one _ _ _ _ (ds_set (i := 3) sc_divisor.nd (dv 4))))))
 (@dss_one _ _ _ _ (ds_retV (pv 2))))))
abbrev s_half : Stmt := top 7
theorem sc_half : FnScope ["a", "b", "c", "common"] ["a", "b", "c"] (defScope s_half) := ⟨rfl, rfl, rfl, by decide +kernel, rfl, by decide +kernel, by decide +kernel⟩
theorem b_half {P : Program} {w : World} {K : PySem.W.Frag} {mg : Str → Option Value} {base : Heap} (c_divisor : Callee P w K mg base 1 "divisor" sp_divisor) {f : Addr} {cdv : Value} {A : Around} {outer : List Env} {s : Shared} {H : Hp} {E : XK} (hr : Room 1 (A.deeper (envOfC "half" (defScope s_half) s.heap.objs.size f cdv))) :
    PSs (cxOf CX0 P w K mg base ["a", "b", "c", "common"] "half" (defScope s_half) f cdv A outer s H E).nox (defBody s_half) (liftS K H w_half) :=
 (@dss_cons _ _ _ _ _ _ (@ds_if _ _ _ _ _ _ _ _ _ (dt_1 (PW.pt (dw_and (dt_eq hr (dv 0) de_int) (dw_and1 (dt_eq hr (dv 1) de_int))))) (@dss_one _ _ _ _ ds_never) dss_nil)
 (@dss_cons _ _ _ _ _ _ (ds_set (i := 3) sc_half.nd (de_call c_divisor (hr.mono (by decide)) rfl (da_cons (de_call c_divisor (hr.mono (by decide)) rfl (da_cons (dv 0) (da_cons (dv 1) da_nil))) (da_cons (dv 2) da_nil))))
 (@dss_one _ _ _ _ (@ds_ret _ _ _ _ _ (@de_tup _ _ _ _ _ (da_cons (de_fdiv (dv 0) (dv 3)) (da_cons (de_fdiv (dv 1) (dv 3)) (da_cons (de_fdiv (dv 2) (dv 3)) da_nil))))))))
abbrev s_along : Stmt := top 8
theorem sc_along : FnScope ["one", "other"] ["one", "other"] (defScope s_along) := ⟨rfl, rfl, rfl, by decide +kernel, rfl, by decide +kernel, by decide +kernel⟩
theorem b_along {P : Program} {w : World} {K : PySem.W.Frag} {mg : Str → Option Value} {base : Heap} {f : Addr} {cdv : Value} {A : Around} {outer : List Env} {s : Shared} {H : Hp} {E : XK} (hr : Room 0 (A.deeper (envOfC "along" (defScope s_along) s.heap.objs.size f cdv))) :
    PSs (cxOf CX0 P w K mg base ["one", "other"] "along" (defScope s_along) f cdv A outer s H E).nox (defBody s_along) (liftS K H w_along) :=
 (@dss_one _ _ _ _ (@ds_ret _ _ _ _ _ (de_add (de_mul (de_ix (dv 0) de_int) (de_ix (dv 1) de_int)) (de_mul (de_ix (dv 0) de_int) (de_ix (dv 1) de_int)))))
abbrev s_as_spot : Stmt := top 9
theorem sc_as_spot : FnScope ["point"] ["point"] (defScope s_as_spot) := ⟨rfl, rfl, rfl, by decide +kernel, rfl, by decide +kernel, by decide +kernel⟩
theorem b_as_spot {P : Program} {w : World} {K : PySem.W.Frag} {mg : Str → Option Value} {base : Heap} {f : Addr} {cdv : Value} {A : Around} {outer : List Env} {s : Shared} {H : Hp} {E : XK} (hr : Room 0 (A.deeper (envOfC "as_spot" (defScope s_as_spot) s.heap.objs.size f cdv))) :
    PSs (cxOf CX0 P w K mg base ["point"] "as_spot" (defScope s_as_spot) f cdv A outer s H E).nox (defBody s_as_spot) (liftS K H w_as_spot) :=
 (@dss_one _ _ _ _ (@ds_ret _ _ _ _ _ (@de_tup _ _ _ _ _ (da_cons (@de_tup _ _ _ _ _ (da_cons (de_ix (dv 0) de_int) (da_cons de_int da_nil))) (da_cons (@de_tup _ _ _ _ _ (da_cons (de_ix (dv 0) de_int) (da_cons de_int da_nil))) da_nil)))))
abbrev s_bottoms : Stmt := top 10
theorem sc_bottoms : FnScope ["spot"] ["spot"] (defScope s_bottoms) := ⟨rfl, rfl, rfl, by decide +kernel, rfl, by decide +kernel, by decide +kernel⟩
theorem b_bottoms {P : Program} {w : World} {K : PySem.W.Frag} {mg : Str → Option Value} {base : Heap} {f : Addr} {cdv : Value} {A : Around} {outer : List Env} {s : Shared} {H : Hp} {E : XK} (hr : Room 0 (A.deeper (envOfC "bottoms" (defScope s_bottoms) s.heap.objs.size f cdv))) :
    PSs (cxOf CX0 P w K mg base ["spot"] "bottoms" (defScope s_bottoms) f cdv A outer s H E).nox (defBody s_bottoms) (liftS K H w_bottoms) :=
 (@dss_one _ _ _ _ (@ds_ret _ _ _ _ _ (de_mul (de_ix (de_ix (dv 0) de_int) de_int) (de_ix (de_ix (dv 0) de_int) de_int))))
abbrev s_stretched : Stmt := top 12
theorem sc_stretched : FnScope ["spot"] ["spot"] (defScope s_stretched) := ⟨rfl, rfl, rfl, by decide +kernel, rfl, by decide +kernel, by decide +kernel⟩
theorem b_stretched {P : Program} {w : World} {K : PySem.W.Frag} {mg : Str → Option Value} {base : Heap} (c_bottoms : Callee P w K mg base 1 "bottoms" sp_bottoms) {f : Addr} {cdv : Value} {A : Around} {outer : List Env} {s : Shared} {H : Hp} {E : XK} (hr : Room 1 (A.deeper (envOfC "stretched" (defScope s_stretched) s.heap.objs.size f cdv))) :
    PSs (cxOf CX0 P w K mg base ["spot"] "stretched" (defScope s_stretched) f cdv A outer s H E).nox (defBody s_stretched) (liftS K H w_stretched) :=
 (@dss_one _ _ _ _ (@ds_ret _ _ _ _ _ (@de_tup _ _ _ _ _ (da_cons (de_mul (de_ix (de_ix (dv 0) de_int) de_int) (de_ix (de_ix (dv 0) de_int) de_int)) (da_cons (de_mul (de_ix (de_ix (dv 0) de_int) de_int) (de_ix (de_ix (dv 0) de_int) de_int)) (da_cons (de_call c_bottoms (hr.mono (by decide)) rfl (da_cons (dv 0) da_nil)) da_nil))))))
abbrev s_ways_to : Stmt := top 14
theorem sc_ways_to : FnScope ["points", "spot", "here"] ["points", "spot"] (defScope s_ways_to) := ⟨rfl, rfl, rfl, by decide +kernel, rfl, by decide +kernel, by decide +kernel⟩
theorem b_ways_to {P : Program} {w : World} {K : PySem.W.Frag} {mg : Str → Option Value} {base : Heap} (c_stretched : Callee P w K mg base 2 "stretched" sp_stretched) {f : Addr} {cdv : Value} {A : Around} {outer : List Env} {s : Shared} {H : Hp} {E : XK} (hr : Room 2 (A.deeper (envOfC "ways_to" (defScope s_ways_to) s.heap.objs.size f cdv))) :
    PSs (cxOf CX0 P w K mg base ["points", "spot", "here"] "ways_to" (defScope s_ways_to) f cdv A outer s H E).nox (defBody s_ways_to) (liftS K H w_ways_to) :=
 (@dss_cons _ _ _ _ _ _ (ds_set (i := 2) sc_ways_to.nd (de_call c_stretched (hr.mono (by decide)) rfl (da_cons (dv 1) da_nil)))
 (@dss_one _ _ _ _ (@ds_ret _ _ _ _ _ (de_comp (N := ["point", "here"]) (own := 1) (fr := [2]) (NX := ["points", "spot", "here"]) (ar := defScope s_ways_to) (by decide +kernel) (di_list (dv 0)) gok_name (fun _ _ _ _ => (dg_name (i := 0) (show List.Nodup (["point", "here"] : List Str) by decide))) (fun _ _ _ _ => dts_nil) (fun _ _ _ _ => (@de_tup _ _ _ _ _ (da_cons (de_sub (de_mul (de_ix (dv 0) de_int) (de_ix (dv 1) de_int)) (de_ix (dv 1) de_int)) (da_cons (de_sub (de_mul (de_ix (dv 0) de_int) (de_ix (dv 1) de_int)) (de_ix (dv 1) de_int)) da_nil))))))))
abbrev s_many_ahead : Stmt := top 15
theorem sc_many_ahead : FnScope ["ways", "facing"] ["ways", "facing"] (defScope s_many_ahead) := ⟨rfl, rfl, rfl, by decide +kernel, rfl, by decide +kernel, by decide +kernel⟩
theorem b_many_ahead {P : Program} {w : World} {K : PySem.W.Frag} {mg : Str → Option Value} {base : Heap} (m_len : mg "len" = none) (c_along : Callee P w K mg base 1 "along" sp_along) {f : Addr} {cdv : Value} {A : Around} {outer : List Env} {s : Shared} {H : Hp} {E : XK} (hr : Room 1 (A.deeper (envOfC "many_ahead" (defScope s_many_ahead) s.heap.objs.size f cdv))) :
    PSs (cxOf CX0 P w K mg base ["ways", "facing"] "many_ahead" (defScope s_many_ahead) f cdv A outer s H E).nox (defBody s_many_ahead) (liftS K H w_many_ahead) :=
 (@dss_one _ _ _ _ (@ds_ret _ _ _ _ _ (de_len m_len (da_cons (de_comp (N := ["way", "facing"]) (own := 1) (fr := [1]) (NX := ["ways", "facing"]) (ar := defScope s_many_ahead) (by decide +kernel) (di_list (dv 0)) gok_name (fun _ _ _ _ => (dg_name (i := 0) (show List.Nodup (["way", "facing"] : List Str) by decide))) (fun _ _ _ _ => (dts_one (dt_ge (de_call c_along (hr.mono (by decide)) rfl (da_cons (dv 0) (da_cons (dv 1) da_nil))) de_int))) (fun _ _ _ _ => (dv 0))) da_nil))))
abbrev s_just_past : Stmt := top 16
theorem sc_just_past : FnScope ["way", "ways", "thin"] ["way", "ways"] (defScope s_just_past) := ⟨rfl, rfl, rfl, by decide +kernel, rfl, by decide +kernel, by decide +kernel⟩
theorem b_just_past {P : Program} {w : World} {K : PySem.W.Frag} {mg : Str → Option Value} {base : Heap} (m_max : mg "max" = none) (m_abs : mg "abs" = none) (c_along : Callee P w K mg base 1 "along" sp_along) {f : Addr} {cdv : Value} {A : Around} {outer : List Env} {s : Shared} {H : Hp} {E : XK} (hr : Room 1 (A.deeper (envOfC "just_past" (defScope s_just_past) s.heap.objs.size f cdv))) :
    PSs (cxOf CX0 P w K mg base ["way", "ways", "thin"] "just_past" (defScope s_just_past) f cdv A outer s H E).nox (defBody s_just_past) (liftS K H w_just_past) :=
 (@dss_cons _ _ _ _ _ _ (ds_set (i := 2) sc_just_past.nd (de_add de_int (de_maxL m_max (da_cons (de_comp (N := ["other", "way"]) (own := 1) (fr := [0]) (NX := ["way", "ways", "thin"]) (ar := defScope s_just_past) (by decide +kernel) (di_list (dv 1)) gok_name (fun _ _ _ _ => (dg_name (i := 0) (show List.Nodup (["other", "way"] : List Str) by decide))) (fun _ _ _ _ => dts_nil) (fun _ _ _ _ => (de_abs m_abs (da_cons (de_call c_along (hr.mono (by decide)) rfl (da_cons (dv 1) (da_cons (dv 0) da_nil))) da_nil)))) da_nil))))
 (@dss_one _ _ _ _ (@ds_ret _ _ _ _ _ (@de_tup _ _ _ _ _ (da_cons (de_sub (de_mul (de_neg (de_ix (dv 0) de_int)) (dv 2)) (de_ix (dv 0) de_int)) (da_cons (de_sub (de_mul (de_ix (dv 0) de_int) (dv 2)) (de_ix (dv 0) de_int)) da_nil))))))
abbrev s_facings : Stmt := top 17
theorem sc_facings : FnScope ["ways", "found"] ["ways"] (defScope s_facings) := ⟨rfl, rfl, rfl, by decide +kernel, rfl, by decide +kernel, by decide +kernel⟩
theorem b_facings {P : Program} {w : World} {K : PySem.W.Frag} {mg : Str → Option Value} {base : Heap} (c_just_past : Callee P w K mg base 2 "just_past" sp_just_past) {f : Addr} {cdv : Value} {A : Around} {outer : List Env} {s : Shared} {H : Hp} {E : XK} (hr : Room 2 (A.deeper (envOfC "facings" (defScope s_facings) s.heap.objs.size f cdv))) :
    PSs (cxOf CX0 P w K mg base ["ways", "found"] "facings" (defScope s_facings) f cdv A outer s H E).nox (defBody s_facings) (liftS K H w_facings) :=
 (@dss_cons _ _ _ _ _ _ (ds_setComp (i := 1) sc_facings.nd (N := ["way", "ways"]) (own := 1) (fr := [0]) (NX := ["ways", "found"]) (ar := defScope s_facings) (by decide +kernel) (di_list (dv 0)) gok_name (fun _ _ _ _ => (dg_name (i := 0) (show List.Nodup (["way", "ways"] : List Str) by decide))) (fun _ _ _ _ => (dts_one (dt_ne hr (dv 0) (@de_tup _ _ _ _ _ (da_cons de_int (da_cons de_int da_nil)))))) (fun _ _ _ _ => (de_call c_just_past (hr.mono (by decide)) rfl (da_cons (dv 0) (da_cons (dv 1) da_nil)))))
 (@dss_cons _ _ _ _ _ _ (ds_append (i := 1) (@de_tup _ _ _ _ _ (da_cons de_int (da_cons de_int da_nil))))
 (@dss_one _ _ _ _ (ds_retV (pv 1)))))
abbrev s_half_facing : Stmt := top 18
theorem sc_half_facing : FnScope ["facing", "spot", "here"] ["facing", "spot"] (defScope s_half_facing) := ⟨rfl, rfl, rfl, by decide +kernel, rfl, by decide +kernel, by decide +kernel⟩
theorem b_half_facing {P : Program} {w : World} {K : PySem.W.Frag} {mg : Str → Option Value} {base : Heap} (c_stretched : Callee P w K mg base 2 "stretched" sp_stretched) (c_half : Callee P w K mg base 2 "half" sp_half) (c_along : Callee P w K mg base 1 "along" sp_along) {f : Addr} {cdv : Value} {A : Around} {outer : List Env} {s : Shared} {H : Hp} {E : XK} (hr : Room 2 (A.deeper (envOfC "half_facing" (defScope s_half_facing) s.heap.objs.size f cdv))) :
    PSs (cxOf CX0 P w K mg base ["facing", "spot", "here"] "half_facing" (defScope s_half_facing) f cdv A outer s H E).nox (defBody s_half_facing) (liftS K H w_half_facing) :=
 (@dss_cons _ _ _ _ _ _ (ds_set (i := 2) sc_half_facing.nd (de_call c_stretched (hr.mono (by decide)) rfl (da_cons (dv 1) da_nil)))
 (@dss_one _ _ _ _ (@ds_ret _ _ _ _ _ (de_call c_half (hr.mono (by decide)) rfl (da_cons (de_mul (de_ix (dv 0) de_int) (de_ix (dv 2) de_int)) (da_cons (de_mul (de_ix (dv 0) de_int) (de_ix (dv 2) de_int)) (da_cons (de_call c_along (hr.mono (by decide)) rfl (da_cons (dv 0) (da_cons (dv 2) da_nil))) da_nil)))))))
abbrev s_depth : Stmt := top 19
theorem sc_depth : FnScope ["points", "spot", "ways", "emptiest"] ["points", "spot"] (defScope s_depth) := ⟨rfl, rfl, rfl, by decide +kernel, rfl, by decide +kernel, by decide +kernel⟩
theorem b_depth {P : Program} {w : World} {K : PySem.W.Frag} {mg : Str → Option Value} {base : Heap} {c T mb : Addr} (kb : K.In base) (hhd : PySem.W.codeHdIn K c T = true) (hlam : lamTab K = some T) (bm : ∃ ob, mg "__builtins__" = some (.ref mb) ∧ mb ≠ builtinsNs ∧ mb ≠ mainGlobals ∧ base.get? mb = some ob ∧ ob.cls = .type "module" ∧ ob.dict = some builtinsNs ∧ ob.data = .plain) (m_len : mg "len" = none) (m_min : mg "min" = none) (c_ways_to : Callee P w K mg base 3 "ways_to" sp_ways_to) (c_facings : Callee P w K mg base 3 "facings" sp_facings) (c_many_ahead : Callee P w K mg base 2 "many_ahead" sp_many_ahead) (c_half_facing : Callee P w K mg base 3 "half_facing" sp_half_facing) {f : Addr} {A : Around} {outer : List Env} {s : Shared} {H : Hp} {E : XK} (hr : Room 4 (A.deeper (envOfC "depth" (defScope s_depth) s.heap.objs.size f (.ref c)))) :
    PSs (cxOf CX0 P w K mg base ["points", "spot", "ways", "emptiest"] "depth" (defScope s_depth) f (.ref c) A outer s H E).nox (defBody s_depth) (liftS K H w_depth) :=
 (@dss_cons _ _ _ _ _ _ (@ds_if _ _ _ _ _ _ _ _ _ (dt_eq hr (de_len m_len (da_cons (dv 0) da_nil)) de_int) (@dss_one _ _ _ _ ds_never) dss_nil)
 (@dss_cons _ _ _ _ _ _ (ds_set (i := 2) sc_depth.nd (de_call c_ways_to (hr.mono (by decide)) rfl (da_cons (dv 0) (da_cons (dv 1) da_nil))))
 (@dss_cons _ _ _ _ _ _ (ds_set (i := 3) sc_depth.nd (de_minKey (x := "facing") (y := "ways") (j := 2) rfl hr.hd (Room.in1 hr).depth m_min ⟨rfl, PySem.W.codeHd_of_K kb hhd, bm⟩ ⟨rfl, rfl, rfl, by decide +kernel, rfl, rfl, fun z hz => lam_only (by decide +kernel) hz⟩ hlam rfl rfl rfl rfl rfl rfl (fun _ _ _ _ => rfl) (de_call c_facings (hr.mono (by decide)) rfl (da_cons (dv 2) da_nil)) (fun _ _ _ _ => (de_call c_many_ahead ((Room.deeper (Room.in1 hr) _).mono (by decide)) rfl (da_cons (dv 1) (da_cons (dv 0) da_nil))))))
 (@dss_one _ _ _ _ (@ds_ret _ _ _ _ _ (@de_tup _ _ _ _ _ (da_cons (de_call c_many_ahead (hr.mono (by decide)) rfl (da_cons (dv 2) (da_cons (dv 3) da_nil))) (da_cons (de_call c_half_facing (hr.mono (by decide)) rfl (da_cons (dv 3) (da_cons (dv 1) da_nil))) da_nil))))))))
abbrev s_ranks : Stmt := top 21
theorem sc_ranks : FnScope ["points"] ["points"] (defScope s_ranks) := ⟨rfl, rfl, rfl, by decide +kernel, rfl, by decide +kernel, by decide +kernel⟩
theorem b_ranks {P : Program} {w : World} {K : PySem.W.Frag} {mg : Str → Option Value} {base : Heap} (c_depth : Callee P w K mg base 5 "depth" sp_depth) (c_as_spot : Callee P w K mg base 1 "as_spot" sp_as_spot) {f : Addr} {cdv : Value} {A : Around} {outer : List Env} {s : Shared} {H : Hp} {E : XK} (hr : Room 5 (A.deeper (envOfC "ranks" (defScope s_ranks) s.heap.objs.size f cdv))) :
    PSs (cxOf CX0 P w K mg base ["points"] "ranks" (defScope s_ranks) f cdv A outer s H E).nox (defBody s_ranks) (liftS K H w_ranks) :=
 (@dss_one _ _ _ _ (@ds_ret _ _ _ _ _ (de_comp (N := ["point", "points"]) (own := 1) (fr := [0]) (NX := ["points"]) (ar := defScope s_ranks) (by decide +kernel) (di_list (dv 0)) gok_name (fun _ _ _ _ => (dg_name (i := 0) (show List.Nodup (["point", "points"] : List Str) by decide))) (fun _ _ _ _ => dts_nil) (fun _ _ _ _ => (de_ix (de_call c_depth (hr.mono (by decide)) rfl (da_cons (dv 1) (da_cons (de_call c_as_spot (hr.mono (by decide)) rfl (da_cons (dv 0) da_nil)) da_nil))) de_int)))))
abbrev s_l_cell_at : Stmt := top 23
theorem sc_l_cell_at : FnScope ["_law_script", "_law_k"] ["_law_script", "_law_k"] (defScope s_l_cell_at) := ⟨rfl, rfl, rfl, by decide +kernel, rfl, by decide +kernel, by decide +kernel⟩
theorem b_l_cell_at {P : Program} {w : World} {K : PySem.W.Frag} {mg : Str → Option Value} {base : Heap} (m_len : mg "len" = none) {f : Addr} {cdv : Value} {A : Around} {outer : List Env} {s : Shared} {H : Hp} {E : XK} (hr : Room 0 (A.deeper (envOfC "_law_cell_at" (defScope s_l_cell_at) s.heap.objs.size f cdv))) :
    PSs (cxOf CX0 P w K mg base ["_law_script", "_law_k"] "_law_cell_at" (defScope s_l_cell_at) f cdv A outer s H E).nox (defBody s_l_cell_at) (liftS K H w_l_cell_at) :=
 (@dss_cons _ _ _ _ _ _ (@ds_if _ _ _ _ _ _ _ _ _ (dt_lt (dv 1) (de_len m_len (da_cons (dv 0) da_nil))) (@dss_one _ _ _ _ (@ds_ret _ _ _ _ _ (de_ix (dv 0) (dv 1)))) dss_nil)
 (@dss_one _ _ _ _ (@ds_ret _ _ _ _ _ de_int)))
abbrev s_l_block : Stmt := top 25
theorem sc_l_block : FnScope ["_law_script", "_law_k", "_law_cell", "_law_j"] ["_law_script", "_law_k"] (defScope s_l_block) := ⟨rfl, rfl, rfl, by decide +kernel, rfl, by decide +kernel, by decide +kernel⟩
theorem b_l_block {P : Program} {w : World} {K : PySem.W.Frag} {mg : Str → Option Value} {base : Heap} (m_len : mg "len" = none) (m_range : mg "range" = none) {f : Addr} {cdv : Value} {A : Around} {outer : List Env} {s : Shared} {H : Hp} {E : XK} (hr : Room 0 (A.deeper (envOfC "_law_block" (defScope s_l_block) s.heap.objs.size f cdv))) :
    PSs (cxOf CX0 P w K mg base ["_law_script", "_law_k", "_law_cell", "_law_j"] "_law_block" (defScope s_l_block) f cdv A outer s H E).nox (defBody s_l_block) (liftS K H w_l_block) :=
 (@dss_cons _ _ _ _ _ _ (ds_set (i := 2) sc_l_block.nd de_int)
 (@dss_consM _ _ _ _ _ _ (@ds_if _ _ _ _ _ _ _ _ _ (dt_lt (de_add de_int (de_mod (de_fdiv (dv 1) de_int) de_int)) (de_len m_len (da_cons (dv 0) da_nil))) (@dss_one _ _ _ _ (ds_set (i := 2) sc_l_block.nd (de_fdiv (de_ix (dv 0) (de_add de_int (de_mod (de_fdiv (dv 1) de_int) de_int))) (de_pow de_int de_int)))) dss_nil)
 (@dss_consM _ _ _ _ _ _ (ds_for PassesOwn.never (di_range1 m_range (da_cons (de_mod (dv 1) de_int) da_nil)) (dg_name (i := 3) sc_l_block.nd) (@dss_one _ _ _ _ (ds_set (i := 2) sc_l_block.nd (de_fdiv (dv 2) de_int))))
 (@dss_one _ _ _ _ (ds_retV (pv 2))))))
abbrev s_l_mixed : Stmt := top 26
theorem sc_l_mixed : FnScope ["_law_script", "_law_k", "_law_cell", "_law_number"] ["_law_script", "_law_k"] (defScope s_l_mixed) := ⟨rfl, rfl, rfl, by decide +kernel, rfl, by decide +kernel, by decide +kernel⟩
theorem b_l_mixed {P : Program} {w : World} {K : PySem.W.Frag} {mg : Str → Option Value} {base : Heap} (m_len : mg "len" = none) (m_min : mg "min" = none) (c_l_block : Callee P w K mg base 1 "_law_block" sp_l_block) {f : Addr} {cdv : Value} {A : Around} {outer : List Env} {s : Shared} {H : Hp} {E : XK} (hr : Room 1 (A.deeper (envOfC "_law_mixed" (defScope s_l_mixed) s.heap.objs.size f cdv))) :
    PSs (cxOf CX0 P w K mg base ["_law_script", "_law_k", "_law_cell", "_law_number"] "_law_mixed" (defScope s_l_mixed) f cdv A outer s H E).nox (defBody s_l_mixed) (liftS K H w_l_mixed) :=
 (@dss_cons _ _ _ _ _ _ (ds_set (i := 2) sc_l_mixed.nd de_int)
 (@dss_consM _ _ _ _ _ _ (@ds_if _ _ _ _ _ _ _ _ _ (dt_gt (de_len m_len (da_cons (dv 0) da_nil)) de_int) (@dss_one _ _ _ _ (ds_set (i := 2) sc_l_mixed.nd (de_ix (dv 0) de_int))) dss_nil)
 (@dss_cons _ _ _ _ _ _ (@ds_if _ _ _ _ _ _ _ _ _ (dt_1 (PW.pt (dw_and (dt_eq hr (de_mod (de_fdiv (dv 2) (de_pow de_int de_int)) de_int) de_int) (dw_and1 (dt_ne hr (de_call c_l_block (hr.mono (by decide)) rfl (da_cons (dv 0) (da_cons (dv 1) da_nil))) de_int))))) (@dss_one _ _ _ _ (@ds_ret _ _ _ _ _ (de_mod (de_call c_l_block (hr.mono (by decide)) rfl (da_cons (dv 0) (da_cons (dv 1) da_nil))) de_int))) dss_nil)
 (@dss_consM _ _ _ _ _ _ (@ds_if _ _ _ _ _ _ _ _ _ (dt_gt (de_len m_len (da_cons (dv 0) da_nil)) de_int) (@dss_one _ _ _ _ (ds_set (i := 2) sc_l_mixed.nd (de_ix (dv 0) (de_mod (dv 1) (de_min2 m_min (da_cons de_int (da_cons (de_len m_len (da_cons (dv 0) da_nil)) da_nil))))))) dss_nil)
 (@dss_cons _ _ _ _ _ _ (ds_set (i := 3) sc_l_mixed.nd (de_add (de_mod (dv 2) (de_pow de_int de_int)) (de_mul de_int (de_add (dv 1) de_int))))
 (@dss_cons _ _ _ _ _ _ (ds_set (i := 3) sc_l_mixed.nd (de_add (de_mod (de_mul (dv 3) (dv 3)) de_int) (de_mul de_int (dv 1))))
 (@dss_one _ _ _ _ (@ds_ret _ _ _ _ _ (de_mod (de_mul (dv 3) (dv 3)) de_int)))))))))
abbrev s_l_points : Stmt := top 27
theorem sc_l_points : FnScope ["_law_script", "_law_start", "_law_many", "_law_way", "_law_far", "_law_found", "_law_k", "_law_number", "_law_point", "_law_step"] ["_law_script", "_law_start", "_law_many"] (defScope s_l_points) := ⟨rfl, rfl, rfl, by decide +kernel, rfl, by decide +kernel, by decide +kernel⟩
theorem b_l_points {P : Program} {w : World} {K : PySem.W.Frag} {mg : Str → Option Value} {base : Heap} (m_range : mg "range" = none) (c_l_mixed : Callee P w K mg base 2 "_law_mixed" sp_l_mixed) {f : Addr} {cdv : Value} {A : Around} {outer : List Env} {s : Shared} {H : Hp} {E : XK} (hr : Room 2 (A.deeper (envOfC "_law_points" (defScope s_l_points) s.heap.objs.size f cdv))) :
    PSs (cxOf CX0 P w K mg base ["_law_script", "_law_start", "_law_many", "_law_way", "_law_far", "_law_found", "_law_k", "_law_number", "_law_point", "_law_step"] "_law_points" (defScope s_l_points) f cdv A outer s H E).nox (defBody s_l_points) (liftS K H w_l_points) :=
 (@dss_cons _ _ _ _ _ _ (ds_set (i := 3) sc_l_points.nd (de_mod (de_call c_l_mixed (hr.mono (by decide)) rfl (da_cons (dv 0) (da_cons (dv 1) da_nil))) de_int))
 (@dss_cons _ _ _ _ _ _ (ds_set (i := 4) sc_l_points.nd (de_call c_l_mixed (hr.mono (by decide)) rfl (da_cons (dv 0) (da_cons (de_add (dv 1) de_int) da_nil))))
 (@dss_cons _ _ _ _ _ _ (ds_set (i := 5) sc_l_points.nd (@de_lst _ _ _ _ da_nil))
 (@dss_consM _ _ _ _ _ _ (ds_for PassesOwn.never (di_range1 m_range (da_cons (dv 2) da_nil)) (dg_name (i := 6) sc_l_points.nd) (@dss_cons _ _ _ _ _ _ (ds_set (i := 7) sc_l_points.nd (de_call c_l_mixed (hr.mono (by decide)) rfl (da_cons (dv 0) (da_cons (de_add (de_add (dv 1) de_int) (dv 6)) da_nil))))
 (@dss_cons _ _ _ _ _ _ (ds_set (i := 8) sc_l_points.nd (@de_tup _ _ _ _ _ (da_cons (de_sub (de_mod (dv 7) de_int) de_int) (da_cons (de_sub (de_mod (de_fdiv (dv 7) de_int) de_int) de_int) da_nil))))
 (@dss_consM _ _ _ _ _ _ (@ds_if _ _ _ _ _ _ _ _ _ (dt_eq hr (dv 3) de_int) (@dss_one _ _ _ _ (ds_set (i := 8) sc_l_points.nd (@de_tup _ _ _ _ _ (da_cons (de_sub (de_mod (dv 7) (de_mul de_int (de_pow de_int de_int))) (de_pow de_int de_int)) (da_cons (de_sub (de_mod (de_mul (dv 7) (dv 4)) (de_mul de_int (de_pow de_int de_int))) (de_pow de_int de_int)) da_nil))))) dss_nil)
 (@dss_consM _ _ _ _ _ _ (@ds_if _ _ _ _ _ _ _ _ _ (dt_eq hr (dv 3) de_int) (@dss_one _ _ _ _ (ds_set (i := 8) sc_l_points.nd (@de_tup _ _ _ _ _ (da_cons (de_sub (de_mod (dv 7) de_int) de_int) (da_cons (de_sub (de_mod (de_fdiv (dv 7) de_int) de_int) de_int) da_nil))))) dss_nil)
 (@dss_consM _ _ _ _ _ _ (@ds_if _ _ _ _ _ _ _ _ _ (dt_eq hr (dv 3) de_int) (@dss_cons _ _ _ _ _ _ (ds_set (i := 9) sc_l_points.nd (de_sub (de_mod (dv 7) de_int) de_int))
 (@dss_one _ _ _ _ (ds_set (i := 8) sc_l_points.nd (@de_tup _ _ _ _ _ (da_cons (de_add (de_mul (dv 9) (de_sub (de_mod (dv 4) de_int) de_int)) de_int) (da_cons (de_sub (de_mul (dv 9) (de_sub (de_mod (de_fdiv (dv 4) de_int) de_int) de_int)) de_int) da_nil)))))) dss_nil)
 (@dss_one _ _ _ _ (ds_append (i := 5) (dv 8)))))))))
 (@dss_one _ _ _ _ (ds_retV (pv 5)))))))
abbrev s_l_led : Stmt := top 28
theorem sc_l_led : FnScope ["_law_script", "_law_points_here", "_law_number", "_law_a", "_law_b", "_law_c", "_law_d", "_law_right", "_law_up"] ["_law_script", "_law_points_here"] (defScope s_l_led) := ⟨rfl, rfl, rfl, by decide +kernel, rfl, by decide +kernel, by decide +kernel⟩
theorem b_l_led {P : Program} {w : World} {K : PySem.W.Frag} {mg : Str → Option Value} {base : Heap} (c_l_mixed : Callee P w K mg base 2 "_law_mixed" sp_l_mixed) (c_l_cell_at : Callee P w K mg base 1 "_law_cell_at" sp_l_cell_at) {f : Addr} {cdv : Value} {A : Around} {outer : List Env} {s : Shared} {H : Hp} {E : XK} (hr : Room 2 (A.deeper (envOfC "_law_led" (defScope s_l_led) s.heap.objs.size f cdv))) :
    PSs (cxOf CX0 P w K mg base ["_law_script", "_law_points_here", "_law_number", "_law_a", "_law_b", "_law_c", "_law_d", "_law_right", "_law_up"] "_law_led" (defScope s_l_led) f cdv A outer s H E).nox (defBody s_l_led) (liftS K H w_l_led) :=
 (@dss_cons _ _ _ _ _ _ (ds_set (i := 2) sc_l_led.nd (de_call c_l_mixed (hr.mono (by decide)) rfl (da_cons (dv 0) (da_cons de_int da_nil))))
 (@dss_cons _ _ _ _ _ _ (ds_set (i := 3) sc_l_led.nd (de_sub (de_mod (dv 2) de_int) de_int))
 (@dss_cons _ _ _ _ _ _ (ds_set (i := 4) sc_l_led.nd (de_sub (de_mod (de_fdiv (dv 2) de_int) de_int) de_int))
 (@dss_cons _ _ _ _ _ _ (ds_set (i := 5) sc_l_led.nd (de_sub (de_mod (de_fdiv (dv 2) de_int) de_int) de_int))
 (@dss_cons _ _ _ _ _ _ (ds_set (i := 6) sc_l_led.nd (de_sub (de_mod (de_fdiv (dv 2) de_int) de_int) de_int))
 (@dss_consM _ _ _ _ _ _ (@ds_if _ _ _ _ _ _ _ _ _ (dt_eq hr (de_mul (dv 3) (dv 6)) (de_mul (dv 4) (dv 5))) (@dss_one _ _ _ _ (@ds_unpIx _ _ _ _ _ _ _ _ _ _ _ (de_ix (@de_lst _ _ _ _ (da_cons (@de_tup _ _ _ _ _ (da_cons de_int (da_cons de_int (da_cons de_int (da_cons de_int da_nil))))) (da_cons (@de_tup _ _ _ _ _ (da_cons de_int (da_cons de_int (da_cons de_int (da_cons de_int da_nil))))) (da_cons (@de_tup _ _ _ _ _ (da_cons de_int (da_cons de_int (da_cons de_int (da_cons (de_neg de_int) da_nil))))) (da_cons (@de_tup _ _ _ _ _ (da_cons (de_neg de_int) (da_cons de_int (da_cons de_int (da_cons de_int da_nil))))) da_nil))))) (de_mod (de_fdiv (dv 2) de_int) de_int)) (dg_tup (dgs_cons (dg_name (i := 3) sc_l_led.nd) (dgs_cons (dg_name (i := 4) sc_l_led.nd) (dgs_cons (dg_name (i := 5) sc_l_led.nd) (dgs_cons (dg_name (i := 6) sc_l_led.nd) dgs_nil)))) (len_cons (len_cons (len_cons (len_cons len_nil))))))) dss_nil)
 (@dss_cons _ _ _ _ _ _ (ds_set (i := 7) sc_l_led.nd (de_sub (de_mod (de_call c_l_cell_at (hr.mono (by decide)) rfl (da_cons (dv 0) (da_cons de_int da_nil))) (de_mul de_int (de_pow de_int de_int))) (de_pow de_int de_int)))
 (@dss_cons _ _ _ _ _ _ (ds_set (i := 8) sc_l_led.nd (de_sub (de_mod (de_call c_l_cell_at (hr.mono (by decide)) rfl (da_cons (dv 0) (da_cons de_int da_nil))) (de_mul de_int (de_pow de_int de_int))) (de_pow de_int de_int)))
 (@dss_one _ _ _ _ (@ds_ret _ _ _ _ _ (de_comp (N := ["_law_x", "_law_y", "_law_a", "_law_b", "_law_right", "_law_c", "_law_d", "_law_up"]) (own := 2) (fr := [3, 4, 7, 5, 6, 8]) (NX := ["_law_script", "_law_points_here", "_law_number", "_law_a", "_law_b", "_law_c", "_law_d", "_law_right", "_law_up"]) (ar := defScope s_l_led) (by decide +kernel) (di_list (dv 1)) (gok_tup (goks_cons gok_name (goks_cons gok_name goks_nil mono_name) mono_name)) (fun _ _ _ _ => (dg_tup (dgs_cons (dg_name (i := 0) (show List.Nodup (["_law_x", "_law_y", "_law_a", "_law_b", "_law_right", "_law_c", "_law_d", "_law_up"] : List Str) by decide)) (dgs_cons (dg_name (i := 1) (show List.Nodup (["_law_x", "_law_y", "_law_a", "_law_b", "_law_right", "_law_c", "_law_d", "_law_up"] : List Str) by decide)) dgs_nil)) (len_cons (len_cons len_nil)))) (fun _ _ _ _ => dts_nil) (fun _ _ _ _ => (@de_tup _ _ _ _ _ (da_cons (de_add (de_add (de_mul (dv 2) (dv 0)) (de_mul (dv 3) (dv 1))) (dv 4)) (da_cons (de_add (de_add (de_mul (dv 5) (dv 0)) (de_mul (dv 6) (dv 1))) (dv 7)) da_nil)))))))))))))))
abbrev s_law : Stmt := top 29
theorem sc_law : FnScope ["_law_script", "_law_points_here", "_law_more", "_law_found", "_law_longer", "_law_k"] ["_law_script"] (defScope s_law) := ⟨rfl, rfl, rfl, by decide +kernel, rfl, by decide +kernel, by decide +kernel⟩
theorem b_law {P : Program} {w : World} {K : PySem.W.Frag} {mg : Str → Option Value} {base : Heap} (m_list : mg "list" = none) (m_reversed : mg "reversed" = none) (m_len : mg "len" = none) (m_range : mg "range" = none) (c_l_points : Callee P w K mg base 3 "_law_points" sp_l_points) (c_l_cell_at : Callee P w K mg base 1 "_law_cell_at" sp_l_cell_at) (c_ranks : Callee P w K mg base 6 "ranks" sp_ranks) (c_l_led : Callee P w K mg base 3 "_law_led" sp_l_led) {f : Addr} {cdv : Value} {A : Around} {outer : List Env} {s : Shared} {H : Hp} {E : XK} (hr : Room 6 (A.deeper (envOfC "law" (defScope s_law) s.heap.objs.size f cdv))) :
    PSs (cxOf CX0 P w K mg base ["_law_script", "_law_points_here", "_law_more", "_law_found", "_law_longer", "_law_k"] "law" (defScope s_law) f cdv A outer s H E).nox (defBody s_law) (liftS K H w_law) :=
 (@dss_cons _ _ _ _ _ _ (ds_set (i := 1) sc_law.nd (de_call c_l_points (hr.mono (by decide)) rfl (da_cons (dv 0) (da_cons de_int (da_cons (de_add de_int (de_mod (de_call c_l_cell_at (hr.mono (by decide)) rfl (da_cons (dv 0) (da_cons de_int da_nil))) de_int)) da_nil)))))
 (@dss_cons _ _ _ _ _ _ (ds_popTo (i := 1) (j := 2) sc_law.nd)
 (@dss_cons _ _ _ _ _ _ (ds_set (i := 3) sc_law.nd (de_call c_ranks (hr.mono (by decide)) rfl (da_cons (dv 1) da_nil)))
 (@dss_cons _ _ _ _ _ _ (@ds_if _ _ _ _ _ _ _ _ _ (dt_1 (PW.pt (dw_or (dt_ne hr (de_call c_ranks (hr.mono (by decide)) rfl (da_cons (de_call c_l_led (hr.mono (by decide)) rfl (da_cons (dv 0) (da_cons (dv 1) da_nil))) da_nil)) (dv 3)) (dw_or1 (dt_ne hr (de_call c_ranks (hr.mono (by decide)) rfl (da_cons (de_listRev m_list m_reversed hr.hd (dv 1)) da_nil)) (de_listRev m_list m_reversed hr.hd (dv 3))))))) (@dss_one _ _ _ _ (@ds_ret _ _ _ _ _ de_bl)) dss_nil)
 (@dss_cons _ _ _ _ _ _ (ds_set (i := 4) sc_law.nd (de_call c_ranks (hr.mono (by decide)) rfl (da_cons (de_cat (dv 1) (@de_lst _ _ _ _ (da_cons (dv 2) da_nil))) da_nil)))
 (@dss_cons _ _ _ _ _ _ (@ds_if _ _ _ _ _ _ _ _ _ (dt_1 (PW.pt (dw_or (dt_ne hr (de_len m_len (da_cons (dv 4) da_nil)) (de_add (de_len m_len (da_cons (dv 1) da_nil)) de_int)) (dw_or1 (dt_lt (de_ix (dv 4) (de_neg de_int)) de_int))))) (@dss_one _ _ _ _ (@ds_ret _ _ _ _ _ de_bl)) dss_nil)
 (@dss_consM _ _ _ _ _ _ (ds_for PassesOwn.never (di_range1 m_range (da_cons (de_len m_len (da_cons (dv 1) da_nil)) da_nil)) (dg_name (i := 5) sc_law.nd) (@dss_one _ _ _ _ (@ds_if _ _ _ _ _ _ _ _ _ (dt_1 (PW.pt (dw_or (dt_notIn hr (de_sub (de_ix (dv 4) (dv 5)) (de_ix (dv 3) (dv 5))) (@de_lst _ _ _ _ (da_cons de_int (da_cons de_int da_nil)))) (dw_or1 (PW.pt (dw_and (dt_eq hr (de_ix (dv 1) (dv 5)) (dv 2)) (dw_and1 (dt_eq hr (de_ix (dv 4) (dv 5)) (de_ix (dv 3) (dv 5)))))))))) (@dss_one _ _ _ _ (@ds_ret _ _ _ _ _ de_bl)) dss_nil)))
 (@dss_one _ _ _ _ (@ds_ret _ _ _ _ _ de_bl)))))))))
theorem all_mk {l : PySem.W.OpenLaw} {w : World} {K : PySem.W.Frag} {h : Heap} {mg : Str → Option Value} {cc T : Addr} {ts : List Addr} {odC : Option Addr} {vsC : Array Value} {slC : Array (Option Value)} {fa f_0 f_1 f_2 f_3 f_4 f_5 f_6 f_7 f_8 f_9 f_10 f_11 f_12 f_13 f_14 f_15 f_16 f_17 f_18 : Addr} (X : K.In h) (G : h.Ns mainGlobals mg) (hfa : mg "law" = some (.ref fa))
    {od0 an0 od1 an1 od2 an2 od3 an3 od4 an4 od5 an5 od6 an6 od7 an7 od8 an8 od9 an9 od10 an10 od11 an11 od12 an12 od13 an13 od14 an14 od15 an15 od16 an16 od17 an17 od18 an18 : Option Addr} {sl0 sl1 sl2 sl3 sl4 sl5 sl6 sl7 sl8 sl9 sl10 sl11 sl12 sl13 sl14 sl15 sl16 sl17 sl18 : Array (Option Value)} {oc0 kV0 dc0 pm0 cd0 ct0 oc1 kV1 dc1 pm1 cd1 ct1 oc2 kV2 dc2 pm2 cd2 ct2 oc3 kV3 dc3 pm3 cd3 ct3 oc4 kV4 dc4 pm4 cd4 ct4 oc5 kV5 dc5 pm5 cd5 ct5 oc6 kV6 dc6 pm6 cd6 ct6 oc7 kV7 dc7 pm7 cd7 ct7 oc8 kV8 dc8 pm8 cd8 ct8 oc9 kV9 dc9 pm9 cd9 ct9 oc10 kV10 dc10 pm10 cd10 ct10 oc11 kV11 dc11 pm11 ct11 oc12 kV12 dc12 pm12 cd12 ct12 oc13 kV13 dc13 pm13 cd13 ct13 oc14 kV14 dc14 pm14 cd14 ct14 oc15 kV15 dc15 pm15 cd15 ct15 oc16 kV16 dc16 pm16 cd16 ct16 oc17 kV17 dc17 pm17 cd17 ct17 oc18 kV18 dc18 pm18 cd18 ct18 : Value}
    (a0 : PySem.W.nsIn K mainGlobals "divisor" = some (some (.ref f_0))) (l0 : K.lookup f_0 = some ⟨oc0, od0, .func (PySem.W.fnOf "divisor" "divisor" (defArgs s_divisor) (defBody s_divisor) (defScope s_divisor) .none kV0 dc0 pm0 an0 cd0 ct0), sl0⟩) (e0 : PySem.W.codeIn K cd0 "divisor" = true) (k0 : PySem.W.keepIn K (.ref f_0) = true)
    (a1 : PySem.W.nsIn K mainGlobals "half" = some (some (.ref f_1))) (l1 : K.lookup f_1 = some ⟨oc1, od1, .func (PySem.W.fnOf "half" "half" (defArgs s_half) (defBody s_half) (defScope s_half) .none kV1 dc1 pm1 an1 cd1 ct1), sl1⟩) (e1 : PySem.W.codeIn K cd1 "half" = true) (k1 : PySem.W.keepIn K (.ref f_1) = true)
    (a2 : PySem.W.nsIn K mainGlobals "along" = some (some (.ref f_2))) (l2 : K.lookup f_2 = some ⟨oc2, od2, .func (PySem.W.fnOf "along" "along" (defArgs s_along) (defBody s_along) (defScope s_along) .none kV2 dc2 pm2 an2 cd2 ct2), sl2⟩) (e2 : PySem.W.codeIn K cd2 "along" = true) (k2 : PySem.W.keepIn K (.ref f_2) = true)
    (a3 : PySem.W.nsIn K mainGlobals "as_spot" = some (some (.ref f_3))) (l3 : K.lookup f_3 = some ⟨oc3, od3, .func (PySem.W.fnOf "as_spot" "as_spot" (defArgs s_as_spot) (defBody s_as_spot) (defScope s_as_spot) .none kV3 dc3 pm3 an3 cd3 ct3), sl3⟩) (e3 : PySem.W.codeIn K cd3 "as_spot" = true) (k3 : PySem.W.keepIn K (.ref f_3) = true)
    (a4 : PySem.W.nsIn K mainGlobals "bottoms" = some (some (.ref f_4))) (l4 : K.lookup f_4 = some ⟨oc4, od4, .func (PySem.W.fnOf "bottoms" "bottoms" (defArgs s_bottoms) (defBody s_bottoms) (defScope s_bottoms) .none kV4 dc4 pm4 an4 cd4 ct4), sl4⟩) (e4 : PySem.W.codeIn K cd4 "bottoms" = true) (k4 : PySem.W.keepIn K (.ref f_4) = true)
    (a5 : PySem.W.nsIn K mainGlobals "stretched" = some (some (.ref f_5))) (l5 : K.lookup f_5 = some ⟨oc5, od5, .func (PySem.W.fnOf "stretched" "stretched" (defArgs s_stretched) (defBody s_stretched) (defScope s_stretched) .none kV5 dc5 pm5 an5 cd5 ct5), sl5⟩) (e5 : PySem.W.codeIn K cd5 "stretched" = true) (k5 : PySem.W.keepIn K (.ref f_5) = true)
    (a6 : PySem.W.nsIn K mainGlobals "ways_to" = some (some (.ref f_6))) (l6 : K.lookup f_6 = some ⟨oc6, od6, .func (PySem.W.fnOf "ways_to" "ways_to" (defArgs s_ways_to) (defBody s_ways_to) (defScope s_ways_to) .none kV6 dc6 pm6 an6 cd6 ct6), sl6⟩) (e6 : PySem.W.codeIn K cd6 "ways_to" = true) (k6 : PySem.W.keepIn K (.ref f_6) = true)
    (a7 : PySem.W.nsIn K mainGlobals "many_ahead" = some (some (.ref f_7))) (l7 : K.lookup f_7 = some ⟨oc7, od7, .func (PySem.W.fnOf "many_ahead" "many_ahead" (defArgs s_many_ahead) (defBody s_many_ahead) (defScope s_many_ahead) .none kV7 dc7 pm7 an7 cd7 ct7), sl7⟩) (e7 : PySem.W.codeIn K cd7 "many_ahead" = true) (k7 : PySem.W.keepIn K (.ref f_7) = true)
    (a8 : PySem.W.nsIn K mainGlobals "just_past" = some (some (.ref f_8))) (l8 : K.lookup f_8 = some ⟨oc8, od8, .func (PySem.W.fnOf "just_past" "just_past" (defArgs s_just_past) (defBody s_just_past) (defScope s_just_past) .none kV8 dc8 pm8 an8 cd8 ct8), sl8⟩) (e8 : PySem.W.codeIn K cd8 "just_past" = true) (k8 : PySem.W.keepIn K (.ref f_8) = true)
    (a9 : PySem.W.nsIn K mainGlobals "facings" = some (some (.ref f_9))) (l9 : K.lookup f_9 = some ⟨oc9, od9, .func (PySem.W.fnOf "facings" "facings" (defArgs s_facings) (defBody s_facings) (defScope s_facings) .none kV9 dc9 pm9 an9 cd9 ct9), sl9⟩) (e9 : PySem.W.codeIn K cd9 "facings" = true) (k9 : PySem.W.keepIn K (.ref f_9) = true)
    (a10 : PySem.W.nsIn K mainGlobals "half_facing" = some (some (.ref f_10))) (l10 : K.lookup f_10 = some ⟨oc10, od10, .func (PySem.W.fnOf "half_facing" "half_facing" (defArgs s_half_facing) (defBody s_half_facing) (defScope s_half_facing) .none kV10 dc10 pm10 an10 cd10 ct10), sl10⟩) (e10 : PySem.W.codeIn K cd10 "half_facing" = true) (k10 : PySem.W.keepIn K (.ref f_10) = true)
    (a11 : PySem.W.nsIn K mainGlobals "depth" = some (some (.ref f_11))) (l11 : K.lookup f_11 = some ⟨oc11, od11, .func (PySem.W.fnOf "depth" "depth" (defArgs s_depth) (defBody s_depth) (defScope s_depth) .none kV11 dc11 pm11 an11 (.ref cc) ct11), sl11⟩) (e11 : PySem.W.codeIn K (.ref cc) "depth" = true) (k11 : PySem.W.keepIn K (.ref f_11) = true)
    (a12 : PySem.W.nsIn K mainGlobals "ranks" = some (some (.ref f_12))) (l12 : K.lookup f_12 = some ⟨oc12, od12, .func (PySem.W.fnOf "ranks" "ranks" (defArgs s_ranks) (defBody s_ranks) (defScope s_ranks) .none kV12 dc12 pm12 an12 cd12 ct12), sl12⟩) (e12 : PySem.W.codeIn K cd12 "ranks" = true) (k12 : PySem.W.keepIn K (.ref f_12) = true)
    (a13 : PySem.W.nsIn K mainGlobals "_law_cell_at" = some (some (.ref f_13))) (l13 : K.lookup f_13 = some ⟨oc13, od13, .func (PySem.W.fnOf "_law_cell_at" "_law_cell_at" (defArgs s_l_cell_at) (defBody s_l_cell_at) (defScope s_l_cell_at) .none kV13 dc13 pm13 an13 cd13 ct13), sl13⟩) (e13 : PySem.W.codeIn K cd13 "_law_cell_at" = true) (k13 : PySem.W.keepIn K (.ref f_13) = true)
    (a14 : PySem.W.nsIn K mainGlobals "_law_block" = some (some (.ref f_14))) (l14 : K.lookup f_14 = some ⟨oc14, od14, .func (PySem.W.fnOf "_law_block" "_law_block" (defArgs s_l_block) (defBody s_l_block) (defScope s_l_block) .none kV14 dc14 pm14 an14 cd14 ct14), sl14⟩) (e14 : PySem.W.codeIn K cd14 "_law_block" = true) (k14 : PySem.W.keepIn K (.ref f_14) = true)
    (a15 : PySem.W.nsIn K mainGlobals "_law_mixed" = some (some (.ref f_15))) (l15 : K.lookup f_15 = some ⟨oc15, od15, .func (PySem.W.fnOf "_law_mixed" "_law_mixed" (defArgs s_l_mixed) (defBody s_l_mixed) (defScope s_l_mixed) .none kV15 dc15 pm15 an15 cd15 ct15), sl15⟩) (e15 : PySem.W.codeIn K cd15 "_law_mixed" = true) (k15 : PySem.W.keepIn K (.ref f_15) = true)
    (a16 : PySem.W.nsIn K mainGlobals "_law_points" = some (some (.ref f_16))) (l16 : K.lookup f_16 = some ⟨oc16, od16, .func (PySem.W.fnOf "_law_points" "_law_points" (defArgs s_l_points) (defBody s_l_points) (defScope s_l_points) .none kV16 dc16 pm16 an16 cd16 ct16), sl16⟩) (e16 : PySem.W.codeIn K cd16 "_law_points" = true) (k16 : PySem.W.keepIn K (.ref f_16) = true)
    (a17 : PySem.W.nsIn K mainGlobals "_law_led" = some (some (.ref f_17))) (l17 : K.lookup f_17 = some ⟨oc17, od17, .func (PySem.W.fnOf "_law_led" "_law_led" (defArgs s_l_led) (defBody s_l_led) (defScope s_l_led) .none kV17 dc17 pm17 an17 cd17 ct17), sl17⟩) (e17 : PySem.W.codeIn K cd17 "_law_led" = true) (k17 : PySem.W.keepIn K (.ref f_17) = true)
    (a18 : PySem.W.nsIn K mainGlobals "law" = some (some (.ref f_18))) (l18 : K.lookup f_18 = some ⟨oc18, od18, .func (PySem.W.fnOf "law" "law" (defArgs s_law) (defBody s_law) (defScope s_law) .none kV18 dc18 pm18 an18 cd18 ct18), sl18⟩) (e18 : PySem.W.codeIn K cd18 "law" = true) (k18 : PySem.W.keepIn K (.ref f_18) = true)
    (gc : K.lookup cc = some ⟨.type "code", odC, .fields vsC, slC⟩) (gt : (vsC[11]? : Option Value) = some (.ref T)) (gh : PySem.W.codeHdIn K cc T = true) (gn : K.lookup T = none) (gs : T ∈ ts)
    (z_abs : PySem.W.nsIn K mainGlobals "abs" = some none)
    (z_len : PySem.W.nsIn K mainGlobals "len" = some none)
    (z_max : PySem.W.nsIn K mainGlobals "max" = some none)
    (z_min : PySem.W.nsIn K mainGlobals "min" = some none)
    (z_range : PySem.W.nsIn K mainGlobals "range" = some none)
    (z_list : PySem.W.nsIn K mainGlobals "list" = some none)
    (z_reversed : PySem.W.nsIn K mainGlobals "reversed" = some none)
    : ∃ (fd : FuncData) (c T : Addr), (∀ (s : Shared) (v : Value), BindsTo s fd ⟨[v], []⟩ [("_law_script", v)]) ∧ T ∈ ts ∧ K.lookup T = none ∧ PySem.W.codeHdIn K c T = true ∧ lamTab K = some T ∧ ∀ base : Heap, K.In base → base.Ns mainGlobals mg → BMd mg base → FnOk l.prog w K mg base CX0 7 fa fd ["_law_script"] (toSp K spLaw) := by
  have e := hfa.symm.trans (PySem.W.mg_of X G a18)
  cases e
  have F_divisor := fun_mk (st := s_divisor) l0 e0 k0
  have B_divisor := F_divisor.binds (ps := ["one", "other"]) fun _ _ _ _ _ _ us hl => match us, hl with | [_, _], _ => rfl
  have F_half := fun_mk (st := s_half) l1 e1 k1
  have B_half := F_half.binds (ps := ["a", "b", "c"]) fun _ _ _ _ _ _ us hl => match us, hl with | [_, _, _], _ => rfl
  have F_along := fun_mk (st := s_along) l2 e2 k2
  have B_along := F_along.binds (ps := ["one", "other"]) fun _ _ _ _ _ _ us hl => match us, hl with | [_, _], _ => rfl
  have F_as_spot := fun_mk (st := s_as_spot) l3 e3 k3
  have B_as_spot := F_as_spot.binds (ps := ["point"]) fun _ _ _ _ _ _ us hl => match us, hl with | [_], _ => rfl
  have F_bottoms := fun_mk (st := s_bottoms) l4 e4 k4
  have B_bottoms := F_bottoms.binds (ps := ["spot"]) fun _ _ _ _ _ _ us hl => match us, hl with | [_], _ => rfl
  have F_stretched := fun_mk (st := s_stretched) l5 e5 k5
  have B_stretched := F_stretched.binds (ps := ["spot"]) fun _ _ _ _ _ _ us hl => match us, hl with | [_], _ => rfl
  have F_ways_to := fun_mk (st := s_ways_to) l6 e6 k6
  have B_ways_to := F_ways_to.binds (ps := ["points", "spot"]) fun _ _ _ _ _ _ us hl => match us, hl with | [_, _], _ => rfl
  have F_many_ahead := fun_mk (st := s_many_ahead) l7 e7 k7
  have B_many_ahead := F_many_ahead.binds (ps := ["ways", "facing"]) fun _ _ _ _ _ _ us hl => match us, hl with | [_, _], _ => rfl
  have F_just_past := fun_mk (st := s_just_past) l8 e8 k8
  have B_just_past := F_just_past.binds (ps := ["way", "ways"]) fun _ _ _ _ _ _ us hl => match us, hl with | [_, _], _ => rfl
  have F_facings := fun_mk (st := s_facings) l9 e9 k9
  have B_facings := F_facings.binds (ps := ["ways"]) fun _ _ _ _ _ _ us hl => match us, hl with | [_], _ => rfl
  have F_half_facing := fun_mk (st := s_half_facing) l10 e10 k10
  have B_half_facing := F_half_facing.binds (ps := ["facing", "spot"]) fun _ _ _ _ _ _ us hl => match us, hl with | [_, _], _ => rfl
  have F_depth := fun_mk (st := s_depth) l11 e11 k11
  have hlam : lamTab K = some T := lamTab_of a11 l11 rfl gc gt
  have FC : FunC K "depth" "depth" s_depth f_11 _ cc T := ⟨⟨_, _, _, _, _, _, _, _, rfl, l11, e11⟩, k11, gh, hlam⟩
  have B_depth := F_depth.binds (ps := ["points", "spot"]) fun _ _ _ _ _ _ us hl => match us, hl with | [_, _], _ => rfl
  have F_ranks := fun_mk (st := s_ranks) l12 e12 k12
  have B_ranks := F_ranks.binds (ps := ["points"]) fun _ _ _ _ _ _ us hl => match us, hl with | [_], _ => rfl
  have F_l_cell_at := fun_mk (st := s_l_cell_at) l13 e13 k13
  have B_l_cell_at := F_l_cell_at.binds (ps := ["_law_script", "_law_k"]) fun _ _ _ _ _ _ us hl => match us, hl with | [_, _], _ => rfl
  have F_l_block := fun_mk (st := s_l_block) l14 e14 k14
  have B_l_block := F_l_block.binds (ps := ["_law_script", "_law_k"]) fun _ _ _ _ _ _ us hl => match us, hl with | [_, _], _ => rfl
  have F_l_mixed := fun_mk (st := s_l_mixed) l15 e15 k15
  have B_l_mixed := F_l_mixed.binds (ps := ["_law_script", "_law_k"]) fun _ _ _ _ _ _ us hl => match us, hl with | [_, _], _ => rfl
  have F_l_points := fun_mk (st := s_l_points) l16 e16 k16
  have B_l_points := F_l_points.binds (ps := ["_law_script", "_law_start", "_law_many"]) fun _ _ _ _ _ _ us hl => match us, hl with | [_, _, _], _ => rfl
  have F_l_led := fun_mk (st := s_l_led) l17 e17 k17
  have B_l_led := F_l_led.binds (ps := ["_law_script", "_law_points_here"]) fun _ _ _ _ _ _ us hl => match us, hl with | [_, _], _ => rfl
  have F_law := fun_mk (st := s_law) l18 e18 k18
  have m_abs := PySem.W.mg_none_of X G z_abs
  have m_len := PySem.W.mg_none_of X G z_len
  have m_max := PySem.W.mg_none_of X G z_max
  have m_min := PySem.W.mg_none_of X G z_min
  have m_range := PySem.W.mg_none_of X G z_range
  have m_list := PySem.W.mg_none_of X G z_list
  have m_reversed := PySem.W.mg_none_of X G z_reversed
  refine ⟨PySem.W.fnOf "law" "law" (defArgs s_law) (defBody s_law) (defScope s_law) .none kV18 dc18 pm18 an18 cd18 ct18, cc, T, fun s v => .of_eq rfl, gs, gn, gh, hlam, fun base kb _ hBM => ?_⟩
  obtain ⟨mb, bm⟩ := hBM
  have c_l_block : Callee l.prog w K mg base 1 "_law_block" sp_l_block := callee_of F_l_block (PySem.W.mg_of X G a14) B_l_block (def_ok F_l_block sc_l_block len_l_block (fun cdv A outer s H E hr => b_l_block m_len m_range hr) ok_l_block)
  have c_l_mixed : Callee l.prog w K mg base 2 "_law_mixed" sp_l_mixed := callee_of F_l_mixed (PySem.W.mg_of X G a15) B_l_mixed (def_ok F_l_mixed sc_l_mixed len_l_mixed (fun cdv A outer s H E hr => b_l_mixed m_len m_min c_l_block hr) ok_l_mixed)
  have c_l_points : Callee l.prog w K mg base 3 "_law_points" sp_l_points := callee_of F_l_points (PySem.W.mg_of X G a16) B_l_points (def_ok F_l_points sc_l_points len_l_points (fun cdv A outer s H E hr => b_l_points m_range c_l_mixed hr) ok_l_points)
  have c_l_cell_at : Callee l.prog w K mg base 1 "_law_cell_at" sp_l_cell_at := callee_of F_l_cell_at (PySem.W.mg_of X G a13) B_l_cell_at (def_ok F_l_cell_at sc_l_cell_at len_l_cell_at (fun cdv A outer s H E hr => b_l_cell_at m_len hr) ok_l_cell_at)
  have c_bottoms : Callee l.prog w K mg base 1 "bottoms" sp_bottoms := callee_of F_bottoms (PySem.W.mg_of X G a4) B_bottoms (def_ok F_bottoms sc_bottoms len_bottoms (fun cdv A outer s H E hr => b_bottoms hr) ok_bottoms)
  have c_stretched : Callee l.prog w K mg base 2 "stretched" sp_stretched := callee_of F_stretched (PySem.W.mg_of X G a5) B_stretched (def_ok F_stretched sc_stretched len_stretched (fun cdv A outer s H E hr => b_stretched c_bottoms hr) ok_stretched)
  have c_ways_to : Callee l.prog w K mg base 3 "ways_to" sp_ways_to := callee_of F_ways_to (PySem.W.mg_of X G a6) B_ways_to (def_ok F_ways_to sc_ways_to len_ways_to (fun cdv A outer s H E hr => b_ways_to c_stretched hr) ok_ways_to)
  have c_along : Callee l.prog w K mg base 1 "along" sp_along := callee_of F_along (PySem.W.mg_of X G a2) B_along (def_ok F_along sc_along len_along (fun cdv A outer s H E hr => b_along hr) ok_along)
  have c_just_past : Callee l.prog w K mg base 2 "just_past" sp_just_past := callee_of F_just_past (PySem.W.mg_of X G a8) B_just_past (def_ok F_just_past sc_just_past len_just_past (fun cdv A outer s H E hr => b_just_past m_max m_abs c_along hr) ok_just_past)
  have c_facings : Callee l.prog w K mg base 3 "facings" sp_facings := callee_of F_facings (PySem.W.mg_of X G a9) B_facings (def_ok F_facings sc_facings len_facings (fun cdv A outer s H E hr => b_facings c_just_past hr) ok_facings)
  have c_many_ahead : Callee l.prog w K mg base 2 "many_ahead" sp_many_ahead := callee_of F_many_ahead (PySem.W.mg_of X G a7) B_many_ahead (def_ok F_many_ahead sc_many_ahead len_many_ahead (fun cdv A outer s H E hr => b_many_ahead m_len c_along hr) ok_many_ahead)
  have c_divisor : Callee l.prog w K mg base 1 "divisor" sp_divisor := callee_of F_divisor (PySem.W.mg_of X G a0) B_divisor (def_ok F_divisor sc_divisor len_divisor (fun cdv A outer s H E hr => b_divisor m_abs hr) ok_divisor)
  have c_half : Callee l.prog w K mg base 2 "half" sp_half := callee_of F_half (PySem.W.mg_of X G a1) B_half (def_ok F_half sc_half len_half (fun cdv A outer s H E hr => b_half c_divisor hr) ok_half)
  have c_half_facing : Callee l.prog w K mg base 3 "half_facing" sp_half_facing := callee_of F_half_facing (PySem.W.mg_of X G a10) B_half_facing (def_ok F_half_facing sc_half_facing len_half_facing (fun cdv A outer s H E hr => b_half_facing c_stretched c_half c_along hr) ok_half_facing)
  have c_depth : Callee l.prog w K mg base 5 "depth" sp_depth := callee_of F_depth (PySem.W.mg_of X G a11) B_depth (def_okC FC sc_depth len_depth (fun A outer s H E hr => b_depth kb gh hlam bm m_len m_min c_ways_to c_facings c_many_ahead c_half_facing hr) ok_depth)
  have c_as_spot : Callee l.prog w K mg base 1 "as_spot" sp_as_spot := callee_of F_as_spot (PySem.W.mg_of X G a3) B_as_spot (def_ok F_as_spot sc_as_spot len_as_spot (fun cdv A outer s H E hr => b_as_spot hr) ok_as_spot)
  have c_ranks : Callee l.prog w K mg base 6 "ranks" sp_ranks := callee_of F_ranks (PySem.W.mg_of X G a12) B_ranks (def_ok F_ranks sc_ranks len_ranks (fun cdv A outer s H E hr => b_ranks c_depth c_as_spot hr) ok_ranks)
  have c_l_led : Callee l.prog w K mg base 3 "_law_led" sp_l_led := callee_of F_l_led (PySem.W.mg_of X G a17) B_l_led (def_ok F_l_led sc_l_led len_l_led (fun cdv A outer s H E hr => b_l_led c_l_mixed c_l_cell_at hr) ok_l_led)
  exact def_ok F_law sc_law len_law (fun cdv A outer s H E hr => b_law m_list m_reversed m_len m_range c_l_points c_l_cell_at c_ranks c_l_led hr) ok_law

end Law
open PySem PySem.W PyProof.Rows
set_option maxRecDepth 100000 in
set_option maxHeartbeats 0 in
theorem PySem.Challenge.cw_deepspot_k54_ranks_stay_holds : PySem.Challenge.rw_deepspot_k54_ranks_stay.Holds := by
  w_on; o_law; k_head; (case hw => w_witness2)
  k_fill
  refine DL.walkT (l := PySem.Challenge.rw_deepspot_k54_ranks_stay) (n := 63) (k := 7) (x := "_law_script") rfl (by decide) rfl ⟨rfl, by decide, by decide⟩ (fun w h Y => PySem.W.km_in_of Y) (fun w h Y => PySem.W.km_tabs_of Y) ?F
  case F =>
    intro w mg fa h KX G hmg
    refine' Law.all_mk KX G hmg ?a0 ?l0 ?e0 ?k0 ?a1 ?l1 ?e1 ?k1 ?a2 ?l2 ?e2 ?k2 ?a3 ?l3 ?e3 ?k3 ?a4 ?l4 ?e4 ?k4 ?a5 ?l5 ?e5 ?k5 ?a6 ?l6 ?e6 ?k6 ?a7 ?l7 ?e7 ?k7 ?a8 ?l8 ?e8 ?k8 ?a9 ?l9 ?e9 ?k9 ?a10 ?l10 ?e10 ?k10 ?a11 ?l11 ?e11 ?k11 ?a12 ?l12 ?e12 ?k12 ?a13 ?l13 ?e13 ?k13 ?a14 ?l14 ?e14 ?k14 ?a15 ?l15 ?e15 ?k15 ?a16 ?l16 ?e16 ?k16 ?a17 ?l17 ?e17 ?k17 ?a18 ?l18 ?e18 ?k18 ?gc ?gt ?gh ?gn ?gs ?z_abs ?z_len ?z_max ?z_min ?z_range ?z_list ?z_reversed
    (case a0 => k_is)
    (case l0 => k_is)
    (case e0 => k_is)
    (case k0 => k_is)
    (case a1 => k_is)
    (case l1 => k_is)
    (case e1 => k_is)
    (case k1 => k_is)
    (case a2 => k_is)
    (case l2 => k_is)
    (case e2 => k_is)
    (case k2 => k_is)
    (case a3 => k_is)
    (case l3 => k_is)
    (case e3 => k_is)
    (case k3 => k_is)
    (case a4 => k_is)
    (case l4 => k_is)
    (case e4 => k_is)
    (case k4 => k_is)
    (case a5 => k_is)
    (case l5 => k_is)
    (case e5 => k_is)
    (case k5 => k_is)
    (case a6 => k_is)
    (case l6 => k_is)
    (case e6 => k_is)
    (case k6 => k_is)
    (case a7 => k_is)
    (case l7 => k_is)
    (case e7 => k_is)
    (case k7 => k_is)
    (case a8 => k_is)
    (case l8 => k_is)
    (case e8 => k_is)
    (case k8 => k_is)
    (case a9 => k_is)
    (case l9 => k_is)
    (case e9 => k_is)
    (case k9 => k_is)
    (case a10 => k_is)
    (case l10 => k_is)
    (case e10 => k_is)
    (case k10 => k_is)
    (case a11 => k_is)
    (case l11 => k_is)
    (case e11 => k_is)
    (case k11 => k_is)
    (case a12 => k_is)
    (case l12 => k_is)
    (case e12 => k_is)
    (case k12 => k_is)
    (case a13 => k_is)
    (case l13 => k_is)
    (case e13 => k_is)
    (case k13 => k_is)
    (case a14 => k_is)
    (case l14 => k_is)
    (case e14 => k_is)
    (case k14 => k_is)
    (case a15 => k_is)
    (case l15 => k_is)
    (case e15 => k_is)
    (case k15 => k_is)
    (case a16 => k_is)
    (case l16 => k_is)
    (case e16 => k_is)
    (case k16 => k_is)
    (case a17 => k_is)
    (case l17 => k_is)
    (case e17 => k_is)
    (case k17 => k_is)
    (case a18 => k_is)
    (case l18 => k_is)
    (case e18 => k_is)
    (case k18 => k_is)
    (case gc => k_is)
    (case gt => rfl)
    (case gh => kernel_rfl)
    (case gn => kernel_rfl)
    (case gs => k_mem)
    (case z_abs => k_is)
    (case z_len => k_is)
    (case z_max => k_is)
    (case z_min => k_is)
    (case z_range => k_is)
    (case z_list => k_is)
    (case z_reversed => k_is)

