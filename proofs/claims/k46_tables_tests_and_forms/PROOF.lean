import PyProof.Rows.All
import Wide.All
import OpenK.AllK
import Wide.FinOn
import PyProof.EqAt
import PyProof.EqKinds
import PyProof.TupleCall
import KE.BitLaws
import PyProof.Rows.SortShellAny
import KE.IntBitsLaws
import PyProof.Rows.SortShellAny
import KE.IntBitsLaws
import PySem.Challenge.RW_pillarstore_k46_tables_tests_and_forms
set_option Elab.async false
set_option linter.all false
set_option maxRecDepth 100000
/-! THE HAND LAYER, for ints, bools, texts, own classes, lists, tuples, dicts, comprehensions, walks over dicts, enumerate, zip, reversed, texts, calls, loops. Paste it whole ahead of your own text; what your proof does not reach may be deleted. -/
namespace L2
open PySem PySem.Spec PyProof.Rows

/-- a key: an int or a str -/
abbrev Key := Sum Int Str
def keyIs : Key → Value → Bool
  | .inl k, v => Value.isInt k v
  | .inr x, v => Value.isStrOf x v
def keyH (w : World) : Key → Int
  | .inl k => hashInt k
  | .inr x => hashStr w x
theorem keyIs_shape : ∀ {k : Key} {v : Value}, keyIs k v = true → (∃ i t, k = Sum.inl i ∧ v = Value.int i t) ∨ (∃ x t, k = Sum.inr x ∧ v = Value.str x t)
  | .inl i, v, h => by
    obtain ⟨t, e⟩ := Value.isInt_shape (k := i) (v := v) h
    exact .inl ⟨i, t, rfl, e⟩
  | .inr x, v, h => by
    obtain ⟨t, e⟩ := Value.isStrOf_shape (x := x) (v := v) h
    exact .inr ⟨x, t, rfl, e⟩
theorem keyIs_int (i : Int) (t : Tok) : keyIs (.inl i) (.int i t) = true := by simp [keyIs, Value.isInt]
theorem keyIs_str (x : Str) (t : Tok) : keyIs (.inr x) (.str x t) = true := by simp [keyIs, Value.isStrOf]
theorem key_ll (a b : Int) : decide ((Sum.inl a : Key) = Sum.inl b) = (a == b) := by
  by_cases e : a = b
  · subst e; simp
  · have h : ¬ (Sum.inl a : Key) = Sum.inl b := fun q => e (Sum.inl.inj q)
    rw [decide_eq_false h]
    exact (beq_eq_false_iff_ne.mpr e).symm
theorem key_rr (a b : Str) : decide ((Sum.inr a : Key) = Sum.inr b) = decide (a = b) := by
  by_cases e : a = b
  · subst e; simp
  · have h : ¬ (Sum.inr a : Key) = Sum.inr b := fun q => e (Sum.inr.inj q)
    rw [decide_eq_false h, decide_eq_false e]
theorem key_lr (a : Int) (b : Str) : decide ((Sum.inl a : Key) = Sum.inr b) = false := decide_eq_false (fun q => nomatch q)
theorem key_rl (a : Str) (b : Int) : decide ((Sum.inr a : Key) = Sum.inl b) = false := decide_eq_false (fun q => nomatch q)

def mixKind (prog : Program) (w : World) : PySem.KeyKind prog w Key where
  is := keyIs
  hash := keyH w
  inj := fun v a b ha hb => by
    rcases keyIs_shape ha with ⟨i, t, rfl, rfl⟩ | ⟨x, t, rfl, rfl⟩
    · rcases keyIs_shape hb with ⟨j, u, rfl, e⟩ | ⟨y, u, rfl, e⟩
      · injection e with e1 _; rw [e1]
      · exact nomatch e
    · rcases keyIs_shape hb with ⟨j, u, rfl, e⟩ | ⟨y, u, rfl, e⟩
      · exact nomatch e
      · injection e with e1 _; rw [e1]
  byValue := fun k v h => by
    rcases keyIs_shape h with ⟨i, t, rfl, rfl⟩ | ⟨x, t, rfl, rfl⟩ <;> rfl
  pyHash := fun hv h => by
    rcases keyIs_shape hv with ⟨i, t, rfl, rfl⟩ | ⟨x, t, rfl, rfl⟩
    · exact wpAny_pyHash_int h
    · exact wpAny_pyHash_str h
  eqBool := fun hu hv h => by
    rcases keyIs_shape hu with ⟨i, t, rfl, rfl⟩ | ⟨x, t, rfl, rfl⟩
    · rcases keyIs_shape hv with ⟨j, u, rfl, rfl⟩ | ⟨y, u, rfl, rfl⟩
      · rw [key_ll] at h; exact wpAny_eqBool_int h
      · rw [key_lr] at h; exact SeqAt.EqAt.int_str i t y u _ _ _ _ h
    · rcases keyIs_shape hv with ⟨j, u, rfl, rfl⟩ | ⟨y, u, rfl, rfl⟩
      · rw [key_rl] at h; exact SeqAt.EqAt.str_int x t j u _ _ _ _ h
      · rw [key_rr] at h; exact wpAny_eqBool_str h
  «strs» := fun k x t v h => by
    rcases keyIs_shape h with ⟨i, u, rfl, e⟩ | ⟨y, u, rfl, e⟩
    · exact nomatch e
    · injection e with e1 _
      subst e1
      cases v <;> rfl

theorem mixKind_int (prog : Program) (w : World) (i : Int) (t : Tok) : (mixKind prog w).is (.inl i) (.int i t) = true := keyIs_int i t
theorem mixKind_str (prog : Program) (w : World) (x : Str) (t : Tok) : (mixKind prog w).is (.inr x) (.str x t) = true := keyIs_str x t
end L2

namespace L2
open PySem PySem.Spec PyProof.Rows

/-- a value, without the heap -/
inductive V where
  | non | bl (b : Bool) | int (i : Int) | str (x : Str) | byt (b : Array UInt8) | flt (b : UInt64) | ref (a : Addr) | ty (n : String)
  deriving DecidableEq

def RelV : V → Value → Prop
  | .non, u => u = Value.none
  | .bl b, u => u = Value.bool b
  | .int i, u => ∃ t, u = Value.int i t
  | .str x, u => ∃ t, u = Value.str x t
  | .byt b, u => ∃ t, u = Value.bytes b t
  | .flt b, u => ∃ t, u = Value.float b t
  | .ref a, u => u = Value.ref a
  | .ty n, u => u = Value.type n

abbrev Vals : List V → List Value → Prop := Paired RelV
theorem Vals.length {xs : List V} {us : List Value} (r : Vals xs us) : xs.length = us.length := Paired.length r
theorem Vals.get : ∀ {xs : List V} {us : List Value} {i : Nat} {x : V}, Vals xs us → xs[i]? = some x → ∃ u, us[i]? = some u ∧ RelV x u
  | _, _, _, _, .nil, e => by simp at e
  | _, _, 0, _, .cons r _, e => by simp at e; subst e; exact ⟨_, rfl, r⟩
  | _, _, i + 1, x, .cons _ t, e => by
    obtain ⟨u, h1, h2⟩ := Vals.get (i := i) (x := x) t (by simpa using e)
    exact ⟨u, by simpa using h1, h2⟩
theorem Vals.set {x : V} {u : Value} (r : RelV x u) : ∀ {xs : List V} {us : List Value} (i : Nat), Vals xs us → Vals (xs.set i x) (us.set i u)
  | _, _, _, .nil => .nil
  | _, _, 0, .cons _ t => .cons r t
  | _, _, i + 1, .cons q t => .cons q (Vals.set r i t)
theorem Vals.append : ∀ {xs ys : List V} {us ws : List Value}, Vals xs us → Vals ys ws → Vals (xs ++ ys) (us ++ ws)
  | _, _, _, _, .nil, s => s
  | _, _, _, _, .cons r t, s => .cons r (Vals.append t s)
theorem Vals.take : ∀ {xs : List V} {us : List Value} (n : Nat), Vals xs us → Vals (xs.take n) (us.take n)
  | _, _, 0, _ => .nil
  | _, _, _ + 1, .nil => .nil
  | _, _, n + 1, .cons r t => .cons r (Vals.take n t)
theorem Vals.drop : ∀ {xs : List V} {us : List Value} (n : Nat), Vals xs us → Vals (xs.drop n) (us.drop n)
  | _, _, 0, r => r
  | _, _, _ + 1, .nil => .nil
  | _, _, n + 1, .cons _ t => Vals.drop n t
def RelO : Option V → Option Value → Prop
  | some v, some u => RelV v u
  | none, none => True
  | _, _ => False
def KV {κ : Type} : List (κ × V) → List (κ × Value) → Prop := Paired fun (p : κ × V) (q : κ × Value) => p.1 = q.1 ∧ RelV p.2 q.2

/-- a key of a dict (00_mix): an int or a text -/
def kV : Key → V
  | .inl i => .int i
  | .inr x => .str x

/-- what stands at a tracked address -/
inductive HO where
  /-- a list -/
  | lst (xs : List V)
  /-- a tuple (never changes) -/
  | tup (xs : List V)
  /-- a dict whose keys are ints and texts; one whose keys are tuples of ints and texts (the empty one is both) -/
  | dK (kvs : List (Key × V)) | dT (kvs : List (List Key × V))
  /-- a set of ints: its members, its size -/
  | set (S : Int → Bool) (n : Nat)
  /-- an instance of the class at C, its dict at dx, its attributes -/
  | ins (C dx : Addr) (fs : List (Str × V))
  /-- the dict of the instance at x -/
  | own (x : Addr)
  /-- the dict of an exception -/
  | xd (fs : List (Str × V))
  /-- a bound method, f of x -/
  | met (f x : Addr)
  /-- a range object lo, lo + 1, .. below hi -/
  | rng (lo hi : Int)
  /-- a thing that is known to the object (the script; a dict while a loop walks it): read, never written while it is so -/
  | frz (o : Obj) (u : HO)
  /-- a code object's table -/
  | tbl (ps : Array Value)
  /-- any other thing, by what is true of its one object (a def of one's own: SetO a S n := HO.ext fun h => ..) -/
  | ext (φ : Heap → Prop)

abbrev Hp := Addr → Option HO
def upd (H : Hp) (a : Addr) (o : HO) : Hp := fun b => if b = a then some o else H b
theorem upd_same {H : Hp} {a : Addr} {o : HO} : upd H a o a = some o := by unfold upd; rw [if_pos rfl]
theorem upd_ne {H : Hp} {a b : Addr} {o : HO} (h : b ≠ a) : upd H a o b = H b := by unfold upd; rw [if_neg h]
/-- two objects of different content stand apart -/
theorem ne_of {H : Hp} {a b : Addr} {o u : HO} (h : H a = some o) (h' : H b = some u) (d : o ≠ u) : a ≠ b := by
  intro e; subst e; rw [h] at h'; exact d (Option.some.inj h')
theorem ne_of_none {H : Hp} {a b : Addr} {o : HO} (h : H a = some o) (h' : H b = none) : a ≠ b := by
  intro e; subst e; rw [h] at h'; cases h'

section
variable (P : Program) (w : World)
def ObjOk (H : Hp) (h : Heap) (a : Addr) : HO → Prop
  | .lst xs => xs.length ≤ sizeLine ∧ ∃ (its : List Value) (n : Nat), Vals xs its ∧ h.get? a = some { cls := .type "list", data := .seq its.toArray n }
  | .tup xs => xs.length ≤ sizeLine ∧ ∃ its : List Value, Vals xs its ∧ IsTup h a its.toArray
  | .dK kvs => kvs.length ≤ sizeLine ∧ (a == sysModules) = false ∧ ∃ vs, KV kvs vs ∧ h.DictOf (mixKind P w) a vs
  | .dT kvs => kvs.length ≤ sizeLine ∧ (a == sysModules) = false ∧ ∃ xs : List (List Key × Addr × Value),
      Paired (fun (p : List Key × V) (q : List Key × Addr × Value) => p.1 = q.1 ∧ H q.2.1 = some (.tup (p.1.map kV)) ∧ RelV p.2 q.2.2) kvs xs ∧
      ∃ o es ep, h.get? a = some o ∧ o.ExactDict ∧ o.data = .dict es ep ∧ es.toList = xs.map (entryOfKey (tupleKind (mixKind P w))) ∧ (xs.map (·.1)).Nodup
  | .set S n => h.SetOf (intKind P w) a S n
  | .ins C dx fs => H dx = some (.own a) ∧ fs.length ≤ 1000 ∧ dx ≠ a ∧ h.get? a = some (PySem.W.instObj C dx) ∧
      ∃ mA, h.Ns1 dx mA ∧ (∀ f, RelO (fs.lookup f) (mA f)) ∧ PySem.Within mA (fs.map (·.1))
  | .own _ => ∃ o, h.get? a = some o
  | .xd fs => ∃ mA, h.Ns1 a mA ∧ ∀ f, RelO (fs.lookup f) (mA f)
  | .rng lo hi => ∃ t u v, h.get? a = some { cls := .type "range", data := .fields #[.int lo t, .int hi u, .int 1 v] }
  | .frz o u => h.get? a = some o ∧ ObjOk H h a u
  | .tbl ps => h.get? a = some { cls := .none, data := .fields ps }
  | .met f x => h.get? a = some (PySem.W.methodObj (.ref f) (.ref x))
  | .ext φ => φ h ∧ (∃ o, h.get? a = some o) ∧ ∀ h1 h2 : Heap, φ h1 → (∀ o, h1.get? a = some o → h2.get? a = some o) → φ h2
/-- the abstract heap is held -/
def HOk (H : Hp) (h : Heap) : Prop := ∀ a o, H a = some o → ObjOk P w H h a o
end

section
variable {P : Program} {w : World} {H H' : Hp} {h h' : Heap} {a : Addr} {o : HO}
theorem ObjOk.lt (x : ObjOk P w H h a o) : a < h.objs.size := by
  cases o with
  | lst xs => obtain ⟨_, _, _, _, e⟩ := x; exact Heap.lt_size e
  | tup xs => obtain ⟨_, _, _, p⟩ := x; exact p.lt
  | dK kvs => obtain ⟨_, _, _, _, o, _, _, e, _⟩ := x; exact Heap.lt_size e
  | dT kvs => obtain ⟨_, _, _, _, o, _, _, e, _⟩ := x; exact Heap.lt_size e
  | set S n => obtain ⟨o, _, _, _, e, _⟩ := x; exact Heap.lt_size e
  | ins C dx fs => obtain ⟨_, _, _, e, _⟩ := x; exact Heap.lt_size e
  | own y => obtain ⟨_, e⟩ := x; exact Heap.lt_size e
  | xd fs => obtain ⟨_, ⟨_, _, _, e, _⟩, _⟩ := x; exact Heap.lt_size e
  | rng lo hi => obtain ⟨_, _, _, e⟩ := x; exact Heap.lt_size e
  | frz ob u => obtain ⟨e, _⟩ := x; exact Heap.lt_size e
  | tbl ps => exact Heap.lt_size (show h.get? a = some _ from x)
  | met f y => exact Heap.lt_size (show h.get? a = some _ from x)
  | ext φ => obtain ⟨_, ⟨_, e⟩, _⟩ := x; exact Heap.lt_size e
theorem Paired.mapP {α β : Type} {F G : α → β → Prop} : ∀ {l₁ : List α} {l₂ : List β}, Paired F l₁ l₂ → (∀ a b, F a b → G a b) → Paired G l₁ l₂
  | _, _, .nil, _ => .nil
  | _, _, .cons r t, f => .cons (f _ _ r) (Paired.mapP t f)
/-- what an object's description leans on: its own object, its own dict, the tuples -/
theorem ObjOk.stay (x : ObjOk P w H h a o) (k : ∀ b u, (b = a ∨ H b = some (.own a)) → h.get? b = some u → h'.get? b = some u)
    (ho : ∀ b, H b = some (.own a) → H' b = some (.own a)) (ht : ∀ b xs, H b = some (.tup xs) → H' b = some (.tup xs)) : ObjOk P w H' h' a o := by
  induction o with
  | lst xs => obtain ⟨z, its, n, r, e⟩ := x; exact ⟨z, its, n, r, k _ _ (.inl rfl) e⟩
  | tup xs => obtain ⟨z, its, r, ob, e, c⟩ := x; exact ⟨z, its, r, ob, k _ _ (.inl rfl) e, c⟩
  | dK kvs => obtain ⟨z, y, vs, r, ob, es, ep, e, c⟩ := x; exact ⟨z, y, vs, r, ob, es, ep, k _ _ (.inl rfl) e, c⟩
  | dT kvs =>
    obtain ⟨z, y, xs, r, ob, es, ep, e, c⟩ := x
    exact ⟨z, y, xs, Paired.mapP r fun p q z => ⟨z.1, ht _ _ z.2.1, z.2.2⟩, ob, es, ep, k _ _ (.inl rfl) e, c⟩
  | set S n => obtain ⟨ob, es, ep, t, e, c⟩ := x; exact ⟨ob, es, ep, t, k _ _ (.inl rfl) e, c⟩
  | ins C dx fs =>
    obtain ⟨d, z, ne, e, mA, ⟨od, es, ep, e2, c⟩, r⟩ := x
    exact ⟨ho _ d, z, ne, k _ _ (.inl rfl) e, mA, ⟨od, es, ep, k _ _ (.inr d) e2, c⟩, r⟩
  | own y => obtain ⟨ob, e⟩ := x; exact ⟨ob, k _ _ (.inl rfl) e⟩
  | xd fs => obtain ⟨mA, ⟨od, es, ep, e, c⟩, r⟩ := x; exact ⟨mA, ⟨od, es, ep, k _ _ (.inl rfl) e, c⟩, r⟩
  | rng lo hi => obtain ⟨t, u, v, e⟩ := x; exact ⟨t, u, v, k _ _ (.inl rfl) e⟩
  | frz ob u ih => obtain ⟨e, q⟩ := x; exact ⟨k _ _ (.inl rfl) e, ih q⟩
  | tbl ps =>
    have e : h.get? a = some { cls := .none, data := .fields ps } := x
    show h'.get? a = some { cls := .none, data := .fields ps }
    exact k a _ (.inl rfl) e
  | met f y =>
    have e : h.get? a = some (PySem.W.methodObj (.ref f) (.ref y)) := x
    show h'.get? a = some (PySem.W.methodObj (.ref f) (.ref y))
    exact k a _ (.inl rfl) e
  | ext φ => obtain ⟨p, ⟨o, e⟩, st⟩ := x; exact ⟨st _ _ p fun o q => k _ _ (.inl rfl) q, ⟨o, k _ _ (.inl rfl) e⟩, st⟩
theorem HOk.lt (x : HOk P w H h) (e : H a = some o) : a < h.objs.size := (x a o e).lt
theorem HOk.fresh (x : HOk P w H h) (e : h.objs.size ≤ a) : H a = none := by
  cases q : H a with
  | none => rfl
  | some u => exact absurd (Nat.lt_of_lt_of_le (x.lt q) e) (Nat.lt_irrefl _)
/-- every object of the heap is kept -/
theorem HOk.kept (x : HOk P w H h) (k : ∀ b u, h.get? b = some u → h'.get? b = some u) : HOk P w H h' := fun a o e =>
  (x a o e).stay (fun b u _ q => k b u q) (fun _ q => q) fun _ _ q => q
/-- a new object is laid and tracked -/
theorem HOk.laid (x : HOk P w H h) (k : ∀ b u, h.get? b = some u → h'.get? b = some u) (hp : h.objs.size ≤ a) (new : ObjOk P w (upd H a o) h' a o) : HOk P w (upd H a o) h' := fun b u e => by
  have hn := x.fresh hp
  by_cases hb : b = a
  · subst hb; rw [upd_same] at e; cases e; exact new
  · rw [upd_ne hb] at e
    exact (x b u e).stay (fun c v _ q => k c v q) (fun c q => by rw [upd_ne (ne_of_none q hn)]; exact q) fun c xs q => by rw [upd_ne (ne_of_none q hn)]; exact q
end

/-- what may be read as u: it is u, or a known u -/
def Rd (H : Hp) (a : Addr) (u : HO) : Prop := H a = some u ∨ ∃ o, H a = some (.frz o u)
theorem Rd.of {H : Hp} {a : Addr} {u : HO} (h : H a = some u) : Rd H a u := .inl h
theorem Rd.ok {P : Program} {w : World} {H : Hp} {h : Heap} {a : Addr} {u : HO} (r : Rd H a u) (x : HOk P w H h) : ObjOk P w H h a u := by
  rcases r with r | ⟨o, r⟩
  · exact x a u r
  · obtain ⟨_, q⟩ := x a _ r
    exact q
/-- what may be written -/
def Mut : Option HO → Prop
  | some (.lst _) => True
  | some (.dK _) => True
  | some (.dT _) => True
  | some (.set _ _) => True
  | some (.ins _ _ _) => True
  | some (.ext _) => True
  | _ => False
section
variable {P : Program} {w : World} {H : Hp} {h h' : Heap} {x e : Addr} {o' : HO}
/-- the object at e is changed: x itself, or the dict of the instance x -/
theorem HOk.write (ok : HOk P w H h) (mu : Mut (H x)) (he : e = x ∨ H e = some (.own x)) (k : ∀ b u, b ≠ e → h.get? b = some u → h'.get? b = some u) (heo : ∃ u, h'.get? e = some u)
    (new : ObjOk P w (upd H x o') h' x o') : HOk P w (upd H x o') h' := fun b u q => by
  have nown : ∀ c y, H c = some (.own y) → c ≠ x := fun c y r z => by subst z; rw [r] at mu; exact mu
  have ntup : ∀ c xs, H c = some (.tup xs) → c ≠ x := fun c xs r z => by subst z; rw [r] at mu; exact mu
  by_cases hb : b = x
  · subst hb; rw [upd_same] at q; cases q; exact new
  · rw [upd_ne hb] at q
    by_cases hbe : b = e
    · have q' : H b = some (.own x) := by
        rcases he with z | z
        · exact absurd (hbe.trans z) hb
        · rw [hbe]; exact z
      rw [q] at q'; cases q'
      obtain ⟨v, hv⟩ := heo
      exact ⟨v, by rw [hbe]; exact hv⟩
    · refine (ok b u q).stay (fun c v hc r => k c v ?_ r) (fun c r => by rw [upd_ne (nown c b r)]; exact r) fun c xs r => by rw [upd_ne (ntup c xs r)]; exact r
      rcases hc with rfl | hc
      · exact hbe
      · rintro rfl
        rcases he with z | z
        · exact nown c b hc z
        · rw [hc] at z; cases z; exact hb rfl
end

/-! ### kept unless tracked; of the frames at fs (the callers') the slots may change (an exception that passes writes there); of the records at ex (iterators) nothing is said -/
structure Un (fs ex : List Addr) (H H' : Hp) (h h' : Heap) : Prop where
  keep : ∀ b o, h.get? b = some o → H b = none → b ∉ fs → b ∉ ex → h'.get? b = some o
  slot : ∀ b o, h.get? b = some o → H b = none → b ∈ fs → b ∉ ex → ∃ sl, h'.get? b = some { o with slots := sl }
  free : ∀ b o, h.get? b = some o → H b = none → b ∉ ex → H' b = none
  there : ∀ b o, h.get? b = some o → b ∉ ex → ∃ o', h'.get? b = some o'
  tups : ∀ b xs, H b = some (.tup xs) → H' b = some (.tup xs)
  frzs : ∀ b o u, H b = some (.frz o u) → H' b = some (.frz o u)
  tbls : ∀ b ps, H b = some (.tbl ps) → ∃ more, H' b = some (.tbl (ps ++ more))
section
variable {fs fs' ex ex' : List Addr} {H H1 H2 : Hp} {h h1 h2 h' : Heap} {a x e : Addr} {o : HO}
theorem Un.any (u : Un fs ex H H1 h h1) {b : Addr} {ob : Obj} (q : h.get? b = some ob) (n : H b = none) (hx : b ∉ ex) : ∃ sl, h1.get? b = some { ob with slots := sl } := by
  by_cases hb : b ∈ fs
  · exact u.slot b ob q n hb hx
  · exact ⟨ob.slots, u.keep b ob q n hb hx⟩
theorem Un.trans (a : Un fs ex H H1 h h1) (b : Un fs ex H1 H2 h1 h2) : Un fs ex H H2 h h2 where
  keep := fun c ob q n hc hx => b.keep c ob (a.keep c ob q n hc hx) (a.free c ob q n hx) hc hx
  slot := fun c ob q n hc hx => by
    obtain ⟨sl, e1⟩ := a.slot c ob q n hc hx
    obtain ⟨sl', e2⟩ := b.slot c _ e1 (a.free c ob q n hx) hc hx
    exact ⟨sl', e2⟩
  free := fun c ob q n hx => by
    obtain ⟨o', e1⟩ := a.there c ob q hx
    exact b.free c o' e1 (a.free c ob q n hx) hx
  there := fun c ob q hx => by
    obtain ⟨o', e1⟩ := a.there c ob q hx
    exact b.there c o' e1 hx
  tups := fun c xs q => b.tups c xs (a.tups c xs q)
  frzs := fun c ob xs q => b.frzs c ob xs (a.frzs c ob xs q)
  tbls := fun c ps q => by
    obtain ⟨m1, e1⟩ := a.tbls c ps q
    obtain ⟨m2, e2⟩ := b.tbls c _ e1
    exact ⟨m1 ++ m2, by rw [e2, Array.append_assoc]⟩
theorem Un.kept (k : ∀ b u, h.get? b = some u → h'.get? b = some u) : Un fs ex H H h h' :=
  ⟨fun b ob q _ _ _ => k b ob q, fun b ob q _ _ _ => ⟨ob.slots, k b ob q⟩, fun _ _ _ n _ => n, fun b ob q _ => ⟨ob, k b ob q⟩, fun _ _ q => q, fun _ _ _ q => q, fun _ ps q => ⟨#[], by rw [q]; simp⟩⟩
theorem Un.refl : Un fs ex H H h h := Un.kept fun _ _ q => q
theorem Un.laid (k : ∀ b u, h.get? b = some u → h'.get? b = some u) (hp : h.objs.size ≤ a) (hn : H a = none) : Un fs ex H (upd H a o) h h' where
  keep := fun b u q _ _ _ => k b u q
  slot := fun b u q _ _ _ => ⟨u.slots, k b u q⟩
  free := fun b u q n _ => by rw [upd_ne (Nat.ne_of_lt (Nat.lt_of_lt_of_le (Heap.lt_size q) hp))]; exact n
  there := fun b u q _ => ⟨u, k b u q⟩
  tups := fun b xs q => by rw [upd_ne (ne_of_none q hn)]; exact q
  frzs := fun b u xs q => by rw [upd_ne (ne_of_none q hn)]; exact q
  tbls := fun b ps q => ⟨#[], by rw [upd_ne (ne_of_none q hn), q]; simp⟩
theorem Un.write (mu : Mut (H x)) (he : e = x ∨ H e = some (.own x)) (k : ∀ b u, b ≠ e → h.get? b = some u → h'.get? b = some u) (heo : ∃ u, h'.get? e = some u) : Un fs ex H (upd H x o) h h' := by
  have hx : ∀ b, H b = none → b ≠ x := fun b n z => by subst z; rw [n] at mu; exact mu
  have hb : ∀ b, H b = none → b ≠ e := fun b n z => by
    subst z
    rcases he with r | r
    · exact hx b n r
    · rw [n] at r; cases r
  have hm : ∀ b u, H b = some u → ¬ Mut (some u) → b ≠ x := fun b u q nm z => by subst z; rw [q] at mu; exact nm mu
  refine ⟨fun b u q n _ _ => k b u (hb b n) q, fun b u q n _ _ => ⟨u.slots, k b u (hb b n) q⟩, fun b u q n _ => by rw [upd_ne (hx b n)]; exact n, fun b u q _ => ?_,
    fun b xs q => by rw [upd_ne (hm b _ q fun z => z)]; exact q, fun b u xs q => by rw [upd_ne (hm b _ q fun z => z)]; exact q, fun b ps q => ⟨#[], by rw [upd_ne (hm b _ q fun z => z), q]; simp⟩⟩
  by_cases hbe : b = e
  · subst hbe; exact heo
  · exact ⟨u, k b u hbe q⟩
theorem Un.mono (u : Un fs ex H H1 h h1) (hs : ∀ b ∈ fs, b ∈ fs') (hx : ∀ b ∈ ex, b ∈ ex') : Un fs' ex' H H1 h h1 :=
  ⟨fun b ob q n hb he => u.keep b ob q n (fun z => hb (hs b z)) fun z => he (hx b z), fun _ _ q n _ he => u.any q n fun z => he (hx _ z), fun b ob q n he => u.free b ob q n fun z => he (hx b z), fun b ob q he => u.there b ob q fun z => he (hx b z), u.tups, u.frzs, u.tbls⟩
end

/-! ### the heap without what is tracked -/
def trk (h : Heap) (H : Hp) : List Addr := (List.range h.objs.size).filter fun a => (H a).isSome
def hidT (h : Heap) (H : Hp) : Heap := PySem.W.hideAll h (trk h H)
theorem hidT_size (h : Heap) (H : Hp) : (hidT h H).objs.size = h.objs.size := PySem.W.hideAll_size _ _
theorem hidT_get {h : Heap} {H : Hp} {b : Addr} {o : Obj} (e : h.get? b = some o) (n : H b = none) : (hidT h H).get? b = some o :=
  PySem.W.hideAll_get _ e fun hm => by
    have q : (H b).isSome = true := (List.mem_filter.mp hm).2
    rw [n] at q; simp at q
theorem of_hidT {h : Heap} {H : Hp} {b : Addr} {o : Obj} (e : (hidT h H).get? b = some o) : h.get? b = some o ∧ H b = none := by
  have e' : h.get? b = some o := PySem.W.of_hideAll (trk h H) e
  refine ⟨e', ?_⟩
  cases q : H b with
  | none => rfl
  | some x =>
    have hm : b ∈ trk h H := List.mem_filter.mpr ⟨List.mem_range.mpr (Heap.lt_size e'), by simp [q]⟩
    have z : (hidT h H).get? b = none := PySem.W.hideAll_none (trk h H) hm
    rw [z] at e; cases e

/-! ### OpenK's ledger, filled with every new object but one -/
def allNews (g h : Heap) (L : Addr) : List (Addr × Obj) := (List.range h.objs.size).filterMap fun a => if a = L ∨ (g.get? a).isSome = true then none else (h.get? a).map fun o => (a, o)
def rest (g h : Heap) (L d : Addr) : List (Addr × Obj) := (allNews g h L).filter fun p => decide (p.1 ≠ d)
end L2

namespace L2
open PySem PySem.Spec PyProof.Rows

/-- the module's facts, over the base: the heap at the law's entry without what is tracked there -/
structure Mod (K : PySem.W.Frag) (mg : Str → Option Value) (base : Heap) : Prop where
  kin : K.In base
  glob : base.Ns mainGlobals mg
  blt : ∃ mb, base.Ns builtinsNs mb ∧ ∀ x : Str, x ≠ "__name__" → mb x = bootBuiltins x
  nolimit : base.NoLimit

/-- the context: a def's body (or a comprehension's block) running. base: fixed through the whole law; s₀, H₀: the entry; outer: the frames whose slots others may change (a def's callers); stack: all frames that run;
   ex: iterators that were made ahead of the entry and are walked here (a comprehension's); fn: the names whose cells were made at the entry (a def: all; a comprehension's block: its own); calm: not within an except suite; pn: pins that every state bears; xe: what is wanted of an exception that leaves the code -/
structure Cx where
  prog : Program
  w : World
  K : PySem.W.Frag
  mg : Str → Option Value
  base : Heap
  A : Around
  N : List Str
  s_0 : Shared
  H_0 : Hp
  env : Env
  outer : List Env
  stack : List Env
  ex : List Addr
  fn : Str → Bool
  calm : Bool
  pn : List (Addr × Obj)
  xe : Value → Shared → Prop
/-- the callers' frames -/
def frs (l : List Env) : List Addr := l.filterMap (·.frame)
abbrev Cx.fs (X : Cx) : List Addr := frs X.outer

def Vis (sc : Scope) (x : Str) : Prop := sc.names.lookup x = some .local ∨ sc.names.lookup x = some .cell ∨ sc.names.lookup x = some .free
def Loc (sc : Scope) (x : Str) : Prop := sc.names.lookup x = some .local ∨ sc.names.lookup x = some .cell
def Look (env : Env) (h : Heap) (m : Str → Option Value) (x : Str) (u : Value) : Prop :=
  (env.kindOf x = some .local ∧ m x = some u) ∨ ((env.kindOf x = some .cell ∨ env.kindOf x = some .free) ∧ ∃ c, env.cells.lookup x = some c ∧ h.IsCell c (some u))

structure Cx.Ok (X : Cx) : Prop where
  mod : Mod X.K X.mg X.base
  kind : X.env.scope.kind = .function
  glob : X.env.globals = mainGlobals
  blt : X.env.builtins = builtinsNs
  above : X.s_0.heap.objs.size ≤ X.env.locals
  inj : ∀ x y c, X.env.cells.lookup x = some c → X.env.cells.lookup y = some c → x = y
  has : ∀ x, (X.env.kindOf x = some .cell ∨ X.env.kindOf x = some .free) → ∃ c, X.env.cells.lookup x = some c
  cab : ∀ x c, X.fn x = true → X.env.cells.lookup x = some c → X.s_0.heap.objs.size ≤ c
  hd : X.calm = true → X.A.handled = none
  frames : X.A.frames = some X.stack
  stk : X.stack = X.outer ∨ (X.stack = X.env :: X.outer ∧ X.env.frame = some X.env.locals)
  exf : ∀ b ∈ X.ex, b ≠ X.env.locals ∧ ∀ x c, X.env.cells.lookup x = some c → c ≠ b
  bs : ∀ b o, X.base.get? b = some o → X.s_0.heap.get? b = some o ∧ X.H_0 b = none
  bsz : X.base.objs.size ≤ X.s_0.heap.objs.size
  noex : ∀ b o, X.base.get? b = some o → b ∉ X.ex
  exfs : ∀ b ∈ X.ex, b ∉ X.fs
  funs : X.s_0.heap.FunFrames X.base X.outer
  frf : ∀ b ∈ X.fs, X.H_0 b = none

structure Inv (X : Cx) (pins : List (Addr × Obj)) (σ : List (Option V)) (H : Hp) (s : Shared) : Prop where
  ok : X.Ok
  os : s.os = X.s_0.os
  bare : AllBare s.gens
  base : Un X.fs X.ex X.H_0 H X.s_0.heap s.heap
  loc : ∃ m, s.heap.Ns X.env.locals m ∧ ∀ (i : Nat) (x : Str) (v : V), X.N[i]? = some x → σ[i]? = some (some v) → Vis X.env.scope x → ∃ u, RelV v u ∧ Look X.env s.heap m x u
  cell : ∀ x c, X.env.cells.lookup x = some c → ∃ v, s.heap.IsCell c v
  free : H X.env.locals = none
  freeC : ∀ x c, X.env.cells.lookup x = some c → H c = none
  pin : ∀ p ∈ X.pn ++ pins, s.heap.get? p.1 = some p.2 ∧ H p.1 = none ∧ p.1 ≠ X.env.locals ∧ p.1 ∉ X.fs ∧ ∀ v, p.2.data ≠ .cell v
  hok : HOk X.prog X.w H s.heap
  len : σ.length = X.N.length

section
variable {X : Cx} {pins : List (Addr × Obj)} {σ : List (Option V)} {H H' : Hp} {s : Shared} {h' : Heap}

theorem Cx.Ok.nofr (ok : X.Ok) {b : Addr} {o : Obj} (e : X.base.get? b = some o) : b ∉ X.fs := fun hb => by
  have := (ok.funs.mem hb).1
  rw [e] at this; cases this
theorem Inv.bs (I : Inv X pins σ H s) : ∀ b o, X.base.get? b = some o → s.heap.get? b = some o ∧ H b = none := fun b o e =>
  ⟨I.base.keep b o (I.ok.bs b o e).1 (I.ok.bs b o e).2 (I.ok.nofr e) (I.ok.noex b o e), I.base.free b o (I.ok.bs b o e).1 (I.ok.bs b o e).2 (I.ok.noex b o e)⟩
theorem Inv.bk (I : Inv X pins σ H s) : ∀ b o, X.base.get? b = some o → s.heap.get? b = some o := fun b o e => (I.bs b o e).1
theorem Inv.mod (I : Inv X pins σ H s) : Mod X.K X.mg X.base := I.ok.mod
theorem Inv.kIn (I : Inv X pins σ H s) : X.K.In s.heap := I.ok.mod.kin.keeps I.bk
theorem Inv.nolimit (I : Inv X pins σ H s) : s.heap.NoLimit := I.ok.mod.nolimit.keeps I.bk
/-- the frame over the base: for OpenK's rules (K.In X.base is I.mod.kin) -/
theorem Inv.fr (I : Inv X pins σ H s) : ∃ m, Fr X.base X.env.locals s.heap m :=
  let ⟨m, hn, _⟩ := I.loc
  ⟨m, hn, I.bk, Nat.le_trans I.ok.bsz I.ok.above⟩
theorem Inv.lt (I : Inv X pins σ H s) : X.env.locals < s.heap.objs.size := let ⟨_, hn, _⟩ := I.loc; hn.lt
theorem Inv.sz (I : Inv X pins σ H s) : X.s_0.heap.objs.size ≤ s.heap.objs.size := Nat.le_trans I.ok.above (Nat.le_of_lt I.lt)
theorem Inv.nofs (I : Inv X pins σ H s) {a : Addr} (h : s.heap.objs.size ≤ a) : a ∉ X.fs := fun hb => by
  obtain ⟨_, o, ho, _⟩ := I.ok.funs.mem hb
  exact absurd (Nat.lt_of_lt_of_le (Heap.lt_size ho) (Nat.le_trans I.sz h)) (Nat.lt_irrefl _)
theorem Inv.cne (I : Inv X pins σ H s) : ∀ x c, X.env.cells.lookup x = some c → c ≠ X.env.locals := fun x c e z => by
  obtain ⟨v, o, ho, hd⟩ := I.cell x c e
  obtain ⟨m, ⟨o', es, ep, ho', hd', _⟩, _⟩ := I.loc
  rw [z, ho'] at ho; cases ho; rw [hd'] at hd; cases hd
theorem Inv.funs (I : Inv X pins σ H s) : s.heap.FunFrames X.base X.outer := by
  have all : ∀ (l : List Env), (∀ b ∈ frs l, b ∈ X.fs) → X.s_0.heap.FunFrames X.base l → s.heap.FunFrames X.base l := by
    intro l
    induction l with
    | nil => intro _ _; trivial
    | cons env r ih =>
      intro hs hl
      obtain ⟨hk, ⟨L, o, hf, hn, ho, hd⟩, hr⟩ := hl
      have hL : L ∈ X.fs := hs L (by unfold frs; rw [List.filterMap_cons, hf]; exact List.mem_cons_self)
      obtain ⟨sl, e⟩ := I.base.slot L o ho (I.ok.frf L hL) hL fun z => I.ok.exfs L z hL
      exact ⟨hk, ⟨L, _, hf, hn, e, hd⟩, ih (fun b hb => hs b (by unfold frs; rw [List.filterMap_cons, hf]; exact List.mem_cons_of_mem _ hb)) hr⟩
  exact all X.outer (fun _ hb => hb) I.ok.funs

/-- the frames that run, for a call -/
theorem Inv.stack (I : Inv X pins σ H s) : s.heap.FunFrames X.base X.stack := by
  rcases I.ok.stk with e | ⟨e, hf⟩
  · rw [e]; exact I.funs
  · rw [e]
    obtain ⟨m, hn, _⟩ := I.loc
    refine .cons (by rw [I.ok.kind]; decide) hf hn ?_ I.funs
    exact Heap.get?_none_of_le (Nat.le_trans I.ok.bsz I.ok.above)
theorem Inv.stkSub (I : Inv X pins σ H s) : ∀ b ∈ frs X.stack, b ∈ X.env.locals :: X.fs := fun b hb => by
  rcases I.ok.stk with e | ⟨e, hf⟩
  · rw [e] at hb; exact List.mem_cons_of_mem _ hb
  · rw [e] at hb
    unfold frs at hb
    rw [List.filterMap_cons, hf] at hb
    exact hb
theorem Inv.stkFree (I : Inv X pins σ H s) : ∀ b ∈ frs X.stack, H b = none := fun b hb => by
  rcases List.mem_cons.mp (I.stkSub b hb) with e | hb
  · rw [e]; exact I.free
  · obtain ⟨_, o, ho, _⟩ := I.ok.funs.mem hb
    exact I.base.free b o ho (I.ok.frf b hb) fun z => I.ok.exfs b z hb

/-- THE STEP: the untracked objects but the frame and the records at ch are kept (the callers' frames up to slots), the frame's map is kept, the new abstract heap is held -/
theorem Inv.step {g' : Array GenState} {t' : Nat} {d' : Drawn} {ch : List Addr} (I : Inv X pins σ H s)
    (hch : ∀ b ∈ ch, (b ∈ X.ex ∨ X.s_0.heap.objs.size ≤ b) ∧ b ≠ X.env.locals ∧ (∀ x c, X.env.cells.lookup x = some c → c ≠ b) ∧ ∀ p ∈ X.pn ++ pins, p.1 ≠ b)
    (keep : ∀ b o, b ≠ X.env.locals → b ∉ X.fs → b ∉ ch → s.heap.get? b = some o → H b = none → h'.get? b = some o)
    (slot : ∀ b o, b ≠ X.env.locals → b ∈ X.fs → b ∉ ch → s.heap.get? b = some o → H b = none → ∃ sl, h'.get? b = some { o with slots := sl }) (free : ∀ b o, b ∉ ch → s.heap.get? b = some o → H b = none → H' b = none)
    (there : ∀ b o, b ∉ ch → s.heap.get? b = some o → ∃ o', h'.get? b = some o')
    (tups : ∀ b xs, H b = some (.tup xs) → H' b = some (.tup xs)) (frzs : ∀ b o u, H b = some (.frz o u) → H' b = some (.frz o u)) (tbls : ∀ b ps, H b = some (.tbl ps) → ∃ more, H' b = some (.tbl (ps ++ more)))
    (ns : ∀ m, s.heap.Ns X.env.locals m → h'.Ns X.env.locals m) (hok : HOk X.prog X.w H' h') (hg : AllBare g') :
    Inv X pins σ H' { s with heap := h', gens := g', drawn := d', toks := t' } := by
  have neL : ∀ b o, X.s_0.heap.get? b = some o → b ≠ X.env.locals := fun b o e => Nat.ne_of_lt (Nat.lt_of_lt_of_le (Heap.lt_size e) I.ok.above)
  have neC : ∀ b o, X.s_0.heap.get? b = some o → b ∉ X.ex → b ∉ ch := fun b o e hx hb => by
    rcases (hch b hb).1 with z | z
    · exact hx z
    · exact absurd (Nat.lt_of_lt_of_le (Heap.lt_size e) z) (Nat.lt_irrefl _)
  have cellK : ∀ x c, X.env.cells.lookup x = some c → ∀ v, s.heap.IsCell c v → h'.IsCell c v := fun x c e v ⟨o, ho, hd⟩ => by
    have nch : c ∉ ch := fun z => (hch c z).2.2.1 x c e rfl
    by_cases hc : c ∈ X.fs
    · obtain ⟨sl, q⟩ := slot c o (I.cne x c e) hc nch ho (I.freeC x c e)
      exact ⟨_, q, hd⟩
    · exact ⟨o, keep c o (I.cne x c e) hc nch ho (I.freeC x c e), hd⟩
  refine ⟨I.ok, I.os, hg, ⟨fun b o e n hb hx => ?_, fun b o e n hb hx => ?_, fun b o e n hx => ?_, fun b o e hx => ?_, fun b xs e => tups b xs (I.base.tups b xs e), fun b o xs e => frzs b o xs (I.base.frzs b o xs e), fun b ps e => ?_⟩, ?_, fun x c e => ?_, ?_, fun x c e => ?_, fun p hp => ?_, hok, I.len⟩
  · exact keep b o (neL b o e) hb (neC b o e hx) (I.base.keep b o e n hb hx) (I.base.free b o e n hx)
  · obtain ⟨sl, e1⟩ := I.base.slot b o e n hb hx
    obtain ⟨sl', e2⟩ := slot b _ (neL b o e) hb (neC b o e hx) e1 (I.base.free b o e n hx)
    exact ⟨sl', e2⟩
  · obtain ⟨o', e1⟩ := I.base.there b o e hx
    exact free b o' (neC b o e hx) e1 (I.base.free b o e n hx)
  · obtain ⟨o', e1⟩ := I.base.there b o e hx
    exact there b o' (neC b o e hx) e1
  · obtain ⟨m1, e1⟩ := I.base.tbls b ps e
    obtain ⟨m2, e2⟩ := tbls b _ e1
    exact ⟨m1 ++ m2, by rw [e2, Array.append_assoc]⟩
  · obtain ⟨m, hn, hl⟩ := I.loc
    refine ⟨m, ns m hn, fun i x v e1 e2 e3 => ?_⟩
    obtain ⟨u, r, l⟩ := hl i x v e1 e2 e3
    refine ⟨u, r, ?_⟩
    rcases l with l | ⟨k, c, e, z⟩
    · exact .inl l
    · exact .inr ⟨k, c, e, cellK x c e _ z⟩
  · obtain ⟨v, z⟩ := I.cell x c e
    exact ⟨v, cellK x c e v z⟩
  · obtain ⟨m, ⟨o, _, _, ho, _⟩, _⟩ := I.loc
    exact free _ o (fun z => (hch _ z).2.1 rfl) ho I.free
  · obtain ⟨v, o, ho, hd⟩ := I.cell x c e
    exact free c o (fun z => (hch c z).2.2.1 x c e rfl) ho (I.freeC x c e)
  · obtain ⟨e, n, ne, nf, d⟩ := I.pin p hp
    have nch : p.1 ∉ ch := fun z => (hch p.1 z).2.2.2 p hp rfl
    exact ⟨keep p.1 p.2 ne nf nch e n, free p.1 p.2 nch e n, ne, nf, d⟩
/-- .. where the frame's own object is kept too -/
theorem Inv.un {t' : Nat} (I : Inv X pins σ H s) (u : Un X.fs [] H H' s.heap h') (hok : HOk X.prog X.w H' h') : Inv X pins σ H' { s with heap := h', toks := t' } := by
  obtain ⟨m, ⟨o, es, ep, ho, r⟩, _⟩ := id I.loc
  obtain ⟨sl, hL⟩ := u.any ho I.free (by simp)
  exact I.step (g' := s.gens) (d' := s.drawn) (ch := []) (fun _ z => nomatch z) (fun b o _ hb _ e n => u.keep b o e n hb (by simp)) (fun b o _ hb _ e n => u.slot b o e n hb (by simp)) (fun b o _ e n => u.free b o e n (by simp)) (fun b o _ e => u.there b o e (by simp)) u.tups u.frzs u.tbls (fun m' hm => by
    obtain ⟨o', es', ep', ho', r'⟩ := hm
    rw [ho] at ho'; cases ho'
    exact ⟨_, es', ep', hL, r'⟩) hok I.bare
/-- behind a call (or a comprehension's block): the slots of this frame may have changed too, the records at ch may have turned -/
theorem Inv.call {g' : Array GenState} {t' : Nat} {d' : Drawn} {ch : List Addr} (I : Inv X pins σ H s) (u : Un (frs X.stack) ch H H' s.heap h') (hok : HOk X.prog X.w H' h') (hg : AllBare g')
    (hch : ∀ b ∈ ch, (b ∈ X.ex ∨ X.s_0.heap.objs.size ≤ b) ∧ b ≠ X.env.locals ∧ (∀ x c, X.env.cells.lookup x = some c → c ≠ b) ∧ ∀ p ∈ X.pn ++ pins, p.1 ≠ b) :
    Inv X pins σ H' { s with heap := h', gens := g', drawn := d', toks := t' } := by
  obtain ⟨m, ⟨o, es, ep, ho, r⟩, _⟩ := id I.loc
  obtain ⟨sl, hL⟩ := u.any ho I.free fun z => (hch _ z).2.1 rfl
  exact I.step (ch := ch) hch (fun b o hL hb hc e n => u.keep b o e n (fun z => (List.mem_cons.mp (I.stkSub b z)).elim hL hb) hc) (fun b o _ _ hc e n => u.any e n hc) (fun b o hc e n => u.free b o e n hc) (fun b o hc e => u.there b o e hc) u.tups u.frzs u.tbls (fun m' hm => by
    obtain ⟨o', es', ep', ho', r'⟩ := hm
    rw [ho] at ho'; cases ho'
    exact ⟨_, es', ep', hL, r'⟩) hok hg
/-- an untracked record of ours (an iterator) has turned -/
theorem Inv.turned {t' : Nat} {it : Addr} (I : Inv X pins σ H s) (k : ∀ b o, b ≠ it → s.heap.get? b = some o → h'.get? b = some o) (hn : H it = none) (hL : it ≠ X.env.locals)
    (h1 : it ∈ X.ex ∨ X.s_0.heap.objs.size ≤ it) (h2 : ∀ x c, X.env.cells.lookup x = some c → c ≠ it) (h3 : ∀ p ∈ X.pn ++ pins, p.1 ≠ it) : Inv X pins σ H { s with heap := h', toks := t' } := by
  have nit : ∀ b u, H b = some u → b ≠ it := fun b u e z => by rw [z, hn] at e; cases e
  refine I.step (g' := s.gens) (d' := s.drawn) (ch := [it]) (fun b hb => ?_) (fun b o _ _ hc e _ => k b o (fun z => hc (by simp [z])) e) (fun b o _ _ hc e _ => ⟨o.slots, k b o (fun z => hc (by simp [z])) e⟩) (fun _ _ _ _ n => n)
    (fun b o hc e => ⟨o, k b o (fun z => hc (by simp [z])) e⟩) (fun _ _ e => e) (fun _ _ _ e => e) (fun b ps e => ⟨#[], by rw [e]; simp⟩) (fun m hm => ?_) (fun b u e => ?_) I.bare
  · have e : b = it := by simpa using hb
    subst e
    exact ⟨h1, hL, h2, h3⟩
  · obtain ⟨o, es, ep, ho, r⟩ := hm
    exact ⟨o, es, ep, k _ o (Ne.symm hL) ho, r⟩
  · refine (I.hok b u e).stay (fun c v hc q => k c v ?_ q) (fun _ q => q) fun _ _ q => q
    rcases hc with z | z
    · rw [z]; exact nit b u e
    · exact nit c _ z
theorem Inv.tok (I : Inv X pins σ H s) (t : Nat) : Inv X pins σ H { s with toks := t } := I.un (h' := s.heap) (t' := t) Un.refl I.hok
/-- all objects kept -/
theorem Inv.kept {t' : Nat} (I : Inv X pins σ H s) (k : ∀ b u, s.heap.get? b = some u → h'.get? b = some u) : Inv X pins σ H { s with heap := h', toks := t' } := I.un (Un.kept k) (I.hok.kept k)
/-- a new object laid and tracked -/
theorem Inv.laid {a : Addr} {o : HO} {t' : Nat} (I : Inv X pins σ H s) (k : ∀ b u, s.heap.get? b = some u → h'.get? b = some u) (hp : s.heap.objs.size ≤ a) (new : ObjOk X.prog X.w (upd H a o) h' a o) :
    Inv X pins σ (upd H a o) { s with heap := h', toks := t' } := I.un (Un.laid k hp (I.hok.fresh hp)) (I.hok.laid k hp new)
/-- an object written -/
theorem Inv.write {x e : Addr} {o : HO} {t' : Nat} (I : Inv X pins σ H s) (mu : Mut (H x)) (he : e = x ∨ H e = some (.own x)) (k : ∀ b u, b ≠ e → s.heap.get? b = some u → h'.get? b = some u) (heo : ∃ u, h'.get? e = some u)
    (new : ObjOk X.prog X.w (upd H x o) h' x o) : Inv X pins σ (upd H x o) { s with heap := h', toks := t' } := I.un (Un.write mu he k heo) (I.hok.write mu he k heo new)
/-- forgetting slots, pins -/
theorem Inv.weak {σ' : List (Option V)} (I : Inv X pins σ H s) (hl : σ'.length = σ.length) (w : ∀ (i : Nat) v, σ'[i]? = some (some v) → σ[i]? = some (some v)) : Inv X pins σ' H s :=
  ⟨I.ok, I.os, I.bare, I.base, let ⟨m, hn, hl'⟩ := I.loc; ⟨m, hn, fun i x v e1 e2 e3 => hl' i x v e1 (w i v e2) e3⟩, I.cell, I.free, I.freeC, I.pin, I.hok, hl.trans I.len⟩
theorem Inv.pins_of {pins' : List (Addr × Obj)} (I : Inv X pins σ H s) (h : ∀ p ∈ pins', s.heap.get? p.1 = some p.2 ∧ H p.1 = none ∧ p.1 ≠ X.env.locals ∧ p.1 ∉ X.fs ∧ ∀ v, p.2.data ≠ .cell v) : Inv X pins' σ H s :=
  ⟨I.ok, I.os, I.bare, I.base, I.loc, I.cell, I.free, I.freeC, fun p hp => (List.mem_append.mp hp).elim (fun z => I.pin p (List.mem_append_left _ z)) (h p), I.hok, I.len⟩

theorem nodup_ix {N : List Str} (hN : N.Nodup) {i j : Nat} {x : Str} (a : N[i]? = some x) (b : N[j]? = some x) : i = j := by
  obtain ⟨h1, e1⟩ := List.getElem?_eq_some_iff.mp a
  obtain ⟨h2, e2⟩ := List.getElem?_eq_some_iff.mp b
  exact (List.getElem_inj hN).mp (e1.trans e2.symm)

/-- a name is stored; what changed -/
theorem store_ok2 {M : Model} {A : Around} {E : Value → Shared → Prop} {i : Nat} {x : Str} {v : V} {u : Value} {Q : Unit → Shared → Prop} (I : Inv X pins σ H s) (hN : X.N.Nodup) (hi : X.N[i]? = some x) (hx : Loc X.env.scope x) (r : RelV v u)
    (h : ∀ s', Inv X pins (σ.set i (some v)) H s' → (∃ a, Heap.SameBut a s.heap s'.heap ∧ (a = X.env.locals ∨ X.env.cells.lookup x = some a)) → Q () s') (hf : X.fn x = true ∨ X.env.scope.names.lookup x = some .local := by first | exact .inl rfl | exact .inr rfl | assumption) : wpAny M A (storeName X.env x u) Q E s := by
  obtain ⟨m, hn, hl⟩ := id I.loc
  have hcls : (X.env.scope.kind == .class || (X.env.scope.kind == .module && X.env.locals != X.env.globals)) = false := by rw [I.ok.kind]; rfl
  have hiσ : i < σ.length := by rw [I.len]; exact (List.getElem?_eq_some_iff.mp hi).1
  have cne := I.cne
  have tracked : ∀ {a : Addr} {h' : Heap}, (∃ o, s.heap.get? a = some o ∧ H a = none) → Heap.SameBut a s.heap h' → HOk X.prog X.w H h' := fun {a h'} ha hs b ob e => by
    obtain ⟨_, _, hfree⟩ := ha
    refine (I.hok b ob e).stay (fun c w' hc q => (hs.2 c ?_).trans q) (fun _ q => q) fun _ _ q => q
    rintro rfl
    rcases hc with rfl | hc
    · rw [hfree] at e; cases e
    · rw [hfree] at hc; cases hc
  rcases hx with hk | hk
  · refine wpAny_storeName_local hk hn (fun h' hn' hs => ?_) hcls
    obtain ⟨oL, _, _, hoL, _⟩ := id hn
    refine h _ ⟨I.ok, I.os, I.bare, ⟨fun b o e n hb hx => ?_, fun b o e n hb hx => ?_, I.base.free, fun b o e hx => ?_, I.base.tups, I.base.frzs, I.base.tbls⟩, ⟨_, hn', fun j y v' e1 e2 e3 => ?_⟩, fun y c e => ?_, I.free, I.freeC, fun p hp => ?_, tracked ⟨oL, hoL, I.free⟩ hs, by simpa using I.len⟩ ⟨_, hs, .inl rfl⟩
    · exact (hs.2 b (Nat.ne_of_lt (Nat.lt_of_lt_of_le (Heap.lt_size e) I.ok.above))).trans (I.base.keep b o e n hb hx)
    · obtain ⟨sl, e1⟩ := I.base.slot b o e n hb hx
      exact ⟨sl, (hs.2 b (Nat.ne_of_lt (Nat.lt_of_lt_of_le (Heap.lt_size e) I.ok.above))).trans e1⟩
    · obtain ⟨o', e1⟩ := I.base.there b o e hx
      exact ⟨o', (hs.2 b (Nat.ne_of_lt (Nat.lt_of_lt_of_le (Heap.lt_size e) I.ok.above))).trans e1⟩
    · by_cases hj : j = i
      · subst hj
        rw [hi] at e1; cases e1
        rw [List.getElem?_set_self hiσ] at e2
        cases e2
        exact ⟨u, r, .inl ⟨hk, by simp⟩⟩
      · rw [List.getElem?_set_ne (Ne.symm hj)] at e2
        obtain ⟨u', r', q⟩ := hl j y v' e1 e2 e3
        refine ⟨u', r', ?_⟩
        rcases q with ⟨k, e⟩ | ⟨k, c, e, z⟩
        · refine .inl ⟨k, ?_⟩
          have : y ≠ x := fun e => hj (nodup_ix hN e1 (e ▸ hi))
          simp [this, e]
        · exact .inr ⟨k, c, e, z.sameBut hs (cne y c e)⟩
    · obtain ⟨w', z⟩ := I.cell y c e
      exact ⟨w', z.sameBut hs (cne y c e)⟩
    · obtain ⟨e, n, ne, nf, d⟩ := I.pin p hp
      exact ⟨(hs.2 p.1 ne).trans e, n, ne, nf, d⟩
  · have hfn : X.fn x = true := by
      rcases hf with z | z
      · exact z
      · rw [z] at hk; cases hk
    obtain ⟨c, hc⟩ := I.ok.has x (.inl hk)
    obtain ⟨w', z⟩ := I.cell x c hc
    refine wpAny_storeName_cell I.ok.kind hk hc z (fun h' hc' hs => ?_)
    obtain ⟨oc, hoc, hocd⟩ := id z
    refine h { s with heap := h' } ⟨I.ok, I.os, I.bare, ⟨fun b o e n hb hx => ?_, fun b o e n hb hx => ?_, I.base.free, fun b o e hx => ?_, I.base.tups, I.base.frzs, I.base.tbls⟩, ⟨m, hn.sameBut hs (Ne.symm (cne x c hc)), fun j y v' e1 e2 e3 => ?_⟩, fun y c' e => ?_, I.free, I.freeC, fun p hp => ?_, tracked ⟨oc, hoc, I.freeC x c hc⟩ hs, by simpa using I.len⟩ ⟨c, hs, .inr hc⟩
    · exact (hs.2 b (Nat.ne_of_lt (Nat.lt_of_lt_of_le (Heap.lt_size e) (I.ok.cab x c hfn hc)))).trans (I.base.keep b o e n hb hx)
    · obtain ⟨sl, e1⟩ := I.base.slot b o e n hb hx
      exact ⟨sl, (hs.2 b (Nat.ne_of_lt (Nat.lt_of_lt_of_le (Heap.lt_size e) (I.ok.cab x c hfn hc)))).trans e1⟩
    · obtain ⟨o', e1⟩ := I.base.there b o e hx
      exact ⟨o', (hs.2 b (Nat.ne_of_lt (Nat.lt_of_lt_of_le (Heap.lt_size e) (I.ok.cab x c hfn hc)))).trans e1⟩
    · by_cases hj : j = i
      · subst hj
        rw [hi] at e1; cases e1
        rw [List.getElem?_set_self hiσ] at e2
        cases e2
        exact ⟨u, r, .inr ⟨.inl hk, c, hc, hc'⟩⟩
      · rw [List.getElem?_set_ne (Ne.symm hj)] at e2
        obtain ⟨u', r', q⟩ := hl j y v' e1 e2 e3
        refine ⟨u', r', ?_⟩
        rcases q with q | ⟨k, c', e, z'⟩
        · exact .inl q
        · refine .inr ⟨k, c', e, z'.sameBut hs ?_⟩
          rintro rfl
          exact hj (nodup_ix hN e1 (I.ok.inj _ _ _ e hc ▸ hi))
    · by_cases hcc : c' = c
      · subst hcc; exact ⟨_, hc'⟩
      · obtain ⟨w2, z2⟩ := I.cell y c' e
        exact ⟨w2, z2.sameBut hs hcc⟩
    · obtain ⟨e, n, ne, nf, d⟩ := I.pin p hp
      refine ⟨(hs.2 p.1 ?_).trans e, n, ne, nf, d⟩
      intro q
      rw [q, hoc] at e
      have q' : oc = p.2 := Option.some.inj e
      exact d w' (by rw [← q']; exact hocd)
theorem store_ok {M : Model} {A : Around} {E : Value → Shared → Prop} {i : Nat} {x : Str} {v : V} {u : Value} {Q : Unit → Shared → Prop} (I : Inv X pins σ H s) (hN : X.N.Nodup) (hi : X.N[i]? = some x) (hx : Loc X.env.scope x) (r : RelV v u)
    (h : ∀ s', Inv X pins (σ.set i (some v)) H s' → Q () s') (hf : X.fn x = true ∨ X.env.scope.names.lookup x = some .local := by first | exact .inl rfl | exact .inr rfl | assumption) : wpAny M A (storeName X.env x u) Q E s :=
  store_ok2 I hN hi hx r (fun s' I' _ => h s' I') hf
/-- behind a call or a block, the state as it is -/
theorem Inv.call' {s' : Shared} {ch : List Addr} (I : Inv X pins σ H s) (ho : s'.os = s.os) (u : Un (frs X.stack) ch H H' s.heap s'.heap) (hok : HOk X.prog X.w H' s'.heap) (hg : AllBare s'.gens)
    (hch : ∀ b ∈ ch, (b ∈ X.ex ∨ X.s_0.heap.objs.size ≤ b) ∧ b ≠ X.env.locals ∧ (∀ x c, X.env.cells.lookup x = some c → c ≠ b) ∧ ∀ p ∈ X.pn ++ pins, p.1 ≠ b) : Inv X pins σ H' s' := by
  obtain ⟨h', g', d', t', o'⟩ := s'
  have e : o' = s.os := ho
  subst e
  exact I.call (g' := g') (t' := t') (d' := d') u hok hg hch
end

/-! ### the judgements -/
/-- an exception: its class, its own dict's address (where it has one), the abstract heap behind it -/
abbrev XK := Value → Option Addr → Hp → Prop
abbrev St := List (Option V)
abbrev VK := V → Hp → Prop
/-- an expression's reading; a test's; an argument list's -/
abbrev TE := St → Hp → VK → Prop
abbrev TT := St → Hp → (Bool → Hp → Prop) → Prop
abbrev TA := St → Hp → (List V → Hp → Prop) → Prop
/-- what is wanted behind a statement -/
structure Ends where
  nx : St → Hp → Prop
  rt : VK
  bk : St → Hp → Prop := fun _ _ => False
  ct : St → Hp → Prop := fun _ _ => False
abbrev TS := Ends → St → Hp → Prop

def EP (X : Cx) (pins : List (Addr × Obj)) (σ : St) (Q : VK) (u : Value) (s' : Shared) : Prop := ∃ v H', Inv X pins σ H' s' ∧ RelV v u ∧ Q v H'
def TP (X : Cx) (pins : List (Addr × Obj)) (σ : St) (Q : Bool → Hp → Prop) (b : Bool) (s' : Shared) : Prop := ∃ H', Inv X pins σ H' s' ∧ Q b H'
def AP (X : Cx) (pins : List (Addr × Obj)) (σ : St) (Q : List V → Hp → Prop) (us : List Value) (s' : Shared) : Prop := ∃ vs H', Inv X pins σ H' s' ∧ Vals vs us ∧ Q vs H'
def SP (X : Cx) (pins : List (Addr × Obj)) (D : Ends) (f : Flow) (s' : Shared) : Prop :=
  match f with
  | .next => ∃ σ' H', Inv X pins σ' H' s' ∧ D.nx σ' H'
  | .brk => ∃ σ' H', Inv X pins σ' H' s' ∧ D.bk σ' H'
  | .cont => ∃ σ' H', Inv X pins σ' H' s' ∧ D.ct σ' H'
  | .ret u => ∃ v σ' H', Inv X pins σ' H' s' ∧ RelV v u ∧ D.rt v H'

def PE (X : Cx) (e : Expr) (t : TE) : Prop :=
  ∀ (pins : List (Addr × Obj)) (s : Shared) (σ : St) (H : Hp) (Q : VK), Inv X pins σ H s → t σ H Q → wpAny (model X.prog X.w) X.A (eval e X.env) (EP X pins σ Q) X.xe s
def PT (X : Cx) (e : Expr) (t : TT) : Prop :=
  ∀ (pins : List (Addr × Obj)) (s : Shared) (σ : St) (H : Hp) (Q : Bool → Hp → Prop), Inv X pins σ H s → t σ H Q → wpAny (model X.prog X.w) X.A (isTrue e X.env (eval e X.env)) (TP X pins σ Q) X.xe s
/-- a test whatever its 'whole' is (and, or) -/
def PW (X : Cx) (e : Expr) (t : TT) : Prop :=
  ∀ (whole : Sem Value) (pins : List (Addr × Obj)) (s : Shared) (σ : St) (H : Hp) (Q : Bool → Hp → Prop), Inv X pins σ H s → t σ H Q → wpAny (model X.prog X.w) X.A (isTrue e X.env whole) (TP X pins σ Q) X.xe s
theorem PW.pt {X : Cx} {e : Expr} {t : TT} (h : PW X e t) : PT X e t := h _
/-- an argument list (no star), from the left -/
def PA (X : Cx) (es : List Expr) (t : TA) : Prop :=
  ∀ (pos : Pos) (pins : List (Addr × Obj)) (s : Shared) (σ : St) (H : Hp) (Q : List V → Hp → Prop), Inv X pins σ H s → t σ H Q → wpAny (model X.prog X.w) X.A (spliced (backTo pos (starEach es X.env))) (AP X pins σ Q) X.xe s
def PS (X : Cx) (st : Stmt) (t : TS) : Prop :=
  ∀ (pins : List (Addr × Obj)) (s : Shared) (σ : St) (H : Hp) (D : Ends), Inv X pins σ H s → t D σ H → wpAny (model X.prog X.w) X.A (exec st X.env) (SP X pins D) X.xe s
def PSs (X : Cx) (st : List Stmt) (t : TS) : Prop :=
  ∀ (pins : List (Addr × Obj)) (s : Shared) (σ : St) (H : Hp) (D : Ends), Inv X pins σ H s → t D σ H → wpAny (model X.prog X.w) X.A (execs st X.env) (SP X pins D) X.xe s
/-- weaken the end -/
theorem thn {α : Type} {t : Sem α} {Q Q' : α → Shared → Prop} {M : Model} {A : Around} {E : Value → Shared → Prop} {s : Shared} (h : wpAny M A t Q E s) (hQ : ∀ a s, Q a s → Q' a s) : wpAny M A t Q' E s := wpAny_mono h hQ fun _ _ x => x
end L2

namespace L2
open PySem PySem.Spec PyProof.Rows
section
variable {X : Cx}

/-! ### names and constants -/
def tVar (i : Nat) : TE := fun σ H Q => ∃ v, σ[i]? = some (some v) ∧ Q v H
def tC (v : V) : TE := fun _ H Q => Q v H
theorem pe_var {i : Nat} {x : Str} {pos : Pos} (hN : X.N[i]? = some x) (hv : Vis X.env.scope x) (hd : (x == ("__debug__" : Str)) = false := by decide) (hcd : (x == ("__classdict__" : Str)) = false := by decide) : PE X (.Name x pos) (tVar i) := by
  intro pins s σ H Q I h
  obtain ⟨v, e, h⟩ := h
  obtain ⟨m, hn, hl⟩ := I.loc
  obtain ⟨u, r, l⟩ := hl i x v hN e hv
  have fin : EP X pins σ Q u s := ⟨v, H, I, r, h⟩
  rcases l with ⟨hk, hm⟩ | ⟨hk, c, hc, hcell⟩
  · exact wpAny_Name (wpAny_loadName_local I.ok.kind hk hn hm fin) hd
  · rcases hk with hk | hk
    · exact wpAny_Name (wpAny_loadName_cell I.ok.kind hk hc hcell fin) hd
    · exact wpAny_Name (wpAny_loadName_free I.ok.kind hk hc hcell fin hcd) hd
theorem pe_int {i j pos} : PE X (.Constant (.int i) j pos) (tC (.int i)) := fun _ _ _ H _ I h => wpAny_Constant_int ⟨.int i, H, I.tok _, ⟨_, rfl⟩, h⟩
theorem pe_bl {b j pos} : PE X (.Constant (.bool b) j pos) (tC (.bl b)) := fun _ _ _ H _ I h => Constant_bool ⟨.bl b, H, I, rfl, h⟩
theorem pe_non {j pos} : PE X (.Constant .none j pos) (tC .non) := fun _ _ _ H _ I h => Constant_none ⟨.non, H, I, rfl, h⟩
theorem pe_str {x j pos} : PE X (.Constant (.str x) j pos) (tC (.str x)) := fun _ _ _ H _ I h => Calls.Constant_str ⟨.str x, H, I.tok _, ⟨_, rfl⟩, h⟩

/-- a global name of the def -/
def Gl (X : Cx) (x : Str) : Prop := X.env.kindOf x = some .globalImplicit
theorem ld_glob {E : Value → Shared → Prop} {pins : List (Addr × Obj)} {s : Shared} {σ : St} {H : Hp} {x : Str} {u : Value} {pos : Pos} {Q : Value → Shared → Prop} (I : Inv X pins σ H s) (hg : Gl X x) (hm : X.mg x = some u) (h : Q u s)
    (hd : (x == ("__debug__" : Str)) = false := by decide) : wpAny (model X.prog X.w) X.A (eval (.Name x pos) X.env) Q E s :=
  Calls.Name_function_global I.ok.kind hg (Calls.loadGlobal_global (by rw [I.ok.glob]; exact I.mod.glob.keeps I.bk) hm h) hd
theorem ld_blt {E : Value → Shared → Prop} {pins : List (Addr × Obj)} {s : Shared} {σ : St} {H : Hp} {x : Str} {u : Value} {pos : Pos} {Q : Value → Shared → Prop} (I : Inv X pins σ H s) (hg : Gl X x) (hm : X.mg x = none) (hv : bootBuiltins x = some u) (h : Q u s)
    (hn : x ≠ "__name__" := by decide) (hd : (x == ("__debug__" : Str)) = false := by decide) : wpAny (model X.prog X.w) X.A (eval (.Name x pos) X.env) Q E s := by
  obtain ⟨mb, h1, h2⟩ := I.mod.blt
  exact Calls.Name_function_global I.ok.kind hg (Calls.loadGlobal_builtin (by rw [I.ok.glob]; exact I.mod.glob.keeps I.bk) hm (by rw [I.ok.blt]; exact h1.keeps I.bk) ((h2 x hn).trans hv) h) hd
theorem pe_bltn {x : Str} {v : V} {u : Value} {pos : Pos} (hg : Gl X x) (hm : X.mg x = none) (hv : bootBuiltins x = some u) (r : RelV v u) (hn : x ≠ "__name__" := by decide) (hd : (x == ("__debug__" : Str)) = false := by decide) : PE X (.Name x pos) (tC v) :=
  fun _ _ _ H _ I h => ld_blt I hg hm hv ⟨v, H, I, r, h⟩ hn hd

/-! ### arithmetic -/
/-- two ints -/
def t2I (ta tb : TE) (k : Int → Int → Hp → Prop) : St → Hp → Prop := fun σ H => ta σ H fun x H1 => tb σ H1 fun y H2 => ∃ i j, x = .int i ∧ y = .int j ∧ k i j H2
def tAdd (ta tb : TE) : TE := fun σ H Q => t2I ta tb (fun i j H2 => Q (.int (i + j)) H2) σ H
def tSub (ta tb : TE) : TE := fun σ H Q => t2I ta tb (fun i j H2 => Q (.int (i - j)) H2) σ H
/-- the left factor below 2^64 -/
def tMul (ta tb : TE) : TE := fun σ H Q => t2I ta tb (fun i j H2 => (-(2 ^ 64) < i ∧ i < 2 ^ 64) ∧ Q (.int (i * j)) H2) σ H
variable {a b : Expr} {ta tb : TE} {pos : Pos}
/-! ### comparisons -/
def PC (X : Cx) (op : CmpOp) (a b : Expr) (t : TE) : Prop :=
  ∀ (pins : List (Addr × Obj)) (s : Shared) (σ : St) (H : Hp) (Q : VK), Inv X pins σ H s → t σ H Q →
    wpAny (model X.prog X.w) X.A (eval a X.env) (fun v s₁ => wpAny (model X.prog X.w) X.A (eval b X.env) (fun u s₂ => wpAny (model X.prog X.w) X.A (compareOp op v u) (EP X pins σ Q) X.xe s₂) X.xe s₁) X.xe s
def tCmp (p : Int → Int → Bool) (ta tb : TE) : TE := fun σ H Q => t2I ta tb (fun i j H2 => Q (.bl (p i j)) H2) σ H
abbrev tLt : TE → TE → TE := tCmp fun i j => decide (i < j)
abbrev tLe : TE → TE → TE := tCmp fun i j => decide (i ≤ j)
abbrev tGt : TE → TE → TE := tCmp fun i j => decide (j < i)
abbrev tGe : TE → TE → TE := tCmp fun i j => decide (j ≤ i)
abbrev tEqI : TE → TE → TE := tCmp fun i j => decide (i = j)
abbrev tNeI : TE → TE → TE := tCmp fun i j => !decide (i = j)
/-- is None -/
def tIsN (ta : TE) : TE := fun σ H Q => ta σ H fun x H1 => Q (.bl (decide (x = .non))) H1
def tNotN (ta : TE) : TE := fun σ H Q => ta σ H fun x H1 => Q (.bl (!decide (x = .non))) H1
/-- a comparison as a value, as a test -/
def tB (t : TE) : TT := fun σ H Q => t σ H fun x H1 => ∃ c, x = .bl c ∧ Q c H1
/-- an expression whose value is a bool, as a test -/
theorem pt_val {e : Expr} {t : TE} (h : PE X e t) (he : ∀ whole, isTrue e X.env whole = (do let v ← whole; standAt e.pos; holding [v] (truthy v)) := by intro _; rfl) : PT X e (tB t) := by
  intro pins s σ H Q I hw
  refine isTrue_plain (thn (h pins s σ H _ I hw) fun v s1 ⟨x, H1, I1, r1, q1⟩ => ?_) (he _)
  obtain ⟨d, rfl, q⟩ := q1
  cases r1
  exact wpAny_truthy_bool ⟨H1, I1, q⟩

/-! ### and, or, not -/
variable {tA tB' : TT} {rest : List Expr}
def tAnd (t u : TT) : TT := fun σ H Q => t σ H fun c H1 => if c = true then u σ H1 Q else Q false H1
def tOr (t u : TT) : TT := fun σ H Q => t σ H fun c H1 => if c = true then Q true H1 else u σ H1 Q
def tNot (t : TT) : TT := fun σ H Q => t σ H fun c H1 => Q (!c) H1
theorem pw_and1 (ha : PT X a tA) : PW X (.BoolOp .And [a] pos) tA := by
  intro wh pins s σ H Q I h
  refine isTrue_and (thn (ha pins s σ H Q I h) fun c s1 e => ?_)
  cases c with
  | true => exact isTrue_and_nil e
  | false => exact e
theorem pw_or1 (ha : PT X a tA) : PW X (.BoolOp .Or [a] pos) tA := by
  intro wh pins s σ H Q I h
  refine isTrue_or (thn (ha pins s σ H Q I h) fun c s1 e => ?_)
  cases c with
  | false => exact isTrue_or_nil e
  | true => exact e
theorem pw_and (ha : PT X a tA) (hb : PW X (.BoolOp .And (b :: rest) pos) tB') : PW X (.BoolOp .And (a :: b :: rest) pos) (tAnd tA tB') := by
  intro wh pins s σ H Q I h
  refine isTrue_and (thn (ha pins s σ H _ I h) fun c s1 ⟨H1, I1, q1⟩ => ?_)
  cases c with
  | true => exact hb wh pins s1 σ H1 Q I1 q1
  | false => exact ⟨H1, I1, q1⟩
theorem pw_or (ha : PT X a tA) (hb : PW X (.BoolOp .Or (b :: rest) pos) tB') : PW X (.BoolOp .Or (a :: b :: rest) pos) (tOr tA tB') := by
  intro wh pins s σ H Q I h
  refine isTrue_or (thn (ha pins s σ H _ I h) fun c s1 ⟨H1, I1, q1⟩ => ?_)
  cases c with
  | true => exact ⟨H1, I1, q1⟩
  | false => exact hb wh pins s1 σ H1 Q I1 q1
theorem pt_not (ha : PT X a tA) : PT X (.UnaryOp .Not a pos) (tNot tA) := by
  intro pins s σ H Q I h
  exact isTrue_not (ha pins s σ H (fun c H1 => Q (!c) H1) I h)
/-- .. as values (bools) -/
def tAndV (ta tb : TE) : TE := fun σ H Q => ta σ H fun x H1 => ∃ c, x = .bl c ∧ if c = true then tb σ H1 Q else Q (.bl false) H1
def tOrV (ta tb : TE) : TE := fun σ H Q => ta σ H fun x H1 => ∃ c, x = .bl c ∧ if c = true then Q (.bl true) H1 else tb σ H1 Q
def tNotV (ta : TE) : TE := fun σ H Q => ta σ H fun x H1 => ∃ c, x = .bl c ∧ Q (.bl (!c)) H1
theorem pe_one {op} {t : TE} (h : PE X a t) : PE X (.BoolOp op [a] pos) t := fun pins s σ H Q I hw => BoolOp_one (h pins s σ H Q I hw)
theorem pe_and (ha : PE X a ta) (hb : PE X (.BoolOp .And (b :: rest) pos) tb) : PE X (.BoolOp .And (a :: b :: rest) pos) (tAndV ta tb) := by
  intro pins s σ H Q I h
  refine BoolOp_and (thn (ha pins s σ H _ I h) fun v s1 ⟨x, H1, I1, r1, q1⟩ => ?_)
  obtain ⟨c, rfl, q1⟩ := q1
  cases r1
  refine wpAny_truthy_bool ?_
  cases c with
  | true => exact hb pins s1 σ H1 Q I1 q1
  | false => exact ⟨.bl false, H1, I1, rfl, q1⟩
theorem pe_or (ha : PE X a ta) (hb : PE X (.BoolOp .Or (b :: rest) pos) tb) : PE X (.BoolOp .Or (a :: b :: rest) pos) (tOrV ta tb) := by
  intro pins s σ H Q I h
  refine BoolOp_or (thn (ha pins s σ H _ I h) fun v s1 ⟨x, H1, I1, r1, q1⟩ => ?_)
  obtain ⟨c, rfl, q1⟩ := q1
  cases r1
  refine wpAny_truthy_bool ?_
  cases c with
  | false => exact hb pins s1 σ H1 Q I1 q1
  | true => exact ⟨.bl true, H1, I1, rfl, q1⟩
theorem pe_not (ha : PE X a ta) : PE X (.UnaryOp .Not a pos) (tNotV ta) := by
  intro pins s σ H Q I h
  refine UnaryOp_ (thn (ha pins s σ H _ I h) fun v s1 ⟨x, H1, I1, r1, q1⟩ => ?_)
  obtain ⟨c, rfl, q1⟩ := q1
  cases r1
  exact not_of (wpAny_truthy_bool ⟨.bl (!c), H1, I1, rfl, q1⟩)
/-- a if t else b -/
def tIf (t : TT) (ta tb : TE) : TE := fun σ H Q => t σ H fun c H1 => if c = true then ta σ H1 Q else tb σ H1 Q
theorem pe_ifExp {c : Expr} (hc : PT X c tA) (ha : PE X a ta) (hb : PE X b tb) : PE X (.IfExp c a b pos) (tIf tA ta tb) := by
  intro pins s σ H Q I h
  refine wpAny_IfExp (thn (hc pins s σ H _ I h) fun d s1 ⟨H1, I1, q1⟩ => ?_)
  cases d with
  | true => exact ha pins s1 σ H1 Q I1 q1
  | false => exact hb pins s1 σ H1 Q I1 q1
end
end L2

namespace L2
open PySem PySem.Spec PyProof.Rows

/-! ### a list, a tuple that is read: tracked, frozen, or an object of the module -/
def SqL (K : PySem.W.Frag) (H : Hp) (a : Addr) (xs : List V) : Prop :=
  Rd H a (.lst xs) ∨
    ∃ (o : Obj) (its : Array Value) (n : Nat), K.lookup a = some o ∧ o.cls = .type "list" ∧ o.dict = none ∧ o.data = .seq its n ∧ its.size ≤ sizeLine ∧ Vals xs its.toList
def SqT (K : PySem.W.Frag) (H : Hp) (a : Addr) (xs : List V) : Prop :=
  Rd H a (.tup xs) ∨
    ∃ (o : Obj) (its : Array Value) (n : Nat), K.lookup a = some o ∧ o.cls = .type "tuple" ∧ o.data = .seq its n ∧ its.size ≤ sizeLine ∧ Vals xs its.toList
def absV : Value → Option V
  | .none => some .non
  | .bool b => some (.bl b)
  | .int i _ => some (.int i)
  | .str x _ => some (.str x)
  | .bytes b _ => some (.byt b)
  | .float b _ => some (.flt b)
  | .ref a => some (.ref a)
  | .type n => some (.ty n)
  | _ => none
theorem RelV.abs {x : V} {u : Value} (r : RelV x u) : absV u = some x := by
  cases x with
  | non => cases r; rfl
  | bl _ => cases r; rfl
  | int _ => obtain ⟨t, rfl⟩ := r; rfl
  | str _ => obtain ⟨t, rfl⟩ := r; rfl
  | byt _ => obtain ⟨t, rfl⟩ := r; rfl
  | flt _ => obtain ⟨t, rfl⟩ := r; rfl
  | ref _ => cases r; rfl
  | ty _ => cases r; rfl
theorem RelV.inj {x y : V} {u : Value} (r : RelV x u) (q : RelV y u) : x = y := Option.some.inj (r.abs.symm.trans q.abs)
theorem Vals.inj : ∀ {xs ys : List V} {us : List Value}, Vals xs us → Vals ys us → xs = ys
  | _, _, _, .nil, .nil => rfl
  | _, _, _, .cons r t, .cons r' t' => by rw [r.inj r', Vals.inj t t']
section
variable {X : Cx} {pins : List (Addr × Obj)} {σ : St} {H : Hp} {s : Shared} {a : Addr} {xs ys : List V}
theorem SqL.of {K : PySem.W.Frag} (h : H a = some (.lst xs)) : SqL K H a xs := .inl (.inl h)
theorem SqT.of {K : PySem.W.Frag} (h : H a = some (.tup xs)) : SqT K H a xs := .inl (.inl h)
theorem Inv.list (I : Inv X pins σ H s) (h : SqL X.K H a xs) : ∃ its : List Value, Vals xs its ∧ PlainL s.heap a its.toArray ∧ xs.length ≤ sizeLine := by
  rcases h with h | ⟨o, its, n, hk, hc, hd, hs, hz, r⟩
  · obtain ⟨z, its, n, r, e⟩ := h.ok I.hok
    exact ⟨its, r, ⟨_, n, e, rfl, rfl, rfl⟩, z⟩
  · refine ⟨its.toList, r, ⟨o, n, I.kIn a o hk, hc, hd, by simpa using hs⟩, ?_⟩
    have e := r.length
    simp only [Array.length_toList] at e
    omega
theorem Inv.tuple (I : Inv X pins σ H s) (h : SqT X.K H a xs) : ∃ its : List Value, Vals xs its ∧ IsTup s.heap a its.toArray ∧ xs.length ≤ sizeLine := by
  rcases h with h | ⟨o, its, n, hk, hc, hs, hz, r⟩
  · obtain ⟨z, its, r, p⟩ := h.ok I.hok
    exact ⟨its, r, p, z⟩
  · refine ⟨its.toList, r, ⟨o, I.kIn a o hk, hc, n, by simpa using hs⟩, ?_⟩
    have e := r.length
    simp only [Array.length_toList] at e
    omega
theorem Inv.list_inj (I : Inv X pins σ H s) (h : SqL X.K H a xs) (h' : SqL X.K H a ys) : xs = ys := by
  obtain ⟨its, r, ⟨o, n, e, _, _, d⟩, _⟩ := I.list h
  obtain ⟨its', r', ⟨o', n', e', _, _, d'⟩, _⟩ := I.list h'
  rw [e] at e'; cases e'
  rw [d] at d'
  injection d' with d1 _
  have : its = its' := by simpa using congrArg Array.toList d1
  subst this
  exact r.inj r'
theorem Inv.tuple_inj (I : Inv X pins σ H s) (h : SqT X.K H a xs) (h' : SqT X.K H a ys) : xs = ys := by
  obtain ⟨its, r, ⟨o, e, _, n, d⟩, _⟩ := I.tuple h
  obtain ⟨its', r', ⟨o', e', _, n', d'⟩, _⟩ := I.tuple h'
  rw [e] at e'; cases e'
  rw [d] at d'
  injection d' with d1 _
  have : its = its' := by simpa using congrArg Array.toList d1
  subst this
  exact r.inj r'
end

/-! ### another wish about exceptions -/
abbrev Cx.wish (X : Cx) (E : Value → Shared → Prop) : Cx := { X with xe := E }
/-- no exception leaves -/
abbrev Cx.nox (X : Cx) : Cx := X.wish fun _ _ => False
theorem Cx.Ok.wish {X : Cx} (ok : X.Ok) (E : Value → Shared → Prop) : (X.wish E).Ok :=
  ⟨ok.mod, ok.kind, ok.glob, ok.blt, ok.above, ok.inj, ok.has, ok.cab, ok.hd, ok.frames, ok.stk, ok.exf, ok.bs, ok.bsz, ok.noex, ok.exfs, ok.funs, ok.frf⟩
theorem Cx.Ok.unwish {X : Cx} {E : Value → Shared → Prop} (ok : (X.wish E).Ok) : X.Ok :=
  ⟨ok.mod, ok.kind, ok.glob, ok.blt, ok.above, ok.inj, ok.has, ok.cab, ok.hd, ok.frames, ok.stk, ok.exf, ok.bs, ok.bsz, ok.noex, ok.exfs, ok.funs, ok.frf⟩
section
variable {X : Cx} {pins : List (Addr × Obj)} {σ : St} {H : Hp} {s : Shared} {E : Value → Shared → Prop}
theorem Inv.wish (I : Inv X pins σ H s) (E : Value → Shared → Prop) : Inv (X.wish E) pins σ H s := ⟨I.ok.wish E, I.os, I.bare, I.base, I.loc, I.cell, I.free, I.freeC, I.pin, I.hok, I.len⟩
theorem Inv.unwish (I : Inv (X.wish E) pins σ H s) : Inv X pins σ H s := ⟨I.ok.unwish, I.os, I.bare, I.base, I.loc, I.cell, I.free, I.freeC, I.pin, I.hok, I.len⟩
theorem SP.unwish {D : Ends} {f : Flow} {s' : Shared} (h : SP (X.wish E) pins D f s') : SP X pins D f s' := by
  cases f with
  | next => obtain ⟨σ', H', I, q⟩ := h; exact ⟨σ', H', I.unwish, q⟩
  | brk => obtain ⟨σ', H', I, q⟩ := h; exact ⟨σ', H', I.unwish, q⟩
  | cont => obtain ⟨σ', H', I, q⟩ := h; exact ⟨σ', H', I.unwish, q⟩
  | ret u => obtain ⟨v, σ', H', I, r, q⟩ := h; exact ⟨v, σ', H', I.unwish, r, q⟩
theorem PE.nox {e : Expr} {t : TE} (h : PE X.nox e t) : PE X e t := fun pins s σ H Q I hw =>
  wpAny_mono (h pins s σ H Q (I.wish _) hw) (fun _ _ ⟨v, H', I', r, q⟩ => ⟨v, H', I'.unwish, r, q⟩) fun _ _ z => False.elim z
theorem PT.nox {e : Expr} {t : TT} (h : PT X.nox e t) : PT X e t := fun pins s σ H Q I hw =>
  wpAny_mono (h pins s σ H Q (I.wish _) hw) (fun _ _ ⟨H', I', q⟩ => ⟨H', I'.unwish, q⟩) fun _ _ z => False.elim z
theorem PSs.nox {st : List Stmt} {t : TS} (h : PSs X.nox st t) : PSs X st t := fun pins s σ H D I hw =>
  wpAny_mono (h pins s σ H D (I.wish _) hw) (fun _ _ q => q.unwish) fun _ _ z => False.elim z
end

/-! ### blocks and small statements -/
section
variable {X : Cx} {st : Stmt} {rest : List Stmt} {t u : TS} {e : Expr} {te : TE} {pos : Pos}
def tNext : TS := fun D σ H => D.nx σ H
def tSeq (t u : TS) : TS := fun D σ H => t { D with nx := u D } σ H
theorem pss_nil : PSs X [] tNext := fun _ _ σ H _ I h => wpAny_execs_nil ⟨σ, H, I, h⟩
theorem pss_cons (h1 : PS X st t) (h2 : PSs X rest u) : PSs X (st :: rest) (tSeq t u) := by
  intro pins s σ H D I h
  refine wpAny_execs_cons (thn (h1 pins s σ H { D with nx := u D } I h) fun f s1 q => ?_)
  cases f with
  | next =>
    obtain ⟨σ', H', I', q⟩ := q
    exact h2 pins s1 σ' H' D I' q
  | ret v => exact q
  | brk => exact q
  | cont => exact q
theorem pss_one (h1 : PS X st t) : PSs X [st] t := by
  intro pins s σ H D I h
  refine wpAny_execs_cons (thn (h1 pins s σ H D I h) fun f s1 q => ?_)
  cases f with
  | next => exact wpAny_execs_nil q
  | ret v => exact q
  | brk => exact q
  | cont => exact q
def tBreak : TS := fun D σ H => D.bk σ H
def tCont : TS := fun D σ H => D.ct σ H
/-- in a def's body nothing is shown -/
theorem Inv.quiet {pins : List (Addr × Obj)} {σ : St} {H : Hp} {s : Shared} (I : Inv X pins σ H s) : interactive X.env = false := by simp [interactive, I.ok.kind]
/-- an expression whose value is dropped -/
def tDrop (te : TE) : TS := fun D σ H => te σ H fun _ H1 => D.nx σ H1
theorem ps_expr (he : PE X e te) (hs : swapsWith e none pos.line X.env = pure false := by rfl) : PS X (.Expr e pos) (tDrop te) := by
  intro pins s σ H D I h
  exact wpAny_Expr_any (thn (he pins s σ H _ I h) fun v s1 ⟨x, H1, I1, r1, q1⟩ => ⟨σ, H1, I1, q1⟩) I.quiet hs
def tRet (te : TE) : TS := fun D σ H => te σ H D.rt
theorem ps_ret (he : PE X e te) : PS X (.Return (some e) pos) (tRet te) := by
  intro pins s σ H D I h
  exact wpAny_Return_some (thn (he pins s σ H _ I h) fun v s1 ⟨x, H1, I1, r1, q1⟩ => ⟨x, σ, H1, I1, r1, q1⟩)
def tRetN : TS := fun D _ H => D.rt .non H
def tIfS (c : TT) (t u : TS) : TS := fun D σ H => c σ H fun b H1 => if b = true then t D σ H1 else u D σ H1
theorem ps_if {c : Expr} {a b : List Stmt} {tc : TT} (hc : PT X c tc) (ha : PSs X a t) (hb : PSs X b u) : PS X (.If c a b pos) (tIfS tc t u) := by
  intro pins s σ H D I h
  refine wpAny_If (thn (hc pins s σ H _ I h) fun d s1 ⟨H1, I1, q1⟩ => ?_)
  cases d with
  | true => exact ha pins s1 σ H1 D I1 q1
  | false => exact hb pins s1 σ H1 D I1 q1
/-- code that the proof never comes to -/
def tNever : TS := fun _ _ _ => False
theorem ps_never : PS X st tNever := fun _ _ _ _ _ _ h => h.elim
theorem pss_never {sts : List Stmt} : PSs X sts tNever := fun _ _ _ _ _ _ h => h.elim
end

/-! ### targets -/
abbrev TG := V → St → Hp → (St → Hp → Prop) → Prop
abbrev TGs := List V → St → Hp → (St → Hp → Prop) → Prop
def PG (X : Cx) (target : Expr) (t : TG) : Prop :=
  ∀ (pins : List (Addr × Obj)) (s : Shared) (σ : St) (H : Hp) (v : V) (u : Value) (Q : St → Hp → Prop), Inv X pins σ H s → RelV v u → t v σ H Q →
    wpAny (model X.prog X.w) X.A (assign target X.env u) (fun _ s' => ∃ σ' H', Inv X pins σ' H' s' ∧ Q σ' H') X.xe s
/-- several targets, one after another -/
def PGs (X : Cx) (ts : List Expr) (t : TGs) : Prop :=
  ∀ (pins : List (Addr × Obj)) (s : Shared) (σ : St) (H : Hp) (vs : List V) (us : List Value) (Q : St → Hp → Prop), Inv X pins σ H s → Vals vs us → t vs σ H Q →
    wpAny (model X.prog X.w) X.A (assignInOrder ((assignEach ts X.env).map (·.2)) us) (fun _ s' => ∃ σ' H', Inv X pins σ' H' s' ∧ Q σ' H') X.xe s
/-- o[i] = v, by values -/
abbrev TSet := V → V → V → Hp → (Hp → Prop) → Prop
def PSet (X : Cx) (t : TSet) : Prop :=
  ∀ (pins : List (Addr × Obj)) (s : Shared) (σ : St) (H : Hp) (o i v : V) (ov iv u : Value) (Q : Hp → Prop), Inv X pins σ H s → RelV o ov → RelV i iv → RelV v u → t o i v H Q →
    wpAny (model X.prog X.w) X.A (setItem ov iv u) (fun _ s' => ∃ H', Inv X pins σ H' s' ∧ Q H') X.xe s
/-- a op= b, by values -/
abbrev TIp := V → V → Hp → VK → Prop
def PIp (X : Cx) (op : Operator) (t : TIp) : Prop :=
  ∀ (pins : List (Addr × Obj)) (s : Shared) (σ : St) (H : Hp) (x y : V) (v u : Value) (Q : VK), Inv X pins σ H s → RelV x v → RelV y u → t x y H Q →
    wpAny (model X.prog X.w) X.A (inplaceOp op v u) (EP X pins σ Q) X.xe s
section
variable {X : Cx} {pos : Pos}
def gName (i : Nat) : TG := fun v σ H Q => Q (σ.set i (some v)) H
theorem pg_name {i : Nat} {x : Str} (hN : X.N.Nodup) (hi : X.N[i]? = some x) (hx : Loc X.env.scope x) (hf : X.fn x = true ∨ X.env.scope.names.lookup x = some .local := by first | exact .inl rfl | exact .inr rfl | assumption) : PG X (.Name x pos) (gName i) := by
  intro pins s σ H v u Q I r h
  exact wpAny_assign_Name (store_ok I hN hi hx r (fun s' I' => ⟨_, H, I', h⟩) hf)
def gNil : TGs := fun vs σ H Q => vs = [] ∧ Q σ H
def gCons (t : TG) (u : TGs) : TGs := fun vs σ H Q => ∃ v r, vs = v :: r ∧ t v σ H fun σ' H' => u r σ' H' Q
theorem pgs_nil : PGs X [] gNil := by
  intro pins s σ H vs us Q I r h
  obtain ⟨e, h⟩ := h
  subst e
  cases r
  exact assignInOrder_nil ⟨σ, H, I, h⟩
theorem pgs_cons {e : Expr} {es : List Expr} {t : TG} {u : TGs} (h1 : PG X e t) (h2 : PGs X es u)
    (hs : (assignEach (e :: es) X.env).map (·.2) = assign e X.env :: (assignEach es X.env).map (·.2) := by rfl) : PGs X (e :: es) (gCons t u) := by
  intro pins s σ H vs us Q I r h
  obtain ⟨v, vr, e1, h⟩ := h
  subst e1
  cases r with
  | cons r rr =>
    rw [hs]
    refine assignInOrder_cons (thn (h1 pins s σ H _ _ _ I r h) fun _ s1 ⟨σ1, H1, I1, q1⟩ => ?_)
    exact h2 pins s1 σ1 H1 _ _ Q I1 rr q1
/-- (a, b, ..) = a tuple of that length -/
def gTup (K : PySem.W.Frag) (n : Nat) (t : TGs) : TG := fun v σ H Q => ∃ a xs, v = .ref a ∧ SqT K H a xs ∧ xs.length = n ∧ t xs σ H Q
theorem pg_tup {es : List Expr} {k : Nat} {t : TGs} {n : Nat} (hc : X.calm = true) (h : PGs X es t)
    (hn : (assignEach es X.env).length = n := by rfl) (hst : (assignEach es X.env).findIdx? (·.1) = none := by rfl) : PG X (.Tuple es k pos) (gTup X.K n t) := by
  intro pins s σ H v u Q I r hw
  obtain ⟨a, xs, e1, hq, hl, hw⟩ := hw
  subst e1
  cases r
  obtain ⟨its, rv, ht, hz⟩ := I.tuple hq
  refine assign_Tuple_tuple (I.ok.hd hc) ht (by simp [hn, ← hl, rv.length]) hst fun h' hx => ?_
  have I1 : Inv X pins σ H { s with heap := h' } := I.kept (t' := s.toks) fun b o e => hx b o (Nat.ne_of_lt (Heap.lt_size e)) e
  exact h pins _ σ H xs _ Q I1 (by simpa using rv) hw
/-- o[i] = .. -/
def gSub (to ti : TE) (t : TSet) : TG := fun v σ H Q => to σ H fun o H1 => ti σ H1 fun i H2 => t o i v H2 fun H3 => Q σ H3
theorem pg_sub {o i : Expr} {to ti : TE} {t : TSet} (ho : PE X o to) (hi : PE X i ti) (hs : PSet X t)
    (ha : ∀ v, assign (.Subscript o i pos) X.env v = (do
      let ov ← holding [v] (eval o X.env)
      let iv ← holding [v, ov] (eval i X.env)
      standAt pos
      holding [v, ov, iv] (setItem ov iv v)
      release [v, ov, iv] []) := by intro _; rfl) : PG X (.Subscript o i pos) (gSub to ti t) := by
  intro pins s σ H v u Q I r h
  rw [ha]
  refine wpAny_bind (wpAny_holding (thn (ho pins s σ H _ I h) fun ov s1 ⟨x, H1, I1, r1, q1⟩ => ?_))
  refine wpAny_bind (wpAny_holding (thn (hi pins s1 σ H1 _ I1 q1) fun iv s2 ⟨y, H2, I2, r2, q2⟩ => ?_))
  refine wpAny_bind (wpAny_standAt (wpAny_bind (wpAny_holding (thn (hs pins s2 σ H2 x y v ov iv u _ I2 r1 r2 r q2) fun _ s3 ⟨H3, I3, q3⟩ => ?_))))
  exact wpAny_release ⟨σ, H3, I3, q3⟩
/-- target = value -/
def tAsg (te : TE) (g : TG) : TS := fun D σ H => te σ H fun x H1 => g x σ H1 D.nx
theorem ps_asg {tg e : Expr} {te : TE} {g : TG} (he : PE X e te) (hg : PG X tg g) (hs : swapsWithSole [tg] e pos.line X.env = pure false := by rfl) (hw : swappedStores [tg] e X.env = pure none := by rfl)
    (h1 : (assignEach [tg] X.env).map (·.2) = [assign tg X.env] := by rfl) : PS X (.Assign [tg] e pos) (tAsg te g) := by
  intro pins s σ H D I h
  refine wpAny_Assign_stores (thn (he pins s σ H _ I h) fun v s1 ⟨x, H1, I1, r1, q1⟩ => ?_) hs hw
  rw [h1]
  exact thn (hg pins s1 σ H1 x v _ I1 r1 q1) fun _ s2 q => q
/-- name = value -/
theorem ps_set {i : Nat} {x : Str} {e : Expr} {te : TE} {pos' : Pos} (hN : X.N.Nodup) (hi : X.N[i]? = some x) (hx : Loc X.env.scope x) (he : PE X e te) (hs : swapsWith e (some (.Name x pos')) pos.line X.env = pure false := by rfl) (hf : X.fn x = true ∨ X.env.scope.names.lookup x = some .local := by first | exact .inl rfl | exact .inr rfl | assumption) :
    PS X (.Assign [.Name x pos'] e pos) (tAsg te (gName i)) := by
  intro pins s σ H D I h
  refine wpAny_Assign_Name (thn (he pins s σ H _ I h) fun v s1 ⟨y, H1, I1, r1, q1⟩ => ?_) hs
  exact store_ok I1 hN hi hx r1 (fun s2 I2 => ⟨_, H1, I2, q1⟩) hf
/-- a, b = x, y with plain local names: stored from the right; the pair itself is not tracked (the opening rows as in PyProof/Rows/TupAssign.lean:23) -/
def tPar (i j : Nat) (ta : TA) : TS := fun D σ H => ta σ H fun vs H1 => ∃ v w, vs = [v, w] ∧ D.nx ((σ.set i (some v)).set j (some w)) H1
theorem ps_par {i j : Nat} {x y : Str} {a b : Expr} {ta : TA} {px py pt : Pos} {kt k2 pt2} (hc : X.calm = true) (hN : X.N.Nodup) (hi : X.N[i]? = some x) (hj : X.N[j]? = some y) (hij : i ≠ j)
    (hx : X.env.scope.names.lookup x = some .local) (hy : X.env.scope.names.lookup y = some .local) (ha : PA X [a, b] ta)
    (hw : swappedStores [.Tuple [.Name x px, .Name y py] kt pt] (.Tuple [a, b] k2 pt2) X.env = pure (some [x, y]))
    (hs : swapsWithSole [.Tuple [.Name x px, .Name y py] kt pt] (.Tuple [a, b] k2 pt2) pos.line X.env = pure false := by rfl) :
    PS X (.Assign [.Tuple [.Name x px, .Name y py] kt pt] (.Tuple [a, b] k2 pt2) pos) (tPar i j ta) := by
  intro pins s σ H D I h
  rw [exec_Assign_arm]
  refine wpAny_bind (wpAny_standAt ?_)
  rw [hs]
  refine wpAny_bind (wpAny_pure ?_)
  rw [if_neg (by decide)]
  refine wpAny_bind (Tuple_ (thn (ha _ pins s σ H _ I h) fun us s1 ⟨vs, H1, I1, r1, q1⟩ => ?_))
  obtain ⟨v, w, e1, q1⟩ := q1
  subst e1
  obtain ⟨u1, u2, rfl, rv, rw'⟩ : ∃ u1 u2, us = [u1, u2] ∧ RelV v u1 ∧ RelV w u2 := by
    cases r1 with
    | cons p q =>
      cases q with
      | cons p' q' =>
        cases q'
        exact ⟨_, _, rfl, p, p'⟩
  refine wpAny_newObj_type ?_ (by show 2 ≤ sizeLine; decide)
  have I2 : Inv X pins σ H1 { s1 with heap := s1.heap.push { cls := .type "tuple", data := .seq [u1, u2].toArray } } := I1.kept (t' := s1.toks) fun b o e => Heap.get?_push_of_some _ e
  rw [hw]
  refine wpAny_bind (wpAny_pure ?_)
  show wpAny (model X.prog X.w) X.A (do rule "assign.swapped-stores"; let items ← unpackItems (.ref s1.heap.objs.size) 2 none; assignInOrder [fun v => bindName X.env y v, fun v => bindName X.env x v] items.reverse; pure Flow.next) _ _ _
  refine wpAny_bind (wpAny_rule (wpAny_bind (unpackItems_tuple (items := #[u1, u2]) (I.ok.hd hc) (IsTup.new s1.heap _) fun h' hx' => ?_)))
  have I3 := I2.kept (h' := h') (t' := s1.toks) fun b o e => hx' b o (Nat.ne_of_lt (Heap.lt_size e)) e
  show wpAny _ _ (assignInOrder [fun v => bindName X.env y v, fun v => bindName X.env x v] [u2, u1] >>= fun _ => pure Flow.next) _ _ _
  refine wpAny_bind (assignInOrder_cons (wpAny_bindName (store_ok I3 hN hj (.inl hy) rw' (fun s2 I4 => ?_) (.inr hy))))
  refine assignInOrder_cons (wpAny_bindName (store_ok I4 hN hi (.inl hx) rv (fun s3 I5 => assignInOrder_nil (wpAny_pure ?_)) (.inr hx)))
  rw [List.set_comm _ _ (Ne.symm hij)] at I5
  exact ⟨_, H1, I5, q1⟩
/-- name op= e -/
def tAug (i : Nat) (te : TE) (ti : TIp) : TS := fun D σ H => ∃ x, σ[i]? = some (some x) ∧ te σ H fun y H1 => ti x y H1 fun z H2 => D.nx (σ.set i (some z)) H2
/-- o[i] op= e -/
def tAugS (to ti te : TE) (tget : V → V → Hp → VK → Prop) (tip : TIp) (tset : TSet) : TS := fun D σ H => to σ H fun o H1 => ti σ H1 fun i H2 => tget o i H2 fun x H3 => te σ H3 fun y H4 => tip x y H4 fun z H5 => tset o i z H5 fun H6 => D.nx σ H6
/-- o[i], by values -/
def PGet (X : Cx) (t : V → V → Hp → VK → Prop) : Prop :=
  ∀ (pins : List (Addr × Obj)) (s : Shared) (σ : St) (H : Hp) (o i : V) (ov iv : Value) (Q : VK), Inv X pins σ H s → RelV o ov → RelV i iv → t o i H Q →
    wpAny (model X.prog X.w) X.A (getItem ov iv) (EP X pins σ Q) X.xe s
/-- ints -/
def ipI (f : Int → Int → Int) : TIp := fun x y H Q => ∃ i j, x = .int i ∧ y = .int j ∧ Q (.int (f i j)) H
end

/-! ### while -/
section
variable {X : Cx} {pos : Pos}
/-- the invariant W with its measure -/
def tWhile (c : TT) (tb : TS) : TS := fun D σ H => ∃ W : Nat → St → Hp → Prop, (∃ m, W m σ H) ∧ ∀ m σ H, W m σ H →
  c σ H fun b H1 => if b = true then ∃ N : St → Hp → Prop, (∀ σ' H', N σ' H' → ∃ m', m' < m ∧ W m' σ' H') ∧ tb { D with nx := N, ct := N, bk := D.nx } σ H1 else D.nx σ H1
end

/-! ### what a loop or a comprehension walks -/
/-- at turn i: it yields x (the heap may grow), or it stops -/
structure It where
  go : Nat → Hp → Prop
  yld : Nat → Hp → V → Hp → Prop
  stop : Nat → Hp → Prop
/-- the iterator's own objects may turn: they are not the frame's, not pinned, younger than the entry (or a comprehension's own) -/
def FpOk (X : Cx) (pins : List (Addr × Obj)) (H : Hp) (b : Addr) : Prop :=
  H b = none ∧ b ≠ X.env.locals ∧ b ∉ X.fs ∧ (b ∈ X.ex ∨ X.s_0.heap.objs.size ≤ b) ∧ (∀ x c, X.env.cells.lookup x = some c → c ≠ b) ∧ ∀ p ∈ X.pn ++ pins, p.1 ≠ b
theorem Inv.fpOk {X : Cx} {pins : List (Addr × Obj)} {σ : St} {H H' : Hp} {s : Shared} {b : Addr} (I : Inv X pins σ H s) (hb : s.heap.objs.size ≤ b) (hn : H' b = none) : FpOk X pins H' b := by
  refine ⟨hn, Nat.ne_of_gt (Nat.lt_of_lt_of_le I.lt hb), I.nofs hb, .inr (Nat.le_trans I.sz hb), fun x c e z => ?_, fun p hp z => ?_⟩
  · obtain ⟨v, q⟩ := I.cell x c e
    exact absurd (Nat.lt_of_lt_of_le q.lt (by rw [z]; exact hb)) (Nat.lt_irrefl _)
  · exact absurd (Nat.lt_of_lt_of_le (Heap.lt_size (I.pin p hp).1) (by rw [z]; exact hb)) (Nat.lt_irrefl _)
structure Turn (P : Program) (w : World) (K : PySem.W.Frag) (tg : Expr) (J : It) (fp : List Addr) (it : Addr) (tn : Nat → Heap → Prop) : Prop where
  mem : it ∈ fp
  obj : ∀ i h, tn i h → ∀ b ∈ fp, ∃ o, h.get? b = some o ∧ ∀ v, o.data ≠ .cell v
  keep : ∀ i h h', tn i h → (∀ b ∈ fp, ∀ o, h.get? b = some o → h'.get? b = some o) → tn i h'
  item : ∀ (X : Cx), X.prog = P → X.w = w → X.K = K → X.calm = true → ∀ (i : Nat) (pins : List (Addr × Obj)) (s : Shared) (σ : St) (H : Hp) (E : Value → Shared → Prop), Inv X pins σ H s → (∀ b ∈ fp, FpOk X pins H b) → tn i s.heap → J.go i H →
    wpAny (model P w) X.A (pyNext (.ref it)) (fun r s1 => ∃ u, r = some u ∧
      wpAny (model P w) X.A (letOwnedTupleGo tg (.ref it) u) (fun _ s2 => ∃ x H', Inv X pins σ H' s2 ∧ RelV x u ∧ J.yld i H x H' ∧ tn (i + 1) s2.heap ∧ ∀ b ∈ fp, H' b = none) E s1) E s
  done : ∀ (X : Cx), X.prog = P → X.w = w → X.K = K → X.calm = true → ∀ (i : Nat) (pins : List (Addr × Obj)) (s : Shared) (σ : St) (H : Hp) (E : Value → Shared → Prop), Inv X pins σ H s → (∀ b ∈ fp, FpOk X pins H b) → tn i s.heap → J.stop i H →
    wpAny (model P w) X.A (pyNext (.ref it)) (fun r s1 => r = none ∧ Inv X pins σ H s1) E s
  self : ∀ (A : Around) (i : Nat) (s : Shared) (Q : Value → Shared → Prop) (E : Value → Shared → Prop), tn i s.heap → Q (.ref it) s → wpAny (model P w) A (pyIter (.ref it)) Q E s
abbrev TI := St → Hp → (It → Hp → Prop) → Prop
/-- an iterator has come -/
def PIE (X : Cx) (pins : List (Addr × Obj)) (σ : St) (tg : Expr) (R : It → Hp → Prop) (itv : Value) (s2 : Shared) : Prop :=
  ∃ (it : Addr) (fp : List Addr) (tn : Nat → Heap → Prop) (J : It) (H' : Hp), itv = .ref it ∧ Inv X pins σ H' s2 ∧ Turn X.prog X.w X.K tg J fp it tn ∧ tn 0 s2.heap ∧ (∀ b ∈ fp, FpOk X pins H' b) ∧ R J H'
def PI (X : Cx) (tg iter : Expr) (wi : TI) : Prop :=
  ∀ (pins : List (Addr × Obj)) (s : Shared) (σ : St) (H : Hp) (R : It → Hp → Prop), Inv X pins σ H s → wi σ H R →
    wpAny (model X.prog X.w) X.A (eval iter X.env) (fun v s1 => wpAny (model X.prog X.w) X.A (pyIter v) (PIE X pins σ tg R) X.xe s1) X.xe s

/-- the step ahead of the store is nothing for an iterator that keeps no tuple -/
theorem go_of {M : Model} {A : Around} {E : Value → Shared → Prop} {s : Shared} {tg : Expr} {it : Addr} {u : Value} {o : Obj} {n : String} {vs : Array Value} {Q : Unit → Shared → Prop} (ho : s.heap.get? it = some o) (hc : o.cls = .type n) (hd : o.data = .fields vs)
    (hn : ["enumerate", "zip", "dict_itemiterator", "dict_reverseitemiterator", "odict_iterator", "itertools.zip_longest", "itertools.pairwise"].contains n = false) (hQ : Q () s) : wpAny M A (letOwnedTupleGo tg (.ref it) u) Q E s := by
  unfold letOwnedTupleGo
  cases tg <;> first
    | exact wpAny_pure hQ
    | (cases u <;> first
        | exact wpAny_pure hQ
        | (refine wpAny_bind (wpAny_load ho ?_)
           rw [hc, hd]
           show wpAny M A (if (["enumerate", "zip", "dict_itemiterator", "dict_reverseitemiterator", "odict_iterator", "itertools.zip_longest", "itertools.pairwise"].contains n && vs[0]? == some (rawInt _)) = true then _ else _) Q E s
           rw [if_neg (by intro h; rw [hn, Bool.false_and] at h; cases h)]
           exact wpAny_pure hQ))

/-- the list at a, as it stands at each turn (a loop may append to it) -/
def Itl (K : PySem.W.Frag) (a : Addr) : It :=
  ⟨fun i H => ∃ xs x, SqL K H a xs ∧ xs[i]? = some x, fun i H x H' => H' = H ∧ ∀ xs, SqL K H a xs → xs[i]? = some x, fun i H => ∃ xs, SqL K H a xs ∧ xs.length ≤ i⟩
def Itt (K : PySem.W.Frag) (a : Addr) : It :=
  ⟨fun i H => ∃ xs x, SqT K H a xs ∧ xs[i]? = some x, fun i H x H' => H' = H ∧ ∀ xs, SqT K H a xs → xs[i]? = some x, fun i H => ∃ xs, SqT K H a xs ∧ xs.length ≤ i⟩
/-- lo, lo + 1, .. (n of them) -/
def Itr (lo : Int) (n : Nat) : It := ⟨fun i _ => i < n, fun i H x H' => H' = H ∧ x = .int (lo + i), fun i _ => n ≤ i⟩
theorem turn_list {P : Program} {w : World} {K : PySem.W.Frag} {tg : Expr} (a it : Addr) : Turn P w K tg (Itl K a) [it] it (fun i h => h.IsListIter it a i) where
  mem := by simp
  obj := fun i h st b hb => by
    have e : b = it := by simpa using hb
    subst e
    obtain ⟨o, e, c, d⟩ := st
    exact ⟨o, e, fun v z => by rw [d] at z; cases z⟩
  keep := fun i h h' st k => st.at fun o e => k it (by simp) o e
  item := by
    intro X hP hw hK hc i pins s σ H E I hf st hg
    subst hP hw hK
    obtain ⟨xs, x, hq, hx⟩ := hg
    obtain ⟨its, rv, p, hz⟩ := I.list hq
    obtain ⟨u, hu, ru⟩ := rv.get hx
    obtain ⟨f0, f1, f2, f3, f4, f5⟩ := hf it (by simp)
    refine wpAny_pyNext_list_item st p.isList (x := u) (by simpa using hu) fun h' st' sb => ?_
    have I1 : Inv X pins σ H { s with heap := h' } := I.turned (t' := s.toks) (fun b o hb e => (sb.2 b hb).trans e) f0 f1 f3 f4 f5
    obtain ⟨o, e, c, d⟩ := id st'
    exact ⟨u, rfl, go_of (s := { s with heap := h' }) e c d (by decide) ⟨x, H, I1, ru, ⟨rfl, fun ys hy => by rw [I.list_inj hy hq]; exact hx⟩, st', fun b hb => (hf b hb).1⟩⟩
  done := by
    intro X hP hw hK hc i pins s σ H E I hf st hg
    subst hP hw hK
    obtain ⟨xs, hq, hx⟩ := hg
    obtain ⟨its, rv, p, hz⟩ := I.list hq
    obtain ⟨f0, f1, f2, f3, f4, f5⟩ := hf it (by simp)
    have hl := rv.length
    exact wpAny_pyNext_list_end (I.ok.hd hc) st p.isList (by simp; omega) fun h' eb => ⟨rfl, I.turned (t' := s.toks) (fun b o hb e => eb b o hb e) f0 f1 f3 f4 f5⟩
  self := fun _ _ _ _ _ st h => wpAny_pyIter_listiter st h
theorem turn_tuple {P : Program} {w : World} {K : PySem.W.Frag} {tg : Expr} (a it : Addr) : Turn P w K tg (Itt K a) [it] it (fun i h => h.IsTupleIter it a i) where
  mem := by simp
  obj := fun i h st b hb => by
    have e : b = it := by simpa using hb
    subst e
    obtain ⟨o, e, c, d⟩ := st
    exact ⟨o, e, fun v z => by rw [d] at z; cases z⟩
  keep := fun i h h' st k => st.at fun o e => k it (by simp) o e
  item := by
    intro X hP hw hK hc i pins s σ H E I hf st hg
    subst hP hw hK
    obtain ⟨xs, x, hq, hx⟩ := hg
    obtain ⟨its, rv, p, hz⟩ := I.tuple hq
    obtain ⟨u, hu, ru⟩ := rv.get hx
    obtain ⟨f0, f1, f2, f3, f4, f5⟩ := hf it (by simp)
    refine wpAny_pyNext_tuple_item st (show s.heap.IsTuple a its.toArray from p) (x := u) (by simpa using hu) fun h' st' sb => ?_
    have I1 : Inv X pins σ H { s with heap := h' } := I.turned (t' := s.toks) (fun b o hb e => (sb.2 b hb).trans e) f0 f1 f3 f4 f5
    obtain ⟨o, e, c, d⟩ := id st'
    exact ⟨u, rfl, go_of (s := { s with heap := h' }) e c d (by decide) ⟨x, H, I1, ru, ⟨rfl, fun ys hy => by rw [I.tuple_inj hy hq]; exact hx⟩, st', fun b hb => (hf b hb).1⟩⟩
  done := by
    intro X hP hw hK hc i pins s σ H E I hf st hg
    subst hP hw hK
    obtain ⟨xs, hq, hx⟩ := hg
    obtain ⟨its, rv, p, hz⟩ := I.tuple hq
    obtain ⟨f0, f1, f2, f3, f4, f5⟩ := hf it (by simp)
    have hl := rv.length
    exact wpAny_pyNext_tuple_end (I.ok.hd hc) st (show s.heap.IsTuple a its.toArray from p) (by simp; omega) fun h' eb => ⟨rfl, I.turned (t' := s.toks) (fun b o hb e => eb b o hb e) f0 f1 f3 f4 f5⟩
  self := fun _ _ _ _ _ st h => wpAny_pyIter_tupleiter st h
theorem turn_range {P : Program} {w : World} {K : PySem.W.Frag} {tg : Expr} (it : Addr) (lo : Int) (n : Nat) : Turn P w K tg (Itr lo n) [it] it (fun i h => IsRangeIter h it (lo + (i : Nat) * 1) ((n : Int) - (i : Nat)) 1) where
  mem := by simp
  obj := fun i h st b hb => by
    have e : b = it := by simpa using hb
    subst e
    exact ⟨_, st, fun v z => by
      have z' : Data.fields _ = Data.cell v := z
      cases z'⟩
  keep := fun i h h' st k => k it (by simp) _ st
  item := by
    intro X hP hw hK hc i pins s σ H E I hf st hg
    subst hP hw hK
    obtain ⟨f0, f1, f2, f3, f4, f5⟩ := hf it (by simp)
    have W := Walks.range (prog := X.prog) (w := X.w) (I.ok.hd hc) it lo 1 n
    refine W.item i s _ _ hg st fun v h' tk hv st' kk => ?_
    obtain ⟨t, rfl⟩ := hv
    have I1 : Inv X pins σ H { s with heap := h', toks := tk } := I.turned (fun b o hb e => kk b o (by simpa using hb) e) f0 f1 f3 f4 f5
    refine ⟨_, rfl, go_of (s := { s with heap := h', toks := tk }) (n := "range_iterator") st' rfl rfl (by decide) ⟨.int (lo + i), H, I1, ⟨t, ?_⟩, ⟨rfl, rfl⟩, st', fun b hb => (hf b hb).1⟩⟩
    rw [Int.mul_one]
  done := by
    intro X hP hw hK hc i pins s σ H E I hf st hg
    subst hP hw hK
    obtain ⟨f0, f1, f2, f3, f4, f5⟩ := hf it (by simp)
    exact wpAny_pyNext_range_end (I.ok.hd hc) st (by have : n ≤ i := hg; omega) fun h' eb => ⟨rfl, I.turned (t' := s.toks) (fun b o hb e => eb b o hb e) f0 f1 f3 f4 f5⟩
  self := fun _ _ _ _ _ st h => wpAny_pyIter_rangeiter st h
end L2

namespace L2
open PySem PySem.Spec PyProof.Rows
section
variable {X : Cx} {tg : Expr}
def iList (K : PySem.W.Frag) (tl : TE) : TI := fun σ H R => tl σ H fun x H1 => ∃ a, x = .ref a ∧ (∃ xs, SqL K H1 a xs) ∧ R (Itl K a) H1
def iTup (K : PySem.W.Frag) (tl : TE) : TI := fun σ H R => tl σ H fun x H1 => ∃ a, x = .ref a ∧ (∃ xs, SqT K H1 a xs) ∧ R (Itt K a) H1
/-- a range object just made, walked -/
theorem range_it {pins : List (Addr × Obj)} {σ : St} {H : Hp} {s : Shared} {R : It → Hp → Prop} {E : Value → Shared → Prop} {lo hi : Int} {t u v : Tok} {tk : Nat} (I : Inv X pins σ H s) (h1 : -(2 ^ 62) ≤ lo) (h2 : lo < 2 ^ 62) (h3 : -(2 ^ 62) ≤ hi) (h4 : hi < 2 ^ 62)
    (q : R (Itr lo (hi - lo).toNat) H) : wpAny (model X.prog X.w) X.A (pyIter (.ref s.heap.objs.size)) (PIE X pins σ tg R) E { s with heap := s.heap.push { cls := .type "range", data := .fields #[.int lo t, .int hi u, .int 1 v] }, toks := tk } := by
  refine wpAny_pyIter_range (IsRange.new ..) (small_one h1 h2 h3 h4) ?_
  have I1 : Inv X pins σ H { s with heap := s.heap.push { cls := .type "range", data := .fields #[.int lo t, .int hi u, .int 1 v] }, toks := tk } := I.kept fun b o e => Heap.get?_push_of_some _ e
  refine ⟨(s.heap.push { cls := .type "range", data := .fields #[.int lo t, .int hi u, .int 1 v] }).objs.size, [(s.heap.push { cls := .type "range", data := .fields #[.int lo t, .int hi u, .int 1 v] }).objs.size], _, _, H, rfl,
    I1.kept (t' := tk) fun b o e => Heap.get?_push_of_some _ e, turn_range _ lo (hi - lo).toNat, ?_, fun b hb => ?_, q⟩
  · have e1 : lo + ((0 : Nat) : Int) * 1 = lo := by simp
    have e2 : (((hi - lo).toNat : Nat) : Int) - ((0 : Nat) : Int) = Builtin.Range.rangeSize lo hi 1 := by rw [rangeSize_one]; split <;> omega
    show IsRangeIter _ _ (lo + ((0 : Nat) : Int) * 1) ((((hi - lo).toNat : Nat) : Int) - ((0 : Nat) : Int)) 1
    rw [e1, e2]
    exact Heap.get?_push_size _ rfl
  · have e : b = (s.heap.push { cls := .type "range", data := .fields #[.int lo t, .int hi u, .int 1 v] }).objs.size := by simpa using hb
    subst e
    exact I1.fpOk (Nat.le_refl _) (I1.hok.fresh (Nat.le_refl _))
def iRng1 (ta : TA) : TI := fun σ H R => ta σ H fun vs H1 => ∃ j : Int, vs = [.int j] ∧ -(2 ^ 62) ≤ j ∧ j < 2 ^ 62 ∧ R (Itr 0 j.toNat) H1
def iRng2 (ta : TA) : TI := fun σ H R => ta σ H fun vs H1 => ∃ i j : Int, vs = [.int i, .int j] ∧ (-(2 ^ 62) ≤ i ∧ i < 2 ^ 62 ∧ -(2 ^ 62) ≤ j ∧ j < 2 ^ 62) ∧ R (Itr i (j - i).toNat) H1
theorem pi_range1 {a : Expr} {ta : TA} {p pos : Pos} (hg : Gl X "range") (hm : X.mg "range" = none) (ha : PA X [a] ta) (hs : starEach [a] X.env = [(false, eval a X.env)] := by rfl) : PI X tg (.Call (.Name "range" p) [a] [] pos) (iRng1 ta) := by
  intro pins s σ H R I h
  refine Call_ (ld_blt I hg hm boot_range (PyProof.Rows.callWith_type1 (thn (ha pos pins s σ H _ I h) fun us s1 ⟨vs, H1, I1, r1, q1⟩ => ?_) hs rfl))
  obtain ⟨j, e, q1, q2, q⟩ := q1
  subst e
  cases r1 with
  | cons r rr =>
    cases rr
    obtain ⟨t, rfl⟩ := r
    exact call_range_1 (range_it I1 (by omega) (by omega) q1 q2 (by simpa using q))
/-! ### for -/
/-- W: the invariant by the turn and a measure; N: what the body is to reach -/
def tFor (wi : TI) (g : TG) (tb : TS) : TS := fun D σ H => wi σ H fun J H1 => ∃ W : Nat → Nat → St → Hp → Prop, (∃ m, W 0 m σ H1) ∧ ∀ i m σ H, W i m σ H →
  (J.stop i H ∧ D.nx σ H) ∨ (J.go i H ∧ ∃ N : St → Hp → Prop, (∀ σ' H', N σ' H' → ∃ m', m' < m ∧ W (i + 1) m' σ' H') ∧ ∀ x H', J.yld i H x H' → g x σ H' fun σ2 H2 => tb { D with nx := N, ct := N, bk := D.nx } σ2 H2)
/-- the records at fp as they stand -/
def pinsAt (fp : List Addr) (h : Heap) : List (Addr × Obj) := fp.filterMap fun b => (h.get? b).map fun o => (b, o)
theorem mem_pinsAt {fp : List Addr} {h : Heap} {b : Addr} {o : Obj} (hb : b ∈ fp) (e : h.get? b = some o) : (b, o) ∈ pinsAt fp h := List.mem_filterMap.mpr ⟨b, hb, by rw [e]; rfl⟩
theorem of_pinsAt {fp : List Addr} {h : Heap} {p : Addr × Obj} (hp : p ∈ pinsAt fp h) : p.1 ∈ fp ∧ h.get? p.1 = some p.2 := by
  obtain ⟨b, hb, e⟩ := List.mem_filterMap.mp hp
  cases q : h.get? b with
  | none => rw [q] at e; cases e
  | some o =>
    rw [q] at e
    have e' : (b, o) = p := Option.some.inj e
    subst e'
    exact ⟨hb, q⟩
theorem Inv.pinned {pins : List (Addr × Obj)} {σ : St} {H : Hp} {s : Shared} {fp : List Addr} (I : Inv X pins σ H s) (hf : ∀ b ∈ fp, FpOk X pins H b) (ho : ∀ b ∈ fp, ∃ o, s.heap.get? b = some o ∧ ∀ v, o.data ≠ .cell v) : Inv X (pins ++ pinsAt fp s.heap) σ H s :=
  I.pins_of fun p hp => (List.mem_append.mp hp).elim (fun z => I.pin p (List.mem_append_right _ z)) fun z => by
    obtain ⟨hb, e⟩ := of_pinsAt z
    obtain ⟨f0, f1, f2, _⟩ := hf p.1 hb
    obtain ⟨o, e', d⟩ := ho p.1 hb
    rw [e] at e'; cases e'
    exact ⟨e, f0, f1, f2, d⟩
theorem Inv.unpinned {pins pl : List (Addr × Obj)} {σ : St} {H : Hp} {s : Shared} (I : Inv X (pins ++ pl) σ H s) : Inv X pins σ H s := I.pins_of fun p hp => I.pin p (List.mem_append_right _ (List.mem_append_left _ hp))
theorem ps_for {iter : Expr} {body : List Stmt} {wi : TI} {g : TG} {tb : TS} {pos : Pos} (hp : PassesOwn (model X.prog X.w) X.A X.env X.xe) (hc : X.calm = true) (hi : PI X tg iter wi) (hg : PG X tg g) (hb : PSs X body tb)
    (hs : ∀ x, foldedSetIterable iter X.env x = pure x := by intro _; rfl) : PS X (.For tg iter body [] pos) (tFor wi g tb) := by
  intro pins s σ H D I h
  refine wpAny_For (thn (hi pins s σ H _ I h) fun v s1 h1 => thn h1 fun itv s2 h2 => ?_) hs
  obtain ⟨it, fp, tn, J, H2, e, I2, T, st2, f2, W, ⟨m0, w0⟩, turn⟩ := h2
  subst e
  -- what stays true of the iterator's objects through the loop
  have stat : ∀ {H' : Hp}, (∀ b ∈ fp, H' b = none) → ∀ b ∈ fp, FpOk X pins H' b := fun hn b hb => ⟨hn b hb, (f2 b hb).2⟩
  refine codeAny_forLoop_any (fun n s' => ∃ i σ' H', Inv X pins σ' H' s' ∧ tn i s'.heap ∧ (∀ b ∈ fp, H' b = none) ∧ W i n σ' H') ?_ m0 ⟨0, σ, H2, I2, st2, fun b hb => (f2 b hb).1, w0⟩
  rintro n s3 ⟨i, σ3, H3, I3, st3, fr3, w3⟩
  rcases turn i n σ3 H3 w3 with ⟨stop, qn⟩ | ⟨go, N, hN, step⟩
  · refine wpAny_passesOwn hp (thn (T.done X rfl rfl rfl hc i pins s3 σ3 H3 X.xe I3 (stat fr3) st3 stop) fun r s4 ⟨hr, I4⟩ => ?_)
    subst hr
    exact wpAny_execs_nil ⟨σ3, H3, I4, qn⟩
  · refine wpAny_passesOwn hp (thn (T.item X rfl rfl rfl hc i pins s3 σ3 H3 X.xe I3 (stat fr3) st3 go) fun r s4 ⟨u, hr, h4⟩ => ?_)
    subst hr
    refine wpAny_passesOwn hp (thn h4 fun _ s5 ⟨x, H5, I5, r5, y5, st5, fr5⟩ => ?_)
    have I5' := I5.pinned (stat fr5) (T.obj _ _ st5)
    refine wpAny_passesOwn hp (thn (hg _ s5 σ3 H5 x u _ I5' r5 (step x H5 y5)) fun _ s6 ⟨σ6, H6, I6, q6⟩ => ?_)
    refine wpAny_passesOwn hp (thn (hb _ s6 σ6 H6 _ I6 q6) fun f s7 q7 => ?_)
    have again : ∀ {σ7 : St} {H7 : Hp}, Inv X (pins ++ pinsAt fp s5.heap) σ7 H7 s7 → N σ7 H7 → ∃ m, m < n ∧ ∃ i σ' H', Inv X pins σ' H' s7 ∧ tn i s7.heap ∧ (∀ b ∈ fp, H' b = none) ∧ W i m σ' H' := fun {σ7 H7} I7 n7 => by
      obtain ⟨m', hm, w7⟩ := hN σ7 H7 n7
      refine ⟨m', hm, i + 1, σ7, H7, I7.unpinned, T.keep _ _ _ st5 fun b hb o e => (I7.pin (b, o) (List.mem_append_right _ (List.mem_append_right _ (mem_pinsAt hb e)))).1, fun b hb => ?_, w7⟩
      obtain ⟨o, e, d⟩ := T.obj _ _ st5 b hb
      exact (I7.pin (b, o) (List.mem_append_right _ (List.mem_append_right _ (mem_pinsAt hb e)))).2.1
    cases f with
    | next => obtain ⟨σ7, H7, I7, n7⟩ := q7; exact again I7 n7
    | cont => obtain ⟨σ7, H7, I7, n7⟩ := q7; exact again I7 n7
    | brk => obtain ⟨σ7, H7, I7, q7⟩ := q7; exact ⟨σ7, H7, I7.unpinned, q7⟩
    | ret v => obtain ⟨x7, σ7, H7, I7, r7, q7⟩ := q7; exact ⟨x7, σ7, H7, I7.unpinned, r7, q7⟩
end

/-! ### the forms one uses -/
end L2

namespace L2
open PySem PySem.Spec PyProof.Rows

abbrev R2 := V → V → Hp → VK → Prop
/-- a two-place operation on values: f is binaryOp op, inplaceOp op or compareOp op -/
def OpR (X : Cx) (f : Value → Value → Sem Value) (r : R2) : Prop :=
  ∀ (pins : List (Addr × Obj)) (s : Shared) (σ : St) (H : Hp) (x y : V) (v u : Value) (Q : VK), Inv X pins σ H s → RelV x v → RelV y u → r x y H Q →
    wpAny (model X.prog X.w) X.A (f v u) (EP X pins σ Q) X.xe s
/-- a one-place operation -/
def UnR (X : Cx) (f : Value → Sem Value) (r : V → Hp → VK → Prop) : Prop :=
  ∀ (pins : List (Addr × Obj)) (s : Shared) (σ : St) (H : Hp) (x : V) (v : Value) (Q : VK), Inv X pins σ H s → RelV x v → r x H Q →
    wpAny (model X.prog X.w) X.A (f v) (EP X pins σ Q) X.xe s
/-- a call of a value that is known (a builtin, a type) with values -/
def CallR (X : Cx) (f : Value) (r : List V → Hp → VK → Prop) : Prop :=
  ∀ (pins : List (Addr × Obj)) (s : Shared) (σ : St) (H : Hp) (xs : List V) (us : List Value) (Q : VK), Inv X pins σ H s → Vals xs us → r xs H Q →
    wpAny (model X.prog X.w) X.A (call f us) (EP X pins σ Q) X.xe s
/-- a value's truth -/
def TruR (X : Cx) (r : V → Hp → (Bool → Hp → Prop) → Prop) : Prop :=
  ∀ (pins : List (Addr × Obj)) (s : Shared) (σ : St) (H : Hp) (x : V) (v : Value) (Q : Bool → Hp → Prop), Inv X pins σ H s → RelV x v → r x H Q →
    wpAny (model X.prog X.w) X.A (truthy v) (TP X pins σ Q) X.xe s

def tOp (r : R2) (ta tb : TE) : TE := fun σ H Q => ta σ H fun x H1 => tb σ H1 fun y H2 => r x y H2 Q
def tUn (r : V → Hp → VK → Prop) (ta : TE) : TE := fun σ H Q => ta σ H fun x H1 => r x H1 Q
/-- ints in, under C, and a value out -/
def rI (C : Int → Int → Prop) (g : Int → Int → V) : R2 := fun x y H Q => ∃ i j, x = .int i ∧ y = .int j ∧ C i j ∧ Q (g i j) H
def rI0 (g : Int → Int → V) : R2 := fun x y H Q => ∃ i j, x = .int i ∧ y = .int j ∧ Q (g i j) H
def rU (g : Int → V) : V → Hp → VK → Prop := fun x H Q => ∃ i, x = .int i ∧ Q (g i) H

section
variable {X : Cx} {a b c : Expr} {ta tb tc : TE} {pos : Pos}

theorem binT (ha : PE X a ta) (hb : PE X b tb) {pins : List (Addr × Obj)} {s : Shared} {σ : St} {H : Hp} {R : V → V → Hp → Prop} (I : Inv X pins σ H s)
    (h : ta σ H fun x H1 => tb σ H1 fun y H2 => R x y H2) {Q : Value → Shared → Prop} {f : Value → Value → Sem Value}
    (hf : ∀ v u s2 x y H2, Inv X pins σ H2 s2 → RelV x v → RelV y u → R x y H2 → wpAny (model X.prog X.w) X.A (f v u) Q X.xe s2) :
    wpAny (model X.prog X.w) X.A (eval a X.env) (fun v s₁ => wpAny (model X.prog X.w) X.A (eval b X.env) (fun u s₂ => wpAny (model X.prog X.w) X.A (f v u) Q X.xe s₂) X.xe s₁) X.xe s := by
  refine thn (ha pins s σ H _ I h) fun v s1 ⟨x, H1, I1, r1, q1⟩ => ?_
  refine thn (hb pins s1 σ H1 _ I1 q1) fun u s2 ⟨y, H2, I2, r2, q2⟩ => ?_
  exact hf v u s2 x y H2 I2 r1 r2 q2

theorem pe_op {op : Operator} {r : R2} (ho : OpR X (binaryOp op) r) (ha : PE X a ta) (hb : PE X b tb) : PE X (.BinOp a op b pos) (tOp r ta tb) := by
  intro pins s σ H Q I h
  exact wpAny_BinOp (binT ha hb I h fun v u s2 x y H2 I2 rx ry q => ho pins s2 σ H2 x y v u Q I2 rx ry q)
theorem pe_un {op : UnaryOp} {r : V → Hp → VK → Prop} (ho : UnR X (unaryOp op) r) (ha : PE X a ta) : PE X (.UnaryOp op a pos) (tUn r ta) := by
  intro pins s σ H Q I h
  exact UnaryOp_ (thn (ha pins s σ H _ I h) fun v s1 ⟨x, H1, I1, r1, q1⟩ => ho pins s1 σ H1 x v Q I1 r1 q1)
/-! ### ints -/
theorem opI {f : Value → Value → Sem Value} {C : Int → Int → Prop} {g : Int → Int → Int}
    (rule : ∀ (i j : Int) (t u : Tok) (s : Shared) (Q : Value → Shared → Prop) (E : Value → Shared → Prop), C i j → Q (.int (g i j) s.toks) { s with toks := s.toks + 1 } → wpAny (model X.prog X.w) X.A (f (.int i t) (.int j u)) Q E s) :
    OpR X f (rI C fun i j => .int (g i j)) := by
  intro pins s σ H x y v u Q I rx ry h
  obtain ⟨i, j, rfl, rfl, hc, q⟩ := h
  obtain ⟨t, rfl⟩ := rx
  obtain ⟨t', rfl⟩ := ry
  exact rule i j t t' s _ _ hc ⟨.int (g i j), H, I.tok _, ⟨_, rfl⟩, q⟩
theorem opI0 {f : Value → Value → Sem Value} {g : Int → Int → Int}
    (rule : ∀ (i j : Int) (t u : Tok) (s : Shared) (Q : Value → Shared → Prop) (E : Value → Shared → Prop), Q (.int (g i j) s.toks) { s with toks := s.toks + 1 } → wpAny (model X.prog X.w) X.A (f (.int i t) (.int j u)) Q E s) :
    OpR X f (rI0 fun i j => .int (g i j)) := by
  intro pins s σ H x y v u Q I rx ry h
  obtain ⟨i, j, rfl, rfl, q⟩ := h
  obtain ⟨t, rfl⟩ := rx
  obtain ⟨t', rfl⟩ := ry
  exact rule i j t t' s _ _ ⟨.int (g i j), H, I.tok _, ⟨_, rfl⟩, q⟩
theorem opB0 {f : Value → Value → Sem Value} {g : Int → Int → Bool}
    (rule : ∀ (i j : Int) (t u : Tok) (s : Shared) (Q : Value → Shared → Prop) (E : Value → Shared → Prop), Q (.bool (g i j)) s → wpAny (model X.prog X.w) X.A (f (.int i t) (.int j u)) Q E s) :
    OpR X f (rI0 fun i j => .bl (g i j)) := by
  intro pins s σ H x y v u Q I rx ry h
  obtain ⟨i, j, rfl, rfl, q⟩ := h
  obtain ⟨t, rfl⟩ := rx
  obtain ⟨t', rfl⟩ := ry
  exact rule i j t t' s _ _ ⟨.bl (g i j), H, I, rfl, q⟩

def CDiv (i j : Int) : Prop := 0 < j ∧ j < 1073741824
def CDivN (i j : Int) : Prop := j ≠ 0 ∧ j.natAbs < 1073741824
def CPow (i j : Int) : Prop := 0 ≤ j ∧ j ≤ 1000000 ∧ i.natAbs < 2 ^ 64
def CMul (i j : Int) : Prop := (-(2 ^ 64) < i ∧ i < 2 ^ 64) ∨ (-(2 ^ 64) < j ∧ j < 2 ^ 64)
theorem CMul.ok {i j : Int} (h : CMul i j) : IntMulOk i j := by
  rcases h with ⟨h1, h2⟩ | ⟨h1, h2⟩
  · exact .of_left (intBits_le_64 h1 h2)
  · exact .of_right (intBits_le_64 h1 h2)
theorem op_add : OpR X (binaryOp .Add) (rI0 fun i j => .int (i + j)) := opI0 fun _ _ _ _ _ _ _ q => add_int q
theorem op_sub : OpR X (binaryOp .Sub) (rI0 fun i j => .int (i - j)) := opI0 fun _ _ _ _ _ _ _ q => sub_int q
theorem op_mul : OpR X (binaryOp .Mult) (rI CMul fun i j => .int (i * j)) := opI fun _ _ _ _ _ _ _ hc q => mul_int q hc.ok
/-- % by a positive divisor of any size -/
theorem op_mod : OpR X (binaryOp .Mod) (rI (fun _ j => 0 < j) fun i j => .int (i % j)) := opI fun i j _ _ _ _ _ hc q => by
  have h1 : (0 : Int) < j := hc
  exact mod_int' (by omega) (by rw [Int.fmod_eq_emod_of_nonneg i (by omega)]; exact q)
theorem op_pow : OpR X (binaryOp .Pow) (rI CPow fun i j => .int (i ^ j.toNat)) := opI fun _ _ _ _ _ _ _ hc q => pow_int_small hc.1 hc.2.1 hc.2.2 q
theorem unI {f : Value → Sem Value} {g : Int → Int}
    (rule : ∀ (i : Int) (t : Tok) (s : Shared) (Q : Value → Shared → Prop) (E : Value → Shared → Prop), Q (.int (g i) s.toks) { s with toks := s.toks + 1 } → wpAny (model X.prog X.w) X.A (f (.int i t)) Q E s) :
    UnR X f (rU fun i => .int (g i)) := by
  intro pins s σ H x v Q I rx h
  obtain ⟨i, rfl, q⟩ := h
  obtain ⟨t, rfl⟩ := rx
  exact rule i t s _ _ ⟨.int (g i), H, I.tok _, ⟨_, rfl⟩, q⟩
theorem un_neg : UnR X (unaryOp .USub) (rU fun i => .int (-i)) := unI fun _ _ _ _ _ q => neg_int q
/-! ### bools among ints: n += (a < b) -/
end

/-! ### comparisons -/
/-- the scalars that == tells apart as data does -/
def scal : V → V → Bool
  | .non, .non => true | .non, .int _ => true | .int _, .non => true | .non, .bl _ => true | .bl _, .non => true | .non, .str _ => true | .str _, .non => true
  | .int _, .int _ => true | .bl _, .bl _ => true | .str _, .str _ => true | .byt _, .byt _ => true
  | .int _, .str _ => true | .str _, .int _ => true | .bl _, .str _ => true | .str _, .bl _ => true
  | _, _ => false
def rEq : R2 := fun x y H Q => scal x y = true ∧ Q (.bl (decide (x = y))) H
def rNe : R2 := fun x y H Q => scal x y = true ∧ Q (.bl (!decide (x = y))) H

theorem dec_int {i j : Int} : decide (V.int i = V.int j) = (i == j) := by
  rw [Bool.eq_iff_iff]
  simp
theorem dec_bl {i j : Bool} : decide (V.bl i = V.bl j) = (i == j) := by
  rw [Bool.eq_iff_iff]
  simp
theorem dec_str {i j : Str} : decide (V.str i = V.str j) = (i == j) := by
  rw [Bool.eq_iff_iff]
  simp
theorem dec_byt {i j : Array UInt8} : decide (V.byt i = V.byt j) = (i.toList == j.toList) := by
  rw [Bool.eq_iff_iff]
  cases i
  cases j
  simp

section
variable {X : Cx} {a b c : Expr} {ta tb tc : TE} {pos : Pos}
theorem fin_bl {pins : List (Addr × Obj)} {σ : St} {H : Hp} {s : Shared} {Q : VK} {k k' : Bool} (I : Inv X pins σ H s) (q : Q (.bl k) H) (e : k = k') : EP X pins σ Q (.bool k') s := by
  subst e
  exact ⟨.bl k, H, I, rfl, q⟩
theorem op_eq : OpR X (compareOp .Eq) rEq := by
  intro pins s σ H x y v u Q I rx ry h
  obtain ⟨hs, q⟩ := h
  cases x with
  | non =>
    cases rx
    cases y with
    | non => cases ry; exact PySem.EqNone.eq_none_none (fin_bl I q (by simp))
    | bl j => cases ry; exact PySem.EqNone.eq_none_bool (fin_bl I q (by simp))
    | int j => obtain ⟨t', rfl⟩ := ry; exact PySem.EqNone.eq_none_int (fin_bl I q (by simp))
    | str j => obtain ⟨t', rfl⟩ := ry; exact PySem.EqNone.eq_none_str (fin_bl I q (by simp))
    | _ => exact absurd (show false = true from hs) Bool.false_ne_true
  | bl i =>
    cases rx
    cases y with
    | non => cases ry; exact PySem.EqNone.eq_bool_none (fin_bl I q (by simp))
    | bl j => cases ry; exact eq_bool (fin_bl I q dec_bl)
    | str j => obtain ⟨t', rfl⟩ := ry; exact PySem.EqMixed.eq_bool_str (fin_bl I q (by simp))
    | _ => exact absurd (show false = true from hs) Bool.false_ne_true
  | int i =>
    obtain ⟨t, rfl⟩ := rx
    cases y with
    | non => cases ry; exact PySem.EqNone.eq_int_none (fin_bl I q (by simp))
    | int j => obtain ⟨t', rfl⟩ := ry; exact eq_int (fin_bl I q dec_int)
    | str j => obtain ⟨t', rfl⟩ := ry; exact PySem.EqMixed.eq_int_str (fin_bl I q (by simp))
    | _ => exact absurd (show false = true from hs) Bool.false_ne_true
  | str i =>
    obtain ⟨t, rfl⟩ := rx
    cases y with
    | non => cases ry; exact PySem.EqNone.eq_str_none (fin_bl I q (by simp))
    | bl j => cases ry; exact PySem.EqMixed.eq_str_bool (fin_bl I q (by simp))
    | int j => obtain ⟨t', rfl⟩ := ry; exact PySem.EqMixed.eq_str_int (fin_bl I q (by simp))
    | str j => obtain ⟨t', rfl⟩ := ry; exact eq_str (fin_bl I q dec_str)
    | _ => exact absurd (show false = true from hs) Bool.false_ne_true
  | byt i =>
    obtain ⟨t, rfl⟩ := rx
    cases y with
    | byt j => obtain ⟨t', rfl⟩ := ry; exact PySem.W.eq_bytes (fin_bl I q dec_byt)
    | _ => exact absurd (show false = true from hs) Bool.false_ne_true
  | _ => cases y <;> exact absurd (show false = true from hs) Bool.false_ne_true
theorem op_ne : OpR X (compareOp .NotEq) rNe := by
  intro pins s σ H x y v u Q I rx ry h
  obtain ⟨hs, q⟩ := h
  cases x with
  | non =>
    cases rx
    cases y with
    | non => cases ry; exact PySem.EqNone.ne_none_none (fin_bl I q (by simp))
    | bl j => cases ry; exact PySem.EqNone.ne_none_bool (fin_bl I q (by simp))
    | int j => obtain ⟨t', rfl⟩ := ry; exact PySem.EqNone.ne_none_int (fin_bl I q (by simp))
    | str j => obtain ⟨t', rfl⟩ := ry; exact PySem.EqNone.ne_none_str (fin_bl I q (by simp))
    | _ => exact absurd (show false = true from hs) Bool.false_ne_true
  | bl i =>
    cases rx
    cases y with
    | non => cases ry; exact PySem.EqNone.ne_bool_none (fin_bl I q (by simp))
    | bl j => cases ry; exact ne_bool (fin_bl I q (congrArg not dec_bl))
    | str j => obtain ⟨t', rfl⟩ := ry; exact PySem.EqMixed.ne_bool_str (fin_bl I q (by simp))
    | _ => exact absurd (show false = true from hs) Bool.false_ne_true
  | int i =>
    obtain ⟨t, rfl⟩ := rx
    cases y with
    | non => cases ry; exact PySem.EqNone.ne_int_none (fin_bl I q (by simp))
    | int j => obtain ⟨t', rfl⟩ := ry; exact ne_int (fin_bl I q (congrArg not dec_int))
    | str j => obtain ⟨t', rfl⟩ := ry; exact PySem.EqMixed.ne_int_str (fin_bl I q (by simp))
    | _ => exact absurd (show false = true from hs) Bool.false_ne_true
  | str i =>
    obtain ⟨t, rfl⟩ := rx
    cases y with
    | non => cases ry; exact PySem.EqNone.ne_str_none (fin_bl I q (by simp))
    | bl j => cases ry; exact PySem.EqMixed.ne_str_bool (fin_bl I q (by simp))
    | int j => obtain ⟨t', rfl⟩ := ry; exact PySem.EqMixed.ne_str_int (fin_bl I q (by simp))
    | str j => obtain ⟨t', rfl⟩ := ry; exact ne_str (fin_bl I q (congrArg not dec_str))
    | _ => exact absurd (show false = true from hs) Bool.false_ne_true
  | byt i =>
    obtain ⟨t, rfl⟩ := rx
    cases y with
    | byt j => obtain ⟨t', rfl⟩ := ry; exact PySem.W.ne_bytes (fin_bl I q (congrArg not dec_byt))
    | _ => exact absurd (show false = true from hs) Bool.false_ne_true
  | _ => cases y <;> exact absurd (show false = true from hs) Bool.false_ne_true

theorem op_lt : OpR X (compareOp .Lt) (rI0 fun i j => .bl (decide (i < j))) := opB0 fun _ _ _ _ _ _ _ q => lt_int q
theorem op_le : OpR X (compareOp .LtE) (rI0 fun i j => .bl (decide (i ≤ j))) := opB0 fun _ _ _ _ _ _ _ q => le_int q
theorem op_gt : OpR X (compareOp .Gt) (rI0 fun i j => .bl (decide (j < i))) := opB0 fun _ _ _ _ _ _ _ q => gt_int q
theorem op_ge : OpR X (compareOp .GtE) (rI0 fun i j => .bl (decide (j ≤ i))) := opB0 fun _ _ _ _ _ _ _ q => ge_int q
theorem op_lt_str : OpR X (compareOp .Lt) (fun x y H Q => ∃ i j, x = .str i ∧ y = .str j ∧ Q (.bl (decide (i.cps.toList < j.cps.toList))) H) := by
  intro pins s σ H x y v u Q I rx ry h
  obtain ⟨i, j, rfl, rfl, q⟩ := h
  obtain ⟨t, rfl⟩ := rx
  obtain ⟨t', rfl⟩ := ry
  exact lt_str (fin_bl I q rfl)
/-- is None, is not None: the right side a value none -/
theorem op_isN : OpR X (compareOp .Is) (fun x y H Q => y = .non ∧ Q (.bl (decide (x = .non))) H) := by
  intro pins s σ H x y v u Q I rx ry h
  obtain ⟨rfl, q⟩ := h
  cases ry
  refine is_none_gen (fin_bl I q ?_)
  cases x <;> first
    | (cases rx; rfl)
    | (obtain ⟨t, rfl⟩ := rx; rfl)
theorem op_notN : OpR X (compareOp .IsNot) (fun x y H Q => y = .non ∧ Q (.bl (!decide (x = .non))) H) := by
  intro pins s σ H x y v u Q I rx ry h
  obtain ⟨rfl, q⟩ := h
  cases ry
  refine isnot_none_gen (fin_bl I q ?_)
  cases x <;> first
    | (cases rx; rfl)
    | (obtain ⟨t, rfl⟩ := rx; rfl)

/-- is, is not of two objects that are tracked lists or instances -/
def isObj : HO → Bool
  | .lst _ => true
  | .ins _ _ _ => true
  | _ => false
/-- two rules for one operation: by cases -/
theorem OpR.or {f : Value → Value → Sem Value} {r r' : R2} (h : OpR X f r) (h' : OpR X f r') : OpR X f (fun x y H Q => r x y H Q ∨ r' x y H Q) := by
  intro pins s σ H x y v u Q I rx ry q
  rcases q with q | q
  · exact h pins s σ H x y v u Q I rx ry q
  · exact h' pins s σ H x y v u Q I rx ry q

theorem nomark (b : Expr) {op : CmpOp} (h : op ≠ .In := by decide) (h2 : op ≠ .NotIn := by decide) : behindInMarks op b = false := by
  have e1 : (op == CmpOp.In) = false := by cases op <;> first | rfl | exact absurd rfl h
  have e2 : (op == CmpOp.NotIn) = false := by cases op <;> first | rfl | exact absurd rfl h2
  cases b <;> simp [behindInMarks, e1, e2]
/-- a comparison as a value; hm: nomark b, or (for in, not in) by with_unfolding_all rfl -/
theorem pe_cmpR {op : CmpOp} {r : R2} (ho : OpR X (compareOp op) r) (ha : PE X a ta) (hb : PE X b tb) (hm : behindInMarks op b = false) : PE X (.Compare a [op] [b] pos) (tOp r ta tb) := by
  intro pins s σ H Q I h
  exact wpAny_Compare1 (binT ha hb I h fun v u s2 x y H2 I2 rx ry q => ho pins s2 σ H2 x y v u Q I2 rx ry q) hm
/-- a reading of a value as a test -/
def tTest (t : TE) : TT := fun σ H Q => t σ H fun x H' => ∃ k, x = .bl k ∧ Q k H'
theorem pt_cmpR {op : CmpOp} {r : R2} (ho : OpR X (compareOp op) r) (ha : PE X a ta) (hb : PE X b tb) (hm : behindInMarks op b = false) : PT X (.Compare a [op] [b] pos) (tTest (tOp r ta tb)) := by
  intro pins s σ H Q I h
  refine wpAny_isTrue_Compare1 (thn (ha pins s σ H _ I h) fun v s1 ⟨x, H1, I1, r1, q1⟩ => thn (hb pins s1 σ H1 _ I1 q1) fun u s2 ⟨y, H2, I2, r2, q2⟩ =>
    thn (ho pins s2 σ H2 x y v u _ I2 r1 r2 q2) fun c s3 ⟨z, H3, I3, r3, k, e, q3⟩ => ?_) hm
  subst e
  cases r3
  exact wpAny_truthy_bool ⟨H3, I3, q3⟩
/-- a op1 b op2 c -/
def tChain (r r' : R2) (ta tb tc : TE) : TE := fun σ H Q => ta σ H fun x H1 => tb σ H1 fun y H2 => r x y H2 fun z H3 => ∃ k, z = .bl k ∧
  (if k = true then tc σ H3 fun w' H4 => r' y w' H4 Q else Q (.bl false) H3)
/-! ### truth -/
/-- a value's truth by the abstract heap -/
def TruV (K : PySem.W.Frag) (x : V) (H : Hp) (k : Bool) : Prop :=
  match x with
  | .non => k = false
  | .bl b => k = b
  | .int i => k = (i != 0)
  | .str y => y.length ≤ sizeLine ∧ k = ((y.length : Int) != 0)
  | .byt y => y.size ≤ sizeLine ∧ k = ((y.size : Int) != 0)
  | .ref p => (∃ xs, SqL K H p xs ∧ k = !xs.isEmpty) ∨ (∃ xs, SqT K H p xs ∧ k = !xs.isEmpty) ∨ ∃ kvs, H p = some (.dK kvs) ∧ k = !kvs.isEmpty
  | _ => False
theorem line63 : (sizeLine : Nat) < 2 ^ 63 := by rw [sizeLine_eq]; decide
/-! ### strs and bytes -/
theorem op_add_str : OpR X (binaryOp .Add) (fun x y H Q => ∃ i j, x = .str i ∧ y = .str j ∧ i.length + j.length ≤ sizeLine ∧ Q (.str (i ++ j)) H) := by
  intro pins s σ H x y v u Q I rx ry h
  obtain ⟨i, j, rfl, rfl, hz, q⟩ := h
  obtain ⟨t, rfl⟩ := rx
  obtain ⟨t', rfl⟩ := ry
  exact add_str (fun t' tk => ⟨.str (i ++ j), H, I.tok _, ⟨_, rfl⟩, q⟩) hz
def PlainIxT (b : Expr) : Prop := ∀ o i, subscripted b false o i = operate [o, i] (getItem o i)
/-! ### scalar builtins, by CallR -/
theorem vals1 {x : V} {us : List Value} (r : Vals [x] us) : ∃ u, us = [u] ∧ RelV x u := by
  cases r with
  | cons r1 r2 => cases r2; exact ⟨_, rfl, r1⟩
theorem vals2 {x y : V} {us : List Value} (r : Vals [x, y] us) : ∃ u w', us = [u, w'] ∧ RelV x u ∧ RelV y w' := by
  cases r with
  | cons r1 r2 =>
    cases r2 with
    | cons r3 r4 => cases r4; exact ⟨_, _, rfl, r1, r3⟩
theorem call_max2 (hc : X.calm = true) : CallR X (.builtin "max") (fun xs H Q => ∃ i j, xs = [.int i, .int j] ∧ Q (.int (if j > i then j else i)) H) := by
  intro pins s σ H xs us Q I r h
  obtain ⟨i, j, rfl, q⟩ := h
  obtain ⟨u, w', rfl, ⟨t, rfl⟩, ⟨t', rfl⟩⟩ := vals2 r
  refine max_two_ints (I.ok.hd hc) fun h' tk k => ⟨_, H, I.kept k, ?_, q⟩
  by_cases hj : j > i
  · rw [if_pos hj, if_pos hj]; exact ⟨_, rfl⟩
  · rw [if_neg hj, if_neg hj]; exact ⟨_, rfl⟩
theorem call_int1 : CallR X (.type "int") (fun xs H Q => (∃ i, xs = [.int i] ∧ Q (.int i) H) ∨ ∃ k, xs = [.bl k] ∧ Q (.int (if k then 1 else 0)) H) := by
  intro pins s σ H xs us Q I r h
  rcases h with ⟨i, rfl, q⟩ | ⟨k, rfl, q⟩
  · obtain ⟨u, rfl, t, rfl⟩ := vals1 r
    exact call_int_int ⟨.int i, H, I, ⟨_, rfl⟩, q⟩
  · obtain ⟨u, rfl, r1⟩ := vals1 r
    cases r1
    exact call_int_bool ⟨.int (if k then 1 else 0), H, I.tok _, ⟨_, rfl⟩, q⟩
/-- len of a str, a bytes, a list, a tuple -/
def LenV (K : PySem.W.Frag) (x : V) (H : Hp) (n : Nat) : Prop :=
  match x with
  | .str y => y.length ≤ sizeLine ∧ n = y.length
  | .byt y => y.size ≤ sizeLine ∧ n = y.size
  | .ref p => (∃ xs, SqL K H p xs ∧ n = xs.length) ∨ ∃ xs, SqT K H p xs ∧ n = xs.length
  | _ => False
theorem call_len : CallR X (.builtin "len") (fun xs H Q => ∃ x n, xs = [x] ∧ LenV X.K x H n ∧ Q (.int n) H) := by
  intro pins s σ H xs us Q I r h
  obtain ⟨x, n, rfl, e, q⟩ := h
  obtain ⟨u, rfl, rx⟩ := vals1 r
  have hl := line63
  have hs : sizeLine = 16777216 := sizeLine_eq
  cases x with
  | str y =>
    obtain ⟨t, rfl⟩ := rx
    obtain ⟨hy, e'⟩ : y.length ≤ sizeLine ∧ n = y.length := e
    subst e'
    exact len_str (by omega) ⟨.int _, H, I.tok _, ⟨_, rfl⟩, q⟩
  | byt y =>
    obtain ⟨t, rfl⟩ := rx
    obtain ⟨hy, e'⟩ : y.size ≤ sizeLine ∧ n = y.size := e
    subst e'
    exact PySem.W.len_bytes (by omega) ⟨.int _, H, I.tok _, ⟨_, rfl⟩, q⟩
  | ref p =>
    cases rx
    have e' : (∃ xs, SqL X.K H p xs ∧ n = xs.length) ∨ ∃ xs, SqT X.K H p xs ∧ n = xs.length := e
    rcases e' with ⟨xs, hx, e'⟩ | ⟨xs, hx, e'⟩
    · subst e'
      obtain ⟨its, r', pl, hz⟩ := I.list hx
      have hlen := r'.length
      exact Calls.call_len_list pl.isList (by simp only [List.size_toArray]; omega) ⟨.int xs.length, H, I.tok _, ⟨_, by simp only [List.size_toArray]; rw [hlen]⟩, q⟩
    · subst e'
      obtain ⟨its, r', pl, hz⟩ := I.tuple hx
      have hlen := r'.length
      exact len_tuple pl (by simp only [List.size_toArray]; omega) ⟨.int xs.length, H, I.tok _, ⟨_, by simp only [List.size_toArray]; rw [hlen]⟩, q⟩
  | _ => exact (show False from e).elim
end
end L2

namespace L2
open PySem PySem.Spec PyProof.Rows

/-! ### an instance, its attributes a map -/
structure ObjM (h : Heap) (x dx C : Addr) (mA : Str → Option Value) : Prop where
  obj : h.get? x = some (PySem.W.instObj C dx)
  ns : h.Ns1 dx mA
  ne : dx ≠ x

theorem lookIn_ns {h : Heap} {dx : Addr} {mA : Str → Option Value} (n : h.Ns1 dx mA) : ∃ od, h.get? dx = some od ∧ ∀ name, PySem.W.lookIn name od = some (mA name) := by
  obtain ⟨o, es, ep, ho, hd, hk, _, hm⟩ := n
  refine ⟨o, ho, fun name => ?_⟩
  have e := hm name
  unfold nsFind findBy at e
  rw [← Array.find?_toList] at e
  unfold PySem.W.lookIn
  rw [hd]
  dsimp only
  split
  · rename_i y q
    rw [q] at e
    exact congrArg some e
  · rename_i q
    rw [q] at e
    have a : es.toList.any (·.refKey) = false := by
      rw [List.any_eq_false]
      intro y hy
      obtain ⟨z, t, hkey⟩ := hk y (Array.mem_toList_iff.mp hy)
      simp [DictEntry.refKey, hkey]
    have a' : ¬ es.toList.any (·.refKey) = true := by rw [a]; exact Bool.false_ne_true
    rw [if_neg a']
    exact congrArg some e

theorem ObjM.look {h : Heap} {x dx C : Addr} {mA : Str → Option Value} (I : ObjM h x dx C mA) : ∃ od, PySem.W.InstAt h x (PySem.W.instObj C dx) C (some od) ∧ ∀ name, PySem.W.lookIn name od = some (mA name) :=
  let ⟨od, ho, hl⟩ := lookIn_ns I.ns
  ⟨od, ⟨I.obj, rfl, rfl, ho⟩, hl⟩

section
variable {prog : Program} {w : World} {A : Around} {E : Value → Shared → Prop} {s : Shared} {K : PySem.W.Frag} {x dx C f : Addr} {mA : Str → Option Value} {name : Str} {v : Value}

end

/-! ### the attributes as a list of pairs -/
def putF (f : Str) (v : V) : List (Str × V) → List (Str × V)
  | [] => [(f, v)]
  | (g, x) :: r => if g = f then (g, v) :: r else (g, x) :: putF f v r
theorem RelO.some_of {v : V} {o : Option Value} (r : RelO (some v) o) : ∃ u, o = some u ∧ RelV v u := by
  cases o with
  | none => exact (show False from r).elim
  | some u => exact ⟨u, rfl, r⟩
section
variable {P : Program} {w : World} {H H' : Hp} {h h' : Heap} {a C dx : Addr} {fs fs' : List (Str × V)}
theorem ins_get (hok : HOk P w H h) (e : H a = some (.ins C dx fs)) : ∃ mA, ObjM h a dx C mA ∧ (∀ f, RelO (fs.lookup f) (mA f)) ∧ PySem.Within mA (fs.map (·.1)) ∧ fs.length ≤ 1000 ∧ H dx = some (.own a) := by
  obtain ⟨d, z, ne, ob, mA, n, r, q⟩ := (show ObjOk P w H h a (.ins C dx fs) from hok a _ e)
  exact ⟨mA, ⟨ob, n, ne⟩, r, q, z, d⟩
end

/-! ### what of the text a class must have -/
structure Cls (K : PySem.W.Frag) (C : Addr) : Prop where
  pg : PySem.W.plainGet K C Str.empty = true
  hd : PySem.W.hasDictIn K C = true
  po : PySem.W.plainOver K C = true
  sa : PySem.W.findIn K (.ref C) "__setattr__" = some (some (.builtin "object.__setattr__"))
theorem Cls.get {K : PySem.W.Frag} {C : Addr} (c : Cls K C) (f : Str) : PySem.W.plainGet K C f = true := c.pg
/-- no class of it has the name -/
def NoAttr (K : PySem.W.Frag) (C : Addr) (f : Str) : Prop := PySem.W.findIn K (.ref C) f = some none
/-- a constant of the class -/
structure Con (K : PySem.W.Frag) (C : Addr) (f : Str) (v : V) (u : Value) : Prop where
  at_ : PySem.W.findIn K (.ref C) f = some (some u)
  rel : RelV v u
  get : PySem.W.specialIn K u "__get__" = some none
  cp : PySem.W.copiedNames.contains f = false
/-- a method: a plain def of the class or of one above it -/
structure Meth (K : PySem.W.Frag) (C : Addr) (m : Str) (f : Addr) : Prop where
  at_ : PySem.W.findIn K (.ref C) m = some (some (.ref f))
  fn : PySem.W.isFn K (.ref f) = true
  kp : PySem.W.keepIn K (.ref f) = true

section
variable {X : Cx} {pins : List (Addr × Obj)} {σ : St} {H : Hp} {s : Shared} {a C dx : Addr} {fs : List (Str × V)} {f : Str} {v : V} {A : Around} {E : Value → Shared → Prop}

/-- a new instance, tracked, without attributes -/
theorem Inv.made (I : Inv X pins σ H s) : Inv X pins σ (upd (upd H s.heap.objs.size (.own (s.heap.objs.size + 1))) (s.heap.objs.size + 1) (.ins C s.heap.objs.size []))
    { s with heap := (s.heap.push PySem.W.emptyDict).push (PySem.W.instObj C s.heap.objs.size) } := by
  have e1 : (s.heap.push PySem.W.emptyDict).get? s.heap.objs.size = some PySem.W.emptyDict := Heap.get?_push_size s.heap rfl
  have e2 : ((s.heap.push PySem.W.emptyDict).push (PySem.W.instObj C s.heap.objs.size)).get? (s.heap.objs.size + 1) = some (PySem.W.instObj C s.heap.objs.size) := by
    have := Heap.get?_push_size (s.heap.push PySem.W.emptyDict) (o := PySem.W.instObj C s.heap.objs.size) rfl
    rwa [Heap.size_push] at this
  have e3 : (s.heap.push PySem.W.emptyDict).Ns s.heap.objs.size (fun _ => none) := ⟨PySem.W.emptyDict, #[], _, e1, rfl, (fun e he => absurd he (by simp)), fun _ => rfl⟩
  have I1 := I.laid (a := s.heap.objs.size) (o := .own (s.heap.objs.size + 1)) (h' := s.heap.push PySem.W.emptyDict) (t' := s.toks) (fun b u q => Heap.get?_push_of_some _ q) (Nat.le_refl _) ⟨_, e1⟩
  refine I1.laid (a := s.heap.objs.size + 1) (o := .ins C s.heap.objs.size []) (t' := s.toks) (fun b u q => Heap.get?_push_of_some _ q) (Nat.le_of_eq (Heap.size_push _ _)) ?_
  have ne : s.heap.objs.size ≠ s.heap.objs.size + 1 := Nat.ne_of_lt (Nat.lt_succ_self _)
  refine ⟨by rw [upd_ne ne, upd_same], Nat.zero_le _, ne, e2, fun _ => none, (Heap.Ns1.of_empty e3).at fun o q => Heap.get?_push_of_some _ q, fun _ => True.intro, fun y hy => absurd rfl hy⟩

end

/-! ### readings and rules -/
/-- e.f, an attribute of the instance -/
def tFld (K : PySem.W.Frag) (ta : TE) (f : Str) : TE := fun σ H Q => ta σ H fun x H1 => ∃ a C dx fs v, x = .ref a ∧ H1 a = some (.ins C dx fs) ∧ Cls K C ∧ NoAttr K C f ∧ fs.lookup f = some v ∧ Q v H1
/-- e.f, a constant of the class -/
def tCon (K : PySem.W.Frag) (ta : TE) (f : Str) : TE := fun σ H Q => ta σ H fun x H1 => ∃ a C dx fs v u, x = .ref a ∧ H1 a = some (.ins C dx fs) ∧ Cls K C ∧ Con K C f v u ∧ fs.lookup f = none ∧ Q v H1
/-- e.f = value -/
def sFld (K : PySem.W.Frag) (ta tv : TE) (f : Str) : TS := fun D σ H => tv σ H fun y H1 => ta σ H1 fun x H2 => ∃ a C dx fs, x = .ref a ∧ H2 a = some (.ins C dx fs) ∧ Cls K C ∧ NoAttr K C f ∧ fs.length < 1000 ∧
  D.nx σ (upd H2 a (.ins C dx (putF f y fs)))
/-- an augmented operator on two values -/
def InOp (X : Cx) (op : Operator) (rd : V → V → Hp → VK → Prop) : Prop :=
  ∀ (pins : List (Addr × Obj)) (s : Shared) (σ : St) (H : Hp) (x y : V) (u v : Value) (Q : VK), Inv X pins σ H s → RelV x u → RelV y v → rd x y H Q → wpAny (model X.prog X.w) X.A (inplaceOp op u v) (EP X pins σ Q) X.xe s
/-- e.f op= value -/
def sFldAug (K : PySem.W.Frag) (ta tv : TE) (rd : V → V → Hp → VK → Prop) (f : Str) : TS := fun D σ H => ta σ H fun x H1 => ∃ a C dx fs v, x = .ref a ∧ H1 a = some (.ins C dx fs) ∧ Cls K C ∧ NoAttr K C f ∧ fs.lookup f = some v ∧
  tv σ H1 fun y H2 => rd v y H2 fun z H3 => ∃ dx' fs', H3 a = some (.ins C dx' fs') ∧ fs'.length < 1000 ∧ D.nx σ (upd H3 a (.ins C dx' (putF f z fs')))

section
variable {X : Cx} {o e value : Expr} {f : Str} {pos pos' tpos : Pos} {ta tv : TE}
def rAdd : V → V → Hp → VK → Prop := fun x y H Q => ∃ i j, x = .int i ∧ y = .int j ∧ Q (.int (i + j)) H
def rSub : V → V → Hp → VK → Prop := fun x y H Q => ∃ i j, x = .int i ∧ y = .int j ∧ Q (.int (i - j)) H
end

/-! ### isinstance -/
section
variable {X : Cx} {pins : List (Addr × Obj)} {σ : St} {H : Hp} {s : Shared} {A : Around} {E : Value → Shared → Prop} {Q : Value → Shared → Prop} {c : Value} {b : Bool}
/-- the type of a value, as the fragment's deciders take it; for an instance its class -/
inductive TyOf (K : PySem.W.Frag) (H : Hp) : V → Value → Prop where
  | non : TyOf K H .non (.type "NoneType")
  | bl (x : Bool) : TyOf K H (.bl x) (.type "bool")
  | int (i : Int) : TyOf K H (.int i) (.type "int")
  | str (x : Str) : TyOf K H (.str x) (.type "str")
  | flt (x : UInt64) : TyOf K H (.flt x) (.type "float")
  | lst {a : Addr} {xs : List V} (e : H a = some (.lst xs)) : TyOf K H (.ref a) (.type "list")
  | frz {a : Addr} {o : Obj} {xs : List V} (e : H a = some (.frz o (.lst xs))) : TyOf K H (.ref a) (.type "list")
  | tup {a : Addr} {xs : List V} (e : H a = some (.tup xs)) : TyOf K H (.ref a) (.type "tuple")
  | dK {a : Addr} {kvs : List (Key × V)} (e : H a = some (.dK kvs)) : TyOf K H (.ref a) (.type "dict")
  | dT {a : Addr} {kvs : List (List Key × V)} (e : H a = some (.dT kvs)) : TyOf K H (.ref a) (.type "dict")
  | ins {a C dx : Addr} {fs : List (Str × V)} (e : H a = some (.ins C dx fs)) (cl : Cls K C) (ha : PySem.W.findIn K (.ref C) "__class__" = some (some (.builtin "object.__class__")))
      (hn : PySem.W.specialIn K (.builtin "object.__class__") "__get__" = some (some (.builtin "getset_descriptor.__get__"))) (htk : PySem.W.takesIn K (.builtin "object.__class__") = some true)
      (hm : PySem.W.mroIn K C (.type "object") = some true) : TyOf K H (.ref a) (.ref C)
/-- isinstance(x, c) for one class c, a built-in or an own one: kitOne's answer -/
theorem isinst_ok {x : V} {u t : Value} (I : Inv X pins σ H s) (rx : RelV x u) (ty : TyOf X.K H x t) (e : PySem.W.kitOne X.K t c = some b) (h : ∀ tk, Q (.bool b) { s with toks := tk }) :
    wpAny (model X.prog X.w) A (call (.builtin "isinstance") [u, c]) Q E s := by
  cases ty with
  | non => cases (show u = Value.none from rx); exact PySem.W.kia_one PySem.W.kitx_none I.kIn True.intro e (fun z => nomatch z) h
  | bl y => cases (show u = Value.bool y from rx); exact PySem.W.kia_one PySem.W.kitx_bool I.kIn True.intro e (fun z => nomatch z) h
  | int i => obtain ⟨t, q⟩ := (show ∃ t, u = Value.int i t from rx); cases q; exact PySem.W.kia_one PySem.W.kitx_int I.kIn True.intro e (fun z => nomatch z) h
  | str y => obtain ⟨t, q⟩ := (show ∃ t, u = Value.str y t from rx); cases q; exact PySem.W.kia_one PySem.W.kitx_str I.kIn True.intro e (fun z => nomatch z) h
  | flt y => obtain ⟨t, q⟩ := (show ∃ t, u = Value.float y t from rx); cases q; exact PySem.W.kia_one PySem.W.kitx_float I.kIn True.intro e (fun z => nomatch z) h
  | @lst a xs ea =>
    cases (show u = Value.ref a from rx)
    obtain ⟨_, _, n, _, h1⟩ := (show ObjOk X.prog X.w H s.heap a (.lst xs) from I.hok a _ ea)
    exact PySem.W.kia_one PySem.W.kitx_list I.kIn ⟨_, h1, rfl⟩ e (fun z => nomatch z) h
  | @frz a ob xs ea =>
    cases (show u = Value.ref a from rx)
    obtain ⟨_, _, _, n, _, h1⟩ := (show ObjOk X.prog X.w H s.heap a (.frz ob (.lst xs)) from I.hok a _ ea)
    exact PySem.W.kia_one PySem.W.kitx_list I.kIn ⟨_, h1, rfl⟩ e (fun z => nomatch z) h
  | @tup a xs ea =>
    cases (show u = Value.ref a from rx)
    obtain ⟨_, _, _, p⟩ := (show ObjOk X.prog X.w H s.heap a (.tup xs) from I.hok a _ ea)
    obtain ⟨o, h1, h2, _⟩ := p
    exact PySem.W.kia_one PySem.W.kitx_tuple I.kIn ⟨o, h1, h2⟩ e (fun z => nomatch z) h
  | @dK a kvs ea =>
    cases (show u = Value.ref a from rx)
    obtain ⟨_, _, vs, _, p⟩ := (show ObjOk X.prog X.w H s.heap a (.dK kvs) from I.hok a _ ea)
    obtain ⟨o, es, ep, h1, h2, _⟩ := p
    exact PySem.W.kia_one PySem.W.kitx_dict I.kIn ⟨o, h1, h2.1⟩ e (fun z => nomatch z) h
  | @dT a kvs ea =>
    cases (show u = Value.ref a from rx)
    obtain ⟨_, _, xs, _, o, es, ep, h1, h2, _⟩ := (show ObjOk X.prog X.w H s.heap a (.dT kvs) from I.hok a _ ea)
    exact PySem.W.kia_one PySem.W.kitx_dict I.kIn ⟨o, h1, h2.1⟩ e (fun z => nomatch z) h
  | @ins a C dx fs ea cl ha hn htk hm =>
    cases (show u = Value.ref a from rx)
    obtain ⟨mA, O, _⟩ := ins_get I.hok ea
    obtain ⟨od, J, _⟩ := O.look
    exact PySem.W.kia_one (PySem.W.kitx_own (cl.get _) cl.hd ha hn htk hm) I.kIn J e (fun z => nomatch z) h
end
end L2

namespace L2
open PySem PySem.Spec PyProof.Rows

/-! ### room -/
structure Room (k : Nat) (A : Around) : Prop where
  hd : A.handled = none
  dp : A.depth + 3 * k + 5 < recursionLimit
  un : A.units + 16 * k + 200 < cLine
  gd : A.guards = some []
theorem Room.mono {j k : Nat} {A : Around} (r : Room k A) (h : j ≤ k) : Room j A := ⟨r.hd, by have := r.dp; omega, by have := r.un; omega, r.gd⟩
theorem Room.deeper {k : Nat} {A : Around} (r : Room (k + 1) A) (env : Env) : Room k (A.deeper env) :=
  ⟨r.hd, by have := r.dp; show A.depth + 1 + 3 * k + 5 < _; omega, by have := r.un; show A.units + 3 + 16 * k + 200 < _; omega, r.gd⟩
theorem Room.in1 {k : Nat} {A : Around} (r : Room (k + 1) A) : Room k A.in1 :=
  ⟨r.hd, by have := r.dp; show A.depth + 3 * k + 5 < _; omega, by have := r.un; show A.units + 1 + 16 * k + 200 < _; omega, r.gd⟩
theorem Room.depth {k : Nat} {A : Around} (r : Room k A) : A.depth < recursionLimit := by have := r.dp; omega
theorem Room.units {k : Nat} {A : Around} (r : Room k A) : A.units + 64 < cLine := by have := r.un; omega
/-! ### argument lists and displays -/
def tNil : TA := fun _ H Q => Q [] H
def tCons (ta : TE) (tr : TA) : TA := fun σ H Q => ta σ H fun x H1 => tr σ H1 fun xs H2 => Q (x :: xs) H2
section
variable {X : Cx} {e : Expr} {es : List Expr} {te : TE} {t : TA} {pos : Pos}
theorem pa_nil : PA X [] tNil := fun _ _ _ _ H Q I h => Calls.spliced_nil ⟨[], H, I, .nil, h⟩
theorem pa_cons (ha : PE X e te) (hr : PA X es t) (hs : starEach (e :: es) X.env = (false, eval e X.env) :: starEach es X.env := by rfl) : PA X (e :: es) (tCons te t) := by
  intro pos pins s σ H Q I h
  rw [hs]
  show wpAny _ _ (spliced ((false, eval e X.env) :: backTo pos (starEach es X.env))) _ _ s
  refine Calls.spliced_cons (thn (ha pins s σ H _ I h) fun u s1 ⟨x, H1, I1, r1, q1⟩ => ?_)
  exact thn (hr pos pins s1 σ H1 _ I1 q1) fun us s2 ⟨xs, H2, I2, r2, q2⟩ => ⟨x :: xs, H2, I2, .cons r1 r2, q2⟩

/-- a tuple, a list of written items -/
def tTup (t : TA) : TE := fun σ H Q => t σ H fun xs H1 => xs.length ≤ sizeLine ∧ ∀ p, H1 p = none → Q (.ref p) (upd H1 p (.tup xs))
def tLst (t : TA) : TE := fun σ H Q => t σ H fun xs H1 => xs.length ≤ sizeLine ∧ ∀ p, H1 p = none → Q (.ref p) (upd H1 p (.lst xs))
theorem pe_tup {x1} (h : PA X es t) : PE X (.Tuple es x1 pos) (tTup t) := by
  intro pins s σ H Q I hq
  refine wpAny_Tuple_spliced (thn (h pos pins s σ H _ I hq) fun us s1 ⟨xs, H1, I1, r, z, q⟩ => ⟨by rw [← r.length]; exact z, ?_⟩)
  have hf : H1 s1.heap.objs.size = none := I1.hok.fresh (Nat.le_refl _)
  refine ⟨.ref s1.heap.objs.size, upd H1 s1.heap.objs.size (.tup xs), I1.laid (t' := s1.toks) (fun b u e => Heap.get?_push_of_some _ e) (Nat.le_refl _) ?_, rfl, q _ hf⟩
  exact ⟨z, us, r, ⟨_, Heap.get?_push_size _ rfl, rfl, _, rfl⟩⟩
theorem pe_lst (h : PA X es t) : PE X (.List es pos) (tLst t) := by
  intro pins s σ H Q I hq
  refine wpAny_List_spliced (thn (h pos pins s σ H _ I hq) fun us s1 ⟨xs, H1, I1, r, z, q⟩ => ⟨by rw [← r.length]; exact z, ?_⟩)
  have hf : H1 s1.heap.objs.size = none := I1.hok.fresh (Nat.le_refl _)
  refine ⟨.ref s1.heap.objs.size, upd H1 s1.heap.objs.size (.lst xs), I1.laid (t' := s1.toks) (fun b u e => Heap.get?_push_of_some _ e) (Nat.le_refl _) ?_, rfl, q _ hf⟩
  exact ⟨z, us, 0, r, Heap.get?_push_size _ rfl⟩
end

/-! ### what a def promises -/
/-- a def's promise: the bound arguments in the parameters' order, the heap, the wanted end, the wanted exception -/
abbrev Sp := List V → Hp → VK → XK → Prop
/-- how an exception lies behind a call (file 08 gives it): the callers' frames, abstract heap and state ahead of the call, the wish, the exception, the state -/
abbrev CXT := List Env → Hp → Shared → XK → Value → Shared → Prop

/-- the state at a call -/
structure Env0 (P : Program) (w : World) (K : PySem.W.Frag) (mg : Str → Option Value) (base : Heap) (A : Around) (outer : List Env) (s : Shared) (H : Hp) : Prop where
  frames : A.frames = some outer
  mod : Mod K mg base
  bs : ∀ b o, base.get? b = some o → s.heap.get? b = some o ∧ H b = none
  bsz : base.objs.size ≤ s.heap.objs.size
  funs : s.heap.FunFrames base outer
  frf : ∀ b ∈ frs outer, H b = none
  hok : HOk P w H s.heap
  bare : AllBare s.gens
/-- a call's end -/
def CE (outer : List Env) (P : Program) (w : World) (H : Hp) (s : Shared) (Q : VK) (u : Value) (s' : Shared) : Prop :=
  ∃ v H', s'.os = s.os ∧ AllBare s'.gens ∧ Un (frs outer) [] H H' s.heap s'.heap ∧ HOk P w H' s'.heap ∧ RelV v u ∧ Q v H'
def CR (CX : CXT) (outer : List Env) (P : Program) (w : World) (H : Hp) (s : Shared) (Q : VK) (E : XK) (r : Result) (s' : Shared) : Prop :=
  match r with
  | .ok (.ret u) => CE outer P w H s Q u s'
  | .ok _ => False
  | .error e => CX outer H s E e s'
structure FnOk (P : Program) (w : World) (K : PySem.W.Frag) (mg : Str → Option Value) (base : Heap) (CX : CXT) (k : Nat) (f : Addr) (fd : FuncData) (ps : List Str) (sp : Sp) : Prop where
  len : ∀ vs H Q E, sp vs H Q E → vs.length = ps.length
  run : ∀ (A : Around) (outer : List Env) (s : Shared) (H : Hp) (args : Args) (us : List Value) (vs : List V) (Q : VK) (E : XK), Room k A → Env0 P w K mg base A outer s H → BindsTo s fd args (ps.zip us) → Vals vs us → sp vs H Q E →
    codeAny (model P w) A (.call (.ref f) args) (CR CX outer P w H s Q E) s
theorem FnOk.mono {P : Program} {w : World} {K : PySem.W.Frag} {mg : Str → Option Value} {base : Heap} {CX : CXT} {j k : Nat} {f : Addr} {fd : FuncData} {ps : List Str} {sp : Sp} (F : FnOk P w K mg base CX j f fd ps sp) (h : j ≤ k) :
    FnOk P w K mg base CX k f fd ps sp := ⟨F.len, fun A outer s H args us vs Q E hr => F.run A outer s H args us vs Q E (hr.mono h)⟩
/-- a weaker promise -/
theorem FnOk.imp {P : Program} {w : World} {K : PySem.W.Frag} {mg : Str → Option Value} {base : Heap} {CX : CXT} {k : Nat} {f : Addr} {fd : FuncData} {ps : List Str} {sp sp' : Sp} (F : FnOk P w K mg base CX k f fd ps sp)
    (h : ∀ vs H Q E, sp' vs H Q E → sp vs H Q E) : FnOk P w K mg base CX k f fd ps sp' :=
  ⟨fun vs H Q E q => F.len vs H Q E (h _ _ _ _ q), fun A outer s H args us vs Q E hr he hb hv hs => F.run A outer s H args us vs Q E hr he hb hv (h _ _ _ _ hs)⟩

theorem Env0.in1 {P : Program} {w : World} {K : PySem.W.Frag} {mg : Str → Option Value} {base : Heap} {A : Around} {outer : List Env} {s : Shared} {H : Hp} (e : Env0 P w K mg base A outer s H) :
    Env0 P w K mg base A.in1 outer s H := ⟨e.frames, e.mod, e.bs, e.bsz, e.funs, e.frf, e.hok, e.bare⟩

section
variable {X : Cx} {pins : List (Addr × Obj)} {σ : St} {H : Hp} {s s' : Shared}
/-- from a body: what a callee wants -/
theorem Inv.env0 (I : Inv X pins σ H s) : Env0 X.prog X.w X.K X.mg X.base X.A X.stack s H :=
  ⟨I.ok.frames, I.ok.mod, I.bs, Nat.le_trans I.ok.bsz I.sz, I.stack, I.stkFree, I.hok, I.bare⟩
/-- behind a call -/
theorem Inv.after {Q : VK} {u : Value} (I : Inv X pins σ H s) (h : CE X.stack X.prog X.w H s Q u s') : EP X pins σ Q u s' := by
  obtain ⟨v, H', os, bare, un, hok, r, q⟩ := h
  obtain ⟨hh, g, d, t, os'⟩ := s'
  obtain rfl : os' = s.os := os
  exact ⟨v, H', I.call (h' := hh) (g' := g) (d' := d) (t' := t) (ch := []) un hok bare (fun b z => absurd z (by simp)), r, q⟩
end

/-! ### calls -/
/-- f(..): the written arguments, then the defaults dvs; E: what is wanted of an exception -/
def tCall (sp : Sp) (dvs : List V) (E : XK) (t : TA) : TE := fun σ H Q => t σ H fun vs H1 => sp (vs ++ dvs) H1 Q E
/-- o.m(..) of an instance of the class at C -/
def tMeth (C : Addr) (m : Str) (sp : Sp) (dvs : List V) (E : XK) (ta : TE) (t : TA) : TE := fun σ H Q => ta σ H fun x H1 => ∃ a dx fs, x = .ref a ∧ H1 a = some (.ins C dx fs) ∧ fs.lookup m = none ∧
  t σ H1 fun vs H2 => sp (x :: (vs ++ dvs)) H2 Q E
/-- C(..): a new instance and its dict, then __init__ -/
def tMake (C : Addr) (sp : Sp) (dvs : List V) (E : XK) (t : TA) : TE := fun σ H Q => t σ H fun vs H1 => ∀ x dx, H1 x = none → H1 dx = none → dx ≠ x →
  sp (.ref x :: (vs ++ dvs)) (upd (upd H1 dx (.own x)) x (.ins C dx [])) (fun v H2 => v = .non ∧ Q (.ref x) H2) E

/-- how the parameters are bound: us the positional arguments, kw the keywords' values by name, ds the defaults that fill up -/
def Binds (K : PySem.W.Frag) (fd : FuncData) (ps : List Str) (ds : List Value) : Prop :=
  ∀ (s : Shared) (us : List Value), K.In s.heap → (us ++ ds).length = ps.length → BindsTo s fd ⟨us, []⟩ (ps.zip (us ++ ds))
/-- every parameter is given -/
theorem Binds.all {K : PySem.W.Frag} {fd : FuncData} {ps : List Str} (h : ∀ us : List Value, us.length = ps.length → bindArgs fd ⟨us, []⟩ = pure (ps.zip us)) : Binds K fd ps [] := fun s us _ hl => by
  rw [List.append_nil] at hl ⊢
  exact .of_eq (h us hl)

/-- an exception of a callee reaches what this body wants of exceptions -/
def Passes (CX : CXT) (X : Cx) (E : XK) : Prop := ∀ (pins : List (Addr × Obj)) (σ : St) (H : Hp) (s : Shared) (e : Value) (s' : Shared), Inv X pins σ H s → CX X.stack H s E e s' → X.xe e s'

section
variable {X : Cx} {CX : CXT} {k : Nat} {f C : Addr} {fd : FuncData} {ps : List Str} {sp : Sp} {dvs : List V} {ds : List Value} {E : XK} {x m : Str} {p pos apos : Pos} {e o : Expr} {es : List Expr} {ta : TE} {t : TA}

/-- the callee runs -/
theorem run_fn {pins : List (Addr × Obj)} {σ : St} {H : Hp} {s : Shared} {Q : VK} {us : List Value} {vs : List V} (F : FnOk X.prog X.w X.K X.mg X.base CX k f fd ps sp) (hr : Room k X.A) (hb : Binds X.K fd ps ds) (hd : Vals dvs ds) (hx : Passes CX X E)
    (I : Inv X pins σ H s) (r : Vals vs us) (h : sp (vs ++ dvs) H Q E) : wpAny (model X.prog X.w) X.A (call (.ref f) us) (EP X pins σ Q) X.xe s := by
  have r2 : Vals (vs ++ dvs) (us ++ ds) := r.append hd
  have hl : (us ++ ds).length = ps.length := by rw [← r2.length]; exact F.len _ _ _ _ h
  refine wpAny_call (codeAny_mono (F.run X.A X.stack s H ⟨us, []⟩ (us ++ ds) (vs ++ dvs) Q E hr I.env0 (hb s us I.kIn hl) r2 h) fun r s' hq => ?_)
  cases r with
  | error e => exact hx pins σ H s e s' I hq
  | ok fl =>
    cases fl with
    | ret u => exact I.after hq
    | next => exact False.elim hq
    | brk => exact False.elim hq
    | cont => exact False.elim hq

theorem pe_call (F : FnOk X.prog X.w X.K X.mg X.base CX k f fd ps sp) (hr : Room k X.A) (hg : Gl X x) (hm : X.mg x = some (.ref f)) (hk : PySem.W.keepIn X.K (.ref f) = true) (hb : Binds X.K fd ps ds) (hd : Vals dvs ds) (hx : Passes CX X E)
    (ha : PA X (e :: es) t) (hdb : (x == ("__debug__" : Str)) = false := by decide) (he : starEach (e :: es) X.env = (false, eval e X.env) :: starEach es X.env := by rfl) (hpl : (backTo pos (starEach es X.env)).any (·.1) = false := by rfl) :
    PE X (.Call (.Name x p) (e :: es) [] pos) (tCall sp dvs E t) := by
  intro pins s σ H Q I h
  refine wpAny_Call_Name_kw (ld_glob I hg hm ?_ hdb)
  refine PySem.W.callWith_K (h₀ := X.base) I.ok.mod.kin hk (thn (ha pos pins s σ H _ I h) fun us s1 ⟨vs, H1, I1, r, q⟩ => ⟨I1.kIn, ?_⟩) he hpl
  exact run_fn F hr hb hd hx I1 r q
/-- what a class must have to be made -/
structure Mk (K : PySem.W.Frag) (C f : Addr) : Prop where
  makes : PySem.W.makesIn K C = true
  init : PySem.W.findIn K (.ref C) "__init__" = some (some (.ref f))
  fn : PySem.W.isFn K (.ref f) = true
  kp : PySem.W.keepIn K (.ref C) = true

end

/-! ### keywords -/
/-- the values of the keywords, from the left -/
def PK (X : Cx) (kws : List Keyword) (t : TA) : Prop :=
  ∀ (pos : Pos) (pins : List (Addr × Obj)) (s : Shared) (σ : St) (H : Hp) (Q : List V → Hp → Prop), Inv X pins σ H s → t σ H Q → wpAny (model X.prog X.w) X.A (evalAll ((backToKw pos (keywordEach kws X.env)).map (·.2))) (AP X pins σ Q) X.xe s
section
variable {X : Cx} {CX : CXT} {k : Nat} {f C : Addr} {fd : FuncData} {ps ks : List Str} {sp : Sp} {E : XK} {x m : Str} {p pos apos kpos : Pos} {e o : Expr} {es : List Expr} {kws : List Keyword} {te ta : TE} {t tk : TA} {nm : Option Str}
/-- how a call with keywords binds: g puts the positional values us and the keywords' values ws (names ks) in the parameters' order, defaults among them -/
structure KBinds (K : PySem.W.Frag) (fd : FuncData) (ps ks : List Str) (g : List Value → List Value → List Value) (gV : List V → List V → List V) : Prop where
  to : ∀ (s : Shared) (us ws : List Value), K.In s.heap → (g us ws).length = ps.length → BindsTo s fd ⟨us, ks.zip ws⟩ (ps.zip (g us ws))
  rel : ∀ {vs : List V} {us : List Value} {zs : List V} {ws : List Value}, Vals vs us → Vals zs ws → Vals (gV vs zs) (g us ws)
def tCallK (sp : Sp) (gV : List V → List V → List V) (E : XK) (t tk : TA) : TE := fun σ H Q => t σ H fun vs H1 => tk σ H1 fun zs H2 => sp (gV vs zs) H2 Q E
variable {g : List Value → List Value → List Value} {gV : List V → List V → List V}
end

/-! ### a def's body keeps its promise -/
/-- names: the parameters first -/
structure FnScope (N P : List Str) (sc : Scope) : Prop where
  kind : sc.kind = .function
  co : sc.isCoroutine = false
  gen : sc.isGenerator = false
  nd : N.Nodup
  pre : N.take P.length = P
  par : ∀ x ∈ P, sc.names.lookup x = some .local ∨ sc.names.lookup x = some .cell
  nofree : ∀ y ∈ sc.names, y.2 ≠ .free

theorem bindL_out {kindOf : Str → Option NameKind} {x : Str} : ∀ {binds : List (Str × Value)} {m : Str → Option Value}, (∀ v, (x, v) ∉ binds) → bindL kindOf binds m x = m x
  | [], _, _ => rfl
  | (n, v) :: r, m, h => by
    unfold bindL
    rw [bindL_out fun w hw => h w (List.mem_cons_of_mem _ hw)]
    split
    · have : x ≠ n := by rintro rfl; exact h v List.mem_cons_self
      simp [this]
    · rfl
theorem bindC_out {kindOf : Str → Option NameKind} {x : Str} : ∀ {binds : List (Str × Value)} {m : Str → Option Value}, (∀ v, (x, v) ∉ binds) → bindC kindOf binds m x = m x
  | [], _, _ => rfl
  | (n, v) :: r, m, h => by
    unfold bindC
    rw [bindC_out fun w hw => h w (List.mem_cons_of_mem _ hw)]
    split
    · rfl
    · have : x ≠ n := by rintro rfl; exact h v List.mem_cons_self
      simp [this]
theorem bindL_get {kindOf : Str → Option NameKind} {x : Str} {v : Value} : ∀ {P : List Str} {vs : List Value} {i : Nat} {m : Str → Option Value}, P.Nodup → P[i]? = some x → vs[i]? = some v → kindOf x = some .local →
    bindL kindOf (P.zip vs) m x = some v
  | [], _, _, _, _, h, _, _ => by simp at h
  | _ :: _, [], _, _, _, _, h, _ => by simp at h
  | p :: P, w :: vs, 0, m, nd, h1, h2, hk => by
    simp at h1 h2; subst h1; subst h2
    show bindL kindOf ((p, w) :: P.zip vs) m p = _
    unfold bindL
    rw [bindL_out fun v hv => (List.nodup_cons.mp nd).1 (List.of_mem_zip hv).1, if_pos hk]
    simp
  | p :: P, w :: vs, i + 1, m, nd, h1, h2, hk => by
    show bindL kindOf ((p, w) :: P.zip vs) m x = _
    unfold bindL
    exact bindL_get (i := i) (List.nodup_cons.mp nd).2 (by simpa using h1) (by simpa using h2) hk
theorem bindC_get {kindOf : Str → Option NameKind} {x : Str} {v : Value} : ∀ {P : List Str} {vs : List Value} {i : Nat} {m : Str → Option Value}, P.Nodup → P[i]? = some x → vs[i]? = some v → kindOf x ≠ some .local →
    bindC kindOf (P.zip vs) m x = some v
  | [], _, _, _, _, h, _, _ => by simp at h
  | _ :: _, [], _, _, _, _, h, _ => by simp at h
  | p :: P, w :: vs, 0, m, nd, h1, h2, hk => by
    simp at h1 h2; subst h1; subst h2
    show bindC kindOf ((p, w) :: P.zip vs) m p = _
    unfold bindC
    rw [bindC_out fun v hv => (List.nodup_cons.mp nd).1 (List.of_mem_zip hv).1, if_neg hk]
    simp
  | p :: P, w :: vs, i + 1, m, nd, h1, h2, hk => by
    show bindC kindOf ((p, w) :: P.zip vs) m x = _
    unfold bindC
    exact bindC_get (i := i) (List.nodup_cons.mp nd).2 (by simpa using h1) (by simpa using h2) hk

/-- the names' values at the entry -/
def start (N : List Str) (vs : List V) : St := vs.map some ++ List.replicate (N.length - vs.length) none

/-- the context of a def's body, at its entry; an exception leaves the frame, then lies as CX says -/
def cxOf (CX : CXT) (P : Program) (w : World) (K : PySem.W.Frag) (mg : Str → Option Value) (base : Heap) (N : List Str) (qual : Str) (scope : Scope) (f : Addr) (cd : Value) (A : Around) (outer : List Env) (s : Shared) (H : Hp) (E : XK) : Cx where
  prog := P
  w := w
  K := K
  mg := mg
  base := base
  A := A.deeper (envOfC qual scope s.heap.objs.size f cd)
  N := N
  s_0 := s
  H_0 := H
  env := envOfC qual scope s.heap.objs.size f cd
  outer := outer
  stack := envOfC qual scope s.heap.objs.size f cd :: outer
  ex := []
  calm := true
  fn := fun _ => true
  pn := []
  xe := fun e s' => wpAny (model P w) (A.deeper (envOfC qual scope s.heap.objs.size f cd)) (leaving (envOfC qual scope s.heap.objs.size f cd) e) (fun _ s'' => CX outer H s E e s'') (fun e' s'' => CX outer H s E e' s'') s'

theorem cell_has {sc : Scope} {n : Nat} {x : Str} (h : sc.names.lookup x = some .cell) : ∃ c, (cellsFrom n sc.names []).lookup x = some c := by
  have q := PySem.W.cellsFrom_some sc.names n [] (.inl h)
  exact Option.isSome_iff_exists.mp q

theorem inv_start {CX : CXT} {P : Program} {w : World} {K : PySem.W.Frag} {mg : Str → Option Value} {base : Heap} {N ps : List Str} {qual : Str} {scope : Scope} {f : Addr} {cd : Value} {A : Around} {outer : List Env} {s s1 : Shared} {H : Hp} {E : XK} {us : List Value} {vs : List V}
    (S : FnScope N ps scope) (hd : A.handled = none) (e0 : Env0 P w K mg base A outer s H) (hl : vs.length = ps.length) (r : Vals vs us)
    (x : InCallC s s.heap.objs.size (bindL (envOfC qual scope s.heap.objs.size f cd).kindOf (ps.zip us) fun _ => none) (cellsFrom (s.heap.objs.size + 1) scope.names []) (bindC (envOfC qual scope s.heap.objs.size f cd).kindOf (ps.zip us) fun _ => none) s1) :
    Inv (cxOf CX P w K mg base N qual scope f cd A outer s H E) [] (start N vs) H s1 := by
  have hpl : ps.length ≤ N.length := by have := congrArg List.length S.pre; rw [List.length_take] at this; omega
  obtain ⟨h1, tk, rfl, hk⟩ := x.done
  have noA : ∀ b : Addr, b ∉ (cxOf CX P w K mg base N qual scope f cd A outer s H E).ex := fun b z => absurd (show b ∈ ([] : List Addr) from z) (by simp)
  refine ⟨⟨e0.mod, S.kind, rfl, rfl, Nat.le_refl _, fun y z c h1 h2 => ?_, fun y hy => ?_, fun y c _ h => ?_, fun _ => hd, Around.frames_deeper e0.frames, .inr ⟨rfl, rfl⟩, fun b z => absurd z (noA b), e0.bs, e0.bsz, fun b _ _ => noA b, fun b z => absurd z (noA b), e0.funs, e0.frf⟩,
    rfl, e0.bare, Un.kept hk, ⟨_, x.toInCall.ns, fun i y v h1 h2 h3 => ?_⟩, fun y c h => ⟨_, x.cell y c h⟩, e0.hok.fresh (Nat.le_refl _), fun y c h => ?_, fun p hp => absurd (show p ∈ ([] : List (Addr × Obj)) from hp) (by simp), e0.hok.kept hk, ?_⟩
  · exact name_of_addr x.apart (PySem.mem_of_lookup h1) (PySem.mem_of_lookup h2)
  · have hy : scope.names.lookup y = some .cell ∨ scope.names.lookup y = some .free := hy
    rcases hy with hy | hy
    · exact cell_has hy
    · exact absurd rfl (S.nofree _ (PySem.mem_of_lookup hy))
  · exact Nat.le_of_lt (x.above y c (PySem.mem_of_lookup h))
  · have hi : i < vs.length := by
      unfold start at h2
      by_cases hi : i < vs.length
      · exact hi
      · rw [List.getElem?_append_right (by simpa using hi)] at h2
        rw [List.getElem?_replicate] at h2
        split at h2 <;> cases h2
    have ha : vs[i]? = some v := by
      unfold start at h2
      rw [List.getElem?_append_left (by simpa using hi), List.getElem?_map] at h2
      cases e : vs[i]? with
      | none => rw [e] at h2; cases h2
      | some a => rw [e] at h2; cases h2; rfl
    obtain ⟨u, hu, rv⟩ := r.get ha
    have hp : ps[i]? = some y := by
      rw [← S.pre, List.getElem?_take_of_lt (by omega)]; exact h1
    have ndP : ps.Nodup := by rw [← S.pre]; exact S.nd.sublist (List.take_sublist _ _)
    refine ⟨u, rv, ?_⟩
    rcases S.par y (List.mem_of_getElem? hp) with k | k
    · exact .inl ⟨k, bindL_get ndP hp hu k⟩
    · obtain ⟨c, e⟩ := cell_has (n := s.heap.objs.size + 1) k
      refine .inr ⟨.inl k, c, e, ?_⟩
      have q := x.cell y c e
      rw [bindC_get ndP hp hu (by show scope.names.lookup y ≠ _; rw [k]; decide)] at q
      exact q
  · exact e0.hok.fresh (Nat.le_of_lt (x.above y c (PySem.mem_of_lookup h)))
  · unfold start
    show _ = N.length
    rw [List.length_append, List.length_map, List.length_replicate]
    omega

/-- THE RULE: a def (or a method) of the text, by its body. The body's reading t is chosen for each entry; it is run at the parameters' values -/
theorem fn_of {CX : CXT} {P : Program} {w : World} {K : PySem.W.Frag} {mg : Str → Option Value} {base : Heap} {k : Nat} {f : Addr} {name qual : Str} {params : Arguments} {body : List Stmt} {scope : Scope} {dV kV doc pm cdv ct oc : Value} {an od : Option Addr}
    {osl : Array (Option Value)} {N ps : List Str} {sp : Sp} (lk : K.lookup f = some ⟨oc, od, .func (PySem.W.fnOf name qual params body scope dV kV doc pm an cdv ct), osl⟩) (hcd : PySem.W.codeIn K cdv qual = true) (S : FnScope N ps scope)
    (len : ∀ vs H Q E, sp vs H Q E → vs.length = ps.length)
    (hbody : ∀ (A : Around) (outer : List Env) (s : Shared) (H : Hp) (vs : List V) (Q : VK) (E : XK), Room k (A.deeper (envOfC qual scope s.heap.objs.size f cdv)) → sp vs H Q E →
      ∃ t, PSs (cxOf CX P w K mg base N qual scope f cdv A outer s H E) body t ∧ t { nx := fun _ H' => Q .non H', rt := Q } (start N vs) H) :
    FnOk P w K mg base CX (k + 1) f (PySem.W.fnOf name qual params body scope dV kV doc pm an cdv ct) ps sp := by
  refine ⟨len, fun A outer s H args us vs Q E hr e0 hb r hsp => ?_⟩
  have hl := len _ _ _ _ hsp
  have KX : K.In s.heap := e0.mod.kin.keeps fun b o e => (e0.bs b o e).1
  have lim : s.heap.NoLimit := e0.mod.nolimit.keeps fun b o e => (e0.bs b o e).1
  have hkind : ∀ y ∈ ps.zip us, scope.names.lookup y.1 = some .local ∨ (scope.names.lookup y.1 = some .cell ∧ ((cellsFrom (s.heap.objs.size + 1) scope.names []).lookup y.1).isSome = true) := fun ⟨n, v⟩ hy => by
    rcases S.par n (List.of_mem_zip hy).1 with q | q
    · exact .inl q
    · exact .inr ⟨q, PySem.W.cellsFrom_some _ _ _ (.inl q)⟩
  refine codeAny_call_function hr.depth (KX _ _ lk) rfl S.co S.gen rfl (PySem.W.codeRec_of KX hcd) (hb _ _ _ _ ?_)
  refine wpAny_newFunctionEnv_cells S.kind hkind fun env he s1 x => ?_
  subst he
  refine ⟨lim.keeps x.toInCall.keep, codeAny_func ?_⟩
  obtain ⟨t, ht, hq⟩ := hbody A outer s H vs Q E (hr.deeper _) hsp
  have I : Inv (cxOf CX P w K mg base N qual scope f cdv A outer s H E) [] (start N vs) H s1 := inv_start S hr.hd e0 hl r x
  refine wpAny_mono (ht [] s1 (start N vs) H _ I hq) (fun fl s' hs => ?_) fun e s' hs => hs
  have fin : ∀ {σ' : St} {H' : Hp} {v : V} {u : Value}, Inv (cxOf CX P w K mg base N qual scope f cdv A outer s H E) [] σ' H' s' → RelV v u → Q v H' → CE outer P w H s Q u s' :=
    fun {σ' H' v u} J rv q => ⟨v, H', J.os, J.bare, J.base, J.hok, rv, q⟩
  cases fl with
  | ret u =>
    obtain ⟨v, σ', H', J, rv, q⟩ := hs
    exact fin J rv q
  | next =>
    obtain ⟨σ', H', J, q⟩ := hs
    exact fin (v := V.non) (u := Value.none) J rfl q
  | brk =>
    obtain ⟨_, _, _, q⟩ := hs
    exact False.elim q
  | cont =>
    obtain ⟨_, _, _, q⟩ := hs
    exact False.elim q
end L2

namespace L2
open PySem PySem.Spec PyProof.Rows
section
variable {X : Cx} {x : Str} {p pos : Pos} {e : Expr} {es : List Expr} {t : TA} {id T : String} {r : List V → Hp → VK → Prop}

def tCB (r : List V → Hp → VK → Prop) (t : TA) : TE := fun σ H Q => t σ H fun vs H1 => r vs H1 Q
/-- f(e, ..), f a built-in function -/
theorem pe_callB (hc : CallR X (.builtin id) r) (hg : Gl X x) (hm : X.mg x = none) (hv : bootBuiltins x = some (.builtin id)) (ha : PA X (e :: es) t) (hn : x ≠ "__name__" := by decide) (hdb : (x == ("__debug__" : Str)) = false := by decide)
    (he : starEach (e :: es) X.env = (false, eval e X.env) :: starEach es X.env := by rfl) (hpl : (backTo pos (starEach es X.env)).any (·.1) = false := by rfl) : PE X (.Call (.Name x p) (e :: es) [] pos) (tCB r t) := by
  intro pins s σ H Q I h
  refine wpAny_Call_Name_kw (ld_blt I hg hm hv ?_ hn hdb)
  exact PyProof.Rows.callWith_builtin1 (thn (ha pos pins s σ H _ I h) fun us s1 ⟨vs, H1, I1, r1, q1⟩ => hc pins s1 σ H1 vs us Q I1 r1 q1) he hpl
/-- T(e, ..), T a built-in type -/
theorem pe_callTy (hc : CallR X (.type T) r) (hg : Gl X x) (hm : X.mg x = none) (hv : bootBuiltins x = some (.type T)) (ha : PA X (e :: es) t) (hn : x ≠ "__name__" := by decide) (hdb : (x == ("__debug__" : Str)) = false := by decide)
    (he : starEach (e :: es) X.env = (false, eval e X.env) :: starEach es X.env := by rfl) (hpl : (backTo pos (starEach es X.env)).any (·.1) = false := by rfl) : PE X (.Call (.Name x p) (e :: es) [] pos) (tCB r t) := by
  intro pins s σ H Q I h
  refine wpAny_Call_Name_kw (ld_blt I hg hm hv ?_ hn hdb)
  exact PyProof.Rows.callWith_type1 (thn (ha pos pins s σ H _ I h) fun us s1 ⟨vs, H1, I1, r1, q1⟩ => hc pins s1 σ H1 vs us Q I1 r1 q1) he hpl
end
end L2

namespace HT
open PySem PyProof.Rows

/-- t < u of tuples of ints -/
def lexLt : List Int → List Int → Bool
  | [], [] => false
  | [], _ :: _ => true
  | _ :: _, [] => false
  | x :: xs, y :: ys => if x = y then lexLt xs ys else decide (x < y)
section
open PySem.SeqAt
open PySem.AutoSeq1 (wpAny_loadPart')
open PySem.MeetsSeq PySem.MeetsSeq2 PySem.MeetsSeq3

end

section
variable {prog : Program} {w : World} {A : Around} {E : Value → Shared → Prop} {s : Shared}

/-! ### t[a:b], not the whole -/
/-- a slice's bound as a place among n (d where it is left out) -/
def sIx (n d : Nat) : Option Int → Nat
  | none => d
  | some v => if v < 0 then (v + (n : Int)).toNat else min v.toNat n
theorem sIx_le (n d : Nat) (hd : d ≤ n) (o : Option Int) : sIx n d o ≤ n := by
  cases o with
  | none => exact hd
  | some v =>
    show (if v < 0 then (v + (n : Int)).toNat else min v.toNat n) ≤ n
    by_cases hv : v < 0
    · rw [if_pos hv]; omega
    · rw [if_neg hv]; exact Nat.min_le_right _ _
theorem clip_eq (v : Int) (n d : Nat) : (if v < 0 then max (v + (n : Int)) 0 else min v (n : Int)) = ((sIx n d (some v) : Nat) : Int) := by
  show (if v < 0 then max (v + (n : Int)) 0 else min v (n : Int)) = (((if v < 0 then (v + (n : Int)).toNat else min v.toNat n) : Nat) : Int)
  by_cases hv : v < 0
  · simp only [if_pos hv]; omega
  · simp only [if_neg hv]; omega
theorem adjust_gen (lo hi : Option Int) (n : Nat) : Builtin.Slice.sliceAdjust lo hi 1 (n : Int) = (((sIx n 0 lo : Nat) : Int), ((sIx n n hi : Nat) : Int)) := by
  have h1 : ¬ ((1 : Int) < 0) := by omega
  unfold Builtin.Slice.sliceAdjust
  simp only [h1, if_false]
  refine Prod.ext ?_ ?_
  · cases lo with
    | none => rfl
    | some v => exact clip_eq v n 0
  · cases hi with
    | none => rfl
    | some v => exact clip_eq v n n
theorem places_gen (i j : Nat) : Builtin.Slice.slicePlaces (i : Int) (j : Int) 1 = j - i := by
  unfold Builtin.Slice.slicePlaces
  have h1 : (1 : Int) > 0 := by omega
  simp only [h1, if_true, Int.ediv_one]
  split <;> omega
theorem slicePart_ {v : Value} {o : Option Int} {Q : Option Int → Shared → Prop} (p : IsPart v o) (h : Q o s) : wpAny (model prog w) A (Builtin.Slice.slicePartIndex v) Q E s := by
  cases p with
  | none => exact slicePart_none h
  | int i t => exact slicePart_int h
theorem sliceApplied_gen {sl : Addr} {vl vu : Value} {lo hi : Option Int} {n : Nat} {Q : Int × Int × Nat → Shared → Prop} (hs : s.heap.IsSliceOf sl vl vu .none) (pl : IsPart vl lo) (pu : IsPart vu hi)
    (h : Q (((sIx n 0 lo : Nat) : Int), 1, sIx n n hi - sIx n 0 lo) s) : wpAny (model prog w) A (Builtin.Slice.sliceApplied (.ref sl) (pure (n : Int))) Q E s := by
  obtain ⟨os, hos, hcs, hds⟩ := id hs
  unfold Builtin.Slice.sliceApplied Builtin.Slice.sliceFields
  refine wpAny_bind (wpAny_bind (wpAny_field hos hds (x := vl) rfl (wpAny_bind (wpAny_field hos hds (x := vu) rfl (wpAny_bind (wpAny_field hos hds (x := .none) rfl (wpAny_pure ?_)))))))
  refine wpAny_bind (slicePart_none ?_)
  show wpAny _ _ (if ((1 : Int) == 0) = true then _ else _) _ _ s
  rw [if_neg (by decide)]
  refine wpAny_bind (slicePart_ pl (wpAny_bind (slicePart_ pu (wpAny_bind (wpAny_pure ?_)))))
  show wpAny _ _ (match Builtin.Slice.sliceAdjust lo hi 1 (n : Int) with | (lo, hi) => pure (lo, (1 : Int), Builtin.Slice.slicePlaces lo hi 1)) _ _ s
  rw [adjust_gen lo hi n]
  show wpAny _ _ (pure (((sIx n 0 lo : Nat) : Int), (1 : Int), Builtin.Slice.slicePlaces ((sIx n 0 lo : Nat) : Int) ((sIx n n hi : Nat) : Int) 1)) _ _ s
  rw [places_gen]
  exact wpAny_pure h
theorem pick_gen (xs : Array Value) (i k : Nat) : ((List.range k).filterMap fun (m : Nat) => xs[((i : Int) + (m : Int) * 1).toNat]?).toArray = ((xs.toList.drop i).take k).toArray := by
  have e : (fun (m : Nat) => xs[((i : Int) + (m : Int) * 1).toNat]?) = fun m => xs[i + m]? := by
    funext m
    have : ((i : Int) + (m : Int) * 1).toNat = i + m := by omega
    rw [this]
  rw [e]
  have := pick_run xs i k
  rw [List.filterMap_map] at this
  have e2 : ((fun x => xs[x]?) ∘ fun x => i + x) = fun m => xs[i + m]? := rfl
  rw [e2] at this
  rw [this]

theorem getItem_tuple_cut {t sl : Addr} {items : Array Value} {vl vu : Value} {lo hi : Option Int} {Q : Value → Shared → Prop} (ht : IsTup s.heap t items) (hs : s.heap.IsSliceOf sl vl vu .none) (pl : IsPart vl lo) (pu : IsPart vu hi)
    (hw : ¬ (sIx items.size 0 lo = 0 ∧ sIx items.size items.size hi = items.size))
    (h : Q (.ref s.heap.objs.size) { s with heap := s.heap.push { cls := .type "tuple", data := .seq ((items.toList.drop (sIx items.size 0 lo)).take (sIx items.size items.size hi - sIx items.size 0 lo)).toArray } })
    (hsz : items.size ≤ sizeLine) : wpAny (model prog w) A (getItem (.ref t) (.ref sl)) Q E s := by
  have htake : sizeOk (.seq ((items.toList.drop (sIx items.size 0 lo)).take (sIx items.size items.size hi - sIx items.size 0 lo)).toArray) := by
    show ((items.toList.drop (sIx items.size 0 lo)).take (sIx items.size items.size hi - sIx items.size 0 lo)).toArray.size ≤ sizeLine
    rw [List.size_toArray, List.length_take, List.length_drop, Array.length_toList]
    omega
  have hj : sIx items.size items.size hi ≤ items.size := sIx_le _ _ (Nat.le_refl _) hi
  obtain ⟨os, hos, hcs, hds⟩ := id hs
  have hTs : s.TypeIs (.ref sl) "slice" := ⟨os, hos, hcs⟩
  unfold getItem
  try with_reducible refine wpAny_holding ?_
  first | refine wpAny_bind (wpAny_pure ?_) | skip
  refine wpAny_bind (wpAny_sequenceKey ht.typeIs (by decide) ?_)
  refine wpAny_bind (wpAny_callSpecial?_slot (name := Str.ofString "__getitem__") ht.typeIs PyProof.Rows.slot_tuple_getitem
    (wpAny_call_entry PyProof.Rows.slot_tuple_getitem ht.typeIs entry_tuple_getitem ?_ (args_tuple_getitem _ _)))
  show wpAny _ _ (Builtin.Tuple.tupleItemsOf (.ref t) >>= _) _ _ s
  refine wpAny_bind (tupleItemsOf_ ht ?_)
  refine wpAny_bind (wpAny_typeOf hTs ?_)
  rw [if_pos (by decide)]
  refine wpAny_bind (sliceApplied_gen hs pl pu ?_)
  have hno : ¬ ((((sIx items.size 0 lo : Nat) : Int) == 0 && (1 : Int) == 1 && (sIx items.size items.size hi - sIx items.size 0 lo) == items.size) = true) := by
    intro q
    rw [Bool.and_eq_true, Bool.and_eq_true] at q
    have q1 : ((sIx items.size 0 lo : Nat) : Int) = 0 := eq_of_beq q.1.1
    have q2 : sIx items.size items.size hi - sIx items.size 0 lo = items.size := eq_of_beq q.2
    exact hw ⟨by omega, by omega⟩
  show wpAny _ _ (if (((sIx items.size 0 lo : Nat) : Int) == 0 && (1 : Int) == 1 && (sIx items.size items.size hi - sIx items.size 0 lo) == items.size) = true then _ else _) _ _ s
  rw [if_neg hno, pick_gen]
  first
    | exact wpAny_bind (m := Builtin.Tuple.tupleExact _) (wpAny_newObj_type (wpAny_pure ⟨_, rfl, wpAny_pure h⟩) htake)
    | exact wpAny_bind (m := Builtin.Tuple.tupleExact _) (wpAny_newObj_type (wpAny_bind (wpAny_pure (wpAny_pure ⟨_, rfl, wpAny_pure h⟩))) htake)
    | exact wpAny_bind (wpAny_bind (m := Builtin.Tuple.tupleExact _) (wpAny_newObj_type (wpAny_pure (wpAny_pure ⟨_, rfl, wpAny_pure h⟩)) htake))
    | exact wpAny_bind (wpAny_bind (m := Builtin.Tuple.tupleExact _) (wpAny_newObj_type (wpAny_pure ⟨_, rfl, wpAny_pure h⟩) htake))
end
end HT

namespace L2
open PySem PySem.Spec PyProof.Rows

/-! ### the parts of a slice -/
abbrev TO := St → Hp → (Option Int → Hp → Prop) → Prop
/-- a slice's part (left out, or an int) -/
def PO (X : Cx) (e : Option Expr) (t : TO) : Prop :=
  ∀ (pins : List (Addr × Obj)) (s : Shared) (σ : St) (H : Hp) (Q : Option Int → Hp → Prop), Inv X pins σ H s → t σ H Q →
    wpAny (model X.prog X.w) X.A (evalPart e X.env) (fun u s' => ∃ o H', Inv X pins σ H' s' ∧ IsPart u o ∧ Q o H') X.xe s
def tNoPart : TO := fun _ H Q => Q none H
def tPart (t : TE) : TO := fun σ H Q => t σ H fun x H1 => ∃ i, x = .int i ∧ Q (some i) H1

section
variable {X : Cx} {e : Expr} {te : TE} {lo hi : Option Expr} {tl th : TO} {pos p2 : Pos}

theorem po_none : PO X none tNoPart := by
  intro pins s σ H Q I h
  rw [evalPart_none]
  exact wpAny_pure ⟨none, H, I, .none, h⟩
theorem po_some (h : PE X e te) : PO X (some e) (tPart te) := by
  intro pins s σ H Q I hw
  rw [evalPart_some]
  refine thn (h pins s σ H _ I hw) fun u s1 ⟨x, H1, I1, r1, q1⟩ => ?_
  obtain ⟨i, rfl, q⟩ := q1
  obtain ⟨t, rfl⟩ := r1
  exact ⟨some i, H1, I1, .int i t, q⟩

/-- what a slice of a value is, by values: the slice object stands at sl -/
def SlR (X : Cx) (r : V → Option Int → Option Int → Hp → VK → Prop) : Prop :=
  ∀ (pins : List (Addr × Obj)) (s : Shared) (σ : St) (H : Hp) (x : V) (v vl vu : Value) (lo hi : Option Int) (sl : Addr) (Q : VK), Inv X pins σ H s → RelV x v → s.heap.IsSliceOf sl vl vu .none → IsPart vl lo → IsPart vu hi → r x lo hi H Q →
    ∃ T id, typeLookup (.type T) "__getitem__" = pure (some (.builtin id)) ∧ s.TypeIs v T ∧ wpAny (model X.prog X.w) X.A (getItem v (.ref sl)) (EP X pins σ Q) X.xe s
theorem SlR.or {r r' : V → Option Int → Option Int → Hp → VK → Prop} (h : SlR X r) (h' : SlR X r') : SlR X (fun x lo hi H Q => r x lo hi H Q ∨ r' x lo hi H Q) := by
  intro pins s σ H x v vl vu lo hi sl Q I rx hs pl pu q
  rcases q with q | q
  · exact h pins s σ H x v vl vu lo hi sl Q I rx hs pl pu q
  · exact h' pins s σ H x v vl vu lo hi sl Q I rx hs pl pu q
def tSl (r : V → Option Int → Option Int → Hp → VK → Prop) (te : TE) (tl th : TO) : TE := fun σ H Q => te σ H fun x H1 => tl σ H1 fun l H2 => th σ H2 fun u H3 => r x l u H3 Q
/-- a[lo:hi], any a -/
theorem pe_slice {r : V → Option Int → Option Int → Hp → VK → Prop} (hr : SlR X r) (he : PE X e te) (hl : PO X lo tl) (hu : PO X hi th) : PE X (.Subscript e (.Slice lo hi none p2) pos) (tSl r te tl th) := by
  intro pins s σ H Q I h
  refine Subscript_ (thn (he pins s σ H _ I h) fun v s1 ⟨x, H1, I1, r1, q1⟩ => ?_)
  refine wpAny_Slice (thn (hl pins s1 σ H1 _ I1 q1) fun vl s2 ⟨l, H2, I2, pl, q2⟩ => thn (hu pins s2 σ H2 _ I2 q2) fun vu s3 ⟨u, H3, I3, pu, q3⟩ => ?_)
  rw [evalPart_none]
  refine wpAny_pure ?_
  have I4 : Inv X pins σ H3 { s3 with heap := s3.heap.push { cls := .type "slice", data := .fields #[vl, vu, .none] } } := I3.kept (t' := s3.toks) fun b ob q => Heap.get?_push_of_some _ q
  obtain ⟨T, id, hT, ht, hg⟩ := hr pins { s3 with heap := s3.heap.push { cls := .type "slice", data := .fields #[vl, vu, .none] } } σ H3 x v vl vu l u s3.heap.objs.size Q I4 r1 (Heap.IsSliceOf.new ..) pl pu q3
  show wpAny (model X.prog X.w) X.A (subscriptTail e (.Slice lo hi none p2) v (.ref s3.heap.objs.size)) (EP X pins σ Q) X.xe { s3 with heap := s3.heap.push { cls := .type "slice", data := .fields #[vl, vu, .none] } }
  exact tail_any (ops := [.ref s3.heap.objs.size, v]) ht hT hg (by with_unfolding_all rfl)

/-- the items of xs[lo:hi] -/
def cutV (xs : List V) (lo hi : Option Int) : List V := (xs.drop (HT.sIx xs.length 0 lo)).take (HT.sIx xs.length xs.length hi - HT.sIx xs.length 0 lo)
theorem cutV_length (xs : List V) (lo hi : Option Int) : (cutV xs lo hi).length ≤ xs.length := by
  unfold cutV
  rw [List.length_take, List.length_drop]
  omega
/-- t[lo:hi], not the whole of it (the whole would be t itself) -/
def rSlT (K : PySem.W.Frag) : V → Option Int → Option Int → Hp → VK → Prop := fun x lo hi H Q => ∃ a xs, x = .ref a ∧ SqT K H a xs ∧
  ¬ (HT.sIx xs.length 0 lo = 0 ∧ HT.sIx xs.length xs.length hi = xs.length) ∧ ∀ p, H p = none → Q (.ref p) (upd H p (.tup (cutV xs lo hi)))
theorem sl_tup : SlR X (rSlT X.K) := by
  intro pins s σ H x v vl vu lo hi sl Q I rx hs pl pu h
  obtain ⟨a, xs, rfl, hx, hw, q⟩ := h
  cases rx
  obtain ⟨its, r, ht, hz⟩ := I.tuple hx
  have hlen : its.toArray.size = xs.length := by rw [List.size_toArray]; exact r.length.symm
  refine ⟨"tuple", _, PyProof.Rows.slot_tuple_getitem.lookup, ht.typeIs, ?_⟩
  refine HT.getItem_tuple_cut ht hs pl pu (by rw [hlen]; exact hw) ?_ (by rw [hlen]; exact hz)
  rw [hlen]
  refine ⟨.ref s.heap.objs.size, _, I.laid (t' := s.toks) (o := .tup (cutV xs lo hi)) (fun b ob q => Heap.get?_push_of_some _ q) (Nat.le_refl _) ?_, rfl, q _ (I.hok.fresh (Nat.le_refl _))⟩
  exact ⟨Nat.le_trans (cutV_length xs lo hi) hz, _, (r.drop (HT.sIx xs.length 0 lo)).take (HT.sIx xs.length xs.length hi - HT.sIx xs.length 0 lo), IsTup.new _ _⟩

/-! ### t < u, t + u -/
def rLtT (K : PySem.W.Frag) : R2 := fun x y H Q => ∃ a b ns ms, x = .ref a ∧ y = .ref b ∧ SqT K H a (ns.map V.int) ∧ SqT K H b (ms.map V.int) ∧ Q (.bl (HT.lexLt ns ms)) H
/-- t + u, t not empty: u empty gives t itself -/
def rCatT (K : PySem.W.Frag) : R2 := fun x y H Q => ∃ a b xs ys, x = .ref a ∧ y = .ref b ∧ SqT K H a xs ∧ SqT K H b ys ∧ xs ≠ [] ∧ xs.length + ys.length ≤ sizeLine ∧
  (ys = [] → Q (.ref a) H) ∧ (ys ≠ [] → ∀ p, H p = none → Q (.ref p) (upd H p (.tup (xs ++ ys))))
end
end L2

namespace L2
open PySem PySem.Spec PyProof.Rows

/-! ### places -/
/-- the place that an index of any sign means -/
def ixN (n : Nat) (i : Int) : Option Nat := if 0 ≤ i then (if i < n then some i.toNat else none) else if -(n : Int) ≤ i then some (i + n).toNat else none
def atI {α : Type} (xs : List α) (i : Int) : Option α := (ixN xs.length i).bind fun j => xs[j]?
theorem ixN_seq {n : Nat} {i : Int} {j : Nat} (h : ixN n i = some j) : seqIndex? i n = some j ∧ j < n ∧ -(n : Int) ≤ i ∧ i < n := by
  unfold ixN at h
  by_cases h0 : 0 ≤ i
  · rw [if_pos h0] at h
    by_cases h1 : i < n
    · rw [if_pos h1] at h
      have e : i.toNat = j := Option.some.inj h
      exact ⟨by rw [seqIndex_of h0 h1, e], by omega, by omega, h1⟩
    · rw [if_neg h1] at h; cases h
  · rw [if_neg h0] at h
    by_cases h1 : -(n : Int) ≤ i
    · rw [if_pos h1] at h
      have e : (i + n).toNat = j := Option.some.inj h
      exact ⟨by rw [seqIndex_neg (by omega) h1, e], by omega, h1, by omega⟩
    · rw [if_neg h1] at h; cases h
theorem atI_get {α : Type} {xs : List α} {i : Int} {v : α} (h : atI xs i = some v) : ∃ j, seqIndex? i xs.length = some j ∧ xs[j]? = some v ∧ j < xs.length ∧ -(xs.length : Int) ≤ i ∧ i < xs.length := by
  unfold atI at h
  cases e : ixN xs.length i with
  | none => rw [e] at h; cases h
  | some j =>
    rw [e] at h
    obtain ⟨h1, h2, h3, h4⟩ := ixN_seq e
    exact ⟨j, h1, h, h2, h3, h4⟩
theorem atI_nat {α : Type} {xs : List α} {j : Nat} {v : α} (h : xs[j]? = some v) : atI xs (j : Int) = some v := by
  have hj : j < xs.length := (List.getElem?_eq_some_iff.mp h).1
  have e : ixN xs.length (j : Int) = some j := by
    unfold ixN
    rw [if_pos (by omega), if_pos (by omega)]; simp
  unfold atI; rw [e]; exact h
/-! ### what may be subscripted -/
/-- what stands as an index of a plain subscript -/
def PlainIx (b : Expr) : Prop := ∀ o i, subscripted b false o i = operate [o, i] (getItem o i)
/-- a subscript by values -/
def IxR (X : Cx) (r : R2) : Prop :=
  ∀ (value slice : Expr) (pins : List (Addr × Obj)) (s : Shared) (σ : St) (H : Hp) (x y : V) (v u : Value) (Q : VK), Inv X pins σ H s → RelV x v → RelV y u → r x y H Q →
    subscripted slice false v u = operate [v, u] (getItem v u) → wpAny (model X.prog X.w) X.A (subscriptTail value slice v u) (EP X pins σ Q) X.xe s
/-- a call of a builtin's method by values: the receiver, the arguments -/
def MtR (X : Cx) (id : String) (r : V → List V → Hp → VK → Prop) : Prop :=
  ∀ (pins : List (Addr × Obj)) (s : Shared) (σ : St) (H : Hp) (x : V) (xs : List V) (v : Value) (us : List Value) (Q : VK), Inv X pins σ H s → RelV x v → Vals xs us → r x xs H Q →
    wpAny (model X.prog X.w) X.A (call (.builtin id) (v :: us)) (EP X pins σ Q) X.xe s
section
variable {X : Cx} {a b : Expr} {ta tb : TE} {pos : Pos}
theorem IxR.or {r r' : R2} (h : IxR X r) (h' : IxR X r') : IxR X (fun x y H Q => r x y H Q ∨ r' x y H Q) := by
  intro value slice pins s σ H x y v u Q I rx ry q hs
  rcases q with q | q
  · exact h value slice pins s σ H x y v u Q I rx ry q hs
  · exact h' value slice pins s σ H x y v u Q I rx ry q hs
theorem MtR.or {id : String} {r r' : V → List V → Hp → VK → Prop} (h : MtR X id r) (h' : MtR X id r') : MtR X id (fun x xs H Q => r x xs H Q ∨ r' x xs H Q) := by
  intro pins s σ H x xs v us Q I rx rs q
  rcases q with q | q
  · exact h pins s σ H x xs v us Q I rx rs q
  · exact h' pins s σ H x xs v us Q I rx rs q
/-- a[b] -/
theorem pe_ix {r : R2} (hr : IxR X r) (ha : PE X a ta) (hb : PE X b tb) (hs : PlainIx b) : PE X (.Subscript a b pos) (tOp r ta tb) := by
  intro pins s σ H Q I h
  exact Subscript_ (binT ha hb I h fun v u s2 x y H2 I2 rx ry q => hr a b pins s2 σ H2 x y v u Q I2 rx ry q (hs _ _))

def rIxL (K : PySem.W.Frag) : R2 := fun x y H Q => ∃ p xs i v, x = .ref p ∧ y = .int i ∧ SqL K H p xs ∧ atI xs i = some v ∧ Q v H
def rIxT (K : PySem.W.Frag) : R2 := fun x y H Q => ∃ p xs i v, x = .ref p ∧ y = .int i ∧ SqT K H p xs ∧ atI xs i = some v ∧ Q v H
def rIxS : R2 := fun x y H Q => ∃ z i c, x = .str z ∧ y = .int i ∧ z.length ≤ sizeLine ∧ atI z.cps.toList i = some c ∧ Q (.str ⟨#[c]⟩) H
theorem ix_list : IxR X (rIxL X.K) := by
  intro value slice pins s σ H x y v u Q I rx ry h hs
  obtain ⟨p, xs, i, z, rfl, rfl, hq, he, q⟩ := h
  cases rx
  obtain ⟨t, rfl⟩ := ry
  obtain ⟨its, r, pl, hz⟩ := I.list hq
  obtain ⟨j, h1, h2, h3, h4, h5⟩ := atI_get he
  obtain ⟨w, ew, rw'⟩ := r.get h2
  have hl := r.length
  have hn := line63
  have fin : EP X pins σ Q w s := ⟨z, H, I, rw', q⟩
  by_cases h0 : 0 ≤ i
  · have hj : i.toNat = j := by
      rw [seqIndex_of h0 h5] at h1
      exact Option.some.inj h1
    exact item_listR pl.isList h0 (by omega) (by rw [hj]; simpa using ew) fin hs
  · have hj : (i + (its.toArray.size : Int)).toNat = j := by
      rw [seqIndex_neg (by omega) h4] at h1
      rw [List.size_toArray, ← hl]
      exact Option.some.inj h1
    exact subscriptTail_builtinR (x := w) pl.isList.typeIs slot_list_getitem.lookup
      (wpAny_getItem_list_neg (Q := fun r s' => r = w ∧ EP X pins σ Q r s') pl.isList (by omega) (by rw [List.size_toArray] <;> omega) (by omega) (by rw [hj]; simpa using ew) ⟨rfl, fin⟩) hs
theorem ix_tup : IxR X (rIxT X.K) := by
  intro value slice pins s σ H x y v u Q I rx ry h hs
  obtain ⟨p, xs, i, z, rfl, rfl, hq, he, q⟩ := h
  cases rx
  obtain ⟨t, rfl⟩ := ry
  obtain ⟨its, r, pl, hz⟩ := I.tuple hq
  obtain ⟨j, h1, h2, h3, h4, h5⟩ := atI_get he
  obtain ⟨w, ew, rw'⟩ := r.get h2
  have hl := r.length
  have hn := line63
  have fin : EP X pins σ Q w s := ⟨z, H, I, rw', q⟩
  exact subscriptTail_builtinR (x := w) pl.typeIs slot_tuple_getitem.lookup
    (getItem_tuple (j := j) (Q := fun r s' => r = w ∧ EP X pins σ Q r s') pl (by omega) (by omega) (by rw [List.size_toArray, ← hl]; exact h1) (by simpa using ew) ⟨rfl, fin⟩) hs
theorem ix_str : IxR X rIxS := by
  intro value slice pins s σ H x y v u Q I rx ry h hs
  obtain ⟨z, i, c, rfl, rfl, hz, he, q⟩ := h
  obtain ⟨t, rfl⟩ := rx
  obtain ⟨t', rfl⟩ := ry
  obtain ⟨j, h1, h2, h3, h4, h5⟩ := atI_get he
  have hl : z.cps.toList.length = z.length := by simp [Str.length]
  rw [hl] at h1 h4 h5
  have hn := line63
  exact tail_any (typeIs_str s z t) slot_str_getitem.lookup (getItem_str (c := c) (by
    have e1 : decide (i < -(2 ^ 63 : Int)) = false := decide_eq_false (by omega)
    have e2 : decide (i ≥ 2 ^ 63) = false := decide_eq_false (by omega)
    rw [e1, e2, Bool.or_false]) (by rw [h1]; simpa using h2) ⟨.str ⟨#[c]⟩, H, I.tok _, ⟨_, rfl⟩, q⟩) hs
/-- list, tuple or str -/
def rIx (K : PySem.W.Frag) : R2 := fun x y H Q => rIxL K x y H Q ∨ rIxT K x y H Q ∨ rIxS x y H Q
theorem ix_seq : IxR X (rIx X.K) := ix_list.or (ix_tup.or ix_str)

/-! ### xs[i] = v, any sign -/
/-- the list's object behind a store -/
theorem mapSeq_set (its : List Value) (n j : Nat) (u : Value) : Obj.mapSeq (·.setIfInBounds j u) { cls := .type "list", data := .seq its.toArray n } = { cls := .type "list", data := .seq (its.set j u).toArray n } := by
  simp [Obj.mapSeq]
theorem Inv.lst {pins : List (Addr × Obj)} {σ : St} {H : Hp} {s : Shared} {p : Addr} {xs : List V} (I : Inv X pins σ H s) (h : H p = some (.lst xs)) :
    ∃ (its : List Value) (n : Nat), Vals xs its ∧ s.heap.get? p = some { cls := .type "list", data := .seq its.toArray n } ∧ xs.length ≤ sizeLine := by
  obtain ⟨z, its, n, r, e⟩ := I.hok p _ h
  exact ⟨its, n, r, e, z⟩
/-- the list at p is written by an update of its object -/
theorem Inv.lstUpd {pins : List (Addr × Obj)} {σ : St} {H : Hp} {s : Shared} {p : Addr} {xs ys : List V} {its its' : List Value} {n n' : Nat} {f : Obj → Obj} (I : Inv X pins σ H s) (h : H p = some (.lst xs))
    (ho : s.heap.get? p = some { cls := .type "list", data := .seq its.toArray n }) (hf : f { cls := .type "list", data := .seq its.toArray n } = { cls := .type "list", data := .seq its'.toArray n' }) (r : Vals ys its') (hz : ys.length ≤ sizeLine) (t : Nat) :
    Inv X pins σ (upd H p (.lst ys)) { s with heap := s.heap.update p f, toks := t } := by
  have e : (s.heap.update p f).get? p = some { cls := .type "list", data := .seq its'.toArray n' } := by
    rw [Heap.get?_update_self f ho (by rw [hf] <;> rfl), hf]
  refine I.write (x := p) (e := p) (by rw [h]; trivial) (.inl rfl) (fun b u hb q => (Heap.get?_update_other _ _ (Ne.symm hb)).trans q) ⟨_, e⟩ ?_
  exact ⟨hz, its', n', r, e⟩
def rSetL : V → V → V → Hp → (Hp → Prop) → Prop := fun o i v H Q => ∃ p xs k j, o = .ref p ∧ i = .int k ∧ H p = some (.lst xs) ∧ ixN xs.length k = some j ∧ Q (upd H p (.lst (xs.set j v)))
theorem set_list : PSet X rSetL := by
  intro pins s σ H o i v ov iv u Q I ro ri rv h
  obtain ⟨p, xs, k, j, rfl, rfl, hp, hj, q⟩ := h
  cases ro
  obtain ⟨t, rfl⟩ := ri
  obtain ⟨its, n, r, ho, hz⟩ := I.lst hp
  obtain ⟨h1, h2, h3, h4⟩ := ixN_seq hj
  have hl := r.length
  have hn := line63
  have I' : Inv X pins σ (upd H p (.lst (xs.set j v))) { s with heap := s.heap.update p (Obj.mapSeq (·.setIfInBounds j u)) } :=
    I.lstUpd hp ho (mapSeq_set its n j u) (r.set rv j) (by rw [List.length_set]; exact hz) s.toks
  by_cases h0 : 0 ≤ k
  · have hk : k.toNat = j := by
      rw [seqIndex_of h0 h4] at h1
      exact Option.some.inj h1
    exact PySem.W.ki_setAt ho h0 (by omega) (by rw [List.size_toArray, ← hl]; exact h4) (by rw [hk]; exact ⟨_, I', q⟩)
  · have hk : (k + (its.toArray.size : Int)).toNat = j := by
      rw [seqIndex_neg (by omega) h3] at h1
      rw [List.size_toArray, ← hl]
      exact Option.some.inj h1
    exact PySem.W.ki_setBack ho (by omega) (by rw [List.size_toArray, ← hl]; exact h3) (by omega) (by rw [hk]; exact ⟨_, I', q⟩)

/-! ### slices -/
theorem slice_bounds (lo hi : Option Int) (n : Nat) : (sliceBounds lo hi none n).1 = ((HT.sIx n 0 lo : Nat) : Int) ∧ (sliceBounds lo hi none n).2.1 = ((HT.sIx n n hi : Nat) : Int) ∧ (sliceBounds lo hi none n).2.2 = 1 := by
  refine ⟨?_, ?_, rfl⟩
  · cases lo with
    | none => simp [sliceBounds, HT.sIx]
    | some i =>
      simp only [sliceBounds, HT.sIx, Option.getD_none, show (1 : Int) > 0 by decide, if_true]
      by_cases h : i < 0
      · simp only [h, if_true] <;> omega
      · simp only [h, if_false] <;> omega
  · cases hi with
    | none => simp [sliceBounds, HT.sIx]
    | some i =>
      simp only [sliceBounds, HT.sIx, Option.getD_none, show (1 : Int) > 0 by decide, if_true]
      by_cases h : i < 0
      · simp only [h, if_true] <;> omega
      · simp only [h, if_false] <;> omega
theorem slicePick_cut (its : List Value) (lo hi : Option Int) : slicePick its.toArray lo hi none = ((its.drop (HT.sIx its.length 0 lo)).take (HT.sIx its.length its.length hi - HT.sIx its.length 0 lo)).toArray := by
  obtain ⟨h1, h2, h3⟩ := slice_bounds lo hi its.toArray.size
  unfold slicePick
  rw [h1, h2, h3]
  simp only [sliceRange_one, pick_run, List.size_toArray] <;> rfl
/-- xs[lo:hi] of a list: a new list -/
def rSlL (K : PySem.W.Frag) : V → Option Int → Option Int → Hp → VK → Prop := fun x lo hi H Q => ∃ a xs, x = .ref a ∧ SqL K H a xs ∧ ∀ p, H p = none → Q (.ref p) (upd H p (.lst (cutV xs lo hi)))
theorem sl_list : SlR X (rSlL X.K) := by
  intro pins s σ H x v vl vu lo hi sl Q I rx hs pl pu h
  obtain ⟨a, xs, rfl, hx, q⟩ := h
  cases rx
  obtain ⟨its, r, ht, hz⟩ := I.list hx
  have hlen := r.length
  refine ⟨"list", _, slot_list_getitem.lookup, ht.isList.typeIs, ?_⟩
  refine wpAny_getItem_list_slice ht.isList hs pl pu .none (by simp) ?_ (by rw [List.size_toArray] <;> omega)
  rw [slicePick_cut, ← hlen]
  refine ⟨.ref s.heap.objs.size, _, I.laid (t' := s.toks) (o := .lst (cutV xs lo hi)) (fun b ob q => Heap.get?_push_of_some _ q) (Nat.le_refl _) ?_, rfl, q _ (I.hok.fresh (Nat.le_refl _))⟩
  exact ⟨Nat.le_trans (cutV_length xs lo hi) hz, _, 0, (r.drop (HT.sIx xs.length 0 lo)).take (HT.sIx xs.length xs.length hi - HT.sIx xs.length 0 lo), Heap.get?_push_size _ rfl⟩

/-! ### in, not in: flat items -/
def flatV : V → Bool
  | .non => true
  | .bl _ => true
  | .int _ => true
  | .str _ => true
  | _ => false
/-- == of flat values -/
def eqV : V → V → Bool
  | .non, .non => true
  | .bl a, .bl b => a == b
  | .bl a, .int b => (if a then 1 else 0) == b
  | .int a, .bl b => a == (if b then 1 else 0)
  | .int a, .int b => a == b
  | .str a, .str b => a == b
  | _, _ => false
theorem eqAt_V {A : Around} {s : Shared} {y x : V} {u v : Value} (ry : RelV y u) (rx : RelV x v) (fy : flatV y = true) (fx : flatV x = true) : SeqAt.EqAt A s u v (eqV y x) := by
  cases y with
  | non =>
    cases ry
    cases x with
    | non => cases rx; exact SeqAt.EqAt.same _
    | bl b => cases rx; exact SeqAt.EqAt.none_bool b
    | int b => obtain ⟨t, rfl⟩ := rx; exact SeqAt.EqAt.none_int b t
    | str b => obtain ⟨t, rfl⟩ := rx; exact SeqAt.EqAt.none_str b t
    | _ => exact absurd (show false = true from fx) Bool.false_ne_true
  | bl a =>
    cases ry
    cases x with
    | non => cases rx; exact SeqAt.EqAt.bool_none a
    | bl b => cases rx; exact SeqAt.EqAt.bool_bool a b
    | int b => obtain ⟨t, rfl⟩ := rx; exact SeqAt.EqAt.bool_int a b t
    | str b => obtain ⟨t, rfl⟩ := rx; exact SeqAt.EqAt.bool_str a b t
    | _ => exact absurd (show false = true from fx) Bool.false_ne_true
  | int a =>
    obtain ⟨t', rfl⟩ := ry
    cases x with
    | non => cases rx; exact SeqAt.EqAt.int_none a t'
    | bl b => cases rx; exact SeqAt.EqAt.int_bool a t' b
    | int b => obtain ⟨t, rfl⟩ := rx; exact SeqAt.EqAt.int_int a t' b t
    | str b => obtain ⟨t, rfl⟩ := rx; exact SeqAt.EqAt.int_str a t' b t
    | _ => exact absurd (show false = true from fx) Bool.false_ne_true
  | str a =>
    obtain ⟨t', rfl⟩ := ry
    cases x with
    | non => cases rx; exact SeqAt.EqAt.str_none a t'
    | bl b => cases rx; exact SeqAt.EqAt.str_bool a t' b
    | int b => obtain ⟨t, rfl⟩ := rx; exact SeqAt.EqAt.str_int a t' b t
    | str b => obtain ⟨t, rfl⟩ := rx; exact SeqAt.EqAt.str_str a t' b t
    | _ => exact absurd (show false = true from fx) Bool.false_ne_true
  | _ => exact absurd (show false = true from fy) Bool.false_ne_true
/-- the items' answers, read off the values (a value's own answer does not lean on its token) -/
def eqU (x : V) (u : Value) : Bool := match u with
  | .none => eqV .non x
  | .bool b => eqV (.bl b) x
  | .int i _ => eqV (.int i) x
  | .str z _ => eqV (.str z) x
  | _ => false
theorem eqU_of {x y : V} {u : Value} (r : RelV y u) (f : flatV y = true) : eqU x u = eqV y x := by
  cases y with
  | non => cases r; rfl
  | bl b => cases r; rfl
  | int i => obtain ⟨t, rfl⟩ := r; rfl
  | str z => obtain ⟨t, rfl⟩ := r; rfl
  | _ => exact absurd (show false = true from f) Bool.false_ne_true
theorem any_eqU {x : V} : ∀ {xs : List V} {us : List Value}, Vals xs us → xs.all flatV = true → us.any (eqU x) = xs.any fun y => eqV y x
  | _, _, .nil, _ => rfl
  | y :: xs, u :: us, .cons r t, f => by
    rw [List.all_cons, Bool.and_eq_true] at f
    rw [List.any_cons, List.any_cons, eqU_of r f.1, any_eqU t f.2]
theorem mem_eqAt {A : Around} {s : Shared} {x : V} {v : Value} (rx : RelV x v) (fx : flatV x = true) : ∀ {xs : List V} {us : List Value}, Vals xs us → xs.all flatV = true → ∀ u ∈ us, SeqAt.EqAt A s u v (eqU x u)
  | _, _, .nil, _ => fun u hu => by cases hu
  | y :: xs, u :: us, .cons r t, f => fun u' hu => by
    rw [List.all_cons, Bool.and_eq_true] at f
    rcases List.mem_cons.mp hu with rfl | hu
    · rw [eqU_of r f.1]; exact eqAt_V r rx f.1 fx
    · exact mem_eqAt rx fx t f.2 u' hu
def inV (x : V) (xs : List V) : Bool := xs.any fun y => eqV y x
/-- x in a list or tuple of flat items -/
def rIn (K : PySem.W.Frag) (neg : Bool) : R2 := fun x y H Q => ∃ p xs, y = .ref p ∧ (SqL K H p xs ∨ SqT K H p xs) ∧ flatV x = true ∧ xs.all flatV = true ∧ Q (.bl (if neg then !inV x xs else inV x xs)) H
theorem op_in_seq : OpR X (compareOp .In) (rIn X.K false) := by
  intro pins s σ H x y v u Q I rx ry h
  obtain ⟨p, xs, rfl, hq, fx, fs, q⟩ := h
  cases ry
  rcases hq with hq | hq
  · obtain ⟨its, r, pl, hz⟩ := I.list hq
    refine SeqAt.in_listAt (eqU x) pl.isList (fun w hw => mem_eqAt rx fx r fs w (by simpa using hw)) ⟨.bl _, H, I, rfl, ?_⟩
    rw [show its.toArray.any (eqU x) = its.any (eqU x) by simp, any_eqU r fs]
    exact q
  · obtain ⟨its, r, pl, hz⟩ := I.tuple hq
    refine SeqAt.in_tupleAt (eqU x) pl (fun w hw => mem_eqAt rx fx r fs w (by simpa using hw)) ⟨.bl _, H, I, rfl, ?_⟩
    rw [show its.toArray.any (eqU x) = its.any (eqU x) by simp, any_eqU r fs]
    exact q
/-! ### len, list(x), tuple(x) of any list or tuple that is read -/
theorem call_len_seq : CallR X (.builtin "len") (fun xs H Q => ∃ p ys, xs = [.ref p] ∧ (SqL X.K H p ys ∨ SqT X.K H p ys) ∧ Q (.int ys.length) H) := by
  intro pins s σ H xs us Q I r h
  obtain ⟨p, ys, rfl, hq, q⟩ := h
  obtain ⟨u, rfl, rx⟩ := vals1 r
  cases rx
  have hn := line63
  rcases hq with hq | hq
  · obtain ⟨its, r', pl, hz⟩ := I.list hq
    have hlen := r'.length
    exact Calls.call_len_list pl.isList (by simp only [List.size_toArray] <;> omega) ⟨.int ys.length, H, I.tok _, ⟨s.toks + 1, by rw [List.size_toArray, hlen]⟩, q⟩
  · obtain ⟨its, r', pl, hz⟩ := I.tuple hq
    have hlen := r'.length
    exact len_tuple pl (by simp only [List.size_toArray] <;> omega) ⟨.int ys.length, H, I.tok _, ⟨s.toks + 1, by rw [List.size_toArray, hlen]⟩, q⟩
theorem call_len_str : CallR X (.builtin "len") (fun xs H Q => ∃ z, xs = [.str z] ∧ z.length ≤ sizeLine ∧ Q (.int z.length) H) := by
  intro pins s σ H xs us Q I r h
  obtain ⟨z, rfl, hz, q⟩ := h
  obtain ⟨u, rfl, t, rfl⟩ := vals1 r
  have hn := line63
  exact len_str (by omega) ⟨.int z.length, H, I.tok _, ⟨_, rfl⟩, q⟩
theorem CallR.or {f : Value} {r r' : List V → Hp → VK → Prop} (h : CallR X f r) (h' : CallR X f r') : CallR X f (fun xs H Q => r xs H Q ∨ r' xs H Q) := by
  intro pins s σ H xs us Q I rs q
  rcases q with q | q
  · exact h pins s σ H xs us Q I rs q
  · exact h' pins s σ H xs us Q I rs q
theorem call_list_of : CallR X (.type "list") (fun xs H Q => ∃ p ys, xs = [.ref p] ∧ (SqL X.K H p ys ∨ SqT X.K H p ys) ∧ ∀ l, H l = none → Q (.ref l) (upd H l (.lst ys))) := by
  intro pins s σ H xs us Q I r h
  obtain ⟨p, ys, rfl, hq, q⟩ := h
  obtain ⟨u, rfl, rx⟩ := vals1 r
  cases rx
  have fin : ∀ (its : List Value), Vals ys its → ys.length ≤ sizeLine → ∀ (h' : Heap) (c' : Nat), (∀ b o', s.heap.get? b = some o' → h'.get? b = some o') →
      h'.get? s.heap.objs.size = some { cls := .type "list", dict := none, data := .seq its.toArray c', slots := #[] } → EP X pins σ Q (.ref s.heap.objs.size) { s with heap := h' } := fun its r' hz h' c' kp e =>
    ⟨.ref s.heap.objs.size, _, I.laid (t' := s.toks) kp (Nat.le_refl _) (show ObjOk X.prog X.w _ h' _ (.lst ys) from ⟨hz, its, c', r', e⟩), rfl, q _ (I.hok.fresh (Nat.le_refl _))⟩
  rcases hq with hq | hq
  · obtain ⟨its, r', pl, hz⟩ := I.list hq
    have hlen := r'.length
    obtain ⟨o, ho, hc, n, hd⟩ := pl.isList
    exact call_list_seq p (.inl rfl) ho hc hd (fun h' c' kp e => fin its r' hz h' c' kp e) (by simp only [List.size_toArray] <;> omega)
  · obtain ⟨its, r', pl, hz⟩ := I.tuple hq
    have hlen := r'.length
    obtain ⟨o, ho, hc, n, hd⟩ := pl
    exact call_list_seq p (.inr rfl) ho hc hd (fun h' c' kp e => fin its r' hz h' c' kp e) (by simp only [List.size_toArray] <;> omega)
theorem call_tuple_of : CallR X (.type "tuple") (fun xs H Q => ∃ p ys, xs = [.ref p] ∧ ((SqL X.K H p ys ∧ ∀ l, H l = none → Q (.ref l) (upd H l (.tup ys))) ∨ (SqT X.K H p ys ∧ Q (.ref p) H))) := by
  intro pins s σ H xs us Q I r h
  obtain ⟨p, ys, rfl, h⟩ := h
  obtain ⟨u, rfl, rx⟩ := vals1 r
  cases rx
  rcases h with ⟨hq, q⟩ | ⟨hq, q⟩
  · obtain ⟨its, r', pl, hz⟩ := I.list hq
    have hlen := r'.length
    refine call_tuple_list pl.isList (fun h' kp => ?_) (by simp only [List.size_toArray] <;> omega)
    have I1 : Inv X pins σ H { s with heap := h' } := I.kept (t' := s.toks) kp
    have I2 : Inv X pins σ (upd H h'.objs.size (.tup ys)) { s with heap := h'.push { cls := .type "tuple", data := .seq its.toArray } } :=
      I1.laid (t' := s.toks) (fun b o e => Heap.get?_push_of_some _ e) (Nat.le_refl _) (show ObjOk X.prog X.w _ _ _ (.tup ys) from ⟨hz, its, r', IsTup.new _ _⟩)
    exact ⟨.ref h'.objs.size, _, I2, rfl, q _ (I1.hok.fresh (Nat.le_refl _))⟩
  · obtain ⟨its, r', pl, hz⟩ := I.tuple hq
    exact call_tuple_same pl ⟨.ref p, H, I, rfl, q⟩

/-! ### the call of a builtin's method: o.m(..) -/
/-- the value is of that builtin type -/
def tyV (K : PySem.W.Frag) (T : String) (x : V) (H : Hp) : Prop := match x with
  | .str _ => T = "str"
  | .int _ => T = "int"
  | .ref p => (T = "list" ∧ ∃ xs, SqL K H p xs) ∨ (T = "tuple" ∧ ∃ o, K.lookup p = some o ∧ o.cls = .type "tuple" ∧ o.dict = none) ∨
      (T = "dict" ∧ ((∃ kvs, H p = some (.dK kvs)) ∨ ∃ kvs, H p = some (.dT kvs))) ∨ (T = "set" ∧ ∃ S n, H p = some (.set S n))
  | _ => False
theorem tyV_is {pins : List (Addr × Obj)} {σ : St} {H : Hp} {s : Shared} {T : String} {x : V} {v : Value} (I : Inv X pins σ H s) (r : RelV x v) (ty : tyV X.K T x H) :
    s.TypeIs v T ∧ ∀ a, v = .ref a → ∃ ob, s.heap.get? a = some ob ∧ ob.dict = none := by
  cases x with
  | str z =>
    obtain ⟨t, rfl⟩ := r
    cases (show T = "str" from ty)
    exact ⟨typeIs_str s z t, fun _ e => nomatch e⟩
  | int i =>
    obtain ⟨t, rfl⟩ := r
    cases (show T = "int" from ty)
    exact ⟨typeIs_int s i t, fun _ e => nomatch e⟩
  | ref p =>
    cases r
    rcases ty with ⟨rfl, xs, hq⟩ | ⟨rfl, o, hk, hc, hd⟩ | ⟨rfl, hk⟩ | ⟨rfl, S, n, hk⟩
    · obtain ⟨its, _, pl, _⟩ := I.list hq
      refine ⟨pl.isList.typeIs, fun a e => ?_⟩
      cases e
      obtain ⟨o, n, e, c, hd, _⟩ := pl
      exact ⟨o, e, hd⟩
    · refine ⟨⟨o, I.kIn p o hk, hc⟩, fun a e => ?_⟩
      cases e
      exact ⟨o, I.kIn _ o hk, hd⟩
    · have z : ∃ o, s.heap.get? p = some o ∧ o.ExactDict := by
        rcases hk with ⟨kvs, hk⟩ | ⟨kvs, hk⟩
        · obtain ⟨_, _, _, _, o, _, _, e, ex, _⟩ := I.hok p _ hk
          exact ⟨o, e, ex⟩
        · obtain ⟨_, _, _, _, o, _, _, e, ex, _⟩ := I.hok p _ hk
          exact ⟨o, e, ex⟩
      obtain ⟨o, e, ex⟩ := z
      refine ⟨⟨o, e, ex.1⟩, fun a e2 => ?_⟩
      cases e2
      exact ⟨o, e, ex.2.1⟩
    · obtain ⟨o, _, _, _, e, ex, _⟩ := I.hok p _ hk
      refine ⟨⟨o, e, ex.1⟩, fun a e2 => ?_⟩
      cases e2
      exact ⟨o, e, ex.2.1⟩
  | _ => exact False.elim ty
def tBM0 (K : PySem.W.Frag) (T : String) (r : V → List V → Hp → VK → Prop) (to : TE) : TE := fun σ H Q => to σ H fun x H1 => tyV K T x H1 ∧ r x [] H1 Q
def tBM (K : PySem.W.Frag) (T : String) (r : V → List V → Hp → VK → Prop) (to : TE) (t : TA) : TE := fun σ H Q => to σ H fun x H1 => tyV K T x H1 ∧ t σ H1 fun xs H2 => r x xs H2 Q
variable {o e : Expr} {es : List Expr} {to : TE} {t : TA} {name : Str} {apos cpos : Pos} {T id : String} {r : V → List V → Hp → VK → Prop}
theorem pe_bm (pa : PlainAttrs T) (slot : Slot T name id) (hty : typeOf (.builtin id) = pure (.type "method_descriptor")) (hm : MtR X id r) (ho : PE X o to) (ha : PA X (e :: es) t)
    (hbase : attributeBase o name X.env (eval o X.env) = eval o X.env := by rfl)
    (hfew : ((backTo cpos (starEach (e :: es) X.env)).all (fun x => !x.1) && (backToKw cpos (keywordEach [] X.env)).all (fun x => x.1.isSome)
      && decide ((e :: es).length + ([] : List Keyword).length + (if ([] : List Keyword).isEmpty then 0 else 1) < 30)) = true := by rfl)
    (hline : (apos.endLine == cpos.line) = true := by rfl) (hs : starEach (e :: es) X.env = (false, eval e X.env) :: starEach es X.env := by rfl) (hplain : (backTo cpos (starEach es X.env)).any (·.1) = false := by rfl) :
    PE X (.Call (.Attribute o name apos) (e :: es) [] cpos) (tBM X.K T r to t) := by
  intro pins s σ H Q I h
  refine wpAny_Call_method_late hbase hfew hline rfl (thn (ho pins s σ H _ I h) fun v s1 ⟨x, H1, I1, r1, ty, q1⟩ => ?_)
  obtain ⟨h1, h2⟩ := tyV_is I1 r1 ty
  refine ⟨T, id, pa, slot, hty, h1, h2, ?_⟩
  have hA := ha cpos pins s1 σ H1 _ I1 q1
  rw [hs] at hA ⊢
  refine Calls.callWith_builtin (by show (false || (backTo cpos (starEach es X.env)).any (·.1)) = false; rw [hplain] <;> rfl) (Calls.evalArgs_plain ?_)
  exact thn hA fun us s2 ⟨vs, H2, I2, r2, q2⟩ => hm pins s2 σ H2 x vs v us Q I2 r1 r2 q2
/- xs.append(e), list.index on a module's tuple .. are MtR facts of 06m -/
end
end L2

namespace L2
open PySem PySem.Spec PyProof.Rows

def MtM (X : Cx) (id : String) (r : V → List V → Hp → VK → Prop) : Prop :=
  ∀ (pins : List (Addr × Obj)) (s : Shared) (σ : St) (H : Hp) (x : V) (xs : List V) (v : Value) (us : List Value) (Q : VK), Inv X pins σ H s → RelV x v → Vals xs us → r x xs H Q →
    wpAny (model X.prog X.w) X.A (call (.builtin id) (v :: us)) (EP X pins σ Q) X.xe s

/-! ### lists of values -/
theorem Vals.one : ∀ {x : V} {us : List Value}, Vals [x] us → ∃ u, us = [u] ∧ RelV x u
  | _, _, .cons r .nil => ⟨_, rfl, r⟩
theorem Vals.two : ∀ {x y : V} {us : List Value}, Vals [x, y] us → ∃ u v, us = [u, v] ∧ RelV x u ∧ RelV y v
  | _, _, _, .cons r (.cons q .nil) => ⟨_, _, rfl, r, q⟩
theorem Vals.zero : ∀ {us : List Value}, Vals [] us → us = []
  | _, .nil => rfl
theorem Vals.dropLast {xs : List V} {us : List Value} (h : Vals xs us) : Vals xs.dropLast us.dropLast := by
  induction h with
  | nil => exact .nil
  | cons r t ih =>
    cases t with
    | nil => exact .nil
    | cons q t' => exact .cons r ih
theorem Vals.eraseIdx : ∀ {xs : List V} {us : List Value} (i : Nat), Vals xs us → Vals (xs.eraseIdx i) (us.eraseIdx i)
  | _, _, _, .nil => .nil
  | _, _, 0, .cons _ t => t
  | _, _, i + 1, .cons r t => .cons r (Vals.eraseIdx i t)
theorem Vals.reverse {xs : List V} {us : List Value} (h : Vals xs us) : Vals xs.reverse us.reverse := by
  induction h with
  | nil => exact .nil
  | cons r t ih => rw [List.reverse_cons, List.reverse_cons]; exact Vals.append ih (.cons r .nil)
section
variable {X : Cx} {pins : List (Addr × Obj)} {σ : St} {H : Hp} {s : Shared} {l b : Addr} {xs ys zs : List V}

/-! ### the two steps: a tracked list is rewritten, a new list is laid -/
theorem Inv.lset {its its' : List Value} {n : Nat} {f : Array Value → Array Value} {t' : Nat} (I : Inv X pins σ H s) (hH : H l = some (.lst xs))
    (e : s.heap.get? l = some { cls := .type "list", data := .seq its.toArray n }) (hf : f its.toArray = its'.toArray) (hv : Vals ys its') (hz : ys.length ≤ sizeLine) :
    Inv X pins σ (upd H l (.lst ys)) { s with heap := s.heap.update l (Obj.mapSeq f), toks := t' } := by
  have q := PySem.IsL.update e f
  rw [hf] at q
  refine I.write (x := l) (e := l) (by rw [hH]; exact trivial) (.inl rfl) (fun b' u hb hu => (Heap.get?_update_other s.heap (Obj.mapSeq f) (Ne.symm hb)).trans hu) ⟨_, q⟩ ?_
  exact ⟨hz, its', _, hv, q⟩
theorem Inv.lnew {its : List Value} {t' : Nat} (I : Inv X pins σ H s) (hv : Vals ys its) (hz : ys.length ≤ sizeLine) :
    Inv X pins σ (upd H s.heap.objs.size (.lst ys)) { s with heap := s.heap.push { cls := .type "list", data := .seq its.toArray }, toks := t' } :=
  I.laid (fun _ _ q => Heap.get?_push_of_some _ q) (Nat.le_refl _) ⟨hz, its, 0, hv, Heap.get?_push_size _ rfl⟩
theorem Inv.fresh (I : Inv X pins σ H s) : H s.heap.objs.size = none := I.hok.fresh (Nat.le_refl _)
theorem Inv.lstM (I : Inv X pins σ H s) (hH : H l = some (.lst xs)) : xs.length ≤ sizeLine ∧ ∃ (its : List Value) (n : Nat), Vals xs its ∧ xs.length = its.length ∧ s.heap.get? l = some { cls := .type "list", data := .seq its.toArray n } := by
  obtain ⟨z, its, n, r, e⟩ := I.hok l _ hH
  exact ⟨z, its, n, r, r.length, e⟩

theorem notLongL {n : Nat} (h : n ≤ sizeLine) : Builtin.List.listTooLong n = false := by
  unfold Builtin.List.listTooLong
  exact decide_eq_false (by omega)
end

section
variable {X : Cx}

/-! ### methods -/
def rAppend : V → List V → Hp → VK → Prop := fun x vs H Q => ∃ l xs y, x = .ref l ∧ vs = [y] ∧ H l = some (.lst xs) ∧ xs.length < sizeLine ∧ Q .non (upd H l (.lst (xs ++ [y])))
theorem mt_append : MtM X "list.append" rAppend := by
  intro pins s σ H x vs v us Q I rx rv h
  obtain ⟨l, xs, y, rfl, rfl, hH, hz, q⟩ := h
  cases rx
  obtain ⟨u, rfl, ru⟩ := rv.one
  obtain ⟨z, its, n, r, hl, e⟩ := I.lstM hH
  refine call_meets F.slot_list_append ⟨_, e, rfl⟩ F.entry_list_append (F.args_list_append_2 _ _) (PySem.list_append l its.toArray n u (by rw [List.size_toArray]; omega)) ⟨e, ?_⟩
  refine ⟨.non, _, I.lset (its' := its ++ [u]) hH e (by simp) (r.append (.cons ru .nil)) ?_, rfl, q⟩
  rw [List.length_append, List.length_singleton]
  omega

def rExtend : V → List V → Hp → VK → Prop := fun x vs H Q => ∃ l b xs zs, x = .ref l ∧ vs = [.ref b] ∧ H l = some (.lst xs) ∧ H b = some (.lst zs) ∧ xs.length + zs.length ≤ sizeLine ∧ Q .non (upd H l (.lst (xs ++ zs)))
def rPop : V → List V → Hp → VK → Prop := fun x vs H Q => ∃ l xs y, x = .ref l ∧ vs = [] ∧ H l = some (.lst xs) ∧ xs[xs.length - 1]? = some y ∧ Q y (upd H l (.lst xs.dropLast))
def rPopAt : V → List V → Hp → VK → Prop := fun x vs H Q => ∃ l xs i k y, x = .ref l ∧ vs = [.int i] ∧ H l = some (.lst xs) ∧ -(2 ^ 63) ≤ i ∧ i < 2 ^ 63 ∧ seqIndex? i xs.length = some k ∧ xs[k]? = some y ∧ Q y (upd H l (.lst (xs.eraseIdx k)))
def rReverse : V → List V → Hp → VK → Prop := fun x vs H Q => ∃ l xs, x = .ref l ∧ vs = [] ∧ H l = some (.lst xs) ∧ Q .non (upd H l (.lst xs.reverse))
def rClear : V → List V → Hp → VK → Prop := fun x vs H Q => ∃ l xs, x = .ref l ∧ vs = [] ∧ H l = some (.lst xs) ∧ Q .non (upd H l (.lst []))
/-! ### list + list, list += list, list * int -/
def rCat : R2 := fun x y H Q => ∃ l b xs zs, x = .ref l ∧ y = .ref b ∧ H l = some (.lst xs) ∧ H b = some (.lst zs) ∧ xs.length + zs.length ≤ sizeLine ∧ ∀ p, H p = none → Q (.ref p) (upd H p (.lst (xs ++ zs)))
theorem op_cat : OpR X (binaryOp .Add) rCat := by
  intro pins s σ H x y v u Q I rx ry h
  obtain ⟨l, b, xs, zs, rfl, rfl, hH, hB, hz, q⟩ := h
  cases rx
  cases ry
  obtain ⟨z, its, n, r, hl, e⟩ := I.lstM hH
  obtain ⟨z2, its2, n2, r2, hl2, e2⟩ := I.lstM hB
  refine PySem.P.add_list e e2 ?_ (by rw [List.size_toArray, List.size_toArray]; omega)
  have ea : its.toArray ++ its2.toArray = (its ++ its2).toArray := by simp
  rw [ea]
  exact ⟨.ref _, _, I.lnew (t' := s.toks) (r.append r2) (by rw [List.length_append]; omega), rfl, q _ I.fresh⟩
/-- a list times an int (a negative one is nothing) -/
def rRep : R2 := fun x y H Q => ∃ l k xs, x = .ref l ∧ y = .int k ∧ H l = some (.lst xs) ∧ -(2 ^ 63) ≤ k ∧ k < 2 ^ 63 ∧ xs.length * k.toNat ≤ sizeLine ∧
  ∀ p, H p = none → Q (.ref p) (upd H p (.lst (List.replicate k.toNat xs).flatten))
/-! ### del xs[i] -/
end

/-! ### xs[a:b] = ys -/
section
variable {prog : Program} {w : World} {A : Around} {E : Value → Shared → Prop} {s : Shared}
theorem bounds_run {a c n : Nat} (hac : a ≤ c) (hc : c ≤ n) : sliceBounds (some (a : Int)) (some (c : Int)) none n = ((a : Int), (c : Int), 1) := by
  simp only [sliceBounds, Option.getD_none]
  have h1 : ¬ ((a : Int) < 0) := by omega
  have h2 : ¬ ((c : Int) < 0) := by omega
  simp only [h1, h2, if_false, show (1 : Int) > 0 by decide, if_true]
  congr 1
  · omega
  · congr 1; omega
set_option maxRecDepth 100000 in
/-- list.__setitem__ with a slice of step one and another list -/
theorem setItem_slice {l b sl : Addr} {items new : Array Value} {n n2 : Nat} {vl vu : Value} {a c : Nat} {Q : Unit → Shared → Prop}
    (e : s.heap.get? l = some { cls := .type "list", data := .seq items n }) (e2 : s.heap.get? b = some { cls := .type "list", data := .seq new n2 }) (hne : l ≠ b)
    (hs : s.heap.IsSliceOf sl vl vu .none) (pl : IsPart vl (some (a : Int))) (pu : IsPart vu (some (c : Int))) (hac : a ≤ c) (hc : c ≤ items.size)
    (hsz : items.size + new.size ≤ sizeLine) (h : Q () { s with heap := s.heap.update l (Obj.mapSeq fun xs => xs.extract 0 a ++ new ++ xs.extract c xs.size) }) :
    wpAny (model prog w) A (setItem (.ref l) (.ref sl) (.ref b)) Q E s := by
  have hl : s.heap.IsList l items := PySem.IsL.isList e
  have hb : s.heap.IsList b new := PySem.IsL.isList e2
  obtain ⟨os, hos, hcs, hds⟩ := id hs
  have hTs : s.TypeIs (.ref sl) "slice" := ⟨os, hos, hcs⟩
  have hstep : ¬ ((rawPart none == rawInt 0) = true) := Bool.false_ne_true
  have hsame : Builtin.List.listSameRef (.ref l) (.ref b) = false := by
    unfold Builtin.List.listSameRef
    exact beq_eq_false_iff_ne.mpr hne
  have hmax : (max (a : Int) (c : Int)).toNat = c := by omega
  have hz' : ((fun xs : Array Value => xs.extract 0 a ++ new ++ xs.extract c xs.size) items).size ≤ sizeLine + 1 := by
    simp only [Array.size_append, Array.size_extract]
    omega
  unfold setItem
  try with_reducible refine wpAny_holding ?_
  first | refine wpAny_bind (wpAny_pure ?_) | skip
  refine wpAny_bind (wpAny_sequenceKey hl.typeIs (by decide) ?_)
  refine wpAny_bind (wpAny_callSpecial?_slot (name := Str.ofString "__setitem__") hl.typeIs slot_list_setitem
    (wpAny_call_entry slot_list_setitem hl.typeIs entry_list_setitem ?_ (args_list_setitem _ _ _)))
  show wpAny _ _ (Builtin.List.listSubscript? (.ref sl) >>= _) _ _ s
  refine wpAny_bind ?_
  unfold Builtin.List.listSubscript?
  refine wpAny_bind (wpAny_specialOf hTs slice_no_index ?_)
  simp only [Option.isNone_none, if_true]
  refine wpAny_pure ?_
  show wpAny _ _ (typeOf (.ref sl) >>= _) _ _ s
  refine wpAny_bind (wpAny_typeOf hTs ?_)
  first
    | rw [if_neg (by decide)]
    | refine PySem.W.KFB.if_not (by decide) ?_
  rw [listSliceParts_eq]
  refine wpAny_bind (wpAny_bind (wpAny_field hos hds (x := .none) rfl (wpAny_bind (wpAny_listPart .none ?_))))
  rw [if_neg hstep]
  refine wpAny_bind (wpAny_field hos hds (x := vl) rfl (wpAny_bind (wpAny_listPart pl ?_)))
  refine wpAny_bind (wpAny_field hos hds (x := vu) rfl (wpAny_bind (wpAny_listPart pu (wpAny_pure ?_))))
  first
    | simp only [hsame, Bool.false_eq_true, if_false]
    | refine PySem.W.KFB.if_not hsame ?_
    | (dsimp only
       rw [if_neg (by rw [hsame]; exact Bool.false_ne_true)])
  refine wpAny_bind (m := Builtin.List.listAllItems (.ref b) "must assign iterable to extended slice") ?_
  unfold Builtin.List.listAllItems
  refine wpAny_bind (wpAny_typeOf hb.typeIs ?_)
  first
    | refine PySem.W.KFB.if_so (by decide) ?_
    | rw [if_pos (by decide)]
    | simp only [beq_self_eq_true, Bool.true_or, if_true]
  unfold Builtin.List.listItems
  refine wpAny_bind (wpAny_seqItems e2 rfl (wpAny_pure ?_))
  refine wpAny_bind (wpAny_bind (wpAny_seqItems e rfl (wpAny_pure ?_)))
  refine wpAny_bind (wpAny_of_eq ((sliceIndices_raw (some (a : Int)) (some (c : Int)) none items.size (by simp)).trans (congrArg (pure : Int × Int × Int → Sem (Int × Int × Int)) (bounds_run hac hc))) ?_)
  show wpAny _ _ (if ((1 : Int) == 1) = true then _ else _) _ _ s
  rw [if_pos (by decide)]
  refine wpAny_bind (wpAny_rule ?_)
  first
    | simp only [notLongL hsz, Bool.false_eq_true, if_false]
    | refine PySem.W.KFB.if_not (notLongL hsz) ?_
  first | refine wpAny_bind (wpAny_pure ?_) | skip
  show wpAny _ _ (updateSeq l (fun xs => xs.extract 0 ((a : Int)).toNat ++ new ++ xs.extract (max (a : Int) (c : Int)).toNat xs.size) >>= _) _ _ s
  rw [hmax, Int.toNat_natCast]
  refine wpAny_bind (wpAny_updateSeq (hz := Nat.le_trans (Nat.le_add_right _ _) hsz) (_hz' := hz') e rfl ?_)
  refine wpAny_bind (wpAny_letGo ?_)
  first
    | exact wpAny_bind (wpAny_pure (wpAny_pure ⟨.none, rfl, wpAny_pure h⟩))
    | exact wpAny_pure ⟨.none, rfl, wpAny_pure h⟩
end

section
variable {X : Cx}
end
end L2

namespace L2
open PySem PySem.Spec PyProof.Rows

theorem Vals.ints : ∀ {ns : List Int} {us : List Value}, Vals (ns.map V.int) us → IntsAre us ns
  | [], us, h => by
    rw [List.map_nil] at h
    cases h
    exact IntsAre.nil
  | n :: ns, us, h => by
    rw [List.map_cons] at h
    cases h with
    | cons r t =>
      obtain ⟨k, rfl⟩ := r
      exact IntsAre.cons n k (Vals.ints t)
theorem Vals.strs : ∀ {xs : List Str} {us : List Value}, Vals (xs.map V.str) us → StrsAre us xs
  | [], us, h => by
    rw [List.map_nil] at h
    cases h
    exact StrsAre.nil
  | x :: xs, us, h => by
    rw [List.map_cons] at h
    cases h with
    | cons r t =>
      obtain ⟨k, rfl⟩ := r
      exact StrsAre.cons x k (Vals.strs t)
theorem Vals.bls : ∀ {bs : List Bool} {us : List Value}, Vals (bs.map V.bl) us → us = bs.map Value.bool
  | [], us, h => by
    rw [List.map_nil] at h
    cases h
    rfl
  | b :: bs, us, h => by
    rw [List.map_cons] at h
    cases h with
    | cons r t =>
      cases r
      rw [Vals.bls t, List.map_cons]
theorem Vals.ref1 {a : Addr} {us : List Value} (r : Vals [V.ref a] us) : us = [Value.ref a] := by
  cases r with
  | cons r t =>
    cases t
    cases r
    rfl
/-! ### the library's walks over a list of ints, kept objects alone -/
section
variable {prog : Program} {w : World} {A : Around} {E : Value → Shared → Prop} {s : Shared} {l : Addr} {its : List Value} {ns : List Int} {Q : Value → Shared → Prop}
end

/-! ### the calls, by values (CallR of 03t; MtR of 06l) -/
section
variable {X : Cx}
/-- sum(xs) of a list of ints -/
def rSum (K : PySem.W.Frag) : List V → Hp → VK → Prop := fun vs H Q => ∃ (a : Addr) (ns : List Int), vs = [V.ref a] ∧ SqL K H a (ns.map V.int) ∧ Q (.int ns.sum) H
/-- max(xs), min(xs) of a list of ints -/
def rMax (K : PySem.W.Frag) : List V → Hp → VK → Prop := fun vs H Q => ∃ (a : Addr) (ns : List Int), vs = [V.ref a] ∧ SqL K H a (ns.map V.int) ∧ 0 < ns.length ∧ ∀ m, m ∈ ns → (∀ y, y ∈ ns → y ≤ m) → Q (.int m) H
def rMin (K : PySem.W.Frag) : List V → Hp → VK → Prop := fun vs H Q => ∃ (a : Addr) (ns : List Int), vs = [V.ref a] ∧ SqL K H a (ns.map V.int) ∧ 0 < ns.length ∧ ∀ m, m ∈ ns → (∀ y, y ∈ ns → m ≤ y) → Q (.int m) H
/-! sorted, sort (fewer than 64 items: the library's own bound) -/
def rSorted (K : PySem.W.Frag) : List V → Hp → VK → Prop := fun vs H Q => ∃ (a : Addr) (ns : List Int), vs = [V.ref a] ∧ SqL K H a (ns.map V.int) ∧ ns.length < 64 ∧
  ∀ (ns' : List Int) (p : Addr), ns'.Perm ns → ns'.Pairwise (· ≤ ·) → H p = none → Q (.ref p) (upd H p (.lst (ns'.map V.int)))
def rSortedS (K : PySem.W.Frag) : List V → Hp → VK → Prop := fun vs H Q => ∃ (a : Addr) (xs : List Str), vs = [V.ref a] ∧ SqL K H a (xs.map V.str) ∧ xs.length < 64 ∧
  ∀ (ys : List Str) (p : Addr), ys.Perm xs → sortedS ys = true → H p = none → Q (.ref p) (upd H p (.lst (ys.map V.str)))
/-- xs.sort(), ints -/
def rSort : V → List V → Hp → VK → Prop := fun x xs H Q => ∃ (a : Addr) (ns : List Int), x = V.ref a ∧ xs = [] ∧ H a = some (.lst (ns.map V.int)) ∧ ns.length < 64 ∧
  ∀ ns' : List Int, ns'.Perm ns → ns'.Pairwise (· ≤ ·) → Q .non (upd H a (.lst (ns'.map V.int)))
end

/-! ### list.index, flat items -/
section
variable {X : Cx}
def rIndex (K : PySem.W.Frag) : V → List V → Hp → VK → Prop := fun x xs H Q => ∃ (a : Addr) (ys : List V) (y : V) (j : Nat) (z : V), x = V.ref a ∧ xs = [y] ∧ SqL K H a ys ∧ flatV y = true ∧ ys.all flatV = true ∧ ys[j]? = some z ∧ eqV z y = true ∧
  (∀ (m : Nat) (z' : V), m < j → ys[m]? = some z' → eqV z' y = false) ∧ Q (.int (j : Nat)) H
end

/-! ### type(x) of an own instance; is, is not of a module's class -/
section
variable {X : Cx}
end

/-! ### any(xs), all(xs) of a list of bools -/
theorem iter_any {prog : Program} {w : World} {A : Around} {E : Value → Shared → Prop} {s : Shared} {l : Addr} {items : Array Value} {Q : Value → Shared → Prop} (hl : s.heap.IsList l items)
    (h : ∀ s₂ : Shared, s₂ = { s with heap := s.heap.push { cls := .type "list_iterator", data := .fields #[.ref l, .int 0 0] } } →
      (s₂.heap.IsListIter s.heap.objs.size l 0 ∧ s₂.heap.IsList l items) → l ≠ s.heap.objs.size → Q (.ref s.heap.objs.size) s₂) : wpAny (model prog w) A (pyIter (.ref l)) Q E s := by
  have hlt : l < s.heap.objs.size := by obtain ⟨_, e, _⟩ := hl; exact Heap.lt_size e
  exact wpAny_pyIter_list hl (h _ rfl ⟨⟨_, Heap.get?_push_size _ rfl, rfl, rfl⟩, hl.push _⟩ (Nat.ne_of_lt hlt))
theorem truth_bools {prog : Program} {w : World} {A : Around} {bs : List Bool} {its : List Value} (e : its = bs.map Value.bool) :
    TruthOf prog w A (fun i v => its.toArray[i]? = some v) (fun i => bs.getD i false) := fun i v s Q E hv hq => by
  have hv' : its[i]? = some v := by simpa using hv
  rw [e, List.getElem?_map] at hv'
  obtain ⟨b, hb, rfl⟩ := Option.map_eq_some_iff.mp hv'
  have hg : bs.getD i false = b := by rw [List.getD_eq_getElem?_getD, hb] <;> rfl
  have hq' : Q (bs.getD i false) s := hq
  rw [hg] at hq'
  exact wpAny_truthy_bool hq'
theorem any_range : ∀ bs : List Bool, (List.range bs.length).any (fun i => bs.getD i false) = bs.any id
  | [] => rfl
  | b :: bs => by
    rw [List.length_cons, List.range_succ_eq_map, List.any_cons, List.any_map, List.any_cons, ← any_range bs]
    all_goals rfl
theorem all_range : ∀ bs : List Bool, (List.range bs.length).all (fun i => bs.getD i false) = bs.all id
  | [] => rfl
  | b :: bs => by
    rw [List.length_cons, List.range_succ_eq_map, List.all_cons, List.all_map, List.all_cons, ← all_range bs]
    all_goals rfl
section
variable {X : Cx}
def rAny (K : PySem.W.Frag) : List V → Hp → VK → Prop := fun vs H Q => ∃ (a : Addr) (bs : List Bool), vs = [V.ref a] ∧ SqL K H a (bs.map V.bl) ∧ Q (.bl (bs.any id)) H
def rAll (K : PySem.W.Frag) : List V → Hp → VK → Prop := fun vs H Q => ∃ (a : Addr) (bs : List Bool), vs = [V.ref a] ∧ SqL K H a (bs.map V.bl) ∧ Q (.bl (bs.all id)) H
theorem cr_any (hc : X.calm = true) : CallR X (.builtin "any") (rAny X.K) := by
  intro pins s σ H vs us Q I r h
  obtain ⟨a, bs, rfl, hs, q⟩ := h
  obtain ⟨its, rv, hl, _⟩ := I.list hs
  rw [Vals.ref1 r]
  have hb := rv.bls
  refine call_any_walk (iter_any hl.isList fun s₂ e2 st hne => ?_)
  subst e2
  refine ⟨_, _, _, _, _, _, _, rfl, Walks.list (A := X.A.in1) (I.ok.hd hc) _ a hne its.toArray, st, truth_bools hb, fun h' tk hk => ?_⟩
  refine ⟨.bl _, H, I.kept fun b o eo => hk b o (fun hmem => ?_) (Heap.get?_push_of_some _ eo), ?_, q⟩
  · rcases List.mem_cons.mp hmem with e1 | hmem
    · exact absurd (e1 ▸ Heap.lt_size eo) (Nat.lt_irrefl _)
    · cases hmem
  · show Value.bool _ = Value.bool _
    rw [← any_range, hb, List.size_toArray, List.length_map]
theorem cr_all (hc : X.calm = true) : CallR X (.builtin "all") (rAll X.K) := by
  intro pins s σ H vs us Q I r h
  obtain ⟨a, bs, rfl, hs, q⟩ := h
  obtain ⟨its, rv, hl, _⟩ := I.list hs
  rw [Vals.ref1 r]
  have hb := rv.bls
  refine call_all_walk (iter_any hl.isList fun s₂ e2 st hne => ?_)
  subst e2
  refine ⟨_, _, _, _, _, _, _, rfl, Walks.list (A := X.A.in1) (I.ok.hd hc) _ a hne its.toArray, st, truth_bools hb, fun h' tk hk => ?_⟩
  refine ⟨.bl _, H, I.kept fun b o eo => hk b o (fun hmem => ?_) (Heap.get?_push_of_some _ eo), ?_, q⟩
  · rcases List.mem_cons.mp hmem with e1 | hmem
    · exact absurd (e1 ▸ Heap.lt_size eo) (Nat.lt_irrefl _)
    · cases hmem
  · show Value.bool _ = Value.bool _
    rw [← all_range, hb, List.size_toArray, List.length_map]
end

/-! ### == and != of data at any depth: none, bools, ints, texts, lists, tuples -/
mutual
inductive Dp (K : PySem.W.Frag) (H : Hp) : V → PyData → Prop
  | non : Dp K H .non .none
  | bl (b : Bool) : Dp K H (.bl b) (.bool b)
  | int (i : Int) : Dp K H (.int i) (.int i)
  | str (x : Str) : Dp K H (.str x) (.str x)
  | lst {a : Addr} {xs : List V} {ds : List PyData} : SqL K H a xs → DpAll K H xs ds → Dp K H (.ref a) (.list ds)
  | tup {a : Addr} {xs : List V} {ds : List PyData} : SqT K H a xs → DpAll K H xs ds → Dp K H (.ref a) (.tuple ds)
inductive DpAll (K : PySem.W.Frag) (H : Hp) : List V → List PyData → Prop
  | nil : DpAll K H [] []
  | cons {v : V} {vs : List V} {d : PyData} {ds : List PyData} : Dp K H v d → DpAll K H vs ds → DpAll K H (v :: vs) (d :: ds)
end
section
variable {X : Cx} {pins : List (Addr × Obj)} {σ : St} {H : Hp} {s : Shared}
mutual
theorem Dp.reads (I : Inv X pins σ H s) : ∀ (d : PyData) (v : V) (u : Value), Dp X.K H v d → RelV v u → ∃ as, Reads s.heap u d as
  | .none, _, _, h, r => by
    cases h
    cases r
    exact ⟨_, Reads.none⟩
  | .bool b, _, _, h, r => by
    cases h
    cases r
    exact ⟨_, Reads.bool b⟩
  | .int i, _, _, h, r => by
    cases h
    obtain ⟨t, rfl⟩ := r
    exact ⟨_, Reads.int i t⟩
  | .str x, _, _, h, r => by
    cases h
    obtain ⟨t, rfl⟩ := r
    exact ⟨_, Reads.str x t⟩
  | .list ds, _, _, h, r => by
    cases h with
    | lst hs ha =>
      cases r
      obtain ⟨its, rv, ⟨o, n, ho, hc, _, hd⟩, _⟩ := I.list hs
      obtain ⟨as, hr⟩ := Dp.readsAll I ds _ its ha rv
      exact ⟨_, Reads.list ho hc hd hr⟩
  | .tuple ds, _, _, h, r => by
    cases h with
    | tup hs ha =>
      cases r
      obtain ⟨its, rv, ⟨o, ho, hc, n, hd⟩, _⟩ := I.tuple hs
      obtain ⟨as, hr⟩ := Dp.readsAll I ds _ its ha rv
      exact ⟨_, Reads.tuple ho hc hd hr⟩
  | .dict _, _, _, h, _ => by cases h
theorem Dp.readsAll (I : Inv X pins σ H s) : ∀ (ds : List PyData) (vs : List V) (us : List Value), DpAll X.K H vs ds → Vals vs us → ∃ as, ReadsAll s.heap us ds as
  | [], _, _, h, r => by
    cases h
    cases r
    exact ⟨_, ReadsAll.nil⟩
  | d :: ds, _, _, h, r => by
    cases h with
    | cons h1 h2 =>
      cases r with
      | cons r1 r2 =>
        obtain ⟨as, q1⟩ := Dp.reads I d _ _ h1 r1
        obtain ⟨bs, q2⟩ := Dp.readsAll I ds _ _ h2 r2
        exact ⟨_, ReadsAll.cons q1 q2⟩
end
end
section
variable {X : Cx}
def rEqD (K : PySem.W.Frag) : R2 := fun x y H Q => ∃ d e, Dp K H x d ∧ Dp K H y e ∧ SeqAt.shaped d = true ∧ SeqAt.shaped e = true ∧ Q (.bl (PyData.eqv d e)) H
def rNeD (K : PySem.W.Frag) : R2 := fun x y H Q => ∃ d e, Dp K H x d ∧ Dp K H y e ∧ SeqAt.shaped d = true ∧ SeqAt.shaped e = true ∧ Q (.bl (!PyData.eqv d e)) H
theorem op_eqD (hu : X.A.units + 64 < cLine) : OpR X (compareOp .Eq) (rEqD X.K) := by
  intro pins s σ H x y v u Q I rx ry h
  obtain ⟨d, e, hd, he, sd, se, q⟩ := h
  obtain ⟨as, r1⟩ := Dp.reads I d x v hd rx
  obtain ⟨bs, r2⟩ := Dp.reads I e y u he ry
  exact SeqAt.compareEq_shaped r1 r2 sd se hu ⟨.bl _, H, I, rfl, q⟩
theorem op_neD (hu : X.A.units + 64 < cLine) : OpR X (compareOp .NotEq) (rNeD X.K) := by
  intro pins s σ H x y v u Q I rx ry h
  obtain ⟨d, e, hd, he, sd, se, q⟩ := h
  obtain ⟨as, r1⟩ := Dp.reads I d x v hd rx
  obtain ⟨bs, r2⟩ := Dp.reads I e y u he ry
  exact SeqAt.compareNe_shaped r1 r2 sd se hu ⟨.bl _, H, I, rfl, q⟩
end
end L2

namespace L2
open PySem PySem.Spec PyProof.Rows
abbrev CellAt (h : Heap) (c : Addr) (v : Option Value) : Prop := h.IsCell c v
def relS (scope sc : Scope) : Scope :=
  { scope with names := scope.names.map fun (n, k) => if (k == .free && sc.kind == .function && sc.names.lookup n == some .cell) then (n, .cell) else (n, k) }

def cloFrom (cells : List (Str × Addr)) : List (Str × NameKind) → List (Str × Addr) → List (Str × Addr)
  | [], acc => acc
  | (n, k) :: r, acc => if k == .free then cloFrom cells r ((n, (cells.lookup n).getD 0) :: acc) else cloFrom cells r acc

theorem closure_loop (env : Env) (f : Str × NameKind → List (Str × Addr) → Sem (ForInStep (List (Str × Addr))))
    (hf : ∀ n k c, f (n, k) c = if k == .free then (do let a ← cellOf env n; pure (.yield ((n, a) :: c))) else pure (.yield c)) :
    ∀ (names : List (Str × NameKind)) (acc : List (Str × Addr)), (∀ y ∈ names, y.2 = .free → ∃ c, env.cells.lookup y.1 = some c) → forIn names acc f = pure (cloFrom env.cells names acc)
  | [], acc, _ => by rw [List.forIn_nil]; rfl
  | (n, k) :: r, acc, h => by
    rw [List.forIn_cons, hf]
    have ih := fun acc => closure_loop env f hf r acc fun y hy => h y (List.mem_cons_of_mem _ hy)
    unfold cloFrom
    by_cases hk : (k == NameKind.free) = true
    · rw [if_pos hk, if_pos hk]
      obtain ⟨c, hc⟩ := h (n, k) List.mem_cons_self (by simpa using hk)
      have e : cellOf env n = pure c := by unfold cellOf; rw [hc]
      rw [e]
      have e2 : (env.cells.lookup n).getD 0 = c := by rw [hc]; rfl
      rw [e2]
      exact ih _
    · rw [if_neg hk, if_neg hk]
      exact ih _
theorem closure_ok {scope : Scope} {env : Env} (h : ∀ y ∈ scope.names, y.2 = .free → ∃ c, env.cells.lookup y.1 = some c) : closureFor scope env = pure (cloFrom env.cells scope.names []) := by
  simp only [closureFor]
  rw [closure_loop env _ (fun n k c => rfl) scope.names [] h]
  rfl

theorem mem_lookup {α : Type} : ∀ {l : List (Str × α)} {n : Str} {c : α}, (n, c) ∈ l → ∃ c', l.lookup n = some c'
  | (k, v) :: r, n, c, h => by
    rw [List.lookup_cons]
    cases hb : n == k with
    | true => exact ⟨_, rfl⟩
    | false =>
      rcases List.mem_cons.mp h with e | h
      · cases e; simp at hb
      · exact mem_lookup h

theorem cloFrom_mem {cells : List (Str × Addr)} : ∀ {names : List (Str × NameKind)} {acc : List (Str × Addr)} {n : Str} {c : Addr}, (n, c) ∈ cloFrom cells names acc → (n, c) ∈ acc ∨ ((n, .free) ∈ names ∧ c = (cells.lookup n).getD 0)
  | [], _, _, _, h => .inl h
  | (m, k) :: r, acc, n, c, h => by
    unfold cloFrom at h
    split at h
    · rename_i hk
      have hk : k = .free := by simpa using hk
      rcases cloFrom_mem h with h | ⟨h1, h2⟩
      · rcases List.mem_cons.mp h with e | h
        · cases e; exact .inr ⟨hk ▸ List.mem_cons_self, rfl⟩
        · exact .inl h
      · exact .inr ⟨List.mem_cons_of_mem _ h1, h2⟩
    · rcases cloFrom_mem h with h | ⟨h1, h2⟩
      · exact .inl h
      · exact .inr ⟨List.mem_cons_of_mem _ h1, h2⟩
theorem cloFrom_acc {cells : List (Str × Addr)} : ∀ {names : List (Str × NameKind)} {acc : List (Str × Addr)} {p : Str × Addr}, p ∈ acc → p ∈ cloFrom cells names acc
  | [], _, _, h => h
  | (m, k) :: r, acc, p, h => by
    unfold cloFrom
    split
    · exact cloFrom_acc (List.mem_cons_of_mem _ h)
    · exact cloFrom_acc h
theorem cloFrom_has {cells : List (Str × Addr)} : ∀ {names : List (Str × NameKind)} {acc : List (Str × Addr)} {n : Str}, (n, .free) ∈ names → (n, (cells.lookup n).getD 0) ∈ cloFrom cells names acc
  | (m, k) :: r, acc, n, h => by
    unfold cloFrom
    rcases List.mem_cons.mp h with e | h
    · cases e
      exact cloFrom_acc List.mem_cons_self
    · split
      · exact cloFrom_has h
      · exact cloFrom_has h

theorem cells_mem : ∀ {names : List (Str × NameKind)} {h : Heap} {acc : List (Str × Addr)} {x : Str} {c : Addr}, (x, c) ∈ cellsFrom h.objs.size names acc →
    (x, c) ∈ acc ∨ ((x, .cell) ∈ names ∧ h.objs.size ≤ c ∧ CellAt (pushCells h names) c none)
  | [], _, _, _, _, h => .inl h
  | (n, k) :: r, h, acc, x, c, hm => by
    unfold cellsFrom at hm
    unfold pushCells
    split at hm
    · rename_i hk
      rw [if_pos hk]
      have hk : k = .cell := by simpa using hk
      rw [← Heap.size_push h { cls := .type "cell", data := .cell none }] at hm
      rcases cells_mem hm with hm | ⟨h1, h2, h3⟩
      · rcases List.mem_cons.mp hm with e | hm
        · cases e
          exact .inr ⟨hk ▸ List.mem_cons_self, Nat.le_refl _, _, pushCells_keeps r _ _ _ (Heap.get?_push_size _ rfl), rfl⟩
        · exact .inl hm
      · rw [Heap.size_push] at h2
        exact .inr ⟨List.mem_cons_of_mem _ h1, Nat.le_of_succ_le h2, h3⟩
    · rename_i hk
      rw [if_neg hk]
      rcases cells_mem hm with hm | ⟨h1, h2, h3⟩
      · exact .inl hm
      · exact .inr ⟨List.mem_cons_of_mem _ h1, h2, h3⟩
theorem cells_acc : ∀ {names : List (Str × NameKind)} {n : Nat} {acc : List (Str × Addr)} {p : Str × Addr}, p ∈ acc → p ∈ cellsFrom n names acc
  | [], _, _, _, h => h
  | (m, k) :: r, n, acc, p, h => by
    unfold cellsFrom
    split
    · exact cells_acc (List.mem_cons_of_mem _ h)
    · exact cells_acc h
theorem cells_has : ∀ {names : List (Str × NameKind)} {n : Nat} {acc : List (Str × Addr)} {x : Str}, (x, .cell) ∈ names → ∃ c, (x, c) ∈ cellsFrom n names acc
  | (m, k) :: r, n, acc, x, h => by
    unfold cellsFrom
    rcases List.mem_cons.mp h with e | h
    · cases e
      exact ⟨n, cells_acc List.mem_cons_self⟩
    · split
      · exact cells_has h
      · exact cells_has h
theorem cells_inj : ∀ {names : List (Str × NameKind)} {h : Heap} {acc : List (Str × Addr)} {x y : Str} {c : Addr}, (∀ p ∈ acc, p.2 < h.objs.size) → (∀ x y c, (x, c) ∈ acc → (y, c) ∈ acc → x = y) →
    (x, c) ∈ cellsFrom h.objs.size names acc → (y, c) ∈ cellsFrom h.objs.size names acc → x = y
  | [], _, _, _, _, _, _, hi, h1, h2 => hi _ _ _ h1 h2
  | (n, k) :: r, h, acc, x, y, c, hl, hi, h1, h2 => by
    unfold cellsFrom at h1 h2
    split at h1
    · rename_i hk
      rw [if_pos hk] at h2
      rw [← Heap.size_push h { cls := .type "cell", data := .cell none }] at h1 h2
      refine cells_inj (h := h.push _) (fun p hp => ?_) (fun x y c a b => ?_) h1 h2
      · rw [Heap.size_push]
        rcases List.mem_cons.mp hp with rfl | hp
        · exact Nat.lt_succ_self _
        · exact Nat.lt_succ_of_lt (hl p hp)
      · rcases List.mem_cons.mp a with e | a <;> rcases List.mem_cons.mp b with e' | b
        · cases e; cases e'; rfl
        · cases e; exact absurd (hl _ b) (Nat.lt_irrefl _)
        · cases e'; exact absurd (hl _ a) (Nat.lt_irrefl _)
        · exact hi _ _ _ a b
    · rename_i hk
      rw [if_neg hk] at h2
      exact cells_inj hl hi h1 h2

theorem newEnv_comp {M : Model} {A : Around} {E : Value → Shared → Prop} {s : Shared} {scope : Scope} {globals : Addr} {closure : List (Str × Addr)} {qual : Str} {func : Option Addr} {code : Value} {around : Env} {builtins : Addr} {Q : Env → Shared → Prop}
    (h : Q (newEnv scope s.heap.objs.size globals (cellsFrom (s.heap.objs.size + 1) scope.names closure) qual func code (some around) builtins)
      { s with heap := pushCells (s.heap.push { cls := .type "dict", data := .dict #[] }) scope.names }) :
    wpAny M A (newFunctionEnv scope globals closure [] qual func code (some around) builtins) Q E s := by
  simp only [newFunctionEnv, Option.isSome_some, if_true]
  refine wpAny_bind (wpAny_alloc ?_)
  refine wpAny_bind (wpAny_layCells _ (fun n k c => rfl) scope.names closure _ _ ?_)
  rw [show ({ s with heap := s.heap.push { cls := .type "dict", data := .dict #[] } } : Shared).heap.objs.size = s.heap.objs.size + 1 from Heap.size_push ..]
  rw [List.forIn_nil]
  exact wpAny_bind (wpAny_pure (wpAny_pure h))

/-- every name of the written scope, in the scope that runs -/
theorem lookup_relS {sc : Scope} : ∀ {names : List (Str × NameKind)} {x : Str} {k : NameKind},
    (names.map fun (n, k) => if (k == NameKind.free && sc.kind == .function && sc.names.lookup n == some .cell) then (n, NameKind.cell) else (n, k)).lookup x = some k →
    ∃ k', names.lookup x = some k' ∧ (k = k' ∨ (k' = .free ∧ k = .cell))
  | [], _, _, h => by simp at h
  | (n, k₀) :: r, x, k, h => by
    have ih := @lookup_relS sc r x k
    have h' : List.lookup x ((if (k₀ == NameKind.free && sc.kind == .function && sc.names.lookup n == some .cell) = true then (n, NameKind.cell) else (n, k₀)) :: (r.map _)) = some k := h
    cases hx : x == n with
    | true =>
      simp only [List.lookup_cons, hx]
      by_cases hc : (k₀ == NameKind.free && sc.kind == .function && sc.names.lookup n == some .cell) = true
      · rw [if_pos hc] at h'
        simp only [List.lookup_cons, hx] at h'
        cases h'
        simp only [Bool.and_eq_true, beq_iff_eq] at hc
        exact ⟨k₀, rfl, .inr ⟨hc.1.1, rfl⟩⟩
      · rw [if_neg hc] at h'
        simp only [List.lookup_cons, hx] at h'
        cases h'
        exact ⟨_, rfl, .inl rfl⟩
    | false =>
      simp only [List.lookup_cons, hx]
      by_cases hc : (k₀ == NameKind.free && sc.kind == .function && sc.names.lookup n == some .cell) = true
      · rw [if_pos hc] at h'
        simp only [List.lookup_cons, hx] at h'
        exact ih h'
      · rw [if_neg hc] at h'
        simp only [List.lookup_cons, hx] at h'
        exact ih h'
/-- the names of a comprehension's block: its own (with their places in N), or captured -/
structure BlkOk (N : List Str) (sc scope : Scope) (own : List (Str × Nat)) : Prop where
  kind : scope.kind = .function
  uniq : ∀ y ∈ scope.names, scope.names.lookup y.1 = some y.2
  ix : ∀ p ∈ own, N[p.2]? = some p.1
  free : ∀ y ∈ scope.names, y.2 = .free → sc.names.lookup y.1 = some .cell ∨ sc.names.lookup y.1 = some .free
  own : ∀ y ∈ scope.names, y.2 = .local ∨ y.2 = .cell → y.1 ∈ own.map (·.1) ∨ y.1 ∉ N
/-- the slots of the block's own names forgotten -/
def wipe (σ : St) : List Nat → St
  | [] => σ
  | v :: vs => (wipe σ vs).set v none
theorem wipe_length (σ : St) : ∀ vs : List Nat, (wipe σ vs).length = σ.length
  | [] => rfl
  | v :: vs => by unfold wipe; rw [List.length_set, wipe_length σ vs]
theorem wipe_some {σ : St} {i : Nat} {x : V} : ∀ {vs : List Nat}, (wipe σ vs)[i]? = some (some x) → σ[i]? = some (some x) ∧ i ∉ vs
  | [], h => ⟨h, by simp⟩
  | v :: vs, h => by
    unfold wipe at h
    by_cases hi : v = i
    · subst hi
      by_cases hv : v < (wipe σ vs).length
      · rw [List.getElem?_set_self hv] at h; cases h
      · rw [List.getElem?_eq_none (by simpa using hv)] at h; cases h
    · rw [List.getElem?_set_ne hi] at h
      obtain ⟨h1, h2⟩ := wipe_some h
      exact ⟨h1, by simp only [List.mem_cons, not_or]; exact ⟨fun e => hi e.symm, h2⟩⟩

/-- the context of a block that starts at s, its iterator's objects at fp -/
abbrev Cx.blk (X : Cx) (s : Shared) (H : Hp) (scope : Scope) (cenv : Env) (fp : List Addr) : Cx := { X with s_0 := s, H_0 := H, env := cenv, outer := X.stack, ex := fp, fn := fun x => scope.names.lookup x == some .cell, pn := [], xe := fun _ _ => False }
section
variable {X : Cx} {pins : List (Addr × Obj)} {σ : St} {H : Hp} {s : Shared}
theorem block_start {scope : Scope} {own : List (Str × Nat)} {fp : List Addr} (I : Inv X pins σ H s) (ok : BlkOk X.N X.env.scope scope own) (hN : X.N.Nodup) (hfp : ∀ b ∈ fp, FpOk X pins H b ∧ b < s.heap.objs.size) :
    Inv (X.blk s H scope (compEnvC scope (cellsFrom (s.heap.objs.size + 1) scope.names (cloFrom X.env.cells scope.names [])) s.heap.objs.size X.env) fp) [] (wipe σ (own.map (·.2))) H { s with heap := pushCells (s.heap.push { cls := .type "dict", data := .dict #[] }) scope.names } := by
  have hfree : ∀ y ∈ scope.names, y.2 = .free → ∃ c, X.env.cells.lookup y.1 = some c := fun y hy e => by
    rcases ok.free y hy e with k | k
    · exact I.ok.has _ (.inl k)
    · exact I.ok.has _ (.inr k)
  generalize hcenv : compEnvC scope (cellsFrom (s.heap.objs.size + 1) scope.names (cloFrom X.env.cells scope.names [])) s.heap.objs.size X.env = cenv
  have kp : ∀ b o, s.heap.get? b = some o → (pushCells (s.heap.push { cls := .type "dict", data := .dict #[] }) scope.names).get? b = some o := fun b o e => pushCells_keeps _ _ _ _ (Heap.get?_push_of_some _ e)
  have hL : cenv.locals = s.heap.objs.size := by rw [← hcenv]; rfl
  have hcl : cenv.cells = cellsFrom (s.heap.objs.size + 1) scope.names (cloFrom X.env.cells scope.names []) := by rw [← hcenv]; rfl
  have hsc : cenv.scope = relS scope X.env.scope := by rw [← hcenv]; rfl
  rw [← Heap.size_push s.heap { cls := .type "dict", data := .dict #[] }] at hcl
  have cm : ∀ {y c}, (y, c) ∈ cloFrom X.env.cells scope.names [] → X.env.cells.lookup y = some c ∧ c < s.heap.objs.size := fun {y c} hm => by
    rcases cloFrom_mem hm with hm | ⟨h1, rfl⟩
    · cases hm
    · obtain ⟨c, hc⟩ := hfree _ h1 rfl
      rw [hc]
      obtain ⟨w, z⟩ := I.cell _ _ hc
      exact ⟨rfl, z.lt⟩
  have mem : ∀ {y c}, cenv.cells.lookup y = some c → (X.env.cells.lookup y = some c ∧ c < s.heap.objs.size) ∨ (s.heap.objs.size + 1 ≤ c ∧ CellAt (pushCells (s.heap.push { cls := .type "dict", data := .dict #[] }) scope.names) c none) := fun {y c} e => by
    rw [hcl] at e
    rcases cells_mem (PySem.mem_of_lookup e) with hm | ⟨_, h2, h3⟩
    · exact .inl (cm hm)
    · rw [Heap.size_push] at h2; exact .inr ⟨h2, h3⟩
  have look : ∀ {y}, scope.names.lookup y = some .free → ∃ c, cenv.cells.lookup y = some c ∧ X.env.cells.lookup y = some c := fun {y} hl => by
    have hy : (y, NameKind.free) ∈ scope.names := PySem.mem_of_lookup hl
    obtain ⟨c', e'⟩ := mem_lookup (cells_acc (names := scope.names) (n := (s.heap.push { cls := .type "dict", data := .dict #[] }).objs.size) (cloFrom_has (cells := X.env.cells) (acc := []) hy))
    rw [← hcl] at e'
    refine ⟨c', e', ?_⟩
    rw [hcl] at e'
    rcases cells_mem (PySem.mem_of_lookup e') with hm | ⟨h1, _, _⟩
    · exact (cm hm).1
    · have := ok.uniq _ h1
      rw [hl] at this; cases this
  have okB : (X.blk s H scope cenv fp).Ok := by
    refine ⟨I.ok.mod, by show cenv.scope.kind = _; rw [hsc]; exact ok.kind, by show cenv.globals = _; rw [← hcenv]; exact I.ok.glob, by show cenv.builtins = _; rw [← hcenv]; exact I.ok.blt, by show s.heap.objs.size ≤ cenv.locals; rw [hL]; exact Nat.le_refl _,
      fun y z c e1 e2 => ?_, fun y hy => ?_, fun y c z e => ?_, I.ok.hd, I.ok.frames, .inl rfl, fun b hb => ⟨?_, fun y c e z => ?_⟩, I.bs, Nat.le_trans I.ok.bsz I.sz, fun b o e hb => ?_, fun b hb z => ?_, I.stack, I.stkFree⟩
    · have e1 : cenv.cells.lookup y = some c := e1
      have e2 : cenv.cells.lookup z = some c := e2
      rw [hcl] at e1 e2
      refine cells_inj (fun p hp => ?_) (fun y z c a b => I.ok.inj y z c (cm a).1 (cm b).1) (PySem.mem_of_lookup e1) (PySem.mem_of_lookup e2)
      rw [Heap.size_push]
      exact Nat.lt_succ_of_lt (cm (y := p.1) (c := p.2) hp).2
    · show ∃ c, cenv.cells.lookup y = some c
      have key : ∀ k, cenv.kindOf y = some k → (k = .cell ∨ k = .free) → ∃ c, cenv.cells.lookup y = some c := fun k hk hk' => by
        unfold Env.kindOf at hk
        rw [hsc] at hk
        obtain ⟨k', e, r⟩ := lookup_relS hk
        have : k' = .cell ∨ k' = .free := by
          rcases r with rfl | ⟨rfl, _⟩
          · exact hk'
          · exact .inr rfl
        rcases this with rfl | rfl
        · obtain ⟨c, hm⟩ := cells_has (n := (s.heap.push { cls := .type "dict", data := .dict #[] }).objs.size) (acc := cloFrom X.env.cells scope.names []) (PySem.mem_of_lookup e)
          obtain ⟨c', e'⟩ := mem_lookup hm
          exact ⟨c', by rw [hcl]; exact e'⟩
        · obtain ⟨c, h1, _⟩ := look e
          exact ⟨c, h1⟩
      rcases hy with hy | hy
      · exact key _ hy (.inl rfl)
      · exact key _ hy (.inr rfl)
    · have z : (scope.names.lookup y == some NameKind.cell) = true := z
      have z : scope.names.lookup y = some .cell := by simpa using z
      have e : cenv.cells.lookup y = some c := e
      rw [hcl] at e
      rcases cells_mem (PySem.mem_of_lookup e) with hm | ⟨_, h2, _⟩
      · rcases cloFrom_mem hm with hm | ⟨h1, _⟩
        · cases hm
        · have q := ok.uniq _ h1
          rw [z] at q; cases q
      · rw [Heap.size_push] at h2
        exact Nat.le_of_succ_le h2
    · show b ≠ cenv.locals
      rw [hL]; exact Nat.ne_of_lt (hfp b hb).2
    · have e : cenv.cells.lookup y = some c := e
      rcases mem e with ⟨h1, _⟩ | ⟨h1, _⟩
      · exact (hfp b hb).1.2.2.2.2.1 y c h1 z
      · have h2 : s.heap.objs.size + 1 ≤ b := by rw [← z]; exact h1
        exact absurd (Nat.lt_of_lt_of_le (hfp b hb).2 (Nat.le_of_succ_le h2)) (Nat.lt_irrefl _)
    · rcases (hfp b hb).1.2.2.2.1 with z | z
      · exact I.ok.noex b o e z
      · exact absurd (Nat.lt_of_lt_of_le (Heap.lt_size e) (Nat.le_trans I.ok.bsz z)) (Nat.lt_irrefl _)
    · rcases List.mem_cons.mp (I.stkSub b z) with z | z
      · exact (hfp b hb).1.2.1 z
      · exact (hfp b hb).1.2.2.1 z
  refine ⟨okB, rfl, I.bare, Un.kept kp, ⟨fun _ => none, ?_, fun i y av e1 e2 e3 => ?_⟩, fun y c e => ?_, ?_, fun y c e => ?_, fun p hp => ?_, I.hok.kept kp, by rw [wipe_length]; exact I.len⟩
  · show Heap.Ns _ cenv.locals _
    rw [hL]
    exact Heap.Ns.keeps (Heap.Ns.new ..) fun b o e => pushCells_keeps _ _ _ _ e
  · obtain ⟨e2, hne⟩ := wipe_some e2
    have hfr : scope.names.lookup y = some .free ∧ (cenv.kindOf y = some .cell ∨ cenv.kindOf y = some .free) := by
      have key : ∀ k, cenv.scope.names.lookup y = some k → k = .local ∨ k = .cell ∨ k = .free → scope.names.lookup y = some .free ∧ (cenv.kindOf y = some .cell ∨ cenv.kindOf y = some .free) := fun k hk hk' => by
        have hk0 := hk
        rw [hsc] at hk
        obtain ⟨k', e, r⟩ := lookup_relS hk
        have no : ¬ (k' = .local ∨ k' = .cell) := fun hh => by
          rcases ok.own _ (PySem.mem_of_lookup e) hh with e' | e'
          · obtain ⟨p, hp, hpy⟩ := List.mem_map.mp e'
            have e3 := ok.ix p hp
            have : p.1 = y := hpy
            rw [this] at e3
            exact hne (List.mem_map.mpr ⟨p, hp, nodup_ix hN e3 e1⟩)
          · exact e' (List.mem_of_getElem? e1)
        rcases r with rfl | ⟨rfl, rfl⟩
        · rcases hk' with rfl | rfl | rfl
          · exact absurd (.inl rfl) no
          · exact absurd (.inr rfl) no
          · exact ⟨e, .inr hk0⟩
        · exact ⟨e, .inl hk0⟩
      have e3 : Vis cenv.scope y := e3
      rcases e3 with e3 | e3 | e3
      · exact key _ e3 (.inl rfl)
      · exact key _ e3 (.inr (.inl rfl))
      · exact key _ e3 (.inr (.inr rfl))
    obtain ⟨m, hn, hl⟩ := I.loc
    have hvis : Vis X.env.scope y := (ok.free _ (PySem.mem_of_lookup hfr.1) rfl).elim (fun k => .inr (.inl k)) (fun k => .inr (.inr k))
    obtain ⟨w, r, q⟩ := hl i y av e1 e2 hvis
    refine ⟨w, r, .inr ⟨hfr.2, ?_⟩⟩
    obtain ⟨c, h1, h2⟩ := look hfr.1
    rcases q with ⟨k, _⟩ | ⟨_, c', e', z⟩
    · have k : X.env.scope.names.lookup y = some .local := k
      rcases ok.free _ (PySem.mem_of_lookup hfr.1) rfl with k' | k' <;> rw [show X.env.scope.names.lookup y = _ from k'] at k <;> cases k
    · rw [h2] at e'; cases e'
      exact ⟨c, h1, z.keeps kp⟩
  · have e : cenv.cells.lookup y = some c := e
    rcases mem e with ⟨h1, _⟩ | ⟨_, z⟩
    · obtain ⟨w, z⟩ := I.cell y c h1
      exact ⟨w, z.keeps kp⟩
    · exact ⟨_, z⟩
  · show H cenv.locals = none
    rw [hL]; exact I.hok.fresh (Nat.le_refl _)
  · have e : cenv.cells.lookup y = some c := e
    rcases mem e with ⟨h1, _⟩ | ⟨h1, _⟩
    · exact I.freeC y c h1
    · exact I.hok.fresh (Nat.le_of_succ_le h1)
  · exact absurd (show p ∈ ([] : List (Addr × Obj)) ++ [] from hp) (by simp)

/-- an item appended to a tracked list -/
theorem app_ok {E : Value → Shared → Prop} {D : Addr} {xs : List V} {y : V} {v : Value} {Q : Value → Shared → Prop} (I : Inv X pins σ H s) (hD : H D = some (.lst xs)) (hz : xs.length < sizeLine) (r : RelV y v)
    (h : ∀ s', Inv X pins σ (upd H D (.lst (xs ++ [y]))) s' → Q .none s') : wpAny (model X.prog X.w) X.A (call (.builtin "list.append") [.ref D, v]) Q E s := by
  obtain ⟨hz', its, n, ri, e⟩ := I.hok D _ hD
  have hl := ri.length
  refine append_at (hsz := by rw [List.size_toArray]; omega) e fun h' sb ho' => ?_
  refine h { s with heap := h' } (I.write (t' := s.toks) (by rw [hD]; trivial) (.inl rfl) (fun b u hb q => (sb.2 b hb).trans q) ⟨_, ho'⟩ ⟨by rw [List.length_append]; exact hz, its ++ [v], n + 1, ri.append (.cons r .nil), ?_⟩)
  rw [ho']
  simp

/-- a clause's tests -/
def PTs (X : Cx) (ifs : List Expr) (t : TT) : Prop :=
  ∀ (pins : List (Addr × Obj)) (s : Shared) (σ : St) (H : Hp) (Q : Bool → Hp → Prop), Inv X pins σ H s → t σ H Q →
    wpAny (model X.prog X.w) X.A (forIn ifs true fun c r => if r = true then do let ok ← isTrue c X.env (eval c X.env); pure (ForInStep.yield ok) else pure (ForInStep.yield r)) (TP X pins σ Q) X.xe s
def tYes : TT := fun _ H Q => Q true H
theorem pts_nil : PTs X [] tYes := fun _ _ _ H _ I h => wpAny_tests_nil ⟨H, I, h⟩
theorem pts_one {c : Expr} {t : TT} (h : PT X c t) : PTs X [c] t := fun pins s σ H Q I hw => wpAny_tests_one (h pins s σ H Q I hw)
end

theorem thnF {α : Type} {t : Sem α} {Q Q' : α → Shared → Prop} {M : Model} {A : Around} {E : Value → Shared → Prop} {s : Shared} (h : wpAny M A t Q (fun _ _ => False) s) (hQ : ∀ a s, Q a s → Q' a s) : wpAny M A t Q' E s := wpAny_mono h hQ fun _ _ z => False.elim z

/-- the loop of a list comprehension's block, the target of any form (codeAny_compLoop_tests asks a target that no tuple goes to; statement and proof follow it, PyProof/CompMap.lean:41-61, with the step letOwnedTupleGo kept) -/
theorem compLoop_any {prog : Program} {w : World} {A : Around} {R : Result → Shared → Prop} {s : Shared} {elt target iter : Expr} {ifs : List Expr} {scope : Scope} {pos : Pos} {it acc : Value} {env : Env} (I : Nat → Shared → Prop)
    (turn : ∀ n s, I n s → wpAny (model prog w) A (pyNext it) (fun r s₁ => match r with
      | none => R (.ok .next) s₁
      | some v => wpAny (model prog w) A (letOwnedTupleGo target it v) (fun _ s₁' => wpAny (model prog w) A (assign target env v) (fun _ s₂ =>
          wpAny (model prog w) A (forIn ifs true fun c r => if r = true then do let ok ← isTrue c env (eval c env); pure (ForInStep.yield ok) else pure (ForInStep.yield r)) (fun ok s₃ =>
            if ok = true then wpAny (model prog w) A (eval elt env) (fun x s₄ =>
              wpAny (model prog w) A (call (.builtin "list.append") [acc, x]) (fun _ s₅ => ∃ m, m < n ∧ I m s₅) (notedBy (model prog w) A env fun e s' => R (.error e) s') s₄) (notedBy (model prog w) A env fun e s' => R (.error e) s') s₃
            else ∃ m, m < n ∧ I m s₃) (notedBy (model prog w) A env fun e s' => R (.error e) s') s₂) (notedBy (model prog w) A env fun e s' => R (.error e) s') s₁') (notedBy (model prog w) A env fun e s' => R (.error e) s') s₁) (notedBy (model prog w) A env fun e s' => R (.error e) s') s)
    (n : Nat) (h : I n s) :
    codeAny (model prog w) A (.compLoop (.ListComp elt [⟨target, iter, ifs, 0⟩] scope pos) 0 it acc env) R s := by
  refine codeAny_loop rfl I (fun n s hI => ?_) n h
  show wpAny _ A ((compTurn (.ListComp elt [⟨target, iter, ifs, 0⟩] scope pos) 0 it acc env).onRaise (fun x => do noteFrame x env; theTreesLotGoes x)) _ _ s
  refine wpAny_noted ?_
  rw [compTurn_list]
  refine wpAny_bind (wpAny_standAt (wpAny_bind (wpAny_mono (turn n s hI) (fun r s₁ h₁ => ?_) fun _ _ h' => h')))
  cases r with
  | none => exact wpAny_pure h₁
  | some v =>
    refine wpAny_bind (wpAny_mono h₁ (fun _ s₁' h₁' => ?_) fun _ _ h' => h')
    refine wpAny_bind (wpAny_mono h₁' (fun _ s₂ h₂ => wpAny_bind (wpAny_mono h₂ (fun ok s₃ h₃ => ?_) fun _ _ h' => h')) fun _ _ h' => h')
    cases ok with
    | false => exact wpAny_pure ⟨rfl, h₃⟩
    | true =>
      exact wpAny_bind (wpAny_bind (wpAny_mono h₃ (fun x s₄ h₄ => wpAny_bind (wpAny_mono h₄ (fun _ s₅ h₅ => wpAny_pure (wpAny_pure ⟨rfl, h₅⟩)) fun _ _ h' => h')) fun _ _ h' => h'))

section
variable {X : Cx}
/-- [elt for target in iter if ..]: D the new list; W by the turn and a measure, Nx what a turn is to reach -/
def tLc (wi : TI) (g : TG) (tt : TT) (te : TE) (vs : List Nat) : TE := fun σ H Q => wi σ H fun J H1 => ∀ D, H1 D = none → ∃ W : Nat → Nat → Hp → Prop, (∃ m, W 0 m (upd H1 D (.lst []))) ∧ ∀ i m H, W i m H →
  (J.stop i H ∧ Q (.ref D) H) ∨ (J.go i H ∧ ∃ Nx : Hp → Prop, (∀ H', Nx H' → ∃ m', m' < m ∧ W (i + 1) m' H') ∧ ∀ x H', J.yld i H x H' → g x (wipe σ vs) H' fun σ2 H2 => wipe σ2 vs = wipe σ vs ∧ tt σ2 H2 fun b H3 =>
    if b = true then te σ2 H3 fun y H4 => ∃ acc, H4 D = some (.lst acc) ∧ acc.length < sizeLine ∧ Nx (upd H4 D (.lst (acc ++ [y]))) else Nx H3)
theorem lc_core {pins : List (Addr × Obj)} {s : Shared} {σ : St} {H : Hp} {Q : VK} {elt tg iter : Expr} {ifs : List Expr} {scope : Scope} {own : List (Str × Nat)} {pos pos' : Pos} {wi : TI} {g : TG} {tt : TT} {te : TE} {use : Option (Value → Sem Unit)} {Qf : Value → Shared → Prop}
    (hc : X.calm = true) (hN : X.N.Nodup) (I : Inv X pins σ H s) (hi : PI X tg iter wi) (ok : BlkOk X.N X.env.scope scope own)
    (hg : ∀ (s : Shared) (H : Hp) (C : Addr) (cl : List (Str × Addr)) (fp : List Addr), PG (X.blk s H scope (compEnvC scope cl C X.env) fp) tg g) (ht : ∀ (s : Shared) (H : Hp) (C : Addr) (cl : List (Str × Addr)) (fp : List Addr), PTs (X.blk s H scope (compEnvC scope cl C X.env) fp) ifs tt)
    (he : ∀ (s : Shared) (H : Hp) (C : Addr) (cl : List (Str × Addr)) (fp : List Addr), PE (X.blk s H scope (compEnvC scope cl C X.env) fp) elt te) (hs : ∀ x, foldedSetIterable iter X.env x = pure x)
    (h : tLc wi g tt te (own.map (·.2)) σ H Q)
    (hRR : ∀ D C s' m H', Inv X pins σ H' s' → Q (.ref D) H' → s'.heap.Ns C m → FpOk X pins H' C → compPost (model X.prog X.w) X.A X.xe use Qf (.ref D) C (.ok .next) s') :
    wpAny (model X.prog X.w) X.A (comprehension (.ListComp elt [⟨tg, iter, ifs, 0⟩] scope pos) scope X.env pos' (newList []) false (eval iter X.env) use) Qf X.xe s := by
  have hfree : ∀ y ∈ scope.names, y.2 = .free → ∃ c, X.env.cells.lookup y.1 = some c := fun y hy e => by
    rcases ok.free y hy e with k | k
    · exact I.ok.has _ (.inl k)
    · exact I.ok.has _ (.inr k)
  refine wpAny_comprehension_free (use := use) rfl hs (closure_ok hfree) ok.kind (fun y hy e => by rw [ok.uniq y hy, e])
    (thn (hi pins s σ H _ I h) fun xv s1 hx => thn hx fun itv s2 h2 => ?_)
  obtain ⟨it, fp, tn, J, H2, e, I2, T, st2, f2, q⟩ := h2
  subst e
  refine wpAny_newObj_type (newEnv_comp ?_) (by show 0 ≤ sizeLine; decide)
  generalize hD : s2.heap.objs.size = D
  have hDn : H2 D = none := I2.hok.fresh (Nat.le_of_eq hD)
  obtain ⟨W, ⟨m0, w0⟩, turn⟩ := q D hDn
  -- the new list
  generalize hs3 : ({ s2 with heap := s2.heap.push { cls := .type "list", data := .seq ([] : List Value).toArray } } : Shared) = s3
  have I3 : Inv X pins σ (upd H2 D (.lst [])) s3 := by
    rw [← hs3]
    refine I2.laid (t' := s2.toks) (fun b o e => Heap.get?_push_of_some _ e) (Nat.le_of_eq hD) ⟨Nat.zero_le _, [], 0, .nil, ?_⟩
    rw [← hD]
    exact Heap.get?_push_size _ rfl
  have h3 : s3.heap = s2.heap.push { cls := .type "list", data := .seq ([] : List Value).toArray } := by rw [← hs3]
  have sz : ∀ b ∈ fp, b < s2.heap.objs.size := fun b hb => by
    obtain ⟨o, e, _⟩ := T.obj _ _ st2 b hb
    exact Heap.lt_size e
  have f3 : ∀ b ∈ fp, FpOk X pins (upd H2 D (.lst [])) b ∧ b < s3.heap.objs.size := fun b hb => by
    have hlt := sz b hb
    refine ⟨⟨?_, (f2 b hb).2⟩, by rw [h3, Heap.size_push]; exact Nat.lt_succ_of_lt hlt⟩
    rw [upd_ne (by rw [← hD]; exact Nat.ne_of_lt hlt)]
    exact (f2 b hb).1
  have st3 : tn 0 s3.heap := T.keep _ _ _ st2 fun b _ o e => by rw [h3]; exact Heap.get?_push_of_some _ e
  have I4 := block_start I3 ok hN f3
  have pg := hg s3 (upd H2 D (.lst [])) s3.heap.objs.size (cellsFrom (s3.heap.objs.size + 1) scope.names (cloFrom X.env.cells scope.names [])) fp
  have pt := ht s3 (upd H2 D (.lst [])) s3.heap.objs.size (cellsFrom (s3.heap.objs.size + 1) scope.names (cloFrom X.env.cells scope.names [])) fp
  have pe := he s3 (upd H2 D (.lst [])) s3.heap.objs.size (cellsFrom (s3.heap.objs.size + 1) scope.names (cloFrom X.env.cells scope.names [])) fp
  show codeAny _ _ (.compStart (.ListComp elt [⟨tg, iter, ifs, 0⟩] scope pos) 0 (.ref it) (.ref D) (compEnvC scope (cellsFrom (s3.heap.objs.size + 1) scope.names (cloFrom X.env.cells scope.names [])) s3.heap.objs.size X.env)) (compPost (model X.prog X.w) X.A X.xe use Qf (.ref D) s3.heap.objs.size) { s3 with heap := pushCells (s3.heap.push { cls := .type "dict", data := .dict #[] }) scope.names }
  have nfp : ∀ b ∈ fp, (upd H2 D (.lst [])) b = none := fun b hb => (f3 b hb).1.1
  generalize hce : compEnvC scope (cellsFrom (s3.heap.objs.size + 1) scope.names (cloFrom X.env.cells scope.names [])) s3.heap.objs.size X.env = ce at I4 pg pt pe ⊢
  have cL : ce.locals = s3.heap.objs.size := by subst hce; rfl
  generalize hH3 : upd H2 D (.lst []) = H3 at I3 I4 pg pt pe w0 nfp f3
  generalize hs4 : ({ s3 with heap := pushCells (s3.heap.push { cls := .type "dict", data := .dict #[] }) scope.names } : Shared) = s4 at I4 ⊢
  have st4 : tn 0 s4.heap := T.keep _ _ _ st3 fun b _ o e => by rw [← hs4]; exact pushCells_keeps _ _ _ _ (Heap.get?_push_of_some _ e)
  have stat : ∀ {σ' : St} {H' : Hp} {s' : Shared}, Inv (X.blk s3 H3 scope ce fp) [] σ' H' s' → (∀ b ∈ fp, H' b = none) → ∀ b ∈ fp, FpOk (X.blk s3 H3 scope ce fp) [] H' b := fun {σ' H' s'} I' hn b hb =>
    ⟨hn b hb, (I'.ok.exf b hb).1, I'.ok.exfs b hb, .inl hb, fun x c e => (I'.ok.exf b hb).2 x c e, fun p hp => absurd (show p ∈ ([] : List (Addr × Obj)) ++ [] from hp) (by simp)⟩
  have loop : codeAny (model X.prog X.w) X.A (.compLoop (.ListComp elt [⟨tg, iter, ifs, 0⟩] scope pos) 0 (.ref it) (.ref D) ce) (compPost (model X.prog X.w) X.A X.xe use Qf (.ref D) s3.heap.objs.size) s4 := by
    refine compLoop_any (fun n s' => ∃ i H', Inv (X.blk s3 H3 scope ce fp) [] (wipe σ (own.map (·.2))) H' s' ∧ tn i s'.heap ∧ (∀ b ∈ fp, H' b = none) ∧ W i n H') ?_ m0 ⟨0, H3, I4, st4, nfp, w0⟩
    rintro n s5 ⟨i, H5, I5, st5, n5, w5⟩
    rcases turn i n H5 w5 with ⟨stop, qq⟩ | ⟨go, Nx, hNx, step⟩
    · have td := T.done (X.blk s3 H3 scope ce fp) rfl rfl rfl hc i [] s5 _ H5 (fun _ _ => False) I5 (stat I5 n5) st5 stop
      refine thnF td fun r s6 ⟨hr, I6⟩ => ?_
      subst hr
      -- back in the def's context
      have I7 : Inv X pins σ H5 s6 := I3.call' (ch := fp) I6.os I6.base I6.hok I6.bare fun b hb => ⟨(f3 b hb).1.2.2.2.1, (f3 b hb).1.2.1, (f3 b hb).1.2.2.2.2.1, (f3 b hb).1.2.2.2.2.2⟩
      have nC : H5 s3.heap.objs.size = none := by
        have z : H5 ce.locals = none := I6.free
        rw [cL] at z
        exact z
      obtain ⟨m, hn, _⟩ := I6.loc
      have hn : s6.heap.Ns ce.locals m := hn
      rw [cL] at hn
      exact hRR D s3.heap.objs.size s6 m H5 I7 qq hn (I3.fpOk (Nat.le_refl _) nC)
    · have ti := T.item (X.blk s3 H3 scope ce fp) rfl rfl rfl hc i [] s5 _ H5 (fun _ _ => False) I5 (stat I5 n5) st5 go
      refine thnF ti fun r s6 ⟨u, hr, h6⟩ => ?_
      subst hr
      refine thnF h6 fun _ s7 ⟨x, H7, I7, r7, y7, st7, n7⟩ => ?_
      have I7' := I7.pinned (stat I7 n7) (T.obj _ _ st7)
      refine thnF (pg _ s7 _ H7 x u _ I7' r7 (step x H7 y7)) fun _ s8 ⟨σ8, H8, I8, hw8, q8⟩ => ?_
      refine thnF (pt _ s8 σ8 H8 _ I8 q8) fun b s9 ⟨H9, I9, q9⟩ => ?_
      -- the turn's end
      have fin : ∀ {s' : Shared} {H' : Hp}, Inv (X.blk s3 H3 scope ce fp) ([] ++ pinsAt fp s7.heap) σ8 H' s' → Nx H' → ∃ m, m < n ∧ ∃ i H', Inv (X.blk s3 H3 scope ce fp) [] (wipe σ (own.map (·.2))) H' s' ∧ tn i s'.heap ∧ (∀ b ∈ fp, H' b = none) ∧ W i m H' := fun {s' H'} I' nx => by
        obtain ⟨m', hm, w'⟩ := hNx H' nx
        have pin' : ∀ b ∈ fp, ∀ o, s7.heap.get? b = some o → s'.heap.get? b = some o ∧ H' b = none := fun b hb o e =>
          let z := I'.pin (b, o) (List.mem_append_right _ (List.mem_append_right _ (mem_pinsAt hb e)))
          ⟨z.1, z.2.1⟩
        have hl : (wipe σ (own.map (·.2))).length = σ8.length := by rw [← hw8, wipe_length]
        refine ⟨m', hm, i + 1, H', (I'.unpinned (pins := [])).weak hl (fun j v e => ?_), T.keep _ _ _ st7 fun b hb o e => (pin' b hb o e).1, fun b hb => ?_, w'⟩
        · rw [← hw8] at e
          exact (wipe_some e).1
        · obtain ⟨o, e, _⟩ := T.obj _ _ st7 b hb
          exact (pin' b hb o e).2
      cases b with
      | false =>
        simp only [Bool.false_eq_true, if_false] at q9 ⊢
        exact fin I9 q9
      | true =>
        simp only [if_true] at q9 ⊢
        refine thnF (pe _ s9 σ8 H9 _ I9 q9) fun z s10 ⟨yv, H10, I10, r10, acc, hD10, hz10, nx⟩ => ?_
        exact app_ok (X := X.blk s3 H3 scope ce fp) I10 hD10 hz10 r10 fun s11 I11 => fin I11 nx
  exact codeAny_compStart_list loop (T.self X.A 0 _ _ _ st4 loop)
/-- as a value -/
theorem pe_lc {elt tg iter : Expr} {ifs : List Expr} {scope : Scope} {own : List (Str × Nat)} {pos : Pos} {wi : TI} {g : TG} {tt : TT} {te : TE} (hc : X.calm = true) (hN : X.N.Nodup) (hi : PI X tg iter wi) (ok : BlkOk X.N X.env.scope scope own)
    (hg : ∀ (s : Shared) (H : Hp) (C : Addr) (cl : List (Str × Addr)) (fp : List Addr), PG (X.blk s H scope (compEnvC scope cl C X.env) fp) tg g) (ht : ∀ (s : Shared) (H : Hp) (C : Addr) (cl : List (Str × Addr)) (fp : List Addr), PTs (X.blk s H scope (compEnvC scope cl C X.env) fp) ifs tt)
    (he : ∀ (s : Shared) (H : Hp) (C : Addr) (cl : List (Str × Addr)) (fp : List Addr), PE (X.blk s H scope (compEnvC scope cl C X.env) fp) elt te) (hs : ∀ x, foldedSetIterable iter X.env x = pure x := by intro _; rfl) :
    PE X (.ListComp elt [⟨tg, iter, ifs, 0⟩] scope pos) (tLc wi g tt te (own.map (·.2))) := by
  intro pins s σ H Q I h
  rw [eval_ListComp]
  refine lc_core hc hN I hi ok hg ht he hs h fun D C s' m H' I' q hn f => ⟨m, hn, fun h'' sb => ?_⟩
  obtain ⟨f0, f1, f2, f3, f4, f5⟩ := f
  exact ⟨.ref D, H', I'.turned (t' := s'.toks) (fun b o hb e => (sb.2 b hb).trans e) f0 f1 f3 f4 f5, rfl, q⟩
/-- name = [..] on one line, the name a local -/
theorem ps_setLc {i : Nat} {y : Str} {py : Pos} {elt tg iter : Expr} {ifs : List Expr} {scope : Scope} {own : List (Str × Nat)} {pos spos : Pos} {wi : TI} {g : TG} {tt : TT} {te : TE} (hc : X.calm = true) (hN : X.N.Nodup) (hy : X.N[i]? = some y) (hyl : X.env.scope.names.lookup y = some .local)
    (hsw : swapsWith (.ListComp elt [⟨tg, iter, ifs, 0⟩] scope pos) (some (.Name y py)) spos.line X.env = pure true) (hi : PI X tg iter wi) (ok : BlkOk X.N X.env.scope scope own)
    (hg : ∀ (s : Shared) (H : Hp) (C : Addr) (cl : List (Str × Addr)) (fp : List Addr), PG (X.blk s H scope (compEnvC scope cl C X.env) fp) tg g) (ht : ∀ (s : Shared) (H : Hp) (C : Addr) (cl : List (Str × Addr)) (fp : List Addr), PTs (X.blk s H scope (compEnvC scope cl C X.env) fp) ifs tt)
    (he : ∀ (s : Shared) (H : Hp) (C : Addr) (cl : List (Str × Addr)) (fp : List Addr), PE (X.blk s H scope (compEnvC scope cl C X.env) fp) elt te) (hs : ∀ x, foldedSetIterable iter X.env x = pure x := by intro _; rfl) :
    PS X (.Assign [.Name y py] (.ListComp elt [⟨tg, iter, ifs, 0⟩] scope pos) spos) (tAsg (tLc wi g tt te (own.map (·.2))) (gName i)) := by
  intro pins s σ H D I h
  rw [exec_Assign_Name_used _ _ _ _ hsw]
  refine wpAny_bind (wpAny_standAt (wpAny_bind ?_))
  show wpAny _ X.A (do let _ ← comprehension (.ListComp elt [⟨tg, iter, ifs, 0⟩] scope pos) scope X.env (firstIterPos [⟨tg, iter, ifs, 0⟩] pos) (newList []) false (eval iter X.env) (some (assign (.Name y py) X.env))) _ _ s
  have h : tLc wi g tt te (own.map (·.2)) σ H (fun x H1 => gName i x σ H1 D.nx) := h
  refine wpAny_bind (thn (lc_core (Qf := fun _ s' => SP X pins D .next s') hc hN I hi ok hg ht he hs h fun L C s' m H' I' q hn f => ?_) fun _ s' hq => wpAny_pure (wpAny_pure hq))
  show wpAny _ _ (assign (.Name y py) X.env (.ref L)) _ _ _
  refine wpAny_assign_Name (store_ok2 (v := V.ref L) I' hN hy (.inl hyl) rfl (fun s2 I2 ⟨a, sb, ha⟩ => ?_) (.inr hyl))
  obtain ⟨f0, f1, f2, f3, f4, f5⟩ := f
  have haC : C ≠ a := by
    rcases ha with z | z
    · rw [z]; exact f1
    · exact fun e => f4 y a z e.symm
  refine ⟨m, hn.sameBut sb haC, fun h3 sb3 => ?_⟩
  exact ⟨_, H', I2.turned (t' := s2.toks) (fun b o hb e => (sb3.2 b hb).trans e) f0 f1 f3 f4 f5, q⟩
theorem sw_true {elt : Expr} {gs : List Comprehension} {scope : Scope} {pos py : Pos} {y : Str} {l : Nat} {env : Env} (hk : env.scope.kind = .function) (hy : env.scope.names.lookup y = some .local) (hl : (py.line == pos.line) = true)
    (ha : (scope.names.any fun (n, k) => n == y && (k == .local || k == .cell)) = false) : swapsWith (.ListComp elt gs scope pos) (some (.Name y py)) l env = pure true := by
  have ky : env.kindOf y = some .local := hy
  have hb : env.blockKind = .function := by unfold Env.blockKind; rw [hk]; rfl
  unfold swapsWith
  simp only [hb, ky, ha, Expr.pos, hl]
  rfl
end

/-! ### the forms one uses -/
/-- over a range: Pv by the turn and the heap (the new list at D within) -/
theorem lc_range {lo : Int} {n : Nat} {g : TG} {tt : TT} {te : TE} {vs : List Nat} {σ : St} {H1 : Hp} {D : Addr} {Qd : Hp → Prop} (Pv : Nat → Hp → Prop) (h0 : Pv 0 (upd H1 D (.lst [])))
    (hs : ∀ i H, i < n → Pv i H → g (.int (lo + i)) (wipe σ vs) H fun σ2 H2 => wipe σ2 vs = wipe σ vs ∧ tt σ2 H2 fun b H3 =>
      if b = true then te σ2 H3 fun y H4 => ∃ acc, H4 D = some (.lst acc) ∧ acc.length < sizeLine ∧ Pv (i + 1) (upd H4 D (.lst (acc ++ [y]))) else Pv (i + 1) H3) (hd : ∀ H, Pv n H → Qd H) :
    ∃ W : Nat → Nat → Hp → Prop, (∃ m, W 0 m (upd H1 D (.lst []))) ∧ ∀ i m H, W i m H →
      ((Itr lo n).stop i H ∧ Qd H) ∨ ((Itr lo n).go i H ∧ ∃ Nx : Hp → Prop, (∀ H', Nx H' → ∃ m', m' < m ∧ W (i + 1) m' H') ∧ ∀ x H', (Itr lo n).yld i H x H' → g x (wipe σ vs) H' fun σ2 H2 => wipe σ2 vs = wipe σ vs ∧ tt σ2 H2 fun b H3 =>
        if b = true then te σ2 H3 fun y H4 => ∃ acc, H4 D = some (.lst acc) ∧ acc.length < sizeLine ∧ Nx (upd H4 D (.lst (acc ++ [y]))) else Nx H3) := by
  refine ⟨fun i m H => m = n - i ∧ i ≤ n ∧ Pv i H, ⟨n, by simp, Nat.zero_le _, h0⟩, ?_⟩
  rintro i m H ⟨rfl, hi, p⟩
  by_cases hlt : i < n
  · refine .inr ⟨hlt, Pv (i + 1), fun H' p' => ⟨n - (i + 1), by omega, rfl, hlt, p'⟩, fun x H' y => ?_⟩
    obtain ⟨e, y⟩ := y
    subst e y
    exact hs i _ hlt p
  · have e : i = n := by omega
    subst e
    exact .inl ⟨Nat.le_refl _, hd H p⟩
/-- over a list that the block leaves as it is -/
theorem lc_list {K : PySem.W.Frag} {a : Addr} {xs : List V} {g : TG} {tt : TT} {te : TE} {vs : List Nat} {σ : St} {H1 : Hp} {D : Addr} {Qd : Hp → Prop} (Pv : Nat → Hp → Prop) (h0 : Pv 0 (upd H1 D (.lst []))) (hl : ∀ i H, i ≤ xs.length → Pv i H → SqL K H a xs)
    (hs : ∀ i x H, xs[i]? = some x → Pv i H → g x (wipe σ vs) H fun σ2 H2 => wipe σ2 vs = wipe σ vs ∧ tt σ2 H2 fun b H3 =>
      if b = true then te σ2 H3 fun y H4 => ∃ acc, H4 D = some (.lst acc) ∧ acc.length < sizeLine ∧ Pv (i + 1) (upd H4 D (.lst (acc ++ [y]))) else Pv (i + 1) H3) (hd : ∀ H, Pv xs.length H → Qd H) :
    ∃ W : Nat → Nat → Hp → Prop, (∃ m, W 0 m (upd H1 D (.lst []))) ∧ ∀ i m H, W i m H →
      ((Itl K a).stop i H ∧ Qd H) ∨ ((Itl K a).go i H ∧ ∃ Nx : Hp → Prop, (∀ H', Nx H' → ∃ m', m' < m ∧ W (i + 1) m' H') ∧ ∀ x H', (Itl K a).yld i H x H' → g x (wipe σ vs) H' fun σ2 H2 => wipe σ2 vs = wipe σ vs ∧ tt σ2 H2 fun b H3 =>
        if b = true then te σ2 H3 fun y H4 => ∃ acc, H4 D = some (.lst acc) ∧ acc.length < sizeLine ∧ Nx (upd H4 D (.lst (acc ++ [y]))) else Nx H3) := by
  refine ⟨fun i m H => m = xs.length - i ∧ i ≤ xs.length ∧ Pv i H, ⟨xs.length, by simp, Nat.zero_le _, h0⟩, ?_⟩
  rintro i m H ⟨rfl, hi, p⟩
  have q := hl i H hi p
  by_cases hlt : i < xs.length
  · refine .inr ⟨⟨xs, xs[i], q, by simp [hlt]⟩, Pv (i + 1), fun H' p' => ⟨xs.length - (i + 1), by omega, rfl, hlt, p'⟩, fun x H' y => ?_⟩
    obtain ⟨e, y⟩ := y
    subst e
    exact hs i x _ (y xs q) p
  · have e : i = xs.length := by omega
    subst e
    exact .inl ⟨⟨xs, q, Nat.le_refl _⟩, hd H p⟩
def blkC (N : List Str) (sc scope : Scope) (own : List (Str × Nat)) : Bool :=
  (match scope.kind with | .function => true | _ => false) && (scope.names.all fun y => decide (scope.names.lookup y.1 = some y.2)) && (own.all fun p => decide (N[p.2]? = some p.1)) &&
    (scope.names.all fun y => match y.2 with
      | .free => (match sc.names.lookup y.1 with | some .cell => true | some .free => true | _ => false)
      | .local => decide (y.1 ∈ own.map (·.1)) || decide (y.1 ∉ N)
      | .cell => decide (y.1 ∈ own.map (·.1)) || decide (y.1 ∉ N)
      | _ => true)
theorem blkOk_by {N : List Str} {sc scope : Scope} {own : List (Str × Nat)} (h : blkC N sc scope own = true) : BlkOk N sc scope own := by
  unfold blkC at h
  simp only [Bool.and_eq_true, List.all_eq_true, decide_eq_true_eq] at h
  obtain ⟨⟨⟨h1, h2⟩, h3⟩, h4⟩ := h
  refine ⟨?_, h2, h3, fun y hy e => ?_, fun y hy e => ?_⟩
  · split at h1
    · assumption
    · cases h1
  · have q := h4 y hy
    simp only [e] at q
    split at q <;> first | exact .inl (by assumption) | exact .inr (by assumption) | cases q
  · have q := h4 y hy
    rcases e with e | e <;> (simp only [e, Bool.or_eq_true, decide_eq_true_eq] at q; exact q)
end L2

namespace L2
open PySem PySem.Spec PyProof.Rows

section
variable {prog : Program} {w : World} {A : Around} {R : Result → Shared → Prop} {s : Shared} {elt t0 i0 t1 i1 : Expr} {ifs0 ifs1 : List Expr} {scope : Scope} {pos : Pos} {it acc : Value} {env : Env}
end

section
variable {X : Cx}
/-- [elt for tg in iter if .. for tg1 in iter1 if ..]: behind the first clause's store and tests the second source's own loop, from which Nx is reached. vs: the block's names; vs1: those of the second target -/
def tLc2 (wi : TI) (g : TG) (tt : TT) (wi1 : TI) (g1 : TG) (tt1 : TT) (te : TE) (vs vs1 : List Nat) : TE := fun σ H Q => wi σ H fun J H1 => ∀ D, H1 D = none → ∃ W : Nat → Nat → Hp → Prop, (∃ m, W 0 m (upd H1 D (.lst []))) ∧ ∀ i m H, W i m H →
  (J.stop i H ∧ Q (.ref D) H) ∨ (J.go i H ∧ ∃ Nx : Hp → Prop, (∀ H', Nx H' → ∃ m', m' < m ∧ W (i + 1) m' H') ∧ ∀ x H', J.yld i H x H' → g x (wipe σ vs) H' fun σ2 H2 => wipe σ2 vs = wipe σ vs ∧ tt σ2 H2 fun b H3 =>
    if b = true then wi1 σ2 H3 fun J1 H4 => ∃ W1 : Nat → Nat → Hp → Prop, (∃ m, W1 0 m H4) ∧ ∀ j k H, W1 j k H →
      (J1.stop j H ∧ Nx H) ∨ (J1.go j H ∧ ∃ Nx1 : Hp → Prop, (∀ H', Nx1 H' → ∃ k', k' < k ∧ W1 (j + 1) k' H') ∧ ∀ x H', J1.yld j H x H' → g1 x (wipe σ2 vs1) H' fun σ3 H5 => wipe σ3 vs1 = wipe σ2 vs1 ∧ tt1 σ3 H5 fun b H6 =>
        if b = true then te σ3 H6 fun y H7 => ∃ acc, H7 D = some (.lst acc) ∧ acc.length < sizeLine ∧ Nx1 (upd H7 D (.lst (acc ++ [y]))) else Nx1 H6)
    else Nx H3)
end
end L2

namespace L2
open PySem PySem.Spec PyProof.Rows

/-! ### lists of pairs as tables -/
section
variable {κ : Type} [DecidableEq κ]
def valV (kvs : List (κ × V)) (k : κ) : Option V := (kvs.find? fun kv => decide (kv.1 = k)).map (·.2)
/-- in its place, or at the end -/
def putK (kvs : List (κ × V)) (k : κ) (v : V) : List (κ × V) :=
  if (kvs.any fun kv => decide (kv.1 = k)) = true then kvs.map (fun kv => if kv.1 = k then (kv.1, v) else kv) else kvs ++ [(k, v)]
def dropK (kvs : List (κ × V)) (k : κ) : List (κ × V) := kvs.filter fun kv => decide (kv.1 ≠ k)

theorem valV_pos {p : κ × V} {r : List (κ × V)} {k : κ} (e : p.1 = k) : valV (p :: r) k = some p.2 := by simp [valV, List.find?_cons, e]
theorem valV_neg {p : κ × V} {r : List (κ × V)} {k : κ} (e : ¬ p.1 = k) : valV (p :: r) k = valV r k := by simp [valV, List.find?_cons, e]
theorem valV_any (k : κ) : ∀ kvs : List (κ × V), (kvs.any fun kv => decide (kv.1 = k)) = (valV kvs k).isSome
  | [] => rfl
  | p :: r => by
    rw [List.any_cons]
    by_cases e : p.1 = k
    · simp only [valV_pos e, decide_eq_true e, Bool.true_or, Option.isSome_some]
    · rw [valV_neg e, decide_eq_false e, Bool.false_or]; exact valV_any k r
theorem length_putK (kvs : List (κ × V)) (k : κ) (v : V) : (putK kvs k v).length ≤ kvs.length + 1 := by
  unfold putK
  split
  · rw [List.length_map]; omega
  · rw [List.length_append, List.length_cons, List.length_nil]; omega
theorem RelO.isSome_eq {o : Option V} {u : Option Value} (r : RelO o u) : o.isSome = u.isSome := by
  cases o with
  | none => cases u with
    | none => rfl
    | some _ => exact (show False from r).elim
  | some _ => cases u with
    | none => exact (show False from r).elim
    | some _ => rfl
theorem RelO.getD {o : Option V} {u : Option Value} {d : V} {d' : Value} (r : RelO o u) (rd : RelV d d') : RelV (o.getD d) (u.getD d') := by
  cases o with
  | none => cases u with
    | none => exact rd
    | some _ => exact (show False from r).elim
  | some _ => cases u with
    | none => exact (show False from r).elim
    | some _ => exact r

/-- raw tables of the same keys -/
theorem KV.val {kvs : List (κ × V)} {vs : List (κ × Value)} (r : KV kvs vs) (k : κ) : RelO (valV kvs k) (valueAt vs k) := by
  unfold KV at r
  induction r with
  | nil => exact True.intro
  | @cons p q ps qs h t ih =>
    obtain ⟨h1, h2⟩ := h
    by_cases e : p.1 = k
    · have e' : q.1 = k := h1.symm.trans e
      have b : valueAt (q :: qs) k = some q.2 := by simp [valueAt, List.find?_cons, e']
      rw [valV_pos e, b]; exact h2
    · have e' : ¬ q.1 = k := fun z => e (h1.trans z)
      have b : valueAt (q :: qs) k = valueAt qs k := by simp [valueAt, List.find?_cons, e']
      rw [valV_neg e, b]; exact ih
theorem KV.any {kvs : List (κ × V)} {vs : List (κ × Value)} (r : KV kvs vs) (k : κ) : (kvs.any fun kv => decide (kv.1 = k)) = vs.any fun kv => decide (kv.1 = k) := by
  unfold KV at r
  induction r with
  | nil => rfl
  | cons h t ih => rw [List.any_cons, List.any_cons, ih, h.1]
theorem KV.repl {kvs : List (κ × V)} {vs : List (κ × Value)} (r : KV kvs vs) (k : κ) {y : V} {u : Value} (ry : RelV y u) :
    KV (kvs.map fun kv => if kv.1 = k then (kv.1, y) else kv) (vs.map fun kv => if kv.1 = k then (kv.1, u) else kv) := by
  unfold KV at r ⊢
  induction r with
  | nil => exact .nil
  | @cons p q ps qs h t ih =>
    rw [List.map_cons, List.map_cons]
    refine .cons ?_ ih
    obtain ⟨h1, h2⟩ := h
    by_cases e : p.1 = k
    · rw [if_pos e, if_pos (h1.symm.trans e)]; exact ⟨h1, ry⟩
    · rw [if_neg e, if_neg (fun z => e (h1.trans z))]; exact ⟨h1, h2⟩
theorem KV.put {kvs : List (κ × V)} {vs : List (κ × Value)} (r : KV kvs vs) (k : κ) {y : V} {u : Value} (ry : RelV y u) : KV (putK kvs k y) (stored vs k u) := by
  unfold putK stored
  rw [r.any k]
  by_cases e : (vs.any fun kv => decide (kv.1 = k)) = true
  · rw [if_pos e, if_pos e]; exact r.repl k ry
  · rw [if_neg e, if_neg e]; exact Paired.snoc r ⟨rfl, ry⟩
theorem KV.drop {kvs : List (κ × V)} {vs : List (κ × Value)} (r : KV kvs vs) (k : κ) : KV (dropK kvs k) (without vs k) := by
  unfold KV at r ⊢
  unfold dropK without
  induction r with
  | nil => exact .nil
  | @cons p q ps qs h t ih =>
    obtain ⟨h1, h2⟩ := h
    rw [List.filter_cons, List.filter_cons]
    by_cases e : p.1 = k
    · have a : ¬ decide (p.1 ≠ k) = true := by simp [e]
      have b : ¬ decide (q.1 ≠ k) = true := by simp [h1.symm.trans e]
      rw [if_neg a, if_neg b]; exact ih
    · have e' : ¬ q.1 = k := fun z => e (h1.trans z)
      have a : decide (p.1 ≠ k) = true := by simp [e]
      have b : decide (q.1 ≠ k) = true := by simp [e']
      rw [if_pos a, if_pos b]; exact .cons ⟨h1, h2⟩ ih
theorem KV.keys {kvs : List (κ × V)} {vs : List (κ × Value)} (r : KV kvs vs) : kvs.map (·.1) = vs.map (·.1) := by
  unfold KV at r
  induction r with
  | nil => rfl
  | cons h t ih => rw [List.map_cons, List.map_cons, ih, h.1]
theorem KV.length {kvs : List (κ × V)} {vs : List (κ × Value)} (r : KV kvs vs) : kvs.length = vs.length := Paired.length r
end


/-! ### a tracked dict, its keys ints and texts or tuples of these -/
theorem kV_is {P : Program} {w : World} {k : Key} {u : Value} (r : RelV (kV k) u) : (mixKind P w).is k u = true := by
  cases k with
  | inl i => obtain ⟨t, e⟩ := (show ∃ t, u = Value.int i t from r); subst e; exact mixKind_int P w i t
  | inr x => obtain ⟨t, e⟩ := (show ∃ t, u = Value.str x t from r); subst e; exact mixKind_str P w x t
theorem items_are {P : Program} {w : World} : ∀ {ks : List Key} {us : List Value}, Vals (ks.map kV) us → ItemsAre (mixKind P w) ks us
  | [], _, r => by rw [List.map_nil] at r; cases r; exact .nil
  | k :: ks, _, r => by
    rw [List.map_cons] at r
    cases r with
    | cons h t => exact .cons (kV_is h) (items_are t)

/-- raw entries of a dict with tuple keys -/
abbrev KT (H : Hp) : List (List Key × V) → List (List Key × Addr × Value) → Prop := Paired fun p q => p.1 = q.1 ∧ H q.2.1 = some (.tup (p.1.map kV)) ∧ RelV p.2 q.2.2
theorem KT.val {H : Hp} {kvs : List (List Key × V)} {xs : List (List Key × Addr × Value)} (r : KT H kvs xs) (k : List Key) : RelO (valV kvs k) ((atKey xs k).map (·.2)) := by
  induction r with
  | nil => exact True.intro
  | @cons p q ps qs h t ih =>
    obtain ⟨h1, _, h2⟩ := h
    by_cases e : p.1 = k
    · have e' : q.1 = k := h1.symm.trans e
      have b : atKey (q :: qs) k = some q.2 := by simp [atKey, List.find?_cons, e']
      rw [valV_pos e, b]; exact h2
    · have e' : ¬ q.1 = k := fun z => e (h1.trans z)
      have b : atKey (q :: qs) k = atKey qs k := by simp [atKey, List.find?_cons, e']
      rw [valV_neg e, b]; exact ih
theorem KT.repl {H : Hp} {kvs : List (List Key × V)} {xs : List (List Key × Addr × Value)} (r : KT H kvs xs) (k : List Key) {y : V} {u : Value} (ry : RelV y u) :
    KT H (kvs.map fun kv => if kv.1 = k then (kv.1, y) else kv) (xs.map (putAt k u)) := by
  induction r with
  | nil => exact .nil
  | @cons p q ps qs h t ih =>
    rw [List.map_cons, List.map_cons]
    refine .cons ?_ ih
    obtain ⟨h1, h2, h3⟩ := h
    unfold putAt
    by_cases e : p.1 = k
    · rw [if_pos e, if_pos (h1.symm.trans e)]; exact ⟨h1, h2, ry⟩
    · rw [if_neg e, if_neg (fun z => e (h1.trans z))]; exact ⟨h1, h2, h3⟩
theorem KT.put {H : Hp} {kvs : List (List Key × V)} {xs : List (List Key × Addr × Value)} (r : KT H kvs xs) (k : List Key) {b : Addr} {y : V} {u : Value} (hb : H b = some (.tup (k.map kV))) (ry : RelV y u) :
    KT H (putK kvs k y) (storedH xs k b u) := by
  have e : (kvs.any fun kv => decide (kv.1 = k)) = (atKey xs k).isSome := by
    rw [valV_any, (r.val k).isSome_eq, Option.isSome_map]
  unfold putK storedH
  rw [e]
  by_cases q : (atKey xs k).isSome = true
  · rw [if_pos q, if_pos q]; exact r.repl k ry
  · rw [if_neg q, if_neg q]; exact Paired.snoc r ⟨rfl, hb, ry⟩
theorem KT.keeps {H H' : Hp} {kvs : List (List Key × V)} {xs : List (List Key × Addr × Value)} (r : KT H kvs xs) (ht : ∀ b ys, H b = some (.tup ys) → H' b = some (.tup ys)) : KT H' kvs xs :=
  Paired.mapP r fun _ _ z => ⟨z.1, ht _ _ z.2.1, z.2.2⟩

section
variable {P : Program} {w : World} {H : Hp} {h : Heap} {a : Addr}
theorem rd_of {u : HO} (ok : HOk P w H h) (e : Rd H a u) : ObjOk P w H h a u := e.ok ok
theorem dk_rd {kvs : List (Key × V)} (ok : HOk P w H h) (e : Rd H a (.dK kvs)) : kvs.length ≤ sizeLine ∧ (a == sysModules) = false ∧ ∃ vs, KV kvs vs ∧ h.DictOf (mixKind P w) a vs :=
  show ObjOk P w H h a (.dK kvs) from rd_of ok e
theorem dk_of {kvs : List (Key × V)} (ok : HOk P w H h) (e : H a = some (.dK kvs)) : kvs.length ≤ sizeLine ∧ (a == sysModules) = false ∧ ∃ vs, KV kvs vs ∧ h.DictOf (mixKind P w) a vs := dk_rd ok (.inl e)
/-- a tracked tuple of ints and texts is a key -/
theorem key_of {ks : List Key} (ok : HOk P w H h) (e : H a = some (.tup (ks.map kV))) : (tupleKind (mixKind P w)).is h ks a := by
  obtain ⟨_, its, r, o, h1, h2, n, h3⟩ := (show ObjOk P w H h a (.tup (ks.map kV)) from ok a _ e)
  exact ⟨o, its.toArray, n, h1, h2, h3, by simpa using items_are r⟩
theorem dt_rd {kvs : List (List Key × V)} (ok : HOk P w H h) (e : Rd H a (.dT kvs)) : kvs.length ≤ sizeLine ∧ (a == sysModules) = false ∧
    ∃ xs, KT H kvs xs ∧ h.DictOfH (tupleKind (mixKind P w)) a xs := by
  obtain ⟨z, y, xs, r, o, es, ep, h1, h2, h3, h4, h5⟩ := (show ObjOk P w H h a (.dT kvs) from rd_of ok e)
  refine ⟨z, y, xs, r, o, es, ep, h1, h2, h3, h4, fun x hx => ?_, h5⟩
  have all : ∀ {l : List (List Key × V)} {m : List (List Key × Addr × Value)}, KT H l m → ∀ x ∈ m, (tupleKind (mixKind P w)).is h x.1 x.2.1 := by
    intro l m q
    induction q with
    | nil => intro x hx; exact nomatch hx
    | @cons p q ps qs hq t ih =>
      intro x hx
      rcases List.mem_cons.mp hx with e | hx
      · subst e
        exact key_of ok (by rw [← hq.1]; exact hq.2.1)
      · exact ih x hx
  exact all r x hx
theorem dt_of {kvs : List (List Key × V)} (ok : HOk P w H h) (e : H a = some (.dT kvs)) : kvs.length ≤ sizeLine ∧ (a == sysModules) = false ∧
    ∃ xs, KT H kvs xs ∧ h.DictOfH (tupleKind (mixKind P w)) a xs := dt_rd ok (.inl e)
end

/-- what the dict at a holds at the key y -/
def DGet (H : Hp) (a : Addr) (y : V) (r : Option V) : Prop :=
  (∃ kvs k, Rd H a (.dK kvs) ∧ y = kV k ∧ r = valV kvs k) ∨ ∃ kvs k b, Rd H a (.dT kvs) ∧ y = .ref b ∧ H b = some (.tup (k.map kV)) ∧ r = valV kvs k
/-- the heap behind a[y] = v -/
def DPut (H : Hp) (a : Addr) (y v : V) (H' : Hp) : Prop :=
  (∃ kvs k, H a = some (.dK kvs) ∧ y = kV k ∧ kvs.length < sizeLine ∧ H' = upd H a (.dK (putK kvs k v))) ∨
  ∃ kvs k b, H a = some (.dT kvs) ∧ y = .ref b ∧ H b = some (.tup (k.map kV)) ∧ kvs.length < sizeLine ∧ H' = upd H a (.dT (putK kvs k v))
theorem DGet.k {H : Hp} {a : Addr} {kvs : List (Key × V)} {k : Key} (e : H a = some (.dK kvs)) : DGet H a (kV k) (valV kvs k) := .inl ⟨kvs, k, .inl e, rfl, rfl⟩
theorem DGet.t {H : Hp} {a b : Addr} {kvs : List (List Key × V)} {k : List Key} (e : H a = some (.dT kvs)) (eb : H b = some (.tup (k.map kV))) : DGet H a (.ref b) (valV kvs k) := .inr ⟨kvs, k, b, .inl e, rfl, eb, rfl⟩
theorem DPut.k {H : Hp} {a : Addr} {kvs : List (Key × V)} {k : Key} {v : V} (e : H a = some (.dK kvs)) (hl : kvs.length < sizeLine) : DPut H a (kV k) v (upd H a (.dK (putK kvs k v))) := .inl ⟨kvs, k, e, rfl, hl, rfl⟩
theorem DPut.t {H : Hp} {a b : Addr} {kvs : List (List Key × V)} {k : List Key} {v : V} (e : H a = some (.dT kvs)) (eb : H b = some (.tup (k.map kV))) (hl : kvs.length < sizeLine) :
    DPut H a (.ref b) v (upd H a (.dT (putK kvs k v))) := .inr ⟨kvs, k, b, e, rfl, eb, hl, rfl⟩


section
variable {X : Cx} {pins : List (Addr × Obj)} {σ : St} {H : Hp} {s : Shared} {a : Addr} {y v : V} {u r : Value} {o : Option V} {A : Around} {E : Value → Shared → Prop}

theorem Inv.big (I : Inv X pins σ H s) : sysModules < s.heap.objs.size := by
  have h : mainGlobals < s.heap.objs.size := (I.mod.glob.keeps I.bk).lt
  exact Nat.lt_trans (by decide) h

/-- d[y], there -/
theorem d_getItem {Q : Value → Shared → Prop} (hu : A.units + 1 < cLine) (I : Inv X pins σ H s) (g : DGet H a y (some v)) (ry : RelV y u) (h : ∀ w' s', Inv X pins σ H s' → RelV v w' → Q w' s') :
    wpAny (model X.prog X.w) A (getItem (.ref a) u) Q E s := by
  rcases g with ⟨kvs, k, e, ey, l⟩ | ⟨kvs, k, b, e, ey, eb, l⟩
  · subst ey
    obtain ⟨z, hd, vs, rel, dd⟩ := dk_rd I.hok e
    obtain ⟨w', hw, rw'⟩ := RelO.some_of (v := v) (o := valueAt vs k) (by rw [l]; exact rel.val k)
    exact wpAny_getItem_of (kV_is ry) dd.mapOf hw (h w' _ (I.tok _) rw')
  · subst ey
    cases (show u = Value.ref b from ry)
    obtain ⟨z, hd, xs, rel, dd⟩ := dt_rd I.hok e
    obtain ⟨w', hw, rw'⟩ := RelO.some_of (v := v) (o := (atKey xs k).map (·.2)) (by rw [l]; exact rel.val k)
    obtain ⟨p, hp, hp2⟩ := Option.map_eq_some_iff.mp hw
    refine wpAny_getItem_heap (tupleKind_room_in1 hu) (key_of I.hok eb) dd hp ?_
    rw [hp2]
    exact h w' _ (I.tok _) rw'
/-- a dict's object is replaced -/
theorem d_write {h' : Heap} {t' : Nat} {ob : HO} (I : Inv X pins σ H s) (mu : Mut (H a)) (hs : Heap.SameBut a s.heap h') (he : ∃ q, h'.get? a = some q) (new : ObjOk X.prog X.w (upd H a ob) h' a ob) :
    Inv X pins σ (upd H a ob) { s with heap := h', toks := t' } :=
  I.write (x := a) (e := a) mu (.inl rfl) (fun b q hb z => (hs.2 b hb).trans z) he new
theorem dk_new {P : Program} {w : World} {H' : Hp} {h' : Heap} {kvs : List (Key × V)} {vs : List (Key × Value)} (z : kvs.length ≤ sizeLine) (hd : (a == sysModules) = false) (rel : KV kvs vs) (dd : h'.DictOf (mixKind P w) a vs) :
    ObjOk P w H' h' a (.dK kvs) := ⟨z, hd, vs, rel, dd⟩
/-- d[y] = v -/
theorem d_setItem {H' : Hp} {Q : Unit → Shared → Prop} (hu : A.units + 1 < cLine) (I : Inv X pins σ H s) (g : DPut H a y v H') (ry : RelV y u) (rv : RelV v r) (h : ∀ s', Inv X pins σ H' s' → Q () s') :
    wpAny (model X.prog X.w) A (setItem (.ref a) u r) Q E s := by
  rcases g with ⟨kvs, k, e, ey, l, eH⟩ | ⟨kvs, k, b, e, ey, eb, l, eH⟩
  · subst ey eH
    obtain ⟨z, hd, vs, rel, dd⟩ := dk_of I.hok e
    have hz : vs.length ≤ sizeLine := by rw [← rel.length]; exact z
    have hl : (putK kvs k v).length ≤ sizeLine := by have := length_putK kvs k v; omega
    refine wpAny_setItem_pairs (hsz := hz) (kV_is ry) dd fun h' dd' hs => h _ ?_
    have he : ∃ q, h'.get? a = some q := let ⟨q, _, _, hq, _⟩ := dd'; ⟨q, hq⟩
    exact d_write I (by rw [e]; exact True.intro) hs he (dk_new hl hd (rel.put k rv) dd')
  · subst ey eH
    cases (show u = Value.ref b from ry)
    obtain ⟨z, hd, xs, rel, dd⟩ := dt_of I.hok e
    have hz : xs.length ≤ sizeLine := by rw [← Paired.length rel]; exact z
    have hl : (putK kvs k v).length ≤ sizeLine := by have := length_putK kvs k v; omega
    refine wpAny_setItem_heap (hsz := hz) (tupleKind_room_in1 hu) (key_of I.hok eb) dd fun h' dd' hs => h _ ?_
    obtain ⟨q, es, ep, hq, h2, h3, h4, _, h5⟩ := dd'
    refine d_write I (by rw [e]; exact True.intro) hs ⟨q, hq⟩ ⟨hl, hd, _, (rel.put k eb rv).keeps fun c ys ec => ?_, q, es, ep, hq, h2, h3, h4, h5⟩
    rw [upd_ne (ne_of ec e (fun z => nomatch z))]
    exact ec
end

section
variable {X : Cx} {pins : List (Addr × Obj)} {σ : St} {H : Hp} {s : Shared} {a : Addr} {kvs : List (Key × V)} {k : Key} {u : Value} {A : Around} {E : Value → Shared → Prop}
end


/-! ### readings and rules -/
/-- the element of a subscription, not a slice -/
def NoSl (i : Expr) : Prop := ∀ ov iv, subscripted i false ov iv = operate [ov, iv] (getItem ov iv)
theorem subD_of {prog : Program} {w : World} {A : Around} {E : Value → Shared → Prop} {s : Shared} {env : Env} {value slice : Expr} {pos : Pos} {T id : String} {Q : Value → Shared → Prop}
    (hl : typeLookup (.type T) "__getitem__" = pure (some (.builtin id))) (hs : NoSl slice)
    (h : wpAny (model prog w) A (eval value env) (fun o s₁ => wpAny (model prog w) A (eval slice env) (fun i s₂ => s₂.TypeIs o T ∧ wpAny (model prog w) A (getItem o i) Q E s₂) E s₁) E s) :
    wpAny (model prog w) A (eval (.Subscript value slice pos) env) Q E s := by
  refine Subscript_ (wpAny_mono h (fun o s₁ h₁ => wpAny_mono h₁ (fun i s₂ h₂ => ?_) fun _ _ x => x) fun _ _ x => x)
  obtain ⟨hT, h₂⟩ := h₂
  unfold subscriptTail
  refine wpAny_bind ?_
  rw [getitemInPython_of_ne hT.not_modules]
  refine wpAny_bind (wpAny_specialOf hT hl ?_)
  have fin : wpAny (model prog w) A (subscripted slice false o i) (fun r s₃ => wpAny (model prog w) A (letTemporaryGo value o r >>= fun _ => pure r) Q E s₃) E s₂ := by
    rw [hs o i]
    exact wpAny_operating (wpAny_mono h₂ (fun r s₃ h₃ => wpAny_bind (wpAny_letTemporaryGo (wpAny_pure h₃))) fun _ _ x => x)
  first
    | exact wpAny_pure (wpAny_bind fin)
    | exact wpAny_bind (wpAny_pure (wpAny_bind fin))
    | exact wpAny_bind fin

theorem dict_typeIs {X : Cx} {pins : List (Addr × Obj)} {σ : St} {H : Hp} {s : Shared} {a : Addr} {y : V} {o : Option V} (I : Inv X pins σ H s) (g : DGet H a y o) : s.TypeIs (.ref a) "dict" := by
  rcases g with ⟨kvs, k, e, _, _⟩ | ⟨kvs, k, b, e, _, _, _⟩
  · obtain ⟨_, _, vs, _, dd⟩ := dk_rd I.hok e
    exact dd.typeIs
  · obtain ⟨_, _, xs, _, dd⟩ := dt_rd I.hok e
    exact dd.typeIs
/-- d[y] -/
def tDGet (td ty : TE) : TE := fun σ H Q => td σ H fun x H1 => ty σ H1 fun y H2 => ∃ a v, x = .ref a ∧ DGet H2 a y (some v) ∧ Q v H2
/-- y in d, y not in d -/
def tDIn (ty td : TE) : TE := fun σ H Q => ty σ H fun y H1 => td σ H1 fun x H2 => ∃ a o, x = .ref a ∧ DGet H2 a y o ∧ Q (.bl o.isSome) H2
def tDNotIn (ty td : TE) : TE := fun σ H Q => ty σ H fun y H1 => td σ H1 fun x H2 => ∃ a o, x = .ref a ∧ DGet H2 a y o ∧ Q (.bl (!o.isSome)) H2
/-- d[y] = v -/
def sDPut (td ty tv : TE) : TS := fun D σ H => tv σ H fun v H1 => td σ H1 fun x H2 => ty σ H2 fun y H3 => ∃ a H4, x = .ref a ∧ DPut H3 a y v H4 ∧ D.nx σ H4
/-- d[y] op= v -/
def sDAug (td ty tv : TE) (rd : V → V → Hp → VK → Prop) : TS := fun D σ H => td σ H fun x H1 => ty σ H1 fun y H2 => ∃ a v, x = .ref a ∧ DGet H2 a y (some v) ∧
  tv σ H2 fun y2 H3 => rd v y2 H3 fun z H4 => ∃ H5, DPut H4 a y z H5 ∧ D.nx σ H5
/-- del d[y] -/
def sDDel (td ty : TE) : TS := fun D σ H => td σ H fun x H1 => ty σ H1 fun y H2 => ∃ a kvs k, x = .ref a ∧ H2 a = some (.dK kvs) ∧ y = kV k ∧ (valV kvs k).isSome = true ∧ D.nx σ (upd H2 a (.dK (dropK kvs k)))

section
variable {X : Cx} {o i e value : Expr} {pos pos' tpos : Pos} {td ty tv : TE}
theorem pe_dget (hu : X.A.units + 1 < cLine) (ho : PE X o td) (hi : PE X i ty) (hs : NoSl i) : PE X (.Subscript o i pos) (tDGet td ty) := by
  intro pins s σ H Q I h
  refine subD_of PySem.F.slot_dict_getitem.lookup hs (thn (ho pins s σ H _ I h) fun u s1 ⟨x, H1, I1, rx, q1⟩ => thn (hi pins s1 σ H1 _ I1 q1) fun iv s2 ⟨y, H2, I2, ry, a, v, ex, g, q2⟩ => ?_)
  subst ex
  obtain rfl : u = Value.ref a := rx
  exact ⟨dict_typeIs I2 g, d_getItem hu I2 g ry fun w' s3 I3 rw' => ⟨v, H2, I3, rw', q2⟩⟩
theorem ps_dput (hu : X.A.units + 1 < cLine) (ho : PE X o td) (hi : PE X i ty) (hv : PE X value tv) (hs : swapsWith value (some (.Subscript o i pos')) pos.line X.env = pure false) :
    PS X (.Assign [.Subscript o i pos'] value pos) (sDPut td ty tv) := by
  intro pins s σ H D I h
  refine wpAny_Assign_Subscript (thn (hv pins s σ H _ I h) fun r s1 ⟨v, H1, I1, rv, q1⟩ => thn (ho pins s1 σ H1 _ I1 q1) fun u s2 ⟨x, H2, I2, rx, q2⟩ => thn (hi pins s2 σ H2 _ I2 q2) fun iv s3 ⟨y, H3, I3, ry, a, H4, ex, g, q3⟩ => ?_) hs
  subst ex
  obtain rfl : u = Value.ref a := rx
  exact d_setItem hu I3 g ry rv fun s4 I4 => ⟨σ, H4, I4, q3⟩
end


/-! ### displays -/
theorem dk_empty {P : Program} {w : World} {H : Hp} (h : Heap) (hb : sysModules < h.objs.size) : ObjOk P w H (h.push { cls := .type "dict", data := .dict #[] }) h.objs.size (.dK []) :=
  ⟨Nat.zero_le _, beq_eq_false_iff_ne.mpr (Ne.symm (Nat.ne_of_lt hb)), [], .nil, Heap.DictOf.new h⟩
/-- {}, to be a dict of the kind that is wanted -/
def tDNewK : TE := fun _ H Q => ∀ p, H p = none → Q (.ref p) (upd H p (.dK []))
def tDNewT : TE := fun _ H Q => ∀ p, H p = none → Q (.ref p) (upd H p (.dT []))
section
variable {X : Cx} {pos : Pos}
end

/-- the pairs of a display, from the left -/
def tPairs : List (TE × TE) → St → Hp → (List (V × V) → Hp → Prop) → Prop
  | [], _, H, Q => Q [] H
  | (tk, tv) :: r, σ, H, Q => tk σ H fun x H1 => tv σ H1 fun y H2 => tPairs r σ H2 fun ps H3 => Q ((x, y) :: ps) H3
abbrev VV : List (V × V) → List (Value × Value) → Prop := Paired fun p q => RelV p.1 q.1 ∧ RelV p.2 q.2
def PPs (X : Cx) (pos : Pos) (keys : List (Option Expr)) (values : List Expr) (trs : List (TE × TE)) : Prop :=
  ∀ (pins : List (Addr × Obj)) (s : Shared) (σ : St) (H : Hp) (Q : List (V × V) → Hp → Prop), Inv X pins σ H s → tPairs trs σ H Q →
    wpAny (model X.prog X.w) X.A (evalPairs (pairTrees keys values X.env pos)) (fun vs s' => ∃ ps H', Inv X pins σ H' s' ∧ VV ps vs ∧ Q ps H') X.xe s
theorem pps_nil {X : Cx} {pos : Pos} : PPs X pos [] [] [] := fun pins s σ H Q I h => pairTrees_nil_walk ⟨[], H, I, .nil, h⟩
theorem pps_cons {X : Cx} {pos : Pos} {k v : Expr} {ks : List (Option Expr)} {vs : List Expr} {tk tv : TE} {trs : List (TE × TE)} (hk : PE X k tk) (hv : PE X v tv) (hr : PPs X pos ks vs trs) :
    PPs X pos (some k :: ks) (v :: vs) ((tk, tv) :: trs) := fun pins s σ H Q I h =>
  pairTrees_cons_walk (thn (hk pins s σ H _ I h) fun u s1 ⟨x, H1, I1, rx, q1⟩ => thn (hv pins s1 σ H1 _ I1 q1) fun w2 s2 ⟨y, H2, I2, ry, q2⟩ =>
    thn (hr pins s2 σ H2 _ I2 q2) fun ws s3 ⟨ps, H3, I3, rel, q3⟩ => ⟨(x, y) :: ps, H3, I3, .cons ⟨rx, ry⟩ rel, q3⟩)

def mergeK (kvs more : List (Key × V)) : List (Key × V) := more.foldl (fun acc kv => putK acc kv.1 kv.2) kvs
theorem KV.merge : ∀ {more : List (Key × V)} {rs : List (Key × Value)} {kvs : List (Key × V)} {vs : List (Key × Value)}, KV more rs → KV kvs vs → KV (mergeK kvs more) (merged vs rs) := by
  intro more rs kvs vs r
  unfold KV at r
  induction r generalizing kvs vs with
  | nil => intro q; exact q
  | @cons p q ps qs h t ih =>
    intro r0
    have e : KV (putK kvs p.1 p.2) (stored vs q.1 q.2) := by
      have := r0.put p.1 h.2
      rw [← h.1]; exact this
    exact ih e
theorem length_mergeK : ∀ (more kvs : List (Key × V)), (mergeK kvs more).length ≤ kvs.length + more.length
  | [], kvs => by show kvs.length ≤ kvs.length + 0; omega
  | p :: r, kvs => by
    have h1 := length_mergeK r (putK kvs p.1 p.2)
    have h2 := length_putK kvs p.1 p.2
    show (mergeK (putK kvs p.1 p.2) r).length ≤ _
    rw [List.length_cons]; omega
theorem carries_of {P : Program} {w : World} : ∀ {kvs : List (Key × V)} {ws : List (Value × Value)}, VV (kvs.map fun kv => (kV kv.1, kv.2)) ws → ∃ rs, Carries (mixKind P w) ws rs ∧ KV kvs rs
  | [], _, r => by rw [List.map_nil] at r; cases r; exact ⟨[], True.intro, .nil⟩
  | p :: kvs, _, r => by
    rw [List.map_cons] at r
    cases r with
    | @cons a b as bs h t =>
      obtain ⟨rs, c, q⟩ := carries_of (P := P) (w := w) t
      obtain ⟨b1, b2⟩ := b
      exact ⟨(p.1, b2) :: rs, ⟨kV_is h.1, rfl, c⟩, .cons ⟨rfl, h.2⟩ q⟩
/-- {k: v, ..} with keys ints and texts; the new dict stands empty while the pairs are made -/
def tDisp (trs : List (TE × TE)) : TE := fun σ H Q => ∀ p, H p = none → tPairs trs σ (upd H p (.dK [])) fun ps H2 => H2 p = some (.dK []) ∧ ∃ kvs : List (Key × V), ps = kvs.map (fun kv => (kV kv.1, kv.2)) ∧ kvs.length ≤ 15 ∧ Q (.ref p) (upd H2 p (.dK (mergeK [] kvs)))
theorem pe_disp {X : Cx} {pos : Pos} {keys : List (Option Expr)} {values : List Expr} {trs : List (TE × TE)} (h : PPs X pos keys values trs) (hall : keys.all (·.isSome) = true) (hl : keys.length = values.length) (h0 : keys ≠ [])
    (h15 : keys.length ≤ 15) : PE X (.Dict keys values pos) (tDisp trs) := by
  intro pins s σ H Q I q
  have hn := I.hok.fresh (Nat.le_refl s.heap.objs.size)
  have I1 := I.laid (a := s.heap.objs.size) (o := .dK []) (h' := s.heap.push { cls := .type "dict", data := .dict #[] }) (t' := s.toks) (fun _ _ q => Heap.get?_push_of_some _ q) (Nat.le_refl _) (dk_empty s.heap I.big)
  refine wpAny_Dict_walk (knd := mixKind X.prog X.w) hall hl h0 h15 (thn (h pins _ σ _ _ I1 (q _ hn)) fun ws s2 ⟨ps, H2, I2, rel, e, kvs, ep, lk, q2⟩ => ?_)
  subst ep
  obtain ⟨rs, c, rk⟩ := carries_of (P := X.prog) (w := X.w) rel
  obtain ⟨z, hd, vs0, r0, dd⟩ := dk_of I2.hok e
  cases r0
  refine ⟨rs, c, dd, fun h' dd' hs => ⟨.ref s.heap.objs.size, _, ?_, rfl, q2⟩⟩
  have hz : (mergeK [] kvs).length ≤ sizeLine := by
    have h1 := length_mergeK kvs []
    rw [List.length_nil] at h1
    rw [sizeLine_eq]; omega
  have he : ∃ q, h'.get? s.heap.objs.size = some q := let ⟨q, _, _, hq, _⟩ := dd'; ⟨q, hq⟩
  exact d_write I2 (by rw [e]; exact True.intro) hs he (dk_new hz hd (rk.merge .nil) dd')


/-! ### methods -/
/-- a method call o.m(e) of a built-in, with one argument: what must be seen of the text -/
structure M1 (X : Cx) (o : Expr) (m : Str) (apos : Pos) (e : Expr) (cpos : Pos) : Prop where
  base : attributeBase o m X.env (eval o X.env) = eval o X.env
  few : ((backTo cpos (starEach [e] X.env)).all (fun x => !x.1) && (backToKw cpos (keywordEach [] X.env)).all (fun x => x.1.isSome)
    && decide (([e] : List Expr).length + ([] : List Keyword).length + (if ([] : List Keyword).isEmpty then 0 else 1) < 30)) = true
  line : (apos.endLine == cpos.line) = true
  trees : backTo cpos (starEach [e] X.env) = [(false, eval e X.env)]
structure M2 (X : Cx) (o : Expr) (m : Str) (apos : Pos) (e f : Expr) (cpos : Pos) : Prop where
  base : attributeBase o m X.env (eval o X.env) = eval o X.env
  few : ((backTo cpos (starEach [e, f] X.env)).all (fun x => !x.1) && (backToKw cpos (keywordEach [] X.env)).all (fun x => x.1.isSome)
    && decide (([e, f] : List Expr).length + ([] : List Keyword).length + (if ([] : List Keyword).isEmpty then 0 else 1) < 30)) = true
  line : (apos.endLine == cpos.line) = true
  trees : backTo cpos (starEach [e, f] X.env) = [(false, eval e X.env), (false, eval f X.env)]

/-- a is a dict, whatever its keys -/
def IsD (H : Hp) (a : Addr) : Prop := (∃ kvs, Rd H a (.dK kvs)) ∨ ∃ kvs, Rd H a (.dT kvs)
section
variable {X : Cx} {pins : List (Addr × Obj)} {σ : St} {H : Hp} {s : Shared} {a : Addr} {y d : V} {u r : Value} {o : Option V} {A : Around} {E : Value → Shared → Prop}
end

def tDGet1 (td ty : TE) : TE := fun σ H Q => td σ H fun x H1 => ∃ a, x = .ref a ∧ IsD H1 a ∧ ty σ H1 fun y H2 => ∃ o, DGet H2 a y o ∧ Q (o.getD .non) H2
def tDGet2 (td ty tx : TE) : TE := fun σ H Q => td σ H fun x H1 => ∃ a, x = .ref a ∧ IsD H1 a ∧ ty σ H1 fun y H2 => tx σ H2 fun z H3 => ∃ o, DGet H3 a y o ∧ Q (o.getD z) H3
/-- d.pop(k): there; d.pop(k, x): there or not -/
def tDPop1 (td ty : TE) : TE := fun σ H Q => td σ H fun x H1 => ∃ a, x = .ref a ∧ IsD H1 a ∧ ty σ H1 fun y H2 => ∃ kvs k v, H2 a = some (.dK kvs) ∧ y = kV k ∧ valV kvs k = some v ∧ Q v (upd H2 a (.dK (dropK kvs k)))
def tDPop2 (td ty tx : TE) : TE := fun σ H Q => td σ H fun x H1 => ∃ a, x = .ref a ∧ IsD H1 a ∧ ty σ H1 fun y H2 => tx σ H2 fun z H3 => ∃ kvs k, H3 a = some (.dK kvs) ∧ y = kV k ∧
  (∀ v, valV kvs k = some v → Q v (upd H3 a (.dK (dropK kvs k)))) ∧ (valV kvs k = none → Q z H3)
section
variable {X : Cx} {o e f : Expr} {apos cpos : Pos} {td ty tx : TE}
end

/-! ### dict(d): a copy -/
section
variable {X : Cx} {pins : List (Addr × Obj)} {σ : St} {H : Hp} {s : Shared} {a : Addr} {kvs : List (Key × V)} {A : Around} {E : Value → Shared → Prop}
end


section
variable {X : Cx} {pins : List (Addr × Obj)} {σ : St} {H : Hp} {s : Shared} {a : Addr} {y : V} {u : Value} {A : Around} {E : Value → Shared → Prop}
end
end L2

namespace L2
open PySem PySem.Spec PyProof.Rows

theorem list_keys_none : typeLookup (.type "list") "keys" = pure none := am_miss_of_fast (by first | decide +kernel | rfl)
theorem ud_entry : entryFor table "dict.update.loop" = some Builtin.«dict.update.loop» := entryFor_of_tree (by kernel_rfl)
theorem ud_plain : plainId "dict.update.loop" = true := by decide +kernel

section
variable {prog : Program} {w : World} {A : Around} {E : Value → Shared → Prop}
/-- a list has no attribute 'keys': an AttributeError is made, and forgotten -/
theorem miss_list {s : Shared} {a : Addr} {o : Obj} {xs : Array Value} {k : Nat} {Q : Option Value → Shared → Prop} (hx : s.heap.get? a = some o) (hc : o.cls = .type "list") (hdat : o.data = .seq xs k) (hd : o.dict = none) (hA : A.handled = none)
    (h : ∀ h' tk, (∀ b ob, s.heap.get? b = some ob → h'.get? b = some ob) → Q none { s with heap := h', toks := tk }) : wpAny (model prog w) A (getAttr? (.ref a) "keys") Q E s := by
  obtain ⟨c, dct, dat, sl⟩ := o
  simp only at hc hdat hd
  subst hc hdat hd
  obtain ⟨hp, g, d, tk, os⟩ := s
  have hT : ∀ tk', (⟨hp, g, d, tk', os⟩ : Shared).TypeIs (.ref a) "list" := fun _ => ⟨_, hx, rfl⟩
  have hmiss := list_keys_none
  have hname : (["__module__", "__name__", "__qualname__", "__doc__", "__annotations__"] : List Str).contains "keys" = false := by decide +kernel
  have hsz : ("keys" : Str).length + 100 ≤ sizeLine := by first | size_fits | decide +kernel
  have f1 := sub_AttributeError
  have f3 := PySem.F.slot_list_getattribute.lookup
  have f4 := PySem.F.slot_list_getattribute.bind (.ref a)
  have f5 := am_list_getattr_none
  unfold getAttr? getAttrBy? getAttrBy
  repeat (any_goals (first | assumption | exact hT _ | ((with_reducible show wpAny _ _ (call (Value.builtin "list.__getattribute__") _ _) _ _ _); refine call_meets PySem.F.slot_list_getattribute (hT _) am_entry_list_getattribute (PySem.F.args_list_getattribute_2 _ _) (meets_getattribute_miss_list a xs k sl "keys" _ hmiss hname hsz) ⟨hx, hA, fun h' tk' e hx' => ?_⟩) | wp_step))
  obtain ⟨t', u', he⟩ := hx'.there
  show wpAny _ _ (getattributeRaised _ _ _ _ _ _ _) _ _ _
  unfold getattributeRaised
  repeat (any_goals (first | assumption | wp_step))
  all_goals first | exact h _ _ hx'.keeps | (dsimp only; repeat (any_goals (first | assumption | exact h _ _ hx'.keeps | wp_step)))

/-- the walk over the pairs -/
theorem upd_loop {R : Result → Shared → Prop} {S I l : Addr} {items : Array Value} {res : Value} (hh : A.handled = none) (hlI : l ≠ I) (hSI : S ≠ I) (hSl : S ≠ l) :
    ∀ (rest : List (Key × Value)) (i : Nat) (acc : List (Key × Value)) (ix : Int) (t : Tok) (s : Shared), items.size = i + rest.length → acc.length + rest.length ≤ sizeLine →
      (∀ (j : Nat) (q : Key × Value), rest[j]? = some q → ∃ (b : Addr) (u : Value), items[i + j]? = some (.ref b) ∧ b ≠ S ∧ b ≠ I ∧ IsTup s.heap b #[u, q.2] ∧ keyIs q.1 u = true) →
      s.heap.IsListIter I l i → s.heap.IsList l items → s.heap.DictOf (mixKind prog w) S acc →
      (∀ h' tk, h'.DictOf (mixKind prog w) S (merged acc rest) → (∀ b o, b ≠ S → b ≠ I → s.heap.get? b = some o → h'.get? b = some o) → R (.ok (.ret res)) { s with heap := h', toks := tk }) →
      codeAny (model prog w) A (.builtin "dict.update.loop" ⟨[.ref S, .ref I, .int ix t, res], []⟩) R s
  | [], i, acc, ix, t, s, hsz, hln, ht, hit, hl, hm, hR => by
    refine codeAny_builtin ud_entry ?_
    rw [Around.under_plainId ud_plain _]
    show wpAny _ A.in1 (pyNext (.ref I) >>= _) _ _ s
    refine wpAny_bind (wpAny_pyNext_list_end (A := A.in1) hh hit hl (by first | exact Array.getElem?_eq_none (Nat.le_of_eq hsz) | (simp at hsz; simp; omega)) fun h' he => ?_)
    show wpAny _ A.in1 (Builtin.Dict.addKeywords S [] >>= _) _ _ _
    refine wpAny_bind (wpAny_pure (wpAny_pure ?_))
    exact hR h' s.toks (hm.extBut he hSI) fun b o _ hb e => he b o hb e
  | q :: rest, i, acc, ix, t, s, hsz, hln, ht, hit, hl, hm, hR => by
    obtain ⟨b, u, hb, hbS, hbI, htup, hk⟩ := ht 0 q rfl
    rw [List.length_cons] at hsz hln
    refine codeAny_builtin ud_entry ?_
    rw [Around.under_plainId ud_plain _]
    show wpAny _ A.in1 (pyNext (.ref I) >>= _) _ _ s
    refine wpAny_bind (wpAny_pyNext_list_item (x := .ref b) hit hl (by simpa using hb) fun h1 hit1 hs1 => ?_)
    have ht1 : IsTup h1 b #[u, q.2] := htup.extBut hs1.extBut hbI
    have hl1 : h1.IsList l items := hl.extBut hs1.extBut hlI
    have hm1 : h1.DictOf (mixKind prog w) S acc := hm.extBut hs1.extBut hSI
    obtain ⟨o, ho, hc, n, hd⟩ := id ht1
    show wpAny _ A.in1 (holding [Value.ref b] _ >>= _) _ _ _
    refine wpAny_bind (wpAny_holding ?_)
    refine wpAny_bind (wpAny_tryCatch ?_)
    unfold Builtin.Dict.pairItems
    refine wpAny_bind (wpAny_typeOf (T := "tuple") ⟨o, ho, hc⟩ ?_)
    rw [if_pos (by first | decide | rfl | simp)]
    refine wpAny_bind (wpAny_seqItems ho hd (wpAny_pure ?_))
    show wpAny _ A.in1 (holding [u, q.2] (dictSet S u q.2)) _ _ _
    refine wpAny_holding (wpAny_dictSet_pairs (knd := mixKind prog w) (k := q.1) hk hm1 (fun h2 hm2 hs2 => ?_) (by omega))
    refine wpAny_pure ⟨plainId_quiet ud_plain _, upd_loop (items := items) hh hlI hSI hSl rest (i + 1) (stored acc q.1 q.2) (ix + 1) 0 _ (show items.size = i + 1 + rest.length by omega) ?_ (fun j q' e => ?_) ?_ ?_ hm2 fun h' tk hd' k => ?_⟩
    · have z := stored_length_le acc q.1 q.2
      omega
    · obtain ⟨b', u', hb', hbS', hbI', htup', hk'⟩ := ht (j + 1) q' (by simpa using e)
      refine ⟨b', u', ?_, hbS', hbI', (htup'.extBut hs1.extBut hbI').extBut hs2.extBut hbS', hk'⟩
      rw [show i + 1 + j = i + (j + 1) by omega]
      exact hb'
    · exact hit1.at fun o' e => hs2.extBut I o' (Ne.symm hSI) e
    · exact hl1.extBut hs2.extBut (Ne.symm hSl)
    · exact hR h' tk hd' fun c oc h3 h4 e => k c oc h3 h4 (hs2.extBut c oc h3 (hs1.extBut c oc h4 e))

/-- dict(l) of a list of pairs -/
theorem call_dict_pairs {s : Shared} {l : Addr} {ol : Obj} {items : Array Value} {n : Nat} {prs : List (Key × Value)} {Q : Value → Shared → Prop} (hh : A.handled = none) (hl : s.heap.get? l = some ol) (hc : ol.cls = .type "list") (hd : ol.dict = none)
    (hdat : ol.data = .seq items n) (hsz : items.size = prs.length) (hln : prs.length ≤ sizeLine)
    (ht : ∀ (j : Nat) (q : Key × Value), prs[j]? = some q → ∃ (b : Addr) (u : Value), items[j]? = some (.ref b) ∧ IsTup s.heap b #[u, q.2] ∧ keyIs q.1 u = true)
    (h : ∀ h' tk, h'.DictOf (mixKind prog w) s.heap.objs.size (merged [] prs) → (∀ b o, s.heap.get? b = some o → h'.get? b = some o) → Q (.ref s.heap.objs.size) { s with heap := h', toks := tk }) :
    wpAny (model prog w) A (call (.type "dict") [.ref l]) Q E s := by
  refine callType_codes (Q₁ := fun obj s₁ => obj = .ref s.heap.objs.size ∧ s₁ = { s with heap := s.heap.push { cls := .type "dict", data := .dict #[] } }) PySem.F.kt_called_dict (PySem.F.kt_typeCall_dict_1 _) PySem.F.entry_dict_init (kt_code_dict_new _ ⟨rfl, rfl⟩) ?_
  rintro obj s₁ ⟨rfl, rfl⟩
  have hnew : (s.heap.push { cls := .type "dict", data := .dict #[] }).DictOf (mixKind prog w) s.heap.objs.size [] := Heap.DictOf.new s.heap
  have k0 : ∀ b o, s.heap.get? b = some o → (s.heap.push { cls := .type "dict", data := .dict #[] }).get? b = some o := fun b o e => Heap.get?_push_of_some _ e
  refine ⟨hnew.typeIs, PySem.F.args_dict_init_2 _ _, ?_⟩
  unfold Builtin.«dict.__init__»
  refine wpAny_bind ?_
  unfold Builtin.Dict.selfAndRest
  refine wpAny_bind (wpAny_notOrdered_dict hnew.typeIs ?_)
  show wpAny _ _ (pure (s.heap.objs.size, [Value.ref l])) _ _ _
  refine wpAny_pure ?_
  show wpAny _ _ (Builtin.Dict.updateFrom "dict.__init__" s.heap.objs.size (.ref l) [] .none) _ _ _
  unfold Builtin.Dict.updateFrom
  refine wpAny_bind (wpAny_typeOf (T := "list") ⟨ol, k0 _ _ hl, hc⟩ ?_)
  rw [if_pos (by first | decide | rfl | simp)]
  refine wpAny_bind (miss_list (k0 _ _ hl) hc hdat hd hh fun h1 tk1 hk1 => ?_)
  rw [if_pos (show (none : Option Value).isNone = true from rfl)]
  refine wpAny_bind (wpAny_rule ?_)
  have hl1 : h1.IsList l items := ⟨ol, hk1 _ _ (k0 _ _ hl), hc, n, hdat⟩
  have hS1 : s.heap.objs.size < h1.objs.size := by
    have e : (s.heap.push { cls := .type "dict", data := .dict #[] }).get? s.heap.objs.size = some { cls := .type "dict", data := .dict #[] } := Heap.get?_push_size _ rfl
    exact Heap.lt_size (hk1 _ _ e)
  refine wpAny_bind (wpAny_pyIter_list hl1 ?_)
  have k2 : ∀ b o, h1.get? b = some o → (h1.push { cls := .type "list_iterator", data := .fields #[.ref l, .int 0 0] }).get? b = some o := fun b o e => Heap.get?_push_of_some _ e
  have hlt : l < s.heap.objs.size := Heap.lt_size hl
  have key := upd_loop (prog := prog) (w := w) (A := A.in1) (R := wants (fun r s₂ => r = .none ∧ Q (.ref s.heap.objs.size) s₂) E) (S := s.heap.objs.size) (I := h1.objs.size) (l := l) (items := items) (res := Value.none) hh
    (Nat.ne_of_lt (Nat.lt_trans hlt hS1)) (Nat.ne_of_lt hS1) (Nat.ne_of_gt hlt) prs 0 [] 0 0
    { s with heap := h1.push { cls := .type "list_iterator", data := .fields #[.ref l, .int 0 0] }, toks := tk1 } (by rw [hsz, Nat.zero_add]) (by rw [List.length_nil, Nat.zero_add]; exact hln)
    (fun j q e => by
      obtain ⟨b, u, e1, e2, e3⟩ := ht j q e
      have hb : b < s.heap.objs.size := e2.lt
      exact ⟨b, u, by rw [Nat.zero_add]; exact e1, Nat.ne_of_lt hb, Nat.ne_of_lt (Nat.lt_trans hb hS1), e2.keeps fun c o z => k2 _ _ (hk1 _ _ (k0 _ _ z)), e3⟩)
    ⟨_, Heap.get?_push_size _ rfl, rfl, rfl⟩ (hl1.at fun o e => k2 _ _ e) ((hnew.at fun o e => hk1 _ _ e).at fun o e => k2 _ _ e)
    (fun h' tk hd' k => ⟨rfl, h h' tk hd' fun b o e => k b o (Nat.ne_of_lt (Heap.lt_size e)) (Nat.ne_of_lt (Nat.lt_trans (Heap.lt_size e) hS1)) (k2 _ _ (hk1 _ _ (k0 _ _ e)))⟩)
  first
    | exact wpAny_pure ⟨plainId_quiet ud_plain _, key⟩
    | exact wpAny_bind (wpAny_pure (wpAny_pure ⟨plainId_quiet ud_plain _, key⟩))
end

section
variable {X : Cx}
theorem pairs_of {pins : List (Addr × Obj)} {σ : St} {H : Hp} {s : Shared} (I : Inv X pins σ H s) : ∀ {ps : List Addr} {kvs : List (Key × V)}, Paired (fun p kv => SqT X.K H p [kV kv.1, kv.2]) ps kvs →
    ∃ prs : List (Key × Value), KV kvs prs ∧ prs.length = ps.length ∧ ∀ (j : Nat) (q : Key × Value), prs[j]? = some q → ∃ (b : Addr) (u : Value), ps[j]? = some b ∧ IsTup s.heap b #[u, q.2] ∧ keyIs q.1 u = true
  | _, _, .nil => ⟨[], .nil, rfl, fun j q e => by simp at e⟩
  | _, _, .cons (a := p) (b := kv) h t => by
    obtain ⟨prs, r, hl, hp⟩ := pairs_of I t
    obtain ⟨its, rv, ht, _⟩ := I.tuple h
    obtain ⟨u, y, ei, ru, ry⟩ := vals2 rv
    subst ei
    refine ⟨(kv.1, y) :: prs, .cons ⟨rfl, ry⟩ r, by rw [List.length_cons, List.length_cons, hl], fun j q e => ?_⟩
    cases j with
    | zero =>
      have e' : (kv.1, y) = q := Option.some.inj e
      subst e'
      exact ⟨p, u, rfl, ht, kV_is (P := X.prog) (w := X.w) ru⟩
    | succ j =>
      obtain ⟨b, u', e1, e2, e3⟩ := hp j q (by simpa using e)
      exact ⟨b, u', by simpa using e1, e2, e3⟩
theorem refs_at : ∀ {ps : List Addr} {us : List Value}, Vals (ps.map V.ref) us → us = ps.map Value.ref
  | [], us, r => by
    rw [List.map_nil] at r
    cases r
    rfl
  | p :: ps, us, r => by
    rw [List.map_cons] at r
    cases r with
    | cons h t =>
      cases h
      rw [List.map_cons, ← refs_at t]
/-- dict(xs) of a list of pairs (key, value): later pairs win, the place is the first one's -/
theorem call_dictP (hcalm : X.calm = true) : CallR X (.type "dict") (fun xs H Q => ∃ (a : Addr) (ps : List Addr) (kvs : List (Key × V)), xs = [.ref a] ∧ SqL X.K H a (ps.map V.ref) ∧ Paired (fun p kv => SqT X.K H p [kV kv.1, kv.2]) ps kvs ∧
    ∀ p, H p = none → Q (.ref p) (upd H p (.dK (mergeK [] kvs)))) := by
  intro pins s σ H xs us Q I r q
  obtain ⟨a, ps, kvs, ex, hq, hp, q⟩ := q
  subst ex
  obtain ⟨u, eu, rx⟩ := vals1 r
  subst eu
  cases rx
  obtain ⟨its, rv, pl, hz⟩ := I.list hq
  have ei := refs_at rv
  subst ei
  rw [List.length_map] at hz
  obtain ⟨prs, rel, hl, hpr⟩ := pairs_of I hp
  obtain ⟨o, n, ho, hc, hd, hdat⟩ := pl
  refine call_dict_pairs (prs := prs) (I.ok.hd hcalm) ho hc hd hdat (by simp [hl]) (by rw [hl]; exact hz) (fun j q' e => ?_) fun h' tk hd' k => ?_
  · obtain ⟨b, u, e1, e2, e3⟩ := hpr j q' e
    exact ⟨b, u, by simp [e1], e2, e3⟩
  · have hm : (s.heap.objs.size == sysModules) = false := beq_eq_false_iff_ne.mpr (Nat.ne_of_gt I.big)
    have hlen : (mergeK [] kvs).length ≤ sizeLine := by
      refine Nat.le_trans (length_mergeK kvs []) ?_
      rw [List.length_nil, Nat.zero_add, rel.length, hl]
      exact hz
    exact ⟨.ref s.heap.objs.size, upd H s.heap.objs.size (.dK (mergeK [] kvs)), I.laid (t' := tk) k (Nat.le_refl _) (show ObjOk X.prog X.w _ _ _ (.dK (mergeK [] kvs)) from ⟨hlen, hm, merged [] prs, KV.merge rel .nil, hd'⟩), rfl, q _ (I.hok.fresh (Nat.le_refl _))⟩
end
end L2

namespace L2
open PySem PySem.Spec PyProof.Rows

section
variable {X : Cx} {pins : List (Addr × Obj)} {σ : St} {H : Hp} {s : Shared} {h' : Heap}
/-- several records of ours have turned -/
theorem Inv.turnedL {t' : Nat} {ch : List Addr} (I : Inv X pins σ H s) (k : ∀ b o, b ∉ ch → s.heap.get? b = some o → h'.get? b = some o) (hf : ∀ b ∈ ch, FpOk X pins H b) : Inv X pins σ H { s with heap := h', toks := t' } := by
  have nit : ∀ b u, H b = some u → b ∉ ch := fun b u e z => by
    have q := (hf b z).1
    rw [q] at e; cases e
  refine I.step (g' := s.gens) (d' := s.drawn) (ch := ch) (fun b hb => ⟨(hf b hb).2.2.2.1, (hf b hb).2.1, (hf b hb).2.2.2.2.1, (hf b hb).2.2.2.2.2⟩) (fun b o _ _ hc e _ => k b o hc e) (fun b o _ _ hc e _ => ⟨o.slots, k b o hc e⟩)
    (fun _ _ _ _ n => n) (fun b o hc e => ⟨o, k b o hc e⟩) (fun _ _ e => e) (fun _ _ _ e => e) (fun b ps e => ⟨#[], by rw [e]; simp⟩) (fun m hm => ?_) (fun b u e => ?_) I.bare
  · obtain ⟨o, es, ep, ho, r⟩ := hm
    exact ⟨o, es, ep, k _ o (fun z => (hf _ z).2.1 rfl) ho, r⟩
  · refine (I.hok b u e).stay (fun c v hc q => k c v ?_ q) (fun _ q => q) fun _ _ q => q
    rcases hc with z | z
    · rw [z]; exact nit b u e
    · exact nit c _ z
/-- .. and one new object is laid -/
theorem Inv.turnedNew {t' : Nat} {ch : List Addr} {T : Addr} {ob : HO} (I : Inv X pins σ H s) (k : ∀ b o, b ∉ ch → s.heap.get? b = some o → h'.get? b = some o) (hf : ∀ b ∈ ch, FpOk X pins H b) (hT : s.heap.objs.size ≤ T)
    (new : ObjOk X.prog X.w (upd H T ob) h' T ob) : Inv X pins σ (upd H T ob) { s with heap := h', toks := t' } := by
  have hn : H T = none := I.hok.fresh hT
  have nit : ∀ b u, H b = some u → b ∉ ch := fun b u e z => by
    have q := (hf b z).1
    rw [q] at e; cases e
  refine I.step (g' := s.gens) (d' := s.drawn) (ch := ch) (fun b hb => ⟨(hf b hb).2.2.2.1, (hf b hb).2.1, (hf b hb).2.2.2.2.1, (hf b hb).2.2.2.2.2⟩) (fun b o _ _ hc e _ => k b o hc e) (fun b o _ _ hc e _ => ⟨o.slots, k b o hc e⟩)
    (fun b o _ e n => ?_) (fun b o hc e => ⟨o, k b o hc e⟩) (fun b xs e => ?_) (fun b o u e => ?_) (fun b ps e => ⟨#[], ?_⟩) (fun m hm => ?_) (fun b u e => ?_) I.bare
  · rw [upd_ne (Nat.ne_of_lt (Nat.lt_of_lt_of_le (Heap.lt_size e) hT))]; exact n
  · rw [upd_ne (ne_of_none e hn)]; exact e
  · rw [upd_ne (ne_of_none e hn)]; exact e
  · rw [upd_ne (ne_of_none e hn), e]; simp
  · obtain ⟨o, es, ep, ho, r⟩ := hm
    exact ⟨o, es, ep, k _ o (fun z => (hf _ z).2.1 rfl) ho, r⟩
  · by_cases hb : b = T
    · subst hb
      rw [upd_same] at e
      cases e
      exact new
    · rw [upd_ne hb] at e
      refine (I.hok b u e).stay (fun c v hc q => k c v ?_ q) (fun c q => by rw [upd_ne (ne_of_none q hn)]; exact q) fun c xs q => by rw [upd_ne (ne_of_none q hn)]; exact q
      rcases hc with z | z
      · rw [z]; exact nit b u e
      · exact nit c _ z

/-! ### locking a thing while a statement runs -/
theorem Inv.lock {d : Addr} {u : HO} (I : Inv X pins σ H s) (h : H d = some u) (mu : Mut (some u)) : ∃ od, Inv X pins σ (upd H d (.frz od u)) s := by
  have x := I.hok d u h
  have ex : ∃ od, s.heap.get? d = some od := by
    cases u with
    | lst xs => obtain ⟨_, _, _, _, e⟩ := x; exact ⟨_, e⟩
    | dK kvs => obtain ⟨_, _, _, _, o, _, _, e, _⟩ := x; exact ⟨o, e⟩
    | dT kvs => obtain ⟨_, _, _, _, o, _, _, e, _⟩ := x; exact ⟨o, e⟩
    | set S n => obtain ⟨o, _, _, _, e, _⟩ := x; exact ⟨o, e⟩
    | ins C dx fs => obtain ⟨_, _, _, e, _⟩ := x; exact ⟨_, e⟩
    | ext φ => obtain ⟨_, ⟨_, e⟩, _⟩ := x; exact ⟨_, e⟩
    | _ => exact False.elim mu
  obtain ⟨od, e⟩ := ex
  have new : ObjOk X.prog X.w (upd H d (.frz od u)) s.heap d (.frz od u) := by
    refine ⟨e, x.stay (fun b v _ q => q) (fun b q => ?_) fun b xs q => ?_⟩
    · rw [upd_ne (fun z => by rw [z, h] at q; cases q; exact mu)]; exact q
    · rw [upd_ne (fun z => by rw [z, h] at q; cases q; exact mu)]; exact q
  exact ⟨od, I.write (x := d) (e := d) (t' := s.toks) (h' := s.heap) (by rw [h]; exact mu) (.inl rfl) (fun b v _ q => q) ⟨od, e⟩ new⟩
end
/-- the statement runs while the thing at d is locked (read, not written); d and what stands there are the reading's choice -/
def tLock (t : TS) : TS := fun D σ H => ∃ d u, H d = some u ∧ Mut (some u) ∧ ∀ od, t ⟨fun σ' H' => H' d = some (.frz od u) ∧ D.nx σ' (upd H' d u), fun v H' => H' d = some (.frz od u) ∧ D.rt v (upd H' d u), fun σ' H' => H' d = some (.frz od u) ∧ D.bk σ' (upd H' d u), fun σ' H' => H' d = some (.frz od u) ∧ D.ct σ' (upd H' d u)⟩ σ (upd H d (.frz od u))
def tLockE (t : TE) : TE := fun σ H Q => ∃ d u, H d = some u ∧ Mut (some u) ∧ ∀ od, t σ (upd H d (.frz od u)) fun v H' => H' d = some (.frz od u) ∧ Q v (upd H' d u)
section
variable {X : Cx}
/-! ### one iterator just laid -/
theorem pi_one {tg : Expr} {pins : List (Addr × Obj)} {σ : St} {H : Hp} {s : Shared} {R : It → Hp → Prop} {J : It} {tn : Nat → Heap → Prop} {tk : Nat} (I : Inv X pins σ H s) (o : Obj)
    (T : Turn X.prog X.w X.K tg J [s.heap.objs.size] s.heap.objs.size tn) (st : tn 0 (s.heap.push o)) (q : R J H) : PIE X pins σ tg R (.ref s.heap.objs.size) { s with heap := s.heap.push o, toks := tk } := by
  refine ⟨s.heap.objs.size, [s.heap.objs.size], tn, J, H, rfl, I.kept fun b ob e => Heap.get?_push_of_some _ e, T, st, fun b hb => ?_, q⟩
  have e : b = s.heap.objs.size := by simpa using hb
  subst e
  exact I.fpOk (Nat.le_refl _) (I.hok.fresh (Nat.le_refl _))
end

/-! ### range with a step -/
/-- lo, lo + c, .. (n of them) -/
def Itc (lo c : Int) (n : Nat) : It := ⟨fun i _ => i < n, fun i H x H' => H' = H ∧ x = .int (lo + (i : Nat) * c), fun i _ => n ≤ i⟩
/-- range(i, j, c): small bounds, n items -/
def RgC (i j c : Int) (n : Nat) : Prop := c ≠ 0 ∧ c.natAbs < 1073741824 ∧ Builtin.Range.small i j c = true ∧ Builtin.Range.rangeSize i j c = n
theorem RgC.neg {i j : Int} (ha : -(2 ^ 62) ≤ i) (ha' : i < 2 ^ 62) (hb : -(2 ^ 62) ≤ j) (hb' : j < 2 ^ 62) : RgC i j (-1) (i - j).toNat :=
  ⟨by decide, by decide, PySem.W.small_down ha ha' hb hb', PySem.W.rangeSize_downNat i j⟩
def iRng3 (ta : TA) : TI := fun σ H R => ta σ H fun vs H1 => ∃ (i j c : Int) (n : Nat), vs = [.int i, .int j, .int c] ∧ RgC i j c n ∧ R (Itc i c n) H1
section
variable {X : Cx} {tg : Expr}
end
/-! ### reversed(list) -/
/-- the list at a (n items at the start, which the loop leaves there), from its end -/
def Itv (K : PySem.W.Frag) (a : Addr) (n : Nat) : It :=
  ⟨fun i H => i < n ∧ ∃ (xs : List V) (x : V), SqL K H a xs ∧ xs[n - 1 - i]? = some x, fun i H x H' => H' = H ∧ ∀ xs, SqL K H a xs → xs[n - 1 - i]? = some x, fun i _ => n ≤ i⟩
def iRev (K : PySem.W.Frag) (ta : TA) : TI := fun σ H R => ta σ H fun vs H1 => ∃ (a : Addr) (xs : List V), vs = [.ref a] ∧ SqL K H1 a xs ∧ R (Itv K a xs.length) H1
section
variable {X : Cx} {tg : Expr}
end

/-! ### a str -/
def Its (x : Str) : It := ⟨fun i _ => i < x.cps.size, fun i H v H' => H' = H ∧ ∃ c, x.cps[i]? = some c ∧ v = .str ⟨#[c]⟩, fun i _ => x.cps.size ≤ i⟩
theorem turn_str {P : Program} {w : World} {K : PySem.W.Frag} {tg : Expr} (it : Addr) (x : Str) (t : Tok) (ty : String) (hty : ty = "str_ascii_iterator" ∨ ty = "str_iterator") :
    Turn P w K tg (Its x) [it] it (fun i h => h.IsStrIter it ty x t i) where
  mem := by simp
  obj := fun i h st b hb => by
    have e : b = it := by simpa using hb
    subst e
    obtain ⟨o, e, c, d⟩ := st
    exact ⟨o, e, fun v z => by rw [d] at z; cases z⟩
  keep := fun i h h' st k => let ⟨o, ho, r⟩ := st; ⟨o, k it (by simp) o ho, r⟩
  item := by
    intro X hP hw hK hc i pins s σ H E I hf st hg
    subst hP hw hK
    obtain ⟨f0, f1, f2, f3, f4, f5⟩ := hf it (by simp)
    have W : Walks X.prog X.w X.A it [it] [it] x.cps.size (SignAt x) (fun i h => h.IsStrIter it ty x t i) := by
      rcases hty with e | e
      · rw [e]; exact Walks.strAscii (I.ok.hd hc) it x t
      · rw [e]; exact Walks.strWide (I.ok.hd hc) it x t
    have hno : ["enumerate", "zip", "dict_itemiterator", "dict_reverseitemiterator", "odict_iterator", "itertools.zip_longest", "itertools.pairwise"].contains ty = false := by
      rcases hty with e | e
      · rw [e]; decide
      · rw [e]; decide
    refine W.item i s _ _ hg st fun v h' tk hv st' kk => ?_
    obtain ⟨c, u, hcx, rfl⟩ := hv
    have I1 : Inv X pins σ H { s with heap := h', toks := tk } := I.turned (fun b o hb e => kk b o (by simpa using hb) e) f0 f1 f3 f4 f5
    obtain ⟨oi, e, cc, dd⟩ := id st'
    exact ⟨_, rfl, go_of (s := { s with heap := h', toks := tk }) e cc dd hno ⟨.str ⟨#[c]⟩, H, I1, ⟨u, rfl⟩, ⟨rfl, c, hcx, rfl⟩, st', fun b hb => (hf b hb).1⟩⟩
  done := by
    intro X hP hw hK hc i pins s σ H E I hf st hg
    subst hP hw hK
    obtain ⟨f0, f1, f2, f3, f4, f5⟩ := hf it (by simp)
    have hx : x.cps[i]? = none := Array.getElem?_eq_none hg
    rcases hty with e | e
    · rw [e] at st
      exact wpAny_pyNext_ascii_end (I.ok.hd hc) st hx fun h' eb => ⟨rfl, I.turned (t' := s.toks) (fun b o hb e => eb b o hb e) f0 f1 f3 f4 f5⟩
    · rw [e] at st
      exact wpAny_pyNext_wide_end (I.ok.hd hc) st hx fun h' eb => ⟨rfl, I.turned (t' := s.toks) (fun b o hb e => eb b o hb e) f0 f1 f3 f4 f5⟩
  self := fun A i s Q E st h => by
    rcases hty with e | e
    · rw [e] at st; exact wpAny_pyIter_striter_ascii st h
    · rw [e] at st; exact wpAny_pyIter_striter_wide st h
def iStr (te : TE) : TI := fun σ H R => te σ H fun v H1 => ∃ x, v = .str x ∧ R (Its x) H1
/-! ### a dict's keys: any dict's entries -/
section
variable {prog : Program} {w : World} {A : Around} {E : Value → Shared → Prop} {s : Shared}
theorem iter_keys {d : Addr} {o : Obj} {es : Array DictEntry} {ep : Nat} {Q : Value → Shared → Prop} (hd : (d == sysModules) = false) (ho : s.heap.get? d = some o) (hc : o.ExactDict) (hdat : o.data = .dict es ep)
    (hQ : Q (.ref s.heap.objs.size) { s with heap := s.heap.push { cls := .type "dict_keyiterator", data := .fields #[.ref d, .int 0 0, .int es.size 0, .int ep 0] } }) :
    wpAny (model prog w) A (pyIter (.ref d)) Q E s := by
  have hT : s.TypeIs (.ref d) "dict" := ⟨o, ho, hc.1⟩
  refine wpAny_pyIter_slot hT F.slot_dict_iter (wpAny_call_entry F.slot_dict_iter hT F.entry_dict_iter ?_ (F.args_dict_iter_1 _))
  unfold Builtin.«dict.__iter__»
  refine wpAny_bind ?_
  unfold Builtin.Dict.dictSlotNone
  refine wpAny_bind (wpAny_notOrdered_dict hT ?_)
  show wpAny _ _ (pure (Value.ref d)) _ _ s
  refine wpAny_pure ?_
  show wpAny _ _ (Builtin.Dict.showsAll d >>= _) _ _ s
  unfold Builtin.Dict.showsAll
  rw [if_neg (by rw [hd]; exact Bool.false_ne_true)]
  refine wpAny_bind (wpAny_pure ?_)
  refine wpAny_bind (wpAny_dictEntries ho hdat ?_)
  refine wpAny_bind (wpAny_dictEpoch ho hdat ?_)
  refine wpAny_bind (wpAny_newObj_type (wpAny_pure ⟨_, rfl, "dict_keyiterator", _, ⟨_, Heap.get?_push_size _ rfl, rfl⟩, F.slot_dict_keyiterator_next.lookup, ?_⟩))
  simpa [rawInt] using hQ
theorem next_key_item {it d : Addr} {i n ep : Nat} {od : Obj} {es : Array DictEntry} {en : DictEntry} {Q : Option Value → Shared → Prop} (hit : s.heap.IsKeyIter it d i n ep) (hod : s.heap.get? d = some od) (hdd : od.data = .dict es ep)
    (hsz : es.size = n) (hx : es[i]? = some en) (hQ : ∀ h', h'.IsKeyIter it d (i + 1) n ep → Heap.SameBut it s.heap h' → Q (some en.key) { s with heap := h' }) : wpAny (model prog w) A (pyNext (.ref it)) Q E s := by
  obtain ⟨o, ho, hc, hd⟩ := id hit
  unfold pyNext
  refine wpAny_bind (wpAny_attempt (wpAny_callSpecial?_slot (name := Str.ofString "__next__") hit.typeIs F.slot_dict_keyiterator_next
    (wpAny_call_entry F.slot_dict_keyiterator_next hit.typeIs F.entry_dict_keyiterator_next ?_ (F.args_dict_keyiterator_next_1 _))))
  refine wpAny_bind (wpAny_pure ?_)
  refine wpAny_bind ?_
  refine wpAny_bind ?_
  first | refine wpAny_bind (wpAny_typeNameOfWhole_keyiter hit.typeIs (wpAny_pure ?_)) | refine wpAny_bind (wpAny_typeNameOf_keyiter hit.typeIs (wpAny_pure ?_))
  refine wpAny_bind (wpAny_fieldsOf ho hd ?_)
  have hown : Builtin.Dict_items.ownsTuple "dict_keyiterator" = false := by decide
  simp only [hown, Bool.false_eq_true, if_false]
  show wpAny _ _ (if (Value.ref d == Value.none) = true then _ else _) _ _ s
  rw [if_neg (show ¬ ((Value.ref d == Value.none) = true) from Bool.false_ne_true)]
  refine wpAny_bind (wpAny_pure ?_)
  refine wpAny_bind (wpAny_dictEntries hod hdd ?_)
  rw [if_neg (by rw [hsz]; simp)]
  refine wpAny_bind (wpAny_pure ?_)
  refine wpAny_bind (wpAny_dictEpoch hod hdd ?_)
  rw [if_neg (by simp)]
  refine wpAny_pure ?_
  obtain ⟨hlt', hen⟩ := Array.getElem?_eq_some_iff.mp hx
  simp only [show ¬ ((i : Int) < 0) from by omega, if_false, Int.toNat_natCast, Array.getElem?_eq_getElem hlt']
  refine wpAny_bind ?_
  first | refine wpAny_bind (wpAny_typeNameOfWhole_keyiter hit.typeIs (wpAny_pure ?_)) | refine wpAny_bind (wpAny_typeNameOf_keyiter hit.typeIs (wpAny_pure ?_))
  refine wpAny_bind (wpAny_isOneOf_keyiter hit.typeIs ?_)
  show wpAny _ _ (setField (.ref it) 1 (rawInt ((i : Int) + 1)) >>= _) _ _ s
  refine wpAny_bind (wpAny_setField ho hd (by simp) ?_)
  have hit' : (s.heap.update it (Obj.mapFields (·.setIfInBounds 1 (rawInt ((i : Int) + 1))))).IsKeyIter it d (i + 1) n ep :=
    ⟨_, Heap.get?_update_self _ ho (Obj.isFreed_of_fields (Obj.data_mapFields hd _)), (Obj.cls_mapFields ..).trans hc, by rw [Obj.data_mapFields hd]; simp [rawInt]⟩
  refine wpAny_bind (wpAny_holding ?_)
  refine wpAny_bind (wpAny_isOneOf_keyiter (s := { s with heap := s.heap.update it (Obj.mapFields (·.setIfInBounds 1 (rawInt ((i : Int) + 1)))) }) hit'.typeIs ?_)
  show wpAny _ _ (pure es[i].key) _ _ _
  rw [hen]
  exact wpAny_pure (wpAny_pure ⟨_, rfl, wpAny_pure (hQ _ hit' (Heap.SameBut.update ..))⟩)
theorem next_key_end {it d : Addr} {i n ep : Nat} {od : Obj} {es : Array DictEntry} {Q : Option Value → Shared → Prop} (hh : A.handled = none) (hit : s.heap.IsKeyIter it d i n ep) (hod : s.heap.get? d = some od) (hdd : od.data = .dict es ep)
    (hsz : es.size = n) (hge : n ≤ i) (hQ : ∀ h', Heap.ExtBut it s.heap h' → Q none { s with heap := h' }) : wpAny (model prog w) A (pyNext (.ref it)) Q E s := by
  obtain ⟨o, ho, hc, hd⟩ := id hit
  unfold pyNext
  refine wpAny_bind (wpAny_attempt (wpAny_callSpecial?_slot (name := Str.ofString "__next__") hit.typeIs F.slot_dict_keyiterator_next
    (wpAny_call_entry F.slot_dict_keyiterator_next hit.typeIs F.entry_dict_keyiterator_next ?_ (F.args_dict_keyiterator_next_1 _))))
  refine wpAny_bind (wpAny_pure ?_)
  refine wpAny_bind ?_
  refine wpAny_bind ?_
  first | refine wpAny_bind (wpAny_typeNameOfWhole_keyiter hit.typeIs (wpAny_pure ?_)) | refine wpAny_bind (wpAny_typeNameOf_keyiter hit.typeIs (wpAny_pure ?_))
  refine wpAny_bind (wpAny_fieldsOf ho hd ?_)
  have hown : Builtin.Dict_items.ownsTuple "dict_keyiterator" = false := by decide
  simp only [hown, Bool.false_eq_true, if_false]
  show wpAny _ _ (if (Value.ref d == Value.none) = true then _ else _) _ _ s
  rw [if_neg (show ¬ ((Value.ref d == Value.none) = true) from Bool.false_ne_true)]
  refine wpAny_bind (wpAny_pure ?_)
  refine wpAny_bind (wpAny_dictEntries hod hdd ?_)
  rw [if_neg (by rw [hsz]; simp)]
  refine wpAny_bind (wpAny_pure ?_)
  refine wpAny_bind (wpAny_dictEpoch hod hdd ?_)
  rw [if_neg (by simp)]
  refine wpAny_pure ?_
  have hge' : es.size ≤ i := by rw [hsz]; exact hge
  simp only [show ¬ ((i : Int) < 0) from by omega, if_false, Int.toNat_natCast, Array.getElem?_eq_none hge']
  refine wpAny_bind ?_
  first | refine wpAny_bind (wpAny_typeNameOfWhole_keyiter hit.typeIs (wpAny_pure ?_)) | refine wpAny_bind (wpAny_typeNameOf_keyiter hit.typeIs (wpAny_pure ?_))
  show wpAny _ _ (setField (.ref it) 0 .none >>= _) _ _ s
  refine wpAny_bind (wpAny_setField ho hd (by simp) ?_)
  show wpAny _ _ (newExc (.type "StopIteration") [] >>= _) _ _ _
  refine wpAny_bind ?_
  simp only [newExc, newTuple]
  refine wpAny_bind (wpAny_newObj_type ?_ (by size_fits))
  refine wpAny_bind (m := firstArgMember _ _) (wpAny_of_eq (a := Value.none) (by first | rfl | (simp only [firstArgMember]; rfl)) ?_)
  refine wpAny_newObj_type ?_ (by size_fits)
  simp only [raiseNew]
  refine wpAny_bind (wpAny_handled ?_)
  rw [show A.in1.handled = none from hh]
  refine wpAny_bind (wpAny_pure (wpAny_throw ?_))
  refine wpAny_bind (wpAny_isInstance (T := "StopIteration") (b := true) ⟨_, Heap.get?_push_size _ rfl, rfl⟩ isSubtype_stop ?_)
  exact wpAny_pure (hQ _ (((Heap.SameBut.update ..).extBut.push _).push _))
end

/-! ### a locked dict -/
theorem kv_get {κ : Type} {kvs : List (κ × V)} {vs : List (κ × Value)} (h : KV kvs vs) : ∀ {i : Nat} {k : κ} {v : V}, kvs[i]? = some (k, v) → ∃ u, vs[i]? = some (k, u) ∧ RelV v u := by
  unfold KV at h
  induction h with
  | nil => intro i k v e; simp at e
  | @cons a b l₁ l₂ r t ih =>
    intro i k v e
    cases i with
    | zero =>
      simp only [List.getElem?_cons_zero, Option.some.injEq] at e
      subst e
      refine ⟨b.2, ?_, r.2⟩
      simp only [List.getElem?_cons_zero]
      exact congrArg some (Prod.ext r.1.symm rfl)
    | succ j =>
      simp only [List.getElem?_cons_succ] at e ⊢
      exact ih e
theorem paired_get {α β : Type} {G : α → β → Prop} {l₁ : List α} {l₂ : List β} (h : Paired G l₁ l₂) : ∀ {i : Nat} {a : α}, l₁[i]? = some a → ∃ b, l₂[i]? = some b ∧ G a b := by
  induction h with
  | nil => intro i a e; simp at e
  | @cons a b l₁ l₂ r t ih =>
    intro i a' e
    cases i with
    | zero =>
      simp only [List.getElem?_cons_zero, Option.some.injEq] at e
      subst e
      exact ⟨b, rfl, r⟩
    | succ j =>
      simp only [List.getElem?_cons_succ] at e ⊢
      exact ih e
theorem relV_key {k : Key} {u : Value} (h : keyIs k u = true) : RelV (kV k) u := by
  rcases keyIs_shape h with ⟨i, t, rfl, rfl⟩ | ⟨x, t, rfl, rfl⟩
  · exact ⟨t, rfl⟩
  · exact ⟨t, rfl⟩
section
variable {X : Cx} {pins : List (Addr × Obj)} {σ : St} {H : Hp} {s : Shared} {d : Addr} {o : Obj}
theorem Inv.frzK {kvs : List (Key × V)} (I : Inv X pins σ H s) (h : H d = some (.frz o (.dK kvs))) :
    (d == sysModules) = false ∧ s.heap.get? d = some o ∧ o.ExactDict ∧ ∃ (es : Array DictEntry) (ep : Nat) (vs : List (Key × Value)), o.data = .dict es ep ∧ es.size = kvs.length ∧ KV kvs vs ∧ s.heap.DictAt (mixKind X.prog X.w) d vs ep := by
  obtain ⟨hd, z, hs, vs, kv, o', es, ep, ho, hx, hdt, r⟩ := I.hok d _ h
  rw [hd] at ho
  cases ho
  refine ⟨hs, hd, hx, es, ep, vs, hdt, ?_, kv, o, es, hd, hx, hdt, r⟩
  have l1 := r.2.1.length
  have l2 : kvs.length = vs.length := Paired.length kv
  rw [Array.length_toList] at l1
  omega
/-- the same for tuple keys -/
theorem Inv.frzT {kvs : List (List Key × V)} (I : Inv X pins σ H s) (h : H d = some (.frz o (.dT kvs))) :
    (d == sysModules) = false ∧ s.heap.get? d = some o ∧ o.ExactDict ∧ ∃ (es : Array DictEntry) (ep : Nat), o.data = .dict es ep ∧ es.size = kvs.length ∧
      ∀ (i : Nat) (k : List Key) (v : V), kvs[i]? = some (k, v) → ∃ (en : DictEntry) (q : Addr), es[i]? = some en ∧ en.key = .ref q ∧ H q = some (.tup (k.map kV)) := by
  obtain ⟨hd, z, hs, xs, pr, o', es, ep, ho, hx, hdt, he, _⟩ := I.hok d _ h
  rw [hd] at ho
  cases ho
  refine ⟨hs, hd, hx, es, ep, hdt, ?_, fun i k v e => ?_⟩
  · have l1 : es.size = xs.length := size_of_entries he
    have l2 : kvs.length = xs.length := Paired.length pr
    omega
  · obtain ⟨b, hb, e1, e2, _⟩ := paired_get pr e
    have q := entry_at he i
    rw [hb] at q
    exact ⟨_, b.2.1, q, rfl, e2⟩
end

/-- the keys of the locked dict at d, in their order -/
def Itk (d : Addr) (o : Obj) (kvs : List (Key × V)) : It :=
  ⟨fun i H => H d = some (.frz o (.dK kvs)) ∧ i < kvs.length, fun i H x H' => H' = H ∧ ∃ k v, kvs[i]? = some (k, v) ∧ x = kV k, fun i H => H d = some (.frz o (.dK kvs)) ∧ kvs.length ≤ i⟩
/-- .. of tuple keys: the key's own tuple -/
def Itkt (d : Addr) (o : Obj) (kvs : List (List Key × V)) : It :=
  ⟨fun i H => H d = some (.frz o (.dT kvs)) ∧ i < kvs.length, fun i H x H' => H' = H ∧ ∃ (k : List Key) (v : V) (q : Addr), kvs[i]? = some (k, v) ∧ x = .ref q ∧ H q = some (.tup (k.map kV)), fun i H => H d = some (.frz o (.dT kvs)) ∧ kvs.length ≤ i⟩
/-- the values -/
def Itd (d : Addr) (o : Obj) (kvs : List (Key × V)) : It :=
  ⟨fun i H => H d = some (.frz o (.dK kvs)) ∧ i < kvs.length, fun i H x H' => H' = H ∧ ∃ k, kvs[i]? = some (k, x), fun i H => H d = some (.frz o (.dK kvs)) ∧ kvs.length ≤ i⟩
/-- the pairs, each a new tuple -/
def Iti (d : Addr) (o : Obj) (kvs : List (Key × V)) : It :=
  ⟨fun i H => H d = some (.frz o (.dK kvs)) ∧ i < kvs.length, fun i H x H' => ∃ T k v, kvs[i]? = some (k, v) ∧ x = .ref T ∧ H T = none ∧ H' = upd H T (.tup [kV k, v]), fun i H => H d = some (.frz o (.dK kvs)) ∧ kvs.length ≤ i⟩
theorem dict_ep {o : Obj} {es es' : Array DictEntry} {ep ep' : Nat} (h : o.data = .dict es ep) (h' : o.data = .dict es' ep') : es' = es ∧ ep' = ep := by
  rw [h] at h'
  cases h'
  exact ⟨rfl, rfl⟩
section
variable {P : Program} {w : World} {K : PySem.W.Frag} {tg : Expr} {d : Addr} {o : Obj} {es : Array DictEntry} {ep : Nat}
theorem turn_keys {kvs : List (Key × V)} (it : Addr) (hod : o.data = .dict es ep) : Turn P w K tg (Itk d o kvs) [it] it (fun i h => h.IsKeyIter it d i kvs.length ep) where
  mem := by simp
  obj := fun i h st b hb => by
    have e : b = it := by simpa using hb
    subst e
    obtain ⟨oi, e, c, dd⟩ := st
    exact ⟨oi, e, fun v z => by rw [dd] at z; cases z⟩
  keep := fun i h h' st k => st.at fun oi e => k it (by simp) oi e
  item := by
    intro X hP hw hK hc i pins s σ H E I hf st hg
    subst hP hw hK
    obtain ⟨hd, hi⟩ := hg
    obtain ⟨f0, f1, f2, f3, f4, f5⟩ := hf it (by simp)
    obtain ⟨hs, hgd, hx, es', ep', vs, hdt, hsz, kv, hm⟩ := I.frzK hd
    obtain ⟨rfl, rfl⟩ := dict_ep hod hdt
    obtain ⟨⟨k, v⟩, hkv⟩ : ∃ p, kvs[i]? = some p := ⟨kvs[i], List.getElem?_eq_getElem hi⟩
    obtain ⟨u, hu, ru⟩ := kv_get kv hkv
    have hl : kvs.length = vs.length := Paired.length kv
    rw [hl] at st
    refine wpAny_pyNext_dict_item st hm hu fun key h' hkey st' sb => ?_
    have I1 : Inv X pins σ H { s with heap := h' } := I.turned (t' := s.toks) (fun b ob hb e => (sb.2 b hb).trans e) f0 f1 f3 f4 f5
    obtain ⟨oi, e, c, dd⟩ := id st'
    refine ⟨key, rfl, go_of (s := { s with heap := h' }) e c dd (by decide) ⟨kV k, H, I1, relV_key (show keyIs k key = true from hkey), ⟨rfl, k, v, hkv, rfl⟩, ?_, fun b hb => (hf b hb).1⟩⟩
    show h'.IsKeyIter it d (i + 1) kvs.length _
    rw [hl]
    exact st'
  done := by
    intro X hP hw hK hc i pins s σ H E I hf st hg
    subst hP hw hK
    obtain ⟨hd, hi⟩ := hg
    obtain ⟨f0, f1, f2, f3, f4, f5⟩ := hf it (by simp)
    obtain ⟨hs, hgd, hx, es', ep', vs, hdt, hsz, kv, hm⟩ := I.frzK hd
    obtain ⟨rfl, rfl⟩ := dict_ep hod hdt
    exact next_key_end (I.ok.hd hc) st hgd hdt hsz hi fun h' eb => ⟨rfl, I.turned (t' := s.toks) (fun b ob hb e => eb b ob hb e) f0 f1 f3 f4 f5⟩
  self := fun A i s Q E st h => wpAny_pyIter_keyiter st h
theorem turn_keysT {kvs : List (List Key × V)} (it : Addr) (hod : o.data = .dict es ep) : Turn P w K tg (Itkt d o kvs) [it] it (fun i h => h.IsKeyIter it d i kvs.length ep) where
  mem := by simp
  obj := fun i h st b hb => by
    have e : b = it := by simpa using hb
    subst e
    obtain ⟨oi, e, c, dd⟩ := st
    exact ⟨oi, e, fun v z => by rw [dd] at z; cases z⟩
  keep := fun i h h' st k => st.at fun oi e => k it (by simp) oi e
  item := by
    intro X hP hw hK hc i pins s σ H E I hf st hg
    subst hP hw hK
    obtain ⟨hd, hi⟩ := hg
    obtain ⟨f0, f1, f2, f3, f4, f5⟩ := hf it (by simp)
    obtain ⟨hs, hgd, hx, es', ep', hdt, hsz, ent⟩ := I.frzT hd
    obtain ⟨rfl, rfl⟩ := dict_ep hod hdt
    obtain ⟨⟨k, v⟩, hkv⟩ : ∃ p, kvs[i]? = some p := ⟨kvs[i], List.getElem?_eq_getElem hi⟩
    obtain ⟨en, q, hen, hkey, hq⟩ := ent i k v hkv
    refine next_key_item st hgd hdt hsz hen fun h' st' sb => ?_
    have I1 : Inv X pins σ H { s with heap := h' } := I.turned (t' := s.toks) (fun b ob hb e => (sb.2 b hb).trans e) f0 f1 f3 f4 f5
    obtain ⟨oi, e, c, dd⟩ := id st'
    exact ⟨en.key, rfl, go_of (s := { s with heap := h' }) e c dd (by decide) ⟨.ref q, H, I1, hkey, ⟨rfl, k, v, q, hkv, rfl, hq⟩, st', fun b hb => (hf b hb).1⟩⟩
  done := by
    intro X hP hw hK hc i pins s σ H E I hf st hg
    subst hP hw hK
    obtain ⟨hd, hi⟩ := hg
    obtain ⟨f0, f1, f2, f3, f4, f5⟩ := hf it (by simp)
    obtain ⟨hs, hgd, hx, es', ep', hdt, hsz, ent⟩ := I.frzT hd
    obtain ⟨rfl, rfl⟩ := dict_ep hod hdt
    exact next_key_end (I.ok.hd hc) st hgd hdt hsz hi fun h' eb => ⟨rfl, I.turned (t' := s.toks) (fun b ob hb e => eb b ob hb e) f0 f1 f3 f4 f5⟩
  self := fun A i s Q E st h => by
    refine wpAny_pyIter_slot st.typeIs F.slot_dict_keyiterator_iter (wpAny_call_entry F.slot_dict_keyiterator_iter st.typeIs F.entry_dict_keyiterator_iter ?_ (F.args_dict_keyiterator_iter_1 _))
    show wpAny _ _ (ret (.ref it)) _ _ s
    exact wpAny_pure ⟨_, rfl, "dict_keyiterator", _, st.typeIs, F.slot_dict_keyiterator_next.lookup, h⟩
end

/-! ### for k in d, d.keys(), d.values(), d.items() -/
/-- the dict is locked (tLock, or by the caller) -/
def iKeys (td : TE) : TI := fun σ H R => td σ H fun x H1 => ∃ d o, x = .ref d ∧ ((∃ kvs, H1 d = some (.frz o (.dK kvs)) ∧ R (Itk d o kvs) H1) ∨ ∃ kvs, H1 d = some (.frz o (.dT kvs)) ∧ R (Itkt d o kvs) H1)
def iVals (td : TE) : TI := fun σ H R => td σ H fun x H1 => ∃ d o kvs, x = .ref d ∧ H1 d = some (.frz o (.dK kvs)) ∧ R (Itd d o kvs) H1
def iItems (td : TE) : TI := fun σ H R => td σ H fun x H1 => ∃ d o kvs, x = .ref d ∧ H1 d = some (.frz o (.dK kvs)) ∧ R (Iti d o kvs) H1
def iKeysM (td : TE) : TI := fun σ H R => td σ H fun x H1 => ∃ d o kvs, x = .ref d ∧ H1 d = some (.frz o (.dK kvs)) ∧ R (Itk d o kvs) H1
section
variable {X : Cx} {tg e : Expr} {td : TE} {apos cpos : Pos}
theorem pi_keys (he : PE X e td) : PI X tg e (iKeys td) := by
  intro pins s σ H R I h
  refine thn (he pins s σ H _ I h) fun u s1 ⟨x, H1, I1, rx, d, o, ex, q⟩ => ?_
  subst ex
  obtain rfl : u = Value.ref d := rx
  rcases q with ⟨kvs, hd, q⟩ | ⟨kvs, hd, q⟩
  · obtain ⟨hs, hgd, hx, es, ep, vs, hdt, hsz, kv, hm⟩ := I1.frzK hd
    refine iter_keys hs hgd hx hdt (pi_one (tk := s1.toks) I1 _ (turn_keys _ hdt) ⟨_, Heap.get?_push_size _ rfl, rfl, ?_⟩ q)
    rw [hsz] <;> rfl
  · obtain ⟨hs, hgd, hx, es, ep, hdt, hsz, ent⟩ := I1.frzT hd
    refine iter_keys hs hgd hx hdt (pi_one (tk := s1.toks) I1 _ (turn_keysT _ hdt) ⟨_, Heap.get?_push_size _ rfl, rfl, ?_⟩ q)
    rw [hsz] <;> rfl
end

/-! ### enumerate(list) -/
/-- the list at a as it stands at each turn, each item in a new pair -/
def Ite (K : PySem.W.Frag) (a : Addr) : It :=
  ⟨fun i H => ∃ (xs : List V) (x : V), SqL K H a xs ∧ xs[i]? = some x, fun i H v H' => ∃ T x, v = .ref T ∧ H T = none ∧ H' = upd H T (.tup [.int (i : Nat), x]) ∧ ∀ xs, SqL K H a xs → xs[i]? = some x, fun i H => ∃ xs : List V, SqL K H a xs ∧ xs.length ≤ i⟩
def iEnum (K : PySem.W.Frag) (ta : TA) : TI := fun σ H R => ta σ H fun vs H1 => ∃ a xs, vs = [.ref a] ∧ SqL K H1 a xs ∧ R (Ite K a) H1
/-! ### zip(list, list) -/
theorem boot_zip5 : bootBuiltins "zip" = some (.type "zip") := by decide +kernel
/-- the lists at a and b as they stand at each turn, the items in new pairs -/
def Itz (K : PySem.W.Frag) (a b : Addr) : It :=
  ⟨fun i H => ∃ (xs ys : List V) (x y : V), SqL K H a xs ∧ SqL K H b ys ∧ xs[i]? = some x ∧ ys[i]? = some y,
    fun i H v H' => ∃ T x y, v = .ref T ∧ H T = none ∧ H' = upd H T (.tup [x, y]) ∧ (∀ xs, SqL K H a xs → xs[i]? = some x) ∧ ∀ ys, SqL K H b ys → ys[i]? = some y,
    fun i H => ∃ xs ys : List V, SqL K H a xs ∧ SqL K H b ys ∧ (xs.length ≤ i ∨ ys.length ≤ i)⟩
theorem turn_zip {P : Program} {w : World} {K : PySem.W.Frag} {elts : List Expr} {kk : Nat} {tpos : Pos} {a b z TI TO i1 i2 : Addr} (D : ZipApart z TI TO i1 i2 a b) :
    Turn P w K (.Tuple elts kk tpos) (Itz K a b) [z, TI, TO, i1, i2] z (fun i h => IsZip h z TI TO .none ∧ IsPair h TI (.ref i1) (.ref i2) ∧ (∃ x y, IsPair h TO x y) ∧ h.IsListIter i1 a i ∧ h.IsListIter i2 b i) where
  mem := by simp
  obj := fun i h st c hc => by
    obtain ⟨hz, hTI, ⟨x, y, hTO⟩, ⟨o1, e1, _, d1⟩, ⟨o2, e2, _, d2⟩⟩ := st
    have e' : c = z ∨ c = TI ∨ c = TO ∨ c = i1 ∨ c = i2 := by simpa using hc
    rcases e' with q | q | q | q | q
    · rw [q]; exact ⟨_, hz, fun v q => nomatch q⟩
    · rw [q]; exact ⟨_, hTI, fun v q => nomatch q⟩
    · rw [q]; exact ⟨_, hTO, fun v q => nomatch q⟩
    · rw [q]; exact ⟨o1, e1, fun v q => by rw [d1] at q; cases q⟩
    · rw [q]; exact ⟨o2, e2, fun v q => by rw [d2] at q; cases q⟩
  keep := fun i h h' st k => by
    obtain ⟨hz, hTI, ⟨x, y, hTO⟩, h1, h2⟩ := st
    exact ⟨k z (by simp) _ hz, k TI (by simp) _ hTI, ⟨x, y, k TO (by simp) _ hTO⟩, h1.at fun o q => k i1 (by simp) o q, h2.at fun o q => k i2 (by simp) o q⟩
  item := by
    intro X hP hw hK hc i pins s σ H E I hf st hg
    subst hP hw hK
    obtain ⟨hz, hTI, ⟨x0, y0, hTO⟩, h1, h2⟩ := st
    obtain ⟨xs, ys, x, y, hqx, hqy, hx, hy⟩ := hg
    obtain ⟨its, rv, p, _⟩ := I.list hqx
    obtain ⟨its2, rv2, p2, _⟩ := I.list hqy
    obtain ⟨u, hu, ru⟩ := rv.get hx
    obtain ⟨u2, hu2, ru2⟩ := rv2.get hy
    have hzl : z < s.heap.objs.size := Heap.lt_size hz
    refine wpAny_pyNext_zip_item D hz hTI hTO h1 h2 p.isList p2.isList (x := u) (y := u2) (by simpa using hu) (by simpa using hu2) fun h' z' TO' h1' h2' hT hsz hk => ?_
    refine ⟨_, rfl, wpAny_letOwnedTupleGo_zip (s := { s with heap := h' }) z' fun h'' z'' sb => ?_⟩
    have hT2 : h''.get? s.heap.objs.size = some { cls := .type "tuple", data := .seq #[u, u2] } := (sb.2 _ (Nat.ne_of_gt hzl)).trans hT
    have new : ObjOk X.prog X.w (upd H s.heap.objs.size (.tup [x, y])) h'' s.heap.objs.size (.tup [x, y]) :=
      ⟨by show 2 ≤ sizeLine; decide, [u, u2], .cons ru (.cons ru2 .nil), ⟨_, hT2, rfl, _, rfl⟩⟩
    have I1 : Inv X pins σ (upd H s.heap.objs.size (.tup [x, y])) { s with heap := h'' } :=
      I.turnedNew (t' := s.toks) (ch := [z, TI, TO, i1, i2]) (fun c o hb q => (sb.2 c (fun q' => hb (by simp [q']))).trans (hk c o (fun q' => hb (by simp [q'])) (fun q' => hb (by simp [q'])) (fun q' => hb (by simp [q'])) (fun q' => hb (by simp [q'])) q)) hf (Nat.le_refl _) new
    refine ⟨.ref s.heap.objs.size, _, I1, rfl, ⟨_, x, y, rfl, I.hok.fresh (Nat.le_refl _), rfl, fun l hl => by rw [I.list_inj hl hqx]; exact hx, fun l hl => by rw [I.list_inj hl hqy]; exact hy⟩, ⟨z'', ?_, ⟨u, u2, ?_⟩, ?_, ?_⟩, fun c hcm => ?_⟩
    · exact (sb.2 _ D.TIz).trans (hk _ _ D.TIz D.TITO D.TIi1 D.TIi2 hTI)
    · exact (sb.2 _ D.TOz).trans TO'
    · exact h1'.at fun o q => (sb.2 _ D.i1z).trans q
    · exact h2'.at fun o q => (sb.2 _ D.i2z).trans q
    · have hlt : c < s.heap.objs.size := by
        have e' : c = z ∨ c = TI ∨ c = TO ∨ c = i1 ∨ c = i2 := by simpa using hcm
        rcases e' with q | q | q | q | q
        · rw [q]; exact hzl
        · rw [q]; exact Heap.lt_size hTI
        · rw [q]; exact Heap.lt_size hTO
        · rw [q]; obtain ⟨_, e1, _⟩ := h1; exact Heap.lt_size e1
        · rw [q]; obtain ⟨_, e2, _⟩ := h2; exact Heap.lt_size e2
      rw [upd_ne (Nat.ne_of_lt hlt)]
      exact (hf c hcm).1
  done := by
    intro X hP hw hK hc i pins s σ H E I hf st hg
    subst hP hw hK
    obtain ⟨hz, hTI, ⟨x0, y0, hTO⟩, h1, h2⟩ := st
    obtain ⟨xs, ys, hqx, hqy, hend⟩ := hg
    obtain ⟨its, rv, p, _⟩ := I.list hqx
    obtain ⟨its2, rv2, p2, _⟩ := I.list hqy
    have l1 := rv.length
    have l2 := rv2.length
    have he : its.toArray[i]? = none ∨ its2.toArray[i]? = none := by
      rcases hend with q | q
      · exact .inl (by simp; omega)
      · exact .inr (by simp; omega)
    exact wpAny_pyNext_zip_end (I.ok.hd hc) D hz hTI hTO h1 h2 p.isList p2.isList he fun h' hk => ⟨rfl, I.turnedL (t' := s.toks) (ch := [z, TI, TO, i1, i2]) (fun c o hb q =>
      hk c o (fun q' => hb (by simp [q'])) (fun q' => hb (by simp [q'])) (fun q' => hb (by simp [q'])) (fun q' => hb (by simp [q'])) q) hf⟩
  self := fun A i s Q E st h => wpAny_pyIter_zip st.1 h
def iZip (K : PySem.W.Frag) (ta : TA) : TI := fun σ H R => ta σ H fun vs H1 => ∃ a b xs ys, vs = [.ref a, .ref b] ∧ SqL K H1 a xs ∧ SqL K H1 b ys ∧ R (Itz K a b) H1
theorem pi_zip {X : Cx} {e e2 : Expr} {ta : TA} {p pos tpos : Pos} {elts : List Expr} {kk : Nat} (hg : Gl X "zip") (hm : X.mg "zip" = none) (ha : PA X [e, e2] ta)
    (hs : starEach [e, e2] X.env = (false, eval e X.env) :: starEach [e2] X.env := by rfl) (hpl : (backTo pos (starEach [e2] X.env)).any (·.1) = false := by rfl) :
    PI X (.Tuple elts kk tpos) (.Call (.Name "zip" p) [e, e2] [] pos) (iZip X.K ta) := by
  intro pins s σ H R I h
  refine Call_ (ld_blt I hg hm boot_zip5 (PyProof.Rows.callWith_type1 (thn (ha pos pins s σ H _ I h) fun us s1 ⟨vs, H1, I1, r1, q1⟩ => ?_) hs hpl))
  obtain ⟨a, b, xs, ys, ex, hqx, hqy, q⟩ := q1
  subst ex
  cases r1 with
  | cons r rr =>
    cases rr with
    | cons r' rr =>
      cases rr
      cases r
      cases r'
      obtain ⟨its, rv, p1, _⟩ := I1.list hqx
      obtain ⟨its2, rv2, p2, _⟩ := I1.list hqy
      have la : a < s1.heap.objs.size := p1.lt
      have lb : b < s1.heap.objs.size := p2.lt
      refine call_zip_2 p1.isList p2.isList fun h' hz hTI hTO h1 h2 hsz hk => wpAny_pyIter_zip hz ?_
      have I2 : Inv X pins σ H1 { s1 with heap := h' } := I1.kept (t' := s1.toks) hk
      refine ⟨s1.heap.objs.size + 4, [s1.heap.objs.size + 4, s1.heap.objs.size + 2, s1.heap.objs.size + 3, s1.heap.objs.size, s1.heap.objs.size + 1], _, _, H1, rfl, I2, turn_zip (PySem.W.ktu_apart s1.heap.objs.size a b la lb), ⟨hz, hTI, ⟨_, _, hTO⟩, h1, h2⟩, fun c hcm => ?_, q⟩
      have e' : c = s1.heap.objs.size + 4 ∨ c = s1.heap.objs.size + 2 ∨ c = s1.heap.objs.size + 3 ∨ c = s1.heap.objs.size ∨ c = s1.heap.objs.size + 1 := by simpa using hcm
      have hle : s1.heap.objs.size ≤ c := by
        rcases e' with z | z | z | z | z
        · rw [z]; exact Nat.le_add_right _ _
        · rw [z]; exact Nat.le_add_right _ _
        · rw [z]; exact Nat.le_add_right _ _
        · rw [z]; exact Nat.le_refl _
        · rw [z]; exact Nat.le_add_right _ _
      exact I1.fpOk hle (I1.hok.fresh hle)
end L2

section 
namespace Bits
open PySem PyProof.Rows

end Bits
end 

section 
namespace TL
open PySem PySem.Builtin PySem.Builtin.Str PySem.StrLaws

abbrev tl (x : Str) : List Nat := x.cps.toList
theorem len_tl (x : Str) : x.length = (tl x).length := by simp [tl, Str.length]
theorem tl_append (x y : Str) : tl (x ++ y) = tl x ++ tl y := by
  show (x ++ y).cps.toList = _
  rw [Str.cps_append, Array.toList_append]
/-! ### the list functions -/
/-- S stands at the head of l -/
def pre (S l : List Nat) : Bool := l.take S.length == S
/-- l cut at each S from the left; k signs are still to be passed over -/
def spl (S : List Nat) : Nat → List Nat → List Nat → List (List Nat)
  | _, acc, [] => [acc]
  | 0, acc, c :: r => if pre S (c :: r) = true then acc :: spl S (S.length - 1) [] r else spl S 0 (acc ++ [c]) r
  | k + 1, acc, _ :: r => spl S k acc r
/-- what stands before the first S, and behind it -/
def par (S : List Nat) : List Nat → List Nat → Option (List Nat × List Nat)
  | _, [] => none
  | acc, c :: r => if pre S (c :: r) = true then some (acc, (c :: r).drop S.length) else par S (acc ++ [c]) r

/-! ### the model's split and partition are these -/
theorem len1 {y : Str} (hy : tl y ≠ []) : 1 ≤ y.length := by
  have e2 : 0 < (tl y).length := List.length_pos_iff.mpr hy
  rw [len_tl y]
  exact e2
/-! ### computing spl and par -/
/-- joined lists -/
def joinL (S : List Nat) : List (List Nat) → List Nat
  | [] => []
  | [p] => p
  | p :: q :: r => p ++ (S ++ joinL S (q :: r))
theorem tl_join (y : Str) : ∀ parts : List Str, tl (Str.join y parts) = joinL (tl y) (parts.map tl)
  | [] => rfl
  | [_] => rfl
  | x :: z :: r => by
    show tl (x ++ y ++ Str.join y (z :: r)) = tl x ++ (tl y ++ joinL (tl y) ((z :: r).map tl))
    rw [tl_append, tl_append, tl_join y (z :: r), List.append_assoc]
theorem join_eq (y : Str) (parts : List Str) : Txt.join y parts = Str.join y parts := glued_eq_join y parts
/-! ### digits -/
/-- the signs of a number -/
def numL (n : Nat) : List Nat := (Nat.toDigits 10 n).map Char.toNat
/-! ### words: x.split() -/
def wstep (st : List (List Nat) × List Nat) (c : Nat) : List (List Nat) × List Nat :=
  if Unicode.isSpace c = true then (if st.2 = [] then st else (st.1 ++ [st.2], [])) else (st.1, st.2 ++ [c])
def wfin (st : List (List Nat) × List Nat) : List (List Nat) := if st.2 = [] then st.1 else st.1 ++ [st.2]
end TL
end 

namespace L2
open PySem PySem.Spec PyProof.Rows

theorem notLong {n : Nat} (h : n ≤ 16777216) : Builtin.Str.tooLong n = false := by
  have e : (2 : Nat) ^ 24 = 16777216 := by decide
  unfold Builtin.Str.tooLong sizeLine
  exact decide_eq_false (by omega)

theorem strs_of_vals : ∀ {ys : List Str} {us : List Value}, Vals (ys.map V.str) us → StrsAre us ys
  | [], _, .nil => .nil
  | y :: ys, _, .cons r t => by
    obtain ⟨k, rfl⟩ := r
    exact .cons y k (strs_of_vals t)

/-- a new list of texts, tracked -/
def rNewStrs (ys : List Str) : Hp → VK → Prop := fun H Q => ∀ p, H p = none → Q (.ref p) (upd H p (.lst (ys.map V.str)))

section
variable {X : Cx} {pins : List (Addr × Obj)} {σ : St} {H : Hp} {s : Shared} {Q : VK}
end

section
variable {X : Cx}

/-- sep.join(a list | a tuple of texts) -/
theorem mt_join : MtR X "str.join" (fun x xs H Q => ∃ a p, ∃ ys : List Str, x = .str a ∧ xs = [.ref p] ∧ (SqL X.K H p (ys.map V.str) ∨ SqT X.K H p (ys.map V.str)) ∧
    (ys.map (·.length)).sum + ys.length * a.length ≤ 16777216 ∧ Q (.str (Txt.join a ys)) H) := by
  intro pins s σ H x xs v us Q I rx rs h
  obtain ⟨a, p, ys, rfl, rfl, hp, hz, h⟩ := h
  obtain ⟨t, rfl⟩ := rx
  cases rs with
  | cons r1 rs =>
    cases rs
    cases r1
    rcases hp with hp | hp
    · obtain ⟨its, r, ⟨o, n, ho, hc, _, hd⟩, _⟩ := I.list hp
      exact PyProof.Rows.join_list (items := its.toArray) ⟨o, ho, hc, n, hd⟩ (by rw [List.toList_toArray]; exact strs_of_vals r) hz fun t' k => ⟨.str _, H, I.tok k, ⟨t', rfl⟩, h⟩
    · obtain ⟨its, r, ht, _⟩ := I.tuple hp
      exact PyProof.Rows.join_tuple (items := its.toArray) ht (by rw [List.toList_toArray]; exact strs_of_vals r) hz fun t' k => ⟨.str _, H, I.tok k, ⟨t', rfl⟩, h⟩

/-! ### of a text alone -/
/-! ### of a text and a text -/
end

section
variable {X : Cx} {o e : Expr} {to te : TE}
def tM0 (r : V → List V → Hp → VK → Prop) (to : TE) : TE := fun σ H Q => to σ H fun x H1 => (∃ a, x = .str a) ∧ r x [] H1 Q
def tM1 (r : V → List V → Hp → VK → Prop) (to te : TE) : TE := fun σ H Q => to σ H fun x H1 => (∃ a, x = .str a) ∧ te σ H1 fun y H2 => r x [y] H2 Q
theorem pe_m1 {id : String} {name : Str} {apos pos : Pos} {r : V → List V → Hp → VK → Prop} (slot : Slot "str" name id) (ty : typeOf (.builtin id) = pure (.type "method_descriptor")) (rule : MtR X id r) (ho : PE X o to) (he : PE X e te)
    (hs : starEach [e] X.env = [(false, eval e X.env)] := by rfl) (hbase : attributeBase o name X.env (eval o X.env) = eval o X.env := by rfl) (hline : (apos.endLine == pos.line) = true := by rfl) :
    PE X (.Call (.Attribute o name apos) [e] [] pos) (tM1 r to te) := by
  intro pins s σ H Q I h
  refine PySem.Call_method1 hbase hs hline (thn (ho pins s σ H _ I h) fun v s1 ⟨x, H1, I1, r1, q1⟩ => ?_)
  obtain ⟨⟨a, rfl⟩, q1⟩ := q1
  obtain ⟨t, rfl⟩ := _root_.id r1
  refine ⟨"str", _, F.plainAttrs_str, slot, ty, typeIs_str _ _ _, (fun _ e => nomatch e), Calls.callWith_builtin rfl (Calls.evalArgs_plain (Calls.spliced_cons ?_))⟩
  exact thn (he pins s1 σ H1 _ I1 q1) fun u s2 ⟨y, H2, I2, r2, q2⟩ => Calls.spliced_nil (rule pins s2 σ H2 _ [y] _ [u] Q I2 r1 (.cons r2 .nil) q2)

theorem pe_join {apos pos : Pos} (ho : PE X o to) (he : PE X e te) (hs : starEach [e] X.env = [(false, eval e X.env)] := by rfl) (hbase : attributeBase o "join" X.env (eval o X.env) = eval o X.env := by rfl) (hline : (apos.endLine == pos.line) = true := by rfl) :
    PE X (.Call (.Attribute o "join" apos) [e] [] pos) (tM1 (fun x xs H Q => ∃ a p, ∃ ys : List Str, x = .str a ∧ xs = [.ref p] ∧ (SqL X.K H p (ys.map V.str) ∨ SqT X.K H p (ys.map V.str)) ∧
      (ys.map (·.length)).sum + ys.length * a.length ≤ 16777216 ∧ Q (.str (Txt.join a ys)) H) to te) :=
  pe_m1 F.slot_str_join F.type_str_join mt_join ho he hs hbase hline
end
end L2

namespace L2
open PySem PySem.Spec PyProof.Rows

section
variable {X : Cx}
theorem op_le_str : OpR X (compareOp .LtE) (fun x y H Q => ∃ i j, x = .str i ∧ y = .str j ∧ Q (.bl (!decide (j.cps.toList < i.cps.toList))) H) := by
  intro pins s σ H x y v u Q I rx ry h
  obtain ⟨i, j, rfl, rfl, q⟩ := h
  obtain ⟨t, rfl⟩ := rx
  obtain ⟨t', rfl⟩ := ry
  exact PySem.P.le_str (fin_bl I q rfl)
theorem op_gt_str : OpR X (compareOp .Gt) (fun x y H Q => ∃ i j, x = .str i ∧ y = .str j ∧ Q (.bl (decide (j.cps.toList < i.cps.toList))) H) := by
  intro pins s σ H x y v u Q I rx ry h
  obtain ⟨i, j, rfl, rfl, q⟩ := h
  obtain ⟨t, rfl⟩ := rx
  obtain ⟨t', rfl⟩ := ry
  exact PySem.P.gt_str (fin_bl I q rfl)
theorem op_ge_str : OpR X (compareOp .GtE) (fun x y H Q => ∃ i j, x = .str i ∧ y = .str j ∧ Q (.bl (!decide (i.cps.toList < j.cps.toList))) H) := by
  intro pins s σ H x y v u Q I rx ry h
  obtain ⟨i, j, rfl, rfl, q⟩ := h
  obtain ⟨t, rfl⟩ := rx
  obtain ⟨t', rfl⟩ := ry
  exact PySem.P.ge_str (fin_bl I q rfl)
end

/-! ### slices of a text -/
theorem IsPart.raw {v : Value} {o : Option Int} (p : IsPart v o) : ∃ l : Option (Int × Tok), v = partValue l ∧ l.map (·.1) = o := by
  cases p with
  | none => exact ⟨none, rfl, rfl⟩
  | int i t => exact ⟨some (i, t), rfl, rfl⟩

/-- a part, clipped, as the text's slice reckons it -/
def clipS (n d : Nat) : Option Int → Int
  | none => (d : Int)
  | some i => max 0 (min (if i < 0 then i + (n : Int) else i) (n : Int))
theorem clipS_eq (n d : Nat) (o : Option Int) : clipS n d o = ((HT.sIx n d o : Nat) : Int) := by
  cases o with
  | none => rfl
  | some v =>
    show max (0 : Int) (min (if v < 0 then v + (n : Int) else v) (n : Int)) = (((if v < 0 then (v + (n : Int)).toNat else min v.toNat n) : Nat) : Int)
    by_cases hv : v < 0
    · simp only [if_pos hv]
      omega
    · simp only [if_neg hv]
      omega
theorem sidx_clip (a b : Option Int) (n : Nat) : Builtin.Str.strSliceIndices a b 1 n = sliceRange (clipS n 0 a) (clipS n n b) 1 := by
  have h1 : ((1 : Int) > 0) = True := by simp
  cases a <;> cases b <;> first
    | rfl
    | (simp only [Builtin.Str.strSliceIndices, clipS, h1, if_true]; rfl)
    | simp [Builtin.Str.strSliceIndices, clipS]
theorem sidx (a b : Option Int) (n : Nat) : Builtin.Str.strSliceIndices a b 1 n = (List.range (HT.sIx n n b - HT.sIx n 0 a)).map (fun k => HT.sIx n 0 a + k) := by
  rw [sidx_clip, clipS_eq, clipS_eq]
  generalize HT.sIx n 0 a = p
  generalize HT.sIx n n b = q
  simp only [sliceRange, show ((1 : Int) > 0) = True from by simp, if_true]
  by_cases hlt : (p : Int) < q
  · have e3 : (((q : Int) - p + 1 - 1) / 1).toNat = q - p := by first | omega | (simp; done) | (simp; omega)
    simp only [hlt, if_true, e3]
    refine List.map_congr_left fun k _ => ?_
    omega
  · have : q - p = 0 := by omega
    simp [hlt, this]

/-- z[lo:hi] -/
def cutS (z : Str) (lo hi : Option Int) : Str :=
  ⟨((z.cps.toList.drop (HT.sIx z.length 0 lo)).take (HT.sIx z.length z.length hi - HT.sIx z.length 0 lo)).toArray⟩
theorem sliceText_cut (z : Str) (lo hi : Option Int) : PySem.StrLaws.sliceText z lo hi = cutS z lo hi := by
  have h1 : HT.sIx z.length 0 lo ≤ z.length := HT.sIx_le _ _ (Nat.zero_le _) _
  have h2 : HT.sIx z.length z.length hi ≤ z.length := HT.sIx_le _ _ (Nat.le_refl _) _
  have hp : HT.sIx z.length 0 lo ≤ max (HT.sIx z.length 0 lo) (HT.sIx z.length z.length hi) := Nat.le_max_left _ _
  have hq : max (HT.sIx z.length 0 lo) (HT.sIx z.length z.length hi) ≤ z.length := Nat.max_le.mpr ⟨h1, h2⟩
  have hd : max (HT.sIx z.length 0 lo) (HT.sIx z.length z.length hi) - HT.sIx z.length 0 lo = HT.sIx z.length z.length hi - HT.sIx z.length 0 lo := by omega
  have e : Builtin.Str.strSliceIndices lo hi 1 z.length =
      Builtin.Str.strSliceIndices (some ((HT.sIx z.length 0 lo : Nat) : Int)) (some ((max (HT.sIx z.length 0 lo) (HT.sIx z.length z.length hi) : Nat) : Int)) 1 z.length := by
    rw [PySem.StrLaws.strSliceIndices_plain hp hq, hd, sidx]
  have e2 : PySem.StrLaws.sliceText z lo hi =
      PySem.StrLaws.sliceText z (some ((HT.sIx z.length 0 lo : Nat) : Int)) (some ((max (HT.sIx z.length 0 lo) (HT.sIx z.length z.length hi) : Nat) : Int)) := by
    unfold PySem.StrLaws.sliceText
    rw [e]
  rw [e2, PySem.StrLaws.sliceText_nat z hp hq, hd]
  rfl
theorem cutS_length (z : Str) (lo hi : Option Int) : (cutS z lo hi).length ≤ z.length := by
  show (((z.cps.toList.drop (HT.sIx z.length 0 lo)).take (HT.sIx z.length z.length hi - HT.sIx z.length 0 lo)).toArray).size ≤ z.cps.size
  rw [List.size_toArray, List.length_take, List.length_drop, Array.length_toList]
  omega
def rSlS : V → Option Int → Option Int → Hp → VK → Prop := fun x lo hi H Q => ∃ z, x = .str z ∧ z.length ≤ sizeLine ∧ Q (.str (cutS z lo hi)) H
theorem sl_str {X : Cx} : SlR X rSlS := by
  intro pins s σ H x v vl vu lo hi sl Q I rx hs pl pu h
  obtain ⟨z, rfl, hz, q⟩ := h
  obtain ⟨t, rfl⟩ := rx
  obtain ⟨os, hos, hcs, hds⟩ := hs
  obtain ⟨l, rfl, rfl⟩ := IsPart.raw pl
  obtain ⟨u, rfl, rfl⟩ := IsPart.raw pu
  refine ⟨"str", _, F.slot_str_getitem.lookup, typeIs_str _ _ _, ?_⟩
  refine wpAny_getItem_str_slice (l := l) (u := u) (st := none) ⟨os, hos, hcs, hds⟩ rfl ?_
  have hl : (PySem.StrLaws.sliceText z (l.map (·.1)) (u.map (·.1))).length ≤ sizeLine := by
    rw [sliceText_cut]
    exact Nat.le_trans (cutS_length z _ _) hz
  rw [← sliceText_cut] at q
  unfold PySem.StrLaws.sliceText at q hl
  show Made.post (if ((1 : Int) == 1 && (Builtin.Str.strSliceIndices (l.map (·.1)) (u.map (·.1)) 1 z.length).length == z.length) = true then Made.val (.str z t)
    else Made.str ⟨((Builtin.Str.strSliceIndices (l.map (·.1)) (u.map (·.1)) 1 z.length).filterMap (z.cps[·]?)).toArray⟩) (EP X pins σ Q) s
  by_cases c : ((1 : Int) == 1 && (Builtin.Str.strSliceIndices (l.map (·.1)) (u.map (·.1)) 1 z.length).length == z.length) = true
  · rw [if_pos c] at q ⊢
    exact ⟨.str z, H, I, ⟨t, rfl⟩, q⟩
  · rw [if_neg c] at q hl ⊢
    exact ⟨hl, .str _, H, I.tok _, ⟨_, rfl⟩, q⟩
end L2

namespace Att
open PySem PySem.W PySem.Calls PyProof.Rows

/-! ### the script -/
theorem ints_of_wellAll {P : Params} {h : Heap} : ∀ (ns : List Int) (vs : List Value), WellAll P h vs (ns.map WData.int) → IntsAre vs ns := by
  intro ns
  induction ns with
  | nil =>
    intro vs w
    rw [List.map_nil] at w
    cases w
    exact .nil
  | cons n ns ih =>
    intro vs w
    rw [List.map_cons] at w
    cases w with
    | cons a b =>
      cases a
      exact .cons _ _ (ih _ b)

theorem script_of {l : OpenLaw} {n : Nat} (hn : l.most = some n) {P : Params} {h : Heap} {args : List WData} {vals : List Value}
    (hpre : l.row.toRowW.claim.pre args = true) (hwl : WellAll P h vals args) :
    ∃ a vs ns, vals = [Value.ref a] ∧ args = [WData.list (ns.map WData.int)] ∧ h.get? a = some { cls := .type "list", data := .seq vs.toArray } ∧ IntsAre vs ns ∧ ns.length ≤ n := by
  have hsh : WShape.hasAll [] args [.list .int] = true := (pre_splitW hpre).1
  have hc : l.pre.holds [] { args := args } = true := (pre_splitW hpre).2
  obtain ⟨d, r, rfl, h1, h2⟩ := hasAllW_cons hsh
  obtain rfl := hasAllW_nil h2
  obtain ⟨xs, rfl, h3⟩ := hasW_list h1
  obtain ⟨ns, rfl⟩ := items_int h3
  have hlen : ns.length ≤ n := by
    unfold OpenLaw.pre at hc
    have h4 : (WTm.not (.lt (.lit (.int (n : Int))) (.len (.arg 0)))).holds [] { args := [.list (ns.map .int)] } = true := by
      have h4 := (holds_andW hc).1
      rw [hn] at h4
      exact h4
    have h5 := condW_of h4 (w_not (w_lt w_lit (w_len_list (w_arg rfl))))
    rw [List.length_map] at h5
    refine Nat.le_of_not_lt fun q => ?_
    have q' : (n : Int) < ((ns.length : Nat) : Int) := by omega
    first
      | (rw [decide_eq_true q'] at h5; exact absurd h5 (by decide))
      | (simp at h5; omega)
  cases hwl with
  | cons w1 w2 =>
    cases w2
    cases w1 with
    | list ho hall => exact ⟨_, _, ns, rfl, rfl, ho, ints_of_wellAll ns _ hall, hlen⟩

theorem post_true (l : OpenLaw) (args : List WData) : l.row.toRowW.claim.post args (.bool true) args = true :=
  postW_of (r := l.row.toRowW) (X := (true == true))
    (show WShape.has [] (.bool true) .bool = true by first | rfl | decide | simp [WShape.has, WShape.arms, WShape.armsAll])
    (show (WTm.eq .res (.lit (.bool true))).value [] { args := args, res := some (.bool true), after := args } = some (.bool (true == true)) from w_eq_bool (w_res rfl) w_lit) rfl

/-! ### the attachment: holds_open's last premise (the goal 'hc' behind k_head) from a wpAny of the law's body -/
/-- the same from a codeAny of the CALL (for a layer whose function contracts speak of calls) -/
theorem attach_call {l : OpenLaw} {n : Nat} {q : Program} {loose : List Str} {XP : (Str → Option Value) → Heap → Prop} {YP : World → Heap → Prop} {d : DefRec}
    (hn : l.most = some n) (hdf : d.params.defaults = [])
    (call : ∀ (w : World) (s₀ s₁ : Shared) (mg mb : Str → Option Value) (fa : Addr) (o : Obj) (pm cd doc : Value) (a : Addr) (vs : List Value) (ns : List Int),
      Ground q loose [] XP w s₀ mg mb s₁.heap → YP w s₁.heap →
      s₁.heap.get? fa = some o → o.data = .func (docDef d.name d.params d.body d.scope pm cd doc) → s₁.heap.CodeRec cd d.name → mg d.name = some (.ref fa) →
      s₁.heap.get? a = some { cls := .type "list", data := .seq vs.toArray } → IntsAre vs ns → ns.length ≤ n → s₁.gens = #[] →
      codeAny (model l.prog w) callerA (.call (.ref fa) ⟨[.ref a], []⟩) (fun r s' => r = .ok (.ret (.bool true)) ∧ OldK s₁.heap s'.heap ∧ s'.os = s₁.os ∧ AllBare s'.gens) s₁) :
    WalkO q loose XP YP l.row.toRowW d [] (fun f vs => PySem.call f vs) := by
  intro w s₀ s₁ mg mb G Y fa o pm cd doc dV kV ho hd hcd hD hmg hg args vals as hpre hlay hrd hwl hlo
  obtain rfl : dV = .none := Dflts.none hD hdf
  obtain rfl : kV = .none := Dflts.noKw hD
  obtain ⟨a, vs, ns, rfl, rfl, hobj, hints, hlen⟩ := script_of hn hpre hwl
  refine enter_call (codeAny_mono (call w s₀ s₁ mg mb fa o pm cd doc a vs ns G Y ho (fd_plain hd) hcd hmg hobj hints hlen hg) fun r s' hq => ?_)
  obtain ⟨rfl, h2, h3, h4⟩ := hq
  exact ⟨.inl ⟨.bool true, .bool true, [], rfl, fun _ => rfl, .bool true, post_true l _, fun _ => ⟨List.Pairwise.nil, fun _ hm => (nomatch hm)⟩⟩, h2, h3, h4⟩

/-! ### rules over ANY heap (no ledger) from facts about the written part K: the library's own take a ledger (News) for what they write -/
section
variable {prog : Program} {w : World} {A : Around} {E : Value → Shared → Prop} {s : Shared} {K : Frag}

/-! the whole heap as the ledger: makes every rule that writes through a ledger a rule over any heap -/
def noObjs (h : Heap) : Heap := { h with objs := #[] }
def ledger (h : Heap) (L d : Addr) : List (Addr × Obj) := (List.range h.objs.size).filterMap fun a => if a = L ∨ a = d then none else (h.get? a).map fun o => (a, o)
end
end Att

namespace L2
open PySem PySem.Spec PyProof.Rows

theorem vals_ints : ∀ {vs : List Value} {ns : List Int}, IntsAre vs ns → Vals (ns.map V.int) vs
  | _, _, .nil => .nil
  | _, _, .cons n t h => .cons ⟨t, rfl⟩ (vals_ints h)

/-- nothing is tracked but the script, known to the object (or it is an object of the module) -/
def Only (H : Hp) : Prop := ∀ b, H b = none ∨ ∃ o xs, H b = some (.frz o (.lst xs))

/-- THE HEAD: the law's promise, at the heap behind the top. F, the promise of the law's def, may use that base is part of the heap (so K.In base, base.Ns mainGlobals mg stand in Mod) -/
theorem law_call {P : Program} {w : World} {K : PySem.W.Frag} {mg mb : Str → Option Value} {CX : CXT} {k : Nat} {fa a : Addr} {fd : FuncData} {x : Str} {sp : Sp} {s₁ : Shared} {vs : List Value} {ns : List Int}
    (KX : K.In s₁.heap) (hns : s₁.heap.Ns mainGlobals mg) (hb : s₁.heap.Ns builtinsNs mb) (hbb : ∀ x : Str, x ≠ "__name__" → mb x = bootBuiltins x) (hlim : s₁.heap.NoLimit) (hg : s₁.gens = #[])
    (ha : s₁.heap.get? a = some { cls := .type "list", data := .seq vs.toArray }) (hi : IntsAre vs ns) (hl : ns.length ≤ sizeLine) (hr : Room k callerA)
    (F : ∀ base : Heap, K.In base → base.Ns mainGlobals mg → FnOk P w K mg base CX k fa fd [x] sp) (hbind : ∀ (s : Shared) (u : Value), BindsTo s fd ⟨[u], []⟩ [(x, u)])
    (hsp : ∀ H : Hp, Only H → SqL K H a (ns.map V.int) → sp [.ref a] H (fun v _ => v = .bl true) fun _ _ _ => False)
    (hCX : ∀ H e s', CX [] H s₁ (fun _ _ _ => False) e s' → False) :
    codeAny (model P w) callerA (.call (.ref fa) ⟨[.ref a], []⟩) (fun r s' => r = .ok (.ret (.bool true)) ∧ OldK s₁.heap s'.heap ∧ s'.os = s₁.os ∧ AllBare s'.gens) s₁ := by
  have rv := vals_ints hi
  have lenV := hi.length
  -- from an abstract heap in which nothing but the script may be tracked
  have core : ∀ H : Hp, Only H → SqL K H a (ns.map V.int) → HOk P w H s₁.heap → (∀ b, H b ≠ none → b = a) → (H a ≠ none → K.lookup a = none) →
      codeAny (model P w) callerA (.call (.ref fa) ⟨[.ref a], []⟩) (fun r s' => r = .ok (.ret (.bool true)) ∧ OldK s₁.heap s'.heap ∧ s'.os = s₁.os ∧ AllBare s'.gens) s₁ := by
    intro H hO hS hok hA hK
    have base_of : ∀ {b : Addr} {o : Obj}, s₁.heap.get? b = some o → H b = none → (hidT s₁.heap H).get? b = some o := fun e n => hidT_get e n
    have noA : ∀ {b : Addr} {o : Obj} {es : Array DictEntry} {ep : Nat}, s₁.heap.get? b = some o → o.data = .dict es ep → H b = none := fun {b o es ep} e d => by
      cases q : H b with
      | none => rfl
      | some u =>
        have e' : b = a := hA b (by rw [q]; simp)
        subst e'
        rw [ha] at e; cases e
        have d' : Data.seq vs.toArray _ = Data.dict es ep := d
        cases d'
    have nsK : ∀ {b : Addr} {m : Str → Option Value}, s₁.heap.Ns b m → (hidT s₁.heap H).Ns b m := fun {b m} ⟨o, es, ep, e, d, r⟩ => ⟨o, es, ep, base_of e (noA e d), d, r⟩
    have hKb : K.In (hidT s₁.heap H) := fun b o e => base_of (KX b o e) (by
      cases q : H b with
      | none => rfl
      | some u =>
        have e' : b = a := hA b (by rw [q]; simp)
        subst e'
        rw [hK (by rw [q]; simp)] at e; cases e)
    have hM : Mod K mg (hidT s₁.heap H) := ⟨hKb, nsK hns, ⟨mb, nsK hb, hbb⟩, let ⟨mc, h1, h2⟩ := hlim; ⟨mc, nsK h1, h2⟩⟩
    have e0 : Env0 P w K mg (hidT s₁.heap H) callerA [] s₁ H := ⟨rfl, hM, fun b o e => of_hidT e, Nat.le_of_eq (hidT_size _ _), trivial, fun b hb => absurd (show b ∈ ([] : List Addr) from hb) (by simp), hok, .of_eq hg⟩
    refine codeAny_mono ((F _ hKb (nsK hns)).run callerA [] s₁ H ⟨[.ref a], []⟩ [.ref a] [.ref a] _ _ hr e0 (hbind s₁ (.ref a)) (.cons rfl .nil) (hsp H hO hS)) fun r s' h => ?_
    cases r with
    | error e => exact (hCX H e s' h).elim
    | ok fl =>
      cases fl with
      | next => exact False.elim h
      | brk => exact False.elim h
      | cont => exact False.elim h
      | ret u =>
        obtain ⟨v, H', os, bare, un, hok', r', q⟩ := h
        have q' : v = .bl true := q
        subst q'
        obtain rfl : u = Value.bool true := r'
        refine ⟨rfl, OldK.of_keep fun b o e => ?_, os, bare⟩
        cases q : H b with
        | none => exact un.keep b o e q (by intro z; exact absurd (show b ∈ ([] : List Addr) from z) (by simp)) (by simp)
        | some u =>
          rcases hO b with z | ⟨ob, xs, z⟩
          · rw [q] at z; cases z
          · have z2 := un.frzs b ob _ z
            obtain ⟨e1, _⟩ := hok b _ z
            obtain ⟨e2, _⟩ := hok' b _ z2
            rw [e] at e1; cases e1
            exact e2
  cases hk : K.lookup a with
  | some o =>
    -- the script is one of the module's own objects
    have e := KX a o hk
    rw [ha] at e
    cases e
    refine core (fun _ => none) (fun _ => .inl rfl) (.inr ⟨_, vs.toArray, _, hk, rfl, rfl, rfl, by rw [List.size_toArray, lenV]; exact hl, by simpa using rv⟩) (fun b u z => by have z' : (none : Option HO) = some u := z; cases z') (fun b z => absurd rfl z) fun z => absurd rfl z
  | none =>
    refine core (fun b => if b = a then some (.frz { cls := .type "list", data := .seq vs.toArray } (.lst (ns.map V.int))) else none) (fun b => ?_) (.inl (.inr ⟨{ cls := .type "list", data := .seq vs.toArray }, if_pos rfl⟩)) (fun b u z => ?_) (fun b z => ?_) fun _ => hk
    · by_cases hb : b = a
      · exact .inr ⟨_, _, if_pos hb⟩
      · exact .inl (if_neg hb)
    · by_cases hb : b = a
      · have z' := (if_pos hb).symm.trans z
        cases z'
        subst hb
        exact ⟨ha, by rw [List.length_map]; exact hl, vs, _, rv, ha⟩
      · have z' := (if_neg hb).symm.trans z
        cases z'
    · by_cases hb : b = a
      · exact hb
      · exact absurd (if_neg hb) z
end L2

namespace L2
open PySem PySem.Spec PyProof.Rows

abbrev KOf {K : PySem.W.Frag} {h : Heap} (_ : K.In h) : PySem.W.Frag := K

/-- the goal that k_head leaves (case hc), from the law's promise. F gives the function object fd (K's own) once, then the promise over every base -/
theorem walk_of {l : PySem.W.OpenLaw} {n k : Nat} {q : Program} {loose : List Str} {XP : (Str → Option Value) → Heap → Prop} {YP : World → Heap → Prop} {d : DefRec} {K : Params → PySem.W.Frag} {CX : World → CXT} {sp : World → Sp} {x : Str}
    (hn : l.most = some n) (hn2 : n ≤ sizeLine) (hdf : d.params.defaults = []) (hr : Room k callerA)
    (hY : ∀ (w : World) (h : Heap), YP w h → (K w.params).In h)
    (F : ∀ (w : World) (mg : Str → Option Value) (fa : Addr) (h : Heap), (K w.params).In h → h.Ns mainGlobals mg → mg d.name = some (.ref fa) →
      ∃ fd : FuncData, (∀ (s : Shared) (u : Value), BindsTo s fd ⟨[u], []⟩ [(x, u)]) ∧
        ∀ base : Heap, (K w.params).In base → base.Ns mainGlobals mg → FnOk l.prog w (K w.params) mg base (CX w) k fa fd [x] (sp w))
    (hsp : ∀ (w : World) (H : Hp) (a : Addr) (ns : List Int), ns.length ≤ n → Only H → SqL (K w.params) H a (ns.map V.int) → sp w [.ref a] H (fun v _ => v = .bl true) fun _ _ _ => False)
    (hCX : ∀ (w : World) (H : Hp) (s : Shared) (e : Value) (s' : Shared), CX w [] H s (fun _ _ _ => False) e s' → False) :
    PySem.W.WalkO q loose XP YP l.row.toRowW d [] (fun f vs => PySem.call f vs) := by
  refine Att.attach_call hn hdf fun w s₀ s₁ mg mb fa o pm cd doc a vs ns G Y ho hd hcd hmg hobj hints hlen hg => ?_
  have KX := hY w _ Y
  obtain ⟨fd, hb, hF⟩ := F w mg fa _ KX G.T.g hmg
  exact law_call KX G.T.g G.T.b G.T.builtins G.T.nolimit hg hobj hints (Nat.le_trans hlen hn2) hr hF hb (fun H hO hS => hsp w H a ns hlen hO hS) fun H e s' => hCX w H s₁ e s'
end L2

/- THE LAST THEOREM (shape; LID, My.* are yours):
   My.Adr: a structure of the addresses that your layer names (classes, functions); My.Txt K t: a structure (Prop) of the equations over K;
   My.txt_mk : {K} {implicit addresses ..} (e1 : nsIn K mainGlobals "law" = some (some (.ref f))) (e2 : K.lookup f = some ⟨oc, od, .func (fnOf "law" "law" params body scope dV kV doc pm an cdv ct), sl⟩) (e3 : codeIn K cdv "law" = true) .. : ∃ t, My.Txt K t

set_option maxRecDepth 100000 in
set_option maxHeartbeats 0 in
theorem PySem.Challenge.cw_LID_holds : PySem.Challenge.rw_LID.Holds := by
  w_on; o_law; k_head; (case hw => w_witness2)
  k_fill
  refine L2.walk_of (l := PySem.Challenge.rw_LID) (n := 63) (k := 40) (x := "script") (CX := fun w => ..) (sp := fun _ => My.sp_law) rfl (by decide) rfl ⟨rfl, by decide, by decide⟩ (fun w h Y => PySem.W.kIn_of Y) ?F ?S ?C
  case F =>
    intro w mg fa h KX G hmg
    have T : ∃ t, My.Txt (L2.KOf KX) t := by
      dsimp only [L2.KOf]                          -- K must stand as «<heap const> w.params» for k_is
      refine' My.txt_mk ?e1 ?e2 ?e3 ..
      (case e1 => PySem.W.k_is)                    -- in the order: a name -> its address -> its object -> its parts
      (case e2 => PySem.W.k_is)
      ..
    obtain ⟨t, T⟩ := T
    have e0 := hmg.symm.trans (PySem.W.mg_of KX G T.law)
    cases e0                                       -- fa is the law's own address
    exact ⟨_, fun s u => .of_eq rfl, fun base kb nb => My.law_fn T kb nb⟩     -- if «.of_eq rfl» comes too early: refine' ⟨_, ?b, fun base kb nb => My.law_fn T kb nb⟩; exact fun s u => .of_eq rfl
  case S => exact fun w H a ns hl hO hS => ..
  case C => exact ..
(the tactic k_is has no namespace: write k_is) -/

/-! SHORT WORDS over the layer: a def of the text, its body, what a loop and a test want. -/
namespace L2
open PySem PySem.Spec PyProof.Rows

/-! ### the text by places -/
/-- the j-th statement of a class's body -/
def inClass (s : Stmt) (j : Nat) : Stmt := match s with
  | .ClassDef _ _ _ body _ _ _ _ _ _ _ => body.getD j (.Pass ⟨0, 0, 0, 0⟩)
  | _ => .Pass ⟨0, 0, 0, 0⟩
def defArgs (s : Stmt) : Arguments := match s with
  | .FunctionDef _ a _ _ _ _ _ _ _ _ => a
  | _ => { posonlyargs := [], args := [], vararg := none, kwonlyargs := [], kw_defaults := [], kwarg := none, defaults := [] }
def defBody (s : Stmt) : List Stmt := match s with
  | .FunctionDef _ _ b _ _ _ _ _ _ _ => b
  | _ => []
def defScope (s : Stmt) : Scope := match s with
  | .FunctionDef _ _ _ _ _ _ sc _ _ _ => sc
  | _ => { kind := .function, names := [], isGenerator := false, isCoroutine := false }

/-! ### no exception leaves a def -/
abbrev CX0 : CXT := fun _ _ _ _ _ _ => False
abbrev E0 : XK := fun _ _ _ => False
theorem pass0 {X : Cx} : Passes CX0 X E0 := fun _ _ _ _ _ _ _ h => h.elim

/-! ### a def (or method) of the text as it stands behind the top -/
structure Fun (K : PySem.W.Frag) (x qual : Str) (st : Stmt) (f : Addr) (fd : FuncData) : Prop where
  ex : ∃ (oc : Value) (od : Option Addr) (kV doc pm : Value) (an : Option Addr) (cdv ct : Value) (osl : Array (Option Value)),
    fd = PySem.W.fnOf x qual (defArgs st) (defBody st) (defScope st) .none kV doc pm an cdv ct ∧ K.lookup f = some ⟨oc, od, .func fd, osl⟩ ∧ PySem.W.codeIn K cdv qual = true
  kp : PySem.W.keepIn K (.ref f) = true
section
variable {P : Program} {w : World} {K : PySem.W.Frag} {mg : Str → Option Value} {base : Heap}
/-- THE RULE for a def: its body as a term of rules, and the reading of that term -/
theorem Fun.ok {x qual : Str} {st : Stmt} {f : Addr} {fd : FuncData} {N ps : List Str} {k : Nat} {sp : Sp} (F : Fun K x qual st f fd) (S : FnScope N ps (defScope st)) (len : ∀ vs H Q E, sp vs H Q E → vs.length = ps.length)
    (hbody : ∀ (cdv : Value) (A : Around) (outer : List Env) (s : Shared) (H : Hp) (vs : List V) (Q : VK) (E : XK), Room k (A.deeper (envOfC qual (defScope st) s.heap.objs.size f cdv)) → sp vs H Q E →
      ∃ t, PSs (cxOf CX0 P w K mg base N qual (defScope st) f cdv A outer s H E).nox (defBody st) t ∧ t { nx := fun _ H' => Q .non H', rt := Q } (start N vs) H) : FnOk P w K mg base CX0 (k + 1) f fd ps sp := by
  obtain ⟨oc, od, kV, doc, pm, an, cdv, ct, osl, rfl, lk, hcd⟩ := F.ex
  refine fn_of lk hcd S len fun A outer s H vs Q E hr hsp => ?_
  obtain ⟨t, h, q⟩ := hbody cdv A outer s H vs Q E hr hsp
  exact ⟨t, h.nox, q⟩
/-- how its arguments bind (no defaults): h is «fun _ _ _ _ _ _ us hl => match us, hl with | [_, _], _ => rfl», one _ a parameter -/
theorem Fun.binds {x qual : Str} {st : Stmt} {f : Addr} {fd : FuncData} {ps : List Str} (F : Fun K x qual st f fd)
    (h : ∀ (kV doc pm : Value) (an : Option Addr) (cdv ct : Value) (us : List Value), us.length = ps.length → bindArgs (PySem.W.fnOf x qual (defArgs st) (defBody st) (defScope st) .none kV doc pm an cdv ct) ⟨us, []⟩ = pure (ps.zip us)) : Binds K fd ps [] := by
  obtain ⟨oc, od, kV, doc, pm, an, cdv, ct, osl, rfl, lk, hcd⟩ := F.ex
  exact .all (h kV doc pm an cdv ct)
theorem fun_mk {x qual : Str} {st : Stmt} {f : Addr} {oc : Value} {od an : Option Addr} {osl : Array (Option Value)} {kV doc pm cdv ct : Value} (l : K.lookup f = some ⟨oc, od, .func (PySem.W.fnOf x qual (defArgs st) (defBody st) (defScope st) .none kV doc pm an cdv ct), osl⟩)
    (c : PySem.W.codeIn K cdv qual = true) (k : PySem.W.keepIn K (.ref f) = true) : Fun K x qual st f (PySem.W.fnOf x qual (defArgs st) (defBody st) (defScope st) .none kV doc pm an cdv ct) := ⟨⟨oc, od, kV, doc, pm, an, cdv, ct, osl, rfl, l, c⟩, k⟩
end
theorem hu_of {A : Around} {k : Nat} (hr : Room k A) : A.units + 1 < cLine := Nat.lt_of_le_of_lt (Nat.add_le_add_left (by decide : 1 ≤ 64) _) hr.units
theorem small1000 {n : Nat} (h : n ≤ 1000) : n < sizeLine := Nat.lt_of_le_of_lt h (by decide)

/-! ### expressions in short: the name that stands in the i-th slot -/
section
variable {X : Cx}
theorem pv (i : Nat) {x : Str} {pos : Pos} (hN : X.N[i]? = some x := by rfl) (hv : Vis X.env.scope x := by first | exact Or.inl rfl | exact Or.inr (Or.inl rfl) | exact Or.inr (Or.inr rfl)) (hd : (x == ("__debug__" : Str)) = false := by decide)
    (hcd : (x == ("__classdict__" : Str)) = false := by decide) : PE X (.Name x pos) (tVar i) := pe_var hN hv hd hcd
end

/-! ### tests -/
theorem iteF {A B : Prop} (h : B) : if false = true then A else B := by
  rw [if_neg Bool.false_ne_true]
  exact h
theorem iteT {A B : Prop} (h : A) : if true = true then A else B := by
  rw [if_pos rfl]
  exact h
theorem ite2 {c A B : Prop} [Decidable c] (h1 : c → A) (h2 : ¬ c → B) : if c then A else B := by
  by_cases h : c
  · rw [if_pos h]
    exact h1 h
  · rw [if_neg h]
    exact h2 h
/-! ### heaps -/
/-- all that was tracked is as it was -/
def Same (H H' : Hp) : Prop := ∀ b o, H b = some o → H' b = some o
theorem Same.refl (H : Hp) : Same H H := fun _ _ h => h
theorem Same.trans {H H1 H2 : Hp} (a : Same H H1) (b : Same H1 H2) : Same H H2 := fun c o h => b c o (a c o h)
theorem Same.free {H H' : Hp} (e : Same H H') {l : Addr} (h : H' l = Option.none) : H l = Option.none := by
  cases q : H l with
  | none => rfl
  | some o =>
    rw [e l o q] at h
    cases h
theorem Same.seq {K : PySem.W.Frag} {H H' : Hp} {a : Addr} {xs : List V} (e : Same H H') (h : SqL K H a xs) : SqL K H' a xs := by
  rcases h with (h | ⟨o, h⟩) | h
  · exact .inl (.inl (e _ _ h))
  · exact .inl (.inr ⟨o, e _ _ h⟩)
  · exact .inr h

/-! ### a dict's pairs: keys that differ -/
section
variable {κ : Type} [DecidableEq κ]
end
/-! ### lists -/
/-- a new instance and its __init__ leave all that was tracked as it was -/
theorem Same.made {H H1 : Hp} {x dx C : Addr} (nx : H x = Option.none) (nd : H dx = Option.none) (k : ∀ b o, (upd (upd H dx (.own x)) x (.ins C dx [])) b = some o → b ≠ x → H1 b = some o) : Same H H1 := fun b o e =>
  k b o (by rw [upd_ne (ne_of_none e nx), upd_ne (ne_of_none e nd)]; exact e) (ne_of_none e nx)
end L2

namespace Pk
open PySem PySem.Spec PyProof.Rows L2
/-! ### readings, applied -/
section
variable {σ : L2.St} {H : Hp} {Q : VK} {D : Ends} {ta tb te tc : TE} {t u tt : TS} {tA tA2 : TT} {ts : TA} {K : PySem.W.Frag}
theorem r_seq : tSeq t u D σ H = t { D with nx := u D } σ H := rfl
theorem r_next : tNext D σ H = D.nx σ H := rfl
theorem r_var {i : Nat} : tVar i σ H Q = ∃ v, σ[i]? = some (some v) ∧ Q v H := rfl
theorem r_c {v : V} : tC v σ H Q = Q v H := rfl
theorem r_op {r : R2} : tOp r ta tb σ H Q = ta σ H fun x H1 => tb σ H1 fun y H2 => r x y H2 Q := rfl
theorem r_un {r : V → Hp → VK → Prop} : tUn r ta σ H Q = ta σ H fun x H1 => r x H1 Q := rfl
theorem r_asg {g : TG} : tAsg te g D σ H = te σ H fun x H1 => g x σ H1 D.nx := rfl
theorem r_gname {i : Nat} {v : V} {R : L2.St → Hp → Prop} : gName i v σ H R = R (σ.set i (some v)) H := rfl
theorem r_gnil {vs : List V} {R : L2.St → Hp → Prop} : gNil vs σ H R = (vs = [] ∧ R σ H) := rfl
theorem r_gcons {g : TG} {gs : TGs} {vs : List V} {R : L2.St → Hp → Prop} : gCons g gs vs σ H R = ∃ v r, vs = v :: r ∧ g v σ H fun σ' H' => gs r σ' H' R := rfl
theorem r_gsub {s : TSet} {v : V} {R : L2.St → Hp → Prop} : gSub ta tb s v σ H R = ta σ H fun o H1 => tb σ H1 fun i H2 => s o i v H2 fun H3 => R σ H3 := rfl
theorem r_ifS : tIfS tA t u D σ H = tA σ H fun b H1 => if b = true then t D σ H1 else u D σ H1 := rfl
theorem r_ret : tRet te D σ H = te σ H D.rt := rfl
theorem r_retN : tRetN D σ H = D.rt .non H := rfl
theorem r_drop : tDrop te D σ H = te σ H fun _ H1 => D.nx σ H1 := rfl
theorem r_break : tBreak D σ H = D.bk σ H := rfl
theorem r_cont : tCont D σ H = D.ct σ H := rfl
theorem r_never : tNever D σ H = False := rfl
theorem r_test {R : Bool → Hp → Prop} : tTest te σ H R = te σ H fun x H' => ∃ k, x = .bl k ∧ R k H' := rfl
theorem r_tB {R : Bool → Hp → Prop} : tB te σ H R = te σ H fun x H1 => ∃ c, x = .bl c ∧ R c H1 := rfl
theorem r_and {R : Bool → Hp → Prop} : tAnd tA tA2 σ H R = tA σ H fun c H1 => if c = true then tA2 σ H1 R else R false H1 := rfl
theorem r_or {R : Bool → Hp → Prop} : tOr tA tA2 σ H R = tA σ H fun c H1 => if c = true then R true H1 else tA2 σ H1 R := rfl
theorem r_not {R : Bool → Hp → Prop} : tNot tA σ H R = tA σ H fun c H1 => R (!c) H1 := rfl
theorem r_andV : tAndV ta tb σ H Q = ta σ H fun x H1 => ∃ c, x = .bl c ∧ if c = true then tb σ H1 Q else Q (.bl false) H1 := rfl
theorem r_orV : tOrV ta tb σ H Q = ta σ H fun x H1 => ∃ c, x = .bl c ∧ if c = true then Q (.bl true) H1 else tb σ H1 Q := rfl
theorem r_notV : tNotV ta σ H Q = ta σ H fun x H1 => ∃ c, x = .bl c ∧ Q (.bl (!c)) H1 := rfl
theorem r_ifE : tIf tA ta tb σ H Q = tA σ H fun c H1 => if c = true then ta σ H1 Q else tb σ H1 Q := rfl
theorem r_I {C : Int → Int → Prop} {g : Int → Int → V} {x y : V} : rI C g x y H Q = ∃ i j, x = .int i ∧ y = .int j ∧ C i j ∧ Q (g i j) H := rfl
theorem r_I0 {g : Int → Int → V} {x y : V} : rI0 g x y H Q = ∃ i j, x = .int i ∧ y = .int j ∧ Q (g i j) H := rfl
theorem r_U {g : Int → V} {x : V} : rU g x H Q = ∃ i, x = .int i ∧ Q (g i) H := rfl
theorem r_Eq {x y : V} : rEq x y H Q = (scal x y = true ∧ Q (.bl (decide (x = y))) H) := rfl
theorem r_Ne {x y : V} : rNe x y H Q = (scal x y = true ∧ Q (.bl (!decide (x = y))) H) := rfl
theorem r_ipI {f : Int → Int → Int} {x y : V} : ipI f x y H Q = ∃ i j, x = .int i ∧ y = .int j ∧ Q (.int (f i j)) H := rfl
theorem r_aug {i : Nat} {ti : TIp} : tAug i te ti D σ H = ∃ x, σ[i]? = some (some x) ∧ te σ H fun y H1 => ti x y H1 fun z H2 => D.nx (σ.set i (some z)) H2 := rfl
theorem r_nil {R : List V → Hp → Prop} : tNil σ H R = R [] H := rfl
theorem r_cons {R : List V → Hp → Prop} : tCons ta ts σ H R = ta σ H fun x H1 => ts σ H1 fun xs H2 => R (x :: xs) H2 := rfl
theorem r_lst : tLst ts σ H Q = ts σ H fun xs H1 => xs.length ≤ sizeLine ∧ ∀ p, H1 p = none → Q (.ref p) (upd H1 p (.lst xs)) := rfl
theorem r_tup : tTup ts σ H Q = ts σ H fun xs H1 => xs.length ≤ sizeLine ∧ ∀ p, H1 p = none → Q (.ref p) (upd H1 p (.tup xs)) := rfl
theorem r_call {sp : Sp} {dvs : List V} {E : XK} : tCall sp dvs E ts σ H Q = ts σ H fun vs H1 => sp (vs ++ dvs) H1 Q E := rfl
theorem r_cb {r : List V → Hp → VK → Prop} : tCB r ts σ H Q = ts σ H fun vs H1 => r vs H1 Q := rfl
theorem r_bm {T : String} {r : V → List V → Hp → VK → Prop} : tBM K T r ta ts σ H Q = ta σ H fun x H1 => tyV K T x H1 ∧ ts σ H1 fun xs H2 => r x xs H2 Q := rfl
theorem r_bm0 {T : String} {r : V → List V → Hp → VK → Prop} : tBM0 K T r ta σ H Q = ta σ H fun x H1 => tyV K T x H1 ∧ r x [] H1 Q := rfl
theorem r_dget : tDGet ta tb σ H Q = ta σ H fun x H1 => tb σ H1 fun y H2 => ∃ a v, x = .ref a ∧ DGet H2 a y (some v) ∧ Q v H2 := rfl
theorem r_dput : sDPut ta tb te D σ H = te σ H fun v H1 => ta σ H1 fun x H2 => tb σ H2 fun y H3 => ∃ a H4, x = .ref a ∧ DPut H3 a y v H4 ∧ D.nx σ H4 := rfl
theorem r_sl {r : V → Option Int → Option Int → Hp → VK → Prop} {tl th : TO} : tSl r te tl th σ H Q = te σ H fun x H1 => tl σ H1 fun l H2 => th σ H2 fun u H3 => r x l u H3 Q := rfl
theorem r_nopart {R : Option Int → Hp → Prop} : tNoPart σ H R = R none H := rfl
theorem r_part {R : Option Int → Hp → Prop} : tPart te σ H R = te σ H fun x H1 => ∃ i, x = .int i ∧ R (some i) H1 := rfl
theorem r_yes {R : Bool → Hp → Prop} : tYes σ H R = R true H := rfl
/-! ### slots -/
variable {α : Type} {a0 a1 a2 a3 a4 a5 a6 a7 a8 a9 a10 a11 x : α} {l : List α}
theorem g0 : (a0 :: l)[0]? = some a0 := rfl
theorem g1 : (a0 :: a1 :: l)[1]? = some a1 := rfl
theorem g2 : (a0 :: a1 :: a2 :: l)[2]? = some a2 := rfl
theorem g3 : (a0 :: a1 :: a2 :: a3 :: l)[3]? = some a3 := rfl
theorem g4 : (a0 :: a1 :: a2 :: a3 :: a4 :: l)[4]? = some a4 := rfl
theorem g5 : (a0 :: a1 :: a2 :: a3 :: a4 :: a5 :: l)[5]? = some a5 := rfl
theorem g6 : (a0 :: a1 :: a2 :: a3 :: a4 :: a5 :: a6 :: l)[6]? = some a6 := rfl
theorem g7 : (a0 :: a1 :: a2 :: a3 :: a4 :: a5 :: a6 :: a7 :: l)[7]? = some a7 := rfl
theorem g8 : (a0 :: a1 :: a2 :: a3 :: a4 :: a5 :: a6 :: a7 :: a8 :: l)[8]? = some a8 := rfl
theorem g9 : (a0 :: a1 :: a2 :: a3 :: a4 :: a5 :: a6 :: a7 :: a8 :: a9 :: l)[9]? = some a9 := rfl
theorem g10 : (a0 :: a1 :: a2 :: a3 :: a4 :: a5 :: a6 :: a7 :: a8 :: a9 :: a10 :: l)[10]? = some a10 := rfl
theorem g11 : (a0 :: a1 :: a2 :: a3 :: a4 :: a5 :: a6 :: a7 :: a8 :: a9 :: a10 :: a11 :: l)[11]? = some a11 := rfl
theorem s0 : (a0 :: l).set 0 x = x :: l := rfl
theorem s1 : (a0 :: a1 :: l).set 1 x = a0 :: x :: l := rfl
theorem s2 : (a0 :: a1 :: a2 :: l).set 2 x = a0 :: a1 :: x :: l := rfl
theorem s3 : (a0 :: a1 :: a2 :: a3 :: l).set 3 x = a0 :: a1 :: a2 :: x :: l := rfl
theorem s4 : (a0 :: a1 :: a2 :: a3 :: a4 :: l).set 4 x = a0 :: a1 :: a2 :: a3 :: x :: l := rfl
theorem s5 : (a0 :: a1 :: a2 :: a3 :: a4 :: a5 :: l).set 5 x = a0 :: a1 :: a2 :: a3 :: a4 :: x :: l := rfl
theorem s6 : (a0 :: a1 :: a2 :: a3 :: a4 :: a5 :: a6 :: l).set 6 x = a0 :: a1 :: a2 :: a3 :: a4 :: a5 :: x :: l := rfl
theorem s7 : (a0 :: a1 :: a2 :: a3 :: a4 :: a5 :: a6 :: a7 :: l).set 7 x = a0 :: a1 :: a2 :: a3 :: a4 :: a5 :: a6 :: x :: l := rfl
theorem s8 : (a0 :: a1 :: a2 :: a3 :: a4 :: a5 :: a6 :: a7 :: a8 :: l).set 8 x = a0 :: a1 :: a2 :: a3 :: a4 :: a5 :: a6 :: a7 :: x :: l := rfl
theorem s9 : (a0 :: a1 :: a2 :: a3 :: a4 :: a5 :: a6 :: a7 :: a8 :: a9 :: l).set 9 x = a0 :: a1 :: a2 :: a3 :: a4 :: a5 :: a6 :: a7 :: a8 :: x :: l := rfl
theorem s10 : (a0 :: a1 :: a2 :: a3 :: a4 :: a5 :: a6 :: a7 :: a8 :: a9 :: a10 :: l).set 10 x = a0 :: a1 :: a2 :: a3 :: a4 :: a5 :: a6 :: a7 :: a8 :: a9 :: x :: l := rfl
theorem s11 : (a0 :: a1 :: a2 :: a3 :: a4 :: a5 :: a6 :: a7 :: a8 :: a9 :: a10 :: a11 :: l).set 11 x = a0 :: a1 :: a2 :: a3 :: a4 :: a5 :: a6 :: a7 :: a8 :: a9 :: a10 :: x :: l := rfl
end
/-! ### heaps -/
/-- a list or a tuple stands there -/
def Sq (H : Hp) (p : Addr) (xs : List V) : Prop := H p = some (.lst xs) ∨ H p = some (.tup xs)
theorem Sq.l {H : Hp} {p : Addr} {xs : List V} (h : H p = some (.lst xs)) : Sq H p xs := .inl h
theorem Sq.t {H : Hp} {p : Addr} {xs : List V} (h : H p = some (.tup xs)) : Sq H p xs := .inr h
theorem Sq.same {H H' : Hp} {p : Addr} {xs : List V} (s : Same H H') (h : Sq H p xs) : Sq H' p xs := by
  rcases h with h | h
  · exact .inl (s _ _ h)
  · exact .inr (s _ _ h)
def rIxQ : R2 := fun x y H Q => ∃ p i v, x = .ref p ∧ y = .int i ∧ (∃ xs, Sq H p xs ∧ atI xs i = some v) ∧ Q v H
def rLenQ : List V → Hp → VK → Prop := fun xs H Q => ∃ p ys, xs = [.ref p] ∧ Sq H p ys ∧ Q (.int ys.length) H
section
variable {X : Cx}
theorem ix_sq : IxR X rIxQ := by
  intro vl sl pins s σ H x y v u Q I rx ry h hs
  obtain ⟨p, i, v', rfl, rfl, ⟨xs, hq, ha⟩, q⟩ := h
  refine ix_seq vl sl pins s σ H _ _ v u Q I rx ry ?_ hs
  rcases hq with hq | hq
  · exact .inl ⟨p, xs, i, v', rfl, rfl, SqL.of hq, ha, q⟩
  · exact .inr (.inl ⟨p, xs, i, v', rfl, rfl, SqT.of hq, ha, q⟩)
theorem call_lenQ : CallR X (.builtin "len") rLenQ := by
  intro pins s σ H xs us Q I r h
  obtain ⟨p, ys, rfl, hq, q⟩ := h
  refine call_len_seq pins s σ H _ us Q I r ⟨p, ys, rfl, ?_, q⟩
  rcases hq with hq | hq
  · exact .inl (SqL.of hq)
  · exact .inr (SqT.of hq)
/-- isinstance with one built-in class -/
def rIsi (K : PySem.W.Frag) : List V → Hp → VK → Prop := fun xs H Q => ∃ x c t b, xs = [x, .ty c] ∧ TyOf K H x t ∧ PySem.W.kitOne K t (.type c) = some b ∧ Q (.bl b) H
theorem call_isi : CallR X (.builtin "isinstance") (rIsi X.K) := by
  intro pins s σ H xs us Q I r h
  obtain ⟨x, c, t, b, rfl, ty, e, q⟩ := h
  cases r with
  | cons r1 r =>
    cases r with
    | cons r2 r =>
      cases r
      cases r2
      exact isinst_ok I r1 ty e fun tk => ⟨.bl b, H, I.kept (t' := tk) (fun _ _ z => z), rfl, q⟩
end
end Pk
namespace Pk
open PySem L2
/-! ### dicts by written keys, tuples taken apart, items -/
theorem dg {H : Hp} {d : Addr} {kvs : List (Key × V)} {k : Key} {v : V} (hd : H d = some (.dK kvs)) (e : valV kvs k = some v) : DGet H d (kV k) (some v) := e ▸ DGet.k hd
theorem dp {H : Hp} {d : Addr} {kvs kvs' : List (Key × V)} {k : Key} {v : V} (hd : H d = some (.dK kvs)) (hl : kvs.length < sizeLine) (e : putK kvs k v = kvs') : DPut H d (kV k) v (upd H d (.dK kvs')) := e ▸ DPut.k hd hl
theorem gtup {K : PySem.W.Frag} {n : Nat} {t : TGs} {a : Addr} {xs : List V} {σ : L2.St} {H : Hp} {R : L2.St → Hp → Prop} (h : H a = some (.tup xs)) (hn : xs.length = n) (k : t xs σ H R) : gTup K n t (.ref a) σ H R := ⟨a, xs, rfl, SqT.of h, hn, k⟩
theorem at_map {α : Type} {f : α → V} {ns : List α} {i : Int} (h0 : 0 ≤ i) (h1 : i < ns.length) : ∃ n, ns[i.toNat]? = some n ∧ atI (ns.map f) i = some (f n) := by
  have hl : i.toNat < ns.length := by omega
  refine ⟨ns[i.toNat], List.getElem?_eq_getElem hl, ?_⟩
  have e : ixN (ns.map f).length i = some i.toNat := by
    unfold ixN
    rw [if_pos h0, if_pos (by rw [List.length_map]; exact h1)]
  unfold atI
  rw [e]
  show (ns.map f)[i.toNat]? = _
  rw [List.getElem?_map, List.getElem?_eq_getElem hl]
  rfl
theorem ix_ok {n : Nat} {i : Int} (h0 : 0 ≤ i) (h1 : i < n) : ixN n i = some i.toNat := by
  unfold ixN
  rw [if_pos h0, if_pos h1]
/-! ### frames: all but two objects stays -/
def Fr (d c : Addr) (H H' : Hp) : Prop := ∀ a o, H a = some o → a ≠ d → a ≠ c → H' a = some o
theorem Fr.refl {d c : Addr} {H : Hp} : Fr d c H H := fun _ _ h _ _ => h
theorem Fr.trans {d c : Addr} {H H1 H2 : Hp} (a : Fr d c H H1) (b : Fr d c H1 H2) : Fr d c H H2 := fun x o h n1 n2 => b x o (a x o h n1 n2) n1 n2
theorem Fr.of {d c : Addr} {H H' : Hp} (s : Same H H') : Fr d c H H' := fun a o h _ _ => s a o h
theorem Same.new {H : Hp} {p : Addr} {o : HO} (h : H p = none) : Same H (upd H p o) := fun b u e => by rw [upd_ne (ne_of_none e h)]; exact e
/-- it stands, and is none of the draws' two -/
def Lv (d c : Addr) (H : Hp) (a : Addr) (o : HO) : Prop := H a = some o ∧ a ≠ d ∧ a ≠ c
theorem Lv.fr {d c : Addr} {H H' : Hp} {a : Addr} {o : HO} (l : Lv d c H a o) (f : Fr d c H H') : Lv d c H' a o := ⟨f a o l.1 l.2.1 l.2.2, l.2⟩
/-! ### the draws -/
def StA (H : Hp) (d c : Addr) (b : Nat) : Prop := ∃ (ns : List Int) (t : Int), ns ≠ [] ∧ ns.length ≤ 63 ∧ 0 ≤ t ∧ t ≤ b ∧ H c = some (.lst (ns.map V.int)) ∧ H d = some (.dK [(Sum.inr "cells", .ref c), (Sum.inr "turn", .int t)])
theorem StA.same {H H' : Hp} {d c : Addr} {b : Nat} (h : StA H d c b) (s : Same H H') : StA H' d c b := by
  obtain ⟨ns, t, h1, h2, h3, h4, h5, h6⟩ := h
  exact ⟨ns, t, h1, h2, h3, h4, s _ _ h5, s _ _ h6⟩
theorem StA.mono {H : Hp} {d c : Addr} {b b' : Nat} (h : StA H d c b) (l : b ≤ b') : StA H d c b' := by
  obtain ⟨ns, t, h1, h2, h3, h4, h5, h6⟩ := h
  exact ⟨ns, t, h1, h2, h3, by omega, h5, h6⟩
theorem StA.ne {H : Hp} {d c : Addr} {b : Nat} (h : StA H d c b) {p : Addr} (hp : H p = none) : p ≠ d ∧ p ≠ c := by
  obtain ⟨ns, t, h1, h2, h3, h4, h5, h6⟩ := h
  exact ⟨(ne_of_none h6 hp).symm, (ne_of_none h5 hp).symm⟩
theorem StA.new {H : Hp} {d c : Addr} {b : Nat} (h : StA H d c b) {p : Addr} {o : HO} (hp : H p = none) : StA (upd H p o) d c b := h.same (Same.new hp)
theorem StA.lv {H : Hp} {d c : Addr} {b : Nat} (h : StA H d c b) {p : Addr} {o : HO} (hp : H p = none) : Lv d c (upd H p o) p o := ⟨upd_same, h.ne hp⟩
theorem Lv.new {d c : Addr} {H : Hp} {a p : Addr} {o o' : HO} (l : Lv d c H a o) (hp : H p = none) : Lv d c (upd H p o') a o := l.fr (.of (Same.new hp))
/-- one of one's own is changed -/
theorem StA.upd {H : Hp} {d c : Addr} {b : Nat} (h : StA H d c b) {p : Addr} {o : HO} (n : p ≠ d ∧ p ≠ c) : StA (L2.upd H p o) d c b := by
  obtain ⟨ns, t, h1, h2, h3, h4, h5, h6⟩ := h
  exact ⟨ns, t, h1, h2, h3, h4, by rw [upd_ne n.2.symm]; exact h5, by rw [upd_ne n.1.symm]; exact h6⟩
theorem Lv.upd {d c : Addr} {H : Hp} {a p : Addr} {o o' : HO} (l : Lv d c H a o) (n : a ≠ p) : Lv d c (L2.upd H p o') a o := ⟨by rw [upd_ne n]; exact l.1, l.2⟩
theorem Lv.set {d c : Addr} {H : Hp} {a : Addr} {o o' : HO} (l : Lv d c H a o) : Lv d c (L2.upd H a o') a o' := ⟨upd_same, l.2⟩
theorem kct : ¬ (("cells" : Str) = "turn") := by decide +kernel
theorem st_turn {a b : V} : valV [((Sum.inr "cells" : Key), a), (Sum.inr "turn", b)] (Sum.inr "turn") = some b := by
  unfold valV
  rw [List.find?_cons_of_neg (by simp [kct]), List.find?_cons_of_pos (by simp)]
  rfl
theorem st_cells {a b : V} : valV [((Sum.inr "cells" : Key), a), (Sum.inr "turn", b)] (Sum.inr "cells") = some a := by
  unfold valV
  rw [List.find?_cons_of_pos (by simp)]
  rfl
theorem st_put {a b v : V} : putK [((Sum.inr "cells" : Key), a), (Sum.inr "turn", b)] (Sum.inr "turn") v = [((Sum.inr "cells" : Key), a), (Sum.inr "turn", v)] := by
  simp [putK, kct]
def spTake : Sp := fun vs H Q _ => ∃ (d c : Addr) (b : Nat) (m : Int), vs = [.ref d, .int m] ∧ StA H d c b ∧ 0 < m ∧ m < 18446744073709551616 ∧ b < 100000000 ∧ ∀ r H', 0 ≤ r → r < m → StA H' d c (b + 1) → Fr d c H H' → Q (.int r) H'
end Pk

namespace Pk
open PySem L2
/-! ### loops -/
def forIt (J : It) (g : TG) (tb : TS) (D : Ends) (σ : L2.St) (H1 : Hp) : Prop := ∃ W : Nat → Nat → L2.St → Hp → Prop, (∃ m, W 0 m σ H1) ∧ ∀ i m σ H, W i m σ H →
  (J.stop i H ∧ D.nx σ H) ∨ (J.go i H ∧ ∃ N : L2.St → Hp → Prop, (∀ σ' H', N σ' H' → ∃ m', m' < m ∧ W (i + 1) m' σ' H') ∧ ∀ x H', J.yld i H x H' → g x σ H' fun σ2 H2 => tb { D with nx := N, ct := N, bk := D.nx } σ2 H2)
def lcIt (J : It) (g : TG) (tt : TT) (te : TE) (vs : List Nat) (σ : L2.St) (H1 : Hp) (Q : VK) : Prop := ∀ D, H1 D = none → ∃ W : Nat → Nat → Hp → Prop, (∃ m, W 0 m (upd H1 D (.lst []))) ∧ ∀ i m H, W i m H →
  (J.stop i H ∧ Q (.ref D) H) ∨ (J.go i H ∧ ∃ Nx : Hp → Prop, (∀ H', Nx H' → ∃ m', m' < m ∧ W (i + 1) m' H') ∧ ∀ x H', J.yld i H x H' → g x (wipe σ vs) H' fun σ2 H2 => wipe σ2 vs = wipe σ vs ∧ tt σ2 H2 fun b H3 =>
    if b = true then te σ2 H3 fun y H4 => ∃ acc, H4 D = some (.lst acc) ∧ acc.length < sizeLine ∧ Nx (upd H4 D (.lst (acc ++ [y]))) else Nx H3)
section
variable {σ : L2.St} {H : Hp} {Q : VK} {D : Ends} {ta : TA} {te tl : TE} {g : TG} {tb : TS} {tt : TT} {vs : List Nat} {K : PySem.W.Frag}
theorem r_for1 : tFor (iRng1 ta) g tb D σ H = ta σ H fun vs H1 => ∃ j : Int, vs = [.int j] ∧ -(2 ^ 62) ≤ j ∧ j < 2 ^ 62 ∧ forIt (Itr 0 j.toNat) g tb D σ H1 := rfl
theorem r_for2 : tFor (iRng2 ta) g tb D σ H = ta σ H fun vs H1 => ∃ i j : Int, vs = [.int i, .int j] ∧ (-(2 ^ 62) ≤ i ∧ i < 2 ^ 62 ∧ -(2 ^ 62) ≤ j ∧ j < 2 ^ 62) ∧ forIt (Itr i (j - i).toNat) g tb D σ H1 := rfl
theorem r_forL : tFor (iList K tl) g tb D σ H = tl σ H fun x H1 => ∃ a, x = .ref a ∧ (∃ xs, SqL K H1 a xs) ∧ forIt (Itl K a) g tb D σ H1 := rfl
theorem r_forT : tFor (iTup K tl) g tb D σ H = tl σ H fun x H1 => ∃ a, x = .ref a ∧ (∃ xs, SqT K H1 a xs) ∧ forIt (Itt K a) g tb D σ H1 := rfl
theorem r_lc1 : tLc (iRng1 ta) g tt te vs σ H Q = ta σ H fun ws H1 => ∃ j : Int, ws = [.int j] ∧ -(2 ^ 62) ≤ j ∧ j < 2 ^ 62 ∧ lcIt (Itr 0 j.toNat) g tt te vs σ H1 Q := rfl
theorem r_lcL : tLc (iList K tl) g tt te vs σ H Q = tl σ H fun x H1 => ∃ a, x = .ref a ∧ (∃ xs, SqL K H1 a xs) ∧ lcIt (Itl K a) g tt te vs σ H1 Q := rfl
theorem r_lcT : tLc (iTup K tl) g tt te vs σ H Q = tl σ H fun x H1 => ∃ a, x = .ref a ∧ (∃ xs, SqT K H1 a xs) ∧ lcIt (Itt K a) g tt te vs σ H1 Q := rfl
end
theorem lc_r {lo : Int} {n : Nat} {g : TG} {tt : TT} {te : TE} {vs : List Nat} {σ : L2.St} {H1 : Hp} {Q : VK} (h : ∀ D, H1 D = none → ∃ Pv : Nat → Hp → Prop, Pv 0 (upd H1 D (.lst [])) ∧
    (∀ i H, i < n → Pv i H → g (.int (lo + i)) (wipe σ vs) H fun σ2 H2 => wipe σ2 vs = wipe σ vs ∧ tt σ2 H2 fun b H3 =>
      if b = true then te σ2 H3 fun y H4 => ∃ acc, H4 D = some (.lst acc) ∧ acc.length < sizeLine ∧ Pv (i + 1) (upd H4 D (.lst (acc ++ [y]))) else Pv (i + 1) H3) ∧ ∀ H, Pv n H → Q (.ref D) H) : lcIt (Itr lo n) g tt te vs σ H1 Q := fun D hD => by
  obtain ⟨Pv, h0, hs, hd⟩ := h D hD
  exact lc_range (Qd := fun H => Q (.ref D) H) Pv h0 hs hd
theorem lc_l {K : PySem.W.Frag} {a : Addr} {xs : List V} {g : TG} {tt : TT} {te : TE} {vs : List Nat} {σ : L2.St} {H1 : Hp} {Q : VK} (h : ∀ D, H1 D = none → ∃ Pv : Nat → Hp → Prop, Pv 0 (upd H1 D (.lst [])) ∧ (∀ i H, i ≤ xs.length → Pv i H → SqL K H a xs) ∧
    (∀ i x H, xs[i]? = some x → Pv i H → g x (wipe σ vs) H fun σ2 H2 => wipe σ2 vs = wipe σ vs ∧ tt σ2 H2 fun b H3 =>
      if b = true then te σ2 H3 fun y H4 => ∃ acc, H4 D = some (.lst acc) ∧ acc.length < sizeLine ∧ Pv (i + 1) (upd H4 D (.lst (acc ++ [y]))) else Pv (i + 1) H3) ∧ ∀ H, Pv xs.length H → Q (.ref D) H) : lcIt (Itl K a) g tt te vs σ H1 Q := fun D hD => by
  obtain ⟨Pv, h0, hl, hs, hd⟩ := h D hD
  exact lc_list (Qd := fun H => Q (.ref D) H) Pv h0 hl hs hd
/-! ### a test's reading grows with what is wanted -/
def MonE (t : TE) : Prop := ∀ σ H Q Q', (∀ v H1, Q v H1 → Q' v H1) → t σ H Q → t σ H Q'
def MonR (r : R2) : Prop := ∀ x y H Q Q', (∀ v H1, Q v H1 → Q' v H1) → r x y H Q → r x y H Q'
def MonT (t : TT) : Prop := ∀ σ H Q Q', (∀ v H1, Q v H1 → Q' v H1) → t σ H Q → t σ H Q'
/-! ### numbers by sevens of bits -/
def zig (n : Int) : Nat := if 0 ≤ n then (2 * n).toNat else (-2 * n - 1).toNat
def nb (u : Nat) : List Int := if u < 128 then [(u : Int)] else (128 + ((u % 128 : Nat) : Int)) :: nb (u / 128)
termination_by u
decreasing_by omega
theorem nb_ge {u : Nat} (h : 128 ≤ u) : nb u = (128 + ((u % 128 : Nat) : Int)) :: nb (u / 128) := by rw [nb, if_neg (by omega)]
/-- the bytes of a number within the promise's bound -/
def Small (n : Int) : Prop := zig n < 128 ^ 60
def spNb : Sp := fun vs H Q _ => ∃ n : Int, vs = [.int n] ∧ Small n ∧ ∀ p H', Same H H' → H p = none → H' p = some (.lst ((nb (zig n)).map V.int)) → Q (.ref p) H'
end Pk
namespace Pk
open PySem L2
theorem m1 (k : Nat) : (-1 + ((k : Int) + 1)).toNat = k := by omega
theorem len1 {v : V} : [v].length ≤ sizeLine := by show 1 ≤ sizeLine; decide
theorem len2 {v w : V} : [v, w].length ≤ sizeLine := by show 2 ≤ sizeLine; decide
theorem Same.upd {H H' : Hp} {p : Addr} {o : HO} (s : Same H H') (h : H p = none) : Same H (L2.upd H' p o) := fun a u e => by
  rw [upd_ne (ne_of_none e h)]
  exact s a u e
/-- a comprehension over a list whose element is a function of the item alone -/
theorem lc_map {K : PySem.W.Frag} {a : Addr} {xs : List V} {i : Nat} {te : TE} {vs : List Nat} {σ : L2.St} {H1 : Hp} {Q : VK} (f : V → V) (hq : H1 a = some (.lst xs)) (hl : xs.length < sizeLine)
    (hw : ∀ x, wipe ((wipe σ vs).set i (some x)) vs = wipe σ vs) (he : ∀ x H' Q', x ∈ xs → Q' (f x) H' → te ((wipe σ vs).set i (some x)) H' Q')
    (k : ∀ D H', H1 D = none → Same H1 H' → H' D = some (.lst (xs.map f)) → Q (.ref D) H') : lcIt (Itl K a) (gName i) tYes te vs σ H1 Q := by
  refine lc_l (xs := xs) fun D hD => ⟨fun j H => Same H1 H ∧ H D = some (.lst ((xs.take j).map f)), ⟨Same.new hD, upd_same⟩, fun j H _ h => SqL.of (h.1 _ _ hq), fun j x H hx h => ?_, fun H h => ?_⟩
  · have hj : j < xs.length := (List.getElem?_eq_some_iff.mp hx).1
    refine ⟨hw x, ?_⟩
    rw [r_yes, if_pos rfl]
    refine he x H _ (List.mem_of_getElem? hx) ⟨_, h.2, ?_, Same.upd h.1 hD, ?_⟩
    · rw [List.length_map, List.length_take]; omega
    · rw [upd_same, List.take_add_one, hx, List.map_append]
      rfl
  · refine k D H hD h.1 ?_
    rw [h.2, List.take_length]
/-! ### a number's bytes read back -/
def hb (v : Nat) : Int := if v < 128 then (v : Int) else 128 + ((v % 128 : Nat) : Int)
theorem pow7 (k : Nat) : (2 : Int) ^ (7 * k) = ((128 ^ k : Nat) : Int) := by
  rw [Int.pow_mul]
  simp
def spByte : Sp := fun vs H Q _ => ∃ (r : Addr) (pre post : List Int) (x : Int), vs = [.ref r, .int pre.length] ∧ Sq H r ((pre ++ x :: post).map V.int) ∧ ∀ p H', Same H H' → H p = none → H' p = some (.tup [.int x, .int (pre.length + 1)]) → Q (.ref p) H'
def spTakeN : Sp := fun vs H Q _ => ∃ (r : Addr) (pre post : List Int) (n : Int), vs = [.ref r, .int pre.length] ∧ Sq H r ((pre ++ (nb (zig n) ++ post)).map V.int) ∧ (nb (zig n)).length ≤ 9 ∧ ∀ p H', Same H H' → H p = none → H' p = some (.tup [.int n, .int (pre.length + (nb (zig n)).length)]) → Q (.ref p) H'
/-- between two turns of the reading loop -/
structure Rdn (xs : List Int) (at0 : Nat) (u : Nat) (fo by_ be : Int) (j v low : Nat) (pre post : List Int) : Prop where
  e : xs = pre ++ (nb v ++ post)
  pl : pre.length = at0 + j
  uu : u = low + 128 ^ j * v
  ll : low < 128 ^ j
  fo : fo = ((low + (v % 128) * 128 ^ j : Nat) : Int)
  by_ : by_ = hb v
  be : be = ((at0 + j + 1 : Nat) : Int)
  ln : j + (nb v).length = (nb u).length
  lo : j = 0 ∨ 1 ≤ v
theorem Rdn.start {pre post : List Int} {u : Nat} : Rdn (pre ++ (nb u ++ post)) pre.length u ((u % 128 : Nat) : Int) (hb u) ((pre.length : Int) + 1) 0 u 0 pre post :=
  ⟨rfl, rfl, by simp, by simp, by simp, rfl, by simp, by simp, .inl rfl⟩
theorem Rdn.step {xs : List Int} {at0 u : Nat} {fo by_ be : Int} {j v low : Nat} {pre post : List Int} (R : Rdn xs at0 u fo by_ be j v low pre post) (hv : 128 ≤ v) :
    Rdn xs at0 u (fo + ((v / 128 % 128 : Nat) : Int) * 2 ^ (7 * (j + 1))) (hb (v / 128)) (be + 1) (j + 1) (v / 128) (low + (v % 128) * 128 ^ j) (pre ++ [hb v]) post := by
  obtain ⟨e, pl, uu, ll, hf, hby, hbe, ln, lo⟩ := R
  have p1 : 128 ^ (j + 1) = 128 ^ j * 128 := Nat.pow_succ ..
  have hb1 : hb v = 128 + ((v % 128 : Nat) : Int) := by unfold hb; rw [if_neg (by omega)]
  refine ⟨?_, ?_, ?_, ?_, ?_, rfl, by omega, ?_, .inr (by omega)⟩
  · rw [e, nb_ge hv, hb1]; simp
  · rw [List.length_append, pl]; rfl
  · have : v = 128 * (v / 128) + v % 128 := (Nat.div_add_mod v 128).symm
    rw [uu, p1]
    calc low + 128 ^ j * v = low + 128 ^ j * (128 * (v / 128) + v % 128) := by rw [← this]
      _ = low + v % 128 * 128 ^ j + 128 ^ j * 128 * (v / 128) := by rw [Nat.mul_add, Nat.mul_comm (v % 128), ← Nat.mul_assoc]; omega
  · rw [p1]
    have : v % 128 * 128 ^ j ≤ 127 * 128 ^ j := Nat.mul_le_mul_right _ (by omega)
    omega
  · rw [hf, pow7]
    push_cast
    rfl
  · rw [← ln, nb_ge hv, List.length_cons]; omega
/-! ### a def of the text: its object, how its arguments bind, its name -/
structure Df (K : PySem.W.Frag) (mg : Str → Option Value) (x : Str) (st : Stmt) (ps : List Str) (f : Addr) (fd : FuncData) : Prop where
  F : Fun K x x st f fd
  b : Binds K fd ps []
  m : mg x = some (.ref f)
theorem df_mk {K : PySem.W.Frag} {h : Heap} {mg : Str → Option Value} {x : Str} {st : Stmt} {ps : List Str} {f : Addr} {oc : Value} {od an : Option Addr} {osl : Array (Option Value)} {kV doc pm cdv ct : Value} (X : K.In h) (G : h.Ns mainGlobals mg)
    (a : PySem.W.nsIn K mainGlobals x = some (some (.ref f))) (l : K.lookup f = some ⟨oc, od, .func (PySem.W.fnOf x x (defArgs st) (defBody st) (defScope st) .none kV doc pm an cdv ct), osl⟩)
    (c : PySem.W.codeIn K cdv x = true) (k : PySem.W.keepIn K (.ref f) = true)
    (hb : ∀ (kV doc pm : Value) (an : Option Addr) (cdv ct : Value) (us : List Value), us.length = ps.length → PySem.bindArgs (PySem.W.fnOf x x (defArgs st) (defBody st) (defScope st) .none kV doc pm an cdv ct) ⟨us, []⟩ = pure (ps.zip us)) :
    Df K mg x st ps f (PySem.W.fnOf x x (defArgs st) (defBody st) (defScope st) .none kV doc pm an cdv ct) :=
  ⟨fun_mk l c k, (fun_mk l c k).binds hb, PySem.W.mg_of X G a⟩
theorem w_nil {σ : L2.St} : wipe σ [] = σ := rfl
theorem w_cons {σ : L2.St} {i : Nat} {r : List Nat} : wipe σ (i :: r) = (wipe σ r).set i none := by first | rfl | (unfold wipe; rfl)
theorem m_nil : ([] : List (Str × Nat)).map (fun x => x.2) = [] := rfl
theorem m_cons {x : Str × Nat} {r : List (Str × Nat)} : (x :: r).map (fun x => x.2) = x.2 :: r.map (fun x => x.2) := rfl
end Pk

namespace Pk
open PySem PySem.Spec PyProof.Rows L2
theorem tiAt {h h' : Heap} {a t : Addr} {i : Nat} (x : IsTupIter h a t i) (e : ∀ o, h.get? a = some o → h'.get? a = some o) : IsTupIter h' a t i := let ⟨o, g, r⟩ := x; ⟨o, e o g, r⟩
section
variable {pr : Program} {w : World} {A : Around} {E : Value → Shared → Prop} {s : Shared}
/-- one more item of a tuple's iterator -/
theorem tn_item {it t : Addr} {i : Nat} {its : Array Value} {x : Value} {Q : Value → Shared → Prop} (hi : IsTupIter s.heap it t i) (ht : IsTup s.heap t its) (hx : its[i]? = some x)
    (k : ∀ h', IsTupIter h' it t (i + 1) → Heap.SameBut it s.heap h' → Q x { s with heap := h' }) : wpAny (model pr w) A (Builtin.SmallTypes.nextOf (.ref it)) Q E s := by
  obtain ⟨ob, g1, g2, g3⟩ := id hi; obtain ⟨ot, g4, _, nn, g5⟩ := ht
  unfold Builtin.SmallTypes.nextOf
  refine wpAny_bind (wpAny_callSpecial?_slot (name := Str.ofString "__next__") hi.typeIs slot_tupleiter_next (wpAny_call_entry slot_tupleiter_next hi.typeIs entry_tupleiter_next ?_ (args_tupleiter_next _)))
  show wpAny _ _ (field (.ref it) 0 >>= _) _ _ s; refine wpAny_bind (wpAny_field g1 g3 (x := .ref t) rfl ?_)
  show wpAny _ _ (if (Value.ref t == Value.none) = true then _ else _) _ _ s; rw [if_neg (show ¬ ((Value.ref t == Value.none) = true) from Bool.false_ne_true)]
  show wpAny _ _ (field (.ref it) 1 >>= _) _ _ s; refine wpAny_bind (wpAny_field g1 g3 (x := .int i 0) rfl ?_)
  show wpAny _ _ (seqItems? (.ref t) >>= _) _ _ s; refine wpAny_bind (wpAny_seqItems g4 g5 ?_); simp only [Int.toNat_natCast, hx]
  refine wpAny_bind (wpAny_setField g1 g3 (by simp) (wpAny_pure ⟨x, rfl, wpAny_pure (k _ ?_ (Heap.SameBut.update ..))⟩))
  exact ⟨_, Heap.get?_update_self _ g1 (Obj.isFreed_of_fields (Obj.data_mapFields g3 _)), (Obj.cls_mapFields ..).trans g2, by rw [Obj.data_mapFields g3]; simp [rawInt]⟩
/-- a tuple's iterator at its end -/
theorem tn_end {it t : Addr} {i : Nat} {its : Array Value} {Q : Value → Shared → Prop} (hh : A.handled = none) (hi : IsTupIter s.heap it t i) (ht : IsTup s.heap t its) (hx : its[i]? = none)
    (k : ∀ h' e, Heap.ExtBut it s.heap h' → (∃ o, h'.get? e = some o ∧ o.cls = .type "StopIteration") → E (.ref e) { s with heap := h' }) : wpAny (model pr w) A (Builtin.SmallTypes.nextOf (.ref it)) Q E s := by
  obtain ⟨ob, g1, g2, g3⟩ := id hi; obtain ⟨ot, g4, _, nn, g5⟩ := ht
  unfold Builtin.SmallTypes.nextOf
  refine wpAny_bind (wpAny_callSpecial?_slot (name := Str.ofString "__next__") hi.typeIs slot_tupleiter_next (wpAny_call_entry slot_tupleiter_next hi.typeIs entry_tupleiter_next ?_ (args_tupleiter_next _)))
  show wpAny _ _ (field (.ref it) 0 >>= _) _ _ s; refine wpAny_bind (wpAny_field g1 g3 (x := .ref t) rfl ?_)
  show wpAny _ _ (if (Value.ref t == Value.none) = true then _ else _) _ _ s; rw [if_neg (show ¬ ((Value.ref t == Value.none) = true) from Bool.false_ne_true)]
  show wpAny _ _ (field (.ref it) 1 >>= _) _ _ s; refine wpAny_bind (wpAny_field g1 g3 (x := .int i 0) rfl ?_)
  show wpAny _ _ (seqItems? (.ref t) >>= _) _ _ s; refine wpAny_bind (wpAny_seqItems g4 g5 ?_); simp only [Int.toNat_natCast, hx]
  refine wpAny_bind (wpAny_rule (wpAny_bind (wpAny_setField g1 g3 (by simp) ?_))); show wpAny _ _ (newExc (.type "StopIteration") [] >>= _) _ _ _
  refine wpAny_bind ?_; simp only [newExc, newTuple]; refine wpAny_bind (wpAny_newObj_type ?_ (by size_fits))
  refine wpAny_bind (m := firstArgMember _ _) (wpAny_of_eq (a := Value.none) (by first | rfl | (simp only [firstArgMember]; rfl)) ?_); refine wpAny_newObj_type ?_ (by size_fits)
  simp only [raiseNew]; refine wpAny_bind (wpAny_handled ?_); first | rw [show A.in1.handled = none from hh] | rw [hh]
  refine wpAny_bind (wpAny_pure (wpAny_throw ?_)); exact k _ _ (((Heap.SameBut.update ..).extBut.push _).push _) ⟨_, Heap.get?_push_size _ rfl, rfl⟩
/-- zip over two tuples: one more pair -/
theorem zt_item {z TI TO i1 i2 l1 l2 : Addr} {k1 k2 : Nat} {xs ys : Array Value} {x y a b : Value} {Q : Option Value → Shared → Prop} (D : ZipApart z TI TO i1 i2 l1 l2) (hz : IsZip s.heap z TI TO .none) (hTI : IsPair s.heap TI (.ref i1) (.ref i2)) (hTO : IsPair s.heap TO a b)
    (h1 : IsTupIter s.heap i1 l1 k1) (h2 : IsTupIter s.heap i2 l2 k2) (t1 : IsTup s.heap l1 xs) (t2 : IsTup s.heap l2 ys) (hx : xs[k1]? = some x) (hy : ys[k2]? = some y)
    (k : ∀ h', IsZip h' z TI TO (rawInt s.heap.objs.size) → IsPair h' TO x y → IsTupIter h' i1 l1 (k1 + 1) → IsTupIter h' i2 l2 (k2 + 1) → IsPair h' s.heap.objs.size x y → h'.objs.size = s.heap.objs.size + 1 →
      (∀ c o, c ≠ z → c ≠ TO → c ≠ i1 → c ≠ i2 → s.heap.get? c = some o → h'.get? c = some o) → Q (some (.ref s.heap.objs.size)) { s with heap := h' }) : wpAny (model pr w) A (pyNext (.ref z)) Q E s := by
  have ty : s.TypeIs (.ref z) "zip" := ⟨_, hz, rfl⟩
  unfold pyNext
  refine wpAny_bind (wpAny_attempt (wpAny_callSpecial?_slot (name := Str.ofString "__next__") ty F.slot_zip_next (wpAny_call_entry F.slot_zip_next ty F.entry_zip_next ?_ (F.args_zip_next_1 _))))
  show wpAny _ _ (field (.ref z) 2 >>= _) _ _ _; refine wpAny_bind (wpAny_field hz rfl (x := .bool false) rfl ?_)
  show wpAny _ _ (field (.ref z) 3 >>= _) _ _ _; refine wpAny_bind (wpAny_field hz rfl (x := .ref TI) rfl ?_); refine wpAny_bind (wpAny_seqItems hTI rfl ?_)
  show wpAny _ _ (Builtin.SmallTypes.ownedTupleIsFree (.ref z) >>= _) _ _ _; refine wpAny_bind ?_; unfold Builtin.SmallTypes.ownedTupleIsFree
  refine wpAny_bind (wpAny_field hz rfl (x := .none) rfl (wpAny_pure ?_)); simp only [if_true]; refine wpAny_bind (wpAny_rule ?_)
  refine wpAny_bind (wpAny_field hz rfl (x := .ref TO) rfl ?_); refine wpAny_bind (wpAny_setField_rec hz (by simp) fun ha za sa => ?_)
  replace za : IsZip ha z TI TO .ellipsis := za
  refine wpAny_bind ?_; simp only [List.zipIdx_cons, List.zipIdx_nil, List.forIn_cons, List.forIn_nil]
  -- the first one's item goes into the pair
  refine wpAny_bind (wpAny_bind (wpAny_onRaise ?_)); show wpAny _ _ (Builtin.SmallTypes.nextOf (.ref i1) >>= _) _ _ _
  refine wpAny_bind (tn_item (h1.extBut sa.extBut D.i1z) (t1.extBut sa.extBut D.l1z) hx fun hb1 ib sb => wpAny_pure ?_)
  have pb : IsPair hb1 TO a b := sb.extBut _ _ D.TOi1 (sa.extBut _ _ D.TOz hTO)
  refine wpAny_bind (wpAny_seqItems pb rfl ?_); refine wpAny_bind (wpAny_updateSeq_pair pb fun hc pc sc => ?_)
  replace pc : IsPair hc TO x b := pc
  refine wpAny_bind (wpAny_letGo (wpAny_pure ?_))
  -- the second one's
  refine wpAny_bind (wpAny_bind (wpAny_onRaise ?_)); show wpAny _ _ (Builtin.SmallTypes.nextOf (.ref i2) >>= _) _ _ _
  refine wpAny_bind (tn_item (((h2.extBut sa.extBut D.i2z).extBut sb.extBut D.i12.symm).extBut sc.extBut D.TOi2.symm) (((t2.extBut sa.extBut D.l2z).extBut sb.extBut D.l2i1).extBut sc.extBut D.l2TO) hy fun hd1 id1 sd => wpAny_pure ?_)
  have pd : IsPair hd1 TO x b := sd.extBut _ _ D.TOi2 pc
  refine wpAny_bind (wpAny_seqItems pd rfl ?_); refine wpAny_bind (wpAny_updateSeq_pair pd fun hf pf sf => ?_)
  replace pf : IsPair hf TO x y := pf
  refine wpAny_bind (wpAny_letGo (wpAny_pure (wpAny_pure ?_)))
  -- a new pair is handed out
  refine wpAny_bind (wpAny_seqItems pf rfl ?_); refine wpAny_bind (wpAny_newTuple ?_)
  have sz : hf.objs.size = s.heap.objs.size := by rw [sf.1, sd.1, sc.1, sb.1, sa.1]
  have zf : IsZip hf z TI TO .ellipsis := sf.extBut _ _ D.TOz.symm (sd.extBut _ _ D.i2z.symm (sc.extBut _ _ D.TOz.symm (sb.extBut _ _ D.i1z.symm za)))
  have kf : ∀ c o, c ≠ z → c ≠ TO → c ≠ i1 → c ≠ i2 → s.heap.get? c = some o → hf.get? c = some o := fun c o c1 c2 c3 c4 e => sf.extBut _ _ c2 (sd.extBut _ _ c4 (sc.extBut _ _ c2 (sb.extBut _ _ c3 (sa.extBut _ _ c1 e))))
  have if1 : IsTupIter hf i1 l1 (k1 + 1) := ((ib.extBut sc.extBut D.TOi1.symm).extBut sd.extBut D.i12).extBut sf.extBut D.TOi1.symm
  have if2 : IsTupIter hf i2 l2 (k2 + 1) := id1.extBut sf.extBut D.TOi2.symm
  have zl : z < hf.objs.size := Heap.lt_size zf
  show wpAny _ _ (Builtin.SmallTypes.ownedTupleHandOut (.ref z) (.ref hf.objs.size) >>= _) _ _ _; refine wpAny_bind ?_; unfold Builtin.SmallTypes.ownedTupleHandOut
  have zg : IsZip (hf.push { cls := .type "tuple", data := .seq #[x, y] }) z TI TO .ellipsis := Heap.get?_push_of_some _ zf
  refine wpAny_bind (wpAny_setField_rec zg (by simp) fun hm zm sm => ?_)
  replace zm : IsZip hm z TI TO (rawInt hf.objs.size) := zm
  refine wpAny_setField_rec zm (by simp) fun hn zn sn => ?_
  replace zn : IsZip hn z TI TO (rawInt hf.objs.size) := zn
  have up : ∀ c o, c ≠ z → hf.get? c = some o → hn.get? c = some o := fun c o c1 e => sn.extBut _ _ c1 (sm.extBut _ _ c1 (Heap.get?_push_of_some _ e))
  have pn : IsPair hn hf.objs.size x y := sn.extBut _ _ (Nat.ne_of_gt zl) (sm.extBut _ _ (Nat.ne_of_gt zl) (Heap.get?_push_size _ rfl))
  have sz2 : hn.objs.size = hf.objs.size + 1 := by rw [sn.1, sm.1, Heap.size_push]
  rw [sz] at zn pn sz2
  refine wpAny_pure ⟨_, rfl, wpAny_pure ?_⟩
  show Q (some (.ref hf.objs.size)) _
  rw [sz]
  exact k hn zn (up _ _ D.TOz pf) (tiAt if1 fun o e => up _ o D.i1z e) (tiAt if2 fun o e => up _ o D.i2z e) pn sz2 fun c o c1 c2 c3 c4 e => up c o c1 (kf c o c1 c2 c3 c4 e)
/-- both at their end -/
theorem zt_end {z TI TO i1 i2 l1 l2 : Addr} {k1 k2 : Nat} {xs ys : Array Value} {a b : Value} {Q : Option Value → Shared → Prop} (hh : A.handled = none) (D : ZipApart z TI TO i1 i2 l1 l2) (hz : IsZip s.heap z TI TO .none) (hTI : IsPair s.heap TI (.ref i1) (.ref i2)) (hTO : IsPair s.heap TO a b)
    (h1 : IsTupIter s.heap i1 l1 k1) (h2 : IsTupIter s.heap i2 l2 k2) (t1 : IsTup s.heap l1 xs) (t2 : IsTup s.heap l2 ys) (hx : xs[k1]? = none)
    (k : ∀ h', (∀ c o, c ≠ z → c ≠ TO → c ≠ i1 → c ≠ i2 → s.heap.get? c = some o → h'.get? c = some o) → Q none { s with heap := h' }) : wpAny (model pr w) A (pyNext (.ref z)) Q E s := by
  have ty : s.TypeIs (.ref z) "zip" := ⟨_, hz, rfl⟩
  unfold pyNext
  refine wpAny_bind (wpAny_attempt (wpAny_callSpecial?_slot (name := Str.ofString "__next__") ty F.slot_zip_next (wpAny_call_entry F.slot_zip_next ty F.entry_zip_next ?_ (F.args_zip_next_1 _))))
  show wpAny _ _ (field (.ref z) 2 >>= _) _ _ _; refine wpAny_bind (wpAny_field hz rfl (x := .bool false) rfl ?_)
  show wpAny _ _ (field (.ref z) 3 >>= _) _ _ _; refine wpAny_bind (wpAny_field hz rfl (x := .ref TI) rfl ?_); refine wpAny_bind (wpAny_seqItems hTI rfl ?_)
  show wpAny _ _ (Builtin.SmallTypes.ownedTupleIsFree (.ref z) >>= _) _ _ _; refine wpAny_bind ?_; unfold Builtin.SmallTypes.ownedTupleIsFree
  refine wpAny_bind (wpAny_field hz rfl (x := .none) rfl (wpAny_pure ?_)); simp only [if_true]; refine wpAny_bind (wpAny_rule ?_)
  refine wpAny_bind (wpAny_field hz rfl (x := .ref TO) rfl ?_); refine wpAny_bind (wpAny_setField_rec hz (by simp) fun ha za sa => ?_)
  replace za : IsZip ha z TI TO .ellipsis := za
  refine wpAny_bind ?_; simp only [List.zipIdx_cons, List.zipIdx_nil, List.forIn_cons, List.forIn_nil]
  refine wpAny_bind (wpAny_bind (wpAny_onRaise ?_)); show wpAny _ _ (Builtin.SmallTypes.nextOf (.ref i1) >>= _) _ _ _
  refine wpAny_bind (tn_end hh (h1.extBut sa.extBut D.i1z) (t1.extBut sa.extBut D.l1z) hx fun hb1 e sb he => ?_)
  obtain ⟨oe, ge, ce⟩ := he
  have zb : IsZip hb1 z TI TO .ellipsis := sb _ _ D.i1z.symm za
  have nez : e ≠ z := fun q => by subst q; rw [zb] at ge; cases ge; simp at ce
  refine wpAny_setField_rec zb (by simp) fun hc _ sc => ?_
  refine wpAny_bind (wpAny_isInstance (T := "StopIteration") (b := true) ⟨oe, sc.extBut _ _ nez ge, ce⟩ isSubtype_stop ?_)
  exact wpAny_pure (k _ fun c o c1 _ c3 _ q => sc.extBut _ _ c1 (sb _ _ c3 (sa.extBut _ _ c1 q)))
end
end Pk

namespace Pk
open PySem PySem.Spec PyProof.Rows L2
abbrev zu1 (h : Heap) (p : Addr) : Heap := h.push { cls := .type "tuple_iterator", data := .fields #[.ref p, .int 0 0] }
abbrev zu2 (h : Heap) (p q : Addr) : Heap := (zu1 h p).push { cls := .type "tuple_iterator", data := .fields #[.ref q, .int 0 0] }
abbrev zu3 (h : Heap) (p q : Addr) : Heap := (zu2 h p q).push { cls := .type "tuple", data := .seq #[.ref h.objs.size, .ref (zu1 h p).objs.size] }
abbrev zu4 (h : Heap) (p q : Addr) : Heap := (zu3 h p q).push { cls := .type "tuple", data := .seq #[.none, .none] }
abbrev zu5 (h : Heap) (p q : Addr) : Heap := (zu4 h p q).push { cls := .type "zip", data := .fields #[.none, .bool false, .bool false, .ref (zu2 h p q).objs.size, .ref (zu3 h p q).objs.size] }
theorem zu_new (p q : Addr) (xs ys : Array Value) : Meets (Builtin.«zip.__new__» ⟨[.type "zip", .ref p, .ref q], []⟩) (fun _ R s => IsTup s.heap p xs ∧ IsTup s.heap q ys ∧ R (.ok (.ret (.ref (zu4 s.heap p q).objs.size))) { s with heap := zu5 s.heap p q }) :=
  .of_wp fun prog w A R s h => by
    obtain ⟨hp, g, d, tk, os⟩ := s; obtain ⟨h1, h2, h⟩ := h
    have hsub := sub_zip
    have hA : IsTup (Shared.heap ⟨hp, g, d, tk, os⟩) p xs := h1
    have hB : IsTup (Shared.heap ⟨hp.push { cls := .type "tuple_iterator", data := .fields #[.ref p, .int 0 0] }, g, d, tk, os⟩) q ys := IsTup.push h2 _
    wp_walk using iter_tuple hA, iter_tuple hB
    exact ⟨_, rfl, h⟩
section
variable {pr : Program} {w : World} {A : Around} {E : Value → Shared → Prop} {s : Shared}
theorem zu_call {p q : Addr} {xs ys : Array Value} {Q : Value → Shared → Prop} (h1 : IsTup s.heap p xs) (h2 : IsTup s.heap q ys)
    (k : ∀ h', IsZip h' (s.heap.objs.size + 4) (s.heap.objs.size + 2) (s.heap.objs.size + 3) .none → IsPair h' (s.heap.objs.size + 2) (.ref s.heap.objs.size) (.ref (s.heap.objs.size + 1)) → IsPair h' (s.heap.objs.size + 3) .none .none →
      IsTupIter h' s.heap.objs.size p 0 → IsTupIter h' (s.heap.objs.size + 1) q 0 → (∀ c o, s.heap.get? c = some o → h'.get? c = some o) → Q (.ref (s.heap.objs.size + 4)) { s with heap := h' }) : wpAny (model pr w) A (call (.type "zip") [.ref p, .ref q]) Q E s := by
  refine callType_new F.called_zip (by decide) (F.typeCall_zip_2 _ _) (F.newCall_zip_2 _ _) (fun o => F.args_object_init_3 o _ _) F.entry_zip_new (zu_new p q xs ys) ⟨h1, h2, ?_⟩
  have z1 : (zu1 s.heap p).objs.size = s.heap.objs.size + 1 := Heap.size_push ..
  have z2 : (zu2 s.heap p q).objs.size = s.heap.objs.size + 2 := by rw [Heap.size_push, z1]
  have z3 : (zu3 s.heap p q).objs.size = s.heap.objs.size + 3 := by rw [Heap.size_push, z2]
  have z4 : (zu4 s.heap p q).objs.size = s.heap.objs.size + 4 := by rw [Heap.size_push, z3]
  have k5 : ∀ {c o}, (zu4 s.heap p q).get? c = some o → (zu5 s.heap p q).get? c = some o := fun e => Heap.get?_push_of_some _ e
  have k4 : ∀ {c o}, (zu3 s.heap p q).get? c = some o → (zu5 s.heap p q).get? c = some o := fun e => k5 (Heap.get?_push_of_some _ e)
  have k3 : ∀ {c o}, (zu2 s.heap p q).get? c = some o → (zu5 s.heap p q).get? c = some o := fun e => k4 (Heap.get?_push_of_some _ e)
  have k2 : ∀ {c o}, (zu1 s.heap p).get? c = some o → (zu5 s.heap p q).get? c = some o := fun e => k3 (Heap.get?_push_of_some _ e)
  have g5 : (zu5 s.heap p q).get? (zu4 s.heap p q).objs.size = some _ := Heap.get?_push_size _ rfl
  have g4 : (zu5 s.heap p q).get? (zu3 s.heap p q).objs.size = some _ := k5 (Heap.get?_push_size _ rfl)
  have g3 : (zu5 s.heap p q).get? (zu2 s.heap p q).objs.size = some _ := k4 (Heap.get?_push_size _ rfl)
  have g2 : (zu5 s.heap p q).get? (zu1 s.heap p).objs.size = some _ := k3 (Heap.get?_push_size _ rfl)
  have g1 : (zu5 s.heap p q).get? s.heap.objs.size = some _ := k2 (Heap.get?_push_size _ rfl)
  show _ ∧ _
  rw [z2, z3, z4] at g5; rw [z1, z2] at g3; rw [z3] at g4; rw [z1] at g2; rw [z4]
  exact ⟨⟨_, g5, rfl⟩, k _ g5 g3 g4 ⟨_, g1, rfl, rfl⟩ ⟨_, g2, rfl, rfl⟩ fun c o e => k2 (Heap.get?_push_of_some _ e)⟩
end
/-- zip over two tuples, by turns -/
def ItzT (K : PySem.W.Frag) (a b : Addr) : It :=
  ⟨fun i H => ∃ (xs ys : List V) (x y : V), SqT K H a xs ∧ SqT K H b ys ∧ xs[i]? = some x ∧ ys[i]? = some y,
    fun i H v H' => ∃ T x y, v = .ref T ∧ H T = none ∧ H' = upd H T (.tup [x, y]) ∧ (∀ xs, SqT K H a xs → xs[i]? = some x) ∧ ∀ ys, SqT K H b ys → ys[i]? = some y,
    fun i H => ∃ xs ys : List V, SqT K H a xs ∧ SqT K H b ys ∧ xs.length ≤ i⟩
theorem turn_zipT {P : Program} {w : World} {K : PySem.W.Frag} {elts : List Expr} {kk : Nat} {tpos : Pos} {a b z TI TO i1 i2 : Addr} (D : ZipApart z TI TO i1 i2 a b) :
    Turn P w K (.Tuple elts kk tpos) (ItzT K a b) [z, TI, TO, i1, i2] z (fun i h => IsZip h z TI TO .none ∧ IsPair h TI (.ref i1) (.ref i2) ∧ (∃ x y, IsPair h TO x y) ∧ IsTupIter h i1 a i ∧ IsTupIter h i2 b i) where
  mem := by simp
  obj := fun i h st c hc => by
    obtain ⟨hz, hTI, ⟨x, y, hTO⟩, ⟨o1, e1, _, d1⟩, ⟨o2, e2, _, d2⟩⟩ := st
    have e' : c = z ∨ c = TI ∨ c = TO ∨ c = i1 ∨ c = i2 := by simpa using hc
    rcases e' with q | q | q | q | q
    · rw [q]; exact ⟨_, hz, fun v q => nomatch q⟩
    · rw [q]; exact ⟨_, hTI, fun v q => nomatch q⟩
    · rw [q]; exact ⟨_, hTO, fun v q => nomatch q⟩
    · rw [q]; exact ⟨o1, e1, fun v q => by rw [d1] at q; cases q⟩
    · rw [q]; exact ⟨o2, e2, fun v q => by rw [d2] at q; cases q⟩
  keep := fun i h h' st k => by
    obtain ⟨hz, hTI, ⟨x, y, hTO⟩, h1, h2⟩ := st
    exact ⟨k z (by simp) _ hz, k TI (by simp) _ hTI, ⟨x, y, k TO (by simp) _ hTO⟩, tiAt h1 fun o q => k i1 (by simp) o q, tiAt h2 fun o q => k i2 (by simp) o q⟩
  item := by
    intro X hP hw hK hc i pins s σ H E I hf st hg
    subst hP hw hK
    obtain ⟨hz, hTI, ⟨x0, y0, hTO⟩, h1, h2⟩ := st
    obtain ⟨xs, ys, x, y, hqx, hqy, hx, hy⟩ := hg
    obtain ⟨its, rv, p, _⟩ := I.tuple hqx
    obtain ⟨its2, rv2, p2, _⟩ := I.tuple hqy
    obtain ⟨u, hu, ru⟩ := rv.get hx
    obtain ⟨u2, hu2, ru2⟩ := rv2.get hy
    have hzl : z < s.heap.objs.size := Heap.lt_size hz
    refine zt_item D hz hTI hTO h1 h2 p p2 (x := u) (y := u2) (by simpa using hu) (by simpa using hu2) fun h' z' TO' h1' h2' hT hsz hk => ?_
    refine ⟨_, rfl, wpAny_letOwnedTupleGo_zip (s := { s with heap := h' }) z' fun h'' z'' sb => ?_⟩
    have hT2 : h''.get? s.heap.objs.size = some { cls := .type "tuple", data := .seq #[u, u2] } := (sb.2 _ (Nat.ne_of_gt hzl)).trans hT
    have new : ObjOk X.prog X.w (upd H s.heap.objs.size (.tup [x, y])) h'' s.heap.objs.size (.tup [x, y]) :=
      ⟨by show 2 ≤ sizeLine; decide, [u, u2], .cons ru (.cons ru2 .nil), ⟨_, hT2, rfl, _, rfl⟩⟩
    have I1 : Inv X pins σ (upd H s.heap.objs.size (.tup [x, y])) { s with heap := h'' } :=
      I.turnedNew (t' := s.toks) (ch := [z, TI, TO, i1, i2]) (fun c o hb q => (sb.2 c (fun q' => hb (by simp [q']))).trans (hk c o (fun q' => hb (by simp [q'])) (fun q' => hb (by simp [q'])) (fun q' => hb (by simp [q'])) (fun q' => hb (by simp [q'])) q)) hf (Nat.le_refl _) new
    refine ⟨.ref s.heap.objs.size, _, I1, rfl, ⟨_, x, y, rfl, I.hok.fresh (Nat.le_refl _), rfl, fun l hl => by rw [I.tuple_inj hl hqx]; exact hx, fun l hl => by rw [I.tuple_inj hl hqy]; exact hy⟩, ⟨z'', ?_, ⟨u, u2, ?_⟩, ?_, ?_⟩, fun c hcm => ?_⟩
    · exact (sb.2 _ D.TIz).trans (hk _ _ D.TIz D.TITO D.TIi1 D.TIi2 hTI)
    · exact (sb.2 _ D.TOz).trans TO'
    · exact tiAt h1' fun o q => (sb.2 _ D.i1z).trans q
    · exact tiAt h2' fun o q => (sb.2 _ D.i2z).trans q
    · have hlt : c < s.heap.objs.size := by
        have e' : c = z ∨ c = TI ∨ c = TO ∨ c = i1 ∨ c = i2 := by simpa using hcm
        rcases e' with q | q | q | q | q
        · rw [q]; exact hzl
        · rw [q]; exact Heap.lt_size hTI
        · rw [q]; exact Heap.lt_size hTO
        · rw [q]; obtain ⟨_, e1, _⟩ := h1; exact Heap.lt_size e1
        · rw [q]; obtain ⟨_, e2, _⟩ := h2; exact Heap.lt_size e2
      rw [upd_ne (Nat.ne_of_lt hlt)]
      exact (hf c hcm).1
  done := by
    intro X hP hw hK hc i pins s σ H E I hf st hg
    subst hP hw hK
    obtain ⟨hz, hTI, ⟨x0, y0, hTO⟩, h1, h2⟩ := st
    obtain ⟨xs, ys, hqx, hqy, hend⟩ := hg
    obtain ⟨its, rv, p, _⟩ := I.tuple hqx
    obtain ⟨its2, rv2, p2, _⟩ := I.tuple hqy
    have l1 := rv.length
    exact zt_end (I.ok.hd hc) D hz hTI hTO h1 h2 p p2 (by simp; omega) fun h' hk => ⟨rfl, I.turnedL (t' := s.toks) (ch := [z, TI, TO, i1, i2]) (fun c o hb q =>
      hk c o (fun q' => hb (by simp [q'])) (fun q' => hb (by simp [q'])) (fun q' => hb (by simp [q'])) (fun q' => hb (by simp [q'])) q) hf⟩
  self := fun A i s Q E st h => wpAny_pyIter_zip st.1 h
def iZipT (K : PySem.W.Frag) (ta : TA) : TI := fun σ H R => ta σ H fun vs H1 => ∃ a b xs ys, vs = [.ref a, .ref b] ∧ SqT K H1 a xs ∧ SqT K H1 b ys ∧ R (ItzT K a b) H1
theorem pi_zipT {X : Cx} {e e2 : Expr} {ta : TA} {p pos tpos : Pos} {elts : List Expr} {kk : Nat} (hg : Gl X "zip") (hm : X.mg "zip" = none) (ha : PA X [e, e2] ta)
    (hs : starEach [e, e2] X.env = (false, eval e X.env) :: starEach [e2] X.env := by rfl) (hpl : (backTo pos (starEach [e2] X.env)).any (·.1) = false := by rfl) :
    PI X (.Tuple elts kk tpos) (.Call (.Name "zip" p) [e, e2] [] pos) (iZipT X.K ta) := by
  intro pins s σ H R I h
  refine Call_ (ld_blt I hg hm boot_zip5 (PyProof.Rows.callWith_type1 (thn (ha pos pins s σ H _ I h) fun us s1 ⟨vs, H1, I1, r1, q1⟩ => ?_) hs hpl))
  obtain ⟨a, b, xs, ys, ex, hqx, hqy, q⟩ := q1
  subst ex
  cases r1 with
  | cons r rr =>
    cases rr with
    | cons r' rr =>
      cases rr
      cases r
      cases r'
      obtain ⟨its, rv, p1, _⟩ := I1.tuple hqx
      obtain ⟨its2, rv2, p2, _⟩ := I1.tuple hqy
      refine zu_call p1 p2 fun h' hz hTI hTO h1 h2 hk => wpAny_pyIter_zip hz ?_
      have I2 : Inv X pins σ H1 { s1 with heap := h' } := I1.kept (t' := s1.toks) hk
      refine ⟨s1.heap.objs.size + 4, [s1.heap.objs.size + 4, s1.heap.objs.size + 2, s1.heap.objs.size + 3, s1.heap.objs.size, s1.heap.objs.size + 1], _, _, H1, rfl, I2, turn_zipT (PySem.W.ktu_apart s1.heap.objs.size a b p1.lt p2.lt), ⟨hz, hTI, ⟨_, _, hTO⟩, h1, h2⟩, fun c hcm => ?_, q⟩
      have e' : c = s1.heap.objs.size + 4 ∨ c = s1.heap.objs.size + 2 ∨ c = s1.heap.objs.size + 3 ∨ c = s1.heap.objs.size ∨ c = s1.heap.objs.size + 1 := by simpa using hcm
      have hle : s1.heap.objs.size ≤ c := by
        rcases e' with z | z | z | z | z
        · rw [z]; exact Nat.le_add_right _ _
        · rw [z]; exact Nat.le_add_right _ _
        · rw [z]; exact Nat.le_add_right _ _
        · rw [z]; exact Nat.le_refl _
        · rw [z]; exact Nat.le_add_right _ _
      exact I1.fpOk hle (I1.hok.fresh hle)
def iZipQ (K : PySem.W.Frag) (ta : TA) : TI := fun σ H R => iZip K ta σ H R ∨ iZipT K ta σ H R
theorem pi_zipQ {X : Cx} {e e2 : Expr} {ta : TA} {p pos tpos : Pos} {elts : List Expr} {kk : Nat} (hg : Gl X "zip") (hm : X.mg "zip" = none) (ha : PA X [e, e2] ta)
    (hs : starEach [e, e2] X.env = (false, eval e X.env) :: starEach [e2] X.env := by rfl) (hpl : (backTo pos (starEach [e2] X.env)).any (·.1) = false := by rfl) :
    PI X (.Tuple elts kk tpos) (.Call (.Name "zip" p) [e, e2] [] pos) (iZipQ X.K ta) := by
  intro pins s σ H R I h
  rcases h with h | h
  · exact pi_zip hg hm ha hs hpl pins s σ H R I h
  · exact pi_zipT hg hm ha hs hpl pins s σ H R I h
end Pk

namespace Pk
open PySem PySem.Spec PyProof.Rows L2
section
variable {K : PySem.W.Frag}
theorem kt_int_dict : PySem.W.kitOne K (.type "int") (.type "dict") = some false := by first | rfl | (unfold PySem.W.kitOne PySem.W.kitCls; decide +kernel)
theorem kt_int_list : PySem.W.kitOne K (.type "int") (.type "list") = some false := by first | rfl | (unfold PySem.W.kitOne PySem.W.kitCls; decide +kernel)
theorem kt_int_tuple : PySem.W.kitOne K (.type "int") (.type "tuple") = some false := by first | rfl | (unfold PySem.W.kitOne PySem.W.kitCls; decide +kernel)
theorem kt_int_str : PySem.W.kitOne K (.type "int") (.type "str") = some false := by first | rfl | (unfold PySem.W.kitOne PySem.W.kitCls; decide +kernel)
theorem kt_int_int : PySem.W.kitOne K (.type "int") (.type "int") = some true := by first | rfl | (unfold PySem.W.kitOne PySem.W.kitCls; decide +kernel)
theorem kt_int_bool : PySem.W.kitOne K (.type "int") (.type "bool") = some false := by first | rfl | (unfold PySem.W.kitOne PySem.W.kitCls; decide +kernel)
theorem kt_str_dict : PySem.W.kitOne K (.type "str") (.type "dict") = some false := by first | rfl | (unfold PySem.W.kitOne PySem.W.kitCls; decide +kernel)
theorem kt_str_list : PySem.W.kitOne K (.type "str") (.type "list") = some false := by first | rfl | (unfold PySem.W.kitOne PySem.W.kitCls; decide +kernel)
theorem kt_str_tuple : PySem.W.kitOne K (.type "str") (.type "tuple") = some false := by first | rfl | (unfold PySem.W.kitOne PySem.W.kitCls; decide +kernel)
theorem kt_str_str : PySem.W.kitOne K (.type "str") (.type "str") = some true := by first | rfl | (unfold PySem.W.kitOne PySem.W.kitCls; decide +kernel)
theorem kt_list_dict : PySem.W.kitOne K (.type "list") (.type "dict") = some false := by first | rfl | (unfold PySem.W.kitOne PySem.W.kitCls; decide +kernel)
theorem kt_list_list : PySem.W.kitOne K (.type "list") (.type "list") = some true := by first | rfl | (unfold PySem.W.kitOne PySem.W.kitCls; decide +kernel)
theorem kt_list_tuple : PySem.W.kitOne K (.type "list") (.type "tuple") = some false := by first | rfl | (unfold PySem.W.kitOne PySem.W.kitCls; decide +kernel)
theorem kt_tuple_dict : PySem.W.kitOne K (.type "tuple") (.type "dict") = some false := by first | rfl | (unfold PySem.W.kitOne PySem.W.kitCls; decide +kernel)
theorem kt_tuple_list : PySem.W.kitOne K (.type "tuple") (.type "list") = some false := by first | rfl | (unfold PySem.W.kitOne PySem.W.kitCls; decide +kernel)
theorem kt_tuple_tuple : PySem.W.kitOne K (.type "tuple") (.type "tuple") = some true := by first | rfl | (unfold PySem.W.kitOne PySem.W.kitCls; decide +kernel)
theorem isi {H : Hp} {x : V} {c : String} {t : Value} {b : Bool} {Q : VK} (ty : TyOf K H x t) (e : PySem.W.kitOne K t (.type c) = some b) (q : Q (.bl b) H) : rIsi K [x, .ty c] H Q := ⟨x, c, t, b, rfl, ty, e, q⟩
end
/-! ### comprehensions over zip -/
section
variable {σ : L2.St} {H : Hp} {Q : VK} {ta : TA} {te : TE} {g : TG} {tt : TT} {vs : List Nat} {K : PySem.W.Frag}
theorem r_lcZ : tLc (iZipQ K ta) g tt te vs σ H Q = (ta σ H (fun ws H1 => ∃ a b xs ys, ws = [.ref a, .ref b] ∧ SqL K H1 a xs ∧ SqL K H1 b ys ∧ lcIt (Itz K a b) g tt te vs σ H1 Q) ∨
    ta σ H (fun ws H1 => ∃ a b xs ys, ws = [.ref a, .ref b] ∧ SqT K H1 a xs ∧ SqT K H1 b ys ∧ lcIt (ItzT K a b) g tt te vs σ H1 Q)) := rfl
end
theorem lc_z {K : PySem.W.Frag} {a b : Addr} {xs ys : List V} {g : TG} {tt : TT} {te : TE} {vs : List Nat} {σ : L2.St} {H1 : Hp} {Q : VK} (hn : xs.length = ys.length) (h : ∀ D, H1 D = none → ∃ Pv : Nat → Hp → Prop, Pv 0 (upd H1 D (.lst [])) ∧ (∀ i H, Pv i H → SqL K H a xs ∧ SqL K H b ys) ∧
    (∀ i x y T H, xs[i]? = some x → ys[i]? = some y → Pv i H → H T = none → g (.ref T) (wipe σ vs) (upd H T (.tup [x, y])) fun σ2 H2 => wipe σ2 vs = wipe σ vs ∧ tt σ2 H2 fun c H3 =>
      if c = true then te σ2 H3 fun v H4 => ∃ acc, H4 D = some (.lst acc) ∧ acc.length < sizeLine ∧ Pv (i + 1) (upd H4 D (.lst (acc ++ [v]))) else Pv (i + 1) H3) ∧ ∀ H, Pv xs.length H → Q (.ref D) H) : lcIt (Itz K a b) g tt te vs σ H1 Q := fun D hD => by
  obtain ⟨Pv, h0, hl, hs, hd⟩ := h D hD
  refine ⟨fun i m H => m = xs.length - i ∧ i ≤ xs.length ∧ Pv i H, ⟨xs.length, by simp, Nat.zero_le _, h0⟩, ?_⟩
  rintro i m H ⟨rfl, hi, p⟩
  obtain ⟨q1, q2⟩ := hl i H p
  by_cases hlt : i < xs.length
  · refine .inr ⟨⟨xs, ys, xs[i], ys[i], q1, q2, by simp, by simp⟩, Pv (i + 1), fun H' p' => ⟨xs.length - (i + 1), by omega, rfl, hlt, p'⟩, fun v H' y => ?_⟩
    obtain ⟨T, x, y, rfl, hT, rfl, e1, e2⟩ := y
    exact hs i x y T H (e1 _ q1) (e2 _ q2) p hT
  · have e : i = xs.length := by omega
    subst e
    exact .inl ⟨⟨xs, ys, q1, q2, .inl (Nat.le_refl _)⟩, hd H p⟩
theorem lc_zT {K : PySem.W.Frag} {a b : Addr} {xs ys : List V} {g : TG} {tt : TT} {te : TE} {vs : List Nat} {σ : L2.St} {H1 : Hp} {Q : VK} (hn : xs.length = ys.length) (h : ∀ D, H1 D = none → ∃ Pv : Nat → Hp → Prop, Pv 0 (upd H1 D (.lst [])) ∧ (∀ i H, Pv i H → SqT K H a xs ∧ SqT K H b ys) ∧
    (∀ i x y T H, xs[i]? = some x → ys[i]? = some y → Pv i H → H T = none → g (.ref T) (wipe σ vs) (upd H T (.tup [x, y])) fun σ2 H2 => wipe σ2 vs = wipe σ vs ∧ tt σ2 H2 fun c H3 =>
      if c = true then te σ2 H3 fun v H4 => ∃ acc, H4 D = some (.lst acc) ∧ acc.length < sizeLine ∧ Pv (i + 1) (upd H4 D (.lst (acc ++ [v]))) else Pv (i + 1) H3) ∧ ∀ H, Pv xs.length H → Q (.ref D) H) : lcIt (ItzT K a b) g tt te vs σ H1 Q := fun D hD => by
  obtain ⟨Pv, h0, hl, hs, hd⟩ := h D hD
  refine ⟨fun i m H => m = xs.length - i ∧ i ≤ xs.length ∧ Pv i H, ⟨xs.length, by simp, Nat.zero_le _, h0⟩, ?_⟩
  rintro i m H ⟨rfl, hi, p⟩
  obtain ⟨q1, q2⟩ := hl i H p
  by_cases hlt : i < xs.length
  · refine .inr ⟨⟨xs, ys, xs[i], ys[i], q1, q2, by simp, by simp⟩, Pv (i + 1), fun H' p' => ⟨xs.length - (i + 1), by omega, rfl, hlt, p'⟩, fun v H' y => ?_⟩
    obtain ⟨T, x, y, rfl, hT, rfl, e1, e2⟩ := y
    exact hs i x y T H (e1 _ q1) (e2 _ q2) p hT
  · have e : i = xs.length := by omega
    subst e
    exact .inl ⟨⟨xs, ys, q1, q2, Nat.le_refl _⟩, hd H p⟩
/-! ### two values that read alike, to a depth below n -/
def EqA : Nat → Hp → V → V → Prop
  | 0, _, _, _ => False
  | n + 1, H, x, y => (x = .non ∧ y = .non) ∨ (∃ i, x = .int i ∧ y = .int i) ∨ (∃ s, x = .str s ∧ y = .str s) ∨
      ∃ a b xs ys, x = .ref a ∧ y = .ref b ∧ ((H a = some (.lst xs) ∧ H b = some (.lst ys)) ∨ (H a = some (.tup xs) ∧ H b = some (.tup ys))) ∧ xs.length = ys.length ∧ xs.length < 100000 ∧ ∀ (i : Nat) (x y : V), xs[i]? = some x → ys[i]? = some y → EqA n H x y
theorem EqA.same {H H' : Hp} (s : Same H H') : ∀ {n : Nat} {x y : V}, EqA n H x y → EqA n H' x y
  | 0, _, _, h => False.elim h
  | n + 1, x, y, h => by
    rcases h with h | h | h | ⟨a, b, xs, ys, e1, e2, h, h2, h3, h4⟩
    · exact Or.inl h
    · exact Or.inr (Or.inl h)
    · exact Or.inr (Or.inr (Or.inl h))
    · refine Or.inr (Or.inr (Or.inr ⟨a, b, xs, ys, e1, e2, ?_, h2, h3, fun i x y g1 g2 => EqA.same s (h4 i x y g1 g2)⟩))
      rcases h with ⟨q1, q2⟩ | ⟨q1, q2⟩
      · exact .inl ⟨s _ _ q1, s _ _ q2⟩
      · exact .inr ⟨s _ _ q1, s _ _ q2⟩
theorem EqA.i {n : Nat} {H : Hp} {i : Int} : EqA (n + 1) H (.int i) (.int i) := Or.inr (Or.inl ⟨i, rfl, rfl⟩)
theorem EqA.s {n : Nat} {H : Hp} {x : Str} : EqA (n + 1) H (.str x) (.str x) := Or.inr (Or.inr (Or.inl ⟨x, rfl, rfl⟩))
theorem EqA.n {n : Nat} {H : Hp} : EqA (n + 1) H .non .non := Or.inl ⟨rfl, rfl⟩
/-- two lists of the same flat items -/
theorem EqA.l {n : Nat} {H : Hp} {a b : Addr} {xs : List V} (h1 : H a = some (.lst xs)) (h2 : H b = some (.lst xs)) (hl : xs.length < 100000) (h : ∀ x ∈ xs, EqA n H x x) : EqA (n + 1) H (.ref a) (.ref b) :=
  Or.inr (Or.inr (Or.inr ⟨a, b, xs, xs, rfl, rfl, .inl ⟨h1, h2⟩, rfl, hl, fun i x y g1 g2 => by rw [g1] at g2; cases g2; exact h x (List.mem_of_getElem? g1)⟩))
theorem EqA.t {n : Nat} {H : Hp} {a b : Addr} {xs : List V} (h1 : H a = some (.tup xs)) (h2 : H b = some (.tup xs)) (hl : xs.length < 100000) (h : ∀ x ∈ xs, EqA n H x x) : EqA (n + 1) H (.ref a) (.ref b) :=
  Or.inr (Or.inr (Or.inr ⟨a, b, xs, xs, rfl, rfl, .inr ⟨h1, h2⟩, rfl, hl, fun i x y g1 g2 => by rw [g1] at g2; cases g2; exact h x (List.mem_of_getElem? g1)⟩))
def spSame (n : Nat) : Sp := fun vs H Q _ => ∃ x y, vs = [x, y] ∧ EqA n H x y ∧ ∀ H', Same H H' → Q (.bl true) H'
theorem all_true : ∀ n : Nat, ((List.replicate n true).all id) = true := by simp
end Pk

namespace Pk
open PySem PySem.Spec PyProof.Rows L2
/-! ### no star -/
section
variable {es : List Expr} {env : Env}
theorem st_Constant {a b c} : starEach (.Constant a b c :: es) env = (false, eval (.Constant a b c) env) :: starEach es env := rfl
theorem st_Name {a b} : starEach (.Name a b :: es) env = (false, eval (.Name a b) env) :: starEach es env := rfl
theorem st_BinOp {a b c d} : starEach (.BinOp a b c d :: es) env = (false, eval (.BinOp a b c d) env) :: starEach es env := rfl
theorem st_UnaryOp {a b c} : starEach (.UnaryOp a b c :: es) env = (false, eval (.UnaryOp a b c) env) :: starEach es env := rfl
theorem st_Compare {a b c d} : starEach (.Compare a b c d :: es) env = (false, eval (.Compare a b c d) env) :: starEach es env := rfl
theorem st_List {a b} : starEach (.List a b :: es) env = (false, eval (.List a b) env) :: starEach es env := rfl
theorem st_Tuple {a b c} : starEach (.Tuple a b c :: es) env = (false, eval (.Tuple a b c) env) :: starEach es env := rfl
theorem st_Dict {a b c} : starEach (.Dict a b c :: es) env = (false, eval (.Dict a b c) env) :: starEach es env := rfl
theorem st_Subscript {a b c} : starEach (.Subscript a b c :: es) env = (false, eval (.Subscript a b c) env) :: starEach es env := rfl
theorem st_Call {a b c d} : starEach (.Call a b c d :: es) env = (false, eval (.Call a b c d) env) :: starEach es env := rfl
theorem st_ListComp {a b c d} : starEach (.ListComp a b c d :: es) env = (false, eval (.ListComp a b c d) env) :: starEach es env := rfl
end
/-- a list of items, shut -/
structure PAo (X : Cx) (es : List Expr) (t : TA) : Prop where
  h : PA X es t
theorem pao_nil {X : Cx} : PAo X [] tNil := ⟨pa_nil⟩
theorem pao_cons {X : Cx} {e : Expr} {es : List Expr} {te : TE} {t : TA} (ha : PE X e te) (hr : PAo X es t) (hs : starEach (e :: es) X.env = (false, eval e X.env) :: starEach es X.env) : PAo X (e :: es) (tCons te t) := ⟨pa_cons ha hr.h hs⟩
theorem pe_lstO {X : Cx} {es : List Expr} {t : TA} {pos : Pos} (h : PAo X es t) : PE X (.List es pos) (tLst t) := pe_lst h.h
/-- x = [..][i], alone in a block: the list is shut (a long list of constants would be run whenever its type is looked at) -/
theorem pss_pick {X : Cx} {i : Nat} {x : Str} {p' p1 p2 p3 : Pos} {es : List Expr} {b : Expr} {t : TA} {tb : TE} (hN : X.N.Nodup) (hi : X.N[i]? = some x) (hx : X.env.scope.names.lookup x = some .local) (h : PAo X es t) (hb : PE X b tb) (hp : PlainIx b) :
    PSs X [.Assign [.Name x p'] (.Subscript (.List es p1) b p2) p3] (tAsg (tOp rIxQ (tLst t) tb) (gName i)) := pss_one (ps_set hN hi (.inl hx) (pe_ix ix_sq (pe_lstO h) hb hp) rfl (.inr hx))
/-! ### lists of ints as data -/
section
variable {K : PySem.W.Frag} {H : Hp}
theorem dp_ints : ∀ ms : List Int, DpAll K H (ms.map V.int) (ms.map PyData.int)
  | [] => .nil
  | m :: ms => .cons (.int m) (dp_ints ms)
theorem dp_lst {p : Addr} {ms : List Int} (h : H p = some (.lst (ms.map V.int))) : Dp K H (.ref p) (.list (ms.map PyData.int)) := .lst (SqL.of h) (dp_ints ms)
theorem lay_ints : ∀ ms : List Int, PyData.canLayAll0 (ms.map PyData.int) = true
  | [] => rfl
  | m :: ms => by rw [List.map_cons, PyData.canLayAll0, lay_ints ms]; rfl
theorem depth_ints : ∀ ms : List Int, PyData.depthAll (ms.map PyData.int) = 0
  | [] => rfl
  | m :: ms => by rw [List.map_cons, PyData.depthAll, depth_ints ms]; rfl
theorem shaped_ints (ms : List Int) : SeqAt.shaped (.list (ms.map PyData.int)) = true := by
  unfold SeqAt.shaped
  rw [PyData.canLay0, lay_ints, PyData.depth, depth_ints]
  rfl
end
def spBegin (K : PySem.W.Frag) : Sp := fun vs H Q _ => ∃ (a : Addr) (ns : List Int), vs = [.ref a] ∧ SqL K H a (ns.map V.int) ∧ ∀ d c H', Same H H' → H d = none → H c = none → StA H' d c 0 → Q (.ref d) H'
def spNumber : Sp := fun vs H Q _ => ∃ (d c : Addr) (b : Nat), vs = [.ref d] ∧ StA H d c b ∧ b + 10 < 100000000 ∧ ∀ (n : Int) H', n.natAbs < 10 ^ 18 → StA H' d c (b + 5) → Fr d c H H' → Q (.int n) H'
def spAny : Sp := fun vs H Q _ => ∃ (d c : Addr) (b : Nat), vs = [.ref d] ∧ StA H d c b ∧ b + 20 < 100000000 ∧ ∀ (n : Int) H', Small n → StA H' d c (b + 12) → Fr d c H H' → Q (.int n) H'
def spNoise : Sp := fun vs H Q _ => ∃ (d c : Addr) (b : Nat) (m : Nat), vs = [.ref d, .int m] ∧ StA H d c b ∧ m ≤ 100 ∧ b + 4 * m < 100000000 ∧ ∀ p (ns : List Int) H', StA H' d c (b + 4 * m) → Fr d c H H' → H p = none → H' p = some (.lst (ns.map V.int)) → ns.length = m → (∀ x ∈ ns, 0 ≤ x ∧ x < 256) → Q (.ref p) H'
/-- one of a list that is written out, by a draw -/
theorem pick {H : Hp} {d c : Addr} {b m : Nat} {xs : List V} {Q : VK} {E : XK} (st : StA H d c b) (hb : b < 100000000) (hm : xs.length = m) (h0 : 0 < m) (h1 : m < 1073741824)
    (k : ∀ (r : Nat) v H', r < m → xs[r]? = some v → StA H' d c (b + 1) → Fr d c H H' → Q v H') : ∀ p, H p = none → spTake [.ref d, .int (m : Nat)] (upd H p (.lst xs)) (fun y H2 => rIxQ (.ref p) y H2 Q) E := fun p hp => by
  refine ⟨d, c, b, m, rfl, st.new hp, by omega, by omega, hb, fun r H' r0 r1 st' fr => ?_⟩
  have hl : r.toNat < xs.length := by omega
  have lv := (st.lv (o := .lst xs) hp).fr fr
  refine ⟨p, r, xs[r.toNat], rfl, rfl, ⟨xs, Sq.l lv.1, ?_⟩, k r.toNat _ H' (by omega) (List.getElem?_eq_getElem hl) st' ((Fr.of (Same.new hp)).trans fr)⟩
  have e : atI xs ((r.toNat : Nat) : Int) = some xs[r.toNat] := atI_nat (List.getElem?_eq_getElem hl)
  rw [show ((r.toNat : Nat) : Int) = r by omega] at e
  exact e
theorem disp_st {σ : L2.St} {H : Hp} {Q : VK} {l : Addr} {ns : List Int} (hl : H l = some (.lst (ns.map V.int))) (hne : ns ≠ []) (hn : ns.length ≤ 63) (hσ : σ[1]? = some (some (.ref l)))
    (k : ∀ d H', H d = none → Same H H' → StA H' d l 0 → Q (.ref d) H') : tDisp [(tC (V.str "cells"), tVar 1), (tC (V.str "turn"), tC (V.int 0))] σ H Q := by
  intro p hp
  have e : mergeK [] [((Sum.inr "cells" : Key), V.ref l), (Sum.inr "turn", V.int 0)] = [((Sum.inr "cells" : Key), V.ref l), (Sum.inr "turn", V.int 0)] := by
    simp [mergeK, putK, kct]
  refine ⟨_, hσ, upd_same, [((Sum.inr "cells" : Key), V.ref l), (Sum.inr "turn", V.int 0)], rfl, by show 2 ≤ 15; decide, ?_⟩
  rw [e]
  refine k p _ hp (Same.upd (Same.new hp) hp) ⟨ns, 0, hne, hn, Int.le_refl _, by simp, ?_, upd_same⟩
  rw [upd_ne (ne_of_none hl hp), upd_ne (ne_of_none hl hp)]
  exact hl
end Pk
namespace Pk
open PySem L2
theorem Lv.sm {d c : Addr} {H H' : Hp} {a : Addr} {o : HO} (l : Lv d c H a o) (s : Same H H') : Lv d c H' a o := l.fr (.of s)
theorem Lv.nn {d c : Addr} {H : Hp} {a p : Addr} {o : HO} (l : Lv d c H a o) (hp : H p = none) : a ≠ p := ne_of_none l.1 hp
end Pk
namespace Pk
open PySem PySem.Spec PyProof.Rows L2
/-! ### division by a divisor below 2 ^ 64 -/
def CDivW (i j : Int) : Prop := 0 < j ∧ j < 18446744073709551616
theorem nopl {x j : Int} (h1 : 0 < j) (h2 : j < 18446744073709551616) : Builtin.divisionGoesByPylong x j = false := by
  refine PyProof.noPylong_of_log2 ?_
  have z : j.natAbs.log2 < 64 := (Nat.log2_lt (by omega)).mpr (by omega)
  omega
section
variable {X : Cx}
theorem op_fdivW : OpR X (binaryOp .FloorDiv) (rI CDivW fun i j => .int (i / j)) := opI fun i j _ _ _ _ _ hc q => by
  have h1 : (0 : Int) < j := hc.1
  exact floordiv_int (by omega) (by rw [Int.fdiv_eq_ediv_of_nonneg i (by omega)]; exact q) (.inl (nopl hc.1 hc.2))
theorem call_divmodW : CallR X (.builtin "divmod") (fun xs H Q => ∃ i j, xs = [.int i, .int j] ∧ CDivW i j ∧ ∀ p, H p = none → Q (.ref p) (upd H p (.tup [.int (i / j), .int (i % j)]))) := by
  intro pins s σ H xs us Q I r h
  obtain ⟨i, j, rfl, ⟨h1, h2⟩, q⟩ := h
  obtain ⟨u, w', rfl, ⟨t, rfl⟩, ⟨t', rfl⟩⟩ := vals2 r
  refine divmod_int (by omega) ?_ (.inl (nopl h1 h2))
  rw [Int.fdiv_eq_ediv_of_nonneg i (by omega), Int.fmod_eq_emod_of_nonneg i (by omega)]
  have hn : H s.heap.objs.size = none := I.hok.fresh (Nat.le_refl _)
  refine ⟨.ref s.heap.objs.size, _, ?_, rfl, q _ hn⟩
  refine I.laid (fun b o e => Heap.get?_push_of_some _ e) (Nat.le_refl _) ⟨by show 2 ≤ sizeLine; decide, [.int (i / j) s.toks, .int (i % j) (s.toks + 1)], .cons ⟨_, rfl⟩ (.cons ⟨_, rfl⟩ .nil), ?_⟩
  exact ⟨_, Heap.get?_push_size s.heap rfl, rfl, 0, rfl⟩
end
end Pk

namespace Pk
open PySem PySem.Spec PyProof.Rows L2
/-! ### texts: repeated, searched, walked -/
theorem rep_size (a : Array Nat) : ∀ (n : Nat) (i : Array Nat), ((List.replicate n a).foldl (· ++ ·) i).size = i.size + n * a.size
  | 0, i => by simp
  | n + 1, i => by
    rw [List.replicate_succ, List.foldl_cons, rep_size a n, Array.size_append, Nat.succ_mul]
    omega
section
variable {X : Cx}
theorem op_rep_str : OpR X (binaryOp .Mult) (fun x y H Q => ∃ (a : Str) (n : Nat), x = .str a ∧ y = .int n ∧ 1 < n ∧ n ≤ 1000 ∧ 0 < a.length ∧ a.length ≤ 1000 ∧ Q (.str ⟨(List.replicate n a.cps).foldl (· ++ ·) #[]⟩) H) := by
  intro pins s σ H x y v u Q I rx ry h
  obtain ⟨a, n, rfl, rfl, h1, h2, h3, h4, q⟩ := h
  obtain ⟨t, rfl⟩ := rx
  obtain ⟨t', rfl⟩ := ry
  have hm : a.length * n ≤ 1000 * 1000 := Nat.mul_le_mul h4 h2
  have hne : ((n : Int) == 1 || a.length == 0) = false := by simp; omega
  refine PySem.P.mul_str (by simp; omega) (fun _ _ => ?_) (fun _ _ => ?_) ?_
  · have : (1000 : Int) ≤ (2 ^ 63 - 1) / n := Int.le_ediv_of_mul_le (by omega) (by omega)
    omega
  · rw [Int.toNat_natCast]
    exact notLong (by omega)
  · rw [if_neg (by omega), if_neg (by rw [hne]; simp), Int.toNat_natCast]
    refine ⟨?_, ?_⟩
    · show ((List.replicate n a.cps).foldl (· ++ ·) #[]).size ≤ sizeLine
      rw [rep_size]
      have e : a.cps.size = a.length := rfl
      rw [e, Nat.mul_comm]
      exact Nat.le_trans (by simpa using hm) (by decide)
    · exact ⟨.str _, H, I.kept (t' := s.toks + 1) (fun _ _ z => z), ⟨_, rfl⟩, q⟩
def rSidx : V → List V → Hp → VK → Prop := fun x xs H Q => ∃ (a b : Str) (i : Nat) (rest : List Nat), x = .str a ∧ xs = [.str b] ∧ Builtin.Str.occurrences a b 0 a.length 1 = i :: rest ∧ Q (.int i) H
end
theorem r_lcS {te : TE} {g : TG} {tt : TT} {tx : TE} {vs : List Nat} {σ : L2.St} {H : Hp} {Q : VK} : tLc (iStr tx) g tt te vs σ H Q = tx σ H fun v H1 => ∃ x, v = .str x ∧ lcIt (Its x) g tt te vs σ H1 Q := rfl
/-! ### enumerate(text) -/
def ItE (x : Str) : It := ⟨fun i _ => i < x.cps.size, fun i H v H' => ∃ T c, v = .ref T ∧ H T = none ∧ x.cps[i]? = some c ∧ H' = upd H T (.tup [.int (i : Nat), .str ⟨#[c]⟩]), fun i _ => x.cps.size ≤ i⟩
def iEnumS (ta : TA) : TI := fun σ H R => ta σ H fun vs H1 => ∃ x, vs = [.str x] ∧ R (ItE x) H1
theorem r_lcE {ta : TA} {g : TG} {tt : TT} {te : TE} {vs : List Nat} {σ : L2.St} {H : Hp} {Q : VK} : tLc (iEnumS ta) g tt te vs σ H Q = ta σ H fun ws H1 => ∃ x, ws = [.str x] ∧ lcIt (ItE x) g tt te vs σ H1 Q := rfl
end Pk

namespace Pk
open PySem PySem.Spec PyProof.Rows L2
/-! ### the signs -/
def sgT : Str := " !\"#$&'()*+,-./0123456789:;<=>?@ABCDEFGHIJKLMNOPQRSTUVWXYZ[\\]^_`abcdefghijklmnopqrstuvwxyz{|}~"
def okC (c : Nat) : Bool := decide (32 ≤ c) && decide (c ≤ 126) && decide (c ≠ 37)
def sx (c : Nat) : Nat := if c < 37 then c - 32 else c - 33
/-- a text of a cell -/
structure OkT (t : Str) : Prop where
  l : t.length ≤ 20
  c : ∀ c ∈ t.cps.toList, okC c = true
def sxi (c : Nat) : Int := (sx c : Int)
def tb (t : Str) : List Int := nb (zig t.length) ++ t.cps.toList.map sxi
/-! ### cells -/
def OkCell (v : V) : Prop := v = .non ∨ (∃ n, v = .int n ∧ Small n) ∨ ∃ t, v = .str t ∧ OkT t
def cb : V → List Int
  | .int n => 1 :: nb (zig n)
  | .str t => 2 :: tb t
  | _ => [0]
def spKind : Sp := fun vs H Q _ => ∃ v, vs = [v] ∧ OkCell v ∧ Q (match v with | .int _ => .str "number" | .str _ => .str "text" | _ => .non) H
def spTb : Sp := fun vs H Q _ => ∃ t : Str, vs = [.str t] ∧ OkT t ∧ ∀ p H', Same H H' → H p = none → H' p = some (.lst ((tb t).map V.int)) → Q (.ref p) H'
def spCb : Sp := fun vs H Q _ => ∃ v, vs = [v] ∧ OkCell v ∧ ∀ p H', Same H H' → H p = none → H' p = some (.lst ((cb v).map V.int)) → Q (.ref p) H'
def spTt : Sp := fun vs H Q _ => ∃ (r : Addr) (pre post : List Int) (t : Str), vs = [.ref r, .int pre.length] ∧ Sq H r ((pre ++ (tb t ++ post)).map V.int) ∧ OkT t ∧ ∀ p H', Same H H' → H p = none → H' p = some (.tup [.str t, .int (pre.length + (tb t).length)]) → Q (.ref p) H'
def spTc : Sp := fun vs H Q _ => ∃ (r : Addr) (pre post : List Int) (v : V), vs = [.ref r, .int pre.length] ∧ Sq H r ((pre ++ (cb v ++ post)).map V.int) ∧ OkCell v ∧ (cb v).length ≤ 30 ∧ (∀ n, v = .int n → (nb (zig n)).length ≤ 9) ∧ ∀ p H', Same H H' → H p = none → H' p = some (.tup [v, .int (pre.length + (cb v).length)]) → Q (.ref p) H'
def spText (m : Nat) : Sp := fun vs H Q _ => ∃ (d c : Addr) (b : Nat), vs = [.ref d] ∧ StA H d c b ∧ b + (60 + m) < 100000000 ∧ ∀ (t : Str) H', OkT t → StA H' d c (b + (30 + m)) → Fr d c H H' → Q (.str t) H'
def spSigns : Sp := fun vs H Q _ => vs = [] ∧ Q (.str sgT) H
/-! ### one text out of many single signs -/
theorem join_signs (cs : List Nat) : Txt.join ⟨#[]⟩ (cs.map fun c => (⟨#[c]⟩ : Str)) = ⟨cs.toArray⟩ := by
  have h : ∀ cs : List Nat, TL.joinL [] (cs.map fun c => [c]) = cs := by
    intro cs
    induction cs with
    | nil => rfl
    | cons a r ih =>
      cases r with
      | nil => rfl
      | cons b r => show [a] ++ ([] ++ TL.joinL [] ((b :: r).map fun c => [c])) = a :: b :: r; rw [ih]; rfl
  have e := TL.tl_join ⟨#[]⟩ (cs.map fun c => (⟨#[c]⟩ : Str))
  rw [List.map_map] at e
  have e2 : TL.tl (Str.join ⟨#[]⟩ (cs.map fun c => (⟨#[c]⟩ : Str))) = cs := e.trans (h cs)
  rw [TL.join_eq]
  have e3 : (Str.join ⟨#[]⟩ (cs.map fun c => (⟨#[c]⟩ : Str))).cps = cs.toArray := Array.toList_inj.mp (e2.trans (by simp))
  exact congrArg (fun l => (⟨l⟩ : Str)) e3
/-! ### pairs in a row -/
def kv94 : List (Key × V) := sgT.cps.toList.mapIdx fun i c => ((Sum.inr ⟨#[c]⟩ : Key), V.int (i : Int))
theorem r_chain {r r' : R2} {ta tb tc : TE} {σ : L2.St} {H : Hp} {Q : VK} : tChain r r' ta tb tc σ H Q = ta σ H fun x H1 => tb σ H1 fun y H2 => r x y H2 fun z H3 => ∃ k, z = .bl k ∧ (if k = true then tc σ H3 fun w' H4 => r' y w' H4 Q else Q (.bl false) H3) := rfl
theorem r_m1 {r : V → List V → Hp → VK → Prop} {to te : TE} {σ : L2.St} {H : Hp} {Q : VK} : tM1 r to te σ H Q = to σ H fun x H1 => (∃ a, x = .str a) ∧ te σ H1 fun y H2 => r x [y] H2 Q := rfl
/-- x = [..] ahead of more, the list shut -/
theorem pss_lst {X : Cx} {i : Nat} {x : Str} {p' p1 p3 : Pos} {es : List Expr} {rest : List Stmt} {t : TA} {u : TS} (hN : X.N.Nodup) (hi : X.N[i]? = some x) (hx : X.env.scope.names.lookup x = some .local) (h : PAo X es t) (hr : PSs X rest u) :
    PSs X (.Assign [.Name x p'] (.List es p1) p3 :: rest) (tSeq (tAsg (tLst t) (gName i)) u) := pss_cons (ps_set hN hi (.inl hx) (pe_lstO h) rfl (.inr hx)) hr
def chkT (t : Str) : Bool := decide (t.length ≤ 20) && t.cps.toList.all okC
theorem okT_of {t : Str} (h : chkT t = true) : OkT t := by
  simp only [chkT, Bool.and_eq_true, decide_eq_true_eq, List.all_eq_true] at h
  exact ⟨h.1, h.2⟩
def sgn1 (c : Nat) : Str := ⟨#[c]⟩
theorem okT_cs {cs : List Nat} (hl : cs.length ≤ 20) (h : ∀ c ∈ cs, okC c = true) : OkT ⟨cs.toArray⟩ := ⟨by show cs.toArray.size ≤ 20; simpa using hl, by simpa using h⟩
theorem join_sg (cs : List Nat) : Txt.join (Str.ofString "") (cs.map sgn1) = ⟨cs.toArray⟩ := join_signs cs
theorem sum_sg (cs : List Nat) : ((cs.map sgn1).map (·.length)).sum = cs.length := by
  induction cs with
  | nil => rfl
  | cons a r ih => rw [List.map_cons, List.map_cons, List.sum_cons, ih]; show 1 + _ = _; rw [List.length_cons]; omega
/-- what is read back of a text or a cell is it, and the place behind -/
def spFR : Sp := fun vs H Q _ => ∃ (w : Str) (r : Addr) (pre post : List Int) (v : V) (m : Int), vs = [.str w, .ref r, .int pre.length, v, .int m] ∧
  ((w = Str.ofString "text" ∧ ∃ t, v = .str t ∧ OkT t ∧ m = (tb t).length ∧ Sq H r ((pre ++ (tb t ++ post)).map V.int)) ∨
   (w = Str.ofString "cell" ∧ OkCell v ∧ m = (cb v).length ∧ (cb v).length ≤ 30 ∧ (∀ n, v = .int n → (nb (zig n)).length ≤ 9) ∧ Sq H r ((pre ++ (cb v ++ post)).map V.int))) ∧ ∀ H', Same H H' → Q (.bl true) H'
theorem kv_get {i c : Nat} (h : sgT.cps[i]? = some c) : kv94.take (i + 1) = kv94.take i ++ [((Sum.inr ⟨#[c]⟩ : Key), V.int (i : Int))] := by
  have e : kv94[i]? = some ((Sum.inr ⟨#[c]⟩ : Key), V.int (i : Int)) := by
    unfold kv94
    rw [List.getElem?_mapIdx, Array.getElem?_toList, h]
    rfl
  rw [List.take_add_one, e]
  rfl
end Pk
namespace Pk
open PySem L2
end Pk
namespace Pk
open PySem L2
/-- a cell of a kind -/
def OkK (kd : Str) (v : V) : Prop := v = .non ∨ (kd = Str.ofString "number" ∧ ∃ n : Int, v = .int n ∧ n.natAbs < 10 ^ 18) ∨ (kd = Str.ofString "text" ∧ ∃ t, v = .str t ∧ OkT t)
def spCells : Sp := fun vs H Q _ => ∃ (d c : Addr) (b : Nat) (kd : Str) (m : Nat), vs = [.ref d, .str kd, .int m] ∧ (kd = Str.ofString "number" ∨ kd = Str.ofString "text") ∧ StA H d c b ∧ m ≤ 70 ∧ b + 1500 < 100000000 ∧
  ∀ p (ws : List V) H', StA H' d c (b + 1000) → Fr d c H H' → H p = none → H' p = some (.lst ws) → ws.length = m → (∀ v ∈ ws, OkK kd v) → Q (.ref p) H'
end Pk

namespace Pk
open PySem PySem.Spec PyProof.Rows L2
/-! ### enumerate over a tuple -/
section
variable {prog : Program} {w : World} {A : Around} {E : Value → Shared → Prop} {s : Shared}
end
def IteT (K : PySem.W.Frag) (a : Addr) : It :=
  ⟨fun i H => ∃ (xs : List V) (x : V), SqT K H a xs ∧ xs[i]? = some x, fun i H v H' => ∃ T x, v = .ref T ∧ H T = none ∧ H' = upd H T (.tup [.int (i : Nat), x]) ∧ ∀ xs, SqT K H a xs → xs[i]? = some x, fun i H => ∃ xs : List V, SqT K H a xs ∧ xs.length ≤ i⟩
def iEnumT (K : PySem.W.Frag) (ta : TA) : TI := fun σ H R => ta σ H fun vs H1 => ∃ a xs, vs = [.ref a] ∧ SqT K H1 a xs ∧ R (IteT K a) H1
/-- enumerate over a list or a tuple -/
def iEnumQ (K : PySem.W.Frag) (ta : TA) : TI := fun σ H R => iEnum K ta σ H R ∨ iEnumT K ta σ H R
section
variable {K : PySem.W.Frag} {a : Addr} {xs : List V} {g : TG} {tt : TT} {te : TE} {vs : List Nat} {σ : L2.St} {H1 : Hp} {Q : VK}
end
end Pk

namespace Pk
open PySem PySem.Spec PyProof.Rows L2
/-! ### the guarding sum -/
def pr (ns : List Int) : List Int := ns.mapIdx fun j x => ((j : Int) + 1) * (x + 1)
def sm4 (t : Int) : List Int := [t / 1 % 256, t / 256 % 256, t / 65536 % 256, t / 16777216 % 256]
def Byt (ns : List Int) : Prop := ∀ x ∈ ns, 0 ≤ x ∧ x < 256
def spSumOf : Sp := fun vs H Q _ => ∃ (r : Addr) (ns : List Int), vs = [.ref r] ∧ Sq H r (ns.map V.int) ∧ ns.length ≤ 100000 ∧ Byt ns ∧ ∀ p H', Same H H' → H p = none → H' p = some (.lst ((sm4 (pr ns).sum).map V.int)) → Q (.ref p) H'
def spAnyB : Sp := fun vs H Q _ => ∃ (d c : Addr) (b : Nat), vs = [.ref d] ∧ StA H d c b ∧ b + 100 < 100000000 ∧ ∀ p (ns : List Int) H', StA H' d c (b + 70) → Fr d c H H' → H p = none → H' p = some (.lst (ns.map V.int)) → ns.length ≤ 90000 → Byt ns → Q (.ref p) H'
section
variable {K K2 : PySem.W.Frag} {a : Addr} {xs : List V} {tt : TT} {te : TE} {vs : List Nat} {σ : L2.St} {H1 : Hp} {Q : VK}
end
def prV (n : Nat) : V → V | .int x => .int (((n : Int) + 1) * (x + 1)) | v => v
theorem Fr.free {d c : Addr} {H H' : Hp} {b : Nat} {p : Addr} (f : Fr d c H H') (st : StA H' d c b) (hp : H' p = none) : H p = none := by
  cases e : H p with
  | none => rfl
  | some o => have n := st.ne hp; rw [f p o e n.1 n.2] at hp; cases hp
end Pk

namespace Dd
open PySem L2 Pk
/-- an error that was caught, and is nobody's any more: its class, its own dict -/
def ErrO (e C : Addr) (dx : Option Addr) (h : Heap) : Prop := ∃ vs, h.get? e = some { cls := .ref C, dict := dx, data := .fields vs, slots := #[] }
def keyed (fs : List (Str × V)) : List (Key × V) := fs.map fun p => (Sum.inr p.1, p.2)
end Dd

namespace Oc
open PySem PySem.Spec PyProof.Rows L2
/-! ### dicts whose keys are ints, texts and None -/
abbrev OKey := Option Key
def okIs : OKey → Value → Bool
  | none, v => v == .none
  | some k, v => keyIs k v
theorem okIs_shape {k : OKey} {v : Value} (h : okIs k v = true) : (k = none ∧ v = .none) ∨ ∃ k', k = some k' ∧ keyIs k' v = true := by
  cases k with
  | none => exact .inl ⟨rfl, eq_of_beq h⟩
  | some k' => exact .inr ⟨k', rfl, h⟩
def okH (w : World) : OKey → Int
  | none => 0xFCA86420
  | some k => keyH w k
section
variable {prog : Program} {w : World} {A : Around} {E : Value → Shared → Prop} {s : Shared}
theorem hash_none {Q : Int → Shared → Prop} (h : Q 0xFCA86420 { s with toks := s.toks + 1 }) : wpAny (model prog w) A (pyHash .none) Q E s := by
  have hT : s.TypeIs .none "NoneType" := rfl
  show wpAny _ _ (pyHashByItsType .none) Q E s
  unfold pyHashByItsType
  have hv : [Value.none].any Value.onHeap = false := rfl
  refine wpAny_bind ?_
  rw [cRoomFor, if_neg (by rw [hv]; exact Bool.false_ne_true)]
  refine wpAny_pure ?_
  refine wpAny_bind (wpAny_specialOf hT F.slot_NoneType_hash.lookup ?_)
  show wpAny _ _ (if (some (Value.builtin "NoneType.__hash__") == some Value.none) = true then _ else _) Q E s
  rw [if_neg (by rw [beq_builtin_none]; exact Bool.false_ne_true)]
  refine wpAny_bind (wpAny_specialOf hT F.slot_NoneType_hash.lookup ?_)
  show wpAny _ _ (callSpecialIfBoundUnlessNone? .none "__hash__" _ >>= _) Q E s
  refine wpAny_bind (wpAny_callSpecialIfBoundUnlessNone?_slot hT F.slot_NoneType_hash
    (wpAny_call_entry F.slot_NoneType_hash hT F.entry_NoneType_hash
      (wpAny_bind (wpAny_pure (wpAny_bind (wpAny_mkInt (wpAny_pure ⟨_, rfl, ?_⟩))))) (F.args_NoneType_hash_1 _)))
  show wpAny _ _ (if (decide (-(2 : Int) ^ 63 ≤ 0xFCA86420) && decide ((0xFCA86420 : Int) < 2 ^ 63)) = true then _ else _) Q E _
  rw [if_pos (by decide)]
  exact wpAny_pure h
end
theorem eq_none_key {prog : Program} {w : World} {A : Around} {E : Value → Shared → Prop} {s : Shared} {k : Key} {v : Value} {Q : Bool → Shared → Prop} (h : keyIs k v = true) (q : Q false s) : wpAny (model prog w) A (eqBool .none v) Q E s := by
  rcases keyIs_shape h with ⟨i, t, rfl, rfl⟩ | ⟨x, t, rfl, rfl⟩
  · exact SeqAt.EqAt.none_int i t _ _ _ _ q
  · exact SeqAt.EqAt.none_str x t _ _ _ _ q
theorem eq_key_none {prog : Program} {w : World} {A : Around} {E : Value → Shared → Prop} {s : Shared} {k : Key} {v : Value} {Q : Bool → Shared → Prop} (h : keyIs k v = true) (q : Q false s) : wpAny (model prog w) A (eqBool v .none) Q E s := by
  rcases keyIs_shape h with ⟨i, t, rfl, rfl⟩ | ⟨x, t, rfl, rfl⟩
  · exact SeqAt.EqAt.int_none i t _ _ _ _ q
  · exact SeqAt.EqAt.str_none x t _ _ _ _ q
/-- a set of so many items -/
def SetN (a : Addr) (n : Nat) (h : Heap) : Prop := ∃ o es ep t, h.get? a = some o ∧ o.ExactSet ∧ o.data = .set es ep t ∧ t.fits es.size = true ∧ es.size = n ∧ n < 100000
def optKind (prog : Program) (w : World) : PySem.KeyKind prog w OKey where
  is := okIs
  hash := okH w
  inj := fun v a b ha hb => by
    rcases okIs_shape ha with ⟨rfl, rfl⟩ | ⟨ka, rfl, ha⟩
    · rcases okIs_shape hb with ⟨rfl, _⟩ | ⟨kb, rfl, hb⟩
      · rfl
      · rcases keyIs_shape hb with ⟨i, t, _, e⟩ | ⟨x, t, _, e⟩ <;> cases e
    · rcases okIs_shape hb with ⟨rfl, rfl⟩ | ⟨kb, rfl, hb⟩
      · rcases keyIs_shape ha with ⟨i, t, _, e⟩ | ⟨x, t, _, e⟩ <;> cases e
      · rw [(mixKind prog w).inj v ka kb ha hb]
  byValue := fun k v h => by
    rcases okIs_shape h with ⟨rfl, rfl⟩ | ⟨k', rfl, h⟩
    · rfl
    · exact (mixKind prog w).byValue k' v h
  pyHash := fun hv h => by
    rcases okIs_shape hv with ⟨rfl, rfl⟩ | ⟨k', rfl, hv⟩
    · exact hash_none h
    · exact (mixKind prog w).pyHash hv h
  eqBool := fun {A E s a b u v Q} hu hv h => by
    rcases okIs_shape hu with ⟨rfl, rfl⟩ | ⟨ka, rfl, hu⟩
    · rcases okIs_shape hv with ⟨rfl, rfl⟩ | ⟨kb, rfl, hv⟩
      · rw [show decide ((none : OKey) = none) = true from by simp] at h
        unfold PySem.eqBool
        refine wpAny_holding ?_
        rw [if_pos (by decide)]
        exact wpAny_bind (wpAny_rule (wpAny_pure h))
      · rw [show decide ((none : OKey) = some kb) = false from by simp] at h
        exact eq_none_key hv h
    · rcases okIs_shape hv with ⟨rfl, rfl⟩ | ⟨kb, rfl, hv⟩
      · rw [show decide ((some ka : OKey) = none) = false from by simp] at h
        exact eq_key_none hu h
      · rw [show decide ((some ka : OKey) = some kb) = decide (ka = kb) from by simp] at h
        exact (mixKind prog w).eqBool hu hv h
  «strs» := fun k x t v h => by
    rcases okIs_shape h with ⟨_, e⟩ | ⟨k', rfl, h⟩
    · cases e
    · exact (mixKind prog w).strs k' x t v h
def okV : OKey → V
  | none => .non
  | some k => kV k
/-- such a dict, whole -/
def DicO (w : World) (a : Addr) (kvs : List (OKey × V)) (h : Heap) : Prop := (a == sysModules) = false ∧ ∃ vs, KV kvs vs ∧ ∀ P : Program, h.DictOf (optKind P w) a vs
end Oc

namespace Dd
open PySem L2 Pk
/-! ### data, without addresses -/
inductive D where
  | non | bl (b : Bool) | int (i : Int) | str (s : Str) | lst (xs : List D) | tup (xs : List D) | fn (a : Addr) | dk (kvs : List (Key × D)) | dl (kvs : List (Key × D)) | er (C : Addr) (kvs : List (Key × D)) | ob (C : Addr) (kvs : List (Key × D)) | om (w : World) (kvs : List (Option Key × D)) | se (n : Nat)
/-- what a name holds: nothing known, a datum that stays, a list of the name's own, a list of the caller's, the draws' state -/
inductive Sl where
  | no | val (d : D) | own (ds : List D) | bb (ds : List D) | st
/-- what an expression gives: a datum that stays, a list that stands in a name, a new list -/
inductive Rs where
  | s (d : D) | b (ds : List D) | p (ds : List D) | o (ds : List D) | g
def Rs.d : Rs → D
  | .s d => d | .b ds => .lst ds | .p ds => .lst ds | .o ds => .lst ds | .g => .fn 0
mutual
inductive Rp (K : PySem.W.Frag) (F : Hp) : V → D → Prop
  | non : Rp K F .non .non
  | bl (b : Bool) : Rp K F (.bl b) (.bl b)
  | int (i : Int) : Rp K F (.int i) (.int i)
  | str (x : Str) : Rp K F (.str x) (.str x)
  | lst {a : Addr} {vs : List V} {ds : List D} : F a = some (.lst vs) → RpA K F vs ds → Rp K F (.ref a) (.lst ds)
  | tup {a : Addr} {vs : List V} {ds : List D} : F a = some (.tup vs) → RpA K F vs ds → Rp K F (.ref a) (.tup ds)
  | fn (a : Addr) : Rp K F (.ref a) (.fn a)
  | dk {a : Addr} {kvs : List (Key × V)} {kds : List (Key × D)} : F a = some (.dK kvs) → RpK K F kvs kds → Rp K F (.ref a) (.dk kds)
  | dl {a : Addr} {o : Obj} {kvs : List (Key × V)} {kds : List (Key × D)} : F a = some (.frz o (.dK kvs)) → RpK K F kvs kds → Rp K F (.ref a) (.dl kds)
  | er0 {a C : Addr} : F a = some (.ext (ErrO a C none)) → Rp K F (.ref a) (.er C [])
  | er {a C dx : Addr} {fs : List (Str × V)} {kds : List (Key × D)} : F a = some (.ext (ErrO a C (some dx))) → F dx = some (.xd fs) → RpK K F (keyed fs) kds → Rp K F (.ref a) (.er C kds)
  | om {a : Addr} {w : World} {kvs : List (Option Key × V)} {kds : List (Option Key × D)} : F a = some (.ext (Oc.DicO w a kvs)) → RpO K F kvs kds → Rp K F (.ref a) (.om w kds)
  | se {a : Addr} {n : Nat} {f : Heap → Prop} : F a = some (.ext f) → (∀ h, f h → Oc.SetN a n h) → Rp K F (.ref a) (.se n)
  | ob {a C dx : Addr} {fs : List (Str × V)} {kds : List (Key × D)} : F a = some (.ins C dx fs) → F dx = some (.own a) → RpK K F (keyed fs) kds → Rp K F (.ref a) (.ob C kds)
inductive RpA (K : PySem.W.Frag) (F : Hp) : List V → List D → Prop
  | nil : RpA K F [] []
  | cons {v : V} {vs : List V} {d : D} {ds : List D} : Rp K F v d → RpA K F vs ds → RpA K F (v :: vs) (d :: ds)
inductive RpO (K : PySem.W.Frag) (F : Hp) : List (Option Key × V) → List (Option Key × D) → Prop
  | nil : RpO K F [] []
  | cons {k : Option Key} {v : V} {vs : List (Option Key × V)} {d : D} {ds : List (Option Key × D)} : Rp K F v d → RpO K F vs ds → RpO K F ((k, v) :: vs) ((k, d) :: ds)
inductive RpK (K : PySem.W.Frag) (F : Hp) : List (Key × V) → List (Key × D) → Prop
  | nil : RpK K F [] []
  | cons {k : Key} {v : V} {vs : List (Key × V)} {d : D} {ds : List (Key × D)} : Rp K F v d → RpK K F vs ds → RpK K F ((k, v) :: vs) ((k, d) :: ds)
end
mutual
theorem Rp.mono {K : PySem.W.Frag} {F F' : Hp} (h : ∀ a o, F a = some o → F' a = some o) : ∀ {v : V} {d : D}, Rp K F v d → Rp K F' v d
  | _, _, .non => .non
  | _, _, .bl b => .bl b
  | _, _, .int i => .int i
  | _, _, .str x => .str x
  | _, _, .lst e q => .lst (h _ _ e) (RpA.mono h q)
  | _, _, .tup e q => .tup (h _ _ e) (RpA.mono h q)
  | _, _, .fn a => .fn a
  | _, _, .dk e q => .dk (h _ _ e) (RpK.mono h q)
  | _, _, .dl e q => .dl (h _ _ e) (RpK.mono h q)
  | _, _, .er0 e => .er0 (h _ _ e)
  | _, _, .er e e' q => .er (h _ _ e) (h _ _ e') (RpK.mono h q)
  | _, _, .om e q => .om (h _ _ e) (RpO.mono h q)
  | _, _, .se e q => .se (h _ _ e) q
  | _, _, .ob e e' q => .ob (h _ _ e) (h _ _ e') (RpK.mono h q)
theorem RpA.mono {K : PySem.W.Frag} {F F' : Hp} (h : ∀ a o, F a = some o → F' a = some o) : ∀ {vs : List V} {ds : List D}, RpA K F vs ds → RpA K F' vs ds
  | _, _, .nil => .nil
  | _, _, .cons a r => .cons (Rp.mono h a) (RpA.mono h r)
theorem RpO.mono {K : PySem.W.Frag} {F F' : Hp} (h : ∀ a o, F a = some o → F' a = some o) : ∀ {vs : List (Option Key × V)} {ds : List (Option Key × D)}, RpO K F vs ds → RpO K F' vs ds
  | _, _, .nil => .nil
  | _, _, .cons a r => .cons (Rp.mono h a) (RpO.mono h r)
theorem RpK.mono {K : PySem.W.Frag} {F F' : Hp} (h : ∀ a o, F a = some o → F' a = some o) : ∀ {vs : List (Key × V)} {ds : List (Key × D)}, RpK K F vs ds → RpK K F' vs ds
  | _, _, .nil => .nil
  | _, _, .cons a r => .cons (Rp.mono h a) (RpK.mono h r)
end
theorem RpA.length {K : PySem.W.Frag} {F : Hp} : ∀ {vs : List V} {ds : List D}, RpA K F vs ds → vs.length = ds.length
  | _, _, .nil => rfl
  | _, _, .cons _ r => by rw [List.length_cons, List.length_cons, r.length]
theorem RpA.append {K : PySem.W.Frag} {F : Hp} : ∀ {vs ws : List V} {ds es : List D}, RpA K F vs ds → RpA K F ws es → RpA K F (vs ++ ws) (ds ++ es)
  | _, _, _, _, .nil, q => q
  | _, _, _, _, .cons a r, q => .cons a (r.append q)
theorem RpA.one {K : PySem.W.Frag} {F : Hp} {v : V} {d : D} (h : Rp K F v d) : RpA K F [v] [d] := .cons h .nil
theorem RpA.get {K : PySem.W.Frag} {F : Hp} : ∀ {vs : List V} {ds : List D} {i : Nat} {d : D}, RpA K F vs ds → ds[i]? = some d → ∃ v, vs[i]? = some v ∧ Rp K F v d
  | _, _, i, _, .nil, e => by simp at e
  | _, _, 0, _, .cons a r, e => by
    rw [List.getElem?_cons_zero] at e ⊢
    cases e
    exact ⟨_, rfl, a⟩
  | _, _, i + 1, _, .cons a r, e => by
    rw [List.getElem?_cons_succ] at e ⊢
    exact r.get e
theorem RpA.getV {K : PySem.W.Frag} {F : Hp} : ∀ {vs : List V} {ds : List D} {i : Nat} {v : V}, RpA K F vs ds → vs[i]? = some v → ∃ d, ds[i]? = some d ∧ Rp K F v d
  | _, _, i, _, .nil, e => by simp at e
  | _, _, 0, _, .cons a r, e => by
    rw [List.getElem?_cons_zero] at e ⊢
    cases e
    exact ⟨_, rfl, a⟩
  | _, _, i + 1, _, .cons a r, e => by
    rw [List.getElem?_cons_succ] at e ⊢
    exact r.getV e
theorem RpA.set {K : PySem.W.Frag} {F : Hp} {v : V} {d : D} (h : Rp K F v d) : ∀ {vs : List V} {ds : List D} (i : Nat), RpA K F vs ds → RpA K F (vs.set i v) (ds.set i d)
  | _, _, _, .nil => .nil
  | _, _, 0, .cons _ r => .cons h r
  | _, _, i + 1, .cons a r => .cons a (r.set h i)
theorem RpA.drop {K : PySem.W.Frag} {F : Hp} : ∀ {vs : List V} {ds : List D} (n : Nat), RpA K F vs ds → RpA K F (vs.drop n) (ds.drop n)
  | _, _, 0, r => r
  | _, _, _ + 1, .nil => .nil
  | _, _, n + 1, .cons _ r => r.drop n
theorem RpA.take {K : PySem.W.Frag} {F : Hp} : ∀ {vs : List V} {ds : List D} (n : Nat), RpA K F vs ds → RpA K F (vs.take n) (ds.take n)
  | _, _, 0, _ => .nil
  | _, _, _ + 1, .nil => .nil
  | _, _, n + 1, .cons a r => .cons a (r.take n)
/-! ### the heap but for the draws' state -/
abbrev Gh := Option (Addr × Addr)
def off (G : Gh) (H : Hp) : Hp := match G with
  | none => H
  | some (d, c) => fun a => if a = d then none else if a = c then none else H a
def gst (G : Gh) (H : Hp) (b : Nat) : Prop := match G with
  | none => True
  | some (d, c) => StA H d c b
theorem off_sub {G : Gh} {H : Hp} {a : Addr} {o : HO} (h : off G H a = some o) : H a = some o := by
  cases G with
  | none => exact h
  | some p =>
    obtain ⟨d, c⟩ := p
    unfold off at h
    dsimp only at h
    split at h
    · cases h
    · split at h
      · cases h
      · exact h
theorem off_none {G : Gh} {H : Hp} {a : Addr} (h : H a = none) : off G H a = none := by
  cases q : off G H a with
  | none => rfl
  | some o => rw [off_sub q] at h; cases h
theorem off_new {G : Gh} {H : Hp} {b : Nat} {p : Addr} {o : HO} (s : gst G H b) (hp : H p = none) : off G (upd H p o) = upd (off G H) p o := by
  cases G with
  | none => rfl
  | some z =>
    obtain ⟨d, c⟩ := z
    obtain ⟨n1, n2⟩ := StA.ne s hp
    funext a
    show (if a = d then none else if a = c then none else upd H p o a) = upd _ p o a
    by_cases e : a = p
    · subst e
      rw [if_neg n1, if_neg n2, upd_same, upd_same]
    · rw [upd_ne e, upd_ne e]
      rfl
theorem off_mut {G : Gh} {H : Hp} {p : Addr} {o o' : HO} (h : off G H p = some o) : off G (upd H p o') = upd (off G H) p o' := by
  cases G with
  | none => rfl
  | some z =>
    obtain ⟨d, c⟩ := z
    have n1 : p ≠ d := by
      rintro rfl
      unfold off at h
      dsimp only at h
      rw [if_pos rfl] at h
      cases h
    have n2 : p ≠ c := by
      rintro rfl
      unfold off at h
      dsimp only at h
      rw [if_neg n1, if_pos rfl] at h
      cases h
    funext a
    show (if a = d then none else if a = c then none else upd H p o' a) = upd _ p o' a
    by_cases e : a = p
    · subst e
      rw [if_neg n1, if_neg n2, upd_same, upd_same]
    · rw [upd_ne e, upd_ne e]
      rfl
theorem gst_new {G : Gh} {H : Hp} {b : Nat} {p : Addr} {o : HO} (s : gst G H b) (hp : H p = none) : gst G (upd H p o) b := by
  cases G with
  | none => trivial
  | some z => exact StA.new s hp
theorem gst_mut {G : Gh} {H : Hp} {b : Nat} {p : Addr} {o o' : HO} (s : gst G H b) (h : off G H p = some o) : gst G (upd H p o') b := by
  cases G with
  | none => trivial
  | some z =>
    obtain ⟨d, c⟩ := z
    refine StA.upd s ⟨?_, ?_⟩
    · rintro rfl
      unfold off at h
      dsimp only at h
      rw [if_pos rfl] at h
      cases h
    · rintro rfl
      unfold off at h
      dsimp only at h
      split at h
      · cases h
      · rw [if_pos rfl] at h
        cases h
/-! ### a def's run: what was at its entry -/
structure Dc where
  K : PySem.W.Frag
  G : Gh
  F0 : Hp
  B : Hp
def SlOk (c : Dc) (F H : Hp) (x : Option (Option V)) : Sl → Prop
  | .no => True
  | .val d => ∃ v, x = some (some v) ∧ Rp c.K F v d
  | .own ds => ∃ p vs, x = some (some (.ref p)) ∧ F p = none ∧ c.B p = none ∧ off c.G H p = some (.lst vs) ∧ RpA c.K F vs ds
  | .bb ds => ∃ p vs, x = some (some (.ref p)) ∧ c.B p = some (.lst vs) ∧ RpA c.K F vs ds
  | .st => ∃ d k, c.G = some (d, k) ∧ x = some (some (.ref d))
structure R (c : Dc) (F : Hp) (σ : L2.St) (H : Hp) (A : List Sl) (b : Nat) : Prop where
  sub : ∀ a o, F a = some o → off c.G H a = some o
  bsub : ∀ a o, c.B a = some o → off c.G H a = some o
  f0 : ∀ a o, c.F0 a = some o → F a = some o
  n0 : ∀ a o, F a = some o → c.F0 a = some o ∨ c.B a = none
  st : gst c.G H b
  sl : ∀ (i : Nat) (s : Sl), A[i]? = some s → SlOk c F H σ[i]? s
  ds : ∀ (i j : Nat) (p : Addr) (xs ys : List D), A[i]? = some (.own xs) → A[j]? = some (.own ys) → σ[i]? = some (some (.ref p)) → σ[j]? = some (some (.ref p)) → i = j
  len : σ.length = A.length
structure Ext (c : Dc) (F H F' H' : Hp) : Prop where
  f : ∀ a o, F a = some o → F' a = some o
  h : ∀ a o, off c.G H a = some o → off c.G H' a = some o
  n : ∀ a o, F' a = some o → F a = some o ∨ off c.G H a = none
theorem Ext.refl {c : Dc} {F H : Hp} : Ext c F H F H := ⟨fun _ _ h => h, fun _ _ h => h, fun _ _ h => .inl h⟩
theorem Ext.trans {c : Dc} {F H F1 H1 F2 H2 : Hp} (a : Ext c F H F1 H1) (b : Ext c F1 H1 F2 H2) : Ext c F H F2 H2 := by
  refine ⟨fun x o h => b.f x o (a.f x o h), fun x o h => b.h x o (a.h x o h), fun x o h => ?_⟩
  rcases b.n x o h with q | q
  · exact a.n x o q
  · right
    cases e : off c.G H x with
    | none => rfl
    | some u => rw [a.h x u e] at q; cases q
theorem Ext.keep {c : Dc} {F H F' H' : Hp} (e : Ext c F H F' H') {p : Addr} {o : HO} (hf : F p = none) (h : off c.G H p = some o) : F' p = none := by
  cases q : F' p with
  | none => rfl
  | some u =>
    rcases e.n p u q with z | z
    · rw [hf] at z; cases z
    · rw [h] at z; cases z
theorem SlOk.ext {c : Dc} {F H F' H' : Hp} {x : Option (Option V)} {s : Sl} (e : Ext c F H F' H') (h : SlOk c F H x s) : SlOk c F' H' x s := by
  cases s with
  | no => trivial
  | val d => obtain ⟨v, hx, r⟩ := h; exact ⟨v, hx, r.mono e.f⟩
  | own ds => obtain ⟨p, vs, hx, h1, h2, h3, r⟩ := h; exact ⟨p, vs, hx, e.keep h1 h3, h2, e.h _ _ h3, r.mono e.f⟩
  | bb ds => obtain ⟨p, vs, hx, h1, r⟩ := h; exact ⟨p, vs, hx, h1, r.mono e.f⟩
  | st => exact h
theorem R.ext {c : Dc} {F H F' H' : Hp} {σ : L2.St} {A : List Sl} {b b' : Nat} (r : R c F σ H A b) (e : Ext c F H F' H') (hs : ∀ a o, F' a = some o → off c.G H' a = some o) (hg : gst c.G H' b') : R c F' σ H' A b' where
  sub := hs
  bsub := fun a o h => e.h a o (r.bsub a o h)
  f0 := fun a o h => e.f a o (r.f0 a o h)
  n0 := fun a o h => by
    rcases e.n a o h with q | q
    · exact r.n0 a o q
    · right
      cases z : c.B a with
      | none => rfl
      | some u => rw [r.bsub a u z] at q; cases q
  st := hg
  sl := fun i s h => (r.sl i s h).ext e
  ds := r.ds
  len := r.len
/-- a new object, not (yet) one that stays -/
theorem R.alloc {c : Dc} {F H : Hp} {σ : L2.St} {A : List Sl} {b : Nat} {p : Addr} {o : HO} (r : R c F σ H A b) (hp : H p = none) : Ext c F H F (upd H p o) ∧ R c F σ (upd H p o) A b := by
  have e : Ext c F H F (upd H p o) := ⟨fun _ _ h => h, fun a u h => by rw [off_new r.st hp, upd_ne (ne_of_none (off_sub h) hp)]; exact h, fun _ _ h => .inl h⟩
  exact ⟨e, r.ext e (fun a u h => e.h a u (r.sub a u h)) (gst_new r.st hp)⟩
/-- a new object that stays -/
theorem R.allocF {c : Dc} {F H : Hp} {σ : L2.St} {A : List Sl} {b : Nat} {p : Addr} {o : HO} (r : R c F σ H A b) (hp : H p = none) : Ext c F H (upd F p o) (upd H p o) ∧ R c (upd F p o) σ (upd H p o) A b := by
  have hF : F p = none := by
    cases q : F p with
    | none => rfl
    | some u => have := off_sub (r.sub p u q); rw [hp] at this; cases this
  have e : Ext c F H (upd F p o) (upd H p o) := by
    refine ⟨fun a u h => ?_, fun a u h => by rw [off_new r.st hp, upd_ne (ne_of_none (off_sub h) hp)]; exact h, fun a u h => ?_⟩
    · rw [upd_ne (ne_of_none h hF)]; exact h
    · by_cases z : a = p
      · subst z; exact .inr (off_none hp)
      · rw [upd_ne z] at h; exact .inl h
  refine ⟨e, r.ext e (fun a u h => ?_) (gst_new r.st hp)⟩
  rw [off_new r.st hp]
  by_cases z : a = p
  · subst z; rw [upd_same] at h ⊢; exact h
  · rw [upd_ne z] at h ⊢; exact r.sub a u h
/-- a list that stands there and is nobody's becomes one that stays -/
theorem R.stay {c : Dc} {F H : Hp} {σ : L2.St} {A : List Sl} {b : Nat} {p : Addr} {o : HO} (r : R c F σ H A b) (hF : F p = none) (hB : c.B p = none) (hH : off c.G H p = some o) (hn : ∀ (i : Nat) (xs : List D), A[i]? = some (.own xs) → σ[i]? ≠ some (some (.ref p))) :
    R c (upd F p o) σ H A b := by
  have m : ∀ a u, F a = some u → upd F p o a = some u := fun a u h => by rw [upd_ne (ne_of_none h hF)]; exact h
  refine ⟨fun a u h => ?_, r.bsub, fun a u h => m a u (r.f0 a u h), fun a u h => ?_, r.st, fun i s h => ?_, r.ds, r.len⟩
  · by_cases z : a = p
    · subst z; rw [upd_same] at h; rw [hH]; exact h
    · rw [upd_ne z] at h; exact r.sub a u h
  · by_cases z : a = p
    · subst z; exact .inr hB
    · rw [upd_ne z] at h; exact r.n0 a u h
  · have q := r.sl i s h
    cases s with
    | no => trivial
    | val d => obtain ⟨v, hx, rr⟩ := q; exact ⟨v, hx, rr.mono m⟩
    | own ds =>
      obtain ⟨p', vs, hx, h1, h2, h3, rr⟩ := q
      refine ⟨p', vs, hx, ?_, h2, h3, rr.mono m⟩
      rw [upd_ne (fun z => by subst z; exact hn i ds h hx)]
      exact h1
    | bb ds => obtain ⟨p', vs, hx, h1, rr⟩ := q; exact ⟨p', vs, hx, h1, rr.mono m⟩
    | st => exact q
theorem get_set {α : Type} {l : List α} {i j : Nat} {x y : α} (h : (l.set i x)[j]? = some y) : (i = j ∧ x = y) ∨ (i ≠ j ∧ l[j]? = some y) := by
  by_cases e : i = j
  · subst e
    left
    by_cases hl : i < l.length
    · rw [List.getElem?_set_self hl] at h
      exact ⟨rfl, Option.some.inj h⟩
    · rw [List.getElem?_eq_none (by simpa using hl)] at h
      cases h
  · rw [List.getElem?_set_ne e] at h
    exact .inr ⟨e, h⟩
/-- a name is given a value -/
theorem R.put {c : Dc} {F H : Hp} {σ : L2.St} {A : List Sl} {b : Nat} {i : Nat} {v : V} {s : Sl} (r : R c F σ H A b) (hi : SlOk c F H (some (some v)) s) (hn : ∀ (xs : List D), s = .own xs → ∀ (j : Nat) (ys : List D), j ≠ i → A[j]? = some (.own ys) → σ[j]? ≠ some (some v)) :
    R c F (σ.set i (some v)) H (A.set i s) b := by
  refine ⟨r.sub, r.bsub, r.f0, r.n0, r.st, fun j s' h => ?_, fun j k p xs ys h1 h2 e1 e2 => ?_, by rw [List.length_set, List.length_set]; exact r.len⟩
  · rcases get_set h with ⟨rfl, rfl⟩ | ⟨ne, h⟩
    · have hl : i < A.length := by
        rcases Nat.lt_or_ge i A.length with z | z
        · exact z
        · rw [List.getElem?_eq_none (by simpa using z)] at h; cases h
      rw [List.getElem?_set_self (by rw [r.len]; exact hl)]
      exact hi
    · rw [List.getElem?_set_ne ne]
      exact r.sl j s' h
  · rcases get_set h1 with ⟨rfl, q1⟩ | ⟨n1, q1⟩ <;> rcases get_set h2 with ⟨rfl, q2⟩ | ⟨n2, q2⟩
    · rfl
    · exfalso
      rcases get_set e1 with ⟨_, z⟩ | ⟨z, _⟩
      · rw [List.getElem?_set_ne n2] at e2
        refine hn xs q1 k ys (fun z => n2 z.symm) q2 ?_
        rw [e2, ← z]
      · exact z rfl
    · exfalso
      rcases get_set e2 with ⟨_, z⟩ | ⟨z, _⟩
      · rw [List.getElem?_set_ne n1] at e1
        refine hn ys q2 j xs (fun z => n1 z.symm) q1 ?_
        rw [e1, ← z]
      · exact z rfl
    · rw [List.getElem?_set_ne n1] at e1
      rw [List.getElem?_set_ne n2] at e2
      exact r.ds j k p xs ys q1 q2 e1 e2
/-- what is known of a name is forgotten, or said otherwise -/
theorem R.say {c : Dc} {F H : Hp} {σ : L2.St} {A : List Sl} {b : Nat} {i : Nat} {s : Sl} (r : R c F σ H A b) (hi : ∀ t, A[i]? = some t → SlOk c F H σ[i]? s) (hn : ∀ xs, s ≠ .own xs) : R c F σ H (A.set i s) b := by
  refine ⟨r.sub, r.bsub, r.f0, r.n0, r.st, fun j s' h => ?_, fun j k p xs ys h1 h2 e1 e2 => ?_, by rw [List.length_set]; exact r.len⟩
  · rcases get_set h with ⟨rfl, rfl⟩ | ⟨ne, h⟩
    · have hl : i < A.length := by
        rcases Nat.lt_or_ge i A.length with z | z
        · exact z
        · rw [List.getElem?_eq_none (by simpa using z)] at h; cases h
      exact hi _ (List.getElem?_eq_getElem hl)
    · exact r.sl j s' h
  · rcases get_set h1 with ⟨_, q1⟩ | ⟨_, q1⟩
    · exact absurd q1 (hn xs)
    · rcases get_set h2 with ⟨_, q2⟩ | ⟨_, q2⟩
      · exact absurd q2 (hn ys)
      · exact r.ds j k p xs ys q1 q2 e1 e2
theorem R.wiped {c : Dc} {F H : Hp} {σ : L2.St} {A : List Sl} {b : Nat} {i : Nat} (r : R c F σ H A b) : R c F (σ.set i none) H (A.set i .no) b := by
  refine ⟨r.sub, r.bsub, r.f0, r.n0, r.st, fun j s' h => ?_, fun j k p xs ys h1 h2 e1 e2 => ?_, by rw [List.length_set, List.length_set]; exact r.len⟩
  · rcases get_set h with ⟨rfl, rfl⟩ | ⟨ne, h⟩
    · trivial
    · rw [List.getElem?_set_ne ne]
      exact r.sl j s' h
  · rcases get_set h1 with ⟨_, q1⟩ | ⟨n1, q1⟩
    · cases q1
    · rcases get_set h2 with ⟨_, q2⟩ | ⟨n2, q2⟩
      · cases q2
      · rw [List.getElem?_set_ne n1] at e1
        rw [List.getElem?_set_ne n2] at e2
        exact r.ds j k p xs ys q1 q2 e1 e2
/-- a list of a name's own is changed -/
theorem R.mut {c : Dc} {F H : Hp} {σ : L2.St} {A : List Sl} {b : Nat} {i : Nat} {p : Addr} {vs ws : List V} {ds es : List D} (r : R c F σ H A b) (hi : A[i]? = some (.own ds)) (hx : σ[i]? = some (some (.ref p))) (hF : F p = none) (hB : c.B p = none) (hH : off c.G H p = some (.lst vs)) (rw' : RpA c.K F ws es) :
    R c F σ (upd H p (.lst ws)) (A.set i (.own es)) b := by
  have ho : off c.G (upd H p (.lst ws)) = upd (off c.G H) p (.lst ws) := off_mut hH
  refine ⟨fun a o h => ?_, fun a o h => ?_, r.f0, r.n0, gst_mut r.st hH, fun j s' h => ?_, fun j k q xs ys h1 h2 e1 e2 => ?_, by rw [List.length_set]; exact r.len⟩
  · rw [ho, upd_ne (ne_of_none h hF)]; exact r.sub a o h
  · rw [ho, upd_ne (ne_of_none h hB)]; exact r.bsub a o h
  · rcases get_set h with ⟨rfl, rfl⟩ | ⟨ne, h⟩
    · exact ⟨p, ws, hx, hF, hB, by rw [ho, upd_same], rw'⟩
    · have q := r.sl j s' h
      cases s' with
      | no => trivial
      | val d => exact q
      | own es =>
        obtain ⟨p', vs', hx', h1, h2, h3, rr⟩ := q
        refine ⟨p', vs', hx', h1, h2, ?_, rr⟩
        rw [ho, upd_ne (fun z => by subst z; exact ne (r.ds i j p' ds es hi h hx hx'))]
        exact h3
      | bb es => exact q
      | st => exact q
  · have f : ∀ {m : Nat} {zs : List D}, (A.set i (.own es))[m]? = some (.own zs) → ∃ zs', A[m]? = some (.own zs') := fun {m zs} z => by
      rcases get_set z with ⟨rfl, _⟩ | ⟨_, z⟩
      · exact ⟨_, hi⟩
      · exact ⟨_, z⟩
    obtain ⟨xs', q1⟩ := f h1
    obtain ⟨ys', q2⟩ := f h2
    exact r.ds j k q xs' ys' q1 q2 e1 e2
/-- an own list becomes a datum that stays -/
theorem R.frz {c : Dc} {F H : Hp} {σ : L2.St} {A : List Sl} {b : Nat} {i : Nat} {ds : List D} (r : R c F σ H A b) (hi : A[i]? = some (.own ds)) : ∃ F', (∀ a o, F a = some o → F' a = some o) ∧ R c F' σ H (A.set i (.val (.lst ds))) b := by
  obtain ⟨p, vs, hx, h1, h2, h3, rr⟩ := r.sl i _ hi
  have r1 : R c F σ H (A.set i .no) b := r.say (fun _ _ => trivial) (fun xs z => by cases z)
  have m : ∀ a u, F a = some u → upd F p (.lst vs) a = some u := fun a u h => by rw [upd_ne (ne_of_none h h1)]; exact h
  have r2 := r1.stay h1 h2 h3 (fun j xs h e => by
    rcases get_set h with ⟨_, z⟩ | ⟨ne, h⟩
    · cases z
    · exact ne (r.ds i j p ds xs hi h hx e))
  refine ⟨_, m, ?_⟩
  have r3 := r2.say (i := i) (s := .val (.lst ds)) (fun _ _ => ⟨_, hx, .lst upd_same (rr.mono m)⟩) (fun xs z => by cases z)
  rw [List.set_set] at r3
  exact r3
/-- what an expression's value is -/
def RsOk (c : Dc) (F H : Hp) (σ : L2.St) (A : List Sl) (v : V) : Rs → Prop
  | .s d => Rp c.K F v d
  | .b ds => ∃ p vs, v = .ref p ∧ off c.G H p = some (.lst vs) ∧ RpA c.K F vs ds
  | .p ds => ∃ p vs, v = .ref p ∧ c.B p = some (.lst vs) ∧ RpA c.K F vs ds
  | .o ds => ∃ p vs, v = .ref p ∧ F p = none ∧ c.B p = none ∧ off c.G H p = some (.lst vs) ∧ RpA c.K F vs ds ∧ ∀ (i : Nat) (xs : List D), A[i]? = some (.own xs) → σ[i]? ≠ some (some (.ref p))
  | .g => ∃ d k, c.G = some (d, k) ∧ v = .ref d
theorem RsOk.ext {c : Dc} {F H F' H' : Hp} {σ : L2.St} {A : List Sl} {v : V} {r : Rs} (e : Ext c F H F' H') (h : RsOk c F H σ A v r) : RsOk c F' H' σ A v r := by
  cases r with
  | s d => exact h.mono e.f
  | b ds => obtain ⟨p, vs, hv, h1, rr⟩ := h; exact ⟨p, vs, hv, e.h _ _ h1, rr.mono e.f⟩
  | p ds => obtain ⟨p, vs, hv, h1, rr⟩ := h; exact ⟨p, vs, hv, h1, rr.mono e.f⟩
  | o ds => obtain ⟨p, vs, hv, h1, h2, h3, rr, n⟩ := h; exact ⟨p, vs, hv, e.keep h1 h3, h2, e.h _ _ h3, rr.mono e.f, n⟩
  | g => exact h
/-- behind a fresh one -/
theorem RsOk.fresh {c : Dc} {F H : Hp} {σ : L2.St} {A : List Sl} {b : Nat} {p : Addr} {vs : List V} {ds : List D} (r : R c F σ H A b) (hp : H p = none) (h : RpA c.K F vs ds) : RsOk c F (upd H p (.lst vs)) σ A (.ref p) (.o ds) := by
  have nf : ∀ o, off c.G H p ≠ some o := fun o z => by rw [off_none hp] at z; cases z
  refine ⟨p, vs, rfl, ?_, ?_, by rw [off_new r.st hp, upd_same], h, fun i xs hi e => ?_⟩
  · cases q : F p with
    | none => rfl
    | some u => exact absurd (r.sub p u q) (nf u)
  · cases q : c.B p with
    | none => rfl
    | some u => exact absurd (r.bsub p u q) (nf u)
  · obtain ⟨p', vs', hx, _, _, h3, _⟩ := r.sl i _ hi
    rw [hx] at e
    cases e
    exact nf _ h3
/-- an expression has come to a value -/
structure Got (c : Dc) (F H : Hp) (σ : L2.St) (A : List Sl) (F' H' : Hp) (b' : Nat) (v : V) (r : Rs) : Prop where
  rr : R c F' σ H' A b'
  e : Ext c F H F' H'
  ok : RsOk c F' H' σ A v r
  nw : ∀ ds p, r = .o ds → v = .ref p → off c.G H p = none
theorem Ext.none {c : Dc} {F H F' H' : Hp} (e : Ext c F H F' H') {p : Addr} (h : off c.G H' p = none) : off c.G H p = none := by
  cases q : off c.G H p with
  | none => rfl
  | some u => rw [e.h p u q] at h; cases h
/-- nothing was made -/
theorem Got.still {c : Dc} {F H : Hp} {σ : L2.St} {A : List Sl} {b : Nat} {v : V} {d : D} (r : R c F σ H A b) (h : Rp c.K F v d) : Got c F H σ A F H b v (.s d) := ⟨r, .refl, h, fun _ _ z => by cases z⟩
/-- one behind the other -/
theorem Got.pre {c : Dc} {F H F1 H1 F2 H2 : Hp} {σ : L2.St} {A : List Sl} {b2 : Nat} {v : V} {r : Rs} (e : Ext c F H F1 H1) (g : Got c F1 H1 σ A F2 H2 b2 v r) : Got c F H σ A F2 H2 b2 v r :=
  ⟨g.rr, e.trans g.e, g.ok, fun ds p h1 h2 => e.none (g.nw ds p h1 h2)⟩
/-- a new list -/
theorem Got.list {c : Dc} {F H : Hp} {σ : L2.St} {A : List Sl} {b : Nat} {p : Addr} {vs : List V} {ds : List D} (r : R c F σ H A b) (hp : H p = none) (h : RpA c.K F vs ds) : Got c F H σ A F (upd H p (.lst vs)) b (.ref p) (.o ds) :=
  ⟨(r.alloc hp).2, (r.alloc hp).1, .fresh r hp h, fun _ _ _ z => by cases z; exact off_none hp⟩
/-- a new tuple -/
theorem Got.tuple {c : Dc} {F H : Hp} {σ : L2.St} {A : List Sl} {b : Nat} {p : Addr} {vs : List V} {ds : List D} (r : R c F σ H A b) (hp : H p = none) (h : RpA c.K F vs ds) : Got c F H σ A (upd F p (.tup vs)) (upd H p (.tup vs)) b (.ref p) (.s (.tup ds)) :=
  ⟨(r.allocF hp).2, (r.allocF hp).1, .tup upd_same (h.mono (r.allocF (o := .tup vs) hp).1.f), fun _ _ z => by cases z⟩
/-- what may be kept -/
def Rs.kp : Rs → Prop
  | .b _ => False
  | .p _ => False
  | .g => False
  | _ => True
theorem Got.keep {c : Dc} {F H F' H' : Hp} {σ : L2.St} {A : List Sl} {b' : Nat} {v : V} {r : Rs} (gg : Got c F H σ A F' H' b' v r) (k : r.kp) : ∃ F2, (∀ a o, F' a = some o → F2 a = some o) ∧ Got c F H σ A F2 H' b' v (.s r.d) := by
  cases r with
  | s d => exact ⟨F', fun _ _ z => z, gg⟩
  | b ds => exact False.elim k
  | p ds => exact False.elim k
  | g => exact False.elim k
  | o ds =>
    obtain ⟨p, vs, rfl, h1, h2, h3, rr, n⟩ := gg.ok
    have m : ∀ a u, F' a = some u → upd F' p (.lst vs) a = some u := fun a u z => by rw [upd_ne (ne_of_none z h1)]; exact z
    refine ⟨_, m, gg.rr.stay h1 h2 h3 n, ⟨fun a u h => m a u (gg.e.f a u h), gg.e.h, fun a u h => ?_⟩, .lst upd_same (rr.mono m), fun _ _ z => by cases z⟩
    by_cases z : a = p
    · subst z; exact .inr (gg.nw ds a rfl rfl)
    · rw [upd_ne z] at h; exact gg.e.n a u h
theorem Got.fz {c : Dc} {F H F' H' : Hp} {σ : L2.St} {A : List Sl} {b' : Nat} {v : V} {r : Rs} (gg : Got c F H σ A F' H' b' v r) : ∃ F2, Got c F H σ A F2 H' b' v (match r with | .o ds => .s (.lst ds) | r => r) := by
  cases r with
  | s d => exact ⟨F', gg⟩
  | b ds => exact ⟨F', gg⟩
  | p ds => exact ⟨F', gg⟩
  | g => exact ⟨F', gg⟩
  | o ds =>
    obtain ⟨F2, _, g2⟩ := gg.keep trivial
    exact ⟨F2, g2⟩
/-! ### readings over data -/
abbrev DK := Rs → Nat → Prop
abbrev DE := List Sl → Nat → DK → Prop
abbrev DT := List Sl → Nat → (Bool → Nat → Prop) → Prop
abbrev DA := List Sl → Nat → (List Rs → Nat → Prop) → Prop
structure DEnds where
  nx : List Sl → Nat → Prop
  rt : DK
  bk : List Sl → Nat → Prop := fun _ _ => False
  ct : List Sl → Nat → Prop := fun _ _ => False
abbrev DS := DEnds → List Sl → Nat → Prop
/-- a reading over the heap is served by one over data -/
def Lk (c : Dc) (te : TE) (de : DE) : Prop := ∀ F σ H A b Q k, R c F σ H A b → de A b k → (∀ r b' v F' H', k r b' → Got c F H σ A F' H' b' v r → Q v H') → te σ H Q
def LkT (c : Dc) (te : TT) (de : DT) : Prop := ∀ F σ H A b Q k, R c F σ H A b → de A b k → (∀ t b' F' H', k t b' → R c F' σ H' A b' → Ext c F H F' H' → Q t H') → te σ H Q
/-- arguments: a new list becomes one that stays -/
def Rs.fz : Rs → Rs
  | .o ds => .s (.lst ds)
  | r => r
inductive AOk (c : Dc) (F H : Hp) (σ : L2.St) (A : List Sl) : List V → List Rs → Prop
  | nil : AOk c F H σ A [] []
  | cons {v : V} {vs : List V} {r : Rs} {rs : List Rs} : RsOk c F H σ A v r → AOk c F H σ A vs rs → AOk c F H σ A (v :: vs) (r :: rs)
theorem AOk.ext {c : Dc} {F H F' H' : Hp} {σ : L2.St} {A : List Sl} (e : Ext c F H F' H') : ∀ {vs : List V} {rs : List Rs}, AOk c F H σ A vs rs → AOk c F' H' σ A vs rs
  | _, _, .nil => .nil
  | _, _, .cons h t => .cons (h.ext e) (t.ext e)
def LkA (c : Dc) (ta : TA) (da : DA) : Prop := ∀ F σ H A b Q k, R c F σ H A b → da A b k → (∀ rs b' vs F' H', k rs b' → R c F' σ H' A b' → Ext c F H F' H' → AOk c F' H' σ A vs rs → Q vs H') → ta σ H Q
/-- a def's or a block's end -/
def RtOk (c : Dc) (F H : Hp) (v : V) : Rs → Prop
  | .s d => Rp c.K F v d
  | .b _ => False
  | .p _ => False
  | .g => False
  | .o ds => ∃ p vs, v = .ref p ∧ F p = none ∧ c.B p = none ∧ off c.G H p = some (.lst vs) ∧ RpA c.K F vs ds
structure EOk (c : Dc) (F : Hp) (D : Ends) (E : DEnds) : Prop where
  nx : ∀ F' σ H A b, (∀ a o, F a = some o → F' a = some o) → R c F' σ H A b → E.nx A b → D.nx σ H
  rt : ∀ F' σ H A b v r, (∀ a o, F a = some o → F' a = some o) → R c F' σ H A b → RtOk c F' H v r → E.rt r b → D.rt v H
  bk : ∀ F' σ H A b, (∀ a o, F a = some o → F' a = some o) → R c F' σ H A b → E.bk A b → D.bk σ H
  ct : ∀ F' σ H A b, (∀ a o, F a = some o → F' a = some o) → R c F' σ H A b → E.ct A b → D.ct σ H
theorem EOk.up {c : Dc} {F F1 : Hp} {D : Ends} {E : DEnds} (e : EOk c F D E) (h : ∀ a o, F a = some o → F1 a = some o) : EOk c F1 D E :=
  ⟨fun F' σ H A b m => e.nx F' σ H A b fun a o z => m a o (h a o z), fun F' σ H A b v r m => e.rt F' σ H A b v r fun a o z => m a o (h a o z),
   fun F' σ H A b m => e.bk F' σ H A b fun a o z => m a o (h a o z), fun F' σ H A b m => e.ct F' σ H A b fun a o z => m a o (h a o z)⟩
def LkS (c : Dc) (ts : TS) (ds : DS) : Prop := ∀ F σ H A b D E, R c F σ H A b → EOk c F D E → ds E A b → ts D σ H
inductive PEd (X : Cx) (c : Dc) (e : Expr) (de : DE) : Prop
  | mk (te : TE) (h : PE X e te) (l : Lk c te de)
inductive PTd (X : Cx) (c : Dc) (e : Expr) (de : DT) : Prop
  | mk (te : TT) (h : PT X e te) (l : LkT c te de)
inductive PWd (X : Cx) (c : Dc) (e : Expr) (de : DT) : Prop
  | mk (te : TT) (h : PW X e te) (l : LkT c te de)
inductive PAd (X : Cx) (c : Dc) (es : List Expr) (de : DA) : Prop
  | mk (te : TA) (h : PA X es te) (l : LkA c te de)
inductive PSd (X : Cx) (c : Dc) (st : Stmt) (de : DS) : Prop
  | mk (te : TS) (h : PS X st te) (l : LkS c te de)
inductive PSsd (X : Cx) (c : Dc) (st : List Stmt) (de : DS) : Prop
  | mk (te : TS) (h : PSs X st te) (l : LkS c te de)
end Dd

namespace Dd
open PySem L2 Pk
section
variable {X : Cx} {c : Dc}
/-! ### what a value is, by its datum -/
variable {F H : Hp} {σ : L2.St} {A : List Sl} {b : Nat} {v : V} {r : Rs}
theorem RsOk.int {i : Int} (h : RsOk c F H σ A v r) (e : r.d = .int i) : v = .int i := by
  cases r with
  | s d => cases e; cases h; rfl
  | b ds => cases e
  | p ds => cases e
  | o ds => cases e
  | g => cases e
theorem RsOk.str {i : Str} (h : RsOk c F H σ A v r) (e : r.d = .str i) : v = .str i := by
  cases r with
  | s d => cases e; cases h; rfl
  | b ds => cases e
  | p ds => cases e
  | o ds => cases e
  | g => cases e
theorem RsOk.bl {i : Bool} (h : RsOk c F H σ A v r) (e : r.d = .bl i) : v = .bl i := by
  cases r with
  | s d => cases e; cases h; rfl
  | b ds => cases e
  | p ds => cases e
  | o ds => cases e
  | g => cases e
theorem RsOk.non (h : RsOk c F H σ A v r) (e : r.d = .non) : v = .non := by
  cases r with
  | s d => cases e; cases h; rfl
  | b ds => cases e
  | p ds => cases e
  | o ds => cases e
  | g => cases e
theorem RsOk.lst {ds : List D} (rr : R c F σ H A b) (h : RsOk c F H σ A v r) (e : r.d = .lst ds) : ∃ p vs, v = .ref p ∧ H p = some (.lst vs) ∧ RpA c.K F vs ds := by
  cases r with
  | s d =>
    cases e
    cases h with
    | lst h q => exact ⟨_, _, rfl, off_sub (rr.sub _ _ h), q⟩
  | b es => cases e; obtain ⟨p, vs, rfl, h1, q⟩ := h; exact ⟨p, vs, rfl, off_sub h1, q⟩
  | p es => cases e; obtain ⟨p, vs, rfl, h1, q⟩ := h; exact ⟨p, vs, rfl, off_sub (rr.bsub _ _ h1), q⟩
  | o es => cases e; obtain ⟨p, vs, rfl, _, _, h1, q, _⟩ := h; exact ⟨p, vs, rfl, off_sub h1, q⟩
  | g => cases e
theorem RsOk.tup {ds : List D} (rr : R c F σ H A b) (h : RsOk c F H σ A v r) (e : r.d = .tup ds) : ∃ p vs, v = .ref p ∧ SqT c.K H p vs ∧ RpA c.K F vs ds := by
  cases r with
  | s d =>
    cases e
    cases h with
    | tup h q => exact ⟨_, _, rfl, SqT.of (off_sub (rr.sub _ _ h)), q⟩
  | b es => cases e
  | p es => cases e
  | o es => cases e
  | g => cases e
/-- the datum as a whole, in the heap at hand -/
theorem RsOk.rp (rr : R c F σ H A b) (h : RsOk c F H σ A v r) (hg : r ≠ .g) : Rp c.K H v r.d := by
  have m : ∀ a o, F a = some o → H a = some o := fun a o z => off_sub (rr.sub a o z)
  cases r with
  | s d => exact h.mono m
  | b ds => obtain ⟨p, vs, rfl, h1, rr⟩ := h; exact .lst (off_sub h1) (rr.mono m)
  | p ds => obtain ⟨p, vs, rfl, h1, q⟩ := h; exact .lst (off_sub (rr.bsub _ _ h1)) (q.mono m)
  | o ds => obtain ⟨p, vs, rfl, h1, h2, h3, rr, n⟩ := h; exact .lst (off_sub h3) (rr.mono m)
  | g => exact absurd rfl hg
end
section
variable {X : Cx} {c : Dc}
/-! ### names, constants -/
def dVar (i : Nat) : DE := fun A b k => match A[i]? with
  | some (.val d) => k (.s d) b
  | some (.own ds) => k (.b ds) b
  | some (.bb ds) => k (.p ds) b
  | some .st => k .g b
  | _ => False
theorem lk_var {i : Nat} : Lk c (tVar i) (dVar i) := by
  intro F σ H A b Q k rr h hk
  unfold dVar at h
  split at h
  · rename_i d e
    obtain ⟨v, hv, q⟩ := rr.sl i _ e
    exact ⟨v, hv, hk _ _ v F H h (.still rr q)⟩
  · rename_i ds e
    obtain ⟨p, vs, hx, h1, h2, h3, q⟩ := rr.sl i _ e
    exact ⟨_, hx, hk _ _ _ F H h ⟨rr, .refl, ⟨p, vs, rfl, h3, q⟩, fun _ _ z => by cases z⟩⟩
  · rename_i ds e
    obtain ⟨p, vs, hx, h1, q⟩ := rr.sl i _ e
    exact ⟨_, hx, hk _ _ _ F H h ⟨rr, .refl, ⟨p, vs, rfl, h1, q⟩, fun _ _ z => by cases z⟩⟩
  · rename_i e
    obtain ⟨d, kk, hG, hx⟩ := rr.sl i _ e
    exact ⟨_, hx, hk _ _ _ F H h ⟨rr, .refl, ⟨d, kk, hG, rfl⟩, fun _ _ z => by cases z⟩⟩
  · exact h.elim
theorem d_var {i : Nat} {x : Str} {pos : Pos} (h : PE X (.Name x pos) (tVar i)) : PEd X c (.Name x pos) (dVar i) := ⟨_, h, lk_var⟩
def dC (d : D) : DE := fun _ b k => k (.s d) b
theorem lk_c {w : V} {d : D} (h : ∀ F, Rp c.K F w d) : Lk c (tC w) (dC d) := fun F σ H A b Q k rr h' hk => hk _ _ w F H h' (.still rr (h F))
theorem d_int {i j pos} : PEd X c (.Constant (.int i) j pos) (dC (.int i)) := ⟨_, pe_int, lk_c fun _ => .int i⟩
theorem d_bl {i j pos} : PEd X c (.Constant (.bool i) j pos) (dC (.bl i)) := ⟨_, pe_bl, lk_c fun _ => .bl i⟩
theorem d_non {j pos} : PEd X c (.Constant .none j pos) (dC .non) := ⟨_, pe_non, lk_c fun _ => .non⟩
theorem d_str {i j pos} : PEd X c (.Constant (.str i) j pos) (dC (.str i)) := ⟨_, pe_str, lk_c fun _ => .str i⟩
/-! ### two places -/
abbrev D2 := Rs → Rs → (Rs → Prop) → Prop
def dOp (f : D2) (da db : DE) : DE := fun A b k => da A b fun x b1 => db A b1 fun y b2 => f x y fun z => k z b2
/-- an operation over the heap is served by one over data -/
def Ln (c : Dc) (r : R2) (f : D2) : Prop := ∀ F σ H A b x y rx ry Q k, R c F σ H A b → RsOk c F H σ A x rx → RsOk c F H σ A y ry → f rx ry k → (∀ z v F' H', k z → Got c F H σ A F' H' b v z → Q v H') → r x y H Q
theorem lk_op {r : R2} {f : D2} {ta tb : TE} {da db : DE} (l : Ln c r f) (la : Lk c ta da) (lb : Lk c tb db) : Lk c (tOp r ta tb) (dOp f da db) := by
  intro F σ H A b Q k rr h hk
  refine la F σ H A b _ _ rr h fun x b1 vx F1 H1 h1 g1 => ?_
  refine lb F1 σ H1 A b1 _ _ g1.rr h1 fun y b2 vy F2 H2 h2 g2 => ?_
  exact l F2 σ H2 A b2 vx vy x y _ _ g2.rr (g1.ok.ext g2.e) g2.ok h2 fun z v F3 H3 h3 g3 => hk z b2 v F3 H3 h3 ((g3.pre g2.e).pre g1.e)
theorem d_op {a e : Expr} {op : Operator} {pos : Pos} {r : R2} {f : D2} {da db : DE} (ho : OpR X (binaryOp op) r) (l : Ln c r f) (ha : PEd X c a da) (hb : PEd X c e db) : PEd X c (.BinOp a op e pos) (dOp f da db) :=
  let ⟨_, h1, l1⟩ := ha
  let ⟨_, h2, l2⟩ := hb
  ⟨_, pe_op ho h1 h2, lk_op l l1 l2⟩
theorem d_cmp {a e : Expr} {op : CmpOp} {pos : Pos} {r : R2} {f : D2} {da db : DE} (ho : OpR X (compareOp op) r) (l : Ln c r f) (ha : PEd X c a da) (hb : PEd X c e db) (hm : behindInMarks op e = false) : PEd X c (.Compare a [op] [e] pos) (dOp f da db) :=
  let ⟨_, h1, l1⟩ := ha
  let ⟨_, h2, l2⟩ := hb
  ⟨_, pe_cmpR ho h1 h2 hm, lk_op l l1 l2⟩
def dTest (de : DE) : DT := fun A b k => de A b fun r b1 => match r with
  | .s (.bl t) => k t b1
  | _ => False
theorem lk_test {te : TE} {de : DE} (l : Lk c te de) : LkT c (tTest te) (dTest de) := by
  intro F σ H A b Q k rr h hk
  refine l F σ H A b _ _ rr h fun r b1 v F1 H1 h1 g1 => ?_
  split at h1
  · exact ⟨_, g1.ok.bl rfl, hk _ _ _ _ h1 g1.rr g1.e⟩
  · exact h1.elim
theorem t_cmp {a e : Expr} {op : CmpOp} {pos : Pos} {r : R2} {f : D2} {da db : DE} (ho : OpR X (compareOp op) r) (l : Ln c r f) (ha : PEd X c a da) (hb : PEd X c e db) (hm : behindInMarks op e = false) : PTd X c (.Compare a [op] [e] pos) (dTest (dOp f da db)) :=
  let ⟨_, h1, l1⟩ := ha
  let ⟨_, h2, l2⟩ := hb
  ⟨_, pt_cmpR ho h1 h2 hm, lk_test (lk_op l l1 l2)⟩
theorem t_val {a : Expr} {da : DE} (ha : PEd X c a da) (he : ∀ whole, isTrue a X.env whole = (do let v ← whole; standAt a.pos; holding [v] (truthy v)) := by intro _; rfl) : PTd X c a (dTest da) :=
  let ⟨_, h1, l1⟩ := ha
  ⟨_, pt_val h1 he, lk_test l1⟩
/-! ### the operations -/
def fI (C : Int → Int → Prop) (g : Int → Int → D) : D2 := fun x y k => match x, y with
  | .s (.int i), .s (.int j) => C i j ∧ k (.s (g i j))
  | _, _ => False
def fI0 (g : Int → Int → D) : D2 := fun x y k => match x, y with
  | .s (.int i), .s (.int j) => k (.s (g i j))
  | _, _ => False
theorem ln_I {C : Int → Int → Prop} {g : Int → Int → D} {g' : Int → Int → V} (h : ∀ F i j, Rp c.K F (g' i j) (g i j)) : Ln c (rI C g') (fI C g) := by
  intro F σ H A b x y rx ry Q k rr hx hy hf hk
  unfold fI at hf
  split at hf
  · rename_i i j
    exact ⟨i, j, hx.int rfl, hy.int rfl, hf.1, hk _ _ _ _ hf.2 (.still rr (h F i j))⟩
  · exact hf.elim
theorem ln_I0 {g : Int → Int → D} {g' : Int → Int → V} (h : ∀ F i j, Rp c.K F (g' i j) (g i j)) : Ln c (rI0 g') (fI0 g) := by
  intro F σ H A b x y rx ry Q k rr hx hy hf hk
  unfold fI0 at hf
  split at hf
  · rename_i i j
    exact ⟨i, j, hx.int rfl, hy.int rfl, hk _ _ _ _ hf (.still rr (h F i j))⟩
  · exact hf.elim
theorem Ln.or {r r' : R2} {f f' : D2} (h : Ln c r f) (h' : Ln c r' f') : Ln c (fun x y H Q => r x y H Q ∨ r' x y H Q) (fun x y k => f x y k ∨ f' x y k) := by
  intro F σ H A b x y rx ry Q k rr hx hy hf hk
  rcases hf with hf | hf
  · exact .inl (h F σ H A b x y rx ry Q k rr hx hy hf hk)
  · exact .inr (h' F σ H A b x y rx ry Q k rr hx hy hf hk)
theorem Ln.imp {r : R2} {f f' : D2} (h : Ln c r f) (i : ∀ x y k, f' x y k → f x y k) : Ln c r f' := fun F σ H A b x y rx ry Q k rr hx hy hf hk => h F σ H A b x y rx ry Q k rr hx hy (i _ _ _ hf) hk
def fCat : D2 := fun x y k => ∃ xs ys, x.d = .lst xs ∧ y.d = .lst ys ∧ xs.length + ys.length ≤ sizeLine ∧ k (.o (xs ++ ys))
theorem ln_cat : Ln c rCat fCat := by
  rintro F σ H A b x y rx ry Q k rr hx hy ⟨xs, ys, e1, e2, hl, hf⟩ hk
  obtain ⟨p, vs, rfl, h1, q1⟩ := hx.lst rr e1
  obtain ⟨p', ws, rfl, h2, q2⟩ := hy.lst rr e2
  exact ⟨p, p', vs, ws, rfl, rfl, h1, h2, by rw [q1.length, q2.length]; exact hl, fun q hq => hk _ _ _ _ hf (.list rr hq (q1.append q2))⟩
def fCatS : D2 := fun x y k => ∃ s t, x = .s (.str s) ∧ y = .s (.str t) ∧ s.length + t.length ≤ sizeLine ∧ k (.s (.str (s ++ t)))
theorem ln_catS : Ln c (fun x y H Q => ∃ i j, x = .str i ∧ y = .str j ∧ i.length + j.length ≤ sizeLine ∧ Q (.str (i ++ j)) H) fCatS := by
  rintro F σ H A b x y rx ry Q k rr hx hy ⟨s, t, rfl, rfl, hl, hf⟩ hk
  exact ⟨s, t, hx.str rfl, hy.str rfl, hl, hk _ _ _ _ hf (.still rr (.str _))⟩
def fRep : D2 := fun x y k => ∃ xs n, x.d = .lst xs ∧ y = .s (.int n) ∧ -(2 ^ 63) ≤ n ∧ n < 2 ^ 63 ∧ xs.length * n.toNat ≤ sizeLine ∧ k (.o (List.replicate n.toNat xs).flatten)
/-- + : ints, texts, lists -/
def aAdd : D2 := fun x y k => fI0 (fun i j => .int (i + j)) x y k ∨ fCatS x y k ∨ fCat x y k
theorem d_add {a e : Expr} {pos : Pos} {da db : DE} (ha : PEd X c a da) (hb : PEd X c e db) : PEd X c (.BinOp a .Add e pos) (dOp aAdd da db) :=
  d_op (op_add.or (op_add_str.or op_cat)) ((ln_I0 fun _ _ _ => .int _).or (ln_catS.or ln_cat)) ha hb
@[reducible] def aSub : D2 := fI0 fun i j => .int (i - j)
theorem d_sub {a e : Expr} {pos : Pos} {da db : DE} (ha : PEd X c a da) (hb : PEd X c e db) : PEd X c (.BinOp a .Sub e pos) (dOp aSub da db) := d_op op_sub (ln_I0 fun _ _ _ => .int _) ha hb
@[reducible] def aMul : D2 := fI CMul fun i j => .int (i * j)
theorem d_mul {a e : Expr} {pos : Pos} {da db : DE} (ha : PEd X c a da) (hb : PEd X c e db) : PEd X c (.BinOp a .Mult e pos) (dOp aMul da db) := d_op op_mul (ln_I fun _ _ _ => .int _) ha hb
@[reducible] def aFdiv : D2 := fI CDivW fun i j => .int (i / j)
theorem d_fdiv {a e : Expr} {pos : Pos} {da db : DE} (ha : PEd X c a da) (hb : PEd X c e db) : PEd X c (.BinOp a .FloorDiv e pos) (dOp aFdiv da db) := d_op op_fdivW (ln_I fun _ _ _ => .int _) ha hb
@[reducible] def aMod : D2 := fI (fun _ j => 0 < j) fun i j => .int (i % j)
theorem d_mod {a e : Expr} {pos : Pos} {da db : DE} (ha : PEd X c a da) (hb : PEd X c e db) : PEd X c (.BinOp a .Mod e pos) (dOp aMod da db) := d_op op_mod (ln_I fun _ _ _ => .int _) ha hb
@[reducible] def aPow : D2 := fI CPow fun i j => .int (i ^ j.toNat)
theorem d_pow {a e : Expr} {pos : Pos} {da db : DE} (ha : PEd X c a da) (hb : PEd X c e db) : PEd X c (.BinOp a .Pow e pos) (dOp aPow da db) := d_op op_pow (ln_I fun _ _ _ => .int _) ha hb
@[reducible] def aShl : D2 := fI CPow fun i j => .int (i * 2 ^ j.toNat)
@[reducible] def aShr : D2 := fI (fun _ j => 0 ≤ j) fun i j => .int (i / 2 ^ j.toNat)
@[reducible] def aBand : D2 := fI0 fun i j => .int (Builtin.bitAnd i j)
/-! ### comparisons -/
/-- < and its like: ints, texts -/
def fO (g : Int → Int → Bool) (h : Str → Str → Bool) : D2 := fun x y k => match x, y with
  | .s (.int i), .s (.int j) => k (.s (.bl (g i j)))
  | .s (.str i), .s (.str j) => k (.s (.bl (h i j)))
  | _, _ => False
theorem ln_O {g : Int → Int → Bool} {h : Str → Str → Bool} : Ln c (fun x y H Q => rI0 (fun i j => .bl (g i j)) x y H Q ∨ ∃ i j, x = .str i ∧ y = .str j ∧ Q (.bl (h i j)) H) (fO g h) := by
  intro F σ H A b x y rx ry Q k rr hx hy hf hk
  unfold fO at hf
  split at hf
  · exact .inl ⟨_, _, hx.int rfl, hy.int rfl, hk _ _ _ _ hf (.still rr (.bl _))⟩
  · exact .inr ⟨_, _, hx.str rfl, hy.str rfl, hk _ _ _ _ hf (.still rr (.bl _))⟩
  · exact hf.elim
def ltS (i j : Str) : Bool := decide (i.cps.toList < j.cps.toList)
@[reducible] def aLt : D2 := fO (fun i j => decide (i < j)) ltS
@[reducible] def aLe : D2 := fO (fun i j => decide (i ≤ j)) fun i j => !ltS j i
@[reducible] def aGt : D2 := fO (fun i j => decide (j < i)) fun i j => ltS j i
@[reducible] def aGe : D2 := fO (fun i j => decide (j ≤ i)) fun i j => !ltS i j
theorem o_lt : OpR X (compareOp .Lt) (fun x y H Q => rI0 (fun i j => .bl (decide (i < j))) x y H Q ∨ ∃ i j, x = .str i ∧ y = .str j ∧ Q (.bl (ltS i j)) H) := op_lt.or op_lt_str
theorem o_le : OpR X (compareOp .LtE) (fun x y H Q => rI0 (fun i j => .bl (decide (i ≤ j))) x y H Q ∨ ∃ i j, x = .str i ∧ y = .str j ∧ Q (.bl (!ltS j i)) H) := op_le.or op_le_str
theorem o_gt : OpR X (compareOp .Gt) (fun x y H Q => rI0 (fun i j => .bl (decide (j < i))) x y H Q ∨ ∃ i j, x = .str i ∧ y = .str j ∧ Q (.bl (ltS j i)) H) := op_gt.or op_gt_str
theorem o_ge : OpR X (compareOp .GtE) (fun x y H Q => rI0 (fun i j => .bl (decide (j ≤ i))) x y H Q ∨ ∃ i j, x = .str i ∧ y = .str j ∧ Q (.bl (!ltS i j)) H) := op_ge.or op_ge_str
/-! ### the same, not the same -/
mutual
def py : D → PyData
  | .non => .none
  | .bl b => .bool b
  | .int i => .int i
  | .str s => .str s
  | .lst xs => .list (pys xs)
  | .tup xs => .tuple (pys xs)
  | .fn _ => .none
  | .dk _ => .none
  | .dl _ => .none
  | .er _ _ => .none
  | .ob _ _ => .none
  | .om _ _ => .none
  | .se _ => .none
def pys : List D → List PyData
  | [] => []
  | x :: xs => py x :: pys xs
end
mutual
/-- without functions and dicts -/
def pl : D → Bool
  | .lst xs => pls xs
  | .tup xs => pls xs
  | .fn _ => false
  | .dk _ => false
  | .dl _ => false
  | .er _ _ => false
  | .ob _ _ => false
  | .om _ _ => false
  | .se _ => false
  | _ => true
def pls : List D → Bool
  | [] => true
  | x :: xs => pl x && pls xs
end
mutual
theorem Rp.dp {K : PySem.W.Frag} {H : Hp} : ∀ {d : D} {v : V}, Rp K H v d → pl d = true → Dp K H v (py d)
  | .non, _, .non, _ => .non
  | .bl _, _, .bl b, _ => .bl b
  | .int _, _, .int i, _ => .int i
  | .str _, _, .str x, _ => .str x
  | .lst ds, _, .lst e q, h => .lst (SqL.of e) (RpA.dp (ds := ds) q (by unfold pl at h; exact h))
  | .tup ds, _, .tup e q, h => .tup (SqT.of e) (RpA.dp (ds := ds) q (by unfold pl at h; exact h))
  | .fn _, _, .fn a, h => by unfold pl at h; cases h
  | .dk _, _, .dk e q, h => by unfold pl at h; cases h
  | .dl _, _, .dl e q, h => by unfold pl at h; cases h
  | .er _ _, _, .er0 e, h => by unfold pl at h; cases h
  | .er _ _, _, .er e e' q, h => by unfold pl at h; cases h
  | .ob _ _, _, .ob e e' q, h => by unfold pl at h; cases h
  | .om _ _, _, .om e q, h => by unfold pl at h; cases h
  | .se _, _, .se e q, h => by unfold pl at h; cases h
theorem RpA.dp {K : PySem.W.Frag} {H : Hp} : ∀ {ds : List D} {vs : List V}, RpA K H vs ds → pls ds = true → DpAll K H vs (pys ds)
  | [], _, .nil, _ => .nil
  | d :: ds, _, .cons a r, h => by
    unfold pls at h
    rw [Bool.and_eq_true] at h
    exact .cons (Rp.dp a h.1) (RpA.dp r h.2)
end
def Shp (d : D) : Prop := pl d = true ∧ SeqAt.shaped (py d) = true
def eqd (x y : D) : Bool := PyData.eqv (py x) (py y)
/-- == and != over data -/
def fEq (neg : Bool) : D2 := fun x y k => x ≠ .g ∧ y ≠ .g ∧ Shp x.d ∧ Shp y.d ∧ k (.s (.bl (if neg then !eqd x.d y.d else eqd x.d y.d)))
theorem ln_eq : Ln c (rEqD c.K) (fEq false) := by
  rintro F σ H A b x y rx ry Q k rr hx hy ⟨g1, g2, s1, s2, hf⟩ hk
  exact ⟨_, _, (hx.rp rr g1).dp s1.1, (hy.rp rr g2).dp s2.1, s1.2, s2.2, hk _ _ _ _ hf (.still rr (.bl _))⟩
theorem ln_ne : Ln c (rNeD c.K) (fEq true) := by
  rintro F σ H A b x y rx ry Q k rr hx hy ⟨g1, g2, s1, s2, hf⟩ hk
  exact ⟨_, _, (hx.rp rr g1).dp s1.1, (hy.rp rr g2).dp s2.1, s1.2, s2.2, hk _ _ _ _ hf (.still rr (.bl _))⟩
def isN : D → Bool
  | .non => true
  | _ => false
theorem isN_v {F : Hp} {v : V} {d : D} {K : PySem.W.Frag} (h : Rp K F v d) : decide (v = .non) = isN d := by
  cases h <;> simp [isN]
def fIs (neg : Bool) : D2 := fun x y k => x ≠ .g ∧ y = .s .non ∧ k (.s (.bl (if neg then !isN x.d else isN x.d)))
theorem ln_is : Ln c (fun x y H Q => y = .non ∧ Q (.bl (decide (x = .non))) H) (fIs false) := by
  rintro F σ H A b x y rx ry Q k rr hx hy ⟨g1, rfl, hf⟩ hk
  refine ⟨hy.non rfl, ?_⟩
  rw [isN_v (hx.rp rr g1)]
  exact hk _ _ _ _ hf (.still rr (.bl _))
theorem ln_isnot : Ln c (fun x y H Q => y = .non ∧ Q (.bl (!decide (x = .non))) H) (fIs true) := by
  rintro F σ H A b x y rx ry Q k rr hx hy ⟨g1, rfl, hf⟩ hk
  refine ⟨hy.non rfl, ?_⟩
  rw [isN_v (hx.rp rr g1)]
  exact hk _ _ _ _ hf (.still rr (.bl _))
/-! ### in, not in: flat items -/
def flt : D → Bool
  | .non => true
  | .bl _ => true
  | .int _ => true
  | .str _ => true
  | _ => false
def toV : D → V
  | .bl b => .bl b
  | .int i => .int i
  | .str s => .str s
  | _ => .non
theorem flt_v {K : PySem.W.Frag} {F : Hp} {v : V} {d : D} (h : Rp K F v d) (f : flt d = true) : v = toV d ∧ flatV v = true := by
  cases h <;> first | exact ⟨rfl, rfl⟩ | (unfold flt at f; cases f)
theorem flt_vs {K : PySem.W.Frag} {F : Hp} : ∀ {vs : List V} {ds : List D}, RpA K F vs ds → ds.all flt = true → vs = ds.map toV ∧ vs.all flatV = true
  | _, _, .nil, _ => ⟨rfl, rfl⟩
  | _, _, .cons a r, f => by
    rw [List.all_cons, Bool.and_eq_true] at f
    obtain ⟨e1, f1⟩ := flt_v a f.1
    obtain ⟨e2, f2⟩ := flt_vs r f.2
    exact ⟨by rw [List.map_cons, e1, e2], by rw [List.all_cons, f1, f2]; rfl⟩
def ind (x : D) (xs : List D) : Bool := inV (toV x) (xs.map toV)
def fIn (neg : Bool) : D2 := fun x y k => ∃ xs, (y.d = .lst xs ∨ y.d = .tup xs) ∧ x ≠ .g ∧ flt x.d = true ∧ xs.all flt = true ∧ k (.s (.bl (if neg then !ind x.d xs else ind x.d xs)))
theorem ln_in {neg : Bool} : Ln c (rIn c.K neg) (fIn neg) := by
  rintro F σ H A b x y rx ry Q k rr hx hy ⟨xs, hd, g1, f1, f2, hf⟩ hk
  obtain ⟨e1, z1⟩ := flt_v (hx.rp rr g1) f1
  have go : ∀ p vs, y = .ref p → (SqL c.K H p vs ∨ SqT c.K H p vs) → RpA c.K F vs xs → rIn c.K neg x y H Q := fun p vs ey hq q => by
    obtain ⟨e2, z2⟩ := flt_vs q f2
    refine ⟨p, vs, ey, hq, z1, z2, ?_⟩
    rw [e1, e2]
    exact hk _ _ _ _ hf (.still rr (.bl _))
  rcases hd with hd | hd
  · obtain ⟨p, vs, ey, h1, q⟩ := hy.lst rr hd
    exact go p vs ey (.inl (SqL.of h1)) q
  · obtain ⟨p, vs, ey, h1, q⟩ := hy.tup rr hd
    exact go p vs ey (.inr h1) q
/-! ### an item -/
def fIx : D2 := fun x y k => ∃ i, y = .s (.int i) ∧ ((∃ xs d, (x.d = .lst xs ∨ x.d = .tup xs) ∧ atI xs i = some d ∧ k (.s d)) ∨ ∃ z n, x = .s (.str z) ∧ z.length ≤ sizeLine ∧ atI z.cps.toList i = some n ∧ k (.s (.str ⟨#[n]⟩)))
theorem atI_rp {K : PySem.W.Frag} {F : Hp} {vs : List V} {ds : List D} {i : Int} {d : D} (h : RpA K F vs ds) (e : atI ds i = some d) : ∃ v, atI vs i = some v ∧ Rp K F v d := by
  unfold atI at e ⊢
  rw [h.length]
  cases q : ixN ds.length i with
  | none => rw [q] at e; cases e
  | some j => rw [q] at e; exact h.get e
theorem ln_ix : Ln c (rIx c.K) fIx := by
  rintro F σ H A b x y rx ry Q k rr hx hy ⟨i, rfl, hf⟩ hk
  rcases hf with ⟨xs, d, hd, ha, hf⟩ | ⟨z, n, rfl, hz, ha, hf⟩
  · rcases hd with hd | hd
    · obtain ⟨p, vs, ey, h1, q⟩ := hx.lst rr hd
      obtain ⟨v, e, rv⟩ := atI_rp q ha
      exact .inl ⟨p, vs, i, v, ey, hy.int rfl, SqL.of h1, e, hk _ _ _ _ hf (.still rr rv)⟩
    · obtain ⟨p, vs, ey, h1, q⟩ := hx.tup rr hd
      obtain ⟨v, e, rv⟩ := atI_rp q ha
      exact .inr (.inl ⟨p, vs, i, v, ey, hy.int rfl, h1, e, hk _ _ _ _ hf (.still rr rv)⟩)
  · exact .inr (.inr ⟨z, i, n, hx.str rfl, hy.int rfl, hz, ha, hk _ _ _ _ hf (.still rr (.str _))⟩)
theorem d_ix {a e : Expr} {pos : Pos} {da db : DE} (hK : c.K = X.K) (ha : PEd X c a da) (hb : PEd X c e db) (hs : PlainIx e) : PEd X c (.Subscript a e pos) (dOp fIx da db) :=
  let ⟨_, h1, l1⟩ := ha
  let ⟨_, h2, l2⟩ := hb
  ⟨_, pe_ix ix_seq h1 h2 hs, lk_op (hK ▸ ln_ix) l1 l2⟩
end
end Dd

namespace Dd
open PySem L2 Pk
section
variable {X : Cx} {c : Dc}
/-! ### tests -/
def dNotT (da : DT) : DT := fun A b k => da A b fun t b1 => k (!t) b1
def dAndT (da db : DT) : DT := fun A b k => da A b fun t b1 => if t = true then db A b1 k else k false b1
def dOrT (da db : DT) : DT := fun A b k => da A b fun t b1 => if t = true then k true b1 else db A b1 k
theorem t_not {a : Expr} {pos : Pos} {da : DT} (ha : PTd X c a da) : PTd X c (.UnaryOp .Not a pos) (dNotT da) :=
  let ⟨_, h1, l1⟩ := ha
  ⟨_, pt_not h1, fun F σ H A b Q k rr h hk => l1 F σ H A b _ _ rr h fun t b1 F1 H1 h1 r1 e1 => hk _ _ _ _ h1 r1 e1⟩
theorem w_and1 {a : Expr} {pos : Pos} {da : DT} (ha : PTd X c a da) : PWd X c (.BoolOp .And [a] pos) da :=
  let ⟨_, h1, l1⟩ := ha
  ⟨_, pw_and1 h1, l1⟩
theorem w_or1 {a : Expr} {pos : Pos} {da : DT} (ha : PTd X c a da) : PWd X c (.BoolOp .Or [a] pos) da :=
  let ⟨_, h1, l1⟩ := ha
  ⟨_, pw_or1 h1, l1⟩
theorem w_and {a e : Expr} {rest : List Expr} {pos : Pos} {da db : DT} (ha : PTd X c a da) (hb : PWd X c (.BoolOp .And (e :: rest) pos) db) : PWd X c (.BoolOp .And (a :: e :: rest) pos) (dAndT da db) :=
  let ⟨_, h1, l1⟩ := ha
  let ⟨_, h2, l2⟩ := hb
  ⟨_, pw_and h1 h2, fun F σ H A b Q k rr h hk => l1 F σ H A b _ _ rr h fun t b1 F1 H1 h1 r1 e1 => by
    cases t with
    | true => exact l2 F1 σ H1 A b1 _ _ r1 h1 fun t2 b2 F2 H2 h2 r2 e2 => hk _ _ _ _ h2 r2 (e1.trans e2)
    | false => exact hk _ _ _ _ h1 r1 e1⟩
theorem w_or {a e : Expr} {rest : List Expr} {pos : Pos} {da db : DT} (ha : PTd X c a da) (hb : PWd X c (.BoolOp .Or (e :: rest) pos) db) : PWd X c (.BoolOp .Or (a :: e :: rest) pos) (dOrT da db) :=
  let ⟨_, h1, l1⟩ := ha
  let ⟨_, h2, l2⟩ := hb
  ⟨_, pw_or h1 h2, fun F σ H A b Q k rr h hk => l1 F σ H A b _ _ rr h fun t b1 F1 H1 h1 r1 e1 => by
    cases t with
    | true => exact hk _ _ _ _ h1 r1 e1
    | false => exact l2 F1 σ H1 A b1 _ _ r1 h1 fun t2 b2 F2 H2 h2 r2 e2 => hk _ _ _ _ h2 r2 (e1.trans e2)⟩
theorem PWd.pt {a : Expr} {da : DT} (h : PWd X c a da) : PTd X c a da :=
  let ⟨_, h1, l1⟩ := h
  ⟨_, h1.pt, l1⟩
/-- a value's truth -/
def tru : D → Option Bool
  | .non => some false
  | .bl b => some b
  | .int i => some (i != 0)
  | .str y => if y.length ≤ sizeLine then some ((y.length : Int) != 0) else none
  | .lst xs => some (!xs.isEmpty)
  | .tup xs => some (!xs.isEmpty)
  | _ => none
def dTru (de : DE) : DT := fun A b k => de A b fun r b1 => r ≠ .g ∧ ∃ t, tru r.d = some t ∧ k t b1
/-! ### and, or, not as values; a if t else b -/
def dNot (da : DE) : DE := fun A b k => da A b fun r b1 => match r with
  | .s (.bl t) => k (.s (.bl (!t))) b1
  | _ => False
def dAnd (da db : DE) : DE := fun A b k => da A b fun r b1 => match r with
  | .s (.bl t) => if t = true then db A b1 k else k (.s (.bl false)) b1
  | _ => False
def dOr (da db : DE) : DE := fun A b k => da A b fun r b1 => match r with
  | .s (.bl t) => if t = true then k (.s (.bl true)) b1 else db A b1 k
  | _ => False
def dIf (dt : DT) (da db : DE) : DE := fun A b k => dt A b fun t b1 => if t = true then da A b1 k else db A b1 k
theorem d_not {a : Expr} {pos : Pos} {da : DE} (ha : PEd X c a da) : PEd X c (.UnaryOp .Not a pos) (dNot da) :=
  let ⟨_, h1, l1⟩ := ha
  ⟨_, pe_not h1, fun F σ H A b Q k rr h hk => l1 F σ H A b _ _ rr h fun r b1 v F1 H1 h1 g1 => by
    split at h1
    · exact ⟨_, g1.ok.bl rfl, hk _ _ _ _ _ h1 ((Got.still g1.rr (.bl _)).pre g1.e)⟩
    · exact h1.elim⟩
theorem d_one {op} {a : Expr} {pos : Pos} {da : DE} (ha : PEd X c a da) : PEd X c (.BoolOp op [a] pos) da :=
  let ⟨_, h1, l1⟩ := ha
  ⟨_, pe_one h1, l1⟩
theorem d_and {a e : Expr} {rest : List Expr} {pos : Pos} {da db : DE} (ha : PEd X c a da) (hb : PEd X c (.BoolOp .And (e :: rest) pos) db) : PEd X c (.BoolOp .And (a :: e :: rest) pos) (dAnd da db) :=
  let ⟨_, h1, l1⟩ := ha
  let ⟨_, h2, l2⟩ := hb
  ⟨_, pe_and h1 h2, fun F σ H A b Q k rr h hk => l1 F σ H A b _ _ rr h fun r b1 v F1 H1 h1 g1 => by
    split at h1
    · rename_i t
      refine ⟨t, g1.ok.bl rfl, ?_⟩
      cases t with
      | true => exact l2 F1 σ H1 A b1 _ _ g1.rr h1 fun t2 b2 v2 F2 H2 h2 g2 => hk _ _ _ _ _ h2 (g2.pre g1.e)
      | false => exact hk _ _ _ _ _ h1 ((Got.still g1.rr (.bl _)).pre g1.e)
    · exact h1.elim⟩
theorem d_or {a e : Expr} {rest : List Expr} {pos : Pos} {da db : DE} (ha : PEd X c a da) (hb : PEd X c (.BoolOp .Or (e :: rest) pos) db) : PEd X c (.BoolOp .Or (a :: e :: rest) pos) (dOr da db) :=
  let ⟨_, h1, l1⟩ := ha
  let ⟨_, h2, l2⟩ := hb
  ⟨_, pe_or h1 h2, fun F σ H A b Q k rr h hk => l1 F σ H A b _ _ rr h fun r b1 v F1 H1 h1 g1 => by
    split at h1
    · rename_i t
      refine ⟨t, g1.ok.bl rfl, ?_⟩
      cases t with
      | true => exact hk _ _ _ _ _ h1 ((Got.still g1.rr (.bl _)).pre g1.e)
      | false => exact l2 F1 σ H1 A b1 _ _ g1.rr h1 fun t2 b2 v2 F2 H2 h2 g2 => hk _ _ _ _ _ h2 (g2.pre g1.e)
    · exact h1.elim⟩
theorem d_if {t a e : Expr} {pos : Pos} {dt : DT} {da db : DE} (ht : PTd X c t dt) (ha : PEd X c a da) (hb : PEd X c e db) : PEd X c (.IfExp t a e pos) (dIf dt da db) :=
  let ⟨_, h0, l0⟩ := ht
  let ⟨_, h1, l1⟩ := ha
  let ⟨_, h2, l2⟩ := hb
  ⟨_, pe_ifExp h0 h1 h2, fun F σ H A b Q k rr h hk => l0 F σ H A b _ _ rr h fun t b1 F1 H1 h1 r1 e1 => by
    cases t with
    | true => exact l1 F1 σ H1 A b1 _ _ r1 h1 fun r b2 v F2 H2 h2 g2 => hk _ _ _ _ _ h2 (g2.pre e1)
    | false => exact l2 F1 σ H1 A b1 _ _ r1 h1 fun r b2 v F2 H2 h2 g2 => hk _ _ _ _ _ h2 (g2.pre e1)⟩
def dNeg (da : DE) : DE := fun A b k => da A b fun r b1 => match r with | .s (.int i) => k (.s (.int (-i))) b1 | _ => False
theorem d_neg {a : Expr} {pos : Pos} {da : DE} (ha : PEd X c a da) : PEd X c (.UnaryOp .USub a pos) (dNeg da) :=
  let ⟨_, h1, l1⟩ := ha
  ⟨_, pe_un un_neg h1, fun F σ H A b Q k rr h hk => l1 F σ H A b _ _ rr h fun r b1 v F1 H1 h1 g1 => by
    split at h1
    · exact ⟨_, g1.ok.int rfl, hk _ _ _ _ _ h1 ((Got.still g1.rr (.int _)).pre g1.e)⟩
    · exact h1.elim⟩
/-- a < b < c -/
def dChain (f g : D2) (da db dc : DE) : DE := fun A b k => da A b fun x b1 => db A b1 fun y b2 => f x y fun z => match z with
  | .s (.bl t) => if t = true then dc A b2 fun w b3 => g y w fun z => k z b3 else k (.s (.bl false)) b2
  | _ => False
/-! ### arguments, displays -/
def dNil : DA := fun _ b k => k [] b
def dCons (de : DE) (da : DA) : DA := fun A b k => de A b fun r b1 => da A b1 fun rs b2 => k (r.fz :: rs) b2
theorem a_nil : PAd X c [] dNil := ⟨_, pa_nil, fun F σ H A b Q k rr h hk => hk _ _ _ _ _ h rr .refl .nil⟩
theorem fz_ok {F H F' H' : Hp} {σ : L2.St} {A : List Sl} {b' : Nat} {v : V} {r : Rs} (g : Got c F H σ A F' H' b' v r) : ∃ F2, Got c F H σ A F2 H' b' v r.fz := by
  obtain ⟨F2, q⟩ := g.fz
  exact ⟨F2, by cases r <;> exact q⟩
theorem a_cons {e : Expr} {es : List Expr} {de : DE} {da : DA} (ha : PEd X c e de) (hr : PAd X c es da) (hs : starEach (e :: es) X.env = (false, eval e X.env) :: starEach es X.env) : PAd X c (e :: es) (dCons de da) :=
  let ⟨_, h1, l1⟩ := ha
  let ⟨_, h2, l2⟩ := hr
  ⟨_, pa_cons h1 h2 hs, fun F σ H A b Q k rr h hk => l1 F σ H A b _ _ rr h fun r b1 v F1 H1 h1 g1 => by
    obtain ⟨F1', g1⟩ := fz_ok g1
    exact l2 F1' σ H1 A b1 _ _ g1.rr h1 fun rs b2 vs F2 H2 h2 r2 e2 a2 => hk _ _ _ _ _ h2 r2 (g1.e.trans e2) (.cons (g1.ok.ext e2) a2)⟩
/-- what may stand in a list -/
def kps : List Rs → Option (List D)
  | [] => some []
  | .s d :: rs => (kps rs).map (d :: ·)
  | _ => none
theorem AOk.rpa {F H : Hp} {σ : L2.St} {A : List Sl} : ∀ {vs : List V} {rs : List Rs} {ds : List D}, AOk c F H σ A vs rs → kps rs = some ds → RpA c.K F vs ds
  | _, _, _, .nil, e => by cases e; exact .nil
  | _, .s d :: rs, _, .cons h t, e => by
    unfold kps at e
    cases q : kps rs with
    | none => rw [q] at e; cases e
    | some es => rw [q] at e; cases e; exact .cons h (t.rpa q)
  | _, .b _ :: rs, _, .cons h t, e => by cases e
  | _, .p _ :: rs, _, .cons h t, e => by cases e
  | _, .o _ :: rs, _, .cons h t, e => by cases e
  | _, .g :: rs, _, .cons h t, e => by cases e
theorem AOk.length {F H : Hp} {σ : L2.St} {A : List Sl} : ∀ {vs : List V} {rs : List Rs}, AOk c F H σ A vs rs → vs.length = rs.length
  | _, _, .nil => rfl
  | _, _, .cons _ t => by rw [List.length_cons, List.length_cons, t.length]
def dLst (da : DA) : DE := fun A b k => da A b fun rs b1 => ∃ ds, kps rs = some ds ∧ rs.length ≤ sizeLine ∧ k (.o ds) b1
def dTup (da : DA) : DE := fun A b k => da A b fun rs b1 => ∃ ds, kps rs = some ds ∧ rs.length ≤ sizeLine ∧ k (.s (.tup ds)) b1
theorem d_lst {es : List Expr} {pos : Pos} {da : DA} (ha : PAd X c es da) : PEd X c (.List es pos) (dLst da) :=
  let ⟨_, h1, l1⟩ := ha
  ⟨_, pe_lst h1, fun F σ H A b Q k rr h hk => l1 F σ H A b _ _ rr h fun rs b1 vs F1 H1 ⟨ds, e, hl, h1⟩ r1 e1 a1 => ⟨by rw [a1.length]; exact hl, fun p hp => hk _ _ _ _ _ h1 ((Got.list r1 hp (a1.rpa e)).pre e1)⟩⟩
theorem d_tup {es : List Expr} {x1 : Nat} {pos : Pos} {da : DA} (ha : PAd X c es da) : PEd X c (.Tuple es x1 pos) (dTup da) :=
  let ⟨_, h1, l1⟩ := ha
  ⟨_, pe_tup h1, fun F σ H A b Q k rr h hk => l1 F σ H A b _ _ rr h fun rs b1 vs F1 H1 ⟨ds, e, hl, h1⟩ r1 e1 a1 => ⟨by rw [a1.length]; exact hl, fun p hp => hk _ _ _ _ _ h1 ((Got.tuple r1 hp (a1.rpa e)).pre e1)⟩⟩
/-! ### slices -/
abbrev DOp := List Sl → Nat → (Option Int → Nat → Prop) → Prop
def LkO (c : Dc) (te : TO) (de : DOp) : Prop := ∀ F σ H A b Q k, R c F σ H A b → de A b k → (∀ t b' F' H', k t b' → R c F' σ H' A b' → Ext c F H F' H' → Q t H') → te σ H Q
inductive POd (X : Cx) (c : Dc) (e : Option Expr) (de : DOp) : Prop
  | mk (te : TO) (h : PO X e te) (l : LkO c te de)
def dNoP : DOp := fun _ b k => k none b
def dP (de : DE) : DOp := fun A b k => de A b fun r b1 => match r with
  | .s (.int i) => k (some i) b1
  | _ => False
theorem o_none : POd X c none dNoP := ⟨_, po_none, fun F σ H A b Q k rr h hk => hk _ _ _ _ h rr .refl⟩
theorem o_some {e : Expr} {de : DE} (h : PEd X c e de) : POd X c (some e) (dP de) :=
  let ⟨_, h1, l1⟩ := h
  ⟨_, po_some h1, fun F σ H A b Q k rr h hk => l1 F σ H A b _ _ rr h fun r b1 v F1 H1 h1 g1 => by
    split at h1
    · exact ⟨_, g1.ok.int rfl, hk _ _ _ _ h1 g1.rr g1.e⟩
    · exact h1.elim⟩
def cutD (xs : List D) (lo hi : Option Int) : List D := (xs.drop (HT.sIx xs.length 0 lo)).take (HT.sIx xs.length xs.length hi - HT.sIx xs.length 0 lo)
theorem RpA.cut {K : PySem.W.Frag} {F : Hp} {vs : List V} {ds : List D} (h : RpA K F vs ds) (lo hi : Option Int) : RpA K F (cutV vs lo hi) (cutD ds lo hi) := by
  unfold cutV cutD
  rw [h.length]
  exact (h.drop _).take _
def fSl (x : Rs) (lo hi : Option Int) (k : Rs → Prop) : Prop := (∃ xs, x.d = .lst xs ∧ k (.o (cutD xs lo hi))) ∨ ∃ z, x = .s (.str z) ∧ z.length ≤ sizeLine ∧ k (.s (.str (cutS z lo hi)))
def dSl (de : DE) (dl dh : DOp) : DE := fun A b k => de A b fun x b1 => dl A b1 fun lo b2 => dh A b2 fun hi b3 => fSl x lo hi fun z => k z b3
/-! ### built-in calls -/
abbrev DC := List Rs → (Rs → Prop) → Prop
def dCB (f : DC) (da : DA) : DE := fun A b k => da A b fun rs b1 => f rs fun z => k z b1
def Lc (c : Dc) (r : List V → Hp → VK → Prop) (f : DC) : Prop := ∀ F σ H A b vs rs Q k, R c F σ H A b → AOk c F H σ A vs rs → f rs k → (∀ z v F' H', k z → Got c F H σ A F' H' b v z → Q v H') → r vs H Q
theorem lk_cb {r : List V → Hp → VK → Prop} {f : DC} {ta : TA} {da : DA} (l : Lc c r f) (la : LkA c ta da) : Lk c (tCB r ta) (dCB f da) := fun F σ H A b Q k rr h hk =>
  la F σ H A b _ _ rr h fun rs b1 vs F1 H1 h1 r1 e1 a1 => l F1 σ H1 A b1 vs rs _ _ r1 a1 h1 fun z v F2 H2 h2 g2 => hk _ _ _ _ _ h2 (g2.pre e1)
theorem d_cb {r : List V → Hp → VK → Prop} {f : DC} {id : String} {x : Str} {e : Expr} {es : List Expr} {p pos : Pos} {da : DA} (hc : CallR X (.builtin id) r) (l : Lc c r f) (hg : Gl X x) (hm : X.mg x = none) (hv : bootBuiltins x = some (.builtin id)) (ha : PAd X c (e :: es) da)
    (hn : x ≠ "__name__" := by decide) (hdb : (x == ("__debug__" : Str)) = false := by decide)
    (he : starEach (e :: es) X.env = (false, eval e X.env) :: starEach es X.env := by rfl) (hpl : (backTo pos (starEach es X.env)).any (·.1) = false := by rfl) : PEd X c (.Call (.Name x p) (e :: es) [] pos) (dCB f da) :=
  let ⟨_, h1, l1⟩ := ha
  ⟨_, pe_callB hc hg hm hv h1 hn hdb he hpl, lk_cb l l1⟩
theorem d_cty {r : List V → Hp → VK → Prop} {f : DC} {T : String} {x : Str} {e : Expr} {es : List Expr} {p pos : Pos} {da : DA} (hc : CallR X (.type T) r) (l : Lc c r f) (hg : Gl X x) (hm : X.mg x = none) (hv : bootBuiltins x = some (.type T)) (ha : PAd X c (e :: es) da)
    (hn : x ≠ "__name__" := by decide) (hdb : (x == ("__debug__" : Str)) = false := by decide)
    (he : starEach (e :: es) X.env = (false, eval e X.env) :: starEach es X.env := by rfl) (hpl : (backTo pos (starEach es X.env)).any (·.1) = false := by rfl) : PEd X c (.Call (.Name x p) (e :: es) [] pos) (dCB f da) :=
  let ⟨_, h1, l1⟩ := ha
  ⟨_, pe_callTy hc hg hm hv h1 hn hdb he hpl, lk_cb l l1⟩
theorem AOk.one {F H : Hp} {σ : L2.St} {A : List Sl} {vs : List V} {r : Rs} (h : AOk c F H σ A vs [r]) : ∃ v, vs = [v] ∧ RsOk c F H σ A v r := by
  cases h with
  | cons h t => cases t; exact ⟨_, rfl, h⟩
theorem AOk.two {F H : Hp} {σ : L2.St} {A : List Sl} {vs : List V} {r r' : Rs} (h : AOk c F H σ A vs [r, r']) : ∃ v v', vs = [v, v'] ∧ RsOk c F H σ A v r ∧ RsOk c F H σ A v' r' := by
  cases h with
  | cons h t =>
    obtain ⟨v', rfl, h'⟩ := t.one
    exact ⟨_, _, rfl, h, h'⟩
/-- len -/
def fLen : DC := fun rs k => ∃ r n, rs = [r] ∧ (match r.d with | .str y => y.length ≤ sizeLine ∧ n = y.length | .lst xs => n = xs.length | .tup xs => n = xs.length | _ => False) ∧ k (.s (.int (n : Nat)))
theorem lc_len : Lc c (fun xs H Q => ∃ x n, xs = [x] ∧ LenV c.K x H n ∧ Q (.int n) H) fLen := by
  rintro F σ H A b vs rs Q k rr ha ⟨r, n, rfl, hn, hf⟩ hk
  obtain ⟨v, rfl, hv⟩ := ha.one
  refine ⟨v, n, rfl, ?_, hk _ _ _ _ hf (.still rr (.int _))⟩
  split at hn
  · rename_i y e; rw [hv.str e]; exact hn
  · rename_i xs e
    obtain ⟨p, vs, rfl, h1, q⟩ := hv.lst rr e
    exact .inl ⟨vs, SqL.of h1, by rw [q.length]; exact hn⟩
  · rename_i xs e
    obtain ⟨p, vs, rfl, h1, q⟩ := hv.tup rr e
    exact .inr ⟨vs, h1, by rw [q.length]; exact hn⟩
  · exact hn.elim
/-- list(x) -/
def fListOf : DC := fun rs k => ∃ r xs, rs = [r] ∧ (r.d = .lst xs ∨ r.d = .tup xs) ∧ k (.o xs)
theorem lc_listOf : Lc c (fun xs H Q => ∃ p ys, xs = [.ref p] ∧ (SqL c.K H p ys ∨ SqT c.K H p ys) ∧ ∀ l, H l = none → Q (.ref l) (upd H l (.lst ys))) fListOf := by
  rintro F σ H A b vs rs Q k rr ha ⟨r, xs, rfl, hd, hf⟩ hk
  obtain ⟨v, rfl, hv⟩ := ha.one
  rcases hd with hd | hd
  · obtain ⟨p, vs, rfl, h1, q⟩ := hv.lst rr hd
    exact ⟨p, vs, rfl, .inl (SqL.of h1), fun l hl => hk _ _ _ _ hf (.list rr hl q)⟩
  · obtain ⟨p, vs, rfl, h1, q⟩ := hv.tup rr hd
    exact ⟨p, vs, rfl, .inr h1, fun l hl => hk _ _ _ _ hf (.list rr hl q)⟩
/-- tuple(x) -/
def fTupOf : DC := fun rs k => ∃ r xs, rs = [r] ∧ (r.d = .lst xs ∨ r = .s (.tup xs)) ∧ k (.s (.tup xs))
theorem lc_tupOf : Lc c (fun xs H Q => ∃ p ys, xs = [.ref p] ∧ ((SqL c.K H p ys ∧ ∀ l, H l = none → Q (.ref l) (upd H l (.tup ys))) ∨ (SqT c.K H p ys ∧ Q (.ref p) H))) fTupOf := by
  rintro F σ H A b vs rs Q k rr ha ⟨r, xs, rfl, hd, hf⟩ hk
  obtain ⟨v, rfl, hv⟩ := ha.one
  rcases hd with hd | rfl
  · obtain ⟨p, vs, rfl, h1, q⟩ := hv.lst rr hd
    exact ⟨p, vs, rfl, .inl ⟨SqL.of h1, fun l hl => hk _ _ _ _ hf (.tuple rr hl q)⟩⟩
  · obtain ⟨p, vs, e, h1, q⟩ := hv.tup rr rfl
    subst e
    exact ⟨p, vs, rfl, .inr ⟨h1, hk _ _ _ _ hf (.still rr hv)⟩⟩
/-- int(n), int(flag) -/
def fInt1 : DC := fun rs k => (∃ i, rs = [.s (.int i)] ∧ k (.s (.int i))) ∨ ∃ t, rs = [.s (.bl t)] ∧ k (.s (.int (if t then 1 else 0)))
theorem lc_int1 : Lc c (fun xs H Q => (∃ i, xs = [.int i] ∧ Q (.int i) H) ∨ ∃ k, xs = [.bl k] ∧ Q (.int (if k then 1 else 0)) H) fInt1 := by
  rintro F σ H A b vs rs Q k rr ha hf hk
  rcases hf with ⟨i, rfl, hf⟩ | ⟨i, rfl, hf⟩
  · obtain ⟨v, rfl, hv⟩ := ha.one
    exact .inl ⟨i, by rw [hv.int rfl], hk _ _ _ _ hf (.still rr (.int _))⟩
  · obtain ⟨v, rfl, hv⟩ := ha.one
    exact .inr ⟨i, by rw [hv.bl rfl], hk _ _ _ _ hf (.still rr (.int _))⟩
def fI1 (g : Int → D) : DC := fun rs k => ∃ i, rs = [.s (.int i)] ∧ k (.s (g i))
def fI2 (g : Int → Int → D) : DC := fun rs k => ∃ i j, rs = [.s (.int i), .s (.int j)] ∧ k (.s (g i j))
theorem lc_max2 : Lc c (fun xs H Q => ∃ i j, xs = [.int i, .int j] ∧ Q (.int (if j > i then j else i)) H) (fI2 fun i j => .int (if j > i then j else i)) := by
  rintro F σ H A b vs rs Q k rr ha ⟨i, j, rfl, hf⟩ hk
  obtain ⟨v, v', rfl, hv, hv'⟩ := ha.two
  exact ⟨i, j, by rw [hv.int rfl, hv'.int rfl], hk _ _ _ _ hf (.still rr (.int _))⟩
theorem rpa_bls {K : PySem.W.Frag} {F : Hp} : ∀ {vs : List V} {ns : List Bool}, RpA K F vs (ns.map D.bl) → vs = ns.map V.bl
  | _, [], .nil => rfl
  | _, n :: ns, .cons a r => by cases a; rw [rpa_bls r]; rfl
def fInts (g : List Int → (Rs → Prop) → Prop) : DC := fun rs k => ∃ r ns, rs = [r] ∧ r.d = .lst (ns.map D.int) ∧ g ns k
def fBls (g : List Bool → Bool) : DC := fun rs k => ∃ r ns, rs = [r] ∧ r.d = .lst (ns.map D.bl) ∧ k (.s (.bl (g ns)))
theorem lc_any : Lc c (rAny c.K) (fBls fun bs => bs.any id) := by
  rintro F σ H A b vs rs Q k rr ha ⟨r, ns, rfl, hd, hf⟩ hk
  obtain ⟨v, rfl, hv⟩ := ha.one
  obtain ⟨p, vs, rfl, h1, q⟩ := hv.lst rr hd
  rw [rpa_bls q] at h1
  exact ⟨p, ns, rfl, SqL.of h1, hk _ _ _ _ hf (.still rr (.bl _))⟩
theorem lc_all : Lc c (rAll c.K) (fBls fun bs => bs.all id) := by
  rintro F σ H A b vs rs Q k rr ha ⟨r, ns, rfl, hd, hf⟩ hk
  obtain ⟨v, rfl, hv⟩ := ha.one
  obtain ⟨p, vs, rfl, h1, q⟩ := hv.lst rr hd
  rw [rpa_bls q] at h1
  exact ⟨p, ns, rfl, SqL.of h1, hk _ _ _ _ hf (.still rr (.bl _))⟩
end
end Dd

namespace Dd
open PySem L2 Pk
abbrev Sub (F F' : Hp) : Prop := ∀ a o, F a = some o → F' a = some o
section
variable {X : Cx} {c : Dc}
/-! ### what is walked -/
/-- a walk yields the data ds, while F and W stay -/
def JX (c : Dc) (J : It) (F W : Hp) (ds : List D) : Prop := ∀ F' H' b', Sub F F' → Sub F' (off c.G H') → Sub W (off c.G H') → gst c.G H' b' → ∀ i : Nat,
  (∀ d, ds[i]? = some d → J.go i H' ∧ ∀ x H2, J.yld i H' x H2 → ∃ F2, Ext c F' H' F2 H2 ∧ Sub F2 (off c.G H2) ∧ gst c.G H2 b' ∧ Rp c.K F2 x d) ∧ (i = ds.length → J.stop i H')
theorem JX.up {J : It} {F W W' : Hp} {ds : List D} (h : JX c J F W ds) (s : Sub W W') : JX c J F W' ds := fun F' H' b' h1 h2 h3 => h F' H' b' h1 h2 fun a o z => h3 a o (s a o z)
/-- a list that stands in W -/
theorem jx_list {K : PySem.W.Frag} {F W : Hp} {p : Addr} {vs : List V} {ds : List D} (hK : c.K = K) (h : ∀ F' H', Sub F F' → Sub F' (off c.G H') → Sub W (off c.G H') → H' p = some (.lst vs)) (q : RpA c.K F vs ds) : JX c (Itl K p) F W ds := by
  subst hK
  intro F' H' b' h1 h2 h3 h4 i
  have e := h F' H' h1 h2 h3
  refine ⟨fun d hd => ?_, fun hi => ⟨vs, SqL.of e, by rw [q.length]; omega⟩⟩
  obtain ⟨v, hv, rv⟩ := q.get hd
  refine ⟨⟨vs, v, SqL.of e, hv⟩, fun x H2 ⟨e2, y⟩ => ?_⟩
  subst e2
  rw [y vs (SqL.of e)] at hv
  cases hv
  exact ⟨F', .refl, h2, h4, rv.mono h1⟩
theorem jx_tup {K : PySem.W.Frag} {F W : Hp} {p : Addr} {vs : List V} {ds : List D} (hK : c.K = K) (h : F p = some (.tup vs)) (q : RpA c.K F vs ds) : JX c (Itt K p) F W ds := by
  subst hK
  intro F' H' b' h1 h2 h3 h4 i
  have e : SqT c.K H' p vs := SqT.of (off_sub (h2 _ _ (h1 _ _ h)))
  refine ⟨fun d hd => ?_, fun hi => ⟨vs, e, by rw [q.length]; omega⟩⟩
  obtain ⟨v, hv, rv⟩ := q.get hd
  refine ⟨⟨vs, v, e, hv⟩, fun x H2 ⟨e2, y⟩ => ?_⟩
  subst e2
  rw [y vs e] at hv
  cases hv
  exact ⟨F', .refl, h2, h4, rv.mono h1⟩
def upto (lo : Int) (n : Nat) : List D := (List.range n).map fun (i : Nat) => .int (lo + (i : Int))
theorem upto_get {lo : Int} {n i : Nat} {d : D} (h : (upto lo n)[i]? = some d) : i < n ∧ d = .int (lo + i) := by
  unfold upto at h
  rw [List.getElem?_map] at h
  cases q : (List.range n)[i]? with
  | none => rw [q] at h; cases h
  | some j =>
    rw [q] at h
    obtain ⟨h1, h2⟩ := List.getElem?_eq_some_iff.mp q
    rw [List.getElem_range] at h2
    subst h2
    cases h
    exact ⟨by simpa using h1, rfl⟩
theorem jx_range {F W : Hp} {lo : Int} {n : Nat} : JX c (Itr lo n) F W (upto lo n) := by
  intro F' H' b' h1 h2 h3 h4 i
  refine ⟨fun d hd => ?_, fun hi => ?_⟩
  · obtain ⟨hi, rfl⟩ := upto_get hd
    refine ⟨hi, fun x H2 ⟨e2, y⟩ => ?_⟩
    subst e2 y
    exact ⟨F', .refl, h2, h4, .int _⟩
  · show n ≤ i
    rw [hi]
    unfold upto
    simp
def signs (z : Str) : List D := z.cps.toList.map fun n => .str ⟨#[n]⟩
theorem jx_str {F W : Hp} {z : Str} : JX c (Its z) F W (signs z) := by
  intro F' H' b' h1 h2 h3 h4 i
  have el : (signs z).length = z.cps.size := by unfold signs; simp
  refine ⟨fun d hd => ?_, fun hi => by show z.cps.size ≤ i; omega⟩
  have hi : i < z.cps.size := by
    rcases Nat.lt_or_ge i z.cps.size with q | q
    · exact q
    · rw [List.getElem?_eq_none (by omega)] at hd; cases hd
  refine ⟨hi, fun x H2 ⟨e2, n, hn, y⟩ => ?_⟩
  subst e2 y
  unfold signs at hd
  rw [List.getElem?_map, Array.getElem?_toList, hn] at hd
  cases hd
  exact ⟨F', .refl, h2, h4, .str _⟩
def numbered (ds : List D) : List D := ds.mapIdx fun i d => .tup [.int i, d]
def zipped (ds es : List D) : List D := ds.zipWith (fun d e => .tup [d, e]) es
/-! ### judgements for walks -/
abbrev DI := List Sl → Nat → (List D → Nat → Prop) → Prop
def LkI (c : Dc) (wi : TI) (di : DI) : Prop := ∀ F σ H A b Q k, R c F σ H A b → di A b k → (∀ ds b' F' H' J, k ds b' → R c F' σ H' A b' → Ext c F H F' H' → JX c J F' (off c.G H') ds → Q J H') → wi σ H Q
def LkF (c : Dc) (wi : TI) (di : DI) : Prop := ∀ F σ H A b Q k, R c F σ H A b → di A b k → (∀ ds b' F' H' J, k ds b' → R c F' σ H' A b' → Ext c F H F' H' → JX c J F' c.B ds → Q J H') → wi σ H Q
inductive PId (X : Cx) (c : Dc) (tg e : Expr) (di : DI) : Prop
  | mk (wi : TI) (h : PI X tg e wi) (l : LkI c wi di)
inductive PFd (X : Cx) (c : Dc) (tg e : Expr) (di : DI) : Prop
  | mk (wi : TI) (h : PI X tg e wi) (l : LkF c wi di)
theorem PFd.i {tg e : Expr} {di : DI} (h : PFd X c tg e di) : PId X c tg e di :=
  let ⟨_, h1, l1⟩ := h
  ⟨_, h1, fun F σ H A b Q k rr h hk => l1 F σ H A b Q k rr h fun ds b' F' H' J h1 r1 e1 j => hk ds b' F' H' J h1 r1 e1 (j.up r1.bsub)⟩
theorem pi_any {tg l : Expr} {tl : TE} (hl : PE X l tl) : PI X tg l (fun σ H R => tl σ H fun x H1 => (∃ a xs, x = .ref a ∧ SqL X.K H1 a xs ∧ R (Itl X.K a) H1) ∨ (∃ a xs, x = .ref a ∧ SqT X.K H1 a xs ∧ R (Itt X.K a) H1) ∨ ∃ z, x = .str z ∧ R (Its z) H1) := by
  intro pins s σ H R I h
  refine thn (hl pins s σ H _ I h) fun v s1 ⟨x, H1, I1, r1, q1⟩ => ?_
  rcases q1 with ⟨a, xs, rfl, hq, q⟩ | ⟨a, xs, rfl, hq, q⟩ | ⟨z, rfl, q⟩
  · cases r1
    obtain ⟨its, rv, p, hz⟩ := I1.list hq
    exact wpAny_pyIter_list p.isList (pi_one (tk := s1.toks) I1 _ (turn_list a _) ⟨_, Heap.get?_push_size _ rfl, rfl, rfl⟩ q)
  · cases r1
    obtain ⟨its, rv, p, hz⟩ := I1.tuple hq
    exact wpAny_pyIter_tuple (show s1.heap.IsTuple a its.toArray from p) (pi_one (tk := s1.toks) I1 _ (turn_tuple a _) ⟨_, Heap.get?_push_size _ rfl, rfl, rfl⟩ q)
  · obtain ⟨t, rfl⟩ := r1
    cases ha : z.cps.all (· < 128)
    · exact wpAny_pyIter_wide ha (pi_one (tk := s1.toks) I1 _ (turn_str _ z t "str_iterator" (.inr rfl)) ⟨_, Heap.get?_push_size _ rfl, rfl, rfl⟩ q)
    · exact wpAny_pyIter_ascii ha (pi_one (tk := s1.toks) I1 _ (turn_str _ z t "str_ascii_iterator" (.inl rfl)) ⟨_, Heap.get?_push_size _ rfl, rfl, rfl⟩ q)
end
end Dd

namespace Dd
open PySem L2 Pk
section
variable {X : Cx} {c : Dc}
def lsF : Rs → Option (List D)
  | .s (.lst xs) => some xs
  | .p xs => some xs
  | _ => none
def lsC : Rs → Option (List D)
  | .s (.lst xs) => some xs
  | .p xs => some xs
  | .b xs => some xs
  | _ => none
theorem RsOk.lsF {F H : Hp} {σ : L2.St} {A : List Sl} {b : Nat} {v : V} {r : Rs} {xs : List D} (rr : R c F σ H A b) (h : RsOk c F H σ A v r) (e : lsF r = some xs) :
    ∃ p vs, v = .ref p ∧ SqL c.K H p vs ∧ RpA c.K F vs xs ∧ ∀ F' H', Sub F F' → Sub F' (off c.G H') → Sub c.B (off c.G H') → H' p = some (.lst vs) := by
  cases r with
  | s d =>
    cases d with
    | lst ys =>
      cases e
      cases h with
      | lst h q => exact ⟨_, _, rfl, SqL.of (off_sub (rr.sub _ _ h)), q, fun F' H' h1 h2 h3 => off_sub (h2 _ _ (h1 _ _ h))⟩
    | _ => cases e
  | p ys => cases e; obtain ⟨p, vs, rfl, h1, q⟩ := h; exact ⟨p, vs, rfl, SqL.of (off_sub (rr.bsub _ _ h1)), q, fun F' H' _ _ h3 => off_sub (h3 _ _ h1)⟩
  | _ => cases e
theorem RsOk.lsC {F H : Hp} {σ : L2.St} {A : List Sl} {b : Nat} {v : V} {r : Rs} {xs : List D} (rr : R c F σ H A b) (h : RsOk c F H σ A v r) (e : lsC r = some xs) :
    ∃ p vs, v = .ref p ∧ SqL c.K H p vs ∧ RpA c.K F vs xs ∧ ∀ F' H', Sub F F' → Sub F' (off c.G H') → Sub (off c.G H) (off c.G H') → H' p = some (.lst vs) := by
  have hd : r.d = .lst xs := by
    cases r with
    | s d => cases d <;> cases e; rfl
    | b ys => cases e; rfl
    | p ys => cases e; rfl
    | o ys => cases e
    | g => cases e
  cases r with
  | s d =>
    cases d with
    | lst ys =>
      cases e
      cases h with
      | lst h q => exact ⟨_, _, rfl, SqL.of (off_sub (rr.sub _ _ h)), q, fun F' H' h1 h2 h3 => off_sub (h2 _ _ (h1 _ _ h))⟩
    | _ => cases e
  | p ys => cases e; obtain ⟨p, vs, rfl, h1, q⟩ := h; exact ⟨p, vs, rfl, SqL.of (off_sub (rr.bsub _ _ h1)), q, fun F' H' _ _ h3 => off_sub (h3 _ _ (rr.bsub _ _ h1))⟩
  | b ys => cases e; obtain ⟨p, vs, rfl, h1, q⟩ := h; exact ⟨p, vs, rfl, SqL.of (off_sub h1), q, fun F' H' _ _ h3 => off_sub (h3 _ _ h1)⟩
  | o ys => cases e
  | g => cases e
/-! ### an expression that is walked -/
def itF : Rs → Option (List D)
  | .s (.lst xs) => some xs
  | .s (.tup xs) => some xs
  | .s (.str z) => some (signs z)
  | .p xs => some xs
  | .o xs => some xs
  | _ => none
def itC : Rs → Option (List D)
  | .s (.lst xs) => some xs
  | .s (.tup xs) => some xs
  | .s (.str z) => some (signs z)
  | .p xs => some xs
  | .o xs => some xs
  | .b xs => some xs
  | .g => none
  | _ => none
def dIt (f : Rs → Option (List D)) (de : DE) : DI := fun A b k => de A b fun r b1 => ∃ ds, f r = some ds ∧ k ds b1
theorem f_any {tg e : Expr} {de : DE} (hK : c.K = X.K) (he : PEd X c e de) : PFd X c tg e (dIt itF de) :=
  let ⟨_, h1, l1⟩ := he
  ⟨_, pi_any h1, fun F σ H A b Q k rr h hk => l1 F σ H A b _ _ rr h fun r b1 v F1 H1 ⟨ds, e, h1⟩ g1 => by
    have go : ∀ {F1 : Hp} {ys : List D}, Got c F H σ A F1 H1 b1 v (.s (.lst ys)) → k ys b1 → (∃ a xs, v = V.ref a ∧ SqL X.K H1 a xs ∧ Q (Itl X.K a) H1) := fun {F1 ys} g h1 => by
      obtain ⟨p, vs, rfl, hq, q, st⟩ := g.ok.lsF g.rr (show lsF (.s (.lst ys)) = some ys from rfl)
      exact ⟨p, vs, rfl, hK ▸ hq, hk _ _ _ _ _ h1 g.rr g.e (jx_list hK st q)⟩
    cases r with
    | s d =>
      cases d with
      | lst ys => cases e; exact .inl (go g1 h1)
      | tup ys =>
        cases e
        have ok : Rp c.K F1 v (.tup ds) := g1.ok
        cases ok with
        | tup hq q => exact .inr (.inl ⟨_, _, rfl, SqT.of (off_sub (g1.rr.sub _ _ hq)), hk _ _ _ _ _ h1 g1.rr g1.e (jx_tup hK hq q)⟩)
      | str z => cases e; exact .inr (.inr ⟨z, g1.ok.str rfl, hk _ _ _ _ _ h1 g1.rr g1.e jx_str⟩)
      | _ => cases e
    | p ys =>
      cases e
      obtain ⟨p, vs, rfl, hq, q, st⟩ := g1.ok.lsF g1.rr (show lsF (.p ds) = some ds from rfl)
      exact .inl ⟨p, vs, rfl, hK ▸ hq, hk _ _ _ _ _ h1 g1.rr g1.e (jx_list hK st q)⟩
    | o ys =>
      cases e
      obtain ⟨F2, _, g2⟩ := g1.keep trivial
      exact .inl (go g2 h1)
    | b ys => cases e
    | g => cases e⟩
theorem i_any {tg e : Expr} {de : DE} (hK : c.K = X.K) (he : PEd X c e de) : PId X c tg e (dIt itC de) :=
  let ⟨_, h1, l1⟩ := he
  ⟨_, pi_any h1, fun F σ H A b Q k rr h hk => l1 F σ H A b _ _ rr h fun r b1 v F1 H1 ⟨ds, e, h1⟩ g1 => by
    have go : ∀ {F1 : Hp} {r : Rs} {ys : List D}, Got c F H σ A F1 H1 b1 v r → lsC r = some ys → k ys b1 → (∃ a xs, v = V.ref a ∧ SqL X.K H1 a xs ∧ Q (Itl X.K a) H1) := fun {F1 r ys} g e h1 => by
      obtain ⟨p, vs, rfl, hq, q, st⟩ := g.ok.lsC g.rr e
      exact ⟨p, vs, rfl, hK ▸ hq, hk _ _ _ _ _ h1 g.rr g.e (jx_list hK st q)⟩
    cases r with
    | s d =>
      cases d with
      | lst ys => cases e; exact .inl (go g1 rfl h1)
      | tup ys =>
        cases e
        have ok : Rp c.K F1 v (.tup ds) := g1.ok
        cases ok with
        | tup hq q => exact .inr (.inl ⟨_, _, rfl, SqT.of (off_sub (g1.rr.sub _ _ hq)), hk _ _ _ _ _ h1 g1.rr g1.e (jx_tup hK hq q)⟩)
      | str z => cases e; exact .inr (.inr ⟨z, g1.ok.str rfl, hk _ _ _ _ _ h1 g1.rr g1.e jx_str⟩)
      | _ => cases e
    | p ys => cases e; exact .inl (go g1 rfl h1)
    | b ys => cases e; exact .inl (go g1 rfl h1)
    | o ys =>
      cases e
      obtain ⟨F2, _, g2⟩ := g1.keep trivial
      exact .inl (go g2 rfl h1)
    | g => cases e⟩
/-! ### ranges -/
def dR1 (da : DA) : DI := fun A b k => da A b fun rs b1 => ∃ j : Int, rs = [.s (.int j)] ∧ -(2 ^ 62) ≤ j ∧ j < 2 ^ 62 ∧ k (upto 0 j.toNat) b1
def dR2 (da : DA) : DI := fun A b k => da A b fun rs b1 => ∃ i j : Int, rs = [.s (.int i), .s (.int j)] ∧ (-(2 ^ 62) ≤ i ∧ i < 2 ^ 62 ∧ -(2 ^ 62) ≤ j ∧ j < 2 ^ 62) ∧ k (upto i (j - i).toNat) b1
theorem f_range1 {tg a : Expr} {p pos : Pos} {da : DA} (hg : Gl X "range") (hm : X.mg "range" = none) (ha : PAd X c [a] da) (hs : starEach [a] X.env = [(false, eval a X.env)] := by rfl) : PFd X c tg (.Call (.Name "range" p) [a] [] pos) (dR1 da) :=
  let ⟨_, h1, l1⟩ := ha
  ⟨_, pi_range1 hg hm h1 hs, fun F σ H A b Q k rr h hk => l1 F σ H A b _ _ rr h fun rs b1 vs F1 H1 ⟨j, e, h2, h3, h1⟩ r1 e1 a1 => by
    subst e
    obtain ⟨v, rfl, hv⟩ := a1.one
    exact ⟨j, by rw [hv.int rfl], h2, h3, hk _ _ _ _ _ h1 r1 e1 jx_range⟩⟩
/-! ### zip, enumerate, reversed -/
def dZip (f : Rs → Option (List D)) (da : DA) : DI := fun A b k => da A b fun rs b1 => ∃ r s xs ys, rs = [r, s] ∧ f r = some xs ∧ f s = some ys ∧ k (zipped xs ys) b1
def dEnum (f : Rs → Option (List D)) (da : DA) : DI := fun A b k => da A b fun rs b1 => ∃ r xs, rs = [r] ∧ f r = some xs ∧ k (numbered xs) b1
def dRev (f : Rs → Option (List D)) (da : DA) : DI := fun A b k => da A b fun rs b1 => ∃ r xs, rs = [r] ∧ f r = some xs ∧ k xs.reverse b1
/-! ### targets -/
abbrev DG := D → List Sl → (List Sl → Prop) → Prop
/-- only these places are written -/
def Wp (ts : List Nat) (σ σ' : L2.St) : Prop := ∀ vs : List Nat, (∀ i ∈ ts, i ∈ vs) → wipe σ' vs = wipe σ vs
def LkG (c : Dc) (g : TG) (dg : DG) (ts : List Nat) : Prop := ∀ F σ H A b v d Q k, R c F σ H A b → Rp c.K F v d → dg d A k → (∀ A' σ', k A' → R c F σ' H A' b → Wp ts σ σ' → Q σ' H) → g v σ H Q
inductive PGd (X : Cx) (c : Dc) (tg : Expr) (dg : DG) (ts : List Nat) : Prop
  | mk (g : TG) (h : PG X tg g) (l : LkG c g dg ts)
def gN (i : Nat) : DG := fun d A k => k (A.set i (.val d))
theorem set_wipe {σ : L2.St} {i : Nat} {x : Option V} : ∀ {vs : List Nat}, i ∈ vs → wipe (σ.set i x) vs = wipe σ vs
  | [], h => by cases h
  | v :: vs, h => by
    show (wipe (σ.set i x) vs).set v none = (wipe σ vs).set v none
    by_cases e : i ∈ vs
    · rw [set_wipe e]
    · have hv : i = v := by
        rcases List.mem_cons.mp h with z | z
        · exact z
        · exact absurd z e
      subst hv
      have cm : ∀ ws : List Nat, i ∉ ws → wipe (σ.set i x) ws = (wipe σ ws).set i x := by
        intro ws
        induction ws with
        | nil => intro _; rfl
        | cons w ws ih =>
          intro hn
          rw [List.mem_cons, not_or] at hn
          show (wipe (σ.set i x) ws).set w none = ((wipe σ ws).set w none).set i x
          rw [ih hn.2, List.set_comm _ _ hn.1]
      rw [cm vs e, List.set_set]
theorem g_name {i : Nat} {x : Str} {pos : Pos} (h : PG X (.Name x pos) (gName i)) : PGd X c (.Name x pos) (gN i) [i] :=
  ⟨_, h, fun F σ H A b v d Q k rr rv hd hk => hk _ _ hd (rr.put (s := .val d) ⟨v, rfl, rv⟩ fun xs z => by cases z) fun vs h => set_wipe (h i (by simp))⟩
abbrev DGs := List D → List Sl → (List Sl → Prop) → Prop
def LkGs (c : Dc) (g : TGs) (dg : DGs) (ts : List Nat) : Prop := ∀ F σ H A b vs ds Q k, R c F σ H A b → RpA c.K F vs ds → dg ds A k → (∀ A' σ', k A' → R c F σ' H A' b → Wp ts σ σ' → Q σ' H) → g vs σ H Q
inductive PGsd (X : Cx) (c : Dc) (es : List Expr) (dg : DGs) (ts : List Nat) : Prop
  | mk (g : TGs) (h : PGs X es g) (l : LkGs c g dg ts)
def gsNil : DGs := fun ds A k => ds = [] ∧ k A
def gsCons (dg : DG) (dr : DGs) : DGs := fun ds A k => match ds with
  | d :: ds => dg d A fun A' => dr ds A' k
  | [] => False
theorem gs_nil : PGsd X c [] gsNil [] := ⟨_, pgs_nil, fun F σ H A b vs ds Q k rr rv ⟨e, hd⟩ hk => by subst e; cases rv; exact ⟨rfl, hk _ _ hd rr fun _ _ => rfl⟩⟩
theorem gs_cons {e : Expr} {es : List Expr} {dg : DG} {dr : DGs} {ts us : List Nat} (h : PGd X c e dg ts) (hr : PGsd X c es dr us) (hs : (assignEach (e :: es) X.env).map (·.2) = assign e X.env :: (assignEach es X.env).map (·.2) := by rfl) : PGsd X c (e :: es) (gsCons dg dr) (ts ++ us) :=
  let ⟨_, h1, l1⟩ := h
  let ⟨_, h2, l2⟩ := hr
  ⟨_, pgs_cons h1 h2 hs, fun F σ H A b vs ds Q k rr rv hd hk => by
    cases ds with
    | nil => exact hd.elim
    | cons d ds =>
      cases rv with
      | cons a r =>
        exact ⟨_, _, rfl, l1 F σ H A b _ d _ _ rr a hd fun A' σ' h1 r1 w1 => l2 F σ' H A' b _ ds _ _ r1 r h1 fun A2 σ2 h2 r2 w2 => hk _ _ h2 r2 fun vs hv => by
          rw [w2 vs fun i hi => hv i (List.mem_append.mpr (.inr hi)), w1 vs fun i hi => hv i (List.mem_append.mpr (.inl hi))]⟩⟩
def gTupD (n : Nat) (dr : DGs) : DG := fun d A k => match d with
  | .tup ds => ds.length = n ∧ dr ds A k
  | _ => False
theorem g_tup {es : List Expr} {kk n : Nat} {pos : Pos} {dr : DGs} {ts : List Nat} (hK : c.K = X.K) (hc : X.calm = true) (h : PGsd X c es dr ts) (hn : (assignEach es X.env).length = n := by rfl) (hst : (assignEach es X.env).findIdx? (·.1) = none := by rfl) : PGd X c (.Tuple es kk pos) (gTupD n dr) ts :=
  let ⟨_, h1, l1⟩ := h
  ⟨_, pg_tup hc h1 hn hst, fun F σ H A b v d Q k rr rv hd hk => by
    cases d with
    | tup ds =>
      cases rv with
      | tup hq q => exact ⟨_, _, rfl, SqT.of (off_sub (rr.sub _ _ hq)), by rw [q.length]; exact hd.1, l1 F σ H A b _ ds _ _ rr q hd.2 hk⟩
    | _ => exact hd.elim⟩
end
end Dd

namespace Dd
open PySem L2 Pk
section
variable {X : Cx} {c : Dc}
/-! ### blocks -/
def dNx : DS := fun E A b => E.nx A b
def dSeq (t u : DS) : DS := fun E A b => t { E with nx := u E } A b
def dBk : DS := fun E A b => E.bk A b
def dCt : DS := fun E A b => E.ct A b
def dNever : DS := fun _ _ _ => False
theorem s_nil : PSsd X c [] dNx := ⟨_, pss_nil, fun F σ H A b D E rr eo h => eo.nx F σ H A b (fun _ _ z => z) rr h⟩
theorem s_cons {st : Stmt} {rest : List Stmt} {t u : DS} (h : PSd X c st t) (hr : PSsd X c rest u) : PSsd X c (st :: rest) (dSeq t u) :=
  let ⟨_, h1, l1⟩ := h
  let ⟨_, h2, l2⟩ := hr
  ⟨_, pss_cons h1 h2, fun F σ H A b D E rr eo h => l1 F σ H A b _ { E with nx := u E } rr ⟨fun F' σ' H' A' b' m r' q => l2 F' σ' H' A' b' D E r' (eo.up m) q, eo.rt, eo.bk, eo.ct⟩ h⟩
theorem s_one {st : Stmt} {t : DS} (h : PSd X c st t) : PSsd X c [st] t :=
  let ⟨_, h1, l1⟩ := h
  ⟨_, pss_one h1, l1⟩
theorem s_never {st : Stmt} : PSd X c st dNever := ⟨_, ps_never, fun F σ H A b D E rr eo h => h.elim⟩
/-! ### return -/
def dRet (de : DE) : DS := fun E A b => de A b fun r b1 => r.kp ∧ E.rt r b1
theorem s_ret {e : Expr} {de : DE} {pos : Pos} (h : PEd X c e de) : PSd X c (.Return (some e) pos) (dRet de) :=
  let ⟨_, h1, l1⟩ := h
  ⟨_, ps_ret h1, fun F σ H A b D E rr eo h => l1 F σ H A b _ _ rr h fun r b1 v F1 H1 ⟨hk, h1⟩ g1 => eo.rt F1 σ H1 A b1 v r g1.e.f g1.rr (by
    cases r with
    | s d => exact g1.ok
    | o ds => obtain ⟨p, vs, e, z1, z2, z3, z4, _⟩ := g1.ok; exact ⟨p, vs, e, z1, z2, z3, z4⟩
    | b ds => exact hk.elim
    | p ds => exact hk.elim
    | g => exact hk.elim) h1⟩
/-- return of a name: its own list goes out -/
def dRetV (i : Nat) : DS := fun E A b => match A[i]? with
  | some (.own ds) => E.rt (.o ds) b
  | some (.val d) => E.rt (.s d) b
  | _ => False
theorem s_retv {i : Nat} {x : Str} {pos pos' : Pos} (h : PE X (.Name x pos') (tVar i)) : PSd X c (.Return (some (.Name x pos')) pos) (dRetV i) :=
  ⟨_, ps_ret h, fun F σ H A b D E rr eo h => by
    unfold dRetV at h
    split at h
    · rename_i ds e
      obtain ⟨p, vs, hx, h1, h2, h3, q⟩ := rr.sl i _ e
      exact ⟨_, hx, eo.rt F σ H A b _ (.o ds) (fun _ _ z => z) rr ⟨p, vs, rfl, h1, h2, h3, q⟩ h⟩
    · rename_i d e
      obtain ⟨v, hx, q⟩ := rr.sl i _ e
      exact ⟨v, hx, eo.rt F σ H A b _ (.s d) (fun _ _ z => z) rr q h⟩
    · exact h.elim⟩
def dRetN : DS := fun E _ b => E.rt (.s .non) b
/-! ### a name is set -/
def putR (i : Nat) (A : List Sl) (r : Rs) (k : List Sl → Prop) : Prop := match r with
  | .s d => k (A.set i (.val d))
  | .o ds => k (A.set i (.own ds))
  | _ => False
theorem put_ok {F H F1 H1 : Hp} {σ : L2.St} {A : List Sl} {b1 : Nat} {v : V} {r : Rs} {i : Nat} {k : List Sl → Prop} (g : Got c F H σ A F1 H1 b1 v r) (h : putR i A r k) : ∃ A', k A' ∧ R c F1 (σ.set i (some v)) H1 A' b1 := by
  cases r with
  | s d => exact ⟨_, h, g.rr.put (s := .val d) ⟨v, rfl, g.ok⟩ fun xs z => by cases z⟩
  | o ds =>
    obtain ⟨p, vs, rfl, h1, h2, h3, q, n⟩ := g.ok
    exact ⟨_, h, g.rr.put (s := .own ds) ⟨p, vs, rfl, h1, h2, h3, q⟩ fun xs z j ys ne hj => n j ys hj⟩
  | b ds => exact h.elim
  | p ds => exact h.elim
  | g => exact h.elim
def dSet (i : Nat) (de : DE) : DS := fun E A b => de A b fun r b1 => putR i A r fun A' => E.nx A' b1
theorem lk_set {i : Nat} {te : TE} {de : DE} (l : Lk c te de) : LkS c (tAsg te (gName i)) (dSet i de) := fun F σ H A b D E rr eo h =>
  l F σ H A b _ _ rr h fun r b1 v F1 H1 h1 g1 => by
    obtain ⟨A', h2, r2⟩ := put_ok g1 h1
    exact eo.nx F1 _ H1 A' b1 g1.e.f r2 h2
theorem s_set {i : Nat} {x : Str} {e : Expr} {de : DE} {pos pos' : Pos} (hN : X.N.Nodup) (hi : X.N[i]? = some x) (hx : Loc X.env.scope x) (he : PEd X c e de) (hs : swapsWith e (some (.Name x pos')) pos.line X.env = pure false := by rfl) (hf : X.fn x = true ∨ X.env.scope.names.lookup x = some .local := by first | exact .inl rfl | exact .inr rfl | assumption) :
    PSd X c (.Assign [.Name x pos'] e pos) (dSet i de) :=
  let ⟨_, h1, l1⟩ := he
  ⟨_, ps_set hN hi hx h1 hs hf, lk_set l1⟩
/-- targets of any form -/
def dAsg (de : DE) (dg : DG) : DS := fun E A b => de A b fun r b1 => r.kp ∧ dg r.d A fun A' => E.nx A' b1
theorem s_asg {tg e : Expr} {de : DE} {dg : DG} {ts : List Nat} {pos : Pos} (he : PEd X c e de) (hg : PGd X c tg dg ts) (hs : swapsWithSole [tg] e pos.line X.env = pure false := by rfl) (hw : swappedStores [tg] e X.env = pure none := by rfl)
    (h1 : (assignEach [tg] X.env).map (·.2) = [assign tg X.env] := by rfl) : PSd X c (.Assign [tg] e pos) (dAsg de dg) :=
  let ⟨_, h2, l2⟩ := he
  let ⟨_, h3, l3⟩ := hg
  ⟨_, ps_asg h2 h3 hs hw h1, fun F σ H A b D E rr eo h => l2 F σ H A b _ _ rr h fun r b1 v F1 H1 ⟨hk, h1⟩ g1 => by
    obtain ⟨F2, m, g2⟩ := g1.keep hk
    exact l3 F2 σ H1 A b1 v r.d _ _ g2.rr g2.ok h1 fun A' σ' h2 r2 _ => eo.nx F2 σ' H1 A' b1 g2.e.f r2 h2⟩
/-- x op= e -/
def dAug (i : Nat) (de : DE) (f : D2) : DS := fun E A b => dVar i A b fun x b0 => de A b0 fun y b1 => f x y fun z => putR i A z fun A' => E.nx A' b1
/-! ### a list of a name's own is changed -/
def own (A : List Sl) (j : Nat) (k : List D → Prop) : Prop := match A[j]? with
  | some (.own ds) => k ds
  | _ => False
theorem own_ok {F H : Hp} {σ : L2.St} {A : List Sl} {b : Nat} {j : Nat} {k : List D → Prop} (rr : R c F σ H A b) (h : own A j k) : ∃ ds p vs, A[j]? = some (.own ds) ∧ k ds ∧ σ[j]? = some (some (.ref p)) ∧ F p = none ∧ c.B p = none ∧ off c.G H p = some (.lst vs) ∧ RpA c.K F vs ds := by
  unfold own at h
  split at h
  · rename_i ds e
    obtain ⟨p, vs, hx, h1, h2, h3, q⟩ := rr.sl j _ e
    exact ⟨ds, p, vs, e, h, hx, h1, h2, h3, q⟩
  · exact h.elim
def dApp (j : Nat) (de : DE) : DS := fun E A b => own A j fun ds => de A b fun r b1 => r.kp ∧ ds.length < sizeLine ∧ E.nx (A.set j (.own (ds ++ [r.d]))) b1
theorem lk_app {K : PySem.W.Frag} {j : Nat} {te : TE} {de : DE} (l : Lk c te de) : LkS c (tDrop (tBM K "list" rAppend (tVar j) (tCons te tNil))) (dApp j de) := fun F σ H A b D E rr eo h => by
  obtain ⟨ds, p, vs, hj, h, hx, h1, h2, h3, q⟩ := own_ok rr h
  refine ⟨_, hx, .inl ⟨rfl, _, SqL.of (off_sub h3)⟩, l F σ H A b _ _ rr h fun r b1 v F1 H1 ⟨hk, hl, h'⟩ g1 => ?_⟩
  obtain ⟨F2, m, g2⟩ := g1.keep hk
  refine ⟨p, vs, v, rfl, rfl, off_sub (g2.e.h _ _ h3), by rw [q.length]; exact hl, ?_⟩
  exact eo.nx F2 σ _ _ b1 g2.e.f (g2.rr.mut hj hx (g2.e.keep h1 h3) h2 (g2.e.h _ _ h3) ((q.mono g2.e.f).append (.one g2.ok))) h'
theorem s_app {j : Nat} {x : Str} {e : Expr} {de : DE} {p1 p2 p3 p4 : Pos} (hv : PE X (.Name x p1) (tVar j)) (he : PEd X c e de) (hst : starEach [e] X.env = (false, eval e X.env) :: starEach [] X.env)
    (hbase : attributeBase (.Name x p1) "append" X.env (eval (.Name x p1) X.env) = eval (.Name x p1) X.env := by rfl)
    (hfew : ((backTo p3 (starEach [e] X.env)).all (fun x => !x.1) && (backToKw p3 (keywordEach [] X.env)).all (fun x => x.1.isSome) && decide ([e].length + ([] : List Keyword).length + (if ([] : List Keyword).isEmpty then 0 else 1) < 30)) = true := by rfl)
    (hline : (p2.endLine == p3.line) = true := by rfl) (hplain : (backTo p3 (starEach [] X.env)).any (·.1) = false := by rfl) (hs : swapsWith (.Call (.Attribute (.Name x p1) "append" p2) [e] [] p3) none p4.line X.env = pure false := by rfl) :
    PSd X c (.Expr (.Call (.Attribute (.Name x p1) "append" p2) [e] [] p3) p4) (dApp j de) :=
  let ⟨_, h1, l1⟩ := he
  ⟨_, ps_expr (pe_bm PySem.F.plainAttrs_list PySem.F.slot_list_append PySem.F.type_list_append mt_append hv (pa_cons h1 pa_nil hst) hbase hfew hline hst hplain) hs, lk_app l1⟩
def dExt (j : Nat) (de : DE) : DS := fun E A b => own A j fun ds => de A b fun r b1 => ∃ es, r.d = .lst es ∧ ds.length + es.length ≤ sizeLine ∧ E.nx (A.set j (.own (ds ++ es))) b1
/-- x[i] = e -/
def dSetIx (j : Nat) (di de : DE) : DS := fun E A b => de A b fun r b1 => r.kp ∧ own A j fun ds => di A b1 fun i b2 => ∃ n m, i = .s (.int n) ∧ ixN ds.length n = some m ∧ E.nx (A.set j (.own (ds.set m r.d))) b2
theorem s_setIx {j : Nat} {x : Str} {i e : Expr} {di de : DE} {p1 p2 pos : Pos} (hv : PE X (.Name x p1) (tVar j)) (hi : PEd X c i di) (he : PEd X c e de)
    (ha : ∀ v, assign (.Subscript (.Name x p1) i p2) X.env v = (do
      let ov ← holding [v] (eval (.Name x p1) X.env)
      let iv ← holding [v, ov] (eval i X.env)
      standAt p2
      holding [v, ov, iv] (setItem ov iv v)
      release [v, ov, iv] []) := by intro _; rfl)
    (hs : swapsWithSole [.Subscript (.Name x p1) i p2] e pos.line X.env = pure false := by rfl) (hw : swappedStores [.Subscript (.Name x p1) i p2] e X.env = pure none := by rfl)
    (h1 : (assignEach [.Subscript (.Name x p1) i p2] X.env).map (·.2) = [assign (.Subscript (.Name x p1) i p2) X.env] := by rfl) : PSd X c (.Assign [.Subscript (.Name x p1) i p2] e pos) (dSetIx j di de) :=
  let ⟨_, h2, l2⟩ := hi
  let ⟨_, h3, l3⟩ := he
  ⟨_, ps_asg h3 (pg_sub hv h2 set_list ha) hs hw h1, fun F σ H A b D E rr eo h => l3 F σ H A b _ _ rr h fun r b1 v F1 H1 ⟨hk, h1⟩ g1 => by
    obtain ⟨F2, m, g2⟩ := g1.keep hk
    obtain ⟨ds, p, vs, hj, h1, hx, z1, z2, z3, q⟩ := own_ok g2.rr h1
    refine ⟨_, hx, l2 F2 σ H1 A b1 _ _ g2.rr h1 fun iv b2 w F3 H3 ⟨n, k, ei, hix, h'⟩ g3 => ?_⟩
    subst ei
    refine ⟨p, vs, n, k, rfl, g3.ok.int rfl, off_sub (g3.e.h _ _ z3), by rw [q.length]; exact hix, ?_⟩
    exact eo.nx F3 σ _ _ b2 (fun a o z => g3.e.f a o (g2.e.f a o z)) (g3.rr.mut hj hx (g3.e.keep z1 z3) z2 (g3.e.h _ _ z3) ((q.mono g3.e.f).set (g2.ok.mono g3.e.f) k)) h'⟩
/-- a value is dropped -/
def dDrop (de : DE) : DS := fun E A b => de A b fun _ b1 => E.nx A b1
/-! ### if, while, for -/
def dIfS (dt : DT) (t u : DS) : DS := fun E A b => dt A b fun k b1 => if k = true then t E A b1 else u E A b1
theorem s_if {e : Expr} {x y : List Stmt} {dt : DT} {t u : DS} {pos : Pos} (h : PTd X c e dt) (hx : PSsd X c x t) (hy : PSsd X c y u) : PSd X c (.If e x y pos) (dIfS dt t u) :=
  let ⟨_, h1, l1⟩ := h
  let ⟨_, h2, l2⟩ := hx
  let ⟨_, h3, l3⟩ := hy
  ⟨_, ps_if h1 h2 h3, fun F σ H A b D E rr eo h => l1 F σ H A b _ _ rr h fun k b1 F1 H1 h1 r1 e1 => by
    cases k with
    | true => exact l2 F1 σ H1 A b1 D E r1 (eo.up e1.f) h1
    | false => exact l3 F1 σ H1 A b1 D E r1 (eo.up e1.f) h1⟩
def dWhile (dt : DT) (t : DS) : DS := fun E A b => ∃ W : Nat → List Sl → Nat → Prop, (∃ m, W m A b) ∧ ∀ m A b, W m A b →
  dt A b fun k b1 => if k = true then t { E with nx := fun A' b' => ∃ m', m' < m ∧ W m' A' b', ct := fun A' b' => ∃ m', m' < m ∧ W m' A' b', bk := E.nx } A b1 else E.nx A b1
def dFor (di : DI) (dg : DG) (t : DS) : DS := fun E A b => di A b fun ds b1 => ∃ I : Nat → List Sl → Nat → Prop, I 0 A b1 ∧
  (∀ i d A b, ds[i]? = some d → I i A b → dg d A fun A' => t { E with nx := I (i + 1), ct := I (i + 1), bk := E.nx } A' b) ∧ ∀ A b, I ds.length A b → E.nx A b
theorem s_for {tg e : Expr} {x : List Stmt} {di : DI} {dg : DG} {ts : List Nat} {t : DS} {pos : Pos} (hp : PassesOwn (model X.prog X.w) X.A X.env X.xe) (hc : X.calm = true) (hi : PFd X c tg e di) (hg : PGd X c tg dg ts) (hx : PSsd X c x t) (hs : ∀ x, foldedSetIterable e X.env x = pure x := by intro _; rfl) : PSd X c (.For tg e x [] pos) (dFor di dg t) :=
  let ⟨_, h1, l1⟩ := hi
  let ⟨_, h2, l2⟩ := hg
  let ⟨_, h3, l3⟩ := hx
  ⟨_, ps_for hp hc h1 h2 h3 hs, fun F σ H A b D E rr eo h => l1 F σ H A b _ _ rr h fun ds b1 F1 H1 J ⟨I, i0, turn, fin⟩ r1 e1 jx => by
    refine ⟨fun i m σ' H' => m + i = ds.length ∧ ∃ F' A' b', Sub F1 F' ∧ R c F' σ' H' A' b' ∧ I i A' b', ⟨ds.length, rfl, F1, A, b1, fun _ _ z => z, r1, i0⟩, ?_⟩
    rintro i m σ' H' ⟨em, F', A', b', s', r', w'⟩
    have j := jx F' H' b' s' r'.sub r'.bsub r'.st i
    have sF : Sub F F' := fun a o z => s' a o (e1.f a o z)
    rcases Nat.lt_or_ge i ds.length with hl | hl
    · right
      obtain ⟨d, hd⟩ : ∃ d, ds[i]? = some d := ⟨_, List.getElem?_eq_getElem hl⟩
      obtain ⟨go, yl⟩ := j.1 d hd
      refine ⟨go, fun σ2 H2 => ∃ F' A' b', Sub F1 F' ∧ R c F' σ2 H2 A' b' ∧ I (i + 1) A' b', fun σ2 H2 z => ⟨m - 1, by omega, by omega, z⟩, fun x H2 hy => ?_⟩
      obtain ⟨F2, e2, sb, g2, rv⟩ := yl x H2 hy
      have r2 := r'.ext e2 sb g2
      refine l2 F2 σ' H2 A' b' x d _ _ r2 rv (turn i d A' b' hd w') fun A3 σ3 h3 r3 _ => ?_
      have s2 : Sub F F2 := fun a o z => e2.f a o (sF a o z)
      have s3 : Sub F1 F2 := fun a o z => e2.f a o (s' a o z)
      refine l3 F2 σ3 H2 A3 b' _ { E with nx := I (i + 1), ct := I (i + 1), bk := E.nx } r3 ⟨?_, (eo.up s2).rt, (eo.up s2).nx, ?_⟩ h3
      · exact fun F4 σ4 H4 A4 b4 m4 r4 w4 => ⟨F4, A4, b4, fun a o z => m4 a o (s3 a o z), r4, w4⟩
      · exact fun F4 σ4 H4 A4 b4 m4 r4 w4 => ⟨F4, A4, b4, fun a o z => m4 a o (s3 a o z), r4, w4⟩
    · left
      have e : i = ds.length := by omega
      subst e
      exact ⟨j.2 rfl, eo.nx F' σ' H' A' b' sF r' (fin A' b' w')⟩⟩
/-! ### an own list is said to stay -/
def dFrz (i : Nat) (t : DS) : DS := fun E A b => match A[i]? with
  | some (.own ds) => t E (A.set i (.val (.lst ds))) b
  | _ => t E A b
theorem s_frz {i : Nat} {st : Stmt} {t : DS} (h : PSd X c st t) : PSd X c st (dFrz i t) :=
  let ⟨_, h1, l1⟩ := h
  ⟨_, h1, fun F σ H A b D E rr eo h => by
    unfold dFrz at h
    split at h
    · rename_i ds e
      obtain ⟨F', m, r'⟩ := rr.frz e
      exact l1 F' σ H _ b D E r' (eo.up m) h
    · exact l1 F σ H A b D E rr eo h⟩
end
end Dd

namespace Dd
open PySem L2 Pk
section
variable {X : Cx} {c : Dc}
/-! ### comprehensions -/
def wipeS (A : List Sl) : List Nat → List Sl
  | [] => A
  | v :: vs => (wipeS A vs).set v .no
theorem R.wipes {F H : Hp} {σ : L2.St} {A : List Sl} {b : Nat} (r : R c F σ H A b) : ∀ vs : List Nat, R c F (wipe σ vs) H (wipeS A vs) b
  | [] => r
  | v :: vs => (r.wipes vs).wiped
theorem wipe_wipe {σ : L2.St} : ∀ {us vs : List Nat}, (∀ i ∈ us, i ∈ vs) → wipe (wipe σ us) vs = wipe σ vs
  | [], vs, _ => rfl
  | u :: us, vs, h => by
    show wipe ((wipe σ us).set u none) vs = wipe σ vs
    rw [set_wipe (h u (by simp)), wipe_wipe fun i hi => h i (List.mem_cons_of_mem _ hi)]
/-- a list that is nobody's is changed -/
theorem R.tmp {F H : Hp} {σ : L2.St} {A : List Sl} {b : Nat} {p : Addr} {o o' : HO} (r : R c F σ H A b) (hF : F p = none) (hB : c.B p = none) (hH : off c.G H p = some o) (hn : ∀ (i : Nat) (xs : List D), A[i]? = some (.own xs) → σ[i]? ≠ some (some (.ref p))) : R c F σ (upd H p o') A b := by
  have ho : off c.G (upd H p o') = upd (off c.G H) p o' := off_mut hH
  refine ⟨fun a u h => ?_, fun a u h => ?_, r.f0, r.n0, gst_mut r.st hH, fun i s h => ?_, r.ds, r.len⟩
  · rw [ho, upd_ne (ne_of_none h hF)]; exact r.sub a u h
  · rw [ho, upd_ne (ne_of_none h hB)]; exact r.bsub a u h
  · have q := r.sl i s h
    cases s with
    | no => trivial
    | val d => exact q
    | own ds =>
      obtain ⟨p', vs, hx, h1, h2, h3, rr⟩ := q
      refine ⟨p', vs, hx, h1, h2, ?_, rr⟩
      rw [ho, upd_ne (fun z => by subst z; exact hn i ds h hx)]
      exact h3
    | bb ds => exact q
    | st => exact q
inductive PTsd (X : Cx) (c : Dc) (ifs : List Expr) (dt : DT) : Prop
  | mk (te : TT) (h : PTs X ifs te) (l : LkT c te dt)
def dYes : DT := fun _ b k => k true b
theorem ts_nil : PTsd X c [] dYes := ⟨_, pts_nil, fun F σ H A b Q k rr h hk => hk _ _ _ _ h rr .refl⟩
theorem ts_one {e : Expr} {dt : DT} (h : PTd X c e dt) : PTsd X c [e] dt :=
  let ⟨_, h1, l1⟩ := h
  ⟨_, pts_one h1, l1⟩
def dLc (di : DI) (dg : DG) (dt : DT) (de : DE) (ws : List Nat) : DE := fun A b k => di A b fun ds b1 => ∃ I : Nat → List D → Nat → Prop, I 0 [] b1 ∧
  (∀ i d acc b, ds[i]? = some d → I i acc b → dg d (wipeS A ws) fun A' => dt A' b fun t b2 => if t = true then de A' b2 fun r b3 => r.kp ∧ acc.length < sizeLine ∧ I (i + 1) (acc ++ [r.d]) b3 else I (i + 1) acc b2) ∧ ∀ acc b, I ds.length acc b → k (.o acc) b
theorem lk_lc {wi : TI} {g : TG} {tt : TT} {te : TE} {di : DI} {dg : DG} {dt : DT} {de : DE} {ws ts : List Nat} (li : LkI c wi di) (lg : LkG c g dg ts) (hts : ∀ i ∈ ts, i ∈ ws) (lt : LkT c tt dt) (le : Lk c te de) : Lk c (tLc wi g tt te ws) (dLc di dg dt de ws) := by
  intro F σ H A b Q k rr h hk
  refine li F σ H A b _ _ rr h fun ds b1 F1 H1 J ⟨I, i0, turn, fin⟩ r1 e1 jx => fun p hp => ?_
  have hoff : off c.G H1 p = none := off_none hp
  have hB : c.B p = none := by
    cases q : c.B p with
    | none => rfl
    | some u => rw [r1.bsub p u q] at hoff; cases hoff
  have hF1 : F1 p = none := by
    cases q : F1 p with
    | none => rfl
    | some u => rw [r1.sub p u q] at hoff; cases hoff
  have hn : ∀ (i : Nat) (xs : List D), A[i]? = some (.own xs) → σ[i]? ≠ some (some (.ref p)) := fun i xs hi z => by
    obtain ⟨p', vs, hx, _, _, h3, _⟩ := r1.sl i _ hi
    rw [hx] at z
    cases z
    rw [h3] at hoff
    cases hoff
  refine ⟨fun i m H' => m + i = ds.length ∧ ∃ F' vs acc b', R c F' σ H' A b' ∧ Ext c F1 H1 F' H' ∧ F' p = none ∧ off c.G H' p = some (.lst vs) ∧ RpA c.K F' vs acc ∧ I i acc b', ⟨ds.length, rfl, F1, [], [], b1, (r1.alloc hp).2, (r1.alloc hp).1, hF1, by rw [off_new r1.st hp, upd_same], .nil, i0⟩, ?_⟩
  rintro i m H' ⟨em, F', vs, acc, b', r', e', f', o', q', w'⟩
  have j := jx F' H' b' e'.f r'.sub e'.h r'.st i
  rcases Nat.lt_or_ge i ds.length with hl | hl
  · right
    obtain ⟨d, hd⟩ : ∃ d, ds[i]? = some d := ⟨_, List.getElem?_eq_getElem hl⟩
    obtain ⟨go, yl⟩ := j.1 d hd
    refine ⟨go, fun H2 => ∃ F' vs acc b', R c F' σ H2 A b' ∧ Ext c F1 H1 F' H2 ∧ F' p = none ∧ off c.G H2 p = some (.lst vs) ∧ RpA c.K F' vs acc ∧ I (i + 1) acc b', fun H2 z => ⟨m - 1, by omega, by omega, z⟩, fun x H2 hy => ?_⟩
    obtain ⟨F2, e2, sb, g2, rv⟩ := yl x H2 hy
    have r2 := r'.ext e2 sb g2
    refine lg F2 (wipe σ ws) H2 (wipeS A ws) b' x d _ _ (r2.wipes ws) rv (turn i d acc b' hd w') fun A3 σ3 h3 r3 w3 => ⟨?_, ?_⟩
    · rw [w3 ws hts, wipe_wipe fun i hi => hi]
    refine lt F2 σ3 H2 A3 b' _ _ r3 h3 fun t b3 F3 H3 h4 r4 e4 => ?_
    cases t with
    | false =>
      have e := e2.trans e4
      exact ⟨F3, vs, acc, b3, r'.ext e r4.sub r4.st, e'.trans e, e.keep f' o', e.h _ _ o', q'.mono e.f, h4⟩
    | true =>
      refine le F3 σ3 H3 A3 b3 _ _ r4 h4 fun r b5 v F5 H5 ⟨kp, hlen, h5⟩ g5 => ?_
      obtain ⟨F6, m6, g6⟩ := g5.keep kp
      have e := (e2.trans e4).trans g6.e
      have o6 := e.h _ _ o'
      have f6 := e.keep f' o'
      refine ⟨vs, off_sub o6, by rw [q'.length]; exact hlen, F6, vs ++ [v], acc ++ [r.d], b5, ((r'.ext e g6.rr.sub g6.rr.st).tmp f6 hB o6 hn), ?_, f6, by rw [off_mut o6, upd_same], (q'.mono e.f).append (.one g6.ok), h5⟩
      have et := e'.trans e
      exact ⟨et.f, fun a u z => by rw [off_mut o6, upd_ne (fun y => by subst y; rw [hoff] at z; cases z)]; exact et.h a u z, et.n⟩
  · left
    have e : i = ds.length := by omega
    subst e
    exact ⟨j.2 rfl, hk _ _ _ F' H' (fin acc b' w') ⟨r', e1.trans e', ⟨p, vs, rfl, f', hB, o', q', hn⟩, fun _ _ _ z => by cases z; exact e1.none hoff⟩⟩
/-! ### one reading for all blocks -/
def up (c : Dc) (de : DE) : TE := fun σ H Q => ∃ F A b k, R c F σ H A b ∧ de A b k ∧ ∀ r b' v F' H', k r b' → Got c F H σ A F' H' b' v r → Q v H'
theorem lk_up {de : DE} : Lk c (up c de) de := fun F σ H A b Q k rr h hk => ⟨F, A, b, k, rr, h, hk⟩
theorem PEd.up {e : Expr} {de : DE} (h : PEd X c e de) : PE X e (up c de) := by
  obtain ⟨te, h1, l1⟩ := h
  rintro pins s σ H Q I ⟨F, A, b, k, rr, h, hk⟩
  exact h1 pins s σ H Q I (l1 F σ H A b Q k rr h hk)
def upT (c : Dc) (de : DT) : TT := fun σ H Q => ∃ F A b k, R c F σ H A b ∧ de A b k ∧ ∀ t b' F' H', k t b' → R c F' σ H' A b' → Ext c F H F' H' → Q t H'
theorem lk_upT {de : DT} : LkT c (upT c de) de := fun F σ H A b Q k rr h hk => ⟨F, A, b, k, rr, h, hk⟩
theorem PTsd.up {ifs : List Expr} {de : DT} (h : PTsd X c ifs de) : PTs X ifs (upT c de) := by
  obtain ⟨te, h1, l1⟩ := h
  rintro pins s σ H Q I ⟨F, A, b, k, rr, h, hk⟩
  exact h1 pins s σ H Q I (l1 F σ H A b Q k rr h hk)
def upG (c : Dc) (dg : DG) (ts : List Nat) : TG := fun v σ H Q => ∃ F A b d k, R c F σ H A b ∧ Rp c.K F v d ∧ dg d A k ∧ ∀ A' σ', k A' → R c F σ' H A' b → Wp ts σ σ' → Q σ' H
theorem lk_upG {dg : DG} {ts : List Nat} : LkG c (upG c dg ts) dg ts := fun F σ H A b v d Q k rr rv h hk => ⟨F, A, b, d, k, rr, rv, h, hk⟩
theorem PGd.up {tg : Expr} {dg : DG} {ts : List Nat} (h : PGd X c tg dg ts) : PG X tg (upG c dg ts) := by
  obtain ⟨g, h1, l1⟩ := h
  rintro pins s σ H v u Q I r ⟨F, A, b, d, k, rr, rv, h, hk⟩
  exact h1 pins s σ H v u Q I r (l1 F σ H A b v d Q k rr rv h hk)
def all_in (ts ws : List Nat) : Bool := ts.all fun i => ws.contains i
theorem all_in_of {ts ws : List Nat} (h : all_in ts ws = true) : ∀ i ∈ ts, i ∈ ws := fun i hi => by
  have := List.all_eq_true.mp h i hi
  simpa using this
theorem d_lc {elt tg iter : Expr} {ifs : List Expr} {scope : Scope} {own : List (Str × Nat)} {pos : Pos} {di : DI} {dg : DG} {dt : DT} {de : DE} {ts : List Nat} (hc : X.calm = true) (hN : X.N.Nodup) (hi : PId X c tg iter di) (ok : BlkOk X.N X.env.scope scope own)
    (hg : ∀ (s : Shared) (H : Hp) (C : Addr) (cl : List (Str × Addr)) (fp : List Addr), PGd (X.blk s H scope (compEnvC scope cl C X.env) fp) c tg dg ts) (hts : all_in ts (own.map (·.2)) = true)
    (ht : ∀ (s : Shared) (H : Hp) (C : Addr) (cl : List (Str × Addr)) (fp : List Addr), PTsd (X.blk s H scope (compEnvC scope cl C X.env) fp) c ifs dt)
    (he : ∀ (s : Shared) (H : Hp) (C : Addr) (cl : List (Str × Addr)) (fp : List Addr), PEd (X.blk s H scope (compEnvC scope cl C X.env) fp) c elt de) (hs : ∀ x, foldedSetIterable iter X.env x = pure x := by intro _; rfl) :
    PEd X c (.ListComp elt [⟨tg, iter, ifs, 0⟩] scope pos) (dLc di dg dt de (own.map (·.2))) :=
  let ⟨_, h1, l1⟩ := hi
  ⟨_, pe_lc hc hN h1 ok (fun s H C cl fp => (hg s H C cl fp).up) (fun s H C cl fp => (ht s H C cl fp).up) (fun s H C cl fp => (he s H C cl fp).up) hs, lk_lc l1 lk_upG (all_in_of hts) lk_upT lk_up⟩
theorem s_setLc {i : Nat} {y : Str} {py : Pos} {elt tg iter : Expr} {ifs : List Expr} {scope : Scope} {own : List (Str × Nat)} {pos spos : Pos} {di : DI} {dg : DG} {dt : DT} {de : DE} {ts : List Nat} (hc : X.calm = true) (hN : X.N.Nodup) (hy : X.N[i]? = some y) (hyl : X.env.scope.names.lookup y = some .local)
    (hsw : swapsWith (.ListComp elt [⟨tg, iter, ifs, 0⟩] scope pos) (some (.Name y py)) spos.line X.env = pure true) (hi : PId X c tg iter di) (ok : BlkOk X.N X.env.scope scope own)
    (hg : ∀ (s : Shared) (H : Hp) (C : Addr) (cl : List (Str × Addr)) (fp : List Addr), PGd (X.blk s H scope (compEnvC scope cl C X.env) fp) c tg dg ts) (hts : all_in ts (own.map (·.2)) = true)
    (ht : ∀ (s : Shared) (H : Hp) (C : Addr) (cl : List (Str × Addr)) (fp : List Addr), PTsd (X.blk s H scope (compEnvC scope cl C X.env) fp) c ifs dt)
    (he : ∀ (s : Shared) (H : Hp) (C : Addr) (cl : List (Str × Addr)) (fp : List Addr), PEd (X.blk s H scope (compEnvC scope cl C X.env) fp) c elt de) (hs : ∀ x, foldedSetIterable iter X.env x = pure x := by intro _; rfl) :
    PSd X c (.Assign [.Name y py] (.ListComp elt [⟨tg, iter, ifs, 0⟩] scope pos) spos) (dSet i (dLc di dg dt de (own.map (·.2)))) :=
  let ⟨_, h1, l1⟩ := hi
  ⟨_, ps_setLc hc hN hy hyl hsw h1 ok (fun s H C cl fp => (hg s H C cl fp).up) (fun s H C cl fp => (ht s H C cl fp).up) (fun s H C cl fp => (he s H C cl fp).up) hs, lk_set (lk_lc l1 lk_upG (all_in_of hts) lk_upT lk_up)⟩
/-! ### what a def promises -/
/-- an exception: its class, its fields -/
structure Ex where
  cls : Addr
  fs : List (Key × D)
abbrev DX := Ex → Nat → Prop
abbrev DSp := List Sl → Nat → DK → DX → Prop
inductive ArOk (c : Dc) (F H : Hp) : List V → List Sl → Prop
  | nil : ArOk c F H [] []
  | cons {v : V} {vs : List V} {s : Sl} {ss : List Sl} : SlOk c F H (some (some v)) s → (∀ xs, s ≠ .own xs) → ArOk c F H vs ss → ArOk c F H (v :: vs) (s :: ss)
theorem ArOk.length {F H : Hp} : ∀ {vs : List V} {ss : List Sl}, ArOk c F H vs ss → vs.length = ss.length
  | _, _, .nil => rfl
  | _, _, .cons _ _ t => by rw [List.length_cons, List.length_cons, t.length]
/-- at a call: the frozen part F of the caller, all else a base that stays -/
@[reducible] def atCall (K : PySem.W.Frag) (G : Gh) (F H : Hp) : Dc := ⟨K, G, F, off G H⟩
def spD (K : PySem.W.Frag) (ds : DSp) : Sp := fun vs H Q E => ∃ G F args b k kx, ArOk (atCall K G F H) F H vs args ∧ Sub F (off G H) ∧ gst G H b ∧ ds args b k kx ∧
  ∀ r b' v F' H', k r b' → Ext (atCall K G F H) F H F' H' → gst G H' b' → Sub F' (off G H') → RtOk (atCall K G F H) F' H' v r → Q v H'
/-! ### a def is called -/
def toSl : Rs → Sl
  | .s d => .val d
  | .b ds => .bb ds
  | .p ds => .bb ds
  | .o ds => .val (.lst ds)
  | .g => .st
theorem AOk.ar {F H : Hp} {σ : L2.St} {A : List Sl} {b : Nat} (rr : R c F σ H A b) (no : ∀ ds, Rs.o ds ∉ ([] : List Rs)) : ∀ {vs : List V} {rs : List Rs}, AOk c F H σ A vs rs → (∀ ds, Rs.o ds ∉ rs) → ArOk (atCall c.K c.G F H) F H vs (rs.map toSl)
  | _, _, .nil, _ => .nil
  | _, .s d :: rs, .cons h t, n => .cons ⟨_, rfl, h⟩ (fun xs z => by cases z) (t.ar rr no fun ds z => n ds (List.mem_cons_of_mem _ z))
  | _, .b es :: rs, .cons h t, n => .cons (let ⟨p, vs, e, h1, q⟩ := h; ⟨p, vs, by rw [e], h1, q⟩) (fun xs z => by cases z) (t.ar rr no fun ds z => n ds (List.mem_cons_of_mem _ z))
  | _, .p es :: rs, .cons h t, n => .cons (let ⟨p, vs, e, h1, q⟩ := h; ⟨p, vs, by rw [e], rr.bsub _ _ h1, q⟩) (fun xs z => by cases z) (t.ar rr no fun ds z => n ds (List.mem_cons_of_mem _ z))
  | _, .o es :: rs, .cons h t, n => absurd (List.mem_cons_self) (n es)
  | _, .g :: rs, .cons h t, n => .cons (let ⟨d, k, e, h1⟩ := h; ⟨d, k, e, by rw [h1]⟩) (fun xs z => by cases z) (t.ar rr no fun ds z => n ds (List.mem_cons_of_mem _ z))
def noO : List Rs → Bool
  | [] => true
  | .o _ :: _ => false
  | _ :: rs => noO rs
theorem noO_of : ∀ {rs : List Rs}, noO rs = true → ∀ ds, Rs.o ds ∉ rs
  | [], _, ds, h => by cases h
  | .o _ :: _, h, _, _ => by cases h
  | .s _ :: rs, h, ds, z => by rcases List.mem_cons.mp z with z | z; cases z; exact noO_of (rs := rs) h ds z
  | .b _ :: rs, h, ds, z => by rcases List.mem_cons.mp z with z | z; cases z; exact noO_of (rs := rs) h ds z
  | .p _ :: rs, h, ds, z => by rcases List.mem_cons.mp z with z | z; cases z; exact noO_of (rs := rs) h ds z
  | .g :: rs, h, ds, z => by rcases List.mem_cons.mp z with z | z; cases z; exact noO_of (rs := rs) h ds z
def dCall (ds : DSp) (kx : DX) (da : DA) : DE := fun A b k => da A b fun rs b1 => noO rs = true ∧ ds (rs.map toSl) b1 k kx
theorem lk_call {ds : DSp} {kx : DX} {ta : TA} {da : DA} {E : XK} (la : LkA c ta da) : Lk c (tCall (spD c.K ds) [] E ta) (dCall ds kx da) := fun F σ H A b Q k rr h hk =>
  la F σ H A b _ _ rr h fun rs b1 vs F1 H1 ⟨no, h1⟩ r1 e1 a1 => by
    rw [List.append_nil]
    refine ⟨c.G, F1, rs.map toSl, b1, k, kx, a1.ar r1 (fun ds z => by cases z) (noO_of no), r1.sub, r1.st, h1, fun r b' v F' H' hk' ex gs sb ok => ?_⟩
    have ex' : Ext c F1 H1 F' H' := ⟨ex.f, ex.h, ex.n⟩
    have r2 := r1.ext ex' sb gs
    cases r with
    | s d => exact hk _ _ _ _ _ hk' ⟨r2, e1.trans ex', ok, fun _ _ z => by cases z⟩
    | o es =>
      obtain ⟨p, ws, rfl, z1, z2, z3, q⟩ := ok
      have z2' : off c.G H1 p = none := z2
      refine hk _ _ _ _ _ hk' ⟨r2, e1.trans ex', ⟨p, ws, rfl, z1, ?_, z3, q, fun i xs hi z => ?_⟩, fun _ _ _ z => by cases z; exact e1.none z2'⟩
      · cases y : c.B p with
        | none => rfl
        | some u => rw [r1.bsub p u y] at z2'; cases z2'
      · obtain ⟨p', vs', hx, _, _, h3, _⟩ := r1.sl i _ hi
        rw [hx] at z
        cases z
        rw [h3] at z2'
        cases z2'
    | b es => exact ok.elim
    | p es => exact ok.elim
    | g => exact ok.elim
theorem d_call {CX : CXT} {j : Nat} {f : Addr} {fd : FuncData} {ps : List Str} {ds : DSp} {kx : DX} {E : XK} {x : Str} {p pos : Pos} {e : Expr} {es : List Expr} {da : DA} (hK : c.K = X.K) (Fn : FnOk X.prog X.w X.K X.mg X.base CX j f fd ps (spD X.K ds)) (hr : Room j X.A) (hg : Gl X x) (hm : X.mg x = some (.ref f)) (hk : PySem.W.keepIn X.K (.ref f) = true) (hb : Binds X.K fd ps []) (hx : Passes CX X E)
    (ha : PAd X c (e :: es) da) (hdb : (x == ("__debug__" : Str)) = false := by decide) (he : starEach (e :: es) X.env = (false, eval e X.env) :: starEach es X.env := by rfl) (hpl : (backTo pos (starEach es X.env)).any (·.1) = false := by rfl) :
    PEd X c (.Call (.Name x p) (e :: es) [] pos) (dCall ds kx da) :=
  let ⟨_, h1, l1⟩ := ha
  ⟨_, pe_call Fn hr hg hm hk hb .nil hx h1 hdb he hpl, hK ▸ lk_call (E := E) l1⟩
/-! ### a def's own proof -/
def startS (n : Nat) (args : List Sl) : List Sl := args ++ List.replicate (n - args.length) .no
theorem ArOk.get {F H : Hp} : ∀ {vs : List V} {ss : List Sl} {i : Nat} {s : Sl}, ArOk c F H vs ss → ss[i]? = some s → ∃ v, vs[i]? = some v ∧ SlOk c F H (some (some v)) s ∧ ∀ xs, s ≠ .own xs
  | _, _, i, _, .nil, e => by simp at e
  | _, _, 0, _, .cons h n t, e => by
    rw [List.getElem?_cons_zero] at e ⊢
    cases e
    exact ⟨_, rfl, h, n⟩
  | _, _, i + 1, _, .cons h n t, e => by
    rw [List.getElem?_cons_succ] at e ⊢
    exact t.get e
theorem start_ok {K : PySem.W.Frag} {G : Gh} {F H : Hp} {b : Nat} {N : List Str} {vs : List V} {args : List Sl} (ha : ArOk (atCall K G F H) F H vs args) (sb : Sub F (off G H)) (gs : gst G H b) : R (atCall K G F H) F (start N vs) H (startS N.length args) b := by
  have key : ∀ (i : Nat) (s : Sl), (startS N.length args)[i]? = some s → SlOk (atCall K G F H) F H (start N vs)[i]? s ∧ ∀ xs, s ≠ .own xs := fun i s h => by
    unfold startS at h
    unfold L2.start
    rcases Nat.lt_or_ge i args.length with q | q
    · rw [List.getElem?_append_left q] at h
      obtain ⟨v, hv, ok, n⟩ := ha.get h
      rw [List.getElem?_append_left (by rw [List.length_map, ha.length]; exact q), List.getElem?_map, hv]
      exact ⟨ok, n⟩
    · rw [List.getElem?_append_right q] at h
      have : s = .no := by
        obtain ⟨_, e⟩ := List.getElem?_eq_some_iff.mp h
        rw [List.getElem_replicate] at e
        exact e.symm
      subst this
      exact ⟨trivial, fun xs z => by cases z⟩
  refine ⟨sb, fun _ _ h => h, fun _ _ h => h, fun _ _ h => .inl h, gs, fun i s h => (key i s h).1, fun i j p xs ys h1 => absurd rfl ((key i _ h1).2 xs), ?_⟩
  unfold L2.start startS
  rw [List.length_append, List.length_append, List.length_map, List.length_replicate, List.length_replicate, ha.length]
theorem fnD {P : Program} {w : World} {K : PySem.W.Frag} {mg : Str → Option Value} {base : Heap} {x qual : Str} {st : Stmt} {f : Addr} {fd : FuncData} {N ps : List Str} {k : Nat} {ds : DSp} (Fn : Fun K x qual st f fd) (S : FnScope N ps (defScope st)) (len : ∀ args b k kx, ds args b k kx → args.length = ps.length)
    (hbody : ∀ (cdv : Value) (A : Around) (outer : List Env) (s : Shared) (H : Hp) (E : XK) (c : Dc), c.K = K → Room k (A.deeper (PyProof.Rows.envOfC qual (defScope st) s.heap.objs.size f cdv)) →
      ∃ dS, PSsd (cxOf CX0 P w K mg base N qual (defScope st) f cdv A outer s H E).nox c (defBody st) dS ∧ ∀ args b k kx, ds args b k kx → dS { nx := fun _ b' => k (.s .non) b', rt := k } (startS N.length args) b) : FnOk P w K mg base CX0 (k + 1) f fd ps (spD K ds) := by
  refine Fn.ok S (fun vs H Q E h => ?_) fun cdv A outer s H vs Q E hr h => ?_
  · obtain ⟨G, F, args, b, k, kx, ha, _, _, hd, _⟩ := h
    rw [ha.length]
    exact len _ _ _ _ hd
  · obtain ⟨G, F, args, b, k, kx, ha, sb, gs, hd, hq⟩ := h
    obtain ⟨dS, ⟨t, h1, l1⟩, h2⟩ := hbody cdv A outer s H E (atCall K G F H) rfl hr
    refine ⟨t, h1, l1 F _ H _ b _ { nx := fun _ b' => k (.s .non) b', rt := k } (start_ok ha sb gs) ⟨?_, ?_, fun _ _ _ _ _ _ _ z => z.elim, fun _ _ _ _ _ _ _ z => z.elim⟩ (h2 args b k kx hd)⟩
    · exact fun F' σ' H' A' b' m r' hk => hq _ _ _ _ _ hk ⟨m, r'.bsub, r'.n0⟩ r'.st r'.sub Rp.non
    · exact fun F' σ' H' A' b' v r m r' ok hk => hq _ _ _ _ _ hk ⟨m, r'.bsub, r'.n0⟩ r'.st r'.sub ok
end
end Dd

namespace Dd
open PySem L2 Pk
/-! ### from promises over the heap -/
section
variable {K : PySem.W.Frag} {G : Gh} {F H H' : Hp} {b : Nat}
theorem off_same (gs : gst G H b) (s : Same H H') : Sub (off G H) (off G H') := fun a o h => by
  cases G with
  | none => exact s a o h
  | some z =>
    obtain ⟨d, c⟩ := z
    have h' := off_sub h
    have n1 : a ≠ d := by rintro rfl; unfold off at h; dsimp only at h; rw [if_pos rfl] at h; cases h
    have n2 : a ≠ c := by rintro rfl; unfold off at h; dsimp only at h; rw [if_neg n1, if_pos rfl] at h; cases h
    show (if a = d then none else if a = c then none else H' a) = some o
    rw [if_neg n1, if_neg n2]
    exact s a o h'
theorem gst_same (gs : gst G H b) (s : Same H H') : gst G H' b := by
  cases G with
  | none => trivial
  | some z => exact StA.same gs s
/-- a flat value, the heap grown -/
theorem end_flat {k : DK} {Q : VK} {r : D} {v : V} (sb : Sub F (off G H)) (gs : gst G H b)
    (hq : ∀ r b' v F' H', k r b' → Ext (atCall K G F H) F H F' H' → gst G H' b' → Sub F' (off G H') → RtOk (atCall K G F H) F' H' v r → Q v H') (hk : k (.s r) b) (s : Same H H') (rv : Rp K F v r) : Q v H' :=
  hq _ _ v F H' hk ⟨fun _ _ z => z, off_same gs s, fun _ _ z => .inl z⟩ (gst_same gs s) (fun a o z => off_same gs s a o (sb a o z)) rv
theorem ArOk.nilI {c : Dc} {vs : List V} (h : ArOk c F H vs []) : vs = [] := by cases h; rfl
theorem ArOk.consI {c : Dc} {vs : List V} {s : Sl} {ss : List Sl} (h : ArOk c F H vs (s :: ss)) : ∃ v ws, vs = v :: ws ∧ SlOk c F H (some (some v)) s ∧ ArOk c F H ws ss := by
  cases h with
  | cons h _ t => exact ⟨_, _, rfl, h, t⟩
theorem val_int {c : Dc} {v : V} {i : Int} (h : SlOk c F H (some (some v)) (.val (.int i))) : v = .int i := by
  obtain ⟨w, e, r⟩ := h; cases e; cases r; rfl
theorem val_rp {c : Dc} {v : V} {d : D} (h : SlOk c F H (some (some v)) (.val d)) : Rp c.K F v d := by
  obtain ⟨w, e, r⟩ := h; cases e; exact r
theorem st_ref {c : Dc} {v : V} (h : SlOk c F H (some (some v)) .st) : ∃ d k, c.G = some (d, k) ∧ v = .ref d := by
  obtain ⟨d, k, e, r⟩ := h; cases r; exact ⟨d, k, e, rfl⟩
theorem bb_ref {c : Dc} {v : V} {ds : List D} (h : SlOk c F H (some (some v)) (.bb ds)) : ∃ p vs, v = .ref p ∧ c.B p = some (.lst vs) ∧ RpA c.K F vs ds := by
  obtain ⟨p, vs, e, h1, q⟩ := h; cases e; exact ⟨p, vs, rfl, h1, q⟩
/-- a drawing def over the heap -/
theorem end_draw {k : DK} {Q : VK} {r : D} {v : V} {d c : Addr} {b' : Nat} (sb : Sub F (off (some (d, c)) H))
    (hq : ∀ r b' v F' H', k r b' → Ext (atCall K (some (d, c)) F H) F H F' H' → gst (some (d, c)) H' b' → Sub F' (off (some (d, c)) H') → RtOk (atCall K (some (d, c)) F H) F' H' v r → Q v H') (hk : k (.s r) b') (st : StA H' d c b') (fr : Fr d c H H') (rv : Rp K F v r) : Q v H' := by
  have o : Sub (off (some (d, c)) H) (off (some (d, c)) H') := fun a o h => by
    have h' := off_sub h
    have n1 : a ≠ d := by rintro rfl; unfold off at h; dsimp only at h; rw [if_pos rfl] at h; cases h
    have n2 : a ≠ c := by rintro rfl; unfold off at h; dsimp only at h; rw [if_neg n1, if_pos rfl] at h; cases h
    show (if a = d then none else if a = c then none else H' a) = some o
    rw [if_neg n1, if_neg n2]
    exact fr a o h' n1 n2
  exact hq _ _ v F H' hk ⟨fun _ _ z => z, o, fun _ _ z => .inl z⟩ st (fun a u z => o a u (sb a u z)) rv
end
/-! ### the draws -/
def dsTake : DSp := fun args b k _ => ∃ m, args = [.st, .val (.int m)] ∧ 0 < m ∧ m < 18446744073709551616 ∧ b < 100000000 ∧ ∀ r : Int, 0 ≤ r → r < m → k (.s (.int r)) (b + 1)
theorem br_take {K : PySem.W.Frag} {vs : List V} {H : Hp} {Q : VK} {E : XK} (h : spD K dsTake vs H Q E) : spTake vs H Q E := by
  obtain ⟨G, F, args, b, k, kx, ha, sb, gs, ⟨m, rfl, m0, m1, hb, hk⟩, hq⟩ := h
  obtain ⟨v, ws, rfl, h1, ha⟩ := ha.consI
  obtain ⟨v2, ws, rfl, h2, ha⟩ := ha.consI
  cases ha.nilI
  obtain ⟨d, c, e, rfl⟩ := st_ref h1
  cases val_int h2
  have e' : G = some (d, c) := e
  subst e'
  exact ⟨d, c, b, m, rfl, gs, m0, m1, hb, fun r H' r0 r1 st fr => end_draw sb hq (hk r r0 r1) st fr (.int r)⟩
/-! ### what is the same: data without bools -/
def sam : Nat → D → Prop
  | 0, _ => False
  | _ + 1, .non => True
  | _ + 1, .int _ => True
  | _ + 1, .str _ => True
  | n + 1, .lst xs => xs.length < 100000 ∧ ∀ x ∈ xs, sam n x
  | n + 1, .tup xs => xs.length < 100000 ∧ ∀ x ∈ xs, sam n x
  | _ + 1, _ => False
theorem sam_eq {K : PySem.W.Frag} {H : Hp} : ∀ {n : Nat} {d : D} {v w : V}, sam n d → Rp K H v d → Rp K H w d → EqA n H v w := by
  intro n
  induction n with
  | zero => intro d v w h; exact h.elim
  | succ n ih =>
    have all : ∀ {xs : List D} {vs ws : List V}, (∀ x ∈ xs, sam n x) → RpA K H vs xs → RpA K H ws xs → ∀ (i : Nat) (x y : V), vs[i]? = some x → ws[i]? = some y → EqA n H x y := fun {xs vs ws} hx q q' i x y e1 e2 => by
      obtain ⟨d, hd, r⟩ := q.getV e1
      obtain ⟨d', hd', r'⟩ := q'.getV e2
      rw [hd] at hd'
      cases hd'
      exact ih (hx d (List.mem_of_getElem? hd)) r r'
    intro d v w h rv rw'
    cases d with
    | non => cases rv; cases rw'; exact .n
    | int i => cases rv; cases rw'; exact .i
    | str x => cases rv; cases rw'; exact .s
    | bl b => exact h.elim
    | fn a => exact h.elim
    | dk k => exact h.elim
    | dl k => exact h.elim
    | er _ _ => exact h.elim
    | ob _ _ => exact h.elim
    | om _ _ => exact h.elim
    | se _ => exact h.elim
    | lst xs =>
      cases rv with
      | lst h1 q1 =>
        cases rw' with
        | lst h2 q2 => exact .inr (.inr (.inr ⟨_, _, _, _, rfl, rfl, .inl ⟨h1, h2⟩, by rw [q1.length, q2.length], by rw [q1.length]; exact h.1, all h.2 q1 q2⟩))
    | tup xs =>
      cases rv with
      | tup h1 q1 =>
        cases rw' with
        | tup h2 q2 => exact .inr (.inr (.inr ⟨_, _, _, _, rfl, rfl, .inr ⟨h1, h2⟩, by rw [q1.length, q2.length], by rw [q1.length]; exact h.1, all h.2 q1 q2⟩))
def slD : Sl → Option D
  | .val d => some d
  | .bb ds => some (.lst ds)
  | _ => none
theorem slD_rp {c : Dc} {F H : Hp} {v : V} {s : Sl} {d : D} (sb : Sub F (off c.G H)) (hB : c.B = off c.G H) (h : SlOk c F H (some (some v)) s) (e : slD s = some d) : Rp c.K H v d := by
  have m : Sub F H := fun a o z => off_sub (sb a o z)
  cases s with
  | val d' => cases e; exact (val_rp h).mono m
  | bb ds => cases e; obtain ⟨p, vs, rfl, h1, q⟩ := bb_ref h; rw [hB] at h1; exact .lst (off_sub h1) (q.mono m)
  | _ => cases e
/-- the law's own comparison, asked of like data -/
def dsSame (n : Nat) : DSp := fun args b k _ => ∃ x y d, args = [x, y] ∧ slD x = some d ∧ slD y = some d ∧ sam n d ∧ k (.s (.bl true)) b
theorem br_same {n : Nat} {K : PySem.W.Frag} {vs : List V} {H : Hp} {Q : VK} {E : XK} (h : spD K (dsSame n) vs H Q E) : spSame n vs H Q E := by
  obtain ⟨G, F, args, b, k, kx, ha, sb, gs, ⟨x, y, d, rfl, ex, ey, hs, hk⟩, hq⟩ := h
  obtain ⟨v, ws, rfl, h1, ha⟩ := ha.consI
  obtain ⟨v2, ws, rfl, h2, ha⟩ := ha.consI
  cases ha.nilI
  exact ⟨v, v2, rfl, sam_eq hs (slD_rp sb rfl h1 ex) (slD_rp sb rfl h2 ey), fun H' s => end_flat sb gs hq hk s (.bl true)⟩
/-! ### isinstance with a built-in class -/
def isiD (T : String) : D → Option Bool
  | .non => some false
  | .bl _ => some (T == "bool" || T == "int")
  | .int _ => some (T == "int")
  | .str _ => some (T == "str")
  | .lst _ => some (T == "list")
  | .tup _ => some (T == "tuple")
  | .dk _ => some (T == "dict")
  | _ => none
section
variable {X : Cx} {c : Dc}
def dIsi (T : String) (de : DE) : DE := fun A b k => de A b fun r b1 => r ≠ .g ∧ ∃ t, isiD T r.d = some t ∧ k (.s (.bl t)) b1
/-! ### texts: join -/
def dJoin (da db : DE) : DE := fun A b k => da A b fun x b1 => ∃ a, x = .s (.str a) ∧ db A b1 fun y b2 => ∃ ys, y.d = .lst (ys.map D.str) ∧ (ys.map (·.length)).sum + ys.length * a.length ≤ 16777216 ∧ k (.s (.str (Txt.join a ys))) b2
/-! ### comparisons, built-in calls, by what serves them -/
inductive CmpOk (X : Cx) (c : Dc) (op : CmpOp) (f : D2) : Prop
  | mk (r : R2) (h : OpR X (compareOp op) r) (l : Ln c r f)
theorem d_cmpK {a e : Expr} {op : CmpOp} {pos : Pos} {f : D2} {da db : DE} (h : CmpOk X c op f) (ha : PEd X c a da) (hb : PEd X c e db) (hm : behindInMarks op e = false) : PEd X c (.Compare a [op] [e] pos) (dOp f da db) := let ⟨_, h1, l1⟩ := h; d_cmp h1 l1 ha hb hm
theorem t_cmpK {a e : Expr} {op : CmpOp} {pos : Pos} {f : D2} {da db : DE} (h : CmpOk X c op f) (ha : PEd X c a da) (hb : PEd X c e db) (hm : behindInMarks op e = false) : PTd X c (.Compare a [op] [e] pos) (dTest (dOp f da db)) := let ⟨_, h1, l1⟩ := h; t_cmp h1 l1 ha hb hm
theorem c_lt : CmpOk X c .Lt aLt := ⟨_, o_lt, ln_O⟩
theorem c_le : CmpOk X c .LtE aLe := ⟨_, o_le, ln_O⟩
theorem c_gt : CmpOk X c .Gt aGt := ⟨_, o_gt, ln_O⟩
theorem c_ge : CmpOk X c .GtE aGe := ⟨_, o_ge, ln_O⟩
theorem c_is : CmpOk X c .Is (fIs false) := ⟨_, op_isN, ln_is⟩
theorem c_isnot : CmpOk X c .IsNot (fIs true) := ⟨_, op_notN, ln_isnot⟩
/-- == of flat ones by themselves, else over data -/
def fEqF (neg : Bool) : D2 := fun x y k => match x, y with
  | .s a, .s e => scal (toV a) (toV e) = true ∧ k (.s (.bl (if neg then !decide (toV a = toV e) else decide (toV a = toV e))))
  | _, _ => False
def fEqA (neg : Bool) : D2 := fun x y k => if (flt x.d && flt y.d) = true then fEqF neg x y k else fEq neg x y k
theorem ln_eqA : Ln c (fun x y H Q => rEq x y H Q ∨ rEqD c.K x y H Q) (fEqA false) := by
  intro F σ H A b x y rx ry Q k rr hx hy hf hk
  unfold fEqA at hf
  by_cases e : (flt rx.d && flt ry.d) = true
  · rw [if_pos e] at hf
    rw [Bool.and_eq_true] at e
    unfold fEqF at hf
    split at hf
    · rename_i a e'
      have h1 := flt_v (show Rp c.K F x a from hx) e.1
      have h2 := flt_v (show Rp c.K F y e' from hy) e.2
      rw [h1.1, h2.1]
      exact .inl ⟨hf.1, hk _ _ _ _ hf.2 (.still rr (.bl _))⟩
    · exact hf.elim
  · rw [if_neg e] at hf
    exact .inr (ln_eq F σ H A b x y rx ry Q k rr hx hy hf hk)
theorem ln_neA : Ln c (fun x y H Q => rNe x y H Q ∨ rNeD c.K x y H Q) (fEqA true) := by
  intro F σ H A b x y rx ry Q k rr hx hy hf hk
  unfold fEqA at hf
  by_cases e : (flt rx.d && flt ry.d) = true
  · rw [if_pos e] at hf
    rw [Bool.and_eq_true] at e
    unfold fEqF at hf
    split at hf
    · rename_i a e'
      have h1 := flt_v (show Rp c.K F x a from hx) e.1
      have h2 := flt_v (show Rp c.K F y e' from hy) e.2
      rw [h1.1, h2.1]
      exact .inl ⟨hf.1, hk _ _ _ _ hf.2 (.still rr (.bl _))⟩
    · exact hf.elim
  · rw [if_neg e] at hf
    exact .inr (ln_ne F σ H A b x y rx ry Q k rr hx hy hf hk)
theorem c_eq (hK : c.K = X.K) (hu : X.A.units + 64 < cLine) : CmpOk X c .Eq (fEqA false) := ⟨fun x y H Q => rEq x y H Q ∨ rEqD c.K x y H Q, op_eq.or (hK ▸ op_eqD hu), ln_eqA⟩
theorem c_ne (hK : c.K = X.K) (hu : X.A.units + 64 < cLine) : CmpOk X c .NotEq (fEqA true) := ⟨fun x y H Q => rNe x y H Q ∨ rNeD c.K x y H Q, op_ne.or (hK ▸ op_neD hu), ln_neA⟩
theorem c_in (hK : c.K = X.K) : CmpOk X c .In (fIn false) := ⟨rIn c.K false, hK ▸ op_in_seq, ln_in⟩
inductive CbOk (X : Cx) (c : Dc) (id : Value) (f : DC) : Prop
  | mk (r : List V → Hp → VK → Prop) (h : CallR X id r) (l : Lc c r f)
theorem d_cbK {f : DC} {id : String} {x : Str} {e : Expr} {es : List Expr} {p pos : Pos} {da : DA} (h : CbOk X c (.builtin id) f) (hg : Gl X x) (hm : X.mg x = none) (hv : bootBuiltins x = some (.builtin id)) (ha : PAd X c (e :: es) da)
    (hn : x ≠ "__name__" := by decide) (hdb : (x == ("__debug__" : Str)) = false := by decide)
    (he : starEach (e :: es) X.env = (false, eval e X.env) :: starEach es X.env := by rfl) (hpl : (backTo pos (starEach es X.env)).any (·.1) = false := by rfl) : PEd X c (.Call (.Name x p) (e :: es) [] pos) (dCB f da) := let ⟨_, h1, l1⟩ := h; d_cb h1 l1 hg hm hv ha hn hdb he hpl
theorem d_ctK {f : DC} {T : String} {x : Str} {e : Expr} {es : List Expr} {p pos : Pos} {da : DA} (h : CbOk X c (.type T) f) (hg : Gl X x) (hm : X.mg x = none) (hv : bootBuiltins x = some (.type T)) (ha : PAd X c (e :: es) da)
    (hn : x ≠ "__name__" := by decide) (hdb : (x == ("__debug__" : Str)) = false := by decide)
    (he : starEach (e :: es) X.env = (false, eval e X.env) :: starEach es X.env := by rfl) (hpl : (backTo pos (starEach es X.env)).any (·.1) = false := by rfl) : PEd X c (.Call (.Name x p) (e :: es) [] pos) (dCB f da) := let ⟨_, h1, l1⟩ := h; d_cty h1 l1 hg hm hv ha hn hdb he hpl
theorem k_len (hK : c.K = X.K) : CbOk X c (.builtin "len") fLen := ⟨_, call_len, hK ▸ lc_len⟩
theorem k_list (hK : c.K = X.K) : CbOk X c (.type "list") fListOf := ⟨_, call_list_of, hK ▸ lc_listOf⟩
theorem k_tuple (hK : c.K = X.K) : CbOk X c (.type "tuple") fTupOf := ⟨_, call_tuple_of, hK ▸ lc_tupOf⟩
theorem k_int : CbOk X c (.type "int") fInt1 := ⟨_, call_int1, lc_int1⟩
theorem k_max2 (hc : X.calm = true) : CbOk X c (.builtin "max") (fI2 fun i j => .int (if j > i then j else i)) := ⟨_, call_max2 hc, lc_max2⟩
theorem k_any (hc : X.calm = true) (hK : c.K = X.K) : CbOk X c (.builtin "any") (fBls fun bs => bs.any id) := ⟨_, cr_any hc, hK ▸ lc_any⟩
theorem k_all (hc : X.calm = true) (hK : c.K = X.K) : CbOk X c (.builtin "all") (fBls fun bs => bs.all id) := ⟨_, cr_all hc, hK ▸ lc_all⟩
/-! ### a law: its first row makes the draws -/
theorem law_start {K : PySem.W.Frag} {d k : Addr} {H : Hp} {n : Nat} {σ : L2.St} (st : StA H d k 0) (hσ : σ[1]? = some (some (.ref d))) (hl : σ.length = n + 2) : R ⟨K, some (d, k), fun _ => none, off (some (d, k)) H⟩ (fun _ => none) σ H (.no :: .st :: List.replicate n .no) 0 where
  sub := fun _ _ h => by cases h
  bsub := fun _ _ h => h
  f0 := fun _ _ h => h
  n0 := fun _ _ h => by cases h
  st := st
  sl := fun i s h => by
    match i with
    | 0 => cases h; trivial
    | 1 => cases h; exact ⟨d, k, rfl, hσ⟩
    | i + 2 =>
      rw [List.getElem?_cons_succ, List.getElem?_cons_succ] at h
      have : s = .no := by
        obtain ⟨_, e⟩ := List.getElem?_eq_some_iff.mp h
        rw [List.getElem_replicate] at e
        exact e.symm
      subst this
      trivial
  ds := fun i j p xs ys h1 => by
    exfalso
    match i with
    | 0 => cases h1
    | 1 => cases h1
    | i + 2 =>
      rw [List.getElem?_cons_succ, List.getElem?_cons_succ] at h1
      obtain ⟨_, e⟩ := List.getElem?_eq_some_iff.mp h1
      rw [List.getElem_replicate] at e
      cases e
  len := by rw [hl]; simp
def upS (K : PySem.W.Frag) (dS : DS) : TS := fun D σ H => ∃ (c : Dc) (F : Hp) (A : List Sl) (b : Nat) (E : DEnds), c.K = K ∧ R c F σ H A b ∧ EOk c F D E ∧ dS E A b
theorem pss_upS {X : Cx} {K : PySem.W.Frag} {st : List Stmt} {dS : DS} (h : ∀ c : Dc, c.K = K → PSsd X c st dS) : PSs X st (upS K dS) := by
  rintro pins s σ H D I ⟨c, F, A, b, E, hc, rr, eo, hd⟩
  obtain ⟨t, h1, l1⟩ := h c hc
  exact h1 pins s σ H D I (l1 F σ H A b D E rr eo hd)
def spLawD (K : PySem.W.Frag) : Sp := fun vs H Q _ => ∃ (a : Addr) (ns : List Int), vs = [.ref a] ∧ SqL K H a (ns.map V.int) ∧ ∀ H', Q (.bl true) H'
theorem lawD {P : Program} {w : World} {K : PySem.W.Frag} {mg : Str → Option Value} {base : Heap} {x qual : Str} {st : Stmt} {f : Addr} {fd : FuncData} {N : List Str} {y : Str} {k n : Nat} {s1 : Stmt} {rest : List Stmt} (Fn : Fun K x qual st f fd) (S : FnScope N [y] (defScope st)) (hN : N.length = n + 2) (hb : defBody st = s1 :: rest)
    (hbody : ∀ (cdv : Value) (A : Around) (outer : List Env) (s : Shared) (H : Hp) (E : XK), Room k (A.deeper (PyProof.Rows.envOfC qual (defScope st) s.heap.objs.size f cdv)) →
      PS (cxOf CX0 P w K mg base N qual (defScope st) f cdv A outer s H E).nox s1 (tAsg (tCall (spBegin K) [] E0 (tCons (tVar 0) tNil)) (gName 1)) ∧
      ∃ dS, (∀ c : Dc, c.K = K → PSsd (cxOf CX0 P w K mg base N qual (defScope st) f cdv A outer s H E).nox c rest dS) ∧ dS { nx := fun _ _ => False, rt := fun r _ => r = .s (.bl true) } (.no :: .st :: List.replicate n .no) 0) : FnOk P w K mg base CX0 (k + 1) f fd [y] (spLawD K) := by
  refine Fn.ok S (fun vs H Q E h => ?_) fun cdv A outer s H vs Q E hr h => ?_
  · obtain ⟨a, ns, rfl, _⟩ := h
    rfl
  · obtain ⟨a, ns, rfl, hq, hk⟩ := h
    obtain ⟨h1, dS, h2, hd⟩ := hbody cdv A outer s H E hr
    rw [hb]
    refine ⟨_, pss_cons h1 (pss_upS h2), _, by unfold L2.start; rfl, a, ns, rfl, hq, fun d c H' sm hd1 hc1 sta => ?_⟩
    refine ⟨⟨K, some (d, c), fun _ => none, off (some (d, c)) H'⟩, fun _ => none, _, 0, { nx := fun _ _ => False, rt := fun r _ => r = .s (.bl true) }, rfl, law_start (n := n) sta ?_ ?_, ⟨fun _ _ _ _ _ _ _ z => z.elim, fun F' σ' H2 A' b' v r m r' ok e => ?_, fun _ _ _ _ _ _ _ z => z.elim, fun _ _ _ _ _ _ _ z => z.elim⟩, hd⟩
    · rw [List.getElem?_set_self]
      unfold L2.start
      simp
      omega
    · unfold L2.start
      simp
      omega
    · subst e
      have ok' : Rp K F' v (.bl true) := ok
      cases ok'
      exact hk H2
end
end Dd

namespace Dd
open PySem L2 Pk
theorem g12 {α : Type} {a0 a1 a2 a3 a4 a5 a6 a7 a8 a9 a10 a11 a12 : α} {l : List α} : (a0 :: a1 :: a2 :: a3 :: a4 :: a5 :: a6 :: a7 :: a8 :: a9 :: a10 :: a11 :: a12 :: l)[12]? = some a12 := rfl
theorem s12 {α : Type} {a0 a1 a2 a3 a4 a5 a6 a7 a8 a9 a10 a11 a12 x : α} {l : List α} : (a0 :: a1 :: a2 :: a3 :: a4 :: a5 :: a6 :: a7 :: a8 :: a9 :: a10 :: a11 :: a12 :: l).set 12 x = a0 :: a1 :: a2 :: a3 :: a4 :: a5 :: a6 :: a7 :: a8 :: a9 :: a10 :: a11 :: x :: l := rfl
theorem g13 {α : Type} {a0 a1 a2 a3 a4 a5 a6 a7 a8 a9 a10 a11 a12 a13 : α} {l : List α} : (a0 :: a1 :: a2 :: a3 :: a4 :: a5 :: a6 :: a7 :: a8 :: a9 :: a10 :: a11 :: a12 :: a13 :: l)[13]? = some a13 := rfl
theorem s13 {α : Type} {a0 a1 a2 a3 a4 a5 a6 a7 a8 a9 a10 a11 a12 a13 x : α} {l : List α} : (a0 :: a1 :: a2 :: a3 :: a4 :: a5 :: a6 :: a7 :: a8 :: a9 :: a10 :: a11 :: a12 :: a13 :: l).set 13 x = a0 :: a1 :: a2 :: a3 :: a4 :: a5 :: a6 :: a7 :: a8 :: a9 :: a10 :: a11 :: a12 :: x :: l := rfl
theorem g14 {α : Type} {a0 a1 a2 a3 a4 a5 a6 a7 a8 a9 a10 a11 a12 a13 a14 : α} {l : List α} : (a0 :: a1 :: a2 :: a3 :: a4 :: a5 :: a6 :: a7 :: a8 :: a9 :: a10 :: a11 :: a12 :: a13 :: a14 :: l)[14]? = some a14 := rfl
theorem s14 {α : Type} {a0 a1 a2 a3 a4 a5 a6 a7 a8 a9 a10 a11 a12 a13 a14 x : α} {l : List α} : (a0 :: a1 :: a2 :: a3 :: a4 :: a5 :: a6 :: a7 :: a8 :: a9 :: a10 :: a11 :: a12 :: a13 :: a14 :: l).set 14 x = a0 :: a1 :: a2 :: a3 :: a4 :: a5 :: a6 :: a7 :: a8 :: a9 :: a10 :: a11 :: a12 :: a13 :: x :: l := rfl
theorem g15 {α : Type} {a0 a1 a2 a3 a4 a5 a6 a7 a8 a9 a10 a11 a12 a13 a14 a15 : α} {l : List α} : (a0 :: a1 :: a2 :: a3 :: a4 :: a5 :: a6 :: a7 :: a8 :: a9 :: a10 :: a11 :: a12 :: a13 :: a14 :: a15 :: l)[15]? = some a15 := rfl
theorem s15 {α : Type} {a0 a1 a2 a3 a4 a5 a6 a7 a8 a9 a10 a11 a12 a13 a14 a15 x : α} {l : List α} : (a0 :: a1 :: a2 :: a3 :: a4 :: a5 :: a6 :: a7 :: a8 :: a9 :: a10 :: a11 :: a12 :: a13 :: a14 :: a15 :: l).set 15 x = a0 :: a1 :: a2 :: a3 :: a4 :: a5 :: a6 :: a7 :: a8 :: a9 :: a10 :: a11 :: a12 :: a13 :: a14 :: x :: l := rfl
theorem g16 {α : Type} {a0 a1 a2 a3 a4 a5 a6 a7 a8 a9 a10 a11 a12 a13 a14 a15 a16 : α} {l : List α} : (a0 :: a1 :: a2 :: a3 :: a4 :: a5 :: a6 :: a7 :: a8 :: a9 :: a10 :: a11 :: a12 :: a13 :: a14 :: a15 :: a16 :: l)[16]? = some a16 := rfl
theorem s16 {α : Type} {a0 a1 a2 a3 a4 a5 a6 a7 a8 a9 a10 a11 a12 a13 a14 a15 a16 x : α} {l : List α} : (a0 :: a1 :: a2 :: a3 :: a4 :: a5 :: a6 :: a7 :: a8 :: a9 :: a10 :: a11 :: a12 :: a13 :: a14 :: a15 :: a16 :: l).set 16 x = a0 :: a1 :: a2 :: a3 :: a4 :: a5 :: a6 :: a7 :: a8 :: a9 :: a10 :: a11 :: a12 :: a13 :: a14 :: a15 :: x :: l := rfl
/-! ### readings, applied -/
/-! what follows, as closures that are opened only when a value has come -/
def kOp3 (k : DK) (b : Nat) : Rs → Prop := fun z => k z b
def kOp2 (f : D2) (x : Rs) (k : DK) : DK := fun y b => f x y (kOp3 k b)
def kOp1 (f : D2) (db : DE) (A : List Sl) (k : DK) : DK := fun x b => db A b (kOp2 f x k)
abbrev BK := Bool → Nat → Prop
def kTest (k : BK) : DK := fun r b => match r with | .s (.bl t) => k t b | _ => False
def kNotT (k : BK) : BK := fun t b => k (!t) b
def kAndT (du : DT) (A : List Sl) (k : BK) : BK := fun t b => if t = true then du A b k else k false b
def kOrT (du : DT) (A : List Sl) (k : BK) : BK := fun t b => if t = true then k true b else du A b k
def kTru (k : BK) : DK := fun r b => r ≠ .g ∧ ∃ t, tru r.d = some t ∧ k t b
def kNot (k : DK) : DK := fun r b => match r with | .s (.bl t) => k (.s (.bl (!t))) b | _ => False
def kAnd (db : DE) (A : List Sl) (k : DK) : DK := fun r b => match r with | .s (.bl t) => if t = true then db A b k else k (.s (.bl false)) b | _ => False
def kOr (db : DE) (A : List Sl) (k : DK) : DK := fun r b => match r with | .s (.bl t) => if t = true then k (.s (.bl true)) b else db A b k | _ => False
def kIf (da db : DE) (A : List Sl) (k : DK) : BK := fun t b => if t = true then da A b k else db A b k
def kNeg (k : DK) : DK := fun r b => match r with | .s (.int i) => k (.s (.int (-i))) b | _ => False
def kCh4 (k : DK) (g : D2) (y : Rs) : DK := fun w b => g y w (kOp3 k b)
def kCh3 (k : DK) (g : D2) (y : Rs) (dc : DE) (A : List Sl) (b : Nat) : Rs → Prop := fun z => match z with | .s (.bl t) => if t = true then dc A b (kCh4 k g y) else k (.s (.bl false)) b | _ => False
def kCh2 (f g : D2) (x : Rs) (dc : DE) (A : List Sl) (k : DK) : DK := fun y b => f x y (kCh3 k g y dc A b)
def kCh1 (f g : D2) (db dc : DE) (A : List Sl) (k : DK) : DK := fun x b => db A b (kCh2 f g x dc A k)
abbrev AK := List Rs → Nat → Prop
def kCons2 (r : Rs) (k : AK) : AK := fun rs b => k (r.fz :: rs) b
def kCons1 (as : DA) (A : List Sl) (k : AK) : DK := fun r b => as A b (kCons2 r k)
def kLst (k : DK) : AK := fun rs b => ∃ ds, kps rs = some ds ∧ rs.length ≤ sizeLine ∧ k (.o ds) b
def kTup (k : DK) : AK := fun rs b => ∃ ds, kps rs = some ds ∧ rs.length ≤ sizeLine ∧ k (.s (.tup ds)) b
abbrev OK := Option Int → Nat → Prop
def kP (k : OK) : DK := fun r b => match r with | .s (.int i) => k (some i) b | _ => False
def kSl3 (x : Rs) (lo : Option Int) (k : DK) : OK := fun hi b => fSl x lo hi (kOp3 k b)
def kSl2 (x : Rs) (dh : DOp) (A : List Sl) (k : DK) : OK := fun lo b => dh A b (kSl3 x lo k)
def kSl1 (dl dh : DOp) (A : List Sl) (k : DK) : DK := fun x b => dl A b (kSl2 x dh A k)
def kCB (f : DC) (k : DK) : AK := fun rs b => f rs (kOp3 k b)
def kIsi (T : String) (k : DK) : DK := fun r b => r ≠ .g ∧ ∃ t, isiD T r.d = some t ∧ k (.s (.bl t)) b
def kJ2 (a : Str) (k : DK) : DK := fun y b => ∃ ys, y.d = .lst (ys.map D.str) ∧ (ys.map (·.length)).sum + ys.length * a.length ≤ 16777216 ∧ k (.s (.str (Txt.join a ys))) b
def kJ1 (db : DE) (A : List Sl) (k : DK) : DK := fun x b => ∃ a, x = .s (.str a) ∧ db A b (kJ2 a k)
abbrev IK := List D → Nat → Prop
def kIt (f : Rs → Option (List D)) (k : IK) : DK := fun r b => ∃ ds, f r = some ds ∧ k ds b
def kR1 (k : IK) : AK := fun rs b => ∃ j : Int, rs = [.s (.int j)] ∧ -(2 ^ 62) ≤ j ∧ j < 2 ^ 62 ∧ k (upto 0 j.toNat) b
def kR2 (k : IK) : AK := fun rs b => ∃ i j : Int, rs = [.s (.int i), .s (.int j)] ∧ (-(2 ^ 62) ≤ i ∧ i < 2 ^ 62 ∧ -(2 ^ 62) ≤ j ∧ j < 2 ^ 62) ∧ k (upto i (j - i).toNat) b
def kZip (f : Rs → Option (List D)) (k : IK) : AK := fun rs b => ∃ r s xs ys, rs = [r, s] ∧ f r = some xs ∧ f s = some ys ∧ k (zipped xs ys) b
def kEnum (f : Rs → Option (List D)) (k : IK) : AK := fun rs b => ∃ r xs, rs = [r] ∧ f r = some xs ∧ k (numbered xs) b
def kRev (f : Rs → Option (List D)) (k : IK) : AK := fun rs b => ∃ r xs, rs = [r] ∧ f r = some xs ∧ k xs.reverse b
abbrev GK := List Sl → Prop
def kG (dr : DGs) (xs : List D) (k : GK) : GK := fun A' => dr xs A' k
def kRet (E : DEnds) : DK := fun r b => r.kp ∧ E.rt r b
def kNx (E : DEnds) (b : Nat) : GK := fun A' => E.nx A' b
def kSet (i : Nat) (A : List Sl) (E : DEnds) : DK := fun r b => putR i A r (kNx E b)
def kAsg (dg : DG) (A : List Sl) (E : DEnds) : DK := fun r b => r.kp ∧ dg r.d A (kNx E b)
def kAug3 (i : Nat) (A : List Sl) (E : DEnds) (b : Nat) : Rs → Prop := fun z => putR i A z (kNx E b)
def kAug2 (i : Nat) (f : D2) (x : Rs) (A : List Sl) (E : DEnds) : DK := fun y b => f x y (kAug3 i A E b)
def kAug1 (i : Nat) (de : DE) (f : D2) (A : List Sl) (E : DEnds) : DK := fun x b => de A b (kAug2 i f x A E)
def kApp2 (j : Nat) (ds : List D) (E : DEnds) (A : List Sl) : DK := fun r b => r.kp ∧ ds.length < sizeLine ∧ E.nx (A.set j (.own (ds ++ [r.d]))) b
def kApp (j : Nat) (de : DE) (E : DEnds) (A : List Sl) (b : Nat) : List D → Prop := fun ds => de A b (kApp2 j ds E A)
def kExt2 (j : Nat) (ds : List D) (E : DEnds) (A : List Sl) : DK := fun r b => ∃ es, r.d = .lst es ∧ ds.length + es.length ≤ sizeLine ∧ E.nx (A.set j (.own (ds ++ es))) b
def kExt (j : Nat) (de : DE) (E : DEnds) (A : List Sl) (b : Nat) : List D → Prop := fun ds => de A b (kExt2 j ds E A)
def kSx3 (j : Nat) (ds : List D) (d : D) (E : DEnds) (A : List Sl) : DK := fun i b => ∃ n m, i = .s (.int n) ∧ ixN ds.length n = some m ∧ E.nx (A.set j (.own (ds.set m d))) b
def kSx2 (j : Nat) (di : DE) (d : D) (E : DEnds) (A : List Sl) (b : Nat) : List D → Prop := fun ds => di A b (kSx3 j ds d E A)
def kSx1 (j : Nat) (di : DE) (E : DEnds) (A : List Sl) : DK := fun r b => r.kp ∧ own A j (kSx2 j di r.d E A b)
def kDrop (E : DEnds) (A : List Sl) : DK := fun _ b => E.nx A b
def kIfS (t u : DS) (E : DEnds) (A : List Sl) : BK := fun k b => if k = true then t E A b else u E A b
def kCall (ds : DSp) (kx : DX) (k : DK) : AK := fun rs b => noO rs = true ∧ ds (rs.map toSl) b k kx
def forD (ds : List D) (dg : DG) (t : DS) (E : DEnds) (A : List Sl) (b : Nat) : Prop := ∃ I : Nat → List Sl → Nat → Prop, I 0 A b ∧
  (∀ i d A b, ds[i]? = some d → I i A b → dg d A fun A' => t { E with nx := I (i + 1), ct := I (i + 1), bk := E.nx } A' b) ∧ ∀ A b, I ds.length A b → E.nx A b
def kFor (dg : DG) (t : DS) (E : DEnds) (A : List Sl) : IK := fun ds b => forD ds dg t E A b
def kBody (t : DS) (E : DEnds) (b : Nat) : GK := fun A' => t E A' b
def lcD (ds : List D) (dg : DG) (dt : DT) (de : DE) (ws : List Nat) (A : List Sl) (b : Nat) (k : DK) : Prop := ∃ I : Nat → List D → Nat → Prop, I 0 [] b ∧
  (∀ i d acc b, ds[i]? = some d → I i acc b → dg d (wipeS A ws) fun A' => dt A' b fun t b2 => if t = true then de A' b2 fun r b3 => r.kp ∧ acc.length < sizeLine ∧ I (i + 1) (acc ++ [r.d]) b3 else I (i + 1) acc b2) ∧ ∀ acc b, I ds.length acc b → k (.o acc) b
def kLc (dg : DG) (dt : DT) (de : DE) (ws : List Nat) (A : List Sl) (k : DK) : IK := fun ds b => lcD ds dg dt de ws A b k
abbrev LK := List D → Nat → Prop
def kLcR (acc : List D) (Q : LK) : DK := fun r b => r.kp ∧ acc.length < sizeLine ∧ Q (acc ++ [r.d]) b
def kLcE (de : DE) (A : List Sl) (acc : List D) (Q : LK) : BK := fun t b => if t = true then de A b (kLcR acc Q) else Q acc b
def kLcT (dt : DT) (de : DE) (acc : List D) (Q : LK) (b : Nat) : GK := fun A' => dt A' b (kLcE de A' acc Q)
section
variable {A : List Sl} {b n : Nat} {k : DK} {kb : BK} {ka : AK} {ko : OK} {ki : IK} {kg : GK} {kl : LK} {kx : DX} {E : DEnds} {da db dc de di : DE} {dt du : DT} {t' u : DS} {as : DA} {dl dh : DOp} {i j : Int} {x : D} {s : Str} {xs : List D} {r r1 : Rs} {rs : List Rs} {f g : D2} {fc : DC} {fo : Rs → Option (List D)} {dg : DG} {dr : DGs} {dsp : DSp} {ws : List Nat} {lo hi : Option Int} {T : String} {t : Bool}
theorem q_kOp3 : kOp3 k b r = k r b := rfl
theorem q_kOp2 : kOp2 f r k r1 b = f r r1 (kOp3 k b) := rfl
theorem q_kOp1 : kOp1 f db A k r b = db A b (kOp2 f r k) := rfl
theorem q_kTest : kTest kb (.s (.bl t)) b = kb t b := rfl
theorem q_kNotT : kNotT kb t b = kb (!t) b := rfl
theorem q_kAndT : kAndT du A kb t b = (if t = true then du A b kb else kb false b) := rfl
theorem q_kOrT : kOrT du A kb t b = (if t = true then kb true b else du A b kb) := rfl
theorem q_kTru : kTru kb r b = (r ≠ .g ∧ ∃ t, tru r.d = some t ∧ kb t b) := rfl
theorem q_kNot : kNot k (.s (.bl t)) b = k (.s (.bl (!t))) b := rfl
theorem q_kAnd : kAnd db A k (.s (.bl t)) b = (if t = true then db A b k else k (.s (.bl false)) b) := rfl
theorem q_kOr : kOr db A k (.s (.bl t)) b = (if t = true then k (.s (.bl true)) b else db A b k) := rfl
theorem q_kIf : kIf da db A k t b = (if t = true then da A b k else db A b k) := rfl
theorem q_kNeg : kNeg k (.s (.int i)) b = k (.s (.int (-i))) b := rfl
theorem q_kCh4 : kCh4 k g r r1 b = g r r1 (kOp3 k b) := rfl
theorem q_kCh3 : kCh3 k g r dc A b (.s (.bl t)) = (if t = true then dc A b (kCh4 k g r) else k (.s (.bl false)) b) := rfl
theorem q_kCh2 : kCh2 f g r dc A k r1 b = f r r1 (kCh3 k g r1 dc A b) := rfl
theorem q_kCh1 : kCh1 f g db dc A k r b = db A b (kCh2 f g r dc A k) := rfl
theorem q_kCons2 : kCons2 r ka rs b = ka (r.fz :: rs) b := rfl
theorem q_kCons1 : kCons1 as A ka r b = as A b (kCons2 r ka) := rfl
theorem q_kLst : kLst k rs b = (∃ ds, kps rs = some ds ∧ rs.length ≤ sizeLine ∧ k (.o ds) b) := rfl
theorem q_kTup : kTup k rs b = (∃ ds, kps rs = some ds ∧ rs.length ≤ sizeLine ∧ k (.s (.tup ds)) b) := rfl
theorem q_kP : kP ko (.s (.int i)) b = ko (some i) b := rfl
theorem q_kSl3 : kSl3 r lo k hi b = fSl r lo hi (kOp3 k b) := rfl
theorem q_kSl2 : kSl2 r dh A k lo b = dh A b (kSl3 r lo k) := rfl
theorem q_kSl1 : kSl1 dl dh A k r b = dl A b (kSl2 r dh A k) := rfl
theorem q_kCB : kCB fc k rs b = fc rs (kOp3 k b) := rfl
theorem q_kIsi : kIsi T k r b = (r ≠ .g ∧ ∃ t, isiD T r.d = some t ∧ k (.s (.bl t)) b) := rfl
theorem q_kJ2 : kJ2 s k r b = (∃ ys, r.d = .lst (ys.map D.str) ∧ (ys.map (·.length)).sum + ys.length * s.length ≤ 16777216 ∧ k (.s (.str (Txt.join s ys))) b) := rfl
theorem q_kJ1 : kJ1 db A k (.s (.str s)) b = db A b (kJ2 s k) := propext ⟨fun ⟨_, e, h⟩ => by cases e; exact h, fun h => ⟨s, rfl, h⟩⟩
theorem q_kIt : kIt fo ki r b = (∃ ds, fo r = some ds ∧ ki ds b) := rfl
theorem q_kR1 : kR1 ki [.s (.int i)] b = (-(2 ^ 62) ≤ i ∧ i < 2 ^ 62 ∧ ki (upto 0 i.toNat) b) := by simp [kR1]
theorem q_kR2 : kR2 ki [.s (.int i), .s (.int j)] b = (-(2 ^ 62) ≤ i ∧ i < 2 ^ 62 ∧ -(2 ^ 62) ≤ j ∧ j < 2 ^ 62 ∧ ki (upto i (j - i).toNat) b) := propext ⟨fun ⟨_, _, e, ⟨h1, h2, h3, h4⟩, h5⟩ => by cases e; exact ⟨h1, h2, h3, h4, h5⟩, fun ⟨h1, h2, h3, h4, h5⟩ => ⟨i, j, rfl, ⟨h1, h2, h3, h4⟩, h5⟩⟩
theorem q_kZip : kZip fo ki [r, r1] b = (∃ xs ys, fo r = some xs ∧ fo r1 = some ys ∧ ki (zipped xs ys) b) := propext ⟨fun ⟨_, _, xs, ys, e, h1, h2, h3⟩ => by cases e; exact ⟨xs, ys, h1, h2, h3⟩, fun ⟨xs, ys, h1, h2, h3⟩ => ⟨r, r1, xs, ys, rfl, h1, h2, h3⟩⟩
theorem q_kEnum : kEnum fo ki [r] b = (∃ xs, fo r = some xs ∧ ki (numbered xs) b) := propext ⟨fun ⟨_, xs, e, h1, h3⟩ => by cases e; exact ⟨xs, h1, h3⟩, fun ⟨xs, h1, h3⟩ => ⟨r, xs, rfl, h1, h3⟩⟩
theorem q_kRev : kRev fo ki [r] b = (∃ xs, fo r = some xs ∧ ki xs.reverse b) := propext ⟨fun ⟨_, xs, e, h1, h3⟩ => by cases e; exact ⟨xs, h1, h3⟩, fun ⟨xs, h1, h3⟩ => ⟨r, xs, rfl, h1, h3⟩⟩
theorem q_kG : kG dr xs kg A = dr xs A kg := rfl
theorem q_kRet : kRet E r b = (r.kp ∧ E.rt r b) := rfl
theorem q_kNx : kNx E b A = E.nx A b := rfl
theorem q_kSet : kSet n A E r b = putR n A r (kNx E b) := rfl
theorem q_kAsg : kAsg dg A E r b = (r.kp ∧ dg r.d A (kNx E b)) := rfl
theorem q_kAug3 : kAug3 n A E b r = putR n A r (kNx E b) := rfl
theorem q_kAug2 : kAug2 n f r A E r1 b = f r r1 (kAug3 n A E b) := rfl
theorem q_kAug1 : kAug1 n de f A E r b = de A b (kAug2 n f r A E) := rfl
theorem q_kApp2 : kApp2 n xs E A r b = (r.kp ∧ xs.length < sizeLine ∧ E.nx (A.set n (.own (xs ++ [r.d]))) b) := rfl
theorem q_kApp : kApp n de E A b xs = de A b (kApp2 n xs E A) := rfl
theorem q_kExt2 : kExt2 n xs E A r b = (∃ es, r.d = .lst es ∧ xs.length + es.length ≤ sizeLine ∧ E.nx (A.set n (.own (xs ++ es))) b) := rfl
theorem q_kExt : kExt n de E A b xs = de A b (kExt2 n xs E A) := rfl
theorem q_kSx3 : kSx3 n xs x E A (.s (.int i)) b = (∃ m, ixN xs.length i = some m ∧ E.nx (A.set n (.own (xs.set m x))) b) := propext ⟨fun ⟨_, m, e, h1, h2⟩ => by cases e; exact ⟨m, h1, h2⟩, fun ⟨m, h1, h2⟩ => ⟨i, m, rfl, h1, h2⟩⟩
theorem q_kSx2 : kSx2 n di x E A b xs = di A b (kSx3 n xs x E A) := rfl
theorem q_kSx1 : kSx1 n di E A r b = (r.kp ∧ own A n (kSx2 n di r.d E A b)) := rfl
theorem q_kDrop : kDrop E A r b = E.nx A b := rfl
theorem q_kIfS : kIfS t' u E A t b = (if t = true then t' E A b else u E A b) := rfl
theorem q_kCall : kCall dsp kx k rs b = (noO rs = true ∧ dsp (rs.map toSl) b k kx) := rfl
theorem q_kFor : kFor dg t' E A xs b = forD xs dg t' E A b := rfl
theorem q_kBody : kBody t' E b A = t' E A b := rfl
theorem q_kLc : kLc dg dt de ws A k xs b = lcD xs dg dt de ws A b k := rfl
theorem q_kLcR : kLcR xs kl r b = (r.kp ∧ xs.length < sizeLine ∧ kl (xs ++ [r.d]) b) := rfl
theorem q_kLcE : kLcE de A xs kl t b = (if t = true then de A b (kLcR xs kl) else kl xs b) := rfl
theorem q_kLcT : kLcT dt de xs kl b A = dt A b (kLcE de A xs kl) := rfl
variable {kd : List D → Prop} {dI : DI}
theorem q_var : dVar n A b k = (match A[n]? with | some (.val d) => k (.s d) b | some (.own ds) => k (.b ds) b | some (.bb ds) => k (.p ds) b | some .st => k .g b | _ => False) := rfl
theorem q_c : dC x A b k = k (.s x) b := rfl
theorem q_op : dOp f da db A b k = da A b (kOp1 f db A k) := rfl
theorem q_test : dTest de A b kb = de A b (kTest kb) := rfl
theorem q_notT : dNotT dt A b kb = dt A b (kNotT kb) := rfl
theorem q_andT : dAndT dt du A b kb = dt A b (kAndT du A kb) := rfl
theorem q_orT : dOrT dt du A b kb = dt A b (kOrT du A kb) := rfl
theorem q_tru : dTru de A b kb = de A b (kTru kb) := rfl
theorem q_not : dNot de A b k = de A b (kNot k) := rfl
theorem q_and : dAnd da db A b k = da A b (kAnd db A k) := rfl
theorem q_or : dOr da db A b k = da A b (kOr db A k) := rfl
theorem q_if : dIf dt da db A b k = dt A b (kIf da db A k) := rfl
theorem q_neg : dNeg de A b k = de A b (kNeg k) := rfl
theorem q_chain : dChain f g da db dc A b k = da A b (kCh1 f g db dc A k) := rfl
theorem q_nil : dNil A b ka = ka [] b := rfl
theorem q_cons : dCons de as A b ka = de A b (kCons1 as A ka) := rfl
theorem q_lst : dLst as A b k = as A b (kLst k) := rfl
theorem q_tup : dTup as A b k = as A b (kTup k) := rfl
theorem q_noP : dNoP A b ko = ko none b := rfl
theorem q_P : dP de A b ko = de A b (kP ko) := rfl
theorem q_sl : dSl de dl dh A b k = de A b (kSl1 dl dh A k) := rfl
theorem q_cb : dCB fc as A b k = as A b (kCB fc k) := rfl
theorem q_isi : dIsi T de A b k = de A b (kIsi T k) := rfl
theorem q_join : dJoin da db A b k = da A b (kJ1 db A k) := rfl
theorem q_it : dIt fo de A b ki = de A b (kIt fo ki) := rfl
theorem q_r1 : dR1 as A b ki = as A b (kR1 ki) := rfl
theorem q_r2 : dR2 as A b ki = as A b (kR2 ki) := rfl
theorem q_zip : dZip fo as A b ki = as A b (kZip fo ki) := rfl
theorem q_enum : dEnum fo as A b ki = as A b (kEnum fo ki) := rfl
theorem q_rev : dRev fo as A b ki = as A b (kRev fo ki) := rfl
theorem q_gN : gN n x A kg = kg (A.set n (.val x)) := rfl
theorem q_gsNil : gsNil [] A kg = kg A := by simp [gsNil]
theorem q_gsCons : gsCons dg dr (x :: xs) A kg = dg x A (kG dr xs kg) := rfl
theorem q_gTup : gTupD n dr (.tup xs) A kg = (xs.length = n ∧ dr xs A kg) := rfl
theorem q_nx : dNx E A b = E.nx A b := rfl
theorem q_seq : dSeq t' u E A b = t' { E with nx := u E } A b := rfl
theorem q_bk : dBk E A b = E.bk A b := rfl
theorem q_ct : dCt E A b = E.ct A b := rfl
theorem q_never : dNever E A b = False := rfl
theorem q_ret : dRet de E A b = de A b (kRet E) := rfl
theorem q_retv : dRetV n E A b = (match A[n]? with | some (.own ds) => E.rt (.o ds) b | some (.val d) => E.rt (.s d) b | _ => False) := rfl
theorem q_retN : dRetN E A b = E.rt (.s .non) b := rfl
theorem q_putS : putR n A (.s x) kg = kg (A.set n (.val x)) := rfl
theorem q_putO : putR n A (.o xs) kg = kg (A.set n (.own xs)) := rfl
theorem q_set : dSet n de E A b = de A b (kSet n A E) := rfl
theorem q_asg : dAsg de dg E A b = de A b (kAsg dg A E) := rfl
theorem q_aug : dAug n de f E A b = dVar n A b (kAug1 n de f A E) := rfl
theorem q_own : own A n kd = (match A[n]? with | some (.own ds) => kd ds | _ => False) := rfl
theorem q_app : dApp n de E A b = own A n (kApp n de E A b) := rfl
theorem q_ext : dExt n de E A b = own A n (kExt n de E A b) := rfl
theorem q_setIx : dSetIx n di de E A b = de A b (kSx1 n di E A) := rfl
theorem q_drop : dDrop de E A b = de A b (kDrop E A) := rfl
theorem q_ifS : dIfS dt t' u E A b = dt A b (kIfS t' u E A) := rfl
theorem q_frz : dFrz n t' E A b = (match A[n]? with | some (.own ds) => t' E (A.set n (.val (.lst ds))) b | _ => t' E A b) := rfl
theorem q_call : dCall dsp kx as A b k = as A b (kCall dsp kx k) := rfl
theorem q_for : dFor dI dg t' E A b = dI A b (kFor dg t' E A) := rfl
theorem q_lc : dLc dI dg dt de ws A b k = dI A b (kLc dg dt de ws A k) := rfl
theorem q_fzs : (Rs.s x).fz = .s x := rfl
theorem q_fzb : (Rs.b xs).fz = .b xs := rfl
theorem q_fzp : (Rs.p xs).fz = .p xs := rfl
theorem q_fzo : (Rs.o xs).fz = .s (.lst xs) := rfl
theorem q_fzg : Rs.g.fz = .g := rfl
theorem q_kps0 : kps [] = some [] := rfl
theorem q_kps1 : kps (.s x :: rs) = (kps rs).map (x :: ·) := rfl
theorem q_ds : (Rs.s x).d = x := rfl
theorem q_db : (Rs.b xs).d = .lst xs := rfl
theorem q_dp : (Rs.p xs).d = .lst xs := rfl
theorem q_do : (Rs.o xs).d = .lst xs := rfl
theorem q_kpS : (Rs.s x).kp = True := rfl
theorem q_kpO : (Rs.o xs).kp = True := rfl
theorem q_itF1 : itF (.s (.lst xs)) = some xs := rfl
theorem q_itF2 : itF (.s (.tup xs)) = some xs := rfl
theorem q_itF3 : itF (.s (.str s)) = some (signs s) := rfl
theorem q_itF4 : itF (.p xs) = some xs := rfl
theorem q_itF5 : itF (.o xs) = some xs := rfl
theorem q_itC1 : itC (.s (.lst xs)) = some xs := rfl
theorem q_itC2 : itC (.s (.tup xs)) = some xs := rfl
theorem q_itC3 : itC (.s (.str s)) = some (signs s) := rfl
theorem q_itC4 : itC (.p xs) = some xs := rfl
theorem q_itC5 : itC (.o xs) = some xs := rfl
theorem q_itC6 : itC (.b xs) = some xs := rfl
theorem q_lsF1 : lsF (.s (.lst xs)) = some xs := rfl
theorem q_lsF2 : lsF (.p xs) = some xs := rfl
theorem q_lsC1 : lsC (.s (.lst xs)) = some xs := rfl
theorem q_lsC2 : lsC (.p xs) = some xs := rfl
theorem q_lsC3 : lsC (.b xs) = some xs := rfl
theorem q_yes : dYes A b kb = kb true b := rfl
theorem q_mapS {α β : Type} {f : α → β} {a : α} : (some a).map f = some (f a) := rfl
end
section
variable {A : List Sl} {b : Nat} {k : DK} {E : DEnds} {da db dc de : DE} {dt du : DT} {t u : DS} {as : DA} {i j : Int} {x y z : D} {s s' : Str} {xs ys : List D} {dg : DG} {dr : DGs}
/-! operations -/
variable {kr : Rs → Prop}
theorem q_fI {C : Int → Int → Prop} {g : Int → Int → D} : fI C g (.s (.int i)) (.s (.int j)) kr = (C i j ∧ kr (.s (g i j))) := rfl
theorem q_fI0 {g : Int → Int → D} : fI0 g (.s (.int i)) (.s (.int j)) kr = kr (.s (g i j)) := rfl
theorem q_fOi {g : Int → Int → Bool} {h : Str → Str → Bool} : fO g h (.s (.int i)) (.s (.int j)) kr = kr (.s (.bl (g i j))) := rfl
theorem q_fOs {g : Int → Int → Bool} {h : Str → Str → Bool} : fO g h (.s (.str s)) (.s (.str s')) kr = kr (.s (.bl (h s s'))) := rfl
theorem q_addI : aAdd (.s (.int i)) (.s (.int j)) kr = kr (.s (.int (i + j))) := by simp [aAdd, fI0, fCatS, fCat, Rs.d]
theorem q_addS : aAdd (.s (.str s)) (.s (.str s')) kr = (s.length + s'.length ≤ sizeLine ∧ kr (.s (.str (s ++ s')))) := by simp [aAdd, fI0, fCatS, fCat, Rs.d]
theorem q_addL {r r' : Rs} (h : r.d = .lst xs) (h' : r'.d = .lst ys) : aAdd r r' kr = (xs.length + ys.length ≤ sizeLine ∧ kr (.o (xs ++ ys))) := by
  have e1 : ∀ g, fI0 g r r' kr = False := fun g => by unfold fI0; split <;> first | rfl | (cases h)
  simp only [aAdd, e1, fCatS, fCat, h, h', D.lst.injEq, false_or]
  refine propext ⟨?_, ?_⟩
  · rintro (⟨s, t, e, _⟩ | ⟨x, y, rfl, rfl, z⟩)
    · subst e; cases h
    · exact z
  · exact fun z => .inr ⟨_, _, rfl, rfl, z⟩
theorem q_addOO : aAdd (.o xs) (.o ys) kr = (xs.length + ys.length ≤ sizeLine ∧ kr (.o (xs ++ ys))) := q_addL rfl rfl
theorem q_addBO : aAdd (.b xs) (.o ys) kr = (xs.length + ys.length ≤ sizeLine ∧ kr (.o (xs ++ ys))) := q_addL rfl rfl
theorem q_addOB : aAdd (.o xs) (.b ys) kr = (xs.length + ys.length ≤ sizeLine ∧ kr (.o (xs ++ ys))) := q_addL rfl rfl
theorem q_addBB : aAdd (.b xs) (.b ys) kr = (xs.length + ys.length ≤ sizeLine ∧ kr (.o (xs ++ ys))) := q_addL rfl rfl
theorem q_addPO : aAdd (.p xs) (.o ys) kr = (xs.length + ys.length ≤ sizeLine ∧ kr (.o (xs ++ ys))) := q_addL rfl rfl
theorem q_addSO : aAdd (.s (.lst xs)) (.o ys) kr = (xs.length + ys.length ≤ sizeLine ∧ kr (.o (xs ++ ys))) := q_addL rfl rfl
theorem q_addSS : aAdd (.s (.lst xs)) (.s (.lst ys)) kr = (xs.length + ys.length ≤ sizeLine ∧ kr (.o (xs ++ ys))) := q_addL rfl rfl
theorem q_addOS : aAdd (.o xs) (.s (.lst ys)) kr = (xs.length + ys.length ≤ sizeLine ∧ kr (.o (xs ++ ys))) := q_addL rfl rfl
/-! calls -/
theorem q_no0 : noO [] = true := rfl
theorem q_noS {rs : List Rs} : noO (.s x :: rs) = noO rs := rfl
theorem q_noB {rs : List Rs} : noO (.b xs :: rs) = noO rs := rfl
theorem q_noP' {rs : List Rs} : noO (.p xs :: rs) = noO rs := rfl
theorem q_noG {rs : List Rs} : noO (.g :: rs) = noO rs := rfl
theorem q_toS : toSl (.s x) = .val x := rfl
theorem q_toB : toSl (.b xs) = .bb xs := rfl
theorem q_toP : toSl (.p xs) = .bb xs := rfl
theorem q_toG : toSl .g = .st := rfl
/-- so many may be drawn -/
def Tk (m : Int) (b : Nat) : Prop := 0 < m ∧ m < 18446744073709551616 ∧ b < 100000000
theorem q_take {m : Int} {kx : DX} : dsTake [.st, .val (.int m)] b k kx = (Tk m b ∧ ∀ r : Int, 0 ≤ r → r < m → k (.s (.int r)) (b + 1)) := by simp [dsTake, Tk, and_assoc]
/-! == : flat ones -/
theorem q_eqI : fEqA false (.s (.int i)) (.s (.int j)) kr = kr (.s (.bl (decide (i = j)))) := by simp [fEqA, fEqF, flt, toV, scal, Rs.d]
theorem q_neI : fEqA true (.s (.int i)) (.s (.int j)) kr = kr (.s (.bl (!decide (i = j)))) := by simp [fEqA, fEqF, flt, toV, scal, Rs.d]
theorem q_eqS : fEqA false (.s (.str s)) (.s (.str s')) kr = kr (.s (.bl (decide (s = s')))) := by simp [fEqA, fEqF, flt, toV, scal, Rs.d]
theorem q_neS : fEqA true (.s (.str s)) (.s (.str s')) kr = kr (.s (.bl (!decide (s = s')))) := by simp [fEqA, fEqF, flt, toV, scal, Rs.d]
theorem q_isF : fIs false (.s x) (.s .non) kr = kr (.s (.bl (isN x))) := by simp [fIs, Rs.d]
theorem q_isT : fIs true (.s x) (.s .non) kr = kr (.s (.bl (!isN x))) := by simp [fIs, Rs.d]
theorem q_isN0 : isN .non = true := rfl
theorem q_isN1 : isN (.int i) = false := rfl
theorem q_isN2 : isN (.str s) = false := rfl
theorem q_isN3 : isN (.lst xs) = false := rfl
theorem q_isN4 : isN (.tup xs) = false := rfl
/-! items -/
theorem q_ixL {r : Rs} (h : r.d = .lst xs) : fIx r (.s (.int i)) kr = ∃ d, atI xs i = some d ∧ kr (.s d) := by
  refine propext ⟨?_, fun ⟨d, h1, h2⟩ => ⟨i, rfl, .inl ⟨xs, d, .inl h, h1, h2⟩⟩⟩
  rintro ⟨i', e, h'⟩
  cases e
  rcases h' with ⟨ys, d, hd, h1, h2⟩ | ⟨z, n, e, _⟩
  · rcases hd with hd | hd
    · rw [h] at hd; cases hd; exact ⟨d, h1, h2⟩
    · rw [h] at hd; cases hd
  · subst e; cases h
theorem q_ixO : fIx (.o xs) (.s (.int i)) kr = ∃ d, atI xs i = some d ∧ kr (.s d) := q_ixL rfl
theorem q_ixB : fIx (.b xs) (.s (.int i)) kr = ∃ d, atI xs i = some d ∧ kr (.s d) := q_ixL rfl
theorem q_ixP : fIx (.p xs) (.s (.int i)) kr = ∃ d, atI xs i = some d ∧ kr (.s d) := q_ixL rfl
theorem q_ixS : fIx (.s (.lst xs)) (.s (.int i)) kr = ∃ d, atI xs i = some d ∧ kr (.s d) := q_ixL rfl
theorem q_ixT : fIx (.s (.tup xs)) (.s (.int i)) kr = ∃ d, atI xs i = some d ∧ kr (.s d) := by
  refine propext ⟨?_, fun ⟨d, h1, h2⟩ => ⟨i, rfl, .inl ⟨xs, d, .inr rfl, h1, h2⟩⟩⟩
  rintro ⟨i', e, h'⟩
  cases e
  rcases h' with ⟨ys, d, hd, h1, h2⟩ | ⟨z, n, e, _⟩
  · rcases hd with hd | hd
    · cases hd
    · cases hd; exact ⟨d, h1, h2⟩
  · cases e
theorem q_ixZ : fIx (.s (.str s)) (.s (.int i)) kr = (s.length ≤ sizeLine ∧ ∃ n, atI s.cps.toList i = some n ∧ kr (.s (.str ⟨#[n]⟩))) := by simp [fIx, Rs.d]
theorem at_any {p : D → Prop} (h0 : 0 ≤ i) (h1 : i < xs.length) (hk : ∀ d ∈ xs, p d) : ∃ d, atI xs i = some d ∧ p d := by
  obtain ⟨n, e, _⟩ := at_map (f := fun _ => V.non) h0 h1
  refine ⟨n, ?_, hk n (List.mem_of_getElem? e)⟩
  unfold atI
  rw [ix_ok h0 h1]
  exact e
/-! len -/
theorem q_lenL {r : Rs} (h : r.d = .lst xs) : fLen [r] kr = kr (.s (.int xs.length)) := by
  refine propext ⟨?_, fun z => ⟨r, _, rfl, by rw [h], z⟩⟩
  rintro ⟨r', n, e, hn, z⟩
  cases e
  rw [h] at hn
  have : n = xs.length := hn
  subst this
  exact z
theorem q_lenB : fLen [.b xs] kr = kr (.s (.int xs.length)) := q_lenL rfl
theorem q_lenP : fLen [.p xs] kr = kr (.s (.int xs.length)) := q_lenL rfl
theorem q_lenS : fLen [.s (.lst xs)] kr = kr (.s (.int xs.length)) := q_lenL rfl
theorem q_lenT : fLen [.s (.tup xs)] kr = kr (.s (.int xs.length)) := by
  refine propext ⟨?_, fun z => ⟨_, _, rfl, rfl, z⟩⟩
  rintro ⟨r', n, e, hn, z⟩
  cases e
  have : n = xs.length := hn
  subst this
  exact z
theorem q_lenZ : fLen [.s (.str s)] kr = (s.length ≤ sizeLine ∧ kr (.s (.int s.length))) := by
  refine propext ⟨?_, fun z => ⟨_, _, rfl, ⟨z.1, rfl⟩, z.2⟩⟩
  rintro ⟨r', n, e, hn, z⟩
  cases e
  obtain ⟨h1, h2⟩ : s.length ≤ sizeLine ∧ n = s.length := hn
  subst h2
  exact ⟨h1, z⟩
theorem q_listL {r : Rs} (h : r.d = .lst xs) : fListOf [r] kr = kr (.o xs) := by
  refine propext ⟨?_, fun z => ⟨r, _, rfl, .inl h, z⟩⟩
  rintro ⟨r', ys, e, hn, z⟩
  cases e
  rw [h] at hn
  rcases hn with hn | hn <;> cases hn
  exact z
theorem q_listB : fListOf [.b xs] kr = kr (.o xs) := q_listL rfl
theorem q_listP : fListOf [.p xs] kr = kr (.o xs) := q_listL rfl
theorem q_listS : fListOf [.s (.lst xs)] kr = kr (.o xs) := q_listL rfl
theorem q_listT : fListOf [.s (.tup xs)] kr = kr (.o xs) := by
  refine propext ⟨?_, fun z => ⟨_, _, rfl, .inr rfl, z⟩⟩
  rintro ⟨r', ys, e, hn, z⟩
  cases e
  rcases hn with hn | hn <;> cases hn
  exact z
theorem q_tupL {r : Rs} (h : r.d = .lst xs) : fTupOf [r] kr = kr (.s (.tup xs)) := by
  refine propext ⟨?_, fun z => ⟨r, _, rfl, .inl h, z⟩⟩
  rintro ⟨r', ys, e, hn, z⟩
  cases e
  rcases hn with hn | hn
  · rw [h] at hn; cases hn; exact z
  · subst hn; cases h
theorem q_tupB : fTupOf [.b xs] kr = kr (.s (.tup xs)) := q_tupL rfl
theorem q_tupP : fTupOf [.p xs] kr = kr (.s (.tup xs)) := q_tupL rfl
theorem q_tupS : fTupOf [.s (.lst xs)] kr = kr (.s (.tup xs)) := q_tupL rfl
theorem q_tupT : fTupOf [.s (.tup xs)] kr = kr (.s (.tup xs)) := by
  refine propext ⟨?_, fun z => ⟨_, _, rfl, .inr rfl, z⟩⟩
  rintro ⟨r', ys, e, hn, z⟩
  cases e
  rcases hn with hn | hn <;> cases hn
  exact z
theorem q_intB {t : Bool} : fInt1 [.s (.bl t)] kr = kr (.s (.int (if t then 1 else 0))) := by simp [fInt1]
theorem q_intI : fInt1 [.s (.int i)] kr = kr (.s (.int i)) := by simp [fInt1]
theorem q_fI1 {g : Int → D} : fI1 g [.s (.int i)] kr = kr (.s (g i)) := by simp [fI1]
theorem q_fI2 {g : Int → Int → D} : fI2 g [.s (.int i), .s (.int j)] kr = kr (.s (g i j)) := by
  refine propext ⟨?_, fun z => ⟨i, j, rfl, z⟩⟩
  rintro ⟨i', j', e, z⟩
  cases e
  exact z
theorem q_slL {r : Rs} {lo hi : Option Int} (h : r.d = .lst xs) : fSl r lo hi kr = kr (.o (cutD xs lo hi)) := by
  refine propext ⟨?_, fun z => .inl ⟨_, h, z⟩⟩
  rintro (⟨ys, e, z⟩ | ⟨z, e, _⟩)
  · rw [h] at e; cases e; exact z
  · subst e; cases h
theorem q_slO {lo hi : Option Int} : fSl (.o xs) lo hi kr = kr (.o (cutD xs lo hi)) := q_slL rfl
theorem q_slB {lo hi : Option Int} : fSl (.b xs) lo hi kr = kr (.o (cutD xs lo hi)) := q_slL rfl
theorem q_slP {lo hi : Option Int} : fSl (.p xs) lo hi kr = kr (.o (cutD xs lo hi)) := q_slL rfl
theorem q_slS {lo hi : Option Int} : fSl (.s (.lst xs)) lo hi kr = kr (.o (cutD xs lo hi)) := q_slL rfl
theorem q_slZ {lo hi : Option Int} : fSl (.s (.str s)) lo hi kr = (s.length ≤ sizeLine ∧ kr (.s (.str (cutS s lo hi)))) := by simp [fSl, Rs.d]
theorem q_rep {r : Rs} (h : r.d = .lst xs) : fRep r (.s (.int i)) kr = (-(2 ^ 63) ≤ i ∧ i < 2 ^ 63 ∧ xs.length * i.toNat ≤ sizeLine ∧ kr (.o (List.replicate i.toNat xs).flatten)) := by simp [fRep, h]
theorem q_repO : fRep (.o xs) (.s (.int i)) kr = (-(2 ^ 63) ≤ i ∧ i < 2 ^ 63 ∧ xs.length * i.toNat ≤ sizeLine ∧ kr (.o (List.replicate i.toNat xs).flatten)) := q_rep rfl
/-! isinstance -/
theorem q_is0 {T : String} : isiD T .non = some false := rfl
theorem q_is1 {T : String} : isiD T (.int i) = some (T == "int") := rfl
theorem q_is2 {T : String} : isiD T (.str s) = some (T == "str") := rfl
theorem q_is3 {T : String} : isiD T (.lst xs) = some (T == "list") := rfl
theorem q_is4 {T : String} : isiD T (.tup xs) = some (T == "tuple") := rfl
theorem q_is5 {T : String} {t : Bool} : isiD T (.bl t) = some (T == "bool" || T == "int") := rfl
/-! loops -/
theorem for_upto {n : Nat} {lo : Int} (I : Nat → List Sl → Nat → Prop) (h0 : I 0 A b) (hs : ∀ i A b, i < n → I i A b → dg (.int (lo + i)) A (kBody t { E with nx := I (i + 1), ct := I (i + 1), bk := E.nx } b)) (he : ∀ A b, I n A b → E.nx A b) : forD (upto lo n) dg t E A b := by
  refine ⟨I, h0, fun i d A b hd hI => ?_, fun A b hI => he A b ?_⟩
  · obtain ⟨hi, rfl⟩ := upto_get hd
    exact hs i A b hi hI
  · unfold upto at hI
    simpa using hI
theorem for_ds (I : Nat → List Sl → Nat → Prop) (h0 : I 0 A b) (hs : ∀ i d A b, xs[i]? = some d → I i A b → dg d A (kBody t { E with nx := I (i + 1), ct := I (i + 1), bk := E.nx } b)) (he : ∀ A b, I xs.length A b → E.nx A b) : forD xs dg t E A b := ⟨I, h0, hs, he⟩
theorem lc_upto {n : Nat} {lo : Int} {ws : List Nat} (I : Nat → List D → Nat → Prop) (h0 : I 0 [] b) (hs : ∀ i acc b, i < n → I i acc b → dg (.int (lo + i)) (wipeS A ws) (kLcT dt de acc (I (i + 1)) b))
    (he : ∀ acc b, I n acc b → k (.o acc) b) : lcD (upto lo n) dg dt de ws A b k := by
  refine ⟨I, h0, fun i d acc b hd hI => ?_, fun acc b hI => he acc b ?_⟩
  · obtain ⟨hi, rfl⟩ := upto_get hd
    exact hs i acc b hi hI
  · unfold upto at hI
    simpa using hI
theorem lc_ds {ws : List Nat} (I : Nat → List D → Nat → Prop) (h0 : I 0 [] b) (hs : ∀ i d acc b, xs[i]? = some d → I i acc b → dg d (wipeS A ws) (kLcT dt de acc (I (i + 1)) b))
    (he : ∀ acc b, I xs.length acc b → k (.o acc) b) : lcD xs dg dt de ws A b k := ⟨I, h0, hs, he⟩
/-- each item goes to one, or to none -/
theorem lc_flat {ws : List Nat} (f : D → List D) (hl : xs.length ≤ sizeLine) (h1 : ∀ d ∈ xs, (f d).length ≤ 1)
    (hs : ∀ (d : D) (acc : List D) (Q : List D → Nat → Prop), d ∈ xs → acc.length < sizeLine → Q (acc ++ f d) b → dg d (wipeS A ws) (kLcT dt de acc Q b))
    (hk : k (.o (xs.flatMap f)) b) : lcD xs dg dt de ws A b k := by
  refine ⟨fun i acc b' => acc = (xs.take i).flatMap f ∧ b' = b, ⟨rfl, rfl⟩, ?_, ?_⟩
  · rintro i d acc b' hd ⟨rfl, rfl⟩
    have hi : i < xs.length := by
      rcases Nat.lt_or_ge i xs.length with q | q
      · exact q
      · rw [List.getElem?_eq_none q] at hd; cases hd
    have len : ∀ ys : List D, (∀ d ∈ ys, (f d).length ≤ 1) → (ys.flatMap f).length ≤ ys.length := by
      intro ys
      induction ys with
      | nil => intro _; exact Nat.le_refl _
      | cons y ys ih =>
        intro hy
        rw [List.flatMap_cons, List.length_append, List.length_cons]
        have := hy y (by simp)
        have := ih fun d hd => hy d (List.mem_cons_of_mem _ hd)
        omega
    refine hs d _ (fun acc b'' => acc = (xs.take (i + 1)).flatMap f ∧ b'' = b') (List.mem_of_getElem? hd) ?_ ⟨?_, rfl⟩
    · have := len (xs.take i) fun d hd => h1 d (List.mem_of_mem_take hd)
      rw [List.length_take] at this
      omega
    · rw [List.take_add_one, hd, List.flatMap_append]
      simp
  · rintro acc b' ⟨rfl, rfl⟩
    rw [List.take_length]
    exact hk
theorem lc_map {ws : List Nat} (f : D → D) (hl : xs.length ≤ sizeLine)
    (hs : ∀ (d : D) (acc : List D) (Q : List D → Nat → Prop), d ∈ xs → acc.length < sizeLine → Q (acc ++ [f d]) b → dg d (wipeS A ws) (kLcT dt de acc Q b))
    (hk : k (.o (xs.map f)) b) : lcD xs dg dt de ws A b k :=
  lc_flat (fun d => [f d]) hl (fun _ _ => Nat.le_refl _) hs (by rw [← List.map_eq_flatMap]; exact hk)
theorem q_ws0 : wipeS A [] = A := rfl
theorem q_ws1 {i : Nat} {r : List Nat} : wipeS A (i :: r) = (wipeS A r).set i .no := rfl
end
end Dd

namespace Dd
open PySem L2 Pk
/-! ### what was shown over the heap, said over data -/
def isKd (kd : Str) : Prop := kd = Str.ofString "number" ∨ kd = Str.ofString "text"
/-- a cell of a kind, as the laws draw them -/
def OkD (kd : Str) (d : D) : Prop := d = .non ∨ (kd = Str.ofString "number" ∧ ∃ n : Int, d = .int n ∧ n.natAbs < 10 ^ 18) ∨ (kd = Str.ofString "text" ∧ ∃ t, d = .str t ∧ OkT t)
def RowIs (s : Sl) (ns : List Int) : Prop := s = .bb (ns.map D.int) ∨ s = .val (.lst (ns.map D.int)) ∨ s = .val (.tup (ns.map D.int))
def dsText (m : Nat) : DSp := fun args b k _ => args = [.st] ∧ b + (60 + m) < 100000000 ∧ ∀ t, OkT t → k (.s (.str t)) (b + (30 + m))
def dsNumber : DSp := fun args b k _ => args = [.st] ∧ b + 10 < 100000000 ∧ ∀ n : Int, n.natAbs < 10 ^ 18 → k (.s (.int n)) (b + 5)
def dsNoise : DSp := fun args b k _ => ∃ m : Nat, args = [.st, .val (.int m)] ∧ m ≤ 100 ∧ b + 4 * m < 100000000 ∧ ∀ ns : List Int, ns.length = m → (∀ x ∈ ns, 0 ≤ x ∧ x < 256) → k (.o (ns.map D.int)) (b + 4 * m)
theorem br_text {m : Nat} {K : PySem.W.Frag} {vs : List V} {H : Hp} {Q : VK} {E : XK} (h : spD K (dsText m) vs H Q E) : spText m vs H Q E := by
  obtain ⟨G, F, args, b, k, kx, ha, sb, gs, ⟨rfl, hb, hk⟩, hq⟩ := h
  obtain ⟨v, ws, rfl, h1, ha⟩ := ha.consI
  cases ha.nilI
  obtain ⟨d, c, e, rfl⟩ := st_ref h1
  have e' : G = some (d, c) := e
  subst e'
  exact ⟨d, c, b, rfl, gs, hb, fun t H' ok st fr => end_draw sb hq (hk t ok) st fr (.str t)⟩
theorem br_number {K : PySem.W.Frag} {vs : List V} {H : Hp} {Q : VK} {E : XK} (h : spD K dsNumber vs H Q E) : spNumber vs H Q E := by
  obtain ⟨G, F, args, b, k, kx, ha, sb, gs, ⟨rfl, hb, hk⟩, hq⟩ := h
  obtain ⟨v, ws, rfl, h1, ha⟩ := ha.consI
  cases ha.nilI
  obtain ⟨d, c, e, rfl⟩ := st_ref h1
  have e' : G = some (d, c) := e
  subst e'
  exact ⟨d, c, b, rfl, gs, hb, fun t H' ok st fr => end_draw sb hq (hk t ok) st fr (.int t)⟩
/-! numbers, texts, cells as bytes -/
def dsNb : DSp := fun args b k _ => ∃ n : Int, args = [.val (.int n)] ∧ Small n ∧ k (.o ((nb (zig n)).map D.int)) b
/-- a cell's bytes -/
def OkCd (d : D) : Prop := d = .non ∨ (∃ n, d = .int n ∧ Small n) ∨ ∃ t, d = .str t ∧ OkT t
def cbD (d : D) : List Int := cb (toV d)
theorem OkCd.v {d : D} (h : OkCd d) : OkCell (toV d) := by
  rcases h with rfl | ⟨n, rfl, h⟩ | ⟨t, rfl, h⟩
  · exact .inl rfl
  · exact .inr (.inl ⟨n, rfl, h⟩)
  · exact .inr (.inr ⟨t, rfl, h⟩)
theorem OkCd.flt {d : D} (h : OkCd d) : flt d = true := by
  rcases h with rfl | ⟨n, rfl, h⟩ | ⟨t, rfl, h⟩ <;> rfl
def dsCb : DSp := fun args b k _ => ∃ d, args = [.val d] ∧ OkCd d ∧ k (.o ((cbD d).map D.int)) b
def dsTakeN : DSp := fun args b k _ => ∃ (s : Sl) (pre post : List Int) (n : Int), args = [s, .val (.int pre.length)] ∧ RowIs s (pre ++ (nb (zig n) ++ post)) ∧ (nb (zig n)).length ≤ 9 ∧ k (.s (.tup [.int n, .int (pre.length + (nb (zig n)).length)])) b
def dsTt : DSp := fun args b k _ => ∃ (s : Sl) (pre post : List Int) (t : Str), args = [s, .val (.int pre.length)] ∧ RowIs s (pre ++ (tb t ++ post)) ∧ OkT t ∧ k (.s (.tup [.str t, .int (pre.length + (tb t).length)])) b
def dsTc : DSp := fun args b k _ => ∃ (s : Sl) (pre post : List Int) (d : D), args = [s, .val (.int pre.length)] ∧ RowIs s (pre ++ (cbD d ++ post)) ∧ OkCd d ∧ (cbD d).length ≤ 30 ∧ (∀ n, d = .int n → (nb (zig n)).length ≤ 9) ∧ k (.s (.tup [d, .int (pre.length + (cbD d).length)])) b
/-! ### the draws of cells -/
def dsCells : DSp := fun args b k _ => ∃ (kd : Str) (m : Nat), args = [.st, .val (.str kd), .val (.int m)] ∧ isKd kd ∧ m ≤ 70 ∧ b + 1500 < 100000000 ∧ ∀ (ds : List D) (b' : Nat), ds.length = m → (∀ d ∈ ds, OkD kd d) → b' ≤ b + 1500 → k (.o ds) b'
theorem kd_ne : ¬ (Str.ofString "number" = Str.ofString "text") := by decide +kernel
/-- rows, a cut between -/
def dCut (t u : DS) : DS := fun E A b => ∃ M : List Sl → Nat → Prop, t { E with nx := M } A b ∧ ∀ A b, M A b → u E A b
theorem s_cut {X : Cx} {c : Dc} {st : Stmt} {rest : List Stmt} {t u : DS} (h : PSd X c st t) (hr : PSsd X c rest u) : PSsd X c (st :: rest) (dCut t u) :=
  let ⟨_, h1, l1⟩ := h
  let ⟨_, h2, l2⟩ := hr
  ⟨_, pss_cons h1 h2, fun F σ H A b D E rr eo ⟨M, h, hm⟩ => l1 F σ H A b _ { E with nx := M } rr ⟨fun F' σ' H' A' b' m r' q => l2 F' σ' H' A' b' D E r' (eo.up m) (hm A' b' q), eo.rt, eo.bk, eo.ct⟩ h⟩
theorem dcut {t u : DS} {E : DEnds} {A : List Sl} {b : Nat} (M : List Sl → Nat → Prop) (h : t { E with nx := M } A b) (hm : ∀ A b, M A b → u E A b) : dCut t u E A b := ⟨M, h, hm⟩
theorem q_text {m : Nat} {b : Nat} {k : DK} {kx : DX} : dsText m [.st] b k kx = (b + (60 + m) < 100000000 ∧ ∀ t, OkT t → k (.s (.str t)) (b + (30 + m))) := by simp [dsText]
theorem q_number {b : Nat} {k : DK} {kx : DX} : dsNumber [.st] b k kx = (b + 10 < 100000000 ∧ ∀ n : Int, n.natAbs < 10 ^ 18 → k (.s (.int n)) (b + 5)) := by simp [dsNumber]
theorem at_last {α : Type} {xs : List α} (h : 0 < xs.length) : ∃ d, atI xs (-1) = some d ∧ d ∈ xs := by
  have hl : xs.length - 1 < xs.length := by omega
  refine ⟨xs[xs.length - 1], ?_, List.getElem_mem hl⟩
  have e : ixN xs.length (-1) = some (xs.length - 1) := by
    unfold ixN
    rw [if_neg (by omega), if_pos (by omega)]
    congr 1
    omega
  unfold atI
  rw [e]
  exact List.getElem?_eq_getElem hl
theorem at_first {α : Type} {xs : List α} (h : 0 < xs.length) : ∃ d, atI xs 0 = some d ∧ d ∈ xs := by
  refine ⟨xs[0], ?_, List.getElem_mem h⟩
  unfold atI
  rw [ix_ok (by omega) (by omega)]
  exact List.getElem?_eq_getElem h
theorem OkD.num {kd : Str} {d : D} (h : OkD kd d) (n : d ≠ .non) (e : kd = Str.ofString "number") : ∃ i : Int, d = .int i ∧ i.natAbs < 10 ^ 18 := by
  rcases h with h | ⟨_, h⟩ | ⟨h, _⟩
  · exact absurd h n
  · exact h
  · rw [e] at h; exact absurd h kd_ne
theorem q_szl {n : Nat} (h : n ≤ 10000) : (n ≤ sizeLine) = True := eq_true (Nat.le_trans h (by decide))
theorem szs {n : Nat} (h : n ≤ 10000) : n < sizeLine := Nat.lt_of_le_of_lt h (by decide)
theorem szl {n : Nat} (h : n ≤ 10000) : n ≤ sizeLine := Nat.le_trans h (by decide)
end Dd

namespace Mx
open PySem PySem.Spec
end Mx

namespace Mx
open PySem PySem.Spec L2 Pk Dd
/-! ### max(xs, default = d): over data -/
def fmaxD : D2 := fun r q k => ∃ ds, r.d = .lst ds ∧ ((ds = [] ∧ ∃ d, q = .s d ∧ k (.s d)) ∨ (∃ ns : List Int, ds = ns.map D.int ∧ 0 < ns.length ∧ ∀ m ∈ ns, (∀ y ∈ ns, y ≤ m) → k (.s (.int m))) ∨ ∃ ss : List Str, ds = ss.map D.str ∧ 0 < ss.length ∧ ∀ m ∈ ss, (∀ y ∈ ss, ltS m y = false) → k (.s (.str m)))
/-! ### min(xs, default = d): over data -/
def fminD : D2 := fun r q k => ∃ ds, r.d = .lst ds ∧ ((ds = [] ∧ ∃ d, q = .s d ∧ k (.s d)) ∨ (∃ ns : List Int, ds = ns.map D.int ∧ 0 < ns.length ∧ ∀ m ∈ ns, (∀ y ∈ ns, m ≤ y) → k (.s (.int m))) ∨ ∃ ss : List Str, ds = ss.map D.str ∧ 0 < ss.length ∧ ∀ m ∈ ss, (∀ y ∈ ss, ltS y m = false) → k (.s (.str m)))
end Mx

namespace Dd
open PySem L2 Pk PyProof.Rows
section
variable {X : Cx} {c : Dc}
/-! ### sorted, of any length -/
def rSrt (K : PySem.W.Frag) : List V → Hp → VK → Prop := fun vs H Q => (∃ (a : Addr) (ns : List Int), vs = [V.ref a] ∧ SqL K H a (ns.map V.int) ∧ ∀ (ns' : List Int) (p : Addr), ns'.Perm ns → ns'.Pairwise (· ≤ ·) → H p = none → Q (.ref p) (upd H p (.lst (ns'.map V.int)))) ∨
  ∃ (a : Addr) (ss : List Str), vs = [V.ref a] ∧ SqL K H a (ss.map V.str) ∧ ∀ (ss' : List Str) (p : Addr), ss'.Perm ss → sortedS ss' = true → H p = none → Q (.ref p) (upd H p (.lst (ss'.map V.str)))
def fSrt : DC := fun rs k => ∃ r, rs = [r] ∧ ((∃ ns : List Int, r.d = .lst (ns.map D.int) ∧ ∀ ns' : List Int, ns'.Perm ns → ns'.Pairwise (· ≤ ·) → k (.o (ns'.map D.int))) ∨ ∃ ss : List Str, r.d = .lst (ss.map D.str) ∧ ∀ ss' : List Str, ss'.Perm ss → sortedS ss' = true → k (.o (ss'.map D.str)))
end
end Dd

namespace Dd
open PySem L2 Pk
/-! ### cells: those that are known, their least, their greatest -/
def kn (ds : List D) : List D := ds.flatMap fun d => if isN d = true then [] else [d]
theorem kn_mem {ds : List D} {d : D} (h : d ∈ kn ds) : d ∈ ds ∧ isN d = false := by
  unfold kn at h
  obtain ⟨x, hx, hd⟩ := List.mem_flatMap.mp h
  cases q : isN x with
  | true => rw [q] at hd; simp at hd
  | false => rw [q] at hd; simp at hd; subst hd; exact ⟨hx, q⟩
def Cells (kd : Str) (ds : List D) : Prop := ∀ d ∈ ds, OkD kd d
def Least (xs : List D) (d : D) : Prop := (xs = [] ∧ d = .non) ∨ (∃ ns : List Int, xs = ns.map D.int ∧ ∃ m ∈ ns, d = .int m ∧ ∀ y ∈ ns, m ≤ y) ∨ ∃ ss : List Str, xs = ss.map D.str ∧ ∃ m ∈ ss, d = .str m ∧ ∀ y ∈ ss, ltS y m = false
def Great (xs : List D) (d : D) : Prop := (xs = [] ∧ d = .non) ∨ (∃ ns : List Int, xs = ns.map D.int ∧ ∃ m ∈ ns, d = .int m ∧ ∀ y ∈ ns, y ≤ m) ∨ ∃ ss : List Str, xs = ss.map D.str ∧ ∃ m ∈ ss, d = .str m ∧ ∀ y ∈ ss, ltS m y = false
theorem ltS_eq {a b : Str} (h1 : ltS a b = false) (h2 : ltS b a = false) : a = b := by
  unfold ltS at *
  rw [decide_eq_false_iff_not] at *
  have e : a.cps.toList = b.cps.toList := List.le_antisymm (List.not_lt.mp h2) (List.not_lt.mp h1)
  cases a
  cases b
  congr 1
  exact Array.toList_inj.mp e
theorem map_int_inj {ns ms : List Int} (h : ns.map D.int = ms.map D.int) : ns = ms := by
  induction ns generalizing ms with
  | nil => cases ms with | nil => rfl | cons _ _ => cases h
  | cons n ns ih =>
    cases ms with
    | nil => cases h
    | cons m ms => rw [List.map_cons, List.map_cons] at h; injection h with h1 h2; injection h1 with h1; rw [h1, ih h2]
theorem map_str_inj {ns ms : List Str} (h : ns.map D.str = ms.map D.str) : ns = ms := by
  induction ns generalizing ms with
  | nil => cases ms with | nil => rfl | cons _ _ => cases h
  | cons n ns ih =>
    cases ms with
    | nil => cases h
    | cons m ms => rw [List.map_cons, List.map_cons] at h; injection h with h1 h2; injection h1 with h1; rw [h1, ih h2]
theorem int_str_no {ns : List Int} {ss : List Str} (h : ns.map D.int = ss.map D.str) : ns = [] ∧ ss = [] := by
  cases ns with
  | nil => cases ss with | nil => exact ⟨rfl, rfl⟩ | cons _ _ => cases h
  | cons n ns => cases ss with | nil => cases h | cons _ _ => rw [List.map_cons, List.map_cons] at h; injection h with h1; cases h1
theorem Least.uniq {xs : List D} {d e : D} (h : Least xs d) (h' : Least xs e) : d = e := by
  rcases h with ⟨rfl, rfl⟩ | ⟨ns, rfl, m, hm, rfl, hl⟩ | ⟨ss, rfl, m, hm, rfl, hl⟩
  · rcases h' with ⟨_, rfl⟩ | ⟨ns, e, m, hm, _⟩ | ⟨ss, e, m, hm, _⟩
    · rfl
    · rw [List.map_eq_nil_iff.mp e.symm] at hm; cases hm
    · rw [List.map_eq_nil_iff.mp e.symm] at hm; cases hm
  · rcases h' with ⟨e, rfl⟩ | ⟨ms, e, m', hm', rfl, hl'⟩ | ⟨ss, e, m', hm', _⟩
    · rw [List.map_eq_nil_iff.mp e] at hm; cases hm
    · rw [← map_int_inj e] at hm' hl'
      congr 1
      exact Int.le_antisymm (hl _ hm') (hl' _ hm)
    · rw [(int_str_no e).1] at hm; cases hm
  · rcases h' with ⟨e, rfl⟩ | ⟨ms, e, m', hm', _⟩ | ⟨ms, e, m', hm', rfl, hl'⟩
    · rw [List.map_eq_nil_iff.mp e] at hm; cases hm
    · rw [(int_str_no e.symm).1] at hm'; cases hm'
    · rw [← map_str_inj e] at hm' hl'
      congr 1
      exact ltS_eq (hl' _ hm) (hl _ hm')
theorem Great.uniq {xs : List D} {d e : D} (h : Great xs d) (h' : Great xs e) : d = e := by
  rcases h with ⟨rfl, rfl⟩ | ⟨ns, rfl, m, hm, rfl, hl⟩ | ⟨ss, rfl, m, hm, rfl, hl⟩
  · rcases h' with ⟨_, rfl⟩ | ⟨ns, e, m, hm, _⟩ | ⟨ss, e, m, hm, _⟩
    · rfl
    · rw [List.map_eq_nil_iff.mp e.symm] at hm; cases hm
    · rw [List.map_eq_nil_iff.mp e.symm] at hm; cases hm
  · rcases h' with ⟨e, rfl⟩ | ⟨ms, e, m', hm', rfl, hl'⟩ | ⟨ss, e, m', hm', _⟩
    · rw [List.map_eq_nil_iff.mp e] at hm; cases hm
    · rw [← map_int_inj e] at hm' hl'
      congr 1
      exact Int.le_antisymm (hl' _ hm) (hl _ hm')
    · rw [(int_str_no e).1] at hm; cases hm
  · rcases h' with ⟨e, rfl⟩ | ⟨ms, e, m', hm', _⟩ | ⟨ms, e, m', hm', rfl, hl'⟩
    · rw [List.map_eq_nil_iff.mp e] at hm; cases hm
    · rw [(int_str_no e.symm).1] at hm'; cases hm'
    · rw [← map_str_inj e] at hm' hl'
      congr 1
      exact ltS_eq (hl _ hm') (hl' _ hm)
/-- a note of cells -/
def Note (ds : List D) (t : D) : Prop := ∃ lo hi, t = .tup [.int ds.length, .int (ds.length - (kn ds).length), lo, hi] ∧ Least (kn ds) lo ∧ Great (kn ds) hi
theorem Note.uniq {ds : List D} {t u : D} (h : Note ds t) (h' : Note ds u) : t = u := by
  obtain ⟨lo, hi, rfl, h1, h2⟩ := h
  obtain ⟨lo', hi', rfl, h3, h4⟩ := h'
  rw [h1.uniq h3, h2.uniq h4]
theorem kn_ok {kd : Str} {ds : List D} (h : Cells kd ds) : Cells kd (kn ds) := fun d hd => h d (kn_mem hd).1
theorem Least.ok {kd : Str} {xs : List D} {d : D} (h : Least xs d) (c : Cells kd xs) : OkD kd d := by
  rcases h with ⟨rfl, rfl⟩ | ⟨ns, rfl, m, hm, rfl, _⟩ | ⟨ss, rfl, m, hm, rfl, _⟩
  · exact .inl rfl
  · exact c _ (List.mem_map.mpr ⟨m, hm, rfl⟩)
  · exact c _ (List.mem_map.mpr ⟨m, hm, rfl⟩)
theorem Great.ok {kd : Str} {xs : List D} {d : D} (h : Great xs d) (c : Cells kd xs) : OkD kd d := by
  rcases h with ⟨rfl, rfl⟩ | ⟨ns, rfl, m, hm, rfl, _⟩ | ⟨ss, rfl, m, hm, rfl, _⟩
  · exact .inl rfl
  · exact c _ (List.mem_map.mpr ⟨m, hm, rfl⟩)
  · exact c _ (List.mem_map.mpr ⟨m, hm, rfl⟩)
theorem OkD.sam {kd : Str} {d : D} {n : Nat} (h : OkD kd d) : sam (n + 1) d := by
  rcases h with rfl | ⟨_, m, rfl, _⟩ | ⟨_, t, rfl, _⟩ <;> trivial
theorem Note.sam {kd : Str} {ds : List D} {t : D} (h : Note ds t) (c : Cells kd ds) : sam 4 t := by
  obtain ⟨lo, hi, rfl, h1, h2⟩ := h
  refine ⟨by show 4 < 100000; decide, fun x hx => ?_⟩
  simp at hx
  rcases hx with rfl | rfl | rfl | rfl
  · trivial
  · trivial
  · exact (h1.ok (kn_ok c)).sam
  · exact (h2.ok (kn_ok c)).sam
/-! sorted lists: their ends -/
end Dd

namespace Dd
open PySem L2 Pk
/-- the ends of what is sorted -/
theorem ends {α : Type} {R : α → α → Prop} (rf : ∀ a, R a a) {xs : List α} (h : xs.Pairwise R) : (∀ m, atI xs 0 = some m → m ∈ xs ∧ ∀ y ∈ xs, R m y) ∧ ∀ m, atI xs (-1) = some m → m ∈ xs ∧ ∀ y ∈ xs, R y m := by
  constructor
  · intro m e
    cases xs with
    | nil => cases e
    | cons n ns =>
      have : n = m := by
        unfold atI at e
        rw [ix_ok (by omega) (by simp)] at e
        exact Option.some.inj e
      subst this
      refine ⟨by simp, fun y hy => ?_⟩
      rcases List.mem_cons.mp hy with rfl | hy
      · exact rf _
      · exact List.rel_of_pairwise_cons h hy
  · intro m e
    have hl : 0 < xs.length := by
      cases xs with
      | nil => cases e
      | cons _ _ => simp
    have ei : ixN xs.length (-1) = some (xs.length - 1) := by
      unfold ixN
      rw [if_neg (by omega), if_pos (by omega)]
      congr 1
      omega
    unfold atI at e
    rw [ei] at e
    have e' : xs[xs.length - 1]? = some m := e
    have el := List.getElem?_eq_some_iff.mp e'
    refine ⟨List.mem_of_getElem? e', fun y hy => ?_⟩
    obtain ⟨j, hj⟩ := List.getElem?_of_mem hy
    have hjl := List.getElem?_eq_some_iff.mp hj
    rcases Nat.lt_or_ge j (xs.length - 1) with q | q
    · have := List.pairwise_iff_getElem.mp h j (xs.length - 1) hjl.1 el.1 q
      rw [hjl.2, el.2] at this
      exact this
    · have : j = xs.length - 1 := by have := hjl.1; omega
      subst this
      rw [e'] at hj
      cases hj
      exact rf _
/-! ### == of lists of cells -/
theorem okT_str {t : Str} (h : OkT t) : PyData.strOk t = true := by
  unfold PyData.strOk
  rw [Array.all_eq_true]
  intro i hi
  have := h.c (t.cps[i]) (Array.mem_toList_iff.mpr (Array.getElem_mem hi))
  unfold okC at this
  simp only [Bool.and_eq_true, decide_eq_true_eq] at this
  simp only [decide_eq_true_eq]
  omega
/-- data of at most so many levels, that may be compared -/
def Pn (n : Nat) (d : D) : Prop := pl d = true ∧ (py d).canLay0 = true ∧ (py d).depth ≤ n
theorem Pn.mono {n m : Nat} {d : D} (h : Pn n d) (l : n ≤ m) : Pn m d := ⟨h.1, h.2.1, Nat.le_trans h.2.2 l⟩
theorem pns {n : Nat} : ∀ {xs : List D}, (∀ x ∈ xs, Pn n x) → pls xs = true ∧ PyData.canLayAll0 (pys xs) = true ∧ PyData.depthAll (pys xs) ≤ n
  | [], _ => ⟨rfl, rfl, Nat.zero_le _⟩
  | x :: xs, h => by
    obtain ⟨h1, h2, h3⟩ := h x (by simp)
    obtain ⟨g1, g2, g3⟩ := pns fun y hy => h y (List.mem_cons_of_mem _ hy)
    refine ⟨by unfold pls; rw [h1, g1]; rfl, by unfold pys PyData.canLayAll0; rw [h2, g2]; rfl, ?_⟩
    unfold pys PyData.depthAll
    exact Nat.max_le.mpr ⟨h3, g3⟩
theorem Pn.lst {n : Nat} {xs : List D} (h : ∀ x ∈ xs, Pn n x) : Pn (n + 1) (.lst xs) := by
  obtain ⟨h1, h2, h3⟩ := pns h
  refine ⟨by unfold pl; exact h1, by unfold py PyData.canLay0; exact h2, ?_⟩
  unfold py PyData.depth
  omega
theorem Pn.tup {n : Nat} {xs : List D} (h : ∀ x ∈ xs, Pn n x) : Pn (n + 1) (.tup xs) := by
  obtain ⟨h1, h2, h3⟩ := pns h
  refine ⟨by unfold pl; exact h1, by unfold py PyData.canLay0; exact h2, ?_⟩
  unfold py PyData.depth
  omega
theorem OkD.pn {kd : Str} {d : D} (h : OkD kd d) : Pn 0 d := by
  rcases h with rfl | ⟨_, m, rfl, _⟩ | ⟨_, t, rfl, ok⟩
  · exact ⟨rfl, rfl, by simp [py, PyData.depth]⟩
  · exact ⟨rfl, rfl, by simp [py, PyData.depth]⟩
  · exact ⟨rfl, by simp [py, PyData.canLay0, okT_str ok], by simp [py, PyData.depth]⟩
theorem Cells.pn {kd : Str} {ds : List D} (h : Cells kd ds) : Pn 1 (.lst ds) := Pn.lst fun d hd => (h d hd).pn
end Dd

namespace Dd
open PySem L2 Pk
/-- a list or a tuple that is handed in -/
def SeqIs (s : Sl) (ds : List D) : Prop := s = .bb ds ∨ s = .val (.lst ds) ∨ s = .val (.tup ds)
def dsNote : DSp := fun args b k _ => ∃ (s : Sl) (kd : Str) (ds : List D), args = [s] ∧ SeqIs s ds ∧ isKd kd ∧ Cells kd ds ∧ ds.length ≤ 1000 ∧ ∀ t, Note ds t → k (.s t) b
def dsKind : DSp := fun args b k _ => args = [.st] ∧ b < 100000000 ∧ ∀ kd, isKd kd → k (.s (.str kd)) (b + 1)
def dsSomeCells : DSp := fun args b k _ => ∃ (kd : Str) (m : Nat), args = [.st, .val (.str kd), .val (.int m)] ∧ isKd kd ∧ m ≤ 70 ∧ b + 1501 < 100000000 ∧ ∀ (ds : List D) (b' : Nat), ds.length = m → Cells kd ds → b' ≤ b + 1501 → k (.o ds) b'
end Dd

namespace Dd
open PySem L2 Pk
/-- a comprehension stored in a cell: its stores are not exchanged -/
theorem sw_cell {elt : Expr} {gs : List Comprehension} {scope : Scope} {pos py : Pos} {y : Str} {l : Nat} {env : Env} (hy : env.scope.names.lookup y = some .cell) : swapsWith (.ListComp elt gs scope pos) (some (.Name y py)) l env = pure false := by
  have ky : env.kindOf y = some .cell := hy
  unfold swapsWith
  simp only [ky]
  have e : (some NameKind.cell == some NameKind.local) = false := by decide
  simp [e]
/-! ### text.index(sign) -/
def kSi2 (s : Str) (k : DK) : List Rs → Nat → Prop := fun rs b => ∃ (t : Str) (i : Nat) (rest : List Nat), rs = [.s (.str t)] ∧ Builtin.Str.occurrences s t 0 s.length 1 = i :: rest ∧ k (.s (.int i)) b
def kSi1 (da : DA) (A : List Sl) (k : DK) : DK := fun r b => ∃ s, r = .s (.str s) ∧ da A b (kSi2 s k)
def dSidx (de : DE) (da : DA) : DE := fun A b k => de A b (kSi1 da A k)
section
variable {X : Cx} {c : Dc}
end
section
variable {A : List Sl} {b : Nat} {k : DK} {de : DE} {da : DA} {s t : Str}
theorem q_sidx : dSidx de da A b k = de A b (kSi1 da A k) := rfl
theorem q_kSi1 : kSi1 da A k (.s (.str s)) b = da A b (kSi2 s k) := propext ⟨fun ⟨_, e, h⟩ => by cases e; exact h, fun h => ⟨s, rfl, h⟩⟩
theorem q_kSi2 : kSi2 s k [.s (.str t)] b = ∃ (i : Nat) (rest : List Nat), Builtin.Str.occurrences s t 0 s.length 1 = i :: rest ∧ k (.s (.int i)) b := propext ⟨fun ⟨_, i, r, e, h⟩ => by cases e; exact ⟨i, r, h⟩, fun ⟨i, r, h⟩ => ⟨t, i, r, rfl, h⟩⟩
end
end Dd

namespace Dd
open PySem L2 Pk
/-! ### while, by a measure -/
def kWh (t : DS) (E : DEnds) (W : Nat → List Sl → Nat → Prop) (m : Nat) (A : List Sl) : Bool → Nat → Prop := fun k b1 => if k = true then t { E with nx := fun A' b' => ∃ m', m' < m ∧ W m' A' b', ct := fun A' b' => ∃ m', m' < m ∧ W m' A' b', bk := E.nx } A b1 else E.nx A b1
theorem q_kWh {t : DS} {E : DEnds} {W : Nat → List Sl → Nat → Prop} {m : Nat} {A : List Sl} {k : Bool} {b : Nat} : kWh t E W m A k b = (if k = true then t { E with nx := fun A' b' => ∃ m', m' < m ∧ W m' A' b', ct := fun A' b' => ∃ m', m' < m ∧ W m' A' b', bk := E.nx } A b else E.nx A b) := rfl
end Dd

namespace Dd
open PySem L2 Pk
/-! ### which part cells go to -/
def stepB (n x : Int) : Int := (n * 31 + x + 1) % 65521
def foldB (n : Int) (bs : List Int) : Int := bs.foldl stepB n
def bytesD (ds : List D) : List Int := ds.flatMap cbD
def ptD (ds : List D) (l : Int) : Int := foldB (l / 8) (bytesD ds) / 4 ^ (l % 8).toNat % 4
def AllC (ds : List D) : Prop := ∀ d ∈ ds, OkCd d
def dsPart : DSp := fun args b k _ => ∃ (s : Sl) (ds : List D) (l : Int), args = [s, .val (.int l)] ∧ SeqIs s ds ∧ AllC ds ∧ ds.length ≤ 1000 ∧ 0 ≤ l ∧ l < 100000000 ∧ k (.s (.int (ptD ds l))) b
def dsSomeC : DSp := fun args b k _ => args = [.st] ∧ b + 100 < 100000000 ∧ ∀ (d : D) (b' : Nat), OkCd d → b' ≤ b + 40 → k (.s d) b'
theorem OkCd.pn {d : D} (h : OkCd d) : Pn 0 d := by
  rcases h with rfl | ⟨m, rfl, _⟩ | ⟨t, rfl, ok⟩
  · exact ⟨rfl, rfl, by simp [py, PyData.depth]⟩
  · exact ⟨rfl, rfl, by simp [py, PyData.depth]⟩
  · exact ⟨rfl, by simp [py, PyData.canLay0, okT_str ok], by simp [py, PyData.depth]⟩
theorem AllC.pn {ds : List D} (h : AllC ds) : Pn 1 (.lst ds) := Pn.lst fun d hd => (h d hd).pn
theorem AllC.snoc {ds : List D} {d : D} (h : AllC ds) (ok : OkCd d) : AllC (ds ++ [d]) := fun d' hd' => by
  rcases List.mem_append.mp hd' with z | z
  · exact h d' z
  · rw [List.mem_singleton.mp z]; exact ok
theorem pn_int {i : Int} : Pn 0 (.int i) := ⟨rfl, rfl, by simp [py, PyData.depth]⟩
def ptL (l : Int) : D → D
  | .lst ds => .int (ptD ds l)
  | _ => .non
end Dd

namespace Dd
open PySem L2 Pk
/-! ### dicts that are written out: keys ints and texts -/
def keyD : Rs → Option Key
  | .s (.int i) => some (.inl i)
  | .s (.str s) => some (.inr s)
  | _ => none
theorem keyD_v {c : Dc} {F H : Hp} {σ : L2.St} {A : List Sl} {v : V} {r : Rs} {k : Key} (h : RsOk c F H σ A v r) (e : keyD r = some k) : v = kV k := by
  unfold keyD at e
  split at e
  · cases e; exact h.int rfl
  · cases e; exact h.str rfl
  · cases e
abbrev PK := List (Key × D) → Nat → Prop
def kPr3 (key : Key) (d : D) (k : PK) : PK := fun ps b => k ((key, d) :: ps) b
def dPairs : List (DE × DE) → List Sl → Nat → PK → Prop
  | [], _, b, k => k [] b
  | (dk, dv) :: r, A, b, k => dk A b fun x b1 => ∃ key, keyD x = some key ∧ dv A b1 fun y b2 => y.kp ∧ dPairs r A b2 (kPr3 key y.d k)
def kPr2 (r : List (DE × DE)) (A : List Sl) (key : Key) (k : PK) : DK := fun y b2 => y.kp ∧ dPairs r A b2 (kPr3 key y.d k)
def kPr1 (dv : DE) (r : List (DE × DE)) (A : List Sl) (k : PK) : DK := fun x b1 => ∃ key, keyD x = some key ∧ dv A b1 (kPr2 r A key k)
def kDisp (k : DK) : PK := fun kds b => (kds.map (·.1)).Nodup ∧ kds.length ≤ 15 ∧ k (.s (.dk kds)) b
def dDisp (drs : List (DE × DE)) : DE := fun A b k => dPairs drs A b (kDisp k)
section
variable {A : List Sl} {b : Nat} {k : DK} {kp : PK} {dk dv : DE} {drs : List (DE × DE)} {s : Str} {i : Int} {y : Rs} {key : Key} {d : D} {kds : List (Key × D)}
theorem q_disp : dDisp drs A b k = dPairs drs A b (kDisp k) := rfl
theorem q_pairsN : dPairs [] A b kp = kp [] b := rfl
theorem q_pairsC : dPairs ((dk, dv) :: drs) A b kp = dk A b (kPr1 dv drs A kp) := rfl
theorem q_kPr1s : kPr1 dv drs A kp (.s (.str s)) b = dv A b (kPr2 drs A (.inr s) kp) := propext ⟨fun ⟨_, e, h⟩ => by cases e; exact h, fun h => ⟨_, rfl, h⟩⟩
theorem q_kPr1i : kPr1 dv drs A kp (.s (.int i)) b = dv A b (kPr2 drs A (.inl i) kp) := propext ⟨fun ⟨_, e, h⟩ => by cases e; exact h, fun h => ⟨_, rfl, h⟩⟩
theorem q_kPr2 : kPr2 drs A key kp y b = (y.kp ∧ dPairs drs A b (kPr3 key y.d kp)) := rfl
theorem q_kPr3 : kPr3 key d kp kds b = kp ((key, d) :: kds) b := rfl
theorem q_kDisp : kDisp k kds b = ((kds.map (·.1)).Nodup ∧ kds.length ≤ 15 ∧ k (.s (.dk kds)) b) := rfl
end
def LkP (c : Dc) (trs : List (TE × TE)) (drs : List (DE × DE)) : Prop := ∀ F σ H A b Q k, R c F σ H A b → dPairs drs A b k → (∀ kds b' kvs F' H', k kds b' → R c F' σ H' A b' → Ext c F H F' H' → RpK c.K F' kvs kds → Q (kvs.map fun kv => (kV kv.1, kv.2)) H') → tPairs trs σ H Q
inductive PPd (X : Cx) (c : Dc) (pos : Pos) (keys : List (Option Expr)) (values : List Expr) (drs : List (DE × DE)) : Prop
  | mk (trs : List (TE × TE)) (h : PPs X pos keys values trs) (l : LkP c trs drs)
section
variable {X : Cx} {c : Dc}
theorem pp_nil {pos : Pos} : PPd X c pos [] [] [] := ⟨[], pps_nil, fun F σ H A b Q k rr h hk => hk [] b [] F H h rr .refl .nil⟩
theorem pp_cons {pos : Pos} {k v : Expr} {ks : List (Option Expr)} {vs : List Expr} {dk dv : DE} {drs : List (DE × DE)} (hk : PEd X c k dk) (hv : PEd X c v dv) (hr : PPd X c pos ks vs drs) : PPd X c pos (some k :: ks) (v :: vs) ((dk, dv) :: drs) :=
  let ⟨_, h1, l1⟩ := hk
  let ⟨_, h2, l2⟩ := hv
  let ⟨_, h3, l3⟩ := hr
  ⟨_, pps_cons h1 h2 h3, fun F σ H A b Q k rr h hk => l1 F σ H A b _ _ rr h fun x b1 vx F1 H1 hx g1 => by
    obtain ⟨key, ek, hx⟩ := hx
    cases keyD_v g1.ok ek
    refine l2 F1 σ H1 A b1 _ _ g1.rr hx fun y b2 vy F2 H2 hy g2 => ?_
    obtain ⟨kp, hy⟩ := hy
    obtain ⟨F2', m2, g2⟩ := g2.keep kp
    refine l3 F2' σ H2 A b2 _ _ g2.rr hy fun kds b3 kvs F3 H3 h3 r3 e3 q3 => ?_
    exact hk _ b3 ((key, vy) :: kvs) F3 H3 h3 r3 ((g1.e.trans g2.e).trans e3) (.cons ((show Rp c.K F2' vy y.d from g2.ok).mono e3.f) q3)⟩
/-- an object that no name knows is changed -/
theorem R.mutX {F H : Hp} {σ : L2.St} {A : List Sl} {b : Nat} {p : Addr} {kvs : List (Key × V)} {o : HO} (r : R c F σ H A b) (hp : off c.G H p = some (.dK kvs)) (hF : F p = none) (hB : c.B p = none) : R c F σ (upd H p o) A b := by
  have e : off c.G (upd H p o) = upd (off c.G H) p o := off_mut hp
  refine ⟨fun a u h => ?_, fun a u h => ?_, r.f0, r.n0, gst_mut r.st hp, fun i s h => ?_, r.ds, r.len⟩
  · rw [e, upd_ne (ne_of_none h hF)]; exact r.sub a u h
  · rw [e, upd_ne (ne_of_none h hB)]; exact r.bsub a u h
  · have q := r.sl i s h
    cases s with
    | no => trivial
    | val d => exact q
    | own ds =>
      obtain ⟨p', vs, hx, h1, h2, h3, rr⟩ := q
      refine ⟨p', vs, hx, h1, h2, ?_, rr⟩
      rw [e, upd_ne (fun z => by subst z; rw [hp] at h3; cases h3)]
      exact h3
    | bb ds => exact q
    | st => exact q
theorem merge_nodup : ∀ {more acc : List (Key × V)}, ((acc ++ more).map (·.1)).Nodup → mergeK acc more = acc ++ more
  | [], acc, _ => by unfold mergeK; simp
  | p :: r, acc, h => by
    have hn : (acc.any fun kv => decide (kv.1 = p.1)) = false := by
      rw [List.any_eq_false]
      intro kv hkv e
      rw [decide_eq_true_eq] at e
      rw [List.map_append, List.map_cons, List.nodup_append] at h
      exact h.2.2 kv.1 (List.mem_map.mpr ⟨kv, hkv, rfl⟩) p.1 (by simp) e
    have e1 : putK acc p.1 p.2 = acc ++ [p] := by unfold putK; rw [hn]; simp
    show mergeK (putK acc p.1 p.2) r = _
    rw [e1, merge_nodup (by rw [List.append_assoc]; exact h), List.append_assoc]
    rfl
theorem RpK.keys {K : PySem.W.Frag} {F : Hp} : ∀ {kvs : List (Key × V)} {kds : List (Key × D)}, RpK K F kvs kds → kvs.map (·.1) = kds.map (·.1)
  | _, _, .nil => rfl
  | _, _, .cons _ r => by rw [List.map_cons, List.map_cons, r.keys]
def valD (kds : List (Key × D)) (k : Key) : Option D := (kds.find? fun kv => decide (kv.1 = k)).map (·.2)
theorem RpK.val {K : PySem.W.Frag} {F : Hp} {k : Key} {d : D} : ∀ {kvs : List (Key × V)} {kds : List (Key × D)}, RpK K F kvs kds → valD kds k = some d → ∃ v, valV kvs k = some v ∧ Rp K F v d
  | _, _, .nil, e => by cases e
  | _, _, .cons (k := k') a r, e => by
    by_cases h : k' = k
    · subst h
      unfold valD at e
      simp at e
      subst e
      exact ⟨_, by simp [valV], a⟩
    · unfold valD at e
      rw [List.find?_cons_of_neg (by simpa using h)] at e
      obtain ⟨v, e1, q⟩ := r.val e
      refine ⟨v, ?_, q⟩
      unfold valV
      rw [List.find?_cons_of_neg (by simpa using h)]
      exact e1
theorem d_disp {pos : Pos} {keys : List (Option Expr)} {values : List Expr} {drs : List (DE × DE)} (h : PPd X c pos keys values drs) (hall : keys.all (·.isSome) = true := by rfl) (hl : keys.length = values.length := by rfl) (h0 : keys ≠ [] := by decide) (h15 : keys.length ≤ 15 := by decide) : PEd X c (.Dict keys values pos) (dDisp drs) :=
  let ⟨_, h1, l1⟩ := h
  ⟨_, pe_disp h1 hall hl h0 h15, fun F σ H A b Q k rr h hk p hp => by
    have hF : F p = none := by
      cases q : F p with
      | none => rfl
      | some u => have := off_sub (rr.sub p u q); rw [hp] at this; cases this
    have hB : c.B p = none := by
      cases q : c.B p with
      | none => rfl
      | some u => have := off_sub (rr.bsub p u q); rw [hp] at this; cases this
    obtain ⟨e0, r0⟩ := rr.alloc (o := .dK []) hp
    refine l1 F σ _ A b _ _ r0 h fun kds b' kvs F' H' hh r' e' q' => ?_
    obtain ⟨nd, hz, hh⟩ := hh
    have o0 : off c.G (upd H p (.dK [])) p = some (.dK []) := by rw [off_new rr.st hp, upd_same]
    have o1 := e'.h p _ o0
    have hF' : F' p = none := e'.keep hF o0
    have hlen : kvs.length = kds.length := by
      have := congrArg List.length q'.keys
      simpa using this
    refine ⟨off_sub o1, kvs, rfl, by omega, ?_⟩
    have em : mergeK [] kvs = kvs := by
      rw [merge_nodup (by rw [List.nil_append, q'.keys]; exact nd)]
      rfl
    rw [em]
    have r2 := r'.mutX (o := .dK kvs) o1 hF' hB
    have o2 : off c.G (upd H' p (.dK kvs)) p = some (.dK kvs) := by rw [off_mut o1, upd_same]
    have r3 := r2.stay hF' hB o2 (fun i xs ha hx => by
      obtain ⟨p', vs, hy, _, _, h3, _⟩ := r2.sl i _ ha
      rw [hx] at hy
      cases hy
      rw [o2] at h3
      cases h3)
    have m : Sub F' (upd F' p (.dK kvs)) := fun a u z => by rw [upd_ne (ne_of_none z hF')]; exact z
    refine hk _ _ (.ref p) (upd F' p (.dK kvs)) _ hh ⟨r3, ⟨fun a u z => m a u (e'.f a u z), fun a u z => ?_, fun a u z => ?_⟩, .dk upd_same (q'.mono m), fun _ _ z => by cases z⟩
    · have hne : a ≠ p := ne_of_none (off_sub z) hp
      rw [off_mut o1, upd_ne hne]
      exact e'.h a u (by rw [off_new rr.st hp, upd_ne hne]; exact z)
    · by_cases e : a = p
      · subst e; exact .inr (off_none hp)
      · rw [upd_ne e] at z
        rcases e'.n a u z with y | y
        · exact .inl y
        · rw [off_new rr.st hp, upd_ne e] at y
          exact .inr y⟩
/-! d[k] -/
def fDk : D2 := fun x y k => ∃ kds key d, x = .s (.dk kds) ∧ keyD y = some key ∧ valD kds key = some d ∧ k (.s d)
theorem d_dget {o i : Expr} {pos : Pos} {da db : DE} (hu : X.A.units + 1 < cLine) (hs : NoSl i) (ha : PEd X c o da) (hb : PEd X c i db) : PEd X c (.Subscript o i pos) (dOp fDk da db) :=
  let ⟨_, h1, l1⟩ := ha
  let ⟨_, h2, l2⟩ := hb
  ⟨_, pe_dget hu h1 h2 hs, fun F σ H A b Q k rr h hk => l1 F σ H A b _ _ rr h fun x b1 vx F1 H1 hx g1 => l2 F1 σ H1 A b1 _ _ g1.rr hx fun y b2 vy F2 H2 hy g2 => by
    obtain ⟨kds, key, d, rfl, ek, ev, hy⟩ := hy
    have o1 : Rp c.K F1 vx (.dk kds) := g1.ok
    cases o1 with
    | dk hF q =>
      obtain ⟨v, e1, rv⟩ := (q.mono g2.e.f).val ev
      refine ⟨_, v, rfl, .inl ⟨_, key, .inl (off_sub (g2.rr.sub _ _ (g2.e.f _ _ hF))), keyD_v g2.ok ek, e1.symm⟩, hk _ _ _ _ _ hy (((Got.still g2.rr rv).pre g2.e).pre g1.e)⟩⟩
theorem q_dget1 {kds : List (Key × D)} {s : Str} {kr : Rs → Prop} : fDk (.s (.dk kds)) (.s (.str s)) kr = ∃ d, valD kds (.inr s) = some d ∧ kr (.s d) := propext ⟨fun ⟨_, _, d, e1, e2, e3, h⟩ => by cases e1; cases e2; exact ⟨d, e3, h⟩, fun ⟨d, h1, h2⟩ => ⟨_, _, d, rfl, rfl, h1, h2⟩⟩
end
end Dd

namespace Dd
open PySem L2 Pk
open PySem.Builtin.Int (intBits)
section
variable {X : Cx} {c : Dc}
/-- * of numbers of any size that the model has room for -/
def CMulB (i j : Int) : Prop := intBits i ≤ 1048576 ∧ intBits j ≤ 1048576
theorem op_mulB : OpR X (binaryOp .Mult) (rI CMulB fun i j => .int (i * j)) := opI fun _ _ _ _ _ _ _ hc q => PyProof.Rows.mul_int q (IntMulOk.of_bits hc.1 hc.2)
@[reducible] def aMulB : D2 := fI CMulB fun i j => .int (i * j)
theorem d_mulB {a e : Expr} {pos : Pos} {da db : DE} (ha : PEd X c a da) (hb : PEd X c e db) : PEd X c (.BinOp a .Mult e pos) (dOp aMulB da db) := d_op op_mulB (ln_I fun _ _ _ => .int _) ha hb
end
theorem q_eqB {i j : Bool} {kr : Rs → Prop} : fEqA false (.s (.bl i)) (.s (.bl j)) kr = kr (.s (.bl (i == j))) := by cases i <;> cases j <;> simp [fEqA, fEqF, flt, toV, scal, Rs.d]
theorem q_neB {i j : Bool} {kr : Rs → Prop} : fEqA true (.s (.bl i)) (.s (.bl j)) kr = kr (.s (.bl (!(i == j)))) := by cases i <;> cases j <;> simp [fEqA, fEqF, flt, toV, scal, Rs.d]
end Dd

namespace Dd
open PySem L2 Pk
open PySem.Builtin.Int (intBits)
/-! ### forms -/
abbrev sNum : Str := Str.ofString "number"
abbrev sTxt : Str := Str.ofString "text"
inductive Fm where
  | cell (p : Nat) | val (d : D) | fst (a b : Fm) | sum (sg : Str) (a b : Fm)
def Fm.d : Fm → D
  | .cell p => .tup [.str (Str.ofString "cell"), .int p]
  | .val d => .tup [.str (Str.ofString "value"), d]
  | .fst a b => .tup [.str (Str.ofString "first"), a.d, b.d]
  | .sum sg a b => .tup [.str (Str.ofString "sum"), .str sg, a.d, b.d]
def sumD (sg : Str) (x y : D) : D := match x, y with
  | .int i, .int j => .int (if sg = Str.ofString "+" then i + j else if sg = Str.ofString "-" then i - j else i * j)
  | _, _ => .non
def fstD (x y : D) : D := if isN x = true then y else x
def Fm.ev (row : List D) : Fm → D
  | .cell p => (row[p]?).getD .non
  | .val d => d
  | .fst a b => fstD (a.ev row) (b.ev row)
  | .sum sg a b => sumD sg (a.ev row) (b.ev row)
def Fm.dp : Fm → Nat
  | .fst a b => max a.dp b.dp + 1
  | .sum _ a b => max a.dp b.dp + 1
  | _ => 0
def isSg (sg : Str) : Prop := sg = Str.ofString "+" ∨ sg = Str.ofString "-" ∨ sg = Str.ofString "*"
def Fm.ok (ks : List Str) : Fm → Str → Prop
  | .cell p, kd => ks[p]? = some kd
  | .val d, kd => OkD kd d
  | .fst a b, kd => a.ok ks kd ∧ b.ok ks kd
  | .sum sg a b, kd => kd = sNum ∧ isSg sg ∧ a.ok ks sNum ∧ b.ok ks sNum
def Kinds (ks : List Str) : Prop := 1 ≤ ks.length ∧ ks.length ≤ 8 ∧ ∀ k ∈ ks, isKd k
def RowOk (ks : List Str) (row : List D) : Prop := row.length = ks.length ∧ ∀ (p : Nat) (kd : Str) (d : D), ks[p]? = some kd → row[p]? = some d → OkD kd d
/-- a cell of a kind, whose number has so many bits -/
def CelB (m : Nat) (kd : Str) (d : D) : Prop := d = .non ∨ (kd = sNum ∧ ∃ n : Int, d = .int n ∧ intBits n ≤ m) ∨ (kd = sTxt ∧ ∃ t, d = .str t ∧ OkT t)
theorem OkD.celB {kd : Str} {d : D} (h : OkD kd d) : CelB 60 kd d := by
  rcases h with h | ⟨e, n, rfl, hn⟩ | h
  · exact .inl h
  · exact .inr (.inl ⟨e, n, rfl, intBits_le_iff.mpr (Nat.lt_trans hn (by decide))⟩)
  · exact .inr (.inr h)
theorem CelB.mono {m n : Nat} {kd : Str} {d : D} (h : CelB m kd d) (l : m ≤ n) : CelB n kd d := by
  rcases h with h | ⟨e, i, rfl, hn⟩ | h
  · exact .inl h
  · exact .inr (.inl ⟨e, i, rfl, Nat.le_trans hn l⟩)
  · exact .inr (.inr h)
theorem CelB.num {m : Nat} {d : D} (h : CelB m sNum d) : d = .non ∨ ∃ n : Int, d = .int n ∧ intBits n ≤ m := by
  rcases h with h | ⟨_, i, rfl, hn⟩ | ⟨h, _⟩
  · exact .inl h
  · exact .inr ⟨i, rfl, hn⟩
  · exact absurd h kd_ne
theorem sum_celB {m : Nat} {sg : Str} {x y : D} (hm : 1 ≤ m) (hx : CelB m sNum x) (hy : CelB m sNum y) : CelB (m + m) sNum (sumD sg x y) := by
  rcases hx.num with rfl | ⟨i, rfl, hi⟩
  · exact .inl (by unfold sumD; rfl)
  · rcases hy.num with rfl | ⟨j, rfl, hj⟩
    · exact .inl (by unfold sumD; rfl)
    · refine .inr (.inl ⟨rfl, _, rfl, ?_⟩)
      split
      · exact Nat.le_trans (intBits_add_le hi hj) (by omega)
      · split
        · exact Nat.le_trans (intBits_sub_le hi hj) (by omega)
        · exact intBits_mul_le hi hj
theorem Fm.celB {ks : List Str} {row : List D} (hr : RowOk ks row) : ∀ {f : Fm} {kd : Str}, f.ok ks kd → CelB (60 * 2 ^ f.dp) kd (f.ev row)
  | .cell p, kd, h => by
    show CelB (60 * 2 ^ 0) kd ((row[p]?).getD .non)
    cases e : row[p]? with
    | none => exact .inl rfl
    | some d => exact (hr.2 p kd d h e).celB
  | .val d, kd, h => (show OkD kd d from h).celB
  | .fst a b, kd, h => by
    have ha := (Fm.celB hr h.1).mono (n := 60 * 2 ^ (max a.dp b.dp + 1)) (Nat.mul_le_mul_left _ (Nat.pow_le_pow_right (by decide) (by omega)))
    have hb := (Fm.celB hr h.2).mono (n := 60 * 2 ^ (max a.dp b.dp + 1)) (Nat.mul_le_mul_left _ (Nat.pow_le_pow_right (by decide) (by omega)))
    show CelB (60 * 2 ^ (max a.dp b.dp + 1)) kd (fstD (a.ev row) (b.ev row))
    unfold fstD
    split
    · exact hb
    · exact ha
  | .sum sg a b, kd, h => by
    obtain ⟨rfl, _, h1, h2⟩ := h
    have ha := (Fm.celB hr h1).mono (n := 60 * 2 ^ (max a.dp b.dp)) (Nat.mul_le_mul_left _ (Nat.pow_le_pow_right (by decide) (by omega)))
    have hb := (Fm.celB hr h2).mono (n := 60 * 2 ^ (max a.dp b.dp)) (Nat.mul_le_mul_left _ (Nat.pow_le_pow_right (by decide) (by omega)))
    show CelB (60 * 2 ^ (max a.dp b.dp + 1)) sNum (sumD sg (a.ev row) (b.ev row))
    rw [Nat.pow_succ, show 60 * (2 ^ max a.dp b.dp * 2) = 60 * 2 ^ max a.dp b.dp + 60 * 2 ^ max a.dp b.dp by omega]
    have : 0 < 2 ^ max a.dp b.dp := Nat.pow_pos (by decide)
    exact sum_celB (by omega) ha hb
theorem CelB.sam {m n : Nat} {kd : Str} {d : D} (h : CelB m kd d) : sam (n + 1) d := by
  rcases h with rfl | ⟨_, i, rfl, _⟩ | ⟨_, t, rfl, _⟩ <;> trivial
/-! promises -/
def dsSumC : DSp := fun args b k _ => ∃ (sg : Str) (x y : D), args = [.val (.str sg), .val x, .val y] ∧ isSg sg ∧ CelB 524288 sNum x ∧ CelB 524288 sNum y ∧ k (.s (sumD sg x y)) b
def dsFc (n : Nat) : DSp := fun args b k _ => ∃ (s : Sl) (row : List D) (f : Fm) (ks : List Str) (kd : Str), args = [s, .val f.d] ∧ SeqIs s row ∧ f.dp < n ∧ f.ok ks kd ∧ RowOk ks row ∧ n ≤ 13 ∧ k (.s (f.ev row)) b
def dsValue : DSp := fun args b k _ => ∃ kd : Str, args = [.st, .val (.str kd)] ∧ isKd kd ∧ b + 100 < 100000000 ∧ ∀ (d : D) (b' : Nat), OkD kd d → b' ≤ b + 32 → k (.s d) b'
def dsKinds : DSp := fun args b k _ => args = [.st] ∧ b + 100 < 100000000 ∧ ∀ (ks : List Str) (b' : Nat), Kinds ks → b' ≤ b + 12 → k (.o (ks.map D.str)) b'
def Rows (ks : List Str) (rs : List D) : Prop := ∀ r ∈ rs, ∃ row, r = .tup row ∧ RowOk ks row
def dsRows : DSp := fun args b k _ => ∃ (s : Sl) (ks : List Str) (m : Nat), args = [.st, s, .val (.int m)] ∧ SeqIs s (ks.map D.str) ∧ Kinds ks ∧ m ≤ 70 ∧ b + 20000 < 100000000 ∧ ∀ (rs : List D) (b' : Nat), rs.length = m → Rows ks rs → b' ≤ b + 13000 → k (.o rs) b'
def dsTable : DSp := fun args b k _ => args = [.st] ∧ b + 30000 < 100000000 ∧ ∀ (ks : List Str) (rs : List D) (b' : Nat), Kinds ks → rs.length ≤ 70 → Rows ks rs → b' ≤ b + 14000 → k (.s (.tup [.lst (ks.map D.str), .lst rs])) b'
def dsForm (n : Nat) : DSp := fun args b k _ => ∃ (s : Sl) (ks : List Str) (m : Nat), args = [.st, s, .val (.int m)] ∧ SeqIs s (ks.map D.str) ∧ Kinds ks ∧ m < n ∧ n ≤ 10 ∧ b + 100 * 2 ^ m + 1000 < 100000000 ∧ ∀ (f : Fm) (kd : Str) (b' : Nat), f.ok ks kd → isKd kd → f.dp ≤ m → b' + 66 ≤ b + 100 * 2 ^ m → k (.s (.tup [f.d, .str kd])) b'
def dsFormOf (n : Nat) : DSp := fun args b k _ => ∃ (s : Sl) (ks : List Str) (m : Nat) (kd : Str), args = [.st, s, .val (.int m), .val (.str kd)] ∧ SeqIs s (ks.map D.str) ∧ Kinds ks ∧ isKd kd ∧ m < n ∧ n ≤ 10 ∧ b + 100 * 2 ^ m + 1000 < 100000000 ∧ ∀ (f : Fm) (b' : Nat), f.ok ks kd → f.dp ≤ m → b' + 34 ≤ b + 100 * 2 ^ m → k (.s f.d) b'
/-- a promise that nothing is asked of -/
theorem fn_void {P : Program} {w : World} {K : PySem.W.Frag} {mg : Str → Option Value} {base : Heap} {CX : CXT} {k : Nat} {f : Addr} {fd : FuncData} {ps : List Str} {ds : DSp} (h : ∀ args b k kx, ¬ ds args b k kx) : FnOk P w K mg base CX k f fd ps (spD K ds) :=
  ⟨fun vs H Q E z => by obtain ⟨G, F, args, b, k, kx, _, _, _, hd, _⟩ := z; exact (h _ _ _ _ hd).elim, fun A o s H a us vs Q E _ _ _ _ z => by obtain ⟨G, F, args, b, k, kx, _, _, _, hd, _⟩ := z; exact (h _ _ _ _ hd).elim⟩
theorem pm_ne : ¬ Str.ofString "-" = Str.ofString "+" := by decide +kernel
theorem tp_ne : ¬ Str.ofString "*" = Str.ofString "+" := by decide +kernel
theorem tm_ne : ¬ Str.ofString "*" = Str.ofString "-" := by decide +kernel
theorem sumD_p {i j : Int} : sumD (Str.ofString "+") (.int i) (.int j) = .int (i + j) := by show D.int _ = _; rw [if_pos rfl]
theorem sumD_m {i j : Int} : sumD (Str.ofString "-") (.int i) (.int j) = .int (i - j) := by show D.int _ = _; rw [if_neg pm_ne, if_pos rfl]
theorem sumD_t {i j : Int} : sumD (Str.ofString "*") (.int i) (.int j) = .int (i * j) := by show D.int _ = _; rw [if_neg tp_ne, if_neg tm_ne]
end Dd

namespace Dd
open PySem L2 Pk
/-! ### a, b = x, y -/
def kPar (i j : Nat) (E : DEnds) (A : List Sl) : List Rs → Nat → Prop := fun rs b => ∃ x y, rs = [.s x, .s y] ∧ E.nx ((A.set i (.val x)).set j (.val y)) b
def dPar (i j : Nat) (da : DA) : DS := fun E A b => da A b (kPar i j E A)
section
variable {X : Cx} {c : Dc}
theorem s_par {i j : Nat} {x y : Str} {a b : Expr} {da : DA} {px py pt pos : Pos} {kt k2 pt2} (hc : X.calm = true) (hN : X.N.Nodup) (hi : X.N[i]? = some x) (hj : X.N[j]? = some y) (hij : i ≠ j)
    (hx : X.env.scope.names.lookup x = some .local) (hy : X.env.scope.names.lookup y = some .local) (ha : PAd X c [a, b] da)
    (hw : swappedStores [.Tuple [.Name x px, .Name y py] kt pt] (.Tuple [a, b] k2 pt2) X.env = pure (some [x, y]))
    (hs : swapsWithSole [.Tuple [.Name x px, .Name y py] kt pt] (.Tuple [a, b] k2 pt2) pos.line X.env = pure false := by rfl) :
    PSd X c (.Assign [.Tuple [.Name x px, .Name y py] kt pt] (.Tuple [a, b] k2 pt2) pos) (dPar i j da) :=
  let ⟨_, h1, l1⟩ := ha
  ⟨_, ps_par hc hN hi hj hij hx hy h1 hw hs, fun F σ H A b D E rr eo h => l1 F σ H A b _ _ rr h fun rs b1 vs F1 H1 h1 r1 e1 a1 => by
    obtain ⟨x, y, rfl, h1⟩ := h1
    obtain ⟨v, w, rfl, hv, hw⟩ := a1.two
    have hv : Rp c.K F1 v x := hv
    have hw : Rp c.K F1 w y := hw
    have r2 := r1.put (i := i) (s := .val x) ⟨v, rfl, hv⟩ (fun xs z => by cases z)
    have r3 := r2.put (i := j) (s := .val y) ⟨w, rfl, hw⟩ (fun xs z => by cases z)
    exact ⟨v, w, rfl, eo.nx F1 _ H1 _ b1 e1.f r3 h1⟩⟩
end
theorem q_par {i j : Nat} {da : DA} {E : DEnds} {A : List Sl} {b : Nat} : dPar i j da E A b = da A b (kPar i j E A) := rfl
theorem q_kPar {i j : Nat} {E : DEnds} {A : List Sl} {b : Nat} {x y : D} : kPar i j E A [.s x, .s y] b = E.nx ((A.set i (.val x)).set j (.val y)) b := propext ⟨fun ⟨_, _, e, h⟩ => by cases e; exact h, fun h => ⟨x, y, rfl, h⟩⟩
theorem valD_hit {k : Key} {d : D} {r : List (Key × D)} : valD ((k, d) :: r) k = some d := by simp [valD]
theorem valD_skip {k k' : Key} {d : D} {r : List (Key × D)} (h : k' ≠ k) : valD ((k', d) :: r) k = valD r k := by
  unfold valD
  rw [List.find?_cons_of_neg (by simpa using h)]
theorem key_ne {a b : Str} (h : ¬ a = b) : (Sum.inr a : Key) ≠ .inr b := fun e => h (Sum.inr.inj e)
def RowPre (ks : List Str) (cs : List D) : Prop := ∀ (p : Nat) (kd : Str) (d : D), ks[p]? = some kd → cs[p]? = some d → OkD kd d
theorem RowPre.snoc {ks : List Str} {cs : List D} {kd : Str} {d : D} (h : RowPre ks cs) (e : ks[cs.length]? = some kd) (ok : OkD kd d) : RowPre ks (cs ++ [d]) := fun p kd' d' h1 h2 => by
  rcases Nat.lt_or_ge p cs.length with q | q
  · rw [List.getElem?_append_left q] at h2
    exact h p kd' d' h1 h2
  · rw [List.getElem?_append_right q] at h2
    have : p - cs.length = 0 := by
      cases z : p - cs.length with
      | zero => rfl
      | succ n => rw [z] at h2; simp at h2
    have hp : p = cs.length := by omega
    subst hp
    rw [e] at h1
    cases h1
    simp at h2
    subst h2
    exact ok
theorem rowPre_nil {ks : List Str} : RowPre ks [] := fun p kd d _ h => by simp at h
/-! a comprehension within a comprehension -/
def relab (scope sc : Scope) : Scope := { scope with names := scope.names.map fun (n, k) => if (k == NameKind.free && sc.kind == .function && sc.names.lookup n == some .cell) then (n, NameKind.cell) else (n, k) }
def lcScope : Expr → Scope
  | .ListComp _ _ s _ => s
  | _ => { kind := .function, names := [], isGenerator := false, isCoroutine := false }
def asgV : Stmt → Expr
  | .Assign _ v _ => v
  | .Return (some v) _ => v
  | .Expr v _ => v
  | _ => .Constant .none 0 ⟨0, 0, 0, 0⟩
def bodyAt (st : Stmt) (i : Nat) : Stmt := (defBody st).getD i (.Pass ⟨0, 0, 0, 0⟩)
def ColsOk (ks : List Str) (m : Nat) (cols : List D) : Prop := ∀ (p : Nat) (kd : Str) (d : D), ks[p]? = some kd → cols[p]? = some d → ∃ col, d = .lst col ∧ col.length = m ∧ ∀ x ∈ col, OkD kd x
theorem ColsOk.snoc {ks : List Str} {m : Nat} {cs : List D} {kd : Str} {col : List D} (h : ColsOk ks m cs) (e : ks[cs.length]? = some kd) (hl : col.length = m) (ok : ∀ x ∈ col, OkD kd x) : ColsOk ks m (cs ++ [.lst col]) := fun p kd' d' h1 h2 => by
  rcases Nat.lt_or_ge p cs.length with q | q
  · rw [List.getElem?_append_left q] at h2
    exact h p kd' d' h1 h2
  · rw [List.getElem?_append_right q] at h2
    have : p - cs.length = 0 := by
      cases z : p - cs.length with
      | zero => rfl
      | succ n => rw [z] at h2; simp at h2
    have hp : p = cs.length := by omega
    subst hp
    rw [e] at h1
    cases h1
    simp at h2
    subst h2
    exact ⟨col, rfl, hl, ok⟩
def colAt (i : Nat) : D → D
  | .lst col => (col[i]?).getD .non
  | _ => .non
theorem ColsOk.mem {ks : List Str} {m : Nat} {cols : List D} {d : D} (h : ColsOk ks m cols) (hl : cols.length = ks.length) (hd : d ∈ cols) : ∃ col, d = .lst col ∧ col.length = m := by
  obtain ⟨p, hp⟩ := List.getElem?_of_mem hd
  have hlt := (List.getElem?_eq_some_iff.mp hp).1
  obtain ⟨col, e, hc, _⟩ := h p (ks[p]'(by omega)) d (List.getElem?_eq_getElem _) hp
  exact ⟨col, e, hc⟩
theorem ColsOk.row {ks : List Str} {m i : Nat} {cols : List D} (h : ColsOk ks m cols) (hl : cols.length = ks.length) (hi : i < m) : RowOk ks (cols.map (colAt i)) := by
  refine ⟨by rw [List.length_map, hl], fun p kd d h1 h2 => ?_⟩
  rw [List.getElem?_map] at h2
  cases e : cols[p]? with
  | none => rw [e] at h2; cases h2
  | some c =>
    rw [e] at h2
    cases h2
    obtain ⟨col, rfl, hc, ok⟩ := h p kd c h1 e
    have hi' : i < col.length := by omega
    show OkD kd ((col[i]?).getD .non)
    rw [List.getElem?_eq_getElem hi']
    exact ok _ (List.getElem_mem hi')
theorem Rows.set {ks : List Str} {rs : List D} {n : Nat} {r : D} (h : Rows ks rs) (hr : r ∈ rs) : Rows ks (rs.set n r) := fun x hx => by
  rcases List.mem_or_eq_of_mem_set hx with z | z
  · exact h x z
  · rw [z]; exact h r hr
theorem at_mem {α : Type} {xs : List α} {i : Int} (h0 : 0 ≤ i) (h1 : i < xs.length) : ∃ x, atI xs i = some x ∧ x ∈ xs := by
  have hl : i.toNat < xs.length := by omega
  refine ⟨xs[i.toNat], ?_, List.getElem_mem hl⟩
  unfold atI
  rw [ix_ok h0 h1]
  exact List.getElem?_eq_getElem hl
end Dd

namespace Dd
open PySem L2 Pk
/-! ### x = {..}; x.update({..}) -/
section
variable {X : Cx} {c : Dc}
def rDupd : V → List V → Hp → VK → Prop := fun x xs H Q => ∃ (a e : Addr) (kvs more : List (Key × V)), x = .ref a ∧ xs = [.ref e] ∧ a ≠ e ∧ H a = some (.dK kvs) ∧ H e = some (.dK more) ∧ kvs.length + more.length ≤ 1000 ∧ Q .non (upd H a (.dK (mergeK kvs more)))
theorem RpK.append {K : PySem.W.Frag} {F : Hp} : ∀ {vs ws : List (Key × V)} {ds es : List (Key × D)}, RpK K F vs ds → RpK K F ws es → RpK K F (vs ++ ws) (ds ++ es)
  | _, _, _, _, .nil, q => q
  | _, _, _, _, .cons a r, q => .cons a (r.append q)
def kDu3 (i : Nat) (u : DS) (E : DEnds) (A : List Sl) (kds1 : List (Key × D)) : PK := fun kds2 b => ((kds1 ++ kds2).map (·.1)).Nodup ∧ kds2.length ≤ 15 ∧ u E (A.set i (.val (.dk (kds1 ++ kds2)))) b
def kDu2 (i : Nat) (drs2 : List (DE × DE)) (u : DS) (E : DEnds) (A : List Sl) : PK := fun kds1 b => i < A.length ∧ (kds1.map (·.1)).Nodup ∧ kds1.length ≤ 15 ∧ dPairs drs2 (A.set i .no) b (kDu3 i u E A kds1)
def dDu (i : Nat) (drs1 drs2 : List (DE × DE)) (u : DS) : DS := fun E A b => dPairs drs1 A b (kDu2 i drs2 u E A)
end
section
variable {A : List Sl} {b i : Nat} {E : DEnds} {u : DS} {drs1 drs2 : List (DE × DE)} {kds kds1 : List (Key × D)}
theorem q_du : dDu i drs1 drs2 u E A b = dPairs drs1 A b (kDu2 i drs2 u E A) := rfl
theorem q_kDu2 : kDu2 i drs2 u E A kds b = (i < A.length ∧ (kds.map (·.1)).Nodup ∧ kds.length ≤ 15 ∧ dPairs drs2 (A.set i .no) b (kDu3 i u E A kds)) := rfl
theorem q_kDu3 : kDu3 i u E A kds1 kds b = (((kds1 ++ kds).map (·.1)).Nodup ∧ kds.length ≤ 15 ∧ u E (A.set i (.val (.dk (kds1 ++ kds)))) b) := rfl
end
/-! ### is True, is False -/
section
variable {X : Cx} {c : Dc}
def fIsB : D2 := fun x y k => ∃ s t, x = .s (.bl s) ∧ y = .s (.bl t) ∧ k (.s (.bl (s == t)))
end
theorem q_isB {s t : Bool} {kr : Rs → Prop} : fIsB (.s (.bl s)) (.s (.bl t)) kr = kr (.s (.bl (s == t))) := propext ⟨fun ⟨_, _, e1, e2, h⟩ => by cases e1; cases e2; exact h, fun h => ⟨s, t, rfl, rfl, h⟩⟩
/-! ### a slice of a tuple, not the whole -/
def fSlT (x : Rs) (lo hi : Option Int) (k : Rs → Prop) : Prop := ∃ xs, x.d = .tup xs ∧ ¬ (HT.sIx xs.length 0 lo = 0 ∧ HT.sIx xs.length xs.length hi = xs.length) ∧ k (.s (.tup (cutD xs lo hi)))
def kSlT3 (x : Rs) (lo : Option Int) (k : DK) : Option Int → Nat → Prop := fun hi b => fSlT x lo hi (kOp3 k b)
def kSlT2 (x : Rs) (dh : DOp) (A : List Sl) (k : DK) : Option Int → Nat → Prop := fun lo b => dh A b (kSlT3 x lo k)
def kSlT1 (dl dh : DOp) (A : List Sl) (k : DK) : DK := fun x b => dl A b (kSlT2 x dh A k)
def dSlT (de : DE) (dl dh : DOp) : DE := fun A b k => de A b (kSlT1 dl dh A k)
theorem d_sliceT {X : Cx} {c : Dc} {e : Expr} {lo hi : Option Expr} {p2 pos : Pos} {de : DE} {dl dh : DOp} (hK : c.K = X.K) (he : PEd X c e de) (hl : POd X c lo dl) (hh : POd X c hi dh) : PEd X c (.Subscript e (.Slice lo hi none p2) pos) (dSlT de dl dh) :=
  let ⟨_, h1, l1⟩ := he
  let ⟨_, h2, l2⟩ := hl
  let ⟨_, h3, l3⟩ := hh
  ⟨_, pe_slice sl_tup h1 h2 h3, fun F σ H A b Q k rr h hk => l1 F σ H A b _ _ rr h fun x b1 v F1 H1 h1 g1 => l2 F1 σ H1 A b1 _ _ g1.rr h1 fun lo b2 F2 H2 h2 r2 e2 => l3 F2 σ H2 A b2 _ _ r2 h2 fun hi b3 F3 H3 h3 r3 e3 => by
    have ok := (g1.ok.ext e2).ext e3
    obtain ⟨xs, e, hn, h3⟩ := h3
    obtain ⟨p, vs, rfl, hp, q⟩ := ok.tup r3 e
    have hl := q.length
    exact ⟨p, vs, rfl, hK ▸ hp, by rw [hl]; exact hn, fun l hl => hk _ _ _ _ _ h3 ((((Got.tuple r3 hl (q.cut lo hi)).pre e3).pre e2).pre g1.e)⟩⟩
theorem q_slT {de : DE} {dl dh : DOp} {A : List Sl} {b : Nat} {k : DK} : dSlT de dl dh A b k = de A b (kSlT1 dl dh A k) := rfl
theorem q_kSlT1 {dl dh : DOp} {A : List Sl} {b : Nat} {k : DK} {x : Rs} : kSlT1 dl dh A k x b = dl A b (kSlT2 x dh A k) := rfl
theorem q_kSlT2 {dh : DOp} {A : List Sl} {b : Nat} {k : DK} {x : Rs} {lo : Option Int} : kSlT2 x dh A k lo b = dh A b (kSlT3 x lo k) := rfl
theorem q_kSlT3 {b : Nat} {k : DK} {xs : List D} {lo hi : Option Int} : kSlT3 (.s (.tup xs)) lo k hi b = (¬ (HT.sIx xs.length 0 lo = 0 ∧ HT.sIx xs.length xs.length hi = xs.length) ∧ k (.s (.tup (cutD xs lo hi))) b) := propext ⟨fun ⟨_, e, h⟩ => by cases e; exact h, fun h => ⟨xs, rfl, h⟩⟩
end Dd

namespace Dd
open PySem L2 Pk
/-! ### tests of cells, tests of rows -/
abbrev sS (s : String) : Str := Str.ofString s
def cmpI (w : Str) (i j : Int) : Bool := if w = sS "=" then decide (i = j) else if w = sS "<>" then !decide (i = j) else if w = sS "<" then decide (i < j) else if w = sS "<=" then decide (i ≤ j) else if w = sS ">" then decide (j < i) else decide (j ≤ i)
def cmpS (w : Str) (i j : Str) : Bool := if w = sS "=" then decide (i = j) else if w = sS "<>" then !decide (i = j) else if w = sS "<" then ltS i j else if w = sS "<=" then !ltS j i else if w = sS ">" then ltS j i else !ltS i j
def cmpD (w : Str) (x y : D) : Bool := match x, y with
  | .int i, .int j => cmpI w i j
  | .str i, .str j => cmpS w i j
  | _, _ => false
def isCmp (w : Str) : Prop := w = sS "=" ∨ w = sS "<>" ∨ w = sS "<" ∨ w = sS "<=" ∨ w = sS ">" ∨ w = sS ">="
inductive CT where
  | opn | sg (w : Str) (v : D) | amg (vs : List D) | amt (vs : List D)
def CT.d : CT → D
  | .opn => .tup [.str (sS "open")]
  | .sg w v => .tup [.str w, v]
  | .amg vs => .tup [.str (sS "among"), .lst vs]
  | .amt vs => .tup [.str (sS "among"), .tup vs]
def Kn (kd : Str) (d : D) : Prop := OkD kd d ∧ isN d = false
def CT.ok (kd : Str) : CT → Prop
  | .opn => True
  | .sg w v => isCmp w ∧ Kn kd v
  | .amg vs => vs.length ≤ 100 ∧ ∀ v ∈ vs, Kn kd v
  | .amt vs => vs.length ≤ 100 ∧ ∀ v ∈ vs, Kn kd v
def CT.ev (c : D) : CT → Bool
  | .opn => isN c
  | .sg w v => !isN c && cmpD w c v
  | .amg vs => !isN c && ind c vs
  | .amt vs => !isN c && ind c vs
inductive RT where
  | alw | cel (p : Nat) (t : CT) | cls (p : Nat) (w : Str) (q : Nat) | neg (a : RT) | both (a b : RT) | eith (a b : RT)
def RT.d : RT → D
  | .alw => .tup [.str (sS "always")]
  | .cel p t => .tup [.str (sS "cell"), .int p, t.d]
  | .cls p w q => .tup [.str (sS "cells"), .int p, .str w, .int q]
  | .neg a => .tup [.str (sS "not"), a.d]
  | .both a b => .tup [.str (sS "both"), a.d, b.d]
  | .eith a b => .tup [.str (sS "either"), a.d, b.d]
def RT.ok (ks : List Str) : RT → Prop
  | .alw => True
  | .cel p t => ∃ kd, ks[p]? = some kd ∧ isKd kd ∧ t.ok kd
  | .cls p w q => ∃ kd, ks[p]? = some kd ∧ ks[q]? = some kd ∧ isKd kd ∧ isCmp w
  | .neg a => a.ok ks
  | .both a b => a.ok ks ∧ b.ok ks
  | .eith a b => a.ok ks ∧ b.ok ks
def cellAt (row : List D) (p : Nat) : D := (row[p]?).getD .non
def RT.ev (row : List D) : RT → Bool
  | .alw => true
  | .cel p t => t.ev (cellAt row p)
  | .cls p w q => !isN (cellAt row q) && (CT.sg w (cellAt row q)).ev (cellAt row p)
  | .neg a => !a.ev row
  | .both a b => a.ev row && b.ev row
  | .eith a b => a.ev row || b.ev row
def RT.dp : RT → Nat
  | .neg a => a.dp + 1
  | .both a b => max a.dp b.dp + 1
  | .eith a b => max a.dp b.dp + 1
  | _ => 0
theorem Kn.cases {kd : Str} {d : D} (h : Kn kd d) : (kd = sNum ∧ ∃ n : Int, d = .int n ∧ n.natAbs < 10 ^ 18) ∨ (kd = sTxt ∧ ∃ t, d = .str t ∧ OkT t) := by
  rcases h.1 with rfl | h' | h'
  · cases h.2
  · exact .inl h'
  · exact .inr h'
theorem OkD.kn {kd : Str} {d : D} (h : OkD kd d) (n : isN d = false) : Kn kd d := ⟨h, n⟩
theorem Kn.flt {kd : Str} {d : D} (h : OkD kd d) : flt d = true := by
  rcases h with rfl | ⟨_, n, rfl, _⟩ | ⟨_, t, rfl, _⟩ <;> rfl
/-- two known cells of a kind -/
theorem Kn.two {kd : Str} {x y : D} (hx : Kn kd x) (hy : Kn kd y) : (∃ i j : Int, x = .int i ∧ y = .int j) ∨ ∃ s t : Str, x = .str s ∧ y = .str t := by
  rcases hx.cases with ⟨e, n, rfl, _⟩ | ⟨e, n, rfl, _⟩ <;> rcases hy.cases with ⟨e', m, rfl, _⟩ | ⟨e', m, rfl, _⟩
  · exact .inl ⟨_, _, rfl, rfl⟩
  · rw [e] at e'; exact absurd e' kd_ne
  · rw [e] at e'; exact absurd e'.symm kd_ne
  · exact .inr ⟨_, _, rfl, rfl⟩
/-! promises -/
def dsStands : DSp := fun args b k _ => ∃ (kd w : Str) (x y : D), args = [.val x, .val (.str w), .val y] ∧ isCmp w ∧ Kn kd x ∧ Kn kd y ∧ k (.s (.bl (cmpD w x y))) b
def dsMeets : DSp := fun args b k _ => ∃ (kd : Str) (x : D) (t : CT), args = [.val x, .val t.d] ∧ OkD kd x ∧ t.ok kd ∧ k (.s (.bl (t.ev x))) b
def dsCsso : DSp := fun args b k _ => ∃ (kd w : Str) (x y : D), args = [.val x, .val (.str w), .val y] ∧ isCmp w ∧ OkD kd x ∧ OkD kd y ∧ k (.s (.bl (!isN y && (CT.sg w y).ev x))) b
def dsRt (n : Nat) : DSp := fun args b k _ => ∃ (s : Sl) (row : List D) (t : RT) (ks : List Str), args = [s, .val t.d] ∧ SeqIs s row ∧ t.dp < n ∧ t.ok ks ∧ RowOk ks row ∧ k (.s (.bl (t.ev row))) b
def dsNear : DSp := fun args b k _ => ∃ (kd : Str) (s : Sl) (cs : List D), args = [.st, .val (.str kd), s] ∧ isKd kd ∧ SeqIs s cs ∧ cs.length ≤ 1000 ∧ (∀ d ∈ cs, OkD kd d) ∧ b + 100 < 100000000 ∧ ∀ (d : D) (b' : Nat), Kn kd d → b' ≤ b + 32 → k (.s d) b'
def dsCellTest : DSp := fun args b k _ => ∃ (kd : Str) (s : Sl) (cs : List D), args = [.st, .val (.str kd), s] ∧ isKd kd ∧ SeqIs s cs ∧ cs.length ≤ 1000 ∧ (∀ d ∈ cs, OkD kd d) ∧ b + 1000 < 100000000 ∧ ∀ (t : CT) (b' : Nat), t.ok kd → b' ≤ b + 500 → k (.s t.d) b'
def dsTest (n : Nat) : DSp := fun args b k _ => ∃ (ks : List Str) (cols : List D) (h m : Nat), args = [.st, .bb (ks.map D.str), .bb cols, .val (.int m)] ∧ Kinds ks ∧ cols.length = ks.length ∧ ColsOk ks h cols ∧ h ≤ 1000 ∧ m < n ∧ n ≤ 13 ∧ b + 1000 * 2 ^ m + 2000 < 100000000 ∧ ∀ (t : RT) (b' : Nat), t.ok ks → t.dp ≤ m → b' + 400 ≤ b + 1000 * 2 ^ m → k (.s t.d) b'
def dsHand (n : Nat) : DSp := fun args b k _ => ∃ d, args = [.val d] ∧ sam n d ∧ k (.s d) b
def dsShape : DSp := fun args b k _ => args = [.st] ∧ b + 100 < 100000000 ∧ ∀ (m : Nat) (l : Int) (b' : Nat), m ≤ 70 → b' ≤ b + 20 → k (.s (.tup [.int m, .int l])) b'
theorem kite {k : DK} {b : Nat} {c : Prop} [Decidable c] {x y : Bool} : k (.s (.bl (if c then x else y))) b = (if c then k (.s (.bl x)) b else k (.s (.bl y)) b) := by split <;> rfl
theorem isCmp.ne {w : Str} (h : isCmp w) : (¬ w = sS "open") ∧ ¬ w = sS "among" := by
  rcases h with rfl | rfl | rfl | rfl | rfl | rfl <;> constructor <;> decide +kernel
theorem kn_all {kd : Str} {vs : List D} (h : ∀ v ∈ vs, Kn kd v) : vs.all Dd.flt = true := List.all_eq_true.mpr fun v hv => Kn.flt (h v hv).1
theorem RowOk.at {ks : List Str} {row : List D} {p : Nat} {kd : Str} (h : RowOk ks row) (e : ks[p]? = some kd) : atI row (p : Int) = some (cellAt row p) ∧ OkD kd (cellAt row p) := by
  have hp : p < row.length := by rw [h.1]; exact (List.getElem?_eq_some_iff.mp e).1
  have he : row[p]? = some row[p] := List.getElem?_eq_getElem hp
  have ec : cellAt row p = row[p] := by unfold cellAt; rw [he]; rfl
  rw [ec]
  refine ⟨?_, h.2 p kd _ e he⟩
  unfold atI
  rw [ix_ok (by omega) (by omega)]
  exact he
theorem RowOk.pn {ks : List Str} {row : List D} (hr : RowOk ks row) : Pn 1 (.lst row) := Pn.lst fun x hx => by
  obtain ⟨p, hp⟩ := List.getElem?_of_mem hx
  have hlt := (List.getElem?_eq_some_iff.mp hp).1
  have h1 := hr.1
  exact (hr.2 p (ks[p]'(by omega)) x (List.getElem?_eq_getElem _) hp).pn
theorem okT_cut {z : Str} (hc : ∀ c ∈ z.cps.toList, okC c = true) {hi : Option Int} (hl : HT.sIx z.length z.length hi ≤ 20) : OkT (cutS z none hi) := by
  unfold cutS
  refine ⟨?_, fun c h => hc c ?_⟩
  · show (List.toArray _).size ≤ 20
    rw [List.size_toArray, List.length_take]
    omega
  · have h' : c ∈ (z.cps.toList.drop (HT.sIx z.length 0 none)).take (HT.sIx z.length z.length hi - HT.sIx z.length 0 none) := by simpa using h
    exact List.mem_of_mem_drop (List.mem_of_mem_take h')
theorem OkT.cut {t : Str} (h : OkT t) (hi : Option Int) : OkT (cutS t none hi) := okT_cut h.c (Nat.le_trans (HT.sIx_le _ _ (Nat.le_refl _) _) h.l)
theorem Kn.sam {kd : Str} {d : D} {n : Nat} (h : Kn kd d) : sam (n + 1) d := h.1.sam
theorem CT.sam {kd : Str} {t : CT} {n : Nat} (h : t.ok kd) : sam (n + 3) t.d := by
  cases t with
  | opn => exact ⟨by show 1 < 100000; decide, fun x hx => by simp at hx; subst hx; trivial⟩
  | sg w v => exact ⟨by show 2 < 100000; decide, fun x hx => by
      simp at hx
      rcases hx with rfl | rfl
      · trivial
      · exact h.2.sam⟩
  | amg vs => exact ⟨by show 2 < 100000; decide, fun x hx => by
      simp at hx
      rcases hx with rfl | rfl
      · trivial
      · exact ⟨by have := h.1; omega, fun v hv => (h.2 v hv).sam⟩⟩
  | amt vs => exact ⟨by show 2 < 100000; decide, fun x hx => by
      simp at hx
      rcases hx with rfl | rfl
      · trivial
      · exact ⟨by have := h.1; omega, fun v hv => (h.2 v hv).sam⟩⟩
theorem RT.sam {ks : List Str} : ∀ {t : RT} {n : Nat}, t.ok ks → t.dp + 4 ≤ n → Dd.sam n t.d
  | .alw, n + 1, _, _ => ⟨by show 1 < 100000; decide, fun x hx => by simp at hx; subst hx; cases n <;> first | trivial | omega⟩
  | .cel p ct, n + 4, h, _ => ⟨by show 3 < 100000; decide, fun x hx => by
      obtain ⟨kd, _, _, hc⟩ := h
      simp at hx
      rcases hx with rfl | rfl | rfl
      · trivial
      · trivial
      · exact CT.sam (n := n) hc⟩
  | .cls p w q, n + 2, h, _ => ⟨by show 4 < 100000; decide, fun x hx => by
      simp at hx
      rcases hx with rfl | rfl | rfl | rfl <;> trivial⟩
  | .neg a, n + 2, h, l => ⟨by show 2 < 100000; decide, fun x hx => by
      have l' : a.dp + 1 + 4 ≤ n + 2 := l
      simp at hx
      rcases hx with rfl | rfl
      · trivial
      · exact RT.sam (n := n + 1) (t := a) h (by omega)⟩
  | .both a b, n + 2, h, l => ⟨by show 3 < 100000; decide, fun x hx => by
      have l' : max a.dp b.dp + 1 + 4 ≤ n + 2 := l
      simp at hx
      rcases hx with rfl | rfl | rfl
      · trivial
      · exact RT.sam (n := n + 1) (t := a) h.1 (by omega)
      · exact RT.sam (n := n + 1) (t := b) h.2 (by omega)⟩
  | .eith a b, n + 2, h, l => ⟨by show 3 < 100000; decide, fun x hx => by
      have l' : max a.dp b.dp + 1 + 4 ≤ n + 2 := l
      simp at hx
      rcases hx with rfl | rfl | rfl
      · trivial
      · exact RT.sam (n := n + 1) (t := a) h.1 (by omega)
      · exact RT.sam (n := n + 1) (t := b) h.2 (by omega)⟩
theorem pn_str {s : Str} (h : PyData.strOk s = true) : Pn 0 (.str s) := ⟨rfl, by simp [py, PyData.canLay0, h], by simp [py, PyData.depth]⟩
theorem isCmp.pn {w : Str} (h : isCmp w) : Pn 0 (.str w) := by
  rcases h with rfl | rfl | rfl | rfl | rfl | rfl <;> exact pn_str (by decide +kernel)
theorem CT.pn {kd : Str} {t : CT} (h : t.ok kd) : Pn 2 t.d := by
  cases t with
  | opn => exact (Pn.tup (n := 0) fun x hx => by simp at hx; subst hx; exact pn_str (by decide +kernel)).mono (by decide)
  | sg w v => exact (Pn.tup (n := 0) fun x hx => by
      simp at hx
      rcases hx with rfl | rfl
      · exact h.1.pn
      · exact h.2.1.pn).mono (by decide)
  | amg vs => exact (Pn.tup (n := 1) fun x hx => by
      simp at hx
      rcases hx with rfl | rfl
      · exact (pn_str (by decide +kernel)).mono (by decide)
      · exact Pn.lst fun v hv => (h.2 v hv).1.pn)
  | amt vs => exact (Pn.tup (n := 1) fun x hx => by
      simp at hx
      rcases hx with rfl | rfl
      · exact (pn_str (by decide +kernel)).mono (by decide)
      · exact Pn.tup fun v hv => (h.2 v hv).1.pn)
theorem RT.pn {ks : List Str} : ∀ {t : RT}, t.ok ks → Pn (t.dp + 3) t.d
  | .alw, _ => (Pn.tup (n := 0) fun x hx => by simp at hx; subst hx; exact pn_str (by decide +kernel)).mono (by decide)
  | .cel p ct, h => Pn.tup (n := 2) fun x hx => by
      obtain ⟨kd, _, _, hc⟩ := h
      simp at hx
      rcases hx with rfl | rfl | rfl
      · exact (pn_str (by decide +kernel)).mono (by decide)
      · exact pn_int.mono (by decide)
      · exact CT.pn hc
  | .cls p w q, h => (Pn.tup (n := 0) fun x hx => by
      obtain ⟨kd, _, _, _, hw⟩ := h
      simp at hx
      rcases hx with rfl | rfl | rfl | rfl
      · exact pn_str (by decide +kernel)
      · exact pn_int
      · exact hw.pn
      · exact pn_int).mono (by show 1 ≤ _; omega)
  | .neg a, h => (Pn.tup (n := a.dp + 3) fun x hx => by
      simp at hx
      rcases hx with rfl | rfl
      · exact (pn_str (by decide +kernel)).mono (by omega)
      · exact RT.pn (t := a) h).mono (by show a.dp + 3 + 1 ≤ a.dp + 1 + 3; omega)
  | .both a b, h => (Pn.tup (n := max a.dp b.dp + 3) fun x hx => by
      simp at hx
      rcases hx with rfl | rfl | rfl
      · exact (pn_str (by decide +kernel)).mono (by omega)
      · exact (RT.pn (t := a) h.1).mono (by omega)
      · exact (RT.pn (t := b) h.2).mono (by omega)).mono (by show max a.dp b.dp + 3 + 1 ≤ max a.dp b.dp + 1 + 3; omega)
  | .eith a b, h => (Pn.tup (n := max a.dp b.dp + 3) fun x hx => by
      simp at hx
      rcases hx with rfl | rfl | rfl
      · exact (pn_str (by decide +kernel)).mono (by omega)
      · exact (RT.pn (t := a) h.1).mono (by omega)
      · exact (RT.pn (t := b) h.2).mono (by omega)).mono (by show max a.dp b.dp + 3 + 1 ≤ max a.dp b.dp + 1 + 3; omega)
end Dd

namespace Dd
open PySem L2 Pk
/-! ### str() of a list or a tuple -/
section
variable {X : Cx} {c : Dc}
def rStrD (K : PySem.W.Frag) : List V → Hp → VK → Prop := fun vs H Q => ∃ (a : Addr) (d : PyData), vs = [.ref a] ∧ Dp K H (.ref a) d ∧ d.showable = true ∧ d.hasDict = false ∧ d.depth ≤ 50 ∧ d.shown.length ≤ sizeLine ∧ Q (.str d.shown) H
/-- data that can be told by str() -/
def Shw (d : D) : Prop := pl d = true ∧ (py d).showable = true ∧ (py d).hasDict = false ∧ (py d).depth ≤ 50 ∧ (py d).shown.length ≤ sizeLine
def fStrD : DC := fun rs k => ∃ r xs, rs = [r] ∧ (r.d = .lst xs ∨ r.d = .tup xs) ∧ r ≠ .g ∧ Shw r.d ∧ k (.s (.str (py r.d).shown))
end
theorem q_strT {xs : List D} {kr : Rs → Prop} : fStrD [.s (.tup xs)] kr = (Shw (.tup xs) ∧ kr (.s (.str (py (.tup xs)).shown))) := propext ⟨fun ⟨_, _, e, _, _, h1, h2⟩ => by cases e; exact ⟨h1, h2⟩, fun ⟨h1, h2⟩ => ⟨_, xs, rfl, .inr rfl, by simp, h1, h2⟩⟩
/-! what may be told -/
/-- of so many levels and so much weight -/
def ShN (n w : Nat) (d : D) : Prop := pl d = true ∧ (py d).showable = true ∧ (py d).hasDict = false ∧ (py d).depth ≤ n ∧ (py d).leavesShort 20 = true ∧ (py d).weight ≤ w
theorem shns {n w : Nat} : ∀ {xs : List D}, (∀ x ∈ xs, ShN n w x) → pls xs = true ∧ PyData.showableAll (pys xs) = true ∧ PyData.hasDictAll (pys xs) = false ∧ PyData.depthAll (pys xs) ≤ n ∧ PyData.leavesShortAll 20 (pys xs) = true ∧ PyData.weightAll (pys xs) ≤ xs.length * (w + 1)
  | [], _ => ⟨rfl, rfl, rfl, Nat.zero_le _, rfl, Nat.zero_le _⟩
  | x :: xs, h => by
    obtain ⟨h1, h2, h3, h4, h5, h6⟩ := h x (by simp)
    obtain ⟨g1, g2, g3, g4, g5, g6⟩ := shns fun y hy => h y (List.mem_cons_of_mem _ hy)
    refine ⟨by unfold pls; rw [h1, g1]; rfl, by unfold pys PyData.showableAll; rw [h2, g2]; rfl, by unfold pys PyData.hasDictAll; rw [h3, g3]; rfl, ?_, by unfold pys PyData.leavesShortAll; rw [h5, g5]; rfl, ?_⟩
    · unfold pys PyData.depthAll; exact Nat.max_le.mpr ⟨h4, g4⟩
    · unfold pys PyData.weightAll
      rw [List.length_cons, Nat.add_mul]
      omega
theorem ShN.tup {n w : Nat} {xs : List D} (h : ∀ x ∈ xs, ShN n w x) : ShN (n + 1) (xs.length * (w + 1)) (.tup xs) := by
  obtain ⟨h1, h2, h3, h4, h5, h6⟩ := shns h
  refine ⟨by unfold pl; exact h1, by unfold py PyData.showable; exact h2, by unfold py PyData.hasDict; exact h3, ?_, by unfold py PyData.leavesShort; exact h5, by unfold py PyData.weight; exact h6⟩
  unfold py PyData.depth; omega
theorem ShN.lst {n w : Nat} {xs : List D} (h : ∀ x ∈ xs, ShN n w x) : ShN (n + 1) (xs.length * (w + 1)) (.lst xs) := by
  obtain ⟨h1, h2, h3, h4, h5, h6⟩ := shns h
  refine ⟨by unfold pl; exact h1, by unfold py PyData.showable; exact h2, by unfold py PyData.hasDict; exact h3, ?_, by unfold py PyData.leavesShort; exact h5, by unfold py PyData.weight; exact h6⟩
  unfold py PyData.depth; omega
theorem ShN.mono {n m w v : Nat} {d : D} (h : ShN n w d) (l : n ≤ m) (l' : w ≤ v) : ShN m v d := by
  obtain ⟨h1, h2, h3, h4, h5, h6⟩ := h
  exact ⟨h1, h2, h3, by omega, h5, by omega⟩
theorem shn_str {s : Str} (h : ∀ c ∈ s.cps.toList, c < 16 ^ 8) {w : Nat} (hw : s.length ≤ w) : ShN 0 w (.str s) := ⟨rfl, rfl, rfl, by simp [py, PyData.depth], by unfold py PyData.leavesShort; rw [List.all_eq_true]; exact fun c hc => decide_eq_true (h c hc), hw⟩
theorem shn_len {i : Int} (h : i.natAbs < 10 ^ 18) : (PyData.shown (.int i)).length ≤ 19 := by
  have e := int_text_length_le10 (k := 18) (by decide) h
  show (Str.ofString (toString i)).length ≤ 19
  rw [PySem.ofString_length]
  exact e
theorem shn_int {i : Int} (h : i.natAbs < 10 ^ 18) : ShN 0 64 (.int i) := by
  have hlog : i.natAbs.log2 < 60 := by
    by_cases e : i.natAbs = 0
    · rw [e]; decide
    · exact (Nat.log2_lt e).mpr (Nat.lt_trans h (by decide))
  refine ⟨rfl, by unfold py PyData.showable; exact decide_eq_true (by omega), rfl, by simp [py, PyData.depth], ?_, ?_⟩
  · unfold py PyData.leavesShort
    exact decide_eq_true (Nat.le_trans (shn_len h) (by decide))
  · unfold py PyData.weight
    split <;> omega
theorem OkD.shn {kd : Str} {d : D} (h : OkD kd d) : ShN 0 64 d := by
  rcases h with rfl | ⟨_, n, rfl, hn⟩ | ⟨_, t, rfl, ht⟩
  · exact ⟨rfl, rfl, rfl, by simp [py, PyData.depth], rfl, by simp [py, PyData.weight]⟩
  · exact shn_int hn
  · refine shn_str (fun c hc => ?_) (by have := ht.l; omega)
    have := ht.c c hc
    unfold okC at this
    simp only [Bool.and_eq_true, decide_eq_true_eq] at this
    omega
end Dd

namespace Dd
open PySem L2 Pk
/-! ### dicts that stay and are walked: locked ones -/
def keyDt : Key → D
  | .inl i => .int i
  | .inr s => .str s
theorem keyDt_rp {K : PySem.W.Frag} {F : Hp} (k : Key) : Rp K F (kV k) (keyDt k) := by
  cases k with
  | inl i => exact .int i
  | inr s => exact .str s
theorem upd_twice {H : Hp} {p : Addr} {x y : HO} : upd (upd H p x) p y = upd H p y := by
  funext a
  by_cases e : a = p
  · subst e; rw [upd_same, upd_same]
  · rw [upd_ne e, upd_ne e, upd_ne e]
section
variable {X : Cx} {c : Dc}
def tLockD (t : TE) : TE := fun σ H Q => t σ H fun v H1 => ∃ a kvs, v = .ref a ∧ H1 a = some (.dK kvs) ∧ ∀ o, Q v (upd H1 a (.frz o (.dK kvs)))
theorem pe_lockD {e : Expr} {t : TE} (h : PE X e t) : PE X e (tLockD t) := fun pins s σ H Q I q =>
  thn (h pins s σ H _ I q) fun u s1 ⟨x, H1, I1, rx, a, kvs, ex, hd, q1⟩ =>
    let ⟨od, I2⟩ := I1.lock hd True.intro
    ⟨x, _, I2, rx, q1 od⟩
def kDispL (k : DK) : PK := fun kds b => (kds.map (·.1)).Nodup ∧ kds.length ≤ 15 ∧ k (.s (.dl kds)) b
def dDispL (drs : List (DE × DE)) : DE := fun A b k => dPairs drs A b (kDispL k)
theorem q_displ {drs : List (DE × DE)} {A : List Sl} {b : Nat} {k : DK} : dDispL drs A b k = dPairs drs A b (kDispL k) := rfl
theorem q_kDispL {k : DK} {kds : List (Key × D)} {b : Nat} : kDispL k kds b = ((kds.map (·.1)).Nodup ∧ kds.length ≤ 15 ∧ k (.s (.dl kds)) b) := rfl
/-- a locked dict, new -/
theorem got_dl {F H : Hp} {σ : L2.St} {A : List Sl} {b : Nat} {p : Addr} {o : Obj} {kvs : List (Key × V)} {kds : List (Key × D)} (rr : R c F σ H A b) (hp : H p = none) (q : RpK c.K F kvs kds) :
    Got c F H σ A (upd F p (.frz o (.dK kvs))) (upd H p (.frz o (.dK kvs))) b (.ref p) (.s (.dl kds)) :=
  have z := rr.allocF (o := .frz o (.dK kvs)) hp
  ⟨z.2, z.1, .dl upd_same (q.mono z.1.f), fun _ _ z => by cases z⟩
theorem d_displ {pos : Pos} {keys : List (Option Expr)} {values : List Expr} {drs : List (DE × DE)} (h : PPd X c pos keys values drs) (hall : keys.all (·.isSome) = true := by rfl) (hl : keys.length = values.length := by rfl) (h0 : keys ≠ [] := by decide) (h15 : keys.length ≤ 15 := by decide) : PEd X c (.Dict keys values pos) (dDispL drs) :=
  let ⟨_, h1, l1⟩ := h
  ⟨_, pe_lockD (pe_disp h1 hall hl h0 h15), fun F σ H A b Q k rr h hk p hp => by
    have hF : F p = none := by
      cases q : F p with
      | none => rfl
      | some u => have := off_sub (rr.sub p u q); rw [hp] at this; cases this
    have hB : c.B p = none := by
      cases q : c.B p with
      | none => rfl
      | some u => have := off_sub (rr.bsub p u q); rw [hp] at this; cases this
    obtain ⟨e0, r0⟩ := rr.alloc (o := .dK []) hp
    refine l1 F σ _ A b _ _ r0 h fun kds b' kvs F' H' hh r' e' q' => ?_
    obtain ⟨nd, hz, hh⟩ := hh
    have o0 : off c.G (upd H p (.dK [])) p = some (.dK []) := by rw [off_new rr.st hp, upd_same]
    have o1 := e'.h p _ o0
    have hF' : F' p = none := e'.keep hF o0
    have hlen : kvs.length = kds.length := by
      have := congrArg List.length q'.keys
      simpa using this
    have em : mergeK [] kvs = kvs := by
      rw [merge_nodup (by rw [List.nil_append, q'.keys]; exact nd)]
      rfl
    refine ⟨off_sub o1, kvs, rfl, by omega, p, kvs, rfl, by rw [em, upd_same], fun o => ?_⟩
    rw [em, upd_twice]
    have r2 := r'.mutX (o := .frz o (.dK kvs)) o1 hF' hB
    have o2 : off c.G (upd H' p (.frz o (.dK kvs))) p = some (.frz o (.dK kvs)) := by rw [off_mut o1, upd_same]
    have r3 := r2.stay hF' hB o2 (fun i xs ha hx => by
      obtain ⟨p', vs, hy, _, _, h3, _⟩ := r2.sl i _ ha
      rw [hx] at hy
      cases hy
      rw [o2] at h3
      cases h3)
    have m : Sub F' (upd F' p (.frz o (.dK kvs))) := fun a u z => by rw [upd_ne (ne_of_none z hF')]; exact z
    refine hk _ _ (.ref p) (upd F' p (.frz o (.dK kvs))) _ hh ⟨r3, ⟨fun a u z => m a u (e'.f a u z), fun a u z => ?_, fun a u z => ?_⟩, .dl upd_same (q'.mono m), fun _ _ z => by cases z⟩
    · have hne : a ≠ p := ne_of_none (off_sub z) hp
      rw [off_mut o1, upd_ne hne]
      exact e'.h a u (by rw [off_new rr.st hp, upd_ne hne]; exact z)
    · by_cases e : a = p
      · subst e; exact .inr (off_none hp)
      · rw [upd_ne e] at z
        rcases e'.n a u z with y | y
        · exact .inl y
        · rw [off_new rr.st hp, upd_ne e] at y
          exact .inr y⟩
/-! d[k] -/
def fDl : D2 := fun x y k => ∃ kds key d, x = .s (.dl kds) ∧ keyD y = some key ∧ valD kds key = some d ∧ k (.s d)
theorem d_dgetL {o i : Expr} {pos : Pos} {da db : DE} (hu : X.A.units + 1 < cLine) (hs : NoSl i) (ha : PEd X c o da) (hb : PEd X c i db) : PEd X c (.Subscript o i pos) (dOp fDl da db) :=
  let ⟨_, h1, l1⟩ := ha
  let ⟨_, h2, l2⟩ := hb
  ⟨_, pe_dget hu h1 h2 hs, fun F σ H A b Q k rr h hk => l1 F σ H A b _ _ rr h fun x b1 vx F1 H1 hx g1 => l2 F1 σ H1 A b1 _ _ g1.rr hx fun y b2 vy F2 H2 hy g2 => by
    obtain ⟨kds, key, d, rfl, ek, ev, hy⟩ := hy
    have o1 : Rp c.K F1 vx (.dl kds) := g1.ok
    cases o1 with
    | dl hF q =>
      obtain ⟨v, e1, rv⟩ := (q.mono g2.e.f).val ev
      refine ⟨_, v, rfl, .inl ⟨_, key, .inr ⟨_, off_sub (g2.rr.sub _ _ (g2.e.f _ _ hF))⟩, keyD_v g2.ok ek, e1.symm⟩, hk _ _ _ _ _ hy (((Got.still g2.rr rv).pre g2.e).pre g1.e)⟩⟩
theorem q_dgetl {kds : List (Key × D)} {s : Str} {kr : Rs → Prop} : fDl (.s (.dl kds)) (.s (.str s)) kr = ∃ d, valD kds (.inr s) = some d ∧ kr (.s d) := propext ⟨fun ⟨_, _, d, e1, e2, e3, h⟩ => by cases e1; cases e2; exact ⟨d, e3, h⟩, fun ⟨d, h1, h2⟩ => ⟨_, _, d, rfl, rfl, h1, h2⟩⟩
/-! for k in d -/
theorem RpK.len {K : PySem.W.Frag} {F : Hp} {kvs : List (Key × V)} {kds : List (Key × D)} (q : RpK K F kvs kds) : kvs.length = kds.length := by
  have := congrArg List.length q.keys
  simpa using this
def dKeysL (de : DE) : DI := fun A b k => de A b fun r b1 => ∃ kds, r = .s (.dl kds) ∧ k (kds.map fun kd => keyDt kd.1) b1
theorem jx_keys {F W : Hp} {d : Addr} {o : Obj} {kvs : List (Key × V)} {kds : List (Key × D)} (hF : F d = some (.frz o (.dK kvs))) (q : RpK c.K F kvs kds) : JX c (Itk d o kvs) F W (kds.map fun kd => keyDt kd.1) := by
  intro F' H' b' h1 h2 h3 h4 i
  have e : H' d = some (.frz o (.dK kvs)) := off_sub (h2 _ _ (h1 _ _ hF))
  have hl := q.len
  refine ⟨fun x hx => ?_, fun hi => ⟨e, by rw [List.length_map] at hi; omega⟩⟩
  rw [List.getElem?_map] at hx
  cases hk : kds[i]? with
  | none => rw [hk] at hx; cases hx
  | some kd =>
    rw [hk] at hx
    cases hx
    have hi := (List.getElem?_eq_some_iff.mp hk).1
    refine ⟨⟨e, by omega⟩, fun y H2 ⟨e2, k, v, e3, e4⟩ => ?_⟩
    subst e2 e4
    have z := congrArg (fun l => l[i]?) q.keys
    simp only [List.getElem?_map, e3, hk, Option.map_some, Option.some.injEq] at z
    subst z
    exact ⟨F', .refl, h2, h4, keyDt_rp _⟩
theorem i_keysL {tg e : Expr} {de : DE} (he : PEd X c e de) : PId X c tg e (dKeysL de) :=
  let ⟨_, h1, l1⟩ := he
  ⟨_, pi_keys h1, fun F σ H A b Q k rr h hk => l1 F σ H A b _ _ rr h fun r b1 v F1 H1 ⟨kds, e, h1⟩ g1 => by
    subst e
    have ok : Rp c.K F1 v (.dl kds) := g1.ok
    cases ok with
    | dl hF q => exact ⟨_, _, rfl, .inl ⟨_, off_sub (g1.rr.sub _ _ hF), hk _ _ _ _ _ h1 g1.rr g1.e (jx_keys hF q)⟩⟩⟩
def kKeysL (k : IK) : DK := fun r b1 => ∃ kds, r = .s (.dl kds) ∧ k (kds.map fun kd => keyDt kd.1) b1
theorem q_keysL {de : DE} {A : List Sl} {b : Nat} {k : IK} : dKeysL de A b k = de A b (kKeysL k) := rfl
theorem q_kKeysL {kds : List (Key × D)} {k : IK} {b : Nat} : kKeysL k (.s (.dl kds)) b = k (kds.map fun kd => keyDt kd.1) b := propext ⟨fun ⟨_, e, h⟩ => by cases e; exact h, fun h => ⟨_, rfl, h⟩⟩
/-! dict([(k, v), ..]) -/
def rDictL (K : PySem.W.Frag) : List V → Hp → VK → Prop := fun xs H Q => ∃ (a : Addr) (ps : List Addr) (kvs : List (Key × V)), xs = [.ref a] ∧ SqL K H a (ps.map V.ref) ∧ Paired (fun p kv => SqT K H p [kV kv.1, kv.2]) ps kvs ∧ ∀ p o, H p = none → Q (.ref p) (upd H p (.frz o (.dK (mergeK [] kvs))))
theorem cr_dictL (hcalm : X.calm = true) : CallR X (.type "dict") (rDictL X.K) := by
  intro pins s σ H xs us Q I r ⟨a, ps, kvs, ex, hq, hp, q⟩
  refine thn (call_dictP hcalm pins s σ H xs us (fun v H1 => ∃ p, v = .ref p ∧ H p = none ∧ H1 = upd H p (.dK (mergeK [] kvs))) I r ⟨a, ps, kvs, ex, hq, hp, fun p hp => ⟨p, rfl, hp, rfl⟩⟩) fun u s1 ⟨x, H1, I1, rx, p, e1, hpn, e2⟩ => ?_
  subst e1 e2
  obtain ⟨o, I2⟩ := I1.lock upd_same True.intro
  refine ⟨_, _, I2, rx, ?_⟩
  rw [upd_twice]
  exact q p o hpn
def pairD (kd : Key × D) : D := .tup [keyDt kd.1, kd.2]
def fDictL : DC := fun rs k => ∃ kds, rs = [.s (.lst (kds.map pairD))] ∧ (kds.map (·.1)).Nodup ∧ k (.s (.dl kds))
theorem key_rp {K : PySem.W.Frag} {F : Hp} {v : V} {k : Key} (h : Rp K F v (keyDt k)) : v = kV k := by
  cases k with
  | inl i => cases h; rfl
  | inr s => cases h; rfl
theorem pairs_rp {K : PySem.W.Frag} {F H : Hp} (sub : Sub F H) : ∀ {kds : List (Key × D)} {ws : List V}, RpA K F ws (kds.map pairD) → ∃ (ps : List Addr) (kvs : List (Key × V)), ws = ps.map V.ref ∧ Paired (fun p kv => SqT K H p [kV kv.1, kv.2]) ps kvs ∧ RpK K F kvs kds
  | [], _, .nil => ⟨[], [], rfl, .nil, .nil⟩
  | (k, d) :: r, _, .cons (v := v) a q => by
    obtain ⟨ps, kvs, rfl, h1, h2⟩ := pairs_rp sub q
    have a' : Rp K F v (.tup [keyDt k, d]) := a
    cases a' with
    | tup e q2 =>
      cases q2 with
      | cons r1 q3 =>
        cases q3 with
        | cons r2 q4 =>
          cases q4
          cases key_rp r1
          exact ⟨_ :: ps, (k, _) :: kvs, rfl, .cons (SqT.of (sub _ _ e)) h1, .cons r2 h2⟩
theorem lc_dictL : Lc c (rDictL c.K) fDictL := by
  rintro F σ H A b vs rs Q k rr ha ⟨kds, rfl, nd, hf⟩ hk
  obtain ⟨v, rfl, hv⟩ := ha.one
  have hv' : Rp c.K F v (.lst (kds.map pairD)) := hv
  have sub : Sub F H := fun a o z => off_sub (rr.sub a o z)
  cases hv' with
  | lst e ra =>
  obtain ⟨ps, kvs, rfl, hp, q⟩ := pairs_rp sub ra
  refine ⟨_, ps, kvs, rfl, SqL.of (sub _ _ e), hp, fun a o hn => ?_⟩
  have em : mergeK [] kvs = kvs := by
    rw [merge_nodup (by rw [List.nil_append, q.keys]; exact nd)]
    rfl
  rw [em]
  exact hk _ _ _ _ hf (got_dl rr hn q)
theorem k_dictL (hcalm : X.calm = true) (hK : c.K = X.K) : CbOk X c (.type "dict") fDictL := ⟨_, cr_dictL hcalm, hK ▸ lc_dictL⟩
theorem q_dictL {ds : List D} {k : Rs → Prop} : fDictL [.s (.lst ds)] k = ∃ kds, ds = kds.map pairD ∧ (kds.map (·.1)).Nodup ∧ k (.s (.dl kds)) := propext ⟨fun ⟨kds, e, h⟩ => by cases e; exact ⟨kds, rfl, h⟩, fun ⟨kds, e, h⟩ => ⟨kds, by rw [e], h⟩⟩
end
end Dd

namespace Dd
open PySem L2 Pk
/-! ### str() of what has dicts in it: each dict is known not to be the modules' one -/
mutual
inductive RdZ (h : Heap) : Value → PyData → Prop
  | non : RdZ h .none .none
  | bl (b : Bool) : RdZ h (.bool b) (.bool b)
  | int (i : Int) (t : Tok) : RdZ h (.int i t) (.int i)
  | str (x : Str) (t : Tok) : RdZ h (.str x t) (.str x)
  | lst {a : Addr} {o : Obj} {vs : Array Value} {n : Nat} {xs : List PyData} : h.get? a = some o → o.cls = .type "list" → o.data = .seq vs n → RdZs h vs.toList xs → RdZ h (.ref a) (.list xs)
  | tup {a : Addr} {o : Obj} {vs : Array Value} {n : Nat} {xs : List PyData} : h.get? a = some o → o.cls = .type "tuple" → o.data = .seq vs n → RdZs h vs.toList xs → RdZ h (.ref a) (.tuple xs)
  | dct {a : Addr} {o : Obj} {es : Array DictEntry} {n : Nat} {ps : List (PyData × PyData)} : (a == sysModules) = false → h.get? a = some o → o.cls = .type "dict" → o.data = .dict es n → RdZs h (es.toList.map (·.key)) (ps.map (·.1)) → RdZs h (es.toList.map (·.val)) (ps.map (·.2)) → RdZ h (.ref a) (.dict ps)
inductive RdZs (h : Heap) : List Value → List PyData → Prop
  | nil : RdZs h [] []
  | cons {v : Value} {vs : List Value} {d : PyData} {ds : List PyData} : RdZ h v d → RdZs h vs ds → RdZs h (v :: vs) (d :: ds)
end
mutual
theorem RdZ.rd {h : Heap} : ∀ {v : Value} {d : PyData}, RdZ h v d → ∃ as, Reads h v d as
  | _, _, .non => ⟨_, .none⟩
  | _, _, .bl b => ⟨_, .bool b⟩
  | _, _, .int i t => ⟨_, .int i t⟩
  | _, _, .str x t => ⟨_, .str x t⟩
  | _, _, .lst e1 e2 e3 q => let ⟨_, z⟩ := RdZs.rd q; ⟨_, .list e1 e2 e3 z⟩
  | _, _, .tup e1 e2 e3 q => let ⟨_, z⟩ := RdZs.rd q; ⟨_, .tuple e1 e2 e3 z⟩
  | _, _, .dct _ e1 e2 e3 q q' => let ⟨_, z⟩ := RdZs.rd q; let ⟨_, z'⟩ := RdZs.rd q'; ⟨_, .dict e1 e2 e3 z z'⟩
theorem RdZs.rd {h : Heap} : ∀ {vs : List Value} {ds : List PyData}, RdZs h vs ds → ∃ as, ReadsAll h vs ds as
  | _, _, .nil => ⟨_, .nil⟩
  | _, _, .cons q r => let ⟨_, z⟩ := RdZ.rd q; let ⟨_, z'⟩ := RdZs.rd r; ⟨_, .cons z z'⟩
end
section
variable {P : Program} {w : World} {h : Heap}
mutual
theorem RdZ.sh : ∀ {v : Value} {d : PyData}, RdZ h v d → d.showable = true → d.shown.length ≤ sizeLine → ∃ B, ReadAtMost h d.depth B ∧ ReprK P w B h d.depth v d.shown
  | _, _, .non, s, z => ReprK.of_reads .none s (PyData.noDict_hsm rfl) z
  | _, _, .bl b, s, z => ReprK.of_reads (.bool b) s (PyData.noDict_hsm rfl) z
  | _, _, .int i t, s, z => ReprK.of_reads (.int i t) s (PyData.noDict_hsm rfl) z
  | _, _, .str x t, s, z => ReprK.of_reads (.str x t) s (PyData.noDict_hsm rfl) z
  | _, _, .lst (a := p) (vs := us) (xs := ys) e1 e2 e3 q, s, z => by
    have zt : (listText (PyData.shownAll ys)).length ≤ sizeLine := by simpa only [PyData.shown] using z
    obtain ⟨B, b1, b2⟩ := RdZs.sh q (by simpa [PyData.showable] using s) fun t ht => Nat.le_trans (listText_mem_le ht) zt
    obtain ⟨_, rl⟩ := RdZ.rd (.lst e1 e2 e3 q)
    have up : PyData.depthAll ys < (PyData.list ys).depth := by simp only [PyData.depth]; omega
    have nin := not_mem_of_deeper rl up b1
    refine ⟨p :: B, b1.cons rl (Nat.le_of_lt up), ?_⟩
    simp only [PyData.depth, PyData.shown]
    obtain ⟨us⟩ := us
    match us, q, e3, b2 with
    | [], q, e3, _ =>
      have q0 : RdZs h [] ys := q
      cases q0
      simp only [PyData.shownAll, listText_nil]
      exact .listEmpty e1 e2 e3
    | y :: us, _, e3, b2 => exact .list e1 e2 e3 nin (by simpa using b2.length_eq) fun i u e => b2.item i u (by simpa using e)
  | _, _, .tup (a := p) (vs := us) (xs := ys) e1 e2 e3 q, s, z => by
    have zt : (tupleText (PyData.shownAll ys)).length ≤ sizeLine := by simpa only [PyData.shown] using z
    obtain ⟨B, b1, b2⟩ := RdZs.sh q (by simpa [PyData.showable] using s) fun t ht => Nat.le_trans (tupleText_mem_le ht) zt
    obtain ⟨_, rl⟩ := RdZ.rd (.tup e1 e2 e3 q)
    have up : PyData.depthAll ys < (PyData.tuple ys).depth := by simp only [PyData.depth]; omega
    have nin := not_mem_of_deeper rl up b1
    refine ⟨p :: B, b1.cons rl (Nat.le_of_lt up), ?_⟩
    simp only [PyData.depth, PyData.shown]
    exact .tuple e1 e2 e3 nin b2
  | _, _, .dct (a := p) (es := en) (ps := ps) ns e1 e2 e3 q q', s, z => by
    have zt : (dictText (PyData.shownKv ps)).length ≤ sizeLine := by simpa only [PyData.shown] using z
    obtain ⟨sk, sv⟩ := PyData.showableKv_split ps (by simpa [PyData.showable] using s)
    obtain ⟨B, b1, b2⟩ := RdZs.sh q sk fun t ht => by
      obtain ⟨y, hy, l⟩ := PyData.shownKv_key_le ps t ht
      exact Nat.le_trans l (Nat.le_trans (dictText_mem_le hy) zt)
    obtain ⟨C, c1, c2⟩ := RdZs.sh q' sv fun t ht => by
      obtain ⟨y, hy, l⟩ := PyData.shownKv_val_le ps t ht
      exact Nat.le_trans l (Nat.le_trans (dictText_mem_le hy) zt)
    obtain ⟨_, rl⟩ := RdZ.rd (.dct ns e1 e2 e3 q q')
    have dk := PyData.depthAll_keys_le ps
    have dv := PyData.depthAll_vals_le ps
    have bb := (b1.mono dk).append (c1.mono dv)
    have up : PyData.depthKv ps < (PyData.dict ps).depth := by simp only [PyData.depth]; omega
    have nin := not_mem_of_deeper rl up bb
    refine ⟨p :: (B ++ C), bb.cons rl (Nat.le_of_lt up), ?_⟩
    simp only [PyData.depth, PyData.shown, PyData.shownKv_eq]
    have k2 := b2.more_le (as' := B ++ C) (fun x hx => List.mem_append.mpr (.inl hx)) dk
    have v2 := c2.more_le (as' := B ++ C) (fun x hx => List.mem_append.mpr (.inr hx)) dv
    exact .dict e1 e2 e3 ns nin (.of_two en.toList _ _ k2 v2)
theorem RdZs.sh : ∀ {vs : List Value} {ds : List PyData}, RdZs h vs ds → PyData.showableAll ds = true → (∀ t ∈ PyData.shownAll ds, t.length ≤ sizeLine) → ∃ B, ReadAtMost h (PyData.depthAll ds) B ∧ ReprAllK P w B h (PyData.depthAll ds) vs (PyData.shownAll ds)
  | _, _, .nil, _, _ => ⟨[], ⟨(fun _ z => nomatch z), (by simp only [PyData.shownAll]; exact .nil)⟩⟩
  | _, _, .cons (d := d) (ds := ds) q r, s, z => by
    have s2 : d.showable = true ∧ PyData.showableAll ds = true := by simpa [PyData.showableAll] using s
    obtain ⟨B, b1, b2⟩ := RdZ.sh q s2.1 (z _ (by simp only [PyData.shownAll]; simp))
    obtain ⟨C, c1, c2⟩ := RdZs.sh r s2.2 fun t ht => z t (by simp only [PyData.shownAll]; simp [ht])
    have m1 : d.depth ≤ PyData.depthAll (d :: ds) := by simp only [PyData.depthAll]; exact Nat.le_max_left _ _
    have m2 : PyData.depthAll ds ≤ PyData.depthAll (d :: ds) := by simp only [PyData.depthAll]; exact Nat.le_max_right _ _
    refine ⟨B ++ C, (b1.mono m1).append (c1.mono m2), ?_⟩
    simp only [PyData.shownAll]
    exact .cons ((b2.more fun x hx => List.mem_append.mpr (.inl hx)).level_le m1) (c2.more_le (fun x hx => List.mem_append.mpr (.inr hx)) m2)
end
/-- str(xs), xs a list that is not empty -/
theorem call_strZ {A : Around} {E : Value → Shared → Prop} {s : Shared} {Q : Value → Shared → Prop} {a : Addr} {o : Obj} {x : Value} {l : List Value} {n : Nat} {ys : List PyData}
    (e1 : s.heap.get? a = some o) (e2 : o.cls = .type "list") (e3 : o.data = .seq (x :: l).toArray n) (q : RdZs s.heap (x :: l) ys) (sw : PyData.showableAll ys = true) (z : (PyData.shown (.list ys)).length ≤ sizeLine)
    (hg : A.guards = some []) (hu : A.units + (PyData.depthAll ys + 4) < cLine) (hQ : ∀ h' u tk, (∀ b o, s.heap.get? b = some o → h'.get? b = some o) → Q (.str (PyData.shown (.list ys)) u) { s with heap := h', toks := tk }) :
    wpAny (model P w) A (call (.type "str") [.ref a]) Q E s := by
  have zt : (listText (PyData.shownAll ys)).length ≤ sizeLine := by simpa only [PyData.shown] using z
  have e4 : PyData.shown (.list ys) = listText (PyData.shownAll ys) := by simp only [PyData.shown]
  rw [e4] at hQ
  refine callType_new F.called_str (by decide) (F.typeCall_str_1 _) (F.newCall_str_1 _) (fun z => F.args_object_init_2 z _) F.entry_str_new
    (meets_str_new (S := fun A1 R1 s1 => A1.guards = some [] ∧ A1.units + (PyData.depthAll ys + 3) < cLine ∧ (∀ b o, s.heap.get? b = some o → s1.heap.get? b = some o) ∧
        ∀ h1 u tk, (∀ b o, s1.heap.get? b = some o → h1.get? b = some o) → R1 (.ok (.ret (.str (listText (PyData.shownAll ys)) u))) { s1 with heap := h1, toks := tk }) fun P1 w1 A1 R1 s1 ⟨g1, u1, k1, r1⟩ => ?_) ⟨hg, by show A.units + 1 + _ < cLine; omega, fun b o e => e, fun h1 u tk k => ⟨typeIs_str _ _ _, hQ h1 u tk k⟩⟩
  obtain ⟨B, b1, b2⟩ := q.sh (P := P1) (w := w1) sw fun t ht => Nat.le_trans (listText_mem_le ht) zt
  obtain ⟨_, rl⟩ := RdZ.rd (.lst e1 e2 e3 q)
  have nin := not_mem_of_deeper rl (by simp only [PyData.depth]; omega) b1
  refine wpAny_strOf_slot rfl (by show A1.units + 1 + 1 < cLine; omega) ⟨o, k1 _ _ e1, e2⟩ F.slot_list_str F.slot_list_repr.toG ?_
  exact call_list_reprK e1 e2 e3 nin (by simpa using b2.length_eq) (fun i u e => b2.item i u (by simpa using e)) (show A1.guards = some [] from g1) (fun b _ => Clear.nil b) (by show A1.units + 1 + 1 + (PyData.depthAll ys + 1) < cLine; omega) k1 (fun h1 u tk k => ⟨_, _, rfl, r1 h1 u tk k⟩) zt
end
end Dd

namespace Dd
open PySem L2 Pk
/-! ### data with dicts in it, told by str() -/
def keyPy : Key → PyData
  | .inl i => .int i
  | .inr s => .str s
mutual
def pz : D → PyData
  | .bl b => .bool b
  | .int i => .int i
  | .str s => .str s
  | .lst xs => .list (pzs xs)
  | .tup xs => .tuple (pzs xs)
  | .dl kvs => .dict (pzk kvs)
  | _ => .none
def pzs : List D → List PyData
  | [] => []
  | x :: xs => pz x :: pzs xs
def pzk : List (Key × D) → List (PyData × PyData)
  | [] => []
  | (k, d) :: r => (keyPy k, pz d) :: pzk r
end
mutual
def plz : D → Bool
  | .non => true
  | .bl _ => true
  | .int _ => true
  | .str _ => true
  | .lst xs => plzs xs
  | .tup xs => plzs xs
  | .dl kvs => plzk kvs
  | _ => false
def plzs : List D → Bool
  | [] => true
  | x :: xs => plz x && plzs xs
def plzk : List (Key × D) → Bool
  | [] => true
  | (_, d) :: r => plz d && plzk r
end
theorem pzk_fst : ∀ kds : List (Key × D), (pzk kds).map (·.1) = kds.map fun kd => keyPy kd.1
  | [] => by unfold pzk; rfl
  | (k, d) :: r => by unfold pzk; rw [List.map_cons, List.map_cons, pzk_fst r]
theorem pzk_snd : ∀ kds : List (Key × D), (pzk kds).map (·.2) = pzs (kds.map (·.2))
  | [] => by unfold pzk pzs; rfl
  | (k, d) :: r => by unfold pzk; rw [List.map_cons, List.map_cons, pzk_snd r]; conv => rhs; unfold pzs
theorem key_rz {h : Heap} {k : Key} {u : Value} (e : keyIs k u = true) : RdZ h u (keyPy k) := by
  rcases keyIs_shape e with ⟨i, t, rfl, rfl⟩ | ⟨x, t, rfl, rfl⟩
  · exact .int i t
  · exact .str x t
section
variable {X : Cx} {pins : List (Addr × Obj)} {σ : L2.St} {H F : Hp} {s : Shared}
theorem rzs_keys {P : Program} {w : World} {h : Heap} : ∀ {es : List DictEntry} {kvs : List (Key × V)} {vs : List (Key × Value)}, KV kvs vs → Pairs (mixKind P w) es vs → RdZs h (es.map (·.key)) (kvs.map fun kv => keyPy kv.1)
  | _, _, _, .nil, .nil => .nil
  | _, _, _, .cons e r, .cons e1 e2 q => by
    refine .cons (key_rz ?_) (rzs_keys r q)
    rw [e.1]
    exact e1
mutual
theorem Rp.rz (I : Inv X pins σ H s) (sub : Sub F H) : ∀ {d : D} {v : V} {u : Value}, Rp X.K F v d → RelV v u → plz d = true → RdZ s.heap u (pz d)
  | .non, _, _, .non, r, _ => by cases r; exact .non
  | .bl _, _, _, .bl b, r, _ => by cases r; exact .bl b
  | .int _, _, _, .int i, r, _ => by obtain ⟨t, rfl⟩ := r; exact .int i t
  | .str _, _, _, .str x, r, _ => by obtain ⟨t, rfl⟩ := r; exact .str x t
  | .lst ds, _, _, .lst e q, r, h => by
    cases r
    obtain ⟨its, rv, ⟨o, n, ho, hc, _, hd⟩, _⟩ := I.list (SqL.of (sub _ _ e))
    exact .lst ho hc hd (RpA.rz I sub (ds := ds) q rv (by unfold plz at h; exact h))
  | .tup ds, _, _, .tup e q, r, h => by
    cases r
    obtain ⟨its, rv, ⟨o, ho, hc, n, hd⟩, _⟩ := I.tuple (SqT.of (sub _ _ e))
    exact .tup ho hc hd (RpA.rz I sub (ds := ds) q rv (by unfold plz at h; exact h))
  | .dl kds, _, _, .dl e q, r, h => by
    cases r
    obtain ⟨hs, hg, hx, es, ep, vs, hdt, _, kv, hm⟩ := I.frzK (sub _ _ e)
    obtain ⟨o', es', ho', _, hdt', _, hp, _⟩ := hm
    rw [hg] at ho'
    cases ho'
    rw [hdt] at hdt'
    cases hdt'
    unfold pz
    refine .dct hs hg hx.1 hdt ?_ ?_
    · rw [pzk_fst]
      have z := rzs_keys (h := s.heap) kv hp
      rw [show (kds.map fun kd => keyPy kd.1) = (kds.map (·.1)).map keyPy by rw [List.map_map]; rfl, ← q.keys, List.map_map]
      exact z
    · rw [pzk_snd]
      exact RpK.rzv I sub q kv hp (by unfold plz at h; exact h)
  | .dk _, _, _, .dk e q, r, h => by unfold plz at h; cases h
  | .fn _, _, _, .fn a, _, h => by unfold plz at h; cases h
  | .er _ _, _, _, .er0 e, _, h => by unfold plz at h; cases h
  | .er _ _, _, _, .er e e' q, _, h => by unfold plz at h; cases h
  | .ob _ _, _, _, .ob e e' q, _, h => by unfold plz at h; cases h
  | .om _ _, _, _, .om e q, _, h => by unfold plz at h; cases h
  | .se _, _, _, .se e q, _, h => by unfold plz at h; cases h
theorem RpA.rz (I : Inv X pins σ H s) (sub : Sub F H) : ∀ {ds : List D} {vs : List V} {us : List Value}, RpA X.K F vs ds → Vals vs us → plzs ds = true → RdZs s.heap us (pzs ds)
  | [], _, _, .nil, r, _ => by cases r; exact .nil
  | d :: ds, _, _, .cons a q, r, h => by
    cases r with
    | cons r1 r2 =>
      unfold plzs at h
      rw [Bool.and_eq_true] at h
      exact .cons (Rp.rz I sub a r1 h.1) (RpA.rz I sub q r2 h.2)
theorem RpK.rzv (I : Inv X pins σ H s) (sub : Sub F H) : ∀ {kds : List (Key × D)} {kvs : List (Key × V)} {vs : List (Key × Value)} {es : List DictEntry}, RpK X.K F kvs kds → KV kvs vs → Pairs (mixKind X.prog X.w) es vs → plzk kds = true → RdZs s.heap (es.map (·.val)) (pzs (kds.map (·.2)))
  | [], _, _, _, .nil, kv, hp, _ => by cases kv; cases hp; exact .nil
  | (k, d) :: r, _, _, _, .cons a q, kv, hp, h => by
    cases kv with
    | cons e1 kv =>
      cases hp with
      | cons f1 f2 hp =>
        unfold plzk at h
        rw [Bool.and_eq_true] at h
        rw [List.map_cons, List.map_cons]
        unfold pzs
        refine .cons ?_ (RpK.rzv I sub q kv hp h.2)
        rw [f2]
        exact Rp.rz I sub a e1.2 h.1
end
end
section
variable {X : Cx} {c : Dc}
def Shz (d : D) : Prop := plz d = true ∧ (pz d).showable = true ∧ (pz d).depth ≤ 50 ∧ (pz d).shown.length ≤ sizeLine
def rStrZ (K : PySem.W.Frag) : List V → Hp → VK → Prop := fun vs H Q => ∃ (a : Addr) (F : Hp) (x : D) (xs : List D), vs = [.ref a] ∧ Sub F H ∧ Rp K F (.ref a) (.lst (x :: xs)) ∧ Shz (.lst (x :: xs)) ∧ Q (.str (pz (.lst (x :: xs))).shown) H
theorem cr_strZ (hg : X.A.guards = some []) (hu : X.A.units + 64 < cLine) : CallR X (.type "str") (rStrZ X.K) := by
  intro pins s σ H vs us Q I r ⟨a, F, x, xs, e, sub, q, ⟨h1, h2, h3, h4⟩, hq⟩
  subst e
  rw [Vals.ref1 r]
  cases q with
  | lst e q =>
    obtain ⟨its, rv, ⟨o, n, ho, hc, _, hd⟩, _⟩ := I.list (SqL.of (sub _ _ e))
    unfold plz at h1
    have rz := RpA.rz I sub q rv h1
    unfold pz at h2 h3 h4 hq
    unfold PyData.showable at h2
    unfold PyData.depth at h3
    cases its with
    | nil => unfold pzs at rz; cases rz
    | cons y l => exact call_strZ ho hc hd rz h2 h4 hg (by omega) fun h' u tk k => ⟨.str _, H, I.kept (t' := tk) k, ⟨u, rfl⟩, hq⟩
def fStrZ : DC := fun rs k => ∃ x xs, rs = [.s (.lst (x :: xs))] ∧ Shz (.lst (x :: xs)) ∧ k (.s (.str (pz (.lst (x :: xs))).shown))
theorem lc_strZ : Lc c (rStrZ c.K) fStrZ := by
  rintro F σ H A b vs rs Q k rr ha ⟨x, xs, rfl, hs, hf⟩ hk
  obtain ⟨v, rfl, hv⟩ := ha.one
  have hv' : Rp c.K F v (.lst (x :: xs)) := hv
  have hp : ∃ p, v = .ref p := by cases hv'; exact ⟨_, rfl⟩
  obtain ⟨p, rfl⟩ := hp
  exact ⟨p, F, x, xs, rfl, fun a o z => off_sub (rr.sub a o z), hv', hs, hk _ _ _ _ hf (.still rr (.str _))⟩
theorem k_strZ (hg : X.A.guards = some []) (hu : X.A.units + 64 < cLine) (hK : c.K = X.K) : CbOk X c (.type "str") fStrZ := ⟨_, cr_strZ hg hu, hK ▸ lc_strZ⟩
end
theorem q_strZ {x : D} {xs : List D} {kr : Rs → Prop} : fStrZ [.s (.lst (x :: xs))] kr = (Shz (.lst (x :: xs)) ∧ kr (.s (.str (pz (.lst (x :: xs))).shown))) := propext ⟨fun ⟨_, _, e, h1, h2⟩ => by cases e; exact ⟨h1, h2⟩, fun ⟨h1, h2⟩ => ⟨_, _, rfl, h1, h2⟩⟩
/-! what may be told -/
def ZhN (n w : Nat) (d : D) : Prop := plz d = true ∧ (pz d).showable = true ∧ (pz d).depth ≤ n ∧ (pz d).leavesShort 20 = true ∧ (pz d).weight ≤ w
theorem ZhN.shz {n w : Nat} {d : D} (h : ZhN n w d) (hn : n ≤ 50) (hw : w ≤ 500000) : Shz d := by
  obtain ⟨h1, h2, h4, h5, h6⟩ := h
  refine ⟨h1, h2, by omega, ?_⟩
  have := PyData.shown_le 20 (by decide) _ h5
  have e : (11000020 : Nat) ≤ sizeLine := by decide
  omega
mutual
theorem pz_py : ∀ {d : D}, pl d = true → plz d = true ∧ pz d = py d
  | .non, _ => ⟨rfl, rfl⟩
  | .bl _, _ => ⟨rfl, rfl⟩
  | .int _, _ => ⟨rfl, rfl⟩
  | .str _, _ => ⟨rfl, rfl⟩
  | .lst xs, h => by
    unfold pl at h
    obtain ⟨h1, h2⟩ := pzs_py h
    unfold plz pz py
    exact ⟨h1, by rw [h2]⟩
  | .tup xs, h => by
    unfold pl at h
    obtain ⟨h1, h2⟩ := pzs_py h
    unfold plz pz py
    exact ⟨h1, by rw [h2]⟩
  | .fn _, h => by unfold pl at h; cases h
  | .dk _, h => by unfold pl at h; cases h
  | .dl _, h => by unfold pl at h; cases h
  | .er _ _, h => by unfold pl at h; cases h
  | .ob _ _, h => by unfold pl at h; cases h
  | .om _ _, h => by unfold pl at h; cases h
  | .se _, h => by unfold pl at h; cases h
theorem pzs_py : ∀ {ds : List D}, pls ds = true → plzs ds = true ∧ pzs ds = pys ds
  | [], _ => ⟨rfl, by unfold pzs pys; rfl⟩
  | d :: ds, h => by
    unfold pls at h
    rw [Bool.and_eq_true] at h
    obtain ⟨h1, h2⟩ := pz_py h.1
    obtain ⟨h3, h4⟩ := pzs_py h.2
    unfold plzs pzs pys
    exact ⟨by rw [h1, h3]; rfl, by rw [h2, h4]⟩
end
theorem ShN.z {n w : Nat} {d : D} (h : ShN n w d) : ZhN n w d := by
  obtain ⟨h1, h2, h3, h4, h5, h6⟩ := h
  obtain ⟨e1, e2⟩ := pz_py h1
  exact ⟨e1, by rw [e2]; exact h2, by rw [e2]; exact h4, by rw [e2]; exact h5, by rw [e2]; exact h6⟩
theorem ZhN.mono {n m w v : Nat} {d : D} (h : ZhN n w d) (l : n ≤ m) (l' : w ≤ v) : ZhN m v d := by
  obtain ⟨h1, h2, h4, h5, h6⟩ := h
  exact ⟨h1, h2, by omega, h5, by omega⟩
theorem ZhN.lst {n w : Nat} : ∀ {xs : List D}, (∀ x ∈ xs, ZhN n w x) → plzs xs = true ∧ PyData.showableAll (pzs xs) = true ∧ PyData.depthAll (pzs xs) ≤ n ∧ PyData.leavesShortAll 20 (pzs xs) = true ∧ PyData.weightAll (pzs xs) ≤ xs.length * (w + 1)
  | [], _ => ⟨rfl, rfl, Nat.zero_le _, rfl, Nat.zero_le _⟩
  | x :: xs, h => by
    obtain ⟨h1, h2, h4, h5, h6⟩ := h x (by simp)
    obtain ⟨g1, g2, g4, g5, g6⟩ := ZhN.lst fun y hy => h y (List.mem_cons_of_mem _ hy)
    refine ⟨by unfold plzs; rw [h1, g1]; rfl, by unfold pzs PyData.showableAll; rw [h2, g2]; rfl, ?_, by unfold pzs PyData.leavesShortAll; rw [h5, g5]; rfl, ?_⟩
    · unfold pzs PyData.depthAll; exact Nat.max_le.mpr ⟨h4, g4⟩
    · unfold pzs PyData.weightAll
      rw [List.length_cons, Nat.add_mul]
      omega
theorem ZhN.l {n w : Nat} {xs : List D} (h : ∀ x ∈ xs, ZhN n w x) : ZhN (n + 1) (xs.length * (w + 1)) (.lst xs) := by
  obtain ⟨h1, h2, h4, h5, h6⟩ := ZhN.lst h
  refine ⟨by unfold plz; exact h1, by unfold pz PyData.showable; exact h2, ?_, by unfold pz PyData.leavesShort; exact h5, by unfold pz PyData.weight; exact h6⟩
  unfold pz PyData.depth; omega
/-- a short text's key -/
def okKey (k : Key) : Prop := ZhN 0 64 (keyDt k)
theorem ZhN.kv {n w : Nat} : ∀ {kds : List (Key × D)}, (∀ kd ∈ kds, okKey kd.1 ∧ ZhN n w kd.2) → plzk kds = true ∧ PyData.showableKv (pzk kds) = true ∧ PyData.depthKv (pzk kds) ≤ n ∧ PyData.leavesShortKv 20 (pzk kds) = true ∧ PyData.weightKv (pzk kds) ≤ kds.length * (w + 66)
  | [], _ => ⟨rfl, rfl, Nat.zero_le _, rfl, Nat.zero_le _⟩
  | (k, d) :: r, h => by
    obtain ⟨⟨k1, k2, k4, k5, k6⟩, h1, h2, h4, h5, h6⟩ := h (k, d) (by simp)
    have ek : pz (keyDt k) = keyPy k := by cases k <;> rfl
    rw [ek] at k2 k4 k5 k6
    obtain ⟨g1, g2, g4, g5, g6⟩ := ZhN.kv fun y hy => h y (List.mem_cons_of_mem _ hy)
    dsimp only at h1 h2 h4 h5 h6
    refine ⟨by unfold plzk; rw [h1, g1]; rfl, by unfold pzk PyData.showableKv; rw [k2, h2, g2]; rfl, ?_, by unfold pzk PyData.leavesShortKv; rw [k5, h5, g5]; rfl, ?_⟩
    · unfold pzk PyData.depthKv
      exact Nat.max_le.mpr ⟨Nat.max_le.mpr ⟨by omega, h4⟩, g4⟩
    · unfold pzk PyData.weightKv
      rw [List.length_cons, Nat.add_mul]
      omega
theorem ZhN.d {n w : Nat} {kds : List (Key × D)} (h : ∀ kd ∈ kds, okKey kd.1 ∧ ZhN n w kd.2) : ZhN (n + 1) (kds.length * (w + 66)) (.dl kds) := by
  obtain ⟨h1, h2, h4, h5, h6⟩ := ZhN.kv h
  refine ⟨by unfold plz; exact h1, by unfold pz PyData.showable; exact h2, ?_, by unfold pz PyData.leavesShort; exact h5, by unfold pz PyData.weight; exact h6⟩
  unfold pz PyData.depth; omega
end Dd

namespace Dd
open PySem L2 Pk
/-! ### questions of one table: tables, where, told -/
def inB : Stmt → Nat → Stmt
  | .If _ b _ _, i => b.getD i (.Pass ⟨0, 0, 0, 0⟩)
  | .For _ _ b _ _, i => b.getD i (.Pass ⟨0, 0, 0, 0⟩)
  | _, _ => .Pass ⟨0, 0, 0, 0⟩
def argV : Expr → Nat → Expr
  | .Call f a _ _, i => a.getD i f
  | .Subscript a _ _, _ => a
  | e, _ => e
def rwD (l : Bool) (row : List D) : D := if l = true then .lst row else .tup row
def TabIs (d : D) (rs : List (List D)) : Prop := ∃ l, d = .lst (rs.map (rwD l)) ∨ d = .tup (rs.map (rwD l))
inductive Qb where
  | tab | whr (q : Qb) (t : RT)
def Qb.d : Qb → D
  | .tab => .tup [.str (sS "table"), .str (sS "t")]
  | .whr q t => .tup [.str (sS "where"), q.d, t.d]
def Qb.ev (rs : List (List D)) : Qb → List (List D)
  | .tab => rs
  | .whr q t => (q.ev rs).filter fun row => t.ev row
def Qb.ok (ks : List Str) : Qb → Prop
  | .tab => True
  | .whr q t => q.ok ks ∧ t.ok ks ∧ t.dp ≤ 4
def Qb.dp : Qb → Nat
  | .tab => 0
  | .whr q _ => q.dp + 1
inductive Qt where
  | base (q : Qb) | told (q : Qb) (l : Bool) (fs : List Fm)
def Qt.d : Qt → D
  | .base q => q.d
  | .told q l fs => .tup [.str (sS "told"), q.d, rwD l (fs.map Fm.d)]
def Qt.ev (rs : List (List D)) : Qt → List (List D)
  | .base q => q.ev rs
  | .told q _ fs => (q.ev rs).map fun row => fs.map (Fm.ev row)
def FmsOk (ks : List Str) (fs : List Fm) : Prop := fs.length ≤ 9 ∧ ∀ f ∈ fs, (∃ kd, f.ok ks kd) ∧ f.dp ≤ 3
def Qt.ok (ks : List Str) : Qt → Prop
  | .base q => q.ok ks
  | .told q _ fs => q.ok ks ∧ FmsOk ks fs
def Qt.dp : Qt → Nat
  | .base q => q.dp
  | .told q _ _ => q.dp + 1
def RowsK (ks : List Str) (rs : List (List D)) : Prop := ∀ r ∈ rs, RowOk ks r
theorem Qb.ev_le {rs : List (List D)} : ∀ {q : Qb}, (q.ev rs).length ≤ rs.length
  | .tab => Nat.le_refl _
  | .whr q t => Nat.le_trans (List.length_filter_le _ _) Qb.ev_le
theorem Qb.ev_ok {ks : List Str} {rs : List (List D)} (h : RowsK ks rs) : ∀ {q : Qb}, RowsK ks (q.ev rs)
  | .tab => h
  | .whr q t => fun r hr => Qb.ev_ok h (q := q) r (List.mem_filter.mp hr).1
abbrev keyT : Key := .inr (sS "t")
/-! promises -/
def dsRowsOf (n : Nat) : DSp := fun args b k _ => ∃ (q : Qt) (ks : List Str) (kd xd : D) (rs : List (List D)), args = [.val q.d, .val kd, .val (.dl [(keyT, xd)])] ∧ TabIs xd rs ∧ RowsK ks rs ∧ rs.length ≤ 70 ∧ q.ok ks ∧ q.dp < n ∧ k (.o ((q.ev rs).map D.tup)) b
def dsTestV (n : Nat) : DSp := fun args b k _ => ∃ (ks : List Str) (m : Nat), args = [.st, .val (.lst (ks.map D.str)), .val (.int m)] ∧ Kinds ks ∧ m < n ∧ n ≤ 13 ∧ b + 1000 * 2 ^ m + 2000 < 100000000 ∧ ∀ (t : RT) (b' : Nat), t.ok ks → t.dp ≤ m → b' + 400 ≤ b + 1000 * 2 ^ m → k (.s t.d) b'
def dsValueN : DSp := fun args b k _ => ∃ kd : Str, args = [.st, .val (.str kd)] ∧ isKd kd ∧ b + 100 < 100000000 ∧ ∀ (d : D) (b' : Nat), Kn kd d → b' ≤ b + 32 → k (.s d) b'
def dsCompared : DSp := fun args b k _ => ∃ (kd w : Str) (x y : D), args = [.val (.str w), .val x, .val y] ∧ isCmp w ∧ OkD kd x ∧ OkD kd y ∧ k (.s (.bl (!isN x && !isN y && cmpD w x y))) b
def dsMany : DSp := fun args b k _ => args = [.st] ∧ b + 10 < 100000000 ∧ ∀ (m : Nat) (b' : Nat), 1 ≤ m → m ≤ 9 → b' ≤ b + 2 → k (.s (.int m)) b'
def dsRight : DSp := fun args b k _ => ∃ (q : Qt) (ks : List Str) (rs : List (List D)) (s : Sl), args = [.val q.d, .val (.dl [(keyT, .lst (ks.map D.str))]), .val (.dl [(keyT, .lst (rs.map D.tup))]), s] ∧ (s = .bb ((q.ev rs).map D.tup) ∨ s = .val (.lst ((q.ev rs).map D.tup))) ∧ Kinds ks ∧ RowsK ks rs ∧ rs.length ≤ 70 ∧ q.ok ks ∧ q.dp < 4 ∧ k (.s (.bl true)) b
/-! what is told -/
theorem ShN.tup2 {n w1 w2 : Nat} {x y : D} (hx : ShN n w1 x) (hy : ShN n w2 y) : ShN (n + 1) (w1 + w2 + 2) (.tup [x, y]) := by
  obtain ⟨a1, a2, a3, a4, a5, a6⟩ := hx
  obtain ⟨b1, b2, b3, b4, b5, b6⟩ := hy
  refine ⟨by simp [pl, pls, a1, b1], by simp [py, pys, PyData.showable, PyData.showableAll, a2, b2], by simp [py, pys, PyData.hasDict, PyData.hasDictAll, a3, b3], ?_, by simp [py, pys, PyData.leavesShort, PyData.leavesShortAll, a5, b5], ?_⟩
  · simp only [py, pys, PyData.depth, PyData.depthAll]; omega
  · simp only [py, pys, PyData.weight, PyData.weightAll]; omega
theorem ShN.tup3 {n w1 w2 w3 : Nat} {x y z : D} (hx : ShN n w1 x) (hy : ShN n w2 y) (hz : ShN n w3 z) : ShN (n + 1) (w1 + w2 + w3 + 3) (.tup [x, y, z]) := by
  obtain ⟨a1, a2, a3, a4, a5, a6⟩ := hx
  obtain ⟨b1, b2, b3, b4, b5, b6⟩ := hy
  obtain ⟨c1, c2, c3, c4, c5, c6⟩ := hz
  refine ⟨by simp [pl, pls, a1, b1, c1], by simp [py, pys, PyData.showable, PyData.showableAll, a2, b2, c2], by simp [py, pys, PyData.hasDict, PyData.hasDictAll, a3, b3, c3], ?_, by simp [py, pys, PyData.leavesShort, PyData.leavesShortAll, a5, b5, c5], ?_⟩
  · simp only [py, pys, PyData.depth, PyData.depthAll]; omega
  · simp only [py, pys, PyData.weight, PyData.weightAll]; omega
theorem ShN.tup4 {n w1 w2 w3 w4 : Nat} {x y z u : D} (hx : ShN n w1 x) (hy : ShN n w2 y) (hz : ShN n w3 z) (hu : ShN n w4 u) : ShN (n + 1) (w1 + w2 + w3 + w4 + 4) (.tup [x, y, z, u]) := by
  obtain ⟨a1, a2, a3, a4, a5, a6⟩ := hx
  obtain ⟨b1, b2, b3, b4, b5, b6⟩ := hy
  obtain ⟨c1, c2, c3, c4, c5, c6⟩ := hz
  obtain ⟨d1, d2, d3, d4, d5, d6⟩ := hu
  refine ⟨by simp [pl, pls, a1, b1, c1, d1], by simp [py, pys, PyData.showable, PyData.showableAll, a2, b2, c2, d2], by simp [py, pys, PyData.hasDict, PyData.hasDictAll, a3, b3, c3, d3], ?_, by simp [py, pys, PyData.leavesShort, PyData.leavesShortAll, a5, b5, c5, d5], ?_⟩
  · simp only [py, pys, PyData.depth, PyData.depthAll]; omega
  · simp only [py, pys, PyData.weight, PyData.weightAll]; omega
/-- a short text, by looking -/
theorem shn_s {s : Str} (h : (s.cps.toList.all fun c => decide (c < 16 ^ 8)) = true ∧ s.length ≤ 64) : ShN 0 64 (.str s) := shn_str (fun c hc => of_decide_eq_true (List.all_eq_true.mp h.1 c hc)) h.2
theorem shn_nat {n : Nat} (h : n < 1000000) : ShN 0 64 (.int n) := shn_int (by omega)
theorem shn_cmp {w : Str} (h : isCmp w) : ShN 0 64 (.str w) := by
  rcases h with rfl | rfl | rfl | rfl | rfl | rfl <;> exact shn_s (by decide +kernel)
theorem CT.shn {kd : Str} {t : CT} (h : t.ok kd) : ShN 2 6600 t.d := by
  cases t with
  | opn => exact (ShN.tup (n := 0) (w := 64) (xs := [.str (sS "open")]) fun x hx => by rw [List.mem_singleton.mp hx]; exact shn_s (by decide +kernel)).mono (by omega) (by simp)
  | sg w v => exact (ShN.tup2 (shn_cmp h.1) h.2.1.shn).mono (by omega) (by omega)
  | amg vs =>
    have z := ShN.lst (n := 0) (w := 64) fun x hx => (h.2 x hx).1.shn
    have hl := h.1
    exact (ShN.tup2 ((shn_s (s := sS "among") (by decide +kernel)).mono (by omega) (Nat.le_refl _)) z).mono (by omega) (by omega)
  | amt vs =>
    have z := ShN.tup (n := 0) (w := 64) fun x hx => (h.2 x hx).1.shn
    have hl := h.1
    exact (ShN.tup2 ((shn_s (s := sS "among") (by decide +kernel)).mono (by omega) (Nat.le_refl _)) z).mono (by omega) (by omega)
theorem RT.shn {ks : List Str} (hk : ks.length ≤ 100) : ∀ {t : RT}, t.ok ks → ShN (t.dp + 3) (7000 * 2 ^ t.dp - 67) t.d
  | .alw, _ => (ShN.tup (n := 0) (w := 64) (xs := [.str (sS "always")]) fun x hx => by rw [List.mem_singleton.mp hx]; exact shn_s (by decide +kernel)).mono (by omega) (by simp [RT.dp])
  | .cel p t, ⟨kd, h1, h2, h3⟩ => by
    have hp := (List.getElem?_eq_some_iff.mp h1).1
    exact (ShN.tup3 ((shn_s (s := sS "cell") (by decide +kernel)).mono (m := 2) (by omega) (Nat.le_refl _)) ((shn_nat (n := p) (by omega)).mono (by omega) (Nat.le_refl _)) (CT.shn h3)).mono (by show 3 ≤ 3; omega) (by simp [RT.dp])
  | .cls p w q, ⟨kd, h1, h2, _, h4⟩ => by
    have hp := (List.getElem?_eq_some_iff.mp h1).1
    have hq := (List.getElem?_eq_some_iff.mp h2).1
    exact (ShN.tup4 (shn_s (s := sS "cells") (by decide +kernel)) (shn_nat (n := p) (by omega)) (shn_cmp h4) (shn_nat (n := q) (by omega))).mono (by show 1 ≤ 3; omega) (by simp [RT.dp])
  | .neg a, h => by
    have z := RT.shn hk (t := a) h
    have hp : 0 < 2 ^ a.dp := Nat.pow_pos (by decide)
    have e : 2 ^ (RT.neg a).dp = 2 * 2 ^ a.dp := by show 2 ^ (a.dp + 1) = _; rw [Nat.pow_succ']
    refine (ShN.tup2 ((shn_s (s := sS "not") (by decide +kernel)).mono (m := a.dp + 3) (by omega) (Nat.le_refl _)) z).mono (by show a.dp + 3 + 1 ≤ a.dp + 1 + 3; omega) ?_
    rw [e]; omega
  | .both a b, h => by
    have z := RT.shn hk (t := a) h.1
    have z2 := RT.shn hk (t := b) h.2
    have h1 : 2 ^ a.dp ≤ 2 ^ (max a.dp b.dp) := Nat.pow_le_pow_right (by decide) (Nat.le_max_left _ _)
    have h2 : 2 ^ b.dp ≤ 2 ^ (max a.dp b.dp) := Nat.pow_le_pow_right (by decide) (Nat.le_max_right _ _)
    have hp : 0 < 2 ^ a.dp := Nat.pow_pos (by decide)
    have hp2 : 0 < 2 ^ b.dp := Nat.pow_pos (by decide)
    have e : 2 ^ (RT.both a b).dp = 2 * 2 ^ (max a.dp b.dp) := by show 2 ^ (max a.dp b.dp + 1) = _; rw [Nat.pow_succ']
    refine (ShN.tup3 ((shn_s (s := sS "both") (by decide +kernel)).mono (m := max a.dp b.dp + 3) (by omega) (Nat.le_refl _)) (z.mono (by omega) (Nat.le_refl _)) (z2.mono (by omega) (Nat.le_refl _))).mono (by show max a.dp b.dp + 3 + 1 ≤ max a.dp b.dp + 1 + 3; omega) ?_
    rw [e]; omega
  | .eith a b, h => by
    have z := RT.shn hk (t := a) h.1
    have z2 := RT.shn hk (t := b) h.2
    have h1 : 2 ^ a.dp ≤ 2 ^ (max a.dp b.dp) := Nat.pow_le_pow_right (by decide) (Nat.le_max_left _ _)
    have h2 : 2 ^ b.dp ≤ 2 ^ (max a.dp b.dp) := Nat.pow_le_pow_right (by decide) (Nat.le_max_right _ _)
    have hp : 0 < 2 ^ a.dp := Nat.pow_pos (by decide)
    have hp2 : 0 < 2 ^ b.dp := Nat.pow_pos (by decide)
    have e : 2 ^ (RT.eith a b).dp = 2 * 2 ^ (max a.dp b.dp) := by show 2 ^ (max a.dp b.dp + 1) = _; rw [Nat.pow_succ']
    refine (ShN.tup3 ((shn_s (s := sS "either") (by decide +kernel)).mono (m := max a.dp b.dp + 3) (by omega) (Nat.le_refl _)) (z.mono (by omega) (Nat.le_refl _)) (z2.mono (by omega) (Nat.le_refl _))).mono (by show max a.dp b.dp + 3 + 1 ≤ max a.dp b.dp + 1 + 3; omega) ?_
    rw [e]; omega
theorem shn_sg {w : Str} (h : isSg w) : ShN 0 64 (.str w) := by
  rcases h with rfl | rfl | rfl <;> exact shn_s (by decide +kernel)
theorem Fm.shn {ks : List Str} (hk : ks.length ≤ 100) : ∀ {f : Fm} {kd : Str}, f.ok ks kd → ShN (f.dp + 1) (300 * 2 ^ f.dp - 132) f.d
  | .cell p, kd, h => by
    have hp := (List.getElem?_eq_some_iff.mp (show ks[p]? = some kd from h)).1
    exact (ShN.tup2 (shn_s (s := sS "cell") (by decide +kernel)) (shn_nat (n := p) (by omega))).mono (by show 1 ≤ 1; omega) (by simp [Fm.dp])
  | .val d, kd, h => (ShN.tup2 (shn_s (s := sS "value") (by decide +kernel)) (show OkD kd d from h).shn).mono (by show 1 ≤ 1; omega) (by simp [Fm.dp])
  | .fst a b, kd, h => by
    have z := Fm.shn hk (f := a) h.1
    have z2 := Fm.shn hk (f := b) h.2
    have h1 : 2 ^ a.dp ≤ 2 ^ (max a.dp b.dp) := Nat.pow_le_pow_right (by decide) (Nat.le_max_left _ _)
    have h2 : 2 ^ b.dp ≤ 2 ^ (max a.dp b.dp) := Nat.pow_le_pow_right (by decide) (Nat.le_max_right _ _)
    have hp : 0 < 2 ^ a.dp := Nat.pow_pos (by decide)
    have hp2 : 0 < 2 ^ b.dp := Nat.pow_pos (by decide)
    have e : 2 ^ (Fm.fst a b).dp = 2 * 2 ^ (max a.dp b.dp) := by show 2 ^ (max a.dp b.dp + 1) = _; rw [Nat.pow_succ']
    refine (ShN.tup3 ((shn_s (s := sS "first") (by decide +kernel)).mono (m := max a.dp b.dp + 1) (by omega) (Nat.le_refl _)) (z.mono (by omega) (Nat.le_refl _)) (z2.mono (by omega) (Nat.le_refl _))).mono (by show max a.dp b.dp + 1 + 1 ≤ max a.dp b.dp + 1 + 1; omega) ?_
    rw [e]; omega
  | .sum sg a b, kd, h => by
    obtain ⟨_, hs, ha, hb⟩ := h
    have z := Fm.shn hk (f := a) ha
    have z2 := Fm.shn hk (f := b) hb
    have h1 : 2 ^ a.dp ≤ 2 ^ (max a.dp b.dp) := Nat.pow_le_pow_right (by decide) (Nat.le_max_left _ _)
    have h2 : 2 ^ b.dp ≤ 2 ^ (max a.dp b.dp) := Nat.pow_le_pow_right (by decide) (Nat.le_max_right _ _)
    have hp : 0 < 2 ^ a.dp := Nat.pow_pos (by decide)
    have hp2 : 0 < 2 ^ b.dp := Nat.pow_pos (by decide)
    have e : 2 ^ (Fm.sum sg a b).dp = 2 * 2 ^ (max a.dp b.dp) := by show 2 ^ (max a.dp b.dp + 1) = _; rw [Nat.pow_succ']
    refine (ShN.tup4 ((shn_s (s := sS "sum") (by decide +kernel)).mono (m := max a.dp b.dp + 1) (by omega) (Nat.le_refl _)) ((shn_sg hs).mono (by omega) (Nat.le_refl _)) (z.mono (by omega) (Nat.le_refl _)) (z2.mono (by omega) (Nat.le_refl _))).mono (by show max a.dp b.dp + 1 + 1 ≤ max a.dp b.dp + 1 + 1; omega) ?_
    rw [e]; omega
theorem Qb.shn {ks : List Str} (hk : ks.length ≤ 100) : ∀ {q : Qb}, q.ok ks → ShN (q.dp + 8) (113000 * q.dp + 200) q.d
  | .tab, _ => (ShN.tup2 (shn_s (s := sS "table") (by decide +kernel)) (shn_s (s := sS "t") (by decide +kernel))).mono (by omega) (by simp [Qb.dp])
  | .whr q t, ⟨h1, h2, h3⟩ => by
    have z := Qb.shn hk h1
    have z2 := RT.shn hk h2
    have hp : 2 ^ t.dp ≤ 2 ^ 4 := Nat.pow_le_pow_right (by decide) h3
    refine (ShN.tup3 ((shn_s (s := sS "where") (by decide +kernel)).mono (m := q.dp + 8) (by omega) (Nat.le_refl _)) z (z2.mono (m := q.dp + 8) (by omega) (Nat.le_refl _))).mono (by show q.dp + 8 + 1 ≤ q.dp + 1 + 8; omega) ?_
    show _ ≤ 113000 * (q.dp + 1) + 200
    omega
theorem Qt.shn {ks : List Str} (hk : ks.length ≤ 100) {q : Qt} (h : q.ok ks) (hd : q.dp < 4) : ShN 20 340000 q.d := by
  cases q with
  | base q =>
    have hd' : q.dp < 4 := hd
    exact (Qb.shn hk h).mono (by omega) (by omega)
  | told q l fs =>
    obtain ⟨h1, h2, h3⟩ := h
    have hd' : q.dp + 1 < 4 := hd
    have hf : ∀ x ∈ fs.map Fm.d, ShN 4 2268 x := fun x hx => by
      obtain ⟨f, hf, rfl⟩ := List.mem_map.mp hx
      obtain ⟨⟨kd, ok⟩, dp⟩ := h3 f hf
      have hp : 2 ^ f.dp ≤ 2 ^ 3 := Nat.pow_le_pow_right (by decide) dp
      exact (Fm.shn hk ok).mono (by omega) (by omega)
    have hz : ShN 5 20421 (rwD l (fs.map Fm.d)) := by
      cases l with
      | true => exact (ShN.lst hf).mono (by omega) (by rw [List.length_map]; omega)
      | false => exact (ShN.tup hf).mono (by omega) (by rw [List.length_map]; omega)
    exact (ShN.tup3 ((shn_s (s := sS "told") (by decide +kernel)).mono (m := 12) (by omega) (Nat.le_refl _)) ((Qb.shn hk h1).mono (m := 12) (v := 113000 * 2 + 200) (by omega) (by omega)) (hz.mono (m := 12) (by omega) (Nat.le_refl _))).mono (by omega) (by omega)
theorem ZhN.l4 {n w1 w2 w3 w4 : Nat} {x y z u : D} (hx : ZhN n w1 x) (hy : ZhN n w2 y) (hz : ZhN n w3 z) (hu : ZhN n w4 u) : ZhN (n + 1) (w1 + w2 + w3 + w4 + 4) (.lst [x, y, z, u]) := by
  obtain ⟨a1, a2, a4, a5, a6⟩ := hx
  obtain ⟨b1, b2, b4, b5, b6⟩ := hy
  obtain ⟨c1, c2, c4, c5, c6⟩ := hz
  obtain ⟨d1, d2, d4, d5, d6⟩ := hu
  refine ⟨by simp [plz, plzs, a1, b1, c1, d1], by simp [pz, pzs, PyData.showable, PyData.showableAll, a2, b2, c2, d2], ?_, by simp [pz, pzs, PyData.leavesShort, PyData.leavesShortAll, a5, b5, c5, d5], ?_⟩
  · simp only [pz, pzs, PyData.depth, PyData.depthAll]; omega
  · simp only [pz, pzs, PyData.weight, PyData.weightAll]; omega
theorem RowOk.mem {ks : List Str} {row : List D} (h : RowOk ks row) {x : D} (hx : x ∈ row) : ∃ kd, OkD kd x := by
  obtain ⟨p, hp⟩ := List.getElem?_of_mem hx
  have hlt := (List.getElem?_eq_some_iff.mp hp).1
  have h1 := h.1
  exact ⟨_, h.2 p (ks[p]'(by omega)) x (List.getElem?_eq_getElem _) hp⟩
theorem shn_row {ks : List Str} {row : List D} {l : Bool} (hk : ks.length ≤ 8) (h : RowOk ks row) : ShN 1 520 (rwD l row) := by
  have z : ∀ x ∈ row, ShN 0 64 x := fun x hx => let ⟨_, o⟩ := h.mem hx; o.shn
  have := h.1
  cases l with
  | true => exact (ShN.lst z).mono (by omega) (by omega)
  | false => exact (ShN.tup z).mono (by omega) (by omega)
theorem okKey_t : okKey keyT := (shn_s (s := sS "t") (by decide +kernel)).z
theorem zhn_one {n w : Nat} {d : D} (h : ZhN n w d) : ZhN (n + 1) (w + 66) (.dl [(keyT, d)]) := (ZhN.d (kds := [(keyT, d)]) fun kd hk => by rw [List.mem_singleton.mp hk]; exact ⟨okKey_t, h⟩).mono (Nat.le_refl _) (by simp)
theorem zhn_rows {ks : List Str} {rs : List (List D)} (l : Bool) (hk : ks.length ≤ 8) (h : RowsK ks rs) (hl : rs.length ≤ 70) : ZhN 3 37000 (.dl [(keyT, .lst (rs.map (rwD l)))]) := by
  have z : ∀ x ∈ rs.map (rwD l), ShN 1 520 x := fun x hx => by
    obtain ⟨r, hr, rfl⟩ := List.mem_map.mp hx
    exact shn_row hk (h r hr)
  exact (zhn_one (ShN.lst z).z).mono (by omega) (by rw [List.length_map]; omega)
theorem isKd.shn {kd : Str} (h : isKd kd) : ShN 0 64 (.str kd) := by
  rcases h with rfl | rfl <;> exact shn_s (by decide +kernel)
theorem zhn_kinds {ks : List Str} (h : Kinds ks) : ZhN 3 1000 (.dl [(keyT, .lst (ks.map D.str))]) := by
  have z : ∀ x ∈ ks.map D.str, ShN 0 64 x := fun x hx => by
    obtain ⟨k, hk, rfl⟩ := List.mem_map.mp hx
    exact (h.2.2 k hk).shn
  have := h.2.1
  exact (zhn_one (ShN.lst z).z).mono (by omega) (by rw [List.length_map]; omega)
/-- what a law of questions keeps as a text -/
theorem right_shz {ks : List Str} {rs : List (List D)} {q : Qt} (hks : Kinds ks) (h : RowsK ks rs) (hl : rs.length ≤ 70) (ok : q.ok ks) (hd : q.dp < 4) :
    Shz (.lst [q.d, .dl [(keyT, .lst (ks.map D.str))], .dl [(keyT, .lst (rs.map (rwD false)))], .dl [(keyT, .lst (rs.map (rwD true)))]]) := by
  have h8 := hks.2.1
  exact (ZhN.l4 (Qt.shn (by omega) ok hd).z ((zhn_kinds hks).mono (by omega) (Nat.le_refl _)) ((zhn_rows false h8 h hl).mono (by omega) (Nat.le_refl _)) ((zhn_rows true h8 h hl).mono (by omega) (Nat.le_refl _))).shz (by omega) (by omega)
end Dd

namespace Dd
open PySem L2 Pk
theorem cmpI1 {i j : Int} : cmpI (sS "=") i j = decide (i = j) := if_pos rfl
theorem cmpI2 {i j : Int} : cmpI (sS "<>") i j = !decide (i = j) := (if_neg (by decide +kernel)).trans (if_pos rfl)
theorem cmpI3 {i j : Int} : cmpI (sS "<") i j = decide (i < j) := (if_neg (by decide +kernel)).trans ((if_neg (by decide +kernel)).trans (if_pos rfl))
theorem cmpI4 {i j : Int} : cmpI (sS "<=") i j = decide (i ≤ j) := (if_neg (by decide +kernel)).trans ((if_neg (by decide +kernel)).trans ((if_neg (by decide +kernel)).trans (if_pos rfl)))
theorem cmpI5 {i j : Int} : cmpI (sS ">") i j = decide (j < i) := (if_neg (by decide +kernel)).trans ((if_neg (by decide +kernel)).trans ((if_neg (by decide +kernel)).trans ((if_neg (by decide +kernel)).trans (if_pos rfl))))
theorem cmpI6 {i j : Int} : cmpI (sS ">=") i j = decide (j ≤ i) := (if_neg (by decide +kernel)).trans ((if_neg (by decide +kernel)).trans ((if_neg (by decide +kernel)).trans ((if_neg (by decide +kernel)).trans (if_neg (by decide +kernel)))))
theorem cmpS1 {i j : Str} : cmpS (sS "=") i j = decide (i = j) := if_pos rfl
theorem cmpS2 {i j : Str} : cmpS (sS "<>") i j = !decide (i = j) := (if_neg (by decide +kernel)).trans (if_pos rfl)
theorem cmpS3 {i j : Str} : cmpS (sS "<") i j = ltS i j := (if_neg (by decide +kernel)).trans ((if_neg (by decide +kernel)).trans (if_pos rfl))
theorem cmpS4 {i j : Str} : cmpS (sS "<=") i j = !ltS j i := (if_neg (by decide +kernel)).trans ((if_neg (by decide +kernel)).trans ((if_neg (by decide +kernel)).trans (if_pos rfl)))
theorem cmpS5 {i j : Str} : cmpS (sS ">") i j = ltS j i := (if_neg (by decide +kernel)).trans ((if_neg (by decide +kernel)).trans ((if_neg (by decide +kernel)).trans ((if_neg (by decide +kernel)).trans (if_pos rfl))))
theorem cmpS6 {i j : Str} : cmpS (sS ">=") i j = !ltS i j := (if_neg (by decide +kernel)).trans ((if_neg (by decide +kernel)).trans ((if_neg (by decide +kernel)).trans ((if_neg (by decide +kernel)).trans (if_neg (by decide +kernel)))))
/-- a law's own way to compare -/
theorem cmp_ways : (∀ i j : Int, (decide (i = j) == true) = cmpI (sS "=") i j ∧ (decide (i = j) == false) = cmpI (sS "<>") i j ∧ (decide (i < j) == true) = cmpI (sS "<") i j ∧ (decide (j < i) == false) = cmpI (sS "<=") i j ∧ (decide (j < i) == true) = cmpI (sS ">") i j ∧ (decide (i < j) == false) = cmpI (sS ">=") i j) ∧
    ∀ i j : Str, (decide (i = j) == true) = cmpS (sS "=") i j ∧ (decide (i = j) == false) = cmpS (sS "<>") i j ∧ (ltS i j == true) = cmpS (sS "<") i j ∧ (ltS j i == false) = cmpS (sS "<=") i j ∧ (ltS j i == true) = cmpS (sS ">") i j ∧ (ltS i j == false) = cmpS (sS ">=") i j := by
  have t : ∀ b : Bool, (b == true) = b := fun b => by cases b <;> rfl
  have f : ∀ b : Bool, (b == false) = !b := fun b => by cases b <;> rfl
  refine ⟨fun i j => ?_, fun i j => ?_⟩
  · rw [cmpI1, cmpI2, cmpI3, cmpI4, cmpI5, cmpI6, t, f, t, f, t, f]
    refine ⟨rfl, rfl, rfl, ?_, rfl, ?_⟩
    · by_cases z : j < i
      · rw [decide_eq_true z, decide_eq_false (by omega)]; rfl
      · rw [decide_eq_false z, decide_eq_true (by omega)]; rfl
    · by_cases z : i < j
      · rw [decide_eq_true z, decide_eq_false (by omega)]; rfl
      · rw [decide_eq_false z, decide_eq_true (by omega)]; rfl
  · rw [cmpS1, cmpS2, cmpS3, cmpS4, cmpS5, cmpS6, t, f, t, f, t, f]
    exact ⟨rfl, rfl, rfl, rfl, rfl, rfl⟩
/-- a row's cells -/
def unR : D → List D
  | .lst xs => xs
  | .tup xs => xs
  | _ => []
theorem unR_rw {l : Bool} {row : List D} : unR (rwD l row) = row := by cases l <;> rfl
theorem rows_map {l : Bool} {rs : List (List D)} : (rs.map (rwD l)).map (fun d => D.tup (unR d)) = rs.map D.tup := by
  rw [List.map_map]
  exact List.map_congr_left fun r _ => by show D.tup (unR (rwD l r)) = _; rw [unR_rw]
theorem rows_flat {t : RT} : ∀ {L : List (List D)}, (L.map D.tup).flatMap (fun d => if t.ev (unR d) = true then [d] else []) = (L.filter fun row => t.ev row).map D.tup
  | [] => rfl
  | r :: L => by
    rw [List.map_cons, List.flatMap_cons, rows_flat]
    show (if t.ev r = true then [D.tup r] else []) ++ _ = _
    cases e : t.ev r with
    | true => rw [if_pos rfl, List.filter_cons_of_pos (by exact e), List.map_cons]; rfl
    | false => rw [if_neg (by decide), List.filter_cons_of_neg (by rw [e]; decide)]; rfl
theorem sam_l' {ds : List D} {n : Nat} (hl : ds.length ≤ 10000) (h : ∀ d ∈ ds, sam n d) : sam (n + 1) (.lst ds) := ⟨by omega, h⟩
theorem sam_rows {L : List (List D)} (hl : L.length ≤ 10000) (h : ∀ r ∈ L, r.length ≤ 1000 ∧ ∀ x ∈ r, sam 2 x) : sam 4 (.lst (L.map D.tup)) := sam_l' (by rw [List.length_map]; exact hl) fun d hd => by
  obtain ⟨r, hr, rfl⟩ := List.mem_map.mp hd
  obtain ⟨h1, h2⟩ := h r hr
  exact ⟨by omega, h2⟩
theorem Qt.sam {ks : List Str} {rs : List (List D)} {q : Qt} (hks : ks.length ≤ 8) (hr : RowsK ks rs) (hl : rs.length ≤ 70) (ok : q.ok ks) : sam 4 (.lst ((q.ev rs).map D.tup)) := by
  cases q with
  | base q =>
    have z := Qb.ev_le (rs := rs) (q := q)
    refine sam_rows (by show (q.ev rs).length ≤ _; omega) fun r h => ?_
    have ro := Qb.ev_ok hr r h
    have := ro.1
    exact ⟨by omega, fun x hx => let ⟨_, o⟩ := ro.mem hx; o.sam⟩
  | told q l fs =>
    obtain ⟨hq, hf1, hf2⟩ := ok
    have z := Qb.ev_le (rs := rs) (q := q)
    refine sam_rows (by show ((q.ev rs).map _).length ≤ _; rw [List.length_map]; omega) fun r h => ?_
    obtain ⟨row, hrow, rfl⟩ := List.mem_map.mp (show r ∈ (q.ev rs).map fun row => fs.map (Fm.ev row) from h)
    have ro := Qb.ev_ok hr row hrow
    refine ⟨by rw [List.length_map]; omega, fun x hx => ?_⟩
    obtain ⟨f, hf, rfl⟩ := List.mem_map.mp hx
    obtain ⟨⟨kd, o⟩, _⟩ := hf2 f hf
    exact (Fm.celB ro o).sam
theorem Qt.ev_le {rs : List (List D)} {q : Qt} (hl : rs.length ≤ 70) : (q.ev rs).length ≤ 1000 := by
  cases q with
  | base q => exact Nat.le_trans Qb.ev_le (by omega)
  | told q l fs =>
    show ((q.ev rs).map _).length ≤ _
    rw [List.length_map]
    exact Nat.le_trans Qb.ev_le (by omega)
theorem rows_tab {ks : List Str} {rs : List D} (h : Rows ks rs) : ∃ L : List (List D), rs = L.map D.tup ∧ RowsK ks L := by
  refine ⟨rs.map unR, ?_, fun r hr => ?_⟩
  · rw [List.map_map]
    refine (List.map_id rs).symm.trans (List.map_congr_left fun d hd => ?_)
    obtain ⟨row, rfl, _⟩ := h d hd
    rfl
  · obtain ⟨d, hd, rfl⟩ := List.mem_map.mp hr
    obtain ⟨row, rfl, ok⟩ := h d hd
    exact ok
theorem due_map {fs : List Fm} {L : List (List D)} : (L.map D.tup).map (fun d => D.tup (fs.map (Fm.ev (unR d)))) = (L.map fun row => fs.map (Fm.ev row)).map D.tup := by
  rw [List.map_map, List.map_map]
  rfl
end Dd


namespace K46
open PySem L2 Pk
def top (i : Nat) : Stmt := PySem.Challenge.pw_pillarstore_k46_tables_tests_and_forms.main.body.getD i (.Pass ⟨0, 0, 0, 0⟩)
abbrev s_take : Stmt := top 67
abbrev N_take : List Str := ["_law_state", "_law_many_here", "_law_turn", "_law_place", "_law_cell", "_law_mixed", "_law_digit"]
theorem sc_take : FnScope N_take ["_law_state", "_law_many_here"] (defScope s_take) := ⟨rfl, rfl, rfl, by decide +kernel, rfl, by decide +kernel, by decide +kernel⟩
abbrev s_same : Stmt := top 76
abbrev N_same : List Str := ["_law_found", "_law_due", "_law_name", "_law_one", "_law_other"]
theorem sc_same : FnScope N_same ["_law_found", "_law_due"] (defScope s_same) := ⟨rfl, rfl, rfl, by decide +kernel, rfl, by decide +kernel, by decide +kernel⟩
abbrev s_begin : Stmt := top 66
abbrev N_begin : List Str := ["_law_script", "_law_cells_here"]
theorem sc_begin : FnScope N_begin ["_law_script"] (defScope s_begin) := ⟨rfl, rfl, rfl, by decide +kernel, rfl, by decide +kernel, by decide +kernel⟩
abbrev s_number : Stmt := top 68
abbrev N_number : List Str := ["_law_state", "_law_way", "_law_number_here"]
theorem sc_number : FnScope N_number ["_law_state"] (defScope s_number) := ⟨rfl, rfl, rfl, by decide +kernel, rfl, by decide +kernel, by decide +kernel⟩
abbrev s_text : Stmt := top 69
abbrev N_text : List Str := ["_law_state", "_law_words", "_law_signs", "_law_turn"]
theorem sc_text : FnScope N_text ["_law_state"] (defScope s_text) := ⟨rfl, rfl, rfl, by decide +kernel, rfl, by decide +kernel, by decide +kernel⟩
abbrev s_p_stands_so : Stmt := top 47
abbrev N_p_stands_so : List Str := ["cell", "sign", "value"]
theorem sc_p_stands_so : FnScope N_p_stands_so ["cell", "sign", "value"] (defScope s_p_stands_so) := ⟨rfl, rfl, rfl, by decide +kernel, rfl, by decide +kernel, by decide +kernel⟩
abbrev s_p_meets : Stmt := top 46
abbrev N_p_meets : List Str := ["cell", "test", "word"]
theorem sc_p_meets : FnScope N_p_meets ["cell", "test"] (defScope s_p_meets) := ⟨rfl, rfl, rfl, by decide +kernel, rfl, by decide +kernel, by decide +kernel⟩
abbrev s_p_cells_stand_so : Stmt := top 50
abbrev N_p_cells_stand_so : List Str := ["cell", "sign", "other"]
theorem sc_p_cells_stand_so : FnScope N_p_cells_stand_so ["cell", "sign", "other"] (defScope s_p_cells_stand_so) := ⟨rfl, rfl, rfl, by decide +kernel, rfl, by decide +kernel, by decide +kernel⟩
abbrev s_p_row_meets : Stmt := top 49
abbrev N_p_row_meets : List Str := ["row", "test", "word"]
theorem sc_p_row_meets : FnScope N_p_row_meets ["row", "test"] (defScope s_p_row_meets) := ⟨rfl, rfl, rfl, by decide +kernel, rfl, by decide +kernel, by decide +kernel⟩
abbrev s_p_sum_cell : Stmt := top 53
abbrev N_p_sum_cell : List Str := ["sign", "one", "other"]
theorem sc_p_sum_cell : FnScope N_p_sum_cell ["sign", "one", "other"] (defScope s_p_sum_cell) := ⟨rfl, rfl, rfl, by decide +kernel, rfl, by decide +kernel, by decide +kernel⟩
abbrev s_p_form_cell : Stmt := top 52
abbrev N_p_form_cell : List Str := ["row", "form", "word", "first"]
theorem sc_p_form_cell : FnScope N_p_form_cell ["row", "form"] (defScope s_p_form_cell) := ⟨rfl, rfl, rfl, by decide +kernel, rfl, by decide +kernel, by decide +kernel⟩
abbrev s_p_rows_of : Stmt := top 54
abbrev N_p_rows_of : List Str := ["question", "kinds", "rows", "word", "inner", "other", "unmated", "row", "form"]
theorem sc_p_rows_of : FnScope N_p_rows_of ["question", "kinds", "rows"] (defScope s_p_rows_of) := ⟨rfl, rfl, rfl, by decide +kernel, rfl, by decide +kernel, by decide +kernel⟩
abbrev s_value : Stmt := top 70
abbrev N_value : List Str := ["_law_state", "_law_kind"]
theorem sc_value : FnScope N_value ["_law_state", "_law_kind"] (defScope s_value) := ⟨rfl, rfl, rfl, by decide +kernel, rfl, by decide +kernel, by decide +kernel⟩
abbrev s_cells : Stmt := top 71
abbrev N_cells : List Str := ["_law_state", "_law_kind", "_law_many_here", "_law_way", "_law_open_in", "_law_some", "_law_step", "_law_cells_here", "_law_place", "_law_cell", "_law_turn"]
theorem sc_cells : FnScope N_cells ["_law_state", "_law_kind", "_law_many_here"] (defScope s_cells) := ⟨rfl, rfl, rfl, by decide +kernel, rfl, by decide +kernel, by decide +kernel⟩
abbrev s_kinds : Stmt := top 72
abbrev N_kinds : List Str := ["_law_state", "_law_many_here", "_law_turn"]
theorem sc_kinds : FnScope N_kinds ["_law_state"] (defScope s_kinds) := ⟨rfl, rfl, rfl, by decide +kernel, rfl, by decide +kernel, by decide +kernel⟩
abbrev s_rows : Stmt := top 73
abbrev N_rows : List Str := ["_law_state", "_law_kinds_here", "_law_many_here", "_law_columns", "_law_rows_here", "_law_turn", "_law_kind", "_law_place", "_law_column"]
theorem sc_rows : FnScope N_rows ["_law_state", "_law_kinds_here", "_law_many_here"] (defScope s_rows) := ⟨rfl, rfl, rfl, by decide +kernel, rfl, by decide +kernel, by decide +kernel⟩
abbrev s_small_rows : Stmt := top 74
abbrev N_small_rows : List Str := ["_law_state", "_law_kinds_here", "_law_many_here", "_law_rows_here", "_law_turn", "_law_row", "_law_kind", "_law_cell"]
theorem sc_small_rows : FnScope N_small_rows ["_law_state", "_law_kinds_here", "_law_many_here"] (defScope s_small_rows) := ⟨rfl, rfl, rfl, by decide +kernel, rfl, by decide +kernel, by decide +kernel⟩
abbrev s_table : Stmt := top 75
abbrev N_table : List Str := ["_law_state", "_law_kinds_here", "_law_many_here"]
theorem sc_table : FnScope N_table ["_law_state"] (defScope s_table) := ⟨rfl, rfl, rfl, by decide +kernel, rfl, by decide +kernel, by decide +kernel⟩
abbrev s_test : Stmt := top 77
abbrev N_test : List Str := ["_law_state", "_law_own", "_law_deep", "_law_way", "_law_place", "_law_sign", "_law_mates", "_law_other", "_law_turn"]
theorem sc_test : FnScope N_test ["_law_state", "_law_own", "_law_deep"] (defScope s_test) := ⟨rfl, rfl, rfl, by decide +kernel, rfl, by decide +kernel, by decide +kernel⟩
abbrev s_compared : Stmt := top 78
abbrev N_compared : List Str := ["_law_sign", "_law_one", "_law_other"]
theorem sc_compared : FnScope N_compared ["_law_sign", "_law_one", "_law_other"] (defScope s_compared) := ⟨rfl, rfl, rfl, by decide +kernel, rfl, by decide +kernel, by decide +kernel⟩
abbrev s_met : Stmt := top 79
abbrev N_met : List Str := ["_law_row", "_law_test_here", "_law_word", "_law_found", "_law_cell", "_law_inner"]
theorem sc_met : FnScope N_met ["_law_row", "_law_test_here"] (defScope s_met) := ⟨rfl, rfl, rfl, by decide +kernel, rfl, by decide +kernel, by decide +kernel⟩
abbrev s_form_of : Stmt := top 81
abbrev N_form_of : List Str := ["_law_state", "_law_own", "_law_deep", "_law_kind", "_law_form_here", "_law_found"]
theorem sc_form_of : FnScope N_form_of ["_law_state", "_law_own", "_law_deep", "_law_kind"] (defScope s_form_of) := ⟨rfl, rfl, rfl, by decide +kernel, rfl, by decide +kernel, by decide +kernel⟩
abbrev s_form : Stmt := top 80
abbrev N_form : List Str := ["_law_state", "_law_own", "_law_deep", "_law_way", "_law_one", "_law_other", "_law_place", "_law_kind"]
theorem sc_form : FnScope N_form ["_law_state", "_law_own", "_law_deep"] (defScope s_form) := ⟨rfl, rfl, rfl, by decide +kernel, rfl, by decide +kernel, by decide +kernel⟩
abbrev s_formed : Stmt := top 82
abbrev N_formed : List Str := ["_law_row", "_law_form_here", "_law_one", "_law_other"]
theorem sc_formed : FnScope N_formed ["_law_row", "_law_form_here"] (defScope s_formed) := ⟨rfl, rfl, rfl, by decide +kernel, rfl, by decide +kernel, by decide +kernel⟩
abbrev s_many : Stmt := top 83
abbrev N_many : List Str := ["_law_state"]
theorem sc_many : FnScope N_many ["_law_state"] (defScope s_many) := ⟨rfl, rfl, rfl, by decide +kernel, rfl, by decide +kernel, by decide +kernel⟩
abbrev s_right : Stmt := top 84
abbrev N_right : List Str := ["_law_question", "_law_kinds_here", "_law_rows_here", "_law_due", "_law_listed", "_law_tupled", "_law_others", "_law_kept", "_law_some", "_law_handed", "_law_found", "_law_name", "_law_row"]
theorem sc_right : FnScope N_right ["_law_question", "_law_kinds_here", "_law_rows_here", "_law_due"] (defScope s_right) := ⟨rfl, rfl, rfl, by decide +kernel, rfl, by decide +kernel, by decide +kernel⟩
abbrev s_p_law : Stmt := top 85
abbrev N_p_law : List Str := ["_law_script", "_law_state", "_law_turn", "_law_own", "_law_rows_here", "_law_kinds_here", "_law_tables", "_law_test_here", "_law_some", "_law_where", "_law_forms", "_law_due", "_law_row", "_law_again", "_law_form_here"]
theorem sc_p_law : FnScope N_p_law ["_law_script"] (defScope s_p_law) := ⟨rfl, rfl, rfl, by decide +kernel, rfl, by decide +kernel, by decide +kernel⟩
end K46

set_option maxHeartbeats 1000000
local macro_rules | `(tactic| walk_at "rd") => `(tactic| try simp only [Pk.r_seq, Pk.r_next, Pk.r_var, Pk.r_c, Pk.r_op, Pk.r_un, Pk.r_asg, Pk.r_gname, Pk.r_gnil, Pk.r_gcons, Pk.r_gsub, Pk.r_ifS, Pk.r_ret, Pk.r_retN, Pk.r_drop, Pk.r_break, Pk.r_cont, Pk.r_never, Pk.r_test, Pk.r_tB, Pk.r_and, Pk.r_or, Pk.r_not, Pk.r_andV, Pk.r_orV, Pk.r_notV, Pk.r_ifE, Pk.r_I, Pk.r_I0, Pk.r_U, Pk.r_Eq, Pk.r_Ne, Pk.r_ipI, Pk.r_aug, Pk.r_nil, Pk.r_cons, Pk.r_lst, Pk.r_tup, Pk.r_call, Pk.r_cb, Pk.r_bm, Pk.r_bm0, Pk.r_dget, Pk.r_dput, Pk.r_sl, Pk.r_nopart, Pk.r_part, Pk.r_yes, Pk.r_for1, Pk.r_for2, Pk.r_forL, Pk.r_forT, Pk.r_lc1, Pk.r_lcL, Pk.r_lcT, Pk.r_lcZ, Pk.r_lcS, Pk.r_lcE, Pk.r_chain, Pk.r_m1, Pk.w_nil, Pk.w_cons, Pk.m_nil, Pk.m_cons,
  Pk.g0, Pk.g1, Pk.g2, Pk.g3, Pk.g4, Pk.g5, Pk.g6, Pk.g7, Pk.g8, Pk.g9, Pk.g10, Pk.g11, Pk.s0, Pk.s1, Pk.s2, Pk.s3, Pk.s4, Pk.s5, Pk.s6, Pk.s7, Pk.s8, Pk.s9, Pk.s10, Pk.s11,
  Option.some.injEq, L2.V.int.injEq, L2.V.str.injEq, L2.V.bl.injEq, L2.V.ref.injEq, exists_and_left, exists_eq_left', exists_eq_left, exists_eq', exists_eq, List.cons.injEq, and_assoc, and_true, true_and, List.append_nil, decide_eq_true_eq, Bool.not_eq_true', decide_eq_false_iff_not, if_true, if_false, reduceCtorEq, decide_false, decide_true, not_false_eq_true, not_true_eq_false, Bool.not_false, Bool.not_true, ite_self, Bool.false_eq_true, List.cons_append, List.nil_append])
local macro_rules | `(tactic| walk_at "qd") => `(tactic| try simp only [Dd.q_kOp3, Dd.q_kOp2, Dd.q_kOp1, Dd.q_kTest, Dd.q_kNotT, Dd.q_kAndT, Dd.q_kOrT, Dd.q_kTru, Dd.q_kNot, Dd.q_kAnd, Dd.q_kOr, Dd.q_kIf, Dd.q_kNeg, Dd.q_kCh4, Dd.q_kCh3, Dd.q_kCh2, Dd.q_kCh1, Dd.q_kCons2, Dd.q_kCons1, Dd.q_kLst, Dd.q_kTup, Dd.q_kP, Dd.q_kSl3, Dd.q_kSl2, Dd.q_kSl1, Dd.q_kCB, Dd.q_kIsi, Dd.q_kJ2, Dd.q_kJ1, Dd.q_kIt, Dd.q_kR1, Dd.q_kR2, Dd.q_kZip, Dd.q_kEnum, Dd.q_kRev, Dd.q_kG, Dd.q_kRet, Dd.q_kNx, Dd.q_kSet, Dd.q_kAsg, Dd.q_kAug3, Dd.q_kAug2, Dd.q_kAug1, Dd.q_kApp2, Dd.q_kApp, Dd.q_kExt2, Dd.q_kExt, Dd.q_kSx3, Dd.q_kSx2, Dd.q_kSx1, Dd.q_kDrop, Dd.q_kIfS, Dd.q_kCall, Dd.q_kFor, Dd.q_kBody, Dd.q_kLc, Dd.q_kLcR, Dd.q_kLcE, Dd.q_kLcT, Dd.q_var, Dd.q_c, Dd.q_op, Dd.q_test, Dd.q_notT, Dd.q_andT, Dd.q_orT, Dd.q_tru, Dd.q_not, Dd.q_and, Dd.q_or, Dd.q_if, Dd.q_neg, Dd.q_chain, Dd.q_nil, Dd.q_cons, Dd.q_lst, Dd.q_tup, Dd.q_noP, Dd.q_P, Dd.q_sl, Dd.q_cb, Dd.q_isi, Dd.q_join, Dd.q_it, Dd.q_r1, Dd.q_r2, Dd.q_zip, Dd.q_enum, Dd.q_rev, Dd.q_gN, Dd.q_gsNil, Dd.q_gsCons, Dd.q_gTup, Dd.q_nx, Dd.q_seq, Dd.q_bk, Dd.q_ct, Dd.q_never, Dd.q_ret, Dd.q_retv, Dd.q_retN, Dd.q_putS, Dd.q_putO, Dd.q_set, Dd.q_asg, Dd.q_aug, Dd.q_own, Dd.q_app, Dd.q_ext, Dd.q_setIx, Dd.q_drop, Dd.q_ifS, Dd.q_frz, Dd.q_call, Dd.q_for, Dd.q_lc, Dd.q_fzs, Dd.q_fzb, Dd.q_fzp, Dd.q_fzo, Dd.q_fzg, Dd.q_kps0, Dd.q_kps1, Dd.q_ds, Dd.q_db, Dd.q_dp, Dd.q_do, Dd.q_kpS, Dd.q_kpO, Dd.q_itF1, Dd.q_itF2, Dd.q_itF3, Dd.q_itF4, Dd.q_itF5, Dd.q_itC1, Dd.q_itC2, Dd.q_itC3, Dd.q_itC4, Dd.q_itC5, Dd.q_itC6, Dd.q_lsF1, Dd.q_lsF2, Dd.q_lsC1, Dd.q_lsC2, Dd.q_lsC3, Dd.q_yes, Dd.q_mapS, Dd.q_fI, Dd.q_fI0, Dd.q_fOi, Dd.q_fOs, Dd.q_addI, Dd.q_addS, Dd.q_addOO, Dd.q_addBO, Dd.q_addOB, Dd.q_addBB, Dd.q_addPO, Dd.q_addSO, Dd.q_addSS, Dd.q_addOS, Dd.q_no0, Dd.q_noS, Dd.q_noB, Dd.q_noP', Dd.q_noG, Dd.q_toS, Dd.q_toB, Dd.q_toP, Dd.q_toG, Dd.q_take, Dd.q_eqI, Dd.q_neI, Dd.q_eqS, Dd.q_neS, Dd.q_isF, Dd.q_isT, Dd.q_isN0, Dd.q_isN1, Dd.q_isN2, Dd.q_isN3, Dd.q_isN4, Dd.q_ixO, Dd.q_ixB, Dd.q_ixP, Dd.q_ixS, Dd.q_ixT, Dd.q_ixZ, Dd.q_lenB, Dd.q_lenP, Dd.q_lenS, Dd.q_lenT, Dd.q_lenZ, Dd.q_listB, Dd.q_listP, Dd.q_listS, Dd.q_listT, Dd.q_tupB, Dd.q_tupP, Dd.q_tupS, Dd.q_tupT, Dd.q_intB, Dd.q_intI, Dd.q_fI1, Dd.q_fI2, Dd.q_slO, Dd.q_slB, Dd.q_slP, Dd.q_slS, Dd.q_slZ, Dd.q_repO, Dd.q_is0, Dd.q_is1, Dd.q_is2, Dd.q_is3, Dd.q_is4, Dd.q_is5, Dd.q_ws0, Dd.q_ws1, Dd.q_text, Dd.q_number, Dd.q_szl, Dd.q_disp, Dd.q_pairsN, Dd.q_pairsC, Dd.q_kPr1s, Dd.q_kPr1i, Dd.q_kPr2, Dd.q_kPr3, Dd.q_kDisp, Dd.q_dget1, Dd.q_du, Dd.q_kDu2, Dd.q_kDu3, Dd.q_isB, Dd.q_slT, Dd.q_kSlT1, Dd.q_kSlT2, Dd.q_kSlT3, Dd.q_strT, Dd.q_sidx, Dd.q_kSi1, Dd.q_kSi2, Dd.q_kWh, Dd.q_eqB, Dd.q_neB, Dd.q_par, Dd.q_kPar, Dd.q_displ, Dd.q_kDispL, Dd.q_dgetl, Dd.q_keysL, Dd.q_kKeysL, Dd.q_dictL, Dd.q_strZ, 
  Pk.g0, Pk.g1, Pk.g2, Pk.g3, Pk.g4, Pk.g5, Pk.g6, Pk.g7, Pk.g8, Pk.g9, Pk.g10, Pk.g11, Pk.s0, Pk.s1, Pk.s2, Pk.s3, Pk.s4, Pk.s5, Pk.s6, Pk.s7, Pk.s8, Pk.s9, Pk.s10, Pk.s11, Dd.g12, Dd.g13, Dd.g14, Dd.g15, Dd.g16, Dd.s12, Dd.s13, Dd.s14, Dd.s15, Dd.s16, List.map_cons, List.map_nil, Option.some.injEq, Dd.Rs.s.injEq, Dd.Rs.o.injEq, Dd.Rs.b.injEq, Dd.Rs.p.injEq, Dd.D.int.injEq, Dd.D.str.injEq, Dd.D.bl.injEq, Dd.D.lst.injEq, Dd.D.tup.injEq, Dd.Sl.val.injEq, Dd.Sl.bb.injEq, Dd.Sl.own.injEq, ne_eq, exists_and_left, exists_eq_left', exists_eq_left, exists_eq', exists_eq, List.cons.injEq, and_assoc, and_true, true_and, and_self, decide_eq_true_eq, Bool.not_eq_true', Bool.not_eq_eq_eq_not, decide_eq_false_iff_not, if_true, if_false, ite_true, ite_false, reduceCtorEq, decide_false, decide_true, not_false_eq_true, not_true_eq_false, Bool.not_false, Bool.not_true, Bool.false_eq_true, List.cons_append, List.nil_append, false_or, or_false, implies_true, List.length_cons, List.length_nil, Nat.zero_add, Nat.reduceAdd, Nat.reduceLeDiff, Int.reducePow, Int.reduceToNat, Int.toNat_natCast, Int.zero_add])
local macro_rules | `(tactic| walk_at "tk") => `(tactic| (unfold Dd.Tk; omega))
namespace K46
open PySem L2 Pk Dd
structure Zs (mg : Str → Option Value) : Prop where
  z_divmod : mg "divmod" = none
  z_len : mg "len" = none
  z_isinstance : mg "isinstance" = none
  z_bool : mg "bool" = none
  z_int : mg "int" = none
  z_str : mg "str" = none
  z_tuple : mg "tuple" = none
  z_list : mg "list" = none
  z_all : mg "all" = none
  z_zip : mg "zip" = none
  z_dict : mg "dict" = none
  z_range : mg "range" = none
  z_any : mg "any" = none
  z_max : mg "max" = none
section
variable {P : Program} {w : World} {K : PySem.W.Frag} {mg : Str → Option Value} {base : Heap}
theorem ok_take {j : Nat} {f : Addr} {fd : FuncData} (F : Fun K "_law_take" "_law_take" s_take f fd) (Z : Zs mg) : FnOk P w K mg base CX0 (j + 1) f fd ["_law_state", "_law_many_here"] spTake := by
  refine F.ok sc_take (fun vs H Q E h => ?_) (fun cdv A outer s H vs Q E hr h => ?_)
  · obtain ⟨d, c, b, m, rfl, _⟩ := h
    rfl
  · obtain ⟨d, c, b, m, rfl, ⟨ns, t, hne, hlen, t0, tb, hc, hd⟩, m0, m1, hb, k⟩ := h
    have hu := hu_of hr
    refine ⟨_, (pss_cons (ps_set (i := 2) sc_take.nd rfl (Or.inl rfl) (pe_op op_add (pe_dget hu (pv 0) pe_str (fun _ _ => rfl)) pe_int))
      (pss_cons (ps_dput hu (pv 0) pe_str (pv 2) rfl)
      (pss_cons (ps_set (i := 3) sc_take.nd rfl (Or.inl rfl) (pe_op op_mod (pv 2) (pe_callB call_lenQ (by rfl) Z.z_len (by decide +kernel) (pa_cons (pe_dget hu (pv 0) pe_str (fun _ _ => rfl)) pa_nil st_Subscript))))
      (pss_cons (ps_set (i := 4) sc_take.nd rfl (Or.inl rfl) (pe_ix ix_sq (pe_dget hu (pv 0) pe_str (fun _ _ => rfl)) (pv 3) (fun _ _ => rfl)))
      (pss_cons (ps_if (pt_cmpR op_ge (pv 4) (pe_op op_pow pe_int pe_int) (nomark _)) (pss_cons (ps_asg (pe_callB call_divmodW (by rfl) Z.z_divmod (by decide +kernel) (pa_cons (pv 4) (pa_cons (pv 1) pa_nil st_Name) st_Name)) (pg_tup (by rfl) (pgs_cons (pg_sub (pe_dget hu (pv 0) pe_str (fun _ _ => rfl)) (pv 3) set_list) (pgs_cons (pg_name (i := 6) sc_take.nd rfl (Or.inl rfl)) pgs_nil))))
      (pss_one (ps_ret (pv 6)))) pss_nil)
      (pss_cons (ps_set (i := 5) sc_take.nd rfl (Or.inl rfl) (pe_op op_mod (pe_op op_mul (pe_op op_add (pe_op op_add (pe_op op_mod (pv 4) pe_int) (pe_op op_mul (pe_op op_mul (pv 2) (pv 2)) pe_int)) pe_int) pe_int) pe_int))
      (pss_cons (ps_set (i := 5) sc_take.nd rfl (Or.inl rfl) (pe_op op_mod (pe_op op_mul (pv 5) (pv 5)) pe_int))
      (pss_one (ps_ret (pe_op op_mod (pe_op op_fdivW (pe_op op_mod (pe_op op_mul (pe_op op_add (pv 5) (pe_op op_mul (pv 2) pe_int)) pe_int) pe_int) pe_int) (pv 1))))))))))), ?_⟩
    rw [show start N_take [V.ref d, V.int m] = [some (V.ref d), some (V.int m), none, none, none, none, none] from rfl]
    walk_at "rd"
    have ncd : c ≠ d := ne_of hc hd (by intro z; cases z)
    refine ⟨_, dg (k := Sum.inr "turn") hd st_turn, t, rfl, _, dp (k := Sum.inr "turn") hd (by show 2 < sizeLine; decide) st_put, _, dg (k := Sum.inr "cells") upd_same st_cells, ?_⟩
    have hc1 : upd H d (.dK [((Sum.inr "cells" : Key), V.ref c), (Sum.inr "turn", V.int (t + 1))]) c = some (.lst (ns.map V.int)) := by rw [upd_ne ncd]; exact hc
    generalize hH1 : upd H d (.dK [((Sum.inr "cells" : Key), V.ref c), (Sum.inr "turn", V.int (t + 1))]) = H1 at hc1 ⊢
    have hd1 : H1 d = some (.dK [((Sum.inr "cells" : Key), V.ref c), (Sum.inr "turn", V.int (t + 1))]) := by rw [← hH1]; exact upd_same
    have f1 : Fr d c H H1 := fun a o e n1 n2 => by rw [← hH1, upd_ne n1]; exact e
    have lpos : 0 < ns.length := List.length_pos_iff.mpr hne
    refine ⟨c, _, rfl, Sq.l hc1, _, rfl, by rw [List.length_map]; omega, _, dg (k := Sum.inr "cells") hd1 st_cells, ?_⟩
    rw [List.length_map]
    have p0 : 0 ≤ (t + 1) % (ns.length : Int) := Int.emod_nonneg _ (by omega)
    have p1 : (t + 1) % (ns.length : Int) < ns.length := Int.emod_lt_of_pos _ (by omega)
    generalize (t + 1) % (ns.length : Int) = pl at p0 p1 ⊢
    obtain ⟨n, hn, ha⟩ := at_map (f := V.int) p0 p1
    refine ⟨c, pl, V.int n, rfl, rfl, ⟨_, Sq.l hc1, ha⟩, ⟨by decide, by decide, by decide⟩, n, rfl, ?_⟩
    have fin : ∀ ns' : List Int, ns'.length = ns.length → ∀ H2, H2 d = H1 d → H2 c = some (.lst (ns'.map V.int)) → StA H2 d c (b + 1) := fun ns' e H2 h1 h2 =>
      ⟨ns', t + 1, List.length_pos_iff.mp (by omega), by omega, by omega, by omega, h2, h1.trans hd1⟩
    refine ite2 (fun _ => ?_) (fun _ => ?_)
    · refine ⟨n, rfl, ⟨m0, m1⟩, fun p hp => gtup upd_same rfl ?_⟩
      walk_at "rd"
      have npd : d ≠ p := ne_of_none hd1 hp
      have npc : c ≠ p := ne_of_none hc1 hp
      have hc2 : upd H1 p (.tup [V.int (n / m), V.int (n % m)]) c = some (.lst (ns.map V.int)) := by rw [upd_ne npc]; exact hc1
      refine ⟨_, dg (k := Sum.inr "cells") (by rw [upd_ne npd]; exact hd1) st_cells, c, _, pl, pl.toNat, rfl, rfl, hc2, ix_ok p0 (by rw [List.length_map]; exact p1), ?_⟩
      try walk_at "rd"
      rw [← List.map_set]
      refine k _ _ (Int.emod_nonneg _ (by omega)) (Int.emod_lt_of_pos _ m0) (fin (ns.set pl.toNat (n / m)) List.length_set _ ?_ upd_same) fun a o e n1 n2 => ?_
      · rw [upd_ne ncd.symm, upd_ne npd]
      · rw [upd_ne n2, upd_ne (ne_of_none (f1 a o e n1 n2) hp)]
        exact f1 a o e n1 n2
    · refine ⟨n, rfl, by decide, .inl ⟨by omega, by omega⟩, .inr ⟨by decide, by decide⟩, .inr ⟨by decide, by decide⟩, by decide, .inl ⟨by omega, by omega⟩, by decide, .inr ⟨by decide, by decide⟩, .inr ⟨by decide, by decide⟩, by decide, ⟨by decide, by decide⟩, m0, ?_⟩
      exact k _ H1 (Int.emod_nonneg _ (by omega)) (Int.emod_lt_of_pos _ m0) (fin ns rfl H1 rfl hc1) f1
theorem ok_same {f : Addr} {fd : FuncData} (D_same : Df K mg "_law_same" s_same ["_law_found", "_law_due"] f fd) (Z : Zs mg) : ∀ m : Nat, FnOk P w K mg base CX0 m f fd ["_law_found", "_law_due"] (spSame m)
  | 0 => ⟨fun vs H Q E h => by obtain ⟨x, y, rfl, h, _⟩ := h; exact False.elim h, fun A o s H a us vs Q E _ _ _ _ h => by obtain ⟨x, y, rfl, h, _⟩ := h; exact False.elim h⟩
  | m + 1 => by
    have G_same := ok_same D_same Z m
    refine D_same.F.ok sc_same (fun vs H Q E h => ?_) (fun cdv A outer s H vs Q E hr h => ?_)
    · obtain ⟨x, y, rfl, _⟩ := h
      rfl
    · obtain ⟨x, y, rfl, h, k⟩ := h
      refine ⟨_, (pss_cons (ps_if (pt_cmpR op_isN (pv 1) pe_non (nomark _)) (pss_one (ps_ret (pe_cmpR op_isN (pv 0) pe_non (nomark _)))) pss_nil)
      (pss_cons (ps_if (pt_val (pe_callB call_isi (by rfl) Z.z_isinstance (by decide +kernel) (pa_cons (pv 1) (pa_cons (pe_bltn (v := .ty "dict") (u := .type "dict") (by rfl) Z.z_dict (by decide +kernel) rfl) pa_nil st_Name) st_Name))) pss_never pss_nil)
      (pss_cons (ps_if (PW.pt (pw_or (pt_val (pe_callB call_isi (by rfl) Z.z_isinstance (by decide +kernel) (pa_cons (pv 1) (pa_cons (pe_bltn (v := .ty "list") (u := .type "list") (by rfl) Z.z_list (by decide +kernel) rfl) pa_nil st_Name) st_Name))) (pw_or1 (pt_val (pe_callB call_isi (by rfl) Z.z_isinstance (by decide +kernel) (pa_cons (pv 1) (pa_cons (pe_bltn (v := .ty "tuple") (u := .type "tuple") (by rfl) Z.z_tuple (by decide +kernel) rfl) pa_nil st_Name) st_Name)))))) (pss_cons (ps_if (pt_cmpR op_ne (pe_callB call_isi (by rfl) Z.z_isinstance (by decide +kernel) (pa_cons (pv 0) (pa_cons (pe_bltn (v := .ty "list") (u := .type "list") (by rfl) Z.z_list (by decide +kernel) rfl) pa_nil st_Name) st_Name)) (pe_callB call_isi (by rfl) Z.z_isinstance (by decide +kernel) (pa_cons (pv 1) (pa_cons (pe_bltn (v := .ty "list") (u := .type "list") (by rfl) Z.z_list (by decide +kernel) rfl) pa_nil st_Name) st_Name)) (nomark _)) (pss_one (ps_ret pe_bl)) pss_nil)
      (pss_cons (ps_if (PW.pt (pw_or (pt_cmpR op_ne (pe_callB call_isi (by rfl) Z.z_isinstance (by decide +kernel) (pa_cons (pv 0) (pa_cons (pe_bltn (v := .ty "tuple") (u := .type "tuple") (by rfl) Z.z_tuple (by decide +kernel) rfl) pa_nil st_Name) st_Name)) (pe_callB call_isi (by rfl) Z.z_isinstance (by decide +kernel) (pa_cons (pv 1) (pa_cons (pe_bltn (v := .ty "tuple") (u := .type "tuple") (by rfl) Z.z_tuple (by decide +kernel) rfl) pa_nil st_Name) st_Name)) (nomark _)) (pw_or1 (pt_cmpR op_ne (pe_callB call_lenQ (by rfl) Z.z_len (by decide +kernel) (pa_cons (pv 0) pa_nil st_Name)) (pe_callB call_lenQ (by rfl) Z.z_len (by decide +kernel) (pa_cons (pv 1) pa_nil st_Name)) (nomark _))))) (pss_one (ps_ret pe_bl)) pss_nil)
      (pss_one (ps_ret (pe_callB (cr_all rfl) (by rfl) Z.z_all (by decide +kernel) (pa_cons (pe_lc (own := [("_law_one", 3), ("_law_other", 4)]) (g := (gTup K 2 (gCons (gName 3) (gCons (gName 4) gNil)))) (by rfl) sc_same.nd (pi_zipQ (by rfl) Z.z_zip (pa_cons (pv 0) (pa_cons (pv 1) pa_nil st_Name) st_Name)) (blkOk_by (own := [("_law_one", 3), ("_law_other", 4)]) (N := N_same) (sc := defScope s_same) (by decide +kernel)) (fun _ _ _ _ _ => (pg_tup (by rfl) (pgs_cons (pg_name (i := 3) sc_same.nd rfl (Or.inl rfl)) (pgs_cons (pg_name (i := 4) sc_same.nd rfl (Or.inl rfl)) pgs_nil)))) (fun _ _ _ _ _ => pts_nil) (fun _ _ _ _ _ => (pe_call G_same hr (by rfl) D_same.m D_same.F.kp D_same.b .nil pass0 (pa_cons (pv 3) (pa_cons (pv 4) pa_nil st_Name) st_Name)))) pa_nil st_ListComp)))))) pss_nil)
      (pss_cons (ps_if (pt_val (pe_callB call_isi (by rfl) Z.z_isinstance (by decide +kernel) (pa_cons (pv 1) (pa_cons (pe_bltn (v := .ty "str") (u := .type "str") (by rfl) Z.z_str (by decide +kernel) rfl) pa_nil st_Name) st_Name))) (pss_one (ps_ret (pe_and (pe_callB call_isi (by rfl) Z.z_isinstance (by decide +kernel) (pa_cons (pv 0) (pa_cons (pe_bltn (v := .ty "str") (u := .type "str") (by rfl) Z.z_str (by decide +kernel) rfl) pa_nil st_Name) st_Name)) (pe_one (pe_cmpR op_eq (pv 0) (pv 1) (nomark _)))))) pss_nil)
      (pss_one (ps_ret (pe_and (pe_callB call_isi (by rfl) Z.z_isinstance (by decide +kernel) (pa_cons (pv 0) (pa_cons (pe_bltn (v := .ty "int") (u := .type "int") (by rfl) Z.z_int (by decide +kernel) rfl) pa_nil st_Name) st_Name)) (pe_and (pe_not (pe_callB call_isi (by rfl) Z.z_isinstance (by decide +kernel) (pa_cons (pv 0) (pa_cons (pe_bltn (v := .ty "bool") (u := .type "bool") (by rfl) Z.z_bool (by decide +kernel) rfl) pa_nil st_Name) st_Name))) (pe_one (pe_cmpR op_eq (pv 0) (pv 1) (nomark _))))))))))), ?_⟩
      rw [show start N_same [x, y] = [some (x), some (y), none, none, none] from rfl]
      rcases h with ⟨rfl, rfl⟩ | ⟨i, rfl, rfl⟩ | ⟨i, rfl, rfl⟩ | ⟨a, b, xs, ys, rfl, rfl, h, hn, hl, he⟩
      · walk_at "rd"
        exact k H (Same.refl H)
      · walk_at "rd"
        refine isi (.int i) kt_int_dict ?_
        walk_at "rd"
        refine isi (.int i) kt_int_list ?_
        walk_at "rd"
        refine isi (.int i) kt_int_tuple ?_
        walk_at "rd"
        refine isi (.int i) kt_int_str ?_
        walk_at "rd"
        refine isi (.int i) kt_int_int ?_
        walk_at "rd"
        refine isi (.int i) kt_int_bool ?_
        walk_at "rd"
        exact ⟨rfl, k H (Same.refl H)⟩
      · walk_at "rd"
        refine isi (.str i) kt_str_dict ?_
        walk_at "rd"
        refine isi (.str i) kt_str_list ?_
        walk_at "rd"
        refine isi (.str i) kt_str_tuple ?_
        walk_at "rd"
        refine isi (.str i) kt_str_str ?_
        walk_at "rd"
        refine isi (.str i) kt_str_str ?_
        walk_at "rd"
        exact ⟨rfl, k H (Same.refl H)⟩
      · walk_at "rd"
        rcases h with ⟨ha, hb⟩ | ⟨ha, hb⟩
        · refine isi (.lst hb) kt_list_dict ?_
          walk_at "rd"
          refine isi (.lst hb) kt_list_list ?_
          walk_at "rd"
          refine isi (.lst ha) kt_list_list ?_
          walk_at "rd"
          refine isi (.lst hb) kt_list_list ?_
          walk_at "rd"
          refine ⟨rfl, isi (.lst ha) kt_list_tuple ?_⟩
          walk_at "rd"
          refine isi (.lst hb) kt_list_tuple ?_
          walk_at "rd"
          refine ⟨rfl, a, _, rfl, Sq.l ha, b, _, rfl, Sq.l hb, rfl, ?_⟩
          rw [hn]
          walk_at "rd"
          refine Or.inl ⟨_, SqL.of ha, _, SqL.of hb, ?_⟩
          refine lc_z hn fun D hD => ⟨fun i H2 => Same H H2 ∧ H2 D = some (.lst ((List.replicate i true).map V.bl)), ⟨Same.new hD, upd_same⟩, fun i H2 h2 => ⟨SqL.of (h2.1 _ _ ha), SqL.of (h2.1 _ _ hb)⟩, ?_, ?_⟩
          · intro i u v T H2 hx hy h2 hT
            refine gtup upd_same rfl ?_
            walk_at "rd"
            refine ⟨_, _, rfl, EqA.same (h2.1.trans (Same.new hT)) (he i u v hx hy), fun H3 s3 => ⟨_, s3 _ _ (Same.new hT _ _ h2.2), ?_, ?_, ?_⟩⟩
            · rw [List.length_map, List.length_replicate]
              exact Nat.lt_of_lt_of_le (Nat.lt_trans (List.getElem?_eq_some_iff.mp hx).1 hl) (by decide)
            · exact Same.upd ((h2.1.trans (Same.new hT)).trans s3) hD
            · rw [upd_same, List.replicate_succ', List.map_append]
              rfl
          · intro H2 h2
            walk_at "rd"
            refine ⟨D, _, rfl, SqL.of h2.2, ?_⟩
            rw [all_true]
            exact k H2 h2.1
        · refine isi (.tup hb) kt_tuple_dict ?_
          walk_at "rd"
          refine isi (.tup hb) kt_tuple_list ?_
          walk_at "rd"
          refine isi (.tup hb) kt_tuple_tuple ?_
          walk_at "rd"
          refine isi (.tup ha) kt_tuple_list ?_
          walk_at "rd"
          refine isi (.tup hb) kt_tuple_list ?_
          walk_at "rd"
          refine ⟨rfl, isi (.tup ha) kt_tuple_tuple ?_⟩
          walk_at "rd"
          refine isi (.tup hb) kt_tuple_tuple ?_
          walk_at "rd"
          refine ⟨rfl, a, _, rfl, Sq.t ha, b, _, rfl, Sq.t hb, rfl, ?_⟩
          rw [hn]
          walk_at "rd"
          refine Or.inr ⟨_, SqT.of ha, _, SqT.of hb, ?_⟩
          refine lc_zT hn fun D hD => ⟨fun i H2 => Same H H2 ∧ H2 D = some (.lst ((List.replicate i true).map V.bl)), ⟨Same.new hD, upd_same⟩, fun i H2 h2 => ⟨SqT.of (h2.1 _ _ ha), SqT.of (h2.1 _ _ hb)⟩, ?_, ?_⟩
          · intro i u v T H2 hx hy h2 hT
            refine gtup upd_same rfl ?_
            walk_at "rd"
            refine ⟨_, _, rfl, EqA.same (h2.1.trans (Same.new hT)) (he i u v hx hy), fun H3 s3 => ⟨_, s3 _ _ (Same.new hT _ _ h2.2), ?_, ?_, ?_⟩⟩
            · rw [List.length_map, List.length_replicate]
              exact Nat.lt_of_lt_of_le (Nat.lt_trans (List.getElem?_eq_some_iff.mp hx).1 hl) (by decide)
            · exact Same.upd ((h2.1.trans (Same.new hT)).trans s3) hD
            · rw [upd_same, List.replicate_succ', List.map_append]
              rfl
          · intro H2 h2
            walk_at "rd"
            refine ⟨D, _, rfl, SqL.of h2.2, ?_⟩
            rw [all_true]
            exact k H2 h2.1
theorem ok_begin {j : Nat} {f : Addr} {fd : FuncData} (F : Fun K "_law_begin" "_law_begin" s_begin f fd) (Z : Zs mg) : FnOk P w K mg base CX0 (j + 1) f fd ["_law_script"] (spBegin K) := by
  refine F.ok sc_begin (fun vs H Q E h => ?_) (fun cdv A outer s H vs Q E hr h => ?_)
  · obtain ⟨a, ns, rfl, _⟩ := h
    rfl
  · obtain ⟨a, ns, rfl, hq, k⟩ := h
    refine ⟨_, (pss_cons (ps_set (i := 1) sc_begin.nd rfl (Or.inl rfl) (pe_callTy call_list_of (by rfl) Z.z_list (by decide +kernel) (pa_cons (pe_slice sl_list (pv 0) po_none (po_some pe_int)) pa_nil st_Subscript)))
      (pss_cons (ps_if (pt_cmpR (op_eqD hr.units) (pv 1) (pe_lst pa_nil) (nomark _)) (pss_one (ps_set (i := 1) sc_begin.nd rfl (Or.inl rfl) (pe_lst (pa_cons pe_int pa_nil st_Constant)))) pss_nil)
      (pss_one (ps_ret (pe_disp (pps_cons pe_str (pv 1) (pps_cons pe_str pe_int pps_nil)) (by rfl) (by rfl) (fun z => by cases z) (by decide)))))), ?_⟩
    rw [show start N_begin [V.ref a] = [some (V.ref a), none] from rfl]
    walk_at "rd"
    refine ⟨a, _, rfl, hq, fun p1 hp1 => ?_⟩
    walk_at "rd"
    have ec : cutV (ns.map V.int) none (some 63) = (ns.take 63).map V.int := by
      unfold cutV
      simp [HT.sIx, List.map_take]
    rw [ec]
    refine ⟨_, Or.inl (SqL.of upd_same), fun p2 hp2 => ⟨by decide, fun p3 hp3 => ?_⟩⟩
    have s3 : Same H (upd (upd (upd H p1 (.lst ((ns.take 63).map V.int))) p2 (.lst ((ns.take 63).map V.int))) p3 (.lst [])) := ((Same.new hp1).trans (Same.new hp2)).trans (Same.new hp3)
    have e2 : upd (upd (upd H p1 (.lst ((ns.take 63).map V.int))) p2 (.lst ((ns.take 63).map V.int))) p3 (.lst []) p2 = some (.lst ((ns.take 63).map V.int)) := Same.new hp3 _ _ upd_same
    have e3 : upd (upd (upd H p1 (.lst ((ns.take 63).map V.int))) p2 (.lst ((ns.take 63).map V.int))) p3 (.lst []) p3 = some (.lst (([] : List Int).map V.int)) := upd_same
    have f2 : H p2 = none := (Same.new hp1).free hp2
    generalize upd (upd (upd H p1 (.lst ((ns.take 63).map V.int))) p2 (.lst ((ns.take 63).map V.int))) p3 (.lst []) = H3 at s3 e2 e3 ⊢
    refine ⟨_, _, dp_lst e2, dp_lst e3, shaped_ints _, shaped_ints _, _, rfl, ?_⟩
    cases hms : ns.take 63 with
    | nil =>
      refine iteT ⟨len1, fun p4 hp4 => disp_st (ns := [7]) upd_same (by simp) (by simp) rfl fun d H' hd sm st => k d p4 H' (s3.trans ((Same.new hp4).trans sm)) ((s3.trans (Same.new hp4)).free hd) (s3.free hp4) st⟩
    | cons m ms =>
      refine iteF (disp_st (ns := ns.take 63) e2 (by rw [hms]; simp) (by rw [List.length_take]; omega) rfl fun d H' hd sm st => k d p2 H' (s3.trans sm) (s3.free hd) f2 st)
theorem ok_number {j : Nat} {f : Addr} {fd : FuncData} {f_take : Addr} {fd_take : FuncData} (F : Fun K "_law_number" "_law_number" s_number f fd) (Z : Zs mg) (D_take : Df K mg "_law_take" s_take ["_law_state", "_law_many_here"] f_take fd_take) (G_take : FnOk P w K mg base CX0 j f_take fd_take ["_law_state", "_law_many_here"] spTake) : FnOk P w K mg base CX0 (j + 1) f fd ["_law_state"] spNumber := by
  refine F.ok sc_number (fun vs H Q E h => ?_) (fun cdv A outer s H vs Q E hr h => ?_)
  · obtain ⟨d, c, b, rfl, _⟩ := h
    rfl
  · obtain ⟨d, c, b, rfl, st, hb, k⟩ := h
    refine ⟨_, (pss_cons (ps_set (i := 1) sc_number.nd rfl (Or.inl rfl) (pe_call G_take hr (by rfl) D_take.m D_take.F.kp D_take.b .nil pass0 (pa_cons (pv 0) (pa_cons pe_int pa_nil st_Constant) st_Name)))
      (pss_cons (ps_set (i := 2) sc_number.nd rfl (Or.inl rfl) (pe_call G_take hr (by rfl) D_take.m D_take.F.kp D_take.b .nil pass0 (pa_cons (pv 0) (pa_cons pe_int pa_nil st_Constant) st_Name)))
      (pss_cons (ps_if (pt_cmpR op_eq (pv 1) pe_int (nomark _)) (@pss_pick _ 2 _ _ _ _ _ _ _ _ _ sc_number.nd rfl rfl (pao_cons pe_int (pao_cons pe_int (pao_cons pe_int (pao_cons pe_int (pao_cons pe_int (pao_cons pe_int (pao_cons pe_int (pao_cons pe_int (pao_cons (pe_op op_sub (pe_op op_pow pe_int pe_int) pe_int) (pao_cons (pe_op op_pow pe_int pe_int) (pao_cons pe_int (pao_cons pe_int pao_nil st_Constant) st_Constant) st_BinOp) st_BinOp) st_Constant) st_Constant) st_Constant) st_Constant) st_Constant) st_Constant) st_Constant) st_Constant) (pv 2) (fun _ _ => rfl)) pss_nil)
      (pss_cons (ps_if (pt_cmpR op_eq (pv 1) pe_int (nomark _)) (pss_one (ps_set (i := 2) sc_number.nd rfl (Or.inl rfl) (pe_op op_add (pe_op op_mul (pe_call G_take hr (by rfl) D_take.m D_take.F.kp D_take.b .nil pass0 (pa_cons (pv 0) (pa_cons (pe_op op_pow pe_int pe_int) pa_nil st_BinOp) st_Name)) (pe_op op_pow pe_int pe_int)) (pe_call G_take hr (by rfl) D_take.m D_take.F.kp D_take.b .nil pass0 (pa_cons (pv 0) (pa_cons (pe_op op_pow pe_int pe_int) pa_nil st_BinOp) st_Name))))) pss_nil)
      (pss_cons (ps_if (pt_cmpR op_eq (pv 1) pe_int (nomark _)) (pss_one (ps_set (i := 2) sc_number.nd rfl (Or.inl rfl) (pe_call G_take hr (by rfl) D_take.m D_take.F.kp D_take.b .nil pass0 (pa_cons (pv 0) (pa_cons pe_int pa_nil st_Constant) st_Name)))) pss_nil)
      (pss_one (ps_ret (pe_op op_mul (pv 2) (pe_ix ix_sq (pe_lst (pa_cons pe_int (pa_cons (pe_un un_neg pe_int) pa_nil st_UnaryOp) st_Constant)) (pe_call G_take hr (by rfl) D_take.m D_take.F.kp D_take.b .nil pass0 (pa_cons (pv 0) (pa_cons pe_int pa_nil st_Constant) st_Name)) (fun _ _ => rfl)))))))))), ?_⟩
    rw [show start N_number [V.ref d] = [some (V.ref d), none, none] from rfl]
    walk_at "rd"
    refine ⟨d, c, b, 6, rfl, st, by decide, by decide, by omega, fun wy H1 w0 w1 st1 fr1 => ?_⟩
    walk_at "rd"
    refine ⟨d, c, b + 1, 12, rfl, st1, by decide, by decide, by omega, fun x H2 x0 x1 st2 fr2 => ⟨rfl, ?_⟩⟩
    walk_at "rd"
    have fin : ∀ (x : Int) (H3 : Hp) (b3 : Nat), b3 ≤ b + 4 → x.natAbs < 10 ^ 18 → StA H3 d c b3 → Fr d c H H3 → ∀ p, H3 p = none →
        spTake [V.ref d, V.int 2] (upd H3 p (.lst [V.int 1, V.int (-1)])) (fun y H2 => rIxQ (V.ref p) y H2 fun y H2 => ∃ z, y = V.int z ∧ CMul x z ∧ Q (V.int (x * z)) H2) E0 := by
      intro x H3 b3 hb3 hx st3 fr3
      refine pick (m := 2) st3 (by omega) rfl (by decide) (by decide) fun r v H' hr hv st' fr' => ?_
      have e : v = V.int 1 ∨ v = V.int (-1) := by
        match r, hr, hv with
        | 0, _, hv => exact Or.inl (Option.some.inj hv).symm
        | 1, _, hv => exact Or.inr (Option.some.inj hv).symm
      rcases e with rfl | rfl
      · exact ⟨_, rfl, .inr ⟨by decide, by decide⟩, k _ H' (by rw [Int.mul_one]; exact hx) (st'.mono (by omega)) (fr3.trans fr')⟩
      · exact ⟨_, rfl, .inr ⟨by decide, by decide⟩, k _ H' (by rw [Int.mul_neg, Int.mul_one, Int.natAbs_neg]; exact hx) (st'.mono (by omega)) (fr3.trans fr')⟩
    have fr12 := fr1.trans fr2
    refine ite2 (fun hw => ⟨⟨by decide, by decide, by decide⟩, ⟨by decide, by decide, by decide⟩, by show 12 ≤ sizeLine; decide, fun p hp => ?_⟩) (fun hw => ⟨rfl, ?_⟩)
    · obtain ⟨y, hy, ha⟩ := at_map (f := V.int) (ns := [0, 1, 63, 64, 127, 128, 8191, 8192, 10 ^ Int.toNat 18 - 1, 10 ^ Int.toNat 17, 255, 256]) x0 x1
      have hyb : y.natAbs < 10 ^ 18 := (by decide : ∀ y ∈ ([0, 1, 63, 64, 127, 128, 8191, 8192, 10 ^ Int.toNat 18 - 1, 10 ^ Int.toNat 17, 255, 256] : List Int), y.natAbs < 10 ^ 18) y (List.mem_of_getElem? hy)
      refine ⟨p, x, V.int y, rfl, rfl, ⟨_, Sq.l upd_same, ha⟩, rfl, ?_⟩
      rw [if_neg (by omega)]
      refine ⟨rfl, ?_⟩
      rw [if_neg (by omega)]
      walk_at "rd"
      exact ⟨len2, fin y _ (b + 1 + 1) (by omega) hyb (st2.new hp) (fr12.trans (Fr.of (Same.new hp)))⟩
    · refine ite2 (fun hw2 => ?_) (fun hw2 => ⟨rfl, ?_⟩)
      · refine ⟨⟨by decide, by decide, by decide⟩, d, c, b + 1 + 1, 10 ^ Int.toNat 9, rfl, st2, by decide, by decide, by omega, fun u H3 u0 u1 st3 fr3 => ?_⟩
        walk_at "rd"
        refine ⟨⟨by decide, by decide, by decide⟩, .inr ⟨by decide, by decide⟩, ⟨by decide, by decide, by decide⟩, d, c, b + 1 + 1 + 1, 10 ^ Int.toNat 9, rfl, st3, by decide, by decide, by omega, fun v H4 v0 v1 st4 fr4 => ?_⟩
        walk_at "rd"
        refine ⟨rfl, ?_⟩
        rw [if_neg (by omega)]
        refine ⟨len2, fin _ _ (b + 1 + 1 + 1 + 1) (by omega) ?_ st4 ((fr12.trans fr3).trans fr4)⟩
        have e9 : (10 : Int) ^ Int.toNat 9 = 1000000000 := by decide
        rw [e9] at u1 v1 ⊢
        omega
      · refine ite2 (fun hw3 => ?_) (fun hw3 => ?_)
        · refine ⟨d, c, b + 1 + 1, 2000, rfl, st2, by decide, by decide, by omega, fun u H3 u0 u1 st3 fr3 => ?_⟩
          walk_at "rd"
          exact ⟨len2, fin _ _ (b + 1 + 1 + 1) (by omega) (by omega) st3 (fr12.trans fr3)⟩
        · walk_at "rd"
          exact ⟨len2, fin _ _ (b + 1 + 1) (by omega) (by omega) st2 fr12⟩
theorem ok_text {j : Nat} {f : Addr} {fd : FuncData} {f_take : Addr} {fd_take : FuncData} (F : Fun K "_law_text" "_law_text" s_text f fd) (Z : Zs mg) (D_take : Df K mg "_law_take" s_take ["_law_state", "_law_many_here"] f_take fd_take) (G_take : FnOk P w K mg base CX0 j f_take fd_take ["_law_state", "_law_many_here"] spTake) : FnOk P w K mg base CX0 (j + 1) f fd ["_law_state"] (spText 0) := by
  refine F.ok sc_text (fun vs H Q E h => ?_) (fun cdv A outer s H vs Q E hr h => ?_)
  · obtain ⟨d, c, b, rfl, _⟩ := h
    rfl
  · obtain ⟨d, c, b, rfl, st, hb, k⟩ := h
    refine ⟨_, (@pss_lst _ 1 _ _ _ _ _ _ _ _ sc_text.nd rfl rfl (pao_cons pe_str (pao_cons pe_str (pao_cons pe_str (pao_cons pe_str (pao_cons pe_str (pao_cons pe_str (pao_cons pe_str (pao_cons pe_str (pao_cons pe_str (pao_cons pe_str (pao_cons (pe_op op_rep_str pe_str pe_int) (pao_cons (pe_slice sl_str pe_str po_none (po_some pe_int)) pao_nil st_Subscript) st_BinOp) st_Constant) st_Constant) st_Constant) st_Constant) st_Constant) st_Constant) st_Constant) st_Constant) st_Constant) st_Constant)
      (pss_cons (ps_if (pt_cmpR op_gt (pe_call G_take hr (by rfl) D_take.m D_take.F.kp D_take.b .nil pass0 (pa_cons (pv 0) (pa_cons pe_int pa_nil st_Constant) st_Name)) pe_int (nomark _)) (pss_one (ps_ret (pe_ix ix_sq (pv 1) (pe_call G_take hr (by rfl) D_take.m D_take.F.kp D_take.b .nil pass0 (pa_cons (pv 0) (pa_cons pe_int pa_nil st_Constant) st_Name)) (fun _ _ => rfl)))) pss_nil)
      (pss_cons (ps_set (i := 2) sc_text.nd rfl (Or.inr rfl) pe_str)
      (pss_one (ps_ret (pe_join pe_str (pe_lc (own := [("_law_turn", 3)]) (g := (gName 3)) (by rfl) sc_text.nd (pi_range1 (by rfl) Z.z_range (pa_cons (pe_call G_take hr (by rfl) D_take.m D_take.F.kp D_take.b .nil pass0 (pa_cons (pv 0) (pa_cons pe_int pa_nil st_Constant) st_Name)) pa_nil st_Call)) (blkOk_by (own := [("_law_turn", 3)]) (N := N_text) (sc := defScope s_text) (by decide +kernel)) (fun _ _ _ _ _ => (pg_name (i := 3) sc_text.nd rfl (Or.inl rfl))) (fun _ _ _ _ _ => pts_nil) (fun _ _ _ _ _ => (pe_ix ix_str (pv 2) (pe_call G_take hr (by rfl) D_take.m D_take.F.kp D_take.b .nil pass0 (pa_cons (pv 0) (pa_cons (pe_callB call_len_str (by rfl) Z.z_len (by decide +kernel) (pa_cons (pv 2) pa_nil st_Name)) pa_nil st_Call) st_Name)) (fun _ _ => rfl)))))))))), ?_⟩
    rw [show start N_text [V.ref d] = [some (V.ref d), none, none, none] from rfl]
    walk_at "rd"
    refine ⟨20, rfl, by decide, by decide, by decide +kernel, by decide +kernel, _, rfl, by decide +kernel, by show 12 ≤ sizeLine; decide, fun p hp => ?_⟩
    generalize hws : ([V.str (Str.ofString "a"), V.str (Str.ofString ""), V.str (Str.ofString "aa"), V.str (Str.ofString "b"), V.str (Str.ofString "ab"), V.str (Str.ofString "~"), V.str (Str.ofString " "), V.str (Str.ofString "zz top"), V.str (Str.ofString "Aa"), V.str (Str.ofString "0"), _, _] : List V) = wl
    obtain ⟨ws, ews, hl12, hok⟩ : ∃ ws : List Str, wl = ws.map V.str ∧ ws.length = 12 ∧ ∀ t ∈ ws, chkT t = true := by
      refine ⟨[Str.ofString "a", Str.ofString "", Str.ofString "aa", Str.ofString "b", Str.ofString "ab", Str.ofString "~", Str.ofString " ", Str.ofString "zz top", Str.ofString "Aa", Str.ofString "0", _, _], hws.symm, rfl, by decide +kernel⟩
    subst ews
    refine ⟨d, c, b, 4, rfl, st.new hp, by decide, by decide, by omega, fun r H1 r0 r1 st1 fr1 => ⟨r, rfl, ite2 (fun h0 => ?_) (fun h0 => ?_)⟩⟩
    · have l1 := (st.lv (o := .lst (ws.map V.str)) hp).fr fr1
      have fr1 := (Fr.of (Same.new (o := .lst (ws.map V.str)) hp)).trans fr1
      refine ⟨d, c, b + 1, 12, rfl, st1, by decide, by decide, by omega, fun i H2 i0 i1 st2 fr2 => ?_⟩
      obtain ⟨t, ht, ha⟩ := at_map (f := V.str) (ns := ws) i0 (by omega)
      exact ⟨p, i, V.str t, rfl, rfl, ⟨_, Sq.l (l1.fr fr2).1, ha⟩, k t H2 (okT_of (hok t (List.mem_of_getElem? ht))) (st2.mono (by omega)) (fr1.trans fr2)⟩
    · have fr1 := (Fr.of (Same.new (o := .lst (ws.map V.str)) hp)).trans fr1
      refine ⟨d, c, b + 1, 21, rfl, st1, by decide, by decide, by omega, fun m H2 m0 m1 st2 fr2 => ⟨m, rfl, by omega, by omega, ?_⟩⟩
      generalize hsg : Str.ofString " !\"#$&'()*+,-./0123456789:;<=>?@ABCXYZ[]^_`abcxyz{|}~" = sg
      have hsl : sg.length = 53 ∧ ∀ c ∈ sg.cps.toList, okC c = true := by subst hsg; decide +kernel
      refine lc_r fun D hD => ⟨fun i H3 => ∃ cs : List Nat, StA H3 d c (b + 2 + i) ∧ Fr d c H2 H3 ∧ Lv d c H3 D (.lst (cs.map (fun c => V.str (sgn1 c)))) ∧ cs.length = i ∧ ∀ c ∈ cs, okC c = true, ⟨[], st2.new hD, Fr.of (Same.new hD), st2.lv hD, rfl, by simp⟩, ?_, ?_⟩
      · rintro i H3 hi ⟨cs, st3, fr3, l3, hl, hcs⟩
        walk_at "rd"
        refine ⟨Nat.le_trans (Nat.le_of_eq hsl.1) (by decide), d, c, b + 2 + i, sg.length, rfl, st3, by omega, by omega, by omega, fun q H4 q0 q1 st4 fr4 => ?_⟩
        have hqn : q.toNat < sg.cps.toList.length := by show q.toNat < sg.length; omega
        have ha : atI sg.cps.toList ((q.toNat : Nat) : Int) = some sg.cps.toList[q.toNat] := atI_nat (List.getElem?_eq_getElem hqn)
        have hokc := hsl.2 _ (List.getElem_mem hqn)
        rw [Int.toNat_of_nonneg q0] at ha
        generalize sg.cps.toList[q.toNat] = cc at ha hokc
        have l4 := l3.fr fr4
        refine ⟨sg, q, cc, rfl, rfl, Nat.le_trans (Nat.le_of_eq hsl.1) (by decide), ha, _, l4.1, by rw [List.length_map]; exact small1000 (by omega), ?_⟩
        walk_at "rd"
        refine ⟨(st4.upd l4.2).mono (by omega), fun a o ha n1 n2 => ?_, cs ++ [cc], ?_, ?_, ?_⟩
        · rw [upd_ne (ne_of_none ha hD)]
          exact (fr3.trans fr4) a o ha n1 n2
        · rw [List.map_append]
          exact l4.set
        · rw [List.length_append, hl]
          rfl
        · intro m hm
          rcases List.mem_append.mp hm with h | h
          · exact hcs m h
          · rw [List.mem_singleton.mp h]
            exact hokc
      · rintro H3 ⟨cs, st3, fr3, l3, hl, hcs⟩
        walk_at "rd"
        refine ⟨cs.map sgn1, Or.inl (SqL.of (by rw [l3.1, List.map_map]; rfl)), ?_, ?_⟩
        · rw [sum_sg, show (Str.ofString "").length = 0 from rfl]
          omega
        · rw [join_sg]
          exact k _ H3 (okT_cs (by omega) hcs) (st3.mono (by omega)) ((fr1.trans fr2).trans fr3)
theorem okd_p_stands_so {j : Nat} {f : Addr} {fd : FuncData} (F : Fun K "stands_so" "stands_so" s_p_stands_so f fd) (Z : Zs mg) : FnOk P w K mg base CX0 (j + 1) f fd ["cell", "sign", "value"] (spD K dsStands) := by
  refine fnD F sc_p_stands_so (fun args b k kx h => ?_) fun cdv A outer s H E c hK hr => ⟨_, (s_cons (s_if (t_cmpK (c_eq hK hr.units) (d_var (pv 1)) d_str (nomark _)) (s_one (s_ret (d_cmpK (c_eq hK hr.units) (d_var (pv 0)) (d_var (pv 2)) (nomark _)))) s_nil)
      (s_cons (s_if (t_cmpK (c_eq hK hr.units) (d_var (pv 1)) d_str (nomark _)) (s_one (s_ret (d_cmpK (c_ne hK hr.units) (d_var (pv 0)) (d_var (pv 2)) (nomark _)))) s_nil)
      (s_cons (s_if (t_cmpK (c_eq hK hr.units) (d_var (pv 1)) d_str (nomark _)) (s_one (s_ret (d_cmpK c_lt (d_var (pv 0)) (d_var (pv 2)) (nomark _)))) s_nil)
      (s_cons (s_if (t_cmpK (c_eq hK hr.units) (d_var (pv 1)) d_str (nomark _)) (s_one (s_ret (d_cmpK c_le (d_var (pv 0)) (d_var (pv 2)) (nomark _)))) s_nil)
      (s_cons (s_if (t_cmpK (c_eq hK hr.units) (d_var (pv 1)) d_str (nomark _)) (s_one (s_ret (d_cmpK c_gt (d_var (pv 0)) (d_var (pv 2)) (nomark _)))) s_nil)
      (s_one (s_ret (d_cmpK c_ge (d_var (pv 0)) (d_var (pv 2)) (nomark _))))))))), ?_⟩
  · obtain ⟨kd, w2, x, y, rfl, hw, hx, hy, hk⟩ := h
    rfl
  rintro args b k kx ⟨kd, w2, x, y, rfl, hw, hx, hy, hk⟩
  rw [show startS N_p_stands_so.length [.val x, .val (.str w2), .val y] = [.val x, .val (.str w2), .val y] from rfl]
  walk_at "qd"
  rcases hx.two hy with ⟨i, n, rfl, rfl⟩ | ⟨i, n, rfl, rfl⟩
  · walk_at "qd"
    have hk' : k (.s (.bl (cmpI w2 i n))) b := hk
    unfold cmpI at hk'
    simp only [kite] at hk'
    exact hk'
  · walk_at "qd"
    have hk' : k (.s (.bl (cmpS w2 i n))) b := hk
    unfold cmpS at hk'
    simp only [kite] at hk'
    exact hk'
theorem okd_p_meets {j : Nat} {f : Addr} {fd : FuncData} {f_p_stands_so : Addr} {fd_p_stands_so : FuncData} (F : Fun K "meets" "meets" s_p_meets f fd) (Z : Zs mg) (D_p_stands_so : Df K mg "stands_so" s_p_stands_so ["cell", "sign", "value"] f_p_stands_so fd_p_stands_so) (G_p_stands_so : FnOk P w K mg base CX0 j f_p_stands_so fd_p_stands_so ["cell", "sign", "value"] (spD K dsStands)) : FnOk P w K mg base CX0 (j + 1) f fd ["cell", "test"] (spD K dsMeets) := by
  refine fnD F sc_p_meets (fun args b k kx h => ?_) fun cdv A outer s H E c hK hr => ⟨_, (s_cons (s_set (i := 2) sc_p_meets.nd rfl (Or.inl rfl) (d_ix hK (d_var (pv 1)) d_int (fun _ _ => rfl)))
      (s_cons (s_if (t_cmpK (c_eq hK hr.units) (d_var (pv 2)) d_str (nomark _)) (s_one (s_ret (d_cmpK c_is (d_var (pv 0)) d_non (nomark _)))) s_nil)
      (s_cons (s_if (t_cmpK c_is (d_var (pv 0)) d_non (nomark _)) (s_one (s_ret d_bl)) s_nil)
      (s_cons (s_if (t_cmpK (c_eq hK hr.units) (d_var (pv 2)) d_str (nomark _)) (s_one (s_ret (d_cmpK (c_in hK) (d_var (pv 0)) (d_ix hK (d_var (pv 1)) d_int (fun _ _ => rfl)) (by with_unfolding_all rfl)))) s_nil)
      (s_one (s_ret (d_call (kx := fun _ _ => False) hK G_p_stands_so hr (by rfl) D_p_stands_so.m D_p_stands_so.F.kp D_p_stands_so.b pass0 (a_cons (d_var (pv 0)) (a_cons (d_var (pv 2)) (a_cons (d_ix hK (d_var (pv 1)) d_int (fun _ _ => rfl)) a_nil st_Subscript) st_Name) st_Name)))))))), ?_⟩
  · obtain ⟨kd, x, t, rfl, hx, ht, hk⟩ := h
    rfl
  rintro args b k kx ⟨kd, x, t, rfl, hx, ht, hk⟩
  rw [show startS N_p_meets.length [.val x, .val t.d] = [.val x, .val t.d, .no] from rfl]
  walk_at "qd"
  cases t with
  | opn =>
    unfold CT.d
    walk_at "qd"
    refine ⟨_, rfl, ?_⟩
    walk_at "qd"
    exact hk
  | sg w2 v =>
    obtain ⟨hw, hv⟩ : isCmp w2 ∧ Kn kd v := ht
    unfold CT.d
    walk_at "qd"
    refine ⟨_, rfl, ?_⟩
    walk_at "qd"
    rw [if_neg hw.ne.1]
    have hk' : k (.s (.bl (!isN x && cmpD w2 x v))) b := hk
    refine ite2 (fun h => ?_) (fun h => ?_)
    · rw [h] at hk'
      exact hk'
    · rw [if_neg hw.ne.2]
      have hn : isN x = false := by simpa using h
      rw [hn] at hk'
      refine ⟨_, rfl, ?_⟩
      walk_at "qd"
      exact ⟨kd, w2, x, v, rfl, hw, ⟨hx, hn⟩, hv, trivial, hk'⟩
  | amg vs =>
    obtain ⟨hl, hv⟩ : vs.length ≤ 100 ∧ ∀ v ∈ vs, Kn kd v := ht
    unfold CT.d
    walk_at "qd"
    refine ⟨_, rfl, ?_⟩
    walk_at "qd"
    rw [if_neg (by decide +kernel)]
    have hk' : k (.s (.bl (!isN x && ind x vs))) b := hk
    refine ite2 (fun h => ?_) (fun h => ?_)
    · rw [h] at hk'
      exact hk'
    · have hn : isN x = false := by simpa using h
      rw [hn] at hk'
      refine ⟨_, rfl, ?_⟩
      exact ⟨vs, .inl rfl, by simp, Kn.flt hx, kn_all hv, trivial, hk'⟩
  | amt vs =>
    obtain ⟨hl, hv⟩ : vs.length ≤ 100 ∧ ∀ v ∈ vs, Kn kd v := ht
    unfold CT.d
    walk_at "qd"
    refine ⟨_, rfl, ?_⟩
    walk_at "qd"
    rw [if_neg (by decide +kernel)]
    have hk' : k (.s (.bl (!isN x && ind x vs))) b := hk
    refine ite2 (fun h => ?_) (fun h => ?_)
    · rw [h] at hk'
      exact hk'
    · have hn : isN x = false := by simpa using h
      rw [hn] at hk'
      refine ⟨_, rfl, ?_⟩
      exact ⟨vs, .inr rfl, by simp, Kn.flt hx, kn_all hv, trivial, hk'⟩
theorem okd_p_cells_stand_so {j : Nat} {f : Addr} {fd : FuncData} {f_p_meets : Addr} {fd_p_meets : FuncData} (F : Fun K "cells_stand_so" "cells_stand_so" s_p_cells_stand_so f fd) (Z : Zs mg) (D_p_meets : Df K mg "meets" s_p_meets ["cell", "test"] f_p_meets fd_p_meets) (G_p_meets : FnOk P w K mg base CX0 j f_p_meets fd_p_meets ["cell", "test"] (spD K dsMeets)) : FnOk P w K mg base CX0 (j + 1) f fd ["cell", "sign", "other"] (spD K dsCsso) := by
  refine fnD F sc_p_cells_stand_so (fun args b k kx h => ?_) fun cdv A outer s H E c hK hr => ⟨_, (s_one (s_ret (d_and (d_cmpK c_isnot (d_var (pv 2)) d_non (nomark _)) (d_one (d_call (kx := fun _ _ => False) hK G_p_meets hr (by rfl) D_p_meets.m D_p_meets.F.kp D_p_meets.b pass0 (a_cons (d_var (pv 0)) (a_cons (d_tup (a_cons (d_var (pv 1)) (a_cons (d_var (pv 2)) a_nil st_Name) st_Name)) a_nil st_Tuple) st_Name)))))), ?_⟩
  · obtain ⟨kd, w2, x, y, rfl, hw, hx, hy, hk⟩ := h
    rfl
  rintro args b k kx ⟨kd, w2, x, y, rfl, hw, hx, hy, hk⟩
  rw [show startS N_p_cells_stand_so.length [.val x, .val (.str w2), .val y] = [.val x, .val (.str w2), .val y] from rfl]
  walk_at "qd"
  refine ite2 (fun h => ?_) (fun h => ?_)
  · have hn : isN y = false := by simpa using h
    rw [hn] at hk
    exact ⟨kd, x, .sg w2 y, rfl, hx, ⟨hw, hy, hn⟩, trivial, hk⟩
  · have hn : isN y = true := by simpa using h
    rw [hn] at hk
    exact hk
theorem okd_p_row_meets {j : Nat} {f_p_row_meets : Addr} {fd_p_row_meets : FuncData} {f_p_cells_stand_so : Addr} {fd_p_cells_stand_so : FuncData} {f_p_meets : Addr} {fd_p_meets : FuncData} (D_p_row_meets : Df K mg "row_meets" s_p_row_meets ["row", "test"] f_p_row_meets fd_p_row_meets) (Z : Zs mg) (D_p_cells_stand_so : Df K mg "cells_stand_so" s_p_cells_stand_so ["cell", "sign", "other"] f_p_cells_stand_so fd_p_cells_stand_so) (G_p_cells_stand_so : FnOk P w K mg base CX0 j f_p_cells_stand_so fd_p_cells_stand_so ["cell", "sign", "other"] (spD K dsCsso)) (D_p_meets : Df K mg "meets" s_p_meets ["cell", "test"] f_p_meets fd_p_meets) (G_p_meets : FnOk P w K mg base CX0 j f_p_meets fd_p_meets ["cell", "test"] (spD K dsMeets)) : ∀ m : Nat, FnOk P w K mg base CX0 (j + m + 1) f_p_row_meets fd_p_row_meets ["row", "test"] (spD K (dsRt m))
  | 0 => fn_void fun args b k kx h => by
    obtain ⟨s0, row, t, ks, rfl, hs, hd, hok, hr, hk⟩ := h
    omega
  | m + 1 => by
    have G_p_row_meets := okd_p_row_meets (j := j) D_p_row_meets Z D_p_cells_stand_so G_p_cells_stand_so D_p_meets G_p_meets m
    have G_p_cells_stand_so := L2.FnOk.mono G_p_cells_stand_so (show j ≤ j + m + 1 by omega)
    have G_p_meets := L2.FnOk.mono G_p_meets (show j ≤ j + m + 1 by omega)
    refine fnD D_p_row_meets.F sc_p_row_meets (fun args b k kx h => ?_) fun cdv A outer s H E c hK hr => ⟨_, (s_cons (s_set (i := 2) sc_p_row_meets.nd rfl (Or.inl rfl) (d_ix hK (d_var (pv 1)) d_int (fun _ _ => rfl)))
        (s_cons (s_if (t_cmpK (c_eq hK hr.units) (d_var (pv 2)) d_str (nomark _)) (s_one (s_ret d_bl)) s_nil)
        (s_cons (s_if (t_cmpK (c_eq hK hr.units) (d_var (pv 2)) d_str (nomark _)) (s_one (s_ret (d_call (kx := fun _ _ => False) hK G_p_meets hr (by rfl) D_p_meets.m D_p_meets.F.kp D_p_meets.b pass0 (a_cons (d_ix hK (d_var (pv 0)) (d_ix hK (d_var (pv 1)) d_int (fun _ _ => rfl)) (fun _ _ => rfl)) (a_cons (d_ix hK (d_var (pv 1)) d_int (fun _ _ => rfl)) a_nil st_Subscript) st_Subscript)))) s_nil)
        (s_cons (s_if (t_cmpK (c_eq hK hr.units) (d_var (pv 2)) d_str (nomark _)) (s_one (s_ret (d_call (kx := fun _ _ => False) hK G_p_cells_stand_so hr (by rfl) D_p_cells_stand_so.m D_p_cells_stand_so.F.kp D_p_cells_stand_so.b pass0 (a_cons (d_ix hK (d_var (pv 0)) (d_ix hK (d_var (pv 1)) d_int (fun _ _ => rfl)) (fun _ _ => rfl)) (a_cons (d_ix hK (d_var (pv 1)) d_int (fun _ _ => rfl)) (a_cons (d_ix hK (d_var (pv 0)) (d_ix hK (d_var (pv 1)) d_int (fun _ _ => rfl)) (fun _ _ => rfl)) a_nil st_Subscript) st_Subscript) st_Subscript)))) s_nil)
        (s_cons (s_if (t_cmpK (c_eq hK hr.units) (d_var (pv 2)) d_str (nomark _)) (s_one (s_ret (d_and (d_call (kx := fun _ _ => False) hK G_p_row_meets hr (by rfl) D_p_row_meets.m D_p_row_meets.F.kp D_p_row_meets.b pass0 (a_cons (d_var (pv 0)) (a_cons (d_ix hK (d_var (pv 1)) d_int (fun _ _ => rfl)) a_nil st_Subscript) st_Name)) (d_one (d_call (kx := fun _ _ => False) hK G_p_row_meets hr (by rfl) D_p_row_meets.m D_p_row_meets.F.kp D_p_row_meets.b pass0 (a_cons (d_var (pv 0)) (a_cons (d_ix hK (d_var (pv 1)) d_int (fun _ _ => rfl)) a_nil st_Subscript) st_Name)))))) s_nil)
        (s_cons (s_if (t_cmpK (c_eq hK hr.units) (d_var (pv 2)) d_str (nomark _)) (s_one (s_ret (d_or (d_call (kx := fun _ _ => False) hK G_p_row_meets hr (by rfl) D_p_row_meets.m D_p_row_meets.F.kp D_p_row_meets.b pass0 (a_cons (d_var (pv 0)) (a_cons (d_ix hK (d_var (pv 1)) d_int (fun _ _ => rfl)) a_nil st_Subscript) st_Name)) (d_one (d_call (kx := fun _ _ => False) hK G_p_row_meets hr (by rfl) D_p_row_meets.m D_p_row_meets.F.kp D_p_row_meets.b pass0 (a_cons (d_var (pv 0)) (a_cons (d_ix hK (d_var (pv 1)) d_int (fun _ _ => rfl)) a_nil st_Subscript) st_Name)))))) s_nil)
        (s_one (s_ret (d_not (d_call (kx := fun _ _ => False) hK G_p_row_meets hr (by rfl) D_p_row_meets.m D_p_row_meets.F.kp D_p_row_meets.b pass0 (a_cons (d_var (pv 0)) (a_cons (d_ix hK (d_var (pv 1)) d_int (fun _ _ => rfl)) a_nil st_Subscript) st_Name))))))))))), ?_⟩
    · obtain ⟨s0, row, t, ks, rfl, hs, hd, hok, hr, hk⟩ := h
      rfl
    rintro args b k kx ⟨s0, row, t, ks, rfl, hs, hd, hok, hr, hk⟩
    rw [show startS N_p_row_meets.length [s0, .val t.d] = [s0, .val t.d, .no] from rfl]
    walk_at "qd"
    rcases hs with rfl | rfl | rfl
    all_goals
      cases t with
      | alw =>
        unfold RT.d
        walk_at "qd"
        refine ⟨_, rfl, ?_⟩
        walk_at "qd"
        exact hk
      | cel p ct =>
        obtain ⟨kd, e, hkd, hct⟩ : ∃ kd, ks[p]? = some kd ∧ isKd kd ∧ ct.ok kd := hok
        obtain ⟨ea, okc⟩ := hr.at e
        unfold RT.d
        walk_at "qd"
        refine ⟨_, rfl, ?_⟩
        walk_at "qd"
        rw [if_neg (by decide +kernel)]
        refine ⟨_, rfl, ?_⟩
        walk_at "qd"
        refine ⟨_, ea, ?_⟩
        refine ⟨_, rfl, ?_⟩
        walk_at "qd"
        exact ⟨kd, _, ct, rfl, okc, hct, trivial, hk⟩
      | cls p w2 q =>
        obtain ⟨kd, e, e2, hkd, hw⟩ : ∃ kd, ks[p]? = some kd ∧ ks[q]? = some kd ∧ isKd kd ∧ isCmp w2 := hok
        obtain ⟨ea, okc⟩ := hr.at e
        obtain ⟨ea2, okc2⟩ := hr.at e2
        unfold RT.d
        walk_at "qd"
        refine ⟨_, rfl, ?_⟩
        walk_at "qd"
        rw [if_neg (by decide +kernel), if_neg (by decide +kernel)]
        refine ⟨_, rfl, ?_⟩
        walk_at "qd"
        refine ⟨_, ea, ?_⟩
        refine ⟨_, rfl, ?_⟩
        walk_at "qd"
        refine ⟨_, rfl, ?_⟩
        walk_at "qd"
        refine ⟨_, ea2, ?_⟩
        walk_at "qd"
        exact ⟨kd, w2, _, _, rfl, hw, okc, okc2, trivial, hk⟩
      | neg x =>
        have hd' : x.dp + 1 < m + 1 := hd
        have hk' : k (.s (.bl (!x.ev row))) b := hk
        unfold RT.d
        walk_at "qd"
        refine ⟨_, rfl, ?_⟩
        walk_at "qd"
        rw [if_neg (by decide +kernel), if_neg (by decide +kernel), if_neg (by decide +kernel), if_neg (by decide +kernel), if_neg (by decide +kernel)]
        refine ⟨_, rfl, ?_⟩
        walk_at "qd"
        refine ⟨_, row, x, ks, rfl, (by first | exact .inl rfl | exact .inr (.inl rfl) | exact .inr (.inr rfl)), by omega, hok, hr, ?_⟩
        walk_at "qd"
        exact hk'
      | both x y =>
        have hd' : max x.dp y.dp + 1 < m + 1 := hd
        have hk' : k (.s (.bl (x.ev row && y.ev row))) b := hk
        unfold RT.d
        walk_at "qd"
        refine ⟨_, rfl, ?_⟩
        walk_at "qd"
        rw [if_neg (by decide +kernel), if_neg (by decide +kernel), if_neg (by decide +kernel)]
        refine ⟨_, rfl, ?_⟩
        walk_at "qd"
        refine ⟨_, row, x, ks, rfl, (by first | exact .inl rfl | exact .inr (.inl rfl) | exact .inr (.inr rfl)), by omega, hok.1, hr, ?_⟩
        walk_at "qd"
        refine ite2 (fun h => ?_) (fun h => ?_)
        · rw [h] at hk'
          refine ⟨_, rfl, ?_⟩
          walk_at "qd"
          exact ⟨_, row, y, ks, rfl, (by first | exact .inl rfl | exact .inr (.inl rfl) | exact .inr (.inr rfl)), by omega, hok.2, hr, trivial, hk'⟩
        · rw [Bool.eq_false_iff.mpr h] at hk'
          exact hk'
      | eith x y =>
        have hd' : max x.dp y.dp + 1 < m + 1 := hd
        have hk' : k (.s (.bl (x.ev row || y.ev row))) b := hk
        unfold RT.d
        walk_at "qd"
        refine ⟨_, rfl, ?_⟩
        walk_at "qd"
        rw [if_neg (by decide +kernel), if_neg (by decide +kernel), if_neg (by decide +kernel), if_neg (by decide +kernel)]
        refine ⟨_, rfl, ?_⟩
        walk_at "qd"
        refine ⟨_, row, x, ks, rfl, (by first | exact .inl rfl | exact .inr (.inl rfl) | exact .inr (.inr rfl)), by omega, hok.1, hr, ?_⟩
        walk_at "qd"
        refine ite2 (fun h => ?_) (fun h => ?_)
        · rw [h] at hk'
          exact hk'
        · rw [Bool.eq_false_iff.mpr h] at hk'
          refine ⟨_, rfl, ?_⟩
          walk_at "qd"
          exact ⟨_, row, y, ks, rfl, (by first | exact .inl rfl | exact .inr (.inl rfl) | exact .inr (.inr rfl)), by omega, hok.2, hr, trivial, hk'⟩

theorem okd_p_sum_cell {j : Nat} {f : Addr} {fd : FuncData} (F : Fun K "sum_cell" "sum_cell" s_p_sum_cell f fd) (Z : Zs mg) : FnOk P w K mg base CX0 (j + 1) f fd ["sign", "one", "other"] (spD K dsSumC) := by
  refine fnD F sc_p_sum_cell (fun args b k kx h => ?_) fun cdv A outer s H E c hK hr => ⟨_, (s_cons (s_if (PWd.pt (w_or (t_cmpK c_is (d_var (pv 1)) d_non (nomark _)) (w_or1 (t_cmpK c_is (d_var (pv 2)) d_non (nomark _))))) (s_one (s_ret d_non)) s_nil)
      (s_cons (s_if (t_cmpK (c_eq hK hr.units) (d_var (pv 0)) d_str (nomark _)) (s_one (s_ret (d_add (d_var (pv 1)) (d_var (pv 2))))) s_nil)
      (s_cons (s_if (t_cmpK (c_eq hK hr.units) (d_var (pv 0)) d_str (nomark _)) (s_one (s_ret (d_sub (d_var (pv 1)) (d_var (pv 2))))) s_nil)
      (s_one (s_ret (d_mulB (d_var (pv 1)) (d_var (pv 2)))))))), ?_⟩
  · obtain ⟨sg, x, y, rfl, hsg, hx, hy, hk⟩ := h
    rfl
  rintro args b k kx ⟨sg, x, y, rfl, hsg, hx, hy, hk⟩
  rw [show startS N_p_sum_cell.length [.val (.str sg), .val x, .val y] = [.val (.str sg), .val x, .val y] from rfl]
  walk_at "qd"
  rcases hx.num with rfl | ⟨i, rfl, hi⟩
  · walk_at "qd"
    exact hk
  · rcases hy.num with rfl | ⟨n, rfl, hn⟩
    · walk_at "qd"
      exact hk
    · walk_at "qd"
      rcases hsg with rfl | rfl | rfl
      · rw [if_pos rfl]
        rw [sumD_p] at hk
        exact hk
      · rw [if_neg pm_ne, if_pos rfl]
        rw [sumD_m] at hk
        exact hk
      · rw [if_neg tp_ne, if_neg tm_ne]
        rw [sumD_t] at hk
        exact ⟨⟨by omega, by omega⟩, hk⟩
theorem okd_p_form_cell {j : Nat} {f_p_form_cell : Addr} {fd_p_form_cell : FuncData} {f_p_sum_cell : Addr} {fd_p_sum_cell : FuncData} (D_p_form_cell : Df K mg "form_cell" s_p_form_cell ["row", "form"] f_p_form_cell fd_p_form_cell) (Z : Zs mg) (D_p_sum_cell : Df K mg "sum_cell" s_p_sum_cell ["sign", "one", "other"] f_p_sum_cell fd_p_sum_cell) (G_p_sum_cell : FnOk P w K mg base CX0 j f_p_sum_cell fd_p_sum_cell ["sign", "one", "other"] (spD K dsSumC)) : ∀ m : Nat, FnOk P w K mg base CX0 (j + m + 1) f_p_form_cell fd_p_form_cell ["row", "form"] (spD K (dsFc m))
  | 0 => fn_void fun args b k kx h => by
    obtain ⟨s0, row, f, ks, kd, rfl, hs, hd, hok, hr, hm, hk⟩ := h
    omega
  | m + 1 => by
    have G_p_form_cell := okd_p_form_cell (j := j) D_p_form_cell Z D_p_sum_cell G_p_sum_cell m
    have G_p_sum_cell := L2.FnOk.mono G_p_sum_cell (show j ≤ j + m + 1 by omega)
    refine fnD D_p_form_cell.F sc_p_form_cell (fun args b k kx h => ?_) fun cdv A outer s H E c hK hr => ⟨_, (s_cons (s_set (i := 2) sc_p_form_cell.nd rfl (Or.inl rfl) (d_ix hK (d_var (pv 1)) d_int (fun _ _ => rfl)))
        (s_cons (s_if (t_cmpK (c_eq hK hr.units) (d_var (pv 2)) d_str (nomark _)) (s_one (s_ret (d_ix hK (d_var (pv 0)) (d_ix hK (d_var (pv 1)) d_int (fun _ _ => rfl)) (fun _ _ => rfl)))) s_nil)
        (s_cons (s_if (t_cmpK (c_eq hK hr.units) (d_var (pv 2)) d_str (nomark _)) (s_one (s_ret (d_ix hK (d_var (pv 1)) d_int (fun _ _ => rfl)))) s_nil)
        (s_cons (s_if (t_cmpK (c_eq hK hr.units) (d_var (pv 2)) d_str (nomark _)) (s_one (s_ret (d_call (kx := fun _ _ => False) hK G_p_sum_cell hr (by rfl) D_p_sum_cell.m D_p_sum_cell.F.kp D_p_sum_cell.b pass0 (a_cons (d_ix hK (d_var (pv 1)) d_int (fun _ _ => rfl)) (a_cons (d_call (kx := fun _ _ => False) hK G_p_form_cell hr (by rfl) D_p_form_cell.m D_p_form_cell.F.kp D_p_form_cell.b pass0 (a_cons (d_var (pv 0)) (a_cons (d_ix hK (d_var (pv 1)) d_int (fun _ _ => rfl)) a_nil st_Subscript) st_Name)) (a_cons (d_call (kx := fun _ _ => False) hK G_p_form_cell hr (by rfl) D_p_form_cell.m D_p_form_cell.F.kp D_p_form_cell.b pass0 (a_cons (d_var (pv 0)) (a_cons (d_ix hK (d_var (pv 1)) d_int (fun _ _ => rfl)) a_nil st_Subscript) st_Name)) a_nil st_Call) st_Call) st_Subscript)))) s_nil)
        (s_cons (s_set (i := 3) sc_p_form_cell.nd rfl (Or.inl rfl) (d_call (kx := fun _ _ => False) hK G_p_form_cell hr (by rfl) D_p_form_cell.m D_p_form_cell.F.kp D_p_form_cell.b pass0 (a_cons (d_var (pv 0)) (a_cons (d_ix hK (d_var (pv 1)) d_int (fun _ _ => rfl)) a_nil st_Subscript) st_Name)))
        (s_one (s_frz (i := 3) (s_ret (d_if (t_cmpK c_is (d_var (pv 3)) d_non (nomark _)) (d_call (kx := fun _ _ => False) hK G_p_form_cell hr (by rfl) D_p_form_cell.m D_p_form_cell.F.kp D_p_form_cell.b pass0 (a_cons (d_var (pv 0)) (a_cons (d_ix hK (d_var (pv 1)) d_int (fun _ _ => rfl)) a_nil st_Subscript) st_Name)) (d_var (pv 3))))))))))), ?_⟩
    · obtain ⟨s0, row, f, ks, kd, rfl, hs, hd, hok, hr, hm, hk⟩ := h
      rfl
    rintro args b k kx ⟨s0, row, f, ks, kd, rfl, hs, hd, hok, hr, hm, hk⟩
    rw [show startS N_p_form_cell.length [s0, .val f.d] = [s0, .val f.d, .no, .no] from rfl]
    walk_at "qd"
    rcases hs with rfl | rfl | rfl
    all_goals
      cases f with
      | cell p =>
        have hok' : ks[p]? = some kd := hok
        have hp : p < row.length := by rw [hr.1]; exact (List.getElem?_eq_some_iff.mp hok').1
        have he : row[p]? = some row[p] := List.getElem?_eq_getElem hp
        have hk' : k (.s row[p]) b := by
          have : k (.s ((row[p]?).getD .non)) b := hk
          rw [he] at this
          exact this
        have ha : atI row (p : Int) = some row[p] := by unfold atI; rw [ix_ok (by omega) (by omega)]; exact he
        unfold Fm.d
        walk_at "qd"
        refine ⟨_, rfl, ?_⟩
        walk_at "qd"
        refine ⟨_, rfl, ?_⟩
        walk_at "qd"
        exact ⟨_, ha, hk'⟩
      | val d =>
        unfold Fm.d
        walk_at "qd"
        refine ⟨_, rfl, ?_⟩
        walk_at "qd"
        rw [if_neg (by decide +kernel)]
        exact ⟨_, rfl, hk⟩
      | fst x y =>
        have hd' : max x.dp y.dp + 1 < m + 1 := hd
        unfold Fm.d
        walk_at "qd"
        refine ⟨_, rfl, ?_⟩
        walk_at "qd"
        rw [if_neg (by decide +kernel), if_neg (by decide +kernel), if_neg (by decide +kernel)]
        have hk' : k (.s (fstD (x.ev row) (y.ev row))) b := hk
        have hc := Fm.celB hr hok.1
        refine ⟨_, rfl, ?_⟩
        walk_at "qd"
        refine ⟨_, row, x, ks, kd, rfl, (by first | exact .inl rfl | exact .inr (.inl rfl) | exact .inr (.inr rfl)), by omega, hok.1, hr, by omega, ?_⟩
        walk_at "qd"
        unfold fstD at hk'
        refine ite2 (fun h => ?_) (fun h => ?_)
        · rw [if_pos h] at hk'
          refine ⟨_, rfl, ?_⟩
          walk_at "qd"
          exact ⟨_, row, y, ks, kd, rfl, (by first | exact .inl rfl | exact .inr (.inl rfl) | exact .inr (.inr rfl)), by omega, hok.2, hr, by omega, trivial, hk'⟩
        · rw [if_neg h] at hk'
          exact hk'
      | sum sg x y =>
        have hd' : max x.dp y.dp + 1 < m + 1 := hd
        obtain ⟨rfl, hsg, h1, h2⟩ : kd = sNum ∧ isSg sg ∧ x.ok ks sNum ∧ y.ok ks sNum := hok
        have hk' : k (.s (sumD sg (x.ev row) (y.ev row))) b := hk
        have big : ∀ n : Nat, n ≤ 12 → 60 * 2 ^ n ≤ 524288 := fun n hn => Nat.le_trans (Nat.mul_le_mul_left _ (Nat.pow_le_pow_right (by decide) hn)) (by decide)
        unfold Fm.d
        walk_at "qd"
        refine ⟨_, rfl, ?_⟩
        walk_at "qd"
        rw [if_neg (by decide +kernel), if_neg (by decide +kernel)]
        refine ⟨_, rfl, ?_⟩
        walk_at "qd"
        refine ⟨_, rfl, ?_⟩
        walk_at "qd"
        refine ⟨_, row, x, ks, sNum, rfl, (by first | exact .inl rfl | exact .inr (.inl rfl) | exact .inr (.inr rfl)), by omega, h1, hr, by omega, ?_⟩
        walk_at "qd"
        refine ⟨_, rfl, ?_⟩
        walk_at "qd"
        refine ⟨_, row, y, ks, sNum, rfl, (by first | exact .inl rfl | exact .inr (.inl rfl) | exact .inr (.inr rfl)), by omega, h2, hr, by omega, ?_⟩
        walk_at "qd"
        exact ⟨sg, _, _, rfl, hsg, (Fm.celB hr h1).mono (big _ (by omega)), (Fm.celB hr h2).mono (big _ (by omega)), trivial, hk'⟩

theorem okd_p_rows_of {j : Nat} {f_p_rows_of : Addr} {fd_p_rows_of : FuncData} {f_p_form_cell : Addr} {fd_p_form_cell : FuncData} {f_p_row_meets : Addr} {fd_p_row_meets : FuncData} (D_p_rows_of : Df K mg "rows_of" s_p_rows_of ["question", "kinds", "rows"] f_p_rows_of fd_p_rows_of) (Z : Zs mg) (D_p_form_cell : Df K mg "form_cell" s_p_form_cell ["row", "form"] f_p_form_cell fd_p_form_cell) (G_p_form_cell : FnOk P w K mg base CX0 j f_p_form_cell fd_p_form_cell ["row", "form"] (spD K (dsFc 11))) (D_p_row_meets : Df K mg "row_meets" s_p_row_meets ["row", "test"] f_p_row_meets fd_p_row_meets) (G_p_row_meets : FnOk P w K mg base CX0 j f_p_row_meets fd_p_row_meets ["row", "test"] (spD K (dsRt 13))) : ∀ m : Nat, FnOk P w K mg base CX0 (j + m + 1) f_p_rows_of fd_p_rows_of ["question", "kinds", "rows"] (spD K (dsRowsOf m))
  | 0 => fn_void fun args b k kx h => by
    obtain ⟨q, ks, kd, xd, rs, rfl, hx, hrk, hl, hok, hd, hk⟩ := h
    omega
  | m + 1 => by
    have G_p_rows_of := okd_p_rows_of (j := j) D_p_rows_of Z D_p_form_cell G_p_form_cell D_p_row_meets G_p_row_meets m
    have G_p_form_cell := L2.FnOk.mono G_p_form_cell (show j ≤ j + m + 1 by omega)
    have G_p_row_meets := L2.FnOk.mono G_p_row_meets (show j ≤ j + m + 1 by omega)
    refine fnD D_p_rows_of.F sc_p_rows_of (fun args b k kx h => ?_) fun cdv A outer s H E c hK hr => ⟨_, (s_cons (s_set (i := 3) sc_p_rows_of.nd rfl (Or.inl rfl) (d_ix hK (d_var (pv 0)) d_int (fun _ _ => rfl)))
        (s_cons (s_if (t_cmpK (c_eq hK hr.units) (d_var (pv 3)) d_str (nomark _)) (s_one (s_ret (d_lc (own := [("row", 7)]) rfl sc_p_rows_of.nd (i_any hK (d_dgetL (hu_of hr) (fun _ _ => rfl) (d_var (pv 2)) (d_ix hK (d_var (pv 0)) d_int (fun _ _ => rfl)))) (blkOk_by (own := [("row", 7)]) (N := N_p_rows_of) (sc := defScope s_p_rows_of) (by decide +kernel)) (fun _ _ _ _ _ => (g_name (pg_name (i := 7) sc_p_rows_of.nd rfl ((by first | exact Or.inr rfl | exact Or.inl rfl))))) (by decide) (fun _ _ _ _ _ => ts_nil) (fun _ _ _ _ _ => (d_ctK (k_tuple hK) (by rfl) Z.z_tuple (by decide +kernel) (a_cons (d_var (pv 7)) a_nil st_Name)))))) s_nil)
        (s_cons (s_set (i := 4) sc_p_rows_of.nd rfl (Or.inl rfl) (d_call (kx := fun _ _ => False) hK G_p_rows_of hr (by rfl) D_p_rows_of.m D_p_rows_of.F.kp D_p_rows_of.b pass0 (a_cons (d_ix hK (d_var (pv 0)) d_int (fun _ _ => rfl)) (a_cons (d_var (pv 1)) (a_cons (d_var (pv 2)) a_nil st_Name) st_Name) st_Subscript)))
        (s_cons (s_if (t_cmpK (c_eq hK hr.units) (d_var (pv 3)) d_str (nomark _)) (s_one (s_ret (d_lc (own := [("row", 7)]) rfl sc_p_rows_of.nd (i_any hK (d_var (pv 4))) (blkOk_by (own := [("row", 7)]) (N := N_p_rows_of) (sc := defScope s_p_rows_of) (by decide +kernel)) (fun _ _ _ _ _ => (g_name (pg_name (i := 7) sc_p_rows_of.nd rfl ((by first | exact Or.inr rfl | exact Or.inl rfl))))) (by decide) (fun _ _ _ _ _ => (ts_one (t_val (d_call (kx := fun _ _ => False) hK G_p_row_meets hr (by rfl) D_p_row_meets.m D_p_row_meets.F.kp D_p_row_meets.b pass0 (a_cons (d_var (pv 7)) (a_cons (d_ix hK (d_var (pv 0)) d_int (fun _ _ => rfl)) a_nil st_Subscript) st_Name))))) (fun _ _ _ _ _ => (d_var (pv 7)))))) s_nil)
        (s_cons (s_if (t_cmpK (c_eq hK hr.units) (d_var (pv 3)) d_str (nomark _)) (s_one (s_ret (d_lc (own := [("row", 7)]) rfl sc_p_rows_of.nd (i_any hK (d_var (pv 4))) (blkOk_by (own := [("row", 7)]) (N := N_p_rows_of) (sc := defScope s_p_rows_of) (by decide +kernel)) (fun _ _ _ _ _ => (g_name (pg_name (i := 7) sc_p_rows_of.nd rfl ((by first | exact Or.inr rfl | exact Or.inl rfl))))) (by decide) (fun _ _ _ _ _ => ts_nil) (fun _ _ _ _ _ => (d_ctK (k_tuple hK) (by rfl) Z.z_tuple (by decide +kernel) (a_cons (d_lc (own := [("form", 8)]) rfl sc_p_rows_of.nd (i_any hK (d_ix hK (d_var (pv 0)) d_int (fun _ _ => rfl))) (blkOk_by (own := [("form", 8)]) (N := N_p_rows_of) (sc := (relab (lcScope (asgV (inB (bodyAt s_p_rows_of 4) 0))) (defScope s_p_rows_of))) (by decide +kernel)) (fun _ _ _ _ _ => (g_name (pg_name (i := 8) sc_p_rows_of.nd rfl (Or.inl rfl)))) (by decide) (fun _ _ _ _ _ => ts_nil) (fun _ _ _ _ _ => (d_call (kx := fun _ _ => False) hK G_p_form_cell hr (by rfl) D_p_form_cell.m D_p_form_cell.F.kp D_p_form_cell.b pass0 (a_cons (d_var (pv 7)) (a_cons (d_var (pv 8)) a_nil st_Name) st_Name)))) a_nil st_ListComp)))))) s_nil)
        (s_cons s_never
        (s_cons s_never
        (s_cons s_never
        (s_cons s_never
        (s_cons s_never
        (s_one s_never))))))))))), ?_⟩
    · obtain ⟨q, ks, kd, xd, rs, rfl, hx, hrk, hl, hok, hd, hk⟩ := h
      rfl
    rintro args b k kx ⟨q, ks, kd, xd, rs, rfl, hx, hrk, hl, hok, hd, hk⟩
    rw [show startS N_p_rows_of.length [.val q.d, .val kd, .val (.dl [(keyT, xd)])] = [.val q.d, .val kd, .val (.dl [(keyT, xd)]), .no, .no, .no, .no, .no, .no] from rfl]
    walk_at "qd"
    have inr : ∀ {q : Qb} {d : D}, d ∈ (q.ev rs).map D.tup → ∃ row, d = .tup row ∧ RowOk ks row := fun {q d} h => by
      obtain ⟨row, hr, rfl⟩ := List.mem_map.mp h
      exact ⟨row, rfl, Qb.ev_ok hrk row hr⟩
    have ile : ∀ q : Qb, ((q.ev rs).map D.tup).length ≤ 70 := fun q => by rw [List.length_map]; exact Nat.le_trans Qb.ev_le hl
    cases q with
    | base q =>
      cases q with
      | tab =>
        have hk' : k (.o (rs.map D.tup)) b := hk
        have e0 : (Qt.base .tab).d = .tup [.str (sS "table"), .str (sS "t")] := rfl
        rw [e0]
        walk_at "qd"
        refine ⟨_, rfl, ?_⟩
        walk_at "qd"
        refine ⟨_, rfl, ?_⟩
        walk_at "qd"
        refine ⟨_, valD_hit, ?_⟩
        have fin : k (.o ((rs.map (rwD true)).map fun d => D.tup (unR d))) b ∧ k (.o ((rs.map (rwD false)).map fun d => D.tup (unR d))) b := ⟨by rw [rows_map]; exact hk', by rw [rows_map]; exact hk'⟩
        obtain ⟨l, rfl | rfl⟩ := hx
        all_goals
          walk_at "qd"
          refine lc_map (fun d => .tup (unR d)) (szl (by rw [List.length_map]; omega)) (fun d acc Q hd ha hQ => ?_) ?_
          · obtain ⟨row, hr, rfl⟩ := List.mem_map.mp hd
            have hQ' : Q (acc ++ [D.tup row]) b := by
              rw [unR_rw] at hQ
              exact hQ
            cases l with
            | true =>
              rw [show rwD true row = .lst row from rfl]
              walk_at "qd"
              exact ⟨ha, hQ'⟩
            | false =>
              rw [show rwD false row = .tup row from rfl]
              walk_at "qd"
              exact ⟨ha, hQ'⟩
          · walk_at "qd"
            cases l with
            | true => exact fin.1
            | false => exact fin.2
      | whr q t =>
        obtain ⟨hq, ht, hdp⟩ : q.ok ks ∧ t.ok ks ∧ t.dp ≤ 4 := hok
        have hd' : q.dp + 1 < m + 1 := hd
        have hk' : k (.o (((q.ev rs).filter fun row => t.ev row).map D.tup)) b := hk
        have e0 : (Qt.base (.whr q t)).d = .tup [.str (sS "where"), q.d, t.d] := rfl
        rw [e0]
        walk_at "qd"
        refine ⟨_, rfl, ?_⟩
        walk_at "qd"
        rw [if_neg (by decide +kernel)]
        refine ⟨_, rfl, ?_⟩
        walk_at "qd"
        refine ⟨.base q, ks, kd, xd, rs, rfl, hx, hrk, hl, hq, by show q.dp < m; omega, ?_⟩
        show kSet _ _ _ (.o ((q.ev rs).map D.tup)) _
        walk_at "qd"
        refine lc_flat (fun d => if t.ev (unR d) = true then [d] else []) (szl (by have := ile q; omega)) (fun d _ => by split <;> simp) (fun d acc Q hd ha hQ => ?_) ?_
        · obtain ⟨row, rfl, hro⟩ := inr hd
          rw [show unR (D.tup row) = row from rfl] at hQ
          walk_at "qd"
          refine ⟨_, rfl, _, row, t, ks, rfl, .inr (.inr rfl), by omega, ht, hro, ?_⟩
          walk_at "qd"
          refine ite2 (fun h => ?_) fun h => ?_
          · rw [if_pos h] at hQ
            exact ⟨ha, hQ⟩
          · rw [if_neg h, List.append_nil] at hQ
            exact hQ
        · walk_at "qd"
          rw [rows_flat]
          exact hk'
    | told q l fs =>
      obtain ⟨hq, hfl, hf⟩ : q.ok ks ∧ fs.length ≤ 9 ∧ ∀ f ∈ fs, (∃ kd, f.ok ks kd) ∧ f.dp ≤ 3 := hok
      have hd' : q.dp + 1 < m + 1 := hd
      have hk' : k (.o (((q.ev rs).map fun row => fs.map (Fm.ev row)).map D.tup)) b := hk
      have e0 : (Qt.told q l fs).d = .tup [.str (sS "told"), q.d, rwD l (fs.map Fm.d)] := rfl
      rw [e0]
      walk_at "qd"
      refine ⟨_, rfl, ?_⟩
      walk_at "qd"
      rw [if_neg (by decide +kernel)]
      refine ⟨_, rfl, ?_⟩
      walk_at "qd"
      refine ⟨.base q, ks, kd, xd, rs, rfl, hx, hrk, hl, hq, by show q.dp < m; omega, ?_⟩
      show kSet _ _ _ (.o ((q.ev rs).map D.tup)) _
      walk_at "qd"
      rw [if_neg (by decide +kernel)]
      refine lc_map (fun d => .tup (fs.map (Fm.ev (unR d)))) (szl (by have := ile q; omega)) (fun d acc Q hd ha hQ => ?_) ?_
      · obtain ⟨row, rfl, hro⟩ := inr hd
        rw [show unR (D.tup row) = row from rfl] at hQ
        cases l with
        | true =>
          rw [show rwD true (fs.map Fm.d) = .lst (fs.map Fm.d) from rfl]
          walk_at "qd"
          refine ⟨_, rfl, ?_⟩
          walk_at "qd"
          refine lc_ds (fun i acc2 b' => b' = b ∧ acc2 = (fs.take i).map (Fm.ev row)) ⟨rfl, rfl⟩ (fun i d acc2 b' hd ⟨hb', ha2⟩ => ?_) fun acc2 b' ⟨hb', ha2⟩ => ?_
          · rw [List.getElem?_map] at hd
            cases ht : fs[i]? with
            | none => rw [ht] at hd; cases hd
            | some f =>
              rw [ht] at hd
              cases hd
              obtain ⟨⟨kd2, h1⟩, h2⟩ := hf f (List.mem_of_getElem? ht)
              have hi := (List.getElem?_eq_some_iff.mp ht).1
              walk_at "qd"
              refine ⟨_, row, f, ks, kd2, rfl, .inr (.inr rfl), by omega, h1, hro, by decide, ?_⟩
              walk_at "qd"
              refine ⟨szs (by rw [ha2, List.length_map, List.length_take]; omega), hb', ?_⟩
              rw [ha2, List.take_add_one, ht, List.map_append]
              rfl
          · rw [List.length_map, List.take_length] at ha2
            subst ha2 hb'
            walk_at "qd"
            exact ⟨ha, hQ⟩
        | false =>
          rw [show rwD false (fs.map Fm.d) = .tup (fs.map Fm.d) from rfl]
          walk_at "qd"
          refine ⟨_, rfl, ?_⟩
          walk_at "qd"
          refine lc_ds (fun i acc2 b' => b' = b ∧ acc2 = (fs.take i).map (Fm.ev row)) ⟨rfl, rfl⟩ (fun i d acc2 b' hd ⟨hb', ha2⟩ => ?_) fun acc2 b' ⟨hb', ha2⟩ => ?_
          · rw [List.getElem?_map] at hd
            cases ht : fs[i]? with
            | none => rw [ht] at hd; cases hd
            | some f =>
              rw [ht] at hd
              cases hd
              obtain ⟨⟨kd2, h1⟩, h2⟩ := hf f (List.mem_of_getElem? ht)
              have hi := (List.getElem?_eq_some_iff.mp ht).1
              walk_at "qd"
              refine ⟨_, row, f, ks, kd2, rfl, .inr (.inr rfl), by omega, h1, hro, by decide, ?_⟩
              walk_at "qd"
              refine ⟨szs (by rw [ha2, List.length_map, List.length_take]; omega), hb', ?_⟩
              rw [ha2, List.take_add_one, ht, List.map_append]
              rfl
          · rw [List.length_map, List.take_length] at ha2
            subst ha2 hb'
            walk_at "qd"
            exact ⟨ha, hQ⟩
      · walk_at "qd"
        rw [List.map_map] at hk' ⊢
        exact hk'

theorem okd_value {j : Nat} {f : Addr} {fd : FuncData} {f_take : Addr} {fd_take : FuncData} {f_text : Addr} {fd_text : FuncData} {f_number : Addr} {fd_number : FuncData} (F : Fun K "_law_value" "_law_value" s_value f fd) (Z : Zs mg) (D_take : Df K mg "_law_take" s_take ["_law_state", "_law_many_here"] f_take fd_take) (G_take : FnOk P w K mg base CX0 j f_take fd_take ["_law_state", "_law_many_here"] (spD K dsTake)) (D_text : Df K mg "_law_text" s_text ["_law_state"] f_text fd_text) (G_text : FnOk P w K mg base CX0 j f_text fd_text ["_law_state"] (spD K (dsText 0))) (D_number : Df K mg "_law_number" s_number ["_law_state"] f_number fd_number) (G_number : FnOk P w K mg base CX0 j f_number fd_number ["_law_state"] (spD K dsNumber)) : FnOk P w K mg base CX0 (j + 1) f fd ["_law_state", "_law_kind"] (spD K dsValueN) := by
  refine fnD F sc_value (fun args b k kx h => ?_) fun cdv A outer s H E c hK hr => ⟨_, (s_cons (s_if (t_cmpK (c_eq hK hr.units) (d_call (kx := fun _ _ => False) hK G_take hr (by rfl) D_take.m D_take.F.kp D_take.b pass0 (a_cons (d_var (pv 0)) (a_cons d_int a_nil st_Constant) st_Name)) d_int (nomark _)) (s_one (s_ret (d_if (t_cmpK (c_eq hK hr.units) (d_var (pv 1)) d_str (nomark _)) (d_call (kx := fun _ _ => False) hK G_text hr (by rfl) D_text.m D_text.F.kp D_text.b pass0 (a_cons (d_var (pv 0)) a_nil st_Name)) (d_call (kx := fun _ _ => False) hK G_number hr (by rfl) D_number.m D_number.F.kp D_number.b pass0 (a_cons (d_var (pv 0)) a_nil st_Name))))) s_nil)
      (s_one (s_ret (d_if (t_cmpK (c_eq hK hr.units) (d_var (pv 1)) d_str (nomark _)) (d_ix hK (d_lst (a_cons d_str (a_cons d_str (a_cons d_str (a_cons d_str a_nil st_Constant) st_Constant) st_Constant) st_Constant)) (d_call (kx := fun _ _ => False) hK G_take hr (by rfl) D_take.m D_take.F.kp D_take.b pass0 (a_cons (d_var (pv 0)) (a_cons d_int a_nil st_Constant) st_Name)) (fun _ _ => rfl)) (d_sub (d_call (kx := fun _ _ => False) hK G_take hr (by rfl) D_take.m D_take.F.kp D_take.b pass0 (a_cons (d_var (pv 0)) (a_cons d_int a_nil st_Constant) st_Name)) d_int))))), ?_⟩
  · obtain ⟨kd, rfl, hkd, hb, hk⟩ := h
    rfl
  rintro args b k kx ⟨kd, rfl, hkd, hb, hk⟩
  rw [show startS N_value.length [.st, .val (.str kd)] = [.st, .val (.str kd)] from rfl]
  walk_at "qd"
  have num : ¬ kd = sTxt → kd = sNum := fun e => by
    rcases hkd with h | h
    · exact h
    · exact absurd h e
  refine ⟨by walk_at "tk", fun r r0 r1 => ite2 (fun _ => ite2 (fun e => ⟨by omega, fun t ht => hk _ _ ⟨.inr (.inr ⟨e, t, rfl, ht⟩), rfl⟩ (by omega)⟩) fun e => ⟨by omega, fun n hn => hk _ _ ⟨.inr (.inl ⟨num e, n, rfl, hn⟩), rfl⟩ (by omega)⟩) fun _ => ite2 (fun e => ?_) fun e => ?_⟩
  · refine ⟨by walk_at "tk", fun x x0 x1 => at_any x0 x1 fun d hd => ?_⟩
    simp at hd
    rcases hd with rfl | rfl | rfl | rfl <;> exact hk _ _ ⟨.inr (.inr ⟨e, _, rfl, okT_of (by decide +kernel)⟩), rfl⟩ (by omega)
  · exact ⟨by walk_at "tk", fun x x0 x1 => hk _ _ ⟨.inr (.inl ⟨num e, _, rfl, by omega⟩), rfl⟩ (by omega)⟩
theorem okd_cells {j : Nat} {f : Addr} {fd : FuncData} {f_take : Addr} {fd_take : FuncData} {f_number : Addr} {fd_number : FuncData} {f_text : Addr} {fd_text : FuncData} (F : Fun K "_law_cells" "_law_cells" s_cells f fd) (Z : Zs mg) (D_take : Df K mg "_law_take" s_take ["_law_state", "_law_many_here"] f_take fd_take) (G_take : FnOk P w K mg base CX0 j f_take fd_take ["_law_state", "_law_many_here"] (spD K dsTake)) (D_number : Df K mg "_law_number" s_number ["_law_state"] f_number fd_number) (G_number : FnOk P w K mg base CX0 j f_number fd_number ["_law_state"] (spD K dsNumber)) (D_text : Df K mg "_law_text" s_text ["_law_state"] f_text fd_text) (G_text : FnOk P w K mg base CX0 j f_text fd_text ["_law_state"] (spD K (dsText 0))) : FnOk P w K mg base CX0 (j + 1) f fd ["_law_state", "_law_kind", "_law_many_here"] (spD K dsCells) := by
  refine fnD F sc_cells (fun args b k kx h => ?_) fun cdv A outer s H E c hK hr => ⟨_, (s_cons (s_set (i := 3) sc_cells.nd rfl (Or.inl rfl) (d_call (kx := fun _ _ => False) hK G_take hr (by rfl) D_take.m D_take.F.kp D_take.b pass0 (a_cons (d_var (pv 0)) (a_cons d_int a_nil st_Constant) st_Name)))
      (s_cons (s_set (i := 4) sc_cells.nd rfl (Or.inl rfl) (d_ix hK (d_lst (a_cons d_int (a_cons d_int (a_cons d_int a_nil st_Constant) st_Constant) st_Constant)) (d_call (kx := fun _ _ => False) hK G_take hr (by rfl) D_take.m D_take.F.kp D_take.b pass0 (a_cons (d_var (pv 0)) (a_cons d_int a_nil st_Constant) st_Name)) (fun _ _ => rfl)))
      (s_cons (s_setLc (i := 5) (own := [("_law_turn", 10)]) rfl sc_cells.nd rfl rfl (sw_true rfl rfl rfl (by decide +kernel)) (PFd.i (f_range1 (by rfl) Z.z_range (a_cons (d_add d_int (d_call (kx := fun _ _ => False) hK G_take hr (by rfl) D_take.m D_take.F.kp D_take.b pass0 (a_cons (d_var (pv 0)) (a_cons d_int a_nil st_Constant) st_Name))) a_nil st_BinOp))) (blkOk_by (own := [("_law_turn", 10)]) (N := N_cells) (sc := defScope s_cells) (by decide +kernel)) (fun _ _ _ _ _ => (g_name (pg_name (i := 10) sc_cells.nd rfl (Or.inl rfl)))) (by decide) (fun _ _ _ _ _ => ts_nil) (fun _ _ _ _ _ => (d_if (t_cmpK (c_eq hK hr.units) (d_var (pv 1)) d_str (nomark _)) (d_call (kx := fun _ _ => False) hK G_text hr (by rfl) D_text.m D_text.F.kp D_text.b pass0 (a_cons (d_var (pv 0)) a_nil st_Name)) (d_call (kx := fun _ _ => False) hK G_number hr (by rfl) D_number.m D_number.F.kp D_number.b pass0 (a_cons (d_var (pv 0)) a_nil st_Name)))))
      (s_cons (s_set (i := 6) sc_cells.nd rfl (Or.inl rfl) (d_ix hK (d_lst (a_cons (d_sub (d_call (kx := fun _ _ => False) hK G_take hr (by rfl) D_take.m D_take.F.kp D_take.b pass0 (a_cons (d_var (pv 0)) (a_cons d_int a_nil st_Constant) st_Name)) d_int) (a_cons (d_call (kx := fun _ _ => False) hK G_take hr (by rfl) D_take.m D_take.F.kp D_take.b pass0 (a_cons (d_var (pv 0)) (a_cons (d_pow d_int d_int) a_nil st_BinOp) st_Name)) a_nil st_Call) st_BinOp)) (d_call (kx := fun _ _ => False) hK G_take hr (by rfl) D_take.m D_take.F.kp D_take.b pass0 (a_cons (d_var (pv 0)) (a_cons d_int a_nil st_Constant) st_Name)) (fun _ _ => rfl)))
      (s_cons (s_set (i := 7) sc_cells.nd rfl (Or.inl rfl) (d_lst a_nil))
      (s_cons (s_for PassesOwn.never rfl (f_range1 (by rfl) Z.z_range (a_cons (d_var (pv 2)) a_nil st_Name)) (g_name (pg_name (i := 8) sc_cells.nd rfl (Or.inl rfl))) (s_cons (s_set (i := 9) sc_cells.nd rfl (Or.inl rfl) (d_ix hK (d_var (pv 5)) (d_call (kx := fun _ _ => False) hK G_take hr (by rfl) D_take.m D_take.F.kp D_take.b pass0 (a_cons (d_var (pv 0)) (a_cons (d_cbK (k_len hK) (by rfl) Z.z_len (by decide +kernel) (a_cons (d_var (pv 5)) a_nil st_Name)) a_nil st_Call) st_Name)) (fun _ _ => rfl)))
      (s_cut (s_if (PWd.pt (w_and (t_cmpK (c_eq hK hr.units) (d_var (pv 3)) d_int (nomark _)) (w_and (t_cmpK c_gt (d_var (pv 8)) d_int (nomark _)) (w_and1 (t_cmpK c_gt (d_call (kx := fun _ _ => False) hK G_take hr (by rfl) D_take.m D_take.F.kp D_take.b pass0 (a_cons (d_var (pv 0)) (a_cons d_int a_nil st_Constant) st_Name)) d_int (nomark _)))))) (s_one (s_set (i := 9) sc_cells.nd rfl (Or.inl rfl) (d_ix hK (d_var (pv 7)) (d_neg d_int) (fun _ _ => rfl)))) (s_one (s_if (PWd.pt (w_and (t_cmpK (c_eq hK hr.units) (d_var (pv 3)) d_int (nomark _)) (w_and1 (t_cmpK (c_eq hK hr.units) (d_var (pv 1)) d_str (nomark _))))) (s_one (s_set (i := 9) sc_cells.nd rfl (Or.inl rfl) (d_add (d_mod (d_ix hK (d_var (pv 5)) d_int (fun _ _ => rfl)) (d_pow d_int d_int)) (d_mul (d_var (pv 8)) (d_var (pv 6)))))) (s_one (s_if (PWd.pt (w_and (t_cmpK (c_eq hK hr.units) (d_var (pv 3)) d_int (nomark _)) (w_and1 (t_cmpK (c_eq hK hr.units) (d_var (pv 1)) d_str (nomark _))))) (s_one (s_set (i := 9) sc_cells.nd rfl (Or.inl rfl) (d_call (kx := fun _ _ => False) hK G_number hr (by rfl) D_number.m D_number.F.kp D_number.b pass0 (a_cons (d_var (pv 0)) a_nil st_Name)))) s_nil)))))
      (s_cut (s_if (PWd.pt (w_and (t_cmpK c_gt (d_var (pv 4)) d_int (nomark _)) (w_and (t_cmpK (c_ne hK hr.units) (d_var (pv 3)) d_int (nomark _)) (w_and1 (t_cmpK (c_eq hK hr.units) (d_call (kx := fun _ _ => False) hK G_take hr (by rfl) D_take.m D_take.F.kp D_take.b pass0 (a_cons (d_var (pv 0)) (a_cons (d_var (pv 4)) a_nil st_Name) st_Name)) d_int (nomark _)))))) (s_one (s_set (i := 9) sc_cells.nd rfl (Or.inl rfl) d_non)) s_nil)
      (s_one (s_frz (i := 9) (s_app (pv 7) (d_var (pv 9)) st_Name)))))))
      (s_one (s_retv (pv 7))))))))), ?_⟩
  · obtain ⟨kd, m, rfl, hkd, hm, hb, hk⟩ := h
    rfl
  rintro args b k kx ⟨kd, m, rfl, hkd, hm, hb, hk⟩
  rw [show startS N_cells.length [.st, .val (.str kd), .val (.int m)] = [.st, .val (.str kd), .val (.int m), .no, .no, .no, .no, .no, .no, .no, .no] from rfl]
  walk_at "qd"
  refine ⟨by walk_at "tk", fun way w0 w1 => ⟨by walk_at "tk", fun o o0 o1 => at_any o0 o1 fun dop hop => ⟨by walk_at "tk", fun x x0 x1 => ⟨by omega, by omega, ?_⟩⟩⟩⟩
  obtain ⟨op, rfl, op0, op9⟩ : ∃ op : Int, dop = .int op ∧ 0 ≤ op ∧ op ≤ 9 := by
    simp at hop
    rcases hop with rfl | rfl | rfl <;> exact ⟨_, rfl, by decide, by decide⟩
  refine lc_upto (fun i acc b' => b' ≤ b + 3 + 30 * i ∧ acc.length = i ∧ ∀ d ∈ acc, OkD kd d ∧ d ≠ .non) ⟨by omega, rfl, by simp⟩ (fun i acc b' hi ⟨hb', hl, hs⟩ => ?_) fun some b3 ⟨hb3, hls, hs⟩ => ?_
  · walk_at "qd"
    have fin : ∀ d, OkD kd d ∧ d ≠ .non → ∀ d' ∈ acc ++ [d], OkD kd d' ∧ ¬ d' = .non := fun d h d' hd => by
      rcases List.mem_append.mp hd with z | z
      · exact hs d' z
      · rw [List.mem_singleton.mp z]; exact h
    refine ite2 (fun e => ⟨by omega, fun t ok => ⟨szs (by omega), by omega, by rw [List.length_append, hl]; rfl, fin _ ⟨.inr (.inr ⟨e, t, rfl, ok⟩), by simp⟩⟩⟩) (fun e => ⟨by omega, fun n ok => ⟨szs (by omega), by omega, by rw [List.length_append, hl]; rfl, fin _ ⟨.inr (.inl ⟨?_, n, rfl, ok⟩), by simp⟩⟩⟩)
    rcases hkd with h | h
    · exact h
    · exact absurd h e
  · walk_at "qd"
    refine ⟨by walk_at "tk", fun s1 s10 s11 => ⟨⟨by decide, by decide, by decide⟩, by walk_at "tk", fun s2 s20 s21 => ⟨by walk_at "tk", fun s3 s30 s31 => at_any s30 s31 fun dst hst => ⟨by omega, by omega, ?_⟩⟩⟩⟩
    obtain ⟨stp, rfl, st0, st9⟩ : ∃ op : Int, dst = .int op ∧ -10 ≤ op ∧ op ≤ 1000000 := by
      simp at hst
      rcases hst with rfl | rfl <;> exact ⟨_, rfl, by omega, by omega⟩
    have hpos : 0 < some.length := by omega
    refine for_upto (fun i A b' => ∃ cs v8 v9, A = [.st, .val (.str kd), .val (.int m), .val (.int way), .val (.int op), .own some, .val (.int stp), .own cs, v8, v9, .no] ∧ b' ≤ b3 + 3 + 10 * i ∧ cs.length = i ∧ ∀ d ∈ cs, OkD kd d) ⟨[], .no, .no, rfl, by omega, rfl, by simp⟩ ?_ ?_
    · rintro i A b' hi ⟨cs, v8, v9, rfl, hb', hl, hcs⟩
      walk_at "qd"
      refine ⟨by walk_at "tk", fun r r0 r1 => at_any r0 r1 fun d hd => ?_⟩
      refine dcut (fun A b2 => ∃ d, A = [.st, .val (.str kd), .val (.int m), .val (.int way), .val (.int op), .own some, .val (.int stp), .own cs, .val (.int i), .val d, .no] ∧ OkD kd d ∧ b2 ≤ b' + 7) ?_ ?_
      · walk_at "qd"
        have ok := (hs d hd).1
        obtain ⟨d0, e0, m0⟩ := at_first hpos
        refine ite2 (fun e1 => ite2 (fun i0 => ⟨by walk_at "tk", fun r r0 r1 => ite2 (fun r2 => ?_) (fun _ => (ite2 (fun e2 => ite2 (fun ek => ?_) (fun _ => (ite2 (fun e3 => ite2 (fun ek => ⟨by omega, fun n hn => ⟨.inr (.inl ⟨ek, n, rfl, hn⟩), by omega⟩⟩) (fun _ => ⟨ok, by omega⟩)) (fun _ => ⟨ok, by omega⟩)))) (fun _ => (ite2 (fun e3 => ite2 (fun ek => ⟨by omega, fun n hn => ⟨.inr (.inl ⟨ek, n, rfl, hn⟩), by omega⟩⟩) (fun _ => ⟨ok, by omega⟩)) (fun _ => ⟨ok, by omega⟩)))))⟩) (fun _ => (ite2 (fun e2 => ite2 (fun ek => ?_) (fun _ => (ite2 (fun e3 => ite2 (fun ek => ⟨by omega, fun n hn => ⟨.inr (.inl ⟨ek, n, rfl, hn⟩), by omega⟩⟩) (fun _ => ⟨ok, by omega⟩)) (fun _ => ⟨ok, by omega⟩)))) (fun _ => (ite2 (fun e3 => ite2 (fun ek => ⟨by omega, fun n hn => ⟨.inr (.inl ⟨ek, n, rfl, hn⟩), by omega⟩⟩) (fun _ => ⟨ok, by omega⟩)) (fun _ => ⟨ok, by omega⟩)))))) (fun _ => (ite2 (fun e2 => ite2 (fun ek => ?_) (fun _ => (ite2 (fun e3 => ite2 (fun ek => ⟨by omega, fun n hn => ⟨.inr (.inl ⟨ek, n, rfl, hn⟩), by omega⟩⟩) (fun _ => ⟨ok, by omega⟩)) (fun _ => ⟨ok, by omega⟩)))) (fun _ => (ite2 (fun e3 => ite2 (fun ek => ⟨by omega, fun n hn => ⟨.inr (.inl ⟨ek, n, rfl, hn⟩), by omega⟩⟩) (fun _ => ⟨ok, by omega⟩)) (fun _ => ⟨ok, by omega⟩)))))
        · obtain ⟨dl, el, ml⟩ := at_last (xs := cs) (by omega)
          exact ⟨dl, el, hcs dl ml, by omega⟩
        all_goals
          obtain ⟨n0, rfl, hn0⟩ := (hs d0 m0).1.num (hs d0 m0).2 ek
          refine ⟨_, e0, ⟨by decide, by decide, by decide⟩, ?_⟩
          walk_at "qd"
          refine ⟨by decide, .inl ⟨by omega, by omega⟩, .inr (.inl ⟨ek, _, rfl, ?_⟩), by omega⟩
          have h1 : (0 : Int) ≤ n0 % 1000000000000 := Int.emod_nonneg _ (by decide)
          have h2 : n0 % 1000000000000 < 1000000000000 := Int.emod_lt_of_pos _ (by decide)
          have h3 : (i : Int) * stp ≤ 70 * 1000000 := by
            rcases Int.le_total 0 stp with z | z
            · exact Int.mul_le_mul (by omega) st9 z (by decide)
            · exact Int.le_trans (Int.mul_nonpos_of_nonneg_of_nonpos (by omega) z) (by decide)
          have h4 : -700 ≤ (i : Int) * stp := by
            rcases Int.le_total 0 stp with z | z
            · exact Int.le_trans (by decide) (Int.mul_nonneg (by omega) z)
            · have := Int.mul_le_mul_of_nonneg_left (c := (i : Int)) (show -10 ≤ stp from st0) (by omega)
              omega
          omega
      · rintro A b2 ⟨d, rfl, ok, hb2⟩
        refine dcut (fun A b3 => ∃ d, A = [.st, .val (.str kd), .val (.int m), .val (.int way), .val (.int op), .own some, .val (.int stp), .own cs, .val (.int i), .val d, .no] ∧ OkD kd d ∧ b3 ≤ b' + 8) ?_ ?_
        · walk_at "qd"
          exact ite2 (fun h => ite2 (fun _ => ⟨by walk_at "tk", fun r r0 r1 => ite2 (fun _ => ⟨.inl rfl, by omega⟩) (fun _ => ⟨ok, by omega⟩)⟩) (fun _ => ⟨ok, by omega⟩)) (fun _ => ⟨ok, by omega⟩)
        · rintro A b4 ⟨d, rfl, ok, hb4⟩
          walk_at "qd"
          refine ⟨szs (by omega), by omega, by rw [List.length_append, hl]; rfl, fun d' hd' => ?_⟩
          rcases List.mem_append.mp hd' with z | z
          · exact hcs d' z
          · rw [List.mem_singleton.mp z]; exact ok
    · rintro A b' ⟨cs, v8, v9, rfl, hb', hl, hcs⟩
      walk_at "qd"
      exact hk cs b' hl hcs (by omega)
theorem okd_kinds {j : Nat} {f : Addr} {fd : FuncData} {f_take : Addr} {fd_take : FuncData} (F : Fun K "_law_kinds" "_law_kinds" s_kinds f fd) (Z : Zs mg) (D_take : Df K mg "_law_take" s_take ["_law_state", "_law_many_here"] f_take fd_take) (G_take : FnOk P w K mg base CX0 j f_take fd_take ["_law_state", "_law_many_here"] (spD K dsTake)) : FnOk P w K mg base CX0 (j + 1) f fd ["_law_state"] (spD K dsKinds) := by
  refine fnD F sc_kinds (fun args b k kx h => ?_) fun cdv A outer s H E c hK hr => ⟨_, (s_cut (s_set (i := 1) sc_kinds.nd rfl (Or.inl rfl) (d_if (t_cmpK (c_eq hK hr.units) (d_call (kx := fun _ _ => False) hK G_take hr (by rfl) D_take.m D_take.F.kp D_take.b pass0 (a_cons (d_var (pv 0)) (a_cons d_int a_nil st_Constant) st_Name)) d_int (nomark _)) (d_add d_int (d_call (kx := fun _ _ => False) hK G_take hr (by rfl) D_take.m D_take.F.kp D_take.b pass0 (a_cons (d_var (pv 0)) (a_cons d_int a_nil st_Constant) st_Name))) (d_add d_int (d_call (kx := fun _ _ => False) hK G_take hr (by rfl) D_take.m D_take.F.kp D_take.b pass0 (a_cons (d_var (pv 0)) (a_cons d_int a_nil st_Constant) st_Name)))))
      (s_one (s_ret (d_lc (own := [("_law_turn", 2)]) rfl sc_kinds.nd (PFd.i (f_range1 (by rfl) Z.z_range (a_cons (d_var (pv 1)) a_nil st_Name))) (blkOk_by (own := [("_law_turn", 2)]) (N := N_kinds) (sc := defScope s_kinds) (by decide +kernel)) (fun _ _ _ _ _ => (g_name (pg_name (i := 2) sc_kinds.nd rfl (Or.inl rfl)))) (by decide) (fun _ _ _ _ _ => ts_nil) (fun _ _ _ _ _ => (d_ix hK (d_lst (a_cons d_str (a_cons d_str a_nil st_Constant) st_Constant)) (d_fdiv (d_call (kx := fun _ _ => False) hK G_take hr (by rfl) D_take.m D_take.F.kp D_take.b pass0 (a_cons (d_var (pv 0)) (a_cons d_int a_nil st_Constant) st_Name)) d_int) (fun _ _ => rfl))))))), ?_⟩
  · obtain ⟨rfl, hb, hk⟩ := h
    rfl
  rintro args b k kx ⟨rfl, hb, hk⟩
  rw [show startS N_kinds.length [.st] = [.st, .no, .no] from rfl]
  walk_at "qd"
  refine dcut (fun A b1 => ∃ n : Int, A = [.st, .val (.int n), .no] ∧ 1 ≤ n ∧ n ≤ 8 ∧ b1 ≤ b + 2) ?_ ?_
  · walk_at "qd"
    exact ⟨by walk_at "tk", fun r r0 r1 => ite2 (fun _ => ⟨by walk_at "tk", fun x x0 x1 => ⟨by omega, by omega, by omega⟩⟩) fun _ => ⟨by walk_at "tk", fun x x0 x1 => ⟨by omega, by omega, by omega⟩⟩⟩
  · rintro A b1 ⟨n, rfl, n0, n1, hb1⟩
    walk_at "qd"
    refine ⟨by omega, by omega, ?_⟩
    refine lc_upto (fun i acc b' => b' ≤ b1 + i ∧ ∃ ks : List Str, acc = ks.map D.str ∧ ks.length = i ∧ ∀ k ∈ ks, isKd k) ⟨by omega, [], rfl, rfl, by simp⟩ (fun i acc b' hi ⟨hb', ks, ha, hl, hs⟩ => ?_) fun acc b3 ⟨hb3, ks, ha, hl, hs⟩ => ?_
    · subst ha
      walk_at "qd"
      refine ⟨by walk_at "tk", fun r r0 r1 => ⟨⟨by decide, by decide⟩, at_any (by omega) (by show r / 2 < 2; omega) fun d hd => ⟨szs (by rw [List.length_map]; omega), by omega, ?_⟩⟩⟩
      obtain ⟨kd, rfl, hkd⟩ : ∃ kd, d = .str kd ∧ isKd kd := by
        simp at hd
        rcases hd with rfl | rfl
        · exact ⟨_, rfl, .inl rfl⟩
        · exact ⟨_, rfl, .inr rfl⟩
      refine ⟨ks ++ [kd], by rw [List.map_append]; rfl, by rw [List.length_append, hl]; rfl, fun k hk => ?_⟩
      rcases List.mem_append.mp hk with z | z
      · exact hs k z
      · rw [List.mem_singleton.mp z]; exact hkd
    · subst ha
      exact ⟨trivial, hk ks b3 ⟨by omega, by omega, hs⟩ (by omega)⟩
theorem okd_rows {j : Nat} {f : Addr} {fd : FuncData} {f_take : Addr} {fd_take : FuncData} {f_cells : Addr} {fd_cells : FuncData} (F : Fun K "_law_rows" "_law_rows" s_rows f fd) (Z : Zs mg) (D_take : Df K mg "_law_take" s_take ["_law_state", "_law_many_here"] f_take fd_take) (G_take : FnOk P w K mg base CX0 j f_take fd_take ["_law_state", "_law_many_here"] (spD K dsTake)) (D_cells : Df K mg "_law_cells" s_cells ["_law_state", "_law_kind", "_law_many_here"] f_cells fd_cells) (G_cells : FnOk P w K mg base CX0 j f_cells fd_cells ["_law_state", "_law_kind", "_law_many_here"] (spD K dsCells)) : FnOk P w K mg base CX0 (j + 1) f fd ["_law_state", "_law_kinds_here", "_law_many_here"] (spD K dsRows) := by
  refine fnD F sc_rows (fun args b k kx h => ?_) fun cdv A outer s H E c hK hr => ⟨_, (s_cons (s_set (i := 3) sc_rows.nd rfl (Or.inr rfl) (d_lc (own := [("_law_kind", 6)]) rfl sc_rows.nd (i_any hK (d_var (pv 1))) (blkOk_by (own := [("_law_kind", 6)]) (N := N_rows) (sc := defScope s_rows) (by decide +kernel)) (fun _ _ _ _ _ => (g_name (pg_name (i := 6) sc_rows.nd rfl (Or.inl rfl)))) (by decide) (fun _ _ _ _ _ => ts_nil) (fun _ _ _ _ _ => (d_call (kx := fun _ _ => False) hK G_cells hr (by rfl) D_cells.m D_cells.F.kp D_cells.b pass0 (a_cons (d_var (pv 0)) (a_cons (d_var (pv 6)) (a_cons (d_var (pv 2)) a_nil st_Name) st_Name) st_Name)))) (sw_cell rfl))
      (s_cons (s_setLc (i := 4) (own := [("_law_place", 7)]) rfl sc_rows.nd rfl rfl (sw_true rfl rfl rfl (by decide +kernel)) (PFd.i (f_range1 (by rfl) Z.z_range (a_cons (d_var (pv 2)) a_nil st_Name))) (blkOk_by (own := [("_law_place", 7)]) (N := N_rows) (sc := defScope s_rows) (by decide +kernel)) (fun _ _ _ _ _ => (g_name (pg_name (i := 7) sc_rows.nd rfl ((by first | exact Or.inr rfl | exact Or.inl rfl))))) (by decide) (fun _ _ _ _ _ => ts_nil) (fun _ _ _ _ _ => (d_ctK (k_tuple hK) (by rfl) Z.z_tuple (by decide +kernel) (a_cons (d_lc (own := [("_law_column", 8)]) rfl sc_rows.nd (i_any hK (d_var (pv 3))) (blkOk_by (own := [("_law_column", 8)]) (N := N_rows) (sc := (relab (lcScope (asgV (bodyAt s_rows 1))) (defScope s_rows))) (by decide +kernel)) (fun _ _ _ _ _ => (g_name (pg_name (i := 8) sc_rows.nd rfl (Or.inl rfl)))) (by decide) (fun _ _ _ _ _ => ts_nil) (fun _ _ _ _ _ => (d_ix hK (d_var (pv 8)) (d_var (pv 7)) (fun _ _ => rfl)))) a_nil st_ListComp))))
      (s_cons (s_for PassesOwn.never rfl (f_range1 (by rfl) Z.z_range (a_cons (d_fdiv (d_var (pv 2)) d_int) a_nil st_BinOp)) (g_name (pg_name (i := 5) sc_rows.nd rfl (Or.inl rfl))) (s_one (s_setIx (pv 4) (d_call (kx := fun _ _ => False) hK G_take hr (by rfl) D_take.m D_take.F.kp D_take.b pass0 (a_cons (d_var (pv 0)) (a_cons (d_var (pv 2)) a_nil st_Name) st_Name)) (d_ix hK (d_var (pv 4)) (d_call (kx := fun _ _ => False) hK G_take hr (by rfl) D_take.m D_take.F.kp D_take.b pass0 (a_cons (d_var (pv 0)) (a_cons (d_var (pv 2)) a_nil st_Name) st_Name)) (fun _ _ => rfl)))))
      (s_one (s_retv (pv 4)))))), ?_⟩
  · obtain ⟨s0, ks, m, rfl, hs, hks, hm, hb, hk⟩ := h
    rfl
  rintro args b k kx ⟨s0, ks, m, rfl, hs, hks, hm, hb, hk⟩
  rw [show startS N_rows.length [.st, s0, .val (.int m)] = [.st, s0, .val (.int m), .no, .no, .no, .no, .no, .no] from rfl]
  walk_at "qd"
  have h8 := hks.2.1
  rcases hs with rfl | rfl | rfl
  · walk_at "qd"
    refine lc_ds (fun i acc b' => b' ≤ b + 1500 * i ∧ acc.length = i ∧ ColsOk ks m acc) ⟨by omega, rfl, fun p kd d _ h => by simp at h⟩ (fun i d acc b' hd ⟨hb', hl, hs⟩ => ?_) fun cols b3 ⟨hb3, hl3, hcs⟩ => ?_
    · rw [List.getElem?_map] at hd
      cases hkd : ks[i]? with
      | none => rw [hkd] at hd; cases hd
      | some kd =>
        rw [hkd] at hd
        cases hd
        have hi := (List.getElem?_eq_some_iff.mp hkd).1
        walk_at "qd"
        exact ⟨kd, m, rfl, hks.2.2 kd (List.mem_of_getElem? hkd), hm, by omega, fun ds b2 h1 h2 h3 => ⟨trivial, szs (by omega), by omega, by rw [List.length_append, hl]; rfl, hs.snoc (by rw [hl]; exact hkd) h1 h2⟩⟩
    · rw [List.length_map] at hl3 hb3
      walk_at "qd"
      refine ⟨by omega, by omega, ?_⟩
      refine lc_upto (fun i acc b' => b' = b3 ∧ acc.length = i ∧ Rows ks acc) ⟨rfl, rfl, fun r hr => absurd hr (by simp)⟩ (fun i acc b' hi ⟨hb', hl, hs⟩ => ?_) fun rs b4 ⟨hb4, hl4, hrs⟩ => ?_
      · walk_at "qd"
        refine lc_map (colAt i) (szl (by omega)) (fun d acc2 Q hd ha hQ => ?_) ?_
        · obtain ⟨col, rfl, hcl⟩ := hcs.mem hl3 hd
          walk_at "qd"
          have hic : i < col.length := by omega
          refine ⟨_, (show atI col (i : Int) = some col[i] by unfold atI; rw [ix_ok (by omega) (by omega)]; exact List.getElem?_eq_getElem hic), ha, ?_⟩
          have : colAt i (.lst col) = col[i] := by show (col[i]?).getD .non = _; rw [List.getElem?_eq_getElem hic]; rfl
          rw [this] at hQ
          exact hQ
        · walk_at "qd"
          refine ⟨szs (by omega), hb', by rw [List.length_append, hl]; rfl, fun r hr => ?_⟩
          rcases List.mem_append.mp hr with z | z
          · exact hs r z
          · rw [List.mem_singleton.mp z]
            exact ⟨_, rfl, hcs.row hl3 hi⟩
      · walk_at "qd"
        refine ⟨⟨by decide, by decide⟩, by omega, by omega, ?_⟩
        refine for_upto (fun i A b' => ∃ rs v5 v6 v7 v8, A = [.st, .bb (ks.map D.str), .val (.int m), .own cols, .own rs, v5, v6, v7, v8] ∧ rs.length = m ∧ Rows ks rs ∧ b' ≤ b4 + 2 * i) ⟨rs, _, _, _, _, rfl, hl4, hrs, by omega⟩ ?_ ?_
        · rintro i A b' hi ⟨rs, v5, v6, v7, v8, rfl, hl, hrs, hb'⟩
          walk_at "qd"
          refine ⟨by walk_at "tk", fun r r0 r1 => ?_⟩
          obtain ⟨x, ex, hx⟩ := at_mem (xs := rs) (i := r) r0 (by omega)
          refine ⟨x, ex, by walk_at "tk", fun r2 r20 r21 => ⟨r2.toNat, ix_ok r20 (by omega), ?_⟩⟩
          exact ⟨by rw [List.length_set]; exact hl, hrs.set hx, by omega⟩
        · rintro A b' ⟨rs, v5, v6, v7, v8, rfl, hl, hrs, hb'⟩
          walk_at "qd"
          exact hk rs b' hl hrs (by omega)
  · walk_at "qd"
    refine lc_ds (fun i acc b' => b' ≤ b + 1500 * i ∧ acc.length = i ∧ ColsOk ks m acc) ⟨by omega, rfl, fun p kd d _ h => by simp at h⟩ (fun i d acc b' hd ⟨hb', hl, hs⟩ => ?_) fun cols b3 ⟨hb3, hl3, hcs⟩ => ?_
    · rw [List.getElem?_map] at hd
      cases hkd : ks[i]? with
      | none => rw [hkd] at hd; cases hd
      | some kd =>
        rw [hkd] at hd
        cases hd
        have hi := (List.getElem?_eq_some_iff.mp hkd).1
        walk_at "qd"
        exact ⟨kd, m, rfl, hks.2.2 kd (List.mem_of_getElem? hkd), hm, by omega, fun ds b2 h1 h2 h3 => ⟨trivial, szs (by omega), by omega, by rw [List.length_append, hl]; rfl, hs.snoc (by rw [hl]; exact hkd) h1 h2⟩⟩
    · rw [List.length_map] at hl3 hb3
      walk_at "qd"
      refine ⟨by omega, by omega, ?_⟩
      refine lc_upto (fun i acc b' => b' = b3 ∧ acc.length = i ∧ Rows ks acc) ⟨rfl, rfl, fun r hr => absurd hr (by simp)⟩ (fun i acc b' hi ⟨hb', hl, hs⟩ => ?_) fun rs b4 ⟨hb4, hl4, hrs⟩ => ?_
      · walk_at "qd"
        refine lc_map (colAt i) (szl (by omega)) (fun d acc2 Q hd ha hQ => ?_) ?_
        · obtain ⟨col, rfl, hcl⟩ := hcs.mem hl3 hd
          walk_at "qd"
          have hic : i < col.length := by omega
          refine ⟨_, (show atI col (i : Int) = some col[i] by unfold atI; rw [ix_ok (by omega) (by omega)]; exact List.getElem?_eq_getElem hic), ha, ?_⟩
          have : colAt i (.lst col) = col[i] := by show (col[i]?).getD .non = _; rw [List.getElem?_eq_getElem hic]; rfl
          rw [this] at hQ
          exact hQ
        · walk_at "qd"
          refine ⟨szs (by omega), hb', by rw [List.length_append, hl]; rfl, fun r hr => ?_⟩
          rcases List.mem_append.mp hr with z | z
          · exact hs r z
          · rw [List.mem_singleton.mp z]
            exact ⟨_, rfl, hcs.row hl3 hi⟩
      · walk_at "qd"
        refine ⟨⟨by decide, by decide⟩, by omega, by omega, ?_⟩
        refine for_upto (fun i A b' => ∃ rs v5 v6 v7 v8, A = [.st, .val (.lst (ks.map D.str)), .val (.int m), .own cols, .own rs, v5, v6, v7, v8] ∧ rs.length = m ∧ Rows ks rs ∧ b' ≤ b4 + 2 * i) ⟨rs, _, _, _, _, rfl, hl4, hrs, by omega⟩ ?_ ?_
        · rintro i A b' hi ⟨rs, v5, v6, v7, v8, rfl, hl, hrs, hb'⟩
          walk_at "qd"
          refine ⟨by walk_at "tk", fun r r0 r1 => ?_⟩
          obtain ⟨x, ex, hx⟩ := at_mem (xs := rs) (i := r) r0 (by omega)
          refine ⟨x, ex, by walk_at "tk", fun r2 r20 r21 => ⟨r2.toNat, ix_ok r20 (by omega), ?_⟩⟩
          exact ⟨by rw [List.length_set]; exact hl, hrs.set hx, by omega⟩
        · rintro A b' ⟨rs, v5, v6, v7, v8, rfl, hl, hrs, hb'⟩
          walk_at "qd"
          exact hk rs b' hl hrs (by omega)
  · walk_at "qd"
    refine lc_ds (fun i acc b' => b' ≤ b + 1500 * i ∧ acc.length = i ∧ ColsOk ks m acc) ⟨by omega, rfl, fun p kd d _ h => by simp at h⟩ (fun i d acc b' hd ⟨hb', hl, hs⟩ => ?_) fun cols b3 ⟨hb3, hl3, hcs⟩ => ?_
    · rw [List.getElem?_map] at hd
      cases hkd : ks[i]? with
      | none => rw [hkd] at hd; cases hd
      | some kd =>
        rw [hkd] at hd
        cases hd
        have hi := (List.getElem?_eq_some_iff.mp hkd).1
        walk_at "qd"
        exact ⟨kd, m, rfl, hks.2.2 kd (List.mem_of_getElem? hkd), hm, by omega, fun ds b2 h1 h2 h3 => ⟨trivial, szs (by omega), by omega, by rw [List.length_append, hl]; rfl, hs.snoc (by rw [hl]; exact hkd) h1 h2⟩⟩
    · rw [List.length_map] at hl3 hb3
      walk_at "qd"
      refine ⟨by omega, by omega, ?_⟩
      refine lc_upto (fun i acc b' => b' = b3 ∧ acc.length = i ∧ Rows ks acc) ⟨rfl, rfl, fun r hr => absurd hr (by simp)⟩ (fun i acc b' hi ⟨hb', hl, hs⟩ => ?_) fun rs b4 ⟨hb4, hl4, hrs⟩ => ?_
      · walk_at "qd"
        refine lc_map (colAt i) (szl (by omega)) (fun d acc2 Q hd ha hQ => ?_) ?_
        · obtain ⟨col, rfl, hcl⟩ := hcs.mem hl3 hd
          walk_at "qd"
          have hic : i < col.length := by omega
          refine ⟨_, (show atI col (i : Int) = some col[i] by unfold atI; rw [ix_ok (by omega) (by omega)]; exact List.getElem?_eq_getElem hic), ha, ?_⟩
          have : colAt i (.lst col) = col[i] := by show (col[i]?).getD .non = _; rw [List.getElem?_eq_getElem hic]; rfl
          rw [this] at hQ
          exact hQ
        · walk_at "qd"
          refine ⟨szs (by omega), hb', by rw [List.length_append, hl]; rfl, fun r hr => ?_⟩
          rcases List.mem_append.mp hr with z | z
          · exact hs r z
          · rw [List.mem_singleton.mp z]
            exact ⟨_, rfl, hcs.row hl3 hi⟩
      · walk_at "qd"
        refine ⟨⟨by decide, by decide⟩, by omega, by omega, ?_⟩
        refine for_upto (fun i A b' => ∃ rs v5 v6 v7 v8, A = [.st, .val (.tup (ks.map D.str)), .val (.int m), .own cols, .own rs, v5, v6, v7, v8] ∧ rs.length = m ∧ Rows ks rs ∧ b' ≤ b4 + 2 * i) ⟨rs, _, _, _, _, rfl, hl4, hrs, by omega⟩ ?_ ?_
        · rintro i A b' hi ⟨rs, v5, v6, v7, v8, rfl, hl, hrs, hb'⟩
          walk_at "qd"
          refine ⟨by walk_at "tk", fun r r0 r1 => ?_⟩
          obtain ⟨x, ex, hx⟩ := at_mem (xs := rs) (i := r) r0 (by omega)
          refine ⟨x, ex, by walk_at "tk", fun r2 r20 r21 => ⟨r2.toNat, ix_ok r20 (by omega), ?_⟩⟩
          exact ⟨by rw [List.length_set]; exact hl, hrs.set hx, by omega⟩
        · rintro A b' ⟨rs, v5, v6, v7, v8, rfl, hl, hrs, hb'⟩
          walk_at "qd"
          exact hk rs b' hl hrs (by omega)
theorem okd_small_rows {j : Nat} {f : Addr} {fd : FuncData} {f_take : Addr} {fd_take : FuncData} (F : Fun K "_law_small_rows" "_law_small_rows" s_small_rows f fd) (Z : Zs mg) (D_take : Df K mg "_law_take" s_take ["_law_state", "_law_many_here"] f_take fd_take) (G_take : FnOk P w K mg base CX0 j f_take fd_take ["_law_state", "_law_many_here"] (spD K dsTake)) : FnOk P w K mg base CX0 (j + 1) f fd ["_law_state", "_law_kinds_here", "_law_many_here"] (spD K dsRows) := by
  refine fnD F sc_small_rows (fun args b k kx h => ?_) fun cdv A outer s H E c hK hr => ⟨_, (s_cons (s_set (i := 3) sc_small_rows.nd rfl (Or.inl rfl) (d_lst a_nil))
      (s_cons (s_for PassesOwn.never rfl (f_range1 (by rfl) Z.z_range (a_cons (d_var (pv 2)) a_nil st_Name)) (g_name (pg_name (i := 4) sc_small_rows.nd rfl (Or.inl rfl))) (s_cons (s_set (i := 5) sc_small_rows.nd rfl (Or.inl rfl) (d_lst a_nil))
      (s_cons (s_for PassesOwn.never rfl (f_any hK (d_var (pv 1))) (g_name (pg_name (i := 6) sc_small_rows.nd rfl (Or.inl rfl))) (s_cons (s_set (i := 7) sc_small_rows.nd rfl (Or.inl rfl) (d_ix hK (d_lst (a_cons (d_call (kx := fun _ _ => False) hK G_take hr (by rfl) D_take.m D_take.F.kp D_take.b pass0 (a_cons (d_var (pv 0)) (a_cons d_int a_nil st_Constant) st_Name)) (a_cons (d_ix hK (d_lst (a_cons d_str (a_cons d_str (a_cons d_str (a_cons d_str a_nil st_Constant) st_Constant) st_Constant) st_Constant)) (d_call (kx := fun _ _ => False) hK G_take hr (by rfl) D_take.m D_take.F.kp D_take.b pass0 (a_cons (d_var (pv 0)) (a_cons d_int a_nil st_Constant) st_Name)) (fun _ _ => rfl)) a_nil st_Subscript) st_Call)) (d_ctK (k_int) (by rfl) Z.z_int (by decide +kernel) (a_cons (d_cmpK (c_eq hK hr.units) (d_var (pv 6)) d_str (nomark _)) a_nil st_Compare)) (fun _ _ => rfl)))
      (s_one (s_app (pv 5) (d_ix hK (d_lst (a_cons (d_var (pv 7)) (a_cons (d_var (pv 7)) (a_cons (d_var (pv 7)) (a_cons (d_var (pv 7)) (a_cons d_non a_nil st_Constant) st_Name) st_Name) st_Name) st_Name)) (d_call (kx := fun _ _ => False) hK G_take hr (by rfl) D_take.m D_take.F.kp D_take.b pass0 (a_cons (d_var (pv 0)) (a_cons d_int a_nil st_Constant) st_Name)) (fun _ _ => rfl)) st_Subscript))))
      (s_one (s_app (pv 3) (d_ctK (k_tuple hK) (by rfl) Z.z_tuple (by decide +kernel) (a_cons (d_var (pv 5)) a_nil st_Name)) st_Call)))))
      (s_one (s_retv (pv 3))))), ?_⟩
  · obtain ⟨s0, ks, m, rfl, hs, hks, hm, hb, hk⟩ := h
    rfl
  rintro args b k kx ⟨s0, ks, m, rfl, hs, hks, hm, hb, hk⟩
  rw [show startS N_small_rows.length [.st, s0, .val (.int m)] = [.st, s0, .val (.int m), .no, .no, .no, .no, .no] from rfl]
  walk_at "qd"
  refine ⟨by omega, by omega, ?_⟩
  rcases hs with rfl | rfl | rfl
  · refine for_upto (fun i A b' => ∃ rs v4 v5 v6 v7, A = [.st, .bb (ks.map D.str), .val (.int m), .own rs, v4, v5, v6, v7] ∧ rs.length = i ∧ Rows ks rs ∧ b' ≤ b + 24 * i) ⟨[], _, _, _, _, rfl, rfl, fun r hr => absurd hr (by simp), by omega⟩ ?_ ?_
    · rintro i A b' hi ⟨rs, v4, v5, v6, v7, rfl, hl, hrs, hb'⟩
      walk_at "qd"
      have h8 := hks.2.1
      refine for_ds (fun i2 A b2 => ∃ cs v6 v7, A = [.st, .bb (ks.map D.str), .val (.int m), .own rs, .val (.int i), .own cs, v6, v7] ∧ cs.length = i2 ∧ RowPre ks cs ∧ b2 ≤ b' + 3 * i2) ⟨[], _, _, rfl, rfl, rowPre_nil, by omega⟩ ?_ ?_
      · rintro i2 d A b2 hd ⟨cs, v6, v7, rfl, hl2, hcs, hb2⟩
        rw [List.getElem?_map] at hd
        cases hkd : ks[i2]? with
        | none => rw [hkd] at hd; cases hd
        | some kd =>
          rw [hkd] at hd
          cases hd
          have hi2 := (List.getElem?_eq_some_iff.mp hkd).1
          walk_at "qd"
          refine ⟨by walk_at "tk", fun r r0 r1 => ⟨by walk_at "tk", fun r2 r20 r21 => at_any r20 r21 fun dt hdt => ?_⟩⟩
          have hdt' : ∃ t, dt = .str t ∧ OkT t := by
            simp at hdt
            rcases hdt with rfl | rfl | rfl | rfl <;> exact ⟨_, rfl, okT_of (by decide +kernel)⟩
          obtain ⟨t, rfl, ht⟩ := hdt'
          obtain ⟨d1, e1, ok1⟩ : ∃ d1, atI [D.int r, .str t] (if kd = Str.ofString "text" then 1 else 0) = some d1 ∧ OkD kd d1 := by
            by_cases e : kd = Str.ofString "text"
            · rw [if_pos e]
              exact ⟨_, rfl, .inr (.inr ⟨e, t, rfl, ht⟩)⟩
            · rw [if_neg e]
              refine ⟨_, rfl, .inr (.inl ⟨?_, _, rfl, ?_⟩)⟩
              · rcases hks.2.2 kd (List.mem_of_getElem? hkd) with h | h
                · exact h
                · exact absurd h e
              · omega
          refine ⟨d1, e1, by walk_at "tk", fun r3 r30 r31 => at_any r30 r31 fun d2 hd2 => ⟨szs (by omega), by rw [List.length_append, hl2]; rfl, hcs.snoc (by rw [hl2]; exact hkd) ?_, by omega⟩⟩
          simp at hd2
          rcases hd2 with rfl | rfl
          · exact ok1
          · exact .inl rfl
      · rintro A b2 ⟨cs, v6, v7, rfl, hl2, hcs, hb2⟩
        rw [List.length_map] at hl2
        rw [List.length_map] at hb2
        walk_at "qd"
        refine ⟨szs (by omega), by rw [List.length_append, hl]; rfl, fun r hr => ?_, by omega⟩
        rcases List.mem_append.mp hr with z | z
        · exact hrs r z
        · rw [List.mem_singleton.mp z]
          exact ⟨cs, rfl, hl2, hcs⟩
    · rintro A b' ⟨rs, v4, v5, v6, v7, rfl, hl, hrs, hb'⟩
      walk_at "qd"
      exact hk rs b' hl hrs (by omega)
  · refine for_upto (fun i A b' => ∃ rs v4 v5 v6 v7, A = [.st, .val (.lst (ks.map D.str)), .val (.int m), .own rs, v4, v5, v6, v7] ∧ rs.length = i ∧ Rows ks rs ∧ b' ≤ b + 24 * i) ⟨[], _, _, _, _, rfl, rfl, fun r hr => absurd hr (by simp), by omega⟩ ?_ ?_
    · rintro i A b' hi ⟨rs, v4, v5, v6, v7, rfl, hl, hrs, hb'⟩
      walk_at "qd"
      have h8 := hks.2.1
      refine for_ds (fun i2 A b2 => ∃ cs v6 v7, A = [.st, .val (.lst (ks.map D.str)), .val (.int m), .own rs, .val (.int i), .own cs, v6, v7] ∧ cs.length = i2 ∧ RowPre ks cs ∧ b2 ≤ b' + 3 * i2) ⟨[], _, _, rfl, rfl, rowPre_nil, by omega⟩ ?_ ?_
      · rintro i2 d A b2 hd ⟨cs, v6, v7, rfl, hl2, hcs, hb2⟩
        rw [List.getElem?_map] at hd
        cases hkd : ks[i2]? with
        | none => rw [hkd] at hd; cases hd
        | some kd =>
          rw [hkd] at hd
          cases hd
          have hi2 := (List.getElem?_eq_some_iff.mp hkd).1
          walk_at "qd"
          refine ⟨by walk_at "tk", fun r r0 r1 => ⟨by walk_at "tk", fun r2 r20 r21 => at_any r20 r21 fun dt hdt => ?_⟩⟩
          have hdt' : ∃ t, dt = .str t ∧ OkT t := by
            simp at hdt
            rcases hdt with rfl | rfl | rfl | rfl <;> exact ⟨_, rfl, okT_of (by decide +kernel)⟩
          obtain ⟨t, rfl, ht⟩ := hdt'
          obtain ⟨d1, e1, ok1⟩ : ∃ d1, atI [D.int r, .str t] (if kd = Str.ofString "text" then 1 else 0) = some d1 ∧ OkD kd d1 := by
            by_cases e : kd = Str.ofString "text"
            · rw [if_pos e]
              exact ⟨_, rfl, .inr (.inr ⟨e, t, rfl, ht⟩)⟩
            · rw [if_neg e]
              refine ⟨_, rfl, .inr (.inl ⟨?_, _, rfl, ?_⟩)⟩
              · rcases hks.2.2 kd (List.mem_of_getElem? hkd) with h | h
                · exact h
                · exact absurd h e
              · omega
          refine ⟨d1, e1, by walk_at "tk", fun r3 r30 r31 => at_any r30 r31 fun d2 hd2 => ⟨szs (by omega), by rw [List.length_append, hl2]; rfl, hcs.snoc (by rw [hl2]; exact hkd) ?_, by omega⟩⟩
          simp at hd2
          rcases hd2 with rfl | rfl
          · exact ok1
          · exact .inl rfl
      · rintro A b2 ⟨cs, v6, v7, rfl, hl2, hcs, hb2⟩
        rw [List.length_map] at hl2
        rw [List.length_map] at hb2
        walk_at "qd"
        refine ⟨szs (by omega), by rw [List.length_append, hl]; rfl, fun r hr => ?_, by omega⟩
        rcases List.mem_append.mp hr with z | z
        · exact hrs r z
        · rw [List.mem_singleton.mp z]
          exact ⟨cs, rfl, hl2, hcs⟩
    · rintro A b' ⟨rs, v4, v5, v6, v7, rfl, hl, hrs, hb'⟩
      walk_at "qd"
      exact hk rs b' hl hrs (by omega)
  · refine for_upto (fun i A b' => ∃ rs v4 v5 v6 v7, A = [.st, .val (.tup (ks.map D.str)), .val (.int m), .own rs, v4, v5, v6, v7] ∧ rs.length = i ∧ Rows ks rs ∧ b' ≤ b + 24 * i) ⟨[], _, _, _, _, rfl, rfl, fun r hr => absurd hr (by simp), by omega⟩ ?_ ?_
    · rintro i A b' hi ⟨rs, v4, v5, v6, v7, rfl, hl, hrs, hb'⟩
      walk_at "qd"
      have h8 := hks.2.1
      refine for_ds (fun i2 A b2 => ∃ cs v6 v7, A = [.st, .val (.tup (ks.map D.str)), .val (.int m), .own rs, .val (.int i), .own cs, v6, v7] ∧ cs.length = i2 ∧ RowPre ks cs ∧ b2 ≤ b' + 3 * i2) ⟨[], _, _, rfl, rfl, rowPre_nil, by omega⟩ ?_ ?_
      · rintro i2 d A b2 hd ⟨cs, v6, v7, rfl, hl2, hcs, hb2⟩
        rw [List.getElem?_map] at hd
        cases hkd : ks[i2]? with
        | none => rw [hkd] at hd; cases hd
        | some kd =>
          rw [hkd] at hd
          cases hd
          have hi2 := (List.getElem?_eq_some_iff.mp hkd).1
          walk_at "qd"
          refine ⟨by walk_at "tk", fun r r0 r1 => ⟨by walk_at "tk", fun r2 r20 r21 => at_any r20 r21 fun dt hdt => ?_⟩⟩
          have hdt' : ∃ t, dt = .str t ∧ OkT t := by
            simp at hdt
            rcases hdt with rfl | rfl | rfl | rfl <;> exact ⟨_, rfl, okT_of (by decide +kernel)⟩
          obtain ⟨t, rfl, ht⟩ := hdt'
          obtain ⟨d1, e1, ok1⟩ : ∃ d1, atI [D.int r, .str t] (if kd = Str.ofString "text" then 1 else 0) = some d1 ∧ OkD kd d1 := by
            by_cases e : kd = Str.ofString "text"
            · rw [if_pos e]
              exact ⟨_, rfl, .inr (.inr ⟨e, t, rfl, ht⟩)⟩
            · rw [if_neg e]
              refine ⟨_, rfl, .inr (.inl ⟨?_, _, rfl, ?_⟩)⟩
              · rcases hks.2.2 kd (List.mem_of_getElem? hkd) with h | h
                · exact h
                · exact absurd h e
              · omega
          refine ⟨d1, e1, by walk_at "tk", fun r3 r30 r31 => at_any r30 r31 fun d2 hd2 => ⟨szs (by omega), by rw [List.length_append, hl2]; rfl, hcs.snoc (by rw [hl2]; exact hkd) ?_, by omega⟩⟩
          simp at hd2
          rcases hd2 with rfl | rfl
          · exact ok1
          · exact .inl rfl
      · rintro A b2 ⟨cs, v6, v7, rfl, hl2, hcs, hb2⟩
        rw [List.length_map] at hl2
        rw [List.length_map] at hb2
        walk_at "qd"
        refine ⟨szs (by omega), by rw [List.length_append, hl]; rfl, fun r hr => ?_, by omega⟩
        rcases List.mem_append.mp hr with z | z
        · exact hrs r z
        · rw [List.mem_singleton.mp z]
          exact ⟨cs, rfl, hl2, hcs⟩
    · rintro A b' ⟨rs, v4, v5, v6, v7, rfl, hl, hrs, hb'⟩
      walk_at "qd"
      exact hk rs b' hl hrs (by omega)
theorem okd_table {j : Nat} {f : Addr} {fd : FuncData} {f_small_rows : Addr} {fd_small_rows : FuncData} {f_take : Addr} {fd_take : FuncData} {f_rows : Addr} {fd_rows : FuncData} {f_kinds : Addr} {fd_kinds : FuncData} (F : Fun K "_law_table" "_law_table" s_table f fd) (Z : Zs mg) (D_small_rows : Df K mg "_law_small_rows" s_small_rows ["_law_state", "_law_kinds_here", "_law_many_here"] f_small_rows fd_small_rows) (G_small_rows : FnOk P w K mg base CX0 j f_small_rows fd_small_rows ["_law_state", "_law_kinds_here", "_law_many_here"] (spD K dsRows)) (D_take : Df K mg "_law_take" s_take ["_law_state", "_law_many_here"] f_take fd_take) (G_take : FnOk P w K mg base CX0 j f_take fd_take ["_law_state", "_law_many_here"] (spD K dsTake)) (D_rows : Df K mg "_law_rows" s_rows ["_law_state", "_law_kinds_here", "_law_many_here"] f_rows fd_rows) (G_rows : FnOk P w K mg base CX0 j f_rows fd_rows ["_law_state", "_law_kinds_here", "_law_many_here"] (spD K dsRows)) (D_kinds : Df K mg "_law_kinds" s_kinds ["_law_state"] f_kinds fd_kinds) (G_kinds : FnOk P w K mg base CX0 j f_kinds fd_kinds ["_law_state"] (spD K dsKinds)) : FnOk P w K mg base CX0 (j + 1) f fd ["_law_state"] (spD K dsTable) := by
  refine fnD F sc_table (fun args b k kx h => ?_) fun cdv A outer s H E c hK hr => ⟨_, (s_cons (s_set (i := 1) sc_table.nd rfl (Or.inl rfl) (d_call (kx := fun _ _ => False) hK G_kinds hr (by rfl) D_kinds.m D_kinds.F.kp D_kinds.b pass0 (a_cons (d_var (pv 0)) a_nil st_Name)))
      (s_cut (s_set (i := 2) sc_table.nd rfl (Or.inl rfl) (d_if (t_cmpK (c_eq hK hr.units) (d_call (kx := fun _ _ => False) hK G_take hr (by rfl) D_take.m D_take.F.kp D_take.b pass0 (a_cons (d_var (pv 0)) (a_cons d_int a_nil st_Constant) st_Name)) d_int (nomark _)) (d_add d_int (d_call (kx := fun _ _ => False) hK G_take hr (by rfl) D_take.m D_take.F.kp D_take.b pass0 (a_cons (d_var (pv 0)) (a_cons d_int a_nil st_Constant) st_Name))) (d_call (kx := fun _ _ => False) hK G_take hr (by rfl) D_take.m D_take.F.kp D_take.b pass0 (a_cons (d_var (pv 0)) (a_cons d_int a_nil st_Constant) st_Name))))
      (s_cons (s_if (t_cmpK (c_eq hK hr.units) (d_call (kx := fun _ _ => False) hK G_take hr (by rfl) D_take.m D_take.F.kp D_take.b pass0 (a_cons (d_var (pv 0)) (a_cons d_int a_nil st_Constant) st_Name)) d_int (nomark _)) (s_one (s_frz (i := 1) (s_ret (d_tup (a_cons (d_var (pv 1)) (a_cons (d_call (kx := fun _ _ => False) hK G_rows hr (by rfl) D_rows.m D_rows.F.kp D_rows.b pass0 (a_cons (d_var (pv 0)) (a_cons (d_var (pv 1)) (a_cons (d_var (pv 2)) a_nil st_Name) st_Name) st_Name)) a_nil st_Call) st_Name))))) s_nil)
      (s_one (s_frz (i := 1) (s_ret (d_tup (a_cons (d_var (pv 1)) (a_cons (d_call (kx := fun _ _ => False) hK G_small_rows hr (by rfl) D_small_rows.m D_small_rows.F.kp D_small_rows.b pass0 (a_cons (d_var (pv 0)) (a_cons (d_var (pv 1)) (a_cons (d_var (pv 2)) a_nil st_Name) st_Name) st_Name)) a_nil st_Call) st_Name)))))))), ?_⟩
  · obtain ⟨rfl, hb, hk⟩ := h
    rfl
  rintro args b k kx ⟨rfl, hb, hk⟩
  rw [show startS N_table.length [.st] = [.st, .no, .no] from rfl]
  walk_at "qd"
  refine ⟨rfl, by omega, fun ks b1 hks hb1 => ?_⟩
  walk_at "qd"
  refine dcut (fun A b2 => ∃ n : Nat, A = [.st, .own (ks.map D.str), .val (.int n)] ∧ n ≤ 25 ∧ b2 ≤ b1 + 2) ?_ ?_
  · walk_at "qd"
    refine ⟨by walk_at "tk", fun r r0 r1 => ite2 (fun _ => ⟨by walk_at "tk", fun x x0 x1 => ?_⟩) fun _ => ⟨by walk_at "tk", fun x x0 x1 => ?_⟩⟩
    · exact ⟨(12 + x).toNat, by omega, by omega, by omega⟩
    · exact ⟨x.toNat, by omega, by omega, by omega⟩
  · rintro A b2 ⟨n, rfl, hn, hb2⟩
    walk_at "qd"
    refine ⟨by walk_at "tk", fun r r0 r1 => ite2 (fun _ => ?_) fun _ => ?_⟩
    · refine ⟨_, ks, n, rfl, .inr (.inl rfl), hks, by omega, by omega, fun rs b3 h1 h2 h3 => ?_⟩
      walk_at "qd"
      exact hk ks rs b3 hks (by omega) h2 (by omega)
    · refine ⟨_, ks, n, rfl, .inr (.inl rfl), hks, by omega, by omega, fun rs b3 h1 h2 h3 => ?_⟩
      walk_at "qd"
      exact hk ks rs b3 hks (by omega) h2 (by omega)
theorem okd_test {j : Nat} {f_test : Addr} {fd_test : FuncData} {f_value : Addr} {fd_value : FuncData} {f_take : Addr} {fd_take : FuncData} (D_test : Df K mg "_law_test" s_test ["_law_state", "_law_own", "_law_deep"] f_test fd_test) (Z : Zs mg) (D_value : Df K mg "_law_value" s_value ["_law_state", "_law_kind"] f_value fd_value) (G_value : FnOk P w K mg base CX0 j f_value fd_value ["_law_state", "_law_kind"] (spD K dsValueN)) (D_take : Df K mg "_law_take" s_take ["_law_state", "_law_many_here"] f_take fd_take) (G_take : FnOk P w K mg base CX0 j f_take fd_take ["_law_state", "_law_many_here"] (spD K dsTake)) : ∀ m : Nat, FnOk P w K mg base CX0 (j + m + 1) f_test fd_test ["_law_state", "_law_own", "_law_deep"] (spD K (dsTestV m))
  | 0 => fn_void fun args b k kx h => by
    obtain ⟨ks, h, rfl, hks, hm, hn, hb, hk⟩ := h
    omega
  | m + 1 => by
    have G_test := okd_test (j := j) D_test Z D_value G_value D_take G_take m
    have G_value := L2.FnOk.mono G_value (show j ≤ j + m + 1 by omega)
    have G_take := L2.FnOk.mono G_take (show j ≤ j + m + 1 by omega)
    refine fnD D_test.F sc_test (fun args b k kx h => ?_) fun cdv A outer s H E c hK hr => ⟨_, (s_cons (s_set (i := 3) sc_test.nd rfl (Or.inl rfl) (d_call (kx := fun _ _ => False) hK G_take hr (by rfl) D_take.m D_take.F.kp D_take.b pass0 (a_cons (d_var (pv 0)) (a_cons d_int a_nil st_Constant) st_Name)))
        (s_cut (s_if (PWd.pt (w_and (t_cmpK c_gt (d_var (pv 2)) d_int (nomark _)) (w_and1 (t_cmpK c_gt (d_var (pv 3)) d_int (nomark _))))) (s_cons (s_if (t_cmpK (c_eq hK hr.units) (d_var (pv 3)) d_int (nomark _)) (s_one (s_ret (d_tup (a_cons d_str (a_cons (d_call (kx := fun _ _ => False) hK G_test hr (by rfl) D_test.m D_test.F.kp D_test.b pass0 (a_cons (d_var (pv 0)) (a_cons (d_var (pv 1)) (a_cons (d_sub (d_var (pv 2)) d_int) a_nil st_BinOp) st_Name) st_Name)) a_nil st_Call) st_Constant)))) s_nil)
        (s_one (s_ret (d_tup (a_cons (d_ix hK (d_lst (a_cons d_str (a_cons d_str a_nil st_Constant) st_Constant)) (d_sub (d_var (pv 3)) d_int) (fun _ _ => rfl)) (a_cons (d_call (kx := fun _ _ => False) hK G_test hr (by rfl) D_test.m D_test.F.kp D_test.b pass0 (a_cons (d_var (pv 0)) (a_cons (d_var (pv 1)) (a_cons (d_sub (d_var (pv 2)) d_int) a_nil st_BinOp) st_Name) st_Name)) (a_cons (d_call (kx := fun _ _ => False) hK G_test hr (by rfl) D_test.m D_test.F.kp D_test.b pass0 (a_cons (d_var (pv 0)) (a_cons (d_var (pv 1)) (a_cons (d_sub (d_var (pv 2)) d_int) a_nil st_BinOp) st_Name) st_Name)) a_nil st_Call) st_Call) st_Subscript))))) s_nil)
        (s_cons (s_if (t_cmpK (c_eq hK hr.units) (d_var (pv 3)) d_int (nomark _)) (s_one (s_ret (d_tup (a_cons d_str a_nil st_Constant)))) s_nil)
        (s_cons (s_set (i := 4) sc_test.nd rfl (Or.inr rfl) (d_call (kx := fun _ _ => False) hK G_take hr (by rfl) D_take.m D_take.F.kp D_take.b pass0 (a_cons (d_var (pv 0)) (a_cons (d_cbK (k_len hK) (by rfl) Z.z_len (by decide +kernel) (a_cons (d_var (pv 1)) a_nil st_Name)) a_nil st_Call) st_Name)))
        (s_cons (s_set (i := 5) sc_test.nd rfl (Or.inl rfl) (d_ix hK (d_lst (a_cons d_str (a_cons d_str (a_cons d_str (a_cons d_str (a_cons d_str (a_cons d_str a_nil st_Constant) st_Constant) st_Constant) st_Constant) st_Constant) st_Constant)) (d_call (kx := fun _ _ => False) hK G_take hr (by rfl) D_take.m D_take.F.kp D_take.b pass0 (a_cons (d_var (pv 0)) (a_cons d_int a_nil st_Constant) st_Name)) (fun _ _ => rfl)))
        (s_cons (s_if (t_cmpK (c_eq hK hr.units) (d_var (pv 3)) d_int (nomark _)) (s_one (s_ret (d_tup (a_cons d_str (a_cons (d_var (pv 4)) (a_cons (d_tup (a_cons d_str a_nil st_Constant)) a_nil st_Tuple) st_Name) st_Constant)))) s_nil)
        (s_cons (s_if (t_cmpK (c_eq hK hr.units) (d_var (pv 3)) d_int (nomark _)) (s_cons (s_setLc (i := 6) (own := [("_law_other", 7)]) rfl sc_test.nd rfl rfl (sw_true rfl rfl rfl (by decide +kernel)) (PFd.i (f_range1 (by rfl) Z.z_range (a_cons (d_cbK (k_len hK) (by rfl) Z.z_len (by decide +kernel) (a_cons (d_var (pv 1)) a_nil st_Name)) a_nil st_Call))) (blkOk_by (own := [("_law_other", 7)]) (N := N_test) (sc := defScope s_test) (by decide +kernel)) (fun _ _ _ _ _ => (g_name (pg_name (i := 7) sc_test.nd rfl (Or.inl rfl)))) (by decide) (fun _ _ _ _ _ => (ts_one (t_cmpK (c_eq hK hr.units) (d_ix hK (d_var (pv 1)) (d_var (pv 7)) (fun _ _ => rfl)) (d_ix hK (d_var (pv 1)) (d_var (pv 4)) (fun _ _ => rfl)) (nomark _)))) (fun _ _ _ _ _ => (d_var (pv 7))))
        (s_one (s_ret (d_tup (a_cons d_str (a_cons (d_var (pv 4)) (a_cons (d_var (pv 5)) (a_cons (d_ix hK (d_var (pv 6)) (d_call (kx := fun _ _ => False) hK G_take hr (by rfl) D_take.m D_take.F.kp D_take.b pass0 (a_cons (d_var (pv 0)) (a_cons (d_cbK (k_len hK) (by rfl) Z.z_len (by decide +kernel) (a_cons (d_var (pv 6)) a_nil st_Name)) a_nil st_Call) st_Name)) (fun _ _ => rfl)) a_nil st_Subscript) st_Name) st_Name) st_Constant))))) s_nil)
        (s_cons (s_if (t_cmpK (c_eq hK hr.units) (d_var (pv 3)) d_int (nomark _)) (s_one (s_ret (d_tup (a_cons d_str (a_cons (d_var (pv 4)) (a_cons (d_tup (a_cons d_str (a_cons (d_lc (own := [("_law_turn", 8)]) rfl sc_test.nd (PFd.i (f_range1 (by rfl) Z.z_range (a_cons (d_call (kx := fun _ _ => False) hK G_take hr (by rfl) D_take.m D_take.F.kp D_take.b pass0 (a_cons (d_var (pv 0)) (a_cons d_int a_nil st_Constant) st_Name)) a_nil st_Call))) (blkOk_by (own := [("_law_turn", 8)]) (N := N_test) (sc := defScope s_test) (by decide +kernel)) (fun _ _ _ _ _ => (g_name (pg_name (i := 8) sc_test.nd rfl (Or.inl rfl)))) (by decide) (fun _ _ _ _ _ => ts_nil) (fun _ _ _ _ _ => (d_call (kx := fun _ _ => False) hK G_value hr (by rfl) D_value.m D_value.F.kp D_value.b pass0 (a_cons (d_var (pv 0)) (a_cons (d_ix hK (d_var (pv 1)) (d_var (pv 4)) (fun _ _ => rfl)) a_nil st_Subscript) st_Name)))) a_nil st_ListComp) st_Constant)) a_nil st_Tuple) st_Name) st_Constant)))) s_nil)
        (s_one (s_ret (d_tup (a_cons d_str (a_cons (d_var (pv 4)) (a_cons (d_tup (a_cons (d_var (pv 5)) (a_cons (d_call (kx := fun _ _ => False) hK G_value hr (by rfl) D_value.m D_value.F.kp D_value.b pass0 (a_cons (d_var (pv 0)) (a_cons (d_ix hK (d_var (pv 1)) (d_var (pv 4)) (fun _ _ => rfl)) a_nil st_Subscript) st_Name)) a_nil st_Call) st_Name)) a_nil st_Tuple) st_Name) st_Constant)))))))))))), ?_⟩
    · obtain ⟨ks, h, rfl, hks, hm, hn, hb, hk⟩ := h
      rfl
    rintro args b k kx ⟨ks, h, rfl, hks, hm, hn, hb, hk⟩
    rw [show startS N_test.length [.st, .val (.lst (ks.map D.str)), .val (.int h)] = [.st, .val (.lst (ks.map D.str)), .val (.int h), .no, .no, .no, .no, .no, .no] from rfl]
    walk_at "qd"
    have h1 := hks.1
    have h8 := hks.2.1
    have hp : 0 < 2 ^ h := Nat.pow_pos (by decide)
    have hat : ∀ q : Nat, q < ks.length → ∃ kd, ks[q]? = some kd ∧ isKd kd ∧ atI (ks.map D.str) (q : Int) = some (.str kd) := fun q hq => by
      refine ⟨ks[q], List.getElem?_eq_getElem hq, hks.2.2 _ (List.getElem_mem hq), ?_⟩
      unfold atI
      rw [ix_ok (by omega) (by rw [List.length_map]; omega)]
      show (ks.map D.str)[q]? = _
      rw [List.getElem?_map, List.getElem?_eq_getElem hq]
      rfl
    refine ⟨by walk_at "tk", fun r r0 r1 => ?_⟩
    refine dcut (fun A b1 => A = [.st, .val (.lst (ks.map D.str)), .val (.int h), .val (.int r), .no, .no, .no, .no, .no] ∧ b1 = b + 1) ?_ ?_
    · walk_at "qd"
      refine ite2 (fun hm0 => ite2 (fun hr5 => ?_) fun _ => trivial) fun _ => trivial
      have e1 : (h : Int) - 1 = ((h - 1 : Nat) : Int) := by omega
      have hpw : 2 ^ h = 2 * 2 ^ (h - 1) := by rw [← Nat.pow_succ']; congr 1; omega
      have hp1 : 0 < 2 ^ (h - 1) := Nat.pow_pos (by decide)
      refine ite2 (fun hr8 => ?_) fun hr8 => ?_
      · refine ⟨ks, h - 1, by rw [e1], hks, by omega, by omega, by omega, fun t b2 ht hdp hb2 => ?_⟩
        walk_at "qd"
        exact hk (.neg t) b2 ht (by show t.dp + 1 ≤ h; omega) (by omega)
      · refine at_any (by omega) (by show r - 6 < 2; omega) fun dw hdw => ?_
        refine ⟨ks, h - 1, by rw [e1], hks, by omega, by omega, by omega, fun t b2 ht hdp hb2 => ?_⟩
        walk_at "qd"
        refine ⟨ks, h - 1, by rw [e1], hks, by omega, by omega, by omega, fun t2 b3 ht2 hdp2 hb3 => ?_⟩
        walk_at "qd"
        simp at hdw
        rcases hdw with rfl | rfl
        · exact hk (.both t t2) b3 ⟨ht, ht2⟩ (by show max t.dp t2.dp + 1 ≤ h; omega) (by omega)
        · exact hk (.eith t t2) b3 ⟨ht, ht2⟩ (by show max t.dp t2.dp + 1 ≤ h; omega) (by omega)
    · rintro A b1 ⟨rfl, rfl⟩
      walk_at "qd"
      refine ite2 (fun _ => hk .alw _ trivial (Nat.zero_le _) (by omega)) fun _ => ?_
      rw [List.length_map]
      refine ⟨by walk_at "tk", fun p0 p00 p01 => ?_⟩
      obtain ⟨p, rfl⟩ : ∃ p : Nat, p0 = p := ⟨p0.toNat, by omega⟩
      have hpl : p < ks.length := by omega
      obtain ⟨kd, hkp, hkd, akd⟩ := hat p hpl
      refine ⟨by walk_at "tk", fun x x0 x1 => at_any x0 x1 fun dw hdw => ?_⟩
      obtain ⟨w2, rfl, hw⟩ : ∃ w2, dw = .str w2 ∧ isCmp w2 := by
        simp at hdw
        rcases hdw with rfl | rfl | rfl | rfl | rfl | rfl
        · exact ⟨_, rfl, .inl rfl⟩
        · exact ⟨_, rfl, .inr (.inl rfl)⟩
        · exact ⟨_, rfl, .inr (.inr (.inl rfl))⟩
        · exact ⟨_, rfl, .inr (.inr (.inr (.inl rfl)))⟩
        · exact ⟨_, rfl, .inr (.inr (.inr (.inr (.inl rfl))))⟩
        · exact ⟨_, rfl, .inr (.inr (.inr (.inr (.inr rfl))))⟩
      refine ite2 (fun _ => hk (.cel p .opn) _ ⟨kd, hkp, hkd, trivial⟩ (Nat.zero_le _) (by omega)) fun _ => ite2 (fun _ => ?_) fun _ => ite2 (fun _ => ?_) fun _ => ?_
      · refine ⟨by omega, by omega, ?_⟩
        refine lc_upto (fun i acc b' => b' = b + 1 + 1 + 1 ∧ acc.length ≤ i ∧ (p < i → 0 < acc.length) ∧ ∀ d ∈ acc, ∃ q : Nat, d = .int q ∧ ks[q]? = some kd) ⟨rfl, Nat.le_refl _, fun h => by omega, fun d hd => by cases hd⟩ (fun i acc b' hi ⟨hb', hl, hpi, hs⟩ => ?_) fun acc b' ⟨hb', hl, hpi, hs⟩ => ?_
        · obtain ⟨kq, ekq, _, akq⟩ := hat i hi
          rw [Int.zero_add]
          walk_at "qd"
          refine ⟨_, akq, _, akd, ?_⟩
          walk_at "qd"
          refine ite2 (fun e => ?_) fun e => ?_
          · refine ⟨szs (by omega), hb', by rw [List.length_append]; show _ + 1 ≤ _; omega, fun _ => by simp, fun d hd => ?_⟩
            rcases List.mem_append.mp hd with z | z
            · exact hs d z
            · rw [List.mem_singleton.mp z]
              exact ⟨i, rfl, by rw [ekq, e]⟩
          · refine ⟨hb', by omega, fun hlt => hpi ?_, hs⟩
            rcases Nat.lt_or_ge p i with q | q
            · exact q
            · have hpe : p = i := by omega
              subst hpe
              rw [hkp] at ekq
              cases ekq
              exact absurd rfl e
        · subst hb'
          walk_at "qd"
          have hpos := hpi hpl
          refine ⟨by walk_at "tk", fun y y0 y1 => at_any y0 y1 fun dq hdq => ?_⟩
          obtain ⟨q, rfl, hq⟩ := hs dq hdq
          exact hk (.cls p w2 q) _ ⟨kd, hkp, hq, hkd, hw⟩ (Nat.zero_le _) (by omega)
      · refine ⟨by walk_at "tk", fun y y0 y1 => ⟨by omega, by omega, ?_⟩⟩
        refine lc_upto (fun i acc b' => b' ≤ b + 4 + 32 * i ∧ acc.length = i ∧ ∀ d ∈ acc, Kn kd d) ⟨by omega, rfl, fun d hd => by cases hd⟩ (fun i acc b' hi ⟨hb', hl, hs⟩ => ?_) fun acc b' ⟨hb', hl, hs⟩ => ?_
        · walk_at "qd"
          refine ⟨_, akd, kd, rfl, hkd, by omega, fun d b2 hd hb2 => ?_⟩
          walk_at "qd"
          refine ⟨szs (by omega), by omega, by rw [List.length_append, hl]; rfl, fun x hx => ?_⟩
          rcases List.mem_append.mp hx with z | z
          · exact hs x z
          · rw [List.mem_singleton.mp z]; exact hd
        · walk_at "qd"
          exact hk (.cel p (.amg acc)) _ ⟨kd, hkp, hkd, by omega, hs⟩ (Nat.zero_le _) (by omega)
      · refine ⟨_, akd, kd, rfl, hkd, by omega, fun d b2 hd hb2 => ?_⟩
        walk_at "qd"
        exact hk (.cel p (.sg w2 d)) _ ⟨kd, hkp, hkd, hw, hd⟩ (Nat.zero_le _) (by omega)

theorem okd_compared {j : Nat} {f : Addr} {fd : FuncData} (F : Fun K "_law_compared" "_law_compared" s_compared f fd) (Z : Zs mg) : FnOk P w K mg base CX0 (j + 1) f fd ["_law_sign", "_law_one", "_law_other"] (spD K dsCompared) := by
  refine fnD F sc_compared (fun args b k kx h => ?_) fun cdv A outer s H E c hK hr => ⟨_, (s_cons (s_if (PWd.pt (w_or (t_cmpK c_is (d_var (pv 1)) d_non (nomark _)) (w_or1 (t_cmpK c_is (d_var (pv 2)) d_non (nomark _))))) (s_one (s_ret d_bl)) s_nil)
      (s_cons (s_if (t_cmpK (c_in hK) (d_var (pv 0)) (d_tup (a_cons d_str (a_cons d_str a_nil st_Constant) st_Constant)) (by with_unfolding_all rfl)) (s_one (s_ret (d_cmpK (c_eq hK hr.units) (d_cmpK (c_eq hK hr.units) (d_var (pv 1)) (d_var (pv 2)) (nomark _)) (d_cmpK (c_eq hK hr.units) (d_var (pv 0)) d_str (nomark _)) (nomark _)))) s_nil)
      (s_cons (s_if (t_cmpK (c_in hK) (d_var (pv 0)) (d_tup (a_cons d_str (a_cons d_str a_nil st_Constant) st_Constant)) (by with_unfolding_all rfl)) (s_one (s_ret (d_cmpK (c_eq hK hr.units) (d_cmpK c_lt (d_var (pv 1)) (d_var (pv 2)) (nomark _)) (d_cmpK (c_eq hK hr.units) (d_var (pv 0)) d_str (nomark _)) (nomark _)))) s_nil)
      (s_one (s_ret (d_cmpK (c_eq hK hr.units) (d_cmpK c_gt (d_var (pv 1)) (d_var (pv 2)) (nomark _)) (d_cmpK (c_eq hK hr.units) (d_var (pv 0)) d_str (nomark _)) (nomark _))))))), ?_⟩
  · obtain ⟨kd, w, x, y, rfl, hw, hx, hy, hk⟩ := h
    rfl
  rintro args b k kx ⟨kd, w, x, y, rfl, hw, hx, hy, hk⟩
  rw [show startS N_compared.length [.val (.str w), .val x, .val y] = [.val (.str w), .val x, .val y] from rfl]
  walk_at "qd"
  cases e1 : isN x
  case true =>
    rw [if_pos rfl]
    rw [e1] at hk
    exact hk
  case false =>
    rw [if_neg (by decide)]
    cases e2 : isN y
    case true =>
      rw [if_pos rfl]
      rw [e1, e2] at hk
      exact hk
    case false =>
      rw [if_neg (by decide)]
      rw [e1, e2] at hk
      rcases Kn.two ⟨hx, e1⟩ ⟨hy, e2⟩ with ⟨i, j, rfl, rfl⟩ | ⟨s, t, rfl, rfl⟩
      all_goals rcases hw with rfl | rfl | rfl | rfl | rfl | rfl
      all_goals
        walk_at "qd"
        refine ⟨_, .inr rfl, (fun z => by cases z), rfl, rfl, ?_⟩
        walk_at "qd"
        first
          | rw [if_pos (by decide +kernel)]
          | (rw [if_neg (by decide +kernel)]
             refine ⟨_, .inr rfl, (fun z => by cases z), rfl, rfl, ?_⟩
             walk_at "qd"
             first | rw [if_pos (by decide +kernel)] | rw [if_neg (by decide +kernel)])
      all_goals
        try rw [show decide (sS "<>" = Str.ofString "=") = false from by decide +kernel]
        try rw [show decide (sS "<=" = Str.ofString ">") = false from by decide +kernel]
        try rw [show decide (sS ">=" = Str.ofString "<") = false from by decide +kernel]
      · rw [(cmp_ways.1 i j).1]; exact hk
      · rw [(cmp_ways.1 i j).2.1]; exact hk
      · rw [(cmp_ways.1 i j).2.2.1]; exact hk
      · rw [(cmp_ways.1 i j).2.2.2.1]; exact hk
      · rw [(cmp_ways.1 i j).2.2.2.2.1]; exact hk
      · rw [(cmp_ways.1 i j).2.2.2.2.2]; exact hk
      · rw [(cmp_ways.2 s t).1]; exact hk
      · rw [(cmp_ways.2 s t).2.1]; exact hk
      · rw [(cmp_ways.2 s t).2.2.1]; exact hk
      · rw [(cmp_ways.2 s t).2.2.2.1]; exact hk
      · rw [(cmp_ways.2 s t).2.2.2.2.1]; exact hk
      · rw [(cmp_ways.2 s t).2.2.2.2.2]; exact hk
theorem okd_met {j : Nat} {f_met : Addr} {fd_met : FuncData} {f_compared : Addr} {fd_compared : FuncData} (D_met : Df K mg "_law_met" s_met ["_law_row", "_law_test_here"] f_met fd_met) (Z : Zs mg) (D_compared : Df K mg "_law_compared" s_compared ["_law_sign", "_law_one", "_law_other"] f_compared fd_compared) (G_compared : FnOk P w K mg base CX0 j f_compared fd_compared ["_law_sign", "_law_one", "_law_other"] (spD K dsCompared)) : ∀ m : Nat, FnOk P w K mg base CX0 (j + m + 1) f_met fd_met ["_law_row", "_law_test_here"] (spD K (dsRt m))
  | 0 => fn_void fun args b k kx h => by
    obtain ⟨s0, row, t, ks, rfl, hs, hd, hok, hr, hk⟩ := h
    omega
  | m + 1 => by
    have G_met := okd_met (j := j) D_met Z D_compared G_compared m
    have G_compared := L2.FnOk.mono G_compared (show j ≤ j + m + 1 by omega)
    refine fnD D_met.F sc_met (fun args b k kx h => ?_) fun cdv A outer s H E c hK hr => ⟨_, (s_cons (s_set (i := 2) sc_met.nd rfl (Or.inl rfl) (d_ix hK (d_var (pv 1)) d_int (fun _ _ => rfl)))
        (s_cons (s_if (t_cmpK (c_eq hK hr.units) (d_var (pv 2)) d_str (nomark _)) (s_one (s_ret d_bl)) s_nil)
        (s_cons (s_if (t_cmpK (c_eq hK hr.units) (d_var (pv 2)) d_str (nomark _)) (s_one (s_ret (d_not (d_call (kx := fun _ _ => False) hK G_met hr (by rfl) D_met.m D_met.F.kp D_met.b pass0 (a_cons (d_var (pv 0)) (a_cons (d_ix hK (d_var (pv 1)) d_int (fun _ _ => rfl)) a_nil st_Subscript) st_Name))))) s_nil)
        (s_cons (s_if (t_cmpK (c_in hK) (d_var (pv 2)) (d_tup (a_cons d_str (a_cons d_str a_nil st_Constant) st_Constant)) (by with_unfolding_all rfl)) (s_cons (s_setLc (i := 3) (own := [("_law_inner", 5)]) rfl sc_met.nd rfl rfl (sw_true rfl rfl rfl (by decide +kernel)) (i_any hK (d_sliceT hK (d_var (pv 1)) (o_some d_int) o_none)) (blkOk_by (own := [("_law_inner", 5)]) (N := N_met) (sc := defScope s_met) (by decide +kernel)) (fun _ _ _ _ _ => (g_name (pg_name (i := 5) sc_met.nd rfl (Or.inl rfl)))) (by decide) (fun _ _ _ _ _ => ts_nil) (fun _ _ _ _ _ => (d_call (kx := fun _ _ => False) hK G_met hr (by rfl) D_met.m D_met.F.kp D_met.b pass0 (a_cons (d_var (pv 0)) (a_cons (d_var (pv 5)) a_nil st_Name) st_Name))))
        (s_one (s_ret (d_if (t_cmpK (c_eq hK hr.units) (d_var (pv 2)) d_str (nomark _)) (d_cbK (k_all rfl hK) (by rfl) Z.z_all (by decide +kernel) (a_cons (d_var (pv 3)) a_nil st_Name)) (d_cbK (k_any rfl hK) (by rfl) Z.z_any (by decide +kernel) (a_cons (d_var (pv 3)) a_nil st_Name)))))) s_nil)
        (s_cons (s_if (t_cmpK (c_eq hK hr.units) (d_var (pv 2)) d_str (nomark _)) (s_one (s_ret (d_call (kx := fun _ _ => False) hK G_compared hr (by rfl) D_compared.m D_compared.F.kp D_compared.b pass0 (a_cons (d_ix hK (d_var (pv 1)) d_int (fun _ _ => rfl)) (a_cons (d_ix hK (d_var (pv 0)) (d_ix hK (d_var (pv 1)) d_int (fun _ _ => rfl)) (fun _ _ => rfl)) (a_cons (d_ix hK (d_var (pv 0)) (d_ix hK (d_var (pv 1)) d_int (fun _ _ => rfl)) (fun _ _ => rfl)) a_nil st_Subscript) st_Subscript) st_Subscript)))) s_nil)
        (s_cons (s_par (i := 4) (j := 5) rfl sc_met.nd rfl rfl (by decide) rfl rfl (a_cons (d_ix hK (d_var (pv 0)) (d_ix hK (d_var (pv 1)) d_int (fun _ _ => rfl)) (fun _ _ => rfl)) (a_cons (d_ix hK (d_var (pv 1)) d_int (fun _ _ => rfl)) a_nil st_Subscript) st_Subscript) (by rfl))
        (s_cons (s_if (t_cmpK (c_eq hK hr.units) (d_ix hK (d_var (pv 5)) d_int (fun _ _ => rfl)) d_str (nomark _)) (s_one (s_ret (d_cmpK c_is (d_var (pv 4)) d_non (nomark _)))) s_nil)
        (s_cons (s_if (t_cmpK (c_eq hK hr.units) (d_ix hK (d_var (pv 5)) d_int (fun _ _ => rfl)) d_str (nomark _)) (s_one (s_ret (d_and (d_cmpK c_isnot (d_var (pv 4)) d_non (nomark _)) (d_one (d_cmpK (c_in hK) (d_var (pv 4)) (d_ix hK (d_var (pv 5)) d_int (fun _ _ => rfl)) (by with_unfolding_all rfl)))))) s_nil)
        (s_one (s_ret (d_call (kx := fun _ _ => False) hK G_compared hr (by rfl) D_compared.m D_compared.F.kp D_compared.b pass0 (a_cons (d_ix hK (d_var (pv 5)) d_int (fun _ _ => rfl)) (a_cons (d_var (pv 4)) (a_cons (d_ix hK (d_var (pv 5)) d_int (fun _ _ => rfl)) a_nil st_Subscript) st_Name) st_Subscript)))))))))))), ?_⟩
    · obtain ⟨s0, row, t, ks, rfl, hs, hd, hok, hr, hk⟩ := h
      rfl
    rintro args b k kx ⟨s0, row, t, ks, rfl, hs, hd, hok, hr, hk⟩
    rw [show startS N_met.length [s0, .val t.d] = [s0, .val t.d, .no, .no, .no, .no] from rfl]
    walk_at "qd"
    rcases hs with rfl | rfl | rfl
    all_goals
      cases t with
      | alw =>
        unfold RT.d
        walk_at "qd"
        refine ⟨_, rfl, ?_⟩
        walk_at "qd"
        exact hk
      | neg x =>
        have hd' : x.dp + 1 < m + 1 := hd
        have hk' : k (.s (.bl (!x.ev row))) b := hk
        unfold RT.d
        walk_at "qd"
        refine ⟨_, rfl, ?_⟩
        walk_at "qd"
        rw [if_neg (by decide +kernel)]
        refine ⟨_, rfl, ?_⟩
        walk_at "qd"
        refine ⟨_, row, x, ks, rfl, (by first | exact .inl rfl | exact .inr (.inl rfl) | exact .inr (.inr rfl)), by omega, hok, hr, ?_⟩
        walk_at "qd"
        exact hk'
      | cel p ct =>
        obtain ⟨kd, e, hkd, hct⟩ : ∃ kd, ks[p]? = some kd ∧ isKd kd ∧ ct.ok kd := hok
        obtain ⟨ea, okc⟩ := hr.at e
        have hk' : k (.s (.bl (ct.ev (cellAt row p)))) b := hk
        unfold RT.d
        walk_at "qd"
        refine ⟨_, rfl, ?_⟩
        walk_at "qd"
        rw [if_neg (by decide +kernel), if_neg (by decide +kernel)]
        refine ⟨_, .inr rfl, (fun z => by cases z), rfl, rfl, ?_⟩
        walk_at "qd"
        first | rw [if_pos (by decide +kernel)] | rw [if_neg (by decide +kernel)]
        rw [if_neg (by decide +kernel)]
        refine ⟨_, rfl, ?_⟩
        walk_at "qd"
        refine ⟨_, ea, ?_⟩
        refine ⟨_, rfl, ?_⟩
        walk_at "qd"
        generalize cellAt row p = c at *
        cases ct with
        | opn =>
          unfold CT.d
          walk_at "qd"
          refine ⟨_, rfl, ?_⟩
          walk_at "qd"
          exact hk'
        | sg w v =>
          obtain ⟨hw, hv⟩ := hct
          unfold CT.d
          walk_at "qd"
          refine ⟨_, rfl, ?_⟩
          walk_at "qd"
          rw [if_neg hw.ne.1]
          refine ⟨_, rfl, ?_⟩
          walk_at "qd"
          rw [if_neg hw.ne.2]
          refine ⟨_, rfl, ?_⟩
          walk_at "qd"
          refine ⟨_, rfl, ?_⟩
          walk_at "qd"
          refine ⟨kd, w, _, _, rfl, hw, okc, hv.1, trivial, ?_⟩
          have z : k (.s (.bl (!isN c && cmpD w c v))) b := hk'
          rw [hv.2]
          rw [show (!isN c && !false && cmpD w c v) = (!isN c && cmpD w c v) by rw [Bool.not_false, Bool.and_true]]
          exact z
        | amg vs =>
          unfold CT.d
          walk_at "qd"
          refine ⟨_, rfl, ?_⟩
          walk_at "qd"
          rw [if_neg (by decide +kernel)]
          refine ⟨_, rfl, ?_⟩
          walk_at "qd"
          refine ite2 (fun h => ?_) (fun h => ?_)
          · refine ⟨_, rfl, ?_⟩
            walk_at "qd"
            have hn : isN c = false := by simpa using h
            refine ⟨_, .inl rfl, (fun z => by cases z), Kn.flt okc, kn_all hct.2, ?_⟩
            walk_at "qd"
            have z : k (.s (.bl (!isN c && ind c vs))) b := hk'
            rw [hn] at z
            exact z
          · have hn : isN c = true := by simpa using h
            have z : k (.s (.bl (!isN c && ind c vs))) b := hk'
            rw [hn] at z
            exact z
        | amt vs =>
          unfold CT.d
          walk_at "qd"
          refine ⟨_, rfl, ?_⟩
          walk_at "qd"
          rw [if_neg (by decide +kernel)]
          refine ⟨_, rfl, ?_⟩
          walk_at "qd"
          refine ite2 (fun h => ?_) (fun h => ?_)
          · refine ⟨_, rfl, ?_⟩
            walk_at "qd"
            have hn : isN c = false := by simpa using h
            refine ⟨_, .inr rfl, (fun z => by cases z), Kn.flt okc, kn_all hct.2, ?_⟩
            walk_at "qd"
            have z : k (.s (.bl (!isN c && ind c vs))) b := hk'
            rw [hn] at z
            exact z
          · have hn : isN c = true := by simpa using h
            have z : k (.s (.bl (!isN c && ind c vs))) b := hk'
            rw [hn] at z
            exact z
      | cls p w2 q =>
        obtain ⟨kd, e, e2, hkd, hw⟩ : ∃ kd, ks[p]? = some kd ∧ ks[q]? = some kd ∧ isKd kd ∧ isCmp w2 := hok
        obtain ⟨ea, okc⟩ := hr.at e
        obtain ⟨ea2, okc2⟩ := hr.at e2
        have hk' : k (.s (.bl (!isN (cellAt row q) && (CT.sg w2 (cellAt row q)).ev (cellAt row p)))) b := hk
        unfold RT.d
        walk_at "qd"
        refine ⟨_, rfl, ?_⟩
        walk_at "qd"
        rw [if_neg (by decide +kernel), if_neg (by decide +kernel)]
        refine ⟨_, .inr rfl, (fun z => by cases z), rfl, rfl, ?_⟩
        walk_at "qd"
        first | rw [if_pos (by decide +kernel)] | rw [if_neg (by decide +kernel)]
        refine ⟨_, rfl, ?_⟩
        walk_at "qd"
        refine ⟨_, rfl, ?_⟩
        walk_at "qd"
        refine ⟨_, ea, ?_⟩
        refine ⟨_, rfl, ?_⟩
        walk_at "qd"
        refine ⟨_, ea2, ?_⟩
        walk_at "qd"
        refine ⟨kd, w2, _, _, rfl, hw, okc, okc2, trivial, ?_⟩
        have z : k (.s (.bl (!isN (cellAt row q) && (!isN (cellAt row p) && cmpD w2 (cellAt row p) (cellAt row q))))) b := hk'
        rw [show ∀ a c d : Bool, (!a && !c && d) = (!c && (!a && d)) by decide]
        exact z
      | both x y =>
        have hd' : max x.dp y.dp + 1 < m + 1 := hd
        have hk' : k (.s (.bl (x.ev row && y.ev row))) b := hk
        unfold RT.d
        walk_at "qd"
        refine ⟨_, rfl, ?_⟩
        walk_at "qd"
        rw [if_neg (by decide +kernel), if_neg (by decide +kernel)]
        refine ⟨_, .inr rfl, (fun z => by cases z), rfl, rfl, ?_⟩
        walk_at "qd"
        first | rw [if_pos (by decide +kernel)] | rw [if_neg (by decide +kernel)]
        refine ⟨by decide, ?_⟩
        rw [show cutD [D.str (sS "both"), x.d, y.d] (some 1) none = [x, y].map RT.d from rfl]
        have hts : ∀ t ∈ [x, y], t.dp < m ∧ t.ok ks := fun t ht => by simp at ht; rcases ht with rfl | rfl; exact ⟨by omega, hok.1⟩; exact ⟨by omega, hok.2⟩
        refine lc_ds (fun i acc b' => b' = b ∧ acc = (([x, y].take i).map fun t => D.bl (t.ev row))) ⟨rfl, rfl⟩ (fun i d acc b' hd ⟨hb', ha⟩ => ?_) fun acc b' ⟨hb', ha⟩ => ?_
        · rw [List.getElem?_map] at hd
          cases ht : [x, y][i]? with
          | none => rw [ht] at hd; cases hd
          | some t =>
            rw [ht] at hd
            cases hd
            obtain ⟨h1, h2⟩ := hts t (List.mem_of_getElem? ht)
            have hi := (List.getElem?_eq_some_iff.mp ht).1
            walk_at "qd"
            refine ⟨_, row, t, ks, rfl, (by first | exact .inl rfl | exact .inr (.inl rfl) | exact .inr (.inr rfl)), h1, h2, hr, trivial, szs (by rw [ha, List.length_map, List.length_take]; simp at hi ⊢; omega), hb', ?_⟩
            rw [ha, List.take_add_one, ht, List.map_append]
            rfl
        · rw [List.length_map, List.take_length] at ha
          subst ha
          subst hb'
          walk_at "qd"
          refine ⟨_, [x.ev row, y.ev row], rfl, rfl, ?_⟩
          walk_at "qd"
          first | rw [show [x.ev row, y.ev row].all id = (x.ev row && y.ev row) by simp] | rw [show [x.ev row, y.ev row].any id = (x.ev row || y.ev row) by simp]
          exact hk'
      | eith x y =>
        have hd' : max x.dp y.dp + 1 < m + 1 := hd
        have hk' : k (.s (.bl (x.ev row || y.ev row))) b := hk
        unfold RT.d
        walk_at "qd"
        refine ⟨_, rfl, ?_⟩
        walk_at "qd"
        rw [if_neg (by decide +kernel), if_neg (by decide +kernel)]
        refine ⟨_, .inr rfl, (fun z => by cases z), rfl, rfl, ?_⟩
        walk_at "qd"
        first | rw [if_pos (by decide +kernel)] | rw [if_neg (by decide +kernel)]
        refine ⟨by decide, ?_⟩
        rw [show cutD [D.str (sS "either"), x.d, y.d] (some 1) none = [x, y].map RT.d from rfl]
        have hts : ∀ t ∈ [x, y], t.dp < m ∧ t.ok ks := fun t ht => by simp at ht; rcases ht with rfl | rfl; exact ⟨by omega, hok.1⟩; exact ⟨by omega, hok.2⟩
        refine lc_ds (fun i acc b' => b' = b ∧ acc = (([x, y].take i).map fun t => D.bl (t.ev row))) ⟨rfl, rfl⟩ (fun i d acc b' hd ⟨hb', ha⟩ => ?_) fun acc b' ⟨hb', ha⟩ => ?_
        · rw [List.getElem?_map] at hd
          cases ht : [x, y][i]? with
          | none => rw [ht] at hd; cases hd
          | some t =>
            rw [ht] at hd
            cases hd
            obtain ⟨h1, h2⟩ := hts t (List.mem_of_getElem? ht)
            have hi := (List.getElem?_eq_some_iff.mp ht).1
            walk_at "qd"
            refine ⟨_, row, t, ks, rfl, (by first | exact .inl rfl | exact .inr (.inl rfl) | exact .inr (.inr rfl)), h1, h2, hr, trivial, szs (by rw [ha, List.length_map, List.length_take]; simp at hi ⊢; omega), hb', ?_⟩
            rw [ha, List.take_add_one, ht, List.map_append]
            rfl
        · rw [List.length_map, List.take_length] at ha
          subst ha
          subst hb'
          walk_at "qd"
          refine ⟨_, [x.ev row, y.ev row], rfl, rfl, ?_⟩
          walk_at "qd"
          first | rw [show [x.ev row, y.ev row].all id = (x.ev row && y.ev row) by simp] | rw [show [x.ev row, y.ev row].any id = (x.ev row || y.ev row) by simp]
          exact hk'

theorem okd_form_of {j n : Nat} {f : Addr} {fd : FuncData} {f_value : Addr} {fd_value : FuncData} {f_form : Addr} {fd_form : FuncData} (F : Fun K "_law_form_of" "_law_form_of" s_form_of f fd) (Z : Zs mg) (D_value : Df K mg "_law_value" s_value ["_law_state", "_law_kind"] f_value fd_value) (G_value : FnOk P w K mg base CX0 j f_value fd_value ["_law_state", "_law_kind"] (spD K dsValueN)) (D_form : Df K mg "_law_form" s_form ["_law_state", "_law_own", "_law_deep"] f_form fd_form) (G_form : FnOk P w K mg base CX0 j f_form fd_form ["_law_state", "_law_own", "_law_deep"] (spD K (dsForm n))) : FnOk P w K mg base CX0 (j + 1) f fd ["_law_state", "_law_own", "_law_deep", "_law_kind"] (spD K (dsFormOf n)) := by
  refine fnD F sc_form_of (fun args b k kx h => ?_) fun cdv A outer s H E c hK hr => ⟨_, (s_cons (s_asg (d_call (kx := fun _ _ => False) hK G_form hr (by rfl) D_form.m D_form.F.kp D_form.b pass0 (a_cons (d_var (pv 0)) (a_cons (d_var (pv 1)) (a_cons (d_var (pv 2)) a_nil st_Name) st_Name) st_Name)) (g_tup (n := 2) hK rfl (gs_cons (g_name (pg_name (i := 4) sc_form_of.nd rfl (Or.inl rfl))) (gs_cons (g_name (pg_name (i := 5) sc_form_of.nd rfl (Or.inl rfl))) gs_nil))))
      (s_cons (s_if (t_cmpK (c_eq hK hr.units) (d_var (pv 5)) (d_var (pv 3)) (nomark _)) (s_one (s_retv (pv 4))) s_nil)
      (s_one (s_ret (d_tup (a_cons d_str (a_cons (d_call (kx := fun _ _ => False) hK G_value hr (by rfl) D_value.m D_value.F.kp D_value.b pass0 (a_cons (d_var (pv 0)) (a_cons (d_var (pv 3)) a_nil st_Name) st_Name)) a_nil st_Call) st_Constant)))))), ?_⟩
  · obtain ⟨s0, ks, m, kd, rfl, hs, hks, hkd, hm, hn, hb, hk⟩ := h
    rfl
  rintro args b k kx ⟨s0, ks, m, kd, rfl, hs, hks, hkd, hm, hn, hb, hk⟩
  rw [show startS N_form_of.length [.st, s0, .val (.int m), .val (.str kd)] = [.st, s0, .val (.int m), .val (.str kd), .no, .no] from rfl]
  walk_at "qd"
  rcases hs with rfl | rfl | rfl
  · walk_at "qd"
    refine ⟨_, ks, m, rfl, (by first | exact .inl rfl | exact .inr (.inl rfl) | exact .inr (.inr rfl)), hks, hm, hn, by omega, fun f kd' b1 h1 h2 h3 h4 => ?_⟩
    walk_at "qd"
    try (refine ⟨rfl, ?_⟩; walk_at "qd")
    refine ite2 (fun e => ?_) (fun e => ?_)
    · subst e
      exact hk f b1 h1 h3 (by omega)
    · refine ⟨kd, rfl, hkd, by omega, fun d b2 hd hb2 => ?_⟩
      walk_at "qd"
      exact hk (.val d) b2 hd.1 (Nat.zero_le _) (by omega)
  · walk_at "qd"
    refine ⟨_, ks, m, rfl, (by first | exact .inl rfl | exact .inr (.inl rfl) | exact .inr (.inr rfl)), hks, hm, hn, by omega, fun f kd' b1 h1 h2 h3 h4 => ?_⟩
    walk_at "qd"
    try (refine ⟨rfl, ?_⟩; walk_at "qd")
    refine ite2 (fun e => ?_) (fun e => ?_)
    · subst e
      exact hk f b1 h1 h3 (by omega)
    · refine ⟨kd, rfl, hkd, by omega, fun d b2 hd hb2 => ?_⟩
      walk_at "qd"
      exact hk (.val d) b2 hd.1 (Nat.zero_le _) (by omega)
  · walk_at "qd"
    refine ⟨_, ks, m, rfl, (by first | exact .inl rfl | exact .inr (.inl rfl) | exact .inr (.inr rfl)), hks, hm, hn, by omega, fun f kd' b1 h1 h2 h3 h4 => ?_⟩
    walk_at "qd"
    try (refine ⟨rfl, ?_⟩; walk_at "qd")
    refine ite2 (fun e => ?_) (fun e => ?_)
    · subst e
      exact hk f b1 h1 h3 (by omega)
    · refine ⟨kd, rfl, hkd, by omega, fun d b2 hd hb2 => ?_⟩
      walk_at "qd"
      exact hk (.val d) b2 hd.1 (Nat.zero_le _) (by omega)
theorem okd_form {j : Nat} {f_form : Addr} {fd_form : FuncData} {f_form_of : Addr} {fd_form_of : FuncData} {f_take : Addr} {fd_take : FuncData} {f_value : Addr} {fd_value : FuncData} (D_form : Df K mg "_law_form" s_form ["_law_state", "_law_own", "_law_deep"] f_form fd_form) (D_form_of : Df K mg "_law_form_of" s_form_of ["_law_state", "_law_own", "_law_deep", "_law_kind"] f_form_of fd_form_of) (Z : Zs mg) (D_take : Df K mg "_law_take" s_take ["_law_state", "_law_many_here"] f_take fd_take) (G_take : FnOk P w K mg base CX0 j f_take fd_take ["_law_state", "_law_many_here"] (spD K dsTake)) (D_value : Df K mg "_law_value" s_value ["_law_state", "_law_kind"] f_value fd_value) (G_value : FnOk P w K mg base CX0 j f_value fd_value ["_law_state", "_law_kind"] (spD K dsValueN)) : ∀ n : Nat, FnOk P w K mg base CX0 (j + 2 * n) f_form fd_form ["_law_state", "_law_own", "_law_deep"] (spD K (dsForm n))
  | 0 => fn_void fun args b k kx h => by
    obtain ⟨s0, ks, m, rfl, hs, hks, hm, hn, hb, hk⟩ := h
    omega
  | n + 1 => by
    have G_form := okd_form (j := j) D_form D_form_of Z D_take G_take D_value G_value n
    have G_form_of := okd_form_of (n := n) (j := j + 2 * n) D_form_of.F Z D_value (L2.FnOk.mono G_value (show j ≤ j + 2 * n by omega)) D_form G_form
    have G_form := L2.FnOk.mono G_form (show j + 2 * n ≤ j + 2 * n + 1 by omega)
    have G_take := L2.FnOk.mono G_take (show j ≤ j + 2 * n + 1 by omega)
    have G_value := L2.FnOk.mono G_value (show j ≤ j + 2 * n + 1 by omega)
    refine fnD D_form.F sc_form (fun args b k kx h => ?_) fun cdv A outer s H E c hK hr => ⟨_, (s_cons (s_set (i := 3) sc_form.nd rfl (Or.inl rfl) (d_call (kx := fun _ _ => False) hK G_take hr (by rfl) D_take.m D_take.F.kp D_take.b pass0 (a_cons (d_var (pv 0)) (a_cons d_int a_nil st_Constant) st_Name)))
        (s_cons (s_if (PWd.pt (w_or (t_cmpK (c_eq hK hr.units) (d_var (pv 2)) d_int (nomark _)) (w_or1 (t_cmpK c_lt (d_var (pv 3)) d_int (nomark _))))) (s_cons (s_set (i := 6) sc_form.nd rfl (Or.inl rfl) (d_call (kx := fun _ _ => False) hK G_take hr (by rfl) D_take.m D_take.F.kp D_take.b pass0 (a_cons (d_var (pv 0)) (a_cons (d_cbK (k_len hK) (by rfl) Z.z_len (by decide +kernel) (a_cons (d_var (pv 1)) a_nil st_Name)) a_nil st_Call) st_Name)))
        (s_one (s_ret (d_tup (a_cons (d_tup (a_cons d_str (a_cons (d_var (pv 6)) a_nil st_Name) st_Constant)) (a_cons (d_ix hK (d_var (pv 1)) (d_var (pv 6)) (fun _ _ => rfl)) a_nil st_Subscript) st_Tuple))))) s_nil)
        (s_cons (s_if (t_cmpK (c_eq hK hr.units) (d_var (pv 3)) d_int (nomark _)) (s_cons (s_set (i := 7) sc_form.nd rfl (Or.inl rfl) (d_ix hK (d_lst (a_cons d_str (a_cons d_str a_nil st_Constant) st_Constant)) (d_call (kx := fun _ _ => False) hK G_take hr (by rfl) D_take.m D_take.F.kp D_take.b pass0 (a_cons (d_var (pv 0)) (a_cons d_int a_nil st_Constant) st_Name)) (fun _ _ => rfl)))
        (s_cons (s_if (t_cmpK (c_eq hK hr.units) (d_call (kx := fun _ _ => False) hK G_take hr (by rfl) D_take.m D_take.F.kp D_take.b pass0 (a_cons (d_var (pv 0)) (a_cons d_int a_nil st_Constant) st_Name)) d_int (nomark _)) (s_one (s_ret (d_tup (a_cons (d_tup (a_cons d_str (a_cons d_non a_nil st_Constant) st_Constant)) (a_cons d_str a_nil st_Constant) st_Tuple)))) s_nil)
        (s_one (s_ret (d_tup (a_cons (d_tup (a_cons d_str (a_cons (d_call (kx := fun _ _ => False) hK G_value hr (by rfl) D_value.m D_value.F.kp D_value.b pass0 (a_cons (d_var (pv 0)) (a_cons (d_var (pv 7)) a_nil st_Name) st_Name)) a_nil st_Call) st_Constant)) (a_cons (d_var (pv 7)) a_nil st_Name) st_Tuple)))))) s_nil)
        (s_cons (s_if (t_cmpK (c_eq hK hr.units) (d_var (pv 3)) d_int (nomark _)) (s_cons (s_asg (d_call (kx := fun _ _ => False) hK G_form hr (by rfl) D_form.m D_form.F.kp D_form.b pass0 (a_cons (d_var (pv 0)) (a_cons (d_var (pv 1)) (a_cons (d_sub (d_var (pv 2)) d_int) a_nil st_BinOp) st_Name) st_Name)) (g_tup (n := 2) hK rfl (gs_cons (g_name (pg_name (i := 4) sc_form.nd rfl (Or.inl rfl))) (gs_cons (g_name (pg_name (i := 7) sc_form.nd rfl (Or.inl rfl))) gs_nil))))
        (s_cons (s_set (i := 5) sc_form.nd rfl (Or.inl rfl) (d_call (kx := fun _ _ => False) hK G_form_of hr (by rfl) D_form_of.m D_form_of.F.kp D_form_of.b pass0 (a_cons (d_var (pv 0)) (a_cons (d_var (pv 1)) (a_cons (d_cbK (k_max2 rfl) (by rfl) Z.z_max (by decide +kernel) (a_cons d_int (a_cons (d_sub (d_var (pv 2)) d_int) a_nil st_BinOp) st_Constant)) (a_cons (d_var (pv 7)) a_nil st_Name) st_Call) st_Name) st_Name)))
        (s_one (s_frz (i := 5) (s_frz (i := 4) (s_ret (d_tup (a_cons (d_tup (a_cons d_str (a_cons (d_var (pv 4)) (a_cons (d_var (pv 5)) a_nil st_Name) st_Name) st_Constant)) (a_cons (d_var (pv 7)) a_nil st_Name) st_Tuple)))))))) s_nil)
        (s_cons (s_set (i := 4) sc_form.nd rfl (Or.inl rfl) (d_call (kx := fun _ _ => False) hK G_form_of hr (by rfl) D_form_of.m D_form_of.F.kp D_form_of.b pass0 (a_cons (d_var (pv 0)) (a_cons (d_var (pv 1)) (a_cons (d_sub (d_var (pv 2)) d_int) (a_cons d_str a_nil st_Constant) st_BinOp) st_Name) st_Name)))
        (s_cons (s_set (i := 5) sc_form.nd rfl (Or.inl rfl) (d_call (kx := fun _ _ => False) hK G_form_of hr (by rfl) D_form_of.m D_form_of.F.kp D_form_of.b pass0 (a_cons (d_var (pv 0)) (a_cons (d_var (pv 1)) (a_cons (d_cbK (k_max2 rfl) (by rfl) Z.z_max (by decide +kernel) (a_cons d_int (a_cons (d_sub (d_var (pv 2)) d_int) a_nil st_BinOp) st_Constant)) (a_cons d_str a_nil st_Constant) st_Call) st_Name) st_Name)))
        (s_one (s_frz (i := 5) (s_frz (i := 4) (s_ret (d_tup (a_cons (d_tup (a_cons d_str (a_cons (d_ix hK (d_lst (a_cons d_str (a_cons d_str (a_cons d_str a_nil st_Constant) st_Constant) st_Constant)) (d_call (kx := fun _ _ => False) hK G_take hr (by rfl) D_take.m D_take.F.kp D_take.b pass0 (a_cons (d_var (pv 0)) (a_cons d_int a_nil st_Constant) st_Name)) (fun _ _ => rfl)) (a_cons (d_var (pv 4)) (a_cons (d_var (pv 5)) a_nil st_Name) st_Name) st_Subscript) st_Constant)) (a_cons d_str a_nil st_Constant) st_Tuple)))))))))))), ?_⟩
    · obtain ⟨s0, ks, m, rfl, hs, hks, hm, hn, hb, hk⟩ := h
      rfl
    rintro args b k kx ⟨s0, ks, m, rfl, hs, hks, hm, hn, hb, hk⟩
    rw [show startS N_form.length [.st, s0, .val (.int m)] = [.st, s0, .val (.int m), .no, .no, .no, .no, .no] from rfl]
    walk_at "qd"
    have hp : 0 < 2 ^ m := Nat.pow_pos (by decide)
    rcases hs with rfl | rfl | rfl
    · walk_at "qd"
      have h1 := hks.1
      have h8 := hks.2.1
      have leaf : Tk (↑(List.map D.str ks).length) (b + 1) ∧ ∀ (r : Int), 0 ≤ r → r < ↑(List.map D.str ks).length → ∃ d, atI (List.map D.str ks) r = some d ∧ k (Rs.s (D.tup [D.tup [D.str (Str.ofString "cell"), D.int r], d])) (b + 1 + 1) := by
        rw [List.length_map]
        refine ⟨by walk_at "tk", fun r r0 r1 => ?_⟩
        obtain ⟨p, rfl⟩ : ∃ p : Nat, r = p := ⟨r.toNat, by omega⟩
        have hp : p < ks.length := by omega
        have he : ks[p]? = some ks[p] := List.getElem?_eq_getElem hp
        refine ⟨.str ks[p], ?_, hk (.cell p) ks[p] _ he (hks.2.2 _ (List.getElem_mem hp)) (Nat.zero_le _) (by omega)⟩
        unfold atI
        rw [ix_ok (by omega) (by rw [List.length_map]; omega)]
        show (ks.map D.str)[p]? = _
        rw [List.getElem?_map, he]
        rfl
      refine ⟨by walk_at "tk", fun r r0 r1 => ite2 (fun _ => leaf) fun hm0 => ite2 (fun _ => leaf) fun _ => ?_⟩
      have hm1 : m ≠ 0 := fun e => hm0 (by omega)
      have e1 : (m : Int) - 1 = ((m - 1 : Nat) : Int) := by omega
      have hpw : 2 ^ m = 2 * 2 ^ (m - 1) := by rw [← Nat.pow_succ']; congr 1; omega
      have hp1 : 0 < 2 ^ (m - 1) := Nat.pow_pos (by decide)
      have e3 : (if (m : Int) - 3 > 0 then (m : Int) - 3 else 0) = ((m - 3 : Nat) : Int) := by split <;> omega
      have hpw3 : 2 ^ (m - 3) ≤ 2 ^ (m - 1) := Nat.pow_le_pow_right (by decide) (by omega)
      refine ite2 (fun _ => ?_) fun _ => ?_
      · refine ⟨by walk_at "tk", fun r2 r20 r21 => at_any r20 r21 fun d hd => ⟨by walk_at "tk", fun r3 r30 r31 => ite2 (fun _ => hk (.val .non) sNum _ (.inl rfl) (.inl rfl) (Nat.zero_le _) (by omega)) fun _ => ?_⟩⟩
        obtain ⟨kd, rfl, hkd⟩ : ∃ kd, d = .str kd ∧ isKd kd := by
          simp at hd
          rcases hd with rfl | rfl
          · exact ⟨_, rfl, .inl rfl⟩
          · exact ⟨_, rfl, .inr rfl⟩
        refine ⟨kd, rfl, hkd, by omega, fun d b2 hd hb2 => ?_⟩
        walk_at "qd"
        exact hk (.val d) kd b2 hd.1 hkd (Nat.zero_le _) (by omega)
      · refine ite2 (fun _ => ?_) fun _ => ?_
        · refine ⟨_, ks, m - 1, by rw [e1], (by first | exact .inl rfl | exact .inr (.inl rfl) | exact .inr (.inr rfl)), hks, by omega, by omega, by omega, fun f kd b2 hf hkd hdp hb2 => ?_⟩
          walk_at "qd"
          try (refine ⟨rfl, ?_⟩; walk_at "qd")
          refine ⟨_, ks, m - 3, kd, by rw [e3], (by first | exact .inl rfl | exact .inr (.inl rfl) | exact .inr (.inr rfl)), hks, hkd, by omega, by omega, by omega, fun f2 b3 hf2 hdp2 hb3 => ?_⟩
          walk_at "qd"
          exact hk (.fst f f2) kd b3 ⟨hf, hf2⟩ hkd (by show max f.dp f2.dp + 1 ≤ m; omega) (by omega)
        · refine ⟨_, ks, m - 1, sNum, by rw [e1], (by first | exact .inl rfl | exact .inr (.inl rfl) | exact .inr (.inr rfl)), hks, .inl rfl, by omega, by omega, by omega, fun f b2 hf hdp hb2 => ?_⟩
          walk_at "qd"
          refine ⟨_, ks, m - 3, sNum, by rw [e3], (by first | exact .inl rfl | exact .inr (.inl rfl) | exact .inr (.inr rfl)), hks, .inl rfl, by omega, by omega, by omega, fun f2 b3 hf2 hdp2 hb3 => ?_⟩
          walk_at "qd"
          refine ⟨by walk_at "tk", fun x x0 x1 => at_any x0 x1 fun ds hds => ?_⟩
          obtain ⟨sg, rfl, hsg⟩ : ∃ sg, ds = .str sg ∧ isSg sg := by
            simp at hds
            rcases hds with rfl | rfl | rfl
            · exact ⟨_, rfl, .inl rfl⟩
            · exact ⟨_, rfl, .inr (.inl rfl)⟩
            · exact ⟨_, rfl, .inr (.inr rfl)⟩
          exact hk (.sum sg f f2) sNum _ ⟨rfl, hsg, hf, hf2⟩ (.inl rfl) (by show max f.dp f2.dp + 1 ≤ m; omega) (by omega)
    · walk_at "qd"
      have h1 := hks.1
      have h8 := hks.2.1
      have leaf : Tk (↑(List.map D.str ks).length) (b + 1) ∧ ∀ (r : Int), 0 ≤ r → r < ↑(List.map D.str ks).length → ∃ d, atI (List.map D.str ks) r = some d ∧ k (Rs.s (D.tup [D.tup [D.str (Str.ofString "cell"), D.int r], d])) (b + 1 + 1) := by
        rw [List.length_map]
        refine ⟨by walk_at "tk", fun r r0 r1 => ?_⟩
        obtain ⟨p, rfl⟩ : ∃ p : Nat, r = p := ⟨r.toNat, by omega⟩
        have hp : p < ks.length := by omega
        have he : ks[p]? = some ks[p] := List.getElem?_eq_getElem hp
        refine ⟨.str ks[p], ?_, hk (.cell p) ks[p] _ he (hks.2.2 _ (List.getElem_mem hp)) (Nat.zero_le _) (by omega)⟩
        unfold atI
        rw [ix_ok (by omega) (by rw [List.length_map]; omega)]
        show (ks.map D.str)[p]? = _
        rw [List.getElem?_map, he]
        rfl
      refine ⟨by walk_at "tk", fun r r0 r1 => ite2 (fun _ => leaf) fun hm0 => ite2 (fun _ => leaf) fun _ => ?_⟩
      have hm1 : m ≠ 0 := fun e => hm0 (by omega)
      have e1 : (m : Int) - 1 = ((m - 1 : Nat) : Int) := by omega
      have hpw : 2 ^ m = 2 * 2 ^ (m - 1) := by rw [← Nat.pow_succ']; congr 1; omega
      have hp1 : 0 < 2 ^ (m - 1) := Nat.pow_pos (by decide)
      have e3 : (if (m : Int) - 3 > 0 then (m : Int) - 3 else 0) = ((m - 3 : Nat) : Int) := by split <;> omega
      have hpw3 : 2 ^ (m - 3) ≤ 2 ^ (m - 1) := Nat.pow_le_pow_right (by decide) (by omega)
      refine ite2 (fun _ => ?_) fun _ => ?_
      · refine ⟨by walk_at "tk", fun r2 r20 r21 => at_any r20 r21 fun d hd => ⟨by walk_at "tk", fun r3 r30 r31 => ite2 (fun _ => hk (.val .non) sNum _ (.inl rfl) (.inl rfl) (Nat.zero_le _) (by omega)) fun _ => ?_⟩⟩
        obtain ⟨kd, rfl, hkd⟩ : ∃ kd, d = .str kd ∧ isKd kd := by
          simp at hd
          rcases hd with rfl | rfl
          · exact ⟨_, rfl, .inl rfl⟩
          · exact ⟨_, rfl, .inr rfl⟩
        refine ⟨kd, rfl, hkd, by omega, fun d b2 hd hb2 => ?_⟩
        walk_at "qd"
        exact hk (.val d) kd b2 hd.1 hkd (Nat.zero_le _) (by omega)
      · refine ite2 (fun _ => ?_) fun _ => ?_
        · refine ⟨_, ks, m - 1, by rw [e1], (by first | exact .inl rfl | exact .inr (.inl rfl) | exact .inr (.inr rfl)), hks, by omega, by omega, by omega, fun f kd b2 hf hkd hdp hb2 => ?_⟩
          walk_at "qd"
          try (refine ⟨rfl, ?_⟩; walk_at "qd")
          refine ⟨_, ks, m - 3, kd, by rw [e3], (by first | exact .inl rfl | exact .inr (.inl rfl) | exact .inr (.inr rfl)), hks, hkd, by omega, by omega, by omega, fun f2 b3 hf2 hdp2 hb3 => ?_⟩
          walk_at "qd"
          exact hk (.fst f f2) kd b3 ⟨hf, hf2⟩ hkd (by show max f.dp f2.dp + 1 ≤ m; omega) (by omega)
        · refine ⟨_, ks, m - 1, sNum, by rw [e1], (by first | exact .inl rfl | exact .inr (.inl rfl) | exact .inr (.inr rfl)), hks, .inl rfl, by omega, by omega, by omega, fun f b2 hf hdp hb2 => ?_⟩
          walk_at "qd"
          refine ⟨_, ks, m - 3, sNum, by rw [e3], (by first | exact .inl rfl | exact .inr (.inl rfl) | exact .inr (.inr rfl)), hks, .inl rfl, by omega, by omega, by omega, fun f2 b3 hf2 hdp2 hb3 => ?_⟩
          walk_at "qd"
          refine ⟨by walk_at "tk", fun x x0 x1 => at_any x0 x1 fun ds hds => ?_⟩
          obtain ⟨sg, rfl, hsg⟩ : ∃ sg, ds = .str sg ∧ isSg sg := by
            simp at hds
            rcases hds with rfl | rfl | rfl
            · exact ⟨_, rfl, .inl rfl⟩
            · exact ⟨_, rfl, .inr (.inl rfl)⟩
            · exact ⟨_, rfl, .inr (.inr rfl)⟩
          exact hk (.sum sg f f2) sNum _ ⟨rfl, hsg, hf, hf2⟩ (.inl rfl) (by show max f.dp f2.dp + 1 ≤ m; omega) (by omega)
    · walk_at "qd"
      have h1 := hks.1
      have h8 := hks.2.1
      have leaf : Tk (↑(List.map D.str ks).length) (b + 1) ∧ ∀ (r : Int), 0 ≤ r → r < ↑(List.map D.str ks).length → ∃ d, atI (List.map D.str ks) r = some d ∧ k (Rs.s (D.tup [D.tup [D.str (Str.ofString "cell"), D.int r], d])) (b + 1 + 1) := by
        rw [List.length_map]
        refine ⟨by walk_at "tk", fun r r0 r1 => ?_⟩
        obtain ⟨p, rfl⟩ : ∃ p : Nat, r = p := ⟨r.toNat, by omega⟩
        have hp : p < ks.length := by omega
        have he : ks[p]? = some ks[p] := List.getElem?_eq_getElem hp
        refine ⟨.str ks[p], ?_, hk (.cell p) ks[p] _ he (hks.2.2 _ (List.getElem_mem hp)) (Nat.zero_le _) (by omega)⟩
        unfold atI
        rw [ix_ok (by omega) (by rw [List.length_map]; omega)]
        show (ks.map D.str)[p]? = _
        rw [List.getElem?_map, he]
        rfl
      refine ⟨by walk_at "tk", fun r r0 r1 => ite2 (fun _ => leaf) fun hm0 => ite2 (fun _ => leaf) fun _ => ?_⟩
      have hm1 : m ≠ 0 := fun e => hm0 (by omega)
      have e1 : (m : Int) - 1 = ((m - 1 : Nat) : Int) := by omega
      have hpw : 2 ^ m = 2 * 2 ^ (m - 1) := by rw [← Nat.pow_succ']; congr 1; omega
      have hp1 : 0 < 2 ^ (m - 1) := Nat.pow_pos (by decide)
      have e3 : (if (m : Int) - 3 > 0 then (m : Int) - 3 else 0) = ((m - 3 : Nat) : Int) := by split <;> omega
      have hpw3 : 2 ^ (m - 3) ≤ 2 ^ (m - 1) := Nat.pow_le_pow_right (by decide) (by omega)
      refine ite2 (fun _ => ?_) fun _ => ?_
      · refine ⟨by walk_at "tk", fun r2 r20 r21 => at_any r20 r21 fun d hd => ⟨by walk_at "tk", fun r3 r30 r31 => ite2 (fun _ => hk (.val .non) sNum _ (.inl rfl) (.inl rfl) (Nat.zero_le _) (by omega)) fun _ => ?_⟩⟩
        obtain ⟨kd, rfl, hkd⟩ : ∃ kd, d = .str kd ∧ isKd kd := by
          simp at hd
          rcases hd with rfl | rfl
          · exact ⟨_, rfl, .inl rfl⟩
          · exact ⟨_, rfl, .inr rfl⟩
        refine ⟨kd, rfl, hkd, by omega, fun d b2 hd hb2 => ?_⟩
        walk_at "qd"
        exact hk (.val d) kd b2 hd.1 hkd (Nat.zero_le _) (by omega)
      · refine ite2 (fun _ => ?_) fun _ => ?_
        · refine ⟨_, ks, m - 1, by rw [e1], (by first | exact .inl rfl | exact .inr (.inl rfl) | exact .inr (.inr rfl)), hks, by omega, by omega, by omega, fun f kd b2 hf hkd hdp hb2 => ?_⟩
          walk_at "qd"
          try (refine ⟨rfl, ?_⟩; walk_at "qd")
          refine ⟨_, ks, m - 3, kd, by rw [e3], (by first | exact .inl rfl | exact .inr (.inl rfl) | exact .inr (.inr rfl)), hks, hkd, by omega, by omega, by omega, fun f2 b3 hf2 hdp2 hb3 => ?_⟩
          walk_at "qd"
          exact hk (.fst f f2) kd b3 ⟨hf, hf2⟩ hkd (by show max f.dp f2.dp + 1 ≤ m; omega) (by omega)
        · refine ⟨_, ks, m - 1, sNum, by rw [e1], (by first | exact .inl rfl | exact .inr (.inl rfl) | exact .inr (.inr rfl)), hks, .inl rfl, by omega, by omega, by omega, fun f b2 hf hdp hb2 => ?_⟩
          walk_at "qd"
          refine ⟨_, ks, m - 3, sNum, by rw [e3], (by first | exact .inl rfl | exact .inr (.inl rfl) | exact .inr (.inr rfl)), hks, .inl rfl, by omega, by omega, by omega, fun f2 b3 hf2 hdp2 hb3 => ?_⟩
          walk_at "qd"
          refine ⟨by walk_at "tk", fun x x0 x1 => at_any x0 x1 fun ds hds => ?_⟩
          obtain ⟨sg, rfl, hsg⟩ : ∃ sg, ds = .str sg ∧ isSg sg := by
            simp at hds
            rcases hds with rfl | rfl | rfl
            · exact ⟨_, rfl, .inl rfl⟩
            · exact ⟨_, rfl, .inr (.inl rfl)⟩
            · exact ⟨_, rfl, .inr (.inr rfl)⟩
          exact hk (.sum sg f f2) sNum _ ⟨rfl, hsg, hf, hf2⟩ (.inl rfl) (by show max f.dp f2.dp + 1 ≤ m; omega) (by omega)

theorem okd_formed {j : Nat} {f_formed : Addr} {fd_formed : FuncData} (D_formed : Df K mg "_law_formed" s_formed ["_law_row", "_law_form_here"] f_formed fd_formed) (Z : Zs mg) : ∀ m : Nat, FnOk P w K mg base CX0 (j + m + 1) f_formed fd_formed ["_law_row", "_law_form_here"] (spD K (dsFc m))
  | 0 => fn_void fun args b k kx h => by
    obtain ⟨s0, row, f, ks, kd, rfl, hs, hd, hok, hr, hm, hk⟩ := h
    omega
  | m + 1 => by
    have G_formed := okd_formed (j := j) D_formed Z  m
    refine fnD D_formed.F sc_formed (fun args b k kx h => ?_) fun cdv A outer s H E c hK hr => ⟨_, (s_cons (s_if (t_cmpK (c_eq hK hr.units) (d_ix hK (d_var (pv 1)) d_int (fun _ _ => rfl)) d_str (nomark _)) (s_one (s_ret (d_ix hK (d_var (pv 0)) (d_ix hK (d_var (pv 1)) d_int (fun _ _ => rfl)) (fun _ _ => rfl)))) s_nil)
        (s_cons (s_if (t_cmpK (c_eq hK hr.units) (d_ix hK (d_var (pv 1)) d_int (fun _ _ => rfl)) d_str (nomark _)) (s_one (s_ret (d_ix hK (d_var (pv 1)) d_int (fun _ _ => rfl)))) s_nil)
        (s_cons (s_par (i := 2) (j := 3) rfl sc_formed.nd rfl rfl (by decide) rfl rfl (a_cons (d_call (kx := fun _ _ => False) hK G_formed hr (by rfl) D_formed.m D_formed.F.kp D_formed.b pass0 (a_cons (d_var (pv 0)) (a_cons (d_ix hK (d_var (pv 1)) (d_neg d_int) (fun _ _ => rfl)) a_nil st_Subscript) st_Name)) (a_cons (d_call (kx := fun _ _ => False) hK G_formed hr (by rfl) D_formed.m D_formed.F.kp D_formed.b pass0 (a_cons (d_var (pv 0)) (a_cons (d_ix hK (d_var (pv 1)) (d_neg d_int) (fun _ _ => rfl)) a_nil st_Subscript) st_Name)) a_nil st_Call) st_Call) (by rfl))
        (s_cons (s_if (t_cmpK (c_eq hK hr.units) (d_ix hK (d_var (pv 1)) d_int (fun _ _ => rfl)) d_str (nomark _)) (s_one (s_ret (d_if (t_cmpK c_is (d_var (pv 2)) d_non (nomark _)) (d_var (pv 3)) (d_var (pv 2))))) s_nil)
        (s_cons (s_if (PWd.pt (w_or (t_cmpK c_is (d_var (pv 2)) d_non (nomark _)) (w_or1 (t_cmpK c_is (d_var (pv 3)) d_non (nomark _))))) (s_one (s_ret d_non)) s_nil)
        (s_one (s_ret (d_dget (hu_of hr) (fun _ _ => rfl) (d_disp (pp_cons d_str (d_add (d_var (pv 2)) (d_var (pv 3))) (pp_cons d_str (d_sub (d_var (pv 2)) (d_var (pv 3))) (pp_cons d_str (d_mulB (d_var (pv 2)) (d_var (pv 3))) pp_nil)))) (d_ix hK (d_var (pv 1)) d_int (fun _ _ => rfl)))))))))), ?_⟩
    · obtain ⟨s0, row, f, ks, kd, rfl, hs, hd, hok, hr, hm, hk⟩ := h
      rfl
    rintro args b k kx ⟨s0, row, f, ks, kd, rfl, hs, hd, hok, hr, hm, hk⟩
    rw [show startS N_formed.length [s0, .val f.d] = [s0, .val f.d, .no, .no] from rfl]
    walk_at "qd"
    rcases hs with rfl | rfl | rfl
    all_goals
      cases f with
      | cell p =>
        have hok' : ks[p]? = some kd := hok
        have hp : p < row.length := by rw [hr.1]; exact (List.getElem?_eq_some_iff.mp hok').1
        have he : row[p]? = some row[p] := List.getElem?_eq_getElem hp
        have hk' : k (.s row[p]) b := by
          have : k (.s ((row[p]?).getD .non)) b := hk
          rw [he] at this
          exact this
        have ha : atI row (p : Int) = some row[p] := by unfold atI; rw [ix_ok (by omega) (by omega)]; exact he
        unfold Fm.d
        walk_at "qd"
        refine ⟨_, rfl, ?_⟩
        walk_at "qd"
        refine ⟨_, rfl, ?_⟩
        walk_at "qd"
        exact ⟨_, ha, hk'⟩
      | val d =>
        unfold Fm.d
        walk_at "qd"
        refine ⟨_, rfl, ?_⟩
        walk_at "qd"
        rw [if_neg (by decide +kernel)]
        refine ⟨_, rfl, ?_⟩
        walk_at "qd"
        exact ⟨_, rfl, hk⟩
      | fst x y =>
        have hd' : max x.dp y.dp + 1 < m + 1 := hd
        unfold Fm.d
        walk_at "qd"
        refine ⟨_, rfl, ?_⟩
        walk_at "qd"
        rw [if_neg (by decide +kernel)]
        refine ⟨_, rfl, ?_⟩
        walk_at "qd"
        rw [if_neg (by decide +kernel)]
        have hk' : k (.s (fstD (x.ev row) (y.ev row))) b := hk
        refine ⟨_, rfl, ?_⟩
        walk_at "qd"
        refine ⟨_, row, x, ks, kd, rfl, (by first | exact .inl rfl | exact .inr (.inl rfl) | exact .inr (.inr rfl)), by omega, hok.1, hr, by omega, ?_⟩
        walk_at "qd"
        refine ⟨_, rfl, ?_⟩
        walk_at "qd"
        refine ⟨_, row, y, ks, kd, rfl, (by first | exact .inl rfl | exact .inr (.inl rfl) | exact .inr (.inr rfl)), by omega, hok.2, hr, by omega, ?_⟩
        walk_at "qd"
        refine ⟨_, rfl, ?_⟩
        walk_at "qd"
        unfold fstD at hk'
        refine ite2 (fun h => ?_) (fun h => ?_)
        · rw [if_pos h] at hk'
          exact hk'
        · rw [if_neg h] at hk'
          exact hk'
      | sum sg x y =>
        have hd' : max x.dp y.dp + 1 < m + 1 := hd
        obtain ⟨rfl, hsg, h1, h2⟩ : kd = sNum ∧ isSg sg ∧ x.ok ks sNum ∧ y.ok ks sNum := hok
        have hk' : k (.s (sumD sg (x.ev row) (y.ev row))) b := hk
        have big : ∀ n : Nat, n ≤ 12 → 60 * 2 ^ n ≤ 524288 := fun n hn => Nat.le_trans (Nat.mul_le_mul_left _ (Nat.pow_le_pow_right (by decide) hn)) (by decide)
        have c1 := (Fm.celB hr h1).mono (big _ (by omega))
        have c2 := (Fm.celB hr h2).mono (big _ (by omega))
        unfold Fm.d
        walk_at "qd"
        refine ⟨_, rfl, ?_⟩
        walk_at "qd"
        rw [if_neg (by decide +kernel)]
        refine ⟨_, rfl, ?_⟩
        walk_at "qd"
        rw [if_neg (by decide +kernel)]
        refine ⟨_, rfl, ?_⟩
        walk_at "qd"
        refine ⟨_, row, x, ks, sNum, rfl, (by first | exact .inl rfl | exact .inr (.inl rfl) | exact .inr (.inr rfl)), by omega, h1, hr, by omega, ?_⟩
        walk_at "qd"
        refine ⟨_, rfl, ?_⟩
        walk_at "qd"
        refine ⟨_, row, y, ks, sNum, rfl, (by first | exact .inl rfl | exact .inr (.inl rfl) | exact .inr (.inr rfl)), by omega, h2, hr, by omega, ?_⟩
        walk_at "qd"
        refine ⟨_, rfl, ?_⟩
        walk_at "qd"
        rw [if_neg (by decide +kernel)]
        generalize x.ev row = X1 at *
        generalize y.ev row = Y1 at *
        rcases c1.num with rfl | ⟨i1, rfl, hi1⟩
        · walk_at "qd"
          exact hk'
        · rcases c2.num with rfl | ⟨i2, rfl, hi2⟩
          · walk_at "qd"
            exact hk'
          · walk_at "qd"
            refine ⟨⟨by omega, by omega⟩, by decide +kernel, _, rfl, ?_⟩
            walk_at "qd"
            rcases hsg with rfl | rfl | rfl
            · rw [sumD_p] at hk'
              exact ⟨_, valD_hit, hk'⟩
            · rw [sumD_m] at hk'
              exact ⟨_, (valD_skip (key_ne fun e => pm_ne e.symm)).trans valD_hit, hk'⟩
            · rw [sumD_t] at hk'
              exact ⟨_, (valD_skip (key_ne fun e => tp_ne e.symm)).trans ((valD_skip (key_ne fun e => tm_ne e.symm)).trans valD_hit), hk'⟩

theorem okd_many {j : Nat} {f : Addr} {fd : FuncData} {f_take : Addr} {fd_take : FuncData} (F : Fun K "_law_many" "_law_many" s_many f fd) (Z : Zs mg) (D_take : Df K mg "_law_take" s_take ["_law_state", "_law_many_here"] f_take fd_take) (G_take : FnOk P w K mg base CX0 j f_take fd_take ["_law_state", "_law_many_here"] (spD K dsTake)) : FnOk P w K mg base CX0 (j + 1) f fd ["_law_state"] (spD K dsMany) := by
  refine fnD F sc_many (fun args b k kx h => ?_) fun cdv A outer s H E c hK hr => ⟨_, (s_one (s_ret (d_if (t_cmpK (c_eq hK hr.units) (d_call (kx := fun _ _ => False) hK G_take hr (by rfl) D_take.m D_take.F.kp D_take.b pass0 (a_cons (d_var (pv 0)) (a_cons d_int a_nil st_Constant) st_Name)) d_int (nomark _)) (d_add d_int (d_call (kx := fun _ _ => False) hK G_take hr (by rfl) D_take.m D_take.F.kp D_take.b pass0 (a_cons (d_var (pv 0)) (a_cons d_int a_nil st_Constant) st_Name))) (d_add d_int (d_call (kx := fun _ _ => False) hK G_take hr (by rfl) D_take.m D_take.F.kp D_take.b pass0 (a_cons (d_var (pv 0)) (a_cons d_int a_nil st_Constant) st_Name)))))), ?_⟩
  · obtain ⟨rfl, hb, hk⟩ := h
    rfl
  rintro args b k kx ⟨rfl, hb, hk⟩
  rw [show startS N_many.length [.st] = [.st] from rfl]
  walk_at "qd"
  refine ⟨by walk_at "tk", fun r r0 r1 => ite2 (fun _ => ⟨by walk_at "tk", fun x x0 x1 => ?_⟩) fun _ => ⟨by walk_at "tk", fun x x0 x1 => ?_⟩⟩
  · have z := hk (7 + x.toNat) (b + 1 + 1) (by omega) (by omega) (by omega)
    rw [show ((7 + x.toNat : Nat) : Int) = 7 + x by omega] at z
    exact z
  · have z := hk (1 + x.toNat) (b + 1 + 1) (by omega) (by omega) (by omega)
    rw [show ((1 + x.toNat : Nat) : Int) = 1 + x by omega] at z
    exact z
theorem okd_right {j : Nat} {f : Addr} {fd : FuncData} {f_same : Addr} {fd_same : FuncData} {f_p_rows_of : Addr} {fd_p_rows_of : FuncData} (F : Fun K "_law_right" "_law_right" s_right f fd) (Z : Zs mg) (D_same : Df K mg "_law_same" s_same ["_law_found", "_law_due"] f_same fd_same) (G_same : FnOk P w K mg base CX0 j f_same fd_same ["_law_found", "_law_due"] (spD K (dsSame 4))) (D_p_rows_of : Df K mg "rows_of" s_p_rows_of ["question", "kinds", "rows"] f_p_rows_of fd_p_rows_of) (G_p_rows_of : FnOk P w K mg base CX0 j f_p_rows_of fd_p_rows_of ["question", "kinds", "rows"] (spD K (dsRowsOf 4))) : FnOk P w K mg base CX0 (j + 1) f fd ["_law_question", "_law_kinds_here", "_law_rows_here", "_law_due"] (spD K dsRight) := by
  refine fnD F sc_right (fun args b k kx h => ?_) fun cdv A outer s H E c hK hr => ⟨_, (s_cons (s_set (i := 4) sc_right.nd rfl (Or.inl rfl) (d_ctK (k_dictL rfl hK) (by rfl) Z.z_dict (by decide +kernel) (a_cons (d_lc (own := [("_law_name", 11)]) rfl sc_right.nd (i_keysL (d_var (pv 2))) (blkOk_by (own := [("_law_name", 11)]) (N := N_right) (sc := defScope s_right) (by decide +kernel)) (fun _ _ _ _ _ => (g_name (pg_name (i := 11) sc_right.nd rfl (Or.inl rfl)))) (by decide) (fun _ _ _ _ _ => ts_nil) (fun _ _ _ _ _ => (d_tup (a_cons (d_var (pv 11)) (a_cons (d_lc (own := [("_law_row", 12)]) rfl sc_right.nd (i_any hK (d_dgetL (hu_of hr) (fun _ _ => rfl) (d_var (pv 2)) (d_var (pv 11)))) (blkOk_by (own := [("_law_row", 12)]) (N := N_right) (sc := (relab (lcScope (argV (asgV (bodyAt s_right 0)) 0)) (defScope s_right))) (by decide +kernel)) (fun _ _ _ _ _ => (g_name (pg_name (i := 12) sc_right.nd rfl (Or.inl rfl)))) (by decide) (fun _ _ _ _ _ => ts_nil) (fun _ _ _ _ _ => (d_ctK (k_list hK) (by rfl) Z.z_list (by decide +kernel) (a_cons (d_var (pv 12)) a_nil st_Name)))) a_nil st_ListComp) st_Name)))) a_nil st_ListComp)))
      (s_cons (s_set (i := 5) sc_right.nd rfl (Or.inl rfl) (d_ctK (k_dictL rfl hK) (by rfl) Z.z_dict (by decide +kernel) (a_cons (d_lc (own := [("_law_name", 11)]) rfl sc_right.nd (i_keysL (d_var (pv 2))) (blkOk_by (own := [("_law_name", 11)]) (N := N_right) (sc := defScope s_right) (by decide +kernel)) (fun _ _ _ _ _ => (g_name (pg_name (i := 11) sc_right.nd rfl (Or.inl rfl)))) (by decide) (fun _ _ _ _ _ => ts_nil) (fun _ _ _ _ _ => (d_tup (a_cons (d_var (pv 11)) (a_cons (d_ctK (k_tuple hK) (by rfl) Z.z_tuple (by decide +kernel) (a_cons (d_dgetL (hu_of hr) (fun _ _ => rfl) (d_var (pv 2)) (d_var (pv 11))) a_nil st_Subscript)) a_nil st_Call) st_Name)))) a_nil st_ListComp)))
      (s_cons (s_set (i := 6) sc_right.nd rfl (Or.inl rfl) (d_ctK (k_dictL rfl hK) (by rfl) Z.z_dict (by decide +kernel) (a_cons (d_lc (own := [("_law_name", 11)]) rfl sc_right.nd (i_keysL (d_var (pv 1))) (blkOk_by (own := [("_law_name", 11)]) (N := N_right) (sc := defScope s_right) (by decide +kernel)) (fun _ _ _ _ _ => (g_name (pg_name (i := 11) sc_right.nd rfl (Or.inl rfl)))) (by decide) (fun _ _ _ _ _ => ts_nil) (fun _ _ _ _ _ => (d_tup (a_cons (d_var (pv 11)) (a_cons (d_ctK (k_tuple hK) (by rfl) Z.z_tuple (by decide +kernel) (a_cons (d_dgetL (hu_of hr) (fun _ _ => rfl) (d_var (pv 1)) (d_var (pv 11))) a_nil st_Subscript)) a_nil st_Call) st_Name)))) a_nil st_ListComp)))
      (s_cons (s_frz (i := 4) (s_set (i := 7) sc_right.nd rfl (Or.inl rfl) (d_ctK (k_strZ hr.gd hr.units hK) (by rfl) Z.z_str (by decide +kernel) (a_cons (d_lst (a_cons (d_var (pv 0)) (a_cons (d_var (pv 1)) (a_cons (d_var (pv 2)) (a_cons (d_var (pv 4)) a_nil st_Name) st_Name) st_Name) st_Name)) a_nil st_List))))
      (s_cons (s_frz (i := 5) (s_frz (i := 4) (s_frz (i := 6) (s_for PassesOwn.never rfl (f_any hK (d_lst (a_cons (d_tup (a_cons (d_var (pv 1)) (a_cons (d_var (pv 2)) a_nil st_Name) st_Name)) (a_cons (d_tup (a_cons (d_var (pv 6)) (a_cons (d_var (pv 4)) a_nil st_Name) st_Name)) (a_cons (d_tup (a_cons (d_var (pv 1)) (a_cons (d_var (pv 5)) a_nil st_Name) st_Name)) a_nil st_Tuple) st_Tuple) st_Tuple))) (g_tup (n := 2) hK rfl (gs_cons (g_name (pg_name (i := 8) sc_right.nd rfl (Or.inl rfl))) (gs_cons (g_name (pg_name (i := 9) sc_right.nd rfl (Or.inl rfl))) gs_nil))) (s_cons (s_set (i := 10) sc_right.nd rfl (Or.inl rfl) (d_call (kx := fun _ _ => False) hK G_p_rows_of hr (by rfl) D_p_rows_of.m D_p_rows_of.F.kp D_p_rows_of.b pass0 (a_cons (d_var (pv 0)) (a_cons (d_var (pv 8)) (a_cons (d_var (pv 9)) a_nil st_Name) st_Name) st_Name)))
      (s_cons (s_if (t_not (t_val (d_call (kx := fun _ _ => False) hK G_same hr (by rfl) D_same.m D_same.F.kp D_same.b pass0 (a_cons (d_var (pv 10)) (a_cons (d_var (pv 3)) a_nil st_Name) st_Name)))) (s_one (s_ret d_bl)) s_nil)
      (s_one (s_app (pv 10) (d_tup a_nil) st_Tuple))))))))
      (s_one (s_frz (i := 4) (s_ret (d_cmpK (c_eq hK hr.units) (d_ctK (k_strZ hr.gd hr.units hK) (by rfl) Z.z_str (by decide +kernel) (a_cons (d_lst (a_cons (d_var (pv 0)) (a_cons (d_var (pv 1)) (a_cons (d_var (pv 2)) (a_cons (d_var (pv 4)) a_nil st_Name) st_Name) st_Name) st_Name)) a_nil st_List)) (d_var (pv 7)) (nomark _)))))))))), ?_⟩
  · obtain ⟨q, ks, rs, s, rfl, hs, hks, hrk, hl, hok, hdp, hk⟩ := h
    rfl
  rintro args b k kx ⟨q, ks, rs, s, rfl, hs, hks, hrk, hl, hok, hdp, hk⟩
  rw [show startS N_right.length [.val q.d, .val (.dl [(keyT, .lst (ks.map D.str))]), .val (.dl [(keyT, .lst (rs.map D.tup))]), s] = [.val q.d, .val (.dl [(keyT, .lst (ks.map D.str))]), .val (.dl [(keyT, .lst (rs.map D.tup))]), s, .no, .no, .no, .no, .no, .no, .no, .no, .no] from rfl]
  walk_at "qd"
  have hz := right_shz hks hrk hl hok hdp
  have erf : rs.map (rwD false) = rs.map D.tup := rfl
  rw [erf] at hz
  have sd : slD s = some (.lst ((q.ev rs).map D.tup)) := by rcases hs with rfl | rfl <;> rfl
  refine lc_map (fun _ => pairD (keyT, .lst (rs.map (rwD true)))) (szl (by decide)) (fun d acc Q hd ha hQ => ?_) ?_
  · cases List.mem_singleton.mp hd
    rw [show keyDt keyT = .str (sS "t") from rfl]
    walk_at "qd"
    refine ⟨_, valD_hit, ?_⟩
    walk_at "qd"
    refine lc_map (fun d => .lst (unR d)) (szl (by rw [List.length_map]; omega)) (fun d acc2 Q2 hd2 ha2 hQ2 => ?_) ?_
    · obtain ⟨row, hr, rfl⟩ := List.mem_map.mp hd2
      walk_at "qd"
      exact ⟨ha2, hQ2⟩
    · walk_at "qd"
      rw [List.map_map]
      exact ⟨ha, hQ⟩
  · walk_at "qd"
    refine ⟨[(keyT, .lst (rs.map (rwD true)))], rfl, by simp, ?_⟩
    walk_at "qd"
    refine lc_map (fun _ => pairD (keyT, .tup (rs.map D.tup))) (szl (by decide)) (fun d acc Q hd ha hQ => ?_) ?_
    · cases List.mem_singleton.mp hd
      rw [show keyDt keyT = .str (sS "t") from rfl]
      walk_at "qd"
      refine ⟨_, valD_hit, ?_⟩
      walk_at "qd"
      exact ⟨ha, hQ⟩
    · walk_at "qd"
      refine ⟨[(keyT, .tup (rs.map D.tup))], rfl, by simp, ?_⟩
      walk_at "qd"
      refine lc_map (fun _ => pairD (keyT, .tup (ks.map D.str))) (szl (by decide)) (fun d acc Q hd ha hQ => ?_) ?_
      · cases List.mem_singleton.mp hd
        rw [show keyDt keyT = .str (sS "t") from rfl]
        walk_at "qd"
        refine ⟨_, valD_hit, ?_⟩
        walk_at "qd"
        exact ⟨ha, hQ⟩
      · walk_at "qd"
        refine ⟨[(keyT, .tup (ks.map D.str))], rfl, by simp, ?_⟩
        walk_at "qd"
        refine ⟨hz, ?_⟩
        refine for_ds (fun i A b' => b' = b ∧ ∃ v8 v9 v10, A = [.val q.d, .val (.dl [(keyT, .lst (ks.map D.str))]), .val (.dl [(keyT, .lst (rs.map D.tup))]), s, .val (.dl [(keyT, .lst (rs.map (rwD true)))]), .val (.dl [(keyT, .tup (rs.map D.tup))]), .val (.dl [(keyT, .tup (ks.map D.str))]), .val (.str (pz (.lst [q.d, .dl [(keyT, .lst (ks.map D.str))], .dl [(keyT, .lst (rs.map D.tup))], .dl [(keyT, .lst (rs.map (rwD true)))]])).shown), v8, v9, v10, .no, .no]) ⟨rfl, _, _, _, rfl⟩ ?_ ?_
        · rintro i d A b' hd ⟨rfl, v8, v9, v10, rfl⟩
          obtain ⟨kd, xd, rfl, hx⟩ : ∃ kd xd, d = .tup [kd, .dl [(keyT, xd)]] ∧ TabIs xd rs := by
            have := List.mem_of_getElem? hd
            simp only [List.mem_cons, List.not_mem_nil, or_false] at this
            rcases this with rfl | rfl | rfl
            · exact ⟨_, _, rfl, false, .inl rfl⟩
            · exact ⟨_, _, rfl, true, .inl rfl⟩
            · exact ⟨_, _, rfl, false, .inr rfl⟩
          walk_at "qd"
          refine ⟨q, ks, kd, xd, rs, rfl, hx, hrk, hl, hok, hdp, ?_⟩
          rcases hs with rfl | rfl
          all_goals
            walk_at "qd"
            refine ⟨_, _, _, rfl, rfl, rfl, Qt.sam hks.2.1 hrk hl hok, ?_⟩
            walk_at "qd"
            exact szs (by rw [List.length_map]; exact Nat.le_trans (Qt.ev_le hl) (by decide))
        · rintro A b' ⟨rfl, v8, v9, v10, rfl⟩
          walk_at "qd"
          exact ⟨hz, hk⟩
theorem okd_p_law {j : Nat} {f : Addr} {fd : FuncData} {f_begin : Addr} {fd_begin : FuncData} {f_take : Addr} {fd_take : FuncData} {f_right : Addr} {fd_right : FuncData} {f_formed : Addr} {fd_formed : FuncData} {f_many : Addr} {fd_many : FuncData} {f_form : Addr} {fd_form : FuncData} {f_met : Addr} {fd_met : FuncData} {f_test : Addr} {fd_test : FuncData} {f_table : Addr} {fd_table : FuncData} (F : Fun K "law" "law" s_p_law f fd) (Z : Zs mg) (D_begin : Df K mg "_law_begin" s_begin ["_law_script"] f_begin fd_begin) (G_begin : FnOk P w K mg base CX0 j f_begin fd_begin ["_law_script"] (spBegin K)) (D_take : Df K mg "_law_take" s_take ["_law_state", "_law_many_here"] f_take fd_take) (G_take : FnOk P w K mg base CX0 j f_take fd_take ["_law_state", "_law_many_here"] (spD K dsTake)) (D_right : Df K mg "_law_right" s_right ["_law_question", "_law_kinds_here", "_law_rows_here", "_law_due"] f_right fd_right) (G_right : FnOk P w K mg base CX0 j f_right fd_right ["_law_question", "_law_kinds_here", "_law_rows_here", "_law_due"] (spD K dsRight)) (D_formed : Df K mg "_law_formed" s_formed ["_law_row", "_law_form_here"] f_formed fd_formed) (G_formed : FnOk P w K mg base CX0 j f_formed fd_formed ["_law_row", "_law_form_here"] (spD K (dsFc 11))) (D_many : Df K mg "_law_many" s_many ["_law_state"] f_many fd_many) (G_many : FnOk P w K mg base CX0 j f_many fd_many ["_law_state"] (spD K dsMany)) (D_form : Df K mg "_law_form" s_form ["_law_state", "_law_own", "_law_deep"] f_form fd_form) (G_form : FnOk P w K mg base CX0 j f_form fd_form ["_law_state", "_law_own", "_law_deep"] (spD K (dsForm 10))) (D_met : Df K mg "_law_met" s_met ["_law_row", "_law_test_here"] f_met fd_met) (G_met : FnOk P w K mg base CX0 j f_met fd_met ["_law_row", "_law_test_here"] (spD K (dsRt 13))) (D_test : Df K mg "_law_test" s_test ["_law_state", "_law_own", "_law_deep"] f_test fd_test) (G_test : FnOk P w K mg base CX0 j f_test fd_test ["_law_state", "_law_own", "_law_deep"] (spD K (dsTestV 13))) (D_table : Df K mg "_law_table" s_table ["_law_state"] f_table fd_table) (G_table : FnOk P w K mg base CX0 j f_table fd_table ["_law_state"] (spD K dsTable)) : FnOk P w K mg base CX0 (j + 1) f fd ["_law_script"] (spLawD K) := by
  refine lawD F sc_p_law (n := 13) rfl rfl fun cdv A outer s H E hr => ⟨ps_set (i := 1) sc_p_law.nd rfl (Or.inr rfl) (pe_call G_begin hr (by rfl) D_begin.m D_begin.F.kp D_begin.b .nil pass0 (pa_cons (pv 0) pa_nil st_Name)), _, fun c hK => (s_cons (s_asg (d_call (kx := fun _ _ => False) hK G_table hr (by rfl) D_table.m D_table.F.kp D_table.b pass0 (a_cons (d_var (pv 1)) a_nil st_Name)) (g_tup (n := 2) hK rfl (gs_cons (g_name (pg_name (i := 3) sc_p_law.nd rfl ((by first | exact Or.inr rfl | exact Or.inl rfl)))) (gs_cons (g_name (pg_name (i := 4) sc_p_law.nd rfl (Or.inl rfl))) gs_nil))))
      (s_cons (s_par (i := 5) (j := 6) rfl sc_p_law.nd rfl rfl (by decide) rfl rfl (a_cons (d_displ (pp_cons d_str (d_var (pv 3)) pp_nil)) (a_cons (d_displ (pp_cons d_str (d_var (pv 4)) pp_nil)) a_nil st_Dict) st_Dict) (by rfl))
      (s_cons (s_if (t_not (t_val (d_call (kx := fun _ _ => False) hK G_right hr (by rfl) D_right.m D_right.F.kp D_right.b pass0 (a_cons (d_tup (a_cons d_str (a_cons d_str a_nil st_Constant) st_Constant)) (a_cons (d_var (pv 5)) (a_cons (d_var (pv 6)) (a_cons (d_var (pv 4)) a_nil st_Name) st_Name) st_Name) st_Tuple)))) (s_one (s_ret d_bl)) s_nil)
      (s_cons (s_for PassesOwn.never rfl (f_range1 (by rfl) Z.z_range (a_cons (d_add d_int (d_call (kx := fun _ _ => False) hK G_take hr (by rfl) D_take.m D_take.F.kp D_take.b pass0 (a_cons (d_var (pv 1)) (a_cons d_int a_nil st_Constant) st_Name))) a_nil st_BinOp)) (g_name (pg_name (i := 2) sc_p_law.nd rfl (Or.inl rfl))) (s_cons (s_set (i := 7) sc_p_law.nd rfl (Or.inr rfl) (d_call (kx := fun _ _ => False) hK G_test hr (by rfl) D_test.m D_test.F.kp D_test.b pass0 (a_cons (d_var (pv 1)) (a_cons (d_var (pv 3)) (a_cons (d_call (kx := fun _ _ => False) hK G_take hr (by rfl) D_take.m D_take.F.kp D_take.b pass0 (a_cons (d_var (pv 1)) (a_cons d_int a_nil st_Constant) st_Name)) a_nil st_Call) st_Name) st_Name)))
      (s_cons (s_setLc (i := 8) (own := [("_law_row", 12)]) rfl sc_p_law.nd rfl rfl (sw_true rfl rfl rfl (by decide +kernel)) (i_any hK (d_var (pv 4))) (blkOk_by (own := [("_law_row", 12)]) (N := N_p_law) (sc := defScope s_p_law) (by decide +kernel)) (fun _ _ _ _ _ => (g_name (pg_name (i := 12) sc_p_law.nd rfl ((by first | exact Or.inr rfl | exact Or.inl rfl))))) (by decide) (fun _ _ _ _ _ => (ts_one (t_val (d_call (kx := fun _ _ => False) hK G_met hr (by rfl) D_met.m D_met.F.kp D_met.b pass0 (a_cons (d_var (pv 12)) (a_cons (d_var (pv 7)) a_nil st_Name) st_Name))))) (fun _ _ _ _ _ => (d_var (pv 12))))
      (s_cons (s_frz (i := 7) (s_set (i := 9) sc_p_law.nd rfl (Or.inl rfl) (d_tup (a_cons d_str (a_cons (d_tup (a_cons d_str (a_cons d_str a_nil st_Constant) st_Constant)) (a_cons (d_var (pv 7)) a_nil st_Name) st_Tuple) st_Constant))))
      (s_cons (s_if (t_not (t_val (d_call (kx := fun _ _ => False) hK G_right hr (by rfl) D_right.m D_right.F.kp D_right.b pass0 (a_cons (d_var (pv 9)) (a_cons (d_var (pv 5)) (a_cons (d_var (pv 6)) (a_cons (d_var (pv 8)) a_nil st_Name) st_Name) st_Name) st_Name)))) (s_one (s_ret d_bl)) s_nil)
      (s_cons (s_set (i := 10) sc_p_law.nd rfl (Or.inr rfl) (d_lc (own := [("_law_again", 13)]) rfl sc_p_law.nd (PFd.i (f_range1 (by rfl) Z.z_range (a_cons (d_call (kx := fun _ _ => False) hK G_many hr (by rfl) D_many.m D_many.F.kp D_many.b pass0 (a_cons (d_var (pv 1)) a_nil st_Name)) a_nil st_Call))) (blkOk_by (own := [("_law_again", 13)]) (N := N_p_law) (sc := defScope s_p_law) (by decide +kernel)) (fun _ _ _ _ _ => (g_name (pg_name (i := 13) sc_p_law.nd rfl (Or.inl rfl)))) (by decide) (fun _ _ _ _ _ => ts_nil) (fun _ _ _ _ _ => (d_ix hK (d_call (kx := fun _ _ => False) hK G_form hr (by rfl) D_form.m D_form.F.kp D_form.b pass0 (a_cons (d_var (pv 1)) (a_cons (d_var (pv 3)) (a_cons (d_call (kx := fun _ _ => False) hK G_take hr (by rfl) D_take.m D_take.F.kp D_take.b pass0 (a_cons (d_var (pv 1)) (a_cons d_int a_nil st_Constant) st_Name)) a_nil st_Call) st_Name) st_Name)) d_int (fun _ _ => rfl)))) (sw_cell rfl))
      (s_cons (s_setLc (i := 11) (own := [("_law_row", 12)]) rfl sc_p_law.nd rfl rfl (sw_true rfl rfl rfl (by decide +kernel)) (i_any hK (d_var (pv 8))) (blkOk_by (own := [("_law_row", 12)]) (N := N_p_law) (sc := defScope s_p_law) (by decide +kernel)) (fun _ _ _ _ _ => (g_name (pg_name (i := 12) sc_p_law.nd rfl ((by first | exact Or.inr rfl | exact Or.inl rfl))))) (by decide) (fun _ _ _ _ _ => ts_nil) (fun _ _ _ _ _ => (d_ctK (k_tuple hK) (by rfl) Z.z_tuple (by decide +kernel) (a_cons (d_lc (own := [("_law_form_here", 14)]) rfl sc_p_law.nd (i_any hK (d_var (pv 10))) (blkOk_by (own := [("_law_form_here", 14)]) (N := N_p_law) (sc := (relab (lcScope (asgV (inB (bodyAt s_p_law 4) 5))) (defScope s_p_law))) (by decide +kernel)) (fun _ _ _ _ _ => (g_name (pg_name (i := 14) sc_p_law.nd rfl (Or.inl rfl)))) (by decide) (fun _ _ _ _ _ => ts_nil) (fun _ _ _ _ _ => (d_call (kx := fun _ _ => False) hK G_formed hr (by rfl) D_formed.m D_formed.F.kp D_formed.b pass0 (a_cons (d_var (pv 12)) (a_cons (d_var (pv 14)) a_nil st_Name) st_Name)))) a_nil st_ListComp))))
      (s_cons (s_frz (i := 10) (s_if (t_not (t_val (d_call (kx := fun _ _ => False) hK G_right hr (by rfl) D_right.m D_right.F.kp D_right.b pass0 (a_cons (d_tup (a_cons d_str (a_cons (d_var (pv 9)) (a_cons (d_var (pv 10)) a_nil st_Name) st_Name) st_Constant)) (a_cons (d_var (pv 5)) (a_cons (d_var (pv 6)) (a_cons (d_var (pv 11)) a_nil st_Name) st_Name) st_Name) st_Tuple)))) (s_one (s_ret d_bl)) s_nil))
      (s_cons (s_setLc (i := 11) (own := [("_law_row", 12)]) rfl sc_p_law.nd rfl rfl (sw_true rfl rfl rfl (by decide +kernel)) (i_any hK (d_var (pv 4))) (blkOk_by (own := [("_law_row", 12)]) (N := N_p_law) (sc := defScope s_p_law) (by decide +kernel)) (fun _ _ _ _ _ => (g_name (pg_name (i := 12) sc_p_law.nd rfl ((by first | exact Or.inr rfl | exact Or.inl rfl))))) (by decide) (fun _ _ _ _ _ => ts_nil) (fun _ _ _ _ _ => (d_ctK (k_tuple hK) (by rfl) Z.z_tuple (by decide +kernel) (a_cons (d_lc (own := [("_law_form_here", 14)]) rfl sc_p_law.nd (i_any hK (d_var (pv 10))) (blkOk_by (own := [("_law_form_here", 14)]) (N := N_p_law) (sc := (relab (lcScope (asgV (inB (bodyAt s_p_law 4) 5))) (defScope s_p_law))) (by decide +kernel)) (fun _ _ _ _ _ => (g_name (pg_name (i := 14) sc_p_law.nd rfl (Or.inl rfl)))) (by decide) (fun _ _ _ _ _ => ts_nil) (fun _ _ _ _ _ => (d_call (kx := fun _ _ => False) hK G_formed hr (by rfl) D_formed.m D_formed.F.kp D_formed.b pass0 (a_cons (d_var (pv 12)) (a_cons (d_var (pv 14)) a_nil st_Name) st_Name)))) a_nil st_ListComp))))
      (s_one (s_if (t_not (t_val (d_call (kx := fun _ _ => False) hK G_right hr (by rfl) D_right.m D_right.F.kp D_right.b pass0 (a_cons (d_tup (a_cons d_str (a_cons (d_tup (a_cons d_str (a_cons d_str a_nil st_Constant) st_Constant)) (a_cons (d_ctK (k_tuple hK) (by rfl) Z.z_tuple (by decide +kernel) (a_cons (d_var (pv 10)) a_nil st_Name)) a_nil st_Call) st_Tuple) st_Constant)) (a_cons (d_var (pv 5)) (a_cons (d_var (pv 6)) (a_cons (d_var (pv 11)) a_nil st_Name) st_Name) st_Name) st_Tuple)))) (s_one (s_ret d_bl)) s_nil)))))))))))
      (s_one (s_ret d_bl)))))), ?_⟩
  rw [show (Sl.no :: Sl.st :: List.replicate 13 Sl.no) = [.no, .st, .no, .no, .no, .no, .no, .no, .no, .no, .no, .no, .no, .no, .no] from rfl]
  walk_at "qd"
  refine ⟨rfl, by decide, fun ks rs0 b1 hks hrl hrs0 hb1 => ?_⟩
  obtain ⟨rs, rfl, hrk⟩ := rows_tab hrs0
  rw [List.length_map] at hrl
  walk_at "qd"
  refine ⟨by simp, by simp, .base .tab, ks, rs, _, rfl, .inr rfl, hks, hrk, hrl, trivial, (by decide), ?_⟩
  walk_at "qd"
  refine ⟨by walk_at "tk", fun r r0 r1 => ⟨by omega, by omega, for_upto (fun i A b => ∃ v2 v7 v8 v9 v10 v11 v12 v13 v14, A = [.no, .st, v2, .val (.lst (ks.map D.str)), .val (.lst (rs.map D.tup)), .val (.dl [(keyT, .lst (ks.map D.str))]), .val (.dl [(keyT, .lst (rs.map D.tup))]), v7, v8, v9, v10, v11, v12, v13, v14] ∧ b ≤ b1 + 1 + 30000 * i) ⟨_, _, _, _, _, _, _, _, _, rfl, by omega⟩ ?_ ?_⟩⟩
  · rintro i A b hi ⟨v2, v7, v8, v9, v10, v11, v12, v13, v14, rfl, hb⟩
    have hi5 : i ≤ 4 := by omega
    walk_at "qd"
    refine ⟨by walk_at "tk", fun h h0 h1 => ?_⟩
    obtain ⟨h, rfl⟩ : ∃ n : Nat, h = n := ⟨h.toNat, by omega⟩
    have hpw : 2 ^ h ≤ 2 ^ 4 := Nat.pow_le_pow_right (by decide) (by omega)
    refine ⟨ks, h, rfl, hks, by omega, by decide, by omega, fun t b2 ht hdp hb2 => ?_⟩
    walk_at "qd"
    have sl : ∀ {n : Nat}, n ≤ rs.length → n ≤ 10000 := fun z => by omega
    refine lc_flat (fun d => if t.ev (unR d) = true then [d] else []) (szl (by rw [List.length_map]; exact sl (Nat.le_refl _))) (fun d _ => by split <;> simp) (fun d acc Q hd ha hQ => ?_) ?_
    · obtain ⟨row, hr, rfl⟩ := List.mem_map.mp hd
      rw [show unR (D.tup row) = row from rfl] at hQ
      walk_at "qd"
      refine ⟨_, row, t, ks, rfl, .inr (.inr rfl), by omega, ht, hrk row hr, ?_⟩
      walk_at "qd"
      refine ite2 (fun z => ?_) fun z => ?_
      · rw [if_pos z] at hQ
        exact ⟨ha, hQ⟩
      · rw [if_neg z, List.append_nil] at hQ
        exact hQ
    rw [rows_flat]
    have okq : (Qb.whr .tab t).ok ks := ⟨trivial, ht, by omega⟩
    have eq1 : (Qb.whr .tab t).ev rs = rs.filter fun row => t.ev row := rfl
    rw [← eq1]
    walk_at "qd"
    refine ⟨.base (.whr .tab t), ks, rs, _, rfl, .inl rfl, hks, hrk, hrl, okq, (by show (1 : Nat) < 4; decide), ?_⟩
    walk_at "qd"
    refine ⟨rfl, by omega, fun mm b3 mm1 mm2 hb3 => ?_⟩
    walk_at "qd"
    refine ⟨by omega, by omega, ?_⟩
    refine lc_upto (fun i2 acc b' => b' ≤ b3 + 900 * i2 ∧ ∃ fs : List Fm, acc = fs.map Fm.d ∧ fs.length = i2 ∧ ∀ f ∈ fs, (∃ kd, f.ok ks kd) ∧ f.dp ≤ 3) ⟨by omega, [], rfl, rfl, fun f hf => by cases hf⟩ (fun i2 acc b' hi2 ⟨hb', fs, ha, hl, hs⟩ => ?_) fun acc b4 ⟨hb4, fs, ha, hl, hs⟩ => ?_
    · walk_at "qd"
      refine ⟨by walk_at "tk", fun x x0 x1 => ?_⟩
      obtain ⟨n, rfl⟩ : ∃ n : Nat, x = n := ⟨x.toNat, by omega⟩
      have hpn : 2 ^ n ≤ 2 ^ 3 := Nat.pow_le_pow_right (by decide) (by omega)
      refine ⟨_, ks, n, rfl, .inr (.inl rfl), hks, by omega, by decide, by omega, fun f kd b5 hf hkd hdp hb5 => ?_⟩
      walk_at "qd"
      refine ⟨_, rfl, szs (by rw [ha, List.length_map]; omega), by omega, fs ++ [f], by rw [ha, List.map_append]; rfl, by rw [List.length_append, hl]; rfl, fun g hg => ?_⟩
      rcases List.mem_append.mp hg with z | z
      · exact hs g z
      · rw [List.mem_singleton.mp z]
        exact ⟨⟨kd, hf⟩, by omega⟩
    subst ha
    have okf : FmsOk ks fs := ⟨by omega, hs⟩
    walk_at "qd"
    refine lc_map (fun d => .tup (fs.map (Fm.ev (unR d)))) (szl (by rw [List.length_map]; exact sl Qb.ev_le)) (fun d acc Q hd ha hQ => ?_) ?_
    · obtain ⟨row, hrow, rfl⟩ := List.mem_map.mp hd
      have hro : RowOk ks row := Qb.ev_ok hrk row hrow
      rw [show unR (D.tup row) = row from rfl] at hQ
      walk_at "qd"
      refine lc_ds (fun i acc2 b' => b' = b4 ∧ acc2 = (fs.take i).map (Fm.ev row)) ⟨rfl, rfl⟩ (fun i d acc2 b' hd ⟨hb', ha2⟩ => ?_) fun acc2 b' ⟨hb', ha2⟩ => ?_
      · rw [List.getElem?_map] at hd
        cases hft : fs[i]? with
        | none => rw [hft] at hd; cases hd
        | some f =>
          rw [hft] at hd
          cases hd
          obtain ⟨⟨kd2, hf1⟩, hf2⟩ := hs f (List.mem_of_getElem? hft)
          have hif := (List.getElem?_eq_some_iff.mp hft).1
          walk_at "qd"
          refine ⟨_, row, f, ks, kd2, rfl, .inr (.inr rfl), by omega, hf1, hro, by decide, ?_⟩
          walk_at "qd"
          refine ⟨szs (by rw [ha2, List.length_map, List.length_take]; omega), hb', ?_⟩
          rw [ha2, List.take_add_one, hft, List.map_append]
          rfl
      · rw [List.length_map, List.take_length] at ha2
        subst ha2
        walk_at "qd"
        exact ⟨ha, hb' ▸ hQ⟩
    rw [due_map]
    walk_at "qd"
    refine ⟨.told (.whr .tab t) true fs, ks, rs, _, rfl, .inl rfl, hks, hrk, hrl, ⟨okq, okf⟩, (by show (2 : Nat) < 4; decide), ?_⟩
    walk_at "qd"
    refine lc_map (fun d => .tup (fs.map (Fm.ev (unR d)))) (szl (by rw [List.length_map]; exact sl (Nat.le_refl _))) (fun d acc Q hd ha hQ => ?_) ?_
    · obtain ⟨row, hrow, rfl⟩ := List.mem_map.mp hd
      have hro : RowOk ks row := hrk row hrow
      rw [show unR (D.tup row) = row from rfl] at hQ
      walk_at "qd"
      refine lc_ds (fun i acc2 b' => b' = b4 ∧ acc2 = (fs.take i).map (Fm.ev row)) ⟨rfl, rfl⟩ (fun i d acc2 b' hd ⟨hb', ha2⟩ => ?_) fun acc2 b' ⟨hb', ha2⟩ => ?_
      · rw [List.getElem?_map] at hd
        cases hft : fs[i]? with
        | none => rw [hft] at hd; cases hd
        | some f =>
          rw [hft] at hd
          cases hd
          obtain ⟨⟨kd2, hf1⟩, hf2⟩ := hs f (List.mem_of_getElem? hft)
          have hif := (List.getElem?_eq_some_iff.mp hft).1
          walk_at "qd"
          refine ⟨_, row, f, ks, kd2, rfl, .inr (.inr rfl), by omega, hf1, hro, by decide, ?_⟩
          walk_at "qd"
          refine ⟨szs (by rw [ha2, List.length_map, List.length_take]; omega), hb', ?_⟩
          rw [ha2, List.take_add_one, hft, List.map_append]
          rfl
      · rw [List.length_map, List.take_length] at ha2
        subst ha2
        walk_at "qd"
        exact ⟨ha, hb' ▸ hQ⟩
    rw [due_map]
    walk_at "qd"
    refine ⟨.told .tab false fs, ks, rs, _, rfl, .inl rfl, hks, hrk, hrl, ⟨trivial, okf⟩, (by show (1 : Nat) < 4; decide), ?_⟩
    walk_at "qd"
    omega
  · rintro A b ⟨v2, v7, v8, v9, v10, v11, v12, v13, v14, rfl, hb⟩
    walk_at "qd"
end
theorem all_mk {l : PySem.W.OpenLaw} {w : World} {K : PySem.W.Frag} {h : Heap} {mg : Str → Option Value} {fa : Addr} (X : K.In h) (G : h.Ns mainGlobals mg) (hfa : mg "law" = some (.ref fa)) {f_take : Addr} {oc_take kV_take dc_take pm_take cd_take ct_take : Value} {od_take an_take : Option Addr} {sl_take : Array (Option Value)} {f_same : Addr} {oc_same kV_same dc_same pm_same cd_same ct_same : Value} {od_same an_same : Option Addr} {sl_same : Array (Option Value)} {f_begin : Addr} {oc_begin kV_begin dc_begin pm_begin cd_begin ct_begin : Value} {od_begin an_begin : Option Addr} {sl_begin : Array (Option Value)} {f_number : Addr} {oc_number kV_number dc_number pm_number cd_number ct_number : Value} {od_number an_number : Option Addr} {sl_number : Array (Option Value)} {f_text : Addr} {oc_text kV_text dc_text pm_text cd_text ct_text : Value} {od_text an_text : Option Addr} {sl_text : Array (Option Value)} {f_p_stands_so : Addr} {oc_p_stands_so kV_p_stands_so dc_p_stands_so pm_p_stands_so cd_p_stands_so ct_p_stands_so : Value} {od_p_stands_so an_p_stands_so : Option Addr} {sl_p_stands_so : Array (Option Value)} {f_p_meets : Addr} {oc_p_meets kV_p_meets dc_p_meets pm_p_meets cd_p_meets ct_p_meets : Value} {od_p_meets an_p_meets : Option Addr} {sl_p_meets : Array (Option Value)} {f_p_cells_stand_so : Addr} {oc_p_cells_stand_so kV_p_cells_stand_so dc_p_cells_stand_so pm_p_cells_stand_so cd_p_cells_stand_so ct_p_cells_stand_so : Value} {od_p_cells_stand_so an_p_cells_stand_so : Option Addr} {sl_p_cells_stand_so : Array (Option Value)} {f_p_row_meets : Addr} {oc_p_row_meets kV_p_row_meets dc_p_row_meets pm_p_row_meets cd_p_row_meets ct_p_row_meets : Value} {od_p_row_meets an_p_row_meets : Option Addr} {sl_p_row_meets : Array (Option Value)} {f_p_sum_cell : Addr} {oc_p_sum_cell kV_p_sum_cell dc_p_sum_cell pm_p_sum_cell cd_p_sum_cell ct_p_sum_cell : Value} {od_p_sum_cell an_p_sum_cell : Option Addr} {sl_p_sum_cell : Array (Option Value)} {f_p_form_cell : Addr} {oc_p_form_cell kV_p_form_cell dc_p_form_cell pm_p_form_cell cd_p_form_cell ct_p_form_cell : Value} {od_p_form_cell an_p_form_cell : Option Addr} {sl_p_form_cell : Array (Option Value)} {f_p_rows_of : Addr} {oc_p_rows_of kV_p_rows_of dc_p_rows_of pm_p_rows_of cd_p_rows_of ct_p_rows_of : Value} {od_p_rows_of an_p_rows_of : Option Addr} {sl_p_rows_of : Array (Option Value)} {f_value : Addr} {oc_value kV_value dc_value pm_value cd_value ct_value : Value} {od_value an_value : Option Addr} {sl_value : Array (Option Value)} {f_cells : Addr} {oc_cells kV_cells dc_cells pm_cells cd_cells ct_cells : Value} {od_cells an_cells : Option Addr} {sl_cells : Array (Option Value)} {f_kinds : Addr} {oc_kinds kV_kinds dc_kinds pm_kinds cd_kinds ct_kinds : Value} {od_kinds an_kinds : Option Addr} {sl_kinds : Array (Option Value)} {f_rows : Addr} {oc_rows kV_rows dc_rows pm_rows cd_rows ct_rows : Value} {od_rows an_rows : Option Addr} {sl_rows : Array (Option Value)} {f_small_rows : Addr} {oc_small_rows kV_small_rows dc_small_rows pm_small_rows cd_small_rows ct_small_rows : Value} {od_small_rows an_small_rows : Option Addr} {sl_small_rows : Array (Option Value)} {f_table : Addr} {oc_table kV_table dc_table pm_table cd_table ct_table : Value} {od_table an_table : Option Addr} {sl_table : Array (Option Value)} {f_test : Addr} {oc_test kV_test dc_test pm_test cd_test ct_test : Value} {od_test an_test : Option Addr} {sl_test : Array (Option Value)} {f_compared : Addr} {oc_compared kV_compared dc_compared pm_compared cd_compared ct_compared : Value} {od_compared an_compared : Option Addr} {sl_compared : Array (Option Value)} {f_met : Addr} {oc_met kV_met dc_met pm_met cd_met ct_met : Value} {od_met an_met : Option Addr} {sl_met : Array (Option Value)} {f_form_of : Addr} {oc_form_of kV_form_of dc_form_of pm_form_of cd_form_of ct_form_of : Value} {od_form_of an_form_of : Option Addr} {sl_form_of : Array (Option Value)} {f_form : Addr} {oc_form kV_form dc_form pm_form cd_form ct_form : Value} {od_form an_form : Option Addr} {sl_form : Array (Option Value)} {f_formed : Addr} {oc_formed kV_formed dc_formed pm_formed cd_formed ct_formed : Value} {od_formed an_formed : Option Addr} {sl_formed : Array (Option Value)} {f_many : Addr} {oc_many kV_many dc_many pm_many cd_many ct_many : Value} {od_many an_many : Option Addr} {sl_many : Array (Option Value)} {f_right : Addr} {oc_right kV_right dc_right pm_right cd_right ct_right : Value} {od_right an_right : Option Addr} {sl_right : Array (Option Value)} {f_p_law : Addr} {oc_p_law kV_p_law dc_p_law pm_p_law cd_p_law ct_p_law : Value} {od_p_law an_p_law : Option Addr} {sl_p_law : Array (Option Value)}
    (a_take : PySem.W.nsIn K mainGlobals "_law_take" = some (some (.ref f_take))) (l_take : K.lookup f_take = some ⟨oc_take, od_take, .func (PySem.W.fnOf "_law_take" "_law_take" (defArgs s_take) (defBody s_take) (defScope s_take) .none kV_take dc_take pm_take an_take cd_take ct_take), sl_take⟩) (c_take : PySem.W.codeIn K cd_take "_law_take" = true) (k_take : PySem.W.keepIn K (.ref f_take) = true)
    (a_same : PySem.W.nsIn K mainGlobals "_law_same" = some (some (.ref f_same))) (l_same : K.lookup f_same = some ⟨oc_same, od_same, .func (PySem.W.fnOf "_law_same" "_law_same" (defArgs s_same) (defBody s_same) (defScope s_same) .none kV_same dc_same pm_same an_same cd_same ct_same), sl_same⟩) (c_same : PySem.W.codeIn K cd_same "_law_same" = true) (k_same : PySem.W.keepIn K (.ref f_same) = true)
    (a_begin : PySem.W.nsIn K mainGlobals "_law_begin" = some (some (.ref f_begin))) (l_begin : K.lookup f_begin = some ⟨oc_begin, od_begin, .func (PySem.W.fnOf "_law_begin" "_law_begin" (defArgs s_begin) (defBody s_begin) (defScope s_begin) .none kV_begin dc_begin pm_begin an_begin cd_begin ct_begin), sl_begin⟩) (c_begin : PySem.W.codeIn K cd_begin "_law_begin" = true) (k_begin : PySem.W.keepIn K (.ref f_begin) = true)
    (a_number : PySem.W.nsIn K mainGlobals "_law_number" = some (some (.ref f_number))) (l_number : K.lookup f_number = some ⟨oc_number, od_number, .func (PySem.W.fnOf "_law_number" "_law_number" (defArgs s_number) (defBody s_number) (defScope s_number) .none kV_number dc_number pm_number an_number cd_number ct_number), sl_number⟩) (c_number : PySem.W.codeIn K cd_number "_law_number" = true) (k_number : PySem.W.keepIn K (.ref f_number) = true)
    (a_text : PySem.W.nsIn K mainGlobals "_law_text" = some (some (.ref f_text))) (l_text : K.lookup f_text = some ⟨oc_text, od_text, .func (PySem.W.fnOf "_law_text" "_law_text" (defArgs s_text) (defBody s_text) (defScope s_text) .none kV_text dc_text pm_text an_text cd_text ct_text), sl_text⟩) (c_text : PySem.W.codeIn K cd_text "_law_text" = true) (k_text : PySem.W.keepIn K (.ref f_text) = true)
    (a_p_stands_so : PySem.W.nsIn K mainGlobals "stands_so" = some (some (.ref f_p_stands_so))) (l_p_stands_so : K.lookup f_p_stands_so = some ⟨oc_p_stands_so, od_p_stands_so, .func (PySem.W.fnOf "stands_so" "stands_so" (defArgs s_p_stands_so) (defBody s_p_stands_so) (defScope s_p_stands_so) .none kV_p_stands_so dc_p_stands_so pm_p_stands_so an_p_stands_so cd_p_stands_so ct_p_stands_so), sl_p_stands_so⟩) (c_p_stands_so : PySem.W.codeIn K cd_p_stands_so "stands_so" = true) (k_p_stands_so : PySem.W.keepIn K (.ref f_p_stands_so) = true)
    (a_p_meets : PySem.W.nsIn K mainGlobals "meets" = some (some (.ref f_p_meets))) (l_p_meets : K.lookup f_p_meets = some ⟨oc_p_meets, od_p_meets, .func (PySem.W.fnOf "meets" "meets" (defArgs s_p_meets) (defBody s_p_meets) (defScope s_p_meets) .none kV_p_meets dc_p_meets pm_p_meets an_p_meets cd_p_meets ct_p_meets), sl_p_meets⟩) (c_p_meets : PySem.W.codeIn K cd_p_meets "meets" = true) (k_p_meets : PySem.W.keepIn K (.ref f_p_meets) = true)
    (a_p_cells_stand_so : PySem.W.nsIn K mainGlobals "cells_stand_so" = some (some (.ref f_p_cells_stand_so))) (l_p_cells_stand_so : K.lookup f_p_cells_stand_so = some ⟨oc_p_cells_stand_so, od_p_cells_stand_so, .func (PySem.W.fnOf "cells_stand_so" "cells_stand_so" (defArgs s_p_cells_stand_so) (defBody s_p_cells_stand_so) (defScope s_p_cells_stand_so) .none kV_p_cells_stand_so dc_p_cells_stand_so pm_p_cells_stand_so an_p_cells_stand_so cd_p_cells_stand_so ct_p_cells_stand_so), sl_p_cells_stand_so⟩) (c_p_cells_stand_so : PySem.W.codeIn K cd_p_cells_stand_so "cells_stand_so" = true) (k_p_cells_stand_so : PySem.W.keepIn K (.ref f_p_cells_stand_so) = true)
    (a_p_row_meets : PySem.W.nsIn K mainGlobals "row_meets" = some (some (.ref f_p_row_meets))) (l_p_row_meets : K.lookup f_p_row_meets = some ⟨oc_p_row_meets, od_p_row_meets, .func (PySem.W.fnOf "row_meets" "row_meets" (defArgs s_p_row_meets) (defBody s_p_row_meets) (defScope s_p_row_meets) .none kV_p_row_meets dc_p_row_meets pm_p_row_meets an_p_row_meets cd_p_row_meets ct_p_row_meets), sl_p_row_meets⟩) (c_p_row_meets : PySem.W.codeIn K cd_p_row_meets "row_meets" = true) (k_p_row_meets : PySem.W.keepIn K (.ref f_p_row_meets) = true)
    (a_p_sum_cell : PySem.W.nsIn K mainGlobals "sum_cell" = some (some (.ref f_p_sum_cell))) (l_p_sum_cell : K.lookup f_p_sum_cell = some ⟨oc_p_sum_cell, od_p_sum_cell, .func (PySem.W.fnOf "sum_cell" "sum_cell" (defArgs s_p_sum_cell) (defBody s_p_sum_cell) (defScope s_p_sum_cell) .none kV_p_sum_cell dc_p_sum_cell pm_p_sum_cell an_p_sum_cell cd_p_sum_cell ct_p_sum_cell), sl_p_sum_cell⟩) (c_p_sum_cell : PySem.W.codeIn K cd_p_sum_cell "sum_cell" = true) (k_p_sum_cell : PySem.W.keepIn K (.ref f_p_sum_cell) = true)
    (a_p_form_cell : PySem.W.nsIn K mainGlobals "form_cell" = some (some (.ref f_p_form_cell))) (l_p_form_cell : K.lookup f_p_form_cell = some ⟨oc_p_form_cell, od_p_form_cell, .func (PySem.W.fnOf "form_cell" "form_cell" (defArgs s_p_form_cell) (defBody s_p_form_cell) (defScope s_p_form_cell) .none kV_p_form_cell dc_p_form_cell pm_p_form_cell an_p_form_cell cd_p_form_cell ct_p_form_cell), sl_p_form_cell⟩) (c_p_form_cell : PySem.W.codeIn K cd_p_form_cell "form_cell" = true) (k_p_form_cell : PySem.W.keepIn K (.ref f_p_form_cell) = true)
    (a_p_rows_of : PySem.W.nsIn K mainGlobals "rows_of" = some (some (.ref f_p_rows_of))) (l_p_rows_of : K.lookup f_p_rows_of = some ⟨oc_p_rows_of, od_p_rows_of, .func (PySem.W.fnOf "rows_of" "rows_of" (defArgs s_p_rows_of) (defBody s_p_rows_of) (defScope s_p_rows_of) .none kV_p_rows_of dc_p_rows_of pm_p_rows_of an_p_rows_of cd_p_rows_of ct_p_rows_of), sl_p_rows_of⟩) (c_p_rows_of : PySem.W.codeIn K cd_p_rows_of "rows_of" = true) (k_p_rows_of : PySem.W.keepIn K (.ref f_p_rows_of) = true)
    (a_value : PySem.W.nsIn K mainGlobals "_law_value" = some (some (.ref f_value))) (l_value : K.lookup f_value = some ⟨oc_value, od_value, .func (PySem.W.fnOf "_law_value" "_law_value" (defArgs s_value) (defBody s_value) (defScope s_value) .none kV_value dc_value pm_value an_value cd_value ct_value), sl_value⟩) (c_value : PySem.W.codeIn K cd_value "_law_value" = true) (k_value : PySem.W.keepIn K (.ref f_value) = true)
    (a_cells : PySem.W.nsIn K mainGlobals "_law_cells" = some (some (.ref f_cells))) (l_cells : K.lookup f_cells = some ⟨oc_cells, od_cells, .func (PySem.W.fnOf "_law_cells" "_law_cells" (defArgs s_cells) (defBody s_cells) (defScope s_cells) .none kV_cells dc_cells pm_cells an_cells cd_cells ct_cells), sl_cells⟩) (c_cells : PySem.W.codeIn K cd_cells "_law_cells" = true) (k_cells : PySem.W.keepIn K (.ref f_cells) = true)
    (a_kinds : PySem.W.nsIn K mainGlobals "_law_kinds" = some (some (.ref f_kinds))) (l_kinds : K.lookup f_kinds = some ⟨oc_kinds, od_kinds, .func (PySem.W.fnOf "_law_kinds" "_law_kinds" (defArgs s_kinds) (defBody s_kinds) (defScope s_kinds) .none kV_kinds dc_kinds pm_kinds an_kinds cd_kinds ct_kinds), sl_kinds⟩) (c_kinds : PySem.W.codeIn K cd_kinds "_law_kinds" = true) (k_kinds : PySem.W.keepIn K (.ref f_kinds) = true)
    (a_rows : PySem.W.nsIn K mainGlobals "_law_rows" = some (some (.ref f_rows))) (l_rows : K.lookup f_rows = some ⟨oc_rows, od_rows, .func (PySem.W.fnOf "_law_rows" "_law_rows" (defArgs s_rows) (defBody s_rows) (defScope s_rows) .none kV_rows dc_rows pm_rows an_rows cd_rows ct_rows), sl_rows⟩) (c_rows : PySem.W.codeIn K cd_rows "_law_rows" = true) (k_rows : PySem.W.keepIn K (.ref f_rows) = true)
    (a_small_rows : PySem.W.nsIn K mainGlobals "_law_small_rows" = some (some (.ref f_small_rows))) (l_small_rows : K.lookup f_small_rows = some ⟨oc_small_rows, od_small_rows, .func (PySem.W.fnOf "_law_small_rows" "_law_small_rows" (defArgs s_small_rows) (defBody s_small_rows) (defScope s_small_rows) .none kV_small_rows dc_small_rows pm_small_rows an_small_rows cd_small_rows ct_small_rows), sl_small_rows⟩) (c_small_rows : PySem.W.codeIn K cd_small_rows "_law_small_rows" = true) (k_small_rows : PySem.W.keepIn K (.ref f_small_rows) = true)
    (a_table : PySem.W.nsIn K mainGlobals "_law_table" = some (some (.ref f_table))) (l_table : K.lookup f_table = some ⟨oc_table, od_table, .func (PySem.W.fnOf "_law_table" "_law_table" (defArgs s_table) (defBody s_table) (defScope s_table) .none kV_table dc_table pm_table an_table cd_table ct_table), sl_table⟩) (c_table : PySem.W.codeIn K cd_table "_law_table" = true) (k_table : PySem.W.keepIn K (.ref f_table) = true)
    (a_test : PySem.W.nsIn K mainGlobals "_law_test" = some (some (.ref f_test))) (l_test : K.lookup f_test = some ⟨oc_test, od_test, .func (PySem.W.fnOf "_law_test" "_law_test" (defArgs s_test) (defBody s_test) (defScope s_test) .none kV_test dc_test pm_test an_test cd_test ct_test), sl_test⟩) (c_test : PySem.W.codeIn K cd_test "_law_test" = true) (k_test : PySem.W.keepIn K (.ref f_test) = true)
    (a_compared : PySem.W.nsIn K mainGlobals "_law_compared" = some (some (.ref f_compared))) (l_compared : K.lookup f_compared = some ⟨oc_compared, od_compared, .func (PySem.W.fnOf "_law_compared" "_law_compared" (defArgs s_compared) (defBody s_compared) (defScope s_compared) .none kV_compared dc_compared pm_compared an_compared cd_compared ct_compared), sl_compared⟩) (c_compared : PySem.W.codeIn K cd_compared "_law_compared" = true) (k_compared : PySem.W.keepIn K (.ref f_compared) = true)
    (a_met : PySem.W.nsIn K mainGlobals "_law_met" = some (some (.ref f_met))) (l_met : K.lookup f_met = some ⟨oc_met, od_met, .func (PySem.W.fnOf "_law_met" "_law_met" (defArgs s_met) (defBody s_met) (defScope s_met) .none kV_met dc_met pm_met an_met cd_met ct_met), sl_met⟩) (c_met : PySem.W.codeIn K cd_met "_law_met" = true) (k_met : PySem.W.keepIn K (.ref f_met) = true)
    (a_form_of : PySem.W.nsIn K mainGlobals "_law_form_of" = some (some (.ref f_form_of))) (l_form_of : K.lookup f_form_of = some ⟨oc_form_of, od_form_of, .func (PySem.W.fnOf "_law_form_of" "_law_form_of" (defArgs s_form_of) (defBody s_form_of) (defScope s_form_of) .none kV_form_of dc_form_of pm_form_of an_form_of cd_form_of ct_form_of), sl_form_of⟩) (c_form_of : PySem.W.codeIn K cd_form_of "_law_form_of" = true) (k_form_of : PySem.W.keepIn K (.ref f_form_of) = true)
    (a_form : PySem.W.nsIn K mainGlobals "_law_form" = some (some (.ref f_form))) (l_form : K.lookup f_form = some ⟨oc_form, od_form, .func (PySem.W.fnOf "_law_form" "_law_form" (defArgs s_form) (defBody s_form) (defScope s_form) .none kV_form dc_form pm_form an_form cd_form ct_form), sl_form⟩) (c_form : PySem.W.codeIn K cd_form "_law_form" = true) (k_form : PySem.W.keepIn K (.ref f_form) = true)
    (a_formed : PySem.W.nsIn K mainGlobals "_law_formed" = some (some (.ref f_formed))) (l_formed : K.lookup f_formed = some ⟨oc_formed, od_formed, .func (PySem.W.fnOf "_law_formed" "_law_formed" (defArgs s_formed) (defBody s_formed) (defScope s_formed) .none kV_formed dc_formed pm_formed an_formed cd_formed ct_formed), sl_formed⟩) (c_formed : PySem.W.codeIn K cd_formed "_law_formed" = true) (k_formed : PySem.W.keepIn K (.ref f_formed) = true)
    (a_many : PySem.W.nsIn K mainGlobals "_law_many" = some (some (.ref f_many))) (l_many : K.lookup f_many = some ⟨oc_many, od_many, .func (PySem.W.fnOf "_law_many" "_law_many" (defArgs s_many) (defBody s_many) (defScope s_many) .none kV_many dc_many pm_many an_many cd_many ct_many), sl_many⟩) (c_many : PySem.W.codeIn K cd_many "_law_many" = true) (k_many : PySem.W.keepIn K (.ref f_many) = true)
    (a_right : PySem.W.nsIn K mainGlobals "_law_right" = some (some (.ref f_right))) (l_right : K.lookup f_right = some ⟨oc_right, od_right, .func (PySem.W.fnOf "_law_right" "_law_right" (defArgs s_right) (defBody s_right) (defScope s_right) .none kV_right dc_right pm_right an_right cd_right ct_right), sl_right⟩) (c_right : PySem.W.codeIn K cd_right "_law_right" = true) (k_right : PySem.W.keepIn K (.ref f_right) = true)
    (a_p_law : PySem.W.nsIn K mainGlobals "law" = some (some (.ref f_p_law))) (l_p_law : K.lookup f_p_law = some ⟨oc_p_law, od_p_law, .func (PySem.W.fnOf "law" "law" (defArgs s_p_law) (defBody s_p_law) (defScope s_p_law) .none kV_p_law dc_p_law pm_p_law an_p_law cd_p_law ct_p_law), sl_p_law⟩) (c_p_law : PySem.W.codeIn K cd_p_law "law" = true) (k_p_law : PySem.W.keepIn K (.ref f_p_law) = true)
    (z_divmod : PySem.W.nsIn K mainGlobals "divmod" = some none)
    (z_len : PySem.W.nsIn K mainGlobals "len" = some none)
    (z_isinstance : PySem.W.nsIn K mainGlobals "isinstance" = some none)
    (z_bool : PySem.W.nsIn K mainGlobals "bool" = some none)
    (z_int : PySem.W.nsIn K mainGlobals "int" = some none)
    (z_str : PySem.W.nsIn K mainGlobals "str" = some none)
    (z_tuple : PySem.W.nsIn K mainGlobals "tuple" = some none)
    (z_list : PySem.W.nsIn K mainGlobals "list" = some none)
    (z_all : PySem.W.nsIn K mainGlobals "all" = some none)
    (z_zip : PySem.W.nsIn K mainGlobals "zip" = some none)
    (z_dict : PySem.W.nsIn K mainGlobals "dict" = some none)
    (z_range : PySem.W.nsIn K mainGlobals "range" = some none)
    (z_any : PySem.W.nsIn K mainGlobals "any" = some none)
    (z_max : PySem.W.nsIn K mainGlobals "max" = some none) :
    ∃ fd : FuncData, (∀ (s : Shared) (v : Value), BindsTo s fd ⟨[v], []⟩ [("_law_script", v)]) ∧ ∀ base : Heap, K.In base → base.Ns mainGlobals mg → FnOk l.prog w K mg base CX0 25 fa fd ["_law_script"] (Dd.spLawD K) := by
  have e := hfa.symm.trans (PySem.W.mg_of X G a_p_law)
  cases e
  have Z : Zs mg := ⟨PySem.W.mg_none_of X G z_divmod, PySem.W.mg_none_of X G z_len, PySem.W.mg_none_of X G z_isinstance, PySem.W.mg_none_of X G z_bool, PySem.W.mg_none_of X G z_int, PySem.W.mg_none_of X G z_str, PySem.W.mg_none_of X G z_tuple, PySem.W.mg_none_of X G z_list, PySem.W.mg_none_of X G z_all, PySem.W.mg_none_of X G z_zip, PySem.W.mg_none_of X G z_dict, PySem.W.mg_none_of X G z_range, PySem.W.mg_none_of X G z_any, PySem.W.mg_none_of X G z_max⟩
  have D_take := df_mk (st := s_take) (ps := ["_law_state", "_law_many_here"]) X G a_take l_take c_take k_take fun _ _ _ _ _ _ us hl => match us, hl with | [_, _], _ => rfl
  have D_same := df_mk (st := s_same) (ps := ["_law_found", "_law_due"]) X G a_same l_same c_same k_same fun _ _ _ _ _ _ us hl => match us, hl with | [_, _], _ => rfl
  have D_begin := df_mk (st := s_begin) (ps := ["_law_script"]) X G a_begin l_begin c_begin k_begin fun _ _ _ _ _ _ us hl => match us, hl with | [_], _ => rfl
  have D_number := df_mk (st := s_number) (ps := ["_law_state"]) X G a_number l_number c_number k_number fun _ _ _ _ _ _ us hl => match us, hl with | [_], _ => rfl
  have D_text := df_mk (st := s_text) (ps := ["_law_state"]) X G a_text l_text c_text k_text fun _ _ _ _ _ _ us hl => match us, hl with | [_], _ => rfl
  have D_p_stands_so := df_mk (st := s_p_stands_so) (ps := ["cell", "sign", "value"]) X G a_p_stands_so l_p_stands_so c_p_stands_so k_p_stands_so fun _ _ _ _ _ _ us hl => match us, hl with | [_, _, _], _ => rfl
  have D_p_meets := df_mk (st := s_p_meets) (ps := ["cell", "test"]) X G a_p_meets l_p_meets c_p_meets k_p_meets fun _ _ _ _ _ _ us hl => match us, hl with | [_, _], _ => rfl
  have D_p_cells_stand_so := df_mk (st := s_p_cells_stand_so) (ps := ["cell", "sign", "other"]) X G a_p_cells_stand_so l_p_cells_stand_so c_p_cells_stand_so k_p_cells_stand_so fun _ _ _ _ _ _ us hl => match us, hl with | [_, _, _], _ => rfl
  have D_p_row_meets := df_mk (st := s_p_row_meets) (ps := ["row", "test"]) X G a_p_row_meets l_p_row_meets c_p_row_meets k_p_row_meets fun _ _ _ _ _ _ us hl => match us, hl with | [_, _], _ => rfl
  have D_p_sum_cell := df_mk (st := s_p_sum_cell) (ps := ["sign", "one", "other"]) X G a_p_sum_cell l_p_sum_cell c_p_sum_cell k_p_sum_cell fun _ _ _ _ _ _ us hl => match us, hl with | [_, _, _], _ => rfl
  have D_p_form_cell := df_mk (st := s_p_form_cell) (ps := ["row", "form"]) X G a_p_form_cell l_p_form_cell c_p_form_cell k_p_form_cell fun _ _ _ _ _ _ us hl => match us, hl with | [_, _], _ => rfl
  have D_p_rows_of := df_mk (st := s_p_rows_of) (ps := ["question", "kinds", "rows"]) X G a_p_rows_of l_p_rows_of c_p_rows_of k_p_rows_of fun _ _ _ _ _ _ us hl => match us, hl with | [_, _, _], _ => rfl
  have D_value := df_mk (st := s_value) (ps := ["_law_state", "_law_kind"]) X G a_value l_value c_value k_value fun _ _ _ _ _ _ us hl => match us, hl with | [_, _], _ => rfl
  have D_cells := df_mk (st := s_cells) (ps := ["_law_state", "_law_kind", "_law_many_here"]) X G a_cells l_cells c_cells k_cells fun _ _ _ _ _ _ us hl => match us, hl with | [_, _, _], _ => rfl
  have D_kinds := df_mk (st := s_kinds) (ps := ["_law_state"]) X G a_kinds l_kinds c_kinds k_kinds fun _ _ _ _ _ _ us hl => match us, hl with | [_], _ => rfl
  have D_rows := df_mk (st := s_rows) (ps := ["_law_state", "_law_kinds_here", "_law_many_here"]) X G a_rows l_rows c_rows k_rows fun _ _ _ _ _ _ us hl => match us, hl with | [_, _, _], _ => rfl
  have D_small_rows := df_mk (st := s_small_rows) (ps := ["_law_state", "_law_kinds_here", "_law_many_here"]) X G a_small_rows l_small_rows c_small_rows k_small_rows fun _ _ _ _ _ _ us hl => match us, hl with | [_, _, _], _ => rfl
  have D_table := df_mk (st := s_table) (ps := ["_law_state"]) X G a_table l_table c_table k_table fun _ _ _ _ _ _ us hl => match us, hl with | [_], _ => rfl
  have D_test := df_mk (st := s_test) (ps := ["_law_state", "_law_own", "_law_deep"]) X G a_test l_test c_test k_test fun _ _ _ _ _ _ us hl => match us, hl with | [_, _, _], _ => rfl
  have D_compared := df_mk (st := s_compared) (ps := ["_law_sign", "_law_one", "_law_other"]) X G a_compared l_compared c_compared k_compared fun _ _ _ _ _ _ us hl => match us, hl with | [_, _, _], _ => rfl
  have D_met := df_mk (st := s_met) (ps := ["_law_row", "_law_test_here"]) X G a_met l_met c_met k_met fun _ _ _ _ _ _ us hl => match us, hl with | [_, _], _ => rfl
  have D_form_of := df_mk (st := s_form_of) (ps := ["_law_state", "_law_own", "_law_deep", "_law_kind"]) X G a_form_of l_form_of c_form_of k_form_of fun _ _ _ _ _ _ us hl => match us, hl with | [_, _, _, _], _ => rfl
  have D_form := df_mk (st := s_form) (ps := ["_law_state", "_law_own", "_law_deep"]) X G a_form l_form c_form k_form fun _ _ _ _ _ _ us hl => match us, hl with | [_, _, _], _ => rfl
  have D_formed := df_mk (st := s_formed) (ps := ["_law_row", "_law_form_here"]) X G a_formed l_formed c_formed k_formed fun _ _ _ _ _ _ us hl => match us, hl with | [_, _], _ => rfl
  have D_many := df_mk (st := s_many) (ps := ["_law_state"]) X G a_many l_many c_many k_many fun _ _ _ _ _ _ us hl => match us, hl with | [_], _ => rfl
  have D_right := df_mk (st := s_right) (ps := ["_law_question", "_law_kinds_here", "_law_rows_here", "_law_due"]) X G a_right l_right c_right k_right fun _ _ _ _ _ _ us hl => match us, hl with | [_, _, _, _], _ => rfl
  have D_p_law := df_mk (st := s_p_law) (ps := ["_law_script"]) X G a_p_law l_p_law c_p_law k_p_law fun _ _ _ _ _ _ us hl => match us, hl with | [_], _ => rfl
  refine ⟨PySem.W.fnOf "law" "law" (defArgs s_p_law) (defBody s_p_law) (defScope s_p_law) .none kV_p_law dc_p_law pm_p_law an_p_law cd_p_law ct_p_law, fun s v => .of_eq rfl, fun base _ _ => ?_⟩
  have B_begin := ok_begin (P := l.prog) (w := w) (base := base) (j := 0) D_begin.F Z 
  have G_begin := B_begin
  have B_take := ok_take (P := l.prog) (w := w) (base := base) (j := 0) D_take.F Z 
  have G_take := L2.FnOk.imp (sp' := spD K dsTake) B_take (fun _ _ _ _ h => br_take h)
  have B_same := ok_same (P := l.prog) (w := w) (base := base) D_same Z 4
  have G_same := L2.FnOk.imp (sp' := spD K (dsSame 4)) B_same (fun _ _ _ _ h => br_same h)
  have G_p_sum_cell := okd_p_sum_cell (P := l.prog) (w := w) (base := base) (j := 0) D_p_sum_cell.F Z 
  have G_p_form_cell := okd_p_form_cell (P := l.prog) (w := w) (base := base) (j := 1) D_p_form_cell Z D_p_sum_cell (G_p_sum_cell.mono (by decide)) 11
  have G_p_stands_so := okd_p_stands_so (P := l.prog) (w := w) (base := base) (j := 0) D_p_stands_so.F Z 
  have G_p_meets := okd_p_meets (P := l.prog) (w := w) (base := base) (j := 1) D_p_meets.F Z D_p_stands_so (G_p_stands_so.mono (by decide))
  have G_p_cells_stand_so := okd_p_cells_stand_so (P := l.prog) (w := w) (base := base) (j := 2) D_p_cells_stand_so.F Z D_p_meets (G_p_meets.mono (by decide))
  have G_p_row_meets := okd_p_row_meets (P := l.prog) (w := w) (base := base) (j := 3) D_p_row_meets Z D_p_cells_stand_so (G_p_cells_stand_so.mono (by decide)) D_p_meets (G_p_meets.mono (by decide)) 13
  have G_p_rows_of := okd_p_rows_of (P := l.prog) (w := w) (base := base) (j := 17) D_p_rows_of Z D_p_form_cell (G_p_form_cell.mono (by decide)) D_p_row_meets (G_p_row_meets.mono (by decide)) 4
  have G_right := okd_right (P := l.prog) (w := w) (base := base) (j := 22) D_right.F Z D_same (G_same.mono (by decide)) D_p_rows_of (G_p_rows_of.mono (by decide))
  have G_formed := okd_formed (P := l.prog) (w := w) (base := base) (j := 0) D_formed Z 11
  have G_many := okd_many (P := l.prog) (w := w) (base := base) (j := 1) D_many.F Z D_take (G_take.mono (by decide))
  have B_text := ok_text (P := l.prog) (w := w) (base := base) (j := 1) D_text.F Z D_take (B_take.mono (by decide))
  have G_text := L2.FnOk.imp (sp' := spD K (dsText 0)) B_text (fun _ _ _ _ h => br_text h)
  have B_number := ok_number (P := l.prog) (w := w) (base := base) (j := 1) D_number.F Z D_take (B_take.mono (by decide))
  have G_number := L2.FnOk.imp (sp' := spD K dsNumber) B_number (fun _ _ _ _ h => br_number h)
  have G_value := okd_value (P := l.prog) (w := w) (base := base) (j := 2) D_value.F Z D_take (G_take.mono (by decide)) D_text (G_text.mono (by decide)) D_number (G_number.mono (by decide))
  have G_form := okd_form (P := l.prog) (w := w) (base := base) (j := 4) D_form D_form_of Z D_take (G_take.mono (by decide)) D_value (G_value.mono (by decide)) 10
  have G_compared := okd_compared (P := l.prog) (w := w) (base := base) (j := 0) D_compared.F Z 
  have G_met := okd_met (P := l.prog) (w := w) (base := base) (j := 3) D_met Z D_compared (G_compared.mono (by decide)) 13
  have G_test := okd_test (P := l.prog) (w := w) (base := base) (j := 5) D_test Z D_value (G_value.mono (by decide)) D_take (G_take.mono (by decide)) 13
  have G_small_rows := okd_small_rows (P := l.prog) (w := w) (base := base) (j := 1) D_small_rows.F Z D_take (G_take.mono (by decide))
  have G_cells := okd_cells (P := l.prog) (w := w) (base := base) (j := 2) D_cells.F Z D_take (G_take.mono (by decide)) D_number (G_number.mono (by decide)) D_text (G_text.mono (by decide))
  have G_rows := okd_rows (P := l.prog) (w := w) (base := base) (j := 3) D_rows.F Z D_take (G_take.mono (by decide)) D_cells (G_cells.mono (by decide))
  have G_kinds := okd_kinds (P := l.prog) (w := w) (base := base) (j := 1) D_kinds.F Z D_take (G_take.mono (by decide))
  have G_table := okd_table (P := l.prog) (w := w) (base := base) (j := 4) D_table.F Z D_small_rows (G_small_rows.mono (by decide)) D_take (G_take.mono (by decide)) D_rows (G_rows.mono (by decide)) D_kinds (G_kinds.mono (by decide))
  exact okd_p_law (j := 24) D_p_law.F Z D_begin (G_begin.mono (by decide)) D_take (G_take.mono (by decide)) D_right (G_right.mono (by decide)) D_formed (G_formed.mono (by decide)) D_many (G_many.mono (by decide)) D_form (G_form.mono (by decide)) D_met (G_met.mono (by decide)) D_test (G_test.mono (by decide)) D_table (G_table.mono (by decide))
theorem walk {l : PySem.W.OpenLaw} {p : Program} {loose : List Str} {XP : (Str → Option Value) → Heap → Prop} {YP : World → Heap → Prop} {d : DefRec} {K : Params → PySem.W.Frag} (hn : l.most = some 63) (hdf : d.params.defaults = [])
    (hY : ∀ (w : World) (h : Heap), YP w h → (K w.params).In h)
    (F : ∀ (w : World) (mg : Str → Option Value) (fa : Addr) (h : Heap), (K w.params).In h → h.Ns mainGlobals mg → mg d.name = some (.ref fa) →
      ∃ fd : FuncData, (∀ (s : Shared) (u : Value), BindsTo s fd ⟨[u], []⟩ [("_law_script", u)]) ∧ ∀ base : Heap, (K w.params).In base → base.Ns mainGlobals mg → FnOk l.prog w (K w.params) mg base CX0 25 fa fd ["_law_script"] (Dd.spLawD (K w.params))) :
    PySem.W.WalkO p loose XP YP l.row.toRowW d [] (fun f vs => PySem.call f vs) :=
  L2.walk_of (n := 63) (k := 25) (x := "_law_script") (CX := fun _ => CX0) (sp := fun w => Dd.spLawD (K w.params)) hn (by decide) hdf ⟨rfl, by decide, by decide, rfl⟩ hY F (fun _ _ a ns hl _ hS => ⟨a, ns, rfl, hS, fun _ => rfl⟩) fun _ _ _ _ _ z => z
end K46
open PySem PySem.W PyProof.Rows
set_option maxRecDepth 100000 in
set_option maxHeartbeats 0 in
theorem PySem.Challenge.cw_pillarstore_k46_tables_tests_and_forms_holds : PySem.Challenge.rw_pillarstore_k46_tables_tests_and_forms.Holds := by
  w_on; o_law; k_head; (case hw => w_witness2)
  k_fill
  refine K46.walk (l := PySem.Challenge.rw_pillarstore_k46_tables_tests_and_forms) rfl rfl (fun w h Y => by first | exact PySem.W.kIn_of Y | exact PySem.W.km_in_of Y) ?F
  case F =>
    intro w mg fa h KX G hmg
    refine' K46.all_mk KX G hmg ?a_take ?l_take ?c_take ?k_take ?a_same ?l_same ?c_same ?k_same ?a_begin ?l_begin ?c_begin ?k_begin ?a_number ?l_number ?c_number ?k_number ?a_text ?l_text ?c_text ?k_text ?a_p_stands_so ?l_p_stands_so ?c_p_stands_so ?k_p_stands_so ?a_p_meets ?l_p_meets ?c_p_meets ?k_p_meets ?a_p_cells_stand_so ?l_p_cells_stand_so ?c_p_cells_stand_so ?k_p_cells_stand_so ?a_p_row_meets ?l_p_row_meets ?c_p_row_meets ?k_p_row_meets ?a_p_sum_cell ?l_p_sum_cell ?c_p_sum_cell ?k_p_sum_cell ?a_p_form_cell ?l_p_form_cell ?c_p_form_cell ?k_p_form_cell ?a_p_rows_of ?l_p_rows_of ?c_p_rows_of ?k_p_rows_of ?a_value ?l_value ?c_value ?k_value ?a_cells ?l_cells ?c_cells ?k_cells ?a_kinds ?l_kinds ?c_kinds ?k_kinds ?a_rows ?l_rows ?c_rows ?k_rows ?a_small_rows ?l_small_rows ?c_small_rows ?k_small_rows ?a_table ?l_table ?c_table ?k_table ?a_test ?l_test ?c_test ?k_test ?a_compared ?l_compared ?c_compared ?k_compared ?a_met ?l_met ?c_met ?k_met ?a_form_of ?l_form_of ?c_form_of ?k_form_of ?a_form ?l_form ?c_form ?k_form ?a_formed ?l_formed ?c_formed ?k_formed ?a_many ?l_many ?c_many ?k_many ?a_right ?l_right ?c_right ?k_right ?a_p_law ?l_p_law ?c_p_law ?k_p_law ?z_divmod ?z_len ?z_isinstance ?z_bool ?z_int ?z_str ?z_tuple ?z_list ?z_all ?z_zip ?z_dict ?z_range ?z_any ?z_max
    (case a_take => k_is); (case l_take => k_is); (case c_take => k_is); (case k_take => k_is); (case a_same => k_is); (case l_same => k_is); (case c_same => k_is); (case k_same => k_is)
    (case a_begin => k_is); (case l_begin => k_is); (case c_begin => k_is); (case k_begin => k_is); (case a_number => k_is); (case l_number => k_is); (case c_number => k_is); (case k_number => k_is)
    (case a_text => k_is); (case l_text => k_is); (case c_text => k_is); (case k_text => k_is); (case a_p_stands_so => k_is); (case l_p_stands_so => k_is); (case c_p_stands_so => k_is); (case k_p_stands_so => k_is)
    (case a_p_meets => k_is); (case l_p_meets => k_is); (case c_p_meets => k_is); (case k_p_meets => k_is); (case a_p_cells_stand_so => k_is); (case l_p_cells_stand_so => k_is); (case c_p_cells_stand_so => k_is); (case k_p_cells_stand_so => k_is)
    (case a_p_row_meets => k_is); (case l_p_row_meets => k_is); (case c_p_row_meets => k_is); (case k_p_row_meets => k_is); (case a_p_sum_cell => k_is); (case l_p_sum_cell => k_is); (case c_p_sum_cell => k_is); (case k_p_sum_cell => k_is)
    (case a_p_form_cell => k_is); (case l_p_form_cell => k_is); (case c_p_form_cell => k_is); (case k_p_form_cell => k_is); (case a_p_rows_of => k_is); (case l_p_rows_of => k_is); (case c_p_rows_of => k_is); (case k_p_rows_of => k_is)
    (case a_value => k_is); (case l_value => k_is); (case c_value => k_is); (case k_value => k_is); (case a_cells => k_is); (case l_cells => k_is); (case c_cells => k_is); (case k_cells => k_is)
    (case a_kinds => k_is); (case l_kinds => k_is); (case c_kinds => k_is); (case k_kinds => k_is); (case a_rows => k_is); (case l_rows => k_is); (case c_rows => k_is); (case k_rows => k_is)
    (case a_small_rows => k_is); (case l_small_rows => k_is); (case c_small_rows => k_is); (case k_small_rows => k_is); (case a_table => k_is); (case l_table => k_is); (case c_table => k_is); (case k_table => k_is)
    (case a_test => k_is); (case l_test => k_is); (case c_test => k_is); (case k_test => k_is); (case a_compared => k_is); (case l_compared => k_is); (case c_compared => k_is); (case k_compared => k_is)
    (case a_met => k_is); (case l_met => k_is); (case c_met => k_is); (case k_met => k_is); (case a_form_of => k_is); (case l_form_of => k_is); (case c_form_of => k_is); (case k_form_of => k_is)
    (case a_form => k_is); (case l_form => k_is); (case c_form => k_is); (case k_form => k_is); (case a_formed => k_is); (case l_formed => k_is); (case c_formed => k_is); (case k_formed => k_is)
    (case a_many => k_is); (case l_many => k_is); (case c_many => k_is); (case k_many => k_is); (case a_right => k_is); (case l_right => k_is); (case c_right => k_is); (case k_right => k_is)
    (case a_p_law => k_is); (case l_p_law => k_is); (case c_p_law => k_is); (case k_p_law => k_is); (case z_divmod => k_is); (case z_len => k_is); (case z_isinstance => k_is); (case z_bool => k_is)
    (case z_int => k_is); (case z_str => k_is); (case z_tuple => k_is); (case z_list => k_is); (case z_all => k_is); (case z_zip => k_is); (case z_dict => k_is); (case z_range => k_is)
    (case z_any => k_is); (case z_max => k_is)
